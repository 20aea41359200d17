/- CONTRACT: expr of the shower, way by way. Nobody but the shower's own blocks has turned. -/
import Derived.Test.YtkahbhfbgdbnfaaGreatDoorZ13
set_option maxRecDepth 100000
set_option maxHeartbeats 1000000
namespace Go.Proofs.YtkahbhfbgdbnfaaGreatDoor
open Go.Lib (hid)
open Go.RowKit
def ShE (sb:Nat) (pl:Nat→Nat) (u:Tree):Prop:=
 ∀ (w':World) (v':Value) (xs':List Tx) (nb:Nat),SH w' sb v' xs'→NodeAt (fun x=>x<sb) pl w' nb u→xs'.length+(zzb u).length+1≤1000000→Calls Tryz.prog 103 #[.pointer (some ⟨sb,0,none⟩),.agg #[.pointer (some ⟨nb,0,none⟩)]] w' (SQ sb v' w' (xs'++zzb u))
theorem sign_txt (op:Int) (w:World) (hS:SignsIn w):Calls Tryz.prog 141 #[.int .i64 op] w fun e w'=>e= .returned (.string ⟨(zqj op).toArray⟩)∧w=w':=sign_any op w hS
theorem pair_shown (w:World) (sb:Nat) (v:Value) (xs:List Tx) (pl:Nat→Nat) (b:Nat) (t:Tree) (sg:Tx) (u0 u1:Tree) (h:SH w sb v xs) (hn:NodeAt (fun x=>x<sb) pl w b t) (hu0:Hid (t.kids[0]? =some u0)) (hu1:Hid (t.kids[1]? =some u1)) (hE:Hid (∀ (k:Nat) (u:Tree),t.kids[k]? =some u→ShE sb pl u)) (hl:xs.length+(([cLB]++zzb u0++ [sg]++zzb u1++ [cRB])).length+1≤1000000):
 Calls Tryz.prog 142 #[.pointer (some ⟨sb,0,none⟩),.agg #[.pointer (some ⟨b,0,none⟩)],.string ⟨sg.toArray⟩] w (SQ sb v w (xs++([cLB]++zzb u0++ [sg]++zzb u1++ [cRB]))):=by
 have H:=hid h
 have hlt:=h.lt
 have HBA:=hid (b1 w (.cells #[.pointer (some ⟨b,0,none⟩)] 25))
 have S0:=hid (SST.refl (h.below (b1 w (.cells #[.pointer (some ⟨b,0,none⟩)] 25))))
 have U:=hid (PtrAt.new w (some ⟨b,0,none⟩))
 have N:=hid (hn.bl (b1 w (.cells #[.pointer (some ⟨b,0,none⟩)] 25)))
 have l0:=U.out.lt
 clear h hn
 have hfo:=zx1
 have hfn:=zzw
 clear hfo hfn
 go_enter Tryz.func142,Tryz.ntmps142
 have U0:=U.out.c0
 have C1:=hid (show ∀ (j:Nat) (y:Tx),([cLB]:List Tx)[j]? =some y→((w.alloc (.cells #[.pointer (some ⟨b,0,none⟩)] 25)).alloc (.cells #[.string ⟨#[40]⟩] 9)).cell? ⟨(w.alloc (.cells #[.pointer (some ⟨b,0,none⟩)] 25)).heap.size,j,none⟩=some (.string ⟨y.toArray⟩) from zzl (w.alloc (.cells #[.pointer (some ⟨b,0,none⟩)] 25)) [cLB])
 rw [show (w.alloc (.cells #[.pointer (some ⟨b,0,none⟩)] 25)).heap.size=w.heap.size+1 by simp] at C1
 have U1:=hid (U.out.below (b1 _ (.cells #[.string ⟨#[40]⟩] 9)))
 have N1:=hid (N.out.bl (b1 _ (.cells #[.string ⟨#[40]⟩] 9)))
 have S1:=hid (S0.out.below (b1 _ (.cells #[.string ⟨#[40]⟩] 9)))
 go_wp2_with fail
 clear U0
 generalize (w.alloc (.cells #[.pointer (some ⟨b,0,none⟩)] 25)).alloc (.cells #[.string ⟨#[40]⟩] 9)=wb at*
 generalize w.alloc (.cells #[.pointer (some ⟨b,0,none⟩)] 25)=wa at*
 clear U N
 have U:=U1
 have N:=N1
 clear U1 N1
 simp only [List.length_append,List.length_cons,List.length_nil] at hl
 refine (zz8 _ sb _ _ (w.heap.size+1) 1 [cLB] S1.out.sh (hid rfl) C1 (by omega) (by omega)).mono ?_
 rintro e w2 ⟨v2,rfl,hs⟩
 clear C1
 have U2:=hid (U.out.sg hs.sg (by omega) (zxd S1.out H.out l0))
 have N2:=hid (N.out.low (hs.sg.low S1.out.sh))
 have S2:=hid (S1.out.trans hs)
 have z2:=hs.sg.size
 clear U N hs
 have U:=U2
 have N:=N2
 clear U2 N2
 have U0:=U.out.c0
 go_wp2_with fail
 clear U0
 obtain ⟨nm,hm,hc⟩:=zkd N.out 0 u0 hu0.out
 refine hc.mono ?_
 rintro e w3 ⟨rfl,hb⟩
 have M:=hid (hm.bl hb)
 have U3:=hid (U.out.below hb)
 have N3:=hid (N.out.bl hb)
 have S3:=hid (S2.out.below hb)
 have z3:=hb.size
 clear U N
 have U:=U3
 have N:=N3
 clear U3 N3
 clear hb hc hm
 go_wp2_with fail
 refine (hE.out 0 u0 hu0.out _ _ _ nm S3.out.sh M.out (by first|omega|(simp only [List.length_append,List.length_cons,List.length_nil];omega)|(simp only [List.length_append,List.length_cons,List.length_nil] at hl ⊢;omega))).mono ?_
 rintro e w4 ⟨v4,rfl,hs⟩
 have U4:=hid (U.out.sg hs.sg (by omega) (zxd S3.out H.out l0))
 have N4:=hid (N.out.low (hs.sg.low S3.out.sh))
 have S4:=hid (S3.out.trans hs)
 have z4:=hs.sg.size
 clear U N hs
 have U:=U4
 have N:=N4
 clear U4 N4
 clear M
 have C5:=hid (show ∀ (j:Nat) (y:Tx),([sg]:List Tx)[j]? =some y→(w4.alloc (.cells #[.string ⟨sg.toArray⟩] 9)).cell? ⟨w4.heap.size,j,none⟩=some (.string ⟨y.toArray⟩) from zzl w4 [sg])
 have U5:=hid (U.out.below (b1 w4 (.cells #[.string ⟨sg.toArray⟩] 9)))
 have N5:=hid (N.out.bl (b1 w4 (.cells #[.string ⟨sg.toArray⟩] 9)))
 have S5:=hid (S4.out.below (b1 w4 (.cells #[.string ⟨sg.toArray⟩] 9)))
 have z5:=(b1 w4 (.cells #[.string ⟨sg.toArray⟩] 9)).size
 clear U N
 have U:=U5
 have N:=N5
 clear U5 N5
 have U0:=U.out.c0
 go_wp2_with fail
 clear U0
 generalize w4.alloc (.cells #[.string ⟨sg.toArray⟩] 9)=wb5 at*
 refine (zz8 _ sb _ _ w4.heap.size 1 [sg] S5.out.sh (hid rfl) C5 (by omega) (by first|omega|(simp only [List.length_append,List.length_cons,List.length_nil];omega)|(simp only [List.length_append,List.length_cons,List.length_nil] at hl ⊢;omega))).mono ?_
 rintro e w6 ⟨v6,rfl,hs⟩
 clear C5
 have U6:=hid (U.out.sg hs.sg (by omega) (zxd S5.out H.out l0))
 have N6:=hid (N.out.low (hs.sg.low S5.out.sh))
 have S6:=hid (S5.out.trans hs)
 have z6:=hs.sg.size
 clear U N hs
 have U:=U6
 have N:=N6
 clear U6 N6
 have U0:=U.out.c0
 go_wp2_with fail
 clear U0
 obtain ⟨nm,hm,hc⟩:=zkd N.out 1 u1 hu1.out
 refine hc.mono ?_
 rintro e w7 ⟨rfl,hb⟩
 have M:=hid (hm.bl hb)
 have U7:=hid (U.out.below hb)
 have N7:=hid (N.out.bl hb)
 have S7:=hid (S6.out.below hb)
 have z7:=hb.size
 clear U N
 have U:=U7
 have N:=N7
 clear U7 N7
 clear hb hc hm
 go_wp2_with fail
 refine (hE.out 1 u1 hu1.out _ _ _ nm S7.out.sh M.out (by first|omega|(simp only [List.length_append,List.length_cons,List.length_nil];omega)|(simp only [List.length_append,List.length_cons,List.length_nil] at hl ⊢;omega))).mono ?_
 rintro e w8 ⟨v8,rfl,hs⟩
 have U8:=hid (U.out.sg hs.sg (by omega) (zxd S7.out H.out l0))
 have N8:=hid (N.out.low (hs.sg.low S7.out.sh))
 have S8:=hid (S7.out.trans hs)
 have z8:=hs.sg.size
 clear U N hs
 have U:=U8
 have N:=N8
 clear U8 N8
 clear M
 have C9:=hid (show ∀ (j:Nat) (y:Tx),([cRB]:List Tx)[j]? =some y→(w8.alloc (.cells #[.string ⟨#[41]⟩] 9)).cell? ⟨w8.heap.size,j,none⟩=some (.string ⟨y.toArray⟩) from zzl w8 [cRB])
 have U9:=hid (U.out.below (b1 w8 (.cells #[.string ⟨#[41]⟩] 9)))
 have N9:=hid (N.out.bl (b1 w8 (.cells #[.string ⟨#[41]⟩] 9)))
 have S9:=hid (S8.out.below (b1 w8 (.cells #[.string ⟨#[41]⟩] 9)))
 have z9:=(b1 w8 (.cells #[.string ⟨#[41]⟩] 9)).size
 clear U N
 have U:=U9
 have N:=N9
 clear U9 N9
 have U0:=U.out.c0
 go_wp2_with fail
 clear U0
 generalize w8.alloc (.cells #[.string ⟨#[41]⟩] 9)=wb9 at*
 refine (zz8 _ sb _ _ w8.heap.size 1 [cRB] S9.out.sh (hid rfl) C9 (by omega) (by first|omega|(simp only [List.length_append,List.length_cons,List.length_nil];omega)|(simp only [List.length_append,List.length_cons,List.length_nil] at hl ⊢;omega))).mono ?_
 rintro e w10 ⟨v10,rfl,hs⟩
 clear C9
 have U10:=hid (U.out.sg hs.sg (by omega) (zxd S9.out H.out l0))
 have N10:=hid (N.out.low (hs.sg.low S9.out.sh))
 have S10:=hid (S9.out.trans hs)
 have z10:=hs.sg.size
 clear U N hs
 have U:=U10
 have N:=N10
 clear U10 N10
 go_wp2_with fail
 first|refine bodyPost_end (v:= .tuple #[]) (by simp [results,Tryz.results142,go_sem]) rfl ?_ |refine bodyPost_ret (v:= .tuple #[]) (by simp [results,Tryz.results142,go_sem]) rfl ?_
 have hfin:=((SST.refl H.out).below HBA.out).trans S10.out
 have hx:xs++([cLB]++zzb u0++ [sg]++zzb u1++ [cRB])=(((((xs++ [cLB])++zzb u0)++ [sg])++zzb u1)++ [cRB]):=by simp [List.append_assoc]
 first|exact ⟨_,rfl,hfin.cast hx.symm⟩|exact ⟨_,rfl,hfin.cast (by simp [List.append_assoc])⟩
theorem expr_15 (w:World) (sb:Nat) (v:Value) (xs:List Tx) (pl:Nat→Nat) (b:Nat) (t:Tree) (h:SH w sb v xs) (hn:NodeAt (fun x=>x<sb) pl w b t) (hop:t.op=15) (hn0:0≤t.n) (hn1:t.n≤9223372036854775807) (hl:xs.length+([zjm t.n]).length+1≤1000000):
 Calls Tryz.prog 103 #[.pointer (some ⟨sb,0,none⟩),.agg #[.pointer (some ⟨b,0,none⟩)]] w (SQ sb v w (xs++ [zjm t.n])):=by
 have H:=hid h
 have hlt:=h.lt
 have HBA:=hid (b1 w (.cells #[.pointer (some ⟨b,0,none⟩)] 25))
 have S0:=hid (SST.refl (h.below (b1 w (.cells #[.pointer (some ⟨b,0,none⟩)] 25))))
 have U:=hid (PtrAt.new w (some ⟨b,0,none⟩))
 have N:=hid (hn.bl (b1 w (.cells #[.pointer (some ⟨b,0,none⟩)] 25)))
 have l0:=U.out.lt
 clear h hn
 have hfo:=zx1
 have hfn:=zzw
 clear hfo hfn
 go_enter Tryz.func103,Tryz.ntmps103
 have U0:=U.out.c0
 go_wp2_with fail
 clear U0
 generalize w.alloc (.cells #[.pointer (some ⟨b,0,none⟩)] 25)=wa at*
 obtain ⟨Ao,co,hro⟩:=N.out.rowOf
 refine (zkq _ _ _ _ _ _ _ _ _ _ hro).mono ?_
 rintro e w1 ⟨rfl,hb⟩
 clear hro
 have U1:=hid (U.out.below hb)
 have N1:=hid (N.out.bl hb)
 have S1:=hid (S0.out.below hb)
 have z1:=hb.size
 clear U N
 have U:=U1
 have N:=N1
 clear U1 N1
 clear hb
 simp only [List.length_cons,List.length_nil] at hl
 have U0:=U.out.c0
 go_wp2_with fail
 clear U0
 obtain ⟨Ao,co,hro⟩:=N.out.rowOf
 refine (n_of _ _ _ _ _ _ _ _ _ _ hro).mono ?_
 rintro e w2 ⟨rfl,hb⟩
 clear hro
 have U2:=hid (U.out.below hb)
 have N2:=hid (N.out.bl hb)
 have S2:=hid (S1.out.below hb)
 have z2:=hb.size
 clear U N
 have U:=U2
 have N:=N2
 clear U2 N2
 clear hb
 go_wp2_with fail
 refine (text_any t.n _ S2.out.sh.pow (by omega) (by omega)).mono ?_
 rintro e w3 ⟨rfl,hb⟩
 have U3:=hid (U.out.below hb)
 have N3:=hid (N.out.bl hb)
 have S3:=hid (S2.out.below hb)
 have z3:=hb.size
 clear U N
 have U:=U3
 have N:=N3
 clear U3 N3
 clear hb
 have C4:=hid (show ∀ (j:Nat) (y:Tx),([zjm t.n]:List Tx)[j]? =some y→(w3.alloc (.cells #[.string ⟨(zjm t.n).toArray⟩] 9)).cell? ⟨w3.heap.size,j,none⟩=some (.string ⟨y.toArray⟩) from zzl w3 [zjm t.n])
 have U4:=hid (U.out.below (b1 w3 (.cells #[.string ⟨(zjm t.n).toArray⟩] 9)))
 have N4:=hid (N.out.bl (b1 w3 (.cells #[.string ⟨(zjm t.n).toArray⟩] 9)))
 have S4:=hid (S3.out.below (b1 w3 (.cells #[.string ⟨(zjm t.n).toArray⟩] 9)))
 have z4:=(b1 w3 (.cells #[.string ⟨(zjm t.n).toArray⟩] 9)).size
 clear U N
 have U:=U4
 have N:=N4
 clear U4 N4
 have U0:=U.out.c0
 go_wp2_with fail
 clear U0
 generalize w3.alloc (.cells #[.string ⟨(zjm t.n).toArray⟩] 9)=wb4 at*
 refine (zz8 _ sb _ _ w3.heap.size 1 [zjm t.n] S4.out.sh (hid rfl) C4 (by omega) (by first|omega|(simp only [List.length_append,List.length_cons,List.length_nil];omega)|(simp only [List.length_append,List.length_cons,List.length_nil] at hl ⊢;omega))).mono ?_
 rintro e w5 ⟨v5,rfl,hs⟩
 clear C4
 have U5:=hid (U.out.sg hs.sg (by omega) (zxd S4.out H.out l0))
 have N5:=hid (N.out.low (hs.sg.low S4.out.sh))
 have S5:=hid (S4.out.trans hs)
 have z5:=hs.sg.size
 clear U N hs
 have U:=U5
 have N:=N5
 clear U5 N5
 go_wp2_with fail
 first|refine bodyPost_end (v:= .tuple #[]) (by simp [results,Tryz.results103,go_sem]) rfl ?_ |refine bodyPost_ret (v:= .tuple #[]) (by simp [results,Tryz.results103,go_sem]) rfl ?_
 have hfin:=((SST.refl H.out).below HBA.out).trans S5.out
 have hx:xs++ [zjm t.n]=(xs++ [zjm t.n]):=by simp
 first|exact ⟨_,rfl,hfin.cast hx.symm⟩|exact ⟨_,rfl,hfin.cast (by simp [List.append_assoc])⟩
theorem expr_16 (w:World) (sb:Nat) (v:Value) (xs:List Tx) (pl:Nat→Nat) (b:Nat) (t:Tree) (h:SH w sb v xs) (hn:NodeAt (fun x=>x<sb) pl w b t) (hop:t.op=16) (hl:xs.length+([z0b t.n]).length+1≤1000000):
 Calls Tryz.prog 103 #[.pointer (some ⟨sb,0,none⟩),.agg #[.pointer (some ⟨b,0,none⟩)]] w (SQ sb v w (xs++ [z0b t.n])):=by
 have H:=hid h
 have hlt:=h.lt
 have HBA:=hid (b1 w (.cells #[.pointer (some ⟨b,0,none⟩)] 25))
 have S0:=hid (SST.refl (h.below (b1 w (.cells #[.pointer (some ⟨b,0,none⟩)] 25))))
 have U:=hid (PtrAt.new w (some ⟨b,0,none⟩))
 have N:=hid (hn.bl (b1 w (.cells #[.pointer (some ⟨b,0,none⟩)] 25)))
 have l0:=U.out.lt
 clear h hn
 have hfo:=zx1
 have hfn:=zzw
 clear hfo hfn
 go_enter Tryz.func103,Tryz.ntmps103
 have U0:=U.out.c0
 go_wp2_with fail
 clear U0
 generalize w.alloc (.cells #[.pointer (some ⟨b,0,none⟩)] 25)=wa at*
 obtain ⟨Ao,co,hro⟩:=N.out.rowOf
 refine (zkq _ _ _ _ _ _ _ _ _ _ hro).mono ?_
 rintro e w1 ⟨rfl,hb⟩
 clear hro
 have U1:=hid (U.out.below hb)
 have N1:=hid (N.out.bl hb)
 have S1:=hid (S0.out.below hb)
 have z1:=hb.size
 clear U N
 have U:=U1
 have N:=N1
 clear U1 N1
 clear hb
 simp only [List.length_cons,List.length_nil] at hl
 have U0:=U.out.c0
 go_wp2_with fail
 clear U0
 refine (truth_any _ sb _ _ pl b t S1.out.sh N.out (by first|omega|(simp only [List.length_cons,List.length_nil];omega)|(simp only [List.length_append,List.length_cons,List.length_nil] at hl ⊢;omega))).mono ?_
 rintro e w2 ⟨v2,rfl,hs⟩
 have U2:=hid (U.out.sg hs.sg (by omega) (zxd S1.out H.out l0))
 have N2:=hid (N.out.low (hs.sg.low S1.out.sh))
 have S2:=hid (S1.out.trans hs)
 have z2:=hs.sg.size
 clear U N hs
 have U:=U2
 have N:=N2
 clear U2 N2
 go_wp2_with fail
 first|refine bodyPost_end (v:= .tuple #[]) (by simp [results,Tryz.results103,go_sem]) rfl ?_ |refine bodyPost_ret (v:= .tuple #[]) (by simp [results,Tryz.results103,go_sem]) rfl ?_
 have hfin:=((SST.refl H.out).below HBA.out).trans S2.out
 have hx:xs++ [z0b t.n]=(xs++ [z0b t.n]):=by simp
 first|exact ⟨_,rfl,hfin.cast hx.symm⟩|exact ⟨_,rfl,hfin.cast (by simp [List.append_assoc])⟩
theorem expr_17 (w:World) (sb:Nat) (v:Value) (xs:List Tx) (pl:Nat→Nat) (b:Nat) (t:Tree) (h:SH w sb v xs) (hn:NodeAt (fun x=>x<sb) pl w b t) (hop:t.op=17) (hl:xs.length+([kNil]).length+1≤1000000):
 Calls Tryz.prog 103 #[.pointer (some ⟨sb,0,none⟩),.agg #[.pointer (some ⟨b,0,none⟩)]] w (SQ sb v w (xs++ [kNil])):=by
 have H:=hid h
 have hlt:=h.lt
 have HBA:=hid (b1 w (.cells #[.pointer (some ⟨b,0,none⟩)] 25))
 have S0:=hid (SST.refl (h.below (b1 w (.cells #[.pointer (some ⟨b,0,none⟩)] 25))))
 have U:=hid (PtrAt.new w (some ⟨b,0,none⟩))
 have N:=hid (hn.bl (b1 w (.cells #[.pointer (some ⟨b,0,none⟩)] 25)))
 have l0:=U.out.lt
 clear h hn
 have hfo:=zx1
 have hfn:=zzw
 clear hfo hfn
 go_enter Tryz.func103,Tryz.ntmps103
 have U0:=U.out.c0
 go_wp2_with fail
 clear U0
 generalize w.alloc (.cells #[.pointer (some ⟨b,0,none⟩)] 25)=wa at*
 obtain ⟨Ao,co,hro⟩:=N.out.rowOf
 refine (zkq _ _ _ _ _ _ _ _ _ _ hro).mono ?_
 rintro e w1 ⟨rfl,hb⟩
 clear hro
 have U1:=hid (U.out.below hb)
 have N1:=hid (N.out.bl hb)
 have S1:=hid (S0.out.below hb)
 have z1:=hb.size
 clear U N
 have U:=U1
 have N:=N1
 clear U1 N1
 clear hb
 simp only [List.length_cons,List.length_nil] at hl
 have C2:=hid (show ∀ (j:Nat) (y:Tx),([kNil]:List Tx)[j]? =some y→(w1.alloc (.cells #[.string ⟨#[110,105,108]⟩] 9)).cell? ⟨w1.heap.size,j,none⟩=some (.string ⟨y.toArray⟩) from zzl w1 [kNil])
 have U2:=hid (U.out.below (b1 w1 (.cells #[.string ⟨#[110,105,108]⟩] 9)))
 have N2:=hid (N.out.bl (b1 w1 (.cells #[.string ⟨#[110,105,108]⟩] 9)))
 have S2:=hid (S1.out.below (b1 w1 (.cells #[.string ⟨#[110,105,108]⟩] 9)))
 have z2:=(b1 w1 (.cells #[.string ⟨#[110,105,108]⟩] 9)).size
 clear U N
 have U:=U2
 have N:=N2
 clear U2 N2
 have U0:=U.out.c0
 go_wp2_with fail
 clear U0
 generalize w1.alloc (.cells #[.string ⟨#[110,105,108]⟩] 9)=wb2 at*
 refine (zz8 _ sb _ _ w1.heap.size 1 [kNil] S2.out.sh (hid rfl) C2 (by omega) (by first|omega|(simp only [List.length_append,List.length_cons,List.length_nil];omega)|(simp only [List.length_append,List.length_cons,List.length_nil] at hl ⊢;omega))).mono ?_
 rintro e w3 ⟨v3,rfl,hs⟩
 clear C2
 have U3:=hid (U.out.sg hs.sg (by omega) (zxd S2.out H.out l0))
 have N3:=hid (N.out.low (hs.sg.low S2.out.sh))
 have S3:=hid (S2.out.trans hs)
 have z3:=hs.sg.size
 clear U N hs
 have U:=U3
 have N:=N3
 clear U3 N3
 go_wp2_with fail
 first|refine bodyPost_end (v:= .tuple #[]) (by simp [results,Tryz.results103,go_sem]) rfl ?_ |refine bodyPost_ret (v:= .tuple #[]) (by simp [results,Tryz.results103,go_sem]) rfl ?_
 have hfin:=((SST.refl H.out).below HBA.out).trans S3.out
 have hx:xs++ [kNil]=(xs++ [kNil]):=by simp
 first|exact ⟨_,rfl,hfin.cast hx.symm⟩|exact ⟨_,rfl,hfin.cast (by simp [List.append_assoc])⟩
theorem expr_18 (w:World) (sb:Nat) (v:Value) (xs:List Tx) (pl:Nat→Nat) (b:Nat) (t:Tree) (h:SH w sb v xs) (hn:NodeAt (fun x=>x<sb) pl w b t) (hop:t.op=18) (hl:xs.length+([t.name]).length+1≤1000000):
 Calls Tryz.prog 103 #[.pointer (some ⟨sb,0,none⟩),.agg #[.pointer (some ⟨b,0,none⟩)]] w (SQ sb v w (xs++ [t.name])):=by
 have H:=hid h
 have hlt:=h.lt
 have HBA:=hid (b1 w (.cells #[.pointer (some ⟨b,0,none⟩)] 25))
 have S0:=hid (SST.refl (h.below (b1 w (.cells #[.pointer (some ⟨b,0,none⟩)] 25))))
 have U:=hid (PtrAt.new w (some ⟨b,0,none⟩))
 have N:=hid (hn.bl (b1 w (.cells #[.pointer (some ⟨b,0,none⟩)] 25)))
 have l0:=U.out.lt
 clear h hn
 have hfo:=zx1
 have hfn:=zzw
 clear hfo hfn
 go_enter Tryz.func103,Tryz.ntmps103
 have U0:=U.out.c0
 go_wp2_with fail
 clear U0
 generalize w.alloc (.cells #[.pointer (some ⟨b,0,none⟩)] 25)=wa at*
 obtain ⟨Ao,co,hro⟩:=N.out.rowOf
 refine (zkq _ _ _ _ _ _ _ _ _ _ hro).mono ?_
 rintro e w1 ⟨rfl,hb⟩
 clear hro
 have U1:=hid (U.out.below hb)
 have N1:=hid (N.out.bl hb)
 have S1:=hid (S0.out.below hb)
 have z1:=hb.size
 clear U N
 have U:=U1
 have N:=N1
 clear U1 N1
 clear hb
 simp only [List.length_cons,List.length_nil] at hl
 have U0:=U.out.c0
 go_wp2_with fail
 clear U0
 obtain ⟨Ao,co,hro⟩:=N.out.rowOf
 refine (zjr _ _ _ _ _ _ _ _ _ _ hro).mono ?_
 rintro e w2 ⟨rfl,hb⟩
 clear hro
 have U2:=hid (U.out.below hb)
 have N2:=hid (N.out.bl hb)
 have S2:=hid (S1.out.below hb)
 have z2:=hb.size
 clear U N
 have U:=U2
 have N:=N2
 clear U2 N2
 clear hb
 have C3:=hid (show ∀ (j:Nat) (y:Tx),([t.name]:List Tx)[j]? =some y→(w2.alloc (.cells #[.string ⟨t.name.toArray⟩] 9)).cell? ⟨w2.heap.size,j,none⟩=some (.string ⟨y.toArray⟩) from zzl w2 [t.name])
 have U3:=hid (U.out.below (b1 w2 (.cells #[.string ⟨t.name.toArray⟩] 9)))
 have N3:=hid (N.out.bl (b1 w2 (.cells #[.string ⟨t.name.toArray⟩] 9)))
 have S3:=hid (S2.out.below (b1 w2 (.cells #[.string ⟨t.name.toArray⟩] 9)))
 have z3:=(b1 w2 (.cells #[.string ⟨t.name.toArray⟩] 9)).size
 clear U N
 have U:=U3
 have N:=N3
 clear U3 N3
 have U0:=U.out.c0
 go_wp2_with fail
 clear U0
 generalize w2.alloc (.cells #[.string ⟨t.name.toArray⟩] 9)=wb3 at*
 refine (zz8 _ sb _ _ w2.heap.size 1 [t.name] S3.out.sh (hid rfl) C3 (by omega) (by first|omega|(simp only [List.length_append,List.length_cons,List.length_nil];omega)|(simp only [List.length_append,List.length_cons,List.length_nil] at hl ⊢;omega))).mono ?_
 rintro e w4 ⟨v4,rfl,hs⟩
 clear C3
 have U4:=hid (U.out.sg hs.sg (by omega) (zxd S3.out H.out l0))
 have N4:=hid (N.out.low (hs.sg.low S3.out.sh))
 have S4:=hid (S3.out.trans hs)
 have z4:=hs.sg.size
 clear U N hs
 have U:=U4
 have N:=N4
 clear U4 N4
 go_wp2_with fail
 first|refine bodyPost_end (v:= .tuple #[]) (by simp [results,Tryz.results103,go_sem]) rfl ?_ |refine bodyPost_ret (v:= .tuple #[]) (by simp [results,Tryz.results103,go_sem]) rfl ?_
 have hfin:=((SST.refl H.out).below HBA.out).trans S4.out
 have hx:xs++ [t.name]=(xs++ [t.name]):=by simp
 first|exact ⟨_,rfl,hfin.cast hx.symm⟩|exact ⟨_,rfl,hfin.cast (by simp [List.append_assoc])⟩
theorem expr_19 (w:World) (sb:Nat) (v:Value) (xs:List Tx) (pl:Nat→Nat) (b:Nat) (t:Tree) (h:SH w sb v xs) (hn:NodeAt (fun x=>x<sb) pl w b t) (hop:t.op=19) (hl:xs.length+([kNew,cLB,t.name,cRB]).length+1≤1000000):
 Calls Tryz.prog 103 #[.pointer (some ⟨sb,0,none⟩),.agg #[.pointer (some ⟨b,0,none⟩)]] w (SQ sb v w (xs++ [kNew,cLB,t.name,cRB])):=by
 have H:=hid h
 have hlt:=h.lt
 have HBA:=hid (b1 w (.cells #[.pointer (some ⟨b,0,none⟩)] 25))
 have S0:=hid (SST.refl (h.below (b1 w (.cells #[.pointer (some ⟨b,0,none⟩)] 25))))
 have U:=hid (PtrAt.new w (some ⟨b,0,none⟩))
 have N:=hid (hn.bl (b1 w (.cells #[.pointer (some ⟨b,0,none⟩)] 25)))
 have l0:=U.out.lt
 clear h hn
 have hfo:=zx1
 have hfn:=zzw
 clear hfo hfn
 go_enter Tryz.func103,Tryz.ntmps103
 have U0:=U.out.c0
 go_wp2_with fail
 clear U0
 generalize w.alloc (.cells #[.pointer (some ⟨b,0,none⟩)] 25)=wa at*
 obtain ⟨Ao,co,hro⟩:=N.out.rowOf
 refine (zkq _ _ _ _ _ _ _ _ _ _ hro).mono ?_
 rintro e w1 ⟨rfl,hb⟩
 clear hro
 have U1:=hid (U.out.below hb)
 have N1:=hid (N.out.bl hb)
 have S1:=hid (S0.out.below hb)
 have z1:=hb.size
 clear U N
 have U:=U1
 have N:=N1
 clear U1 N1
 clear hb
 simp only [List.length_cons,List.length_nil] at hl
 have U0:=U.out.c0
 go_wp2_with fail
 clear U0
 obtain ⟨Ao,co,hro⟩:=N.out.rowOf
 refine (zjr _ _ _ _ _ _ _ _ _ _ hro).mono ?_
 rintro e w2 ⟨rfl,hb⟩
 clear hro
 have U2:=hid (U.out.below hb)
 have N2:=hid (N.out.bl hb)
 have S2:=hid (S1.out.below hb)
 have z2:=hb.size
 clear U N
 have U:=U2
 have N:=N2
 clear U2 N2
 clear hb
 have C3:=hid (show ∀ (j:Nat) (y:Tx),([kNew,cLB,t.name,cRB]:List Tx)[j]? =some y→(w2.alloc (.cells #[.string ⟨#[110,101,119]⟩,.string ⟨#[40]⟩,.string ⟨t.name.toArray⟩,.string ⟨#[41]⟩] 9)).cell? ⟨w2.heap.size,j,none⟩=some (.string ⟨y.toArray⟩) from zzl w2 [kNew,cLB,t.name,cRB])
 have U3:=hid (U.out.below (b1 w2 (.cells #[.string ⟨#[110,101,119]⟩,.string ⟨#[40]⟩,.string ⟨t.name.toArray⟩,.string ⟨#[41]⟩] 9)))
 have N3:=hid (N.out.bl (b1 w2 (.cells #[.string ⟨#[110,101,119]⟩,.string ⟨#[40]⟩,.string ⟨t.name.toArray⟩,.string ⟨#[41]⟩] 9)))
 have S3:=hid (S2.out.below (b1 w2 (.cells #[.string ⟨#[110,101,119]⟩,.string ⟨#[40]⟩,.string ⟨t.name.toArray⟩,.string ⟨#[41]⟩] 9)))
 have z3:=(b1 w2 (.cells #[.string ⟨#[110,101,119]⟩,.string ⟨#[40]⟩,.string ⟨t.name.toArray⟩,.string ⟨#[41]⟩] 9)).size
 clear U N
 have U:=U3
 have N:=N3
 clear U3 N3
 have U0:=U.out.c0
 go_wp2_with fail
 clear U0
 generalize w2.alloc (.cells #[.string ⟨#[110,101,119]⟩,.string ⟨#[40]⟩,.string ⟨t.name.toArray⟩,.string ⟨#[41]⟩] 9)=wb3 at*
 refine (zz8 _ sb _ _ w2.heap.size 4 [kNew,cLB,t.name,cRB] S3.out.sh (hid rfl) C3 (by omega) (by first|omega|(simp only [List.length_append,List.length_cons,List.length_nil];omega)|(simp only [List.length_append,List.length_cons,List.length_nil] at hl ⊢;omega))).mono ?_
 rintro e w4 ⟨v4,rfl,hs⟩
 clear C3
 have U4:=hid (U.out.sg hs.sg (by omega) (zxd S3.out H.out l0))
 have N4:=hid (N.out.low (hs.sg.low S3.out.sh))
 have S4:=hid (S3.out.trans hs)
 have z4:=hs.sg.size
 clear U N hs
 have U:=U4
 have N:=N4
 clear U4 N4
 go_wp2_with fail
 first|refine bodyPost_end (v:= .tuple #[]) (by simp [results,Tryz.results103,go_sem]) rfl ?_ |refine bodyPost_ret (v:= .tuple #[]) (by simp [results,Tryz.results103,go_sem]) rfl ?_
 have hfin:=((SST.refl H.out).below HBA.out).trans S4.out
 have hx:xs++ [kNew,cLB,t.name,cRB]=(xs++ [kNew,cLB,t.name,cRB]):=by simp
 first|exact ⟨_,rfl,hfin.cast hx.symm⟩|exact ⟨_,rfl,hfin.cast (by simp [List.append_assoc])⟩
theorem expr_20 (w:World) (sb:Nat) (v:Value) (xs:List Tx) (pl:Nat→Nat) (b:Nat) (t:Tree) (u0:Tree) (h:SH w sb v xs) (hn:NodeAt (fun x=>x<sb) pl w b t) (hop:t.op=20) (hu0:Hid (t.kids[0]? =some u0)) (hE:Hid (∀ (k:Nat) (u:Tree),t.kids[k]? =some u→ShE sb pl u)) (hl:xs.length+((zzb u0++ [cDot,t.name])).length+1≤1000000):
 Calls Tryz.prog 103 #[.pointer (some ⟨sb,0,none⟩),.agg #[.pointer (some ⟨b,0,none⟩)]] w (SQ sb v w (xs++(zzb u0++ [cDot,t.name]))):=by
 have H:=hid h
 have hlt:=h.lt
 have HBA:=hid (b1 w (.cells #[.pointer (some ⟨b,0,none⟩)] 25))
 have S0:=hid (SST.refl (h.below (b1 w (.cells #[.pointer (some ⟨b,0,none⟩)] 25))))
 have U:=hid (PtrAt.new w (some ⟨b,0,none⟩))
 have N:=hid (hn.bl (b1 w (.cells #[.pointer (some ⟨b,0,none⟩)] 25)))
 have l0:=U.out.lt
 clear h hn
 have hfo:=zx1
 have hfn:=zzw
 clear hfo hfn
 go_enter Tryz.func103,Tryz.ntmps103
 have U0:=U.out.c0
 go_wp2_with fail
 clear U0
 generalize w.alloc (.cells #[.pointer (some ⟨b,0,none⟩)] 25)=wa at*
 obtain ⟨Ao,co,hro⟩:=N.out.rowOf
 refine (zkq _ _ _ _ _ _ _ _ _ _ hro).mono ?_
 rintro e w1 ⟨rfl,hb⟩
 clear hro
 have U1:=hid (U.out.below hb)
 have N1:=hid (N.out.bl hb)
 have S1:=hid (S0.out.below hb)
 have z1:=hb.size
 clear U N
 have U:=U1
 have N:=N1
 clear U1 N1
 clear hb
 simp only [List.length_append,List.length_cons,List.length_nil] at hl
 have U0:=U.out.c0
 go_wp2_with fail
 clear U0
 obtain ⟨nm,hm,hc⟩:=zkd N.out 0 u0 hu0.out
 refine hc.mono ?_
 rintro e w2 ⟨rfl,hb⟩
 have M:=hid (hm.bl hb)
 have U2:=hid (U.out.below hb)
 have N2:=hid (N.out.bl hb)
 have S2:=hid (S1.out.below hb)
 have z2:=hb.size
 clear U N
 have U:=U2
 have N:=N2
 clear U2 N2
 clear hb hc hm
 go_wp2_with fail
 refine (hE.out 0 u0 hu0.out _ _ _ nm S2.out.sh M.out (by first|omega|(simp only [List.length_append,List.length_cons,List.length_nil];omega)|(simp only [List.length_append,List.length_cons,List.length_nil] at hl ⊢;omega))).mono ?_
 rintro e w3 ⟨v3,rfl,hs⟩
 have U3:=hid (U.out.sg hs.sg (by omega) (zxd S2.out H.out l0))
 have N3:=hid (N.out.low (hs.sg.low S2.out.sh))
 have S3:=hid (S2.out.trans hs)
 have z3:=hs.sg.size
 clear U N hs
 have U:=U3
 have N:=N3
 clear U3 N3
 clear M
 have U0:=U.out.c0
 go_wp2_with fail
 clear U0
 obtain ⟨Ao,co,hro⟩:=N.out.rowOf
 refine (zjr _ _ _ _ _ _ _ _ _ _ hro).mono ?_
 rintro e w4 ⟨rfl,hb⟩
 clear hro
 have U4:=hid (U.out.below hb)
 have N4:=hid (N.out.bl hb)
 have S4:=hid (S3.out.below hb)
 have z4:=hb.size
 clear U N
 have U:=U4
 have N:=N4
 clear U4 N4
 clear hb
 have C5:=hid (show ∀ (j:Nat) (y:Tx),([cDot,t.name]:List Tx)[j]? =some y→(w4.alloc (.cells #[.string ⟨#[46]⟩,.string ⟨t.name.toArray⟩] 9)).cell? ⟨w4.heap.size,j,none⟩=some (.string ⟨y.toArray⟩) from zzl w4 [cDot,t.name])
 have U5:=hid (U.out.below (b1 w4 (.cells #[.string ⟨#[46]⟩,.string ⟨t.name.toArray⟩] 9)))
 have N5:=hid (N.out.bl (b1 w4 (.cells #[.string ⟨#[46]⟩,.string ⟨t.name.toArray⟩] 9)))
 have S5:=hid (S4.out.below (b1 w4 (.cells #[.string ⟨#[46]⟩,.string ⟨t.name.toArray⟩] 9)))
 have z5:=(b1 w4 (.cells #[.string ⟨#[46]⟩,.string ⟨t.name.toArray⟩] 9)).size
 clear U N
 have U:=U5
 have N:=N5
 clear U5 N5
 have U0:=U.out.c0
 go_wp2_with fail
 clear U0
 generalize w4.alloc (.cells #[.string ⟨#[46]⟩,.string ⟨t.name.toArray⟩] 9)=wb5 at*
 refine (zz8 _ sb _ _ w4.heap.size 2 [cDot,t.name] S5.out.sh (hid rfl) C5 (by omega) (by first|omega|(simp only [List.length_append];omega)|(simp only [List.length_append,List.length_cons,List.length_nil] at hl ⊢;omega))).mono ?_
 rintro e w6 ⟨v6,rfl,hs⟩
 clear C5
 have U6:=hid (U.out.sg hs.sg (by omega) (zxd S5.out H.out l0))
 have N6:=hid (N.out.low (hs.sg.low S5.out.sh))
 have S6:=hid (S5.out.trans hs)
 have z6:=hs.sg.size
 clear U N hs
 have U:=U6
 have N:=N6
 clear U6 N6
 go_wp2_with fail
 first|refine bodyPost_end (v:= .tuple #[]) (by simp [results,Tryz.results103,go_sem]) rfl ?_ |refine bodyPost_ret (v:= .tuple #[]) (by simp [results,Tryz.results103,go_sem]) rfl ?_
 have hfin:=((SST.refl H.out).below HBA.out).trans S6.out
 have hx:xs++(zzb u0++ [cDot,t.name])=((xs++zzb u0)++ [cDot,t.name]):=by simp [List.append_assoc]
 first|exact ⟨_,rfl,hfin.cast hx.symm⟩|exact ⟨_,rfl,hfin.cast (by simp [List.append_assoc])⟩
theorem expr_22 (w:World) (sb:Nat) (v:Value) (xs:List Tx) (pl:Nat→Nat) (b:Nat) (t:Tree) (h:SH w sb v xs) (hn:NodeAt (fun x=>x<sb) pl w b t) (hop:t.op=22) (hl:xs.length+([z1n,cLB,cRB]).length+1≤1000000):
 Calls Tryz.prog 103 #[.pointer (some ⟨sb,0,none⟩),.agg #[.pointer (some ⟨b,0,none⟩)]] w (SQ sb v w (xs++ [z1n,cLB,cRB])):=by
 have H:=hid h
 have hlt:=h.lt
 have HBA:=hid (b1 w (.cells #[.pointer (some ⟨b,0,none⟩)] 25))
 have S0:=hid (SST.refl (h.below (b1 w (.cells #[.pointer (some ⟨b,0,none⟩)] 25))))
 have U:=hid (PtrAt.new w (some ⟨b,0,none⟩))
 have N:=hid (hn.bl (b1 w (.cells #[.pointer (some ⟨b,0,none⟩)] 25)))
 have l0:=U.out.lt
 clear h hn
 have hfo:=zx1
 have hfn:=zzw
 clear hfo hfn
 go_enter Tryz.func103,Tryz.ntmps103
 have U0:=U.out.c0
 go_wp2_with fail
 clear U0
 generalize w.alloc (.cells #[.pointer (some ⟨b,0,none⟩)] 25)=wa at*
 obtain ⟨Ao,co,hro⟩:=N.out.rowOf
 refine (zkq _ _ _ _ _ _ _ _ _ _ hro).mono ?_
 rintro e w1 ⟨rfl,hb⟩
 clear hro
 have U1:=hid (U.out.below hb)
 have N1:=hid (N.out.bl hb)
 have S1:=hid (S0.out.below hb)
 have z1:=hb.size
 clear U N
 have U:=U1
 have N:=N1
 clear U1 N1
 clear hb
 simp only [List.length_cons,List.length_nil] at hl
 have C2:=hid (show ∀ (j:Nat) (y:Tx),([z1n,cLB,cRB]:List Tx)[j]? =some y→(w1.alloc (.cells #[.string ⟨#[114,101,97,100]⟩,.string ⟨#[40]⟩,.string ⟨#[41]⟩] 9)).cell? ⟨w1.heap.size,j,none⟩=some (.string ⟨y.toArray⟩) from zzl w1 [z1n,cLB,cRB])
 have U2:=hid (U.out.below (b1 w1 (.cells #[.string ⟨#[114,101,97,100]⟩,.string ⟨#[40]⟩,.string ⟨#[41]⟩] 9)))
 have N2:=hid (N.out.bl (b1 w1 (.cells #[.string ⟨#[114,101,97,100]⟩,.string ⟨#[40]⟩,.string ⟨#[41]⟩] 9)))
 have S2:=hid (S1.out.below (b1 w1 (.cells #[.string ⟨#[114,101,97,100]⟩,.string ⟨#[40]⟩,.string ⟨#[41]⟩] 9)))
 have z2:=(b1 w1 (.cells #[.string ⟨#[114,101,97,100]⟩,.string ⟨#[40]⟩,.string ⟨#[41]⟩] 9)).size
 clear U N
 have U:=U2
 have N:=N2
 clear U2 N2
 have U0:=U.out.c0
 go_wp2_with fail
 clear U0
 generalize w1.alloc (.cells #[.string ⟨#[114,101,97,100]⟩,.string ⟨#[40]⟩,.string ⟨#[41]⟩] 9)=wb2 at*
 refine (zz8 _ sb _ _ w1.heap.size 3 [z1n,cLB,cRB] S2.out.sh (hid rfl) C2 (by omega) (by first|omega|(simp only [List.length_append,List.length_cons,List.length_nil];omega)|(simp only [List.length_append,List.length_cons,List.length_nil] at hl ⊢;omega))).mono ?_
 rintro e w3 ⟨v3,rfl,hs⟩
 clear C2
 have U3:=hid (U.out.sg hs.sg (by omega) (zxd S2.out H.out l0))
 have N3:=hid (N.out.low (hs.sg.low S2.out.sh))
 have S3:=hid (S2.out.trans hs)
 have z3:=hs.sg.size
 clear U N hs
 have U:=U3
 have N:=N3
 clear U3 N3
 go_wp2_with fail
 first|refine bodyPost_end (v:= .tuple #[]) (by simp [results,Tryz.results103,go_sem]) rfl ?_ |refine bodyPost_ret (v:= .tuple #[]) (by simp [results,Tryz.results103,go_sem]) rfl ?_
 have hfin:=((SST.refl H.out).below HBA.out).trans S3.out
 have hx:xs++ [z1n,cLB,cRB]=(xs++ [z1n,cLB,cRB]):=by simp
 first|exact ⟨_,rfl,hfin.cast hx.symm⟩|exact ⟨_,rfl,hfin.cast (by simp [List.append_assoc])⟩
theorem expr_23 (w:World) (sb:Nat) (v:Value) (xs:List Tx) (pl:Nat→Nat) (b:Nat) (t:Tree) (u0:Tree) (h:SH w sb v xs) (hn:NodeAt (fun x=>x<sb) pl w b t) (hop:t.op=23) (hu0:Hid (t.kids[0]? =some u0)) (hE:Hid (∀ (k:Nat) (u:Tree),t.kids[k]? =some u→ShE sb pl u)) (hl:xs.length+(([cLB,zqj t.n]++zzb u0++ [cRB])).length+1≤1000000):
 Calls Tryz.prog 103 #[.pointer (some ⟨sb,0,none⟩),.agg #[.pointer (some ⟨b,0,none⟩)]] w (SQ sb v w (xs++([cLB,zqj t.n]++zzb u0++ [cRB]))):=by
 have H:=hid h
 have hlt:=h.lt
 have HBA:=hid (b1 w (.cells #[.pointer (some ⟨b,0,none⟩)] 25))
 have S0:=hid (SST.refl (h.below (b1 w (.cells #[.pointer (some ⟨b,0,none⟩)] 25))))
 have U:=hid (PtrAt.new w (some ⟨b,0,none⟩))
 have N:=hid (hn.bl (b1 w (.cells #[.pointer (some ⟨b,0,none⟩)] 25)))
 have l0:=U.out.lt
 clear h hn
 have hfo:=zx1
 have hfn:=zzw
 clear hfo hfn
 go_enter Tryz.func103,Tryz.ntmps103
 have U0:=U.out.c0
 go_wp2_with fail
 clear U0
 generalize w.alloc (.cells #[.pointer (some ⟨b,0,none⟩)] 25)=wa at*
 obtain ⟨Ao,co,hro⟩:=N.out.rowOf
 refine (zkq _ _ _ _ _ _ _ _ _ _ hro).mono ?_
 rintro e w1 ⟨rfl,hb⟩
 clear hro
 have U1:=hid (U.out.below hb)
 have N1:=hid (N.out.bl hb)
 have S1:=hid (S0.out.below hb)
 have z1:=hb.size
 clear U N
 have U:=U1
 have N:=N1
 clear U1 N1
 clear hb
 simp only [List.length_append,List.length_cons,List.length_nil] at hl
 have U0:=U.out.c0
 go_wp2_with fail
 clear U0
 obtain ⟨Ao,co,hro⟩:=N.out.rowOf
 refine (n_of _ _ _ _ _ _ _ _ _ _ hro).mono ?_
 rintro e w2 ⟨rfl,hb⟩
 clear hro
 have U2:=hid (U.out.below hb)
 have N2:=hid (N.out.bl hb)
 have S2:=hid (S1.out.below hb)
 have z2:=hb.size
 clear U N
 have U:=U2
 have N:=N2
 clear U2 N2
 clear hb
 go_wp2_with fail
 refine (sign_txt t.n _ S2.out.sh.good.signs).mono ?_
 rintro e w' ⟨rfl,rfl⟩
 have C3:=hid (show ∀ (j:Nat) (y:Tx),([cLB,zqj t.n]:List Tx)[j]? =some y→(w2.alloc (.cells #[.string ⟨#[40]⟩,.string ⟨(zqj t.n).toArray⟩] 9)).cell? ⟨w2.heap.size,j,none⟩=some (.string ⟨y.toArray⟩) from zzl w2 [cLB,zqj t.n])
 have U3:=hid (U.out.below (b1 w2 (.cells #[.string ⟨#[40]⟩,.string ⟨(zqj t.n).toArray⟩] 9)))
 have N3:=hid (N.out.bl (b1 w2 (.cells #[.string ⟨#[40]⟩,.string ⟨(zqj t.n).toArray⟩] 9)))
 have S3:=hid (S2.out.below (b1 w2 (.cells #[.string ⟨#[40]⟩,.string ⟨(zqj t.n).toArray⟩] 9)))
 have z3:=(b1 w2 (.cells #[.string ⟨#[40]⟩,.string ⟨(zqj t.n).toArray⟩] 9)).size
 clear U N
 have U:=U3
 have N:=N3
 clear U3 N3
 have U0:=U.out.c0
 go_wp2_with fail
 clear U0
 generalize w2.alloc (.cells #[.string ⟨#[40]⟩,.string ⟨(zqj t.n).toArray⟩] 9)=wb3 at*
 refine (zz8 _ sb _ _ w2.heap.size 2 [cLB,zqj t.n] S3.out.sh (hid rfl) C3 (by omega) (by first|omega|(simp only [List.length_append,List.length_cons,List.length_nil];omega)|(simp only [List.length_append,List.length_cons,List.length_nil] at hl ⊢;omega))).mono ?_
 rintro e w4 ⟨v4,rfl,hs⟩
 clear C3
 have U4:=hid (U.out.sg hs.sg (by omega) (zxd S3.out H.out l0))
 have N4:=hid (N.out.low (hs.sg.low S3.out.sh))
 have S4:=hid (S3.out.trans hs)
 have z4:=hs.sg.size
 clear U N hs
 have U:=U4
 have N:=N4
 clear U4 N4
 have U0:=U.out.c0
 go_wp2_with fail
 clear U0
 obtain ⟨nm,hm,hc⟩:=zkd N.out 0 u0 hu0.out
 refine hc.mono ?_
 rintro e w5 ⟨rfl,hb⟩
 have M:=hid (hm.bl hb)
 have U5:=hid (U.out.below hb)
 have N5:=hid (N.out.bl hb)
 have S5:=hid (S4.out.below hb)
 have z5:=hb.size
 clear U N
 have U:=U5
 have N:=N5
 clear U5 N5
 clear hb hc hm
 go_wp2_with fail
 refine (hE.out 0 u0 hu0.out _ _ _ nm S5.out.sh M.out (by first|omega|(simp only [List.length_append,List.length_cons,List.length_nil];omega)|(simp only [List.length_append,List.length_cons,List.length_nil] at hl ⊢;omega))).mono ?_
 rintro e w6 ⟨v6,rfl,hs⟩
 have U6:=hid (U.out.sg hs.sg (by omega) (zxd S5.out H.out l0))
 have N6:=hid (N.out.low (hs.sg.low S5.out.sh))
 have S6:=hid (S5.out.trans hs)
 have z6:=hs.sg.size
 clear U N hs
 have U:=U6
 have N:=N6
 clear U6 N6
 clear M
 have C7:=hid (show ∀ (j:Nat) (y:Tx),([cRB]:List Tx)[j]? =some y→(w6.alloc (.cells #[.string ⟨#[41]⟩] 9)).cell? ⟨w6.heap.size,j,none⟩=some (.string ⟨y.toArray⟩) from zzl w6 [cRB])
 have U7:=hid (U.out.below (b1 w6 (.cells #[.string ⟨#[41]⟩] 9)))
 have N7:=hid (N.out.bl (b1 w6 (.cells #[.string ⟨#[41]⟩] 9)))
 have S7:=hid (S6.out.below (b1 w6 (.cells #[.string ⟨#[41]⟩] 9)))
 have z7:=(b1 w6 (.cells #[.string ⟨#[41]⟩] 9)).size
 clear U N
 have U:=U7
 have N:=N7
 clear U7 N7
 have U0:=U.out.c0
 go_wp2_with fail
 clear U0
 generalize w6.alloc (.cells #[.string ⟨#[41]⟩] 9)=wb7 at*
 refine (zz8 _ sb _ _ w6.heap.size 1 [cRB] S7.out.sh (hid rfl) C7 (by omega) (by first|omega|(simp only [List.length_append,List.length_cons,List.length_nil];omega)|(simp only [List.length_append,List.length_cons,List.length_nil] at hl ⊢;omega))).mono ?_
 rintro e w8 ⟨v8,rfl,hs⟩
 clear C7
 have U8:=hid (U.out.sg hs.sg (by omega) (zxd S7.out H.out l0))
 have N8:=hid (N.out.low (hs.sg.low S7.out.sh))
 have S8:=hid (S7.out.trans hs)
 have z8:=hs.sg.size
 clear U N hs
 have U:=U8
 have N:=N8
 clear U8 N8
 go_wp2_with fail
 first|refine bodyPost_end (v:= .tuple #[]) (by simp [results,Tryz.results103,go_sem]) rfl ?_ |refine bodyPost_ret (v:= .tuple #[]) (by simp [results,Tryz.results103,go_sem]) rfl ?_
 have hfin:=((SST.refl H.out).below HBA.out).trans S8.out
 have hx:xs++([cLB,zqj t.n]++zzb u0++ [cRB])=(((xs++ [cLB,zqj t.n])++zzb u0)++ [cRB]):=by simp [List.append_assoc]
 first|exact ⟨_,rfl,hfin.cast hx.symm⟩|exact ⟨_,rfl,hfin.cast (by simp [List.append_assoc])⟩
theorem expr_25 (w:World) (sb:Nat) (v:Value) (xs:List Tx) (pl:Nat→Nat) (b:Nat) (t:Tree) (u0 u1:Tree) (h:SH w sb v xs) (hn:NodeAt (fun x=>x<sb) pl w b t) (hop:t.op=25) (hu0:Hid (t.kids[0]? =some u0)) (hu1:Hid (t.kids[1]? =some u1)) (hE:Hid (∀ (k:Nat) (u:Tree),t.kids[k]? =some u→ShE sb pl u)) (hl:xs.length+(([cLB]++zzb u0++ [cAnd]++zzb u1++ [cRB])).length+1≤1000000):
 Calls Tryz.prog 103 #[.pointer (some ⟨sb,0,none⟩),.agg #[.pointer (some ⟨b,0,none⟩)]] w (SQ sb v w (xs++([cLB]++zzb u0++ [cAnd]++zzb u1++ [cRB]))):=by
 have H:=hid h
 have hlt:=h.lt
 have HBA:=hid (b1 w (.cells #[.pointer (some ⟨b,0,none⟩)] 25))
 have S0:=hid (SST.refl (h.below (b1 w (.cells #[.pointer (some ⟨b,0,none⟩)] 25))))
 have U:=hid (PtrAt.new w (some ⟨b,0,none⟩))
 have N:=hid (hn.bl (b1 w (.cells #[.pointer (some ⟨b,0,none⟩)] 25)))
 have l0:=U.out.lt
 clear h hn
 have hfo:=zx1
 have hfn:=zzw
 clear hfo hfn
 go_enter Tryz.func103,Tryz.ntmps103
 have U0:=U.out.c0
 go_wp2_with fail
 clear U0
 generalize w.alloc (.cells #[.pointer (some ⟨b,0,none⟩)] 25)=wa at*
 obtain ⟨Ao,co,hro⟩:=N.out.rowOf
 refine (zkq _ _ _ _ _ _ _ _ _ _ hro).mono ?_
 rintro e w1 ⟨rfl,hb⟩
 clear hro
 have U1:=hid (U.out.below hb)
 have N1:=hid (N.out.bl hb)
 have S1:=hid (S0.out.below hb)
 have z1:=hb.size
 clear U N
 have U:=U1
 have N:=N1
 clear U1 N1
 clear hb
 simp only [List.length_append,List.length_cons,List.length_nil] at hl
 have U0:=U.out.c0
 go_wp2_with fail
 clear U0
 refine (pair_shown _ sb _ _ pl b t cAnd u0 u1 S1.out.sh N.out hu0 hu1 hE (by first|omega|(simp only [List.length_append,List.length_cons,List.length_nil];omega)|(simp only [List.length_append,List.length_cons,List.length_nil] at hl ⊢;omega))).mono ?_
 rintro e w2 ⟨v2,rfl,hs⟩
 have U2:=hid (U.out.sg hs.sg (by omega) (zxd S1.out H.out l0))
 have N2:=hid (N.out.low (hs.sg.low S1.out.sh))
 have S2:=hid (S1.out.trans hs)
 have z2:=hs.sg.size
 clear U N hs
 have U:=U2
 have N:=N2
 clear U2 N2
 go_wp2_with fail
 first|refine bodyPost_end (v:= .tuple #[]) (by simp [results,Tryz.results103,go_sem]) rfl ?_ |refine bodyPost_ret (v:= .tuple #[]) (by simp [results,Tryz.results103,go_sem]) rfl ?_
 have hfin:=((SST.refl H.out).below HBA.out).trans S2.out
 have hx:xs++([cLB]++zzb u0++ [cAnd]++zzb u1++ [cRB])=(xs++([cLB]++zzb u0++ [cAnd]++zzb u1++ [cRB])):=by simp [List.append_assoc]
 first|exact ⟨_,rfl,hfin.cast hx.symm⟩|exact ⟨_,rfl,hfin.cast (by simp [List.append_assoc])⟩
theorem expr_26 (w:World) (sb:Nat) (v:Value) (xs:List Tx) (pl:Nat→Nat) (b:Nat) (t:Tree) (u0 u1:Tree) (h:SH w sb v xs) (hn:NodeAt (fun x=>x<sb) pl w b t) (hop:t.op=26) (hu0:Hid (t.kids[0]? =some u0)) (hu1:Hid (t.kids[1]? =some u1)) (hE:Hid (∀ (k:Nat) (u:Tree),t.kids[k]? =some u→ShE sb pl u)) (hl:xs.length+(([cLB]++zzb u0++ [cOr]++zzb u1++ [cRB])).length+1≤1000000):
 Calls Tryz.prog 103 #[.pointer (some ⟨sb,0,none⟩),.agg #[.pointer (some ⟨b,0,none⟩)]] w (SQ sb v w (xs++([cLB]++zzb u0++ [cOr]++zzb u1++ [cRB]))):=by
 have H:=hid h
 have hlt:=h.lt
 have HBA:=hid (b1 w (.cells #[.pointer (some ⟨b,0,none⟩)] 25))
 have S0:=hid (SST.refl (h.below (b1 w (.cells #[.pointer (some ⟨b,0,none⟩)] 25))))
 have U:=hid (PtrAt.new w (some ⟨b,0,none⟩))
 have N:=hid (hn.bl (b1 w (.cells #[.pointer (some ⟨b,0,none⟩)] 25)))
 have l0:=U.out.lt
 clear h hn
 have hfo:=zx1
 have hfn:=zzw
 clear hfo hfn
 go_enter Tryz.func103,Tryz.ntmps103
 have U0:=U.out.c0
 go_wp2_with fail
 clear U0
 generalize w.alloc (.cells #[.pointer (some ⟨b,0,none⟩)] 25)=wa at*
 obtain ⟨Ao,co,hro⟩:=N.out.rowOf
 refine (zkq _ _ _ _ _ _ _ _ _ _ hro).mono ?_
 rintro e w1 ⟨rfl,hb⟩
 clear hro
 have U1:=hid (U.out.below hb)
 have N1:=hid (N.out.bl hb)
 have S1:=hid (S0.out.below hb)
 have z1:=hb.size
 clear U N
 have U:=U1
 have N:=N1
 clear U1 N1
 clear hb
 simp only [List.length_append,List.length_cons,List.length_nil] at hl
 have U0:=U.out.c0
 go_wp2_with fail
 clear U0
 refine (pair_shown _ sb _ _ pl b t cOr u0 u1 S1.out.sh N.out hu0 hu1 hE (by first|omega|(simp only [List.length_append,List.length_cons,List.length_nil];omega)|(simp only [List.length_append,List.length_cons,List.length_nil] at hl ⊢;omega))).mono ?_
 rintro e w2 ⟨v2,rfl,hs⟩
 have U2:=hid (U.out.sg hs.sg (by omega) (zxd S1.out H.out l0))
 have N2:=hid (N.out.low (hs.sg.low S1.out.sh))
 have S2:=hid (S1.out.trans hs)
 have z2:=hs.sg.size
 clear U N hs
 have U:=U2
 have N:=N2
 clear U2 N2
 go_wp2_with fail
 first|refine bodyPost_end (v:= .tuple #[]) (by simp [results,Tryz.results103,go_sem]) rfl ?_ |refine bodyPost_ret (v:= .tuple #[]) (by simp [results,Tryz.results103,go_sem]) rfl ?_
 have hfin:=((SST.refl H.out).below HBA.out).trans S2.out
 have hx:xs++([cLB]++zzb u0++ [cOr]++zzb u1++ [cRB])=(xs++([cLB]++zzb u0++ [cOr]++zzb u1++ [cRB])):=by simp [List.append_assoc]
 first|exact ⟨_,rfl,hfin.cast hx.symm⟩|exact ⟨_,rfl,hfin.cast (by simp [List.append_assoc])⟩
theorem expr_else (w:World) (sb:Nat) (v:Value) (xs:List Tx) (pl:Nat→Nat) (b:Nat) (t:Tree) (h:SH w sb v xs) (hn:NodeAt (fun x=>x<sb) pl w b t) (hop:Hid (t.op<15∨26<t.op)) (_:xs.length+(([]:List Tx)).length+1≤1000000):
 Calls Tryz.prog 103 #[.pointer (some ⟨sb,0,none⟩),.agg #[.pointer (some ⟨b,0,none⟩)]] w (SQ sb v w (xs++([]:List Tx))):=by
 have H:=hid h
 have hlt:=h.lt
 have HBA:=hid (b1 w (.cells #[.pointer (some ⟨b,0,none⟩)] 25))
 have S0:=hid (SST.refl (h.below (b1 w (.cells #[.pointer (some ⟨b,0,none⟩)] 25))))
 have U:=hid (PtrAt.new w (some ⟨b,0,none⟩))
 have N:=hid (hn.bl (b1 w (.cells #[.pointer (some ⟨b,0,none⟩)] 25)))
 have l0:=U.out.lt
 clear h hn
 have hfo:=zx1
 have hfn:=zzw
 clear hfo hfn
 go_enter Tryz.func103,Tryz.ntmps103
 have U0:=U.out.c0
 go_wp2_with fail
 clear U0
 generalize w.alloc (.cells #[.pointer (some ⟨b,0,none⟩)] 25)=wa at*
 obtain ⟨Ao,co,hro⟩:=N.out.rowOf
 refine (zkq _ _ _ _ _ _ _ _ _ _ hro).mono ?_
 rintro e w1 ⟨rfl,hb⟩
 clear hro
 have U1:=hid (U.out.below hb)
 have N1:=hid (N.out.bl hb)
 have S1:=hid (S0.out.below hb)
 have z1:=hb.size
 clear U N
 have U:=U1
 have N:=N1
 clear U1 N1
 clear hb
 have e15:((t.op:Int)==15)=false:=by have:=hop.out;simp;omega
 have e16:((t.op:Int)==16)=false:=by have:=hop.out;simp;omega
 have e17:((t.op:Int)==17)=false:=by have:=hop.out;simp;omega
 have e18:((t.op:Int)==18)=false:=by have:=hop.out;simp;omega
 have e19:((t.op:Int)==19)=false:=by have:=hop.out;simp;omega
 have e20:((t.op:Int)==20)=false:=by have:=hop.out;simp;omega
 have e21:((t.op:Int)==21)=false:=by have:=hop.out;simp;omega
 have e22:((t.op:Int)==22)=false:=by have:=hop.out;simp;omega
 have e23:((t.op:Int)==23)=false:=by have:=hop.out;simp;omega
 have e24:((t.op:Int)==24)=false:=by have:=hop.out;simp;omega
 have e25:((t.op:Int)==25)=false:=by have:=hop.out;simp;omega
 have e26:((t.op:Int)==26)=false:=by have:=hop.out;simp;omega
 go_wp2_with fail
 first|refine bodyPost_end (v:= .tuple #[]) (by simp [results,Tryz.results103,go_sem]) rfl ?_ |refine bodyPost_ret (v:= .tuple #[]) (by simp [results,Tryz.results103,go_sem]) rfl ?_
 have hfin:=((SST.refl H.out).below HBA.out).trans S1.out
 have hx:xs++([]:List Tx)=xs:=by simp
 first|exact ⟨_,rfl,hfin.cast hx.symm⟩|exact ⟨_,rfl,hfin.cast (by simp [List.append_assoc])⟩
end Go.Proofs.YtkahbhfbgdbnfaaGreatDoor
