/-
  PROVED: CheckShown answers true at every text, and the text reads as it did: how a source is written plays no part: what a program of at most 4096 bytes is shown as, where that can be parsed, is right just if the program was, declares the same structs and globals and as many functions, and else breaks the same rule; what is right has structs that can be, a main without parameters and result, and keeps the limits. Conditions: the card's own (the listed variables hold what the program's text lays).
-/
import Derived.Test.YtkahbhfbgdbnfaaGreatDoorZ15
import Derived.Test.YtkahbhfbgdbnfaaGreatDoorZ13
import Derived.Test.YtkahbhfbgdbnfaaGreatDoorZ2
import Derived.Deep.RegionHeld3
import Derived.Test.YtkahbhfbgdbnfaaGreatDoorZ9
import Derived.Test.YtkahbhfbgdbnfaaGreatDoorZ11
set_option maxRecDepth 100000
set_option maxHeartbeats 1000000
namespace Go.Proofs.YtkahbhfbgdbnfaaGreatDoor
open Go.Lib (hid)
open Go.RowKit
def zkp (t:Tree):List Tx:= [cLC]++(t.kids.map zzj).flatten++ [cRC]
def ShS (sb:Nat) (pl:Nat→Nat) (u:Tree):Prop:=
 ∀ (w':World) (v':Value) (xs':List Tx) (nb:Nat),SH w' sb v' xs'→NodeAt (fun x=>x<sb) pl w' nb u→xs'.length+(zzj u).length+1≤1000000→Calls Tryz.prog 73 #[.pointer (some ⟨sb,0,none⟩),.agg #[.pointer (some ⟨nb,0,none⟩)]] w' (SQ sb v' w' (xs'++zzj u))
def ShB (sb:Nat) (pl:Nat→Nat) (u:Tree):Prop:=
 ∀ (w':World) (v':Value) (xs':List Tx) (nb:Nat),SH w' sb v' xs'→NodeAt (fun x=>x<sb) pl w' nb u→xs'.length+(zkp u).length+1≤1000000→Calls Tryz.prog 101 #[.pointer (some ⟨sb,0,none⟩),.agg #[.pointer (some ⟨nb,0,none⟩)]] w' (SQ sb v' w' (xs'++zkp u))
theorem take_flat (items:List (List Tx)) (k:Nat) (ys:List Tx) (h:items[k]? =some ys):(items.take (k+1)).flatten=(items.take k).flatten++ys:=by
 have hk:=(List.getElem?_eq_some_iff.1 h).1
 rw [List.take_succ_eq_append_getElem hk,(List.getElem?_eq_some_iff.1 h).2]
 simp
def BlRel (sb:Nat) (v:Value) (w wa:World) (xs:List Tx) (pl:Nat→Nat) (b:Nat) (t:Tree) (hd:List Tx) (items:List (List Tx)) (i:Value) (wr:World):Prop:=
 ∃ (k:Nat) (vr:Value),k≤t.kids.length∧i= .int .i64 k∧Hid (SST sb v wa vr wr (xs++hd++(items.take k).flatten))∧Hid (PtrAt wr w.heap.size (some ⟨b,0,none⟩))∧Hid (NodeAt (fun x=>x<sb) pl wr b t)
theorem zvp (w:World) (sb:Nat) (v:Value) (xs:List Tx) (pl:Nat→Nat) (b:Nat) (t:Tree) (h:SH w sb v xs) (hn:NodeAt (fun x=>x<sb) pl w b t) (hE:ShE sb pl t) (hl:xs.length+((zzb t++ [zzk])).length+1≤1000000):
 Calls Tryz.prog 102 #[.pointer (some ⟨sb,0,none⟩),.agg #[.pointer (some ⟨b,0,none⟩)]] w (SQ sb v w (xs++(zzb t++ [zzk]))):=by
 have HE:=hid hE
 clear hE
 have H:=hid h
 have hlt:=h.lt
 have HBA:=hid (b1 w (.cells #[.pointer (some ⟨b,0,none⟩)] 25))
 have S0:=hid (SST.refl (h.below (b1 w (.cells #[.pointer (some ⟨b,0,none⟩)] 25))))
 have U:=hid (PtrAt.new w (some ⟨b,0,none⟩))
 have N:=hid (hn.bl (b1 w (.cells #[.pointer (some ⟨b,0,none⟩)] 25)))
 have l0:=U.out.lt
 clear h hn
 have hfo:=zx1
 have hfn:=zzw
 clear hfo hfn
 go_enter Tryz.func102,Tryz.ntmps102
 have U0:=U.out.c0
 go_wp2_with fail
 clear U0
 generalize w.alloc (.cells #[.pointer (some ⟨b,0,none⟩)] 25)=wa at*
 simp only [List.length_append,List.length_cons,List.length_nil] at hl
 refine (HE.out _ _ _ b S0.out.sh N.out (by first|omega|(simp only [List.length_append,List.length_cons,List.length_nil];omega)|(simp only [List.length_append,List.length_cons,List.length_nil] at hl ⊢;omega))).mono ?_
 rintro e w1 ⟨v1,rfl,hs⟩
 have U1:=hid (U.out.sg hs.sg (by omega) (zxd S0.out H.out l0))
 have N1:=hid (N.out.low (hs.sg.low S0.out.sh))
 have S1:=hid (S0.out.trans hs)
 have z1:=hs.sg.size
 clear U N hs
 have U:=U1
 have N:=N1
 clear U1 N1
 have C2:=hid (show ∀ (j:Nat) (y:Tx),([zzk]:List Tx)[j]? =some y→(w1.alloc (.cells #[.string ⟨#[59]⟩] 9)).cell? ⟨w1.heap.size,j,none⟩=some (.string ⟨y.toArray⟩) from zzl w1 [zzk])
 have U2:=hid (U.out.below (b1 w1 (.cells #[.string ⟨#[59]⟩] 9)))
 have N2:=hid (N.out.bl (b1 w1 (.cells #[.string ⟨#[59]⟩] 9)))
 have S2:=hid (S1.out.below (b1 w1 (.cells #[.string ⟨#[59]⟩] 9)))
 have z2:=(b1 w1 (.cells #[.string ⟨#[59]⟩] 9)).size
 clear U N
 have U:=U2
 have N:=N2
 clear U2 N2
 have U0:=U.out.c0
 go_wp2_with fail
 clear U0
 generalize w1.alloc (.cells #[.string ⟨#[59]⟩] 9)=wb2 at*
 refine (zz8 _ sb _ _ w1.heap.size 1 [zzk] S2.out.sh (hid rfl) C2 (by omega) (by first|omega|(simp only [List.length_append];omega)|(simp only [List.length_append,List.length_cons,List.length_nil] at hl ⊢;omega))).mono ?_
 rintro e w3 ⟨v3,rfl,hs⟩
 clear C2
 have U3:=hid (U.out.sg hs.sg (by omega) (zxd S2.out H.out l0))
 have N3:=hid (N.out.low (hs.sg.low S2.out.sh))
 have S3:=hid (S2.out.trans hs)
 have z3:=hs.sg.size
 clear U N hs
 have U:=U3
 have N:=N3
 clear U3 N3
 go_wp2_with fail
 first|refine bodyPost_end (v:= .tuple #[]) (by simp [results,Tryz.results102,go_sem]) rfl ?_ |refine bodyPost_ret (v:= .tuple #[]) (by simp [results,Tryz.results102,go_sem]) rfl ?_
 have hfin:=((SST.refl H.out).below HBA.out).trans S3.out
 have hx:xs++(zzb t++ [zzk])=((xs++zzb t)++ [zzk]):=by simp [List.append_assoc]
 first|exact ⟨_,rfl,hfin.cast hx.symm⟩|exact ⟨_,rfl,hfin.cast (by simp [List.append_assoc])⟩
theorem endWith_zero (w:World) (sb:Nat) (v:Value) (xs:List Tx) (h:SH w sb v xs) (hl:xs.length+1≤1000000):
 Calls Tryz.prog 102 #[.pointer (some ⟨sb,0,none⟩),.agg #[.pointer none]] w (SQ sb v w (xs++ [zzk])):=by
 have H:=hid h
 have hlt:=h.lt
 have HBA:=hid (b1 w (.cells #[.pointer none] 25))
 have S0:=hid (SST.refl (h.below (b1 w (.cells #[.pointer none] 25))))
 have U:=hid (PtrAt.new w none)
 have l0:=U.out.lt
 clear h
 go_enter Tryz.func102,Tryz.ntmps102
 have U0:=U.out.c0
 go_wp2_with fail
 clear U0
 generalize w.alloc (.cells #[.pointer none] 25)=wa at*
 refine (expr_zero _ sb _ _ S0.out.sh).mono ?_
 rintro e w1 ⟨v1,rfl,hs⟩
 have S1:=hid (S0.out.trans hs)
 clear hs
 have C2:=hid (show ∀ (j:Nat) (y:Tx),([zzk]:List Tx)[j]? =some y→(w1.alloc (.cells #[.string ⟨#[59]⟩] 9)).cell? ⟨w1.heap.size,j,none⟩=some (.string ⟨y.toArray⟩) from zzl w1 [zzk])
 have S2:=hid (S1.out.below (b1 w1 (.cells #[.string ⟨#[59]⟩] 9)))
 go_wp2_with fail
 generalize w1.alloc (.cells #[.string ⟨#[59]⟩] 9)=wb2 at*
 refine (zz8 _ sb _ _ w1.heap.size 1 [zzk] S2.out.sh (hid rfl) C2 (by omega) (by omega)).mono ?_
 rintro e w3 ⟨v3,rfl,hs⟩
 have S3:=hid (S2.out.trans hs)
 clear hs C2
 go_wp2_with fail
 refine bodyPost_end (v:= .tuple #[]) (by simp [results,Tryz.results102,go_sem]) rfl ?_
 exact ⟨_,rfl,((SST.refl H.out).below HBA.out).trans S3.out⟩
theorem blockS_any (w:World) (sb:Nat) (v:Value) (xs:List Tx) (pl:Nat→Nat) (b:Nat) (t:Tree) (h:SH w sb v xs) (hn:NodeAt (fun x=>x<sb) pl w b t) (hS:Hid (∀ (k:Nat) (u:Tree),t.kids[k]? =some u→ShS sb pl u)) (hk6:t.kids.length≤1000000) (hl:xs.length+((zkp t)).length+1≤1000000):
 Calls Tryz.prog 101 #[.pointer (some ⟨sb,0,none⟩),.agg #[.pointer (some ⟨b,0,none⟩)]] w (SQ sb v w (xs++(zkp t))):=by
 have H:=hid h
 have hlt:=h.lt
 have HBA:=hid (b1 w (.cells #[.pointer (some ⟨b,0,none⟩)] 25))
 have S0:=hid (SST.refl (h.below (b1 w (.cells #[.pointer (some ⟨b,0,none⟩)] 25))))
 have U:=hid (PtrAt.new w (some ⟨b,0,none⟩))
 have N:=hid (hn.bl (b1 w (.cells #[.pointer (some ⟨b,0,none⟩)] 25)))
 have l0:=U.out.lt
 clear h hn
 have hfo:=zx1
 have hfn:=zzw
 clear hfo hfn
 go_enter Tryz.func101,Tryz.ntmps101
 unfold zkp at hl
 simp only [List.length_append,List.length_cons,List.length_nil] at hl
 have U0:=U.out.c0
 have C1:=hid (show ∀ (j:Nat) (y:Tx),([cLC]:List Tx)[j]? =some y→((w.alloc (.cells #[.pointer (some ⟨b,0,none⟩)] 25)).alloc (.cells #[.string ⟨#[123]⟩] 9)).cell? ⟨(w.alloc (.cells #[.pointer (some ⟨b,0,none⟩)] 25)).heap.size,j,none⟩=some (.string ⟨y.toArray⟩) from zzl (w.alloc (.cells #[.pointer (some ⟨b,0,none⟩)] 25)) [cLC])
 rw [show (w.alloc (.cells #[.pointer (some ⟨b,0,none⟩)] 25)).heap.size=w.heap.size+1 by simp] at C1
 have U1:=hid (U.out.below (b1 _ (.cells #[.string ⟨#[123]⟩] 9)))
 have N1:=hid (N.out.bl (b1 _ (.cells #[.string ⟨#[123]⟩] 9)))
 have S1:=hid (S0.out.below (b1 _ (.cells #[.string ⟨#[123]⟩] 9)))
 go_wp2_with fail
 clear U0
 generalize (w.alloc (.cells #[.pointer (some ⟨b,0,none⟩)] 25)).alloc (.cells #[.string ⟨#[123]⟩] 9)=wb at*
 generalize w.alloc (.cells #[.pointer (some ⟨b,0,none⟩)] 25)=wa at*
 clear U N
 have U:=U1
 have N:=N1
 clear U1 N1
 refine (zz8 _ sb _ _ (w.heap.size+1) 1 [cLC] S1.out.sh (hid rfl) C1 (by omega) (by omega)).mono ?_
 rintro e w2 ⟨v2,rfl,hs⟩
 clear C1
 have U2:=hid (U.out.sg hs.sg (by omega) (zxd S1.out H.out l0))
 have N2:=hid (N.out.low (hs.sg.low S1.out.sh))
 have S2:=hid (S1.out.trans hs)
 have z2:=hs.sg.size
 clear U N hs
 have U:=U2
 have N:=N2
 clear U2 N2
 have U0:=U.out.c0
 go_wp2_with fail
 clear U0
 obtain ⟨Ao,co,hro⟩:=N.out.rowOf
 refine (zw2 _ _ _ _ _ _ _ _ _ _ hro).mono ?_
 rintro e w3 ⟨rfl,hb⟩
 clear hro
 have U3:=hid (U.out.below hb)
 have N3:=hid (N.out.bl hb)
 have S3:=hid (S2.out.below hb)
 have z3:=hb.size
 clear U N
 have U:=U3
 have N:=N3
 clear U3 N3
 clear hb
 go_wp2_with fail
 go_loopw [10] (fun i wr=>BlRel sb v w wa xs pl b t [cLC] (t.kids.map zzj) i wr) (fun i _=>t.kids.length - (intOf i).toNat)
 case atStart=>exact ⟨0,_,Nat.zero_le _,rfl,by show SST _ _ _ _ _ _;simpa using S3.out,U,N⟩
 case round=>
  obtain ⟨k,vr,hk,rfl,S,U,N⟩:=hrel
  by_cases hlt:k<t.kids.length
  ·skip
   obtain ⟨u,hu⟩:=zx4 hlt
   have hy:(t.kids.map zzj)[k]? =some (zzj u):=by rw [List.getElem?_map,hu];rfl
   have HU:=hid hu
   have HCT:=hid (take_flat _ k _ hy)
   have hfl:=z0y _ k _ hy
   clear hu hy
   have hki:(k:Int)<(t.kids.length:Int):=by omega
   try simp only [List.length_append,List.length_cons,List.length_nil] at hfl
   have U0:=U.out.c0
   go_wp2_with fail
   clear U0
   obtain ⟨nm,hm,hc⟩:=zkd N.out k u HU.out
   refine hc.mono ?_
   rintro e w4 ⟨rfl,hb⟩
   have M:=hid (hm.bl hb)
   have U4:=hid (U.out.below hb)
   have N4:=hid (N.out.bl hb)
   have S4:=hid (S.out.below hb)
   have z4:=hb.size
   clear U N
   have U:=U4
   have N:=N4
   clear U4 N4
   clear hb hc hm
   go_wp2_with fail
   refine (hS.out k u HU.out _ _ _ nm S4.out.sh M.out (by first|omega|(simp only [List.length_append,List.length_cons,List.length_nil];omega)|(simp only [List.length_append,List.length_cons,List.length_nil] at hl ⊢;omega))).mono ?_
   rintro e w5 ⟨v5,rfl,hs⟩
   have U5:=hid (U.out.sg hs.sg (by omega) (zxd S4.out H.out l0))
   have N5:=hid (N.out.low (hs.sg.low S4.out.sh))
   have S5:=hid (S4.out.trans hs)
   have z5:=hs.sg.size
   clear U N hs
   have U:=U5
   have N:=N5
   clear U5 N5
   clear M
   go_wp2_with fail
   go_roundw
   case rel=>exact ⟨k+1,_,by omega,by go_num,by show SST _ _ _ _ _ _;have h9:=S5.out;rw [HCT.out];simpa [List.append_assoc] using h9,U,N⟩
   case measure=>simp [intOf];omega
  ·skip
   obtain rfl:k=t.kids.length:=by omega
   have htk:((t.kids.map zzj)).take t.kids.length=(t.kids.map zzj):=List.take_of_length_le (by rw [List.length_map];exact Nat.le_refl _)
   rw [htk] at S
   clear htk
   have C7:=hid (show ∀ (j:Nat) (y:Tx),([cRC]:List Tx)[j]? =some y→(wr.alloc (.cells #[.string ⟨#[125]⟩] 9)).cell? ⟨wr.heap.size,j,none⟩=some (.string ⟨y.toArray⟩) from zzl wr [cRC])
   have U7:=hid (U.out.below (b1 wr (.cells #[.string ⟨#[125]⟩] 9)))
   have N7:=hid (N.out.bl (b1 wr (.cells #[.string ⟨#[125]⟩] 9)))
   have S7:=hid (S.out.below (b1 wr (.cells #[.string ⟨#[125]⟩] 9)))
   have z7:=(b1 wr (.cells #[.string ⟨#[125]⟩] 9)).size
   clear U N
   have U:=U7
   have N:=N7
   clear U7 N7
   have U0:=U.out.c0
   go_wp2_with fail
   clear U0
   generalize wr.alloc (.cells #[.string ⟨#[125]⟩] 9)=wb7 at*
   refine (zz8 _ sb _ _ wr.heap.size 1 [cRC] S7.out.sh (hid rfl) C7 (by omega) (by first|omega|(simp only [List.length_append,List.length_cons,List.length_nil];omega)|(simp only [List.length_append,List.length_cons,List.length_nil] at hl ⊢;omega))).mono ?_
   rintro e w8 ⟨v8,rfl,hs⟩
   clear C7
   have U8:=hid (U.out.sg hs.sg (by omega) (zxd S7.out H.out l0))
   have N8:=hid (N.out.low (hs.sg.low S7.out.sh))
   have S8:=hid (S7.out.trans hs)
   have z8:=hs.sg.size
   clear U N hs
   have U:=U8
   have N:=N8
   clear U8 N8
   go_wp2_with fail
   first|refine bodyPost_end (v:= .tuple #[]) (by simp [results,Tryz.results101,go_sem]) rfl ?_ |refine bodyPost_ret (v:= .tuple #[]) (by simp [results,Tryz.results101,go_sem]) rfl ?_
   have hfin:=((SST.refl H.out).below HBA.out).trans S8.out
   have hx:xs++(zkp t)=((xs++ [cLC]++(t.kids.map zzj).flatten)++ [cRC]):=by unfold zkp;simp [List.append_assoc]
   first|exact ⟨_,rfl,hfin.cast hx.symm⟩|exact ⟨_,rfl,hfin.cast (by simp [List.append_assoc])⟩
theorem branch2 (w:World) (sb:Nat) (v:Value) (xs:List Tx) (pl:Nat→Nat) (b:Nat) (t:Tree) (u0 u1:Tree) (h:SH w sb v xs) (hn:NodeAt (fun x=>x<sb) pl w b t) (hu0:Hid (t.kids[0]? =some u0)) (hu1:Hid (t.kids[1]? =some u1)) (hlen:t.kids.length=2) (hE0:Hid (ShE sb pl u0)) (hB1:Hid (ShB sb pl u1)) (hl:xs.length+(([kIf]++zzb u0++zkp u1)).length+1≤1000000):
 Calls Tryz.prog 104 #[.pointer (some ⟨sb,0,none⟩),.agg #[.pointer (some ⟨b,0,none⟩)]] w (SQ sb v w (xs++([kIf]++zzb u0++zkp u1))):=by
 have H:=hid h
 have hlt:=h.lt
 have HBA:=hid (b1 w (.cells #[.pointer (some ⟨b,0,none⟩)] 25))
 have S0:=hid (SST.refl (h.below (b1 w (.cells #[.pointer (some ⟨b,0,none⟩)] 25))))
 have U:=hid (PtrAt.new w (some ⟨b,0,none⟩))
 have N:=hid (hn.bl (b1 w (.cells #[.pointer (some ⟨b,0,none⟩)] 25)))
 have l0:=U.out.lt
 clear h hn
 have hfo:=zx1
 have hfn:=zzw
 clear hfo hfn
 go_enter Tryz.func104,Tryz.ntmps104
 simp only [List.length_append,List.length_cons,List.length_nil] at hl
 have U0:=U.out.c0
 have C1:=hid (show ∀ (j:Nat) (y:Tx),([kIf]:List Tx)[j]? =some y→((w.alloc (.cells #[.pointer (some ⟨b,0,none⟩)] 25)).alloc (.cells #[.string ⟨#[105,102]⟩] 9)).cell? ⟨(w.alloc (.cells #[.pointer (some ⟨b,0,none⟩)] 25)).heap.size,j,none⟩=some (.string ⟨y.toArray⟩) from zzl (w.alloc (.cells #[.pointer (some ⟨b,0,none⟩)] 25)) [kIf])
 rw [show (w.alloc (.cells #[.pointer (some ⟨b,0,none⟩)] 25)).heap.size=w.heap.size+1 by simp] at C1
 have U1:=hid (U.out.below (b1 _ (.cells #[.string ⟨#[105,102]⟩] 9)))
 have N1:=hid (N.out.bl (b1 _ (.cells #[.string ⟨#[105,102]⟩] 9)))
 have S1:=hid (S0.out.below (b1 _ (.cells #[.string ⟨#[105,102]⟩] 9)))
 go_wp2_with fail
 clear U0
 generalize (w.alloc (.cells #[.pointer (some ⟨b,0,none⟩)] 25)).alloc (.cells #[.string ⟨#[105,102]⟩] 9)=wb at*
 generalize w.alloc (.cells #[.pointer (some ⟨b,0,none⟩)] 25)=wa at*
 clear U N
 have U:=U1
 have N:=N1
 clear U1 N1
 refine (zz8 _ sb _ _ (w.heap.size+1) 1 [kIf] S1.out.sh (hid rfl) C1 (by omega) (by omega)).mono ?_
 rintro e w2 ⟨v2,rfl,hs⟩
 clear C1
 have U2:=hid (U.out.sg hs.sg (by omega) (zxd S1.out H.out l0))
 have N2:=hid (N.out.low (hs.sg.low S1.out.sh))
 have S2:=hid (S1.out.trans hs)
 have z2:=hs.sg.size
 clear U N hs
 have U:=U2
 have N:=N2
 clear U2 N2
 have U0:=U.out.c0
 go_wp2_with fail
 clear U0
 obtain ⟨nm,hm,hc⟩:=zkd N.out 0 u0 hu0.out
 refine hc.mono ?_
 rintro e w3 ⟨rfl,hb⟩
 have M:=hid (hm.bl hb)
 have U3:=hid (U.out.below hb)
 have N3:=hid (N.out.bl hb)
 have S3:=hid (S2.out.below hb)
 have z3:=hb.size
 clear U N
 have U:=U3
 have N:=N3
 clear U3 N3
 clear hb hc hm
 go_wp2_with fail
 refine (hE0.out _ _ _ nm S3.out.sh M.out (by first|omega|(simp only [List.length_append,List.length_cons,List.length_nil];omega)|(simp only [List.length_append,List.length_cons,List.length_nil] at hl ⊢;omega))).mono ?_
 rintro e w4 ⟨v4,rfl,hs⟩
 have U4:=hid (U.out.sg hs.sg (by omega) (zxd S3.out H.out l0))
 have N4:=hid (N.out.low (hs.sg.low S3.out.sh))
 have S4:=hid (S3.out.trans hs)
 have z4:=hs.sg.size
 clear U N hs
 have U:=U4
 have N:=N4
 clear U4 N4
 clear M
 have U0:=U.out.c0
 go_wp2_with fail
 clear U0
 obtain ⟨nm,hm,hc⟩:=zkd N.out 1 u1 hu1.out
 refine hc.mono ?_
 rintro e w5 ⟨rfl,hb⟩
 have M:=hid (hm.bl hb)
 have U5:=hid (U.out.below hb)
 have N5:=hid (N.out.bl hb)
 have S5:=hid (S4.out.below hb)
 have z5:=hb.size
 clear U N
 have U:=U5
 have N:=N5
 clear U5 N5
 clear hb hc hm
 go_wp2_with fail
 refine (hB1.out _ _ _ nm S5.out.sh M.out (by first|omega|(simp only [List.length_append,List.length_cons,List.length_nil];omega)|(simp only [List.length_append,List.length_cons,List.length_nil] at hl ⊢;omega))).mono ?_
 rintro e w6 ⟨v6,rfl,hs⟩
 have U6:=hid (U.out.sg hs.sg (by omega) (zxd S5.out H.out l0))
 have N6:=hid (N.out.low (hs.sg.low S5.out.sh))
 have S6:=hid (S5.out.trans hs)
 have z6:=hs.sg.size
 clear U N hs
 have U:=U6
 have N:=N6
 clear U6 N6
 clear M
 have U0:=U.out.c0
 go_wp2_with fail
 clear U0
 obtain ⟨Ao,co,hro⟩:=N.out.rowOf
 refine (zw2 _ _ _ _ _ _ _ _ _ _ hro).mono ?_
 rintro e w7 ⟨rfl,hb⟩
 clear hro
 have U7:=hid (U.out.below hb)
 have N7:=hid (N.out.bl hb)
 have S7:=hid (S6.out.below hb)
 have z7:=hb.size
 clear U N
 have U:=U7
 have N:=N7
 clear U7 N7
 clear hb
 go_wp2_with fail
 first|refine bodyPost_end (v:= .tuple #[]) (by simp [results,Tryz.results104,go_sem]) rfl ?_ |refine bodyPost_ret (v:= .tuple #[]) (by simp [results,Tryz.results104,go_sem]) rfl ?_
 have hfin:=((SST.refl H.out).below HBA.out).trans S7.out
 have hx:xs++([kIf]++zzb u0++zkp u1)=(((xs++ [kIf])++zzb u0)++zkp u1):=by simp [List.append_assoc]
 first|exact ⟨_,rfl,hfin.cast hx.symm⟩|exact ⟨_,rfl,hfin.cast (by simp [List.append_assoc])⟩
theorem branch3 (w:World) (sb:Nat) (v:Value) (xs:List Tx) (pl:Nat→Nat) (b:Nat) (t:Tree) (u0 u1 u2:Tree) (h:SH w sb v xs) (hn:NodeAt (fun x=>x<sb) pl w b t) (hu0:Hid (t.kids[0]? =some u0)) (hu1:Hid (t.kids[1]? =some u1)) (hu2:Hid (t.kids[2]? =some u2)) (hS2:Hid (ShS sb pl u2)) (hlen:2<t.kids.length) (hE0:Hid (ShE sb pl u0)) (hB1:Hid (ShB sb pl u1)) (hl:xs.length+(([kIf]++zzb u0++zkp u1++([zjd]++zzj u2))).length+1≤1000000):
 Calls Tryz.prog 104 #[.pointer (some ⟨sb,0,none⟩),.agg #[.pointer (some ⟨b,0,none⟩)]] w (SQ sb v w (xs++([kIf]++zzb u0++zkp u1++([zjd]++zzj u2)))):=by
 have H:=hid h
 have hlt:=h.lt
 have HBA:=hid (b1 w (.cells #[.pointer (some ⟨b,0,none⟩)] 25))
 have S0:=hid (SST.refl (h.below (b1 w (.cells #[.pointer (some ⟨b,0,none⟩)] 25))))
 have U:=hid (PtrAt.new w (some ⟨b,0,none⟩))
 have N:=hid (hn.bl (b1 w (.cells #[.pointer (some ⟨b,0,none⟩)] 25)))
 have l0:=U.out.lt
 clear h hn
 have hfo:=zx1
 have hfn:=zzw
 clear hfo hfn
 go_enter Tryz.func104,Tryz.ntmps104
 simp only [List.length_append,List.length_cons,List.length_nil] at hl
 have U0:=U.out.c0
 have C1:=hid (show ∀ (j:Nat) (y:Tx),([kIf]:List Tx)[j]? =some y→((w.alloc (.cells #[.pointer (some ⟨b,0,none⟩)] 25)).alloc (.cells #[.string ⟨#[105,102]⟩] 9)).cell? ⟨(w.alloc (.cells #[.pointer (some ⟨b,0,none⟩)] 25)).heap.size,j,none⟩=some (.string ⟨y.toArray⟩) from zzl (w.alloc (.cells #[.pointer (some ⟨b,0,none⟩)] 25)) [kIf])
 rw [show (w.alloc (.cells #[.pointer (some ⟨b,0,none⟩)] 25)).heap.size=w.heap.size+1 by simp] at C1
 have U1:=hid (U.out.below (b1 _ (.cells #[.string ⟨#[105,102]⟩] 9)))
 have N1:=hid (N.out.bl (b1 _ (.cells #[.string ⟨#[105,102]⟩] 9)))
 have S1:=hid (S0.out.below (b1 _ (.cells #[.string ⟨#[105,102]⟩] 9)))
 go_wp2_with fail
 clear U0
 generalize (w.alloc (.cells #[.pointer (some ⟨b,0,none⟩)] 25)).alloc (.cells #[.string ⟨#[105,102]⟩] 9)=wb at*
 generalize w.alloc (.cells #[.pointer (some ⟨b,0,none⟩)] 25)=wa at*
 clear U N
 have U:=U1
 have N:=N1
 clear U1 N1
 refine (zz8 _ sb _ _ (w.heap.size+1) 1 [kIf] S1.out.sh (hid rfl) C1 (by omega) (by omega)).mono ?_
 rintro e w2 ⟨v2,rfl,hs⟩
 clear C1
 have U2:=hid (U.out.sg hs.sg (by omega) (zxd S1.out H.out l0))
 have N2:=hid (N.out.low (hs.sg.low S1.out.sh))
 have S2:=hid (S1.out.trans hs)
 have z2:=hs.sg.size
 clear U N hs
 have U:=U2
 have N:=N2
 clear U2 N2
 have U0:=U.out.c0
 go_wp2_with fail
 clear U0
 obtain ⟨nm,hm,hc⟩:=zkd N.out 0 u0 hu0.out
 refine hc.mono ?_
 rintro e w3 ⟨rfl,hb⟩
 have M:=hid (hm.bl hb)
 have U3:=hid (U.out.below hb)
 have N3:=hid (N.out.bl hb)
 have S3:=hid (S2.out.below hb)
 have z3:=hb.size
 clear U N
 have U:=U3
 have N:=N3
 clear U3 N3
 clear hb hc hm
 go_wp2_with fail
 refine (hE0.out _ _ _ nm S3.out.sh M.out (by first|omega|(simp only [List.length_append,List.length_cons,List.length_nil];omega)|(simp only [List.length_append,List.length_cons,List.length_nil] at hl ⊢;omega))).mono ?_
 rintro e w4 ⟨v4,rfl,hs⟩
 have U4:=hid (U.out.sg hs.sg (by omega) (zxd S3.out H.out l0))
 have N4:=hid (N.out.low (hs.sg.low S3.out.sh))
 have S4:=hid (S3.out.trans hs)
 have z4:=hs.sg.size
 clear U N hs
 have U:=U4
 have N:=N4
 clear U4 N4
 clear M
 have U0:=U.out.c0
 go_wp2_with fail
 clear U0
 obtain ⟨nm,hm,hc⟩:=zkd N.out 1 u1 hu1.out
 refine hc.mono ?_
 rintro e w5 ⟨rfl,hb⟩
 have M:=hid (hm.bl hb)
 have U5:=hid (U.out.below hb)
 have N5:=hid (N.out.bl hb)
 have S5:=hid (S4.out.below hb)
 have z5:=hb.size
 clear U N
 have U:=U5
 have N:=N5
 clear U5 N5
 clear hb hc hm
 go_wp2_with fail
 refine (hB1.out _ _ _ nm S5.out.sh M.out (by first|omega|(simp only [List.length_append,List.length_cons,List.length_nil];omega)|(simp only [List.length_append,List.length_cons,List.length_nil] at hl ⊢;omega))).mono ?_
 rintro e w6 ⟨v6,rfl,hs⟩
 have U6:=hid (U.out.sg hs.sg (by omega) (zxd S5.out H.out l0))
 have N6:=hid (N.out.low (hs.sg.low S5.out.sh))
 have S6:=hid (S5.out.trans hs)
 have z6:=hs.sg.size
 clear U N hs
 have U:=U6
 have N:=N6
 clear U6 N6
 clear M
 have U0:=U.out.c0
 go_wp2_with fail
 clear U0
 obtain ⟨Ao,co,hro⟩:=N.out.rowOf
 refine (zw2 _ _ _ _ _ _ _ _ _ _ hro).mono ?_
 rintro e w7 ⟨rfl,hb⟩
 clear hro
 have U7:=hid (U.out.below hb)
 have N7:=hid (N.out.bl hb)
 have S7:=hid (S6.out.below hb)
 have z7:=hb.size
 clear U N
 have U:=U7
 have N:=N7
 clear U7 N7
 clear hb
 have hki:(2:Int)<(t.kids.length:Int):=by omega
 have C8:=hid (show ∀ (j:Nat) (y:Tx),([zjd]:List Tx)[j]? =some y→(w7.alloc (.cells #[.string ⟨#[101,108,115,101]⟩] 9)).cell? ⟨w7.heap.size,j,none⟩=some (.string ⟨y.toArray⟩) from zzl w7 [zjd])
 have U8:=hid (U.out.below (b1 w7 (.cells #[.string ⟨#[101,108,115,101]⟩] 9)))
 have N8:=hid (N.out.bl (b1 w7 (.cells #[.string ⟨#[101,108,115,101]⟩] 9)))
 have S8:=hid (S7.out.below (b1 w7 (.cells #[.string ⟨#[101,108,115,101]⟩] 9)))
 have z8:=(b1 w7 (.cells #[.string ⟨#[101,108,115,101]⟩] 9)).size
 clear U N
 have U:=U8
 have N:=N8
 clear U8 N8
 have U0:=U.out.c0
 go_wp2_with fail
 clear U0
 generalize w7.alloc (.cells #[.string ⟨#[101,108,115,101]⟩] 9)=wb8 at*
 refine (zz8 _ sb _ _ w7.heap.size 1 [zjd] S8.out.sh (hid rfl) C8 (by omega) (by first|omega|(simp only [List.length_append,List.length_cons,List.length_nil];omega)|(simp only [List.length_append,List.length_cons,List.length_nil] at hl ⊢;omega))).mono ?_
 rintro e w9 ⟨v9,rfl,hs⟩
 clear C8
 have U9:=hid (U.out.sg hs.sg (by omega) (zxd S8.out H.out l0))
 have N9:=hid (N.out.low (hs.sg.low S8.out.sh))
 have S9:=hid (S8.out.trans hs)
 have z9:=hs.sg.size
 clear U N hs
 have U:=U9
 have N:=N9
 clear U9 N9
 have U0:=U.out.c0
 go_wp2_with fail
 clear U0
 obtain ⟨nm,hm,hc⟩:=zkd N.out 2 u2 hu2.out
 refine hc.mono ?_
 rintro e w10 ⟨rfl,hb⟩
 have M:=hid (hm.bl hb)
 have U10:=hid (U.out.below hb)
 have N10:=hid (N.out.bl hb)
 have S10:=hid (S9.out.below hb)
 have z10:=hb.size
 clear U N
 have U:=U10
 have N:=N10
 clear U10 N10
 clear hb hc hm
 go_wp2_with fail
 refine (hS2.out _ _ _ nm S10.out.sh M.out (by first|omega|(simp only [List.length_append,List.length_cons,List.length_nil];omega)|(simp only [List.length_append,List.length_cons,List.length_nil] at hl ⊢;omega))).mono ?_
 rintro e w11 ⟨v11,rfl,hs⟩
 have U11:=hid (U.out.sg hs.sg (by omega) (zxd S10.out H.out l0))
 have N11:=hid (N.out.low (hs.sg.low S10.out.sh))
 have S11:=hid (S10.out.trans hs)
 have z11:=hs.sg.size
 clear U N hs
 have U:=U11
 have N:=N11
 clear U11 N11
 clear M
 go_wp2_with fail
 first|refine bodyPost_end (v:= .tuple #[]) (by simp [results,Tryz.results104,go_sem]) rfl ?_ |refine bodyPost_ret (v:= .tuple #[]) (by simp [results,Tryz.results104,go_sem]) rfl ?_
 have hfin:=((SST.refl H.out).below HBA.out).trans S11.out
 have hx:xs++([kIf]++zzb u0++zkp u1++([zjd]++zzj u2))=(((((xs++ [kIf])++zzb u0)++zkp u1)++ [zjd])++zzj u2):=by simp [List.append_assoc]
 first|exact ⟨_,rfl,hfin.cast hx.symm⟩|exact ⟨_,rfl,hfin.cast (by simp [List.append_assoc])⟩
theorem stmt_6 (w:World) (sb:Nat) (v:Value) (xs:List Tx) (pl:Nat→Nat) (b:Nat) (t:Tree) (h:SH w sb v xs) (hn:NodeAt (fun x=>x<sb) pl w b t) (hop:t.op=6) (hB:Hid (ShB sb pl t)) (hl:xs.length+((zkp t)).length+1≤1000000):
 Calls Tryz.prog 73 #[.pointer (some ⟨sb,0,none⟩),.agg #[.pointer (some ⟨b,0,none⟩)]] w (SQ sb v w (xs++(zkp t))):=by
 have H:=hid h
 have hlt:=h.lt
 have HBA:=hid (b1 w (.cells #[.pointer (some ⟨b,0,none⟩)] 25))
 have S0:=hid (SST.refl (h.below (b1 w (.cells #[.pointer (some ⟨b,0,none⟩)] 25))))
 have U:=hid (PtrAt.new w (some ⟨b,0,none⟩))
 have N:=hid (hn.bl (b1 w (.cells #[.pointer (some ⟨b,0,none⟩)] 25)))
 have l0:=U.out.lt
 clear h hn
 have hfo:=zx1
 have hfn:=zzw
 clear hfo hfn
 go_enter Tryz.func73,Tryz.ntmps73
 have U0:=U.out.c0
 go_wp2_with fail
 clear U0
 generalize w.alloc (.cells #[.pointer (some ⟨b,0,none⟩)] 25)=wa at*
 obtain ⟨Ao,co,hro⟩:=N.out.rowOf
 refine (zkq _ _ _ _ _ _ _ _ _ _ hro).mono ?_
 rintro e w1 ⟨rfl,hb⟩
 clear hro
 have U1:=hid (U.out.below hb)
 have N1:=hid (N.out.bl hb)
 have S1:=hid (S0.out.below hb)
 have z1:=hb.size
 clear U N
 have U:=U1
 have N:=N1
 clear U1 N1
 clear hb
 have U0:=U.out.c0
 go_wp2_with fail
 clear U0
 refine (hB.out _ _ _ b S1.out.sh N.out hl).mono ?_
 rintro e w2 ⟨v2,rfl,hs⟩
 have U2:=hid (U.out.sg hs.sg (by omega) (zxd S1.out H.out l0))
 have N2:=hid (N.out.low (hs.sg.low S1.out.sh))
 have S2:=hid (S1.out.trans hs)
 have z2:=hs.sg.size
 clear U N hs
 have U:=U2
 have N:=N2
 clear U2 N2
 go_wp2_with fail
 first|refine bodyPost_end (v:= .tuple #[]) (by simp [results,Tryz.results73,go_sem]) rfl ?_ |refine bodyPost_ret (v:= .tuple #[]) (by simp [results,Tryz.results73,go_sem]) rfl ?_
 have hfin:=((SST.refl H.out).below HBA.out).trans S2.out
 have hx:xs++(zkp t)=(xs++zkp t):=by simp
 first|exact ⟨_,rfl,hfin.cast hx.symm⟩|exact ⟨_,rfl,hfin.cast (by simp [List.append_assoc])⟩
theorem stmt_7 (w:World) (sb:Nat) (v:Value) (xs:List Tx) (pl:Nat→Nat) (b:Nat) (t:Tree) (u0:Tree) (h:SH w sb v xs) (hn:NodeAt (fun x=>x<sb) pl w b t) (hop:t.op=7) (hu0:Hid (t.kids[0]? =some u0)) (hE0:Hid (ShE sb pl u0)) (hl:xs.length+(([t.name,cDef]++(zzb u0++ [zzk]))).length+1≤1000000):
 Calls Tryz.prog 73 #[.pointer (some ⟨sb,0,none⟩),.agg #[.pointer (some ⟨b,0,none⟩)]] w (SQ sb v w (xs++([t.name,cDef]++(zzb u0++ [zzk])))):=by
 have H:=hid h
 have hlt:=h.lt
 have HBA:=hid (b1 w (.cells #[.pointer (some ⟨b,0,none⟩)] 25))
 have S0:=hid (SST.refl (h.below (b1 w (.cells #[.pointer (some ⟨b,0,none⟩)] 25))))
 have U:=hid (PtrAt.new w (some ⟨b,0,none⟩))
 have N:=hid (hn.bl (b1 w (.cells #[.pointer (some ⟨b,0,none⟩)] 25)))
 have l0:=U.out.lt
 clear h hn
 have hfo:=zx1
 have hfn:=zzw
 clear hfo hfn
 go_enter Tryz.func73,Tryz.ntmps73
 have U0:=U.out.c0
 go_wp2_with fail
 clear U0
 generalize w.alloc (.cells #[.pointer (some ⟨b,0,none⟩)] 25)=wa at*
 obtain ⟨Ao,co,hro⟩:=N.out.rowOf
 refine (zkq _ _ _ _ _ _ _ _ _ _ hro).mono ?_
 rintro e w1 ⟨rfl,hb⟩
 clear hro
 have U1:=hid (U.out.below hb)
 have N1:=hid (N.out.bl hb)
 have S1:=hid (S0.out.below hb)
 have z1:=hb.size
 clear U N
 have U:=U1
 have N:=N1
 clear U1 N1
 clear hb
 simp only [List.length_append,List.length_cons,List.length_nil] at hl
 have U0:=U.out.c0
 go_wp2_with fail
 clear U0
 obtain ⟨Ao,co,hro⟩:=N.out.rowOf
 refine (zjr _ _ _ _ _ _ _ _ _ _ hro).mono ?_
 rintro e w2 ⟨rfl,hb⟩
 clear hro
 have U2:=hid (U.out.below hb)
 have N2:=hid (N.out.bl hb)
 have S2:=hid (S1.out.below hb)
 have z2:=hb.size
 clear U N
 have U:=U2
 have N:=N2
 clear U2 N2
 clear hb
 have C3:=hid (show ∀ (j:Nat) (y:Tx),([t.name,cDef]:List Tx)[j]? =some y→(w2.alloc (.cells #[.string ⟨t.name.toArray⟩,.string ⟨#[58,61]⟩] 9)).cell? ⟨w2.heap.size,j,none⟩=some (.string ⟨y.toArray⟩) from zzl w2 [t.name,cDef])
 have U3:=hid (U.out.below (b1 w2 (.cells #[.string ⟨t.name.toArray⟩,.string ⟨#[58,61]⟩] 9)))
 have N3:=hid (N.out.bl (b1 w2 (.cells #[.string ⟨t.name.toArray⟩,.string ⟨#[58,61]⟩] 9)))
 have S3:=hid (S2.out.below (b1 w2 (.cells #[.string ⟨t.name.toArray⟩,.string ⟨#[58,61]⟩] 9)))
 have z3:=(b1 w2 (.cells #[.string ⟨t.name.toArray⟩,.string ⟨#[58,61]⟩] 9)).size
 clear U N
 have U:=U3
 have N:=N3
 clear U3 N3
 have U0:=U.out.c0
 go_wp2_with fail
 clear U0
 generalize w2.alloc (.cells #[.string ⟨t.name.toArray⟩,.string ⟨#[58,61]⟩] 9)=wb3 at*
 refine (zz8 _ sb _ _ w2.heap.size 2 [t.name,cDef] S3.out.sh (hid rfl) C3 (by omega) (by first|omega|(simp only [List.length_append,List.length_cons,List.length_nil];omega)|(simp only [List.length_append,List.length_cons,List.length_nil] at hl ⊢;omega))).mono ?_
 rintro e w4 ⟨v4,rfl,hs⟩
 clear C3
 have U4:=hid (U.out.sg hs.sg (by omega) (zxd S3.out H.out l0))
 have N4:=hid (N.out.low (hs.sg.low S3.out.sh))
 have S4:=hid (S3.out.trans hs)
 have z4:=hs.sg.size
 clear U N hs
 have U:=U4
 have N:=N4
 clear U4 N4
 have U0:=U.out.c0
 go_wp2_with fail
 clear U0
 obtain ⟨nm,hm,hc⟩:=zkd N.out 0 u0 hu0.out
 refine hc.mono ?_
 rintro e w5 ⟨rfl,hb⟩
 have M:=hid (hm.bl hb)
 have U5:=hid (U.out.below hb)
 have N5:=hid (N.out.bl hb)
 have S5:=hid (S4.out.below hb)
 have z5:=hb.size
 clear U N
 have U:=U5
 have N:=N5
 clear U5 N5
 clear hb hc hm
 go_wp2_with fail
 refine (zvp _ sb _ _ pl nm u0 S5.out.sh M.out hE0.out (by first|omega|(simp only [List.length_append,List.length_cons,List.length_nil];omega)|(simp only [List.length_append,List.length_cons,List.length_nil] at hl ⊢;omega))).mono ?_
 rintro e w6 ⟨v6,rfl,hs⟩
 have U6:=hid (U.out.sg hs.sg (by omega) (zxd S5.out H.out l0))
 have N6:=hid (N.out.low (hs.sg.low S5.out.sh))
 have S6:=hid (S5.out.trans hs)
 have z6:=hs.sg.size
 clear U N hs
 have U:=U6
 have N:=N6
 clear U6 N6
 clear M
 go_wp2_with fail
 first|refine bodyPost_end (v:= .tuple #[]) (by simp [results,Tryz.results73,go_sem]) rfl ?_ |refine bodyPost_ret (v:= .tuple #[]) (by simp [results,Tryz.results73,go_sem]) rfl ?_
 have hfin:=((SST.refl H.out).below HBA.out).trans S6.out
 have hx:xs++([t.name,cDef]++(zzb u0++ [zzk]))=((xs++ [t.name,cDef])++(zzb u0++ [zzk])):=by simp [List.append_assoc]
 first|exact ⟨_,rfl,hfin.cast hx.symm⟩|exact ⟨_,rfl,hfin.cast (by simp [List.append_assoc])⟩
theorem stmt_8 (w:World) (sb:Nat) (v:Value) (xs:List Tx) (pl:Nat→Nat) (b:Nat) (t:Tree) (u0:Tree) (h:SH w sb v xs) (hn:NodeAt (fun x=>x<sb) pl w b t) (hop:t.op=8) (hu0:Hid (t.kids[0]? =some u0)) (hE0:Hid (ShE sb pl u0)) (hl:xs.length+(([t.name,cEq]++(zzb u0++ [zzk]))).length+1≤1000000):
 Calls Tryz.prog 73 #[.pointer (some ⟨sb,0,none⟩),.agg #[.pointer (some ⟨b,0,none⟩)]] w (SQ sb v w (xs++([t.name,cEq]++(zzb u0++ [zzk])))):=by
 have H:=hid h
 have hlt:=h.lt
 have HBA:=hid (b1 w (.cells #[.pointer (some ⟨b,0,none⟩)] 25))
 have S0:=hid (SST.refl (h.below (b1 w (.cells #[.pointer (some ⟨b,0,none⟩)] 25))))
 have U:=hid (PtrAt.new w (some ⟨b,0,none⟩))
 have N:=hid (hn.bl (b1 w (.cells #[.pointer (some ⟨b,0,none⟩)] 25)))
 have l0:=U.out.lt
 clear h hn
 have hfo:=zx1
 have hfn:=zzw
 clear hfo hfn
 go_enter Tryz.func73,Tryz.ntmps73
 have U0:=U.out.c0
 go_wp2_with fail
 clear U0
 generalize w.alloc (.cells #[.pointer (some ⟨b,0,none⟩)] 25)=wa at*
 obtain ⟨Ao,co,hro⟩:=N.out.rowOf
 refine (zkq _ _ _ _ _ _ _ _ _ _ hro).mono ?_
 rintro e w1 ⟨rfl,hb⟩
 clear hro
 have U1:=hid (U.out.below hb)
 have N1:=hid (N.out.bl hb)
 have S1:=hid (S0.out.below hb)
 have z1:=hb.size
 clear U N
 have U:=U1
 have N:=N1
 clear U1 N1
 clear hb
 simp only [List.length_append,List.length_cons,List.length_nil] at hl
 have U0:=U.out.c0
 go_wp2_with fail
 clear U0
 obtain ⟨Ao,co,hro⟩:=N.out.rowOf
 refine (zjr _ _ _ _ _ _ _ _ _ _ hro).mono ?_
 rintro e w2 ⟨rfl,hb⟩
 clear hro
 have U2:=hid (U.out.below hb)
 have N2:=hid (N.out.bl hb)
 have S2:=hid (S1.out.below hb)
 have z2:=hb.size
 clear U N
 have U:=U2
 have N:=N2
 clear U2 N2
 clear hb
 have C3:=hid (show ∀ (j:Nat) (y:Tx),([t.name,cEq]:List Tx)[j]? =some y→(w2.alloc (.cells #[.string ⟨t.name.toArray⟩,.string ⟨#[61]⟩] 9)).cell? ⟨w2.heap.size,j,none⟩=some (.string ⟨y.toArray⟩) from zzl w2 [t.name,cEq])
 have U3:=hid (U.out.below (b1 w2 (.cells #[.string ⟨t.name.toArray⟩,.string ⟨#[61]⟩] 9)))
 have N3:=hid (N.out.bl (b1 w2 (.cells #[.string ⟨t.name.toArray⟩,.string ⟨#[61]⟩] 9)))
 have S3:=hid (S2.out.below (b1 w2 (.cells #[.string ⟨t.name.toArray⟩,.string ⟨#[61]⟩] 9)))
 have z3:=(b1 w2 (.cells #[.string ⟨t.name.toArray⟩,.string ⟨#[61]⟩] 9)).size
 clear U N
 have U:=U3
 have N:=N3
 clear U3 N3
 have U0:=U.out.c0
 go_wp2_with fail
 clear U0
 generalize w2.alloc (.cells #[.string ⟨t.name.toArray⟩,.string ⟨#[61]⟩] 9)=wb3 at*
 refine (zz8 _ sb _ _ w2.heap.size 2 [t.name,cEq] S3.out.sh (hid rfl) C3 (by omega) (by first|omega|(simp only [List.length_append,List.length_cons,List.length_nil];omega)|(simp only [List.length_append,List.length_cons,List.length_nil] at hl ⊢;omega))).mono ?_
 rintro e w4 ⟨v4,rfl,hs⟩
 clear C3
 have U4:=hid (U.out.sg hs.sg (by omega) (zxd S3.out H.out l0))
 have N4:=hid (N.out.low (hs.sg.low S3.out.sh))
 have S4:=hid (S3.out.trans hs)
 have z4:=hs.sg.size
 clear U N hs
 have U:=U4
 have N:=N4
 clear U4 N4
 have U0:=U.out.c0
 go_wp2_with fail
 clear U0
 obtain ⟨nm,hm,hc⟩:=zkd N.out 0 u0 hu0.out
 refine hc.mono ?_
 rintro e w5 ⟨rfl,hb⟩
 have M:=hid (hm.bl hb)
 have U5:=hid (U.out.below hb)
 have N5:=hid (N.out.bl hb)
 have S5:=hid (S4.out.below hb)
 have z5:=hb.size
 clear U N
 have U:=U5
 have N:=N5
 clear U5 N5
 clear hb hc hm
 go_wp2_with fail
 refine (zvp _ sb _ _ pl nm u0 S5.out.sh M.out hE0.out (by first|omega|(simp only [List.length_append,List.length_cons,List.length_nil];omega)|(simp only [List.length_append,List.length_cons,List.length_nil] at hl ⊢;omega))).mono ?_
 rintro e w6 ⟨v6,rfl,hs⟩
 have U6:=hid (U.out.sg hs.sg (by omega) (zxd S5.out H.out l0))
 have N6:=hid (N.out.low (hs.sg.low S5.out.sh))
 have S6:=hid (S5.out.trans hs)
 have z6:=hs.sg.size
 clear U N hs
 have U:=U6
 have N:=N6
 clear U6 N6
 clear M
 go_wp2_with fail
 first|refine bodyPost_end (v:= .tuple #[]) (by simp [results,Tryz.results73,go_sem]) rfl ?_ |refine bodyPost_ret (v:= .tuple #[]) (by simp [results,Tryz.results73,go_sem]) rfl ?_
 have hfin:=((SST.refl H.out).below HBA.out).trans S6.out
 have hx:xs++([t.name,cEq]++(zzb u0++ [zzk]))=((xs++ [t.name,cEq])++(zzb u0++ [zzk])):=by simp [List.append_assoc]
 first|exact ⟨_,rfl,hfin.cast hx.symm⟩|exact ⟨_,rfl,hfin.cast (by simp [List.append_assoc])⟩
theorem stmt_9 (w:World) (sb:Nat) (v:Value) (xs:List Tx) (pl:Nat→Nat) (b:Nat) (t:Tree) (u0 u1:Tree) (h:SH w sb v xs) (hn:NodeAt (fun x=>x<sb) pl w b t) (hop:t.op=9) (hu0:Hid (t.kids[0]? =some u0)) (hE0:Hid (ShE sb pl u0)) (hu1:Hid (t.kids[1]? =some u1)) (hE1:Hid (ShE sb pl u1)) (hl:xs.length+((zzb u0++ [cDot,t.name,cEq]++(zzb u1++ [zzk]))).length+1≤1000000):
 Calls Tryz.prog 73 #[.pointer (some ⟨sb,0,none⟩),.agg #[.pointer (some ⟨b,0,none⟩)]] w (SQ sb v w (xs++(zzb u0++ [cDot,t.name,cEq]++(zzb u1++ [zzk])))):=by
 have H:=hid h
 have hlt:=h.lt
 have HBA:=hid (b1 w (.cells #[.pointer (some ⟨b,0,none⟩)] 25))
 have S0:=hid (SST.refl (h.below (b1 w (.cells #[.pointer (some ⟨b,0,none⟩)] 25))))
 have U:=hid (PtrAt.new w (some ⟨b,0,none⟩))
 have N:=hid (hn.bl (b1 w (.cells #[.pointer (some ⟨b,0,none⟩)] 25)))
 have l0:=U.out.lt
 clear h hn
 have hfo:=zx1
 have hfn:=zzw
 clear hfo hfn
 go_enter Tryz.func73,Tryz.ntmps73
 have U0:=U.out.c0
 go_wp2_with fail
 clear U0
 generalize w.alloc (.cells #[.pointer (some ⟨b,0,none⟩)] 25)=wa at*
 obtain ⟨Ao,co,hro⟩:=N.out.rowOf
 refine (zkq _ _ _ _ _ _ _ _ _ _ hro).mono ?_
 rintro e w1 ⟨rfl,hb⟩
 clear hro
 have U1:=hid (U.out.below hb)
 have N1:=hid (N.out.bl hb)
 have S1:=hid (S0.out.below hb)
 have z1:=hb.size
 clear U N
 have U:=U1
 have N:=N1
 clear U1 N1
 clear hb
 simp only [List.length_append,List.length_cons,List.length_nil] at hl
 have U0:=U.out.c0
 go_wp2_with fail
 clear U0
 obtain ⟨nm,hm,hc⟩:=zkd N.out 0 u0 hu0.out
 refine hc.mono ?_
 rintro e w2 ⟨rfl,hb⟩
 have M:=hid (hm.bl hb)
 have U2:=hid (U.out.below hb)
 have N2:=hid (N.out.bl hb)
 have S2:=hid (S1.out.below hb)
 have z2:=hb.size
 clear U N
 have U:=U2
 have N:=N2
 clear U2 N2
 clear hb hc hm
 go_wp2_with fail
 refine (hE0.out _ _ _ nm S2.out.sh M.out (by first|omega|(simp only [List.length_append,List.length_cons,List.length_nil];omega)|(simp only [List.length_append,List.length_cons,List.length_nil] at hl ⊢;omega))).mono ?_
 rintro e w3 ⟨v3,rfl,hs⟩
 have U3:=hid (U.out.sg hs.sg (by omega) (zxd S2.out H.out l0))
 have N3:=hid (N.out.low (hs.sg.low S2.out.sh))
 have S3:=hid (S2.out.trans hs)
 have z3:=hs.sg.size
 clear U N hs
 have U:=U3
 have N:=N3
 clear U3 N3
 clear M
 have U0:=U.out.c0
 go_wp2_with fail
 clear U0
 obtain ⟨Ao,co,hro⟩:=N.out.rowOf
 refine (zjr _ _ _ _ _ _ _ _ _ _ hro).mono ?_
 rintro e w4 ⟨rfl,hb⟩
 clear hro
 have U4:=hid (U.out.below hb)
 have N4:=hid (N.out.bl hb)
 have S4:=hid (S3.out.below hb)
 have z4:=hb.size
 clear U N
 have U:=U4
 have N:=N4
 clear U4 N4
 clear hb
 have C5:=hid (show ∀ (j:Nat) (y:Tx),([cDot,t.name,cEq]:List Tx)[j]? =some y→(w4.alloc (.cells #[.string ⟨#[46]⟩,.string ⟨t.name.toArray⟩,.string ⟨#[61]⟩] 9)).cell? ⟨w4.heap.size,j,none⟩=some (.string ⟨y.toArray⟩) from zzl w4 [cDot,t.name,cEq])
 have U5:=hid (U.out.below (b1 w4 (.cells #[.string ⟨#[46]⟩,.string ⟨t.name.toArray⟩,.string ⟨#[61]⟩] 9)))
 have N5:=hid (N.out.bl (b1 w4 (.cells #[.string ⟨#[46]⟩,.string ⟨t.name.toArray⟩,.string ⟨#[61]⟩] 9)))
 have S5:=hid (S4.out.below (b1 w4 (.cells #[.string ⟨#[46]⟩,.string ⟨t.name.toArray⟩,.string ⟨#[61]⟩] 9)))
 have z5:=(b1 w4 (.cells #[.string ⟨#[46]⟩,.string ⟨t.name.toArray⟩,.string ⟨#[61]⟩] 9)).size
 clear U N
 have U:=U5
 have N:=N5
 clear U5 N5
 have U0:=U.out.c0
 go_wp2_with fail
 clear U0
 generalize w4.alloc (.cells #[.string ⟨#[46]⟩,.string ⟨t.name.toArray⟩,.string ⟨#[61]⟩] 9)=wb5 at*
 refine (zz8 _ sb _ _ w4.heap.size 3 [cDot,t.name,cEq] S5.out.sh (hid rfl) C5 (by omega) (by first|omega|(simp only [List.length_append];omega)|(simp only [List.length_append,List.length_cons,List.length_nil] at hl ⊢;omega))).mono ?_
 rintro e w6 ⟨v6,rfl,hs⟩
 clear C5
 have U6:=hid (U.out.sg hs.sg (by omega) (zxd S5.out H.out l0))
 have N6:=hid (N.out.low (hs.sg.low S5.out.sh))
 have S6:=hid (S5.out.trans hs)
 have z6:=hs.sg.size
 clear U N hs
 have U:=U6
 have N:=N6
 clear U6 N6
 have U0:=U.out.c0
 go_wp2_with fail
 clear U0
 obtain ⟨nm,hm,hc⟩:=zkd N.out 1 u1 hu1.out
 refine hc.mono ?_
 rintro e w7 ⟨rfl,hb⟩
 have M:=hid (hm.bl hb)
 have U7:=hid (U.out.below hb)
 have N7:=hid (N.out.bl hb)
 have S7:=hid (S6.out.below hb)
 have z7:=hb.size
 clear U N
 have U:=U7
 have N:=N7
 clear U7 N7
 clear hb hc hm
 go_wp2_with fail
 refine (zvp _ sb _ _ pl nm u1 S7.out.sh M.out hE1.out (by first|omega|(simp only [List.length_append,List.length_cons,List.length_nil];omega)|(simp only [List.length_append,List.length_cons,List.length_nil] at hl ⊢;omega))).mono ?_
 rintro e w8 ⟨v8,rfl,hs⟩
 have U8:=hid (U.out.sg hs.sg (by omega) (zxd S7.out H.out l0))
 have N8:=hid (N.out.low (hs.sg.low S7.out.sh))
 have S8:=hid (S7.out.trans hs)
 have z8:=hs.sg.size
 clear U N hs
 have U:=U8
 have N:=N8
 clear U8 N8
 clear M
 go_wp2_with fail
 first|refine bodyPost_end (v:= .tuple #[]) (by simp [results,Tryz.results73,go_sem]) rfl ?_ |refine bodyPost_ret (v:= .tuple #[]) (by simp [results,Tryz.results73,go_sem]) rfl ?_
 have hfin:=((SST.refl H.out).below HBA.out).trans S8.out
 have hx:xs++(zzb u0++ [cDot,t.name,cEq]++(zzb u1++ [zzk]))=(((xs++zzb u0)++ [cDot,t.name,cEq])++(zzb u1++ [zzk])):=by simp [List.append_assoc]
 first|exact ⟨_,rfl,hfin.cast hx.symm⟩|exact ⟨_,rfl,hfin.cast (by simp [List.append_assoc])⟩
theorem stmt_10a (w:World) (sb:Nat) (v:Value) (xs:List Tx) (pl:Nat→Nat) (b:Nat) (t:Tree) (u0 u1:Tree) (h:SH w sb v xs) (hn:NodeAt (fun x=>x<sb) pl w b t) (hop:t.op=10) (hu0:Hid (t.kids[0]? =some u0)) (hE0:Hid (ShE sb pl u0)) (hu1:Hid (t.kids[1]? =some u1)) (hB1:Hid (ShB sb pl u1)) (hlen:t.kids.length=2) (hl:xs.length+(([kIf]++zzb u0++zkp u1)).length+1≤1000000):
 Calls Tryz.prog 73 #[.pointer (some ⟨sb,0,none⟩),.agg #[.pointer (some ⟨b,0,none⟩)]] w (SQ sb v w (xs++([kIf]++zzb u0++zkp u1))):=by
 have H:=hid h
 have hlt:=h.lt
 have HBA:=hid (b1 w (.cells #[.pointer (some ⟨b,0,none⟩)] 25))
 have S0:=hid (SST.refl (h.below (b1 w (.cells #[.pointer (some ⟨b,0,none⟩)] 25))))
 have U:=hid (PtrAt.new w (some ⟨b,0,none⟩))
 have N:=hid (hn.bl (b1 w (.cells #[.pointer (some ⟨b,0,none⟩)] 25)))
 have l0:=U.out.lt
 clear h hn
 have hfo:=zx1
 have hfn:=zzw
 clear hfo hfn
 go_enter Tryz.func73,Tryz.ntmps73
 have U0:=U.out.c0
 go_wp2_with fail
 clear U0
 generalize w.alloc (.cells #[.pointer (some ⟨b,0,none⟩)] 25)=wa at*
 obtain ⟨Ao,co,hro⟩:=N.out.rowOf
 refine (zkq _ _ _ _ _ _ _ _ _ _ hro).mono ?_
 rintro e w1 ⟨rfl,hb⟩
 clear hro
 have U1:=hid (U.out.below hb)
 have N1:=hid (N.out.bl hb)
 have S1:=hid (S0.out.below hb)
 have z1:=hb.size
 clear U N
 have U:=U1
 have N:=N1
 clear U1 N1
 clear hb
 simp only [List.length_append,List.length_cons,List.length_nil] at hl
 have U0:=U.out.c0
 go_wp2_with fail
 clear U0
 refine (branch2 _ sb _ _ pl b t u0 u1 S1.out.sh N.out hu0 hu1 hlen hE0 hB1 (by first|omega|(simp only [List.length_append,List.length_cons,List.length_nil];omega)|(simp only [List.length_append,List.length_cons,List.length_nil] at hl ⊢;omega))).mono ?_
 rintro e w2 ⟨v2,rfl,hs⟩
 have U2:=hid (U.out.sg hs.sg (by omega) (zxd S1.out H.out l0))
 have N2:=hid (N.out.low (hs.sg.low S1.out.sh))
 have S2:=hid (S1.out.trans hs)
 have z2:=hs.sg.size
 clear U N hs
 have U:=U2
 have N:=N2
 clear U2 N2
 go_wp2_with fail
 first|refine bodyPost_end (v:= .tuple #[]) (by simp [results,Tryz.results73,go_sem]) rfl ?_ |refine bodyPost_ret (v:= .tuple #[]) (by simp [results,Tryz.results73,go_sem]) rfl ?_
 have hfin:=((SST.refl H.out).below HBA.out).trans S2.out
 have hx:xs++([kIf]++zzb u0++zkp u1)=(xs++([kIf]++zzb u0++zkp u1)):=by simp
 first|exact ⟨_,rfl,hfin.cast hx.symm⟩|exact ⟨_,rfl,hfin.cast (by simp [List.append_assoc])⟩
theorem stmt_10b (w:World) (sb:Nat) (v:Value) (xs:List Tx) (pl:Nat→Nat) (b:Nat) (t:Tree) (u0 u1 u2:Tree) (h:SH w sb v xs) (hn:NodeAt (fun x=>x<sb) pl w b t) (hop:t.op=10) (hu0:Hid (t.kids[0]? =some u0)) (hE0:Hid (ShE sb pl u0)) (hu1:Hid (t.kids[1]? =some u1)) (hB1:Hid (ShB sb pl u1)) (hu2:Hid (t.kids[2]? =some u2)) (hS2:Hid (ShS sb pl u2)) (hlen:2<t.kids.length) (hl:xs.length+(([kIf]++zzb u0++zkp u1++([zjd]++zzj u2))).length+1≤1000000):
 Calls Tryz.prog 73 #[.pointer (some ⟨sb,0,none⟩),.agg #[.pointer (some ⟨b,0,none⟩)]] w (SQ sb v w (xs++([kIf]++zzb u0++zkp u1++([zjd]++zzj u2)))):=by
 have H:=hid h
 have hlt:=h.lt
 have HBA:=hid (b1 w (.cells #[.pointer (some ⟨b,0,none⟩)] 25))
 have S0:=hid (SST.refl (h.below (b1 w (.cells #[.pointer (some ⟨b,0,none⟩)] 25))))
 have U:=hid (PtrAt.new w (some ⟨b,0,none⟩))
 have N:=hid (hn.bl (b1 w (.cells #[.pointer (some ⟨b,0,none⟩)] 25)))
 have l0:=U.out.lt
 clear h hn
 have hfo:=zx1
 have hfn:=zzw
 clear hfo hfn
 go_enter Tryz.func73,Tryz.ntmps73
 have U0:=U.out.c0
 go_wp2_with fail
 clear U0
 generalize w.alloc (.cells #[.pointer (some ⟨b,0,none⟩)] 25)=wa at*
 obtain ⟨Ao,co,hro⟩:=N.out.rowOf
 refine (zkq _ _ _ _ _ _ _ _ _ _ hro).mono ?_
 rintro e w1 ⟨rfl,hb⟩
 clear hro
 have U1:=hid (U.out.below hb)
 have N1:=hid (N.out.bl hb)
 have S1:=hid (S0.out.below hb)
 have z1:=hb.size
 clear U N
 have U:=U1
 have N:=N1
 clear U1 N1
 clear hb
 simp only [List.length_append,List.length_cons,List.length_nil] at hl
 have U0:=U.out.c0
 go_wp2_with fail
 clear U0
 refine (branch3 _ sb _ _ pl b t u0 u1 u2 S1.out.sh N.out hu0 hu1 hu2 hS2 hlen hE0 hB1 (by first|omega|(simp only [List.length_append,List.length_cons,List.length_nil];omega)|(simp only [List.length_append,List.length_cons,List.length_nil] at hl ⊢;omega))).mono ?_
 rintro e w2 ⟨v2,rfl,hs⟩
 have U2:=hid (U.out.sg hs.sg (by omega) (zxd S1.out H.out l0))
 have N2:=hid (N.out.low (hs.sg.low S1.out.sh))
 have S2:=hid (S1.out.trans hs)
 have z2:=hs.sg.size
 clear U N hs
 have U:=U2
 have N:=N2
 clear U2 N2
 go_wp2_with fail
 first|refine bodyPost_end (v:= .tuple #[]) (by simp [results,Tryz.results73,go_sem]) rfl ?_ |refine bodyPost_ret (v:= .tuple #[]) (by simp [results,Tryz.results73,go_sem]) rfl ?_
 have hfin:=((SST.refl H.out).below HBA.out).trans S2.out
 have hx:xs++([kIf]++zzb u0++zkp u1++([zjd]++zzj u2))=(xs++([kIf]++zzb u0++zkp u1++([zjd]++zzj u2))):=by simp [List.append_assoc]
 first|exact ⟨_,rfl,hfin.cast hx.symm⟩|exact ⟨_,rfl,hfin.cast (by simp [List.append_assoc])⟩
theorem stmt_11 (w:World) (sb:Nat) (v:Value) (xs:List Tx) (pl:Nat→Nat) (b:Nat) (t:Tree) (u0 u1:Tree) (h:SH w sb v xs) (hn:NodeAt (fun x=>x<sb) pl w b t) (hop:t.op=11) (hu0:Hid (t.kids[0]? =some u0)) (hE0:Hid (ShE sb pl u0)) (hu1:Hid (t.kids[1]? =some u1)) (hB1:Hid (ShB sb pl u1)) (hl:xs.length+(([kFor]++zzb u0++zkp u1)).length+1≤1000000):
 Calls Tryz.prog 73 #[.pointer (some ⟨sb,0,none⟩),.agg #[.pointer (some ⟨b,0,none⟩)]] w (SQ sb v w (xs++([kFor]++zzb u0++zkp u1))):=by
 have H:=hid h
 have hlt:=h.lt
 have HBA:=hid (b1 w (.cells #[.pointer (some ⟨b,0,none⟩)] 25))
 have S0:=hid (SST.refl (h.below (b1 w (.cells #[.pointer (some ⟨b,0,none⟩)] 25))))
 have U:=hid (PtrAt.new w (some ⟨b,0,none⟩))
 have N:=hid (hn.bl (b1 w (.cells #[.pointer (some ⟨b,0,none⟩)] 25)))
 have l0:=U.out.lt
 clear h hn
 have hfo:=zx1
 have hfn:=zzw
 clear hfo hfn
 go_enter Tryz.func73,Tryz.ntmps73
 have U0:=U.out.c0
 go_wp2_with fail
 clear U0
 generalize w.alloc (.cells #[.pointer (some ⟨b,0,none⟩)] 25)=wa at*
 obtain ⟨Ao,co,hro⟩:=N.out.rowOf
 refine (zkq _ _ _ _ _ _ _ _ _ _ hro).mono ?_
 rintro e w1 ⟨rfl,hb⟩
 clear hro
 have U1:=hid (U.out.below hb)
 have N1:=hid (N.out.bl hb)
 have S1:=hid (S0.out.below hb)
 have z1:=hb.size
 clear U N
 have U:=U1
 have N:=N1
 clear U1 N1
 clear hb
 simp only [List.length_append,List.length_cons,List.length_nil] at hl
 have C2:=hid (show ∀ (j:Nat) (y:Tx),([kFor]:List Tx)[j]? =some y→(w1.alloc (.cells #[.string ⟨#[102,111,114]⟩] 9)).cell? ⟨w1.heap.size,j,none⟩=some (.string ⟨y.toArray⟩) from zzl w1 [kFor])
 have U2:=hid (U.out.below (b1 w1 (.cells #[.string ⟨#[102,111,114]⟩] 9)))
 have N2:=hid (N.out.bl (b1 w1 (.cells #[.string ⟨#[102,111,114]⟩] 9)))
 have S2:=hid (S1.out.below (b1 w1 (.cells #[.string ⟨#[102,111,114]⟩] 9)))
 have z2:=(b1 w1 (.cells #[.string ⟨#[102,111,114]⟩] 9)).size
 clear U N
 have U:=U2
 have N:=N2
 clear U2 N2
 have U0:=U.out.c0
 go_wp2_with fail
 clear U0
 generalize w1.alloc (.cells #[.string ⟨#[102,111,114]⟩] 9)=wb2 at*
 refine (zz8 _ sb _ _ w1.heap.size 1 [kFor] S2.out.sh (hid rfl) C2 (by omega) (by first|omega|(simp only [List.length_append,List.length_cons,List.length_nil];omega)|(simp only [List.length_append,List.length_cons,List.length_nil] at hl ⊢;omega))).mono ?_
 rintro e w3 ⟨v3,rfl,hs⟩
 clear C2
 have U3:=hid (U.out.sg hs.sg (by omega) (zxd S2.out H.out l0))
 have N3:=hid (N.out.low (hs.sg.low S2.out.sh))
 have S3:=hid (S2.out.trans hs)
 have z3:=hs.sg.size
 clear U N hs
 have U:=U3
 have N:=N3
 clear U3 N3
 have U0:=U.out.c0
 go_wp2_with fail
 clear U0
 obtain ⟨nm,hm,hc⟩:=zkd N.out 0 u0 hu0.out
 refine hc.mono ?_
 rintro e w4 ⟨rfl,hb⟩
 have M:=hid (hm.bl hb)
 have U4:=hid (U.out.below hb)
 have N4:=hid (N.out.bl hb)
 have S4:=hid (S3.out.below hb)
 have z4:=hb.size
 clear U N
 have U:=U4
 have N:=N4
 clear U4 N4
 clear hb hc hm
 go_wp2_with fail
 refine (hE0.out _ _ _ nm S4.out.sh M.out (by first|omega|(simp only [List.length_append,List.length_cons,List.length_nil];omega)|(simp only [List.length_append,List.length_cons,List.length_nil] at hl ⊢;omega))).mono ?_
 rintro e w5 ⟨v5,rfl,hs⟩
 have U5:=hid (U.out.sg hs.sg (by omega) (zxd S4.out H.out l0))
 have N5:=hid (N.out.low (hs.sg.low S4.out.sh))
 have S5:=hid (S4.out.trans hs)
 have z5:=hs.sg.size
 clear U N hs
 have U:=U5
 have N:=N5
 clear U5 N5
 clear M
 have U0:=U.out.c0
 go_wp2_with fail
 clear U0
 obtain ⟨nm,hm,hc⟩:=zkd N.out 1 u1 hu1.out
 refine hc.mono ?_
 rintro e w6 ⟨rfl,hb⟩
 have M:=hid (hm.bl hb)
 have U6:=hid (U.out.below hb)
 have N6:=hid (N.out.bl hb)
 have S6:=hid (S5.out.below hb)
 have z6:=hb.size
 clear U N
 have U:=U6
 have N:=N6
 clear U6 N6
 clear hb hc hm
 go_wp2_with fail
 refine (hB1.out _ _ _ nm S6.out.sh M.out (by first|omega|(simp only [List.length_append,List.length_cons,List.length_nil];omega)|(simp only [List.length_append,List.length_cons,List.length_nil] at hl ⊢;omega))).mono ?_
 rintro e w7 ⟨v7,rfl,hs⟩
 have U7:=hid (U.out.sg hs.sg (by omega) (zxd S6.out H.out l0))
 have N7:=hid (N.out.low (hs.sg.low S6.out.sh))
 have S7:=hid (S6.out.trans hs)
 have z7:=hs.sg.size
 clear U N hs
 have U:=U7
 have N:=N7
 clear U7 N7
 clear M
 go_wp2_with fail
 first|refine bodyPost_end (v:= .tuple #[]) (by simp [results,Tryz.results73,go_sem]) rfl ?_ |refine bodyPost_ret (v:= .tuple #[]) (by simp [results,Tryz.results73,go_sem]) rfl ?_
 have hfin:=((SST.refl H.out).below HBA.out).trans S7.out
 have hx:xs++([kFor]++zzb u0++zkp u1)=(((xs++ [kFor])++zzb u0)++zkp u1):=by simp [List.append_assoc]
 first|exact ⟨_,rfl,hfin.cast hx.symm⟩|exact ⟨_,rfl,hfin.cast (by simp [List.append_assoc])⟩
theorem stmt_12 (w:World) (sb:Nat) (v:Value) (xs:List Tx) (pl:Nat→Nat) (b:Nat) (t:Tree) (u0:Tree) (h:SH w sb v xs) (hn:NodeAt (fun x=>x<sb) pl w b t) (hop:t.op=12) (hu0:Hid (t.kids[0]? =some u0)) (hE0:Hid (ShE sb pl u0)) (hl:xs.length+(([zjc]++([cLB]++zzb u0++ [cRB])++ [zzk])).length+1≤1000000):
 Calls Tryz.prog 73 #[.pointer (some ⟨sb,0,none⟩),.agg #[.pointer (some ⟨b,0,none⟩)]] w (SQ sb v w (xs++([zjc]++([cLB]++zzb u0++ [cRB])++ [zzk]))):=by
 have H:=hid h
 have hlt:=h.lt
 have HBA:=hid (b1 w (.cells #[.pointer (some ⟨b,0,none⟩)] 25))
 have S0:=hid (SST.refl (h.below (b1 w (.cells #[.pointer (some ⟨b,0,none⟩)] 25))))
 have U:=hid (PtrAt.new w (some ⟨b,0,none⟩))
 have N:=hid (hn.bl (b1 w (.cells #[.pointer (some ⟨b,0,none⟩)] 25)))
 have l0:=U.out.lt
 clear h hn
 have hfo:=zx1
 have hfn:=zzw
 clear hfo hfn
 go_enter Tryz.func73,Tryz.ntmps73
 have U0:=U.out.c0
 go_wp2_with fail
 clear U0
 generalize w.alloc (.cells #[.pointer (some ⟨b,0,none⟩)] 25)=wa at*
 obtain ⟨Ao,co,hro⟩:=N.out.rowOf
 refine (zkq _ _ _ _ _ _ _ _ _ _ hro).mono ?_
 rintro e w1 ⟨rfl,hb⟩
 clear hro
 have U1:=hid (U.out.below hb)
 have N1:=hid (N.out.bl hb)
 have S1:=hid (S0.out.below hb)
 have z1:=hb.size
 clear U N
 have U:=U1
 have N:=N1
 clear U1 N1
 clear hb
 simp only [List.length_append,List.length_cons,List.length_nil] at hl
 have hmf:∀ (fn:Fn) (first cap:Array Value) (w:World),(Instr.makeFunc fn first cap).run Tryz.prog w= .ok (.func fn first cap) w:=fun _ _ _ _=>rfl
 have hk1:1≤t.kids.length:=(List.getElem?_eq_some_iff.1 hu0.out).1
 have HK1:=hid hk1
 clear hk1
 have HSH:Hid (Shows 103 sb pl t 1 [zzb u0]):=by
  intro k u ys hk hu hy w1 v1 xs1 nb h1 h2 h3
  obtain rfl:k=0:=by omega
  obtain rfl:=Option.some.inj (hu0.out.symm.trans hu)
  obtain rfl:=Option.some.inj hy
  exact hE0.out w1 v1 xs1 nb h1 h2 h3
 have C2:=hid (show ∀ (j:Nat) (y:Tx),([zjc]:List Tx)[j]? =some y→(w1.alloc (.cells #[.string ⟨#[112,114,105,110,116]⟩] 9)).cell? ⟨w1.heap.size,j,none⟩=some (.string ⟨y.toArray⟩) from zzl w1 [zjc])
 have U2:=hid (U.out.below (b1 w1 (.cells #[.string ⟨#[112,114,105,110,116]⟩] 9)))
 have N2:=hid (N.out.bl (b1 w1 (.cells #[.string ⟨#[112,114,105,110,116]⟩] 9)))
 have S2:=hid (S1.out.below (b1 w1 (.cells #[.string ⟨#[112,114,105,110,116]⟩] 9)))
 have z2:=(b1 w1 (.cells #[.string ⟨#[112,114,105,110,116]⟩] 9)).size
 clear U N
 have U:=U2
 have N:=N2
 clear U2 N2
 have U0:=U.out.c0
 go_wp2_with fail
 clear U0
 generalize w1.alloc (.cells #[.string ⟨#[112,114,105,110,116]⟩] 9)=wb2 at*
 refine (zz8 _ sb _ _ w1.heap.size 1 [zjc] S2.out.sh (hid rfl) C2 (by omega) (by first|omega|(simp only [List.length_append,List.length_cons,List.length_nil];omega)|(simp only [List.length_append,List.length_cons,List.length_nil] at hl ⊢;omega))).mono ?_
 rintro e w3 ⟨v3,rfl,hs⟩
 clear C2
 have U3:=hid (U.out.sg hs.sg (by omega) (zxd S2.out H.out l0))
 have N3:=hid (N.out.low (hs.sg.low S2.out.sh))
 have S3:=hid (S2.out.trans hs)
 have z3:=hs.sg.size
 clear U N hs
 have U:=U3
 have N:=N3
 clear U3 N3
 have U0:=U.out.c0
 go_wp2_with fail
 clear U0
 refine (z0v _ sb _ _ pl b t 1 [zzb u0] S3.out.sh N.out (hid rfl) HK1.out HSH (by simp only [List.length_append,List.length_cons,List.length_nil,List.flatten_cons,List.flatten_nil];omega)).mono ?_
 rintro e w4 ⟨v4,rfl,hs⟩
 have U4:=hid (U.out.sg hs.sg (by omega) (zxd S3.out H.out l0))
 have N4:=hid (N.out.low (hs.sg.low S3.out.sh))
 have S4:=hid (S3.out.trans hs)
 have z4:=hs.sg.size
 clear U N hs
 have U:=U4
 have N:=N4
 clear U4 N4
 have hcx:(zz3 [zzb u0]).length=(zzb u0).length:=by simp [zz3]
 have C5:=hid (show ∀ (j:Nat) (y:Tx),([zzk]:List Tx)[j]? =some y→(w4.alloc (.cells #[.string ⟨#[59]⟩] 9)).cell? ⟨w4.heap.size,j,none⟩=some (.string ⟨y.toArray⟩) from zzl w4 [zzk])
 have U5:=hid (U.out.below (b1 w4 (.cells #[.string ⟨#[59]⟩] 9)))
 have N5:=hid (N.out.bl (b1 w4 (.cells #[.string ⟨#[59]⟩] 9)))
 have S5:=hid (S4.out.below (b1 w4 (.cells #[.string ⟨#[59]⟩] 9)))
 have z5:=(b1 w4 (.cells #[.string ⟨#[59]⟩] 9)).size
 clear U N
 have U:=U5
 have N:=N5
 clear U5 N5
 have U0:=U.out.c0
 go_wp2_with fail
 clear U0
 generalize w4.alloc (.cells #[.string ⟨#[59]⟩] 9)=wb5 at*
 refine (zz8 _ sb _ _ w4.heap.size 1 [zzk] S5.out.sh (hid rfl) C5 (by omega) (by first|omega|(simp only [List.length_append,List.length_cons,List.length_nil];omega)|(simp only [List.length_append,List.length_cons,List.length_nil] at hl ⊢;omega))).mono ?_
 rintro e w6 ⟨v6,rfl,hs⟩
 clear C5
 have U6:=hid (U.out.sg hs.sg (by omega) (zxd S5.out H.out l0))
 have N6:=hid (N.out.low (hs.sg.low S5.out.sh))
 have S6:=hid (S5.out.trans hs)
 have z6:=hs.sg.size
 clear U N hs
 have U:=U6
 have N:=N6
 clear U6 N6
 go_wp2_with fail
 first|refine bodyPost_end (v:= .tuple #[]) (by simp [results,Tryz.results73,go_sem]) rfl ?_ |refine bodyPost_ret (v:= .tuple #[]) (by simp [results,Tryz.results73,go_sem]) rfl ?_
 have hfin:=((SST.refl H.out).below HBA.out).trans S6.out
 have hx:xs++([zjc]++([cLB]++zzb u0++ [cRB])++ [zzk])=(((xs++ [zjc])++([cLB]++zz3 [zzb u0]++ [cRB]))++ [zzk]):=by simp [List.append_assoc,zz3]
 first|exact ⟨_,rfl,hfin.cast hx.symm⟩|exact ⟨_,rfl,hfin.cast (by simp [List.append_assoc])⟩
theorem stmt_13a (w:World) (sb:Nat) (v:Value) (xs:List Tx) (pl:Nat→Nat) (b:Nat) (t:Tree) (u0:Tree) (h:SH w sb v xs) (hn:NodeAt (fun x=>x<sb) pl w b t) (hop:t.op=13) (hu0:Hid (t.kids[0]? =some u0)) (hE0:Hid (ShE sb pl u0)) (hl:xs.length+(([zqa]++(zzb u0++ [zzk]))).length+1≤1000000):
 Calls Tryz.prog 73 #[.pointer (some ⟨sb,0,none⟩),.agg #[.pointer (some ⟨b,0,none⟩)]] w (SQ sb v w (xs++([zqa]++(zzb u0++ [zzk])))):=by
 have H:=hid h
 have hlt:=h.lt
 have HBA:=hid (b1 w (.cells #[.pointer (some ⟨b,0,none⟩)] 25))
 have S0:=hid (SST.refl (h.below (b1 w (.cells #[.pointer (some ⟨b,0,none⟩)] 25))))
 have U:=hid (PtrAt.new w (some ⟨b,0,none⟩))
 have N:=hid (hn.bl (b1 w (.cells #[.pointer (some ⟨b,0,none⟩)] 25)))
 have l0:=U.out.lt
 clear h hn
 have hfo:=zx1
 have hfn:=zzw
 clear hfo hfn
 go_enter Tryz.func73,Tryz.ntmps73
 have U0:=U.out.c0
 go_wp2_with fail
 clear U0
 generalize w.alloc (.cells #[.pointer (some ⟨b,0,none⟩)] 25)=wa at*
 obtain ⟨Ao,co,hro⟩:=N.out.rowOf
 refine (zkq _ _ _ _ _ _ _ _ _ _ hro).mono ?_
 rintro e w1 ⟨rfl,hb⟩
 clear hro
 have U1:=hid (U.out.below hb)
 have N1:=hid (N.out.bl hb)
 have S1:=hid (S0.out.below hb)
 have z1:=hb.size
 clear U N
 have U:=U1
 have N:=N1
 clear U1 N1
 clear hb
 simp only [List.length_append,List.length_cons,List.length_nil] at hl
 have C2:=hid (show ∀ (j:Nat) (y:Tx),([zqa]:List Tx)[j]? =some y→(w1.alloc (.cells #[.string ⟨#[114,101,116,117,114,110]⟩] 9)).cell? ⟨w1.heap.size,j,none⟩=some (.string ⟨y.toArray⟩) from zzl w1 [zqa])
 have U2:=hid (U.out.below (b1 w1 (.cells #[.string ⟨#[114,101,116,117,114,110]⟩] 9)))
 have N2:=hid (N.out.bl (b1 w1 (.cells #[.string ⟨#[114,101,116,117,114,110]⟩] 9)))
 have S2:=hid (S1.out.below (b1 w1 (.cells #[.string ⟨#[114,101,116,117,114,110]⟩] 9)))
 have z2:=(b1 w1 (.cells #[.string ⟨#[114,101,116,117,114,110]⟩] 9)).size
 clear U N
 have U:=U2
 have N:=N2
 clear U2 N2
 have U0:=U.out.c0
 go_wp2_with fail
 clear U0
 generalize w1.alloc (.cells #[.string ⟨#[114,101,116,117,114,110]⟩] 9)=wb2 at*
 refine (zz8 _ sb _ _ w1.heap.size 1 [zqa] S2.out.sh (hid rfl) C2 (by omega) (by first|omega|(simp only [List.length_append,List.length_cons,List.length_nil];omega)|(simp only [List.length_append,List.length_cons,List.length_nil] at hl ⊢;omega))).mono ?_
 rintro e w3 ⟨v3,rfl,hs⟩
 clear C2
 have U3:=hid (U.out.sg hs.sg (by omega) (zxd S2.out H.out l0))
 have N3:=hid (N.out.low (hs.sg.low S2.out.sh))
 have S3:=hid (S2.out.trans hs)
 have z3:=hs.sg.size
 clear U N hs
 have U:=U3
 have N:=N3
 clear U3 N3
 have U0:=U.out.c0
 go_wp2_with fail
 clear U0
 obtain ⟨nm,hm,hc⟩:=zkd N.out 0 u0 hu0.out
 refine hc.mono ?_
 rintro e w4 ⟨rfl,hb⟩
 have M:=hid (hm.bl hb)
 have U4:=hid (U.out.below hb)
 have N4:=hid (N.out.bl hb)
 have S4:=hid (S3.out.below hb)
 have z4:=hb.size
 clear U N
 have U:=U4
 have N:=N4
 clear U4 N4
 clear hb hc hm
 go_wp2_with fail
 refine (zvp _ sb _ _ pl nm u0 S4.out.sh M.out hE0.out (by first|omega|(simp only [List.length_append,List.length_cons,List.length_nil];omega)|(simp only [List.length_append,List.length_cons,List.length_nil] at hl ⊢;omega))).mono ?_
 rintro e w5 ⟨v5,rfl,hs⟩
 have U5:=hid (U.out.sg hs.sg (by omega) (zxd S4.out H.out l0))
 have N5:=hid (N.out.low (hs.sg.low S4.out.sh))
 have S5:=hid (S4.out.trans hs)
 have z5:=hs.sg.size
 clear U N hs
 have U:=U5
 have N:=N5
 clear U5 N5
 clear M
 go_wp2_with fail
 first|refine bodyPost_end (v:= .tuple #[]) (by simp [results,Tryz.results73,go_sem]) rfl ?_ |refine bodyPost_ret (v:= .tuple #[]) (by simp [results,Tryz.results73,go_sem]) rfl ?_
 have hfin:=((SST.refl H.out).below HBA.out).trans S5.out
 have hx:xs++([zqa]++(zzb u0++ [zzk]))=((xs++ [zqa])++(zzb u0++ [zzk])):=by simp [List.append_assoc]
 first|exact ⟨_,rfl,hfin.cast hx.symm⟩|exact ⟨_,rfl,hfin.cast (by simp [List.append_assoc])⟩
theorem stmt_13b (w:World) (sb:Nat) (v:Value) (xs:List Tx) (pl:Nat→Nat) (b:Nat) (t:Tree) (h:SH w sb v xs) (hn:NodeAt (fun x=>x<sb) pl w b t) (hop:t.op=13) (hlen:t.kids.length=0) (hl:xs.length+(([zqa]++ [zzk])).length+1≤1000000):
 Calls Tryz.prog 73 #[.pointer (some ⟨sb,0,none⟩),.agg #[.pointer (some ⟨b,0,none⟩)]] w (SQ sb v w (xs++([zqa]++ [zzk]))):=by
 have H:=hid h
 have hlt:=h.lt
 have HBA:=hid (b1 w (.cells #[.pointer (some ⟨b,0,none⟩)] 25))
 have S0:=hid (SST.refl (h.below (b1 w (.cells #[.pointer (some ⟨b,0,none⟩)] 25))))
 have U:=hid (PtrAt.new w (some ⟨b,0,none⟩))
 have N:=hid (hn.bl (b1 w (.cells #[.pointer (some ⟨b,0,none⟩)] 25)))
 have l0:=U.out.lt
 clear h hn
 have hfo:=zx1
 have hfn:=zzw
 clear hfo hfn
 go_enter Tryz.func73,Tryz.ntmps73
 have U0:=U.out.c0
 go_wp2_with fail
 clear U0
 generalize w.alloc (.cells #[.pointer (some ⟨b,0,none⟩)] 25)=wa at*
 obtain ⟨Ao,co,hro⟩:=N.out.rowOf
 refine (zkq _ _ _ _ _ _ _ _ _ _ hro).mono ?_
 rintro e w1 ⟨rfl,hb⟩
 clear hro
 have U1:=hid (U.out.below hb)
 have N1:=hid (N.out.bl hb)
 have S1:=hid (S0.out.below hb)
 have z1:=hb.size
 clear U N
 have U:=U1
 have N:=N1
 clear U1 N1
 clear hb
 simp only [List.length_append,List.length_cons,List.length_nil] at hl
 have C2:=hid (show ∀ (j:Nat) (y:Tx),([zqa]:List Tx)[j]? =some y→(w1.alloc (.cells #[.string ⟨#[114,101,116,117,114,110]⟩] 9)).cell? ⟨w1.heap.size,j,none⟩=some (.string ⟨y.toArray⟩) from zzl w1 [zqa])
 have U2:=hid (U.out.below (b1 w1 (.cells #[.string ⟨#[114,101,116,117,114,110]⟩] 9)))
 have N2:=hid (N.out.bl (b1 w1 (.cells #[.string ⟨#[114,101,116,117,114,110]⟩] 9)))
 have S2:=hid (S1.out.below (b1 w1 (.cells #[.string ⟨#[114,101,116,117,114,110]⟩] 9)))
 have z2:=(b1 w1 (.cells #[.string ⟨#[114,101,116,117,114,110]⟩] 9)).size
 clear U N
 have U:=U2
 have N:=N2
 clear U2 N2
 have U0:=U.out.c0
 go_wp2_with fail
 clear U0
 generalize w1.alloc (.cells #[.string ⟨#[114,101,116,117,114,110]⟩] 9)=wb2 at*
 refine (zz8 _ sb _ _ w1.heap.size 1 [zqa] S2.out.sh (hid rfl) C2 (by omega) (by first|omega|(simp only [List.length_append,List.length_cons,List.length_nil];omega)|(simp only [List.length_append,List.length_cons,List.length_nil] at hl ⊢;omega))).mono ?_
 rintro e w3 ⟨v3,rfl,hs⟩
 clear C2
 have U3:=hid (U.out.sg hs.sg (by omega) (zxd S2.out H.out l0))
 have N3:=hid (N.out.low (hs.sg.low S2.out.sh))
 have S3:=hid (S2.out.trans hs)
 have z3:=hs.sg.size
 clear U N hs
 have U:=U3
 have N:=N3
 clear U3 N3
 have U0:=U.out.c0
 go_wp2_with fail
 clear U0
 refine (kid_out N.out 0 (Or.inr (by omega))).mono ?_
 rintro e w4 ⟨rfl,hb⟩
 have U4:=hid (U.out.below hb)
 have N4:=hid (N.out.bl hb)
 have S4:=hid (S3.out.below hb)
 have z4:=hb.size
 clear U N
 have U:=U4
 have N:=N4
 clear U4 N4
 clear hb
 go_wp2_with fail
 refine (endWith_zero _ sb _ _ S4.out.sh (by first|omega|(simp only [List.length_append,List.length_cons,List.length_nil];omega)|(simp only [List.length_append,List.length_cons,List.length_nil] at hl ⊢;omega))).mono ?_
 rintro e w5 ⟨v5,rfl,hs⟩
 have U5:=hid (U.out.sg hs.sg (by omega) (zxd S4.out H.out l0))
 have N5:=hid (N.out.low (hs.sg.low S4.out.sh))
 have S5:=hid (S4.out.trans hs)
 have z5:=hs.sg.size
 clear U N hs
 have U:=U5
 have N:=N5
 clear U5 N5
 go_wp2_with fail
 first|refine bodyPost_end (v:= .tuple #[]) (by simp [results,Tryz.results73,go_sem]) rfl ?_ |refine bodyPost_ret (v:= .tuple #[]) (by simp [results,Tryz.results73,go_sem]) rfl ?_
 have hfin:=((SST.refl H.out).below HBA.out).trans S5.out
 have hx:xs++([zqa]++ [zzk])=((xs++ [zqa])++ [zzk]):=by simp [List.append_assoc]
 first|exact ⟨_,rfl,hfin.cast hx.symm⟩|exact ⟨_,rfl,hfin.cast (by simp [List.append_assoc])⟩
theorem stmt_14 (w:World) (sb:Nat) (v:Value) (xs:List Tx) (pl:Nat→Nat) (b:Nat) (t:Tree) (u0:Tree) (h:SH w sb v xs) (hn:NodeAt (fun x=>x<sb) pl w b t) (hop:t.op=14) (hu0:Hid (t.kids[0]? =some u0)) (hE0:Hid (ShE sb pl u0)) (hl:xs.length+((zzb u0++ [zzk])).length+1≤1000000):
 Calls Tryz.prog 73 #[.pointer (some ⟨sb,0,none⟩),.agg #[.pointer (some ⟨b,0,none⟩)]] w (SQ sb v w (xs++(zzb u0++ [zzk]))):=by
 have H:=hid h
 have hlt:=h.lt
 have HBA:=hid (b1 w (.cells #[.pointer (some ⟨b,0,none⟩)] 25))
 have S0:=hid (SST.refl (h.below (b1 w (.cells #[.pointer (some ⟨b,0,none⟩)] 25))))
 have U:=hid (PtrAt.new w (some ⟨b,0,none⟩))
 have N:=hid (hn.bl (b1 w (.cells #[.pointer (some ⟨b,0,none⟩)] 25)))
 have l0:=U.out.lt
 clear h hn
 have hfo:=zx1
 have hfn:=zzw
 clear hfo hfn
 go_enter Tryz.func73,Tryz.ntmps73
 have U0:=U.out.c0
 go_wp2_with fail
 clear U0
 generalize w.alloc (.cells #[.pointer (some ⟨b,0,none⟩)] 25)=wa at*
 obtain ⟨Ao,co,hro⟩:=N.out.rowOf
 refine (zkq _ _ _ _ _ _ _ _ _ _ hro).mono ?_
 rintro e w1 ⟨rfl,hb⟩
 clear hro
 have U1:=hid (U.out.below hb)
 have N1:=hid (N.out.bl hb)
 have S1:=hid (S0.out.below hb)
 have z1:=hb.size
 clear U N
 have U:=U1
 have N:=N1
 clear U1 N1
 clear hb
 simp only [List.length_append,List.length_cons,List.length_nil] at hl
 have U0:=U.out.c0
 go_wp2_with fail
 clear U0
 obtain ⟨nm,hm,hc⟩:=zkd N.out 0 u0 hu0.out
 refine hc.mono ?_
 rintro e w2 ⟨rfl,hb⟩
 have M:=hid (hm.bl hb)
 have U2:=hid (U.out.below hb)
 have N2:=hid (N.out.bl hb)
 have S2:=hid (S1.out.below hb)
 have z2:=hb.size
 clear U N
 have U:=U2
 have N:=N2
 clear U2 N2
 clear hb hc hm
 go_wp2_with fail
 refine (zvp _ sb _ _ pl nm u0 S2.out.sh M.out hE0.out (by first|omega|(simp only [List.length_append,List.length_cons,List.length_nil];omega)|(simp only [List.length_append,List.length_cons,List.length_nil] at hl ⊢;omega))).mono ?_
 rintro e w3 ⟨v3,rfl,hs⟩
 have U3:=hid (U.out.sg hs.sg (by omega) (zxd S2.out H.out l0))
 have N3:=hid (N.out.low (hs.sg.low S2.out.sh))
 have S3:=hid (S2.out.trans hs)
 have z3:=hs.sg.size
 clear U N hs
 have U:=U3
 have N:=N3
 clear U3 N3
 clear M
 go_wp2_with fail
 first|refine bodyPost_end (v:= .tuple #[]) (by simp [results,Tryz.results73,go_sem]) rfl ?_ |refine bodyPost_ret (v:= .tuple #[]) (by simp [results,Tryz.results73,go_sem]) rfl ?_
 have hfin:=((SST.refl H.out).below HBA.out).trans S3.out
 have hx:xs++(zzb u0++ [zzk])=(xs++(zzb u0++ [zzk])):=by simp
 first|exact ⟨_,rfl,hfin.cast hx.symm⟩|exact ⟨_,rfl,hfin.cast (by simp [List.append_assoc])⟩
theorem stmt_else (w:World) (sb:Nat) (v:Value) (xs:List Tx) (pl:Nat→Nat) (b:Nat) (t:Tree) (h:SH w sb v xs) (hn:NodeAt (fun x=>x<sb) pl w b t) (hop:Hid (t.op<6∨14<t.op)) (hE:Hid (ShE sb pl t)) (hl:xs.length+((zzb t)).length+1≤1000000):
 Calls Tryz.prog 73 #[.pointer (some ⟨sb,0,none⟩),.agg #[.pointer (some ⟨b,0,none⟩)]] w (SQ sb v w (xs++(zzb t))):=by
 have H:=hid h
 have hlt:=h.lt
 have HBA:=hid (b1 w (.cells #[.pointer (some ⟨b,0,none⟩)] 25))
 have S0:=hid (SST.refl (h.below (b1 w (.cells #[.pointer (some ⟨b,0,none⟩)] 25))))
 have U:=hid (PtrAt.new w (some ⟨b,0,none⟩))
 have N:=hid (hn.bl (b1 w (.cells #[.pointer (some ⟨b,0,none⟩)] 25)))
 have l0:=U.out.lt
 clear h hn
 have hfo:=zx1
 have hfn:=zzw
 clear hfo hfn
 go_enter Tryz.func73,Tryz.ntmps73
 have U0:=U.out.c0
 go_wp2_with fail
 clear U0
 generalize w.alloc (.cells #[.pointer (some ⟨b,0,none⟩)] 25)=wa at*
 obtain ⟨Ao,co,hro⟩:=N.out.rowOf
 refine (zkq _ _ _ _ _ _ _ _ _ _ hro).mono ?_
 rintro e w1 ⟨rfl,hb⟩
 clear hro
 have U1:=hid (U.out.below hb)
 have N1:=hid (N.out.bl hb)
 have S1:=hid (S0.out.below hb)
 have z1:=hb.size
 clear U N
 have U:=U1
 have N:=N1
 clear U1 N1
 clear hb
 have e6:((t.op:Int)==6)=false:=by have:=hop.out;simp;omega
 have e7:((t.op:Int)==7)=false:=by have:=hop.out;simp;omega
 have e8:((t.op:Int)==8)=false:=by have:=hop.out;simp;omega
 have e9:((t.op:Int)==9)=false:=by have:=hop.out;simp;omega
 have e10:((t.op:Int)==10)=false:=by have:=hop.out;simp;omega
 have e11:((t.op:Int)==11)=false:=by have:=hop.out;simp;omega
 have e12:((t.op:Int)==12)=false:=by have:=hop.out;simp;omega
 have e13:((t.op:Int)==13)=false:=by have:=hop.out;simp;omega
 have e14:((t.op:Int)==14)=false:=by have:=hop.out;simp;omega
 have U0:=U.out.c0
 go_wp2_with fail
 clear U0
 refine (hE.out _ _ _ b S1.out.sh N.out hl).mono ?_
 rintro e w2 ⟨v2,rfl,hs⟩
 have U2:=hid (U.out.sg hs.sg (by omega) (zxd S1.out H.out l0))
 have N2:=hid (N.out.low (hs.sg.low S1.out.sh))
 have S2:=hid (S1.out.trans hs)
 have z2:=hs.sg.size
 clear U N hs
 have U:=U2
 have N:=N2
 clear U2 N2
 go_wp2_with fail
 first|refine bodyPost_end (v:= .tuple #[]) (by simp [results,Tryz.results73,go_sem]) rfl ?_ |refine bodyPost_ret (v:= .tuple #[]) (by simp [results,Tryz.results73,go_sem]) rfl ?_
 have hfin:=((SST.refl H.out).below HBA.out).trans S2.out
 have hx:xs++(zzb t)=(xs++zzb t):=by simp
 first|exact ⟨_,rfl,hfin.cast hx.symm⟩|exact ⟨_,rfl,hfin.cast (by simp [List.append_assoc])⟩
theorem zjh {t:Tree} {k:Nat} (h:t.op=k):zzj t=z1q k t.name (t.kids.map zzb) (t.kids.map zzj) (zzb t):=by rw [showS_eq,h]
theorem z1i {t u:Tree} {i:Nat} (h:t.kids[i]? =some u):(t.kids.map zzj).getD i []=zzj u:=by
 rw [List.getD_eq_getElem?_getD,List.getElem?_map,h];rfl
theorem zwy {t:Tree} (h:t.op=6):zzj t=zkp t:=by rw [zjh h];rfl
theorem kids_le (t:Tree):t.kids.length≤zxs t:=by
 rw [zkl]
 have h:∀ l:List Tree,l.length≤zxz l:=by
  intro l
  induction l with
  |nil=>exact Nat.le_refl _
  |cons a r ih=>show r.length+1≤zxs a+zxz r;have:=zkl a;omega
 have:=h t.kids
 omega
theorem stmtS_any (sb:Nat) (pl:Nat→Nat):∀ (N:Nat) (t:Tree),zxs t≤N→N≤1000000→OkT t→ShS sb pl t∧ShB sb pl t:=by
 intro N
 induction N with
 |zero=>intro t h;have:=zkl t;omega
 |succ N ih=>
  intro t hs hN hT
  have hE:∀ (k:Nat) (u:Tree),t.kids[k]? =some u→ShE sb pl u:=fun k u hu=>exprS_any sb pl N u (by have:=zk0 hu;omega) (hT.kid hu)
  have hS:Hid (∀ (k:Nat) (u:Tree),t.kids[k]? =some u→ShS sb pl u):=fun k u hu=>(ih u (by have:=zk0 hu;omega) (by omega) (hT.kid hu)).1
  have hB:∀ (k:Nat) (u:Tree),t.kids[k]? =some u→ShB sb pl u:=fun k u hu=>(ih u (by have:=zk0 hu;omega) (by omega) (hT.kid hu)).2
  have hA:=hT.least
  unfold z08 at hA
  have bl:ShB sb pl t:=fun w v xs b h hn hl=>blockS_any w sb v xs pl b t h hn hS (by have:=kids_le t;omega) hl
  refine ⟨?_,bl⟩
  intro w v xs b h hn hl
  by_cases hr:t.op<6∨14<t.op
  ·have e:zzj t=zzb t:=by rw [showS_eq];unfold z1q;repeat rw [if_neg (by omega)]
   rw [e] at hl ⊢
   exact stmt_else w sb v xs pl b t h hn (hid hr) (hid (exprS_any sb pl (N+1) t hs hT)) hl
  have hx:t.op=6∨t.op=7∨t.op=8∨t.op=9∨t.op=10∨t.op=11∨t.op=12∨t.op=13∨t.op=14:=by omega
  rcases hx with o|o|o|o|o|o|o|o|o
  ·rw [zwy o] at hl ⊢
   exact stmt_6 w sb v xs pl b t h hn o (hid bl) hl
  ·simp [o] at hA
   obtain ⟨u0,h0⟩:=zx4 (t:=t) (i:=0) (by omega)
   have e:zzj t= [t.name,cDef]++(zzb u0++ [zzk]):=by rw [zjh o,←zqv h0];rfl
   rw [e] at hl ⊢
   exact stmt_7 w sb v xs pl b t u0 h hn o (hid h0) (hid (hE 0 u0 h0)) hl
  ·simp [o] at hA
   obtain ⟨u0,h0⟩:=zx4 (t:=t) (i:=0) (by omega)
   have e:zzj t= [t.name,cEq]++(zzb u0++ [zzk]):=by rw [zjh o,←zqv h0];rfl
   rw [e] at hl ⊢
   exact stmt_8 w sb v xs pl b t u0 h hn o (hid h0) (hid (hE 0 u0 h0)) hl
  ·simp [o] at hA
   obtain ⟨u0,h0⟩:=zx4 (t:=t) (i:=0) (by omega)
   obtain ⟨u1,h1⟩:=zx4 (t:=t) (i:=1) (by omega)
   have e:zzj t=zzb u0++ [cDot,t.name,cEq]++(zzb u1++ [zzk]):=by rw [zjh o,←zqv h0,←zqv h1];rfl
   rw [e] at hl ⊢
   exact stmt_9 w sb v xs pl b t u0 u1 h hn o (hid h0) (hid (hE 0 u0 h0)) (hid h1) (hid (hE 1 u1 h1)) hl
  ·simp [o] at hA
   obtain ⟨u0,h0⟩:=zx4 (t:=t) (i:=0) (by omega)
   obtain ⟨u1,h1,b1⟩:=hT.body (.inl o)
   by_cases h2:2<t.kids.length
   ·obtain ⟨u2,hu2⟩:=zx4 h2
    have e:zzj t= [kIf]++zzb u0++zkp u1++([zjd]++zzj u2):=by
     rw [zjh o,←zqv h0,←zwy b1,←z1i h1,←z1i hu2]
     show _++_++_++(if 2<(t.kids.map zzj).length then _ else _)=_
     rw [if_pos (by rw [List.length_map];exact h2)]
    rw [e] at hl ⊢
    exact stmt_10b w sb v xs pl b t u0 u1 u2 h hn o (hid h0) (hid (hE 0 u0 h0)) (hid h1) (hid (hB 1 u1 h1)) (hid hu2) (hid (hS.out 2 u2 hu2)) h2 hl
   ·have e:zzj t= [kIf]++zzb u0++zkp u1:=by
     rw [zjh o,←zqv h0,←zwy b1,←z1i h1]
     show _++_++_++(if 2<(t.kids.map zzj).length then _ else _)=_
     rw [if_neg (by rw [List.length_map];exact h2),List.append_nil]
    rw [e] at hl ⊢
    exact stmt_10a w sb v xs pl b t u0 u1 h hn o (hid h0) (hid (hE 0 u0 h0)) (hid h1) (hid (hB 1 u1 h1)) (by omega) hl
  ·simp [o] at hA
   obtain ⟨u0,h0⟩:=zx4 (t:=t) (i:=0) (by omega)
   obtain ⟨u1,h1,b1⟩:=hT.body (.inr o)
   have e:zzj t= [kFor]++zzb u0++zkp u1:=by rw [zjh o,←zqv h0,←zwy b1,←z1i h1];rfl
   rw [e] at hl ⊢
   exact stmt_11 w sb v xs pl b t u0 u1 h hn o (hid h0) (hid (hE 0 u0 h0)) (hid h1) (hid (hB 1 u1 h1)) hl
  ·simp [o] at hA
   obtain ⟨u0,h0⟩:=zx4 (t:=t) (i:=0) (by omega)
   have e:zzj t= [zjc]++([cLB]++zzb u0++ [cRB])++ [zzk]:=by rw [zjh o,←zqv h0];rfl
   rw [e] at hl ⊢
   exact stmt_12 w sb v xs pl b t u0 h hn o (hid h0) (hid (hE 0 u0 h0)) hl
  ·by_cases h1:t.kids.length=0
   ·have e:zzj t= [zqa]++ [zzk]:=by
     rw [zjh o,List.length_eq_zero_iff.1 h1];rfl
    rw [e] at hl ⊢
    exact stmt_13b w sb v xs pl b t h hn o h1 hl
   ·obtain ⟨u0,h0⟩:=zx4 (t:=t) (i:=0) (by omega)
    have e:zzj t= [zqa]++(zzb u0++ [zzk]):=by rw [zjh o,←zqv h0];rfl
    rw [e] at hl ⊢
    exact stmt_13a w sb v xs pl b t u0 h hn o (hid h0) (hid (hE 0 u0 h0)) hl
  ·simp [o] at hA
   obtain ⟨u0,h0⟩:=zx4 (t:=t) (i:=0) (by omega)
   have e:zzj t=zzb u0++ [zzk]:=by rw [zjh o,←zqv h0];rfl
   rw [e] at hl ⊢
   exact stmt_14 w sb v xs pl b t u0 h hn o (hid h0) (hid (hE 0 u0 h0)) hl
theorem z2k (u:Tree):2≤(zzr u).length:=by unfold zzr typT;split<;>simp
theorem structS_any (w:World) (sb:Nat) (v:Value) (xs:List Tx) (pl:Nat→Nat) (b:Nat) (t:Tree) (h:SH w sb v xs) (hn:NodeAt (fun x=>x<sb) pl w b t) (hk6:t.kids.length≤1000000) (hl:xs.length+(([zwn,t.name,zkh,cLC]++(t.kids.map fun k=>zzr k++ [zzk]).flatten++ [cRC])).length+1≤1000000):
 Calls Tryz.prog 69 #[.pointer (some ⟨sb,0,none⟩),.agg #[.pointer (some ⟨b,0,none⟩)]] w (SQ sb v w (xs++([zwn,t.name,zkh,cLC]++(t.kids.map fun k=>zzr k++ [zzk]).flatten++ [cRC]))):=by
 have H:=hid h
 have hlt:=h.lt
 have HBA:=hid (b1 w (.cells #[.pointer (some ⟨b,0,none⟩)] 25))
 have S0:=hid (SST.refl (h.below (b1 w (.cells #[.pointer (some ⟨b,0,none⟩)] 25))))
 have U:=hid (PtrAt.new w (some ⟨b,0,none⟩))
 have N:=hid (hn.bl (b1 w (.cells #[.pointer (some ⟨b,0,none⟩)] 25)))
 have l0:=U.out.lt
 clear h hn
 have hfo:=zx1
 have hfn:=zzw
 clear hfo hfn
 go_enter Tryz.func69,Tryz.ntmps69
 have U0:=U.out.c0
 go_wp2_with fail
 clear U0
 generalize w.alloc (.cells #[.pointer (some ⟨b,0,none⟩)] 25)=wa at*
 simp only [List.length_append,List.length_cons,List.length_nil] at hl
 obtain ⟨Ao,co,hro⟩:=N.out.rowOf
 refine (zjr _ _ _ _ _ _ _ _ _ _ hro).mono ?_
 rintro e w1 ⟨rfl,hb⟩
 clear hro
 have U1:=hid (U.out.below hb)
 have N1:=hid (N.out.bl hb)
 have S1:=hid (S0.out.below hb)
 have z1:=hb.size
 clear U N
 have U:=U1
 have N:=N1
 clear U1 N1
 clear hb
 have C2:=hid (show ∀ (j:Nat) (y:Tx),([zwn,t.name,zkh,cLC]:List Tx)[j]? =some y→(w1.alloc (.cells #[.string ⟨#[116,121,112,101]⟩,.string ⟨t.name.toArray⟩,.string ⟨#[115,116,114,117,99,116]⟩,.string ⟨#[123]⟩] 9)).cell? ⟨w1.heap.size,j,none⟩=some (.string ⟨y.toArray⟩) from zzl w1 [zwn,t.name,zkh,cLC])
 have U2:=hid (U.out.below (b1 w1 (.cells #[.string ⟨#[116,121,112,101]⟩,.string ⟨t.name.toArray⟩,.string ⟨#[115,116,114,117,99,116]⟩,.string ⟨#[123]⟩] 9)))
 have N2:=hid (N.out.bl (b1 w1 (.cells #[.string ⟨#[116,121,112,101]⟩,.string ⟨t.name.toArray⟩,.string ⟨#[115,116,114,117,99,116]⟩,.string ⟨#[123]⟩] 9)))
 have S2:=hid (S1.out.below (b1 w1 (.cells #[.string ⟨#[116,121,112,101]⟩,.string ⟨t.name.toArray⟩,.string ⟨#[115,116,114,117,99,116]⟩,.string ⟨#[123]⟩] 9)))
 have z2:=(b1 w1 (.cells #[.string ⟨#[116,121,112,101]⟩,.string ⟨t.name.toArray⟩,.string ⟨#[115,116,114,117,99,116]⟩,.string ⟨#[123]⟩] 9)).size
 clear U N
 have U:=U2
 have N:=N2
 clear U2 N2
 have U0:=U.out.c0
 go_wp2_with fail
 clear U0
 generalize w1.alloc (.cells #[.string ⟨#[116,121,112,101]⟩,.string ⟨t.name.toArray⟩,.string ⟨#[115,116,114,117,99,116]⟩,.string ⟨#[123]⟩] 9)=wb2 at*
 refine (zz8 _ sb _ _ w1.heap.size 4 [zwn,t.name,zkh,cLC] S2.out.sh (hid rfl) C2 (by omega) (by first|omega|(simp only [List.length_append,List.length_cons,List.length_nil];omega)|(simp only [List.length_append,List.length_cons,List.length_nil] at hl ⊢;omega))).mono ?_
 rintro e w3 ⟨v3,rfl,hs⟩
 clear C2
 have U3:=hid (U.out.sg hs.sg (by omega) (zxd S2.out H.out l0))
 have N3:=hid (N.out.low (hs.sg.low S2.out.sh))
 have S3:=hid (S2.out.trans hs)
 have z3:=hs.sg.size
 clear U N hs
 have U:=U3
 have N:=N3
 clear U3 N3
 have U0:=U.out.c0
 go_wp2_with fail
 clear U0
 obtain ⟨Ao,co,hro⟩:=N.out.rowOf
 refine (zw2 _ _ _ _ _ _ _ _ _ _ hro).mono ?_
 rintro e w4 ⟨rfl,hb⟩
 clear hro
 have U4:=hid (U.out.below hb)
 have N4:=hid (N.out.bl hb)
 have S4:=hid (S3.out.below hb)
 have z4:=hb.size
 clear U N
 have U:=U4
 have N:=N4
 clear U4 N4
 clear hb
 go_wp2_with fail
 go_loopw [12] (fun i wr=>BlRel sb v w wa xs pl b t [zwn,t.name,zkh,cLC] (t.kids.map fun k=>zzr k++ [zzk]) i wr) (fun i _=>t.kids.length - (intOf i).toNat)
 case atStart=>exact ⟨0,_,Nat.zero_le _,rfl,by show SST _ _ _ _ _ _;simpa using S4.out,U,N⟩
 case round=>
  obtain ⟨k,vr,hk,rfl,S,U,N⟩:=hrel
  by_cases hlt:k<t.kids.length
  ·skip
   obtain ⟨u,hu⟩:=zx4 hlt
   have hy:(t.kids.map fun k=>zzr k++ [zzk])[k]? =some (zzr u++ [zzk]):=by rw [List.getElem?_map,hu];rfl
   have HU:=hid hu
   have HCT:=hid (take_flat _ k _ hy)
   have hfl:=z0y _ k _ hy
   clear hu hy
   have hki:(k:Int)<(t.kids.length:Int):=by omega
   try simp only [List.length_append,List.length_cons,List.length_nil] at hfl
   have U0:=U.out.c0
   go_wp2_with fail
   clear U0
   obtain ⟨nm,hm,hc⟩:=zkd N.out k u HU.out
   refine hc.mono ?_
   rintro e w5 ⟨rfl,hb⟩
   have M:=hid (hm.bl hb)
   have U5:=hid (U.out.below hb)
   have N5:=hid (N.out.bl hb)
   have S5:=hid (S.out.below hb)
   have z5:=hb.size
   clear U N
   have U:=U5
   have N:=N5
   clear U5 N5
   clear hb hc hm
   go_wp2_with fail
   refine (z09 _ sb _ _ pl nm u S5.out.sh M.out (by have h7:=z2k u;simp only [List.length_append,List.length_cons,List.length_nil];omega)).mono ?_
   rintro e w6 ⟨v6,rfl,hs⟩
   have U6:=hid (U.out.sg hs.sg (by omega) (zxd S5.out H.out l0))
   have N6:=hid (N.out.low (hs.sg.low S5.out.sh))
   have S6:=hid (S5.out.trans hs)
   have z6:=hs.sg.size
   clear U N hs
   have U:=U6
   have N:=N6
   clear U6 N6
   clear M
   have C7:=hid (show ∀ (j:Nat) (y:Tx),([zzk]:List Tx)[j]? =some y→(w6.alloc (.cells #[.string ⟨#[59]⟩] 9)).cell? ⟨w6.heap.size,j,none⟩=some (.string ⟨y.toArray⟩) from zzl w6 [zzk])
   have U7:=hid (U.out.below (b1 w6 (.cells #[.string ⟨#[59]⟩] 9)))
   have N7:=hid (N.out.bl (b1 w6 (.cells #[.string ⟨#[59]⟩] 9)))
   have S7:=hid (S6.out.below (b1 w6 (.cells #[.string ⟨#[59]⟩] 9)))
   have z7:=(b1 w6 (.cells #[.string ⟨#[59]⟩] 9)).size
   clear U N
   have U:=U7
   have N:=N7
   clear U7 N7
   have U0:=U.out.c0
   go_wp2_with fail
   clear U0
   generalize w6.alloc (.cells #[.string ⟨#[59]⟩] 9)=wb7 at*
   refine (zz8 _ sb _ _ w6.heap.size 1 [zzk] S7.out.sh (hid rfl) C7 (by omega) (by first|omega|(simp only [List.length_append,List.length_cons,List.length_nil];omega)|(simp only [List.length_append,List.length_cons,List.length_nil] at hl ⊢;omega))).mono ?_
   rintro e w8 ⟨v8,rfl,hs⟩
   clear C7
   have U8:=hid (U.out.sg hs.sg (by omega) (zxd S7.out H.out l0))
   have N8:=hid (N.out.low (hs.sg.low S7.out.sh))
   have S8:=hid (S7.out.trans hs)
   have z8:=hs.sg.size
   clear U N hs
   have U:=U8
   have N:=N8
   clear U8 N8
   go_wp2_with fail
   go_roundw
   case rel=>exact ⟨k+1,_,by omega,by go_num,by show SST _ _ _ _ _ _;have h9:=S8.out;rw [HCT.out];simpa [List.append_assoc] using h9,U,N⟩
   case measure=>simp [intOf];omega
  ·skip
   obtain rfl:k=t.kids.length:=by omega
   have htk:((t.kids.map fun k=>zzr k++ [zzk])).take t.kids.length=(t.kids.map fun k=>zzr k++ [zzk]):=List.take_of_length_le (by rw [List.length_map];exact Nat.le_refl _)
   rw [htk] at S
   clear htk
   have C10:=hid (show ∀ (j:Nat) (y:Tx),([cRC]:List Tx)[j]? =some y→(wr.alloc (.cells #[.string ⟨#[125]⟩] 9)).cell? ⟨wr.heap.size,j,none⟩=some (.string ⟨y.toArray⟩) from zzl wr [cRC])
   have U10:=hid (U.out.below (b1 wr (.cells #[.string ⟨#[125]⟩] 9)))
   have N10:=hid (N.out.bl (b1 wr (.cells #[.string ⟨#[125]⟩] 9)))
   have S10:=hid (S.out.below (b1 wr (.cells #[.string ⟨#[125]⟩] 9)))
   have z10:=(b1 wr (.cells #[.string ⟨#[125]⟩] 9)).size
   clear U N
   have U:=U10
   have N:=N10
   clear U10 N10
   have U0:=U.out.c0
   go_wp2_with fail
   clear U0
   generalize wr.alloc (.cells #[.string ⟨#[125]⟩] 9)=wb10 at*
   refine (zz8 _ sb _ _ wr.heap.size 1 [cRC] S10.out.sh (hid rfl) C10 (by omega) (by first|omega|(simp only [List.length_append,List.length_cons,List.length_nil];omega)|(simp only [List.length_append,List.length_cons,List.length_nil] at hl ⊢;omega))).mono ?_
   rintro e w11 ⟨v11,rfl,hs⟩
   clear C10
   have U11:=hid (U.out.sg hs.sg (by omega) (zxd S10.out H.out l0))
   have N11:=hid (N.out.low (hs.sg.low S10.out.sh))
   have S11:=hid (S10.out.trans hs)
   have z11:=hs.sg.size
   clear U N hs
   have U:=U11
   have N:=N11
   clear U11 N11
   go_wp2_with fail
   first|refine bodyPost_end (v:= .tuple #[]) (by simp [results,Tryz.results69,go_sem]) rfl ?_ |refine bodyPost_ret (v:= .tuple #[]) (by simp [results,Tryz.results69,go_sem]) rfl ?_
   have hfin:=((SST.refl H.out).below HBA.out).trans S11.out
   have hx:xs++([zwn,t.name,zkh,cLC]++(t.kids.map fun k=>zzr k++ [zzk]).flatten++ [cRC])=((xs++ [zwn,t.name,zkh,cLC]++(t.kids.map fun k=>zzr k++ [zzk]).flatten)++ [cRC]):=by simp [List.append_assoc]
   first|exact ⟨_,rfl,hfin.cast hx.symm⟩|exact ⟨_,rfl,hfin.cast (by simp [List.append_assoc])⟩
def zvd (t:Tree):List (List Tx):=(t.kids.take (t.kids.length - 1)).map zzr
theorem pars_len (t:Tree):(zvd t).length=t.kids.length - 1:=by unfold zvd;rw [List.length_map,List.length_take];omega
theorem pars_at {t:Tree} {k:Nat} {u:Tree} (h:t.kids[k]? =some u) (hk:k<t.kids.length - 1):(zvd t)[k]? =some (zzr u):=by
 unfold zvd;rw [List.getElem?_map,List.getElem?_take,if_pos hk,h];rfl
theorem function_a (w:World) (sb:Nat) (v:Value) (xs:List Tx) (pl:Nat→Nat) (b:Nat) (t:Tree) (m:Nat) (ub:Tree) (h:SH w sb v xs) (hn:NodeAt (fun x=>x<sb) pl w b t) (hlen:t.kids.length=m+1) (hk6:t.kids.length≤1000000) (hub:Hid (t.kids[m]? =some ub)) (hSb:Hid (ShS sb pl ub)) (hty:t.typ= []) (hl:xs.length+(([zk8,t.name]++([cLB]++zz3 (zvd t)++ [cRB])++zzj ub)).length+1≤1000000):
 Calls Tryz.prog 72 #[.pointer (some ⟨sb,0,none⟩),.agg #[.pointer (some ⟨b,0,none⟩)]] w (SQ sb v w (xs++([zk8,t.name]++([cLB]++zz3 (zvd t)++ [cRB])++zzj ub))):=by
 have hpl:=pars_len t
 rw [hlen] at hpl
 have hpl2:(zvd t).length=m:=by omega
 have HPL:=hid hpl2
 have hcl:=zvq (zvd t)
 rw [hpl2] at hcl
 clear hpl hpl2
 have hsub:((t.kids.length:Int) - 1)=(m:Int):=by omega
 have hlen1:((t.kids.length:Int))=(m:Int)+1:=by omega
 have HLEN:=hid hlen
 clear hlen
 have H:=hid h
 have hlt:=h.lt
 have HBA:=hid (b1 w (.cells #[.pointer (some ⟨b,0,none⟩)] 25))
 have S0:=hid (SST.refl (h.below (b1 w (.cells #[.pointer (some ⟨b,0,none⟩)] 25))))
 have U:=hid (PtrAt.new w (some ⟨b,0,none⟩))
 have N:=hid (hn.bl (b1 w (.cells #[.pointer (some ⟨b,0,none⟩)] 25)))
 have l0:=U.out.lt
 clear h hn
 have hfo:=zx1
 have hfn:=zzw
 clear hfo hfn
 go_enter Tryz.func72,Tryz.ntmps72
 have U0:=U.out.c0
 go_wp2_with fail
 clear U0
 generalize w.alloc (.cells #[.pointer (some ⟨b,0,none⟩)] 25)=wa at*
 simp only [List.length_append,List.length_cons,List.length_nil] at hl
 have hmf:∀ (fn:Fn) (first cap:Array Value) (w:World),(Instr.makeFunc fn first cap).run Tryz.prog w= .ok (.func fn first cap) w:=fun _ _ _ _=>rfl
 have HSH:Hid (Shows 71 sb pl t m (zvd t)):=by
  intro k u ys hk hu hy w1 v1 xs1 nb h1 h2 h3
  rw [pars_at hu (by rw [HLEN.out];omega)] at hy
  obtain rfl:=Option.some.inj hy
  have h7:=z2k u
  exact z09 w1 sb v1 xs1 pl nb u h1 h2 (by omega)
 obtain ⟨Ao,co,hro⟩:=N.out.rowOf
 refine (zjr _ _ _ _ _ _ _ _ _ _ hro).mono ?_
 rintro e w1 ⟨rfl,hb⟩
 clear hro
 have U1:=hid (U.out.below hb)
 have N1:=hid (N.out.bl hb)
 have S1:=hid (S0.out.below hb)
 have z1:=hb.size
 clear U N
 have U:=U1
 have N:=N1
 clear U1 N1
 clear hb
 have C2:=hid (show ∀ (j:Nat) (y:Tx),([zk8,t.name]:List Tx)[j]? =some y→(w1.alloc (.cells #[.string ⟨#[102,117,110,99]⟩,.string ⟨t.name.toArray⟩] 9)).cell? ⟨w1.heap.size,j,none⟩=some (.string ⟨y.toArray⟩) from zzl w1 [zk8,t.name])
 have U2:=hid (U.out.below (b1 w1 (.cells #[.string ⟨#[102,117,110,99]⟩,.string ⟨t.name.toArray⟩] 9)))
 have N2:=hid (N.out.bl (b1 w1 (.cells #[.string ⟨#[102,117,110,99]⟩,.string ⟨t.name.toArray⟩] 9)))
 have S2:=hid (S1.out.below (b1 w1 (.cells #[.string ⟨#[102,117,110,99]⟩,.string ⟨t.name.toArray⟩] 9)))
 have z2:=(b1 w1 (.cells #[.string ⟨#[102,117,110,99]⟩,.string ⟨t.name.toArray⟩] 9)).size
 clear U N
 have U:=U2
 have N:=N2
 clear U2 N2
 have U0:=U.out.c0
 go_wp2_with fail
 clear U0
 generalize w1.alloc (.cells #[.string ⟨#[102,117,110,99]⟩,.string ⟨t.name.toArray⟩] 9)=wb2 at*
 refine (zz8 _ sb _ _ w1.heap.size 2 [zk8,t.name] S2.out.sh (hid rfl) C2 (by omega) (by first|omega|(simp only [List.length_append,List.length_cons,List.length_nil];omega)|(simp only [List.length_append,List.length_cons,List.length_nil] at hl ⊢;omega))).mono ?_
 rintro e w3 ⟨v3,rfl,hs⟩
 clear C2
 have U3:=hid (U.out.sg hs.sg (by omega) (zxd S2.out H.out l0))
 have N3:=hid (N.out.low (hs.sg.low S2.out.sh))
 have S3:=hid (S2.out.trans hs)
 have z3:=hs.sg.size
 clear U N hs
 have U:=U3
 have N:=N3
 clear U3 N3
 have U0:=U.out.c0
 go_wp2_with fail
 clear U0
 obtain ⟨Ao,co,hro⟩:=N.out.rowOf
 refine (zw2 _ _ _ _ _ _ _ _ _ _ hro).mono ?_
 rintro e w4 ⟨rfl,hb⟩
 clear hro
 have U4:=hid (U.out.below hb)
 have N4:=hid (N.out.bl hb)
 have S4:=hid (S3.out.below hb)
 have z4:=hb.size
 clear U N
 have U:=U4
 have N:=N4
 clear U4 N4
 clear hb
 have U0:=U.out.c0
 go_wp2_with fail
 clear U0
 refine (z0d _ sb _ _ pl b t m (zvd t) S4.out.sh N.out HPL (by rw [HLEN.out];omega) HSH (by simp only [List.length_append,List.length_cons,List.length_nil];omega)).mono ?_
 rintro e w5 ⟨v5,rfl,hs⟩
 have U5:=hid (U.out.sg hs.sg (by omega) (zxd S4.out H.out l0))
 have N5:=hid (N.out.low (hs.sg.low S4.out.sh))
 have S5:=hid (S4.out.trans hs)
 have z5:=hs.sg.size
 clear U N hs
 have U:=U5
 have N:=N5
 clear U5 N5
 have U0:=U.out.c0
 go_wp2_with fail
 clear U0
 obtain ⟨Ao,co,hro⟩:=N.out.rowOf
 refine (typ_of _ _ _ _ _ _ _ _ _ _ hro).mono ?_
 rintro e w6 ⟨rfl,hb⟩
 clear hro
 have U6:=hid (U.out.below hb)
 have N6:=hid (N.out.bl hb)
 have S6:=hid (S5.out.below hb)
 have z6:=hb.size
 clear U N
 have U:=U6
 have N:=N6
 clear U6 N6
 clear hb
 have U0:=U.out.c0
 go_wp2_with fail
 clear U0
 obtain ⟨nm,hm,hc⟩:=zkd N.out m ub hub.out
 refine hc.mono ?_
 rintro e w7 ⟨rfl,hb⟩
 have M:=hid (hm.bl hb)
 have U7:=hid (U.out.below hb)
 have N7:=hid (N.out.bl hb)
 have S7:=hid (S6.out.below hb)
 have z7:=hb.size
 clear U N
 have U:=U7
 have N:=N7
 clear U7 N7
 clear hb hc hm
 go_wp2_with fail
 refine (hSb.out _ _ _ nm S7.out.sh M.out (by first|omega|(simp only [List.length_append,List.length_cons,List.length_nil];omega)|(simp only [List.length_append,List.length_cons,List.length_nil] at hl ⊢;omega))).mono ?_
 rintro e w8 ⟨v8,rfl,hs⟩
 have U8:=hid (U.out.sg hs.sg (by omega) (zxd S7.out H.out l0))
 have N8:=hid (N.out.low (hs.sg.low S7.out.sh))
 have S8:=hid (S7.out.trans hs)
 have z8:=hs.sg.size
 clear U N hs
 have U:=U8
 have N:=N8
 clear U8 N8
 clear M
 go_wp2_with fail
 first|refine bodyPost_end (v:= .tuple #[]) (by simp [results,Tryz.results72,go_sem]) rfl ?_ |refine bodyPost_ret (v:= .tuple #[]) (by simp [results,Tryz.results72,go_sem]) rfl ?_
 have hfin:=((SST.refl H.out).below HBA.out).trans S8.out
 have hx:xs++([zk8,t.name]++([cLB]++zz3 (zvd t)++ [cRB])++zzj ub)=(((xs++ [zk8,t.name])++([cLB]++zz3 (zvd t)++ [cRB]))++zzj ub):=by simp [List.append_assoc]
 first|exact ⟨_,rfl,hfin.cast hx.symm⟩|exact ⟨_,rfl,hfin.cast (by simp [List.append_assoc])⟩
theorem function_b (w:World) (sb:Nat) (v:Value) (xs:List Tx) (pl:Nat→Nat) (b:Nat) (t:Tree) (m:Nat) (ub:Tree) (h:SH w sb v xs) (hn:NodeAt (fun x=>x<sb) pl w b t) (hlen:t.kids.length=m+1) (hk6:t.kids.length≤1000000) (hub:Hid (t.kids[m]? =some ub)) (hSb:Hid (ShS sb pl ub)) (hty:Hid (t.typ≠ [])) (hl:xs.length+(([zk8,t.name]++([cLB]++zz3 (zvd t)++ [cRB])++typT t.typ++zzj ub)).length+1≤1000000):
 Calls Tryz.prog 72 #[.pointer (some ⟨sb,0,none⟩),.agg #[.pointer (some ⟨b,0,none⟩)]] w (SQ sb v w (xs++([zk8,t.name]++([cLB]++zz3 (zvd t)++ [cRB])++typT t.typ++zzj ub))):=by
 have hpl:=pars_len t
 rw [hlen] at hpl
 have hpl2:(zvd t).length=m:=by omega
 have HPL:=hid hpl2
 have hcl:=zvq (zvd t)
 rw [hpl2] at hcl
 clear hpl hpl2
 have hsub:((t.kids.length:Int) - 1)=(m:Int):=by omega
 have hlen1:((t.kids.length:Int))=(m:Int)+1:=by omega
 have HLEN:=hid hlen
 clear hlen
 have htl:1≤(typT t.typ).length:=by unfold typT;split<;>simp
 have hem:t.typ.isEmpty=false:=by simpa using hty.out
 have H:=hid h
 have hlt:=h.lt
 have HBA:=hid (b1 w (.cells #[.pointer (some ⟨b,0,none⟩)] 25))
 have S0:=hid (SST.refl (h.below (b1 w (.cells #[.pointer (some ⟨b,0,none⟩)] 25))))
 have U:=hid (PtrAt.new w (some ⟨b,0,none⟩))
 have N:=hid (hn.bl (b1 w (.cells #[.pointer (some ⟨b,0,none⟩)] 25)))
 have l0:=U.out.lt
 clear h hn
 have hfo:=zx1
 have hfn:=zzw
 clear hfo hfn
 go_enter Tryz.func72,Tryz.ntmps72
 have U0:=U.out.c0
 go_wp2_with fail
 clear U0
 generalize w.alloc (.cells #[.pointer (some ⟨b,0,none⟩)] 25)=wa at*
 simp only [List.length_append,List.length_cons,List.length_nil] at hl
 have hmf:∀ (fn:Fn) (first cap:Array Value) (w:World),(Instr.makeFunc fn first cap).run Tryz.prog w= .ok (.func fn first cap) w:=fun _ _ _ _=>rfl
 have HSH:Hid (Shows 71 sb pl t m (zvd t)):=by
  intro k u ys hk hu hy w1 v1 xs1 nb h1 h2 h3
  rw [pars_at hu (by rw [HLEN.out];omega)] at hy
  obtain rfl:=Option.some.inj hy
  have h7:=z2k u
  exact z09 w1 sb v1 xs1 pl nb u h1 h2 (by omega)
 obtain ⟨Ao,co,hro⟩:=N.out.rowOf
 refine (zjr _ _ _ _ _ _ _ _ _ _ hro).mono ?_
 rintro e w1 ⟨rfl,hb⟩
 clear hro
 have U1:=hid (U.out.below hb)
 have N1:=hid (N.out.bl hb)
 have S1:=hid (S0.out.below hb)
 have z1:=hb.size
 clear U N
 have U:=U1
 have N:=N1
 clear U1 N1
 clear hb
 have C2:=hid (show ∀ (j:Nat) (y:Tx),([zk8,t.name]:List Tx)[j]? =some y→(w1.alloc (.cells #[.string ⟨#[102,117,110,99]⟩,.string ⟨t.name.toArray⟩] 9)).cell? ⟨w1.heap.size,j,none⟩=some (.string ⟨y.toArray⟩) from zzl w1 [zk8,t.name])
 have U2:=hid (U.out.below (b1 w1 (.cells #[.string ⟨#[102,117,110,99]⟩,.string ⟨t.name.toArray⟩] 9)))
 have N2:=hid (N.out.bl (b1 w1 (.cells #[.string ⟨#[102,117,110,99]⟩,.string ⟨t.name.toArray⟩] 9)))
 have S2:=hid (S1.out.below (b1 w1 (.cells #[.string ⟨#[102,117,110,99]⟩,.string ⟨t.name.toArray⟩] 9)))
 have z2:=(b1 w1 (.cells #[.string ⟨#[102,117,110,99]⟩,.string ⟨t.name.toArray⟩] 9)).size
 clear U N
 have U:=U2
 have N:=N2
 clear U2 N2
 have U0:=U.out.c0
 go_wp2_with fail
 clear U0
 generalize w1.alloc (.cells #[.string ⟨#[102,117,110,99]⟩,.string ⟨t.name.toArray⟩] 9)=wb2 at*
 refine (zz8 _ sb _ _ w1.heap.size 2 [zk8,t.name] S2.out.sh (hid rfl) C2 (by omega) (by first|omega|(simp only [List.length_append,List.length_cons,List.length_nil];omega)|(simp only [List.length_append,List.length_cons,List.length_nil] at hl ⊢;omega))).mono ?_
 rintro e w3 ⟨v3,rfl,hs⟩
 clear C2
 have U3:=hid (U.out.sg hs.sg (by omega) (zxd S2.out H.out l0))
 have N3:=hid (N.out.low (hs.sg.low S2.out.sh))
 have S3:=hid (S2.out.trans hs)
 have z3:=hs.sg.size
 clear U N hs
 have U:=U3
 have N:=N3
 clear U3 N3
 have U0:=U.out.c0
 go_wp2_with fail
 clear U0
 obtain ⟨Ao,co,hro⟩:=N.out.rowOf
 refine (zw2 _ _ _ _ _ _ _ _ _ _ hro).mono ?_
 rintro e w4 ⟨rfl,hb⟩
 clear hro
 have U4:=hid (U.out.below hb)
 have N4:=hid (N.out.bl hb)
 have S4:=hid (S3.out.below hb)
 have z4:=hb.size
 clear U N
 have U:=U4
 have N:=N4
 clear U4 N4
 clear hb
 have U0:=U.out.c0
 go_wp2_with fail
 clear U0
 refine (z0d _ sb _ _ pl b t m (zvd t) S4.out.sh N.out HPL (by rw [HLEN.out];omega) HSH (by simp only [List.length_append,List.length_cons,List.length_nil];omega)).mono ?_
 rintro e w5 ⟨v5,rfl,hs⟩
 have U5:=hid (U.out.sg hs.sg (by omega) (zxd S4.out H.out l0))
 have N5:=hid (N.out.low (hs.sg.low S4.out.sh))
 have S5:=hid (S4.out.trans hs)
 have z5:=hs.sg.size
 clear U N hs
 have U:=U5
 have N:=N5
 clear U5 N5
 have U0:=U.out.c0
 go_wp2_with fail
 clear U0
 obtain ⟨Ao,co,hro⟩:=N.out.rowOf
 refine (typ_of _ _ _ _ _ _ _ _ _ _ hro).mono ?_
 rintro e w6 ⟨rfl,hb⟩
 clear hro
 have U6:=hid (U.out.below hb)
 have N6:=hid (N.out.bl hb)
 have S6:=hid (S5.out.below hb)
 have z6:=hb.size
 clear U N
 have U:=U6
 have N:=N6
 clear U6 N6
 clear hb
 have U0:=U.out.c0
 go_wp2_with fail
 clear U0
 obtain ⟨Ao,co,hro⟩:=N.out.rowOf
 refine (typ_of _ _ _ _ _ _ _ _ _ _ hro).mono ?_
 rintro e w7 ⟨rfl,hb⟩
 clear hro
 have U7:=hid (U.out.below hb)
 have N7:=hid (N.out.bl hb)
 have S7:=hid (S6.out.below hb)
 have z7:=hb.size
 clear U N
 have U:=U7
 have N:=N7
 clear U7 N7
 clear hb
 go_wp2_with fail
 refine (z1p _ sb _ _ t.typ S7.out.sh (by simp only [List.length_append,List.length_cons,List.length_nil];omega)).mono ?_
 rintro e w8 ⟨v8,rfl,hs⟩
 have U8:=hid (U.out.sg hs.sg (by omega) (zxd S7.out H.out l0))
 have N8:=hid (N.out.low (hs.sg.low S7.out.sh))
 have S8:=hid (S7.out.trans hs)
 have z8:=hs.sg.size
 clear U N hs
 have U:=U8
 have N:=N8
 clear U8 N8
 have U0:=U.out.c0
 go_wp2_with fail
 clear U0
 obtain ⟨nm,hm,hc⟩:=zkd N.out m ub hub.out
 refine hc.mono ?_
 rintro e w9 ⟨rfl,hb⟩
 have M:=hid (hm.bl hb)
 have U9:=hid (U.out.below hb)
 have N9:=hid (N.out.bl hb)
 have S9:=hid (S8.out.below hb)
 have z9:=hb.size
 clear U N
 have U:=U9
 have N:=N9
 clear U9 N9
 clear hb hc hm
 go_wp2_with fail
 refine (hSb.out _ _ _ nm S9.out.sh M.out (by first|omega|(simp only [List.length_append,List.length_cons,List.length_nil];omega)|(simp only [List.length_append,List.length_cons,List.length_nil] at hl ⊢;omega))).mono ?_
 rintro e w10 ⟨v10,rfl,hs⟩
 have U10:=hid (U.out.sg hs.sg (by omega) (zxd S9.out H.out l0))
 have N10:=hid (N.out.low (hs.sg.low S9.out.sh))
 have S10:=hid (S9.out.trans hs)
 have z10:=hs.sg.size
 clear U N hs
 have U:=U10
 have N:=N10
 clear U10 N10
 clear M
 go_wp2_with fail
 first|refine bodyPost_end (v:= .tuple #[]) (by simp [results,Tryz.results72,go_sem]) rfl ?_ |refine bodyPost_ret (v:= .tuple #[]) (by simp [results,Tryz.results72,go_sem]) rfl ?_
 have hfin:=((SST.refl H.out).below HBA.out).trans S10.out
 have hx:xs++([zk8,t.name]++([cLB]++zz3 (zvd t)++ [cRB])++typT t.typ++zzj ub)=((((xs++ [zk8,t.name])++([cLB]++zz3 (zvd t)++ [cRB]))++typT t.typ)++zzj ub):=by simp [List.append_assoc]
 first|exact ⟨_,rfl,hfin.cast hx.symm⟩|exact ⟨_,rfl,hfin.cast (by simp [List.append_assoc])⟩
theorem decl_2 (w:World) (sb:Nat) (v:Value) (xs:List Tx) (pl:Nat→Nat) (b:Nat) (t:Tree) (h:SH w sb v xs) (hn:NodeAt (fun x=>x<sb) pl w b t) (hop:t.op=2) (hk6:t.kids.length≤1000000) (hl:xs.length+(([zwn,t.name,zkh,cLC]++(t.kids.map fun k=>zzr k++ [zzk]).flatten++ [cRC])).length+1≤1000000):
 Calls Tryz.prog 44 #[.pointer (some ⟨sb,0,none⟩),.agg #[.pointer (some ⟨b,0,none⟩)]] w (SQ sb v w (xs++([zwn,t.name,zkh,cLC]++(t.kids.map fun k=>zzr k++ [zzk]).flatten++ [cRC]))):=by
 have H:=hid h
 have hlt:=h.lt
 have HBA:=hid (b1 w (.cells #[.pointer (some ⟨b,0,none⟩)] 25))
 have S0:=hid (SST.refl (h.below (b1 w (.cells #[.pointer (some ⟨b,0,none⟩)] 25))))
 have U:=hid (PtrAt.new w (some ⟨b,0,none⟩))
 have N:=hid (hn.bl (b1 w (.cells #[.pointer (some ⟨b,0,none⟩)] 25)))
 have l0:=U.out.lt
 clear h hn
 have hfo:=zx1
 have hfn:=zzw
 clear hfo hfn
 go_enter Tryz.func44,Tryz.ntmps44
 have U0:=U.out.c0
 go_wp2_with fail
 clear U0
 generalize w.alloc (.cells #[.pointer (some ⟨b,0,none⟩)] 25)=wa at*
 obtain ⟨Ao,co,hro⟩:=N.out.rowOf
 refine (zkq _ _ _ _ _ _ _ _ _ _ hro).mono ?_
 rintro e w1 ⟨rfl,hb⟩
 clear hro
 have U1:=hid (U.out.below hb)
 have N1:=hid (N.out.bl hb)
 have S1:=hid (S0.out.below hb)
 have z1:=hb.size
 clear U N
 have U:=U1
 have N:=N1
 clear U1 N1
 clear hb
 have U0:=U.out.c0
 go_wp2_with fail
 clear U0
 refine (structS_any _ sb _ _ pl b t S1.out.sh N.out hk6 hl).mono ?_
 rintro e w2 ⟨v2,rfl,hs⟩
 have U2:=hid (U.out.sg hs.sg (by omega) (zxd S1.out H.out l0))
 have N2:=hid (N.out.low (hs.sg.low S1.out.sh))
 have S2:=hid (S1.out.trans hs)
 have z2:=hs.sg.size
 clear U N hs
 have U:=U2
 have N:=N2
 clear U2 N2
 go_wp2_with fail
 first|refine bodyPost_end (v:= .tuple #[]) (by simp [results,Tryz.results44,go_sem]) rfl ?_ |refine bodyPost_ret (v:= .tuple #[]) (by simp [results,Tryz.results44,go_sem]) rfl ?_
 have hfin:=((SST.refl H.out).below HBA.out).trans S2.out
 have hx:xs++([zwn,t.name,zkh,cLC]++(t.kids.map fun k=>zzr k++ [zzk]).flatten++ [cRC])=(xs++([zwn,t.name,zkh,cLC]++(t.kids.map fun k=>zzr k++ [zzk]).flatten++ [cRC])):=by simp
 first|exact ⟨_,rfl,hfin.cast hx.symm⟩|exact ⟨_,rfl,hfin.cast (by simp [List.append_assoc])⟩
theorem decl_3 (w:World) (sb:Nat) (v:Value) (xs:List Tx) (pl:Nat→Nat) (b:Nat) (t:Tree) (h:SH w sb v xs) (hn:NodeAt (fun x=>x<sb) pl w b t) (hop:t.op=3) (hl:xs.length+(([kVar]++zzr t++ [zzk])).length+1≤1000000):
 Calls Tryz.prog 44 #[.pointer (some ⟨sb,0,none⟩),.agg #[.pointer (some ⟨b,0,none⟩)]] w (SQ sb v w (xs++([kVar]++zzr t++ [zzk]))):=by
 have H:=hid h
 have hlt:=h.lt
 have HBA:=hid (b1 w (.cells #[.pointer (some ⟨b,0,none⟩)] 25))
 have S0:=hid (SST.refl (h.below (b1 w (.cells #[.pointer (some ⟨b,0,none⟩)] 25))))
 have U:=hid (PtrAt.new w (some ⟨b,0,none⟩))
 have N:=hid (hn.bl (b1 w (.cells #[.pointer (some ⟨b,0,none⟩)] 25)))
 have l0:=U.out.lt
 clear h hn
 have hfo:=zx1
 have hfn:=zzw
 clear hfo hfn
 go_enter Tryz.func44,Tryz.ntmps44
 have U0:=U.out.c0
 go_wp2_with fail
 clear U0
 generalize w.alloc (.cells #[.pointer (some ⟨b,0,none⟩)] 25)=wa at*
 obtain ⟨Ao,co,hro⟩:=N.out.rowOf
 refine (zkq _ _ _ _ _ _ _ _ _ _ hro).mono ?_
 rintro e w1 ⟨rfl,hb⟩
 clear hro
 have U1:=hid (U.out.below hb)
 have N1:=hid (N.out.bl hb)
 have S1:=hid (S0.out.below hb)
 have z1:=hb.size
 clear U N
 have U:=U1
 have N:=N1
 clear U1 N1
 clear hb
 simp only [List.length_append,List.length_cons,List.length_nil] at hl
 have h7:=z2k t
 have C2:=hid (show ∀ (j:Nat) (y:Tx),([kVar]:List Tx)[j]? =some y→(w1.alloc (.cells #[.string ⟨#[118,97,114]⟩] 9)).cell? ⟨w1.heap.size,j,none⟩=some (.string ⟨y.toArray⟩) from zzl w1 [kVar])
 have U2:=hid (U.out.below (b1 w1 (.cells #[.string ⟨#[118,97,114]⟩] 9)))
 have N2:=hid (N.out.bl (b1 w1 (.cells #[.string ⟨#[118,97,114]⟩] 9)))
 have S2:=hid (S1.out.below (b1 w1 (.cells #[.string ⟨#[118,97,114]⟩] 9)))
 have z2:=(b1 w1 (.cells #[.string ⟨#[118,97,114]⟩] 9)).size
 clear U N
 have U:=U2
 have N:=N2
 clear U2 N2
 have U0:=U.out.c0
 go_wp2_with fail
 clear U0
 generalize w1.alloc (.cells #[.string ⟨#[118,97,114]⟩] 9)=wb2 at*
 refine (zz8 _ sb _ _ w1.heap.size 1 [kVar] S2.out.sh (hid rfl) C2 (by omega) (by first|omega|(simp only [List.length_append,List.length_cons,List.length_nil];omega)|(simp only [List.length_append,List.length_cons,List.length_nil] at hl ⊢;omega))).mono ?_
 rintro e w3 ⟨v3,rfl,hs⟩
 clear C2
 have U3:=hid (U.out.sg hs.sg (by omega) (zxd S2.out H.out l0))
 have N3:=hid (N.out.low (hs.sg.low S2.out.sh))
 have S3:=hid (S2.out.trans hs)
 have z3:=hs.sg.size
 clear U N hs
 have U:=U3
 have N:=N3
 clear U3 N3
 have U0:=U.out.c0
 go_wp2_with fail
 clear U0
 refine (z09 _ sb _ _ pl b t S3.out.sh N.out (by simp only [List.length_append,List.length_cons,List.length_nil];omega)).mono ?_
 rintro e w4 ⟨v4,rfl,hs⟩
 have U4:=hid (U.out.sg hs.sg (by omega) (zxd S3.out H.out l0))
 have N4:=hid (N.out.low (hs.sg.low S3.out.sh))
 have S4:=hid (S3.out.trans hs)
 have z4:=hs.sg.size
 clear U N hs
 have U:=U4
 have N:=N4
 clear U4 N4
 have C5:=hid (show ∀ (j:Nat) (y:Tx),([zzk]:List Tx)[j]? =some y→(w4.alloc (.cells #[.string ⟨#[59]⟩] 9)).cell? ⟨w4.heap.size,j,none⟩=some (.string ⟨y.toArray⟩) from zzl w4 [zzk])
 have U5:=hid (U.out.below (b1 w4 (.cells #[.string ⟨#[59]⟩] 9)))
 have N5:=hid (N.out.bl (b1 w4 (.cells #[.string ⟨#[59]⟩] 9)))
 have S5:=hid (S4.out.below (b1 w4 (.cells #[.string ⟨#[59]⟩] 9)))
 have z5:=(b1 w4 (.cells #[.string ⟨#[59]⟩] 9)).size
 clear U N
 have U:=U5
 have N:=N5
 clear U5 N5
 have U0:=U.out.c0
 go_wp2_with fail
 clear U0
 generalize w4.alloc (.cells #[.string ⟨#[59]⟩] 9)=wb5 at*
 refine (zz8 _ sb _ _ w4.heap.size 1 [zzk] S5.out.sh (hid rfl) C5 (by omega) (by first|omega|(simp only [List.length_append,List.length_cons,List.length_nil];omega)|(simp only [List.length_append,List.length_cons,List.length_nil] at hl ⊢;omega))).mono ?_
 rintro e w6 ⟨v6,rfl,hs⟩
 clear C5
 have U6:=hid (U.out.sg hs.sg (by omega) (zxd S5.out H.out l0))
 have N6:=hid (N.out.low (hs.sg.low S5.out.sh))
 have S6:=hid (S5.out.trans hs)
 have z6:=hs.sg.size
 clear U N hs
 have U:=U6
 have N:=N6
 clear U6 N6
 go_wp2_with fail
 first|refine bodyPost_end (v:= .tuple #[]) (by simp [results,Tryz.results44,go_sem]) rfl ?_ |refine bodyPost_ret (v:= .tuple #[]) (by simp [results,Tryz.results44,go_sem]) rfl ?_
 have hfin:=((SST.refl H.out).below HBA.out).trans S6.out
 have hx:xs++([kVar]++zzr t++ [zzk])=(((xs++ [kVar])++zzr t)++ [zzk]):=by simp [List.append_assoc]
 first|exact ⟨_,rfl,hfin.cast hx.symm⟩|exact ⟨_,rfl,hfin.cast (by simp [List.append_assoc])⟩
theorem decl_4 (w:World) (sb:Nat) (v:Value) (xs:List Tx) (pl:Nat→Nat) (b:Nat) (t:Tree) (fx:List Tx) (h:SH w sb v xs) (hn:NodeAt (fun x=>x<sb) pl w b t) (hop:t.op=4) (hF:Hid (∀ (w:World) (v:Value) (xs:List Tx),SH w sb v xs→NodeAt (fun x=>x<sb) pl w b t→xs.length+fx.length+1≤1000000→Calls Tryz.prog 72 #[.pointer (some ⟨sb,0,none⟩),.agg #[.pointer (some ⟨b,0,none⟩)]] w (SQ sb v w (xs++fx)))) (hl:xs.length+(fx).length+1≤1000000):
 Calls Tryz.prog 44 #[.pointer (some ⟨sb,0,none⟩),.agg #[.pointer (some ⟨b,0,none⟩)]] w (SQ sb v w (xs++fx)):=by
 have H:=hid h
 have hlt:=h.lt
 have HBA:=hid (b1 w (.cells #[.pointer (some ⟨b,0,none⟩)] 25))
 have S0:=hid (SST.refl (h.below (b1 w (.cells #[.pointer (some ⟨b,0,none⟩)] 25))))
 have U:=hid (PtrAt.new w (some ⟨b,0,none⟩))
 have N:=hid (hn.bl (b1 w (.cells #[.pointer (some ⟨b,0,none⟩)] 25)))
 have l0:=U.out.lt
 clear h hn
 have hfo:=zx1
 have hfn:=zzw
 clear hfo hfn
 go_enter Tryz.func44,Tryz.ntmps44
 have U0:=U.out.c0
 go_wp2_with fail
 clear U0
 generalize w.alloc (.cells #[.pointer (some ⟨b,0,none⟩)] 25)=wa at*
 obtain ⟨Ao,co,hro⟩:=N.out.rowOf
 refine (zkq _ _ _ _ _ _ _ _ _ _ hro).mono ?_
 rintro e w1 ⟨rfl,hb⟩
 clear hro
 have U1:=hid (U.out.below hb)
 have N1:=hid (N.out.bl hb)
 have S1:=hid (S0.out.below hb)
 have z1:=hb.size
 clear U N
 have U:=U1
 have N:=N1
 clear U1 N1
 clear hb
 have U0:=U.out.c0
 go_wp2_with fail
 clear U0
 refine (hF.out _ _ _ S1.out.sh N.out hl).mono ?_
 rintro e w2 ⟨v2,rfl,hs⟩
 have U2:=hid (U.out.sg hs.sg (by omega) (zxd S1.out H.out l0))
 have N2:=hid (N.out.low (hs.sg.low S1.out.sh))
 have S2:=hid (S1.out.trans hs)
 have z2:=hs.sg.size
 clear U N hs
 have U:=U2
 have N:=N2
 clear U2 N2
 go_wp2_with fail
 first|refine bodyPost_end (v:= .tuple #[]) (by simp [results,Tryz.results44,go_sem]) rfl ?_ |refine bodyPost_ret (v:= .tuple #[]) (by simp [results,Tryz.results44,go_sem]) rfl ?_
 have hfin:=((SST.refl H.out).below HBA.out).trans S2.out
 have hx:xs++fx=(xs++fx):=by simp
 first|exact ⟨_,rfl,hfin.cast hx.symm⟩|exact ⟨_,rfl,hfin.cast (by simp [List.append_assoc])⟩
def OkP (t:Tree):Prop:=t.op=1∧zxs t≤1000000∧∀ (k:Nat) (u:Tree),t.kids[k]? =some u→OkT u∧(u.op=2∨u.op=3∨u.op=4)
theorem flat_map {α β:Type} (f:α→List β) (l:List α):(l.map f).flatten=l.flatMap f:=by simp [List.flatMap]
def ShD (sb:Nat) (pl:Nat→Nat) (u:Tree):Prop:=
 ∀ (w':World) (v':Value) (xs':List Tx) (nb:Nat),SH w' sb v' xs'→NodeAt (fun x=>x<sb) pl w' nb u→xs'.length+(zxu u).length+1≤1000000→Calls Tryz.prog 44 #[.pointer (some ⟨sb,0,none⟩),.agg #[.pointer (some ⟨nb,0,none⟩)]] w' (SQ sb v' w' (xs'++zxu u))
theorem declS_any (sb:Nat) (pl:Nat→Nat) (t:Tree) (hT:OkT t) (hs:zxs t≤1000000) (ho:t.op=2∨t.op=3∨t.op=4):ShD sb pl t:=by
 intro w v xs b h hn hl
 have hk6:t.kids.length≤1000000:=by have:=kids_le t;omega
 rcases ho with o|o|o
 ·have e:zxu t= [zwn,t.name,zkh,cLC]++(t.kids.map fun k=>zzr k++ [zzk]).flatten++ [cRC]:=by unfold zxu;rw [if_pos o,flat_map]
  rw [e] at hl ⊢
  exact decl_2 w sb v xs pl b t h hn o hk6 hl
 ·have e:zxu t= [kVar]++zzr t++ [zzk]:=by unfold zxu;rw [if_neg (by omega),if_pos o]
  rw [e] at hl ⊢
  exact decl_3 w sb v xs pl b t h hn o hl
 ·have hA:=hT.least
  simp [o,z08] at hA
  obtain ⟨m,hm⟩:∃ m,t.kids.length=m+1:=⟨t.kids.length - 1,by omega⟩
  obtain ⟨ub,hub⟩:=zx4 (t:=t) (i:=m) (by omega)
  have hm1:t.kids.length - 1=m:=by omega
  have hSb:=(stmtS_any sb pl 1000000 ub (by have:=zk0 hub;omega) (Nat.le_refl _) (hT.kid hub)).1
  refine decl_4 w sb v xs pl b t (zxu t) h hn o ?_ hl
  intro w1 v1 xs1 h1 hn1 hl1
  by_cases hty:t.typ= []
  ·have e:zxu t= [zk8,t.name]++([cLB]++zz3 (zvd t)++ [cRB])++zzj ub:=by
    unfold zxu zvd;rw [if_neg (by omega),if_neg (by omega),if_pos o,if_pos hty,List.append_nil,hm1,z1i hub]
   rw [e] at hl1 ⊢
   exact function_a w1 sb v1 xs1 pl b t m ub h1 hn1 hm hk6 (hid hub) (hid hSb) hty hl1
  ·have e:zxu t= [zk8,t.name]++([cLB]++zz3 (zvd t)++ [cRB])++typT t.typ++zzj ub:=by
    unfold zxu zvd;rw [if_neg (by omega),if_neg (by omega),if_pos o,if_neg hty,hm1,z1i hub]
   rw [e] at hl1 ⊢
   exact function_b w1 sb v1 xs1 pl b t m ub h1 hn1 hm hk6 (hid hub) (hid hSb) (hid hty) hl1
theorem decl_1 (w:World) (sb:Nat) (v:Value) (xs:List Tx) (pl:Nat→Nat) (b:Nat) (t:Tree) (h:SH w sb v xs) (hn:NodeAt (fun x=>x<sb) pl w b t) (hop:t.op=1) (hk6:t.kids.length≤1000000) (hD:Hid (∀ (k:Nat) (u:Tree),t.kids[k]? =some u→ShD sb pl u)) (hl:xs.length+((t.kids.map zxu).flatten).length+1≤1000000):
 Calls Tryz.prog 44 #[.pointer (some ⟨sb,0,none⟩),.agg #[.pointer (some ⟨b,0,none⟩)]] w (SQ sb v w (xs++(t.kids.map zxu).flatten)):=by
 have H:=hid h
 have hlt:=h.lt
 have HBA:=hid (b1 w (.cells #[.pointer (some ⟨b,0,none⟩)] 25))
 have S0:=hid (SST.refl (h.below (b1 w (.cells #[.pointer (some ⟨b,0,none⟩)] 25))))
 have U:=hid (PtrAt.new w (some ⟨b,0,none⟩))
 have N:=hid (hn.bl (b1 w (.cells #[.pointer (some ⟨b,0,none⟩)] 25)))
 have l0:=U.out.lt
 clear h hn
 have hfo:=zx1
 have hfn:=zzw
 clear hfo hfn
 go_enter Tryz.func44,Tryz.ntmps44
 have U0:=U.out.c0
 go_wp2_with fail
 clear U0
 generalize w.alloc (.cells #[.pointer (some ⟨b,0,none⟩)] 25)=wa at*
 obtain ⟨Ao,co,hro⟩:=N.out.rowOf
 refine (zkq _ _ _ _ _ _ _ _ _ _ hro).mono ?_
 rintro e w1 ⟨rfl,hb⟩
 clear hro
 have U1:=hid (U.out.below hb)
 have N1:=hid (N.out.bl hb)
 have S1:=hid (S0.out.below hb)
 have z1:=hb.size
 clear U N
 have U:=U1
 have N:=N1
 clear U1 N1
 clear hb
 have U0:=U.out.c0
 go_wp2_with fail
 clear U0
 obtain ⟨Ao,co,hro⟩:=N.out.rowOf
 refine (zw2 _ _ _ _ _ _ _ _ _ _ hro).mono ?_
 rintro e w2 ⟨rfl,hb⟩
 clear hro
 have U2:=hid (U.out.below hb)
 have N2:=hid (N.out.bl hb)
 have S2:=hid (S1.out.below hb)
 have z2:=hb.size
 clear U N
 have U:=U2
 have N:=N2
 clear U2 N2
 clear hb
 go_wp2_with fail
 go_loopw [14] (fun i wr=>BlRel sb v w wa xs pl b t ([]:List Tx) (t.kids.map zxu) i wr) (fun i _=>t.kids.length - (intOf i).toNat)
 case atStart=>exact ⟨0,_,Nat.zero_le _,rfl,by show SST _ _ _ _ _ _;simpa using S2.out,U,N⟩
 case round=>
  obtain ⟨k,vr,hk,rfl,S,U,N⟩:=hrel
  by_cases hlt:k<t.kids.length
  ·skip
   obtain ⟨u,hu⟩:=zx4 hlt
   have hy:(t.kids.map zxu)[k]? =some (zxu u):=by rw [List.getElem?_map,hu];rfl
   have HU:=hid hu
   have HCT:=hid (take_flat _ k _ hy)
   have hfl:=z0y _ k _ hy
   clear hu hy
   have hki:(k:Int)<(t.kids.length:Int):=by omega
   try simp only [List.length_append,List.length_cons,List.length_nil] at hfl
   have U0:=U.out.c0
   go_wp2_with fail
   clear U0
   obtain ⟨nm,hm,hc⟩:=zkd N.out k u HU.out
   refine hc.mono ?_
   rintro e w3 ⟨rfl,hb⟩
   have M:=hid (hm.bl hb)
   have U3:=hid (U.out.below hb)
   have N3:=hid (N.out.bl hb)
   have S3:=hid (S.out.below hb)
   have z3:=hb.size
   clear U N
   have U:=U3
   have N:=N3
   clear U3 N3
   clear hb hc hm
   go_wp2_with fail
   refine (hD.out k u HU.out _ _ _ nm S3.out.sh M.out (by first|omega|(simp only [List.length_append,List.length_nil];omega)|(simp only [List.length_append,List.length_cons,List.length_nil] at hl ⊢;omega))).mono ?_
   rintro e w4 ⟨v4,rfl,hs⟩
   have U4:=hid (U.out.sg hs.sg (by omega) (zxd S3.out H.out l0))
   have N4:=hid (N.out.low (hs.sg.low S3.out.sh))
   have S4:=hid (S3.out.trans hs)
   have z4:=hs.sg.size
   clear U N hs
   have U:=U4
   have N:=N4
   clear U4 N4
   clear M
   go_wp2_with fail
   go_roundw
   case rel=>exact ⟨k+1,_,by omega,by go_num,by show SST _ _ _ _ _ _;have h9:=S4.out;rw [HCT.out];simpa [List.append_assoc] using h9,U,N⟩
   case measure=>simp [intOf];omega
  ·skip
   obtain rfl:k=t.kids.length:=by omega
   have htk:((t.kids.map zxu)).take t.kids.length=(t.kids.map zxu):=List.take_of_length_le (by rw [List.length_map];exact Nat.le_refl _)
   rw [htk] at S
   clear htk
   go_wp2_with fail
   first|refine bodyPost_end (v:= .tuple #[]) (by simp [results,Tryz.results44,go_sem]) rfl ?_ |refine bodyPost_ret (v:= .tuple #[]) (by simp [results,Tryz.results44,go_sem]) rfl ?_
   have hfin:=((SST.refl H.out).below HBA.out).trans S.out
   have hx:xs++(t.kids.map zxu).flatten=(xs++([]:List Tx)++(t.kids.map zxu).flatten):=by simp
   first|exact ⟨_,rfl,hfin.cast hx.symm⟩|exact ⟨_,rfl,hfin.cast (by simp [List.append_assoc])⟩
def zj2 (xs:List Tx):Tx:=Lib.join xs [32]
theorem own_cells {w:World} {base n g cap:Nat} {v:Value} {xs:List Tx} (h:w.ownsRow base 9 1 v n (strL xs)) (hv:v= .slice (some ⟨g,0,none⟩) n cap) (j:Nat) (x:ByteArray) (hx:(xs.map fun l=>(⟨l.toArray⟩:ByteArray))[j]? =some x):w.cell? ⟨g,0+j,none⟩=some (.string x):=by
 obtain ⟨hl,h|⟨g',cap',cur,hv',hb,hg,hc,hm,hs,ht⟩⟩:=h
 ·rw [h.1] at hv;cases hv
 rw [hv'] at hv
 obtain ⟨rfl,rfl⟩:g'=g∧cap'=cap:=by injection hv with a b c;injection a with a;injection a with a;exact ⟨a,c⟩
 rw [Nat.zero_add,cell_of_row w g' j cur 9 (0,0) hg]
 rw [List.getElem?_map] at hx
 cases hj:xs[j]? with
 |none=>rw [hj] at hx;cases hx
 |some y=>
  rw [hj] at hx
  obtain rfl:=Option.some.inj hx
  have hlt:=(List.getElem?_eq_some_iff.1 hj).1
  have hln:(strL xs).length=xs.length:=by simp [strL]
  have h1:(cur.toList.take (n*1))[j]? =some (.string ⟨y.toArray⟩):=by rw [ht];unfold strL;rw [List.getElem?_map,hj];rfl
  rw [List.getElem?_take,if_pos (by omega)] at h1
  rw [←Array.getElem?_toList]
  exact h1
theorem map_back (xs:List Tx):(xs.map fun l=>(⟨l.toArray⟩:ByteArray)).map (·.data.toList)=xs:=by
 rw [List.map_map];exact List.map_id'' (fun _=>rfl) xs
theorem join_own {w:World} {base n:Nat} {v:Value} {xs:List Tx} (h:w.ownsRow base 9 1 v n (strL xs)) (hn:xs.length≤1000000) (hj:(zj2 xs).length≤140737488355328):
 Calls Tryz.prog 45 #[v,.string ⟨#[32]⟩] w fun e w'=>e= .returned (.string ⟨(zj2 xs).toArray⟩)∧Below w.heap.size w w':=by
 have hln:(strL xs).length=xs.length:=by simp [strL]
 have hl:=h.1
 rcases h.2 with ⟨rfl,rfl⟩|⟨g,cap,cur,rfl,hb,hg,hc,hm,hs,ht⟩
 ·have:xs= []:=List.length_eq_zero_iff.1 (by omega)
  subst this
  refine (Tryz.strings_Join_none _ _ _ w).mono ?_
  rintro e w' ⟨rfl,rfl⟩
  exact ⟨rfl,Below.refl _ _⟩
 ·have hgl:g<w.heap.size:=by
   rcases Nat.lt_or_ge g w.heap.size with a|a
   ·exact a
   ·rw [Array.getElem?_eq_none a] at hg;cases hg
  obtain ⟨bs,hbs⟩:∃ bs:List ByteArray,bs=xs.map fun l=>(⟨l.toArray⟩:ByteArray):=⟨_,rfl⟩
  have hbl:bs.length=n:=by rw [hbs,List.length_map];omega
  have hbm:bs.map (·.data.toList)=xs:=by rw [hbs];exact map_back xs
  have hcell:∀ (j:Nat) x,bs[j]? =some x→w.cell? ⟨g,0+j,none⟩=some (.string x):=fun j x hx=>own_cells h rfl j x (by rw [←hbs];exact hx)
  have hjn:Lib.join (bs.map (·.data.toList)) [32]=zj2 xs:=by rw [hbm];rfl
  have c:=Tryz.strings_Join g 0 cap bs ⟨#[32]⟩ w hcell hgl (by omega) (by omega) (by show (Lib.join (bs.map (·.data.toList)) [32]).length≤_;rw [hjn];exact hj)
  rw [hbl] at c
  refine c.mono ?_
  intro e w' hq
  refine ⟨?_,hq.2⟩
  rw [hq.1,show Lib.join (bs.map (·.data.toList)) (⟨#[32]⟩:ByteArray).data.toList=zj2 xs from hjn]
theorem show_any (ok:Nat→Prop) (w:World) (pl:Nat→Nat) (b:Nat) (t:Tree) (hn:NodeAt ok pl w b t) (hp:OkP t) (g:Good w) (p:PowIn w) (hl:(zjy t).length+1≤1000000) (hj:(zj2 (zjy t)).length≤140737488355328):
 Calls Tryz.prog 16 #[.agg #[.pointer (some ⟨b,0,none⟩)]] w fun e w'=>e= .returned (.string ⟨(zj2 (zjy t)).toArray⟩)∧Below w.heap.size w w':=by
 have hsp:zjy t=(t.kids.map zxu).flatten:=by unfold zjy;rw [flat_map]
 rw [hsp] at hl hj ⊢
 have HK6:=hid (show t.kids.length≤1000000 by have:=kids_le t;have:=hp.2.1;omega)
 have HD:Hid (∀ (k:Nat) (u:Tree),t.kids[k]? =some u→ShD (w.heap.size+1) pl u):=fun k u hu=>declS_any _ pl u (hp.2.2 k u hu).1 (by have:=zk0 hu;have:=hp.2.1;omega) (hp.2.2 k u hu).2
 have HO:=hid hp.1
 have BA:=hid (b1 w (.cells #[.pointer (some ⟨b,0,none⟩)] 25))
 have BB:=hid (b1 (w.alloc (.cells #[.pointer (some ⟨b,0,none⟩)] 25)) (.cells #[.slice none 0 0] 89))
 have U:=hid ((PtrAt.new w (some ⟨b,0,none⟩)).below BB.out)
 have N:=hid (((hn.weak (ok':=fun x=>x<w.heap.size+1) (fun y _ h=>by omega)).bl BA.out).bl BB.out)
 have S0:Hid (SH ((w.alloc (.cells #[.pointer (some ⟨b,0,none⟩)] 25)).alloc (.cells #[.slice none 0 0] 89)) (w.heap.size+1) (.slice none 0 0) []):=by
  refine ⟨by simp,by simp [go_sem],by simp [go_sem],World.ownsRow_nil _ _ _ _,(g.below BA.out).below BB.out,zj1 (zj1 p (BA.out.mono g.size)) (BB.out.mono (by have:=g.size;simp;omega)),by have:=g.size;omega⟩
 clear hn hp g p hsp
 go_enter Tryz.func16,Tryz.ntmps16
 have U0:=U.out.c0
 go_wp2_with fail
 clear U0
 have HBB:=hid ((BA.out).trans (BB.out.mono (by simp)))
 generalize (w.alloc (.cells #[.pointer (some ⟨b,0,none⟩)] 25)).alloc (.cells #[.slice none 0 0] 89)=wa at*
 refine (decl_1 wa (w.heap.size+1) _ [] pl b t S0.out N.out HO.out HK6.out HD (by simpa using hl)).mono ?_
 rintro e w1 ⟨v1,rfl,hs⟩
 have S1:=hid hs
 have c1:=hs.sh.c0
 have hlow:=hid (hs.sg.low S0.out)
 clear hs
 go_wp2_with fail
 clear c1
 have hown:=S1.out.sh.own
 rw [List.nil_append] at hown
 refine (join_own hown (by omega) hj).mono ?_
 rintro e w2 ⟨rfl,hb2⟩
 have HB2:=hid hb2
 clear hb2 hown
 go_wp2_with fail
 go_ret
 exact ⟨rfl,(HBB.out.trans (hlow.out.mono (by omega))).trans (HB2.out.mono (by have:=S1.out.sh.lt;omega))⟩
theorem nw_of {l:List UInt8} {ts:List Tok} (h:TokS l ts) (s:Tx) (hs:Wd (Tf ts) s):NW s:=by
 obtain ⟨k,h1,h2⟩:=hs
 unfold Tf at h1 h2
 cases hg:ts[k]? with
 |none=>rw [hg] at h1;cases h1
 |some t=>
  rw [hg] at h1 h2
  simp only at h1 h2
  have:=h.ok t (List.mem_of_getElem? hg)
  obtain ⟨tk,tt,tp⟩:=t
  simp only at h1 h2
  subst h1 h2
  exact this
theorem flat_decl {W:Tx→Prop} (hW:∀ s,W s→NW s):∀ ks:List Tree,(∀ u∈ks,Al W u∧(u.op=2∨u.op=3∨u.op=4))→GA (ks.flatMap zxu)∧(ks.flatMap zxu).length≤8*zxz ks
 | [],_=>⟨zxj,Nat.zero_le _⟩
 |k::ks,h=>by
  obtain ⟨h1,h2⟩:=flat_decl hW ks fun u hu=>h u (List.mem_cons_of_mem _ hu)
  obtain ⟨g1,g2⟩:=gd_all hW (h k (List.mem_cons_self ..)).1 (h k (List.mem_cons_self ..)).2
  refine ⟨zxp g1 h1,?_⟩
  rw [List.flatMap_cons,List.length_append,zzi];omega
theorem jt_bound:∀ ts:List Tok,(∀ t∈ts,t.text.length≤21)→(jt ts).length≤22*ts.length
 | [],_=>Nat.zero_le _
 |t::r,h=>by
  have h1:=jt_bound r fun u hu=>h u (List.mem_cons_of_mem _ hu)
  have h2:=h t (List.mem_cons_self ..)
  show (32::(t.text++jt r)).length≤_
  simp only [List.length_cons,List.length_append];omega
def tokOf (x:Tx):Tok:=⟨kd x,x,0⟩
theorem tok_texts (xs:List Tx):(xs.map tokOf).map (·.text)=xs:=by
 rw [List.map_map];exact List.map_id'' (fun _=>rfl) xs
theorem join_bound (xs:List Tx) (h:GA xs):(zj2 xs).length≤22*xs.length:=by
 cases xs with
 |nil=>exact Nat.zero_le _
 |cons x r=>
  have e:=join_jt (tokOf x) (r.map tokOf)
  have e2:(tokOf x::r.map tokOf).map (·.text)=x::r:=tok_texts (x::r)
  rw [e2] at e
  unfold zj2
  rw [e]
  have h1:=jt_bound (r.map tokOf) fun t ht=>by
   obtain ⟨y,hy,rfl⟩:=List.mem_map.1 ht
   exact (h y (List.mem_cons_of_mem _ hy)).2
  have h2:=(h x (List.mem_cons_self ..)).2
  rw [List.length_map] at h1
  show (x++jt (r.map tokOf)).length≤_
  rw [List.length_append,List.length_cons];omega
theorem shown {l:List UInt8} {ts:List Tok} {ks:List Tree} (h:zxt l= .ok ts ks):OkP (root ts ks)∧GA (zjy (root ts ks))∧(zjy (root ts ks)).length≤40000∧(zj2 (zjy (root ts ks))).length≤1000000:=by
 obtain ⟨hT,hA,hs⟩:=parsed h
 have hW:=nw_of hT
 obtain ⟨g1,g2⟩:=flat_decl hW ks hA
 have h3:=hT.len
 have h4:=hT.le
 have h5:(zjy (root ts ks)).length≤40000:=by show (ks.flatMap zxu).length≤_;omega
 refine ⟨⟨rfl,?_,fun k u hu=>⟨(hA u (List.mem_of_getElem? hu)).1.ok,(hA u (List.mem_of_getElem? hu)).2⟩⟩,g1,h5,?_⟩
 ·show zxz ks+1≤1000000;omega
 ·have:=join_bound _ g1
  have e:zjy (root ts ks)=ks.flatMap zxu:=rfl
  rw [e] at h5 ⊢;omega
inductive Bk (l:List UInt8) (ts:List Tok) (ks:List Tree):Prop
 |full (p:Nat) (h:zxt l= .bad p 4)
 |deep (p:Nat) (h:zxt l= .bad p 3)
 |good (ms:List Tok) (ks':List Tree) (h:zxt l= .ok ms ks') (he:EL ks ks') (hs:zjy (root ms ks')=zjy (root ts ks))
theorem back {l:List UInt8} {ts:List Tok} {ks:List Tree} (h:zxt l= .ok ts ks):Bk (zj2 (zjy (root ts ks))) ts ks:=by
 obtain ⟨hT,hA,hs⟩:=parsed h
 have hW:=nw_of hT
 obtain ⟨-,g1,-,-⟩:=shown h
 obtain ⟨xs,hxs⟩:∃ xs,zjy (root ts ks)=xs:=⟨_,rfl⟩
 have hxs2:ks.flatMap zxu=xs:=hxs
 rw [hxs] at g1 ⊢
 by_cases hl:4096<(zj2 xs).length
 ·refine .full 4096 ?_
  unfold zxt zjp
  rw [if_pos hl]
 ·obtain ⟨ms,h1,h2⟩:=scan_join (xs.map tokOf) fun t ht=>by
   obtain ⟨y,hy,rfl⟩:=List.mem_map.1 ht
   exact (g1 y hy).1
  rw [tok_texts] at h1
  have hsc:zjp (zj2 xs)= .ok ms:=by unfold zjp;rw [if_neg hl];exact h1
  have hT2:=zv8 hsc
  have hTf:=Tf_same h2
  have hlen:ms.length=xs.length:=by rw [same_len h2,List.length_map]
  have hR:Rd (Tf ms) 0 xs:=fun k x hk=>by
   rw [hTf,Nat.zero_add]
   exact Tf_at (t:=tokOf x) (by rw [List.getElem?_map,hk];rfl)
  have hend:(Tf ms (0+xs.length)).kind=0:=by rw [Nat.zero_add,Tf_end (by omega)]
  obtain ⟨r,hp,-⟩:=z2i hT2.sent (z0f ms) .decls 0 0 trivial (Nat.zero_le _) (by show 4*(ms.length - 0)+0<4*ms.length+1;omega)
  have hd:=(all_s hW (z0f ms) (T:=Tf ms)).dl ks 0 0 hA (by rw [hxs2];exact hR) (by rw [hxs2];exact hend) r hp
  have e1:zxt (zj2 xs)=treeR ms (zj2 xs).length (some r):=by unfold zxt;rw [hsc];simp only [hp]
  rcases hd with ⟨j,rfl⟩|⟨ks',j,rfl,-,he⟩
  ·exact .deep _ e1
  ·refine .good ms ks' e1 he.symm ?_
   show ks'.flatMap zxu=_
   rw [showP_el he,hxs];exact hxs2
theorem plc_at {fs:List Fld} {k:Nat} {f:Fld} (h:fs[k]? =some f):∃ j,j≤k∧plc fs f.name=some j:=by
 cases hp:plc fs f.name with
 |none=>
  have:=zv2 hp k (Nat.zero_le _) (List.getElem?_eq_some_iff.1 h).1
  rw [z3c h,eqB_iff.2 rfl] at this;cases this
 |some j=>
  refine ⟨j,?_,rfl⟩
  rcases Nat.lt_or_ge k j with hlt|hge
  ·have:=(z1j hp).2.2.2 k (Nat.zero_le _) hlt
   rw [z3c h,eqB_iff.2 rfl] at this;cases this
  ·exact hge
theorem z1t (A:Option Addr) (c m:Nat) (ss:List Str) (sn:ByteArray) (FA:Option Addr) (fc fm:Nat) (fs:List Fld) (k r:Nat) (w:World) (hK:KeysIn w) (hR:SR w A ss) (hF:FR w FA fs)
 (hm:Hid (ss.length=m)) (hl:m≤281474976710656) (hfm:Hid (fs.length=fm)) (hfl:fm≤281474976710656) (hk:k<fm) (hr:Hid (chkF ss fs k=r)):
 Calls Tryz.prog 86 #[.slice A m c,.agg #[.string sn,.slice FA fm fc],.int .i64 k] w fun e w'=>e= .returned (.int .i64 r)∧Below w.heap.size w w':=by
 obtain ⟨b,o,hFA,hg,hcs⟩:=hF (by have:=hfm.out;omega)
 obtain ⟨f,hf⟩:∃ f,fs[k]? =some f:=⟨_,List.getElem?_eq_getElem (by have:=hfm.out;omega)⟩
 obtain ⟨c0,c1⟩:=hcs k f hf
 obtain ⟨j,hjk,hpl⟩:=plc_at hf
 have hch:chkF ss fs k=if zjw f.name.data.toList=false then 1 else if plc fs f.name=some k then (if isT ss f.typ then 0 else 7) else 6:=by unfold chkF;rw [hf]
 rw [hr.out,hpl] at hch
 have HPL:=hid hpl
 have HF:=hid hF
 have HR:=hid hR
 have HK:=hid hK
 clear hcs hpl hf hF hR hK hr
 obtain ⟨fn,ft⟩:=f
 simp only at c0 c1 hch HPL
 have hk2:=hid ((HK.out.alloc (.cells #[.string sn,.slice FA fm fc] 99)).alloc (.cells #[.string fn,.string ft] 97))
 have hf2:=hid (HF.out.below (below2 w (.cells #[.string sn,.slice FA fm fc] 99) (.cells #[.string fn,.string ft] 97)) (Nat.le_refl _))
 have hr2:=hid (HR.out.below (below2 w (.cells #[.string sn,.slice FA fm fc] 99) (.cells #[.string fn,.string ft] 97)) (Nat.le_refl _))
 subst hFA
 cases h1:zjw fn.data.toList with
 |false=>
  obtain rfl:r=1:=by rw [hch,if_pos h1]
  have H1:=hid h1
  clear hch h1
  go_enter Tryz.func86,Tryz.ntmps86
  go_wp2_with (go_at_call 85;refine (zj3 _ false _ hk2 H1).mono ?_;rintro e w' ⟨rfl,rfl⟩)
  go_ret
  exact ⟨rfl,below2 _ _ _⟩
 |true=>
  rw [if_neg (by rw [h1];decide)] at hch
  have H1:=hid h1
  clear h1
  by_cases h2:j=k
  ·subst h2
   rw [if_pos rfl] at hch
   have HCH:=hid hch
   clear hch
   go_enter Tryz.func86,Tryz.ntmps86
   go_wp2_with (go_at_call 85;refine (zj3 _ true _ hk2 H1).mono ?_;rintro e w' ⟨rfl,rfl⟩)
   refine (place_any _ _ _ fm fs _ (some j) _ hf2.out hfm hfl HPL).mono ?_
   rintro e w1 ⟨rfl,b1⟩
   unfold zqt
   have d1:Below w.heap.size w w1:=Below.trans (below2 w _ _) (b1.mono (by rw [heap2];omega))
   have e1:w1.cell? ⟨w.heap.size+1,1,none⟩=some (.string ft):=(b1.cell (p:=⟨w.heap.size+1,1,none⟩) (by simp)).trans (zxh _ _ _ _ _ _)
   have hr3:=hid (hr2.out.below b1 (Nat.le_refl _))
   cases h3:isT ss ft with
   |true=>
    obtain rfl:r=0:=by rw [HCH.out,h3];rfl
    have H3:=hid h3
    clear h3 HCH
    go_wp2_with (go_at_call 118;refine (is_any _ _ m ss _ true _ hr3 hm hl H3).mono ?_;rintro e w2 ⟨rfl,b2⟩)
    go_ret
    exact ⟨rfl,d1.trans (b2.mono d1.size)⟩
   |false=>
    obtain rfl:r=7:=by rw [HCH.out,h3];rfl
    have H3:=hid h3
    clear h3 HCH
    go_wp2_with (go_at_call 118;refine (is_any _ _ m ss _ false _ hr3 hm hl H3).mono ?_;rintro e w2 ⟨rfl,b2⟩)
    go_ret
    exact ⟨rfl,d1.trans (b2.mono d1.size)⟩
  ·obtain rfl:r=6:=by rw [hch,if_neg (by simp;exact h2)]
   clear hch
   have n1:((j:Int) !=(k:Int))=true:=by simp;omega
   have n2:(j !=k)=true:=by simp;exact h2
   go_enter Tryz.func86,Tryz.ntmps86
   go_wp2_with (go_at_call 85;refine (zj3 _ true _ hk2 H1).mono ?_;rintro e w' ⟨rfl,rfl⟩)
   refine (place_any _ _ _ fm fs _ (some j) _ hf2.out hfm hfl HPL).mono ?_
   rintro e w1 ⟨rfl,b1⟩
   unfold zqt
   have d1:Below w.heap.size w w1:=Below.trans (below2 w _ _) (b1.mono (by rw [heap2];omega))
   go_wp2_with fail
   go_ret
   exact ⟨rfl,d1⟩
def CRel (w:World) (g:Nat→Nat) (m r:Nat) (i:Value) (wr:World):Prop:=
 ∃ k:Nat,k≤m∧i= .int .i64 k∧Hid (r=(fir g m k).2)∧Below w.heap.size w wr
theorem z05 (A:Option Addr) (c m:Nat) (ss:List Str) (k r:Nat) (w:World) (hK:KeysIn w) (hR:SR w A ss)
 (hm:Hid (ss.length=m)) (hl:m≤281474976710656) (hmc:m≤c) (hk:k<m) (hr:Hid (chkS ss k=r)):
 Calls Tryz.prog 51 #[.slice A m c,.int .i64 k] w fun e w'=>e= .returned (.int .i64 r)∧Below w.heap.size w w':=by
 obtain ⟨b,o,hA,hg,hcs⟩:=hR (by have:=hm.out;omega)
 obtain ⟨s,hs⟩:∃ s,ss[k]? =some s:=⟨_,List.getElem?_eq_getElem (by have:=hm.out;omega)⟩
 obtain ⟨FA,fc,c0,c1,hfc,hfl,hF⟩:=hcs k s hs
 have hch:chkS ss k=if zjw s.name.data.toList=false then 1 else if (fnd (ss.take k) s.name).isSome then 6 else if 8<s.fields.length then 4 else (fir (chkF ss s.fields) s.fields.length 0).2:=by unfold chkS;rw [hs]
 rw [hr.out] at hch
 have HF:=hid hF
 have HR:=hid hR
 have HK:=hid hK
 have hT:Hid ((ss.take k).length=k):=by show _=_;rw [List.length_take];have:=hm.out;omega
 clear hcs hs hF hR hK hr
 obtain ⟨sn,fs⟩:=s
 simp only at c0 c1 hch hfc hfl HF
 obtain ⟨fm,hfm⟩:∃ fm,fs.length=fm:=⟨_,rfl⟩
 rw [hfm] at c1 hch hfc hfl
 have HFM:=hid hfm
 clear hfm
 have hkc:(k:Int)≤(c:Int):=by omega
 have hk0:(0:Int)≤(k:Int):=by omega
 have hk1:=hid (HK.out.alloc (.cells #[.string sn,.slice FA fm fc] 99))
 have bb:=(Below.refl w.heap.size w).alloc (Nat.le_refl _) (.cells #[.string sn,.slice FA fm fc] 99)
 have hf1:=hid (HF.out.below bb (Nat.le_refl _))
 have hr1:=hid (HR.out.below bb (Nat.le_refl _))
 subst hA
 cases h1:zjw sn.data.toList with
 |false=>
  obtain rfl:r=1:=by rw [hch,if_pos h1]
  have H1:=hid h1
  clear hch h1
  go_enter Tryz.func51,Tryz.ntmps51
  go_wp2_with (go_at_call 85;refine (zj3 _ false _ hk1 H1).mono ?_;rintro e w' ⟨rfl,rfl⟩)
  go_ret
  exact ⟨rfl,bb⟩
 |true=>
  rw [if_neg (by rw [h1];decide)] at hch
  have H1:=hid h1
  clear h1
  cases h2:fnd (ss.take k) sn with
  |some j=>
   have H2:=hid h2
   obtain rfl:r=6:=by rw [hch,h2];rfl
   clear hch h2
   go_enter Tryz.func51,Tryz.ntmps51
   go_wp2_with (go_at_call 85;refine (zj3 _ true _ hk1 H1).mono ?_;rintro e w' ⟨rfl,rfl⟩)
   go_region_held3 (fun w'=>w'.cell? ⟨w.heap.size,0,none⟩=some (.string sn)) (first|exact zxa w _ 99 0|exact (b1.cell (p:=⟨w.heap.size,0,none⟩) (by simp)).trans (zxa w _ 99 0)) (first|(go_at_call 52;refine (zv5 _ _ k (ss.take k) _ (some j) _ ?_ hT (by omega) H2).mono ?_;(exact hr1.out.take k);rintro e w1 ⟨rfl,b1⟩;unfold zqt))
   all_goals (go_wp2_with fail;go_ret;first|exact ⟨rfl,zko bb b1⟩|exact ⟨rfl,zko bb.drew b1⟩)
  |none=>
   have H2:=hid h2
   rw [h2] at hch
   rw [if_neg (by simp)] at hch
   have HCH:=hid hch
   clear hch h2
   go_enter Tryz.func51,Tryz.ntmps51
   go_wp2_with (go_at_call 85;refine (zj3 _ true _ hk1 H1).mono ?_;rintro e w' ⟨rfl,rfl⟩)
   go_region_held3 (fun w'=>w'.cell? ⟨w.heap.size,0,none⟩=some (.string sn)) (first|exact zxa w _ 99 0|exact (b1.cell (p:=⟨w.heap.size,0,none⟩) (by simp)).trans (zxa w _ 99 0)) (first|(go_at_call 52;refine (zv5 _ _ k (ss.take k) _ none _ ?_ hT (by omega) H2).mono ?_;(exact hr1.out.take k);rintro e w1 ⟨rfl,b1⟩;unfold zqt))
   have d1:Below w.heap.size w w1:=by first|exact zko bb b1|exact zko bb.drew b1
   have e0:w1.cell? ⟨w.heap.size,0,none⟩=some (.string sn):=(b1.cell (p:=⟨w.heap.size,0,none⟩) (by simp)).trans (zxa w _ 99 0)
   have e1:w1.cell? ⟨w.heap.size,1,none⟩=some (.slice FA fm fc):=(b1.cell (p:=⟨w.heap.size,1,none⟩) (by simp)).trans (zxa w _ 99 1)
   have hz:w.heap.size<w1.heap.size:=by have:=b1.size;simp at this;omega
   have hk3:=hid (z0t HK.out d1)
   have hf3:=hid (HF.out.below d1 (Nat.le_refl _))
   have hr3:=hid (HR.out.below d1 (Nat.le_refl _))
   have D1:=hid d1
   clear b1 bb hf1 hr1 hk1 H2 H1 d1 hT
   by_cases h8:8<fm
   ·have h8':(8:Int)<(fm:Int):=by omega
    obtain rfl:r=4:=by rw [HCH.out,if_pos h8]
    go_wp2_with fail
    go_ret
    exact ⟨rfl,D1.out⟩
   ·have h8':¬ (8:Int)<(fm:Int):=by omega
    have HQ:Hid (r=(fir (chkF ss fs) fm 0).2):=by show _=_;rw [HCH.out,if_neg h8]
    clear HCH
    go_wp2_with fail
    go_loopw [35] (fun i wr=>CRel w1 (chkF ss fs) fm r i wr) (fun i _=>fm - (intOf i).toNat)
    case atStart=>exact ⟨0,Nat.zero_le _,rfl,HQ,Below.refl _ _⟩
    case round=>
     obtain ⟨q,hq,rfl,HK2,hb⟩:=hrel
     by_cases hlt:q<fm
     ·have f0:=(hb.cell (p:=⟨w.heap.size,0,none⟩) hz).trans e0
      have f1:=(hb.cell (p:=⟨w.heap.size,1,none⟩) hz).trans e1
      have hk4:=hid (z0t hk3.out hb)
      have hf4:=hid (hf3.out.below hb (Nat.le_refl _))
      have hr4:=hid (hr3.out.below hb (Nat.le_refl _))
      have d4:=hid (zko D1.out hb)
      obtain ⟨er,her⟩:∃ er,chkF ss fs q=er:=⟨_,rfl⟩
      have HER:=hid her
      by_cases h0:er=0
      ·have HN:Hid (r=(fir (chkF ss fs) fm (q+1)).2):=by show _=_;rw [HK2.out,zvf hlt (her.trans h0)]
       subst h0
       clear her
       go_wp2_with (go_at_call 86;refine (z1t _ _ m ss _ _ _ fm fs q 0 _ hk4.out hr4.out hf4.out hm hl HFM hfl hlt HER).mono ?_;rintro e w2 ⟨rfl,b2⟩)
       go_roundw
       case rel=>exact ⟨q+1,by omega,by go_num,HN,zko hb b2⟩
       case measure=>simp [intOf];omega
      ·have hre:r=er:=by rw [HK2.out,zwe hlt (by rw [her];exact h0),her]
       subst hre
       have n1:((r:Int) !=0)=true:=by simp;omega
       clear her h0
       go_wp2_with (go_at_call 86;refine (z1t _ _ m ss _ _ _ fm fs q r _ hk4.out hr4.out hf4.out hm hl HFM hfl hlt HER).mono ?_;rintro e w2 ⟨rfl,b2⟩)
       go_ret
       exact ⟨rfl,zko d4.out b2⟩
     ·obtain rfl:r=0:=by rw [HK2.out,zwf (by omega)]
      go_wp2_with fail
      go_ret
      exact ⟨rfl,zko D1.out hb⟩
def ChRel (w:World) (g:Nat→Nat) (m p r:Nat) (i:Value) (wr:World):Prop:=
 ∃ k:Nat,k≤m∧i= .int .i64 k∧Hid (fir g m k=(p,r))∧Below w.heap.size w wr
theorem check_any (A:Option Addr) (c m:Nat) (ss:List Str) (p r:Nat) (w:World) (hK:KeysIn w) (hR:SR w A ss)
 (hm:Hid (ss.length=m)) (hl:m≤281474976710656) (hmc:m≤c) (hr:Hid (chk ss=(p,r))):
 Calls Tryz.prog 27 #[.slice A m c] w fun e w'=>e= .returned (.tuple #[.int .i64 p,.int .i64 r])∧Below w.heap.size w w':=by
 have HR:=hid hR
 have HK:=hid hK
 clear hR hK
 by_cases h12:12<m
 ·have h12':(12:Int)<(m:Int):=by omega
  have hq:(0,4)=(p,r):=by rw [←hr.out,chk,hm.out,if_pos h12]
  obtain ⟨rfl,rfl⟩:=Prod.mk.inj hq
  clear hq hr
  go_enter Tryz.func27,Tryz.ntmps27
  go_wp2_with fail
  go_ret2
  exact ⟨rfl,Below.refl _ _⟩
 ·have h12':¬ (12:Int)<(m:Int):=by omega
  have HQ:Hid (fir (chkS ss) m 0=(p,r)):=by show _=_;rw [←hr.out,chk,hm.out,if_neg h12]
  clear hr
  go_enter Tryz.func27,Tryz.ntmps27
  go_wp2_with fail
  go_loopw [11] (fun i wr=>ChRel w (chkS ss) m p r i wr) (fun i _=>m - (intOf i).toNat)
  case atStart=>exact ⟨0,Nat.zero_le _,rfl,HQ,Below.refl _ _⟩
  case round=>
   obtain ⟨q,hq,rfl,HK2,hb⟩:=hrel
   by_cases hlt:q<m
   ·have hk4:=hid (z0t HK.out hb)
    have hr4:=hid (HR.out.below hb (Nat.le_refl _))
    obtain ⟨er,her⟩:∃ er,chkS ss q=er:=⟨_,rfl⟩
    have HER:=hid her
    by_cases h0:er=0
    ·have HN:Hid (fir (chkS ss) m (q+1)=(p,r)):=by show _=_;rw [←zvf hlt (her.trans h0)];exact HK2.out
     subst h0
     clear her
     go_wp2_with (go_at_call 51;refine (z05 _ _ m ss q 0 _ hk4.out hr4.out hm hl hmc hlt HER).mono ?_;rintro e w2 ⟨rfl,b2⟩)
     go_roundw
     case rel=>exact ⟨q+1,by omega,by go_num,HN,zko hb b2⟩
     case measure=>simp [intOf];omega
    ·have hre:(q,er)=(p,r):=by rw [←HK2.out,zwe hlt (by rw [her];exact h0),her]
     obtain ⟨rfl,rfl⟩:=Prod.mk.inj hre
     have n1:((er:Int) !=0)=true:=by simp;omega
     clear her h0 hre
     go_wp2_with (go_at_call 51;refine (z05 _ _ m ss q er _ hk4.out hr4.out hm hl hmc hlt HER).mono ?_;rintro e w2 ⟨rfl,b2⟩)
     go_ret2
     exact ⟨rfl,zko hb b2⟩
   ·have hre:(0,0)=(p,r):=by rw [←HK2.out,zwf (by omega)]
    obtain ⟨rfl,rfl⟩:=Prod.mk.inj hre
    clear hre
    go_wp2_with fail
    go_ret2
    exact ⟨rfl,hb⟩
theorem src_same {l l':List UInt8} {ts ms:List Tok} {ks ks':List Tree} (h:zxt l= .ok ts ks) (h':zxt l'= .ok ms ks') (he:EL ks ks'):errS (zz1 l)=errS (zz1 l')∧infS (zz1 l)=infS (zz1 l'):=by
 have hs:Sm (zqy (root ts ks)) (zqy (root ms ks')):=check_el he
 unfold zz1 srcOf
 rw [h,h']
 dsimp only
 generalize zqy (root ts ks)=a at hs
 generalize zqy (root ms ks')=b at hs
 cases hs with
 |ok x=>exact ⟨rfl,rfl⟩
 |bad p q e=>exact ⟨rfl,rfl⟩
theorem shown_long (s:ByteArray) (w:World) (g:Good w) (hs:4096<s.size):Calls Tryz.prog 5 #[.string s] w fun e w'=>e= .returned (.bool true)∧Below w.heap.size w w':=by
 have AW:=hid (awake5 w g)
 clear g
 go_enter Tryz.func5,Tryz.ntmps5
 go_wp2_with fail
 refine AW.out.mono ?_
 rintro e w1 ⟨rfl,hb⟩
 have hli:(4096:Int)<(s.size:Int):=by omega
 go_wp2_with fail
 go_ret
 exact ⟨rfl,hb⟩
theorem shown_bad (s:ByteArray) (p er:Nat) (w:World) (g:Good w) (hs:s.size≤4096) (h:Hid (zxt s.data.toList= .bad p er)):Calls Tryz.prog 5 #[.string s] w fun e w'=>e= .returned (.bool true)∧Below w.heap.size w w':=by
 have AW:=hid (awake5 w g)
 have G:=hid g
 clear g
 have her:=z2z h.out
 have hne:((er:Int) !=0)=true:=by simp;omega
 go_enter Tryz.func5,Tryz.ntmps5
 go_wp2_with fail
 refine AW.out.mono ?_
 rintro e w1 ⟨rfl,hb⟩
 have B1:=hid hb
 have G1:=hid (G.out.below hb)
 clear hb AW G
 have hli:¬ (4096:Int)<(s.size:Int):=by omega
 go_wp2_with fail
 refine Calls.mono (R:=z3k s.data.toList (.bad p er) w1) (zvh s _ w1 G1.out (by omega) h) ?_
 rintro e w2 ⟨hb,rfl⟩
 have B2:=hid ((B1.out.trans (hb.mono B1.out.size)).trans ((b1 w2 (.cells #[.pointer none] 25)).mono (B1.out.trans (hb.mono B1.out.size)).size))
 clear hb
 go_wp2_with fail
 go_ret
 exact ⟨rfl,B2.out⟩
theorem shown_deep (s:ByteArray) (ts:List Tok) (ks:List Tree) (p er:Nat) (w:World) (g:Good w) (pw:PowIn w) (hs:s.size≤4096) (h:Hid (zxt s.data.toList= .ok ts ks)) (h2:Hid (zxt (zj2 (zjy (root ts ks)))= .bad p er)):Calls Tryz.prog 5 #[.string s] w fun e w'=>e= .returned (.bool true)∧Below w.heap.size w w':=by
 have AW:=hid (awake5 w g)
 have G:=hid g
 have PW:=hid pw
 clear g pw
 have her:=z2z h2.out
 have hne:((er:Int) !=0)=true:=by simp;omega
 obtain ⟨hok,-,hl1,hl2⟩:=shown h.out
 have HOK:=hid hok
 clear hok
 go_enter Tryz.func5,Tryz.ntmps5
 go_wp2_with fail
 refine AW.out.mono ?_
 rintro e w1 ⟨rfl,hb⟩
 have B1:=hid hb
 have G1:=hid (G.out.below hb)
 have PW1:=hid (zj1 PW.out (hb.mono G.out.size))
 clear hb AW G PW
 have hli:¬ (4096:Int)<(s.size:Int):=by omega
 go_wp2_with fail
 refine Calls.mono (R:=z3k s.data.toList (.ok ts ks) w1) (zvh s _ w1 G1.out (by omega) h) ?_
 rintro e w2 ⟨hb,nb,rfl,hn⟩
 have BX:=hid (b1 w2 (.cells #[.pointer (some ⟨nb,0,none⟩)] 25))
 have b9:=hb.trans (BX.out.mono hb.size)
 have B2:=hid (B1.out.trans (b9.mono B1.out.size))
 have G2:=hid (G1.out.below b9)
 have PW2:=hid (zj1 PW1.out (b9.mono G1.out.size))
 have N2:=hid (hn.bl BX.out)
 have u0:=zxa w2 #[.pointer (some ⟨nb,0,none⟩)] 25 0
 clear hb hn b9 BX B1 G1 PW1
 unfold zzd
 go_wp2_with fail
 clear u0
 generalize (w2.alloc (.cells #[.pointer (some ⟨nb,0,none⟩)] 25))=w3 at*
 refine (show_any _ w3 _ nb _ N2.out HOK.out G2.out PW2.out (by omega) (by omega)).mono ?_
 rintro e w4 ⟨rfl,hb⟩
 have B4:=hid (B2.out.trans (hb.mono B2.out.size))
 have G4:=hid (G2.out.below hb)
 clear hb N2 B2 G2 PW2
 have hsz:(⟨(zj2 (zjy (root ts ks))).toArray⟩:ByteArray).size≤281474976710656:=by show (zj2 (zjy (root ts ks))).toArray.size≤_;rw [List.size_toArray];omega
 go_wp2_with fail
 refine Calls.mono (R:=z3k (zj2 (zjy (root ts ks))) (.bad p er) w4) (zvh ⟨(zj2 (zjy (root ts ks))).toArray⟩ _ w4 G4.out hsz h2) ?_
 rintro e w5 ⟨hb,rfl⟩
 have B5:=hid ((B4.out.trans (hb.mono B4.out.size)).trans ((b1 w5 (.cells #[.pointer none] 25)).mono (B4.out.trans (hb.mono B4.out.size)).size))
 clear hb hsz
 go_wp2_with fail
 go_ret
 exact ⟨rfl,B5.out⟩
theorem src_right {l:List UInt8} {ts:List Tok} {ks:List Tree} {r:SRs} (h:zxt l= .ok ts ks) (hr:zz1 l=r) (he:errS r=0):zqy (root ts ks)= .ok (infS r):=by
 subst hr
 unfold zz1 srcOf at he ⊢
 rw [h] at he ⊢
 dsimp only at he ⊢
 cases hc:zqy (root ts ks) with
 |ok x=>rfl
 |bad j e=>rw [hc] at he;exact absurd he (chk_ne hc)
theorem shown_go (s:ByteArray) (ts:List Tok) (ks:List Tree) (ms:List Tok) (ks':List Tree) (w:World) (g:Good w) (pw:PowIn w) (hs:s.size≤4096) (h:Hid (zxt s.data.toList= .ok ts ks)) (h2:Hid (zxt (zj2 (zjy (root ts ks)))= .ok ms ks')) (he:Hid (EL ks ks')):Calls Tryz.prog 5 #[.string s] w fun e w'=>e= .returned (.bool true)∧Below w.heap.size w w':=by
 have AW:=hid (awake5 w g)
 have G:=hid g
 have PW:=hid pw
 clear g pw
 obtain ⟨hse,hsi⟩:=src_same h.out h2.out he.out
 have HSE:=hid hse
 have HSI:=hid hsi
 clear hse hsi
 obtain ⟨hok,-,hl1,hl2⟩:=shown h.out
 have HOK:=hid hok
 clear hok
 go_enter Tryz.func5,Tryz.ntmps5
 go_wp2_with fail
 refine AW.out.mono ?_
 rintro e w1 ⟨rfl,hb⟩
 have B1:=hid hb
 have G1:=hid (G.out.below hb)
 have PW1:=hid (zj1 PW.out (hb.mono G.out.size))
 clear hb AW G PW
 have hli:¬ (4096:Int)<(s.size:Int):=by omega
 go_wp2_with fail
 refine Calls.mono (R:=z3k s.data.toList (.ok ts ks) w1) (zvh s _ w1 G1.out (by omega) h) ?_
 rintro e w2 ⟨hb,nb,rfl,hn⟩
 have BX:=hid (b1 w2 (.cells #[.pointer (some ⟨nb,0,none⟩)] 25))
 have b9:=hb.trans (BX.out.mono hb.size)
 have B2:=hid (B1.out.trans (b9.mono B1.out.size))
 have G2:=hid (G1.out.below b9)
 have PW2:=hid (zj1 PW1.out (b9.mono G1.out.size))
 have N2:=hid (hn.bl BX.out)
 have u0:=zxa w2 #[.pointer (some ⟨nb,0,none⟩)] 25 0
 clear hb hn b9 BX B1 G1 PW1
 unfold zzd
 go_wp2_with fail
 clear u0
 generalize (w2.alloc (.cells #[.pointer (some ⟨nb,0,none⟩)] 25))=w3 at*
 refine (show_any _ w3 _ nb _ N2.out HOK.out G2.out PW2.out (by omega) (by omega)).mono ?_
 rintro e w4 ⟨rfl,hb⟩
 have B4:=hid (B2.out.trans (hb.mono B2.out.size))
 have G4:=hid (G2.out.below hb)
 clear hb N2 B2 G2 PW2
 have hsz:(⟨(zj2 (zjy (root ts ks))).toArray⟩:ByteArray).size≤281474976710656:=by show (zj2 (zjy (root ts ks))).toArray.size≤_;rw [List.size_toArray];omega
 go_wp2_with fail
 refine Calls.mono (R:=z3k (zj2 (zjy (root ts ks))) (.ok ms ks') w4) (zvh ⟨(zj2 (zjy (root ts ks))).toArray⟩ _ w4 G4.out hsz h2) ?_
 rintro e w5 ⟨hb,mb,rfl,-⟩
 have b9:=hb.trans ((b1 w5 (.cells #[.pointer (some ⟨mb,0,none⟩)] 25)).mono hb.size)
 have B5:=hid (B4.out.trans (b9.mono B4.out.size))
 have G5:=hid (G4.out.below b9)
 clear hb b9 B4 G4
 unfold zzd
 go_wp2_with fail
 generalize (w5.alloc (.cells #[.pointer (some ⟨mb,0,none⟩)] 25))=w6 at*
 obtain ⟨r1,hr1⟩:∃ r,zz1 s.data.toList=r:=⟨_,rfl⟩
 obtain ⟨r2,hr2⟩:∃ r,zz1 (zj2 (zjy (root ts ks)))=r:=⟨_,rfl⟩
 have HE:Hid (errS r2=errS r1):=by show _=_;rw [←hr1,←hr2];exact HSE.out.symm
 have HI:Hid (infS r2=infS r1):=by show _=_;rw [←hr1,←hr2];exact HSI.out.symm
 have HR1:=hid hr1
 have HR2:=hid hr2
 clear hr1 hr2 HSE HSI
 refine Calls.mono (R:=SU r1 w6) (zq3 s _ w6 G5.out (by omega) HR1) ?_
 rintro e u1 ⟨hb,p1,E1,rfl,hx,hI⟩
 have BX:=b2 u1 (.cells #[.pointer p1] 25) (.cells #[.slice E1.sA E1.x.structs.length E1.sc,.slice E1.gA E1.x.globals.length E1.gc,.slice E1.fA E1.x.funs.length E1.fc] 44)
 have b9:=hb.trans (BX.mono hb.size)
 have B6:=hid (B5.out.trans (b9.mono B5.out.size))
 have G6:=hid (G5.out.below b9)
 have I1:=hid (hI.below BX)
 have V1:=hid (VI.two E1 u1 p1)
 have HX1:=hid hx
 clear hb b9 BX hI hx B5 G5
 unfold infV
 go_wp2_with fail
 generalize ((u1.alloc (.cells #[.pointer p1] 25)).alloc (.cells #[.slice E1.sA E1.x.structs.length E1.sc,.slice E1.gA E1.x.globals.length E1.gc,.slice E1.fA E1.x.funs.length E1.fc] 44))=w7 at*
 refine Calls.mono (R:=SU r2 w7) (zq3 ⟨(zj2 (zjy (root ts ks))).toArray⟩ _ w7 G6.out hsz HR2) ?_
 rintro e u2 ⟨hb,p2,E2,rfl,hx,hI⟩
 have BX:=b2 u2 (.cells #[.pointer p2] 25) (.cells #[.slice E2.sA E2.x.structs.length E2.sc,.slice E2.gA E2.x.globals.length E2.gc,.slice E2.fA E2.x.funs.length E2.fc] 44)
 have b9:=hb.trans (BX.mono hb.size)
 have B7:=hid (B6.out.trans (b9.mono B6.out.size))
 have G7:=hid (G6.out.below b9)
 have I2:=hid (hI.below BX)
 have V2:=hid (VI.two E2 u2 p2)
 have I1b:=hid (I1.out.below b9)
 have V1b:=hid (V1.out.below b9)
 have hxx:E2.x=E1.x:=(hx.trans HI.out).trans HX1.out.symm
 clear hb b9 BX hI hx B6 G6 I1 V1
 unfold infV
 rw [HE.out]
 obtain ⟨c0,c1,c2⟩:=(show _∧_∧_ from ⟨V1b.out.c0,V1b.out.c1,V1b.out.c2⟩)
 obtain ⟨d0,d1,d2⟩:=(show _∧_∧_ from ⟨V2.out.c0,V2.out.c1,V2.out.c2⟩)
 have fg:=I2.out.G
 have fs:=I2.out.S
 rw [hxx] at B7 G7 I1b V1b fg fs c0 c1 c2 d0 d1 d2 ⊢
 have FG:=hid fg
 have FS:=hid fs
 clear fg fs
 have hgl:=I1b.out.gl
 have hsl:=I1b.out.sl
 have l2:=V2.out.lt
 rw [hxx] at l2
 clear I2 V2
 go_wp2_with fail
 generalize ((u2.alloc (.cells #[.pointer p2] 25)).alloc (.cells #[.slice E2.sA E1.x.structs.length E2.sc,.slice E2.gA E1.x.globals.length E2.gc,.slice E2.fA E1.x.funs.length E2.fc] 44))=w8 at*
 have V2:Hid (VI { E2 with x:=E1.x } w8 (u2.heap.size+1)):=⟨l2,d0,d1,d2⟩
 clear c0 c1 c2 d0 d1 d2 l2
 refine (fields_same E1.gA E2.gA E1.gc E2.gc _ E1.x.globals w8 I1b.out.G FG.out (hid rfl) (by omega)).mono ?_
 rintro e w9 ⟨rfl,hb⟩
 have B9:=hid (B7.out.trans (hb.mono B7.out.size))
 have I9:=hid (I1b.out.below hb)
 have V9:=hid (V1b.out.below hb)
 have V29:=hid (V2.out.below hb)
 have FS9:=hid (FS.out.below hb (Nat.le_refl _))
 clear hb B7 G7 I1b V1b V2 FS FG
 obtain ⟨c0,c1,c2⟩:=(show _∧_∧_ from ⟨V9.out.c0,V9.out.c1,V9.out.c2⟩)
 obtain ⟨d0,d1,d2⟩:=(show _∧_∧_ from ⟨V29.out.c0,V29.out.c1,V29.out.c2⟩)
 go_wp2_with fail
 clear c0 c1 c2 d0 d1 d2
 refine (ksame_any E1.sA E2.sA E1.sc E2.sc _ _ E1.x.structs E1.x.structs true w9 I9.out.S FS9.out (hid rfl) (hid rfl) (by omega) (hid ⟨fun _=>rfl,fun _=>rfl⟩)).mono ?_
 rintro e w10 ⟨rfl,hb⟩
 have BA:=hid (B9.out.trans (hb.mono B9.out.size))
 have IA:=hid (I9.out.below hb)
 have VA:=hid (V9.out.below hb)
 clear hb B9 I9 V9 V29 FS9
 obtain ⟨c0,c1,c2⟩:=(show _∧_∧_ from ⟨VA.out.c0,VA.out.c1,VA.out.c2⟩)
 obtain ⟨en,hen⟩:∃ e,errS r1=e:=⟨_,rfl⟩
 have HEN:=hid hen
 rw [hen]
 clear hen
 by_cases h0:en=0
 ·subst h0
  have hck:=src_right h.out HR1.out HEN.out
  rw [←show E1.x=infS r1 from HX1.out] at hck
  obtain ⟨k1,k2,k3,f,sg,k4,k5,k6,k7⟩:=right_parts h.out hck
  have HK1:=hid k1
  have HK4:=hid k4
  clear hck k1 k4
  have hsc:=IA.out.sle
  go_wp2_with fail
  clear c0 c1 c2
  refine (check_any E1.sA E1.sc _ E1.x.structs 0 0 w10 IA.out.good.keys IA.out.S (hid rfl) (by omega) hsc HK1).mono ?_
  rintro e w11 ⟨rfl,hb⟩
  have BB:=hid (BA.out.trans (hb.mono BA.out.size))
  have IB:=hid (IA.out.below hb)
  have VB:=hid (VA.out.below hb)
  clear hb BA IA VA
  obtain ⟨c0,c1,c2⟩:=(show _∧_∧_ from ⟨VB.out.c0,VB.out.c1,VB.out.c2⟩)
  go_wp2_with fail
  clear c0 c1 c2
  refine Calls.mono (R:=fun e w'=>e= .returned (zqt (some f))∧Below w11.heap.size w11 w') (zw9 E1 tMain (some f) w11 IB.out HK4) ?_
  rintro e w12 ⟨rfl,hb⟩
  simp only [zqt]
  have BC:=hid (BB.out.trans (hb.mono BB.out.size))
  have VC:=hid (VB.out.below hb)
  have IC:=hid (IB.out.below hb)
  clear hb BB IB VB
  have hfl:f<E1.x.funs.length:=(List.getElem?_eq_some_iff.1 k5).1
  obtain ⟨fb,fo,hfa,hfb,hfc⟩:=IC.out.F (by omega)
  obtain ⟨PA,pc,f0,f1,f2,-⟩:=hfc _ _ k5
  obtain ⟨c0,c1,c2⟩:=(show _∧_∧_ from ⟨VC.out.c0,VC.out.c1,VC.out.c2⟩)
  rw [k6] at f1
  rw [k7] at f2
  unfold zkx at f2
  rw [hfa] at c2
  have g1:(E1.x.funs.length:Int)≤24:=by omega
  have g2:(E1.x.globals.length:Int)≤12:=by omega
  clear hfc k5 k6 k7 hfa VC IC
  go_wp2_with fail
  go_ret
  exact ⟨rfl,BC.out⟩
 ·have hne:((en:Int) !=0)=true:=by simp;omega
  have hf0:E1.x.funs.length=0:=by
   rw [HX1.out]
   cases r1 with
   |ok _ _ _=>exact absurd HEN.out.symm h0
   |bad _ _=>rfl
  rw [hf0] at c2
  go_wp2_with fail
  go_ret
  exact ⟨rfl,BA.out⟩
theorem shown_true (s:ByteArray) (w:World) (g:Good w) (pw:PowIn w):Calls Tryz.prog 5 #[.string s] w fun e w'=>e= .returned (.bool true)∧Below w.heap.size w w':=by
 by_cases hl:4096<s.size
 ·exact shown_long s w g hl
 ·obtain ⟨r,hr⟩:∃ r,zxt s.data.toList=r:=⟨_,rfl⟩
  cases r with
  |bad p er=>exact shown_bad s p er w g (by omega) hr
  |ok ts ks=>
   cases back hr with
   |full p h2=>exact shown_deep s ts ks p 4 w g pw (by omega) hr h2
   |deep p h2=>exact shown_deep s ts ks p 3 w g pw (by omega) hr h2
   |good ms ks' h2 he _=>exact shown_go s ts ks ms ks' w g pw (by omega) hr h2 he
open Go.ChangeShapes Go.WideShapes Go.ChangeAt Go.RowKit
open Go.ChangeMaps (open_string shut_string)
namespace CheckShown

theorem contract (H : Type) (enc : TypeId × Value → H) (W : World) (base : Nat) (args : Array Value) (ds gs : List (DataW H)) (before : List MemPlace)
    (hval : ∀ (j : Nat) t v, Tryz.f5.params[j]? = some t → args[j]? = some v → Value.okWide Tryz.prog W .any base t v)
    (hW : DataW.Whole enc Tryz.prog Tryz.f5.params.toList Rows.checkShownSpec.vars false W args.toList ds gs before)
    (hsz0 : (DataW.weightsEach Tryz.prog (Tryz.f5.params.toList ++ (OpenSpec.ofChange Rows.checkShownSpec).bare.plain.varTypes Tryz.prog) (ds ++ gs)).all (· ≤ reachBytes) = true)
    (hL : laidMetH Tryz.prog Rows.checkShownRow.laid W) :
    Calls Tryz.prog 5 args W fun e W' => ∃ v, e = .returned v ∧ Rows.checkShownSpec.post enc Tryz.prog Tryz.f5 false true false false W args v W' := by
  have hW' := hW
  obtain ⟨p, q, hA0, hV, rfl, hfz, hnd⟩ := hW
  have hA : DataW.TrodAll enc Tryz.prog W 0 (fun _ => true) true Tryz.f5.params.toList args.toList ds p := hA0
  have hsz : (DataW.weightsEach Tryz.prog (Tryz.f5.params.toList ++ Rows.checkShownSpec.plain.varTypes Tryz.prog) (ds ++ gs)).all (· ≤ reachBytes) = true := hsz0
  clear hsz0
  rw [Tryz.params5] at hA hval hsz
  obtain ⟨v0, vs0, d0, ds0, p0, q0, hargs, rfl, rfl, h0, r0⟩ := trodAll_cons hA
  obtain ⟨rfl, rfl, rfl⟩ := trodAll_nil r0
  obtain rfl : args = #[v0] := by cases args; simp_all
  obtain ⟨rfl, rfl⟩ := trodVars_none hV
  obtain ⟨x0, rfl, rfl, rfl, hs0⟩ := open_string Tryz.underlying9 (hval 0 9 v0 rfl rfl) h0
  have l0 : x0.size ≤ 281474976710656 := by
    have k1 := sized_string hsz (j := 0) (t := 9) rfl rfl
    have k2 := reachBytes_lt
    have e1 : x0.size = x0.data.size := rfl
    have e2 : x0.data.toList.length = x0.data.size := Array.length_toList
    have e3 : (2 : Nat) ^ 47 = 140737488355328 := by decide
    omega
  clear hA0
  simp only [List.append_nil] at hW'
  have GP := good_of hL
  have walk : Calls Tryz.prog 5 #[.string x0] W fun e w' => e = .returned (.bool true) ∧ Below W.heap.size W w' := shown_true x0 W GP.1 GP.2
  refine walk.mono fun e W' ⟨he, hb⟩ => ?_
  subst he
  refine ⟨_, rfl, _, _, _, [], [], [], hW', ?_, ?_, rfl, hb.frame _, fun h => by cases h⟩
  · exact trodAll_cons_mk (shut_bool Tryz.underlying4 _) trodAll_mk0
  · exact trodAll_cons_mk (shut_string Tryz.underlying9 hs0) trodAll_mk0

theorem reads (os : Os) {H : Type} (enc : TypeId × Value → H) : ∃ places, DataW.whole enc Tryz.prog ((World.doorLaid Tryz.prog 77 os).forCall (fun _ _ => 0) ⟨#[], #[.string ⟨#[]⟩], []⟩).memory Tryz.f5.params.toList Rows.checkShownSpec.vars false #[Value.string ⟨#[]⟩].toList 8 = some ([.lit (.string [])], [], places) :=
  ⟨[], by kernel_rfl⟩

theorem lifted (os : Os) (started : os.Started) (H : Type) (enc : TypeId × Value → H) (F : Stop.Interp) :
    ReturnsInHanded {} Tryz.checked os 5 .any ((OpenSpec.ofChange Rows.checkShownSpec).preRow enc Tryz.prog Tryz.f5 Rows.checkShownRow.domain false Rows.checkShownRow.laid) (((OpenSpec.ofChange Rows.checkShownSpec).at F).post enc Tryz.prog Tryz.f5 false true false false) := by
  obtain ⟨places, hx⟩ := reads os enc
  refine returnsInHanded_of_row (C := Tryz.checked) (s := OpenSpec.ofChange Rows.checkShownSpec) own started (by kernel_rfl) Tryz.func5
    (witness_row_atRef (enc := enc) (C := Tryz.checked) false (World.doorLaid Tryz.prog 77 os) #[.string ⟨#[]⟩] rfl (by kernel_rfl) (by kernel_rfl) (by kernel_rfl)
      (OpenSpec.preRow_of_cond 8 hx (by kernel_rfl) (fun k hk => by cases hk) (by kernel_rfl) (door_met os _))) ?_
  intro W base args ds gs before hval hW _ _ hsz hL _ _
  exact contract H enc W base args ds gs before hval hW hsz hL

theorem said : Rows.CheckShownSaid :=
  OpenClaim.holds_of_cond 5 Tryz.f5 rfl rfl rfl rfl rfl rfl rfl ⟨rfl, rfl, rfl, rfl, rfl⟩ rfl rfl rfl rfl rfl (by kernel_rfl) Tryz.func5 (by kernel_rfl)
    (of_decide_eq_true (by kernel_rfl)) (by unfold Func.isWrapper; first | (rw [if_pos (by decide +kernel)]; kernel_rfl) | (rw [if_neg (by decide +kernel)]; exact ⟨rfl, rfl⟩))
    (fun os started H enc _ F => by rw [OpenClaim.pre_eq_preRow]; exact lifted os started H enc F)

theorem plain (f : FuncId) (fn : Func) (hf : Tryz.pinned.checked.prog.funcNamed Rows.checkShownRow.func = some f) (hfn : Tryz.pinned.checked.prog.funcs[f]? = some fn) :
    true = Tryz.pinned.checked.prog.looks [] ∧ ∀ (j : Nat) t, fn.params[j]? = some t → Tryz.pinned.checked.prog.wantsStandIn t = false := by
  obtain rfl : f = 5 := Option.some.inj ((show Tryz.prog.funcNamed Rows.checkShownRow.func = some 5 by kernel_rfl).symm.trans hf) |>.symm
  obtain rfl : fn = Tryz.f5 := (Option.some.inj (Tryz.func5.symm.trans hfn)).symm
  refine ⟨by kernel_rfl, fun j t ht => ?_⟩
  rw [Tryz.params5] at ht
  have hm : t ∈ [9] := by simpa using Array.mem_of_getElem? ht
  have hall : ([9].all fun u => !Tryz.prog.wantsStandIn u) = true := by kernel_rfl
  exact (show Tryz.prog.wantsStandIn t = false by simpa using List.all_eq_true.1 hall t hm)

end CheckShown

theorem checkShown_card : Rows.CheckShownCardSaid :=
  Claim7.holds_tied_plain_at .later [] _ _ _ _ CheckShown.said (fun _ h => by cases h) (by kernel_rfl) (fun _ h => by cases h) checkShown_row_tie rfl ⟨rfl, rfl⟩ (by kernel_rfl) rfl CheckShown.plain (by kernel_rfl)

end Go.Proofs.YtkahbhfbgdbnfaaGreatDoor
