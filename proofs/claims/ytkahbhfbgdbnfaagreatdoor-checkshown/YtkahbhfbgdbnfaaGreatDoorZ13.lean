/- PLAIN: what is declared, and which rule is broken, does not hang on places. Nothing of the program stands here. No condition. -/
import Derived.Test.YtkahbhfbgdbnfaaGreatDoorZ2
import Derived.Test.YtkahbhfbgdbnfaaGreatDoorZ10
import Derived.Test.YtkahbhfbgdbnfaaGreatDoorZ8
import Derived.Test.YtkahbhfbgdbnfaaGreatDoorZ9
import Derived.Laws.StructEq
import Derived.Lib.ItoaNum
import Derived.Lib.ItoaLen
import Derived.Test.YtkahbhfbgdbnfaaGreatDoorZ6
set_option maxRecDepth 100000
set_option maxHeartbeats 1000000
namespace Go.Proofs.YtkahbhfbgdbnfaaGreatDoor
open Go.Lib (hid)
open Go.RowKit
inductive Sm {α:Type} :CR α→CR α→Prop
 |ok (a:α):Sm (.ok a) (.ok a)
 |bad (p q e:Nat):Sm (.bad p e) (.bad q e)
theorem Sm.refl {α:Type} :∀ r:CR α,Sm r r
 | .ok a=> .ok a
 | .bad p e=> .bad p p e
theorem Sm.symm {α:Type} {r r':CR α} (h:Sm r r'):Sm r' r:=by
 cases h with
 |ok a=>exact .ok a
 |bad p q e=>exact .bad q p e
theorem Sm.trans {α:Type} {a b c:CR α} (h:Sm a b) (g:Sm b c):Sm a c:=by
 cases h with
 |ok a=>exact g
 |bad p q e=>cases g with|bad _ s _=>exact .bad p s e
theorem Sm.bind {α β:Type} {r r':CR α} {f f':α→CR β} (h:Sm r r') (g:∀ a,Sm (f a) (f' a)):Sm (r.bind f) (r'.bind f'):=by
 cases h with
 |ok a=>exact g a
 |bad p q e=>exact .bad p q e
theorem Sm.nd {α:Type} (p q:Nat) (b:Bool) (e:Nat) {k k':CR α} (g:Sm k k'):Sm (nd p b e k) (nd q b e k'):=by
 unfold Go.Proofs.YtkahbhfbgdbnfaaGreatDoor.nd;split
 ·exact g
 ·exact .bad p q e
def SmL (rs rs':List (CR ByteArray)):Prop:=rs.length=rs'.length∧∀ i,Sm (rs.getD i (.ok tNil)) (rs'.getD i (.ok tNil))
theorem SmL.kid {rs rs':List (CR ByteArray)} (h:SmL rs rs') (i:Nat):Sm (kidC rs i) (kidC rs' i):=h.2 i
theorem SmL.cons {r r':CR ByteArray} {rs rs':List (CR ByteArray)} (h:Sm r r') (g:SmL rs rs'):SmL (r::rs) (r'::rs'):=
 ⟨by simp [g.1],fun i=>by cases i with
  |zero=>exact h
  |succ i=>simpa using g.2 i⟩
theorem SmL.tail {r r':CR ByteArray} {rs rs':List (CR ByteArray)} (g:SmL (r::rs) (r'::rs')):Sm r r'∧SmL rs rs':=
 ⟨g.2 0,by simpa using g.1,fun i=>by simpa using g.2 (i+1)⟩
theorem SmL.all:∀ {rs rs':List (CR ByteArray)},SmL rs rs'→Sm (allC rs) (allC rs')
 | [],[],_=>Sm.refl _
 | [],_::_,h=>by have:=h.1;simp at this
 |_::_,[],h=>by have:=h.1;simp at this
 |_::rs,_::rs',h=>h.tail.1.bind fun _=>(SmL.all h.tail.2).bind fun _=>Sm.refl _
theorem var_sm (x:Inf) (K:List Fld) (p q:Nat) (n:ByteArray):Sm (varC x K p n) (varC x K q n):=by
 unfold varC varOf;split
 ·exact Sm.refl _
 ·exact Sm.refl _
 ·exact Sm.nd _ _ _ _ (.bad _ _ _)
theorem field_sm (x:Inf) (p q:Nat) (n a:ByteArray):Sm (zjn x p n a) (zjn x q n a):=by
 unfold zjn;split
 ·exact .bad _ _ _
 ·unfold fieldOf;split
  ·exact .bad _ _ _
  ·exact Sm.refl _
theorem callee_sm (x:Inf) (K:List Fld) (p q:Nat) (n:ByteArray):Sm (zju x K p n) (zju x K q n):=by
 unfold zju z0a;split
 ·exact Sm.nd _ _ _ _ (Sm.nd _ _ _ _ (Sm.refl _))
 ·exact Sm.nd _ _ _ _ (.bad _ _ _)
theorem exprOf_sm (x:Inf) (K:List Fld) (op:Nat) (name:List UInt8) (n:Int) (p q:Nat) {rs rs':List (CR ByteArray)} (h:SmL rs rs'):Sm (zj8 x K op name n p rs) (zj8 x K op name n q rs'):=by
 unfold zj8
 split;·exact Sm.refl _
 split;·exact Sm.refl _
 split;·exact var_sm _ _ _ _ _
 split;·exact Sm.nd _ _ _ _ (Sm.nd _ _ _ _ (Sm.refl _))
 split;·exact (h.kid 0).bind fun _=>field_sm _ _ _ _ _
 split;·exact h.all.bind fun _=>(callee_sm _ _ _ _ _).bind fun _=>Sm.nd _ _ _ _ (Sm.nd _ _ _ _ (Sm.refl _))
 split;·exact (h.kid 0).bind fun _=>Sm.nd _ _ _ _ (Sm.refl _)
 split;·exact (h.kid 0).bind fun _=>(h.kid 1).bind fun _=>Sm.nd _ _ _ _ (Sm.refl _)
 split;·exact (h.kid 0).bind fun _=>(h.kid 1).bind fun _=>Sm.nd _ _ _ _ (Sm.refl _)
 exact Sm.refl _
mutual
theorem expr_sm (x:Inf) (K:List Fld):∀ t,Sm (zzt x K t) (zzt x K (er t))
 | .mk op name _ n p ks=>by rw [er];unfold zzt;exact exprOf_sm _ _ _ _ _ _ _ (exprs_sm x K ks)
theorem exprs_sm (x:Inf) (K:List Fld):∀ l,SmL (zvb x K l) (zvb x K (erL l))
 | []=>by rw [erL];exact ⟨rfl,fun _=>Sm.refl _⟩
 |t::l=>by rw [erL];unfold zvb;exact SmL.cons (expr_sm x K t) (exprs_sm x K l)
end
theorem leaf_sm (x:Inf) (res:ByteArray) (K:List Fld) (f:Nat) (op:Nat) (name:List UInt8) (p q:Nat) {rs rs':List (CR ByteArray)} (h:SmL rs rs'):Sm (z2b x res K f op name p rs) (z2b x res K f op name q rs'):=by
 unfold z2b
 rw [h.1]
 split;·exact (h.kid 0).bind fun _=>Sm.nd _ _ _ _ (Sm.nd _ _ _ _ (Sm.refl _))
 split;·exact (h.kid 0).bind fun _=>(var_sm _ _ _ _ _).bind fun _=>Sm.nd _ _ _ _ (Sm.refl _)
 split;·exact (h.kid 0).bind fun _=>(h.kid 1).bind fun _=>(field_sm _ _ _ _ _).bind fun _=>Sm.nd _ _ _ _ (Sm.refl _)
 split;·exact (h.kid 0).bind fun _=>Sm.nd _ _ _ _ (Sm.refl _)
 split
 ·split
  ·exact Sm.nd _ _ _ _ (Sm.refl _)
  ·exact (h.kid 0).bind fun _=>Sm.nd _ _ _ _ (Sm.refl _)
 split;·exact (h.kid 0).bind fun _=>Sm.refl _
 exact Sm.refl _
mutual
theorem stmt_sm (x:Inf) (res:ByteArray):∀ t K f,Sm (zkf x res t K f) (zkf x res (er t) K f)
 | .mk op name _ _ p ks,K,f=>by
   rw [er]
   unfold zkf
   split
   ·exact (stmts_sm x res ks K _).bind fun _=>Sm.refl _
   ·split
    ·exact ((exprs_sm x K ks).kid 0).bind fun _=>Sm.nd _ _ _ _ (rest_sm x res ks K f)
    ·exact leaf_sm _ _ _ _ _ _ _ _ (exprs_sm x K ks)
theorem stmts_sm (x:Inf) (res:ByteArray):∀ l K f,Sm (zxm x res l K f) (zxm x res (erL l) K f)
 | [],K,f=>by rw [erL];exact Sm.refl _
 |t::r,K,f=>by rw [erL];unfold zxm;exact (stmt_sm x res t K f).bind fun K'=>stmts_sm x res r K' f
theorem rest_sm (x:Inf) (res:ByteArray):∀ l K f,Sm (z2t x res l K f) (z2t x res (erL l) K f)
 | [],K,f=>by rw [erL];exact Sm.refl _
 |_::r,K,f=>by rw [erL];unfold z2t;exact stmts_sm x res r K f
end
theorem er_zero:er Tree.zero=Tree.zero:=rfl
theorem er_op (t:Tree):(er t).op=t.op:=by cases t;rw [er];rfl
theorem er_name (t:Tree):(er t).name=t.name:=by cases t;rw [er];rfl
theorem er_typ (t:Tree):(er t).typ=t.typ:=by cases t;rw [er];rfl
theorem er_kids (t:Tree):(er t).kids=t.kids.map er:=by cases t;rw [er_mk];rfl
theorem nm_er (t:Tree):nm (er t)=nm t:=by unfold nm;rw [er_name]
theorem tp_er (t:Tree):tp (er t)=tp t:=by unfold tp;rw [er_typ]
theorem getD_er (ks:List Tree) (i:Nat):(ks.map er).getD i Tree.zero=er (ks.getD i Tree.zero):=by
 simp only [List.getD_eq_getElem?_getD,List.getElem?_map]
 cases ks[i]? with
 |none=>exact er_zero.symm
 |some t=>rfl
theorem nmAt_er (ks:List Tree):nmAt (ks.map er)=nmAt ks:=by funext i;unfold nmAt;rw [getD_er,nm_er]
theorem opAt_er (ks:List Tree):opAt (ks.map er)=opAt ks:=by funext i;unfold opAt;rw [getD_er,er_op]
theorem newB_er (ks:List Tree):newB (ks.map er)=newB ks:=by funext i;unfold newB;rw [nmAt_er]
theorem cntN_er (ks:List Tree) (i:Nat):∀ k,cntN (ks.map er) i k=cntN ks i k
 |0=>rfl
 |k+1=>by unfold cntN;rw [cntN_er ks i k,opAt_er]
theorem nameE_er (ks:List Tree):zwc (ks.map er)=zwc ks:=by funext i;unfold zwc;rw [newB_er,cntN_er,opAt_er]
theorem cntP_er (d:Tree):cntP (er d)=cntP d:=by unfold cntP;rw [er_op,er_kids,List.length_map]
theorem fldOf_er (t:Tree):zwo (er t)=zwo t:=by unfold zwo;rw [nm_er,tp_er]
theorem partsL_er (d:Tree):zzp (er d)=zzp d:=by
 unfold zzp
 rw [cntP_er,er_kids,←List.map_take,List.map_map]
 congr 1
 funext t
 exact fldOf_er t
theorem addD_er (x:Inf) (d:Tree):addD x (er d)=addD x d:=by unfold addD;rw [er_op,nm_er,tp_er,partsL_er,fldOf_er]
theorem infOf_er (ks:List Tree):zxo (ks.map er)=zxo ks:=by
 unfold zxo
 rw [List.foldl_map]
 congr 1
 funext x d
 exact addD_er x d
theorem firC_sm (ks:List Tree) (g:Nat→Nat) (n:Nat):Sm (firC ks g n) (firC (ks.map er) g n):=by
 unfold firC
 rcases fir g n 0 with ⟨i,e⟩
 cases e with
 |zero=>exact Sm.refl _
 |succ e=>exact .bad _ _ _
theorem partE_er (ss:List Str) (d:Tree):z2y ss (er d)=z2y ss d:=by funext i;unfold z2y;rw [er_op,er_kids,newB_er,getD_er,tp_er]
theorem types_sm (ss:List Str) (d:Tree):Sm (zqp ss d) (zqp ss (er d)):=by
 unfold zqp
 rw [er_op,er_kids,partE_er,cntP_er,tp_er]
 split
 ·exact Sm.nd _ _ _ _ (Sm.refl _)
 ·exact (firC_sm _ _ _).bind fun _=>Sm.nd _ _ _ _ (Sm.refl _)
theorem each_sm {f:Tree→CR Unit} (h:∀ d,Sm (f d) (f (er d))):∀ l,Sm (zja f l) (zja f (l.map er))
 | []=>Sm.refl _
 |a::r=>(h a).bind fun _=>each_sm h r
theorem body_sm (x:Inf) (d:Tree):Sm (zvu x d) (zvu x (er d)):=by
 unfold zvu
 rw [er_op,tp_er,partsL_er,er_kids,List.length_map,getD_er,er_kids,←erL_map]
 split
 ·exact (stmts_sm _ _ _ _ _).bind fun _=>Sm.refl _
 ·exact Sm.refl _
theorem check_er (op:Nat) (s ty:List UInt8) (n:Int) (p q:Nat) (ks:List Tree):Sm (zqy (.mk op s ty n p ks)) (zqy (.mk op s ty n q (ks.map er))):=by
 unfold zqy
 simp only [Tree.kids,Tree.pos]
 rw [nameE_er,infOf_er,List.length_map]
 exact (firC_sm _ _ _).bind fun _=>(each_sm (types_sm _) _).bind fun _=>(each_sm (body_sm _) _).bind fun _=>Sm.nd _ _ _ _ (Sm.refl _)
theorem check_el {op:Nat} {s ty:List UInt8} {n:Int} {p q:Nat} {ks ks':List Tree} (h:EL ks ks'):Sm (zqy (.mk op s ty n p ks)) (zqy (.mk op s ty n q ks')):=by
 have h1:=check_er op s ty n p 0 ks
 have h2:=check_er op s ty n q 0 ks'
 rw [show ks.map er=ks'.map er from h] at h1
 exact h1.trans h2.symm
theorem fir_all {g:Nat→Nat} {n:Nat} (h:∀ j,j<n→g j=0):fir g n 0=(0,0):=by
 have:∀ m k,n - k≤m→fir g n k=(0,0):=by
  intro m
  induction m with
  |zero=>intro k hk;exact zwf (by omega)
  |succ m ih=>
   intro k hk
   by_cases hl:k<n
   ·rw [zvf hl (h k hl)];exact ih (k+1) (by omega)
   ·exact zwf (by omega)
 exact this n 0 (by omega)
theorem inf_lists (ks:List Tree):∀ x:Inf,(ks.foldl addD x).structs=x.structs++(ks.filter (fun d=>d.op==2)).map (fun d=>⟨nm d,zzp d⟩)∧(ks.foldl addD x).globals=x.globals++(ks.filter (fun d=>d.op==3)).map zwo∧(ks.foldl addD x).funs=x.funs++(ks.filter (fun d=>d.op==4)).map (fun d=>⟨nm d,zzp d,tp d⟩):=by
 induction ks with
 |nil=>intro x;simp
 |cons a r ih=>
  intro x
  obtain ⟨h1,h2,h3⟩:=ih (addD x a)
  rw [List.foldl_cons,h1,h2,h3]
  unfold addD
  by_cases e2:a.op=2
  ·simp [e2]
  ·by_cases e3:a.op=3
   ·simp [e3]
   ·by_cases e4:a.op=4
    ·simp [e4]
    ·simp [e2,e3,e4]
theorem nameE_zero {ks:List Tree} {j:Nat} (h:zwc ks j=0):newB ks j=true∧cntN ks j j<mostD (opAt ks j):=by
 unfold zwc at h
 split at h
 ·split at h
  ·exact ⟨by assumption,by assumption⟩
  ·cases h
 ·cases h
theorem cnt_is (ks:List Tree) (i:Nat):∀ j,j≤ks.length→cntN ks i j=((ks.take j).filter (fun d=>d.op==opAt ks i)).length:=by
 intro j
 induction j with
 |zero=>intro _;simp [cntN]
 |succ j ih=>
  intro hj
  obtain ⟨u,hu⟩:∃ u,ks[j]? =some u:=⟨_,List.getElem?_eq_getElem (by omega)⟩
  unfold cntN
  rw [ih (by omega),List.take_add_one,hu,List.filter_append,List.length_append,opAt_at hu]
  simp only [Option.toList_some,List.filter_cons,List.filter_nil]
  by_cases e:u.op=opAt ks i
  ·simp [e]
  ·simp [e]
theorem most_len {ks:List Tree} (h:∀ j,j<ks.length→zwc ks j=0) (o:Nat):(ks.filter (fun d=>d.op==o)).length≤mostD o:=by
 have:∀ j,j≤ks.length→((ks.take j).filter (fun d=>d.op==o)).length≤mostD o:=by
  intro j
  induction j with
  |zero=>intro _;simp
  |succ j ih=>
   intro hj
   obtain ⟨u,hu⟩:∃ u,ks[j]? =some u:=⟨_,List.getElem?_eq_getElem (by omega)⟩
   have ih:=ih (by omega)
   rw [List.take_add_one,hu,List.filter_append,List.length_append]
   simp only [Option.toList_some,List.filter_cons,List.filter_nil]
   by_cases e:u.op=o
   ·have h2:=(nameE_zero (h j (by omega))).2
    rw [cnt_is ks j j (by omega),opAt_at hu,e] at h2
    simp [e];omega
   ·simp [e];omega
 have:=this ks.length (Nat.le_refl _)
 rwa [List.take_length] at this
theorem new_pair {ks:List Tree} (n:Nat) (hn:n≤ks.length) (h:∀ j,j<n→newB ks j=true):(ks.take n).Pairwise (fun a b=>eqB (nm a) (nm b)=false):=by
 rw [List.pairwise_iff_getElem]
 intro i j hi hj hij
 have hj2:j<n:=by simp at hj;omega
 have:=h j hj2
 unfold newB at this
 have h2:fst (fun a=>eqB (nmAt ks a) (nmAt ks j)) j 0=none:=by
  cases hf:fst (fun a=>eqB (nmAt ks a) (nmAt ks j)) j 0 with
  |none=>rfl
  |some k=>rw [hf] at this;cases this
 have h3:=zv2 h2 i (Nat.zero_le _) hij
 rw [z2a (List.getElem?_eq_getElem (show i<ks.length by omega)),z2a (List.getElem?_eq_getElem (show j<ks.length by omega))] at h3
 simpa [List.getElem_take] using h3
theorem word_of {l:List UInt8} {ts:List Tok} (h:TokS l ts) {s:Tx} (hs:Wd (Tf ts) s):zjw s=true:=by
 obtain ⟨k,h1,rfl⟩:=hs
 cases hg:ts[k]? with
 |none=>rw [Tf_end (List.getElem?_eq_none_iff.1 hg)] at h1;cases h1
 |some t=>
  rw [Tf_at hg] at h1 ⊢
  have h1:t.kind=1:=h1
  rcases z0h (h.ok t (List.mem_of_getElem? hg)) with ⟨-,a,b,c,d⟩|⟨e,-⟩|⟨e,-⟩|⟨e,-⟩
  ·show zjw t.text=true
   unfold zjw
   simp only [Bool.and_eq_true,decide_eq_true_eq,Bool.not_eq_true']
   refine ⟨⟨⟨c,?_⟩,b⟩,d⟩
   cases ht:t.text with
   |nil=>rw [ht] at a;revert a;decide
   |cons x r=>rw [ht] at a;unfold zv6;first|exact a|simpa using a
  ·omega
  ·omega
  ·omega
theorem partE_zero {ss:List Str} {d:Tree} {i:Nat} (h:z2y ss d i=0):i<mostPt d.op∧newB d.kids i=true∧isT ss (tp (d.kids.getD i Tree.zero))=true:=by
 unfold z2y at h
 split at h
 ·split at h
  ·split at h
   ·exact ⟨by assumption,by assumption,by assumption⟩
   ·cases h
  ·cases h
 ·cases h
theorem new_lt {ks:List Tree} {j i:Nat} (h:newB ks j=true) (hi:i<j):eqB (nmAt ks i) (nmAt ks j)=false:=by
 unfold newB at h
 cases hf:fst (fun a=>eqB (nmAt ks a) (nmAt ks j)) j 0 with
 |none=>exact zv2 hf i (Nat.zero_le _) hi
 |some k=>rw [hf] at h;cases h
theorem struct_row {l:List UInt8} {ts:List Tok} {ss:List Str} {d:Tree} (hT:TokS l ts) (hA:Al (Wd (Tf ts)) d) (ho:d.op=2) (ht:zqp ss d= .ok ()):zjw d.name=true∧(zzp d).length≤8∧∀ k,chkF ss (zzp d) k=0:=by
 have hcn:cntP d=d.kids.length:=by unfold cntP;rw [if_neg (by omega)]
 have hpl:zzp d=d.kids.map zwo:=by unfold zzp;rw [hcn,List.take_length]
 unfold zqp at ht
 rw [if_neg (by omega)] at ht
 cases hf:firC d.kids (z2y ss d) (cntP d) with
 |bad p e=>rw [hf] at ht;cases ht
 |ok u=>
  have hz:∀ j,j<d.kids.length→_:=fun j hj=>partE_zero (firC_ok hf j (by rw [hcn];exact hj))
  rw [ho] at hz
  have hw:zjw d.name=true∧∀ u∈d.kids,zjw u.name=true:=by
   cases hA with
   |mk h hk=>
    cases h with
    |struct h hk5=>
     refine ⟨word_of hT h,fun u hu=> ?_⟩
     have h5:=hk5 u hu
     cases hk u hu with
     |mk h' _=>cases h'<;>first|exact word_of hT (by assumption)|(exfalso;revert h5;simp only [Tree.op];omega)
    |var h0=>rcases h0 with rfl|rfl<;>cases ho
    |set h0=>rcases h0 with rfl|rfl<;>cases ho
    |name h0=>rcases h0 with rfl|rfl<;>cases ho
    |binary h0=>
     rcases h0 with ⟨rfl,-⟩|⟨rfl|rfl,-⟩<;>cases ho
    |_=>cases ho
  refine ⟨hw.1,?_,fun k=> ?_⟩
  ·rw [hpl,List.length_map]
   rcases Nat.lt_or_ge 8 d.kids.length with hl|hl
   ·have:=(hz 8 hl).1
    exact absurd this (by decide)
   ·exact hl
  ·unfold chkF
   rw [hpl,List.getElem?_map]
   cases hu:d.kids[k]? with
   |none=>rfl
   |some u=>
    have hkl:k<d.kids.length:=(List.getElem?_eq_some_iff.1 hu).1
    obtain ⟨-,h2,h3⟩:=hz k hkl
    have e1:d.kids.getD k Tree.zero=u:=by rw [List.getD_eq_getElem?_getD,hu];rfl
    rw [e1] at h3
    have hpk:plc (d.kids.map zwo) (nm u)=some k:=by
     refine fst_of (Nat.zero_le _) (by simpa using hkl) ?_ fun j _ hj=> ?_
     ·unfold fldIs;rw [List.getElem?_map,hu];exact eqB_iff.2 rfl
     ·obtain ⟨v,hv⟩:∃ v,d.kids[j]? =some v:=⟨_,List.getElem?_eq_getElem (by omega)⟩
      unfold fldIs
      rw [List.getElem?_map,hv]
      have:=new_lt h2 hj
      rw [z2a hv,z2a hu] at this
      exact this
    show (if zjw (nm u).data.toList=false then 1 else if plc (d.kids.map zwo) (nm u)=some k then (if isT ss (tp u) then 0 else 7) else 6)=0
    rw [if_neg (by show ¬ zjw u.name=false;rw [hw.2 u (List.mem_of_getElem? hu)];decide),if_pos hpk,if_pos h3]
theorem check_parts {ts:List Tok} {ks:List Tree} {x:Inf} (h:zqy (root ts ks)= .ok x):x=zxo ks∧(∀ j,j<ks.length→zwc ks j=0)∧(∀ d∈ks,zqp x.structs d= .ok ())∧mainB x=true:=by
 unfold zqy at h
 simp only [root,Tree.kids,Tree.pos] at h
 cases h1:firC ks (zwc ks) ks.length with
 |bad p e=>rw [h1] at h;cases h
 |ok u1=>
  rw [h1] at h
  cases h2:zja (zqp (zxo ks).structs) ks with
  |bad p e=>rw [h2] at h;cases h
  |ok u2=>
   rw [h2] at h
   cases h3:zja (zvu (zxo ks)) ks with
   |bad p e=>rw [h3] at h;cases h
   |ok u3=>
    rw [h3] at h
    simp only [CR.bind,nd] at h
    split at h
    ·rename_i hm
     cases h
     exact ⟨rfl,firC_ok h1,each_ok h2,hm⟩
    ·cases h
theorem right_parts {l:List UInt8} {ts:List Tok} {ks:List Tree} {x:Inf} (hp:zxt l= .ok ts ks) (h:zqy (root ts ks)= .ok x):
 chk x.structs=(0,0)∧x.globals.length≤12∧x.funs.length≤24∧∃ f s,funO x tMain=some f∧x.funs[f]? =some s∧s.params.length=0∧s.res=zkx:=by
 obtain ⟨hT,hA,-⟩:=parsed hp
 obtain ⟨rfl,hn,ht,hm⟩:=check_parts h
 obtain ⟨l1,l2,l3⟩:=inf_lists ks infZ
 simp only [infZ,List.nil_append] at l1 l2 l3
 have s1:(zxo ks).structs=(ks.filter (fun d=>d.op==2)).map (fun d=>⟨nm d,zzp d⟩):=l1
 have s2:(zxo ks).globals.length≤12:=by rw [show (zxo ks).globals=_ from l2,List.length_map];exact most_len hn 3
 have s3:(zxo ks).funs.length≤24:=by rw [show (zxo ks).funs=_ from l3,List.length_map];exact most_len hn 4
 refine ⟨?_,s2,s3,?_⟩
 ·unfold chk
  rw [if_neg (by rw [s1,List.length_map];have:=most_len hn 2;have e:mostD 2=12:=rfl;omega)]
  refine fir_all fun i hi=> ?_
  obtain ⟨s,hs⟩:∃ s,(zxo ks).structs[i]? =some s:=⟨_,List.getElem?_eq_getElem hi⟩
  unfold chkS
  rw [hs]
  rw [s1,List.getElem?_map] at hs
  obtain ⟨d,hd,rfl⟩:=Option.map_eq_some_iff.1 hs
  have hm2:=List.mem_filter.1 (List.mem_of_getElem? hd)
  have ho:d.op=2:=by simpa using hm2.2
  obtain ⟨w1,w2,w3⟩:=struct_row hT (hA d hm2.1).1 ho (ht d hm2.1)
  have hdup:fnd ((zxo ks).structs.take i) (nm d)=none:=by
   refine z2f fun j _ hj=> ?_
   have hji:j<i:=by simp at hj;omega
   have hp2:=(new_pair ks.length (Nat.le_refl _) (fun j hj=>(nameE_zero (hn j hj)).1))
   rw [List.take_length] at hp2
   have hp3:=hp2.filter (fun d=>d.op==2)
   rw [List.pairwise_iff_getElem] at hp3
   have hil:i<(ks.filter (fun d=>d.op==2)).length:=(List.getElem?_eq_some_iff.1 hd).1
   have:=hp3 j i (by omega) hil hji
   unfold z0p
   rw [s1,←List.map_take,List.getElem?_map,List.getElem?_take_of_lt hji,List.getElem?_eq_getElem (by omega)]
   rw [show (ks.filter (fun d=>d.op==2))[i]=d from (List.getElem?_eq_some_iff.1 hd).2] at this
   exact this
  show (if zjw (nm d).data.toList=false then 1 else if (fnd ((zxo ks).structs.take i) (nm d)).isSome then 6 else if 8<(zzp d).length then 4 else (fir (chkF (zxo ks).structs (zzp d)) (zzp d).length 0).2)=0
  rw [if_neg (by show ¬ zjw d.name=false;rw [w1];decide),hdup,if_neg (by simp),if_neg (by omega),fir_all fun k _=>w3 k]
 ·unfold mainB at hm
  cases hf:funO (zxo ks) tMain with
  |none=>rw [hf] at hm;cases hm
  |some f=>
   rw [hf] at hm
   obtain ⟨-,hl,-,-⟩:=z1j hf
   obtain ⟨s,hs⟩:∃ s,(zxo ks).funs[f]? =some s:=⟨_,List.getElem?_eq_getElem hl⟩
   have e:(zxo ks).funs.getD f sgZ=s:=by rw [List.getD_eq_getElem?_getD,hs];rfl
   dsimp only at hm
   rw [e,Bool.and_eq_true] at hm
   exact ⟨f,s,rfl,hs,by simpa using hm.1,eqB_iff.1 hm.2⟩
theorem take_eq_succ {α:Type} {l l':List α} {k:Nat} {a:α} (h:l.take k=l'.take k) (h1:l[k]? =some a) (h2:l'[k]? =some a):l.take (k+1)=l'.take (k+1):=by
 obtain ⟨p1,e1⟩:=List.getElem?_eq_some_iff.1 h1
 obtain ⟨p2,e2⟩:=List.getElem?_eq_some_iff.1 h2
 rw [List.take_succ_eq_append_getElem p1,List.take_succ_eq_append_getElem p2,h,e1,e2]
theorem ne_at {α:Type} {l l':List α} {k:Nat} {a b:α} (h1:l[k]? =some a) (h2:l'[k]? =some b) (h:a≠b):l≠l':=fun e=>h (by rw [e,h2] at h1;exact (Option.some.inj h1).symm)
theorem equal_any (A A':Option Addr) (c c' m m':Nat) (fs fs':List Fld) (b:Bool) (w:World) (hR:FR w A fs) (hR':FR w A' fs') (hm:Hid (fs.length=m)) (hm':Hid (fs'.length=m')) (hl:m≤281474976710656) (hl':m'≤281474976710656)
 (hr:Hid (b=true↔fs=fs')):Calls Tryz.prog 84 #[.slice A m c,.slice A' m' c'] w fun e w'=>e= .returned (.bool b)∧Below w.heap.size w w':=by
 have HR:=hid hR
 have HR':=hid hR'
 clear hR hR'
 by_cases he:m=m'
 ·subst he
  go_enter Tryz.func84,Tryz.ntmps84
  go_wp2_with fail
  go_loopw [13] (fun i wr=>∃ k nd:Nat,k≤m∧i= .int .i64 k∧wr=w.drewN nd∧Hid (fs.take k=fs'.take k)) (fun i _=>m - (intOf i).toNat)
  case atStart=>exact ⟨0,0,Nat.zero_le _,rfl,rfl,rfl⟩
  case round=>
   obtain ⟨k,nd,hk,rfl,rfl,HK⟩:=hrel
   by_cases hlt:k<m
   ·obtain ⟨g,o,rfl,hg,hcs⟩:=HR.out (by have:=hm.out;omega)
    obtain ⟨g',o',rfl,hg',hcs'⟩:=HR'.out (by have:=hm'.out;omega)
    obtain ⟨f,hf⟩:∃ f,fs[k]? =some f:=⟨_,List.getElem?_eq_getElem (by have:=hm.out;omega)⟩
    obtain ⟨f',hf'⟩:∃ f,fs'[k]? =some f:=⟨_,List.getElem?_eq_getElem (by have:=hm'.out;omega)⟩
    obtain ⟨c0,c1⟩:=hcs k f hf
    obtain ⟨d0,d1⟩:=hcs' k f' hf'
    have HCS:=hid hcs
    have HCS':=hid hcs'
    have HF:=hid hf
    have HF':=hid hf'
    clear hcs hcs' hf hf'
    obtain ⟨fn,ft⟩:=f
    obtain ⟨fn',ft'⟩:=f'
    simp only at c0 c1 d0 d1
    cases h1:eqB fn fn' with
    |false=>
     have s1:=zkg h1
     obtain rfl:b=false:=by
      cases b with
      |false=>rfl
      |true=>exact absurd (hr.out.1 rfl) (ne_at HF.out HF'.out (fun e=>by injection e with e1 e2;rw [e1,eqB_iff.2 rfl] at h1;cases h1))
     clear h1
     go_wp2_with fail
     go_quiet (fail)
     go_wp2_with fail
     go_ret
     exact ⟨rfl,zxv (zxv (Below.refl _ _) _) _⟩
    |true=>
     obtain rfl:=eqB_iff.1 h1
     clear h1
     cases h2:eqB ft ft' with
     |false=>
      have s1:=zkg h2
      obtain rfl:b=false:=by
       cases b with
       |false=>rfl
       |true=>exact absurd (hr.out.1 rfl) (ne_at HF.out HF'.out (fun e=>by injection e with e1 e2;rw [e2,eqB_iff.2 rfl] at h2;cases h2))
      clear h2
      go_wp2_with fail
      go_quiet (fail)
      go_wp2_with fail
      go_ret
      exact ⟨rfl,zxv (zxv (Below.refl _ _) _) _⟩
     |true=>
      obtain rfl:=eqB_iff.1 h2
      have HN:=hid (take_eq_succ HK.out HF.out HF'.out)
      clear h2
      go_wp2_with fail
      go_quiet (fail)
      go_wp2_with fail
      refine ⟨⟨k+1,_,by omega,by go_num,rfl,HN⟩,?_⟩
      simp [intOf];omega
   ·obtain rfl:b=true:=hr.out.2 (by
     have:=HK.out
     rwa [List.take_of_length_le (by have:=hm.out;omega),List.take_of_length_le (by have:=hm'.out;omega)] at this)
    go_wp2_with fail
    go_ret
    exact ⟨rfl,zxv (Below.refl _ _) _⟩
 ·have n1:((m:Int) !=(m':Int))=true:=by simp;omega
  have n2:(m !=m')=true:=by simp;exact he
  obtain rfl:b=false:=by
   cases b with
   |false=>rfl
   |true=>exact absurd (by have h:=hr.out.1 rfl;have h1:=hm.out;have h2:=hm'.out;rw [h] at h1;omega) he
  clear he
  go_enter Tryz.func84,Tryz.ntmps84
  go_wp2_with fail
  go_ret
  exact ⟨rfl,Below.refl _ _⟩
theorem z1r (sn sn':ByteArray) (A A':Option Addr) (c c' m m':Nat) (fs fs':List Fld) (b:Bool) (w:World) (hR:FR w A fs) (hR':FR w A' fs') (hm:Hid (fs.length=m)) (hm':Hid (fs'.length=m')) (hl:m≤281474976710656) (hl':m'≤281474976710656)
 (hr:Hid (b=true↔Str.mk sn fs=Str.mk sn' fs')):Calls Tryz.prog 50 #[.agg #[.string sn,.slice A m c],.agg #[.string sn',.slice A' m' c']] w fun e w'=>e= .returned (.bool b)∧Below w.heap.size w w':=by
 have bb:=below2 w (.cells #[.string sn,.slice A m c] 99) (.cells #[.string sn',.slice A' m' c'] 99)
 have HR:=hid (hR.below bb (Nat.le_refl _))
 have HR':=hid (hR'.below bb (Nat.le_refl _))
 clear hR hR'
 cases h1:eqB sn sn' with
 |false=>
  have s1:=zkg h1
  obtain rfl:b=false:=by
   cases b with
   |false=>rfl
   |true=>have h:=hr.out.1 rfl;injection h with e1 e2;rw [e1,eqB_iff.2 rfl] at h1;cases h1
  clear h1
  go_enter Tryz.func50,Tryz.ntmps50
  go_wp2_with fail
  go_ret
  exact ⟨rfl,bb⟩
 |true=>
  obtain rfl:=eqB_iff.1 h1
  have HQ:Hid (b=true↔fs=fs'):=by
   show _↔_
   rw [hr.out]
   exact ⟨fun e=>by injection e,fun e=>by rw [e]⟩
  clear h1 hr
  go_enter Tryz.func50,Tryz.ntmps50
  go_wp2_with (go_at_call 84;refine (equal_any _ _ _ _ m m' fs fs' b _ HR.out HR'.out hm hm' hl hl' HQ).mono ?_;rintro e w1 ⟨rfl,b1⟩)
  go_ret
  exact ⟨rfl,zko bb b1⟩
def KSRel (w:World) (ss ss':List Str) (m:Nat) (i:Value) (wr:World):Prop:=
 ∃ k:Nat,k≤m∧i= .int .i64 k∧Hid (ss.take k=ss'.take k)∧Below w.heap.size w wr
theorem equalFunc_any (A A':Option Addr) (c c' m m':Nat) (ss ss':List Str) (b:Bool) (w:World) (hR:SR w A ss) (hR':SR w A' ss') (hm:Hid (ss.length=m)) (hm':Hid (ss'.length=m')) (hl:m≤281474976710656)
 (hr:Hid (b=true↔ss=ss')):Calls Tryz.prog 49 #[.slice A m c,.slice A' m' c',.func (.func 50) #[] #[]] w fun e w'=>e= .returned (.bool b)∧Below w.heap.size w w':=by
 have HR:=hid hR
 have HR':=hid hR'
 clear hR hR'
 by_cases he:m=m'
 ·subst he
  go_enter Tryz.func49,Tryz.ntmps49
  go_wp2_with fail
  go_loopw [17] (fun i wr=>KSRel w ss ss' m i wr) (fun i _=>m - (intOf i).toNat)
  case atStart=>exact ⟨0,Nat.zero_le _,rfl,rfl,Below.refl _ _⟩
  case round=>
   obtain ⟨k,hk,rfl,HK,hb⟩:=hrel
   by_cases hlt:k<m
   ·obtain ⟨g,o,rfl,hg,hcs⟩:=(HR.out.below hb (Nat.le_refl _)) (by have:=hm.out;omega)
    obtain ⟨g',o',rfl,hg',hcs'⟩:=(HR'.out.below hb (Nat.le_refl _)) (by have:=hm'.out;omega)
    obtain ⟨f,hf⟩:∃ f,ss[k]? =some f:=⟨_,List.getElem?_eq_getElem (by have:=hm.out;omega)⟩
    obtain ⟨f',hf'⟩:∃ f,ss'[k]? =some f:=⟨_,List.getElem?_eq_getElem (by have:=hm'.out;omega)⟩
    obtain ⟨FA,fc,c0,c1,h1,h2,hF⟩:=hcs k f hf
    obtain ⟨FA',fc',d0,d1,h1',h2',hF'⟩:=hcs' k f' hf'
    have HCS:=hid hcs
    have HCS':=hid hcs'
    have HF:=hid hf
    have HF':=hid hf'
    clear hcs hcs' hf hf'
    obtain ⟨sn,fs⟩:=f
    obtain ⟨sn',fs'⟩:=f'
    simp only at c0 c1 d0 d1 h1 h1' h2 h2' hF hF'
    obtain ⟨fm,hfm⟩:∃ fm,fs.length=fm:=⟨_,rfl⟩
    obtain ⟨fm',hfm'⟩:∃ fm,fs'.length=fm:=⟨_,rfl⟩
    rw [hfm] at c1 h1 h2
    rw [hfm'] at d1 h1' h2'
    have HFM:=hid hfm
    have HFM':=hid hfm'
    have bb:=below2 wr (.cells #[.string sn,.slice FA fm fc] 99) (.cells #[.string sn',.slice FA' fm' fc'] 99)
    have hF3:=hid (hF.below bb (Nat.le_refl _))
    have hF3':=hid (hF'.below bb (Nat.le_refl _))
    have D:=hid (zko hb bb)
    have d0':(wr.alloc (.cells #[.string sn,.slice FA fm fc] 99)).cell? ⟨g',o'+k*2,none⟩=some (.string sn'):=(World.cell?_alloc_lt wr _ ⟨g',o'+k*2,none⟩ hg').trans d0
    have d1':(wr.alloc (.cells #[.string sn,.slice FA fm fc] 99)).cell? ⟨g',o'+k*2+1,none⟩=some (.slice FA' fm' fc'):=(World.cell?_alloc_lt wr _ ⟨g',o'+k*2+1,none⟩ hg').trans d1
    clear hfm hfm' hF hF' bb
    by_cases h:Str.mk sn fs=Str.mk sn' fs'
    ·have HT:Hid (true=true↔Str.mk sn fs=Str.mk sn' fs'):=show _↔_ from ⟨fun _=>h,fun _=>rfl⟩
     have HN:=hid (take_eq_succ HK.out HF.out (by rw [h];exact HF'.out))
     clear h
     go_wp2_with (go_at_call 50;refine (z1r _ _ _ _ _ _ fm fm' fs fs' true _ hF3.out hF3'.out HFM HFM' h2 h2' HT).mono ?_;rintro e w1 ⟨rfl,b1⟩)
     go_roundw
     case rel=>exact ⟨k+1,by omega,by go_num,HN,zko D.out b1⟩
     case measure=>simp [intOf];omega
    ·have HT:Hid (false=true↔Str.mk sn fs=Str.mk sn' fs'):=show _↔_ from ⟨(fun x=>by cases x),fun x=>absurd x h⟩
     obtain rfl:b=false:=by
      cases b with
      |false=>rfl
      |true=>exact absurd (hr.out.1 rfl) (ne_at HF.out HF'.out h)
     clear h
     go_wp2_with (go_at_call 50;refine (z1r _ _ _ _ _ _ fm fm' fs fs' false _ hF3.out hF3'.out HFM HFM' h2 h2' HT).mono ?_;rintro e w1 ⟨rfl,b1⟩)
     go_ret
     exact ⟨rfl,zko D.out b1⟩
   ·obtain rfl:b=true:=hr.out.2 (by
     have:=HK.out
     rwa [List.take_of_length_le (by have:=hm.out;omega),List.take_of_length_le (by have:=hm'.out;omega)] at this)
    go_wp2_with fail
    go_ret
    exact ⟨rfl,hb⟩
 ·have n1:((m:Int) !=(m':Int))=true:=by simp;omega
  have n2:(m !=m')=true:=by simp;exact he
  obtain rfl:b=false:=by
   cases b with
   |false=>rfl
   |true=>exact absurd (by have h:=hr.out.1 rfl;have h1:=hm.out;have h2:=hm'.out;rw [h] at h1;omega) he
  clear he
  go_enter Tryz.func49,Tryz.ntmps49
  go_wp2_with fail
  go_ret
  exact ⟨rfl,Below.refl _ _⟩
theorem ksame_any (A A':Option Addr) (c c' m m':Nat) (ss ss':List Str) (b:Bool) (w:World) (hR:SR w A ss) (hR':SR w A' ss') (hm:Hid (ss.length=m)) (hm':Hid (ss'.length=m')) (hl:m≤281474976710656)
 (hr:Hid (b=true↔ss=ss')):Calls Tryz.prog 26 #[.slice A m c,.slice A' m' c'] w fun e w'=>e= .returned (.bool b)∧Below w.heap.size w w':=by
 go_enter Tryz.func26,Tryz.ntmps26
 go_wp2_with (go_at_call 49;refine (equalFunc_any _ _ _ _ m m' ss ss' b _ hR hR' hm hm' hl hr).mono ?_;rintro e w1 ⟨rfl,b1⟩)
 go_ret
 exact ⟨rfl,b1⟩
theorem fields_same (A A':Option Addr) (c c' m:Nat) (fs:List Fld) (w:World) (hR:FR w A fs) (hR':FR w A' fs) (hm:Hid (fs.length=m)) (hl:m≤281474976710656):
 Calls Tryz.prog 20 #[.slice A m c,.slice A' m c'] w fun e w'=>e= .returned (.bool true)∧Below w.heap.size w w':=by
 have HR:=hid hR
 have HR':=hid hR'
 clear hR hR'
 go_enter Tryz.func20,Tryz.ntmps20
 go_wp2_with fail
 go_loopw [5] (fun i wr=>∃ k nd:Nat,k≤m∧i= .int .i64 k∧wr=w.drewN nd) (fun i _=>m - (intOf i).toNat)
 case atStart=>exact ⟨0,0,Nat.zero_le _,rfl,rfl⟩
 case round=>
  obtain ⟨k,nd,hk,rfl,rfl⟩:=hrel
  by_cases hlt:k<m
  ·obtain ⟨g,o,rfl,hg,hcs⟩:=HR.out (by have:=hm.out;omega)
   obtain ⟨g',o',rfl,hg',hcs'⟩:=HR'.out (by have:=hm.out;omega)
   obtain ⟨f,hf⟩:∃ f,fs[k]? =some f:=⟨_,List.getElem?_eq_getElem (by have:=hm.out;omega)⟩
   obtain ⟨c0,c1⟩:=hcs k f hf
   obtain ⟨d0,d1⟩:=hcs' k f hf
   have HCS:=hid hcs
   have HCS':=hid hcs'
   clear hcs hcs' hf
   obtain ⟨fn,ft⟩:=f
   simp only at c0 c1 d0 d1
   go_wp2_with fail
   go_quiet (fail)
   go_wp2_with fail
   refine ⟨⟨k+1,_,by omega,by go_num,rfl⟩,?_⟩
   simp [intOf];omega
  ·go_wp2_with fail
   go_ret
   exact ⟨rfl,zxv (Below.refl _ _) _⟩
theorem dig_nat {u:Nat} (h:u<10):(UInt8.ofNat (48+u)).toNat=48+u:=by
 rw [UInt8.toNat_ofNat'];omega
theorem dig_dig {u:Nat} (h:u<10):digB (UInt8.ofNat (48+u))=true:=by
 unfold digB;rw [dig_nat h];simp;omega
theorem dec_step (u:Nat) (h:¬ u<10):Lib.decDigits u=Lib.decDigits (u/10)++ [UInt8.ofNat (48+u%10)]:=by rw [Lib.decDigits,dif_neg h]
theorem dec_all (u:Nat):(Lib.decDigits u).all digB=true:=by
 induction u using Nat.strongRecOn with
 |ind u ih=>
  by_cases h:u<10
  ·rw [Lib.decDigits_one h,List.all_cons,dig_dig h];rfl
  ·rw [dec_step u h,List.all_append,ih (u/10) (by omega),List.all_cons,dig_dig (Nat.mod_lt u (by omega:10>0))];rfl
theorem dec_val (u:Nat):val 0 (Lib.decDigits u)=u:=by
 induction u using Nat.strongRecOn with
 |ind u ih=>
  by_cases h:u<10
  ·rw [Lib.decDigits_one h,zwu,val_nil,dig_nat h];omega
  ·rw [dec_step u h,val_snoc,ih (u/10) (by omega),dig_nat (Nat.mod_lt u (by omega:10>0))];omega
theorem dec_ne (u:Nat):Lib.decDigits u≠ []:=by
 by_cases h:u<10
 ·rw [Lib.decDigits_one h];simp
 ·rw [dec_step u h];simp
theorem dec_head (u:Nat) (h0:u≠0):(Lib.decDigits u).headD 48≠48:=by
 induction u using Nat.strongRecOn with
 |ind u ih=>
  by_cases h:u<10
  ·rw [Lib.decDigits_one h]
   intro e
   have:(UInt8.ofNat (48+u)).toNat=48:=by rw [show UInt8.ofNat (48+u)=48 from e];rfl
   rw [dig_nat h] at this
   omega
  ·rw [dec_step u h]
   have hne:=dec_ne (u/10)
   have:=ih (u/10) (by omega) (by omega)
   cases hl:Lib.decDigits (u/10) with
   |nil=>exact absurd hl hne
   |cons c r=>rw [hl] at this;simpa using this
theorem dec_plain (u:Nat) (h0:u≠0):zky (Lib.decDigits u)=true:=by
 unfold zky
 rw [dec_all]
 have h1:(Lib.decDigits u).isEmpty=false:=by
  cases hl:Lib.decDigits u with
  |nil=>exact absurd hl (dec_ne u)
  |cons=>rfl
 have h2:=dec_head u h0
 have h3:((Lib.decDigits u).headD 48 !=48)=true:=bne_iff_ne.2 h2
 rw [h1,h3]
 rfl
def kd (x:Tx):Nat:=(tokT x).kind
def Tx.Ok (x:Tx):Prop:=TokOK ⟨kd x,x,0⟩
theorem TokOK.at {k p q:Nat} {x:Tx} (h:TokOK ⟨k,x,p⟩):TokOK ⟨k,x,q⟩:=h
theorem TokOK.kd {k p:Nat} {x:Tx} (h:TokOK ⟨k,x,p⟩):kd x=k:=by
 obtain ⟨c,r,h1,-,h3⟩:=h
 have:=(h3 [] (Or.inl rfl)).2
 rw [List.append_nil] at this
 unfold Go.Proofs.YtkahbhfbgdbnfaaGreatDoor.kd
 rw [show tokT x=_ from this]
theorem TokOK.ok {k p:Nat} {x:Tx} (h:TokOK ⟨k,x,p⟩):Tx.Ok x:=by
 have:=h.kd;subst this;exact h
theorem tx_ok {x:Tx} {c:UInt8} {r:Tx} (hx:x=c::r) (hb:blkB c=false) (he:(tokT x).err=0) (hl:(tokT x).len=x.length):Tx.Ok x:=by
 subst hx
 have:=tok_ok 0 hb he
 rw [hl,List.take_of_length_le (Nat.le_refl _)] at this
 exact this
def fixed:List Tx:= [zwn,zkh,zk8,kVar,kIf,zjd,kFor,zqa,zjc,kNew,kNil,kTrue,z1s,kInt,kBool,z1n,cLB,cRB,cLC,cRC,zzk,zqd,cDot,cStar,cEq,cDef,cOr,cAnd]
def fixB (x:Tx):Bool:=match x with
 | []=>false
 |c::r=> !blkB c&&decide ((tokT (c::r)).err=0)&&decide ((tokT (c::r)).len=(c::r).length)&&decide ((c::r).length≤20)
theorem fix_ok {x:Tx} (h:fixB x=true):Tx.Ok x∧x.length≤20:=by
 cases x with
 |nil=>cases h
 |cons c r=>
  simp only [fixB,Bool.and_eq_true,decide_eq_true_eq,Bool.not_eq_true'] at h
  exact ⟨tx_ok rfl h.1.1.1 h.1.1.2 h.1.2,h.2⟩
theorem fixed_all:fixed.all fixB=true:=by decide
theorem fixed_ok {x:Tx} (h:x∈fixed):Tx.Ok x∧x.length≤20:=fix_ok (List.all_eq_true.1 fixed_all x h)
theorem sign_all:(signTab.drop 1).all fixB=true:=by decide
theorem sign_at (n:Int) (h1:1≤n) (h2:n≤18):∃ k:Nat,n=k∧1≤k∧k≤18∧zqj n=signTab.getD k []:=by
 refine ⟨n.toNat,by omega,by omega,by omega,?_⟩
 unfold zqj
 rw [if_neg (by omega)]
theorem sign_ok (n:Int) (h1:1≤n) (h2:n≤18):Tx.Ok (zqj n)∧(zqj n).length≤20:=by
 obtain ⟨k,-,h3,h4,h5⟩:=sign_at n h1 h2
 rw [h5]
 refine fix_ok (List.all_eq_true.1 sign_all _ ?_)
 rw [List.getD_eq_getElem?_getD]
 obtain ⟨j,rfl⟩:∃ j,k=j+1:=⟨k - 1,by omega⟩
 have hl:j+1<signTab.length:=by show j+1<19;omega
 rw [List.getElem?_eq_getElem hl]
 exact List.mem_of_getElem? (i:=j) (by rw [List.getElem?_drop,Nat.add_comm 1 j,List.getElem?_eq_getElem hl];rfl)
theorem sign_bin':∀ k:Fin 17,1≤k.val→zq1 (signTab.getD k.val []) 1 16=(k.val:Int)∧3≤lvl (signTab.getD k.val [])∧signTab.getD k.val []≠cOr∧signTab.getD k.val []≠cAnd∧signTab.getD k.val []≠cDot∧signTab.getD k.val []≠cLB∧lvl (signTab.getD k.val [])≤5:=by decide
theorem sign_bin (n:Int) (h1:1≤n) (h2:n≤16):zq1 (zqj n) 1 16=n∧3≤lvl (zqj n)∧zqj n≠cOr∧zqj n≠cAnd∧zqj n≠cDot∧zqj n≠cLB∧lvl (zqj n)≤5:=by
 obtain ⟨k,h0,h3,h4,h5⟩:=sign_at n h1 (by omega)
 rw [h5,h0]
 exact sign_bin' ⟨k,by omega⟩ h3
theorem sign_un (n:Int) (h:n=17∨n=18):zq1 (zqj n) 17 2=n:=by
 rcases h with rfl|rfl<;>decide
theorem text_dec (n:Int) (h0:0≤n):zjm n=Lib.decDigits n.toNat:=by unfold zjm;rw [Lib.itoa,if_neg (by omega)]
theorem text_num (n:Int) (h0:0≤n):numN (zjm n)=n:=by rw [text_dec n h0];unfold numN;rw [dec_val];omega
theorem text_par (n:Int) (h0:0≤n) (h1:n≤9223372036854775807):parE (zjm n)=0:=by
 rw [text_dec n h0]
 unfold parE
 rw [dec_val,if_pos (show n.toNat<9223372036854775808 by omega)]
 by_cases hz:n=0
 ·subst hz
  have:Lib.decDigits (0:Int).toNat= [48]:=Lib.decDigits_one (i:=0) (by omega)
  rw [this];rfl
 ·rw [dec_plain n.toNat (by omega),Bool.or_true,if_pos rfl]
theorem run_whole {f:UInt8→Bool} :∀ (x:List UInt8),x.all f=true→runN f x=x.length:=fun x h=>by
 have:=runN_stop x [] h (fun c q e=>by cases e)
 rwa [List.append_nil] at this
theorem text_tok (n:Int) (h0:0≤n) (h1:n≤9223372036854775807):Tx.Ok (zjm n)∧kd (zjm n)=3∧(zjm n).length≤21:=by
 have ha:(zjm n).all digB=true:=by rw [text_dec n h0];exact dec_all _
 have hp:=text_par n h0 h1
 have hlen:(zjm n).length≤21:=Lib.itoa_length_le n (by omega) h1
 cases hx:zjm n with
 |nil=>rw [text_dec n h0] at hx;exact absurd hx (dec_ne _)
 |cons c r=>
  rw [hx] at ha hp hlen
  have hc:digB c=true:=by rw [List.all_cons,Bool.and_eq_true] at ha;exact ha.1
  have hlet:letB c=false:=by
   cases hl:letB c with
   |false=>rfl
   |true=>rw [let_dig hl] at hc;cases hc
  have hb:blkB c=false:=by
   have:48≤c.toNat∧c.toNat≤57:=by simpa [digB] using hc
   simp [blkB];omega
  have hr:=run_whole _ ha
  have ht:tokT (c::r)=⟨0,3,(c::r).length⟩:=by
   rw [zvx r hlet hc]
   unfold numT
   rw [hr,List.drop_of_length_le (Nat.le_refl _),List.take_of_length_le (Nat.le_refl _),hp]
   rfl
  refine ⟨tx_ok rfl hb (by rw [ht]) (by rw [ht]),?_,hlen⟩
  unfold kd
  rw [ht]
def NW (s:Tx):Prop:=TokOK ⟨1,s,0⟩
theorem NW.kd {s:Tx} (h:NW s):kd s=1:=TokOK.kd h
theorem NW.facts {s:Tx} (h:NW s):letB (s.headD 0)=true∧s.all wchB=true∧s.length≤12∧keyB s=false:=by
 have:=z0h h
 rcases this with h|h|h|h
 ·exact h.2
 ·exact absurd (show (1:Nat)=2 from h.1) (by decide)
 ·exact absurd (show (1:Nat)=3 from h.1) (by decide)
 ·exact absurd (show (1:Nat)=4 from h.1) (by decide)
theorem NW.word {s:Tx} (h:NW s):zjw s=true:=by
 obtain ⟨h1,h2,h3,h4⟩:=h.facts
 unfold zjw
 have ha:zv6 s=true:=by
  cases s with
  |nil=>exact absurd h1 (by decide)
  |cons c r=>exact h1
 rw [ha,h2,h4]
 simp [h3]
theorem ty_ptr {s:Tx} (h:NW s):typT (42::s)= [cStar,s]:=by
 have ht:(z0c ⟨(42::s).toArray⟩).data.toList=s:=by
  unfold z0c
  rw [ByteArray.data_extract,Array.toList_extract]
  simp [List.extract,ByteArray.size]
 have hs:z2p ⟨(42::s).toArray⟩=true:=by
  show Lib.hasPrefix (42::s) [42]=true
  unfold Lib.hasPrefix
  simp
 unfold typT zwg
 rw [hs,ht,h.word]
 simp only [Bool.and_self,if_true,ht]
theorem ty_int:typT kInt= [kInt]:=by decide
theorem ty_bool:typT kBool= [kBool]:=by decide
def Rd (T:Nat→AT) (i:Nat) (xs:List Tx):Prop:=∀ k x,xs[k]? =some x→T (i+k)=⟨kd x,x⟩
theorem Rd.left {T:Nat→AT} {i:Nat} {a b:List Tx} (h:Rd T i (a++b)):Rd T i a:=fun k x hk=>h k x (by rw [List.getElem?_append_left (List.getElem?_eq_some_iff.1 hk).1];exact hk)
theorem Rd.right {T:Nat→AT} {i:Nat} {a b:List Tx} (h:Rd T i (a++b)):Rd T (i+a.length) b:=fun k x hk=>by
 have:=h (a.length+k) x (by rw [List.getElem?_append_right (by omega),Nat.add_sub_cancel_left];exact hk)
 rwa [Nat.add_assoc]
theorem Rd.hd {T:Nat→AT} {i:Nat} {x:Tx} {r:List Tx} (h:Rd T i (x::r)):T i=⟨kd x,x⟩:=h 0 x rfl
theorem Rd.tl {T:Nat→AT} {i:Nat} {x:Tx} {r:List Tx} (h:Rd T i (x::r)):Rd T (i+1) r:=fun k y hk=>by
 have:=h (k+1) y hk
 rwa [show i+1+k=i+(k+1) by omega]
def HdC {α:Type} (o:Option (Res α)) (Φ:α→Nat→Prop):Prop:=∀ r,o=some r→(∃ j,r= .bad j 3)∨∃ a j,r= .ok a j∧Φ a j
abbrev Hd {α:Type} (T:Nat→AT) (c:zxl) (Φ:α→Nat→Prop) (p:Pr α) (i:Nat):Prop:=HdC (runW T c p i) Φ
section
variable {T:Nat→AT} {c:zxl} {α β:Type} {Φ:α→Nat→Prop} {i:Nat}
theorem zz0 {a:α} (h:Φ a i):Hd T c Φ (.ret a) i:=fun r e=>by cases e;exact .inr ⟨_,_,rfl,h⟩
theorem zz4 {k:Nat→AT→Pr α} {t:AT} (ht:T i=t) (h:Hd T c Φ (k i t) i):Hd T c Φ (.peek k) i:=by
 show HdC (runW T c (k i (T i)) i) Φ;rw [ht];exact h
theorem zkm {k:Nat→AT→Pr α} (h:Hd T c Φ (k i (T i)) i):Hd T c Φ (.peek k) i:=h
theorem zq0 {p:Pr α} (h:Hd T c Φ p (i+1)):Hd T c Φ (.next p) i:=h
theorem zx5 {q:Prop} [Decidable q] {p r:Pr α} (hq:q) (h:Hd T c Φ p i):Hd T c Φ (if q then p else r) i:=by rw [if_pos hq];exact h
theorem zzy {q:Prop} [Decidable q] {p r:Pr α} (hq:¬ q) (h:Hd T c Φ r i):Hd T c Φ (if q then p else r) i:=by rw [if_neg hq];exact h
theorem zzh {Ψ:β→Nat→Prop} {p:Pr β} {f:β→Pr α} (h:Hd T c Ψ p i) (g:∀ a j,Ψ a j→Hd T c Φ (f a) j):Hd T c Φ (p.bind f) i:=fun r e=>by
 rw [zvl] at e
 cases hr:runW T c p i with
 |none=>rw [hr] at e;cases e
 |some q=>
  rw [hr] at e
  rcases h q hr with ⟨j,rfl⟩|⟨a,j,rfl,ha⟩
  ·cases e;exact .inl ⟨j,rfl⟩
  ·exact g a j ha r e
theorem zqc {nt:NT} {d:Nat} {k:List Tree→Pr α} {Ψ:List Tree→Nat→Prop} (h:HdC (c nt d i) Ψ) (g:∀ ts j,Ψ ts j→Hd T c Φ (k ts) j):Hd T c Φ (.call nt d k) i:=fun r e=>by
 simp only [runW] at e
 cases hr:c nt d i with
 |none=>rw [hr] at e;cases e
 |some q=>
  rw [hr] at e
  rcases h q hr with ⟨j,rfl⟩|⟨a,j,rfl,ha⟩
  ·cases e;exact .inl ⟨j,rfl⟩
  ·exact g a j ha r e
theorem HdC.imp {o:Option (Res α)} {Ψ:α→Nat→Prop} (h:HdC o Φ) (g:∀ a j,Φ a j→Ψ a j):HdC o Ψ:=fun r e=>(h r e).imp id fun ⟨a,j,h1,h2⟩=>⟨a,j,h1,g a j h2⟩
theorem zx3 {s:Tx} (h:(T i).text=s):Hd T c (fun _ j=>j=i+1) (need s) i:=zkm (zx5 h (zq0 (zz0 rfl)))
theorem zw4 {s:Tx} (h:T i=⟨1,s⟩):Hd T c (fun p j=>p.2=s∧j=i+1) word i:=zz4 h (zx5 rfl (zq0 (zz0 ⟨rfl,rfl⟩)))
theorem z29 {d:Nat} {s:Tx} (h:(T i).text=s):Hd T c (fun _ j=>j=i+1) (zwp d s) i:=zkm (zx5 h (by
 by_cases hd:d=40
 ·rw [if_pos hd];exact fun r e=> .inl ⟨i,by cases e;rfl⟩
 ·rw [if_neg hd];exact zq0 (zz0 rfl)))
end
abbrev Stp (x:Tx):Prop:=x≠cDot∧x≠cLB
abbrev One (t:Tree) (i:Nat) (ts:List Tree) (j:Nat):Prop:=j=i+(zzb t).length∧∃ u,ts= [u]∧EE u t
def bare0 (s:Tx):Tree:= .mk 20 s [] 0 0 []
def dots (fs:List Tx):List Tx:=fs.flatMap fun s=> [cDot,s]
def inner (t:Tree):List Tx:=
 if t.op=23 then zqj t.n::kidE t 0 else if t.op=24 then kidE t 0++zqj t.n::kidE t 1 else if t.op=25 then kidE t 0++cAnd::kidE t 1 else kidE t 0++cOr::kidE t 1
structure IHE (W:Tx→Prop) (T:Nat→AT) (c:zxl):Prop where
 un:∀ t d i,Al W t→isE t→Rd T i (zzb t)→Stp (T (i+(zzb t).length)).text→HdC (c .unary d i) (One t i)
 bin:∀ l t d i,1≤l→Al W t→isE t→Rd T i (zzb t)→Stp (T (i+(zzb t).length)).text→lvl (T (i+(zzb t).length)).text<l→HdC (c (.binary l) d i) (One t i)
 inn:∀ t d i,Al W t→23≤t.op→t.op≤26→Rd T i (inner t)→(T (i+(inner t).length)).text=cRB→HdC (c (.binary 1) d i) (fun ts j=>j=i+(inner t).length∧∃ u,ts= [u]∧EE u t)
 ux:∀ t d i,Al W t→t.op=23→Rd T i (inner t)→(T (i+(inner t).length)).text=cRB→HdC (c .unary d i) (fun ts j=>j=i+(inner t).length∧∃ u,ts= [u]∧EE u t)
 tl0:∀ l d i,lvl (T i).text<l→HdC (c (.tail l) d i) (fun ts j=>j=i∧ts= [])
 tl1:∀ l d i y,1≤l→l≤lvl (T i).text→Al W y→isE y→Rd T (i+1) (zzb y)→(T (i+1+(zzb y).length)).text=cRB→HdC (c (.tail l) d i) (fun ts j=>j=i+1+(zzb y).length∧∃ y',EE y' y∧ts= [half (T i) i y'])
 fl:∀ fs d i,(∀ s∈fs,W s)→Rd T i (dots fs)→(T (i+(dots fs).length)).text≠cDot→HdC (c .fields d i) (fun ts j=>j=i+(dots fs).length∧EL ts (fs.map bare0))
 ar:∀ ks d i,(∀ u∈ks,Al W u∧isE u)→Rd T i ((ks.flatMap fun b=>zqd::zzb b)++ [cRB])→HdC (c .args d i) (fun ts j=>j=i+((ks.flatMap fun b=>zqd::zzb b).length+1)∧EL ts ks)
theorem Al.loc {W:Tx→Prop} {t:Tree} (h:Al W t):Loc W t:=by cases h with|mk h hk=>exact h
theorem Al.kid {W:Tx→Prop} {t u:Tree} (h:Al W t) (hu:u∈t.kids):Al W u:=by cases h with|mk h hk=>exact hk u hu
theorem zvz (op:Nat) (s ty:Tx) (n:Int) (p:Nat) (ks:List Tree):zzb (.mk op s ty n p ks)=exprOf op s n (ks.map zzb):=showE_eq _
theorem fdec {W:Tx→Prop} (N:Nat):∀ t,zxs t≤N→Al W t→isE t→∃ b fs,Al W b∧isE b∧b.op≠20∧(∀ s∈fs,W s)∧zzb t=zzb b++dots fs∧EE ((fs.map bare0).foldl (fun a b=>zqg a b) b) t:=by
 induction N with
 |zero=>intro t h;have:=z0j t;omega
 |succ N ih=>
  intro t hN ha he
  by_cases h20:t.op=20
  ·have hl:=ha.loc
   cases t with
   |mk op s ty n p ks=>
    have:op=20:=h20
    subst this
    cases hl with
    |name ho=>omega
    |var ho=>omega
    |set ho=>omega
    |binary ho=>omega
    | @field _ _ x h hx=>
      obtain ⟨b,fs,h1,h2,h3,h4,h5,h6⟩:=ih x (by rw [zxb,zzi,zzx] at hN;omega) (ha.kid (List.mem_singleton.2 rfl)) hx
      refine ⟨b,fs++ [s],h1,h2,h3,fun y hy=> ?_,?_,?_⟩
      ·rcases List.mem_append.1 hy with hy|hy
       ·exact h4 y hy
       ·rw [List.mem_singleton.1 hy];exact h
      ·rw [zvz]
       show zzb x++ [cDot,s]=_
       rw [h5,List.append_assoc]
       unfold dots
       rw [List.flatMap_append];rfl
      ·rw [List.map_append,List.foldl_append]
       show EE (zqg _ (bare0 s)) _
       unfold bare0
       exact zqb (zzv h6 zxe)
  ·exact ⟨t,[],ha,he,h20,(fun s hs=>by cases hs),by simp [dots],rfl⟩
theorem kd_ne {s x:Tx} {k:Nat} (h:kd s=k) (hx:kd x≠k):s≠x:=fun e=>hx (by rw [←e];exact h)
def z0e (x:Tx):Prop:=kd x=1∨kd x=3∨x=kTrue∨x=z1s∨x=kNil∨x=kNew∨x=z1n∨x=cLB
theorem first_b {W:Tx→Prop} (hW:∀ s,W s→NW s) {t:Tree} (ha:Al W t) (he:isE t) (h20:t.op≠20):∃ x r,zzb t=x::r∧z0e x:=by
 have hl:=ha.loc
 cases t with
 |mk op s ty n p ks=>
  rw [zvz]
  have he1:15≤op:=he.1
  have h201:op≠20:=h20
  cases hl with
  |num h0 h1=>exact ⟨_,_,rfl,.inr (.inl (text_tok n h0 h1).2.1)⟩
  |truth h=>rcases h with rfl|rfl<;>exact ⟨_,_,rfl,by unfold z0e;decide⟩
  |none=>exact ⟨_,_,rfl,by unfold z0e;decide⟩
  |name ho h=>rcases ho with rfl|rfl
              ·exact ⟨_,_,rfl,.inl (hW _ h).kd⟩
              ·exact ⟨_,_,rfl,by unfold z0e;decide⟩
  |field h hx=>exact absurd rfl h201
  |call h hk=>exact ⟨_,_,rfl,.inl (hW _ h).kd⟩
  |input=>exact ⟨_,_,rfl,by unfold z0e;decide⟩
  |unary hn hx=>exact ⟨_,_,rfl,by unfold z0e;decide⟩
  |binary ho hx hy=>
   rcases ho with ⟨rfl,-⟩|⟨rfl|rfl,-⟩<;>exact ⟨_,_,rfl,by unfold z0e;decide⟩
  |var ho=>omega
  |set ho=>omega
  |_=>omega
theorem z2h {W:Tx→Prop} (hW:∀ s,W s→NW s) {t:Tree} (ha:Al W t) (he:isE t):∃ x r,zzb t=x::r∧z0e x:=by
 obtain ⟨b,fs,h1,h2,h3,-,h5,-⟩:=fdec _ t (Nat.le_refl _) ha he
 obtain ⟨x,r,h6,h7⟩:=first_b hW h1 h2 h3
 exact ⟨x,r++dots fs,by rw [h5,h6];rfl,h7⟩
theorem first_un {x:Tx} (h:z0e x):zq1 x 17 2=0:=by
 have g:∀ y,kd y=4→y≠cLB→y≠x:=fun y hy hl e=>by
  subst e
  rcases h with h|h|h|h|h|h|h|h
  ·omega
  ·omega
  all_goals first|exact hl h|(rw [h] at hy;exact absurd hy (by decide))
 rw [zq1,if_neg (g _ (by decide) (by decide)),zq1,if_neg (g _ (by decide) (by decide)),zq1]
theorem zv4 {x y:Tx} (h:z0e x) (h1:kd y≠1) (h3:kd y≠3) (hn:y≠kTrue∧y≠z1s∧y≠kNil∧y≠kNew∧y≠z1n∧y≠cLB):x≠y:=fun e=>by
 subst e
 obtain ⟨a,b,c,d,e,f⟩:=hn
 rcases h with h|h|h|h|h|h|h|h
 ·exact h1 h
 ·exact h3 h
 ·exact a h
 ·exact b h
 ·exact c h
 ·exact d h
 ·exact e h
 ·exact f h
theorem stp_of {x:Tx} (h:x=zqd∨x=cRB∨x=zzk∨x=cLC):Stp x∧lvl x<1:=by
 rcases h with rfl|rfl|rfl|rfl<;>exact ⟨by decide,by decide⟩
theorem showE_br {W:Tx→Prop} {t:Tree} (ha:Al W t) (h1:23≤t.op) (h2:t.op≤26):zzb t=cLB::(inner t++ [cRB]):=by
 have hl:=ha.loc
 cases t with
 |mk op s ty n p ks=>
  have h11:23≤op:=h1
  have h22:op≤26:=h2
  rw [zvz]
  cases hl with
  |unary hn hx=>rfl
  | @binary _ _ _ x y ho hx hy=>
    rcases ho with ⟨rfl,-⟩|⟨rfl|rfl,-⟩
    ·show [cLB]++zzb x++ [zqj n]++zzb y++ [cRB]=cLB::((zzb x++zqj n::zzb y)++ [cRB]);simp
    ·show [cLB]++zzb x++ [cAnd]++zzb y++ [cRB]=cLB::((zzb x++cAnd::zzb y)++ [cRB]);simp
    ·show [cLB]++zzb x++ [cOr]++zzb y++ [cRB]=cLB::((zzb x++cOr::zzb y)++ [cRB]);simp
  |var ho=>omega
  |set ho=>omega
  |name ho=>omega
  |_=>omega
section
variable {W:Tx→Prop} {T:Nat→AT} {c:zxl} (hW:∀ s,W s→NW s) (H:IHE W T c)
include hW H
theorem z1z {t:Tree} {d i:Nat} (ha:Al W t) (he:isE t) (h:Rd T i (zzb t)) (hs:Stp (T (i+(zzb t).length)).text∧lvl (T (i+(zzb t).length)).text<1):Hd T c (fun u j=>j=i+(zzb t).length∧EE u t) (expr d) i:=
 have _:=hW
 zqc (H.bin 1 t d i (Nat.le_refl _) ha he h hs.1 hs.2) fun ts j ⟨hj,u,hu,he⟩=>zz0 ⟨hj,by rw [hu];exact he⟩
theorem commaF_cons (k:Tree) (ks:List Tree):zz3 ((k::ks).map zzb)=zzb k++ks.flatMap fun b=>zqd::zzb b:=by
 have _:=hW
 have _:=H
 show zzb k++(ks.map zzb).flatMap _=_
 rw [List.flatMap_map]
theorem rd_args {ks:List Tree} {d i:Nat} (hk:∀ u∈ks,Al W u∧isE u) (h:Rd T i ([cLB]++zz3 (ks.map zzb)++ [cRB])):Hd T c (fun ts j=>j=i+((zz3 (ks.map zzb)).length+2)∧EL ts ks) (args d) i:=by
 have h1:Rd T i (cLB::(zz3 (ks.map zzb)++ [cRB])):=h
 refine zzh (z29 (by rw [h1.hd])) fun _ j hj=> ?_
 subst hj
 cases ks with
 |nil=>
  have h2:Rd T (i+1) [cRB]:=h1.tl
  exact zz4 h2.hd (zx5 rfl (zzh (zx3 (by rw [h2.hd])) fun _ j hj=>zz0 ⟨by rw [hj];rfl,rfl⟩))
 |cons k ks=>
  rw [commaF_cons hW H,List.append_assoc] at h1
  rw [commaF_cons hW H]
  obtain ⟨x,r,hx,hf⟩:=z2h hW (hk k (List.mem_cons_self ..)).1 (hk k (List.mem_cons_self ..)).2
  have h2:=h1.tl
  have hx1:T (i+1)=⟨kd x,x⟩:=by have:=h2.left;rw [hx] at this;exact this.hd
  have h3:=h2.right
  have hnx:(T (i+1+(zzb k).length)).text=zqd∨(T (i+1+(zzb k).length)).text=cRB:=by
   cases ks with
   |nil=>right;rw [show T (i+1+(zzb k).length)=_ from Rd.hd (r:= []) h3]
   |cons a b=>left;rw [show T (i+1+(zzb k).length)=_ from Rd.hd h3]
  refine zz4 hx1 (zzy (zv4 hf (by decide) (by decide) (by decide)) ?_)
  refine zzh (z1z hW H (hk k (List.mem_cons_self ..)).1 (hk k (List.mem_cons_self ..)).2 h2.left (stp_of (by rcases hnx with e|e;exact .inl e;exact .inr (.inl e)))) fun u j hu=> ?_
  obtain ⟨rfl,hu⟩:=hu
  refine zqc (H.ar ks _ _ (fun u hu=>hk u (List.mem_cons_of_mem _ hu)) h3) fun ts j ⟨hj,he⟩=>zz0 ⟨?_,zzv hu he⟩
  rw [hj,List.length_append];omega
theorem zwl {b:Tree} {d i:Nat} (ha:Al W b) (he:isE b) (h20:b.op≠20) (h:Rd T i (zzb b)) (hn:b.op=18→(T (i+(zzb b).length)).text≠cLB):Hd T c (fun u j=>j=i+(zzb b).length∧EE u b) (zvm d) i:=by
 by_cases hbr:23≤b.op
 ·have e:=showE_br ha hbr he.2
  rw [e] at h
  have h2:=h.tl
  refine zz4 h.hd (zzy (by decide) (zzy (by decide) (zzy (by decide) (zzy (by decide) (zzy (by decide) (zzy (by decide) (zzy (by decide) (zx5 rfl ?_))))))))
  refine zzh (z29 (by rw [h.hd])) fun _ j hj=> ?_
  subst hj
  have h3:=h2.right
  refine zzh (Ψ:=fun u j=>j=i+1+(inner b).length∧EE u b) (zqc (H.inn b _ _ ha hbr he.2 h2.left (by rw [h3.hd])) fun ts j ⟨hj,u,hu,hv⟩=>zz0 ⟨hj,by rw [hu];exact hv⟩) fun u j hu=> ?_
  obtain ⟨rfl,hu⟩:=hu
  refine zzh (zx3 (by rw [h3.hd])) fun _ j hj=>zz0 ⟨?_,hu⟩
  rw [hj,e,List.length_cons,List.length_append];show _=_+(_+1+1);omega
 ·have hl:=ha.loc
  cases b with
  |mk op s ty n p ks=>
   have he1:15≤op:=he.1
   have h201:op≠20:=h20
   have hb1:¬ 23≤op:=hbr
   rw [zvz] at h hn ⊢
   cases hl with
   |num h0 h1=>
    have hT:T i=⟨3,zjm n⟩:=by have:=h.hd;rw [(text_tok n h0 h1).2.1] at this;exact this
    refine zz4 hT (zx5 rfl (zq0 (zz0 ⟨rfl,?_⟩)))
    rw [text_num n h0];exact zqb zxe
   |truth hv=>
    rcases hv with rfl|rfl
    ·exact zz4 h.hd (zzy (by decide) (zzy (by decide) (zzy (by decide) (zx5 rfl (zq0 (zz0 ⟨rfl,zqb zxe⟩))))))
    ·exact zz4 h.hd (zzy (by decide) (zzy (by decide) (zx5 rfl (zq0 (zz0 ⟨rfl,zqb zxe⟩)))))
   |none=>exact zz4 h.hd (zzy (by decide) (zzy (by decide) (zzy (by decide) (zzy (by decide) (zx5 rfl (zq0 (zz0 ⟨rfl,zqb zxe⟩)))))))
   |name ho hs=>
    rcases ho with rfl|rfl
    ·have hT:T i=⟨1,s⟩:=by have:=h.hd;rw [(hW _ hs).kd] at this;exact this
     have hq:(T (i+1)).text≠cLB:=hn rfl
     refine zz4 hT (zzy (show ¬ (1:Nat)=3 by decide) (zx5 rfl ?_))
     refine zzh (zw4 hT) fun q j hq2=> ?_
     obtain ⟨e1,rfl⟩:=hq2
     refine zkm (zzy hq (zz0 ⟨rfl,?_⟩))
     rw [e1];exact zqb zxe
    ·have h1:Rd T i [kNew,cLB,s,cRB]:=h
     refine zz4 h1.hd (zzy (by decide) (zzy (by decide) (zzy (by decide) (zzy (by decide) (zzy (by decide) (zx5 rfl ?_))))))
     refine zzh (zx3 (by rw [h1.hd])) fun _ j hj=> ?_
     subst hj
     refine zzh (zx3 (by rw [h1.tl.hd])) fun _ j hj=> ?_
     subst hj
     have hT:T (i+1+1)=⟨1,s⟩:=by have:=h1.tl.tl.hd;rw [(hW _ hs).kd] at this;exact this
     refine zzh (zw4 hT) fun q j hq2=> ?_
     obtain ⟨e1,rfl⟩:=hq2
     refine zzh (zx3 (by rw [h1.tl.tl.tl.hd])) fun _ j hj=>zz0 ⟨hj,?_⟩
     rw [e1];exact zqb zxe
   |field hs hx=>exact absurd rfl h201
   |call hs hk=>
    have h1:Rd T i (s::([cLB]++zz3 (ks.map zzb)++ [cRB])):=h
    have hT:T i=⟨1,s⟩:=by have:=h1.hd;rw [(hW _ hs).kd] at this;exact this
    refine zz4 hT (zzy (show ¬ (1:Nat)=3 by decide) (zx5 rfl ?_))
    refine zzh (zw4 hT) fun q j hq2=> ?_
    obtain ⟨e1,rfl⟩:=hq2
    have h2:=h1.tl
    have h3:Rd T (i+1) (cLB::(zz3 (ks.map zzb)++ [cRB])):=h2
    refine zz4 h3.hd (zx5 rfl ?_)
    refine zzh (rd_args hW H (fun u hu=>⟨ha.kid hu,hk u hu⟩) h2) fun ts j ⟨hj,he⟩=>zz0 ⟨?_,?_⟩
    ·have hj:j=i+1+((zz3 (ks.map zzb)).length+2):=hj
     rw [hj]
     show _=i+(s::([cLB]++zz3 (ks.map zzb)++ [cRB])).length
     simp;omega
    ·rw [e1];exact zqb he
   |input=>
    have h1:Rd T i [z1n,cLB,cRB]:=h
    refine zz4 h1.hd (zzy (by decide) (zzy (by decide) (zzy (by decide) (zzy (by decide) (zzy (by decide) (zzy (by decide) (zx5 rfl ?_)))))))
    refine zzh (zx3 (by rw [h1.hd])) fun _ j hj=> ?_
    subst hj
    refine zzh (zx3 (by rw [h1.tl.hd])) fun _ j hj=> ?_
    subst hj
    exact zzh (zx3 (by rw [h1.tl.tl.hd])) fun _ j hj=>zz0 ⟨hj,zqb zxe⟩
   |unary hv hx=>omega
   |binary ho=>omega
   |var ho=>omega
   |set ho=>omega
   |_=>omega
theorem rd_postfix {t:Tree} {d i:Nat} (ha:Al W t) (he:isE t) (h:Rd T i (zzb t)) (hs:Stp (T (i+(zzb t).length)).text):Hd T c (fun u j=>j=i+(zzb t).length∧EE u t) (zjv d) i:=by
 obtain ⟨b,fs,h1,h2,h3,h4,h5,h6⟩:=fdec _ t (Nat.le_refl _) ha he
 rw [h5] at h hs ⊢
 rw [List.length_append,←Nat.add_assoc] at hs ⊢
 refine zzh (zwl hW H h1 h2 h3 h.left ?_) fun u j hu=> ?_
 ·intro _
  cases fs with
  |nil=>exact hs.2
  |cons s fs=>rw [show T (i+(zzb b).length)=_ from Rd.hd h.right];decide
 ·obtain ⟨rfl,hu⟩:=hu
  exact zqc (H.fl fs d _ h4 h.right hs.1) fun ts j ⟨hj,he⟩=>zz0 ⟨hj,(ee_fold _ _ _ _ he hu).trans h6⟩
theorem rd_unary {t:Tree} {d i:Nat} (ha:Al W t) (he:isE t) (h:Rd T i (zzb t)) (hs:Stp (T (i+(zzb t).length)).text):Hd T c (fun u j=>j=i+(zzb t).length∧EE u t) (unary d) i:=by
 obtain ⟨x,r,hx,hf⟩:=z2h hW ha he
 have hT:T i=⟨kd x,x⟩:=by have:=h;rw [hx] at this;exact this.hd
 exact zz4 hT (zx5 (first_un hf) (rd_postfix hW H ha he h hs))
theorem rd_ux {t:Tree} {d i:Nat} (ha:Al W t) (ho:t.op=23) (h:Rd T i (inner t)) (hs:(T (i+(inner t).length)).text=cRB):Hd T c (fun u j=>j=i+(inner t).length∧EE u t) (unary d) i:=by
 have _:=hW
 have hl:=ha.loc
 cases t with
 |mk op s ty n p ks=>
  have:op=23:=ho
  subst this
  cases hl with
  | @unary _ _ x hn hx=>
    have h1:Rd T i (zqj n::zzb x):=h
    have hs1:(T (i+1+(zzb x).length)).text=cRB:=by rw [show i+1+(zzb x).length=i+((zzb x).length+1) by omega];exact hs
    refine zz4 h1.hd (zzy (by show ¬ zq1 (zqj n) 17 2=0;rw [sign_un n hn];rcases hn with rfl|rfl<;>omega) ?_)
    refine zzh (z29 (by rw [h1.hd])) fun _ j hj=> ?_
    subst hj
    refine zzh (Ψ:=fun u j=>j=i+1+(zzb x).length∧EE u x) (zqc (H.un x _ _ (ha.kid (List.mem_singleton.2 rfl)) hx h1.tl (by rw [hs1];decide)) fun ts j ⟨hj,u,hu,hv⟩=>zz0 ⟨hj,by rw [hu];exact hv⟩) fun u j hu=> ?_
    obtain ⟨rfl,hu⟩:=hu
    refine zz0 ⟨?_,?_⟩
    ·show _=i+((zzb x).length+1);omega
    ·show EE (.mk 23 [] [] (zq1 (zqj n) 17 2) i [u]) _
     rw [sign_un n hn]
     exact zqb (zzv hu zxe)
  |name ho=>omega
  |var ho=>omega
  |set ho=>omega
  |binary ho=>omega
end
theorem zks {T:Nat→AT} {n d i:Nat} {nt:NT} {Φ:List Tree→Nat→Prop} (h:Hd T (P T n) Φ (body nt d) i):HdC (P T (n+1) nt d i) Φ:=h
theorem step_e {W:Tx→Prop} {T:Nat→AT} (hW:∀ s,W s→NW s) (n:Nat) (H:IHE W T (P T n)):IHE W T (P T (n+1)) where
 un t d i ha he h hs:=zks <| zzh (rd_unary hW H ha he h hs) fun u j hu=>zz0 ⟨hu.1,u,rfl,hu.2⟩
 bin l t d i hl ha he h hs hlv:=by
  refine zzh (Ψ:=fun u j=>j=i+(zzb t).length∧EE u t) (zqc (H.un t d i ha he h hs) fun xs j hx=> ?_) fun u j hu=>zz0 ⟨hu.1,u,rfl,hu.2⟩
  obtain ⟨rfl,u,rfl,hu⟩:=hx
  exact zqc (H.tl0 l d _ hlv) fun ts j ⟨hj,he⟩=>zz0 ⟨hj,by rw [he];exact hu⟩
 inn t d i ha h1 h2 h hs:=by
  refine zzh (Ψ:=fun u j=>j=i+(inner t).length∧EE u t) ?_ fun u j hu=>zz0 ⟨hu.1,u,rfl,hu.2⟩
  by_cases h23:t.op=23
  ·refine zqc (H.ux t d i ha h23 h hs) fun xs j hx=> ?_
   obtain ⟨rfl,u,rfl,hu⟩:=hx
   exact zqc (H.tl0 1 d _ (by rw [hs];decide)) fun ts j ⟨hj,he⟩=>zz0 ⟨hj,by rw [he];exact hu⟩
  ·have hl:=ha.loc
   cases t with
   |mk op s ty n p ks=>
    have g1:23≤op:=h1
    have g2:op≤26:=h2
    have g3:¬ op=23:=h23
    cases hl with
    | @binary _ _ _ x y ho hx hy=>
      obtain ⟨sg,hin,hlv,hst,hhf⟩:∃ sg,inner (.mk op [] [] n p [x,y])=zzb x++sg::zzb y∧1≤lvl sg∧Stp sg∧∀ k i r l,EE (zqg l (half ⟨k,sg⟩ i r)) (.mk op [] [] n p [l,r]):=by
       rcases ho with ⟨rfl,hn1,hn2⟩|⟨rfl|rfl,rfl⟩
       ·obtain ⟨f1,f2,f3,f4,f5,f6,-⟩:=sign_bin n hn1 hn2
        refine ⟨zqj n,rfl,by omega,⟨f5,f6⟩,fun k i r l=> ?_⟩
        show EE (zqg l (if zqj n=cOr then _ else if zqj n=cAnd then _ else _)) _
        rw [if_neg f3,if_neg f4,f1]
        exact zqb rfl
       ·exact ⟨cAnd,rfl,by decide,by decide,fun k i r l=>zqb rfl⟩
       ·exact ⟨cOr,rfl,by decide,by decide,fun k i r l=>zqb rfl⟩
      rw [hin] at h hs ⊢
      have hr:=h.right
      have hx1:=ha.kid (u:=x) (List.mem_cons_self ..)
      have hy1:=ha.kid (u:=y) (List.mem_cons_of_mem _ (List.mem_singleton.2 rfl))
      have hT:=hr.hd
      refine zqc (H.un x d i hx1 hx h.left (by rw [hT];exact hst)) fun xs j hxs=> ?_
      obtain ⟨rfl,u,rfl,hu⟩:=hxs
      have hs1:(T (i+(zzb x).length+1+(zzb y).length)).text=cRB:=by
       rw [List.length_append,List.length_cons] at hs
       rw [←hs];congr 2;omega
      refine zqc (H.tl1 1 d _ y (Nat.le_refl _) (by rw [hT];exact hlv) hy1 hy hr.tl hs1) fun ts j ⟨hj,y',hy',hts⟩=>zz0 ⟨?_,?_⟩
      ·rw [hj,List.length_append,List.length_cons];omega
      ·rw [hts,hT]
       show EE (zqg u (half _ _ y')) _
       exact (hhf _ _ _ _).trans (zqb (zzv hu (zzv hy' zxe)))
    |unary hn hx=>exact absurd rfl g3
    |name ho=>omega
    |var ho=>omega
    |set ho=>omega
    |_=>omega
 ux t d i ha ho h hs:=zzh (rd_ux hW H ha ho h hs) fun u j hu=>zz0 ⟨hu.1,u,rfl,hu.2⟩
 tl0 l d i h:=zks <| zkm (zx5 h (zz0 ⟨rfl,rfl⟩))
 tl1 l d i y hl hlv ha he h hs:=by
  refine zks (zkm (zzy (by omega) (zq0 ?_)))
  refine zqc (H.bin _ y d _ (Nat.succ_le_succ (Nat.zero_le _)) ha he h (by rw [hs];decide) (by rw [hs];exact Nat.succ_pos _)) fun xs j hx=> ?_
  obtain ⟨rfl,u,rfl,hu⟩:=hx
  exact zqc (H.tl0 l d _ (by rw [hs];exact hl)) fun ts j ⟨hj,he⟩=>zz0 ⟨hj,u,hu,by rw [he];rfl⟩
 fl fs d i hf h hs:=by
  cases fs with
  |nil=>exact zks (zkm (zzy hs (zz0 ⟨rfl,rfl⟩)))
  |cons s fs=>
   have h1:Rd T i (cDot::s::dots fs):=h
   refine zks (zz4 h1.hd (zx5 rfl ?_))
   have hT:T (i+1)=⟨1,s⟩:=by have:=h1.tl.hd;rw [(hW _ (hf s (List.mem_cons_self ..))).kd] at this;exact this
   refine zzh (Ψ:=fun p j=>p.2=s∧j=i+1+1) (zzh (zx3 (by rw [h1.hd])) fun _ j hj=>by subst hj;exact zw4 hT) fun p j hp=> ?_
   obtain ⟨e1,rfl⟩:=hp
   have hlen:(dots (s::fs)).length=(dots fs).length+2:=by show (cDot::s::dots fs).length=_;simp
   refine zqc (H.fl fs d _ (fun y hy=>hf y (List.mem_cons_of_mem _ hy)) h1.tl.tl (by rw [hlen] at hs;rw [show i+1+1+(dots fs).length=i+((dots fs).length+2) by omega];exact hs)) fun ts j ⟨hj,he⟩=>zz0 ⟨by rw [hj,hlen];omega,?_⟩
   exact zzv (by unfold bare bare0;rw [e1];exact zqb zxe) he
 ar ks d i hk h:=by
  cases ks with
  |nil=>
   have h1:Rd T i [cRB]:=h
   exact zks (zz4 h1.hd (zzy (by decide) (zzh (zx3 (by rw [h1.hd])) fun _ j hj=>zz0 ⟨by rw [hj];rfl,rfl⟩)))
  |cons k ks=>
   have h1:Rd T i (zqd::(zzb k++((ks.flatMap fun b=>zqd::zzb b)++ [cRB]))):=by
    have h0:Rd T i ((zqd::zzb k++ks.flatMap fun b=>zqd::zzb b)++ [cRB]):=h
    rw [List.append_assoc] at h0;exact h0
   have h2:=h1.tl
   have h3:=h2.right
   have hnx:(T (i+1+(zzb k).length)).text=zqd∨(T (i+1+(zzb k).length)).text=cRB:=by
    cases ks with
    |nil=>right;rw [show T (i+1+(zzb k).length)=_ from Rd.hd (r:= []) h3]
    |cons a b=>left;rw [show T (i+1+(zzb k).length)=_ from Rd.hd h3]
   refine zks (zz4 h1.hd (zx5 rfl (zq0 ?_)))
   refine zzh (z1z hW H (hk k (List.mem_cons_self ..)).1 (hk k (List.mem_cons_self ..)).2 h2.left (stp_of (by rcases hnx with e|e;exact .inl e;exact .inr (.inl e)))) fun u j hu=> ?_
   obtain ⟨rfl,hu⟩:=hu
   refine zqc (H.ar ks _ _ (fun u hu=>hk u (List.mem_cons_of_mem _ hu)) h3) fun ts j ⟨hj,he⟩=>zz0 ⟨?_,zzv hu he⟩
   rw [hj,List.flatMap_cons,List.length_append,List.length_cons];omega
theorem base_e {W:Tx→Prop} {T:Nat→AT} :IHE W T (P T 0):=by
 constructor<;>intros<;>intro r e<;>cases e
theorem all_e {W:Tx→Prop} {T:Nat→AT} (hW:∀ s,W s→NW s) (n:Nat):IHE W T (P T n):=by
 induction n with
 |zero=>exact base_e
 |succ n ih=>exact step_e hW n ih
theorem zk1 (op:Nat) (s ty:Tx) (n:Int) (p:Nat) (ks:List Tree):zzj (.mk op s ty n p ks)=z1q op s (ks.map zzb) (ks.map zzj) (zzb (.mk op s ty n p ks)):=showS_eq _
theorem putT_is (s:Tx) (y:Tree) (fs:List Tx):∀ (b:Tree) (f:Tx) (rest:List Tx),fs++ [s]=f::rest→EE (putT b (bare0 f) (rest.map bare0) y) (.mk 9 s [] 0 0 [(fs.map bare0).foldl (fun a b=>zqg a b) b,y]):=by
 induction fs with
 |nil=>
  intro b f rest h
  have h1:s=f∧ []=rest:=by simpa using h
  obtain ⟨rfl,rfl⟩:=h1
  exact rfl
 |cons g fs ih=>
  intro b f rest h
  have h1:g=f∧fs++ [s]=rest:=by simpa using h
  obtain ⟨rfl,rfl⟩:=h1
  cases hr:fs++ [s] with
  |nil=>exact absurd hr (by simp)
  |cons f' r'=>exact ih (zqg b (bare0 g)) f' r' hr
abbrev OneS (t:Tree) (i:Nat) (ts:List Tree) (j:Nat):Prop:=j=i+(zzj t).length∧∃ u,ts= [u]∧EE u t
structure IHS (W:Tx→Prop) (T:Nat→AT) (c:zxl):Prop extends IHE W T c where
 st:∀ t d i,Al W t→isS t→Rd T i (zzj t)→(T (i+(zzj t).length)).text≠zjd→HdC (c .stmt d i) (OneS t i)
 br:∀ t d i,Al W t→t.op=10→Rd T i (zzj t)→(T (i+(zzj t).length)).text≠zjd→HdC (c .branch d i) (OneS t i)
 ss:∀ ks d i,(∀ u∈ks,Al W u∧isS u)→Rd T i ((ks.map zzj).flatten++ [cRC])→HdC (c .stmts d i) (fun ts j=>j=i+((ks.map zzj).flatten.length+1)∧EL ts ks)
 pa:∀ ks d i,(∀ u∈ks,Al W u∧u.op=5)→Rd T i ((ks.flatMap fun b=>zqd::zzr b)++ [cRB])→HdC (c .params d i) (fun ts j=>j=i+((ks.flatMap fun b=>zqd::zzr b).length+1)∧EL ts ks)
 pt:∀ ks d i,(∀ u∈ks,Al W u∧u.op=5)→Rd T i ((ks.flatMap fun b=>zzr b++ [zzk])++ [cRC])→HdC (c .parts d i) (fun ts j=>j=i+((ks.flatMap fun b=>zzr b++ [zzk]).length+1)∧EL ts ks)
 dl:∀ ks d i,(∀ u∈ks,Al W u∧(u.op=2∨u.op=3∨u.op=4))→Rd T i (ks.flatMap zxu)→(T (i+(ks.flatMap zxu).length)).kind=0→HdC (c .decls d i) (fun ts j=>j=i+(ks.flatMap zxu).length∧EL ts ks)
theorem first_s {W:Tx→Prop} (hW:∀ s,W s→NW s) {t:Tree} (ha:Al W t) (hs:isS t):∃ x r,zzj t=x::r∧x≠zjd∧x≠cRC:=by
 have hl:=ha.loc
 have fe:∀ x,z0e x→x≠zjd∧x≠cRC:=fun x h=>⟨zv4 h (by decide) (by decide) (by decide),zv4 h (by decide) (by decide) (by decide)⟩
 cases t with
 |mk op s ty n p ks=>
  have h1:7≤op:=hs.1
  have h2:op≤14:=hs.2
  rw [zk1]
  cases hl with
  |set ho h hx=>
   have hk:=(hW _ h).kd
   rcases ho with rfl|rfl<;>exact ⟨_,_,rfl,kd_ne hk (by decide),kd_ne hk (by decide)⟩
  | @put _ _ x y h hx hy=>
    obtain ⟨z,r,hz,hf⟩:=z2h hW (ha.kid (u:=x) (List.mem_cons_self ..)) hx
    refine ⟨z,r++ [cDot,s,cEq]++(zzb y++ [zzk]),?_,fe z hf⟩
    show zzb x++ [cDot,s,cEq]++(zzb y++ [zzk])=_
    rw [hz];rfl
  |cond hx hb=>exact ⟨_,_,rfl,by decide,by decide⟩
  |conde hx hb he=>exact ⟨_,_,rfl,by decide,by decide⟩
  |loop hx hb=>exact ⟨_,_,rfl,by decide,by decide⟩
  |print hx=>exact ⟨_,_,rfl,by decide,by decide⟩
  |back0=>exact ⟨_,_,rfl,by decide,by decide⟩
  |back1 hx=>exact ⟨_,_,rfl,by decide,by decide⟩
  | @act _ x hx=>
    obtain ⟨z,r,hz,hf⟩:=z2h hW (ha.kid (u:=x) (List.mem_cons_self ..)) (by unfold isE;omega)
    refine ⟨z,r++ [zzk],?_,fe z hf⟩
    show zzb x++ [zzk]=_
    rw [hz];rfl
  |var ho=>omega
  |name ho=>omega
  |binary ho=>omega
  |_=>omega
section
variable {W:Tx→Prop} {T:Nat→AT} {c:zxl} (hW:∀ s,W s→NW s) (H:IHS W T c)
include hW H
theorem rd_typ {ty:Tx} {i:Nat} (ht:Ty W ty) (h:Rd T i (typT ty)):Hd T c (fun x j=>x=ty∧j=i+(typT ty).length) typ i:=by
 have _:=H
 rcases ht with rfl|rfl|⟨s,rfl,hs⟩
 ·rw [ty_int] at h ⊢
  exact zz4 h.hd (zx5 rfl (zq0 (zz0 ⟨rfl,rfl⟩)))
 ·rw [ty_bool] at h ⊢
  exact zz4 h.hd (zzy (by decide) (zx5 rfl (zq0 (zz0 ⟨rfl,rfl⟩))))
 ·rw [ty_ptr (hW _ hs)] at h ⊢
  refine zz4 h.hd (zzy (by decide) (zzy (by decide) ?_))
  refine zzh (zx3 (by rw [h.hd])) fun _ j hj=> ?_
  subst hj
  have hT:T (i+1)=⟨1,s⟩:=by have:=h.tl.hd;rw [(hW _ hs).kd] at this;exact this
  refine zzh (zw4 hT) fun q j hq=> ?_
  obtain ⟨e1,rfl⟩:=hq
  exact zz0 ⟨by rw [e1],rfl⟩
theorem rd_typed {t:Tree} {op i:Nat} (ho:op=3∨op=5) (ha:Al W t) (hop:t.op=op) (h:Rd T i (zzr t)):Hd T c (fun u j=>j=i+(zzr t).length∧EE u t) (z1m op) i:=by
 have hl:=ha.loc
 cases t with
 |mk o s ty n p ks=>
  have:o=op:=hop
  subst this
  cases hl with
  |var _ hs ht=>
   have h1:Rd T i (s::typT ty):=h
   have hT:T i=⟨1,s⟩:=by have:=h1.hd;rw [(hW _ hs).kd] at this;exact this
   refine zzh (zw4 hT) fun q j hq=> ?_
   obtain ⟨e1,rfl⟩:=hq
   refine zzh (rd_typ hW H ht h1.tl) fun x j hx=> ?_
   obtain ⟨rfl,rfl⟩:=hx
   refine zz0 ⟨?_,?_⟩
   ·show _=i+(s::typT x).length;rw [List.length_cons];omega
   ·rw [e1];exact zqb zxe
  |name h=>omega
  |set h=>omega
  |binary h=>omega
  |_=>omega
theorem rd_named {t:Tree} {op i:Nat} (ho:op=3∨op=5) (ha:Al W t) (hop:t.op=op) (h:Rd T i (zzr t++ [zzk])):Hd T c (fun u j=>j=i+(zzr t++ [zzk]).length∧EE u t) (named op) i:=by
 refine zzh (rd_typed hW H ho ha hop h.left) fun u j hu=> ?_
 obtain ⟨rfl,hu⟩:=hu
 refine zzh (zx3 (by rw [h.right.hd])) fun _ j hj=>zz0 ⟨?_,hu⟩
 rw [hj,List.length_append];rfl
theorem rd_block {b:Tree} {d i:Nat} (ha:Al W b) (ho:b.op=6) (h:Rd T i (zzj b)):Hd T c (fun u j=>j=i+(zzj b).length∧EE u b) (block d) i:=by
 have _:=hW
 have hl:=ha.loc
 cases b with
 |mk o s ty n p ks=>
  have:o=6:=ho
  subst this
  rw [zk1] at h ⊢
  cases hl with
  |block hk=>
   have h1:Rd T i (cLC::((ks.map zzj).flatten++ [cRC])):=h
   refine zzh (z29 (by rw [h1.hd])) fun _ j hj=> ?_
   subst hj
   refine zqc (H.ss ks (d+1) _ (fun u hu=>⟨ha.kid hu,hk u hu⟩) h1.tl) fun ts j ⟨hj,he⟩=>zz0 ⟨?_,zqb he⟩
   rw [hj]
   show _=i+(cLC::((ks.map zzj).flatten++ [cRC])).length
   simp;omega
  |var h=>omega
  |name h=>omega
  |set h=>omega
  |binary h=>omega
theorem block_hd {b:Tree} (ha:Al W b) (ho:b.op=6):∃ r,zzj b=cLC::r:=by
 have _:=hW
 have _:=H
 have hl:=ha.loc
 cases b with
 |mk o s ty n p ks=>
  have:o=6:=ho
  subst this
  rw [zk1]
  exact ⟨_,rfl⟩
theorem rd_setting {s:Tx} {x h:Tree} {op d i:Nat} (hn:h.name=s) (ha:Al W x) (hx:isE x) (hr:Rd T i (zzb x++ [zzk])):Hd T c (fun u j=>j=i+((zzb x).length+1)∧∀ p,EE u (.mk op s [] 0 p [x])) (zwa op h d) i:=by
 refine zzh (z1z hW H.toIHE ha hx hr.left (stp_of (by rw [hr.right.hd];exact .inr (.inr (.inl rfl))))) fun u j hu=> ?_
 obtain ⟨rfl,hu⟩:=hu
 refine zzh (zx3 (by rw [hr.right.hd])) fun _ j hj=>zz0 ⟨by rw [hj];omega,fun p=> ?_⟩
 rw [hn];exact zqb (zzv hu zxe)
theorem rd_simple {t:Tree} {d i:Nat} (ha:Al W t) (ho:t.op=7∨t.op=8∨t.op=9∨t.op=14) (h:Rd T i (zzj t)):Hd T c (fun u j=>j=i+(zzj t).length∧EE u t) (z2r d) i:=by
 have hl:=ha.loc
 cases t with
 |mk op s ty n p ks=>
  have ho1:op=7∨op=8∨op=9∨op=14:=ho
  rw [zk1] at h ⊢
  cases hl with
  | @set _ _ _ x ho2 hs hx=>
    have hx1:=ha.kid (u:=x) (List.mem_cons_self ..)
    have hb:Al W (.mk 18 s [] 0 0 []):= .mk (.name (.inl rfl) hs) (fun u hu=>by cases hu)
    rcases ho2 with rfl|rfl
    ·have h1:Rd T i ([s]++(cDef::(zzb x++ [zzk]))):=h
     have hT:T i=⟨1,s⟩:=by have:=Rd.hd h1;rw [(hW _ hs).kd] at this;exact this
     have h2:=h1.right
     refine zz4 hT (zzh (zwl hW H.toIHE hb (show (15:Nat)≤18∧(18:Nat)≤26 by decide) (show (18:Nat)≠20 by decide) h1.left (fun _=>by show (T (i+1)).text≠cLB;rw [show T (i+1)=_ from h2.hd];decide)) fun u j hu=> ?_)
     obtain ⟨rfl,hu⟩:=hu
     obtain ⟨e1,e2,-⟩:=zw7 hu
     have e1:u.op=18:=e1
     refine zz4 h2.hd (zzy (fun q=>by have:=q.2.1;omega) (zx5 ⟨rfl,e1,rfl⟩ (zq0 ?_)))
     refine (rd_setting hW H (s:=s) e2 hx1 hx h2.tl).imp fun v j hv=>⟨?_,hv.2 p⟩
     rw [hv.1]
     show _=i+([s,cDef]++(zzb x++ [zzk])).length
     simp;omega
    ·have h1:Rd T i ([s]++(cEq::(zzb x++ [zzk]))):=h
     have hT:T i=⟨1,s⟩:=by have:=Rd.hd h1;rw [(hW _ hs).kd] at this;exact this
     have h2:=h1.right
     refine zz4 hT (zzh (zwl hW H.toIHE hb (show (15:Nat)≤18∧(18:Nat)≤26 by decide) (show (18:Nat)≠20 by decide) h1.left (fun _=>by show (T (i+1)).text≠cLB;rw [show T (i+1)=_ from h2.hd];decide)) fun u j hu=> ?_)
     obtain ⟨rfl,hu⟩:=hu
     obtain ⟨e1,e2,-⟩:=zw7 hu
     have e1:u.op=18:=e1
     refine zz4 h2.hd (zzy (fun q=>by have:=q.2.1;omega) (zzy (fun q=>absurd q.2.2 (by decide)) (zx5 ⟨rfl,e1,rfl⟩ (zq0 ?_))))
     refine (rd_setting hW H (s:=s) e2 hx1 hx h2.tl).imp fun v j hv=>⟨?_,hv.2 p⟩
     rw [hv.1]
     show _=i+([s,cEq]++(zzb x++ [zzk])).length
     simp;omega
  | @put _ _ x y hs hx hy=>
    have hx1:=ha.kid (u:=x) (List.mem_cons_self ..)
    have hy1:=ha.kid (u:=y) (List.mem_cons_of_mem _ (List.mem_singleton.2 rfl))
    obtain ⟨b,fs,g1,g2,g3,g4,g5,g6⟩:=fdec _ x (Nat.le_refl _) hx1 hx
    cases hfs:fs++ [s] with
    |nil=>exact absurd hfs (by simp)
    |cons f rest=>
     have hfr:∀ z∈f::rest,W z:=fun z hz=>by
      rw [←hfs] at hz
      rcases List.mem_append.1 hz with hz|hz
      ·exact g4 z hz
      ·rw [List.mem_singleton.1 hz];exact hs
     have hd1:dots fs++ [cDot,s]=cDot::f::dots rest:=by
      have:dots (fs++ [s])=dots fs++ [cDot,s]:=by unfold dots;rw [List.flatMap_append];rfl
      rw [←this,hfs];rfl
     have heq:z1q 9 s ([x,y].map zzb) ([x,y].map zzj) (zzb (.mk 9 s [] 0 p [x,y]))=zzb b++(cDot::f::(dots rest++(cEq::(zzb y++ [zzk])))):=by
      show zzb x++ [cDot,s,cEq]++(zzb y++ [zzk])=_
      rw [g5]
      have:dots fs++ [cDot,s,cEq]=cDot::f::(dots rest++ [cEq]):=by
       rw [show ([cDot,s,cEq]:List Tx)= [cDot,s]++ [cEq] from rfl,←List.append_assoc,hd1];rfl
      rw [List.append_assoc (zzb b),this]
      simp
     rw [heq] at h ⊢
     have h2:=h.right
     obtain ⟨x0,r0,hx0,hf0⟩:=first_b hW g1 g2 g3
     refine zkm (zzh (zwl hW H.toIHE g1 g2 g3 h.left (fun _=>by rw [h2.hd];decide)) fun u j hu=> ?_)
     obtain ⟨rfl,hu⟩:=hu
     refine zz4 h2.hd (zzy (fun q=>absurd q.2.2 (by decide)) (zzy (fun q=>absurd q.2.2 (by decide)) (zzy (fun q=>absurd q.2.2 (by decide)) ?_)))
     have hT:T (i+(zzb b).length+1)=⟨1,f⟩:=by have:=h2.tl.hd;rw [(hW _ (hfr f (List.mem_cons_self ..))).kd] at this;exact this
     refine zzh (Ψ:=fun p j=>p.2=f∧j=i+(zzb b).length+1+1) (zzh (zx3 (by rw [h2.hd])) fun _ j hj=>by subst hj;exact zw4 hT) fun q j hq=> ?_
     obtain ⟨e1,rfl⟩:=hq
     have h3:=h2.tl.tl
     have h4:=h3.right
     refine zqc (H.fl rest d _ (fun z hz=>hfr z (List.mem_cons_of_mem _ hz)) h3.left (by rw [h4.hd];decide)) fun ts j ⟨hj,he⟩=> ?_
     subst hj
     refine zzh (zx3 (by rw [h4.hd])) fun _ j hj=> ?_
     subst hj
     have h5:=h4.tl
     refine zzh (z1z hW H.toIHE hy1 hy h5.left (stp_of (by rw [h5.right.hd];exact .inr (.inr (.inl rfl))))) fun v j hv=> ?_
     obtain ⟨rfl,hv⟩:=hv
     refine zzh (zx3 (by rw [h5.right.hd])) fun _ j hj=>zz0 ⟨?_,?_⟩
     ·rw [hj];simp;omega
     ·have k1:=ee_put _ _ _ _ _ _ _ _ he hu (show EE (bare q) (bare0 f) by unfold bare bare0;rw [e1];exact zqb zxe) hv
      exact k1.trans ((putT_is s y fs b f rest hfs).trans (zqb (zzv g6 (zzv rfl zxe))))
  | @act _ x hx=>
    have hx1:=ha.kid (u:=x) (List.mem_cons_self ..)
    have h1:Rd T i (zzb x++ [zzk]):=h
    obtain ⟨nm,r,hr,hk⟩:∃ nm r,zzb x=nm::r∧kd nm=1:=by
     have hl2:=hx1.loc
     cases x with
     |mk o2 s2 ty2 n2 p2 ks2=>
      have:o2=21:=hx
      subst this
      rw [zvz]
      cases hl2 with
      |call hs2 hk2=>exact ⟨_,_,rfl,(hW _ hs2).kd⟩
      |name h=>omega
      |var h=>omega
      |set h=>omega
      |binary h=>omega
    have hT:T i=⟨1,nm⟩:=by have:=h1.left;rw [hr] at this;have:=this.hd;rw [hk] at this;exact this
    refine zz4 hT (zzh (zwl hW H.toIHE hx1 (by unfold isE;omega) (by omega) h1.left (fun e=>by omega)) fun u j hu=> ?_)
    obtain ⟨rfl,hu⟩:=hu
    have e1:u.op=21:=(zw7 hu).1.trans hx
    refine zz4 h1.right.hd (zx5 ⟨rfl,e1,rfl⟩ (zq0 (zz0 ⟨?_,zqb (zzv hu zxe)⟩)))
    show _=i+(zzb x++ [zzk]).length
    rw [List.length_append];rfl
  |var h=>omega
  |name h=>omega
  |binary h=>omega
  |_=>omega
end
section
variable {W:Tx→Prop} {T:Nat→AT} {c:zxl} (hW:∀ s,W s→NW s) (H:IHS W T c)
include hW H
theorem rd_other {e:Tree} {d i:Nat} (ha:Al W e) (ho:e.op=6∨e.op=10) (h:Rd T i (zzj e)) (hn:(T (i+(zzj e).length)).text≠zjd):Hd T c (fun u j=>j=i+(zzj e).length∧EE u e) (other d) i:=by
 rcases ho with ho|ho
 ·obtain ⟨r,hr⟩:=block_hd hW H ha ho
  have hT:T i=⟨kd cLC,cLC⟩:=by have:=h;rw [hr] at this;exact this.hd
  exact zz4 hT (zzy (by decide) (rd_block hW H ha ho h))
 ·have hT:(T i).text=kIf:=by
   cases e with
   |mk o s ty n p ks=>
    have:o=10:=ho
    subst this
    rw [zk1] at h
    have h1:Rd T i (kIf::(((ks.map zzb).getD 0 []++(ks.map zzj).getD 1 [])++(if 2<(ks.map zzj).length then [zjd]++(ks.map zzj).getD 2 [] else []))):=h
    rw [h1.hd]
  exact zkm (zx5 hT (zqc (H.br e d i ha ho h hn) fun ts j ⟨hj,u,hu,hv⟩=>zz0 ⟨hj,by rw [hu];exact hv⟩))
theorem rd_cb {x b:Tree} {d i:Nat} {R:List Tx} {α:Type} {Φ:α→Nat→Prop} {f:Tree→Tree→Pr α} (hx1:Al W x) (hx:isE x) (hb1:Al W b) (hb:b.op=6) (h:Rd T i (zzb x++(zzj b++R)))
 (g:∀ u v,EE u x→EE v b→Hd T c Φ (f u v) (i+(zzb x).length+(zzj b).length)):Hd T c Φ ((expr d).bind fun u=>(block d).bind fun v=>f u v) i:=by
 obtain ⟨r,hr⟩:=block_hd hW H hb1 hb
 have h2:=h.right
 have hT:T (i+(zzb x).length)=⟨kd cLC,cLC⟩:=by have:=h2.left;rw [hr] at this;exact this.hd
 refine zzh (z1z hW H.toIHE hx1 hx h.left (stp_of (by rw [hT];exact .inr (.inr (.inr rfl))))) fun u j hu=> ?_
 obtain ⟨rfl,hu⟩:=hu
 refine zzh (rd_block hW H hb1 hb h2.left) fun v j hv=> ?_
 obtain ⟨rfl,hv⟩:=hv
 exact g u v hu hv
theorem rd_branch {t:Tree} {d i:Nat} (ha:Al W t) (ho:t.op=10) (h:Rd T i (zzj t)) (hn:(T (i+(zzj t).length)).text≠zjd):Hd T c (fun u j=>j=i+(zzj t).length∧EE u t) (branch d) i:=by
 have hl:=ha.loc
 cases t with
 |mk op s ty n p ks=>
  have:op=10:=ho
  subst this
  rw [zk1] at h hn ⊢
  cases hl with
  | @cond _ x b hx hb=>
    have hx1:=ha.kid (u:=x) (List.mem_cons_self ..)
    have hb1:=ha.kid (u:=b) (List.mem_cons_of_mem _ (List.mem_singleton.2 rfl))
    have heq:z1q 10 [] ([x,b].map zzb) ([x,b].map zzj) (zzb (.mk 10 [] [] 0 p [x,b]))=kIf::(zzb x++(zzj b++ [])):=by
     show [kIf]++zzb x++zzj b++ []=_
     simp
    rw [heq] at h hn ⊢
    have hlen:i+(kIf::(zzb x++(zzj b++ []))).length=i+1+(zzb x).length+(zzj b).length:=by simp;omega
    rw [hlen] at hn ⊢
    refine zzh (zx3 (by rw [h.hd])) fun _ j hj=> ?_
    subst hj
    exact rd_cb hW H hx1 hx hb1 hb h.tl fun u v hu hv=>zkm (zzy hn (zz0 ⟨rfl,zqb (zzv hu (zzv hv zxe))⟩))
  | @conde _ x b e hx hb he=>
    have hx1:=ha.kid (u:=x) (List.mem_cons_self ..)
    have hb1:=ha.kid (u:=b) (List.mem_cons_of_mem _ (List.mem_cons_self ..))
    have he1:=ha.kid (u:=e) (List.mem_cons_of_mem _ (List.mem_cons_of_mem _ (List.mem_singleton.2 rfl)))
    have heq:z1q 10 [] ([x,b,e].map zzb) ([x,b,e].map zzj) (zzb (.mk 10 [] [] 0 p [x,b,e]))=kIf::(zzb x++(zzj b++(zjd::zzj e))):=by
     show [kIf]++zzb x++zzj b++([zjd]++zzj e)=_
     simp
    rw [heq] at h hn ⊢
    have hlen:i+(kIf::(zzb x++(zzj b++(zjd::zzj e)))).length=i+1+(zzb x).length+(zzj b).length+1+(zzj e).length:=by simp;omega
    rw [hlen] at hn ⊢
    refine zzh (zx3 (by rw [h.hd])) fun _ j hj=> ?_
    subst hj
    have h3:=h.tl.right.right
    refine rd_cb hW H hx1 hx hb1 hb h.tl fun u v hu hv=>zz4 h3.hd (zx5 rfl (zq0 ?_))
    refine zzh (rd_other hW H he1 he h3.tl hn) fun z j hz=> ?_
    obtain ⟨rfl,hz⟩:=hz
    exact zz0 ⟨rfl,zqb (zzv hu (zzv hv (zzv hz zxe)))⟩
  |var h=>omega
  |name h=>omega
  |set h=>omega
  |binary h=>omega
theorem rd_stmt {t:Tree} {d i:Nat} (ha:Al W t) (hs:isS t) (h:Rd T i (zzj t)) (hn:(T (i+(zzj t).length)).text≠zjd):Hd T c (fun u j=>j=i+(zzj t).length∧EE u t) (stmt d) i:=by
 by_cases h10:t.op=10
 ·have hT:(T i).text=kIf:=by
   cases t with
   |mk o s ty n p ks=>
    have:o=10:=h10
    subst this
    rw [zk1] at h
    have h1:Rd T i (kIf::(((ks.map zzb).getD 0 []++(ks.map zzj).getD 1 [])++(if 2<(ks.map zzj).length then [zjd]++(ks.map zzj).getD 2 [] else []))):=h
    rw [h1.hd]
  exact zkm (zx5 hT (zqc (H.br t d i ha h10 h hn) fun ts j ⟨hj,u,hu,hv⟩=>zz0 ⟨hj,by rw [hu];exact hv⟩))
 by_cases hsim:t.op=7∨t.op=8∨t.op=9∨t.op=14
 ·obtain ⟨x,r,hx,hne⟩:∃ x r,zzj t=x::r∧(x≠kIf∧x≠kFor∧x≠zjc∧x≠zqa):=by
   have fe:∀ x,z0e x→x≠kIf∧x≠kFor∧x≠zjc∧x≠zqa:=fun x h=>⟨zv4 h (by decide) (by decide) (by decide),zv4 h (by decide) (by decide) (by decide),zv4 h (by decide) (by decide) (by decide),zv4 h (by decide) (by decide) (by decide)⟩
   have hl:=ha.loc
   cases t with
   |mk op s ty n p ks=>
    have hs1:op=7∨op=8∨op=9∨op=14:=hsim
    rw [zk1]
    cases hl with
    |set ho hs2 hx=>
     have hk:=(hW _ hs2).kd
     rcases ho with rfl|rfl<;>exact ⟨_,_,rfl,kd_ne hk (by decide),kd_ne hk (by decide),kd_ne hk (by decide),kd_ne hk (by decide)⟩
    | @put _ _ x y h hx hy=>
      obtain ⟨z,r,hz,hf⟩:=z2h hW (ha.kid (u:=x) (List.mem_cons_self ..)) hx
      refine ⟨z,r++ [cDot,s,cEq]++(zzb y++ [zzk]),?_,fe z hf⟩
      show zzb x++ [cDot,s,cEq]++(zzb y++ [zzk])=_
      rw [hz];rfl
    | @act _ x hx=>
      obtain ⟨z,r,hz,hf⟩:=z2h hW (ha.kid (u:=x) (List.mem_cons_self ..)) (by unfold isE;omega)
      refine ⟨z,r++ [zzk],?_,fe z hf⟩
      show zzb x++ [zzk]=_
      rw [hz];rfl
    |var ho=>omega
    |name ho=>omega
    |binary ho=>omega
    |_=>omega
  have hT:T i=⟨kd x,x⟩:=by have:=h;rw [hx] at this;exact this.hd
  exact zz4 hT (zzy hne.1 (zzy hne.2.1 (zzy hne.2.2.1 (zzy hne.2.2.2 (rd_simple hW H ha hsim h)))))
 have hl:=ha.loc
 cases t with
 |mk op s ty n p ks=>
  have g1:7≤op:=hs.1
  have g2:op≤14:=hs.2
  have g3:¬ op=10:=h10
  have g4:¬ (op=7∨op=8∨op=9∨op=14):=hsim
  rw [zk1] at h hn ⊢
  cases hl with
  | @loop _ x b hx hb=>
    have hx1:=ha.kid (u:=x) (List.mem_cons_self ..)
    have hb1:=ha.kid (u:=b) (List.mem_cons_of_mem _ (List.mem_singleton.2 rfl))
    have heq:z1q 11 [] ([x,b].map zzb) ([x,b].map zzj) (zzb (.mk 11 [] [] 0 p [x,b]))=kFor::(zzb x++(zzj b++ [])):=by
     show [kFor]++zzb x++zzj b=_
     simp
    rw [heq] at h ⊢
    refine zz4 h.hd (zzy (by decide) (zx5 rfl ?_))
    refine zzh (zx3 (by rw [h.hd])) fun _ j hj=> ?_
    subst hj
    refine rd_cb hW H hx1 hx hb1 hb h.tl fun u v hu hv=>zz0 ⟨?_,zqb (zzv hu (zzv hv zxe))⟩
    simp;omega
  | @print _ x hx=>
    have hx1:=ha.kid (u:=x) (List.mem_cons_self ..)
    have heq:z1q 12 [] ([x].map zzb) ([x].map zzj) (zzb (.mk 12 [] [] 0 p [x]))=zjc::cLB::(zzb x++ [cRB,zzk]):=by
     show [zjc]++([cLB]++zzb x++ [cRB])++ [zzk]=_
     simp
    rw [heq] at h ⊢
    refine zz4 h.hd (zzy (by decide) (zzy (by decide) (zx5 rfl ?_)))
    refine zzh (zx3 (by rw [h.hd])) fun _ j hj=> ?_
    subst hj
    have h2:=h.tl
    have h3:=h2.tl.right
    refine zzh (Ψ:=fun u j=>j=i+1+1+(zzb x).length+1∧EE u x) ?_ fun u j hu=> ?_
    ·refine zzh (z29 (by rw [h2.hd])) fun _ j hj=> ?_
     subst hj
     refine zzh (z1z hW H.toIHE hx1 hx h2.tl.left (stp_of (by rw [h3.hd];exact .inr (.inl rfl)))) fun u j hu=> ?_
     obtain ⟨rfl,hu⟩:=hu
     exact zzh (zx3 (by rw [h3.hd])) fun _ j hj=>zz0 ⟨hj,hu⟩
    ·obtain ⟨rfl,hu⟩:=hu
     refine zzh (zx3 (by rw [h3.tl.hd])) fun _ j hj=>zz0 ⟨?_,zqb (zzv hu zxe)⟩
     rw [hj];simp;omega
  |back0=>
   have h1:Rd T i [zqa,zzk]:=h
   refine zz4 h1.hd (zzy (by decide) (zzy (by decide) (zzy (by decide) (zx5 rfl ?_))))
   refine zzh (zx3 (by rw [h1.hd])) fun _ j hj=> ?_
   subst hj
   refine zzh (Ψ:=fun ts j=>j=i+1∧ts= []) (zz4 h1.tl.hd (zx5 rfl (zz0 ⟨rfl,rfl⟩))) fun ts j ht=> ?_
   obtain ⟨rfl,rfl⟩:=ht
   exact zzh (zx3 (by rw [h1.tl.hd])) fun _ j hj=>zz0 ⟨by rw [hj];rfl,zqb zxe⟩
  | @back1 _ x hx=>
    have hx1:=ha.kid (u:=x) (List.mem_cons_self ..)
    have h1:Rd T i (zqa::(zzb x++ [zzk])):=h
    obtain ⟨z,r,hz,hf⟩:=z2h hW hx1 hx
    have h2:=h1.tl
    have hT:T (i+1)=⟨kd z,z⟩:=by have:=h2.left;rw [hz] at this;exact this.hd
    refine zz4 h1.hd (zzy (by decide) (zzy (by decide) (zzy (by decide) (zx5 rfl ?_))))
    refine zzh (zx3 (by rw [h1.hd])) fun _ j hj=> ?_
    subst hj
    refine zzh (Ψ:=fun ts j=>j=i+1+(zzb x).length∧EL ts [x]) (zz4 hT (zzy (zv4 hf (by decide) (by decide) (by decide)) ?_)) fun ts j ht=> ?_
    ·refine zzh (z1z hW H.toIHE hx1 hx h2.left (stp_of (by rw [h2.right.hd];exact .inr (.inr (.inl rfl))))) fun u j hu=> ?_
     obtain ⟨rfl,hu⟩:=hu
     exact zz0 ⟨rfl,zzv hu zxe⟩
    ·obtain ⟨rfl,ht⟩:=ht
     refine zzh (zx3 (by rw [h2.right.hd])) fun _ j hj=>zz0 ⟨?_,zqb ht⟩
     rw [hj]
     show _=i+(zqa::(zzb x++ [zzk])).length
     simp;omega
  |var h=>omega
  |name h=>omega
  |set h=>omega
  |binary h=>omega
  |cond=>omega
  |conde=>omega
  |_=>omega
theorem commaT_cons (k:Tree) (ks:List Tree):zz3 ((k::ks).map zzr)=zzr k++ks.flatMap fun b=>zqd::zzr b:=by
 have _:=hW
 have _:=H
 show zzr k++(ks.map zzr).flatMap _=_
 rw [List.flatMap_map]
theorem rd_fparts {ks:List Tree} {i:Nat} (hk:∀ u∈ks,Al W u∧u.op=5) (h:Rd T i (cLB::(zz3 (ks.map zzr)++ [cRB]))):Hd T c (fun ts j=>j=i+((zz3 (ks.map zzr)).length+2)∧EL ts ks) fparts i:=by
 refine zzh (zx3 (by rw [h.hd])) fun _ j hj=> ?_
 subst hj
 cases ks with
 |nil=>
  have h2:Rd T (i+1) [cRB]:=h.tl
  exact zz4 h2.hd (zx5 rfl (zq0 (zz0 ⟨rfl,rfl⟩)))
 |cons k ks=>
  rw [commaT_cons hW H,List.append_assoc] at h
  rw [commaT_cons hW H]
  have hk1:=hk k (List.mem_cons_self ..)
  have h2:=h.tl
  have hT:(T (i+1)).text≠cRB:=by
   have hl:=hk1.1.loc
   have h20:=h2.left
   cases k with
   |mk o s ty n p q=>
    have:o=5:=hk1.2
    subst this
    cases hl with
    |var _ hs ht=>
     have h21:Rd T (i+1) (s::typT ty):=h20
     rw [h21.hd];exact kd_ne (hW _ hs).kd (by decide)
    |name h=>omega
    |set h=>omega
    |binary h=>omega
  refine zkm (zzy hT ?_)
  refine zzh (rd_typed hW H (.inr rfl) hk1.1 hk1.2 h2.left) fun u j hu=> ?_
  obtain ⟨rfl,hu⟩:=hu
  refine zqc (H.pa ks _ _ (fun u hu=>hk u (List.mem_cons_of_mem _ hu)) h2.right) fun ts j ⟨hj,he⟩=>zz0 ⟨?_,zzv hu he⟩
  rw [hj,List.length_append];omega
theorem rd_decl {t:Tree} {d i:Nat} (ha:Al W t) (ho:t.op=2∨t.op=3∨t.op=4) (h:Rd T i (zxu t)):Hd T c (fun u j=>j=i+(zxu t).length∧EE u t) (decl d) i:=by
 have hl:=ha.loc
 cases t with
 |mk op s ty n p ks=>
  have ho1:op=2∨op=3∨op=4:=ho
  cases hl with
  |struct hs hk=>
   have heq:zxu (.mk 2 s [] 0 p ks)=zwn::s::zkh::cLC::((ks.flatMap fun k=>zzr k++ [zzk])++ [cRC]):=rfl
   rw [heq] at h ⊢
   refine zz4 h.hd (zx5 rfl (zq0 ?_))
   have hT:T (i+1)=⟨1,s⟩:=by have:=h.tl.hd;rw [(hW _ hs).kd] at this;exact this
   refine zzh (zw4 hT) fun q j hq=> ?_
   obtain ⟨e1,rfl⟩:=hq
   refine zzh (zx3 (by rw [h.tl.tl.hd])) fun _ j hj=> ?_
   subst hj
   refine zzh (zx3 (by rw [h.tl.tl.tl.hd])) fun _ j hj=> ?_
   subst hj
   refine zqc (H.pt ks _ _ (fun u hu=>⟨ha.kid hu,hk u hu⟩) h.tl.tl.tl.tl) fun ts j ⟨hj,he⟩=>zz0 ⟨?_,by rw [e1];exact zqb he⟩
   rw [hj];simp;omega
  | @var _ _ _ _ ho2 hs ht=>
    have h3:op=3:=by omega
    subst h3
    have heq:zxu (.mk 3 s ty 0 p [])=kVar::(zzr (.mk 3 s ty 0 p [])++ [zzk]):=rfl
    rw [heq] at h ⊢
    refine zz4 h.hd (zzy (by decide) (zx5 rfl (zq0 ?_)))
    refine (rd_named hW H (.inl rfl) ha rfl h.tl).imp fun u j hu=>⟨?_,hu.2⟩
    rw [hu.1,List.length_cons];omega
  | @func _ _ _ qs b hs ht hk hb=>
    have hb1:=ha.kid (u:=b) (List.mem_append_right _ (List.mem_singleton.2 rfl))
    have heq:zxu (.mk 4 s ty 0 p (qs++ [b]))=zk8::s::((cLB::(zz3 (qs.map zzr)++ [cRB]))++((if ty= [] then [] else typT ty)++zzj b)):=by
     have e1:(qs++ [b]).take ((qs++ [b]).length - 1)=qs:=by simp
     have e2:((qs++ [b]).map zzj).getD ((qs++ [b]).length - 1) []=zzj b:=by simp [List.getD_eq_getElem?_getD]
     show [zk8,s]++([cLB]++zz3 (((qs++ [b]).take ((qs++ [b]).length - 1)).map zzr)++ [cRB])++(if ty= [] then [] else typT ty)++(((qs++ [b]).map zzj).getD ((qs++ [b]).length - 1) [])=_
     rw [e1,e2]
     simp
    rw [heq] at h ⊢
    refine zz4 h.hd (zzy (by decide) (zzy (by decide) (zx5 rfl (zq0 ?_))))
    have hT:T (i+1)=⟨1,s⟩:=by have:=h.tl.hd;rw [(hW _ hs).kd] at this;exact this
    refine zzh (zw4 hT) fun q j hq=> ?_
    obtain ⟨e1,rfl⟩:=hq
    have h2:=h.tl.tl
    refine zzh (rd_fparts hW H (fun u hu=>⟨ha.kid (List.mem_append_left _ hu),hk u hu⟩) h2.left) fun ts j ht2=> ?_
    obtain ⟨rfl,he⟩:=ht2
    have h3:Rd T (i+1+1+((zz3 (qs.map zzr)).length+2)) ((if ty= [] then [] else typT ty)++zzj b):=by
     have:=h2.right
     rw [show (cLB::(zz3 (qs.map zzr)++ [cRB])).length=(zz3 (qs.map zzr)).length+2 by simp] at this
     exact this
    obtain ⟨r,hr⟩:=block_hd hW H hb1 hb
    refine zzh (Ψ:=fun x j=>x=ty∧j=i+1+1+((zz3 (qs.map zzr)).length+2)+(if ty= [] then ([]:List Tx) else typT ty).length) ?_ fun x j hx=> ?_
    ·rcases ht with rfl|ht
     ·have h4:Rd T (i+1+1+((zz3 (qs.map zzr)).length+2)) (zzj b):=h3
      rw [hr] at h4
      exact zz4 h4.hd (zx5 rfl (zz0 ⟨rfl,rfl⟩))
     ·have hne:ty≠ []:=by rcases ht with rfl|rfl|⟨z,rfl,-⟩<;>simp
      rw [if_neg hne] at h3 ⊢
      have h4:=h3.left
      have hnc:(T (i+1+1+((zz3 (qs.map zzr)).length+2))).text≠cLC:=by
       rcases ht with rfl|rfl|⟨z,rfl,hz⟩
       ·rw [ty_int] at h4;rw [h4.hd];decide
       ·rw [ty_bool] at h4;rw [h4.hd];decide
       ·rw [ty_ptr (hW _ hz)] at h4;rw [h4.hd];decide
      exact zkm (zzy hnc (rd_typ hW H ht h4))
    ·obtain ⟨rfl,rfl⟩:=hx
     refine zzh (rd_block hW H hb1 hb h3.right) fun u j hu=> ?_
     obtain ⟨rfl,hu⟩:=hu
     refine zz0 ⟨?_,by rw [e1];exact zqb (el_app he (zzv hu zxe))⟩
     simp only [List.length_cons,List.length_append,List.length_nil];omega
  |name h=>omega
  |set h=>omega
  |binary h=>omega
  |_=>omega
end
theorem first_decl {W:Tx→Prop} {t:Tree} (ha:Al W t) (ho:t.op=2∨t.op=3∨t.op=4):∃ x r,zxu t=x::r∧kd x≠0:=by
 cases t with
 |mk op s ty n p ks=>
  have ho1:op=2∨op=3∨op=4:=ho
  have _:=ha
  rcases ho1 with rfl|rfl|rfl
  ·exact ⟨zwn,_,rfl,by decide⟩
  ·exact ⟨kVar,_,rfl,by decide⟩
  ·exact ⟨zk8,_,rfl,by decide⟩
theorem step_s {W:Tx→Prop} {T:Nat→AT} (hW:∀ s,W s→NW s) (n:Nat) (H:IHS W T (P T n)):IHS W T (P T (n+1)) where
 toIHE:=step_e hW n H.toIHE
 st t d i ha hs h hn:=zks <| zzh (rd_stmt hW H ha hs h hn) fun u j hu=>zz0 ⟨hu.1,u,rfl,hu.2⟩
 br t d i ha ho h hn:=zks <| zzh (rd_branch hW H ha ho h hn) fun u j hu=>zz0 ⟨hu.1,u,rfl,hu.2⟩
 ss ks d i hk h:=by
  cases ks with
  |nil=>
   have h1:Rd T i [cRC]:=h
   exact zks (zz4 h1.hd (zx5 rfl (zq0 (zz0 ⟨rfl,rfl⟩))))
  |cons k ks=>
   have h1:Rd T i (zzj k++((ks.map zzj).flatten++ [cRC])):=by
    have h0:Rd T i ((zzj k++(ks.map zzj).flatten)++ [cRC]):=h
    rw [List.append_assoc] at h0;exact h0
   have hk1:=hk k (List.mem_cons_self ..)
   obtain ⟨x,r,hx,hne1,hne2⟩:=first_s hW hk1.1 hk1.2
   have hT:T i=⟨kd x,x⟩:=by have:=h1.left;rw [hx] at this;exact this.hd
   have h2:=h1.right
   have hnx:(T (i+(zzj k).length)).text≠zjd:=by
    cases ks with
    |nil=>rw [show T (i+(zzj k).length)=_ from Rd.hd (r:= []) h2];decide
    |cons k2 ks2=>
     obtain ⟨x2,r2,hx2,hne3,-⟩:=first_s hW (hk k2 (List.mem_cons_of_mem _ (List.mem_cons_self ..))).1 (hk k2 (List.mem_cons_of_mem _ (List.mem_cons_self ..))).2
     have h3:Rd T (i+(zzj k).length) (zzj k2++((ks2.map zzj).flatten++ [cRC])):=by
      have h0:Rd T (i+(zzj k).length) ((zzj k2++(ks2.map zzj).flatten)++ [cRC]):=h2
      rw [List.append_assoc] at h0;exact h0
     have h4:=h3.left
     rw [hx2] at h4
     rw [h4.hd];exact hne3
   refine zks (zz4 hT (zzy hne2 ?_))
   refine zqc (H.st k d i hk1.1 hk1.2 h1.left hnx) fun xs j hxs=> ?_
   obtain ⟨rfl,u,rfl,hu⟩:=hxs
   refine zqc (H.ss ks d _ (fun u hu=>hk u (List.mem_cons_of_mem _ hu)) h2) fun ts j ⟨hj,he⟩=>zz0 ⟨?_,zzv hu he⟩
   rw [hj]
   show _=i+((zzj k++(ks.map zzj).flatten).length+1)
   rw [List.length_append];omega
 pa ks d i hk h:=by
  cases ks with
  |nil=>
   have h1:Rd T i [cRB]:=h
   exact zks (zz4 h1.hd (zzy (by decide) (zzh (zx3 (by rw [h1.hd])) fun _ j hj=>zz0 ⟨by rw [hj];rfl,rfl⟩)))
  |cons k ks=>
   have h1:Rd T i (zqd::(zzr k++((ks.flatMap fun b=>zqd::zzr b)++ [cRB]))):=by
    have h0:Rd T i ((zqd::zzr k++ks.flatMap fun b=>zqd::zzr b)++ [cRB]):=h
    rw [List.append_assoc] at h0;exact h0
   have hk1:=hk k (List.mem_cons_self ..)
   refine zks (zz4 h1.hd (zx5 rfl (zq0 ?_)))
   refine zzh (rd_typed hW H (.inr rfl) hk1.1 hk1.2 h1.tl.left) fun u j hu=> ?_
   obtain ⟨rfl,hu⟩:=hu
   refine zqc (H.pa ks _ _ (fun u hu=>hk u (List.mem_cons_of_mem _ hu)) h1.tl.right) fun ts j ⟨hj,he⟩=>zz0 ⟨?_,zzv hu he⟩
   rw [hj,List.flatMap_cons,List.length_append,List.length_cons];omega
 pt ks d i hk h:=by
  cases ks with
  |nil=>
   have h1:Rd T i [cRC]:=h
   exact zks (zz4 h1.hd (zx5 rfl (zq0 (zz0 ⟨rfl,rfl⟩))))
  |cons k ks=>
   have h1:Rd T i ((zzr k++ [zzk])++((ks.flatMap fun b=>zzr b++ [zzk])++ [cRC])):=by
    have h0:Rd T i (((zzr k++ [zzk])++ks.flatMap fun b=>zzr b++ [zzk])++ [cRC]):=h
    rw [List.append_assoc] at h0;exact h0
   have hk1:=hk k (List.mem_cons_self ..)
   have hT:(T i).text≠cRC:=by
    have hl:=hk1.1.loc
    have h20:=h1.left.left
    cases k with
    |mk o s ty n p q=>
     have:o=5:=hk1.2
     subst this
     cases hl with
     |var _ hs ht=>
      have h21:Rd T i (s::typT ty):=h20
      rw [h21.hd];exact kd_ne (hW _ hs).kd (by decide)
     |name h=>omega
     |set h=>omega
     |binary h=>omega
   refine zks (zkm (zzy hT ?_))
   refine zzh (rd_named hW H (.inr rfl) hk1.1 hk1.2 h1.left) fun u j hu=> ?_
   obtain ⟨rfl,hu⟩:=hu
   refine zqc (H.pt ks _ _ (fun u hu=>hk u (List.mem_cons_of_mem _ hu)) h1.right) fun ts j ⟨hj,he⟩=>zz0 ⟨?_,zzv hu he⟩
   rw [hj];simp only [List.flatMap_cons,List.length_append];omega
 dl ks d i hk h hn:=by
  cases ks with
  |nil=>exact zks (zkm (zx5 hn (zz0 ⟨rfl,rfl⟩)))
  |cons k ks=>
   rw [List.flatMap_cons] at h hn ⊢
   rw [List.length_append,←Nat.add_assoc] at hn ⊢
   have hk1:=hk k (List.mem_cons_self ..)
   obtain ⟨x,r,hx,hne⟩:=first_decl hk1.1 hk1.2
   have hT:T i=⟨kd x,x⟩:=by have:=h.left;rw [hx] at this;exact this.hd
   refine zks (zz4 hT (zzy hne ?_))
   refine zzh (rd_decl hW H hk1.1 hk1.2 h.left) fun u j hu=> ?_
   obtain ⟨rfl,hu⟩:=hu
   exact zqc (H.dl ks d _ (fun u hu=>hk u (List.mem_cons_of_mem _ hu)) h.right hn) fun ts j ⟨hj,he⟩=>zz0 ⟨hj,zzv hu he⟩
theorem base_s {W:Tx→Prop} {T:Nat→AT} :IHS W T (P T 0):=
 ⟨base_e,fun _ _ _ _ _ _ _ r e=>(by cases e),fun _ _ _ _ _ _ _ r e=>(by cases e),fun _ _ _ _ _ r e=>(by cases e),fun _ _ _ _ _ r e=>(by cases e),fun _ _ _ _ _ r e=>(by cases e),fun _ _ _ _ _ _ r e=>(by cases e)⟩
theorem all_s {W:Tx→Prop} {T:Nat→AT} (hW:∀ s,W s→NW s) (n:Nat):IHS W T (P T n):=by
 induction n with
 |zero=>exact base_s
 |succ n ih=>exact step_s hW n ih
theorem Tf_same {a b:List Tok} (h:same a b):Tf a=Tf b:=by
 funext k
 unfold Tf
 have h1:=congrArg (fun l=>l[k]?) (show a.map (fun t=>(t.kind,t.text))=b.map (fun t=>(t.kind,t.text)) from h)
 simp only [List.getElem?_map] at h1
 cases ha:a[k]? with
 |none=>
  rw [ha] at h1
  cases hb:b[k]? with
  |none=>rfl
  |some y=>rw [hb] at h1;cases h1
 |some x=>
  rw [ha] at h1
  cases hb:b[k]? with
  |none=>rw [hb] at h1;cases h1
  |some y=>
   rw [hb] at h1
   simp only [Option.map_some,Option.some.injEq,Prod.mk.injEq] at h1
   simp only [h1.1,h1.2]
theorem same_len {a b:List Tok} (h:same a b):a.length=b.length:=by
 have:=congrArg List.length (show a.map (fun t=>(t.kind,t.text))=b.map (fun t=>(t.kind,t.text)) from h)
 simpa using this
def GT (x:Tx):Prop:=Tx.Ok x∧x.length≤21
def GA (xs:List Tx):Prop:=∀ x∈xs,GT x
theorem zxj:GA []:=fun x h=>by cases h
theorem zzq {x:Tx} {r:List Tx} (h:GT x) (g:GA r):GA (x::r):=fun y hy=>by
 rcases List.mem_cons.1 hy with rfl|hy
 ·exact h
 ·exact g y hy
theorem zxp {a b:List Tx} (h:GA a) (g:GA b):GA (a++b):=fun y hy=>by
 rcases List.mem_append.1 hy with hy|hy
 ·exact h y hy
 ·exact g y hy
theorem zxi {x:Tx} (h:x∈fixed):GT x:=⟨(fixed_ok h).1,by have:=(fixed_ok h).2;omega⟩
theorem zwd {s:Tx} (h:NW s):GT s:=⟨TokOK.ok h,by have:=h.facts.2.2.1;omega⟩
theorem gt_sign (n:Int) (h1:1≤n) (h2:n≤18):GT (zqj n):=⟨(sign_ok n h1 h2).1,by have:=(sign_ok n h1 h2).2;omega⟩
def GS (xs:List Tx) (m:Nat):Prop:=GA xs∧xs.length+2≤8*m
def GE (t:Tree):Prop:=GS (zzb t) (zxs t)
theorem comma_gs (f:Tree→List Tx):∀ ks:List Tree,(∀ u∈ks,GS (f u) (zxs u))→GA (ks.flatMap fun b=>zqd::f b)∧(ks.flatMap fun b=>zqd::f b).length≤8*zxz ks
 | [],_=>⟨zxj,Nat.zero_le _⟩
 |k::ks,h=>by
  obtain ⟨h1,h2⟩:=comma_gs f ks fun u hu=>h u (List.mem_cons_of_mem _ hu)
  obtain ⟨g1,g2⟩:=h k (List.mem_cons_self ..)
  refine ⟨zxp (zzq (zxi (by decide)) g1) h1,?_⟩
  rw [List.flatMap_cons,List.length_append,List.length_cons,zzi];omega
theorem commaF_gs (f:Tree→List Tx) (ks:List Tree) (h:∀ u∈ks,GS (f u) (zxs u)):GA (zz3 (ks.map f))∧(zz3 (ks.map f)).length≤8*zxz ks:=by
 cases ks with
 |nil=>exact ⟨zxj,Nat.zero_le _⟩
 |cons k ks=>
  obtain ⟨h1,h2⟩:=comma_gs f ks fun u hu=>h u (List.mem_cons_of_mem _ hu)
  obtain ⟨g1,g2⟩:=h k (List.mem_cons_self ..)
  have e:zz3 ((k::ks).map f)=f k++ks.flatMap fun b=>zqd::f b:=by show f k++(ks.map f).flatMap _=_;rw [List.flatMap_map]
  rw [e]
  refine ⟨zxp g1 h1,?_⟩
  rw [List.length_append,zzi];omega
theorem ge_all {W:Tx→Prop} (hW:∀ s,W s→NW s) {t:Tree} (ha:Al W t):isE t→GE t:=by
 induction ha with
 | @mk op s ty n p ks hl hk ih=>
   intro he
   have h1:15≤op:=he.1
   unfold GE GS
   rw [zvz,zxb]
   cases hl with
   |num h0 h1=>exact ⟨zzq ⟨(text_tok n h0 h1).1,(text_tok n h0 h1).2.2⟩ zxj,by show 1+2≤_;omega⟩
   |truth h=>rcases h with rfl|rfl<;>exact ⟨zzq (zxi (by decide)) zxj,by show 1+2≤_;omega⟩
   |none=>exact ⟨zzq (zxi (by decide)) zxj,by show 1+2≤_;omega⟩
   |name ho h=>
    rcases ho with rfl|rfl
    ·exact ⟨zzq (zwd (hW _ h)) zxj,by show 1+2≤_;omega⟩
    ·exact ⟨zzq (zxi (by decide)) (zzq (zxi (by decide)) (zzq (zwd (hW _ h)) (zzq (zxi (by decide)) zxj))),by show 4+2≤_;omega⟩
   | @field _ _ x h hx=>
     obtain ⟨g1,g2⟩:=ih x (List.mem_singleton.2 rfl) hx
     refine ⟨zxp g1 (zzq (zxi (by decide)) (zzq (zwd (hW _ h)) zxj)),?_⟩
     show (zzb x++ [cDot,s]).length+2≤_
     rw [List.length_append,zzi,zzx];show _+2+2≤_;omega
   |call h hu=>
    obtain ⟨g1,g2⟩:=commaF_gs zzb ks fun u hm=>ih u hm (hu u hm)
    refine ⟨(show GA ([s]++([cLB]++zz3 (ks.map zzb)++ [cRB])) from zxp (zzq (zwd (hW _ h)) zxj) (zxp (zxp (zzq (zxi (by decide)) zxj) g1) (zzq (zxi (by decide)) zxj))),?_⟩
    show ([s]++([cLB]++zz3 (ks.map zzb)++ [cRB])).length+2≤_
    simp only [List.length_append,List.length_cons,List.length_nil];omega
   |input=>exact ⟨zzq (zxi (by decide)) (zzq (zxi (by decide)) (zzq (zxi (by decide)) zxj)),by show 3+2≤_;omega⟩
   | @unary _ _ x hn hx=>
     obtain ⟨g1,g2⟩:=ih x (List.mem_singleton.2 rfl) hx
     refine ⟨zxp (zxp (zzq (zxi (by decide)) (zzq (gt_sign n (by omega) (by omega)) zxj)) g1) (zzq (zxi (by decide)) zxj),?_⟩
     show ([cLB,zqj n]++zzb x++ [cRB]).length+2≤_
     simp only [List.length_append,List.length_cons,List.length_nil,zzi,zzx];omega
   | @binary _ _ _ x y ho hx hy=>
     obtain ⟨g1,g2⟩:=ih x (List.mem_cons_self ..) hx
     obtain ⟨f1,f2⟩:=ih y (List.mem_cons_of_mem _ (List.mem_singleton.2 rfl)) hy
     have key:∀ sg,GT sg→GS ([cLB]++zzb x++ [sg]++zzb y++ [cRB]) (zxz [x,y]+1):=fun sg hs=>by
      refine ⟨zxp (zxp (zxp (zxp (zzq (zxi (by decide)) zxj) g1) (zzq hs zxj)) f1) (zzq (zxi (by decide)) zxj),?_⟩
      simp only [List.length_append,List.length_cons,List.length_nil,zzi,zzx];omega
     rcases ho with ⟨rfl,hn1,hn2⟩|⟨rfl|rfl,-⟩
     ·exact key _ (gt_sign n hn1 (by omega))
     ·exact key _ (zxi (by decide))
     ·exact key _ (zxi (by decide))
   |var ho=>omega
   |set ho=>omega
   |_=>omega
theorem gty {W:Tx→Prop} (hW:∀ s,W s→NW s) {ty:Tx} (h:Ty W ty):GA (typT ty)∧(typT ty).length≤2:=by
 rcases h with rfl|rfl|⟨s,rfl,hs⟩
 ·rw [ty_int];exact ⟨zzq (zxi (by decide)) zxj,by decide⟩
 ·rw [ty_bool];exact ⟨zzq (zxi (by decide)) zxj,by decide⟩
 ·rw [ty_ptr (hW _ hs)];exact ⟨zzq (zxi (by decide)) (zzq (zwd (hW _ hs)) zxj),Nat.le_refl _⟩
theorem gtyped {W:Tx→Prop} (hW:∀ s,W s→NW s) {t:Tree} (ha:Al W t) (ho:t.op=3∨t.op=5):GS (zzr t) (zxs t)∧(zzr t).length≤3:=by
 have hl:=ha.loc
 cases t with
 |mk op s ty n p ks=>
  have ho1:op=3∨op=5:=ho
  cases hl with
  |var _ hs ht=>
   obtain ⟨g1,g2⟩:=gty hW ht
   have hlen:(zzr (.mk op s ty 0 p [])).length≤3:=by show ([s]++typT ty).length≤3;rw [List.length_append];show 1+_≤3;omega
   exact ⟨⟨zxp (zzq (zwd (hW _ hs)) zxj) g1,by rw [zxb,zzx];omega⟩,hlen⟩
  |name h=>omega
  |set h=>omega
  |binary h=>omega
  |_=>omega
theorem flat_gs (f:Tree→List Tx):∀ ks:List Tree,(∀ u∈ks,GS (f u) (zxs u))→GA (ks.map f).flatten∧(ks.map f).flatten.length≤8*zxz ks
 | [],_=>⟨zxj,Nat.zero_le _⟩
 |k::ks,h=>by
  obtain ⟨h1,h2⟩:=flat_gs f ks fun u hu=>h u (List.mem_cons_of_mem _ hu)
  obtain ⟨g1,g2⟩:=h k (List.mem_cons_self ..)
  refine ⟨zxp g1 h1,?_⟩
  show (f k++(ks.map f).flatten).length≤_
  rw [List.length_append,zzi];omega
theorem gs_all {W:Tx→Prop} (hW:∀ s,W s→NW s) {t:Tree} (ha:Al W t):(isS t∨t.op=6)→GS (zzj t) (zxs t):=by
 induction ha with
 | @mk op s ty n p ks hl hk ih=>
   intro he
   have h1:7≤op∧op≤14∨op=6:=he
   unfold GS
   rw [zk1,zxb]
   have ge:∀ x∈ks,isE x→GE x:=fun x hx hi=>ge_all hW (hk x hx) hi
   cases hl with
   |block hb=>
    obtain ⟨g1,g2⟩:=flat_gs zzj ks fun u hu=>ih u hu (.inl (hb u hu))
    refine ⟨zxp (zxp (zzq (zxi (by decide)) zxj) g1) (zzq (zxi (by decide)) zxj),?_⟩
    show ([cLC]++(ks.map zzj).flatten++ [cRC]).length+2≤_
    simp only [List.length_append,List.length_cons,List.length_nil];omega
   | @set _ _ _ x ho hs hx=>
     obtain ⟨g1,g2⟩:=ge x (List.mem_singleton.2 rfl) hx
     have key:∀ sg,GT sg→GS ([s,sg]++(zzb x++ [zzk])) (zxz [x]+1):=fun sg h=>by
      refine ⟨zxp (zzq (zwd (hW _ hs)) (zzq h zxj)) (zxp g1 (zzq (zxi (by decide)) zxj)),?_⟩
      simp only [List.length_append,List.length_cons,List.length_nil,zzi,zzx];omega
     rcases ho with rfl|rfl
     ·exact key cDef (zxi (by decide))
     ·exact key cEq (zxi (by decide))
   | @put _ _ x y hs hx hy=>
     obtain ⟨g1,g2⟩:=ge x (List.mem_cons_self ..) hx
     obtain ⟨f1,f2⟩:=ge y (List.mem_cons_of_mem _ (List.mem_singleton.2 rfl)) hy
     refine ⟨zxp (zxp g1 (zzq (zxi (by decide)) (zzq (zwd (hW _ hs)) (zzq (zxi (by decide)) zxj)))) (zxp f1 (zzq (zxi (by decide)) zxj)),?_⟩
     show (zzb x++ [cDot,s,cEq]++(zzb y++ [zzk])).length+2≤_
     simp only [List.length_append,List.length_cons,List.length_nil,zzi,zzx];omega
   | @cond _ x b hx hb=>
     obtain ⟨g1,g2⟩:=ge x (List.mem_cons_self ..) hx
     obtain ⟨f1,f2⟩:=ih b (List.mem_cons_of_mem _ (List.mem_singleton.2 rfl)) (.inr hb)
     refine ⟨zxp (zxp (zxp (zzq (zxi (by decide)) zxj) g1) f1) zxj,?_⟩
     show ([kIf]++zzb x++zzj b++ []).length+2≤_
     simp only [List.length_append,List.length_cons,List.length_nil,zzi,zzx];omega
   | @conde _ x b e hx hb hee=>
     obtain ⟨g1,g2⟩:=ge x (List.mem_cons_self ..) hx
     obtain ⟨f1,f2⟩:=ih b (List.mem_cons_of_mem _ (List.mem_cons_self ..)) (.inr hb)
     obtain ⟨e1,e2⟩:=ih e (List.mem_cons_of_mem _ (List.mem_cons_of_mem _ (List.mem_singleton.2 rfl))) (by rcases hee with h|h;exact .inr h;exact .inl (by unfold isS;omega))
     refine ⟨zxp (zxp (zxp (zzq (zxi (by decide)) zxj) g1) f1) (zxp (zzq (zxi (by decide)) zxj) e1),?_⟩
     show ([kIf]++zzb x++zzj b++([zjd]++zzj e)).length+2≤_
     simp only [List.length_append,List.length_cons,List.length_nil,zzi,zzx];omega
   | @loop _ x b hx hb=>
     obtain ⟨g1,g2⟩:=ge x (List.mem_cons_self ..) hx
     obtain ⟨f1,f2⟩:=ih b (List.mem_cons_of_mem _ (List.mem_singleton.2 rfl)) (.inr hb)
     refine ⟨zxp (zxp (zzq (zxi (by decide)) zxj) g1) f1,?_⟩
     show ([kFor]++zzb x++zzj b).length+2≤_
     simp only [List.length_append,List.length_cons,List.length_nil,zzi,zzx];omega
   | @print _ x hx=>
     obtain ⟨g1,g2⟩:=ge x (List.mem_singleton.2 rfl) hx
     refine ⟨zxp (zxp (zzq (zxi (by decide)) zxj) (zxp (zxp (zzq (zxi (by decide)) zxj) g1) (zzq (zxi (by decide)) zxj))) (zzq (zxi (by decide)) zxj),?_⟩
     show ([zjc]++([cLB]++zzb x++ [cRB])++ [zzk]).length+2≤_
     simp only [List.length_append,List.length_cons,List.length_nil,zzi,zzx];omega
   |back0=>exact ⟨zzq (zxi (by decide)) (zzq (zxi (by decide)) zxj),by show 2+2≤_;omega⟩
   | @back1 _ x hx=>
     obtain ⟨g1,g2⟩:=ge x (List.mem_singleton.2 rfl) hx
     refine ⟨zxp (zzq (zxi (by decide)) zxj) (zxp g1 (zzq (zxi (by decide)) zxj)),?_⟩
     show ([zqa]++(zzb x++ [zzk])).length+2≤_
     simp only [List.length_append,List.length_cons,List.length_nil,zzi,zzx];omega
   | @act _ x hx=>
     obtain ⟨g1,g2⟩:=ge x (List.mem_singleton.2 rfl) (by unfold isE;omega)
     refine ⟨zxp g1 (zzq (zxi (by decide)) zxj),?_⟩
     show (zzb x++ [zzk]).length+2≤_
     simp only [List.length_append,List.length_cons,List.length_nil,zzi,zzx];omega
   |var ho=>omega
   |name ho=>omega
   |binary ho=>omega
   |_=>omega
theorem parts_gs {W:Tx→Prop} (hW:∀ s,W s→NW s):∀ ks:List Tree,(∀ u∈ks,Al W u∧u.op=5)→GA (ks.flatMap fun b=>zzr b++ [zzk])∧(ks.flatMap fun b=>zzr b++ [zzk]).length≤8*zxz ks
 | [],_=>⟨zxj,Nat.zero_le _⟩
 |k::ks,h=>by
  obtain ⟨h1,h2⟩:=parts_gs hW ks fun u hu=>h u (List.mem_cons_of_mem _ hu)
  obtain ⟨⟨g1,g2⟩,g3⟩:=gtyped hW (h k (List.mem_cons_self ..)).1 (.inr (h k (List.mem_cons_self ..)).2)
  refine ⟨zxp (zxp g1 (zzq (zxi (by decide)) zxj)) h1,?_⟩
  have:=z0j k
  simp only [List.flatMap_cons,List.length_append,List.length_cons,List.length_nil,zzi];omega
theorem gd_all {W:Tx→Prop} (hW:∀ s,W s→NW s) {t:Tree} (ha:Al W t) (ho:t.op=2∨t.op=3∨t.op=4):GS (zxu t) (zxs t):=by
 have hl:=ha.loc
 cases t with
 |mk op s ty n p ks=>
  have ho1:op=2∨op=3∨op=4:=ho
  unfold GS
  cases hl with
  |struct hs hk=>
   obtain ⟨g1,g2⟩:=parts_gs hW ks fun u hu=>⟨ha.kid hu,hk u hu⟩
   refine ⟨zxp (zxp (zzq (zxi (by decide)) (zzq (zwd (hW _ hs)) (zzq (zxi (by decide)) (zzq (zxi (by decide)) zxj)))) g1) (zzq (zxi (by decide)) zxj),?_⟩
   show ([zwn,s,zkh,cLC]++(ks.flatMap fun k=>zzr k++ [zzk])++ [cRC]).length+2≤_
   rw [zxb]
   simp only [List.length_append,List.length_cons,List.length_nil];omega
  | @var _ _ _ _ ho2 hs ht=>
    have h3:op=3:=by omega
    subst h3
    obtain ⟨⟨g1,g2⟩,g3⟩:=gtyped hW ha (.inl rfl)
    refine ⟨zxp (zxp (zzq (zxi (by decide)) zxj) g1) (zzq (zxi (by decide)) zxj),?_⟩
    show ([kVar]++zzr (.mk 3 s ty 0 p [])++ [zzk]).length+2≤_
    rw [zxb,zzx]
    simp only [List.length_append,List.length_cons,List.length_nil];omega
  | @func _ _ _ qs b hs ht hk hb=>
    have hb1:=ha.kid (u:=b) (List.mem_append_right _ (List.mem_singleton.2 rfl))
    obtain ⟨g1,g2⟩:=commaF_gs zzr qs fun u hu=>(gtyped hW (ha.kid (List.mem_append_left _ hu)) (.inr (hk u hu))).1
    obtain ⟨f1,f2⟩:=gs_all hW hb1 (.inr hb)
    have e1:(qs++ [b]).take ((qs++ [b]).length - 1)=qs:=by simp
    have e2:((qs++ [b]).map zzj).getD ((qs++ [b]).length - 1) []=zzj b:=by simp [List.getD_eq_getElem?_getD]
    have ht1:GA (if ty= [] then ([]:List Tx) else typT ty)∧(if ty= [] then ([]:List Tx) else typT ty).length≤2:=by
     split
     ·exact ⟨zxj,Nat.zero_le _⟩
     ·exact gty hW (by rcases ht with h|h;exact absurd h ‹_›;exact h)
    have heq:zxu (.mk 4 s ty 0 p (qs++ [b]))= [zk8,s]++([cLB]++zz3 (qs.map zzr)++ [cRB])++(if ty= [] then [] else typT ty)++zzj b:=by
     show [zk8,s]++([cLB]++zz3 (((qs++ [b]).take ((qs++ [b]).length - 1)).map zzr)++ [cRB])++(if ty= [] then [] else typT ty)++(((qs++ [b]).map zzj).getD ((qs++ [b]).length - 1) [])=_
     rw [e1,e2]
    rw [heq]
    refine ⟨zxp (zxp (zxp (zzq (zxi (by decide)) (zzq (zwd (hW _ hs)) zxj)) (zxp (zxp (zzq (zxi (by decide)) zxj) g1) (zzq (zxi (by decide)) zxj))) ht1.1) f1,?_⟩
    rw [zxb,zvy]
    have:=ht1.2
    simp only [List.length_append,List.length_cons,List.length_nil,zzi,zzx];omega
  |name h=>omega
  |set h=>omega
  |binary h=>omega
  |_=>omega
theorem show_er (N:Nat):∀ t,zxs t≤N→zzb (er t)=zzb t∧zzj (er t)=zzj t:=by
 induction N with
 |zero=>intro t h;have:=z0j t;omega
 |succ N ih=>
  intro t h
  cases t with
  |mk o s ty n p ks=>
   rw [zxb] at h
   have hk:∀ u∈ks,zxs u≤N:=fun u hu=>by
    obtain ⟨k,hk⟩:=List.mem_iff_getElem?.1 hu
    have:=zk0 (t:= .mk o s ty n p ks) (k:=k) hk
    rw [zxb] at this;omega
   have e1:(ks.map er).map zzb=ks.map zzb:=by rw [List.map_map];exact List.map_congr_left fun u hu=>(ih u (hk u hu)).1
   have e2:(ks.map er).map zzj=ks.map zzj:=by rw [List.map_map];exact List.map_congr_left fun u hu=>(ih u (hk u hu)).2
   have e3:zzb (er (.mk o s ty n p ks))=zzb (.mk o s ty n p ks):=by rw [er_mk,zvz,zvz,e1]
   refine ⟨e3,?_⟩
   rw [er_mk] at e3 ⊢
   rw [zk1,zk1,e1,e2,e3]
theorem decl_er (t:Tree):zxu (er t)=zxu t:=by
 cases t with
 |mk o s ty n p ks=>
  have e2:(ks.map er).map zzj=ks.map zzj:=by rw [List.map_map];exact List.map_congr_left fun u _=>(show_er _ u (Nat.le_refl _)).2
  have e4:∀ u,zzr (er u)=zzr u:=fun u=>by cases u;rw [er_mk];rfl
  have e5:=(show_er _ (.mk o s ty n p ks) (Nat.le_refl _)).2
  rw [er_mk] at e5 ⊢
  unfold zxu
  simp only [Tree.op,Tree.name,Tree.typ,Tree.kids,e2,e5,List.length_map]
  have e6:((ks.map er).flatMap fun k=>zzr k++ [zzk])=ks.flatMap fun k=>zzr k++ [zzk]:=by
   rw [List.flatMap_map];exact congrArg (fun f=>ks.flatMap f) (funext fun u=>by rw [e4])
  have e7:((ks.map er).take (ks.length - 1)).map zzr=(ks.take (ks.length - 1)).map zzr:=by
   rw [←List.map_take,List.map_map];exact List.map_congr_left fun u _=>e4 u
  have e8:∀ q:List Tree,zzr (.mk o s ty n 0 q)=zzr (.mk o s ty n p ks):=fun q=>rfl
  rw [e6,e7,e8]
  rfl
theorem showP_el {a b:List Tree} (h:EL a b):a.flatMap zxu=b.flatMap zxu:=by
 have e:∀ l:List Tree,l.flatMap zxu=(l.map er).flatMap zxu:=fun l=>by
  rw [List.flatMap_map];exact congrArg (fun f=>l.flatMap f) (funext fun u=>(decl_er u).symm)
 rw [e a,e b,show a.map er=b.map er from h]
theorem truth_any (w:World) (sb:Nat) (v:Value) (xs:List Tx) (pl:Nat→Nat) (b:Nat) (t:Tree) (h:SH w sb v xs) (hn:NodeAt (fun x=>x<sb) pl w b t) (hl:xs.length+([z0b t.n]).length≤1000000):
 Calls Tryz.prog 140 #[.pointer (some ⟨sb,0,none⟩),.agg #[.pointer (some ⟨b,0,none⟩)]] w (SQ sb v w (xs++ [z0b t.n])):=by
 have H:=hid h
 have hlt:=h.lt
 have HBA:=hid (b1 w (.cells #[.pointer (some ⟨b,0,none⟩)] 25))
 have S0:=hid (SST.refl (h.below (b1 w (.cells #[.pointer (some ⟨b,0,none⟩)] 25))))
 have U:=hid (PtrAt.new w (some ⟨b,0,none⟩))
 have N:=hid (hn.bl (b1 w (.cells #[.pointer (some ⟨b,0,none⟩)] 25)))
 have l0:=U.out.lt
 clear h hn
 have hfo:=zx1
 have hfn:=zzw
 clear hfo hfn
 go_enter Tryz.func140,Tryz.ntmps140
 have U0:=U.out.c0
 go_wp2_with fail
 clear U0
 generalize w.alloc (.cells #[.pointer (some ⟨b,0,none⟩)] 25)=wa at*
 obtain ⟨Ao,co,hro⟩:=N.out.rowOf
 refine (n_of _ _ _ _ _ _ _ _ _ _ hro).mono ?_
 rintro e w1 ⟨rfl,hb⟩
 clear hro
 have U1:=hid (U.out.below hb)
 have N1:=hid (N.out.bl hb)
 have S1:=hid (S0.out.below hb)
 have z1:=hb.size
 clear U N
 have U:=U1
 have N:=N1
 clear U1 N1
 clear hb
 by_cases h0:t.n=0
 ·skip
  have hb0:(t.n==0)=true:=by rw [h0];rfl
  have H0:=hid h0
  clear h0
  have C2:=hid (show ∀ (j:Nat) (y:Tx),([z1s]:List Tx)[j]? =some y→(w1.alloc (.cells #[.string ⟨#[102,97,108,115,101]⟩] 9)).cell? ⟨w1.heap.size,j,none⟩=some (.string ⟨y.toArray⟩) from zzl w1 [z1s])
  have U2:=hid (U.out.below (b1 w1 (.cells #[.string ⟨#[102,97,108,115,101]⟩] 9)))
  have N2:=hid (N.out.bl (b1 w1 (.cells #[.string ⟨#[102,97,108,115,101]⟩] 9)))
  have S2:=hid (S1.out.below (b1 w1 (.cells #[.string ⟨#[102,97,108,115,101]⟩] 9)))
  have z2:=(b1 w1 (.cells #[.string ⟨#[102,97,108,115,101]⟩] 9)).size
  clear U N
  have U:=U2
  have N:=N2
  clear U2 N2
  have U0:=U.out.c0
  go_wp2_with fail
  clear U0
  generalize w1.alloc (.cells #[.string ⟨#[102,97,108,115,101]⟩] 9)=wb2 at*
  refine (zz8 _ sb _ _ w1.heap.size 1 [z1s] S2.out.sh (hid rfl) C2 (by omega) (by first|omega|(simp only [List.length_append,List.length_cons,List.length_nil];omega)|(simp only [List.length_append,List.length_cons,List.length_nil] at hl ⊢;omega))).mono ?_
  rintro e w3 ⟨v3,rfl,hs⟩
  clear C2
  have U3:=hid (U.out.sg hs.sg (by omega) (zxd S2.out H.out l0))
  have N3:=hid (N.out.low (hs.sg.low S2.out.sh))
  have S3:=hid (S2.out.trans hs)
  have z3:=hs.sg.size
  clear U N hs
  have U:=U3
  have N:=N3
  clear U3 N3
  go_wp2_with fail
  first|refine bodyPost_end (v:= .tuple #[]) (by simp [results,Tryz.results140,go_sem]) rfl ?_ |refine bodyPost_ret (v:= .tuple #[]) (by simp [results,Tryz.results140,go_sem]) rfl ?_
  have hfin:=((SST.refl H.out).below HBA.out).trans S3.out
  have hx:xs++ [z0b t.n]=(xs++ [z1s]):=by unfold z0b;rw [if_pos H0.out]
  exact ⟨_,rfl,by rw [hx];exact hfin⟩
 ·skip
  have hb0:(t.n==0)=false:=by simpa using h0
  have H0:=hid h0
  clear h0
  have C2:=hid (show ∀ (j:Nat) (y:Tx),([kTrue]:List Tx)[j]? =some y→(w1.alloc (.cells #[.string ⟨#[116,114,117,101]⟩] 9)).cell? ⟨w1.heap.size,j,none⟩=some (.string ⟨y.toArray⟩) from zzl w1 [kTrue])
  have U2:=hid (U.out.below (b1 w1 (.cells #[.string ⟨#[116,114,117,101]⟩] 9)))
  have N2:=hid (N.out.bl (b1 w1 (.cells #[.string ⟨#[116,114,117,101]⟩] 9)))
  have S2:=hid (S1.out.below (b1 w1 (.cells #[.string ⟨#[116,114,117,101]⟩] 9)))
  have z2:=(b1 w1 (.cells #[.string ⟨#[116,114,117,101]⟩] 9)).size
  clear U N
  have U:=U2
  have N:=N2
  clear U2 N2
  have U0:=U.out.c0
  go_wp2_with fail
  clear U0
  generalize w1.alloc (.cells #[.string ⟨#[116,114,117,101]⟩] 9)=wb2 at*
  refine (zz8 _ sb _ _ w1.heap.size 1 [kTrue] S2.out.sh (hid rfl) C2 (by omega) (by first|omega|(simp only [List.length_append,List.length_cons,List.length_nil];omega)|(simp only [List.length_append,List.length_cons,List.length_nil] at hl ⊢;omega))).mono ?_
  rintro e w3 ⟨v3,rfl,hs⟩
  clear C2
  have U3:=hid (U.out.sg hs.sg (by omega) (zxd S2.out H.out l0))
  have N3:=hid (N.out.low (hs.sg.low S2.out.sh))
  have S3:=hid (S2.out.trans hs)
  have z3:=hs.sg.size
  clear U N hs
  have U:=U3
  have N:=N3
  clear U3 N3
  go_wp2_with fail
  first|refine bodyPost_end (v:= .tuple #[]) (by simp [results,Tryz.results140,go_sem]) rfl ?_ |refine bodyPost_ret (v:= .tuple #[]) (by simp [results,Tryz.results140,go_sem]) rfl ?_
  have hfin:=((SST.refl H.out).below HBA.out).trans S3.out
  have hx:xs++ [z0b t.n]=(xs++ [kTrue]):=by unfold z0b;rw [if_neg H0.out]
  exact ⟨_,rfl,by rw [hx];exact hfin⟩
theorem z1p (w:World) (sb:Nat) (v:Value) (xs:List Tx) (ty:Tx) (h:SH w sb v xs) (hl:xs.length+2≤1000000):
 Calls Tryz.prog 99 #[.pointer (some ⟨sb,0,none⟩),.string ⟨ty.toArray⟩] w (SQ sb v w (xs++typT ty)):=by
 have H:=hid h
 obtain ⟨r,hr⟩:∃ r,zwg ⟨ty.toArray⟩=r:=⟨_,rfl⟩
 have HE:=hid (elem_any ⟨ty.toArray⟩ r w (hid h.good.keys) (hid hr))
 have HR:=hid hr
 clear h hr
 go_enter Tryz.func99,Tryz.ntmps99
 go_wp2_with fail
 refine HE.out.mono ?_
 rintro e w' ⟨rfl,rfl⟩
 clear HE
 cases r with
 |none=>
  unfold elemV
  have HT:Hid (typT ty= [ty]):=by show _=_;unfold typT;rw [HR.out]
  have C:=hid (show ∀ (j:Nat) (y:Tx),([ty]:List Tx)[j]? =some y→(w.alloc (.cells #[.string ⟨ty.toArray⟩] 9)).cell? ⟨w.heap.size,j,none⟩=some (.string ⟨y.toArray⟩) from zzl w [ty])
  have S1:=hid ((SST.refl H.out).below (b1 w (.cells #[.string ⟨ty.toArray⟩] 9)))
  go_wp2_with fail
  generalize w.alloc (.cells #[.string ⟨ty.toArray⟩] 9)=w1 at*
  refine (zz8 _ sb _ _ w.heap.size 1 [ty] S1.out.sh (hid rfl) C (by omega) (by omega)).mono ?_
  rintro e w2 ⟨v2,rfl,hs⟩
  have S2:=hid (S1.out.trans hs)
  clear hs C
  go_wp2_with fail
  refine bodyPost_end (v:= .tuple #[]) (by simp [results,Tryz.results99,go_sem]) rfl ?_
  exact ⟨_,rfl,by rw [HT.out];exact S2.out⟩
 |some nm=>
  unfold elemV
  have HT:Hid (typT ty= [[42],nm.data.toList]):=by show _=_;unfold typT;rw [HR.out]
  have C:=hid (show ∀ (j:Nat) (y:Tx),([[42],nm.data.toList]:List Tx)[j]? =some y→(w.alloc (.cells #[.string ⟨#[42]⟩,.string nm] 9)).cell? ⟨w.heap.size,j,none⟩=some (.string ⟨y.toArray⟩) from zzl w [[42],nm.data.toList])
  have S1:=hid ((SST.refl H.out).below (b1 w (.cells #[.string ⟨#[42]⟩,.string nm] 9)))
  go_wp2_with fail
  generalize w.alloc (.cells #[.string ⟨#[42]⟩,.string nm] 9)=w1 at*
  refine (zz8 _ sb _ _ w.heap.size 2 [[42],nm.data.toList] S1.out.sh (hid rfl) C (by omega) (by omega)).mono ?_
  rintro e w2 ⟨v2,rfl,hs⟩
  have S2:=hid (S1.out.trans hs)
  clear hs C
  go_wp2_with fail
  refine bodyPost_ret (v:= .tuple #[]) (by simp [results,Tryz.results99,go_sem]) rfl ?_
  exact ⟨_,rfl,by rw [HT.out];exact S2.out⟩
theorem z09 (w:World) (sb:Nat) (v:Value) (xs:List Tx) (pl:Nat→Nat) (b:Nat) (t:Tree) (h:SH w sb v xs) (hn:NodeAt (fun x=>x<sb) pl w b t) (hl:xs.length+3≤1000000):
 Calls Tryz.prog 71 #[.pointer (some ⟨sb,0,none⟩),.agg #[.pointer (some ⟨b,0,none⟩)]] w (SQ sb v w (xs++zzr t)):=by
 have H:=hid h
 have hlt:=h.lt
 have HBA:=hid (b1 w (.cells #[.pointer (some ⟨b,0,none⟩)] 25))
 have S0:=hid (SST.refl (h.below (b1 w (.cells #[.pointer (some ⟨b,0,none⟩)] 25))))
 have U:=hid (PtrAt.new w (some ⟨b,0,none⟩))
 have N:=hid (hn.bl (b1 w (.cells #[.pointer (some ⟨b,0,none⟩)] 25)))
 have l0:=U.out.lt
 clear h hn
 have hfo:=zx1
 have hfn:=zzw
 clear hfo hfn
 go_enter Tryz.func71,Tryz.ntmps71
 have U0:=U.out.c0
 go_wp2_with fail
 clear U0
 generalize w.alloc (.cells #[.pointer (some ⟨b,0,none⟩)] 25)=wa at*
 obtain ⟨Ao,co,hro⟩:=N.out.rowOf
 refine (zjr _ _ _ _ _ _ _ _ _ _ hro).mono ?_
 rintro e w1 ⟨rfl,hb⟩
 clear hro
 have U1:=hid (U.out.below hb)
 have N1:=hid (N.out.bl hb)
 have S1:=hid (S0.out.below hb)
 have z1:=hb.size
 clear U N
 have U:=U1
 have N:=N1
 clear U1 N1
 clear hb
 have C2:=hid (show ∀ (j:Nat) (y:Tx),([t.name]:List Tx)[j]? =some y→(w1.alloc (.cells #[.string ⟨t.name.toArray⟩] 9)).cell? ⟨w1.heap.size,j,none⟩=some (.string ⟨y.toArray⟩) from zzl w1 [t.name])
 have U2:=hid (U.out.below (b1 w1 (.cells #[.string ⟨t.name.toArray⟩] 9)))
 have N2:=hid (N.out.bl (b1 w1 (.cells #[.string ⟨t.name.toArray⟩] 9)))
 have S2:=hid (S1.out.below (b1 w1 (.cells #[.string ⟨t.name.toArray⟩] 9)))
 have z2:=(b1 w1 (.cells #[.string ⟨t.name.toArray⟩] 9)).size
 clear U N
 have U:=U2
 have N:=N2
 clear U2 N2
 have U0:=U.out.c0
 go_wp2_with fail
 clear U0
 generalize w1.alloc (.cells #[.string ⟨t.name.toArray⟩] 9)=wb2 at*
 refine (zz8 _ sb _ _ w1.heap.size 1 [t.name] S2.out.sh (hid rfl) C2 (by omega) (by first|omega|(simp only [List.length_append,List.length_cons,List.length_nil];omega)|(simp only [List.length_append,List.length_cons,List.length_nil] at hl ⊢;omega))).mono ?_
 rintro e w3 ⟨v3,rfl,hs⟩
 clear C2
 have U3:=hid (U.out.sg hs.sg (by omega) (zxd S2.out H.out l0))
 have N3:=hid (N.out.low (hs.sg.low S2.out.sh))
 have S3:=hid (S2.out.trans hs)
 have z3:=hs.sg.size
 clear U N hs
 have U:=U3
 have N:=N3
 clear U3 N3
 have U0:=U.out.c0
 go_wp2_with fail
 clear U0
 obtain ⟨Ao,co,hro⟩:=N.out.rowOf
 refine (typ_of _ _ _ _ _ _ _ _ _ _ hro).mono ?_
 rintro e w4 ⟨rfl,hb⟩
 clear hro
 have U4:=hid (U.out.below hb)
 have N4:=hid (N.out.bl hb)
 have S4:=hid (S3.out.below hb)
 have z4:=hb.size
 clear U N
 have U:=U4
 have N:=N4
 clear U4 N4
 clear hb
 have U0:=U.out.c0
 go_wp2_with fail
 clear U0
 refine (z1p _ sb _ _ t.typ S4.out.sh (by simp only [List.length_append,List.length_cons,List.length_nil];omega)).mono ?_
 rintro e w5 ⟨v5,rfl,hs⟩
 have U5:=hid (U.out.sg hs.sg (by omega) (zxd S4.out H.out l0))
 have N5:=hid (N.out.low (hs.sg.low S4.out.sh))
 have S5:=hid (S4.out.trans hs)
 have z5:=hs.sg.size
 clear U N hs
 have U:=U5
 have N:=N5
 clear U5 N5
 go_wp2_with fail
 first|refine bodyPost_end (v:= .tuple #[]) (by simp [results,Tryz.results71,go_sem]) rfl ?_ |refine bodyPost_ret (v:= .tuple #[]) (by simp [results,Tryz.results71,go_sem]) rfl ?_
 have hfin:=((SST.refl H.out).below HBA.out).trans S5.out
 have hx:xs++zzr t=((xs++ [t.name])++typT t.typ):=by simp [zzr]
 exact ⟨_,rfl,by rw [hx];exact hfin⟩
theorem SST.cast {sb:Nat} {v v':Value} {w w':World} {xs ys:List Tx} (h:SST sb v w v' w' xs) (e:xs=ys):SST sb v w v' w' ys:=e▸h
def Shows (F:FuncId) (sb:Nat) (pl:Nat→Nat) (t:Tree) (m:Nat) (items:List (List Tx)):Prop:=
 ∀ (k:Nat) (u:Tree) (ys:List Tx),k<m→t.kids[k]? =some u→items[k]? =some ys→∀ (w':World) (v':Value) (xs':List Tx) (nb:Nat),SH w' sb v' xs'→NodeAt (fun x=>x<sb) pl w' nb u→xs'.length+ys.length+1≤1000000→Calls Tryz.prog F #[.pointer (some ⟨sb,0,none⟩),.agg #[.pointer (some ⟨nb,0,none⟩)]] w' (SQ sb v' w' (xs'++ys))
def BrRel (sb:Nat) (v:Value) (w wa:World) (xs:List Tx) (pl:Nat→Nat) (b:Nat) (t:Tree) (m:Nat) (items:List (List Tx)) (i:Value) (wr:World):Prop:=
 ∃ (k:Nat) (vr:Value),k≤m∧i= .int .i64 k∧Hid (SST sb v wa vr wr (xs++ [cLB]++zz3 (items.take k)))∧Hid (PtrAt wr w.heap.size (some ⟨b,0,none⟩))∧Hid (NodeAt (fun x=>x<sb) pl wr b t)
theorem comma_take (items:List (List Tx)) (k:Nat) (ys:List Tx) (h:items[k]? =some ys):zz3 (items.take (k+1))=zz3 (items.take k)++(if k=0 then ys else zqd::ys):=by
 have hk:=(List.getElem?_eq_some_iff.1 h).1
 rw [List.take_succ_eq_append_getElem hk,commaF_snoc,(List.getElem?_eq_some_iff.1 h).2]
 cases k with
 |zero=>simp
 |succ k=>rw [if_neg (by cases items with|nil=>simp at hk|cons=>simp),if_neg (by omega)]
theorem zvq (items:List (List Tx)):(zz3 items).length=items.flatten.length+(items.length - 1):=by
 have h:∀ l:List (List Tx),(l.flatMap fun b=>zqd::b).length=l.flatten.length+l.length:=by
  intro l
  induction l with
  |nil=>simp
  |cons a r ih=>simp only [List.flatMap_cons,List.flatten_cons,List.length_append,List.length_cons];omega
 cases items with
 |nil=>simp [zz3]
 |cons a r=>have:=h r;simp only [zz3,List.flatten_cons,List.length_append,List.length_cons];omega
theorem z0y (items:List (List Tx)) (k:Nat) (ys:List Tx) (h:items[k]? =some ys):(items.take k).flatten.length+ys.length≤items.flatten.length:=by
 have hk:=(List.getElem?_eq_some_iff.1 h).1
 have e:=List.take_append_drop k items
 rw [List.drop_eq_getElem_cons hk,(List.getElem?_eq_some_iff.1 h).2] at e
 have:=congrArg (fun l=>l.flatten.length) e
 simp only [List.flatten_append,List.flatten_cons,List.length_append] at this
 omega
theorem z0d (w:World) (sb:Nat) (v:Value) (xs:List Tx) (pl:Nat→Nat) (b:Nat) (t:Tree) (m:Nat) (items:List (List Tx)) (h:SH w sb v xs) (hn:NodeAt (fun x=>x<sb) pl w b t) (hm:Hid (items.length=m)) (hmk:m≤t.kids.length) (hF:Hid (Shows 71 sb pl t m items)) (hl:xs.length+(items.flatten.length+(m - 1)+3)≤1000000):
 Calls Tryz.prog 100 #[.pointer (some ⟨sb,0,none⟩),.agg #[.pointer (some ⟨b,0,none⟩)],.int .i64 m,.func (.func 71) #[.pointer (some ⟨sb,0,none⟩)] #[]] w (SQ sb v w (xs++([cLB]++zz3 items++ [cRB]))):=by
 have HMK:=hid hmk
 have HCL:=hid (zvq items)
 clear hmk
 have H:=hid h
 have hlt:=h.lt
 have HBA:=hid (b1 w (.cells #[.pointer (some ⟨b,0,none⟩)] 25))
 have S0:=hid (SST.refl (h.below (b1 w (.cells #[.pointer (some ⟨b,0,none⟩)] 25))))
 have U:=hid (PtrAt.new w (some ⟨b,0,none⟩))
 have N:=hid (hn.bl (b1 w (.cells #[.pointer (some ⟨b,0,none⟩)] 25)))
 have l0:=U.out.lt
 clear h hn
 have hfo:=zx1
 have hfn:=zzw
 clear hfo hfn
 go_enter Tryz.func100,Tryz.ntmps100
 have U0:=U.out.c0
 have C1:=hid (show ∀ (j:Nat) (y:Tx),([cLB]:List Tx)[j]? =some y→((w.alloc (.cells #[.pointer (some ⟨b,0,none⟩)] 25)).alloc (.cells #[.string ⟨#[40]⟩] 9)).cell? ⟨(w.alloc (.cells #[.pointer (some ⟨b,0,none⟩)] 25)).heap.size,j,none⟩=some (.string ⟨y.toArray⟩) from zzl (w.alloc (.cells #[.pointer (some ⟨b,0,none⟩)] 25)) [cLB])
 rw [show (w.alloc (.cells #[.pointer (some ⟨b,0,none⟩)] 25)).heap.size=w.heap.size+1 by simp] at C1
 have U1:=hid (U.out.below (b1 _ (.cells #[.string ⟨#[40]⟩] 9)))
 have N1:=hid (N.out.bl (b1 _ (.cells #[.string ⟨#[40]⟩] 9)))
 have S1:=hid (S0.out.below (b1 _ (.cells #[.string ⟨#[40]⟩] 9)))
 go_wp2_with fail
 clear U0
 generalize (w.alloc (.cells #[.pointer (some ⟨b,0,none⟩)] 25)).alloc (.cells #[.string ⟨#[40]⟩] 9)=wb at*
 generalize w.alloc (.cells #[.pointer (some ⟨b,0,none⟩)] 25)=wa at*
 clear U N
 have U:=U1
 have N:=N1
 clear U1 N1
 refine (zz8 _ sb _ _ (w.heap.size+1) 1 [cLB] S1.out.sh (hid rfl) C1 (by omega) (by omega)).mono ?_
 rintro e w2 ⟨v2,rfl,hs⟩
 clear C1
 have U2:=hid (U.out.sg hs.sg (by omega) (zxd S1.out H.out l0))
 have N2:=hid (N.out.low (hs.sg.low S1.out.sh))
 have S2:=hid (S1.out.trans hs)
 have z2:=hs.sg.size
 clear U N hs
 have U:=U2
 have N:=N2
 clear U2 N2
 go_wp2_with fail
 go_loopw [13] (fun i wr=>BrRel sb v w wa xs pl b t m items i wr) (fun i _=>m - (intOf i).toNat)
 case atStart=>exact ⟨0,v2,Nat.zero_le _,rfl,by show SST _ _ _ _ _ _;simpa [zz3] using S2.out,U,N⟩
 case round=>
  obtain ⟨k,vr,hk,rfl,S,U,N⟩:=hrel
  by_cases hlt:k<m
  ·skip
   obtain ⟨u,hu⟩:∃ u,t.kids[k]? =some u:=⟨_,List.getElem?_eq_getElem (by have:=HMK.out;omega)⟩
   obtain ⟨ys,hy⟩:∃ ys,items[k]? =some ys:=⟨_,List.getElem?_eq_getElem (by rw [hm.out];exact hlt)⟩
   have HU:=hid hu
   have HY:=hid hy
   have HCT:=hid (comma_take items k ys hy)
   have hfl:=z0y items k ys hy
   have hcl:=zvq (items.take k)
   have htk:(items.take k).length=k:=by rw [List.length_take,hm.out];omega
   rw [htk] at hcl
   have HTK:=hid htk
   clear hu hy htk
   have hki:(k:Int)<(m:Int):=by omega
   by_cases h0:k=0
   ·skip
    have hk0:¬ (0:Int)<(k:Int):=by omega
    have H0:=hid h0
    clear h0
    have U0:=U.out.c0
    go_wp2_with fail
    clear U0
    obtain ⟨nm,hm,hc⟩:=zkd N.out k u HU.out
    refine hc.mono ?_
    rintro e w3 ⟨rfl,hb⟩
    have M:=hid (hm.bl hb)
    have U3:=hid (U.out.below hb)
    have N3:=hid (N.out.bl hb)
    have S3:=hid (S.out.below hb)
    have z3:=hb.size
    clear U N
    have U:=U3
    have N:=N3
    clear U3 N3
    clear hb hc hm
    go_wp2_with fail
    refine (hF.out k u ys hlt HU.out HY.out _ _ _ nm S3.out.sh M.out (by simp only [List.length_append,List.length_cons,List.length_nil];omega)).mono ?_
    rintro e w4 ⟨v4,rfl,hs⟩
    have U4:=hid (U.out.sg hs.sg (by omega) (zxd S3.out H.out l0))
    have N4:=hid (N.out.low (hs.sg.low S3.out.sh))
    have S4:=hid (S3.out.trans hs)
    have z4:=hs.sg.size
    clear U N hs
    have U:=U4
    have N:=N4
    clear U4 N4
    clear M
    go_wp2_with fail
    go_roundw
    case rel=>exact ⟨k+1,_,by omega,by go_num,by show SST _ _ _ _ _ _;have h9:=S4.out;rw [HCT.out,if_pos H0.out];simpa [List.append_assoc] using h9,U,N⟩
    case measure=>simp [intOf];omega
   ·skip
    have hk0:(0:Int)<(k:Int):=by omega
    have H0:=hid h0
    clear h0
    have C3:=hid (show ∀ (j:Nat) (y:Tx),([zqd]:List Tx)[j]? =some y→(wr.alloc (.cells #[.string ⟨#[44]⟩] 9)).cell? ⟨wr.heap.size,j,none⟩=some (.string ⟨y.toArray⟩) from zzl wr [zqd])
    have U3:=hid (U.out.below (b1 wr (.cells #[.string ⟨#[44]⟩] 9)))
    have N3:=hid (N.out.bl (b1 wr (.cells #[.string ⟨#[44]⟩] 9)))
    have S3:=hid (S.out.below (b1 wr (.cells #[.string ⟨#[44]⟩] 9)))
    have z3:=(b1 wr (.cells #[.string ⟨#[44]⟩] 9)).size
    clear U N
    have U:=U3
    have N:=N3
    clear U3 N3
    have U0:=U.out.c0
    go_wp2_with fail
    clear U0
    generalize wr.alloc (.cells #[.string ⟨#[44]⟩] 9)=wb3 at*
    refine (zz8 _ sb _ _ wr.heap.size 1 [zqd] S3.out.sh (hid rfl) C3 (by omega) (by first|omega|(simp only [List.length_append,List.length_cons,List.length_nil];omega)|(simp only [List.length_append,List.length_cons,List.length_nil] at hl ⊢;omega))).mono ?_
    rintro e w4 ⟨v4,rfl,hs⟩
    clear C3
    have U4:=hid (U.out.sg hs.sg (by omega) (zxd S3.out H.out l0))
    have N4:=hid (N.out.low (hs.sg.low S3.out.sh))
    have S4:=hid (S3.out.trans hs)
    have z4:=hs.sg.size
    clear U N hs
    have U:=U4
    have N:=N4
    clear U4 N4
    have U0:=U.out.c0
    go_wp2_with fail
    clear U0
    obtain ⟨nm,hm,hc⟩:=zkd N.out k u HU.out
    refine hc.mono ?_
    rintro e w5 ⟨rfl,hb⟩
    have M:=hid (hm.bl hb)
    have U5:=hid (U.out.below hb)
    have N5:=hid (N.out.bl hb)
    have S5:=hid (S4.out.below hb)
    have z5:=hb.size
    clear U N
    have U:=U5
    have N:=N5
    clear U5 N5
    clear hb hc hm
    go_wp2_with fail
    refine (hF.out k u ys hlt HU.out HY.out _ _ _ nm S5.out.sh M.out (by simp only [List.length_append,List.length_cons,List.length_nil];omega)).mono ?_
    rintro e w6 ⟨v6,rfl,hs⟩
    have U6:=hid (U.out.sg hs.sg (by omega) (zxd S5.out H.out l0))
    have N6:=hid (N.out.low (hs.sg.low S5.out.sh))
    have S6:=hid (S5.out.trans hs)
    have z6:=hs.sg.size
    clear U N hs
    have U:=U6
    have N:=N6
    clear U6 N6
    clear M
    go_wp2_with fail
    go_roundw
    case rel=>exact ⟨k+1,_,by omega,by go_num,by show SST _ _ _ _ _ _;have h9:=S6.out;rw [HCT.out,if_neg H0.out];simpa [List.append_assoc] using h9,U,N⟩
    case measure=>simp [intOf];omega
  ·skip
   obtain rfl:k=m:=by omega
   have htk:items.take k=items:=List.take_of_length_le (by rw [hm.out];exact Nat.le_refl _)
   rw [htk] at S
   clear htk
   have hcl:=HCL.out
   rw [hm.out] at hcl
   have C3:=hid (show ∀ (j:Nat) (y:Tx),([cRB]:List Tx)[j]? =some y→(wr.alloc (.cells #[.string ⟨#[41]⟩] 9)).cell? ⟨wr.heap.size,j,none⟩=some (.string ⟨y.toArray⟩) from zzl wr [cRB])
   have U3:=hid (U.out.below (b1 wr (.cells #[.string ⟨#[41]⟩] 9)))
   have N3:=hid (N.out.bl (b1 wr (.cells #[.string ⟨#[41]⟩] 9)))
   have S3:=hid (S.out.below (b1 wr (.cells #[.string ⟨#[41]⟩] 9)))
   have z3:=(b1 wr (.cells #[.string ⟨#[41]⟩] 9)).size
   clear U N
   have U:=U3
   have N:=N3
   clear U3 N3
   have U0:=U.out.c0
   go_wp2_with fail
   clear U0
   generalize wr.alloc (.cells #[.string ⟨#[41]⟩] 9)=wb3 at*
   refine (zz8 _ sb _ _ wr.heap.size 1 [cRB] S3.out.sh (hid rfl) C3 (by omega) (by first|omega|(simp only [List.length_append,List.length_cons,List.length_nil];omega)|(simp only [List.length_append,List.length_cons,List.length_nil] at hl ⊢;omega))).mono ?_
   rintro e w4 ⟨v4,rfl,hs⟩
   clear C3
   have U4:=hid (U.out.sg hs.sg (by omega) (zxd S3.out H.out l0))
   have N4:=hid (N.out.low (hs.sg.low S3.out.sh))
   have S4:=hid (S3.out.trans hs)
   have z4:=hs.sg.size
   clear U N hs
   have U:=U4
   have N:=N4
   clear U4 N4
   go_wp2_with fail
   first|refine bodyPost_end (v:= .tuple #[]) (by simp [results,Tryz.results100,go_sem]) rfl ?_ |refine bodyPost_ret (v:= .tuple #[]) (by simp [results,Tryz.results100,go_sem]) rfl ?_
   have hfin:=((SST.refl H.out).below HBA.out).trans S4.out
   have hx:xs++([cLB]++zz3 items++ [cRB])=((xs++ [cLB]++zz3 items)++ [cRB]):=by simp [List.append_assoc]
   first|exact ⟨_,rfl,hfin.cast hx.symm⟩|exact ⟨_,rfl,hfin.cast (by simp [List.append_assoc])⟩
theorem z0v (w:World) (sb:Nat) (v:Value) (xs:List Tx) (pl:Nat→Nat) (b:Nat) (t:Tree) (m:Nat) (items:List (List Tx)) (h:SH w sb v xs) (hn:NodeAt (fun x=>x<sb) pl w b t) (hm:Hid (items.length=m)) (hmk:m≤t.kids.length) (hF:Hid (Shows 103 sb pl t m items)) (hl:xs.length+(items.flatten.length+(m - 1)+3)≤1000000):
 Calls Tryz.prog 100 #[.pointer (some ⟨sb,0,none⟩),.agg #[.pointer (some ⟨b,0,none⟩)],.int .i64 m,.func (.func 103) #[.pointer (some ⟨sb,0,none⟩)] #[]] w (SQ sb v w (xs++([cLB]++zz3 items++ [cRB]))):=by
 have HMK:=hid hmk
 have HCL:=hid (zvq items)
 clear hmk
 have H:=hid h
 have hlt:=h.lt
 have HBA:=hid (b1 w (.cells #[.pointer (some ⟨b,0,none⟩)] 25))
 have S0:=hid (SST.refl (h.below (b1 w (.cells #[.pointer (some ⟨b,0,none⟩)] 25))))
 have U:=hid (PtrAt.new w (some ⟨b,0,none⟩))
 have N:=hid (hn.bl (b1 w (.cells #[.pointer (some ⟨b,0,none⟩)] 25)))
 have l0:=U.out.lt
 clear h hn
 have hfo:=zx1
 have hfn:=zzw
 clear hfo hfn
 go_enter Tryz.func100,Tryz.ntmps100
 have U0:=U.out.c0
 have C1:=hid (show ∀ (j:Nat) (y:Tx),([cLB]:List Tx)[j]? =some y→((w.alloc (.cells #[.pointer (some ⟨b,0,none⟩)] 25)).alloc (.cells #[.string ⟨#[40]⟩] 9)).cell? ⟨(w.alloc (.cells #[.pointer (some ⟨b,0,none⟩)] 25)).heap.size,j,none⟩=some (.string ⟨y.toArray⟩) from zzl (w.alloc (.cells #[.pointer (some ⟨b,0,none⟩)] 25)) [cLB])
 rw [show (w.alloc (.cells #[.pointer (some ⟨b,0,none⟩)] 25)).heap.size=w.heap.size+1 by simp] at C1
 have U1:=hid (U.out.below (b1 _ (.cells #[.string ⟨#[40]⟩] 9)))
 have N1:=hid (N.out.bl (b1 _ (.cells #[.string ⟨#[40]⟩] 9)))
 have S1:=hid (S0.out.below (b1 _ (.cells #[.string ⟨#[40]⟩] 9)))
 go_wp2_with fail
 clear U0
 generalize (w.alloc (.cells #[.pointer (some ⟨b,0,none⟩)] 25)).alloc (.cells #[.string ⟨#[40]⟩] 9)=wb at*
 generalize w.alloc (.cells #[.pointer (some ⟨b,0,none⟩)] 25)=wa at*
 clear U N
 have U:=U1
 have N:=N1
 clear U1 N1
 refine (zz8 _ sb _ _ (w.heap.size+1) 1 [cLB] S1.out.sh (hid rfl) C1 (by omega) (by omega)).mono ?_
 rintro e w2 ⟨v2,rfl,hs⟩
 clear C1
 have U2:=hid (U.out.sg hs.sg (by omega) (zxd S1.out H.out l0))
 have N2:=hid (N.out.low (hs.sg.low S1.out.sh))
 have S2:=hid (S1.out.trans hs)
 have z2:=hs.sg.size
 clear U N hs
 have U:=U2
 have N:=N2
 clear U2 N2
 go_wp2_with fail
 go_loopw [13] (fun i wr=>BrRel sb v w wa xs pl b t m items i wr) (fun i _=>m - (intOf i).toNat)
 case atStart=>exact ⟨0,v2,Nat.zero_le _,rfl,by show SST _ _ _ _ _ _;simpa [zz3] using S2.out,U,N⟩
 case round=>
  obtain ⟨k,vr,hk,rfl,S,U,N⟩:=hrel
  by_cases hlt:k<m
  ·skip
   obtain ⟨u,hu⟩:∃ u,t.kids[k]? =some u:=⟨_,List.getElem?_eq_getElem (by have:=HMK.out;omega)⟩
   obtain ⟨ys,hy⟩:∃ ys,items[k]? =some ys:=⟨_,List.getElem?_eq_getElem (by rw [hm.out];exact hlt)⟩
   have HU:=hid hu
   have HY:=hid hy
   have HCT:=hid (comma_take items k ys hy)
   have hfl:=z0y items k ys hy
   have hcl:=zvq (items.take k)
   have htk:(items.take k).length=k:=by rw [List.length_take,hm.out];omega
   rw [htk] at hcl
   have HTK:=hid htk
   clear hu hy htk
   have hki:(k:Int)<(m:Int):=by omega
   by_cases h0:k=0
   ·skip
    have hk0:¬ (0:Int)<(k:Int):=by omega
    have H0:=hid h0
    clear h0
    have U0:=U.out.c0
    go_wp2_with fail
    clear U0
    obtain ⟨nm,hm,hc⟩:=zkd N.out k u HU.out
    refine hc.mono ?_
    rintro e w3 ⟨rfl,hb⟩
    have M:=hid (hm.bl hb)
    have U3:=hid (U.out.below hb)
    have N3:=hid (N.out.bl hb)
    have S3:=hid (S.out.below hb)
    have z3:=hb.size
    clear U N
    have U:=U3
    have N:=N3
    clear U3 N3
    clear hb hc hm
    go_wp2_with fail
    refine (hF.out k u ys hlt HU.out HY.out _ _ _ nm S3.out.sh M.out (by simp only [List.length_append,List.length_cons,List.length_nil];omega)).mono ?_
    rintro e w4 ⟨v4,rfl,hs⟩
    have U4:=hid (U.out.sg hs.sg (by omega) (zxd S3.out H.out l0))
    have N4:=hid (N.out.low (hs.sg.low S3.out.sh))
    have S4:=hid (S3.out.trans hs)
    have z4:=hs.sg.size
    clear U N hs
    have U:=U4
    have N:=N4
    clear U4 N4
    clear M
    go_wp2_with fail
    go_roundw
    case rel=>exact ⟨k+1,_,by omega,by go_num,by show SST _ _ _ _ _ _;have h9:=S4.out;rw [HCT.out,if_pos H0.out];simpa [List.append_assoc] using h9,U,N⟩
    case measure=>simp [intOf];omega
   ·skip
    have hk0:(0:Int)<(k:Int):=by omega
    have H0:=hid h0
    clear h0
    have C3:=hid (show ∀ (j:Nat) (y:Tx),([zqd]:List Tx)[j]? =some y→(wr.alloc (.cells #[.string ⟨#[44]⟩] 9)).cell? ⟨wr.heap.size,j,none⟩=some (.string ⟨y.toArray⟩) from zzl wr [zqd])
    have U3:=hid (U.out.below (b1 wr (.cells #[.string ⟨#[44]⟩] 9)))
    have N3:=hid (N.out.bl (b1 wr (.cells #[.string ⟨#[44]⟩] 9)))
    have S3:=hid (S.out.below (b1 wr (.cells #[.string ⟨#[44]⟩] 9)))
    have z3:=(b1 wr (.cells #[.string ⟨#[44]⟩] 9)).size
    clear U N
    have U:=U3
    have N:=N3
    clear U3 N3
    have U0:=U.out.c0
    go_wp2_with fail
    clear U0
    generalize wr.alloc (.cells #[.string ⟨#[44]⟩] 9)=wb3 at*
    refine (zz8 _ sb _ _ wr.heap.size 1 [zqd] S3.out.sh (hid rfl) C3 (by omega) (by first|omega|(simp only [List.length_append,List.length_cons,List.length_nil];omega)|(simp only [List.length_append,List.length_cons,List.length_nil] at hl ⊢;omega))).mono ?_
    rintro e w4 ⟨v4,rfl,hs⟩
    clear C3
    have U4:=hid (U.out.sg hs.sg (by omega) (zxd S3.out H.out l0))
    have N4:=hid (N.out.low (hs.sg.low S3.out.sh))
    have S4:=hid (S3.out.trans hs)
    have z4:=hs.sg.size
    clear U N hs
    have U:=U4
    have N:=N4
    clear U4 N4
    have U0:=U.out.c0
    go_wp2_with fail
    clear U0
    obtain ⟨nm,hm,hc⟩:=zkd N.out k u HU.out
    refine hc.mono ?_
    rintro e w5 ⟨rfl,hb⟩
    have M:=hid (hm.bl hb)
    have U5:=hid (U.out.below hb)
    have N5:=hid (N.out.bl hb)
    have S5:=hid (S4.out.below hb)
    have z5:=hb.size
    clear U N
    have U:=U5
    have N:=N5
    clear U5 N5
    clear hb hc hm
    go_wp2_with fail
    refine (hF.out k u ys hlt HU.out HY.out _ _ _ nm S5.out.sh M.out (by simp only [List.length_append,List.length_cons,List.length_nil];omega)).mono ?_
    rintro e w6 ⟨v6,rfl,hs⟩
    have U6:=hid (U.out.sg hs.sg (by omega) (zxd S5.out H.out l0))
    have N6:=hid (N.out.low (hs.sg.low S5.out.sh))
    have S6:=hid (S5.out.trans hs)
    have z6:=hs.sg.size
    clear U N hs
    have U:=U6
    have N:=N6
    clear U6 N6
    clear M
    go_wp2_with fail
    go_roundw
    case rel=>exact ⟨k+1,_,by omega,by go_num,by show SST _ _ _ _ _ _;have h9:=S6.out;rw [HCT.out,if_neg H0.out];simpa [List.append_assoc] using h9,U,N⟩
    case measure=>simp [intOf];omega
  ·skip
   obtain rfl:k=m:=by omega
   have htk:items.take k=items:=List.take_of_length_le (by rw [hm.out];exact Nat.le_refl _)
   rw [htk] at S
   clear htk
   have hcl:=HCL.out
   rw [hm.out] at hcl
   have C3:=hid (show ∀ (j:Nat) (y:Tx),([cRB]:List Tx)[j]? =some y→(wr.alloc (.cells #[.string ⟨#[41]⟩] 9)).cell? ⟨wr.heap.size,j,none⟩=some (.string ⟨y.toArray⟩) from zzl wr [cRB])
   have U3:=hid (U.out.below (b1 wr (.cells #[.string ⟨#[41]⟩] 9)))
   have N3:=hid (N.out.bl (b1 wr (.cells #[.string ⟨#[41]⟩] 9)))
   have S3:=hid (S.out.below (b1 wr (.cells #[.string ⟨#[41]⟩] 9)))
   have z3:=(b1 wr (.cells #[.string ⟨#[41]⟩] 9)).size
   clear U N
   have U:=U3
   have N:=N3
   clear U3 N3
   have U0:=U.out.c0
   go_wp2_with fail
   clear U0
   generalize wr.alloc (.cells #[.string ⟨#[41]⟩] 9)=wb3 at*
   refine (zz8 _ sb _ _ wr.heap.size 1 [cRB] S3.out.sh (hid rfl) C3 (by omega) (by first|omega|(simp only [List.length_append,List.length_cons,List.length_nil];omega)|(simp only [List.length_append,List.length_cons,List.length_nil] at hl ⊢;omega))).mono ?_
   rintro e w4 ⟨v4,rfl,hs⟩
   clear C3
   have U4:=hid (U.out.sg hs.sg (by omega) (zxd S3.out H.out l0))
   have N4:=hid (N.out.low (hs.sg.low S3.out.sh))
   have S4:=hid (S3.out.trans hs)
   have z4:=hs.sg.size
   clear U N hs
   have U:=U4
   have N:=N4
   clear U4 N4
   go_wp2_with fail
   first|refine bodyPost_end (v:= .tuple #[]) (by simp [results,Tryz.results100,go_sem]) rfl ?_ |refine bodyPost_ret (v:= .tuple #[]) (by simp [results,Tryz.results100,go_sem]) rfl ?_
   have hfin:=((SST.refl H.out).below HBA.out).trans S4.out
   have hx:xs++([cLB]++zz3 items++ [cRB])=((xs++ [cLB]++zz3 items)++ [cRB]):=by simp [List.append_assoc]
   first|exact ⟨_,rfl,hfin.cast hx.symm⟩|exact ⟨_,rfl,hfin.cast (by simp [List.append_assoc])⟩
end Go.Proofs.YtkahbhfbgdbnfaaGreatDoor
