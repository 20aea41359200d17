/-
  PROVED: CheckMore answers true at every text, and the text reads as it did: a program that is right is right with one function more behind it, of a name of its own, that says nothing, and declares just that one more; with one that assigns to its own name it breaks the rule of types behind the text; with one that prints a name that no global has it isn't right. Conditions: the card's own (the listed variables hold what the program's text lays).
-/
import Derived.Test.YtkahbhfbgdbnfaaGreatDoorZ9
import Derived.Test.YtkahbhfbgdbnfaaGreatDoorZ8
import Derived.Test.YtkahbhfbgdbnfaaGreatDoorZ10
import Derived.Test.YtkahbhfbgdbnfaaGreatDoorZ11
set_option maxRecDepth 100000
set_option maxHeartbeats 1000000
namespace Go.Proofs.YtkahbhfbgdbnfaaGreatDoor
open Go.Lib (hid)
open Go.RowKit
def Le {α:Type} (r r':CR α):Prop:=∀ a,r= .ok a→r'= .ok a
theorem Le.refl {α:Type} (r:CR α):Le r r:=fun _ h=>h
theorem Le.bad {α:Type} (p e:Nat) (r:CR α):Le (.bad p e) r:=fun _ h=>by cases h
theorem Le.bind {α β:Type} {r r':CR α} {f f':α→CR β} (h:Le r r') (g:∀ a,Le (f a) (f' a)):Le (r.bind f) (r'.bind f'):=by
 cases r with
 |ok a=>rw [h a rfl];exact g a
 |bad p e=>exact Le.bad _ _ _
theorem Le.nd {α:Type} (p:Nat) {b b':Bool} (e:Nat) {k k':CR α} (hb:b=true→b'=true) (g:Le k k'):Le (nd p b e k) (nd p b' e k'):=by
 unfold Go.Proofs.YtkahbhfbgdbnfaaGreatDoor.nd
 cases b with
 |false=>exact Le.bad _ _ _
 |true=>rw [hb rfl];exact g
def LeL (rs rs':List (CR ByteArray)):Prop:=rs.length=rs'.length∧∀ i,Le (rs.getD i (.ok tNil)) (rs'.getD i (.ok tNil))
theorem LeL.kid {rs rs':List (CR ByteArray)} (h:LeL rs rs') (i:Nat):Le (kidC rs i) (kidC rs' i):=h.2 i
theorem LeL.cons {r r':CR ByteArray} {rs rs':List (CR ByteArray)} (h:Le r r') (g:LeL rs rs'):LeL (r::rs) (r'::rs'):=
 ⟨by simp [g.1],fun i=>by cases i with
  |zero=>exact h
  |succ i=>simpa using g.2 i⟩
theorem LeL.tail {r r':CR ByteArray} {rs rs':List (CR ByteArray)} (g:LeL (r::rs) (r'::rs')):Le r r'∧LeL rs rs':=
 ⟨g.2 0,by simpa using g.1,fun i=>by simpa using g.2 (i+1)⟩
theorem LeL.all:∀ {rs rs':List (CR ByteArray)},LeL rs rs'→Le (allC rs) (allC rs')
 | [],[],_=>Le.refl _
 | [],_::_,h=>by have:=h.1;simp at this
 |_::_,[],h=>by have:=h.1;simp at this
 |_::rs,_::rs',h=>h.tail.1.bind fun _=>(LeL.all h.tail.2).bind fun _=>Le.refl _
def addF (x:Inf) (g:Sg):Inf:= { x with funs:=x.funs++ [g] }
section
variable {x:Inf} {g:Sg}
theorem z0x {n:ByteArray} {f:Nat} (h:funO x n=some f):funO (addF x g) n=some f∧(addF x g).funs.getD f sgZ=x.funs.getD f sgZ:=by
 obtain ⟨-,h1,h2,h3⟩:=z1j h
 have hs:∀ j,j<x.funs.length→sgIs (x.funs++ [g]) n j=sgIs x.funs n j:=fun j hj=>by unfold sgIs;rw [List.getElem?_append_left hj]
 refine ⟨fst_of (Nat.zero_le _) (by simp [addF];omega) ((hs f h1).trans h2) (fun j a b=>(hs j (by omega)).trans (h3 j a b)),?_⟩
 simp only [addF,List.getD_eq_getElem?_getD,List.getElem?_append_left h1]
theorem declB_more {n:ByteArray} (h:z3g x n=true):z3g (addF x g) n=true:=by
 unfold z3g at h ⊢
 simp only [Bool.or_eq_true] at h ⊢
 rcases h with h|h
 ·exact .inl h
 ·right
  cases hf:funO x n with
  |none=>rw [hf] at h;cases h
  |some f=>rw [(z0x hf).1];rfl
theorem var_le (K:List Fld) (p:Nat) (n:ByteArray):Le (varC x K p n) (varC (addF x g) K p n):=by
 unfold varC
 show Le _ (varOf (addF x g) K p _ _ (plc x.globals n))
 unfold varOf
 split
 ·exact Le.refl _
 ·exact Le.refl _
 ·exact Le.nd _ _ (fun h=>declB_more h) (Le.refl _)
theorem field_le (p:Nat) (n a:ByteArray):Le (zjn x p n a) (zjn (addF x g) p n a):=Le.refl _
theorem call_le (K:List Fld) (p:Nat) (n:ByteArray) (us:List ByteArray):Le (callC x K p n us) (callC (addF x g) K p n us):=by
 unfold callC
 refine Le.bind ?_ fun _=>Le.refl _
 unfold zju
 cases hf:funO x n with
 |none=>
  unfold z0a
  intro a h
  dsimp only at h
  unfold Go.Proofs.YtkahbhfbgdbnfaaGreatDoor.nd at h
  split at h<;>cases h
 |some f=>
  rw [(z0x hf).1]
  unfold z0a
  dsimp only
  rw [(z0x hf).2]
  refine Le.nd _ _ (fun h=> ?_) (Le.refl _)
  simp only [Bool.or_eq_true] at h ⊢
  exact h.imp id declB_more
theorem exprOf_le (K:List Fld) (op:Nat) (name:List UInt8) (n:Int) (p:Nat) {rs rs':List (CR ByteArray)} (h:LeL rs rs'):Le (zj8 x K op name n p rs) (zj8 (addF x g) K op name n p rs'):=by
 unfold zj8
 split;·exact Le.refl _
 split;·exact Le.refl _
 split;·exact var_le _ _ _
 split;·exact Le.nd _ _ (fun h=>declB_more h) (Le.refl _)
 split;·exact (h.kid 0).bind fun _=>field_le _ _ _
 split;·exact h.all.bind fun _=>call_le _ _ _ _
 split;·exact (h.kid 0).bind fun _=>Le.refl _
 split;·exact (h.kid 0).bind fun _=>(h.kid 1).bind fun _=>Le.refl _
 split;·exact (h.kid 0).bind fun _=>(h.kid 1).bind fun _=>Le.refl _
 exact Le.refl _
mutual
theorem expr_le (K:List Fld):∀ t,Le (zzt x K t) (zzt (addF x g) K t)
 | .mk op name _ n p ks=>by unfold zzt;exact exprOf_le _ _ _ _ _ (exprs_le K ks)
theorem exprs_le (K:List Fld):∀ l,LeL (zvb x K l) (zvb (addF x g) K l)
 | []=>by unfold zvb;exact ⟨rfl,fun _=>Le.refl _⟩
 |t::l=>by unfold zvb;exact LeL.cons (expr_le K t) (exprs_le K l)
end
theorem leaf_le (res:ByteArray) (K:List Fld) (f:Nat) (op:Nat) (name:List UInt8) (p:Nat) {rs rs':List (CR ByteArray)} (h:LeL rs rs'):Le (z2b x res K f op name p rs) (z2b (addF x g) res K f op name p rs'):=by
 unfold z2b
 rw [h.1]
 split;·exact (h.kid 0).bind fun _=>Le.refl _
 split;·exact (h.kid 0).bind fun _=>(var_le _ _ _).bind fun _=>Le.refl _
 split;·exact (h.kid 0).bind fun _=>(h.kid 1).bind fun _=>(field_le _ _ _).bind fun _=>Le.refl _
 split;·exact (h.kid 0).bind fun _=>Le.refl _
 split
 ·split
  ·exact Le.refl _
  ·exact (h.kid 0).bind fun _=>Le.refl _
 split;·exact (h.kid 0).bind fun _=>Le.refl _
 exact Le.refl _
mutual
theorem stmt_le (res:ByteArray):∀ t K f,Le (zkf x res t K f) (zkf (addF x g) res t K f)
 | .mk op name _ _ p ks,K,f=>by
   unfold zkf
   split
   ·exact (stmts_le res ks K _).bind fun _=>Le.refl _
   ·split
    ·exact ((exprs_le K ks).kid 0).bind fun _=>Le.nd _ _ id (rest_le res ks K f)
    ·exact leaf_le _ _ _ _ _ _ (exprs_le K ks)
theorem stmts_le (res:ByteArray):∀ l K f,Le (zxm x res l K f) (zxm (addF x g) res l K f)
 | [],K,f=>by unfold zxm;exact Le.refl _
 |t::r,K,f=>by unfold zxm;exact (stmt_le res t K f).bind fun K'=>stmts_le res r K' f
theorem rest_le (res:ByteArray):∀ l K f,Le (z2t x res l K f) (z2t (addF x g) res l K f)
 | [],K,f=>by unfold z2t;exact Le.refl _
 |_::r,K,f=>by unfold z2t;exact stmts_le res r K f
end
theorem body_le (d:Tree):Le (zvu x d) (zvu (addF x g) d):=by
 unfold zvu;split
 ·exact (stmts_le _ _ _ _).bind fun _=>Le.refl _
 ·exact Le.refl _
theorem main_le (h:mainB x=true):mainB (addF x g)=true:=by
 unfold mainB at h ⊢
 cases hf:funO x tMain with
 |none=>rw [hf] at h;cases h
 |some f=>rw [hf] at h;rw [(z0x hf).1];dsimp only at h ⊢;rw [(z0x hf).2];exact h
theorem each_le {f f':Tree→CR Unit} (h:∀ d,Le (f d) (f' d)):∀ l,Le (zja f l) (zja f' l)
 | []=>Le.refl _
 |a::r=>(h a).bind fun _=>each_le h r
end
theorem each_app {f:Tree→CR Unit} (d:Tree):∀ {l:List Tree} {u:Unit},zja f l= .ok u→zja f (l++ [d])=(f d).bind fun _=> .ok ()
 | [],_,_=>by simp only [List.nil_append,zja]
 |a::r,u,h=>by
  simp only [List.cons_append,zja] at h ⊢
  cases ha:f a with
  |bad p e=>rw [ha] at h;cases h
  |ok v=>rw [ha] at h;exact each_app d (l:=r) h
theorem infOf_app (ks:List Tree) (d:Tree):zxo (ks++ [d])=addD (zxo ks) d:=by unfold zxo;rw [List.foldl_append];rfl
theorem inf_has (ks:List Tree):∀ x:Inf,(∀ s∈x.structs,s∈(ks.foldl addD x).structs)∧(∀ s∈x.globals,s∈(ks.foldl addD x).globals)∧(∀ s∈x.funs,s∈(ks.foldl addD x).funs)∧
 ∀ d∈ks,(d.op=2→⟨nm d,zzp d⟩∈(ks.foldl addD x).structs)∧(d.op=3→zwo d∈(ks.foldl addD x).globals)∧(d.op=4→⟨nm d,zzp d,tp d⟩∈(ks.foldl addD x).funs):=by
 induction ks with
 |nil=>intro x;exact ⟨fun _ h=>h,fun _ h=>h,fun _ h=>h,fun d hd=>by cases hd⟩
 |cons a r ih=>
  intro x
  obtain ⟨h1,h2,h3,h4⟩:=ih (addD x a)
  have k1:∀ s∈x.structs,s∈(addD x a).structs:=fun s hs=>by unfold addD;split;·simp [hs]
                                                           split;·exact hs
                                                           split<;>exact hs
  have k2:∀ s∈x.globals,s∈(addD x a).globals:=fun s hs=>by unfold addD;split;·exact hs
                                                           split;·simp [hs]
                                                           split<;>exact hs
  have k3:∀ s∈x.funs,s∈(addD x a).funs:=fun s hs=>by unfold addD;split;·exact hs
                                                     split;·exact hs
                                                     split;·simp [hs]
                                                     exact hs
  refine ⟨fun s hs=>h1 s (k1 s hs),fun s hs=>h2 s (k2 s hs),fun s hs=>h3 s (k3 s hs),fun d hd=> ?_⟩
  rcases List.mem_cons.1 hd with rfl|hd
  ·refine ⟨fun ho=>h1 _ ?_,fun ho=>h2 _ ?_,fun ho=>h3 _ ?_⟩<;>unfold addD<;>simp [ho]
  ·exact h4 d hd
theorem name_new {ks:List Tree} {q:ByteArray} (ho:∀ d∈ks,d.op=2∨d.op=3∨d.op=4) (hh:hasB (zxo ks) q=false):∀ d∈ks,eqB (nm d) q=false:=by
 intro d hd
 unfold hasB at hh
 simp only [Bool.or_eq_false_iff,Option.isSome_eq_false_iff,Option.isNone_iff_eq_none] at hh
 obtain ⟨hf,hg,hs⟩:=hh
 obtain ⟨-,-,-,h⟩:=inf_has ks infZ
 rcases ho d hd with e|e|e
 ·obtain ⟨i,hi⟩:=List.mem_iff_getElem?.1 ((h d hd).1 e)
  have:=zv2 hs i (Nat.zero_le _) (List.getElem?_eq_some_iff.1 hi).1
  unfold z0p at this
  rw [show (zxo ks).structs[i]? =_ from hi] at this
  exact this
 ·obtain ⟨i,hi⟩:=List.mem_iff_getElem?.1 ((h d hd).2.1 e)
  have:=zv2 hg i (Nat.zero_le _) (List.getElem?_eq_some_iff.1 hi).1
  unfold fldIs at this
  rw [show (zxo ks).globals[i]? =_ from hi] at this
  exact this
 ·obtain ⟨i,hi⟩:=List.mem_iff_getElem?.1 ((h d hd).2.2 e)
  have:=zv2 hf i (Nat.zero_le _) (List.getElem?_eq_some_iff.1 hi).1
  unfold sgIs at this
  rw [show (zxo ks).funs[i]? =_ from hi] at this
  exact this
theorem nmAt_left {ks:List Tree} (d:Tree) {i:Nat} (h:i<ks.length):nmAt (ks++ [d]) i=nmAt ks i:=by unfold nmAt;simp only [List.getD_eq_getElem?_getD,List.getElem?_append_left h]
theorem z27 {ks:List Tree} (d:Tree) {i:Nat} (h:i<ks.length):opAt (ks++ [d]) i=opAt ks i:=by unfold opAt;simp only [List.getD_eq_getElem?_getD,List.getElem?_append_left h]
theorem nmAt_last (ks:List Tree) (d:Tree):nmAt (ks++ [d]) ks.length=nm d:=by unfold nmAt;simp [List.getD_eq_getElem?_getD]
theorem opAt_last (ks:List Tree) (d:Tree):opAt (ks++ [d]) ks.length=d.op:=by unfold opAt;simp [List.getD_eq_getElem?_getD]
theorem fst_ext {f g:Nat→Bool} {n:Nat} (h:∀ j,j<n→f j=g j):fst f n 0=fst g n 0:=by
 cases hg:fst g n 0 with
 |none=>exact z2f fun j a b=>(h j b).trans (zv2 hg j a b)
 |some i=>
  obtain ⟨a,b,c,e⟩:=z1j hg
  exact fst_of a b ((h i b).trans c) (fun j u v=>(h j (by omega)).trans (e j u v))
theorem nameE_left {ks:List Tree} (d:Tree) {i:Nat} (h:i<ks.length):zwc (ks++ [d]) i=zwc ks i:=by
 have hn:newB (ks++ [d]) i=newB ks i:=by
  unfold newB
  rw [fst_ext (g:=fun j=>eqB (nmAt ks j) (nmAt ks i)) fun j hj=>by rw [nmAt_left d (by omega),nmAt_left d h]]
 have hc:∀ k,k≤i→cntN (ks++ [d]) i k=cntN ks i k:=by
  intro k
  induction k with
  |zero=>intro _;rfl
  |succ k ih=>intro hk;unfold cntN;rw [ih (by omega),z27 d (by omega),z27 d h]
 unfold zwc
 rw [hn,hc i (Nat.le_refl _),z27 d h]
theorem cnt_last {ks:List Tree} {d:Tree} (hd:d.op=4):∀ k,k≤ks.length→cntN (ks++ [d]) ks.length k=(zxo (ks.take k)).funs.length:=by
 intro k
 induction k with
 |zero=>intro _;rfl
 |succ k ih=>
  intro hk
  obtain ⟨u,hu⟩:∃ u,ks[k]? =some u:=⟨_,List.getElem?_eq_getElem (by omega)⟩
  unfold cntN
  rw [ih (by omega),zvj hu,opAt_last,hd,z27 d (by omega),opAt_at hu]
  unfold addD
  by_cases h2:u.op=2
  ·simp [h2]
  ·by_cases h3:u.op=3
   ·simp [h3]
   ·by_cases h4:u.op=4
    ·simp [h4]
    ·simp [h2,h3,h4]
theorem firC_all {ks:List Tree} {g:Nat→Nat} {n:Nat} (h:∀ j,j<n→g j=0):firC ks g n= .ok ():=by
 have:fir g n 0=(0,0):=by
  have e:fir g n 0=fir (fun _=>0) n 0:=fir_ext fun j _ hj=>h j hj
  rw [e]
  have:∀ m k,n - k≤m→fir (fun _=>0) n k=(0,0):=by
   intro m
   induction m with
   |zero=>intro k hk;exact zwf (by omega)
   |succ m ih=>
    intro k hk
    by_cases hl:k<n
    ·rw [zvf hl rfl];exact ih (k+1) (by omega)
    ·exact zwf (by omega)
  exact this n 0 (by omega)
 unfold firC
 rw [this]
theorem check_more {ts tc:List Tok} {ks:List Tree} {x:Inf} {d:Tree} (h:zqy (root ts ks)= .ok x) (ho:∀ d∈ks,d.op=2∨d.op=3∨d.op=4) (hd:d.op=4) (hq:hasB x (nm d)=false) (hf:x.funs.length<24)
 (ht:zqp x.structs d= .ok ()):x=zxo ks∧zxo (ks++ [d])=addF x ⟨nm d,zzp d,tp d⟩∧zqy (root tc (ks++ [d]))=(zvu (addF x ⟨nm d,zzp d,tp d⟩) d).bind fun _=> .ok (addF x ⟨nm d,zzp d,tp d⟩):=by
 unfold zqy at h ⊢
 simp only [root,Tree.kids,Tree.pos] at h ⊢
 cases h1:firC ks (zwc ks) ks.length with
 |bad p e=>rw [h1] at h;cases h
 |ok u1=>
  rw [h1] at h
  cases h2:zja (zqp (zxo ks).structs) ks with
  |bad p e=>rw [h2] at h;cases h
  |ok u2=>
   rw [h2] at h
   cases h3:zja (zvu (zxo ks)) ks with
   |bad p e=>rw [h3] at h;cases h
   |ok u3=>
    rw [h3] at h
    simp only [CR.bind,nd] at h
    split at h
    ·rename_i hm
     cases h
     have hx:zxo (ks++ [d])=addF (zxo ks) ⟨nm d,zzp d,tp d⟩:=by rw [infOf_app];unfold addD addF;simp [hd]
     refine ⟨rfl,hx,?_⟩
     have e1:firC (ks++ [d]) (zwc (ks++ [d])) (ks++ [d]).length= .ok ():=by
      refine firC_all fun j hj=> ?_
      by_cases hl:j<ks.length
      ·rw [nameE_left d hl];exact firC_ok h1 j hl
      ·have:j=ks.length:=by simp at hj;omega
       subst this
       unfold zwc
       rw [cnt_last hd _ (Nat.le_refl _),List.take_length,opAt_last,hd,show mostD 4=24 from rfl,if_pos,if_pos hf]
       unfold newB
       rw [z2f fun i _ hi=> ?_]
       ·rfl
       ·obtain ⟨u,hu⟩:∃ u,ks[i]? =some u:=⟨_,List.getElem?_eq_getElem hi⟩
        rw [nmAt_left d hi,nmAt_last,z2a hu]
        exact name_new ho hq u (List.mem_of_getElem? hu)
     rw [e1,hx]
     have e2:zja (zqp (addF (zxo ks) ⟨nm d,zzp d,tp d⟩).structs) (ks++ [d])= .ok ():=by
      rw [each_app d (f:=zqp (addF (zxo ks) ⟨nm d,zzp d,tp d⟩).structs) h2,show zqp (addF (zxo ks) ⟨nm d,zzp d,tp d⟩).structs d=_ from ht];rfl
     rw [e2]
     simp only [CR.bind]
     rw [each_app d (each_le (fun d=>body_le d) ks _ h3)]
     cases zvu (addF (zxo ks) ⟨nm d,zzp d,tp d⟩) d with
     |bad p e=>rfl
     |ok u=>simp only [CR.bind,nd];rw [if_pos (main_le hm)]
    ·cases h
def qOk (q:List UInt8):Prop:=q= [113,97]∨q= [113,98]∨q= [113,99]∨q= [113,100]
theorem suf1 (T:Nat→AT) (N n:Nat) (q:List UInt8) (h0:T N=⟨2,zk8⟩) (h1:T (N+1)=⟨1,q⟩) (h2:T (N+2)=⟨4,cLB⟩) (h3:T (N+3)=⟨1,[112]⟩) (h4:T (N+4)=⟨2,kInt⟩) (h5:T (N+5)=⟨4,cRB⟩) (h6:T (N+6)=⟨4,cLC⟩) (h7:T (N+7)=⟨4,cRC⟩) (h8:T (N+8)=⟨0,[]⟩):
 P T (n+3) .decls 0 N=some (.ok [.mk 4 q [] 0 (N+1) [.mk 5 [112] kInt 0 (N+3) [],.mk 6 [] [] 0 (N+6) []]] (N+8)):=by
 simp (decide:=true) only [P,body,decl,zjk,word,fparts,need,block,zwp,z1m,typ,Pr.bind,runW,h0,h1,h2,h3,h4,h5,h6,h7,h8,if_true,if_false,Nat.add_assoc,List.cons_append,List.nil_append]
theorem suf2 (T:Nat→AT) (N n:Nat) (q:List UInt8) (hq:qOk q) (h0:T N=⟨2,zk8⟩) (h1:T (N+1)=⟨1,q⟩) (h2:T (N+2)=⟨4,cLB⟩) (h3:T (N+3)=⟨4,cRB⟩) (h4:T (N+4)=⟨4,cLC⟩) (h5:T (N+5)=⟨1,q⟩) (h6:T (N+6)=⟨4,cEq⟩) (h7:T (N+7)=⟨3,[49]⟩) (h8:T (N+8)=⟨4,zzk⟩) (h9:T (N+9)=⟨4,cRC⟩) (h10:T (N+10)=⟨0,[]⟩):
 P T (n+9) .decls 0 N=some (.ok [.mk 4 q [] 0 (N+1) [.mk 6 [] [] 0 (N+4) [.mk 8 q [] 0 (N+5) [.mk 15 [] [] 1 (N+7) []]]]] (N+10)):=by
 rcases hq with rfl|rfl|rfl|rfl<;>
 simp (decide:=true) only [P,body,decl,zjk,word,fparts,need,block,zwp,z1m,typ,stmt,z2r,zvm,zje,zwa,expr,one,binary,unary,zjv,zwj,hd,Pr.bind,runW,h0,h1,h2,h3,h4,h5,h6,h7,h8,h9,h10,if_true,if_false,Nat.add_assoc,List.nil_append,List.headD,List.foldl,Tree.op,Tree.name,Tree.pos]<;>rfl
theorem suf3 (T:Nat→AT) (N n:Nat) (q:List UInt8) (h0:T N=⟨2,zk8⟩) (h1:T (N+1)=⟨1,q⟩) (h2:T (N+2)=⟨4,cLB⟩) (h3:T (N+3)=⟨4,cRB⟩) (h4:T (N+4)=⟨4,cLC⟩) (h5:T (N+5)=⟨2,zjc⟩) (h6:T (N+6)=⟨4,cLB⟩) (h7:T (N+7)=⟨1,[122,122,57]⟩) (h8:T (N+8)=⟨4,cRB⟩) (h9:T (N+9)=⟨4,zzk⟩) (h10:T (N+10)=⟨4,cRC⟩) (h11:T (N+11)=⟨0,[]⟩):
 P T (n+9) .decls 0 N=some (.ok [.mk 4 q [] 0 (N+1) [.mk 6 [] [] 0 (N+4) [.mk 12 [] [] 0 (N+5) [.mk 18 [122,122,57] [] 0 (N+7) []]]]] (N+11)):=by
 simp (decide:=true) only [P,body,decl,zjk,word,fparts,need,block,zwp,z1m,typ,stmt,print,brack,zvm,zje,expr,one,binary,unary,zjv,zwj,hd,Pr.bind,runW,h0,h1,h2,h3,h4,h5,h6,h7,h8,h9,h10,h11,if_true,if_false,Nat.add_assoc,List.nil_append,List.headD,List.foldl]
theorem parse_more {a b:List UInt8} {ta tb:List Tok} {ka kb:List Tree} {j m:Nat} (ha:zxt a= .ok ta ka) (hb:zjp b= .ok tb) (hl:a.length+b.length+1≤4096)
 (hP:∀ T:Nat→AT,(∀ k,T (ta.length+k)=Tf tb k)→P T m .decls 0 ta.length=some (.ok kb j)):zxt (a++10::b)= .ok (ta++tb.map (z0q (a.length+1))) (ka++kb):=by
 obtain ⟨sa,pa⟩:=parse_end ha
 have hTa:=zv8 sa
 have h2:zjp (a++10::b)= .ok (ta++tb.map (z0q (a.length+1))):=by
  unfold zjp
  rw [if_neg (by simp;omega),scan_two,(scanR_le sa).1,(scanR_le hb).1];rfl
 have hTc:=zv8 h2
 obtain ⟨tc,htc⟩:∃ tc,ta++tb.map (z0q (a.length+1))=tc:=⟨_,rfl⟩
 have hR:∀ k,Tf tc (ta.length+k)=Tf tb k:=fun k=>by rw [←htc,Nat.add_comm ta.length k];exact Tf_right _ _ _ _
 have hL:∀ k,k<ta.length→Tf tc k=Tf ta k:=fun k hk=>by rw [←htc];exact Tf_left hk
 rw [htc] at h2 hTc ⊢
 have hd:=decls_two (Tf ta) (Tf tc) 0 m kb j (z0f ta) 0 ta.length ka pa hL (fun k hk=>hTa.sent.some k hk) (hP _ hR)
 obtain ⟨rr,hp,-⟩:=z2i hTc.sent (z0f tc) .decls 0 0 trivial (Nat.zero_le _) (by show 4*(tc.length - 0)+0<4*tc.length+1;omega)
 have h1:=P_one _ hp hd
 subst h1
 unfold zxt
 rw [h2]
 simp only [hp,treeR]
def sx1 (q:List UInt8):List UInt8:= [102,117,110,99,32]++q++ [40,112,32,105,110,116,41,32,123,32,125]
def tx1 (q:List UInt8):List Tok:= [⟨2,zk8,0⟩,⟨1,q,5⟩,⟨4,cLB,7⟩,⟨1,[112],8⟩,⟨2,kInt,10⟩,⟨4,cRB,13⟩,⟨4,cLC,15⟩,⟨4,cRC,17⟩]
theorem sx1_is {q:List UInt8} (hq:qOk q):zjp (sx1 q)= .ok (tx1 q):=by rcases hq with rfl|rfl|rfl|rfl<;>kernel_rfl
theorem sx1_len {q:List UInt8} (hq:qOk q):(sx1 q).length≤40:=by rcases hq with rfl|rfl|rfl|rfl<;>decide
def sx2 (q:List UInt8):List UInt8:= [102,117,110,99,32]++q++ [40,41,32,123,32]++q++ [32,61,32,49,59,32,125]
def tx2 (q:List UInt8):List Tok:= [⟨2,zk8,0⟩,⟨1,q,5⟩,⟨4,cLB,7⟩,⟨4,cRB,8⟩,⟨4,cLC,10⟩,⟨1,q,12⟩,⟨4,cEq,15⟩,⟨3,[49],17⟩,⟨4,zzk,18⟩,⟨4,cRC,20⟩]
theorem sx2_is {q:List UInt8} (hq:qOk q):zjp (sx2 q)= .ok (tx2 q):=by rcases hq with rfl|rfl|rfl|rfl<;>kernel_rfl
theorem sx2_len {q:List UInt8} (hq:qOk q):(sx2 q).length≤40:=by rcases hq with rfl|rfl|rfl|rfl<;>decide
def sx3 (q:List UInt8):List UInt8:= [102,117,110,99,32]++q++ [40,41,32,123,32,112,114,105,110,116,40,122,122,57,41,59,32,125]
def tx3 (q:List UInt8):List Tok:= [⟨2,zk8,0⟩,⟨1,q,5⟩,⟨4,cLB,7⟩,⟨4,cRB,8⟩,⟨4,cLC,10⟩,⟨2,zjc,12⟩,⟨4,cLB,17⟩,⟨1,[122,122,57],18⟩,⟨4,cRB,21⟩,⟨4,zzk,22⟩,⟨4,cRC,24⟩]
theorem sx3_is {q:List UInt8} (hq:qOk q):zjp (sx3 q)= .ok (tx3 q):=by rcases hq with rfl|rfl|rfl|rfl<;>kernel_rfl
theorem sx3_len {q:List UInt8} (hq:qOk q):(sx3 q).length≤40:=by rcases hq with rfl|rfl|rfl|rfl<;>decide
def dx1 (q:List UInt8) (N:Nat):Tree:= .mk 4 q [] 0 (N+1) [.mk 5 [112] kInt 0 (N+3) [],.mk 6 [] [] 0 (N+6) []]
theorem more1 {a q:List UInt8} {ta:List Tok} {ka:List Tree} (ha:zxt a= .ok ta ka) (hl:a.length≤2048) (hq:qOk q):zxt (a++10::sx1 q)= .ok (ta++(tx1 q).map (z0q (a.length+1))) (ka++ [dx1 q ta.length]):=
 parse_more ha (sx1_is hq) (by have:=sx1_len hq;omega) (fun T h=>suf1 T ta.length 0 q (h 0) (h 1) (h 2) (h 3) (h 4) (h 5) (h 6) (h 7) (h 8))
def dx2 (q:List UInt8) (N:Nat):Tree:= .mk 4 q [] 0 (N+1) [.mk 6 [] [] 0 (N+4) [.mk 8 q [] 0 (N+5) [.mk 15 [] [] 1 (N+7) []]]]
theorem more2 {a q:List UInt8} {ta:List Tok} {ka:List Tree} (ha:zxt a= .ok ta ka) (hl:a.length≤2048) (hq:qOk q):zxt (a++10::sx2 q)= .ok (ta++(tx2 q).map (z0q (a.length+1))) (ka++ [dx2 q ta.length]):=
 parse_more ha (sx2_is hq) (by have:=sx2_len hq;omega) (fun T h=>suf2 T ta.length 0 q hq (h 0) (h 1) (h 2) (h 3) (h 4) (h 5) (h 6) (h 7) (h 8) (h 9) (h 10))
def dx3 (q:List UInt8) (N:Nat):Tree:= .mk 4 q [] 0 (N+1) [.mk 6 [] [] 0 (N+4) [.mk 12 [] [] 0 (N+5) [.mk 18 [122,122,57] [] 0 (N+7) []]]]
theorem more3 {a q:List UInt8} {ta:List Tok} {ka:List Tree} (ha:zxt a= .ok ta ka) (hl:a.length≤2048) (hq:qOk q):zxt (a++10::sx3 q)= .ok (ta++(tx3 q).map (z0q (a.length+1))) (ka++ [dx3 q ta.length]):=
 parse_more ha (sx3_is hq) (by have:=sx3_len hq;omega) (fun T h=>suf3 T ta.length 0 q (h 0) (h 1) (h 2) (h 3) (h 4) (h 5) (h 6) (h 7) (h 8) (h 9) (h 10) (h 11))
theorem more2_at {a q:List UInt8} {ta:List Tok} (n:Nat):a.length<plf (ta++(tx2 q).map (z0q (a.length+1))) n (ta.length+5):=by
 unfold plf
 rw [List.getElem?_append_right (by omega),show ta.length+5 - ta.length=5 by omega]
 show a.length<12+(a.length+1)
 omega
def zz9:ByteArray:=⟨#[122,122,57]⟩
theorem types1 (ss:List Str) (q:List UInt8) (N:Nat):zqp ss (dx1 q N)= .ok ():=by
 have h:firC (dx1 q N).kids (z2y ss (dx1 q N)) 1= .ok ():=firC_all fun j hj=>by
  obtain rfl:j=0:=by omega
  rfl
 show (firC (dx1 q N).kids (z2y ss (dx1 q N)) 1).bind (fun _=>_)=_
 rw [h];rfl
theorem types2 (ss:List Str) (q:List UInt8) (N:Nat):zqp ss (dx2 q N)= .ok ():=rfl
theorem types3 (ss:List Str) (q:List UInt8) (N:Nat):zqp ss (dx3 q N)= .ok ():=rfl
theorem body1 (x:Inf) (q:List UInt8) (N:Nat):zvu x (dx1 q N)= .ok ():=rfl
theorem body2 {x:Inf} {q:List UInt8} (N:Nat) (hd:z3g x ⟨q.toArray⟩=true) (hg:plc x.globals ⟨q.toArray⟩=none):zvu x (dx2 q N)= .bad (N+5) 7:=by
 show ((zkf x zkx (.mk 8 q [] 0 (N+5) [.mk 15 [] [] 1 (N+7) []]) [] 0).bind fun K'=>zxm x zkx [] K' 0).bind (fun _=>_)=_
 rw [zkj]
 show ((((varC x [] (N+5) ⟨q.toArray⟩).bind fun v=>_).bind fun K'=>zxm x zkx [] K' 0).bind (fun _=>_):CR Unit)=_
 have:varC x [] (N+5) ⟨q.toArray⟩= .bad (N+5) 7:=by
  unfold varC
  rw [hd,hg]
  rfl
 rw [this]
 rfl
theorem body3 {x:Inf} (q:List UInt8) (N:Nat) (hg:plc x.globals zz9=none):∃ p e,zvu x (dx3 q N)= .bad p e:=by
 show ∃ p e,((zkf x zkx (.mk 12 [] [] 0 (N+5) [.mk 18 [122,122,57] [] 0 (N+7) []]) [] 0).bind fun K'=>zxm x zkx [] K' 0).bind (fun _=>_)=_
 rw [zkj]
 show ∃ p e,((((varC x [] (N+7) zz9).bind fun v=>_).bind fun K'=>zxm x zkx [] K' 0).bind (fun _=>_):CR Unit)=_
 have:∃ p e,varC x [] (N+7) zz9= .bad p e:=by
  unfold varC
  rw [hg]
  cases z3g x zz9
  ·exact ⟨_,_,rfl⟩
  ·exact ⟨_,_,rfl⟩
 obtain ⟨p,e,h⟩:=this
 rw [h]
 exact ⟨p,e,rfl⟩
theorem src_ok {a:List UInt8} {ts:List Tok} {ks:List Tree} {x:Inf} (h:zz1 a= .ok ts ks x):zxt a= .ok ts ks∧zqy (root ts ks)= .ok x:=by
 unfold zz1 srcOf at h
 cases hp:zxt a with
 |bad p e=>rw [hp] at h;cases h
 |ok ts' ks'=>
  rw [hp] at h
  dsimp only at h
  cases hc:zqy (root ts' ks') with
  |bad j e=>rw [hc] at h;cases h
  |ok y=>rw [hc] at h;cases h;exact ⟨rfl,hc⟩
theorem funO_last {x:Inf} {g:Sg} {n:ByteArray} (hn:eqB g.name n=true):(funO (addF x g) n).isSome=true:=by
 cases h:funO (addF x g) n with
 |some i=>rfl
 |none=>
  have:=zv2 h x.funs.length (Nat.zero_le _) (by simp [addF])
  unfold sgIs at this
  simp only [addF,List.getElem?_concat_length] at this
  rw [hn] at this;cases this
theorem eqB_self (a:ByteArray):eqB a a=true:=eqB_iff.2 rfl
section
variable {a q:List UInt8} {ts:List Tok} {ks:List Tree} {x:Inf}
theorem src_more1 (h:zz1 a= .ok ts ks x) (hl:a.length≤2048) (hq:qOk q) (hh:hasB x ⟨q.toArray⟩=false) (hf:x.funs.length<24):∃ ts' ks' ps r,zz1 (a++10::sx1 q)= .ok ts' ks' (addF x ⟨⟨q.toArray⟩,ps,r⟩):=by
 obtain ⟨hp,hc⟩:=src_ok h
 obtain ⟨-,hA,-⟩:=parsed hp
 have hm:=more1 hp hl hq
 obtain ⟨-,-,hk⟩:=check_more (tc:=ts++(tx1 q).map (z0q (a.length+1))) (d:=dx1 q ts.length) hc (fun d hd=>(hA d hd).2) rfl hh hf (types1 _ _ _)
 rw [body1] at hk
 refine ⟨ts++(tx1 q).map (z0q (a.length+1)),ks++ [dx1 q ts.length],zzp (dx1 q ts.length),tp (dx1 q ts.length),?_⟩
 unfold zz1 srcOf
 rw [hm]
 dsimp only
 rw [hk]
 rfl
theorem src_more2 (h:zz1 a= .ok ts ks x) (hl:a.length≤2048) (hq:qOk q) (hh:hasB x ⟨q.toArray⟩=false) (hf:x.funs.length<24):∃ p,zz1 (a++10::sx2 q)= .bad p 7∧a.length<p:=by
 obtain ⟨hp,hc⟩:=src_ok h
 obtain ⟨-,hA,-⟩:=parsed hp
 have hm:=more2 hp hl hq
 obtain ⟨-,-,hk⟩:=check_more (tc:=ts++(tx2 q).map (z0q (a.length+1))) (d:=dx2 q ts.length) hc (fun d hd=>(hA d hd).2) rfl hh hf (types2 _ _ _)
 have hg:plc x.globals ⟨q.toArray⟩=none:=by
  unfold hasB at hh
  simp only [Bool.or_eq_false_iff,Option.isSome_eq_false_iff,Option.isNone_iff_eq_none] at hh
  exact hh.2.1
 rw [body2 (x:=addF x ⟨nm (dx2 q ts.length),zzp (dx2 q ts.length),tp (dx2 q ts.length)⟩) ts.length (by unfold z3g;rw [funO_last (n:=⟨q.toArray⟩) (eqB_self _)];simp) hg] at hk
 refine ⟨plf (ts++(tx2 q).map (z0q (a.length+1))) (a++10::sx2 q).length (ts.length+5),?_,more2_at _⟩
 unfold zz1 srcOf
 rw [hm]
 dsimp only
 rw [hk]
 rfl
theorem src_more3 (h:zz1 a= .ok ts ks x) (hl:a.length≤2048) (hq:qOk q) (hh:hasB x ⟨q.toArray⟩=false) (hf:x.funs.length<24) (hg:plc x.globals zz9=none):errS (zz1 (a++10::sx3 q))≠0:=by
 obtain ⟨hp,hc⟩:=src_ok h
 obtain ⟨-,hA,-⟩:=parsed hp
 have hm:=more3 hp hl hq
 obtain ⟨-,-,hk⟩:=check_more (tc:=ts++(tx3 q).map (z0q (a.length+1))) (d:=dx3 q ts.length) hc (fun d hd=>(hA d hd).2) rfl hh hf (types3 _ _ _)
 obtain ⟨p,e,hb⟩:=body3 (x:=addF x ⟨nm (dx3 q ts.length),zzp (dx3 q ts.length),tp (dx3 q ts.length)⟩) q ts.length hg
 rw [hb] at hk
 have he:=chk_ne (hk.trans rfl)
 unfold zz1 srcOf
 rw [hm]
 dsimp only
 rw [hk]
 exact he
end
theorem more_long (s:ByteArray) (w:World) (g:Good w) (hs:2048<s.size):Calls Tryz.prog 6 #[.string s] w fun e w'=>e= .returned (.bool true)∧Below w.heap.size w w':=by
 have AW:=hid (awake5 w g)
 clear g
 go_enter Tryz.func6,Tryz.ntmps6
 go_wp2_with fail
 refine AW.out.mono ?_
 rintro e w1 ⟨rfl,hb⟩
 have hli:(2048:Int)<(s.size:Int):=by omega
 go_wp2_with fail
 go_ret
 exact ⟨rfl,hb⟩
theorem more_bad (s:ByteArray) (p er:Nat) (w:World) (g:Good w) (hs:s.size≤2048) (h:Hid (zz1 s.data.toList= .bad p er)) (he:er≠0):Calls Tryz.prog 6 #[.string s] w fun e w'=>e= .returned (.bool true)∧Below w.heap.size w w':=by
 have AW:=hid (awake5 w g)
 have G:=hid g
 clear g
 have hne:((er:Int) !=0)=true:=by simp;omega
 go_enter Tryz.func6,Tryz.ntmps6
 go_wp2_with fail
 refine AW.out.mono ?_
 rintro e w1 ⟨rfl,hb⟩
 have B1:=hid hb
 have G1:=hid (G.out.below hb)
 clear hb AW G
 have hli:¬ (2048:Int)<(s.size:Int):=by omega
 go_wp2_with fail
 refine Calls.mono (R:=SU (.bad p er) w1) (zq3 s _ w1 G1.out (by omega) h) ?_
 rintro e w2 ⟨hb,q,E,rfl,-,-⟩
 have B2:=hid ((B1.out.trans (hb.mono B1.out.size)).trans ((b2 w2 (.cells #[.pointer q] 25) (.cells #[.slice E.sA E.x.structs.length E.sc,.slice E.gA E.x.globals.length E.gc,.slice E.fA E.x.funs.length E.fc] 44)).mono (B1.out.trans (hb.mono B1.out.size)).size))
 clear hb
 unfold infV
 simp only [plcS,errS]
 go_wp2_with fail
 go_ret
 exact ⟨rfl,B2.out⟩
theorem more_full (s:ByteArray) (ts:List Tok) (ks:List Tree) (x:Inf) (w:World) (g:Good w) (hs:s.size≤2048) (h:Hid (zz1 s.data.toList= .ok ts ks x)) (hf:24≤x.funs.length):Calls Tryz.prog 6 #[.string s] w fun e w'=>e= .returned (.bool true)∧Below w.heap.size w w':=by
 have AW:=hid (awake5 w g)
 have G:=hid g
 clear g
 go_enter Tryz.func6,Tryz.ntmps6
 go_wp2_with fail
 refine AW.out.mono ?_
 rintro e w1 ⟨rfl,hb⟩
 have B1:=hid hb
 have G1:=hid (G.out.below hb)
 clear hb AW G
 have hli:¬ (2048:Int)<(s.size:Int):=by omega
 go_wp2_with fail
 refine Calls.mono (R:=SU (.ok ts ks x) w1) (zq3 s _ w1 G1.out (by omega) h) ?_
 rintro e w2 ⟨hb,q,E,rfl,hx,-⟩
 have hff:(24:Int)≤(E.x.funs.length:Int):=by rw [show E.x=x from hx];omega
 have B2:=hid ((B1.out.trans (hb.mono B1.out.size)).trans ((b2 w2 (.cells #[.pointer q] 25) (.cells #[.slice E.sA E.x.structs.length E.sc,.slice E.gA E.x.globals.length E.gc,.slice E.fA E.x.funs.length E.fc] 44)).mono (B1.out.trans (hb.mono B1.out.size)).size))
 have V:=VI.two E w2 q
 obtain ⟨c0,c1,c2⟩:=(show _∧_∧_ from ⟨V.c0,V.c1,V.c2⟩)
 clear hb V hx
 unfold infV
 simp only [plcS,errS]
 go_wp2_with fail
 go_ret
 exact ⟨rfl,B2.out⟩
def qs (k:Nat):ByteArray:=if k=0 then ⟨#[113,97]⟩ else if k=1 then ⟨#[113,98]⟩ else if k=2 then ⟨#[113,99]⟩ else ⟨#[113,100]⟩
def nameK (x:Inf):Nat→ByteArray
 |0=>⟨#[]⟩
 |k+1=>if hasB x (qs k) then nameK x k else qs k
theorem qs_ok (k:Nat):∃ q,qOk q∧qs k=⟨q.toArray⟩:=by
 unfold qs qOk
 split
 ·exact ⟨_,.inl rfl,rfl⟩
 ·split
  ·exact ⟨_,.inr (.inl rfl),rfl⟩
  ·split
   ·exact ⟨_,.inr (.inr (.inl rfl)),rfl⟩
   ·exact ⟨_,.inr (.inr (.inr rfl)),rfl⟩
theorem nameK_yes {x:Inf} {k:Nat} (h:hasB x (qs k)=true):nameK x (k+1)=nameK x k:=by rw [nameK,if_pos h]
theorem nameK_no {x:Inf} {k:Nat} (h:hasB x (qs k)=false):nameK x (k+1)=qs k:=by rw [nameK,if_neg (by rw [h];decide)]
theorem nameK_is (x:Inf):∀ k,nameK x k=⟨#[]⟩∨∃ q,qOk q∧nameK x k=⟨q.toArray⟩∧hasB x ⟨q.toArray⟩=false
 |0=> .inl rfl
 |k+1=>by
  cases hh:hasB x (qs k) with
  |true=>rw [nameK_yes hh];exact nameK_is x k
  |false=>
   rw [nameK_no hh]
   obtain ⟨q,h1,h2⟩:=qs_ok k
   exact .inr ⟨q,h1,h2,by rw [←h2];exact hh⟩
theorem cat1 (s n:ByteArray):(s++(⟨#[10,102,117,110,99,32]⟩:ByteArray)++n++(⟨#[40,112,32,105,110,116,41,32,123,32,125]⟩:ByteArray)).data.toList=s.data.toList++10::sx1 n.data.toList:=by
 simp only [ByteArray.data_append];simp [sx1]
theorem cat1_le {s n:ByteArray} {q:List UInt8} (hs:s.size≤2048) (hq:qOk q) (hn:(⟨q.toArray⟩:ByteArray)=n):(s++(⟨#[10,102,117,110,99,32]⟩:ByteArray)++n++(⟨#[40,112,32,105,110,116,41,32,123,32,125]⟩:ByteArray)).size≤281474976710656:=by
 subst hn
 rw [←zzg,cat1,List.length_append,List.length_cons,zzg]
 have:=sx1_len hq
 simp only
 omega
theorem cat2 (s n:ByteArray):(s++(⟨#[10,102,117,110,99,32]⟩:ByteArray)++n++(⟨#[40,41,32,123,32]⟩:ByteArray)++n++(⟨#[32,61,32,49,59,32,125]⟩:ByteArray)).data.toList=s.data.toList++10::sx2 n.data.toList:=by
 simp only [ByteArray.data_append];simp [sx2]
theorem cat2_le {s n:ByteArray} {q:List UInt8} (hs:s.size≤2048) (hq:qOk q) (hn:(⟨q.toArray⟩:ByteArray)=n):(s++(⟨#[10,102,117,110,99,32]⟩:ByteArray)++n++(⟨#[40,41,32,123,32]⟩:ByteArray)++n++(⟨#[32,61,32,49,59,32,125]⟩:ByteArray)).size≤281474976710656:=by
 subst hn
 rw [←zzg,cat2,List.length_append,List.length_cons,zzg]
 have:=sx2_len hq
 simp only
 omega
theorem cat3 (s n:ByteArray):(s++(⟨#[10,102,117,110,99,32]⟩:ByteArray)++n++(⟨#[40,41,32,123,32,112,114,105,110,116,40,122,122,57,41,59,32,125]⟩:ByteArray)).data.toList=s.data.toList++10::sx3 n.data.toList:=by
 simp only [ByteArray.data_append];simp [sx3]
theorem cat3_le {s n:ByteArray} {q:List UInt8} (hs:s.size≤2048) (hq:qOk q) (hn:(⟨q.toArray⟩:ByteArray)=n):(s++(⟨#[10,102,117,110,99,32]⟩:ByteArray)++n++(⟨#[40,41,32,123,32,112,114,105,110,116,40,122,122,57,41,59,32,125]⟩:ByteArray)).size≤281474976710656:=by
 subst hn
 rw [←zzg,cat3,List.length_append,List.length_cons,zzg]
 have:=sx3_len hq
 simp only
 omega
theorem src_ne {l:List UInt8} {p e:Nat} (h:zz1 l= .bad p e):e≠0:=by
 unfold zz1 srcOf at h
 cases hp:zxt l with
 |bad p' e'=>rw [hp] at h;cases h;exact z2z hp
 |ok ts ks=>
  rw [hp] at h
  dsimp only at h
  cases hc:zqy (root ts ks) with
  |ok x=>rw [hc] at h;cases h
  |bad j e'=>rw [hc] at h;cases h;exact chk_ne hc
theorem names_run (w:World):(Instr.buildSlice 63 4 #[(0,.string ⟨#[113,97]⟩),(1,.string ⟨#[113,98]⟩),(2,.string ⟨#[113,99]⟩),(3,.string ⟨#[113,100]⟩)]).run Tryz.prog w= .ok (.slice (some ⟨w.heap.size,0,none⟩) 4 4) (w.alloc (.cells #[.string ⟨#[113,97]⟩,.string ⟨#[113,98]⟩,.string ⟨#[113,99]⟩,.string ⟨#[113,100]⟩] 9)):=by
 kernel_rfl
theorem more_go (s:ByteArray) (ts:List Tok) (ks:List Tree) (x:Inf) (w:World) (g:Good w) (hs:s.size≤2048) (h:Hid (zz1 s.data.toList= .ok ts ks x)) (hf:Hid (x.funs.length<24)):Calls Tryz.prog 6 #[.string s] w fun e w'=>e= .returned (.bool true)∧Below w.heap.size w w':=by
 have AW:=hid (awake5 w g)
 have G:=hid g
 clear g
 go_enter Tryz.func6,Tryz.ntmps6
 go_wp2_with fail
 refine AW.out.mono ?_
 rintro e w1 ⟨rfl,hb⟩
 have B1:=hid hb
 have G1:=hid (G.out.below hb)
 clear hb AW G
 have hli:¬ (2048:Int)<(s.size:Int):=by omega
 go_wp2_with fail
 refine Calls.mono (R:=SU (.ok ts ks x) w1) (zq3 s _ w1 G1.out (by omega) h) ?_
 rintro e w2 ⟨hb,q,E,rfl,hx,hI⟩
 have hx2:E.x=x:=hx
 clear hx
 subst hx2
 have hff:¬ (24:Int)≤(E.x.funs.length:Int):=by have:=hf.out;omega
 have B2:=hid ((B1.out.trans (hb.mono B1.out.size)).trans ((b2 w2 (.cells #[.pointer q] 25) (.cells #[.slice E.sA E.x.structs.length E.sc,.slice E.gA E.x.globals.length E.gc,.slice E.fA E.x.funs.length E.fc] 44)).mono (B1.out.trans (hb.mono B1.out.size)).size))
 have I2:=hid (hI.below (b2 w2 (.cells #[.pointer q] 25) (.cells #[.slice E.sA E.x.structs.length E.sc,.slice E.gA E.x.globals.length E.gc,.slice E.fA E.x.funs.length E.fc] 44)))
 have V:=VI.two E w2 q
 obtain ⟨c0,c1,c2⟩:=(show _∧_∧_ from ⟨V.c0,V.c1,V.c2⟩)
 have V2:=hid V
 clear hb V hI B1 G1
 unfold infV
 simp only [plcS,errS]
 have hnr:=names_run
 have BN:=hid (b1 ((w2.alloc (.cells #[.pointer q] 25)).alloc (.cells #[.slice E.sA E.x.structs.length E.sc,.slice E.gA E.x.globals.length E.gc,.slice E.fA E.x.funs.length E.fc] 44)) (.cells #[.string ⟨#[113,97]⟩,.string ⟨#[113,98]⟩,.string ⟨#[113,99]⟩,.string ⟨#[113,100]⟩] 9))
 have B3:=hid (B2.out.trans (BN.out.mono B2.out.size))
 have I3:=hid (I2.out.below BN.out)
 have V3:=hid (V2.out.below BN.out)
 have N3:Hid (∀ k,k<4→(((w2.alloc (.cells #[.pointer q] 25)).alloc (.cells #[.slice E.sA E.x.structs.length E.sc,.slice E.gA E.x.globals.length E.gc,.slice E.fA E.x.funs.length E.fc] 44)).alloc (.cells #[.string ⟨#[113,97]⟩,.string ⟨#[113,98]⟩,.string ⟨#[113,99]⟩,.string ⟨#[113,100]⟩] 9)).cell? ⟨w2.heap.size+1+1,k,none⟩=some (.string (qs k))):=by
  intro k hk
  have h9:((w2.alloc (.cells #[.pointer q] 25)).alloc (.cells #[.slice E.sA E.x.structs.length E.sc,.slice E.gA E.x.globals.length E.gc,.slice E.fA E.x.funs.length E.fc] 44)).heap.size=w2.heap.size+1+1:=by simp
  rw [←h9]
  rcases k with _|_|_|_|k
  ·exact zxa _ _ 9 0
  ·exact zxa _ _ 9 1
  ·exact zxa _ _ 9 2
  ·exact zxa _ _ 9 3
  ·omega
 have hsz:Hid (w2.heap.size+1+1<(((w2.alloc (.cells #[.pointer q] 25)).alloc (.cells #[.slice E.sA E.x.structs.length E.sc,.slice E.gA E.x.globals.length E.gc,.slice E.fA E.x.funs.length E.fc] 44)).alloc (.cells #[.string ⟨#[113,97]⟩,.string ⟨#[113,98]⟩,.string ⟨#[113,99]⟩,.string ⟨#[113,100]⟩] 9)).heap.size):=by show _<_;simp
 clear BN B2 I2 V2
 go_wp2_with fail
 clear hnr c0 c1 c2
 generalize ((w2.alloc (.cells #[.pointer q] 25)).alloc (.cells #[.slice E.sA E.x.structs.length E.sc,.slice E.gA E.x.globals.length E.gc,.slice E.fA E.x.funs.length E.fc] 44)).alloc (.cells #[.string ⟨#[113,97]⟩,.string ⟨#[113,98]⟩,.string ⟨#[113,99]⟩,.string ⟨#[113,100]⟩] 9)=wS at*
 go_loopw [8,9] (fun n i wr=>∃ k,k≤4∧i= .int .i64 (k:Nat)∧n= .string (nameK E.x k)∧Below wS.heap.size wS wr) (fun _ i _=>4 - (intOf i).toNat)
 case atStart=>exact ⟨0,Nat.zero_le _,rfl,rfl,Below.refl _ _⟩
 case round=>
  obtain ⟨k,hk,rfl,rfl,hb⟩:=hrel
  have B4:=hid (B3.out.trans (hb.mono B3.out.size))
  have I4:=hid (I3.out.below hb)
  have V4:=hid (V3.out.below hb)
  have hb0:=hid hb
  by_cases hlt:k<4
  ·have n4:=(hb.cell (p:=⟨w2.heap.size+1+1,k,none⟩) hsz.out).trans (N3.out k hlt)
   have hlt2:(k:Int)<4:=by omega
   obtain ⟨c0,c1,c2⟩:=(show _∧_∧_ from ⟨V4.out.c0,V4.out.c1,V4.out.c2⟩)
   clear hb
   cases hh:hasB E.x (qs k) with
   |true=>
    have HH:=hid hh
    have hn:=hid (nameK_yes hh)
    clear hh
    go_wp2_with fail
    go_region_with (first|(go_at_call 28;refine (has_any E (qs k) true _ (I4.out.below (Below.refl _ _).drew) HH).mono ?_;rintro e w5 ⟨rfl,b5⟩))
    all_goals
     have d5:=hid (hb0.out.trans (((Below.refl wr.heap.size wr).drew.trans (b5.mono (Nat.le_refl _))).mono hb0.out.size))
     clear b5 c0 c1 c2 n4
     go_wp2_with fail
     exact ⟨⟨k+1,by omega,by go_num,by rw [hn.out],d5.out⟩,by simp [intOf];omega⟩
   |false=>
    have HH:=hid hh
    have hn:=hid (nameK_no hh)
    clear hh
    go_wp2_with fail
    go_region_with (first|(go_at_call 28;refine (has_any E (qs k) false _ (I4.out.below (Below.refl _ _).drew) HH).mono ?_;rintro e w5 ⟨rfl,b5⟩))
    all_goals
     have d4:=(Below.refl wr.heap.size wr).drew.trans (b5.mono (Nat.le_refl _))
     have n5:=(d4.cell (p:=⟨w2.heap.size+1+1,k,none⟩) (Nat.lt_of_lt_of_le hsz.out hb0.out.size)).trans n4
     have d5:=hid (hb0.out.trans (d4.mono hb0.out.size))
     clear b5 c0 c1 c2 n4 d4
     go_wp2_with fail
     exact ⟨⟨k+1,by omega,by go_num,by rw [hn.out],d5.out⟩,by simp [intOf];omega⟩
  ·obtain rfl:k=4:=by omega
   clear hb
   rcases nameK_is E.x 4 with h0|⟨q2,hq,h1,h2⟩
   ·rw [h0]
    go_wp2_with fail
    go_ret
    exact ⟨rfl,B4.out⟩
   ·rw [h1]
    have hem:(⟨q2.toArray⟩:ByteArray).toList.isEmpty=false:=zj7 (by rcases hq with rfl|rfl|rfl|rfl<;>decide)
    have HQ:=hid hq
    have H2:=hid h2
    obtain ⟨n,hn⟩:∃ n:ByteArray,(⟨q2.toArray⟩:ByteArray)=n:=⟨_,rfl⟩
    rw [hn] at hem
    rw [hn]
    have HN:=hid hn
    clear hn hq h1 h2
    have hn2:n.size≤2:=by rw [←HN.out];rcases HQ.out with rfl|rfl|rfl|rfl<;>decide
    have hl:s.data.toList.length≤2048:=by rw [zzg];exact hs
    have hnl:n.data.toList=q2:=by rw [←HN.out]
    obtain ⟨ts1,ks1,ps1,r1,hs1⟩:=src_more1 h.out hl HQ.out H2.out hf.out
    obtain ⟨pp,hs2,hpp⟩:=src_more2 h.out hl HQ.out H2.out hf.out
    obtain ⟨r3,hr3⟩:∃ r,zz1 (s.data.toList++10::sx3 q2)=r:=⟨_,rfl⟩
    have hz3:plc E.x.globals zz9=none→errS r3≠0:=fun hg=>by rw [←hr3];exact src_more3 h.out hl HQ.out H2.out hf.out hg
    have HS1:Hid (zz1 (s++(⟨#[10,102,117,110,99,32]⟩:ByteArray)++n++(⟨#[40,112,32,105,110,116,41,32,123,32,125]⟩:ByteArray)).data.toList= .ok ts1 ks1 (addF E.x ⟨⟨q2.toArray⟩,ps1,r1⟩)):=by show _=_;rw [cat1,hnl];exact hs1
    have HS2:Hid (zz1 (s++(⟨#[10,102,117,110,99,32]⟩:ByteArray)++n++(⟨#[40,41,32,123,32]⟩:ByteArray)++n++(⟨#[32,61,32,49,59,32,125]⟩:ByteArray)).data.toList= .bad pp 7):=by show _=_;rw [cat2,hnl];exact hs2
    have HS3:Hid (zz1 (s++(⟨#[10,102,117,110,99,32]⟩:ByteArray)++n++(⟨#[40,41,32,123,32,112,114,105,110,116,40,122,122,57,41,59,32,125]⟩:ByteArray)).data.toList=r3):=by show _=_;rw [cat3,hnl];exact hr3
    have hp2:(s.size:Int)<(pp:Int):=by rw [zzg] at hpp;omega
    have HZ3:=hid hz3
    have G4:=hid I4.out.good
    clear hs1 hs2 hr3 hpp hz3 hnl hl
    go_wp2_with fail
    refine Calls.mono (R:=SU (.ok ts1 ks1 (addF E.x ⟨⟨q2.toArray⟩,ps1,r1⟩)) wr) (zq3 (s++(⟨#[10,102,117,110,99,32]⟩:ByteArray)++n++(⟨#[40,112,32,105,110,116,41,32,123,32,125]⟩:ByteArray)) _ wr G4.out (cat1_le hs HQ.out HN.out) HS1) ?_
    rintro e u1 ⟨hb,p1,E1,rfl,hx,hI⟩
    have b9:=hb.trans ((b2 u1 (.cells #[.pointer p1] 25) (.cells #[.slice E1.sA E1.x.structs.length E1.sc,.slice E1.gA E1.x.globals.length E1.gc,.slice E1.fA E1.x.funs.length E1.fc] 44)).mono hb.size)
    have B5:=hid (B4.out.trans (b9.mono B4.out.size))
    have G5:=hid (G4.out.below b9)
    have V4n:=hid (V4.out.below b9)
    have I4n:=hid (I4.out.below b9)
    clear B4 G4 V4 I4
    have B4:=B5
    have G4:=G5
    have V4:=V4n
    have I4:=I4n
    clear B5 G5 b9 hb V4n I4n
    have HX1:=hid hx
    have IA:=hid (hI.below (b2 u1 (.cells #[.pointer p1] 25) (.cells #[.slice E1.sA E1.x.structs.length E1.sc,.slice E1.gA E1.x.globals.length E1.gc,.slice E1.fA E1.x.funs.length E1.fc] 44)))
    have VA:=hid (VI.two E1 u1 p1)
    clear hx hI
    unfold infV
    simp only [plcS,errS]
    go_wp2_with fail
    generalize ((u1.alloc (.cells #[.pointer p1] 25)).alloc (.cells #[.slice E1.sA E1.x.structs.length E1.sc,.slice E1.gA E1.x.globals.length E1.gc,.slice E1.fA E1.x.funs.length E1.fc] 44))=y1 at*
    refine Calls.mono (R:=SU (.bad pp 7) y1) (zq3 (s++(⟨#[10,102,117,110,99,32]⟩:ByteArray)++n++(⟨#[40,41,32,123,32]⟩:ByteArray)++n++(⟨#[32,61,32,49,59,32,125]⟩:ByteArray)) _ y1 G4.out (cat2_le hs HQ.out HN.out) HS2) ?_
    rintro e u2 ⟨hb,p2,E2,rfl,hx,hI⟩
    have b9:=hb.trans ((b2 u2 (.cells #[.pointer p2] 25) (.cells #[.slice E2.sA E2.x.structs.length E2.sc,.slice E2.gA E2.x.globals.length E2.gc,.slice E2.fA E2.x.funs.length E2.fc] 44)).mono hb.size)
    have B5:=hid (B4.out.trans (b9.mono B4.out.size))
    have G5:=hid (G4.out.below b9)
    have V4n:=hid (V4.out.below b9)
    have I4n:=hid (I4.out.below b9)
    have VAn:=hid (VA.out.below b9)
    have IAn:=hid (IA.out.below b9)
    clear B4 G4 V4 I4 VA IA
    have B4:=B5
    have G4:=G5
    have V4:=V4n
    have I4:=I4n
    have VA:=VAn
    have IA:=IAn
    clear B5 G5 b9 hb V4n I4n VAn IAn
    clear hx hI
    unfold infV
    simp only [plcS,errS]
    go_wp2_with fail
    generalize ((u2.alloc (.cells #[.pointer p2] 25)).alloc (.cells #[.slice E2.sA E2.x.structs.length E2.sc,.slice E2.gA E2.x.globals.length E2.gc,.slice E2.fA E2.x.funs.length E2.fc] 44))=y2 at*
    refine Calls.mono (R:=SU r3 y2) (zq3 (s++(⟨#[10,102,117,110,99,32]⟩:ByteArray)++n++(⟨#[40,41,32,123,32,112,114,105,110,116,40,122,122,57,41,59,32,125]⟩:ByteArray)) _ y2 G4.out (cat3_le hs HQ.out HN.out) HS3) ?_
    rintro e u3 ⟨hb,p3,E3,rfl,hx,hI⟩
    have b9:=hb.trans ((b2 u3 (.cells #[.pointer p3] 25) (.cells #[.slice E3.sA E3.x.structs.length E3.sc,.slice E3.gA E3.x.globals.length E3.gc,.slice E3.fA E3.x.funs.length E3.fc] 44)).mono hb.size)
    have B5:=hid (B4.out.trans (b9.mono B4.out.size))
    have G5:=hid (G4.out.below b9)
    have V4n:=hid (V4.out.below b9)
    have I4n:=hid (I4.out.below b9)
    have VAn:=hid (VA.out.below b9)
    have IAn:=hid (IA.out.below b9)
    clear B4 G4 V4 I4 VA IA
    have B4:=B5
    have G4:=G5
    have V4:=V4n
    have I4:=I4n
    have VA:=VAn
    have IA:=IAn
    clear B5 G5 b9 hb V4n I4n VAn IAn
    clear hx hI
    unfold infV
    obtain ⟨c0,c1,c2⟩:=(show _∧_∧_ from ⟨V4.out.c0,V4.out.c1,V4.out.c2⟩)
    obtain ⟨e3,he3⟩:∃ e,errS r3=e:=⟨_,rfl⟩
    have HE3:=hid he3
    rw [he3]
    clear he3
    generalize plcS r3=p3n
    go_wp2_with fail
    clear c0 c1 c2
    generalize ((u3.alloc (.cells #[.pointer p3] 25)).alloc (.cells #[.slice E3.sA E3.x.structs.length E3.sc,.slice E3.gA E3.x.globals.length E3.gc,.slice E3.fA E3.x.funs.length E3.fc] 44))=y3 at*
    refine Calls.mono (R:=fun e w'=>e= .returned (zqt (plc E.x.globals zz9))∧Below y3.heap.size y3 w') (zvr E zz9 _ y3 I4.out (hid rfl)) ?_
    rintro e y4 ⟨rfl,hb⟩
    have b9:=hb
    have B5:=hid (B4.out.trans (b9.mono B4.out.size))
    have V5:=hid (V4.out.below b9)
    have VB:=hid (VA.out.below b9)
    have IB:=hid (IA.out.below b9)
    clear B4 G4 V4 I4 VA IA b9 hb
    have hB:∃ i,zqt (plc E.x.globals zz9)= .tuple #[.int .i64 i,.bool (plc E.x.globals zz9).isSome]:=by cases plc E.x.globals zz9<;>exact ⟨_,rfl⟩
    obtain ⟨iB,hB⟩:=hB
    rw [hB]
    clear hB
    have hz:e3=0→(plc E.x.globals zz9).isSome=true:=fun h0=>by
     cases hg:plc E.x.globals zz9 with
     |some _=>rfl
     |none=>exact absurd (HE3.out.trans h0) (HZ3.out hg)
    have hl1:E1.x.funs.length=E.x.funs.length+1:=by rw [HX1.out];simp [infS,addF]
    have hg1:E1.x.funs[E.x.funs.length]? =some ⟨⟨q2.toArray⟩,ps1,r1⟩:=by rw [HX1.out];simp [infS,addF]
    obtain ⟨fb,fo,hfa,hfl,hfc⟩:=IB.out.F (by omega)
    obtain ⟨PA,pc,f0,-,-,-⟩:=hfc _ _ hg1
    obtain ⟨c0,c1,c2⟩:=(show _∧_∧_ from ⟨V5.out.c0,V5.out.c1,V5.out.c2⟩)
    obtain ⟨d0,d1,d2⟩:=(show _∧_∧_ from ⟨VB.out.c0,VB.out.c1,VB.out.c2⟩)
    simp only [HN.out] at f0
    rw [hfa,hl1] at d2
    have hm:=hf.out
    clear hfc hg1 hfa hl1 V5 VB IB
    generalize (plc E.x.globals zz9).isSome=zb at*
    by_cases h3:e3=0
    ·have hz:=hz h3
     subst hz h3
     go_wp2_with fail
     go_ret
     exact ⟨rfl,B5.out⟩
    ·have hne:((e3:Int) !=0)=true:=by simp;omega
     clear hz
     go_wp2_with fail
     go_ret
     exact ⟨rfl,B5.out⟩
theorem more_true (s:ByteArray) (w:World) (g:Good w):Calls Tryz.prog 6 #[.string s] w fun e w'=>e= .returned (.bool true)∧Below w.heap.size w w':=by
 by_cases hl:2048<s.size
 ·exact more_long s w g hl
 ·obtain ⟨r,hr⟩:∃ r,zz1 s.data.toList=r:=⟨_,rfl⟩
  cases r with
  |bad p er=>exact more_bad s p er w g (by omega) hr (src_ne hr)
  |ok ts ks x=>
   by_cases hf:x.funs.length<24
   ·exact more_go s ts ks x w g (by omega) hr hf
   ·exact more_full s ts ks x w g (by omega) hr (by omega)
open Go.ChangeShapes Go.WideShapes Go.ChangeAt Go.RowKit
open Go.ChangeMaps (open_string shut_string)
namespace CheckMore

theorem contract (H : Type) (enc : TypeId × Value → H) (W : World) (base : Nat) (args : Array Value) (ds gs : List (DataW H)) (before : List MemPlace)
    (hval : ∀ (j : Nat) t v, Tryz.f6.params[j]? = some t → args[j]? = some v → Value.okWide Tryz.prog W .any base t v)
    (hW : DataW.Whole enc Tryz.prog Tryz.f6.params.toList Rows.checkMoreSpec.vars false W args.toList ds gs before)
    (hsz0 : (DataW.weightsEach Tryz.prog (Tryz.f6.params.toList ++ (OpenSpec.ofChange Rows.checkMoreSpec).bare.plain.varTypes Tryz.prog) (ds ++ gs)).all (· ≤ reachBytes) = true)
    (hL : laidMetH Tryz.prog Rows.checkMoreRow.laid W) :
    Calls Tryz.prog 6 args W fun e W' => ∃ v, e = .returned v ∧ Rows.checkMoreSpec.post enc Tryz.prog Tryz.f6 false true false false W args v W' := by
  have hW' := hW
  obtain ⟨p, q, hA0, hV, rfl, hfz, hnd⟩ := hW
  have hA : DataW.TrodAll enc Tryz.prog W 0 (fun _ => true) true Tryz.f6.params.toList args.toList ds p := hA0
  have hsz : (DataW.weightsEach Tryz.prog (Tryz.f6.params.toList ++ Rows.checkMoreSpec.plain.varTypes Tryz.prog) (ds ++ gs)).all (· ≤ reachBytes) = true := hsz0
  clear hsz0
  rw [Tryz.params6] at hA hval hsz
  obtain ⟨v0, vs0, d0, ds0, p0, q0, hargs, rfl, rfl, h0, r0⟩ := trodAll_cons hA
  obtain ⟨rfl, rfl, rfl⟩ := trodAll_nil r0
  obtain rfl : args = #[v0] := by cases args; simp_all
  obtain ⟨rfl, rfl⟩ := trodVars_none hV
  obtain ⟨x0, rfl, rfl, rfl, hs0⟩ := open_string Tryz.underlying9 (hval 0 9 v0 rfl rfl) h0
  have l0 : x0.size ≤ 281474976710656 := by
    have k1 := sized_string hsz (j := 0) (t := 9) rfl rfl
    have k2 := reachBytes_lt
    have e1 : x0.size = x0.data.size := rfl
    have e2 : x0.data.toList.length = x0.data.size := Array.length_toList
    have e3 : (2 : Nat) ^ 47 = 140737488355328 := by decide
    omega
  clear hA0
  simp only [List.append_nil] at hW'
  have GP := good_of hL
  have walk : Calls Tryz.prog 6 #[.string x0] W fun e w' => e = .returned (.bool true) ∧ Below W.heap.size W w' := more_true x0 W GP.1
  refine walk.mono fun e W' ⟨he, hb⟩ => ?_
  subst he
  refine ⟨_, rfl, _, _, _, [], [], [], hW', ?_, ?_, rfl, hb.frame _, fun h => by cases h⟩
  · exact trodAll_cons_mk (shut_bool Tryz.underlying4 _) trodAll_mk0
  · exact trodAll_cons_mk (shut_string Tryz.underlying9 hs0) trodAll_mk0

theorem reads (os : Os) {H : Type} (enc : TypeId × Value → H) : ∃ places, DataW.whole enc Tryz.prog ((World.doorLaid Tryz.prog 77 os).forCall (fun _ _ => 0) ⟨#[], #[.string ⟨#[]⟩], []⟩).memory Tryz.f6.params.toList Rows.checkMoreSpec.vars false #[Value.string ⟨#[]⟩].toList 8 = some ([.lit (.string [])], [], places) :=
  ⟨[], by kernel_rfl⟩

theorem lifted (os : Os) (started : os.Started) (H : Type) (enc : TypeId × Value → H) (F : Stop.Interp) :
    ReturnsInHanded {} Tryz.checked os 6 .any ((OpenSpec.ofChange Rows.checkMoreSpec).preRow enc Tryz.prog Tryz.f6 Rows.checkMoreRow.domain false Rows.checkMoreRow.laid) (((OpenSpec.ofChange Rows.checkMoreSpec).at F).post enc Tryz.prog Tryz.f6 false true false false) := by
  obtain ⟨places, hx⟩ := reads os enc
  refine returnsInHanded_of_row (C := Tryz.checked) (s := OpenSpec.ofChange Rows.checkMoreSpec) own started (by kernel_rfl) Tryz.func6
    (witness_row_atRef (enc := enc) (C := Tryz.checked) false (World.doorLaid Tryz.prog 77 os) #[.string ⟨#[]⟩] rfl (by kernel_rfl) (by kernel_rfl) (by kernel_rfl)
      (OpenSpec.preRow_of_cond 8 hx (by kernel_rfl) (fun k hk => by cases hk) (by kernel_rfl) (door_met os _))) ?_
  intro W base args ds gs before hval hW _ _ hsz hL _ _
  exact contract H enc W base args ds gs before hval hW hsz hL

theorem said : Rows.CheckMoreSaid :=
  OpenClaim.holds_of_cond 6 Tryz.f6 rfl rfl rfl rfl rfl rfl rfl ⟨rfl, rfl, rfl, rfl, rfl⟩ rfl rfl rfl rfl rfl (by kernel_rfl) Tryz.func6 (by kernel_rfl)
    (of_decide_eq_true (by kernel_rfl)) (by unfold Func.isWrapper; first | (rw [if_pos (by decide +kernel)]; kernel_rfl) | (rw [if_neg (by decide +kernel)]; exact ⟨rfl, rfl⟩))
    (fun os started H enc _ F => by rw [OpenClaim.pre_eq_preRow]; exact lifted os started H enc F)

theorem plain (f : FuncId) (fn : Func) (hf : Tryz.pinned.checked.prog.funcNamed Rows.checkMoreRow.func = some f) (hfn : Tryz.pinned.checked.prog.funcs[f]? = some fn) :
    true = Tryz.pinned.checked.prog.looks [] ∧ ∀ (j : Nat) t, fn.params[j]? = some t → Tryz.pinned.checked.prog.wantsStandIn t = false := by
  obtain rfl : f = 6 := Option.some.inj ((show Tryz.prog.funcNamed Rows.checkMoreRow.func = some 6 by kernel_rfl).symm.trans hf) |>.symm
  obtain rfl : fn = Tryz.f6 := (Option.some.inj (Tryz.func6.symm.trans hfn)).symm
  refine ⟨by kernel_rfl, fun j t ht => ?_⟩
  rw [Tryz.params6] at ht
  have hm : t ∈ [9] := by simpa using Array.mem_of_getElem? ht
  have hall : ([9].all fun u => !Tryz.prog.wantsStandIn u) = true := by kernel_rfl
  exact (show Tryz.prog.wantsStandIn t = false by simpa using List.all_eq_true.1 hall t hm)

end CheckMore

theorem checkMore_card : Rows.CheckMoreCardSaid :=
  Claim7.holds_tied_plain_at .later [] _ _ _ _ CheckMore.said (fun _ h => by cases h) (by kernel_rfl) (fun _ h => by cases h) checkMore_row_tie rfl ⟨rfl, rfl⟩ (by kernel_rfl) rfl CheckMore.plain (by kernel_rfl)

end Go.Proofs.YtkahbhfbgdbnfaaGreatDoor
