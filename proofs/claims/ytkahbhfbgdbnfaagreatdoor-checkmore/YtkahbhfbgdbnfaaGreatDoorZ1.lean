/- PLAIN: functions that say what the functions of package lex answer, over lists of bytes; and facts about them. Nothing of the program stands here. No condition. -/
import Derived.WalkKit
import Derived.Lib.Strings
import Derived.Test.YtkahbhfbgdbnfaaGreatDoorProg
import Derived.WalkSpells
import Derived.WalkLawsBesides
import Derived.Lib.Hide
import Derived.Shelf.Strings.OnBuilder
import Derived.Shelf.LaysM
import Derived.Shelf.Strconv.Itoa3
import Derived.Shelf.LaysC
import Derived.Shelf.Strconv.AtoiAll
import Derived.Shelf.Strconv.ErrVarAll
import Derived.Shelf.Strings.Prefix
import Derived.Laws.Rows
import Derived.Lib.AtoiAll
import Derived.Lib.AtoiAllCases
import Derived.Lib.AtoiErrMem
import Derived.Lib.AtoiTie
import Derived.Deep.QuietTactic
import Derived.BigQuiet
import Derived.Below
import Derived.Laws.OwnMore
import Derived.Deep.AppendLies
import Derived.Deep.Draws
import Derived.Maps.AppendAt
import Derived.OwnWalk
import Derived.RegionTactic
import Derived.IntWalk
set_option maxRecDepth 100000
set_option maxHeartbeats 400000
namespace Go.Proofs.YtkahbhfbgdbnfaaGreatDoor
open Go.Lib (hid)
open Go.RowKit
def letB (b:UInt8):Bool:=(decide (97≤b.toNat)&&decide (b.toNat≤122))||(decide (65≤b.toNat)&&decide (b.toNat≤90))||decide (b.toNat=95)
def digB (b:UInt8):Bool:=decide (48≤b.toNat)&&decide (b.toNat≤57)
def wchB (b:UInt8):Bool:=letB b||digB b
def blkB (b:UInt8):Bool:=decide (b.toNat=32)||decide (b.toNat=9)||decide (b.toNat=10)||decide (b.toNat=13)
def zqs (b:UInt8):Bool:= !decide (b.toNat=10)
def runN (f:UInt8→Bool):List UInt8→Nat
 | []=>0
 |c::r=>if f c then runN f r+1 else 0
theorem z1x (f:UInt8→Bool) (l:List UInt8):runN f l≤l.length:=by
 induction l with
 |nil=>exact Nat.le_refl _
 |cons c r ih=>unfold runN;split<;>simp<;>omega
theorem zq5 {f:UInt8→Bool} {c:UInt8} (r:List UInt8) (h:f c=true):runN f (c::r)=runN f r+1:=by rw [runN,if_pos h]
theorem zji {f:UInt8→Bool} {c:UInt8} (r:List UInt8) (h:f c=false):runN f (c::r)=0:=by rw [runN,if_neg (by rw [h];decide)]
def zq8 (f:UInt8→Bool) (l:List UInt8) (p:Nat):Nat:=p+runN f (l.drop p)
theorem endAt_step {f:UInt8→Bool} {l:List UInt8} {p:Nat} (h:p<l.length) (hf:f l[p]=true):zq8 f l p=zq8 f l (p+1):=by
 unfold zq8
 rw [List.drop_eq_getElem_cons h,zq5 _ hf];omega
theorem endAt_stop {f:UInt8→Bool} {l:List UInt8} {p:Nat} (h:p<l.length) (hf:f l[p]=false):zq8 f l p=p:=by
 unfold zq8
 rw [List.drop_eq_getElem_cons h,zji _ hf];rfl
theorem endAt_end {f:UInt8→Bool} {l:List UInt8} {p:Nat} (h:l.length≤p):zq8 f l p=p:=by
 unfold zq8
 rw [List.drop_of_length_le h];rfl
theorem z1k {f:UInt8→Bool} {l:List UInt8} {p:Nat} (h:p≤l.length):zq8 f l p≤l.length:=by
 unfold zq8
 have:=z1x f (l.drop p)
 rw [List.length_drop] at this
 omega
theorem le_endAt (f:UInt8→Bool) (l:List UInt8) (p:Nat):p≤zq8 f l p:=by unfold zq8;omega
def comB:List UInt8→Bool
 |a::b::_=>decide (a.toNat=47)&&decide (b.toNat=47)
 |_=>false
theorem z1l {c:UInt8} {r:List UInt8} (h:comB (c::r)=true):c.toNat=47:=by
 cases r with
 |nil=>simp [comB] at h
 |cons d r=>simp [comB] at h;exact h.1
def z0i:Bool→List UInt8→Nat
 |_,[]=>0
 |true,c::r=>z0i (zqs c) r+1
 |false,c::r=>if blkB c then z0i false r+1 else if comB (c::r) then z0i true r+1 else 0
theorem skip_in (l:List UInt8):z0i true l=runN zqs l+z0i false (l.drop (runN zqs l)):=by
 induction l with
 |nil=>rfl
 |cons c r ih=>
  by_cases h:zqs c=true
  ·rw [zq5 _ h,z0i,h,ih,List.drop_succ_cons];omega
  ·have h':zqs c=false:=by simpa using h
   have hb:blkB c=true:=by
    have:c.toNat=10:=by simpa [zqs] using h'
    simp [blkB,this]
   rw [zji _ h',z0i,h',List.drop_zero,z0i,if_pos hb];omega
theorem skip_blk {c:UInt8} (r:List UInt8) (h:blkB c=true):z0i false (c::r)=z0i false r+1:=by rw [z0i,if_pos h]
theorem skip_com {c:UInt8} {r:List UInt8} (h:blkB c=false) (hc:comB (c::r)=true):z0i false (c::r)=runN zqs (c::r)+z0i false ((c::r).drop (runN zqs (c::r))):=by
 have hn:zqs c=true:=by have:=z1l hc;simp [zqs,this]
 rw [z0i,if_neg (by rw [h];decide),if_pos hc,skip_in,zq5 _ hn,List.drop_succ_cons];omega
theorem skip_stop {c:UInt8} {r:List UInt8} (h:blkB c=false) (hc:comB (c::r)=false):z0i false (c::r)=0:=by
 rw [z0i,if_neg (by rw [h];decide),if_neg (by rw [hc];decide)]
def keyTab:List (List UInt8):= [[116,121,112,101],[115,116,114,117,99,116],[102,117,110,99],[118,97,114],[105,102],[101,108,115,101],[102,111,114],[114,101,116,117,114,110],[112,114,105,110,116],[110,101,119],[110,105,108],[116,114,117,101],[102,97,108,115,101],[105,110,116],[98,111,111,108],[114,101,97,100]]
def keyB (l:List UInt8):Bool:=keyTab.contains l
def longTab:List (List UInt8):= [[60,60],[62,62],[61,61],[33,61],[60,61],[62,61],[38,38],[124,124],[58,61]]
def longB (l:List UInt8):Bool:=longTab.contains (l.take 2)
def shortTab:List UInt8:= [43,45,42,47,37,38,124,94,60,62,33,61,46,44,59,40,41,123,125]
def shortB (c:UInt8):Bool:=shortTab.contains c
def val (acc:Nat) (l:List UInt8):Nat:=l.foldl (fun a c=>a*10+(c.toNat - 48)) acc
def zky (l:List UInt8):Bool:= !l.isEmpty&&(l.headD 48 !=48)&&l.all digB
def parE (l:List UInt8):Nat:=if (l== [48])||zky l then (if val 0 l<9223372036854775808 then 0 else 2) else 1
def zv6 (l:List UInt8):Bool:=match l with| []=>false|c::_=>letB c
structure Tk where
 err:Nat
 kind:Nat
 len:Nat
def zv7 (l:List UInt8):Tk:=if 12<runN wchB l then ⟨4,0,0⟩ else if keyB (l.take (runN wchB l)) then ⟨0,2,runN wchB l⟩ else ⟨0,1,runN wchB l⟩
def numT (l:List UInt8):Tk:=if zv6 (l.drop (runN digB l)) then ⟨1,0,0⟩ else if parE (l.take (runN digB l))=0 then ⟨0,3,runN digB l⟩ else ⟨parE (l.take (runN digB l)),0,0⟩
def zv9 (l:List UInt8) (c:UInt8):Tk:=if longB l then ⟨0,4,2⟩ else if shortB c then ⟨0,4,1⟩ else ⟨1,0,0⟩
def tokT (l:List UInt8):Tk:=match l with
 | []=>⟨1,0,0⟩
 |c::_=>if letB c then zv7 l else if digB c then numT l else zv9 l c
structure Tok where
 kind:Nat
 text:List UInt8
 place:Nat
inductive R
 |ok (ts:List Tok)
 |bad (p e:Nat)
def R.pre (us:List Tok):R→R
 | .ok ts=> .ok (us++ts)
 | .bad p e=> .bad p e
theorem R.pre_nil (r:R):r.pre []=r:=by cases r<;>rfl
theorem R.pre_pre (a b:List Tok) (r:R):(r.pre b).pre a=r.pre (a++b):=by cases r<;>simp [R.pre]
def scanF:Nat→List UInt8→Nat→R
 |0,_,_=> .ok []
 |_+1,[],_=> .ok []
 |f+1,c::r,p=>
  if blkB c then scanF f r (p+1)
  else if comB (c::r) then scanF f ((c::r).drop (runN zqs (c::r))) (p+runN zqs (c::r))
  else if (tokT (c::r)).err=0 then (scanF f ((c::r).drop (tokT (c::r)).len) (p+(tokT (c::r)).len)).pre [⟨(tokT (c::r)).kind,(c::r).take (tokT (c::r)).len,p⟩]
  else .bad p (tokT (c::r)).err
def zvk (l:List UInt8) (p:Nat):R:=scanF l.length l p
theorem long_len {c:UInt8} {r:List UInt8} (h:longB (c::r)=true):2≤(c::r).length:=by
 cases r with
 |nil=>simp [longB,longTab] at h
 |cons d r=>simp
theorem zwx {c:UInt8} (r:List UInt8) (h:letB c=true):tokT (c::r)=zv7 (c::r):=by unfold tokT;simp only [h,if_true]
theorem zvx {c:UInt8} (r:List UInt8) (h:letB c=false) (hd:digB c=true):tokT (c::r)=numT (c::r):=by unfold tokT;simp [h,hd]
theorem zjf {c:UInt8} (r:List UInt8) (h:letB c=false) (hd:digB c=false):tokT (c::r)=zv9 (c::r) c:=by unfold tokT;simp [h,hd]
theorem word_len {c:UInt8} {r:List UInt8} (h1:letB c=true) (h:(zv7 (c::r)).err=0):1≤(zv7 (c::r)).len∧(zv7 (c::r)).len≤(c::r).length:=by
 have hw:wchB c=true:=by simp [wchB,h1]
 have h2:=z1x wchB (c::r)
 have h3:=zq5 r hw
 generalize hn:runN wchB (c::r)=n at*
 unfold zv7 at h ⊢
 rw [hn] at h ⊢
 by_cases h4:12<n
 ·rw [if_pos h4] at h;exact absurd h (by decide)
 ·rw [if_neg h4]
  by_cases h5:keyB (List.take n (c::r))=true
  ·rw [if_pos h5];exact ⟨by show 1≤n;omega,h2⟩
  ·rw [if_neg h5];exact ⟨by show 1≤n;omega,h2⟩
theorem num_len {c:UInt8} {r:List UInt8} (h1:digB c=true) (h:(numT (c::r)).err=0):1≤(numT (c::r)).len∧(numT (c::r)).len≤(c::r).length:=by
 have h2:=z1x digB (c::r)
 have h3:=zq5 r h1
 generalize hn:runN digB (c::r)=n at*
 unfold numT at h ⊢
 rw [hn] at h ⊢
 by_cases h4:zv6 (List.drop n (c::r))=true
 ·rw [if_pos h4] at h;exact absurd h (by simp)
 ·rw [if_neg h4] at h ⊢
  by_cases h5:parE (List.take n (c::r))=0
  ·rw [if_pos h5];exact ⟨by show 1≤n;omega,h2⟩
  ·rw [if_neg h5] at h;exact absurd h h5
theorem sign_len {c:UInt8} {r:List UInt8} (h:(zv9 (c::r) c).err=0):1≤(zv9 (c::r) c).len∧(zv9 (c::r) c).len≤(c::r).length:=by
 unfold zv9 at h ⊢
 by_cases h3:longB (c::r)=true
 ·have:=long_len h3
  rw [if_pos h3]
  exact ⟨by show 1≤2;omega,this⟩
 ·rw [if_neg h3] at h ⊢
  by_cases h4:shortB c=true
  ·rw [if_pos h4];exact ⟨Nat.le_refl _,by show 1≤_;simp⟩
  ·rw [if_neg h4] at h;exact absurd h (by simp)
theorem tok_len {c:UInt8} {r:List UInt8} (h:(tokT (c::r)).err=0):1≤(tokT (c::r)).len∧(tokT (c::r)).len≤(c::r).length:=by
 cases h1:letB c with
 |true=>rw [zwx r h1] at h ⊢;exact word_len h1 h
 |false=>
  cases h2:digB c with
  |true=>rw [zvx r h1 h2] at h ⊢;exact num_len h2 h
  |false=>rw [zjf r h1 h2] at h ⊢;exact sign_len h
theorem scanF_fuel:∀ (n:Nat) (l:List UInt8) (p f g:Nat),l.length≤n→l.length≤f→l.length≤g→scanF f l p=scanF g l p:=by
 intro n
 induction n with
 |zero=>
  intro l p f g hn _ _
  have:l= []:=List.length_eq_zero_iff.1 (by omega)
  subst this
  cases f<;>cases g<;>rfl
 |succ n ih=>
  intro l p f g hn hf hg
  cases l with
  |nil=>cases f<;>cases g<;>rfl
  |cons c r=>
   simp only [List.length_cons] at hn hf hg
   cases f with
   |zero=>omega
   |succ f=>
    cases g with
    |zero=>omega
    |succ g=>
     rw [scanF,scanF]
     by_cases h1:blkB c=true
     ·rw [if_pos h1,if_pos h1];exact ih r _ f g (by omega) (by omega) (by omega)
     ·rw [if_neg h1,if_neg h1]
      by_cases h2:comB (c::r)=true
      ·rw [if_pos h2,if_pos h2]
       have hr:zqs c=true:=by have:=z1l h2;simp [zqs,this]
       have h3:=zq5 r hr
       exact ih _ _ f g (by rw [List.length_drop,List.length_cons];omega) (by rw [List.length_drop,List.length_cons];omega) (by rw [List.length_drop,List.length_cons];omega)
      ·rw [if_neg h2,if_neg h2]
       by_cases h3:(tokT (c::r)).err=0
       ·rw [if_pos h3,if_pos h3]
        have h4:=tok_len h3
        rw [ih _ _ f g (by rw [List.length_drop,List.length_cons];omega) (by rw [List.length_drop,List.length_cons];omega) (by rw [List.length_drop,List.length_cons];omega)]
       ·rw [if_neg h3,if_neg h3]
theorem scanS_nil (p:Nat):zvk [] p= .ok []:=rfl
theorem zjz {c:UInt8} {r:List UInt8} (p:Nat) (h:blkB c=true):zvk (c::r) p=zvk r (p+1):=by
 unfold zvk
 rw [List.length_cons,scanF,if_pos h]
theorem z0k {c:UInt8} {r:List UInt8} (p:Nat) (h:blkB c=false) (hc:comB (c::r)=true):zvk (c::r) p=zvk ((c::r).drop (runN zqs (c::r))) (p+runN zqs (c::r)):=by
 have hr:zqs c=true:=by have:=z1l hc;simp [zqs,this]
 have h3:=zq5 r hr
 unfold zvk
 rw [List.length_cons,scanF,if_neg (by rw [h];decide),if_pos hc]
 exact scanF_fuel r.length _ _ _ _ (by rw [List.length_drop,List.length_cons];omega) (by rw [List.length_drop,List.length_cons];omega) (Nat.le_refl _)
theorem zwk {c:UInt8} {r:List UInt8} (p:Nat) (h:blkB c=false) (hc:comB (c::r)=false) (he:(tokT (c::r)).err=0):
 zvk (c::r) p=(zvk ((c::r).drop (tokT (c::r)).len) (p+(tokT (c::r)).len)).pre [⟨(tokT (c::r)).kind,(c::r).take (tokT (c::r)).len,p⟩]:=by
 have h4:=tok_len he
 unfold zvk
 rw [List.length_cons,scanF,if_neg (by rw [h];decide),if_neg (by rw [hc];decide),if_pos he]
 rw [scanF_fuel r.length _ _ r.length _ (by rw [List.length_drop,List.length_cons];omega) (by rw [List.length_drop,List.length_cons];omega) (Nat.le_refl _)]
theorem z0l {c:UInt8} {r:List UInt8} (p:Nat) (h:blkB c=false) (hc:comB (c::r)=false) (he:(tokT (c::r)).err≠0):zvk (c::r) p= .bad p (tokT (c::r)).err:=by
 unfold zvk
 rw [List.length_cons,scanF,if_neg (by rw [h];decide),if_neg (by rw [hc];decide),if_neg he]
def sc (l:List UInt8) (k:Nat):R:=zvk (l.drop k) k
def zvt (l:List UInt8) (k:Nat):Bool:=comB (l.drop k)
def zkk (l:List UInt8) (k:Nat):Nat:=k+z0i false (l.drop k)
def zkw (l:List UInt8) (k:Nat):Tk:=tokT (l.drop k)
theorem sc_end {l:List UInt8} {k:Nat} (h:l.length≤k):sc l k= .ok []:=by unfold sc;rw [List.drop_of_length_le h];rfl
theorem sc_blk {l:List UInt8} {k:Nat} (h:k<l.length) (hb:blkB l[k]=true):sc l k=sc l (k+1):=by
 unfold sc;rw [List.drop_eq_getElem_cons h,zjz _ hb]
theorem sc_com {l:List UInt8} {k:Nat} (h:k<l.length) (hb:blkB l[k]=false) (hc:zvt l k=true):sc l k=sc l (zq8 zqs l k):=by
 unfold sc zvt at*
 rw [List.drop_eq_getElem_cons h] at hc
 rw [show List.drop (zq8 zqs l k) l=(l.drop k).drop (runN zqs (l.drop k)) by rw [List.drop_drop];rfl]
 rw [show zq8 zqs l k=k+runN zqs (l.drop k) from rfl]
 rw [List.drop_eq_getElem_cons h,z0k _ hb hc]
theorem sc_tok {l:List UInt8} {k:Nat} (h:k<l.length) (hb:blkB l[k]=false) (hc:zvt l k=false) (he:(zkw l k).err=0):
 sc l k=(sc l (k+(zkw l k).len)).pre [⟨(zkw l k).kind,(l.drop k).take (zkw l k).len,k⟩]:=by
 unfold sc zvt zkw at*
 rw [List.drop_eq_getElem_cons h] at hc he ⊢
 rw [zwk _ hb hc he]
 rw [show List.drop (k+(tokT (l[k]::List.drop (k+1) l)).len) l=(l.drop k).drop (tokT (l[k]::List.drop (k+1) l)).len by rw [List.drop_drop]]
 rw [List.drop_eq_getElem_cons h]
theorem sc_bad {l:List UInt8} {k:Nat} (h:k<l.length) (hb:blkB l[k]=false) (hc:zvt l k=false) (he:(zkw l k).err≠0):sc l k= .bad k (zkw l k).err:=by
 unfold sc zvt zkw at*
 rw [List.drop_eq_getElem_cons h] at hc he ⊢
 rw [z0l _ hb hc he]
theorem tokAt_len {l:List UInt8} {k:Nat} (h:k<l.length) (he:(zkw l k).err=0):1≤(zkw l k).len∧k+(zkw l k).len≤l.length:=by
 unfold zkw at*
 have hl:(l.drop k).length=l.length - k:=List.length_drop
 rw [List.drop_eq_getElem_cons h] at he hl ⊢
 have:=tok_len he
 omega
theorem skipAt_blk {l:List UInt8} {k:Nat} (h:k<l.length) (hb:blkB l[k]=true):zkk l k=zkk l (k+1):=by
 unfold zkk;rw [List.drop_eq_getElem_cons h,skip_blk _ hb];omega
theorem skipAt_com {l:List UInt8} {k:Nat} (h:k<l.length) (hb:blkB l[k]=false) (hc:zvt l k=true):zkk l k=zkk l (zq8 zqs l k):=by
 unfold zkk zvt at*
 rw [List.drop_eq_getElem_cons h] at hc
 rw [show List.drop (zq8 zqs l k) l=(l.drop k).drop (runN zqs (l.drop k)) by rw [List.drop_drop];rfl]
 rw [show zq8 zqs l k=k+runN zqs (l.drop k) from rfl]
 rw [List.drop_eq_getElem_cons h,skip_com hb hc];omega
theorem skipAt_stop {l:List UInt8} {k:Nat} (h:k<l.length) (hb:blkB l[k]=false) (hc:zvt l k=false):zkk l k=k:=by
 unfold zkk zvt at*
 rw [List.drop_eq_getElem_cons h] at hc ⊢
 rw [skip_stop hb hc];rfl
theorem skipAt_end {l:List UInt8} {k:Nat} (h:l.length≤k):zkk l k=k:=by unfold zkk;rw [List.drop_of_length_le h];rfl
theorem z3f {l:List UInt8} {k:Nat} (h:k<l.length) (hc:zvt l k=true):k+1≤zq8 zqs l k:=by
 unfold zvt at hc
 rw [List.drop_eq_getElem_cons h] at hc
 have:=z1l hc
 rw [endAt_step h (by simp [zqs,this])]
 exact le_endAt _ _ _
theorem skip_all (l:List UInt8):∀ (n k:Nat),l.length - k≤n→k≤l.length→sc l k=sc l (zkk l k)∧k≤zkk l k∧zkk l k≤l.length∧
 (∀ h:zkk l k<l.length,blkB l[zkk l k]=false∧zvt l (zkk l k)=false):=by
 intro n
 induction n with
 |zero=>
  intro k hn hk
  have:zkk l k=k:=skipAt_end (by omega)
  rw [this]
  exact ⟨rfl,Nat.le_refl _,hk,fun h=>by omega⟩
 |succ n ih=>
  intro k hn hk
  by_cases hlt:k<l.length
  ·by_cases hb:blkB l[k]=true
   ·have:=ih (k+1) (by omega) (by omega)
    rw [sc_blk hlt hb,skipAt_blk hlt hb]
    exact ⟨this.1,by omega,this.2.2⟩
   ·have hb':blkB l[k]=false:=by simpa using hb
    by_cases hc:zvt l k=true
    ·have h1:=z3f hlt hc
     have h2:zq8 zqs l k≤l.length:=z1k hk
     have:=ih (zq8 zqs l k) (by omega) h2
     rw [sc_com hlt hb' hc,skipAt_com hlt hb' hc]
     exact ⟨this.1,by omega,this.2.2⟩
    ·have hc':zvt l k=false:=by simpa using hc
     have:zkk l k=k:=skipAt_stop hlt hb' hc'
     rw [this]
     exact ⟨rfl,Nat.le_refl _,hk,fun _=>⟨hb',hc'⟩⟩
  ·have:zkk l k=k:=skipAt_end (by omega)
   rw [this]
   exact ⟨rfl,Nat.le_refl _,hk,fun h=>by omega⟩
theorem zz6 {a b:Bool} (h:a=b):Ending.returned (.bool a)= .returned (.bool b):=by rw [h]
theorem z1y {k:IntKind} {a b:Int} (h:a=b):Ending.returned (.int k a)= .returned (.int k b):=by rw [h]
theorem ret_str {a b:ByteArray} (h:a=b):Ending.returned (.string a)= .returned (.string b):=by rw [h]
theorem zj4 (c:UInt8) (w:World):Calls Tryz.prog 114 #[.int .u8 c.toNat] w fun e w'=>e= .returned (.bool (letB c))∧w=w':=by
 obtain ⟨b,hb⟩:∃ b,b=letB c:=⟨_,rfl⟩
 rw [←hb]
 have HB:=hid hb
 clear hb
 by_cases h1:97≤c.toNat
 ·have ih1:(97:Int)≤(c.toNat:Int):=by first|omega|(simp;omega)
  by_cases h2:c.toNat≤122
  ·have ih2:(c.toNat:Int)≤122:=by first|omega|(simp;omega)
   go_enter Tryz.func114,Tryz.ntmps114
   go_wp2
   go_ret
   exact ⟨zz6 (by rw [HB.out];unfold letB;simp;omega),rfl⟩
  ·have ih2:¬ (c.toNat:Int)≤122:=by first|omega|(simp;omega)
   by_cases h3:65≤c.toNat
   ·have ih3:(65:Int)≤(c.toNat:Int):=by first|omega|(simp;omega)
    by_cases h4:c.toNat≤90
    ·have ih4:(c.toNat:Int)≤90:=by first|omega|(simp;omega)
     go_enter Tryz.func114,Tryz.ntmps114
     go_wp2
     go_ret
     exact ⟨zz6 (by rw [HB.out];unfold letB;simp;omega),rfl⟩
    ·have ih4:¬ (c.toNat:Int)≤90:=by first|omega|(simp;omega)
     by_cases h5:c.toNat=95
     ·have ih5:((c.toNat:Int)==95)=true:=by first|omega|(simp;omega)
      go_enter Tryz.func114,Tryz.ntmps114
      go_wp2
      go_ret
      exact ⟨zz6 (by rw [HB.out];unfold letB;simp;omega),rfl⟩
     ·have ih5:((c.toNat:Int)==95)=false:=by first|omega|(simp;omega)
      go_enter Tryz.func114,Tryz.ntmps114
      go_wp2
      go_ret
      exact ⟨zz6 (by rw [HB.out];unfold letB;simp;omega),rfl⟩
   ·have ih3:¬ (65:Int)≤(c.toNat:Int):=by first|omega|(simp;omega)
    by_cases h5:c.toNat=95
    ·have ih5:((c.toNat:Int)==95)=true:=by first|omega|(simp;omega)
     go_enter Tryz.func114,Tryz.ntmps114
     go_wp2
     go_ret
     exact ⟨zz6 (by rw [HB.out];unfold letB;simp;omega),rfl⟩
    ·have ih5:((c.toNat:Int)==95)=false:=by first|omega|(simp;omega)
     go_enter Tryz.func114,Tryz.ntmps114
     go_wp2
     go_ret
     exact ⟨zz6 (by rw [HB.out];unfold letB;simp;omega),rfl⟩
 ·have ih1:¬ (97:Int)≤(c.toNat:Int):=by first|omega|(simp;omega)
  by_cases h3:65≤c.toNat
  ·have ih3:(65:Int)≤(c.toNat:Int):=by first|omega|(simp;omega)
   by_cases h4:c.toNat≤90
   ·have ih4:(c.toNat:Int)≤90:=by first|omega|(simp;omega)
    go_enter Tryz.func114,Tryz.ntmps114
    go_wp2
    go_ret
    exact ⟨zz6 (by rw [HB.out];unfold letB;simp;omega),rfl⟩
   ·have ih4:¬ (c.toNat:Int)≤90:=by first|omega|(simp;omega)
    by_cases h5:c.toNat=95
    ·have ih5:((c.toNat:Int)==95)=true:=by first|omega|(simp;omega)
     go_enter Tryz.func114,Tryz.ntmps114
     go_wp2
     go_ret
     exact ⟨zz6 (by rw [HB.out];unfold letB;simp;omega),rfl⟩
    ·have ih5:((c.toNat:Int)==95)=false:=by first|omega|(simp;omega)
     go_enter Tryz.func114,Tryz.ntmps114
     go_wp2
     go_ret
     exact ⟨zz6 (by rw [HB.out];unfold letB;simp;omega),rfl⟩
  ·have ih3:¬ (65:Int)≤(c.toNat:Int):=by first|omega|(simp;omega)
   by_cases h5:c.toNat=95
   ·have ih5:((c.toNat:Int)==95)=true:=by first|omega|(simp;omega)
    go_enter Tryz.func114,Tryz.ntmps114
    go_wp2
    go_ret
    exact ⟨zz6 (by rw [HB.out];unfold letB;simp;omega),rfl⟩
   ·have ih5:((c.toNat:Int)==95)=false:=by first|omega|(simp;omega)
    go_enter Tryz.func114,Tryz.ntmps114
    go_wp2
    go_ret
    exact ⟨zz6 (by rw [HB.out];unfold letB;simp;omega),rfl⟩
theorem letter_any (c:UInt8) (w:World):Calls Tryz.prog 56 #[.int .u8 c.toNat] w fun e w'=>e= .returned (.bool (letB c))∧w=w':=by
 obtain ⟨b,hb⟩:∃ b,b=letB c:=⟨_,rfl⟩
 rw [←hb]
 have HB:=hid hb
 clear hb
 by_cases h1:97≤c.toNat
 ·have ih1:(97:Int)≤(c.toNat:Int):=by first|omega|(simp;omega)
  by_cases h2:c.toNat≤122
  ·have ih2:(c.toNat:Int)≤122:=by first|omega|(simp;omega)
   go_enter Tryz.func56,Tryz.ntmps56
   go_wp2
   go_ret
   exact ⟨zz6 (by rw [HB.out];unfold letB;simp;omega),rfl⟩
  ·have ih2:¬ (c.toNat:Int)≤122:=by first|omega|(simp;omega)
   by_cases h3:65≤c.toNat
   ·have ih3:(65:Int)≤(c.toNat:Int):=by first|omega|(simp;omega)
    by_cases h4:c.toNat≤90
    ·have ih4:(c.toNat:Int)≤90:=by first|omega|(simp;omega)
     go_enter Tryz.func56,Tryz.ntmps56
     go_wp2
     go_ret
     exact ⟨zz6 (by rw [HB.out];unfold letB;simp;omega),rfl⟩
    ·have ih4:¬ (c.toNat:Int)≤90:=by first|omega|(simp;omega)
     by_cases h5:c.toNat=95
     ·have ih5:((c.toNat:Int)==95)=true:=by first|omega|(simp;omega)
      go_enter Tryz.func56,Tryz.ntmps56
      go_wp2
      go_ret
      exact ⟨zz6 (by rw [HB.out];unfold letB;simp;omega),rfl⟩
     ·have ih5:((c.toNat:Int)==95)=false:=by first|omega|(simp;omega)
      go_enter Tryz.func56,Tryz.ntmps56
      go_wp2
      go_ret
      exact ⟨zz6 (by rw [HB.out];unfold letB;simp;omega),rfl⟩
   ·have ih3:¬ (65:Int)≤(c.toNat:Int):=by first|omega|(simp;omega)
    by_cases h5:c.toNat=95
    ·have ih5:((c.toNat:Int)==95)=true:=by first|omega|(simp;omega)
     go_enter Tryz.func56,Tryz.ntmps56
     go_wp2
     go_ret
     exact ⟨zz6 (by rw [HB.out];unfold letB;simp;omega),rfl⟩
    ·have ih5:((c.toNat:Int)==95)=false:=by first|omega|(simp;omega)
     go_enter Tryz.func56,Tryz.ntmps56
     go_wp2
     go_ret
     exact ⟨zz6 (by rw [HB.out];unfold letB;simp;omega),rfl⟩
 ·have ih1:¬ (97:Int)≤(c.toNat:Int):=by first|omega|(simp;omega)
  by_cases h3:65≤c.toNat
  ·have ih3:(65:Int)≤(c.toNat:Int):=by first|omega|(simp;omega)
   by_cases h4:c.toNat≤90
   ·have ih4:(c.toNat:Int)≤90:=by first|omega|(simp;omega)
    go_enter Tryz.func56,Tryz.ntmps56
    go_wp2
    go_ret
    exact ⟨zz6 (by rw [HB.out];unfold letB;simp;omega),rfl⟩
   ·have ih4:¬ (c.toNat:Int)≤90:=by first|omega|(simp;omega)
    by_cases h5:c.toNat=95
    ·have ih5:((c.toNat:Int)==95)=true:=by first|omega|(simp;omega)
     go_enter Tryz.func56,Tryz.ntmps56
     go_wp2
     go_ret
     exact ⟨zz6 (by rw [HB.out];unfold letB;simp;omega),rfl⟩
    ·have ih5:((c.toNat:Int)==95)=false:=by first|omega|(simp;omega)
     go_enter Tryz.func56,Tryz.ntmps56
     go_wp2
     go_ret
     exact ⟨zz6 (by rw [HB.out];unfold letB;simp;omega),rfl⟩
  ·have ih3:¬ (65:Int)≤(c.toNat:Int):=by first|omega|(simp;omega)
   by_cases h5:c.toNat=95
   ·have ih5:((c.toNat:Int)==95)=true:=by first|omega|(simp;omega)
    go_enter Tryz.func56,Tryz.ntmps56
    go_wp2
    go_ret
    exact ⟨zz6 (by rw [HB.out];unfold letB;simp;omega),rfl⟩
   ·have ih5:((c.toNat:Int)==95)=false:=by first|omega|(simp;omega)
    go_enter Tryz.func56,Tryz.ntmps56
    go_wp2
    go_ret
    exact ⟨zz6 (by rw [HB.out];unfold letB;simp;omega),rfl⟩
theorem z2d (c:UInt8) (w:World):Calls Tryz.prog 123 #[.int .u8 c.toNat] w fun e w'=>e= .returned (.bool (digB c))∧w=w':=by
 obtain ⟨b,hb⟩:∃ b,b=digB c:=⟨_,rfl⟩
 rw [←hb]
 have HB:=hid hb
 clear hb
 by_cases h1:48≤c.toNat
 ·have ih1:(48:Int)≤(c.toNat:Int):=by first|omega|(simp;omega)
  by_cases h2:c.toNat≤57
  ·have ih2:(c.toNat:Int)≤57:=by first|omega|(simp;omega)
   go_enter Tryz.func123,Tryz.ntmps123
   go_wp2
   go_ret
   exact ⟨zz6 (by rw [HB.out];unfold digB;simp;omega),rfl⟩
  ·have ih2:¬ (c.toNat:Int)≤57:=by first|omega|(simp;omega)
   go_enter Tryz.func123,Tryz.ntmps123
   go_wp2
   go_ret
   exact ⟨zz6 (by rw [HB.out];unfold digB;simp;omega),rfl⟩
 ·have ih1:¬ (48:Int)≤(c.toNat:Int):=by first|omega|(simp;omega)
  go_enter Tryz.func123,Tryz.ntmps123
  go_wp2
  go_ret
  exact ⟨zz6 (by rw [HB.out];unfold digB;simp;omega),rfl⟩
theorem digit_any (c:UInt8) (w:World):Calls Tryz.prog 57 #[.int .u8 c.toNat] w fun e w'=>e= .returned (.bool (digB c))∧w=w':=by
 obtain ⟨b,hb⟩:∃ b,b=digB c:=⟨_,rfl⟩
 rw [←hb]
 have HB:=hid hb
 clear hb
 by_cases h1:48≤c.toNat
 ·have ih1:(48:Int)≤(c.toNat:Int):=by first|omega|(simp;omega)
  by_cases h2:c.toNat≤57
  ·have ih2:(c.toNat:Int)≤57:=by first|omega|(simp;omega)
   go_enter Tryz.func57,Tryz.ntmps57
   go_wp2
   go_ret
   exact ⟨zz6 (by rw [HB.out];unfold digB;simp;omega),rfl⟩
  ·have ih2:¬ (c.toNat:Int)≤57:=by first|omega|(simp;omega)
   go_enter Tryz.func57,Tryz.ntmps57
   go_wp2
   go_ret
   exact ⟨zz6 (by rw [HB.out];unfold digB;simp;omega),rfl⟩
 ·have ih1:¬ (48:Int)≤(c.toNat:Int):=by first|omega|(simp;omega)
  go_enter Tryz.func57,Tryz.ntmps57
  go_wp2
  go_ret
  exact ⟨zz6 (by rw [HB.out];unfold digB;simp;omega),rfl⟩
theorem isBlank_any (c:UInt8) (w:World):Calls Tryz.prog 119 #[.int .u8 c.toNat] w fun e w'=>e= .returned (.bool (blkB c))∧w=w':=by
 obtain ⟨b,hb⟩:∃ b,b=blkB c:=⟨_,rfl⟩
 rw [←hb]
 have HB:=hid hb
 clear hb
 by_cases h1:c.toNat=32
 ·have ih1:((c.toNat:Int)==32)=true:=by first|omega|(simp;omega)
  go_enter Tryz.func119,Tryz.ntmps119
  go_wp2
  go_ret
  exact ⟨zz6 (by rw [HB.out];unfold blkB;simp;omega),rfl⟩
 ·have ih1:((c.toNat:Int)==32)=false:=by first|omega|(simp;omega)
  by_cases h2:c.toNat=9
  ·have ih2:((c.toNat:Int)==9)=true:=by first|omega|(simp;omega)
   go_enter Tryz.func119,Tryz.ntmps119
   go_wp2
   go_ret
   exact ⟨zz6 (by rw [HB.out];unfold blkB;simp;omega),rfl⟩
  ·have ih2:((c.toNat:Int)==9)=false:=by first|omega|(simp;omega)
   by_cases h3:c.toNat=10
   ·have ih3:((c.toNat:Int)==10)=true:=by first|omega|(simp;omega)
    go_enter Tryz.func119,Tryz.ntmps119
    go_wp2
    go_ret
    exact ⟨zz6 (by rw [HB.out];unfold blkB;simp;omega),rfl⟩
   ·have ih3:((c.toNat:Int)==10)=false:=by first|omega|(simp;omega)
    by_cases h4:c.toNat=13
    ·have ih4:((c.toNat:Int)==13)=true:=by first|omega|(simp;omega)
     go_enter Tryz.func119,Tryz.ntmps119
     go_wp2
     go_ret
     exact ⟨zz6 (by rw [HB.out];unfold blkB;simp;omega),rfl⟩
    ·have ih4:((c.toNat:Int)==13)=false:=by first|omega|(simp;omega)
     go_enter Tryz.func119,Tryz.ntmps119
     go_wp2
     go_ret
     exact ⟨zz6 (by rw [HB.out];unfold blkB;simp;omega),rfl⟩
end Go.Proofs.YtkahbhfbgdbnfaaGreatDoor
namespace Go.Proofs
open Go.Shelf
def Tryz.lays156_ren:Go.Shelf.Ren:=⟨fun|156=>45|165=>74|166=>75|169=>76|240=>105|241=>106|276=>143|277=>144|n=>n,fun|31=>63|9=>9|3=>3|4=>4|0=>0|20=>20|72=>126|76=>130|70=>124|37=>120|75=>129|127=>154|164=>167|5=>5|80=>87|n=>n,fun|n=>n⟩
theorem Tryz.lays156:Go.Proofs.Lays.n156 Tryz.prog Tryz.lays156_ren:= {
 mixed:=by kernel_rfl
 f156:=Tryz.func45.trans (congrArg some (by kernel_rfl))
 f165:=Tryz.func74.trans (congrArg some (by kernel_rfl))
 f166:=Tryz.func75.trans (congrArg some (by kernel_rfl))
 f169:=Tryz.func76.trans (congrArg some (by kernel_rfl))
 f240:=Tryz.func105.trans (congrArg some (by kernel_rfl))
 f241:=Tryz.func106.trans (congrArg some (by kernel_rfl))
 f276:=Tryz.func143.trans (congrArg some (by kernel_rfl))
 f277:=Tryz.func144.trans (congrArg some (by kernel_rfl))
 t0:=Tryz.underlying0
 a0:=Tryz.isAgg0
 z0:=Tryz.sizeOf0
 v0:=Tryz.zeroValue0
 t3:=Tryz.underlying3
 a3:=Tryz.isAgg3
 z3:=Tryz.sizeOf3
 v3:=Tryz.zeroValue3
 t4:=Tryz.underlying4
 a4:=Tryz.isAgg4
 z4:=Tryz.sizeOf4
 v4:=Tryz.zeroValue4
 t9:=Tryz.underlying9
 a9:=Tryz.isAgg9
 z9:=Tryz.sizeOf9
 v9:=Tryz.zeroValue9
 t20:=Tryz.underlying20
 a20:=Tryz.isAgg20
 z20:=Tryz.sizeOf20
 v20:=Tryz.zeroValue20
 t31:=Tryz.underlying63
 a31:=Tryz.isAgg63
 z31:=Tryz.sizeOf63
 v31:=Tryz.zeroValue63
 t37:=Tryz.underlying120
 a37:=Tryz.isAgg120
 z37:=Tryz.sizeOf120
 v37:=Tryz.zeroValue120
 t70:=Tryz.underlying124
 a70:=Tryz.isAgg124
 z70:=Tryz.sizeOf124
 v70:=Tryz.zeroValue124
 t72:=Tryz.underlying126
 a72:=Tryz.isAgg126
 z72:=Tryz.sizeOf126
 v72:=Tryz.zeroValue126
 t75:=Tryz.underlying129
 a75:=Tryz.isAgg129
 z75:=Tryz.sizeOf129
 v75:=Tryz.zeroValue129
 t76:=Tryz.underlying130
 a76:=Tryz.isAgg130
 z76:=Tryz.sizeOf130
 v76:=Tryz.zeroValue130
 t127:=Tryz.underlying154
 a127:=Tryz.isAgg154
 z127:=Tryz.sizeOf154
 v127:=Tryz.zeroValue154
 t164:=Tryz.underlying167
 a164:=Tryz.isAgg167
 z164:=Tryz.sizeOf167
 v164:=Tryz.zeroValue167 }
theorem Tryz.Builder_Extra_156:Builder.Extra Tryz.prog Tryz.lays156_ren:= {
 sizeBuilder:=by kernel_rfl
 liesBuilder:=by kernel_rfl
 t5:=Tryz.underlying5
 a5:=Tryz.isAgg5
 z5:=Tryz.sizeOf5
 v5:=Tryz.zeroValue5
 infoByte:=by kernel_rfl
 cellsByte:=by kernel_rfl
 sizeByte:=by kernel_rfl
 neB5:=by decide }
open Go.RowKit in
theorem Tryz.strings_Join_none (a:Option Addr) (c:Nat) (sep:ByteArray) (w:World):
 Calls Tryz.prog 45 #[.slice a 0 c,.string sep] w fun e w'=>e= .returned (.string ⟨#[]⟩)∧w'=w:=Any.strings_Join_none Tryz.lays156 Tryz.Builder_Extra_156 a c sep w
open Go.RowKit in
theorem Tryz.strings_Join (bk o c:Nat) (xs:List ByteArray) (sep:ByteArray) (w:World) (hcells:∀ (j:Nat) x,xs[j]? =some x→w.cell? ⟨bk,o+j,none⟩=some (.string x)) (hbk:bk<w.heap.size) (hN:xs.length≤140737488355328) (hcap:xs.length≤c) (hlen:(Lib.join (xs.map (·.data.toList)) sep.data.toList).length≤140737488355328):
 Calls Tryz.prog 45 #[.slice (some ⟨bk,o,none⟩) xs.length c,.string sep] w fun e w'=>e= .returned (.string ⟨(Lib.join (xs.map (·.data.toList)) sep.data.toList).toArray⟩)∧Below w.heap.size w w':=Any.strings_Join Tryz.lays156 Tryz.Builder_Extra_156 bk o c xs sep w hcells hbk hN hcap hlen
def Tryz.laysM171_ren:Go.Shelf.Ren:=⟨fun|171=>168|243=>184|246=>203|283=>226|284=>227|285=>228|286=>229|129=>241|317=>240|318=>242|319=>243|320=>244|337=>249|338=>250|n=>n,fun|3=>3|9=>9|2=>2|4=>4|171=>200|0=>0|53=>151|37=>120|5=>5|173=>203|212=>213|51=>214|20=>20|213=>215|46=>207|232=>224|233=>225|n=>n,fun|17=>6|18=>7|19=>8|n=>n⟩
theorem Tryz.laysM171:Go.Proofs.LaysM.n171 Tryz.prog Tryz.laysM171_ren:= {
 mixed:=by kernel_rfl
 f129:=Tryz.func241.trans (congrArg some (by kernel_rfl))
 f171:=Tryz.func168.trans (congrArg some (by kernel_rfl))
 f243:=Tryz.func184.trans (congrArg some (by kernel_rfl))
 f246:=Tryz.func203.trans (congrArg some (by kernel_rfl))
 f283:=Tryz.func226.trans (congrArg some (by kernel_rfl))
 f284:=Tryz.func227.trans (congrArg some (by kernel_rfl))
 f285:=Tryz.func228.trans (congrArg some (by kernel_rfl))
 f286:=Tryz.func229.trans (congrArg some (by kernel_rfl))
 f317:=Tryz.func240.trans (congrArg some (by kernel_rfl))
 f318:=Tryz.func242.trans (congrArg some (by kernel_rfl))
 f319:=Tryz.func243.trans (congrArg some (by kernel_rfl))
 f320:=Tryz.func244.trans (congrArg some (by kernel_rfl))
 f337:=Tryz.func249.trans (congrArg some (by kernel_rfl))
 f338:=Tryz.func250.trans (congrArg some (by kernel_rfl))
 t0:=Tryz.underlying0
 a0:=Tryz.isAgg0
 z0:=Tryz.sizeOf0
 v0:=Tryz.zeroValue0
 t2:=Tryz.underlying2
 a2:=Tryz.isAgg2
 z2:=Tryz.sizeOf2
 v2:=Tryz.zeroValue2
 t3:=Tryz.underlying3
 a3:=Tryz.isAgg3
 z3:=Tryz.sizeOf3
 v3:=Tryz.zeroValue3
 t4:=Tryz.underlying4
 a4:=Tryz.isAgg4
 z4:=Tryz.sizeOf4
 v4:=Tryz.zeroValue4
 t5:=Tryz.underlying5
 a5:=Tryz.isAgg5
 z5:=Tryz.sizeOf5
 v5:=Tryz.zeroValue5
 t9:=Tryz.underlying9
 a9:=Tryz.isAgg9
 z9:=Tryz.sizeOf9
 v9:=Tryz.zeroValue9
 t20:=Tryz.underlying20
 a20:=Tryz.isAgg20
 z20:=Tryz.sizeOf20
 v20:=Tryz.zeroValue20
 t37:=Tryz.underlying120
 a37:=Tryz.isAgg120
 z37:=Tryz.sizeOf120
 v37:=Tryz.zeroValue120
 t46:=Tryz.underlying207
 a46:=Tryz.isAgg207
 z46:=Tryz.sizeOf207
 v46:=Tryz.zeroValue207
 t51:=Tryz.underlying214
 a51:=Tryz.isAgg214
 z51:=Tryz.sizeOf214
 v51:=Tryz.zeroValue214
 t53:=Tryz.underlying151
 a53:=Tryz.isAgg151
 z53:=Tryz.sizeOf151
 v53:=Tryz.zeroValue151
 t171:=Tryz.underlying200
 a171:=Tryz.isAgg200
 z171:=Tryz.sizeOf200
 v171:=Tryz.zeroValue200
 t173:=Tryz.underlying203
 a173:=Tryz.isAgg203
 z173:=Tryz.sizeOf203
 v173:=Tryz.zeroValue203
 t212:=Tryz.underlying213
 a212:=Tryz.isAgg213
 z212:=Tryz.sizeOf213
 v212:=Tryz.zeroValue213
 t213:=Tryz.underlying215
 a213:=Tryz.isAgg215
 z213:=Tryz.sizeOf215
 t232:=Tryz.underlying224
 a232:=Tryz.isAgg224
 z232:=Tryz.sizeOf224
 v232:=Tryz.zeroValue224
 t233:=Tryz.underlying225
 a233:=Tryz.isAgg225
 z233:=Tryz.sizeOf225
 v233:=Tryz.zeroValue225
 g17:=by kernel_rfl
 g18:=by kernel_rfl
 g19:=by kernel_rfl
 i0:=by kernel_rfl
 i2:=by kernel_rfl
 i3:=by kernel_rfl
 i4:=by kernel_rfl
 i5:=by kernel_rfl
 i9:=by kernel_rfl
 i20:=by kernel_rfl
 i37:=by kernel_rfl
 i46:=by kernel_rfl
 i51:=by kernel_rfl
 i53:=by kernel_rfl
 i171:=by kernel_rfl
 i173:=by kernel_rfl
 i212:=by kernel_rfl
 i232:=by kernel_rfl
 i233:=by kernel_rfl
 m17:=by kernel_rfl
 m18:=by kernel_rfl
 m19:=by kernel_rfl }
open Go.RowKit Go.Sort Go.Lib in
theorem Tryz.strconv_Itoa (n:Int) (h0: -9223372036854775808≤n) (h1:n≤9223372036854775807) (w:World) (htab:Lib.TabIs Tryz.prog w "internal/strconv.uint64pow10" .u64 Lib.pow10Tab):
 Calls Tryz.prog 168 #[.int .i64 n] w fun e w'=>e= .returned (.string ⟨(Lib.itoa n).toArray⟩)∧∃ k os,w'=grow (w.drewN k) os:=Any.strconv_Itoa Tryz.laysM171 n h0 h1 w htab
def Tryz.laysC172_ren:Go.Shelf.Ren:=⟨fun|172=>177|244=>195|245=>196|247=>213|279=>214|280=>215|281=>216|282=>217|287=>233|316=>234|171=>168|205=>235|321=>245|322=>246|243=>184|246=>203|283=>226|284=>227|285=>228|286=>229|129=>241|317=>240|318=>242|319=>243|320=>244|337=>249|338=>250|n=>n,fun|9=>9|3=>3|75=>129|76=>130|4=>4|5=>5|167=>193|37=>120|0=>0|85=>194|2=>2|168=>196|53=>151|175=>205|46=>207|210=>209|127=>154|145=>220|143=>218|21=>21|171=>200|173=>203|212=>213|51=>214|20=>20|213=>215|232=>224|233=>225|80=>87|n=>n,fun|15=>4|16=>5|17=>6|18=>7|19=>8|n=>n⟩
theorem Tryz.laysC172:Go.Proofs.LaysC.n172 Tryz.prog Tryz.laysC172_ren:= {
 mixed:=by kernel_rfl
 f129:=Tryz.func241.trans (congrArg some (by kernel_rfl))
 f171:=Tryz.func168.trans (congrArg some (by kernel_rfl))
 f172:=Tryz.func177.trans (congrArg some (by kernel_rfl))
 f205:=Tryz.func235.trans (congrArg some (by kernel_rfl))
 f243:=Tryz.func184.trans (congrArg some (by kernel_rfl))
 f244:=Tryz.func195.trans (congrArg some (by kernel_rfl))
 f245:=Tryz.func196.trans (congrArg some (by kernel_rfl))
 f246:=Tryz.func203.trans (congrArg some (by kernel_rfl))
 f247:=Tryz.func213.trans (congrArg some (by kernel_rfl))
 f279:=Tryz.func214.trans (congrArg some (by kernel_rfl))
 f280:=Tryz.func215.trans (congrArg some (by kernel_rfl))
 f281:=Tryz.func216.trans (congrArg some (by kernel_rfl))
 f282:=Tryz.func217.trans (congrArg some (by kernel_rfl))
 f283:=Tryz.func226.trans (congrArg some (by kernel_rfl))
 f284:=Tryz.func227.trans (congrArg some (by kernel_rfl))
 f285:=Tryz.func228.trans (congrArg some (by kernel_rfl))
 f286:=Tryz.func229.trans (congrArg some (by kernel_rfl))
 f287:=Tryz.func233.trans (congrArg some (by kernel_rfl))
 f316:=Tryz.func234.trans (congrArg some (by kernel_rfl))
 f317:=Tryz.func240.trans (congrArg some (by kernel_rfl))
 f318:=Tryz.func242.trans (congrArg some (by kernel_rfl))
 f319:=Tryz.func243.trans (congrArg some (by kernel_rfl))
 f320:=Tryz.func244.trans (congrArg some (by kernel_rfl))
 f321:=Tryz.func245.trans (congrArg some (by kernel_rfl))
 f322:=Tryz.func246.trans (congrArg some (by kernel_rfl))
 f337:=Tryz.func249.trans (congrArg some (by kernel_rfl))
 f338:=Tryz.func250.trans (congrArg some (by kernel_rfl))
 t0:=Tryz.underlying0
 a0:=Tryz.isAgg0
 z0:=Tryz.sizeOf0
 v0:=Tryz.zeroValue0
 t2:=Tryz.underlying2
 a2:=Tryz.isAgg2
 z2:=Tryz.sizeOf2
 v2:=Tryz.zeroValue2
 t3:=Tryz.underlying3
 a3:=Tryz.isAgg3
 z3:=Tryz.sizeOf3
 v3:=Tryz.zeroValue3
 t4:=Tryz.underlying4
 a4:=Tryz.isAgg4
 z4:=Tryz.sizeOf4
 v4:=Tryz.zeroValue4
 t5:=Tryz.underlying5
 a5:=Tryz.isAgg5
 z5:=Tryz.sizeOf5
 v5:=Tryz.zeroValue5
 t9:=Tryz.underlying9
 a9:=Tryz.isAgg9
 z9:=Tryz.sizeOf9
 v9:=Tryz.zeroValue9
 t20:=Tryz.underlying20
 a20:=Tryz.isAgg20
 z20:=Tryz.sizeOf20
 v20:=Tryz.zeroValue20
 t21:=Tryz.underlying21
 a21:=Tryz.isAgg21
 z21:=Tryz.sizeOf21
 v21:=Tryz.zeroValue21
 t37:=Tryz.underlying120
 a37:=Tryz.isAgg120
 z37:=Tryz.sizeOf120
 v37:=Tryz.zeroValue120
 t46:=Tryz.underlying207
 a46:=Tryz.isAgg207
 z46:=Tryz.sizeOf207
 v46:=Tryz.zeroValue207
 t51:=Tryz.underlying214
 a51:=Tryz.isAgg214
 z51:=Tryz.sizeOf214
 v51:=Tryz.zeroValue214
 t53:=Tryz.underlying151
 a53:=Tryz.isAgg151
 z53:=Tryz.sizeOf151
 v53:=Tryz.zeroValue151
 t75:=Tryz.underlying129
 a75:=Tryz.isAgg129
 z75:=Tryz.sizeOf129
 v75:=Tryz.zeroValue129
 t76:=Tryz.underlying130
 a76:=Tryz.isAgg130
 z76:=Tryz.sizeOf130
 v76:=Tryz.zeroValue130
 t85:=Tryz.underlying194
 a85:=Tryz.isAgg194
 z85:=Tryz.sizeOf194
 v85:=Tryz.zeroValue194
 t127:=Tryz.underlying154
 a127:=Tryz.isAgg154
 z127:=Tryz.sizeOf154
 v127:=Tryz.zeroValue154
 t143:=Tryz.underlying218
 a143:=Tryz.isAgg218
 z143:=Tryz.sizeOf218
 v143:=Tryz.zeroValue218
 t145:=Tryz.underlying220
 a145:=Tryz.isAgg220
 z145:=Tryz.sizeOf220
 v145:=Tryz.zeroValue220
 t167:=Tryz.underlying193
 a167:=Tryz.isAgg193
 z167:=Tryz.sizeOf193
 v167:=Tryz.zeroValue193
 t168:=Tryz.underlying196
 a168:=Tryz.isAgg196
 z168:=Tryz.sizeOf196
 v168:=Tryz.zeroValue196
 t171:=Tryz.underlying200
 a171:=Tryz.isAgg200
 z171:=Tryz.sizeOf200
 v171:=Tryz.zeroValue200
 t173:=Tryz.underlying203
 a173:=Tryz.isAgg203
 z173:=Tryz.sizeOf203
 v173:=Tryz.zeroValue203
 t175:=Tryz.underlying205
 a175:=Tryz.isAgg205
 z175:=Tryz.sizeOf205
 v175:=Tryz.zeroValue205
 t210:=Tryz.underlying209
 a210:=Tryz.isAgg209
 z210:=Tryz.sizeOf209
 v210:=Tryz.zeroValue209
 t212:=Tryz.underlying213
 a212:=Tryz.isAgg213
 z212:=Tryz.sizeOf213
 v212:=Tryz.zeroValue213
 t213:=Tryz.underlying215
 a213:=Tryz.isAgg215
 z213:=Tryz.sizeOf215
 t232:=Tryz.underlying224
 a232:=Tryz.isAgg224
 z232:=Tryz.sizeOf224
 v232:=Tryz.zeroValue224
 t233:=Tryz.underlying225
 a233:=Tryz.isAgg225
 z233:=Tryz.sizeOf225
 v233:=Tryz.zeroValue225
 g15:=by kernel_rfl
 g16:=by kernel_rfl
 g17:=by kernel_rfl
 g18:=by kernel_rfl
 g19:=by kernel_rfl
 t80:=Tryz.underlying87
 a80:=Tryz.isAgg87
 z80:=Tryz.sizeOf87
 v80:=Tryz.zeroValue87
 i0:=by kernel_rfl
 i2:=by kernel_rfl
 i3:=by kernel_rfl
 i4:=by kernel_rfl
 i5:=by kernel_rfl
 i9:=by kernel_rfl
 i20:=by kernel_rfl
 i21:=by kernel_rfl
 i37:=by kernel_rfl
 i46:=by kernel_rfl
 i51:=by kernel_rfl
 i53:=by kernel_rfl
 i75:=by kernel_rfl
 i76:=by kernel_rfl
 i80:=by kernel_rfl
 i85:=by kernel_rfl
 i127:=by kernel_rfl
 i143:=by kernel_rfl
 i145:=by kernel_rfl
 i167:=by kernel_rfl
 i168:=by kernel_rfl
 i171:=by kernel_rfl
 i173:=by kernel_rfl
 i175:=by kernel_rfl
 i210:=by kernel_rfl
 i212:=by kernel_rfl
 i232:=by kernel_rfl
 i233:=by kernel_rfl
 m15:=by kernel_rfl
 m16:=by kernel_rfl
 m17:=by kernel_rfl
 m18:=by kernel_rfl
 m19:=by kernel_rfl
 c0:=by kernel_rfl
 c2:=by kernel_rfl
 c3:=by kernel_rfl
 c4:=by kernel_rfl
 c5:=by kernel_rfl
 c9:=by kernel_rfl
 c20:=by kernel_rfl
 c21:=by kernel_rfl
 c37:=by kernel_rfl
 c46:=by kernel_rfl
 c51:=by kernel_rfl
 c53:=by kernel_rfl
 c75:=by kernel_rfl
 c76:=by kernel_rfl
 c80:=by kernel_rfl
 c85:=by kernel_rfl
 c127:=by kernel_rfl
 c143:=by kernel_rfl
 c145:=by kernel_rfl
 c167:=by kernel_rfl
 c168:=by kernel_rfl
 c171:=by kernel_rfl
 c173:=by kernel_rfl
 c175:=by kernel_rfl
 c210:=by kernel_rfl
 c212:=by kernel_rfl
 c213:=by kernel_rfl
 c232:=by kernel_rfl
 c233:=by kernel_rfl }
open Go.RowKit in
theorem Tryz.strconv_Atoi_ok (s:ByteArray) (hmax:s.size≤9223372036854775806) (v:Int) (h:Lib.atoiAll s.data.toList= .ok v) (w:World):
 Calls Tryz.prog 177 #[.string s] w fun e w'=>e= .returned (.tuple #[.int .i64 v,.nilIface])∧(w'=w∨∃ t,w'=Lib.bytesWorld w 5 t):=Any.strconv_Atoi_ok Tryz.laysC172 s hmax v h w
open Go.RowKit in
theorem Tryz.strconv_Atoi_range_var (s:ByteArray) (hlim:s.size≤281474976710656) (h:Lib.atoiAll s.data.toList= .range) (tp:TypeId) (p:Value) (w:World) (hvar:w.var? Tryz.prog "strconv.ErrRange" =some #[.iface tp p]):
 Calls Tryz.prog 177 #[.string s] w fun e w'=>∃ N,e= .returned (.tuple #[.int .i64 (Lib.atoiSat s.data.toList),.iface 196 (.pointer (some ⟨N,0,none⟩))])∧w.heap.size≤N∧w'.heap[N]? =some (.cells #[.string ⟨#[65,116,111,105]⟩,.string s,.iface tp p] 209 (0,0))∧Below w.heap.size w w':=Any.strconv_Atoi_range_var Tryz.laysC172 s hlim h tp p w hvar
def Tryz.lays99_ren:Go.Shelf.Ren:=⟨fun|99=>120|206=>160|n=>n,fun|9=>9|4=>4|3=>3|n=>n,fun|n=>n⟩
theorem Tryz.lays99:Go.Proofs.Lays.n99 Tryz.prog Tryz.lays99_ren:= {
 mixed:=by kernel_rfl
 f99:=Tryz.func120.trans (congrArg some (by kernel_rfl))
 f206:=Tryz.func160.trans (congrArg some (by kernel_rfl))
 t3:=Tryz.underlying3
 a3:=Tryz.isAgg3
 z3:=Tryz.sizeOf3
 v3:=Tryz.zeroValue3
 t4:=Tryz.underlying4
 a4:=Tryz.isAgg4
 z4:=Tryz.sizeOf4
 v4:=Tryz.zeroValue4
 t9:=Tryz.underlying9
 a9:=Tryz.isAgg9
 z9:=Tryz.sizeOf9
 v9:=Tryz.zeroValue9 }
open Go.RowKit Go.Lib in
theorem Tryz.strings_HasPrefix (s p:ByteArray) (w:World):
 Calls Tryz.prog 120 #[.string s,.string p] w fun e w'=>e= .returned (.bool (Lib.hasPrefix s.data.toList p.data.toList))∧w'=w:=Any.strings_HasPrefix Tryz.lays99 s p w
def Tryz.lays101_ren:Go.Shelf.Ren:=⟨fun|101=>194|208=>212|206=>160|n=>n,fun|9=>9|4=>4|3=>3|n=>n,fun|n=>n⟩
theorem Tryz.lays101:Go.Proofs.Lays.n101 Tryz.prog Tryz.lays101_ren:= {
 mixed:=by kernel_rfl
 f101:=Tryz.func194.trans (congrArg some (by kernel_rfl))
 f206:=Tryz.func160.trans (congrArg some (by kernel_rfl))
 f208:=Tryz.func212.trans (congrArg some (by kernel_rfl))
 t3:=Tryz.underlying3
 a3:=Tryz.isAgg3
 z3:=Tryz.sizeOf3
 v3:=Tryz.zeroValue3
 t4:=Tryz.underlying4
 a4:=Tryz.isAgg4
 z4:=Tryz.sizeOf4
 v4:=Tryz.zeroValue4
 t9:=Tryz.underlying9
 a9:=Tryz.isAgg9
 z9:=Tryz.sizeOf9
 v9:=Tryz.zeroValue9 }
open Go.RowKit Go.Lib in
theorem Tryz.strings_TrimPrefix (s p:ByteArray) (w:World):
 Calls Tryz.prog 194 #[.string s,.string p] w fun e w'=>e= .returned (.string ⟨(Lib.trimPrefix s.data.toList p.data.toList).toArray⟩)∧w'=w:=Any.strings_TrimPrefix Tryz.lays101 s p w
end Go.Proofs
namespace Go.Proofs.YtkahbhfbgdbnfaaGreatDoor
open Go.Lib (hid)
open Go.RowKit
theorem zzg (s:ByteArray):s.data.toList.length=s.size:=Array.length_toList
theorem z00 {f:UInt8→Bool} {s:ByteArray} {k:Nat} (h:k<s.size) (hf:f s[k]=true):zq8 f s.data.toList k=zq8 f s.data.toList (k+1):=
 endAt_step (by rw [zzg];exact h) hf
theorem endS_stop {f:UInt8→Bool} {s:ByteArray} {k:Nat} (h:k<s.size) (hf:f s[k]=false):zq8 f s.data.toList k=k:=
 endAt_stop (by rw [zzg];exact h) hf
theorem zwt (s:ByteArray) (p q:Nat) (w:World) (hs:s.size≤281474976710656) (hp:p≤s.size) (hq:Hid (zq8 wchB s.data.toList p=q)):
 Calls Tryz.prog 115 #[.string s,.int .i64 p] w fun e w'=>e= .returned (.int .i64 q)∧w=w':=by
 go_enter Tryz.func115,Tryz.ntmps115
 go_wp2_with fail
 go_loop [1] (fun i=>∃ k:Nat,k≤s.size∧i= .int .i64 k∧Hid (zq8 wchB s.data.toList k=q)) (fun i=>s.size - (intOf i).toNat)
 case atStart=>exact ⟨p,hp,rfl,hq⟩
 case round=>
  obtain ⟨k,hk,rfl,HK⟩:=hrel
  by_cases hlt:k<s.size
  ·cases h1:letB s[k] with
   |true=>
    have H1:=hid h1
    have hc:Calls Tryz.prog 114 #[.int .u8 s[k].toNat] w fun e w'=>e= .returned (.bool true)∧w=w':=by rw [←h1];exact zj4 _ _
    have HC:=hid hc
    clear h1 hc
    go_wp2_with (go_at_call 114;refine HC.out.mono ?_;rintro e w' ⟨rfl,rfl⟩)
    go_round
    case rel=>exact ⟨k+1,by omega,by go_num,(z00 hlt (by simp [wchB,H1.out])).symm.trans HK.out⟩
    case measure=>simp [intOf];omega
   |false=>
    have hc:Calls Tryz.prog 114 #[.int .u8 s[k].toNat] w fun e w'=>e= .returned (.bool false)∧w=w':=by rw [←h1];exact zj4 _ _
    have HC:=hid hc
    have H1:=hid h1
    clear h1 hc
    cases h2:digB s[k] with
    |true=>
     have hd:Calls Tryz.prog 123 #[.int .u8 s[k].toNat] w fun e w'=>e= .returned (.bool true)∧w=w':=by rw [←h2];exact z2d _ _
     have HD:=hid hd
     have H2:=hid h2
     clear h2 hd
     go_wp2_with (first|(go_at_call 114;refine HC.out.mono ?_;rintro e w' ⟨rfl,rfl⟩)|(go_at_call 123;refine HD.out.mono ?_;rintro e w' ⟨rfl,rfl⟩))
     go_round
     case rel=>exact ⟨k+1,by omega,by go_num,(z00 hlt (by simp [wchB,H2.out])).symm.trans HK.out⟩
     case measure=>simp [intOf];omega
    |false=>
     have hd:Calls Tryz.prog 123 #[.int .u8 s[k].toNat] w fun e w'=>e= .returned (.bool false)∧w=w':=by rw [←h2];exact z2d _ _
     have HD:=hid hd
     have H2:=hid h2
     clear h2 hd
     go_wp2_with (first|(go_at_call 114;refine HC.out.mono ?_;rintro e w' ⟨rfl,rfl⟩)|(go_at_call 123;refine HD.out.mono ?_;rintro e w' ⟨rfl,rfl⟩))
     go_ret
     exact ⟨z1y (by rw [←HK.out,endS_stop hlt (by simp [wchB,H1.out,H2.out])]),rfl⟩
  ·go_wp2_with fail
   go_ret
   exact ⟨z1y (by rw [←HK.out,endAt_end (by rw [zzg];omega)]),rfl⟩
theorem commentEnd_any (s:ByteArray) (p q:Nat) (w:World) (hs:s.size≤281474976710656) (hp:p≤s.size) (hq:Hid (zq8 zqs s.data.toList p=q)):
 Calls Tryz.prog 121 #[.string s,.int .i64 p] w fun e w'=>e= .returned (.int .i64 q)∧w=w':=by
 go_enter Tryz.func121,Tryz.ntmps121
 go_wp2_with fail
 go_loop [1] (fun i=>∃ k:Nat,k≤s.size∧i= .int .i64 k∧Hid (zq8 zqs s.data.toList k=q)) (fun i=>s.size - (intOf i).toNat)
 case atStart=>exact ⟨p,hp,rfl,hq⟩
 case round=>
  obtain ⟨k,hk,rfl,HK⟩:=hrel
  by_cases hlt:k<s.size
  ·by_cases h1:s[k].toNat=10
   ·have h2:((s[k].toNat:Int) !=10)=false:=by simp;omega
    have H1:=hid h1
    clear h1
    go_wp2_with fail
    go_ret
    exact ⟨z1y (by rw [←HK.out,endS_stop hlt (by simp [zqs,H1.out])]),rfl⟩
   ·have h2:((s[k].toNat:Int) !=10)=true:=by simp;omega
    have H1:=hid h1
    clear h1
    go_wp2_with fail
    go_round
    case rel=>exact ⟨k+1,by omega,by go_num,(z00 hlt (by simp [zqs,H1.out])).symm.trans HK.out⟩
    case measure=>simp [intOf];omega
  ·go_wp2_with fail
   go_ret
   exact ⟨z1y (by rw [←HK.out,endAt_end (by rw [zzg];omega)]),rfl⟩
theorem drop_extract (s:ByteArray) (k:Nat):(s.extract k s.size).data.toList=s.data.toList.drop k:=by
 rw [ByteArray.data_extract,Array.toList_extract,List.extract_eq_take_drop,List.take_of_length_le (by rw [List.length_drop,zzg];omega)]
theorem zjt (s:ByteArray) (a b:Nat):(s.extract a b).data.toList=(s.data.toList.drop a).take (b - a):=by
 rw [ByteArray.data_extract,Array.toList_extract,List.extract_eq_take_drop]
theorem com_pre (l:List UInt8):Lib.hasPrefix l [47,47]=comB l:=by
 match l with
 | []=>rfl
 | [a]=>simp [Lib.hasPrefix,comB,List.isPrefixOf]
 |a::b::r=>
  unfold Lib.hasPrefix comB
  rw [Bool.eq_iff_iff]
  simp only [List.isPrefixOf,Bool.and_true,Bool.and_eq_true,beq_iff_eq,decide_eq_true_eq]
  constructor
  ·rintro ⟨rfl,rfl⟩;exact ⟨rfl,rfl⟩
  ·rintro ⟨h1,h2⟩;exact ⟨(UInt8.toNat_inj.1 h1).symm,(UInt8.toNat_inj.1 h2).symm⟩
theorem hasPre (t p:ByteArray) (b:Bool) (w:World) (hb:Hid (Lib.hasPrefix t.data.toList p.data.toList=b)):Calls Tryz.prog 120 #[.string t,.string p] w fun e w'=>e= .returned (.bool b)∧w=w':=by
 refine (Tryz.strings_HasPrefix t p w).mono ?_
 rintro e w' ⟨rfl,rfl⟩
 exact ⟨zz6 hb.out,rfl⟩
theorem com_ext (s:ByteArray) (k:Nat) (b:Bool) (h:zvt s.data.toList k=b):Hid (Lib.hasPrefix (s.extract k s.size).data.toList (⟨#[47,47]⟩:ByteArray).data.toList=b):=by
 show _=_
 rw [drop_extract,show (⟨#[47,47]⟩:ByteArray).data.toList= [47,47] from rfl,com_pre]
 exact h
theorem skip_any (s:ByteArray) (p q:Nat) (w:World) (hs:s.size≤281474976710656) (hp:p≤s.size) (hq:Hid (zkk s.data.toList p=q)):
 Calls Tryz.prog 87 #[.string s,.int .i64 p] w fun e w'=>e= .returned (.int .i64 q)∧w=w':=by
 go_enter Tryz.func87,Tryz.ntmps87
 go_wp2_with fail
 go_loop [1] (fun i=>∃ k:Nat,k≤s.size∧i= .int .i64 k∧Hid (zkk s.data.toList k=q)) (fun i=>s.size - (intOf i).toNat)
 case atStart=>exact ⟨p,hp,rfl,hq⟩
 case round=>
  obtain ⟨k,hk,rfl,HK⟩:=hrel
  by_cases hlt:k<s.size
  ·cases h1:blkB s[k] with
   |true=>
    have H1:=hid h1
    have hc:Calls Tryz.prog 119 #[.int .u8 s[k].toNat] w fun e w'=>e= .returned (.bool true)∧w=w':=by rw [←h1];exact isBlank_any _ _
    have HC:=hid hc
    clear h1 hc
    go_wp2_with (go_at_call 119;refine HC.out.mono ?_;rintro e w' ⟨rfl,rfl⟩)
    go_round
    case rel=>exact ⟨k+1,by omega,by go_num,(skipAt_blk (l:=s.data.toList) (by rw [zzg];exact hlt) H1.out).symm.trans HK.out⟩
    case measure=>simp [intOf];omega
   |false=>
    have hc:Calls Tryz.prog 119 #[.int .u8 s[k].toNat] w fun e w'=>e= .returned (.bool false)∧w=w':=by rw [←h1];exact isBlank_any _ _
    have HC:=hid hc
    have H1:=hid h1
    clear h1 hc
    cases h2:zvt s.data.toList k with
    |true=>
     have H2:=hid h2
     have H3:=com_ext s k true h2
     have h4:=z3f (by rw [zzg];exact hlt) h2
     have h5:zq8 zqs s.data.toList k≤s.size:=by rw [←zzg];exact z1k (by rw [zzg];omega)
     have hsk:=(skipAt_com (l:=s.data.toList) (by rw [zzg];exact hlt) H1.out H2.out).symm.trans HK.out
     have HSK:=hid hsk
     obtain ⟨m,hm⟩:∃ m,zq8 zqs s.data.toList k=m:=⟨_,rfl⟩
     have HM:=hid hm
     rw [hm] at h4 h5
     clear h2 hm hsk
     go_wp2_with (first|(go_at_call 119;refine HC.out.mono ?_;rintro e w' ⟨rfl,rfl⟩)|(go_at_call 120;refine (hasPre _ _ true _ H3).mono ?_;rintro e w' ⟨rfl,rfl⟩)|(go_at_call 121;refine (commentEnd_any s k m _ hs hk HM).mono ?_;rintro e w' ⟨rfl,rfl⟩))
     go_round
     case rel=>exact ⟨m,h5,rfl,by have:=HSK.out;rw [HM.out] at this;exact this⟩
     case measure=>simp [intOf];omega
    |false=>
     have H2:=hid h2
     have H3:=com_ext s k false h2
     clear h2
     go_wp2_with (first|(go_at_call 119;refine HC.out.mono ?_;rintro e w' ⟨rfl,rfl⟩)|(go_at_call 120;refine (hasPre _ _ false _ H3).mono ?_;rintro e w' ⟨rfl,rfl⟩))
     go_ret
     exact ⟨z1y (by rw [←HK.out,skipAt_stop (by rw [zzg];exact hlt) H1.out H2.out]),rfl⟩
  ·go_wp2_with fail
   go_ret
   exact ⟨z1y (by rw [←HK.out,skipAt_end (by rw [zzg];omega)]),rfl⟩
def tabOf (ls:List (List UInt8)):Array Value:=(ls.map fun l=>Value.string ⟨l.toArray⟩).toArray
def tabK:Array Value:=tabOf keyTab
def tabG:Array Value:=tabOf longTab
def KeysIn (w:World):Prop:=∃ t fr,w.heap[0]? =some (.cells tabK t fr)
def LongsIn (w:World):Prop:=∃ t fr,w.heap[1]? =some (.cells tabG t fr)
theorem info103:(Tryz.prog.info? 150).map (·.size)=some tabK.size:=by kernel_rfl
theorem info110:(Tryz.prog.info? 183).map (·.size)=some tabG.size:=by kernel_rfl
theorem tab_at (ls:List (List UInt8)) (k:Nat) (h:k<ls.length):(tabOf ls)[k]? =some (.string ⟨(ls.getD k []).toArray⟩):=by
 unfold tabOf;rw [List.getElem?_toArray,List.getElem?_map,List.getElem?_eq_getElem h,List.getD_eq_getElem?_getD,List.getElem?_eq_getElem h];rfl
theorem tab_index (ls:List (List UInt8)) (t n:Nat) (k:Nat) (hk:k<ls.length) (hn:ls.length=n) (hu:Tryz.prog.underlying t=some (.array n 9)) (w:World):
 (Instr.index t (.agg (tabOf ls)) (.int .i64 k)).run Tryz.prog w= .ok (.string ⟨(ls.getD k []).toArray⟩) w:=by
 have h1:=tab_at ls k hk
 have h2:k<n:=by omega
 generalize ls.getD k []=d at h1 ⊢
 simp [Instr.index,run_underlying hu,asIntOf,go_sem,h2,h1,Tryz.sizeOf9,Tryz.isAgg9]
theorem keys_index (k:Nat) (hk:k<16) (w:World):(Instr.index 150 (.agg tabK) (.int .i64 k)).run Tryz.prog w= .ok (.string ⟨(keyTab.getD k []).toArray⟩) w:=tab_index keyTab 150 16 k hk rfl Tryz.underlying150 w
theorem longs_index (k:Nat) (hk:k<9) (w:World):(Instr.index 183 (.agg tabG) (.int .i64 k)).run Tryz.prog w= .ok (.string ⟨(longTab.getD k []).toArray⟩) w:=tab_index longTab 183 9 k hk rfl Tryz.underlying183 w
theorem str_eq {s:ByteArray} {t:List UInt8} (h:t=s.data.toList):(⟨t.toArray⟩:ByteArray)=s:=by rw [h]
theorem z3i (ls:List (List UInt8)) (k:Nat) (l:List UInt8) (h:k<ls.length):(ls.drop k).contains l=(l==ls.getD k []||(ls.drop (k+1)).contains l):=by
 rw [List.drop_eq_getElem_cons h,List.contains_cons,List.getD_eq_getElem?_getD,List.getElem?_eq_getElem h];rfl
theorem toList_ne {s:ByteArray} {t:List UInt8} (h:(s.data.toList==t)=false):(s.toList==t)=false:=by rw [ByteArray.toList_eq];exact h
theorem isKey_any (s:ByteArray) (w:World) (hK:KeysIn w):Calls Tryz.prog 116 #[.string s] w fun e w'=>e= .returned (.bool (keyB s.data.toList))∧w=w':=by
 obtain ⟨t,fr,hg⟩:=hK
 have HG:=hid hg
 obtain ⟨b,hb⟩:∃ b,b=keyB s.data.toList:=⟨_,rfl⟩
 rw [←hb]
 have HB:=hid hb
 clear hg hb
 go_enter Tryz.func116,Tryz.ntmps116
 go_wp2_with (refine wpList_load_row rfl 150 _ rfl 0 rfl t tabK fr _ HG.out Tryz.underlying150 rfl info103 ?_)
 go_loop [6] (fun i=>∃ k:Nat,k≤16∧i= .int .i64 k∧Hid (b=(keyTab.drop k).contains s.data.toList)) (fun i=>16 - (intOf i).toNat)
 case atStart=>exact ⟨0,by omega,rfl,HB⟩
 case round=>
  obtain ⟨k,hk,rfl,HK⟩:=hrel
  by_cases hlt:k<16
  ·have hix:=keys_index k hlt
   have hst:=z3i keyTab k s.data.toList hlt
   rw [←HK.out] at hst
   have HST:=hid hst
   clear hst
   generalize keyTab.getD k []=d at hix HST
   cases hm:(s.data.toList==d) with
   |true=>
    have hd:d=s.data.toList:=(beq_iff_eq.1 hm).symm
    have hbt:b=true:=by rw [HST.out,hm];rfl
    subst hbt
    rw [str_eq hd] at hix
    clear hm hd HST HK
    go_wp2_with fail
    go_ret
    exact ⟨rfl,rfl⟩
   |false=>
    have hne:=toList_ne hm
    have HB2:Hid (b=(keyTab.drop (k+1)).contains s.data.toList):=by
     show _=_
     rw [HST.out,hm];rfl
    clear hm HST HK
    go_wp2_with fail
    go_round
    case rel=>exact ⟨k+1,by omega,by go_num,HB2⟩
    case measure=>simp [intOf];omega
  ·have hbf:b=false:=by rw [HK.out,show k=16 by omega];rfl
   subst hbf
   go_wp2_with fail
   go_ret
   exact ⟨rfl,rfl⟩
def zjw (l:List UInt8):Bool:=decide (l.length≤12)&&zv6 l&&l.all wchB&& !keyB l
theorem run_all (f:UInt8→Bool) (l:List UInt8):(runN f l=l.length)↔l.all f=true:=by
 induction l with
 |nil=>simp [runN]
 |cons c r ih=>
  cases h:f c with
  |true=>rw [zq5 r h,List.all_cons,h,List.length_cons,Bool.true_and,←ih];omega
  |false=>rw [zji r h,List.all_cons,h,List.length_cons];simp
theorem end_all (f:UInt8→Bool) (l:List UInt8):(zq8 f l 0=l.length)↔l.all f=true:=by
 unfold zq8;rw [List.drop_zero,Nat.zero_add];exact run_all f l
theorem zvo (s:ByteArray) (h:0<s.size):∃ r,s.data.toList=s[0]::r:=by
 have hl:=zzg s
 cases hs:s.data.toList with
 |nil=>rw [hs] at hl;simp at hl;omega
 |cons c r=>
  refine ⟨r,?_⟩
  have h0:s.data.toList[0]'(by omega)=s[0]:=rfl
  simp only [hs,List.getElem_cons_zero] at h0
  rw [←h0]
theorem after_at (s:ByteArray) (h:0<s.size):zv6 s.data.toList=letB s[0]:=by
 obtain ⟨r,hr⟩:=zvo s h
 rw [hr];rfl
theorem size_zero {s:ByteArray} (h:s.size=0):s=⟨#[]⟩:=Go.WideShapes.bytes_inj (List.length_eq_zero_iff.1 ((zzg s).trans h))
theorem zj7 {s:ByteArray} (h:0<s.size):s.toList.isEmpty=false:=by
 rw [ByteArray.toList_eq]
 obtain ⟨r,hr⟩:=zvo s h
 rw [hr];rfl
theorem isWord_any (s:ByteArray) (w:World) (hs:s.size≤281474976710656) (hK:KeysIn w):Calls Tryz.prog 85 #[.string s] w fun e w'=>e= .returned (.bool (zjw s.data.toList))∧w=w':=by
 obtain ⟨b,hb⟩:∃ b,b=zjw s.data.toList:=⟨_,rfl⟩
 rw [←hb]
 have HB:=hid hb
 have HS:=hid hK
 clear hb hK
 by_cases h0:s.size=0
 ·have:=size_zero h0
  subst this
  obtain rfl:b=false:=HB.out.trans (by decide)
  clear HB h0 hs
  go_enter Tryz.func85,Tryz.ntmps85
  go_wp2_with fail
  go_ret
  exact ⟨rfl,rfl⟩
 ·have hp:0<s.size:=by omega
  have he:=zj7 hp
  by_cases h12:12<s.size
  ·have hi:(12:Int)<(s.size:Int):=by omega
   obtain rfl:b=false:=HB.out.trans (by unfold zjw;rw [zzg,decide_eq_false (by omega)];rfl)
   go_enter Tryz.func85,Tryz.ntmps85
   go_wp2_with fail
   go_ret
   exact ⟨rfl,rfl⟩
  ·have hi:¬ (12:Int)<(s.size:Int):=by omega
   have hb2:b=(letB s[0]&&s.data.toList.all wchB&& !keyB s.data.toList):=by
    rw [HB.out];unfold zjw;rw [zzg,decide_eq_true (by omega),after_at s hp];simp
   have HB2:=hid hb2
   clear hb2 HB h0
   cases h1:letB s[0] with
   |false=>
    have hc:Calls Tryz.prog 114 #[.int .u8 s[0].toNat] w fun e w'=>e= .returned (.bool false)∧w=w':=by rw [←h1];exact zj4 _ _
    have HC:=hid hc
    obtain rfl:b=false:=by rw [HB2.out,h1];rfl
    clear h1 hc
    go_enter Tryz.func85,Tryz.ntmps85
    go_wp2_with (go_at_call 114;refine HC.out.mono ?_;rintro e w' ⟨rfl,rfl⟩)
    go_ret
    exact ⟨rfl,rfl⟩
   |true=>
    have hc:Calls Tryz.prog 114 #[.int .u8 s[0].toNat] w fun e w'=>e= .returned (.bool true)∧w=w':=by rw [←h1];exact zj4 _ _
    have HC:=hid hc
    have H1:=hid h1
    have ha:=end_all wchB s.data.toList
    rw [zzg] at ha
    have hle:zq8 wchB s.data.toList 0≤s.size:=by rw [←zzg];exact z1k (Nat.zero_le _)
    obtain ⟨q,hq⟩:∃ q,zq8 wchB s.data.toList 0=q:=⟨_,rfl⟩
    rw [hq] at ha hle
    have HQ:=hid hq
    have HA:=hid ha
    have hw:Calls Tryz.prog 115 #[.string s,.int .i64 0] w fun e w'=>e= .returned (.int .i64 q)∧w=w':=zwt s 0 q w hs (Nat.zero_le _) HQ
    have HW:=hid hw
    clear hq ha h1 hc hw
    by_cases he2:q=s.size
    ·have hall:=HA.out.1 he2
     have hb3:b= !keyB s.data.toList:=by rw [HB2.out,H1.out,hall];simp
     cases hk:keyB s.data.toList with
     |true=>
      obtain rfl:b=false:=by rw [hb3,hk];rfl
      have hkc:Calls Tryz.prog 116 #[.string s] w fun e w'=>e= .returned (.bool true)∧w=w':=by rw [←hk];exact isKey_any s w HS.out
      have HKC:=hid hkc
      subst he2
      clear hb3 hk hkc hall HB2 HA HQ
      go_enter Tryz.func85,Tryz.ntmps85
      go_wp2_with (first|(go_at_call 114;refine HC.out.mono ?_;rintro e w' ⟨rfl,rfl⟩)|(go_at_call 115;refine HW.out.mono ?_;rintro e w' ⟨rfl,rfl⟩)|(go_at_call 116;refine HKC.out.mono ?_;rintro e w' ⟨rfl,rfl⟩))
      go_ret
      exact ⟨rfl,rfl⟩
     |false=>
      obtain rfl:b=true:=by rw [hb3,hk];rfl
      have hkc:Calls Tryz.prog 116 #[.string s] w fun e w'=>e= .returned (.bool false)∧w=w':=by rw [←hk];exact isKey_any s w HS.out
      have HKC:=hid hkc
      subst he2
      clear hb3 hk hkc hall HB2 HA HQ
      go_enter Tryz.func85,Tryz.ntmps85
      go_wp2_with (first|(go_at_call 114;refine HC.out.mono ?_;rintro e w' ⟨rfl,rfl⟩)|(go_at_call 115;refine HW.out.mono ?_;rintro e w' ⟨rfl,rfl⟩)|(go_at_call 116;refine HKC.out.mono ?_;rintro e w' ⟨rfl,rfl⟩))
      go_ret
      exact ⟨rfl,rfl⟩
    ·have hall:s.data.toList.all wchB=false:=by
      cases hx:s.data.toList.all wchB with
      |false=>rfl
      |true=>exact absurd (HA.out.2 hx) he2
     obtain rfl:b=false:=by rw [HB2.out,hall];simp
     have hn:((q:Int)==(s.size:Int))=false:=beq_eq_false_iff_ne.2 (by omega)
     have hn2:(q==s.size)=false:=beq_eq_false_iff_ne.2 he2
     clear hall HB2 HA HQ he2
     go_enter Tryz.func85,Tryz.ntmps85
     go_wp2_with (first|(go_at_call 114;refine HC.out.mono ?_;rintro e w' ⟨rfl,rfl⟩)|(go_at_call 115;refine HW.out.mono ?_;rintro e w' ⟨rfl,rfl⟩))
     go_ret
     exact ⟨rfl,rfl⟩
def zjx (s:ByteArray):ByteArray:=⟨(Lib.trimPrefix s.data.toList [45]).toArray⟩
def zjl (s:ByteArray):Bool:=(s.data.toList== [48])||zky (zjx s).data.toList
theorem val_nil (acc:Nat):val acc []=acc:=List.foldl_nil
theorem zwu (acc:Nat) (c:UInt8) (r:List UInt8):val acc (c::r)=val (acc*10+(c.toNat - 48)) r:=List.foldl_cons ..
theorem val_ge (l:List UInt8):∀ acc:Nat,acc≤val acc l:=by
 induction l with
 |nil=>intro acc;rw [val_nil];exact Nat.le_refl _
 |cons c r ih=>
  intro acc
  have:=ih (acc*10+(c.toNat - 48))
  rw [zwu]
  omega
theorem val_snoc (l:List UInt8) (c:UInt8):∀ acc:Nat,val acc (l++ [c])=val acc l*10+(c.toNat - 48):=by
 induction l with
 |nil=>intro acc;rw [List.nil_append,zwu,val_nil,val_nil]
 |cons d r ih=>intro acc;rw [List.cons_append,zwu,zwu,ih]
theorem val_bound (l:List UInt8):∀ acc:Nat,l.all digB=true→val acc l<(acc+1)*10^l.length:=by
 induction l with
 |nil=>intro acc _;rw [val_nil];simp
 |cons c r ih=>
  intro acc h
  simp only [List.all_cons,Bool.and_eq_true] at h
  have hd:48≤c.toNat∧c.toNat≤57:=by simpa [digB] using h.1
  have:=ih (acc*10+(c.toNat - 48)) h.2
  rw [zwu,List.length_cons,Nat.pow_succ]
  refine Nat.lt_of_lt_of_le this ?_
  rw [Nat.mul_comm (10^r.length) 10,←Nat.mul_assoc]
  exact Nat.mul_le_mul_right _ (by omega)
theorem parse_val (l:List UInt8):∀ acc:Nat,acc<18446744073709551616→l.all digB=true→
 Lib.parseUint10 acc l=if val acc l<18446744073709551616 then .ok (val acc l) else .range:=by
 induction l with
 |nil=>intro acc h _;rw [Lib.parseUint10,val_nil,if_pos h]
 |cons c r ih=>
  intro acc h ha
  simp only [List.all_cons,Bool.and_eq_true] at ha
  have hd:48≤c.toNat∧c.toNat≤57:=by simpa [digB] using ha.1
  have hg:=val_ge r (acc*10+(c.toNat - 48))
  rw [Lib.parseUint10,zwu,if_pos hd]
  by_cases h1:1844674407370955162≤acc
  ·rw [if_pos h1,if_neg (by omega)]
  ·rw [if_neg h1]
   by_cases h2:18446744073709551616≤acc*10+(c.toNat - 48)
   ·rw [if_pos h2,if_neg (by omega)]
   ·rw [if_neg h2]
    exact ih _ (by omega) ha.2
theorem plain_ne {l:List UInt8} (h:zky l=true):l≠ []:=by
 intro e;subst e;simp [zky] at h
theorem plain_all {l:List UInt8} (h:zky l=true):l.all digB=true:=by
 unfold zky at h;simp only [Bool.and_eq_true] at h;exact h.2
theorem mag_val {l:List UInt8} (h:zky l=true):Lib.parseMag l=if val 0 l<18446744073709551616 then .ok (val 0 l) else .range:=by
 unfold Lib.parseMag
 rw [if_neg (plain_ne h),parse_val l 0 (by omega) (plain_all h)]
theorem atoi_plain {l:List UInt8} (h:zky l=true):Lib.atoiAll l=if val 0 l<9223372036854775808 then .ok (val 0 l:Int) else .range:=by
 have hm:=mag_val h
 have ha:=plain_all h
 cases l with
 |nil=>exact absurd rfl (plain_ne h)
 |cons c r=>
  simp only [List.all_cons,Bool.and_eq_true] at ha
  have hd:48≤c.toNat∧c.toNat≤57:=by simpa [digB] using ha.1
  rw [Lib.atoiAll_plain c r (by omega) (by omega),hm]
  generalize val 0 (c::r)=u
  by_cases h1:u<18446744073709551616
  ·rw [if_pos h1]
   by_cases h2:u<9223372036854775808
   ·rw [if_pos h2];simp only [Lib.signless];rw [if_neg (by omega)]
   ·rw [if_neg h2];simp only [Lib.signless];rw [if_pos (by omega)]
  ·rw [if_neg h1,if_neg (by omega)];rfl
theorem atoi_minus {l:List UInt8} (h:zky l=true):Lib.atoiAll (45::l)=if val 0 l≤9223372036854775808 then .ok (-(val 0 l:Int)) else .range:=by
 rw [Lib.atoiAll_minus,mag_val h]
 generalize val 0 l=u
 by_cases h1:u<18446744073709551616
 ·rw [if_pos h1]
  by_cases h2:u≤9223372036854775808
  ·rw [if_pos h2];simp only [Lib.signed];rw [if_neg (by omega)]
  ·rw [if_neg h2];simp only [Lib.signed];rw [if_pos (by omega)]
 ·rw [if_neg h1,if_neg (by omega)];rfl
theorem atoi_zero:Lib.atoiAll [48]= .ok 0:=by decide
theorem trim_plain {l:List UInt8} (h:zky l=true):Lib.trimPrefix l [45]=l:=by
 have ha:=plain_all h
 cases l with
 |nil=>rfl
 |cons c r=>
  simp only [List.all_cons,Bool.and_eq_true] at ha
  have hd:48≤c.toNat∧c.toNat≤57:=by simpa [digB] using ha.1
  have hc:¬ (45:UInt8)=c:=by
   intro e;rw [←e] at hd;exact absurd hd.1 (by decide)
  unfold Lib.trimPrefix Lib.hasPrefix
  simp [hc]
theorem trim_minus (l:List UInt8):Lib.trimPrefix (45::l) [45]=l:=by
 unfold Lib.trimPrefix Lib.hasPrefix
 simp
theorem trim_any (s d:ByteArray) (H:Hid (zjx s=d)) (w:World):Calls Tryz.prog 194 #[.string s,.string ⟨#[45]⟩] w fun e w'=>e= .returned (.string d)∧w=w':=by
 refine (Tryz.strings_TrimPrefix s ⟨#[45]⟩ w).mono ?_
 rintro e w' ⟨rfl,rfl⟩
 exact ⟨ret_str H.out,rfl⟩
theorem all_snoc (l:List UInt8) (k:Nat) (h:k<l.length):(l.take (k+1)).all digB=((l.take k).all digB&&digB l[k]):=by
 rw [List.take_succ_eq_append_getElem h,List.all_append];simp
theorem isForm_core (s d:ByteArray) (w:World) (hT:Hid (zjx s=d)) (hs:(s.toList== [48])=false) (hm:d.size≤maxLen):
 Calls Tryz.prog 176 #[.string s] w fun e w'=>e= .returned (.bool (zky d.data.toList))∧w=w':=by
 obtain ⟨b,hb⟩:∃ b,b=zky d.data.toList:=⟨_,rfl⟩
 rw [←hb]
 have HB:=hid hb
 clear hb
 unfold maxLen at hm
 have hdl:d.toList=d.data.toList:=ByteArray.toList_eq d
 have HDL:=hid hdl
 have hsz:d.data.toList.length=d.size:=Array.length_toList
 have HSZ:=hid hsz
 clear hdl hsz
 by_cases h0:d.size=0
 ·have he:d.data.toList= []:=List.length_eq_zero_iff.1 (HSZ.out.trans h0)
  have hE:d=⟨#[]⟩:=Go.WideShapes.bytes_inj he
  subst hE
  obtain rfl:b=false:=by rw [HB.out];rfl
  clear h0 he HB hm HDL HSZ
  go_enter Tryz.func176,Tryz.ntmps176
  go_wp2_with (go_at_call 194;refine (trim_any _ _ hT _).mono ?_;rintro e w' ⟨rfl,rfl⟩)
  go_ret
  exact ⟨rfl,rfl⟩
 ·have hp:0<d.size:=by omega
  have hne:d.toList.isEmpty=false:=by
   rw [HDL.out];cases hl:d.data.toList with
   |nil=>have:=HSZ.out;rw [hl] at this;simp at this;omega
   |cons=>rfl
  have hh:d.data.toList.headD 48=d[0]:=by
   rw [List.headD_eq_head?_getD,List.head?_eq_getElem?,List.getElem?_eq_getElem (by rw [HSZ.out];exact hp)];rfl
  by_cases hz:d[0]=48
  ·have hz1:((d[0].toNat:Int)==48)=true:=by rw [hz];rfl
   obtain rfl:b=false:=by rw [HB.out];unfold zky;rw [hh,hz];simp
   clear hz hh HB h0
   go_enter Tryz.func176,Tryz.ntmps176
   go_wp2_with (go_at_call 194;refine (trim_any _ _ hT _).mono ?_;rintro e w' ⟨rfl,rfl⟩)
   go_ret
   exact ⟨rfl,rfl⟩
  ·have hz1:((d[0].toNat:Int)==48)=false:=by
    simp;intro e;apply hz;exact UInt8.toNat_inj.1 (by simpa using (by omega:d[0].toNat=48))
   have hv:b=d.data.toList.all digB:=by
    rw [HB.out];unfold zky;rw [hh]
    have:d.data.toList.isEmpty=false:=by rw [←HDL.out];exact hne
    simp [this,hz]
   have HV:=hid hv
   clear hz hh HB h0 hv
   go_enter Tryz.func176,Tryz.ntmps176
   go_wp2_with (go_at_call 194;refine (trim_any _ _ hT _).mono ?_;rintro e w' ⟨rfl,rfl⟩)
   go_loop [18] (fun i=>∃ k:Nat,k≤d.size∧i= .int .i64 k∧Hid ((d.data.toList.take k).all digB=true)) (fun i=>d.size - (intOf i).toNat)
   case atStart=>exact ⟨0,Nat.zero_le _,rfl,rfl⟩
   case round=>
    obtain ⟨k,hk,rfl,HK⟩:=hrel
    by_cases hlt:k<d.size
    ·have hg:d.data.toList[k]'(by rw [HSZ.out];exact hlt)=d[k]:=rfl
     have hsn:=all_snoc d.data.toList k (by rw [HSZ.out];exact hlt)
     rw [hg,HK.out,Bool.true_and] at hsn
     by_cases hd:digB d[k]=true
     ·have hk1:(d.data.toList.take (k+1)).all digB=true:=by rw [hsn];exact hd
      have HK1:=hid hk1
      have hd1:48≤d[k].toNat∧d[k].toNat≤57:=by simpa [digB] using hd
      have l1:¬ (d[k].toNat:Int)<48:=by omega
      have l2:¬ 57<(d[k].toNat:Int):=by omega
      clear hg hsn hd hk1 hd1
      go_wp2
      go_round
      case rel=>exact ⟨k+1,by omega,by go_num,HK1⟩
      case measure=>simp [intOf];omega
     ·have hf:b=false:=by
       rw [HV.out,←List.take_append_drop (k+1) d.data.toList,List.all_append,hsn]
       simp [hd]
      subst hf
      have hd1:d[k].toNat<48∨57<d[k].toNat:=by
       have:¬ (48≤d[k].toNat∧d[k].toNat≤57):=by simpa [digB] using hd
       omega
      rcases hd1 with hd1|hd1
      ·have l1:(d[k].toNat:Int)<48:=by omega
       clear hg hsn hd hd1
       go_wp2
       go_ret
       exact ⟨rfl,rfl⟩
      ·have l1:¬ (d[k].toNat:Int)<48:=by omega
       have l2:57<(d[k].toNat:Int):=by omega
       clear hg hsn hd hd1
       go_wp2
       go_ret
       exact ⟨rfl,rfl⟩
    ·have hf:b=true:=by
      rw [HV.out];have:=HK.out;rwa [List.take_of_length_le (by rw [HSZ.out];omega)] at this
     subst hf
     go_wp2
     go_ret
     exact ⟨rfl,rfl⟩
theorem trim_size (s:ByteArray):(zjx s).size≤s.size:=by
 have h1:(zjx s).size=(Lib.trimPrefix s.data.toList [45]).length:=List.size_toArray
 have h2:=Lib.trimPrefix_le s.data.toList [45]
 have h3:s.data.toList.length=s.size:=Array.length_toList
 omega
theorem isForm_any (s:ByteArray) (w:World) (hm:s.size≤maxLen):Calls Tryz.prog 176 #[.string s] w fun e w'=>e= .returned (.bool (zjl s))∧w=w':=by
 have e1:=ByteArray.toList_eq s
 by_cases h:(s.toList== [48])=true
 ·have hv:zjl s=true:=by unfold zjl;rw [←e1,h];rfl
  rw [hv]
  clear hv e1
  go_enter Tryz.func176,Tryz.ntmps176
  go_wp2
  go_ret
  exact ⟨rfl,rfl⟩
 ·have h':(s.toList== [48])=false:=by simpa using h
  have hv:zjl s=zky (zjx s).data.toList:=by unfold zjl;rw [←e1,h'];rfl
  rw [hv]
  exact isForm_core s (zjx s) w (hid rfl) h' (Nat.le_trans (trim_size s) hm)
def z1w (s:ByteArray):Int×Int:=
 if zjl s=true then
  (if (zjx s).size<s.size then (if val 0 (zjx s).data.toList≤9223372036854775808 then (-(val 0 (zjx s).data.toList:Int),0) else (0,2))
   else (if val 0 (zjx s).data.toList<9223372036854775808 then ((val 0 (zjx s).data.toList:Int),0) else (0,2)))
 else (0,1)
theorem spec_no {s:ByteArray} (h:zjl s=false):z1w s=(0,1):=by
 unfold z1w;rw [if_neg (by rw [h];decide)]
theorem spec_neg {s:ByteArray} (h:zjl s=true) (hl:(zjx s).size<s.size):
 z1w s=if val 0 (zjx s).data.toList≤9223372036854775808 then (-(val 0 (zjx s).data.toList:Int),0) else (0,2):=by
 unfold z1w;rw [if_pos h,if_pos hl]
theorem spec_pos {s:ByteArray} (h:zjl s=true) (hl:¬ (zjx s).size<s.size):
 z1w s=if val 0 (zjx s).data.toList<9223372036854775808 then ((val 0 (zjx s).data.toList:Int),0) else (0,2):=by
 unfold z1w;rw [if_pos h,if_neg hl]
theorem trim_neg (s d:ByteArray) (h:0<s.size) (h45:s[0]=45) (hd:s.extract 1 s.size=d):zjx s=d∧d.size+1=s.size:=by
 obtain ⟨r,hr⟩:=zvo s h
 have he:d.data.toList=r:=by
  rw [←hd,ByteArray.data_extract]
  rw [Array.toList_extract,List.extract_eq_take_drop,hr]
  have:r.length+1=s.size:=by rw [←zzg s,hr];rfl
  rw [List.drop_one,List.tail_cons,List.take_of_length_le (by omega)]
 have ht:(zjx s).data.toList=r:=by
  show (Lib.trimPrefix s.data.toList [45])=r
  rw [hr,h45,trim_minus]
 refine ⟨Go.WideShapes.bytes_inj (by rw [he,ht]),?_⟩
 rw [←zzg d,←zzg s,he,hr];rfl
theorem trim_pos (s:ByteArray) (h:s.size=0∨∃ h:0<s.size,s[0]≠45):zjx s=s:=by
 refine Go.WideShapes.bytes_inj ?_
 show Lib.trimPrefix s.data.toList [45]=s.data.toList
 rcases h with h|⟨h,h45⟩
 ·have:s.data.toList= []:=List.length_eq_zero_iff.1 ((zzg s).trans h)
  rw [this];rfl
 ·obtain ⟨r,hr⟩:=zvo s h
  rw [hr]
  unfold Lib.trimPrefix Lib.hasPrefix
  have:¬ (45:UInt8)=s[0]:=fun e=>h45 e.symm
  simp [this]
theorem form_empty {s d:ByteArray} (hd:zjx s=d) (h:d.size=0) (hs:(s.toList== [48])=false):zjl s=false:=by
 unfold zjl
 rw [←ByteArray.toList_eq,hs,hd]
 have:d.data.toList= []:=List.length_eq_zero_iff.1 ((zzg d).trans h)
 rw [this];rfl
theorem form_zero {s d:ByteArray} (hd:zjx s=d) (h:0<d.size) (h48:d[0]=48) (hs:(s.toList== [48])=false):zjl s=false:=by
 unfold zjl
 rw [←ByteArray.toList_eq,hs,hd]
 obtain ⟨r,hr⟩:=zvo d h
 rw [hr,h48];simp [zky]
theorem form_all {s d:ByteArray} (hd:zjx s=d) (h:0<d.size) (h48:d[0]≠48) (hs:(s.toList== [48])=false):zjl s=d.data.toList.all digB:=by
 unfold zjl
 rw [←ByteArray.toList_eq,hs,hd]
 obtain ⟨r,hr⟩:=zvo d h
 rw [hr];simp [zky,h48]
theorem parse_ok (s:ByteArray) (v:Int) (w:World) (hlim:s.size≤281474976710656) (hf:zjl s=true) (h:Lib.atoiAll s.data.toList= .ok v):
 Calls Tryz.prog 161 #[.string s] w fun e w'=>e= .returned (.tuple #[.int .i64 v,.int .i64 0])∧Below w.heap.size w w':=by
 have hc:Calls Tryz.prog 177 #[.string s] w fun e w'=>e= .returned (.tuple #[.int .i64 v,.nilIface])∧Below w.heap.size w w':=by
  refine (Tryz.strconv_Atoi_ok s (by omega) v h w).mono ?_
  rintro e w' ⟨rfl,rfl|⟨t,rfl⟩⟩
  ·exact ⟨rfl,Below.refl _ _⟩
  ·exact ⟨rfl,Lib.bytesWorld_below _ _ _⟩
 have hi:Calls Tryz.prog 176 #[.string s] w fun e w'=>e= .returned (.bool true)∧w=w':=by
  rw [←hf]
  exact isForm_any s w (by unfold maxLen;omega)
 have HC:=hid hc
 have HI:=hid hi
 clear hc hi h hf hlim
 go_enter Tryz.func161,Tryz.ntmps161
 go_wp2_with (first|(go_at_call 176;refine HI.out.mono ?_;rintro e w' ⟨rfl,rfl⟩)|(go_at_call 177;refine HC.out.mono ?_;rintro e w' ⟨rfl,hb⟩))
 go_ret2
 exact ⟨rfl,hb⟩
theorem parse_spec (s:ByteArray) (h:zjl s=true):(∃ v,Lib.atoiAll s.data.toList= .ok v∧z1w s=(v,0))∨(Lib.atoiAll s.data.toList= .range∧z1w s=(0,2)):=by
 by_cases h0:s.size=0
 ·have hE:s=⟨#[]⟩:=Go.WideShapes.bytes_inj (List.length_eq_zero_iff.1 ((zzg s).trans h0))
  subst hE
  exact absurd h (by decide)
 ·have hp:0<s.size:=by omega
  obtain ⟨r,hr⟩:=zvo s hp
  by_cases h45:s[0]=45
  ·obtain ⟨ht,hds⟩:=trim_neg s _ hp h45 rfl
   have hd:(zjx s).data.toList=r:=by
    show Lib.trimPrefix s.data.toList [45]=r
    rw [hr,h45,trim_minus]
   have hpl:zky r=true:=by
    unfold zjl at h
    rw [hd,hr,h45] at h
    simpa using h
   have hlt:(zjx s).size<s.size:=by rw [ht];omega
   rw [spec_neg h hlt,hd,hr,h45,atoi_minus hpl]
   by_cases hv:val 0 r≤9223372036854775808
   ·rw [if_pos hv,if_pos hv];exact Or.inl ⟨_,rfl,rfl⟩
   ·rw [if_neg hv,if_neg hv];exact Or.inr ⟨rfl,rfl⟩
  ·have ht:=trim_pos s (Or.inr ⟨hp,h45⟩)
   rw [spec_pos h (by rw [ht];omega),ht]
   by_cases hz:s.data.toList= [48]
   ·rw [hz,atoi_zero]
    exact Or.inl ⟨0,rfl,by decide⟩
   ·have hpl:zky s.data.toList=true:=by
     unfold zjl at h
     rw [ht] at h
     simpa [hz] using h
    rw [atoi_plain hpl]
    by_cases hv:val 0 s.data.toList<9223372036854775808
    ·rw [if_pos hv,if_pos hv];exact Or.inl ⟨_,rfl,rfl⟩
    ·rw [if_neg hv,if_neg hv];exact Or.inr ⟨rfl,rfl⟩
theorem zvn (s:ByteArray) (p:Int×Int) (w:World) (G:∃ tp p,w.var? Tryz.prog "strconv.ErrRange" =some #[.iface tp p]) (hlim:s.size≤281474976710656) (hp:Hid (z1w s=p)):
 Calls Tryz.prog 161 #[.string s] w fun e w'=>e= .returned (.tuple #[.int .i64 p.1,.int .i64 p.2])∧Below w.heap.size w w':=by
 by_cases hf:zjl s=true
 ·rcases parse_spec s hf with ⟨v,hv,hs⟩|⟨hv,hs⟩
  ·have hpv:=hp.out
   rw [hs] at hpv
   subst hpv
   exact parse_ok s v w hlim hf hv
  ·have hpv:=hp.out
   rw [hs] at hpv
   subst hpv
   obtain ⟨tp,q,hvar⟩:=G
   have hc:=Tryz.strconv_Atoi_range_var s hlim hv tp q w hvar
   have hi:Calls Tryz.prog 176 #[.string s] w fun e w'=>e= .returned (.bool true)∧w=w':=by
    rw [←hf]
    exact isForm_any s w (by unfold maxLen;omega)
   have HC:=hid hc
   have HI:=hid hi
   clear hc hi hv hf hlim hvar hs hp
   go_enter Tryz.func161,Tryz.ntmps161
   go_wp2_with (first|(go_at_call 176;refine HI.out.mono ?_;rintro e w' ⟨rfl,rfl⟩)|(go_at_call 177;refine HC.out.mono ?_;rintro e w' ⟨K,rfl,_,_,hb⟩))
   go_ret2
   exact ⟨rfl,hb⟩
 ·have hf':zjl s=false:=by simpa using hf
  have hpv:=hp.out
  rw [spec_no hf'] at hpv
  subst hpv
  have hi:Calls Tryz.prog 176 #[.string s] w fun e w'=>e= .returned (.bool false)∧w=w':=by
   rw [←hf']
   exact isForm_any s w (by unfold maxLen;omega)
  have HI:=hid hi
  clear hi hf hf' hlim hp G
  go_enter Tryz.func161,Tryz.ntmps161
  go_wp2_with (go_at_call 176;refine HI.out.mono ?_;rintro e w' ⟨rfl,rfl⟩)
  go_ret2
  exact ⟨rfl,Below.refl _ _⟩
theorem KeysIn.below {w w':World} {B:Nat} (h:KeysIn w) (hb:Below B w w') (hB:1<B):KeysIn w':=by
 obtain ⟨t,fr,hg⟩:=h
 exact ⟨t,fr,(hb.block 0 (by omega)).trans hg⟩
theorem KeysIn.alloc {w:World} (h:KeysIn w) (o:Obj):KeysIn (w.alloc o):=by
 obtain ⟨t,fr,hg⟩:=h
 exact ⟨t,fr,(Below.heap_alloc w o 0 (Array.getElem?_eq_some_iff.1 hg).1).trans hg⟩
theorem LongsIn.below {w w':World} {B:Nat} (h:LongsIn w) (hb:Below B w w') (hB:1<B):LongsIn w':=by
 obtain ⟨t,fr,hg⟩:=h
 exact ⟨t,fr,(hb.block 1 (by omega)).trans hg⟩
theorem LongsIn.alloc {w:World} (h:LongsIn w) (o:Obj):LongsIn (w.alloc o):=by
 obtain ⟨t,fr,hg⟩:=h
 exact ⟨t,fr,(Below.heap_alloc w o 1 (Array.getElem?_eq_some_iff.1 hg).1).trans hg⟩
theorem isKey_to (s:ByteArray) (b:Bool) (w:World) (hK:KeysIn w) (hb:Hid (keyB s.data.toList=b)):Calls Tryz.prog 116 #[.string s] w fun e w'=>e= .returned (.bool b)∧w=w':=by
 rw [←hb.out];exact isKey_any s w hK
def tkV (kd:Int) (t:ByteArray) (p e:Int):Value:= .tuple #[.agg #[.int .i64 kd,.string t,.int .i64 p],.int .i64 e]
def tkOf (s:ByteArray) (k:Nat) (t:Tk):Value:=if t.err=0 then tkV t.kind (s.extract k (k+t.len)) k 0 else tkV 0 ⟨#[]⟩ 0 t.err
theorem word_at (l:List UInt8) (k:Nat) (q:Nat) (hq:zq8 wchB l k=q):zv7 (l.drop k)=if 12<q - k then ⟨4,0,0⟩ else if keyB ((l.drop k).take (q - k)) then ⟨0,2,q - k⟩ else ⟨0,1,q - k⟩:=by
 have:runN wchB (l.drop k)=q - k:=by rw [←hq,zq8];omega
 unfold zv7;rw [this]
theorem wordAt_any (s:ByteArray) (k:Nat) (r:Value) (w:World) (hs:s.size≤281474976710656) (hk:k<s.size) (hK:KeysIn w) (hr:Hid (tkOf s k (zv7 (s.data.toList.drop k))=r)):
 Calls Tryz.prog 122 #[.string s,.int .i64 k] w fun e w'=>e= .returned r∧Below w.heap.size w w':=by
 have HK:=hid hK
 clear hK
 obtain ⟨q,hq⟩:∃ q,zq8 wchB s.data.toList k=q:=⟨_,rfl⟩
 have h1:=le_endAt wchB s.data.toList k
 have h2:zq8 wchB s.data.toList k≤s.size:=by rw [←zzg];exact z1k (by rw [zzg];omega)
 have h3:=word_at s.data.toList k q hq
 rw [hq] at h1 h2
 have HQ:=hid hq
 have H3:=hid h3
 clear hq h3
 have hx:(s.extract k q).data.toList=(s.data.toList.drop k).take (q - k):=zjt s k q
 have hxs:(s.extract k q).size=q - k:=by rw [←zzg,hx,List.length_take,List.length_drop,zzg];omega
 obtain ⟨x,hX⟩:∃ x,s.extract k q=x:=⟨_,rfl⟩
 have hX2:∀ w,(Instr.slice 9 (.string s) (some (.int .i64 k)) (some (.int .i64 q)) none).run Tryz.prog w= .ok (.string x) w:=fun w=>by
  rw [run_slice_string (P:=Tryz.prog) w 9 s .i64 .i64 k q Tryz.underlying9 (by omega) (by omega) (by omega),←hX];rfl
 rw [hX] at hx hxs
 have HX:=hid hX
 have HX1:=hid hx
 clear hX hx
 by_cases h12:12<x.size
 ·have hi:(12:Int)<(x.size:Int):=by omega
  have HR:Hid (tkV 0 ⟨#[]⟩ 0 4=r):=by
   show _=_
   rw [←hr.out,H3.out,if_pos (by omega)];rfl
  have:=HR.out
  subst this
  clear hxs
  go_enter Tryz.func122,Tryz.ntmps122
  go_wp2_with (go_at_call 115;refine (zwt s k q _ hs (by omega) HQ).mono ?_;rintro e w' ⟨rfl,rfl⟩)
  exact bodyPost_ret (v:=tkV 0 ⟨#[]⟩ 0 4) (by simp [results,Tryz.results122,go_sem,tkV]) rfl ⟨rfl,(Below.refl _ _).alloc (Nat.le_refl _) _⟩
 ·have hi:¬ (12:Int)<(x.size:Int):=by omega
  cases hky:keyB x.data.toList with
  |true=>
   have HR:Hid (tkV 2 x k 0=r):=by
    show _=_
    rw [←hr.out,H3.out,if_neg (by omega),if_pos (by rw [←HX1.out];exact hky)]
    show _=tkV 2 (s.extract k (k+(q - k))) k 0
    rw [show k+(q - k)=q by omega,HX.out]
   have HKY:=hid hky
   have:=HR.out
   subst this
   clear hxs hky
   go_enter Tryz.func122,Tryz.ntmps122
   go_wp2_with (first|(go_at_call 115;refine (zwt s k q _ hs (by omega) HQ).mono ?_;rintro e w' ⟨rfl,rfl⟩)|(go_at_call 116;refine (isKey_to _ true _ (by exact HK.out.alloc _) HKY).mono ?_;rintro e w' ⟨rfl,rfl⟩))
   exact bodyPost_ret (v:=tkV 2 x k 0) (by simp [results,Tryz.results122,go_sem,tkV]) rfl ⟨rfl,(Below.refl _ _).alloc (Nat.le_refl _) _⟩
  |false=>
   have HR:Hid (tkV 1 x k 0=r):=by
    show _=_
    rw [←hr.out,H3.out,if_neg (by omega),if_neg (by rw [←HX1.out,hky];decide)]
    show _=tkV 1 (s.extract k (k+(q - k))) k 0
    rw [show k+(q - k)=q by omega,HX.out]
   have HKY:=hid hky
   have:=HR.out
   subst this
   clear hxs hky
   go_enter Tryz.func122,Tryz.ntmps122
   go_wp2_with (first|(go_at_call 115;refine (zwt s k q _ hs (by omega) HQ).mono ?_;rintro e w' ⟨rfl,rfl⟩)|(go_at_call 116;refine (isKey_to _ false _ (by exact HK.out.alloc _) HKY).mono ?_;rintro e w' ⟨rfl,rfl⟩))
   exact bodyPost_ret (v:=tkV 1 x k 0) (by simp [results,Tryz.results122,go_sem,tkV]) rfl ⟨rfl,(Below.refl _ _).alloc (Nat.le_refl _) _⟩
theorem run_take_all (f:UInt8→Bool) (l:List UInt8):(l.take (runN f l)).all f=true:=by
 induction l with
 |nil=>rfl
 |cons c r ih=>
  cases h:f c with
  |true=>rw [zq5 r h,List.take_succ_cons,List.all_cons,h,ih];rfl
  |false=>rw [zji r h];rfl
theorem num_at (l:List UInt8) (k q:Nat) (hq:zq8 digB l k=q):
 numT (l.drop k)=(if zv6 (l.drop q) then ⟨1,0,0⟩ else if parE ((l.drop k).take (q - k))=0 then ⟨0,3,q - k⟩ else ⟨parE ((l.drop k).take (q - k)),0,0⟩)∧((l.drop k).take (q - k)).all digB=true:=by
 have h1:runN digB (l.drop k)=q - k:=by rw [←hq,zq8];omega
 have h2:=run_take_all digB (l.drop k)
 have h3:k≤q:=by rw [←hq];exact le_endAt _ _ _
 unfold numT
 rw [h1] at h2 ⊢
 rw [List.drop_drop,show k+(q - k)=q by omega]
 exact ⟨rfl,h2⟩
theorem spec_par (x:ByteArray) (h:0<x.size) (ha:x.data.toList.all digB=true):(z1w x).2=(parE x.data.toList:Int):=by
 obtain ⟨r,hr⟩:=zvo x h
 have hd:digB x[0]=true:=by
  rw [hr,List.all_cons,Bool.and_eq_true] at ha;exact ha.1
 have h45:x[0]≠45:=by intro e;rw [e] at hd;exact absurd hd (by decide)
 have ht:=trim_pos x (Or.inr ⟨h,h45⟩)
 unfold parE
 by_cases hf:zjl x=true
 ·have hf2:=hf
  unfold zjl at hf2
  rw [ht] at hf2
  rw [if_pos hf2,spec_pos hf (by rw [ht];omega),ht]
  by_cases hv:val 0 x.data.toList<9223372036854775808
  ·rw [if_pos hv,if_pos hv];rfl
  ·rw [if_neg hv,if_neg hv];rfl
 ·have hf1:zjl x=false:=by simpa using hf
  have hf2:=hf1
  unfold zjl at hf2
  rw [ht] at hf2
  rw [hf2,spec_no hf1];rfl
theorem par_le (l:List UInt8):parE l=0∨parE l=1∨parE l=2:=by
 unfold parE;split
 ·split
  ·exact Or.inl rfl
  ·exact Or.inr (Or.inr rfl)
 ·exact Or.inr (Or.inl rfl)
theorem after_drop (s:ByteArray) (q:Nat) (h:q<s.size):zv6 (s.data.toList.drop q)=letB s[q]:=by
 rw [List.drop_eq_getElem_cons (by rw [zzg];exact h)];rfl
theorem after_end (s:ByteArray) (q:Nat) (h:s.size≤q):zv6 (s.data.toList.drop q)=false:=by
 rw [List.drop_of_length_le (by rw [zzg];exact h)];rfl
theorem zjs (c:UInt8) (b:Bool) (w:World) (h:Hid (digB c=b)):Calls Tryz.prog 123 #[.int .u8 c.toNat] w fun e w'=>e= .returned (.bool b)∧w=w':=by rw [←h.out];exact z2d c w
theorem zk9 (c:UInt8) (b:Bool) (w:World) (h:Hid (letB c=b)):Calls Tryz.prog 114 #[.int .u8 c.toNat] w fun e w'=>e= .returned (.bool b)∧w=w':=by rw [←h.out];exact zj4 c w
abbrev RngIn (w:World):Prop:=∃ tp p,w.var? Tryz.prog "strconv.ErrRange" =some #[.iface tp p]
theorem gRange:Tryz.prog.globalNamed "strconv.ErrRange" =some 5:=by kernel_rfl
theorem zj0 {w w':World} {B:Nat} (h:RngIn w) (hb:Below B w w') (hB:5<B):RngIn w':=by
 obtain ⟨tp,p,hv⟩:=h
 exact ⟨tp,p,var?_below hb gRange hB hv⟩
theorem slice_run (s:ByteArray) (k q:Nat) (h1:k≤q) (h2:q≤s.size) (w:World):(Instr.slice 9 (.string s) (some (.int .i64 k)) (some (.int .i64 q)) none).run Tryz.prog w= .ok (.string (s.extract k q)) w:=by
 rw [run_slice_string (P:=Tryz.prog) w 9 s .i64 .i64 k q Tryz.underlying9 (by omega) (by omega) (by omega)];rfl
theorem bcell {W w1:World} (hb:Below W.heap.size W w1):(∀ b o,b<W.heap.size→w1.cell? ⟨b,o,none⟩=W.cell? ⟨b,o,none⟩)∧(∀ b o,b<W.heap.size→w1.frozen? ⟨b,o,none⟩=W.frozen? ⟨b,o,none⟩):=
 ⟨fun b o h=>hb.cell (p:=⟨b,o,none⟩) h,fun b o h=>hb.frozen (p:=⟨b,o,none⟩) h⟩
theorem z07 {w w1:World} {o:Obj} (hb:Below (w.alloc o).heap.size (w.alloc o) w1) (u0 u1 u2:Value):
 Below w.heap.size w (((w1.setCell ⟨w.heap.size,0,none⟩ u0).setCell ⟨w.heap.size,1,none⟩ u1).setCell ⟨w.heap.size,2,none⟩ u2):=
 ((((((Below.refl _ w).alloc (Nat.le_refl _) o).trans (hb.mono (by simp))).setCell (Nat.le_refl _) u0).setCell (Nat.le_refl _) u1).setCell (Nat.le_refl _) u2)
theorem numberAt_any (s:ByteArray) (k:Nat) (r:Value) (w:World) (hs:s.size≤281474976710656) (hk:k<s.size) (h0:Hid (digB s[k]=true)) (hG:RngIn w) (h4:5<w.heap.size) (hr:Hid (tkOf s k (numT (s.data.toList.drop k))=r)):
 Calls Tryz.prog 124 #[.string s,.int .i64 k] w fun e w'=>e= .returned r∧Below w.heap.size w w':=by
 obtain ⟨q,hq⟩:∃ q,zq8 digB s.data.toList k=q:=⟨_,rfl⟩
 have h1:k+1≤q:=by rw [←hq,z00 hk h0.out];exact le_endAt _ _ _
 have h2:q≤s.size:=by rw [←hq,←zzg];exact z1k (by rw [zzg];omega)
 obtain ⟨h3,hall⟩:=num_at s.data.toList k q hq
 have HQ:=hid hq
 have H3:=hid h3
 have HG:=hid hG
 clear hq h3 hG
 have hx:(s.extract k q).data.toList=(s.data.toList.drop k).take (q - k):=zjt s k q
 have hxs:(s.extract k q).size=q - k:=by rw [←zzg,hx,List.length_take,List.length_drop,zzg];omega
 have hX0:=slice_run s k q (by omega) h2
 obtain ⟨x,hX⟩:∃ x,s.extract k q=x:=⟨_,rfl⟩
 rw [hX] at hx hxs
 rw [←hx] at hall
 have hX2:∀ w,(Instr.slice 9 (.string s) (some (.int .i64 k)) (some (.int .i64 q)) none).run Tryz.prog w= .ok (.string x) w:=fun w=>by rw [←hX];exact hX0 w
 clear hX0
 have hsp:=spec_par x (by omega) hall
 obtain ⟨p,hp⟩:∃ p,z1w x=p:=⟨_,rfl⟩
 rw [hp] at hsp
 have hpar:=par_le x.data.toList
 obtain ⟨pe,hpe⟩:∃ pe,parE x.data.toList=pe:=⟨_,rfl⟩
 rw [hpe] at hsp hpar
 obtain ⟨p1,p2⟩:=p
 have hsp:p2=(pe:Int):=hsp
 subst hsp
 have H3b:Hid (numT (s.data.toList.drop k)=if zv6 (s.data.toList.drop q) then ⟨1,0,0⟩ else if pe=0 then ⟨0,3,q - k⟩ else ⟨pe,0,0⟩):=by
  show _=_
  rw [H3.out,←hx,hpe]
 have HP:=hid hp
 have HX:=hid hX
 have hxl:x.size≤281474976710656:=by omega
 clear hX hx hpe hp H3 hall hxs
 go_enter Tryz.func124,Tryz.ntmps124
 go_wp2_with fail
 go_loop [6] (fun i=>∃ j:Nat,k≤j∧j≤s.size∧i= .int .i64 j∧Hid (zq8 digB s.data.toList j=q)) (fun i=>s.size - (intOf i).toNat)
 case atStart=>exact ⟨k,Nat.le_refl _,by omega,rfl,HQ⟩
 case round=>
  obtain ⟨j,hj0,hj,rfl,HJ⟩:=hrel
  by_cases hlt:j<s.size
  ·cases hd:digB s[j] with
   |true=>
    have HD:=hid hd
    clear hd
    go_wp2_with (go_at_call 123;refine (zjs _ true _ HD).mono ?_;rintro e w' ⟨rfl,rfl⟩)
    go_round
    case rel=>exact ⟨j+1,by omega,by omega,by go_num,(z00 hlt HD.out).symm.trans HJ.out⟩
    case measure=>simp [intOf];omega
   |false=>
    have HD:=hid hd
    have hjq:j=q:=by rw [←HJ.out,endS_stop hlt hd]
    subst hjq
    clear hd HJ
    have ha:=after_drop s j hlt
    cases hl:letB s[j] with
    |true=>
     have HL:=hid hl
     have HR:Hid (tkV 0 ⟨#[]⟩ 0 1=r):=by
      show _=_
      rw [←hr.out,H3b.out,ha,hl];rfl
     have:=HR.out
     subst this
     clear hl ha
     go_wp2_with (first|(go_at_call 123;refine (zjs _ false _ HD).mono ?_;rintro e w' ⟨rfl,rfl⟩)|(go_at_call 114;refine (zk9 _ true _ HL).mono ?_;rintro e w' ⟨rfl,rfl⟩))
     exact bodyPost_ret (v:=tkV 0 ⟨#[]⟩ 0 1) (by simp [results,Tryz.results124,go_sem,tkV]) rfl ⟨rfl,(Below.refl _ _).alloc (Nat.le_refl _) _⟩
    |false=>
     have HL:=hid hl
     have HR0:Hid (tkOf s k (if pe=0 then ⟨0,3,j - k⟩ else ⟨pe,0,0⟩)=r):=by
      show _=_
      rw [←hr.out,H3b.out,ha,hl];rfl
     clear hl ha
     rcases hpar with rfl|rfl|rfl
     ·have HR:Hid (tkV 3 x k 0=r):=by
       show _=_
       rw [←HR0.out,if_pos rfl]
       show _=tkV 3 (s.extract k (k+(j - k))) k 0
       rw [show k+(j - k)=j by omega,HX.out]
      have:=HR.out
      subst this
      go_wp2_with (first|(go_at_call 123;refine (zjs _ false _ HD).mono ?_;rintro e w' ⟨rfl,rfl⟩)|(go_at_call 114;refine (zk9 _ false _ HL).mono ?_;rintro e w' ⟨rfl,rfl⟩))
      refine (zvn x (p1,((0:Nat):Int)) _ (zj0 HG.out ((Below.refl _ _).alloc (Nat.le_refl _) _) h4) hxl HP).mono ?_
      rintro e w1 ⟨rfl,hb⟩
      obtain ⟨hc,hf⟩:=bcell hb
      have hz:w.heap.size<w1.heap.size:=by have:=hb.size;simp at this;omega
      go_wp2_with fail
      exact bodyPost_ret (v:=tkV 3 x k 0) (by simp [results,Tryz.results124,go_sem,tkV,hc]) rfl ⟨rfl,z07 hb _ _ _⟩
     ·have HR:Hid (tkV 0 ⟨#[]⟩ 0 1=r):=by
       show _=_
       rw [←HR0.out,if_neg (by decide)];rfl
      have:=HR.out
      subst this
      go_wp2_with (first|(go_at_call 123;refine (zjs _ false _ HD).mono ?_;rintro e w' ⟨rfl,rfl⟩)|(go_at_call 114;refine (zk9 _ false _ HL).mono ?_;rintro e w' ⟨rfl,rfl⟩))
      refine (zvn x (p1,((1:Nat):Int)) _ (zj0 HG.out ((Below.refl _ _).alloc (Nat.le_refl _) _) h4) hxl HP).mono ?_
      rintro e w1 ⟨rfl,hb⟩
      obtain ⟨hc,hf⟩:=bcell hb
      have hz:w.heap.size<w1.heap.size:=by have:=hb.size;simp at this;omega
      go_wp2_with fail
      exact bodyPost_ret (v:=tkV 0 ⟨#[]⟩ 0 1) (by simp [results,Tryz.results124,go_sem,tkV,hc]) rfl ⟨rfl,z07 hb _ _ _⟩
     ·have HR:Hid (tkV 0 ⟨#[]⟩ 0 2=r):=by
       show _=_
       rw [←HR0.out,if_neg (by decide)];rfl
      have:=HR.out
      subst this
      go_wp2_with (first|(go_at_call 123;refine (zjs _ false _ HD).mono ?_;rintro e w' ⟨rfl,rfl⟩)|(go_at_call 114;refine (zk9 _ false _ HL).mono ?_;rintro e w' ⟨rfl,rfl⟩))
      refine (zvn x (p1,((2:Nat):Int)) _ (zj0 HG.out ((Below.refl _ _).alloc (Nat.le_refl _) _) h4) hxl HP).mono ?_
      rintro e w1 ⟨rfl,hb⟩
      obtain ⟨hc,hf⟩:=bcell hb
      have hz:w.heap.size<w1.heap.size:=by have:=hb.size;simp at this;omega
      go_wp2_with fail
      exact bodyPost_ret (v:=tkV 0 ⟨#[]⟩ 0 2) (by simp [results,Tryz.results124,go_sem,tkV,hc]) rfl ⟨rfl,z07 hb _ _ _⟩
  ·have hjq:j=q:=by rw [←HJ.out,endAt_end (by rw [zzg];omega)]
   subst hjq
   have ha:=after_end s j (by omega)
   have HR0:Hid (tkOf s k (if pe=0 then ⟨0,3,j - k⟩ else ⟨pe,0,0⟩)=r):=by
    show _=_
    rw [←hr.out,H3b.out,ha];rfl
   clear ha HJ
   rcases hpar with rfl|rfl|rfl
   ·have HR:Hid (tkV 3 x k 0=r):=by
     show _=_
     rw [←HR0.out,if_pos rfl]
     show _=tkV 3 (s.extract k (k+(j - k))) k 0
     rw [show k+(j - k)=j by omega,HX.out]
    have:=HR.out
    subst this
    go_wp2_with fail
    refine (zvn x (p1,((0:Nat):Int)) _ (zj0 HG.out ((Below.refl _ _).alloc (Nat.le_refl _) _) h4) hxl HP).mono ?_
    rintro e w1 ⟨rfl,hb⟩
    obtain ⟨hc,hf⟩:=bcell hb
    have hz:w.heap.size<w1.heap.size:=by have:=hb.size;simp at this;omega
    go_wp2_with fail
    exact bodyPost_ret (v:=tkV 3 x k 0) (by simp [results,Tryz.results124,go_sem,tkV,hc]) rfl ⟨rfl,z07 hb _ _ _⟩
   ·have HR:Hid (tkV 0 ⟨#[]⟩ 0 1=r):=by
     show _=_
     rw [←HR0.out,if_neg (by decide)];rfl
    have:=HR.out
    subst this
    go_wp2_with fail
    refine (zvn x (p1,((1:Nat):Int)) _ (zj0 HG.out ((Below.refl _ _).alloc (Nat.le_refl _) _) h4) hxl HP).mono ?_
    rintro e w1 ⟨rfl,hb⟩
    obtain ⟨hc,hf⟩:=bcell hb
    have hz:w.heap.size<w1.heap.size:=by have:=hb.size;simp at this;omega
    go_wp2_with fail
    exact bodyPost_ret (v:=tkV 0 ⟨#[]⟩ 0 1) (by simp [results,Tryz.results124,go_sem,tkV,hc]) rfl ⟨rfl,z07 hb _ _ _⟩
   ·have HR:Hid (tkV 0 ⟨#[]⟩ 0 2=r):=by
     show _=_
     rw [←HR0.out,if_neg (by decide)];rfl
    have:=HR.out
    subst this
    go_wp2_with fail
    refine (zvn x (p1,((2:Nat):Int)) _ (zj0 HG.out ((Below.refl _ _).alloc (Nat.le_refl _) _) h4) hxl HP).mono ?_
    rintro e w1 ⟨rfl,hb⟩
    obtain ⟨hc,hf⟩:=bcell hb
    have hz:w.heap.size<w1.heap.size:=by have:=hb.size;simp at this;omega
    go_wp2_with fail
    exact bodyPost_ret (v:=tkV 0 ⟨#[]⟩ 0 2) (by simp [results,Tryz.results124,go_sem,tkV,hc]) rfl ⟨rfl,z07 hb _ _ _⟩
theorem pre2 (l d:List UInt8) (hd:d.length=2):Lib.hasPrefix l d=(l.take 2==d):=by
 rw [←Lib.hasPrefix_of_take,hd]
 by_cases h:2≤l.length
 ·rw [decide_eq_true h,Bool.true_and]
 ·rw [decide_eq_false h,Bool.false_and]
  symm
  rw [beq_eq_false_iff_ne]
  intro e
  have:=congrArg List.length e
  rw [List.length_take,hd] at this
  omega
theorem long_two:∀ j:Nat,j<9→(longTab.getD j []).length=2:=by decide
theorem short_index (j:Nat) (hj:j<19) (w:World):(Instr.index 9 (.string ⟨#[43,45,42,47,37,38,124,94,60,62,33,61,46,44,59,40,41,123,125]⟩) (.int .i64 j)).run Tryz.prog w= .ok (.int .u8 (shortTab.getD j 0).toNat) w:=by
 rw [run_index_string w 9 _ .i64 j Tryz.underlying9]
 rcases (by omega:j=0∨j=1∨j=2∨j=3∨j=4∨j=5∨j=6∨j=7∨j=8∨j=9∨j=10∨j=11∨j=12∨j=13∨j=14∨j=15∨j=16∨j=17∨j=18) with rfl|rfl|rfl|rfl|rfl|rfl|rfl|rfl|rfl|rfl|rfl|rfl|rfl|rfl|rfl|rfl|rfl|rfl|rfl<;>rfl
theorem short_step (k:Nat) (c:UInt8) (h:k<19):(shortTab.drop k).contains c=(c==shortTab.getD k 0||(shortTab.drop (k+1)).contains c):=by
 rw [List.drop_eq_getElem_cons (show k<shortTab.length from h),List.contains_cons,List.getD_eq_getElem?_getD,List.getElem?_eq_getElem (show k<shortTab.length from h)];rfl
def SRel (W:World) (c:UInt8) (b:Bool) (i:Value) (wr:World):Prop:=∃ j n:Nat,j≤19∧i= .int .i64 j∧wr=W.drewN n∧Hid (b=(shortTab.drop j).contains c)
theorem zxv {B:Nat} {a w:World} (h:Below B a w) (n:Nat):Below B a (w.drewN n):=⟨h.os,h.tape,h.output,h.size,h.block⟩
theorem signAt_any (s:ByteArray) (k:Nat) (r:Value) (w:World) (hs:s.size≤281474976710656) (hk:k<s.size) (hK:LongsIn w) (hr:Hid (tkOf s k (zv9 (s.data.toList.drop k) s[k])=r)):
 Calls Tryz.prog 125 #[.string s,.int .i64 k] w fun e w'=>e= .returned r∧Below w.heap.size w w':=by
 have hK2:=hK.alloc (.cells #[.int .i64 0,.string ⟨#[]⟩,.int .i64 0] 108)
 obtain ⟨t,fr,hg⟩:=hK2
 have HG:=hid hg
 clear hg hK
 obtain ⟨b,hb⟩:∃ b,b=longB (s.data.toList.drop k):=⟨_,rfl⟩
 have HR:Hid (tkOf s k (if b then ⟨0,4,2⟩ else if shortB s[k] then ⟨0,4,1⟩ else ⟨1,0,0⟩)=r):=by
  show _=_
  rw [←hr.out,hb];rfl
 have HB:=hid hb
 have hx:=drop_extract s k
 have hx2:=zjt s k (k+2)
 rw [show k+2 - k=2 by omega] at hx2
 have HX:=hid hx
 have HX2:=hid hx2
 clear hb hr hx hx2
 go_enter Tryz.func125,Tryz.ntmps125
 go_wp2_with (refine wpList_load_row rfl 183 _ rfl 1 rfl t tabG fr _ HG.out Tryz.underlying183 rfl info110 ?_)
 go_loop [10] (fun i=>∃ j:Nat,j≤9∧i= .int .i64 j∧Hid (b=(longTab.drop j).contains ((s.data.toList.drop k).take 2))) (fun i=>9 - (intOf i).toNat)
 case atStart=>exact ⟨0,by omega,rfl,HB⟩
 case round=>
  obtain ⟨j,hj,rfl,HJ⟩:=hrel
  by_cases hlt:j<9
  ·have hix:=longs_index j hlt
   have hst:=z3i longTab j ((s.data.toList.drop k).take 2) hlt
   rw [←HJ.out] at hst
   have HST:=hid hst
   have h2:=long_two j hlt
   clear hst
   generalize longTab.getD j []=d at hix HST h2
   have hp:=pre2 (s.data.toList.drop k) d h2
   cases hm:((s.data.toList.drop k).take 2==d) with
   |true=>
    have HP:Hid (Lib.hasPrefix (s.extract k s.size).data.toList (⟨d.toArray⟩:ByteArray).data.toList=true):=by
     show _=_
     rw [HX.out];show Lib.hasPrefix _ d=true;rw [hp,hm]
    have hd:(⟨d.toArray⟩:ByteArray)=s.extract k (k+2):=str_eq (by rw [HX2.out];exact (beq_iff_eq.1 hm).symm)
    have hbt:b=true:=by rw [HST.out,hm];rfl
    have HR2:Hid (tkV 4 ⟨d.toArray⟩ k 0=r):=by
     show _=_
     rw [←HR.out,hbt,hd];rfl
    have:=HR2.out
    subst this
    clear hm hd HST HJ hp hbt h2
    go_wp2_with (go_at_call 120;refine (hasPre _ _ true _ HP).mono ?_;rintro e w' ⟨rfl,rfl⟩)
    exact bodyPost_ret (v:=tkV 4 ⟨d.toArray⟩ k 0) (by simp [results,Tryz.results125,go_sem,tkV]) rfl ⟨rfl,(Below.refl _ _).alloc (Nat.le_refl _) _⟩
   |false=>
    have HP:Hid (Lib.hasPrefix (s.extract k s.size).data.toList (⟨d.toArray⟩:ByteArray).data.toList=false):=by
     show _=_
     rw [HX.out];show Lib.hasPrefix _ d=false;rw [hp,hm]
    have HB2:Hid (b=(longTab.drop (j+1)).contains ((s.data.toList.drop k).take 2)):=by
     show _=_
     rw [HST.out,hm];rfl
    clear hm HST HJ hp h2
    go_wp2_with (go_at_call 120;refine (hasPre _ _ false _ HP).mono ?_;rintro e w' ⟨rfl,rfl⟩)
    go_round
    case rel=>exact ⟨j+1,by omega,by go_num,HB2⟩
    case measure=>simp [intOf];omega
  ·have hbf:b=false:=by rw [HJ.out,show j=9 by omega];rfl
   subst hbf
   obtain ⟨b,hb⟩:∃ b,b=shortB s[k]:=⟨_,rfl⟩
   have HR3:Hid (tkOf s k (if b then ⟨0,4,1⟩ else ⟨1,0,0⟩)=r):=by
    show _=_
    rw [←HR.out,hb];rfl
   have HB2:Hid (b=(shortTab.drop 0).contains s[k]):=hb
   clear HJ HR HB hb
   go_wp2_with fail
   go_loopw [22] (fun i wr=>SRel (w.alloc (.cells #[.int .i64 0,.string ⟨#[]⟩,.int .i64 0] 108)) s[k] b i wr) (fun i _=>19 - (intOf i).toNat)
   case atStart=>exact ⟨0,0,by omega,rfl,rfl,HB2⟩
   case round=>
    obtain ⟨i,n,hi,rfl,rfl,HI⟩:=hrel
    by_cases hlt2:i<19
    ·have hix:=short_index i hlt2
     have hst:=short_step i s[k] hlt2
     rw [←HI.out] at hst
     have HST:=hid hst
     clear hst
     generalize shortTab.getD i 0=d at hix HST
     by_cases hm:d=s[k]
     ·subst hm
      have hbt:b=true:=by rw [HST.out];simp
      subst hbt
      have HR4:Hid (tkV 4 (s.extract k (k+1)) k 0=r):=HR3.out
      have:=HR4.out
      subst this
      clear HST HI HR3 HR4
      go_wp2_with fail
      go_quiet (fail)
      go_wp2_with fail
      exact bodyPost_ret (v:=tkV 4 (s.extract k (k+1)) k 0) (by simp [results,Tryz.results125,go_sem,tkV]) rfl ⟨rfl,z07 (zxv (Below.refl _ _) _) _ _ _⟩
     ·have HI2:Hid (b=(shortTab.drop (i+1)).contains s[k]):=by
       show _=_
       rw [HST.out,beq_eq_false_iff_ne.2 (fun e=>hm e.symm)];rfl
      have hm1:((d.toNat:Int)==(s[k].toNat:Int))=false:=beq_eq_false_iff_ne.2 (fun e=>hm (UInt8.toNat_inj.1 (by omega)))
      have hm2:(d.toNat==s[k].toNat)=false:=beq_eq_false_iff_ne.2 (fun e=>hm (UInt8.toNat_inj.1 e))
      clear hm HST HI
      go_wp2_with fail
      go_quiet (fail)
      go_wp2_with fail
      go_roundw
      case rel=>exact ⟨i+1,_,by omega,by go_num,rfl,HI2⟩
      case measure=>simp [intOf];omega
    ·have hbf:b=false:=by rw [HI.out,show i=19 by omega];rfl
     subst hbf
     have HR4:Hid (tkV 0 ⟨#[]⟩ 0 1=r):=HR3.out
     have:=HR4.out
     subst this
     go_wp2_with fail
     exact bodyPost_ret (v:=tkV 0 ⟨#[]⟩ 0 1) (by simp [results,Tryz.results125,go_sem,tkV]) rfl ⟨rfl,z07 (zxv (Below.refl _ _) _) _ _ _⟩
structure AT where
 kind:Nat
 text:List UInt8
inductive Tree
 |mk (op:Nat) (name typ:List UInt8) (n:Int) (pos:Nat) (kids:List Tree)
def Tree.op:Tree→Nat| .mk o _ _ _ _ _=>o
def Tree.name:Tree→List UInt8| .mk _ s _ _ _ _=>s
def Tree.typ:Tree→List UInt8| .mk _ _ s _ _ _=>s
def Tree.n:Tree→Int| .mk _ _ _ n _ _=>n
def Tree.pos:Tree→Nat| .mk _ _ _ _ p _=>p
def Tree.kids:Tree→List Tree| .mk _ _ _ _ _ k=>k
def Tree.zero:Tree:= .mk 0 [] [] 0 0 []
def hd (l:List Tree):Tree:=l.headD Tree.zero
def zqg (l:Tree):Tree→Tree| .mk o s ty n p ks=> .mk o s ty n p (l::ks)
inductive NT
 |decls|parts|params|stmts|stmt|branch|binary (l:Nat)|tail (l:Nat)|unary|fields|args
inductive Pr (α:Type):Type
 |ret (a:α)
 |fail (e:Nat)
 |peek (k:Nat→AT→Pr α)
 |next (p:Pr α)
 |call (nt:NT) (d:Nat) (k:List Tree→Pr α)
def Pr.bind {α β:Type} :Pr α→(α→Pr β)→Pr β
 | .ret a,f=>f a
 | .fail e,_=> .fail e
 | .peek k,f=> .peek fun i t=>(k i t).bind f
 | .next p,f=> .next (p.bind f)
 | .call nt d k,f=> .call nt d fun ts=>(k ts).bind f
inductive Res (α:Type):Type
 |ok (a:α) (j:Nat)
 |bad (j e:Nat)
abbrev zxl:=NT→Nat→Nat→Option (Res (List Tree))
def runW {α:Type} (T:Nat→AT) (c:zxl):Pr α→Nat→Option (Res α)
 | .ret a,i=>some (.ok a i)
 | .fail e,i=>some (.bad i e)
 | .peek k,i=>runW T c (k i (T i)) i
 | .next p,i=>runW T c p (i+1)
 | .call nt d k,i=>match c nt d i with
   |none=>none
   |some (.bad j e)=>some (.bad j e)
   |some (.ok ts j)=>runW T c (k ts) j
def then_ {α β:Type} (r:Option (Res α)) (f:α→Nat→Option (Res β)):Option (Res β):=match r with
 |none=>none
 |some (.bad j e)=>some (.bad j e)
 |some (.ok a j)=>f a j
theorem zvl {α β:Type} (T:Nat→AT) (c:zxl) (p:Pr α) (f:α→Pr β) (i:Nat):runW T c (p.bind f) i=then_ (runW T c p i) fun a j=>runW T c (f a) j:=by
 induction p generalizing i with
 |ret a=>rfl
 |fail e=>rfl
 |peek k ih=>exact ih i (T i) i
 |next p ih=>exact ih (i+1)
 |call nt d k ih=>
  simp only [Pr.bind,runW]
  split
  ·rfl
  ·rfl
  ·exact ih _ _
theorem runW_mono {α:Type} {T:Nat→AT} {c c':zxl} (h:∀ nt d i r,c nt d i=some r→c' nt d i=some r) (p:Pr α):∀ (i:Nat) (r:Res α),runW T c p i=some r→runW T c' p i=some r:=by
 induction p with
 |ret a=>intro i r hr;exact hr
 |fail e=>intro i r hr;exact hr
 |peek k ih=>intro i r hr;exact ih _ _ _ _ hr
 |next p ih=>intro i r hr;exact ih _ _ hr
 |call nt d k ih=>
  intro i r hr
  simp only [runW] at hr ⊢
  cases hc:c nt d i with
  |none=>rw [hc] at hr;cases hr
  |some x=>
   rw [hc] at hr
   rw [h _ _ _ _ hc]
   cases x with
   |ok ts j=>exact ih _ _ _ hr
   |bad j e=>exact hr
@[reducible] def zwn:List UInt8:= [116,121,112,101]
@[reducible] def zkh:List UInt8:= [115,116,114,117,99,116]
@[reducible] def zk8:List UInt8:= [102,117,110,99]
@[reducible] def kVar:List UInt8:= [118,97,114]
@[reducible] def kIf:List UInt8:= [105,102]
@[reducible] def zjd:List UInt8:= [101,108,115,101]
@[reducible] def kFor:List UInt8:= [102,111,114]
@[reducible] def zqa:List UInt8:= [114,101,116,117,114,110]
@[reducible] def zjc:List UInt8:= [112,114,105,110,116]
@[reducible] def kNew:List UInt8:= [110,101,119]
@[reducible] def kNil:List UInt8:= [110,105,108]
@[reducible] def kTrue:List UInt8:= [116,114,117,101]
@[reducible] def z1s:List UInt8:= [102,97,108,115,101]
@[reducible] def kInt:List UInt8:= [105,110,116]
@[reducible] def kBool:List UInt8:= [98,111,111,108]
@[reducible] def z1n:List UInt8:= [114,101,97,100]
@[reducible] def cLB:List UInt8:= [40]
@[reducible] def cRB:List UInt8:= [41]
@[reducible] def cLC:List UInt8:= [123]
@[reducible] def cRC:List UInt8:= [125]
@[reducible] def zzk:List UInt8:= [59]
@[reducible] def zqd:List UInt8:= [44]
@[reducible] def cDot:List UInt8:= [46]
@[reducible] def cStar:List UInt8:= [42]
@[reducible] def cEq:List UInt8:= [61]
@[reducible] def cDef:List UInt8:= [58,61]
@[reducible] def cOr:List UInt8:= [124,124]
@[reducible] def cAnd:List UInt8:= [38,38]
def signTab:List (List UInt8):= [[],[43],[45],[42],[47],[37],[38],[124],[94],[60,60],[62,62],[61,61],[33,61],[60],[60,61],[62],[62,61],[45],[33]]
def zqj (op:Int):List UInt8:=if op<1∨18<op then [] else signTab.getD op.toNat []
def signS (op:Int):ByteArray:=⟨(zqj op).toArray⟩
def zq1 (l:List UInt8):Nat→Nat→Int
 |_,0=>0
 |k,n+1=>if signTab.getD k []=l then (k:Int) else zq1 l (k+1) n
def z0r (op:Int):Int:=
 if op=3∨op=4∨op=5∨op=9∨op=10∨op=6 then 5 else if op=1∨op=2∨op=7∨op=8 then 4
 else if op=11∨op=12∨op=13∨op=14∨op=15∨op=16 then 3 else 0
theorem levelV_nn (op:Int):0≤z0r op∧z0r op≤5:=by unfold z0r;(repeat' split)<;>omega
def lvl (t:List UInt8):Nat:=if t=cOr then 1 else if t=cAnd then 2 else (z0r (zq1 t 1 16)).toNat
def numN (l:List UInt8):Int:=(val 0 l:Nat)
def half (t:AT) (i:Nat) (r:Tree):Tree:=if t.text=cOr then .mk 26 [] [] 0 i [r] else if t.text=cAnd then .mk 25 [] [] 0 i [r] else .mk 24 [] [] (zq1 t.text 1 16) i [r]
def bare (p:Nat×List UInt8):Tree:= .mk 20 p.2 [] 0 p.1 []
def putT (h f:Tree):List Tree→Tree→Tree
 | [],v=> .mk 9 f.name [] 0 f.pos [h,v]
 |g::fs,v=>putT (zqg h f) g fs v
def need (s:List UInt8):Pr Nat:= .peek fun i t=>if t.text=s then .next (.ret i) else .fail 1
def word:Pr (Nat×List UInt8):= .peek fun i t=>if t.kind=1 then .next (.ret (i,t.text)) else .fail 1
def zwp (d:Nat) (s:List UInt8):Pr Nat:= .peek fun i t=>if t.text=s then (if d=40 then .fail 3 else .next (.ret i)) else .fail 1
def typ:Pr (List UInt8):= .peek fun _ t=>if t.text=kInt then .next (.ret kInt) else if t.text=kBool then .next (.ret kBool) else (need cStar).bind fun _=>word.bind fun p=> .ret (42::p.2)
def z1m (op:Nat):Pr Tree:=word.bind fun p=>typ.bind fun ty=> .ret (.mk op p.2 ty 0 p.1 [])
def named (op:Nat):Pr Tree:=(z1m op).bind fun x=>(need zzk).bind fun _=> .ret x
def one (nt:NT) (d:Nat):Pr Tree:= .call nt d fun ts=> .ret (hd ts)
def expr (d:Nat):Pr Tree:=one (.binary 1) d
def block (d:Nat):Pr Tree:=(zwp d cLC).bind fun i=> .call .stmts (d+1) fun ks=> .ret (.mk 6 [] [] 0 i ks)
def zjb:Pr Tree:=word.bind fun p=>(need zkh).bind fun _=>(need cLC).bind fun _=> .call .parts 0 fun ks=> .ret (.mk 2 p.2 [] 0 p.1 ks)
def fparts:Pr (List Tree):=(need cLB).bind fun _=> .peek fun _ t=>if t.text=cRB then .next (.ret []) else (z1m 5).bind fun x=> .call .params 0 fun xs=> .ret (x::xs)
def zjk (d:Nat):Pr Tree:=word.bind fun p=>fparts.bind fun ks=>(Pr.peek fun _ t=>if t.text=cLC then .ret [] else typ).bind fun ty=>(block d).bind fun b=> .ret (.mk 4 p.2 ty 0 p.1 (ks++ [b]))
def decl (d:Nat):Pr Tree:= .peek fun _ t=>if t.text=zwn then .next zjb else if t.text=kVar then .next (named 3) else if t.text=zk8 then .next (zjk d) else .fail 1
def args (d:Nat):Pr (List Tree):=(zwp d cLB).bind fun _=> .peek fun _ t=>if t.text=cRB then (need cRB).bind fun _=> .ret [] else (expr (d+1)).bind fun x=> .call .args (d+1) fun xs=> .ret (x::xs)
def brack (d:Nat):Pr Tree:=(zwp d cLB).bind fun _=>(expr (d+1)).bind fun x=>(need cRB).bind fun _=> .ret x
def zje (d:Nat):Pr Tree:=word.bind fun p=> .peek fun _ t=>if t.text=cLB then (args d).bind fun ks=> .ret (.mk 21 p.2 [] 0 p.1 ks) else .ret (.mk 18 p.2 [] 0 p.1 [])
def zw8:Pr Tree:=(need kNew).bind fun _=>(need cLB).bind fun _=>word.bind fun p=>(need cRB).bind fun _=> .ret (.mk 19 p.2 [] 0 p.1 [])
def input:Pr Tree:=(need z1n).bind fun i=>(need cLB).bind fun _=>(need cRB).bind fun _=> .ret (.mk 22 [] [] 0 i [])
def zvm (d:Nat):Pr Tree:= .peek fun i t=>
 if t.kind=3 then .next (.ret (.mk 15 [] [] (numN t.text) i []))
 else if t.kind=1 then zje d
 else if t.text=kTrue then .next (.ret (.mk 16 [] [] 1 i []))
 else if t.text=z1s then .next (.ret (.mk 16 [] [] 0 i []))
 else if t.text=kNil then .next (.ret (.mk 17 [] [] 0 i []))
 else if t.text=kNew then zw8
 else if t.text=z1n then input
 else if t.text=cLB then brack d
 else .fail 1
def fieldName:Pr (Nat×List UInt8):=(need cDot).bind fun _=>word
def zjv (d:Nat):Pr Tree:=(zvm d).bind fun x=> .call .fields d fun fs=> .ret (fs.foldl (fun a b=>zqg a b) x)
def zwa (op:Nat) (h:Tree) (d:Nat):Pr Tree:=(expr d).bind fun v=>(need zzk).bind fun _=> .ret (.mk op h.name [] 0 h.pos [v])
def put (h:Tree) (d:Nat):Pr Tree:=fieldName.bind fun p=> .call .fields d fun fs=>(need cEq).bind fun _=>(expr d).bind fun v=>(need zzk).bind fun _=> .ret (putT h (bare p) fs v)
def z2r (d:Nat):Pr Tree:= .peek fun _ t=>(zvm d).bind fun h=> .peek fun _ t2=>
 if t.kind=1∧h.op=21∧t2.text=zzk then .next (.ret (.mk 14 [] [] 0 h.pos [h]))
 else if t.kind=1∧h.op=18∧t2.text=cDef then .next (zwa 7 h d)
 else if t.kind=1∧h.op=18∧t2.text=cEq then .next (zwa 8 h d)
 else put h d
def loop (d:Nat):Pr Tree:=(need kFor).bind fun i=>(expr d).bind fun c=>(block d).bind fun b=> .ret (.mk 11 [] [] 0 i [c,b])
def print (d:Nat):Pr Tree:=(need zjc).bind fun i=>(brack d).bind fun x=>(need zzk).bind fun _=> .ret (.mk 12 [] [] 0 i [x])
def zw5 (d:Nat):Pr Tree:=(need zqa).bind fun i=>(Pr.peek fun _ t=>if t.text=zzk then .ret [] else (expr d).bind fun x=> .ret [x]).bind fun ks=>(need zzk).bind fun _=> .ret (.mk 13 [] [] 0 i ks)
def other (d:Nat):Pr Tree:= .peek fun _ t=>if t.text=kIf then one .branch d else block d
def branch (d:Nat):Pr Tree:=(need kIf).bind fun i=>(expr d).bind fun c=>(block d).bind fun b=> .peek fun _ t=>if t.text=zjd then .next ((other d).bind fun e=> .ret (.mk 10 [] [] 0 i [c,b,e])) else .ret (.mk 10 [] [] 0 i [c,b])
def stmt (d:Nat):Pr Tree:= .peek fun _ t=>if t.text=kIf then one .branch d else if t.text=kFor then loop d else if t.text=zjc then print d else if t.text=zqa then zw5 d else z2r d
def unary (d:Nat):Pr Tree:= .peek fun i t=>if zq1 t.text 17 2=0 then zjv d else (zwp d t.text).bind fun _=>(one .unary (d+1)).bind fun x=> .ret (.mk 23 [] [] (zq1 t.text 17 2) i [x])
def binary (l d:Nat):Pr Tree:= .call .unary d fun xs=> .call (.tail l) d fun hs=> .ret (hs.foldl (fun a b=>zqg a b) (hd xs))
def zwj (p:Pr Tree):Pr (List Tree):=p.bind fun x=> .ret [x]
def body:NT→Nat→Pr (List Tree)
 | .decls,d=> .peek fun _ t=>if t.kind=0 then .ret [] else (decl d).bind fun x=> .call .decls d fun xs=> .ret (x::xs)
 | .parts,d=> .peek fun _ t=>if t.text=cRC then .next (.ret []) else (named 5).bind fun x=> .call .parts d fun xs=> .ret (x::xs)
 | .params,d=> .peek fun _ t=>if t.text=zqd then .next ((z1m 5).bind fun x=> .call .params d fun xs=> .ret (x::xs)) else (need cRB).bind fun _=> .ret []
 | .stmts,d=> .peek fun _ t=>if t.text=cRC then .next (.ret []) else .call .stmt d fun x=> .call .stmts d fun xs=> .ret (hd x::xs)
 | .stmt,d=>zwj (stmt d)
 | .branch,d=>zwj (branch d)
 | .binary l,d=>zwj (binary l d)
 | .tail l,d=> .peek fun i t=>if lvl t.text<l then .ret [] else .next (.call (.binary (lvl t.text+1)) d fun rs=> .call (.tail l) d fun hs=> .ret (half t i (hd rs)::hs))
 | .unary,d=>zwj (unary d)
 | .fields,d=> .peek fun _ t=>if t.text=cDot then fieldName.bind fun p=> .call .fields d fun fs=> .ret (bare p::fs) else .ret []
 | .args,d=> .peek fun _ t=>if t.text=zqd then .next ((expr d).bind fun x=> .call .args d fun xs=> .ret (x::xs)) else (need cRB).bind fun _=> .ret []
def P (T:Nat→AT):Nat→zxl
 |0=>fun _ _ _=>none
 |n+1=>fun nt d i=>runW T (P T n) (body nt d) i
theorem P_succ (T:Nat→AT) (n:Nat):∀ nt d i r,P T n nt d i=some r→P T (n+1) nt d i=some r:=by
 induction n with
 |zero=>intro nt d i r h;cases h
 |succ n ih=>intro nt d i r h;exact runW_mono ih _ _ _ h
theorem z3l (T:Nat→AT) {n k:Nat} (h:n≤k):∀ nt d i r,P T n nt d i=some r→P T k nt d i=some r:=by
 induction h with
 |refl=>intro nt d i r h;exact h
 |step _ ih=>intro nt d i r h;exact P_succ T _ _ _ _ _ (ih _ _ _ _ h)
theorem z0m (T:Nat→AT) {n k:Nat} (h:n≤k) {α:Type} (p:Pr α) (i:Nat) (r:Res α) (hr:runW T (P T n) p i=some r):runW T (P T k) p i=some r:=runW_mono (z3l T h) p i r hr
theorem P_one (T:Nat→AT) {n k:Nat} {nt d i r r'} (h:P T n nt d i=some r) (h':P T k nt d i=some r'):r=r':=by
 rcases Nat.le_total n k with g|g
 ·have:=z3l T g _ _ _ _ h;rw [this] at h';exact Option.some.inj h'
 ·have:=z3l T g _ _ _ _ h';rw [this] at h;exact (Option.some.inj h).symm
def SignsIn (w:World):Prop:=∀ i:Nat,i<19→w.cell? ⟨2,i,none⟩=some (.string ⟨(signTab.getD i []).toArray⟩)
theorem SignsIn.below {w w':World} {B:Nat} (h:SignsIn w) (hb:Below B w w') (hB:2<B):SignsIn w':=fun i hi=>(hb.cell (p:=⟨2,i,none⟩) hB).trans (h i hi)
structure Good (w:World):Prop where
 signs:SignsIn w
 keys:KeysIn w
 longs:LongsIn w
 rng:RngIn w
 size:8≤w.heap.size
theorem Good.low {w w':World} (h:Good w) (hb:Below 8 w w'):Good w' where
 signs:=h.signs.below hb (by omega)
 keys:=h.keys.below hb (by omega)
 longs:=h.longs.below hb (by omega)
 rng:=zj0 h.rng hb (by omega)
 size:=Nat.le_trans h.size hb.size
theorem Good.below {w w':World} (h:Good w) (hb:Below w.heap.size w w'):Good w' where
 signs:=h.signs.below hb (by have:=h.size;omega)
 keys:=h.keys.below hb (by have:=h.size;omega)
 longs:=h.longs.below hb (by have:=h.size;omega)
 rng:=zj0 h.rng hb (by have:=h.size;omega)
 size:=Nat.le_trans h.size hb.size
theorem Good.alloc {w:World} (h:Good w) (o:Obj):Good (w.alloc o):=h.below ((Below.refl _ _).alloc (Nat.le_refl _) _)
theorem tkOf_form (s:ByteArray) (k:Nat) (t:Tk):∃ a x b c,tkOf s k t=tkV a x b c:=by
 unfold tkOf;split
 ·exact ⟨_,_,_,_,rfl⟩
 ·exact ⟨_,_,_,_,rfl⟩
theorem tokAt_let {s:ByteArray} {k:Nat} (hk:k<s.size) (h:letB s[k]=true):zkw s.data.toList k=zv7 (s.data.toList.drop k):=by
 unfold zkw
 rw [List.drop_eq_getElem_cons (by rw [zzg];exact hk)]
 exact zwx _ h
theorem tokAt_dig {s:ByteArray} {k:Nat} (hk:k<s.size) (h:letB s[k]=false) (hd:digB s[k]=true):zkw s.data.toList k=numT (s.data.toList.drop k):=by
 unfold zkw
 rw [List.drop_eq_getElem_cons (by rw [zzg];exact hk)]
 exact zvx _ h hd
theorem tokAt_sign {s:ByteArray} {k:Nat} (hk:k<s.size) (h:letB s[k]=false) (hd:digB s[k]=false):zkw s.data.toList k=zv9 (s.data.toList.drop k) s[k]:=by
 unfold zkw
 rw [List.drop_eq_getElem_cons (by rw [zzg];exact hk)]
 exact zjf _ h hd
theorem tokenAt_any (s:ByteArray) (k:Nat) (a:Int) (x:ByteArray) (b c:Int) (w:World) (hs:s.size≤281474976710656) (hk:k<s.size) (G:Good w) (hr:Hid (tkOf s k (zkw s.data.toList k)=tkV a x b c)):
 Calls Tryz.prog 88 #[.string s,.int .i64 k] w fun e w'=>e= .returned (.tuple #[.agg #[.int .i64 a,.string x,.int .i64 b],.int .i64 c])∧Below w.heap.size w w':=by
 have G2:=G.alloc (.cells #[.int .i64 0,.string ⟨#[]⟩,.int .i64 0] 108)
 clear G
 cases h1:letB s[k] with
 |true=>
  rw [tokAt_let hk h1] at hr
  have hc:Calls Tryz.prog 122 #[.string s,.int .i64 k] (w.alloc (.cells #[.int .i64 0,.string ⟨#[]⟩,.int .i64 0] 108)) fun e w'=>e= .returned (.tuple #[.agg #[.int .i64 a,.string x,.int .i64 b],.int .i64 c])∧Below (w.alloc (.cells #[.int .i64 0,.string ⟨#[]⟩,.int .i64 0] 108)).heap.size (w.alloc (.cells #[.int .i64 0,.string ⟨#[]⟩,.int .i64 0] 108)) w':=wordAt_any s k _ _ hs hk G2.keys hr
  have HC:=hid hc
  have H1:=hid h1
  clear hc h1 hr G2
  go_enter Tryz.func88,Tryz.ntmps88
  go_wp2_with (go_at_call 114;refine (zk9 _ true _ H1).mono ?_;rintro e w' ⟨rfl,rfl⟩)
  refine HC.out.mono ?_
  rintro e w1 ⟨rfl,hb⟩
  obtain ⟨hc,hf⟩:=bcell hb
  have hz:w.heap.size<w1.heap.size:=by have:=hb.size;simp at this;omega
  go_wp2_with fail
  exact bodyPost_ret (v:=tkV a x b c) (by simp [results,Tryz.results88,go_sem,tkV,hc]) rfl ⟨rfl,z07 hb _ _ _⟩
 |false=>
  have H1:=hid h1
  cases h2:digB s[k] with
  |true=>
   rw [tokAt_dig hk h1 h2] at hr
   have hc:Calls Tryz.prog 124 #[.string s,.int .i64 k] (w.alloc (.cells #[.int .i64 0,.string ⟨#[]⟩,.int .i64 0] 108)) fun e w'=>e= .returned (.tuple #[.agg #[.int .i64 a,.string x,.int .i64 b],.int .i64 c])∧Below (w.alloc (.cells #[.int .i64 0,.string ⟨#[]⟩,.int .i64 0] 108)).heap.size (w.alloc (.cells #[.int .i64 0,.string ⟨#[]⟩,.int .i64 0] 108)) w':=numberAt_any s k _ _ hs hk (hid h2) G2.rng (by have:=G2.size;omega) hr
   have HC:=hid hc
   have H2:=hid h2
   clear hc h1 h2 hr G2
   go_enter Tryz.func88,Tryz.ntmps88
   go_wp2_with (first|(go_at_call 114;refine (zk9 _ false _ H1).mono ?_;rintro e w' ⟨rfl,rfl⟩)|(go_at_call 123;refine (zjs _ true _ H2).mono ?_;rintro e w' ⟨rfl,rfl⟩))
   refine HC.out.mono ?_
   rintro e w1 ⟨rfl,hb⟩
   obtain ⟨hc,hf⟩:=bcell hb
   have hz:w.heap.size<w1.heap.size:=by have:=hb.size;simp at this;omega
   go_wp2_with fail
   exact bodyPost_ret (v:=tkV a x b c) (by simp [results,Tryz.results88,go_sem,tkV,hc]) rfl ⟨rfl,z07 hb _ _ _⟩
  |false=>
   rw [tokAt_sign hk h1 h2] at hr
   have hc:Calls Tryz.prog 125 #[.string s,.int .i64 k] (w.alloc (.cells #[.int .i64 0,.string ⟨#[]⟩,.int .i64 0] 108)) fun e w'=>e= .returned (.tuple #[.agg #[.int .i64 a,.string x,.int .i64 b],.int .i64 c])∧Below (w.alloc (.cells #[.int .i64 0,.string ⟨#[]⟩,.int .i64 0] 108)).heap.size (w.alloc (.cells #[.int .i64 0,.string ⟨#[]⟩,.int .i64 0] 108)) w':=signAt_any s k _ _ hs hk G2.longs hr
   have HC:=hid hc
   have H2:=hid h2
   clear hc h1 h2 hr G2
   go_enter Tryz.func88,Tryz.ntmps88
   go_wp2_with (first|(go_at_call 114;refine (zk9 _ false _ H1).mono ?_;rintro e w' ⟨rfl,rfl⟩)|(go_at_call 123;refine (zjs _ false _ H2).mono ?_;rintro e w' ⟨rfl,rfl⟩))
   refine HC.out.mono ?_
   rintro e w1 ⟨rfl,hb⟩
   obtain ⟨hc,hf⟩:=bcell hb
   have hz:w.heap.size<w1.heap.size:=by have:=hb.size;simp at this;omega
   go_wp2_with fail
   exact bodyPost_ret (v:=tkV a x b c) (by simp [results,Tryz.results88,go_sem,tkV,hc]) rfl ⟨rfl,z07 hb _ _ _⟩
def z2p (t:ByteArray):Bool:=Lib.hasPrefix t.data.toList [42]
def z0c (t:ByteArray):ByteArray:=t.extract 1 t.size
def zwg (t:ByteArray):Option ByteArray:=if z2p t&&zjw (z0c t).data.toList then some (z0c t) else none
def starT:ByteArray:=⟨#[42]⟩
theorem star_nil:z2p ⟨#[]⟩=false:=by decide
theorem star_head (s:ByteArray) (h:0<s.size):z2p s=decide (s[0].toNat=42):=by
 obtain ⟨r,hr⟩:=zvo s h
 unfold z2p
 rw [hr]
 unfold Lib.hasPrefix
 simp only [List.isPrefixOf,Bool.and_true]
 rw [Bool.eq_iff_iff,beq_iff_eq,decide_eq_true_eq]
 constructor
 ·intro e;rw [←e];rfl
 ·intro e;exact (UInt8.toNat_inj.1 (by rw [e];rfl)).symm
theorem head_extract (s:ByteArray) (h:0<s.size):(s.extract 0 1).data.toList= [s[0]]:=by
 obtain ⟨r,hr⟩:=zvo s h
 rw [ByteArray.data_extract,Array.toList_extract,List.extract_eq_take_drop,hr];rfl
theorem hasStar_any (s:ByteArray) (b:Bool) (w:World) (hb:Hid (z2p s=b)):
 Calls Tryz.prog 160 #[.string s,.string ⟨#[42]⟩] w fun e w'=>e= .returned (.bool b)∧w=w':=by
 by_cases h0:s.size=0
 ·have:=size_zero h0
  subst this
  obtain rfl:b=false:=hb.out.symm.trans star_nil
  clear hb h0
  go_enter Tryz.func160,Tryz.ntmps160
  go_wp2_with fail
  go_ret
  exact ⟨rfl,rfl⟩
 ·have hp:0<s.size:=by omega
  have h1:(1:Int)≤(s.size:Int):=by omega
  have h1':1≤s.size:=by omega
  have h2:((s.extract 0 1).toList== [42])=b:=by
   rw [ByteArray.toList_eq,head_extract s hp,←hb.out,star_head s hp,Bool.eq_iff_iff,beq_iff_eq,decide_eq_true_eq]
   constructor
   ·intro e;injection e with e;rw [e];rfl
   ·intro e;rw [UInt8.toNat_inj.1 (show s[0].toNat=(42:UInt8).toNat from e)]
  clear hb h0 hp
  go_enter Tryz.func160,Tryz.ntmps160
  go_wp2_with fail
  go_ret
  exact ⟨rfl,rfl⟩
theorem star_size {s:ByteArray} (h:z2p s=true):0<s.size:=by
 rcases Nat.eq_zero_or_pos s.size with h0|h0
 ·rw [size_zero h0,star_nil] at h;cases h
 ·exact h0
theorem cutL_yes (s:ByteArray) (w:World) (hb:Hid (z2p s=true)):
 Calls Tryz.prog 175 #[.string s,.string ⟨#[42]⟩] w fun e w'=>e= .returned (.tuple #[.string (z0c s),.bool true])∧w=w':=by
 have h1:=star_size hb.out
 have h2:(1:Int)≤(s.size:Int):=by omega
 go_enter Tryz.func175,Tryz.ntmps175
 go_wp2_with (go_at_call 160;refine (hasStar_any _ true _ hb).mono ?_;rintro e w' ⟨rfl,rfl⟩)
 go_ret2
 exact ⟨rfl,rfl⟩
theorem cutL_no (s:ByteArray) (w:World) (hb:Hid (z2p s=false)):
 Calls Tryz.prog 175 #[.string s,.string ⟨#[42]⟩] w fun e w'=>e= .returned (.tuple #[.string s,.bool false])∧w=w':=by
 go_enter Tryz.func175,Tryz.ntmps175
 go_wp2_with (go_at_call 160;refine (hasStar_any _ false _ hb).mono ?_;rintro e w' ⟨rfl,rfl⟩)
 go_ret2
 exact ⟨rfl,rfl⟩
theorem cut_yes (s:ByteArray) (w:World) (hb:Hid (z2p s=true)):
 Calls Tryz.prog 159 #[.string s,.string ⟨#[42]⟩] w fun e w'=>e= .returned (.tuple #[.string (z0c s),.bool true])∧w=w':=by
 go_enter Tryz.func159,Tryz.ntmps159
 go_wp2_with (go_at_call 175;refine (cutL_yes _ _ hb).mono ?_;rintro e w' ⟨rfl,rfl⟩)
 go_ret2
 exact ⟨rfl,rfl⟩
theorem cut_no (s:ByteArray) (w:World) (hb:Hid (z2p s=false)):
 Calls Tryz.prog 159 #[.string s,.string ⟨#[42]⟩] w fun e w'=>e= .returned (.tuple #[.string s,.bool false])∧w=w':=by
 go_enter Tryz.func159,Tryz.ntmps159
 go_wp2_with (go_at_call 175;refine (cutL_no _ _ hb).mono ?_;rintro e w' ⟨rfl,rfl⟩)
 go_ret2
 exact ⟨rfl,rfl⟩
theorem zj3 (s:ByteArray) (b:Bool) (w:World) (hK:Hid (KeysIn w)) (h:Hid (zjw s.data.toList=b)):Calls Tryz.prog 85 #[.string s] w fun e w'=>e= .returned (.bool b)∧w=w':=by
 by_cases hs:s.size≤281474976710656
 ·rw [←h.out];exact isWord_any s w hs hK.out
 ·have h0:s.toList.isEmpty=false:=zj7 (by omega)
  have hi:(12:Int)<(s.size:Int):=by omega
  obtain rfl:b=false:=h.out.symm.trans (by unfold zjw;rw [zzg,decide_eq_false (by omega)];rfl)
  go_enter Tryz.func85,Tryz.ntmps85
  go_wp2_with fail
  go_ret
  exact ⟨rfl,rfl⟩
def elemV:Option ByteArray→Value
 |some n=> .tuple #[.string n,.bool true]
 |none=> .tuple #[.string ⟨#[]⟩,.bool false]
theorem elem_any (t:ByteArray) (r:Option ByteArray) (w:World) (hK:Hid (KeysIn w)) (hr:Hid (zwg t=r)):
 Calls Tryz.prog 138 #[.string t] w fun e w'=>e= .returned (elemV r)∧w=w':=by
 cases h1:z2p t with
 |false=>
  obtain rfl:r=none:=hr.out.symm.trans (by unfold zwg;rw [h1];rfl)
  have H1:=hid h1
  clear h1 hr
  go_enter Tryz.func138,Tryz.ntmps138
  go_wp2_with (go_at_call 159;refine (cut_no _ _ H1).mono ?_;rintro e w' ⟨rfl,rfl⟩)
  go_ret2
  exact ⟨rfl,rfl⟩
 |true=>
  have H1:=hid h1
  cases h2:zjw (z0c t).data.toList with
  |false=>
   obtain rfl:r=none:=hr.out.symm.trans (by unfold zwg;rw [h1,h2];rfl)
   have H2:=hid h2
   clear h1 hr h2
   go_enter Tryz.func138,Tryz.ntmps138
   go_wp2_with (first|(go_at_call 159;refine (cut_yes _ _ H1).mono ?_;rintro e w' ⟨rfl,rfl⟩)|(go_at_call 85;refine (zj3 _ false _ hK H2).mono ?_;rintro e w' ⟨rfl,rfl⟩))
   go_ret2
   exact ⟨rfl,rfl⟩
  |true=>
   obtain rfl:r=some (z0c t):=hr.out.symm.trans (by unfold zwg;rw [h1,h2];rfl)
   have H2:=hid h2
   clear h1 hr h2
   go_enter Tryz.func138,Tryz.ntmps138
   go_wp2_with (first|(go_at_call 159;refine (cut_yes _ _ H1).mono ?_;rintro e w' ⟨rfl,rfl⟩)|(go_at_call 85;refine (zj3 _ true _ hK H2).mono ?_;rintro e w' ⟨rfl,rfl⟩))
   go_ret2
   exact ⟨rfl,rfl⟩
structure Fld where
 name:ByteArray
 typ:ByteArray
structure Str where
 name:ByteArray
 fields:List Fld
def eqB (a b:ByteArray):Bool:=a.data.toList==b.data.toList
theorem eqB_iff {a b:ByteArray} :eqB a b=true↔a=b:=by
 unfold eqB;rw [beq_iff_eq]
 exact ⟨Go.WideShapes.bytes_inj,fun h=>by rw [h]⟩
theorem eqB_ne {a b:ByteArray} (h:a≠b):eqB a b=false:=by
 cases he:eqB a b with
 |false=>rfl
 |true=>exact absurd (eqB_iff.1 he) h
theorem zkg {a b:ByteArray} {x:Bool} (h:eqB a b=x):(a.toList==b.toList)=x:=by
 rw [ByteArray.toList_eq,ByteArray.toList_eq];exact h
def fstN (f:Nat→Bool):Nat→Nat→Option Nat
 |0,_=>none
 |m+1,k=>if f k then some k else fstN f m (k+1)
def fst (f:Nat→Bool) (n k:Nat):Option Nat:=fstN f (n - k) k
theorem z2g {f:Nat→Bool} {n k:Nat} (h:n≤k):fst f n k=none:=by
 unfold fst;rw [show n - k=0 by omega];rfl
theorem zw6 {f:Nat→Bool} {n k:Nat} (h:k<n) (hf:f k=true):fst f n k=some k:=by
 unfold fst;rw [show n - k=(n - (k+1))+1 by omega,fstN,if_pos hf]
theorem zve {f:Nat→Bool} {n k:Nat} (h:k<n) (hf:f k=false):fst f n k=fst f n (k+1):=by
 unfold fst;rw [show n - k=(n - (k+1))+1 by omega,fstN,if_neg (by rw [hf];decide)]
theorem z1j {f:Nat→Bool} {n k i:Nat} (h:fst f n k=some i):k≤i∧i<n∧f i=true∧∀ j,k≤j→j<i→f j=false:=by
 induction hm:n - k generalizing k with
 |zero=>rw [z2g (by omega)] at h;cases h
 |succ m ih=>
  cases hf:f k with
  |true=>
   rw [zw6 (by omega) hf] at h
   obtain rfl:=Option.some.inj h
   exact ⟨Nat.le_refl _,by omega,hf,fun j h1 h2=>by omega⟩
  |false=>
   rw [zve (by omega) hf] at h
   obtain ⟨a,b,c,d⟩:=ih h (by omega)
   refine ⟨by omega,b,c,fun j h1 h2=> ?_⟩
   rcases Nat.eq_or_lt_of_le h1 with e|e
   ·exact e▸hf
   ·exact d j e h2
theorem zv2 {f:Nat→Bool} {n k:Nat} (h:fst f n k=none):∀ j,k≤j→j<n→f j=false:=by
 induction hm:n - k generalizing k with
 |zero=>intro j h1 h2;omega
 |succ m ih=>
  cases hf:f k with
  |true=>rw [zw6 (by omega) hf] at h;cases h
  |false=>
   rw [zve (by omega) hf] at h
   intro j h1 h2
   rcases Nat.eq_or_lt_of_le h1 with e|e
   ·exact e▸hf
   ·exact ih h (by omega) j e h2
theorem fst_of {f:Nat→Bool} {n k i:Nat} (h1:k≤i) (h2:i<n) (h3:f i=true) (h4:∀ j,k≤j→j<i→f j=false):fst f n k=some i:=by
 induction hm:i - k generalizing k with
 |zero=>
  obtain rfl:k=i:=by omega
  exact zw6 h2 h3
 |succ m ih=>
  rw [zve (by omega) (h4 k (Nat.le_refl _) (by omega))]
  exact ih (by omega) (fun j a b=>h4 j (by omega) b) (by omega)
theorem z2f {f:Nat→Bool} {n k:Nat} (h:∀ j,k≤j→j<n→f j=false):fst f n k=none:=by
 cases hf:fst f n k with
 |none=>rfl
 |some i=>
  obtain ⟨a,b,c,_⟩:=z1j hf
  rw [h i a b] at c;cases c
def z0p (ss:List Str) (n:ByteArray) (i:Nat):Bool:=match ss[i]? with|some s=>eqB s.name n|none=>false
def fldIs (fs:List Fld) (n:ByteArray) (k:Nat):Bool:=match fs[k]? with|some f=>eqB f.name n|none=>false
theorem nameIs_at {ss:List Str} {n:ByteArray} {i:Nat} {s:Str} (h:ss[i]? =some s):z0p ss n i=eqB s.name n:=by unfold z0p;rw [h]
theorem z3c {fs:List Fld} {n:ByteArray} {k:Nat} {f:Fld} (h:fs[k]? =some f):fldIs fs n k=eqB f.name n:=by unfold fldIs;rw [h]
def fnd (ss:List Str) (n:ByteArray):Option Nat:=fst (z0p ss n) ss.length 0
def plc (fs:List Fld) (n:ByteArray):Option Nat:=fst (fldIs fs n) fs.length 0
def tInt:ByteArray:=⟨#[105,110,116]⟩
def zjo:ByteArray:=⟨#[98,111,111,108]⟩
def isT (ss:List Str) (t:ByteArray):Bool:=eqB t tInt||eqB t zjo||(z2p t&&(fnd ss (z0c t)).isSome)
def firN (g:Nat→Nat):Nat→Nat→Nat×Nat
 |0,_=>(0,0)
 |m+1,k=>if g k=0 then firN g m (k+1) else (k,g k)
def fir (g:Nat→Nat) (n k:Nat):Nat×Nat:=firN g (n - k) k
theorem zwf {g:Nat→Nat} {n k:Nat} (h:n≤k):fir g n k=(0,0):=by unfold fir;rw [show n - k=0 by omega];rfl
theorem zwe {g:Nat→Nat} {n k:Nat} (h:k<n) (hf:g k≠0):fir g n k=(k,g k):=by
 unfold fir;rw [show n - k=(n - (k+1))+1 by omega,firN,if_neg hf]
theorem zvf {g:Nat→Nat} {n k:Nat} (h:k<n) (hf:g k=0):fir g n k=fir g n (k+1):=by
 unfold fir;rw [show n - k=(n - (k+1))+1 by omega,firN,if_pos hf]
theorem fir_ok {g:Nat→Nat} {n k:Nat} (h:(fir g n k).2=0):∀ j,k≤j→j<n→g j=0:=by
 induction hm:n - k generalizing k with
 |zero=>intro j h1 h2;omega
 |succ m ih=>
  by_cases hf:g k=0
  ·rw [zvf (by omega) hf] at h
   intro j h1 h2
   rcases Nat.eq_or_lt_of_le h1 with e|e
   ·exact e▸hf
   ·exact ih h (by omega) j e h2
  ·rw [zwe (by omega) hf] at h;exact absurd h hf
theorem fir_ext {g g':Nat→Nat} {n k:Nat} (h:∀ j,k≤j→j<n→g j=g' j):fir g n k=fir g' n k:=by
 induction hm:n - k generalizing k with
 |zero=>rw [zwf (by omega),zwf (by omega)]
 |succ m ih=>
  have e:=h k (Nat.le_refl _) (by omega)
  by_cases hf:g k=0
  ·rw [zvf (by omega) hf,zvf (g:=g') (k:=k) (by omega) (by rw [←e];exact hf)]
   exact ih (fun j a b=>h j (by omega) b) (by omega)
  ·rw [zwe (by omega) hf,zwe (g:=g') (k:=k) (by omega) (by rw [←e];exact hf),e]
def chkF (ss:List Str) (fs:List Fld) (k:Nat):Nat:=match fs[k]? with
 |none=>0
 |some f=>if zjw f.name.data.toList=false then 1 else if plc fs f.name=some k then (if isT ss f.typ then 0 else 7) else 6
def chkS (ss:List Str) (i:Nat):Nat:=match ss[i]? with
 |none=>0
 |some s=>if zjw s.name.data.toList=false then 1 else if (fnd (ss.take i) s.name).isSome then 6 else if 8<s.fields.length then 4 else (fir (chkF ss s.fields) s.fields.length 0).2
def chk (ss:List Str):Nat×Nat:=if 12<ss.length then (0,4) else fir (chkS ss) ss.length 0
def linkB (fs:List Fld) (k:Nat):Bool:=match fs[k]? with|some f=>(zwg f.typ).isSome|none=>false
def links (fs:List Fld) (n:Nat):List Nat:=(List.range n).filter (linkB fs)
theorem links_succ_yes {fs:List Fld} {n:Nat} (h:linkB fs n=true):links fs (n+1)=links fs n++ [n]:=by
 unfold links;rw [List.range_succ,List.filter_append];simp [h]
theorem links_succ_no {fs:List Fld} {n:Nat} (h:linkB fs n=false):links fs (n+1)=links fs n:=by
 unfold links;rw [List.range_succ,List.filter_append];simp [h]
theorem links_len (fs:List Fld) (n:Nat):(links fs n).length≤n:=by
 unfold links;have:=List.length_filter_le (linkB fs) (List.range n);simpa using this
def tgt (ss:List Str) (t:ByteArray):Option Nat:=(zwg t).bind (fnd ss)
structure Sent (T:Nat→AT) (z:Nat):Prop where
 stop:∀ k,z≤k→T k=⟨0,[]⟩
 some:∀ k,k<z→(T k).kind≠0
def minc:NT→Nat
 | .decls| .tail _| .fields=>0
 |_=>1
def rank:NT→Nat
 | .binary _| .stmt=>1
 | .stmts=>2
 |_=>0
theorem rank_le (nt:NT):rank nt≤2:=by cases nt<;>simp [rank]
section
variable {T:Nat→AT} {z:Nat} {c:zxl}
def Tot {α:Type} (T:Nat→AT) (z:Nat) (c:zxl) (k:Nat) (p:Pr α) (i:Nat):Prop:=∃ r,runW T c p i=some r∧∀ a j,r= .ok a j→i+k≤j∧j≤z
def z1v (z:Nat) (c:zxl) (nt:NT) (d j:Nat):Prop:=∃ r,c nt d j=some r∧∀ ts j',r= .ok ts j'→j+minc nt≤j'∧j'≤z
def okNT:NT→Prop
 | .tail l| .binary l=>1≤l
 |_=>True
def Later (z:Nat) (c:zxl) (i:Nat):Prop:=∀ nt d j,okNT nt→i<j→j≤z→z1v z c nt d j
theorem Later.mono {i i':Nat} (h:Later z c i) (hi:i≤i'):Later z c i':=fun nt d j h0 h1 h2=>h nt d j h0 (by omega) h2
theorem zzu {α:Type} (a:α) (i:Nat) (h:i≤z):Tot T z c 0 (.ret a) i:=⟨_,rfl,fun a j h'=>by cases h';exact ⟨by omega,h⟩⟩
theorem z1b {α:Type} (e i k:Nat):Tot T z c k (.fail e:Pr α) i:=⟨_,rfl,fun a j h'=>by cases h'⟩
theorem Tot.weak {α:Type} {k k':Nat} {p:Pr α} {i:Nat} (h:Tot T z c k p i) (hk:k'≤k):Tot T z c k' p i:=by
 obtain ⟨r,h1,h2⟩:=h
 exact ⟨r,h1,fun a j h'=>by have:=h2 a j h';omega⟩
theorem zx2 {α:Type} {k:Nat} {f:Nat→AT→Pr α} {i:Nat} (h:Tot T z c k (f i (T i)) i):Tot T z c k (.peek f) i:=h
theorem zx9 {α:Type} {k:Nat} {p:Pr α} {i:Nat} (h:Tot T z c k p (i+1)):Tot T z c (k+1) (.next p) i:=by
 obtain ⟨r,h1,h2⟩:=h
 exact ⟨r,h1,fun a j h'=>by have:=h2 a j h';omega⟩
theorem zze {α β:Type} {k1 k2:Nat} {p:Pr α} {f:α→Pr β} {i:Nat} (h:Tot T z c k1 p i) (g:∀ a j,i+k1≤j→j≤z→Tot T z c k2 (f a) j):Tot T z c (k1+k2) (p.bind f) i:=by
 obtain ⟨r,h1,h2⟩:=h
 unfold Tot
 rw [zvl,h1]
 cases r with
 |bad j e=>exact ⟨_,rfl,fun a j h'=>by cases h'⟩
 |ok a j=>
  obtain ⟨h3,h4⟩:=h2 a j rfl
  obtain ⟨r,g1,g2⟩:=g a j h3 h4
  exact ⟨r,g1,fun b j' h'=>by have:=g2 b j' h';omega⟩
theorem zqu {α:Type} {k:Nat} {nt:NT} {d:Nat} {f:List Tree→Pr α} {i:Nat} (h:z1v z c nt d i) (g:∀ ts j,i+minc nt≤j→j≤z→Tot T z c k (f ts) j):Tot T z c (minc nt+k) (.call nt d f) i:=by
 obtain ⟨r,h1,h2⟩:=h
 unfold Tot
 simp only [runW,h1]
 cases r with
 |bad j e=>exact ⟨_,rfl,fun a j h'=>by cases h'⟩
 |ok a j=>
  obtain ⟨h3,h4⟩:=h2 a j rfl
  obtain ⟨r,g1,g2⟩:=g a j h3 h4
  exact ⟨r,g1,fun b j' h'=>by have:=g2 b j' h';omega⟩
theorem zxg {α:Type} {k:Nat} {b:Prop} [Decidable b] {p q:Pr α} {i:Nat} (h:b→Tot T z c k p i) (g:¬ b→Tot T z c k q i):Tot T z c k (if b then p else q) i:=by
 by_cases hb:b
 ·rw [if_pos hb];exact h hb
 ·rw [if_neg hb];exact g hb
theorem zqn (S:Sent T z) {i:Nat} {s:List UInt8} (hs:s≠ []) (h:(T i).text=s):i<z:=by
 rcases Nat.lt_or_ge i z with g|g
 ·exact g
 ·rw [S.stop i g] at h;exact absurd h.symm hs
theorem lt_kind (S:Sent T z) {i k:Nat} (hk:k≠0) (h:(T i).kind=k):i<z:=by
 rcases Nat.lt_or_ge i z with g|g
 ·exact g
 ·rw [S.stop i g] at h;exact absurd h.symm hk
theorem zxy (S:Sent T z) {s:List UInt8} (hs:s≠ []) (i:Nat):Tot T z c 1 (need s) i:=
 zx2 (zxg (fun h=>(zx9 (zzu i (i+1) (by have:=zqn S hs h;omega)))) fun _=>z1b _ _ _)
theorem zwv (S:Sent T z) (i:Nat):Tot T z c 1 word i:=
 zx2 (zxg (fun h=>(zx9 (zzu _ (i+1) (by have:=lt_kind S (by decide) h;omega)))) fun _=>z1b _ _ _)
theorem z2m (S:Sent T z) {s:List UInt8} (hs:s≠ []) (d i:Nat):Tot T z c 1 (zwp d s) i:=
 zx2 (zxg (fun h=>zxg (fun _=>z1b _ _ _) fun _=>(zx9 (zzu i (i+1) (by have:=zqn S hs h;omega)))) fun _=>z1b _ _ _)
theorem tot_typ (S:Sent T z) (i:Nat):Tot T z c 1 typ i:=by
 refine zx2 (zxg (fun h=>zx9 (zzu _ _ (by have:=zqn S (by decide) h;omega))) fun _=>zxg (fun h=>zx9 (zzu _ _ (by have:=zqn S (by decide) h;omega))) fun _=> ?_)
 exact (zze (zxy S (by decide) i) fun _ j _ _=>zze (zwv S j) fun _ j _ hj=>zzu _ _ hj).weak (by omega)
theorem z0g (S:Sent T z) (op i:Nat):Tot T z c 1 (z1m op) i:=
 (zze (zwv S i) fun _ j _ _=>zze (tot_typ S j) fun _ j _ hj=>zzu _ _ hj).weak (by omega)
theorem tot_named (S:Sent T z) (op i:Nat):Tot T z c 1 (named op) i:=
 (zze (z0g S op i) fun _ j _ _=>zze (zxy S (by decide) j) fun _ j _ hj=>zzu _ _ hj).weak (by omega)
theorem tot_one {nt:NT} {d i:Nat} (h:z1v z c nt d i):Tot T z c (minc nt) (one nt d) i:=zqu h fun _ _ _ hj=>zzu _ _ hj
theorem zvw {d i:Nat} (h:z1v z c (.binary 1) d i):Tot T z c 1 (expr d) i:=tot_one h
theorem z2n (S:Sent T z) (d i:Nat) (L:Later z c i):Tot T z c 1 (block d) i:=
 (zze (z2m S (by decide) d i) fun _ j h hj=>zqu (L _ _ j (by first|trivial|exact Nat.le_refl 1|exact Nat.succ_le_succ (Nat.zero_le _)|assumption) (by omega) hj) fun _ j _ hj=>zzu _ _ hj).weak (by omega)
theorem tot_structure (S:Sent T z) (i:Nat) (L:Later z c i):Tot T z c 1 zjb i:=
 (zze (zwv S i) fun _ j _ _=>zze (zxy S (by decide) j) fun _ j _ _=>zze (zxy S (by decide) j) fun _ j _ hj=>zqu (L _ _ j (by first|trivial|exact Nat.le_refl 1|exact Nat.succ_le_succ (Nat.zero_le _)|assumption) (by omega) hj) fun _ j _ hj=>zzu _ _ hj).weak (by omega)
theorem tot_fparts (S:Sent T z) (i:Nat) (L:Later z c i):Tot T z c 1 fparts i:=by
 refine (zze (k2:=0) (zxy S (by decide) i) fun _ j hij hj=>zx2 (zxg (fun h=> ?_) fun _=> ?_)).weak (by omega)
 ·exact (zx9 (zzu _ _ (by have:=zqn S (by decide) h;omega))).weak (by omega)
 ·exact (zze (z0g S 5 j) fun _ j _ hj=>zqu (L _ _ j (by first|trivial|exact Nat.le_refl 1|exact Nat.succ_le_succ (Nat.zero_le _)|assumption) (by omega) hj) fun _ j _ hj=>zzu _ _ hj).weak (by omega)
theorem tot_function (S:Sent T z) (d i:Nat) (L:Later z c i):Tot T z c 1 (zjk d) i:=by
 refine (zze (zwv S i) fun _ j hj1 _=>zze (tot_fparts S j (L.mono (by omega))) fun _ j _ hj=>zze (k1:=0) (zx2 (zxg (fun h=>zzu _ _ hj) fun _=>(tot_typ S j).weak (by omega))) fun _ j _ _=>zze (z2n S d j (L.mono (by omega))) fun _ j _ hj=>zzu _ _ hj).weak (by omega)
theorem tot_decl (S:Sent T z) (d i:Nat) (L:Later z c i):Tot T z c 1 (decl d) i:=by
 refine zx2 (zxg (fun h=> ?_) fun _=>zxg (fun h=> ?_) fun _=>zxg (fun h=> ?_) fun _=>z1b _ _ _)
 ·exact (zx9 (tot_structure S _ (L.mono (by omega)))).weak (by omega)
 ·exact (zx9 (tot_named S 3 _)).weak (by omega)
 ·exact (zx9 (tot_function S d _ (L.mono (by omega)))).weak (by omega)
theorem tot_args (S:Sent T z) (d i:Nat) (L:Later z c i):Tot T z c 1 (args d) i:=by
 refine (zze (k2:=0) (z2m S (by decide) d i) fun _ j hij hj=>zx2 (zxg (fun h=> ?_) fun _=> ?_)).weak (by omega)
 ·exact (zze (zxy S (by decide) j) fun _ j _ hj=>zzu _ _ hj).weak (by omega)
 ·exact (zze (zvw (L _ _ j (by first|trivial|exact Nat.le_refl 1|exact Nat.succ_le_succ (Nat.zero_le _)|assumption) (by omega) hj)) fun _ j _ hj=>zqu (L _ _ j (by first|trivial|exact Nat.le_refl 1|exact Nat.succ_le_succ (Nat.zero_le _)|assumption) (by omega) hj) fun _ j _ hj=>zzu _ _ hj).weak (by omega)
theorem tot_brack (S:Sent T z) (d i:Nat) (L:Later z c i):Tot T z c 1 (brack d) i:=
 (zze (z2m S (by decide) d i) fun _ j _ hj=>zze (zvw (L _ _ j (by first|trivial|exact Nat.le_refl 1|exact Nat.succ_le_succ (Nat.zero_le _)|assumption) (by omega) hj)) fun _ j _ _=>zze (zxy S (by decide) j) fun _ j _ hj=>zzu _ _ hj).weak (by omega)
theorem tot_varOrCall (S:Sent T z) (d i:Nat) (L:Later z c i):Tot T z c 1 (zje d) i:=
 (zze (k2:=0) (zwv S i) fun _ j hij hj=>zx2 (zxg (fun _=>(zze (tot_args S d j (L.mono (by omega))) fun _ j _ hj=>zzu _ _ hj).weak (by omega)) fun _=>zzu _ _ hj)).weak (by omega)
theorem tot_creation (S:Sent T z) (i:Nat):Tot T z c 1 zw8 i:=
 (zze (zxy S (by decide) i) fun _ j _ _=>zze (zxy S (by decide) j) fun _ j _ _=>zze (zwv S j) fun _ j _ _=>zze (zxy S (by decide) j) fun _ j _ hj=>zzu _ _ hj).weak (by omega)
theorem tot_input (S:Sent T z) (i:Nat):Tot T z c 1 input i:=
 (zze (zxy S (by decide) i) fun _ j _ _=>zze (zxy S (by decide) j) fun _ j _ _=>zze (zxy S (by decide) j) fun _ j _ hj=>zzu _ _ hj).weak (by omega)
theorem tot_primary (S:Sent T z) (d i:Nat) (L:Later z c i):Tot T z c 1 (zvm d) i:=by
 refine zx2 (zxg (fun h=>zx9 (zzu _ _ (by have:=lt_kind S (by decide) h;omega))) fun _=>zxg (fun _=>tot_varOrCall S d i L) fun _=> ?_)
 refine zxg (fun h=>zx9 (zzu _ _ (by have:=zqn S (by decide) h;omega))) fun _=>zxg (fun h=>zx9 (zzu _ _ (by have:=zqn S (by decide) h;omega))) fun _=>zxg (fun h=>zx9 (zzu _ _ (by have:=zqn S (by decide) h;omega))) fun _=> ?_
 exact zxg (fun _=>tot_creation S i) fun _=>zxg (fun _=>tot_input S i) fun _=>zxg (fun _=>tot_brack S d i L) fun _=>z1b _ _ _
theorem zww (S:Sent T z) (i:Nat):Tot T z c 1 fieldName i:=
 (zze (zxy S (by decide) i) fun _ _ _ _=>zwv S _).weak (by omega)
theorem tot_postfix (S:Sent T z) (d i:Nat) (L:Later z c i):Tot T z c 1 (zjv d) i:=
 (zze (tot_primary S d i L) fun _ j _ hj=>zqu (L _ _ j (by first|trivial|exact Nat.le_refl 1|exact Nat.succ_le_succ (Nat.zero_le _)|assumption) (by omega) hj) fun _ j _ hj=>zzu _ _ hj).weak (by omega)
theorem tot_setting (S:Sent T z) (op:Nat) (h:Tree) (d i:Nat) (L:z1v z c (.binary 1) d i):Tot T z c 1 (zwa op h d) i:=
 (zze (zvw L) fun _ j _ _=>zze (zxy S (by decide) j) fun _ j _ hj=>zzu _ _ hj).weak (by omega)
theorem tot_put (S:Sent T z) (h:Tree) (d i:Nat) (L:Later z c i):Tot T z c 1 (put h d) i:=
 (zze (zww S i) fun _ j hj1 hj=>zqu (L _ _ j (by first|trivial|exact Nat.le_refl 1|exact Nat.succ_le_succ (Nat.zero_le _)|assumption) (by omega) hj) fun _ j hj2 _=>zze (zxy S (by decide) j) fun _ j _ hj=>zze (zvw (L _ _ j (by first|trivial|exact Nat.le_refl 1|exact Nat.succ_le_succ (Nat.zero_le _)|assumption) (by omega) hj)) fun _ j _ _=>zze (zxy S (by decide) j) fun _ j _ hj=>zzu _ _ hj).weak (by omega)
theorem tot_simple (S:Sent T z) (d i:Nat) (L:Later z c i):Tot T z c 1 (z2r d) i:=by
 refine zx2 ((zze (k2:=0) (tot_primary S d i L) fun h j hij hj=>zx2 (zxg (fun g=> ?_) fun _=>zxg (fun g=> ?_) fun _=>zxg (fun g=> ?_) fun _=> ?_)).weak (by omega))
 ·exact (zx9 (zzu _ _ (by have:=zqn S (by decide) g.2.2;omega))).weak (by omega)
 ·exact (zx9 (tot_setting S 7 h d _ (L _ _ _ (by first|trivial|exact Nat.le_refl 1|exact Nat.succ_le_succ (Nat.zero_le _)|assumption) (by omega) (by have:=zqn S (by decide) g.2.2;omega)))).weak (by omega)
 ·exact (zx9 (tot_setting S 8 h d _ (L _ _ _ (by first|trivial|exact Nat.le_refl 1|exact Nat.succ_le_succ (Nat.zero_le _)|assumption) (by omega) (by have:=zqn S (by decide) g.2.2;omega)))).weak (by omega)
 ·exact (tot_put S h d j (L.mono (by omega))).weak (by omega)
theorem tot_loop (S:Sent T z) (d i:Nat) (L:Later z c i):Tot T z c 1 (loop d) i:=
 (zze (zxy S (by decide) i) fun _ j _ hj=>zze (zvw (L _ _ j (by first|trivial|exact Nat.le_refl 1|exact Nat.succ_le_succ (Nat.zero_le _)|assumption) (by omega) hj)) fun _ j _ _=>zze (z2n S d j (L.mono (by omega))) fun _ j _ hj=>zzu _ _ hj).weak (by omega)
theorem tot_print (S:Sent T z) (d i:Nat) (L:Later z c i):Tot T z c 1 (print d) i:=
 (zze (zxy S (by decide) i) fun _ j _ _=>zze (tot_brack S d j (L.mono (by omega))) fun _ j _ _=>zze (zxy S (by decide) j) fun _ j _ hj=>zzu _ _ hj).weak (by omega)
theorem tot_giveBack (S:Sent T z) (d i:Nat) (L:Later z c i):Tot T z c 1 (zw5 d) i:=
 (zze (zxy S (by decide) i) fun _ j _ hj=>zze (k1:=0) (zx2 (zxg (fun _=>zzu _ _ hj) fun _=>(zze (zvw (L _ _ j (by first|trivial|exact Nat.le_refl 1|exact Nat.succ_le_succ (Nat.zero_le _)|assumption) (by omega) hj)) fun _ j _ hj=>zzu _ _ hj).weak (by omega))) fun _ j _ _=>zze (zxy S (by decide) j) fun _ j _ hj=>zzu _ _ hj).weak (by omega)
theorem tot_other (S:Sent T z) (d i:Nat) (L:Later z c i) (h:z1v z c .branch d i):Tot T z c 1 (other d) i:=
 zx2 (zxg (fun _=>tot_one h) fun _=>z2n S d i L)
theorem tot_branch (S:Sent T z) (d i:Nat) (L:Later z c i):Tot T z c 1 (branch d) i:=by
 refine (zze (zxy S (by decide) i) fun _ j _ hj=>zze (zvw (L _ _ j (by first|trivial|exact Nat.le_refl 1|exact Nat.succ_le_succ (Nat.zero_le _)|assumption) (by omega) hj)) fun _ j _ _=>zze (k2:=0) (z2n S d j (L.mono (by omega))) fun _ j _ hj=>zx2 (zxg (fun h=> ?_) fun _=>zzu _ _ hj)).weak (by omega)
 have hlt:=zqn S (by decide) h
 exact (zx9 (zze (tot_other S d _ (L.mono (by omega)) (L _ _ _ (by first|trivial|exact Nat.le_refl 1|exact Nat.succ_le_succ (Nat.zero_le _)|assumption) (by omega) (by omega))) fun _ j _ hj=>zzu _ _ hj)).weak (by omega)
theorem tot_stmt (S:Sent T z) (d i:Nat) (L:Later z c i) (h:z1v z c .branch d i):Tot T z c 1 (stmt d) i:=
 zx2 (zxg (fun _=>tot_one h) fun _=>zxg (fun _=>tot_loop S d i L) fun _=>zxg (fun _=>tot_print S d i L) fun _=>zxg (fun _=>tot_giveBack S d i L) fun _=>tot_simple S d i L)
theorem find_ne {l:List UInt8} {k n:Nat} (h:zq1 l k n≠0):∃ j,k≤j∧j<k+n∧signTab.getD j []=l:=by
 induction n generalizing k with
 |zero=>exact absurd rfl h
 |succ n ih=>
  rw [zq1] at h
  split at h
  ·exact ⟨k,by omega,by omega,by assumption⟩
  ·obtain ⟨j,h1,h2,h3⟩:=ih h;exact ⟨j,by omega,by omega,h3⟩
theorem sign_ne':∀ k:Fin 19,1≤k.val→signTab.getD k.val []≠ []:=by decide
theorem sign_ne (k:Nat) (h:1≤k) (h2:k<19):signTab.getD k []≠ []:=sign_ne' ⟨k,h2⟩ h
theorem find_some {l:List UInt8} {k n:Nat} (h1:1≤k) (h2:k+n≤19) (h:zq1 l k n≠0):l≠ []:=by
 obtain ⟨j,h3,h4,rfl⟩:=find_ne h
 exact sign_ne j (by omega) (by omega)
theorem lvl_some {l:List UInt8} (h:0<lvl l):l≠ []:=by
 rintro rfl
 exact absurd h (by decide)
theorem tot_unary (S:Sent T z) (d i:Nat) (L:Later z c i):Tot T z c 1 (unary d) i:=
 zx2 (zxg (fun _=>tot_postfix S d i L) fun h=>(zze (z2m S (find_some (by omega) (by omega) h) d i) fun _ j _ hj=>zze (tot_one (L _ _ j (by first|trivial|exact Nat.le_refl 1|exact Nat.succ_le_succ (Nat.zero_le _)|assumption) (by omega) hj)) fun _ j _ hj=>zzu _ _ hj).weak (by omega))
theorem tot_binary (l d i:Nat) (hl:1≤l) (L:Later z c i) (h:z1v z c .unary d i):Tot T z c 1 (binary l d) i:=
 (zqu h fun _ j hj1 hj=>zqu (L _ _ j (by first|trivial|exact Nat.le_refl 1|exact Nat.succ_le_succ (Nat.zero_le _)|assumption) (by simp [minc] at hj1;omega) hj) fun _ j _ hj=>zzu _ _ hj).weak (by simp [minc])
theorem z1a {p:Pr Tree} {i:Nat} (h:Tot T z c 1 p i):Tot T z c 1 (zwj p) i:=(zze h fun _ j _ hj=>zzu _ _ hj).weak (by omega)
theorem tot_body (S:Sent T z) (nt:NT) (d i:Nat) (hi:i≤z) (hl:okNT nt) (L:Later z c i) (h:∀ nt',rank nt'<rank nt→okNT nt'→z1v z c nt' d i):Tot T z c (minc nt) (body nt d) i:=by
 cases nt with
 |decls=>exact zx2 (zxg (fun _=>zzu _ _ hi) fun _=>(zze (tot_decl S d i L) fun _ j _ hj=>zqu (L _ _ j (by first|trivial|exact Nat.le_refl 1|exact Nat.succ_le_succ (Nat.zero_le _)|assumption) (by omega) hj) fun _ j _ hj=>zzu _ _ hj).weak (by simp [minc]))
 |parts=>
  refine zx2 (zxg (fun g=>(zx9 (zzu _ _ (by have:=zqn S (by decide) g;omega)))) fun _=> ?_)
  exact (zze (tot_named S 5 i) fun _ j _ hj=>zqu (L _ _ j (by first|trivial|exact Nat.le_refl 1|exact Nat.succ_le_succ (Nat.zero_le _)|assumption) (by omega) hj) fun _ j _ hj=>zzu _ _ hj).weak (by simp [minc])
 |params=>
  refine zx2 (zxg (fun g=> ?_) fun _=> ?_)
  ·exact (zx9 (zze (z0g S 5 _) fun _ j _ hj=>zqu (L _ _ j (by first|trivial|exact Nat.le_refl 1|exact Nat.succ_le_succ (Nat.zero_le _)|assumption) (by omega) hj) fun _ j _ hj=>zzu _ _ hj)).weak (by simp [minc])
  ·exact (zze (zxy S (by decide) i) fun _ j _ hj=>zzu _ _ hj).weak (by simp [minc])
 |stmts=>
  refine zx2 (zxg (fun g=>(zx9 (zzu _ _ (by have:=zqn S (by decide) g;omega)))) fun _=> ?_)
  exact (zqu (h .stmt (by decide) trivial) fun _ j hj1 hj=>zqu (L _ _ j (by first|trivial|exact Nat.le_refl 1|exact Nat.succ_le_succ (Nat.zero_le _)|assumption) (by simp [minc] at hj1;omega) hj) fun _ j _ hj=>zzu _ _ hj).weak (by simp [minc])
 |stmt=>exact z1a (tot_stmt S d i L (h .branch (by decide) trivial))
 |branch=>exact z1a (tot_branch S d i L)
 |binary l=>exact z1a (tot_binary l d i hl L (h .unary Nat.zero_lt_one trivial))
 |tail l=>
  refine zx2 (zxg (fun _=>zzu _ _ hi) fun g=> ?_)
  have h1:1≤l:=hl
  have hlt:=zqn S (lvl_some (l:=(T i).text) (by omega)) rfl
  exact (zx9 (zqu (L _ _ _ (by first|trivial|exact Nat.le_refl 1|exact Nat.succ_le_succ (Nat.zero_le _)|assumption) (by omega) (by omega)) fun _ j hj1 hj=>zqu (L _ _ j (by first|trivial|exact Nat.le_refl 1|exact Nat.succ_le_succ (Nat.zero_le _)|assumption) (by omega) hj) fun _ j _ hj=>zzu _ _ hj)).weak (by simp [minc])
 |unary=>exact z1a (tot_unary S d i L)
 |fields=>exact zx2 (zxg (fun _=>(zze (zww S i) fun _ j _ hj=>zqu (L _ _ j (by first|trivial|exact Nat.le_refl 1|exact Nat.succ_le_succ (Nat.zero_le _)|assumption) (by omega) hj) fun _ j _ hj=>zzu _ _ hj).weak (by simp [minc])) fun _=>zzu _ _ hi)
 |args=>
  refine zx2 (zxg (fun g=> ?_) fun _=> ?_)
  ·have hlt:=zqn S (by decide) g
   exact (zx9 (zze (zvw (L _ _ _ (by first|trivial|exact Nat.le_refl 1|exact Nat.succ_le_succ (Nat.zero_le _)|assumption) (by omega) (by omega))) fun _ j _ hj=>zqu (L _ _ j (by first|trivial|exact Nat.le_refl 1|exact Nat.succ_le_succ (Nat.zero_le _)|assumption) (by omega) hj) fun _ j _ hj=>zzu _ _ hj)).weak (by simp [minc])
  ·exact (zze (zxy S (by decide) i) fun _ j _ hj=>zzu _ _ hj).weak (by simp [minc])
end
theorem z2i {T:Nat→AT} {z:Nat} (S:Sent T z) (n:Nat):∀ nt d i,okNT nt→i≤z→4*(z - i)+rank nt<n→z1v z (P T n) nt d i:=by
 induction n with
 |zero=>intro nt d i _ _ h;omega
 |succ n ih=>
  intro nt d i hok hi hn
  have:=tot_body S (c:=P T n) nt d i hi hok (fun nt' d' j hok' h1 h2=>ih nt' d' j hok' h2 (by have:=rank_le nt';omega)) (fun nt' hr hok'=>ih nt' d i hok' hi (by omega))
  exact this
structure Env where
 rb:Nat
 lb:Nat
 cap:Nat
 z:Nat
 T:Nat→AT
 pl:Nat→Nat
def tokV (t:AT) (p:Nat):Value:= .agg #[.int .i64 t.kind,.string ⟨t.text.toArray⟩,.int .i64 p]
def zzd (b:Nat):Value:= .agg #[.pointer (some ⟨b,0,none⟩)]
def faultE (p e:Nat):Ending:= .panicked [{ v:= .iface 67 (.agg #[.int .i64 p,.int .i64 e]),recovered:=false }]
structure RD (E:Env) (w:World) (i d:Nat):Prop where
 sent:Sent E.T E.z
 ne:E.lb≠E.rb
 cap:E.z+1≤E.cap
 zle:E.z≤5000
 text:∀ k,(E.T k).text.length≤5000
 ple:∀ k,E.pl k≤5000
 lt:E.rb<w.heap.size
 llt:E.lb<w.heap.size
 c0:w.cell? ⟨E.rb,0,none⟩=some (.slice (some ⟨E.lb,0,none⟩) (E.z+1) E.cap)
 c1:w.cell? ⟨E.rb,1,none⟩=some (.int .i64 i)
 c2:w.cell? ⟨E.rb,2,none⟩=some (.int .i64 d)
 fr:∀ k,w.frozen? ⟨E.rb,k,none⟩=false
 k0:∀ k,k≤E.z→w.cell? ⟨E.lb,k*3,none⟩=some (.int .i64 (E.T k).kind)
 k1:∀ k,k≤E.z→w.cell? ⟨E.lb,k*3+1,none⟩=some (.string ⟨(E.T k).text.toArray⟩)
 k2:∀ k,k≤E.z→w.cell? ⟨E.lb,k*3+2,none⟩=some (.int .i64 (E.pl k))
 ile:i≤E.z
 dle:d≤40
 good:Good w
 rb8:8≤E.rb
 nums:∀ k,(E.T k).kind=3→(z1w ⟨(E.T k).text.toArray⟩).1=numN (E.T k).text
theorem zqe {b:Nat} {w w':World} (h:Below w.heap.size w w'):w.grownBy w' (some b):=⟨h.os,h.tape,h.output,h.size,fun i hi _=>h.block i hi⟩
theorem zxf (w:World) (a:Addr) (u:Value):w.grownBy (w.setCell a u) (some a.block):=
 ⟨rfl,rfl,rfl,by simp,fun i _ hne=>Below.heap_setCell w a u i (fun e=>hne (by rw [e]))⟩
theorem kb_refl (b:Nat) (w:World):w.grownBy w (some b):=zqe (Below.refl _ _)
theorem zwm {w w':World} {row:Option Nat} (hg:w.grownBy w' row) (hr:∀ b,row=some b→8≤b) (hs:8≤w.heap.size):Below 8 w w':=⟨hg.os,hg.tape,hg.output,hg.size,fun k hk=>hg.block k (Nat.lt_of_lt_of_le hk hs) (fun e=>by have:=hr k e.symm;omega)⟩
theorem RD.kept {E:Env} {w w':World} {i d i' d':Nat} (h:RD E w i d) (hg:w.grownBy w' (some E.rb)) (h0:w'.cell? ⟨E.rb,0,none⟩=w.cell? ⟨E.rb,0,none⟩) (h1:w'.cell? ⟨E.rb,1,none⟩=some (.int .i64 i')) (h2:w'.cell? ⟨E.rb,2,none⟩=some (.int .i64 d')) (hf:∀ k,w'.frozen? ⟨E.rb,k,none⟩=false) (hi:i'≤E.z) (hd:d'≤40):RD E w' i' d':=
 have far:∀ o,w'.cell? ⟨E.lb,o,none⟩=w.cell? ⟨E.lb,o,none⟩:=fun o=>hg.cell_far ⟨E.lb,o,none⟩ h.llt (fun e=>h.ne (Option.some.inj e))
 { h with lt:=Nat.lt_of_lt_of_le h.lt hg.size,llt:=Nat.lt_of_lt_of_le h.llt hg.size,c0:=h0.trans h.c0,c1:=h1,c2:=h2,fr:=hf,k0:=fun k hk=>(far _).trans (h.k0 k hk),k1:=fun k hk=>(far _).trans (h.k1 k hk),k2:=fun k hk=>(far _).trans (h.k2 k hk),ile:=hi,dle:=hd,good:=h.good.low (zwm hg (fun b e=>by obtain rfl:=Option.some.inj e;exact h.rb8) h.good.size) }
theorem RD.below {E:Env} {w w':World} {i d:Nat} (h:RD E w i d) (hb:Below w.heap.size w w'):RD E w' i d:=
 h.kept (zqe hb) (hb.cell (p:=⟨E.rb,0,none⟩) h.lt) ((hb.cell (p:=⟨E.rb,1,none⟩) h.lt).trans h.c1) ((hb.cell (p:=⟨E.rb,2,none⟩) h.lt).trans h.c2) (fun k=>(hb.frozen (p:=⟨E.rb,k,none⟩) h.lt).trans (h.fr k)) h.ile h.dle
theorem RD.setI {E:Env} {w:World} {i d:Nat} (h:RD E w i d) (i':Nat) (hi:i'≤E.z):RD E (w.setCell ⟨E.rb,1,none⟩ (.int .i64 i')) i' d:=by
 refine h.kept (zxf w _ _) ?_ ?_ ?_ ?_ hi h.dle
 ·rw [World.cell?_setCell_other _ _ _ _ (by simp)]
 ·rw [World.cell?_setCell_same _ _ _ h.c1]
 ·rw [World.cell?_setCell_other _ _ _ _ (by simp)];exact h.c2
 ·intro k;rw [World.frozen?_setCell];exact h.fr k
theorem RD.setD {E:Env} {w:World} {i d:Nat} (h:RD E w i d) (d':Nat) (hd:d'≤40):RD E (w.setCell ⟨E.rb,2,none⟩ (.int .i64 d')) i d':=by
 refine h.kept (zxf w _ _) ?_ ?_ ?_ ?_ h.ile hd
 ·rw [World.cell?_setCell_other _ _ _ _ (by simp)]
 ·rw [World.cell?_setCell_other _ _ _ _ (by simp)];exact h.c1
 ·rw [World.cell?_setCell_same _ _ _ h.c2]
 ·intro k;rw [World.frozen?_setCell];exact h.fr k
structure Keeps (ok:Nat→Prop) (w w':World):Prop where
 size:w.heap.size≤w'.heap.size
 blk:∀ b,ok b→b<w.heap.size→w'.heap[b]? =w.heap[b]?
theorem Keeps.refl (ok:Nat→Prop) (w:World):Keeps ok w w:=⟨Nat.le_refl _,fun _ _ _=>rfl⟩
theorem Keeps.trans {ok:Nat→Prop} {a b c:World} (h:Keeps ok a b) (k:Keeps ok b c):Keeps ok a c:=⟨Nat.le_trans h.size k.size,fun x hx hl=>(k.blk x hx (Nat.lt_of_lt_of_le hl h.size)).trans (h.blk x hx hl)⟩
theorem Keeps.below {ok:Nat→Prop} {w w':World} (h:Below w.heap.size w w'):Keeps ok w w':=⟨h.size,fun b _ hb=>h.block b hb⟩
theorem Keeps.grown {ok:Nat→Prop} {w w':World} {row:Option Nat} (h:w.grownBy w' row) (hr:∀ b,row=some b→¬ ok b):Keeps ok w w':=⟨h.size,fun b hb hl=>h.block b hl (fun e=>hr b e.symm hb)⟩
theorem Keeps.set {ok:Nat→Prop} (w:World) (a:Addr) (u:Value) (h:¬ ok a.block):Keeps ok w (w.setCell a u):= .grown (zxf w a u) (fun b e hb=>h (by rw [Option.some.inj e];exact hb))
theorem Keeps.cell {ok:Nat→Prop} {w w':World} (h:Keeps ok w w') {b:Nat} (hb:ok b) (hl:b<w.heap.size) (o:Nat):w'.cell? ⟨b,o,none⟩=w.cell? ⟨b,o,none⟩:=World.cell?_of_block (w:=w) (h.blk b hb hl)
inductive NodeAt (ok:Nat→Prop) (pl:Nat→Nat) (w:World):Nat→Tree→Prop
 |mk {b op:Nat} {name typ:List UInt8} {n:Int} {pos:Nat} {kids:List Tree} (A:Option Addr) (c:Nat) (bs:List Nat)
   (hb:b<w.heap.size) (hok:ok b)
   (h0:w.cell? ⟨b,0,none⟩=some (.int .i64 op)) (h1:w.cell? ⟨b,1,none⟩=some (.string ⟨name.toArray⟩)) (h2:w.cell? ⟨b,2,none⟩=some (.string ⟨typ.toArray⟩))
   (h3:w.cell? ⟨b,3,none⟩=some (.int .i64 n)) (h4:w.cell? ⟨b,4,none⟩=some (.int .i64 (pl pos))) (h5:w.cell? ⟨b,5,none⟩=some (.slice A kids.length c))
   (hc:kids.length≤c) (hk:kids.length≤6000) (hl:bs.length=kids.length)
   (hs:∀ (k x:Nat),bs[k]? =some x→∃ g,A=some ⟨g,0,none⟩∧g<w.heap.size∧ok g∧w.cell? ⟨g,k,none⟩=some (.pointer (some ⟨x,0,none⟩)))
   (ht:∀ (k x:Nat) (t:Tree),bs[k]? =some x→kids[k]? =some t→NodeAt ok pl w x t):NodeAt ok pl w b (.mk op name typ n pos kids)
theorem NodeAt.keep {ok ok':Nat→Prop} {pl:Nat→Nat} {w w':World} {b:Nat} {t:Tree} (h:NodeAt ok pl w b t) (hg:Keeps ok w w') (hok:∀ b,ok b→b<w.heap.size→ok' b):NodeAt ok' pl w' b t:=by
 induction h with
 |mk A c bs hb hne h0 h1 h2 h3 h4 h5 hc hk hl hs ht ih=>
  refine .mk A c bs (Nat.lt_of_lt_of_le hb hg.size) (hok _ hne hb) ((hg.cell hne hb _).trans h0) ((hg.cell hne hb _).trans h1) ((hg.cell hne hb _).trans h2) ((hg.cell hne hb _).trans h3) ((hg.cell hne hb _).trans h4) ((hg.cell hne hb _).trans h5) hc hk hl ?_ ih
  intro k x hx
  obtain ⟨g,h6,h7,h8,h9⟩:=hs k x hx
  exact ⟨g,h6,Nat.lt_of_lt_of_le h7 hg.size,hok _ h8 h7,(hg.cell h8 h7 _).trans h9⟩
theorem NodeAt.kept {ok:Nat→Prop} {pl:Nat→Nat} {w w':World} {b:Nat} {t:Tree} (h:NodeAt ok pl w b t) (hg:Keeps ok w w'):NodeAt ok pl w' b t:=h.keep hg fun _ h _=>h
theorem NodeAt.weak {ok ok':Nat→Prop} {pl:Nat→Nat} {w:World} {b:Nat} {t:Tree} (h:NodeAt ok pl w b t) (hok:∀ b,ok b→b<w.heap.size→ok' b):NodeAt ok' pl w b t:=h.keep (Keeps.refl _ _) hok
theorem NodeAt.lt {ok:Nat→Prop} {pl:Nat→Nat} {w:World} {b:Nat} {t:Tree} (h:NodeAt ok pl w b t):b<w.heap.size∧ok b:=by
 cases h with
 |mk A c bs hb hne=>exact ⟨hb,hne⟩
def ptrsOf (bs:List Nat):List Value:=bs.map fun b=> .pointer (some ⟨b,0,none⟩)
def KidsIn (ok:Nat→Prop) (pl:Nat→Nat) (w:World) (v:Value) (n:Nat) (ts:List Tree):Prop:=
 ∃ bs,w.ownsRow 0 25 1 v n (ptrsOf bs)∧bs.length=n∧ts.length=n∧(∀ g,v.ownBlock=some g→ok g)∧∀ (k x:Nat) (t:Tree),bs[k]? =some x→ts[k]? =some t→NodeAt (fun b=>ok b∧v.ownBlock≠some b) pl w x t
theorem KidsIn.keep {ok ok':Nat→Prop} {pl:Nat→Nat} {w w':World} {row:Option Nat} {v:Value} {n:Nat} {ts:List Tree} (h:KidsIn ok pl w v n ts) (hg:w.grownBy w' row) (hr:∀ b,row=some b→¬ ok b) (hok:∀ b,ok b→b<w.heap.size→ok' b):KidsIn ok' pl w' v n ts:=by
 obtain ⟨bs,h1,h2,h3,h5,h4⟩:=h
 refine ⟨bs,h1.kept hg ?_,h2,h3,fun g hv=>hok g (h5 g hv) (h1.lt g hv).2,fun k x t hx ht=>(h4 k x t hx ht).keep (Keeps.grown hg fun b e hb=>hr b e hb.1) fun b hb hl=>⟨hok b hb.1 hl,hb.2⟩⟩
 cases hv:v.ownBlock with
 |none=>exact .inl rfl
 |some g=>exact .inr (fun e=>hr g e.symm (h5 g hv))
theorem KidsIn.nil (ok:Nat→Prop) (pl:Nat→Nat) (w:World):KidsIn ok pl w (.slice none 0 0) 0 []:=⟨[],World.ownsRow_nil _ _ _ _,rfl,rfl,(fun g h=>by cases h),(fun k x t hx=>by simp at hx)⟩
end Go.Proofs.YtkahbhfbgdbnfaaGreatDoor
