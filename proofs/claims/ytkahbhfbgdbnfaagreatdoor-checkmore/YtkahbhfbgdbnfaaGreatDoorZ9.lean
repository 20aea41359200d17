/- PLAIN: what is read is a tree of the grammar: statements, signs; all together. Nothing of the program stands here. -/
import Derived.Test.YtkahbhfbgdbnfaaGreatDoorZ8
import Derived.Test.YtkahbhfbgdbnfaaGreatDoorZ2
set_option maxRecDepth 100000
set_option maxHeartbeats 2000000
namespace Go.Proofs.YtkahbhfbgdbnfaaGreatDoor
open Go.Lib (hid)
open Go.RowKit
theorem find_range (l:List UInt8):∀ (n k:Nat),zq1 l k n=0∨(k:Int)≤zq1 l k n∧zq1 l k n<k+n:=by
 intro n
 induction n with
 |zero=>intro k;exact .inl rfl
 |succ n ih=>
  intro k
  rw [zq1]
  split
  ·right;omega
  ·rcases ih (k+1) with h|h
   ·exact .inl h
   ·right;omega
theorem lvl_find {l:List UInt8} (h:1≤lvl l) (h1:¬ l=cOr) (h2:¬ l=cAnd):1≤zq1 l 1 16∧zq1 l 1 16≤16:=by
 unfold lvl at h
 rw [if_neg h1,if_neg h2] at h
 rcases find_range l 16 1 with e|e
 ·rw [e] at h;exact absurd h (by decide)
 ·omega
theorem Loc.var18 {W:Tx→Prop} {t:Tree} (h:Loc W t) (ho:t.op=18):W t.name:=by
 cases h with
 |var ho'=>simp only [Tree.op] at ho;omega
 |set ho'=>simp only [Tree.op] at ho;omega
 |name ho' h=>exact h
 |binary ho'=>simp only [Tree.op] at ho;omega
 |_=>cases ho
theorem Al.var {W:Tx→Prop} {t:Tree} (h:Al W t) (ho:t.op=18):W t.name:=by
 cases h with
 |mk h hk=>exact h.var18 ho
section
variable {T:Nat→AT} {c:zxl} (C:∀ nt d i ts j,c nt d i=some (.ok ts j)→Gd (Wd T) nt i ts j) (HN:∀ k,(T k).kind=3→numN (T k).text≤9223372036854775807)
theorem mem1 {X:Tree→Prop} {x:Tree} (h:X x):∀ u∈ [x],X u:=fun u hu=>by obtain rfl:=List.mem_singleton.1 hu;exact h
theorem mem2 {X:Tree→Prop} {x y:Tree} (h:X x) (g:X y):∀ u∈ [x,y],X u:=fun u hu=>by
 rcases List.mem_cons.1 hu with rfl|hu
 ·exact h
 ·exact mem1 g u hu
theorem mem3 {X:Tree→Prop} {x y z:Tree} (h:X x) (g:X y) (f:X z):∀ u∈ [x,y,z],X u:=fun u hu=>by
 rcases List.mem_cons.1 hu with rfl|hu
 ·exact h
 ·exact mem2 g f u hu
include C in
theorem l_setting (op:Nat) (h:Tree) (d i:Nat) (ho:op=7∨op=8) (hw:Wd T h.name):Lf T c (fun t j=>Al (Wd T) t∧isS t∧i+zxs t≤j) (zwa op h d) i:=
 zzn (l_expr C d i) fun v j g=>zzn zqh fun _ k e=>zxc ⟨.mk (.set ho hw g.2.1) (mem1 g.1),(show 7≤op∧op≤14 by omega),by rw [zxb,zzi,zzx];have:=g.2.2;omega⟩
include C in
theorem l_put (h:Tree) (d i:Nat) (ha:Al (Wd T) h) (he:isE h):Lf T c (fun t j=>Al (Wd T) t∧isS t∧i+zxs t≤j+zxs h) (put h d) i:=
 zzn (l_fieldName i) fun p j g=>zq6 fun fs k f=>zzn zqh fun _ m e=>zzn (l_expr C d m) fun v n v1=>zzn zqh fun _ q e2=>zxc (by
  have hf:=C _ _ _ _ _ f
  have:=put_al fs h (bare p) v ha he ⟨_,_,rfl,g.1⟩ hf.1 v1.1 v1.2.1
  have hb:zxs (bare p)=1:=rfl
  refine ⟨this.1,⟨by rw [this.2.1];omega,by rw [this.2.1];omega⟩,?_⟩
  rw [this.2.2]
  have:=hf.2
  have:=v1.2.2
  omega)
include C HN in
theorem l_simple (d i:Nat):Lf T c (XS (Wd T) i) (z2r d) i:=
 zqo (zzn (l_primary C HN d i) fun h j g=>zqo (
  zx6 (fun q=>zqz (zxc ⟨.mk (.act q.2.1) (mem1 g.1),⟨by show 7≤14;omega,by show 14≤14;omega⟩,by rw [zxb,zzi,zzx];have:=g.2.2;omega⟩)) fun _=>
  zx6 (fun q=>zqz ((l_setting C 7 h d _ (.inl rfl) (g.1.var q.2.1)).imp fun t k f=>⟨f.1,f.2.1,by have:=f.2.2;have:=g.2.2;omega⟩)) fun _=>
  zx6 (fun q=>zqz ((l_setting C 8 h d _ (.inr rfl) (g.1.var q.2.1)).imp fun t k f=>⟨f.1,f.2.1,by have:=f.2.2;have:=g.2.2;omega⟩)) fun _=>
  (l_put C h d j g.1 g.2.1).imp fun t k f=>⟨f.1,f.2.1,by have:=f.2.2;have:=g.2.2;omega⟩))
include C in
theorem l_loop (d i:Nat):Lf T c (XS (Wd T) i) (loop d) i:=
 zzn zqh fun _ j h=>zzn (l_expr C d j) fun x k g=>zzn (l_block C d k) fun b m f=>zxc ⟨.mk (.loop g.2.1 f.2.1) (mem2 g.1 f.1),⟨by show 7≤11;omega,by show 11≤14;omega⟩,by rw [zxb,zzi,zzi,zzx];have:=g.2.2;have:=f.2.2;omega⟩
include C in
theorem l_print (d i:Nat):Lf T c (XS (Wd T) i) (print d) i:=
 zzn zqh fun _ j h=>zzn (l_brack C d j) fun x k g=>zzn zqh fun _ m f=>zxc ⟨.mk (.print g.2.1) (mem1 g.1),⟨by show 7≤12;omega,by show 12≤14;omega⟩,by rw [zxb,zzi,zzx];have:=g.2.2;omega⟩
include C in
theorem l_giveBack (d i:Nat):Lf T c (XS (Wd T) i) (zw5 d) i:=
 zzn zqh fun _ j h=>zzn (Ψ:=fun ks k=>(ks= []∧j≤k)∨∃ x,ks= [x]∧XE (Wd T) j x k) (zqo (zx6 (fun _=>zxc (.inl ⟨rfl,Nat.le_refl _⟩)) fun _=>zzn (l_expr C d j) fun x k g=>zxc (.inr ⟨x,rfl,g⟩))) fun ks k g=>
  zzn zqh fun _ m f=>zxc (by
   rcases g with ⟨rfl,hk⟩|⟨x,rfl,hx⟩
   ·exact ⟨.mk .back0 (fun u hu=>by cases hu),⟨by show 7≤13;omega,by show 13≤14;omega⟩,by rw [zxb,zzx];omega⟩
   ·exact ⟨.mk (.back1 hx.2.1) (mem1 hx.1),⟨by show 7≤13;omega,by show 13≤14;omega⟩,by rw [zxb,zzi,zzx];have:=hx.2.2;omega⟩)
include C in
theorem l_other (d i:Nat):Lf T c (fun t j=>Al (Wd T) t∧(t.op=6∨t.op=10)∧i+zxs t≤j) (other d) i:=
 zqo (zx6 (fun _=>zq6 fun ts j h=>by
  obtain ⟨t,rfl,ht⟩:=C _ _ _ _ _ h
  exact zxc ⟨ht.1,.inr ht.2.1,ht.2.2⟩) fun _=>(l_block C d i).imp fun t j h=>⟨h.1,.inl h.2.1,h.2.2⟩)
include C in
theorem l_branch (d i:Nat):Lf T c (XO (Wd T) 10 i) (branch d) i:=
 zzn zqh fun _ j h=>zzn (l_expr C d j) fun x k g=>zzn (l_block C d k) fun b m f=>zqo (
  zx6 (fun _=>zqz (zzn (l_other C d (m+1)) fun e n o=>zxc ⟨.mk (.conde g.2.1 f.2.1 o.2.1) (mem3 g.1 f.1 o.1),rfl,by rw [zxb,zzi,zzi,zzi,zzx];have:=g.2.2;have:=f.2.2;have:=o.2.2;omega⟩)) fun _=>
  zxc ⟨.mk (.cond g.2.1 f.2.1) (mem2 g.1 f.1),rfl,by rw [zxb,zzi,zzi,zzx];have:=g.2.2;have:=f.2.2;omega⟩)
include C HN in
theorem l_stmt (d i:Nat):Lf T c (XS (Wd T) i) (stmt d) i:=
 zqo (zx6 (fun _=>zq6 fun ts j h=>by
  obtain ⟨t,rfl,ht⟩:=C _ _ _ _ _ h
  exact zxc ⟨ht.1,⟨by show 7≤t.op;rw [ht.2.1];omega,by show t.op≤14;rw [ht.2.1];omega⟩,ht.2.2⟩) fun _=>zx6 (fun _=>l_loop C d i) fun _=>zx6 (fun _=>l_print C d i) fun _=>zx6 (fun _=>l_giveBack C d i) fun _=>l_simple C HN d i)
include C HN in
theorem l_unary (d i:Nat):Lf T c (XE (Wd T) i) (unary d) i:=
 zqo (zx6 (fun _=>l_postfix C HN d i) fun q=>zzn lf_enter fun _ j h=>zzn (Ψ:=XE (Wd T) j) (zq6 fun ts k g=>by
  obtain ⟨t,rfl,ht⟩:=C _ _ _ _ _ g
  exact zxc ht) fun x k g=>zxc ⟨.mk (.unary (by rcases find_range (T i).text 2 17 with e|e;exact absurd e q;omega) g.2.1) (mem1 g.1),⟨by show 15≤23;omega,by show 23≤26;omega⟩,by rw [zxb,zzi,zzx];have:=g.2.2;omega⟩)
include C in
theorem l_binary (l d i:Nat) (hl:1≤l):Lf T c (XE (Wd T) i) (binary l d) i:=
 zq6 fun xs j h=>zq6 fun hs k g=>zxc (by
  obtain ⟨x,rfl,hx⟩:=C _ _ _ _ _ h
  have hg:=C _ _ _ _ _ g hl
  have:=fold_half hs x hx.1 hx.2.1 hg.1
  exact ⟨this.1,this.2.1,by show i+zxs (hs.foldl _ x)≤k;rw [this.2.2];have:=hg.2;have:=hx.2.2;omega⟩)
theorem half_is {W:Tx→Prop} {t:AT} {i:Nat} {r:Tree} (hl:1≤lvl t.text) (h:Al W r) (he:isE r):Half W (half t i r)∧zxs (half t i r)=zxs r+1:=by
 unfold half
 split
 ·exact ⟨⟨26,0,i,r,rfl,.inr ⟨.inr rfl,rfl⟩,h,he⟩,rfl⟩
 ·split
  ·exact ⟨⟨25,0,i,r,rfl,.inr ⟨.inl rfl,rfl⟩,h,he⟩,rfl⟩
  ·exact ⟨⟨24,_,i,r,rfl,.inl ⟨rfl,lvl_find hl ‹_› ‹_›⟩,h,he⟩,rfl⟩
theorem l_single {X:Tree→Nat→Prop} {p:Pr Tree} {i:Nat} (h:Lf T c X p i):Lf T c (fun ts j=>∃ t,ts= [t]∧X t j) (zwj p) i:=zzn h fun a _ g=>zxc ⟨a,rfl,g⟩
include C HN in
theorem l_body (nt:NT) (d i:Nat):Lf T c (Gd (Wd T) nt i) (body nt d) i:=by
 cases nt with
 |decls=>exact zqo (zx6 (fun _=>zxc (LX.nil (Nat.le_refl _))) fun _=>zzn (l_decl C d i) fun x j h=>zq6 fun xs k g=>zxc (LX.cons h.1 h.2 (C _ _ _ _ _ g)))
 |parts=>exact zqo (zx6 (fun _=>zqz (zxc (LX.nil (by omega)))) fun _=>zzn (l_named 5 i (.inr rfl)) fun x j h=>zq6 fun xs k g=>zxc (LX.cons ⟨h.1,h.2.1⟩ h.2.2 (C _ _ _ _ _ g)))
 |params=>exact zqo (zx6 (fun _=>zqz (zzn (l_typed 5 (i+1) (.inr rfl)) fun x j h=>zq6 fun xs k g=>zxc (LX.cons ⟨h.1,h.2.1⟩ (by have:=h.2.2;omega) (C _ _ _ _ _ g)))) fun _=>zzn zqh fun _ j h=>zxc (LX.nil (by omega)))
 |stmts=>exact zqo (zx6 (fun _=>zqz (zxc (LX.nil (by omega)))) fun _=>zq6 fun x j h=>zq6 fun xs k g=>zxc (by
   obtain ⟨t,rfl,ht⟩:=C _ _ _ _ _ h
   exact LX.cons ⟨ht.1,ht.2.1⟩ ht.2.2 (C _ _ _ _ _ g)))
 |stmt=>exact l_single (l_stmt C HN d i)
 |branch=>exact l_single (l_branch C d i)
 |binary l=>exact fun a j e hl=>l_single (l_binary C l d i hl) a j e
 |tail l=>
  intro a j e hl
  have key:Lf T c (LX (Half (Wd T)) i) (body (.tail l) d) i:=zqo (zx6 (fun _=>zxc (LX.nil (Nat.le_refl _))) (fun q=>zqz (zq6 fun rs k h=>zq6 fun hs m g=>zxc (by
   obtain ⟨r,rfl,hr⟩:=C _ _ _ _ _ h (by omega)
   have hh:=half_is (t:=T i) (i:=i) (by omega) hr.1 hr.2.1
   exact LX.cons hh.1 (by show i+zxs (half (T i) i r)≤k;rw [hh.2];have:=hr.2.2;omega) (C _ _ _ _ _ g hl)))))
  exact key a j e
 |unary=>exact l_single (l_unary C HN d i)
 |fields=>exact zqo (zx6 (fun _=>zzn (l_fieldName i) fun p j h=>zq6 fun fs k g=>zxc (LX.cons ⟨_,_,rfl,h.1⟩ (by have h9:zxs (bare p)=1:=rfl;omega) (C _ _ _ _ _ g))) fun _=>zxc (LX.nil (Nat.le_refl _)))
 |args=>exact zqo (zx6 (fun _=>zqz (zzn (l_expr C d (i+1)) fun x j h=>zq6 fun xs k g=>zxc (LX.cons ⟨h.1,h.2.1⟩ (by have:=h.2.2;omega) (C _ _ _ _ _ g)))) fun _=>zzn zqh fun _ j h=>zxc (LX.nil (by omega)))
end
theorem P_good {T:Nat→AT} (HN:∀ k,(T k).kind=3→numN (T k).text≤9223372036854775807) (n:Nat):∀ nt d i ts j,P T n nt d i=some (.ok ts j)→Gd (Wd T) nt i ts j:=by
 induction n with
 |zero=>intro nt d i ts j h;cases h
 |succ n ih=>intro nt d i ts j h;exact l_body ih HN nt d i ts j h
theorem TokS.num_le {l:List UInt8} {ts:List Tok} (h:TokS l ts) (k:Nat) (hk:(Tf ts k).kind=3):numN (Tf ts k).text≤9223372036854775807:=by
 unfold Tf at hk ⊢
 cases hg:ts[k]? with
 |none=>rw [hg] at hk;cases hk
 |some t=>
  rw [hg] at hk
  simp only at hk ⊢
  have hf:=z0h (h.ok _ (List.mem_of_getElem? hg))
  obtain ⟨-,-,h2,-⟩:t.kind=3∧t.text.all digB=true∧parE t.text=0∧0<t.text.length:=by
   rcases hf with hf|hf|hf|hf
   ·omega
   ·omega
   ·exact hf
   ·omega
  unfold parE at h2
  unfold numN
  split at h2
  ·split at h2
   ·omega
   ·cases h2
  ·cases h2
theorem parsed {l:List UInt8} {ts:List Tok} {ks:List Tree} (h:zxt l= .ok ts ks):TokS l ts∧LX (fun t=>Al (Wd (Tf ts)) t∧(t.op=2∨t.op=3∨t.op=4)) 0 ks ts.length:=by
 unfold zxt at h
 cases hs:zjp l with
 |bad p e=>rw [hs] at h;cases h
 |ok ts'=>
  rw [hs] at h
  have hT:=zv8 hs
  cases hp:P (Tf ts') (z0f ts') .decls 0 0 with
  |none=>simp only [hp,treeR] at h;cases h
  |some r=>
   simp only [hp,treeR] at h
   cases r with
   |bad j e=>cases h
   |ok ks' j=>
    obtain ⟨rfl,rfl⟩:ts'=ts∧ks'=ks:=by injection h with a b;exact ⟨a,b⟩
    have hg:=P_good hT.num_le _ _ _ _ _ _ hp
    have hj:=P_prog hT.sent (nt:= .decls) trivial (Nat.zero_le _) hp
    exact ⟨hT,hg.1,by have:=hg.2;omega⟩
def Fz {α:Type} :Pr α→Prop
 | .ret _=>True
 | .fail e=>e=1∨e=3
 | .peek k=>∀ i t,Fz (k i t)
 | .next p=>Fz p
 | .call _ _ k=>∀ ts,Fz (k ts)
theorem zzo {α β:Type} {p:Pr α} {f:α→Pr β} (h:Fz p) (g:∀ a,Fz (f a)):Fz (p.bind f):=by
 induction p with
 |ret a=>exact g a
 |fail e=>exact h
 |peek k ih=>exact fun i t=>ih i t (h i t)
 |next p ih=>exact ih h
 |call nt d k ih=>exact fun ts=>ih ts (h ts)
theorem zx7 {α:Type} {q:Prop} [Decidable q] {p r:Pr α} (h:Fz p) (g:Fz r):Fz (if q then p else r):=by split<;>assumption
theorem fz_run {α:Type} {T:Nat→AT} {c:zxl} (hc:∀ nt d i j e,c nt d i=some (.bad j e)→e=1∨e=3) (p:Pr α):∀ (i j e:Nat),Fz p→runW T c p i=some (.bad j e)→e=1∨e=3:=by
 induction p with
 |ret a=>intro i j e _ h;cases h
 |fail e'=>intro i j e h h';cases h';exact h
 |peek k ih=>intro i j e h h';exact ih i (T i) i j e (h i (T i)) h'
 |next p ih=>intro i j e h h';exact ih (i+1) j e h h'
 |call nt d k ih=>
  intro i j e h h'
  simp only [runW] at h'
  cases hr:c nt d i with
  |none=>rw [hr] at h';cases h'
  |some r=>
   rw [hr] at h'
   cases r with
   |bad j' e'=>cases h';exact hc _ _ _ _ _ hr
   |ok ts k'=>exact ih ts k' j e (h ts) h'
theorem zqi (s:List UInt8):Fz (need s):=fun _ _=>zx7 trivial (.inl rfl)
theorem z2e:Fz word:=fun _ _=>zx7 trivial (.inl rfl)
theorem fz_enter (d:Nat) (s:List UInt8):Fz (zwp d s):=fun _ _=>zx7 (zx7 (.inr rfl) trivial) (.inl rfl)
theorem fz_typ:Fz typ:=fun _ _=>zx7 trivial (zx7 trivial (zzo (zqi _) fun _=>zzo z2e fun _=>trivial))
theorem fz_typed (op:Nat):Fz (z1m op):=zzo z2e fun _=>zzo fz_typ fun _=>trivial
theorem fz_named (op:Nat):Fz (named op):=zzo (fz_typed op) fun _=>zzo (zqi _) fun _=>trivial
theorem z0w (nt:NT) (d:Nat):Fz (one nt d):=fun _=>trivial
theorem fz_block (d:Nat):Fz (block d):=zzo (fz_enter _ _) fun _ _=>trivial
theorem fz_struct:Fz zjb:=zzo z2e fun _=>zzo (zqi _) fun _=>zzo (zqi _) fun _ _=>trivial
theorem fz_fparts:Fz fparts:=zzo (zqi _) fun _ _ _=>zx7 trivial (zzo (fz_typed 5) fun _ _=>trivial)
theorem fz_function (d:Nat):Fz (zjk d):=zzo z2e fun _=>zzo fz_fparts fun _=>zzo (show Fz (Pr.peek _) from fun _ _=>zx7 trivial fz_typ) fun _=>zzo (fz_block d) fun _=>trivial
theorem fz_decl (d:Nat):Fz (decl d):=fun _ _=>zx7 fz_struct (zx7 (fz_named 3) (zx7 (fz_function d) (.inl rfl)))
theorem fz_args (d:Nat):Fz (args d):=zzo (fz_enter _ _) fun _ _ _=>zx7 (zzo (zqi _) fun _=>trivial) (zzo (z0w _ _) fun _ _=>trivial)
theorem fz_brack (d:Nat):Fz (brack d):=zzo (fz_enter _ _) fun _=>zzo (z0w _ _) fun _=>zzo (zqi _) fun _=>trivial
theorem fz_varOrCall (d:Nat):Fz (zje d):=zzo z2e fun _ _ _=>zx7 (zzo (fz_args d) fun _=>trivial) trivial
theorem fz_creation:Fz zw8:=zzo (zqi _) fun _=>zzo (zqi _) fun _=>zzo z2e fun _=>zzo (zqi _) fun _=>trivial
theorem fz_input:Fz input:=zzo (zqi _) fun _=>zzo (zqi _) fun _=>zzo (zqi _) fun _=>trivial
theorem fz_primary (d:Nat):Fz (zvm d):=fun _ _=>zx7 trivial (zx7 (fz_varOrCall d) (zx7 trivial (zx7 trivial (zx7 trivial (zx7 fz_creation (zx7 fz_input (zx7 (fz_brack d) (.inl rfl))))))))
theorem fz_fieldName:Fz fieldName:=zzo (zqi _) fun _=>z2e
theorem fz_postfix (d:Nat):Fz (zjv d):=zzo (fz_primary d) fun _ _=>trivial
theorem fz_setting (op:Nat) (h:Tree) (d:Nat):Fz (zwa op h d):=zzo (z0w _ _) fun _=>zzo (zqi _) fun _=>trivial
theorem fz_put (h:Tree) (d:Nat):Fz (put h d):=zzo fz_fieldName fun _ _=>zzo (zqi _) fun _=>zzo (z0w _ _) fun _=>zzo (zqi _) fun _=>trivial
theorem fz_simple (d:Nat):Fz (z2r d):=fun _ _=>zzo (fz_primary d) fun h _ _=>zx7 trivial (zx7 (fz_setting 7 h d) (zx7 (fz_setting 8 h d) (fz_put h d)))
theorem fz_loop (d:Nat):Fz (loop d):=zzo (zqi _) fun _=>zzo (z0w _ _) fun _=>zzo (fz_block d) fun _=>trivial
theorem fz_print (d:Nat):Fz (print d):=zzo (zqi _) fun _=>zzo (fz_brack d) fun _=>zzo (zqi _) fun _=>trivial
theorem fz_giveBack (d:Nat):Fz (zw5 d):=zzo (zqi _) fun _=>zzo (show Fz (Pr.peek _) from fun _ _=>zx7 trivial (zzo (z0w _ _) fun _=>trivial)) fun _=>zzo (zqi _) fun _=>trivial
theorem fz_other (d:Nat):Fz (other d):=fun _ _=>zx7 (z0w _ _) (fz_block d)
theorem fz_branch (d:Nat):Fz (branch d):=zzo (zqi _) fun _=>zzo (z0w _ _) fun _=>zzo (fz_block d) fun _ _ _=>zx7 (zzo (p:=other d) (fz_other d) fun _=>trivial) trivial
theorem fz_stmt (d:Nat):Fz (stmt d):=fun _ _=>zx7 (z0w _ _) (zx7 (fz_loop d) (zx7 (fz_print d) (zx7 (fz_giveBack d) (fz_simple d))))
theorem fz_unary (d:Nat):Fz (unary d):=fun _ _=>zx7 (fz_postfix d) (zzo (fz_enter _ _) fun _=>zzo (z0w _ _) fun _=>trivial)
theorem z3a {p:Pr Tree} (h:Fz p):Fz (zwj p):=zzo h fun _=>trivial
theorem fz_body (nt:NT) (d:Nat):Fz (body nt d):=by
 cases nt with
 |decls=>exact fun _ _=>zx7 trivial (zzo (fz_decl d) fun _ _=>trivial)
 |parts=>exact fun _ _=>zx7 trivial (zzo (fz_named 5) fun _ _=>trivial)
 |params=>exact fun _ _=>zx7 (show Fz (Pr.bind _ _) from zzo (fz_typed 5) fun _ _=>trivial) (zzo (zqi _) fun _=>trivial)
 |stmts=>exact fun _ _=>zx7 trivial (fun _ _=>trivial)
 |stmt=>exact z3a (fz_stmt d)
 |branch=>exact z3a (fz_branch d)
 |binary l=>exact z3a (fun _ _=>trivial)
 |tail l=>exact fun _ _=>zx7 trivial (fun _ _=>trivial)
 |unary=>exact z3a (fz_unary d)
 |fields=>exact fun _ _=>zx7 (zzo fz_fieldName fun _ _=>trivial) trivial
 |args=>exact fun _ _=>zx7 (show Fz (Pr.bind _ _) from zzo (z0w _ _) fun _ _=>trivial) (zzo (zqi _) fun _=>trivial)
theorem P_err {T:Nat→AT} (n:Nat):∀ nt d i j e,P T n nt d i=some (.bad j e)→e=1∨e=3:=by
 induction n with
 |zero=>intro nt d i j e h;cases h
 |succ n ih=>intro nt d i j e h;exact fz_run ih _ i j e (fz_body nt d) h
theorem z2z {l:List UInt8} {p e:Nat} (h:zxt l= .bad p e):¬ e=0:=by
 unfold zxt at h
 cases hs:zjp l with
 |bad p' e'=>
  rw [hs] at h
  obtain ⟨rfl,rfl⟩:p'=p∧e'=e:=by injection h with a b;exact ⟨a,b⟩
  unfold zjp at hs
  split at hs
  ·injection hs with a b;omega
  ·exact (sc_bad_lt l l.length 0 _ _ (by omega) hs).2
 |ok ts=>
  rw [hs] at h
  have hT:=zv8 hs
  obtain ⟨r,hr,-⟩:=z2i hT.sent (z0f ts) .decls 0 0 trivial (Nat.zero_le _) (by simp [z0f,rank])
  simp only [hr,treeR] at h
  cases r with
  |ok ks j=>cases h
  |bad j e'=>
   have:=P_err _ _ _ _ _ _ hr
   injection h with a b
   omega
def NE {α:Type} (r:CR α):Prop:=∀ j e,r= .bad j e→e≠0
theorem NE.ok {α:Type} (a:α):NE (CR.ok a):=fun _ _ h=>by cases h
theorem NE.bad {α:Type} (p:Nat) {e:Nat} (h:e≠0):NE (CR.bad p e:CR α):=fun _ _ g=>by cases g;exact h
theorem NE.bind {α β:Type} {r:CR α} {f:α→CR β} (h:NE r) (g:∀ a,NE (f a)):NE (r.bind f):=by
 cases r with
 |ok a=>exact g a
 |bad p e=>exact NE.bad p (h p e rfl)
theorem NE.nd {α:Type} (p:Nat) (b:Bool) {e:Nat} {k:CR α} (h:e≠0) (g:NE k):NE (nd p b e k):=by
 unfold Go.Proofs.YtkahbhfbgdbnfaaGreatDoor.nd;split
 ·exact g
 ·exact NE.bad p h
theorem NE.all {l:List (CR ByteArray)} (h:∀ r∈l,NE r):NE (allC l):=by
 induction l with
 |nil=>exact NE.ok _
 |cons a r ih=>exact (h a (by simp)).bind fun _=>(ih fun x hx=>h x (by simp [hx])).bind fun _=>NE.ok _
theorem NE.kid {l:List (CR ByteArray)} (h:∀ r∈l,NE r) (i:Nat):NE (kidC l i):=by
 unfold kidC
 rw [List.getD_eq_getElem?_getD]
 cases hi:l[i]? with
 |none=>exact NE.ok _
 |some r=>exact h r (List.mem_of_getElem? hi)
theorem var_ne (x:Inf) (K:List Fld) (p:Nat) (n:ByteArray):NE (varC x K p n):=by
 unfold varC varOf;split
 ·exact NE.ok _
 ·exact NE.ok _
 ·exact NE.nd _ _ (by decide) (NE.bad _ (by decide))
theorem field_ne (x:Inf) (p:Nat) (n a:ByteArray):NE (zjn x p n a):=by
 unfold zjn;split
 ·exact NE.bad _ (by decide)
 ·unfold fieldOf;split
  ·exact NE.bad _ (by decide)
  ·exact NE.ok _
theorem callee_ne (x:Inf) (K:List Fld) (p:Nat) (n:ByteArray):NE (zju x K p n):=by
 unfold zju z0a;split
 ·exact NE.nd _ _ (by decide) (NE.nd _ _ (by decide) (NE.ok _))
 ·exact NE.nd _ _ (by decide) (NE.bad _ (by decide))
theorem exprOf_ne (x:Inf) (K:List Fld) (op:Nat) (name:List UInt8) (n:Int) (p:Nat) {rs:List (CR ByteArray)} (h:∀ r∈rs,NE r):NE (zj8 x K op name n p rs):=by
 unfold zj8
 split;·exact NE.ok _
 split;·exact NE.ok _
 split;·exact var_ne _ _ _ _
 split;·exact NE.nd _ _ (by decide) (NE.nd _ _ (by decide) (NE.ok _))
 split;·exact (NE.kid h 0).bind fun _=>field_ne _ _ _ _
 split;·exact (NE.all h).bind fun _=>(callee_ne _ _ _ _).bind fun _=>NE.nd _ _ (by decide) (NE.nd _ _ (by decide) (NE.ok _))
 split;·exact (NE.kid h 0).bind fun _=>NE.nd _ _ (by decide) (NE.ok _)
 split;·exact (NE.kid h 0).bind fun _=>(NE.kid h 1).bind fun _=>NE.nd _ _ (by decide) (NE.ok _)
 split;·exact (NE.kid h 0).bind fun _=>(NE.kid h 1).bind fun _=>NE.nd _ _ (by decide) (NE.ok _)
 exact NE.ok _
mutual
theorem expr_ne (x:Inf) (K:List Fld):∀ t,NE (zzt x K t)
 | .mk op name _ n p ks=>by unfold zzt;exact exprOf_ne _ _ _ _ _ _ (exprs_ne x K ks)
theorem exprs_ne (x:Inf) (K:List Fld):∀ l,∀ r∈zvb x K l,NE r
 | []=>by unfold zvb;simp
 |t::l=>by
  unfold zvb
  intro r hr
  rcases List.mem_cons.1 hr with rfl|hr
  ·exact expr_ne x K t
  ·exact exprs_ne x K l r hr
end
theorem leaf_ne (x:Inf) (res:ByteArray) (K:List Fld) (f:Nat) (op:Nat) (name:List UInt8) (p:Nat) {rs:List (CR ByteArray)} (h:∀ r∈rs,NE r):NE (z2b x res K f op name p rs):=by
 unfold z2b
 split;·exact (NE.kid h 0).bind fun _=>NE.nd _ _ (by decide) (NE.nd _ _ (by decide) (NE.ok _))
 split;·exact (NE.kid h 0).bind fun _=>(var_ne _ _ _ _).bind fun _=>NE.nd _ _ (by decide) (NE.ok _)
 split;·exact (NE.kid h 0).bind fun _=>(NE.kid h 1).bind fun _=>(field_ne _ _ _ _).bind fun _=>NE.nd _ _ (by decide) (NE.ok _)
 split;·exact (NE.kid h 0).bind fun _=>NE.nd _ _ (by decide) (NE.ok _)
 split
 ·split
  ·exact NE.nd _ _ (by decide) (NE.ok _)
  ·exact (NE.kid h 0).bind fun _=>NE.nd _ _ (by decide) (NE.ok _)
 split;·exact (NE.kid h 0).bind fun _=>NE.ok _
 exact NE.ok _
mutual
theorem stmt_ne (x:Inf) (res:ByteArray):∀ t K f,NE (zkf x res t K f)
 | .mk op name _ _ p ks,K,f=>by
   unfold zkf
   split
   ·exact (stmts_ne x res ks K _).bind fun _=>NE.ok _
   ·split
    ·exact (NE.kid (exprs_ne x K ks) 0).bind fun _=>NE.nd _ _ (by decide) (rest_ne x res ks K f)
    ·exact leaf_ne _ _ _ _ _ _ _ (exprs_ne x K ks)
theorem stmts_ne (x:Inf) (res:ByteArray):∀ l K f,NE (zxm x res l K f)
 | [],K,f=>by unfold zxm;exact NE.ok _
 |t::r,K,f=>by unfold zxm;exact (stmt_ne x res t K f).bind fun K'=>stmts_ne x res r K' f
theorem rest_ne (x:Inf) (res:ByteArray):∀ l K f,NE (z2t x res l K f)
 | [],K,f=>by unfold z2t;exact NE.ok _
 |_::r,K,f=>by unfold z2t;exact stmts_ne x res r K f
end
theorem firC_ne (ks:List Tree) (g:Nat→Nat) (n:Nat):NE (firC ks g n):=by
 unfold firC;split
 ·exact NE.ok _
 ·exact NE.bad _ (by omega)
theorem types_ne (ss:List Str) (d:Tree):NE (zqp ss d):=by
 unfold zqp;split
 ·exact NE.nd _ _ (by decide) (NE.ok _)
 ·exact (firC_ne _ _ _).bind fun _=>NE.nd _ _ (by decide) (NE.ok _)
theorem each_ne {f:Tree→CR Unit} (h:∀ t,NE (f t)) (l:List Tree):NE (zja f l):=by
 induction l with
 |nil=>exact NE.ok _
 |cons a r ih=>exact (h a).bind fun _=>ih
theorem body_ne (x:Inf) (d:Tree):NE (zvu x d):=by
 unfold zvu;split
 ·exact (stmts_ne _ _ _ _ _).bind fun _=>NE.ok _
 ·exact NE.ok _
theorem chk_ne {t:Tree} {j e:Nat} (h:zqy t= .bad j e):e≠0:=by
 have:NE (zqy t):=(firC_ne _ _ _).bind fun _=>(each_ne (types_ne _) _).bind fun _=>(each_ne (body_ne _) _).bind fun _=>NE.nd _ _ (by decide) (NE.ok _)
 exact this j e h
inductive SRs
 |ok (ts:List Tok) (ks:List Tree) (x:Inf)
 |bad (p e:Nat)
def chkR (ts:List Tok) (n:Nat) (ks:List Tree):CR Inf→SRs
 | .ok x=> .ok ts ks x
 | .bad j e=> .bad (plf ts n j) e
def srcOf (n:Nat):PR→SRs
 | .bad p e=> .bad p e
 | .ok ts ks=>chkR ts n ks (zqy (root ts ks))
def zz1 (l:List UInt8):SRs:=srcOf l.length (zxt l)
def zInf:Value:= .agg #[.slice none 0 0,.slice none 0 0,.slice none 0 0]
def SrcQ (l:List UInt8) (r:SRs) (w:World) (e:Ending) (w':World):Prop:=Below w.heap.size w w'∧(match r with
 | .ok ts ks x=>∃ (b:Nat) (E:CE),e= .returned (.tuple #[zzd b,infV E,.int .i64 0,.int .i64 0])∧E.x=x∧IX E w' w.heap.size∧NodeAt (fun _=>True) (plf ts l.length) w' b (root ts ks)
 | .bad p er=>e= .returned (.tuple #[.agg #[.pointer none],zInf,.int .i64 p,.int .i64 er]))
theorem Al.wt {W:Tx→Prop} (hW:∀ s,W s→s.length≤65536) {t:Tree} (h:Al W t):Wt t:=by
 induction h with
 |mk h hk ih=>
  have hal:=(Al.mk h hk).ok.least
  refine .mk hal ?_ ih
  cases h<;>first|exact hW _ (by assumption)|exact Nat.zero_le _
theorem src_wt {l:List UInt8} {ts:List Tok} {ks:List Tree} (h:zxt l= .ok ts ks):Wt (root ts ks)∧zxs (root ts ks)≤90000∧TokS l ts:=by
 obtain ⟨hT,hA,hs⟩:=parsed h
 refine ⟨.mk (Nat.zero_le _) (Nat.zero_le _) (fun u hu=>(hA u hu).1.wt (fun s hs=> ?_)),?_,hT⟩
 ·obtain ⟨k,-,rfl⟩:=hs
  have:=hT.text k
  omega
 ·show zxz ks+1≤_
  have:=hT.len
  have:=hT.le
  omega
def envS (w:World) (pl:Nat→Nat):CE:=⟨w,pl,infZ,zkx,none,none,none,0,0,0,0⟩
theorem source_any (s:ByteArray) (r:SRs) (w:World) (G:Good w) (hs:s.size≤281474976710656) (hr:Hid (zz1 s.data.toList=r)):Calls Tryz.prog 18 #[.string s] w (SrcQ s.data.toList r w):=by
 have h8:=G.size
 have B0:=hid (b2 w (.cells #[.pointer none] 25) (.cells #[.slice none 0 0,.slice none 0 0,.slice none 0 0] 44))
 have HG:=hid G
 have x0:((w.alloc (.cells #[.pointer none] 25)).alloc (.cells #[.slice none 0 0,.slice none 0 0,.slice none 0 0] 44)).cell? ⟨w.heap.size,0,none⟩=some (.pointer none):=(World.cell?_alloc_lt _ _ _ (by simp)).trans (zxa w _ 25 0)
 have r0:((w.alloc (.cells #[.pointer none] 25)).alloc (.cells #[.slice none 0 0,.slice none 0 0,.slice none 0 0] 44)).cell? ⟨w.heap.size+1,0,none⟩=some (.slice none 0 0):=zxh w _ _ _ _ 0
 have r1:((w.alloc (.cells #[.pointer none] 25)).alloc (.cells #[.slice none 0 0,.slice none 0 0,.slice none 0 0] 44)).cell? ⟨w.heap.size+1,1,none⟩=some (.slice none 0 0):=zxh w _ _ _ _ 1
 have r2:((w.alloc (.cells #[.pointer none] 25)).alloc (.cells #[.slice none 0 0,.slice none 0 0,.slice none 0 0] 44)).cell? ⟨w.heap.size+1,2,none⟩=some (.slice none 0 0):=zxh w _ _ _ _ 2
 have zx:((w.alloc (.cells #[.pointer none] 25)).alloc (.cells #[.slice none 0 0,.slice none 0 0,.slice none 0 0] 44)).frozen? ⟨w.heap.size,0,none⟩=false:=by simp [go_sem]
 have z0:((w.alloc (.cells #[.pointer none] 25)).alloc (.cells #[.slice none 0 0,.slice none 0 0,.slice none 0 0] 44)).frozen? ⟨w.heap.size+1,0,none⟩=false:=by simp [go_sem]
 have z1:((w.alloc (.cells #[.pointer none] 25)).alloc (.cells #[.slice none 0 0,.slice none 0 0,.slice none 0 0] 44)).frozen? ⟨w.heap.size+1,1,none⟩=false:=by simp [go_sem]
 have z2:((w.alloc (.cells #[.pointer none] 25)).alloc (.cells #[.slice none 0 0,.slice none 0 0,.slice none 0 0] 44)).frozen? ⟨w.heap.size+1,2,none⟩=false:=by simp [go_sem]
 have l1:w.heap.size+1<((w.alloc (.cells #[.pointer none] 25)).alloc (.cells #[.slice none 0 0,.slice none 0 0,.slice none 0 0] 44)).heap.size:=by simp
 obtain ⟨pr,hpr⟩:∃ pr,zxt s.data.toList=pr:=⟨_,rfl⟩
 have HPR:=hid hpr
 have hr':srcOf s.data.toList.length pr=r:=by rw [←hpr];exact hr.out
 have HRR:=hid hr'
 clear hpr hr hr' G
 go_enter Tryz.func18,Tryz.ntmps18
 go_wp2_with fail
 generalize (w.alloc (.cells #[.pointer none] 25)).alloc (.cells #[.slice none 0 0,.slice none 0 0,.slice none 0 0] 44)=wa at*
 have l0:w.heap.size<wa.heap.size:=by omega
 refine (zvh s pr wa (HG.out.below B0.out) hs HPR).mono ?_
 rintro e w1 ⟨hb1,he⟩
 have x0:=zza (Below.refl _ _) x0 l0 hb1
 have r0:=zza (Below.refl _ _) r0 l1 hb1
 have r1:=zza (Below.refl _ _) r1 l1 hb1
 have r2:=zza (Below.refl _ _) r2 l1 hb1
 have zx:=(hb1.frozen (p:=⟨w.heap.size,0,none⟩) l0).trans zx
 have z0:=(hb1.frozen (p:=⟨w.heap.size+1,0,none⟩) l1).trans z0
 have z1:=(hb1.frozen (p:=⟨w.heap.size+1,1,none⟩) l1).trans z1
 have z2:=(hb1.frozen (p:=⟨w.heap.size+1,2,none⟩) l1).trans z2
 have B1:=hid (B0.out.trans (hb1.mono B0.out.size))
 have s1:=hb1.size
 cases pr with
 |bad p er=>
  obtain rfl:=he
  have:=HRR.out
  subst this
  have her:=z2z HPR.out
  have hne:((er:Int) !=0)=true:=by simp;omega
  have HF:Hid (Below w.heap.size w (((((w1.setCell ⟨w.heap.size,0,none⟩ (.pointer none)).setCell ⟨w.heap.size+1,0,none⟩ (.slice none 0 0)).setCell ⟨w.heap.size+1,1,none⟩ (.slice none 0 0)).setCell ⟨w.heap.size+1,2,none⟩ (.slice none 0 0)).alloc (.cells #[.pointer none] 25))):=((((B1.out.setCell (p:=⟨w.heap.size,0,none⟩) (Nat.le_refl _) (.pointer none)).setCell (p:=⟨w.heap.size+1,0,none⟩) (Nat.le_succ _) (.slice none 0 0)).setCell (p:=⟨w.heap.size+1,1,none⟩) (Nat.le_succ _) (.slice none 0 0)).setCell (p:=⟨w.heap.size+1,2,none⟩) (Nat.le_succ _) (.slice none 0 0)).trans ((b1 _ (.cells #[.pointer none] 25)).mono ((((B1.out.setCell (p:=⟨w.heap.size,0,none⟩) (Nat.le_refl _) (.pointer none)).setCell (p:=⟨w.heap.size+1,0,none⟩) (Nat.le_succ _) (.slice none 0 0)).setCell (p:=⟨w.heap.size+1,1,none⟩) (Nat.le_succ _) (.slice none 0 0)).setCell (p:=⟨w.heap.size+1,2,none⟩) (Nat.le_succ _) (.slice none 0 0)).size)
  have k0:w.heap.size<w1.heap.size:=by omega
  have k1:w.heap.size+1<w1.heap.size:=by omega
  clear hb1 s1
  go_wp2_with fail
  refine bodyPost_ret (v:= .tuple #[.agg #[.pointer none],zInf,.int .i64 p,.int .i64 er]) (by unfold zInf;simp [results,Tryz.results18,go_sem,x0,r0,r1,r2,k0,k1]) rfl ?_
  exact ⟨HF.out,rfl⟩
 |ok ts ks=>
  obtain ⟨b,rfl,hn⟩:=he
  obtain ⟨hW,hz,hT⟩:=src_wt HPR.out
  have HN:=hid hn
  have HWz:=hid hW
  have hroot:Hid (plf ts s.data.toList.length (root ts ks).pos=0):=by
   show plf ts s.data.toList.length (ts.length+1)=0
   unfold plf;rw [List.getElem?_eq_none (by omega)];simp
  unfold zzd
  obtain ⟨cr,hcr⟩:∃ c,zqy (root ts ks)=c:=⟨_,rfl⟩
  have HCR:=hid hcr
  have hr2:chkR ts s.data.toList.length ks cr=r:=by rw [←hcr];exact HRR.out
  have HR2:=hid hr2
  have BT:=hid (b1 w1 (.cells #[.pointer (some ⟨b,0,none⟩)] 25))
  have t0:(w1.alloc (.cells #[.pointer (some ⟨b,0,none⟩)] 25)).cell? ⟨w1.heap.size,0,none⟩=some (.pointer (some ⟨b,0,none⟩)):=zxa w1 _ 25 0
  have k0:w.heap.size<w1.heap.size:=by omega
  have k1:w.heap.size+1<w1.heap.size:=by omega
  clear hb1 hn hW hcr hr2 HRR
  go_wp2_with fail
  generalize hwb:w1.alloc (.cells #[.pointer (some ⟨b,0,none⟩)] 25)=wb at*
  have NB:Hid (Nd (envS w1 (plf ts s.data.toList.length)) b (root ts ks)):=HN.out.weak fun _ _ _=>trivial
  refine (ccheck_any (envS w1 (plf ts s.data.toList.length)) b (root ts ks) wb NB.out BT.out (HG.out.below (B1.out.trans (BT.out.mono B1.out.size))) HWz.out hz hroot.out rfl).mono ?_
  rw [HCR.out]
  rintro e w2 ⟨hb2,he⟩
  have b2':=BT.out.trans (hb2.mono BT.out.size)
  have x0:=zza (Below.refl _ _) x0 k0 b2'
  have r0:=zza (Below.refl _ _) r0 k1 b2'
  have r1:=zza (Below.refl _ _) r1 k1 b2'
  have r2:=zza (Below.refl _ _) r2 k1 b2'
  have zx:=(b2'.frozen (p:=⟨w.heap.size,0,none⟩) k0).trans zx
  have z0:=(b2'.frozen (p:=⟨w.heap.size+1,0,none⟩) k1).trans z0
  have z1:=(b2'.frozen (p:=⟨w.heap.size+1,1,none⟩) k1).trans z1
  have z2:=(b2'.frozen (p:=⟨w.heap.size+1,2,none⟩) k1).trans z2
  have kt:w1.heap.size<wb.heap.size:=by rw [←hwb];simp
  have t0:=zza (Below.refl _ _) t0 kt hb2
  have B2:=hid (B1.out.trans (b2'.mono B1.out.size))
  have N2:=hid ((HN.out.bl BT.out).bl hb2)
  have k2:w1.heap.size<w2.heap.size:=Nat.lt_of_lt_of_le kt hb2.size
  have e0:w.heap.size<w2.heap.size:=by omega
  have e1:w.heap.size+1<w2.heap.size:=by omega
  clear b2' hwb
  cases cr with
  |bad j er=>
   obtain rfl:=he
   have:=HR2.out
   subst this
   have her:=chk_ne HCR.out
   have hne:((er:Int) !=0)=true:=by simp;omega
   have HF:Hid (Below w.heap.size w (((((w2.setCell ⟨w.heap.size,0,none⟩ (.pointer none)).setCell ⟨w.heap.size+1,0,none⟩ (.slice none 0 0)).setCell ⟨w.heap.size+1,1,none⟩ (.slice none 0 0)).setCell ⟨w.heap.size+1,2,none⟩ (.slice none 0 0)).alloc (.cells #[.slice none 0 0,.slice none 0 0,.slice none 0 0] 44))):=((((B2.out.setCell (p:=⟨w.heap.size,0,none⟩) (Nat.le_refl _) (.pointer none)).setCell (p:=⟨w.heap.size+1,0,none⟩) (Nat.le_succ _) (.slice none 0 0)).setCell (p:=⟨w.heap.size+1,1,none⟩) (Nat.le_succ _) (.slice none 0 0)).setCell (p:=⟨w.heap.size+1,2,none⟩) (Nat.le_succ _) (.slice none 0 0)).trans ((b1 _ (.cells #[.slice none 0 0,.slice none 0 0,.slice none 0 0] 44)).mono ((((B2.out.setCell (p:=⟨w.heap.size,0,none⟩) (Nat.le_refl _) (.pointer none)).setCell (p:=⟨w.heap.size+1,0,none⟩) (Nat.le_succ _) (.slice none 0 0)).setCell (p:=⟨w.heap.size+1,1,none⟩) (Nat.le_succ _) (.slice none 0 0)).setCell (p:=⟨w.heap.size+1,2,none⟩) (Nat.le_succ _) (.slice none 0 0)).size)
   clear hb2
   go_wp2_with fail
   refine bodyPost_ret (v:= .tuple #[.agg #[.pointer none],zInf,.int .i64 (plf ts s.data.toList.length j),.int .i64 er]) (by unfold zInf;simp [results,Tryz.results18,go_sem,x0,r0,r1,r2,e0,e1];rfl) rfl ?_
   exact ⟨HF.out,rfl⟩
  |ok x=>
   obtain ⟨E',hx,rfl,hI⟩:=he
   have:=HR2.out
   subst this
   have HX:=hid hx
   have IX2:=hid hI
   have BV:=hid (b1 w2 (.cells #[.slice E'.sA E'.x.structs.length E'.sc,.slice E'.gA E'.x.globals.length E'.gc,.slice E'.fA E'.x.funs.length E'.fc] 44))
   have t2:=zza (Below.refl _ _) t0 k2 BV.out
   obtain ⟨v0,v1,v2⟩:=infV_new E' w2
   have B3:=hid (B2.out.trans (BV.out.mono B2.out.size))
   have N3:=hid (N2.out.bl BV.out)
   have I3:=hid (IX2.out.below BV.out)
   unfold infV
   clear hI hb2 t0 hx
   have zx:=(BV.out.frozen (p:=⟨w.heap.size,0,none⟩) e0).trans zx
   have z0:=(BV.out.frozen (p:=⟨w.heap.size+1,0,none⟩) e1).trans z0
   have z1:=(BV.out.frozen (p:=⟨w.heap.size+1,1,none⟩) e1).trans z1
   have z2:=(BV.out.frozen (p:=⟨w.heap.size+1,2,none⟩) e1).trans z2
   have x0:=zza (Below.refl _ _) x0 e0 BV.out
   have r0:=zza (Below.refl _ _) r0 e1 BV.out
   have r1:=zza (Below.refl _ _) r1 e1 BV.out
   have r2:=zza (Below.refl _ _) r2 e1 BV.out
   have sV:=BV.out.size
   go_wp2_with fail
   generalize (w2.alloc (.cells #[.slice E'.sA E'.x.structs.length E'.sc,.slice E'.gA E'.x.globals.length E'.gc,.slice E'.fA E'.x.funs.length E'.fc] 44))=wc at*
   have g0:w.heap.size<wc.heap.size:=by omega
   have g1:w.heap.size+1<wc.heap.size:=by omega
   go_region
   have hok1:wa.heap.size≤w1.heap.size:=s1
   go_wp2_with fail
   refine bodyPost_ret (v:= .tuple #[zzd b,infV E',.int .i64 0,.int .i64 0]) (by unfold infV zzd;simp [results,Tryz.results18,go_sem,x0,r0,r1,r2]) rfl ?_
   refine ⟨?_,b,E',rfl,HX.out,?_,?_⟩
   ·exact ((((B3.out.setCell (p:=⟨w.heap.size,0,none⟩) (Nat.le_refl _) _).setCell (p:=⟨w.heap.size+1,0,none⟩) (Nat.le_succ _) _).setCell (p:=⟨w.heap.size+1,1,none⟩) (Nat.le_succ _) _).setCell (p:=⟨w.heap.size+1,2,none⟩) (Nat.le_succ _) _).drew
   ·exact (((((I3.out.set (by omega) (by omega)).set (by omega) (by omega)).set (by omega) (by omega)).set (by omega) (by omega)).below (Below.refl _ _).drew).lower (by omega)
   ·exact (((((N3.out.kept (Keeps.set _ ⟨w.heap.size,0,none⟩ _ (fun h=>by have h8:wa.heap.size≤w.heap.size:=h;omega))).kept (Keeps.set _ ⟨w.heap.size+1,0,none⟩ _ (fun h=>by have h8:wa.heap.size≤w.heap.size+1:=h;omega))).kept (Keeps.set _ ⟨w.heap.size+1,1,none⟩ _ (fun h=>by have h8:wa.heap.size≤w.heap.size+1:=h;omega))).kept (Keeps.set _ ⟨w.heap.size+1,2,none⟩ _ (fun h=>by have h8:wa.heap.size≤w.heap.size+1:=h;omega))).bl (Below.refl _ _).drew).weak fun _ _ _=>trivial
def errS:SRs→Nat
 | .ok _ _ _=>0
 | .bad _ e=>e
def plcS:SRs→Nat
 | .ok _ _ _=>0
 | .bad p _=>p
def infS:SRs→Inf
 | .ok _ _ x=>x
 | .bad _ _=>infZ
structure VI (E:CE) (w:World) (b:Nat):Prop where
 lt:b<w.heap.size
 c0:w.cell? ⟨b,0,none⟩=some (.slice E.sA E.x.structs.length E.sc)
 c1:w.cell? ⟨b,1,none⟩=some (.slice E.gA E.x.globals.length E.gc)
 c2:w.cell? ⟨b,2,none⟩=some (.slice E.fA E.x.funs.length E.fc)
theorem VI.below {E:CE} {w w':World} {b:Nat} (h:VI E w b) (hb:Below w.heap.size w w'):VI E w' b:=
 ⟨Nat.lt_of_lt_of_le h.lt hb.size,(hb.cell (p:=⟨b,0,none⟩) h.lt).trans h.c0,(hb.cell (p:=⟨b,1,none⟩) h.lt).trans h.c1,(hb.cell (p:=⟨b,2,none⟩) h.lt).trans h.c2⟩
theorem VI.new (E:CE) (w:World):VI E (w.alloc (.cells #[.slice E.sA E.x.structs.length E.sc,.slice E.gA E.x.globals.length E.gc,.slice E.fA E.x.funs.length E.fc] 44)) w.heap.size:=
 ⟨by simp,zxa w _ 44 0,zxa w _ 44 1,zxa w _ 44 2⟩
theorem VI.two (E:CE) (w:World) (p:Option Addr):VI E ((w.alloc (.cells #[.pointer p] 25)).alloc (.cells #[.slice E.sA E.x.structs.length E.sc,.slice E.gA E.x.globals.length E.gc,.slice E.fA E.x.funs.length E.fc] 44)) (w.heap.size+1):=
 ⟨by simp,zxh w _ _ _ _ 0,zxh w _ _ _ _ 1,zxh w _ _ _ _ 2⟩
def SU (r:SRs) (w:World) (e:Ending) (w':World):Prop:=Below w.heap.size w w'∧∃ (p:Option Addr) (E:CE),e= .returned (.tuple #[.agg #[.pointer p],infV E,.int .i64 (plcS r),.int .i64 (errS r)])∧E.x=infS r∧IM E w'
theorem im_zero {w:World} (G:Good w):IM (envS w fun _=>0) w:=
 IX.im (lo:=0) ⟨G,Nat.zero_le _,Nat.zero_le _,Nat.zero_le _,0,[],[],Nat.le_refl _,DR.nil w 0⟩
theorem zq3 (s:ByteArray) (r:SRs) (w:World) (G:Good w) (hs:s.size≤281474976710656) (hr:Hid (zz1 s.data.toList=r)):Calls Tryz.prog 18 #[.string s] w (SU r w):=by
 refine (source_any s r w G hs hr).mono ?_
 rintro e w' ⟨hb,h⟩
 refine ⟨hb,?_⟩
 cases r with
 |ok ts ks x=>
  obtain ⟨b,E,rfl,hx,hI,-⟩:=h
  exact ⟨some ⟨b,0,none⟩,E,rfl,hx,hI.im⟩
 |bad p er=>
  obtain rfl:=h
  exact ⟨none,envS w' fun _=>0,rfl,rfl,im_zero (G.below hb)⟩
def hasB (x:Inf) (n:ByteArray):Bool:=(funO x n).isSome||((plc x.globals n).isSome||(fnd x.structs n).isSome)
theorem has_any (E:CE) (n:ByteArray) (b:Bool) (w:World) (I:IM E w) (hb:Hid (hasB E.x n=b)):
 Calls Tryz.prog 28 #[infV E,.string n] w fun e w'=>e= .returned (.bool b)∧Below w.heap.size w w':=by
 have B0:=hid (b1 w (.cells #[.slice E.sA E.x.structs.length E.sc,.slice E.gA E.x.globals.length E.gc,.slice E.fA E.x.funs.length E.fc] 44))
 have V0:=VI.new E w
 have I0:=hid (I.below B0.out)
 obtain ⟨c0,c1,c2⟩:=(show _∧_∧_ from ⟨V0.c0,V0.c1,V0.c2⟩)
 have HV:=hid V0
 clear V0 I
 have hl:=I0.out.sl
 go_enter Tryz.func28,Tryz.ntmps28
 unfold infV
 go_wp2_with fail
 generalize w.alloc (.cells #[.slice E.sA E.x.structs.length E.sc,.slice E.gA E.x.globals.length E.gc,.slice E.fA E.x.funs.length E.fc] 44)=w1 at*
 refine (zw9 E n _ w1 I0.out (hid rfl)).mono ?_
 rintro e w2 ⟨rfl,hb2⟩
 have V2:=HV.out.below hb2
 have I2:=hid (I0.out.below hb2)
 have B2:=hid (B0.out.trans (hb2.mono B0.out.size))
 obtain ⟨d0,d1,d2⟩:=(show _∧_∧_ from ⟨V2.c0,V2.c1,V2.c2⟩)
 have HV2:=hid V2
 clear V2 c0 c1 c2 hb2 HV I0 B0
 have hA:∃ i,zqt (funO E.x n)= .tuple #[.int .i64 i,.bool (funO E.x n).isSome]:=by cases funO E.x n<;>exact ⟨_,rfl⟩
 obtain ⟨iA,hA⟩:=hA
 rw [hA]
 go_wp2_with fail
 refine (zvr E n _ w2 I2.out (hid rfl)).mono ?_
 rintro e w3 ⟨rfl,hb3⟩
 have V3:=HV2.out.below hb3
 have I3:=hid (I2.out.below hb3)
 have B3:=hid (B2.out.trans (hb3.mono B2.out.size))
 obtain ⟨d0,d1,d2⟩:=(show _∧_∧_ from ⟨V3.c0,V3.c1,V3.c2⟩)
 clear V3 hb3 HV2 I2 B2
 have hB:∃ i,zqt (plc E.x.globals n)= .tuple #[.int .i64 i,.bool (plc E.x.globals n).isSome]:=by cases plc E.x.globals n<;>exact ⟨_,rfl⟩
 obtain ⟨iB,hB⟩:=hB
 rw [hB]
 go_wp2_with fail
 refine (zv5 E.sA E.sc _ E.x.structs n _ w3 I3.out.S (hid rfl) (by omega) (hid rfl)).mono ?_
 rintro e w4 ⟨rfl,hb4⟩
 have hC:∃ i,zqt (fnd E.x.structs n)= .tuple #[.int .i64 i,.bool (fnd E.x.structs n).isSome]:=by cases fnd E.x.structs n<;>exact ⟨_,rfl⟩
 obtain ⟨iC,hC⟩:=hC
 rw [hC]
 have B4:=hid (B3.out.trans (hb4.mono B3.out.size))
 have hh:=hb.out
 unfold hasB at hh
 clear hb hb4 B3 d0 d1 d2 hA hB hC
 generalize (funO E.x n).isSome=x1 at*
 generalize (plc E.x.globals n).isSome=x2 at*
 generalize (fnd E.x.structs n).isSome=x3 at*
 cases x1<;>cases x2<;>cases x3<;>simp only [Bool.or_false,Bool.or_true] at hh<;>subst hh<;>(go_wp2_with fail;refine bodyPost_ret (v:= .bool _) (by simp [results,Tryz.results28,go_sem]) rfl ⟨rfl,B4.out⟩)
def aw1:ByteArray:=⟨#[116,121,112,101,32,84,32,115,116,114,117,99,116,32,123,32,110,32,105,110,116,59,32,125,32,118,97,114,32,103,32,42,84,59,32,102,117,110,99,32,102,40,112,32,42,84,41,32,105,110,116,32,123,32,114,101,116,117,114,110,32,112,46,110,59,32,125,32,102,117,110,99,32,109,97,105,110,40,41,32,123,32,103,32,61,32,110,101,119,40,84,41,59,32,112,114,105,110,116,40,102,40,103,41,41,59,32,125]⟩
def aw2:ByteArray:=⟨#[102,117,110,99,32,109,97,105,110,40,41,32,123,32,120,32,58,61,32,49,59,32,120,32,58,61,32,50,59,32,125]⟩
def aw3:ByteArray:=⟨#[102,117,110,99,32,102,40,41,32,123,32,125]⟩
def aw4:ByteArray:=⟨#[102,117,110,99,32,109,97,105,110,40,41,32,123,32,112,114,105,110,116,40,116,114,117,101,41,59,32,125]⟩
theorem aw1_e:errS (zz1 aw1.data.toList)=0:=by kernel_rfl
theorem aw1_s:(infS (zz1 aw1.data.toList)).structs.length=1:=by kernel_rfl
theorem aw1_f:(infS (zz1 aw1.data.toList)).funs.length=2:=by kernel_rfl
theorem aw1_r:((infS (zz1 aw1.data.toList)).funs[0]?).map (·.res)=some tInt:=by kernel_rfl
theorem aw1_m:funO (infS (zz1 aw1.data.toList)) tMain=some 1:=by kernel_rfl
theorem aw1_g:plc (infS (zz1 aw1.data.toList)).globals ⟨#[103]⟩=some 0:=by kernel_rfl
theorem aw2_p:plcS (zz1 aw2.data.toList)=22:=by kernel_rfl
theorem aw2_e:errS (zz1 aw2.data.toList)=6:=by kernel_rfl
theorem aw3_e:errS (zz1 aw3.data.toList)=8:=by kernel_rfl
theorem aw4_p:plcS (zz1 aw4.data.toList)=14:=by kernel_rfl
theorem aw4_e:errS (zz1 aw4.data.toList)=7:=by kernel_rfl
theorem awake5 (w:World) (g:Good w):Calls Tryz.prog 17 #[] w fun e w'=>e= .returned (.bool true)∧Below w.heap.size w w':=by
 have HB:=hid (Below.refl w.heap.size w)
 have G:=hid g
 clear g
 go_enter Tryz.func17,Tryz.ntmps17
 go_wp2_with fail
 refine Calls.mono (R:=SU (zz1 aw1.data.toList) w) (zq3 aw1 _ w G.out (by decide) (hid rfl)) ?_
 rintro e w1a ⟨hb,p1,E,rfl,hx,hI⟩
 have HB2:=hid (HB.out.trans (hb.mono HB.out.size))
 have G2:=hid (G.out.below hb)
 clear HB G
 have HB:=HB2
 have G:=G2
 clear HB2 G2
 have I:=hid hI
 have HX:=hid hx
 rw [aw1_e]
 generalize plcS (zz1 aw1.data.toList)=q1
 clear hx hI hb
 have BX:=hid (b2 w1a (.cells #[.pointer p1] 25) (.cells #[.slice E.sA E.x.structs.length E.sc,.slice E.gA E.x.globals.length E.gc,.slice E.fA E.x.funs.length E.fc] 44))
 have V:=hid (VI.two E w1a p1)
 have I2:=hid (I.out.below BX.out)
 clear I
 have I:=I2
 clear I2
 unfold infV
 go_wp2_with fail
 have HB2:=hid (HB.out.trans (BX.out.mono HB.out.size))
 have G2:=hid (G.out.below BX.out)
 clear HB G
 have HB:=HB2
 have G:=G2
 clear HB2 G2
 clear BX
 generalize ((w1a.alloc (.cells #[.pointer p1] 25)).alloc (.cells #[.slice E.sA E.x.structs.length E.sc,.slice E.gA E.x.globals.length E.gc,.slice E.fA E.x.funs.length E.fc] 44))=w1 at*
 refine Calls.mono (R:=SU (zz1 aw2.data.toList) w1) (zq3 aw2 _ w1 G.out (by decide) (hid rfl)) ?_
 rintro e w2a ⟨hb,p2,E2,rfl,hx,hI⟩
 have HB2:=hid (HB.out.trans (hb.mono HB.out.size))
 have G2:=hid (G.out.below hb)
 have V2:=hid (V.out.below hb)
 have I2:=hid (I.out.below hb)
 clear HB G V I
 have HB:=HB2
 have G:=G2
 have V:=V2
 have I:=I2
 clear HB2 G2 V2 I2
 rw [aw2_p,aw2_e]
 clear hx hI hb
 have BX:=hid (b2 w2a (.cells #[.pointer p2] 25) (.cells #[.slice E2.sA E2.x.structs.length E2.sc,.slice E2.gA E2.x.globals.length E2.gc,.slice E2.fA E2.x.funs.length E2.fc] 44))
 unfold infV
 go_wp2_with fail
 have HB2:=hid (HB.out.trans (BX.out.mono HB.out.size))
 have G2:=hid (G.out.below BX.out)
 have V2:=hid (V.out.below BX.out)
 have I2:=hid (I.out.below BX.out)
 clear HB G V I
 have HB:=HB2
 have G:=G2
 have V:=V2
 have I:=I2
 clear HB2 G2 V2 I2
 clear BX
 generalize ((w2a.alloc (.cells #[.pointer p2] 25)).alloc (.cells #[.slice E2.sA E2.x.structs.length E2.sc,.slice E2.gA E2.x.globals.length E2.gc,.slice E2.fA E2.x.funs.length E2.fc] 44))=w2 at*
 refine Calls.mono (R:=SU (zz1 aw3.data.toList) w2) (zq3 aw3 _ w2 G.out (by decide) (hid rfl)) ?_
 rintro e w3a ⟨hb,p3,E3,rfl,hx,hI⟩
 have HB2:=hid (HB.out.trans (hb.mono HB.out.size))
 have G2:=hid (G.out.below hb)
 have V2:=hid (V.out.below hb)
 have I2:=hid (I.out.below hb)
 clear HB G V I
 have HB:=HB2
 have G:=G2
 have V:=V2
 have I:=I2
 clear HB2 G2 V2 I2
 rw [aw3_e]
 generalize plcS (zz1 aw3.data.toList)=q3
 clear hx hI hb
 have BX:=hid (b2 w3a (.cells #[.pointer p3] 25) (.cells #[.slice E3.sA E3.x.structs.length E3.sc,.slice E3.gA E3.x.globals.length E3.gc,.slice E3.fA E3.x.funs.length E3.fc] 44))
 unfold infV
 go_wp2_with fail
 have HB2:=hid (HB.out.trans (BX.out.mono HB.out.size))
 have G2:=hid (G.out.below BX.out)
 have V2:=hid (V.out.below BX.out)
 have I2:=hid (I.out.below BX.out)
 clear HB G V I
 have HB:=HB2
 have G:=G2
 have V:=V2
 have I:=I2
 clear HB2 G2 V2 I2
 clear BX
 generalize ((w3a.alloc (.cells #[.pointer p3] 25)).alloc (.cells #[.slice E3.sA E3.x.structs.length E3.sc,.slice E3.gA E3.x.globals.length E3.gc,.slice E3.fA E3.x.funs.length E3.fc] 44))=w3 at*
 refine Calls.mono (R:=SU (zz1 aw4.data.toList) w3) (zq3 aw4 _ w3 G.out (by decide) (hid rfl)) ?_
 rintro e w4a ⟨hb,p4,E4,rfl,hx,hI⟩
 have HB2:=hid (HB.out.trans (hb.mono HB.out.size))
 have G2:=hid (G.out.below hb)
 have V2:=hid (V.out.below hb)
 have I2:=hid (I.out.below hb)
 clear HB G V I
 have HB:=HB2
 have G:=G2
 have V:=V2
 have I:=I2
 clear HB2 G2 V2 I2
 rw [aw4_p,aw4_e]
 clear hx hI hb
 have BX:=hid (b2 w4a (.cells #[.pointer p4] 25) (.cells #[.slice E4.sA E4.x.structs.length E4.sc,.slice E4.gA E4.x.globals.length E4.gc,.slice E4.fA E4.x.funs.length E4.fc] 44))
 have V4:=V.out.below BX.out
 obtain ⟨c0,c1,c2⟩:=(show _∧_∧_ from ⟨V4.c0,V4.c1,V4.c2⟩)
 clear V4
 unfold infV
 go_wp2_with fail
 clear c0 c1 c2
 have HB2:=hid (HB.out.trans (BX.out.mono HB.out.size))
 have G2:=hid (G.out.below BX.out)
 have V2:=hid (V.out.below BX.out)
 have I2:=hid (I.out.below BX.out)
 clear HB G V I
 have HB:=HB2
 have G:=G2
 have V:=V2
 have I:=I2
 clear HB2 G2 V2 I2
 clear BX
 generalize ((w4a.alloc (.cells #[.pointer p4] 25)).alloc (.cells #[.slice E4.sA E4.x.structs.length E4.sc,.slice E4.gA E4.x.globals.length E4.gc,.slice E4.fA E4.x.funs.length E4.fc] 44))=w4 at*
 refine Calls.mono (R:=fun e w'=>e= .returned (zqt (some 1))∧Below w4.heap.size w4 w') (zw9 E tMain (some 1) w4 I.out (by show _=_;rw [HX.out];exact aw1_m)) ?_
 rintro e w5 ⟨rfl,hb⟩
 simp only [zqt]
 have HB2:=hid (HB.out.trans (hb.mono HB.out.size))
 have G2:=hid (G.out.below hb)
 have V2:=hid (V.out.below hb)
 have I2:=hid (I.out.below hb)
 clear HB G V I
 have HB:=HB2
 have G:=G2
 have V:=V2
 have I:=I2
 clear HB2 G2 V2 I2
 clear hb
 obtain ⟨c0,c1,c2⟩:=(show _∧_∧_ from ⟨V.out.c0,V.out.c1,V.out.c2⟩)
 go_wp2_with fail
 clear c0 c1 c2
 refine Calls.mono (R:=fun e w'=>e= .returned (zqt (some 0))∧Below w5.heap.size w5 w') (zvr E ⟨#[103]⟩ (some 0) w5 I.out (by show _=_;rw [HX.out];exact aw1_g)) ?_
 rintro e w6 ⟨rfl,hb⟩
 simp only [zqt]
 have HB2:=hid (HB.out.trans (hb.mono HB.out.size))
 have G2:=hid (G.out.below hb)
 have V2:=hid (V.out.below hb)
 have I2:=hid (I.out.below hb)
 clear HB G V I
 have HB:=HB2
 have G:=G2
 have V:=V2
 have I:=I2
 clear HB2 G2 V2 I2
 clear hb
 go_wp2_with fail
 refine (ccheck_zero w6).mono ?_
 rintro e w7 ⟨rfl,hb⟩
 have HB2:=hid (HB.out.trans (hb.mono HB.out.size))
 have G2:=hid (G.out.below hb)
 have V2:=hid (V.out.below hb)
 have I2:=hid (I.out.below hb)
 clear HB G V I
 have HB:=HB2
 have G:=G2
 have V:=V2
 have I:=I2
 clear HB2 G2 V2 I2
 clear hb
 have hl1:E.x.structs.length=1:=by rw [HX.out];exact aw1_s
 have hl2:E.x.funs.length=2:=by rw [HX.out];exact aw1_f
 obtain ⟨s,hs,hr⟩:∃ s,E.x.funs[0]? =some s∧s.res=tInt:=by
  have h:=aw1_r
  rw [←HX.out] at h
  obtain ⟨s,h1,h2⟩:=Option.map_eq_some_iff.1 h
  exact ⟨s,h1,h2⟩
 have BX:=hid (b1 w7 (.cells #[.slice none 0 0,.slice none 0 0,.slice none 0 0] 44))
 have HB2:=hid (HB.out.trans (BX.out.mono HB.out.size))
 have G2:=hid (G.out.below BX.out)
 have V2:=hid (V.out.below BX.out)
 have I2:=hid (I.out.below BX.out)
 clear HB G V I
 have HB:=HB2
 have G:=G2
 have V:=V2
 have I:=I2
 clear HB2 G2 V2 I2
 obtain ⟨fb,fo,hfa,hfl,hfc⟩:=I.out.F (by omega)
 obtain ⟨PA,pc,f0,f1,f2,-⟩:=hfc 0 s hs
 obtain ⟨c0,c1,c2⟩:=(show _∧_∧_ from ⟨V.out.c0,V.out.c1,V.out.c2⟩)
 rw [hr] at f2
 unfold tInt at f2
 rw [hfa,hl2] at c2
 rw [hl1] at c0
 clear hfc hs hr BX
 rw [hl1,hl2,hfa]
 clear hl1 hl2 hfa V
 go_wp2_with fail
 go_ret
 exact ⟨rfl,HB.out⟩
end Go.Proofs.YtkahbhfbgdbnfaaGreatDoor
