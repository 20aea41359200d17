/- PLAIN: trees that are the same but for places; what is read of the same tokens at another place is the same but for places. Nothing of the program stands here.  -/
import Derived.Test.YtkahbhfbgdbnfaaGreatDoorZ1
import Derived.Test.YtkahbhfbgdbnfaaGreatDoorZ6
import Derived.Test.YtkahbhfbgdbnfaaGreatDoorZ9
set_option maxRecDepth 100000
set_option maxHeartbeats 400000
namespace Go.Proofs.YtkahbhfbgdbnfaaGreatDoor
open Go.RowKit
mutual
def er:Tree→Tree
 | .mk o s ty n _ ks=> .mk o s ty n 0 (erL ks)
def erL:List Tree→List Tree
 | []=> []
 |t::r=>er t::erL r
end
theorem erL_map (ks:List Tree):erL ks=ks.map er:=by
 induction ks with
 |nil=>rfl
 |cons t r ih=>rw [erL,ih];rfl
theorem er_mk (o:Nat) (s ty:List UInt8) (n:Int) (p:Nat) (ks:List Tree):er (.mk o s ty n p ks)= .mk o s ty n 0 (ks.map er):=by rw [er,erL_map]
theorem zw7 {a b:Tree} (h:er a=er b):a.op=b.op∧a.name=b.name∧a.typ=b.typ∧a.n=b.n∧a.kids.map er=b.kids.map er:=by
 cases a;cases b
 simp only [er_mk,Tree.mk.injEq] at h
 exact ⟨h.1,h.2.1,h.2.2.1,h.2.2.2.1,h.2.2.2.2.2⟩
theorem er_kid {l r:List Tree} (h:l.map er=r.map er) {k:Nat} {u:Tree} (hu:l[k]? =some u):∃ v,r[k]? =some v∧er u=er v:=by
 have h1:=congrArg (fun l=>l[k]?) h
 simp only [List.getElem?_map,hu,Option.map_some] at h1
 obtain ⟨v,h2,h3⟩:=Option.map_eq_some_iff.1 h1.symm
 exact ⟨v,h2,h3.symm⟩
abbrev EE (a b:Tree):Prop:=er a=er b
abbrev EL (a b:List Tree):Prop:=a.map er=b.map er
theorem zqb {o:Nat} {s ty:List UInt8} {n:Int} {p q:Nat} {ks ks':List Tree} (h:EL ks ks'):EE (.mk o s ty n p ks) (.mk o s ty n q ks'):=by
 show er _=er _;rw [er_mk,er_mk];rw [show ks.map er=ks'.map er from h]
theorem zxe:EL [] []:=rfl
theorem zzv {a b:Tree} {l r:List Tree} (h:EE a b) (g:EL l r):EL (a::l) (b::r):=by
 show _::_=_::_;rw [show er a=er b from h,show l.map er=r.map er from g]
theorem el_app {a b l r:List Tree} (h:EL a b) (g:EL l r):EL (a++l) (b++r):=by
 show List.map _ _=List.map _ _;rw [List.map_append,List.map_append,show a.map er=b.map er from h,show l.map er=r.map er from g]
theorem ee_hd {l r:List Tree} (h:EL l r):EE (hd l) (hd r):=by
 cases l with
 |nil=>cases r with
  |nil=>rfl
  |cons b r=>cases h
 |cons a l=>cases r with
  |nil=>cases h
  |cons b r=>exact (List.cons.inj h).1
theorem ee_attach {a b x y:Tree} (h:EE a b) (g:EE x y):EE (zqg a x) (zqg b y):=by
 obtain ⟨h1,h2,h3,h4,h5⟩:=zw7 g
 cases x;cases y
 simp only [Tree.op,Tree.name,Tree.typ,Tree.n,Tree.kids] at h1 h2 h3 h4 h5
 subst h1 h2 h3 h4
 exact zqb (zzv h h5)
theorem ee_fold:∀ (l r:List Tree) (a b:Tree),EL l r→EE a b→EE (l.foldl (fun a b=>zqg a b) a) (r.foldl (fun a b=>zqg a b) b)
 | [],[],a,b,_,g=>g
 | [],_::_,_,_,h,_=>by cases h
 |_::_,[],_,_,h,_=>by cases h
 |x::l,y::r,a,b,h,g=>ee_fold l r _ _ (List.cons.inj h).2 (ee_attach g (List.cons.inj h).1)
theorem ee_put:∀ (l r:List Tree) (h h' f f' v v':Tree),EL l r→EE h h'→EE f f'→EE v v'→EE (putT h f l v) (putT h' f' r v')
 | [],[],h,h',f,f',v,v',_,g1,g2,g3=>by
   unfold putT
   rw [(zw7 g2).2.1]
   exact zqb (zzv g1 (zzv g3 zxe))
 | [],_::_,_,_,_,_,_,_,h,_,_,_=>by cases h
 |_::_,[],_,_,_,_,_,_,h,_,_,_=>by cases h
 |x::l,y::r,h,h',f,f',v,v',g0,g1,g2,g3=>by
  unfold putT
  exact ee_put l r _ _ _ _ _ _ (List.cons.inj g0).2 (ee_attach g1 g2) (List.cons.inj g0).1 g3
def RelP {α:Type} (E:α→α→Prop):Pr α→Pr α→Prop
 | .ret a,.ret b=>E a b
 | .fail e,.fail e'=>e=e'
 | .peek k,.peek k'=>∀ i i' t,RelP E (k i t) (k' i' t)
 | .next p,.next p'=>RelP E p p'
 | .call nt d k,.call nt' d' k'=>nt=nt'∧d=d'∧∀ ts ts',EL ts ts'→RelP E (k ts) (k' ts')
 |_,_=>False
theorem z2x {α β:Type} {E:α→α→Prop} {F:β→β→Prop} {f f':α→Pr β} (g:∀ a a',E a a'→RelP F (f a) (f' a')):∀ (p p':Pr α),RelP E p p'→RelP F (p.bind f) (p'.bind f')
 | .ret a,.ret b,h=>g a b h
 | .fail _,.fail _,h=>h
 | .peek _,.peek _,h=>fun i i' t=>z2x g _ _ (h i i' t)
 | .next p,.next p',h=>z2x g p p' h
 | .call _ _ _,.call _ _ _,h=>⟨h.1,h.2.1,fun ts ts' e=>z2x g _ _ (h.2.2 ts ts' e)⟩
theorem zzf {α β:Type} {E:α→α→Prop} {F:β→β→Prop} {p p':Pr α} {f f':α→Pr β} (h:RelP E p p') (g:∀ a a',E a a'→RelP F (f a) (f' a')):RelP F (p.bind f) (p'.bind f'):=z2x g p p' h
theorem zxq {α:Type} {E:α→α→Prop} {q:Prop} [Decidable q] {p p' r r':Pr α} (h:RelP E p p') (g:RelP E r r'):RelP E (if q then p else r) (if q then p' else r'):=by
 split<;>assumption
theorem rel_ite2 {α:Type} {E:α→α→Prop} {q q':Prop} [Decidable q] [Decidable q'] {p p' r r':Pr α} (e:q↔q') (h:RelP E p p') (g:RelP E r r'):RelP E (if q then p else r) (if q' then p' else r'):=by
 by_cases hq:q
 ·rw [if_pos hq,if_pos (e.1 hq)];exact h
 ·rw [if_neg hq,if_neg (fun h=>hq (e.2 h))];exact g
abbrev AnyE {α:Type} :α→α→Prop:=fun _ _=>True
abbrev SndE (a b:Nat×List UInt8):Prop:=a.2=b.2
theorem zx0 (s:List UInt8):RelP AnyE (need s) (need s):=fun _ _ _=>zxq trivial rfl
theorem zw0:RelP SndE word word:=fun _ _ _=>zxq rfl rfl
theorem z2v (d:Nat) (s:List UInt8):RelP AnyE (zwp d s) (zwp d s):=fun _ _ _=>zxq (zxq rfl trivial) rfl
theorem rel_typ:RelP Eq typ typ:=fun _ _ _=>zxq rfl (zxq rfl (zzf (zx0 _) (fun _ _ _=>zzf zw0 (fun a a' h=>by show _::_=_::_;rw [show a.2=a'.2 from h]))))
theorem rel_typed (op:Nat):RelP EE (z1m op) (z1m op):=zzf zw0 (fun a a' h=>zzf rel_typ (fun t t' e=>by subst e;show EE _ _;rw [show a.2=a'.2 from h];exact zqb zxe))
theorem rel_named (op:Nat):RelP EE (named op) (named op):=zzf (rel_typed op) (fun _ _ h=>zzf (zx0 _) (fun _ _ _=>h))
theorem rel_one (nt:NT) (d:Nat):RelP EE (one nt d) (one nt d):=⟨rfl,rfl,fun _ _ h=>ee_hd h⟩
theorem zv1 (d:Nat):RelP EE (expr d) (expr d):=rel_one _ _
theorem z2w (d:Nat):RelP EE (block d) (block d):=zzf (z2v _ _) (fun _ _ _=>⟨rfl,rfl,fun _ _ h=>zqb h⟩)
theorem rel_struct:RelP EE zjb zjb:=zzf zw0 (fun a a' e=>zzf (zx0 _) (fun _ _ _=>zzf (zx0 _) (fun _ _ _=>⟨rfl,rfl,fun _ _ h=>by show EE _ _;rw [show a.2=a'.2 from e];exact zqb h⟩)))
theorem rel_fparts:RelP EL fparts fparts:=zzf (zx0 _) (fun _ _ _ _ _ _=>zxq zxe (zzf (rel_typed 5) (fun _ _ h=>⟨rfl,rfl,fun _ _ g=>zzv h g⟩)))
theorem rel_function (d:Nat):RelP EE (zjk d) (zjk d):=zzf zw0 (fun a a' e=>zzf rel_fparts (fun _ _ h=>zzf (E:=Eq) (fun _ _ _=>zxq rfl rel_typ) (fun t t' e2=>zzf (z2w d) (fun _ _ g=>by subst e2;show EE _ _;rw [show a.2=a'.2 from e];exact zqb (el_app h (zzv g zxe))))))
theorem rel_decl (d:Nat):RelP EE (decl d) (decl d):=fun _ _ _=>zxq rel_struct (zxq (rel_named 3) (zxq (rel_function d) rfl))
theorem rel_args (d:Nat):RelP EL (args d) (args d):=zzf (z2v _ _) (fun _ _ _ _ _ _=>zxq (zzf (zx0 _) (fun _ _ _=>zxe)) (zzf (zv1 _) (fun _ _ h=>⟨rfl,rfl,fun _ _ g=>zzv h g⟩)))
theorem rel_brack (d:Nat):RelP EE (brack d) (brack d):=zzf (z2v _ _) (fun _ _ _=>zzf (zv1 _) (fun _ _ h=>zzf (zx0 _) (fun _ _ _=>h)))
theorem rel_varOrCall (d:Nat):RelP EE (zje d) (zje d):=zzf zw0 (fun a a' e _ _ _=>zxq (zzf (rel_args d) (fun _ _ h=>by show EE _ _;rw [show a.2=a'.2 from e];exact zqb h)) (by show EE _ _;rw [show a.2=a'.2 from e];exact zqb zxe))
theorem rel_creation:RelP EE zw8 zw8:=zzf (zx0 _) (fun _ _ _=>zzf (zx0 _) (fun _ _ _=>zzf zw0 (fun a a' e=>zzf (zx0 _) (fun _ _ _=>by show EE _ _;rw [show a.2=a'.2 from e];exact zqb zxe))))
theorem rel_input:RelP EE input input:=zzf (zx0 _) (fun _ _ _=>zzf (zx0 _) (fun _ _ _=>zzf (zx0 _) (fun _ _ _=>zqb zxe)))
theorem rel_primary (d:Nat):RelP EE (zvm d) (zvm d):=fun _ _ _=>zxq (zqb zxe) (zxq (rel_varOrCall d) (zxq (zqb zxe) (zxq (zqb zxe) (zxq (zqb zxe) (zxq rel_creation (zxq rel_input (zxq (rel_brack d) rfl)))))))
theorem z2u:RelP SndE fieldName fieldName:=zzf (zx0 _) (fun _ _ _=>zw0)
theorem rel_postfix (d:Nat):RelP EE (zjv d) (zjv d):=zzf (rel_primary d) (fun _ _ h=>⟨rfl,rfl,fun _ _ g=>ee_fold _ _ _ _ g h⟩)
theorem rel_setting (op:Nat) (h h':Tree) (d:Nat) (e:EE h h'):RelP EE (zwa op h d) (zwa op h' d):=zzf (zv1 d) (fun _ _ g=>zzf (zx0 _) (fun _ _ _=>by show EE _ _;rw [(zw7 e).2.1];exact zqb (zzv g zxe)))
theorem ee_bare {a a':Nat×List UInt8} (h:SndE a a'):EE (bare a) (bare a'):=by unfold bare;rw [show a.2=a'.2 from h];exact zqb zxe
theorem rel_put (h h':Tree) (d:Nat) (e:EE h h'):RelP EE (put h d) (put h' d):=zzf z2u (fun _ _ f=>⟨rfl,rfl,fun _ _ g=>zzf (zx0 _) (fun _ _ _=>zzf (zv1 d) (fun _ _ v=>zzf (zx0 _) (fun _ _ _=>ee_put _ _ _ _ _ _ _ _ g e (ee_bare f) v)))⟩)
theorem rel_simple (d:Nat):RelP EE (z2r d) (z2r d):=fun _ _ t=>zzf (rel_primary d) (fun h h' e _ _ t2=>by
 have ho:=(zw7 e).1
 refine rel_ite2 (by rw [ho]) ?_ (rel_ite2 (by rw [ho]) (rel_setting 7 h h' d e) (rel_ite2 (by rw [ho]) (rel_setting 8 h h' d e) (rel_put h h' d e)))
 exact zqb (zzv e zxe))
theorem rel_loop (d:Nat):RelP EE (loop d) (loop d):=zzf (zx0 _) (fun _ _ _=>zzf (zv1 d) (fun _ _ h=>zzf (z2w d) (fun _ _ g=>zqb (zzv h (zzv g zxe)))))
theorem rel_print (d:Nat):RelP EE (print d) (print d):=zzf (zx0 _) (fun _ _ _=>zzf (rel_brack d) (fun _ _ h=>zzf (zx0 _) (fun _ _ _=>zqb (zzv h zxe))))
theorem rel_giveBack (d:Nat):RelP EE (zw5 d) (zw5 d):=zzf (zx0 _) (fun _ _ _=>zzf (E:=EL) (fun _ _ _=>zxq zxe (zzf (zv1 d) (fun _ _ h=>zzv h zxe))) (fun _ _ h=>zzf (zx0 _) (fun _ _ _=>zqb h)))
theorem rel_other (d:Nat):RelP EE (other d) (other d):=fun _ _ _=>zxq (rel_one _ _) (z2w d)
theorem rel_branch (d:Nat):RelP EE (branch d) (branch d):=zzf (zx0 _) (fun _ _ _=>zzf (zv1 d) (fun _ _ h=>zzf (z2w d) (fun _ _ g _ _ _=>zxq (show RelP EE ((other d).bind _) _ from zzf (rel_other d) (fun _ _ f=>zqb (zzv h (zzv g (zzv f zxe))))) (zqb (zzv h (zzv g zxe))))))
theorem rel_stmt (d:Nat):RelP EE (stmt d) (stmt d):=fun _ _ _=>zxq (rel_one _ _) (zxq (rel_loop d) (zxq (rel_print d) (zxq (rel_giveBack d) (rel_simple d))))
theorem rel_unary (d:Nat):RelP EE (unary d) (unary d):=fun _ _ _=>zxq (rel_postfix d) (zzf (z2v _ _) (fun _ _ _=>zzf (rel_one _ _) (fun _ _ h=>zqb (zzv h zxe))))
theorem rel_binary (l d:Nat):RelP EE (binary l d) (binary l d):=⟨rfl,rfl,fun _ _ h=>⟨rfl,rfl,fun _ _ g=>ee_fold _ _ _ _ g (ee_hd h)⟩⟩
theorem z1d {p:Pr Tree} (h:RelP EE p p):RelP EL (zwj p) (zwj p):=zzf h (fun _ _ g=>zzv g zxe)
theorem ee_half {t:AT} {i i':Nat} {r r':Tree} (h:EE r r'):EE (half t i r) (half t i' r'):=by
 unfold half;split
 ·exact zqb (zzv h zxe)
 ·split<;>exact zqb (zzv h zxe)
theorem rel_body (nt:NT) (d:Nat):RelP EL (body nt d) (body nt d):=by
 cases nt with
 |decls=>exact fun _ _ _=>zxq zxe (zzf (rel_decl d) (fun _ _ h=>⟨rfl,rfl,fun _ _ g=>zzv h g⟩))
 |parts=>exact fun _ _ _=>zxq zxe (zzf (rel_named 5) (fun _ _ h=>⟨rfl,rfl,fun _ _ g=>zzv h g⟩))
 |params=>exact fun _ _ _=>zxq (show RelP EL ((z1m 5).bind _) _ from zzf (rel_typed 5) (fun _ _ h=>⟨rfl,rfl,fun _ _ g=>zzv h g⟩)) (zzf (zx0 _) (fun _ _ _=>zxe))
 |stmts=>exact fun _ _ _=>zxq zxe ⟨rfl,rfl,fun _ _ h=>⟨rfl,rfl,fun _ _ g=>zzv (ee_hd h) g⟩⟩
 |stmt=>exact z1d (rel_stmt d)
 |branch=>exact z1d (rel_branch d)
 |binary l=>exact z1d (rel_binary l d)
 |tail l=>exact fun _ _ _=>zxq zxe ⟨rfl,rfl,fun _ _ h=>⟨rfl,rfl,fun _ _ g=>zzv (ee_half (ee_hd h)) g⟩⟩
 |unary=>exact z1d (rel_unary d)
 |fields=>exact fun _ _ _=>zxq (zzf z2u (fun _ _ h=>⟨rfl,rfl,fun _ _ g=>zzv (ee_bare h) g⟩)) zxe
 |args=>exact fun _ _ _=>zxq (show RelP EL ((expr d).bind _) _ from zzf (zv1 d) (fun _ _ h=>⟨rfl,rfl,fun _ _ g=>zzv h g⟩)) (zzf (zx0 _) (fun _ _ _=>zxe))
def RelR {α:Type} (E:α→α→Prop) (s:Nat) (r:Option (Res α)) (r':Option (Res α)):Prop:=match r,r' with
 |none,none=>True
 |some (.bad j e),some (.bad j' e')=>j'=j+s∧e'=e
 |some (.ok a j),some (.ok a' j')=>j'=j+s∧E a a'
 |_,_=>False
theorem rel_run {α:Type} {E:α→α→Prop} {T T':Nat→AT} {s:Nat} (hT:∀ k,T' (k+s)=T k) {c c':zxl} (hc:∀ nt d i,RelR EL s (c nt d i) (c' nt d (i+s))):∀ (p p':Pr α) (i:Nat),RelP E p p'→RelR E s (runW T c p i) (runW T' c' p' (i+s))
 | .ret a,.ret b,i,h=>⟨rfl,h⟩
 | .fail e,.fail e',i,h=>⟨rfl,Eq.symm h⟩
 | .peek k,.peek k',i,h=>by
   show RelR E s (runW T c (k i (T i)) i) (runW T' c' (k' (i+s) (T' (i+s))) (i+s))
   rw [hT i]
   exact rel_run hT hc _ _ i (h i (i+s) (T i))
 | .next p,.next p',i,h=>by
   show RelR E s (runW T c p (i+1)) (runW T' c' p' (i+s+1))
   rw [show i+s+1=i+1+s by omega]
   exact rel_run hT hc p p' (i+1) h
 | .call nt d k,.call nt' d' k',i,h=>by
   obtain ⟨rfl,rfl,h⟩:=h
   have g:=hc nt d i
   simp only [runW]
   cases h1:c nt d i with
   |none=>
    cases h2:c' nt d (i+s) with
    |none=>trivial
    |some r=>rw [h1,h2] at g;cases r<;>exact g.elim
   |some r=>
    cases h2:c' nt d (i+s) with
    |none=>rw [h1,h2] at g;cases r<;>exact g.elim
    |some r'=>
     rw [h1,h2] at g
     cases r with
     |bad j e=>cases r' with
      |bad j' e'=>exact g
      |ok a' j'=>exact g.elim
     |ok a j=>cases r' with
      |bad j' e'=>exact g.elim
      |ok a' j'=>
       obtain ⟨rfl,g⟩:=g
       exact rel_run hT hc _ _ j (h a a' g)
theorem P_shift {T T':Nat→AT} {s:Nat} (hT:∀ k,T' (k+s)=T k) (n:Nat):∀ nt d i,RelR EL s (P T n nt d i) (P T' n nt d (i+s)):=by
 induction n with
 |zero=>intro nt d i;trivial
 |succ n ih=>intro nt d i;exact rel_run hT ih _ _ i (rel_body nt d)
def Ends {α:Type} (p:Pr α):Prop:=(∃ a,p= .ret a)∨∃ e,p= .fail e
def closed:NT→Prop
 | .parts| .params| .stmts| .args=>True
 |_=>False
def Cl {α:Type} :Pr α→Prop
 | .ret _=>False
 | .fail _=>True
 | .peek k=>∀ i t,Cl (k i t)
 | .next p=>Cl p∨Ends p
 | .call nt _ k=>(∀ ts,Cl (k ts))∨(closed nt∧∀ ts,Ends (k ts))
theorem zkv {α β:Type} {p:Pr α} {f:α→Pr β} (h:∀ a,Cl (f a)):Cl (p.bind f):=by
 induction p with
 |ret a=>exact h a
 |fail e=>trivial
 |peek k ih=>exact fun i t=>ih i t
 |next p ih=>exact .inl ih
 |call nt d k ih=>exact .inl fun ts=>ih ts
theorem ends_bind {α β:Type} {p:Pr α} {f:α→Pr β} (h:Ends p) (g:∀ a,Ends (f a)):Ends (p.bind f):=by
 rcases h with ⟨a,rfl⟩|⟨e,rfl⟩
 ·exact g a
 ·exact .inr ⟨e,rfl⟩
theorem cl_left {α β:Type} {p:Pr α} {f:α→Pr β} (h:Cl p) (g:∀ a,Ends (f a)):Cl (p.bind f):=by
 induction p with
 |ret a=>exact h.elim
 |fail e=>trivial
 |peek k ih=>exact fun i t=>ih i t (h i t)
 |next p ih=>
  rcases h with h|h
  ·exact .inl (ih h)
  ·exact .inr (ends_bind h g)
 |call nt d k ih=>
  rcases h with h|h
  ·exact .inl fun ts=>ih ts (h ts)
  ·exact .inr ⟨h.1,fun ts=>ends_bind (h.2 ts) g⟩
theorem z04 {α:Type} {q:Prop} [Decidable q] {p r:Pr α} (h:Cl p) (g:Cl r):Cl (if q then p else r):=by split<;>assumption
theorem zqw {α:Type} (a:α):Ends (Pr.ret a):= .inl ⟨a,rfl⟩
theorem cl_need (s:List UInt8):Cl (need s):=fun _ _=>z04 (.inr (zqw _)) trivial
theorem cl_word:Cl word:=fun _ _=>z04 (.inr (zqw _)) trivial
theorem cl_named (op:Nat):Cl (named op):=zkv fun _=>cl_left (cl_need _) fun _=>zqw _
theorem cl_typ:Cl typ:=fun _ _=>z04 (.inr (zqw _)) (z04 (.inr (zqw _)) (zkv fun _=>cl_left cl_word fun _=>zqw _))
theorem cl_typed (op:Nat):Cl (z1m op):=zkv fun _=>cl_left cl_typ fun _=>zqw _
theorem cl_block (d:Nat):Cl (block d):=zkv fun _=> .inr ⟨trivial,fun _=>zqw _⟩
theorem cl_struct:Cl zjb:=zkv fun _=>zkv fun _=>zkv fun _=> .inr ⟨trivial,fun _=>zqw _⟩
theorem cl_function (d:Nat):Cl (zjk d):=zkv fun _=>zkv fun _=>zkv fun _=>cl_left (cl_block d) fun _=>zqw _
theorem cl_decl (d:Nat):Cl (decl d):=fun _ _=>z04 (.inl cl_struct) (z04 (.inl (cl_named 3)) (z04 (.inl (cl_function d)) trivial))
theorem cl_body {nt:NT} (h:closed nt) (d:Nat):Cl (body nt d):=by
 cases nt with
 |parts=>exact fun _ _=>z04 (.inr (zqw _)) (zkv fun _=> .inr ⟨trivial,fun _=>zqw _⟩)
 |params=>exact fun _ _=>z04 (.inl (show Cl ((z1m 5).bind _) from zkv fun _=> .inr ⟨trivial,fun _=>zqw _⟩)) (cl_left (cl_need _) fun _=>zqw _)
 |stmts=>exact fun _ _=>z04 (.inr (zqw _)) (.inl fun _=> .inr ⟨trivial,fun _=>zqw _⟩)
 |args=>exact fun _ _=>z04 (.inl (show Cl ((expr d).bind _) from zkv fun _=> .inr ⟨trivial,fun _=>zqw _⟩)) (cl_left (cl_need _) fun _=>zqw _)
 |_=>exact h.elim
structure CalleeL (T T':Nat→AT) (c c':zxl):Prop where
 mono:∀ nt d i ts j,c nt d i=some (.ok ts j)→i≤j
 step:∀ nt d i ts j,closed nt→c nt d i=some (.ok ts j)→i<j
 same:∀ nt d i ts j,c nt d i=some (.ok ts j)→(∀ k,k≤j→T' k=T k)→c' nt d i=some (.ok ts j)
 shut:∀ nt d i ts j,closed nt→c nt d i=some (.ok ts j)→(∀ k,k<j→T' k=T k)→c' nt d i=some (.ok ts j)
theorem ends_same {T T':Nat→AT} {c c':zxl} {α:Type} {p:Pr α} (h:Ends p) (i j:Nat) (a:α) (hr:runW T c p i=some (.ok a j)):runW T' c' p i=some (.ok a j):=by
 rcases h with ⟨b,rfl⟩|⟨e,rfl⟩
 ·exact hr
 ·cases hr
theorem ends_at {T:Nat→AT} {c:zxl} {α:Type} {p:Pr α} (h:Ends p) (i j:Nat) (a:α) (hr:runW T c p i=some (.ok a j)):j=i:=by
 rcases h with ⟨b,rfl⟩|⟨e,rfl⟩
 ·cases hr;rfl
 ·cases hr
section
variable {T T':Nat→AT} {c c':zxl} (L:CalleeL T T' c c')
include L
theorem z2s {α:Type} (p:Pr α):∀ (i j:Nat) (a:α),runW T c p i=some (.ok a j)→i≤j:=by
 induction p with
 |ret a=>intro i j a' h;cases h;exact Nat.le_refl _
 |fail e=>intro i j a' h;cases h
 |peek k ih=>intro i j a' h;exact ih _ _ _ _ _ h
 |next p ih=>intro i j a' h;have:=ih _ _ _ h;omega
 |call nt d k ih=>
  intro i j a' h
  simp only [runW] at h
  cases hc:c nt d i with
  |none=>rw [hc] at h;cases h
  |some r=>
   rw [hc] at h
   cases r with
   |bad j e=>cases h
   |ok ts j1=>have:=ih _ _ _ _ h;have:=L.mono _ _ _ _ _ hc;omega
theorem run_step {α:Type} (p:Pr α):∀ (i j:Nat) (a:α),Cl p→runW T c p i=some (.ok a j)→i<j:=by
 induction p with
 |ret a=>intro i j a' hc h;exact hc.elim
 |fail e=>intro i j a' hc h;cases h
 |peek k ih=>intro i j a' hc h;exact ih _ _ _ _ _ (hc _ _) h
 |next p ih=>intro i j a' hc h;have:=z2s L p _ _ _ h;omega
 |call nt d k ih=>
  intro i j a' hcl h
  simp only [runW] at h
  cases hc:c nt d i with
  |none=>rw [hc] at h;cases h
  |some r=>
   rw [hc] at h
   cases r with
   |bad j e=>cases h
   |ok ts j1=>
    rcases hcl with hcl|hcl
    ·have:=ih _ _ _ _ (hcl ts) h;have:=L.mono _ _ _ _ _ hc;omega
    ·have:=z2s L _ _ _ _ h;have:=L.step _ _ _ _ _ hcl.1 hc;omega
theorem run_same {α:Type} (p:Pr α):∀ (i j:Nat) (a:α),runW T c p i=some (.ok a j)→(∀ k,k≤j→T' k=T k)→runW T' c' p i=some (.ok a j):=by
 induction p with
 |ret a=>intro i j a' h _;exact h
 |fail e=>intro i j a' h;cases h
 |peek k ih=>
  intro i j a' h ht
  have:=z2s L (.peek k) _ _ _ h
  show runW T' c' (k i (T' i)) i=_
  rw [ht i this]
  exact ih _ _ _ _ _ h ht
 |next p ih=>intro i j a' h ht;exact ih _ _ _ h ht
 |call nt d k ih=>
  intro i j a' h ht
  simp only [runW] at h ⊢
  cases hc:c nt d i with
  |none=>rw [hc] at h;cases h
  |some r=>
   rw [hc] at h
   cases r with
   |bad j e=>cases h
   |ok ts j1=>
    have hj:=z2s L _ _ _ _ h
    rw [L.same _ _ _ _ _ hc fun k hk=>ht k (by omega)]
    exact ih _ _ _ _ h ht
theorem run_shut {α:Type} (p:Pr α):∀ (i j:Nat) (a:α),Cl p→runW T c p i=some (.ok a j)→(∀ k,k<j→T' k=T k)→runW T' c' p i=some (.ok a j):=by
 induction p with
 |ret a=>intro i j a' hcl;exact hcl.elim
 |fail e=>intro i j a' hcl h;cases h
 |peek k ih=>
  intro i j a' hcl h ht
  have:=run_step L (.peek k) _ _ _ hcl h
  show runW T' c' (k i (T' i)) i=_
  rw [ht i this]
  exact ih _ _ _ _ _ (hcl _ _) h ht
 |next p ih=>
  intro i j a' hcl h ht
  rcases hcl with hcl|hcl
  ·exact ih _ _ _ hcl h ht
  ·exact ends_same hcl _ _ _ h
 |call nt d k ih=>
  intro i j a' hcl h ht
  simp only [runW] at h ⊢
  cases hc:c nt d i with
  |none=>rw [hc] at h;cases h
  |some r=>
   rw [hc] at h
   cases r with
   |bad j e=>cases h
   |ok ts j1=>
    rcases hcl with hcl|hcl
    ·have hj:=run_step L _ _ _ _ (hcl ts) h
     rw [L.same _ _ _ _ _ hc fun k hk=>ht k (by omega)]
     exact ih _ _ _ _ (hcl ts) h ht
    ·have hj:=ends_at (hcl.2 ts) _ _ _ h
     rw [L.shut _ _ _ _ _ hcl.1 hc fun k hk=>ht k (by omega)]
     exact ends_same (hcl.2 ts) _ _ _ h
end
theorem P_local (T T':Nat→AT) (n:Nat):CalleeL T T' (P T n) (P T' n):=by
 induction n with
 |zero=>exact ⟨fun _ _ _ _ _ h=>(by cases h),fun _ _ _ _ _ _ h=>(by cases h),fun _ _ _ _ _ h=>(by cases h),fun _ _ _ _ _ _ h=>(by cases h)⟩
 |succ n ih=>exact ⟨fun nt d i ts j h=>z2s ih _ _ _ _ h,fun nt d i ts j hc h=>run_step ih _ _ _ _ (cl_body hc d) h,fun nt d i ts j h ht=>run_same ih _ _ _ _ h ht,fun nt d i ts j hc h ht=>run_shut ih _ _ _ _ (cl_body hc d) h ht⟩
theorem decls_two (T T':Nat→AT) (d m:Nat) (ks2:List Tree) (j2:Nat) (n:Nat):∀ (i j:Nat) (ks:List Tree),P T n .decls d i=some (.ok ks j)→(∀ k,k<j→T' k=T k)→(∀ k,k<j→(T k).kind≠0)→P T' m .decls d j=some (.ok ks2 j2)→P T' (n+m) .decls d i=some (.ok (ks++ks2) j2):=by
 induction n with
 |zero=>intro i j ks h;cases h
 |succ n ih=>
  intro i j ks h ht hk h2
  have hmono:=(P_local T T' (n+1)).mono _ _ _ _ _ h
  have hb:runW T (P T n) (body .decls d) i=some (.ok ks j):=h
  have hb2:(if (T i).kind=0 then (some (.ok [] i):Option (Res (List Tree))) else runW T (P T n) ((decl d).bind fun x=> .call .decls d fun xs=> .ret (x::xs)) i)=some (.ok ks j):=by
   rw [←hb]
   show _=runW T (P T n) (if (T i).kind=0 then _ else _) i
   split<;>rfl
  by_cases h0:(T i).kind=0
  ·rw [if_pos h0] at hb2
   have hb3:=Res.ok.inj (Option.some.inj hb2)
   obtain ⟨rfl,rfl⟩:=hb3
   exact z3l T' (by omega) _ _ _ _ h2
  ·rw [if_neg h0,zvl] at hb2
   cases hd:runW T (P T n) (decl d) i with
   |none=>rw [hd] at hb2;cases hb2
   |some r=>
    rw [hd] at hb2
    cases r with
    |bad j e=>cases hb2
    |ok x i1=>
     simp only [then_,runW] at hb2
     cases hc:P T n .decls d i1 with
     |none=>rw [hc] at hb2;cases hb2
     |some r=>
      rw [hc] at hb2
      cases r with
      |bad j e=>cases hb2
      |ok xs j1=>
       obtain ⟨rfl,rfl⟩:=Res.ok.inj (Option.some.inj hb2)
       have L:=P_local T T' n
       have hs:=run_step L _ _ _ _ (cl_decl d) hd
       have hj:=L.mono _ _ _ _ _ hc
       have hd':=run_shut L _ _ _ _ (cl_decl d) hd fun k hk=>ht k (by omega)
       have hd2:=z0m T' (show n≤n+m by omega) _ _ _ hd'
       have hr:=ih i1 j1 xs hc ht hk h2
       show P T' (n+1+m) .decls d i=_
       rw [show n+1+m=(n+m)+1 by omega]
       show runW T' (P T' (n+m)) (body .decls d) i=_
       show runW T' (P T' (n+m)) (if (T' i).kind=0 then _ else _) i=_
       rw [ht i (by omega),if_neg h0,zvl,hd2]
       simp only [then_,runW,hr,List.cons_append]
theorem run_app {f:UInt8→Bool} (h:f 10=false) (x b:List UInt8):runN f (x++10::b)=runN f x:=by
 induction x with
 |nil=>rw [List.nil_append,zji b h];rfl
 |cons c r ih=>
  cases hc:f c with
  |true=>rw [List.cons_append,zq5 _ hc,zq5 _ hc,ih]
  |false=>rw [List.cons_append,zji _ hc,zji _ hc]
theorem com_app (c:UInt8) (r b:List UInt8):comB ((c::r)++10::b)=comB (c::r):=by
 cases r with
 |nil=>simp [comB]
 |cons d r=>rfl
theorem take_app (f:UInt8→Bool) (x b:List UInt8):(x++10::b).take (runN f x)=x.take (runN f x):=List.take_append_of_le_length (z1x f x)
theorem drop_app (x b:List UInt8) {n:Nat} (h:n≤x.length):(x++10::b).drop n=x.drop n++10::b:=List.drop_append_of_le_length h
theorem after_app (x b:List UInt8):zv6 (x++10::b)=zv6 x:=by
 cases x with
 |nil=>show letB 10=false;decide
 |cons c r=>rfl
theorem long_app (c:UInt8) (r b:List UInt8):longB ((c::r)++10::b)=longB (c::r):=by
 cases r with
 |nil=>exact (long_no10 c).trans (long_no1 c).symm
 |cons d r=>rfl
theorem tok_app (c:UInt8) (r b:List UInt8):tokT ((c::r)++10::b)=tokT (c::r):=by
 cases h1:letB c with
 |true=>
  rw [List.cons_append,zwx _ h1,zwx _ h1,←List.cons_append]
  unfold zv7
  rw [run_app (by decide),take_app]
 |false=>
  cases h2:digB c with
  |true=>
   rw [List.cons_append,zvx _ h1 h2,zvx _ h1 h2,←List.cons_append]
   unfold numT
   rw [run_app (by decide),take_app,drop_app _ _ (z1x _ _),after_app]
  |false=>
   rw [List.cons_append,zjf _ h1 h2,zjf _ h1 h2,←List.cons_append]
   unfold zv9
   rw [long_app]
def R.thenR (r:R) (k:R):R:=match r with
 | .ok ts=>k.pre ts
 | .bad p e=> .bad p e
theorem thenR_pre (us:List Tok) (r k:R):(r.pre us).thenR k=(r.thenR k).pre us:=by
 cases r with
 |ok ts=>simp [R.pre,R.thenR];cases k<;>simp
 |bad p e=>rfl
theorem scan_app (b:List UInt8):∀ (n:Nat) (x:List UInt8) (p:Nat),x.length≤n→zvk (x++10::b) p=(zvk x p).thenR (zvk b (p+x.length+1)):=by
 intro n
 induction n with
 |zero=>
  intro x p h
  have:x= []:=List.length_eq_zero_iff.1 (by omega)
  subst this
  rw [List.nil_append,zjz p (by decide)]
  exact (R.pre_nil _).symm
 |succ n ih=>
  intro x p h
  cases x with
  |nil=>
   rw [List.nil_append,zjz p (by decide)]
   exact (R.pre_nil _).symm
  |cons c r=>
   simp only [List.length_cons] at h
   cases hb:blkB c with
   |true=>
    rw [List.cons_append,zjz p hb,zjz p hb,ih r (p+1) (by omega),List.length_cons,show p+1+r.length+1=p+(r.length+1)+1 by omega]
   |false=>
    cases hc:comB (c::r) with
    |true=>
     have hn:zqs c=true:=by have:=z1l hc;simp [zqs,this]
     have hrn:=zq5 r hn
     have hrl:=z1x zqs (c::r)
     have hca:comB (c::(r++10::b))=true:=(com_app c r b).trans hc
     rw [List.cons_append,z0k p hb hca,z0k p hb hc,←List.cons_append,run_app (by decide),drop_app _ _ hrl]
     rw [ih _ _ (by rw [List.length_drop,List.length_cons];omega),List.length_drop]
     rw [show p+runN zqs (c::r)+((c::r).length - runN zqs (c::r))+1=p+(c::r).length+1 by omega]
    |false=>
     have hca:comB (c::(r++10::b))=false:=(com_app c r b).trans hc
     have hta:tokT (c::(r++10::b))=tokT (c::r):=tok_app c r b
     by_cases he:(tokT (c::r)).err=0
     ·have hln:=tok_len he
      rw [List.cons_append,zwk p hb hca (by rw [hta];exact he),zwk p hb hc he,hta,←List.cons_append,drop_app _ _ hln.2,List.take_append_of_le_length hln.2]
      rw [thenR_pre,ih _ _ (by rw [List.length_drop,List.length_cons];omega),List.length_drop]
      rw [show p+(tokT (c::r)).len+((c::r).length - (tokT (c::r)).len)+1=p+(c::r).length+1 by omega]
     ·rw [List.cons_append,z0l p hb hca (by rw [hta];exact he),z0l p hb hc he,hta];rfl
def z0q (d:Nat) (t:Tok):Tok:=⟨t.kind,t.text,t.place+d⟩
def R.shift (d:Nat):R→R
 | .ok ts=> .ok (ts.map (z0q d))
 | .bad p e=> .bad (p+d) e
theorem shift_pre (d:Nat) (us:List Tok) (r:R):(r.pre us).shift d=(r.shift d).pre (us.map (z0q d)):=by
 cases r<;>simp [R.pre,R.shift]
theorem scan_shift (d:Nat):∀ (n:Nat) (x:List UInt8) (p:Nat),x.length≤n→zvk x (p+d)=(zvk x p).shift d:=by
 intro n
 induction n with
 |zero=>
  intro x p h
  have:x= []:=List.length_eq_zero_iff.1 (by omega)
  subst this
  rfl
 |succ n ih=>
  intro x p h
  cases x with
  |nil=>rfl
  |cons c r=>
   simp only [List.length_cons] at h
   cases hb:blkB c with
   |true=>rw [zjz _ hb,zjz _ hb,show p+d+1=p+1+d by omega,ih r _ (by omega)]
   |false=>
    cases hc:comB (c::r) with
    |true=>
     have hn:zqs c=true:=by have:=z1l hc;simp [zqs,this]
     have hrn:=zq5 r hn
     rw [z0k _ hb hc,z0k _ hb hc,show p+d+runN zqs (c::r)=p+runN zqs (c::r)+d by omega,ih _ _ (by rw [List.length_drop,List.length_cons];omega)]
    |false=>
     by_cases he:(tokT (c::r)).err=0
     ·have hln:=tok_len he
      rw [zwk _ hb hc he,zwk _ hb hc he,show p+d+(tokT (c::r)).len=p+(tokT (c::r)).len+d by omega,ih _ _ (by rw [List.length_drop,List.length_cons];omega),shift_pre];rfl
     ·rw [z0l _ hb hc he,z0l _ hb hc he];rfl
theorem scan_two (a b:List UInt8):sc (a++10::b) 0=(sc a 0).thenR ((sc b 0).shift (a.length+1)):=by
 unfold sc
 rw [List.drop_zero,List.drop_zero,List.drop_zero,scan_app b a.length a 0 (Nat.le_refl _),show 0+a.length+1=0+(a.length+1) by omega,scan_shift (a.length+1) b.length b 0 (Nat.le_refl _)]
theorem decls_end (T:Nat→AT) (d n:Nat):∀ (i j:Nat) (ks:List Tree),P T n .decls d i=some (.ok ks j)→(T j).kind=0:=by
 induction n with
 |zero=>intro i j ks h;cases h
 |succ n ih=>
  intro i j ks h
  have hb:runW T (P T n) (body .decls d) i=some (.ok ks j):=h
  have hb2:(if (T i).kind=0 then (some (.ok [] i):Option (Res (List Tree))) else runW T (P T n) ((decl d).bind fun x=> .call .decls d fun xs=> .ret (x::xs)) i)=some (.ok ks j):=by
   rw [←hb]
   show _=runW T (P T n) (if (T i).kind=0 then _ else _) i
   split<;>rfl
  by_cases h0:(T i).kind=0
  ·rw [if_pos h0] at hb2
   obtain ⟨rfl,rfl⟩:=Res.ok.inj (Option.some.inj hb2)
   exact h0
  ·rw [if_neg h0,zvl] at hb2
   cases hd:runW T (P T n) (decl d) i with
   |none=>rw [hd] at hb2;cases hb2
   |some r=>
    rw [hd] at hb2
    cases r with
    |bad j e=>cases hb2
    |ok x i1=>
     simp only [then_,runW] at hb2
     cases hc:P T n .decls d i1 with
     |none=>rw [hc] at hb2;cases hb2
     |some r=>
      rw [hc] at hb2
      cases r with
      |bad j e=>cases hb2
      |ok xs j1=>
       obtain ⟨rfl,rfl⟩:=Res.ok.inj (Option.some.inj hb2)
       exact ih _ _ _ hc
theorem parse_end {l:List UInt8} {ts:List Tok} {ks:List Tree} (h:zxt l= .ok ts ks):zjp l= .ok ts∧P (Tf ts) (z0f ts) .decls 0 0=some (.ok ks ts.length):=by
 unfold zxt at h
 cases hs:zjp l with
 |bad p e=>rw [hs] at h;cases h
 |ok ts'=>
  rw [hs] at h
  have hT:=zv8 hs
  cases hp:P (Tf ts') (z0f ts') .decls 0 0 with
  |none=>simp only [hp,treeR] at h;cases h
  |some r=>
   simp only [hp,treeR] at h
   cases r with
   |bad j e=>cases h
   |ok ks' j=>
    obtain ⟨rfl,rfl⟩:ts'=ts∧ks'=ks:=by injection h with a b;exact ⟨a,b⟩
    have hj:=P_prog hT.sent (nt:= .decls) trivial (Nat.zero_le _) hp
    have hk:=decls_end _ _ _ _ _ _ hp
    have hle:ts'.length≤j:=by
     rcases Nat.lt_or_ge j ts'.length with h|h
     ·exact absurd hk (hT.sent.some j h)
     ·exact h
    have:j=ts'.length:=by omega
    subst this
    exact ⟨rfl,hp⟩
theorem scanR_le {l:List UInt8} {ts:List Tok} (h:zjp l= .ok ts):sc l 0= .ok ts∧l.length≤4096:=by
 unfold zjp at h
 split at h
 ·cases h
 ·exact ⟨h,by omega⟩
theorem Tf_left {a b:List Tok} {k:Nat} (h:k<a.length):Tf (a++b) k=Tf a k:=by unfold Tf;rw [List.getElem?_append_left h]
theorem Tf_right (a b:List Tok) (d k:Nat):Tf (a++b.map (z0q d)) (k+a.length)=Tf b k:=by
 unfold Tf
 rw [List.getElem?_append_right (by omega),Nat.add_sub_cancel,List.getElem?_map]
 cases b[k]? <;>rfl
theorem size_er (N:Nat):∀ t:Tree,zxs t≤N→zxs (er t)=zxs t:=by
 induction N with
 |zero=>intro t h;have:=z0j t;omega
 |succ N ih=>
  intro t h
  cases t with
  |mk o s ty n p ks=>
   rw [er_mk,zxb,zxb]
   rw [zxb] at h
   congr 1
   have:∀ l:List Tree,zxz l≤N→zxz (l.map er)=zxz l:=by
    intro l
    induction l with
    |nil=>intro _;rfl
    |cons a r ihr=>
     intro hl
     rw [zzi] at hl
     rw [List.map_cons,zzi,zzi,ih a (by omega),ihr (by omega)]
   exact this ks (by omega)
theorem size_ee {a b:Tree} (h:EE a b):zxs a=zxs b:=by
 rw [←size_er _ a (Nat.le_refl _),←size_er _ b (Nat.le_refl _),show er a=er b from h]
theorem sizeL_el:∀ {a b:List Tree},EL a b→zxz a=zxz b
 | [],[],_=>rfl
 | [],_::_,h=>by cases h
 |_::_,[],h=>by cases h
 |x::a,y::b,h=>by rw [zzi,zzi,size_ee (List.cons.inj h).1,sizeL_el (List.cons.inj h).2]
theorem parse_two {a b:List UInt8} {ta tb:List Tok} {ka kb:List Tree} (ha:zxt a= .ok ta ka) (hb:zxt b= .ok tb kb) (hl:a.length+b.length+1≤4096):
 ∃ tc kb',zxt (a++10::b)= .ok tc (ka++kb')∧EL kb kb':=by
 obtain ⟨sa,pa⟩:=parse_end ha
 obtain ⟨sb,pb⟩:=parse_end hb
 have hTa:=zv8 sa
 have h2:zjp (a++10::b)= .ok (ta++tb.map (z0q (a.length+1))):=by
  unfold zjp
  rw [if_neg (by simp;omega),scan_two,(scanR_le sa).1,(scanR_le sb).1];rfl
 have hTc:=zv8 h2
 obtain ⟨tc,htc⟩:∃ tc,ta++tb.map (z0q (a.length+1))=tc:=⟨_,rfl⟩
 have hR:∀ k,Tf tc (k+ta.length)=Tf tb k:=fun k=>by rw [←htc];exact Tf_right _ _ _ _
 have hL:∀ k,k<ta.length→Tf tc k=Tf ta k:=fun k hk=>by rw [←htc];exact Tf_left hk
 have hlen:tc.length=ta.length+tb.length:=by rw [←htc];simp
 rw [htc] at h2 hTc
 have hs:=P_shift hR (z0f tb) .decls 0 0
 rw [pb,Nat.zero_add] at hs
 cases hq:P (Tf tc) (z0f tb) .decls 0 ta.length with
 |none=>rw [hq] at hs;exact hs.elim
 |some r=>
  rw [hq] at hs
  cases r with
  |bad j e=>exact hs.elim
  |ok kb' j=>
   obtain ⟨-,he⟩:=hs
   have hd:=decls_two (Tf ta) (Tf tc) 0 (z0f tb) kb' j (z0f ta) 0 ta.length ka pa hL (fun k hk=>hTa.sent.some k hk) hq
   obtain ⟨rr,hp,-⟩:=z2i hTc.sent (z0f tc) .decls 0 0 trivial (Nat.zero_le _) (by show 4*(tc.length - 0)+0<4*tc.length+1;omega)
   have h1:=P_one _ hp hd
   subst h1
   refine ⟨tc,kb',?_,he⟩
   unfold zxt
   rw [h2]
   simp only [hp,treeR]
end Go.Proofs.YtkahbhfbgdbnfaaGreatDoor
