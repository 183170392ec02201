import PyProof.Rows.All
import Wide.All
import OpenK.AllK
import Wide.FinOn
import PyProof.EqAt
import PyProof.EqKinds
import PyProof.TupleCall
import KE.LcSums
import KE.KSortTup
import PyProof.NeKinds
import PyProof.Rows.SetFrom
import PyProof.WalksEnum
import KE.KLam
import KE.KRevSl
import KE.KDictList
import PyProof.StrLawsTight
import PyProof.Conv_int_bool
import PyProof.DictItems
import KE.KPairComp
import KE.KItemsList
import PyProof.TupleOfSeq
import PyProof.Rows.Range3
import KE.KDictOf
import Lean
import KE.KTryMore
import PyProof.ExcArgsOwn
import PyProof.ExcBaseAll.ValueError
import PyProof.ExcClass2
import PyProof.ExcInit
import PyProof.InstStore
import PyProof.Rows.StrJoinMade
import PyProof.RulesDel
import PyProof.RulesTry
import PyProof.StationsW
import PySem.Challenge.RW_facestead_k21_plain_rows
set_option Elab.async false
set_option bootstrap.genMatcherCode false
noncomputable section
set_option linter.all false
set_option maxRecDepth 100000
namespace L2
open PySem PySem.Spec PyProof.Rows
abbrev Key:=Sum Int Str
def mH:Key->Value->Bool
 | .inl k,v=>Value.isInt k v
 | .inr x,v=>Value.isStrOf x v
def Yf (w:World):Key->Int
 | .inl k=>hashInt k
 | .inr x=>hashStr w x
theorem jo:∀ {k:Key} {v:Value},mH k v=true->(∃ i t,k=Sum.inl i/\v=Value.int i t)\/(∃ x t,k=Sum.inr x/\v=Value.str x t)
 | .inl i,v,h=>by
  obtain ⟨t,e⟩:=Value.isInt_shape (k:=i) (v:=v) h;exact .inl ⟨i,t,rfl,e⟩
 | .inr x,v,h=>by
  obtain ⟨t,e⟩:=Value.isStrOf_shape (x:=x) (v:=v) h;exact .inr ⟨x,t,rfl,e⟩
theorem tf (i:Int)(t:Tok):mH (.inl i) (.int i t)=true:=by simp [mH,Value.isInt]
theorem tm (x:Str)(t:Tok):mH (.inr x) (.str x t)=true:=by simp [mH,Value.isStrOf]
theorem WS (a b:Int):decide ((Sum.inl a:Key)=Sum.inl b)=(a == b):=by
 by_cases e:a=b
 ·subst e;simp
 ·have h:¬ (Sum.inl a:Key)=Sum.inl b:=λq=>e (Sum.inl.inj q)
  rw [decide_eq_false h];exact (beq_eq_false_iff_ne.mpr e).symm
theorem WT (a b:Str):decide ((Sum.inr a:Key)=Sum.inr b)=decide (a=b):=by
 by_cases e:a=b
 ·subst e;simp
 ·have h:¬ (Sum.inr a:Key)=Sum.inr b:=λq=>e (Sum.inr.inj q)
  rw [decide_eq_false h,decide_eq_false e]
theorem WU (a:Int)(b:Str):decide ((Sum.inl a:Key)=Sum.inr b)=false:=decide_eq_false (λq=>nomatch q)
theorem WV (a:Str)(b:Int):decide ((Sum.inr a:Key)=Sum.inl b)=false:=decide_eq_false (λq=>nomatch q)
def zY (prog:Program)(w:World):PySem.KeyKind prog w Key where
 is:=mH
 hash:=Yf w
 inj:=λv a b ha hb=>by
  rcases jo ha with ⟨i,t,rfl,rfl⟩ | ⟨x,t,rfl,rfl⟩
  ·rcases jo hb with ⟨j,u,rfl,e⟩ | ⟨y,u,rfl,e⟩
   ·injection e with e1 _;rw [e1]
   ·exact nomatch e
  ·rcases jo hb with ⟨j,u,rfl,e⟩ | ⟨y,u,rfl,e⟩
   ·exact nomatch e
   ·injection e with e1 _;rw [e1]
 byValue:=λk v h=>by
  rcases jo h with ⟨i,t,rfl,rfl⟩ | ⟨x,t,rfl,rfl⟩<;>rfl
 pyHash:=λhv h=>by
  rcases jo hv with ⟨i,t,rfl,rfl⟩ | ⟨x,t,rfl,rfl⟩
  ·exact wpAny_pyHash_int h
  ·exact wpAny_pyHash_str h
 eqBool:=λhu hv h=>by
  rcases jo hu with ⟨i,t,rfl,rfl⟩ | ⟨x,t,rfl,rfl⟩
  ·rcases jo hv with ⟨j,u,rfl,rfl⟩ | ⟨y,u,rfl,rfl⟩
   ·rw [WS] at h;exact wpAny_eqBool_int h
   ·rw [WU] at h;exact SeqAt.EqAt.int_str i t y u _ _ _ _ h
  ·rcases jo hv with ⟨j,u,rfl,rfl⟩ | ⟨y,u,rfl,rfl⟩
   ·rw [WV] at h;exact SeqAt.EqAt.str_int x t j u _ _ _ _ h
   ·rw [WT] at h;exact wpAny_eqBool_str h
 «strs» := λk x t v h=>by
  rcases jo h with ⟨i,u,rfl,e⟩ | ⟨y,u,rfl,e⟩
  ·exact nomatch e
  ·injection e with e1 _
   subst e1;cases v<;>rfl
theorem eh (prog:Program)(w:World)(i:Int)(t:Tok):(zY prog w).is (.inl i) (.int i t)=true:=tf i t
theorem vn (prog:Program)(w:World)(x:Str)(t:Tok):(zY prog w).is (.inr x) (.str x t)=true:=tm x t
inductive V where
 | non | bl (b:Bool) | int (i:Int) | str (x:Str) | byt (b:Array UInt8) | flt (b:UInt64) | ref (a:Addr) | ty (n:String)
 deriving DecidableEq
def RelV:V->Value->Prop
 | .non,u=>u=Value.none
 | .bl b,u=>u=Value.bool b
 | .int i,u=>∃ t,u=Value.int i t
 | .str x,u=>∃ t,u=Value.str x t
 | .byt b,u=>∃ t,u=Value.bytes b t
 | .flt b,u=>∃ t,u=Value.float b t
 | .ref a,u=>u=Value.ref a
 | .ty n,u=>u=Value.type n
abbrev zF:List V->List Value->Prop:=Paired RelV
theorem zF.length {xs:List V}{us:List Value}(r:zF xs us):xs.length=us.length:=Paired.length r
theorem zF.get:∀ {xs:List V} {us:List Value} {i:Nat} {x:V},zF xs us->xs[i]? = some x->∃ u,us[i]? = some u/\RelV x u
 | _,_,_,_,.nil,e=>by simp at e
 | _,_,0,_,.cons r _,e=>by simp at e;subst e;exact ⟨_,rfl,r⟩
 | _,_,i + 1,x,.cons _ t,e=>by
  obtain ⟨u,h1,h2⟩:=zF.get (i:=i) (x:=x) t (by simpa using e);exact ⟨u,by simpa using h1,h2⟩
theorem zF.set {x:V}{u:Value}(r:RelV x u):∀ {xs:List V} {us:List Value} (i:Nat),zF xs us->zF (xs.set i x) (us.set i u)
 | _,_,_,.nil=>.nil
 | _,_,0,.cons _ t=>.cons r t
 | _,_,i + 1,.cons q t=>.cons q (zF.set r i t)
theorem zF.append:∀ {xs ys:List V} {us ws:List Value},zF xs us->zF ys ws->zF (xs ++ ys) (us ++ ws)
 | _,_,_,_,.nil,s=>s
 | _,_,_,_,.cons r t,s=>.cons r (zF.append t s)
theorem zF.take:∀ {xs:List V} {us:List Value} (n:Nat),zF xs us->zF (xs.take n) (us.take n)
 | _,_,0,_=>.nil
 | _,_,_ + 1,.nil=>.nil
 | _,_,n + 1,.cons r t=>.cons r (zF.take n t)
theorem zF.drop:∀ {xs:List V} {us:List Value} (n:Nat),zF xs us->zF (xs.drop n) (us.drop n)
 | _,_,0,r=>r
 | _,_,_ + 1,.nil=>.nil
 | _,_,n + 1,.cons _ t=>zF.drop n t
def qe:Option V->Option Value->Prop
 | some v,some u=>RelV v u
 | none,none=>True
 | _,_=>False
def KV {κ:Type} : List (κ×V)->List (κ×Value)->Prop:=Paired λ(p:κ×V) (q:κ×Value)=>p.1=q.1/\RelV p.2 q.2
def kV:Key->V
 | .inl i=>.int i
 | .inr x=>.str x
inductive HO where
  | lst (xs:List V)
  | tup (xs:List V)
  | dK (kvs:List (Key×V)) | dT (kvs:List (List Key×V))
  | set (S:Int->Bool) (n:Nat)
  | ins (C dx:Addr) (fs:List (Str×V))
  | own (x:Addr)
  | xd (fs:List (Str×V))
  | met (f x:Addr)
  | rng (lo hi:Int)
  | frz (o:Obj) (u:HO)
  | tbl (ps:Array Value)
 | tab (q:Str)
 | xob (C d:Addr)
  | ext (φ:Heap->Prop)
abbrev Hp:=Addr->Option HO
def HO.isTab:HO->Bool
 | .tab _=>true
 | _=>false
def Q9:Str := "Face.pieces.<locals>.<lambda>"
def tabP:Addr:=533
def cx:HO:=.frz { cls:=.none,data:=.plain } (.tab Q9)
def zN (H:Hp)(a:Addr)(o:HO):Hp:=λb=>if b=a then some o else H b
theorem zi {H:Hp}{a:Addr}{o:HO} : zN H a o a=some o:=by unfold zN;rw [if_pos rfl]
theorem z8 {H:Hp}{a b:Addr}{o:HO}(h:b≠a):zN H a o b=H b:=by unfold zN;rw [if_neg h]
theorem ut {H:Hp}{a b:Addr}{o u:HO}(h:H a=some o)(h':H b=some u)(d:o≠u):a≠b:=by
 intro e;subst e;rw [h] at h';exact d (Option.some.inj h')
theorem zD {H:Hp}{a b:Addr}{o:HO}(h:H a=some o)(h':H b=none):a≠b:=by
 intro e;subst e;rw [h] at h';cases h'
section
variable (P:Program)(w:World)
def j7 (H:Hp)(h:Heap)(a:Addr):HO->Prop
 | .lst xs=>xs.length<=sizeLine/\∃ (its:List Value) (n:Nat),zF xs its/\h.get? a=some { cls:=.type "list",data:=.seq its.toArray n }
 | .tup xs=>xs.length<=sizeLine/\∃ its:List Value,zF xs its/\IsTup h a its.toArray
 | .dK kvs=>kvs.length<=sizeLine/\(a == sysModules)=false/\∃ vs,KV kvs vs/\h.DictOf (zY P w) a vs
 | .dT kvs=>kvs.length<=sizeLine/\(a == sysModules)=false/\∃ xs:List (List Key×Addr×Value),
   Paired (λ(p:List Key×V) (q:List Key×Addr×Value)=>p.1=q.1/\H q.2.1=some (.tup (p.1.map kV))/\RelV p.2 q.2.2) kvs xs /\
   ∃ o es ep,h.get? a=some o/\o.ExactDict/\o.data=.dict es ep/\es.toList=xs.map (entryOfKey (tupleKind (zY P w)))/\(xs.map (·.1)).Nodup
 | .set S n=>h.SetOf (intKind P w) a S n
 | .ins C dx fs=>H dx=some (.own a)/\fs.length<=1000/\dx≠a/\h.get? a=some (W.instObj C dx) /\
   ∃ mA,h.Ns1 dx mA/\(∀ f,qe (fs.lookup f) (mA f))/\PySem.Within mA (fs.map (·.1))
 | .own _=>∃ o,h.get? a=some o
 | .xd fs=>∃ mA,h.Ns1 a mA/\∀ f,qe (fs.lookup f) (mA f)
 | .rng lo hi=>∃ t u v,h.get? a=some { cls:=.type "range",data:=.fields #[.int lo t,.int hi u,.int 1 v] }
 | .frz o u=>(u.isTab=false->h.get? a=some o)/\j7 H h a u
 | .tab q=>∃ ps,h.get? a=some { cls:=.none,data:=.fields ps } /\ TriplesOk ps.toList/\∀ pos cv,codeAmong pos ps.toList=some cv->∃ c o vs t,cv=.ref c/\H c=some (.own a)/\h.get? c=some o/\o.data=.fields vs/\vs[1]? = some (.str q t)
 | .tbl ps=>h.get? a=some { cls:=.none,data:=.fields ps }
 | .met f x=>h.get? a=some (W.methodObj (.ref f) (.ref x))
 | .xob C d=>∃ oe vs,h.get? a=some oe/\oe.cls=.ref C/\oe.dict=some d/\oe.data=.fields vs/\1 < vs.size
 | .ext φ=>φ h/\(∃ o,h.get? a=some o)/\∀ h1 h2:Heap,φ h1->(∀ o,h1.get? a=some o->h2.get? a=some o)->φ h2
def qG (H:Hp)(h:Heap):Prop := ∀ a o,H a=some o->j7 P w H h a o
end
section
variable {P:Program}{w:World}{H H':Hp}{h h':Heap}{a:Addr}{o:HO}
theorem j7.lt (x:j7 P w H h a o):a < h.objs.size:=by
 induction o with
 | lst xs=>obtain ⟨_,_,_,_,e⟩:=x;exact Heap.lt_size e
 | tup xs=>obtain ⟨_,_,_,p⟩:=x;exact p.lt
 | dK kvs=>obtain ⟨_,_,_,_,o,_,_,e,_⟩:=x;exact Heap.lt_size e
 | dT kvs=>obtain ⟨_,_,_,_,o,_,_,e,_⟩:=x;exact Heap.lt_size e
 | set S n=>obtain ⟨o,_,_,_,e,_⟩:=x;exact Heap.lt_size e
 | ins C dx fs=>obtain ⟨_,_,_,e,_⟩:=x;exact Heap.lt_size e
 | own y=>obtain ⟨_,e⟩:=x;exact Heap.lt_size e
 | xd fs=>obtain ⟨_,⟨_,_,_,e,_⟩,_⟩:=x;exact Heap.lt_size e
 | rng lo hi=>obtain ⟨_,_,_,e⟩:=x;exact Heap.lt_size e
 | frz ob u ih=>exact ih x.2
 | tab q=>obtain ⟨_,e,_⟩:=x;exact Heap.lt_size e
 | tbl ps=>exact Heap.lt_size (show h.get? a=some _ from x)
 | met f y=>exact Heap.lt_size (show h.get? a=some _ from x)
 | xob C d=>obtain ⟨_,_,e,_⟩:=x;exact Heap.lt_size e
 | ext φ=>obtain ⟨_,⟨_,e⟩,_⟩:=x;exact Heap.lt_size e
theorem Paired.mapP {α β:Type}{F G:α->β->Prop} : ∀ {l₁:List α} {l₂:List β},Paired F l₁ l₂->(∀ a b,F a b->G a b)->Paired G l₁ l₂
 | _,_,.nil,_=>.nil
 | _,_,.cons r t,f=>.cons (f _ _ r) (Paired.mapP t f)
theorem j7.stay (x:j7 P w H h a o)(k:∀ b u,(b=a\/H b=some (.own a))->h.get? b=some u->h'.get? b=some u)
  (ho:∀ b,H b=some (.own a)->H' b=some (.own a)) (ht:∀ b xs,H b=some (.tup xs)->H' b=some (.tup xs)):j7 P w H' h' a o:=by
 induction o with
 | lst xs=>obtain ⟨z,its,n,r,e⟩:=x;exact ⟨z,its,n,r,k _ _ (.inl rfl) e⟩
 | tup xs=>obtain ⟨z,its,r,ob,e,c⟩:=x;exact ⟨z,its,r,ob,k _ _ (.inl rfl) e,c⟩
 | dK kvs=>obtain ⟨z,y,vs,r,ob,es,ep,e,c⟩:=x;exact ⟨z,y,vs,r,ob,es,ep,k _ _ (.inl rfl) e,c⟩
 | dT kvs =>
  obtain ⟨z,y,xs,r,ob,es,ep,e,c⟩:=x;exact ⟨z,y,xs,Paired.mapP r λp q z=>⟨z.1,ht _ _ z.2.1,z.2.2⟩,ob,es,ep,k _ _ (.inl rfl) e,c⟩
 | set S n=>obtain ⟨ob,es,ep,t,e,c⟩:=x;exact ⟨ob,es,ep,t,k _ _ (.inl rfl) e,c⟩
 | ins C dx fs =>
  obtain ⟨d,z,ne,e,mA,⟨od,es,ep,e2,c⟩,r⟩:=x;exact ⟨ho _ d,z,ne,k _ _ (.inl rfl) e,mA,⟨od,es,ep,k _ _ (.inr d) e2,c⟩,r⟩
 | own y=>obtain ⟨ob,e⟩:=x;exact ⟨ob,k _ _ (.inl rfl) e⟩
 | xd fs=>obtain ⟨mA,⟨od,es,ep,e,c⟩,r⟩:=x;exact ⟨mA,⟨od,es,ep,k _ _ (.inl rfl) e,c⟩,r⟩
 | rng lo hi=>obtain ⟨t,u,v,e⟩:=x;exact ⟨t,u,v,k _ _ (.inl rfl) e⟩
 | frz ob u ih=>obtain ⟨e,q⟩:=x;exact ⟨λz=>k _ _ (.inl rfl) (e z),ih q⟩
 | tab q =>
  obtain ⟨ps,e,t,f⟩:=x;exact ⟨ps,k _ _ (.inl rfl) e,t,λpos cv z=>let ⟨c,o,vs,tt,h1,h2,h3,h4⟩:=f pos cv z;⟨c,o,vs,tt,h1,ho _ h2,k _ _ (.inr h2) h3,h4⟩⟩
 | tbl ps =>
  have e:h.get? a=some { cls:=.none,data:=.fields ps }:=x;show h'.get? a=some { cls:=.none,data:=.fields ps };exact k a _ (.inl rfl) e
 | met f y =>
  have e:h.get? a=some (W.methodObj (.ref f) (.ref y)):=x;show h'.get? a=some (W.methodObj (.ref f) (.ref y));exact k a _ (.inl rfl) e
 | xob C d=>obtain ⟨oe,vs,e,c⟩:=x;exact ⟨oe,vs,k _ _ (.inl rfl) e,c⟩
 | ext φ=>obtain ⟨p,⟨o,e⟩,st⟩:=x;exact ⟨st _ _ p λo q=>k _ _ (.inl rfl) q,⟨o,k _ _ (.inl rfl) e⟩,st⟩
theorem qG.lt (x:qG P w H h)(e:H a=some o):a < h.objs.size:=(x a o e).lt
theorem qG.fresh (x:qG P w H h)(e:h.objs.size<=a):H a=none:=by
 cases q:H a with
 | none=>rfl
 | some u=>exact absurd (Nat.lt_of_lt_of_le (x.lt q) e) (Nat.lt_irrefl _)
theorem qG.kept (x:qG P w H h)(k:∀ b u,h.get? b=some u->h'.get? b=some u):qG P w H h':=λa o e =>
 (x a o e).stay (λb u _ q=>k b u q) (λ_ q=>q) λ_ _ q=>q
theorem qG.laid (x:qG P w H h)(k:∀ b u,h.get? b=some u->h'.get? b=some u)(hp:h.objs.size<=a)(new:j7 P w (zN H a o) h' a o):qG P w (zN H a o) h':=λb u e=>by
 have hn:=x.fresh hp
 by_cases hb:b=a
 ·subst hb;rw [zi] at e;cases e;exact new
 ·rw [z8 hb] at e
  exact (x b u e).stay (λc v _ q=>k c v q) (λc q=>by rw [z8 (zD q hn)];exact q) λc xs q=>by rw [z8 (zD q hn)];exact q
end
def Rd (H:Hp)(a:Addr)(u:HO):Prop:=H a=some u\/∃ o,H a=some (.frz o u)
theorem Rd.ok {P:Program}{w:World}{H:Hp}{h:Heap}{a:Addr}{u:HO}(r:Rd H a u)(x:qG P w H h):j7 P w H h a u:=by
 rcases r with r | ⟨o,r⟩
 ·exact x a u r
 ·obtain ⟨_,q⟩:=x a _ r
  exact q
def Qa:Option HO->Prop
 | some (.lst _)=>True
 | some (.dK _)=>True
 | some (.dT _)=>True
 | some (.set _ _)=>True
 | some (.ins _ _ _)=>True
 | some (.ext _)=>True
 | _=>False
section
variable {P:Program}{w:World}{H:Hp}{h h':Heap}{x e:Addr}{o':HO}
theorem qG.write (ok:qG P w H h)(mu:Qa (H x))(he:e=x\/H e=some (.own x))(k:∀ b u,b≠e->h.get? b=some u->h'.get? b=some u)(heo:∃ u,h'.get? e=some u)
  (new:j7 P w (zN H x o') h' x o'):qG P w (zN H x o') h':=λb u q=>by
 have nown:∀ c y,H c=some (.own y)->c≠x:=λc y r z=>by subst z;rw [r] at mu;exact mu
 have ntup:∀ c xs,H c=some (.tup xs)->c≠x:=λc xs r z=>by subst z;rw [r] at mu;exact mu
 by_cases hb:b=x
 ·subst hb;rw [zi] at q;cases q;exact new
 ·rw [z8 hb] at q
  by_cases hbe:b=e
  ·have q':H b=some (.own x):=by
    rcases he with z | z
    ·exact absurd (hbe.trans z) hb
    ·rw [hbe];exact z
   rw [q] at q';cases q';obtain ⟨v,hv⟩:=heo;exact ⟨v,by rw [hbe];exact hv⟩
  ·refine (ok b u q).stay (λc v hc r=>k c v ?_ r) (λc r=>by rw [z8 (nown c b r)];exact r) λc xs r=>by rw [z8 (ntup c xs r)];exact r
   rcases hc with rfl | hc
   ·exact hbe
   ·rintro rfl
    rcases he with z | z
    ·exact nown c b hc z
    ·rw [hc] at z;cases z;exact hb rfl
end
structure Un (fs ex:List Addr) (H H':Hp) (h h':Heap):Prop where
 keep:∀ b o,h.get? b=some o->H b=none->b∉fs->b∉ex->h'.get? b=some o
 slot:∀ b o,h.get? b=some o->H b=none->b∈fs->b∉ex->∃ sl,h'.get? b=some { o with slots:=sl }
 free:∀ b o,h.get? b=some o->H b=none->b∉ex->H' b=none
 there:∀ b o,h.get? b=some o->b∉ex->∃ o',h'.get? b=some o'
 tups:∀ b xs,H b=some (.tup xs)->H' b=some (.tup xs)
 frzs:∀ b o u,H b=some (.frz o u)->H' b=some (.frz o u)
 tbls:∀ b ps,H b=some (.tbl ps)->∃ more,H' b=some (.tbl (ps ++ more))
section
variable {fs fs' ex ex':List Addr}{H H1 H2:Hp}{h h1 h2 h':Heap}{a x e:Addr}{o:HO}
theorem Un.any (u:Un fs ex H H1 h h1){b:Addr}{ob:Obj}(q:h.get? b=some ob)(n:H b=none)(hx:b∉ex):∃ sl,h1.get? b=some { ob with slots:=sl }:=by
 by_cases hb:b∈fs
 ·exact u.slot b ob q n hb hx
 ·exact ⟨ob.slots,u.keep b ob q n hb hx⟩
theorem Un.kept (k:∀ b u,h.get? b=some u->h'.get? b=some u):Un fs ex H H h h' :=
 ⟨λb ob q _ _ _=>k b ob q,λb ob q _ _ _=>⟨ob.slots,k b ob q⟩,λ_ _ _ n _=>n,λb ob q _=>⟨ob,k b ob q⟩,λ_ _ q=>q,λ_ _ _ q=>q,λ_ ps q=>⟨#[],by rw [q];simp⟩⟩
theorem Un.refl:Un fs ex H H h h:=Un.kept λ_ _ q=>q
theorem Un.laid (k:∀ b u,h.get? b=some u->h'.get? b=some u)(hp:h.objs.size<=a)(hn:H a=none):Un fs ex H (zN H a o) h h' where
 keep:=λb u q _ _ _=>k b u q
 slot:=λb u q _ _ _=>⟨u.slots,k b u q⟩
 free:=λb u q n _=>by rw [z8 (Nat.ne_of_lt (Nat.lt_of_lt_of_le (Heap.lt_size q) hp))];exact n
 there:=λb u q _=>⟨u,k b u q⟩
 tups:=λb xs q=>by rw [z8 (zD q hn)];exact q
 frzs:=λb u xs q=>by rw [z8 (zD q hn)];exact q
 tbls:=λb ps q=>⟨#[],by rw [z8 (zD q hn),q];simp⟩
theorem Un.write (mu:Qa (H x))(he:e=x\/H e=some (.own x))(k:∀ b u,b≠e->h.get? b=some u->h'.get? b=some u)(heo:∃ u,h'.get? e=some u):Un fs ex H (zN H x o) h h':=by
 have hx:∀ b,H b=none->b≠x:=λb n z=>by subst z;rw [n] at mu;exact mu
 have hb:∀ b,H b=none->b≠e:=λb n z=>by
  subst z
  rcases he with r | r
  ·exact hx b n r
  ·rw [n] at r;cases r
 have hm:∀ b u,H b=some u->¬ Qa (some u)->b≠x:=λb u q nm z=>by subst z;rw [q] at mu;exact nm mu
 refine ⟨λb u q n _ _=>k b u (hb b n) q,λb u q n _ _=>⟨u.slots,k b u (hb b n) q⟩,λb u q n _=>by rw [z8 (hx b n)];exact n,λb u q _ => ?_,
  λb xs q=>by rw [z8 (hm b _ q λz=>z)];exact q,λb u xs q=>by rw [z8 (hm b _ q λz=>z)];exact q,λb ps q=>⟨#[],by rw [z8 (hm b _ q λz=>z),q];simp⟩⟩
 by_cases hbe:b=e
 ·subst hbe;exact heo
 ·exact ⟨u,k b u hbe q⟩
end
def GI (h:Heap)(H:Hp):List Addr:=(List.range h.objs.size).filter λa=>(H a).isSome
def lC (h:Heap)(H:Hp):Heap:=W.hideAll h (GI h H)
theorem tq (h:Heap)(H:Hp):(lC h H).objs.size=h.objs.size:=W.hideAll_size _ _
theorem rF {h:Heap}{H:Hp}{b:Addr}{o:Obj}(e:h.get? b=some o)(n:H b=none):(lC h H).get? b=some o :=
 W.hideAll_get _ e λhm=>by
  have q:(H b).isSome=true:=(List.mem_filter.mp hm).2;rw [n] at q;simp at q
theorem Yg {h:Heap}{H:Hp}{b:Addr}{o:Obj}(e:(lC h H).get? b=some o):h.get? b=some o/\H b=none:=by
 have e':h.get? b=some o:=W.of_hideAll (GI h H) e;refine ⟨e',?_⟩
 cases q:H b with
 | none=>rfl
 | some x =>
  have hm:b∈GI h H:=List.mem_filter.mpr ⟨List.mem_range.mpr (Heap.lt_size e'),by simp [q]⟩;have z:(lC h H).get? b=none:=W.hideAll_none (GI h H) hm;rw [z] at e;cases e
def Yh (g h:Heap)(L:Addr):List (Addr×Obj):=(List.range h.objs.size).filterMap λa=>if a=L\/(g.get? a).isSome=true then none else (h.get? a).map λo=>(a,o)
def rest (g h:Heap)(L d:Addr):List (Addr×Obj):=(Yh g h L).filter λp=>decide (p.1≠d)
structure Mod (K:W.Frag) (mg:Str->Option Value) (base:Heap):Prop where
 kin:K.In base
 glob:base.Ns mainGlobals mg
 blt:∃ mb,base.Ns builtinsNs mb/\∀ x:Str,x ≠ "__name__" -> mb x=bootBuiltins x
 nolimit:base.NoLimit
 bmain:∃ bm ob,mg "__builtins__" = some (.ref bm)/\bm≠builtinsNs/\base.get? bm=some ob/\ob.cls=.type "module" /\ ob.dict=some builtinsNs/\ob.data=.plain
structure Cx where
 prog:Program
 w:World
 K:W.Frag
 mg:Str->Option Value
 base:Heap
 A:Around
 N:List Str
 s₀:Shared
 H₀:Hp
 env:Env
 outer:List Env
 stack:List Env
 ex:List Addr
 fn:Str->Bool
 calm:Bool
 pn:List (Addr×Obj)
 xe:Value->Shared->Prop
def ue (l:List Env):List Addr:=l.filterMap (·.frame)
abbrev Cx.fs (X:Cx):List Addr:=ue X.outer
def cy (sc:Scope)(x:Str):Prop:=sc.names.lookup x=some .local\/sc.names.lookup x=some .cell\/sc.names.lookup x=some .free
def mI (sc:Scope)(x:Str):Prop:=sc.names.lookup x=some .local\/sc.names.lookup x=some .cell
def P1 (env:Env)(h:Heap)(m:Str->Option Value)(x:Str)(u:Value):Prop :=
 (env.kindOf x=some .local/\m x=some u)\/((env.kindOf x=some .cell\/env.kindOf x=some .free)/\∃ c,env.cells.lookup x=some c/\h.IsCell c (some u))
structure Cx.Ok (X:Cx):Prop where
 mod:Mod X.K X.mg X.base
 kind:X.env.scope.kind=.function
 glob:X.env.globals=mainGlobals
 blt:X.env.builtins=builtinsNs
 above:X.s₀.heap.objs.size<=X.env.locals
 inj:∀ x y c,X.env.cells.lookup x=some c->X.env.cells.lookup y=some c->x=y
 has:∀ x,(X.env.kindOf x=some .cell\/X.env.kindOf x=some .free)->∃ c,X.env.cells.lookup x=some c
 cab:∀ x c,X.fn x=true->X.env.cells.lookup x=some c->X.s₀.heap.objs.size<=c
 hd:X.calm=true->X.A.handled=none
 frames:X.A.frames=some X.stack
 stk:X.stack=X.outer\/(X.stack=X.env :: X.outer/\X.env.frame=some X.env.locals)
 exf:∀ b∈X.ex,b≠X.env.locals/\∀ x c,X.env.cells.lookup x=some c->c≠b
 bs:∀ b o,X.base.get? b=some o->X.s₀.heap.get? b=some o/\X.H₀ b=none
 bsz:X.base.objs.size<=X.s₀.heap.objs.size
 noex:∀ b o,X.base.get? b=some o->b∉X.ex
 exfs:∀ b∈X.ex,b∉X.fs
 funs:X.s₀.heap.FunFrames X.base X.outer
 frf:∀ b∈X.fs,X.H₀ b=none
 tab:X.H₀ tabP=some cx
structure zj (X:Cx) (pins:List (Addr×Obj)) (σ:List (Option V)) (H:Hp) (s:Shared):Prop where
 ok:X.Ok
 os:s.os=X.s₀.os
 bare:AllBare s.gens
 base:Un X.fs X.ex X.H₀ H X.s₀.heap s.heap
 loc:∃ m,s.heap.Ns X.env.locals m/\∀ (i:Nat) (x:Str) (v:V),X.N[i]? = some x->σ[i]? = some (some v)->cy X.env.scope x->∃ u,RelV v u/\P1 X.env s.heap m x u
 cell:∀ x c,X.env.cells.lookup x=some c->∃ v,s.heap.IsCell c v
 free:H X.env.locals=none
 freeC:∀ x c,X.env.cells.lookup x=some c->H c=none
 pin:∀ p∈X.pn ++ pins,s.heap.get? p.1=some p.2/\H p.1=none/\p.1≠X.env.locals/\p.1∉X.fs/\∀ v,p.2.data≠.cell v
 hok:qG X.prog X.w H s.heap
 len:σ.length=X.N.length
section
variable {X:Cx}{pins:List (Addr×Obj)}{σ:List (Option V)}{H H':Hp}{s:Shared}{h':Heap}
theorem Cx.Ok.nofr (ok:X.Ok){b:Addr}{o:Obj}(e:X.base.get? b=some o):b∉X.fs:=λhb=>by
 have:=(ok.funs.mem hb).1;rw [e] at this;cases this
theorem zj.bs (I:zj X pins σ H s):∀ b o,X.base.get? b=some o->s.heap.get? b=some o/\H b=none:=λb o e =>
 ⟨I.base.keep b o (I.ok.bs b o e).1 (I.ok.bs b o e).2 (I.ok.nofr e) (I.ok.noex b o e),I.base.free b o (I.ok.bs b o e).1 (I.ok.bs b o e).2 (I.ok.noex b o e)⟩
theorem zj.tab (I:zj X pins σ H s):H tabP=some cx:=I.base.frzs _ _ _ I.ok.tab
theorem zj.bk (I:zj X pins σ H s):∀ b o,X.base.get? b=some o->s.heap.get? b=some o:=λb o e=>(I.bs b o e).1
theorem zj.mod (I:zj X pins σ H s):Mod X.K X.mg X.base:=I.ok.mod
theorem zj.kIn (I:zj X pins σ H s):X.K.In s.heap:=I.ok.mod.kin.keeps I.bk
theorem zj.lt (I:zj X pins σ H s):X.env.locals < s.heap.objs.size:=let ⟨_,hn,_⟩:=I.loc;hn.lt
theorem zj.sz (I:zj X pins σ H s):X.s₀.heap.objs.size<=s.heap.objs.size:=Nat.le_trans I.ok.above (Nat.le_of_lt I.lt)
theorem zj.nofs (I:zj X pins σ H s){a:Addr}(h:s.heap.objs.size<=a):a∉X.fs:=λhb=>by
 obtain ⟨_,o,ho,_⟩:=I.ok.funs.mem hb;exact absurd (Nat.lt_of_lt_of_le (Heap.lt_size ho) (Nat.le_trans I.sz h)) (Nat.lt_irrefl _)
theorem zj.cne (I:zj X pins σ H s):∀ x c,X.env.cells.lookup x=some c->c≠X.env.locals:=λx c e z=>by
 obtain ⟨v,o,ho,hd⟩:=I.cell x c e;obtain ⟨m,⟨o',es,ep,ho',hd',_⟩,_⟩:=I.loc;rw [z,ho'] at ho;cases ho;rw [hd'] at hd;cases hd
theorem zj.funs (I:zj X pins σ H s):s.heap.FunFrames X.base X.outer:=by
 have all:∀ (l:List Env),(∀ b∈ue l,b∈X.fs)->X.s₀.heap.FunFrames X.base l->s.heap.FunFrames X.base l:=by
  intro l
  induction l with
  | nil=>intro _ _;trivial
  | cons env r ih =>
   intro hs hl;obtain ⟨hk,⟨L,o,hf,hn,ho,hd⟩,hr⟩:=hl;have hL:L∈X.fs:=hs L (by unfold ue;rw [List.filterMap_cons,hf];exact List.mem_cons_self);obtain ⟨sl,e⟩:=I.base.slot L o ho (I.ok.frf L hL) hL λz=>I.ok.exfs L z hL;exact ⟨hk,⟨L,_,hf,hn,e,hd⟩,ih (λb hb=>hs b (by unfold ue;rw [List.filterMap_cons,hf];exact List.mem_cons_of_mem _ hb)) hr⟩
 exact all X.outer (λ_ hb=>hb) I.ok.funs
theorem zj.stack (I:zj X pins σ H s):s.heap.FunFrames X.base X.stack:=by
 rcases I.ok.stk with e | ⟨e,hf⟩
 ·rw [e];exact I.funs
 ·rw [e]
  obtain ⟨m,hn,_⟩:=I.loc;refine .cons (by rw [I.ok.kind];decide) hf hn ?_ I.funs;exact Heap.get?_none_of_le (Nat.le_trans I.ok.bsz I.ok.above)
theorem zj.stkSub (I:zj X pins σ H s):∀ b∈ue X.stack,b∈X.env.locals :: X.fs:=λb hb=>by
 rcases I.ok.stk with e | ⟨e,hf⟩
 ·rw [e] at hb;exact List.mem_cons_of_mem _ hb
 ·rw [e] at hb
  unfold ue at hb;rw [List.filterMap_cons,hf] at hb;exact hb
theorem zj.stkFree (I:zj X pins σ H s):∀ b∈ue X.stack,H b=none:=λb hb=>by
 rcases List.mem_cons.mp (I.stkSub b hb) with e | hb
 ·rw [e];exact I.free
 ·obtain ⟨_,o,ho,_⟩:=I.ok.funs.mem hb
  exact I.base.free b o ho (I.ok.frf b hb) λz=>I.ok.exfs b z hb
theorem zj.step {g':Array GenState}{t':Nat}{d':Drawn}{ch:List Addr}(I:zj X pins σ H s)
  (hch:∀ b∈ch,(b∈X.ex\/X.s₀.heap.objs.size<=b)/\b≠X.env.locals/\(∀ x c,X.env.cells.lookup x=some c->c≠b)/\∀ p∈X.pn ++ pins,p.1≠b)
  (keep:∀ b o,b≠X.env.locals->b∉X.fs->b∉ch->s.heap.get? b=some o->H b=none->h'.get? b=some o)
  (slot:∀ b o,b≠X.env.locals->b∈X.fs->b∉ch->s.heap.get? b=some o->H b=none->∃ sl,h'.get? b=some { o with slots:=sl }) (free:∀ b o,b∉ch->s.heap.get? b=some o->H b=none->H' b=none)
  (there:∀ b o,b∉ch->s.heap.get? b=some o->∃ o',h'.get? b=some o')
  (tups:∀ b xs,H b=some (.tup xs)->H' b=some (.tup xs)) (frzs:∀ b o u,H b=some (.frz o u)->H' b=some (.frz o u)) (tbls:∀ b ps,H b=some (.tbl ps)->∃ more,H' b=some (.tbl (ps ++ more)))
  (ns:∀ m,s.heap.Ns X.env.locals m->h'.Ns X.env.locals m) (hok:qG X.prog X.w H' h') (hg:AllBare g') :
  zj X pins σ H' { s with heap:=h',gens:=g',drawn:=d',toks:=t' }:=by
 have neL:∀ b o,X.s₀.heap.get? b=some o->b≠X.env.locals:=λb o e=>Nat.ne_of_lt (Nat.lt_of_lt_of_le (Heap.lt_size e) I.ok.above)
 have neC:∀ b o,X.s₀.heap.get? b=some o->b∉X.ex->b∉ch:=λb o e hx hb=>by
  rcases (hch b hb).1 with z | z
  ·exact hx z
  ·exact absurd (Nat.lt_of_lt_of_le (Heap.lt_size e) z) (Nat.lt_irrefl _)
 have cellK:∀ x c,X.env.cells.lookup x=some c->∀ v,s.heap.IsCell c v->h'.IsCell c v:=λx c e v ⟨o,ho,hd⟩=>by
  have nch:c∉ch:=λz=>(hch c z).2.2.1 x c e rfl
  by_cases hc:c∈X.fs
  ·obtain ⟨sl,q⟩:=slot c o (I.cne x c e) hc nch ho (I.freeC x c e)
   exact ⟨_,q,hd⟩
  ·exact ⟨o,keep c o (I.cne x c e) hc nch ho (I.freeC x c e),hd⟩
 refine ⟨I.ok,I.os,hg,⟨λb o e n hb hx => ?_,λb o e n hb hx => ?_,λb o e n hx => ?_,λb o e hx => ?_,λb xs e=>tups b xs (I.base.tups b xs e),λb o xs e=>frzs b o xs (I.base.frzs b o xs e),λb ps e => ?_⟩,?_,λx c e => ?_,?_,λx c e => ?_,λp hp => ?_,hok,I.len⟩
 ·exact keep b o (neL b o e) hb (neC b o e hx) (I.base.keep b o e n hb hx) (I.base.free b o e n hx)
 ·obtain ⟨sl,e1⟩:=I.base.slot b o e n hb hx
  obtain ⟨sl',e2⟩:=slot b _ (neL b o e) hb (neC b o e hx) e1 (I.base.free b o e n hx);exact ⟨sl',e2⟩
 ·obtain ⟨o',e1⟩:=I.base.there b o e hx
  exact free b o' (neC b o e hx) e1 (I.base.free b o e n hx)
 ·obtain ⟨o',e1⟩:=I.base.there b o e hx
  exact there b o' (neC b o e hx) e1
 ·obtain ⟨m1,e1⟩:=I.base.tbls b ps e
  obtain ⟨m2,e2⟩:=tbls b _ e1;exact ⟨m1 ++ m2,by rw [e2,Array.append_assoc]⟩
 ·obtain ⟨m,hn,hl⟩:=I.loc
  refine ⟨m,ns m hn,λi x v e1 e2 e3 => ?_⟩;obtain ⟨u,r,l⟩:=hl i x v e1 e2 e3;refine ⟨u,r,?_⟩
  rcases l with l | ⟨k,c,e,z⟩
  ·exact .inl l
  ·exact .inr ⟨k,c,e,cellK x c e _ z⟩
 ·obtain ⟨v,z⟩:=I.cell x c e
  exact ⟨v,cellK x c e v z⟩
 ·obtain ⟨m,⟨o,_,_,ho,_⟩,_⟩:=I.loc
  exact free _ o (λz=>(hch _ z).2.1 rfl) ho I.free
 ·obtain ⟨v,o,ho,hd⟩:=I.cell x c e
  exact free c o (λz=>(hch c z).2.2.1 x c e rfl) ho (I.freeC x c e)
 ·obtain ⟨e,n,ne,nf,d⟩:=I.pin p hp
  have nch:p.1∉ch:=λz=>(hch p.1 z).2.2.2 p hp rfl;exact ⟨keep p.1 p.2 ne nf nch e n,free p.1 p.2 nch e n,ne,nf,d⟩
theorem zj.un {t':Nat}(I:zj X pins σ H s)(u:Un X.fs [] H H' s.heap h')(hok:qG X.prog X.w H' h'):zj X pins σ H' { s with heap:=h',toks:=t' }:=by
 obtain ⟨m,⟨o,es,ep,ho,r⟩,_⟩:=id I.loc;obtain ⟨sl,hL⟩:=u.any ho I.free (by simp)
 exact I.step (g':=s.gens) (d':=s.drawn) (ch:=[]) (λ_ z=>nomatch z) (λb o _ hb _ e n=>u.keep b o e n hb (by simp)) (λb o _ hb _ e n=>u.slot b o e n hb (by simp)) (λb o _ e n=>u.free b o e n (by simp)) (λb o _ e=>u.there b o e (by simp)) u.tups u.frzs u.tbls (λm' hm=>by
  obtain ⟨o',es',ep',ho',r'⟩:=hm;rw [ho] at ho';cases ho';exact ⟨_,es',ep',hL,r'⟩) hok I.bare
theorem zj.call {g':Array GenState}{t':Nat}{d':Drawn}{ch:List Addr}(I:zj X pins σ H s)(u:Un (ue X.stack) ch H H' s.heap h')(hok:qG X.prog X.w H' h')(hg:AllBare g')
  (hch:∀ b∈ch,(b∈X.ex\/X.s₀.heap.objs.size<=b)/\b≠X.env.locals/\(∀ x c,X.env.cells.lookup x=some c->c≠b)/\∀ p∈X.pn ++ pins,p.1≠b) :
  zj X pins σ H' { s with heap:=h',gens:=g',drawn:=d',toks:=t' }:=by
 obtain ⟨m,⟨o,es,ep,ho,r⟩,_⟩:=id I.loc;obtain ⟨sl,hL⟩:=u.any ho I.free λz=>(hch _ z).2.1 rfl
 exact I.step (ch:=ch) hch (λb o hL hb hc e n=>u.keep b o e n (λz=>(List.mem_cons.mp (I.stkSub b z)).elim hL hb) hc) (λb o _ _ hc e n=>u.any e n hc) (λb o hc e n=>u.free b o e n hc) (λb o hc e=>u.there b o e hc) u.tups u.frzs u.tbls (λm' hm=>by
  obtain ⟨o',es',ep',ho',r'⟩:=hm;rw [ho] at ho';cases ho';exact ⟨_,es',ep',hL,r'⟩) hok hg
theorem zj.turned {t':Nat}{it:Addr}(I:zj X pins σ H s)(k:∀ b o,b≠it->s.heap.get? b=some o->h'.get? b=some o)(hn:H it=none)(hL:it≠X.env.locals)
  (h1:it∈X.ex\/X.s₀.heap.objs.size<=it) (h2:∀ x c,X.env.cells.lookup x=some c->c≠it) (h3:∀ p∈X.pn ++ pins,p.1≠it):zj X pins σ H { s with heap:=h',toks:=t' }:=by
 have nit:∀ b u,H b=some u->b≠it:=λb u e z=>by rw [z,hn] at e;cases e
 refine I.step (g':=s.gens) (d':=s.drawn) (ch:=[it]) (λb hb => ?_) (λb o _ _ hc e _=>k b o (λz=>hc (by simp [z])) e) (λb o _ _ hc e _=>⟨o.slots,k b o (λz=>hc (by simp [z])) e⟩) (λ_ _ _ _ n=>n)
  (λb o hc e=>⟨o,k b o (λz=>hc (by simp [z])) e⟩) (λ_ _ e=>e) (λ_ _ _ e=>e) (λb ps e=>⟨#[],by rw [e];simp⟩) (λm hm => ?_) (λb u e => ?_) I.bare
 ·have e:b=it:=by simpa using hb
  subst e;exact ⟨h1,hL,h2,h3⟩
 ·obtain ⟨o,es,ep,ho,r⟩:=hm
  exact ⟨o,es,ep,k _ o (Ne.symm hL) ho,r⟩
 ·refine (I.hok b u e).stay (λc v hc q=>k c v ?_ q) (λ_ q=>q) λ_ _ q=>q
  rcases hc with z | z
  ·rw [z];exact nit b u e
  ·exact nit c _ z
theorem zj.tok (I:zj X pins σ H s)(t:Nat):zj X pins σ H { s with toks:=t }:=I.un (h':=s.heap) (t':=t) Un.refl I.hok
theorem zj.kept {t':Nat}(I:zj X pins σ H s)(k:∀ b u,s.heap.get? b=some u->h'.get? b=some u):zj X pins σ H { s with heap:=h',toks:=t' }:=I.un (Un.kept k) (I.hok.kept k)
theorem zj.laid {a:Addr}{o:HO}{t':Nat}(I:zj X pins σ H s)(k:∀ b u,s.heap.get? b=some u->h'.get? b=some u)(hp:s.heap.objs.size<=a)(new:j7 X.prog X.w (zN H a o) h' a o) :
  zj X pins σ (zN H a o) { s with heap:=h',toks:=t' }:=I.un (Un.laid k hp (I.hok.fresh hp)) (I.hok.laid k hp new)
theorem zj.write {x e:Addr}{o:HO}{t':Nat}(I:zj X pins σ H s)(mu:Qa (H x))(he:e=x\/H e=some (.own x))(k:∀ b u,b≠e->s.heap.get? b=some u->h'.get? b=some u)(heo:∃ u,h'.get? e=some u)
  (new:j7 X.prog X.w (zN H x o) h' x o):zj X pins σ (zN H x o) { s with heap:=h',toks:=t' }:=I.un (Un.write mu he k heo) (I.hok.write mu he k heo new)
theorem zj.pins_of {pins':List (Addr×Obj)}(I:zj X pins σ H s)(h:∀ p∈pins',s.heap.get? p.1=some p.2/\H p.1=none/\p.1≠X.env.locals/\p.1∉X.fs/\∀ v,p.2.data≠.cell v):zj X pins' σ H s :=
 ⟨I.ok,I.os,I.bare,I.base,I.loc,I.cell,I.free,I.freeC,λp hp=>(List.mem_append.mp hp).elim (λz=>I.pin p (List.mem_append_left _ z)) (h p),I.hok,I.len⟩
theorem uv {N:List Str}(hN:N.Nodup){i j:Nat}{x:Str}(a:N[i]? = some x)(b:N[j]? = some x):i=j:=by
 obtain ⟨h1,e1⟩:=List.getElem?_eq_some_iff.mp a;obtain ⟨h2,e2⟩:=List.getElem?_eq_some_iff.mp b;exact (List.getElem_inj hN).mp (e1.trans e2.symm)
theorem tD {M:Model}{A:Around}{E:Value->Shared->Prop}{i:Nat}{x:Str}{v:V}{u:Value}{Q:Unit->Shared->Prop}(I:zj X pins σ H s)(hN:X.N.Nodup)(hi:X.N[i]? = some x)(hx:mI X.env.scope x)(r:RelV v u)
  (h:∀ s',zj X pins (σ.set i (some v)) H s'->(∃ a,Heap.SameBut a s.heap s'.heap/\(a=X.env.locals\/X.env.cells.lookup x=some a))->Q () s') (hf:X.fn x=true\/X.env.scope.names.lookup x=some .local:=by first | exact .inl rfl | exact .inr rfl | assumption):wpAny M A (storeName X.env x u) Q E s:=by
 obtain ⟨m,hn,hl⟩:=id I.loc;have hcls:(X.env.scope.kind == .class || (X.env.scope.kind == .module && X.env.locals != X.env.globals))=false:=by rw [I.ok.kind];rfl
 have hiσ:i < σ.length:=by rw [I.len];exact (List.getElem?_eq_some_iff.mp hi).1
 have cne:=I.cne
 have tracked:∀ {a:Addr} {h':Heap},(∃ o,s.heap.get? a=some o/\H a=none)->Heap.SameBut a s.heap h'->qG X.prog X.w H h':=λ{a h'} ha hs b ob e=>by
  obtain ⟨_,_,hfree⟩:=ha;refine (I.hok b ob e).stay (λc w' hc q=>(hs.2 c ?_).trans q) (λ_ q=>q) λ_ _ q=>q;rintro rfl
  rcases hc with rfl | hc
  ·rw [hfree] at e;cases e
  ·rw [hfree] at hc;cases hc
 rcases hx with hk | hk
 ·refine wpAny_storeName_local hk hn (λh' hn' hs => ?_) hcls
  obtain ⟨oL,_,_,hoL,_⟩:=id hn;refine h _ ⟨I.ok,I.os,I.bare,⟨λb o e n hb hx => ?_,λb o e n hb hx => ?_,I.base.free,λb o e hx => ?_,I.base.tups,I.base.frzs,I.base.tbls⟩,⟨_,hn',λj y v' e1 e2 e3 => ?_⟩,λy c e => ?_,I.free,I.freeC,λp hp => ?_,tracked ⟨oL,hoL,I.free⟩ hs,by simpa using I.len⟩ ⟨_,hs,.inl rfl⟩
  ·exact (hs.2 b (Nat.ne_of_lt (Nat.lt_of_lt_of_le (Heap.lt_size e) I.ok.above))).trans (I.base.keep b o e n hb hx)
  ·obtain ⟨sl,e1⟩:=I.base.slot b o e n hb hx
   exact ⟨sl,(hs.2 b (Nat.ne_of_lt (Nat.lt_of_lt_of_le (Heap.lt_size e) I.ok.above))).trans e1⟩
  ·obtain ⟨o',e1⟩:=I.base.there b o e hx
   exact ⟨o',(hs.2 b (Nat.ne_of_lt (Nat.lt_of_lt_of_le (Heap.lt_size e) I.ok.above))).trans e1⟩
  ·by_cases hj:j=i
   ·subst hj
    rw [hi] at e1;cases e1;rw [List.getElem?_set_self hiσ] at e2;cases e2;exact ⟨u,r,.inl ⟨hk,by simp⟩⟩
   ·rw [List.getElem?_set_ne (Ne.symm hj)] at e2
    obtain ⟨u',r',q⟩:=hl j y v' e1 e2 e3;refine ⟨u',r',?_⟩
    rcases q with ⟨k,e⟩ | ⟨k,c,e,z⟩
    ·refine .inl ⟨k,?_⟩
     have:y≠x:=λe=>hj (uv hN e1 (e ▸ hi));simp [this,e]
    ·exact .inr ⟨k,c,e,z.sameBut hs (cne y c e)⟩
  ·obtain ⟨w',z⟩:=I.cell y c e
   exact ⟨w',z.sameBut hs (cne y c e)⟩
  ·obtain ⟨e,n,ne,nf,d⟩:=I.pin p hp
   exact ⟨(hs.2 p.1 ne).trans e,n,ne,nf,d⟩
 ·have hfn:X.fn x=true:=by
   rcases hf with z | z
   ·exact z
   ·rw [z] at hk;cases hk
  obtain ⟨c,hc⟩:=I.ok.has x (.inl hk);obtain ⟨w',z⟩:=I.cell x c hc;refine wpAny_storeName_cell I.ok.kind hk hc z (λh' hc' hs => ?_);obtain ⟨oc,hoc,hocd⟩:=id z;refine h { s with heap:=h' } ⟨I.ok,I.os,I.bare,⟨λb o e n hb hx => ?_,λb o e n hb hx => ?_,I.base.free,λb o e hx => ?_,I.base.tups,I.base.frzs,I.base.tbls⟩,⟨m,hn.sameBut hs (Ne.symm (cne x c hc)),λj y v' e1 e2 e3 => ?_⟩,λy c' e => ?_,I.free,I.freeC,λp hp => ?_,tracked ⟨oc,hoc,I.freeC x c hc⟩ hs,by simpa using I.len⟩ ⟨c,hs,.inr hc⟩
  ·exact (hs.2 b (Nat.ne_of_lt (Nat.lt_of_lt_of_le (Heap.lt_size e) (I.ok.cab x c hfn hc)))).trans (I.base.keep b o e n hb hx)
  ·obtain ⟨sl,e1⟩:=I.base.slot b o e n hb hx
   exact ⟨sl,(hs.2 b (Nat.ne_of_lt (Nat.lt_of_lt_of_le (Heap.lt_size e) (I.ok.cab x c hfn hc)))).trans e1⟩
  ·obtain ⟨o',e1⟩:=I.base.there b o e hx
   exact ⟨o',(hs.2 b (Nat.ne_of_lt (Nat.lt_of_lt_of_le (Heap.lt_size e) (I.ok.cab x c hfn hc)))).trans e1⟩
  ·by_cases hj:j=i
   ·subst hj
    rw [hi] at e1;cases e1;rw [List.getElem?_set_self hiσ] at e2;cases e2;exact ⟨u,r,.inr ⟨.inl hk,c,hc,hc'⟩⟩
   ·rw [List.getElem?_set_ne (Ne.symm hj)] at e2
    obtain ⟨u',r',q⟩:=hl j y v' e1 e2 e3;refine ⟨u',r',?_⟩
    rcases q with q | ⟨k,c',e,z'⟩
    ·exact .inl q
    ·refine .inr ⟨k,c',e,z'.sameBut hs ?_⟩
     rintro rfl;exact hj (uv hN e1 (I.ok.inj _ _ _ e hc ▸ hi))
  ·by_cases hcc:c'=c
   ·subst hcc;exact ⟨_,hc'⟩
   ·obtain ⟨w2,z2⟩:=I.cell y c' e
    exact ⟨w2,z2.sameBut hs hcc⟩
  ·obtain ⟨e,n,ne,nf,d⟩:=I.pin p hp
   refine ⟨(hs.2 p.1 ?_).trans e,n,ne,nf,d⟩;intro q;rw [q,hoc] at e;have q':oc=p.2:=Option.some.inj e;exact d w' (by rw [<- q'];exact hocd)
theorem qf {M:Model}{A:Around}{E:Value->Shared->Prop}{i:Nat}{x:Str}{v:V}{u:Value}{Q:Unit->Shared->Prop}(I:zj X pins σ H s)(hN:X.N.Nodup)(hi:X.N[i]? = some x)(hx:mI X.env.scope x)(r:RelV v u)
  (h:∀ s',zj X pins (σ.set i (some v)) H s'->Q () s') (hf:X.fn x=true\/X.env.scope.names.lookup x=some .local:=by first | exact .inl rfl | exact .inr rfl | assumption):wpAny M A (storeName X.env x u) Q E s :=
 tD I hN hi hx r (λs' I' _=>h s' I') hf
theorem zj.call' {s':Shared}{ch:List Addr}(I:zj X pins σ H s)(ho:s'.os=s.os)(u:Un (ue X.stack) ch H H' s.heap s'.heap)(hok:qG X.prog X.w H' s'.heap)(hg:AllBare s'.gens)
  (hch:∀ b∈ch,(b∈X.ex\/X.s₀.heap.objs.size<=b)/\b≠X.env.locals/\(∀ x c,X.env.cells.lookup x=some c->c≠b)/\∀ p∈X.pn ++ pins,p.1≠b):zj X pins σ H' s':=by
 obtain ⟨h',g',d',t',o'⟩:=s';have e:o'=s.os:=ho;subst e;exact I.call (g':=g') (t':=t') (d':=d') u hok hg hch
end
abbrev XK:=Value->Option Addr->Hp->Prop
abbrev St:=List (Option V)
abbrev VK:=V->Hp->Prop
abbrev TE:=St->Hp->VK->Prop
abbrev TT:=St->Hp->(Bool->Hp->Prop)->Prop
abbrev TA:=St->Hp->(List V->Hp->Prop)->Prop
structure gf where
 nx:St->Hp->Prop
 rt:VK
 bk:St->Hp->Prop:=λ_ _=>False
 ct:St->Hp->Prop:=λ_ _=>False
abbrev TS:=gf->St->Hp->Prop
def EP (X:Cx)(pins:List (Addr×Obj))(σ:St)(Q:VK)(u:Value)(s':Shared):Prop := ∃ v H',zj X pins σ H' s'/\RelV v u/\Q v H'
def TP (X:Cx)(pins:List (Addr×Obj))(σ:St)(Q:Bool->Hp->Prop)(b:Bool)(s':Shared):Prop := ∃ H',zj X pins σ H' s'/\Q b H'
def AP (X:Cx)(pins:List (Addr×Obj))(σ:St)(Q:List V->Hp->Prop)(us:List Value)(s':Shared):Prop := ∃ vs H',zj X pins σ H' s'/\zF vs us/\Q vs H'
def SP (X:Cx)(pins:List (Addr×Obj))(D:gf)(f:Flow)(s':Shared):Prop :=
 match f with
 | .next=>∃ σ' H',zj X pins σ' H' s'/\D.nx σ' H'
 | .brk=>∃ σ' H',zj X pins σ' H' s'/\D.bk σ' H'
 | .cont=>∃ σ' H',zj X pins σ' H' s'/\D.ct σ' H'
 | .ret u=>∃ v σ' H',zj X pins σ' H' s'/\RelV v u/\D.rt v H'
def PE (X:Cx)(e:Expr)(t:TE):Prop :=
 ∀ (pins:List (Addr×Obj)) (s:Shared) (σ:St) (H:Hp) (Q:VK),zj X pins σ H s->t σ H Q->wpAny (model X.prog X.w) X.A (eval e X.env) (EP X pins σ Q) X.xe s
def PT (X:Cx)(e:Expr)(t:TT):Prop :=
 ∀ (pins:List (Addr×Obj)) (s:Shared) (σ:St) (H:Hp) (Q:Bool->Hp->Prop),zj X pins σ H s->t σ H Q->wpAny (model X.prog X.w) X.A (isTrue e X.env (eval e X.env)) (TP X pins σ Q) X.xe s
def PW (X:Cx)(e:Expr)(t:TT):Prop :=
 ∀ (whole:Sem Value) (pins:List (Addr×Obj)) (s:Shared) (σ:St) (H:Hp) (Q:Bool->Hp->Prop),zj X pins σ H s->t σ H Q->wpAny (model X.prog X.w) X.A (isTrue e X.env whole) (TP X pins σ Q) X.xe s
theorem PW.pt {X:Cx}{e:Expr}{t:TT}(h:PW X e t):PT X e t:=h _
def PA (X:Cx)(es:List Expr)(t:TA):Prop :=
 ∀ (pos:Pos) (pins:List (Addr×Obj)) (s:Shared) (σ:St) (H:Hp) (Q:List V->Hp->Prop),zj X pins σ H s->t σ H Q->wpAny (model X.prog X.w) X.A (spliced (backTo pos (starEach es X.env))) (AP X pins σ Q) X.xe s
def PS (X:Cx)(st:Stmt)(t:TS):Prop :=
 ∀ (pins:List (Addr×Obj)) (s:Shared) (σ:St) (H:Hp) (D:gf),zj X pins σ H s->t D σ H->wpAny (model X.prog X.w) X.A (exec st X.env) (SP X pins D) X.xe s
def hX (X:Cx)(st:List Stmt)(t:TS):Prop :=
 ∀ (pins:List (Addr×Obj)) (s:Shared) (σ:St) (H:Hp) (D:gf),zj X pins σ H s->t D σ H->wpAny (model X.prog X.w) X.A (execs st X.env) (SP X pins D) X.xe s
theorem jg {α:Type}{t:Sem α}{Q Q':α->Shared->Prop}{M:Model}{A:Around}{E:Value->Shared->Prop}{s:Shared}(h:wpAny M A t Q E s)(hQ:∀ a s,Q a s->Q' a s):wpAny M A t Q' E s:=wpAny_mono h hQ λ_ _ x=>x
section
variable {X:Cx}
theorem N8 {a b:Expr}{ta tb:TE}(ha:PE X a ta)(hb:PE X b tb){pins:List (Addr×Obj)}{s:Shared}{σ:St}{H:Hp}{R:V->V->Hp->Prop}(I:zj X pins σ H s)(h:ta σ H λx H1=>tb σ H1 λy H2=>R x y H2)
  {α:Type} {Q:α->Shared->Prop} {f:Value->Value->Sem α}
  (hf:∀ v u s2 x y H2,zj X pins σ H2 s2->RelV x v->RelV y u->R x y H2->wpAny (model X.prog X.w) X.A (f v u) Q X.xe s2) :
  wpAny (model X.prog X.w) X.A (eval a X.env) (λv s₁=>wpAny (model X.prog X.w) X.A (eval b X.env) (λu s₂=>wpAny (model X.prog X.w) X.A (f v u) Q X.xe s₂) X.xe s₁) X.xe s:=by
 refine jg (ha pins s σ H _ I h) λv s1 ⟨x,H1,I1,r1,q1⟩ => ?_;refine jg (hb pins s1 σ H1 _ I1 q1) λu s2 ⟨y,H2,I2,r2,q2⟩ => ?_;exact hf v u s2 x y H2 I2 r1 r2 q2
def xD (i:Nat):TE:=λσ H Q=>∃ v,σ[i]? = some (some v)/\Q v H
def tC (v:V):TE:=λ_ H Q=>Q v H
theorem vG {i:Nat}{x:Str}{pos:Pos}(hN:X.N[i]? = some x)(hv:cy X.env.scope x)(hd:(x == ("__debug__" : Str))=false:=by decide)(hcd:(x == ("__classdict__" : Str))=false:=by decide):PE X (.Name x pos) (xD i):=by
 intro pins s σ H Q I h;obtain ⟨v,e,h⟩:=h;obtain ⟨m,hn,hl⟩:=I.loc;obtain ⟨u,r,l⟩:=hl i x v hN e hv;have fin:EP X pins σ Q u s:=⟨v,H,I,r,h⟩
 rcases l with ⟨hk,hm⟩ | ⟨hk,c,hc,hcell⟩
 ·exact wpAny_Name (wpAny_loadName_local I.ok.kind hk hn hm fin) hd
 ·rcases hk with hk | hk
  ·exact wpAny_Name (wpAny_loadName_cell I.ok.kind hk hc hcell fin) hd
  ·exact wpAny_Name (wpAny_loadName_free I.ok.kind hk hc hcell fin hcd) hd
theorem WW {i j pos} : PE X (.Constant (.int i) j pos) (tC (.int i)):=λ_ _ _ H _ I h=>wpAny_Constant_int ⟨.int i,H,I.tok _,⟨_,rfl⟩,h⟩
theorem Qb {b j pos} : PE X (.Constant (.bool b) j pos) (tC (.bl b)):=λ_ _ _ H _ I h=>Constant_bool ⟨.bl b,H,I,rfl,h⟩
theorem WX {j pos} : PE X (.Constant .none j pos) (tC .non):=λ_ _ _ H _ I h=>Constant_none ⟨.non,H,I,rfl,h⟩
theorem WY {x j pos} : PE X (.Constant (.str x) j pos) (tC (.str x)):=λ_ _ _ H _ I h=>Calls.Constant_str ⟨.str x,H,I.tok _,⟨_,rfl⟩,h⟩
def Gl (X:Cx)(x:Str):Prop:=X.env.kindOf x=some .globalImplicit
theorem gF {E:Value->Shared->Prop}{pins:List (Addr×Obj)}{s:Shared}{σ:St}{H:Hp}{x:Str}{u:Value}{pos:Pos}{Q:Value->Shared->Prop}(I:zj X pins σ H s)(hg:Gl X x)(hm:X.mg x=some u)(h:Q u s)
  (hd:(x == ("__debug__" : Str))=false:=by decide):wpAny (model X.prog X.w) X.A (eval (.Name x pos) X.env) Q E s :=
 Calls.Name_function_global I.ok.kind hg (Calls.loadGlobal_global (by rw [I.ok.glob];exact I.mod.glob.keeps I.bk) hm h) hd
theorem gg {E:Value->Shared->Prop}{pins:List (Addr×Obj)}{s:Shared}{σ:St}{H:Hp}{x:Str}{u:Value}{pos:Pos}{Q:Value->Shared->Prop}(I:zj X pins σ H s)(hg:Gl X x)(hm:X.mg x=none)(hv:bootBuiltins x=some u)(h:Q u s)
  (hn:x ≠ "__name__" := by decide) (hd:(x == ("__debug__" : Str))=false:=by decide):wpAny (model X.prog X.w) X.A (eval (.Name x pos) X.env) Q E s:=by
 obtain ⟨mb,h1,h2⟩:=I.mod.blt;exact Calls.Name_function_global I.ok.kind hg (Calls.loadGlobal_builtin (by rw [I.ok.glob];exact I.mod.glob.keeps I.bk) hm (by rw [I.ok.blt];exact h1.keeps I.bk) ((h2 x hn).trans hv) h) hd
theorem kb {x:Str}{v:V}{u:Value}{pos:Pos}(hg:Gl X x)(hm:X.mg x=some u)(r:RelV v u)(hd:(x == ("__debug__" : Str))=false:=by decide):PE X (.Name x pos) (tC v) :=
 λ_ _ _ H _ I h=>gF I hg hm ⟨v,H,I,r,h⟩ hd
theorem bP {x:Str}{v:V}{u:Value}{pos:Pos}(hg:Gl X x)(hm:X.mg x=none)(hv:bootBuiltins x=some u)(r:RelV v u)(hn:x ≠ "__name__" := by decide)(hd:(x == ("__debug__" : Str))=false:=by decide):PE X (.Name x pos) (tC v) :=
 λ_ _ _ H _ I h=>gg I hg hm hv ⟨v,H,I,r,h⟩ hn hd
variable {a b:Expr}{ta tb:TE}{pos:Pos}
def PC (X:Cx)(op:CmpOp)(a b:Expr)(t:TE):Prop :=
 ∀ (pins:List (Addr×Obj)) (s:Shared) (σ:St) (H:Hp) (Q:VK),zj X pins σ H s->t σ H Q ->
  wpAny (model X.prog X.w) X.A (eval a X.env) (λv s₁=>wpAny (model X.prog X.w) X.A (eval b X.env) (λu s₂=>wpAny (model X.prog X.w) X.A (compareOp op v u) (EP X pins σ Q) X.xe s₂) X.xe s₁) X.xe s
theorem rG (b:Expr){op:CmpOp}(h:op≠.In)(h2:op≠.NotIn):behindInMarks op b=false:=by
 have e1:(op == CmpOp.In)=false:=by cases op<;>first | rfl | exact absurd rfl h
 have e2:(op == CmpOp.NotIn)=false:=by cases op<;>first | rfl | exact absurd rfl h2
 cases b<;>simp [behindInMarks,e1,e2]
def tB (t:TE):TT:=λσ H Q=>t σ H λx H1=>∃ c,x=.bl c/\Q c H1
theorem WZ {op:CmpOp}{t:TE}(h:PC X op a b t)(h1:behindInMarks op b=false:=by first | exact rG _ (by decide) (by decide) | rfl):PT X (.Compare a [op] [b] pos) (tB t):=by
 intro pins s σ H Q I hw;refine wpAny_isTrue_Compare1 (jg (h pins s σ H _ I hw) λv s1 h1=>jg h1 λu s2 h2=>jg h2 λc s3 ⟨x,H1,I1,r1,q1⟩ => ?_) h1;obtain ⟨d,rfl,q⟩:=q1;cases r1;exact wpAny_truthy_bool ⟨H1,I1,q⟩
variable {tA tB':TT}{rest:List Expr}
def Qc (t u:TT):TT:=λσ H Q=>t σ H λc H1=>if c=true then u σ H1 Q else Q false H1
def Uq (t u:TT):TT:=λσ H Q=>t σ H λc H1=>if c=true then Q true H1 else u σ H1 Q
def Qd (t:TT):TT:=λσ H Q=>t σ H λc H1=>Q (!c) H1
theorem Yi (ha:PT X a tA):PW X (.BoolOp .And [a] pos) tA:=by
 intro wh pins s σ H Q I h;refine isTrue_and (jg (ha pins s σ H Q I h) λc s1 e => ?_)
 cases c with
 | true=>exact isTrue_and_nil e
 | false=>exact e
theorem V0 (ha:PT X a tA):PW X (.BoolOp .Or [a] pos) tA:=by
 intro wh pins s σ H Q I h;refine isTrue_or (jg (ha pins s σ H Q I h) λc s1 e => ?_)
 cases c with
 | false=>exact isTrue_or_nil e
 | true=>exact e
theorem V1 (ha:PT X a tA)(hb:PW X (.BoolOp .And (b :: rest) pos) tB'):PW X (.BoolOp .And (a :: b :: rest) pos) (Qc tA tB'):=by
 intro wh pins s σ H Q I h;refine isTrue_and (jg (ha pins s σ H _ I h) λc s1 ⟨H1,I1,q1⟩ => ?_)
 cases c with
 | true=>exact hb wh pins s1 σ H1 Q I1 q1
 | false=>exact ⟨H1,I1,q1⟩
theorem Qe (ha:PT X a tA)(hb:PW X (.BoolOp .Or (b :: rest) pos) tB'):PW X (.BoolOp .Or (a :: b :: rest) pos) (Uq tA tB'):=by
 intro wh pins s σ H Q I h;refine isTrue_or (jg (ha pins s σ H _ I h) λc s1 ⟨H1,I1,q1⟩ => ?_)
 cases c with
 | true=>exact ⟨H1,I1,q1⟩
 | false=>exact hb wh pins s1 σ H1 Q I1 q1
theorem V2 (ha:PT X a tA):PT X (.UnaryOp .Not a pos) (Qd tA):=by
 intro pins s σ H Q I h;exact isTrue_not (ha pins s σ H (λc H1=>Q (!c) H1) I h)
def Qf (ta tb:TE):TE:=λσ H Q=>ta σ H λx H1=>∃ c,x=.bl c/\if c=true then tb σ H1 Q else Q (.bl false) H1
def P7 (ta tb:TE):TE:=λσ H Q=>ta σ H λx H1=>∃ c,x=.bl c/\if c=true then Q (.bl true) H1 else tb σ H1 Q
def Qg (ta:TE):TE:=λσ H Q=>ta σ H λx H1=>∃ c,x=.bl c/\Q (.bl (!c)) H1
theorem V3 {op}{t:TE}(h:PE X a t):PE X (.BoolOp op [a] pos) t:=λpins s σ H Q I hw=>BoolOp_one (h pins s σ H Q I hw)
theorem V4 (ha:PE X a ta)(hb:PE X (.BoolOp .And (b :: rest) pos) tb):PE X (.BoolOp .And (a :: b :: rest) pos) (Qf ta tb):=by
 intro pins s σ H Q I h;refine BoolOp_and (jg (ha pins s σ H _ I h) λv s1 ⟨x,H1,I1,r1,q1⟩ => ?_);obtain ⟨c,rfl,q1⟩:=q1;cases r1;refine wpAny_truthy_bool ?_
 cases c with
 | true=>exact hb pins s1 σ H1 Q I1 q1
 | false=>exact ⟨.bl false,H1,I1,rfl,q1⟩
theorem Qh (ha:PE X a ta)(hb:PE X (.BoolOp .Or (b :: rest) pos) tb):PE X (.BoolOp .Or (a :: b :: rest) pos) (P7 ta tb):=by
 intro pins s σ H Q I h;refine BoolOp_or (jg (ha pins s σ H _ I h) λv s1 ⟨x,H1,I1,r1,q1⟩ => ?_);obtain ⟨c,rfl,q1⟩:=q1;cases r1;refine wpAny_truthy_bool ?_
 cases c with
 | false=>exact hb pins s1 σ H1 Q I1 q1
 | true=>exact ⟨.bl true,H1,I1,rfl,q1⟩
theorem V5 (ha:PE X a ta):PE X (.UnaryOp .Not a pos) (Qg ta):=by
 intro pins s σ H Q I h;refine UnaryOp_ (jg (ha pins s σ H _ I h) λv s1 ⟨x,H1,I1,r1,q1⟩ => ?_);obtain ⟨c,rfl,q1⟩:=q1;cases r1;exact not_of (wpAny_truthy_bool ⟨.bl (!c),H1,I1,rfl,q1⟩)
def GJ (t:TT)(ta tb:TE):TE:=λσ H Q=>t σ H λc H1=>if c=true then ta σ H1 Q else tb σ H1 Q
theorem el {c:Expr}(hc:PT X c tA)(ha:PE X a ta)(hb:PE X b tb):PE X (.IfExp c a b pos) (GJ tA ta tb):=by
 intro pins s σ H Q I h;refine wpAny_IfExp (jg (hc pins s σ H _ I h) λd s1 ⟨H1,I1,q1⟩ => ?_)
 cases d with
 | true=>exact ha pins s1 σ H1 Q I1 q1
 | false=>exact hb pins s1 σ H1 Q I1 q1
end
def fw (K:W.Frag)(H:Hp)(a:Addr)(xs:List V):Prop :=
 Rd H a (.lst xs) \/
  ∃ (o:Obj) (its:Array Value) (n:Nat),K.lookup a=some o/\o.cls=.type "list" /\ o.dict=none/\o.data=.seq its n/\its.size<=sizeLine/\zF xs its.toList
def fx (K:W.Frag)(H:Hp)(a:Addr)(xs:List V):Prop :=
 Rd H a (.tup xs) \/
  ∃ (o:Obj) (its:Array Value) (n:Nat),K.lookup a=some o/\o.cls=.type "tuple" /\ o.data=.seq its n/\its.size<=sizeLine/\zF xs its.toList
def P9:Value->Option V
 | .none=>some .non
 | .bool b=>some (.bl b)
 | .int i _=>some (.int i)
 | .str x _=>some (.str x)
 | .bytes b _=>some (.byt b)
 | .float b _=>some (.flt b)
 | .ref a=>some (.ref a)
 | .type n=>some (.ty n)
 | _=>none
theorem RelV.abs {x:V}{u:Value}(r:RelV x u):P9 u=some x:=by
 cases x with
 | non=>cases r;rfl
 | bl _=>cases r;rfl
 | int _=>obtain ⟨t,rfl⟩:=r;rfl
 | str _=>obtain ⟨t,rfl⟩:=r;rfl
 | byt _=>obtain ⟨t,rfl⟩:=r;rfl
 | flt _=>obtain ⟨t,rfl⟩:=r;rfl
 | ref _=>cases r;rfl
 | ty _=>cases r;rfl
theorem RelV.inj {x y:V}{u:Value}(r:RelV x u)(q:RelV y u):x=y:=Option.some.inj (r.abs.symm.trans q.abs)
theorem zF.inj:∀ {xs ys:List V} {us:List Value},zF xs us->zF ys us->xs=ys
 | _,_,_,.nil,.nil=>rfl
 | _,_,_,.cons r t,.cons r' t'=>by rw [r.inj r',zF.inj t t']
section
variable {X:Cx}{pins:List (Addr×Obj)}{σ:St}{H:Hp}{s:Shared}{a:Addr}{xs ys:List V}
theorem zj.list (I:zj X pins σ H s)(h:fw X.K H a xs):∃ its:List Value,zF xs its/\PlainL s.heap a its.toArray/\xs.length<=sizeLine:=by
 rcases h with h | ⟨o,its,n,hk,hc,hd,hs,hz,r⟩
 ·obtain ⟨z,its,n,r,e⟩:=h.ok I.hok
  exact ⟨its,r,⟨_,n,e,rfl,rfl,rfl⟩,z⟩
 ·refine ⟨its.toList,r,⟨o,n,I.kIn a o hk,hc,hd,by simpa using hs⟩,?_⟩
  have e:=r.length;simp only [Array.length_toList] at e;omega
theorem zj.tuple (I:zj X pins σ H s)(h:fx X.K H a xs):∃ its:List Value,zF xs its/\IsTup s.heap a its.toArray/\xs.length<=sizeLine:=by
 rcases h with h | ⟨o,its,n,hk,hc,hs,hz,r⟩
 ·obtain ⟨z,its,r,p⟩:=h.ok I.hok
  exact ⟨its,r,p,z⟩
 ·refine ⟨its.toList,r,⟨o,I.kIn a o hk,hc,n,by simpa using hs⟩,?_⟩
  have e:=r.length;simp only [Array.length_toList] at e;omega
theorem zj.list_inj (I:zj X pins σ H s)(h:fw X.K H a xs)(h':fw X.K H a ys):xs=ys:=by
 obtain ⟨its,r,⟨o,n,e,_,_,d⟩,_⟩:=I.list h;obtain ⟨its',r',⟨o',n',e',_,_,d'⟩,_⟩:=I.list h';rw [e] at e';cases e';rw [d] at d';injection d' with d1 _
 have:its=its':=by simpa using congrArg Array.toList d1
 subst this;exact r.inj r'
theorem zj.tuple_inj (I:zj X pins σ H s)(h:fx X.K H a xs)(h':fx X.K H a ys):xs=ys:=by
 obtain ⟨its,r,⟨o,e,_,n,d⟩,_⟩:=I.tuple h;obtain ⟨its',r',⟨o',e',_,n',d'⟩,_⟩:=I.tuple h';rw [e] at e';cases e';rw [d] at d';injection d' with d1 _
 have:its=its':=by simpa using congrArg Array.toList d1
 subst this;exact r.inj r'
end
section
variable {X:Cx}{st:Stmt}{rest:List Stmt}{t u:TS}{e:Expr}{te:TE}{pos:Pos}
def em:TS:=λD σ H=>D.nx σ H
def u0 (t u:TS):TS:=λD σ H=>t { D with nx:=u D } σ H
theorem lD:hX X [] em:=λ_ _ σ H _ I h=>wpAny_execs_nil ⟨σ,H,I,h⟩
theorem w9 (h1:PS X st t)(h2:hX X rest u):hX X (st :: rest) (u0 t u):=by
 intro pins s σ H D I h;refine wpAny_execs_cons (jg (h1 pins s σ H { D with nx:=u D } I h) λf s1 q => ?_)
 cases f with
 | next =>
  obtain ⟨σ',H',I',q⟩:=q;exact h2 pins s1 σ' H' D I' q
 | ret v=>exact q
 | brk=>exact q
 | cont=>exact q
theorem kc (h1:PS X st t):hX X [st] t:=by
 intro pins s σ H D I h;refine wpAny_execs_cons (jg (h1 pins s σ H D I h) λf s1 q => ?_)
 cases f with
 | next=>exact wpAny_execs_nil q
 | ret v=>exact q
 | brk=>exact q
 | cont=>exact q
def V6:TS:=λD σ H=>D.bk σ H
theorem rH:PS X (.Break pos) V6:=λ_ _ σ H _ I h=>wpAny_Break ⟨σ,H,I,h⟩
theorem zj.quiet {pins:List (Addr×Obj)}{σ:St}{H:Hp}{s:Shared}(I:zj X pins σ H s):interactive X.env=false:=by simp [interactive,I.ok.kind]
def bQ (te:TE):TS:=λD σ H=>te σ H λ_ H1=>D.nx σ H1
theorem vo (he:PE X e te)(hs:swapsWith e none pos.line X.env=pure false:=by rfl):PS X (.Expr e pos) (bQ te):=by
 intro pins s σ H D I h;exact wpAny_Expr_any (jg (he pins s σ H _ I h) λv s1 ⟨x,H1,I1,r1,q1⟩=>⟨σ,H1,I1,q1⟩) I.quiet hs
def Qi (te:TE):TS:=λD σ H=>te σ H D.rt
theorem lF (he:PE X e te):PS X (.Return (some e) pos) (Qi te):=by
 intro pins s σ H D I h;exact wpAny_Return_some (jg (he pins s σ H _ I h) λv s1 ⟨x,H1,I1,r1,q1⟩=>⟨x,σ,H1,I1,r1,q1⟩)
def rJ (c:TT)(t u:TS):TS:=λD σ H=>c σ H λb H1=>if b=true then t D σ H1 else u D σ H1
theorem rK {c:Expr}{a b:List Stmt}{tc:TT}(hc:PT X c tc)(ha:hX X a t)(hb:hX X b u):PS X (.If c a b pos) (rJ tc t u):=by
 intro pins s σ H D I h;refine wpAny_If (jg (hc pins s σ H _ I h) λd s1 ⟨H1,I1,q1⟩ => ?_)
 cases d with
 | true=>exact ha pins s1 σ H1 D I1 q1
 | false=>exact hb pins s1 σ H1 D I1 q1
def fy:TS:=λ_ _ _=>False
theorem rL:PS X st fy:=λ_ _ _ _ _ _ h=>h.elim
theorem tE {sts:List Stmt} : hX X sts fy:=λ_ _ _ _ _ _ h=>h.elim
end
abbrev TG:=V->St->Hp->(St->Hp->Prop)->Prop
abbrev W8:=List V->St->Hp->(St->Hp->Prop)->Prop
def PG (X:Cx)(target:Expr)(t:TG):Prop :=
 ∀ (pins:List (Addr×Obj)) (s:Shared) (σ:St) (H:Hp) (v:V) (u:Value) (Q:St->Hp->Prop),zj X pins σ H s->RelV v u->t v σ H Q ->
  wpAny (model X.prog X.w) X.A (assign target X.env u) (λ_ s'=>∃ σ' H',zj X pins σ' H' s'/\Q σ' H') X.xe s
def Qj (X:Cx)(ts:List Expr)(t:W8):Prop :=
 ∀ (pins:List (Addr×Obj)) (s:Shared) (σ:St) (H:Hp) (vs:List V) (us:List Value) (Q:St->Hp->Prop),zj X pins σ H s->zF vs us->t vs σ H Q ->
  wpAny (model X.prog X.w) X.A (assignInOrder ((assignEach ts X.env).map (·.2)) us) (λ_ s'=>∃ σ' H',zj X pins σ' H' s'/\Q σ' H') X.xe s
abbrev V7:=V->V->V->Hp->(Hp->Prop)->Prop
def Qk (X:Cx)(t:V7):Prop :=
 ∀ (pins:List (Addr×Obj)) (s:Shared) (σ:St) (H:Hp) (o i v:V) (ov iv u:Value) (Q:Hp->Prop),zj X pins σ H s->RelV o ov->RelV i iv->RelV v u->t o i v H Q ->
  wpAny (model X.prog X.w) X.A (setItem ov iv u) (λ_ s'=>∃ H',zj X pins σ H' s'/\Q H') X.xe s
abbrev Pa:=V->V->Hp->VK->Prop
def Ur (X:Cx)(op:Operator)(t:Pa):Prop :=
 ∀ (pins:List (Addr×Obj)) (s:Shared) (σ:St) (H:Hp) (x y:V) (v u:Value) (Q:VK),zj X pins σ H s->RelV x v->RelV y u->t x y H Q ->
  wpAny (model X.prog X.w) X.A (inplaceOp op v u) (EP X pins σ Q) X.xe s
section
variable {X:Cx}{pos:Pos}
def wd (i:Nat):TG:=λv σ H Q=>Q (σ.set i (some v)) H
theorem ke {i:Nat}{x:Str}(hN:X.N.Nodup)(hi:X.N[i]? = some x)(hx:mI X.env.scope x)(hf:X.fn x=true\/X.env.scope.names.lookup x=some .local:=by first | exact .inl rfl | exact .inr rfl | assumption):PG X (.Name x pos) (wd i):=by
 intro pins s σ H v u Q I r h;exact wpAny_assign_Name (qf I hN hi hx r (λs' I'=>⟨_,H,I',h⟩) hf)
def V8:W8:=λvs σ H Q=>vs=[]/\Q σ H
def eu (t:TG)(u:W8):W8:=λvs σ H Q=>∃ v r,vs=v :: r/\t v σ H λσ' H'=>u r σ' H' Q
theorem bR:Qj X [] V8:=by
 intro pins s σ H vs us Q I r h;obtain ⟨e,h⟩:=h;subst e;cases r;exact assignInOrder_nil ⟨σ,H,I,h⟩
theorem uw {e:Expr}{es:List Expr}{t:TG}{u:W8}(h1:PG X e t)(h2:Qj X es u)
  (hs:(assignEach (e :: es) X.env).map (·.2)=assign e X.env :: (assignEach es X.env).map (·.2):=by rfl):Qj X (e :: es) (eu t u):=by
 intro pins s σ H vs us Q I r h;obtain ⟨v,vr,e1,h⟩:=h;subst e1
 cases r with
 | cons r rr =>
  rw [hs];refine assignInOrder_cons (jg (h1 pins s σ H _ _ _ I r h) λ_ s1 ⟨σ1,H1,I1,q1⟩ => ?_);exact h2 pins s1 σ1 H1 _ _ Q I1 rr q1
def V9 (K:W.Frag)(n:Nat)(t:W8):TG:=λv σ H Q=>∃ a xs,v=.ref a/\fx K H a xs/\xs.length=n/\t xs σ H Q
theorem rM {es:List Expr}{k:Nat}{t:W8}{n:Nat}(hc:X.calm=true)(h:Qj X es t)
  (hn:(assignEach es X.env).length=n:=by rfl) (hst:(assignEach es X.env).findIdx? (·.1)=none:=by rfl):PG X (.Tuple es k pos) (V9 X.K n t):=by
 intro pins s σ H v u Q I r hw;obtain ⟨a,xs,e1,hq,hl,hw⟩:=hw;subst e1;cases r;obtain ⟨its,rv,ht,hz⟩:=I.tuple hq;refine assign_Tuple_tuple (I.ok.hd hc) ht (by simp [hn,<- hl,rv.length]) hst λh' hx => ?_;have I1:zj X pins σ H { s with heap:=h' }:=I.kept (t':=s.toks) λb o e=>hx b o (Nat.ne_of_lt (Heap.lt_size e)) e;exact h pins _ σ H xs _ Q I1 (by simpa using rv) hw
def Ql (to ti:TE)(t:V7):TG:=λv σ H Q=>to σ H λo H1=>ti σ H1 λi H2=>t o i v H2 λH3=>Q σ H3
theorem Va {o i:Expr}{to ti:TE}{t:V7}(ho:PE X o to)(hi:PE X i ti)(hs:Qk X t)
  (ha:∀ v,assign (.Subscript o i pos) X.env v=(do
   let ov <- holding [v] (eval o X.env)
   let iv <- holding [v,ov] (eval i X.env)
   standAt pos
   holding [v,ov,iv] (setItem ov iv v)
   release [v,ov,iv] []):=by intro _;rfl):PG X (.Subscript o i pos) (Ql to ti t):=by
 intro pins s σ H v u Q I r h;rw [ha];refine wpAny_bind (wpAny_holding (jg (ho pins s σ H _ I h) λov s1 ⟨x,H1,I1,r1,q1⟩ => ?_));refine wpAny_bind (wpAny_holding (jg (hi pins s1 σ H1 _ I1 q1) λiv s2 ⟨y,H2,I2,r2,q2⟩ => ?_));refine wpAny_bind (wpAny_standAt (wpAny_bind (wpAny_holding (jg (hs pins s2 σ H2 x y v ov iv u _ I2 r1 r2 r q2) λ_ s3 ⟨H3,I3,q3⟩ => ?_))));exact wpAny_release ⟨σ,H3,I3,q3⟩
def lG (te:TE)(g:TG):TS:=λD σ H=>te σ H λx H1=>g x σ H1 D.nx
theorem cz {tg e:Expr}{te:TE}{g:TG}(he:PE X e te)(hg:PG X tg g)(hs:swapsWithSole [tg] e pos.line X.env=pure false:=by rfl)(hw:swappedStores [tg] e X.env=pure none:=by rfl)
  (h1:(assignEach [tg] X.env).map (·.2)=[assign tg X.env]:=by rfl):PS X (.Assign [tg] e pos) (lG te g):=by
 intro pins s σ H D I h;refine wpAny_Assign_stores (jg (he pins s σ H _ I h) λv s1 ⟨x,H1,I1,r1,q1⟩ => ?_) hs hw;rw [h1];exact jg (hg pins s1 σ H1 x v _ I1 r1 q1) λ_ s2 q=>q
theorem cA {i:Nat}{x:Str}{e:Expr}{te:TE}{pos':Pos}(hN:X.N.Nodup)(hi:X.N[i]? = some x)(hx:mI X.env.scope x)(he:PE X e te)(hs:swapsWith e (some (.Name x pos')) pos.line X.env=pure false:=by rfl)(hf:X.fn x=true\/X.env.scope.names.lookup x=some .local:=by first | exact .inl rfl | exact .inr rfl | assumption) :
  PS X (.Assign [.Name x pos'] e pos) (lG te (wd i)):=by
 intro pins s σ H D I h;refine wpAny_Assign_Name (jg (he pins s σ H _ I h) λv s1 ⟨y,H1,I1,r1,q1⟩ => ?_) hs;exact qf I1 hN hi hx r1 (λs2 I2=>⟨_,H1,I2,q1⟩) hf
def Pb (i:Nat)(te:TE)(ti:Pa):TS:=λD σ H=>∃ x,σ[i]? = some (some x)/\te σ H λy H1=>ti x y H1 λz H2=>D.nx (σ.set i (some z)) H2
theorem Vb {i:Nat}{x:Str}{e:Expr}{te:TE}{op:Operator}{ti:Pa}{pos':Pos}(hN:X.N.Nodup)(hi:X.N[i]? = some x)(hx:mI X.env.scope x)(he:PE X e te)(ho:Ur X op ti)(hf:X.fn x=true\/X.env.scope.names.lookup x=some .local:=by first | exact .inl rfl | exact .inr rfl | assumption) :
  PS X (.AugAssign (.Name x pos') op e pos) (Pb i te ti):=by
 intro pins s σ H D I h;obtain ⟨v,e1,h⟩:=h;obtain ⟨m,hn,hl⟩:=I.loc;have vis:cy X.env.scope x:=by rcases hx with k | k;exact .inl k;exact .inr (.inl k)
 obtain ⟨u,r,l⟩:=hl i x v hi e1 vis;refine wpAny_AugAssign_Name ?_
 have go:wpAny (model X.prog X.w) X.A (eval e X.env) (λw s₂=>wpAny (model X.prog X.w) X.A (inplaceOp op u w) (λr s₃=>wpAny (model X.prog X.w) X.A (storeName X.env x r) (λ_=>SP X pins D .next) X.xe s₃) X.xe s₂) X.xe s:=by
  refine jg (he pins s σ H _ I h) λw s1 ⟨y,H1,I1,r1,q1⟩ => ?_;refine jg (ho pins s1 σ H1 v y u w _ I1 r r1 q1) λz s2 ⟨zv,H2,I2,r2,q2⟩ => ?_;exact qf I2 hN hi hx r2 (λs3 I3=>⟨_,H2,I3,q2⟩) hf
 rcases l with ⟨hk,hm⟩ | ⟨hk,c,hc,hcell⟩
 ·exact wpAny_loadName_local I.ok.kind hk hn hm go
 ·rcases hk with hk | hk
  ·exact wpAny_loadName_cell I.ok.kind hk hc hcell go
  ·rcases hx with k | k
   ·have:X.env.scope.names.lookup x=some .free:=hk
    rw [k] at this;cases this
   ·have:X.env.scope.names.lookup x=some .free:=hk
    rw [k] at this;cases this
end
section
variable {X:Cx}{pos:Pos}
def Vc (c:TT)(tb:TS):TS:=λD σ H=>∃ W:Nat->St->Hp->Prop,(∃ m,W m σ H)/\∀ m σ H,W m σ H ->
 c σ H λb H1=>if b=true then ∃ N:St->Hp->Prop,(∀ σ' H',N σ' H'->∃ m',m' < m/\W m' σ' H')/\tb { D with nx:=N,ct:=N,bk:=D.nx } σ H1 else D.nx σ H1
theorem rN {c:Expr}{body:List Stmt}{tc:TT}{tb:TS}(hp:PassesOwn (model X.prog X.w) X.A X.env X.xe)(hc:PT X c tc)(hb:hX X body tb):PS X (.While c body [] pos) (Vc tc tb):=by
 intro pins s σ H D I h;obtain ⟨W,⟨m0,w0⟩,turn⟩:=h;refine wpAny_While (codeAny_whileLoop (λn s'=>∃ σ' H',zj X pins σ' H' s'/\W n σ' H') ?_ m0 ⟨σ,H,I,w0⟩);rintro n s1 ⟨σ1,H1,I1,w1⟩;refine wpAny_passesOwn hp (jg (hc pins s1 σ1 H1 _ I1 (turn n σ1 H1 w1)) λb s2 ⟨H2,I2,q2⟩ => ?_)
 cases b with
 | true =>
  obtain ⟨N,hN,q2⟩:=q2;rw [if_pos rfl];refine wpAny_passesOwn hp (jg (hb pins s2 σ1 H2 _ I2 q2) λf s3 q3 => ?_)
  cases f with
  | next =>
   obtain ⟨σ3,H3,I3,n3⟩:=q3;obtain ⟨m',hm,w3⟩:=hN σ3 H3 n3;exact ⟨m',hm,σ3,H3,I3,w3⟩
  | cont =>
   obtain ⟨σ3,H3,I3,n3⟩:=q3;obtain ⟨m',hm,w3⟩:=hN σ3 H3 n3;exact ⟨m',hm,σ3,H3,I3,w3⟩
  | brk=>exact q3
  | ret v=>exact q3
 | false =>
  rw [if_neg Bool.false_ne_true];exact wpAny_execs_nil ⟨σ1,H2,I2,q2⟩
end
structure It where
 go:Nat->Hp->Prop
 yld:Nat->Hp->V->Hp->Prop
 stop:Nat->Hp->Prop
def gG (X:Cx)(pins:List (Addr×Obj))(H:Hp)(b:Addr):Prop :=
 H b=none/\b≠X.env.locals/\b∉X.fs/\(b∈X.ex\/X.s₀.heap.objs.size<=b)/\(∀ x c,X.env.cells.lookup x=some c->c≠b)/\∀ p∈X.pn ++ pins,p.1≠b
theorem zj.fpOk {X:Cx}{pins:List (Addr×Obj)}{σ:St}{H H':Hp}{s:Shared}{b:Addr}(I:zj X pins σ H s)(hb:s.heap.objs.size<=b)(hn:H' b=none):gG X pins H' b:=by
 refine ⟨hn,Nat.ne_of_gt (Nat.lt_of_lt_of_le I.lt hb),I.nofs hb,.inr (Nat.le_trans I.sz hb),λx c e z => ?_,λp hp z => ?_⟩
 ·obtain ⟨v,q⟩:=I.cell x c e
  exact absurd (Nat.lt_of_lt_of_le q.lt (by rw [z];exact hb)) (Nat.lt_irrefl _)
 ·exact absurd (Nat.lt_of_lt_of_le (Heap.lt_size (I.pin p hp).1) (by rw [z];exact hb)) (Nat.lt_irrefl _)
structure tF (P:Program) (w:World) (K:W.Frag) (tg:Expr) (J:It) (fp:List Addr) (it:Addr) (tn:Nat->Heap->Prop):Prop where
 mem:it∈fp
 obj:∀ i h,tn i h->∀ b∈fp,∃ o,h.get? b=some o/\∀ v,o.data≠.cell v
 keep:∀ i h h',tn i h->(∀ b∈fp,∀ o,h.get? b=some o->h'.get? b=some o)->tn i h'
 item:∀ (X:Cx),X.prog=P->X.w=w->X.K=K->X.calm=true->∀ (i:Nat) (pins:List (Addr×Obj)) (s:Shared) (σ:St) (H:Hp) (E:Value->Shared->Prop),zj X pins σ H s->(∀ b∈fp,gG X pins H b)->tn i s.heap->J.go i H ->
  wpAny (model P w) X.A (pyNext (.ref it)) (λr s1=>∃ u,r=some u /\
   wpAny (model P w) X.A (letOwnedTupleGo tg (.ref it) u) (λ_ s2=>∃ x H',zj X pins σ H' s2/\RelV x u/\J.yld i H x H'/\tn (i + 1) s2.heap/\∀ b∈fp,H' b=none) E s1) E s
 done:∀ (X:Cx),X.prog=P->X.w=w->X.K=K->X.calm=true->∀ (i:Nat) (pins:List (Addr×Obj)) (s:Shared) (σ:St) (H:Hp) (E:Value->Shared->Prop),zj X pins σ H s->(∀ b∈fp,gG X pins H b)->tn i s.heap->J.stop i H ->
  wpAny (model P w) X.A (pyNext (.ref it)) (λr s1=>r=none/\zj X pins σ H s1) E s
 self:∀ (A:Around) (i:Nat) (s:Shared) (Q:Value->Shared->Prop) (E:Value->Shared->Prop),tn i s.heap->Q (.ref it) s->wpAny (model P w) A (pyIter (.ref it)) Q E s
abbrev TI:=St->Hp->(It->Hp->Prop)->Prop
def Pc (X:Cx)(pins:List (Addr×Obj))(σ:St)(tg:Expr)(R:It->Hp->Prop)(itv:Value)(s2:Shared):Prop :=
 ∃ (it:Addr) (fp:List Addr) (tn:Nat->Heap->Prop) (J:It) (H':Hp),itv=.ref it/\zj X pins σ H' s2/\tF X.prog X.w X.K tg J fp it tn/\tn 0 s2.heap/\(∀ b∈fp,gG X pins H' b)/\R J H'
def PI (X:Cx)(tg iter:Expr)(wi:TI):Prop :=
 ∀ (pins:List (Addr×Obj)) (s:Shared) (σ:St) (H:Hp) (R:It->Hp->Prop),zj X pins σ H s->wi σ H R ->
  wpAny (model X.prog X.w) X.A (eval iter X.env) (λv s1=>wpAny (model X.prog X.w) X.A (pyIter v) (Pc X pins σ tg R) X.xe s1) X.xe s
theorem bS {M:Model}{A:Around}{E:Value->Shared->Prop}{s:Shared}{tg:Expr}{it:Addr}{u:Value}{o:Obj}{n:String}{vs:Array Value}{Q:Unit->Shared->Prop}(ho:s.heap.get? it=some o)(hc:o.cls=.type n)(hd:o.data=.fields vs)
  (hn:["enumerate","zip","dict_itemiterator","dict_reverseitemiterator","odict_iterator","itertools.zip_longest","itertools.pairwise"].contains n=false) (hQ:Q () s):wpAny M A (letOwnedTupleGo tg (.ref it) u) Q E s:=by
 unfold letOwnedTupleGo
 cases tg<;>first
  | exact wpAny_pure hQ
  | (cases u<;>first
    | exact wpAny_pure hQ
    | (
     refine wpAny_bind (wpAny_load ho ?_);rw [hc,hd];show wpAny M A (if (["enumerate","zip","dict_itemiterator","dict_reverseitemiterator","odict_iterator","itertools.zip_longest","itertools.pairwise"].contains n && vs[0]? == some (rawInt _))=true then _ else _) Q E s;rw [if_neg (by intro h;rw [hn,Bool.false_and] at h;cases h)];exact wpAny_pure hQ))
def Pd (K:W.Frag)(a:Addr):It :=
 ⟨λi H=>∃ xs x,fw K H a xs/\xs[i]? = some x,λi H x H'=>H'=H/\∀ xs,fw K H a xs->xs[i]? = some x,λi H=>∃ xs,fw K H a xs/\xs.length<=i⟩
def Pe (K:W.Frag)(a:Addr):It :=
 ⟨λi H=>∃ xs x,fx K H a xs/\xs[i]? = some x,λi H x H'=>H'=H/\∀ xs,fx K H a xs->xs[i]? = some x,λi H=>∃ xs,fx K H a xs/\xs.length<=i⟩
def GK (lo:Int)(n:Nat):It:=⟨λi _=>i < n,λi H x H'=>H'=H/\x=.int (lo + i),λi _=>n<=i⟩
theorem tG {P:Program}{w:World}{K:W.Frag}{tg:Expr}(a it:Addr):tF P w K tg (Pd K a) [it] it (λi h=>h.IsListIter it a i) where
 mem:=by simp
 obj:=λi h st b hb=>by
  have e:b=it:=by simpa using hb
  subst e;obtain ⟨o,e,c,d⟩:=st;exact ⟨o,e,λv z=>by rw [d] at z;cases z⟩
 keep:=λi h h' st k=>st.at λo e=>k it (by simp) o e
 item:=by
  intro X hP hw hK hc i pins s σ H E I hf st hg;subst hP hw hK;obtain ⟨xs,x,hq,hx⟩:=hg;obtain ⟨its,rv,p,hz⟩:=I.list hq;obtain ⟨u,hu,ru⟩:=rv.get hx;obtain ⟨f0,f1,f2,f3,f4,f5⟩:=hf it (by simp);refine wpAny_pyNext_list_item st p.isList (x:=u) (by simpa using hu) λh' st' sb => ?_;have I1:zj X pins σ H { s with heap:=h' }:=I.turned (t':=s.toks) (λb o hb e=>(sb.2 b hb).trans e) f0 f1 f3 f4 f5;obtain ⟨o,e,c,d⟩:=id st';exact ⟨u,rfl,bS (s:={ s with heap:=h' }) e c d (by decide) ⟨x,H,I1,ru,⟨rfl,λys hy=>by rw [I.list_inj hy hq];exact hx⟩,st',λb hb=>(hf b hb).1⟩⟩
 done:=by
  intro X hP hw hK hc i pins s σ H E I hf st hg;subst hP hw hK;obtain ⟨xs,hq,hx⟩:=hg;obtain ⟨its,rv,p,hz⟩:=I.list hq;obtain ⟨f0,f1,f2,f3,f4,f5⟩:=hf it (by simp);have hl:=rv.length;exact wpAny_pyNext_list_end (I.ok.hd hc) st p.isList (by simp;omega) λh' eb=>⟨rfl,I.turned (t':=s.toks) (λb o hb e=>eb b o hb e) f0 f1 f3 f4 f5⟩
 self:=λ_ _ _ _ _ st h=>wpAny_pyIter_listiter st h
theorem cB {P:Program}{w:World}{K:W.Frag}{tg:Expr}(a it:Addr):tF P w K tg (Pe K a) [it] it (λi h=>h.IsTupleIter it a i) where
 mem:=by simp
 obj:=λi h st b hb=>by
  have e:b=it:=by simpa using hb
  subst e;obtain ⟨o,e,c,d⟩:=st;exact ⟨o,e,λv z=>by rw [d] at z;cases z⟩
 keep:=λi h h' st k=>st.at λo e=>k it (by simp) o e
 item:=by
  intro X hP hw hK hc i pins s σ H E I hf st hg;subst hP hw hK;obtain ⟨xs,x,hq,hx⟩:=hg;obtain ⟨its,rv,p,hz⟩:=I.tuple hq;obtain ⟨u,hu,ru⟩:=rv.get hx;obtain ⟨f0,f1,f2,f3,f4,f5⟩:=hf it (by simp);refine wpAny_pyNext_tuple_item st (show s.heap.IsTuple a its.toArray from p) (x:=u) (by simpa using hu) λh' st' sb => ?_;have I1:zj X pins σ H { s with heap:=h' }:=I.turned (t':=s.toks) (λb o hb e=>(sb.2 b hb).trans e) f0 f1 f3 f4 f5;obtain ⟨o,e,c,d⟩:=id st';exact ⟨u,rfl,bS (s:={ s with heap:=h' }) e c d (by decide) ⟨x,H,I1,ru,⟨rfl,λys hy=>by rw [I.tuple_inj hy hq];exact hx⟩,st',λb hb=>(hf b hb).1⟩⟩
 done:=by
  intro X hP hw hK hc i pins s σ H E I hf st hg;subst hP hw hK;obtain ⟨xs,hq,hx⟩:=hg;obtain ⟨its,rv,p,hz⟩:=I.tuple hq;obtain ⟨f0,f1,f2,f3,f4,f5⟩:=hf it (by simp);have hl:=rv.length;exact wpAny_pyNext_tuple_end (I.ok.hd hc) st (show s.heap.IsTuple a its.toArray from p) (by simp;omega) λh' eb=>⟨rfl,I.turned (t':=s.toks) (λb o hb e=>eb b o hb e) f0 f1 f3 f4 f5⟩
 self:=λ_ _ _ _ _ st h=>wpAny_pyIter_tupleiter st h
theorem cC {P:Program}{w:World}{K:W.Frag}{tg:Expr}(it:Addr)(lo:Int)(n:Nat):tF P w K tg (GK lo n) [it] it (λi h=>IsRangeIter h it (lo + (i:Nat) * 1) ((n:Int) - (i:Nat)) 1) where
 mem:=by simp
 obj:=λi h st b hb=>by
  have e:b=it:=by simpa using hb
  subst e
  exact ⟨_,st,λv z=>by
   have z':Data.fields _=Data.cell v:=z;cases z'⟩
 keep:=λi h h' st k=>k it (by simp) _ st
 item:=by
  intro X hP hw hK hc i pins s σ H E I hf st hg;subst hP hw hK;obtain ⟨f0,f1,f2,f3,f4,f5⟩:=hf it (by simp);have W:=Walks.range (prog:=X.prog) (w:=X.w) (I.ok.hd hc) it lo 1 n;refine W.item i s _ _ hg st λv h' tk hv st' kk => ?_;obtain ⟨t,rfl⟩:=hv;have I1:zj X pins σ H { s with heap:=h',toks:=tk }:=I.turned (λb o hb e=>kk b o (by simpa using hb) e) f0 f1 f3 f4 f5;refine ⟨_,rfl,bS (s:={ s with heap:=h',toks:=tk }) (n := "range_iterator") st' rfl rfl (by decide) ⟨.int (lo + i),H,I1,⟨t,?_⟩,⟨rfl,rfl⟩,st',λb hb=>(hf b hb).1⟩⟩;rw [Int.mul_one]
 done:=by
  intro X hP hw hK hc i pins s σ H E I hf st hg;subst hP hw hK;obtain ⟨f0,f1,f2,f3,f4,f5⟩:=hf it (by simp);exact wpAny_pyNext_range_end (I.ok.hd hc) st (by have:n<=i:=hg;omega) λh' eb=>⟨rfl,I.turned (t':=s.toks) (λb o hb e=>eb b o hb e) f0 f1 f3 f4 f5⟩
 self:=λ_ _ _ _ _ st h=>wpAny_pyIter_rangeiter st h
section
variable {X:Cx}{tg:Expr}
def W9 (K:W.Frag)(tl:TE):TI:=λσ H R=>tl σ H λx H1=>∃ a,x=.ref a/\(∃ xs,fw K H1 a xs)/\R (Pd K a) H1
def Qm (K:W.Frag)(tl:TE):TI:=λσ H R=>tl σ H λx H1=>∃ a,x=.ref a/\(∃ xs,fx K H1 a xs)/\R (Pe K a) H1
theorem Yj {l:Expr}{tl:TE}(hl:PE X l tl):PI X tg l (W9 X.K tl):=by
 intro pins s σ H R I h;refine jg (hl pins s σ H _ I h) λv s1 ⟨x,H1,I1,r1,q1⟩ => ?_;obtain ⟨a,e,⟨xs,hq⟩,q⟩:=q1;subst e;cases r1;obtain ⟨its,rv,p,hz⟩:=I1.list hq;refine wpAny_pyIter_list p.isList ?_;refine ⟨s1.heap.objs.size,[s1.heap.objs.size],_,_,H1,rfl,I1.kept (t':=s1.toks) λb o e=>Heap.get?_push_of_some _ e,tG a _,⟨_,Heap.get?_push_size _ rfl,rfl,rfl⟩,λb hb => ?_,q⟩;have e:b=s1.heap.objs.size:=by simpa using hb
 subst e;exact I1.fpOk (Nat.le_refl _) (I1.hok.fresh (Nat.le_refl _))
theorem Vd {l:Expr}{tl:TE}(hl:PE X l tl):PI X tg l (Qm X.K tl):=by
 intro pins s σ H R I h;refine jg (hl pins s σ H _ I h) λv s1 ⟨x,H1,I1,r1,q1⟩ => ?_;obtain ⟨a,e,⟨xs,hq⟩,q⟩:=q1;subst e;cases r1;obtain ⟨its,rv,p,hz⟩:=I1.tuple hq;refine wpAny_pyIter_tuple (show s1.heap.IsTuple a its.toArray from p) ?_;refine ⟨s1.heap.objs.size,[s1.heap.objs.size],_,_,H1,rfl,I1.kept (t':=s1.toks) λb o e=>Heap.get?_push_of_some _ e,cB a _,⟨_,Heap.get?_push_size _ rfl,rfl,rfl⟩,λb hb => ?_,q⟩;have e:b=s1.heap.objs.size:=by simpa using hb
 subst e;exact I1.fpOk (Nat.le_refl _) (I1.hok.fresh (Nat.le_refl _))
theorem rO {pins:List (Addr×Obj)}{σ:St}{H:Hp}{s:Shared}{R:It->Hp->Prop}{E:Value->Shared->Prop}{lo hi:Int}{t u v:Tok}{tk:Nat}(I:zj X pins σ H s)(h1 : -(2 ^ 62)<=lo)(h2:lo < 2 ^ 62)(h3 : -(2 ^ 62)<=hi)(h4:hi < 2 ^ 62)
  (q:R (GK lo (hi - lo).toNat) H):wpAny (model X.prog X.w) X.A (pyIter (.ref s.heap.objs.size)) (Pc X pins σ tg R) E { s with heap:=s.heap.push { cls:=.type "range",data:=.fields #[.int lo t,.int hi u,.int 1 v] },toks:=tk }:=by
 refine wpAny_pyIter_range (IsRange.new ..) (small_one h1 h2 h3 h4) ?_;have I1:zj X pins σ H { s with heap:=s.heap.push { cls:=.type "range",data:=.fields #[.int lo t,.int hi u,.int 1 v] },toks:=tk }:=I.kept λb o e=>Heap.get?_push_of_some _ e
 refine ⟨(s.heap.push { cls:=.type "range",data:=.fields #[.int lo t,.int hi u,.int 1 v] }).objs.size,[(s.heap.push { cls:=.type "range",data:=.fields #[.int lo t,.int hi u,.int 1 v] }).objs.size],_,_,H,rfl,
  I1.kept (t':=tk) λb o e=>Heap.get?_push_of_some _ e,cC _ lo (hi - lo).toNat,?_,λb hb => ?_,q⟩
 ·have e1:lo + ((0:Nat):Int) * 1=lo:=by simp
  have e2:(((hi - lo).toNat:Nat):Int) - ((0:Nat):Int)=Builtin.Range.rangeSize lo hi 1:=by rw [rangeSize_one];split<;>omega
  show IsRangeIter _ _ (lo + ((0:Nat):Int) * 1) ((((hi - lo).toNat:Nat):Int) - ((0:Nat):Int)) 1;rw [e1,e2];exact Heap.get?_push_size _ rfl
 ·have e:b=(s.heap.push { cls:=.type "range",data:=.fields #[.int lo t,.int hi u,.int 1 v] }).objs.size:=by simpa using hb
  subst e;exact I1.fpOk (Nat.le_refl _) (I1.hok.fresh (Nat.le_refl _))
def Qn (ta:TA):TI:=λσ H R=>ta σ H λvs H1=>∃ j:Int,vs=[.int j] /\ -(2 ^ 62)<=j/\j < 2 ^ 62/\R (GK 0 j.toNat) H1
theorem tH {a:Expr}{ta:TA}{p pos:Pos}(hg:Gl X "range")(hm:X.mg "range" = none)(ha:PA X [a] ta)(hs:starEach [a] X.env=[(false,eval a X.env)]:=by rfl):PI X tg (.Call (.Name "range" p) [a] [] pos) (Qn ta):=by
 intro pins s σ H R I h;refine Call_ (gg I hg hm boot_range (PyProof.Rows.callWith_type1 (jg (ha pos pins s σ H _ I h) λus s1 ⟨vs,H1,I1,r1,q1⟩ => ?_) hs rfl));obtain ⟨j,e,q1,q2,q⟩:=q1;subst e
 cases r1 with
 | cons r rr =>
  cases rr;obtain ⟨t,rfl⟩:=r;exact call_range_1 (rO I1 (by omega) (by omega) q1 q2 (by simpa using q))
def Ve (wi:TI)(g:TG)(tb:TS):TS:=λD σ H=>wi σ H λJ H1=>∃ W:Nat->Nat->St->Hp->Prop,(∃ m,W 0 m σ H1)/\∀ i m σ H,W i m σ H ->
 (J.stop i H/\D.nx σ H)\/(J.go i H/\∃ N:St->Hp->Prop,(∀ σ' H',N σ' H'->∃ m',m' < m/\W (i + 1) m' σ' H')/\∀ x H',J.yld i H x H'->g x σ H' λσ2 H2=>tb { D with nx:=N,ct:=N,bk:=D.nx } σ2 H2)
def fB (fp:List Addr)(h:Heap):List (Addr×Obj):=fp.filterMap λb=>(h.get? b).map λo=>(b,o)
theorem jZ {fp:List Addr}{h:Heap}{b:Addr}{o:Obj}(hb:b∈fp)(e:h.get? b=some o):(b,o)∈fB fp h:=List.mem_filterMap.mpr ⟨b,hb,by rw [e];rfl⟩
theorem tI {fp:List Addr}{h:Heap}{p:Addr×Obj}(hp:p∈fB fp h):p.1∈fp/\h.get? p.1=some p.2:=by
 obtain ⟨b,hb,e⟩:=List.mem_filterMap.mp hp
 cases q:h.get? b with
 | none=>rw [q] at e;cases e
 | some o =>
  rw [q] at e;have e':(b,o)=p:=Option.some.inj e;subst e';exact ⟨hb,q⟩
theorem zj.pinned {pins:List (Addr×Obj)}{σ:St}{H:Hp}{s:Shared}{fp:List Addr}(I:zj X pins σ H s)(hf:∀ b∈fp,gG X pins H b)(ho:∀ b∈fp,∃ o,s.heap.get? b=some o/\∀ v,o.data≠.cell v):zj X (pins ++ fB fp s.heap) σ H s :=
 I.pins_of λp hp=>(List.mem_append.mp hp).elim (λz=>I.pin p (List.mem_append_right _ z)) λz=>by
  obtain ⟨hb,e⟩:=tI z;obtain ⟨f0,f1,f2,_⟩:=hf p.1 hb;obtain ⟨o,e',d⟩:=ho p.1 hb;rw [e] at e';cases e';exact ⟨e,f0,f1,f2,d⟩
theorem zj.unpinned {pins pl:List (Addr×Obj)}{σ:St}{H:Hp}{s:Shared}(I:zj X (pins ++ pl) σ H s):zj X pins σ H s:=I.pins_of λp hp=>I.pin p (List.mem_append_right _ (List.mem_append_left _ hp))
theorem cD {iter:Expr}{body:List Stmt}{wi:TI}{g:TG}{tb:TS}{pos:Pos}(hp:PassesOwn (model X.prog X.w) X.A X.env X.xe)(hc:X.calm=true)(hi:PI X tg iter wi)(hg:PG X tg g)(hb:hX X body tb)
  (hs:∀ x,foldedSetIterable iter X.env x=pure x:=by intro _;rfl):PS X (.For tg iter body [] pos) (Ve wi g tb):=by
 intro pins s σ H D I h;refine wpAny_For (jg (hi pins s σ H _ I h) λv s1 h1=>jg h1 λitv s2 h2 => ?_) hs;obtain ⟨it,fp,tn,J,H2,e,I2,T,st2,f2,W,⟨m0,w0⟩,turn⟩:=h2;subst e
 -- what stays true of the iterator's objects through the loop
 have stat:∀ {H':Hp},(∀ b∈fp,H' b=none)->∀ b∈fp,gG X pins H' b:=λhn b hb=>⟨hn b hb,(f2 b hb).2⟩;refine codeAny_forLoop_any (λn s'=>∃ i σ' H',zj X pins σ' H' s'/\tn i s'.heap/\(∀ b∈fp,H' b=none)/\W i n σ' H') ?_ m0 ⟨0,σ,H2,I2,st2,λb hb=>(f2 b hb).1,w0⟩;rintro n s3 ⟨i,σ3,H3,I3,st3,fr3,w3⟩
 rcases turn i n σ3 H3 w3 with ⟨stop,qn⟩ | ⟨go,N,hN,step⟩
 ·refine wpAny_passesOwn hp (jg (T.done X rfl rfl rfl hc i pins s3 σ3 H3 X.xe I3 (stat fr3) st3 stop) λr s4 ⟨hr,I4⟩ => ?_)
  subst hr;exact wpAny_execs_nil ⟨σ3,H3,I4,qn⟩
 ·refine wpAny_passesOwn hp (jg (T.item X rfl rfl rfl hc i pins s3 σ3 H3 X.xe I3 (stat fr3) st3 go) λr s4 ⟨u,hr,h4⟩ => ?_)
  subst hr;refine wpAny_passesOwn hp (jg h4 λ_ s5 ⟨x,H5,I5,r5,y5,st5,fr5⟩ => ?_);have I5':=I5.pinned (stat fr5) (T.obj _ _ st5);refine wpAny_passesOwn hp (jg (hg _ s5 σ3 H5 x u _ I5' r5 (step x H5 y5)) λ_ s6 ⟨σ6,H6,I6,q6⟩ => ?_);refine wpAny_passesOwn hp (jg (hb _ s6 σ6 H6 _ I6 q6) λf s7 q7 => ?_)
  have again:∀ {σ7:St} {H7:Hp},zj X (pins ++ fB fp s5.heap) σ7 H7 s7->N σ7 H7->∃ m,m < n/\∃ i σ' H',zj X pins σ' H' s7/\tn i s7.heap/\(∀ b∈fp,H' b=none)/\W i m σ' H':=λ{σ7 H7} I7 n7=>by
   obtain ⟨m',hm,w7⟩:=hN σ7 H7 n7;refine ⟨m',hm,i + 1,σ7,H7,I7.unpinned,T.keep _ _ _ st5 λb hb o e=>(I7.pin (b,o) (List.mem_append_right _ (List.mem_append_right _ (jZ hb e)))).1,λb hb => ?_,w7⟩;obtain ⟨o,e,d⟩:=T.obj _ _ st5 b hb;exact (I7.pin (b,o) (List.mem_append_right _ (List.mem_append_right _ (jZ hb e)))).2.1
  cases f with
  | next=>obtain ⟨σ7,H7,I7,n7⟩:=q7;exact again I7 n7
  | cont=>obtain ⟨σ7,H7,I7,n7⟩:=q7;exact again I7 n7
  | brk=>obtain ⟨σ7,H7,I7,q7⟩:=q7;exact ⟨σ7,H7,I7.unpinned,q7⟩
  | ret v=>obtain ⟨x7,σ7,H7,I7,r7,q7⟩:=q7;exact ⟨x7,σ7,H7,I7.unpinned,r7,q7⟩
end
abbrev R2:=V->V->Hp->VK->Prop
def vm (X:Cx)(f:Value->Value->Sem Value)(r:R2):Prop :=
 ∀ (pins:List (Addr×Obj)) (s:Shared) (σ:St) (H:Hp) (x y:V) (v u:Value) (Q:VK),zj X pins σ H s->RelV x v->RelV y u->r x y H Q ->
  wpAny (model X.prog X.w) X.A (f v u) (EP X pins σ Q) X.xe s
def Pf (X:Cx)(f:Value->Sem Value)(r:V->Hp->VK->Prop):Prop :=
 ∀ (pins:List (Addr×Obj)) (s:Shared) (σ:St) (H:Hp) (x:V) (v:Value) (Q:VK),zj X pins σ H s->RelV x v->r x H Q ->
  wpAny (model X.prog X.w) X.A (f v) (EP X pins σ Q) X.xe s
def we (X:Cx)(f:Value)(r:List V->Hp->VK->Prop):Prop :=
 ∀ (pins:List (Addr×Obj)) (s:Shared) (σ:St) (H:Hp) (xs:List V) (us:List Value) (Q:VK),zj X pins σ H s->zF xs us->r xs H Q ->
  wpAny (model X.prog X.w) X.A (call f us) (EP X pins σ Q) X.xe s
def Pg (X:Cx)(r:V->Hp->(Bool->Hp->Prop)->Prop):Prop :=
 ∀ (pins:List (Addr×Obj)) (s:Shared) (σ:St) (H:Hp) (x:V) (v:Value) (Q:Bool->Hp->Prop),zj X pins σ H s->RelV x v->r x H Q ->
  wpAny (model X.prog X.w) X.A (truthy v) (TP X pins σ Q) X.xe s
def Qo (r:R2)(ta tb:TE):TE:=λσ H Q=>ta σ H λx H1=>tb σ H1 λy H2=>r x y H2 Q
def UK (r:V->Hp->VK->Prop)(ta:TE):TE:=λσ H Q=>ta σ H λx H1=>r x H1 Q
def rI (C:Int->Int->Prop)(g:Int->Int->V):R2:=λx y H Q=>∃ i j,x=.int i/\y=.int j/\C i j/\Q (g i j) H
def Vf (g:Int->Int->V):R2:=λx y H Q=>∃ i j,x=.int i/\y=.int j/\Q (g i j) H
def rU (g:Int->V):V->Hp->VK->Prop:=λx H Q=>∃ i,x=.int i/\Q (g i) H
section
variable {X:Cx}{a b c:Expr}{ta tb tc:TE}{pos:Pos}
theorem Vg (ha:PE X a ta)(hb:PE X b tb){pins:List (Addr×Obj)}{s:Shared}{σ:St}{H:Hp}{R:V->V->Hp->Prop}(I:zj X pins σ H s)
  (h:ta σ H λx H1=>tb σ H1 λy H2=>R x y H2) {Q:Value->Shared->Prop} {f:Value->Value->Sem Value}
  (hf:∀ v u s2 x y H2,zj X pins σ H2 s2->RelV x v->RelV y u->R x y H2->wpAny (model X.prog X.w) X.A (f v u) Q X.xe s2) :
  wpAny (model X.prog X.w) X.A (eval a X.env) (λv s₁=>wpAny (model X.prog X.w) X.A (eval b X.env) (λu s₂=>wpAny (model X.prog X.w) X.A (f v u) Q X.xe s₂) X.xe s₁) X.xe s:=by
 refine jg (ha pins s σ H _ I h) λv s1 ⟨x,H1,I1,r1,q1⟩ => ?_;refine jg (hb pins s1 σ H1 _ I1 q1) λu s2 ⟨y,H2,I2,r2,q2⟩ => ?_;exact hf v u s2 x y H2 I2 r1 r2 q2
theorem Qp {op:Operator}{r:R2}(ho:vm X (binaryOp op) r)(ha:PE X a ta)(hb:PE X b tb):PE X (.BinOp a op b pos) (Qo r ta tb):=by
 intro pins s σ H Q I h;exact wpAny_BinOp (Vg ha hb I h λv u s2 x y H2 I2 rx ry q=>ho pins s2 σ H2 x y v u Q I2 rx ry q)
theorem Qq {op:UnaryOp}{r:V->Hp->VK->Prop}(ho:Pf X (unaryOp op) r)(ha:PE X a ta):PE X (.UnaryOp op a pos) (UK r ta):=by
 intro pins s σ H Q I h;exact UnaryOp_ (jg (ha pins s σ H _ I h) λv s1 ⟨x,H1,I1,r1,q1⟩=>ho pins s1 σ H1 x v Q I1 r1 q1)
theorem Ph {f:Value->Value->Sem Value}{C:Int->Int->Prop}{g:Int->Int->Int}
  (rule:∀ (i j:Int) (t u:Tok) (s:Shared) (Q:Value->Shared->Prop) (E:Value->Shared->Prop),C i j->Q (.int (g i j) s.toks) { s with toks:=s.toks + 1 } -> wpAny (model X.prog X.w) X.A (f (.int i t) (.int j u)) Q E s) :
  vm X f (rI C λi j=>.int (g i j)):=by
 intro pins s σ H x y v u Q I rx ry h;obtain ⟨i,j,rfl,rfl,hc,q⟩:=h;obtain ⟨t,rfl⟩:=rx;obtain ⟨t',rfl⟩:=ry;exact rule i j t t' s _ _ hc ⟨.int (g i j),H,I.tok _,⟨_,rfl⟩,q⟩
theorem Qr {f:Value->Value->Sem Value}{g:Int->Int->Int}
  (rule:∀ (i j:Int) (t u:Tok) (s:Shared) (Q:Value->Shared->Prop) (E:Value->Shared->Prop),Q (.int (g i j) s.toks) { s with toks:=s.toks + 1 } -> wpAny (model X.prog X.w) X.A (f (.int i t) (.int j u)) Q E s) :
  vm X f (Vf λi j=>.int (g i j)):=by
 intro pins s σ H x y v u Q I rx ry h;obtain ⟨i,j,rfl,rfl,q⟩:=h;obtain ⟨t,rfl⟩:=rx;obtain ⟨t',rfl⟩:=ry;exact rule i j t t' s _ _ ⟨.int (g i j),H,I.tok _,⟨_,rfl⟩,q⟩
theorem Vh {f:Value->Value->Sem Value}{g:Int->Int->Bool}
  (rule:∀ (i j:Int) (t u:Tok) (s:Shared) (Q:Value->Shared->Prop) (E:Value->Shared->Prop),Q (.bool (g i j)) s->wpAny (model X.prog X.w) X.A (f (.int i t) (.int j u)) Q E s) :
  vm X f (Vf λi j=>.bl (g i j)):=by
 intro pins s σ H x y v u Q I rx ry h;obtain ⟨i,j,rfl,rfl,q⟩:=h;obtain ⟨t,rfl⟩:=rx;obtain ⟨t',rfl⟩:=ry;exact rule i j t t' s _ _ ⟨.bl (g i j),H,I,rfl,q⟩
def rP (i j:Int):Prop:=0 < j/\j < 1073741824
def tJ (i j:Int):Prop:=0<=j/\j<=1000000/\i.natAbs < 2 ^ 64
def Vi (i j:Int):Prop:=(-(2 ^ 64) < i/\i < 2 ^ 64)\/(-(2 ^ 64) < j/\j < 2 ^ 64)
theorem Vj:vm X (binaryOp .Add) (Vf λi j=>.int (i + j)):=Qr λ_ _ _ _ _ _ _ q=>add_int q
theorem Vk:vm X (binaryOp .Sub) (Vf λi j=>.int (i - j)):=Qr λ_ _ _ _ _ _ _ q=>sub_int q
theorem Yk:vm X (binaryOp .FloorDiv) (rI rP λi j=>.int (i / j)):=Ph λi j _ _ _ _ _ hc q=>by
 have h1:(0:Int) < j:=hc.1;have h2:j < 1073741824:=hc.2;exact floordiv_int (by omega) (by rw [Int.fdiv_eq_ediv_of_nonneg i (by omega)];exact q) (.inl (PyProof.noPylong_small (by omega)))
theorem Vl:vm X (binaryOp .Mod) (rI (λ_ j=>0 < j) λi j=>.int (i % j)):=Ph λi j _ _ _ _ _ hc q=>by
 have h1:(0:Int) < j:=hc;exact mod_int' (by omega) (by rw [Int.fmod_eq_emod_of_nonneg i (by omega)];exact q)
theorem Vm:vm X (binaryOp .Pow) (rI tJ λi j=>.int (i ^ j.toNat)):=Ph λ_ _ _ _ _ _ _ hc q=>pow_int_small hc.1 hc.2.1 hc.2.2 q
theorem UL {f:Value->Sem Value}{g:Int->Int}
  (rule:∀ (i:Int) (t:Tok) (s:Shared) (Q:Value->Shared->Prop) (E:Value->Shared->Prop),Q (.int (g i) s.toks) { s with toks:=s.toks + 1 } -> wpAny (model X.prog X.w) X.A (f (.int i t)) Q E s) :
  Pf X f (rU λi=>.int (g i)):=by
 intro pins s σ H x v Q I rx h;obtain ⟨i,rfl,q⟩:=h;obtain ⟨t,rfl⟩:=rx;exact rule i t s _ _ ⟨.int (g i),H,I.tok _,⟨_,rfl⟩,q⟩
theorem Vn:Pf X (unaryOp .USub) (rU λi=>.int (-i)):=UL λ_ _ _ _ _ q=>neg_int q
end
section
variable {X:Cx}{a b c:Expr}{ta tb tc:TE}{pos:Pos}
theorem ux {pins:List (Addr×Obj)}{σ:St}{H:Hp}{s:Shared}{Q:VK}{k k':Bool}(I:zj X pins σ H s)(q:Q (.bl k) H)(e:k=k'):EP X pins σ Q (.bool k') s:=by
 subst e;exact ⟨.bl k,H,I,rfl,q⟩
theorem Qs:vm X (compareOp .Lt) (Vf λi j=>.bl (decide (i < j))):=Vh λ_ _ _ _ _ _ _ q=>lt_int q
theorem Qt:vm X (compareOp .LtE) (Vf λi j=>.bl (decide (i<=j))):=Vh λ_ _ _ _ _ _ _ q=>le_int q
theorem Qu:vm X (compareOp .Gt) (Vf λi j=>.bl (decide (j < i))):=Vh λ_ _ _ _ _ _ _ q=>gt_int q
theorem tK:vm X (compareOp .Lt) (λx y H Q=>∃ i j,x=.str i/\y=.str j/\Q (.bl (decide (i.cps.toList < j.cps.toList))) H):=by
 intro pins s σ H x y v u Q I rx ry h;obtain ⟨i,j,rfl,rfl,q⟩:=h;obtain ⟨t,rfl⟩:=rx;obtain ⟨t',rfl⟩:=ry;exact lt_str (ux I q rfl)
theorem Vo:vm X (compareOp .Is) (λx y H Q=>y=.non/\Q (.bl (decide (x=.non))) H):=by
 intro pins s σ H x y v u Q I rx ry h;obtain ⟨rfl,q⟩:=h;cases ry;refine is_none_gen (ux I q ?_)
 cases x<;>first
  | (cases rx;rfl)
  | (obtain ⟨t,rfl⟩:=rx;rfl)
theorem Yl:vm X (compareOp .IsNot) (λx y H Q=>y=.non/\Q (.bl (!decide (x=.non))) H):=by
 intro pins s σ H x y v u Q I rx ry h;obtain ⟨rfl,q⟩:=h;cases ry;refine isnot_none_gen (ux I q ?_)
 cases x<;>first
  | (cases rx;rfl)
  | (obtain ⟨t,rfl⟩:=rx;rfl)
theorem zn (b:Expr){op:CmpOp}(h:op≠.In:=by decide)(h2:op≠.NotIn:=by decide):behindInMarks op b=false:=by
 have e1:(op == CmpOp.In)=false:=by cases op<;>first | rfl | exact absurd rfl h
 have e2:(op == CmpOp.NotIn)=false:=by cases op<;>first | rfl | exact absurd rfl h2
 cases b<;>simp [behindInMarks,e1,e2]
theorem Ym {op:CmpOp}{r:R2}(ho:vm X (compareOp op) r)(ha:PE X a ta)(hb:PE X b tb)(hm:behindInMarks op b=false):PE X (.Compare a [op] [b] pos) (Qo r ta tb):=by
 intro pins s σ H Q I h;exact wpAny_Compare1 (Vg ha hb I h λv u s2 x y H2 I2 rx ry q=>ho pins s2 σ H2 x y v u Q I2 rx ry q) hm
def rQ (t:TE):TT:=λσ H Q=>t σ H λx H'=>∃ k,x=.bl k/\Q k H'
theorem Yn {op:CmpOp}{r:R2}(ho:vm X (compareOp op) r)(ha:PE X a ta)(hb:PE X b tb)(hm:behindInMarks op b=false):PT X (.Compare a [op] [b] pos) (rQ (Qo r ta tb)):=by
 intro pins s σ H Q I h
 refine wpAny_isTrue_Compare1 (jg (ha pins s σ H _ I h) λv s1 ⟨x,H1,I1,r1,q1⟩=>jg (hb pins s1 σ H1 _ I1 q1) λu s2 ⟨y,H2,I2,r2,q2⟩ =>
  jg (ho pins s2 σ H2 x y v u _ I2 r1 r2 q2) λc s3 ⟨z,H3,I3,r3,k,e,q3⟩ => ?_) hm
 subst e;cases r3;exact wpAny_truthy_bool ⟨H3,I3,q3⟩
def cE (r r':R2)(ta tb tc:TE):TE:=λσ H Q=>ta σ H λx H1=>tb σ H1 λy H2=>r x y H2 λz H3=>∃ k,z=.bl k /\
 (if k=true then tc σ H3 λw' H4=>r' y w' H4 Q else Q (.bl false) H3)
theorem rR {op op':CmpOp}{r r':R2}(ho:vm X (compareOp op) r)(ho':vm X (compareOp op') r')(ha:PE X a ta)(hb:PE X b tb)(hc:PE X c tc)
  (hm:lastMarks [op,op'] [b,c]=false:=by with_unfolding_all rfl):PE X (.Compare a [op,op'] [b,c] pos) (cE r r' ta tb tc):=by
 intro pins s σ H Q I h
 refine Compare_chain (jg (ha pins s σ H _ I h) λv s1 ⟨x,H1,I1,r1,q1⟩=>chain_link (jg (hb pins s1 σ H1 _ I1 q1) λu s2 ⟨y,H2,I2,r2,q2⟩ =>
  jg (ho pins s2 σ H2 x y v u _ I2 r1 r2 q2) λd s3 ⟨z,H3,I3,r3,k,e,q3⟩ => ?_)) hm
 subst e;cases r3;refine wpAny_truthy_bool ?_
 cases k with
 | false=>exact ite_ff ⟨.bl false,H3,I3,rfl,q3⟩
 | true=>exact ite_tt (chain_last (jg (hc pins s3 σ H3 _ I3 q3) λw' s4 ⟨z',H4,I4,r4,q4⟩=>ho' pins s4 σ H4 y z' u w' Q I4 r2 r4 q4))
theorem rS {op op':CmpOp}{r r':R2}(ho:vm X (compareOp op) r)(ho':vm X (compareOp op') r')(ha:PE X a ta)(hb:PE X b tb)(hc:PE X c tc)
  (hm:lastMarks [op,op'] [b,c]=false:=by with_unfolding_all rfl):PT X (.Compare a [op,op'] [b,c] pos) (rQ (cE r r' ta tb tc)):=by
 intro pins s σ H Q I h
 refine isTrue_chain (jg (ha pins s σ H _ I h) λv s1 ⟨x,H1,I1,r1,q1⟩=>test_link (jg (hb pins s1 σ H1 _ I1 q1) λu s2 ⟨y,H2,I2,r2,q2⟩ =>
  jg (ho pins s2 σ H2 x y v u _ I2 r1 r2 q2) λd s3 ⟨z,H3,I3,r3,k,e,q3⟩ => ?_)) hm
 subst e;cases r3;refine wpAny_truthy_bool ?_
 cases k with
 | false =>
  obtain ⟨k',e',q'⟩:=q3;cases e';exact ite_ff ⟨H3,I3,q'⟩
 | true =>
  refine ite_tt (test_last (jg (hc pins s3 σ H3 _ I3 q3) λw' s4 ⟨z',H4,I4,r4,q4⟩=>jg (ho' pins s4 σ H4 y z' u w' _ I4 r2 r4 q4) λd' s5 ⟨z2,H5,I5,r5,k2,e2,q5⟩ => ?_));subst e2;cases r5;exact wpAny_truthy_bool ⟨H5,I5,q5⟩
def Vp (K:W.Frag)(x:V)(H:Hp)(k:Bool):Prop :=
 match x with
 | .non=>k=false
 | .bl b=>k=b
 | .int i=>k=(i != 0)
 | .str y=>y.length<=sizeLine/\k=((y.length:Int) != 0)
 | .byt y=>y.size<=sizeLine/\k=((y.size:Int) != 0)
 | .ref p=>(∃ xs,fw K H p xs/\k = !xs.isEmpty)\/(∃ xs,fx K H p xs/\k = !xs.isEmpty)\/∃ kvs,H p=some (.dK kvs)/\k = !kvs.isEmpty
 | _=>False
theorem cF {κ:Type}{kvs:List (κ×V)}{vs:List (κ×Value)}(r:KV kvs vs):(!vs.isEmpty) = !kvs.isEmpty:=by
 cases r<;>rfl
theorem uy {xs:List V}{its:List Value}(r:zF xs its):(!its.toArray.isEmpty) = !xs.isEmpty:=by
 cases r<;>simp
theorem gh:(sizeLine:Nat) < 2 ^ 63:=by rw [sizeLine_eq];decide
theorem Vq:Pg X (λx H Q=>∃ k,Vp X.K x H k/\Q k H):=by
 intro pins s σ H x v Q I rx h;obtain ⟨k,e,q⟩:=h;have hl:=gh;have hs:sizeLine=16777216:=sizeLine_eq
 cases x with
 | non =>
  cases rx;have e':k=false:=e;subst e';exact truthy_none ⟨H,I,q⟩
 | bl b =>
  cases rx;have e':k=b:=e;subst e';exact wpAny_truthy_bool ⟨H,I,q⟩
 | int i =>
  obtain ⟨t,rfl⟩:=rx;have e':k=(i != 0):=e;subst e';exact PySem.P.truthy_int ⟨H,I,q⟩
 | str y =>
  obtain ⟨t,rfl⟩:=rx;obtain ⟨hy,e'⟩:y.length<=sizeLine/\k=((y.length:Int) != 0):=e;subst e';exact PySem.P.truthy_str (by omega) ⟨H,I.tok _,q⟩
 | byt y =>
  obtain ⟨t,rfl⟩:=rx;obtain ⟨hy,e'⟩:y.size<=sizeLine/\k=((y.size:Int) != 0):=e;subst e';exact W.truthy_bytes (by omega) ⟨H,I.tok _,q⟩
 | ref p =>
  cases rx;have e':(∃ xs,fw X.K H p xs/\k = !xs.isEmpty)\/(∃ xs,fx X.K H p xs/\k = !xs.isEmpty)\/∃ kvs,H p=some (.dK kvs)/\k = !kvs.isEmpty:=e
  rcases e' with ⟨xs,hx,e'⟩ | ⟨xs,hx,e'⟩ | ⟨kvs,hx,e'⟩
  ·subst e'
   obtain ⟨its,r,pl,hz⟩:=I.list hx;have hlen:=r.length;exact wpAny_truthy_list pl.isList (by simp only [List.size_toArray];omega) ⟨H,I.tok _,by rw [uy r];exact q⟩
  ·subst e'
   obtain ⟨its,r,pl,hz⟩:=I.tuple hx;have hlen:=r.length;exact truthy_tuple pl (by simp only [List.size_toArray];omega) ⟨H,I.tok _,by rw [uy r];exact q⟩
  ·subst e'
   obtain ⟨hz,hS,vs,r,m⟩:kvs.length<=sizeLine/\(p == sysModules)=false/\∃ vs,KV kvs vs/\s.heap.DictOf (zY X.prog X.w) p vs:=I.hok p _ hx;have hlen:kvs.length=vs.length:=Paired.length r;exact wpAny_truthy_dict hS m (by omega) ⟨H,I.tok _,by rw [cF r];exact q⟩
 | _=>exact (show False from e).elim
theorem rV (ha:PE X a ta)(he:∀ whole,isTrue a X.env whole=(do let v <- whole;standAt a.pos;holding [v] (truthy v))) :
  PT X a (λσ H Q=>ta σ H λx H'=>∃ k,Vp X.K x H' k/\Q k H'):=by
 intro pins s σ H Q I h;exact isTrue_plain (jg (ha pins s σ H _ I h) λv s1 ⟨x,H1,I1,r1,q1⟩=>Vq pins s1 σ H1 x v Q I1 r1 q1) (he _)
theorem cG:vm X (binaryOp .Add) (λx y H Q=>∃ i j,x=.str i/\y=.str j/\i.length + j.length<=sizeLine/\Q (.str (i ++ j)) H):=by
 intro pins s σ H x y v u Q I rx ry h;obtain ⟨i,j,rfl,rfl,hz,q⟩:=h;obtain ⟨t,rfl⟩:=rx;obtain ⟨t',rfl⟩:=ry;exact add_str (λt' tk=>⟨.str (i ++ j),H,I.tok _,⟨_,rfl⟩,q⟩) hz
theorem gH {x:V}{us:List Value}(r:zF [x] us):∃ u,us=[u]/\RelV x u:=by
 cases r with
 | cons r1 r2=>cases r2;exact ⟨_,rfl,r1⟩
theorem Wa {x y:V}{us:List Value}(r:zF [x,y] us):∃ u w',us=[u,w']/\RelV x u/\RelV y w':=by
 cases r with
 | cons r1 r2 =>
  cases r2 with
  | cons r3 r4=>cases r4;exact ⟨_,_,rfl,r1,r3⟩
theorem lH:we X (.type "str") (λxs H Q=>∃ i,xs=[.int i]/\i.natAbs.log2 < 1920/\Q (.str (toString i)) H):=by
 intro pins s σ H xs us Q I r h;obtain ⟨i,rfl,hz,q⟩:=h;obtain ⟨u,rfl,t,rfl⟩:=gH r;exact PySem.P.str_of_int hz ⟨.str _,H,I.tok _,⟨_,rfl⟩,q⟩
end
structure tL (h:Heap) (x dx C:Addr) (mA:Str->Option Value):Prop where
 obj:h.get? x=some (W.instObj C dx)
 ns:h.Ns1 dx mA
 ne:dx≠x
theorem mJ {h:Heap}{dx:Addr}{mA:Str->Option Value}(n:h.Ns1 dx mA):∃ od,h.get? dx=some od/\∀ name,W.lookIn name od=some (mA name):=by
 obtain ⟨o,es,ep,ho,hd,hk,_,hm⟩:=n;refine ⟨o,ho,λname => ?_⟩;have e:=hm name;unfold nsFind findBy at e;rw [<- Array.find?_toList] at e;unfold W.lookIn;rw [hd];dsimp only
 split
 ·rename_i y q
  rw [q] at e;exact congrArg some e
 ·rename_i q
  rw [q] at e
  have a:es.toList.any (·.refKey)=false:=by
   rw [List.any_eq_false];intro y hy;obtain ⟨z,t,hkey⟩:=hk y (Array.mem_toList_iff.mp hy);simp [DictEntry.refKey,hkey]
  have a':¬ es.toList.any (·.refKey)=true:=by rw [a];exact Bool.false_ne_true
  rw [if_neg a'];exact congrArg some e
theorem tL.look {h:Heap}{x dx C:Addr}{mA:Str->Option Value}(I:tL h x dx C mA):∃ od,W.InstAt h x (W.instObj C dx) C (some od)/\∀ name,W.lookIn name od=some (mA name) :=
 let ⟨od,ho,hl⟩:=mJ I.ns
 ⟨od,⟨I.obj,rfl,rfl,ho⟩,hl⟩
section
variable {prog:Program}{w:World}{A:Around}{E:Value->Shared->Prop}{s:Shared}{K:W.Frag}{x dx C f:Addr}{mA:Str->Option Value}{name:Str}{v:Value}
theorem kf {expr:Bool}{Q:Value->Shared->Prop}(X:K.In s.heap)(I:tL s.heap x dx C mA)(hg:W.plainGet K C name=true)(hh:W.hasDictIn K C=true)
  (ha:W.findIn K (.ref C) name=some none) (hv:mA name=some v) (hv':W.handedIn v=true) (h:Q v { s with toks:=s.toks + 1 }) :
  wpAny (model prog w) A (getAttr (.ref x) name expr) Q E s:=by
 obtain ⟨od,J,hl⟩:=I.look;exact W.get_value X J (W.plainGet_of hg).1 (W.findObj_own hh ha rfl (by rw [hl,hv])) hv' h
theorem Yo {ns:List Str}{Q:Unit->Shared->Prop}(X:K.In s.heap)(I:tL s.heap x dx C mA)
  (hs:W.findIn K (.ref C) "__setattr__" = some (some (.builtin "object.__setattr__"))) (hp:W.plainOver K C=true) (ht:W.takerIn K C name=some none) (hh:W.hasDictIn K C=true)
  (hw:PySem.Within mA ns) (hsz:ns.length<=sizeLine)
  (h:∀ h',tL h' x dx C (λy=>if y=name then some v else mA y)->Heap.SameBut dx s.heap h'->Q () { s with heap:=h',toks:=s.toks + 2 }) :
  wpAny (model prog w) A (setAttr (.ref x) name v) Q E s:=by
 obtain ⟨od,J,hl⟩:=I.look;refine W.set_plain X J hs (W.osa_open (s:={ s with toks:=s.toks + 1 }) (r:=none) X J hp ht λb => ?_);obtain ⟨cd,hc,hd'⟩:=W.any_some hh;have hx:s.heap.get? x=some ⟨.ref C,some dx,.plain,#[]⟩:=I.obj;refine wpAny_bind (wpAny_pure (wpAny_bind (wpAny_bind (wpAny_loadPart hx (wpAny_bind (W.Looks.here (s:={ s with toks:=s.toks + 1 }) (W.looks_clsIn X hc) ?_))))));rw [hd'];refine wpAny_pure (a:=some dx) (wpAny_bind (wpAny_pure (wpAny_bind ?_)));refine wpAny_nsSet1 (s:={ s with toks:=s.toks + 1 }) I.ns λh' hn2 hs2 => ?_;obtain ⟨oD,esD,epD,hoD,hdD,hcD⟩:=hn2.count (PySem.Within.cons name v hw);refine wpAny_bind (wpAny_lookBehind hoD (by rw [hdD];exact pastItsLine_dict (Nat.le_trans hcD (by rw [List.length_cons];omega))) ?_);exact wpAny_pure (h _ ⟨(hs2.2 _ (Ne.symm I.ne)).trans I.obj,hn2,I.ne⟩ hs2)
theorem rW {R:Result->Shared->Prop}{vs:List Value}{kw:List (Str×Value)}(X:K.In s.heap)(hm:W.makesIn K C=true)
  (hi:W.findIn K (.ref C) "__init__" = some (some (.ref f))) (hf:W.typeIn K (.ref f)=some (.type "function"))
  (h:codeAny (model prog w) (A.under (.builtin "type.__call__" ⟨.ref C :: vs,kw⟩)) (.call (.ref f) ⟨.ref (s.heap.objs.size + 1) :: vs,kw⟩) (W.InitBack (s.heap.objs.size + 1) R)
   { s with heap:=(s.heap.push W.emptyDict).push (W.instObj C s.heap.objs.size) }) :
  codeAny (model prog w) A (.call (.ref C) ⟨vs,kw⟩) R s:=by
 obtain ⟨hh,g,d,t,os⟩:=s;exact W.make_core (W.makes_of X hm) (W.looks_findIn X hi) (λself=>W.bind_fn X self hf) (.inl rfl) h
end
def wp (f:Str)(v:V):List (Str×V)->List (Str×V)
 | []=>[(f,v)]
 | (g,x) :: r=>if g=f then (g,v) :: r else (g,x) :: wp f v r
theorem pA (f g:Str)(v:V):∀ fs:List (Str×V),(wp f v fs).lookup g=if g=f then some v else fs.lookup g
 | []=>by
  show List.lookup g [(f,v)]=_
  by_cases h:g=f
  ·have hb:(g == f)=true:=beq_iff_eq.mpr h
   simp only [List.lookup,hb,if_pos h]
  ·have hb:(g == f)=false:=beq_eq_false_iff_ne.mpr h
   simp only [List.lookup,hb,if_neg h]
 | (k,x) :: r=>by
  have ih:=pA f g v r;rw [show wp f v ((k,x) :: r)=(if k=f then (k,v) :: r else (k,x) :: wp f v r) from rfl]
  by_cases hk:k=f
  ·rw [if_pos hk]
   by_cases h:g=k
   ·have hb:(g == k)=true:=beq_iff_eq.mpr h
    simp only [List.lookup,hb,if_pos (h.trans hk)]
   ·have hb:(g == k)=false:=beq_eq_false_iff_ne.mpr h
    simp only [List.lookup,hb,if_neg (λe:g=f=>h (e.trans hk.symm))]
  ·rw [if_neg hk]
   by_cases h:g=k
   ·have hb:(g == k)=true:=beq_iff_eq.mpr h
    simp only [List.lookup,hb,if_neg (λe:g=f=>hk (h.symm.trans e))]
   ·have hb:(g == k)=false:=beq_eq_false_iff_ne.mpr h
    simp only [List.lookup,hb];exact ih
theorem fD (f:Str)(v:V):∀ fs:List (Str×V),f∈(wp f v fs).map (·.1)/\∀ g,g∈fs.map (·.1)->g∈(wp f v fs).map (·.1)
 | []=>⟨by simp [wp],λg h=>by simp at h⟩
 | (k,x) :: r=>by
  obtain ⟨i1,i2⟩:=fD f v r;rw [show wp f v ((k,x) :: r)=(if k=f then (k,v) :: r else (k,x) :: wp f v r) from rfl]
  by_cases hk:k=f
  ·rw [if_pos hk]
   subst hk;exact ⟨by simp,λg h=>by simpa using h⟩
  ·rw [if_neg hk]
   refine ⟨?_,λg h => ?_⟩
   ·rw [List.map_cons]
    exact List.mem_cons_of_mem _ i1
   ·rw [List.map_cons] at h ⊢
    rcases List.mem_cons.mp h with e | e
    ·exact List.mem_cons.mpr (.inl e)
    ·exact List.mem_cons_of_mem _ (i2 g e)
theorem pB (f:Str)(v:V):∀ fs:List (Str×V),(wp f v fs).length<=fs.length + 1
 | []=>by simp [wp]
 | (k,x) :: r=>by
  have ih:=pB f v r;rw [show wp f v ((k,x) :: r)=(if k=f then (k,v) :: r else (k,x) :: wp f v r) from rfl]
  by_cases hk:k=f
  ·rw [if_pos hk,List.length_cons,List.length_cons];omega
  ·rw [if_neg hk,List.length_cons,List.length_cons];omega
theorem qe.some_of {v:V}{o:Option Value}(r:qe (some v) o):∃ u,o=some u/\RelV v u:=by
 cases o with
 | none=>exact (show False from r).elim
 | some u=>exact ⟨u,rfl,r⟩
theorem mK {v:V}{u:Value}(r:RelV v u):W.handedIn u=true:=by
 cases v with
 | non=>cases (show u=Value.none from r);rfl
 | bl b=>cases (show u=Value.bool b from r);rfl
 | int i=>obtain ⟨t,e⟩:=(show ∃ t,u=Value.int i t from r);cases e;rfl
 | str x=>obtain ⟨t,e⟩:=(show ∃ t,u=Value.str x t from r);cases e;rfl
 | byt b=>obtain ⟨t,e⟩:=(show ∃ t,u=Value.bytes b t from r);cases e;rfl
 | flt b=>obtain ⟨t,e⟩:=(show ∃ t,u=Value.float b t from r);cases e;rfl
 | ref a=>cases (show u=Value.ref a from r);rfl
 | ty n=>cases (show u=Value.type n from r);rfl
section
variable {P:Program}{w:World}{H H':Hp}{h h':Heap}{a C dx:Addr}{fs fs':List (Str×V)}
theorem lI (hok:qG P w H h)(e:H a=some (.ins C dx fs)):∃ mA,tL h a dx C mA/\(∀ f,qe (fs.lookup f) (mA f))/\PySem.Within mA (fs.map (·.1))/\fs.length<=1000/\H dx=some (.own a):=by
 obtain ⟨d,z,ne,ob,mA,n,r,q⟩:=(show j7 P w H h a (.ins C dx fs) from hok a _ e)
 exact ⟨mA,⟨ob,n,ne⟩,r,q,z,d⟩
end
structure cH (K:W.Frag) (C:Addr):Prop where
 pg:W.plainGet K C Str.empty=true
 hd:W.hasDictIn K C=true
 po:W.plainOver K C=true
 sa:W.findIn K (.ref C) "__setattr__" = some (some (.builtin "object.__setattr__"))
theorem cH.get {K:W.Frag}{C:Addr}(c:cH K C)(f:Str):W.plainGet K C f=true:=c.pg
def jQ (K:W.Frag)(C:Addr)(f:Str):Prop:=W.findIn K (.ref C) f=some none
theorem jQ.taker {K:W.Frag}{C:Addr}{f:Str}(n:jQ K C f):W.takerIn K C f=some none:=by
 unfold W.takerIn;rw [show W.findIn K (.ref C) f=some none from n]
 rfl
section
variable {X:Cx}{pins:List (Addr×Obj)}{σ:St}{H:Hp}{s:Shared}{a C dx:Addr}{fs:List (Str×V)}{f:Str}{v:V}{A:Around}{E:Value->Shared->Prop}
theorem cI {b:Bool}{Q:Value->Shared->Prop}(I:zj X pins σ H s)(e:H a=some (.ins C dx fs))(c:cH X.K C)(n:jQ X.K C f)(l:fs.lookup f=some v)
  (h:∀ u s',zj X pins σ H s'->RelV v u->Q u s'):wpAny (model X.prog X.w) A (getAttr (.ref a) f b) Q E s:=by
 obtain ⟨mA,O,r,_,_,_⟩:=lI I.hok e;obtain ⟨u,hu,ru⟩:=qe.some_of (v:=v) (o:=mA f) (by rw [<- l];exact r f);exact kf I.kIn O (c.get f) c.hd n hu (mK ru) (h u _ (I.tok _) ru)
theorem cJ {y:V}{u:Value}{Q:Unit->Shared->Prop}(I:zj X pins σ H s)(e:H a=some (.ins C dx fs))(c:cH X.K C)(n:jQ X.K C f)(hl:fs.length < 1000)(ry:RelV y u)
  (h:∀ s',zj X pins σ (zN H a (.ins C dx (wp f y fs))) s'->Q () s'):wpAny (model X.prog X.w) A (setAttr (.ref a) f u) Q E s:=by
 obtain ⟨mA,O,r,wi,_,ho⟩:=lI I.hok e;have hz:(fs.map (·.1)).length<=sizeLine:=by rw [List.length_map,sizeLine_eq];omega
 refine Yo I.kIn O c.sa c.po n.taker c.hd wi hz λh' O' sb=>h _ ?_;have hd:∃ o,h'.get? dx=some o:=let ⟨o,_,_,e',_⟩:=O'.ns;⟨o,e'⟩
 refine I.write (x:=a) (e:=dx) (by rw [e];exact True.intro) (.inr ho) (λb q hb z=>(sb.2 b hb).trans z) hd ?_;refine ⟨by rw [z8 O.ne];exact ho,?_,O.ne,O'.obj,_,O'.ns,λg => ?_,λg hg => ?_⟩
 ·have:=pB f y fs;omega
 ·show qe ((wp f y fs).lookup g) (if g=f then some u else mA g)
  rw [pA]
  by_cases q:g=f
  ·rw [if_pos q,if_pos q];exact ry
  ·rw [if_neg q,if_neg q];exact r g
 ·by_cases q:g=f
  ·rw [q];exact (fD f y fs).1
  ·refine (fD f y fs).2 g (wi g λz=>hg ?_)
   show (if g=f then some u else mA g)=none;rw [if_neg q];exact z
theorem zj.made (I:zj X pins σ H s):zj X pins σ (zN (zN H s.heap.objs.size (.own (s.heap.objs.size + 1))) (s.heap.objs.size + 1) (.ins C s.heap.objs.size []))
  { s with heap:=(s.heap.push W.emptyDict).push (W.instObj C s.heap.objs.size) }:=by
 have e1:(s.heap.push W.emptyDict).get? s.heap.objs.size=some W.emptyDict:=Heap.get?_push_size s.heap rfl
 have e2:((s.heap.push W.emptyDict).push (W.instObj C s.heap.objs.size)).get? (s.heap.objs.size + 1)=some (W.instObj C s.heap.objs.size):=by
  have:=Heap.get?_push_size (s.heap.push W.emptyDict) (o:=W.instObj C s.heap.objs.size) rfl
  rwa [Heap.size_push] at this
 have e3:(s.heap.push W.emptyDict).Ns s.heap.objs.size (λ_=>none):=⟨W.emptyDict,#[],_,e1,rfl,(λe he=>absurd he (by simp)),λ_=>rfl⟩
 have I1:=I.laid (a:=s.heap.objs.size) (o:=.own (s.heap.objs.size + 1)) (h':=s.heap.push W.emptyDict) (t':=s.toks) (λb u q=>Heap.get?_push_of_some _ q) (Nat.le_refl _) ⟨_,e1⟩;refine I1.laid (a:=s.heap.objs.size + 1) (o:=.ins C s.heap.objs.size []) (t':=s.toks) (λb u q=>Heap.get?_push_of_some _ q) (Nat.le_of_eq (Heap.size_push _ _)) ?_;have ne:s.heap.objs.size≠s.heap.objs.size + 1:=Nat.ne_of_lt (Nat.lt_succ_self _);refine ⟨by rw [z8 ne,zi],Nat.zero_le _,ne,e2,λ_=>none,(Heap.Ns1.of_empty e3).at λo q=>Heap.get?_push_of_some _ q,λ_=>True.intro,λy hy=>absurd rfl hy⟩
theorem bT {prog:Program}{w:World}{env:Env}{e:Expr}{f:Str}{pos:Pos}{s:Shared}{Q:Value->Shared->Prop}(hb:attributeBase e f env (eval e env)=eval e env)
  (h:wpAny (model prog w) A (eval e env) (λo s₁=>wpAny (model prog w) A (getAttr o f true) Q E s₁) E s):wpAny (model prog w) A (eval (.Attribute e f pos) env) Q E s :=
 Attribute_any_ h (by rw [arm_eval_Attribute,hb])
end
def cK (K:W.Frag)(ta:TE)(f:Str):TE:=λσ H Q=>ta σ H λx H1=>∃ a C dx fs v,x=.ref a/\H1 a=some (.ins C dx fs)/\cH K C/\jQ K C f/\fs.lookup f=some v/\Q v H1
def Yp (K:W.Frag)(ta tv:TE)(f:Str):TS:=λD σ H=>tv σ H λy H1=>ta σ H1 λx H2=>∃ a C dx fs,x=.ref a/\H2 a=some (.ins C dx fs)/\cH K C/\jQ K C f/\fs.length < 1000 /\
 D.nx σ (zN H2 a (.ins C dx (wp f y fs)))
section
variable {X:Cx}{o e value:Expr}{f:Str}{pos pos' tpos:Pos}{ta tv:TE}
theorem rX (he:PE X e ta)(hb:attributeBase e f X.env (eval e X.env)=eval e X.env):PE X (.Attribute e f pos) (cK X.K ta f):=by
 intro pins s σ H Q I h;refine bT hb (jg (he pins s σ H _ I h) λu s1 ⟨x,H1,I1,rx,a,C,dx,fs,v,ex,ea,c,n,l,q⟩ => ?_);subst ex;obtain rfl:u=Value.ref a:=rx;exact cI I1 ea c n l λu' s2 I2 ru=>⟨v,H1,I2,ru,q⟩
theorem rY (ha:PE X o ta)(hv:PE X value tv)(hs:swapsWith value (some (.Attribute o f pos')) pos.line X.env=pure false):PS X (.Assign [.Attribute o f pos'] value pos) (Yp X.K ta tv f):=by
 intro pins s σ H D I h;refine plainObj_wpAny_Assign_Attribute (jg (hv pins s σ H _ I h) λu s1 ⟨y,H1,I1,ry,q⟩=>jg (ha pins s1 σ H1 _ I1 q) λov s2 ⟨x,H2,I2,rx,a,C,dx,fs,ex,ea,c,n,l,q2⟩ => ?_) hs;subst ex;obtain rfl:ov=Value.ref a:=rx;exact cJ I2 ea c n l ry λs3 I3=>⟨σ,_,I3,q2⟩
end
section
variable {X:Cx}{pins:List (Addr×Obj)}{σ:St}{H:Hp}{s:Shared}{A:Around}{E:Value->Shared->Prop}{Q:Value->Shared->Prop}{c:Value}{b:Bool}
inductive fE (K:W.Frag) (H:Hp):V->Value->Prop where
 | non:fE K H .non (.type "NoneType")
 | bl (x:Bool):fE K H (.bl x) (.type "bool")
 | int (i:Int):fE K H (.int i) (.type "int")
 | str (x:Str):fE K H (.str x) (.type "str")
 | flt (x:UInt64):fE K H (.flt x) (.type "float")
 | lst {a:Addr} {xs:List V} (e:H a=some (.lst xs)):fE K H (.ref a) (.type "list")
 | frz {a:Addr} {o:Obj} {xs:List V} (e:H a=some (.frz o (.lst xs))):fE K H (.ref a) (.type "list")
 | tup {a:Addr} {xs:List V} (e:H a=some (.tup xs)):fE K H (.ref a) (.type "tuple")
 | dK {a:Addr} {kvs:List (Key×V)} (e:H a=some (.dK kvs)):fE K H (.ref a) (.type "dict")
 | dT {a:Addr} {kvs:List (List Key×V)} (e:H a=some (.dT kvs)):fE K H (.ref a) (.type "dict")
 | ins {a C dx:Addr} {fs:List (Str×V)} (e:H a=some (.ins C dx fs)) (cl:cH K C) (ha:W.findIn K (.ref C) "__class__" = some (some (.builtin "object.__class__")))
   (hn:W.specialIn K (.builtin "object.__class__") "__get__" = some (some (.builtin "getset_descriptor.__get__"))) (htk:W.takesIn K (.builtin "object.__class__")=some true)
   (hm:W.mroIn K C (.type "object")=some true):fE K H (.ref a) (.ref C)
theorem tM {x:V}{u t:Value}(I:zj X pins σ H s)(rx:RelV x u)(ty:fE X.K H x t)(e:W.kitOne X.K t c=some b)(h:∀ tk,Q (.bool b) { s with toks:=tk }) :
  wpAny (model X.prog X.w) A (call (.builtin "isinstance") [u,c]) Q E s:=by
 cases ty with
 | non=>cases (show u=Value.none from rx);exact W.kia_one W.kitx_none I.kIn True.intro e (λz=>nomatch z) h
 | bl y=>cases (show u=Value.bool y from rx);exact W.kia_one W.kitx_bool I.kIn True.intro e (λz=>nomatch z) h
 | int i=>obtain ⟨t,q⟩:=(show ∃ t,u=Value.int i t from rx);cases q;exact W.kia_one W.kitx_int I.kIn True.intro e (λz=>nomatch z) h
 | str y=>obtain ⟨t,q⟩:=(show ∃ t,u=Value.str y t from rx);cases q;exact W.kia_one W.kitx_str I.kIn True.intro e (λz=>nomatch z) h
 | flt y=>obtain ⟨t,q⟩:=(show ∃ t,u=Value.float y t from rx);cases q;exact W.kia_one W.kitx_float I.kIn True.intro e (λz=>nomatch z) h
 | @lst a xs ea =>
  cases (show u=Value.ref a from rx);obtain ⟨_,_,n,_,h1⟩:=(show j7 X.prog X.w H s.heap a (.lst xs) from I.hok a _ ea)
  exact W.kia_one W.kitx_list I.kIn ⟨_,h1,rfl⟩ e (λz=>nomatch z) h
 | @frz a ob xs ea =>
  cases (show u=Value.ref a from rx);obtain ⟨_,_,_,n,_,h1⟩:=(show j7 X.prog X.w H s.heap a (.frz ob (.lst xs)) from I.hok a _ ea)
  exact W.kia_one W.kitx_list I.kIn ⟨_,h1,rfl⟩ e (λz=>nomatch z) h
 | @tup a xs ea =>
  cases (show u=Value.ref a from rx);obtain ⟨_,_,_,p⟩:=(show j7 X.prog X.w H s.heap a (.tup xs) from I.hok a _ ea)
  obtain ⟨o,h1,h2,_⟩:=p;exact W.kia_one W.kitx_tuple I.kIn ⟨o,h1,h2⟩ e (λz=>nomatch z) h
 | @dK a kvs ea =>
  cases (show u=Value.ref a from rx);obtain ⟨_,_,vs,_,p⟩:=(show j7 X.prog X.w H s.heap a (.dK kvs) from I.hok a _ ea)
  obtain ⟨o,es,ep,h1,h2,_⟩:=p;exact W.kia_one W.kitx_dict I.kIn ⟨o,h1,h2.1⟩ e (λz=>nomatch z) h
 | @dT a kvs ea =>
  cases (show u=Value.ref a from rx);obtain ⟨_,_,xs,_,o,es,ep,h1,h2,_⟩:=(show j7 X.prog X.w H s.heap a (.dT kvs) from I.hok a _ ea)
  exact W.kia_one W.kitx_dict I.kIn ⟨o,h1,h2.1⟩ e (λz=>nomatch z) h
 | @ins a C dx fs ea cl ha hn htk hm =>
  cases (show u=Value.ref a from rx);obtain ⟨mA,O,_⟩:=lI I.hok ea;obtain ⟨od,J,_⟩:=O.look;exact W.kia_one (W.kitx_own (cl.get _) cl.hd ha hn htk hm) I.kIn J e (λz=>nomatch z) h
end
structure jV (k:Nat) (A:Around):Prop where
 hd:A.handled=none
 dp:A.depth + 3 * k + 5 < recursionLimit
 un:A.units + 16 * k + 200 < cLine
theorem jV.mono {j k:Nat}{A:Around}(r:jV k A)(h:j<=k):jV j A:=⟨r.hd,by have:=r.dp;omega,by have:=r.un;omega⟩
theorem jV.deeper {k:Nat}{A:Around}(r:jV (k + 1) A)(env:Env):jV k (A.deeper env) :=
 ⟨r.hd,by have:=r.dp;show A.depth + 1 + 3 * k + 5 < _;omega,by have:=r.un;show A.units + 3 + 16 * k + 200 < _;omega⟩
theorem cL {A:Around}{C:Addr}{us:List Value}{kw:List (Str×Value)} : (A.under (.builtin "type.__call__" ⟨.ref C :: us,kw⟩)).depth=A.depth + 1:=by
 first | rfl | simp [Around.under,Code.weight,Code.isCreation,Code.isGuard,Code.isCaller,Code.frames,Code.isFrame,guardIds]
theorem cM {A:Around}{C:Addr}{us:List Value}{kw:List (Str×Value)} : (A.under (.builtin "type.__call__" ⟨.ref C :: us,kw⟩)).units=A.units + 1:=by
 first | rfl | simp [Around.under,Code.cUnits,Code.frames,Code.isFrame]
theorem jV.make {k:Nat}{A:Around}(r:jV (k + 1) A)(C:Addr)(us:List Value)(kw:List (Str×Value)):jV k (A.under (.builtin "type.__call__" ⟨.ref C :: us,kw⟩)) :=
 ⟨r.hd,by have:=r.dp;rw [cL];omega,by have:=r.un;rw [cM];omega⟩
theorem jV.depth {k:Nat}{A:Around}(r:jV k A):A.depth < recursionLimit:=by have:=r.dp;omega
theorem jV.units {k:Nat}{A:Around}(r:jV k A):A.units + 64 < cLine:=by have:=r.un;omega
def Vr:TA:=λ_ H Q=>Q [] H
def rZ (ta:TE)(tr:TA):TA:=λσ H Q=>ta σ H λx H1=>tr σ H1 λxs H2=>Q (x :: xs) H2
section
variable {X:Cx}{e:Expr}{es:List Expr}{te:TE}{t:TA}{pos:Pos}
theorem vH:PA X [] Vr:=λ_ _ _ _ H Q I h=>Calls.spliced_nil ⟨[],H,I,.nil,h⟩
theorem xK (ha:PE X e te)(hr:PA X es t)(hs:starEach (e :: es) X.env=(false,eval e X.env) :: starEach es X.env:=by rfl):PA X (e :: es) (rZ te t):=by
 intro pos pins s σ H Q I h;rw [hs];show wpAny _ _ (spliced ((false,eval e X.env) :: backTo pos (starEach es X.env))) _ _ s;refine Calls.spliced_cons (jg (ha pins s σ H _ I h) λu s1 ⟨x,H1,I1,r1,q1⟩ => ?_);exact jg (hr pos pins s1 σ H1 _ I1 q1) λus s2 ⟨xs,H2,I2,r2,q2⟩=>⟨x :: xs,H2,I2,.cons r1 r2,q2⟩
def Pj (t:TA):TE:=λσ H Q=>t σ H λxs H1=>xs.length<=sizeLine/\∀ p,H1 p=none->Q (.ref p) (zN H1 p (.tup xs))
def Pk (t:TA):TE:=λσ H Q=>t σ H λxs H1=>xs.length<=sizeLine/\∀ p,H1 p=none->Q (.ref p) (zN H1 p (.lst xs))
theorem Vs {x1}(h:PA X es t):PE X (.Tuple es x1 pos) (Pj t):=by
 intro pins s σ H Q I hq;refine wpAny_Tuple_spliced (jg (h pos pins s σ H _ I hq) λus s1 ⟨xs,H1,I1,r,z,q⟩=>⟨by rw [<- r.length];exact z,?_⟩);have hf:H1 s1.heap.objs.size=none:=I1.hok.fresh (Nat.le_refl _);refine ⟨.ref s1.heap.objs.size,zN H1 s1.heap.objs.size (.tup xs),I1.laid (t':=s1.toks) (λb u e=>Heap.get?_push_of_some _ e) (Nat.le_refl _) ?_,rfl,q _ hf⟩;exact ⟨z,us,r,⟨_,Heap.get?_push_size _ rfl,rfl,_,rfl⟩⟩
theorem Vt (h:PA X es t):PE X (.List es pos) (Pk t):=by
 intro pins s σ H Q I hq;refine wpAny_List_spliced (jg (h pos pins s σ H _ I hq) λus s1 ⟨xs,H1,I1,r,z,q⟩=>⟨by rw [<- r.length];exact z,?_⟩);have hf:H1 s1.heap.objs.size=none:=I1.hok.fresh (Nat.le_refl _);refine ⟨.ref s1.heap.objs.size,zN H1 s1.heap.objs.size (.lst xs),I1.laid (t':=s1.toks) (λb u e=>Heap.get?_push_of_some _ e) (Nat.le_refl _) ?_,rfl,q _ hf⟩;exact ⟨z,us,0,r,Heap.get?_push_size _ rfl⟩
end
abbrev Sp:=List V->Hp->VK->XK->Prop
abbrev tN:=List Env->Hp->Shared->XK->Value->Shared->Prop
structure eA (P:Program) (w:World) (K:W.Frag) (mg:Str->Option Value) (base:Heap) (A:Around) (outer:List Env) (s:Shared) (H:Hp):Prop where
 frames:A.frames=some outer
 mod:Mod K mg base
 bs:∀ b o,base.get? b=some o->s.heap.get? b=some o/\H b=none
 bsz:base.objs.size<=s.heap.objs.size
 funs:s.heap.FunFrames base outer
 frf:∀ b∈ue outer,H b=none
 tab:H tabP=some cx
 hok:qG P w H s.heap
 bare:AllBare s.gens
def CE (outer:List Env)(P:Program)(w:World)(H:Hp)(s:Shared)(Q:VK)(u:Value)(s':Shared):Prop :=
 ∃ v H',s'.os=s.os/\AllBare s'.gens/\Un (ue outer) [] H H' s.heap s'.heap/\qG P w H' s'.heap/\RelV v u/\Q v H'
def CR (CX:tN)(outer:List Env)(P:Program)(w:World)(H:Hp)(s:Shared)(Q:VK)(E:XK)(r:Result)(s':Shared):Prop :=
 match r with
 | .ok (.ret u)=>CE outer P w H s Q u s'
 | .ok _=>False
 | .error e=>CX outer H s E e s'
structure xR (P:Program) (w:World) (K:W.Frag) (mg:Str->Option Value) (base:Heap) (CX:tN) (k:Nat) (f:Addr) (fd:FuncData) (ps:List Str) (sp:Sp):Prop where
 len:∀ vs H Q E,sp vs H Q E->vs.length=ps.length
 run:∀ (A:Around) (outer:List Env) (s:Shared) (H:Hp) (args:Args) (us:List Value) (vs:List V) (Q:VK) (E:XK),jV k A->eA P w K mg base A outer s H->BindsTo s fd args (ps.zip us)->zF vs us->sp vs H Q E ->
  codeAny (model P w) A (.call (.ref f) args) (CR CX outer P w H s Q E) s
theorem xR.mono {P:Program}{w:World}{K:W.Frag}{mg:Str->Option Value}{base:Heap}{CX:tN}{j k:Nat}{f:Addr}{fd:FuncData}{ps:List Str}{sp:Sp}(F:xR P w K mg base CX j f fd ps sp)(h:j<=k) :
  xR P w K mg base CX k f fd ps sp:=⟨F.len,λA outer s H args us vs Q E hr=>F.run A outer s H args us vs Q E (hr.mono h)⟩
theorem xR.imp {P:Program}{w:World}{K:W.Frag}{mg:Str->Option Value}{base:Heap}{CX:tN}{k:Nat}{f:Addr}{fd:FuncData}{ps:List Str}{sp sp':Sp}(F:xR P w K mg base CX k f fd ps sp)
  (h:∀ vs H Q E,sp' vs H Q E->sp vs H Q E):xR P w K mg base CX k f fd ps sp' :=
 ⟨λvs H Q E q=>F.len vs H Q E (h _ _ _ _ q),λA outer s H args us vs Q E hr he hb hv hs=>F.run A outer s H args us vs Q E hr he hb hv (h _ _ _ _ hs)⟩
theorem eA.make {P:Program}{w:World}{K:W.Frag}{mg:Str->Option Value}{base:Heap}{A:Around}{outer:List Env}{s:Shared}{H:Hp}(e:eA P w K mg base A outer s H)(C:Addr)(us:List Value)(kw:List (Str×Value)) :
  eA P w K mg base (A.under (.builtin "type.__call__" ⟨.ref C :: us,kw⟩)) outer s H:=⟨by first | exact e.frames | (simpa [Around.under,Code.envs,Code.isFrame,pushEnvs] using e.frames),e.mod,e.bs,e.bsz,e.funs,e.frf,e.tab,e.hok,e.bare⟩
section
variable {X:Cx}{pins:List (Addr×Obj)}{σ:St}{H:Hp}{s s':Shared}
theorem zj.env0 (I:zj X pins σ H s):eA X.prog X.w X.K X.mg X.base X.A X.stack s H :=
 ⟨I.ok.frames,I.ok.mod,I.bs,Nat.le_trans I.ok.bsz I.sz,I.stack,I.stkFree,I.tab,I.hok,I.bare⟩
theorem zj.after {Q:VK}{u:Value}(I:zj X pins σ H s)(h:CE X.stack X.prog X.w H s Q u s'):EP X pins σ Q u s':=by
 obtain ⟨v,H',os,bare,un,hok,r,q⟩:=h;obtain ⟨hh,g,d,t,os'⟩:=s';obtain rfl:os'=s.os:=os;exact ⟨v,H',I.call (h':=hh) (g':=g) (d':=d) (t':=t) (ch:=[]) un hok bare (λb z=>absurd z (by simp)),r,q⟩
end
def kJ (K:W.Frag)(fd:FuncData)(ps:List Str)(ds:List Value):Prop :=
 ∀ (s:Shared) (us:List Value),K.In s.heap->(us ++ ds).length=ps.length->BindsTo s fd ⟨us,[]⟩ (ps.zip (us ++ ds))
theorem kJ.all {K:W.Frag}{fd:FuncData}{ps:List Str}(h:∀ us:List Value,us.length=ps.length->bindArgs fd ⟨us,[]⟩=pure (ps.zip us)):kJ K fd ps []:=λs us _ hl=>by
 rw [List.append_nil] at hl ⊢;exact .of_eq (h us hl)
section
variable {X:Cx}{CX:tN}{k:Nat}{f C:Addr}{fd:FuncData}{ps:List Str}{sp:Sp}{dvs:List V}{ds:List Value}{E:XK}{x m:Str}{p pos apos:Pos}{e o:Expr}{es:List Expr}{ta:TE}{t:TA}
structure Mk (K:W.Frag) (C f:Addr):Prop where
 makes:W.makesIn K C=true
 init:W.findIn K (.ref C) "__init__" = some (some (.ref f))
 fn:W.isFn K (.ref f)=true
 kp:W.keepIn K (.ref C)=true
end
structure za (N P:List Str) (sc:Scope):Prop where
 kind:sc.kind=.function
 co:sc.isCoroutine=false
 gen:sc.isGenerator=false
 nd:N.Nodup
 pre:N.take P.length=P
 par:∀ x∈P,sc.names.lookup x=some .local\/sc.names.lookup x=some .cell
 nofree:∀ y∈sc.names,y.2≠.free
theorem mL {kindOf:Str->Option NameKind}{x:Str} : ∀ {binds:List (Str×Value)} {m:Str->Option Value},(∀ v,(x,v)∉binds)->bindL kindOf binds m x=m x
 | [],_,_=>rfl
 | (n,v) :: r,m,h=>by
  unfold bindL;rw [mL λw hw=>h w (List.mem_cons_of_mem _ hw)]
  split
  ·have:x≠n:=by rintro rfl;exact h v List.mem_cons_self
   simp [this]
  ·rfl
theorem mM {kindOf:Str->Option NameKind}{x:Str} : ∀ {binds:List (Str×Value)} {m:Str->Option Value},(∀ v,(x,v)∉binds)->bindC kindOf binds m x=m x
 | [],_,_=>rfl
 | (n,v) :: r,m,h=>by
  unfold bindC;rw [mM λw hw=>h w (List.mem_cons_of_mem _ hw)]
  split
  ·rfl
  ·have:x≠n:=by rintro rfl;exact h v List.mem_cons_self
   simp [this]
theorem mN {kindOf:Str->Option NameKind}{x:Str}{v:Value} : ∀ {P:List Str} {vs:List Value} {i:Nat} {m:Str->Option Value},P.Nodup->P[i]? = some x->vs[i]? = some v->kindOf x=some .local ->
  bindL kindOf (P.zip vs) m x=some v
 | [],_,_,_,_,h,_,_=>by simp at h
 | _ :: _,[],_,_,_,_,h,_=>by simp at h
 | p :: P,w :: vs,0,m,nd,h1,h2,hk=>by
  simp at h1 h2;subst h1;subst h2;show bindL kindOf ((p,w) :: P.zip vs) m p=_;unfold bindL;rw [mL λv hv=>(List.nodup_cons.mp nd).1 (List.of_mem_zip hv).1,if_pos hk];simp
 | p :: P,w :: vs,i + 1,m,nd,h1,h2,hk=>by
  show bindL kindOf ((p,w) :: P.zip vs) m x=_;unfold bindL;exact mN (i:=i) (List.nodup_cons.mp nd).2 (by simpa using h1) (by simpa using h2) hk
theorem mO {kindOf:Str->Option NameKind}{x:Str}{v:Value} : ∀ {P:List Str} {vs:List Value} {i:Nat} {m:Str->Option Value},P.Nodup->P[i]? = some x->vs[i]? = some v->kindOf x≠some .local ->
  bindC kindOf (P.zip vs) m x=some v
 | [],_,_,_,_,h,_,_=>by simp at h
 | _ :: _,[],_,_,_,_,h,_=>by simp at h
 | p :: P,w :: vs,0,m,nd,h1,h2,hk=>by
  simp at h1 h2;subst h1;subst h2;show bindC kindOf ((p,w) :: P.zip vs) m p=_;unfold bindC;rw [mM λv hv=>(List.nodup_cons.mp nd).1 (List.of_mem_zip hv).1,if_neg hk];simp
 | p :: P,w :: vs,i + 1,m,nd,h1,h2,hk=>by
  show bindC kindOf ((p,w) :: P.zip vs) m x=_;unfold bindC;exact mO (i:=i) (List.nodup_cons.mp nd).2 (by simpa using h1) (by simpa using h2) hk
def start (N:List Str)(vs:List V):St:=vs.map some ++ List.replicate (N.length - vs.length) none
def uz (CX:tN)(P:Program)(w:World)(K:W.Frag)(mg:Str->Option Value)(base:Heap)(N:List Str)(qual:Str)(scope:Scope)(f:Addr)(cd:Value)(A:Around)(outer:List Env)(s:Shared)(H:Hp)(E:XK):Cx where
 prog:=P
 w:=w
 K:=K
 mg:=mg
 base:=base
 A:=A.deeper (envOfC qual scope s.heap.objs.size f cd)
 N:=N
 s₀:=s
 H₀:=H
 env:=envOfC qual scope s.heap.objs.size f cd
 outer:=outer
 stack:=envOfC qual scope s.heap.objs.size f cd :: outer
 ex:=[]
 calm:=true
 fn:=λ_=>true
 pn:=[]
 xe:=λe s'=>wpAny (model P w) (A.deeper (envOfC qual scope s.heap.objs.size f cd)) (leaving (envOfC qual scope s.heap.objs.size f cd) e) (λ_ s''=>CX outer H s E e s'') (λe' s''=>CX outer H s E e' s'') s'
theorem uA {sc:Scope}{n:Nat}{x:Str}(h:sc.names.lookup x=some .cell):∃ c,(cellsFrom n sc.names []).lookup x=some c:=by
 have q:=W.cellsFrom_some sc.names n [] (.inl h);exact Option.isSome_iff_exists.mp q
theorem tO {CX:tN}{P:Program}{w:World}{K:W.Frag}{mg:Str->Option Value}{base:Heap}{N ps:List Str}{qual:Str}{scope:Scope}{f:Addr}{cd:Value}{A:Around}{outer:List Env}{s s1:Shared}{H:Hp}{E:XK}{us:List Value}{vs:List V}
  (S:za N ps scope) (hd:A.handled=none) (e0:eA P w K mg base A outer s H) (hl:vs.length=ps.length) (r:zF vs us)
  (x:InCallC s s.heap.objs.size (bindL (envOfC qual scope s.heap.objs.size f cd).kindOf (ps.zip us) λ_=>none) (cellsFrom (s.heap.objs.size + 1) scope.names []) (bindC (envOfC qual scope s.heap.objs.size f cd).kindOf (ps.zip us) λ_=>none) s1) :
  zj (uz CX P w K mg base N qual scope f cd A outer s H E) [] (start N vs) H s1:=by
 have hpl:ps.length<=N.length:=by have:=congrArg List.length S.pre;rw [List.length_take] at this;omega
 obtain ⟨h1,tk,rfl,hk⟩:=x.done;have noA:∀ b:Addr,b∉(uz CX P w K mg base N qual scope f cd A outer s H E).ex:=λb z=>absurd (show b∈([]:List Addr) from z) (by simp)
 refine ⟨⟨e0.mod,S.kind,rfl,rfl,Nat.le_refl _,λy z c h1 h2 => ?_,λy hy => ?_,λy c _ h => ?_,λ_=>hd,Around.frames_deeper e0.frames,.inr ⟨rfl,rfl⟩,λb z=>absurd z (noA b),e0.bs,e0.bsz,λb _ _=>noA b,λb z=>absurd z (noA b),e0.funs,e0.frf,e0.tab⟩,
  rfl,e0.bare,Un.kept hk,⟨_,x.toInCall.ns,λi y v h1 h2 h3 => ?_⟩,λy c h=>⟨_,x.cell y c h⟩,e0.hok.fresh (Nat.le_refl _),λy c h => ?_,λp hp=>absurd (show p∈([]:List (Addr×Obj)) from hp) (by simp),e0.hok.kept hk,?_⟩
 ·exact name_of_addr x.apart (PySem.mem_of_lookup h1) (PySem.mem_of_lookup h2)
 ·have hy:scope.names.lookup y=some .cell\/scope.names.lookup y=some .free:=hy
  rcases hy with hy | hy
  ·exact uA hy
  ·exact absurd rfl (S.nofree _ (PySem.mem_of_lookup hy))
 ·exact Nat.le_of_lt (x.above y c (PySem.mem_of_lookup h))
 ·have hi:i < vs.length:=by
   unfold start at h2
   by_cases hi:i < vs.length
   ·exact hi
   ·rw [List.getElem?_append_right (by simpa using hi)] at h2
    rw [List.getElem?_replicate] at h2
    split at h2<;>cases h2
  have ha:vs[i]? = some v:=by
   unfold start at h2;rw [List.getElem?_append_left (by simpa using hi),List.getElem?_map] at h2
   cases e:vs[i]? with
   | none=>rw [e] at h2;cases h2
   | some a=>rw [e] at h2;cases h2;rfl
  obtain ⟨u,hu,rv⟩:=r.get ha
  have hp:ps[i]? = some y:=by
   rw [<- S.pre,List.getElem?_take_of_lt (by omega)];exact h1
  have ndP:ps.Nodup:=by rw [<- S.pre];exact S.nd.sublist (List.take_sublist _ _)
  refine ⟨u,rv,?_⟩
  rcases S.par y (List.mem_of_getElem? hp) with k | k
  ·exact .inl ⟨k,mN ndP hp hu k⟩
  ·obtain ⟨c,e⟩:=uA (n:=s.heap.objs.size + 1) k
   refine .inr ⟨.inl k,c,e,?_⟩;have q:=x.cell y c e;rw [mO ndP hp hu (by show scope.names.lookup y≠_;rw [k];decide)] at q;exact q
 ·exact e0.hok.fresh (Nat.le_of_lt (x.above y c (PySem.mem_of_lookup h)))
 ·unfold start
  show _=N.length;rw [List.length_append,List.length_map,List.length_replicate];omega
theorem eB {CX:tN}{P:Program}{w:World}{K:W.Frag}{mg:Str->Option Value}{base:Heap}{k:Nat}{f:Addr}{name qual:Str}{params:Arguments}{body:List Stmt}{scope:Scope}{dV kV doc pm cdv ct oc:Value}{an od:Option Addr}
  {osl:Array (Option Value)} {N ps:List Str} {sp:Sp} (lk:K.lookup f=some ⟨oc,od,.func (W.fnOf name qual params body scope dV kV doc pm an cdv ct),osl⟩) (hcd:W.codeIn K cdv qual=true) (S:za N ps scope)
  (len:∀ vs H Q E,sp vs H Q E->vs.length=ps.length)
  (hbody:∀ (A:Around) (outer:List Env) (s:Shared) (H:Hp) (vs:List V) (Q:VK) (E:XK),jV k (A.deeper (envOfC qual scope s.heap.objs.size f cdv))->sp vs H Q E ->
   ∃ t,hX (uz CX P w K mg base N qual scope f cdv A outer s H E) body t/\t { nx:=λ_ H'=>Q .non H',rt:=Q } (start N vs) H) :
  xR P w K mg base CX (k + 1) f (W.fnOf name qual params body scope dV kV doc pm an cdv ct) ps sp:=by
 refine ⟨len,λA outer s H args us vs Q E hr e0 hb r hsp => ?_⟩;have hl:=len _ _ _ _ hsp;have KX:K.In s.heap:=e0.mod.kin.keeps λb o e=>(e0.bs b o e).1;have lim:s.heap.NoLimit:=e0.mod.nolimit.keeps λb o e=>(e0.bs b o e).1
 have hkind:∀ y∈ps.zip us,scope.names.lookup y.1=some .local\/(scope.names.lookup y.1=some .cell/\((cellsFrom (s.heap.objs.size + 1) scope.names []).lookup y.1).isSome=true):=λ⟨n,v⟩ hy=>by
  rcases S.par n (List.of_mem_zip hy).1 with q | q
  ·exact .inl q
  ·exact .inr ⟨q,W.cellsFrom_some _ _ _ (.inl q)⟩
 refine codeAny_call_function hr.depth (KX _ _ lk) rfl S.co S.gen rfl (W.codeRec_of KX hcd) (hb _ _ _ _ ?_);refine wpAny_newFunctionEnv_cells S.kind hkind λenv he s1 x => ?_;subst he;refine ⟨lim.keeps x.toInCall.keep,codeAny_func ?_⟩;obtain ⟨t,ht,hq⟩:=hbody A outer s H vs Q E (hr.deeper _) hsp;have I:zj (uz CX P w K mg base N qual scope f cdv A outer s H E) [] (start N vs) H s1:=tO S hr.hd e0 hl r x;refine wpAny_mono (ht [] s1 (start N vs) H _ I hq) (λfl s' hs => ?_) λe s' hs=>hs
 have fin:∀ {σ':St} {H':Hp} {v:V} {u:Value},zj (uz CX P w K mg base N qual scope f cdv A outer s H E) [] σ' H' s'->RelV v u->Q v H'->CE outer P w H s Q u s' :=
  λ{σ' H' v u} J rv q=>⟨v,H',J.os,J.bare,J.base,J.hok,rv,q⟩
 cases fl with
 | ret u =>
  obtain ⟨v,σ',H',J,rv,q⟩:=hs;exact fin J rv q
 | next =>
  obtain ⟨σ',H',J,q⟩:=hs;exact fin (v:=V.non) (u:=Value.none) J rfl q
 | brk =>
  obtain ⟨_,_,_,q⟩:=hs;exact False.elim q
 | cont =>
  obtain ⟨_,_,_,q⟩:=hs;exact False.elim q
section
variable {X:Cx}{x:Str}{p pos:Pos}{e:Expr}{es:List Expr}{t:TA}{id T:String}{r:List V->Hp->VK->Prop}
def Pl (r:List V->Hp->VK->Prop)(t:TA):TE:=λσ H Q=>t σ H λvs H1=>r vs H1 Q
theorem eC (hc:we X (.builtin id) r)(hg:Gl X x)(hm:X.mg x=none)(hv:bootBuiltins x=some (.builtin id))(ha:PA X (e :: es) t)(hn:x ≠ "__name__" := by decide)(hdb:(x == ("__debug__" : Str))=false:=by decide)
  (he:starEach (e :: es) X.env=(false,eval e X.env) :: starEach es X.env:=by rfl) (hpl:(backTo pos (starEach es X.env)).any (·.1)=false:=by rfl):PE X (.Call (.Name x p) (e :: es) [] pos) (Pl r t):=by
 intro pins s σ H Q I h;refine wpAny_Call_Name_kw (gg I hg hm hv ?_ hn hdb);exact PyProof.Rows.callWith_builtin1 (jg (ha pos pins s σ H _ I h) λus s1 ⟨vs,H1,I1,r1,q1⟩=>hc pins s1 σ H1 vs us Q I1 r1 q1) he hpl
theorem tP (hc:we X (.type T) r)(hg:Gl X x)(hm:X.mg x=none)(hv:bootBuiltins x=some (.type T))(ha:PA X (e :: es) t)(hn:x ≠ "__name__" := by decide)(hdb:(x == ("__debug__" : Str))=false:=by decide)
  (he:starEach (e :: es) X.env=(false,eval e X.env) :: starEach es X.env:=by rfl) (hpl:(backTo pos (starEach es X.env)).any (·.1)=false:=by rfl):PE X (.Call (.Name x p) (e :: es) [] pos) (Pl r t):=by
 intro pins s σ H Q I h;refine wpAny_Call_Name_kw (gg I hg hm hv ?_ hn hdb);exact PyProof.Rows.callWith_type1 (jg (ha pos pins s σ H _ I h) λus s1 ⟨vs,H1,I1,r1,q1⟩=>hc pins s1 σ H1 vs us Q I1 r1 q1) he hpl
end
end L2
namespace HT
open PySem PyProof.Rows
section
variable {prog:Program}{w:World}{A:Around}{E:Value->Shared->Prop}{s:Shared}
theorem cat_tup {t b:Addr}{vs ws:List Value}{Q:Value->Shared->Prop}(ht:IsTup s.heap t vs.toArray)(hb:IsTup s.heap b ws.toArray)(hv:vs≠[])
  (h1:ws=[]->Q (.ref t) s) (h2:ws≠[]->Q (.ref s.heap.objs.size) { s with heap:=s.heap.push { cls:=.type "tuple",data:=.seq (vs ++ ws).toArray } })
  (hsz:vs.length + ws.length<=sizeLine):wpAny (model prog w) A (binaryOp .Add (.ref t) (.ref b)) Q E s:=by
 obtain ⟨⟨cls,dd,data,sl⟩,ho,hc,n,hd⟩:=id ht;obtain ⟨⟨cls2,dd2,data2,sl2⟩,ho2,hc2,n2,hd2⟩:=id hb;simp only at hc hd hc2 hd2;subst hc hd hc2 hd2;have e:vs.toArray ++ ws.toArray=(vs ++ ws).toArray:=by simp
 by_cases hw:ws=[]
 ·exact concat_meets ⟨_,ho,rfl⟩ ⟨_,ho2,rfl⟩ noFill_tuple_add seq_tuple_add PySem.F.slot_tuple_add PySem.F.entry_tuple_add (PySem.F.args_tuple_add_2 _ _)
   (tuple_addW1 t b vs.toArray ws.toArray n n2 dd dd2 sl sl2 (by simpa using hv) (by simp [hw])) ⟨ho,ho2,h1 hw⟩
 ·refine concat_meets ⟨_,ho,rfl⟩ ⟨_,ho2,rfl⟩ noFill_tuple_add seq_tuple_add PySem.F.slot_tuple_add PySem.F.entry_tuple_add (PySem.F.args_tuple_add_2 _ _)
   (tuple_addW2 t b vs.toArray ws.toArray n n2 dd dd2 sl sl2 (by simpa using hv) (by simpa using hw) (by rw [List.size_toArray,List.size_toArray];exact hsz)) ⟨ho,ho2,?_⟩
  rw [e];exact h2 hw
def sIx (n d:Nat):Option Int->Nat
 | none=>d
 | some v=>if v < 0 then (v + (n:Int)).toNat else min v.toNat n
theorem sIx_none (n d:Nat):sIx n d none=d:=rfl
theorem sIx_nat (n d k:Nat):sIx n d (some (k:Int))=min k n:=by
 show (if (k:Int) < 0 then ((k:Int) + (n:Int)).toNat else min (k:Int).toNat n)=min k n;rw [if_neg (by omega),Int.toNat_natCast]
theorem sIx_le (n d:Nat)(hd:d<=n)(o:Option Int):sIx n d o<=n:=by
 cases o with
 | none=>exact hd
 | some v =>
  show (if v < 0 then (v + (n:Int)).toNat else min v.toNat n)<=n
  by_cases hv:v < 0
  ·rw [if_pos hv];omega
  ·rw [if_neg hv];exact Nat.min_le_right _ _
theorem bU (v:Int)(n d:Nat):(if v < 0 then max (v + (n:Int)) 0 else min v (n:Int))=((sIx n d (some v):Nat):Int):=by
 show (if v < 0 then max (v + (n:Int)) 0 else min v (n:Int))=(((if v < 0 then (v + (n:Int)).toNat else min v.toNat n):Nat):Int)
 by_cases hv:v < 0
 ·simp only [if_pos hv];omega
 ·simp only [if_neg hv];omega
theorem cN (lo hi:Option Int)(n:Nat):Builtin.Slice.sliceAdjust lo hi 1 (n:Int)=(((sIx n 0 lo:Nat):Int),((sIx n n hi:Nat):Int)):=by
 have h1:¬ ((1:Int) < 0):=by omega
 unfold Builtin.Slice.sliceAdjust;simp only [h1,if_false];refine Prod.ext ?_ ?_
 ·cases lo with
  | none=>rfl
  | some v=>exact bU v n 0
 ·cases hi with
  | none=>rfl
  | some v=>exact bU v n n
theorem cO (i j:Nat):Builtin.Slice.slicePlaces (i:Int) (j:Int) 1=j - i:=by
 unfold Builtin.Slice.slicePlaces;have h1:(1:Int) > 0:=by omega
 simp only [h1,if_true,Int.ediv_one]
 split<;>omega
theorem uB {v:Value}{o:Option Int}{Q:Option Int->Shared->Prop}(p:IsPart v o)(h:Q o s):wpAny (model prog w) A (Builtin.Slice.slicePartIndex v) Q E s:=by
 cases p with
 | none=>exact slicePart_none h
 | int i t=>exact slicePart_int h
theorem vU {sl:Addr}{vl vu:Value}{lo hi:Option Int}{n:Nat}{Q:Int×Int×Nat->Shared->Prop}(hs:s.heap.IsSliceOf sl vl vu .none)(pl:IsPart vl lo)(pu:IsPart vu hi)
  (h:Q (((sIx n 0 lo:Nat):Int),1,sIx n n hi - sIx n 0 lo) s):wpAny (model prog w) A (Builtin.Slice.sliceApplied (.ref sl) (pure (n:Int))) Q E s:=by
 obtain ⟨os,hos,hcs,hds⟩:=id hs;unfold Builtin.Slice.sliceApplied Builtin.Slice.sliceFields;refine wpAny_bind (wpAny_bind (wpAny_field hos hds (x:=vl) rfl (wpAny_bind (wpAny_field hos hds (x:=vu) rfl (wpAny_bind (wpAny_field hos hds (x:=.none) rfl (wpAny_pure ?_)))))));refine wpAny_bind (slicePart_none ?_);show wpAny _ _ (if ((1:Int) == 0)=true then _ else _) _ _ s;rw [if_neg (by decide)];refine wpAny_bind (uB pl (wpAny_bind (uB pu (wpAny_bind (wpAny_pure ?_)))));show wpAny _ _ (match Builtin.Slice.sliceAdjust lo hi 1 (n:Int) with | (lo,hi)=>pure (lo,(1:Int),Builtin.Slice.slicePlaces lo hi 1)) _ _ s;rw [cN lo hi n];show wpAny _ _ (pure (((sIx n 0 lo:Nat):Int),(1:Int),Builtin.Slice.slicePlaces ((sIx n 0 lo:Nat):Int) ((sIx n n hi:Nat):Int) 1)) _ _ s;rw [cO];exact wpAny_pure h
theorem Z0 (xs:Array Value)(i k:Nat):((List.range k).filterMap λ(m:Nat)=>xs[((i:Int) + (m:Int) * 1).toNat]?).toArray=((xs.toList.drop i).take k).toArray:=by
 have e:(λ(m:Nat)=>xs[((i:Int) + (m:Int) * 1).toNat]?)=λm=>xs[i + m]? := by
  funext m
  have:((i:Int) + (m:Int) * 1).toNat=i + m:=by omega
  rw [this]
 rw [e];have:=pick_run xs i k;rw [List.filterMap_map] at this;have e2:((λx=>xs[x]?) ∘ λx=>i + x)=λm=>xs[i + m]? := rfl;rw [e2] at this;rw [this]
theorem getItem_tuple_cut {t sl:Addr}{items:Array Value}{vl vu:Value}{lo hi:Option Int}{Q:Value->Shared->Prop}(ht:IsTup s.heap t items)(hs:s.heap.IsSliceOf sl vl vu .none)(pl:IsPart vl lo)(pu:IsPart vu hi)
  (hw:¬ (sIx items.size 0 lo=0/\sIx items.size items.size hi=items.size))
  (h:Q (.ref s.heap.objs.size) { s with heap:=s.heap.push { cls:=.type "tuple",data:=.seq ((items.toList.drop (sIx items.size 0 lo)).take (sIx items.size items.size hi - sIx items.size 0 lo)).toArray } })
  (hsz:items.size<=sizeLine):wpAny (model prog w) A (getItem (.ref t) (.ref sl)) Q E s:=by
 have htake:sizeOk (.seq ((items.toList.drop (sIx items.size 0 lo)).take (sIx items.size items.size hi - sIx items.size 0 lo)).toArray):=by
  show ((items.toList.drop (sIx items.size 0 lo)).take (sIx items.size items.size hi - sIx items.size 0 lo)).toArray.size<=sizeLine;rw [List.size_toArray,List.length_take,List.length_drop,Array.length_toList];omega
 have hj:sIx items.size items.size hi<=items.size:=sIx_le _ _ (Nat.le_refl _) hi;obtain ⟨os,hos,hcs,hds⟩:=id hs;have hTs:s.TypeIs (.ref sl) "slice" := ⟨os,hos,hcs⟩
 unfold getItem
 try with_reducible refine wpAny_holding ?_
 first | refine wpAny_bind (wpAny_pure ?_) | skip
 refine wpAny_bind (wpAny_sequenceKey ht.typeIs (by decide) ?_)
 refine wpAny_bind (wpAny_callSpecial?_slot (name:=Str.ofString "__getitem__") ht.typeIs PyProof.Rows.slot_tuple_getitem
  (wpAny_call_entry PyProof.Rows.slot_tuple_getitem ht.typeIs entry_tuple_getitem ?_ (args_tuple_getitem _ _)))
 show wpAny _ _ (Builtin.Tuple.tupleItemsOf (.ref t) >>= _) _ _ s;refine wpAny_bind (tupleItemsOf_ ht ?_);refine wpAny_bind (wpAny_typeOf hTs ?_);rw [if_pos (by decide)];refine wpAny_bind (vU hs pl pu ?_)
 have hno:¬ ((((sIx items.size 0 lo:Nat):Int) == 0 && (1:Int) == 1 && (sIx items.size items.size hi - sIx items.size 0 lo) == items.size)=true):=by
  intro q;rw [Bool.and_eq_true,Bool.and_eq_true] at q;have q1:((sIx items.size 0 lo:Nat):Int)=0:=eq_of_beq q.1.1;have q2:sIx items.size items.size hi - sIx items.size 0 lo=items.size:=eq_of_beq q.2;exact hw ⟨by omega,by omega⟩
 show wpAny _ _ (if (((sIx items.size 0 lo:Nat):Int) == 0 && (1:Int) == 1 && (sIx items.size items.size hi - sIx items.size 0 lo) == items.size)=true then _ else _) _ _ s;rw [if_neg hno,Z0]
 first
  | exact wpAny_bind (m:=Builtin.Tuple.tupleExact _) (wpAny_newObj_type (wpAny_pure ⟨_,rfl,wpAny_pure h⟩) htake)
  | exact wpAny_bind (m:=Builtin.Tuple.tupleExact _) (wpAny_newObj_type (wpAny_bind (wpAny_pure (wpAny_pure ⟨_,rfl,wpAny_pure h⟩))) htake)
  | exact wpAny_bind (wpAny_bind (m:=Builtin.Tuple.tupleExact _) (wpAny_newObj_type (wpAny_pure (wpAny_pure ⟨_,rfl,wpAny_pure h⟩)) htake))
  | exact wpAny_bind (wpAny_bind (m:=Builtin.Tuple.tupleExact _) (wpAny_newObj_type (wpAny_pure ⟨_,rfl,wpAny_pure h⟩) htake))
end
end HT
namespace L2
open PySem PySem.Spec PyProof.Rows
abbrev TO:=St->Hp->(Option Int->Hp->Prop)->Prop
def PO (X:Cx)(e:Option Expr)(t:TO):Prop :=
 ∀ (pins:List (Addr×Obj)) (s:Shared) (σ:St) (H:Hp) (Q:Option Int->Hp->Prop),zj X pins σ H s->t σ H Q ->
  wpAny (model X.prog X.w) X.A (evalPart e X.env) (λu s'=>∃ o H',zj X pins σ H' s'/\IsPart u o/\Q o H') X.xe s
def Yq:TO:=λ_ H Q=>Q none H
def Qv (t:TE):TO:=λσ H Q=>t σ H λx H1=>∃ i,x=.int i/\Q (some i) H1
section
variable {X:Cx}{e:Expr}{te:TE}{lo hi:Option Expr}{tl th:TO}{pos p2:Pos}
theorem Yr:PO X none Yq:=by
 intro pins s σ H Q I h;rw [evalPart_none];exact wpAny_pure ⟨none,H,I,.none,h⟩
theorem Ys (h:PE X e te):PO X (some e) (Qv te):=by
 intro pins s σ H Q I hw;rw [evalPart_some];refine jg (h pins s σ H _ I hw) λu s1 ⟨x,H1,I1,r1,q1⟩ => ?_;obtain ⟨i,rfl,q⟩:=q1;obtain ⟨t,rfl⟩:=r1;exact ⟨some i,H1,I1,.int i t,q⟩
def Qw (X:Cx)(r:V->Option Int->Option Int->Hp->VK->Prop):Prop :=
 ∀ (pins:List (Addr×Obj)) (s:Shared) (σ:St) (H:Hp) (x:V) (v vl vu:Value) (lo hi:Option Int) (sl:Addr) (Q:VK),zj X pins σ H s->RelV x v->s.heap.IsSliceOf sl vl vu .none->IsPart vl lo->IsPart vu hi->r x lo hi H Q ->
  ∃ T id,typeLookup (.type T) "__getitem__" = pure (some (.builtin id))/\s.TypeIs v T/\wpAny (model X.prog X.w) X.A (getItem v (.ref sl)) (EP X pins σ Q) X.xe s
def UM (r:V->Option Int->Option Int->Hp->VK->Prop)(te:TE)(tl th:TO):TE:=λσ H Q=>te σ H λx H1=>tl σ H1 λl H2=>th σ H2 λu H3=>r x l u H3 Q
theorem Z1 {r:V->Option Int->Option Int->Hp->VK->Prop}(hr:Qw X r)(he:PE X e te)(hl:PO X lo tl)(hu:PO X hi th):PE X (.Subscript e (.Slice lo hi none p2) pos) (UM r te tl th):=by
 intro pins s σ H Q I h;refine Subscript_ (jg (he pins s σ H _ I h) λv s1 ⟨x,H1,I1,r1,q1⟩ => ?_);refine wpAny_Slice (jg (hl pins s1 σ H1 _ I1 q1) λvl s2 ⟨l,H2,I2,pl,q2⟩=>jg (hu pins s2 σ H2 _ I2 q2) λvu s3 ⟨u,H3,I3,pu,q3⟩ => ?_);rw [evalPart_none];refine wpAny_pure ?_;have I4:zj X pins σ H3 { s3 with heap:=s3.heap.push { cls:=.type "slice",data:=.fields #[vl,vu,.none] } }:=I3.kept (t':=s3.toks) λb ob q=>Heap.get?_push_of_some _ q;obtain ⟨T,id,hT,ht,hg⟩:=hr pins { s3 with heap:=s3.heap.push { cls:=.type "slice",data:=.fields #[vl,vu,.none] } } σ H3 x v vl vu l u s3.heap.objs.size Q I4 r1 (Heap.IsSliceOf.new ..) pl pu q3;show wpAny (model X.prog X.w) X.A (subscriptTail e (.Slice lo hi none p2) v (.ref s3.heap.objs.size)) (EP X pins σ Q) X.xe { s3 with heap:=s3.heap.push { cls:=.type "slice",data:=.fields #[vl,vu,.none] } };exact tail_any (ops:=[.ref s3.heap.objs.size,v]) ht hT hg (by with_unfolding_all rfl)
def eD (xs:List V)(lo hi:Option Int):List V:=(xs.drop (HT.sIx xs.length 0 lo)).take (HT.sIx xs.length xs.length hi - HT.sIx xs.length 0 lo)
theorem pC (xs:List V)(lo hi:Option Int):(eD xs lo hi).length<=xs.length:=by
 unfold eD;rw [List.length_take,List.length_drop];omega
def Pn (K:W.Frag):V->Option Int->Option Int->Hp->VK->Prop:=λx lo hi H Q=>∃ a xs,x=.ref a/\fx K H a xs /\
 ¬ (HT.sIx xs.length 0 lo=0/\HT.sIx xs.length xs.length hi=xs.length)/\∀ p,H p=none->Q (.ref p) (zN H p (.tup (eD xs lo hi)))
theorem Vu:Qw X (Pn X.K):=by
 intro pins s σ H x v vl vu lo hi sl Q I rx hs pl pu h;obtain ⟨a,xs,rfl,hx,hw,q⟩:=h;cases rx;obtain ⟨its,r,ht,hz⟩:=I.tuple hx;have hlen:its.toArray.size=xs.length:=by rw [List.size_toArray];exact r.length.symm
 refine ⟨"tuple",_,PyProof.Rows.slot_tuple_getitem.lookup,ht.typeIs,?_⟩;refine HT.getItem_tuple_cut ht hs pl pu (by rw [hlen];exact hw) ?_ (by rw [hlen];exact hz);rw [hlen];refine ⟨.ref s.heap.objs.size,_,I.laid (t':=s.toks) (o:=.tup (eD xs lo hi)) (λb ob q=>Heap.get?_push_of_some _ q) (Nat.le_refl _) ?_,rfl,q _ (I.hok.fresh (Nat.le_refl _))⟩;exact ⟨Nat.le_trans (pC xs lo hi) hz,_,(r.drop (HT.sIx xs.length 0 lo)).take (HT.sIx xs.length xs.length hi - HT.sIx xs.length 0 lo),IsTup.new _ _⟩
def Qx (K:W.Frag):R2:=λx y H Q=>∃ a b xs ys,x=.ref a/\y=.ref b/\fx K H a xs/\fx K H b ys/\xs≠[]/\xs.length + ys.length<=sizeLine /\
 (ys=[]->Q (.ref a) H)/\(ys≠[]->∀ p,H p=none->Q (.ref p) (zN H p (.tup (xs ++ ys))))
theorem zF.nil_iff {xs:List V}{us:List Value}(r:zF xs us):us=[]↔xs=[]:=by
 cases r with
 | nil=>simp
 | cons _ _=>simp
theorem Yt:vm X (binaryOp .Add) (Qx X.K):=by
 intro pins s σ H x y v u Q I rx ry h;obtain ⟨a,b,xs,ys,rfl,rfl,ha,hb,hx,hz,q1,q2⟩:=h;cases rx;cases ry;obtain ⟨its,r1,p1,_⟩:=I.tuple ha;obtain ⟨its2,r2,p2,_⟩:=I.tuple hb;refine HT.cat_tup p1 p2 (λz=>hx (r1.nil_iff.mp z)) (λz=>⟨.ref a,H,I,rfl,q1 (r2.nil_iff.mp z)⟩) (λz => ?_) (by rw [<- r1.length,<- r2.length];exact hz);refine ⟨.ref s.heap.objs.size,_,I.laid (t':=s.toks) (o:=.tup (xs ++ ys)) (λb ob q=>Heap.get?_push_of_some _ q) (Nat.le_refl _) ?_,rfl,q2 (λw=>z (r2.nil_iff.mpr w)) _ (I.hok.fresh (Nat.le_refl _))⟩;exact ⟨by rw [List.length_append];exact hz,_,r1.append r2,IsTup.new _ _⟩
end
def bV (n:Nat)(i:Int):Option Nat:=if 0<=i then (if i < n then some i.toNat else none) else if -(n:Int)<=i then some (i + n).toNat else none
def m3 {α:Type}(xs:List α)(i:Int):Option α:=(bV xs.length i).bind λj=>xs[j]?
theorem bW {n:Nat}{i:Int}{j:Nat}(h:bV n i=some j):seqIndex? i n=some j/\j < n /\ -(n:Int)<=i/\i < n:=by
 unfold bV at h
 by_cases h0:0<=i
 ·rw [if_pos h0] at h
  by_cases h1:i < n
  ·rw [if_pos h1] at h
   have e:i.toNat=j:=Option.some.inj h;exact ⟨by rw [seqIndex_of h0 h1,e],by omega,by omega,h1⟩
  ·rw [if_neg h1] at h;cases h
 ·rw [if_neg h0] at h
  by_cases h1 : -(n:Int)<=i
  ·rw [if_pos h1] at h
   have e:(i + n).toNat=j:=Option.some.inj h;exact ⟨by rw [seqIndex_neg (by omega) h1,e],by omega,h1,by omega⟩
  ·rw [if_neg h1] at h;cases h
theorem lJ {α:Type}{xs:List α}{i:Int}{v:α}(h:m3 xs i=some v):∃ j,seqIndex? i xs.length=some j/\xs[j]? = some v/\j < xs.length /\ -(xs.length:Int)<=i/\i < xs.length:=by
 unfold m3 at h
 cases e:bV xs.length i with
 | none=>rw [e] at h;cases h
 | some j =>
  rw [e] at h;obtain ⟨h1,h2,h3,h4⟩:=bW e;exact ⟨j,h1,h,h2,h3,h4⟩
theorem Yu {α:Type}{xs:List α}{j:Nat}{v:α}(h:xs[j]? = some v):m3 xs (j:Int)=some v:=by
 have hj:j < xs.length:=(List.getElem?_eq_some_iff.mp h).1
 have e:bV xs.length (j:Int)=some j:=by
  unfold bV;rw [if_pos (by omega),if_pos (by omega)];simp
 unfold m3;rw [e];exact h
def bX (b:Expr):Prop := ∀ o i,subscripted b false o i=operate [o,i] (getItem o i)
def Qy (X:Cx)(r:R2):Prop :=
 ∀ (value slice:Expr) (pins:List (Addr×Obj)) (s:Shared) (σ:St) (H:Hp) (x y:V) (v u:Value) (Q:VK),zj X pins σ H s->RelV x v->RelV y u->r x y H Q ->
  subscripted slice false v u=operate [v,u] (getItem v u)->wpAny (model X.prog X.w) X.A (subscriptTail value slice v u) (EP X pins σ Q) X.xe s
def Po (X:Cx)(id:String)(r:V->List V->Hp->VK->Prop):Prop :=
 ∀ (pins:List (Addr×Obj)) (s:Shared) (σ:St) (H:Hp) (x:V) (xs:List V) (v:Value) (us:List Value) (Q:VK),zj X pins σ H s->RelV x v->zF xs us->r x xs H Q ->
  wpAny (model X.prog X.w) X.A (call (.builtin id) (v :: us)) (EP X pins σ Q) X.xe s
section
variable {X:Cx}{a b:Expr}{ta tb:TE}{pos:Pos}
theorem Qz {r:R2}(hr:Qy X r)(ha:PE X a ta)(hb:PE X b tb)(hs:bX b):PE X (.Subscript a b pos) (Qo r ta tb):=by
 intro pins s σ H Q I h;exact Subscript_ (Vg ha hb I h λv u s2 x y H2 I2 rx ry q=>hr a b pins s2 σ H2 x y v u Q I2 rx ry q (hs _ _))
def Pp (K:W.Frag):R2:=λx y H Q=>∃ p xs i v,x=.ref p/\y=.int i/\fw K H p xs/\m3 xs i=some v/\Q v H
def Pq (K:W.Frag):R2:=λx y H Q=>∃ p xs i v,x=.ref p/\y=.int i/\fx K H p xs/\m3 xs i=some v/\Q v H
def Pr:R2:=λx y H Q=>∃ z i c,x=.str z/\y=.int i/\z.length<=sizeLine/\m3 z.cps.toList i=some c/\Q (.str ⟨#[c]⟩) H
theorem Yv:Qy X (Pp X.K):=by
 intro value slice pins s σ H x y v u Q I rx ry h hs;obtain ⟨p,xs,i,z,rfl,rfl,hq,he,q⟩:=h;cases rx;obtain ⟨t,rfl⟩:=ry;obtain ⟨its,r,pl,hz⟩:=I.list hq;obtain ⟨j,h1,h2,h3,h4,h5⟩:=lJ he;obtain ⟨w,ew,rw'⟩:=r.get h2;have hl:=r.length;have hn:=gh;have fin:EP X pins σ Q w s:=⟨z,H,I,rw',q⟩
 by_cases h0:0<=i
 ·have hj:i.toNat=j:=by
   rw [seqIndex_of h0 h5] at h1;exact Option.some.inj h1
  exact item_listR pl.isList h0 (by omega) (by rw [hj];simpa using ew) fin hs
 ·have hj:(i + (its.toArray.size:Int)).toNat=j:=by
   rw [seqIndex_neg (by omega) h4] at h1;rw [List.size_toArray,<- hl];exact Option.some.inj h1
  exact subscriptTail_builtinR (x:=w) pl.isList.typeIs slot_list_getitem.lookup
   (wpAny_getItem_list_neg (Q:=λr s'=>r=w/\EP X pins σ Q r s') pl.isList (by omega) (by rw [List.size_toArray]<;>omega) (by omega) (by rw [hj];simpa using ew) ⟨rfl,fin⟩) hs
theorem Vv:Qy X (Pq X.K):=by
 intro value slice pins s σ H x y v u Q I rx ry h hs;obtain ⟨p,xs,i,z,rfl,rfl,hq,he,q⟩:=h;cases rx;obtain ⟨t,rfl⟩:=ry;obtain ⟨its,r,pl,hz⟩:=I.tuple hq;obtain ⟨j,h1,h2,h3,h4,h5⟩:=lJ he;obtain ⟨w,ew,rw'⟩:=r.get h2;have hl:=r.length;have hn:=gh;have fin:EP X pins σ Q w s:=⟨z,H,I,rw',q⟩
 exact subscriptTail_builtinR (x:=w) pl.typeIs slot_tuple_getitem.lookup
  (getItem_tuple (j:=j) (Q:=λr s'=>r=w/\EP X pins σ Q r s') pl (by omega) (by omega) (by rw [List.size_toArray,<- hl];exact h1) (by simpa using ew) ⟨rfl,fin⟩) hs
theorem Vw:Qy X Pr:=by
 intro value slice pins s σ H x y v u Q I rx ry h hs;obtain ⟨z,i,c,rfl,rfl,hz,he,q⟩:=h;obtain ⟨t,rfl⟩:=rx;obtain ⟨t',rfl⟩:=ry;obtain ⟨j,h1,h2,h3,h4,h5⟩:=lJ he;have hl:z.cps.toList.length=z.length:=by simp [Str.length]
 rw [hl] at h1 h4 h5;have hn:=gh
 exact tail_any (typeIs_str s z t) slot_str_getitem.lookup (getItem_str (c:=c) (by
  have e1:decide (i < -(2 ^ 63:Int))=false:=decide_eq_false (by omega);have e2:decide (i >= 2 ^ 63)=false:=decide_eq_false (by omega);rw [e1,e2,Bool.or_false]) (by rw [h1];simpa using h2) ⟨.str ⟨#[c]⟩,H,I.tok _,⟨_,rfl⟩,q⟩) hs
theorem cP (its:List Value)(n j:Nat)(u:Value):Obj.mapSeq (·.setIfInBounds j u) { cls:=.type "list",data:=.seq its.toArray n } = { cls:=.type "list",data:=.seq (its.set j u).toArray n }:=by
 simp [Obj.mapSeq]
theorem zj.lst {pins:List (Addr×Obj)}{σ:St}{H:Hp}{s:Shared}{p:Addr}{xs:List V}(I:zj X pins σ H s)(h:H p=some (.lst xs)) :
  ∃ (its:List Value) (n:Nat),zF xs its/\s.heap.get? p=some { cls:=.type "list",data:=.seq its.toArray n } /\ xs.length<=sizeLine:=by
 obtain ⟨z,its,n,r,e⟩:=I.hok p _ h;exact ⟨its,n,r,e,z⟩
theorem zj.lstUpd {pins:List (Addr×Obj)}{σ:St}{H:Hp}{s:Shared}{p:Addr}{xs ys:List V}{its its':List Value}{n n':Nat}{f:Obj->Obj}(I:zj X pins σ H s)(h:H p=some (.lst xs))
  (ho:s.heap.get? p=some { cls:=.type "list",data:=.seq its.toArray n }) (hf:f { cls:=.type "list",data:=.seq its.toArray n } = { cls:=.type "list",data:=.seq its'.toArray n' }) (r:zF ys its') (hz:ys.length<=sizeLine) (t:Nat) :
  zj X pins σ (zN H p (.lst ys)) { s with heap:=s.heap.update p f,toks:=t }:=by
 have e:(s.heap.update p f).get? p=some { cls:=.type "list",data:=.seq its'.toArray n' }:=by
  rw [Heap.get?_update_self f ho (by rw [hf]<;>rfl),hf]
 refine I.write (x:=p) (e:=p) (by rw [h];trivial) (.inl rfl) (λb u hb q=>(Heap.get?_update_other _ _ (Ne.symm hb)).trans q) ⟨_,e⟩ ?_;exact ⟨hz,its',n',r,e⟩
def Wb:V->V->V->Hp->(Hp->Prop)->Prop:=λo i v H Q=>∃ p xs k j,o=.ref p/\i=.int k/\H p=some (.lst xs)/\bV xs.length k=some j/\Q (zN H p (.lst (xs.set j v)))
theorem Z2:Qk X Wb:=by
 intro pins s σ H o i v ov iv u Q I ro ri rv h;obtain ⟨p,xs,k,j,rfl,rfl,hp,hj,q⟩:=h;cases ro;obtain ⟨t,rfl⟩:=ri;obtain ⟨its,n,r,ho,hz⟩:=I.lst hp;obtain ⟨h1,h2,h3,h4⟩:=bW hj;have hl:=r.length;have hn:=gh
 have I':zj X pins σ (zN H p (.lst (xs.set j v))) { s with heap:=s.heap.update p (Obj.mapSeq (·.setIfInBounds j u)) } :=
  I.lstUpd hp ho (cP its n j u) (r.set rv j) (by rw [List.length_set];exact hz) s.toks
 by_cases h0:0<=k
 ·have hk:k.toNat=j:=by
   rw [seqIndex_of h0 h4] at h1;exact Option.some.inj h1
  exact W.ki_setAt ho h0 (by omega) (by rw [List.size_toArray,<- hl];exact h4) (by rw [hk];exact ⟨_,I',q⟩)
 ·have hk:(k + (its.toArray.size:Int)).toNat=j:=by
   rw [seqIndex_neg (by omega) h3] at h1;rw [List.size_toArray,<- hl];exact Option.some.inj h1
  exact W.ki_setBack ho (by omega) (by rw [List.size_toArray,<- hl];exact h3) (by omega) (by rw [hk];exact ⟨_,I',q⟩)
theorem lK (lo hi:Option Int)(n:Nat):(sliceBounds lo hi none n).1=((HT.sIx n 0 lo:Nat):Int)/\(sliceBounds lo hi none n).2.1=((HT.sIx n n hi:Nat):Int)/\(sliceBounds lo hi none n).2.2=1:=by
 refine ⟨?_,?_,rfl⟩
 ·cases lo with
  | none=>simp [sliceBounds,HT.sIx]
  | some i =>
   simp only [sliceBounds,HT.sIx,Option.getD_none,show (1:Int) > 0 by decide,if_true]
   by_cases h:i < 0
   ·simp only [h,if_true]<;>omega
   ·simp only [h,if_false]<;>omega
 ·cases hi with
  | none=>simp [sliceBounds,HT.sIx]
  | some i =>
   simp only [sliceBounds,HT.sIx,Option.getD_none,show (1:Int) > 0 by decide,if_true]
   by_cases h:i < 0
   ·simp only [h,if_true]<;>omega
   ·simp only [h,if_false]<;>omega
theorem m5 (its:List Value)(lo hi:Option Int):slicePick its.toArray lo hi none=((its.drop (HT.sIx its.length 0 lo)).take (HT.sIx its.length its.length hi - HT.sIx its.length 0 lo)).toArray:=by
 obtain ⟨h1,h2,h3⟩:=lK lo hi its.toArray.size;unfold slicePick;rw [h1,h2,h3];simp only [sliceRange_one,pick_run,List.size_toArray]<;>rfl
def Ps (K:W.Frag):V->Option Int->Option Int->Hp->VK->Prop:=λx lo hi H Q=>∃ a xs,x=.ref a/\fw K H a xs/\∀ p,H p=none->Q (.ref p) (zN H p (.lst (eD xs lo hi)))
theorem Yw:Qw X (Ps X.K):=by
 intro pins s σ H x v vl vu lo hi sl Q I rx hs pl pu h;obtain ⟨a,xs,rfl,hx,q⟩:=h;cases rx;obtain ⟨its,r,ht,hz⟩:=I.list hx;have hlen:=r.length;refine ⟨"list",_,slot_list_getitem.lookup,ht.isList.typeIs,?_⟩;refine wpAny_getItem_list_slice ht.isList hs pl pu .none (by simp) ?_ (by rw [List.size_toArray]<;>omega);rw [m5,<- hlen];refine ⟨.ref s.heap.objs.size,_,I.laid (t':=s.toks) (o:=.lst (eD xs lo hi)) (λb ob q=>Heap.get?_push_of_some _ q) (Nat.le_refl _) ?_,rfl,q _ (I.hok.fresh (Nat.le_refl _))⟩;exact ⟨Nat.le_trans (pC xs lo hi) hz,_,0,(r.drop (HT.sIx xs.length 0 lo)).take (HT.sIx xs.length xs.length hi - HT.sIx xs.length 0 lo),Heap.get?_push_size _ rfl⟩
theorem gI:we X (.builtin "len") (λxs H Q=>∃ p ys,xs=[.ref p]/\(fw X.K H p ys\/fx X.K H p ys)/\Q (.int ys.length) H):=by
 intro pins s σ H xs us Q I r h;obtain ⟨p,ys,rfl,hq,q⟩:=h;obtain ⟨u,rfl,rx⟩:=gH r;cases rx;have hn:=gh
 rcases hq with hq | hq
 ·obtain ⟨its,r',pl,hz⟩:=I.list hq
  have hlen:=r'.length;exact Calls.call_len_list pl.isList (by simp only [List.size_toArray]<;>omega) ⟨.int ys.length,H,I.tok _,⟨s.toks + 1,by rw [List.size_toArray,hlen]⟩,q⟩
 ·obtain ⟨its,r',pl,hz⟩:=I.tuple hq
  have hlen:=r'.length;exact len_tuple pl (by simp only [List.size_toArray]<;>omega) ⟨.int ys.length,H,I.tok _,⟨s.toks + 1,by rw [List.size_toArray,hlen]⟩,q⟩
theorem lL:we X (.builtin "len") (λxs H Q=>∃ z,xs=[.str z]/\z.length<=sizeLine/\Q (.int z.length) H):=by
 intro pins s σ H xs us Q I r h;obtain ⟨z,rfl,hz,q⟩:=h;obtain ⟨u,rfl,t,rfl⟩:=gH r;have hn:=gh;exact len_str (by omega) ⟨.int z.length,H,I.tok _,⟨_,rfl⟩,q⟩
theorem gJ:we X (.type "list") (λxs H Q=>∃ p ys,xs=[.ref p]/\(fw X.K H p ys\/fx X.K H p ys)/\∀ l,H l=none->Q (.ref l) (zN H l (.lst ys))):=by
 intro pins s σ H xs us Q I r h;obtain ⟨p,ys,rfl,hq,q⟩:=h;obtain ⟨u,rfl,rx⟩:=gH r;cases rx
 have fin:∀ (its:List Value),zF ys its->ys.length<=sizeLine->∀ (h':Heap) (c':Nat),(∀ b o',s.heap.get? b=some o'->h'.get? b=some o') ->
   h'.get? s.heap.objs.size=some { cls:=.type "list",dict:=none,data:=.seq its.toArray c',slots := #[] } -> EP X pins σ Q (.ref s.heap.objs.size) { s with heap:=h' }:=λits r' hz h' c' kp e =>
  ⟨.ref s.heap.objs.size,_,I.laid (t':=s.toks) kp (Nat.le_refl _) (show j7 X.prog X.w _ h' _ (.lst ys) from ⟨hz,its,c',r',e⟩),rfl,q _ (I.hok.fresh (Nat.le_refl _))⟩
 rcases hq with hq | hq
 ·obtain ⟨its,r',pl,hz⟩:=I.list hq
  have hlen:=r'.length;obtain ⟨o,ho,hc,n,hd⟩:=pl.isList;exact call_list_seq p (.inl rfl) ho hc hd (λh' c' kp e=>fin its r' hz h' c' kp e) (by simp only [List.size_toArray]<;>omega)
 ·obtain ⟨its,r',pl,hz⟩:=I.tuple hq
  have hlen:=r'.length;obtain ⟨o,ho,hc,n,hd⟩:=pl;exact call_list_seq p (.inr rfl) ho hc hd (λh' c' kp e=>fin its r' hz h' c' kp e) (by simp only [List.size_toArray]<;>omega)
theorem qR:we X (.type "tuple") (λxs H Q=>∃ p ys,xs=[.ref p]/\((fw X.K H p ys/\∀ l,H l=none->Q (.ref l) (zN H l (.tup ys)))\/(fx X.K H p ys/\Q (.ref p) H))):=by
 intro pins s σ H xs us Q I r h;obtain ⟨p,ys,rfl,h⟩:=h;obtain ⟨u,rfl,rx⟩:=gH r;cases rx
 rcases h with ⟨hq,q⟩ | ⟨hq,q⟩
 ·obtain ⟨its,r',pl,hz⟩:=I.list hq
  have hlen:=r'.length;refine call_tuple_list pl.isList (λh' kp => ?_) (by simp only [List.size_toArray]<;>omega);have I1:zj X pins σ H { s with heap:=h' }:=I.kept (t':=s.toks) kp
  have I2:zj X pins σ (zN H h'.objs.size (.tup ys)) { s with heap:=h'.push { cls:=.type "tuple",data:=.seq its.toArray } } :=
   I1.laid (t':=s.toks) (λb o e=>Heap.get?_push_of_some _ e) (Nat.le_refl _) (show j7 X.prog X.w _ _ _ (.tup ys) from ⟨hz,its,r',IsTup.new _ _⟩)
  exact ⟨.ref h'.objs.size,_,I2,rfl,q _ (I1.hok.fresh (Nat.le_refl _))⟩
 ·obtain ⟨its,r',pl,hz⟩:=I.tuple hq
  exact call_tuple_same pl ⟨.ref p,H,I,rfl,q⟩
def Pt (K:W.Frag)(T:String)(x:V)(H:Hp):Prop:=match x with
 | .str _=>T = "str"
 | .int _=>T = "int"
 | .ref p=>(T = "list" /\ ∃ xs,fw K H p xs)\/(T = "tuple" /\ ∃ o,K.lookup p=some o/\o.cls=.type "tuple" /\ o.dict=none) \/
   (T = "dict" /\ ((∃ kvs,H p=some (.dK kvs))\/∃ kvs,H p=some (.dT kvs)))\/(T = "set" /\ ∃ S n,H p=some (.set S n))
 | _=>False
theorem Z3 {pins:List (Addr×Obj)}{σ:St}{H:Hp}{s:Shared}{T:String}{x:V}{v:Value}(I:zj X pins σ H s)(r:RelV x v)(ty:Pt X.K T x H) :
  s.TypeIs v T/\∀ a,v=.ref a->∃ ob,s.heap.get? a=some ob/\ob.dict=none:=by
 cases x with
 | str z =>
  obtain ⟨t,rfl⟩:=r;cases (show T = "str" from ty);exact ⟨typeIs_str s z t,λ_ e=>nomatch e⟩
 | int i =>
  obtain ⟨t,rfl⟩:=r;cases (show T = "int" from ty);exact ⟨typeIs_int s i t,λ_ e=>nomatch e⟩
 | ref p =>
  cases r
  rcases ty with ⟨rfl,xs,hq⟩ | ⟨rfl,o,hk,hc,hd⟩ | ⟨rfl,hk⟩ | ⟨rfl,S,n,hk⟩
  ·obtain ⟨its,_,pl,_⟩:=I.list hq
   refine ⟨pl.isList.typeIs,λa e => ?_⟩;cases e;obtain ⟨o,n,e,c,hd,_⟩:=pl;exact ⟨o,e,hd⟩
  ·refine ⟨⟨o,I.kIn p o hk,hc⟩,λa e => ?_⟩
   cases e;exact ⟨o,I.kIn _ o hk,hd⟩
  ·have z:∃ o,s.heap.get? p=some o/\o.ExactDict:=by
    rcases hk with ⟨kvs,hk⟩ | ⟨kvs,hk⟩
    ·obtain ⟨_,_,_,_,o,_,_,e,ex,_⟩:=I.hok p _ hk
     exact ⟨o,e,ex⟩
    ·obtain ⟨_,_,_,_,o,_,_,e,ex,_⟩:=I.hok p _ hk
     exact ⟨o,e,ex⟩
   obtain ⟨o,e,ex⟩:=z;refine ⟨⟨o,e,ex.1⟩,λa e2 => ?_⟩;cases e2;exact ⟨o,e,ex.2.1⟩
  ·obtain ⟨o,_,_,_,e,ex,_⟩:=I.hok p _ hk
   refine ⟨⟨o,e,ex.1⟩,λa e2 => ?_⟩;cases e2;exact ⟨o,e,ex.2.1⟩
 | _=>exact False.elim ty
def QA (K:W.Frag)(T:String)(r:V->List V->Hp->VK->Prop)(to:TE):TE:=λσ H Q=>to σ H λx H1=>Pt K T x H1/\r x [] H1 Q
def Pu (K:W.Frag)(T:String)(r:V->List V->Hp->VK->Prop)(to:TE)(t:TA):TE:=λσ H Q=>to σ H λx H1=>Pt K T x H1/\t σ H1 λxs H2=>r x xs H2 Q
variable {o e:Expr}{es:List Expr}{to:TE}{t:TA}{name:Str}{apos cpos:Pos}{T id:String}{r:V->List V->Hp->VK->Prop}
theorem Vx (pa:PlainAttrs T)(slot:Slot T name id)(hty:typeOf (.builtin id)=pure (.type "method_descriptor"))(hm:Po X id r)(ho:PE X o to)
  (hbase:attributeBase o name X.env (eval o X.env)=eval o X.env:=by rfl) (hline:(apos.endLine == cpos.line)=true:=by rfl):PE X (.Call (.Attribute o name apos) [] [] cpos) (QA X.K T r to):=by
 intro pins s σ H Q I h;refine wpAny_Call_method0_late hbase hline (jg (ho pins s σ H _ I h) λv s1 ⟨x,H1,I1,r1,ty,q1⟩ => ?_);obtain ⟨h1,h2⟩:=Z3 I1 r1 ty;exact ⟨T,id,pa,slot,hty,h1,h2,Calls.callWith_builtin rfl (PySem.evalArgs_none (hm pins s1 σ H1 x [] v [] Q I1 r1 .nil q1))⟩
theorem mP (pa:PlainAttrs T)(slot:Slot T name id)(hty:typeOf (.builtin id)=pure (.type "method_descriptor"))(hm:Po X id r)(ho:PE X o to)(ha:PA X (e :: es) t)
  (hbase:attributeBase o name X.env (eval o X.env)=eval o X.env:=by rfl)
  (hfew:((backTo cpos (starEach (e :: es) X.env)).all (λx => !x.1) && (backToKw cpos (keywordEach [] X.env)).all (λx=>x.1.isSome)
   && decide ((e :: es).length + ([]:List Keyword).length + (if ([]:List Keyword).isEmpty then 0 else 1) < 30))=true:=by rfl)
  (hline:(apos.endLine == cpos.line)=true:=by rfl) (hs:starEach (e :: es) X.env=(false,eval e X.env) :: starEach es X.env:=by rfl) (hplain:(backTo cpos (starEach es X.env)).any (·.1)=false:=by rfl) :
  PE X (.Call (.Attribute o name apos) (e :: es) [] cpos) (Pu X.K T r to t):=by
 intro pins s σ H Q I h;refine wpAny_Call_method_late hbase hfew hline rfl (jg (ho pins s σ H _ I h) λv s1 ⟨x,H1,I1,r1,ty,q1⟩ => ?_);obtain ⟨h1,h2⟩:=Z3 I1 r1 ty;refine ⟨T,id,pa,slot,hty,h1,h2,?_⟩;have hA:=ha cpos pins s1 σ H1 _ I1 q1;rw [hs] at hA ⊢;refine Calls.callWith_builtin (by show (false || (backTo cpos (starEach es X.env)).any (·.1))=false;rw [hplain]<;>rfl) (Calls.evalArgs_plain ?_);exact jg hA λus s2 ⟨vs,H2,I2,r2,q2⟩=>hm pins s2 σ H2 x vs v us Q I2 r1 r2 q2
/- xs.append(e),list.index on a module's tuple .. are Po facts of 06m -/
end
def Pv (X:Cx)(id:String)(r:V->List V->Hp->VK->Prop):Prop :=
 ∀ (pins:List (Addr×Obj)) (s:Shared) (σ:St) (H:Hp) (x:V) (xs:List V) (v:Value) (us:List Value) (Q:VK),zj X pins σ H s->RelV x v->zF xs us->r x xs H Q ->
  wpAny (model X.prog X.w) X.A (call (.builtin id) (v :: us)) (EP X pins σ Q) X.xe s
theorem zF.one:∀ {x:V} {us:List Value},zF [x] us->∃ u,us=[u]/\RelV x u
 | _,_,.cons r .nil=>⟨_,rfl,r⟩
theorem zF.zero:∀ {us:List Value},zF [] us->us=[]
 | _,.nil=>rfl
theorem zF.dropLast {xs:List V}{us:List Value}(h:zF xs us):zF xs.dropLast us.dropLast:=by
 induction h with
 | nil=>exact .nil
 | cons r t ih =>
  cases t with
  | nil=>exact .nil
  | cons q t'=>exact .cons r ih
theorem cQ {α:Type}(l:List α):l.eraseIdx (l.length - 1)=l.dropLast:=by
 induction l with
 | nil=>rfl
 | cons a r ih =>
  cases r with
  | nil=>rfl
  | cons b r =>
   have e:(a :: b :: r).length - 1=((b :: r).length - 1) + 1:=by
    have h1:(a :: b :: r).length=r.length + 2:=rfl;have h2:(b :: r).length=r.length + 1:=rfl;omega
   rw [e,List.eraseIdx_cons_succ,ih]
   all_goals rfl
section
variable {X:Cx}{pins:List (Addr×Obj)}{σ:St}{H:Hp}{s:Shared}{l b:Addr}{xs ys zs:List V}
theorem zj.lset {its its':List Value}{n:Nat}{f:Array Value->Array Value}{t':Nat}(I:zj X pins σ H s)(hH:H l=some (.lst xs))
  (e:s.heap.get? l=some { cls:=.type "list",data:=.seq its.toArray n }) (hf:f its.toArray=its'.toArray) (hv:zF ys its') (hz:ys.length<=sizeLine) :
  zj X pins σ (zN H l (.lst ys)) { s with heap:=s.heap.update l (Obj.mapSeq f),toks:=t' }:=by
 have q:=PySem.IsL.update e f;rw [hf] at q;refine I.write (x:=l) (e:=l) (by rw [hH];exact trivial) (.inl rfl) (λb' u hb hu=>(Heap.get?_update_other s.heap (Obj.mapSeq f) (Ne.symm hb)).trans hu) ⟨_,q⟩ ?_;exact ⟨hz,its',_,hv,q⟩
theorem zj.lnew {its:List Value}{t':Nat}(I:zj X pins σ H s)(hv:zF ys its)(hz:ys.length<=sizeLine) :
  zj X pins σ (zN H s.heap.objs.size (.lst ys)) { s with heap:=s.heap.push { cls:=.type "list",data:=.seq its.toArray },toks:=t' } :=
 I.laid (λ_ _ q=>Heap.get?_push_of_some _ q) (Nat.le_refl _) ⟨hz,its,0,hv,Heap.get?_push_size _ rfl⟩
theorem zj.fresh (I:zj X pins σ H s):H s.heap.objs.size=none:=I.hok.fresh (Nat.le_refl _)
theorem zj.lstM (I:zj X pins σ H s)(hH:H l=some (.lst xs)):xs.length<=sizeLine/\∃ (its:List Value) (n:Nat),zF xs its/\xs.length=its.length/\s.heap.get? l=some { cls:=.type "list",data:=.seq its.toArray n }:=by
 obtain ⟨z,its,n,r,e⟩:=I.hok l _ hH;exact ⟨z,its,n,r,r.length,e⟩
theorem Z4 {n:Nat}(h:n<=sizeLine):Builtin.List.listTooLong n=false:=by
 unfold Builtin.List.listTooLong;exact decide_eq_false (by omega)
end
section
variable {X:Cx}
def bY:V->List V->Hp->VK->Prop:=λx vs H Q=>∃ l xs y,x=.ref l/\vs=[y]/\H l=some (.lst xs)/\xs.length < sizeLine/\Q .non (zN H l (.lst (xs ++ [y])))
theorem wW:Pv X "list.append" bY:=by
 intro pins s σ H x vs v us Q I rx rv h;obtain ⟨l,xs,y,rfl,rfl,hH,hz,q⟩:=h;cases rx;obtain ⟨u,rfl,ru⟩:=rv.one;obtain ⟨z,its,n,r,hl,e⟩:=I.lstM hH;refine call_meets F.slot_list_append ⟨_,e,rfl⟩ F.entry_list_append (F.args_list_append_2 _ _) (PySem.list_append l its.toArray n u (by rw [List.size_toArray];omega)) ⟨e,?_⟩;refine ⟨.non,_,I.lset (its':=its ++ [u]) hH e (by simp) (r.append (.cons ru .nil)) ?_,rfl,q⟩;rw [List.length_append,List.length_singleton];omega
def bZ:V->List V->Hp->VK->Prop:=λx vs H Q=>∃ l b xs zs,x=.ref l/\vs=[.ref b]/\H l=some (.lst xs)/\H b=some (.lst zs)/\xs.length + zs.length<=sizeLine/\Q .non (zN H l (.lst (xs ++ zs)))
theorem mQ:Pv X "list.extend" bZ:=by
 intro pins s σ H x vs v us Q I rx rv h;obtain ⟨l,b,xs,zs,rfl,rfl,hH,hB,hz,q⟩:=h;cases rx;obtain ⟨u,rfl,ru⟩:=rv.one;cases ru;obtain ⟨z,its,n,r,hl,e⟩:=I.lstM hH;obtain ⟨z2,its2,n2,r2,hl2,e2⟩:=I.lstM hB;have hsz:its.toArray.size + its2.toArray.size<=sizeLine:=by rw [List.size_toArray,List.size_toArray];omega
 have hlong:¬ (!its.toArray.isEmpty && Builtin.List.listTooLong (its.toArray.size + its2.toArray.size))=true:=by
  rw [Z4 hsz,Bool.and_false];exact Bool.false_ne_true
 refine call_meets F.slot_list_extend ⟨_,e,rfl⟩ F.entry_list_extend (F.args_list_extend_2 _ _)
  (AutoSeq1.list_extend_list_list_0 l its.toArray n b its2.toArray n2 hlong (by rw [List.size_toArray];omega) (by omega)) ⟨e,e2,?_⟩
 refine ⟨.non,_,I.lset (its':=its ++ its2) hH e (by simp) (r.append r2) ?_,rfl,q⟩;rw [List.length_append];omega
def QB:V->List V->Hp->VK->Prop:=λx vs H Q=>∃ l xs y,x=.ref l/\vs=[]/\H l=some (.lst xs)/\xs[xs.length - 1]? = some y/\Q y (zN H l (.lst xs.dropLast))
theorem Vy:Pv X "list.pop" QB:=by
 intro pins s σ H x vs v us Q I rx rv h;obtain ⟨l,xs,y,rfl,rfl,hH,hy,q⟩:=h;cases rx;have hus:=rv.zero;subst hus;obtain ⟨z,its,n,r,hl,e⟩:=I.lstM hH;obtain ⟨u,hu,ru⟩:=r.get hy
 have hy':its.toArray[its.toArray.size - 1]? = some u:=by
  show its.toArray[its.length - 1]? = some u;rw [<- Array.getElem?_toList,<- hl];exact hu
 refine call_meets F.slot_list_pop ⟨_,e,rfl⟩ F.entry_list_pop (F.args_list_pop_1 _) (MeetsSeq.list_pop_last l its.toArray n u hy' (by rw [List.size_toArray];omega)) ⟨e,?_⟩;refine ⟨y,_,I.lset (its':=its.dropLast) hH e ?_ r.dropLast ?_,ru,q⟩
 ·show its.toArray.eraseIdxIfInBounds (its.toArray.size - 1)=its.dropLast.toArray
  rw [List.size_toArray,List.eraseIdxIfInBounds_toArray,cQ]
 ·rw [List.length_dropLast]
  omega
end
section
variable {prog:Program}{w:World}{A:Around}{E:Value->Shared->Prop}{s:Shared}
theorem Vz {a c n:Nat}(hac:a<=c)(hc:c<=n):sliceBounds (some (a:Int)) (some (c:Int)) none n=((a:Int),(c:Int),1):=by
 simp only [sliceBounds,Option.getD_none];have h1:¬ ((a:Int) < 0):=by omega
 have h2:¬ ((c:Int) < 0):=by omega
 simp only [h1,h2,if_false,show (1:Int) > 0 by decide,if_true]
 congr 1
 ·omega
 ·congr 1;omega
end
section
variable {κ:Type} [DecidableEq κ]
def jh (kvs:List (κ×V))(k:κ):Option V:=(kvs.find? λkv=>decide (kv.1=k)).map (·.2)
def xW (kvs:List (κ×V))(k:κ)(v:V):List (κ×V) :=
 if (kvs.any λkv=>decide (kv.1=k))=true then kvs.map (λkv=>if kv.1=k then (kv.1,v) else kv) else kvs ++ [(k,v)]
theorem jF {p:κ×V}{r:List (κ×V)}{k:κ}(e:p.1=k):jh (p :: r) k=some p.2:=by simp [jh,List.find?_cons,e]
theorem jG {p:κ×V}{r:List (κ×V)}{k:κ}(e:¬ p.1=k):jh (p :: r) k=jh r k:=by simp [jh,List.find?_cons,e]
theorem vW (k:κ):∀ kvs:List (κ×V),(kvs.any λkv=>decide (kv.1=k))=(jh kvs k).isSome
 | []=>rfl
 | p :: r=>by
  rw [List.any_cons]
  by_cases e:p.1=k
  ·simp only [jF e,decide_eq_true e,Bool.true_or,Option.isSome_some]
  ·rw [jG e,decide_eq_false e,Bool.false_or];exact vW k r
theorem eF (k j:κ)(y:V):∀ kvs:List (κ×V),jh (kvs.map λkv=>if kv.1=k then (kv.1,y) else kv) j=(jh kvs j).map λx=>if j=k then y else x
 | []=>rfl
 | p :: r=>by
  have ih:=eF k j y r;rw [List.map_cons]
  by_cases h:p.1=k
  ·rw [if_pos h]
   by_cases e:p.1=j
   ·rw [jF (p:=(p.1,y)) e,jF e,Option.map_some,if_pos (e.symm.trans h)]
   ·rw [jG (p:=(p.1,y)) e,jG e,ih]
  ·rw [if_neg h]
   by_cases e:p.1=j
   ·rw [jF (p:=p) e,jF e,Option.map_some,if_neg (λz=>h (e.trans z))]
   ·rw [jG (p:=p) e,jG e,ih]
theorem mR (k j:κ)(y:V):∀ kvs:List (κ×V),jh kvs k=none->jh (kvs ++ [(k,y)]) j=if j=k then some y else jh kvs j
 | [],_=>by
  by_cases e:k=j
  ·rw [if_pos e.symm];exact jF (p:=(k,y)) e
  ·rw [if_neg (λz=>e z.symm)];exact jG (p:=(k,y)) e
 | p :: r,hn=>by
  rw [List.cons_append];have hk:¬ p.1=k:=λz=>by rw [jF z] at hn;cases hn
  rw [jG hk] at hn;have ih:=mR k j y r hn
  by_cases e:p.1=j
  ·rw [jF e,jF e,if_neg (λz=>hk (e.trans z))]
  ·rw [jG e,jG e,ih]
theorem Z5 (kvs:List (κ×V))(k j:κ)(y:V):jh (xW kvs k y) j=if j=k then some y else jh kvs j:=by
 unfold xW
 by_cases a:(kvs.any λkv=>decide (kv.1=k))=true
 ·rw [if_pos a,eF]
  rw [vW] at a
  by_cases e:j=k
  ·obtain ⟨x,hx⟩:=Option.isSome_iff_exists.mp a
   rw [if_pos e,e,hx,Option.map_some,if_pos rfl]
  ·rw [if_neg e]
   cases jh kvs j with
   | none=>rfl
   | some x=>rw [Option.map_some,if_neg e]
 ·rw [if_neg a]
  refine mR k j y kvs ?_;rw [vW] at a
  cases q:jh kvs k with
  | none=>rfl
  | some x=>rw [q] at a;exact (a rfl).elim
theorem pD (kvs:List (κ×V))(k:κ)(v:V):(xW kvs k v).length<=kvs.length + 1:=by
 unfold xW
 split
 ·rw [List.length_map];omega
 ·rw [List.length_append,List.length_cons,List.length_nil];omega
theorem Z6 {kvs:List (κ×V)}{k:κ}(v:V)(h:jh kvs k=none):xW kvs k v=kvs ++ [(k,v)]:=by
 unfold xW;rw [vW,h];exact if_neg (by decide)
theorem qe.isSome_eq {o:Option V}{u:Option Value}(r:qe o u):o.isSome=u.isSome:=by
 cases o with
 | none=>cases u with
  | none=>rfl
  | some _=>exact (show False from r).elim
 | some _=>cases u with
  | none=>exact (show False from r).elim
  | some _=>rfl
theorem qe.getD {o:Option V}{u:Option Value}{d:V}{d':Value}(r:qe o u)(rd:RelV d d'):RelV (o.getD d) (u.getD d'):=by
 cases o with
 | none=>cases u with
  | none=>exact rd
  | some _=>exact (show False from r).elim
 | some _=>cases u with
  | none=>exact (show False from r).elim
  | some _=>exact r
theorem KV.val {kvs:List (κ×V)}{vs:List (κ×Value)}(r:KV kvs vs)(k:κ):qe (jh kvs k) (valueAt vs k):=by
 unfold KV at r
 induction r with
 | nil=>exact True.intro
 | @cons p q ps qs h t ih =>
  obtain ⟨h1,h2⟩:=h
  by_cases e:p.1=k
  ·have e':q.1=k:=h1.symm.trans e
   have b:valueAt (q :: qs) k=some q.2:=by simp [valueAt,List.find?_cons,e']
   rw [jF e,b];exact h2
  ·have e':¬ q.1=k:=λz=>e (h1.trans z)
   have b:valueAt (q :: qs) k=valueAt qs k:=by simp [valueAt,List.find?_cons,e']
   rw [jG e,b];exact ih
theorem KV.any {kvs:List (κ×V)}{vs:List (κ×Value)}(r:KV kvs vs)(k:κ):(kvs.any λkv=>decide (kv.1=k))=vs.any λkv=>decide (kv.1=k):=by
 unfold KV at r
 induction r with
 | nil=>rfl
 | cons h t ih=>rw [List.any_cons,List.any_cons,ih,h.1]
theorem KV.repl {kvs:List (κ×V)}{vs:List (κ×Value)}(r:KV kvs vs)(k:κ){y:V}{u:Value}(ry:RelV y u) :
  KV (kvs.map λkv=>if kv.1=k then (kv.1,y) else kv) (vs.map λkv=>if kv.1=k then (kv.1,u) else kv):=by
 unfold KV at r ⊢
 induction r with
 | nil=>exact .nil
 | @cons p q ps qs h t ih =>
  rw [List.map_cons,List.map_cons];refine .cons ?_ ih;obtain ⟨h1,h2⟩:=h
  by_cases e:p.1=k
  ·rw [if_pos e,if_pos (h1.symm.trans e)];exact ⟨h1,ry⟩
  ·rw [if_neg e,if_neg (λz=>e (h1.trans z))];exact ⟨h1,h2⟩
theorem KV.put {kvs:List (κ×V)}{vs:List (κ×Value)}(r:KV kvs vs)(k:κ){y:V}{u:Value}(ry:RelV y u):KV (xW kvs k y) (stored vs k u):=by
 unfold xW stored;rw [r.any k]
 by_cases e:(vs.any λkv=>decide (kv.1=k))=true
 ·rw [if_pos e,if_pos e];exact r.repl k ry
 ·rw [if_neg e,if_neg e];exact Paired.snoc r ⟨rfl,ry⟩
theorem KV.length {kvs:List (κ×V)}{vs:List (κ×Value)}(r:KV kvs vs):kvs.length=vs.length:=Paired.length r
end
theorem uC {P:Program}{w:World}{k:Key}{u:Value}(r:RelV (kV k) u):(zY P w).is k u=true:=by
 cases k with
 | inl i=>obtain ⟨t,e⟩:=(show ∃ t,u=Value.int i t from r);subst e;exact eh P w i t
 | inr x=>obtain ⟨t,e⟩:=(show ∃ t,u=Value.str x t from r);subst e;exact vn P w x t
theorem mS {P:Program}{w:World} : ∀ {ks:List Key} {us:List Value},zF (ks.map kV) us->ItemsAre (zY P w) ks us
 | [],_,r=>by rw [List.map_nil] at r;cases r;exact .nil
 | k :: ks,_,r=>by
  rw [List.map_cons] at r
  cases r with
  | cons h t=>exact .cons (uC h) (mS t)
abbrev KT (H:Hp):List (List Key×V)->List (List Key×Addr×Value)->Prop:=Paired λp q=>p.1=q.1/\H q.2.1=some (.tup (p.1.map kV))/\RelV p.2 q.2.2
theorem KT.val {H:Hp}{kvs:List (List Key×V)}{xs:List (List Key×Addr×Value)}(r:KT H kvs xs)(k:List Key):qe (jh kvs k) ((atKey xs k).map (·.2)):=by
 induction r with
 | nil=>exact True.intro
 | @cons p q ps qs h t ih =>
  obtain ⟨h1,_,h2⟩:=h
  by_cases e:p.1=k
  ·have e':q.1=k:=h1.symm.trans e
   have b:atKey (q :: qs) k=some q.2:=by simp [atKey,List.find?_cons,e']
   rw [jF e,b];exact h2
  ·have e':¬ q.1=k:=λz=>e (h1.trans z)
   have b:atKey (q :: qs) k=atKey qs k:=by simp [atKey,List.find?_cons,e']
   rw [jG e,b];exact ih
theorem KT.repl {H:Hp}{kvs:List (List Key×V)}{xs:List (List Key×Addr×Value)}(r:KT H kvs xs)(k:List Key){y:V}{u:Value}(ry:RelV y u) :
  KT H (kvs.map λkv=>if kv.1=k then (kv.1,y) else kv) (xs.map (putAt k u)):=by
 induction r with
 | nil=>exact .nil
 | @cons p q ps qs h t ih =>
  rw [List.map_cons,List.map_cons];refine .cons ?_ ih;obtain ⟨h1,h2,h3⟩:=h;unfold putAt
  by_cases e:p.1=k
  ·rw [if_pos e,if_pos (h1.symm.trans e)];exact ⟨h1,h2,ry⟩
  ·rw [if_neg e,if_neg (λz=>e (h1.trans z))];exact ⟨h1,h2,h3⟩
theorem KT.put {H:Hp}{kvs:List (List Key×V)}{xs:List (List Key×Addr×Value)}(r:KT H kvs xs)(k:List Key){b:Addr}{y:V}{u:Value}(hb:H b=some (.tup (k.map kV)))(ry:RelV y u) :
  KT H (xW kvs k y) (storedH xs k b u):=by
 have e:(kvs.any λkv=>decide (kv.1=k))=(atKey xs k).isSome:=by
  rw [vW,(r.val k).isSome_eq,Option.isSome_map]
 unfold xW storedH;rw [e]
 by_cases q:(atKey xs k).isSome=true
 ·rw [if_pos q,if_pos q];exact r.repl k ry
 ·rw [if_neg q,if_neg q];exact Paired.snoc r ⟨rfl,hb,ry⟩
theorem KT.keeps {H H':Hp}{kvs:List (List Key×V)}{xs:List (List Key×Addr×Value)}(r:KT H kvs xs)(ht:∀ b ys,H b=some (.tup ys)->H' b=some (.tup ys)):KT H' kvs xs :=
 Paired.mapP r λ_ _ z=>⟨z.1,ht _ _ z.2.1,z.2.2⟩
section
variable {P:Program}{w:World}{H:Hp}{h:Heap}{a:Addr}
theorem Wc {u:HO}(ok:qG P w H h)(e:Rd H a u):j7 P w H h a u:=e.ok ok
theorem eG {kvs:List (Key×V)}(ok:qG P w H h)(e:Rd H a (.dK kvs)):kvs.length<=sizeLine/\(a == sysModules)=false/\∃ vs,KV kvs vs/\h.DictOf (zY P w) a vs :=
 show j7 P w H h a (.dK kvs) from Wc ok e
theorem QC {kvs:List (Key×V)}(ok:qG P w H h)(e:H a=some (.dK kvs)):kvs.length<=sizeLine/\(a == sysModules)=false/\∃ vs,KV kvs vs/\h.DictOf (zY P w) a vs:=eG ok (.inl e)
theorem uD {ks:List Key}(ok:qG P w H h)(e:H a=some (.tup (ks.map kV))):(tupleKind (zY P w)).is h ks a:=by
 obtain ⟨_,its,r,o,h1,h2,n,h3⟩:=(show j7 P w H h a (.tup (ks.map kV)) from ok a _ e)
 exact ⟨o,its.toArray,n,h1,h2,h3,by simpa using mS r⟩
theorem eI {kvs:List (List Key×V)}(ok:qG P w H h)(e:Rd H a (.dT kvs)):kvs.length<=sizeLine/\(a == sysModules)=false /\
  ∃ xs,KT H kvs xs/\h.DictOfH (tupleKind (zY P w)) a xs:=by
 obtain ⟨z,y,xs,r,o,es,ep,h1,h2,h3,h4,h5⟩:=(show j7 P w H h a (.dT kvs) from Wc ok e)
 refine ⟨z,y,xs,r,o,es,ep,h1,h2,h3,h4,λx hx => ?_,h5⟩
 have all:∀ {l:List (List Key×V)} {m:List (List Key×Addr×Value)},KT H l m->∀ x∈m,(tupleKind (zY P w)).is h x.1 x.2.1:=by
  intro l m q
  induction q with
  | nil=>intro x hx;exact nomatch hx
  | @cons p q ps qs hq t ih =>
   intro x hx
   rcases List.mem_cons.mp hx with e | hx
   ·subst e
    exact uD ok (by rw [<- hq.1];exact hq.2.1)
   ·exact ih x hx
 exact all r x hx
theorem QD {kvs:List (List Key×V)}(ok:qG P w H h)(e:H a=some (.dT kvs)):kvs.length<=sizeLine/\(a == sysModules)=false /\
  ∃ xs,KT H kvs xs/\h.DictOfH (tupleKind (zY P w)) a xs:=eI ok (.inl e)
end
def gK (H:Hp)(a:Addr)(y:V)(r:Option V):Prop :=
 (∃ kvs k,Rd H a (.dK kvs)/\y=kV k/\r=jh kvs k)\/∃ kvs k b,Rd H a (.dT kvs)/\y=.ref b/\H b=some (.tup (k.map kV))/\r=jh kvs k
def tQ (H:Hp)(a:Addr)(y v:V)(H':Hp):Prop :=
 (∃ kvs k,H a=some (.dK kvs)/\y=kV k/\kvs.length < sizeLine/\H'=zN H a (.dK (xW kvs k v))) \/
 ∃ kvs k b,H a=some (.dT kvs)/\y=.ref b/\H b=some (.tup (k.map kV))/\kvs.length < sizeLine/\H'=zN H a (.dT (xW kvs k v))
theorem gK.k {H:Hp}{a:Addr}{kvs:List (Key×V)}{k:Key}(e:H a=some (.dK kvs)):gK H a (kV k) (jh kvs k):=.inl ⟨kvs,k,.inl e,rfl,rfl⟩
theorem tQ.k {H:Hp}{a:Addr}{kvs:List (Key×V)}{k:Key}{v:V}(e:H a=some (.dK kvs))(hl:kvs.length < sizeLine):tQ H a (kV k) v (zN H a (.dK (xW kvs k v))):=.inl ⟨kvs,k,e,rfl,hl,rfl⟩
section
variable {X:Cx}{pins:List (Addr×Obj)}{σ:St}{H:Hp}{s:Shared}{a:Addr}{y v:V}{u r:Value}{o:Option V}{A:Around}{E:Value->Shared->Prop}
theorem zj.big (I:zj X pins σ H s):sysModules < s.heap.objs.size:=by
 have h:mainGlobals < s.heap.objs.size:=(I.mod.glob.keeps I.bk).lt;exact Nat.lt_trans (by decide) h
theorem mT {Q:Value->Shared->Prop}(hu:A.units + 1 < cLine)(I:zj X pins σ H s)(g:gK H a y (some v))(ry:RelV y u)(h:∀ w' s',zj X pins σ H s'->RelV v w'->Q w' s') :
  wpAny (model X.prog X.w) A (getItem (.ref a) u) Q E s:=by
 rcases g with ⟨kvs,k,e,ey,l⟩ | ⟨kvs,k,b,e,ey,eb,l⟩
 ·subst ey
  obtain ⟨z,hd,vs,rel,dd⟩:=eG I.hok e;obtain ⟨w',hw,rw'⟩:=qe.some_of (v:=v) (o:=valueAt vs k) (by rw [l];exact rel.val k);exact wpAny_getItem_of (uC ry) dd.mapOf hw (h w' _ (I.tok _) rw')
 ·subst ey
  cases (show u=Value.ref b from ry);obtain ⟨z,hd,xs,rel,dd⟩:=eI I.hok e;obtain ⟨w',hw,rw'⟩:=qe.some_of (v:=v) (o:=(atKey xs k).map (·.2)) (by rw [l];exact rel.val k);obtain ⟨p,hp,hp2⟩:=Option.map_eq_some_iff.mp hw;refine wpAny_getItem_heap (tupleKind_room_in1 hu) (uD I.hok eb) dd hp ?_;rw [hp2];exact h w' _ (I.tok _) rw'
theorem Pw {Q:Value->Shared->Prop}(hu:A.units + 1 < cLine)(I:zj X pins σ H s)(g:gK H a y o)(ry:RelV y u)(h:∀ s',zj X pins σ H s'->Q (.bool o.isSome) s') :
  wpAny (model X.prog X.w) A (compareOp .In u (.ref a)) Q E s:=by
 rcases g with ⟨kvs,k,e,ey,l⟩ | ⟨kvs,k,b,e,ey,eb,l⟩
 ·subst ey
  obtain ⟨z,hd,vs,rel,dd⟩:=eG I.hok e;refine wpAny_in_of (uC ry) hd dd.mapOf ?_;rw [<- (rel.val k).isSome_eq,<- l];exact h _ (I.tok _)
 ·subst ey
  cases (show u=Value.ref b from ry);obtain ⟨z,hd,xs,rel,dd⟩:=eI I.hok e;refine wpAny_in_heap (tupleKind_room_in1 hu) (uD I.hok eb) hd dd ?_;have q:=(rel.val k).isSome_eq;rw [Option.isSome_map] at q;rw [<- q,<- l];exact h _ (I.tok _)
theorem a5 {Q:Value->Shared->Prop}(hu:A.units + 1 < cLine)(I:zj X pins σ H s)(g:gK H a y o)(ry:RelV y u)(h:∀ s',zj X pins σ H s'->Q (.bool (!o.isSome)) s') :
  wpAny (model X.prog X.w) A (compareOp .NotIn u (.ref a)) Q E s:=by
 rcases g with ⟨kvs,k,e,ey,l⟩ | ⟨kvs,k,b,e,ey,eb,l⟩
 ·subst ey
  obtain ⟨z,hd,vs,rel,dd⟩:=eG I.hok e;refine wpAny_notIn_of (uC ry) hd dd.mapOf ?_;rw [<- (rel.val k).isSome_eq,<- l];exact h _ (I.tok _)
 ·subst ey
  cases (show u=Value.ref b from ry);obtain ⟨z,hd,xs,rel,dd⟩:=eI I.hok e;refine wpAny_notIn_heap (tupleKind_room_in1 hu) (uD I.hok eb) hd dd ?_;have q:=(rel.val k).isSome_eq;rw [Option.isSome_map] at q;rw [<- q,<- l];exact h _ (I.tok _)
theorem a6 {h':Heap}{t':Nat}{ob:HO}(I:zj X pins σ H s)(mu:Qa (H a))(hs:Heap.SameBut a s.heap h')(he:∃ q,h'.get? a=some q)(new:j7 X.prog X.w (zN H a ob) h' a ob) :
  zj X pins σ (zN H a ob) { s with heap:=h',toks:=t' } :=
 I.write (x:=a) (e:=a) mu (.inl rfl) (λb q hb z=>(hs.2 b hb).trans z) he new
theorem VA {P:Program}{w:World}{H':Hp}{h':Heap}{kvs:List (Key×V)}{vs:List (Key×Value)}(z:kvs.length<=sizeLine)(hd:(a == sysModules)=false)(rel:KV kvs vs)(dd:h'.DictOf (zY P w) a vs) :
  j7 P w H' h' a (.dK kvs):=⟨z,hd,vs,rel,dd⟩
theorem tR {H':Hp}{Q:Unit->Shared->Prop}(hu:A.units + 1 < cLine)(I:zj X pins σ H s)(g:tQ H a y v H')(ry:RelV y u)(rv:RelV v r)(h:∀ s',zj X pins σ H' s'->Q () s') :
  wpAny (model X.prog X.w) A (setItem (.ref a) u r) Q E s:=by
 rcases g with ⟨kvs,k,e,ey,l,eH⟩ | ⟨kvs,k,b,e,ey,eb,l,eH⟩
 ·subst ey eH
  obtain ⟨z,hd,vs,rel,dd⟩:=QC I.hok e;have hz:vs.length<=sizeLine:=by rw [<- rel.length];exact z
  have hl:(xW kvs k v).length<=sizeLine:=by have:=pD kvs k v;omega
  refine wpAny_setItem_pairs (hsz:=hz) (uC ry) dd λh' dd' hs=>h _ ?_;have he:∃ q,h'.get? a=some q:=let ⟨q,_,_,hq,_⟩:=dd';⟨q,hq⟩
  exact a6 I (by rw [e];exact True.intro) hs he (VA hl hd (rel.put k rv) dd')
 ·subst ey eH
  cases (show u=Value.ref b from ry);obtain ⟨z,hd,xs,rel,dd⟩:=QD I.hok e;have hz:xs.length<=sizeLine:=by rw [<- Paired.length rel];exact z
  have hl:(xW kvs k v).length<=sizeLine:=by have:=pD kvs k v;omega
  refine wpAny_setItem_heap (hsz:=hz) (tupleKind_room_in1 hu) (uD I.hok eb) dd λh' dd' hs=>h _ ?_;obtain ⟨q,es,ep,hq,h2,h3,h4,_,h5⟩:=dd';refine a6 I (by rw [e];exact True.intro) hs ⟨q,hq⟩ ⟨hl,hd,_,(rel.put k eb rv).keeps λc ys ec => ?_,q,es,ep,hq,h2,h3,h4,h5⟩;rw [z8 (ut ec e (λz=>nomatch z))];exact ec
end
def Z7 (i:Expr):Prop := ∀ ov iv,subscripted i false ov iv=operate [ov,iv] (getItem ov iv)
theorem a7 {prog:Program}{w:World}{A:Around}{E:Value->Shared->Prop}{s:Shared}{env:Env}{value slice:Expr}{pos:Pos}{T id:String}{Q:Value->Shared->Prop}
  (hl:typeLookup (.type T) "__getitem__" = pure (some (.builtin id))) (hs:Z7 slice)
  (h:wpAny (model prog w) A (eval value env) (λo s₁=>wpAny (model prog w) A (eval slice env) (λi s₂=>s₂.TypeIs o T/\wpAny (model prog w) A (getItem o i) Q E s₂) E s₁) E s) :
  wpAny (model prog w) A (eval (.Subscript value slice pos) env) Q E s:=by
 refine Subscript_ (wpAny_mono h (λo s₁ h₁=>wpAny_mono h₁ (λi s₂ h₂ => ?_) λ_ _ x=>x) λ_ _ x=>x);obtain ⟨hT,h₂⟩:=h₂;unfold subscriptTail;refine wpAny_bind ?_;rw [getitemInPython_of_ne hT.not_modules];refine wpAny_bind (wpAny_specialOf hT hl ?_)
 have fin:wpAny (model prog w) A (subscripted slice false o i) (λr s₃=>wpAny (model prog w) A (letTemporaryGo value o r >>= λ_=>pure r) Q E s₃) E s₂:=by
  rw [hs o i];exact wpAny_operating (wpAny_mono h₂ (λr s₃ h₃=>wpAny_bind (wpAny_letTemporaryGo (wpAny_pure h₃))) λ_ _ x=>x)
 first
  | exact wpAny_pure (wpAny_bind fin)
  | exact wpAny_bind (wpAny_pure (wpAny_bind fin))
  | exact wpAny_bind fin
theorem pE {X:Cx}{pins:List (Addr×Obj)}{σ:St}{H:Hp}{s:Shared}{a:Addr}{y:V}{o:Option V}(I:zj X pins σ H s)(g:gK H a y o):s.TypeIs (.ref a) "dict" := by
 rcases g with ⟨kvs,k,e,_,_⟩ | ⟨kvs,k,b,e,_,_,_⟩
 ·obtain ⟨_,_,vs,_,dd⟩:=eG I.hok e
  exact dd.typeIs
 ·obtain ⟨_,_,xs,_,dd⟩:=eI I.hok e
  exact dd.typeIs
def QE (td ty:TE):TE:=λσ H Q=>td σ H λx H1=>ty σ H1 λy H2=>∃ a v,x=.ref a/\gK H2 a y (some v)/\Q v H2
def Yx (ty td:TE):TE:=λσ H Q=>ty σ H λy H1=>td σ H1 λx H2=>∃ a o,x=.ref a/\gK H2 a y o/\Q (.bl (!o.isSome)) H2
def eJ (td ty tv:TE):TS:=λD σ H=>tv σ H λv H1=>td σ H1 λx H2=>ty σ H2 λy H3=>∃ a H4,x=.ref a/\tQ H3 a y v H4/\D.nx σ H4
section
variable {X:Cx}{o i e value:Expr}{pos pos' tpos:Pos}{td ty tv:TE}
theorem Yy (hu:X.A.units + 1 < cLine)(ho:PE X o td)(hi:PE X i ty)(hs:Z7 i):PE X (.Subscript o i pos) (QE td ty):=by
 intro pins s σ H Q I h;refine a7 PySem.F.slot_dict_getitem.lookup hs (jg (ho pins s σ H _ I h) λu s1 ⟨x,H1,I1,rx,q1⟩=>jg (hi pins s1 σ H1 _ I1 q1) λiv s2 ⟨y,H2,I2,ry,a,v,ex,g,q2⟩ => ?_);subst ex;obtain rfl:u=Value.ref a:=rx;exact ⟨pE I2 g,mT hu I2 g ry λw' s3 I3 rw'=>⟨v,H2,I3,rw',q2⟩⟩
theorem tS (hu:X.A.units + 1 < cLine)(hi:PE X i ty)(ho:PE X o td):PC X .NotIn i o (Yx ty td):=by
 intro pins s σ H Q I h;refine jg (hi pins s σ H _ I h) λiv s1 ⟨y,H1,I1,ry,q1⟩=>jg (ho pins s1 σ H1 _ I1 q1) λu s2 ⟨x,H2,I2,rx,a,ov,ex,g,q2⟩ => ?_;subst ex;obtain rfl:u=Value.ref a:=rx;exact a5 hu I2 g ry λs3 I3=>⟨.bl (!ov.isSome),H2,I3,rfl,q2⟩
theorem a8 (hu:X.A.units + 1 < cLine)(ho:PE X o td)(hi:PE X i ty)(hv:PE X value tv)(hs:swapsWith value (some (.Subscript o i pos')) pos.line X.env=pure false) :
  PS X (.Assign [.Subscript o i pos'] value pos) (eJ td ty tv):=by
 intro pins s σ H D I h;refine wpAny_Assign_Subscript (jg (hv pins s σ H _ I h) λr s1 ⟨v,H1,I1,rv,q1⟩=>jg (ho pins s1 σ H1 _ I1 q1) λu s2 ⟨x,H2,I2,rx,q2⟩=>jg (hi pins s2 σ H2 _ I2 q2) λiv s3 ⟨y,H3,I3,ry,a,H4,ex,g,q3⟩ => ?_) hs;subst ex;obtain rfl:u=Value.ref a:=rx;exact tR hu I3 g ry rv λs4 I4=>⟨σ,H4,I4,q3⟩
end
theorem eK {P:Program}{w:World}{H:Hp}(h:Heap)(hb:sysModules < h.objs.size):j7 P w H (h.push { cls:=.type "dict",data:=.dict #[] }) h.objs.size (.dK []) :=
 ⟨Nat.zero_le _,beq_eq_false_iff_ne.mpr (Ne.symm (Nat.ne_of_lt hb)),[],.nil,Heap.DictOf.new h⟩
def lM:TE:=λ_ H Q=>∀ p,H p=none->Q (.ref p) (zN H p (.dK []))
section
variable {X:Cx}{pos:Pos}
theorem eL:PE X (.Dict [] [] pos) lM:=λpins s σ H Q I h =>
 wpAny_Dict_empty ⟨.ref s.heap.objs.size,_,I.laid (a:=s.heap.objs.size) (o:=.dK []) (t':=s.toks) (λ_ _ q=>Heap.get?_push_of_some _ q) (Nat.le_refl _) (eK s.heap I.big),rfl,h _ (I.hok.fresh (Nat.le_refl _))⟩
end
structure M2 (X:Cx) (o:Expr) (m:Str) (apos:Pos) (e f:Expr) (cpos:Pos):Prop where
 base:attributeBase o m X.env (eval o X.env)=eval o X.env
 few:((backTo cpos (starEach [e,f] X.env)).all (λx => !x.1) && (backToKw cpos (keywordEach [] X.env)).all (λx=>x.1.isSome)
  && decide (([e,f]:List Expr).length + ([]:List Keyword).length + (if ([]:List Keyword).isEmpty then 0 else 1) < 30))=true
 line:(apos.endLine == cpos.line)=true
 trees:backTo cpos (starEach [e,f] X.env)=[(false,eval e X.env),(false,eval f X.env)]
end L2
namespace Att
open PySem PySem.W PySem.Calls PyProof.Rows
theorem u3 {P:Params}{h:Heap} : ∀ (ns:List Int) (vs:List Value),WellAll P h vs (ns.map WData.int)->IntsAre vs ns:=by
 intro ns
 induction ns with
 | nil =>
  intro vs w;rw [List.map_nil] at w;cases w;exact .nil
 | cons n ns ih =>
  intro vs w;rw [List.map_cons] at w
  cases w with
  | cons a b =>
   cases a;exact .cons _ _ (ih _ b)
theorem tT {l:OpenLaw}{n:Nat}(hn:l.most=some n){P:Params}{h:Heap}{args:List WData}{vals:List Value}
  (hpre:l.row.toRowW.claim.pre args=true) (hwl:WellAll P h vals args) :
  ∃ a vs ns,vals=[Value.ref a]/\args=[WData.list (ns.map WData.int)]/\h.get? a=some { cls:=.type "list",data:=.seq vs.toArray } /\ IntsAre vs ns/\ns.length<=n:=by
 have hsh:WShape.hasAll [] args [.list .int]=true:=(pre_splitW hpre).1;have hc:l.pre.holds [] { args:=args } = true:=(pre_splitW hpre).2;obtain ⟨d,r,rfl,h1,h2⟩:=hasAllW_cons hsh;obtain rfl:=hasAllW_nil h2;obtain ⟨xs,rfl,h3⟩:=hasW_list h1;obtain ⟨ns,rfl⟩:=items_int h3
 have hlen:ns.length<=n:=by
  unfold OpenLaw.pre at hc
  have h4:(WTm.not (.lt (.lit (.int (n:Int))) (.len (.arg 0)))).holds [] { args:=[.list (ns.map .int)] } = true:=by
   have h4:=(holds_andW hc).1;rw [hn] at h4;exact h4
  have h5:=condW_of h4 (w_not (w_lt w_lit (w_len_list (w_arg rfl))));rw [List.length_map] at h5;refine Nat.le_of_not_lt λq => ?_;have q':(n:Int) < ((ns.length:Nat):Int):=by omega
  first
   | (rw [decide_eq_true q'] at h5;exact absurd h5 (by decide))
   | (simp at h5;omega)
 cases hwl with
 | cons w1 w2 =>
  cases w2
  cases w1 with
  | list ho hall=>exact ⟨_,_,ns,rfl,rfl,ho,u3 ns _ hall,hlen⟩
theorem tU (l:OpenLaw)(args:List WData):l.row.toRowW.claim.post args (.bool true) args=true :=
 postW_of (r:=l.row.toRowW) (X:=(true == true))
  (show WShape.has [] (.bool true) .bool=true by first | rfl | decide | simp [WShape.has,WShape.arms,WShape.armsAll])
  (show (WTm.eq .res (.lit (.bool true))).value [] { args:=args,res:=some (.bool true),after:=args } = some (.bool (true == true)) from w_eq_bool (w_res rfl) w_lit) rfl
theorem attach_call {l:OpenLaw}{n:Nat}{q:Program}{loose:List Str}{XP:(Str->Option Value)->Heap->Prop}{YP:World->Heap->Prop}{d:DefRec}
  (hn:l.most=some n) (hdf:d.params.defaults=[])
  (call:∀ (w:World) (s₀ s₁:Shared) (mg mb:Str->Option Value) (fa:Addr) (o:Obj) (pm cd doc:Value) (a:Addr) (vs:List Value) (ns:List Int),
   Ground q loose [] XP w s₀ mg mb s₁.heap->YP w s₁.heap ->
   s₁.heap.get? fa=some o->o.data=.func (docDef d.name d.params d.body d.scope pm cd doc)->s₁.heap.CodeRec cd d.name->mg d.name=some (.ref fa) ->
   s₁.heap.get? a=some { cls:=.type "list",data:=.seq vs.toArray } -> IntsAre vs ns->ns.length<=n->s₁.gens = #[] ->
   codeAny (model l.prog w) callerA (.call (.ref fa) ⟨[.ref a],[]⟩) (λr s'=>r=.ok (.ret (.bool true))/\OldK s₁.heap s'.heap/\s'.os=s₁.os/\AllBare s'.gens) s₁) :
  WalkO q loose XP YP l.row.toRowW d [] (λf vs=>PySem.call f vs):=by
 intro w s₀ s₁ mg mb G Y fa o pm cd doc dV kV ho hd hcd hD hmg hg args vals as hpre hlay hrd hwl hlo;obtain rfl:dV=.none:=Dflts.none hD hdf;obtain rfl:kV=.none:=Dflts.noKw hD;obtain ⟨a,vs,ns,rfl,rfl,hobj,hints,hlen⟩:=tT hn hpre hwl;refine enter_call (codeAny_mono (call w s₀ s₁ mg mb fa o pm cd doc a vs ns G Y ho (fd_plain hd) hcd hmg hobj hints hlen hg) λr s' hq => ?_);obtain ⟨rfl,h2,h3,h4⟩:=hq;exact ⟨.inl ⟨.bool true,.bool true,[],rfl,λ_=>rfl,.bool true,tU l _,λ_=>⟨List.Pairwise.nil,λ_ hm=>(nomatch hm)⟩⟩,h2,h3,h4⟩
section
variable {prog:Program}{w:World}{A:Around}{E:Value->Shared->Prop}{s:Shared}{K:Frag}
def Px (h:Heap)(L d:Addr):List (Addr×Obj):=(List.range h.objs.size).filterMap λa=>if a=L\/a=d then none else (h.get? a).map λo=>(a,o)
end
end Att
namespace L2
open PySem PySem.Spec PyProof.Rows
theorem mU:∀ {vs:List Value} {ns:List Int},IntsAre vs ns->zF (ns.map V.int) vs
 | _,_,.nil=>.nil
 | _,_,.cons n t h=>.cons ⟨t,rfl⟩ (mU h)
def VB (H:Hp):Prop := ∀ b,H b=none\/b=tabP\/∃ o xs,H b=some (.frz o (.lst xs))
theorem Z8 {P:Program}{w:World}{K:W.Frag}{mg mb:Str->Option Value}{CX:tN}{k:Nat}{fa a:Addr}{fd:FuncData}{x:Str}{sp:Sp}{s₁:Shared}{vs:List Value}{ns:List Int}
  {c₀:Addr} (KX:K.In s₁.heap) (hT:s₁.heap.get? tabP=some { cls:=.none,data:=.fields #[] }) (hC:W.CodeHd s₁.heap c₀ tabP) (hKT:W.noTabs K=true) (hbm:∃ bm ob,mg "__builtins__" = some (.ref bm)/\bm≠builtinsNs/\s₁.heap.get? bm=some ob/\ob.cls=.type "module" /\ ob.dict=some builtinsNs/\ob.data=.plain) (hns:s₁.heap.Ns mainGlobals mg) (hb:s₁.heap.Ns builtinsNs mb) (hbb:∀ x:Str,x ≠ "__name__" -> mb x=bootBuiltins x) (hlim:s₁.heap.NoLimit) (hg:s₁.gens = #[])
  (ha:s₁.heap.get? a=some { cls:=.type "list",data:=.seq vs.toArray }) (hi:IntsAre vs ns) (hl:ns.length<=sizeLine) (hr:jV k callerA)
  (F:∀ base:Heap,K.In base->base.Ns mainGlobals mg->xR P w K mg base CX k fa fd [x] sp) (hbind:∀ (s:Shared) (u:Value),BindsTo s fd ⟨[u],[]⟩ [(x,u)])
  (hsp:∀ H:Hp,VB H->fw K H a (ns.map V.int)->sp [.ref a] H (λv _=>v=.bl true) λ_ _ _=>False)
  (hCX:∀ H e s',CX [] H s₁ (λ_ _ _=>False) e s'->False) :
  codeAny (model P w) callerA (.call (.ref fa) ⟨[.ref a],[]⟩) (λr s'=>r=.ok (.ret (.bool true))/\OldK s₁.heap s'.heap/\s'.os=s₁.os/\AllBare s'.gens) s₁:=by
 have rv:=mU hi;have lenV:=hi.length
 -- from an abstract heap in which nothing but the script may be tracked
 have core:∀ H:Hp,VB H->fw K H a (ns.map V.int)->qG P w H s₁.heap->H tabP=some cx->(∀ b,H b≠none->b=a\/b=tabP)->(H a≠none->K.lookup a=none) ->
   codeAny (model P w) callerA (.call (.ref fa) ⟨[.ref a],[]⟩) (λr s'=>r=.ok (.ret (.bool true))/\OldK s₁.heap s'.heap/\s'.os=s₁.os/\AllBare s'.gens) s₁:=by
  intro H hO hS hok hTb hA hK
  have kT:K.lookup tabP=none:=by
   cases e:K.lookup tabP with
   | none=>rfl
   | some o =>
    have e1:=KX _ _ e;rw [hT] at e1;cases e1;have:=List.all_eq_true.mp hKT _ (W.mem_of_lookupK e);cases this
  have base_of:∀ {b:Addr} {o:Obj},s₁.heap.get? b=some o->H b=none->(lC s₁.heap H).get? b=some o:=λe n=>rF e n
  have noA:∀ {b:Addr} {o:Obj} {es:Array DictEntry} {ep:Nat},s₁.heap.get? b=some o->o.data=.dict es ep->H b=none:=λ{b o es ep} e d=>by
   cases q:H b with
   | none=>rfl
   | some u =>
    rcases hA b (by rw [q];simp) with e' | e'
    ·subst e'
     rw [ha] at e;cases e;have d':Data.seq vs.toArray _=Data.dict es ep:=d;cases d'
    ·subst e'
     rw [hT] at e;cases e;have d':Data.fields #[]=Data.dict es ep:=d;cases d'
  have nsK:∀ {b:Addr} {m:Str->Option Value},s₁.heap.Ns b m->(lC s₁.heap H).Ns b m:=λ{b m} ⟨o,es,ep,e,d,r⟩=>⟨o,es,ep,base_of e (noA e d),d,r⟩
  have hKb:K.In (lC s₁.heap H):=λb o e=>base_of (KX b o e) (by
   cases q:H b with
   | none=>rfl
   | some u =>
    rcases hA b (by rw [q];simp) with e' | e'
    ·subst e'
     rw [hK (by rw [q];simp)] at e;cases e
    ·subst e'
     rw [kT] at e;cases e)
  have hM:Mod K mg (lC s₁.heap H):=⟨hKb,nsK hns,⟨mb,nsK hb,hbb⟩,let ⟨mc,h1,h2⟩:=hlim;⟨mc,nsK h1,h2⟩,by
   obtain ⟨bm,ob,b1,b2,b3,b4,b5,b6⟩:=hbm;refine ⟨bm,ob,b1,b2,base_of b3 ?_,b4,b5,b6⟩
   cases q:H bm with
   | none=>rfl
   | some u =>
    rcases hA bm (by rw [q];simp) with e' | e'
    ·subst e'
     rw [ha] at b3;cases b3;cases b6
    ·subst e'
     rw [hT] at b3;cases b3;cases b6⟩
  have e0:eA P w K mg (lC s₁.heap H) callerA [] s₁ H:=⟨rfl,hM,λb o e=>Yg e,Nat.le_of_eq (tq _ _),trivial,λb hb=>absurd (show b∈([]:List Addr) from hb) (by simp),hTb,hok,.of_eq hg⟩
  refine codeAny_mono ((F _ hKb (nsK hns)).run callerA [] s₁ H ⟨[.ref a],[]⟩ [.ref a] [.ref a] _ _ hr e0 (hbind s₁ (.ref a)) (.cons rfl .nil) (hsp H hO hS)) λr s' h => ?_
  cases r with
  | error e=>exact (hCX H e s' h).elim
  | ok fl =>
   cases fl with
   | next=>exact False.elim h
   | brk=>exact False.elim h
   | cont=>exact False.elim h
   | ret u =>
    obtain ⟨v,H',os,bare,un,hok',r',q⟩:=h;have q':v=.bl true:=q;subst q';obtain rfl:u=Value.bool true:=r';have hk:∀ b o,b≠tabP->s₁.heap.get? b=some o->s'.heap.get? b=some o:=λb o hbP e => ?_;refine ⟨rfl,⟨λb o e => ?_,λb o e => ?_⟩,os,bare⟩
    ·by_cases hbP:b=tabP
     ·subst hbP
      rw [hT] at e;cases e;obtain ⟨ps,e2,_⟩:=(hok' _ _ (un.frzs _ _ _ hTb)).2;exact .inr (.inl ⟨let ⟨o,vs,_,_,_,_,_,_,_,e1,e2,e3,e4,_⟩:=hC;⟨_,o,vs,e1,e2,e3,e4⟩,rfl,#[],ps,rfl,by rw [Array.empty_append];exact e2⟩)
     ·exact .inl (hk b o hbP e)
    ·by_cases hbP:b=tabP
     ·subst hbP
      obtain ⟨ps,e2,_⟩:=(hok' _ _ (un.frzs _ _ _ hTb)).2;exact ⟨_,e2⟩
     ·exact ⟨o,hk b o hbP e⟩
    cases q:H b with
    | none=>exact un.keep b o e q (by intro z;exact absurd (show b∈([]:List Addr) from z) (by simp)) (by simp)
    | some u =>
     rcases hO b with z | z | ⟨ob,xs,z⟩
     ·rw [q] at z;cases z
     ·exact absurd z hbP
     ·have z2:=un.frzs b ob _ z
      obtain ⟨e1,_⟩:=hok b _ z;obtain ⟨e2,_⟩:=hok' b _ z2;have e1:=e1 rfl;rw [e] at e1;cases e1;exact e2 rfl
 have tne:a≠tabP:=λz=>by rw [z,hT] at ha;cases ha
 have tok:∀ H:Hp,j7 P w H s₁.heap tabP cx:=λH=>by
  show j7 P w H s₁.heap tabP (.frz _ (.tab Q9));exact ⟨λz=>(by cases z),#[],hT,trivial,λpos cv z=>(by cases z)⟩
 cases hk:K.lookup a with
 | some o =>
  -- the script is one of the module's own objects
  have e:=KX a o hk;rw [ha] at e;cases e;refine core (λb=>if b=tabP then some cx else none) (λb => ?_) (.inr ⟨_,vs.toArray,_,hk,rfl,rfl,rfl,by rw [List.size_toArray,lenV];exact hl,by simpa using rv⟩) (λb u z => ?_) (if_pos rfl) (λb z => ?_) λz=>absurd (if_neg tne) z
  ·by_cases hb:b=tabP
   ·exact .inr (.inl hb)
   ·exact .inl (if_neg hb)
  ·by_cases hb:b=tabP
   ·have z':=(if_pos hb).symm.trans z
    cases z';subst hb;exact tok _
   ·have z':=(if_neg hb).symm.trans z
    cases z'
  ·by_cases hb:b=tabP
   ·exact .inr hb
   ·exact absurd (if_neg hb) z
 | none =>
  refine core (λb=>if b=a then some (.frz { cls:=.type "list",data:=.seq vs.toArray } (.lst (ns.map V.int))) else if b=tabP then some cx else none) (λb => ?_) (.inl (.inr ⟨{ cls:=.type "list",data:=.seq vs.toArray },if_pos rfl⟩)) (λb u z => ?_) ((if_neg tne.symm).trans (if_pos rfl)) (λb z => ?_) λ_=>hk
  ·by_cases hb:b=a
   ·exact .inr (.inr ⟨_,_,if_pos hb⟩)
   ·by_cases hb2:b=tabP
    ·exact .inr (.inl hb2)
    ·exact .inl ((if_neg hb).trans (if_neg hb2))
  ·by_cases hb:b=a
   ·have z':=(if_pos hb).symm.trans z
    cases z';subst hb;exact ⟨λ_=>ha,by rw [List.length_map];exact hl,vs,_,rv,ha⟩
   ·by_cases hb2:b=tabP
    ·have z':=((if_neg hb).trans (if_pos hb2)).symm.trans z
     cases z';subst hb2;exact tok _
    ·have z':=((if_neg hb).trans (if_neg hb2)).symm.trans z
     cases z'
  ·by_cases hb:b=a
   ·exact .inl hb
   ·by_cases hb2:b=tabP
    ·exact .inr hb2
    ·exact absurd ((if_neg hb).trans (if_neg hb2)) z
abbrev N9 {K:W.Frag}{h:Heap}(_:K.In h):W.Frag:=K
theorem walk_of {l:W.OpenLaw}{n k:Nat}{q:Program}{loose:List Str}{XP:(Str->Option Value)->Heap->Prop}{YP:World->Heap->Prop}{d:DefRec}{K:Params->W.Frag}{CX:World->tN}{sp:World->Sp}{x:Str}
  (hn:l.most=some n) (hn2:n<=sizeLine) (hdf:d.params.defaults=[]) (hr:jV k callerA)
  (hY:∀ (w:World) (h:Heap),YP w h->(K w.params).In h) (hYT:∀ (w:World) (h:Heap),YP w h->h.get? tabP=some { cls:=.none,data:=.fields #[] }) {c₀:Addr} (hYC:∀ (w:World) (h:Heap),YP w h->W.CodeHd h c₀ tabP) (hYN:∀ w:World,W.noTabs (K w.params)=true)
  (F:∀ (w:World) (mg:Str->Option Value) (fa:Addr) (h:Heap),(K w.params).In h->h.Ns mainGlobals mg->mg d.name=some (.ref fa) ->
   ∃ fd:FuncData,(∀ (s:Shared) (u:Value),BindsTo s fd ⟨[u],[]⟩ [(x,u)]) /\
    ∀ base:Heap,(K w.params).In base->base.Ns mainGlobals mg->xR l.prog w (K w.params) mg base (CX w) k fa fd [x] (sp w))
  (hsp:∀ (w:World) (H:Hp) (a:Addr) (ns:List Int),ns.length<=n->VB H->fw (K w.params) H a (ns.map V.int)->sp w [.ref a] H (λv _=>v=.bl true) λ_ _ _=>False)
  (hCX:∀ (w:World) (H:Hp) (s:Shared) (e:Value) (s':Shared),CX w [] H s (λ_ _ _=>False) e s'->False) :
  W.WalkO q loose XP YP l.row.toRowW d [] (λf vs=>PySem.call f vs):=by
 refine Att.attach_call hn hdf λw s₀ s₁ mg mb fa o pm cd doc a vs ns G Y ho hd hcd hmg hobj hints hlen hg => ?_;have KX:=hY w _ Y;obtain ⟨fd,hb,hF⟩:=F w mg fa _ KX G.T.g hmg;exact Z8 KX (hYT w _ Y) (hYC w _ Y) (hYN w) G.T.bmain G.T.g G.T.b G.T.builtins G.T.nolimit hg hobj hints (Nat.le_trans hlen hn2) hr hF hb (λH hO hS=>hsp w H a ns hlen hO hS) λH e s'=>hCX w H s₁ e s'
def zO (s:Stmt)(j:Nat):Stmt:=match s with
 | .ClassDef _ _ _ body _ _ _ _ _ _ _=>body.getD j (.Pass ⟨0,0,0,0⟩)
 | _=>.Pass ⟨0,0,0,0⟩
def jR (s:Stmt):Arguments:=match s with
 | .FunctionDef _ a _ _ _ _ _ _ _ _=>a
 | _ => { posonlyargs:=[],args:=[],vararg:=none,kwonlyargs:=[],kw_defaults:=[],kwarg:=none,defaults:=[] }
def j8 (s:Stmt):List Stmt:=match s with
 | .FunctionDef _ _ b _ _ _ _ _ _ _=>b
 | _=>[]
def z6 (s:Stmt):Scope:=match s with
 | .FunctionDef _ _ _ _ _ _ sc _ _ _=>sc
 | _ => { kind:=.function,names:=[],isGenerator:=false,isCoroutine:=false }
structure cr (K:W.Frag) (x qual:Str) (st:Stmt) (f:Addr) (fd:FuncData):Prop where
 ex:∃ (oc:Value) (od:Option Addr) (kV doc pm:Value) (an:Option Addr) (cdv ct:Value) (osl:Array (Option Value)),
  fd=W.fnOf x qual (jR st) (j8 st) (z6 st) .none kV doc pm an cdv ct/\K.lookup f=some ⟨oc,od,.func fd,osl⟩/\W.codeIn K cdv qual=true
 kp:W.keepIn K (.ref f)=true
section
variable {P:Program}{w:World}{K:W.Frag}{mg:Str->Option Value}{base:Heap}
theorem cr.binds {x qual:Str}{st:Stmt}{f:Addr}{fd:FuncData}{ps:List Str}(F:cr K x qual st f fd)
  (h:∀ (kV doc pm:Value) (an:Option Addr) (cdv ct:Value) (us:List Value),us.length=ps.length->bindArgs (W.fnOf x qual (jR st) (j8 st) (z6 st) .none kV doc pm an cdv ct) ⟨us,[]⟩=pure (ps.zip us)):kJ K fd ps []:=by
 obtain ⟨oc,od,kV,doc,pm,an,cdv,ct,osl,rfl,lk,hcd⟩:=F.ex;exact .all (h kV doc pm an cdv ct)
theorem lN {x qual:Str}{st:Stmt}{f:Addr}{oc:Value}{od an:Option Addr}{osl:Array (Option Value)}{kV doc pm cdv ct:Value}(l:K.lookup f=some ⟨oc,od,.func (W.fnOf x qual (jR st) (j8 st) (z6 st) .none kV doc pm an cdv ct),osl⟩)
  (c:W.codeIn K cdv qual=true) (k:W.keepIn K (.ref f)=true):cr K x qual st f (W.fnOf x qual (jR st) (j8 st) (z6 st) .none kV doc pm an cdv ct):=⟨⟨oc,od,kV,doc,pm,an,cdv,ct,osl,rfl,l,c⟩,k⟩
end
section
variable {X:Cx}
theorem pv (i:Nat){x:Str}{pos:Pos}(hN:X.N[i]? = some x:=by rfl)(hv:cy X.env.scope x:=by first | exact Or.inl rfl | exact Or.inr (Or.inl rfl) | exact Or.inr (Or.inr rfl))(hd:(x == ("__debug__" : Str))=false:=by decide)
  (hcd:(x == ("__classdict__" : Str))=false:=by decide):PE X (.Name x pos) (xD i):=vG hN hv hd hcd
end
section
variable {κ:Type} [DecidableEq κ]
theorem Z9 {kvs:List (κ×V)}{k:κ}(h:jh kvs k=none):¬ k∈kvs.map (·.1):=by
 intro m;obtain ⟨p,hp,e⟩:=List.mem_map.mp m;have q:(kvs.any λkv=>decide (kv.1=k))=true:=List.any_eq_true.mpr ⟨p,hp,decide_eq_true e⟩;rw [vW,h] at q;exact absurd q (by simp)
end
section
variable {M:Model}{A:Around}{E:Value->Shared->Prop}{s:Shared}
def Wd (base:Heap)(l:List Env)(e:Addr)(oe:Obj)(h h':Heap):Prop :=
 base.StaysIn h'/\h'.FunFrames base l/\(∃ T oT ts,h'.get? e=some (Obj.mapFields (·.setIfInBounds 1 (Value.ref T)) oe)/\h.objs.size<=T/\h'.get? T=some oT/\oT.data=.fields ts/\ts[3]? = some .none)/\h.UpToSlots h'
theorem mW {base:Heap}{env:Env}{outer:List Env}{L e:Addr}{oe:Obj}{vs:Array Value}{head:Value}{hadNext:Bool}{Q:Unit->Shared->Prop}
  (hfr:A.frames=some (env :: outer)) (hl:s.heap.FunFrames base (env :: outer)) (hf:env.frame=some L)
  (he:s.heap.get? e=some oe) (hkb:base.StaysIn s.heap) (hen:base.get? e=none) (hd:oe.data=.fields vs) (hsz:1 < vs.size)
  (h:∀ h',Wd base (env :: outer) e oe s.heap h'->Q () { s with heap:=h' }) :
  wpAny M A (do let a <- frameOf env;let pl <- entryPlaceOf L hadNext;let b <- EntryCells.newEntry head a .none (rawInt L) .none pl;setField (.ref e) 1 b) (λ_ s'=>wpAny M A (setFlight (.ref e) none) Q E s') E s:=by
 have hene:e∉(env :: outer).filterMap (·.frame):=λhm=>by
  obtain ⟨_,o,ho,hnf⟩:=hl.mem hm;rw [he] at ho;injection ho with ho;subst ho;exact hnf vs hd
 refine wpAny_bind (wpAny_frameOf_fun hfr hl hf λh₁ hs₁ => ?_);refine wpAny_bind (wpAny_entryPlaceOf λpl hpl => ?_);unfold EntryCells.newEntry newFields;refine wpAny_bind (wpAny_newObj_type ?_ (hpl.sizeOk5 _ _ _ _ _));have he₁:h₁.get? e=some oe:=(hs₁.2.1 e hene).trans he;have kb₁:base.StaysIn h₁:=λb o hbo=>(hs₁.2.1 b λhm=>by rw [(hl.mem hm).1] at hbo;cases hbo).trans (hkb b o hbo);have he₂:=Heap.get?_push_of_some (h:=h₁) { cls:=.type "traceback",dict:=none,data:=.fields ([head,.ref L,.none,rawInt L,.none] ++ (if pl.isEmpty then List.replicate 6 Value.none else pl)).toArray } he₁;refine wpAny_setField he₂ hd hsz ?_;have hTe:h₁.objs.size≠e:=Nat.ne_of_gt (Heap.lt_size he₁);have hd₃:=Obj.data_mapFields hd (·.setIfInBounds 1 (Value.ref h₁.objs.size));have he₃:=Heap.get?_update_self (Obj.mapFields (·.setIfInBounds 1 (Value.ref h₁.objs.size))) he₂ (Obj.isFreed_of_fields hd₃)
 have hT₃:=(Heap.get?_update_other (h₁.push { cls:=.type "traceback",dict:=none,data:=.fields ([head,.ref L,.none,rawInt L,.none] ++ (if pl.isEmpty then List.replicate 6 Value.none else pl)).toArray })
  (Obj.mapFields (·.setIfInBounds 1 (Value.ref h₁.objs.size))) (Ne.symm hTe)).trans (Heap.get?_push_size h₁ rfl)
 unfold setFlight;refine wpAny_bind (wpAny_field he₃ hd₃ (x:=.ref h₁.objs.size) (by simp [hsz]) ?_);rw [if_pos (show (Value.ref h₁.objs.size != Value.none)=true from by simp)];refine wpAny_setField hT₃ rfl (by simp only [List.size_toArray,List.length_append,List.length_cons,List.length_nil]<;>omega) (h _ ?_)
 have keep:∀ b o,b≠e->h₁.get? b=some o ->
   (((h₁.push { cls:=.type "traceback",dict:=none,data:=.fields ([head,.ref L,.none,rawInt L,.none] ++ (if pl.isEmpty then List.replicate 6 Value.none else pl)).toArray }).update e (Obj.mapFields (·.setIfInBounds 1 (Value.ref h₁.objs.size)))).update h₁.objs.size
    (Obj.mapFields (·.setIfInBounds 3 ((none:Option Addr).elim Value.none λf=>rawInt f)))).get? b=some o:=λb o hbe hb=>by
  have hbT:h₁.objs.size≠b:=Nat.ne_of_gt (Heap.lt_size hb);rw [Heap.get?_update_other _ _ hbT,Heap.get?_update_other _ _ (Ne.symm hbe)];exact Heap.get?_push_of_some _ hb
 have noRecord:∀ b o,s.heap.get? b=some o->(∀ vs,o.data≠.fields vs)->b≠e:=λb o hb hnf q=>by
  rw [q,he] at hb;injection hb with hb;subst hb;exact hnf vs hd
 refine ⟨λb o hbo=>keep b o (λq=>by rw [q,hen] at hbo;cases hbo) (kb₁ b o hbo),hl.of_keeps λb o hb hnf => ?_,?_,λb o hb hnf => ?_⟩
 ·obtain ⟨sl,hs⟩:=hs₁.2.2 b o hb
  exact ⟨_,keep b _ (noRecord b o hb hnf) hs,rfl⟩
 ·refine ⟨h₁.objs.size,_,_,?_,?_,Heap.get?_update_self _ hT₃ (Obj.isFreed_of_fields (Obj.data_mapFields rfl _)),Obj.data_mapFields rfl _,by first | (simp;done) | (rcases hpl with rfl | ⟨_,_,_,_,_,_,_,rfl⟩<;>simp)⟩
  ·rw [Heap.get?_update_other _ _ hTe];exact he₃
  ·exact Nat.le_of_eq hs₁.1.symm
 ·obtain ⟨sl,hs⟩:=hs₁.2.2 b o hb
  exact ⟨sl,keep b _ (noRecord b o hb hnf) hs⟩
def FlyN (ps:List (Addr×Obj))(n:Nat)(H:Hp)(ev:Value)(h:Heap):Prop :=
 ∃ e oe vs,ev=.ref e/\n<=e/\h.get? e=some oe/\oe.data=.fields vs/\1 < vs.size /\
  (vs[1]? = some .none\/∃ T oT ts,n<=T/\H T=none/\T≠e/\(∀ p∈ps,p.1≠T)/\vs[1]? = some (.ref T)/\h.get? T=some oT/\oT.data=.fields ts/\ts[3]? = some .none)
theorem VC {base:Heap}{env:Env}{outer:List Env}{L e:Addr}{oe:Obj}{vs:Array Value}{Q:Unit->Shared->Prop}
  (hfr:A.frames=some (env :: outer)) (hl:s.heap.FunFrames base (env :: outer)) (hf:env.frame=some L)
  (he:s.heap.get? e=some oe) (hkb:base.StaysIn s.heap) (hen:base.get? e=none) (hd:oe.data=.fields vs) (hsz:1 < vs.size)
  (h1:vs[1]? = some .none\/∃ T oT ts,base.get? T=none/\T≠e/\vs[1]? = some (.ref T)/\s.heap.get? T=some oT/\oT.data=.fields ts/\ts[3]? = some .none)
  (h:∀ h' hm,(hm.objs.size=s.heap.objs.size/\s.heap.UpToSlots hm)->Wd base (env :: outer) e oe hm h'->Q () { s with heap:=h' }):wpAny M A (noteFrame (.ref e) env) (λ_ s'=>wpAny M A (setFlight (.ref e) none) Q E s') E s:=by
 rcases h1 with h1 | ⟨T,oT,ts,hnT,hTe,h1,hT,hdT,h3⟩
 ·unfold noteFrame
  simp only [hf];refine wpAny_bind (wpAny_field he hd h1 ?_);rw [if_neg (by decide)];exact mW hfr hl hf he hkb hen hd hsz λh' x=>h h' s.heap ⟨rfl,.refl _⟩ x
 ·unfold noteFrame
  simp only [hf];refine wpAny_bind (wpAny_field he hd h1 ?_);rw [if_pos (show (Value.ref T != Value.none)=true from by simp)];refine wpAny_bind (wpAny_field hT hdT h3 ?_);rw [if_neg (show ¬ ((Value.none == rawInt L)=true) from by simp [rawInt])];refine wpAny_bind (wpAny_setField hT hdT (Array.getElem?_eq_some_iff.mp h3).1 ?_);have other:∀ b,b≠T->(s.heap.update T (Obj.mapFields (·.setIfInBounds 3 Value.none))).get? b=s.heap.get? b:=λb hb=>Heap.get?_update_other _ _ (Ne.symm hb)
  have noRecord:∀ b o,s.heap.get? b=some o->(∀ vs,o.data≠.fields vs)->b≠T:=λb o hb hnf q=>by
   rw [q,hT] at hb;injection hb with hb;subst hb;exact hnf ts hdT
  exact mW hfr (hl.of_keeps λb o hb hnf=>⟨o,(other b (noRecord b o hb hnf)).trans hb,rfl⟩) hf ((other e (Ne.symm hTe)).trans he)
   (λb o hbo=>(other b λq=>by rw [q,hnT] at hbo;cases hbo).trans (hkb b o hbo)) hen hd hsz
   λh' x=>h h' _ ⟨Heap.size_update ..,λb o hb hnf=>⟨o.slots,(other b (noRecord b o hb hnf)).trans hb⟩⟩ x
end
theorem eM {X:Cx}{pins:List (Addr×Obj)}{σ:St}{H:Hp}{s:Shared}{e C d:Addr}{Q:Unit->Shared->Prop}{E:Value->Shared->Prop}(I:zj X pins σ H s)(hst:X.stack=X.env :: X.outer)(hfm:X.env.frame=some X.env.locals)(hx:H e=some (.xob C d))
  (fly:FlyN (X.pn ++ pins) X.s₀.heap.objs.size H (.ref e) s.heap) (h:∀ h',zj X pins σ H { s with heap:=h' } -> FlyN (X.pn ++ pins) X.s₀.heap.objs.size H (.ref e) h'->Q () { s with heap:=h' }):wpAny (model X.prog X.w) X.A (noteFrame (.ref e) X.env) (λ_ s'=>wpAny (model X.prog X.w) X.A (setFlight (.ref e) none) Q E s') E s:=by
 obtain ⟨e',oe,vs,ee,hne,he,hd,hsz,hT⟩:=fly;cases ee;have hfr:X.A.frames=some (X.env :: X.outer):=by rw [<- hst];exact I.ok.frames
 have hFF:s.heap.FunFrames X.base (X.env :: X.outer):=by rw [<- hst];exact I.stack
 have memf:∀ {b:Addr},b∈ue X.stack↔b∈(X.env :: X.outer).filterMap (·.frame):=by rw [hst];exact Iff.rfl
 have main:∀ Ts:List Addr,(∀ T∈Ts,H T=none/\X.s₀.heap.objs.size<=T/\T≠e/\(∀ p∈X.pn ++ pins,p.1≠T)/\∃ oT ts,s.heap.get? T=some oT/\oT.data=.fields ts) ->
   (vs[1]? = some .none\/∃ T oT ts,T∈Ts/\T≠e/\vs[1]? = some (.ref T)/\s.heap.get? T=some oT/\oT.data=.fields ts/\ts[3]? = some .none)->wpAny (model X.prog X.w) X.A (noteFrame (.ref e) X.env) (λ_ s'=>wpAny (model X.prog X.w) X.A (setFlight (.ref e) none) Q E s') E s:=by
  intro Ts hTs h1;have hide:∀ {b:Addr} {o:Obj},s.heap.get? b=some o->b∉ue X.stack->b≠e->b∉Ts->(W.hideAll s.heap (ue X.stack ++ e :: Ts)).get? b=some o:=λq n1 n2 n3=>W.hideAll_get _ q (by simp [n1,n2,n3])
  have hTf:∀ T∈Ts,T∉ue X.stack:=λT m z=>by
   obtain ⟨_,_,_,_,oT,ts,q,dt⟩:=hTs T m;obtain ⟨_,o,ho,nf⟩:=hFF.mem (memf.mp z);rw [q] at ho;cases ho;exact nf ts dt
  refine VC (base:=W.hideAll s.heap (ue X.stack ++ e :: Ts)) hfr (W.funFrames_hide hFF λen hen a ha=>List.mem_append_left _ (memf.mpr (List.mem_filterMap.mpr ⟨en,hen,ha⟩))) hfm he (λb o q=>W.of_hideAll _ q) (W.hideAll_none _ (by simp)) hd hsz ?_ λh' hm hhm hL => ?_
  ·exact h1.imp id λ⟨T,oT,ts,m,r⟩=>⟨T,oT,ts,W.hideAll_none _ (by simp [m]),r⟩
  ·obtain ⟨stay,ff,⟨T',oT,ts,he',hT',gT,dT,t3⟩,up⟩:=hL
   have hT':s.heap.objs.size<=T':=by rw [<- hhm.1];exact hT'
   have kp:∀ {b:Addr} {o:Obj},s.heap.get? b=some o->b∉ue X.stack->b≠e->b∉Ts->h'.get? b=some o:=λq n1 n2 n3=>stay _ _ (hide q n1 n2 n3)
   have slt:∀ {b:Addr} {o:Obj},s.heap.get? b=some o->b∈ue X.stack->∃ sl,h'.get? b=some { o with slots:=sl }:=λ{b o} q m=>by
    obtain ⟨_,o',ho,nf⟩:=hFF.mem (memf.mp m);rw [q] at ho;cases ho;exact (hhm.2.trans up) b o q nf
   have hex:e∉ue X.stack:=λz=>by rw [I.stkFree e z] at hx;cases hx
   have hd':=Obj.data_mapFields hd (·.setIfInBounds 1 (Value.ref T'));have hdict:(Obj.mapFields (·.setIfInBounds 1 (Value.ref T')) oe).dict=oe.dict:=by unfold Obj.mapFields;split<;>rfl
   have un:Un (ue X.stack) Ts H H s.heap h':=⟨λb o q n hb hc=>kp q hb (λz=>by rw [z,hx] at n;cases n) hc,λb o q n hb hc=>slt q hb,λb o q n _=>n,λb o q hc=>by
     by_cases hb:b∈ue X.stack
     ·obtain ⟨sl,q'⟩:=slt q hb;exact ⟨_,q'⟩
     ·by_cases hbe:b=e
      ·subst hbe;exact ⟨_,he'⟩
      ·exact ⟨o,kp q hb hbe hc⟩,λb xs q=>q,λb o u q=>q,λb ps q=>⟨#[],by rw [Array.append_empty];exact q⟩⟩
   have hok:qG X.prog X.w H h':=λa o q=>by
    by_cases ha:a=e
    ·subst ha
     rw [hx] at q;cases q;obtain ⟨oe0,vs0,q0,c0,d0,f0,z0⟩:=I.hok _ _ hx;rw [he] at q0;cases q0;exact ⟨_,_,he',by rw [Obj.cls_mapFields];exact c0,hdict.trans d0,hd',by simpa using hsz⟩
    ·refine (I.hok a o q).stay (λb u hb r => ?_) (λ_ r=>r) λ_ _ r=>r
     have tr:H b≠none:=by rcases hb with rfl | hb;(rw [q];intro z;cases z);(rw [hb];intro z;cases z)
     refine kp r (λz=>tr (I.stkFree b z)) (λz => ?_) λz=>tr (hTs b z).1
     rcases hb with rfl | hb
     ·exact ha z
     ·rw [z,hx] at hb;cases hb
   have J:zj X pins σ H { s with heap:=h' }:=by
    refine I.call (h':=h') (g':=s.gens) (d':=s.drawn) (t':=s.toks) (ch:=Ts) un hok I.bare λb hb => ?_;obtain ⟨n,z,ne,np,oT,ts,q,dt⟩:=hTs b hb;refine ⟨.inr z,?_,λx c ec zz => ?_,np⟩
    ·rintro rfl
     obtain ⟨m,⟨o,es,ep,ho,dd,_⟩,_⟩:=I.loc;rw [q] at ho;cases ho;rw [dt] at dd;cases dd
    ·subst zz
     obtain ⟨v,o,ho,dd⟩:=I.cell x c ec;rw [q] at ho;cases ho;rw [dt] at dd;cases dd
   refine h h' J ⟨e,_,_,rfl,hne,he',hd',by simpa using hsz,.inr ⟨T',oT,ts,Nat.le_trans I.sz hT',I.hok.fresh hT',Nat.ne_of_gt (Nat.lt_of_lt_of_le (Heap.lt_size he) hT'),λp hp=>Nat.ne_of_lt (Nat.lt_of_lt_of_le (Heap.lt_size (I.pin p hp).1) hT'),by simp [hsz],gT,dT,t3⟩⟩
 rcases hT with h1 | ⟨T,oT,ts,z,n,ne,np,h1,q,dt,t3⟩
 ·exact main [] (λT m=>nomatch m) (.inl h1)
 ·exact main [T] (λT' m=>by rw [List.mem_singleton.mp m];exact ⟨n,z,ne,np,oT,ts,q,dt⟩) (.inr ⟨T,oT,ts,List.mem_singleton.mpr rfl,ne,h1,q,dt,t3⟩)
end L2
namespace L2
open PySem PySem.Spec PyProof.Rows PySem.W
open PySem.Builtin.ObjectAttr
theorem passes_ve (self:Value):refuseLoop self "__setattr__" [.type "ValueError",.type "Exception",.type "BaseException",.type "object"]=pure ():=by kernel_rfl
section
variable {prog:Program}{w:World}{K:Frag}{A:Around}{R:Result->Shared->Prop}{s:Shared}{x C:Addr}
theorem Yz {ox:Obj}{od:Option Obj}{cd:ClassData}{name:Str}{tk:Tok}{v:Value}(X:K.In s.heap)(I:InstAt s.heap x ox C od)(hc:clsIn K C=some cd)(hp:refuseLoop (.ref x) "__setattr__" cd.mro=pure ())(hob:cd.mro.contains (.type "object")=true)(ht:takerIn K C name=some none)
  (h:∀ b,wpAny (model prog w) A.in1 (storeInOwnDict (.ref x) (.ref C) (.str name tk) name v b)
   (λfin s'=>match fin with | .done f=>R (.ok f) s' | .again c'=>c'.quiet=true/\codeAny (model prog w) A c' R s') (λe s'=>R (.error e) s') s) :
  codeAny (model prog w) A (.call (.builtin "object.__setattr__") ⟨[.ref x,.str name tk,v],[]⟩) R s:=by
 have SF:=PySem.F.store_object;have ne:cd.mro.isEmpty=false:=by cases q:cd.mro with | nil=>rw [q] at hob;cases hob | cons _ _=>rfl
 have sub:Looks (model prog w) s.heap (isInstance (.ref x) (.type "object")) true:=I.type.andThen (looks_mroIn X (by unfold mroIn;rw [hc,Option.bind_some,if_neg (by rw [ne];decide),hob]));refine codeAny_call_builtin SF.slot.plain SF.entry (@check_slot (model prog w) _ _ s "object.__setattr__" "object" "__setattr__" (.ref x) [.str name tk,v] [] _ SF.kind SF.split sub (SF.args (.ref x) (.str name tk) v) ?_);obtain ⟨attr,ha,hr⟩:=Option.bind_eq_some_iff.mp ht;have hm:Looks (model prog w) s.heap (mroOf (.ref C)) cd.mro:=(looks_clsIn X hc).andThen .now
 have L3:Looks (model prog w) s.heap (storeTaker? attr) none:=by
  cases attr with
  | none=>exact .now
  | some a =>
   obtain ⟨b,hb,hbb⟩:=Option.map_eq_some_iff.mp hr;refine (looks_takesIn X hb).andThen ?_;cases b
   ·exact .now
   ·cases hbb
 rw [osa_eq,refuse_eq];refine wpAny_bind (wpAny_bind (I.type.here (wpAny_bind (hm.here ?_))));rw [hp];refine wpAny_pure (wpAny_bind (I.type.here (wpAny_bind ((looks_findIn X ha).here (wpAny_bind (L3.here ?_))))));exact h _
theorem eN {ox:Obj}{cd:ClassData}{name:Str}{v:Value}{E:Value->Shared->Prop}{Q:Unit->Shared->Prop}(X:K.In s.heap)(hx:s.heap.get? x=some ox)(hcl:ox.cls=.ref C)(hno:notCls ox=true)(hdn:ox.dict=none)(hc:clsIn K C=some cd)(hh:cd.hasDict=true)(hs:findIn K (.ref C) "__setattr__" = some (some (.builtin "object.__setattr__")))
  (hp:refuseLoop (.ref x) "__setattr__" cd.mro=pure ()) (hob:cd.mro.contains (.type "object")=true) (ht:takerIn K C name=some none)
  (hq:∀ h' tk,h'.get? x=some { ox with dict:=some s.heap.objs.size } -> h'.Ns1 s.heap.objs.size (λy=>if y=name then some v else none)->(∀ b o,b≠x->s.heap.get? b=some o->h'.get? b=some o)->Q () { s with heap:=h',toks:=tk }) :
  wpAny (model prog w) A (setAttr (.ref x) name v) Q E s:=by
 have I:InstAt s.heap x ox C none:=⟨hx,hcl,hno,by rw [hdn];trivial⟩
 refine set_plain X I hs (Yz (s:={ s with toks:=s.toks + 1 }) X I hc hp hob ht λb => ?_);obtain ⟨oc,odi,oda,osl⟩:=ox;dsimp only at hcl hdn;subst hcl hdn;have hxs:x≠s.heap.objs.size:=Nat.ne_of_lt (Heap.lt_size hx);refine wpAny_bind (wpAny_pure (wpAny_bind (wpAny_bind (wpAny_loadPart hx (wpAny_bind ((looks_clsIn (M:=model prog w) (h:=({ s with toks:=s.toks + 1 } : Shared).heap) X hc).here ?_))))));rw [hh];dsimp only;rw [if_neg (by decide),if_neg (by simp [typeHasDict])];have hcls:∀ c,oda≠.cls c:=λc z=>by subst z;cases hno
 have hx₁:(s.heap.push { cls:=.type "dict",data:=.dict #[] }).get? x=some ⟨.ref C,none,oda,osl⟩:=Heap.get?_push_of_some _ hx
 split
 ·exact absurd rfl (hcls _)
 ·refine wpAny_bind (wpAny_alloc' ?_)
  refine wpAny_bind (wpAny_update' hx₁ ?_);refine wpAny_pure ?_
  have hgd:((s.heap.push { cls:=.type "dict",data:=.dict #[] }).update x λo => { cls:=o.cls,dict:=some s.heap.objs.size,data:=o.data,slots:=o.slots }).get? s.heap.objs.size=some { cls:=.type "dict",data:=.dict #[] } :=
   (Heap.get?_update_ne _ _ _ _ hxs.symm).trans (Heap.get?_push_at rfl rfl)
  have hnd:((s.heap.push { cls:=.type "dict",data:=.dict #[] }).update x λo => { cls:=o.cls,dict:=some s.heap.objs.size,data:=o.data,slots:=o.slots }).Ns s.heap.objs.size (λ_=>none) :=
   ⟨_,#[],_,hgd,rfl,λe he=>absurd he (by simp),λ_=>rfl⟩
  show wpAny _ _ (storeInDict s.heap.objs.size (.str name s.toks) name v) _ _ _;unfold storeInDict newKeyGuard;refine wpAny_bind (wpAny_pure (wpAny_bind (wpAny_nsSet1 (Heap.Ns1.of_empty hnd) λh' hn' hs' => ?_)));obtain ⟨oD,esD,epD,hoD,hdD,hcD⟩:=hn'.count (Within.cons name v Within.nil);refine wpAny_bind (wpAny_lookBehind hoD (by rw [hdD];exact pastItsLine_dict (Nat.le_trans hcD (by rw [List.length_cons,List.length_nil,sizeLine_eq];omega))) ?_);refine wpAny_pure ?_;refine hq h' _ ?_ hn' λb ob hbx hb => ?_
  ·refine (hs'.2 x hxs).trans (Heap.get?_update_self _ hx₁ ?_)
   have hfr:=(Heap.get?_some_iff.mp hx).2;cases oda<;>first | rfl | exact hfr
  ·exact (hs'.2 b (Nat.ne_of_lt (Heap.lt_size hb))).trans ((Heap.get?_update_ne _ _ _ _ hbx).trans (Heap.get?_push_of_some _ hb))
end
end L2
namespace L2
open PySem PySem.Spec PySem.W
section
variable {M:Model}{A:Around}{E:Value->Shared->Prop}{h:Heap}{g:Array GenState}{d:Drawn}{t:Nat}{os:OsState}
variable {nm q:Str}{C N:Addr}{bs bm bmB:List Value}{hdct:Bool}{sn:List Str}{sub:List Value}{ab:Bool}{col:Option Bool}{dd:Option Addr}{k0 k1 k2 k3 k5:Option Value}{B newId initId:String}
theorem cR (F:ExcBaseFacts B newId initId bmB)(hB:bm.contains (.type B)=true){rest:List Value}{Q:Unit->Shared->Prop}(hC:h.get? C=some (excClassObj nm q C N bs bm hdct sn sub ab col dd k0 k1 k2 k3 k5 newId))
  (hq:Q () ⟨h,g,d,t,os⟩):wpAny M A (checkBuiltinCall newId ⟨.ref C :: rest,[]⟩) Q E ⟨h,g,d,t,os⟩:=by
 have hcont:(Value.ref C :: bm).contains (.type B)=true:=by rw [List.contains_cons,hB,Bool.or_true]
 have hstar:=F.noStar;simp only [checkBuiltinCall,F.newKind,F.newSplit,F.newRow]
 repeat (first | refine wpAny_loadPart_at hC ?_ | (refine wpAny_isSubtype_exc hC ?_;rw [hcont]) | refine wpAny_staticBase_exc hC ?_ | refine wpAny_madeBy_exc hC ?_ | simp only [bne_self_eq_false,Bool.false_eq_true,if_false] | wp_step)
 exact hq
end
section
variable {prog:Program}{w:World}{A:Around}{R:Result->Shared->Prop}{h:Heap}{g:Array GenState}{d:Drawn}{t:Nat}{os:OsState}
variable {nm q:Str}{C N:Addr}{bs bm bmB:List Value}{hdct:Bool}{sn:List Str}{sub:List Value}{ab:Bool}{col:Option Bool}{dd:Option Addr}{k0 k1 k2 k3 k5:Option Value}{B newId initId:String}
theorem Za (F:ExcBaseFacts B newId initId bmB)(hB:bm.contains (.type B)=true)(hA:bm.contains (.type "AttributeError")=false)(hN:bm.contains (.type "NameError")=false){rest:List Value}(hC:h.get? C=some (excClassObj nm q C N bs bm hdct sn sub ab col dd k0 k1 k2 k3 k5 newId))
  (hq:R (.ok (.ret (.ref (h.objs.size + 1)))) ⟨(h.push { cls:=.type "tuple",data:=.seq rest.toArray }).push
   { cls:=.ref C,data:=.fields #[.ref h.objs.size,.none,.none,.none,.bool false,.none] },g,d,t,os⟩) (hrest:rest.length<=sizeLine) :
  codeAny (model prog w) A (.builtin newId ⟨.ref C :: rest,[]⟩) R ⟨h,g,d,t,os⟩:=by
 have hends:=F.ends;have hcB:(Value.ref C :: bm).contains (.type B)=true:=by rw [List.contains_cons,hB,Bool.or_true]
 have hcA:(Value.ref C :: bm).contains (.type "AttributeError")=false:=by rw [List.contains_cons,hA];rfl
 have hcN:(Value.ref C :: bm).contains (.type "NameError")=false:=by rw [List.contains_cons,hN];rfl
 refine codeAny_builtinAt F.entry ?_;unfold Builtin.«BaseException.__new__»;refine wpAt_bind ?_;show wpAt _ _ _ (stack >>= _) _ _ _;refine wpAt_bind (wpAt_stack λp below=>wpAt_of_wpAny ?_)
 wp_walk
 refine wpAt_of_wpAny ?_;rw [F.owner]
 repeat (first | with_reducible refine wpAny_madeHere_exc F.canon hC ?_ | with_reducible refine wpAny_loadPart_at hC ?_ | (with_reducible refine wpAny_isSubtype_exc hC ?_;first | rw [hcB] | rw [hcA] | rw [hcN]) | wp_step)
 show R _ _;rw [Heap.size_push];exact hq
end
section
variable {prog:Program}{w:World}{K:Frag}{A:Around}{E:Value->Shared->Prop}{h:Heap}{g:Array GenState}{d:Drawn}{t:Nat}{os:OsState}
variable {nm q:Str}{C N:Addr}{bs bm bmB:List Value}{hdct:Bool}{sn:List Str}{sub:List Value}{ab:Bool}{col:Option Bool}{dd:Option Addr}{k0 k1 k2 k3 k5:Option Value}{B newId initId:String}
theorem cS (F:ExcBaseFacts B newId initId bmB)(X:K.In h)(hB:bm.contains (.type B)=true)(hA:bm.contains (.type "AttributeError")=false)(hN:bm.contains (.type "NameError")=false){rest:List Value}{fI:Addr}{Q:Fin->Shared->Prop}
  (hC:h.get? C=some (excClassObj nm q C N bs bm hdct sn sub ab col dd k0 k1 k2 k3 k5 newId)) (hi:findIn K (.ref C) "__init__" = some (some (.ref fI))) (hf:typeIn K (.ref fI)=some (.type "function"))
  (hq:∀ h',(∀ b o,h.get? b=some o->h'.get? b=some o)->h'.get? (h.objs.size + 1)=some { cls:=.ref C,data:=.fields #[.ref h.objs.size,.none,.none,.none,.bool false,.none] } -> wpAny (model prog w) A (call (.ref fI) (.ref (h.objs.size + 1) :: rest)) (λr s'=>r=.none/\Q (.done (.ret (.ref (h.objs.size + 1)))) s') E ⟨h',g,d,t,os⟩) (hrest:rest.length<=sizeLine) :
  wpAny (model prog w) A (Builtin.«type.__call__» ⟨.ref C :: rest,[]⟩) Q E ⟨h,g,d,t,os⟩:=by
 repeat (first | with_reducible refine wpAny_loadPart_at hC ?_ | with_reducible refine wpAny_madeBy_exc hC ?_ | wp_step)
 refine codeAny_call_builtin_code (Code.quiet_builtin _ F.quiet) (cR F hB hC ?_);refine Za F hB hA hN hC ?_ hrest;show wpAny _ _ _ _ _ _
 have hC₁:=Heap.get?_push_of_some { cls:=.ref C,data:=.fields #[.ref h.objs.size,.none,.none,.none,.bool false,.none] }
  (Heap.get?_push_of_some { cls:=.type "tuple",data:=.seq rest.toArray } hC)
 have hget:((h.push { cls:=.type "tuple",data:=.seq rest.toArray }).push
   { cls:=.ref C,data:=.fields #[.ref h.objs.size,.none,.none,.none,.bool false,.none] }).get? (h.objs.size + 1)=some
   { cls:=.ref C,data:=.fields #[.ref h.objs.size,.none,.none,.none,.bool false,.none] }:=by heap_get
 have X₁:K.In ((h.push { cls:=.type "tuple",data:=.seq rest.toArray }).push { cls:=.ref C,data:=.fields #[.ref h.objs.size,.none,.none,.none,.bool false,.none] }):=X.keeps λb o e=>Heap.get?_push_of_some _ (Heap.get?_push_of_some _ e);have hcC:(Value.ref C :: bm).contains (.ref C)=true:=by simp
 unfold isInstance
 repeat (first | with_reducible refine wpAny_loadPart_at hget ?_ | (with_reducible refine wpAny_isSubtype_exc hC₁ ?_;rw [hcC]) | wp_step)
 show wpAny _ _ (typeLookup (.ref C) _) _ _ _;refine looks_findIn X₁ hi _ _ _ _ (λ_ _ e=>e) ?_;refine wpAny_holding (wpAny_bind (bind_fn X₁ _ hf _ _ _ _ (λ_ _ e=>e) ?_));refine wpAny_bind (wpAny_mono (hq _ (λb o hb=>Heap.get?_push_of_some _ (Heap.get?_push_of_some _ hb)) hget) (λr s' hr => ?_) λ_ _ x=>x);obtain ⟨rfl,hQ⟩:=hr
 wp_walk
 exact hQ
theorem tV (F:ExcBaseFacts B newId initId bmB)(X:K.In h)(hB:bm.contains (.type B)=true)(hA:bm.contains (.type "AttributeError")=false)(hN:bm.contains (.type "NameError")=false){rest:List Value}{fI:Addr}{Q:Value->Shared->Prop}
  (hC:h.get? C=some (excClassObj nm q C N bs bm hdct sn sub ab col dd k0 k1 k2 k3 k5 newId)) (hi:findIn K (.ref C) "__init__" = some (some (.ref fI))) (hf:typeIn K (.ref fI)=some (.type "function"))
  (hq:∀ h',(∀ b o,h.get? b=some o->h'.get? b=some o)->h'.get? (h.objs.size + 1)=some { cls:=.ref C,data:=.fields #[.ref h.objs.size,.none,.none,.none,.bool false,.none] } -> wpAny (model prog w) (A.under (.builtin "type.__call__" ⟨.ref C :: rest,[]⟩)) (call (.ref fI) (.ref (h.objs.size + 1) :: rest)) (λr s'=>r=.none/\Q (.ref (h.objs.size + 1)) s') E ⟨h',g,d,t,os⟩) (hrest:rest.length<=sizeLine) :
  wpAny (model prog w) A (call (.ref C) rest) Q E ⟨h,g,d,t,os⟩:=by
 have f1:=tc_lookup;have f2:=tc_bind (.ref C);have hT:(⟨h,g,d,t,os⟩:Shared).TypeIs (.ref C) "type" := ⟨_,hC,rfl⟩
 refine wpAny_call (codeAny_of_tree ?_);show wpAny _ _ (callAny (.ref C) _) _ _ _
 repeat (any_goals (first | assumption | with_reducible refine wpAny_loadPart_at hC ?_ | wp_step))
 refine ⟨rfl,?_⟩;refine codeAny_call_builtin_at (Code.quiet_builtin _ (by decide +kernel)) entry_typeCall (wpAny_check_type_call_sub hC (cS F X hB hA hN hC hi hf (λh' k he => ?_) hrest));exact hq h' k he
end
end L2
namespace L2
open PySem PySem.Spec PyProof.Rows PySem.W
structure tW (K:Frag) (C fI:Addr):Prop where
 obj:∃ nm q N bs bm sn sub ab col dd k0 k1 k2 k3 k5,K.lookup C=some (excClassObj nm q C N bs bm true sn sub ab col dd k0 k1 k2 k3 k5 "ValueError.__new__")/\bm.contains (.type "ValueError")=true/\bm.contains (.type "AttributeError")=false/\bm.contains (.type "NameError")=false /\
  bm.contains (.type "BaseException")=true/\bm.contains (.type "object")=true/\∀ self,refuseLoop self "__setattr__" bm=pure ()
 init:findIn K (.ref C) "__init__" = some (some (.ref fI))
 fn:typeIn K (.ref fI)=some (.type "function")
 sa:findIn K (.ref C) "__setattr__" = some (some (.builtin "object.__setattr__"))
 ta:takerIn K C "at" = some none
 keep:keepIn K (.ref C)=true
def m6 (e C t:Addr)(h:Heap):Prop:=h.get? e=some { cls:=.ref C,data:=.fields #[.ref t,.none,.none,.none,.bool false,.none] }
def qS (e C t d:Addr)(h:Heap):Prop:=h.get? e=some { cls:=.ref C,dict:=some d,data:=.fields #[.ref t,.none,.none,.none,.bool false,.none] }
section
variable {X:Cx}{pins:List (Addr×Obj)}{σ:St}{H:Hp}{s:Shared}{A:Around}{E:Value->Shared->Prop}
theorem VD {e C t fI:Addr}{v:V}{u:Value}{Q:Unit->Shared->Prop}(I:zj X pins σ H s)(hx:H e=some (.ext (m6 e C t)))(XC:tW X.K C fI)(rv:RelV v u)
  (h:∀ s' d,H d=none->d≠e->zj X pins σ (zN (zN H e (.ext (qS e C t d))) d (.xd [("at",v)])) s'->Q () s'):wpAny (model X.prog X.w) A (setAttr (.ref e) "at" u) Q E s:=by
 obtain ⟨nm,q,N,bs,bm,sn,sub,ab,col,dd,k0,k1,k2,k3,k5,lk,b1,b2,b3,b4,b5,b6⟩:=XC.obj;obtain ⟨he,_⟩:=I.hok _ _ hx;have he:s.heap.get? e=some { cls:=.ref C,data:=.fields #[.ref t,.none,.none,.none,.bool false,.none] }:=he;have hc:clsIn X.K C=some { name:=nm,bases:=bs,mro:=.ref C :: bm,ns:=N,qualname:=q,hasDict:=true,slotNames:=sn,subclasses:=sub,abstract:=ab,collection:=col,hasDel:=false }:=by unfold clsIn;rw [lk]
 refine eN I.kIn he rfl rfl rfl hc rfl XC.sa (by rw [refuseLoop_ref];exact b6 _) (by show (Value.ref C :: bm).contains _=true;rw [List.contains_cons,b5,Bool.or_true]) XC.ta λh' tk g1 g2 kp => ?_;have hn:H s.heap.objs.size=none:=I.hok.fresh (Nat.le_refl _);have ne:s.heap.objs.size≠e:=Nat.ne_of_gt (Heap.lt_size he);have lt:∀ b o,s.heap.get? b=some o->b≠s.heap.objs.size:=λb o q=>Nat.ne_of_lt (Heap.lt_size q);have up:∀ b o,H b=some o->b≠e->zN (zN H e (.ext (qS e C t s.heap.objs.size))) s.heap.objs.size (.xd [("at",v)]) b=some o:=λb o q hb=>by rw [z8 (zD q hn),z8 hb];exact q
 have te:∀ b o,H b=some o->(∀ φ,o≠.ext φ)->b≠e:=λb o q z w=>by rw [w,hx] at q;cases q;exact z _ rfl
 refine h _ s.heap.objs.size hn ne (I.un (t':=tk) ⟨λb o q n _ _=>kp b o (λz=>by rw [z,hx] at n;cases n) q,λb o q n _ _=>⟨o.slots,kp b o (λz=>by rw [z,hx] at n;cases n) q⟩,λb o q n _ => ?_,λb o q _ => ?_,λb xs q=>up b _ q (te b _ q λ_ z=>by cases z),λb o u q=>up b _ q (te b _ q λ_ z=>by cases z),λb ps q=>⟨#[],by rw [Array.append_empty];exact up b _ q (te b _ q λ_ z=>by cases z)⟩⟩ λa o q => ?_)
 ·rw [z8 (lt b o q),z8 (λz=>by rw [z,hx] at n;cases n)];exact n
 ·by_cases hb:b=e
  ·subst hb;exact ⟨_,g1⟩
  ·exact ⟨o,kp b o hb q⟩
 ·by_cases ha:a=s.heap.objs.size
  ·subst ha
   rw [zi] at q;cases q;refine ⟨_,g2,λf => ?_⟩
   by_cases hf:f = "at"
   ·subst hf;rw [List.lookup_cons_self,if_pos rfl];exact rv
   ·have:(f == ("at" : Str))=false:=beq_eq_false_iff_ne.mpr hf
    rw [if_neg hf,List.lookup_cons,this];exact True.intro
  ·rw [z8 ha] at q
   by_cases hae:a=e
   ·subst hae
    rw [zi] at q;cases q;exact ⟨g1,⟨_,g1⟩,λh1 h2 z k=>k _ z⟩
   ·rw [z8 hae] at q
    refine (I.hok a o q).stay (λb u hb r=>kp b u ?_ r) (λb r=>up b _ r (te b _ r λ_ z=>by cases z)) λb xs r=>up b _ r (te b _ r λ_ z=>by cases z)
    rcases hb with rfl | hb
    ·exact hae
    ·exact te b _ hb λ_ z=>by cases z
end
section
variable {M:Model}{A:Around}{E:Value->Shared->Prop}{s:Shared}{env:Env}
variable {nm q:Str}{C N:Addr}{bs bm:List Value}{hdct:Bool}{sn:List Str}{sub:List Value}{ab:Bool}{col:Option Bool}{dd:Option Addr}{k0 k1 k2 k3 k5:Option Value}{newId:String}
theorem gi {x:Sem Value}{Q:Flow->Shared->Prop}(hbase:bm.contains (.type "BaseException")=true)(hh:A.handled=none)
  (h:wpAny M A x (λv s₁=>∃ e t d,v=.ref e/\s₁.heap.get? C=some (excClassObj nm q C N bs bm hdct sn sub ab col dd k0 k1 k2 k3 k5 newId) /\
   s₁.heap.get? e=some { cls:=.ref C,dict:=some d,data:=.fields #[.ref t,.none,.none,.none,.bool false,.none] } /\ E (.ref e) s₁) E s) :
  wpAny M A (raiseStmt env (some x) none) Q E s:=by
 have hcB:(Value.ref C :: bm).contains (.type "BaseException")=true:=by rw [List.contains_cons,hbase,Bool.or_true]
 unfold raiseStmt;refine wpAny_bind (wpAny_mono h (λv s₁ h₁ => ?_) λ_ _ x=>x);obtain ⟨e,t,d,rfl,hC,he,hE⟩:=h₁;obtain ⟨hp,g,d,tk,os⟩:=s₁
 repeat (first | with_reducible refine wpAny_loadPart_at he ?_ | with_reducible refine wpAny_loadPart_at hC ?_ | (with_reducible refine wpAny_isSubtype_exc hC ?_;rw [hcB]) | wp_step)
 exact wpAny_raiseNew_none hh hE
theorem VE {x:Expr}{pos:Pos}{Q:Flow->Shared->Prop}(hbase:bm.contains (.type "BaseException")=true)(hh:A.handled=none)
  (h:wpAny M A (eval x env) (λv s₁=>∃ e t d,v=.ref e/\s₁.heap.get? C=some (excClassObj nm q C N bs bm hdct sn sub ab col dd k0 k1 k2 k3 k5 newId) /\
   s₁.heap.get? e=some { cls:=.ref C,dict:=some d,data:=.fields #[.ref t,.none,.none,.none,.bool false,.none] } /\ E (.ref e) s₁) E s) :
  wpAny M A (exec (.Raise (some x) none pos) env) Q E s:=by
 rw [arm_exec_Raise]
 first
  | exact wpAny_bind (wpAny_standAt (gi hbase hh (wpAny_bind (wpAny_mono h (λv s₁ h₁=>wpAny_bind (wpAny_standAt (wpAny_pure h₁))) λ_ _ x=>x))))
  | (simp only [evalOpt,Option.map];exact wpAny_bind (wpAny_standAt (gi hbase hh (wpAny_bind (wpAny_mono h (λv s₁ h₁=>wpAny_bind (wpAny_standAt (wpAny_pure h₁))) λ_ _ x=>x)))))
  | (show wpAny M A (do standAt pos;raiseStmt env (some (do let v <- eval x env;standAt pos;pure v)) none) Q E s;exact wpAny_bind (wpAny_standAt (gi hbase hh (wpAny_bind (wpAny_mono h (λv s₁ h₁=>wpAny_bind (wpAny_standAt (wpAny_pure h₁))) λ_ _ x=>x)))))
end
def VF (K:Frag)(fI:Addr):Sp:=λvs H Q _=>∃ e C t v,vs=[.ref e,v]/\H e=some (.ext (m6 e C t))/\tW K C fI/\∀ d,H d=none->d≠e->Q .non (zN (zN H e (.ext (qS e C t d))) d (.xd [("at",v)]))
def UN (K:Frag)(fI:Addr):TS:=λD σ H=>∃ e C t v,σ[0]? = some (some (.ref e))/\σ[1]? = some (some v)/\H e=some (.ext (m6 e C t))/\tW K C fI/\∀ d,H d=none->d≠e->D.nx σ (zN (zN H e (.ext (qS e C t d))) d (.xd [("at",v)]))
theorem QF {X:Cx}{x y:Str}{p1 p2 p3 pos:Pos}{fI:Addr}(hx:PE X (.Name x p1) (xD 0))(hy:PE X (.Name y p2) (xD 1))(hs:swapsWith (.Name y p2) (some (.Attribute (.Name x p1) "at" p3)) pos.line X.env=pure false) :
  PS X (.Assign [.Attribute (.Name x p1) "at" p3] (.Name y p2) pos) (UN X.K fI):=by
 intro pins s σ H D I h;obtain ⟨e,C,t,v,h0,h1,hx',XC,q⟩:=h;refine plainObj_wpAny_Assign_Attribute (jg (hy pins s σ H (λw H1=>w=v/\H1=H) I ⟨v,h1,rfl,rfl⟩) λu s1 ⟨y',H1,I1,ry,e1,e2⟩=>jg (hx pins s1 σ H1 (λw H2=>w=.ref e/\H2=H1) I1 ⟨_,h0,rfl,rfl⟩) λov s2 ⟨x',H2,I2,rx,e3,e4⟩ => ?_) hs;subst e1 e2 e3 e4;obtain rfl:ov=Value.ref e:=rx;exact VD I2 hx' XC ry λs' d n ne I3=>⟨σ,_,I3,q d n ne⟩
section
variable {P:Program}{w:World}{K:Frag}{mg:Str->Option Value}{base:Heap}{CX:tN}
theorem YA {qual:Str}{st:Stmt}{f:Addr}{fd:FuncData}{x y:Str}{p1 p2 p3 pos:Pos}(F:cr K "__init__" qual st f fd)(S:za [x,y] [x,y] (z6 st))(hbd:j8 st=[.Assign [.Attribute (.Name x p1) "at" p3] (.Name y p2) pos])
  (hd1:(x == ("__debug__" : Str))=false) (hd2:(y == ("__debug__" : Str))=false) (hc1:(x == ("__classdict__" : Str))=false) (hc2:(y == ("__classdict__" : Str))=false) (v1:cy (z6 st) x) (v2:cy (z6 st) y):xR P w K mg base CX 1 f fd [x,y] (VF K f):=by
 obtain ⟨oc,od,kV,doc,pm,an,cdv,ct,osl,rfl,lk,hcd⟩:=F.ex;refine eB lk hcd S (λvs H Q E ⟨e,C,t,v,h,_⟩=>by rw [h];rfl) λA outer s H vs Q E hr hsp => ?_;obtain ⟨e,C,t,v,rfl,hx,XC,q⟩:=hsp;rw [hbd];refine ⟨_,kc (QF (fI:=f) (vG rfl v1 hd1 hc1) (vG rfl v2 hd2 hc2) rfl),e,C,t,v,rfl,rfl,hx,XC,q⟩
end
def uE (X:Cx)(ev:Value)(pins:List (Addr×Obj))(σ:St)(H:Hp)(s:Shared):Prop:=zj X pins σ H s/\FlyN (X.pn ++ pins) X.s₀.heap.objs.size H ev s.heap
def VG (X:Cx)(C:Addr)(t:TA):TS:=λ_ σ H=>t σ H λvs H1=>∃ v,vs=[v]/\∀ e d,H1 e=none->H1 d=none->d≠e->∀ pins s',uE X (.ref e) pins σ (zN (zN H1 e (.xob C d)) d (.xd [("at",v)])) s'->X.xe (.ref e) s'
theorem Zb {X:Cx}{CX:tN}{C fI:Addr}{fd:FuncData}{k:Nat}{x a b:Str}{p pos pos2:Pos}{arg:Expr}{t:TA}(XC:tW X.K C fI)(F:xR X.prog X.w X.K X.mg X.base CX k fI fd [a,b] (VF X.K fI))(hr:jV (k + 1) X.A)(hg:Gl X x)(hm:X.mg x=some (.ref C))(hb:kJ X.K fd [a,b] [])
  (hx:∀ outer H s e s',¬ CX outer H s (λ_ _ _=>False) e s') (ha:PA X [arg] t) (hdb:(x == ("__debug__" : Str))=false:=by decide) (he:starEach [arg] X.env=[(false,eval arg X.env)]:=by rfl):PS X (.Raise (some (.Call (.Name x p) [arg] [] pos)) none pos2) (VG X C t):=by
 intro pins s σ H D I h;obtain ⟨nm,q,N,bs,bm,sn,sub,ab,col,dd,k0,k1,k2,k3,k5,lk,b1,b2,b3,b4,b5,b6⟩:=XC.obj;refine VE (C:=C) (nm:=nm) (q:=q) (N:=N) (bs:=bs) (bm:=bm) (hdct:=true) (sn:=sn) (sub:=sub) (ab:=ab) (col:=col) (dd:=dd) (k0:=k0) (k1:=k1) (k2:=k2) (k3:=k3) (k5:=k5) (newId := "ValueError.__new__") b4 hr.hd ?_;refine wpAny_Call_Name_kw (gF I hg hm ?_ hdb);refine callWith_K (h₀:=X.base) I.ok.mod.kin XC.keep (jg (ha pos pins s σ H _ I h) λus s1 ⟨vs,H1,I1,r,v,ev,q⟩=>⟨I1.kIn,?_⟩) (by rw [he];rfl) rfl;subst ev;obtain ⟨u,rfl,ru⟩:=gH r;obtain ⟨h1,g1,d1,t1,os1⟩:=s1;refine tV PySem.F.excBase_ValueError (K:=X.K) I1.kIn b1 b2 b3 (I1.kIn C _ lk) XC.init XC.fn (λh' kp hge => ?_) (by show 1<=sizeLine;decide);have I2:zj X pins σ (zN H1 (h1.objs.size + 1) (.ext (m6 (h1.objs.size + 1) C h1.objs.size))) ⟨h',g1,d1,t1,os1⟩:=I1.laid (t':=t1) (a:=h1.objs.size + 1) kp (Nat.le_succ _) ⟨hge,⟨_,hge⟩,λ_ _ z k=>k _ z⟩;have n1:H1 (h1.objs.size + 1)=none:=I1.hok.fresh (Nat.le_succ _)
 refine wpAny_call (codeAny_mono (F.run _ X.stack _ _ ⟨[.ref (h1.objs.size + 1),u],[]⟩ [.ref (h1.objs.size + 1),u] [.ref (h1.objs.size + 1),v] (λv' H3=>v'=.non/\∃ d,zN H1 (h1.objs.size + 1) (.ext (m6 (h1.objs.size + 1) C h1.objs.size)) d=none/\d≠h1.objs.size + 1/\H3=zN (zN (zN H1 (h1.objs.size + 1) (.ext (m6 (h1.objs.size + 1) C h1.objs.size))) (h1.objs.size + 1) (.ext (qS (h1.objs.size + 1) C h1.objs.size d))) d (.xd [("at",v)])) (λ_ _ _=>False) (hr.make C [u] []) (I2.env0.make C [u] []) (hb _ [.ref (h1.objs.size + 1),u] I2.kIn rfl) (.cons rfl (.cons ru .nil))
  ⟨h1.objs.size + 1,C,h1.objs.size,v,rfl,zi,XC,λd n ne=>⟨rfl,d,n,ne,rfl⟩⟩) λr s' hq' => ?_)
 cases r with
 | error e=>exact (hx _ _ _ _ _ hq').elim
 | ok fl =>
  cases fl with
  | next=>exact False.elim hq'
  | brk=>exact False.elim hq'
  | cont=>exact False.elim hq'
  | ret u' =>
   obtain ⟨v',H3,I3,rv,ev,d,nd,ne,rfl⟩:=I2.after hq';subst ev;refine ⟨rv,?_⟩;have nd1:H1 d=none:=by rw [z8 ne] at nd;exact nd
   have o3:=(I3.hok (h1.objs.size + 1) (.ext (qS (h1.objs.size + 1) C h1.objs.size d)) (by rw [z8 ne.symm,zi])).1;refine ⟨_,_,d,rfl,I3.kIn C _ lk,o3,q (h1.objs.size + 1) d n1 nd1 ne pins s' ⟨?_,_,_,_,rfl,Nat.le_trans I1.sz (Nat.le_succ _),o3,rfl,by show 1 < 6;decide,.inl rfl⟩⟩
   have te:∀ b o,zN (zN (zN H1 (h1.objs.size + 1) (.ext (m6 (h1.objs.size + 1) C h1.objs.size))) (h1.objs.size + 1) (.ext (qS (h1.objs.size + 1) C h1.objs.size d))) d (.xd [("at",v)]) b=some o->b≠h1.objs.size + 1->zN (zN H1 (h1.objs.size + 1) (.xob C d)) d (.xd [("at",v)]) b=some o:=λb o z hb=>by
    by_cases hd:b=d
    ·subst hd;rw [zi] at z ⊢;exact z
    ·rw [z8 hd,z8 hb,z8 hb] at z;rw [z8 hd,z8 hb];exact z
   have tn:∀ b,zN (zN (zN H1 (h1.objs.size + 1) (.ext (m6 (h1.objs.size + 1) C h1.objs.size))) (h1.objs.size + 1) (.ext (qS (h1.objs.size + 1) C h1.objs.size d))) d (.xd [("at",v)]) b=none->zN (zN H1 (h1.objs.size + 1) (.xob C d)) d (.xd [("at",v)]) b=none:=λb z=>by
    by_cases hd:b=d
    ·subst hd;rw [zi] at z;cases z
    ·by_cases hb:b=h1.objs.size + 1
     ·subst hb;rw [z8 hd,zi] at z;cases z
     ·rw [z8 hd,z8 hb,z8 hb] at z;rw [z8 hd,z8 hb];exact z
   have nx:∀ b o,zN (zN (zN H1 (h1.objs.size + 1) (.ext (m6 (h1.objs.size + 1) C h1.objs.size))) (h1.objs.size + 1) (.ext (qS (h1.objs.size + 1) C h1.objs.size d))) d (.xd [("at",v)]) b=some o->(∀ φ,o≠.ext φ)->b≠h1.objs.size + 1:=λb o z w hb=>by subst hb;rw [z8 ne.symm,zi] at z;cases z;exact w _ rfl
   have J:=I3.un (t':=s'.toks) (h':=s'.heap) (H':=zN (zN H1 (h1.objs.size + 1) (.xob C d)) d (.xd [("at",v)])) ⟨λb o z _ _ _=>z,λb o z _ _ _=>⟨o.slots,z⟩,λb o _ n _=>tn b n,λb o z _=>⟨o,z⟩,λb xs z=>te b _ z (nx b _ z λ_ w=>by cases w),λb o u z=>te b _ z (nx b _ z λ_ w=>by cases w),λb ps z=>⟨#[],by rw [Array.append_empty];exact te b _ z (nx b _ z λ_ w=>by cases w)⟩⟩ λa o z=>by
    by_cases ha:a=h1.objs.size + 1
    ·subst ha
     rw [z8 ne.symm,zi] at z;cases z;exact ⟨_,_,o3,rfl,rfl,rfl,by show 1 < 6;decide⟩
    ·have z':zN (zN (zN H1 (h1.objs.size + 1) (.ext (m6 (h1.objs.size + 1) C h1.objs.size))) (h1.objs.size + 1) (.ext (qS (h1.objs.size + 1) C h1.objs.size d))) d (.xd [("at",v)]) a=some o:=by
      by_cases hd:a=d
      ·subst hd;rw [zi] at z ⊢;exact z
      ·rw [z8 hd,z8 ha] at z;rw [z8 hd,z8 ha,z8 ha];exact z
     exact (I3.hok a o z').stay (λb u _ w=>w) (λb w=>te b _ w (nx b _ w λ_ w=>by cases w)) λb xs w=>te b _ w (nx b _ w λ_ w=>by cases w)
   exact J
theorem uF {X:Cx}{σ:St}{H:Hp}{s:Shared}{e:Addr}{A:Around}{Q:Unit->Shared->Prop}{E:Value->Shared->Prop}{pins:List (Addr×Obj)}(I:zj X pins σ H s)
  (fly:FlyN (X.pn ++ pins) X.s₀.heap.objs.size H (.ref e) s.heap) (h:∀ h',zj X pins σ H { s with heap:=h' } -> Q () { s with heap:=h' }):wpAny (model X.prog X.w) A (setFlight (.ref e) none) Q E s:=by
 obtain ⟨e',oe,vs,ee,hne,he,hd,hsz,hT⟩:=fly;cases ee;unfold setFlight
 rcases hT with h1 | ⟨T,oT,ts,z,n,ne,np,h1,q,dt,t3⟩
 ·refine wpAny_bind (wpAny_field he hd h1 ?_)
  rw [if_neg (by decide)];exact wpAny_pure (h s.heap I)
 ·refine wpAny_bind (wpAny_field he hd h1 ?_)
  rw [if_pos (show (Value.ref T != Value.none)=true from by simp)];refine wpAny_setField q dt (Array.getElem?_eq_some_iff.mp t3).1 (h _ ?_);have other:∀ b,b≠T->(s.heap.update T (Obj.mapFields (·.setIfInBounds 3 ((none:Option Addr).elim Value.none λf=>rawInt f)))).get? b=s.heap.get? b:=λb hb=>Heap.get?_update_other _ _ (Ne.symm hb);refine I.call (g':=s.gens) (d':=s.drawn) (t':=s.toks) (ch:=[T]) ⟨λb o w _ _ hc=>(other b λz=>hc (by simp [z])).trans w,λb o w _ _ hc=>⟨o.slots,(other b λz=>hc (by simp [z])).trans w⟩,λb o _ n _=>n,λb o w hc=>⟨o,(other b λz=>hc (by simp [z])).trans w⟩,λb xs w=>w,λb o u w=>w,λb ps w=>⟨#[],by rw [Array.append_empty];exact w⟩⟩ (λa o w=>(I.hok a o w).stay (λb u hb r=>(other b λz => ?_).trans r) (λ_ r=>r) λ_ _ r=>r) I.bare λb hb => ?_
  ·rcases hb with rfl | hb
   ·rw [z,n] at w;cases w
   ·rw [z,n] at hb;cases hb
  ·obtain rfl:=List.mem_singleton.mp hb
   refine ⟨.inr z,?_,λx c ec zz => ?_,np⟩
   ·rintro rfl
    obtain ⟨m,⟨o,es,ep,ho,dd,_⟩,_⟩:=I.loc;rw [q] at ho;cases ho;rw [dt] at dd;cases dd
   ·subst zz
    obtain ⟨v,o,ho,dd⟩:=I.cell x c ec;rw [q] at ho;cases ho;rw [dt] at dd;cases dd
def Cx.hdl (X:Cx)(ev:Value):Cx:={ X with A:=X.A.mark (some ev),calm:=false,xe:=λ_ _=>False }
def Cx.wx (X:Cx)(ps:List (Addr×Obj))(E:Value->Shared->Prop):Cx:={ X with pn:=X.pn ++ ps,xe:=E }
theorem zj.hdl {X:Cx}{pins:List (Addr×Obj)}{σ:St}{H:Hp}{s:Shared}(ev:Value)(I:zj X pins σ H s):zj (X.hdl ev) pins σ H s:={ I with ok:={ I.ok with hd:=λz=>(by cases z),frames:=I.ok.frames } }
theorem zj.ofHdl {X:Cx}{pins:List (Addr×Obj)}{σ:St}{H:Hp}{s:Shared}{ev:Value}(hd:X.calm=true->X.A.handled=none)(I:zj (X.hdl ev) pins σ H s):zj X pins σ H s:={ I with ok:={ I.ok with hd:=hd,frames:=I.ok.frames } }
theorem zj.wx {X:Cx}{ps:List (Addr×Obj)}{σ:St}{H:Hp}{s:Shared}{E:Value->Shared->Prop}(I:zj X ps σ H s):zj (X.wx ps E) [] σ H s:={ I with ok:={ I.ok with },pin:=λp hp=>I.pin p (by simpa [Cx.wx] using hp) }
theorem zj.ofWx {X:Cx}{ps pins:List (Addr×Obj)}{σ:St}{H:Hp}{s:Shared}{E:Value->Shared->Prop}(I:zj (X.wx ps E) pins σ H s):zj X ps σ H s:={ I with ok:={ I.ok with },pin:=λp hp=>I.pin p (List.mem_append_left _ hp) }
theorem tX {X:Cx}{pins:List (Addr×Obj)}{σ:St}{H:Hp}{s:Shared}{M:Model}{A:Around}{E:Value->Shared->Prop}{i:Nat}{x:Str}{v:V}{Q:Unit->Shared->Prop}(I:zj X pins σ H s)(hN:X.N.Nodup)(hi:X.N[i]? = some x)(hk:X.env.scope.names.lookup x=some .local)(hv:σ[i]? = some (some v))
  (h:∀ s',zj X pins (σ.set i none) H s'->Q () s'):wpAny M A (unbindName X.env x) Q E s:=by
 obtain ⟨m,hn,hl⟩:=id I.loc;have hcls:(X.env.scope.kind == .class || (X.env.scope.kind == .module && X.env.locals != X.env.globals))=false:=by rw [I.ok.kind];rfl
 have cne:=I.cne;obtain ⟨u,r,lk⟩:=hl i x v hi hv (.inl hk)
 have hmx:m x=some u:=by
  rcases lk with ⟨_,e⟩ | ⟨k,_⟩
  ·exact e
  ·have k:X.env.scope.names.lookup x=some .cell\/X.env.scope.names.lookup x=some .free:=k
   rw [hk] at k;rcases k with k | k<;>cases k
 obtain ⟨oL,_,_,hoL,_⟩:=id hn;refine wpAny_unbindName_local hk hn hmx hcls λh' u' hn' hs=>h _ ⟨I.ok,I.os,I.bare,⟨λb o e n hb hx => ?_,λb o e n hb hx => ?_,I.base.free,λb o e hx => ?_,I.base.tups,I.base.frzs,I.base.tbls⟩,⟨_,hn',λj y v' e1 e2 e3 => ?_⟩,λy c e => ?_,I.free,I.freeC,λp hp => ?_,λb ob e => ?_,by simpa using I.len⟩
 ·exact (hs.2 b (Nat.ne_of_lt (Nat.lt_of_lt_of_le (Heap.lt_size e) I.ok.above))).trans (I.base.keep b o e n hb hx)
 ·obtain ⟨sl,e1⟩:=I.base.slot b o e n hb hx
  exact ⟨sl,(hs.2 b (Nat.ne_of_lt (Nat.lt_of_lt_of_le (Heap.lt_size e) I.ok.above))).trans e1⟩
 ·obtain ⟨o',e1⟩:=I.base.there b o e hx
  exact ⟨o',(hs.2 b (Nat.ne_of_lt (Nat.lt_of_lt_of_le (Heap.lt_size e) I.ok.above))).trans e1⟩
 ·have hj:j≠i:=λz=>by
   subst z;have hiσ:j < σ.length:=(List.getElem?_eq_some_iff.mp hv).1;rw [List.getElem?_set_self hiσ] at e2;cases e2
  rw [List.getElem?_set_ne (Ne.symm hj)] at e2;obtain ⟨u',r',q⟩:=hl j y v' e1 e2 e3;refine ⟨u',r',?_⟩
  rcases q with ⟨k,e⟩ | ⟨k,c,e,z⟩
  ·refine .inl ⟨k,?_⟩
   have:y≠x:=λe=>hj (uv hN e1 (e ▸ hi));simp [this,e]
  ·exact .inr ⟨k,c,e,z.sameBut hs (cne y c e)⟩
 ·obtain ⟨w',z⟩:=I.cell y c e
  exact ⟨w',z.sameBut hs (cne y c e)⟩
 ·obtain ⟨e,n,ne,nf,d⟩:=I.pin p hp
  exact ⟨(hs.2 p.1 ne).trans e,n,ne,nf,d⟩
 ·refine (I.hok b ob e).stay (λc w' hc q=>(hs.2 c ?_).trans q) (λ_ q=>q) λ_ _ q=>q
  rintro rfl
  rcases hc with rfl | hc
  ·rw [I.free] at e;cases e
  ·rw [I.free] at hc;cases hc
def YB (nm:Option Nat)(σ:St):St:=match nm with
 | none=>σ
 | some i=>σ.set i none
def gf.beh (D:gf)(nm:Option Nat):gf:=⟨λσ H=>D.nx (YB nm σ) H,D.rt,λσ H=>D.bk (YB nm σ) H,λσ H=>D.ct (YB nm σ) H⟩
def We (nm:Option Nat)(v:V)(σ:St):St:=match nm with
 | none=>σ
 | some i=>σ.set i (some v)
def VH (X:Cx):Option Str->Option Nat->Prop
 | none,none=>True
 | some n,some i=>X.N.Nodup/\X.N[i]? = some n/\X.env.scope.names.lookup n=some .local
 | _,_=>False
theorem qH {X:Cx}{pins:List (Addr×Obj)}{σ:St}{H:Hp}{s:Shared}{i:Nat}{n:Str}{pos:Pos}{A:Around}{Q:Unit->Shared->Prop}{E:Value->Shared->Prop}(I:zj X pins σ H s)(hn:VH X (some n) (some i))
  (h:∀ s',zj X pins (σ.set i none) H s'->Q () s'):wpAny (model X.prog X.w) A (do bindName X.env n .none;unbindBehindTheSuite X.env n pos) Q E s:=by
 obtain ⟨nd,hi,hk⟩:=hn;refine wpAny_bind ?_;unfold bindName;refine wpAny_bind (wpAny_point (wpAny_bind (qf I nd hi (.inl hk) (v:=.non) (u:=.none) rfl (λs1 I1=>wpAny_point ?_) (.inr hk))));unfold unbindBehindTheSuite;refine wpAny_onRaise ?_;have hl:i < σ.length:=by rw [I.len];exact (List.getElem?_eq_some_iff.mp hi).1
 refine wpAny_mono (tX (M:=model X.prog X.w) (A:=A) (E:=λ_ _=>False) I1 nd hi hk (List.getElem?_set_self hl) λs' I' => ?_) (λ_ _ z=>z) λ_ _ z=>z.elim;rw [List.set_set] at I';exact h s' I'
section
variable {prog:Program}{w:World}{A:Around}{s:Shared}{env:Env}{R:Result->Shared->Prop}
theorem VI {e:Value}{n:Str}{b₀:Stmt}{body:List Stmt}{pos:Pos}
  (h:wpAny (model prog w) A (setFlight e none) (λ_ s₁=>wpAny (model prog w) A (bindName env n e) (λ_ s₂=>wpAny (model prog w) A (execs (b₀ :: body) env) (λf s₃=>R (.ok f) s₃) (λ_ _=>False) s₂) (λ_ _=>False) s₁) (λ_ _=>False) s) :
  codeAny (model prog w) A (.handlers e [.ExceptHandler none (some n) (b₀ :: body) pos] env) R s:=by
 refine codeAny_of_tree ?_;show wpAny _ A (do return Fin.done (<- (handleWith e env [.ExceptHandler none (some n) (b₀ :: body) pos]).onRaise (λx=>do noteFrame x env;theTreesLotGoes x))) _ _ s;refine wpAny_bind (wpAny_noted ?_);unfold handleWith;refine wpAny_bind (wpAny_standAt (wpAny_bind (wpAny_mono h (λ_ s₁ h₁=>wpAny_bind (wpAny_mono h₁ (λ_ s₂ h₂=>wpAny_bind (wpAny_attempt (wpAny_mono h₂ (λf s₃ h₃ => ?_) λ_ _ z=>z.elim))) λ_ _ z=>z.elim)) λ_ _ z=>z.elim)));exact wpAny_pure (wpAny_pure h₃)
end
theorem SP.beh {X:Cx}{pins:List (Addr×Obj)}{D:gf}{ev:Value}(hd:X.calm=true->X.A.handled=none){f:Flow}{s:Shared}(h:SP (X.hdl ev) pins (D.beh none) f s):SP X pins D f s:=by
 cases f with
 | next=>obtain ⟨σ',H',I',q⟩:=h;exact ⟨σ',H',I'.ofHdl hd,q⟩
 | brk=>obtain ⟨σ',H',I',q⟩:=h;exact ⟨σ',H',I'.ofHdl hd,q⟩
 | cont=>obtain ⟨σ',H',I',q⟩:=h;exact ⟨σ',H',I'.ofHdl hd,q⟩
 | ret v=>obtain ⟨x,σ',H',I',r,q⟩:=h;exact ⟨x,σ',H',I'.ofHdl hd,r,q⟩
theorem tY {X:Cx}{pins:List (Addr×Obj)}{σ:St}{H:Hp}{s:Shared}{e C d C2:Addr}{fs:List (Str×V)}{D:gf}{cn:Str}{p pos:Pos}{nmS:Option Str}{nm:Option Nat}{b0:Stmt}{bs:List Stmt}{t:TS}(I:zj X pins σ H s)(hx:H e=some (.xob C d))(hdd:H d=some (.xd fs))
  (fly:FlyN (X.pn ++ pins) X.s₀.heap.objs.size H (.ref e) s.heap) (hg:Gl X cn) (hm:X.mg cn=some (.ref C2)) (hc:exmOne X.K (.ref C) (.ref C2)=some true) (hn:VH X nmS nm) (hdb:(cn == ("__debug__" : Str))=false)
  (hb:hX (X.hdl (.ref e)) (b0 :: bs) t) (h:t (D.beh nm) (We nm (.ref e) σ) H):wpAny (model X.prog X.w) X.A (handleBy (.ref e) X.env [.ExceptHandler (some (.Name cn p)) nmS (b0 :: bs) pos]) (SP X pins D) X.xe s:=by
 have IH:=I.hdl (.ref e);obtain ⟨oe,vs,he,hcl,hdi,hda,_⟩:=I.hok _ _ hx;have hod:∃ od,s.heap.get? d=some od:=by obtain ⟨_,⟨o,_,_,q,_⟩,_⟩:=I.hok _ _ hdd;exact ⟨o,q⟩
 obtain ⟨od,hod⟩:=hod;have IA:InstAt s.heap e oe C (some od):=⟨he,hcl,by unfold notCls;rw [hda],by rw [hdi];exact hod⟩
 refine wpAny_handleBy_cons (codeAny_handlers_test (gF (X:=X.hdl (.ref e)) IH hg hm ?_ hdb)) (by intro z;cases z);refine (exm_one (M:=model X.prog X.w) I.kIn IA.type hc).here ?_;show codeAny _ _ _ _ s
 match nmS,nm,hn,h with
 | none,none,_,h =>
  refine codeAny_handlers_suite (uF I fly λh' I' => ?_);exact wpAny_mono (hb pins _ σ H (D.beh none) (I'.hdl (.ref e)) h) (λf s2 q=>SP.beh I.ok.hd q) λ_ _ z=>z.elim
 | some n,some i,hn,h =>
  obtain ⟨nd,hi,hk⟩:=id hn;refine VI (uF I fly λh' I' => ?_);unfold bindName;refine wpAny_bind (wpAny_holding (wpAny_point (wpAny_bind (qf I' nd hi (.inl hk) (v:=.ref e) (u:=.ref e) rfl (λs1 I1=>wpAny_point ?_) (.inr hk)))));refine wpAny_mono (hb pins _ _ H (D.beh (some i)) (I1.hdl (.ref e)) h) (λf s2 q => ?_) λ_ _ z=>z.elim
  cases f with
  | next=>obtain ⟨σ',H',I2,q⟩:=q;exact qH (I2.ofHdl I.ok.hd) hn λs3 I3=>⟨_,H',I3,q⟩
  | brk=>obtain ⟨σ',H',I2,q⟩:=q;exact qH (I2.ofHdl I.ok.hd) hn λs3 I3=>⟨_,H',I3,q⟩
  | cont=>obtain ⟨σ',H',I2,q⟩:=q;exact qH (I2.ofHdl I.ok.hd) hn λs3 I3=>⟨_,H',I3,q⟩
  | ret v=>obtain ⟨x,σ',H',I2,r,q⟩:=q;exact qH (I2.ofHdl I.ok.hd) hn λs3 I3=>⟨x,_,H',I3,r,q⟩
def a9 (X:Cx)(pins:List (Addr×Obj))(D:gf)(hs:List ExceptHandler):Value->Shared->Prop:=λev s1=>wpAny (model X.prog X.w) X.A (noteFrame ev X.env) (λ_ s2=>wpAny (model X.prog X.w) X.A (setFlight ev none) (λ_ s3=>wpAny (model X.prog X.w) X.A (handleBy ev X.env hs) (SP X pins D) X.xe s3) X.xe s2) X.xe s1
def Py (X:Cx)(body:List Stmt)(hs:List ExceptHandler):TS:=λD σ H=>∀ pins,∃ t,hX (X.wx pins (a9 X pins D hs)) body t/\t D σ H
theorem YC {X:Cx}{body:List Stmt}{h0:ExceptHandler}{hs:List ExceptHandler}{pos:Pos} : PS X (.Try body (h0 :: hs) [] [] pos) (Py X body (h0 :: hs)):=by
 intro pins s σ H D I h;obtain ⟨t,p,h⟩:=h pins;refine wpAny_Try_except (wpAny_mono (p [] s σ H D I.wx h) (λf s1 q => ?_) λev s1 z => ?_)
 ·cases f with
  | next=>obtain ⟨σ',H',I',q⟩:=q;exact wpAny_execs_nil ⟨σ',H',I'.ofWx,q⟩
  | brk=>obtain ⟨σ',H',I',q⟩:=q;exact ⟨σ',H',I'.ofWx,q⟩
  | cont=>obtain ⟨σ',H',I',q⟩:=q;exact ⟨σ',H',I'.ofWx,q⟩
  | ret v=>obtain ⟨x,σ',H',I',r,q⟩:=q;exact ⟨x,σ',H',I'.ofWx,r,q⟩
 ·exact z
section
variable {prog:Program}{w:World}{A:Around}{E:Value->Shared->Prop}{s:Shared}{K:Frag}{x C:Addr}{ox:Obj}{od:Option Obj}{name:Str}{expr:Bool}{Q:Value->Shared->Prop}
theorem Zc:splitId "BaseException.__getattribute__" = some ("BaseException","__getattribute__"):=by decide +kernel
theorem YD:builtinKind "BaseException.__getattribute__" = some .slot:=by decide +kernel
theorem QG:(Value.builtin "BaseException.__getattribute__" == Value.builtin "object.__getattribute__")=false:=by decide +kernel
theorem mX {tk:Tok}{fill:Bool}(X:K.In s.heap)(I:InstAt s.heap x ox C od)(hga:findIn K (.ref C) "__getattribute__" = some (some (.builtin "BaseException.__getattribute__")))(hgt:findIn K (.ref C) "__getattr__" = some none)(hb:mroIn K C (.type "BaseException")=some true)
  (h:wpAny (model prog w) A.in1 (Builtin.«object.__getattribute__» ⟨[.ref x,.str name tk],[]⟩) (λfin s'=>match fin with | .done (.ret v)=>wpAny (model prog w) A (handedOut v) Q E s' | _=>False) (λ_ _=>False) s):wpAny (model prog w) A (getAttrBy (.ref x) (.str name tk) fill expr) Q E s:=by
 obtain ⟨hp,g,d,t,os⟩:=s;have L0:=I.type (M:=model prog w);have L1:=looks_findIn (M:=model prog w) X hga;have LH:Looks (model prog w) hp (hookBefore (.ref C)) none:=looks_hook X (by rw [if_pos (by rfl)];exact hgt);have LS:Looks (model prog w) hp (isInstance (.ref x) (.type "BaseException")) true:=L0.andThen (looks_mroIn X hb);have fb:=PySem.F.excAttr_ValueError.ga.bind (.ref x);unfold getAttrBy;refine wpAny_holding (wpAny_bind (L0.at (wpAny_bind (L1.at ?_))));dsimp only;rw [QG,Bool.and_false,if_neg (by decide)];unfold getAttrByItsOwn;refine wpAny_bind (LH.at (wpAny_bind (wpAny_attempt (wpAny_holding ?_))));unfold callGetattribute;rw [show (expr && onTheHeap (Value.builtin "BaseException.__getattribute__"))=false from Bool.and_false _,if_neg (by decide)];unfold boundAndCalled;rw [fb];refine wpAny_bind (wpAny_pure ?_);show wpAny _ _ (call (.builtin "BaseException.__getattribute__") [.ref x,.str name tk]) _ _ _;refine wpAny_call ?_;refine codeAny_call_builtin PySem.F.excAttr_ValueError.ga.plain PySem.F.entry_bexc_ga ?_;refine @check_slot (model prog w) _ _ ⟨hp,g,d,t,os⟩ "BaseException.__getattribute__" "BaseException" "__getattribute__" (.ref x) [.str name tk] [] _ YD Zc LS (PySem.F.args_bexc_ga (.ref x) (.str name tk)) ?_;refine wpAny_mono h (λfin s' z => ?_) λ_ _ z=>z.elim
 rcases fin with (_ | _ | _ | _) | _<;>first | exact z | exact z.elim
theorem cT {v:Value}(X:K.In s.heap)(I:InstAt s.heap x ox C od)(hga:findIn K (.ref C) "__getattribute__" = some (some (.builtin "BaseException.__getattribute__")))(hgt:findIn K (.ref C) "__getattr__" = some none)(hb:mroIn K C (.type "BaseException")=some true)
  (hf:findObj K C od name=some (.value v)) (hh:handedIn v=true) (h:Q v { s with toks:=s.toks + 1 }):wpAny (model prog w) A (getAttr (.ref x) name expr) Q E s:=by
 obtain ⟨hp,g,d,t,os⟩:=s;have L0:=I.type (M:=model prog w);have LF:=looks_find (M:=model prog w) X I hf;unfold getAttr;refine wpAny_bind (wpAny_mkText (mX X I hga hgt hb ?_));unfold Builtin.«object.__getattribute__»;refine wpAny_bind (wpAny_pure (wpAny_bind (wpAny_pure (wpAny_bind (L0.at (wpAny_bind (LF.at ?_)))))));refine wpAny_pure ?_;show wpAny _ _ (handedOut v) _ _ _;rw [handedOut_of hh];exact wpAny_pure h
theorem cU {oD:Obj}{Q:Option Value->Shared->Prop}(hdct:hasDictIn K C=true)(hga:findIn K (.ref C) "__getattribute__" = some (some (.builtin "BaseException.__getattribute__")))(hgt:findIn K (.ref C) "__getattr__" = some none)(hb:mroIn K C (.type "BaseException")=some true)
  (ha:findIn K (.ref C) "__class__" = some (some (.builtin "object.__class__"))) (hn:specialIn K (.builtin "object.__class__") "__get__" = some (some (.builtin "getset_descriptor.__get__"))) (htk:takesIn K (.builtin "object.__class__")=some true) (hm:mroIn K C (.type "object")=some true)
  (X:K.In s.heap) (I:InstAt s.heap x ox C (some oD)) (h:Q (some (.ref C)) { s with toks:=s.toks + 1 }):wpAny (model prog w) A (getAttr? (.ref x) "__class__") Q E s:=by
 obtain ⟨hp,g,d,t,os⟩:=s;have hf:findObj K C (some oD) "__class__" = some (.bind (.builtin "getset_descriptor.__get__") (.builtin "object.__class__")):=findObj_data (by obtain ⟨cd,hc,_⟩:=any_some hdct;rw [hc];rfl) ha hn htk;have LF:=looks_find (M:=model prog w) X I hf;have L0:=I.type (M:=model prog w);unfold getAttr? getAttrBy?;refine wpAny_bind (wpAny_mkText (wpAny_bind (wpAny_attempt (mX X I hga hgt hb ?_))));unfold Builtin.«object.__getattribute__»;refine wpAny_bind (wpAny_pure (wpAny_bind (wpAny_pure (wpAny_bind (L0.at (wpAny_bind (LF.at ?_)))))));show wpAny _ _ (holding [_] (call _ [_,.ref x,.ref C]) >>= ret) _ _ _;refine wpAny_bind (wpAny_holding (wpAny_call (class_get (s:=⟨hp,g,d,t + 1,os⟩) (ox:=ox) (od:=some oD) X I hm ?_)));refine wpAny_pure ?_;exact wpAny_pure (wpAny_pure h)
end
structure Wf (K:Frag) (C:Addr):Prop where
 hd:hasDictIn K C=true
 ga:findIn K (.ref C) "__getattribute__" = some (some (.builtin "BaseException.__getattribute__"))
 gt:findIn K (.ref C) "__getattr__" = some none
 bx:mroIn K C (.type "BaseException")=some true
 at_:findIn K (.ref C) "at" = some none
 cl:findIn K (.ref C) "__class__" = some (some (.builtin "object.__class__"))
 ns:specialIn K (.builtin "object.__class__") "__get__" = some (some (.builtin "getset_descriptor.__get__"))
 tk:takesIn K (.builtin "object.__class__")=some true
 ob:mroIn K C (.type "object")=some true
theorem Zd {K:Frag}{x D:Addr}{ox oD:Obj}(R:Wf K D):KitX K (.ref x) (.ref D) (λh=>InstAt h x ox D (some oD)) where
 ty:=λ_ _ _ I=>I.type
 it:=λ_ _ X _=>by
  obtain ⟨cdD,hcD,_⟩:=any_some R.hd;unfold clsIn at hcD
  split at hcD
  ·rename_i c' d' cd' sl' ho
   intro A' Q' E' s' k q;unfold isType loadHead;exact wpAny_bind (wpAny_loadPart (k _ _ (X _ _ ho)) (wpAny_pure q))
  ·cases hcD
 ne:=λh tp dd its n sl X htp=>by
  obtain ⟨cdD,hcD,_⟩:=any_some R.hd;refine Bool.eq_false_iff.mpr λq => ?_;have e:D=tp:=Value.ref.inj (beq_iff_eq.mp q);subst e;unfold clsIn at hcD
  split at hcD
  ·rename_i c' d' cd' sl' ho
   have z:=(X _ _ ho).symm.trans htp;cases z
  ·cases hcD
 ca:=λX I k=>cU R.hd R.ga R.gt R.bx R.cl R.ns R.tk R.ob X I k
section
variable {X:Cx}{pins:List (Addr×Obj)}{σ:St}{H:Hp}{s:Shared}{A:Around}{E:Value->Shared->Prop}{e C d:Addr}{fs:List (Str×V)}
theorem Ze (I:zj X pins σ H s)(hx:H e=some (.xob C d))(hdd:H d=some (.xd fs)):∃ oe od,InstAt s.heap e oe C (some od)/\∀ f v,fs.lookup f=some v->∃ u,RelV v u/\lookIn f od=some (some u):=by
 obtain ⟨oe,vs,he,hcl,hdi,hda,_⟩:=I.hok _ _ hx;obtain ⟨mA,hns,hr⟩:=I.hok _ _ hdd;obtain ⟨od,ho,hl⟩:=mJ hns;refine ⟨oe,od,⟨he,hcl,by unfold notCls;rw [hda],by rw [hdi];exact ho⟩,λf v hf => ?_⟩;obtain ⟨u,hu,ru⟩:=qe.some_of (v:=v) (o:=mA f) (by rw [<- hf];exact hr f);exact ⟨u,ru,by rw [hl,hu]⟩
def Pz (K:Frag)(ta:TE):TE:=λσ H Q=>ta σ H λx H1=>∃ e C d fs v,x=.ref e/\H1 e=some (.xob C d)/\H1 d=some (.xd fs)/\Wf K C/\fs.lookup ("at" : Str)=some v/\Q v H1
theorem VJ {ex:Expr}{pos:Pos}{ta:TE}(he:PE X ex ta)(hb:attributeBase ex "at" X.env (eval ex X.env)=eval ex X.env):PE X (.Attribute ex "at" pos) (Pz X.K ta):=by
 intro pins s σ H Q I h;refine bT hb (jg (he pins s σ H _ I h) λo s1 ⟨x,H1,I1,r,e,C,d,fs,v,ex,h1,h2,R,hl,q⟩ => ?_);subst ex;obtain rfl:o=Value.ref e:=r;obtain ⟨oe,od,IA,hlk⟩:=Ze I1 h1 h2;obtain ⟨u,ru,hu⟩:=hlk _ _ hl;exact cT I1.kIn IA R.ga R.gt R.bx (findObj_own R.hd R.at_ rfl hu) (mK ru) ⟨v,H1,I1.tok _,ru,q⟩
theorem VL {Q:Value->Shared->Prop}{c:Value}{b:Bool}(I:zj X pins σ H s)(hx:H e=some (.xob C d))(hdd:H d=some (.xd fs))(R:Wf X.K C)(k:kitOne X.K (.ref C) c=some b)(h:∀ tk,Q (.bool b) { s with toks:=tk }):wpAny (model X.prog X.w) A (call (.builtin "isinstance") [.ref e,c]) Q E s:=by
 obtain ⟨oe,od,IA,_⟩:=Ze I hx hdd;exact kia_one (Zd R) I.kIn IA k (λz=>nomatch z) h
end
end L2
namespace L2
open PySem PySem.Spec PyProof.Rows
def tZ {α:Type}(xs:List α)(lo hi:Option Int):List α:=(xs.drop (HT.sIx xs.length 0 lo)).take (HT.sIx xs.length xs.length hi - HT.sIx xs.length 0 lo)
def u4 (z:Str)(lo hi:Option Int):Str:=⟨(tZ z.cps.toList lo hi).toArray⟩
def eO (n:Nat)(d:Int):Option Int->Int
 | none=>d
 | some i=>max 0 (min (if i < 0 then i + (n:Int) else i) (n:Int))
def eP (n d:Nat)(hd:d<=n)(o:Option Int):eO n d o=((HT.sIx n d o:Nat):Int):=by
 cases o with
 | none=>rfl
 | some i =>
  simp only [eO,HT.sIx]
  split<;>omega
def pF (lo hi:Option Int)(n:Nat):Builtin.Str.strSliceIndices lo hi 1 n=(List.range (HT.sIx n n hi - HT.sIx n 0 lo)).map (λk=>HT.sIx n 0 lo + k):=by
 have e:Builtin.Str.strSliceIndices lo hi 1 n=sliceRange (eO n ((0:Nat):Int) lo) (eO n (n:Int) hi) 1:=by
  unfold Builtin.Str.strSliceIndices;cases lo<;>cases hi<;>simp [eO]
 rw [e,eP n 0 (Nat.zero_le _),eP n n (Nat.le_refl _)];unfold sliceRange;simp only [show (1:Int) > 0 by decide,if_true]
 by_cases h:((HT.sIx n 0 lo:Nat):Int) < ((HT.sIx n n hi:Nat):Int)
 ·have e3:((((HT.sIx n n hi:Nat):Int) - ((HT.sIx n 0 lo:Nat):Int) + 1 - 1) / 1).toNat=HT.sIx n n hi - HT.sIx n 0 lo:=by
   rw [Int.ediv_one];omega
  simp only [h,if_true,e3];refine List.map_congr_left λk _ => ?_;omega
 ·have e4:HT.sIx n n hi - HT.sIx n 0 lo=0:=by omega
  simp [h,e4]
def Zf (z:Str)(lo hi:Option Int):Txt.slice z lo hi=u4 z lo hi:=by
 have hn:z.cps.toList.length=z.length:=by simp [Str.length]
 have a1:=HT.sIx_le z.length 0 (Nat.zero_le _) lo;have a2:=HT.sIx_le z.length z.length (Nat.le_refl _) hi
 have pk:((Builtin.Str.strSliceIndices lo hi 1 z.length).filterMap (z.cps[·]?))=tZ z.cps.toList lo hi:=by
  rw [pF];unfold tZ;rw [hn]
  by_cases h:HT.sIx z.length 0 lo<=HT.sIx z.length z.length hi
  ·have:=StrLaws.picks z.cps.toList (HT.sIx z.length z.length hi - HT.sIx z.length 0 lo) (HT.sIx z.length 0 lo) (by rw [hn];omega)
   simpa using this
  ·have e4:HT.sIx z.length z.length hi - HT.sIx z.length 0 lo=0:=by omega
   simp [e4]
 unfold Txt.slice
 split
 ·rename_i h
  rw [Bool.and_eq_true] at h;have h2:(Builtin.Str.strSliceIndices lo hi 1 z.length).length=z.length:=by simpa using h.2
  rw [pF,List.length_map,List.length_range] at h2;have b1:HT.sIx z.length 0 lo=0\/z.length=0:=by omega
  have:tZ z.cps.toList lo hi=z.cps.toList:=by
   unfold tZ;rw [hn]
   rcases b1 with b1 | b1
   ·have b2:HT.sIx z.length z.length hi=z.length:=by omega
    rw [b1,b2,List.drop_zero];exact List.take_of_length_le (by rw [hn];omega)
   ·have:z.cps.toList=[]:=List.eq_nil_of_length_eq_zero (by rw [hn];exact b1)
    rw [this];simp
  unfold u4;rw [this]
 ·rw [pk];rfl
def PB:V->Option Int->Option Int->Hp->VK->Prop:=λx lo hi H Q=>∃ z,x=.str z/\z.length<=sizeLine/\Q (.str (u4 z lo hi)) H
def VM:Qw X PB:=by
 intro pins s σ H x v vl vu lo hi sl Q I rx hs pl pu h;obtain ⟨z,rfl,hz,q⟩:=h;obtain ⟨t,rfl⟩:=rx;refine ⟨"str",_,F.slot_str_getitem.lookup,typeIs_str _ _ _,?_⟩;have fin:∀ t' k,EP X pins σ Q (.str (Txt.slice z lo hi) t') { s with toks:=k }:=λt' k=>⟨.str (u4 z lo hi),H,I.tok _,⟨t',by rw [Zf]⟩,q⟩;have hsz:(Txt.slice z lo hi).length<=sizeLine:=Nat.le_trans (Txt.slice_le z _ _) hz
 cases pl with
 | none =>
  cases pu with
  | none=>exact wpAny_getItem_str_slice (l:=none) (u:=none) (st:=none) hs rfl (post_val_or_str ⟨hsz,fin⟩)
  | int j tj=>exact wpAny_getItem_str_slice (l:=none) (u:=some (j,tj)) (st:=none) hs rfl (post_val_or_str ⟨hsz,fin⟩)
 | int i ti =>
  cases pu with
  | none=>exact wpAny_getItem_str_slice (l:=some (i,ti)) (u:=none) (st:=none) hs rfl (post_val_or_str ⟨hsz,fin⟩)
  | int j tj=>exact wpAny_getItem_str_slice (l:=some (i,ti)) (u:=some (j,tj)) (st:=none) hs rfl (post_val_or_str ⟨hsz,fin⟩)
def GL (z:Str):It:=⟨λi _=>i < z.length,λi H x H'=>H'=H/\∃ c,z.cps[i]? = some c/\x=.str ⟨#[c]⟩,λi _=>z.length<=i⟩
def Zg {P:Program}{w:World}{K:W.Frag}{tg:Expr}(z:Str)(t:Tok)(it:Addr)(ty:String)(hty:ty = "str_ascii_iterator" \/ ty = "str_iterator"):tF P w K tg (GL z) [it] it (λi h=>h.IsStrIter it ty z t i) where
 mem:=by simp
 obj:=λi h st b hb=>by
  have e:b=it:=by simpa using hb
  subst e;obtain ⟨o,e,c,d⟩:=st;exact ⟨o,e,λv z=>by rw [d] at z;cases z⟩
 keep:=λi h h' st k=>by
  obtain ⟨o,e,r⟩:=st;exact ⟨o,k it (by simp) o e,r⟩
 item:=by
  intro X hP hw hK hc i pins s σ H E I hf st hg;subst hP hw hK;obtain ⟨f0,f1,f2,f3,f4,f5⟩:=hf it (by simp);have hg:i < z.cps.size:=hg
  have fin:∀ h',h'.IsStrIter it ty z t (i + 1)->Heap.SameBut it s.heap h'->∃ u,(some (.str ⟨#[z.cps[i]]⟩ s.toks):Option Value)=some u /\
   wpAny (model X.prog X.w) X.A (letOwnedTupleGo tg (.ref it) u) (λ_ s2=>∃ x H',zj X pins σ H' s2/\RelV x u/\(GL z).yld i H x H'/\s2.heap.IsStrIter it ty z t (i + 1)/\∀ b∈[it],H' b=none) E { s with heap:=h',toks:=s.toks + 1 }:=by
   intro h' st' sb;have I1:zj X pins σ H { s with heap:=h',toks:=s.toks + 1 }:=I.turned (λb o hb e=>(sb.2 b hb).trans e) f0 f1 f3 f4 f5;obtain ⟨o,e,c,d⟩:=id st';refine ⟨_,rfl,bS (s:={ s with heap:=h',toks:=s.toks + 1 }) e c d (by rcases hty with rfl | rfl<;>decide) ⟨.str ⟨#[z.cps[i]]⟩,H,I1,⟨_,rfl⟩,⟨rfl,z.cps[i],by simp [hg],rfl⟩,st',λb hb=>(hf b hb).1⟩⟩
  rcases hty with rfl | rfl
  ·exact wpAny_pyNext_ascii_item st (c:=z.cps[i]) (by simp [hg]) fin
  ·exact wpAny_pyNext_wide_item st (c:=z.cps[i]) (by simp [hg]) fin
 done:=by
  intro X hP hw hK hc i pins s σ H E I hf st hg;subst hP hw hK;obtain ⟨f0,f1,f2,f3,f4,f5⟩:=hf it (by simp);have hg:z.cps.size<=i:=hg
  rcases hty with rfl | rfl
  ·exact wpAny_pyNext_ascii_end (I.ok.hd hc) st (by simp [hg]) λh' eb=>⟨rfl,I.turned (t':=s.toks) (λb o hb e=>eb b o hb e) f0 f1 f3 f4 f5⟩
  ·exact wpAny_pyNext_wide_end (I.ok.hd hc) st (by simp [hg]) λh' eb=>⟨rfl,I.turned (t':=s.toks) (λb o hb e=>eb b o hb e) f0 f1 f3 f4 f5⟩
 self:=λ_ _ _ _ _ st h=>by
  rcases hty with rfl | rfl
  ·exact wpAny_pyIter_striter_ascii st h
  ·exact wpAny_pyIter_striter_wide st h
def QH (tl:TE):TI:=λσ H R=>tl σ H λx H1=>∃ z,x=.str z/\R (GL z) H1
def VN {l:Expr}{tl:TE}(hl:PE X l tl):PI X tg l (QH tl):=by
 intro pins s σ H R I h;refine jg (hl pins s σ H _ I h) λv s1 ⟨x,H1,I1,r1,q1⟩ => ?_;obtain ⟨z,e,q⟩:=q1;subst e;obtain ⟨t,rfl⟩:=r1
 have fin:∀ ty,ty = "str_ascii_iterator" \/ ty = "str_iterator" -> Pc X pins σ tg R (.ref s1.heap.objs.size) { s1 with heap:=s1.heap.push { cls:=.type ty,data:=.fields #[.str z t,.int 0 0] } }:=by
  intro ty hty;refine ⟨s1.heap.objs.size,[s1.heap.objs.size],_,_,H1,rfl,I1.kept (t':=s1.toks) λb o e=>Heap.get?_push_of_some _ e,Zg z t _ ty hty,⟨_,Heap.get?_push_size _ rfl,rfl,rfl⟩,λb hb => ?_,q⟩;have e:b=s1.heap.objs.size:=by simpa using hb
  subst e;exact I1.fpOk (Nat.le_refl _) (I1.hok.fresh (Nat.le_refl _))
 cases ha:z.cps.all (· < 128)
 ·exact wpAny_pyIter_wide ha (fin _ (.inr rfl))
 ·exact wpAny_pyIter_ascii ha (fin _ (.inl rfl))
def zH (K:W.Frag)(mg:Str->Option Value)(x:Str)(st:Stmt):Prop := ∃ f fd,cr K x x st f fd/\mg x=some (.ref f)
def Zh (hg:Gl X x)(h:∃ t,X.mg x=some (.str z t))(hd:(x == ("__debug__" : Str))=false:=by decide):PE X (.Name x pos) (tC (.str z)):=by
 obtain ⟨t,h⟩:=h;exact kb hg h ⟨t,rfl⟩ hd
def Zi (hg:Gl X x)(h:∃ t,X.mg x=some (.int z t))(hd:(x == ("__debug__" : Str))=false:=by decide):PE X (.Name x pos) (tC (.int z)):=by
 obtain ⟨t,h⟩:=h;exact kb hg h ⟨t,rfl⟩ hd
def xv:bootBuiltins "len" = some (.builtin "len"):=by decide +kernel
def zM:bootBuiltins "isinstance" = some (.builtin "isinstance"):=by decide +kernel
def o5:bootBuiltins "sorted" = some (.builtin "sorted"):=by decide +kernel
def fG:bootBuiltins "all" = some (.builtin "all"):=by decide +kernel
def lO:bootBuiltins "bool" = some (.type "bool"):=by decide +kernel
def Zj:bootBuiltins "int" = some (.type "int"):=by decide +kernel
def cV:bootBuiltins "str" = some (.type "str"):=by decide +kernel
def lP:bootBuiltins "list" = some (.type "list"):=by decide +kernel
def uG:bootBuiltins "tuple" = some (.type "tuple"):=by decide +kernel
def lQ:bootBuiltins "enumerate" = some (.type "enumerate"):=by decide +kernel
end L2
namespace Fs
def uH (cs ss:List Nat):Nat:=(cs.takeWhile λc=>decide (c∈ss)).length
def runEnd (cs:List Nat)(s:Nat)(ss:List Nat):Nat:=s + uH (cs.drop s) ss
def runEnd_go {cs ss:List Nat}{e c:Nat}(h:cs[e]? = some c)(m:c∈ss):runEnd cs (e + 1) ss=runEnd cs e ss:=by
 unfold runEnd uH;have hlt:e < cs.length:=(List.getElem?_eq_some_iff.mp h).1;have hc:cs[e]=c:=(List.getElem?_eq_some_iff.mp h).2;rw [List.drop_eq_getElem_cons hlt,hc,List.takeWhile_cons,if_pos (by simp [m]),List.length_cons];omega
def runEnd_stop {cs ss:List Nat}{e c:Nat}(h:cs[e]? = some c)(m:¬ c∈ss):runEnd cs e ss=e:=by
 unfold runEnd uH;have hlt:e < cs.length:=(List.getElem?_eq_some_iff.mp h).1;have hc:cs[e]=c:=(List.getElem?_eq_some_iff.mp h).2;rw [List.drop_eq_getElem_cons hlt,hc,List.takeWhile_cons,if_neg (by simp [m])]
 rfl
def runEnd_out {cs ss:List Nat}{e:Nat}(h:cs.length<=e):runEnd cs e ss=e:=by
 unfold runEnd uH;rw [List.drop_eq_nil_of_le h]
 rfl
def mY {cs ss:List Nat}{e:Nat}(h:e<=cs.length):e<=runEnd cs e ss/\runEnd cs e ss<=cs.length:=by
 unfold runEnd uH;have h1:=(List.takeWhile_sublist (λc=>decide (c∈ss)) (l:=cs.drop e)).length_le;rw [List.length_drop] at h1;omega
def letters:List Nat:=[97,98,99,100,101,102,103,104,105,106,107,108,109,110,111,112,113,114,115,116,117,118,119,120,121,122]
def nameEnd (cs:List Nat)(s:Nat):Nat:=if runEnd cs s letters - s<=12 then runEnd cs s letters else s
def isName (cs:List Nat):Bool := !decide (cs=[]) && decide (nameEnd cs 0=cs.length)
def figures:List Nat:=[48,49,50,51,52,53,54,55,56,57]
def runEnd_ge (cs:List Nat)(s:Nat)(ss:List Nat):s<=runEnd cs s ss:=by unfold runEnd;omega
def eQ (h:s < runEnd cs s ss):∃ c,cs[s]? = some c/\c∈ss:=by
 cases e:cs[s]? with
 | none =>
  have:=runEnd_out (ss:=ss) (List.getElem?_eq_none_iff.mp e);omega
 | some c =>
  refine ⟨c,rfl,Classical.byContradiction λm => ?_⟩;have:=runEnd_stop e m;omega
def nameEnd_ge (cs:List Nat)(s:Nat):s<=nameEnd cs s:=by
 unfold nameEnd;have:=runEnd_ge cs s letters
 split<;>omega
def nameEnd_lt (h:s < nameEnd cs s):s < cs.length/\nameEnd cs s<=cs.length:=by
 unfold nameEnd at h ⊢
 split at h
 ·rename_i h1
  rw [if_pos h1];obtain ⟨c,hc,_⟩:=eQ h;have hl:=(List.getElem?_eq_some_iff.mp hc).1;exact ⟨hl,(mY (Nat.le_of_lt hl)).2⟩
 ·omega
def Wg (cs:List Nat)(s:Nat):Option Nat:=if nameEnd cs s=s then none else some (nameEnd cs s)
def VO (cs:List Nat)(s:Nat):Option Nat:=if runEnd cs (s + 1) figures=s + 1 then none else some (runEnd cs (s + 1) figures)
def numberEnd (cs:List Nat)(s:Nat):Nat:=if s + 1 < runEnd cs (s + 1) figures then runEnd cs (s + 1) figures else s
def hZ (cs:List Nat)(e:Nat):Option Nat :=
 if h:cs[e]? = some 46 then
  if h2:e + 1 < nameEnd cs (e + 1) then hZ cs (nameEnd cs (e + 1)) else none
 else some e
 termination_by cs.length - e
 decreasing_by
  have:=(List.getElem?_eq_some_iff.mp h).1;have:=nameEnd_lt h2;omega
def pointsEnd (cs:List Nat)(e:Nat):Nat :=
 if h:cs[e]? = some 46 then
  if h2:e + 1 < nameEnd cs (e + 1) then pointsEnd cs (nameEnd cs (e + 1)) else e
 else e
 termination_by cs.length - e
 decreasing_by
  have:=(List.getElem?_eq_some_iff.mp h).1;have:=nameEnd_lt h2;omega
def lR (h:¬ cs[e]? = some 46):hZ cs e=some e:=by rw [hZ,dif_neg h]
def Zk (h:cs[e]? = some 46)(h2:e + 1 < nameEnd cs (e + 1)):hZ cs e=hZ cs (nameEnd cs (e + 1)):=by rw [hZ,dif_pos h,dif_pos h2]
def aa (h:cs[e]? = some 46)(h2:¬ e + 1 < nameEnd cs (e + 1)):hZ cs e=none:=by rw [hZ,dif_pos h,dif_neg h2]
def pe_no (h:¬ cs[e]? = some 46):pointsEnd cs e=e:=by rw [pointsEnd,dif_neg h]
def pe_go (h:cs[e]? = some 46)(h2:e + 1 < nameEnd cs (e + 1)):pointsEnd cs e=pointsEnd cs (nameEnd cs (e + 1)):=by rw [pointsEnd,dif_pos h,dif_pos h2]
def pe_bad (h:cs[e]? = some 46)(h2:¬ e + 1 < nameEnd cs (e + 1)):pointsEnd cs e=e:=by rw [pointsEnd,dif_pos h,dif_neg h2]
def cW (cs:List Nat):∀ (n e:Nat),cs.length - e<=n->(hZ cs e=some (pointsEnd cs e)/\¬ cs[pointsEnd cs e]? = some 46)\/(hZ cs e=none/\cs[pointsEnd cs e]? = some 46):=by
 intro n
 induction n with
 | zero =>
  intro e hn;have h:¬ cs[e]? = some 46:=λh=>by have:=(List.getElem?_eq_some_iff.mp h).1;omega
  rw [lR h,pe_no h];exact .inl ⟨rfl,h⟩
 | succ n ih =>
  intro e hn
  by_cases h:cs[e]? = some 46
  ·by_cases h2:e + 1 < nameEnd cs (e + 1)
   ·rw [Zk h h2,pe_go h h2]
    have:=nameEnd_lt h2;exact ih _ (by omega)
   ·rw [aa h h2,pe_bad h h2]
    exact .inr ⟨rfl,h⟩
  ·rw [lR h,pe_no h]
   exact .inl ⟨rfl,h⟩
def VP (cs:List Nat):∀ (n e k:Nat),cs.length - e<=n->hZ cs e=some k->e<=k:=by
 intro n
 induction n with
 | zero =>
  intro e k hn hk;have h:¬ cs[e]? = some 46:=λh=>by have:=(List.getElem?_eq_some_iff.mp h).1;omega
  rw [lR h] at hk;cases hk;exact Nat.le_refl _
 | succ n ih =>
  intro e k hn hk
  by_cases h:cs[e]? = some 46
  ·by_cases h2:e + 1 < nameEnd cs (e + 1)
   ·rw [Zk h h2] at hk
    have:=nameEnd_lt h2;have:=ih _ k (by omega) hk;omega
   ·rw [aa h h2] at hk
    cases hk
  ·rw [lR h] at hk
   cases hk;exact Nat.le_refl _
def eR (cs:List Nat):Option Nat->Option Nat
 | none=>none
 | some e=>hZ cs e
def base (cs:List Nat)(R:Nat->Option Nat)(at':Nat):Option Nat :=
 if cs[at']? = some 40 then
  match R (at' + 1) with
  | none=>none
  | some j=>if cs[j]? = some 38 then
    match R (j + 1) with
    | none=>none
    | some k=>if cs[k]? = some 41 then some (k + 1) else none
   else none
 else if cs[at']? = some 35 then VO cs at'
 else Wg cs at'
def uI (cs:List Nat):Nat->Nat->Option Nat
 | 0,_=>none
 | n + 1,at'=>eR cs (base cs (uI cs n) at')
def YE (h:eR cs o=some k):∃ e,o=some e/\e<=k:=by
 cases o with
 | none=>cases h
 | some e=>exact ⟨e,rfl,VP cs _ e k (Nat.le_refl _) h⟩
def ac (cs:List Nat):∀ (n at' k:Nat),uI cs n at'=some k->at' < k:=by
 intro n
 induction n with
 | zero=>intro a k h;cases h
 | succ n ih =>
  intro a k h;obtain ⟨e,he,hk⟩:=YE h;refine Nat.lt_of_lt_of_le ?_ hk;unfold base at he
  split at he
  ·cases h1:uI cs n (a + 1) with
   | none=>rw [h1] at he;cases he
   | some j =>
    rw [h1] at he;have he:(if cs[j]? = some 38 then _ else none)=some e:=he
    split at he
    ·cases h2:uI cs n (j + 1) with
     | none=>rw [h2] at he;cases he
     | some m =>
      rw [h2] at he;have he:(if cs[m]? = some 41 then some (m + 1) else none)=some e:=he;have g1:=ih _ _ h1;have g2:=ih _ _ h2
      split at he
      ·cases he;omega
      ·cases he
    ·cases he
  ·split at he
   ·unfold VO at he
    have:=runEnd_ge cs (a + 1) figures
    split at he
    ·cases he
    ·cases he;omega
   ·unfold Wg at he
    have:=nameEnd_ge cs a
    split at he
    ·cases he
    ·cases he;omega
def rg (cs:List Nat)(a:Nat):Nat:=(cs.drop a).count 40
def eS (cs:List Nat)(h:a<=b):rg cs b<=rg cs a:=by
 unfold rg;obtain ⟨d,rfl⟩:∃ d,b=a + d:=⟨b - a,by omega⟩
 rw [<- List.drop_drop];exact (List.drop_sublist _ _).count_le _
def eT (h:cs[a]? = some 40):rg cs a=rg cs (a + 1) + 1:=by
 obtain ⟨hl,hc⟩:=List.getElem?_eq_some_iff.mp h;unfold rg;rw [List.drop_eq_getElem_cons hl,hc,List.count_cons_self]
def Zl (cs:List Nat)(a:Nat):rg cs a<=cs.length:=by
 unfold rg;have:=List.count_le_length (a:=40) (l:=cs.drop a);rw [List.length_drop] at this;omega
def mZ (cs:List Nat):∀ (n m at':Nat),rg cs at' < n->rg cs at' < m->uI cs n at'=uI cs m at':=by
 intro n
 induction n with
 | zero=>intro m a h1 h2;omega
 | succ n ih =>
  intro m a h1 h2
  cases m with
  | zero=>omega
  | succ m =>
   show eR cs (base cs (uI cs n) a)=eR cs (base cs (uI cs m) a)
   congr 1
   unfold base
   split
   ·rename_i hp
    have hc:=eT hp;rw [ih m (a + 1) (by omega) (by omega)]
    cases e:uI cs m (a + 1) with
    | none=>rfl
    | some j =>
     have:=ac cs _ _ _ e;have:=eS cs (show a + 1<=j + 1 by omega);show (if cs[j]? = some 38 then _ else none)=(if cs[j]? = some 38 then _ else none)
     rw [ih m (j + 1) (by omega) (by omega)]
   ·rfl
def K (cs:List Nat)(at':Nat):Option Nat:=uI cs (cs.length + 1) at'
def QI (cs:List Nat)(a:Nat):K cs a=eR cs (base cs (K cs) a):=by
 show eR cs (base cs (uI cs cs.length) a)=_
 congr 1
 unfold base
 split
 ·rename_i hp
  have hc:=eT hp;have hl:=Zl cs a;rw [mZ cs cs.length (cs.length + 1) (a + 1) (by omega) (by omega)];show (match K cs (a + 1) with | none=>none | some j=>_)=_
  cases e:K cs (a + 1) with
  | none=>rfl
  | some j =>
   have:=ac cs _ _ _ e;have:=eS cs (show a + 1<=j + 1 by omega);show (if cs[j]? = some 38 then _ else none)=(if cs[j]? = some 38 then _ else none)
   rw [mZ cs cs.length (cs.length + 1) (j + 1) (by omega) (by omega)]
   rfl
 ·rfl
def v5 (cs:List Nat):List Nat->Nat->Bool
 | [],e=>decide (e=cs.length)
 | t :: st,e =>
  if t=38 then
   if cs[e]? = some 38 then
    match K cs (e + 1) with
    | none=>false
    | some k=>if cs[k]? = some 41 then (match hZ cs (k + 1) with | none=>false | some k'=>v5 cs st k') else false
   else false
  else if cs[e]? = some 41 then (match hZ cs (e + 1) with | none=>false | some e'=>v5 cs st e') else false
def ans (cs:List Nat)(st:List Nat)(a:Nat):Bool:=match K cs a with
 | none=>false
 | some e=>v5 cs st e
def contP (cs:List Nat)(st:List Nat)(e:Nat):Bool:=if cs[e]? = some 46 then false else v5 cs st e
def uJ (cs st:List Nat)(e:Nat):v5 cs (41 :: st) e=if cs[e]? = some 41 then (match hZ cs (e + 1) with | none=>false | some e'=>v5 cs st e') else false:=by
 rw [v5,if_neg (by decide)]
def l0 (cs st:List Nat)(e:Nat):v5 cs (38 :: st) e=if cs[e]? = some 38 then ans cs (41 :: st) (e + 1) else false:=by
 rw [v5,if_pos rfl]
 split
 ·unfold ans
  cases K cs (e + 1) with
  | none=>rfl
  | some k=>exact (uJ cs st k).symm
 ·rfl
def ans_open (h:cs[a]? = some 40):ans cs st a=ans cs (38 :: st) (a + 1):=by
 unfold ans;rw [QI cs a];unfold base;rw [if_pos h]
 cases e:K cs (a + 1) with
 | none=>rfl
 | some j =>
  show (match eR cs (if cs[j]? = some 38 then (match K cs (j + 1) with | none=>none | some k=>if cs[k]? = some 41 then some (k + 1) else none) else none) with | none=>false | some e=>v5 cs st e)=v5 cs (38 :: st) j;rw [v5,if_pos rfl]
  by_cases h3:cs[j]? = some 38
  ·rw [if_pos h3,if_pos h3]
   cases e2:K cs (j + 1) with
   | none=>rfl
   | some k =>
    show (match eR cs (if cs[k]? = some 41 then some (k + 1) else none) with | none=>false | some e=>v5 cs st e)=(if cs[k]? = some 41 then _ else false)
    by_cases h4:cs[k]? = some 41
    ·rw [if_pos h4,if_pos h4]
     rfl
    ·rw [if_neg h4,if_neg h4]
     rfl
  ·rw [if_neg h3,if_neg h3]
   rfl
def headEnd (cs:List Nat)(a:Nat):Nat:=if cs[a]? = some 35 then numberEnd cs a else nameEnd cs a
def ans_head (h:¬ cs[a]? = some 40):ans cs st a=if headEnd cs a=a then false else contP cs st (pointsEnd cs (headEnd cs a)):=by
 have hb:base cs (K cs) a=if headEnd cs a=a then none else some (headEnd cs a):=by
  unfold base headEnd;rw [if_neg h]
  split
  ·unfold VO numberEnd
   have:=runEnd_ge cs (a + 1) figures
   by_cases h1:runEnd cs (a + 1) figures=a + 1
   ·rw [if_pos h1,if_pos]
    rw [if_neg (by omega)]
   ·rw [if_neg h1,if_pos (show a + 1 < runEnd cs (a + 1) figures by omega),if_neg (by omega)]
  ·rfl
 unfold ans;rw [QI,hb]
 split
 ·rename_i h1;split at h1
  ·rename_i h2
   rw [if_pos h2]
  ·rename_i h2
   rw [if_neg h2]
   rcases cW cs _ (headEnd cs a) (Nat.le_refl _) with ⟨p1,p2⟩ | ⟨p1,p2⟩
   ·have h1:hZ cs (headEnd cs a)=none:=h1
    rw [p1] at h1;cases h1
   ·unfold contP
    rw [if_pos p2]
 ·rename_i e h1;split at h1
  ·cases h1
  ·rename_i h2
   rw [if_neg h2]
   rcases cW cs _ (headEnd cs a) (Nat.le_refl _) with ⟨p1,p2⟩ | ⟨p1,p2⟩
   ·have h1:hZ cs (headEnd cs a)=some e:=h1
    rw [p1] at h1;cases h1;unfold contP;rw [if_neg p2]
   ·have h1:hZ cs (headEnd cs a)=some e:=h1
    rw [p1] at h1;cases h1
def contP_close (h:cs[e]? = some 41):contP cs (41 :: st) e=contP cs st (pointsEnd cs (e + 1)):=by
 have h1:contP cs (41 :: st) e=v5 cs (41 :: st) e:=by
  unfold contP;rw [if_neg (by rw [h];simp)]
 rw [h1,uJ,if_pos h]
 rcases cW cs _ (e + 1) (Nat.le_refl _) with ⟨p1,p2⟩ | ⟨p1,p2⟩
 ·rw [p1]
  unfold contP;rw [if_neg p2]
 ·rw [p1]
  unfold contP;rw [if_pos p2]
def contP_nil (cs:List Nat)(e:Nat):contP cs [] e=decide (e=cs.length):=by
 unfold contP
 split
 ·rename_i h
  have:=(List.getElem?_eq_some_iff.mp h).1;exact (decide_eq_false (by omega)).symm
 ·rfl
def contP_amp (h:cs[e]? = some 38):contP cs (38 :: st) e=ans cs (41 :: st) (e + 1):=by
 unfold contP;rw [if_neg (by rw [h];simp),l0,if_pos h]
def contP_no (h:(t=41/\¬ cs[e]? = some 41)\/(t=38/\¬ cs[e]? = some 38)):contP cs (t :: st) e=false:=by
 unfold contP
 split
 ·rfl
 ·rcases h with ⟨rfl,h⟩ | ⟨rfl,h⟩
  ·rw [uJ,if_neg h]
  ·rw [l0,if_neg h]
def isKind (cs:List Nat):Bool:=decide (K cs 0=some cs.length)
def isKind_ans (cs:List Nat):isKind cs=ans cs [] 0:=by
 unfold isKind ans
 cases K cs 0 with
 | none=>simp
 | some e=>simp [v5]
def pointsEnd_ge (cs:List Nat):∀ (n e:Nat),cs.length - e<=n->e<=pointsEnd cs e/\(e<=cs.length->pointsEnd cs e<=cs.length):=by
 intro n
 induction n with
 | zero =>
  intro e hn;have h:¬ cs[e]? = some 46:=λh=>by have:=(List.getElem?_eq_some_iff.mp h).1;omega
  rw [pe_no h];exact ⟨Nat.le_refl _,λh=>h⟩
 | succ n ih =>
  intro e hn
  by_cases h:cs[e]? = some 46
  ·by_cases h2:e + 1 < nameEnd cs (e + 1)
   ·rw [pe_go h h2]
    have:=nameEnd_lt h2;have:=ih (nameEnd cs (e + 1)) (by omega);omega
   ·rw [pe_bad h h2]
    exact ⟨Nat.le_refl _,λh=>h⟩
  ·rw [pe_no h]
   exact ⟨Nat.le_refl _,λh=>h⟩
def headEnd_le (cs:List Nat)(a:Nat):a<=headEnd cs a/\(a<=cs.length->headEnd cs a<=cs.length):=by
 unfold headEnd
 split
 ·rename_i h
  have hl:=(List.getElem?_eq_some_iff.mp h).1;have g:=mY (cs:=cs) (ss:=figures) (e:=a + 1) (by omega);unfold numberEnd
  split<;>omega
 ·have g:=nameEnd_ge cs a
  refine ⟨g,λh => ?_⟩
  by_cases h2:a < nameEnd cs a
  ·exact (nameEnd_lt h2).2
  ·omega
end Fs
namespace L2
open PySem PySem.Spec PyProof.Rows
def PD (z:Str)(e:Nat):u4 z (some (e:Int)) (some ((e:Int) + 1))=⟨(z.cps.toList[e]?).toList.toArray⟩:=by
 have e1:((e:Int) + 1)=((e + 1:Nat):Int):=by omega
 unfold u4 tZ;rw [e1,HT.sIx_nat,HT.sIx_nat]
 by_cases h:e < z.cps.toList.length
 ·rw [Nat.min_eq_left (Nat.le_of_lt h),Nat.min_eq_left h,List.drop_eq_getElem_cons h,List.getElem?_eq_getElem h]
  have:e + 1 - e=1:=by omega
  rw [this]
  rfl
 ·have e2:min e z.cps.toList.length=z.cps.toList.length:=by omega
  have e3:min (e + 1) z.cps.toList.length=z.cps.toList.length:=by omega
  rw [e2,e3,Nat.sub_self,List.take_zero,List.getElem?_eq_none_iff.mpr (by omega)]
  rfl
def Zm (z:Str)(e c:Nat):V.str (u4 z (some (e:Int)) (some ((e:Int) + 1)))=V.str ⟨#[c]⟩↔z.cps.toList[e]? = some c:=by
 rw [PD]
 cases h:z.cps.toList[e]? with
 | none=>simp
 | some d=>simp
def ae {z:Str}{e c:Nat}{y:Str}(hy:y=⟨#[c]⟩):decide (V.str (u4 z (some (e:Int)) (some ((e:Int) + 1)))=V.str y)=decide (z.cps.toList[e]? = some c):=by
 subst hy;exact decide_eq_decide.mpr (Zm z e c)
def zh (X:Cx)(scope:Scope)(cl:List (Str×Addr))(C:Addr)(N:List Str)(ex:List Addr)(pn:List (Addr×Obj))(s₀:Shared)(H₀:Hp):Cx :=
 { X with env:=compEnvC scope cl C X.env,N:=N,s₀:=s₀,H₀:=H₀,outer:=X.stack,ex:=ex,fn:=λ_=>false,pn:=pn,xe:=λ_ _=>False }
structure uK (X:Cx) (scope:Scope) (cl:List (Str×Addr)) (x:Str) (caps:List Str) (slots:List Nat):Prop where
 kind:scope.kind=.function
 nocell:∀ y∈scope.names,y.2≠.cell
 names:∀ y∈scope.names,y.2=.local->scope.names.lookup y.1=some .local
 hx:scope.names.lookup x=some .local
 clos:closureFor scope X.env=pure cl
 sub:∀ y c,cl.lookup y=some c->X.env.cells.lookup y=some c
 has:∀ y,((relabel scope X.env).names.lookup y=some .cell\/(relabel scope X.env).names.lookup y=some .free)->∃ c,cl.lookup y=some c
 cap:∀ (j:Nat) (y:Str),caps[j]? = some y->∃ k:Nat,slots[j]? = some k/\X.N[k]? = some y/\(relabel scope X.env).names.lookup y=some .cell/\X.env.scope.names.lookup y=some .cell
 nd:(x :: caps).Nodup
 len:slots.length=caps.length
def v6 (σ:St)(slots:List Nat):St:=slots.map λk=>(σ[k]?).getD none
def af (wi:TI)(tt:TT)(te:TE)(slots:List Nat):TE:=λσ H Q=>wi σ H λJ H1=>∀ D,H1 D=none->∃ W:Nat->Nat->List V->Hp->Prop,(∃ m,W 0 m [] (zN H1 D (.lst []))) /\
 ∀ i m ys H,W i m ys H->H D=some (.lst ys)/\((J.stop i H/\Q (.ref D) H)\/(J.go i H/\∀ v H',J.yld i H v H'->tt (some v :: v6 σ slots) H' λb H2 =>
  if b=true then te (some v :: v6 σ slots) H2 λy H3=>H3 D=some (.lst ys)/\ys.length < sizeLine/\∃ m',m' < m/\W (i + 1) m' (ys ++ [y]) (zN H3 D (.lst (ys ++ [y]))) else ∃ m',m' < m/\W (i + 1) m' ys H2))
def o6 (X:Cx)(ifs:List Expr)(t:TT):Prop :=
 ∀ (pins:List (Addr×Obj)) (s:Shared) (σ:St) (H:Hp) (Q:Bool->Hp->Prop),zj X pins σ H s->t σ H Q ->
  wpAny (model X.prog X.w) X.A (forIn ifs true λc r=>if r=true then do let ok <- isTrue c X.env (eval c X.env);pure (ForInStep.yield ok) else pure (ForInStep.yield r)) (TP X pins σ Q) X.xe s
def QJ:TT:=λ_ H Q=>Q true H
def Zn:o6 X [] QJ:=λ_ _ _ H _ I h=>wpAny_tests_nil ⟨H,I,h⟩
def YF (h:PT X c t):o6 X [c] t:=λpins s σ H Q I hw=>wpAny_tests_one (h pins s σ H Q I hw)
def l5 (I:zj X pins σ H s)(h:af wi tt te slots σ H Q)
  (fin:∀ D C H5 s6 m,s6.heap.Ns C m->gG X pins H5 C->(∀ h',Heap.SameBut C s6.heap h'->zj X pins σ H5 { s6 with heap:=h' })->Q (.ref D) H5->compPost (model X.prog X.w) X.A X.xe use PQ (.ref D) C (.ok .next) s6)
  (hc:X.calm=true) (S:uK X scope cl x caps slots) (hi:PI X (.Name x px) iter wi)
  (ht:∀ C ex pn s₀ H₀,o6 (zh X scope cl C (x :: caps) ex pn s₀ H₀) ifs tt) (he:∀ C ex pn s₀ H₀,PE (zh X scope cl C (x :: caps) ex pn s₀ H₀) elt te)
  (hs:∀ v,foldedSetIterable iter X.env v=pure v:=by intro _;rfl) (hg:∀ it v,letOwnedTupleGo (.Name x px) it v=pure ():=by intro _ _;rfl) :
  wpAny (model X.prog X.w) X.A (comprehension (.ListComp elt [⟨.Name x px,iter,ifs,0⟩] scope pos) scope X.env cpos (newList []) false (eval iter X.env) use) PQ X.xe s:=by
 refine wpAny_comprehension_free rfl hs S.clos S.kind S.names (jg (hi pins s σ H _ I h) λv s1 h1=>jg h1 λitv s2 h2 => ?_);obtain ⟨it,fp,tn,J,H1,e,I2,T,st2,f2,q⟩:=h2;subst e
 -- the new list,at D;then the block's map,at C
 obtain ⟨W,⟨m0,w0⟩,turn⟩:=q s2.heap.objs.size (I2.hok.fresh (Nat.le_refl _));refine wpAny_newObj_type ?_ (show (0:Nat)<=sizeLine from Nat.zero_le _);have I3:zj X pins σ (zN H1 s2.heap.objs.size (.lst [])) { s2 with heap:=s2.heap.push { cls:=.type "list",data:=.seq ([]:List Value).toArray } }:=I2.lnew .nil (Nat.zero_le _)
 have f3:∀ b∈fp,gG X pins (zN H1 s2.heap.objs.size (.lst [])) b:=λb hb=>by
  obtain ⟨f0,fr⟩:=f2 b hb;obtain ⟨o,ho,_⟩:=T.obj _ _ st2 b hb;exact ⟨by rw [z8 (Nat.ne_of_lt (Heap.lt_size ho))];exact f0,fr⟩
 have st3:tn 0 (s2.heap.push { cls:=.type "list",data:=.seq ([]:List Value).toArray }):=T.keep _ _ _ st2 λb _ o e=>Heap.get?_push_of_some _ e;generalize hD:s2.heap.objs.size=D at I3 turn w0 f3 ⊢;generalize hs3:({ s2 with heap:=s2.heap.push { cls:=.type "list",data:=.seq ([]:List Value).toArray } } : Shared)=s3 at I3 ⊢;have st3:tn 0 s3.heap:=by rw [<- hs3];exact st3
 generalize hH3:zN H1 D (.lst [])=H3 at I3 w0 f3;refine wpAny_newFunctionEnv S.nocell (by intro y hy;simp at hy) (λh4 hns4 hsb4 => ?_) S.kind;generalize hC:s3.heap.objs.size=C at hns4 hsb4 ⊢;have neC:∀ b o,s3.heap.get? b=some o->b≠C:=λb o e=>by rw [<- hC];exact Nat.ne_of_lt (Heap.lt_size e)
 have old:∀ b o,s3.heap.get? b=some o->h4.get? b=some o:=λb o e=>hsb4.extBut b o (neC b o e) (Heap.get?_push_of_some _ e);have fpo:∀ b∈fp,∃ o,s3.heap.get? b=some o:=λb hb=>let ⟨o,ho,_⟩:=T.obj _ _ st3 b hb;⟨o,ho⟩
 have nst:∀ b∈fp,b∉ue X.stack:=λb hb z=>(List.mem_cons.mp (I3.stkSub b z)).elim (f3 b hb).2.1 (f3 b hb).2.2.1;have lx:(relabel scope X.env).names.lookup x=some .local:=lookup_relabel_local S.hx
 have ok:(zh X scope cl C (x :: caps) fp (X.pn ++ pins) s3 H3).Ok :=
  {
   mod:=I3.ok.mod
   kind:=S.kind
   glob:=I3.ok.glob
   blt:=I3.ok.blt
   above:=by rw [<- hC];exact Nat.le_refl _
   inj:=λy z c h1 h2=>I3.ok.inj y z c (S.sub y c h1) (S.sub z c h2)
   has:=λy hy=>S.has y hy
   cab:=λy c h=>nomatch (show false=true from h)
   hd:=I3.ok.hd
   frames:=I3.ok.frames
   stk:=.inl rfl
   exf:=λb hb=>⟨let ⟨o,ho⟩:=fpo b hb;neC b o ho,λy c e=>(f3 b hb).2.2.2.2.1 y c (S.sub y c e)⟩
   bs:=λb o e=>I3.bs b o e
   bsz:=Nat.le_trans I3.ok.bsz I3.sz
   noex:=λb o e hb=>by
    rcases (f3 b hb).2.2.2.1 with z | z
    ·exact I3.ok.noex b o e z
    ·exact absurd (Nat.lt_of_lt_of_le (Heap.lt_size (I3.ok.bs b o e).1) z) (Nat.lt_irrefl _)
   exfs:=nst
   funs:=I3.stack
   frf:=I3.stkFree
   tab:=I3.tab }
 have I4:∀ tk,zj (zh X scope cl C (x :: caps) fp (X.pn ++ pins) s3 H3) [] (none :: v6 σ slots) H3 { s3 with heap:=h4,toks:=tk }:=λtk=>by
  refine ⟨ok,rfl,I3.bare,Un.kept old,⟨_,hns4,λi y v h1 h2 h3 => ?_⟩,λy c e => ?_,by show H3 C=none;rw [<- hC];exact I3.hok.fresh (Nat.le_refl _),λy c e=>I3.freeC y c (S.sub y c e),λp hp => ?_,I3.hok.kept old,?_⟩
  ·cases i with
   | zero=>cases h2
   | succ i =>
    have h1:caps[i]? = some y:=h1;have h2:(v6 σ slots)[i]? = some (some v):=h2;obtain ⟨k,hk,hN,hr,hcl⟩:=S.cap i y h1;have h2:(slots.map λk=>(σ[k]?).getD none)[i]? = some (some v):=h2;rw [List.getElem?_map,hk] at h2;have h2:(σ[k]?).getD none=some v:=Option.some.inj h2
    have h2:σ[k]? = some (some v):=by
     cases e:σ[k]? with
     | none=>rw [e] at h2;cases h2
     | some o=>rw [e] at h2;have:o=some v:=h2;rw [this]
    obtain ⟨m,hn,hl⟩:=I3.loc;obtain ⟨u,r,l⟩:=hl k y v hN h2 (.inr (.inl hcl));refine ⟨u,r,.inr ⟨.inl hr,?_⟩⟩
    rcases l with ⟨z,_⟩ | ⟨_,c,e1,⟨o,ho,hd⟩⟩
    ·have z:X.env.scope.names.lookup y=some .local:=z
     rw [hcl] at z;cases z
    ·obtain ⟨c',e2⟩:=S.has y (.inl hr)
     have e3:=S.sub y c' e2;rw [e1] at e3;cases e3;exact ⟨c,e2,o,old _ _ ho,hd⟩
  ·obtain ⟨v,o,ho,hd⟩:=I3.cell y c (S.sub y c e)
   exact ⟨v,o,old _ _ ho,hd⟩
  ·have hp:p∈(X.pn ++ pins) ++ []:=hp
   have hp:p∈X.pn ++ pins:=by simpa using hp
   obtain ⟨e,n,ne,nf,d⟩:=I3.pin p hp;exact ⟨old _ _ e,n,neC _ _ e,λz=>(List.mem_cons.mp (I3.stkSub _ z)).elim ne nf,d⟩
  ·show (none :: v6 σ slots).length=(x :: caps).length
   unfold v6;rw [List.length_cons,List.length_cons,List.length_map,S.len]
 have stat:∀ {H':Hp},(∀ b∈fp,H' b=none)->∀ b∈fp,gG (zh X scope cl C (x :: caps) fp (X.pn ++ pins) s3 H3) [] H' b:=λhn b hb =>
  ⟨hn b hb,(ok.exf b hb).1,nst b hb,.inl hb,(ok.exf b hb).2,λp hp=>(f3 b hb).2.2.2.2.2 p (by have hp:p∈(X.pn ++ pins) ++ []:=hp;simpa using hp)⟩
 have loop:∀ tk,codeAny (model X.prog X.w) X.A (.compLoop (.ListComp elt [⟨.Name x px,iter,ifs,0⟩] scope pos) 0 (.ref it) (.ref D) (compEnvC scope cl C X.env)) (compPost (model X.prog X.w) X.A X.xe use PQ (.ref D) C) { s3 with heap:=h4,toks:=tk }:=by
  intro tk
  refine codeAny_compLoop_tests (λn s'=>∃ i ys o H',zj (zh X scope cl C (x :: caps) fp (X.pn ++ pins) s3 H3) [] (o :: v6 σ slots) H' s'/\tn i s'.heap/\(∀ b∈fp,H' b=none)/\W i n ys H') ?_ m0
   ⟨0,[],none,H3,I4 tk,T.keep _ _ _ st3 λb _ o e=>old b o e,λb hb=>(f3 b hb).1,w0⟩ (hg _)
  rintro n s5 ⟨i,ys,o,H5,I5,st5,fr5,w5⟩;obtain ⟨hDl,stop | ⟨go,step⟩⟩:=turn i n ys H5 w5
  ·obtain ⟨stop,qD⟩:=stop
   refine wpAny_mono (T.done (zh X scope cl C (x :: caps) fp (X.pn ++ pins) s3 H3) rfl rfl rfl hc i [] s5 _ H5 (λ_ _=>False) I5 (stat fr5) st5 stop) (λr s6 hr6 => ?_) λ_ _ z=>z.elim;obtain ⟨hr,I6⟩:=hr6;subst hr;obtain ⟨m,hn,_⟩:=I6.loc;refine fin D C H5 s6 m hn (I3.fpOk (by rw [<- hC];exact Nat.le_refl _) I6.free) (λh' hsb => ?_) qD
   have neC':∀ c v,H5 c=some v->c≠C:=λc v e z=>by
    have:=I6.free;have:H5 C=none:=this;rw [z,this] at e;cases e
   refine I3.call' I6.os ?_ ?_ I6.bare λb hb=>⟨(f3 b hb).2.2.2.1,(f3 b hb).2.1,(f3 b hb).2.2.2.2.1,(f3 b hb).2.2.2.2.2⟩
   ·have u:=I6.base
    exact ⟨λb o e n hb hx=>hsb.extBut b o (neC b o e) (u.keep b o e n hb hx),λb o e n hb hx=>let ⟨sl,q⟩:=u.slot b o e n hb hx;⟨sl,hsb.extBut b _ (neC b o e) q⟩,u.free,λb o e hx=>let ⟨o',q⟩:=u.there b o e hx;⟨o',hsb.extBut b _ (neC b o e) q⟩,u.tups,u.frzs,u.tbls⟩
   ·exact λb u e=>(I6.hok b u e).stay (λc v hc q=>hsb.extBut c v (hc.elim (λz=>by rw [z];exact neC' b u e) λz=>neC' c _ z) q) (λ_ q=>q) λ_ _ q=>q
  ·refine wpAny_mono (T.item (zh X scope cl C (x :: caps) fp (X.pn ++ pins) s3 H3) rfl rfl rfl hc i [] s5 _ H5 (λ_ _=>False) I5 (stat fr5) st5 go) (λr s6 hr6 => ?_) λ_ _ z=>z.elim
   obtain ⟨u,hr,h6⟩:=hr6;subst hr;show wpAny (model X.prog X.w) X.A (assign (.Name x px) (compEnvC scope cl C X.env) u) _ _ s6;have e6:assign (.Name x px) (compEnvC scope cl C X.env) u=(letOwnedTupleGo (.Name x px) (.ref it) u >>= λ_=>assign (.Name x px) (compEnvC scope cl C X.env) u):=by rw [hg];rfl
   rw [e6];refine wpAny_bind (wpAny_mono h6 (λ_ s7 h7 => ?_) λ_ _ z=>z.elim);obtain ⟨v,H7,I7,r7,y7,st7,fr7⟩:=h7;have I7':=I7.pinned (stat fr7) (T.obj _ _ st7);have pg:PG (zh X scope cl C (x :: caps) fp (X.pn ++ pins) s3 H3) (.Name x px) (wd 0):=ke S.nd rfl (.inl lx) (.inr lx);refine wpAny_mono (pg _ s7 _ H7 v u (λσ8 H8=>σ8=some v :: v6 σ slots/\H8=H7) I7' r7 ⟨rfl,rfl⟩) (λ_ s8 h8 => ?_) λ_ _ z=>z.elim;obtain ⟨σ8,H8,I8,e8,e9⟩:=h8;rw [e8,e9] at I8;refine wpAny_mono (ht C fp (X.pn ++ pins) s3 H3 _ s8 _ _ _ I8 (step v H7 y7)) (λb s9 h9 => ?_) λ_ _ z=>z.elim;obtain ⟨H9,I9,q9⟩:=h9
   have again:∀ {o':Option V} {H':Hp} {s':Shared} {zs:List V} {m':Nat},zj (zh X scope cl C (x :: caps) fp (X.pn ++ pins) s3 H3) ([] ++ fB fp s7.heap) (o' :: v6 σ slots) H' s'->m' < n->W (i + 1) m' zs H' ->
     ∃ m,m < n/\∃ i ys o H',zj (zh X scope cl C (x :: caps) fp (X.pn ++ pins) s3 H3) [] (o :: v6 σ slots) H' s'/\tn i s'.heap/\(∀ b∈fp,H' b=none)/\W i m ys H':=λ{o' H' s' zs m'} I' hm w'=>by
    refine ⟨m',hm,i + 1,zs,o',H',I'.unpinned,T.keep _ _ _ st7 λb hb o e=>(I'.pin (b,o) (List.mem_append_right _ (List.mem_append_right _ (jZ hb e)))).1,λb hb => ?_,w'⟩;obtain ⟨o,e,d⟩:=T.obj _ _ st7 b hb;exact (I'.pin (b,o) (List.mem_append_right _ (List.mem_append_right _ (jZ hb e)))).2.1
   cases b with
   | false =>
    rw [if_neg Bool.false_ne_true] at q9 ⊢;obtain ⟨m',hm,w'⟩:=q9;exact again I9 hm w'
   | true =>
    rw [if_pos rfl] at q9 ⊢;refine wpAny_mono (he C fp (X.pn ++ pins) s3 H3 _ s9 _ _ _ I9 q9) (λyv s10 h10 => ?_) λ_ _ z=>z.elim;obtain ⟨y,H10,I10,ry,hDy,hlt,m',hm,w'⟩:=h10;refine wpAny_mono (wW (X:=zh X scope cl C (x :: caps) fp (X.pn ++ pins) s3 H3) _ s10 _ H10 (.ref D) [y] (.ref D) [yv] (λ_ H'=>H'=zN H10 D (.lst (ys ++ [y]))) I10 rfl (.cons ry .nil) ⟨D,ys,y,rfl,rfl,hDy,hlt,rfl⟩) (λ_ s11 h11 => ?_) λ_ _ z=>z.elim;obtain ⟨_,H11,I11,_,e11⟩:=h11;subst e11;exact again I11 hm w'
 exact codeAny_compStart_list (loop _) (T.self X.A 0 _ _ _ (T.keep _ _ _ st3 λb _ o e=>old b o e) (loop _))
def YG (hc:X.calm=true)(S:uK X scope cl x caps slots)(hi:PI X (.Name x px) iter wi)
  (ht:∀ C ex pn s₀ H₀,o6 (zh X scope cl C (x :: caps) ex pn s₀ H₀) ifs tt) (he:∀ C ex pn s₀ H₀,PE (zh X scope cl C (x :: caps) ex pn s₀ H₀) elt te)
  (hs:∀ v,foldedSetIterable iter X.env v=pure v:=by intro _;rfl) (hg:∀ it v,letOwnedTupleGo (.Name x px) it v=pure ():=by intro _ _;rfl) :
  PE X (.ListComp elt [⟨.Name x px,iter,ifs,0⟩] scope pos) (af wi tt te slots):=by
 intro pins s σ H Q I h;rw [eval_ListComp];exact l5 I h (λD C H5 s6 m hn f keep q=>⟨m,hn,λh' hsb=>⟨.ref D,H5,keep h' hsb,rfl,q⟩⟩) hc S hi ht he hs hg
end L2
namespace L3
open PySem PySem.Spec PyProof.Rows L2
abbrev Mp:=Heap->Prop
abbrev Mo:=Addr->Mp
inductive T where
 | non | bl (b:Bool) | int (i:Int) | str (x:Str) | ty (n:String)
 | tup (ts:List T) | lst (ts:List T) | dct (ks:List Key) (ts:List T) | obj (C:Addr) (fs:List Str) (ts:List T) | mem (m:Addr) (o:Mp) | lam | exn (C:Addr) (t:T)
def QK (K:W.Frag)(H:Hp)(a:Addr)(vs:List V):Prop :=
 (∃ o,H a=some (.frz o (.lst vs))) \/
  ∃ (o:Obj) (its:Array Value) (n:Nat),K.lookup a=some o/\o.cls=.type "list" /\ o.dict=none/\o.data=.seq its n/\its.size<=sizeLine/\zF vs its.toList
def rh (K:W.Frag)(F:Addr->Prop)(H:Hp)(a:Addr)(vs:List V):Prop:=(F a/\H a=some (.lst vs))\/QK K H a vs
def rh.sq {K:W.Frag}{F:Addr->Prop}{H:Hp}{a:Addr}{vs:List V}(h:rh K F H a vs):fw K H a vs:=by
 rcases h with ⟨_,h⟩ | h | h
 ·exact .inl (.inl h)
 ·exact .inl (.inr h)
 ·exact .inr h
mutual
def Is (K:W.Frag)(F:Addr->Prop)(H:Hp):T->V->Prop
 | .non,v=>v=.non
 | .bl b,v=>v=.bl b
 | .int i,v=>v=.int i
 | .str x,v=>v=.str x
 | .ty n,v=>v=.ty n
 | .tup ts,v=>∃ a vs,v=.ref a/\fx K H a vs/\IsAll K F H ts vs
 | .lst ts,v=>∃ a vs,v=.ref a/\rh K F H a vs/\IsAll K F H ts vs
 | .dct ks ts,v=>∃ a kvs,v=.ref a/\F a/\Rd H a (.dK kvs)/\kvs.map (·.1)=ks/\IsAll K F H ts (kvs.map (·.2))
 | .obj C fs ts,v=>∃ a dx fvs,v=.ref a/\F a/\H a=some (.ins C dx fvs)/\fvs.map (·.1)=fs/\IsAll K F H ts (fvs.map (·.2))
 | .mem m o,v=>v=.ref m/\H m=some (.ext o)
 | .lam,v=>∃ a,v=.ref a/\H a=some (.own tabP)
 | .exn C t,v=>∃ e d w,v=.ref e/\H e=some (.xob C d)/\H d=some (.xd [("at",w)])/\Is K F H t w
def IsAll (K:W.Frag)(F:Addr->Prop)(H:Hp):List T->List V->Prop
 | [],vs=>vs=[]
 | t :: ts,vs=>∃ v r,vs=v :: r/\Is K F H t v/\IsAll K F H ts r
end
section
variable {K:W.Frag}{F F':Addr->Prop}{H H':Hp}
theorem eU (h:fx K H a vs)(s:∀ b o,H b=some o->(∀ xs,o≠.lst xs)->((∀ xs,o≠.dK xs)/\∀ C d xs,o≠.ins C d xs)->H' b=some o):fx K H' a vs:=by
 rcases h with (h | ⟨o,h⟩) | h
 ·exact .inl (.inl (s _ _ h (by intro xs z;cases z) ⟨(by intro xs z;cases z),by intro _ _ xs z;cases z⟩))
 ·exact .inl (.inr ⟨o,s _ _ h (by intro xs z;cases z) ⟨(by intro xs z;cases z),by intro _ _ xs z;cases z⟩⟩)
 ·exact .inr h
structure kg (F F':Addr->Prop) (H H':Hp):Prop where
 sub:∀ a,F a->F' a
 fz:∀ a o,F a->H a=some o->H' a=some o
 rest:∀ a o,H a=some o->(∀ xs,o≠.lst xs)->((∀ xs,o≠.dK xs)/\∀ C d xs,o≠.ins C d xs)->H' a=some o
theorem rh.mono (k:kg F F' H H')(h:rh K F H a vs):rh K F' H' a vs:=by
 rcases h with ⟨f,h⟩ | ⟨o,h⟩ | h
 ·exact .inl ⟨k.sub _ f,k.fz _ _ f h⟩
 ·exact .inr (.inl ⟨o,k.rest _ _ h (by intro xs z;cases z) ⟨(by intro xs z;cases z),by intro _ _ xs z;cases z⟩⟩)
 ·exact .inr (.inr h)
mutual
theorem Is.mono (k:kg F F' H H'):∀ {t:T} {v:V},Is K F H t v->Is K F' H' t v
 | .non,v,h=>by unfold Is at h ⊢;exact h
 | .bl b,v,h=>by unfold Is at h ⊢;exact h
 | .int i,v,h=>by unfold Is at h ⊢;exact h
 | .str x,v,h=>by unfold Is at h ⊢;exact h
 | .ty n,v,h=>by unfold Is at h ⊢;exact h
 | .tup ts,v,h=>by
  unfold Is at h ⊢;obtain ⟨a,vs,e,h,r⟩:=h;exact ⟨a,vs,e,eU h k.rest,IsAll.mono k r⟩
 | .lst ts,v,h=>by
  unfold Is at h ⊢;obtain ⟨a,vs,e,h,r⟩:=h;exact ⟨a,vs,e,h.mono k,IsAll.mono k r⟩
 | .dct ks ts,v,h=>by
  unfold Is at h ⊢;obtain ⟨a,kvs,e,f,h,d,r⟩:=h;exact ⟨a,kvs,e,k.sub _ f,h.elim (λh=>.inl (k.fz _ _ f h)) λ⟨o,h⟩=>.inr ⟨o,k.fz _ _ f h⟩,d,IsAll.mono k r⟩
 | .obj C fs ts,v,h=>by
  unfold Is at h ⊢;obtain ⟨a,dx,kvs,e,f,h,d,r⟩:=h;exact ⟨a,dx,kvs,e,k.sub _ f,k.fz _ _ f h,d,IsAll.mono k r⟩
 | .mem m o,v,h=>by
  unfold Is at h ⊢;exact ⟨h.1,k.rest _ _ h.2 (by intro xs z;cases z) ⟨(by intro xs z;cases z),by intro _ _ xs z;cases z⟩⟩
 | .lam,v,h=>by
  unfold Is at h ⊢;exact h.imp λa h=>⟨h.1,k.rest _ _ h.2 (by intro xs z;cases z) ⟨(by intro xs z;cases z),by intro _ _ xs z;cases z⟩⟩
 | .exn C t,v,h=>by
  unfold Is at h ⊢;obtain ⟨e,d,w,ev,h1,h2,h3⟩:=h;exact ⟨e,d,w,ev,k.rest _ _ h1 (by intro xs z;cases z) ⟨(by intro xs z;cases z),by intro _ _ xs z;cases z⟩,k.rest _ _ h2 (by intro xs z;cases z) ⟨(by intro xs z;cases z),by intro _ _ xs z;cases z⟩,Is.mono k h3⟩
theorem IsAll.mono (k:kg F F' H H'):∀ {ts:List T} {vs:List V},IsAll K F H ts vs->IsAll K F' H' ts vs
 | [],vs,h=>by unfold IsAll at h ⊢;exact h
 | t :: ts,vs,h=>by
  unfold IsAll at h ⊢;obtain ⟨v,r,e,h1,h2⟩:=h;exact ⟨v,r,e,Is.mono k h1,IsAll.mono k h2⟩
end
end
mutual
def ef:T->Bool
 | .lst _=>false
 | .tup ts=>noLs ts
 | .dct _ ts=>noLs ts
 | .obj _ _ ts=>noLs ts
 | .exn _ t=>ef t
 | _=>true
def noLs:List T->Bool
 | []=>true
 | t :: ts=>ef t && noLs ts
end
mutual
def eV:T->Bool
 | .dct _ _=>false
 | .tup ts=>noDs ts
 | .lst ts=>noDs ts
 | .obj _ _ ts=>noDs ts
 | .exn _ t=>eV t
 | _=>true
def noDs:List T->Bool
 | []=>true
 | t :: ts=>eV t && noDs ts
end
mutual
def eW:T->Bool
 | .obj _ _ _=>false
 | .tup ts=>noOs ts
 | .lst ts=>noOs ts
 | .dct _ ts=>noOs ts
 | .exn _ t=>eW t
 | _=>true
def noOs:List T->Bool
 | []=>true
 | t :: ts=>eW t && noOs ts
end
section
variable {K:W.Frag}{F F':Addr->Prop}{H:Hp}
structure lS (F F':Addr->Prop) (H:Hp) (l d o:Bool):Prop where
 lst:∀ a xs,F a->H a=some (.lst xs)->l=false->F' a
 dct:∀ a xs,F a->H a=some (.dK xs)->d=false->F' a
 ins:∀ a C dx xs,F a->H a=some (.ins C dx xs)->o=false->F' a
 frz:∀ a ob u,F a->H a=some (.frz ob u)->F' a
mutual
theorem Is.clean (c:lS F F' H l d o):∀ {t:T} {v:V},(l=true->ef t=true)->(d=true->eV t=true)->(o=true->eW t=true)->Is K F H t v->Is K F' H t v
 | .non,v,_,_,_,h=>by unfold Is at h ⊢;exact h
 | .bl b,v,_,_,_,h=>by unfold Is at h ⊢;exact h
 | .int i,v,_,_,_,h=>by unfold Is at h ⊢;exact h
 | .str x,v,_,_,_,h=>by unfold Is at h ⊢;exact h
 | .ty n,v,_,_,_,h=>by unfold Is at h ⊢;exact h
 | .mem m o,v,_,_,_,h=>by unfold Is at h ⊢;exact h
 | .lam,v,_,_,_,h=>by unfold Is at h ⊢;exact h
 | .exn C t,v,hl,hd,ho,h=>by
  unfold Is at h ⊢;obtain ⟨e,d,w,ev,h1,h2,h3⟩:=h;exact ⟨e,d,w,ev,h1,h2,Is.clean c (λz=>by simpa [ef] using hl z) (λz=>by simpa [eV] using hd z) (λz=>by simpa [eW] using ho z) h3⟩
 | .tup ts,v,hl,hd,ho,h=>by
  unfold Is at h ⊢;obtain ⟨a,vs,e,h,r⟩:=h;exact ⟨a,vs,e,h,IsAll.clean c (λz=>by simpa [ef] using hl z) (λz=>by simpa [eV] using hd z) (λz=>by simpa [eW] using ho z) r⟩
 | .lst ts,v,hl,hd,ho,h=>by
  unfold Is at h ⊢;obtain ⟨a,vs,e,h,r⟩:=h
  have hl0:l=false:=by
   cases l with
   | false=>rfl
   | true=>simp [ef] at hl
  refine ⟨a,vs,e,?_,IsAll.clean c (λz=>by rw [hl0] at z;cases z) (λz=>by simpa [eV] using hd z) (λz=>by simpa [eW] using ho z) r⟩
  rcases h with ⟨f,h⟩ | h
  ·exact .inl ⟨c.lst a vs f h hl0,h⟩
  ·exact .inr h
 | .dct ks ts,v,hl,hd,ho,h=>by
  unfold Is at h ⊢;obtain ⟨a,kvs,e,f,h,q,r⟩:=h
  have hd0:d=false:=by
   cases d with
   | false=>rfl
   | true=>simp [eV] at hd
  exact ⟨a,kvs,e,h.elim (λh=>c.dct a kvs f h hd0) (λ⟨_,h⟩=>c.frz a _ _ f h),h,q,IsAll.clean c (λz=>by simpa [ef] using hl z) (λz=>by rw [hd0] at z;cases z) (λz=>by simpa [eW] using ho z) r⟩
 | .obj C fs ts,v,hl,hd,ho,h=>by
  unfold Is at h ⊢;obtain ⟨a,dx,kvs,e,f,h,q,r⟩:=h
  have ho0:o=false:=by
   cases o with
   | false=>rfl
   | true=>simp [eW] at ho
  exact ⟨a,dx,kvs,e,c.ins a _ _ _ f h ho0,h,q,IsAll.clean c (λz=>by simpa [ef] using hl z) (λz=>by simpa [eV] using hd z) (λz=>by rw [ho0] at z;cases z) r⟩
theorem IsAll.clean (c:lS F F' H l d o):∀ {ts:List T} {vs:List V},(l=true->noLs ts=true)->(d=true->noDs ts=true)->(o=true->noOs ts=true)->IsAll K F H ts vs->IsAll K F' H ts vs
 | [],vs,_,_,_,h=>by unfold IsAll at h ⊢;exact h
 | t :: ts,vs,hl,hd,ho,h=>by
  unfold IsAll at h ⊢;obtain ⟨v,r,e,h1,h2⟩:=h;have hl':l=true->ef t=true/\noLs ts=true:=λz=>by simpa [noLs] using hl z
  have hd':d=true->eV t=true/\noDs ts=true:=λz=>by simpa [noDs] using hd z
  have ho':o=true->eW t=true/\noOs ts=true:=λz=>by simpa [noOs] using ho z
  exact ⟨v,r,e,Is.clean c (λz=>(hl' z).1) (λz=>(hd' z).1) (λz=>(ho' z).1) h1,IsAll.clean c (λz=>(hl' z).2) (λz=>(hd' z).2) (λz=>(ho' z).2) h2⟩
end
end
section
variable {K:W.Frag}{F:Addr->Prop}{H:Hp}
theorem IsAll.len:∀ {ts:List T} {vs:List V},IsAll K F H ts vs->ts.length=vs.length
 | [],vs,h=>by unfold IsAll at h;rw [h];rfl
 | t :: ts,vs,h=>by
  unfold IsAll at h;obtain ⟨v,r,e,h1,h2⟩:=h;rw [e,List.length_cons,List.length_cons,IsAll.len h2]
theorem IsAll.get:∀ {ts:List T} {vs:List V} {i:Nat} {t:T},IsAll K F H ts vs->ts[i]? = some t->∃ v,vs[i]? = some v/\Is K F H t v
 | [],vs,i,t,h,e=>by simp at e
 | u :: ts,vs,i,t,h,e=>by
  unfold IsAll at h;obtain ⟨v,r,e',h1,h2⟩:=h;subst e'
  cases i with
  | zero=>simp at e;subst e;exact ⟨v,by simp,h1⟩
  | succ i =>
   obtain ⟨w,hw,q⟩:=IsAll.get h2 (by simpa using e);exact ⟨w,by simpa using hw,q⟩
theorem IsAll.nil:IsAll K F H [] []:=by unfold IsAll;rfl
theorem IsAll.cons (h:Is K F H t v)(r:IsAll K F H ts vs):IsAll K F H (t :: ts) (v :: vs):=by unfold IsAll;exact ⟨v,vs,rfl,h,r⟩
theorem IsAll.append:∀ {ts us:List T} {vs ws:List V},IsAll K F H ts vs->IsAll K F H us ws->IsAll K F H (ts ++ us) (vs ++ ws)
 | [],us,vs,ws,h,g=>by unfold IsAll at h;subst h;exact g
 | t :: ts,us,vs,ws,h,g=>by
  unfold IsAll at h;obtain ⟨v,r,e,h1,h2⟩:=h;subst e;exact IsAll.cons h1 (IsAll.append h2 g)
theorem IsAll.take:∀ {ts:List T} {vs:List V} (n:Nat),IsAll K F H ts vs->IsAll K F H (ts.take n) (vs.take n)
 | ts,vs,0,h=>by simpa using IsAll.nil
 | [],vs,n + 1,h=>by unfold IsAll at h;subst h;simpa using IsAll.nil
 | t :: ts,vs,n + 1,h=>by
  unfold IsAll at h;obtain ⟨v,r,e,h1,h2⟩:=h;subst e;exact IsAll.cons h1 (IsAll.take n h2)
theorem IsAll.drop:∀ {ts:List T} {vs:List V} (n:Nat),IsAll K F H ts vs->IsAll K F H (ts.drop n) (vs.drop n)
 | ts,vs,0,h=>by simpa using h
 | [],vs,n + 1,h=>by unfold IsAll at h;subst h;simpa using IsAll.nil
 | t :: ts,vs,n + 1,h=>by
  unfold IsAll at h;obtain ⟨v,r,e,h1,h2⟩:=h;subst e;exact IsAll.drop n h2
theorem IsAll.set:∀ {ts:List T} {vs:List V} {t:T} {v:V} (n:Nat),IsAll K F H ts vs->Is K F H t v->IsAll K F H (ts.set n t) (vs.set n v)
 | [],vs,_,_,n,h,_=>by unfold IsAll at h;subst h;simpa using IsAll.nil
 | t :: ts,vs,_,_,0,h,g=>by
  unfold IsAll at h;obtain ⟨v,r,e,h1,h2⟩:=h;subst e;exact IsAll.cons g h2
 | t :: ts,vs,_,_,n + 1,h,g=>by
  unfold IsAll at h;obtain ⟨v,r,e,h1,h2⟩:=h;subst e;exact IsAll.cons h1 (IsAll.set n h2 g)
end
abbrev St:=L2.St
structure Ex where
 C:Addr
 at_:T
inductive vX (α:Type) where
 | ok (a:α) | exc (x:Ex) | bad
def vX.bind {α β:Type}(r:vX α)(f:α->vX β):vX β:=match r with
 | .ok a=>f a
 | .exc x=>.exc x
 | .bad=>.bad
@[simp] theorem bind_ok {α β:Type} (a:α) (f:α->vX β):(vX.ok a).bind f=f a:=rfl
@[simp] theorem bind_exc {α β:Type} (x:Ex) (f:α->vX β):(vX.exc x:vX α).bind f=.exc x:=rfl
@[simp] theorem bind_bad {α β:Type} (f:α->vX β):(vX.bad:vX α).bind f=.bad:=rfl
def rl {α:Type} : Option α->vX α
 | some a=>.ok a
 | none=>.bad
@[simp] theorem ofO_some {α:Type} (a:α):rl (some a)=.ok a:=rfl
@[simp] theorem ofO_none {α:Type} : rl (none:Option α)=.bad:=rfl
abbrev RV:=Bool×T
abbrev En:=List (Option RV)
abbrev ME:=En->vX RV
abbrev MT:=En->vX Bool
abbrev MA:=En->vX (List RV)
structure jv (F:Addr->Prop) (H:Hp) (F':Addr->Prop) (H':Hp):Prop where
 same:∀ a o,H a=some o->H' a=some o
 sub:∀ a,F a->F' a
 new:∀ a,F' a->F a\/H a=none
 dom:∀ a,F' a->H' a≠none
def m7 (F:Addr->Prop)(H:Hp):Prop := ∀ a,F a->H a≠none
section
variable {F F1 F2:Addr->Prop}{H H1 H2:Hp}
theorem jv.refl (d:m7 F H):jv F H F H:=⟨λ_ _ h=>h,λ_ h=>h,λ_ h=>.inl h,d⟩
theorem jK (e:∀ a o,H a=some o->H1 a=some o)(h:H1 a=none):H a=none:=by
 cases q:H a with
 | none=>rfl
 | some o=>rw [e a o q] at h;cases h
theorem jv.trans (e:jv F H F1 H1)(f:jv F1 H1 F2 H2):jv F H F2 H2 :=
 ⟨λa o h=>f.same a o (e.same a o h),λa h=>f.sub a (e.sub a h),λa h=>by
  rcases f.new a h with h | h
  ·exact e.new a h
  ·exact .inr (jK e.same h),f.dom⟩
theorem jv.kept (e:jv F H F1 H1):kg F F1 H H1:=⟨e.sub,λa o _ h=>e.same a o h,λa o h _ _=>e.same a o h⟩
theorem jv.alloc (d:m7 F H)(hp:H p=none):jv F H F (zN H p o) :=
 ⟨λa u h=>by rw [z8 (zD h hp)];exact h,λ_ h=>h,λ_ h=>.inl h,λa h=>by
  have:=d a h
  by_cases e:a=p
  ·subst e;exact absurd hp this
  ·rw [z8 e];exact this⟩
theorem jv.freeze (e:jv F H F1 H1)(hf:H a=none)(h1:H1 a≠none):jv F H (λb=>F1 b\/b=a) H1 :=
 ⟨e.same,λb h=>.inl (e.sub b h),λb h=>by
  rcases h with h | rfl
  ·exact e.new b h
  ·exact .inr hf,λb h=>by
  rcases h with h | rfl
  ·exact e.dom b h
  ·exact h1⟩
end
def xU (K:W.Frag)(F:Addr->Prop)(H:Hp)(a:Addr):T->Prop
 | .lst ts=>∃ vs,H a=some (.lst vs)/\IsAll K F H ts vs
 | .dct ks ts=>∃ kvs,H a=some (.dK kvs)/\kvs.map (·.1)=ks/\IsAll K F H ts (kvs.map (·.2))
 | .obj C fs ts=>∃ dx fvs,H a=some (.ins C dx fvs)/\fvs.map (·.1)=fs/\IsAll K F H ts (fvs.map (·.2))
 | _=>False
def wq (K:W.Frag)(fr:Addr->Prop)(F:Addr->Prop)(H:Hp)(v:V)(r:RV):Prop :=
 if r.1=true then ∃ a,v=.ref a/\¬ F a/\fr a/\xU K F H a r.2 else Is K F H r.2 v
def xU.mono {K:W.Frag}{F F':Addr->Prop}{H H':Hp}{a:Addr}{t:T}(k:kg F F' H H')(s:∀ o,H a=some o->H' a=some o)(h:xU K F H a t):xU K F' H' a t:=by
 cases t with
 | lst ts=>obtain ⟨vs,e,r⟩:=h;exact ⟨vs,s _ e,r.mono k⟩
 | dct ks ts=>obtain ⟨vs,e,d,r⟩:=h;exact ⟨vs,s _ e,d,r.mono k⟩
 | obj C fs ts=>obtain ⟨dx,vs,e,d,r⟩:=h;exact ⟨dx,vs,s _ e,d,r.mono k⟩
 | _=>exact h.elim
def xU.there {K:W.Frag}{F:Addr->Prop}{H:Hp}{a:Addr}{t:T}(h:xU K F H a t):H a≠none:=by
 cases t with
 | lst ts=>obtain ⟨vs,e,r⟩:=h;rw [e];intro z;cases z
 | dct ks ts=>obtain ⟨vs,e,r⟩:=h;rw [e];intro z;cases z
 | obj C fs ts=>obtain ⟨dx,vs,e,r⟩:=h;rw [e];intro z;cases z
 | _=>exact h.elim
def xU.is {K:W.Frag}{F F':Addr->Prop}{H:Hp}{a:Addr}{t:T}(h:xU K F H a t)(s:∀ b,F b->F' b)(ha:F' a):Is K F' H t (.ref a):=by
 have k:kg F F' H H:=⟨s,λ_ _ _ h=>h,λ_ _ h _ _=>h⟩
 cases t with
 | lst ts=>obtain ⟨vs,e,r⟩:=h;unfold Is;exact ⟨a,vs,rfl,.inl ⟨ha,e⟩,r.mono k⟩
 | dct ks ts=>obtain ⟨vs,e,d,r⟩:=h;unfold Is;exact ⟨a,vs,rfl,ha,.inl e,d,r.mono k⟩
 | obj C fs ts=>obtain ⟨dx,vs,e,d,r⟩:=h;unfold Is;exact ⟨a,dx,vs,rfl,ha,e,d,r.mono k⟩
 | _=>exact h.elim
def wq.is {K:W.Frag}{fr F:Addr->Prop}{H:Hp}{v:V}{t:T}(h:wq K fr F H v (false,t)):Is K F H t v:=by simpa [wq] using h
def je {K:W.Frag}{fr F:Addr->Prop}{H:Hp}{v:V}{t:T}(h:Is K F H t v):wq K fr F H v (false,t):=by simpa [wq] using h
def wq.frz {K:W.Frag}{F F1:Addr->Prop}{H H1:Hp}{v:V}{r:RV}(e:jv F H F1 H1)(h:wq K (λa=>H a=none) F1 H1 v r) :
  ∃ F2,jv F H F2 H1/\(∀ a,F1 a->F2 a)/\Is K F2 H1 r.2 v:=by
 obtain ⟨o,t⟩:=r
 cases o with
 | false=>exact ⟨F1,e,λ_ h=>h,h.is⟩
 | true =>
  have h:∃ a,v=.ref a/\¬ F1 a/\H a=none/\xU K F1 H1 a t:=by simpa [wq] using h
  obtain ⟨a,rfl,nf,fr,o⟩:=h;exact ⟨_,e.freeze fr o.there,λb h=>.inl h,o.is (λb h=>.inl h) (.inr rfl)⟩
def Y6 (K:W.Frag)(F:Addr->Prop)(H:Hp)(ev:Value)(x:Ex):Prop := ∃ e,ev=.ref e/\Is K F H (.exn x.C x.at_) (.ref e)
structure xL (K:W.Frag) (F:Addr->Prop) (H:Hp) (σ:St) (env:En):Prop where
 dom:m7 F H
 vals:∀ (i:Nat) (r:RV),env[i]? = some (some r)->∃ v,σ[i]? = some (some v)/\Is K F H r.2 v
def xL.mono {K:W.Frag}{F F':Addr->Prop}{H H':Hp}{σ:St}{env:En}(r:xL K F H σ env)(e:jv F H F' H'):xL K F' H' σ env :=
 ⟨e.dom,λi t h=>let ⟨v,h1,h2⟩:=r.vals i t h;⟨v,h1,h2.mono e.kept⟩⟩
def rm (X:Cx)(F:Addr->Prop)(H:Hp)(σ:St)(x:Ex):Prop :=
 ∀ ev F' H',jv F H F' H'->Y6 X.K F' H' ev x->∀ pins s',uE X ev pins σ H' s'->X.xe ev s'
def rm.mono (h:rm X F H σ x)(e:jv F H F1 H1):rm X F1 H1 σ x :=
 λev F' H' e' i pins s' I=>h ev F' H' (e.trans e') i pins s' I
def xE (X:Cx)(t:TE)(m:ME):Prop :=
 ∀ (F:Addr->Prop) (H:Hp) (σ:St) (env:En) (Q:VK),xL X.K F H σ env->m env≠.bad ->
  (∀ r,m env=.ok r->∀ v F' H',jv F H F' H'->wq X.K (λa=>H a=none) F' H' v r->Q v H')->(∀ x,m env=.exc x->rm X F H σ x)->t σ H Q
def vI (X:Cx)(t:TT)(m:MT):Prop :=
 ∀ (F:Addr->Prop) (H:Hp) (σ:St) (env:En) (Q:Bool->Hp->Prop),xL X.K F H σ env->m env≠.bad ->
  (∀ b,m env=.ok b->∀ F' H',jv F H F' H'->Q b H')->(∀ x,m env=.exc x->rm X F H σ x)->t σ H Q
def l6 (X:Cx)(t:TE)(m:ME):Prop :=
 ∀ (F:Addr->Prop) (H:Hp) (σ:St) (env:En) (Q:VK),xL X.K F H σ env->m env≠.bad ->
  (∀ r,m env=.ok r->∀ v F' H',jv F H F' H'->wq X.K (λa=>H a=none) F' H' v r->Q v H')->(∀ x,m env=.exc x->False)->t σ H Q
def ag (X:Cx)(t:TT)(m:MT):Prop :=
 ∀ (F:Addr->Prop) (H:Hp) (σ:St) (env:En) (Q:Bool->Hp->Prop),xL X.K F H σ env->m env≠.bad ->
  (∀ b,m env=.ok b->∀ F' H',jv F H F' H'->Q b H')->(∀ x,m env=.exc x->False)->t σ H Q
def xE.val (h:xE X t m)(R:xL X.K F H σ env)(nb:m env≠.bad)
  (ok:∀ r,m env=.ok r->∀ v F' H',jv F H F' H'->Is X.K F' H' r.2 v->Q v H') (ex:∀ x,m env=.exc x->rm X F H σ x):t σ H Q :=
 h F H σ env Q R nb (λr e v F' H' x i=>let ⟨F2,e2,_,i2⟩:=i.frz x;ok r e v F2 H' e2 i2) ex
def l6.val (h:l6 X t m)(R:xL X.K F H σ env)(nb:m env≠.bad)
  (ok:∀ r,m env=.ok r->∀ v F' H',jv F H F' H'->Is X.K F' H' r.2 v->Q v H') (ex:∀ x,m env=.exc x->False):t σ H Q :=
 h F H σ env Q R nb (λr e v F' H' x i=>let ⟨F2,e2,_,i2⟩:=i.frz x;ok r e v F2 H' e2 i2) ex
def jm (X:Cx)(e:Expr)(m:ME):Prop := ∃ t,PE X e t/\xE X t m
def cu (X:Cx)(e:Expr)(m:MT):Prop := ∃ t,PT X e t/\vI X t m
def mC (t:T):ME:=λ_=>.ok (false,t)
def mV (i:Nat):ME:=λenv=>match env[i]? with
 | some (some r)=>.ok (false,r.2)
 | _=>.bad
section
variable {X:Cx}{e a b c:Expr}{pos:Pos}{ma mb mc:ME}{ta tb tc:TE}
theorem pG (h:∀ F H,Is X.K F H t v):xE X (tC v) (mC t):=by
 intro F H σ env Q R nb ok ex;exact ok _ rfl v F H (.refl R.dom) (je (h F H))
theorem zg {i j} : jm X (.Constant (.int i) j pos) (mC (.int i)):=⟨_,WW,pG λ_ _=>by unfold Is;rfl⟩
theorem kY {i j} : jm X (.Constant (.bool i) j pos) (mC (.bl i)):=⟨_,Qb,pG λ_ _=>by unfold Is;rfl⟩
theorem kK {j} : jm X (.Constant .none j pos) (mC .non):=⟨_,WX,pG λ_ _=>by unfold Is;rfl⟩
theorem zQ {i j} : jm X (.Constant (.str i) j pos) (mC (.str i)):=⟨_,WY,pG λ_ _=>by unfold Is;rfl⟩
theorem YH (i:Nat):xE X (xD i) (mV i):=by
 intro F H σ env Q R nb ok ex;unfold mV at nb ok
 cases h:env[i]? with
 | none=>rw [h] at nb;exact absurd rfl nb
 | some o =>
  cases o with
  | none=>rw [h] at nb;exact absurd rfl nb
  | some r =>
   rw [h] at ok;obtain ⟨v,e,q⟩:=R.vals i r h;exact ⟨v,e,ok _ rfl v F H (.refl R.dom) (je q)⟩
theorem qv (i:Nat)(hN:X.N[i]? = some x:=by rfl)(hv:cy X.env.scope x:=by first | exact Or.inl rfl | exact Or.inr (Or.inl rfl) | exact Or.inr (Or.inr rfl))(hd:(x == ("__debug__" : Str))=false:=by decide)
  (hcd:(x == ("__classdict__" : Str))=false:=by decide):jm X (.Name x pos) (mV i):=⟨_,vG hN hv hd hcd,YH i⟩
def QL (K:W.Frag)(r:R2)(f:T->T->Option RV):Prop :=
 ∀ (F:Addr->Prop) (H:Hp) (x y:V) (tx ty:T) (Q:VK) (rv:RV),m7 F H->Is K F H tx x->Is K F H ty y->f tx ty=some rv ->
  (∀ v F' H',jv F H F' H'->wq K (λa=>H a=none) F' H' v rv->Q v H')->r x y H Q
def m2 (f:T->T->Option RV)(ma mb:ME):ME:=λenv=>(ma env).bind λx=>(mb env).bind λy=>rl (f x.2 y.2)
theorem lT (hr:QL X.K r f)(ha:xE X ta ma)(hb:xE X tb mb):xE X (Qo r ta tb) (m2 f ma mb):=by
 intro F H σ env Q R nb ok ex;unfold m2 at nb ok ex;refine ha.val R (λz=>by rw [z] at nb;exact nb rfl) (λr1 e1 v1 F1 H1 x1 i1 => ?_) λx z=>ex x (by rw [z];rfl);rw [e1] at nb ok ex;refine hb.val (R.mono x1) (λz=>by rw [bind_ok,z] at nb;exact nb rfl) (λr2 e2 v2 F2 H2 x2 i2 => ?_) λx z=>(ex x (by rw [bind_ok,z];rfl)).mono x1;rw [bind_ok,e2,bind_ok] at nb ok
 cases h:f r1.2 r2.2 with
 | none=>rw [h] at nb;exact absurd rfl nb
 | some rv =>
  rw [h] at ok;refine hr F2 H2 v1 v2 _ _ Q rv x2.dom (i1.mono x2.kept) i2 h λv F' H' x i=>ok rv rfl v F' H' ((x1.trans x2).trans x) ?_;unfold wq at i ⊢
  split
  ·rename_i ho
   rw [if_pos ho] at i;obtain ⟨a,e,nf,fr,o⟩:=i;exact ⟨a,e,nf,jK (x1.trans x2).same fr,o⟩
  ·rename_i ho
   rw [if_neg ho] at i;exact i
theorem jH (ho:vm X (binaryOp op) r)(hr:QL X.K r f)(ha:jm X a ma)(hb:jm X b mb):jm X (.BinOp a op b pos) (m2 f ma mb):=by
 obtain ⟨ta,pa,sa⟩:=ha;obtain ⟨tb,pb,sb⟩:=hb;exact ⟨_,Qp ho pa pb,lT hr sa sb⟩
theorem qT (ho:vm X (compareOp op) r)(hr:QL X.K r f)(ha:jm X a ma)(hb:jm X b mb)(hm:behindInMarks op b=false):jm X (.Compare a [op] [b] pos) (m2 f ma mb):=by
 obtain ⟨ta,pa,sa⟩:=ha;obtain ⟨tb,pb,sb⟩:=hb;exact ⟨_,Ym ho pa pb hm,lT hr sa sb⟩
def zS (m:ME):MT:=λenv=>(m env).bind λx=>match x.2 with
 | .bl b=>.ok b
 | _=>.bad
theorem eX (h:xE X t m):vI X (rQ t) (zS m):=by
 intro F H σ env Q R nb ok ex;unfold zS at nb ok ex;refine h.val R (λz=>by rw [z] at nb;exact nb rfl) (λr1 e1 v1 F1 H1 x1 i1 => ?_) λx z=>ex x (by rw [z];rfl);rw [e1,bind_ok] at nb ok;obtain ⟨o,t⟩:=r1
 cases t with
 | bl k =>
  unfold Is at i1;exact ⟨k,i1,ok k rfl F1 H1 x1⟩
 | _=>exact absurd rfl nb
theorem zu (ho:vm X (compareOp op) r)(hr:QL X.K r f)(ha:jm X a ma)(hb:jm X b mb)(hm:behindInMarks op b=false):cu X (.Compare a [op] [b] pos) (zS (m2 f ma mb)):=by
 obtain ⟨ta,pa,sa⟩:=ha;obtain ⟨tb,pb,sb⟩:=hb;exact ⟨_,Yn ho pa pb hm,eX (lT hr sa sb)⟩
end
def eY (t u:T):Option Bool:=match t with
 | .non=>match u with
  | .non=>some true
  | .bl _=>some false
  | .int _=>some false
  | .str _=>some false
  | .tup _=>some false
  | .lst _=>some false
  | _=>none
 | .bl a=>match u with
  | .non=>some false
  | .bl b=>some (a == b)
  | .int b=>some ((if a then 1 else 0) == b)
  | .str _=>some false
  | .tup _=>some false
  | .lst _=>some false
  | _=>none
 | .int a=>match u with
  | .non=>some false
  | .bl b=>some (a == (if b then 1 else 0))
  | .int b=>some (a == b)
  | .str _=>some false
  | .tup _=>some false
  | .lst _=>some false
  | _=>none
 | .str a=>match u with
  | .non=>some false
  | .bl _=>some false
  | .int _=>some false
  | .str b=>some (a == b)
  | .tup _=>some false
  | .lst _=>some false
  | _=>none
 | .tup _=>match u with
  | .non=>some false
  | .bl _=>some false
  | .int _=>some false
  | .str _=>some false
  | .lst _=>some false
  | _=>none
 | .lst _=>match u with
  | .non=>some false
  | .bl _=>some false
  | .int _=>some false
  | .str _=>some false
  | .tup _=>some false
  | _=>none
 | _=>none
def cX (f:T->T->Option Bool):List T->List T->Option Bool
 | [],_=>some true
 | _ :: _,[]=>some true
 | t :: ts,u :: us=>match f t u with
  | none=>none
  | some a=>match cX f ts us with
   | none=>none
   | some b=>some (a && b)
def gj:Nat->T->T->Option Bool
 | 0,t,u=>eY t u
 | n + 1,t,u=>match t,u with
  | .tup ts,.tup us=>(cX (gj n) ts us).map λb=>b && ts.length == us.length
  | .lst ts,.lst us=>if ts.length=us.length then cX (gj n) ts us else some false
  | t,u=>eY t u
def uL:∀ {ts us:List T} {b:Bool},cX f ts us=some b->∃ e:Nat->Bool,(∀ (j:Nat) (t u:T),ts[j]? = some t->us[j]? = some u->f t u=some (e j))/\(List.range (min ts.length us.length)).all e=b
 | [],us,b,h=>⟨λ_=>true,λj t u h1 _=>by simp at h1,by simp [cX] at h;simp [h]⟩
 | t :: ts,[],b,h=>⟨λ_=>true,λj t u _ h1=>by simp at h1,by simp [cX] at h;simp [h]⟩
 | t :: ts,u :: us,b,h=>by
  rw [cX] at h
  cases h1:f t u with
  | none=>rw [h1] at h;cases h
  | some a =>
   rw [h1] at h
   cases h2:cX f ts us with
   | none=>rw [h2] at h;cases h
   | some c =>
    rw [h2] at h;simp only [Option.some.injEq] at h;obtain ⟨e,he,hb⟩:=uL h2;refine ⟨λj=>match j with | 0=>a | j + 1=>e j,λj t' u' g1 g2 => ?_,?_⟩
    ·cases j with
     | zero=>simp at g1 g2;subst g1;subst g2;exact h1
     | succ j=>exact he j t' u' (by simpa using g1) (by simpa using g2)
    ·have:min (t :: ts).length (u :: us).length=min ts.length us.length + 1:=by simp only [List.length_cons];omega
     rw [this,List.range_succ_eq_map,List.all_cons,List.all_map];show (a && (List.range (min ts.length us.length)).all e)=b;rw [hb,h]
def eZ:∀ {t:T} {b:Bool},eY t t=some b->b=true:=by
 intro t b h;cases t<;>simp [eY] at h<;>simp_all
def uM (hf:∀ t b,f t t=some b->b=true):∀ {ts:List T} {b:Bool},cX f ts ts=some b->b=true
 | [],b,h=>by simp [cX] at h;exact h
 | t :: ts,b,h=>by
  rw [cX] at h
  cases h1:f t t with
  | none=>rw [h1] at h;cases h
  | some a =>
   rw [h1] at h
   cases h2:cX f ts ts with
   | none=>rw [h2] at h;cases h
   | some c =>
    rw [h2] at h;have:=hf t a h1;have:=uM hf h2
    simp_all
def uN:∀ {n:Nat} {t:T} {b:Bool},gj n t t=some b->b=true
 | 0,t,b,h=>eZ h
 | n + 1,t,b,h=>by
  cases t with
  | tup ts =>
   simp only [gj,Option.map_eq_some_iff] at h;obtain ⟨c,h1,h2⟩:=h;have:=uM (λt b=>uN) h1
   simp_all
  | lst ts =>
   simp only [gj,if_true] at h;exact uM (λt b=>uN) h
  | _=>exact eZ (by simpa [gj] using h)
section
variable {X:Cx}{pins:List (Addr×Obj)}{σ:St}{H:Hp}{s:Shared}{F:Addr->Prop}
def UO:Value->V
 | .bool b=>.bl b
 | .int i _=>.int i
 | .str x _=>.str x
 | .bytes b _=>.byt b
 | .float b _=>.flt b
 | .ref a=>.ref a
 | .type n=>.ty n
 | _=>.non
theorem ah (h:L2.RelV v u):UO u=v:=by
 cases v<;>first | (obtain ⟨_,rfl⟩:=h;rfl) | (cases h;rfl)
theorem d3 (h:L2.RelV v u)(h':L2.RelV v' u):v=v':=(ah h).symm.trans (ah h')
theorem uO:∀ {vs vs':List V} {us:List Value},zF vs us->zF vs' us->vs=vs'
 | _,_,_,.nil,.nil=>rfl
 | _,_,_,.cons r t,.cons r' t'=>by rw [d3 r r',uO t t']
theorem YI (I:zj X pins σ H s)(h:fx X.K H a vs)(h':fx X.K H a vs'):vs=vs':=by
 obtain ⟨its,r,pl,hz⟩:=I.tuple h;obtain ⟨its',r',pl',hz'⟩:=I.tuple h';obtain ⟨o,e,c,n,d⟩:=pl;obtain ⟨o',e',c',n',d'⟩:=pl';rw [e] at e';cases e';rw [d] at d';have:its=its':=by injection d' with d' _;simpa using d'
 subst this;exact uO r r'
theorem YJ (I:zj X pins σ H s)(h:fw X.K H a vs)(h':fw X.K H a vs'):vs=vs':=by
 obtain ⟨its,r,pl,hz⟩:=I.list h;obtain ⟨its',r',pl',hz'⟩:=I.list h';obtain ⟨o,e,c,n,d⟩:=pl.isList;obtain ⟨o',e',c',n',d'⟩:=pl'.isList;rw [e] at e';cases e';rw [d] at d';have:its=its':=by injection d' with d' _;simpa using d'
 subst this;exact uO r r'
theorem d6 (I:zj X pins σ H s)(h:fw X.K H a vs)(h':fx X.K H a vs'):False:=by
 obtain ⟨its,r,pl,hz⟩:=I.list h;obtain ⟨its',r',pl',hz'⟩:=I.tuple h';exact SeqAt.ne_of_list_tuple pl.isList pl' rfl
theorem wg (r:zF xs its)(h:j < its.toArray.size):∃ x,xs[j]? = some x/\L2.RelV x its.toArray[j]:=by
 have hl:=r.length;have h':j < its.length:=by simpa using h
 have hx:j < xs.length:=by omega
 obtain ⟨u,hu,q⟩:=r.get (i:=j) (x:=xs[j]) (by simp [hx]);refine ⟨xs[j],by simp [hx],?_⟩;have:its[j]? = some its[j]:=by simp [h']
 rw [this] at hu;cases hu;simpa using q
theorem Zo (I:zj X pins σ H s)(hu:A.units < cLine)(h:eY t u=some b)(it:Is X.K F H t x)(iu:Is X.K F H u y)(rx:L2.RelV x vx)(ry:L2.RelV y vy) :
  SeqAt.RcAt A s vx vy b/\(SeqAt.EqAt A s vx vy b):=by
 cases t<;>try (simp only [eY,reduceCtorEq] at h;done)
 all_goals (cases u<;>simp only [eY,Option.some.injEq,reduceCtorEq] at h<;>unfold Is at it iu)
 case non.non=>subst it iu h;cases rx;cases ry;exact ⟨SeqAt.RcAt.none_none,SeqAt.EqAt.same _⟩
 case non.bl=>subst it iu h;cases rx;cases ry;exact ⟨SeqAt.RcAt.none_bool _,SeqAt.EqAt.none_bool _⟩
 case non.int=>subst it iu h;cases rx;obtain ⟨t',rfl⟩:=ry;exact ⟨SeqAt.RcAt.none_int _ _,SeqAt.EqAt.none_int _ _⟩
 case non.str=>subst it iu h;cases rx;obtain ⟨t',rfl⟩:=ry;exact ⟨SeqAt.RcAt.none_str _ _,SeqAt.EqAt.none_str _ _⟩
 case bl.non=>subst it iu h;cases rx;cases ry;exact ⟨SeqAt.RcAt.bool_none _,SeqAt.EqAt.bool_none _⟩
 case bl.bl=>subst it iu h;cases rx;cases ry;exact ⟨SeqAt.RcAt.bool_bool _ _,SeqAt.EqAt.bool_bool _ _⟩
 case bl.int=>subst it iu h;cases rx;obtain ⟨t',rfl⟩:=ry;exact ⟨SeqAt.RcAt.bool_int _ _ _,SeqAt.EqAt.bool_int _ _ _⟩
 case bl.str=>subst it iu h;cases rx;obtain ⟨t',rfl⟩:=ry;exact ⟨SeqAt.RcAt.bool_str _ _ _,SeqAt.EqAt.bool_str _ _ _⟩
 case int.non=>subst it iu h;obtain ⟨t',rfl⟩:=rx;cases ry;exact ⟨SeqAt.RcAt.int_none _ _,SeqAt.EqAt.int_none _ _⟩
 case int.bl=>subst it iu h;obtain ⟨t',rfl⟩:=rx;cases ry;exact ⟨SeqAt.RcAt.int_bool _ _ _,SeqAt.EqAt.int_bool _ _ _⟩
 case int.int=>subst it iu h;obtain ⟨t',rfl⟩:=rx;obtain ⟨t',rfl⟩:=ry;exact ⟨SeqAt.RcAt.int_int _ _ _ _,SeqAt.EqAt.int_int _ _ _ _⟩
 case int.str=>subst it iu h;obtain ⟨t',rfl⟩:=rx;obtain ⟨t',rfl⟩:=ry;exact ⟨SeqAt.RcAt.int_str _ _ _ _,SeqAt.EqAt.int_str _ _ _ _⟩
 case str.non=>subst it iu h;obtain ⟨t',rfl⟩:=rx;cases ry;exact ⟨SeqAt.RcAt.str_none _ _,SeqAt.EqAt.str_none _ _⟩
 case str.bl=>subst it iu h;obtain ⟨t',rfl⟩:=rx;cases ry;exact ⟨SeqAt.RcAt.str_bool _ _ _,SeqAt.EqAt.str_bool _ _ _⟩
 case str.int=>subst it iu h;obtain ⟨t',rfl⟩:=rx;obtain ⟨t',rfl⟩:=ry;exact ⟨SeqAt.RcAt.str_int _ _ _ _,SeqAt.EqAt.str_int _ _ _ _⟩
 case str.str=>subst it iu h;obtain ⟨t',rfl⟩:=rx;obtain ⟨t',rfl⟩:=ry;exact ⟨SeqAt.RcAt.str_str _ _ _ _,SeqAt.EqAt.str_str _ _ _ _⟩
 case tup.lst =>
  obtain ⟨a,vs,rfl,h1,_⟩:=it;obtain ⟨b,ws,rfl,h2,_⟩:=iu;subst h;cases rx;cases ry;obtain ⟨_,_,p1,_⟩:=I.tuple h1;obtain ⟨_,_,p2,_⟩:=I.list h2.sq;exact ⟨SeqAt.RcAt.tuple_list p1 p2.isList hu,SeqAt.EqAt.tuple_list p1 p2.isList hu⟩
 case lst.tup =>
  obtain ⟨a,vs,rfl,h1,_⟩:=it;obtain ⟨b,ws,rfl,h2,_⟩:=iu;subst h;cases rx;cases ry;obtain ⟨_,_,p1,_⟩:=I.list h1.sq;obtain ⟨_,_,p2,_⟩:=I.tuple h2;exact ⟨SeqAt.RcAt.list_tuple p1.isList p2 hu,SeqAt.EqAt.list_tuple p1.isList p2 hu⟩
 case tup.non=>obtain ⟨a,vs,rfl,h1,_⟩:=it;subst iu h;cases rx;cases ry;obtain ⟨_,_,p1,_⟩:=I.tuple h1;exact ⟨SeqAt.RcAt.tuple_none p1 hu,SeqAt.EqAt.tuple_none p1 hu⟩
 case tup.bl=>obtain ⟨a,vs,rfl,h1,_⟩:=it;subst iu h;cases rx;cases ry;obtain ⟨_,_,p1,_⟩:=I.tuple h1;exact ⟨SeqAt.RcAt.tuple_bool _ p1 hu,SeqAt.EqAt.tuple_bool _ p1 hu⟩
 case tup.int=>obtain ⟨a,vs,rfl,h1,_⟩:=it;subst iu h;cases rx;obtain ⟨t',rfl⟩:=ry;obtain ⟨_,_,p1,_⟩:=I.tuple h1;exact ⟨SeqAt.RcAt.tuple_int _ _ p1 hu,SeqAt.EqAt.tuple_int _ _ p1 hu⟩
 case tup.str=>obtain ⟨a,vs,rfl,h1,_⟩:=it;subst iu h;cases rx;obtain ⟨t',rfl⟩:=ry;obtain ⟨_,_,p1,_⟩:=I.tuple h1;exact ⟨SeqAt.RcAt.tuple_str _ _ p1 hu,SeqAt.EqAt.tuple_str _ _ p1 hu⟩
 case lst.non=>obtain ⟨a,vs,rfl,h1,_⟩:=it;subst iu h;cases rx;cases ry;obtain ⟨_,_,p1,_⟩:=I.list h1.sq;exact ⟨SeqAt.RcAt.list_none p1.isList hu,SeqAt.EqAt.list_none p1.isList hu⟩
 case lst.bl=>obtain ⟨a,vs,rfl,h1,_⟩:=it;subst iu h;cases rx;cases ry;obtain ⟨_,_,p1,_⟩:=I.list h1.sq;exact ⟨SeqAt.RcAt.list_bool _ p1.isList hu,SeqAt.EqAt.list_bool _ p1.isList hu⟩
 case lst.int=>obtain ⟨a,vs,rfl,h1,_⟩:=it;subst iu h;cases rx;obtain ⟨t',rfl⟩:=ry;obtain ⟨_,_,p1,_⟩:=I.list h1.sq;exact ⟨SeqAt.RcAt.list_int _ _ p1.isList hu,SeqAt.EqAt.list_int _ _ p1.isList hu⟩
 case lst.str=>obtain ⟨a,vs,rfl,h1,_⟩:=it;subst iu h;cases rx;obtain ⟨t',rfl⟩:=ry;obtain ⟨_,_,p1,_⟩:=I.list h1.sq;exact ⟨SeqAt.RcAt.list_str _ _ p1.isList hu,SeqAt.EqAt.list_str _ _ p1.isList hu⟩
 case non.tup=>obtain ⟨a,vs,rfl,h1,_⟩:=iu;subst it h;cases rx;cases ry;obtain ⟨_,_,p1,_⟩:=I.tuple h1;exact ⟨SeqAt.RcAt.none_tuple p1 hu,SeqAt.EqAt.none_tuple p1 hu⟩
 case bl.tup=>obtain ⟨a,vs,rfl,h1,_⟩:=iu;subst it h;cases rx;cases ry;obtain ⟨_,_,p1,_⟩:=I.tuple h1;exact ⟨SeqAt.RcAt.bool_tuple _ p1 hu,SeqAt.EqAt.bool_tuple _ p1 hu⟩
 case int.tup=>obtain ⟨a,vs,rfl,h1,_⟩:=iu;subst it h;cases ry;obtain ⟨t',rfl⟩:=rx;obtain ⟨_,_,p1,_⟩:=I.tuple h1;exact ⟨SeqAt.RcAt.int_tuple _ _ p1 hu,SeqAt.EqAt.int_tuple _ _ p1 hu⟩
 case str.tup=>obtain ⟨a,vs,rfl,h1,_⟩:=iu;subst it h;cases ry;obtain ⟨t',rfl⟩:=rx;obtain ⟨_,_,p1,_⟩:=I.tuple h1;exact ⟨SeqAt.RcAt.str_tuple _ _ p1 hu,SeqAt.EqAt.str_tuple _ _ p1 hu⟩
 case non.lst=>obtain ⟨a,vs,rfl,h1,_⟩:=iu;subst it h;cases rx;cases ry;obtain ⟨_,_,p1,_⟩:=I.list h1.sq;exact ⟨SeqAt.RcAt.none_list p1.isList hu,SeqAt.EqAt.none_list p1.isList hu⟩
 case bl.lst=>obtain ⟨a,vs,rfl,h1,_⟩:=iu;subst it h;cases rx;cases ry;obtain ⟨_,_,p1,_⟩:=I.list h1.sq;exact ⟨SeqAt.RcAt.bool_list _ p1.isList hu,SeqAt.EqAt.bool_list _ p1.isList hu⟩
 case int.lst=>obtain ⟨a,vs,rfl,h1,_⟩:=iu;subst it h;cases ry;obtain ⟨t',rfl⟩:=rx;obtain ⟨_,_,p1,_⟩:=I.list h1.sq;exact ⟨SeqAt.RcAt.int_list _ _ p1.isList hu,SeqAt.EqAt.int_list _ _ p1.isList hu⟩
 case str.lst=>obtain ⟨a,vs,rfl,h1,_⟩:=iu;subst it h;cases ry;obtain ⟨t',rfl⟩:=rx;obtain ⟨_,_,p1,_⟩:=I.list h1.sq;exact ⟨SeqAt.RcAt.str_list _ _ p1.isList hu,SeqAt.EqAt.str_list _ _ p1.isList hu⟩
def GM:Option HO->Nat
 | some (.dK _)=>4
 | some (.frz _ (.dK _))=>4
 | some (.ins _ _ _)=>5
 | some (.ext _)=>6
 | some (.own _)=>7
 | some (.xob _ _)=>8
 | _=>0
def VQ (H:Hp):V->Nat
 | .ref a=>GM (H a)
 | _=>9
def YK:T->Nat
 | .tup _=>0
 | .lst _=>0
 | .dct _ _=>4
 | .obj _ _ _=>5
 | .mem _ _=>6
 | .lam=>7
 | .exn _ _=>8
 | _=>9
theorem zP (I:zj X pins σ H s)(h:Is X.K F H t v):VQ H v=YK t:=by
 have kin:∀ {a:Addr} {o:Obj},X.K.lookup a=some o->VQ H (.ref a)=0:=λh=>by
  show GM _=_;rw [(I.bs _ _ (I.ok.mod.kin _ _ h)).2]
  rfl
 have at_:∀ {a:Addr} {o:HO} {n:Nat},H a=some o->GM (some o)=n->VQ H (.ref a)=n:=λh e=>by
  show GM _=_;rw [h];exact e
 cases t<;>unfold Is at h
 case tup ts =>
  obtain ⟨a,vs,rfl,(h | ⟨o,h⟩) | ⟨o,its,n,h,_⟩,_⟩:=h
  ·exact at_ h rfl
  ·exact at_ h rfl
  ·exact kin h
 case lst ts =>
  obtain ⟨a,vs,rfl,⟨_,h⟩ | ⟨o,h⟩ | ⟨o,its,n,h,_⟩,_⟩:=h
  ·exact at_ h rfl
  ·exact at_ h rfl
  ·exact kin h
 case dct ks ts=>obtain ⟨a,kvs,rfl,_,h | ⟨o,h⟩,_⟩:=h<;>exact at_ h rfl
 case obj C fs ts=>obtain ⟨a,dx,kvs,rfl,_,h,_⟩:=h;exact at_ h rfl
 case mem m o=>obtain ⟨rfl,h⟩:=h;exact at_ h rfl
 case lam=>obtain ⟨a,rfl,h⟩:=h;exact at_ h rfl
 case exn=>obtain ⟨a,_,_,rfl,h,_⟩:=h;exact at_ h rfl
 all_goals (rw [h];rfl)
theorem VR (h:Rd H a (.dK x))(g:Rd H a (.dK y)):x=y:=by
 rcases h with h | ⟨o,h⟩<;>rcases g with g | ⟨o',g⟩<;>rw [h] at g<;>cases g<;>rfl
def PF:T->V
 | .bl b=>.bl b
 | .int i=>.int i
 | .str x=>.str x
 | .ty n=>.ty n
 | _=>.non
theorem qU (e:YK t=9)(h:Is X.K F H t v):v=PF t:=by
 cases t<;>first | (unfold Is at h;exact h) | cases e
theorem uP (e:YK t=9)(g:YK u=9)(h:PF t=PF u):t=u:=by
 cases t<;>first | (cases e;done) | (cases u<;>first | (cases g;done) | (cases h;rfl) | (cases h;done))
mutual
theorem Is.inj (I:zj X pins σ H s):∀ {t u:T} {v:V},Is X.K F H t v->Is X.K F H u v->t=u
 | .tup ts,u,v,h,g=>by
  have hc:=(zP I h).symm.trans (zP I g);unfold Is at h;obtain ⟨a,vs,rfl,h1,h2⟩:=h;cases u<;>first | (cases hc;done) | unfold Is at g
  case tup us =>
   obtain ⟨b,ws,e,g1,g2⟩:=g;cases e;have:=YI I h1 g1;subst this;rw [IsAll.inj I h2 g2]
  case lst us=>obtain ⟨b,ws,e,g1,g2⟩:=g;cases e;exact (d6 I g1.sq h1).elim
 | .lst ts,u,v,h,g=>by
  have hc:=(zP I h).symm.trans (zP I g);unfold Is at h;obtain ⟨a,vs,rfl,h1,h2⟩:=h;cases u<;>first | (cases hc;done) | unfold Is at g
  case tup us=>obtain ⟨b,ws,e,g1,g2⟩:=g;cases e;exact (d6 I h1.sq g1).elim
  case lst us =>
   obtain ⟨b,ws,e,g1,g2⟩:=g;cases e;have:=YJ I h1.sq g1.sq;subst this;rw [IsAll.inj I h2 g2]
 | .dct ks ts,u,v,h,g=>by
  have hc:=(zP I h).symm.trans (zP I g);unfold Is at h;obtain ⟨a,vs,rfl,_,h1,h2,h3⟩:=h;cases u<;>first | (cases hc;done) | unfold Is at g
  obtain ⟨b,ws,e,_,g1,g2,g3⟩:=g;cases e;cases VR h1 g1;rw [IsAll.inj I h3 g3,<- h2,<- g2]
 | .obj C fs ts,u,v,h,g=>by
  have hc:=(zP I h).symm.trans (zP I g);unfold Is at h;obtain ⟨a,dx,vs,rfl,_,h1,h2,h3⟩:=h;cases u<;>first | (cases hc;done) | unfold Is at g
  obtain ⟨b,dx',ws,e,_,g1,g2,g3⟩:=g;cases e;rw [h1] at g1;cases g1;rw [IsAll.inj I h3 g3,<- h2,<- g2]
 | .mem m o,u,v,h,g=>by
  have hc:=(zP I h).symm.trans (zP I g);unfold Is at h;obtain ⟨rfl,h1⟩:=h;cases u<;>first | (cases hc;done) | unfold Is at g
  obtain ⟨e,g1⟩:=g;cases e;rw [h1] at g1;cases g1
  rfl
 | .lam,u,v,h,g=>by
  have hc:=(zP I h).symm.trans (zP I g)
  cases u<;>first | (cases hc;done) | rfl
 | .exn C t,u,v,h,g=>by
  have hc:=(zP I h).symm.trans (zP I g);unfold Is at h;obtain ⟨e,d,w,rfl,h1,h2,h3⟩:=h;cases u<;>first | (cases hc;done) | unfold Is at g
  obtain ⟨e',d',w',z,g1,g2,g3⟩:=g;cases z;rw [h1] at g1;cases g1;rw [h2] at g2;cases g2;rw [Is.inj I h3 g3]
 | .non,u,v,h,g=>uP rfl ((zP I g).symm.trans (zP I h)) ((qU rfl h).symm.trans (qU ((zP I g).symm.trans (zP I h)) g))
 | .bl b,u,v,h,g=>uP rfl ((zP I g).symm.trans (zP I h)) ((qU rfl h).symm.trans (qU ((zP I g).symm.trans (zP I h)) g))
 | .int i,u,v,h,g=>uP rfl ((zP I g).symm.trans (zP I h)) ((qU rfl h).symm.trans (qU ((zP I g).symm.trans (zP I h)) g))
 | .str x,u,v,h,g=>uP rfl ((zP I g).symm.trans (zP I h)) ((qU rfl h).symm.trans (qU ((zP I g).symm.trans (zP I h)) g))
 | .ty n,u,v,h,g=>uP rfl ((zP I g).symm.trans (zP I h)) ((qU rfl h).symm.trans (qU ((zP I g).symm.trans (zP I h)) g))
theorem IsAll.inj (I:zj X pins σ H s):∀ {ts us:List T} {vs:List V},IsAll X.K F H ts vs->IsAll X.K F H us vs->ts=us
 | [],us,vs,h,g=>by
  unfold IsAll at h;subst h
  cases us with
  | nil=>rfl
  | cons u us=>unfold IsAll at g;obtain ⟨_,_,e,_⟩:=g;cases e
 | t :: ts,us,vs,h,g=>by
  unfold IsAll at h;obtain ⟨v,r,rfl,h1,h2⟩:=h
  cases us with
  | nil=>unfold IsAll at g;cases g
  | cons u us =>
   unfold IsAll at g;obtain ⟨_,_,e,g1,g2⟩:=g;cases e;rw [Is.inj I h1 g1,IsAll.inj I h2 g2]
end
def fH (I:zj X pins σ H s):∀ {n:Nat} {t u:T} {x y:V} {vx vy:Value} {b:Bool} {A:Around},A.units + n < cLine->gj n t u=some b->Is X.K F H t x->Is X.K F H u y->L2.RelV x vx->L2.RelV y vy ->
  SeqAt.RcAt A s vx vy b/\SeqAt.EqAt A s vx vy b
 | 0,t,u,x,y,vx,vy,b,A,hu,h,it,iu,rx,ry=>Zo I (by omega) h it iu rx ry
 | n + 1,t,u,x,y,vx,vy,b,A,hu,h,it,iu,rx,ry=>by
  have two:∀ {a c:Addr} {k:Bool},x=.ref a->y=.ref c->(a=c->k=true)->SeqAt.RcAt A s (.ref a) (.ref c) k->SeqAt.RcAt A s (.ref a) (.ref c) k/\SeqAt.EqAt A s (.ref a) (.ref c) k:=by
   intro a c k _ _ hk r;refine ⟨r,?_⟩
   by_cases e:a=c
   ·rw [hk e,e];exact SeqAt.EqAt.same _
   ·exact .of_refs e r
  have same:x=y->b=true:=λe=>by
   subst e;have:=it.inj I iu;subst this;exact uN h
  cases t<;>cases u<;>try (exact Zo I (by omega) (by simpa [gj] using h) it iu rx ry)
  case tup.tup ts us =>
   simp only [gj,Option.map_eq_some_iff] at h;obtain ⟨c,h1,h2⟩:=h;unfold Is at it iu;obtain ⟨a,vs,rfl,g1,g2⟩:=it;obtain ⟨d,ws,rfl,g3,g4⟩:=iu;cases rx;cases ry;obtain ⟨its,r1,p1,_⟩:=I.tuple g1;obtain ⟨its',r2,p2,_⟩:=I.tuple g3;obtain ⟨e,he,hb⟩:=uL h1;refine two rfl rfl (λz=>same (by rw [z])) ?_;have l1:=g2.len;have l2:=g4.len;have l3:=r1.length;have l4:=r2.length
   have:=SeqAt.RcAt.tuples (A:=A) p1 p2 (by omega) λj j1 j2=>by
    obtain ⟨v1,hv1,q1⟩:=wg r1 j1;obtain ⟨v2,hv2,q2⟩:=wg r2 j2;have j1':j < its.length:=by simpa using j1
    have j2':j < its'.length:=by simpa using j2
    have hj1:j < ts.length:=by omega
    have hj2:j < us.length:=by omega
    obtain ⟨w1,hw1,i1⟩:=g2.get (i:=j) (t:=ts[j]) (by simp [hj1]);obtain ⟨w2,hw2,i2⟩:=g4.get (i:=j) (t:=us[j]) (by simp [hj2]);rw [hv1] at hw1;cases hw1;rw [hv2] at hw2;cases hw2;exact (fH I (by rw [Around.in1_units];omega) (he j ts[j] us[j] (by simp [hj1]) (by simp [hj2])) i1 i2 q1 q2).2
   have e1:its.toArray.size=ts.length:=by simp;omega
   have e2:its'.toArray.size=us.length:=by simp;omega
   rw [e1,e2,hb] at this;rw [<- h2];exact this
  case lst.lst ts us =>
   simp only [gj] at h;unfold Is at it iu;obtain ⟨a,vs,rfl,g1,g2⟩:=it;obtain ⟨d,ws,rfl,g3,g4⟩:=iu;cases rx;cases ry;obtain ⟨its,r1,p1,_⟩:=I.list g1.sq;obtain ⟨its',r2,p2,_⟩:=I.list g3.sq;refine two rfl rfl (λz=>same (by rw [z])) ?_;have l1:=g2.len;have l2:=g4.len;have l3:=r1.length;have l4:=r2.length;have e1:its.toArray.size=ts.length:=by simp;omega
   have e2:its'.toArray.size=us.length:=by simp;omega
   by_cases hl:ts.length=us.length
   ·rw [if_pos hl] at h
    obtain ⟨e,he,hb⟩:=uL h
    have:=SeqAt.RcAt.lists (A:=A) p1.isList p2.isList (by omega) (by omega) λj j1 j2=>by
     obtain ⟨v1,hv1,q1⟩:=wg r1 j1;obtain ⟨v2,hv2,q2⟩:=wg r2 j2;have j1':j < its.length:=by simpa using j1
     have j2':j < its'.length:=by simpa using j2
     have hj1:j < ts.length:=by omega
     have hj2:j < us.length:=by omega
     obtain ⟨w1,hw1,i1⟩:=g2.get (i:=j) (t:=ts[j]) (by simp [hj1]);obtain ⟨w2,hw2,i2⟩:=g4.get (i:=j) (t:=us[j]) (by simp [hj2]);rw [hv1] at hw1;cases hw1;rw [hv2] at hw2;cases hw2;exact (fH I (A:=A.in1) (by rw [Around.in1_units];omega) (he j ts[j] us[j] (by simp [hj1]) (by simp [hj2])) i1 i2 q1 q2).2
    rw [e1] at this;have e3:min ts.length us.length=ts.length:=by omega
    rw [e3] at hb;rw [hb] at this;exact this
   ·rw [if_neg hl] at h
    cases h;exact SeqAt.RcAt.lists_lengths p1.isList p2.isList (by rw [e1,e2];simpa using hl) (by omega)
def Zp (I:zj X pins σ H s)(hu:A.units < cLine)(h:eY t u=some b)(it:Is X.K F H t x)(iu:Is X.K F H u y)(rx:L2.RelV x vx)(ry:L2.RelV y vy) :
  SeqAt.RcNeAt A s vx vy (!b):=by
 cases t<;>try (simp only [eY,reduceCtorEq] at h;done)
 all_goals (cases u<;>simp only [eY,Option.some.injEq,reduceCtorEq] at h<;>unfold Is at it iu)
 case non.non=>subst it iu h;cases rx;cases ry;exact (SeqAt.RcNeAt.none_none)
 case non.bl=>subst it iu h;cases rx;cases ry;exact (SeqAt.RcNeAt.none_bool _)
 case non.int=>subst it iu h;cases rx;obtain ⟨t',rfl⟩:=ry;exact (SeqAt.RcNeAt.none_int _ _)
 case non.str=>subst it iu h;cases rx;obtain ⟨t',rfl⟩:=ry;exact (SeqAt.RcNeAt.none_str _ _)
 case bl.non=>subst it iu h;cases rx;cases ry;exact (SeqAt.RcNeAt.bool_none _)
 case bl.bl=>subst it iu h;cases rx;cases ry;exact (SeqAt.RcNeAt.bool_bool _ _)
 case bl.int=>subst it iu h;cases rx;obtain ⟨t',rfl⟩:=ry;exact (SeqAt.RcNeAt.bool_int _ _ _)
 case bl.str=>subst it iu h;cases rx;obtain ⟨t',rfl⟩:=ry;exact (SeqAt.RcNeAt.bool_str _ _ _)
 case int.non=>subst it iu h;obtain ⟨t',rfl⟩:=rx;cases ry;exact (SeqAt.RcNeAt.int_none _ _)
 case int.bl=>subst it iu h;obtain ⟨t',rfl⟩:=rx;cases ry;exact (SeqAt.RcNeAt.int_bool _ _ _)
 case int.int=>subst it iu h;obtain ⟨t',rfl⟩:=rx;obtain ⟨t',rfl⟩:=ry;exact (SeqAt.RcNeAt.int_int _ _ _ _)
 case int.str=>subst it iu h;obtain ⟨t',rfl⟩:=rx;obtain ⟨t',rfl⟩:=ry;exact (SeqAt.RcNeAt.int_str _ _ _ _)
 case str.non=>subst it iu h;obtain ⟨t',rfl⟩:=rx;cases ry;exact (SeqAt.RcNeAt.str_none _ _)
 case str.bl=>subst it iu h;obtain ⟨t',rfl⟩:=rx;cases ry;exact (SeqAt.RcNeAt.str_bool _ _ _)
 case str.int=>subst it iu h;obtain ⟨t',rfl⟩:=rx;obtain ⟨t',rfl⟩:=ry;exact (SeqAt.RcNeAt.str_int _ _ _ _)
 case str.str=>subst it iu h;obtain ⟨t',rfl⟩:=rx;obtain ⟨t',rfl⟩:=ry;exact (SeqAt.RcNeAt.str_str _ _ _ _)
 case tup.lst =>
  obtain ⟨a,vs,rfl,h1,_⟩:=it;obtain ⟨b,ws,rfl,h2,_⟩:=iu;subst h;cases rx;cases ry;obtain ⟨_,_,p1,_⟩:=I.tuple h1;obtain ⟨_,_,p2,_⟩:=I.list h2.sq;exact (SeqAt.RcNeAt.tuple_list p1 p2.isList hu)
 case lst.tup =>
  obtain ⟨a,vs,rfl,h1,_⟩:=it;obtain ⟨b,ws,rfl,h2,_⟩:=iu;subst h;cases rx;cases ry;obtain ⟨_,_,p1,_⟩:=I.list h1.sq;obtain ⟨_,_,p2,_⟩:=I.tuple h2;exact (SeqAt.RcNeAt.list_tuple p1.isList p2 hu)
 case tup.non=>obtain ⟨a,vs,rfl,h1,_⟩:=it;subst iu h;cases rx;cases ry;obtain ⟨_,_,p1,_⟩:=I.tuple h1;exact (SeqAt.RcNeAt.tuple_none p1 hu)
 case tup.bl=>obtain ⟨a,vs,rfl,h1,_⟩:=it;subst iu h;cases rx;cases ry;obtain ⟨_,_,p1,_⟩:=I.tuple h1;exact (SeqAt.RcNeAt.tuple_bool _ p1 hu)
 case tup.int=>obtain ⟨a,vs,rfl,h1,_⟩:=it;subst iu h;cases rx;obtain ⟨t',rfl⟩:=ry;obtain ⟨_,_,p1,_⟩:=I.tuple h1;exact (SeqAt.RcNeAt.tuple_int _ _ p1 hu)
 case tup.str=>obtain ⟨a,vs,rfl,h1,_⟩:=it;subst iu h;cases rx;obtain ⟨t',rfl⟩:=ry;obtain ⟨_,_,p1,_⟩:=I.tuple h1;exact (SeqAt.RcNeAt.tuple_str _ _ p1 hu)
 case lst.non=>obtain ⟨a,vs,rfl,h1,_⟩:=it;subst iu h;cases rx;cases ry;obtain ⟨_,_,p1,_⟩:=I.list h1.sq;exact (SeqAt.RcNeAt.list_none p1.isList hu)
 case lst.bl=>obtain ⟨a,vs,rfl,h1,_⟩:=it;subst iu h;cases rx;cases ry;obtain ⟨_,_,p1,_⟩:=I.list h1.sq;exact (SeqAt.RcNeAt.list_bool _ p1.isList hu)
 case lst.int=>obtain ⟨a,vs,rfl,h1,_⟩:=it;subst iu h;cases rx;obtain ⟨t',rfl⟩:=ry;obtain ⟨_,_,p1,_⟩:=I.list h1.sq;exact (SeqAt.RcNeAt.list_int _ _ p1.isList hu)
 case lst.str=>obtain ⟨a,vs,rfl,h1,_⟩:=it;subst iu h;cases rx;obtain ⟨t',rfl⟩:=ry;obtain ⟨_,_,p1,_⟩:=I.list h1.sq;exact (SeqAt.RcNeAt.list_str _ _ p1.isList hu)
 case non.tup=>obtain ⟨a,vs,rfl,h1,_⟩:=iu;subst it h;cases rx;cases ry;obtain ⟨_,_,p1,_⟩:=I.tuple h1;exact (SeqAt.RcNeAt.none_tuple p1 hu)
 case bl.tup=>obtain ⟨a,vs,rfl,h1,_⟩:=iu;subst it h;cases rx;cases ry;obtain ⟨_,_,p1,_⟩:=I.tuple h1;exact (SeqAt.RcNeAt.bool_tuple _ p1 hu)
 case int.tup=>obtain ⟨a,vs,rfl,h1,_⟩:=iu;subst it h;cases ry;obtain ⟨t',rfl⟩:=rx;obtain ⟨_,_,p1,_⟩:=I.tuple h1;exact (SeqAt.RcNeAt.int_tuple _ _ p1 hu)
 case str.tup=>obtain ⟨a,vs,rfl,h1,_⟩:=iu;subst it h;cases ry;obtain ⟨t',rfl⟩:=rx;obtain ⟨_,_,p1,_⟩:=I.tuple h1;exact (SeqAt.RcNeAt.str_tuple _ _ p1 hu)
 case non.lst=>obtain ⟨a,vs,rfl,h1,_⟩:=iu;subst it h;cases rx;cases ry;obtain ⟨_,_,p1,_⟩:=I.list h1.sq;exact (SeqAt.RcNeAt.none_list p1.isList hu)
 case bl.lst=>obtain ⟨a,vs,rfl,h1,_⟩:=iu;subst it h;cases rx;cases ry;obtain ⟨_,_,p1,_⟩:=I.list h1.sq;exact (SeqAt.RcNeAt.bool_list _ p1.isList hu)
 case int.lst=>obtain ⟨a,vs,rfl,h1,_⟩:=iu;subst it h;cases ry;obtain ⟨t',rfl⟩:=rx;obtain ⟨_,_,p1,_⟩:=I.list h1.sq;exact (SeqAt.RcNeAt.int_list _ _ p1.isList hu)
 case str.lst=>obtain ⟨a,vs,rfl,h1,_⟩:=iu;subst it h;cases ry;obtain ⟨t',rfl⟩:=rx;obtain ⟨_,_,p1,_⟩:=I.list h1.sq;exact (SeqAt.RcNeAt.str_list _ _ p1.isList hu)
def VS (I:zj X pins σ H s):∀ {n:Nat} {t u:T} {x y:V} {vx vy:Value} {b:Bool} {A:Around},A.units + n < cLine->gj n t u=some b->Is X.K F H t x->Is X.K F H u y->L2.RelV x vx->L2.RelV y vy ->
  SeqAt.RcNeAt A s vx vy (!b)
 | 0,t,u,x,y,vx,vy,b,A,hu,h,it,iu,rx,ry=>Zp I (by omega) h it iu rx ry
 | n + 1,t,u,x,y,vx,vy,b,A,hu,h,it,iu,rx,ry=>by
  cases t<;>cases u<;>try (exact Zp I (by omega) (by simpa [gj] using h) it iu rx ry)
  case tup.tup ts us =>
   simp only [gj,Option.map_eq_some_iff] at h;obtain ⟨c,h1,h2⟩:=h;unfold Is at it iu;obtain ⟨a,vs,rfl,g1,g2⟩:=it;obtain ⟨d,ws,rfl,g3,g4⟩:=iu;cases rx;cases ry;obtain ⟨its,r1,p1,_⟩:=I.tuple g1;obtain ⟨its',r2,p2,_⟩:=I.tuple g3;obtain ⟨e,he,hb⟩:=uL h1;have l1:=g2.len;have l2:=g4.len;have l3:=r1.length;have l4:=r2.length
   have:=SeqAt.RcNeAt.tuples (A:=A) (e:=e) p1 p2 (by omega) λj j1 j2=>by
    obtain ⟨v1,hv1,q1⟩:=wg r1 j1;obtain ⟨v2,hv2,q2⟩:=wg r2 j2;have j1':j < its.length:=by simpa using j1
    have j2':j < its'.length:=by simpa using j2
    have hj1:j < ts.length:=by omega
    have hj2:j < us.length:=by omega
    obtain ⟨w1,hw1,i1⟩:=g2.get (i:=j) (t:=ts[j]) (by simp [hj1]);obtain ⟨w2,hw2,i2⟩:=g4.get (i:=j) (t:=us[j]) (by simp [hj2]);rw [hv1] at hw1;cases hw1;rw [hv2] at hw2;cases hw2;exact (fH I (A:=A.in1) (by rw [Around.in1_units];omega) (he j ts[j] us[j] (by simp [hj1]) (by simp [hj2])) i1 i2 q1 q2).2
   have e1:its.toArray.size=ts.length:=by simp;omega
   have e2:its'.toArray.size=us.length:=by simp;omega
   rw [e1,e2,hb] at this;rw [<- h2];exact this
  case lst.lst ts us =>
   simp only [gj] at h;unfold Is at it iu;obtain ⟨a,vs,rfl,g1,g2⟩:=it;obtain ⟨d,ws,rfl,g3,g4⟩:=iu;cases rx;cases ry;obtain ⟨its,r1,p1,_⟩:=I.list g1.sq;obtain ⟨its',r2,p2,_⟩:=I.list g3.sq;have l1:=g2.len;have l2:=g4.len;have l3:=r1.length;have l4:=r2.length;have e1:its.toArray.size=ts.length:=by simp;omega
   have e2:its'.toArray.size=us.length:=by simp;omega
   by_cases hl:ts.length=us.length
   ·rw [if_pos hl] at h
    obtain ⟨e,he,hb⟩:=uL h
    have:=SeqAt.RcNeAt.lists (A:=A) (e:=e) p1.isList p2.isList (by omega) (by omega) λj j1 j2=>by
     obtain ⟨v1,hv1,q1⟩:=wg r1 j1;obtain ⟨v2,hv2,q2⟩:=wg r2 j2;have j1':j < its.length:=by simpa using j1
     have j2':j < its'.length:=by simpa using j2
     have hj1:j < ts.length:=by omega
     have hj2:j < us.length:=by omega
     obtain ⟨w1,hw1,i1⟩:=g2.get (i:=j) (t:=ts[j]) (by simp [hj1]);obtain ⟨w2,hw2,i2⟩:=g4.get (i:=j) (t:=us[j]) (by simp [hj2]);rw [hv1] at hw1;cases hw1;rw [hv2] at hw2;cases hw2;exact (fH I (A:=A.in1) (by rw [Around.in1_units];omega) (he j ts[j] us[j] (by simp [hj1]) (by simp [hj2])) i1 i2 q1 q2).2
    rw [e1] at this;have e3:min ts.length us.length=ts.length:=by omega
    rw [e3] at hb;rw [hb] at this;exact this
   ·rw [if_neg hl] at h
    cases h;exact SeqAt.RcNeAt.lists_lengths p1.isList p2.isList (by rw [e1,e2];simpa using hl) (by omega)
end
def rT (K:W.Frag)(f:T->T->Option RV):R2:=λx y H Q=>∃ F tx ty rv,m7 F H/\Is K F H tx x/\Is K F H ty y/\f tx ty=some rv/\∀ v F' H',jv F H F' H'->wq K (λa=>H a=none) F' H' v rv->Q v H'
def zd {K:W.Frag}{f:T->T->Option RV} : QL K (rT K f) f:=λF H x y tx ty Q rv d ix iy e q=>⟨F,tx,ty,rv,d,ix,iy,e,q⟩
def Y7 (K:W.Frag)(f:List T->Option RV):List V->Hp->VK->Prop:=λvs H Q=>∃ F ts rv,m7 F H/\IsAll K F H ts vs/\f ts=some rv/\∀ v F' H',jv F H F' H'->wq K (λa=>H a=none) F' H' v rv->Q v H'
def o7 {K:W.Frag}{Q:VK}{ts:List T}{vs:List V}{p:Addr}(d:m7 F H)(i:IsAll K F H ts vs)(hp:H p=none)
  (q:∀ v F' H',jv F H F' H'->wq K (λa=>H a=none) F' H' v (true,.lst ts)->Q v H'):Q (.ref p) (zN H p (.lst vs)):=by
 have x:=jv.alloc d (o:=.lst vs) hp;refine q _ F _ x ?_;unfold wq;rw [if_pos rfl];exact ⟨p,rfl,λf=>d p f hp,hp,vs,zi,i.mono x.kept⟩
def YL {K:W.Frag}{Q:VK}{ts:List T}{vs:List V}{p:Addr}(d:m7 F H)(i:IsAll K F H ts vs)(hp:H p=none)
  (q:∀ v F' H',jv F H F' H'->wq K (λa=>H a=none) F' H' v (false,.tup ts)->Q v H'):Q (.ref p) (zN H p (.tup vs)):=by
 have x:=jv.alloc d (o:=.tup vs) hp;refine q _ F _ x (je ?_);unfold Is;exact ⟨p,vs,rfl,.inl (.inl zi),i.mono x.kept⟩
def flat {K:W.Frag}{Q:VK}{t:T}{v:V}{rv:RV}(d:m7 F H)(i:Is K F H t v)(q:∀ v F' H',jv F H F' H'->wq K (λa=>H a=none) F' H' v rv->Q v H')(e:rv=(false,t)):Q v H:=by
 subst e;exact q v F H (.refl d) (je i)
def x8 {K:W.Frag}{i:Int} : Is K F H (.int i) (.int i):=by unfold Is;rfl
def xr {K:W.Frag}{i:Bool} : Is K F H (.bl i) (.bl i):=by unfold Is;rfl
def kh {K:W.Frag}{i:Str} : Is K F H (.str i) (.str i):=by unfold Is;rfl
def VT {K:W.Frag} : Is K F H .non .non:=by unfold Is;rfl
def jb (t u:T):Option RV:=match t with
 | .int i=>match u with
  | .int j=>some (false,.int (i + j))
  | _=>none
 | .str x=>match u with
  | .str y=>if x.length + y.length<=sizeLine then some (false,.str (x ++ y)) else none
  | _=>none
 | .lst ts=>match u with
  | .lst us=>if ts.length + us.length<=sizeLine then some (true,.lst (ts ++ us)) else none
  | _=>none
 | .tup ts=>match u with
  | .tup us=>if ts.length + us.length<=sizeLine then some (false,.tup (ts ++ us)) else none
  | _=>none
 | _=>none
def uQ (t u:T):Option RV:=match t with
 | .int i=>match u with
  | .int j=>some (false,.int (i - j))
  | _=>none
 | _=>none
instance (i j:Int):Decidable (Vi i j):=by unfold Vi;infer_instance
instance (i j:Int):Decidable (rP i j):=by unfold rP;infer_instance
def UP (t u:T):Option RV:=match t with
 | .int i=>match u with
  | .int j=>if Vi i j then some (false,.int (i * j)) else none
  | _=>none
 | .str x=>match u with
  | .int n=>if -(2 ^ 63)<=n/\n<=16777216/\x.length * n.toNat<=16777216 then some (false,.str (Txt.mul x n)) else none
  | _=>none
 | _=>none
def m8 (t u:T):Option RV:=match t with
 | .int i=>match u with
  | .int j=>if rP i j then some (false,.int (i / j)) else none
  | _=>none
 | _=>none
def wj (t u:T):Option RV:=match t with
 | .int i=>match u with
  | .int j=>if 0 < j then some (false,.int (i % j)) else none
  | _=>none
 | _=>none
def Zr {prog:Program}{w:World}{A:Around}{E:Value->Shared->Prop}{s:Shared}{t b:Addr}{vs ws:List Value}{Q:Value->Shared->Prop}(ht:IsTup s.heap t vs.toArray)(hb:IsTup s.heap b ws.toArray)(hv:vs=[])
  (h1:Q (.ref b) s):wpAny (model prog w) A (binaryOp .Add (.ref t) (.ref b)) Q E s:=by
 obtain ⟨⟨cls,dd,data,sl⟩,ho,hc,n,hd⟩:=id ht;obtain ⟨⟨cls2,dd2,data2,sl2⟩,ho2,hc2,n2,hd2⟩:=id hb;simp only at hc hd hc2 hd2;subst hc hd hc2 hd2
 exact concat_meets ⟨_,ho,rfl⟩ ⟨_,ho2,rfl⟩ noFill_tuple_add seq_tuple_add PySem.F.slot_tuple_add PySem.F.entry_tuple_add (PySem.F.args_tuple_add_2 _ _)
   (tuple_addW0 t b vs.toArray ws.toArray n n2 dd dd2 sl sl2 (by simp [hv])) ⟨ho,ho2,h1⟩
def Zs (hl:s.heap.IsList l xs)(hb:s.heap.IsList b ys)(hsz:xs.size + ys.size<=sizeLine)
  (h:Q (.ref s.heap.objs.size) { s with heap:=s.heap.push { cls:=.type "list",data:=.seq (xs ++ ys) } }):wpAny (model prog w) A (binaryOp .Add (.ref l) (.ref b)) Q E s:=by
 obtain ⟨⟨cls,dd,data,sl⟩,ho,hc,n,hd⟩:=id hl;obtain ⟨⟨cls2,dd2,data2,sl2⟩,ho2,hc2,n2,hd2⟩:=id hb;simp only at hc hd hc2 hd2;subst hc hd hc2 hd2;exact concat_meets ⟨_,ho,rfl⟩ ⟨_,ho2,rfl⟩ noFill_list_add seq_list_add PySem.F.slot_list_add PySem.F.entry_list_add (PySem.F.args_list_add_2 _ _) (list_addW l b xs ys n n2 dd dd2 sl sl2 hsz) ⟨ho,ho2,h⟩
def wP:vm X (binaryOp .Add) (rT X.K jb):=by
 intro pins s σ H x y v u Q I rx ry h;obtain ⟨F,tx,ty,rv,d,ix,iy,e,q⟩:=h;cases tx<;>try (simp only [jb,reduceCtorEq] at e;done)
 all_goals (cases ty<;>simp only [jb,reduceCtorEq] at e)
 case int.int i j =>
  unfold Is at ix iy;subst ix iy;cases e;exact Vj pins s σ H _ _ v u Q I rx ry ⟨i,j,rfl,rfl,flat d x8 q rfl⟩
 case str.str i j =>
  unfold Is at ix iy;subst ix iy
  split at e<;>cases e
  rename_i hl;exact cG pins s σ H _ _ v u Q I rx ry ⟨i,j,rfl,rfl,hl,flat d kh q rfl⟩
 case lst.lst ts us =>
  split at e<;>cases e
  rename_i hl;unfold Is at ix iy;obtain ⟨l,vs,rfl,g1,g2⟩:=ix;obtain ⟨b,ws,rfl,g3,g4⟩:=iy;cases rx;cases ry;obtain ⟨its,r,p1,z⟩:=I.list g1.sq;obtain ⟨its2,r2,p2,z2⟩:=I.list g3.sq;have l1:=g2.len;have l2:=g4.len;have l3:=r.length;have l4:=r2.length;have ea:its.toArray ++ its2.toArray=(its ++ its2).toArray:=by simp
  refine Zs p1.isList p2.isList (by rw [List.size_toArray,List.size_toArray];omega) ?_;rw [ea];exact ⟨.ref _,_,I.lnew (r.append r2) (by rw [List.length_append];omega),rfl,o7 d (g2.append g4) I.fresh q⟩
 case tup.tup ts us =>
  split at e<;>cases e
  rename_i hl;have ix':=ix;have iy':=iy;unfold Is at ix iy;obtain ⟨l,vs,rfl,g1,g2⟩:=ix;obtain ⟨b,ws,rfl,g3,g4⟩:=iy;have l1:=g2.len;have l2:=g4.len
  by_cases hv:vs=[]
  ·subst hv
   cases rx;cases ry;obtain ⟨its,r1,p1,_⟩:=I.tuple g1;obtain ⟨its2,r2,p2,_⟩:=I.tuple g3;refine Zr p1 p2 (r1.nil_iff.mpr rfl) ⟨.ref b,H,I,rfl,?_⟩;have:ts=[]:=List.eq_nil_of_length_eq_zero (by rw [l1];rfl);subst this;exact flat d iy' q rfl
  ·refine Yt pins s σ H _ _ v u Q I rx ry ⟨l,b,vs,ws,rfl,rfl,g1,g3,hv,by omega,λz => ?_,λz p hp=>YL d (g2.append g4) hp q⟩
   subst z;have:us=[]:=List.eq_nil_of_length_eq_zero (by rw [l2];rfl);subst this;exact flat d ix' q (by rw [List.append_nil])
def d7:vm X (binaryOp .Sub) (rT X.K uQ):=by
 intro pins s σ H x y v u Q I rx ry h;obtain ⟨F,tx,ty,rv,d,ix,iy,e,q⟩:=h;cases tx<;>try (simp only [uQ,reduceCtorEq] at e;done)
 all_goals (cases ty<;>simp only [uQ,reduceCtorEq] at e)
 case int.int i j =>
  unfold Is at ix iy;subst ix iy;cases e;exact Vk pins s σ H _ _ v u Q I rx ry ⟨i,j,rfl,rfl,flat d x8 q rfl⟩
def Zt:vm X (binaryOp .FloorDiv) (rT X.K m8):=by
 intro pins s σ H x y v u Q I rx ry h;obtain ⟨F,tx,ty,rv,d,ix,iy,e,q⟩:=h;cases tx<;>try (simp only [m8,reduceCtorEq] at e;done)
 all_goals (cases ty<;>simp only [m8,reduceCtorEq] at e)
 case int.int i j =>
  unfold Is at ix iy;subst ix iy
  split at e<;>cases e
  rename_i hc;exact Yk pins s σ H _ _ v u Q I rx ry ⟨i,j,rfl,rfl,hc,flat d x8 q rfl⟩
def gL:vm X (binaryOp .Mod) (rT X.K wj):=by
 intro pins s σ H x y v u Q I rx ry h;obtain ⟨F,tx,ty,rv,d,ix,iy,e,q⟩:=h;cases tx<;>try (simp only [wj,reduceCtorEq] at e;done)
 all_goals (cases ty<;>simp only [wj,reduceCtorEq] at e)
 case int.int i j =>
  unfold Is at ix iy;subst ix iy
  split at e<;>cases e
  rename_i hc;exact Vl pins s σ H _ _ v u Q I rx ry ⟨i,j,rfl,rfl,hc,flat d x8 q rfl⟩
def zI (a b:T):Option RV:=(gj 40 a b).map λk=>(false,.bl k)
def wu (a b:T):Option RV:=(gj 40 a b).map λk=>(false,.bl (!k))
def wR (t u:T):Option RV:=match t with
 | .int i=>match u with
  | .int j=>some (false,.bl (decide (i < j)))
  | _=>none
 | .str i=>match u with
  | .str j=>some (false,.bl (decide (i.cps.toList < j.cps.toList)))
  | _=>none
 | _=>none
def gM (t u:T):Option RV:=match t with
 | .int i=>match u with
  | .int j=>some (false,.bl (decide (i<=j)))
  | _=>none
 | .str i=>match u with
  | .str j=>some (false,.bl (!decide (j.cps.toList < i.cps.toList)))
  | _=>none
 | _=>none
def lU (t u:T):Option RV:=match t with
 | .int i=>match u with
  | .int j=>some (false,.bl (decide (j < i)))
  | _=>none
 | .str i=>match u with
  | .str j=>some (false,.bl (decide (j.cps.toList < i.cps.toList)))
  | _=>none
 | _=>none
def cY:T->T->Option RV
 | .bl a,.bl b=>some (false,.bl (a == b))
 | .non,.non=>some (false,.bl true)
 | .tup _,.non=>some (false,.bl false)
 | .lst _,.non=>some (false,.bl false)
 | .dct _ _,.non=>some (false,.bl false)
 | .obj _ _ _,.non=>some (false,.bl false)
 | .str _,.non=>some (false,.bl false)
 | .int _,.non=>some (false,.bl false)
 | .bl _,.non=>some (false,.bl false)
 | _,_=>none
def l7 (t u:T):Option RV:=match u with
 | .non=>match t with
  | .non=>some (false,.bl false)
  | .tup _=>some (false,.bl true)
  | .lst _=>some (false,.bl true)
  | .dct _ _=>some (false,.bl true)
  | .obj _ _ _=>some (false,.bl true)
  | .str _=>some (false,.bl true)
  | .int _=>some (false,.bl true)
  | .bl _=>some (false,.bl true)
  | _=>none
 | _=>none
def xS (hu:X.A.units + 40 < cLine):vm X (compareOp .Eq) (rT X.K zI):=by
 intro pins s σ H x y v u Q I rx ry h;obtain ⟨F,tx,ty,rv,d,ix,iy,e,q⟩:=h;simp only [zI,Option.map_eq_some_iff] at e;obtain ⟨k,e,rfl⟩:=e;exact EqBoolInt.of_rc (fH I hu e ix iy rx ry).1 ⟨.bl k,H,I,rfl,flat d xr q rfl⟩
def d8 (hu:X.A.units + 40 < cLine):vm X (compareOp .NotEq) (rT X.K wu):=by
 intro pins s σ H x y v u Q I rx ry h;obtain ⟨F,tx,ty,rv,d,ix,iy,e,q⟩:=h;simp only [wu,Option.map_eq_some_iff] at e;obtain ⟨k,e,rfl⟩:=e;exact (VS I hu e ix iy rx ry) _ _ _ _ ⟨.bl (!k),H,I,rfl,flat d xr q rfl⟩
def o8:vm X (compareOp .Lt) (rT X.K wR):=by
 intro pins s σ H x y v u Q I rx ry h;obtain ⟨F,tx,ty,rv,d,ix,iy,e,q⟩:=h;cases tx<;>try (simp only [wR,reduceCtorEq] at e;done)
 all_goals (cases ty<;>simp only [wR,reduceCtorEq] at e)
 case int.int i j =>
  unfold Is at ix iy;subst ix iy;cases e;exact Qs pins s σ H _ _ v u Q I rx ry ⟨i,j,rfl,rfl,flat d xr q rfl⟩
 case str.str i j =>
  unfold Is at ix iy;subst ix iy;cases e;exact tK pins s σ H _ _ v u Q I rx ry ⟨i,j,rfl,rfl,flat d xr q rfl⟩
def VU:vm X (compareOp .LtE) (rT X.K gM):=by
 intro pins s σ H x y v u Q I rx ry h;obtain ⟨F,tx,ty,rv,d,ix,iy,e,q⟩:=h;cases tx<;>try (simp only [gM,reduceCtorEq] at e;done)
 all_goals (cases ty<;>simp only [gM,reduceCtorEq] at e)
 case int.int i j =>
  unfold Is at ix iy;subst ix iy;cases e;exact Qt pins s σ H _ _ v u Q I rx ry ⟨i,j,rfl,rfl,flat d xr q rfl⟩
 case str.str i j =>
  unfold Is at ix iy;subst ix iy;cases e;obtain ⟨t,rfl⟩:=rx;obtain ⟨t',rfl⟩:=ry;exact PySem.P.le_str (ux I (flat d xr q rfl) rfl)
def VV:vm X (compareOp .Gt) (rT X.K lU):=by
 intro pins s σ H x y v u Q I rx ry h;obtain ⟨F,tx,ty,rv,d,ix,iy,e,q⟩:=h;cases tx<;>try (simp only [lU,reduceCtorEq] at e;done)
 all_goals (cases ty<;>simp only [lU,reduceCtorEq] at e)
 case int.int i j =>
  unfold Is at ix iy;subst ix iy;cases e;exact Qu pins s σ H _ _ v u Q I rx ry ⟨i,j,rfl,rfl,flat d xr q rfl⟩
 case str.str i j =>
  unfold Is at ix iy;subst ix iy;cases e;obtain ⟨t,rfl⟩:=rx;obtain ⟨t',rfl⟩:=ry;exact PySem.P.gt_str (ux I (flat d xr q rfl) rfl)
def PH:vm X (compareOp .Is) (rT X.K cY):=by
 intro pins s σ H x y v u Q I rx ry h;obtain ⟨F,tx,ty,rv,d,ix,iy,e,q⟩:=h;cases ty
 case bl b =>
  cases tx<;>simp only [cY,reduceCtorEq] at e
  case bl a =>
   unfold Is at ix iy;subst ix iy;cases e;cases rx;cases ry;refine wpAny_is_plain rfl ⟨.bl (a == b),H,I,?_,flat d xr q rfl⟩;cases a<;>cases b<;>rfl
 case non =>
  unfold Is at iy;subst iy;refine Vo pins s σ H _ _ v u Q I rx ry ⟨rfl,?_⟩
  have:(x=.non↔tx=.non):=by
   cases tx<;>unfold Is at ix<;>first
    | (subst ix;simp;done)
    | (obtain ⟨a,_,rfl,_⟩:=ix;simp;done)
    | (obtain ⟨a,_,_,rfl,_⟩:=ix;simp;done)
    | (obtain ⟨a,rfl,_⟩:=ix;simp;done)
    | (obtain ⟨rfl,_⟩:=ix;simp;done)
  cases tx<;>simp only [cY,reduceCtorEq] at e<;>cases e<;>simp only [this,reduceCtorEq]<;>exact flat d xr q (by simp)
 all_goals (cases tx<;>simp only [cY,reduceCtorEq] at e)
def QM:vm X (compareOp .IsNot) (rT X.K l7):=by
 intro pins s σ H x y v u Q I rx ry h;obtain ⟨F,tx,ty,rv,d,ix,iy,e,q⟩:=h;cases ty
 case non =>
  unfold Is at iy;subst iy;refine Yl pins s σ H _ _ v u Q I rx ry ⟨rfl,?_⟩
  have:(x=.non↔tx=.non):=by
   cases tx<;>unfold Is at ix<;>first
    | (subst ix;simp;done)
    | (obtain ⟨a,_,rfl,_⟩:=ix;simp;done)
    | (obtain ⟨a,_,_,rfl,_⟩:=ix;simp;done)
    | (obtain ⟨a,rfl,_⟩:=ix;simp;done)
    | (obtain ⟨rfl,_⟩:=ix;simp;done)
  cases tx<;>simp only [l7,reduceCtorEq] at e<;>cases e<;>simp only [this,reduceCtorEq]<;>exact flat d xr q (by simp)
 all_goals (cases tx<;>simp only [l7,reduceCtorEq] at e)
end L3
namespace HT
open PySem PySem.Spec PyProof.Rows L2
def getItem_tuple_whole {prog:Program}{w:World}{A:Around}{E:Value->Shared->Prop}{s:Shared}{t sl:Addr}{items:Array Value}{vl vu:Value}{lo hi:Option Int}{Q:Value->Shared->Prop}(ht:IsTup s.heap t items)(hs:s.heap.IsSliceOf sl vl vu .none)(pl:IsPart vl lo)(pu:IsPart vu hi)
  (hw:sIx items.size 0 lo=0/\sIx items.size items.size hi=items.size) (h:Q (.ref t) s):wpAny (model prog w) A (getItem (.ref t) (.ref sl)) Q E s:=by
 obtain ⟨os,hos,hcs,hds⟩:=id hs;have hTs:s.TypeIs (.ref sl) "slice" := ⟨os,hos,hcs⟩
 unfold getItem
 try with_reducible refine wpAny_holding ?_
 first | refine wpAny_bind (wpAny_pure ?_) | skip
 refine wpAny_bind (wpAny_sequenceKey ht.typeIs (by decide) ?_)
 refine wpAny_bind (wpAny_callSpecial?_slot ht.typeIs PyProof.Rows.slot_tuple_getitem
  (wpAny_call_entry PyProof.Rows.slot_tuple_getitem ht.typeIs entry_tuple_getitem ?_ (args_tuple_getitem _ _)))
 show wpAny _ _ (Builtin.Tuple.tupleItemsOf (.ref t) >>= _) _ _ s;refine wpAny_bind (tupleItemsOf_ ht ?_);refine wpAny_bind (wpAny_typeOf hTs ?_);rw [if_pos (by decide)];refine wpAny_bind (vU hs pl pu ?_)
 have hyes:(((sIx items.size 0 lo:Nat):Int) == 0 && (1:Int) == 1 && (sIx items.size items.size hi - sIx items.size 0 lo) == items.size)=true:=by
  rw [hw.1,hw.2];simp
 show wpAny _ _ (if (((sIx items.size 0 lo:Nat):Int) == 0 && (1:Int) == 1 && (sIx items.size items.size hi - sIx items.size 0 lo) == items.size)=true then _ else _) _ _ s;rw [if_pos hyes];unfold Builtin.Tuple.tupleIsExact;refine wpAny_bind (wpAny_bind (wpAny_typeOf ht.typeIs ?_));refine wpAny_pure ?_;rw [if_pos (by decide)];exact wpAny_bind (wpAny_rule (wpAny_pure ⟨_,rfl,wpAny_pure h⟩))
end HT
namespace L3
open PySem PySem.Spec PyProof.Rows L2
section
variable {K:W.Frag}{F:Addr->Prop}{H:Hp}
theorem IsAll.at (h:IsAll K F H ts vs)(e:m3 ts i=some t):∃ v,m3 vs i=some v/\Is K F H t v:=by
 unfold m3 at e ⊢;rw [<- h.len]
 cases hj:bV ts.length i with
 | none=>rw [hj] at e;cases e
 | some j =>
  rw [hj] at e;have e:ts[j]? = some t:=e;obtain ⟨v,hv,q⟩:=h.get e;exact ⟨v,hv,q⟩
def fJ:List Key->List T->Key->Option T
 | k :: ks,t :: ts,x=>if k=x then some t else fJ ks ts x
 | _,_,_=>none
theorem uR:∀ {ks:List Key} {ts:List T} {kvs:List (Key×V)} (x:Key),kvs.map (·.1)=ks->IsAll K F H ts (kvs.map (·.2)) ->
  (∀ t,fJ ks ts x=some t->∃ v,jh kvs x=some v/\Is K F H t v)/\(fJ ks ts x=none->jh kvs x=none)
 | [],ts,[],x,_,_=>⟨λt h=>by cases ts<;>simp [fJ] at h,λ_=>rfl⟩
 | [],ts,kv :: kvs,x,h,_=>by simp at h
 | k :: ks,ts,[],x,h,_=>by simp at h
 | k :: ks,[],kv :: kvs,x,h,g=>by unfold IsAll at g;simp at g
 | k :: ks,t :: ts,kv :: kvs,x,h,g=>by
  simp only [List.map_cons,List.cons.injEq] at h;obtain ⟨h1,h2⟩:=h;rw [List.map_cons] at g;unfold IsAll at g;obtain ⟨v,r,e,g1,g2⟩:=g;cases e;have ih:=uR x h2 g2;unfold fJ
  by_cases hk:k=x
  ·rw [if_pos hk,jF (h1.trans hk)]
   exact ⟨λt' e=>by cases e;exact ⟨_,rfl,g1⟩,λz=>by cases z⟩
  ·rw [if_neg hk,jG (λz=>hk (h1.symm.trans z))]
   exact ih
end
def qg (x:T):List T->Option Bool
 | []=>some false
 | t :: ts=>match gj 40 t x with
  | none=>none
  | some a=>match qg x ts with
   | none=>none
   | some b=>some (a || b)
def uS:T->Option Key
 | .int i=>some (.inl i)
 | .str x=>some (.inr x)
 | _=>none
def rn:T->T->Option Bool
 | .str x,.str y=>some (!(Builtin.Str.occurrences y x 0 y.length 1).isEmpty)
 | x,.lst ts=>qg x ts
 | x,.tup ts=>qg x ts
 | x,.dct ks ts=>(uS x).map λk=>(fJ ks ts k).isSome
 | _,_=>none
def qN (a b:T):Option RV:=(rn a b).map λk=>(false,.bl k)
section
variable {X:Cx}
open Classical in
def kM (X:Cx)(F:Addr->Prop)(H:Hp)(t:T)(u:Value):Bool:=decide (∃ (y:V) (ty:T),L2.RelV y u/\Is X.K F H ty y/\gj 40 ty t=some true)
open Classical in
theorem Zu (I:zj X pins σ H s)(r:L2.RelV y u)(i:Is X.K F H ty y)(e:gj 40 ty t=some a):kM X F H t u=a:=by
 unfold kM
 cases a with
 | true=>exact decide_eq_true ⟨y,ty,r,i,e⟩
 | false =>
  refine decide_eq_false λ⟨y',ty',r',i',e'⟩ => ?_;have:=d3 r r';subst this;have:=i.inj I i';subst this;rw [e] at e';cases e'
theorem uT (I:zj X pins σ H s)(hu:A.units + 40 < cLine)(it:Is X.K F H t x)(rx:L2.RelV x vx) :
  ∀ {ts:List T} {vs:List V} {us:List Value} {b:Bool},qg t ts=some b->IsAll X.K F H ts vs->zF vs us->(∀ u,u∈us->SeqAt.EqAt A s u vx (kM X F H t u))/\us.any (kM X F H t)=b
 | [],vs,us,b,h,i,r=>by
  unfold IsAll at i;subst i;cases r;simp [qg] at h;refine ⟨?_,?_⟩
  ·intro u hu
   cases hu
  ·rw [h];rfl
 | ty :: ts,vs,us,b,h,i,r=>by
  unfold IsAll at i;obtain ⟨v,vr,rfl,i1,i2⟩:=i
  cases r with
  | cons r1 r2 =>
  rename_i u us;rw [qg] at h
  cases h1:gj 40 ty t with
  | none=>rw [h1] at h;cases h
  | some a =>
   rw [h1] at h
   cases h2:qg t ts with
   | none=>rw [h2] at h;cases h
   | some c =>
    rw [h2] at h;simp only [Option.some.injEq] at h;obtain ⟨he,hb⟩:=uT I hu it rx h2 i2 r2;have q:=(fH I hu h1 i1 it r1 rx).2;have ea:=Zu I r1 i1 h1;refine ⟨?_,?_⟩
    ·intro z hz
     rcases List.mem_cons.mp hz with h' | h'
     ·subst h';rw [ea];exact q
     ·exact he z h'
    ·rw [List.any_cons,ea,hb,h]
theorem VW (hu:X.A.units + 41 < cLine)
  (I:zj X pins σ H s) (ix:Is X.K F H tx x) (iy:Is X.K F H ty y) (rx:L2.RelV x v) (ry:L2.RelV y u) (e:rn tx ty=some b) (ho:op=.In\/op=.NotIn) (q:∀ s',zj X pins σ H s'->Q (.bool (if op=.In then b else !b)) s') :
  wpAny (model X.prog X.w) X.A (compareOp op v u) Q E s:=by
 have seqL:∀ {ts:List T},ty=.lst ts->qg tx ts=some b->wpAny (model X.prog X.w) X.A (compareOp op v u) Q E s:=by
  intro ts hy ha;subst hy;unfold Is at iy;obtain ⟨p,vs,rfl,g1,g2⟩:=iy;cases ry;obtain ⟨its,r,pl,hz⟩:=I.list g1.sq;obtain ⟨he,hb⟩:=uT I (by rw [Around.in1_units];omega) ix rx ha g2 r
  rcases ho with rfl | rfl
  ·refine SeqAt.in_listAt _ pl.isList (λw hw=>he w (by simpa using hw)) ?_
   have:its.toArray.any (kM X F H tx)=its.any (kM X F H tx):=by simp
   rw [this,hb];exact q s I
  ·refine SeqAt.notIn_listAt _ pl.isList (λw hw=>he w (by simpa using hw)) ?_
   have:its.toArray.any (kM X F H tx)=its.any (kM X F H tx):=by simp
   rw [this,hb];exact q s I
 have seqT:∀ {ts:List T},ty=.tup ts->qg tx ts=some b->wpAny (model X.prog X.w) X.A (compareOp op v u) Q E s:=by
  intro ts hy ha;subst hy;unfold Is at iy;obtain ⟨p,vs,rfl,g1,g2⟩:=iy;cases ry;obtain ⟨its,r,pl,hz⟩:=I.tuple g1;obtain ⟨he,hb⟩:=uT I (by rw [Around.in1_units];omega) ix rx ha g2 r
  rcases ho with rfl | rfl
  ·refine SeqAt.in_tupleAt _ pl (λw hw=>he w (by simpa using hw)) ?_
   have:its.toArray.any (kM X F H tx)=its.any (kM X F H tx):=by simp
   rw [this,hb];exact q s I
  ·refine SeqAt.notIn_tupleAt _ pl (λw hw=>he w (by simpa using hw)) ?_
   have:its.toArray.any (kM X F H tx)=its.any (kM X F H tx):=by simp
   rw [this,hb];exact q s I
 have dct:∀ {ks:List Key} {ts:List T} {k:Key},ty=.dct ks ts->x=kV k->(fJ ks ts k).isSome=b->wpAny (model X.prog X.w) X.A (compareOp op v u) Q E s:=by
  intro ks ts k hy hx hb;subst hy hx;unfold Is at iy;obtain ⟨p,kvs,rfl,f,g1,g2,g3⟩:=iy;cases ry;have ⟨d1,d2⟩:=uR k g2 g3
  have:(jh kvs k).isSome=b:=by
   rw [<- hb]
   cases hd:fJ ks ts k with
   | none=>rw [d2 hd];rfl
   | some t=>obtain ⟨v',hv,_⟩:=d1 t hd;rw [hv];rfl
  rcases ho with rfl | rfl
  ·refine Pw (by omega) I (.inl ⟨kvs,k,g1,rfl,rfl⟩:gK H p (kV k) (jh kvs k)) rx λs' I' => ?_
   rw [this];exact q s' I'
  ·refine a5 (by omega) I (.inl ⟨kvs,k,g1,rfl,rfl⟩:gK H p (kV k) (jh kvs k)) rx λs' I' => ?_
   rw [this];exact q s' I'
 cases ty<;>try (cases tx<;>simp [rn] at e;done)
 case str y' =>
  cases tx<;>simp only [rn,Option.some.injEq,reduceCtorEq] at e
  case str x' =>
   unfold Is at ix iy;subst ix iy;obtain ⟨t,rfl⟩:=rx;obtain ⟨t',rfl⟩:=ry
   rcases ho with rfl | rfl
   ·refine in_str ?_
    have:=q s I;rw [if_pos rfl,<- e] at this;exact this
   ·refine notIn_str ?_
    have:=q s I;rw [if_neg (by decide),<- e] at this;exact this
 case lst ts=>exact seqL rfl (by cases tx<;>simpa [rn] using e)
 case tup ts=>exact seqT rfl (by cases tx<;>simpa [rn] using e)
 case dct ks ts =>
  cases tx<;>simp [rn,uS] at e
  case int i=>unfold Is at ix;exact dct (k:=.inl i) rfl ix e
  case str i=>unfold Is at ix;exact dct (k:=.inr i) rfl ix e
theorem YM (hu:X.A.units + 41 < cLine):vm X (compareOp .In) (rT X.K qN):=by
 intro pins s σ H x y v u Q I rx ry h;obtain ⟨F,tx,ty,rv,d,ix,iy,e,q⟩:=h;simp only [qN,Option.map_eq_some_iff] at e;obtain ⟨k,e,rfl⟩:=e;exact VW hu I ix iy rx ry e (.inl rfl) λs' I'=>⟨.bl k,H,I',rfl,flat d xr q rfl⟩
def zq:T->T->Option RV
 | .lst ts,.int i=>(m3 ts i).map λt=>(false,t)
 | .tup ts,.int i=>(m3 ts i).map λt=>(false,t)
 | .str z,.int i=>if z.length<=sizeLine then (m3 z.cps.toList i).map λc=>(false,.str ⟨#[c]⟩) else none
 | .dct ks ts,y=>match uS y with
  | none=>none
  | some k=>(fJ ks ts k).map λt=>(false,t)
 | _,_=>none
theorem QN {prog:Program}{w:World}{A:Around}{E:Value->Shared->Prop}{s:Shared}{value slice:Expr}{o i:Value}{T id:String}{Q:Value->Shared->Prop}
  (hl:typeLookup (.type T) "__getitem__" = pure (some (.builtin id))) (hs:subscripted slice false o i=operate [o,i] (getItem o i)) (hT:s.TypeIs o T) (h:wpAny (model prog w) A (getItem o i) Q E s) :
  wpAny (model prog w) A (subscriptTail value slice o i) Q E s:=by
 unfold subscriptTail;refine wpAny_bind ?_;rw [getitemInPython_of_ne hT.not_modules];refine wpAny_bind (wpAny_specialOf hT hl ?_)
 have fin:wpAny (model prog w) A (subscripted slice false o i) (λr s₃=>wpAny (model prog w) A (letTemporaryGo value o r >>= λ_=>pure r) Q E s₃) E s:=by
  rw [hs];exact wpAny_operating (wpAny_mono h (λr s₃ h₃=>wpAny_bind (wpAny_letTemporaryGo (wpAny_pure h₃))) λ_ _ x=>x)
 first
  | exact wpAny_pure (wpAny_bind fin)
  | exact wpAny_bind (wpAny_pure (wpAny_bind fin))
  | exact wpAny_bind fin
theorem PJ (hu:X.A.units + 1 < cLine):Qy X (rT X.K zq):=by
 intro value slice pins s σ H x y v u Q I rx ry h hs;obtain ⟨F,tx,ty,rv,d,ix,iy,e,q⟩:=h;cases tx<;>simp only [zq,reduceCtorEq] at e
 case lst ts =>
  cases ty<;>simp only [reduceCtorEq] at e
  case int i =>
   simp only [Option.map_eq_some_iff] at e;obtain ⟨t,e,rfl⟩:=e;unfold Is at ix iy;obtain ⟨p,vs,rfl,g1,g2⟩:=ix;obtain ⟨z,hz,iz⟩:=g2.at e;exact Yv value slice pins s σ H _ _ v u Q I rx ry ⟨p,vs,i,z,rfl,iy,g1.sq,hz,flat d iz q rfl⟩ hs
 case tup ts =>
  cases ty<;>simp only [reduceCtorEq] at e
  case int i =>
   simp only [Option.map_eq_some_iff] at e;obtain ⟨t,e,rfl⟩:=e;unfold Is at ix iy;obtain ⟨p,vs,rfl,g1,g2⟩:=ix;obtain ⟨z,hz,iz⟩:=g2.at e;exact Vv value slice pins s σ H _ _ v u Q I rx ry ⟨p,vs,i,z,rfl,iy,g1,hz,flat d iz q rfl⟩ hs
 case str z =>
  cases ty<;>simp only [reduceCtorEq] at e
  case int i =>
   split at e
   ·rename_i hl
    simp only [Option.map_eq_some_iff] at e;obtain ⟨t,e,rfl⟩:=e;unfold Is at ix iy;exact Vw value slice pins s σ H _ _ v u Q I rx ry ⟨z,i,t,ix,iy,hl,e,flat d kh q rfl⟩ hs
   ·cases e
 case dct ks ts =>
  have key:∀ k,y=kV k->∀ t,fJ ks ts k=some t->rv=(false,t)->wpAny (model X.prog X.w) X.A (subscriptTail value slice v u) (EP X pins σ Q) X.xe s:=by
   intro k hy t ht hrv;unfold Is at ix;obtain ⟨p,kvs,rfl,f,g1,g2,g3⟩:=ix;cases rx;subst hy;obtain ⟨w,hw,iw⟩:=(uR k g2 g3).1 t ht;have g:gK H p (kV k) (some w):=by rw [<- hw];exact .inl ⟨kvs,k,g1,rfl,rfl⟩
   exact QN PySem.F.slot_dict_getitem.lookup hs (pE I g) (mT hu I g ry λw' s3 I3 rw'=>⟨w,H,I3,rw',flat d iw q hrv⟩)
  cases ty<;>simp only [uS,reduceCtorEq] at e
  case int i =>
   simp only [Option.map_eq_some_iff] at e;obtain ⟨t,e,rfl⟩:=e;unfold Is at iy;exact key (.inl i) iy t e rfl
  case str i =>
   simp only [Option.map_eq_some_iff] at e;obtain ⟨t,e,rfl⟩:=e;unfold Is at iy;exact key (.inr i) iy t e rfl
def ki (ts:List T)(lo hi:Option Int):List T:=(ts.drop (HT.sIx ts.length 0 lo)).take (HT.sIx ts.length ts.length hi - HT.sIx ts.length 0 lo)
def Zv:T->Option Int->Option Int->Option RV
 | .lst ts,lo,hi=>some (true,.lst (ki ts lo hi))
 | .tup ts,lo,hi=>some (false,.tup (ki ts lo hi))
 | .str z,lo,hi=>if z.length<=sizeLine then some (false,.str (u4 z lo hi)) else none
 | _,_,_=>none
theorem ai {K:W.Frag}{F:Addr->Prop}{H:Hp}{ts:List T}{vs:List V}{lo hi:Option Int}(h:IsAll K F H ts vs):IsAll K F H (ki ts lo hi) (eD vs lo hi):=by
 unfold ki eD;rw [h.len];exact (h.drop _).take _
def UQ (K:W.Frag)(f:T->Option Int->Option Int->Option RV):V->Option Int->Option Int->Hp->VK->Prop:=λx lo hi H Q=>∃ F tx rv,m7 F H/\Is K F H tx x/\f tx lo hi=some rv/\∀ v F' H',jv F H F' H'->wq K (λa=>H a=none) F' H' v rv->Q v H'
theorem PK:Qw X (UQ X.K Zv):=by
 intro pins s σ H x v vl vu lo hi sl Q I rx hs pl pu h;obtain ⟨F,tx,rv,d,ix,e,q⟩:=h;cases tx<;>simp only [Zv,reduceCtorEq] at e
 case lst ts =>
  cases e;unfold Is at ix;obtain ⟨p,vs,rfl,g1,g2⟩:=ix;exact Yw pins s σ H _ v vl vu lo hi sl Q I rx hs pl pu ⟨p,vs,rfl,g1.sq,λl hl=>o7 d (ai g2) hl q⟩
 case tup ts =>
  cases e;have ix':=ix;unfold Is at ix;obtain ⟨p,vs,rfl,g1,g2⟩:=ix
  by_cases hw:HT.sIx vs.length 0 lo=0/\HT.sIx vs.length vs.length hi=vs.length
  ·cases rx
   obtain ⟨its,r,ht,hz⟩:=I.tuple g1;have hlen:its.toArray.size=vs.length:=by rw [List.size_toArray];exact r.length.symm
   refine ⟨"tuple",_,PyProof.Rows.slot_tuple_getitem.lookup,ht.typeIs,HT.getItem_tuple_whole ht hs pl pu (by rw [hlen];exact hw) ⟨.ref p,H,I,rfl,flat d ix' q ?_⟩⟩
   have:ki ts lo hi=ts:=by
    unfold ki;rw [g2.len,hw.1,hw.2,List.drop_zero];exact List.take_of_length_le (by rw [g2.len];omega)
   rw [this]
  ·exact Vu pins s σ H _ v vl vu lo hi sl Q I rx hs pl pu ⟨p,vs,rfl,g1,hw,λl hl=>YL d (ai g2) hl q⟩
 case str z =>
  split at e<;>cases e
  rename_i hl;unfold Is at ix;exact VM pins s σ H _ v vl vu lo hi sl Q I rx hs pl pu ⟨z,ix,hl,flat d kh q rfl⟩
end
def Zw:T->Option Bool
 | .non=>some false
 | .bl b=>some b
 | .int i=>some (i != 0)
 | .str y=>if y.length<=sizeLine then some ((y.length:Int) != 0) else none
 | .lst ts=>some (!ts.isEmpty)
 | .tup ts=>some (!ts.isEmpty)
 | _=>none
def YN {K:W.Frag}{F:Addr->Prop}{H:Hp}{t:T}{x:V}{b:Bool}(h:Zw t=some b)(i:Is K F H t x):Vp K x H b:=by
 cases t<;>simp only [Zw,Option.some.injEq,reduceCtorEq] at h<;>unfold Is at i
 case non=>subst i h;rfl
 case bl=>subst i h;rfl
 case int=>subst i h;rfl
 case str y =>
  split at h
  ·rename_i hl
   subst i;exact ⟨hl,(Option.some.inj h).symm⟩
  ·cases h
 case lst ts =>
  obtain ⟨a,vs,rfl,g1,g2⟩:=i;refine .inl ⟨vs,g1.sq,?_⟩;have:=g2.len;rw [<- h];cases ts<;>cases vs<;>simp at this ⊢
 case tup ts =>
  obtain ⟨a,vs,rfl,g1,g2⟩:=i;refine .inr (.inl ⟨vs,g1,?_⟩);have:=g2.len;rw [<- h];cases ts<;>cases vs<;>simp at this ⊢
section
variable {X:Cx}{a b c e:Expr}{pos:Pos}{ma mb mc:ME}{ta tb tc:TE}{rest:List Expr}
def wX (m:ME):MT:=λenv=>(m env).bind λx=>rl (Zw x.2)
theorem j3 (ha:jm X a ma)(he:∀ whole,isTrue a X.env whole=(do let v <- whole;standAt a.pos;holding [v] (truthy v))):cu X a (wX ma):=by
 obtain ⟨ta,pa,sa⟩:=ha;refine ⟨_,rV pa he,?_⟩;intro F H σ env Q R nb ok ex;unfold wX at nb ok ex;refine sa.val R (λz=>by rw [z] at nb;exact nb rfl) (λr1 e1 v1 F1 H1 x1 i1 => ?_) λx z=>ex x (by rw [z];rfl);rw [e1,bind_ok] at nb ok
 cases h:Zw r1.2 with
 | none=>rw [h] at nb;exact absurd rfl nb
 | some k =>
  rw [h] at ok;exact ⟨k,YN h i1,ok k rfl F1 H1 x1⟩
def jc (m:MT):MT:=λenv=>(m env).bind λx=>.ok (!x)
def jS (m n:MT):MT:=λenv=>(m env).bind λx=>if x=true then n env else .ok false
def wv (m n:MT):MT:=λenv=>(m env).bind λx=>if x=true then .ok true else n env
theorem Zx (h:vI X t m):vI X (Qd t) (jc m):=by
 intro F H σ env Q R nb ok ex;unfold jc at nb ok ex;refine h F H σ env _ R (λz=>by rw [z] at nb;exact nb rfl) (λk e F' H' x => ?_) λx z=>ex x (by rw [z];rfl);rw [e,bind_ok] at ok;exact ok _ rfl F' H' x
theorem Zy (h:vI X t m)(g:vI X u n):vI X (Qc t u) (jS m n):=by
 intro F H σ env Q R nb ok ex;unfold jS at nb ok ex;refine h F H σ env _ R (λz=>by rw [z] at nb;exact nb rfl) (λk e F1 H1 x1 => ?_) λx z=>ex x (by rw [z];rfl);rw [e,bind_ok] at nb ok ex
 cases k with
 | true =>
  rw [if_pos rfl] at nb ok ex ⊢;exact g F1 H1 σ env Q (R.mono x1) nb (λk e F' H' x=>ok k e F' H' (x1.trans x)) λx z=>(ex x z).mono x1
 | false =>
  rw [if_neg Bool.false_ne_true] at ok ⊢;exact ok _ rfl F1 H1 x1
theorem YO (h:vI X t m)(g:vI X u n):vI X (Uq t u) (wv m n):=by
 intro F H σ env Q R nb ok ex;unfold wv at nb ok ex;refine h F H σ env _ R (λz=>by rw [z] at nb;exact nb rfl) (λk e F1 H1 x1 => ?_) λx z=>ex x (by rw [z];rfl);rw [e,bind_ok] at nb ok ex
 cases k with
 | false =>
  rw [if_neg Bool.false_ne_true] at nb ok ex ⊢;exact g F1 H1 σ env Q (R.mono x1) nb (λk e F' H' x=>ok k e F' H' (x1.trans x)) λx z=>(ex x z).mono x1
 | true =>
  rw [if_pos rfl] at ok ⊢;exact ok _ rfl F1 H1 x1
def Wh (X:Cx)(e:Expr)(m:MT):Prop := ∃ t,PW X e t/\vI X t m
theorem Wh.pt (h:Wh X e m):cu X e m:=let ⟨t,p,s⟩:=h;⟨t,p.pt,s⟩
theorem uf (h:cu X a m):Wh X (.BoolOp .And [a] pos) m:=let ⟨t,p,s⟩:=h;⟨t,Yi p,s⟩
theorem kj (h:cu X a m):Wh X (.BoolOp .Or [a] pos) m:=let ⟨t,p,s⟩:=h;⟨t,V0 p,s⟩
theorem uU (h:cu X a m)(g:Wh X (.BoolOp .And (b :: rest) pos) n):Wh X (.BoolOp .And (a :: b :: rest) pos) (jS m n):=by
 obtain ⟨t,p,s⟩:=h;obtain ⟨u,p',s'⟩:=g;exact ⟨_,V1 p p',Zy s s'⟩
theorem gO (h:cu X a m)(g:Wh X (.BoolOp .Or (b :: rest) pos) n):Wh X (.BoolOp .Or (a :: b :: rest) pos) (wv m n):=by
 obtain ⟨t,p,s⟩:=h;obtain ⟨u,p',s'⟩:=g;exact ⟨_,Qe p p',YO s s'⟩
theorem v7 (h:cu X a m):cu X (.UnaryOp .Not a pos) (jc m):=let ⟨t,p,s⟩:=h;⟨_,V2 p,Zx s⟩
def jl (ma mb:ME):ME:=λenv=>(ma env).bind λx=>match x.2 with
 | .bl k=>if k=true then mb env else .ok (false,.bl false)
 | _=>.bad
def d9 (ma mb:ME):ME:=λenv=>(ma env).bind λx=>match x.2 with
 | .bl k=>if k=true then .ok (false,.bl true) else mb env
 | _=>.bad
def kN (ma:ME):ME:=λenv=>(ma env).bind λx=>match x.2 with
 | .bl k=>.ok (false,.bl (!k))
 | _=>.bad
theorem v8 {K:W.Frag}{F F1 F':Addr->Prop}{H H1 H':Hp}{v:V}{r:RV}(x:jv F H F1 H1)(i:wq K (λa=>H1 a=none) F' H' v r):wq K (λa=>H a=none) F' H' v r:=by
 unfold wq at i ⊢
 split
 ·rename_i ho
  rw [if_pos ho] at i;obtain ⟨a,e,nf,fr,o⟩:=i;exact ⟨a,e,nf,jK x.same fr,o⟩
 ·rename_i ho
  rw [if_neg ho] at i;exact i
theorem xE.next (h:xE X t m)(R:xL X.K F H σ env)(x1:jv F H F1 H1)(nb:m env≠.bad)
  (ok:∀ r,m env=.ok r->∀ v F' H',jv F H F' H'->wq X.K (λa=>H a=none) F' H' v r->Q v H') (ex:∀ x,m env=.exc x->rm X F H σ x):t σ H1 Q :=
 h F1 H1 σ env Q (R.mono x1) nb (λr e v F' H' x i=>ok r e v F' H' (x1.trans x) (v8 x1 i)) λx z=>(ex x z).mono x1
theorem kO {op}(h:jm X a m):jm X (.BoolOp op [a] pos) m:=let ⟨t,p,s⟩:=h;⟨t,V3 p,s⟩
theorem vY (ha:jm X a ma)(hb:jm X (.BoolOp .And (b :: rest) pos) mb):jm X (.BoolOp .And (a :: b :: rest) pos) (jl ma mb):=by
 obtain ⟨ta,pa,sa⟩:=ha;obtain ⟨tb,pb,sb⟩:=hb;refine ⟨_,V4 pa pb,?_⟩;intro F H σ env Q R nb ok ex;unfold jl at nb ok ex;refine sa.val R (λz=>by rw [z] at nb;exact nb rfl) (λr1 e1 v1 F1 H1 x1 i1 => ?_) λx z=>ex x (by rw [z];rfl);rw [e1,bind_ok] at nb ok ex;obtain ⟨o,t⟩:=r1
 cases t with
 | bl k =>
  unfold Is at i1;refine ⟨k,i1,?_⟩
  cases k with
  | true=>rw [if_pos rfl];exact sb.next R x1 nb ok ex
  | false=>rw [if_neg Bool.false_ne_true];exact ok _ rfl _ F1 H1 x1 (je xr)
 | _=>exact absurd rfl nb
theorem QO (ha:jm X a ma)(hb:jm X (.BoolOp .Or (b :: rest) pos) mb):jm X (.BoolOp .Or (a :: b :: rest) pos) (d9 ma mb):=by
 obtain ⟨ta,pa,sa⟩:=ha;obtain ⟨tb,pb,sb⟩:=hb;refine ⟨_,Qh pa pb,?_⟩;intro F H σ env Q R nb ok ex;unfold d9 at nb ok ex;refine sa.val R (λz=>by rw [z] at nb;exact nb rfl) (λr1 e1 v1 F1 H1 x1 i1 => ?_) λx z=>ex x (by rw [z];rfl);rw [e1,bind_ok] at nb ok ex;obtain ⟨o,t⟩:=r1
 cases t with
 | bl k =>
  unfold Is at i1;refine ⟨k,i1,?_⟩
  cases k with
  | false=>rw [if_neg Bool.false_ne_true];exact sb.next R x1 nb ok ex
  | true=>rw [if_pos rfl];exact ok _ rfl _ F1 H1 x1 (je xr)
 | _=>exact absurd rfl nb
theorem da (ha:jm X a ma):jm X (.UnaryOp .Not a pos) (kN ma):=by
 obtain ⟨ta,pa,sa⟩:=ha;refine ⟨_,V5 pa,?_⟩;intro F H σ env Q R nb ok ex;unfold kN at nb ok ex;refine sa.val R (λz=>by rw [z] at nb;exact nb rfl) (λr1 e1 v1 F1 H1 x1 i1 => ?_) λx z=>ex x (by rw [z];rfl);rw [e1,bind_ok] at nb ok ex;obtain ⟨o,t⟩:=r1
 cases t with
 | bl k =>
  unfold Is at i1;exact ⟨k,i1,ok _ rfl _ F1 H1 x1 (je xr)⟩
 | _=>exact absurd rfl nb
def fL (ma:ME):ME:=λenv=>(ma env).bind λx=>match x.2 with
 | .int i=>.ok (false,.int (-i))
 | _=>.bad
theorem aj (ha:jm X a ma):jm X (.UnaryOp .USub a pos) (fL ma):=by
 obtain ⟨ta,pa,sa⟩:=ha;refine ⟨_,Qq Vn pa,?_⟩;intro F H σ env Q R nb ok ex;unfold fL at nb ok ex;refine sa.val R (λz=>by rw [z] at nb;exact nb rfl) (λr1 e1 v1 F1 H1 x1 i1 => ?_) λx z=>ex x (by rw [z];rfl);rw [e1,bind_ok] at nb ok ex;obtain ⟨o,t⟩:=r1
 cases t with
 | int k =>
  unfold Is at i1;exact ⟨k,i1,ok _ rfl _ F1 H1 x1 (je x8)⟩
 | _=>exact absurd rfl nb
def gP (m:MT)(ma mb:ME):ME:=λenv=>(m env).bind λk=>if k=true then ma env else mb env
theorem gQ (hc:cu X c m)(ha:jm X a ma)(hb:jm X b mb):jm X (.IfExp c a b pos) (gP m ma mb):=by
 obtain ⟨t,p,s⟩:=hc;obtain ⟨ta,pa,sa⟩:=ha;obtain ⟨tb,pb,sb⟩:=hb;refine ⟨_,el p pa pb,?_⟩;intro F H σ env Q R nb ok ex;unfold gP at nb ok ex;refine s F H σ env _ R (λz=>by rw [z] at nb;exact nb rfl) (λk e F1 H1 x1 => ?_) λx z=>ex x (by rw [z];rfl);rw [e,bind_ok] at nb ok ex
 cases k with
 | true=>rw [if_pos rfl] at nb ok ex ⊢;exact sa.next R x1 nb ok ex
 | false=>rw [if_neg Bool.false_ne_true] at nb ok ex ⊢;exact sb.next R x1 nb ok ex
theorem zZ (hu:X.A.units + 1 < cLine)(ha:jm X a ma)(hb:jm X b mb)(hs:bX b):jm X (.Subscript a b pos) (m2 zq ma mb):=by
 obtain ⟨ta,pa,sa⟩:=ha;obtain ⟨tb,pb,sb⟩:=hb;exact ⟨_,Qz (PJ hu) pa pb hs,lT zd sa sb⟩
abbrev MO:=En->vX (Option Int)
def PL (X:Cx)(t:TO)(m:MO):Prop :=
 ∀ (F:Addr->Prop) (H:Hp) (σ:St) (env:En) (Q:Option Int->Hp->Prop),xL X.K F H σ env->m env≠.bad ->
  (∀ b,m env=.ok b->∀ F' H',jv F H F' H'->Q b H')->(∀ x,m env=.exc x->rm X F H σ x)->t σ H Q
def GN (X:Cx)(e:Option Expr)(m:MO):Prop := ∃ t,PO X e t/\PL X t m
def xp:MO:=λ_=>.ok none
def zy (m:ME):MO:=λenv=>(m env).bind λx=>match x.2 with
 | .int i=>.ok (some i)
 | _=>.bad
theorem qI:GN X none xp:=⟨_,Yr,λF H σ env Q R nb ok ex=>ok none rfl F H (.refl R.dom)⟩
theorem jk (ha:jm X a ma):GN X (some a) (zy ma):=by
 obtain ⟨ta,pa,sa⟩:=ha;refine ⟨_,Ys pa,?_⟩;intro F H σ env Q R nb ok ex;unfold zy at nb ok ex;refine sa.val R (λz=>by rw [z] at nb;exact nb rfl) (λr1 e1 v1 F1 H1 x1 i1 => ?_) λx z=>ex x (by rw [z];rfl);rw [e1,bind_ok] at nb ok ex;obtain ⟨o,t⟩:=r1
 cases t with
 | int k=>unfold Is at i1;exact ⟨k,i1,ok _ rfl F1 H1 x1⟩
 | _=>exact absurd rfl nb
def kZ (ma:ME)(ml mh:MO):ME:=λenv=>(ma env).bind λx=>(ml env).bind λl=>(mh env).bind λh=>rl (Zv x.2 l h)
theorem xC {lo hi:Option Expr}{ml mh:MO}{p2:Pos}(ha:jm X a ma)(hl:GN X lo ml)(hh:GN X hi mh):jm X (.Subscript a (.Slice lo hi none p2) pos) (kZ ma ml mh):=by
 obtain ⟨ta,pa,sa⟩:=ha;obtain ⟨tl,pl,sl⟩:=hl;obtain ⟨th,ph,sh⟩:=hh;refine ⟨_,Z1 PK pa pl ph,?_⟩;intro F H σ env Q R nb ok ex;unfold kZ at nb ok ex;refine sa.val R (λz=>by rw [z] at nb;exact nb rfl) (λr1 e1 v1 F1 H1 x1 i1 => ?_) λx z=>ex x (by rw [z];rfl);rw [e1,bind_ok] at nb ok ex;refine sl F1 H1 σ env _ (R.mono x1) (λz=>by rw [z] at nb;exact nb rfl) (λl e2 F2 H2 x2 => ?_) λx z=>(ex x (by rw [z];rfl)).mono x1;rw [e2,bind_ok] at nb ok ex;refine sh F2 H2 σ env _ ((R.mono x1).mono x2) (λz=>by rw [z] at nb;exact nb rfl) (λh e3 F3 H3 x3 => ?_) λx z=>(ex x (by rw [z];rfl)).mono (x1.trans x2);rw [e3,bind_ok] at nb ok ex
 cases h:Zv r1.2 l h with
 | none=>rw [h] at nb;exact absurd rfl nb
 | some rv =>
  rw [h] at ok;have x13:=(x1.trans x2).trans x3;exact ⟨F3,r1.2,rv,x3.dom,i1.mono (x2.trans x3).kept,h,λv F' H' x i=>ok rv rfl v F' H' (x13.trans x) (v8 x13 i)⟩
end
def xx (K:W.Frag)(fr F:Addr->Prop)(H:Hp):List V->List RV->Prop
 | [],[]=>True
 | v :: vs,r :: rs=>wq K fr F H v r/\xx K fr F H vs rs/\(r.1=true->∀ (i:Nat) (r':RV),rs[i]? = some r'->r'.1=true->vs[i]?≠some v)
 | _,_=>False
def wq.there {K:W.Frag}{fr F:Addr->Prop}{H:Hp}{v:V}{r:RV}(h:wq K fr F H v r)(o:r.1=true):∃ a,v=.ref a/\¬ F a/\fr a/\H a≠none/\xU K F H a r.2:=by
 unfold wq at h;rw [if_pos o] at h;obtain ⟨a,e,nf,f,w⟩:=h;exact ⟨a,e,nf,f,w.there,w⟩
def wq.mono {K:W.Frag}{fr F F1:Addr->Prop}{H H1:Hp}{v:V}{r:RV}(x:jv F H F1 H1)(h:wq K fr F H v r):wq K fr F1 H1 v r:=by
 unfold wq at h ⊢
 split
 ·rename_i o
  rw [if_pos o] at h;obtain ⟨a,e,nf,f,w⟩:=h;refine ⟨a,e,λz => ?_,f,w.mono x.kept λo q=>x.same a o q⟩
  rcases x.new a z with z | z
  ·exact nf z
  ·exact w.there z
 ·rename_i o
  rw [if_neg o] at h;exact h.mono x.kept
def xx.frz {K:W.Frag}{F F1:Addr->Prop}{H H1:Hp} : ∀ {vs:List V} {rs:List RV},jv F H F1 H1->xx K (λa=>H a=none) F1 H1 vs rs->∃ F2,jv F H F2 H1/\(∀ a,F1 a->F2 a)/\IsAll K F2 H1 (rs.map (·.2)) vs
 | [],[],x,_=>⟨F1,x,λ_ h=>h,IsAll.nil⟩
 | [],_ :: _,_,h=>h.elim
 | _ :: _,[],_,h=>h.elim
 | v :: vs,r :: rs,x,h=>by
  obtain ⟨h1,h2,_⟩:=h;obtain ⟨F2,x2,s2,i2⟩:=xx.frz x h2
  by_cases o:r.1=true
  ·obtain ⟨a,rfl,nf,fr,th,w⟩:=h1.there o
   refine ⟨λb=>F2 b\/b=a,x2.freeze fr th,λb q=>.inl (s2 b q),IsAll.cons ?_ (i2.mono ⟨λb q=>.inl q,λ_ _ _ q=>q,λ_ _ q _ _=>q⟩)⟩;exact w.is (λb q=>.inl (s2 b q)) (.inr rfl)
  ·obtain ⟨o',t⟩:=r
   cases o' with
   | true=>exact absurd rfl o
   | false=>exact ⟨F2,x2,s2,IsAll.cons (h1.is.mono ⟨s2,λ_ _ _ q=>q,λ_ _ q _ _=>q⟩) i2⟩
def YQ (X:Cx)(t:TA)(m:MA):Prop :=
 ∀ (F:Addr->Prop) (H:Hp) (σ:St) (env:En) (Q:List V->Hp->Prop),xL X.K F H σ env->m env≠.bad ->
  (∀ rs,m env=.ok rs->∀ vs F' H',jv F H F' H'->xx X.K (λa=>H a=none) F' H' vs rs->Q vs H')->(∀ x,m env=.exc x->rm X F H σ x)->t σ H Q
def Zz (X:Cx)(es:List Expr)(m:MA):Prop := ∃ t,PA X es t/\YQ X t m
def z5:MA:=λ_=>.ok []
def z3 (me:ME)(ma:MA):MA:=λenv=>(me env).bind λx=>(ma env).bind λxs=>.ok (x :: xs)
def z9:Zz X [] z5:=⟨_,vH,λF H σ env Q R nb ok ex=>ok [] rfl [] F H (.refl R.dom) trivial⟩
def z4 (he:jm X e me)(ha:Zz X es ma)(hs:starEach (e :: es) X.env=(false,eval e X.env) :: starEach es X.env:=by rfl):Zz X (e :: es) (z3 me ma):=by
 obtain ⟨te,pe,se⟩:=he;obtain ⟨ta,pa,sa⟩:=ha;refine ⟨_,xK pe pa hs,?_⟩;intro F H σ env Q R nb ok ex;unfold z3 at nb ok ex;refine se F H σ env _ R (λz=>by rw [z] at nb;exact nb rfl) (λr1 e1 v1 F1 H1 x1 i1 => ?_) λx z=>ex x (by rw [z];rfl);rw [e1,bind_ok] at nb ok ex;refine sa F1 H1 σ env _ (R.mono x1) (λz=>by rw [z] at nb;exact nb rfl) (λrs e2 vs F2 H2 x2 i2 => ?_) λx z=>(ex x (by rw [z];rfl)).mono x1;rw [e2,bind_ok] at ok
 have back:∀ {vs:List V} {rs:List RV},xx X.K (λa=>H1 a=none) F2 H2 vs rs->xx X.K (λa=>H a=none) F2 H2 vs rs/\∀ (i:Nat) (r':RV) (a:Addr),rs[i]? = some r'->r'.1=true->vs[i]? = some (.ref a)->H1 a=none:=by
  intro vs
  induction vs with
  | nil =>
   intro rs h
   cases rs with
   | nil=>exact ⟨trivial,λi r' a h=>by simp at h⟩
   | cons _ _=>exact h.elim
  | cons v vs ih =>
   intro rs h
   cases rs with
   | nil=>exact h.elim
   | cons r rs =>
    obtain ⟨h1,h2,h3⟩:=h;obtain ⟨g1,g2⟩:=ih h2;refine ⟨⟨v8 x1 h1,g1,h3⟩,λi r' a hr ho hv => ?_⟩
    cases i with
    | zero =>
     simp at hr hv;subst hr hv;obtain ⟨b,e,_,f,_⟩:=h1.there ho;cases e;exact f
    | succ i=>exact g2 i r' a (by simpa using hr) ho (by simpa using hv)
 obtain ⟨b1,b2⟩:=back i2;refine ok _ rfl (v1 :: vs) F2 H2 (x1.trans x2) ⟨i1.mono x2,b1,λho i r' hr ho' hv => ?_⟩;obtain ⟨a,rfl,_,_,th,_⟩:=i1.there ho;exact th (b2 i r' a hr ho' hv)
def jI (ma:MA):ME:=λenv=>(ma env).bind λrs=>if rs.length<=sizeLine then .ok (false,.tup (rs.map (·.2))) else .bad
def wy (ma:MA):ME:=λenv=>(ma env).bind λrs=>if rs.length<=sizeLine then .ok (true,.lst (rs.map (·.2))) else .bad
def xx.len {K:W.Frag}{fr F:Addr->Prop}{H:Hp} : ∀ {vs:List V} {rs:List RV},xx K fr F H vs rs->vs.length=rs.length
 | [],[],_=>rfl
 | [],_ :: _,h=>h.elim
 | _ :: _,[],h=>h.elim
 | _ :: vs,_ :: rs,h=>by rw [List.length_cons,List.length_cons,xx.len h.2.1]
def wQ {x1}(h:Zz X es ma):jm X (.Tuple es x1 pos) (jI ma):=by
 obtain ⟨ta,pa,sa⟩:=h;refine ⟨_,Vs pa,?_⟩;intro F H σ env Q R nb ok ex;unfold jI at nb ok ex;refine sa F H σ env _ R (λz=>by rw [z] at nb;exact nb rfl) (λrs e1 vs F1 H1 x1 i1 => ?_) λx z=>ex x (by rw [z];rfl);rw [e1,bind_ok] at nb ok ex;obtain ⟨F2,x2,s2,i2⟩:=i1.frz x1
 by_cases hl:rs.length<=sizeLine
 ·rw [if_pos hl] at ok
  refine ⟨by rw [i1.len];exact hl,λp hp => ?_⟩;exact YL x2.dom i2 hp λv F' H' x i=>ok _ rfl v F' H' (x2.trans x) (v8 x2 i)
 ·rw [if_neg hl] at nb
  exact absurd rfl nb
def gR (h:Zz X es ma):jm X (.List es pos) (wy ma):=by
 obtain ⟨ta,pa,sa⟩:=h;refine ⟨_,Vt pa,?_⟩;intro F H σ env Q R nb ok ex;unfold wy at nb ok ex;refine sa F H σ env _ R (λz=>by rw [z] at nb;exact nb rfl) (λrs e1 vs F1 H1 x1 i1 => ?_) λx z=>ex x (by rw [z];rfl);rw [e1,bind_ok] at nb ok ex;obtain ⟨F2,x2,s2,i2⟩:=i1.frz x1
 by_cases hl:rs.length<=sizeLine
 ·rw [if_pos hl] at ok
  refine ⟨by rw [i1.len];exact hl,λp hp => ?_⟩;exact o7 x2.dom i2 hp λv F' H' x i=>ok _ rfl v F' H' (x2.trans x) (v8 x2 i)
 ·rw [if_neg hl] at nb
  exact absurd rfl nb
def zm (f:List T->Option RV)(ma:MA):ME:=λenv=>(ma env).bind λrs=>rl (f (rs.map (·.2)))
def ZA {f:List T->Option RV}{t:TA}(sa:YQ X t ma):xE X (Pl (Y7 X.K f) t) (zm f ma):=by
 intro F H σ env Q R nb ok ex;unfold zm at nb ok ex;refine sa F H σ env _ R (λz=>by rw [z] at nb;exact nb rfl) (λrs e1 vs F1 H1 x1 i1 => ?_) λx z=>ex x (by rw [z];rfl);rw [e1,bind_ok] at nb ok ex;obtain ⟨F2,x2,s2,i2⟩:=i1.frz x1
 cases h:f (rs.map (·.2)) with
 | none=>rw [h] at nb;exact absurd rfl nb
 | some rv =>
  rw [h] at ok;exact ⟨F2,_,rv,x2.dom,i2,h,λv F' H' x i=>ok rv rfl v F' H' (x2.trans x) (v8 x2 i)⟩
def zA {id:String}{f:List T->Option RV}(hc:we X (.builtin id) (Y7 X.K f))(hg:Gl X x)(hm:X.mg x=none)(hv:bootBuiltins x=some (.builtin id))(ha:Zz X (e :: es) ma)(hn:x ≠ "__name__" := by decide)(hdb:(x == ("__debug__" : Str))=false:=by decide)
  (he:starEach (e :: es) X.env=(false,eval e X.env) :: starEach es X.env:=by rfl) (hpl:(backTo pos (starEach es X.env)).any (·.1)=false:=by rfl):jm X (.Call (.Name x p) (e :: es) [] pos) (zm f ma):=by
 obtain ⟨ta,pa,sa⟩:=ha;exact ⟨_,eC hc hg hm hv pa hn hdb he hpl,ZA sa⟩
def uV {id:String}{f:List T->Option RV}(hc:we X (.type id) (Y7 X.K f))(hg:Gl X x)(hm:X.mg x=none)(hv:bootBuiltins x=some (.type id))(ha:Zz X (e :: es) ma)(hn:x ≠ "__name__" := by decide)(hdb:(x == ("__debug__" : Str))=false:=by decide)
  (he:starEach (e :: es) X.env=(false,eval e X.env) :: starEach es X.env:=by rfl) (hpl:(backTo pos (starEach es X.env)).any (·.1)=false:=by rfl):jm X (.Call (.Name x p) (e :: es) [] pos) (zm f ma):=by
 obtain ⟨ta,pa,sa⟩:=ha;exact ⟨_,tP hc hg hm hv pa hn hdb he hpl,ZA sa⟩
structure Bs where
 M:Addr->Prop
 H:Hp
 F:Addr->Prop
structure ug (B:Bs) (F:Addr->Prop) (H:Hp):Prop where
 dom:m7 F H
 sub:∀ a,B.F a->F a
 new:∀ a,F a->B.F a\/B.H a=none\/B.M a
 keep:∀ a o,B.H a=some o->¬ B.M a->H a=some o
 f0:∀ a,B.F a->¬ B.M a
structure zJ (K:W.Frag) (B:Bs) (F:Addr->Prop) (H:Hp) (σ:St) (env:En):Prop where
 fr:ug B F H
 len:env.length=σ.length
 vals:∀ (i:Nat) (t:T),env[i]? = some (some (false,t))->∃ v,σ[i]? = some (some v)/\Is K F H t v
 owns:∀ (i:Nat) (t:T),env[i]? = some (some (true,t))->∃ a,σ[i]? = some (some (.ref a))/\¬ F a/\(B.H a=none\/B.M a)/\xU K F H a t
 sep:∀ (i j:Nat) (t t':T) (a:Addr),env[i]? = some (some (true,t))->env[j]? = some (some (true,t'))->σ[i]? = some (some (.ref a))->σ[j]? = some (some (.ref a))->i=j
structure ZB (K:W.Frag) (B:Bs) (F:Addr->Prop) (H:Hp) (v:V) (r:RV):Prop where
 fr:ug B F H
 val:wq K (λa=>B.H a=none\/B.M a) F H v r
def kP:Option RV->Option RV
 | some (true,_)=>none
 | o=>o
def hide (env:En):En:=env.map kP
def u5:Option RV->Option RV
 | some (_,t)=>some (false,t)
 | none=>none
def cZ (env:En):En:=env.map u5
def gk:Option RV->Bool
 | some (true,.lst _)=>true
 | _=>false
def lV:Option RV->Bool
 | some (true,.dct _ _)=>true
 | _=>false
def lW:Option RV->Bool
 | some (true,.obj _ _ _)=>true
 | _=>false
def lX:RV->Bool
 | (true,.lst ts)=>noLs ts
 | (true,.dct _ ts)=>noLs ts
 | (true,.obj _ _ ts)=>noLs ts
 | (_,t)=>ef t
def o9:RV->Bool
 | (true,.lst ts)=>noDs ts
 | (true,.dct _ ts)=>noDs ts
 | (true,.obj _ _ ts)=>noDs ts
 | (_,t)=>eV t
def og:RV->Bool
 | (true,.lst ts)=>noOs ts
 | (true,.dct _ ts)=>noOs ts
 | (true,.obj _ _ ts)=>noOs ts
 | (_,t)=>eW t
theorem Wi {C:Addr}{t:T}(h:lX (false,t)=true):ef (.exn C t)=true:=by rw [ef];cases t<;>exact h
theorem Wj {C:Addr}{t:T}(h:o9 (false,t)=true):eV (.exn C t)=true:=by rw [eV];cases t<;>exact h
theorem Wk {C:Addr}{t:T}(h:og (false,t)=true):eW (.exn C t)=true:=by rw [eW];cases t<;>exact h
def clean (env:En)(r:RV):Bool:=(!env.any gk || lX r) && (!env.any lV || o9 r) && (!env.any lW || og r)
def gm (hc:clean env r=true):(env.any gk=true->lX r=true)/\(env.any lV=true->o9 r=true)/\(env.any lW=true->og r=true):=by
 unfold clean at hc;simp only [Bool.and_eq_true,Bool.or_eq_true,Bool.not_eq_true'] at hc;exact ⟨λz=>by rcases hc.1.1 with q | q;(rw [z] at q;cases q);exact q,λz=>by rcases hc.1.2 with q | q;(rw [z] at q;cases q);exact q,λz=>by rcases hc.2 with q | q;(rw [z] at q;cases q);exact q⟩
def settle (env:En)(r:RV):En:=if clean env r=true then env else cZ env
def jw (m:ME)(env:En):vX (RV×En):=match m (hide env) with
 | .ok r=>.ok (r,env)
 | .exc x=>.exc x
 | .bad=>match m env with
  | .ok r=>.ok (r,settle env r)
  | .exc x=>if clean env (false,x.at_)=true then .exc x else .bad
  | .bad=>.bad
section
variable {K:W.Frag}{B:Bs}{F F':Addr->Prop}{H H':Hp}{σ:St}{env:En}{v:V}{r:RV}
theorem kf {f:Option RV->Option RV}{i:Nat}{o:Option RV}(h:(env.map f)[i]? = some o):∃ o',env[i]? = some o'/\f o'=o:=by
 rw [List.getElem?_map] at h
 cases e:env[i]? with
 | none=>rw [e] at h;cases h
 | some o'=>rw [e] at h;exact ⟨o',rfl,Option.some.inj h⟩
theorem db {i:Nat}{r:RV}(h:(hide env)[i]? = some (some r)):∃ t,r=(false,t)/\env[i]? = some (some (false,t)):=by
 obtain ⟨o,e,q⟩:=kf h
 cases o with
 | none=>cases q
 | some r' =>
  obtain ⟨b,t⟩:=r'
  cases b with
  | true=>cases q
  | false=>cases q;exact ⟨t,rfl,e⟩
theorem zC (f:ug B F H)(h:H a=none):B.H a=none\/B.M a:=by
 cases e:B.H a with
 | none=>exact .inl rfl
 | some o =>
  by_cases hm:B.M a
  ·exact .inr hm
  ·rw [f.keep a o e hm] at h;cases h
theorem ug.ext (f:ug B F H)(x:jv F H F' H'):ug B F' H':=by
 refine ⟨x.dom,λa h=>x.sub a (f.sub a h),λa h => ?_,λa o h hm=>x.same a o (f.keep a o h hm),f.f0⟩
 rcases x.new a h with h | h
 ·exact f.new a h
 ·exact .inr (zC f h)
theorem zJ.hid (R:zJ K B F H σ env):xL K F H σ (hide env) :=
 ⟨R.fr.dom,λi r h=>by
  obtain ⟨t,rfl,e⟩:=db h;exact R.vals i t e⟩
def ak (σ:St)(env:En)(a:Addr):Prop := ∃ (i:Nat) (t:T),env[i]? = some (some (true,t))/\σ[i]? = some (some (V.ref a))
theorem zJ.own_not (R:zJ K B F H σ env)(h:ak σ env a):¬ F a/\H a≠none/\(B.H a=none\/B.M a):=by
 obtain ⟨i,t,e,s⟩:=h;obtain ⟨b,s',nf,fr,o⟩:=R.owns i t e;rw [s] at s';cases s';exact ⟨nf,o.there,fr⟩
theorem zJ.opn (R:zJ K B F H σ env):xL K (λa=>F a\/ak σ env a) H σ env :=
 ⟨λa h=>by
  rcases h with h | h
  ·exact R.fr.dom a h
  ·exact (R.own_not h).2.1,λi r h=>by
  obtain ⟨b,t⟩:=r
  cases b with
  | false =>
   obtain ⟨v,s,q⟩:=R.vals i t h;exact ⟨v,s,q.mono ⟨λa h=>.inl h,λ_ _ _ h=>h,λ_ _ h _ _=>h⟩⟩
  | true =>
   obtain ⟨a,s,nf,fr,o⟩:=R.owns i t h;exact ⟨.ref a,s,o.is (λb h=>.inl h) (.inr ⟨i,t,h,s⟩)⟩⟩
theorem zJ.ext (R:zJ K B F H σ env)(x:jv F H F' H'):zJ K B F' H' σ env :=
 ⟨R.fr.ext x,R.len,λi t h=>let ⟨v,s,q⟩:=R.vals i t h;⟨v,s,q.mono x.kept⟩,λi t h=>by
  obtain ⟨a,s,nf,fr,o⟩:=R.owns i t h;refine ⟨a,s,λz => ?_,fr,o.mono x.kept λo q=>x.same a o q⟩
  rcases x.new a z with z | z
  ·exact nf z
  ·exact o.there z,R.sep⟩
theorem zJ.closed (R:zJ K B F H σ env)(x:jv (λa=>F a\/ak σ env a) H F' H'):zJ K B (λa=>F' a/\¬ ak σ env a) H' σ env/\jv F H (λa=>F' a/\¬ ak σ env a) H':=by
 have e:jv F H (λa=>F' a/\¬ ak σ env a) H':=⟨x.same,λa h=>⟨x.sub a (.inl h),λz=>(R.own_not z).1 h⟩,λa h=>by
  rcases x.new a h.1 with (z | z) | z
  ·exact .inl z
  ·exact absurd z h.2
  ·exact .inr z,λa h=>x.dom a h.1⟩
 exact ⟨R.ext e,e⟩
theorem zJ.cleans (R:zJ K B F H σ env)(x:jv (λa=>F a\/ak σ env a) H F' H'):lS F' (λa=>F' a/\¬ ak σ env a) H' (env.any gk) (env.any lV) (env.any lW):=by
 have own:∀ a,ak σ env a->(∃ xs,H' a=some (.lst xs)/\env.any gk=true)\/(∃ xs,H' a=some (.dK xs)/\env.any lV=true)\/∃ C dx xs,H' a=some (.ins C dx xs)/\env.any lW=true:=by
  intro a ⟨i,t,e,s⟩;obtain ⟨b,s',nf,fr,o⟩:=R.owns i t e;rw [s] at s';cases s'
  cases t with
  | lst ts =>
   obtain ⟨vs,h,_⟩:=o;exact .inl ⟨vs,x.same _ _ h,List.any_eq_true.mpr ⟨_,List.mem_of_getElem? e,rfl⟩⟩
  | dct ks ts =>
   obtain ⟨vs,h,_⟩:=o;exact .inr (.inl ⟨vs,x.same _ _ h,List.any_eq_true.mpr ⟨_,List.mem_of_getElem? e,rfl⟩⟩)
  | obj C fs ts =>
   obtain ⟨dx,vs,h,_⟩:=o;exact .inr (.inr ⟨_,_,vs,x.same _ _ h,List.any_eq_true.mpr ⟨_,List.mem_of_getElem? e,rfl⟩⟩)
  | _=>exact o.elim
 refine ⟨λa xs f h l=>⟨f,λz => ?_⟩,λa xs f h l=>⟨f,λz => ?_⟩,λa C dx xs f h l=>⟨f,λz => ?_⟩,λa ob u f h=>⟨f,λz => ?_⟩⟩
 ·rcases own a z with ⟨ys,h',l'⟩ | ⟨ys,h',_⟩ | ⟨_,_,ys,h',_⟩
  ·rw [l] at l';cases l'
  ·rw [h] at h';cases h'
  ·rw [h] at h';cases h'
 ·rcases own a z with ⟨ys,h',_⟩ | ⟨ys,h',l'⟩ | ⟨_,_,ys,h',_⟩
  ·rw [h] at h';cases h'
  ·rw [l] at l';cases l'
  ·rw [h] at h';cases h'
 ·rcases own a z with ⟨ys,h',_⟩ | ⟨ys,h',_⟩ | ⟨_,_,ys,h',l'⟩
  ·rw [h] at h';cases h'
  ·rw [h] at h';cases h'
  ·rw [l] at l';cases l'
 ·rcases own a z with ⟨ys,h',_⟩ | ⟨ys,h',_⟩ | ⟨_,_,ys,h',_⟩<;>(rw [h] at h';cases h')
theorem oh (c:lS F F' H l d o)(hs:∀ a,F' a->F a)(hl:l=true->lX r=true)(hd:d=true->o9 r=true)(ho:o=true->og r=true)(i:wq K fr F H v r):wq K fr F' H v r:=by
 obtain ⟨b,t⟩:=r;unfold wq at i ⊢
 cases b with
 | false =>
  simp only [Bool.false_eq_true,if_false] at i ⊢;exact Is.clean c (λz=>by have:=hl z;cases t<;>simpa [lX] using this) (λz=>by have:=hd z;cases t<;>simpa [o9] using this) (λz=>by have:=ho z;cases t<;>simpa [og] using this) i
 | true =>
  simp only [if_true] at i ⊢;obtain ⟨a,e,nf,f,o⟩:=i;refine ⟨a,e,λz=>nf (hs a z),f,?_⟩
  cases t with
  | lst ts=>obtain ⟨vs,h,q⟩:=o;exact ⟨vs,h,IsAll.clean c (λz=>hl z) (λz=>hd z) (λz=>ho z) q⟩
  | dct ks ts=>obtain ⟨vs,h,k,q⟩:=o;exact ⟨vs,h,k,IsAll.clean c (λz=>hl z) (λz=>hd z) (λz=>ho z) q⟩
  | obj C fs ts=>obtain ⟨dx,vs,h,k,q⟩:=o;exact ⟨dx,vs,h,k,IsAll.clean c (λz=>hl z) (λz=>hd z) (λz=>ho z) q⟩
  | _=>exact o.elim
theorem zJ.frozen (R:zJ K B F H σ env)(x:jv (λa=>F a\/ak σ env a) H F' H'):zJ K B F' H' σ (cZ env):=by
 have fr:ug B F' H':=⟨x.dom,λa h=>x.sub a (.inl (R.fr.sub a h)),λa h=>by
  rcases x.new a h with (z | z) | z
  ·exact R.fr.new a z
  ·exact .inr (R.own_not z).2.2
  ·exact .inr (zC R.fr z),λa o h hm=>x.same a o (R.fr.keep a o h hm),R.fr.f0⟩
 refine ⟨fr,by unfold cZ;rw [List.length_map];exact R.len,λi t h => ?_,λi t h => ?_,λi j t t' a h => ?_⟩
 ·obtain ⟨o,e,q⟩:=kf h
  cases o with
  | none=>cases q
  | some r' =>
   obtain ⟨b,t'⟩:=r';have:t'=t:=by cases b<;>(cases q;rfl)
   subst this;obtain ⟨v,s,iv⟩:=R.opn.vals i _ e;exact ⟨v,s,iv.mono x.kept⟩
 ·obtain ⟨o,e,q⟩:=kf h
  cases o with
  | none=>cases q
  | some r'=>obtain ⟨b,t'⟩:=r';cases q
 ·obtain ⟨o,e,q⟩:=kf h
  cases o with
  | none=>cases q
  | some r'=>obtain ⟨b,t'⟩:=r';cases q
theorem ZC {a:Addr}(h:ak σ (cZ env) a):False:=by
 obtain ⟨i,t,e,_⟩:=h;obtain ⟨o,_,q⟩:=kf e
 cases o with
 | none=>cases q
 | some r'=>obtain ⟨b,t'⟩:=r';cases q
end
inductive b7 where
 | nx (env:En) | rt (r:RV) | bk (env:En) | ct (env:En) | exc (x:Ex) (env:En) | bad
abbrev MS:=En->b7
def kQ (X:Cx)(B:Bs)(D:gf):b7->Prop
 | .nx env=>∀ F H σ,zJ X.K B F H σ env->D.nx σ H
 | .bk env=>∀ F H σ,zJ X.K B F H σ env->D.bk σ H
 | .ct env=>∀ F H σ,zJ X.K B F H σ env->D.ct σ H
 | .rt r=>∀ v F H,ZB X.K B F H v r->D.rt v H
 | .exc x env=>∀ ev F H σ,zJ X.K B F H σ env->Y6 X.K F H ev x->∀ pins s',uE X ev pins σ H s'->X.xe ev s'
 | .bad=>False
def VX (X:Cx)(t:TS)(m:MS):Prop := ∀ (B:Bs) (F:Addr->Prop) (H:Hp) (σ:St) (env:En) (D:gf),zJ X.K B F H σ env->kQ X B D (m env)->t D σ H
def uh (X:Cx)(st:Stmt)(m:MS):Prop := ∃ t,PS X st t/\VX X t m
def gn (X:Cx)(st:List Stmt)(m:MS):Prop := ∃ t,hX X st t/\VX X t m
def xE.run (h:xE X t m)(R:zJ X.K B F H σ env)
  (ok:∀ r env',jw m env=.ok (r,env')->∀ v F' H',zJ X.K B F' H' σ env'->wq X.K (λa=>H a=none) F' H' v r->(∀ a,ak σ env' a->H a≠none)->kg F F' H H'->Q v H')
  (ex:∀ x,jw m env=.exc x->∀ ev F' H',zJ X.K B F' H' σ env->Y6 X.K F' H' ev x->∀ pins s',uE X ev pins σ H' s'->X.xe ev s') (nb:jw m env≠.bad):t σ H Q:=by
 unfold jw at ok ex nb
 cases hm:m (hide env) with
 | ok r =>
  rw [hm] at ok
  exact h F H σ (hide env) Q R.hid (by rw [hm];intro z;cases z) (λr' e v F' H' x i=>by rw [hm] at e;cases e;exact ok r env rfl v F' H' (R.ext x) i (λa z=>(R.own_not z).2.1) x.kept) λx z=>by rw [hm] at z;cases z
 | exc x =>
  rw [hm] at ex
  exact h F H σ (hide env) Q R.hid (by rw [hm];intro z;cases z) (λr' e=>by rw [hm] at e;cases e) λx' z ev F' H' e i pins s' I=>by rw [hm] at z;cases z;exact ex x rfl ev F' H' (R.ext e) i pins s' I
 | bad =>
  rw [hm] at ok ex nb;dsimp only at ok ex nb
  cases hm2:m env with
  | bad=>rw [hm2] at nb;exact absurd rfl nb
  | ok r =>
   rw [hm2] at ok;dsimp only at ok;refine h _ H σ env Q R.opn (by rw [hm2];intro z;cases z) (λr' e v F' H' x i => ?_) λx z=>by rw [hm2] at z;cases z
   rw [hm2] at e;cases e
   by_cases hc:clean env r=true
   ·have es:settle env r=env:=by unfold settle;rw [if_pos hc]
    rw [es] at ok;have hc':=gm hc;obtain ⟨R',e'⟩:=R.closed x;exact ok r env rfl v _ H' R' (oh (R.cleans x) (λa z=>z.1) hc'.1 hc'.2.1 hc'.2.2 i) (λa z=>(R.own_not z).2.1) e'.kept
   ·have es:settle env r=cZ env:=by unfold settle;rw [if_neg hc]
    rw [es] at ok;exact ok r _ rfl v F' H' (R.frozen x) i (λa z=>(ZC z).elim) ⟨λa h=>x.sub a (.inl h),λa o _ h=>x.same a o h,λa o h _ _=>x.same a o h⟩
  | exc x =>
   rw [hm2] at ex nb;dsimp only at ex nb
   by_cases hc:clean env (false,x.at_)=true
   ·rw [if_pos hc] at ex
    refine h _ H σ env Q R.opn (by rw [hm2];intro z;cases z) (λr' e=>by rw [hm2] at e;cases e) λx' z ev F' H' e i pins s' I => ?_;rw [hm2] at z;cases z;have hc':=gm hc;obtain ⟨R',e'⟩:=R.closed e;exact ex x rfl ev _ H' R' (i.imp λe0 q=>⟨q.1,Is.clean (R.cleans e) (λz=>Wi (hc'.1 z)) (λz=>Wj (hc'.2.1 z)) (λz=>Wk (hc'.2.2 z)) q.2⟩) pins s' I
   ·rw [if_neg hc] at nb
    exact absurd rfl nb
section
variable {K:W.Frag}{B:Bs}{F F':Addr->Prop}{H H':Hp}{σ:St}{env:En}{v:V}{r:RV}
theorem x9 {α:Type}{l:List α}{i j:Nat}{a b:α}(h:(l.set i a)[j]? = some b):(j=i/\i < l.length/\b=a)\/(j≠i/\l[j]? = some b):=by
 by_cases e:j=i
 ·subst e
  have hl:j < (l.set j a).length:=(List.getElem?_eq_some_iff.mp h).1;rw [List.length_set] at hl;rw [List.getElem?_set_self hl] at h;exact .inl ⟨rfl,hl,(Option.some.inj h).symm⟩
 ·rw [List.getElem?_set_ne (Ne.symm e)] at h
  exact .inr ⟨e,h⟩
theorem zJ.put (R:zJ K B F' H' σ env)(i:Nat)(h:wq K (λa=>H a=none) F' H' v r)(hb:∀ a,H a=none->B.H a=none\/B.M a)(old:∀ a,ak σ env a->H a≠none) :
  zJ K B F' H' (σ.set i (some v)) (env.set i (some r)):=by
 have hs:∀ j,j≠i->(σ.set i (some v))[j]? = σ[j]? := λj hj=>List.getElem?_set_ne (Ne.symm hj);have hself:i < env.length->(σ.set i (some v))[i]? = some (some v):=λhi=>List.getElem?_set_self (by rw [<- R.len];exact hi);refine ⟨R.fr,by rw [List.length_set,List.length_set];exact R.len,λj t e => ?_,λj t e => ?_,λj k t t' a e1 e2 s1 s2 => ?_⟩
 ·rcases x9 e with ⟨rfl,hl,er⟩ | ⟨hj,e⟩
  ·refine ⟨v,hself hl,?_⟩
   have er:=(Option.some.inj er).symm;subst er;exact h.is
  ·rw [hs j hj]
   exact R.vals j t e
 ·rcases x9 e with ⟨rfl,hl,er⟩ | ⟨hj,e⟩
  ·have er:=(Option.some.inj er).symm
   subst er;obtain ⟨a,rfl,nf,fr,th,w⟩:=h.there rfl;exact ⟨a,hself hl,nf,hb a fr,w⟩
  ·rw [hs j hj]
   exact R.owns j t e
 ·rcases x9 e1 with ⟨rfl,hl,er⟩ | ⟨hj,e1'⟩
  ·have er:=(Option.some.inj er).symm
   subst er;obtain ⟨b,rfl,nf,fr,th,w⟩:=h.there rfl;rw [hself hl] at s1;cases s1
   rcases x9 e2 with ⟨rfl,_,_⟩ | ⟨hk,e2⟩
   ·rfl
   ·rw [hs k hk] at s2
    exact absurd fr (old _ ⟨k,t',e2,s2⟩)
  ·rw [hs j hj] at s1
   rcases x9 e2 with ⟨rfl,hl,er⟩ | ⟨hk,e2⟩
   ·have er:=(Option.some.inj er).symm
    subst er;obtain ⟨b,rfl,nf,fr,th,w⟩:=h.there rfl;rw [hself hl] at s2;cases s2;exact absurd fr (old _ ⟨j,t,e1',s1⟩)
   ·rw [hs k hk] at s2
    exact R.sep j k t t' a e1' e2 s1 s2
end
def zo (i:Nat)(m:ME):MS:=λenv=>match jw m env with
 | .ok (r,env')=>.nx (env'.set i (some r))
 | .exc x=>.exc x env
 | .bad=>.bad
def pH (m:ME):MS:=λenv=>match jw m env with
 | .ok (_,env')=>.nx env'
 | .exc x=>.exc x env
 | .bad=>.bad
def zl (m:ME):MS:=λenv=>match jw m env with
 | .ok (r,_)=>.rt r
 | .exc x=>.exc x env
 | .bad=>.bad
def zk:MS:=λenv=>.nx env
def oi:MS:=λenv=>.bk env
def QP:MS:=λ_=>.bad
def vp (i:Nat):MS:=λenv=>match env[i]? with
 | some (some r)=>.rt r
 | _=>.bad
def ze (a b:MS):MS:=λenv=>match a env with
 | .nx env'=>b env'
 | o=>o
section
variable {X:Cx}{e:Expr}{st:Stmt}{rest:List Stmt}{m:ME}{ms mr:MS}{pos:Pos}
theorem zK:gn X [] zk:=⟨_,lD,λB F H σ env D R w=>w F H σ R⟩
theorem zf (h:uh X st ms):gn X [st] ms:=let ⟨t,p,s⟩:=h;⟨t,kc p,s⟩
theorem zc (h:uh X st ms)(g:gn X rest mr):gn X (st :: rest) (ze ms mr):=by
 obtain ⟨t,p,s⟩:=h;obtain ⟨u,p',s'⟩:=g;refine ⟨_,w9 p p',?_⟩;intro B F H σ env D R w;refine s B F H σ env _ R ?_;unfold ze at w
 cases ho:ms env with
 | nx env' =>
  rw [ho] at w;exact λF' H' σ' R'=>s' B F' H' σ' env' D R' w
 | rt r=>rw [ho] at w;exact w
 | bk env'=>rw [ho] at w;exact w
 | ct env'=>rw [ho] at w;exact w
 | exc x env'=>rw [ho] at w;exact w
 | bad=>rw [ho] at w;exact w
theorem YR:uh X (.Break pos) oi:=⟨_,rH,λB F H σ env D R w=>w F H σ R⟩
theorem YS:uh X st QP:=⟨_,rL,λB F H σ env D R w=>w.elim⟩
theorem zB (h:jm X e m):uh X (.Return (some e) pos) (zl m):=by
 obtain ⟨t,p,s⟩:=h;refine ⟨_,lF p,?_⟩;intro B F H σ env D R w;unfold zl at w;refine s.run R (λr env' e v F' H' R' i _ _ => ?_) (λx e ev F' H' R' i pins s' I => ?_) λe => ?_
 ·rw [e] at w
  refine w v F' H' ⟨R'.fr,?_⟩;unfold wq at i ⊢
  split
  ·rename_i ho
   rw [if_pos ho] at i;obtain ⟨a,e,nf,fr,o⟩:=i;exact ⟨a,e,nf,zC R.fr fr,o⟩
  ·rename_i ho
   rw [if_neg ho] at i;exact i
 ·rw [e] at w
  exact w ev F' H' σ R' i pins s' I
 ·rw [e] at w
  exact w
theorem uW (i:Nat)(hN:X.N[i]? = some x:=by rfl)(hv:cy X.env.scope x:=by first | exact Or.inl rfl | exact Or.inr (Or.inl rfl) | exact Or.inr (Or.inr rfl))(hd:(x == ("__debug__" : Str))=false:=by decide)
  (hcd:(x == ("__classdict__" : Str))=false:=by decide):uh X (.Return (some (.Name x p2)) pos) (vp i):=by
 refine ⟨_,lF (vG hN hv hd hcd),?_⟩;intro B F H σ env D R w;unfold vp at w
 cases he:env[i]? with
 | none=>rw [he] at w;exact w.elim
 | some o =>
  cases o with
  | none=>rw [he] at w;exact w.elim
  | some r =>
   rw [he] at w;obtain ⟨b,t⟩:=r
   cases b with
   | false =>
    obtain ⟨v,s,q⟩:=R.vals i t he;exact ⟨v,s,w v F H ⟨R.fr,je q⟩⟩
   | true =>
    obtain ⟨a,s,nf,fr,o⟩:=R.owns i t he;refine ⟨.ref a,s,w _ F H ⟨R.fr,?_⟩⟩;unfold wq;rw [if_pos rfl];exact ⟨a,rfl,nf,fr,o⟩
theorem VY (h:jm X e m)(hs:swapsWith e none pos.line X.env=pure false:=by rfl):uh X (.Expr e pos) (pH m):=by
 obtain ⟨t,p,s⟩:=h;refine ⟨_,vo p hs,?_⟩;intro B F H σ env D R w;unfold pH at w;refine s.run R (λr env' e v F' H' R' i _ _ => ?_) (λx e ev F' H' R' i pins s' I => ?_) λe => ?_
 ·rw [e] at w;exact w F' H' σ R'
 ·rw [e] at w;exact w ev F' H' σ R' i pins s' I
 ·rw [e] at w;exact w
theorem QQ (hN:X.N.Nodup)(hi:X.N[i]? = some x)(hx:mI X.env.scope x)(h:jm X e m)(hs:swapsWith e (some (.Name x pos')) pos.line X.env=pure false:=by rfl)
  (hf:X.fn x=true\/X.env.scope.names.lookup x=some .local:=by first | exact .inl rfl | exact .inr rfl | assumption):uh X (.Assign [.Name x pos'] e pos) (zo i m):=by
 obtain ⟨t,p,s⟩:=h;refine ⟨_,cA (i:=i) hN hi hx p hs hf,?_⟩;intro B F H σ env D R w;unfold zo at w;refine s.run R (λr env' e v F' H' R' i' old _ => ?_) (λx e ev F' H' R' i pins s' I => ?_) λe => ?_
 ·rw [e] at w;exact w F' H' _ (R'.put i i' (λa q=>zC R.fr q) old)
 ·rw [e] at w;exact w ev F' H' σ R' i pins s' I
 ·rw [e] at w;exact w
def jJ (m:MT)(env:En):vX Bool:=match m (hide env) with
 | .bad=>match m env with
  | .exc x=>if clean env (false,x.at_)=true then .exc x else .bad
  | o=>o
 | o=>o
theorem vI.run {t:TT}{m:MT}(h:vI X t m){B:Bs}{F:Addr->Prop}{H:Hp}{σ:St}{env:En}{Q:Bool->Hp->Prop}(R:zJ X.K B F H σ env)
  (ok:∀ b,jJ m env=.ok b->∀ F' H',zJ X.K B F' H' σ env->Q b H')
  (ex:∀ x,jJ m env=.exc x->∀ ev F' H',zJ X.K B F' H' σ env->Y6 X.K F' H' ev x->∀ pins s',uE X ev pins σ H' s'->X.xe ev s') (nb:jJ m env≠.bad):t σ H Q:=by
 unfold jJ at ok ex nb
 cases hm:m (hide env) with
 | ok b =>
  rw [hm] at ok
  exact h F H σ (hide env) Q R.hid (by rw [hm];intro z;cases z) (λr' e F' H' x=>by rw [hm] at e;cases e;exact ok b rfl F' H' (R.ext x)) λx z=>by rw [hm] at z;cases z
 | exc x =>
  rw [hm] at ex
  exact h F H σ (hide env) Q R.hid (by rw [hm];intro z;cases z) (λr' e=>by rw [hm] at e;cases e) λx' z ev F' H' e i pins s' I=>by rw [hm] at z;cases z;exact ex x rfl ev F' H' (R.ext e) i pins s' I
 | bad =>
  rw [hm] at ok ex nb;dsimp only at ok ex nb
  cases hm2:m env with
  | bad=>rw [hm2] at nb;exact absurd rfl nb
  | ok b =>
   rw [hm2] at ok
   exact h _ H σ env Q R.opn (by rw [hm2];intro z;cases z) (λr' e F' H' x=>by rw [hm2] at e;cases e;exact ok b rfl _ H' (R.closed x).1) λx z=>by rw [hm2] at z;cases z
  | exc x =>
   rw [hm2] at ex nb;dsimp only at ex nb
   by_cases hc:clean env (false,x.at_)=true
   ·rw [if_pos hc] at ex
    refine h _ H σ env Q R.opn (by rw [hm2];intro z;cases z) (λr' e=>by rw [hm2] at e;cases e) λx' z ev F' H' e i pins s' I => ?_;rw [hm2] at z;cases z;have hc':=gm hc;obtain ⟨R',e'⟩:=R.closed e;exact ex x rfl ev _ H' R' (i.imp λe0 q=>⟨q.1,Is.clean (R.cleans e) (λz=>Wi (hc'.1 z)) (λz=>Wj (hc'.2.1 z)) (λz=>Wk (hc'.2.2 z)) q.2⟩) pins s' I
   ·rw [if_neg hc] at nb
    exact absurd rfl nb
def jp (c:MT)(a b:MS):MS:=λenv=>match jJ c env with
 | .ok k=>if k=true then a env else b env
 | .exc x=>.exc x env
 | .bad=>.bad
theorem jW {c:Expr}{a b:List Stmt}{mc:MT}{m1 m2:MS}(hc:cu X c mc)(ha:gn X a m1)(hb:gn X b m2):uh X (.If c a b pos) (jp mc m1 m2):=by
 obtain ⟨tc,pc,sc⟩:=hc;obtain ⟨t1,p1,s1⟩:=ha;obtain ⟨t2,p2,s2⟩:=hb;refine ⟨_,rK pc p1 p2,?_⟩;intro B F H σ env D R w;unfold jp at w;refine sc.run R (λk e F' H' R' => ?_) (λx e ev F' H' R' i pins s' I => ?_) λe => ?_
 ·rw [e] at w
  cases k with
  | true=>rw [if_pos rfl];exact s1 B F' H' σ env D R' w
  | false=>rw [if_neg Bool.false_ne_true];exact s2 B F' H' σ env D R' w
 ·rw [e] at w;exact w ev F' H' σ R' i pins s' I
 ·rw [e] at w;exact w
def zT (c:MT)(b:MS):Nat->MS
 | 0=>λ_=>.bad
 | n + 1=>λenv=>match jJ c env with
  | .ok k=>if k=true then (match b env with
    | .nx env'=>zT c b n env'
    | .ct env'=>zT c b n env'
    | .bk env'=>.nx env'
    | o=>o) else .nx env
  | .exc x=>.exc x env
  | .bad=>.bad
theorem gS (n:Nat)(hp:PassesOwn (model X.prog X.w) X.A X.env X.xe)(hc:cu X c mc)(hb:gn X body mb):uh X (.While c body [] pos) (zT mc mb n):=by
 obtain ⟨tc,pc,sc⟩:=hc;obtain ⟨tb,pb,sb⟩:=hb;refine ⟨_,rN hp pc pb,?_⟩;intro B F H σ env D R w;refine ⟨λk σ H=>∃ F env,zJ X.K B F H σ env/\kQ X B D (zT mc mb k env),⟨n,F,env,R,w⟩,?_⟩;rintro k σ H ⟨F,env,R,w⟩
 cases k with
 | zero=>exact w.elim
 | succ k =>
  unfold zT at w;refine sc.run R (λc e F' H' R' => ?_) (λx e ev F' H' R' i pins s' I => ?_) λe => ?_
  ·rw [e] at w
   cases c with
   | false=>rw [if_neg Bool.false_ne_true];exact w F' H' σ R'
   | true =>
    rw [if_pos rfl];refine ⟨λσ' H'=>∃ F env,zJ X.K B F H' σ' env/\kQ X B D (zT mc mb k env),λσ' H' q=>⟨k,Nat.lt_succ_self _,q⟩,?_⟩;refine sb B F' H' σ env _ R' ?_
    have w:kQ X B D (match mb env with
     | .nx env'=>zT mc mb k env'
     | .ct env'=>zT mc mb k env'
     | .bk env'=>.nx env'
     | o=>o):=w
    cases ho:mb env with
    | nx env'=>rw [ho] at w;exact λF2 H2 σ2 R2=>⟨F2,env',R2,w⟩
    | ct env'=>rw [ho] at w;exact λF2 H2 σ2 R2=>⟨F2,env',R2,w⟩
    | bk env'=>rw [ho] at w;exact w
    | rt r=>rw [ho] at w;exact w
    | exc x env'=>rw [ho] at w;exact w
    | bad=>rw [ho] at w;exact w
  ·rw [e] at w;exact w ev F' H' σ R' i pins s' I
  ·rw [e] at w;exact w
end
section
variable {K:W.Frag}{B:Bs}{F F':Addr->Prop}{H H':Hp}{σ:St}{env:En}{v:V}{r:RV}
theorem zJ.mut (R:zJ K B F H σ env)(e:env[i]? = some (some (true,t)))(s:σ[i]? = some (some (.ref a)))(w:xU K F (zN H a o) a t'):zJ K B F (zN H a o) σ (env.set i (some (true,t'))):=by
 obtain ⟨b,s',nf,fr,w0⟩:=R.owns i t e;rw [s] at s';cases s';have hi:i < env.length:=(List.getElem?_eq_some_iff.mp e).1;have ne:∀ b,F b->b≠a:=λb f z=>nf (z ▸ f)
 have k:kg F F H (zN H a o):=by
  refine ⟨λ_ h=>h,λb u f h=>by rw [z8 (ne b f)];exact h,λb u h h1 h2 => ?_⟩
  have:b≠a:=by
   rintro rfl
   cases t with
   | lst ts=>obtain ⟨vs,q,_⟩:=w0;rw [h] at q;exact h1 vs (Option.some.inj q)
   | dct ks ts=>obtain ⟨vs,q,_⟩:=w0;rw [h] at q;exact h2.1 vs (Option.some.inj q)
   | obj C fs ts=>obtain ⟨dx,vs,q,_⟩:=w0;rw [h] at q;exact h2.2 C dx vs (Option.some.inj q)
   | _=>exact w0.elim
  rw [z8 this];exact h
 refine ⟨⟨λb f => ?_,R.fr.sub,R.fr.new,λb u h hm => ?_,R.fr.f0⟩,by rw [List.length_set];exact R.len,λj u h => ?_,λj u h => ?_,λj l u u' c e1 e2 s1 s2 => ?_⟩
 ·rw [z8 (ne b f)];exact R.fr.dom b f
 ·have:b≠a:=by
   rintro rfl
   rcases fr with fr | fr
   ·rw [h] at fr;cases fr
   ·exact hm fr
  rw [z8 this];exact R.fr.keep b u h hm
 ·rcases x9 h with ⟨rfl,_,z⟩ | ⟨hj,h⟩
  ·cases z
  ·obtain ⟨x,sx,q⟩:=R.vals j u h
   exact ⟨x,sx,q.mono k⟩
 ·rcases x9 h with ⟨rfl,_,z⟩ | ⟨hj,h⟩
  ·have z:=Option.some.inj z
   have:u=t':=by injection z
   subst this;exact ⟨a,s,nf,fr,w⟩
  ·obtain ⟨b,sb,nfb,frb,wb⟩:=R.owns j u h
   refine ⟨b,sb,nfb,frb,wb.mono k λq hq => ?_⟩
   have:b≠a:=by
    rintro rfl;exact hj (R.sep j i u t b h e sb s)
   rw [z8 this];exact hq
 ·have e1':∃ t,env[j]? = some (some (true,t)):=by
   rcases x9 e1 with ⟨rfl,_,_⟩ | ⟨_,h⟩
   ·exact ⟨t,e⟩
   ·exact ⟨u,h⟩
  have e2':∃ t,env[l]? = some (some (true,t)):=by
   rcases x9 e2 with ⟨rfl,_,_⟩ | ⟨_,h⟩
   ·exact ⟨t,e⟩
   ·exact ⟨u',h⟩
  obtain ⟨_,e1'⟩:=e1';obtain ⟨_,e2'⟩:=e2';exact R.sep j l _ _ c e1' e2' s1 s2
theorem zJ.freeze (R:zJ K B F' H' σ env)(h:wq K (λa=>H a=none) F' H' v r)(hb:∀ a,H a=none->B.H a=none\/B.M a)(old:∀ a,ak σ env a->H a≠none) :
  ∃ F2,zJ K B F2 H' σ env/\Is K F2 H' r.2 v/\∀ a,F' a->F2 a:=by
 by_cases o:r.1=true
 ·obtain ⟨a,rfl,nf,fr,th,w⟩:=h.there o
  have k:kg F' (λb=>F' b\/b=a) H' H':=⟨λb f=>.inl f,λ_ _ _ h=>h,λ_ _ h _ _=>h⟩
  refine ⟨λb=>F' b\/b=a,⟨⟨λb f => ?_,λb f=>.inl (R.fr.sub b f),λb f => ?_,R.fr.keep,R.fr.f0⟩,R.len,λj u q => ?_,λj u q => ?_,R.sep⟩,w.is (λb f=>.inl f) (.inr rfl),λb f=>.inl f⟩
  ·rcases f with f | rfl
   ·exact R.fr.dom b f
   ·exact th
  ·rcases f with f | rfl
   ·exact R.fr.new b f
   ·exact .inr (hb b fr)
  ·obtain ⟨x,sx,q⟩:=R.vals j u q
   exact ⟨x,sx,q.mono k⟩
  ·obtain ⟨b,sb,nfb,frb,wb⟩:=R.owns j u q
   refine ⟨b,sb,λz => ?_,frb,wb.mono k λ_ h=>h⟩
   rcases z with z | rfl
   ·exact nfb z
   ·exact old b ⟨j,u,q,sb⟩ fr
 ·obtain ⟨b,t⟩:=r
  cases b with
  | true=>exact absurd rfl o
  | false=>exact ⟨F',R,h.is,λ_ f=>f⟩
end
def vZ (i:Nat)(m:ME):MS:=λenv=>match env[i]? with
 | some (some (true,.lst _))=>(match jw m env with
  | .ok (r,env')=>(match env'[i]? with
   | some (some (true,.lst ts))=>if ts.length < sizeLine then .nx (env'.set i (some (true,.lst (ts ++ [r.2])))) else .bad
   | _=>.bad)
  | .exc x=>.exc x env
  | .bad=>.bad)
 | _=>.bad
def xy (nf:¬ F a)(h:H a=some o)(ho:(∃ xs,o=.lst xs)\/(∃ xs,o=.dK xs)\/∃ C d xs,o=.ins C d xs):kg F F H (zN H a u):=by
 refine ⟨λ_ h=>h,λb q f h => ?_,λb q hq h1 h2 => ?_⟩
 ·have:b≠a:=by rintro rfl;exact nf f
  rw [z8 this];exact h
 ·have:b≠a:=by
   rintro rfl;rw [hq] at h;cases h
   rcases ho with ⟨xs,rfl⟩ | ⟨xs,rfl⟩ | ⟨C,d,xs,rfl⟩
   ·exact h1 xs rfl
   ·exact h2.1 xs rfl
   ·exact h2.2 C d xs rfl
  rw [z8 this];exact hq
section
variable {X:Cx}{e ek:Expr}{m mk mv:ME}{pos:Pos}
theorem am {i:Nat}{st:Stmt}(he:jm X e m)(hp:∀ te,PE X e te->PS X st (bQ (Pu X.K "list" bY (xD i) (rZ te Vr)))):uh X st (vZ i m):=by
 obtain ⟨te,pe,se⟩:=he;refine ⟨_,hp te pe,?_⟩;intro B F H σ env D R w;unfold vZ at w
 split at w
 ·rename_i ts0 hi
  obtain ⟨a,s,nf,fr,vs,hH,iv⟩:=R.owns i _ hi;refine ⟨.ref a,s,.inl ⟨rfl,vs,.inl (.inl hH)⟩,?_⟩;refine se.run R (λr env' er v F' H' R' iv' old kp => ?_) (λx er ev F' H' R' ix pins s' I => ?_) λer => ?_
  ·rw [er] at w
   dsimp only at w
   split at w
   ·rename_i ts' hi'
    split at w
    ·rename_i hl
     obtain ⟨F2,R2,i2,_⟩:=R'.freeze iv' (λa q=>zC R.fr q) old;obtain ⟨a',s',nf',fr',vs',hH',iv2⟩:=R2.owns i _ hi';rw [s] at s';cases s';refine ⟨a,vs',v,rfl,rfl,hH',by rw [<- iv2.len];exact hl,?_⟩;refine w F2 _ σ (R2.mut hi' s ⟨vs' ++ [v],zi,?_⟩);exact (iv2.append (IsAll.cons i2 IsAll.nil)).mono (xy nf' hH' (.inl ⟨_,rfl⟩))
    ·exact w.elim
   ·exact w.elim
  ·rw [er] at w;exact w ev F' H' σ R' ix pins s' I
  ·rw [er] at w;exact w
 ·exact w.elim
def uX (i:Nat):MS:=λenv=>match env[i]? with
 | some (some (true,.lst ts))=>if ts=[] then .bad else .nx (env.set i (some (true,.lst ts.dropLast)))
 | _=>.bad
instance (ts:List T):Decidable (ts=[]):=by cases ts with
 | nil=>exact .isTrue rfl
 | cons _ _=>exact .isFalse (by intro z;cases z)
theorem IsAll.dropLast {K:W.Frag}{F:Addr->Prop}{H:Hp}{ts:List T}{vs:List V}(h:IsAll K F H ts vs):IsAll K F H ts.dropLast vs.dropLast:=by
 rw [List.dropLast_eq_take,List.dropLast_eq_take,<- h.len];exact h.take _
theorem VZ {i:Nat}{st:Stmt}(hp:PS X st (bQ (QA X.K "list" QB (xD i)))):uh X st (uX i):=by
 refine ⟨_,hp,?_⟩;intro B F H σ env D R w;unfold uX at w
 split at w
 ·rename_i ts0 hi
  obtain ⟨a,s,nf,fr,vs,hH,iv⟩:=R.owns i _ hi
  split at w
  ·exact w.elim
  ·rename_i hne
   have hl:=iv.len
   have hv:0 < vs.length:=by
    cases ts0 with
    | nil=>exact absurd rfl hne
    | cons _ _=>rw [<- hl];simp
   refine ⟨.ref a,s,.inl ⟨rfl,vs,.inl (.inl hH)⟩,a,vs,vs[vs.length - 1],rfl,rfl,hH,by simp [hv],w F _ σ (R.mut hi s ⟨vs.dropLast,zi,?_⟩)⟩;exact iv.dropLast.mono (xy nf hH (.inl ⟨_,rfl⟩))
 ·exact w.elim
def fO (i:Nat)(mk mv:ME):MS:=λenv=>match jw mv env with
 | .ok (r,env1)=>(match env1[i]? with
  | some (some (true,.lst _))=>(match jw mk env1 with
   | .ok (k,env2)=>(match env2[i]?,k.2 with
    | some (some (true,.lst ts)),.int k=>(match bV ts.length k with
     | some j=>.nx (env2.set i (some (true,.lst (ts.set j r.2))))
     | none=>.bad)
    | _,_=>.bad)
   | .exc x=>.exc x env1
   | .bad=>.bad)
  | _=>.bad)
 | .exc x=>.exc x env
 | .bad=>.bad
theorem YT {i:Nat}{st:Stmt}(hk:jm X ek mk)(hv:jm X e mv)(hp:∀ tk te,PE X ek tk->PE X e te->PS X st (lG te (Ql (xD i) tk Wb))):uh X st (fO i mk mv):=by
 obtain ⟨tk,pk,sk⟩:=hk;obtain ⟨te,pe,se⟩:=hv;refine ⟨_,hp tk te pk pe,?_⟩;intro B F H σ env D R w;unfold fO at w;refine se.run R (λr env1 er v F1 H1 R1 iv1 old1 kp1 => ?_) (λx er ev F' H' R' ix pins s' I => ?_) λer => ?_
 ·rw [er] at w
  dsimp only at w;obtain ⟨F2,R2,i2,_⟩:=R1.freeze iv1 (λa q=>zC R.fr q) old1
  split at w
  ·rename_i ts0 hi
   obtain ⟨a,s,nf,fr,vs,hH,iv⟩:=R2.owns i _ hi;refine ⟨.ref a,s,?_⟩;refine sk.run R2 (λk env2 er2 vk F3 H3 R3 iv3 old3 kp3 => ?_) (λx er ev F' H' R' ix pins s' I => ?_) λer => ?_
   ·rw [er2] at w
    dsimp only at w
    split at w
    ·rename_i x1 ts kk hi' hk'
     split at w
     ·rename_i j hj
      obtain ⟨a',s',nf',fr',vs',hH',iv2⟩:=R3.owns i _ hi';rw [s] at s';cases s';obtain ⟨bk,tk'⟩:=k;dsimp only at hk';subst hk'
      have:vk=.int kk:=by
       cases bk with
       | false=>have:=iv3.is;unfold Is at this;exact this
       | true=>obtain ⟨_,_,_,_,_,w'⟩:=iv3.there rfl;exact w'.elim
      refine ⟨a,vs',kk,j,rfl,this,hH',by rw [<- iv2.len];exact hj,?_⟩;refine w F3 _ σ (R3.mut hi' s ⟨vs'.set j v,zi,?_⟩);exact (iv2.set j (i2.mono kp3)).mono (xy nf' hH' (.inl ⟨_,rfl⟩))
     ·exact w.elim
    ·exact w.elim
   ·rw [er] at w;exact w ev F' H' σ R' ix pins s' I
   ·rw [er] at w;exact w
  ·exact w.elim
 ·rw [er] at w;exact w ev F' H' σ R' ix pins s' I
 ·rw [er] at w;exact w
def ao (k:Key)(t:T):List Key->List T->List T
 | x :: ks,u :: ts=>(if x=k then t else u) :: ao k t ks ts
 | _,_=>[]
def gU (ks:List Key)(ts:List T)(k:Key)(t:T):T:=if ks.any (λx=>decide (x=k))=true then .dct ks (ao k t ks ts) else .dct (ks ++ [k]) (ts ++ [t])
theorem de {K:W.Frag}{F:Addr->Prop}{H H':Hp}{a:Addr}{ks:List Key}{ts:List T}{kvs:List (Key×V)}{k:Key}{t:T}{v:V}(hk:kvs.map (·.1)=ks)(i:IsAll K F H ts (kvs.map (·.2)))(iv:Is K F H t v)(kp:kg F F H H')
  (hH:H' a=some (.dK (xW kvs k v))):xU K F H' a (gU ks ts k t):=by
 unfold gU;have any_eq:ks.any (λx=>decide (x=k))=kvs.any λkv=>decide (kv.1=k):=by rw [<- hk,List.any_map];rfl
 by_cases h:ks.any (λx=>decide (x=k))=true
 ·rw [if_pos h]
  rw [any_eq] at h;have e:xW kvs k v=kvs.map λkv=>if kv.1=k then (kv.1,v) else kv:=by unfold xW;rw [if_pos h]
  refine ⟨_,hH,?_,?_⟩
  ·rw [e,<- hk,List.map_map]
   refine List.map_congr_left λkv _ => ?_;show (if kv.1=k then (kv.1,v) else kv).1=kv.1
   split<;>rfl
  ·rw [e]
   have:∀ {kvs:List (Key×V)} {ks:List Key} {ts:List T},kvs.map (·.1)=ks->IsAll K F H ts (kvs.map (·.2))->IsAll K F H (ao k t ks ts) ((kvs.map λkv=>if kv.1=k then (kv.1,v) else kv).map (·.2)):=by
    intro kvs
    induction kvs with
    | nil =>
     intro ks ts hk i;subst hk
     cases ts with
     | nil=>exact IsAll.nil
     | cons _ _=>unfold IsAll at i;obtain ⟨_,_,z,_⟩:=i;cases z
    | cons kv kvs ih =>
     intro ks ts hk i;subst hk
     cases ts with
     | nil=>unfold IsAll at i;cases i
     | cons u ts =>
      unfold IsAll at i;obtain ⟨v',r,z,i1,i2⟩:=i;cases z;show IsAll K F H ((if kv.1=k then t else u) :: ao k t (kvs.map (·.1)) ts) ((if kv.1=k then (kv.1,v) else kv).2 :: _);refine IsAll.cons ?_ (ih rfl i2)
      split
      ·exact iv
      ·exact i1
   exact (this hk i).mono kp
 ·rw [if_neg h]
  rw [any_eq] at h;have e:xW kvs k v=kvs ++ [(k,v)]:=by unfold xW;rw [if_neg h]
  refine ⟨_,hH,by rw [e,List.map_append,hk];rfl,?_⟩;rw [e,List.map_append];exact (i.append (IsAll.cons iv IsAll.nil)).mono kp
theorem YU {K:W.Frag}{fr F:Addr->Prop}{H:Hp}{v:V}{r:RV}{k:Key}(h:wq K fr F H v r)(e:uS r.2=some k):v=kV k:=by
 obtain ⟨b,t⟩:=r
 cases b with
 | true=>obtain ⟨_,_,_,_,_,w⟩:=h.there rfl;cases t<;>first | exact w.elim | cases e
 | false =>
  have h:=h.is;cases t<;>simp only [uS,reduceCtorEq,Option.some.injEq] at e
  case int i=>subst e;unfold Is at h;exact h
  case str i=>subst e;unfold Is at h;exact h
def m9 (i:Nat)(f:T->T->Option RV)(m:ME):MS:=λenv=>match env[i]? with
 | some (some (false,t))=>(match jw m env with
  | .ok (r,env')=>(match f t r.2 with
   | some (false,u)=>.nx (env'.set i (some (false,u)))
   | _=>.bad)
  | .exc x=>.exc x env
  | .bad=>.bad)
 | _=>.bad
def K0 (X:Cx)(op:Operator)(f:T->T->Option RV):Prop:=Ur X op λx y H Q=>∃ F tx ty u,m7 F H/\Is X.K F H tx x/\Is X.K F H ty y/\f tx ty=some (false,u)/\∀ v F' H',jv F H F' H'->Is X.K F' H' u v->Q v H'
end
def gV:T->T->Option RV
 | .int i,.int j=>some (false,.int (i + j))
 | .str x,.str y=>if x.length + y.length<=sizeLine then some (false,.str (x ++ y)) else none
 | _,_=>none
def lY:K0 X .Add gV:=by
 intro pins s σ H x y v u Q I rx ry h;obtain ⟨F,tx,ty,w,d,ix,iy,e,q⟩:=h;cases tx<;>cases ty<;>simp only [gV,reduceCtorEq] at e
 case int.int i j =>
  unfold Is at ix iy;subst ix iy;cases e;obtain ⟨t,rfl⟩:=rx;obtain ⟨t',rfl⟩:=ry;exact iadd_int ⟨.int _,H,I.tok _,⟨_,rfl⟩,q _ F H (.refl d) x8⟩
 case str.str i j =>
  unfold Is at ix iy;subst ix iy
  split at e<;>cases e
  rename_i hl;obtain ⟨t,rfl⟩:=rx;obtain ⟨t',rfl⟩:=ry;exact iadd_str (λt' tk=>⟨.str _,H,I.tok _,⟨_,rfl⟩,q _ F H (.refl d) kh⟩) hl
def QR (ho:K0 X op f)(hN:X.N.Nodup)(hi:X.N[i]? = some x)(hx:mI X.env.scope x)(h:jm X e m)
  (hf:X.fn x=true\/X.env.scope.names.lookup x=some .local:=by first | exact .inl rfl | exact .inr rfl | assumption):uh X (.AugAssign (.Name x pos') op e pos) (m9 i f m):=by
 obtain ⟨te,pe,se⟩:=h;refine ⟨_,Vb hN hi hx pe ho hf,?_⟩;intro B F H σ env D R w;unfold m9 at w
 split at w
 ·rename_i t hi'
  obtain ⟨v0,s0,q0⟩:=R.vals i t hi';refine ⟨v0,s0,?_⟩;refine se.run R (λr env' er v F' H' R' iv' old kp => ?_) (λx er ev F' H' R' ix pins s' I => ?_) λer => ?_
  ·rw [er] at w
   dsimp only at w
   split at w
   ·rename_i u hu
    obtain ⟨F2,R2,i2,s2⟩:=R'.freeze iv' (λa q=>zC R.fr q) old;have q1:Is X.K F2 H' t v0:=(q0.mono kp).mono ⟨s2,λ_ _ _ h=>h,λ_ _ h _ _=>h⟩;refine ⟨F2,t,r.2,u,R2.fr.dom,q1,i2,hu,λv' F3 H3 x3 i3 => ?_⟩;have R3:=R2.ext x3;exact w F3 H3 _ (R3.put i (je i3) (λa q=>zC R3.fr q) λa z=>(R3.own_not z).2.1)
   ·exact w.elim
  ·rw [er] at w;exact w ev F' H' σ R' ix pins s' I
  ·rw [er] at w;exact w
 ·exact w.elim
def km:T->Option (List T)
 | .lst ts=>some ts
 | .tup ts=>some ts
 | .str z=>some (z.cps.toList.map λc=>.str ⟨#[c]⟩)
 | _=>none
def qh (K:W.Frag)(F:Addr->Prop)(H:Hp)(J:It)(ts:List T):Prop :=
 ∀ F2 H2,kg F F2 H H2->∀ i:Nat,(i < ts.length->J.go i H2/\∀ x H3,J.yld i H2 x H3->H3=H2/\∃ t,ts[i]? = some t/\Is K F2 H2 t x)/\(ts.length<=i->J.stop i H2)
abbrev MI:=En->vX (List T×En)
def PM (X:Cx)(wi:TI)(it:MI):Prop :=
 ∀ (B:Bs) (F:Addr->Prop) (H:Hp) (σ:St) (env:En) (R:It->Hp->Prop),zJ X.K B F H σ env->it env≠.bad ->
  (∀ ts env',it env=.ok (ts,env')->∀ J F' H',zJ X.K B F' H' σ env'->qh X.K F' H' J ts->R J H') ->
  (∀ x,it env=.exc x->∀ ev F' H',zJ X.K B F' H' σ env->Y6 X.K F' H' ev x->∀ pins s',uE X ev pins σ H' s'->X.xe ev s')->wi σ H R
def Us (X:Cx)(tg iter:Expr)(it:MI):Prop := ∃ wi,PI X tg iter wi/\PM X wi it
def PN (K:W.Frag)(tl:TE):TI:=λσ H R=>W9 K tl σ H R\/Qm K tl σ H R\/QH tl σ H R
def ZD (h:PE X e tl):PI X tg e (PN X.K tl):=by
 intro pins s σ H R I w
 rcases w with w | w | w
 ·exact Yj h pins s σ H R I w
 ·exact Vd h pins s σ H R I w
 ·exact VN h pins s σ H R I w
def uY {K:W.Frag}{F:Addr->Prop}{H:Hp}{a:Addr}{vs:List V}{ts:List T}(g1:fx K H a vs)(g2:IsAll K F H ts vs):qh K F H (Pe K a) ts:=by
 intro F2 H2 k i;have h1:=eU g1 k.rest;have h2:=g2.mono k;have hl:=h2.len;refine ⟨λhi=>⟨⟨vs,vs[i],h1,by simp [<- hl,hi]⟩,λx H3 y=>⟨y.1,?_⟩⟩,λhi=>⟨vs,h1,by omega⟩⟩;have hx:=y.2 vs h1;obtain ⟨v,hv,iv⟩:=h2.get (i:=i) (t:=ts[i]) (by simp [hi]);rw [hx] at hv;cases hv;exact ⟨ts[i],by simp [hi],iv⟩
def uZ {K:W.Frag}{F:Addr->Prop}{H:Hp}{z:Str} : qh K F H (GL z) (z.cps.toList.map λc=>.str ⟨#[c]⟩):=by
 intro F2 H2 k i;have hl:(z.cps.toList.map λc=>T.str ⟨#[c]⟩).length=z.length:=by simp [Str.length]
 rw [hl];refine ⟨λhi=>⟨hi,λx H3 y => ?_⟩,λhi=>hi⟩;obtain ⟨e,c,hc,rfl⟩:=y;refine ⟨e,.str ⟨#[c]⟩,?_,kh⟩;rw [List.getElem?_map];have:z.cps.toList[i]? = some c:=by simpa using hc
 rw [this]
 rfl
def YV (m:ME):MI:=λenv=>match jw m env with
 | .ok (r,env')=>(match km r.2 with
  | some ts=>.ok (ts,env')
  | none=>.bad)
 | .exc x=>.exc x
 | .bad=>.bad
def QS (h:jm X e m):Us X tg e (YV m):=by
 obtain ⟨tl,pl,sl⟩:=h;refine ⟨_,ZD pl,?_⟩;intro B F H σ env R RS nb ok ex;unfold YV at nb ok ex
 cases hr:jw m env with
 | bad=>rw [hr] at nb;exact absurd rfl nb
 | exc x =>
  rw [hr] at ex;refine .inl (sl.run RS (λr env' er=>by rw [hr] at er;cases er) (λx' er ev F' H' R' i pins s' I => ?_) (by rw [hr];intro z;cases z));rw [hr] at er;cases er;exact ex x rfl ev F' H' R' i pins s' I
 | ok q =>
  obtain ⟨r,env'⟩:=q;rw [hr] at nb ok;dsimp only at nb ok;have noex:∀ x,jw m env=.exc x->False:=λx z=>by rw [hr] at z;cases z
  have nb':jw m env≠.bad:=by rw [hr];intro z;cases z
  cases hi:km r.2 with
  | none=>rw [hi] at nb;exact absurd rfl nb
  | some ts =>
   rw [hi] at ok;obtain ⟨o,t⟩:=r;dsimp only at hi;cases t<;>simp only [km,reduceCtorEq,Option.some.injEq] at hi
   case lst us =>
    subst hi;refine .inl (sl.run RS (λr env1 er v F' H' R' iv old kp => ?_) (λx er=>(noex x er).elim) nb');rw [hr] at er;cases er;obtain ⟨F2,R2,i2,_⟩:=R'.freeze iv (λa q=>zC RS.fr q) old;have i2':=i2;unfold Is at i2;obtain ⟨a,vs,rfl,g1,g2⟩:=i2;refine ⟨a,rfl,⟨vs,g1.sq⟩,ok _ _ rfl _ F2 H' R2 ?_⟩;intro F3 H3 k i;have h1:=g1.mono k;have h2:=g2.mono k;have hl:=h2.len;refine ⟨λhi=>⟨⟨vs,vs[i],h1.sq,by simp [<- hl,hi]⟩,λx H4 y=>⟨y.1,?_⟩⟩,λhi=>⟨vs,h1.sq,by omega⟩⟩;have hx:=y.2 vs h1.sq;obtain ⟨v,hv,iv⟩:=h2.get (i:=i) (t:=us[i]) (by simp [hi]);rw [hx] at hv;cases hv;exact ⟨us[i],by simp [hi],iv⟩
   case tup us =>
    subst hi;refine .inr (.inl (sl.run RS (λr env1 er v F' H' R' iv old kp => ?_) (λx er=>(noex x er).elim) nb'));rw [hr] at er;cases er;obtain ⟨F2,R2,i2,_⟩:=R'.freeze iv (λa q=>zC RS.fr q) old;unfold Is at i2;obtain ⟨a,vs,rfl,g1,g2⟩:=i2;exact ⟨a,rfl,⟨vs,g1⟩,ok _ _ rfl _ F2 H' R2 (uY g1 g2)⟩
   case str z =>
    subst hi;refine .inr (.inr (sl.run RS (λr env1 er v F' H' R' iv old kp => ?_) (λx er=>(noex x er).elim) nb'));rw [hr] at er;cases er;obtain ⟨F2,R2,i2,_⟩:=R'.freeze iv (λa q=>zC RS.fr q) old;unfold Is at i2;exact ⟨z,i2,ok _ _ rfl _ F2 H' R2 uZ⟩
def gW (lo:Int)(n:Nat):List T:=(List.range n).map λ(i:Nat)=>.int (lo + i)
def b8 {K:W.Frag}{F:Addr->Prop}{H:Hp}{lo:Int}{n:Nat} : qh K F H (GK lo n) (gW lo n):=by
 intro F2 H2 k i;have hl:(gW lo n).length=n:=by simp [gW]
 rw [hl];refine ⟨λhi=>⟨hi,λx H3 y=>⟨y.1,.int (lo + i),?_,?_⟩⟩,λhi=>hi⟩
 ·simp [gW,hi]
 ·rw [y.2];exact x8
abbrev MG:=T->En->Option En
def K1 (X:Cx)(g:TG)(tg:MG):Prop := ∀ (B:Bs) (F:Addr->Prop) (H:Hp) (σ:St) (env env':En) (v:V) (t:T) (Q:St->Hp->Prop),zJ X.K B F H σ env->Is X.K F H t v->tg t env=some env'->(∀ σ',zJ X.K B F H σ' env'->Q σ' H)->g v σ H Q
def Y8 (X:Cx)(e:Expr)(tg:MG):Prop := ∃ g,PG X e g/\K1 X g tg
def gN (i:Nat):MG:=λt env=>some (env.set i (some (false,t)))
def YW (hN:X.N.Nodup)(hi:X.N[i]? = some x)(hx:mI X.env.scope x)(hf:X.fn x=true\/X.env.scope.names.lookup x=some .local:=by first | exact .inl rfl | exact .inr rfl | assumption):Y8 X (.Name x pos) (gN i):=by
 refine ⟨_,ke hN hi hx hf,?_⟩;intro B F H σ env env' v t Q R iv e q;cases e;exact q _ (R.put i (je iv) (λa q=>zC R.fr q) λa z=>(R.own_not z).2.1)
def wk (tg:MG)(mb:MS):List T->MS
 | [],env=>.nx env
 | t :: ts,env=>match tg t env with
  | none=>.bad
  | some e1=>match mb e1 with
   | .nx e2=>wk tg mb ts e2
   | .ct e2=>wk tg mb ts e2
   | .bk e2=>.nx e2
   | o=>o
def gX (it:MI)(tg:MG)(mb:MS):MS:=λenv=>match it env with
 | .ok (ts,env')=>wk tg mb ts env'
 | .exc x=>.exc x env
 | .bad=>.bad
def Bs.at_ (B:Bs)(F:Addr->Prop)(H:Hp):Bs:=⟨λa=>¬ F a/\((∃ xs,H a=some (.lst xs))\/(∃ xs,H a=some (.dK xs))\/∃ C d xs,H a=some (.ins C d xs))/\(B.H a=none\/B.M a),H,F⟩
section
variable {K:W.Frag}{B:Bs}{F F1:Addr->Prop}{H H1:Hp}{σ:St}{env:En}{v:V}{r:RV}
theorem zJ.rebase (R:zJ K B F H σ env):zJ K (B.at_ F H) F H σ env :=
 ⟨⟨R.fr.dom,λ_ h=>h,λ_ h=>.inl h,λ_ _ h _=>h,λa f m=>m.1 f⟩,R.len,R.vals,λi t e=>by
  obtain ⟨a,s,nf,fr,w⟩:=R.owns i t e;refine ⟨a,s,nf,.inr ⟨nf,?_,fr⟩,w⟩
  cases t with
  | lst ts=>obtain ⟨vs,q,_⟩:=w;exact .inl ⟨vs,q⟩
  | dct ks ts=>obtain ⟨vs,q,_⟩:=w;exact .inr (.inl ⟨vs,q⟩)
  | obj C fs ts=>obtain ⟨dx,vs,q,_⟩:=w;exact .inr (.inr ⟨_,dx,vs,q⟩)
  | _=>exact w.elim,R.sep⟩
theorem ug.unbase (f1:ug B F1 H1)(f:ug (B.at_ F1 H1) F H):ug B F H:=by
 refine ⟨f.dom,λa h=>f.sub a (f1.sub a h),λa h => ?_,λa o h hm=>f.keep a o (f1.keep a o h hm) λz => ?_,f1.f0⟩
 ·rcases f.new a h with h | h | h
  ·exact f1.new a h
  ·exact .inr (zC f1 h)
  ·exact .inr h.2.2
 ·rcases z.2.2 with z | z
  ·rw [h] at z;cases z
  ·exact hm z
theorem n6 (f1:ug B F1 H1)(h:(B.at_ F1 H1).H a=none\/(B.at_ F1 H1).M a):B.H a=none\/B.M a:=by
 rcases h with h | h
 ·exact zC f1 h
 ·exact h.2.2
theorem zJ.unbase (f1:ug B F1 H1)(R:zJ K (B.at_ F1 H1) F H σ env):zJ K B F H σ env :=
 ⟨f1.unbase R.fr,R.len,R.vals,λi t e=>let ⟨a,s,nf,fr,w⟩:=R.owns i t e;⟨a,s,nf,n6 f1 fr,w⟩,R.sep⟩
theorem ZB.unbase (f1:ug B F1 H1)(R:ZB K (B.at_ F1 H1) F H v r):ZB K B F H v r:=by
 refine ⟨f1.unbase R.fr,?_⟩;have i:=R.val;unfold wq at i ⊢
 split
 ·rename_i ho
  rw [if_pos ho] at i;obtain ⟨a,e,nf,fr,o⟩:=i;exact ⟨a,e,nf,n6 f1 fr,o⟩
 ·rename_i ho
  rw [if_neg ho] at i;exact i
theorem ug.kept (f:ug (B.at_ F1 H1) F H):kg F1 F H1 H :=
 ⟨f.sub,λa o h e=>f.keep a o e λz=>z.1 h,λa o e h1 h2=>f.keep a o e λz=>by
  rcases z.2.1 with ⟨xs,q⟩ | ⟨xs,q⟩ | ⟨C,d,xs,q⟩
  ·rw [e] at q;exact h1 xs (Option.some.inj q)
  ·rw [e] at q;exact h2.1 xs (Option.some.inj q)
  ·rw [e] at q;exact h2.2 C d xs (Option.some.inj q)⟩
end
def Wl (hp:PassesOwn (model X.prog X.w) X.A X.env X.xe)(hc:X.calm=true)(hi:Us X tg iter it)(hg:Y8 X tg g)(hb:gn X body mb)
  (hs:∀ x,foldedSetIterable iter X.env x=pure x:=by intro _;rfl):uh X (.For tg iter body [] pos) (gX it g mb):=by
 obtain ⟨wi,pi,si⟩:=hi;obtain ⟨tg',pg,sg⟩:=hg;obtain ⟨tb,pb,sb⟩:=hb;refine ⟨_,cD hp hc pi pg pb hs,?_⟩;intro B F H σ env D R w;unfold gX at w;refine si B F H σ env _ R (λz=>by rw [z] at w;exact w) (λts env' e J F1 H1 R1 Y => ?_) λx e ev F' H' R' i pins s' I=>by rw [e] at w;exact w ev F' H' σ R' i pins s' I
 rw [e] at w;dsimp only at w;have f1:=R1.fr;refine ⟨λi m σ H=>m=ts.length - i/\i<=ts.length/\∃ F env,zJ X.K (B.at_ F1 H1) F H σ env/\kQ X B D (wk g mb (ts.drop i) env),⟨ts.length,by simp,Nat.zero_le _,F1,env',R1.rebase,by simpa using w⟩,?_⟩;rintro i m σ2 H2 ⟨rfl,hi,F2,env2,R2,w2⟩;obtain ⟨yg,ys⟩:=Y F2 H2 R2.fr.kept i
 by_cases hlt:i < ts.length
 ·obtain ⟨go,yl⟩:=yg hlt
  refine .inr ⟨go,λσ' H'=>∃ F env,zJ X.K (B.at_ F1 H1) F H' σ' env/\kQ X B D (wk g mb (ts.drop (i + 1)) env),λσ' H' ⟨F',e',R',w'⟩=>⟨ts.length - (i + 1),by omega,rfl,hlt,F',e',R',w'⟩,λx H3 y => ?_⟩;obtain ⟨rfl,t,ht,it⟩:=yl x H3 y
  have hd:ts.drop i=t :: ts.drop (i + 1):=by
   rw [List.drop_eq_getElem_cons hlt];have:ts[i]? = some ts[i]:=by simp [hlt]
   rw [this] at ht;cases ht
   rfl
  rw [hd] at w2
  have w2:kQ X B D (match g t env2 with
   | none=>.bad
   | some e1=>match mb e1 with
    | .nx e2=>wk g mb (ts.drop (i + 1)) e2
    | .ct e2=>wk g mb (ts.drop (i + 1)) e2
    | .bk e2=>.nx e2
    | o=>o):=w2
  cases hg:g t env2 with
  | none=>rw [hg] at w2;exact w2.elim
  | some e1 =>
   rw [hg] at w2;dsimp only at w2;refine sg _ F2 H3 σ2 env2 e1 x t _ R2 it hg λσ3 R3 => ?_;refine sb _ F2 H3 σ3 e1 _ R3 ?_
   cases ho:mb e1 with
   | nx e2=>rw [ho] at w2;exact λF4 H4 σ4 R4=>⟨F4,e2,R4,w2⟩
   | ct e2=>rw [ho] at w2;exact λF4 H4 σ4 R4=>⟨F4,e2,R4,w2⟩
   | bk e2=>rw [ho] at w2;exact λF4 H4 σ4 R4=>w2 F4 H4 σ4 (R4.unbase f1)
   | rt r=>rw [ho] at w2;exact λv F4 H4 R4=>w2 v F4 H4 (R4.unbase f1)
   | exc x e2=>rw [ho] at w2;exact λev F4 H4 σ4 R4=>w2 ev F4 H4 σ4 (R4.unbase f1)
   | bad=>rw [ho] at w2;exact w2.elim
 ·have hl:i=ts.length:=by omega
  subst hl;rw [List.drop_length] at w2;exact .inl ⟨ys (Nat.le_refl _),w2 F2 H2 σ2 (R2.unbase f1)⟩
theorem _root_.L2.FlyN.up {n m:Nat}{ps:List (Addr×Obj)}{H:Hp}{ev:Value}{h:Heap}(f:FlyN [] n H ev h)(hm:m<=n)(hp:∀ p∈ps,p.1 < n):FlyN ps m H ev h:=by
 obtain ⟨e,oe,vs,a,b,c,d,g,r⟩:=f;exact ⟨e,oe,vs,a,Nat.le_trans hm b,c,d,g,r.imp id λ⟨T,oT,ts,q1,q2,q3,_,q4⟩=>⟨T,oT,ts,Nat.le_trans hm q1,q2,q3,λp z=>Nat.ne_of_lt (Nat.lt_of_lt_of_le (hp p z) q1),q4⟩⟩
theorem _root_.L2.FlyN.dn {n:Nat}{ps:List (Addr×Obj)}{H:Hp}{ev:Value}{h:Heap}(f:FlyN ps n H ev h):FlyN [] n H ev h:=by
 obtain ⟨e,oe,vs,a,b,c,d,g,r⟩:=f;exact ⟨e,oe,vs,a,b,c,d,g,r.imp id λ⟨T,oT,ts,q1,q2,q3,_,q4⟩=>⟨T,oT,ts,q1,q2,q3,(λ_ z=>nomatch z),q4⟩⟩
def nZ (P:Program)(w:World):tN:=λouter H s E e s'=>∃ H' oa,s'.os=s.os/\AllBare s'.gens/\Un (ue outer) [] H H' s.heap s'.heap/\qG P w H' s'.heap/\FlyN [] s.heap.objs.size H' e s'.heap/\E e oa H'
def ap (F:xR X.prog X.w X.K X.mg X.base (nZ X.prog X.w) k f fd ps sp)(hr:jV k X.A)(hb:kJ X.K fd ps [])
  (I:zj X pins σ H s) (r:zF vs us) (h:sp vs H Q E) (hx:∀ e oa H',E e oa H'->∀ s',uE X e pins σ H' s'->X.xe e s'):wpAny (model X.prog X.w) X.A (call (.ref f) us) (EP X pins σ Q) X.xe s:=by
 have hl:us.length=ps.length:=by rw [<- r.length];exact F.len _ _ _ _ h
 refine wpAny_call (codeAny_mono (F.run X.A X.stack s H ⟨us,[]⟩ us vs Q E hr I.env0 (by have:=hb s us I.kIn (by simpa using hl);simpa using this) r h) λr s' hq => ?_)
 cases r with
 | error e =>
  obtain ⟨H',oa,ho,hg,hu,hok,fl,he⟩:=hq;exact hx e oa H' he s' ⟨I.call' ho hu hok hg λb z=>absurd z (by simp),fl.up I.sz λp hp=>Heap.lt_size (I.pin p hp).1⟩
 | ok fl =>
  cases fl with
  | ret u=>exact I.after hq
  | next=>exact False.elim hq
  | brk=>exact False.elim hq
  | cont=>exact False.elim hq
def b9 (X:Cx)(sp:Sp)(t:TA):TE:=λσ H Q=>t σ H λvs H1=>∃ E,sp vs H1 Q E/\∀ e oa H',E e oa H'->∀ pins s',uE X e pins σ H' s'->X.xe e s'
def dg (F:xR X.prog X.w X.K X.mg X.base (nZ X.prog X.w) k f fd ps sp)(hr:jV k X.A)(hg:Gl X x)(hm:X.mg x=some (.ref f))(hk:W.keepIn X.K (.ref f)=true)(hb:kJ X.K fd ps [])
  (ha:PA X (e :: es) t) (hdb:(x == ("__debug__" : Str))=false:=by decide) (he:starEach (e :: es) X.env=(false,eval e X.env) :: starEach es X.env:=by rfl) (hpl:(backTo pos (starEach es X.env)).any (·.1)=false:=by rfl) :
  PE X (.Call (.Name x p) (e :: es) [] pos) (b9 X sp t):=by
 intro pins s σ H Q I h;refine wpAny_Call_Name_kw (gF I hg hm ?_ hdb);refine W.callWith_K I.ok.mod.kin hk (jg (ha pos pins s σ H _ I h) λus s1 ⟨vs,H1,I1,r,E,q,hx⟩=>⟨I1.kIn,?_⟩) he hpl;exact ap F hr hb I1 r q λe oa H' z s' I'=>hx e oa H' z pins s' I'
abbrev MF:=List RV->vX RV
def mf (vs:List V)(rs:List RV)(a:Addr):Prop := ∃ (i:Nat) (r:RV),rs[i]? = some r/\r.1=true/\vs[i]? = some (V.ref a)
def pI (K:W.Frag)(f:MF):Sp:=λvs H Q E=>∃ F rs,m7 F H/\xx K (λ_=>True) F H vs rs/\f rs≠.bad /\
 (∀ r,f rs=.ok r->∀ v F' H',ZB K ⟨mf vs rs,H,F⟩ F' H' v r->Q v H')/\(∀ x,f rs=.exc x->∀ ev F' H',ug ⟨mf vs rs,H,F⟩ F' H'->Y6 K F' H' ev x->E ev none H')
def ji (P:Program)(w:World)(K:W.Frag)(mg:Str->Option Value)(base:Heap)(k:Nat)(x:Str)(ps:List Str)(f:MF):Prop :=
 ∃ fa fd,xR P w K mg base (nZ P w) k fa fd ps (pI K f)/\mg x=some (.ref fa)/\W.keepIn K (.ref fa)=true/\kJ K fd ps []
def ji.mono {P:Program}{w:World}{K:W.Frag}{mg:Str->Option Value}{base:Heap}{j k:Nat}{x:Str}{ps:List Str}{f:MF}(F:ji P w K mg base j x ps f)(h:j<=k):ji P w K mg base k x ps f:=by
 obtain ⟨fa,fd,F,r⟩:=F;exact ⟨fa,fd,F.mono h,r⟩
def z7 (f:MF)(ma:MA):ME:=λenv=>(ma env).bind f
def xx.at {K:W.Frag}{fr F:Addr->Prop}{H:Hp} : ∀ {vs:List V} {rs:List RV} {i:Nat} {r:RV},xx K fr F H vs rs->rs[i]? = some r->∃ v,vs[i]? = some v/\wq K fr F H v r
 | [],[],i,r,_,h=>by simp at h
 | [],_ :: _,_,_,h,_=>h.elim
 | _ :: _,[],_,_,h,_=>h.elim
 | v :: vs,q :: rs,i,r,h,e=>by
  cases i with
  | zero=>simp at e;subst e;exact ⟨v,by simp,h.1⟩
  | succ i =>
   obtain ⟨w,hw,q⟩:=xx.at h.2.1 (by simpa using e);exact ⟨w,by simpa using hw,q⟩
def xx.any {K:W.Frag}{fr fr' F:Addr->Prop}{H:Hp}(hf:∀ a,fr a->fr' a):∀ {vs:List V} {rs:List RV},xx K fr F H vs rs->xx K fr' F H vs rs
 | [],[],_=>trivial
 | [],_ :: _,h=>h.elim
 | _ :: _,[],h=>h.elim
 | v :: vs,r :: rs,h=>by
  refine ⟨?_,xx.any hf h.2.1,h.2.2⟩;have i:=h.1;unfold wq at i ⊢
  split
  ·rename_i ho
   rw [if_pos ho] at i;obtain ⟨a,e,nf,f,o⟩:=i;exact ⟨a,e,nf,hf a f,o⟩
  ·rename_i ho
   rw [if_neg ho] at i;exact i
def wS {K:W.Frag}{fr F:Addr->Prop}{H:Hp}{vs:List V}{rs:List RV}{a:Addr}(h:xx K fr F H vs rs)(o:mf vs rs a):¬ F a/\fr a/\H a≠none:=by
 obtain ⟨i,r,e,ho,hv⟩:=o;obtain ⟨v,hv',ir⟩:=h.at e;rw [hv] at hv';cases hv';obtain ⟨b,eb,nf,f,th,_⟩:=ir.there ho;cases eb;exact ⟨nf,f,th⟩
def l8 (sa:YQ X t ma):xE X (b9 X (pI X.K f) t) (z7 f ma):=by
 intro F H σ env Q R nb ok ex;unfold z7 at nb ok ex;refine sa F H σ env _ R (λz=>by rw [z] at nb;exact nb rfl) (λrs e1 vs F1 H1 x1 i1 => ?_) λx z=>ex x (by rw [z];rfl);rw [e1,bind_ok] at nb ok ex
 -- from the callee's frame to ours
 have toExt:∀ {F':Addr->Prop} {H':Hp},ug ⟨mf vs rs,H1,F1⟩ F' H'->jv F H F' H':=by
  intro F' H' fr;refine ⟨λa o h=>fr.keep a o (x1.same a o h) λz => ?_,λa h=>fr.sub a (x1.sub a h),λa h => ?_,fr.dom⟩
  ·rw [(wS i1 z).2.1] at h;cases h
  ·rcases fr.new a h with h | h | h
   ·exact x1.new a h
   ·exact .inr (jK x1.same h)
   ·exact .inr (wS i1 h).2.1
 refine ⟨λev oa H'=>oa=none/\∃ F' x,f rs=.exc x/\jv F H F' H'/\Y6 X.K F' H' ev x,⟨F1,rs,x1.dom,i1.any λ_ _=>trivial,nb,λr er v F' H' rr => ?_,λx ex' ev F' H' fr ix=>⟨rfl,F',x,ex',toExt fr,ix⟩⟩,λev oa H' ⟨_,F',x,e',xt,ix⟩ pins s' I=>ex x e' ev F' H' xt ix pins s' I⟩;refine ok r er v F' H' (toExt rr.fr) ?_;have i:=rr.val;unfold wq at i ⊢
 split
 ·rename_i ho
  rw [if_pos ho] at i;obtain ⟨a,e,nf,fr,o⟩:=i;refine ⟨a,e,nf,?_,o⟩
  rcases fr with fr | fr
  ·exact jK x1.same fr
  ·exact (wS i1 fr).2.1
 ·rename_i ho
  rw [if_neg ho] at i;exact i
def zr (C:ji X.prog X.w X.K X.mg X.base k x ps f)(hr:jV k X.A)(hg:Gl X x)(ha:Zz X (e :: es) ma)(hdb:(x == ("__debug__" : Str))=false:=by decide)
  (he:starEach (e :: es) X.env=(false,eval e X.env) :: starEach es X.env:=by rfl) (hpl:(backTo pos (starEach es X.env)).any (·.1)=false:=by rfl) :
  jm X (.Call (.Name x p) (e :: es) [] pos) (z7 f ma):=by
 obtain ⟨fa,fd,F,hm,hk,hb⟩:=C;obtain ⟨ta,pa,sa⟩:=ha;exact ⟨_,dg F hr hg hm hk hb pa hdb he hpl,l8 sa⟩
def xb (n:Nat)(rs:List RV):En:=rs.map some ++ List.replicate (n - rs.length) none
def aq:b7->vX RV
 | .nx _=>.ok (false,.non)
 | .rt r=>.ok r
 | .exc x _=>.exc x
 | _=>.bad
def zL (n k:Nat)(mb:MS):MF:=λrs=>if rs.length=k then aq (mb (xb n rs)) else .bad
def oj {K:W.Frag}{F:Addr->Prop}{H:Hp}{N:List Str}{vs:List V}{rs:List RV}(d:m7 F H)(h:xx K (λ_=>True) F H vs rs):zJ K ⟨mf vs rs,H,F⟩ F H (start N vs) (xb N.length rs):=by
 have hl:=h.len
 have he:∀ {i:Nat} {r:RV},(xb N.length rs)[i]? = some (some r)->rs[i]? = some r:=by
  intro i r e;unfold xb at e
  by_cases hi:i < rs.length
  ·rw [List.getElem?_append_left (by simpa using hi),List.getElem?_map] at e
   cases q:rs[i]? with
   | none=>rw [q] at e;cases e
   | some r'=>rw [q] at e;cases e;rfl
  ·rw [List.getElem?_append_right (by simpa using hi),List.getElem?_replicate] at e
   split at e<;>cases e
 have hs:∀ {i:Nat} {v:V},vs[i]? = some v->(start N vs)[i]? = some (some v):=by
  intro i v e;unfold L2.start;have hi:i < vs.length:=(List.getElem?_eq_some_iff.mp e).1;rw [List.getElem?_append_left (by simpa using hi),List.getElem?_map,e]
  rfl
 have sepG:∀ {vs:List V} {rs:List RV},xx K (λ_=>True) F H vs rs->∀ (i j:Nat) (r r':RV) (v:V),rs[i]? = some r->rs[j]? = some r'->r.1=true->r'.1=true->vs[i]? = some v->vs[j]? = some v->i=j:=by
  intro vs
  induction vs with
  | nil=>intro rs h i j r r' v _ _ _ _ e;simp at e
  | cons w vs ih =>
   intro rs h i j r r' v e1 e2 o1 o2 s1 s2
   cases rs with
   | nil=>exact h.elim
   | cons q rs =>
    cases i with
    | zero =>
     cases j with
     | zero=>rfl
     | succ j =>
      simp at e1 s1;subst e1 s1;exact absurd (by simpa using s2) (h.2.2 o1 j r' (by simpa using e2) o2)
    | succ i =>
     cases j with
     | zero =>
      simp at e2 s2;subst e2 s2;exact absurd (by simpa using s1) (h.2.2 o2 i r (by simpa using e1) o1)
     | succ j=>rw [ih h.2.1 i j r r' v (by simpa using e1) (by simpa using e2) o1 o2 (by simpa using s1) (by simpa using s2)]
 refine ⟨⟨d,λ_ h=>h,λ_ h=>.inl h,λ_ _ h _=>h,λa f m=>(wS h m).1 f⟩,?_,λi t e => ?_,λi t e => ?_,λi j t t' a e1 e2 s1 s2 => ?_⟩
 ·unfold L2.start xb
  simp [hl]
 ·obtain ⟨v,hv,ir⟩:=h.at (he e)
  exact ⟨v,hs hv,ir.is⟩
 ·obtain ⟨v,hv,ir⟩:=h.at (he e)
  obtain ⟨a,rfl,nf,_,_,w⟩:=ir.there rfl;exact ⟨a,hs hv,nf,.inr ⟨i,_,he e,rfl,hv⟩,w⟩
 ·obtain ⟨v,hv,ir⟩:=h.at (he e1)
  obtain ⟨v',hv',ir'⟩:=h.at (he e2);rw [hs hv] at s1;rw [hs hv'] at s2;have s1:v=.ref a:=by injection s1 with s1;injection s1
  have s2:v'=.ref a:=by injection s2 with s2;injection s2
  subst s1;subst s2;exact sepG h i j _ _ _ (he e1) (he e2) rfl rfl hv hv'
section
variable {P:Program}{w:World}{K:W.Frag}{mg:Str->Option Value}{base:Heap}
theorem Wm {N:List Str}{x:Str}{sc:Scope}{f:Addr}{cdv:Value}{A:Around}{outer:List Env}{s:Shared}{H:Hp}{vs:List V}{Q:VK}{E:XK}{body:List Stmt}{mb:MS}{n:Nat}(h:pI K (zL N.length n mb) vs H Q E)
  (hb:gn (uz (nZ P w) P w K mg base N x sc f cdv A outer s H E) body mb):∃ t,hX (uz (nZ P w) P w K mg base N x sc f cdv A outer s H E) body t/\t { nx:=λ_ H'=>Q .non H',rt:=Q } (start N vs) H:=by
 obtain ⟨F,rs,d,ir,nb,ok,ex⟩:=h;obtain ⟨t,p,sm⟩:=hb;refine ⟨t,p,?_⟩;unfold zL at nb ok ex
 by_cases hl:rs.length=n
 ·rw [if_pos hl] at nb ok ex
  refine sm _ F H (start N vs) (xb N.length rs) _ (oj d ir) ?_
  cases ho:mb (xb N.length rs) with
  | nx env=>rw [ho] at ok;exact λF' H' σ R=>ok _ rfl .non F' H' ⟨R.fr,je VT⟩
  | rt r=>rw [ho] at ok;exact λv F' H' R=>ok _ rfl v F' H' R
  | bk env=>rw [ho] at nb;exact absurd rfl nb
  | ct env=>rw [ho] at nb;exact absurd rfl nb
  | exc x env =>
   rw [ho] at ex;intro ev F' H' σ R ix pins s' ⟨I,fl⟩;obtain ⟨e0,rfl,i0⟩:=id ix;unfold Is at i0;obtain ⟨e1,d1,w1,ee,h1,_⟩:=i0;cases ee;exact wpAny_bind (eM I rfl rfl h1 fl λh' J fl'=>⟨H',none,J.os,J.bare,J.base,J.hok,fl'.dn,ex x rfl _ F' H' R.fr ix⟩)
  | bad=>rw [ho] at nb;exact absurd rfl nb
 ·rw [if_neg hl] at nb
  exact absurd rfl nb
theorem QT (h:pI K (zL n m mb) vs H Q E):vs.length=m:=by
 obtain ⟨F,rs,d,ir,nb,_⟩:=h;unfold zL at nb
 by_cases hl:rs.length=m
 ·rw [<- hl];exact ir.len
 ·rw [if_neg hl] at nb
  exact absurd rfl nb
theorem zH.ok3 {x:Str}{st:Stmt}{N ps:List Str}{k:Nat}{mb:MS}(F:zH K mg x st)(S:za N ps (z6 st))
  (hb:∀ (kV doc pm:Value) (an:Option Addr) (cdv ct:Value) (us:List Value),us.length=ps.length->bindArgs (W.fnOf x x (jR st) (j8 st) (z6 st) .none kV doc pm an cdv ct) ⟨us,[]⟩=pure (ps.zip us))
  (hbody:∀ (f:Addr) (cdv:Value) (A:Around) (outer:List Env) (s:Shared) (H:Hp) (E:XK),jV k (A.deeper (envOfC x (z6 st) s.heap.objs.size f cdv)) ->
   gn (uz (nZ P w) P w K mg base N x (z6 st) f cdv A outer s H E) (j8 st) mb):ji P w K mg base (k + 1) x ps (zL N.length ps.length mb):=by
 obtain ⟨f,fd,F,e⟩:=F;refine ⟨f,fd,?_,e,F.kp,F.binds hb⟩;obtain ⟨oc,od,kV,doc,pm,an,cdv,ct,osl,rfl,lk,hcd⟩:=F.ex;exact eB lk hcd S (λvs H Q E h=>QT h) λA outer s H vs Q E hr hsp=>Wm hsp (hbody f cdv A outer s H E hr)
end
def fQ {K:W.Frag}{F:Addr->Prop}{H:Hp}{t:T}{vs:List V}(h:IsAll K F H [t] vs):∃ v,vs=[v]/\Is K F H t v:=by
 unfold IsAll at h;obtain ⟨v,r,rfl,h1,h2⟩:=h;unfold IsAll at h2;subst h2;exact ⟨v,rfl,h1⟩
def PP {K:W.Frag}{F:Addr->Prop}{H:Hp}{t u:T}{vs:List V}(h:IsAll K F H [t,u] vs):∃ v w,vs=[v,w]/\Is K F H t v/\Is K F H u w:=by
 unfold IsAll at h;obtain ⟨v,r,rfl,h1,h2⟩:=h;obtain ⟨w,rfl,h3⟩:=fQ h2;exact ⟨v,w,rfl,h1,h3⟩
def jA:List T->Option RV
 | [.lst ts]=>some (false,.int ts.length)
 | [.tup ts]=>some (false,.int ts.length)
 | [.str z]=>if z.length<=sizeLine then some (false,.int z.length) else none
 | _=>none
def ZE:List T->Option RV
 | [.lst ts]=>some (true,.lst ts)
 | [.tup ts]=>some (true,.lst ts)
 | _=>none
def lZ:List T->Option RV
 | [.lst ts]=>some (false,.tup ts)
 | [.tup ts]=>some (false,.tup ts)
 | _=>none
def ZF:List T->Option RV
 | [.int i]=>if i.natAbs.log2 < 1920 then some (false,.str (toString i)) else none
 | _=>none
def dh:T->Option String
 | .non=>some "NoneType"
 | .bl _=>some "bool"
 | .int _=>some "int"
 | .str _=>some "str"
 | .tup _=>some "tuple"
 | .lst _=>some "list"
 | _=>none
def allB:List T->Option (List Bool)
 | []=>some []
 | .bl b :: ts=>(allB ts).map (b :: ·)
 | _=>none
def gY:List T->Option RV
 | [.lst ts]=>(allB ts).map λbs=>(false,.bl (bs.all id))
 | _=>none
def xw:we X (.builtin "len") (Y7 X.K jA):=by
 intro pins s σ H xs us Q I r h;obtain ⟨F,ts,rv,d,ia,e,q⟩:=h
 match ts,e with
 | [.lst ts],e =>
  cases e;obtain ⟨v,rfl,i⟩:=fQ ia;unfold Is at i;obtain ⟨a,vs,rfl,g1,g2⟩:=i;exact gI pins s σ H _ us Q I r ⟨a,vs,rfl,.inl g1.sq,by rw [<- g2.len];exact flat d x8 q rfl⟩
 | [.tup ts],e =>
  cases e;obtain ⟨v,rfl,i⟩:=fQ ia;unfold Is at i;obtain ⟨a,vs,rfl,g1,g2⟩:=i;exact gI pins s σ H _ us Q I r ⟨a,vs,rfl,.inr g1,by rw [<- g2.len];exact flat d x8 q rfl⟩
 | [.str z],e =>
  obtain ⟨v,rfl,i⟩:=fQ ia;unfold Is at i;subst i;simp only [jA] at e
  split at e<;>cases e
  rename_i hl;exact lL pins s σ H _ us Q I r ⟨z,rfl,hl,flat d x8 q rfl⟩
def YX:we X (.type "list") (Y7 X.K ZE):=by
 intro pins s σ H xs us Q I r h;obtain ⟨F,ts,rv,d,ia,e,q⟩:=h
 match ts,e with
 | [.lst ts],e =>
  cases e;obtain ⟨v,rfl,i⟩:=fQ ia;unfold Is at i;obtain ⟨a,vs,rfl,g1,g2⟩:=i;exact gJ pins s σ H _ us Q I r ⟨a,vs,rfl,.inl g1.sq,λl hl=>o7 d g2 hl q⟩
 | [.tup ts],e =>
  cases e;obtain ⟨v,rfl,i⟩:=fQ ia;unfold Is at i;obtain ⟨a,vs,rfl,g1,g2⟩:=i;exact gJ pins s σ H _ us Q I r ⟨a,vs,rfl,.inr g1,λl hl=>o7 d g2 hl q⟩
def ZG:we X (.type "tuple") (Y7 X.K lZ):=by
 intro pins s σ H xs us Q I r h;obtain ⟨F,ts,rv,d,ia,e,q⟩:=h
 match ts,e with
 | [.lst ts],e =>
  cases e;obtain ⟨v,rfl,i⟩:=fQ ia;unfold Is at i;obtain ⟨a,vs,rfl,g1,g2⟩:=i;exact qR pins s σ H _ us Q I r ⟨a,vs,rfl,.inl ⟨g1.sq,λl hl=>YL d g2 hl q⟩⟩
 | [.tup ts],e =>
  cases e;obtain ⟨v,rfl,i⟩:=fQ ia;have i':=i;unfold Is at i;obtain ⟨a,vs,rfl,g1,g2⟩:=i;exact qR pins s σ H _ us Q I r ⟨a,vs,rfl,.inr ⟨g1,flat d i' q rfl⟩⟩
def K2:we X (.type "str") (Y7 X.K ZF):=by
 intro pins s σ H xs us Q I r h;obtain ⟨F,ts,rv,d,ia,e,q⟩:=h
 match ts,e with
 | [.int i],e =>
  obtain ⟨v,rfl,g⟩:=fQ ia;unfold Is at g;subst g;simp only [ZF] at e
  split at e<;>cases e
  rename_i hl;exact lH pins s σ H _ us Q I r ⟨i,rfl,hl,flat d kh q rfl⟩
def di {K:W.Frag}{F:Addr->Prop}{H:Hp} : ∀ {ts:List T} {bs:List Bool} {vs:List V} {us:List Value},allB ts=some bs->IsAll K F H ts vs->zF vs us->us=bs.map Value.bool
 | [],bs,vs,us,h,i,r=>by
  unfold IsAll at i;subst i;cases r;simp [allB] at h;subst h
  rfl
 | t :: ts,bs,vs,us,h,i,r=>by
  unfold IsAll at i;obtain ⟨v,w,rfl,i1,i2⟩:=i
  cases r with
  | cons r1 r2 =>
  cases t<;>simp only [allB,reduceCtorEq,Option.map_eq_some_iff] at h
  case bl b =>
   obtain ⟨bs',h,rfl⟩:=h;unfold Is at i1;subst i1;cases r1;rw [di h i2 r2]
   rfl
def au:∀ (bs:List Bool),((List.range bs.length).all λi=>(bs[i]?).getD true)=bs.all id
 | []=>rfl
 | b :: bs=>by
  rw [List.length_cons,List.range_succ_eq_map,List.all_cons,List.all_map,List.all_cons];have:=au bs;simp only [List.getElem?_cons_zero,Option.getD_some,id]
  congr 1
def fU (hc:X.calm=true):we X (.builtin "all") (Y7 X.K gY):=by
 intro pins s σ H xs us Q I r h;obtain ⟨F,ts,rv,d,ia,e,q⟩:=h
 match ts,e with
 | [.lst ts],e =>
  simp only [gY,Option.map_eq_some_iff] at e;obtain ⟨bs,eb,rfl⟩:=e;obtain ⟨v,rfl,i⟩:=fQ ia;obtain ⟨u,rfl,ru⟩:=gH r;unfold Is at i;obtain ⟨a,vs,rfl,g1,g2⟩:=i;cases ru;obtain ⟨its,r',pl,hz⟩:=I.list g1.sq;have hb:=di eb g2 r';have hl:=pl.isList;have hlt:a < s.heap.objs.size:=by obtain ⟨_,e,_⟩:=hl;exact Heap.lt_size e
  refine call_all_walk (wpAny_pyIter_list hl ?_)
  refine ⟨s.heap.objs.size,[s.heap.objs.size,a],[s.heap.objs.size],its.toArray.size,_,_,λi=>(bs[i]?).getD true,rfl,Walks.list (A:=X.A.in1) (I.ok.hd hc) _ a (Nat.ne_of_lt hlt) its.toArray,
   ⟨⟨_,Heap.get?_push_size _ rfl,rfl,rfl⟩,hl.push _⟩,λi v s' Q' E' hP hQ => ?_,λh' tk hk => ?_⟩
  ·have hv:its[i]? = some v:=by simpa using hP
   rw [hb,List.getElem?_map] at hv
   cases hbi:bs[i]? with
   | none=>rw [hbi] at hv;cases hv
   | some b =>
    rw [hbi] at hv;cases hv;simp only [hbi,Option.getD_some] at hQ;exact wpAny_truthy_bool hQ
  ·have e2:((List.range its.toArray.size).all λi=>(bs[i]?).getD true)=bs.all id:=by
    have:its.toArray.size=bs.length:=by rw [hb];simp
    rw [this];exact au bs
   rw [e2];exact ⟨.bl (bs.all id),H,I.kept (LSm.kept_iter hk),rfl,flat d xr q rfl⟩
abbrev aw:=En->vX (List T)
def Wn (X:Cx)(wi:TI)(it:aw):Prop :=
 ∀ (F:Addr->Prop) (H:Hp) (σ:St) (env:En) (R:It->Hp->Prop),xL X.K F H σ env->it env≠.bad ->
  (∀ ts,it env=.ok ts->∀ J F' H',jv F H F' H'->qh X.K F' H' J ts->R J H')->(∀ x,it env=.exc x->rm X F H σ x)->wi σ H R
def ba (X:Cx)(tg iter:Expr)(it:aw):Prop := ∃ wi,PI X tg iter wi/\Wn X wi it
def jX (m:ME):aw:=λenv=>(m env).bind λr=>rl (km r.2)
def bc {K:W.Frag}{F:Addr->Prop}{H:Hp}{a:Addr}{vs:List V}{ts:List T}(g1:rh K F H a vs)(g2:IsAll K F H ts vs):qh K F H (Pd K a) ts:=by
 intro F2 H2 k i;have h1:=(g1.mono k).sq;have h2:=g2.mono k;have hl:=h2.len;refine ⟨λhi=>⟨⟨vs,vs[i],h1,by simp [<- hl,hi]⟩,λx H3 y=>⟨y.1,?_⟩⟩,λhi=>⟨vs,h1,by omega⟩⟩;have hx:=y.2 vs h1;obtain ⟨v,hv,iv⟩:=h2.get (i:=i) (t:=ts[i]) (by simp [hi]);rw [hx] at hv;cases hv;exact ⟨ts[i],by simp [hi],iv⟩
def qk (h:jm X e m):ba X tg e (jX m):=by
 obtain ⟨tl,pl,sl⟩:=h;refine ⟨_,ZD pl,?_⟩;intro F H σ env R RE nb ok ex;unfold jX at nb ok ex
 cases hr:m env with
 | bad=>rw [hr] at nb;exact absurd rfl nb
 | exc x =>
  rw [hr] at ex;exact .inl (sl.val RE (by rw [hr];intro z;cases z) (λr er=>by rw [hr] at er;cases er) λx' z=>by rw [hr] at z;cases z;exact ex x rfl)
 | ok r =>
  rw [hr,bind_ok] at nb ok;have nb':m env≠.bad:=by rw [hr];intro z;cases z
  have noex:∀ x,m env=.exc x->rm X F H σ x:=λx z=>by rw [hr] at z;cases z
  obtain ⟨o,t⟩:=r;dsimp only at nb ok;cases t<;>simp only [km,ofO_none,ofO_some] at nb ok<;>try (exact absurd rfl nb)
  case lst us =>
   refine .inl (sl.val RE nb' (λr er v F1 H1 x1 i1 => ?_) noex);rw [hr] at er;cases er;unfold Is at i1;obtain ⟨a,vs,rfl,g1,g2⟩:=i1;exact ⟨a,rfl,⟨vs,g1.sq⟩,ok _ rfl _ F1 H1 x1 (bc g1 g2)⟩
  case tup us =>
   refine .inr (.inl (sl.val RE nb' (λr er v F1 H1 x1 i1 => ?_) noex));rw [hr] at er;cases er;unfold Is at i1;obtain ⟨a,vs,rfl,g1,g2⟩:=i1;exact ⟨a,rfl,⟨vs,g1⟩,ok _ rfl _ F1 H1 x1 (uY g1 g2)⟩
  case str z =>
   refine .inr (.inr (sl.val RE nb' (λr er v F1 H1 x1 i1 => ?_) noex));rw [hr] at er;cases er;unfold Is at i1;exact ⟨z,i1,ok _ rfl _ F1 H1 x1 uZ⟩
def ql (m:MA):aw:=λenv=>(m env).bind λrs=>match rs.map Prod.snd with
 | [.int j]=>if -(2 ^ 62)<=j/\j < 2 ^ 62 then .ok (gW 0 j.toNat) else .bad
 | _=>.bad
def om (hg:Gl X "range")(hm:X.mg "range" = none)(ha:Zz X [a] ma)(hs:starEach [a] X.env=[(false,eval a X.env)]:=by rfl):ba X tg (.Call (.Name "range" p) [a] [] pos) (ql ma):=by
 obtain ⟨ta,pa,sa⟩:=ha;refine ⟨_,tH hg hm pa hs,?_⟩;intro F H σ env R RE nb ok ex;unfold ql at nb ok ex;refine sa F H σ env _ RE (λz=>by rw [z] at nb;exact nb rfl) (λrs e1 vs F1 H1 x1 i1 => ?_) λx z=>ex x (by rw [z];rfl);rw [e1,bind_ok] at nb ok;obtain ⟨F2,x2,_,i2⟩:=i1.frz x1
 split at nb
 ·rename_i j hj
  rw [hj] at i2 ok;dsimp only at ok
  split at nb
  ·rename_i hb
   rw [if_pos hb] at ok;obtain ⟨v,rfl,g⟩:=fQ i2;unfold Is at g;exact ⟨j,by rw [g],hb.1,hb.2,ok _ rfl _ F2 H1 x2 b8⟩
  ·exact absurd rfl nb
 ·exact absurd rfl nb
def qb (env:En)(slots:List Nat):En:=slots.map λk=>(env[k]?).getD none
def wm (mt:MT)(me:ME)(caps:En):List T->vX (List T)
 | []=>.ok []
 | t :: ts=>match mt (some (false,t) :: caps) with
  | .ok true=>(match me (some (false,t) :: caps) with
   | .ok r=>(match wm mt me caps ts with
    | .ok rs=>.ok (r.2 :: rs)
    | _=>.bad)
   | _=>.bad)
  | .ok false=>wm mt me caps ts
  | _=>.bad
def zU (it:aw)(mt:MT)(me:ME)(slots:List Nat):ME:=λenv=>(it env).bind λts=>if ts.length<=sizeLine then (match wm mt me (qb env slots) ts with
 | .ok rs=>.ok (true,.lst rs)
 | _=>.bad) else .bad
def j4:MT:=λ_=>.ok true
def i8 (X:Cx)(ifs:List Expr)(m:MT):Prop := ∃ t,o6 X ifs t/\vI X t m
def xf:i8 X [] j4:=⟨_,Zn,λF H σ env Q R nb ok ex=>ok true rfl F H (.refl R.dom)⟩
def ax (h:cu X c m):i8 X [c] m:=let ⟨t,p,s⟩:=h;⟨t,YF p,s⟩
section
variable {X:Cx}{scope:Scope}{cl:List (Str×Addr)}{x:Str}{caps:List Str}{slots:List Nat}{iter elt:Expr}{ifs:List Expr}{px pos:Pos}{it:aw}{mt:MT}{me:ME}
def PR (X:Cx)(scope:Scope)(cl:List (Str×Addr))(x:Str)(caps:List Str)(ifs:List Expr)(m:MT):Prop := ∃ t,∀ C ex pn s₀ H₀,o6 (zh X scope cl C (x :: caps) ex pn s₀ H₀) ifs t/\ag (zh X scope cl C (x :: caps) ex pn s₀ H₀) t m
def UR (X:Cx)(scope:Scope)(cl:List (Str×Addr))(x:Str)(caps:List Str)(e:Expr)(m:ME):Prop := ∃ t,∀ C ex pn s₀ H₀,PE (zh X scope cl C (x :: caps) ex pn s₀ H₀) e t/\l6 (zh X scope cl C (x :: caps) ex pn s₀ H₀) t m
theorem ZH (h:∀ C ex pn s₀ H₀,jm (zh X scope cl C (x :: caps) ex pn s₀ H₀) e m):UR X scope cl x caps e m:=by
 refine ⟨λσ H Q=>∀ C ex pn s₀ H₀,∃ t,PE (zh X scope cl C (x :: caps) ex pn s₀ H₀) e t/\t σ H Q,λC ex pn s₀ H₀=>⟨λpins s σ H Q I w => ?_,λF H σ env Q R nb ok exx C' ex' pn' s₀' H₀' => ?_⟩⟩
 ·obtain ⟨t,p,w⟩:=w C ex pn s₀ H₀
  exact p pins s σ H Q I w
 ·obtain ⟨t,p,s⟩:=h C' ex' pn' s₀' H₀'
  exact ⟨t,p,s F H σ env Q R nb ok λy z=>(exx y z).elim⟩
theorem ZI (h:∀ C ex pn s₀ H₀,i8 (zh X scope cl C (x :: caps) ex pn s₀ H₀) ifs m):PR X scope cl x caps ifs m:=by
 refine ⟨λσ H Q=>∀ C ex pn s₀ H₀,∃ t,o6 (zh X scope cl C (x :: caps) ex pn s₀ H₀) ifs t/\t σ H Q,λC ex pn s₀ H₀=>⟨λpins s σ H Q I w => ?_,λF H σ env Q R nb ok exx C' ex' pn' s₀' H₀' => ?_⟩⟩
 ·obtain ⟨t,p,w⟩:=w C ex pn s₀ H₀
  exact p pins s σ H Q I w
 ·obtain ⟨t,p,s⟩:=h C' ex' pn' s₀' H₀'
  exact ⟨t,p,s F H σ env Q R nb ok λy z=>(exx y z).elim⟩
theorem ZJ {K:W.Frag}{F:Addr->Prop}{H:Hp}{σ:St}{env:En}{v:V}{t:T}(R:xL K F H σ env)(iv:Is K F H t v):xL K F H (some v :: v6 σ slots) (some (false,t) :: qb env slots):=by
 refine ⟨R.dom,λi r h => ?_⟩
 cases i with
 | zero =>
  simp at h;subst h;exact ⟨v,rfl,iv⟩
 | succ i =>
  have h:(qb env slots)[i]? = some (some r):=by simpa using h
  unfold qb at h;rw [List.getElem?_map] at h
  cases hk:slots[i]? with
  | none=>rw [hk] at h;cases h
  | some k =>
   rw [hk] at h;have h:(env[k]?).getD none=some r:=Option.some.inj h
   have he:env[k]? = some (some r):=by
    cases e:env[k]? with
    | none=>rw [e] at h;cases h
    | some o=>rw [e] at h;have:o=some r:=h;rw [this]
   obtain ⟨w,sw,q⟩:=R.vals k r he;refine ⟨w,?_,q⟩;show (v6 σ slots)[i]? = some (some w);unfold v6;rw [List.getElem?_map,hk];show some ((σ[k]?).getD none)=some (some w);rw [sw]
   rfl
theorem dj (si:Wn X wi it)(st:ag (zh X scope cl 0 (x :: caps) [] [] X.s₀ X.H₀) tt mt)(se:l6 (zh X scope cl 0 (x :: caps) [] [] X.s₀ X.H₀) te me) :
  xE X (af wi tt te slots) (zU it mt me slots):=by
 intro F H σ env Q RE nb ok exx;unfold zU at nb ok exx;refine si F H σ env _ RE (λz=>by rw [z] at nb;exact nb rfl) (λts e1 J F1 H1 x1 Y => ?_) λx z=>exx x (by rw [z];rfl);rw [e1,bind_ok] at nb ok
 by_cases hl:ts.length<=sizeLine
 ·rw [if_pos hl] at nb ok
  cases hcl:wm mt me (qb env slots) ts with
  | bad=>rw [hcl] at nb;exact absurd rfl nb
  | exc y=>rw [hcl] at nb;exact absurd rfl nb
  | ok out =>
   rw [hcl] at ok;intro D hD
   refine ⟨λi m ys H=>m=ts.length - i/\i<=ts.length/\ys.length<=i/\H D=some (.lst ys)/\∃ Fc us rest,¬ Fc D/\jv F1 H1 Fc H/\IsAll X.K Fc H us ys/\wm mt me (qb env slots) (ts.drop i)=.ok rest/\us ++ rest=out,
    ⟨ts.length,by simp,Nat.zero_le _,Nat.le_refl _,zi,F1,[],out,λf=>x1.dom D f hD,jv.alloc x1.dom hD,IsAll.nil,by simpa using hcl,rfl⟩,?_⟩
   rintro i m ys H2 ⟨rfl,hi,hyl,hHD,Fc,us,rest,nD,xc,iu,hrest,hout⟩;refine ⟨hHD,?_⟩;obtain ⟨yg,ysp⟩:=Y Fc H2 xc.kept i
   by_cases hlt:i < ts.length
   ·obtain ⟨go,yl⟩:=yg hlt
    refine .inr ⟨go,λv H3 y => ?_⟩;obtain ⟨rfl,t,hti,iv⟩:=yl v H3 y
    have hd:ts.drop i=t :: ts.drop (i + 1):=by
     rw [List.drop_eq_getElem_cons hlt];have:ts[i]? = some ts[i]:=by simp [hlt]
     rw [this] at hti;cases hti
     rfl
    rw [hd,wm] at hrest;have RE2:xL X.K Fc H3 σ env:=(RE.mono x1).mono xc;have RC:xL X.K Fc H3 (some v :: v6 σ slots) (some (false,t) :: qb env slots):=ZJ RE2 iv
    have keepD:∀ {F':Addr->Prop} {H':Hp},jv Fc H3 F' H'->¬ F' D/\H' D=some (.lst ys):=by
     intro F' H' xt;refine ⟨λf => ?_,xt.same D _ hHD⟩
     rcases xt.new D f with f | f
     ·exact nD f
     ·rw [hHD] at f;cases f
    refine st Fc H3 _ _ _ RC (λz=>by rw [z] at hrest;cases hrest) (λb eb F4 H4 x4 => ?_) λy z=>by rw [z] at hrest;cases hrest
    rw [eb] at hrest
    cases b with
    | false =>
     rw [if_neg Bool.false_ne_true];dsimp only at hrest;obtain ⟨n4,d4⟩:=keepD x4;exact ⟨ts.length - (i + 1),by omega,rfl,hlt,by omega,d4,F4,us,rest,n4,xc.trans x4,iu.mono x4.kept,hrest,hout⟩
    | true =>
     rw [if_pos rfl];dsimp only at hrest;refine se.val (RC.mono x4) (λz=>by rw [z] at hrest;cases hrest) (λr er w F5 H5 x5 iw => ?_) λy z=>by rw [z] at hrest;cases hrest
     rw [er] at hrest;dsimp only at hrest
     cases hcl2:wm mt me (qb env slots) (ts.drop (i + 1)) with
     | bad=>rw [hcl2] at hrest;cases hrest
     | exc y=>rw [hcl2] at hrest;cases hrest
     | ok rest2 =>
      rw [hcl2] at hrest;have hr:r.2 :: rest2=rest:=by injection hrest
      obtain ⟨n5,d5⟩:=keepD (x4.trans x5);have x15:=(xc.trans x4).trans x5;refine ⟨d5,by omega,ts.length - (i + 1),by omega,rfl,hlt,by rw [List.length_append];simp;omega,zi,F5,us ++ [r.2],rest2,n5,?_,?_,hcl2,by rw [<- hout,<- hr];simp⟩
      ·refine ⟨λa o h => ?_,x15.sub,x15.new,λa f => ?_⟩
       ·rw [z8 (zD h hD)];exact x15.same a o h
       ·have:a≠D:=by rintro rfl;exact n5 f
        rw [z8 this];exact x15.dom a f
      ·exact ((iu.mono (x4.trans x5).kept).append (IsAll.cons iw IsAll.nil)).mono (xy n5 d5 (.inl ⟨_,rfl⟩))
   ·have hli:i=ts.length:=by omega
    subst hli;rw [List.drop_length,wm] at hrest;have hr:rest=[]:=by injection hrest with hrest;exact hrest.symm
    subst hr;rw [List.append_nil] at hout;subst hout;refine .inl ⟨ysp (Nat.le_refl _),ok _ rfl _ Fc H2 (x1.trans xc) ?_⟩;unfold wq;rw [if_pos rfl];exact ⟨D,rfl,nD,jK x1.same hD,ys,hHD,iu⟩
 ·rw [if_neg hl] at nb
  exact absurd rfl nb
theorem K3 (hc:X.calm=true)(S:uK X scope cl x caps slots)(hi:ba X (.Name x px) iter it)
  (ht:∀ C ex pn s₀ H₀,i8 (zh X scope cl C (x :: caps) ex pn s₀ H₀) ifs mt) (he:∀ C ex pn s₀ H₀,jm (zh X scope cl C (x :: caps) ex pn s₀ H₀) elt me)
  (hs:∀ v,foldedSetIterable iter X.env v=pure v:=by intro _;rfl) (hg:∀ it v,letOwnedTupleGo (.Name x px) it v=pure ():=by intro _ _;rfl) :
  jm X (.ListComp elt [⟨.Name x px,iter,ifs,0⟩] scope pos) (zU it mt me slots):=by
 obtain ⟨wi,pi,si⟩:=hi;obtain ⟨tt,ht⟩:=ZI ht;obtain ⟨te,he⟩:=ZH he;exact ⟨_,YG hc S pi (λC ex pn s₀ H₀=>(ht C ex pn s₀ H₀).1) (λC ex pn s₀ H₀=>(he C ex pn s₀ H₀).1) hs hg,dj si (ht 0 [] [] X.s₀ X.H₀).2 (he 0 [] [] X.s₀ X.H₀).2⟩
end
end L3
namespace L3
open PySem PySem.W PyProof.Rows
def xz (lt:Nat->Nat->Bool){α:Type} : KasT α->α
 | .ret a=>a
 | .ask i j k=>xz lt (k (lt i j))
def wY:∀ (t:KasT α),xz lt (t.bind f)=xz lt (f (xz lt t))
 | .ret a=>rfl
 | .ask i j k=>by
  show xz lt ((k (lt i j)).bind f)=_;rw [wY (k (lt i j))]
  rfl
structure TO (lt:Nat->Nat->Bool) (n:Nat):Prop where
 asym:∀ i j,i < n->j < n->lt i j=true->lt j i=false
 trans:∀ i j k,i < n->j < n->k < n->lt i j=true->lt j k=true->lt i k=true
 total:∀ i j,i < n->j < n->i≠j->lt i j=true\/lt j i=true
structure Pm (p:Array Nat) (n:Nat):Prop where
 size:p.size=n
 perm:p.toList.Perm (List.range n)
def Pm.lt (h:Pm p n)(hi:i < n):p.getD i 0 < n:=by
 have hs:i < p.size:=by rw [h.size];exact hi
 have:p[i]∈p.toList:=by simp
 have:=(h.perm.mem_iff).mp this;simp only [Array.getD,hs,dite_true];exact List.mem_range.mp this
def Pm.inj (h:Pm p n)(hi:i < n)(hj:j < n)(e:p.getD i 0=p.getD j 0):i=j:=by
 have hi':i < p.size:=by rw [h.size];exact hi
 have hj':j < p.size:=by rw [h.size];exact hj
 have nd:p.toList.Nodup:=h.perm.nodup_iff.mpr List.nodup_range;simp only [Array.getD,hi',hj',dite_true] at e;have h1:p.toList[i]? = some p[i]:=by simp [hi']
 have h2:p.toList[j]? = some p[j]:=by simp [hj']
 have e:p[i]=p[j]:=e;rw [e] at h1;exact (List.getElem?_inj (by simpa using hi') nd).mp (h1.trans h2.symm)
def Up (lt:Nat->Nat->Bool)(p:Array Nat)(m:Nat):Prop := ∀ i j,i < j->j < m->lt (p.getD i 0) (p.getD j 0)=true
def Dn (lt:Nat->Nat->Bool)(p:Array Nat)(m:Nat):Prop := ∀ i j,i < j->j < m->lt (p.getD j 0) (p.getD i 0)=true
def YY (T:TO lt n)(h:Pm p n)(hm:m < n)(h1:1<=m)(u:Up lt p m)(hl:lt (p.getD m 0) (p.getD (m - 1) 0)=false):Up lt p (m + 1):=by
 have last:lt (p.getD (m - 1) 0) (p.getD m 0)=true:=by
  rcases T.total (p.getD m 0) (p.getD (m - 1) 0) (h.lt hm) (h.lt (by omega)) (λe=>by have:=h.inj hm (by omega) e;omega) with z | z
  ·rw [hl] at z;cases z
  ·exact z
 intro i j hij hj
 by_cases e:j=m
 ·subst e
  by_cases e2:i=j - 1
  ·subst e2;exact last
  ·exact T.trans _ _ _ (h.lt (by omega)) (h.lt (by omega)) (h.lt (by omega)) (u i (j - 1) (by omega) (by omega)) last
 ·exact u i j hij (by omega)
def i9 (T:TO lt n)(h:Pm p n)(hm:m < n)(h1:1<=m)(u:Dn lt p m)(hl:lt (p.getD m 0) (p.getD (m - 1) 0)=true):Dn lt p (m + 1):=by
 intro i j hij hj
 by_cases e:j=m
 ·subst e
  by_cases e2:i=j - 1
  ·subst e2;exact hl
  ·exact T.trans _ _ _ (h.lt (by omega)) (h.lt (by omega)) (h.lt (by omega)) hl (u i (j - 1) (by omega) (by omega))
 ·exact u i j hij (by omega)
def ic (T:TO lt n)(h:Pm p n):∀ (f m:Nat),1<=m->m + f=n->Up lt p m->Up lt p (xz lt (kas_asc p f m))/\m<=xz lt (kas_asc p f m)/\xz lt (kas_asc p f m)<=n /\
  (xz lt (kas_asc p f m) < n->lt (p.getD (xz lt (kas_asc p f m)) 0) (p.getD (xz lt (kas_asc p f m) - 1) 0)=true)
 | 0,m,h1,hf,u=>⟨u,Nat.le_refl _,by show m<=n;omega,λz=>absurd (show m < n from z) (by omega)⟩
 | f + 1,m,h1,hf,u=>by
  show _/\_;have e:xz lt (kas_asc p (f + 1) m)=xz lt (if lt (p.getD m 0) (p.getD (m - 1) 0)=true then .ret m else kas_asc p f (m + 1)):=rfl;rw [e]
  cases hl:lt (p.getD m 0) (p.getD (m - 1) 0) with
  | true=>exact ⟨u,Nat.le_refl _,by show m<=n;omega,λ_=>hl⟩
  | false =>
   obtain ⟨a,b,c,d⟩:=ic T h f (m + 1) (by omega) (by omega) (YY T h (by omega) h1 u hl);exact ⟨a,by show m<=xz lt (kas_asc p f (m + 1));omega,c,d⟩
def bd (h:Pm p n)(i j:Nat):Pm (kas_rev p i j) n:=by
 refine ⟨by unfold kas_rev;rw [mirror_size];exact h.size,?_⟩;have:=mirror_perm p i j ((j - i) / 2);exact (Array.perm_iff_toList_perm.mp this).trans h.perm
def vq {p:Array Nat}{k:Nat} : p.getD k 0=(p[k]?).getD 0:=by simp [Array.getD_eq_getD_getElem?]
def ay {p:Array Nat}(h:Pm p n){m k:Nat}(hm:m<=n):(kas_rev p 0 m).getD k 0=if k < m then p.getD (m - 1 - k) 0 else p.getD k 0:=by
 rw [vq];unfold kas_rev;rw [getElem?_mirror (by rw [h.size];exact hm) _ (by omega) k]
 by_cases hk:k < m
 ·rw [if_pos hk]
  by_cases c:(0<=k/\k < 0 + (m - 0) / 2)\/(m - (m - 0) / 2<=k/\k < m)
  ·rw [if_pos c,vq]
   congr 2
   omega
  ·rw [if_neg c]
   have:m - 1 - k=k:=by omega
   rw [this,vq]
 ·rw [if_neg hk,if_neg (by omega),vq]
def K4 (T:TO lt n)(h:Pm p n)(hm:m<=n)(d:Dn lt p m):Up lt (kas_rev p 0 m) m:=by
 intro i j hij hj;rw [ay h hm,ay h hm,if_pos (by omega),if_pos hj];exact d _ _ (by omega) (by omega)
def ie (T:TO lt n)(h:Pm p n):∀ (f m:Nat),1<=m->m + f=n->Dn lt p m->∃ m',xz lt (kas_desc f p m 0)=(p,m',0)/\m<=m'/\m'<=n/\Dn lt p m'
 | 0,m,h1,hf,u=>⟨m,rfl,Nat.le_refl _,by omega,u⟩
 | f + 1,m,h1,hf,u=>by
  have e:xz lt (kas_desc (f + 1) p m 0)=xz lt (if lt (p.getD m 0) (p.getD (m - 1) 0)=true then (if 0 > 0 then kas_desc f (kas_rev p (m - (0 + 1)) m) (m + 1) 0 else kas_desc f p (m + 1) 0)
   else .ask (p.getD (m - 1) 0) (p.getD m 0) λd=>if d=true then .ret (p,m,0) else kas_desc f p (m + 1) (0 + 1)):=rfl
  rw [e]
  cases hl:lt (p.getD m 0) (p.getD (m - 1) 0) with
  | true =>
   obtain ⟨m',e',a,b,c⟩:=ie T h f (m + 1) (by omega) (by omega) (i9 T h (by omega) h1 u hl);refine ⟨m',?_,by omega,b,c⟩;rw [if_pos rfl,if_neg (by omega)];exact e'
  | false =>
   rw [if_neg Bool.false_ne_true]
   have:lt (p.getD (m - 1) 0) (p.getD m 0)=true:=by
    rcases T.total (p.getD m 0) (p.getD (m - 1) 0) (h.lt (by omega)) (h.lt (by omega)) (λe=>by have:=h.inj (show m < n by omega) (by omega) e;omega) with z | z
    ·rw [hl] at z;cases z
    ·exact z
   show ∃ m',xz lt (if lt (p.getD (m - 1) 0) (p.getD m 0)=true then .ret (p,m,0) else kas_desc f p (m + 1) (0 + 1))=_/\_;rw [this,if_pos rfl];exact ⟨m,rfl,Nat.le_refl _,by omega,u⟩
def ZK (T:TO lt n)(h:Pm p n)(h1:1<=m)(hm:m<=n)(d:Dn lt p m):∃ k q,xz lt (kas_tail3 m n p)=(k,q)/\Pm q n/\1<=k/\k<=n/\Up lt q k:=by
 unfold kas_tail3;rw [wY];obtain ⟨a,b,c,_⟩:=ic T (bd h 0 m) (n - m) m h1 (by omega) (K4 T h hm d);exact ⟨_,_,rfl,bd h 0 m,by omega,c,a⟩
def dl (T:TO lt n)(h:Pm p n)(h2:1<=n):∃ k q,xz lt (kas_count n p)=(k,q)/\Pm q n/\1<=k/\k<=n/\Up lt q k:=by
 unfold kas_count;rw [wY];obtain ⟨a,b,c,d⟩:=ic T h (n - 1) 1 (Nat.le_refl _) (by omega) (λi j h1 h2=>by omega);generalize hk:xz lt (kas_asc p (n - 1) 1)=k at a b c d ⊢
 by_cases e:k=n
 ·rw [if_pos (by simp [e])]
  exact ⟨k,p,rfl,h,b,c,a⟩
 ·rw [if_neg (by simpa using e)]
  have hd:=d (by omega)
  by_cases hk1:k > 1
  ·rw [if_pos hk1]
   have:lt (p.getD 0 0) (p.getD (k - 1) 0)=true:=a 0 (k - 1) (by omega) (by omega);show ∃ k' q,xz lt (if lt (p.getD 0 0) (p.getD (k - 1) 0)=true then .ret (k,p) else kas_descPart k n (kas_rev p 0 k))=_/\_;rw [this,if_pos rfl];exact ⟨k,p,rfl,h,b,c,a⟩
  ·rw [if_neg hk1]
   have hk0:k=1:=by omega
   subst hk0;unfold kas_descPart;rw [wY];have d2:Dn lt p 2:=i9 T h (by omega) (Nat.le_refl _) (λi j h1 h2=>by omega) hd;obtain ⟨m',e',x,y,z⟩:=ie T h (n - (1 + 1)) (1 + 1) (by omega) (by omega) d2;rw [e'];show ∃ k q,xz lt (if 0 > 0 then _ else kas_tail3 m' n p)=_/\_;rw [if_neg (by omega)];exact ZK T h (by omega) y z
def n8 (T:TO lt n)(h:Pm p n)(hk:k < n)(u:Up lt p k):∀ (f l r:Nat),r - l<=f->l<=r->r<=k->(∀ i,i < l->lt (p.getD i 0) (p.getD k 0)=true)->(∀ i,r<=i->i < k->lt (p.getD k 0) (p.getD i 0)=true) ->
  ∃ l',xz lt (kas_place p k f l r)=l'/\l'<=k/\(∀ i,i < l'->lt (p.getD i 0) (p.getD k 0)=true)/\(∀ i,l'<=i->i < k->lt (p.getD k 0) (p.getD i 0)=true)
 | 0,l,r,hf,hlr,hr,a,b=>⟨l,rfl,by omega,a,λi h1 h2=>b i (by omega) h2⟩
 | f + 1,l,r,hf,hlr,hr,a,b=>by
  show ∃ l',xz lt (if l >= r then .ret l else .ask (p.getD k 0) (p.getD ((l + r) / 2) 0) λc=>if c=true then kas_place p k f l ((l + r) / 2) else kas_place p k f ((l + r) / 2 + 1) r)=l'/\_
  by_cases e:l >= r
  ·rw [if_pos e]
   exact ⟨l,rfl,by omega,a,λi h1 h2=>b i (by omega) h2⟩
  ·rw [if_neg e]
   show ∃ l',xz lt (if lt (p.getD k 0) (p.getD ((l + r) / 2) 0)=true then kas_place p k f l ((l + r) / 2) else kas_place p k f ((l + r) / 2 + 1) r)=l'/\_;have hmid:(l + r) / 2 < k:=by omega
   cases hl:lt (p.getD k 0) (p.getD ((l + r) / 2) 0) with
   | true =>
    rw [if_pos rfl];refine n8 T h hk u f l ((l + r) / 2) (by omega) (by omega) (by omega) a λi h1 h2 => ?_
    by_cases e2:i=(l + r) / 2
    ·subst e2;exact hl
    ·exact T.trans _ _ _ (h.lt hk) (h.lt (by omega)) (h.lt (by omega)) hl (u _ _ (by omega) h2)
   | false =>
    rw [if_neg Bool.false_ne_true]
    have hl2:lt (p.getD ((l + r) / 2) 0) (p.getD k 0)=true:=by
     rcases T.total (p.getD k 0) (p.getD ((l + r) / 2) 0) (h.lt hk) (h.lt (by omega)) (λe=>by have:=h.inj hk (by omega) e;omega) with z | z
     ·rw [hl] at z;cases z
     ·exact z
    refine n8 T h hk u f ((l + r) / 2 + 1) r (by omega) (by omega) hr (λi h1 => ?_) b
    by_cases e2:i=(l + r) / 2
    ·subst e2;exact hl2
    ·exact T.trans _ _ _ (h.lt (by omega)) (h.lt (by omega)) (h.lt hk) (u i ((l + r) / 2) (by omega) hmid) hl2
def ZL (T:TO lt n):∀ (f:Nat) (p:Array Nat) (k:Nat),Pm p n->k + f=n->1<=k->Up lt p k->∃ q,xz lt (kas_bin f p k)=q/\Pm q n/\Up lt q n
 | 0,p,k,h,hf,h1,u=>⟨p,rfl,h,by
  have:k=n:=by omega
  rw [<- this];exact u⟩
 | f + 1,p,k,h,hf,h1,u=>by
  unfold kas_bin;rw [wY];obtain ⟨l,e,hl,a,b⟩:=n8 T h (show k < n by omega) u k 0 k (by omega) (by omega) (Nat.le_refl _) (λi h=>by omega) (λi h1 h2=>by omega);rw [e];have hq:Pm (bubble p k (k - l)) n:=⟨by rw [bubble_size];exact h.size,(Array.perm_iff_toList_perm.mp (bubble_perm p k (k - l))).trans h.perm⟩
  have g:∀ i,(bubble p k (k - l)).getD i 0=if i=l then p.getD k 0 else if l < i/\i<=k then p.getD (i - 1) 0 else p.getD i 0:=by
   intro i;rw [vq,getElem?_bubble (by rw [h.size];omega) (k - l) (by omega) i];have:k - (k - l)=l:=by omega
   rw [this]
   by_cases e1:i=l
   ·rw [if_pos e1,if_pos e1,vq]
   ·rw [if_neg e1,if_neg e1]
    by_cases e2:l < i/\i<=k
    ·rw [if_pos e2,if_pos e2,vq]
    ·rw [if_neg e2,if_neg e2,vq]
  refine ZL T f _ (k + 1) hq (by omega) (by omega) λi j hij hj => ?_;rw [g i,g j]
  by_cases ei:i=l
  ·rw [if_pos ei,if_neg (by omega),if_pos (by omega)]
   exact b (j - 1) (by omega) (by omega)
  ·rw [if_neg ei]
   by_cases ej:j=l
   ·rw [if_pos ej,if_neg (by omega)]
    exact a i (by omega)
   ·rw [if_neg ej]
    by_cases ci:l < i/\i<=k
    ·rw [if_pos ci,if_pos (by omega)]
     exact u _ _ (by omega) (by omega)
    ·rw [if_neg ci]
     by_cases cj:l < j/\j<=k
     ·rw [if_pos cj]
      by_cases e3:i < j - 1
      ·exact u _ _ e3 (by omega)
      ·exfalso;omega
     ·rw [if_neg cj]
      exact u _ _ hij (by omega)
def YZ (T:TO lt n)(h1:1<=n):∃ q,xz lt (kas_sort n)=q/\Pm q n/\Up lt q n:=by
 unfold kas_sort;rw [wY];have h0:Pm (List.toArray (List.range n)) n:=⟨by simp,by simp⟩
 obtain ⟨k,q,e,hq,hk,hk2,u⟩:=dl T h0 h1;rw [e];show ∃ r,xz lt (if k < n then kas_bin (n - max k 1) q (max k 1) else .ret q)=r/\_
 by_cases hl:k < n
 ·rw [if_pos hl]
  have:max k 1=k:=by omega
  rw [this];exact ZL T (n - k) q k hq (by omega) hk u
 ·rw [if_neg hl]
  have:k=n:=by omega
  subst this;exact ⟨q,rfl,hq,u⟩
def n9 (lt:Nat->Nat->Bool)(n:Nat){α:Type} : KasT α->Prop
 | .ret _=>True
 | .ask i j k=>i < n/\j < n/\n9 lt n (k (lt i j))
def n9.bind:∀ {t:KasT α},n9 lt n t->n9 lt n (f (xz lt t))->n9 lt n (t.bind f)
 | .ret a,_,h=>h
 | .ask i j k,h,g=>⟨h.1,h.2.1,n9.bind h.2.2 g⟩
def dq (hc:∀ i j (C:Bool->Shared->Prop),i < n->j < n->C (lt i j) s->cmp i j C s) :
  ∀ (t:KasT α),n9 lt n t->Q (xz lt t) s->t.kasWp cmp Q s
 | .ret a,_,h=>h
 | .ask i j k,r,h=>hc i j _ r.1 r.2.1 (dq hc (k (lt i j)) r.2.2 h)
def bg (h:Pm p n):∀ (f m:Nat),1<=m->m + f=n->n9 lt n (kas_asc p f m)
 | 0,m,h1,hf=>trivial
 | f + 1,m,h1,hf=>by
  refine ⟨h.lt (by omega),h.lt (by omega),?_⟩
  cases hl:lt (p.getD m 0) (p.getD (m - 1) 0) with
  | true=>exact trivial
  | false=>exact bg h f (m + 1) (by omega) (by omega)
def az (T:TO lt n)(h:Pm p n):∀ (f m:Nat),1<=m->m + f=n->n9 lt n (kas_desc f p m 0)
 | 0,m,h1,hf=>trivial
 | f + 1,m,h1,hf=>by
  refine ⟨h.lt (by omega),h.lt (by omega),?_⟩
  cases hl:lt (p.getD m 0) (p.getD (m - 1) 0) with
  | true =>
   show n9 lt n (if true=true then (if 0 > 0 then kas_desc f (kas_rev p (m - (0 + 1)) m) (m + 1) 0 else kas_desc f p (m + 1) 0) else _);rw [if_pos rfl,if_neg (by omega)];exact az T h f (m + 1) (by omega) (by omega)
  | false =>
   refine ⟨h.lt (by omega),h.lt (by omega),?_⟩
   have:lt (p.getD (m - 1) 0) (p.getD m 0)=true:=by
    rcases T.total (p.getD m 0) (p.getD (m - 1) 0) (h.lt (by omega)) (h.lt (by omega)) (λe=>by have:=h.inj (show m < n by omega) (by omega) e;omega) with z | z
    ·rw [hl] at z;cases z
    ·exact z
   rw [this];exact trivial
def ZM (h:Pm p n)(h1:1<=m)(hm:m<=n):n9 lt n (kas_tail3 m n p):=by
 unfold kas_tail3;exact n9.bind (bg (bd h 0 m) (n - m) m h1 (by omega)) trivial
def ZN (T:TO lt n)(h:Pm p n)(h2:1<=n):n9 lt n (kas_count n p):=by
 unfold kas_count;refine n9.bind (bg h (n - 1) 1 (Nat.le_refl _) (by omega)) ?_;obtain ⟨a,b,c,d⟩:=ic T h (n - 1) 1 (Nat.le_refl _) (by omega) (λi j h1 h2=>by omega);generalize hk:xz lt (kas_asc p (n - 1) 1)=k at a b c d ⊢
 by_cases e:k=n
 ·rw [if_pos (by simp [e])]
  exact trivial
 ·rw [if_neg (by simpa using e)]
  have hd:=d (by omega)
  by_cases hk1:k > 1
  ·rw [if_pos hk1]
   refine ⟨h.lt (by omega),h.lt (by omega),?_⟩;have:lt (p.getD 0 0) (p.getD (k - 1) 0)=true:=a 0 (k - 1) (by omega) (by omega);rw [this];exact trivial
  ·rw [if_neg hk1]
   have hk0:k=1:=by omega
   subst hk0;unfold kas_descPart;have d2:Dn lt p 2:=i9 T h (by omega) (Nat.le_refl _) (λi j h1 h2=>by omega) hd;refine n9.bind (az T h (n - (1 + 1)) (1 + 1) (by omega) (by omega)) ?_;obtain ⟨m',e',x,y,z⟩:=ie T h (n - (1 + 1)) (1 + 1) (by omega) (by omega) d2;rw [e'];show n9 lt n (if 0 > 0 then _ else kas_tail3 m' n p);rw [if_neg (by omega)];exact ZM h (by omega) y
def nc (h:Pm p n)(hk:k < n):∀ (f l r:Nat),r<=k->n9 lt n (kas_place p k f l r)
 | 0,l,r,hr=>trivial
 | f + 1,l,r,hr=>by
  show n9 lt n (if l >= r then .ret l else .ask (p.getD k 0) (p.getD ((l + r) / 2) 0) λc=>if c=true then kas_place p k f l ((l + r) / 2) else kas_place p k f ((l + r) / 2 + 1) r)
  by_cases e:l >= r
  ·rw [if_pos e];exact trivial
  ·rw [if_neg e]
   refine ⟨h.lt hk,h.lt (by omega),?_⟩
   cases hl:lt (p.getD k 0) (p.getD ((l + r) / 2) 0) with
   | true=>exact nc h hk f l ((l + r) / 2) (by omega)
   | false=>exact nc h hk f ((l + r) / 2 + 1) r hr
def ZO (T:TO lt n):∀ (f:Nat) (p:Array Nat) (k:Nat),Pm p n->k + f=n->n9 lt n (kas_bin f p k)
 | 0,p,k,h,hf=>trivial
 | f + 1,p,k,h,hf=>by
  unfold kas_bin;refine n9.bind (nc h (by omega) k 0 k (Nat.le_refl _)) ?_;exact ZO T f _ (k + 1) ⟨by rw [bubble_size];exact h.size,(Array.perm_iff_toList_perm.mp (bubble_perm p k _)).trans h.perm⟩ (by omega)
def X0 (T:TO lt n)(h1:1<=n):n9 lt n (kas_sort n):=by
 unfold kas_sort;have h0:Pm (List.toArray (List.range n)) n:=⟨by simp,by simp⟩
 refine n9.bind (ZN T h0 h1) ?_;obtain ⟨k,q,e,hq,hk,hk2,u⟩:=dl T h0 h1;rw [e];show n9 lt n (if k < n then kas_bin (n - max k 1) q (max k 1) else .ret q)
 by_cases hl:k < n
 ·rw [if_pos hl]
  have:max k 1=k:=by omega
  rw [this];exact ZO T (n - k) q k hq (by omega)
 ·rw [if_neg hl]
  exact trivial
end L3
namespace L3
open PySem PySem.Spec PyProof.Rows PySem.W
def dr {l:Addr}{vs:List Value}{o:Obj}{n:Nat}{T:String}{Q:List Value->Shared->Prop}(ho:s.heap.get? l=some o)(hc:o.cls=.type T)(hd:o.data=.seq vs.toArray n)(hT:T = "list" \/ T = "tuple")
  (h:Q vs { s with heap:=(s.heap.push (seqObj "list" #[] 0)).update s.heap.objs.size (Obj.mapSeq (· ++ vs.toArray)) }) (hsz:vs.length<=sizeLine) :
  wpAny (model prog w) A (collect (.ref l)) Q E s:=by
 unfold collect;refine wpAny_bind (wpAny_runValue (codeAny_builtin entry_proto_collect' ?_));show wpAny _ _ (do again (.builtin "list.__iadd__" ⟨[<- newList [],.ref l],[]⟩)) _ _ s;refine wpAny_bind (wpAny_newList (wpAny_pure ⟨Code.quiet_builtin _ (by decide +kernel),codeAny_builtin entry_list_iadd' ?_⟩) (Nat.zero_le _));show wpAny _ _ (Builtin.List.listExtendWith (.ref s.heap.objs.size) (.ref l) (.ref s.heap.objs.size)) _ _ { s with heap:=s.heap.push (seqObj "list" #[] 0) };unfold Builtin.List.listExtendWith;have ho':(s.heap.push (seqObj "list" #[] 0)).get? l=some o:=Heap.get?_push_of_some _ ho;refine wpAny_bind (wpAny_typeOf ⟨o,ho',hc⟩ ?_);have e1:(Value.type "list" == Value.type "list")=true:=by decide +kernel
 have e2:(Value.type "tuple" == Value.type "tuple")=true:=by decide +kernel
 rw [if_pos (by rcases hT with rfl | rfl;(rw [e1];simp);(rw [e2];simp))];refine wpAny_bind (listItems_at ho' hd ?_);refine wpAny_bind (listItems_at (Heap.get?_push_size _ rfl) rfl ?_);rw [if_neg (by simp)];refine wpAny_bind (listUpdate_at (Heap.get?_push_size _ rfl) rfl ?_ (Nat.zero_le _) (by show (#[] ++ vs.toArray).size<=sizeLine + 1;simp only [Array.size_append,List.size_toArray,List.length_nil];omega));refine wpAny_pure ?_
 show wpAny (model prog w) A (do
   let o <- load s.heap.objs.size
   match o.data with
   | .seq xs _=>pure xs.toList
   | _=>unsupported "internal:collect") Q E { s with heap:=(s.heap.push (seqObj "list" #[] 0)).update s.heap.objs.size (Obj.mapSeq (· ++ vs.toArray)) }
 refine wpAny_bind (wpAny_load (get?_update_seq (Heap.get?_push_size _ rfl) _) ?_);show wpAny _ _ (pure ((#[]:Array Value) ++ vs.toArray).toList) Q E _;rw [show ((#[]:Array Value) ++ vs.toArray).toList=vs by simp];exact wpAny_pure h
def oo (ho:s.heap.get? a=some (seqObj "list" vs.toArray n))(h64:vs.length < 64)(T:TO lt vs.length)
  (hk:2<=vs.length->∀ h',(∀ b o,b≠a->s.heap.get? b=some o->h'.get? b=some o) ->
   (∀ (Q:SortKind->Shared->Prop),Q κ { s with heap:=h' } -> wpAny (model prog w) A (keyKind' vs.toArray) Q (λ_ _=>False) { s with heap:=h' }) /\
   ∀ i j (C:Bool->Shared->Prop),i < vs.length->j < vs.length->C (lt i j) { s with heap:=h' } -> wpAny (model prog w) A (keyLt' κ (vs.getD i Value.none) (vs.getD j Value.none)) C (λ_ _=>False) { s with heap:=h' })
  (h:∀ q:Array Nat,Pm q vs.length->Up lt q vs.length->P (.done (.ret .none)) { s with heap:=sortedHeap s.heap a vs (List.toArray (q.toList.map λi=>vs.getD i Value.none)) }) :
  wpAny (model prog w) A (Builtin.«list.sort» ⟨[.ref a],[]⟩) P E s:=by
 rw [list_sort_plain];have ha:a < s.heap.objs.size:=Heap.lt_size ho;refine wpAny_bind (listItems_at ho rfl ?_);refine wpAny_bind (listUpdate_at ho rfl ?_ (by rw [List.size_toArray,sizeLine_eq];omega) (Nat.zero_le _));obtain ⟨e1,ho1⟩:∃ e1,(s.heap.update a (Obj.mapSeq λ_=>(#[]:Array Value))).get? a=some (seqObj "list" #[] e1):=⟨_,get?_update_seq ho (λ_ => #[])⟩
 refine wpAny_bind (seqEpoch_at ho1 rfl ?_);refine wpAny_bind (wpAny_newTuple ?_ (by show vs.length<=_;rw [sizeLine_eq];omega));refine wpAny_bind (wpAny_newList ?_ (Nat.zero_le _));refine wpAny_holding ?_
 have ho6:(((s.heap.update a (Obj.mapSeq λ_=>(#[]:Array Value))).push (seqObj "tuple" vs.toArray 0)).push (seqObj "list" #[] 0)).get? a=some (seqObj "list" #[] e1):=by
  rw [Heap.get?_push_ne _ _ _ (by rw [size_push',Heap.size_update];exact Nat.ne_of_lt (Nat.lt_succ_of_lt ha)),Heap.get?_push_ne _ _ _ (by rw [Heap.size_update];exact Nat.ne_of_lt ha)];exact ho1
 show wpAny (model prog w) A _ P E { s with heap:=((s.heap.update a (Obj.mapSeq λ_=>(#[]:Array Value))).push (seqObj "tuple" vs.toArray 0)).push (seqObj "list" #[] 0) };dsimp only;have hsz:vs.toArray.size=vs.length:=by simp
 by_cases h2:vs.toArray.size < 2
 ·rw [if_pos h2,if_pos h2]
  refine wpAny_bind (wpAny_pure ?_);rw [StateT.run_pure];refine wpAny_bind (wpAny_pure ?_);dsimp only;refine wpAny_bind (seqEpoch_at ho6 rfl ?_);have hlen:vs.length < 2:=by omega
  have e2:(arrOf (SortSt.mk' general' (vs.toArray.zip vs.toArray) #[] 7 none)).map (·.2)=List.toArray ((List.toArray (List.range vs.length)).toList.map λi=>vs.getD i Value.none):=by
   refine kat_snds rfl ?_;have e:=kas_range (vs.toArray.zip vs.toArray);rw [show (vs.toArray.zip vs.toArray).size=vs.length by simp] at e;exact e.symm
  have e2':Array.map (·.2) (vs.toArray.zip vs.toArray)=List.toArray ((List.toArray (List.range vs.length)).toList.map λi=>vs.getD i Value.none):=e2;refine wpAny_bind (listUpdate_at ho6 rfl ?_ (Nat.zero_le _) (by show (Array.map (·.2) (arrOf (SortSt.mk' general' (vs.toArray.zip vs.toArray) #[] 7 none))).size<=_;rw [e2,List.size_toArray,List.length_map];simp;rw [sizeLine_eq];omega));simp only [bne_self_eq_false,Bool.false_eq_true,if_false];refine wpAny_pure ?_;have:=h (List.toArray (List.range vs.length)) ⟨by simp,by simp⟩ λi j hij hj=>by omega
  rw [<- e2'] at this;exact this
 ·rw [if_neg h2,if_neg h2]
  have h2':2<=vs.length:=by omega
  obtain ⟨kk,kl⟩:=hk h2' _ (λb o hb e=>by
   have hlt:b < s.heap.objs.size:=Heap.lt_size e;show (((s.heap.update a (Obj.mapSeq λ_=>(#[]:Array Value))).push (seqObj "tuple" vs.toArray 0)).push (seqObj "list" #[] 0)).get? b=some o;rw [Heap.get?_push_ne _ _ _ (by rw [size_push',Heap.size_update];exact Nat.ne_of_lt (Nat.lt_succ_of_lt hlt)),Heap.get?_push_ne _ _ _ (by rw [Heap.size_update];exact Nat.ne_of_lt hlt),Heap.get?_update_ne _ _ _ _ hb];exact e)
  refine wpAny_bind (wpAny_mono (kk (λκ' s'=>κ'=κ/\s' = { s with heap:=((s.heap.update a (Obj.mapSeq λ_=>(#[]:Array Value))).push (seqObj "tuple" vs.toArray 0)).push (seqObj "list" #[] 0) }) ⟨rfl,rfl⟩) (λκ' s0 hκ => ?_) λ_ _ x=>x.elim);obtain ⟨rfl,rfl⟩:=hκ;obtain ⟨q,hq1,hq2,hq3⟩:=YZ T (by omega)
  refine wpAny_bind (wpAny_mono (kat_run (G:=λp s'=>p=q/\s' = { s with heap:=((s.heap.update a (Obj.mapSeq λ_=>(#[]:Array Value))).push (seqObj "tuple" vs.toArray 0)).push (seqObj "list" #[] 0) })
   (Q:=λst' s'=>arrOf st'=q.map (kas_item (vs.toArray.zip vs.toArray))/\failedOf st'=none/\s' = { s with heap:=((s.heap.update a (Obj.mapSeq λ_=>(#[]:Array Value))).push (seqObj "tuple" vs.toArray 0)).push (seqObj "list" #[] 0) })
   rfl h2' h64 (λp' st' s' a1 a2 a3 a4=>by obtain ⟨rfl,rfl⟩:=a4;exact ⟨a2,a3,rfl⟩) (dq (λi j C hi hj hC=>kl i j C hi hj hC) (kas_sort vs.length) (X0 T (by omega)) ⟨hq1,rfl⟩)) ?_ λ_ _ e=>e)
  rintro ⟨⟨⟩,st'⟩ s' ⟨har,hf,rfl⟩;dsimp only;have hout:=kat_snds rfl har;have hsz3:(List.toArray (q.toList.map λi=>vs.getD i Value.none)).size=vs.length:=by rw [List.size_toArray,List.length_map,Array.length_toList,hq2.size]
  rw [hout];refine wpAny_bind (seqEpoch_at ho6 rfl ?_);refine wpAny_bind (listUpdate_at ho6 rfl ?_ (Nat.zero_le _) (Nat.le_trans (Nat.le_of_eq hsz3) (by rw [sizeLine_eq];omega)));rw [hf];simp only [bne_self_eq_false,Bool.false_eq_true,if_false];exact wpAny_pure (h q hq2 hq3)
def l9 {κ:SortKind}{lt:Nat->Nat->Bool}{l:Addr}{vs:List Value}{o:Obj}{n:Nat}{Ty:String}{Q:Value->Shared->Prop}(ho:s.heap.get? l=some o)(hc:o.cls=.type Ty)(hd:o.data=.seq vs.toArray n)(hT:Ty = "list" \/ Ty = "tuple")
  (h64:vs.length < 64) (T:TO lt vs.length)
  (hk:2<=vs.length->∀ h',(∀ b o,s.heap.get? b=some o->h'.get? b=some o) ->
   (∀ (Q:SortKind->Shared->Prop),Q κ { s with heap:=h' } -> wpAny (model prog w) A.in1.in1 (keyKind' vs.toArray) Q (λ_ _=>False) { s with heap:=h' }) /\
   ∀ i j (C:Bool->Shared->Prop),i < vs.length->j < vs.length->C (lt i j) { s with heap:=h' } -> wpAny (model prog w) A.in1.in1 (keyLt' κ (vs.getD i Value.none) (vs.getD j Value.none)) C (λ_ _=>False) { s with heap:=h' })
  (h:∀ q:Array Nat,Pm q vs.length->Up lt q vs.length->Q (.ref (s.heap.objs.size + 1)) { s with heap:=sortedAll s.heap vs (List.toArray (q.toList.map λi=>vs.getD i Value.none)) }) :
  wpAny (model prog w) A (call (.builtin "sorted") [.ref l]) Q E s:=by
 refine Calls.call_function_entry kind_sorted plain_sorted entry_sorted (args_sorted1 _) ?_;unfold Builtin.«sorted»;refine wpAny_bind (wpAny_pure ?_);refine wpAny_bind (dr ho hc hd hT ?_ (by rw [sizeLine_eq];omega));refine wpAny_bind (wpAny_newList ?_ (by rw [sizeLine_eq];omega))
 have hsz:((s.heap.push (seqObj "list" #[] 0)).update s.heap.objs.size (Obj.mapSeq (· ++ vs.toArray))).objs.size=s.heap.objs.size + 1:=by
  rw [Heap.size_update,size_push']
 have hoL:(((s.heap.push (seqObj "list" #[] 0)).update s.heap.objs.size (Obj.mapSeq (· ++ vs.toArray))).push (seqObj "list" vs.toArray 0)).get? (s.heap.objs.size + 1)=some (seqObj "list" vs.toArray 0):=by
  rw [<- hsz];exact Heap.get?_push_size _ rfl
 have keep:∀ b o,s.heap.get? b=some o->(((s.heap.push (seqObj "list" #[] 0)).update s.heap.objs.size (Obj.mapSeq (· ++ vs.toArray))).push (seqObj "list" vs.toArray 0)).get? b=some o:=λb o q=>by
  have hlt:b < s.heap.objs.size:=Heap.lt_size q;rw [Heap.get?_push_ne _ _ _ (by rw [hsz];exact Nat.ne_of_lt (Nat.lt_succ_of_lt hlt)),Heap.get?_update_ne _ _ _ _ (Nat.ne_of_lt hlt),Heap.get?_push_ne _ _ _ (Nat.ne_of_lt hlt)];exact q
 show wpAny _ _ _ _ _ { s with heap:=((s.heap.push (seqObj "list" #[] 0)).update s.heap.objs.size (Obj.mapSeq (· ++ vs.toArray))).push (seqObj "list" vs.toArray 0) };rw [hsz];refine wpAny_bind (wpAny_holding (wpAny_call_entry slot_list_sort ⟨_,hoL,rfl⟩ entry_list_sort (oo (κ:=κ) hoL h64 T (λh2 h' kp => ?_) λq hq1 hq2=>⟨_,rfl,?_⟩) (args_list_sort _)))
 ·exact hk h2 h' λb o e=>kp b o (Nat.ne_of_lt (Nat.lt_succ_of_lt (Heap.lt_size e))) (keep b o e)
 ·exact wpAny_pure ⟨_,rfl,h q hq1 hq2⟩
end L3
namespace L3
open PySem PySem.Spec PyProof.Rows PySem.W L2
def xF:T->List (List Nat)
 | .str z=>[z.cps.toList]
 | .tup (.str a :: .str b :: _)=>[a.cps.toList,b.cps.toList]
 | _=>[]
def oq:T->Bool
 | .str _=>true
 | _=>false
def ZP:T->Bool
 | .tup (.str _ :: .str _ :: _)=>true
 | _=>false
def dv (a b:T):Bool:=decide (xF a < xF b)
def bh (t:T):List T->List T
 | []=>[t]
 | u :: us=>if dv u t=true then u :: bh t us else t :: u :: us
def wz:List T->List T
 | []=>[]
 | t :: ts=>bh t (wz ts)
def sortS (ts:List T):Option (List T):=if ts.length < 64/\(ts.all oq=true\/ts.all ZP=true)/\(ts.map xF).Nodup then some (wz ts) else none
def qJ:List T->Option RV
 | [.lst ts]=>(sortS ts).map λus=>(true,.lst us)
 | [.tup ts]=>(sortS ts).map λus=>(true,.lst us)
 | _=>none
def fV (t:T):∀ us:List T,(bh t us).Perm (t :: us)
 | []=>List.Perm.refl _
 | u :: us=>by
  unfold bh
  split
  ·exact ((fV t us).cons u).trans (List.Perm.swap t u us)
  ·exact List.Perm.refl _
def vt:∀ ts:List T,(wz ts).Perm ts
 | []=>List.Perm.refl _
 | t :: ts=>(fV t (wz ts)).trans ((vt ts).cons t)
def aA {a b:List (List Nat)}(h:¬ a < b)(g:¬ b < a):a=b:=List.le_antisymm (List.not_lt.mp g) (List.not_lt.mp h)
def pJ {t:T} : ∀ {us:List T},us.Pairwise (λa b=>dv a b=true)->(∀ u∈us,xF u≠xF t)->(bh t us).Pairwise (λa b=>dv a b=true)
 | [],_,_=>by unfold bh;simp
 | u :: us,h,hn=>by
  unfold bh;have hp:=List.pairwise_cons.mp h
  split
  ·rename_i hl
   refine List.pairwise_cons.mpr ⟨λx hx => ?_,pJ hp.2 λv hv=>hn v (List.mem_cons_of_mem _ hv)⟩
   rcases List.mem_cons.mp ((fV t us).mem_iff.mp hx) with rfl | hx
   ·exact hl
   ·exact hp.1 x hx
  ·rename_i hl
   have htu:dv t u=true:=by
    unfold dv at hl ⊢;refine decide_eq_true ?_;refine Classical.byContradiction λz => ?_;exact hn u List.mem_cons_self (aA (by simpa using hl) z)
   refine List.pairwise_cons.mpr ⟨λx hx => ?_,h⟩
   rcases List.mem_cons.mp hx with rfl | hx
   ·exact htu
   ·have h1:=of_decide_eq_true htu
    have h2:=of_decide_eq_true (hp.1 x hx);exact decide_eq_true (List.lt_trans h1 h2)
def qV:∀ {ts:List T},(ts.map xF).Nodup->(wz ts).Pairwise (λa b=>dv a b=true)
 | [],_=>List.Pairwise.nil
 | t :: ts,h=>by
  rw [List.map_cons] at h;have hn:=List.nodup_cons.mp h;refine pJ (qV hn.2) λu hu e=>hn.1 ?_;rw [<- e];exact List.mem_map.mpr ⟨u,(vt ts).mem_iff.mp hu,rfl⟩
def ng (ts:List T)(i j:Nat):Bool:=match ts[i]?,ts[j]? with
 | some a,some b=>dv a b
 | _,_=>false
def QU {ts:List T}(h:(ts.map xF).Nodup):TO (ng ts) ts.length:=by
 refine ⟨λi j hi hj e => ?_,λi j k hi hj hk e1 e2 => ?_,λi j hi hj hij => ?_⟩
 ·unfold ng at e ⊢
  obtain ⟨a,ha⟩:∃ a,ts[i]? = some a:=⟨ts[i],by simp [hi]⟩
  obtain ⟨b,hb⟩:∃ b,ts[j]? = some b:=⟨ts[j],by simp [hj]⟩
  rw [ha,hb] at e ⊢;exact decide_eq_false (List.lt_asymm (of_decide_eq_true e))
 ·unfold ng at e1 e2 ⊢
  obtain ⟨a,ha⟩:∃ a,ts[i]? = some a:=⟨ts[i],by simp [hi]⟩
  obtain ⟨b,hb⟩:∃ b,ts[j]? = some b:=⟨ts[j],by simp [hj]⟩
  obtain ⟨c,hc⟩:∃ c,ts[k]? = some c:=⟨ts[k],by simp [hk]⟩
  rw [ha,hb] at e1;rw [hb,hc] at e2;rw [ha,hc];exact decide_eq_true (List.lt_trans (of_decide_eq_true e1) (of_decide_eq_true e2))
 ·unfold ng
  obtain ⟨a,ha⟩:∃ a,ts[i]? = some a:=⟨ts[i],by simp [hi]⟩
  obtain ⟨b,hb⟩:∃ b,ts[j]? = some b:=⟨ts[j],by simp [hj]⟩
  rw [ha,hb]
  have hne:xF a≠xF b:=λe=>by
   have h1:(ts.map xF)[i]? = some (xF a):=by rw [List.getElem?_map,ha];rfl
   have h2:(ts.map xF)[j]? = some (xF b):=by rw [List.getElem?_map,hb];rfl
   rw [<- e] at h2;exact hij ((List.getElem?_inj (by simpa using hi) h).mp (h1.trans h2.symm))
  by_cases hl:xF a < xF b
  ·exact .inl (decide_eq_true hl)
  ·refine .inr (decide_eq_true ?_)
   exact Classical.byContradiction λz=>hne (aA hl z)
def K5 (h:(ts.map xF).Nodup)(hq:Pm q ts.length)(u:Up (ng ts) q ts.length):q.toList.map (λi=>(ts[i]?).getD .non)=wz ts:=by
 have hp:(q.toList.map (λi=>(ts[i]?).getD .non)).Perm ts:=by
  have h1:(q.toList.map (λi=>(ts[i]?).getD .non)).Perm ((List.range ts.length).map (λi=>(ts[i]?).getD .non)):=hq.perm.map _
  have h2:(List.range ts.length).map (λi=>(ts[i]?).getD .non)=ts:=by
   apply List.ext_getElem?;intro i;rw [List.getElem?_map]
   by_cases hi:i < ts.length
   ·simp [hi]
   ·simp [hi]
  rw [h2] at h1;exact h1
 refine List.Perm.eq_of_pairwise (λa b _ _ h1 h2 => ?_) ?_ (qV h) (hp.trans (vt ts).symm)
 ·exact absurd (of_decide_eq_true h2) (List.lt_asymm (of_decide_eq_true h1))
 ·rw [List.pairwise_iff_getElem]
  intro i j hi hj hij;rw [List.length_map,Array.length_toList,hq.size] at hi hj;have e:=u i j hij hj;have hi':i < q.size:=by rw [hq.size];exact hi
  have hj':j < q.size:=by rw [hq.size];exact hj
  have g1:q.getD i 0=q[i]:=by simp [Array.getD,hi']
  have g2:q.getD j 0=q[j]:=by simp [Array.getD,hj']
  rw [g1,g2] at e;have b1:q[i] < ts.length:=by rw [<- g1];exact hq.lt hi
  have b2:q[j] < ts.length:=by rw [<- g2];exact hq.lt hj
  simp only [List.getElem_map,Array.getElem_toList];unfold ng at e;have c1:ts[q[i]]? = some ts[q[i]]:=by simp [b1]
  have c2:ts[q[j]]? = some ts[q[j]]:=by simp [b2]
  rw [c1,c2] at e ⊢;exact e
def ig {K:W.Frag}{F:Addr->Prop}{H:Hp}{vs:List V}(h:IsAll K F H [] vs):vs=[]:=by unfold IsAll at h;exact h
section
variable {X:Cx}{pins:List (Addr×Obj)}{σ:St}{H:Hp}{s:Shared}{F:Addr->Prop}
theorem nh:∀ {ts:List T} {vs:List V} {us:List Value},ts.all oq=true->IsAll X.K F H ts vs->zF vs us->∃ ss,StrsAre us ss
 | [],vs,us,_,i,r=>by
  have:=ig i;subst this;cases r;exact ⟨[],.nil⟩
 | t :: ts,vs,us,h,i,r=>by
  unfold IsAll at i;obtain ⟨v,w,rfl,i1,i2⟩:=i
  cases r with
  | cons r1 r2 =>
  rw [List.all_cons,Bool.and_eq_true] at h;obtain ⟨ss,hs⟩:=nh h.2 i2 r2;cases t<;>simp only [oq,Bool.false_eq_true,false_and] at h
  case str z =>
   unfold Is at i1;subst i1;obtain ⟨tk,rfl⟩:=r1;exact ⟨z :: ss,.cons z tk hs⟩
theorem X1 {prog:Program}{w:World}{A:Around}{E:Value->Shared->Prop}{s:Shared}{a b:T}{x y:V}{u v:Value}{K:W.Frag}{C:Bool->Shared->Prop}(ha:oq a=true)(hb:oq b=true)(ia:Is K F H a x)(ib:Is K F H b y)(ra:L2.RelV x u)(rb:L2.RelV y v)
  (h:C (dv a b) s):wpAny (model prog w) A (keyLt' oneType' u v) C E s:=by
 cases a<;>simp only [oq,Bool.false_eq_true] at ha
 case str a =>
  cases b<;>simp only [oq,Bool.false_eq_true] at hb
  case str b =>
   unfold Is at ia ib;subst ia ib;obtain ⟨t,rfl⟩:=ra;obtain ⟨t',rfl⟩:=rb;refine kas_lt_str ?_
   have:dv (.str a) (.str b)=decide (a.cps.toList < b.cps.toList):=by
    unfold dv xF;refine decide_eq_decide.mpr ⟨λh => ?_,λh => ?_⟩
    ·rcases List.cons_lt_cons_iff.mp h with h | ⟨_,h⟩
     ·exact h
     ·exact absurd h (by simp)
    ·exact List.cons_lt_cons_iff.mpr (.inl h)
   rw [<- this];exact h
theorem pK:∀ (xs:List Value) (i:Nat),Q fin s->KatLex prog w A b fin Q (xs.zip xs) i s
 | [],i,h=>h
 | x :: xs,i,h=>by
  rw [List.zip_cons_cons];exact kat_cons (SeqAt.EqAt.same x _ _ _ _ (kat_yes (pK xs (i + 1) h)))
theorem fW {K:W.Frag}{a1 a2:Str}{ar:List T}{vs:List V}{us:List Value}(i:IsAll K F H (.str a1 :: .str a2 :: ar) vs)(r:zF vs us):∃ t1 t2 ur,us=.str a1 t1 :: .str a2 t2 :: ur:=by
 unfold IsAll at i;obtain ⟨v1,w1,rfl,i1,i2⟩:=i;unfold IsAll at i2;obtain ⟨v2,w2,rfl,i3,i4⟩:=i2;unfold Is at i1 i3;subst i1 i3
 cases r with
 | cons r1 r2 =>
  cases r2 with
  | cons r3 r4 =>
   obtain ⟨t1,rfl⟩:=r1;obtain ⟨t2,rfl⟩:=r3;exact ⟨t1,t2,_,rfl⟩
theorem X2:dv (.tup (.str a1 :: .str a2 :: ar)) (.tup (.str b1 :: .str b2 :: br))=if (a1 == b1)=true then decide (a2.cps.toList < b2.cps.toList) else decide (a1.cps.toList < b1.cps.toList):=by
 have ext:∀ {x y:Str},x.cps.toList=y.cps.toList->x=y:=by
  intro x y h;cases x;cases y;simp only [Str.mk.injEq];exact Array.toList_inj.mp h
 unfold dv xF
 by_cases e:a1=b1
 ·subst e
  rw [if_pos (by simp)];refine decide_eq_decide.mpr ⟨λh => ?_,λh => ?_⟩
  ·rcases List.cons_lt_cons_iff.mp h with h | ⟨_,h⟩
   ·exact absurd h (List.lt_irrefl _)
   ·rcases List.cons_lt_cons_iff.mp h with h | ⟨_,h⟩
    ·exact h
    ·exact absurd h (by simp)
  ·exact List.cons_lt_cons_iff.mpr (.inr ⟨rfl,List.cons_lt_cons_iff.mpr (.inl h)⟩)
 ·rw [if_neg (by simpa using e)]
  refine decide_eq_decide.mpr ⟨λh => ?_,λh => ?_⟩
  ·rcases List.cons_lt_cons_iff.mp h with h | ⟨h,_⟩
   ·exact h
   ·exact absurd (ext h) e
  ·exact List.cons_lt_cons_iff.mpr (.inl h)
theorem X3
  (hp:IsTup s.heap p (List.toArray (.str a1 t1 :: .str a2 t2 :: ur))) (hq:IsTup s.heap q (List.toArray (.str b1 t3 :: .str b2 t4 :: wr)))
  (hd:xF (.tup (.str a1 :: .str a2 :: ar))≠xF (.tup (.str b1 :: .str b2 :: br))\/p=q) (h:C (dv (.tup (.str a1 :: .str a2 :: ar)) (.tup (.str b1 :: .str b2 :: br))) s) :
  wpAny (model prog w) A (keyLt' (tuples' true) (.ref p) (.ref q)) C E s:=by
 obtain ⟨o1,e1,c1,n1,d1⟩:=id hp;obtain ⟨o2,e2,c2,n2,d2⟩:=id hq;refine kat_lt e1 d1 e2 d2 ?_
 rcases hd with hd | hd
 ·rw [X2] at h
  show KatLex prog w A true _ C ((Value.str a1 t1,Value.str b1 t3) :: (Value.str a2 t2,Value.str b2 t4) :: ur.zip wr) 0 s;refine kat_cons (SeqAt.EqAt.str_str a1 t1 b1 t3 _ _ _ _ ?_)
  by_cases x1:(a1 == b1)=true
  ·rw [x1]
   rw [if_pos x1] at h;refine kat_yes (kat_cons (SeqAt.EqAt.str_str a2 t2 b2 t4 _ _ _ _ ?_))
   have x2:(a2 == b2)=false:=by
    cases z:a2 == b2 with
    | false=>rfl
    | true =>
     exfalso;refine hd ?_;have z1:a1=b1:=by simpa using x1
     have z2:a2=b2:=by simpa using z
     rw [z1,z2]
     rfl
   rw [x2];exact kat_no (kat_one _ _ (PyProof.Rows.lt_str h))
  ·have x1':(a1 == b1)=false:=by simpa using x1
   rw [x1'];rw [if_neg x1] at h;exact kat_no (oneLt_str h)
 ·subst hd
  rw [e1] at e2;cases e2;rw [d1] at d2
  have:Value.str a1 t1 :: Value.str a2 t2 :: ur=Value.str b1 t3 :: Value.str b2 t4 :: wr:=by
   have:=d2;injection this with this _
   simpa using this
  rw [<- this];refine pK _ 0 ?_
  have hirr:dv (.tup (.str a1 :: .str a2 :: ar)) (.tup (.str b1 :: .str b2 :: br))=false:=by
   injection this with g1 g2
   injection g1 with g1 _
   injection g2 with g2 _
   injection g2 with g2 _
   subst g1 g2;unfold dv xF;exact decide_eq_false (List.lt_irrefl _)
  rw [hirr] at h;have:decide ((Value.str a1 t1 :: Value.str a2 t2 :: ur).toArray.size < (Value.str a1 t1 :: Value.str a2 t2 :: ur).toArray.size)=false:=decide_eq_false (Nat.lt_irrefl _);rw [this];exact h
theorem ni {K:W.Frag}{ts:List T}{vs:List V}(h:IsAll K F H ts vs):∀ {is:List Nat},(∀ i∈is,i < ts.length)->IsAll K F H (is.map λi=>(ts[i]?).getD .non) (is.map λi=>(vs[i]?).getD .non)
 | [],_=>IsAll.nil
 | i :: is,hi=>by
  have h0:=hi i List.mem_cons_self;obtain ⟨v,hv,q⟩:=h.get (i:=i) (t:=ts[i]) (by simp [h0]);refine IsAll.cons ?_ (ni h λj hj=>hi j (List.mem_cons_of_mem _ hj));show Is K F H ((ts[i]?).getD T.non) ((vs[i]?).getD V.non);rw [hv];have:ts[i]? = some ts[i]:=by simp [h0]
  rw [this];exact q
theorem la (h:zF vs us):∀ {is:List Nat},(∀ i∈is,i < vs.length)->zF (is.map λi=>(vs[i]?).getD .non) (is.map λi=>us.getD i Value.none)
 | [],_=>.nil
 | i :: is,hi=>by
  have h0:=hi i List.mem_cons_self;obtain ⟨u,hu,q⟩:=h.get (i:=i) (x:=vs[i]) (by simp [h0]);refine .cons ?_ (la h λj hj=>hi j (List.mem_cons_of_mem _ hj));have e1:vs[i]? = some vs[i]:=by simp [h0]
  have e2:us.getD i Value.none=u:=by rw [List.getD_eq_getElem?_getD,hu];rfl
  show L2.RelV ((vs[i]?).getD V.non) (us.getD i Value.none);rw [e1,e2];exact q
theorem ui (h:zF vs us)(hi:i < us.length):∃ v,vs[i]? = some v/\L2.RelV v (us.getD i Value.none):=by
 have hl:=h.length;obtain ⟨u,hu,q⟩:=h.get (i:=i) (x:=vs[i]'(by omega)) (by simp);refine ⟨vs[i]'(by omega),by simp,?_⟩;rw [List.getD_eq_getElem?_getD,hu];exact q
theorem nj (h:ZP t=true):∃ a b r,t=.tup (.str a :: .str b :: r):=by
 unfold ZP at h
 split at h
 ·rename_i a b r
  exact ⟨a,b,r,rfl⟩
 ·cases h
theorem nq (I:zj X pins σ H s){h':Heap}(kp:∀ b o,s.heap.get? b=some o->h'.get? b=some o):∀ {ts:List T} {vs:List V} {us:List Value},ts.all ZP=true->IsAll X.K F H ts vs->zF vs us ->
  ∃ fs,KatTups h' us fs/\fs.length=us.length/\∀ v∈fs,∃ z t,v=.str z t
 | [],vs,us,_,i,r=>by
  have:=ig i;subst this;cases r;exact ⟨[],trivial,rfl,λv h=>by cases h⟩
 | t :: ts,vs,us,h,i,r=>by
  unfold IsAll at i;obtain ⟨v,w,rfl,i1,i2⟩:=i
  cases r with
  | cons r1 r2 =>
  rw [List.all_cons,Bool.and_eq_true] at h;obtain ⟨fs,hf,hl,hs⟩:=nq I kp h.2 i2 r2;obtain ⟨a,b,ar,rfl⟩:=nj h.1;unfold Is at i1;obtain ⟨p,ps,rfl,g1,g2⟩:=i1;cases r1;obtain ⟨its,rv,pl,_⟩:=I.tuple g1;obtain ⟨t1,t2,ur,rfl⟩:=fW g2 rv;obtain ⟨o,e,c,n,d⟩:=pl
  exact ⟨.str a t1 :: fs,KatTups.cons (kp _ _ e) c d (by simp) hf,by rw [List.length_cons,List.length_cons,hl],λv hv=>by
   rcases List.mem_cons.mp hv with rfl | hv
   ·exact ⟨a,t1,rfl⟩
   ·exact hs v hv⟩
theorem lb {ts us:List T}{l:Addr}{vs:List V}{its:List Value}{o:Obj}{n:Nat}{Ty:String}{Q:VK}{E:Value->Shared->Prop}(I:zj X pins σ H s)(d:m7 F H)(ia:IsAll X.K F H ts vs)(r:zF vs its)
  (ho:s.heap.get? l=some o) (hc:o.cls=.type Ty) (hd:o.data=.seq its.toArray n) (hT:Ty = "list" \/ Ty = "tuple") (e:sortS ts=some us)
  (q:∀ v F' H',jv F H F' H'->wq X.K (λa=>H a=none) F' H' v (true,.lst us)->Q v H'):wpAny (model X.prog X.w) X.A (call (.builtin "sorted") [.ref l]) (EP X pins σ Q) E s:=by
 unfold sortS at e
 split at e
 ·rename_i hcnd
  obtain ⟨h64,hk,nd⟩:=hcnd;cases e;have l1:=ia.len;have l2:=r.length;have T0:=QU nd;have hlen:its.length=ts.length:=by omega
  have fin:∀ qa:Array Nat,Pm qa its.length->Up (ng ts) qa its.length->EP X pins σ Q (.ref (s.heap.objs.size + 1)) { s with heap:=sortedAll s.heap its (List.toArray (qa.toList.map λi=>its.getD i Value.none)) }:=by
   intro qa hq hu;rw [hlen] at hq hu;have hb:∀ i∈qa.toList,i < ts.length:=λi hi=>List.mem_range.mp (hq.perm.mem_iff.mp hi);have e1:=K5 nd hq hu;obtain ⟨ep,hep⟩:=sortedAll_at s.heap its (List.toArray (qa.toList.map λi=>its.getD i Value.none));have hfresh:H (s.heap.objs.size + 1)=none:=I.hok.fresh (Nat.le_succ _);have hz:(qa.toList.map λi=>(vs[i]?).getD .non).length<=sizeLine:=by rw [List.length_map,Array.length_toList,hq.size,sizeLine_eq];omega
   refine ⟨.ref (s.heap.objs.size + 1),zN H (s.heap.objs.size + 1) (.lst (qa.toList.map λi=>(vs[i]?).getD .non)),I.laid (λb ob e=>sortedAll_old e) (Nat.le_succ _) ?_,rfl,?_⟩
   ·exact ⟨hz,_,ep,la r (λi hi=>by have:=hb i hi;omega),hep⟩
   ·have:=ni ia hb
    rw [e1] at this;exact o7 d this hfresh q
  rcases hk with hk | hk
  ·refine l9 (κ:=oneType') ho hc hd hT (by omega) (by rw [hlen];exact T0) (λh2 h' kp=>⟨λQ' hQ => ?_,λi j C hi hj hC => ?_⟩) fin
   ·obtain ⟨ss,hs⟩:=nh hk ia r
    match its,h2,hs with
    | v₁ :: v₂ :: rest,_,hs =>
     rw [keyKind_strs hs];exact wpAny_pure hQ
   ·obtain ⟨vi,hvi,ri⟩:=ui r hi
    obtain ⟨vj,hvj,rj⟩:=ui r hj;have bi:i < ts.length:=by omega
    have bj:j < ts.length:=by omega
    obtain ⟨vi',hvi',qi⟩:=ia.get (i:=i) (t:=ts[i]) (by simp [bi]);obtain ⟨vj',hvj',qj⟩:=ia.get (i:=j) (t:=ts[j]) (by simp [bj]);rw [hvi] at hvi';cases hvi';rw [hvj] at hvj';cases hvj';have hall:=List.all_eq_true.mp hk;refine X1 (hall _ (List.getElem_mem bi)) (hall _ (List.getElem_mem bj)) qi qj ri rj ?_
    have:ng ts i j=dv ts[i] ts[j]:=by
     unfold ng;have c1:ts[i]? = some ts[i]:=by simp [bi]
     have c2:ts[j]? = some ts[j]:=by simp [bj]
     rw [c1,c2]
    rw [<- this];exact hC
  ·refine l9 (κ:=tuples' true) ho hc hd hT (by omega) (by rw [hlen];exact T0) (λh2 h' kp=>⟨λQ' hQ => ?_,λi j C hi hj hC => ?_⟩) fin
   ·obtain ⟨fs,hf,hfl,hfs⟩:=nq I kp hk ia r
    refine kat_kind (T:=.type "str") hf (by omega) (λv hv => ?_) (by decide +kernel) ?_
    ·obtain ⟨z,t,rfl⟩:=hfs v hv
     exact Looks.now
    ·have:(Value.type "str" != Value.type "tuple")=true:=by decide +kernel
     rw [this];exact hQ
   ·obtain ⟨vi,hvi,ri⟩:=ui r hi
    obtain ⟨vj,hvj,rj⟩:=ui r hj;have bi:i < ts.length:=by omega
    have bj:j < ts.length:=by omega
    obtain ⟨vi',hvi',qi⟩:=ia.get (i:=i) (t:=ts[i]) (by simp [bi]);obtain ⟨vj',hvj',qj⟩:=ia.get (i:=j) (t:=ts[j]) (by simp [bj]);rw [hvi] at hvi';cases hvi';rw [hvj] at hvj';cases hvj';have hall:=List.all_eq_true.mp hk
    have this:ng ts i j=dv ts[i] ts[j]:=by
     unfold ng;have c1:ts[i]? = some ts[i]:=by simp [bi]
     have c2:ts[j]? = some ts[j]:=by simp [bj]
     rw [c1,c2]
    rw [this] at hC
    have hd:xF ts[i]≠xF ts[j]\/vi=vj:=by
     by_cases hij:i=j
     ·subst hij
      rw [hvi] at hvj;exact .inr (Option.some.inj hvj)
     ·refine .inl λe=>hij ?_
      have h1:(ts.map xF)[i]? = some (xF ts[i]):=by rw [List.getElem?_map];simp [bi]
      have h2:(ts.map xF)[j]? = some (xF ts[j]):=by rw [List.getElem?_map];simp [bj]
      rw [<- e] at h2;exact (List.getElem?_inj (by simpa using bi) nd).mp (h1.trans h2.symm)
    obtain ⟨a1,a2,ar,ea⟩:=nj (hall _ (List.getElem_mem bi));obtain ⟨b1,b2,br,eb⟩:=nj (hall _ (List.getElem_mem bj));rw [ea] at qi hC hd;rw [eb] at qj hC hd;unfold Is at qi qj;obtain ⟨p,ps,rfl,g1,g2⟩:=qi;obtain ⟨p',ps',rfl,g3,g4⟩:=qj;have e1:its.getD i Value.none=.ref p:=ri;have e2:its.getD j Value.none=.ref p':=rj;rw [e1,e2];obtain ⟨i1,rv1,pl1,_⟩:=I.tuple g1;obtain ⟨i2,rv2,pl2,_⟩:=I.tuple g3;obtain ⟨t1,t2,ur,rfl⟩:=fW g2 rv1;obtain ⟨t3,t4,wr,rfl⟩:=fW g4 rv2;have up:∀ {c:Addr} {xs:Array Value},IsTup s.heap c xs->IsTup h' c xs:=λ⟨o,e,r⟩=>⟨o,kp _ _ e,r⟩;exact X3 (up pl1) (up pl2) (hd.imp id λz=>by injection z) hC
 ·cases e
end
def ot:we X (.builtin "sorted") (Y7 X.K qJ):=by
 intro pins s σ H xs us Q I r h;obtain ⟨F,ts,rv,d,ia,e,q⟩:=h
 match ts,e with
 | [.lst ts],e =>
  simp only [qJ,Option.map_eq_some_iff] at e;obtain ⟨ss,es,rfl⟩:=e;obtain ⟨v,rfl,i⟩:=fQ ia;obtain ⟨u,rfl,ru⟩:=gH r;unfold Is at i;obtain ⟨a,vs,rfl,g1,g2⟩:=i;cases ru;obtain ⟨its,r',pl,hz⟩:=I.list g1.sq;obtain ⟨o,ho,hc,n,hd⟩:=pl.isList;exact lb I d g2 r' ho hc hd (.inl rfl) es q
 | [.tup ts],e =>
  simp only [qJ,Option.map_eq_some_iff] at e;obtain ⟨ss,es,rfl⟩:=e;obtain ⟨v,rfl,i⟩:=fQ ia;obtain ⟨u,rfl,ru⟩:=gH r;unfold Is at i;obtain ⟨a,vs,rfl,g1,g2⟩:=i;cases ru;obtain ⟨its,r',pl,hz⟩:=I.tuple g1;obtain ⟨o,ho,hc,n,hd⟩:=pl;exact lb I d g2 r' ho hc hd (.inr rfl) es q
end L3
namespace L3
open PySem PySem.Spec PyProof.Rows L2
def gp:∀ (names:List (Str×NameKind)) (acc:List (Str×Addr)),(∀ y,(y,NameKind.free)∈names->∃ c,env.cells.lookup y=some c) ->
  ∃ cl,(forIn names acc λ(x:Str×NameKind) (cs:List (Str×Addr))=>(if (x.2 == NameKind.free)=true then do let a <- cellOf env x.1;pure (ForInStep.yield ((x.1,a) :: cs)) else pure (ForInStep.yield cs):Sem (ForInStep (List (Str×Addr)))))=pure cl /\
   (∀ y c,cl.lookup y=some c->acc.lookup y=some c\/env.cells.lookup y=some c)/\(∀ y,((y,NameKind.free)∈names\/∃ c,acc.lookup y=some c)->∃ c,cl.lookup y=some c)
 | [],acc,h=>⟨acc,by rw [List.forIn_nil],λy c e=>.inl e,λy z=>by
  rcases z with z | z
  ·cases z
  ·exact z⟩
 | (n,k) :: r,acc,h=>by
  rw [List.forIn_cons]
  by_cases hk:(k == NameKind.free)=true
  ·have hk':k=NameKind.free:=by simpa using hk
   subst hk';obtain ⟨c,hc⟩:=h n List.mem_cons_self;obtain ⟨cl,e,h1,h2⟩:=gp r ((n,c) :: acc) λy hy=>h y (List.mem_cons_of_mem _ hy);refine ⟨cl,?_,λy d ed => ?_,λy z => ?_⟩
   ·have e2:cellOf env n=pure c:=by unfold cellOf;rw [hc]
    simp only [hk,if_true,e2,pure_bind];exact e
   ·rcases h1 y d ed with z | z
    ·rw [List.lookup_cons] at z
     cases hy:y == n with
     | true =>
      rw [hy] at z;have:y=n:=by simpa using hy
      subst this;cases z;exact .inr hc
     | false=>rw [hy] at z;exact .inl z
    ·exact .inr z
   ·refine h2 y ?_
    rcases z with z | ⟨d,z⟩
    ·rcases List.mem_cons.mp z with z | z
     ·have:y=n:=by injection z
      subst this;exact .inr ⟨c,by rw [List.lookup_cons];simp⟩
     ·exact .inl z
    ·rw [List.lookup_cons]
     cases hy:y == n with
     | true=>exact .inr ⟨c,rfl⟩
     | false=>exact .inr ⟨d,z⟩
  ·obtain ⟨cl,e,h1,h2⟩:=gp r acc λy hy=>h y (List.mem_cons_of_mem _ hy)
   refine ⟨cl,?_,h1,λy z=>h2 y ?_⟩
   ·simp only [hk,if_false,pure_bind]
    exact e
   ·rcases z with z | z
    ·rcases List.mem_cons.mp z with z | z
     ·have:k=NameKind.free:=by injection z with _ z;exact z.symm
      subst this;exact absurd (by simp) hk
     ·exact .inl z
    ·exact .inr z
def bn (h:∀ y,(y,NameKind.free)∈scope.names->∃ c,env.cells.lookup y=some c) :
  ∃ cl,closureFor scope env=pure cl/\(∀ y c,cl.lookup y=some c->env.cells.lookup y=some c)/\∀ y,(y,NameKind.free)∈scope.names->∃ c,cl.lookup y=some c:=by
 obtain ⟨cl,e,h1,h2⟩:=gp (env:=env) scope.names [] h;refine ⟨cl,?_,λy c ec => ?_,λy hy=>h2 y (.inl hy)⟩
 ·unfold closureFor
  show (forIn scope.names ([]:List (Str×Addr)) (λ(x:Str×NameKind) (cs:List (Str×Addr))=>(match x with | (name,kind)=>if (kind == NameKind.free)=true then do let a <- cellOf env name;pure (ForInStep.yield ((name,a) :: cs)) else pure (ForInStep.yield cs):Sem (ForInStep (List (Str×Addr))))) >>= λr=>pure r)=pure cl;have e':(forIn scope.names ([]:List (Str×Addr)) λ(x:Str×NameKind) (cs:List (Str×Addr))=>(match x with | (name,kind)=>if (kind == NameKind.free)=true then do let a <- cellOf env name;pure (ForInStep.yield ((name,a) :: cs)) else pure (ForInStep.yield cs):Sem (ForInStep (List (Str×Addr)))))=pure cl:=e;rw [e',pure_bind]
 ·rcases h1 y c ec with z | z
  ·cases z
  ·exact z
structure j9 (N:List Str) (fsc scope:Scope) (x:Str) (caps:List Str) (slots:List Nat):Prop where
 kind:scope.kind=.function
 fkind:fsc.kind=.function
 nocell:∀ y∈scope.names,y.2≠.cell
 names:∀ y∈scope.names,y.2=.local->scope.names.lookup y.1=some .local
 hx:scope.names.lookup x=some .local
 free:∀ y∈scope.names,y.2=.free->fsc.names.lookup y.1=some .cell
 cap:∀ y∈caps,scope.names.lookup y=some .free/\fsc.names.lookup y=some .cell
 nd:(x :: caps).Nodup
 len:slots.length=caps.length
 slot:slots.map (λk=>N[k]?)=caps.map some
def xM {l:List (Str×NameKind)}{y:Str}{k:NameKind}(h:l.lookup y=some k):(y,k)∈l:=PySem.mem_of_lookup h
def wT {env:Env} : ∀ {names:List (Str×NameKind)} {y:Str} {k:NameKind},(names.map λ(n,k)=>if (k == NameKind.free && env.scope.kind == .function && env.kindOf n == some .cell)=true then (n,NameKind.cell) else (n,k)).lookup y=some k ->
  ∃ k',names.lookup y=some k'/\(k=k'\/(k'=.free/\k=.cell))
 | [],y,k,h=>by simp at h
 | (n,q) :: r,y,k,h=>by
  rw [List.map_cons,List.lookup_cons] at h;rw [List.lookup_cons]
  by_cases hc:(q == NameKind.free && env.scope.kind == .function && env.kindOf n == some .cell)=true
  ·simp only [hc,if_true] at h
   cases hy:y == n with
   | true =>
    rw [hy] at h;cases h;simp only [Bool.and_eq_true] at hc;exact ⟨q,rfl,.inr ⟨by simpa using hc.1.1,rfl⟩⟩
   | false=>rw [hy] at h;exact wT h
  ·simp only [hc,Bool.false_eq_true,if_false] at h
   cases hy:y == n with
   | true=>rw [hy] at h;cases h;exact ⟨q,rfl,.inl rfl⟩
   | false=>rw [hy] at h;exact wT h
def gZ {env:Env}(hk:env.scope.kind=.function):∀ {names:List (Str×NameKind)} {y:Str},names.lookup y=some .free->env.kindOf y=some .cell ->
  (names.map λ(n,k)=>if (k == NameKind.free && env.scope.kind == .function && env.kindOf n == some .cell)=true then (n,NameKind.cell) else (n,k)).lookup y=some .cell
 | [],y,h,_=>by simp at h
 | (n,q) :: r,y,h,hc=>by
  rw [List.map_cons,List.lookup_cons];rw [List.lookup_cons] at h
  cases hy:y == n with
  | true =>
   rw [hy] at h;cases h;have:y=n:=by simpa using hy
   subst this;have hcc:(NameKind.free == NameKind.free && env.scope.kind == .function && env.kindOf y == some .cell)=true:=by rw [hk,hc];rfl
   simp only [hcc,if_true];rw [hy]
  | false =>
   rw [hy] at h;have ih:=gZ hk h hc
   by_cases hcc:(q == NameKind.free && env.scope.kind == .function && env.kindOf n == some .cell)=true
   ·simp only [hcc,if_true,hy];exact ih
   ·simp only [hcc,Bool.false_eq_true,if_false,hy];exact ih
def f8 {X:Cx}{scope:Scope}{x:Str}{caps:List Str}{slots:List Nat}{L:Nat}(C:j9 X.N X.env.scope scope x caps slots)(hc:X.env.cells=cellsFrom L X.env.scope.names []):∃ cl,uK X scope cl x caps slots:=by
 obtain ⟨cl,e,h1,h2⟩:=bn (scope:=scope) (env:=X.env) λy hy=>by
  rw [hc];exact uA (C.free _ hy rfl)
 refine ⟨cl,C.kind,C.nocell,C.names,C.hx,e,h1,λy hy=>h2 y ?_,λj y hj => ?_,C.nd,C.len⟩
 ·rcases hy with hy | hy
  ·obtain ⟨k',e1,e2 | ⟨e2,_⟩⟩:=wT hy
   ·subst e2;exact absurd rfl (C.nocell _ (xM e1))
   ·subst e2;exact xM e1
  ·obtain ⟨k',e1,e2 | ⟨e2,_⟩⟩:=wT hy
   ·subst e2;exact xM e1
   ·subst e2;exact xM e1
 ·have hl:=C.len
  have hjl:j < caps.length:=(List.getElem?_eq_some_iff.mp hj).1;have hs:=congrArg (λl=>l[j]?) C.slot;simp only [List.getElem?_map,hj,Option.map_some] at hs
  cases hk:slots[j]? with
  | none=>rw [hk] at hs;cases hs
  | some k =>
   rw [hk] at hs;obtain ⟨q1,q2⟩:=C.cap y (List.mem_of_getElem? hj);exact ⟨k,rfl,by injection hs,gZ C.fkind q1 q2,q2⟩
section
variable {X:Cx}{scope:Scope}{x:Str}{caps:List Str}{slots:List Nat}{iter elt:Expr}{ifs:List Expr}{px pos:Pos}{it:aw}{mt:MT}{me:ME}{L:Nat}
theorem wU (hc:X.calm=true)(C:j9 X.N X.env.scope scope x caps slots)(hcl:X.env.cells=cellsFrom L X.env.scope.names [])(hi:ba X (.Name x px) iter it)
  (ht:∀ cl C ex pn s₀ H₀,i8 (zh X scope cl C (x :: caps) ex pn s₀ H₀) ifs mt) (he:∀ cl C ex pn s₀ H₀,jm (zh X scope cl C (x :: caps) ex pn s₀ H₀) elt me)
  (hs:∀ v,foldedSetIterable iter X.env v=pure v:=by intro _;rfl) (hg:∀ it v,letOwnedTupleGo (.Name x px) it v=pure ():=by intro _ _;rfl) :
  jm X (.ListComp elt [⟨.Name x px,iter,ifs,0⟩] scope pos) (zU it mt me slots):=by
 obtain ⟨cl,S⟩:=f8 C hcl;exact K3 hc S hi (ht cl) (he cl) hs hg
def xg (f g:T->T->Option RV)(ma mb mc:ME):ME:=λenv=>(ma env).bind λx=>(mb env).bind λy=>(rl (f x.2 y.2)).bind λz=>match z.2 with
 | .bl k=>if k=true then (mc env).bind λu=>rl (g y.2 u.2) else .ok (false,.bl false)
 | _=>.bad
theorem lc (sa:xE X ta ma)(sb:xE X tb mb)(sc:xE X tc mc):xE X (cE (rT X.K f) (rT X.K g) ta tb tc) (xg f g ma mb mc):=by
 intro F H σ env Q R nb ok ex;unfold xg at nb ok ex;refine sa.val R (λz=>by rw [z] at nb;exact nb rfl) (λr1 e1 v1 F1 H1 x1 i1 => ?_) λx z=>ex x (by rw [z];rfl);rw [e1,bind_ok] at nb ok ex;refine sb.val (R.mono x1) (λz=>by rw [z] at nb;exact nb rfl) (λr2 e2 v2 F2 H2 x2 i2 => ?_) λx z=>(ex x (by rw [z];rfl)).mono x1;rw [e2,bind_ok] at nb ok ex
 cases h:f r1.2 r2.2 with
 | none=>rw [h] at nb;exact absurd rfl nb
 | some rv =>
  rw [h,ofO_some,bind_ok] at nb ok ex;refine ⟨F2,_,_,rv,x2.dom,i1.mono x2.kept,i2,h,λv F3 H3 x3 i3 => ?_⟩;obtain ⟨F3',x3',s3,i3'⟩:=i3.frz x3;obtain ⟨b,t⟩:=rv;dsimp only at nb ok ex i3'
  cases t with
  | bl k =>
   unfold Is at i3';refine ⟨k,i3',?_⟩;have x13:=(x1.trans x2).trans x3'
   cases k with
   | false =>
    rw [if_neg Bool.false_ne_true];exact ok _ rfl _ F3' H3 x13 (je xr)
   | true =>
    rw [if_pos rfl];dsimp only at nb ok ex;rw [if_pos rfl] at nb ok ex;refine sc.val (R.mono x13) (λz=>by rw [z] at nb;exact nb rfl) (λr4 e4 v4 F4 H4 x4 i4 => ?_) λx z=>(ex x (by rw [z];rfl)).mono x13;rw [e4,bind_ok] at nb ok
    cases h2:g r2.2 r4.2 with
    | none=>rw [h2] at nb;exact absurd rfl nb
    | some rw2 =>
     rw [h2] at ok;have x14:=x13.trans x4;exact ⟨F4,_,_,rw2,x4.dom,i2.mono (x3'.trans x4).kept,i4,h2,λv F' H' x i=>ok _ rfl v F' H' (x14.trans x) (v8 x14 i)⟩
  | _=>exact absurd rfl nb
theorem X4 (ho:vm X (compareOp op) (rT X.K f))(ho':vm X (compareOp op') (rT X.K g))(ha:jm X a ma)(hb:jm X b mb)(hc:jm X c mc)
  (hm:lastMarks [op,op'] [b,c]=false:=by with_unfolding_all rfl):jm X (.Compare a [op,op'] [b,c] pos) (xg f g ma mb mc):=by
 obtain ⟨ta,pa,sa⟩:=ha;obtain ⟨tb,pb,sb⟩:=hb;obtain ⟨tc,pc,sc⟩:=hc;exact ⟨_,rR ho ho' pa pb pc hm,lc sa sb sc⟩
theorem ZQ (ho:vm X (compareOp op) (rT X.K f))(ho':vm X (compareOp op') (rT X.K g))(ha:jm X a ma)(hb:jm X b mb)(hc:jm X c mc)
  (hm:lastMarks [op,op'] [b,c]=false:=by with_unfolding_all rfl):cu X (.Compare a [op,op'] [b,c] pos) (zS (xg f g ma mb mc)):=by
 obtain ⟨ta,pa,sa⟩:=ha;obtain ⟨tb,pb,sb⟩:=hb;obtain ⟨tc,pc,sc⟩:=hc;exact ⟨_,rS ho ho' pa pb pc hm,eX (lc sa sb sc)⟩
theorem aB (hg:Gl X y)(h:∃ t,X.mg y=some (.str z t))(hd:(y == ("__debug__" : Str))=false:=by decide):jm X (.Name y pos) (mC (.str z)):=⟨_,Zh hg h hd,pG λ_ _=>kh⟩
theorem X5 (hg:Gl X y)(h:∃ t,X.mg y=some (.int z t))(hd:(y == ("__debug__" : Str))=false:=by decide):jm X (.Name y pos) (mC (.int z)):=⟨_,Zi hg h hd,pG λ_ _=>x8⟩
theorem v9 (hg:Gl X y)(hm:X.mg y=none)(hv:bootBuiltins y=some (.type n))(hn:y ≠ "__name__" := by decide)(hd:(y == ("__debug__" : Str))=false:=by decide):jm X (.Name y pos) (mC (.ty n)) :=
 ⟨_,bP (v:=.ty n) hg hm hv rfl hn hd,pG λ_ _=>by unfold Is;rfl⟩
def K6 (K:W.Frag)(mg:Str->Option Value)(y:Str)(zs:List Str):Prop := ∃ a o its n,mg y=some (.ref a)/\K.lookup a=some o/\o.cls=.type "tuple" /\ o.data=.seq its n/\its.size<=sizeLine/\zF (zs.map V.str) its.toList
theorem aC {K:W.Frag}{F:Addr->Prop}{H:Hp} : ∀ (zs:List Str),IsAll K F H (zs.map T.str) (zs.map V.str)
 | []=>IsAll.nil
 | z :: zs=>IsAll.cons kh (aC zs)
theorem X6 (hg:Gl X y)(h:K6 X.K X.mg y zs)(hd:(y == ("__debug__" : Str))=false:=by decide):jm X (.Name y pos) (mC (.tup (zs.map T.str))):=by
 obtain ⟨a,o,its,n,hm,hl,hc,hdt,hz,hv⟩:=h;refine ⟨_,kb (v:=.ref a) hg hm rfl hd,pG λF H => ?_⟩;unfold Is;exact ⟨a,_,rfl,.inr ⟨o,its,n,hl,hc,hdt,hz,hv⟩,aC zs⟩
end
def X7 (hr:jV k A):A.units + 41 < cLine:=Nat.lt_of_le_of_lt (Nat.add_le_add_left (by decide:41<=64) _) hr.units
def jY (hr:jV k A):A.units + 40 < cLine:=Nat.lt_of_le_of_lt (Nat.add_le_add_left (by decide:40<=64) _) hr.units
def xT (hr:jV k A):A.units + 1 < cLine:=Nat.lt_of_le_of_lt (Nat.add_le_add_left (by decide:1<=64) _) hr.units
abbrev Q5:=List T->En->Option En
def QV (X:Cx)(g:W8)(tg:Q5):Prop := ∀ (B:Bs) (F:Addr->Prop) (H:Hp) (σ:St) (env env':En) (vs:List V) (ts:List T) (Q:St->Hp->Prop),zJ X.K B F H σ env->IsAll X.K F H ts vs->tg ts env=some env'->(∀ σ',zJ X.K B F H σ' env'->Q σ' H)->g vs σ H Q
def X8 (X:Cx)(es:List Expr)(tg:Q5):Prop := ∃ g,Qj X es g/\QV X g tg
def rp:Q5:=λts env=>if ts=[] then some env else none
def u6 (g:MG)(gs:Q5):Q5:=λts env=>match ts with
 | t :: ts=>(g t env).bind λe1=>gs ts e1
 | []=>none
def rq (n:Nat)(gs:Q5):MG:=λt env=>match t with
 | .tup ts=>if ts.length=n then gs ts env else none
 | _=>none
def fX:X8 X [] rp:=by
 refine ⟨_,bR,?_⟩;intro B F H σ env env' vs ts Q R ia h q;unfold rp at h
 split at h
 ·rename_i hts
  subst hts;cases h;exact ⟨ig ia,q σ R⟩
 ·cases h
def jT (h1:Y8 X e g)(h2:X8 X es gs)(hs:(assignEach (e :: es) X.env).map (·.2)=assign e X.env :: (assignEach es X.env).map (·.2):=by rfl):X8 X (e :: es) (u6 g gs):=by
 obtain ⟨t1,p1,s1⟩:=h1;obtain ⟨t2,p2,s2⟩:=h2;refine ⟨_,uw p1 p2 hs,?_⟩;intro B F H σ env env' vs ts Q R ia h q;unfold u6 at h
 cases ts with
 | nil=>cases h
 | cons t ts =>
  dsimp only at h
  cases hg:g t env with
  | none=>rw [hg] at h;cases h
  | some e1 =>
   rw [hg] at h;unfold IsAll at ia;obtain ⟨v,r,rfl,i1,i2⟩:=ia;exact ⟨v,r,rfl,s1 B F H σ env e1 v t _ R i1 hg λσ1 R1=>s2 B F H σ1 e1 env' r ts Q R1 i2 h q⟩
def fY (hc:X.calm=true)(h:X8 X es gs)(hn:(assignEach es X.env).length=n:=by rfl)(hst:(assignEach es X.env).findIdx? (·.1)=none:=by rfl):Y8 X (.Tuple es k pos) (rq n gs):=by
 obtain ⟨t,p,s⟩:=h;refine ⟨_,rM hc p hn hst,?_⟩;intro B F H σ env env' v t Q R iv h q;unfold rq at h;cases t<;>simp only [reduceCtorEq] at h
 case tup ts =>
  split at h
  ·rename_i hl
   unfold Is at iv;obtain ⟨a,vs,rfl,g1,g2⟩:=iv;exact ⟨a,vs,rfl,g1,by rw [<- g2.len];exact hl,s B F H σ env env' vs ts Q R g2 h q⟩
  ·cases h
def vb (m:ME)(g:MG):MS:=λenv=>match jw m env with
 | .ok (r,env')=>(match g r.2 env' with
  | some e1=>.nx e1
  | none=>.bad)
 | .exc x=>.exc x env
 | .bad=>.bad
def ZR (he:jm X e m)(hg:Y8 X tg g)(hs:swapsWithSole [tg] e pos.line X.env=pure false:=by rfl)(hw:swappedStores [tg] e X.env=pure none:=by rfl)
  (h1:(assignEach [tg] X.env).map (·.2)=[assign tg X.env]:=by rfl):uh X (.Assign [tg] e pos) (vb m g):=by
 obtain ⟨te,pe,se⟩:=he;obtain ⟨t,p,s⟩:=hg;refine ⟨_,cz pe p hs hw h1,?_⟩;intro B F H σ env D R w;unfold vb at w;refine se.run R (λr env' er v F' H' R' iv old kp => ?_) (λx er ev F' H' R' ix pins s' I => ?_) λer => ?_
 ·rw [er] at w
  dsimp only at w;obtain ⟨F2,R2,i2,_⟩:=R'.freeze iv (λa q=>zC R.fr q) old
  split at w
  ·rename_i e1 he1
   exact s B F2 H' σ env' e1 v r.2 _ R2 i2 he1 λσ' R3=>w F2 H' σ' R3
  ·exact w.elim
 ·rw [er] at w;exact w ev F' H' σ R' ix pins s' I
 ·rw [er] at w;exact w
def K7 (m n:ME):ME:=λenv=>match m env with
 | .bad=>n env
 | r=>r
end L3
namespace L2
open PySem PySem.Spec PyProof.Rows
def zj.dropC (I:zj X pins σ H s)(f:gG X pins H C)(hsb:Heap.SameBut C s.heap h'):zj X pins σ H { s with heap:=h' }:=by
 have neC:∀ b u,H b=some u->b≠C:=λb u e z=>by rw [z,f.1] at e;cases e
 refine I.call' (s':={ s with heap:=h' }) (ch:=[C]) rfl ?_ ?_ I.bare λb hb => ?_
 ·have nm:∀ b,b∉[C]->b≠C:=λb n z=>n (by rw [z];exact List.mem_singleton.mpr rfl)
  exact ⟨λb o e n hb hx=>hsb.extBut b o (nm b hx) e,λb o e n hb hx=>⟨o.slots,hsb.extBut b o (nm b hx) e⟩,λb o e n hx=>n,λb o e hx=>⟨o,hsb.extBut b o (nm b hx) e⟩,λ_ _ q=>q,λ_ _ _ q=>q,λ_ ps q=>⟨#[],by rw [Array.append_empty];exact q⟩⟩
 ·exact λb u e=>(I.hok b u e).stay (λc v hc q=>hsb.extBut c v (hc.elim (λz=>by rw [z];exact neC b u e) λz=>neC c _ z) q) (λ_ q=>q) λ_ _ q=>q
 ·have:b=C:=List.mem_singleton.mp hb
  subst this;exact ⟨f.2.2.2.1,f.2.1,f.2.2.2.2.1,f.2.2.2.2.2⟩
def X9 (hN:X.N.Nodup)(hi':X.N[i]? = some y)(hy:mI X.env.scope y)(hc:X.calm=true)(S:uK X scope cl x caps slots)(hi:PI X (.Name x px) iter wi)
  (ht:∀ C ex pn s₀ H₀,o6 (zh X scope cl C (x :: caps) ex pn s₀ H₀) ifs tt) (he:∀ C ex pn s₀ H₀,PE (zh X scope cl C (x :: caps) ex pn s₀ H₀) elt te)
  (hsw:swapsWith (.ListComp elt [⟨.Name x px,iter,ifs,0⟩] scope pos) (some (.Name y py)) spos.line X.env=pure true)
  (hs:∀ v,foldedSetIterable iter X.env v=pure v) (hg:∀ it v,letOwnedTupleGo (.Name x px) it v=pure ()) (hf:X.fn y=true\/X.env.scope.names.lookup y=some .local) :
  PS X (.Assign [.Name y py] (.ListComp elt [⟨.Name x px,iter,ifs,0⟩] scope pos) spos) (lG (af wi tt te slots) (wd i)):=by
 intro pins s σ H D I h;rw [exec_Assign_Name_used _ _ _ _ hsw];refine wpAny_bind (wpAny_standAt (wpAny_bind ?_));show wpAny _ X.A (do let _ <- comprehension (.ListComp elt [⟨.Name x px,iter,ifs,0⟩] scope pos) scope X.env _ (newList []) false (eval iter X.env) (some (assign (.Name y py) X.env))) _ _ s;refine wpAny_bind (wpAny_mono (l5 (use:=some (assign (.Name y py) X.env)) (PQ:=λ_ s'=>∃ σ' H',zj X pins σ' H' s'/\D.nx σ' H') I h (λDa C H5 s6 m hn f inv q => ?_) hc S hi ht he hs hg) (λ_ s' hq=>wpAny_pure (wpAny_pure hq)) λ_ _ e=>e);show wpAny _ X.A (assign (.Name y py) X.env (.ref Da)) _ _ s6;have I6:zj X pins σ H5 s6:=inv s6.heap (Heap.SameBut.refl _ _);obtain ⟨o,es,ep,ho,hd,hr⟩:=hn;have I6':=I6.pinned (fp:=[C]) (λb hb=>by rw [List.mem_singleton.mp hb];exact f) (λb hb=>by rw [List.mem_singleton.mp hb];exact ⟨o,ho,λv z=>by rw [hd] at z;cases z⟩);have pg:PG X (.Name y py) (wd i):=ke hN hi' hy hf;refine wpAny_mono (pg _ s6 _ H5 (.ref Da) (.ref Da) D.nx I6' rfl q) (λ_ s8 h8 => ?_) λ_ _ z=>z;obtain ⟨σ8,H8,I8,q8⟩:=h8;have hp:=I8.pin (C,o) (List.mem_append_right _ (List.mem_append_right _ (jZ (List.mem_singleton.mpr rfl) ho)));exact ⟨m,⟨o,es,ep,hp.1,hd,hr⟩,λh' hsb=>⟨σ8,H8,I8.unpinned.dropC ⟨hp.2.1,f.2⟩ hsb,q8⟩⟩
end L2
namespace L3
open PySem PySem.Spec PyProof.Rows L2
section
variable {X:Cx}{scope:Scope}{x:Str}{caps:List Str}{slots:List Nat}{iter elt:Expr}{ifs:List Expr}{px pos:Pos}{it:aw}{mt:MT}{me:ME}{L:Nat}
theorem K8 (hN:X.N.Nodup)(hi':X.N[i]? = some y)(hy:mI X.env.scope y)(hc:X.calm=true)(C:j9 X.N X.env.scope scope x caps slots)(hcl:X.env.cells=cellsFrom L X.env.scope.names [])(hi:ba X (.Name x px) iter it)
  (ht:∀ cl C ex pn s₀ H₀,i8 (zh X scope cl C (x :: caps) ex pn s₀ H₀) ifs mt) (he:∀ cl C ex pn s₀ H₀,jm (zh X scope cl C (x :: caps) ex pn s₀ H₀) elt me)
  (hsw:swapsWith (.ListComp elt [⟨.Name x px,iter,ifs,0⟩] scope pos) (some (.Name y py)) spos.line X.env=pure true:=by rfl)
  (hs:∀ v,foldedSetIterable iter X.env v=pure v:=by intro _;rfl) (hg:∀ it v,letOwnedTupleGo (.Name x px) it v=pure ():=by intro _ _;rfl)
  (hf:X.fn y=true\/X.env.scope.names.lookup y=some .local:=by first | exact .inl rfl | exact .inr rfl | assumption) :
  uh X (.Assign [.Name y py] (.ListComp elt [⟨.Name x px,iter,ifs,0⟩] scope pos) spos) (zo i (zU it mt me slots)):=by
 obtain ⟨cl,S⟩:=f8 C hcl;obtain ⟨wi,pi,si⟩:=hi;obtain ⟨tt,ht⟩:=ZI (ht cl);obtain ⟨te,he⟩:=ZH (he cl);have s:=dj (slots:=slots) si (ht 0 [] [] X.s₀ X.H₀).2 (he 0 [] [] X.s₀ X.H₀).2;refine ⟨_,X9 (i:=i) hN hi' hy hc S pi (λC ex pn s₀ H₀=>(ht C ex pn s₀ H₀).1) (λC ex pn s₀ H₀=>(he C ex pn s₀ H₀).1) hsw hs hg hf,?_⟩;intro B F H σ env D R w;unfold zo at w;refine s.run R (λr env' e v F' H' R' i' old _ => ?_) (λx e ev F' H' R' i pins s' I => ?_) λe => ?_
 ·rw [e] at w;exact w F' H' _ (R'.put i i' (λa q=>zC R.fr q) old)
 ·rw [e] at w;exact w ev F' H' σ R' i pins s' I
 ·rw [e] at w;exact w
end
def wn (val:Nat->Str)(i:Nat):List Str:=((List.range i).map val).foldl step_dedup []
theorem fZ (val:Nat->Str)(i:Nat):wn val (i + 1)=step_dedup (wn val i) (val i):=by
 unfold wn;rw [List.range_succ,List.map_append,List.foldl_append];rfl
theorem ii (val:Nat->Str):∀ i,(wn val i).length<=i
 | 0=>Nat.le_refl _
 | i + 1=>by
  rw [fZ];unfold step_dedup;have ih:=ii val i
  split
  ·omega
  ·rw [List.length_append,List.length_singleton];omega
theorem ou (σ:List Str)(v k:Str):(step_dedup σ v).any (· == k)=(σ.any (· == k) || decide (k=v)):=by
 unfold step_dedup
 by_cases h:σ.any (· == v)=true
 ·rw [if_pos h]
  by_cases e:k=v
  ·subst e;rw [h];simp
  ·simp [e]
 ·rw [if_neg h,List.any_append]
  by_cases e:k=v
  ·subst e;simp
  ·have hb:(v == k)=false:=by simpa [beq_iff_eq] using (λh':v=k=>e h'.symm)
   simp [hb,e]
theorem ow (σ:List Str)(v:Str):(step_dedup σ v).length=if σ.any (· == v) then σ.length else σ.length + 1:=by
 unfold step_dedup;split<;>simp
def jn (led:Bool):Obj:={ cls:=.type "set",dict:=none,data:=.set #[] 0 (.fresh 0 0 led) }
theorem sub_list_set:isSubtype (.type "list") (.type "set")=pure false:=F.sub_list_set
theorem sub_list_frozenset:isSubtype (.type "list") (.type "frozenset")=pure false:=F.sub_list_frozenset
theorem mj:isSubtype (.type "tuple") (.type "set")=pure false:=by rw [isSubtype_type];kernel_rfl
theorem qO:isSubtype (.type "tuple") (.type "frozenset")=pure false:=by rw [isSubtype_type];kernel_rfl
section
variable {prog:Program}{w:World}{A:Around}{R:Result->Shared->Prop}{I:Addr}{fp wr:List Addr}{G:Array GenState->Array GenState->Prop}{n:Nat}{P:Nat->Value->Prop}{St:Nat->Shared->Prop}
theorem dw (W:WalksS prog w A.in1 I fp wr G n P St)(S:Addr)(hSf:S∉fp)(val:Nat->Str)(hval:∀ i v,P i v->∃ t,v=.str (val i) t)(hb:n + 1 < scanBound) :
  ∀ (k i:Nat) (s:Shared),n - i=k->i<=n->St i s ->
   s.heap.SetOf (strKind prog w) S (λk'=>(wn val i).any (· == k')) (wn val i).length ->
   (∀ s',Moved (S :: wr) G s s'->s'.heap.SetOf (strKind prog w) S (λk'=>(wn val n).any (· == k')) (wn val n).length->R (.ok (.ret .none)) s') ->
   codeAny (model prog w) A (.builtin "set.update.loop" ⟨[.ref S,.ref I],[]⟩) R s:=by
 have hSw:S∉wr:=λh=>hSf (W.sub _ h);have hsub:∀ b∈wr,b∈S :: wr:=λb hb=>List.mem_cons_of_mem _ hb;intro k
 induction k with
 | zero =>
  intro i s hk hi hst hS hR;have hin:i=n:=by omega
  subst hin;refine codeAny_builtin PyProof.Rows.F.entry_set_update_loop ?_;rw [Around.under_plainId PyProof.Rows.F.plain_set_update_loop _];show wpAny _ A.in1 (pyNext (.ref I) >>= _) _ _ s;refine wpAny_bind (W.done s _ _ hst λs' hm => ?_);show wpAny _ A.in1 (ret Value.none) _ _ s'
  exact wpAny_pure (hR s' (hm.mono hsub) (by
   obtain ⟨o,es,ep,t,ho,rest⟩:=hS
   exact ⟨o,es,ep,t,hm.heap S _ hSw ho,rest⟩))
 | succ k ih =>
  intro i s hk hi hst hS hR;have hlt:i < n:=by omega
  refine codeAny_builtin PyProof.Rows.F.entry_set_update_loop ?_;rw [Around.under_plainId PyProof.Rows.F.plain_set_update_loop _];show wpAny _ A.in1 (pyNext (.ref I) >>= _) _ _ s;refine wpAny_bind (W.item i s _ _ hlt hst λv s' hP hst' hm => ?_);obtain ⟨t,rfl⟩:=hval i v hP
  have hS':s'.heap.SetOf (strKind prog w) S (λk'=>(wn val i).any (· == k')) (wn val i).length:=by
   obtain ⟨o,es,ep,tb,ho,rest⟩:=hS;exact ⟨o,es,ep,tb,hm.heap S _ hSw ho,rest⟩
  show wpAny _ A.in1 (holding [Value.str (val i) t] (setAdd S (.str (val i) t)) >>= _) _ _ s';refine wpAny_bind (wpAny_holding ?_);unfold setAdd;refine wpAny_holding ?_;refine wpAny_bind ((strKind prog w).pyHash (k:=val i) (strKind_is _ _ _ _) ?_);have hroom:(wn val i).length + 1 < scanBound:=by have:=ii val i;omega
  refine wpAny_setAddHashed_of (knd:=strKind prog w) (s:={ s' with toks:=s'.toks + 1 }) (strKind_is _ _ _ _) rfl hS' hroom λh' hsb hS2 => ?_
  have hSi:h'.SetOf (strKind prog w) S (λk'=>(wn val (i + 1)).any (· == k')) (wn val (i + 1)).length :=
   SetOf_congr hS2 (λk'=>by rw [fZ,ou]) (by rw [fZ,ow])
  refine wpAny_pure ⟨plainId_quiet PyProof.Rows.F.plain_set_update_loop _,ih (i + 1) _ (by omega) hlt (W.frame _ s' _ _ hst' (Nat.le_succ _) λb hb o e => ?_) hSi λs'' hm'' hS'' => ?_⟩
  ·rw [hsb.2 b (λh:b=S=>hSf (by rw [<- h];exact hb))];exact e
  ·refine hR s'' (Moved.trans W.gtrans ((hm.mono hsub).then_heap (Nat.le_succ _) λb o hb e => ?_) hm'') hS''
   rw [hsb.2 b (λh:b=S=>hb (by rw [h];exact List.mem_cons_self))];exact e
end
section
variable {prog:Program}{w:World}{A:Around}{E:Value->Shared->Prop}{s:Shared}
set_option maxHeartbeats 3200000 in
theorem mn {l:Addr}{items:Array Value}{val:Nat->Str}{Q:Value->Shared->Prop}
  (hh:A.handled=none) (hl:s.heap.IsList l items) (hi:∀ (i:Nat) (v:Value),items[i]? = some v->∃ t,v=.str (val i) t) (hb:items.size + 1 < scanBound)
  (h:∀ (h':Heap) (tk:Nat),h'.SetOf (strKind prog w) s.heap.objs.size (λk'=>(wn val items.size).any (· == k')) (wn val items.size).length ->
   (∀ b o,b < s.heap.objs.size->s.heap.get? b=some o->h'.get? b=some o)->Q (.ref s.heap.objs.size) { s with heap:=h',toks:=tk }) :
  wpAny (model prog w) A (call (.type "set") [.ref l]) Q E s:=by
 obtain ⟨c,tl,hmro⟩:=F.called_set.mro;have hmade:=F.called_set.made;have hsub:=F.called_set.sub;refine wpAny_call (codeAny_of_tree ?_);show wpAny _ _ (callAny (.type "set") _) _ _ _;refine wpAny_pure ⟨Code.quiet_builtin _ (by decide +kernel),codeAny_builtin F.entry_type_call ?_⟩;rw [Around.under_plain (weight_type_call_type "set" [.ref l] []) rfl];have h1:=F.called_set.notType;have h2:=F.called_set.canCreate;have hct:=F.typeCall_set_1 (.ref l)
 repeat (any_goals (first | assumption | wp_step))
 refine codeAny_mono (code_set_new_1 (.ref l) (E:=E) (Q₁:=λobj s₁=>∃ led:Bool,obj=.ref s.heap.objs.size/\s₁ = { s with heap:=s.heap.push (jn led) }) λled=>⟨led,rfl,rfl⟩) λr s₁ hr => ?_
 cases r with
 | error e=>exact hr
 | ok fl =>
  cases fl with
  | ret obj =>
   obtain ⟨led,rfl,rfl⟩:=hr;have hS:(s.heap.push (jn led)).get? s.heap.objs.size=some (jn led):=Heap.get?_push_size _ rfl;have hT:Shared.TypeIs { s with heap:=s.heap.push (jn led) } (.ref s.heap.objs.size) "set" := ⟨_,hS,rfl⟩
   have hli:=F.called_set.init.lookup;have hbi:=F.called_set.init.bind (.ref s.heap.objs.size)
   repeat (any_goals (first | assumption | wp_step))
   refine codeAny_mono (codeAny_call_builtin (R:=wants (λr s₂=>r=.none/\∃ h' tk,s₂ = { s with heap:=h',toks:=tk } /\
     h'.SetOf (strKind prog w) s.heap.objs.size (λk'=>(wn val items.size).any (· == k')) (wn val items.size).length /\
     (∀ b o,b < s.heap.objs.size->s.heap.get? b=some o->h'.get? b=some o)) E) F.called_set.init.plain F.entry_set_init (check_set_init_1 hT ?_)) λr₂ s₂ hr₂ => ?_
   ·obtain ⟨ol,hol,hcl,nl,hdl⟩:=hl
    obtain ⟨ocls,odict,odata,oslots⟩:=ol;simp only at hcl hdl;subst hcl;subst hdl;have hol':(s.heap.push (jn led)).get? l=some { cls:=.type "list",dict:=odict,data:=.seq items nl,slots:=oslots }:=Heap.get?_push_of_some _ hol;have hsls:=sub_list_set;have hslf:=sub_list_frozenset;have hne:(Value.type "list" == Value.type "dict")=false:=by decide
    have hl1:(s.heap.push (jn led)).IsList l items:=⟨_,hol',rfl,nl,rfl⟩
    unfold Builtin.«set.__init__» noKeywords Builtin.Frozenset.updateFrom;generalize hPI:pyIter=PI
    wp_walk
    subst hPI;refine wpAny_pyIter_list hl1 ?_;refine wpAny_bind (wpAny_runValue ?_);have hlS:l < s.heap.objs.size:=Heap.lt_size hol;have hh3:A.in1.in1.in1.handled=none:=by simp [hh]
    have hneI:l≠(s.heap.push (jn led)).objs.size:=by
     rw [Heap.size_push];exact Nat.ne_of_lt (Nat.lt_succ_of_lt hlS)
    have hSf:s.heap.objs.size∉[(s.heap.push (jn led)).objs.size,l]:=by
     rw [Heap.size_push];simp only [List.mem_cons,List.mem_singleton,List.not_mem_nil,or_false,not_or];exact ⟨Nat.ne_of_lt (Nat.lt_succ_self _),Nat.ne_of_gt hlS⟩
    refine dw ((Walks.list hh3 _ l hneI items).toS) s.heap.objs.size hSf val hi hb (items.size - 0) 0 _ (by omega) (Nat.zero_le _)
     ⟨⟨_,Heap.get?_push_size _ rfl,rfl,rfl⟩,⟨_,Heap.get?_push_of_some _ hol',rfl,nl,rfl⟩⟩ ?hS0 ?hR
    case hS0 =>
     have hget:((s.heap.push (jn led)).push { cls:=.type "list_iterator",data:=.fields #[.ref l,.int 0 0] }).get? s.heap.objs.size=some (jn led):=Heap.get?_push_of_some _ hS;exact PyProof.Rows.SetOf_congr ((PyProof.Rows.setObjOf_fresh (knd:=strKind prog w) led).setOf hget (by unfold scanBound;omega)) (λ_=>rfl) rfl
    case hR =>
     intro s' hm hS';obtain ⟨h',g',d',tk',os'⟩:=s';have eg:g'=s.gens:=hm.gens;have ed:d'=s.drawn:=hm.drawn;have eo:os'=s.os:=hm.os;subst eg;subst ed;subst eo;show wpAny _ _ _ _ _ _;refine wpAny_pure ?_;show wpAny _ _ (ret Value.none) _ _ _;refine wpAny_pure ⟨rfl,h',tk',rfl,hS',λb o hb e => ?_⟩;have hb1:b≠s.heap.objs.size:=Nat.ne_of_lt hb
     have hb2:b≠(s.heap.push (jn led)).objs.size:=by
      rw [Heap.size_push];exact Nat.ne_of_lt (Nat.lt_succ_of_lt hb)
     exact hm.heap b o (by simp only [List.mem_cons,List.mem_singleton,List.not_mem_nil,or_false,not_or];exact ⟨hb1,hb2⟩) (Heap.get?_push_of_some _ (Heap.get?_push_of_some _ e))
   ·cases r₂ with
    | error e=>exact hr₂
    | ok fl₂ =>
     cases fl₂ with
     | ret r =>
      obtain ⟨rfl,h',tk,rfl,hS',hk'⟩:=hr₂
      repeat (any_goals (first | assumption | wp_step))
      exact h _ _ hS' hk'
     | _=>exact hr₂.elim
  | _=>exact hr.elim
set_option maxHeartbeats 3200000 in
theorem nr {l:Addr}{items:Array Value}{val:Nat->Str}{Q:Value->Shared->Prop}
  (hh:A.handled=none) (hl:s.heap.IsTuple l items) (hi:∀ (i:Nat) (v:Value),items[i]? = some v->∃ t,v=.str (val i) t) (hb:items.size + 1 < scanBound)
  (h:∀ (h':Heap) (tk:Nat),h'.SetOf (strKind prog w) s.heap.objs.size (λk'=>(wn val items.size).any (· == k')) (wn val items.size).length ->
   (∀ b o,b < s.heap.objs.size->s.heap.get? b=some o->h'.get? b=some o)->Q (.ref s.heap.objs.size) { s with heap:=h',toks:=tk }) :
  wpAny (model prog w) A (call (.type "set") [.ref l]) Q E s:=by
 obtain ⟨c,tl,hmro⟩:=F.called_set.mro;have hmade:=F.called_set.made;have hsub:=F.called_set.sub;refine wpAny_call (codeAny_of_tree ?_);show wpAny _ _ (callAny (.type "set") _) _ _ _;refine wpAny_pure ⟨Code.quiet_builtin _ (by decide +kernel),codeAny_builtin F.entry_type_call ?_⟩;rw [Around.under_plain (weight_type_call_type "set" [.ref l] []) rfl];have h1:=F.called_set.notType;have h2:=F.called_set.canCreate;have hct:=F.typeCall_set_1 (.ref l)
 repeat (any_goals (first | assumption | wp_step))
 refine codeAny_mono (code_set_new_1 (.ref l) (E:=E) (Q₁:=λobj s₁=>∃ led:Bool,obj=.ref s.heap.objs.size/\s₁ = { s with heap:=s.heap.push (jn led) }) λled=>⟨led,rfl,rfl⟩) λr s₁ hr => ?_
 cases r with
 | error e=>exact hr
 | ok fl =>
  cases fl with
  | ret obj =>
   obtain ⟨led,rfl,rfl⟩:=hr;have hS:(s.heap.push (jn led)).get? s.heap.objs.size=some (jn led):=Heap.get?_push_size _ rfl;have hT:Shared.TypeIs { s with heap:=s.heap.push (jn led) } (.ref s.heap.objs.size) "set" := ⟨_,hS,rfl⟩
   have hli:=F.called_set.init.lookup;have hbi:=F.called_set.init.bind (.ref s.heap.objs.size)
   repeat (any_goals (first | assumption | wp_step))
   refine codeAny_mono (codeAny_call_builtin (R:=wants (λr s₂=>r=.none/\∃ h' tk,s₂ = { s with heap:=h',toks:=tk } /\
     h'.SetOf (strKind prog w) s.heap.objs.size (λk'=>(wn val items.size).any (· == k')) (wn val items.size).length /\
     (∀ b o,b < s.heap.objs.size->s.heap.get? b=some o->h'.get? b=some o)) E) F.called_set.init.plain F.entry_set_init (check_set_init_1 hT ?_)) λr₂ s₂ hr₂ => ?_
   ·obtain ⟨ol,hol,hcl,nl,hdl⟩:=hl
    obtain ⟨ocls,odict,odata,oslots⟩:=ol;simp only at hcl hdl;subst hcl;subst hdl;have hol':(s.heap.push (jn led)).get? l=some { cls:=.type "tuple",dict:=odict,data:=.seq items nl,slots:=oslots }:=Heap.get?_push_of_some _ hol;have hsls:=mj;have hslf:=qO;have hne:(Value.type "tuple" == Value.type "dict")=false:=by decide
    have hl1:(s.heap.push (jn led)).IsTuple l items:=⟨_,hol',rfl,nl,rfl⟩
    unfold Builtin.«set.__init__» noKeywords Builtin.Frozenset.updateFrom;generalize hPI:pyIter=PI
    wp_walk
    subst hPI;refine wpAny_pyIter_tuple hl1 ?_;refine wpAny_bind (wpAny_runValue ?_);have hlS:l < s.heap.objs.size:=Heap.lt_size hol;have hh3:A.in1.in1.in1.handled=none:=by simp [hh]
    have hneI:l≠(s.heap.push (jn led)).objs.size:=by
     rw [Heap.size_push];exact Nat.ne_of_lt (Nat.lt_succ_of_lt hlS)
    have hSf:s.heap.objs.size∉[(s.heap.push (jn led)).objs.size,l]:=by
     rw [Heap.size_push];simp only [List.mem_cons,List.mem_singleton,List.not_mem_nil,or_false,not_or];exact ⟨Nat.ne_of_lt (Nat.lt_succ_self _),Nat.ne_of_gt hlS⟩
    refine dw ((Walks.tuple hh3 _ l hneI items).toS) s.heap.objs.size hSf val hi hb (items.size - 0) 0 _ (by omega) (Nat.zero_le _)
     ⟨⟨_,Heap.get?_push_size _ rfl,rfl,rfl⟩,⟨_,Heap.get?_push_of_some _ hol',rfl,nl,rfl⟩⟩ ?hS0 ?hR
    case hS0 =>
     have hget:((s.heap.push (jn led)).push { cls:=.type "tuple_iterator",data:=.fields #[.ref l,.int 0 0] }).get? s.heap.objs.size=some (jn led):=Heap.get?_push_of_some _ hS;exact PyProof.Rows.SetOf_congr ((PyProof.Rows.setObjOf_fresh (knd:=strKind prog w) led).setOf hget (by unfold scanBound;omega)) (λ_=>rfl) rfl
    case hR =>
     intro s' hm hS';obtain ⟨h',g',d',tk',os'⟩:=s';have eg:g'=s.gens:=hm.gens;have ed:d'=s.drawn:=hm.drawn;have eo:os'=s.os:=hm.os;subst eg;subst ed;subst eo;show wpAny _ _ _ _ _ _;refine wpAny_pure ?_;show wpAny _ _ (ret Value.none) _ _ _;refine wpAny_pure ⟨rfl,h',tk',rfl,hS',λb o hb e => ?_⟩;have hb1:b≠s.heap.objs.size:=Nat.ne_of_lt hb
     have hb2:b≠(s.heap.push (jn led)).objs.size:=by
      rw [Heap.size_push];exact Nat.ne_of_lt (Nat.lt_succ_of_lt hb)
     exact hm.heap b o (by simp only [List.mem_cons,List.mem_singleton,List.not_mem_nil,or_false,not_or];exact ⟨hb1,hb2⟩) (Heap.get?_push_of_some _ (Heap.get?_push_of_some _ e))
   ·cases r₂ with
    | error e=>exact hr₂
    | ok fl₂ =>
     cases fl₂ with
     | ret r =>
      obtain ⟨rfl,h',tk,rfl,hS',hk'⟩:=hr₂
      repeat (any_goals (first | assumption | wp_step))
      exact h _ _ hS' hk'
     | _=>exact hr₂.elim
  | _=>exact hr.elim
end
def qW (zs:List Str):List Str:=zs.foldl step_dedup []
def oy (zs:List Str):wn (λi=>zs.getD i "") zs.length=qW zs:=by
 unfold wn qW
 congr 1
 apply List.ext_getElem
 ·simp
 ·intro i h1 h2
  simp at h1;simp [h1]
def xX:List T->Option (List Str)
 | []=>some []
 | .str z :: ts=>(xX ts).map λr=>z :: r
 | _ :: _=>none
def ij:T->Option Nat
 | .lst ts=>(xX ts).bind λzs=>if zs.length + 1 < scanBound then some (qW zs).length else none
 | .tup ts=>(xX ts).bind λzs=>if zs.length + 1 < scanBound then some (qW zs).length else none
 | _=>none
def p0 {K:W.Frag}{F:Addr->Prop}{H:Hp} : ∀ {ts:List T} {zs:List Str} {vs:List V},xX ts=some zs->IsAll K F H ts vs->vs=zs.map V.str
 | [],zs,vs,h,ia=>by
  unfold xX at h;cases h;exact ig ia
 | t :: ts,zs,vs,h,ia=>by
  unfold xX at h;cases t<;>simp only [reduceCtorEq] at h
  case str z =>
   cases hr:xX ts with
   | none=>rw [hr] at h;cases h
   | some r =>
    rw [hr] at h;cases h;unfold IsAll at ia;obtain ⟨v,us,rfl,i1,i2⟩:=ia;unfold Is at i1;rw [i1,p0 hr i2]
    rfl
def Xa (K:W.Frag)(te:TE):TE:=λσ H Q=>te σ H λv H1=>∃ a zs,v=.ref a/\(fw K H1 a (zs.map V.str)\/fx K H1 a (zs.map V.str))/\zs.length + 1 < scanBound/\Q (.int (qW zs).length) H1
def ZS {zs:List Str}{us:List Value}(r:zF (zs.map V.str) us):∀ (i:Nat) (v:Value),us.toArray[i]? = some v->∃ t,v=.str (zs.getD i "") t:=by
 intro i v h;have hl:=r.length;simp at h;have hi:i < us.length:=(List.getElem?_eq_some_iff.mp h).1;have hz:i < zs.length:=by rw [List.length_map] at hl;omega
 obtain ⟨u,e1,e2⟩:=r.get (i:=i) (x:=V.str zs[i]) (by simp [hz]);rw [h] at e1;cases e1;obtain ⟨t,e⟩:=e2;exact ⟨t,by rw [e];simp [hz]⟩
def oz (hc:X.calm=true)(hgl:Gl X "len")(hml:X.mg "len" = none)(hgs:Gl X "set")(hms:X.mg "set" = none)(h:PE X e te)
  (h1:starEach [.Call (.Name "set" q) [e] [] p1] X.env=[(false,eval (.Call (.Name "set" q) [e] [] p1) X.env)]:=by rfl) (h2:starEach [e] X.env=[(false,eval e X.env)]:=by rfl) :
  PE X (.Call (.Name "len" p) [.Call (.Name "set" q) [e] [] p1] [] p2) (Xa X.K te):=by
 intro pins s σ H Q I hw;have hd:X.A.handled=none:=I.ok.hd hc;refine wpAny_Call_Name_kw (gg I hgl hml PySem.boot_len ?_);refine PyProof.Rows.callWith_builtin1 ?_;rw [h1];show wpAny _ _ (spliced ((false,eval (.Call (.Name "set" q) [e] [] p1) X.env) :: [])) _ _ s;refine Calls.spliced_cons ?_;refine wpAny_Call_Name_kw (gg I hgs hms (show bootBuiltins "set" = some (.type "set") by rfl) ?_);refine PyProof.Rows.callWith_type1 ?_ (he:=by rw [h2];rfl);rw [h2];show wpAny _ _ (spliced ((false,eval e X.env) :: [])) _ _ s;refine Calls.spliced_cons (jg (h pins s σ H _ I hw) λu s1 ⟨x,H1,I1,r1,q1⟩ => ?_);obtain ⟨a,zs,rfl,sq,hb,hq⟩:=q1;cases r1;rw [spliced];refine wpAny_pure ?_
 have fin:∀ (h':Heap) (tk:Nat),h'.SetOf (strKind X.prog X.w) s1.heap.objs.size (λk'=>(wn (λi=>zs.getD i "") zs.length).any (· == k')) (wn (λi=>zs.getD i "") zs.length).length ->
   (∀ b o,b < s1.heap.objs.size->s1.heap.get? b=some o->h'.get? b=some o) ->
   wpAny (model X.prog X.w) X.A (spliced []) (λvs s₂=>wpAny (model X.prog X.w) X.A (call (.builtin "len") (Value.ref s1.heap.objs.size :: vs)) (EP X pins σ Q) X.xe s₂) X.xe { s1 with heap:=h',toks:=tk }:=by
  intro h' tk hS kp;rw [spliced];refine wpAny_pure ?_;have I2:zj X pins σ H1 { s1 with heap:=h',toks:=tk }:=I1.kept λb o e=>kp b o (Heap.lt_size e) e;obtain ⟨o,es,ep,t,ho,hex,hdt,hel,hmem,hlt,hf,hn⟩:=hS;have hle:(wn (λi=>zs.getD i "") zs.length).length<=zs.length:=ii _ _;have hsz:(es.size:Int) < 2 ^ 63:=by unfold scanBound at hb;omega
  refine call_len_set ho hex hdt hf hsz ⟨.int (qW zs).length,H1,I2.tok _,⟨tk + 1,?_⟩,hq⟩;rw [hn,oy]
 rcases sq with sq | sq
 ·obtain ⟨its,r',pl,hz⟩:=I1.list sq
  have hl:its.length=zs.length:=by have:=r'.length;rw [List.length_map] at this;omega
  have hsz:its.toArray.size=zs.length:=by simp [hl]
  refine mn hd pl.isList (ZS r') (by rw [hsz];exact hb) λh' tk hS kp => ?_;rw [hsz] at hS;exact fin h' tk hS kp
 ·obtain ⟨its,r',pl,hz⟩:=I1.tuple sq
  have hl:its.length=zs.length:=by have:=r'.length;rw [List.length_map] at this;omega
  have hsz:its.toArray.size=zs.length:=by simp [hl]
  refine nr hd pl (ZS r') (by rw [hsz];exact hb) λh' tk hS kp => ?_;rw [hsz] at hS;exact fin h' tk hS kp
def f9 (m:ME):ME:=λenv=>(m env).bind λr=>match ij r.2 with
 | some n=>.ok (false,.int n)
 | none=>.bad
def ZT (hc:X.calm=true)(hgl:Gl X "len")(hml:X.mg "len" = none)(hgs:Gl X "set")(hms:X.mg "set" = none)(h:jm X e m)
  (h1:starEach [.Call (.Name "set" q) [e] [] p1] X.env=[(false,eval (.Call (.Name "set" q) [e] [] p1) X.env)]:=by rfl) (h2:starEach [e] X.env=[(false,eval e X.env)]:=by rfl) :
  jm X (.Call (.Name "len" p) [.Call (.Name "set" q) [e] [] p1] [] p2) (f9 m):=by
 obtain ⟨te,pe,se⟩:=h;refine ⟨_,oz hc hgl hml hgs hms pe h1 h2,?_⟩;intro F H σ env Q R nb ok ex;unfold f9 at nb ok ex;refine se.val R (λz=>by rw [z] at nb;exact nb rfl) (λr e1 v F1 H1 x1 i1 => ?_) λx z=>ex x (by rw [z];rfl);rw [e1,bind_ok] at nb ok;obtain ⟨o,t⟩:=r;dsimp only at nb ok i1
 cases hn:ij t with
 | none=>rw [hn] at nb;exact absurd rfl nb
 | some n =>
  rw [hn] at ok;cases t<;>simp only [ij,reduceCtorEq] at hn
  case lst ts =>
   cases hz:xX ts with
   | none=>rw [hz] at hn;cases hn
   | some zs =>
    rw [hz] at hn;dsimp only [Option.bind] at hn
    split at hn
    ·rename_i hb
     cases hn;unfold Is at i1;obtain ⟨a,vs,rfl,g1,g2⟩:=i1;rw [p0 hz g2] at g1;exact ⟨a,zs,rfl,.inl g1.sq,hb,ok _ rfl _ F1 H1 x1 (je x8)⟩
    ·cases hn
  case tup ts =>
   cases hz:xX ts with
   | none=>rw [hz] at hn;cases hn
   | some zs =>
    rw [hz] at hn;dsimp only [Option.bind] at hn
    split at hn
    ·rename_i hb
     cases hn;unfold Is at i1;obtain ⟨a,vs,rfl,g1,g2⟩:=i1;rw [p0 hz g2] at g1;exact ⟨a,zs,rfl,.inr g1,hb,ok _ rfl _ F1 H1 x1 (je x8)⟩
    ·cases hn
end L3
namespace L2
open PySem PySem.Spec PyProof.Rows
def PU (K:W.Frag)(a:Addr):It :=
 ⟨λi H=>∃ xs x,fw K H a xs/\xs[i]? = some x,λi H v H'=>∃ T y,H T=none/\v=.ref T/\H'=zN H T (.tup [.int i,y])/\∀ xs,fw K H a xs->xs[i]? = some y,λi H=>∃ xs,fw K H a xs/\xs.length<=i⟩
def zj.turnT {h':Heap}{tk:Nat}{ch:List Addr}{T:Addr}{xs:List V}{its:List Value}(I:zj X pins σ H s)(hf:∀ b∈ch,gG X pins H b)(k:∀ b o,b∉ch->s.heap.get? b=some o->h'.get? b=some o)
  (hT:s.heap.objs.size<=T) (hz:xs.length<=sizeLine) (r:zF xs its) (ht:IsTup h' T its.toArray):zj X pins σ (zN H T (.tup xs)) { s with heap:=h',toks:=tk }:=by
 have hn:=I.hok.fresh hT;have neT:∀ b o,s.heap.get? b=some o->b≠T:=λb o e z=>absurd (Heap.lt_size e) (Nat.not_lt.mpr (by rw [z];exact hT));have nch:∀ b u,H b=some u->b∉ch:=λb u e z=>by rw [(hf b z).1] at e;cases e
 refine I.call' rfl ⟨λb o e n hb hx=>k b o hx e,λb o e n hb hx=>⟨o.slots,k b o hx e⟩,λb o e n hx=>by rw [z8 (neT b o e)];exact n,λb o e hx=>⟨o,k b o hx e⟩,
  λb ys q=>by rw [z8 (zD q hn)];exact q,λb o u q=>by rw [z8 (zD q hn)];exact q,λb ps q=>⟨#[],by rw [z8 (zD q hn),Array.append_empty];exact q⟩⟩ (λb u e => ?_) I.bare λb hb=>⟨(hf b hb).2.2.2.1,(hf b hb).2.1,(hf b hb).2.2.2.2.1,(hf b hb).2.2.2.2.2⟩
 by_cases hb:b=T
 ·subst hb
  rw [zi] at e;cases e;exact ⟨hz,its,r,ht⟩
 ·rw [z8 hb] at e
  refine (I.hok b u e).stay (λc v hc q=>k c v ?_ q) (λc q=>by rw [z8 (zD q hn)];exact q) λc xs q=>by rw [z8 (zD q hn)];exact q
  rcases hc with rfl | hc
  ·exact nch _ _ e
  ·exact nch _ _ hc
def oA {P:Program}{w:World}{K:W.Frag}{elts:List Expr}{k:Nat}{tp:Pos}(a e it:Addr)(hei:e≠it):tF P w K (.Tuple elts k tp) (PU K a) [e,it] e (λi h=>(∃ old,IsEnum h e it (i:Int) old)/\h.IsListIter it a i) where
 mem:=by simp
 obj:=λi h st b hb=>by
  obtain ⟨⟨old,he⟩,hi⟩:=st
  rcases List.mem_cons.mp hb with rfl | hb
  ·exact ⟨_,he,λv z=>by
    have z':Data.fields _=Data.cell v:=z;cases z'⟩
  ·have e:b=it:=by simpa using hb
   subst e;obtain ⟨o,e,c,d⟩:=hi;exact ⟨o,e,λv z=>by rw [d] at z;cases z⟩
 keep:=λi h h' st k=>by
  obtain ⟨⟨old,he⟩,hi⟩:=st;exact ⟨⟨old,k e (by simp) _ he⟩,hi.at λo q=>k it (by simp) o q⟩
 item:=by
  intro X hP hw hK hc i pins s σ H E I hf st hg;subst hP hw hK;obtain ⟨xs,x,hq,hx⟩:=hg;obtain ⟨its,rv,p,hz⟩:=I.list hq;obtain ⟨u,hu,ru⟩:=rv.get hx;obtain ⟨⟨old,he⟩,hi⟩:=st;refine wpAny_pyNext_enum_item he hi p.isList (by simpa using hu) hei λh' ho hi' hT hsz hk => ?_
  have I1:zj X pins σ (zN H s.heap.objs.size (.tup [.int i,x])) { s with heap:=h',toks:=s.toks + 1 } :=
   I.turnT hf (λb o hb q=>hk b o (λz=>hb (by simp [z])) (λz=>hb (by simp [z])) q) (Nat.le_refl _) (by show 2<=sizeLine;decide) (.cons ⟨_,rfl⟩ (.cons ru .nil)) ⟨_,hT,rfl,_,rfl⟩
  have ne1:e≠s.heap.objs.size:=Nat.ne_of_lt (Heap.lt_size he);have ne2:it≠s.heap.objs.size:=by obtain ⟨o,q,_⟩:=hi;exact Nat.ne_of_lt (Heap.lt_size q)
  refine ⟨_,rfl,wpAny_letOwnedTupleGo_enum ho λh2 he2 hs2 => ?_⟩;obtain ⟨f0,f1,f2,f3,f4,f5⟩:=hf e (by simp);refine ⟨.ref s.heap.objs.size,_,I1.turned (λb o hb q=>(hs2.2 b hb).trans q) (by rw [z8 ne1];exact f0) f1 f3 f4 f5,rfl,⟨_,x,I.hok.fresh (Nat.le_refl _),rfl,rfl,λys hy=>by rw [I.list_inj hy hq];exact hx⟩,⟨⟨u,by simpa using he2⟩,hi'.at λo q=>(hs2.2 it hei.symm).trans q⟩,λb hb => ?_⟩
  rcases List.mem_cons.mp hb with rfl | hb
  ·rw [z8 ne1];exact f0
  ·have e':b=it:=by simpa using hb
   subst e';rw [z8 ne2];exact (hf b (by simp)).1
 done:=by
  intro X hP hw hK hc i pins s σ H E I hf st hg;subst hP hw hK;obtain ⟨xs,hq,hx⟩:=hg;obtain ⟨its,rv,p,hz⟩:=I.list hq;obtain ⟨f0,f1,f2,f3,f4,f5⟩:=hf it (by simp);obtain ⟨⟨old,he⟩,hi⟩:=st;have hl:=rv.length;exact wpAny_pyNext_enum_end (I.ok.hd hc) he hi p.isList (by simp;omega) λh' eb=>⟨rfl,I.turned (λb o hb e=>eb b o hb e) f0 f1 f3 f4 f5⟩
 self:=λ_ _ _ _ _ st h=>by
  obtain ⟨⟨old,he⟩,_⟩:=st;exact wpAny_pyIter_enum he h
def ZU (K:W.Frag)(tl:TE):TI:=λσ H R=>tl σ H λx H1=>∃ a,x=.ref a/\(∃ xs,fw K H1 a xs)/\R (PU K a) H1
def ik {elts:List Expr}{k:Nat}{tp p pos:Pos}{l:Expr}{tl:TE}(hg:Gl X "enumerate")(hm:X.mg "enumerate" = none)(hl:PE X l tl)(hs:starEach [l] X.env=[(false,eval l X.env)]:=by rfl) :
  PI X (.Tuple elts k tp) (.Call (.Name "enumerate" p) [l] [] pos) (ZU X.K tl):=by
 intro pins s σ H R I h;refine wpAny_Call_Name_kw (gg I hg hm lQ ?_);refine PyProof.Rows.callWith_type1 ?_ (he:=by rw [hs];rfl);rw [hs];show wpAny _ _ (spliced ((false,eval l X.env) :: [])) _ _ s;refine Calls.spliced_cons (jg (hl pins s σ H _ I h) λu s1 ⟨x,H1,I1,r1,q1⟩ => ?_);obtain ⟨a,rfl,⟨xs,hq⟩,q⟩:=q1;cases r1;rw [spliced];refine wpAny_pure ?_;obtain ⟨its,rv,pl,hz⟩:=I1.list hq;refine call_enumerate_list pl.isList λh' he hi hsz kp=>wpAny_pyIter_enum he ?_;have I2:zj X pins σ H1 { s1 with heap:=h' }:=I1.kept kp;refine ⟨s1.heap.objs.size + 1,[s1.heap.objs.size + 1,s1.heap.objs.size],_,_,H1,rfl,I2,oA a (s1.heap.objs.size + 1) s1.heap.objs.size (Nat.ne_of_gt (Nat.lt_succ_self _)),⟨⟨.none,he⟩,hi⟩,λb hb => ?_,q⟩
 have hb':s1.heap.objs.size<=b:=by
  rcases List.mem_cons.mp hb with rfl | hb
  ·exact Nat.le_succ _
  ·have e:b=s1.heap.objs.size:=by simpa using hb
   exact Nat.le_of_eq e.symm
 exact I1.fpOk hb' (I1.hok.fresh hb')
end L2
namespace L3
open PySem PySem.Spec PyProof.Rows L2
def aD (C:Addr)(m:Str)(f:MF)(mo:ME)(ma:MA):ME:=λenv=>(mo env).bind λr=>match r.2 with
 | .obj C' fs ts=>if C'=C/\m∉fs then (ma env).bind λrs=>f ((false,r.2) :: rs) else .bad
 | _=>.bad
def xx.mono {K:W.Frag}{fr F F':Addr->Prop}{H H':Hp}(x:jv F H F' H'):∀ {vs:List V} {rs:List RV},xx K fr F H vs rs->xx K fr F' H' vs rs
 | [],[],_=>trivial
 | [],_ :: _,h=>h.elim
 | _ :: _,[],h=>h.elim
 | v :: vs,r :: rs,h=>by
  refine ⟨?_,xx.mono x h.2.1,h.2.2⟩;have i:=h.1;unfold wq at i ⊢
  split
  ·rename_i ho
   rw [if_pos ho] at i;obtain ⟨a,e,nf,f,o⟩:=i;refine ⟨a,e,λz => ?_,f,o.mono x.kept λo q=>x.same a o q⟩
   rcases x.new a z with z | z
   ·exact nf z
   ·exact o.there z
  ·rename_i ho
   rw [if_neg ho] at i;exact i.mono x.kept
abbrev MN:=List RV->vX T
def aE (K:W.Frag)(g:MN):Sp:=λvs H Q E=>∃ F rs,m7 F H/\xx K (λ_=>True) F H vs rs/\g rs≠.bad /\
 (∀ t,g rs=.ok t->∀ a F' H',vs[0]? = some (.ref a)->ug ⟨mf vs rs,H,F⟩ F' H'->¬ F' a->xU K F' H' a t->Q .non H')/\(∀ x,g rs=.exc x->∀ ev F' H',ug ⟨mf vs rs,H,F⟩ F' H'->Y6 K F' H' ev x->E ev none H')
def dy (P:Program)(w:World)(K:W.Frag)(mg:Str->Option Value)(base:Heap)(k:Nat)(C:Addr)(x:Str)(ps:List Str)(g:MN):Prop :=
 ∃ fa fd,xR P w K mg base (nZ P w) k fa fd ps (aE K g)/\Mk K C fa/\mg x=some (.ref C)/\kJ K fd ps []
def kR (C:Addr)(g:MN)(ma:MA):ME:=λenv=>(ma env).bind λrs=>(g ((true,.obj C [] []) :: rs)).bind λt=>.ok (false,t)
def ZV (X:Cx)(C:Addr)(sp:Sp)(t:TA):TE:=λσ H Q=>t σ H λvs H1=>∀ x dx,H1 x=none->H1 dx=none->dx≠x ->
 ∃ E,sp (.ref x :: vs) (zN (zN H1 dx (.own x)) x (.ins C dx [])) (λv H2=>v=.non/\Q (.ref x) H2) E/\∀ e oa H',E e oa H'->∀ pins s',uE X e pins σ H' s'->X.xe e s'
def oB (M:Mk X.K C fa)(F:xR X.prog X.w X.K X.mg X.base (nZ X.prog X.w) k fa fd ps sp)(hr:jV (k + 1) X.A)(hb:kJ X.K fd ps [])
  (I:zj X pins σ H s) (r:zF vs us)
  (h:∀ x dx,H x=none->H dx=none->dx≠x->∃ E,sp (.ref x :: vs) (zN (zN H dx (.own x)) x (.ins C dx [])) (λv H2=>v=.non/\Q (.ref x) H2) E/\∀ e oa H',E e oa H'->∀ pins s',uE X e pins σ H' s'->X.xe e s') :
  wpAny (model X.prog X.w) X.A (call (.ref C) us) (EP X pins σ Q) X.xe s:=by
 obtain ⟨E,hq,hx⟩:=h (s.heap.objs.size + 1) s.heap.objs.size (I.hok.fresh (Nat.le_succ _)) (I.hok.fresh (Nat.le_refl _)) (Nat.ne_of_lt (Nat.lt_succ_self _));have I2:=zj.made (C:=C) I;have r2:zF (V.ref (s.heap.objs.size + 1) :: vs) (Value.ref (s.heap.objs.size + 1) :: us):=.cons rfl r
 have hl:(Value.ref (s.heap.objs.size + 1) :: us).length=ps.length:=by
  have e:=r2.length;rw [F.len _ _ _ _ hq] at e;exact e.symm
 refine wpAny_call (rW I.kIn M.makes M.init (beq_iff_eq.mp M.fn) (codeAny_mono (F.run _ X.stack _ _ ⟨Value.ref (s.heap.objs.size + 1) :: us,[]⟩ (Value.ref (s.heap.objs.size + 1) :: us) _ _ E (hr.make C us [])
  (I2.env0.make C us []) (by have:=hb _ (Value.ref (s.heap.objs.size + 1) :: us) I2.kIn (by simpa using hl);simpa using this) r2 hq) λr s' hq' => ?_))
 cases r with
 | error e =>
  obtain ⟨H',oa,ho,hg,hu,hok,fl,he⟩:=hq';exact hx e oa H' he pins s' ⟨I2.call' ho hu hok hg λb z=>absurd z (by simp),fl.up I2.sz λp hp=>Heap.lt_size (I2.pin p hp).1⟩
 | ok fl =>
  cases fl with
  | ret u =>
   obtain ⟨v,H',I3,rv,ev,q3⟩:=I2.after hq';subst ev;exact ⟨rv,⟨V.ref (s.heap.objs.size + 1),H',I3,rfl,q3⟩⟩
  | next=>exact False.elim hq'
  | brk=>exact False.elim hq'
  | cont=>exact False.elim hq'
def ZW (M:Mk X.K C fa)(F:xR X.prog X.w X.K X.mg X.base (nZ X.prog X.w) k fa fd ps sp)(hr:jV (k + 1) X.A)(hg:Gl X x)(hm:X.mg x=some (.ref C))(hb:kJ X.K fd ps [])
  (ha:PA X (e :: es) t) (hdb:(x == ("__debug__" : Str))=false:=by decide) (he:starEach (e :: es) X.env=(false,eval e X.env) :: starEach es X.env:=by rfl) (hpl:(backTo pos (starEach es X.env)).any (·.1)=false:=by rfl) :
  PE X (.Call (.Name x p) (e :: es) [] pos) (ZV X C sp t):=by
 intro pins s σ H Q I h;refine wpAny_Call_Name_kw (gF I hg hm ?_ hdb);refine W.callWith_K I.ok.mod.kin M.kp (jg (ha pos pins s σ H _ I h) λus s1 ⟨vs,H1,I1,r,q⟩=>⟨I1.kIn,?_⟩) he hpl;exact oB M F hr hb I1 r q
def oC (sa:YQ X t ma):xE X (ZV X C (aE X.K g) t) (kR C g ma):=by
 intro F H σ env Q R nb ok ex;unfold kR at nb ok ex;refine sa F H σ env _ R (λz=>by rw [z] at nb;exact nb rfl) (λrs e1 vs F1 H1 x1 i1 => ?_) λx z=>ex x (by rw [z];rfl);rw [e1,bind_ok] at nb ok ex;intro a dx ha hd hne;have ea:jv F1 H1 F1 (zN H1 dx (.own a)):=jv.alloc x1.dom hd;have hna:zN H1 dx (.own a) a=none:=by rw [z8 (Ne.symm hne)];exact ha
 have eb:jv F1 (zN H1 dx (.own a)) F1 (zN (zN H1 dx (.own a)) a (.ins C dx [])):=jv.alloc ea.dom hna;have x2:=ea.trans eb;have x12:=x1.trans x2;have nF:¬ F1 a:=λf=>x1.dom a f ha
 have own:∀ {i:Nat} {r:RV},rs[i]? = some r->r.1=true->vs[i]? = some (V.ref a)->False:=by
  intro i r er ho hv;exact (wS i1 ⟨i,r,er,ho,hv⟩).2.2 ha
 have i2:xx X.K (λa=>H a=none) F1 (zN (zN H1 dx (.own a)) a (.ins C dx [])) (.ref a :: vs) ((true,.obj C [] []) :: rs):=by
  refine ⟨?_,i1.mono x2,λ_ j r er ho hv=>own er ho hv⟩;unfold wq;rw [if_pos rfl];exact ⟨a,rfl,nF,jK x1.same ha,dx,[],zi,rfl,IsAll.nil⟩
 have toExt:∀ {F':Addr->Prop} {H':Hp},ug ⟨mf (.ref a :: vs) ((true,.obj C [] []) :: rs),zN (zN H1 dx (.own a)) a (.ins C dx []),F1⟩ F' H'->jv F H F' H':=by
  intro F' H' fr;refine ⟨λb o h=>fr.keep b o (x12.same b o h) λz => ?_,λb h=>fr.sub b (x1.sub b h),λb h => ?_,fr.dom⟩
  ·rw [(wS i2 z).2.1] at h;cases h
  ·rcases fr.new b h with h | h | h
   ·exact x1.new b h
   ·exact .inr (jK x12.same h)
   ·exact .inr (wS i2 h).2.1
 refine ⟨λev oa H'=>oa=none/\∃ F' x,g ((true,.obj C [] []) :: rs)=.exc x/\jv F H F' H'/\Y6 X.K F' H' ev x,⟨F1,_,x2.dom,i2.any λ_ _=>trivial,λz=>by rw [z] at nb;exact nb rfl,λt et a' F' H' hv fr nf' w => ?_,λx ex' ev F' H' fr ix=>⟨rfl,F',x,ex',toExt fr,ix⟩⟩,
  λev oa H' ⟨_,F',x,e',xt,ix⟩ pins s' I=>ex x (by rw [e'];rfl) ev F' H' xt ix pins s' I⟩
 have hv:V.ref a=V.ref a':=by simpa using hv
 cases hv;refine ⟨rfl,ok (false,t) (by rw [et];rfl) (.ref a) (λb=>F' b\/b=a) H' ((toExt fr).freeze (jK x1.same ha) w.there) (je (w.is (λb h=>.inl h) (.inr rfl)))⟩
def ZX (M:dy X.prog X.w X.K X.mg X.base k C x ps g)(hr:jV (k + 1) X.A)(hg:Gl X x)(ha:Zz X (e :: es) ma)(hdb:(x == ("__debug__" : Str))=false:=by decide)
  (he:starEach (e :: es) X.env=(false,eval e X.env) :: starEach es X.env:=by rfl) (hpl:(backTo pos (starEach es X.env)).any (·.1)=false:=by rfl) :
  jm X (.Call (.Name x p) (e :: es) [] pos) (kR C g ma):=by
 obtain ⟨fa,fd,F,hM,hm,hb⟩:=M;obtain ⟨ta,pa,sa⟩:=ha;exact ⟨_,ZW hM F hr hg hm hb pa hdb he hpl,oC sa⟩
def jf (M:T)(ts:List T)(i:Nat)(t:T)(d:Option RV):En:=[none,some (false,.lst ts),some (false,M),some (false,.int i),some (false,t),d]
def wZ (M:T)(tw tc:MT)(mk mv:ME)(ts:List T)(i:Nat)(t:T)(st:T×T):vX (T×T):=(tw (jf M ts i t none)).bind λb =>
 match tc (jf M ts i t (some (false,if b=true then st.2 else st.1))) with
 | .ok false=>(mv (jf M ts i t none)).bind λv=>(mk (jf M ts i t none)).bind λk=>match uS k.2,(if b=true then st.2 else st.1) with
  | some key,.dct ks us=>if ks.length < sizeLine then .ok (if b=true then (st.1,gU ks us key v.2) else (gU ks us key v.2,st.2)) else .bad
  | _,_=>.bad
 | _=>.bad
def jU (M:T)(tw tc:MT)(mk mv:ME)(ts:List T):Nat->List T->T×T->vX (T×T)
 | _,[],st=>.ok st
 | i,t :: r,st=>(wZ M tw tc mk mv ts i t st).bind λst'=>jU M tw tc mk mv ts (i + 1) r st'
mutual
def k4:T->List Str
 | .str x=>[x]
 | .tup ts=>strsL ts
 | _=>[]
def strsL:List T->List Str
 | []=>[]
 | t :: ts=>k4 t ++ strsL ts
end
open Classical in
def xh (memo:List Str->Mo)(C0:Addr)(f1 f2:Str)(tw tc:MT)(mk mv:ME):MN:=λrs=>match rs with
 | [(true,.obj C [] []),(_,.lst ts)]=>if C=C0/\(strsL ts).length < sizeLine then (match jU (.mem 0 (memo (strsL ts) 0)) tw tc mk mv ts 0 ts (.dct [] [],.dct [] []) with
  | .ok st=>if ∀ m,jU (.mem m (memo (strsL ts) m)) tw tc mk mv ts 0 ts (.dct [] [],.dct [] [])=.ok st then .ok (.obj C [f1,f2] [st.1,st.2]) else .bad
  | _=>.bad) else .bad
 | _=>.bad
structure zV (K:W.Frag) (B:Bs) (f1 f2:Str) (C a l dk df dx:Addr) (ts:List T) (d1 d2:T) (F:Addr->Prop) (H:Hp):Prop where
 fr:ug B F H
 nA:¬ F a
 nk:¬ F dk
 nf:¬ F df
 ne:dk≠df
 ins:H a=some (.ins C dx [(f1,.ref dk),(f2,.ref df)])
 bk:B.H dk=none
 bf:B.H df=none
 w1:xU K F H dk d1
 w2:xU K F H df d2
 s1:∃ ks us,d1=.dct ks us
 s2:∃ ks us,d2=.dct ks us
 pl:Is K F H (.lst ts) (.ref l)
section
variable {K:W.Frag}{B:Bs}{f1 f2:Str}{C a l dk df dx:Addr}{ts:List T}{d1 d2:T}{F F':Addr->Prop}{H H':Hp}
theorem zV.ext (p:zV K B f1 f2 C a l dk df dx ts d1 d2 F H)(x:jv F H F' H'):zV K B f1 f2 C a l dk df dx ts d1 d2 F' H':=by
 have old:∀ b,¬ F b->H b≠none->¬ F' b:=λb n h z=>by
  rcases x.new b z with z | z
  ·exact n z
  ·exact h z
 exact ⟨p.fr.ext x,old a p.nA (by rw [p.ins];intro z;cases z),old dk p.nk p.w1.there,old df p.nf p.w2.there,p.ne,x.same _ _ p.ins,p.bk,p.bf,p.w1.mono x.kept λo q=>x.same _ _ q,p.w2.mono x.kept λo q=>x.same _ _ q,p.s1,p.s2,p.pl.mono x.kept⟩
theorem zV.put1 (p:zV K B f1 f2 C a l dk df dx ts d1 d2 F H)(e:d1=.dct ks us)(h:H dk=some (.dK kvs))(hk:kvs.map (·.1)=ks)(i:IsAll K F H us (kvs.map (·.2)))(iv:Is K F H t v) :
  zV K B f1 f2 C a l dk df dx ts (gU ks us k t) d2 F (zN H dk (.dK (xW kvs k v))):=by
 have kp:kg F F H (zN H dk (.dK (xW kvs k v))):=xy p.nk h (.inr (.inl ⟨_,rfl⟩));have na:a≠dk:=ut p.ins h (by intro z;cases z);refine ⟨⟨λb f => ?_,p.fr.sub,p.fr.new,λb o hb hm => ?_,p.fr.f0⟩,p.nA,p.nk,p.nf,p.ne,by rw [z8 na];exact p.ins,p.bk,p.bf,de hk i iv kp zi,p.w2.mono kp λo q=>by rw [z8 (Ne.symm p.ne)];exact q,?_,p.s2,p.pl.mono kp⟩
 ·have:b≠dk:=by rintro rfl;exact p.nk f
  rw [z8 this];exact p.fr.dom b f
 ·have:b≠dk:=by rintro rfl;rw [p.bk] at hb;cases hb
  rw [z8 this];exact p.fr.keep b o hb hm
 ·unfold gU
  split
  ·exact ⟨_,_,rfl⟩
  ·exact ⟨_,_,rfl⟩
theorem zV.put2 (p:zV K B f1 f2 C a l dk df dx ts d1 d2 F H)(e:d2=.dct ks us)(h:H df=some (.dK kvs))(hk:kvs.map (·.1)=ks)(i:IsAll K F H us (kvs.map (·.2)))(iv:Is K F H t v) :
  zV K B f1 f2 C a l dk df dx ts d1 (gU ks us k t) F (zN H df (.dK (xW kvs k v))):=by
 have kp:kg F F H (zN H df (.dK (xW kvs k v))):=xy p.nf h (.inr (.inl ⟨_,rfl⟩));have na:a≠df:=ut p.ins h (by intro z;cases z);refine ⟨⟨λb f => ?_,p.fr.sub,p.fr.new,λb o hb hm => ?_,p.fr.f0⟩,p.nA,p.nk,p.nf,p.ne,by rw [z8 na];exact p.ins,p.bk,p.bf,p.w1.mono kp λo q=>by rw [z8 p.ne];exact q,de hk i iv kp zi,p.s1,?_,p.pl.mono kp⟩
 ·have:b≠df:=by rintro rfl;exact p.nf f
  rw [z8 this];exact p.fr.dom b f
 ·have:b≠df:=by rintro rfl;rw [p.bf] at hb;cases hb
  rw [z8 this];exact p.fr.keep b o hb hm
 ·unfold gU
  split
  ·exact ⟨_,_,rfl⟩
  ·exact ⟨_,_,rfl⟩
theorem K9 (h:Is K F H t v)(e:uS t=some k):v=kV k:=YU (fr:=λ_=>True) (je h) e
theorem jv.less (nb:¬ F b)(hb:H b≠none)(x:jv (λc=>F c\/c=b) H F' H'):jv F H (λc=>F' c/\c≠b) H':=by
 refine ⟨x.same,λc h=>⟨x.sub c (.inl h),λz=>nb (z ▸ h)⟩,λc h => ?_,λc h=>x.dom c h.1⟩
 rcases x.new c h.1 with (z | z) | z
 ·exact .inl z
 ·exact absurd z h.2
 ·exact .inr z
theorem kn (dm:m7 F H)(pl:Is K F H (.lst ts) (.ref l))(pm:Is K F H M (.ref mm))(iy:Is K F H t y)(s1:σ[1]? = some (some (.ref l)))(sm:σ[2]? = some (some (.ref mm)))(s2:σ[3]? = some (some (.int i)))(s3:σ[4]? = some (some y))(hd:∀ r,d=some r->∃ v,σ[5]? = some (some v)/\Is K F H r.2 v) :
  xL K F H σ (jf M ts i t d):=by
 refine ⟨dm,λj r h => ?_⟩;unfold jf at h
 match j,h with
 | 0,h=>simp at h
 | 1,h=>simp at h;subst h;exact ⟨_,s1,pl⟩
 | 2,h=>simp at h;subst h;exact ⟨_,sm,pm⟩
 | 3,h=>simp at h;subst h;exact ⟨_,s2,x8⟩
 | 4,h=>simp at h;subst h;exact ⟨_,s3,iy⟩
 | 5,h=>simp at h;exact hd r h
 | n + 6,h=>simp at h
end
def Ka {f1 f2:Str}{x y:V}(hf:f1≠f2):List.lookup f2 [(f1,x),(f2,y)]=some y:=by
 have h:(f2 == f1)=false:=by simpa using Ne.symm hf
 rw [List.lookup_cons,h,List.lookup_cons,beq_self_eq_true]
def Kb {f1 f2:Str}{x y:V} : List.lookup f1 [(f1,x),(f2,y)]=some x:=by
 rw [List.lookup_cons,beq_self_eq_true]
section
variable {X:Cx}{f1 f2:Str}{cw cc ek ev:Expr}{tw tc:MT}{mk mv:ME}{C:Addr}{rs:List Stmt}{p1 p2 p3 p4 p5 p6 p7 p8 p9 q1 q2 q3 q4 q5 q6 q7 q8 q9 r1 r2 r3 r4 r5 r6 r7 r8 r9 s1 s2 s3:Pos}{kt:Nat}
theorem nt {α β:Type}{m:vX α}{f:α->vX β}{r:β}(h:m.bind f=.ok r):∃ a,m=.ok a/\f a=.ok r:=by
 cases m with
 | ok a=>exact ⟨a,rfl,h⟩
 | exc x=>cases h
 | bad=>cases h
theorem ZY {M:T}{tw tc:MT}{mk mv:ME}{ts:List T}{i:Nat}{t d1 d2:T}{st':T×T}(hstep:wZ M tw tc mk mv ts i t (d1,d2)=.ok st'):∃ b rv rk key ks us,tw (jf M ts i t none)=.ok b/\tc (jf M ts i t (some (false,if b=true then d2 else d1)))=.ok false/\mv (jf M ts i t none)=.ok rv/\mk (jf M ts i t none)=.ok rk/\uS rk.2=some key/\(if b=true then d2 else d1)=.dct ks us/\ks.length < sizeLine/\(if b=true then (d1,gU ks us key rv.2) else (gU ks us key rv.2,d2))=st':=by
 obtain ⟨b2,hb,h⟩:=nt (show (tw _).bind _=_ from hstep)
 have h:(match tc (jf M ts i t (some (false,if b2=true then d2 else d1))) with
  | .ok false=>(mv (jf M ts i t none)).bind λv=>(mk (jf M ts i t none)).bind λk=>match uS k.2,(if b2=true then d2 else d1) with
   | some key,.dct ks us=>if ks.length < sizeLine then vX.ok (if b2=true then (d1,gU ks us key v.2) else (gU ks us key v.2,d2)) else .bad
   | _,_=>.bad
  | _=>.bad)=.ok st':=h
 split at h
 ·rename_i hcc
  obtain ⟨rv,hmv,h⟩:=nt h;obtain ⟨rk,hmk,h⟩:=nt h
  split at h
  ·rename_i hkey hd
   split at h
   ·rename_i hl
    exact ⟨b2,rv,rk,_,_,_,hb,hcc,hmv,hmk,hkey,hd,hl,vX.ok.inj h⟩
   ·cases h
  ·cases h
 ·cases h
theorem xx.two {K:W.Frag}{fr F:Addr->Prop}{H:Hp}{r1 r2:RV}{vs:List V}(h:xx K fr F H vs [r1,r2]):∃ va vl,vs=[va,vl]:=by
 cases vs with
 | nil=>exact h.elim
 | cons a t=>cases t with
  | nil=>exact h.2.1.elim
  | cons b u=>cases u with
   | nil=>exact ⟨a,b,rfl⟩
   | cons c x=>exact h.2.1.2.1.elim
theorem Xb {memo:List Str->Mo}{C0:Addr}{f1 f2:Str}{tw tc:MT}{mk mv:ME}{rs:List RV}(nb:xh memo C0 f1 f2 tw tc mk mv rs≠.bad):∃ b ts fin,rs=[(true,.obj C0 [] []),(b,.lst ts)]/\(strsL ts).length < sizeLine/\(∀ m,jU (.mem m (memo (strsL ts) m)) tw tc mk mv ts 0 ts (.dct [] [],.dct [] [])=.ok fin)/\xh memo C0 f1 f2 tw tc mk mv rs=.ok (.obj C0 [f1,f2] [fin.1,fin.2]):=by
 unfold xh at nb ⊢
 split at nb
 ·split at nb
  ·rename_i hC
   obtain ⟨rfl,hz⟩:=hC
   split at nb
   ·rename_i st hst
    split at nb
    ·rename_i hm
     exact ⟨_,_,st,rfl,hz,hm,by rw [if_pos ⟨rfl,hz⟩];exact if_pos hm⟩
    ·exact absurd rfl nb
   ·exact absurd rfl nb
  ·exact absurd rfl nb
 ·exact absurd rfl nb
theorem ZZ {K:W.Frag}{f:Str}{u:TS}{D:gf}{σ:St}{H:Hp}{a C dx:Addr}{fs:List (Str×V)}(h0:σ[0]? = some (some (.ref a)))(hi:H a=some (.ins C dx fs))(cl:cH K C)(n:jQ K C f)(hl:fs.length < 1000)
  (k:∀ p,H p=none->a≠p->u D σ (zN (zN H p (.dK [])) a (.ins C dx (wp f (.ref p) fs)))):u0 (Yp K (xD 0) lM f) u D σ H:=λp hp =>
 have hap:a≠p:=zD hi hp
 ⟨.ref a,h0,a,C,dx,fs,rfl,by rw [z8 hap];exact hi,cl,n,hl,k p hp hap⟩
section
variable {M:T}{B:Bs}{a l mm dk df dx:Addr}{ts:List T}{d1 d2 t d:T}{F:Addr->Prop}{H:Hp}{tw' tc':TT}{tk' tv':TE}{i:Nat}{y:V}{D:gf}{o2 o3 o4:Option V}{st' fin:T×T}
theorem dz (sc:vI X tc' tc)(sk:xE X tk' mk)(sv:xE X tv' mv)(P4:zV X.K B f1 f2 C a l dk df dx ts d1 d2 F H)(pm4:Is X.K F H M (.ref mm))(iy4:Is X.K F H t y)(hcc:tc (jf M ts i t (some (false,d)))=.ok false)
  (hmv:mv (jf M ts i t none)=.ok rv) (hmk:mk (jf M ts i t none)=.ok rk) (hkey:uS rk.2=some key) (ntd:¬ F td) (wtd:xU X.K F H td d)
  (put:∀ F6 H6 v,zV X.K B f1 f2 C a l dk df dx ts d1 d2 F6 H6->Is X.K F6 H6 M (.ref mm)->Is X.K F6 H6 rv.2 v->∃ kvs,H6 td=some (.dK kvs)/\kvs.length < sizeLine/\D.nx [some (.ref a),some (.ref l),some (.ref mm),some (.int i),some y,some (.ref td)] (zN H6 td (.dK (xW kvs key v)))) :
  u0 (rJ tc' fy em) (eJ (xD 5) tk' tv') D [some (.ref a),some (.ref l),some (.ref mm),some (.int i),some y,some (.ref td)] H:=by
 have kz:kg F (λc=>F c\/c=td) H H:=⟨λ_ h=>.inl h,λ_ _ _ h=>h,λ_ _ h _ _=>h⟩
 refine sc (λc=>F c\/c=td) H _ (jf M ts i t (some (false,d))) _ (kn (λc h => ?_) (P4.pl.mono kz) (pm4.mono kz) (iy4.mono kz) rfl rfl rfl rfl λr z => ?_) (by rw [hcc];intro z;cases z) (λb' eb F5 H5 x5 => ?_) λx z=>by rw [hcc] at z;cases z
 ·rcases h with h | rfl
  ·exact P4.fr.dom c h
  ·exact wtd.there
 ·cases z
  exact ⟨_,rfl,wtd.is (λ_ h=>.inl h) (.inr rfl)⟩
 rw [hcc] at eb;cases eb;rw [if_neg Bool.false_ne_true];have x5':=x5.less ntd wtd.there;have P5:=P4.ext x5';have iy5:=iy4.mono x5'.kept;have pm5:=pm4.mono x5'.kept;refine sv.val (env:=jf M ts i t none) (kn P5.fr.dom P5.pl pm5 iy5 rfl rfl rfl rfl λr z=>by cases z) (by rw [hmv];intro z;cases z) (λr er v F6 H6 x6 i6 => ?_) λx z=>by rw [hmv] at z;cases z
 rw [hmv] at er;cases er;have P6:=P5.ext x6;have iy6:=iy5.mono x6.kept;have pm6:=pm5.mono x6.kept;refine ⟨.ref td,rfl,?_⟩;refine sk.val (env:=jf M ts i t none) (kn P6.fr.dom P6.pl pm6 iy6 rfl rfl rfl rfl λr z=>by cases z) (by rw [hmk];intro z;cases z) (λr er kv F7 H7 x7 i7 => ?_) λx z=>by rw [hmk] at z;cases z
 rw [hmk] at er;cases er;obtain ⟨kvs,hkv,hlen',P8⟩:=put F7 H7 v (P6.ext x7) (pm6.mono x7.kept) (i6.mono x7.kept);refine ⟨td,_,rfl,?_,P8⟩;rw [K9 i7 hkey];exact tQ.k hkv hlen'
theorem J0 (sw:vI X tw' tw)(sc:vI X tc' tc)(sk:xE X tk' mk)(sv:xE X tv' mv)(cl:cH X.K C)(n1:jQ X.K C f1)(n2:jQ X.K C f2)(hf:f1≠f2)(P3:zV X.K B f1 f2 C a l dk df dx ts d1 d2 F H)(pm:Is X.K F H M (.ref mm))(iy:Is X.K F H t y)
  (hstep:wZ M tw tc mk mv ts i t (d1,d2)=.ok st') (nx:∀ F' H' o4,zV X.K B f1 f2 C a l dk df dx ts st'.1 st'.2 F' H'->Is X.K F' H' M (.ref mm)->D.nx [some (.ref a),some (.ref l),some (.ref mm),some (.int i),some y,o4] H') :
  u0 (lG (GJ tw' (cK X.K (xD 0) f2) (cK X.K (xD 0) f1)) (wd 5)) (u0 (rJ tc' fy em) (eJ (xD 5) tk' tv')) D [some (.ref a),some (.ref l),some (.ref mm),some (.int i),some y,o4] H:=by
 obtain ⟨b2,rv,rk,key,ks,us,hb,hcc,hmv,hmk,hkey,hd,hlen,rfl⟩:=ZY hstep;refine sw F H _ (jf M ts i t none) _ (kn P3.fr.dom P3.pl pm iy rfl rfl rfl rfl λr z=>by cases z) (by rw [hb];intro z;cases z) (λb' eb F4 H4 x4 => ?_) λx z=>by rw [hb] at z;cases z
 rw [hb] at eb;cases eb;have P4:=P3.ext x4;have iy4:=iy.mono x4.kept;have pm4:=pm.mono x4.kept
 cases b2 with
 | true =>
  rw [if_pos rfl] at hd hcc nx ⊢;subst hd;refine ⟨.ref a,rfl,a,C,dx,_,.ref df,rfl,P4.ins,cl,n2,Ka hf,?_⟩;refine dz sc sk sv P4 pm4 iy4 hcc hmv hmk hkey P4.nf P4.w2 λF6 H6 v P6 pm6 iv => ?_;obtain ⟨kvs,hkv,hks,iw⟩:=P6.w2;exact ⟨kvs,hkv,by rw [<- hks,List.length_map] at hlen;exact hlen,nx F6 _ _ (P6.put2 rfl hkv hks iw iv) (pm6.mono (xy P6.nf hkv (.inr (.inl ⟨_,rfl⟩))))⟩
 | false =>
  rw [if_neg Bool.false_ne_true] at hd hcc nx ⊢;subst hd;refine ⟨.ref a,rfl,a,C,dx,_,.ref dk,rfl,P4.ins,cl,n1,Kb,?_⟩;refine dz sc sk sv P4 pm4 iy4 hcc hmv hmk hkey P4.nk P4.w1 λF6 H6 v P6 pm6 iv => ?_;obtain ⟨kvs,hkv,hks,iw⟩:=P6.w1;exact ⟨kvs,hkv,by rw [<- hks,List.length_map] at hlen;exact hlen,nx F6 _ _ (P6.put1 rfl hkv hks iw iv) (pm6.mono (xy P6.nk hkv (.inr (.inl ⟨_,rfl⟩))))⟩
theorem J1 (P:zV X.K B f1 f2 C a l dk df dx ts d1 d2 F H):∃ us,rh X.K F H l us/\IsAll X.K F H ts us:=by
 have:=P.pl;unfold Is at this;obtain ⟨a',us,e,g1,g2⟩:=this;cases e;exact ⟨us,g1,g2⟩
theorem J2 (sw:vI X tw' tw)(sc:vI X tc' tc)(sk:xE X tk' mk)(sv:xE X tv' mv)(cl:cH X.K C)(n1:jQ X.K C f1)(n2:jQ X.K C f2)(hf:f1≠f2)(P0:zV X.K B f1 f2 C a l dk df dx ts (.dct [] []) (.dct [] []) F H)(pm0:Is X.K F H M (.ref mm))
  (hfin:jU M tw tc mk mv ts 0 ts (.dct [] [],.dct [] [])=.ok fin) (nx:∀ F' H' σ,zV X.K B f1 f2 C a l dk df dx ts fin.1 fin.2 F' H'->D.nx σ H') :
  Ve (ZU X.K (xD 1)) (V9 X.K 2 (eu (wd 3) (eu (wd 4) V8))) (u0 (lG (GJ tw' (cK X.K (xD 0) f2) (cK X.K (xD 0) f1)) (wd 5)) (u0 (rJ tc' fy em) (eJ (xD 5) tk' tv'))) D [some (.ref a),some (.ref l),some (.ref mm),none,none,none] H:=by
 obtain ⟨us0,hus0,_⟩:=J1 P0;refine ⟨.ref l,rfl,l,rfl,⟨us0,hus0.sq⟩,?_⟩
 refine ⟨λi m σ H=>m=ts.length - i/\i<=ts.length/\∃ F d1 d2 o2 o3 o4,σ=[some (.ref a),some (.ref l),some (.ref mm),o2,o3,o4]/\zV X.K B f1 f2 C a l dk df dx ts d1 d2 F H/\Is X.K F H M (.ref mm)/\jU M tw tc mk mv ts i (ts.drop i) (d1,d2)=.ok fin,
  ⟨ts.length,by simp,Nat.zero_le _,F,_,_,none,none,none,rfl,P0,pm0,by simpa using hfin⟩,?_⟩
 rintro i m σ H2 ⟨rfl,hi,F2,d1,d2,o2,o3,o4,rfl,P2,pm2,hrun⟩;obtain ⟨us,hus,ius⟩:=J1 P2
 by_cases hlt:i < ts.length
 ·refine .inr ⟨⟨us,us[i]'(by rw [<- ius.len];exact hlt),hus.sq,by simp⟩,λσ H=>∃ F d1 d2 o2 o3 o4,σ=[some (.ref a),some (.ref l),some (.ref mm),o2,o3,o4]/\zV X.K B f1 f2 C a l dk df dx ts d1 d2 F H/\Is X.K F H M (.ref mm)/\jU M tw tc mk mv ts (i + 1) (ts.drop (i + 1)) (d1,d2)=.ok fin,
   λσ' H' n=>⟨ts.length - (i + 1),by omega,rfl,hlt,n⟩,?_⟩
  rintro x H3 ⟨tu,y,htu,rfl,rfl,hy⟩;have hyi:=hy us hus.sq;obtain ⟨y',hy',iy0⟩:=ius.get (i:=i) (t:=ts[i]) (by simp [hlt]);rw [hyi] at hy';cases hy';have xa:jv F2 H2 F2 (zN H2 tu (.tup [.int i,y])):=jv.alloc P2.fr.dom htu;refine ⟨tu,[.int i,y],rfl,.inl (.inl zi),rfl,.int i,[y],rfl,y,[],rfl,rfl,?_⟩;have hdr:ts.drop i=ts[i] :: ts.drop (i + 1):=List.drop_eq_getElem_cons hlt;rw [hdr,jU] at hrun
  cases hstep:wZ M tw tc mk mv ts i ts[i] (d1,d2) with
  | bad=>rw [hstep] at hrun;cases hrun
  | exc x=>rw [hstep] at hrun;cases hrun
  | ok st' =>
  rw [hstep,bind_ok] at hrun;exact J0 sw sc sk sv cl n1 n2 hf (P2.ext xa) (pm2.mono xa.kept) (iy0.mono xa.kept) hstep λF' H' o4 P pm=>⟨F',st'.1,st'.2,_,_,_,rfl,P,pm,hrun⟩
 ·have hli:i=ts.length:=by omega
  subst hli;rw [List.drop_length,jU] at hrun;have hfin2:(d1,d2)=fin:=by injection hrun
  subst hfin2;exact .inl ⟨⟨us,hus.sq,by rw [ius.len];exact Nat.le_refl _⟩,nx F2 H2 _ P2⟩
end
def bo (memo:List Str->Mo):TE:=λ_ H Q=>∃ ks:List Str,ks.length < sizeLine/\∀ p,H p=none->Q (.ref p) (zN H p (.ext (memo ks p)))
theorem oE {memo:List Str->Mo}{tw' tc':TT}{tk' tv':TE}{b:Bool}{ts:List T}{fin:T×T}{F:Addr->Prop}{H:Hp}{va vl:V}{Q:VK}(sw:vI X tw' tw)(sc:vI X tc' tc)(sk:xE X tk' mk)(sv:xE X tv' mv)(cl:cH X.K C)(n1:jQ X.K C f1)(n2:jQ X.K C f2)(hf:f1≠f2)
  (hN:X.N=[("self" : Str),("pieces" : Str),("looked" : Str),("at" : Str),("piece" : Str),("told" : Str)]) (dm:m7 F H) (ir:xx X.K (λ_=>True) F H [va,vl] [(true,.obj C [] []),(b,.lst ts)]) (hz:(strsL ts).length < sizeLine) (hfin:∀ m,jU (.mem m (memo (strsL ts) m)) tw tc mk mv ts 0 ts (.dct [] [],.dct [] [])=.ok fin)
  (ok:∀ a F' H',[va,vl][0]? = some (.ref a)->ug ⟨mf [va,vl] [(true,.obj C [] []),(b,.lst ts)],H,F⟩ F' H'->¬ F' a->xU X.K F' H' a (.obj C [f1,f2] [fin.1,fin.2])->Q .non H') :
  u0 (Yp X.K (xD 0) lM f1) (u0 (Yp X.K (xD 0) lM f2) (u0 (lG (bo memo) (wd 2)) (Ve (ZU X.K (xD 1)) (V9 X.K 2 (eu (wd 3) (eu (wd 4) V8))) (u0 (lG (GJ tw' (cK X.K (xD 0) f2) (cK X.K (xD 0) f1)) (wd 5)) (u0 (rJ tc' fy em) (eJ (xD 5) tk' tv')))))) { nx:=λ_ H'=>Q .non H',rt:=Q } (start X.N [va,vl]) H:=by
 have ir0:=ir;obtain ⟨ia,⟨il,_,_⟩,sep⟩:=ir;obtain ⟨a,rfl,nFa,_,hHa,wa⟩:=ia.there rfl;obtain ⟨dx,fvs,hins,hk0,_⟩:=wa;have hfv:fvs=[]:=by simpa using hk0
 subst hfv
 -- the list,frozen
 have hfz:∃ F0:Addr->Prop,∃ l,vl=.ref l/\(∀ c,F c->F0 c)/\(∀ c,F0 c->F c\/(c=l/\b=true/\H c≠none))/\¬ F0 a/\Is X.K F0 H (.lst ts) (.ref l):=by
  cases b with
  | false =>
   have il:=il.is;obtain ⟨l,us,e,_⟩:=(show ∃ a vs,vl=.ref a/\_ by unfold Is at il;exact il)
   subst e;exact ⟨F,l,rfl,λ_ h=>h,λ_ h=>.inl h,nFa,il⟩
  | true =>
   obtain ⟨l,rfl,nFl,_,hHl,wl⟩:=il.there rfl;refine ⟨λc=>F c\/c=l,l,rfl,λ_ h=>.inl h,λc h => ?_,λz => ?_,wl.is (λ_ h=>.inl h) (.inr rfl)⟩
   ·rcases h with h | rfl
    ·exact .inl h
    ·exact .inr ⟨rfl,rfl,hHl⟩
   ·rcases z with z | rfl
    ·exact nFa z
    ·exact sep rfl 0 (true,.lst ts) rfl rfl rfl
 obtain ⟨F0,l,rfl,sub0,new0,nF0a,il0⟩:=hfz
 have dm0:m7 F0 H:=λc h=>by
  rcases new0 c h with h | h
  ·exact dm c h
  ·exact h.2.2
 generalize hB:(⟨mf [V.ref a,V.ref l] [(true,T.obj C [] []),(b,T.lst ts)],H,F⟩:Bs)=B at ok
 have fr0:ug B F0 H:=by
  subst hB;refine ⟨dm0,λc h=>sub0 c h,λc h => ?_,λc o h _=>h,λc f z => ?_⟩
  ·rcases new0 c h with h | ⟨rfl,hb,_⟩
   ·exact .inl h
   ·exact .inr (.inr ⟨1,(b,T.lst ts),rfl,hb,rfl⟩)
  ·exact (wS ir0 z).1 f
 have bH:B.H=H:=by rw [<- hB]
 have hMa:B.M a:=by rw [<- hB];exact ⟨0,(true,T.obj C [] []),rfl,rfl,rfl⟩
 have hst:start X.N [V.ref a,V.ref l]=[some (.ref a),some (.ref l),none,none,none,none]:=by rw [hN];rfl
 rw [hst];refine ZZ rfl hins cl n1 (by decide) λdk hdk hak => ?_;refine ZZ rfl zi cl n2 (by simp [wp]) λdf hdf hadf => ?_
 have hkf:dk≠df:=by
  rintro rfl;rw [z8 (Ne.symm hak),zi] at hdf;cases hdf
 have hdf0:H df=none:=by
  rw [z8 (Ne.symm hadf),z8 (Ne.symm hkf)] at hdf;exact hdf
 -- the loop
 have P0:zV X.K B f1 f2 C a l dk df dx ts (.dct [] []) (.dct [] []) F0 (zN (zN (zN (zN H dk (.dK [])) a (.ins C dx (wp f1 (.ref dk) []))) df (.dK [])) a (.ins C dx (wp f2 (.ref df) (wp f1 (.ref dk) [])))):=by
  have nk:¬ F0 dk:=λz=>dm0 dk z hdk;have nf:¬ F0 df:=λz=>dm0 df z hdf0
  have kp:kg F0 F0 H (zN (zN (zN (zN H dk (.dK [])) a (.ins C dx (wp f1 (.ref dk) []))) df (.dK [])) a (.ins C dx (wp f2 (.ref df) (wp f1 (.ref dk) [])))):=by
   refine ⟨λ_ h=>h,λc o f h => ?_,λc o h h1 h2 => ?_⟩
   ·have n1:c≠a:=by rintro rfl;exact nF0a f
    have n2:c≠dk:=by rintro rfl;exact nk f
    have n3:c≠df:=by rintro rfl;exact nf f
    rw [z8 n1,z8 n3,z8 n1,z8 n2];exact h
   ·have n1:c≠a:=by rintro rfl;rw [hins] at h;cases h;exact h2.2 _ _ _ rfl
    rw [z8 n1,z8 (zD h hdf0),z8 n1,z8 (zD h hdk)];exact h
  refine ⟨⟨λc f => ?_,fr0.sub,fr0.new,λc o h hm => ?_,fr0.f0⟩,nF0a,nk,nf,hkf,?_,by rw [bH];exact hdk,by rw [bH];exact hdf0,⟨[],?_,rfl,IsAll.nil⟩,⟨[],?_,rfl,IsAll.nil⟩,⟨_,_,rfl⟩,⟨_,_,rfl⟩,il0.mono kp⟩
  ·cases hc0:H c with
   | none=>exact absurd hc0 (dm0 c f)
   | some o=>rw [kp.fz c o f hc0];intro z;cases z
  ·rw [bH] at h
   have n1:c≠a:=by rintro rfl;exact hm hMa
   rw [z8 n1,z8 (zD h hdf0),z8 n1,z8 (zD h hdk)];exact h
  ·rw [zi];simp [wp,hf]
  ·rw [z8 (Ne.symm hak),z8 hkf,z8 (Ne.symm hak),zi]
  ·rw [z8 (Ne.symm hadf),zi]
 refine ⟨strsL ts,hz,λmm hmm => ?_⟩;refine J2 sw sc sk sv cl n1 n2 hf (P0.ext (jv.alloc P0.fr.dom hmm)) (by unfold Is;exact ⟨rfl,zi⟩) (hfin mm) λF2 H2 σ P2 => ?_;refine ok a (λc=>(F2 c\/c=dk)\/c=df) H2 rfl ⟨λc h => ?_,λc h=>.inl (.inl (P2.fr.sub c h)),λc h => ?_,P2.fr.keep,P2.fr.f0⟩ (λz => ?_) ⟨dx,_,P2.ins,rfl,IsAll.cons (P2.w1.is (λc h=>.inl (.inl h)) (.inl (.inr rfl))) (IsAll.cons (P2.w2.is (λc h=>.inl (.inl h)) (.inr rfl)) IsAll.nil)⟩
 ·rcases h with (h | rfl) | rfl
  ·exact P2.fr.dom c h
  ·exact P2.w1.there
  ·exact P2.w2.there
 ·rcases h with (h | rfl) | rfl
  ·exact P2.fr.new c h
  ·exact .inr (.inl P2.bk)
  ·exact .inr (.inl P2.bf)
 ·rcases z with (z | rfl) | rfl
  ·exact P2.nA z
  ·obtain ⟨ks,us,e⟩:=P2.s1
   have w:=P2.w1;rw [e] at w;obtain ⟨kvs,hw,_⟩:=w;rw [P2.ins] at hw;cases hw
  ·obtain ⟨ks,us,e⟩:=P2.s2
   have w:=P2.w2;rw [e] at w;obtain ⟨kvs,hw,_⟩:=w;rw [P2.ins] at hw;cases hw
theorem oF (nd:X.N.Nodup)(hN:X.N=[("self" : Str),("pieces" : Str),("looked" : Str),("at" : Str),("piece" : Str),("told" : Str)])(hc:X.calm=true)(hu:X.A.units + 1 < cLine)(hp:PassesOwn (model X.prog X.w) X.A X.env X.xe)(cl:cH X.K C)(n1:jQ X.K C f1)(n2:jQ X.K C f2)(hf:f1≠f2)
  (hg:Gl X "enumerate") (hm:X.mg "enumerate" = none) (v0:cy X.env.scope "self") (v1:cy X.env.scope "pieces") (v4:cy X.env.scope "told") (lm:mI X.env.scope "looked") (l2:mI X.env.scope "at") (l3:mI X.env.scope "piece") (l4:mI X.env.scope "told")
  (fnm:X.fn "looked" = true\/X.env.scope.names.lookup ("looked" : Str)=some NameKind.local) (fn2:X.fn "at" = true\/X.env.scope.names.lookup ("at" : Str)=some NameKind.local) (fn3:X.fn "piece" = true\/X.env.scope.names.lookup ("piece" : Str)=some NameKind.local) (fn4:X.fn "told" = true\/X.env.scope.names.lookup ("told" : Str)=some NameKind.local)
  (hmo:∀ p:Pos,PE X (.Dict [] [] p) (bo memo)) (hw:cu X cw tw) (hcc:cu X cc tc) (hk:jm X ek mk) (hv:jm X ev mv)
  (hs1:swapsWith (.Dict [] [] p1) (some (.Attribute (.Name "self" p2) f1 p3)) p4.line X.env=pure false:=by rfl) (hs2:swapsWith (.Dict [] [] q1) (some (.Attribute (.Name "self" q2) f2 q3)) q4.line X.env=pure false:=by rfl)
  (hb1:attributeBase (.Name "self" r1) f2 X.env (eval (.Name "self" r1) X.env)=eval (.Name "self" r1) X.env:=by rfl) (hb2:attributeBase (.Name "self" r3) f1 X.env (eval (.Name "self" r3) X.env)=eval (.Name "self" r3) X.env:=by rfl)
  (hs3:swapsWith (.IfExp cw (.Attribute (.Name "self" r1) f2 r2) (.Attribute (.Name "self" r3) f1 r4) r5) (some (.Name "told" r6)) r7.line X.env=pure false:=by rfl) (hs4:swapsWith ev (some (.Subscript (.Name "told" p7) ek p8)) p9.line X.env=pure false:=by rfl)
  (hsm:swapsWith (.Dict [] [] s1) (some (.Name "looked" s2)) s3.line X.env=pure false:=by rfl) (hst:starEach [.Name "pieces" q5] X.env=[(false,eval (.Name "pieces" q5) X.env)]:=by rfl) (ha:(assignEach [.Name "at" q7,.Name "piece" q8] X.env).map (·.2)=assign (.Name "at" q7) X.env :: (assignEach [.Name "piece" q8] X.env).map (·.2):=by rfl)
  (ha2:(assignEach [.Name "piece" q8] X.env).map (·.2)=assign (.Name "piece" q8) X.env :: (assignEach [] X.env).map (·.2):=by rfl) (ha3:(assignEach [.Name "at" q7,.Name "piece" q8] X.env).length=2:=by rfl) (ha4:(assignEach [.Name "at" q7,.Name "piece" q8] X.env).findIdx? (·.1)=none:=by rfl)
  (hfs:∀ x,foldedSetIterable (.Call (.Name "enumerate" q6) [.Name "pieces" q5] [] q9) X.env x=pure x:=by intro _;rfl) :
  ∃ t,hX X [.Assign [.Attribute (.Name "self" p2) f1 p3] (.Dict [] [] p1) p4,.Assign [.Attribute (.Name "self" q2) f2 q3] (.Dict [] [] q1) q4,.Assign [.Name "looked" s2] (.Dict [] [] s1) s3,
    .For (.Tuple [.Name "at" q7,.Name "piece" q8] kt p5) (.Call (.Name "enumerate" q6) [.Name "pieces" q5] [] q9)
     [.Assign [.Name "told" r6] (.IfExp cw (.Attribute (.Name "self" r1) f2 r2) (.Attribute (.Name "self" r3) f1 r4) r5) r7,.If cc rs [] r8,.Assign [.Subscript (.Name "told" p7) ek p8] ev p9] [] p6] t /\
   ∀ vs H Q E,aE X.K (xh memo C f1 f2 tw tc mk mv) vs H Q E->t { nx:=λ_ H'=>Q .non H',rt:=Q } (start X.N vs) H:=by
 obtain ⟨tw',pw,sw⟩:=hw;obtain ⟨tc',pc,sc⟩:=hcc;obtain ⟨tk',pk,sk⟩:=hk;obtain ⟨tv',pv',sv⟩:=hv;have pself:∀ {p:Pos},PE X (.Name "self" p) (xD 0):=λ{p} => vG (by rw [hN];rfl) v0;have ppieces:∀ {p:Pos},PE X (.Name "pieces" p) (xD 1):=λ{p} => vG (by rw [hN];rfl) v1;have ptold:∀ {p:Pos},PE X (.Name "told" p) (xD 5):=λ{p} => vG (by rw [hN];rfl) v4
 refine ⟨_,w9 (rY pself eL hs1) (w9 (rY pself eL hs2) (w9 (cA (i:=2) nd (by rw [hN];rfl) lm (hmo _) hsm fnm) (kc (cD hp hc (ik hg hm ppieces hst)
  (rM hc (uw (ke (i:=3) nd (by rw [hN];rfl) l2 fn2) (uw (ke (i:=4) nd (by rw [hN];rfl) l3 fn3) bR ha2) ha) ha3 ha4)
  (w9 (cA (i:=5) nd (by rw [hN];rfl) l4 (el pw (rX pself hb1) (rX pself hb2)) hs3 fn4) (w9 (rK pc tE lD) (kc (a8 hu ptold pk pv' hs4)))) hfs)))),?_⟩
 intro vs H Q E h;obtain ⟨F,args,dm,ir,nb,ok,hexc⟩:=h;obtain ⟨b,ts,fin,rfl,hz,hfin,hok⟩:=Xb nb;obtain ⟨va,vl,rfl⟩:=xx.two ir;exact oE sw sc sk sv cl n1 n2 hf hN dm ir hz hfin (ok _ hok)
end
section
variable {P:Program}{w:World}{K:W.Frag}{mg:Str->Option Value}{base:Heap}
theorem dy.ok {C:Addr}{x qual:Str}{st:Stmt}{N ps:List Str}{k:Nat}{g:MN}(F:∃ f fd,cr K "__init__" qual st f fd/\Mk K C f)(hx:mg x=some (.ref C))(S:za N ps (z6 st))(hl:∀ rs,g rs≠.bad->rs.length=ps.length)
  (hb:∀ (kV doc pm:Value) (an:Option Addr) (cdv ct:Value) (us:List Value),us.length=ps.length->bindArgs (W.fnOf "__init__" qual (jR st) (j8 st) (z6 st) .none kV doc pm an cdv ct) ⟨us,[]⟩=pure (ps.zip us))
  (hbody:∀ (f:Addr) (cdv:Value) (A:Around) (outer:List Env) (s:Shared) (H:Hp) (E:XK),jV k (A.deeper (envOfC qual (z6 st) s.heap.objs.size f cdv)) ->
   ∃ t,hX (uz (nZ P w) P w K mg base N qual (z6 st) f cdv A outer s H E) (j8 st) t/\∀ vs H Q E,aE K g vs H Q E->t { nx:=λ_ H'=>Q .non H',rt:=Q } (start N vs) H):dy P w K mg base (k + 1) C x ps g:=by
 obtain ⟨f,fd,F,hm⟩:=F;refine ⟨f,fd,?_,hm,hx,F.binds hb⟩;obtain ⟨oc,od,kV,doc,pm,an,cdv,ct,osl,rfl,lk,hcd⟩:=F.ex;refine eB lk hcd S (λvs H Q E h => ?_) λA outer s H vs Q E hr hsp => ?_
 ·obtain ⟨F,rs,d,ir,nb,_⟩:=h
  rw [ir.len];exact hl rs nb
 ·obtain ⟨t,p,h⟩:=hbody f cdv A outer s H E hr
  exact ⟨t,p,h vs H Q E hsp⟩
end
def im {memo:List Str->Mo}{C:Addr}{f1 f2:Str}{tw tc:MT}{mk mv:ME}{ps:List Str}(h:ps.length=2):∀ rs,xh memo C f1 f2 tw tc mk mv rs≠.bad->rs.length=ps.length:=by
 intro rs nb;unfold xh at nb
 split at nb
 ·rw [h];rfl
 ·exact absurd rfl nb
def xY (g:Str->Bool)(ks:List Str)(kvs:List (Key×V)):Prop:=ks.length < sizeLine/\(kvs.map (·.1)).Nodup/\∀ p∈kvs,∃ x,x∈ks/\p=(Sum.inr x,V.bl (g x))
def memoP (P:Program)(w:World)(g:Str->Bool)(ks:List Str):Mo:=λa h=>∃ kvs,xY g ks kvs/\j7 P w (λ_=>none) h a (.dK kvs)
def J3 [DecidableEq α]:∀ {l m:List α},l.Nodup->(∀ x∈l,x∈m)->l.length<=m.length
 | [],m,_,_=>Nat.zero_le _
 | a :: l,m,nd,h=>by
  have nd:=List.nodup_cons.mp nd;have ha:=h a List.mem_cons_self;have hl:=J3 nd.2 λx hx=>(List.mem_erase_of_ne (by rintro rfl;exact nd.1 hx)).mpr (h x (List.mem_cons_of_mem _ hx));rw [List.length_erase_of_mem ha] at hl;have:=List.length_pos_of_mem ha;rw [List.length_cons];omega
def xY.len (m:xY g ks kvs):kvs.length < sizeLine:=by
 have:=J3 m.2.1 λy hy=>by
  obtain ⟨p,hp,rfl⟩:=List.mem_map.mp hy;obtain ⟨x,hx,rfl⟩:=m.2.2 p hp;exact List.mem_map.mpr ⟨x,hx,rfl⟩
 rw [List.length_map,List.length_map] at this;exact Nat.lt_of_le_of_lt this m.1
def xY.val (m:xY g ks kvs)(h:jh kvs (.inr x)=some v):v=.bl (g x):=by
 unfold jh at h;obtain ⟨p,hp,rfl⟩:=Option.map_eq_some_iff.mp h;have h2:=List.find?_some hp;obtain ⟨y,hy,rfl⟩:=m.2.2 p (List.mem_of_find?_eq_some hp);have h2:(Sum.inr y:Key)=.inr x:=of_decide_eq_true h2;cases h2
 rfl
def xY.put (m:xY g ks kvs)(hx:x∈ks)(h:jh kvs (.inr x)=none):xY g ks (xW kvs (.inr x) (.bl (g x))):=by
 rw [Z6 _ h];refine ⟨m.1,?_,λp hp => ?_⟩
 ·rw [List.map_append]
  refine List.nodup_append.mpr ⟨m.2.1,by simp,λy hy z hz => ?_⟩;have:z=.inr x:=by simpa using hz
  rw [this];intro e;exact Z9 h (e ▸ hy)
 ·rcases List.mem_append.mp hp with hp | hp
  ·exact m.2.2 p hp
  ·exact ⟨x,hx,by simpa using hp⟩
def dA (m:xY g ks kvs)(o:j7 P w (λ_=>none) h a (.dK kvs))(H':Hp):j7 P w H' h a (.ext (memoP P w g ks a)):=by
 refine ⟨⟨kvs,m,o⟩,?_,λh1 h2 ⟨kvs,m,o⟩ k=>⟨kvs,m,o.stay (λb u hb q => ?_) (λ_ z=>by cases z) λ_ _ z=>by cases z⟩⟩
 ·obtain ⟨_,_,_,_,ob,_,_,e,_⟩:=o
  exact ⟨ob,e⟩
 ·rcases hb with rfl | hb
  ·exact k u q
  ·cases hb
def dB (ok:qG P w H h)(e:H a=some o)(h1:∀ b,o≠.own b)(h2:∀ xs,o≠.tup xs)(new:∀ H',j7 P w H' h a u):qG P w (zN H a u) h:=λb q hq=>by
 by_cases hb:b=a
 ·subst hb
  rw [zi] at hq;cases hq;exact new _
 ·rw [z8 hb] at hq
  refine (ok b q hq).stay (λ_ _ _ z=>z) (λc z => ?_) λc xs z => ?_
  ·rw [z8 (by rintro rfl;rw [e] at z;cases z;exact h1 _ rfl)];exact z
  ·rw [z8 (by rintro rfl;rw [e] at z;cases z;exact h2 _ rfl)];exact z
def xR.memo {K:W.Frag}{mg:Str->Option Value}{base:Heap}{k:Nat}{f:Addr}{fd:FuncData}{ps:List Str}{spO sp:Sp}(F:xR P w K mg base (nZ P w) k f fd ps spO)(len:∀ vs H Q E,sp vs H Q E->vs.length=ps.length)
  (hs:∀ vs H Q E,sp vs H Q E->∃ a ks,H a=some (.ext (memoP P w g ks a))/\∀ kvs,xY g ks kvs->spO vs (zN H a (.dK kvs)) (λv H'=>∃ kvs',xY g ks kvs'/\H' a=some (.dK kvs')/\Q v (zN H' a (.ext (memoP P w g ks a)))) (λ_ _ _=>False)):xR P w K mg base (nZ P w) k f fd ps sp:=by
 refine ⟨len,λA outer s H args us vs Q E hr e0 hb hv h => ?_⟩;obtain ⟨a,ks,ha,hk⟩:=hs vs H Q E h;obtain ⟨⟨kvs,m,ok⟩,_,_⟩:=(show j7 P w H s.heap a (.ext (memoP P w g ks a)) from e0.hok a _ ha)
 have nn:∀ b,H b=none->b≠a:=λb n z=>by rw [z,ha] at n;cases n
 have up:∀ b,H b=none->zN H a (.dK kvs) b=none:=λb n=>by rw [z8 (nn b n)];exact n
 have e1:eA P w K mg base A outer s (zN H a (.dK kvs)):=⟨e0.frames,e0.mod,λb o q=>⟨(e0.bs b o q).1,up b (e0.bs b o q).2⟩,e0.bsz,e0.funs,λb q=>up b (e0.frf b q),(by rw [z8 (ut e0.tab ha (by intro z;cases z))];exact e0.tab),dB e0.hok ha (λ_ z=>by cases z) (λ_ z=>by cases z) (λ_=>ok),e0.bare⟩
 refine codeAny_mono (F.run A outer s _ args us vs _ _ hr e1 hb hv (hk kvs m)) λr s' hq => ?_
 cases r with
 | error e=>obtain ⟨_,_,_,_,_,_,_,z⟩:=hq;exact z.elim
 | ok fl =>
  cases fl with
  | next=>exact False.elim hq
  | brk=>exact False.elim hq
  | cont=>exact False.elim hq
  | ret u =>
   obtain ⟨v,H',os,br,un,hok,rv,kvs',m',h',q⟩:=hq;refine ⟨v,_,os,br,⟨λb o q n hc hx=>un.keep b o q (up b n) hc hx,λb o q n hc hx=>un.slot b o q (up b n) hc hx,λb o q n hx => ?_,un.there,λb xs q => ?_,λb o u q => ?_,λb xs q => ?_⟩,dB hok h' (λ_ z=>by cases z) (λ_ z=>by cases z) (dA m' (hok a _ h')),rv,q⟩
   ·rw [z8 (nn b n)];exact un.free b o q (up b n) hx
   ·have hb:=ut q ha (by intro z;cases z)
    rw [z8 hb];exact un.tups b xs (by rw [z8 hb];exact q)
   ·have hb:=ut q ha (by intro z;cases z)
    rw [z8 hb];exact un.frzs b o u (by rw [z8 hb];exact q)
   ·have hb:=ut q ha (by intro z;cases z)
    rw [z8 hb];exact un.tbls b xs (by rw [z8 hb];exact q)
def J4 (hm:memo=memoP X.prog X.w g)(pos:Pos):PE X (.Dict [] [] pos) (bo memo):=λpins s σ H Q I h=>by
 subst hm;obtain ⟨ks,hl,h⟩:=h;exact wpAny_Dict_empty ⟨.ref s.heap.objs.size,_,I.laid (λ_ _ q=>Heap.get?_push_of_some _ q) (Nat.le_refl _) (dA (kvs:=[]) ⟨hl,List.nodup_nil,λp hp=>nomatch hp⟩ (eK s.heap I.big) _),rfl,h _ (I.hok.fresh (Nat.le_refl _))⟩
open Classical in
def ld (memo:List Str->Mo)(f:MF):MF:=λrs=>match rs with
 | [(_,.mem m o),(_,.str x)]=>if ∃ ks,o=memo ks m/\x∈ks then (match f [(false,.str x)] with
  | .ok (false,.bl b)=>.ok (false,.bl b)
  | _=>.bad) else .bad
 | _=>.bad
def gOf (f:MF)(x:Str):Bool:=match f [(false,.str x)] with
 | .ok (_,.bl b)=>b
 | _=>false
def dC (nb:ld memo f rs≠.bad):∃ b1 b2 m ks x b,rs=[(b1,.mem m (memo ks m)),(b2,.str x)]/\x∈ks/\f [(false,.str x)]=.ok (false,.bl b)/\ld memo f rs=.ok (false,.bl b):=by
 unfold ld at nb ⊢
 split at nb
 ·split at nb
  ·rename_i hc
   obtain ⟨ks,rfl,hx⟩:=hc
   split at nb
   ·rename_i b hb
    exact ⟨_,_,_,ks,_,b,rfl,hx,hb,by rw [if_pos ⟨ks,rfl,hx⟩]⟩
   ·exact absurd rfl nb
  ·exact absurd rfl nb
 ·exact absurd rfl nb
def PV (g:Str->Bool)(f:MF):Sp:=λvs H Q _=>∃ a x kvs ks,vs=[.ref a,.str x]/\H a=some (.dK kvs)/\xY g ks kvs/\x∈ks/\f [(false,.str x)]=.ok (false,.bl (g x)) /\
 ∀ H' kvs',xY g ks kvs'->H' a=some (.dK kvs')->(∀ c o,c≠a->H c=some o->H' c=some o)->Q (.bl (g x)) H'
def oG (C:ji X.prog X.w X.K X.mg X.base k "is_kind" ["text"] f)(hr:jV k X.A)(hu:X.A.units + 1 < cLine)(hN:X.N=[("looked" : Str),("text" : Str)])(hg:Gl X "is_kind")(v0:cy X.env.scope "looked")(v1:cy X.env.scope "text")
  (hbm:behindInMarks .NotIn (.Name "looked" p2)=false:=by first | rfl | with_unfolding_all rfl) (hsw:swapsWith (.Call (.Name "is_kind" p7) [.Name "text" p8] [] p9) (some (.Subscript (.Name "looked" p4) (.Name "text" p5) p6)) p10.line X.env=pure false:=by rfl)
  (he:starEach [.Name "text" p8] X.env=(false,eval (.Name "text" p8) X.env) :: starEach [] X.env:=by rfl) (hpl:(backTo p9 (starEach [] X.env)).any (·.1)=false:=by rfl) (hns:Z7 (.Name "text" p13):=by first | rfl | exact (λ_ _=>rfl)) :
  ∃ t,hX X [.If (.Compare (.Name "text" p1) [.NotIn] [.Name "looked" p2] p3) [.Assign [.Subscript (.Name "looked" p4) (.Name "text" p5) p6] (.Call (.Name "is_kind" p7) [.Name "text" p8] [] p9) p10] [] p11,.Return (some (.Subscript (.Name "looked" p12) (.Name "text" p13) p14)) p15] t /\
   ∀ vs H Q E,PV g f vs H Q E->t { nx:=λ_ H'=>Q .non H',rt:=Q } (start X.N vs) H:=by
 obtain ⟨fa,fd,F,hm,hk,hb⟩:=C;have pl:∀ {p:Pos},PE X (.Name "looked" p) (xD 0):=λ{p} => vG (by rw [hN];rfl) v0;have pt:∀ {p:Pos},PE X (.Name "text" p) (xD 1):=λ{p} => vG (by rw [hN];rfl) v1;refine ⟨_,w9 (rK (WZ (tS hu pt pl) hbm) (kc (a8 hu pl pt (dg F hr hg hm hk hb (xK pt vH he)) hsw)) lD) (kc (lF (Yy hu pl pt hns))),?_⟩;rintro vs H Q E ⟨a,x,kvs,ks,rfl,ha,m,hx,hf,q⟩;rw [show start X.N [.ref a,.str x]=[some (.ref a),some (.str x)] from by rw [hN];rfl];refine ⟨.str x,rfl,.ref a,rfl,a,jh kvs (.inr x),rfl,gK.k (k:=.inr x) ha,?_⟩
 cases hv:jh kvs (.inr x) with
 | some v =>
  refine ⟨_,rfl,?_⟩;refine ⟨.ref a,rfl,.str x,rfl,a,v,rfl,hv ▸ gK.k (k:=.inr x) ha,?_⟩;rw [m.val hv];exact q H kvs m ha λc o _ h=>h
 | none =>
  refine ⟨_,rfl,?_⟩;refine ⟨.str x,rfl,λ_ _ _=>False,⟨λ_=>False,[(false,.str x)],λ_ h=>h.elim,⟨je kh,trivial,λz=>by cases z⟩,(by rw [hf];intro z;cases z),λr er v F' H1 rr => ?_,λx ex=>by rw [hf] at ex;cases ex⟩,λ_ _ _ z=>z.elim⟩;rw [hf] at er;cases er;have hvv:=rr.val.is;unfold Is at hvv;subst hvv
  have kp:∀ c o,H c=some o->H1 c=some o:=λc o h=>rr.fr.keep c o h λ⟨i,r,e,ho,_⟩=>by
   cases i with
   | zero=>simp at e;subst e;cases ho
   | succ i=>simp at e
  refine ⟨.ref a,rfl,.str x,rfl,a,_,rfl,tQ.k (k:=.inr x) (kp _ _ ha) m.len,?_⟩;have hd:=gK.k (k:=.inr x) (zi (H:=H1) (a:=a) (o:=.dK (xW kvs (.inr x) (.bl (g x)))));rw [Z5,if_pos rfl] at hd;exact ⟨.ref a,rfl,.str x,rfl,a,_,rfl,hd,q _ _ (m.put hx hv) zi λc o hc h=>by rw [z8 hc];exact kp c o h⟩
section
variable {P:Program}{w:World}{K:W.Frag}{mg:Str->Option Value}{base:Heap}
theorem Xc {memo:List Str->Mo}{f:MF}{x:Str}{st:Stmt}{N ps:List Str}{k:Nat}(hm:memo=memoP P w (gOf f))(hps:ps.length=2)(F:zH K mg x st)(S:za N ps (z6 st))
  (hb:∀ (kV doc pm:Value) (an:Option Addr) (cdv ct:Value) (us:List Value),us.length=ps.length->bindArgs (W.fnOf x x (jR st) (j8 st) (z6 st) .none kV doc pm an cdv ct) ⟨us,[]⟩=pure (ps.zip us))
  (hbody:∀ (fa:Addr) (cdv:Value) (A:Around) (outer:List Env) (s:Shared) (H:Hp) (E:XK),jV k (A.deeper (envOfC x (z6 st) s.heap.objs.size fa cdv)) ->
   ∃ t,hX (uz (nZ P w) P w K mg base N x (z6 st) fa cdv A outer s H E) (j8 st) t/\∀ vs H Q E,PV (gOf f) f vs H Q E->t { nx:=λ_ H'=>Q .non H',rt:=Q } (start N vs) H):ji P w K mg base (k + 1) x ps (ld memo f):=by
 subst hm;obtain ⟨fa,fd,F,e⟩:=F;refine ⟨fa,fd,?_,e,F.kp,F.binds hb⟩;obtain ⟨oc,od,kV,doc,pm,an,cdv,ct,osl,rfl,lk,hcd⟩:=F.ex;refine xR.memo (g:=gOf f) (spO:=PV (gOf f) f) (eB lk hcd S (λvs H Q E h => ?_) λA outer s H vs Q E hr hsp => ?_) (λvs H Q E h => ?_) λvs H Q E h => ?_
 ·obtain ⟨a,x,kvs,ks,rfl,_⟩:=h
  exact hps.symm
 ·obtain ⟨t,p,h⟩:=hbody fa cdv A outer s H E hr
  exact ⟨t,p,h vs H Q E hsp⟩
 ·obtain ⟨Fz,rs,d,ir,nb,_⟩:=h
  obtain ⟨_,_,_,_,_,_,rfl,_⟩:=dC nb;rw [ir.len,hps]
  rfl
 ·obtain ⟨Fz,rs,d,ir,nb,ok,_⟩:=h
  obtain ⟨b1,b2,a,ks,x,b,rfl,hx,hf,hok⟩:=dC nb;obtain ⟨v1,v2,rfl⟩:=xx.two ir;have f0:=λc (fc:Fz c) z=>(wS ir z).1 fc;obtain ⟨i1,⟨i2,_,_⟩,_⟩:=ir
  have i1:Is K Fz H (.mem a (memoP P w (gOf f) ks a)) v1:=by
   cases b1 with
   | false=>exact i1.is
   | true=>obtain ⟨_,_,_,_,_,z⟩:=i1.there rfl;exact z.elim
  have i2:Is K Fz H (.str x) v2:=by
   cases b2 with
   | false=>exact i2.is
   | true=>obtain ⟨_,_,_,_,_,z⟩:=i2.there rfl;exact z.elim
  unfold Is at i1 i2;obtain ⟨rfl,ha⟩:=i1;subst i2;have hgb:gOf f x=b:=by unfold gOf;rw [hf]
  subst hgb;refine ⟨a,ks,ha,λkvs m=>⟨a,x,kvs,ks,rfl,zi,m,hx,hf,λH' kvs' m' h' kp=>⟨kvs',m',h',ok _ hok _ Fz _ ⟨⟨λc fc => ?_,λ_ h=>h,λ_ h=>.inl h,λc o hc _ => ?_,f0⟩,je xr⟩⟩⟩⟩
  ·by_cases e:c=a
   ·subst e;rw [zi];intro z;cases z
   ·cases hc:H c with
    | none=>exact absurd hc (d c fc)
    | some o=>rw [z8 e,kp c o e (by rw [z8 e];exact hc)];intro z;cases z
  ·by_cases e:c=a
   ·subst e;rw [zi,<- ha];exact hc
   ·rw [z8 e];exact kp c o e (by rw [z8 e];exact hc)
end
def Xd (a b:String):Bool:=a == b || (a == "bool" && b == "int")
def Kc:List String:=["bool","int","str","tuple","list","dict"]
def Xe {K:W.Frag}{t:T}{a b:String}(ha:dh t=some a)(hb:b∈Kc):W.kitOne K (.type a) (.type b)=some (Xd a b):=by
 cases t<;>simp only [dh,Option.some.injEq,reduceCtorEq] at ha<;>subst ha<;>simp only [Kc,List.mem_cons,List.not_mem_nil,or_false] at hb<;>rcases hb with rfl | rfl | rfl | rfl | rfl | rfl <;>
  first | rfl | decide | (unfold W.kitOne W.kitCls;rfl) | (unfold W.kitOne W.kitCls;simp;decide +kernel)
def qP:List T->Option RV
 | [t,.ty n]=>match dh t with
  | some m=>if n∈Kc then some (false,.bl (Xd m n)) else none
  | none=>none
 | _=>none
def xN:we X (.builtin "isinstance") (Y7 X.K qP):=by
 intro pins s σ H xs us Q I r h;obtain ⟨F,ts,rv,d,ia,e,q⟩:=h
 match ts,e with
 | [t,.ty n],e =>
  obtain ⟨v,w,rfl,g1,g2⟩:=PP ia;unfold Is at g2;subst g2;simp only [qP] at e
  cases hm:dh t with
  | none=>rw [hm] at e;cases e
  | some m =>
  rw [hm] at e;dsimp only at e
  split at e<;>cases e
  rename_i hn;have qt:Q (.bl (Xd m n)) H:=flat d xr q rfl;obtain ⟨u,u2,rfl,ru,ru2⟩:=Wa r;cases ru2;have kt:=Xe (K:=X.K) hm hn
  have fin:fE X.K H v (.type m)->wpAny (model X.prog X.w) X.A (call (.builtin "isinstance") [u,.type n]) (EP X pins σ Q) X.xe s:=λht =>
   tM I ru ht kt λtk=>⟨.bl (Xd m n),H,I.tok _,rfl,qt⟩
  cases t<;>unfold Is at g1<;>simp only [dh,Option.some.injEq,reduceCtorEq] at hm<;>subst hm
  case non=>subst g1;exact fin .non
  case bl=>subst g1;exact fin (.bl _)
  case int=>subst g1;exact fin (.int _)
  case str=>subst g1;exact fin (.str _)
  case lst ts =>
   obtain ⟨a,vs,rfl,g,g2⟩:=g1;cases ru;obtain ⟨its,rr,pl,hz⟩:=I.list g.sq;obtain ⟨o,ho,hc,n',hd⟩:=pl.isList;exact W.kia_one W.kitx_list I.kIn ⟨o,ho,hc⟩ kt (λz=>nomatch z) λtk=>⟨.bl _,H,I.tok _,rfl,qt⟩
  case tup ts =>
   obtain ⟨a,vs,rfl,g,g2⟩:=g1;cases ru;obtain ⟨its,rr,pl,hz⟩:=I.tuple g;obtain ⟨o,ho,hc,_⟩:=pl;exact W.kia_one W.kitx_tuple I.kIn ⟨o,ho,hc⟩ kt (λz=>nomatch z) λtk=>⟨.bl _,H,I.tok _,rfl,qt⟩
def PX (K:W.Frag):Sp:=λvs H Q _=>∃ a,∃ ns:List Int,vs=[.ref a]/\fw K H a (ns.map V.int)/\ns.length<=63/\∀ H',Q (.bl true) H'
def aF {K:W.Frag}{F:Addr->Prop}{H:Hp} : ∀ (ns:List Int),IsAll K F H (ns.map T.int) (ns.map V.int)
 | []=>IsAll.nil
 | _ :: ns=>IsAll.cons x8 (aF ns)
section
variable {P:Program}{w:World}{K:W.Frag}{mg:Str->Option Value}{base:Heap}
theorem cr.ok3 {x:Str}{st:Stmt}{f:Addr}{fd:FuncData}{N ps:List Str}{k:Nat}{mb:MS}(F:cr K x x st f fd)(S:za N ps (z6 st))
  (hbody:∀ (cdv:Value) (A:Around) (outer:List Env) (s:Shared) (H:Hp) (E:XK),jV k (A.deeper (envOfC x (z6 st) s.heap.objs.size f cdv)) ->
   gn (uz (nZ P w) P w K mg base N x (z6 st) f cdv A outer s H E) (j8 st) mb):xR P w K mg base (nZ P w) (k + 1) f fd ps (pI K (zL N.length ps.length mb)):=by
 obtain ⟨oc,od,kV,doc,pm,an,cdv,ct,osl,rfl,lk,hcd⟩:=F.ex;exact eB lk hcd S (λvs H Q E h=>QT h) λA outer s H vs Q E hr hsp=>Wm hsp (hbody cdv A outer s H E hr)
theorem Ke (F:xR P w K mg base (nZ P w) k f fd [x] (pI K m))(h:∀ ns:List Int,ns.length<=63->m [(false,.lst (ns.map T.int))]=.ok (false,.bl true)):xR P w K mg base (nZ P w) k f fd [x] (PX K):=by
 refine F.imp λvs H Q E ⟨a,ns,hv,hS,hl,q⟩ => ?_;subst hv;have hm:=h ns hl
 have fin:∀ F:Addr->Prop,m7 F H->rh K F H a (ns.map V.int)->pI K m [.ref a] H Q E:=by
  intro F d fz;refine ⟨F,[(false,.lst (ns.map T.int))],d,⟨je ?_,trivial,λz=>by cases z⟩,(by rw [hm];intro z;cases z),λr er v F' H' rr => ?_,λx ex=>(by rw [hm] at ex;cases ex)⟩
  ·unfold Is
   exact ⟨a,_,rfl,fz,aF ns⟩
  ·rw [hm] at er
   cases er;have:=rr.val.is;unfold Is at this;rw [this];exact q H'
 rcases hS with (hS | hS) | hS
 ·exact fin (λb=>b=a) (λb hb=>by rw [hb,hS];intro z;cases z) (.inl ⟨rfl,hS⟩)
 ·exact fin (λ_=>False) (λb hb=>hb.elim) (.inr (.inl hS))
 ·exact fin (λ_=>False) (λb hb=>hb.elim) (.inr (.inr hS))
end
def QW {l:W.OpenLaw}{q:Program}{loose:List Str}{XP:(Str->Option Value)->Heap->Prop}{YP:World->Heap->Prop}{d:DefRec}{K:Params->W.Frag}{x:Str}{k:Nat}{st:Stmt}(hn:l.most=some 63)(hdf:d.params.defaults=[])(hdn:d.name = "law")(hr:jV k callerA)
  (hY:∀ (w:World) (h:Heap),YP w h->(K w.params).In h) (hYT:∀ (w:World) (h:Heap),YP w h->h.get? tabP=some { cls:=.none,data:=.fields #[] }) {c₀:Addr} (hYC:∀ (w:World) (h:Heap),YP w h->W.CodeHd h c₀ tabP) (hYN:∀ w:World,W.noTabs (K w.params)=true)
  (hb:∀ (kV doc pm:Value) (an:Option Addr) (cdv ct:Value) (u:Value),bindArgs (W.fnOf "law" "law" (jR st) (j8 st) (z6 st) .none kV doc pm an cdv ct) ⟨[u],[]⟩=pure [(x,u)])
  (F:∀ (w:World) (mg:Str->Option Value) (h:Heap),(K w.params).In h->h.Ns mainGlobals mg->zH (K w.params) mg "law" st/\∀ (f:Addr) (fd:FuncData),cr (K w.params) "law" "law" st f fd->∀ base:Heap,xR l.prog w (K w.params) mg base (nZ l.prog w) k f fd [x] (PX (K w.params))) :
  W.WalkO q loose XP YP l.row.toRowW d [] (λf vs=>PySem.call f vs):=by
 refine L2.walk_of (x:=x) (CX:=λw=>nZ l.prog w) (sp:=λw=>PX (K w.params)) hn (by decide) hdf hr hY hYT hYC hYN ?_ (λw H a ns hl _ hS=>⟨a,ns,rfl,hS,hl,λ_=>rfl⟩) λw H s e s' z=>by
  obtain ⟨_,_,_,_,_,_,_,z⟩:=z;exact z
 intro w mg fa h KX G hmg;obtain ⟨⟨f,fd,Fl,e⟩,T⟩:=F w mg h KX G;rw [hdn,e] at hmg;cases hmg;refine ⟨fd,λs u => ?_,λbase _ _=>T _ fd Fl base⟩;obtain ⟨oc,od,kV,doc,pm,an,cdv,ct,osl,rfl,lk,hcd⟩:=Fl.ex;exact .of_eq (hb kV doc pm an cdv ct u)
def J5 {K:W.Frag}{C C0:Addr}{b:Bool}(d:C≠C0)(h1:W.isClsIn K C0=true)(h2:W.typeIn K (.ref C0)=some (.type "type"))(h3:W.subIn K (.ref C) (.ref C0)=some b):W.kitOne K (.ref C) (.ref C0)=some b:=by
 unfold W.kitOne W.kitCls;have h1:(W.clsIn K C0).isSome=true:=h1
 have ne:¬ ((Value.ref C == Value.ref C0)=true):=λz=>by
  have:=eq_of_beq z;injection this with e
  exact d e
 rw [if_neg ne];dsimp only;rw [h1,h2,if_pos (by rw [beq_self_eq_true];rfl)];exact h3
def Kf (C:Addr):List (Addr×Bool)->Option Bool
 | []=>none
 | p :: r=>if p.1=C then some p.2 else Kf C r
def aG:∀ {l:List (Addr×Bool)},Kf C l=some b->(C,b)∈l
 | [],h=>by cases h
 | p :: r,h=>by
  rw [Kf] at h
  split at h
  ·rename_i e
   cases h;rw [<- e];exact List.mem_cons_self
  ·exact List.mem_cons_of_mem _ (aG h)
structure QX (K:W.Frag) (C:Addr) (m:Str) (f:Addr):Prop where
 sg:W.specialIn K (.ref C) "__getattribute__" = some (some (.builtin "type.__getattribute__"))
 rd:W.readsIn K C (.type "type")=true
 fc:W.findCls K (.ref C) (.type "type") m=some (.val (.ref f))
 kp:W.keepIn K (.ref f)=true
def za.of {N ps:List Str}{sc:Scope}(h:za N ps sc:=by exact ⟨rfl,rfl,rfl,by decide +kernel,rfl,by decide +kernel,by decide +kernel⟩):za N ps sc:=h
def j9.of {N:List Str}{fsc scope:Scope}{x:Str}{caps:List Str}{slots:List Nat}(h:j9 N fsc scope x caps slots:=by exact ⟨rfl,rfl,by decide +kernel,by decide +kernel,rfl,by decide +kernel,by decide +kernel,by decide +kernel,rfl,rfl⟩):j9 N fsc scope x caps slots:=h
def zG (hN:X.N.Nodup)(h:jm X e m)(hi:X.N[i]? = some x:=by rfl)(hx:mI X.env.scope x:=by first | exact Or.inl rfl | exact Or.inr rfl)(hs:swapsWith e (some (.Name x pos')) pos.line X.env=pure false:=by rfl)
  (hf:X.fn x=true\/X.env.scope.names.lookup x=some .local:=by first | exact .inl rfl | exact .inr rfl | assumption):uh X (.Assign [.Name x pos'] e pos) (zo i m):=QQ hN hi hx h hs hf
def bp {op:Operator}{f:T->T->Option RV}(ho:K0 X op f)(hN:X.N.Nodup)(h:jm X e m)(hi:X.N[i]? = some x:=by rfl)(hx:mI X.env.scope x:=by first | exact Or.inl rfl | exact Or.inr rfl)
  (hf:X.fn x=true\/X.env.scope.names.lookup x=some .local:=by first | exact .inl rfl | exact .inr rfl | assumption):uh X (.AugAssign (.Name x pos') op e pos) (m9 i f m):=QR ho hN hi hx h hf
def jd (hN:X.N.Nodup)(hi:X.N[i]? = some x:=by rfl)(hx:mI X.env.scope x:=by first | exact Or.inl rfl | exact Or.inr rfl)(hf:X.fn x=true\/X.env.scope.names.lookup x=some .local:=by first | exact .inl rfl | exact .inr rfl | assumption):Y8 X (.Name x pos) (gN i):=YW hN hi hx hf
def d4 (c1 c2 c3 c4:Addr)(m:Str)(f1 f2 f3 f4:MF)(mo:ME)(ma:MA):ME:=K7 (K7 (K7 (aD c1 m f1 mo ma) (aD c2 m f2 mo ma)) (aD c3 m f3 mo ma)) (aD c4 m f4 mo ma)
def QY {P:List Value->Prop}(h:P []):∀ us:List Value,us.length=0->P us:=λus e=>by cases us with | nil=>exact h | cons a r=>cases e
def qX {P:List Value->Prop}(h:∀ a,P [a]):∀ us:List Value,us.length=1->P us:=λus e=>by cases us with | nil=>cases e | cons a r=>exact QY (P:=λr=>P (a :: r)) (h a) r (Nat.succ.inj e)
def xV {P:List Value->Prop}(h:∀ a b,P [a,b]):∀ us:List Value,us.length=2->P us:=λus e=>by cases us with | nil=>cases e | cons a r=>exact qX (P:=λr=>P (a :: r)) (h a) r (Nat.succ.inj e)
def fe {P:List Value->Prop}(h:∀ a b c,P [a,b,c]):∀ us:List Value,us.length=3->P us:=λus e=>by cases us with | nil=>cases e | cons a r=>exact xV (P:=λr=>P (a :: r)) (h a) r (Nat.succ.inj e)
def J6 {P:List Value->Prop}(h:∀ a b c d,P [a,b,c,d]):∀ us:List Value,us.length=4->P us:=λus e=>by cases us with | nil=>cases e | cons a r=>exact fe (P:=λr=>P (a :: r)) (h a) r (Nat.succ.inj e)
def QZ {P:List Value->Prop}(h:∀ a b c d e,P [a,b,c,d,e]):∀ us:List Value,us.length=5->P us:=λus e=>by cases us with | nil=>cases e | cons a r=>exact J6 (P:=λr=>P (a :: r)) (h a) r (Nat.succ.inj e)
def G0 {P:List Value->Prop}(h:∀ a b c d e f,P [a,b,c,d,e,f]):∀ us:List Value,us.length=6->P us:=λus e=>by cases us with | nil=>cases e | cons a r=>exact QZ (P:=λr=>P (a :: r)) (h a) r (Nat.succ.inj e)
section
variable {K:W.Frag}{h:Heap}{mg:Str->Option Value}{f C C0:Addr}{oc kV dc pm cd ct:Value}{od an:Option Addr}{sl:Array (Option Value)}{x q:Str}{st:Stmt}{t:Tok}{b:Bool}
theorem pd (X:K.In h)(G:h.Ns mainGlobals mg)(g:W.nsIn K mainGlobals x=some none:=by (try dsimp only);k_is):mg x=none:=W.mg_none_of X G g
theorem Xf (X:K.In h)(G:h.Ns mainGlobals mg)(g:W.nsIn K mainGlobals x=some (some v):=by (try dsimp only);k_is):mg x=some v:=W.mg_of X G g
theorem zx (X:K.In h)(G:h.Ns mainGlobals mg)(g:W.nsIn K mainGlobals x=some (some (.ref f)):=by (try dsimp only);k_is)(l:K.lookup f=some ⟨oc,od,.func (W.fnOf x x (jR st) (j8 st) (z6 st) .none kV dc pm an cd ct),sl⟩:=by (try dsimp only);k_is)
  (c:W.codeIn K cd x=true:=by (try dsimp only);k_is) (k:W.keepIn K (.ref f)=true:=by (try dsimp only);k_is):zH K mg x st:=⟨_,_,lN l c k,W.mg_of X G g⟩
theorem Wo (X:K.In h)(G:h.Ns mainGlobals mg)(g:W.nsIn K mainGlobals x=some (some (.str s t)):=by (try dsimp only);k_is):∃ t,mg x=some (.str s t):=⟨_,W.mg_of X G g⟩
theorem G1 (X:K.In h)(G:h.Ns mainGlobals mg)(g:W.nsIn K mainGlobals x=some (some (.int i t)):=by (try dsimp only);k_is):∃ t,mg x=some (.int i t):=⟨_,W.mg_of X G g⟩
theorem G2 (X:K.In h)(G:h.Ns mainGlobals mg)(g:W.nsIn K mainGlobals x=some (some (.ref f)):=by (try dsimp only);k_is)(l:K.lookup f=some ⟨.type "tuple",od,.seq #[.str s1 t1,.str s2 t2] n,sl⟩:=by (try dsimp only);k_is):K6 K mg x [s1,s2] :=
 ⟨_,_,_,_,W.mg_of X G g,l,rfl,rfl,(by show 2<=sizeLine;decide),(.cons ⟨_,rfl⟩ (.cons ⟨_,rfl⟩ .nil))⟩
theorem Xg (i:W.findIn K (.ref C) "__init__" = some (some (.ref f)):=by (try dsimp only);k_is)(l:K.lookup f=some ⟨oc,od,.func (W.fnOf "__init__" q (jR st) (j8 st) (z6 st) .none kV dc pm an cd ct),sl⟩:=by (try dsimp only);k_is)
  (c:W.codeIn K cd q=true:=by (try dsimp only);k_is) (k:W.keepIn K (.ref f)=true:=by (try dsimp only);k_is) (m:W.makesIn K C=true:=by (try dsimp only);k_is) (n:W.isFn K (.ref f)=true:=by (try dsimp only);k_is) (p:W.keepIn K (.ref C)=true:=by (try dsimp only);k_is):∃ f fd,cr K "__init__" q st f fd/\Mk K C f:=⟨_,_,lN l c k,m,i,n,p⟩
theorem base_of (i:W.findCls K (.ref C) (.type "type") "__init__" = some (.val (.ref f)):=by (try dsimp only);k_is)(l:K.lookup f=some ⟨oc,od,.func (W.fnOf "__init__" q (jR st) (j8 st) (z6 st) .none kV dc pm an cd ct),sl⟩:=by (try dsimp only);k_is)
  (c:W.codeIn K cd q=true:=by (try dsimp only);k_is) (k:W.keepIn K (.ref f)=true:=by (try dsimp only);k_is) (s:W.specialIn K (.ref C) "__getattribute__" = some (some (.builtin "type.__getattribute__")):=by (try dsimp only);k_is) (r:W.readsIn K C (.type "type")=true:=by (try dsimp only);k_is):∃ f fd,cr K "__init__" q st f fd/\QX K C "__init__" f:=⟨_,_,lN l c k,s,r,i,k⟩
theorem Kg (a:W.plainGet K C Str.empty=true:=by (try dsimp only);k_is)(b:W.hasDictIn K C=true:=by (try dsimp only);k_is)(c:W.plainOver K C=true:=by (try dsimp only);k_is)(d:W.findIn K (.ref C) "__setattr__" = some (some (.builtin "object.__setattr__")):=by (try dsimp only);k_is):cH K C:=⟨a,b,c,d⟩
theorem Wp (i:W.findIn K (.ref C) x=some none:=by (try dsimp only);k_is):jQ K C x:=i
end
structure GO (H H':Hp):Prop where
 oth:∀ b o,H b=some o->(∀ kvs,o≠.dK kvs)->(∀ ob kvs,o≠.frz ob (.dK kvs))->H' b=some o
 dct:∀ b kvs,Rd H b (.dK kvs)->Rd H' b (.dK kvs)
section
variable {K:W.Frag}{F:Addr->Prop}{H H':Hp}
theorem Xh {a:Addr}{vs:List V}(w:GO H H')(h:fx K H a vs):fx K H' a vs:=by
 rcases h with (h | ⟨o,h⟩) | h
 ·exact .inl (.inl (w.oth _ _ h (λ_ z=>by cases z) λ_ _ z=>by cases z))
 ·exact .inl (.inr ⟨o,w.oth _ _ h (λ_ z=>by cases z) λ_ _ z=>by cases z⟩)
 ·exact .inr h
theorem Xi {a:Addr}{vs:List V}(w:GO H H')(h:rh K F H a vs):rh K F H' a vs:=by
 rcases h with ⟨f,h⟩ | ⟨o,h⟩ | h
 ·exact .inl ⟨f,w.oth _ _ h (λ_ z=>by cases z) λ_ _ z=>by cases z⟩
 ·exact .inr (.inl ⟨o,w.oth _ _ h (λ_ z=>by cases z) λ_ _ z=>by cases z⟩)
 ·exact .inr (.inr h)
mutual
theorem Is.swp (w:GO H H'):∀ {t:T} {v:V},Is K F H t v->Is K F H' t v
 | .non,v,h=>by unfold Is at h ⊢;exact h
 | .bl b,v,h=>by unfold Is at h ⊢;exact h
 | .int i,v,h=>by unfold Is at h ⊢;exact h
 | .str x,v,h=>by unfold Is at h ⊢;exact h
 | .ty n,v,h=>by unfold Is at h ⊢;exact h
 | .tup ts,v,h=>by
  unfold Is at h ⊢;obtain ⟨a,vs,e,h,r⟩:=h;exact ⟨a,vs,e,Xh w h,IsAll.swp w r⟩
 | .lst ts,v,h=>by
  unfold Is at h ⊢;obtain ⟨a,vs,e,h,r⟩:=h;exact ⟨a,vs,e,Xi w h,IsAll.swp w r⟩
 | .dct ks ts,v,h=>by
  unfold Is at h ⊢;obtain ⟨a,kvs,e,f,h,d,r⟩:=h;exact ⟨a,kvs,e,f,w.dct _ _ h,d,IsAll.swp w r⟩
 | .obj C fs ts,v,h=>by
  unfold Is at h ⊢;obtain ⟨a,dx,kvs,e,f,h,d,r⟩:=h;exact ⟨a,dx,kvs,e,f,w.oth _ _ h (λ_ z=>by cases z) (λ_ _ z=>by cases z),d,IsAll.swp w r⟩
 | .mem m o,v,h=>by
  unfold Is at h ⊢;exact ⟨h.1,w.oth _ _ h.2 (λ_ z=>by cases z) λ_ _ z=>by cases z⟩
 | .exn C t,v,h=>by
  unfold Is at h ⊢;obtain ⟨e,d,x,ev,h1,h2,h3⟩:=h;exact ⟨e,d,x,ev,w.oth _ _ h1 (λ_ z=>by cases z) (λ_ _ z=>by cases z),w.oth _ _ h2 (λ_ z=>by cases z) (λ_ _ z=>by cases z),Is.swp w h3⟩
 | .lam,v,h=>by
  unfold Is at h ⊢;exact h.imp λa h=>⟨h.1,w.oth _ _ h.2 (λ_ z=>by cases z) λ_ _ z=>by cases z⟩
theorem IsAll.swp (w:GO H H'):∀ {ts:List T} {vs:List V},IsAll K F H ts vs->IsAll K F H' ts vs
 | [],vs,h=>by unfold IsAll at h ⊢;exact h
 | t :: ts,vs,h=>by
  unfold IsAll at h ⊢;obtain ⟨v,r,e,h1,h2⟩:=h;exact ⟨v,r,e,Is.swp w h1,IsAll.swp w h2⟩
end
end
def kT:Key->T
 | .inl i=>.int i
 | .inr x=>.str x
section
variable {X:Cx}{pos p p1 p2:Pos}
theorem US {i:Nat}{x:Str}(hN:X.N.Nodup)(hi:X.N[i]? = some x:=by rfl)(hx:mI X.env.scope x:=by first | exact Or.inl rfl | exact Or.inr rfl)(hf:X.fn x=true\/X.env.scope.names.lookup x=some .local:=by first | exact .inl rfl | exact .inr rfl | assumption):PG X (.Name x pos) (wd i):=ke hN hi hx hf
end
section
open Builtin Builtin.Str in
def Q6 (z0:(z.length == 0)=false)(sz:x.length + 2<=sizeLine)
  (q:∀ l k,l.map (·.1)=Txt.split x z->Q (.ref s.heap.objs.size) { s with heap:=s.heap.push { cls:=.type "list",data:=.seq (strValues l).toArray },toks:=k }):wpAny (model prog w) A (call (.builtin "str.split") [.str x tx,.str z tz]) Q E s:=by
 have rg:(partsBetween x (occurrences x z 0 x.length (x.length + 1)) z.length).length<=sizeLine:=by
  have:=StrLaws.occ_length_le x z 0 x.length (x.length + 1);rw [length_partsBetween];omega
 cases c1:(decide (x.length < z.length) || decide (strKind x < strKind z)) with
 | true=>exact call_meets F.slot_str_split (typeIs_str _ _ _) F.entry_str_split (F.args_str_split_2 _ _) (meets_str_split_cannot_occur x z tx tz c1) (q [(x,tx)] s.toks (if_pos c1).symm)
 | false =>
  cases c2:(occurrences x z 0 x.length (x.length + 1)).isEmpty with
  | true=>exact call_meets F.slot_str_split (typeIs_str _ _ _) F.entry_str_split (F.args_str_split_2 _ _) (meets_str_split_not_found x z tx tz c1 z0 c2) (q [(x,tx)] s.toks ((if_neg (ne_true_of_eq_false c1)).trans (if_pos c2)).symm)
  | false =>
   refine call_meets F.slot_str_split (typeIs_str _ _ _) F.entry_str_split (F.args_str_split_2 _ _) (meets_str_split_sep x z tx tz c1 z0 c2 (by omega) rg) ?_;have e:=strsFrom_eq s.toks (partsBetween x (occurrences x z 0 x.length (x.length + 1)) z.length);have q':=q (numbered s.toks (partsBetween x (occurrences x z 0 x.length (x.length + 1)) z.length));rw [<- e] at q';exact q' _ ((numbered_texts _ _).trans ((if_neg (ne_true_of_eq_false c1)).trans (if_neg (ne_true_of_eq_false c2))).symm)
end
open PySem.SeqAt PySem.MeetsSeq PySem.MeetsSeq2 PySem.MeetsSeq3 PySem.SeqRoads2 in
def J7 (l:Addr)(items:Array Value)(n:Nat)(dd:Option Addr)(sl:Array (Option Value))(x:Value)(e:Value->Bool)(i j:Nat)(t:Tok)(hj:j < items.size)(hij:i<=j)(hsmall:(j:Int) < 2 ^ 63 - 1)
  (hit:e items[j]=true) (hno:∀ m (hm:m < items.size),i<=m->m < j->e items[m]=false) :
  Meets (Builtin.«list.index» ⟨[.ref l,x,.int (i:Int) t],[]⟩)
   (λA R s=>s.heap.get? l=some { cls:=.type "list",dict:=dd,data:=.seq items n,slots:=sl } /\ (∀ y,y∈items->EqAt A.in1 s y x (e y))/\R (.ok (.ret (.int j s.toks))) { s with toks:=s.toks + 1 }):=by
 intro prog w A R s h;obtain ⟨hp,g,d,tk,os⟩:=s;obtain ⟨hl,he,h⟩:=h
 wp_walk using wpAny_loadPart' hl
 have b1:((λq:Int=>if q < 0 then max 0 (q + (items.size:Int)) else q) ((some (i:Int)).getD 0))=((i:Nat):Int):=if_neg (Int.not_lt.mpr (Int.natCast_nonneg i));have b2:((λq:Int=>if q < 0 then max 0 (q + (items.size:Int)) else q) ((none:Option Int).getD (2 ^ 63 - 1)))=2 ^ 63 - 1:=by simp
 rw [b1,b2];refine ⟨plainId_quiet plain_index_loop _,codeAny_builtin entry_index_loop ?_⟩;rw [Around.under_plainId plain_index_loop _];exact index_loopAt l items n dd sl x e (2 ^ 63 - 1) j hj hsmall hit _ i rfl hij hno prog w A R _ ⟨hl,he,h⟩
structure nu (P:Program) (w:World) (K:W.Frag) (mg:Str->Option Value) (y:Str) (a:Addr) (kvs:List (Key×V)) (tab:List (Str×T)):Prop where
 mg:mg y=some (.ref a)
 sys:(a == sysModules)=false
 obj:∃ o es ep vs,K.lookup a=some o/\o.ExactDict/\o.data=.dict es ep/\KeysOf (zY P w) es/\Pairs (zY P w) es.toList vs/\(vs.map (·.1)).Nodup/\KV kvs vs
 rel:∀ (F:Addr->Prop) (H:Hp) (z:Str),(∀ t,tab.lookup z=some t->∃ v,jh kvs (.inr z)=some v/\Is K F H t v)/\(tab.lookup z=none->jh kvs (.inr z)=none)
def nu.of (D:nu X.prog X.w X.K X.mg y a kvs tab)(I:zj X pins σ H s):∃ vs,KV kvs vs/\s.heap.DictOf (zY X.prog X.w) a vs:=by
 obtain ⟨o,es,ep,vs,h1,h2,h3,h4,h5,h6,h7⟩:=D.obj;exact ⟨vs,h7,o,es,ep,I.kIn a o h1,h2,h3,h4,h5,h6⟩
def G3 (kvs:List (Key×V))(ty:TE):TE:=λσ H Q=>ty σ H λu H1=>∃ k v,u=kV k/\jh kvs k=some v/\Q v H1
section
variable {P:Program}{w:World}{K:W.Frag}{mg:Str->Option Value}{base:Heap}
def J8:MF:=λ_=>.bad
theorem ji.never {x:Str}{st:Stmt}{ps:List Str}{k:Nat}(F:zH K mg x st)
  (hb:∀ (kV doc pm:Value) (an:Option Addr) (cdv ct:Value) (us:List Value),us.length=ps.length->bindArgs (W.fnOf x x (jR st) (j8 st) (z6 st) .none kV doc pm an cdv ct) ⟨us,[]⟩=pure (ps.zip us)):ji P w K mg base k x ps J8:=by
 obtain ⟨f,fd,F,e⟩:=F;refine ⟨f,fd,⟨λvs H Q E h => ?_,λA outer s H args us vs Q E _ _ _ _ h => ?_⟩,e,F.kp,F.binds hb⟩
 ·obtain ⟨_,_,_,_,nb,_⟩:=h
  exact absurd rfl nb
 ·obtain ⟨_,_,_,_,nb,_⟩:=h
  exact absurd rfl nb
end
end L3
namespace L2
open PySem PySem.Spec PyProof.Rows
def bq (J:Nat->Shared->Prop)
  (one:∀ k s,J k s->wpAny (model P w) A (pyNext itv) (λr s1=>match r with
   | none=>Z (.ok .next) s1
   | some v=>wpAny (model P w) A (letOwnedTupleGo tg itv v) (λ_ s2=>wpAny (model P w) A (assign tg env v) (λ_ s3 =>
     wpAny (model P w) A (forIn ifs true λc r=>if r=true then do let ok <- isTrue c env (eval c env);pure (ForInStep.yield ok) else pure (ForInStep.yield r)) (λok s4 =>
      if ok=true then wpAny (model P w) A (eval elt env) (λy s5=>wpAny (model P w) A (call (.builtin "list.append") [acc,y]) (λ_ s6=>∃ m,m < k/\J m s6) (notedBy (model P w) A env λe z=>Z (.error e) z) s5) (notedBy (model P w) A env λe z=>Z (.error e) z) s4
      else ∃ m,m < k/\J m s4) (notedBy (model P w) A env λe z=>Z (.error e) z) s3) (notedBy (model P w) A env λe z=>Z (.error e) z) s2) (notedBy (model P w) A env λe z=>Z (.error e) z) s1) (notedBy (model P w) A env λe z=>Z (.error e) z) s)
  (k:Nat) (h:J k s):codeAny (model P w) A (.compLoop (.ListComp elt [⟨tg,iter,ifs,0⟩] scope pos) 0 itv acc env) Z s:=by
 refine codeAny_loop rfl J (λk s hJ => ?_) k h;show wpAny (model P w) A ((compTurn (.ListComp elt [⟨tg,iter,ifs,0⟩] scope pos) 0 itv acc env).onRaise λx=>do noteFrame x env;theTreesLotGoes x) _ _ s;apply wpAny_noted;rw [compTurn_list];refine wpAny_bind (wpAny_standAt (wpAny_bind (wpAny_mono (one k s hJ) (λr s1 g1 => ?_) λ_ _ z=>z)))
 cases r with
 | none=>exact wpAny_pure g1
 | some v =>
  refine wpAny_bind (wpAny_mono g1 (λ_ s2 g2 => ?_) λ_ _ z=>z);refine wpAny_bind (wpAny_mono g2 (λ_ s3 g3=>wpAny_bind (wpAny_mono g3 (λok s4 g4 => ?_) λ_ _ z=>z)) λ_ _ z=>z)
  cases ok with
  | false=>exact wpAny_pure ⟨rfl,g4⟩
  | true=>exact wpAny_bind (wpAny_bind (wpAny_mono g4 (λy s5 g5=>wpAny_bind (wpAny_mono g5 (λ_ s6 g6=>wpAny_pure (wpAny_pure ⟨rfl,g6⟩)) λ_ _ z=>z)) λ_ _ z=>z))
structure ip (X:Cx) (scope:Scope) (cl:List (Str×Addr)) (xs caps:List Str) (slots:List Nat):Prop where
 kind:scope.kind=.function
 nocell:∀ y∈scope.names,y.2≠.cell
 names:∀ y∈scope.names,y.2=.local->scope.names.lookup y.1=some .local
 clos:closureFor scope X.env=pure cl
 sub:∀ y c,cl.lookup y=some c->X.env.cells.lookup y=some c
 has:∀ y,((relabel scope X.env).names.lookup y=some .cell\/(relabel scope X.env).names.lookup y=some .free)->∃ c,cl.lookup y=some c
 cap:∀ (j:Nat) (y:Str),caps[j]? = some y->∃ k:Nat,slots[j]? = some k/\X.N[k]? = some y/\(relabel scope X.env).names.lookup y=some .cell/\X.env.scope.names.lookup y=some .cell
 nd:(xs ++ caps).Nodup
 len:slots.length=caps.length
def iq (wi:TI)(g:TG)(tt:TT)(te:TE)(n:Nat)(slots:List Nat):TE:=λσ H Q=>wi σ H λJ H1=>∀ D,H1 D=none->∃ W:Nat->Nat->List V->St->Hp->Prop,(∃ m,W 0 m [] (List.replicate n none ++ v6 σ slots) (zN H1 D (.lst []))) /\
 ∀ i m ys τ H,W i m ys τ H->H D=some (.lst ys)/\((J.stop i H/\Q (.ref D) H)\/(J.go i H/\∀ v H',J.yld i H v H'->g v τ H' λτ' H1=>tt τ' H1 λb H2 =>
  if b=true then te τ' H2 λy H3=>H3 D=some (.lst ys)/\ys.length < sizeLine/\∃ m',m' < m/\W (i + 1) m' (ys ++ [y]) τ' (zN H3 D (.lst (ys ++ [y]))) else ∃ m',m' < m/\W (i + 1) m' ys τ' H2))
def nv (I:zj X pins σ H s)(h:iq wi g tt te xs.length slots σ H Q)
  (fin:∀ D C H5 s6 m,s6.heap.Ns C m->gG X pins H5 C->(∀ h',Heap.SameBut C s6.heap h'->zj X pins σ H5 { s6 with heap:=h' })->Q (.ref D) H5->compPost (model X.prog X.w) X.A X.xe use PQ (.ref D) C (.ok .next) s6)
  (hc:X.calm=true) (S:ip X scope cl xs caps slots) (hi:PI X tg iter wi) (pg:∀ C ex pn s₀ H₀,PG (zh X scope cl C (xs ++ caps) ex pn s₀ H₀) tg g)
  (ht:∀ C ex pn s₀ H₀,o6 (zh X scope cl C (xs ++ caps) ex pn s₀ H₀) ifs tt) (he:∀ C ex pn s₀ H₀,PE (zh X scope cl C (xs ++ caps) ex pn s₀ H₀) elt te)
  (hs:∀ v,foldedSetIterable iter X.env v=pure v:=by intro _;rfl) :
  wpAny (model X.prog X.w) X.A (comprehension (.ListComp elt [⟨tg,iter,ifs,0⟩] scope pos) scope X.env cpos (newList []) false (eval iter X.env) use) PQ X.xe s:=by
 refine wpAny_comprehension_free rfl hs S.clos S.kind S.names (jg (hi pins s σ H _ I h) λv s1 h1=>jg h1 λitv s2 h2 => ?_);obtain ⟨it,fp,tn,J,H1,e,I2,T,st2,f2,q⟩:=h2;subst e
 -- the new list,at D;then the block's map,at C
 obtain ⟨W,⟨m0,w0⟩,turn⟩:=q s2.heap.objs.size (I2.hok.fresh (Nat.le_refl _));refine wpAny_newObj_type ?_ (show (0:Nat)<=sizeLine from Nat.zero_le _);have I3:zj X pins σ (zN H1 s2.heap.objs.size (.lst [])) { s2 with heap:=s2.heap.push { cls:=.type "list",data:=.seq ([]:List Value).toArray } }:=I2.lnew .nil (Nat.zero_le _)
 have f3:∀ b∈fp,gG X pins (zN H1 s2.heap.objs.size (.lst [])) b:=λb hb=>by
  obtain ⟨f0,fr⟩:=f2 b hb;obtain ⟨o,ho,_⟩:=T.obj _ _ st2 b hb;exact ⟨by rw [z8 (Nat.ne_of_lt (Heap.lt_size ho))];exact f0,fr⟩
 have st3:tn 0 (s2.heap.push { cls:=.type "list",data:=.seq ([]:List Value).toArray }):=T.keep _ _ _ st2 λb _ o e=>Heap.get?_push_of_some _ e;generalize hD:s2.heap.objs.size=D at I3 turn w0 f3 ⊢;generalize hs3:({ s2 with heap:=s2.heap.push { cls:=.type "list",data:=.seq ([]:List Value).toArray } } : Shared)=s3 at I3 ⊢;have st3:tn 0 s3.heap:=by rw [<- hs3];exact st3
 generalize hH3:zN H1 D (.lst [])=H3 at I3 w0 f3;refine wpAny_newFunctionEnv S.nocell (by intro y hy;simp at hy) (λh4 hns4 hsb4 => ?_) S.kind;generalize hC:s3.heap.objs.size=C at hns4 hsb4 ⊢;have neC:∀ b o,s3.heap.get? b=some o->b≠C:=λb o e=>by rw [<- hC];exact Nat.ne_of_lt (Heap.lt_size e)
 have old:∀ b o,s3.heap.get? b=some o->h4.get? b=some o:=λb o e=>hsb4.extBut b o (neC b o e) (Heap.get?_push_of_some _ e);have fpo:∀ b∈fp,∃ o,s3.heap.get? b=some o:=λb hb=>let ⟨o,ho,_⟩:=T.obj _ _ st3 b hb;⟨o,ho⟩
 have nst:∀ b∈fp,b∉ue X.stack:=λb hb z=>(List.mem_cons.mp (I3.stkSub b z)).elim (f3 b hb).2.1 (f3 b hb).2.2.1
 have ok:(zh X scope cl C (xs ++ caps) fp (X.pn ++ pins) s3 H3).Ok :=
  {
   mod:=I3.ok.mod
   kind:=S.kind
   glob:=I3.ok.glob
   blt:=I3.ok.blt
   above:=by rw [<- hC];exact Nat.le_refl _
   inj:=λy z c h1 h2=>I3.ok.inj y z c (S.sub y c h1) (S.sub z c h2)
   has:=λy hy=>S.has y hy
   cab:=λy c h=>nomatch (show false=true from h)
   hd:=I3.ok.hd
   frames:=I3.ok.frames
   stk:=.inl rfl
   exf:=λb hb=>⟨let ⟨o,ho⟩:=fpo b hb;neC b o ho,λy c e=>(f3 b hb).2.2.2.2.1 y c (S.sub y c e)⟩
   bs:=λb o e=>I3.bs b o e
   bsz:=Nat.le_trans I3.ok.bsz I3.sz
   noex:=λb o e hb=>by
    rcases (f3 b hb).2.2.2.1 with z | z
    ·exact I3.ok.noex b o e z
    ·exact absurd (Nat.lt_of_lt_of_le (Heap.lt_size (I3.ok.bs b o e).1) z) (Nat.lt_irrefl _)
   exfs:=nst
   funs:=I3.stack
   frf:=I3.stkFree
   tab:=I3.tab }
 have I4:∀ tk,zj (zh X scope cl C (xs ++ caps) fp (X.pn ++ pins) s3 H3) [] (List.replicate xs.length none ++ v6 σ slots) H3 { s3 with heap:=h4,toks:=tk }:=λtk=>by
  refine ⟨ok,rfl,I3.bare,Un.kept old,⟨_,hns4,λi y v h1 h2 h3 => ?_⟩,λy c e => ?_,by show H3 C=none;rw [<- hC];exact I3.hok.fresh (Nat.le_refl _),λy c e=>I3.freeC y c (S.sub y c e),λp hp => ?_,I3.hok.kept old,?_⟩
  ·have hlt:¬ i < xs.length:=λz=>by
    rw [List.getElem?_append_left (by simpa using z),List.getElem?_replicate,if_pos z] at h2;cases h2
   obtain ⟨i,rfl⟩:∃ j,i=xs.length + j:=⟨i - xs.length,by omega⟩
   have h1:(xs ++ caps)[xs.length + i]? = some y:=h1;rw [List.getElem?_append_right (by omega),Nat.add_sub_cancel_left] at h1;rw [List.getElem?_append_right (by rw [List.length_replicate];omega),List.length_replicate,Nat.add_sub_cancel_left] at h2;obtain ⟨k,hk,hN,hr,hcl⟩:=S.cap i y h1;have h2:(slots.map λk=>(σ[k]?).getD none)[i]? = some (some v):=h2;rw [List.getElem?_map,hk] at h2;have h2:(σ[k]?).getD none=some v:=Option.some.inj h2
   have h2:σ[k]? = some (some v):=by
    cases e:σ[k]? with
    | none=>rw [e] at h2;cases h2
    | some o=>rw [e] at h2;have:o=some v:=h2;rw [this]
   obtain ⟨m,hn,hl⟩:=I3.loc;obtain ⟨u,r,l⟩:=hl k y v hN h2 (.inr (.inl hcl));refine ⟨u,r,.inr ⟨.inl hr,?_⟩⟩
   rcases l with ⟨z,_⟩ | ⟨_,c,e1,⟨o,ho,hd⟩⟩
   ·have z:X.env.scope.names.lookup y=some .local:=z
    rw [hcl] at z;cases z
   ·obtain ⟨c',e2⟩:=S.has y (.inl hr)
    have e3:=S.sub y c' e2;rw [e1] at e3;cases e3;exact ⟨c,e2,o,old _ _ ho,hd⟩
  ·obtain ⟨v,o,ho,hd⟩:=I3.cell y c (S.sub y c e)
   exact ⟨v,o,old _ _ ho,hd⟩
  ·have hp:p∈(X.pn ++ pins) ++ []:=hp
   have hp:p∈X.pn ++ pins:=by simpa using hp
   obtain ⟨e,n,ne,nf,d⟩:=I3.pin p hp;exact ⟨old _ _ e,n,neC _ _ e,λz=>(List.mem_cons.mp (I3.stkSub _ z)).elim ne nf,d⟩
  ·show (List.replicate xs.length none ++ v6 σ slots).length=(xs ++ caps).length
   unfold v6;rw [List.length_append,List.length_append,List.length_map,List.length_replicate,S.len]
 have stat:∀ {H':Hp},(∀ b∈fp,H' b=none)->∀ b∈fp,gG (zh X scope cl C (xs ++ caps) fp (X.pn ++ pins) s3 H3) [] H' b:=λhn b hb =>
  ⟨hn b hb,(ok.exf b hb).1,nst b hb,.inl hb,(ok.exf b hb).2,λp hp=>(f3 b hb).2.2.2.2.2 p (by have hp:p∈(X.pn ++ pins) ++ []:=hp;simpa using hp)⟩
 have loop:∀ tk,codeAny (model X.prog X.w) X.A (.compLoop (.ListComp elt [⟨tg,iter,ifs,0⟩] scope pos) 0 (.ref it) (.ref D) (compEnvC scope cl C X.env)) (compPost (model X.prog X.w) X.A X.xe use PQ (.ref D) C) { s3 with heap:=h4,toks:=tk }:=by
  intro tk
  refine bq (λn s'=>∃ i ys τ H',zj (zh X scope cl C (xs ++ caps) fp (X.pn ++ pins) s3 H3) [] τ H' s'/\tn i s'.heap/\(∀ b∈fp,H' b=none)/\W i n ys τ H') ?_ m0
   ⟨0,[],_,H3,I4 tk,T.keep _ _ _ st3 λb _ o e=>old b o e,λb hb=>(f3 b hb).1,w0⟩
  rintro n s5 ⟨i,ys,τ,H5,I5,st5,fr5,w5⟩;obtain ⟨hDl,stop | ⟨go,step⟩⟩:=turn i n ys τ H5 w5
  ·obtain ⟨stop,qD⟩:=stop
   refine wpAny_mono (T.done (zh X scope cl C (xs ++ caps) fp (X.pn ++ pins) s3 H3) rfl rfl rfl hc i [] s5 _ H5 (λ_ _=>False) I5 (stat fr5) st5 stop) (λr s6 hr6 => ?_) λ_ _ z=>z.elim;obtain ⟨hr,I6⟩:=hr6;subst hr;obtain ⟨m,hn,_⟩:=I6.loc;refine fin D C H5 s6 m hn (I3.fpOk (by rw [<- hC];exact Nat.le_refl _) I6.free) (λh' hsb => ?_) qD
   have neC':∀ c v,H5 c=some v->c≠C:=λc v e z=>by
    have:=I6.free;have:H5 C=none:=this;rw [z,this] at e;cases e
   refine I3.call' I6.os ?_ ?_ I6.bare λb hb=>⟨(f3 b hb).2.2.2.1,(f3 b hb).2.1,(f3 b hb).2.2.2.2.1,(f3 b hb).2.2.2.2.2⟩
   ·have u:=I6.base
    exact ⟨λb o e n hb hx=>hsb.extBut b o (neC b o e) (u.keep b o e n hb hx),λb o e n hb hx=>let ⟨sl,q⟩:=u.slot b o e n hb hx;⟨sl,hsb.extBut b _ (neC b o e) q⟩,u.free,λb o e hx=>let ⟨o',q⟩:=u.there b o e hx;⟨o',hsb.extBut b _ (neC b o e) q⟩,u.tups,u.frzs,u.tbls⟩
   ·exact λb u e=>(I6.hok b u e).stay (λc v hc q=>hsb.extBut c v (hc.elim (λz=>by rw [z];exact neC' b u e) λz=>neC' c _ z) q) (λ_ q=>q) λ_ _ q=>q
  ·refine wpAny_mono (T.item (zh X scope cl C (xs ++ caps) fp (X.pn ++ pins) s3 H3) rfl rfl rfl hc i [] s5 _ H5 (λ_ _=>False) I5 (stat fr5) st5 go) (λr s6 hr6 => ?_) λ_ _ z=>z.elim
   obtain ⟨u,hr,h6⟩:=hr6;subst hr;refine wpAny_mono h6 (λ_ s7 h7 => ?_) λ_ _ z=>z.elim;obtain ⟨v,H7,I7,r7,y7,st7,fr7⟩:=h7;have I7':=I7.pinned (stat fr7) (T.obj _ _ st7);refine wpAny_mono (pg C fp (X.pn ++ pins) s3 H3 _ s7 _ H7 v u _ I7' r7 (step v H7 y7)) (λ_ s8 h8 => ?_) λ_ _ z=>z.elim;obtain ⟨σ8,H8,I8,q8⟩:=h8;refine wpAny_mono (ht C fp (X.pn ++ pins) s3 H3 _ s8 _ _ _ I8 q8) (λb s9 h9 => ?_) λ_ _ z=>z.elim;obtain ⟨H9,I9,q9⟩:=h9
   have again:∀ {o':St} {H':Hp} {s':Shared} {zs:List V} {m':Nat},zj (zh X scope cl C (xs ++ caps) fp (X.pn ++ pins) s3 H3) ([] ++ fB fp s7.heap) o' H' s'->m' < n->W (i + 1) m' zs o' H' ->
     ∃ m,m < n/\∃ i ys o H',zj (zh X scope cl C (xs ++ caps) fp (X.pn ++ pins) s3 H3) [] o H' s'/\tn i s'.heap/\(∀ b∈fp,H' b=none)/\W i m ys o H':=λ{o' H' s' zs m'} I' hm w'=>by
    refine ⟨m',hm,i + 1,zs,o',H',I'.unpinned,T.keep _ _ _ st7 λb hb o e=>(I'.pin (b,o) (List.mem_append_right _ (List.mem_append_right _ (jZ hb e)))).1,λb hb => ?_,w'⟩;obtain ⟨o,e,d⟩:=T.obj _ _ st7 b hb;exact (I'.pin (b,o) (List.mem_append_right _ (List.mem_append_right _ (jZ hb e)))).2.1
   cases b with
   | false =>
    rw [if_neg Bool.false_ne_true] at q9 ⊢;obtain ⟨m',hm,w'⟩:=q9;exact again I9 hm w'
   | true =>
    rw [if_pos rfl] at q9 ⊢;refine wpAny_mono (he C fp (X.pn ++ pins) s3 H3 _ s9 _ _ _ I9 q9) (λyv s10 h10 => ?_) λ_ _ z=>z.elim;obtain ⟨y,H10,I10,ry,hDy,hlt,m',hm,w'⟩:=h10;refine wpAny_mono (wW (X:=zh X scope cl C (xs ++ caps) fp (X.pn ++ pins) s3 H3) _ s10 _ H10 (.ref D) [y] (.ref D) [yv] (λ_ H'=>H'=zN H10 D (.lst (ys ++ [y]))) I10 rfl (.cons ry .nil) ⟨D,ys,y,rfl,rfl,hDy,hlt,rfl⟩) (λ_ s11 h11 => ?_) λ_ _ z=>z.elim;obtain ⟨_,H11,I11,_,e11⟩:=h11;subst e11;exact again I11 hm w'
 exact codeAny_compStart_list (loop _) (T.self X.A 0 _ _ _ (T.keep _ _ _ st3 λb _ o e=>old b o e) (loop _))
end L2
namespace L3
open PySem PySem.Spec PyProof.Rows L2
def uj (K:W.Frag)(F:Addr->Prop)(H:Hp)(J:It)(ts:List T):Prop :=
 ∀ F2 H2,m7 F2 H2->kg F F2 H H2->∀ i:Nat,(i < ts.length->J.go i H2/\∀ x H3,J.yld i H2 x H3->jv F2 H2 F2 H3/\∃ t,ts[i]? = some t/\Is K F2 H3 t x)/\(ts.length<=i->J.stop i H2)
def qh.two {K:W.Frag}{F:Addr->Prop}{H:Hp}{J:It}{ts:List T}(y:qh K F H J ts):uj K F H J ts:=λF2 H2 d k i=>by
 obtain ⟨a,b⟩:=y F2 H2 k i;refine ⟨λhi=>⟨(a hi).1,λx H3 z => ?_⟩,b⟩;obtain ⟨rfl,r⟩:=(a hi).2 x H3 z;exact ⟨.refl d,r⟩
def G4 (X:Cx)(wi:TI)(it:MI):Prop :=
 ∀ (B:Bs) (F:Addr->Prop) (H:Hp) (σ:St) (env:En) (R:It->Hp->Prop),zJ X.K B F H σ env->it env≠.bad ->
  (∀ ts env',it env=.ok (ts,env')->∀ J F' H',zJ X.K B F' H' σ env'->uj X.K F' H' J ts->R J H') ->
  (∀ x,it env=.exc x->∀ ev F' H',zJ X.K B F' H' σ env->Y6 X.K F' H' ev x->∀ pins s',uE X ev pins σ H' s'->X.xe ev s')->wi σ H R
def G5 (X:Cx)(tg iter:Expr)(it:MI):Prop := ∃ wi,PI X tg iter wi/\G4 X wi it
def J9 (X:Cx)(wi:TI)(it:aw):Prop :=
 ∀ (F:Addr->Prop) (H:Hp) (σ:St) (env:En) (R:It->Hp->Prop),xL X.K F H σ env->it env≠.bad ->
  (∀ ts,it env=.ok ts->∀ J F' H',jv F H F' H'->uj X.K F' H' J ts->R J H')->(∀ x,it env=.exc x->rm X F H σ x)->wi σ H R
def aH (X:Cx)(tg iter:Expr)(it:aw):Prop := ∃ wi,PI X tg iter wi/\J9 X wi it
def ba.two (h:ba X tg iter it):aH X tg iter it:=let ⟨wi,p,s⟩:=h;⟨wi,p,λF H σ env R a b c d=>s F H σ env R a b (λts e J F' H' r y=>c ts e J F' H' r y.two) d⟩
def Kh (hp:PassesOwn (model X.prog X.w) X.A X.env X.xe)(hc:X.calm=true)(hi:G5 X tg iter it)(hg:Y8 X tg g)(hb:gn X body mb)
  (hs:∀ x,foldedSetIterable iter X.env x=pure x:=by intro _;rfl):uh X (.For tg iter body [] pos) (gX it g mb):=by
 obtain ⟨wi,pi,si⟩:=hi;obtain ⟨tg',pg,sg⟩:=hg;obtain ⟨tb,pb,sb⟩:=hb;refine ⟨_,cD hp hc pi pg pb hs,?_⟩;intro B F H σ env D R w;unfold gX at w;refine si B F H σ env _ R (λz=>by rw [z] at w;exact w) (λts env' e J F1 H1 R1 Y => ?_) λx e ev F' H' R' i pins s' I=>by rw [e] at w;exact w ev F' H' σ R' i pins s' I
 rw [e] at w;dsimp only at w;have f1:=R1.fr;refine ⟨λi m σ H=>m=ts.length - i/\i<=ts.length/\∃ F env,zJ X.K (B.at_ F1 H1) F H σ env/\kQ X B D (wk g mb (ts.drop i) env),⟨ts.length,by simp,Nat.zero_le _,F1,env',R1.rebase,by simpa using w⟩,?_⟩;rintro i m σ2 H2 ⟨rfl,hi,F2,env2,R2,w2⟩;obtain ⟨yg,ys⟩:=Y F2 H2 R2.fr.dom R2.fr.kept i
 by_cases hlt:i < ts.length
 ·obtain ⟨go,yl⟩:=yg hlt
  refine .inr ⟨go,λσ' H'=>∃ F env,zJ X.K (B.at_ F1 H1) F H' σ' env/\kQ X B D (wk g mb (ts.drop (i + 1)) env),λσ' H' ⟨F',e',R',w'⟩=>⟨ts.length - (i + 1),by omega,rfl,hlt,F',e',R',w'⟩,λx H3 y => ?_⟩;obtain ⟨xt,t,ht,it⟩:=yl x H3 y;have R2:=R2.ext xt
  have hd:ts.drop i=t :: ts.drop (i + 1):=by
   rw [List.drop_eq_getElem_cons hlt];have:ts[i]? = some ts[i]:=by simp [hlt]
   rw [this] at ht;cases ht
   rfl
  rw [hd,wk] at w2
  cases hg:g t env2 with
  | none=>rw [hg] at w2;exact w2.elim
  | some e1 =>
   rw [hg] at w2;dsimp only at w2;refine sg _ F2 H3 σ2 env2 e1 x t _ R2 it hg λσ3 R3 => ?_;refine sb _ F2 H3 σ3 e1 _ R3 ?_
   cases ho:mb e1 with
   | nx e2=>rw [ho] at w2;exact λF4 H4 σ4 R4=>⟨F4,e2,R4,w2⟩
   | ct e2=>rw [ho] at w2;exact λF4 H4 σ4 R4=>⟨F4,e2,R4,w2⟩
   | bk e2=>rw [ho] at w2;exact λF4 H4 σ4 R4=>w2 F4 H4 σ4 (R4.unbase f1)
   | rt r=>rw [ho] at w2;exact λv F4 H4 R4=>w2 v F4 H4 (R4.unbase f1)
   | exc x e2=>rw [ho] at w2;exact λev F4 H4 σ4 R4=>w2 ev F4 H4 σ4 (R4.unbase f1)
   | bad=>rw [ho] at w2;exact w2.elim
 ·have hl:i=ts.length:=by omega
  subst hl;rw [List.drop_length] at w2;exact .inl ⟨ys (Nat.le_refl _),w2 F2 H2 σ2 (R2.unbase f1)⟩
def xZ (mg:MG)(mt:MT)(me:ME):En->List T->vX (List T)
 | _,[]=>.ok []
 | env,t :: ts=>match mg t env with
  | none=>.bad
  | some e1=>match mt (hide e1) with
   | .ok true=>(match me (hide e1) with
    | .ok r=>(match xZ mg mt me (hide e1) ts with
     | .ok rs=>.ok (r.2 :: rs)
     | _=>.bad)
    | _=>.bad)
   | .ok false=>xZ mg mt me (hide e1) ts
   | _=>.bad
def vJ (it:aw)(mg:MG)(mt:MT)(me:ME)(n:Nat)(slots:List Nat):ME:=λenv=>(it env).bind λts=>if ts.length<=sizeLine then (match xZ mg mt me (List.replicate n none ++ (qb env slots).map u5) ts with
 | .ok rs=>.ok (true,.lst rs)
 | _=>.bad) else .bad
def oH (env:En):∀ (i:Nat) (t:T),(hide env)[i]?≠some (some (true,t)):=λi t h=>by
 obtain ⟨u,e,_⟩:=db h;cases e
def xL.stm {K:W.Frag}{F:Addr->Prop}{H:Hp}{σ:St}{env:En}(R:xL K F H σ env)(hl:env.length=σ.length)(hn:∀ (i:Nat) (t:T),env[i]?≠some (some (true,t))):zJ K ⟨λ_=>False,H,F⟩ F H σ env :=
 ⟨⟨R.dom,λ_ h=>h,λ_ h=>.inl h,λ_ _ h _=>h,λ_ _ z=>z⟩,hl,λi t h=>R.vals i (false,t) h,λi t h=>absurd h (hn i t),λi j t t' a h _ _ _=>absurd h (hn i t)⟩
section
variable {X:Cx}{scope:Scope}{cl:List (Str×Addr)}{xs caps:List Str}{slots:List Nat}{iter elt tg:Expr}{ifs:List Expr}{pos:Pos}{it:aw}{mg:MG}{mt:MT}{me:ME}
def PY (X:Cx)(scope:Scope)(cl:List (Str×Addr))(N:List Str)(ifs:List Expr)(m:MT):Prop := ∃ t,∀ C ex pn s₀ H₀,o6 (zh X scope cl C N ex pn s₀ H₀) ifs t/\ag (zh X scope cl C N ex pn s₀ H₀) t m
def UT (X:Cx)(scope:Scope)(cl:List (Str×Addr))(N:List Str)(e:Expr)(m:ME):Prop := ∃ t,∀ C ex pn s₀ H₀,PE (zh X scope cl C N ex pn s₀ H₀) e t/\l6 (zh X scope cl C N ex pn s₀ H₀) t m
def UU (X:Cx)(scope:Scope)(cl:List (Str×Addr))(N:List Str)(e:Expr)(m:MG):Prop := ∃ g,∀ C ex pn s₀ H₀,PG (zh X scope cl C N ex pn s₀ H₀) e g/\K1 (zh X scope cl C N ex pn s₀ H₀) g m
theorem Ja (h:∀ C ex pn s₀ H₀,jm (zh X scope cl C N ex pn s₀ H₀) e m):UT X scope cl N e m:=by
 refine ⟨λσ H Q=>∀ C ex pn s₀ H₀,∃ t,PE (zh X scope cl C N ex pn s₀ H₀) e t/\t σ H Q,λC ex pn s₀ H₀=>⟨λpins s σ H Q I w => ?_,λF H σ env Q R nb ok exx C' ex' pn' s₀' H₀' => ?_⟩⟩
 ·obtain ⟨t,p,w⟩:=w C ex pn s₀ H₀
  exact p pins s σ H Q I w
 ·obtain ⟨t,p,s⟩:=h C' ex' pn' s₀' H₀'
  exact ⟨t,p,s F H σ env Q R nb ok λy z=>(exx y z).elim⟩
theorem Jb (h:∀ C ex pn s₀ H₀,i8 (zh X scope cl C N ex pn s₀ H₀) ifs m):PY X scope cl N ifs m:=by
 refine ⟨λσ H Q=>∀ C ex pn s₀ H₀,∃ t,o6 (zh X scope cl C N ex pn s₀ H₀) ifs t/\t σ H Q,λC ex pn s₀ H₀=>⟨λpins s σ H Q I w => ?_,λF H σ env Q R nb ok exx C' ex' pn' s₀' H₀' => ?_⟩⟩
 ·obtain ⟨t,p,w⟩:=w C ex pn s₀ H₀
  exact p pins s σ H Q I w
 ·obtain ⟨t,p,s⟩:=h C' ex' pn' s₀' H₀'
  exact ⟨t,p,s F H σ env Q R nb ok λy z=>(exx y z).elim⟩
theorem Jc (h:∀ C ex pn s₀ H₀,Y8 (zh X scope cl C N ex pn s₀ H₀) e m):UU X scope cl N e m:=by
 refine ⟨λv σ H Q=>∀ C ex pn s₀ H₀,∃ g,PG (zh X scope cl C N ex pn s₀ H₀) e g/\g v σ H Q,λC ex pn s₀ H₀=>⟨λpins s σ H v u Q I rv w => ?_,λB F H σ env env' v t Q R iv e q C' ex' pn' s₀' H₀' => ?_⟩⟩
 ·obtain ⟨g,p,w⟩:=w C ex pn s₀ H₀
  exact p pins s σ H v u Q I rv w
 ·obtain ⟨g,p,s⟩:=h C' ex' pn' s₀' H₀'
  exact ⟨g,p,s B F H σ env env' v t Q R iv e q⟩
theorem Jd {K:W.Frag}{F:Addr->Prop}{H:Hp}{σ:St}{env:En}{n:Nat}(R:xL K F H σ env):xL K F H (List.replicate n none ++ v6 σ slots) (List.replicate n none ++ (qb env slots).map u5):=by
 refine ⟨R.dom,λi r h => ?_⟩
 have hlt:¬ i < n:=λz=>by
  rw [List.getElem?_append_left (by simpa using z),List.getElem?_replicate,if_pos z] at h;cases h
 obtain ⟨i,rfl⟩:∃ j,i=n + j:=⟨i - n,by omega⟩
 rw [List.getElem?_append_right (by rw [List.length_replicate];omega),List.length_replicate,Nat.add_sub_cancel_left] at h;rw [List.getElem?_append_right (by rw [List.length_replicate];omega),List.length_replicate,Nat.add_sub_cancel_left];rw [List.getElem?_map] at h;unfold qb at h;rw [List.getElem?_map] at h
 cases hk:slots[i]? with
 | none=>rw [hk] at h;cases h
 | some k =>
  rw [hk] at h;have h:u5 ((env[k]?).getD none)=some r:=Option.some.inj h
  cases e:env[k]? with
  | none=>rw [e] at h;cases h
  | some o =>
   rw [e] at h
   cases o with
   | none=>cases h
   | some q =>
    obtain ⟨b,t⟩:=q;cases h;obtain ⟨w,sw,q⟩:=R.vals k (b,t) e;refine ⟨w,?_,q⟩;unfold v6;rw [List.getElem?_map,hk];show some ((σ[k]?).getD none)=some (some w);rw [sw]
    rfl
theorem Je:(List.replicate n none ++ (qb env slots).map u5:En).length=(List.replicate n none ++ v6 σ slots:St).length:=by simp [qb,v6]
theorem Jf:∀ (i:Nat) (t:T),(List.replicate n none ++ (qb env slots).map u5:En)[i]?≠some (some (true,t)):=λi t h=>by
 by_cases z:i < n
 ·rw [List.getElem?_append_left (by simpa using z),List.getElem?_replicate,if_pos z] at h
  cases h
 ·rw [List.getElem?_append_right (by rw [List.length_replicate];omega),List.getElem?_map] at h
  cases e:(qb env slots)[i - (List.replicate n (none:Option RV)).length]? with
  | none=>rw [e] at h;cases h
  | some o =>
   rw [e] at h
   cases o with
   | none=>cases h
   | some q=>obtain ⟨b,u⟩:=q;cases h
theorem lg {wi:TI}{g:TG}{tt:TT}{te:TE}(si:J9 X wi it)(sg:K1 (zh X scope cl 0 (xs ++ caps) [] [] X.s₀ X.H₀) g mg)(st:ag (zh X scope cl 0 (xs ++ caps) [] [] X.s₀ X.H₀) tt mt)(se:l6 (zh X scope cl 0 (xs ++ caps) [] [] X.s₀ X.H₀) te me) :
  xE X (iq wi g tt te xs.length slots) (vJ it mg mt me xs.length slots):=by
 intro F H σ env Q RE nb ok exx;unfold vJ at nb ok exx;refine si F H σ env _ RE (λz=>by rw [z] at nb;exact nb rfl) (λts e1 J F1 H1 x1 Y => ?_) λx z=>exx x (by rw [z];rfl);rw [e1,bind_ok] at nb ok
 by_cases hl:ts.length<=sizeLine
 ·rw [if_pos hl] at nb ok
  have R0:xL X.K F1 H1 (List.replicate xs.length none ++ v6 σ slots) (List.replicate xs.length none ++ (qb env slots).map u5):=Jd (RE.mono x1);have L0:=Je (slots:=slots) (σ:=σ) (env:=env) (n:=xs.length);have N0:=Jf (slots:=slots) (env:=env) (n:=xs.length);generalize (List.replicate xs.length none ++ (qb env slots).map u5:En)=env0 at R0 L0 N0 nb ok
  cases hcl:xZ mg mt me env0 ts with
  | bad=>rw [hcl] at nb;exact absurd rfl nb
  | exc y=>rw [hcl] at nb;exact absurd rfl nb
  | ok out =>
   rw [hcl] at ok;intro D hD
   refine ⟨λi m ys τ H=>m=ts.length - i/\i<=ts.length/\ys.length<=i/\H D=some (.lst ys)/\∃ Fc us rest en,¬ Fc D/\jv F1 H1 Fc H/\IsAll X.K Fc H us ys/\xL X.K Fc H τ en/\en.length=τ.length/\(∀ (i:Nat) (t:T),en[i]?≠some (some (true,t)))/\xZ mg mt me en (ts.drop i)=.ok rest/\us ++ rest=out,
    ⟨ts.length,by simp,Nat.zero_le _,Nat.le_refl _,zi,F1,[],out,env0,λf=>x1.dom D f hD,jv.alloc x1.dom hD,IsAll.nil,R0.mono (jv.alloc x1.dom hD),L0,N0,by simpa using hcl,rfl⟩,?_⟩
   rintro i m ys τ H2 ⟨rfl,hi,hyl,hHD,Fc,us,rest,en,nD,xc,iu,RC,LC,NC,hrest,hout⟩;refine ⟨hHD,?_⟩;obtain ⟨yg,ysp⟩:=Y Fc H2 RC.dom xc.kept i
   by_cases hlt:i < ts.length
   ·obtain ⟨go,yl⟩:=yg hlt
    refine .inr ⟨go,λv H3 y => ?_⟩;obtain ⟨xt,t,hti,iv⟩:=yl v H3 y;have hHD:=xt.same D _ hHD;have xc:=xc.trans xt;have iu:=iu.mono xt.kept;have RC:=RC.mono xt
    have hd:ts.drop i=t :: ts.drop (i + 1):=by
     rw [List.drop_eq_getElem_cons hlt];have:ts[i]? = some ts[i]:=by simp [hlt]
     rw [this] at hti;cases hti
     rfl
    rw [hd,xZ] at hrest
    cases hg:mg t en with
    | none=>rw [hg] at hrest;cases hrest
    | some e2 =>
    rw [hg] at hrest;dsimp only at hrest;refine sg _ Fc H3 τ en e2 v t _ (RC.stm LC NC) iv hg λτ' R' => ?_;have RH:xL X.K Fc H3 τ' (hide e2):=R'.hid
    have LH:(hide e2).length=τ'.length:=by
     unfold hide;rw [List.length_map];exact R'.len
    have NH:=oH e2;generalize hide e2=en2 at RH LH NH hrest
    have keepD:∀ {F':Addr->Prop} {H':Hp},jv Fc H3 F' H'->¬ F' D/\H' D=some (.lst ys):=by
     intro F' H' xt;refine ⟨λf => ?_,xt.same D _ hHD⟩
     rcases xt.new D f with f | f
     ·exact nD f
     ·rw [hHD] at f;cases f
    refine st Fc H3 _ _ _ RH (λz=>by rw [z] at hrest;cases hrest) (λb eb F4 H4 x4 => ?_) λy z=>by rw [z] at hrest;cases hrest
    rw [eb] at hrest
    cases b with
    | false =>
     rw [if_neg Bool.false_ne_true];dsimp only at hrest;obtain ⟨n4,d4⟩:=keepD x4;exact ⟨ts.length - (i + 1),by omega,rfl,hlt,by omega,d4,F4,us,rest,en2,n4,xc.trans x4,iu.mono x4.kept,RH.mono x4,LH,NH,hrest,hout⟩
    | true =>
     rw [if_pos rfl];dsimp only at hrest;refine se.val (RH.mono x4) (λz=>by rw [z] at hrest;cases hrest) (λr er w F5 H5 x5 iw => ?_) λy z=>by rw [z] at hrest;cases hrest
     rw [er] at hrest;dsimp only at hrest
     cases hcl2:xZ mg mt me en2 (ts.drop (i + 1)) with
     | bad=>rw [hcl2] at hrest;cases hrest
     | exc y=>rw [hcl2] at hrest;cases hrest
     | ok rest2 =>
      rw [hcl2] at hrest;have hr:r.2 :: rest2=rest:=by injection hrest
      obtain ⟨n5,d5⟩:=keepD (x4.trans x5);have x15:=(xc.trans x4).trans x5;have ku:kg F5 F5 H5 (zN H5 D (.lst (ys ++ [w]))):=xy n5 d5 (.inl ⟨_,rfl⟩)
      have xu:jv F1 H1 F5 (zN H5 D (.lst (ys ++ [w]))):=by
       refine ⟨λa o h => ?_,x15.sub,x15.new,λa f => ?_⟩
       ·rw [z8 (zD h hD)];exact x15.same a o h
       ·have:a≠D:=by rintro rfl;exact n5 f
        rw [z8 this];exact x15.dom a f
      have R5:xL X.K F5 H5 τ' en2:=(RH.mono x4).mono x5;refine ⟨d5,by omega,ts.length - (i + 1),by omega,rfl,hlt,by rw [List.length_append];simp;omega,zi,F5,us ++ [r.2],rest2,en2,n5,xu,?_,⟨xu.dom,λj q h => ?_⟩,LH,NH,hcl2,by rw [<- hout,<- hr];simp⟩
      ·exact ((iu.mono (x4.trans x5).kept).append (IsAll.cons iw IsAll.nil)).mono ku
      ·obtain ⟨v',s',i'⟩:=R5.vals j q h
       exact ⟨v',s',i'.mono ku⟩
   ·have hli:i=ts.length:=by omega
    subst hli;rw [List.drop_length,xZ] at hrest;have hr:rest=[]:=by injection hrest with hrest;exact hrest.symm
    subst hr;rw [List.append_nil] at hout;subst hout;refine .inl ⟨ysp (Nat.le_refl _),?_⟩;refine ok _ rfl _ Fc H2 (x1.trans xc) ?_;unfold wq;rw [if_pos rfl];exact ⟨D,rfl,nD,jK x1.same hD,ys,hHD,iu⟩
 ·rw [if_neg hl] at nb
  exact absurd rfl nb
end
end L3
namespace L2
open PySem PySem.Spec PyProof.Rows
def uK.more (S:uK X scope cl x caps slots)(nd:(xs ++ caps).Nodup):ip X scope cl xs caps slots:=⟨S.kind,S.nocell,S.names,S.clos,S.sub,S.has,S.cap,nd,S.len⟩
def Jg (hc:X.calm=true)(S:ip X scope cl xs caps slots)(hi:PI X tg iter wi)(pg:∀ C ex pn s₀ H₀,PG (zh X scope cl C (xs ++ caps) ex pn s₀ H₀) tg g)
  (ht:∀ C ex pn s₀ H₀,o6 (zh X scope cl C (xs ++ caps) ex pn s₀ H₀) ifs tt) (he:∀ C ex pn s₀ H₀,PE (zh X scope cl C (xs ++ caps) ex pn s₀ H₀) elt te)
  (hs:∀ v,foldedSetIterable iter X.env v=pure v):PE X (.ListComp elt [⟨tg,iter,ifs,0⟩] scope pos) (iq wi g tt te xs.length slots):=by
 intro pins s σ H Q I h;rw [eval_ListComp];exact nv (use:=none) I h (λD C H5 s6 m hn f keep q=>⟨m,hn,λh' hsb=>⟨.ref D,H5,keep h' hsb,rfl,q⟩⟩) hc S hi pg ht he hs
def Jh (hN:X.N.Nodup)(hi':X.N[i]? = some y)(hy:mI X.env.scope y)(hc:X.calm=true)(S:ip X scope cl xs caps slots)(hi:PI X tg iter wi)(pg:∀ C ex pn s₀ H₀,PG (zh X scope cl C (xs ++ caps) ex pn s₀ H₀) tg g)
  (ht:∀ C ex pn s₀ H₀,o6 (zh X scope cl C (xs ++ caps) ex pn s₀ H₀) ifs tt) (he:∀ C ex pn s₀ H₀,PE (zh X scope cl C (xs ++ caps) ex pn s₀ H₀) elt te)
  (hsw:swapsWith (.ListComp elt [⟨tg,iter,ifs,0⟩] scope pos) (some (.Name y py)) spos.line X.env=pure true)
  (hs:∀ v,foldedSetIterable iter X.env v=pure v) (hf:X.fn y=true\/X.env.scope.names.lookup y=some .local) :
  PS X (.Assign [.Name y py] (.ListComp elt [⟨tg,iter,ifs,0⟩] scope pos) spos) (lG (iq wi g tt te xs.length slots) (wd i)):=by
 intro pins s σ H D I h;rw [exec_Assign_Name_used _ _ _ _ hsw];refine wpAny_bind (wpAny_standAt (wpAny_bind ?_));show wpAny _ X.A (do let _ <- comprehension (.ListComp elt [⟨tg,iter,ifs,0⟩] scope pos) scope X.env _ (newList []) false (eval iter X.env) (some (assign (.Name y py) X.env))) _ _ s;refine wpAny_bind (wpAny_mono (nv (use:=some (assign (.Name y py) X.env)) (PQ:=λ_ s'=>∃ σ' H',zj X pins σ' H' s'/\D.nx σ' H') I h (λDa C H5 s6 m hn f inv q => ?_) hc S hi pg ht he hs) (λ_ s' hq=>wpAny_pure (wpAny_pure hq)) λ_ _ e=>e);show wpAny _ X.A (assign (.Name y py) X.env (.ref Da)) _ _ s6;have I6:zj X pins σ H5 s6:=inv s6.heap (Heap.SameBut.refl _ _);obtain ⟨o,es,ep,ho,hd,hr⟩:=hn;have I6':=I6.pinned (fp:=[C]) (λb hb=>by rw [List.mem_singleton.mp hb];exact f) (λb hb=>by rw [List.mem_singleton.mp hb];exact ⟨o,ho,λv z=>by rw [hd] at z;cases z⟩);have pg:PG X (.Name y py) (wd i):=ke hN hi' hy hf;refine wpAny_mono (pg _ s6 _ H5 (.ref Da) (.ref Da) D.nx I6' rfl q) (λ_ s8 h8 => ?_) λ_ _ z=>z;obtain ⟨σ8,H8,I8,q8⟩:=h8;have hp:=I8.pin (C,o) (List.mem_append_right _ (List.mem_append_right _ (jZ (List.mem_singleton.mpr rfl) ho)));exact ⟨m,⟨o,es,ep,hp.1,hd,hr⟩,λh' hsb=>⟨σ8,H8,I8.unpinned.dropC ⟨hp.2.1,f.2⟩ hsb,q8⟩⟩
end L2
namespace L3
open PySem PySem.Spec PyProof.Rows L2
section
variable {X:Cx}{L:Addr}{scope:Scope}{x:Str}{xs caps:List Str}{slots:List Nat}{iter elt tg:Expr}{ifs:List Expr}{pos:Pos}{it:aw}{mg:MG}{mt:MT}{me:ME}
theorem aI (hc:X.calm=true)(C:j9 X.N X.env.scope scope x caps slots)(nd:(xs ++ caps).Nodup)(hcl:X.env.cells=cellsFrom L X.env.scope.names [])(hi:aH X tg iter it)(hg:∀ cl C ex pn s₀ H₀,Y8 (zh X scope cl C (xs ++ caps) ex pn s₀ H₀) tg mg)
  (ht:∀ cl C ex pn s₀ H₀,i8 (zh X scope cl C (xs ++ caps) ex pn s₀ H₀) ifs mt) (he:∀ cl C ex pn s₀ H₀,jm (zh X scope cl C (xs ++ caps) ex pn s₀ H₀) elt me)
  (hs:∀ v,foldedSetIterable iter X.env v=pure v:=by intro _;rfl):jm X (.ListComp elt [⟨tg,iter,ifs,0⟩] scope pos) (vJ it mg mt me xs.length slots):=by
 obtain ⟨cl,S⟩:=f8 C hcl;obtain ⟨wi,pi,si⟩:=hi;obtain ⟨g,hg⟩:=Jc (hg cl);obtain ⟨tt,ht⟩:=Jb (ht cl);obtain ⟨te,he⟩:=Ja (he cl)
 exact ⟨_,Jg hc (S.more nd) pi (λC ex pn s₀ H₀=>(hg C ex pn s₀ H₀).1) (λC ex pn s₀ H₀=>(ht C ex pn s₀ H₀).1) (λC ex pn s₀ H₀=>(he C ex pn s₀ H₀).1) hs,
  lg si (hg 0 [] [] X.s₀ X.H₀).2 (ht 0 [] [] X.s₀ X.H₀).2 (he 0 [] [] X.s₀ X.H₀).2⟩
theorem Xj (hN:X.N.Nodup)(hi':X.N[i]? = some y)(hy:mI X.env.scope y)(hc:X.calm=true)(C:j9 X.N X.env.scope scope x caps slots)(nd:(xs ++ caps).Nodup)(hcl:X.env.cells=cellsFrom L X.env.scope.names [])(hi:aH X tg iter it)(hg:∀ cl C ex pn s₀ H₀,Y8 (zh X scope cl C (xs ++ caps) ex pn s₀ H₀) tg mg)
  (ht:∀ cl C ex pn s₀ H₀,i8 (zh X scope cl C (xs ++ caps) ex pn s₀ H₀) ifs mt) (he:∀ cl C ex pn s₀ H₀,jm (zh X scope cl C (xs ++ caps) ex pn s₀ H₀) elt me)
  (hsw:swapsWith (.ListComp elt [⟨tg,iter,ifs,0⟩] scope pos) (some (.Name y py)) spos.line X.env=pure true:=by rfl)
  (hs:∀ v,foldedSetIterable iter X.env v=pure v:=by intro _;rfl) (hf:X.fn y=true\/X.env.scope.names.lookup y=some .local:=by first | exact .inl rfl | exact .inr rfl | assumption) :
  uh X (.Assign [.Name y py] (.ListComp elt [⟨tg,iter,ifs,0⟩] scope pos) spos) (zo i (vJ it mg mt me xs.length slots)):=by
 obtain ⟨cl,S⟩:=f8 C hcl;obtain ⟨wi,pi,si⟩:=hi;obtain ⟨g,hg⟩:=Jc (hg cl);obtain ⟨tt,ht⟩:=Jb (ht cl);obtain ⟨te,he⟩:=Ja (he cl);have s:=lg (slots:=slots) (xs:=xs) (caps:=caps) si (hg 0 [] [] X.s₀ X.H₀).2 (ht 0 [] [] X.s₀ X.H₀).2 (he 0 [] [] X.s₀ X.H₀).2;refine ⟨_,Jh (i:=i) hN hi' hy hc (S.more nd) pi (λC ex pn s₀ H₀=>(hg C ex pn s₀ H₀).1) (λC ex pn s₀ H₀=>(ht C ex pn s₀ H₀).1) (λC ex pn s₀ H₀=>(he C ex pn s₀ H₀).1) hsw hs hf,?_⟩;intro B F H σ env D R w;unfold zo at w;refine s.run R (λr env' e v F' H' R' i' old _ => ?_) (λx e ev F' H' R' i pins s' I => ?_) λe => ?_
 ·rw [e] at w;exact w F' H' _ (R'.put i i' (λa q=>zC R.fr q) old)
 ·rw [e] at w;exact w ev F' H' σ R' i pins s' I
 ·rw [e] at w;exact w
end
section
variable {P:Program}{w:World}{K:W.Frag}{h:Heap}{mg:Str->Option Value}{y:Str}{a:Addr}
abbrev mq:=Str×Tok×Value×V×T
theorem gq:∀ rows:List mq,Pairs (zY P w) (rows.map λr=>(⟨Yf w (.inr r.1),.str r.1 r.2.1,r.2.2.1⟩:DictEntry)) (rows.map λr=>((.inr r.1:Key),r.2.2.1))
 | []=>.nil
 | r :: rows=>.cons (vn P w r.1 r.2.1) rfl (gq rows)
theorem iA:∀ {rows:List mq},(∀ r∈rows,RelV r.2.2.2.1 r.2.2.1)->KV (rows.map λr=>((.inr r.1:Key),r.2.2.2.1)) (rows.map λr=>((.inr r.1:Key),r.2.2.1))
 | [],_=>.nil
 | r :: rows,h=>.cons ⟨rfl,h r List.mem_cons_self⟩ (iA λx hx=>h x (List.mem_cons_of_mem _ hx))
theorem dD (z:Str):∀ {rows:List mq},(∀ r∈rows,Is K F H r.2.2.2.2 r.2.2.2.1) ->
  (∀ t,(rows.map λr=>(r.1,r.2.2.2.2)).lookup z=some t->∃ v,jh (rows.map λr=>((.inr r.1:Key),r.2.2.2.1)) (.inr z)=some v/\Is K F H t v)/\((rows.map λr=>(r.1,r.2.2.2.2)).lookup z=none->jh (rows.map λr=>((.inr r.1:Key),r.2.2.2.1)) (.inr z)=none)
 | [],_=>⟨λt h=>(by cases h),λ_=>rfl⟩
 | r :: rows,h=>by
  have ih:=dD z λx hx=>h x (List.mem_cons_of_mem _ hx)
  by_cases e:z=r.1
  ·subst e
   have e1:jh ((r :: rows).map λr=>((.inr r.1:Key),r.2.2.2.1)) (.inr r.1)=some r.2.2.2.1:=by simp [jh]
   have e2:((r :: rows).map λr=>(r.1,r.2.2.2.2)).lookup r.1=some r.2.2.2.2:=by simp
   rw [e1,e2];exact ⟨λt ht=>(by cases ht;exact ⟨_,rfl,h r List.mem_cons_self⟩),λz=>(by cases z)⟩
  ·have e1:jh ((r :: rows).map λr=>((.inr r.1:Key),r.2.2.2.1)) (.inr z)=jh (rows.map λr=>((.inr r.1:Key),r.2.2.2.1)) (.inr z):=by
    have:¬ (Sum.inr r.1:Key)=.inr z:=λq=>e (Sum.inr.inj q).symm;simp [jh,this]
   have e2:((r :: rows).map λr=>(r.1,r.2.2.2.2)).lookup z=(rows.map λr=>(r.1,r.2.2.2.2)).lookup z:=by
    simp [List.lookup,beq_eq_false_iff_ne.mpr e]
   rw [e1,e2];exact ih
theorem Wq (rows:List mq)(X:K.In h)(G:h.Ns mainGlobals mg)(g:W.nsIn K mainGlobals y=some (some (.ref a)))(l:K.lookup a=some ⟨.type "dict",none,.dict es ep,#[]⟩)
  (he:es.toList=rows.map λr=>(⟨Yf w (.inr r.1),.str r.1 r.2.1,r.2.2.1⟩:DictEntry)) (hs:(a == sysModules)=false) (nd:(rows.map (·.1)).Nodup) (hr:∀ r∈rows,RelV r.2.2.2.1 r.2.2.1) (hi:∀ (F:Addr->Prop) (H:Hp),∀ r∈rows,Is K F H r.2.2.2.2 r.2.2.2.1) :
  ∃ a kvs,nu P w K mg y a kvs (rows.map λr=>(r.1,r.2.2.2.2)):=by
 refine ⟨a,_,W.mg_of X G g,hs,⟨_,es,ep,_,l,⟨rfl,rfl,rfl⟩,rfl,λe he' => ?_,?_,?_,iA hr⟩,λF H z=>dD z (hi F H)⟩
 ·have:e∈es.toList:=by simpa using he'
  rw [he] at this;obtain ⟨r,_,rfl⟩:=List.mem_map.mp this;exact ⟨.inr r.1,vn P w r.1 r.2.1,rfl⟩
 ·rw [he]
  exact gq rows
 ·unfold List.Nodup at nd ⊢
  rw [List.pairwise_map] at nd;rw [List.map_map,List.pairwise_map];exact nd.imp λhab z=>hab (Sum.inr.inj z)
end
def qQ (t u:T):Option RV:=match t with
 | .int _=>(match u with
  | .bl _=>some (false,.bl false)
  | u=>cY t u)
 | t=>cY t u
def lh {X:Cx} : vm X (compareOp .Is) (rT X.K qQ):=by
 intro pins s σ H x y v u Q I rx ry h;obtain ⟨F,tx,ty,rv,d,ix,iy,e,q⟩:=h;have old:cY tx ty=some rv->wpAny (model X.prog X.w) X.A (compareOp .Is v u) (EP X pins σ Q) X.xe s:=λe=>PH pins s σ H x y v u Q I rx ry ⟨F,tx,ty,rv,d,ix,iy,e,q⟩;cases tx
 case int i =>
  cases ty
  case bl b =>
   cases e;unfold Is at ix iy;subst ix iy;obtain ⟨t,rfl⟩:=rx;cases ry;exact wpAny_is_plain rfl ⟨.bl false,H,I,rfl,flat d xr q rfl⟩
  all_goals exact old e
 all_goals exact old e
def iB {Q:mq->Prop} : ∀ r∈([]:List mq),Q r:=λ_ h=>nomatch h
def ja {Q:mq->Prop}{r:mq}{rows:List mq}(h:Q r)(t:∀ r∈rows,Q r):∀ x∈r :: rows,Q x:=λx hx=>(List.mem_cons.mp hx).elim (λe=>e ▸ h) (t x)
def oI (i:Nat)(m:ME):MS:=λenv=>match env[i]? with
 | some (some (true,.lst _))=>(match jw m env with
  | .ok (r,env')=>(match env'[i]? with
   | some (some (true,.lst ts))=>(match r with
    | (true,.lst us)=>if ts.length + us.length<=sizeLine then .nx (env'.set i (some (true,.lst (ts ++ us)))) else .bad
    | _=>.bad)
   | _=>.bad)
  | .exc x=>.exc x env
  | .bad=>.bad)
 | _=>.bad
def Wr {i:Nat}{st:Stmt}(he:jm X e m)(hp:∀ te,PE X e te->PS X st (bQ (Pu X.K "list" bZ (xD i) (rZ te Vr)))):uh X st (oI i m):=by
 obtain ⟨te,pe,se⟩:=he;refine ⟨_,hp te pe,?_⟩;intro B F H σ env D R w;unfold oI at w
 split at w
 ·rename_i ts0 hi
  obtain ⟨a,s,nf,fr,vs,hH,iv⟩:=R.owns i _ hi;refine ⟨.ref a,s,.inl ⟨rfl,vs,.inl (.inl hH)⟩,?_⟩;refine se.run R (λr env' er v F' H' R' iv' old kp => ?_) (λx er ev F' H' R' ix pins s' I => ?_) λer => ?_
  ·rw [er] at w
   dsimp only at w
   split at w
   ·rename_i ts' hi'
    split at w
    ·rename_i us
     split at w
     ·rename_i hl
      obtain ⟨b,rfl,nfb,hb0,_,zs,hB,iz⟩:=iv'.there rfl;obtain ⟨a',s',nf',fr',vs',hH',iv2⟩:=R'.owns i _ hi';rw [s] at s';cases s';refine ⟨a,b,vs',zs,rfl,rfl,hH',hB,by rw [<- iv2.len,<- iz.len];exact hl,?_⟩;refine w F' _ σ (R'.mut hi' s ⟨vs' ++ zs,zi,?_⟩);exact (iv2.append iz).mono (xy nf' hH' (.inl ⟨_,rfl⟩))
     ·exact w.elim
    ·exact w.elim
   ·exact w.elim
  ·rw [er] at w;exact w ev F' H' σ R' ix pins s' I
  ·rw [er] at w;exact w
 ·exact w.elim
instance (i j:Int):Decidable (tJ i j):=by unfold tJ;infer_instance
def ny:T->T->Option RV
 | .int i,.int j=>if tJ i j then some (false,.int (i ^ j.toNat)) else none
 | _,_=>none
section
variable {X:Cx}
theorem dE:vm X (binaryOp .Pow) (rT X.K ny):=by
 intro pins s σ H x y v u Q I rx ry h;obtain ⟨F,tx,ty,rv,d,ix,iy,e,q⟩:=h;cases tx<;>cases ty<;>simp only [ny,reduceCtorEq] at e
 case int.int i j =>
  unfold Is at ix iy;subst ix iy
  split at e<;>cases e
  rename_i hc;exact Vm pins s σ H _ _ v u Q I rx ry ⟨i,j,rfl,rfl,hc,flat d x8 q rfl⟩
end
def dF (t u:T):Option RV:=match t with
 | .bl a=>(match u with
  | .bl b=>some (false,.bl (a != b))
  | u=>l7 t u)
 | t=>l7 t u
section
variable {X:Cx}
theorem Ji:vm X (compareOp .IsNot) (rT X.K dF):=by
 intro pins s σ H x y v u Q I rx ry h;obtain ⟨F,tx,ty,rv,d,ix,iy,e,q⟩:=h;have old:l7 tx ty=some rv->wpAny (model X.prog X.w) X.A (compareOp .IsNot v u) (EP X pins σ Q) X.xe s:=λe=>QM pins s σ H x y v u Q I rx ry ⟨F,tx,ty,rv,d,ix,iy,e,q⟩;cases tx
 case bl a =>
  cases ty
  case bl b =>
   cases e;unfold Is at ix iy;subst ix iy;cases rx;cases ry;refine wpAny_isNot_plain rfl ⟨.bl (a != b),H,I,?_,flat d xr q rfl⟩;cases a<;>cases b<;>rfl
  all_goals exact old e
 all_goals exact old e
end
end L3
namespace L3
open PySem PySem.Spec PyProof.Rows PySem.W L2
def jx:Nat->List T->List T
 | _,[]=>[]
 | n,t :: ts=>.tup [.int n,t] :: jx (n + 1) ts
theorem pf:∀ (n:Nat) (ts:List T),(jx n ts).length=ts.length
 | _,[]=>rfl
 | n,t :: ts=>congrArg (· + 1) (pf (n + 1) ts)
theorem dG:∀ (n:Nat) (ts:List T) (i:Nat),(jx n ts)[i]? = ts[i]?.map λt=>.tup [.int ((n + i:Nat):Int),t]
 | _,[],i=>by simp [jx]
 | n,t :: ts,0=>by simp [jx]
 | n,t :: ts,i + 1=>by
  rw [jx,List.getElem?_cons_succ,List.getElem?_cons_succ,dG (n + 1) ts i];simp only [Nat.add_assoc,Nat.add_comm 1 i]
theorem pL {K:W.Frag}{F:Addr->Prop}{H:Hp}{a:Addr}{vs:List V}{ts:List T}(g1:rh K F H a vs)(g2:IsAll K F H ts vs):uj K F H (PU K a) (jx 0 ts):=by
 intro F2 H2 d k i;have h1:=g1.mono k;have h2:=g2.mono k;have hl:=h2.len;rw [pf];refine ⟨λhi=>⟨⟨vs,vs[i],h1.sq,by simp [<- hl,hi]⟩,λx H3 y => ?_⟩,λhi=>⟨vs,h1.sq,by omega⟩⟩;obtain ⟨p,z,hp,rfl,rfl,hx⟩:=y;obtain ⟨v,hv,iv⟩:=h2.get (i:=i) (t:=ts[i]) (by simp [hi]);rw [hx vs h1.sq] at hv;cases hv;have x:=jv.alloc d (o:=.tup [.int i,z]) hp;refine ⟨x,_,by rw [dG,List.getElem?_eq_getElem hi];rfl,?_⟩;unfold Is;exact ⟨p,_,rfl,.inl (.inl zi),IsAll.cons (by rw [Nat.zero_add];exact x8) (IsAll.cons (iv.mono x.kept) IsAll.nil)⟩
def li (m:ME):MI:=λenv=>match jw m env with
 | .ok (r,env')=>(match r.2 with
  | .lst ts=>.ok (jx 0 ts,env')
  | _=>.bad)
 | .exc x=>.exc x
 | .bad=>.bad
theorem Ki {elts:List Expr}{k:Nat}{tp p pos:Pos}{l:Expr}{m:ME}(hg:Gl X "enumerate")(hm:X.mg "enumerate" = none)(h:jm X l m)(hs:starEach [l] X.env=[(false,eval l X.env)]:=by rfl):G5 X (.Tuple elts k tp) (.Call (.Name "enumerate" p) [l] [] pos) (li m):=by
 obtain ⟨tl,pl,sl⟩:=h;refine ⟨_,ik hg hm pl hs,?_⟩;intro B F H σ env R RS nb ok ex;unfold li at nb ok ex;refine sl.run RS (λr env1 er v F' H' R' iv old kp => ?_) (λx er=>by rw [er] at ex;exact ex x rfl) (λer=>by rw [er] at nb;exact nb rfl);rw [er] at nb ok;dsimp only at nb ok;obtain ⟨F2,R2,i2,_⟩:=R'.freeze iv (λa q=>zC RS.fr q) old;obtain ⟨o,t⟩:=r;cases t<;>try exact absurd rfl nb
 case lst us =>
  unfold Is at i2;obtain ⟨a,vs,rfl,g1,g2⟩:=i2;exact ⟨a,rfl,⟨vs,g1.sq⟩,ok _ _ rfl _ F2 H' R2 (pL g1 g2)⟩
def nz (m:ME):aw:=λenv=>(m env).bind λr=>match r.2 with
 | .lst ts=>.ok (jx 0 ts)
 | _=>.bad
theorem Xk {elts:List Expr}{k:Nat}{tp p pos:Pos}{l:Expr}{m:ME}(hg:Gl X "enumerate")(hm:X.mg "enumerate" = none)(h:jm X l m)(hs:starEach [l] X.env=[(false,eval l X.env)]:=by rfl):aH X (.Tuple elts k tp) (.Call (.Name "enumerate" p) [l] [] pos) (nz m):=by
 obtain ⟨tl,pl,sl⟩:=h;refine ⟨_,ik hg hm pl hs,?_⟩;intro F H σ env R RE nb ok ex;unfold nz at nb ok ex;refine sl.val RE (λz=>by rw [z] at nb;exact nb rfl) (λr1 e1 v1 F1 H1 x1 i1 => ?_) λx z=>ex x (by rw [z];rfl);rw [e1,bind_ok] at nb ok;obtain ⟨o,t⟩:=r1;dsimp only at nb ok i1;cases t<;>try exact absurd rfl nb
 case lst us =>
  unfold Is at i1;obtain ⟨a,vs,rfl,g1,g2⟩:=i1;exact ⟨a,rfl,⟨vs,g1.sq⟩,ok _ rfl _ F1 H1 x1 (pL g1 g2)⟩
structure aJ (P:Program) (w:World) (K:W.Frag) (mg:Str->Option Value) (y:Str) (a:Addr) (kvs:List (Key×V)) (tab:List (Str×Str)):Prop where
 at_:mg y=some (.ref a)
 obj:∃ o es ep vs,K.lookup a=some o/\o.ExactDict/\o.data=.dict es ep/\KeysOf (zY P w) es/\Pairs (zY P w) es.toList vs/\(vs.map (·.1)).Nodup/\KV kvs vs
 rel:∀ z x,tab.lookup z=some x->∃ fa,mg x=some (.ref fa)/\jh kvs (.inr z)=some (.ref fa)
theorem Xl (D:aJ X.prog X.w X.K X.mg y a kvs tab)(hg:Gl X y)(hi:PE X i ty)(hs:Z7 i)(hd:(y == ("__debug__" : Str))=false):PE X (.Subscript (.Name y p) i pos) (G3 kvs ty):=by
 intro pins s σ H Q I h;refine a7 PySem.F.slot_dict_getitem.lookup hs (jg (kb (v:=.ref a) hg D.at_ rfl hd pins s σ H (λx H1=>x=.ref a/\H1=H) I ⟨rfl,rfl⟩) λu s1 ⟨x,H1,I1,rx,ex,eH⟩ => ?_);subst ex eH;obtain rfl:u=Value.ref a:=rx;refine jg (hi pins s1 σ H1 _ I1 h) λiv s2 ⟨z,H2,I2,rz,k,v,ez,ev,q⟩ => ?_;subst ez;obtain ⟨o,es,ep,vs,h1,h2,h3,h4,h5,h6,rel⟩:=D.obj;have dd:s2.heap.DictOf (zY X.prog X.w) a vs:=⟨o,es,ep,I2.kIn a o h1,h2,h3,h4,h5,h6⟩
 obtain ⟨w',hw,rw'⟩:=qe.some_of (by rw [<- ev];exact rel.val k);exact ⟨dd.typeIs,wpAny_getItem_of (uC rz) dd.mapOf hw ⟨v,H2,I2.tok _,rw',q⟩⟩
def Kj (X:Cx)(j n:Nat)(t:TA):TE:=λσ H Q=>∃ fa k fd ps sp,(σ.length=X.N.length->σ[j]? = some (some (.ref fa)))/\xR X.prog X.w X.K X.mg X.base (nZ X.prog X.w) k fa fd ps sp/\k<=n/\W.keepIn X.K (.ref fa)=true/\kJ X.K fd ps []/\b9 X sp t σ H Q
theorem Jj {x:Str}{p:Pos}(hr:jV n X.A)(hx:PE X (.Name x p) (xD j))(ha:PA X (e :: es) t)(he:starEach (e :: es) X.env=(false,eval e X.env) :: starEach es X.env:=by rfl)(hpl:(backTo pos (starEach es X.env)).any (·.1)=false:=by rfl) :
  PE X (.Call (.Name x p) (e :: es) [] pos) (Kj X j n t):=by
 intro pins s σ H Q I h;obtain ⟨fa,k,fd,ps,sp,hσ,F,hk,kp,hb,h⟩:=h;refine wpAny_Call_Name_kw (jg (hx pins s σ H (λv H'=>v=.ref fa/\H'=H) I ⟨_,hσ I.len,rfl,rfl⟩) λu s0 ⟨v,H0,I0,r0,ev,eH⟩ => ?_);subst ev eH;obtain rfl:u=Value.ref fa:=r0;refine W.callWith_K I0.ok.mod.kin kp (jg (ha pos pins s0 σ H0 _ I0 h) λus s1 ⟨vs,H1,I1,r,E,q,hx⟩=>⟨I1.kIn,?_⟩) he hpl;exact ap F (hr.mono hk) hb I1 r q λe oa H' z s' I'=>hx e oa H' z pins s' I'
theorem zJ.skip {K:W.Frag}{B:Bs}{F:Addr->Prop}{H:Hp}{σ:St}{env:En}(R:zJ K B F H σ env)(j:Nat)(v:V):zJ K B F H (σ.set j (some v)) (env.set j none):=by
 have hs:∀ {i:Nat} {r:RV},(env.set j none)[i]? = some (some r)->env[i]? = some (some r)/\(σ.set j (some v))[i]? = σ[i]? := λ{i r} h=>by
  rcases x9 h with ⟨_,_,z⟩ | ⟨hj,h⟩
  ·cases z
  ·exact ⟨h,List.getElem?_set_ne (Ne.symm hj)⟩
 refine ⟨R.fr,by rw [List.length_set,List.length_set];exact R.len,λi t h => ?_,λi t h => ?_,λi k t t' a h g s1 s2 => ?_⟩
 ·rw [(hs h).2];exact R.vals i t (hs h).1
 ·rw [(hs h).2];exact R.owns i t (hs h).1
 ·rw [(hs h).2] at s1;rw [(hs g).2] at s2;exact R.sep i k t t' a (hs h).1 (hs g).1 s1 s2
def nB (z:Str):List (Str×MF)->Option MF
 | []=>none
 | r :: rs=>if z=r.1 then some r.2 else nB z rs
def nC (j:Nat)(tab:List (Str×MF))(mk:ME)(ma:MA):MS:=λenv=>match jw mk env with
 | .ok (r,env')=>(match r.2 with
  | .str z=>(match nB z tab with
   | some f=>zl (z7 f ma) (env'.set j none)
   | none=>.bad)
  | _=>.bad)
 | .exc x=>.exc x env
 | .bad=>.bad
theorem Xm (s:xE X t m):VX X (Qi t) (zl m):=by
 intro B F H σ env D R w;unfold zl at w;refine s.run R (λr env' e v F' H' R' i _ _ => ?_) (λx e ev F' H' R' i pins s' I => ?_) λe => ?_
 ·rw [e] at w
  refine w v F' H' ⟨R'.fr,?_⟩;unfold wq at i ⊢
  split
  ·rename_i ho
   rw [if_pos ho] at i;obtain ⟨a,e,nf,fr,o⟩:=i;exact ⟨a,e,nf,zC R.fr fr,o⟩
  ·rename_i ho
   rw [if_neg ho] at i;exact i
 ·rw [e] at w
  exact w ev F' H' σ R' i pins s' I
 ·rw [e] at w
  exact w
def Jk (X:Cx)(n:Nat)(fs:List (Str×Str)):List (Str×MF)->Prop
 | []=>True
 | r :: rs=>(∃ x ps k,fs.lookup r.1=some x/\ji X.prog X.w X.K X.mg X.base k x ps r.2/\k<=n)/\Jk X n fs rs
theorem dH {X:Cx}{n:Nat}{fs:List (Str×Str)}{z:Str}{f:MF} : ∀ {rs:List (Str×MF)},Jk X n fs rs->nB z rs=some f->∃ x ps k,fs.lookup z=some x/\ji X.prog X.w X.K X.mg X.base k x ps f/\k<=n
 | [],_,h=>by cases h
 | r :: rs,g,h=>by
  unfold nB at h
  split at h
  ·rename_i e;cases h;rw [e];exact g.1
  ·exact dH g.2 h
theorem Kk {y x:Str}{i:Expr}{p p1 p2 p3 pos pos2 pos3:Pos}{fs:List (Str×Str)}{tab:List (Str×MF)}(j:Nat)(D:∃ a kvs,aJ X.prog X.w X.K X.mg y a kvs fs)(hr:jV n X.A)(hF:Jk X n fs tab)(hg:Gl X y)(hi:jm X i mk)(hp:PG X (.Name x p1) (wd j))(hx:PE X (.Name x p2) (xD j))(ha:Zz X (e :: es) ma)
  (hj:X.N[j]? = some x:=by rfl) (hs:Z7 i:=by intro _ _;rfl) (hd:(y == ("__debug__" : Str))=false:=by decide) (he:starEach (e :: es) X.env=(false,eval e X.env) :: starEach es X.env:=by rfl) (hpl:(backTo pos2 (starEach es X.env)).any (·.1)=false:=by rfl)
  (hs1:swapsWithSole [.Name x p1] (.Subscript (.Name y p) i pos) p3.line X.env=pure false:=by rfl) (hw:swappedStores [.Name x p1] (.Subscript (.Name y p) i pos) X.env=pure none:=by rfl) (h1:(assignEach [.Name x p1] X.env).map (·.2)=[assign (.Name x p1) X.env]:=by rfl) :
  gn X [.Assign [.Name x p1] (.Subscript (.Name y p) i pos) p3,.Return (some (.Call (.Name x p2) (e :: es) [] pos2)) pos3] (nC j tab mk ma):=by
 obtain ⟨a,kvs,D⟩:=D;obtain ⟨ti,pi,si⟩:=hi;obtain ⟨ta,pa,sa⟩:=ha;refine ⟨_,w9 (cz (Xl D hg pi hs hd) hp hs1 hw h1) (kc (lF (Jj hr hx pa he hpl))),?_⟩;intro B F H σ env E R w;unfold nC at w;refine si.run R (λr env' er v F' H' R' iv' old kp => ?_) (λx er ev F' H' R' ix pins s' I => ?_) λer => ?_
 ·rw [er] at w
  obtain ⟨o,t⟩:=r;dsimp only at w;cases t<;>try exact w.elim
  case str z =>
   dsimp only at w
   cases o with
   | true=>obtain ⟨_,_,_,_,_,z⟩:=iv'.there rfl;exact z.elim
   | false =>
    have iv':=iv'.is;unfold Is at iv';subst iv'
    cases hf:nB z tab with
    | none=>rw [hf] at w;exact w.elim
    | some f =>
     rw [hf] at w;dsimp only at w;obtain ⟨nm,ps,k,hfs,⟨fa,fd,FK,hm,hkp,hb⟩,hk⟩:=dH hF hf;obtain ⟨fa',hm',hv⟩:=D.rel z nm hfs;rw [hm] at hm';cases hm';refine ⟨.inr z,.ref fa,rfl,hv,?_⟩;exact ⟨fa,k,fd,ps,_,λhl=>List.getElem?_set_self (by rw [List.length_set] at hl;rw [hl];exact (List.getElem?_eq_some_iff.mp hj).1),FK,hk,hkp,hb,Xm (l8 sa) B F' H' _ _ E (R'.skip j _) w⟩
 ·rw [er] at w;exact w ev F' H' σ R' ix pins s' I
 ·rw [er] at w;exact w
abbrev dI:=Str×Tok×Addr×Str
theorem Kl {Q:dI->Prop} : ∀ r∈([]:List dI),Q r:=λ_ h=>nomatch h
theorem xO {Q:dI->Prop}{r:dI}{rows:List dI}(h:Q r)(t:∀ r∈rows,Q r):∀ x∈r :: rows,Q x:=λx hx=>(List.mem_cons.mp hx).elim (λe=>e ▸ h) (t x)
def G6 (r:dI):mq:=(r.1,r.2.1,.ref r.2.2.1,.ref r.2.2.1,.non)
theorem Jl {mg:Str->Option Value}(z x:Str):∀ {rows:List dI},(∀ r∈rows,mg r.2.2.2=some (.ref r.2.2.1))->(rows.map λr=>(r.1,r.2.2.2)).lookup z=some x->∃ fa,mg x=some (.ref fa)/\jh ((rows.map G6).map λr=>((.inr r.1:Key),r.2.2.2.1)) (.inr z)=some (.ref fa)
 | [],_,h=>by cases h
 | r :: rows,g,h=>by
  by_cases e:z=r.1
  ·subst e
   rw [List.map_cons,List.lookup_cons_self] at h;cases h;exact ⟨_,g r List.mem_cons_self,by simp [jh,G6]⟩
  ·have e2:((r :: rows).map λr=>(r.1,r.2.2.2)).lookup z=(rows.map λr=>(r.1,r.2.2.2)).lookup z:=by
    simp [List.lookup,beq_eq_false_iff_ne.mpr e]
   rw [e2] at h;obtain ⟨fa,h1,h2⟩:=Jl z x (λq hq=>g q (List.mem_cons_of_mem _ hq)) h;have:¬ (Sum.inr r.1:Key)=.inr z:=λq=>e (Sum.inr.inj q).symm;exact ⟨fa,h1,by rw [<- h2];simp [jh,G6,this]⟩
theorem G7 {P:Program}{w:World}{K:W.Frag}{h:Heap}{mg:Str->Option Value}{y:Str}{a:Addr}(rows:List dI)(X:K.In h)(G:h.Ns mainGlobals mg)(g:W.nsIn K mainGlobals y=some (some (.ref a)))(l:K.lookup a=some ⟨.type "dict",none,.dict es ep,#[]⟩)
  (he:es.toList=(rows.map G6).map λr=>(⟨Yf w (.inr r.1),.str r.1 r.2.1,r.2.2.1⟩:DictEntry)) (nd:(rows.map (·.1)).Nodup) (hr:∀ r∈rows,W.nsIn K mainGlobals r.2.2.2=some (some (.ref r.2.2.1))) :
  ∃ a kvs,aJ P w K mg y a kvs (rows.map λr=>(r.1,r.2.2.2)):=by
 refine ⟨a,_,W.mg_of X G g,⟨_,es,ep,_,l,⟨rfl,rfl,rfl⟩,rfl,λe he' => ?_,?_,?_,iA (rows:=rows.map G6) λr hr => ?_⟩,λz x=>Jl z x λr q=>W.mg_of X G (hr r q)⟩
 ·have:e∈es.toList:=by simpa using he'
  rw [he] at this;obtain ⟨r,_,rfl⟩:=List.mem_map.mp this;exact ⟨.inr r.1,vn P w r.1 r.2.1,rfl⟩
 ·rw [he]
  exact gq _
 ·unfold List.Nodup at nd ⊢
  rw [List.pairwise_map] at nd;rw [List.map_map,List.pairwise_map,List.pairwise_map];exact nd.imp λhab z=>hab (Sum.inr.inj z)
 ·obtain ⟨q,_,rfl⟩:=List.mem_map.mp hr
  rfl
end L3
namespace L3
open PySem PySem.Spec PyProof.Rows L2 PySem.W
def Km (P:Program)(w:World)(K:Frag)(mg:Str->Option Value)(base:Heap)(x:Str)(C:Addr):Prop :=
 ∃ fI fd a b,tW K C fI/\xR P w K mg base (nZ P w) 1 fI fd [a,b] (VF K fI)/\mg x=some (.ref C)/\kJ K fd [a,b] []
def gr (C:Addr)(m:ME):MS:=λenv=>match jw m env with
 | .ok (r,env')=>(match r.1 with
  | false=>.exc ⟨C,r.2⟩ env'
  | true=>.bad)
 | .exc x=>.exc x env
 | .bad=>.bad
theorem Xn {X:Cx}{x:Str}{C:Addr}{arg:Expr}{m:ME}{p pos pos2:Pos}(hC:Km X.prog X.w X.K X.mg X.base x C)(hr:jV 2 X.A)(hg:Gl X x)(h:jm X arg m)(hdb:(x == ("__debug__" : Str))=false:=by decide)(he:starEach [arg] X.env=[(false,eval arg X.env)]:=by rfl) :
  uh X (.Raise (some (.Call (.Name x p) [arg] [] pos)) none pos2) (gr C m):=by
 obtain ⟨fI,fd,a,b,XC,F,hm,hb⟩:=hC;obtain ⟨t,pe,se⟩:=h;refine ⟨_,Zb XC F hr hg hm hb (λouter H s e s' ⟨_,_,_,_,_,_,_,z⟩=>z) (xK pe vH he) hdb he,?_⟩;intro B F H σ env D R w;unfold gr at w
 cases hq:jw m env with
 | bad=>rw [hq] at w;exact w.elim
 | exc x0 =>
  rw [hq] at w;refine se.run R (λr env' er=>by rw [hq] at er;cases er) (λx' er ev F' H' R' i pins s' I => ?_) (by rw [hq];intro z;cases z);rw [hq] at er;cases er;exact w ev F' H' σ R' i pins s' I
 | ok q =>
  obtain ⟨⟨o,t0⟩,env'⟩:=q;rw [hq] at w;dsimp only at w
  cases o with
  | true=>exact w.elim
  | false =>
   refine se.run R (λr env1 er v F' H' R' iv old kp => ?_) (λx er=>by rw [hq] at er;cases er) (by rw [hq];intro z;cases z);rw [hq] at er;cases er;refine ⟨v,rfl,λe d n1 n2 ne pins s' I => ?_⟩;have x1:jv F' H' F' (zN H' e (.xob C d)):=jv.alloc R'.fr.dom n1;have x2:jv F' (zN H' e (.xob C d)) F' (zN (zN H' e (.xob C d)) d (.xd [("at",v)])):=jv.alloc x1.dom (by rw [z8 ne];exact n2);have x:=x1.trans x2;refine w _ F' _ σ (R'.ext x) ⟨e,rfl,?_⟩ pins s' I;unfold Is;exact ⟨e,d,v,rfl,by rw [z8 ne.symm,zi],zi,iv.is.mono x.kept⟩
theorem zJ.unset {K:Frag}{B:Bs}{F:Addr->Prop}{H:Hp}{σ:St}{env:En}(R:zJ K B F H σ env)(i:Nat):zJ K B F H (σ.set i none) (env.set i none):=by
 have hs:∀ j,j≠i->(σ.set i none)[j]? = σ[j]? := λj hj=>List.getElem?_set_ne (Ne.symm hj)
 have no:∀ {j:Nat} {r:RV},(env.set i none)[j]? = some (some r)->j≠i/\env[j]? = some (some r):=λe=>by
  rcases x9 e with ⟨rfl,hl,er⟩ | ⟨hj,e⟩
  ·cases er
  ·exact ⟨hj,e⟩
 refine ⟨R.fr,by rw [List.length_set,List.length_set];exact R.len,λj t e => ?_,λj t e => ?_,λj k t t' a e1 e2 s1 s2 => ?_⟩
 ·rw [hs j (no e).1];exact R.vals j t (no e).2
 ·rw [hs j (no e).1];exact R.owns j t (no e).2
 ·rw [hs j (no e1).1] at s1;rw [hs k (no e2).1] at s2;exact R.sep j k t t' a (no e1).2 (no e2).2 s1 s2
def bindE (nm:Option Nat)(t:T)(env:En):En:=match nm with
 | none=>env
 | some i=>env.set i (some (false,t))
def finE (nm:Option Nat)(env:En):En:=match nm with
 | none=>env
 | some i=>env.set i none
def Xo (nm:Option Nat):b7->b7
 | .nx e=>.nx (finE nm e)
 | .bk e=>.bk (finE nm e)
 | .ct e=>.ct (finE nm e)
 | .rt r=>.rt r
 | _=>.bad
def qY (tab:List Addr)(nm:Option Nat)(mb mh:MS):MS:=λenv=>match mb env with
 | .exc x env'=>if x.C∈tab then Xo nm (mh (bindE nm (.exn x.C x.at_) env')) else .bad
 | o=>o
theorem zJ.bindE {K:Frag}{B:Bs}{F:Addr->Prop}{H:Hp}{σ:St}{env:En}{t:T}{v:V}(nm:Option Nat)(R:zJ K B F H σ env)(h:Is K F H t v):zJ K B F H (We nm v σ) (bindE nm t env):=by
 cases nm with
 | none=>exact R
 | some i=>exact R.put (H:=H) i (je h) (λa q=>zC R.fr q) λa z=>(R.own_not z).2.1
theorem zJ.finE {K:Frag}{B:Bs}{F:Addr->Prop}{H:Hp}{σ:St}{env:En}(nm:Option Nat)(R:zJ K B F H σ env):zJ K B F H (YB nm σ) (finE nm env):=by
 cases nm with
 | none=>exact R
 | some i=>exact R.unset i
theorem kQ.fin {X:Cx}{B:Bs}{D:gf}{nm:Option Nat}{ev:Value} : ∀ {o:b7},kQ X B D (Xo nm o)->kQ (X.hdl ev) B (D.beh nm) o
 | .nx _,w=>λF H σ R=>w F H _ (R.finE nm)
 | .bk _,w=>λF H σ R=>w F H _ (R.finE nm)
 | .ct _,w=>λF H σ R=>w F H _ (R.finE nm)
 | .rt _,w=>w
 | .exc _ _,w=>w.elim
 | .bad,w=>w.elim
theorem _root_.L2.FlyN.sub {n:Nat}{ps qs:List (Addr×Obj)}{H:Hp}{ev:Value}{h:Heap}(f:FlyN ps n H ev h)(s:∀ p∈qs,p∈ps):FlyN qs n H ev h:=by
 obtain ⟨e,oe,vs,a,b,c,d,g,r⟩:=f;exact ⟨e,oe,vs,a,b,c,d,g,r.imp id λ⟨T,oT,ts,q1,q2,q3,q5,q4⟩=>⟨T,oT,ts,q1,q2,q3,λp z=>q5 p (s p z),q4⟩⟩
theorem Jm {X:Cx}{body:List Stmt}{b0:Stmt}{bs:List Stmt}{cn:Str}{C2:Addr}{nmS:Option Str}{nm:Option Nat}{tab:List Addr}{mb mh:MS}{p pos pos2:Pos}(hst:X.stack=X.env :: X.outer)(hfm:X.env.frame=some X.env.locals)
  (hg:Gl X cn) (hm:X.mg cn=some (.ref C2)) (ht:∀ C∈tab,exmOne X.K (.ref C) (.ref C2)=some true) (hn:VH X nmS nm)
  (hb:∀ ps E,gn (X.wx ps E) body mb) (hh:∀ ev,gn (X.hdl ev) (b0 :: bs) mh) (hdb:(cn == ("__debug__" : Str))=false:=by decide) :
  uh X (.Try body [.ExceptHandler (some (.Name cn p)) nmS (b0 :: bs) pos] [] [] pos2) (qY tab nm mb mh):=by
 refine ⟨_,YC,?_⟩;intro B F H σ env D R w pins;obtain ⟨t,pb,sb⟩:=hb pins (a9 X pins D [.ExceptHandler (some (.Name cn p)) nmS (b0 :: bs) pos]);refine ⟨t,pb,sb B F H σ env D R ?_⟩;unfold qY at w
 cases ho:mb env with
 | nx e=>rw [ho] at w;exact w
 | bk e=>rw [ho] at w;exact w
 | ct e=>rw [ho] at w;exact w
 | rt r=>rw [ho] at w;exact w
 | bad=>rw [ho] at w;exact w
 | exc x env' =>
  rw [ho] at w;dsimp only at w
  by_cases hC:x.C∈tab
  ·rw [if_pos hC] at w
   intro ev F1 H1 σ1 R1 ix pins' s' ⟨I,fl⟩;obtain ⟨e,rfl,i0⟩:=ix;have i1:=i0;unfold Is at i1;obtain ⟨e1,d,v,ee,h1,h2,h3⟩:=i1;cases ee;unfold a9;refine eM (X:=X.wx pins (a9 X pins D [.ExceptHandler (some (.Name cn p)) nmS (b0 :: bs) pos])) I hst hfm h1 fl λh' J fl' => ?_;obtain ⟨th,ph,sh⟩:=hh (.ref e);refine tY J.ofWx h1 h2 (fl'.sub λq z => ?_) hg hm (ht _ hC) hn hdb ph (sh B F1 H1 _ _ _ (R1.bindE nm i0) w.fin);exact List.mem_append_left _ z
  ·rw [if_neg hC] at w
   exact w.elim
def oJ (tab:List Addr)(m:ME):ME:=λenv=>(m env).bind λr=>match r.2 with
 | .exn C t=>if C∈tab then .ok (false,t) else .bad
 | _=>.bad
theorem G8 {X:Cx}{e:Expr}{m:ME}{tab:List Addr}{pos:Pos}(ht:∀ C∈tab,Wf X.K C)(h:jm X e m)(hb:attributeBase e "at" X.env (eval e X.env)=eval e X.env:=by rfl):jm X (.Attribute e "at" pos) (oJ tab m):=by
 obtain ⟨t,pe,se⟩:=h;refine ⟨_,VJ pe hb,?_⟩;intro F H σ env Q R nb ok ex;unfold oJ at nb ok ex;refine se.val R (λz=>by rw [z] at nb;exact nb rfl) (λr e1 v F1 H1 x1 i1 => ?_) λx z=>ex x (by rw [z];rfl);rw [e1,bind_ok] at nb ok;obtain ⟨bb,t0⟩:=r;dsimp only at nb ok i1;cases t0<;>dsimp only at nb ok<;>try (exact absurd rfl nb)
 case exn C t1 =>
  by_cases hC:C∈tab
  ·rw [if_pos hC] at ok
   unfold Is at i1;obtain ⟨e,d,v1,rfl,h1,h2,h3⟩:=i1;exact ⟨e,C,d,_,v1,rfl,h1,h2,ht C hC,rfl,ok _ rfl _ F1 H1 x1 (je h3)⟩
  ·rw [if_neg hC] at nb;exact absurd rfl nb
def mw (tab:List (Addr×Bool))(m:ME):ME:=λenv=>(m env).bind λr=>match r.2 with
 | .exn C _=>(match Kf C tab with
  | some b=>.ok (false,.bl b)
  | none=>.bad)
 | _=>.bad
def PZ (c:V)(tab:List (Addr×Bool)):List V->Hp->VK->Prop:=λxs H Q=>∃ e C d fs b,xs=[.ref e,c]/\H e=some (.xob C d)/\H d=some (.xd fs)/\Kf C tab=some b/\Q (.bl b) H
theorem Kn {X:Cx}{tab:List (Addr×Bool)}{c:V}{c':Value}(rc:∀ u,RelV c u->u=c')(ht:∀ p∈tab,Wf X.K p.1/\kitOne X.K (.ref p.1) c'=some p.2):we X (.builtin "isinstance") (PZ c tab):=by
 intro pins s σ H xs us Q I r h;obtain ⟨e,C,d,fs,b,rfl,h1,h2,hl,q⟩:=h;obtain ⟨u,u2,rfl,ru,ru2⟩:=Wa r;obtain rfl:u=Value.ref e:=ru;rw [rc u2 ru2];obtain ⟨R,k⟩:=ht _ (aG hl);exact VL I h1 h2 R k λtk=>⟨.bl b,H,I.tok _,rfl,q⟩
theorem Jn {X:Cx}{tab:List (Addr×Bool)}{c:V}{c':Value}{e:Expr}{m:ME}{x:Str}{p p2 pos:Pos}(hg:Gl X "isinstance")(hm:X.mg "isinstance" = none)(pc:PE X (.Name x p2) (tC c))(rc:∀ u,RelV c u->u=c')(ht:∀ p∈tab,Wf X.K p.1/\kitOne X.K (.ref p.1) c'=some p.2)(h:jm X e m)
  (hs:starEach (e :: [.Name x p2]) X.env=(false,eval e X.env) :: starEach [.Name x p2] X.env:=by rfl) (hs2:starEach [.Name x p2] X.env=(false,eval (.Name x p2) X.env) :: starEach [] X.env:=by rfl) (hpl:(backTo pos (starEach [.Name x p2] X.env)).any (·.1)=false:=by rfl) :
  jm X (.Call (.Name "isinstance" p) [e,.Name x p2] [] pos) (mw tab m):=by
 obtain ⟨t,pe,se⟩:=h;refine ⟨_,eC (Kn rc ht) hg hm zM (xK pe (xK pc vH hs2) hs) (he:=hs) (hpl:=hpl),?_⟩;intro F H σ env Q R nb ok ex;unfold mw at nb ok ex;refine se.val R (λz=>by rw [z] at nb;exact nb rfl) (λr e1 v F1 H1 x1 i1 => ?_) λx z=>ex x (by rw [z];rfl);rw [e1,bind_ok] at nb ok;obtain ⟨bb,t0⟩:=r;dsimp only at nb ok i1;cases t0<;>dsimp only at nb ok<;>try (exact absurd rfl nb)
 case exn C t1 =>
  cases hl:Kf C tab with
  | none=>rw [hl] at nb;exact absurd rfl nb
  | some b =>
   rw [hl] at ok;unfold Is at i1;obtain ⟨e,d,v1,rfl,h1,h2,h3⟩:=i1;exact ⟨e,C,d,_,b,rfl,h1,h2,hl,ok _ rfl _ F1 H1 x1 (je xr)⟩
def Ko (kvs:List (Key×V))(ty tx:TE):TE:=λσ H Q=>ty σ H λu H1=>tx σ H1 λz H2=>∃ k,u=kV k/\Q ((jh kvs k).getD z) H2
theorem Jo {X:Cx}{y:Str}{a:Addr}{kvs:List (Key×V)}{tab:List (Str×T)}{e f:Expr}{ty tx:TE}{p apos cpos:Pos}(D:nu X.prog X.w X.K X.mg y a kvs tab)(hg:Gl X y)(he:PE X e ty)(hf:PE X f tx)(m:M2 X (.Name y p) "get" apos e f cpos)(hd:(y == ("__debug__" : Str))=false) :
  PE X (.Call (.Attribute (.Name y p) "get" apos) [e,f] [] cpos) (Ko kvs ty tx):=by
 intro pins s σ H Q I h;refine wpAny_Call_method m.base m.few m.line PySem.F.plainAttrs_dict PySem.F.slot_dict_get PySem.F.type_dict_get (jg (kb (v:=.ref a) hg D.mg rfl hd pins s σ H (λx H1=>x=.ref a/\H1=H) I ⟨rfl,rfl⟩) λu s1 ⟨x,H1,I1,rx,ex,eH⟩ => ?_);subst ex eH;obtain rfl:u=Value.ref a:=rx;obtain ⟨vs,rel,dd⟩:=D.of I1;refine ⟨dd.typeIs,λb q=>by cases q;obtain ⟨ob,_,_,h1,h2,_⟩:=dd;exact ⟨ob,h1,h2.2.1⟩,?_⟩;rw [m.trees]
 refine Calls.callWith_builtin rfl (Calls.evalArgs_plain (Calls.spliced_cons (jg (he pins s1 σ H1 _ I1 h) λiv s2 ⟨y,H2,I2,ry,q2⟩ =>
  Calls.spliced_cons (jg (hf pins s2 σ H2 _ I2 q2) λfv s3 ⟨z,H3,I3,rz,k,ek,q3⟩=>Calls.spliced_nil ?_))))
 subst ek;obtain ⟨vs,rel,dd⟩:=D.of I3;exact call_meetsIn PySem.F.slot_dict_get dd.typeIs PySem.F.entry_dict_get (PySem.F.args_dict_get_3 _ _ _) (meets_dict_get_default (zY X.prog X.w) a (uC ry) D.sys fv) ⟨_,dd.mapOf,_,H3,I3.tok _,(rel.val k).getD rz,q3⟩
def vM (tab:List (Str×T))(mi mz:ME):ME:=λenv=>(mi env).bind λk=>(mz env).bind λz=>match k.2 with
 | .str x=>.ok (false,(tab.lookup x).getD z.2)
 | _=>.bad
theorem aK {X:Cx}{y:Str}{tab:List (Str×T)}{e f:Expr}{mi mz:ME}{p apos cpos:Pos}(D:∃ a kvs,nu X.prog X.w X.K X.mg y a kvs tab)(hg:Gl X y)(he:jm X e mi)(hf:jm X f mz)(m:M2 X (.Name y p) "get" apos e f cpos:=by exact ⟨rfl,rfl,rfl,rfl⟩)(hd:(y == ("__debug__" : Str))=false:=by decide) :
  jm X (.Call (.Attribute (.Name y p) "get" apos) [e,f] [] cpos) (vM tab mi mz):=by
 obtain ⟨a,kvs,D⟩:=D;obtain ⟨ti,pi,si⟩:=he;obtain ⟨tz,pz,sz⟩:=hf;refine ⟨_,Jo D hg pi pz m hd,?_⟩;intro F H σ env Q R nb ok ex;unfold vM at nb ok ex;refine si.val R (λz=>by rw [z] at nb;exact nb rfl) (λr1 e1 v1 F1 H1 x1 i1 => ?_) λx z=>ex x (by rw [z];rfl);rw [e1,bind_ok] at nb ok ex;refine sz.val (R.mono x1) (λz=>by rw [z] at nb;exact nb rfl) (λr2 e2 v2 F2 H2 x2 i2 => ?_) λx z=>(ex x (by rw [z];rfl)).mono x1;rw [e2,bind_ok] at nb ok;obtain ⟨b,t⟩:=r1;dsimp only at nb ok i1;cases t<;>dsimp only at nb ok<;>try (exact absurd rfl nb)
 case str z =>
  unfold Is at i1;subst i1;refine ⟨.inr z,rfl,ok _ rfl _ F2 H2 (x1.trans x2) (je ?_)⟩;have:=D.rel F2 H2 z
  cases hl:tab.lookup z with
  | none=>rw [this.2 hl];exact i2
  | some t=>obtain ⟨v,hv,iv⟩:=this.1 t hl;rw [hv];exact iv
theorem oK {K:Frag}{F:Addr->Prop}{H:Hp}{p:Addr}{od:Option Addr}{a:Int}{ta:Tok}{n:Nat}{sl:Array (Option Value)}(l:K.lookup p=some ⟨.type "tuple",od,.seq #[.int a ta] n,sl⟩):Is K F H (.tup [.int a]) (.ref p):=by
 unfold Is;exact ⟨p,[.int a],rfl,.inr ⟨_,_,_,l,rfl,rfl,by show 1<=sizeLine;decide,.cons ⟨_,rfl⟩ .nil⟩,IsAll.cons (by unfold Is;rfl) IsAll.nil⟩
theorem Xp {K:Frag}{F:Addr->Prop}{H:Hp}{p:Addr}{od:Option Addr}{a b:Int}{ta tb:Tok}{n:Nat}{sl:Array (Option Value)}(l:K.lookup p=some ⟨.type "tuple",od,.seq #[.int a ta,.int b tb] n,sl⟩):Is K F H (.tup [.int a,.int b]) (.ref p):=by
 unfold Is;exact ⟨p,[.int a,.int b],rfl,.inr ⟨_,_,_,l,rfl,rfl,by show 2<=sizeLine;decide,.cons ⟨_,rfl⟩ (.cons ⟨_,rfl⟩ .nil)⟩,IsAll.cons (by unfold Is;rfl) (IsAll.cons (by unfold Is;rfl) IsAll.nil)⟩
def oM (K:Frag)(mg:Str->Option Value)(x qual:Str)(st:Stmt)(C:Addr):Prop := ∃ fI fd,tW K C fI/\cr K "__init__" qual st fI fd/\mg x=some (.ref C)
theorem oM.ok {P:Program}{w:World}{K:Frag}{mg:Str->Option Value}{base:Heap}{x qual a b:Str}{st:Stmt}{C:Addr}{p1 p2 p3 pos:Pos}(h:oM K mg x qual st C)(S:za [a,b] [a,b] (z6 st))(hbd:j8 st=[.Assign [.Attribute (.Name a p1) "at" p3] (.Name b p2) pos])
  (hb:∀ (kV doc pm:Value) (an:Option Addr) (cdv ct:Value) (us:List Value),us.length=[a,b].length->bindArgs (W.fnOf "__init__" qual (jR st) (j8 st) (z6 st) .none kV doc pm an cdv ct) ⟨us,[]⟩=pure ([a,b].zip us))
  (hd1:(a == ("__debug__" : Str))=false:=by decide) (hd2:(b == ("__debug__" : Str))=false:=by decide) (hc1:(a == ("__classdict__" : Str))=false:=by decide) (hc2:(b == ("__classdict__" : Str))=false:=by decide)
  (v1:cy (z6 st) a:=by first | exact Or.inl rfl | exact Or.inr (Or.inl rfl) | exact Or.inr (Or.inr rfl)) (v2:cy (z6 st) b:=by first | exact Or.inl rfl | exact Or.inr (Or.inl rfl) | exact Or.inr (Or.inr rfl)):Km P w K mg base x C:=by
 obtain ⟨fI,fd,XC,F,hm⟩:=h;exact ⟨fI,fd,a,b,XC,YA F S hbd hd1 hd2 hc1 hc2 v1 v2,hm,F.binds hb⟩
section
variable {K:Frag}{h:Heap}{mg:Str->Option Value}{f C C0 N:Addr}{oc kV dc pm cd ct:Value}{od an:Option Addr}{sl:Array (Option Value)}{x q nm qn:Str}{st:Stmt}{bs bm sub:List Value}{sn:List Str}{ab:Bool}{col:Option Bool}{dd:Option Addr}{k0 k1 k2 k3 k5:Option Value}
theorem Xq (X:K.In h)(G:h.Ns mainGlobals mg)(g:nsIn K mainGlobals x=some (some (.ref C)):=by (try dsimp only);k_is)
  (l:K.lookup C=some (excClassObj nm qn C N bs bm true sn sub ab col dd k0 k1 k2 k3 k5 "ValueError.__new__"):=by (try dsimp only);k_is) (b1:bm.contains (.type "ValueError")=true:=by decide +kernel) (b2:bm.contains (.type "AttributeError")=false:=by decide +kernel) (b3:bm.contains (.type "NameError")=false:=by decide +kernel)
  (b4:bm.contains (.type "BaseException")=true:=by decide +kernel) (b5:bm.contains (.type "object")=true:=by decide +kernel) (b6:∀ self,refuseLoop self "__setattr__" bm=pure ():=by intro self;simp only [refuseLoop_ref];exact L2.passes_ve self)
  (i:findIn K (.ref C) "__init__" = some (some (.ref f)):=by (try dsimp only);k_is) (fn:typeIn K (.ref f)=some (.type "function"):=by (try dsimp only);k_is) (sa:findIn K (.ref C) "__setattr__" = some (some (.builtin "object.__setattr__")):=by (try dsimp only);k_is) (ta:takerIn K C "at" = some none:=by (try dsimp only);k_is) (kp:keepIn K (.ref C)=true:=by (try dsimp only);k_is)
  (lf:K.lookup f=some ⟨oc,od,.func (W.fnOf "__init__" q (jR st) (j8 st) (z6 st) .none kV dc pm an cd ct),sl⟩:=by (try dsimp only);k_is) (c:codeIn K cd q=true:=by (try dsimp only);k_is) (k:keepIn K (.ref f)=true:=by (try dsimp only);k_is):oM K mg x q st C :=
 ⟨_,_,⟨⟨_,_,_,_,_,_,_,_,_,_,_,_,_,_,_,l,b1,b2,b3,b4,b5,b6⟩,i,fn,sa,ta,kp⟩,lN lf c k,mg_of X G g⟩
theorem Kp (hd:hasDictIn K C=true:=by (try dsimp only);k_is)(ga:findIn K (.ref C) "__getattribute__" = some (some (.builtin "BaseException.__getattribute__")):=by (try dsimp only);k_is)(gt:findIn K (.ref C) "__getattr__" = some none:=by (try dsimp only);k_is)(bx:mroIn K C (.type "BaseException")=some true:=by (try dsimp only);k_is)(a:findIn K (.ref C) "at" = some none:=by (try dsimp only);k_is)
  (cl:findIn K (.ref C) "__class__" = some (some (.builtin "object.__class__")):=by (try dsimp only);k_is) (ns:specialIn K (.builtin "object.__class__") "__get__" = some (some (.builtin "getset_descriptor.__get__")):=by (try dsimp only);k_is) (tk:takesIn K (.builtin "object.__class__")=some true:=by (try dsimp only);k_is) (ob:mroIn K C (.type "object")=some true:=by (try dsimp only);k_is):Wf K C :=
 ⟨hd,ga,gt,bx,a,cl,ns,tk,ob⟩
theorem Kq (h0:subIn K (.ref C0) (.type "BaseException")=some true:=by (try dsimp only);k_is)(h1:isClsIn K C0=true:=by (try dsimp only);k_is)(h2:typeIn K (.ref C0)=some (.type "type"):=by (try dsimp only);k_is)(h3:subIn K (.ref C) (.ref C0)=some true:=by (try dsimp only);k_is):exmOne K (.ref C) (.ref C0)=some true:=by
 unfold exmOne kitCls;have h1:(clsIn K C0).isSome=true:=h1;rw [h0,if_pos (by rw [beq_self_eq_true])];dsimp only;rw [h1,h2,if_pos (by rw [beq_self_eq_true];rfl)];exact h3
theorem Xr {n:String}(h1:kitMeta n=true:=by decide +kernel)(h3:subIn K (.ref C) (.type n)=some true:=by (try dsimp only);k_is):kitOne K (.ref C) (.type n)=some true:=by
 unfold kitOne kitCls;rw [if_neg (λz=>by cases (eq_of_beq z))];dsimp only;rw [if_pos h1];exact h3
end
end L3
set_option maxHeartbeats 4000000
namespace Law
open PySem L2 L3
def top (i:Nat):Stmt:=PySem.Challenge.pw_facestead_k21_plain_rows.main.body.getD i (.Pass ⟨0,0,0,0⟩)
abbrev vO:Stmt:=top 7
abbrev gu:Stmt:=top 8
abbrev xA:Stmt:=top 9
abbrev Jp:Stmt:=top 11
abbrev wV:Stmt:=top 12
abbrev GP:Stmt:=top 13
abbrev nE:Stmt:=top 14
abbrev pM:Stmt:=top 15
abbrev pN:Stmt:=top 16
abbrev pO:Stmt:=top 17
abbrev Jq:Stmt:=top 18
abbrev Ws:Stmt:=top 19
abbrev Xs:Stmt:=top 20
abbrev Wt:Stmt:=top 21
abbrev Wu:Stmt:=top 22
abbrev Kr:Stmt:=top 23
abbrev Xt:Stmt:=top 24
abbrev Wv:Stmt:=top 25
abbrev Ww:Stmt:=top 26
abbrev nG:Stmt:=top 28
abbrev nH:Stmt:=top 29
abbrev lj:Stmt:=top 30
abbrev ll:Stmt:=top 35
abbrev nI:Stmt:=top 36
abbrev fg:Stmt:=top 37
abbrev fh:Stmt:=top 38
abbrev ln:Stmt:=top 39
abbrev lp:Stmt:=top 40
abbrev qm:Stmt:=top 47
abbrev fi:Stmt:=top 48
abbrev vv:Stmt:=top 49
abbrev qo:Stmt:=top 50
abbrev qp:Stmt:=top 51
abbrev qq:Stmt:=top 52
abbrev pP:Stmt:=top 53
abbrev qZ:Stmt:=top 54
abbrev nJ:Stmt:=top 55
abbrev nK:Stmt:=top 56
abbrev lq:Stmt:=top 57
abbrev qr:Stmt:=top 60
abbrev ko:Stmt:=top 61
abbrev g0:Stmt:=top 62
abbrev gv:Stmt:=top 63
abbrev pQ:Stmt:=top 64
abbrev aL:Stmt:=top 65
abbrev xi:Stmt:=zO (top 1) 0
abbrev rA:Stmt:=zO (top 41) 0
abbrev Wx:Stmt:=zO (top 41) 1
abbrev Xu:Stmt:=zO (top 41) 2
abbrev Xv:Stmt:=zO (top 41) 3
abbrev Jr:Stmt:=zO (top 41) 4
abbrev Y9:Stmt:=zO (top 41) 5
abbrev Wy:Stmt:=zO (top 41) 6
abbrev Xw:Stmt:=zO (top 41) 7
abbrev Wz:Stmt:=zO (top 41) 8
abbrev WA:Stmt:=zO (top 42) 0
abbrev aM:Stmt:=zO (top 43) 0
abbrev Ya:Stmt:=zO (top 43) 1
abbrev Js:Stmt:=zO (top 43) 2
abbrev Jt:Stmt:=zO (top 43) 3
abbrev rB:Stmt:=zO (top 43) 4
abbrev Yb:Stmt:=zO (top 43) 5
abbrev aN:Stmt:=zO (top 44) 0
abbrev Yc:Stmt:=zO (top 44) 1
abbrev Ju:Stmt:=zO (top 44) 2
abbrev oN:Stmt:=zO (top 44) 3
abbrev Jv:Stmt:=zO (top 44) 4
abbrev Yd:Stmt:=zO (top 44) 5
abbrev wO:Stmt:=zO (top 58) 0
abbrev Ye:Stmt:=zO (top 58) 1
abbrev WB:Stmt:=zO (top 58) 2
abbrev rC:Stmt:=zO (top 58) 3
structure CA where
 FaceError:Addr
 NoFace:Addr
 NoClient:Addr
 Kind:Addr
 Bare:Addr
 Record:Addr
 Choice:Addr
 Face:Addr
 memo:List Str->Mo
def Jw:List (Str×Str):=[("num","num_kind"),("word","word_kind"),("plus","plus_kind"),("glue","glue_kind"),("call","call_kind"),("make","make_kind"),("form","form_kind"),("get","get_kind"),("getor","getor_kind"),("take","take_kind"),("sort","sort_kind")]
def jy:List (Str×T):=[("call",.tup [.int 3,.int 4]),("make",.tup [.int 2]),("sort",.tup [.int 2])]
def xq:List (Str×T):=[("plus",.tup [.int 1]),("glue",.tup [.int 1]),("form",.tup [.int 3]),("get",.tup [.int 1]),("getor",.tup [.int 1,.int 3]),("take",.tup [.int 1,.int 3]),("sort",.tup [.int 1,.int 3])]
theorem nL:za ["row"] ["row"] (z6 vO):=za.of
def g7:MS:=(zl (zU (jX (vM jy (m2 zq (mV 0) (mC (.int 0))) (jI z5))) j4 (m2 zq (mV 1) (mV 0)) [0]))
def jL:MF:=zL 1 1 g7
theorem dJ:za ["part"] ["part"] (z6 gu):=za.of
def bt:MS:=(zl (vJ (jX (mV 0)) (rq 2 (u6 (gN 0) (u6 (gN 1) rp))) j4 (mV 0) 2 []))
def gw:MF:=zL 1 1 bt
theorem vc:za ["row","things","part"] ["row"] (z6 xA):=za.of
def vQ:MS:=(ze (zo 1 (zU (jX (vM xq (m2 zq (mV 0) (mC (.int 0))) (jI z5))) j4 (m2 zq (mV 1) (mV 0)) [0]))
  (ze (jp (zS (m2 zI (m2 zq (mV 0) (mC (.int 0))) (mC (.str "call"))))
  (oI 1 (m2 zq (mV 0) (mC (.int 2)))) zk)
  (ze (gX (YV (z7 jL (z3 (mV 0) z5))) (gN 2)
  (oI 1 (vJ (jX (mV 2)) (rq 2 (u6 (gN 0) (u6 (gN 1) rp))) j4 (mV 1) 2 [])))
  (zl (zU (jX (mV 1)) (zS (m2 dF (mV 0) (mC .non))) (mV 0) [])))))
def xB:MF:=zL 3 1 vQ
theorem Xx:za ["names"] ["names"] (z6 Jp):=za.of
def Ks:MS:=QP
def bu:MF:=zL 1 1 Ks
theorem mx:za ["row","ahead"] ["row","ahead"] (z6 wV):=za.of
def kq:MS:=(ze (jp (jc (wX (zm gY (z3 (zU (jX (z7 xB (z3 (mV 0) z5))) j4 (xg gM wR (mC (.int 0)) (mV 0) (mV 1)) [1]) z5))))
  (zl (mC (.bl false))) zk)
  (zl (zm gY (z3 (zU (jX (z7 jL (z3 (mV 0) z5))) j4 (z7 bu (z3 (z7 gw (z3 (mV 0) z5)) z5)) []) z5))))
def jB:MF:=zL 2 2 kq
theorem dL:za ["face","kinds","row"] ["face","kinds","row"] (z6 nE):=za.of
def bv:MS:=(zl (mC (.str "num")))
def kr:MF:=zL 3 3 bv
theorem iC:za ["face","kinds","row"] ["face","kinds","row"] (z6 pM):=za.of
def dM:MS:=(zl (mC (.str "word")))
def vw:MF:=zL 3 3 dM
theorem iD:za ["face","kinds","row"] ["face","kinds","row"] (z6 pN):=za.of
def pR:MS:=(zl (gP (zS (m2 zI (m2 zq (mV 1) (m2 zq (mV 2) (mC (.int 1)))) (mC (.str "num")))) (mC (.str "num")) (mC .non)))
def vz:MF:=zL 3 3 pR
theorem iE:za ["face","kinds","row"] ["face","kinds","row"] (z6 pO):=za.of
def pS:MS:=(zl (gP (zS (m2 zI (m2 zq (mV 1) (m2 zq (mV 2) (mC (.int 1)))) (mC (.str "word")))) (mC (.str "word")) (mC .non)))
def vA:MF:=zL 3 3 pS
theorem gx:za ["text","start","signs","end"] ["text","start","signs"] (z6 ll):=za.of
def oO:MS:=(ze (zo 3 (mV 1))
  (ze (zT (jS (zS (m2 wR (mV 3) (zm jA (z3 (mV 0) z5)))) (zS (m2 qN (m2 zq (mV 0) (mV 3)) (mV 2))))
  (m9 3 gV (mC (.int 1))) 100000)
  (vp 3)))
def qK:MF:=zL 4 3 oO
theorem pT:za ["text","start","end"] ["text","start"] (z6 nI):=za.of
def bw:MS:=(ze (zo 2 (z7 qK (z3 (mV 0) (z3 (mV 1) (z3 (mC (.str "abcdefghijklmnopqrstuvwxyz")) z5)))))
  (zl (gP (zS (m2 gM (m2 uQ (mV 2) (mV 1)) (mC (.int 12)))) (mV 2) (mV 1))))
def jC:MF:=zL 3 2 bw
theorem bz:za ["text"] ["text"] (z6 ln):=za.of
def oP:MS:=(zl (jl (m2 wu (mV 0) (mC (.str ""))) (m2 zI (z7 jC (z3 (mV 0) (z3 (mC (.int 0)) z5))) (zm jA (z3 (mV 0) z5)))))
def jM:MF:=zL 1 1 oP
theorem iF:za ["names"] ["names"] (z6 qm):=za.of
def qu:MS:=(zl (jl (zm gY (z3 (zU (jX (mV 0)) j4 (z7 jM (z3 (mV 0) z5)) []) z5)) (m2 zI (f9 (mV 0)) (zm jA (z3 (mV 0) z5)))))
def jz:MF:=zL 1 1 qu
theorem g8:za ["text","start","end"] ["text","start"] (z6 fg):=za.of
def iG:MS:=(ze (zo 2 (z7 qK (z3 (mV 0) (z3 (m2 jb (mV 1) (mC (.int 1))) (z3 (mC (.str "0123456789")) z5)))))
  (zl (gP (zS (m2 lU (mV 2) (m2 jb (mV 1) (mC (.int 1))))) (mV 2) (mV 1))))
def xP:MF:=zL 3 2 iG
theorem w6:za ["text","start","end","behind"] ["text","start"] (z6 fh):=za.of
def iH:MS:=(ze (zo 2 (mV 1))
  (ze (zT (zS (m2 zI (kZ (mV 0) (zy (mV 2)) (zy (m2 jb (mV 2) (mC (.int 1))))) (mC (.str "."))))
  (ze (zo 3 (z7 jC (z3 (mV 0) (z3 (m2 jb (mV 2) (mC (.int 1))) z5))))
  (ze (jp (zS (m2 zI (mV 3) (m2 jb (mV 2) (mC (.int 1)))))
  (vp 2) zk)
  (zo 2 (mV 3)))) 100000)
  (vp 2)))
def jD:MF:=zL 4 2 iH
theorem xj:za ["text","awaited","at","end"] ["text"] (z6 lp):=za.of
def oQ:MS:=(ze (zo 1 (wy z5))
  (ze (zo 2 (mC (.int 0)))
  (zT (wX (mC (.bl true)))
  (ze (zT (zS (m2 zI (kZ (mV 0) (zy (mV 2)) (zy (m2 jb (mV 2) (mC (.int 1))))) (mC (.str "("))))
  (ze (vZ 1 (mC (.str "&")))
  (m9 2 gV (mC (.int 1)))) 100000)
  (ze (zo 3 (gP (zS (m2 zI (kZ (mV 0) (zy (mV 2)) (zy (m2 jb (mV 2) (mC (.int 1))))) (mC (.str "#")))) (z7 xP (z3 (mV 0) (z3 (mV 2) z5))) (z7 jC (z3 (mV 0) (z3 (mV 2) z5)))))
  (ze (jp (zS (m2 zI (mV 3) (mV 2)))
  (zl (mC (.bl false))) zk)
  (ze (zo 2 (z7 jD (z3 (mV 0) (z3 (mV 3) z5))))
  (ze (zT (jS (wX (mV 1)) (jS (zS (m2 zI (m2 zq (mV 1) (fL (mC (.int 1)))) (mC (.str ")")))) (zS (m2 zI (kZ (mV 0) (zy (mV 2)) (zy (m2 jb (mV 2) (mC (.int 1))))) (mC (.str ")"))))))
  (ze (uX 1)
  (zo 2 (z7 jD (z3 (mV 0) (z3 (m2 jb (mV 2) (mC (.int 1))) z5))))) 100000)
  (ze (jp (jc (wX (mV 1)))
  (zl (m2 zI (mV 2) (zm jA (z3 (mV 0) z5)))) zk)
  (ze (jp (wv (zS (m2 wu (m2 zq (mV 1) (fL (mC (.int 1)))) (mC (.str "&")))) (zS (m2 wu (kZ (mV 0) (zy (mV 2)) (zy (m2 jb (mV 2) (mC (.int 1))))) (mC (.str "&")))))
  (zl (mC (.bl false))) zk)
  (ze (fO 1 (fL (mC (.int 1))) (mC (.str ")")))
  (m9 2 gV (mC (.int 1))))))))))) 100000)))
def m_is_kind:MF:=zL 4 1 oQ
theorem my:za ["looked","text"] ["looked","text"] (z6 fi):=za.of
def j0 (c:CA):MF:=ld c.memo m_is_kind
theorem iI:za ["looked","parts"] ["looked","parts"] (z6 vv):=za.of
def qw (c:CA):MS:=(zl (jl (z7 jz (z3 (zU (jX (mV 1)) j4 (m2 zq (mV 0) (mC (.int 0))) []) z5)) (zm gY (z3 (zU (jX (mV 1)) j4 (z7 (j0 c) (z3 (mV 1) (z3 (m2 zq (mV 0) (mC (.int 1))) z5))) [0]) z5))))
def jq (c:CA):MF:=zL 2 2 (qw c)
theorem u7:za ["looked","title","made"] ["looked","title","made"] (z6 qo):=za.of
def qx (c:CA):MS:=(ze (jp (wv (zS (m2 qN (mV 1) (mC (.tup (List.map T.str ["num","word"]))))) (jc (wX (z7 (j0 c) (z3 (mV 0) (z3 (mV 1) z5))))))
  (zl (mC (.bl false))) zk)
  (zl (d9 (z7 jM (z3 (mV 1) z5)) (kN (mV 2)))))
def ju (c:CA):MF:=zL 3 3 (qx c)
theorem iJ:za ["looked","title","made","forms"] ["looked","title","made","forms"] (z6 pP):=za.of
def pU (c:CA):MS:=(zl (jl (z7 (ju c) (z3 (mV 0) (z3 (mV 1) (z3 (mV 2) z5)))) (z7 (jq c) (z3 (mV 0) (z3 (mV 3) z5)))))
def xH (c:CA):MF:=zL 4 4 (pU c)
theorem nM:za ["looked","name","plain","places","back","faults"] ["looked","name","plain","places","back","faults"] (z6 qZ):=za.of
def g9 (c:CA):MS:=(ze (jp (wv (jc (wX (z7 jM (z3 (mV 1) z5)))) (jc (wX (z7 (j0 c) (z3 (mV 0) (z3 (mV 4) z5))))))
  (zl (mC (.bl false))) zk)
  (ze (jp (wv (zS (m2 wR (mV 2) (mC (.int 0)))) (zS (m2 lU (mV 2) (zm jA (z3 (mV 3) z5)))))
  (zl (mC (.bl false))) zk)
  (zl (jl (z7 (jq c) (z3 (mV 0) (z3 (mV 3) z5))) (z7 jz (z3 (mV 5) z5))))))
def jN (c:CA):MF:=zL 6 6 (g9 c)
theorem u8:za ["made","due","sure"] ["made","due","sure"] (z6 qp):=za.of
def qy:MS:=(ze (jp (wX (mV 0))
  (zl (d9 (mV 1) (kN (mV 2)))) zk)
  (zl (kN (mV 1))))
def xk:MF:=zL 3 3 qy
theorem iK:za ["looked","title","made","fields"] ["looked","title","made","fields"] (z6 qq):=za.of
def pV (c:CA):MS:=(ze (jp (wv (jc (wX (z7 (ju c) (z3 (mV 0) (z3 (mV 1) (z3 (mV 2) z5)))))) (jc (wX (z7 (jq c) (z3 (mV 0) (z3 (mV 3) z5))))))
  (zl (mC (.bl false))) zk)
  (zl (zm gY (z3 (zU (jX (mV 3)) j4 (z7 xk (z3 (mV 1) (z3 (m2 zq (mV 0) (mC (.int 2))) (z3 (m2 zq (mV 0) (mC (.int 3))) z5)))) [2]) z5))))
def xI (c:CA):MF:=zL 4 4 (pV c)
theorem dN:za ["looked","piece"] ["looked","piece"] (z6 nJ):=za.of
def kx (c:CA):MS:=(ze (jp (zS (m2 zI (m2 zq (mV 1) (mC (.int 0))) (mC (.str "record"))))
  (zl (z7 (xI c) (z3 (mV 0) (z3 (m2 zq (mV 1) (mC (.int 1))) (z3 (m2 zq (mV 1) (mC (.int 2))) (z3 (m2 zq (mV 1) (mC (.int 3))) z5)))))) zk)
  (ze (jp (zS (m2 zI (m2 zq (mV 1) (mC (.int 0))) (mC (.str "choice"))))
  (zl (z7 (xH c) (z3 (mV 0) (z3 (m2 zq (mV 1) (mC (.int 1))) (z3 (m2 zq (mV 1) (mC (.int 2))) (z3 (m2 zq (mV 1) (mC (.int 4))) z5)))))) zk)
  (zl (z7 (jN c) (z3 (mV 0) (z3 (m2 zq (mV 1) (mC (.int 1))) (z3 (m2 zq (mV 1) (mC (.int 2))) (z3 (m2 zq (mV 1) (mC (.int 3))) (z3 (m2 zq (mV 1) (mC (.int 4))) (z3 (m2 zq (mV 1) (mC (.int 5))) z5))))))))))
def xG (c:CA):MF:=zL 2 2 (kx c)
theorem dO:za ["parts"] ["parts"] (z6 nK):=za.of
def gy:MS:=(zl (zm lZ (z3 (zm qJ (z3 (mV 0) z5)) z5)))
def jt:MF:=zL 1 1 gy
theorem gz:za ["piece","plain","places"] ["piece"] (z6 lq):=za.of
def k6:MS:=(ze (jp (zS (m2 zI (m2 zq (mV 0) (mC (.int 0))) (mC (.str "record"))))
  (zl (m2 jb (kZ (mV 0) xp (zy (mC (.int 3)))) (jI (z3 (z7 jt (z3 (m2 zq (mV 0) (mC (.int 3))) z5)) z5)))) zk)
  (ze (jp (zS (m2 zI (m2 zq (mV 0) (mC (.int 0))) (mC (.str "choice"))))
  (zl (m2 jb (kZ (mV 0) xp (zy (mC (.int 4)))) (jI (z3 (z7 jt (z3 (m2 zq (mV 0) (mC (.int 4))) z5)) z5)))) zk)
  (ze (zo 1 (m2 zq (mV 0) (mC (.int 2))))
  (ze (zo 2 (m2 jb (kZ (m2 zq (mV 0) (mC (.int 3))) xp (zy (mV 1))) (z7 jt (z3 (kZ (m2 zq (mV 0) (mC (.int 3))) (zy (mV 1)) xp) z5))))
  (zl (m2 jb (kZ (mV 0) xp (zy (mC (.int 3)))) (jI (z3 (mV 2) (z3 (m2 zq (mV 0) (mC (.int 4))) (z3 (z7 jt (z3 (m2 zq (mV 0) (mC (.int 5))) z5)) z5))))))))))
def jO:MF:=zL 3 1 k6
theorem k7:za ["self","pieces","looked","at","piece","told"] ["self","pieces"] (z6 wO):=za.of
def zX (c:CA):MN:=xh c.memo c.Face "told_kinds" "told_functions" (zS (m2 zI (m2 zq (mV 4) (mC (.int 0))) (mC (.str "function")))) (wv (zS (m2 qN (m2 zq (mV 4) (mC (.int 1))) (mV 5))) (jc (wX (z7 (xG c) (z3 (mV 2) (z3 (mV 4) z5)))))) (m2 zq (mV 4) (mC (.int 1))) (z7 jO (z3 (mV 4) z5))
theorem qc:za ["self","at"] ["self","at"] (z6 xi):=za.of
theorem pW:za ["face","kinds","row","look"] ["face","kinds","row"] (z6 nG):=za.of
def gA (c:CA):MS:=(ze (jp (jc (wX (z7 jB (z3 (mV 2) (z3 (zm jA (z3 (mV 1) z5)) z5)))))
  (zl (mC .non)) zk)
  (nC 3 [("num",kr),("word",vw),("plus",vz),("glue",vA)] (m2 zq (mV 2) (mC (.int 0))) (z3 (mV 0) (z3 (mV 1) (z3 (mV 2) z5)))))
def ky (c:CA):MF:=zL 4 3 (gA c)
theorem wo:za ["face","client","kinds","at","row","kind"] ["face","client"] (z6 nH):=za.of
def w4 (c:CA):MS:=(ze (zo 2 (wy z5))
  (ze (gX (li (mV 1)) (rq 2 (u6 (gN 3) (u6 (gN 4) rp)))
  (ze (zo 5 (z7 (ky c) (z3 (mV 0) (z3 (mV 2) (z3 (mV 4) z5)))))
  (ze (jp (zS (m2 qQ (mV 5) (mC .non)))
  (gr c.NoClient (mV 3)) zk)
  (vZ 2 (mV 5)))))
  (vp 2)))
def xl (c:CA):MF:=zL 6 2 (w4 c)
theorem bA:za ["face","client"] ["face","client"] (z6 lj):=za.of
def qL (c:CA):MS:=(ze (qY [c.NoClient] none (pH (z7 (xl c) (z3 (mV 0) (z3 (mV 1) z5)))) (zl (mC (.bl false))))
  (zl (mC (.bl true))))
def v3 (c:CA):MF:=zL 2 2 (qL c)
theorem u9:za ["_law_script","_law_k"] ["_law_script","_law_k"] (z6 qr):=za.of
def vd:MS:=(ze (jp (zS (m2 wR (mV 1) (zm jA (z3 (mV 0) z5))))
  (zl (m2 zq (mV 0) (mV 1))) zk)
  (zl (mC (.int 0))))
def jj:MF:=zL 2 2 vd
theorem mB:za ["_law_found","_law_due"] ["_law_found","_law_due"] (z6 ko):=za.of
def kA (r:MF):MS:=(ze (jp (zS (m2 qQ (mV 1) (mC .non)))
  (zl (m2 qQ (mV 0) (mC .non))) zk)
  (ze (jp (wX (zm qP (z3 (mV 1) (z3 (mC (.ty "bool")) z5))))
  (zl (jl (zm qP (z3 (mV 0) (z3 (mC (.ty "bool")) z5))) (m2 zI (mV 0) (mV 1)))) zk)
  (ze (jp (wX (zm qP (z3 (mV 1) (z3 (mC (.ty "int")) z5))))
  (zl (jl (zm qP (z3 (mV 0) (z3 (mC (.ty "int")) z5))) (jl (kN (zm qP (z3 (mV 0) (z3 (mC (.ty "bool")) z5)))) (m2 zI (mV 0) (mV 1))))) zk)
  (ze (jp (wX (zm qP (z3 (mV 1) (z3 (mC (.ty "str")) z5))))
  (zl (jl (zm qP (z3 (mV 0) (z3 (mC (.ty "str")) z5))) (m2 zI (mV 0) (mV 1)))) zk)
  (ze (jp (wv (zS (m2 wu (zm qP (z3 (mV 1) (z3 (mC (.ty "tuple")) z5))) (zm qP (z3 (mV 0) (z3 (mC (.ty "tuple")) z5))))) (zS (m2 wu (zm qP (z3 (mV 1) (z3 (mC (.ty "list")) z5))) (zm qP (z3 (mV 0) (z3 (mC (.ty "list")) z5))))))
  (zl (mC (.bl false))) zk)
  (ze (jp (zS (m2 wu (zm jA (z3 (mV 0) z5)) (zm jA (z3 (mV 1) z5))))
  (zl (mC (.bl false))) zk)
  (zl (zm gY (z3 (zU (ql (z3 (zm jA (z3 (mV 1) z5)) z5)) j4 (z7 r (z3 (m2 zq (mV 1) (mV 0)) (z3 (m2 zq (mV 2) (mV 0)) z5))) [0,1]) z5)))))))))
def j5:Nat->MF
 | 0=>J8
 | n + 1=>zL 2 2 (kA (j5 n))
def jr:MF:=j5 8
theorem j6:za ["_law_face","_law_client","_law_found","_law_at","_law_plain","e"] ["_law_face","_law_client"] (z6 g0):=za.of
def w8 (c:CA):MS:=(ze (zo 2 (mC .non))
  (ze (zo 3 (mC .non))
  (ze (zo 4 (mC (.bl true)))
  (ze (qY [c.NoClient] (some 5) (zo 2 (z7 (xl c) (z3 (mV 0) (z3 (mV 1) z5)))) (ze (zo 3 (oJ [c.NoClient] (mV 5)))
  (zo 4 (jl (mw [(c.NoClient,true)] (mV 5)) (jl (mw [(c.NoClient,true)] (mV 5)) (kN (mw [(c.NoClient,false)] (mV 5))))))))
  (zl (jI (z3 (mV 2) (z3 (mV 3) (z3 (mV 4) z5)))))))))
def jP (c:CA):MF:=zL 6 2 (w8 c)
theorem xm:za ["_law_cell","_law_kinds","_law_way","_law_text","_law_some","_law_x"] ["_law_cell","_law_kinds"] (z6 gv):=za.of
def ve:MS:=(ze (zo 2 (m2 wj (mV 0) (mC (.int 4))))
  (ze (zo 0 (m2 m8 (mV 0) (mC (.int 4))))
  (ze (zo 3 (m2 jb (m2 zq (wy (z3 (mC (.str "")) (z3 (mC (.str "a b")) (z3 (mC (.str "Zq~")) (z3 (mC (.str " ")) z5))))) (m2 wj (mV 0) (mC (.int 4)))) (zm ZF (z3 (m2 wj (mV 0) (m2 ny (mC (.int 10)) (mC (.int 20)))) z5))))
  (ze (jp (zS (m2 zI (mV 2) (mC (.int 0))))
  (zl (jI (z3 (mC (.str "num")) (z3 (m2 uQ (m2 wj (mV 0) (m2 ny (mC (.int 10)) (mC (.int 40)))) (m2 ny (mC (.int 10)) (mC (.int 39)))) z5)))) zk)
  (ze (jp (zS (m2 zI (mV 2) (mC (.int 1))))
  (zl (jI (z3 (mC (.str "word")) (z3 (mV 3) z5)))) zk)
  (ze (zo 4 (vJ (nz (mV 1)) (rq 2 (u6 (gN 0) (u6 (gN 1) rp))) (zS (m2 zI (mV 1) (m2 zq (wy (z3 (mC (.str "num")) (z3 (mC (.str "word")) z5))) (m2 uQ (mV 2) (mC (.int 2)))))) (mV 0) 2 [2]))
  (ze (zo 5 (m2 uQ (m2 wj (m2 m8 (mV 0) (mC (.int 16))) (m2 jb (zm jA (z3 (mV 1) z5)) (mC (.int 3)))) (mC (.int 1))))
  (ze (jp (jS (zS (m2 wu (mV 4) (wy z5))) (zS (m2 lU (m2 wj (mV 0) (mC (.int 16))) (mC (.int 0)))))
  (zo 5 (m2 zq (mV 4) (m2 wj (m2 m8 (mV 0) (mC (.int 16))) (zm jA (z3 (mV 4) z5))))) zk)
  (ze (jp (zS (m2 zI (mV 2) (mC (.int 2))))
  (zl (jI (z3 (mC (.str "plus")) (z3 (mV 5) (z3 (m2 uQ (m2 wj (mV 0) (m2 ny (mC (.int 10)) (mC (.int 40)))) (m2 ny (mC (.int 10)) (mC (.int 39)))) z5))))) zk)
  (zl (jI (z3 (mC (.str "glue")) (z3 (mV 5) (z3 (mV 3) z5))))))))))))))
def vf:MF:=zL 6 2 ve
theorem kB:za ["_law_row_here","_law_kinds","_law_due"] ["_law_row_here","_law_kinds"] (z6 pQ):=za.of
def qz:MS:=(ze (jp (zS (m2 qN (m2 zq (mV 0) (mC (.int 0))) (jI (z3 (mC (.str "num")) (z3 (mC (.str "word")) z5)))))
  (zl (m2 zq (mV 0) (mC (.int 0)))) zk)
  (ze (zo 2 (mC (.str "num")))
  (ze (jp (zS (m2 zI (m2 zq (mV 0) (mC (.int 0))) (mC (.str "glue"))))
  (zo 2 (mC (.str "word"))) zk)
  (ze (jp (jS (zS (xg gM wR (mC (.int 0)) (m2 zq (mV 0) (mC (.int 1))) (zm jA (z3 (mV 1) z5)))) (zS (m2 zI (m2 zq (mV 1) (m2 zq (mV 0) (mC (.int 1)))) (mV 2))))
  (vp 2) zk)
  (zl (mC .non))))))
def vB:MF:=zL 3 2 qz
theorem xn:za ["_law_script","_law_face","_law_pieces","_law_client","_law_kinds","_law_cell","_law_row_here","_law_kind_here","_law_handed","_law_found","_law_at","_law_plain"] ["_law_script"] (z6 aL):=za.of
def Jx (c:CA):MS:=(ze (zo 1 (kR c.Face (zX c) (z3 (wy z5) z5)))
  (ze (jp (zS (m2 zI (m2 wj (z7 jj (z3 (mV 0) (z3 (mC (.int 0)) z5))) (mC (.int 3))) (mC (.int 0))))
  (ze (zo 2 (wy (z3 (jI (z3 (mC (.str "record")) (z3 (mC (.str "numb")) (z3 (mC (.bl true)) (z3 (jI z5) z5))))) (z3 (jI (z3 (mC (.str "function")) (z3 (mC (.str "word")) (z3 (mC (.int 0)) (z3 (jI z5) (z3 (mC (.str "num")) (z3 (jI (z3 (mC (.str "gone")) z5)) z5))))))) z5))))
  (zo 1 (kR c.Face (zX c) (z3 (mV 2) z5)))) zk)
  (ze (zo 3 (wy z5))
  (ze (zo 4 (wy z5))
  (ze (gX (YV (kZ (mV 0) (zy (mC (.int 1))) (zy (mC (.int 41))))) (gN 5)
  (ze (zo 6 (z7 vf (z3 (mV 5) (z3 (mV 4) z5))))
  (ze (vZ 3 (mV 6))
  (ze (zo 7 (z7 vB (z3 (mV 6) (z3 (mV 4) z5))))
  (ze (jp (zS (m2 qQ (mV 7) (mC .non)))
  oi zk)
  (vZ 4 (mV 7)))))))
  (ze (zo 8 (zm ZE (z3 (mV 3) z5)))
  (ze (vb (z7 (jP c) (z3 (mV 1) (z3 (mV 8) z5))) (rq 3 (u6 (gN 9) (u6 (gN 10) (u6 (gN 11) rp)))))
  (ze (jp (wv (jc (wX (mV 11))) (zS (m2 wu (mV 8) (mV 3))))
  (zl (mC (.bl false))) zk)
  (ze (jp (zS (m2 wR (zm jA (z3 (mV 4) z5)) (zm jA (z3 (mV 3) z5))))
  (ze (jp (wv (jc (wX (z7 jr (z3 (mV 10) (z3 (zm jA (z3 (mV 4) z5)) z5))))) (zS (m2 dF (z7 (v3 c) (z3 (mV 1) (z3 (mV 3) z5))) (mC (.bl false)))))
  (zl (mC (.bl false))) zk)
  (ze (zo 3 (kZ (mV 3) xp (zy (fL (mC (.int 1))))))
  (vb (z7 (jP c) (z3 (mV 1) (z3 (mV 3) z5))) (rq 3 (u6 (gN 9) (u6 (gN 10) (u6 (gN 11) rp))))))) zk)
  (zl (jl (m2 qQ (mV 10) (mC .non)) (jl (z7 jr (z3 (mV 9) (z3 (mV 4) z5))) (m2 qQ (z7 (v3 c) (z3 (mV 1) (z3 (mV 3) z5))) (mC (.bl true)))))))))))))))
def WC (c:CA):MF:=zL 12 1 (Jx c)
structure Txt (P:Program) (w:World) (K:W.Frag) (mg:Str->Option Value) (c:CA):Prop where
 yA:c.memo=memoP P w (gOf m_is_kind)
 yB:mg "ValueError" = none
 yC:mg "all" = none
 yD:mg "bool" = none
 yE:mg "enumerate" = none
 yF:mg "int" = none
 yG:mg "isinstance" = none
 yH:mg "len" = none
 yI:mg "list" = none
 yJ:mg "range" = none
 yK:mg "set" = none
 yL:mg "sorted" = none
 yM:mg "str" = none
 yN:mg "tuple" = none
 yO:∃ t,mg "FIGURES" = some (.str "0123456789" t)
 yP:K6 K mg "GIVEN_KINDS" ["num","word"]
 yQ:∃ t,mg "LETTERS" = some (.str "abcdefghijklmnopqrstuvwxyz" t)
 yR:∃ t,mg "LONGEST_NAME" = some (.int 12 t)
 yS:∃ a kvs,nu P w K mg "NAMED_AT" a kvs jy
 yT:∃ a kvs,nu P w K mg "THINGS_AT" a kvs xq
 yU:∃ a kvs,aJ P w K mg "LOOKS" a kvs Jw
 yV:zH K mg "named_parts" vO
 yW:zH K mg "names_of" gu
 yX:zH K mg "used_things" xA
 yY:zH K mg "rise" Jp
 yZ:zH K mg "is_in_form" wV
 y0:zH K mg "num_kind" nE
 y1:zH K mg "word_kind" pM
 y2:zH K mg "plus_kind" pN
 y3:zH K mg "glue_kind" pO
 y4:zH K mg "row_kind" nG
 y6:zH K mg "kinds_of" nH
 y8:zH K mg "lets_by" lj
 y9:zH K mg "run_end" ll
 ya:zH K mg "name_end" nI
 yb:zH K mg "number_end" fg
 yc:zH K mg "points_end" fh
 yd:zH K mg "is_name" ln
 ye:zH K mg "is_kind" lp
 yf:zH K mg "are_names" qm
 yh:zH K mg "tells_kind" fi
 yi:zH K mg "are_parts" vv
 yj:zH K mg "is_told_kind" qo
 yk:zH K mg "may_be_field" qp
 ym:zH K mg "is_record" qq
 yn:zH K mg "is_choice" pP
 yo:zH K mg "is_function" qZ
 yp:zH K mg "is_piece" nJ
 yq:zH K mg "by_names" nK
 yr:zH K mg "settled" lq
 yt:zH K mg "_law_cell_at" qr
 yu:zH K mg "_law_alike" ko
 yw:zH K mg "_law_looked" g0
 yx:zH K mg "_law_row" gv
 yy:zH K mg "_law_kind" pQ
 yz:zH K mg "law" aL
 wA:mg "Face" = some (.ref c.Face)
 wB:cH K c.Face
 wC:∃ f fd,cr K "__init__" "Face.__init__" wO f fd/\Mk K c.Face f
 wD:jQ K c.Face "told_functions"
 wE:jQ K c.Face "told_kinds"
 wF:mg "FaceError" = some (.ref c.FaceError)
 wG:mg "NoClient" = some (.ref c.NoClient)
 wH:mg "NoFace" = some (.ref c.NoFace)
 wI:oM K mg "NoClient" "FaceError.__init__" xi c.NoClient
 wJ:Wf K c.NoClient
 wK:W.exmOne K (.ref c.NoClient) (.ref c.NoClient)=some true
 wL:W.kitOne K (.ref c.NoClient) (.ref c.FaceError)=some true
 wM:W.kitOne K (.ref c.NoClient) (.ref c.NoFace)=some false
 wN:W.kitOne K (.ref c.NoClient) (.type "ValueError")=some true
section
variable {P:Program}{w:World}{K:W.Frag}{mg:Str->Option Value}{base:Heap}{c:CA}(T:Txt P w K mg c)
include T
theorem qA:ji P w K mg base 1 "named_parts" ["row"] jL :=
 zH.ok3 T.yV nL (λ_ _ _ _ _ _=>qX λ_=>rfl) λf cdv A outer s H E hr=>(zf (zB (wU rfl (j9.of:j9 ["row"] (z6 vO) _ "at" ["row"] [0]) rfl (qk (aK T.yS (by rfl) (zZ (xT hr) (qv 0) zg (λ_ _=>rfl)) (wQ z9))) (λcl C ex pn s₀ H₀=>xf) (λcl C ex pn s₀ H₀=>(zZ (xT hr) (qv 1) (qv 0) (λ_ _=>rfl))))))
theorem dP:ji P w K mg base 1 "names_of" ["part"] gw :=
 zH.ok3 T.yW dJ (λ_ _ _ _ _ _=>qX λ_=>rfl) λf cdv A outer s H E hr=>(zf (zB (aI (xs:=["name","thing"]) rfl (j9.of:j9 ["part"] (z6 gu) _ "name" [] []) (by decide +kernel) rfl (qk (qv 0)).two (λcl C ex pn s₀ H₀=>(fY rfl (jT (jd (i:=0) (show List.Nodup (["name","thing"]:List Str) by decide +kernel)) (jT (jd (i:=1) (show List.Nodup (["name","thing"]:List Str) by decide +kernel)) fX)))) (λcl C ex pn s₀ H₀=>xf) (λcl C ex pn s₀ H₀=>(qv 0)) (L:=0))))
theorem nN:ji P w K mg base 2 "used_things" ["row"] xB :=
 zH.ok3 T.yX vc (λ_ _ _ _ _ _=>qX λ_=>rfl) λf cdv A outer s H E hr=>(zc (K8 (i:=1) vc.nd rfl (by first | exact .inl rfl | exact .inr rfl) rfl (j9.of:j9 ["row","things","part"] (z6 xA) _ "at" ["row"] [0]) rfl (qk (aK T.yT (by rfl) (zZ (xT hr) (qv 0) zg (λ_ _=>rfl)) (wQ z9))) (λcl C ex pn s₀ H₀=>xf) (λcl C ex pn s₀ H₀=>(zZ (xT hr) (qv 1) (qv 0) (λ_ _=>rfl))))
  (zc (jW (zu (xS (jY hr)) zd (zZ (xT hr) (qv 0) zg (λ_ _=>rfl)) zQ (zn _))
  (zf (Wr (i:=1) (zZ (xT hr) (qv 0) zg (λ_ _=>rfl)) (λte pe=>vo (mP PySem.F.plainAttrs_list PySem.F.slot_list_extend PySem.F.type_list_extend mQ (pv 1) (xK pe vH))))) zK)
  (zc (Wl PassesOwn.leaving rfl (QS (zr (qA T) (hr.mono (by omega)) (by rfl) (z4 (qv 0) z9))) (jd (i:=2) vc.nd)
  (zf (Wr (i:=1) (aI (xs:=["name","thing"]) rfl (j9.of:j9 ["row","things","part"] (z6 xA) _ "name" [] []) (by decide +kernel) rfl (qk (qv 2)).two (λcl C ex pn s₀ H₀=>(fY rfl (jT (jd (i:=0) (show List.Nodup (["name","thing"]:List Str) by decide +kernel)) (jT (jd (i:=1) (show List.Nodup (["name","thing"]:List Str) by decide +kernel)) fX)))) (λcl C ex pn s₀ H₀=>xf) (λcl C ex pn s₀ H₀=>(qv 1))) (λte pe=>vo (mP PySem.F.plainAttrs_list PySem.F.slot_list_extend PySem.F.type_list_extend mQ (pv 1) (xK pe vH))))))
  (zf (zB (wU rfl (j9.of:j9 ["row","things","part"] (z6 xA) _ "thing" [] []) rfl (qk (qv 1)) (λcl C ex pn s₀ H₀=>(ax (zu Ji zd (qv 0) kK (zn _)))) (λcl C ex pn s₀ H₀=>(qv 0))))))))
theorem Xy:ji P w K mg base 1 "rise" ["names"] bu :=
 zH.ok3 T.yY Xx (λ_ _ _ _ _ _=>qX λ_=>rfl) λf cdv A outer s H E hr=>(zf YS)
theorem mD:ji P w K mg base 3 "is_in_form" ["row","ahead"] jB :=
 zH.ok3 T.yZ mx (λ_ _ _ _ _ _=>xV λ_ _=>rfl) λf cdv A outer s H E hr=>(zc (jW (v7 (j3 (zA (fU rfl) (by rfl) T.yC fG (z4 (wU rfl (j9.of:j9 ["row","ahead"] (z6 wV) _ "thing" ["ahead"] [1]) rfl (qk (zr (nN T) (hr.mono (by omega)) (by rfl) (z4 (qv 0) z9))) (λcl C ex pn s₀ H₀=>xf) (λcl C ex pn s₀ H₀=>(X4 VU o8 zg (qv 0) (qv 1)))) z9)) (λ_=>rfl)))
  (zf (zB kY)) zK)
  (zf (zB (zA (fU rfl) (by rfl) T.yC fG (z4 (wU rfl (j9.of:j9 ["row","ahead"] (z6 wV) _ "part" [] []) rfl (qk (zr (qA T) (hr.mono (by omega)) (by rfl) (z4 (qv 0) z9))) (λcl C ex pn s₀ H₀=>xf) (λcl C ex pn s₀ H₀=>(zr (Xy T) (hr.mono (by omega)) (by rfl) (z4 (zr (dP T) (hr.mono (by omega)) (by rfl) (z4 (qv 0) z9)) z9)))) z9)))))
theorem dQ:ji P w K mg base 1 "num_kind" ["face","kinds","row"] kr :=
 zH.ok3 T.y0 dL (λ_ _ _ _ _ _=>fe λ_ _ _=>rfl) λf cdv A outer s H E hr=>(zf (zB zQ))
theorem iL:ji P w K mg base 1 "word_kind" ["face","kinds","row"] vw :=
 zH.ok3 T.y1 iC (λ_ _ _ _ _ _=>fe λ_ _ _=>rfl) λf cdv A outer s H E hr=>(zf (zB zQ))
theorem iM:ji P w K mg base 1 "plus_kind" ["face","kinds","row"] vz :=
 zH.ok3 T.y2 iD (λ_ _ _ _ _ _=>fe λ_ _ _=>rfl) λf cdv A outer s H E hr=>(zf (zB (gQ (zu (xS (jY hr)) zd (zZ (xT hr) (qv 1) (zZ (xT hr) (qv 2) zg (λ_ _=>rfl)) (λ_ _=>rfl)) zQ (zn _)) zQ kK)))
theorem iN:ji P w K mg base 1 "glue_kind" ["face","kinds","row"] vA :=
 zH.ok3 T.y3 iE (λ_ _ _ _ _ _=>fe λ_ _ _=>rfl) λf cdv A outer s H E hr=>(zf (zB (gQ (zu (xS (jY hr)) zd (zZ (xT hr) (qv 1) (zZ (xT hr) (qv 2) zg (λ_ _=>rfl)) (λ_ _=>rfl)) zQ (zn _)) zQ kK)))
theorem nO:ji P w K mg base 1 "run_end" ["text","start","signs"] qK :=
 zH.ok3 T.y9 gx (λ_ _ _ _ _ _=>fe λ_ _ _=>rfl) λf cdv A outer s H E hr=>(zc (zG (i:=3) gx.nd (qv 1))
  (zc (gS 100000 PassesOwn.leaving (uU (zu o8 zd (qv 3) (zA xw (by rfl) T.yH xv (z4 (qv 0) z9)) (zn _)) (uf (zu (YM (X7 hr)) zd (zZ (xT hr) (qv 0) (qv 3) (λ_ _=>rfl)) (qv 2) (by with_unfolding_all rfl)))).pt
  (zf (bp lY (i:=3) gx.nd zg)))
  (zf (uW 3))))
theorem qB:ji P w K mg base 2 "name_end" ["text","start"] jC :=
 zH.ok3 T.ya pT (λ_ _ _ _ _ _=>xV λ_ _=>rfl) λf cdv A outer s H E hr=>(zc (zG (i:=2) pT.nd (zr (nO T) (hr.mono (by omega)) (by rfl) (z4 (qv 0) (z4 (qv 1) (z4 (aB (by rfl) T.yQ) z9)))))
  (zf (zB (gQ (zu VU zd (jH d7 zd (qv 2) (qv 1)) (X5 (by rfl) T.yR) (zn _)) (qv 2) (qv 1)))))
theorem gB:ji P w K mg base 3 "is_name" ["text"] jM :=
 zH.ok3 T.yd bz (λ_ _ _ _ _ _=>qX λ_=>rfl) λf cdv A outer s H E hr=>(zf (zB (vY (qT (d8 (jY hr)) zd (qv 0) zQ (zn _)) (kO (qT (xS (jY hr)) zd (zr (qB T) (hr.mono (by omega)) (by rfl) (z4 (qv 0) (z4 zg z9))) (zA xw (by rfl) T.yH xv (z4 (qv 0) z9)) (zn _))))))
theorem fj:ji P w K mg base 4 "are_names" ["names"] jz :=
 zH.ok3 T.yf iF (λ_ _ _ _ _ _=>qX λ_=>rfl) λf cdv A outer s H E hr=>(zf (zB (vY (zA (fU rfl) (by rfl) T.yC fG (z4 (wU rfl (j9.of:j9 ["names"] (z6 qm) _ "name" [] []) rfl (qk (qv 0)) (λcl C ex pn s₀ H₀=>xf) (λcl C ex pn s₀ H₀=>(zr (gB T) (hr.mono (by omega)) (by rfl) (z4 (qv 0) z9))) (L:=0)) z9)) (kO (qT (xS (jY hr)) zd (ZT rfl (by rfl) T.yH (by rfl) T.yK (qv 0)) (zA xw (by rfl) T.yH xv (z4 (qv 0) z9)) (zn _))))))
theorem mE:ji P w K mg base 2 "number_end" ["text","start"] xP :=
 zH.ok3 T.yb g8 (λ_ _ _ _ _ _=>xV λ_ _=>rfl) λf cdv A outer s H E hr=>(zc (zG (i:=2) g8.nd (zr (nO T) (hr.mono (by omega)) (by rfl) (z4 (qv 0) (z4 (jH wP zd (qv 1) zg) (z4 (aB (by rfl) T.yO) z9)))))
  (zf (zB (gQ (zu VV zd (qv 2) (jH wP zd (qv 1) zg) (zn _)) (qv 2) (qv 1)))))
theorem gb:ji P w K mg base 3 "points_end" ["text","start"] jD :=
 zH.ok3 T.yc w6 (λ_ _ _ _ _ _=>xV λ_ _=>rfl) λf cdv A outer s H E hr=>(zc (zG (i:=2) w6.nd (qv 1))
  (zc (gS 100000 PassesOwn.leaving (zu (xS (jY hr)) zd (xC (qv 0) (jk (qv 2)) (jk (jH wP zd (qv 2) zg))) zQ (zn _))
  (zc (zG (i:=3) w6.nd (zr (qB T) (hr.mono (by omega)) (by rfl) (z4 (qv 0) (z4 (jH wP zd (qv 2) zg) z9))))
  (zc (jW (zu (xS (jY hr)) zd (qv 3) (jH wP zd (qv 2) zg) (zn _))
  (zf (uW 2)) zK)
  (zf (zG (i:=2) w6.nd (qv 3))))))
  (zf (uW 2))))
theorem bB:ji P w K mg base 4 "is_kind" ["text"] m_is_kind :=
 zH.ok3 T.ye xj (λ_ _ _ _ _ _=>qX λ_=>rfl) λf cdv A outer s H E hr=>(zc (zG (i:=1) xj.nd (gR z9))
  (zc (zG (i:=2) xj.nd zg)
  (zf (gS 100000 PassesOwn.leaving (j3 kY (λ_=>rfl))
  (zc (gS 100000 PassesOwn.leaving (zu (xS (jY hr)) zd (xC (qv 0) (jk (qv 2)) (jk (jH wP zd (qv 2) zg))) zQ (zn _))
  (zc (am (i:=1) zQ (λte pe=>vo (mP PySem.F.plainAttrs_list PySem.F.slot_list_append PySem.F.type_list_append wW (pv 1) (xK pe vH))))
  (zf (bp lY (i:=2) xj.nd zg))))
  (zc (zG (i:=3) xj.nd (gQ (zu (xS (jY hr)) zd (xC (qv 0) (jk (qv 2)) (jk (jH wP zd (qv 2) zg))) zQ (zn _)) (zr (mE T) (hr.mono (by omega)) (by rfl) (z4 (qv 0) (z4 (qv 2) z9))) (zr (qB T) (hr.mono (by omega)) (by rfl) (z4 (qv 0) (z4 (qv 2) z9)))))
  (zc (jW (zu (xS (jY hr)) zd (qv 3) (qv 2) (zn _))
  (zf (zB kY)) zK)
  (zc (zG (i:=2) xj.nd (zr (gb T) (hr.mono (by omega)) (by rfl) (z4 (qv 0) (z4 (qv 3) z9))))
  (zc (gS 100000 PassesOwn.leaving (uU (j3 (qv 1) (λ_=>rfl)) (uU (zu (xS (jY hr)) zd (zZ (xT hr) (qv 1) (aj zg) (λ_ _=>rfl)) zQ (zn _)) (uf (zu (xS (jY hr)) zd (xC (qv 0) (jk (qv 2)) (jk (jH wP zd (qv 2) zg))) zQ (zn _))))).pt
  (zc (VZ (i:=1) (vo (Vx PySem.F.plainAttrs_list PySem.F.slot_list_pop PySem.F.type_list_pop Vy (pv 1))))
  (zf (zG (i:=2) xj.nd (zr (gb T) (hr.mono (by omega)) (by rfl) (z4 (qv 0) (z4 (jH wP zd (qv 2) zg) z9)))))))
  (zc (jW (v7 (j3 (qv 1) (λ_=>rfl)))
  (zf (zB (qT (xS (jY hr)) zd (qv 2) (zA xw (by rfl) T.yH xv (z4 (qv 0) z9)) (zn _)))) zK)
  (zc (jW (gO (zu (d8 (jY hr)) zd (zZ (xT hr) (qv 1) (aj zg) (λ_ _=>rfl)) zQ (zn _)) (kj (zu (d8 (jY hr)) zd (xC (qv 0) (jk (qv 2)) (jk (jH wP zd (qv 2) zg))) zQ (zn _)))).pt
  (zf (zB kY)) zK)
  (zc (YT (i:=1) (aj zg) zQ (λtk te pk pe=>cz pe (Va (pv 1) pk Z2)))
  (zf (bp lY (i:=2) xj.nd zg))))))))))))))
theorem vR:ji P w K mg base 5 "tells_kind" ["looked","text"] (j0 c) :=
 Xc T.yA rfl T.yh my (λ_ _ _ _ _ _=>xV λ_ _=>rfl) λf cdv A outer s H E hr=>oG (bB T) (hr.mono (by omega)) (xT hr) rfl (by rfl) (by first | exact Or.inl rfl | exact Or.inr (Or.inl rfl) | exact Or.inr (Or.inr rfl)) (by first | exact Or.inl rfl | exact Or.inr (Or.inl rfl) | exact Or.inr (Or.inr rfl))
theorem kC:ji P w K mg base 6 "are_parts" ["looked","parts"] (jq c) :=
 zH.ok3 T.yi iI (λ_ _ _ _ _ _=>xV λ_ _=>rfl) λf cdv A outer s H E hr=>(zf (zB (vY (zr (fj T) (hr.mono (by omega)) (by rfl) (z4 (wU rfl (j9.of:j9 ["looked","parts"] (z6 vv) _ "part" [] []) rfl (qk (qv 1)) (λcl C ex pn s₀ H₀=>xf) (λcl C ex pn s₀ H₀=>(zZ (xT hr) (qv 0) zg (λ_ _=>rfl)))) z9)) (kO (zA (fU rfl) (by rfl) T.yC fG (z4 (wU rfl (j9.of:j9 ["looked","parts"] (z6 vv) _ "part" ["looked"] [0]) rfl (qk (qv 1)) (λcl C ex pn s₀ H₀=>xf) (λcl C ex pn s₀ H₀=>(zr (vR T) (hr.mono (by omega)) (by rfl) (z4 (qv 1) (z4 (zZ (xT hr) (qv 0) zg (λ_ _=>rfl)) z9))))) z9))))))
theorem kU:ji P w K mg base 6 "is_told_kind" ["looked","title","made"] (ju c) :=
 zH.ok3 T.yj u7 (λ_ _ _ _ _ _=>fe λ_ _ _=>rfl) λf cdv A outer s H E hr=>(zc (jW (gO (zu (YM (X7 hr)) zd (qv 1) (X6 (by rfl) T.yP) (by with_unfolding_all rfl)) (kj (v7 (j3 (zr (vR T) (hr.mono (by omega)) (by rfl) (z4 (qv 0) (z4 (qv 1) z9))) (λ_=>rfl))))).pt
  (zf (zB kY)) zK)
  (zf (zB (QO (zr (gB T) (hr.mono (by omega)) (by rfl) (z4 (qv 1) z9)) (kO (da (qv 2)))))))
theorem iO:ji P w K mg base 7 "is_choice" ["looked","title","made","forms"] (xH c) :=
 zH.ok3 T.yn iJ (λ_ _ _ _ _ _=>J6 λ_ _ _ _=>rfl) λf cdv A outer s H E hr=>(zf (zB (vY (zr (kU T) (hr.mono (by omega)) (by rfl) (z4 (qv 0) (z4 (qv 1) (z4 (qv 2) z9)))) (kO (zr (kC T) (hr.mono (by omega)) (by rfl) (z4 (qv 0) (z4 (qv 3) z9)))))))
theorem nP:ji P w K mg base 7 "is_function" ["looked","name","plain","places","back","faults"] (jN c) :=
 zH.ok3 T.yo nM (λ_ _ _ _ _ _=>G0 λ_ _ _ _ _ _=>rfl) λf cdv A outer s H E hr=>(zc (jW (gO (v7 (j3 (zr (gB T) (hr.mono (by omega)) (by rfl) (z4 (qv 1) z9)) (λ_=>rfl))) (kj (v7 (j3 (zr (vR T) (hr.mono (by omega)) (by rfl) (z4 (qv 0) (z4 (qv 4) z9))) (λ_=>rfl))))).pt
  (zf (zB kY)) zK)
  (zc (jW (gO (zu o8 zd (qv 2) zg (zn _)) (kj (zu VV zd (qv 2) (zA xw (by rfl) T.yH xv (z4 (qv 3) z9)) (zn _)))).pt
  (zf (zB kY)) zK)
  (zf (zB (vY (zr (kC T) (hr.mono (by omega)) (by rfl) (z4 (qv 0) (z4 (qv 3) z9))) (kO (zr (fj T) (hr.mono (by omega)) (by rfl) (z4 (qv 5) z9))))))))
theorem ua:ji P w K mg base 1 "may_be_field" ["made","due","sure"] xk :=
 zH.ok3 T.yk u8 (λ_ _ _ _ _ _=>fe λ_ _ _=>rfl) λf cdv A outer s H E hr=>(zc (jW (j3 (qv 0) (λ_=>rfl))
  (zf (zB (QO (qv 1) (kO (da (qv 2)))))) zK)
  (zf (zB (da (qv 1)))))
theorem iP:ji P w K mg base 7 "is_record" ["looked","title","made","fields"] (xI c) :=
 zH.ok3 T.ym iK (λ_ _ _ _ _ _=>J6 λ_ _ _ _=>rfl) λf cdv A outer s H E hr=>(zc (jW (gO (v7 (j3 (zr (kU T) (hr.mono (by omega)) (by rfl) (z4 (qv 0) (z4 (qv 1) (z4 (qv 2) z9)))) (λ_=>rfl))) (kj (v7 (j3 (zr (kC T) (hr.mono (by omega)) (by rfl) (z4 (qv 0) (z4 (qv 3) z9))) (λ_=>rfl))))).pt
  (zf (zB kY)) zK)
  (zf (zB (zA (fU rfl) (by rfl) T.yC fG (z4 (wU rfl (j9.of:j9 ["looked","title","made","fields"] (z6 qq) _ "field" ["made"] [2]) rfl (qk (qv 3)) (λcl C ex pn s₀ H₀=>xf) (λcl C ex pn s₀ H₀=>(zr (ua T) (hr.mono (by omega)) (by rfl) (z4 (qv 1) (z4 (zZ (xT hr) (qv 0) zg (λ_ _=>rfl)) (z4 (zZ (xT hr) (qv 0) zg (λ_ _=>rfl)) z9)))))) z9)))))
theorem dR:ji P w K mg base 8 "is_piece" ["looked","piece"] (xG c) :=
 zH.ok3 T.yp dN (λ_ _ _ _ _ _=>xV λ_ _=>rfl) λf cdv A outer s H E hr=>(zc (jW (zu (xS (jY hr)) zd (zZ (xT hr) (qv 1) zg (λ_ _=>rfl)) zQ (zn _))
  (zf (zB (zr (iP T) (hr.mono (by omega)) (by rfl) (z4 (qv 0) (z4 (zZ (xT hr) (qv 1) zg (λ_ _=>rfl)) (z4 (zZ (xT hr) (qv 1) zg (λ_ _=>rfl)) (z4 (zZ (xT hr) (qv 1) zg (λ_ _=>rfl)) z9))))))) zK)
  (zc (jW (zu (xS (jY hr)) zd (zZ (xT hr) (qv 1) zg (λ_ _=>rfl)) zQ (zn _))
  (zf (zB (zr (iO T) (hr.mono (by omega)) (by rfl) (z4 (qv 0) (z4 (zZ (xT hr) (qv 1) zg (λ_ _=>rfl)) (z4 (zZ (xT hr) (qv 1) zg (λ_ _=>rfl)) (z4 (zZ (xT hr) (qv 1) zg (λ_ _=>rfl)) z9))))))) zK)
  (zf (zB (zr (nP T) (hr.mono (by omega)) (by rfl) (z4 (qv 0) (z4 (zZ (xT hr) (qv 1) zg (λ_ _=>rfl)) (z4 (zZ (xT hr) (qv 1) zg (λ_ _=>rfl)) (z4 (zZ (xT hr) (qv 1) zg (λ_ _=>rfl)) (z4 (zZ (xT hr) (qv 1) zg (λ_ _=>rfl)) (z4 (zZ (xT hr) (qv 1) zg (λ_ _=>rfl)) z9)))))))))))
theorem vD:ji P w K mg base 1 "by_names" ["parts"] jt :=
 zH.ok3 T.yq dO (λ_ _ _ _ _ _=>qX λ_=>rfl) λf cdv A outer s H E hr=>(zf (zB (uV ZG (by rfl) T.yN uG (z4 (zA ot (by rfl) T.yL o5 (z4 (qv 0) z9)) z9))))
theorem bC:ji P w K mg base 2 "settled" ["piece"] jO :=
 zH.ok3 T.yr gz (λ_ _ _ _ _ _=>qX λ_=>rfl) λf cdv A outer s H E hr=>(zc (jW (zu (xS (jY hr)) zd (zZ (xT hr) (qv 0) zg (λ_ _=>rfl)) zQ (zn _))
  (zf (zB (jH wP zd (xC (qv 0) qI (jk zg)) (wQ (z4 (zr (vD T) (hr.mono (by omega)) (by rfl) (z4 (zZ (xT hr) (qv 0) zg (λ_ _=>rfl)) z9)) z9))))) zK)
  (zc (jW (zu (xS (jY hr)) zd (zZ (xT hr) (qv 0) zg (λ_ _=>rfl)) zQ (zn _))
  (zf (zB (jH wP zd (xC (qv 0) qI (jk zg)) (wQ (z4 (zr (vD T) (hr.mono (by omega)) (by rfl) (z4 (zZ (xT hr) (qv 0) zg (λ_ _=>rfl)) z9)) z9))))) zK)
  (zc (zG (i:=1) gz.nd (zZ (xT hr) (qv 0) zg (λ_ _=>rfl)))
  (zc (zG (i:=2) gz.nd (jH wP zd (xC (zZ (xT hr) (qv 0) zg (λ_ _=>rfl)) qI (jk (qv 1))) (zr (vD T) (hr.mono (by omega)) (by rfl) (z4 (xC (zZ (xT hr) (qv 0) zg (λ_ _=>rfl)) (jk (qv 1)) qI) z9))))
  (zf (zB (jH wP zd (xC (qv 0) qI (jk zg)) (wQ (z4 (qv 2) (z4 (zZ (xT hr) (qv 0) zg (λ_ _=>rfl)) (z4 (zr (vD T) (hr.mono (by omega)) (by rfl) (z4 (zZ (xT hr) (qv 0) zg (λ_ _=>rfl)) z9)) z9)))))))))))
theorem k8 (F:∃ f fd,cr K "__init__" "Face.__init__" wO f fd/\Mk K c.Face f)(hx:mg "Face" = some (.ref c.Face))(hc:cH K c.Face):dy P w K mg base 9 c.Face "Face" ["self","pieces"] (zX c) :=
 dy.ok F hx k7 (im rfl) (λ_ _ _ _ _ _=>xV λ_ _=>rfl) λf cdv A outer s H E hr=>oF k7.nd rfl rfl (xT hr) PassesOwn.leaving hc T.wE T.wD (by decide) (by rfl) T.yE (by first | exact Or.inl rfl | exact Or.inr (Or.inl rfl) | exact Or.inr (Or.inr rfl)) (by first | exact Or.inl rfl | exact Or.inr (Or.inl rfl) | exact Or.inr (Or.inr rfl)) (by first | exact Or.inl rfl | exact Or.inr (Or.inl rfl) | exact Or.inr (Or.inr rfl)) (by first | exact Or.inl rfl | exact Or.inr rfl) (by first | exact Or.inl rfl | exact Or.inr rfl) (by first | exact Or.inl rfl | exact Or.inr rfl) (by first | exact Or.inl rfl | exact Or.inr rfl) (by first | exact Or.inl rfl | exact Or.inr rfl) (by first | exact Or.inl rfl | exact Or.inr rfl) (by first | exact Or.inl rfl | exact Or.inr rfl) (by first | exact Or.inl rfl | exact Or.inr rfl) (J4 T.yA)
  (zu (xS (jY hr)) zd (zZ (xT hr) (qv 4) zg (λ_ _=>rfl)) zQ (zn _))
  (gO (zu (YM (X7 hr)) zd (zZ (xT hr) (qv 4) zg (λ_ _=>rfl)) (qv 5) (by with_unfolding_all rfl)) (kj (v7 (j3 (zr (dR T) (hr.mono (by omega)) (by rfl) (z4 (qv 2) (z4 (qv 4) z9))) (λ_=>rfl))))).pt
  (zZ (xT hr) (qv 4) zg (λ_ _=>rfl))
  (zr (bC T) (hr.mono (by omega)) (by rfl) (z4 (qv 4) z9))
theorem ub {x:Str}{C:Addr}(h:oM K mg x "FaceError.__init__" xi C):Km P w K mg base x C :=
 oM.ok h qc rfl (λ_ _ _ _ _ _=>xV λ_ _=>rfl)
theorem dS:ji P w K mg base 4 "row_kind" ["face","kinds","row"] (ky c) :=
 zH.ok3 T.y4 pW (λ_ _ _ _ _ _=>fe λ_ _ _=>rfl) λf cdv A outer s H E hr=>(zc (jW (v7 (j3 (zr (mD T) (hr.mono (by omega)) (by rfl) (z4 (qv 2) (z4 (zA xw (by rfl) T.yH xv (z4 (qv 1) z9)) z9))) (λ_=>rfl)))
  (zf (zB kK)) zK)
  (Kk (n:=1) 3 (by exact T.yU) (hr.mono (by omega)) ⟨⟨_,_,_,rfl,dQ T,by decide⟩,⟨⟨_,_,_,rfl,iL T,by decide⟩,⟨⟨_,_,_,rfl,iM T,by decide⟩,⟨⟨_,_,_,rfl,iN T,by decide⟩,trivial⟩⟩⟩⟩ (by rfl) (zZ (xT hr) (qv 2) zg (λ_ _=>rfl)) (US (i:=3) pW.nd) (pv 3) (z4 (qv 0) (z4 (qv 1) (z4 (qv 2) z9)))))
theorem pX:ji P w K mg base 5 "kinds_of" ["face","client"] (xl c) :=
 zH.ok3 T.y6 wo (λ_ _ _ _ _ _=>xV λ_ _=>rfl) λf cdv A outer s H E hr=>(zc (zG (i:=2) wo.nd (gR z9))
  (zc (Kh PassesOwn.leaving rfl (Ki (by rfl) T.yE (qv 1)) (fY rfl (jT (jd (i:=3) wo.nd) (jT (jd (i:=4) wo.nd) fX)))
  (zc (zG (i:=5) wo.nd (zr (dS T) (hr.mono (by omega)) (by rfl) (z4 (qv 0) (z4 (qv 2) (z4 (qv 4) z9)))))
  (zc (jW (zu lh zd (qv 5) kK (zn _))
  (zf (Xn (ub T T.wI) (hr.mono (by omega)) (by rfl) (qv 3))) zK)
  (zf (am (i:=2) (qv 5) (λte pe=>vo (mP PySem.F.plainAttrs_list PySem.F.slot_list_append PySem.F.type_list_append wW (pv 2) (xK pe vH))))))))
  (zf (uW 2))))
theorem nQ:ji P w K mg base 6 "lets_by" ["face","client"] (v3 c) :=
 zH.ok3 T.y8 bA (λ_ _ _ _ _ _=>xV λ_ _=>rfl) λf cdv A outer s H E hr=>(zc (Jm rfl rfl (by rfl) T.wG (λ_ h=>(List.mem_cons.mp h).elim (λe=>e ▸ T.wK) λh=>nomatch h) trivial (λ_ _=>(zf (VY (zr (pX T) (hr.mono (by omega)) (by rfl) (z4 (qv 0) (z4 (qv 1) z9)))))) λ_=>(zf (zB kY)))
  (zf (zB kY)))
theorem uc:ji P w K mg base 1 "_law_cell_at" ["_law_script","_law_k"] jj :=
 zH.ok3 T.yt u9 (λ_ _ _ _ _ _=>xV λ_ _=>rfl) λf cdv A outer s H E hr=>(zc (jW (zu o8 zd (qv 1) (zA xw (by rfl) T.yH xv (z4 (qv 0) z9)) (zn _))
  (zf (zB (zZ (xT hr) (qv 0) (qv 1) (λ_ _=>rfl)))) zK)
  (zf (zB zg)))
theorem kW:∀ n:Nat,ji P w K mg base (n + 1) "_law_alike" ["_law_found","_law_due"] (j5 n)
 | 0=>ji.never T.yu (λ_ _ _ _ _ _=>xV λ_ _=>rfl)
 | n + 1=>(zH.ok3 (k:=n + 1) T.yu mB (λ_ _ _ _ _ _=>xV λ_ _=>rfl) λf cdv A outer s H E hr=>(zc (jW (zu lh zd (qv 1) kK (zn _))
  (zf (zB (qT lh zd (qv 0) kK (zn _)))) zK)
  (zc (jW (j3 (zA xN (by rfl) T.yG zM (z4 (qv 1) (z4 (v9 (by rfl) T.yD lO) z9))) (λ_=>rfl))
  (zf (zB (vY (zA xN (by rfl) T.yG zM (z4 (qv 0) (z4 (v9 (by rfl) T.yD lO) z9))) (kO (qT (xS (jY hr)) zd (qv 0) (qv 1) (zn _)))))) zK)
  (zc (jW (j3 (zA xN (by rfl) T.yG zM (z4 (qv 1) (z4 (v9 (by rfl) T.yF Zj) z9))) (λ_=>rfl))
  (zf (zB (vY (zA xN (by rfl) T.yG zM (z4 (qv 0) (z4 (v9 (by rfl) T.yF Zj) z9))) (vY (da (zA xN (by rfl) T.yG zM (z4 (qv 0) (z4 (v9 (by rfl) T.yD lO) z9)))) (kO (qT (xS (jY hr)) zd (qv 0) (qv 1) (zn _))))))) zK)
  (zc (jW (j3 (zA xN (by rfl) T.yG zM (z4 (qv 1) (z4 (v9 (by rfl) T.yM cV) z9))) (λ_=>rfl))
  (zf (zB (vY (zA xN (by rfl) T.yG zM (z4 (qv 0) (z4 (v9 (by rfl) T.yM cV) z9))) (kO (qT (xS (jY hr)) zd (qv 0) (qv 1) (zn _)))))) zK)
  (zc (jW (gO (zu (d8 (jY hr)) zd (zA xN (by rfl) T.yG zM (z4 (qv 1) (z4 (v9 (by rfl) T.yN uG) z9))) (zA xN (by rfl) T.yG zM (z4 (qv 0) (z4 (v9 (by rfl) T.yN uG) z9))) (zn _)) (kj (zu (d8 (jY hr)) zd (zA xN (by rfl) T.yG zM (z4 (qv 1) (z4 (v9 (by rfl) T.yI lP) z9))) (zA xN (by rfl) T.yG zM (z4 (qv 0) (z4 (v9 (by rfl) T.yI lP) z9))) (zn _)))).pt
  (zf (zB kY)) zK)
  (zc (jW (zu (d8 (jY hr)) zd (zA xw (by rfl) T.yH xv (z4 (qv 0) z9)) (zA xw (by rfl) T.yH xv (z4 (qv 1) z9)) (zn _))
  (zf (zB kY)) zK)
  (zf (zB (zA (fU rfl) (by rfl) T.yC fG (z4 (wU rfl (j9.of:j9 ["_law_found","_law_due"] (z6 ko) _ "_law_k" ["_law_found","_law_due"] [0,1]) rfl (om (by rfl) T.yJ (z4 (zA xw (by rfl) T.yH xv (z4 (qv 1) z9)) z9)) (λcl C ex pn s₀ H₀=>xf) (λcl C ex pn s₀ H₀=>(zr (kW n) (hr.mono (by omega)) (by rfl) (z4 (zZ (xT hr) (qv 1) (qv 0) (λ_ _=>rfl)) (z4 (zZ (xT hr) (qv 2) (qv 0) (λ_ _=>rfl)) z9))))) z9))))))))))).mono (by omega)
theorem gc:ji P w K mg base 9 "_law_alike" ["_law_found","_law_due"] jr:=kW T 8
theorem qC:ji P w K mg base 6 "_law_looked" ["_law_face","_law_client"] (jP c) :=
 zH.ok3 T.yw j6 (λ_ _ _ _ _ _=>xV λ_ _=>rfl) λf cdv A outer s H E hr=>(zc (zG (i:=2) j6.nd kK)
  (zc (zG (i:=3) j6.nd kK)
  (zc (zG (i:=4) j6.nd kY)
  (zc (Jm rfl rfl (by rfl) T.wG (λ_ h=>(List.mem_cons.mp h).elim (λe=>e ▸ T.wK) λh=>nomatch h) ⟨j6.nd,rfl,rfl⟩ (λ_ _=>(zf (zG (i:=2) j6.nd (zr (pX T) (hr.mono (by omega)) (by rfl) (z4 (qv 0) (z4 (qv 1) z9)))))) λ_=>(zc (zG (i:=3) j6.nd (G8 (λ_ h=>(List.mem_cons.mp h).elim (λe=>e ▸ T.wJ) λh=>nomatch h) (qv 5)))
  (zf (zG (i:=4) j6.nd (vY (Jn (by rfl) T.yG (kb (v:=.ref c.FaceError) (by rfl) T.wF rfl) (λ_ h=>h) (λ_ h=>(List.mem_cons.mp h).elim (λe=>e ▸ ⟨T.wJ,T.wL⟩) λh=>nomatch h) (qv 5)) (vY (Jn (by rfl) T.yG (bP (v:=.ty "ValueError") (by rfl) T.yB (u:=.type "ValueError") (by decide +kernel) rfl) (λ_ h=>h) (λ_ h=>(List.mem_cons.mp h).elim (λe=>e ▸ ⟨T.wJ,T.wN⟩) λh=>nomatch h) (qv 5)) (kO (da (Jn (by rfl) T.yG (kb (v:=.ref c.NoFace) (by rfl) T.wH rfl) (λ_ h=>h) (λ_ h=>(List.mem_cons.mp h).elim (λe=>e ▸ ⟨T.wJ,T.wM⟩) λh=>nomatch h) (qv 5))))))))))
  (zf (zB (wQ (z4 (qv 2) (z4 (qv 3) (z4 (qv 4) z9))))))))))
theorem dU:ji P w K mg base 1 "_law_row" ["_law_cell","_law_kinds"] vf :=
 zH.ok3 T.yx xm (λ_ _ _ _ _ _=>xV λ_ _=>rfl) λf cdv A outer s H E hr=>(zc (zG (i:=2) xm.nd (jH gL zd (qv 0) zg))
  (zc (zG (i:=0) xm.nd (jH Zt zd (qv 0) zg))
  (zc (zG (i:=3) xm.nd (jH wP zd (zZ (xT hr) (gR (z4 zQ (z4 zQ (z4 zQ (z4 zQ z9))))) (jH gL zd (qv 0) zg) (λ_ _=>rfl)) (uV K2 (by rfl) T.yM cV (z4 (jH gL zd (qv 0) (jH dE zd zg zg)) z9))))
  (zc (jW (zu (xS (jY hr)) zd (qv 2) zg (zn _))
  (zf (zB (wQ (z4 zQ (z4 (jH d7 zd (jH gL zd (qv 0) (jH dE zd zg zg)) (jH dE zd zg zg)) z9))))) zK)
  (zc (jW (zu (xS (jY hr)) zd (qv 2) zg (zn _))
  (zf (zB (wQ (z4 zQ (z4 (qv 3) z9))))) zK)
  (zc (Xj (i:=4) xm.nd rfl (by first | exact .inl rfl | exact .inr rfl) (xs:=["_law_k","_law_kind_here"]) rfl (j9.of:j9 ["_law_cell","_law_kinds","_law_way","_law_text","_law_some","_law_x"] (z6 gv) _ "_law_k" ["_law_way"] [2]) (by decide +kernel) rfl (Xk (by rfl) T.yE (qv 1)) (λcl C ex pn s₀ H₀=>(fY rfl (jT (jd (i:=0) (show List.Nodup (["_law_k","_law_kind_here","_law_way"]:List Str) by decide +kernel)) (jT (jd (i:=1) (show List.Nodup (["_law_k","_law_kind_here","_law_way"]:List Str) by decide +kernel)) fX)))) (λcl C ex pn s₀ H₀=>(ax (zu (xS (jY hr)) zd (qv 1) (zZ (xT hr) (gR (z4 zQ (z4 zQ z9))) (jH d7 zd (qv 2) zg) (λ_ _=>rfl)) (zn _)))) (λcl C ex pn s₀ H₀=>(qv 0)))
  (zc (zG (i:=5) xm.nd (jH d7 zd (jH gL zd (jH Zt zd (qv 0) zg) (jH wP zd (zA xw (by rfl) T.yH xv (z4 (qv 1) z9)) zg)) zg))
  (zc (jW (uU (zu (d8 (jY hr)) zd (qv 4) (gR z9) (zn _)) (uf (zu VV zd (jH gL zd (qv 0) zg) zg (zn _)))).pt
  (zf (zG (i:=5) xm.nd (zZ (xT hr) (qv 4) (jH gL zd (jH Zt zd (qv 0) zg) (zA xw (by rfl) T.yH xv (z4 (qv 4) z9))) (λ_ _=>rfl)))) zK)
  (zc (jW (zu (xS (jY hr)) zd (qv 2) zg (zn _))
  (zf (zB (wQ (z4 zQ (z4 (qv 5) (z4 (jH d7 zd (jH gL zd (qv 0) (jH dE zd zg zg)) (jH dE zd zg zg)) z9)))))) zK)
  (zf (zB (wQ (z4 zQ (z4 (qv 5) (z4 (qv 3) z9)))))))))))))))
theorem iQ:ji P w K mg base 1 "_law_kind" ["_law_row_here","_law_kinds"] vB :=
 zH.ok3 T.yy kB (λ_ _ _ _ _ _=>xV λ_ _=>rfl) λf cdv A outer s H E hr=>(zc (jW (zu (YM (X7 hr)) zd (zZ (xT hr) (qv 0) zg (λ_ _=>rfl)) (wQ (z4 zQ (z4 zQ z9))) (by with_unfolding_all rfl))
  (zf (zB (zZ (xT hr) (qv 0) zg (λ_ _=>rfl)))) zK)
  (zc (zG (i:=2) kB.nd zQ)
  (zc (jW (zu (xS (jY hr)) zd (zZ (xT hr) (qv 0) zg (λ_ _=>rfl)) zQ (zn _))
  (zf (zG (i:=2) kB.nd zQ)) zK)
  (zc (jW (uU (ZQ VU o8 zg (zZ (xT hr) (qv 0) zg (λ_ _=>rfl)) (zA xw (by rfl) T.yH xv (z4 (qv 1) z9))) (uf (zu (xS (jY hr)) zd (zZ (xT hr) (qv 1) (zZ (xT hr) (qv 0) zg (λ_ _=>rfl)) (λ_ _=>rfl)) (qv 2) (zn _)))).pt
  (zf (uW 2)) zK)
  (zf (zB kK))))))
theorem Kt {f:Addr}{fd:FuncData}(Fl:cr K "law" "law" aL f fd):xR P w K mg base (nZ P w) 11 f fd ["_law_script"] (pI K (WC c)) :=
 cr.ok3 Fl xn λcdv A outer s H E hr=>(zc (zG (i:=1) xn.nd (ZX (k8 T T.wC T.wA T.wB) (hr.mono (by omega)) (by rfl) (z4 (gR z9) z9)))
  (zc (jW (zu (xS (jY hr)) zd (jH gL zd (zr (uc T) (hr.mono (by omega)) (by rfl) (z4 (qv 0) (z4 zg z9))) zg) zg (zn _))
  (zc (zG (i:=2) xn.nd (gR (z4 (wQ (z4 zQ (z4 zQ (z4 kY (z4 (wQ z9) z9))))) (z4 (wQ (z4 zQ (z4 zQ (z4 zg (z4 (wQ z9) (z4 zQ (z4 (wQ (z4 zQ z9)) z9))))))) z9))))
  (zf (zG (i:=1) xn.nd (ZX (k8 T T.wC T.wA T.wB) (hr.mono (by omega)) (by rfl) (z4 (qv 2) z9))))) zK)
  (zc (zG (i:=3) xn.nd (gR z9))
  (zc (zG (i:=4) xn.nd (gR z9))
  (zc (Wl PassesOwn.leaving rfl (QS (xC (qv 0) (jk zg) (jk zg))) (jd (i:=5) xn.nd)
  (zc (zG (i:=6) xn.nd (zr (dU T) (hr.mono (by omega)) (by rfl) (z4 (qv 5) (z4 (qv 4) z9))))
  (zc (am (i:=3) (qv 6) (λte pe=>vo (mP PySem.F.plainAttrs_list PySem.F.slot_list_append PySem.F.type_list_append wW (pv 3) (xK pe vH))))
  (zc (zG (i:=7) xn.nd (zr (iQ T) (hr.mono (by omega)) (by rfl) (z4 (qv 6) (z4 (qv 4) z9))))
  (zc (jW (zu lh zd (qv 7) kK (zn _))
  (zf YR) zK)
  (zf (am (i:=4) (qv 7) (λte pe=>vo (mP PySem.F.plainAttrs_list PySem.F.slot_list_append PySem.F.type_list_append wW (pv 4) (xK pe vH))))))))))
  (zc (zG (i:=8) xn.nd (uV YX (by rfl) T.yI lP (z4 (qv 3) z9)))
  (zc (ZR (zr (qC T) (hr.mono (by omega)) (by rfl) (z4 (qv 1) (z4 (qv 8) z9))) (fY rfl (jT (jd (i:=9) xn.nd) (jT (jd (i:=10) xn.nd) (jT (jd (i:=11) xn.nd) fX)))))
  (zc (jW (gO (v7 (j3 (qv 11) (λ_=>rfl))) (kj (zu (d8 (jY hr)) zd (qv 8) (qv 3) (zn _)))).pt
  (zf (zB kY)) zK)
  (zc (jW (zu o8 zd (zA xw (by rfl) T.yH xv (z4 (qv 4) z9)) (zA xw (by rfl) T.yH xv (z4 (qv 3) z9)) (zn _))
  (zc (jW (gO (v7 (j3 (zr (gc T) (hr.mono (by omega)) (by rfl) (z4 (qv 10) (z4 (zA xw (by rfl) T.yH xv (z4 (qv 4) z9)) z9))) (λ_=>rfl))) (kj (zu Ji zd (zr (nQ T) (hr.mono (by omega)) (by rfl) (z4 (qv 1) (z4 (qv 3) z9))) kY (zn _)))).pt
  (zf (zB kY)) zK)
  (zc (zG (i:=3) xn.nd (xC (qv 3) qI (jk (aj zg))))
  (zf (ZR (zr (qC T) (hr.mono (by omega)) (by rfl) (z4 (qv 1) (z4 (qv 3) z9))) (fY rfl (jT (jd (i:=9) xn.nd) (jT (jd (i:=10) xn.nd) (jT (jd (i:=11) xn.nd) fX)))))))) zK)
  (zf (zB (vY (qT lh zd (qv 10) kK (zn _)) (vY (zr (gc T) (hr.mono (by omega)) (by rfl) (z4 (qv 9) (z4 (qv 4) z9))) (kO (qT lh zd (zr (nQ T) (hr.mono (by omega)) (by rfl) (z4 (qv 1) (z4 (qv 3) z9))) kY (zn _))))))))))))))))
end
theorem vg {t:MT}{a b:MS}{env:En}(h:jJ t env=.ok true):jp t a b env=a env:=by
 unfold jp;rw [h]
 rfl
theorem zw {t:MT}{a:MS}{env:En}(h:jJ t env=.ok false):jp t a zk env=.nx env:=by
 unfold jp;rw [h]
 rfl
theorem zb {a b:MS}{e e':En}(h:a e=.nx e'):ze a b e=b e':=by unfold ze;rw [h]
theorem gC {a b:MS}{e:En}{r:RV}(h:a e=.rt r):ze a b e=.rt r:=by unfold ze;rw [h]
theorem xo {t:MT}{a c:MS}{env:En}{r:RV}(h:jJ t env=.ok true)(g:a env=.rt r):ze (jp t a zk) c env=.rt r:=gC ((vg h).trans g)
theorem vC {a:ME}{m:MA}{env:En}{r:RV}{rs:List RV}(h:a env=.ok r)(g:m env=.ok rs):z3 a m env=.ok (r :: rs):=by
 unfold z3;rw [h,bind_ok,g]
 rfl
theorem v2 {f:T->T->Option RV}{a b:ME}{env:En}{p q:Bool}{x y:T}{r:RV}(h:a env=.ok (p,x))(g:b env=.ok (q,y))(k:f x y=some r):m2 f a b env=.ok r:=by
 unfold m2;rw [h,bind_ok,g,bind_ok];show rl (f x y)=_;rw [k]
 rfl
theorem vF {f:MF}{m:MA}{env:En}{rs:List RV}{r:RV}(h:m env=.ok rs)(g:f rs=.ok r):z7 f m env=.ok r:=by
 unfold z7;rw [h];exact g
theorem vK {f:List T->Option RV}{m:MA}{env:En}{rs:List RV}{r:RV}(h:m env=.ok rs)(g:f (rs.map (·.2))=some r):zm f m env=.ok r:=by
 unfold zm;rw [h,bind_ok,g]
 rfl
theorem vL {m:MA}{env:En}{rs:List RV}{ts:List T}(h:m env=.ok rs)(e:rs.map (·.2)=ts)(hl:Nat.ble rs.length 100=true):wy m env=.ok (true,.lst ts):=by
 unfold wy;rw [h,bind_ok,if_pos (Nat.le_trans (Nat.le_of_ble_eq_true hl) (by decide)),e]
theorem vV {i:Nat}{env:En}{b:Bool}{t:T}(h:env[i]? = some (some (b,t))):mV i env=.ok (false,t):=by
 unfold mV;rw [h]
theorem vT {m:ME}{env:En}{p b:Bool}(h:m env=.ok (p,.bl b)):zS m env=.ok b:=by
 unfold zS;rw [h]
 rfl
theorem av {a b:ME}{env:En}{p:Bool}{r:RV}(h:a env=.ok (p,.bl true))(g:b env=.ok r):jl a b env=.ok r:=by
 unfold jl;rw [h];exact g
theorem dW {a b:MT}{env:En}{x y:Bool}(h:a env=.ok x)(g:b env=.ok y):jS a b env=.ok (x && y):=by
 unfold jS;rw [h,bind_ok];cases x
 ·rfl
 ·exact g
theorem vS {m:ME}{ml mh:MO}{env:En}{p:Bool}{x:T}{l h:Option Int}{r:RV}(a:m env=.ok (p,x))(b:ml env=.ok l)(c:mh env=.ok h)(d:Zv x l h=some r):kZ m ml mh env=.ok r:=by
 unfold kZ;rw [a,bind_ok,b,bind_ok,c,bind_ok,d]
 rfl
theorem vP {m:MA}{env:En}{rs:List RV}{ts:List T}(h:m env=.ok rs)(e:rs.map (·.2)=ts)(hl:Nat.ble rs.length 100=true):jI m env=.ok (false,.tup ts):=by
 unfold jI;rw [h,bind_ok,if_pos (Nat.le_trans (Nat.le_of_ble_eq_true hl) (by decide)),e]
theorem mF {a b:MT}{env:En}{x:vX Bool}(h:a env=.ok false)(g:b env=x):wv a b env=x:=by
 unfold wv;rw [h];exact g
theorem iR {m:ME}{env:En}{p:Bool}(h:m env=.ok (p,.bl true)):jc (wX m) env=.ok false:=by
 unfold jc wX;rw [h]
 rfl
theorem vN {m:ME}{env:En}{p:Bool}{i:Int}(h:m env=.ok (p,.int i)):zy m env=.ok (some i):=by
 unfold zy;rw [h]
 rfl
theorem zR {m:MT}{env:En}{b:Bool}(h:m (hide env)=.ok b):jJ m env=.ok b:=by
 unfold jJ;rw [h]
theorem zW {n k:Nat}{mb:MS}{rs:List RV}{r:RV}(hl:rs.length=k)(h:mb (xb n rs)=.rt r):zL n k mb rs=.ok r:=by
 unfold zL;rw [if_pos hl,h]
 rfl
theorem zp {i:Nat}{m:ME}{env:En}{r:RV}(h:m (hide env)=.ok r):zo i m env=.nx (env.set i (some r)):=by
 unfold zo jw;rw [h]
theorem zt {m:ME}{env:En}{r:RV}(h:m (hide env)=.ok r):zl m env=.rt r:=by
 unfold zl jw;rw [h]
theorem aO {a b:MT}{env:En}(h:a env=.ok false):jS a b env=.ok false:=by
 unfold jS;rw [h]
 rfl
theorem fk {t:MT}{b:MS}{env:En}{n:Nat}(h:jJ t env=.ok false):zT t b (n + 1) env=.nx env:=by
 unfold zT;rw [h]
 rfl
theorem dX {t:MT}{b:MS}{env e:En}{n:Nat}(h:jJ t env=.ok true)(g:b env=.nx e):zT t b (n + 1) env=zT t b n e:=by
 conv=>lhs;unfold zT
 rw [h];dsimp only;rw [if_pos rfl,g]
theorem Jy {t:MT}{b:MS}{env:En}{n:Nat}{r:RV}(h:jJ t env=.ok true)(g:b env=.rt r):zT t b (n + 1) env=.rt r:=by
 conv=>lhs;unfold zT
 rw [h];dsimp only;rw [if_pos rfl,g]
theorem G9 {t:MT}{b c:MS}{env e:En}{n:Nat}(h:jJ t env=.ok true)(g:b env=.nx e):ze (zT t b (n + 1)) c env=ze (zT t b n) c e:=by
 unfold ze;rw [dX h g]
theorem Xz {m:MT}{a b:ME}{env:En}(h:m env=.ok true):gP m a b env=a env:=by
 unfold gP;rw [h]
 rfl
theorem XA {m:MT}{a b:ME}{env:En}(h:m env=.ok false):gP m a b env=b env:=by
 unfold gP;rw [h]
 rfl
theorem aP {z:Str}(h:z.length<=sizeLine):jA [.str z]=some (false,.int (z.length:Int)):=if_pos h
theorem oR {i j:Int}{b:Bool}(h:decide (i < j)=b):wR (.int i) (.int j)=some (false,.bl b):=by
 rw [<- h]
 rfl
theorem iS {i:Nat}{m:ME}{env:En}{ts:List T}{r:RV}(h:env[i]? = some (some (true,.lst ts)))(hm:m (hide env)=.ok r)(hl:ts.length < sizeLine):vZ i m env=.nx (env.set i (some (true,.lst (ts ++ [r.2])))):=by
 unfold vZ jw;rw [h,hm];dsimp only;rw [h];dsimp only;rw [if_pos hl]
theorem xJ {m:MT}{env:En}{b:Bool}(hH:m (hide env)=.bad)(hE:m env=.ok b):jJ m env=.ok b:=by
 unfold jJ;rw [hH,hE]
theorem uk {m:ME}{env:En}{r:RV}(hE:m env=.ok r)(hH:m (hide env)=.bad):zl m env=.rt r:=by
 unfold zl jw;rw [hH,hE]
theorem Ga {i:Nat}{env:En}{ts:List T}{b:Bool}(h:mV i env=.ok (false,.lst ts))(e:ts.isEmpty=b):wX (mV i) env=.ok (!b):=by
 unfold wX;rw [h,<- e]
 rfl
theorem Ku {i:Nat}{env:En}{ts:List T}(h:env[i]? = some (some (true,.lst ts)))(e:ts.isEmpty=false):uX i env=.nx (env.set i (some (true,.lst ts.dropLast))):=by
 unfold uX;rw [h];dsimp only;rw [if_neg λz=>by rw [z] at e;cases e]
theorem U0 {a b:MT}{env:En}(h:a env=.ok true):wv a b env=.ok true:=by
 unfold wv;rw [h]
 rfl
theorem lr {m:ME}{env:En}{r:RV}(h:m (hide env)=.ok r):jw m env=.ok (r,env):=by
 unfold jw;rw [h]
theorem Jz {i:Nat}{mk mv:ME}{env:En}{ts:List T}{r:RV}{p:Bool}{k:Int}{j:Nat}(hv:jw mv env=.ok (r,env))(hi:env[i]? = some (some (true,.lst ts)))(hk:mk (hide env)=.ok (p,.int k))(hx:bV ts.length k=some j):fO i mk mv env=.nx (env.set i (some (true,.lst (ts.set j r.2)))):=by
 unfold fO;rw [hv];dsimp only;rw [hi];dsimp only;rw [lr hk];dsimp only;rw [hi];dsimp only;rw [hx]
theorem xQ {env:En}{r:RV}(h1:lX r=true)(h2:o9 r=true)(h3:og r=true):L3.clean env r=true:=by
 unfold L3.clean;simp [h1,h2,h3]
theorem pY (a:Int){b:Int}(h:0 < b):wj (.int a) (.int b)=some (false,.int (a % b)):=if_pos h
theorem UV {a b:ME}{env:En}{p x y:Bool}(h:a env=.ok (p,.bl x))(g:b env=.ok (false,.bl y)):d9 a b env=.ok (false,.bl (x || y)):=by
 unfold d9;rw [h];cases x
 ·exact g
 ·rfl
theorem U1 {a:ME}{env:En}{p x:Bool}(h:a env=.ok (p,.bl x)):kN a env=.ok (false,.bl (!x)):=by
 unfold kN;rw [h]
 rfl
theorem XB {i j:Int}{b:Bool}(h:decide (i<=j)=b):gM (.int i) (.int j)=some (false,.bl b):=by
 rw [<- h]
 rfl
theorem XD {i j:Int}{b:Bool}(h:decide (j < i)=b):lU (.int i) (.int j)=some (false,.bl b):=by
 rw [<- h]
 rfl
theorem U2 {a b:ME}{env:En}{p:Bool}(h:a env=.ok (p,.bl false)):jl a b env=.ok (false,.bl false):=by
 unfold jl;rw [h]
 rfl
theorem aQ {α:Type}(l:List α)(e:Nat):m3 l (e:Int)=l[e]? := by
 cases h:l[e]? with
 | some v=>exact Yu h
 | none =>
  have hl:l.length<=e:=by simpa using h
  have e1:bV l.length (e:Int)=none:=by
   unfold bV;rw [if_pos (by omega),if_neg (by omega)]
  unfold m3;rw [e1]
  rfl
theorem Kv (c:Nat)(z:Str):qN (.str ⟨#[c]⟩) (.str z)=some (false,.bl (decide (c∈z.cps.toList))):=by
 show Option.map _ (some (!(Builtin.Str.occurrences z ⟨#[c]⟩ 0 z.length 1).isEmpty))=_;rw [StrLaws.found_one]
 rfl
theorem iU (z sg:Str)(s:Int)(hz:z.length<=sizeLine):∀ (n e fuel:Nat),z.length - e=n->e<=z.length->n < fuel ->
  zT (jS (zS (m2 wR (mV 3) (zm jA (z3 (mV 0) z5)))) (zS (m2 qN (m2 zq (mV 0) (mV 3)) (mV 2)))) (m9 3 gV (mC (.int 1))) fuel
   [some (false,.str z),some (false,.int s),some (false,.str sg),some (false,.int e)] =
  .nx [some (false,.str z),some (false,.int s),some (false,.str sg),some (false,.int (Fs.runEnd z.cps.toList e sg.cps.toList))]:=by
 intro n
 induction n with
 | zero =>
  intro e fuel hn he hf;obtain ⟨f,rfl⟩:∃ f,fuel=f + 1:=⟨fuel - 1,by omega⟩
  have hl:¬ ((e:Int) < (z.length:Int)):=by omega
  rw [Fs.runEnd_out (by show z.cps.size<=e;have:z.length=z.cps.size:=rfl;omega)];exact fk (zR (aO (vT (v2 rfl (vK (vC rfl rfl) (aP hz)) (oR (decide_eq_false hl))))))
 | succ n ih =>
  intro e fuel hn he hf;obtain ⟨f,rfl⟩:∃ f,fuel=f + 1:=⟨fuel - 1,by omega⟩
  have hl:(e:Int) < (z.length:Int):=by omega
  have hlt:e < z.cps.toList.length:=by have:z.length=z.cps.size:=rfl;simp;omega
  obtain ⟨c,hget⟩:∃ c,z.cps.toList[e]? = some c:=⟨z.cps.toList[e],List.getElem?_eq_getElem hlt⟩
  have hx:zq (.str z) (.int (e:Int))=some (false,.str ⟨#[c]⟩):=by
   show (if z.length<=sizeLine then (m3 z.cps.toList (e:Int)).map _ else none)=_;rw [if_pos hz,aQ,hget]
   rfl
  have ht:jJ (jS (zS (m2 wR (mV 3) (zm jA (z3 (mV 0) z5)))) (zS (m2 qN (m2 zq (mV 0) (mV 3)) (mV 2)))) [some (false,.str z),some (false,.int s),some (false,.str sg),some (false,.int (e:Int))]=.ok (true && decide (c∈sg.cps.toList)):=zR (dW (vT (v2 rfl (vK (vC rfl rfl) (aP hz)) (oR (decide_eq_true hl)))) (vT (v2 (v2 rfl rfl hx) rfl (Kv c sg))))
  by_cases hm:c∈sg.cps.toList
  ·rw [<- Fs.runEnd_go hget hm,<- ih (e + 1) f (by omega) (by omega) (by omega)]
   rw [decide_eq_true hm] at ht;exact dX ht rfl
  ·rw [Fs.runEnd_stop hget hm]
   rw [decide_eq_false hm] at ht;exact fk ht
theorem nR (z sg:Str)(s:Nat)(hz:z.length<=sizeLine)(h2:z.length < 99999)(hs:s<=z.length) :
  qK [(false,.str z),(false,.int s),(false,.str sg)]=.ok (false,.int (Fs.runEnd z.cps.toList s sg.cps.toList)):=by
 have h:=iU z sg s hz (z.length - s) s 100000 rfl hs (by omega);exact zW rfl ((zb (zp rfl)).trans (zb h))
theorem bD:("abcdefghijklmnopqrstuvwxyz" : Str).cps.toList=Fs.letters:=by decide +kernel
theorem bE:("0123456789" : Str).cps.toList=Fs.figures:=by decide +kernel
theorem Gb:("." : Str)=⟨#[46]⟩:=by decide +kernel
theorem U3:("(" : Str)=⟨#[40]⟩:=by decide +kernel
theorem Kw:(")" : Str)=⟨#[41]⟩:=by decide +kernel
theorem JA:("&" : Str)=⟨#[38]⟩:=by decide +kernel
theorem JB:("#" : Str)=⟨#[35]⟩:=by decide +kernel
theorem kD (i j:Int):zI (.int i) (.int j)=some (false,.bl (decide (i=j))):=by
 simp [zI,gj,eY];exact Bool.eq_iff_iff.mpr (by simp)
theorem kF (x y:Str):zI (.str x) (.str y)=some (false,.bl (decide (x=y))):=by
 simp [zI,gj,eY];exact Bool.eq_iff_iff.mpr (by simp)
theorem iV (x y:Str):wu (.str x) (.str y)=some (false,.bl (!decide (x=y))):=by
 simp [wu,gj,eY];exact Bool.eq_iff_iff.mpr (by simp)
theorem wt {i:Nat}{w v:Str}{env:En}{t:T}{b:Bool}(h:mV i env=.ok (false,t))(hx:zq t (.int 0)=some (false,.str w))(hb:decide (w=v)=b):zS (m2 zI (m2 zq (mV i) (mC (.int 0))) (mC (.str v))) env=.ok b:=by
 rw [<- hb];exact vT (v2 (v2 h rfl hx) rfl (kF w v))
theorem Kx {z y:Str}{e c:Nat}(hy:y=⟨#[c]⟩):zI (.str (u4 z (some (e:Int)) (some ((e:Int) + 1)))) (.str y)=some (false,.bl (decide (z.cps.toList[e]? = some c))):=by
 rw [kF,<- ae (z:=z) (e:=e) hy]
 congr 3
 exact decide_eq_decide.mpr ⟨λh=>by rw [h],λh=>by injection h⟩
def U4:ME:=kZ (mV 0) (zy (mV 2)) (zy (m2 jb (mV 2) (mC (.int 1))))
theorem JC {z:Str}(hz:z.length<=sizeLine){e:Nat}{env:En}(h0:mV 0 env=.ok (false,.str z))(h2:mV 2 env=.ok (false,.int (e:Int))):U4 env=.ok (false,.str (u4 z (some (e:Int)) (some ((e:Int) + 1)))):=vS h0 (vN h2) (vN (v2 h2 rfl rfl)) (if_pos hz)
theorem dY {z y:Str}{c:Nat}(hy:y=⟨#[c]⟩)(hz:z.length<=sizeLine){e:Nat}{env:En}(h0:mV 0 env=.ok (false,.str z))(h2:mV 2 env=.ok (false,.int (e:Int))):zS (m2 zI (kZ (mV 0) (zy (mV 2)) (zy (m2 jb (mV 2) (mC (.int 1))))) (mC (.str y))) env=.ok (decide (z.cps.toList[e]? = some c)):=vT (v2 (JC hz h0 h2) rfl (Kx hy))
theorem qE (z:Str)(s:Nat)(hz:z.length<=sizeLine)(h2:z.length < 99999)(hs:s<=z.length) :
  jC [(false,.str z),(false,.int s)]=.ok (false,.int (Fs.nameEnd z.cps.toList s)):=by
 have h:=nR z "abcdefghijklmnopqrstuvwxyz" s hz h2 hs;rw [bD] at h;have hge:=Fs.runEnd_ge z.cps.toList s Fs.letters;unfold Fs.nameEnd
 by_cases h12:Fs.runEnd z.cps.toList s Fs.letters - s<=12
 ·have hi:(Fs.runEnd z.cps.toList s Fs.letters:Int) - (s:Int)<=12:=by omega
  rw [if_pos h12];exact zW rfl ((zb (zp (vF (vC rfl (vC rfl (vC rfl rfl))) h))).trans (zt ((Xz (vT (v2 (v2 rfl rfl rfl) rfl (XB (decide_eq_true hi))))).trans rfl)))
 ·have hi:¬ ((Fs.runEnd z.cps.toList s Fs.letters:Int) - (s:Int)<=12):=by omega
  rw [if_neg h12];exact zW rfl ((zb (zp (vF (vC rfl (vC rfl (vC rfl rfl))) h))).trans (zt ((XA (vT (v2 (v2 rfl rfl rfl) rfl (XB (decide_eq_false hi))))).trans rfl)))
theorem mG (z:Str)(s:Nat)(hz:z.length<=sizeLine)(h2:z.length < 99999)(hs:s + 1<=z.length) :
  xP [(false,.str z),(false,.int s)]=.ok (false,.int (Fs.numberEnd z.cps.toList s)):=by
 have h:=nR z "0123456789" (s + 1) hz h2 hs;rw [bE] at h;have hc:((s + 1:Nat):Int)=(s:Int) + 1:=by omega
 rw [hc] at h;unfold Fs.numberEnd
 by_cases h12:s + 1 < Fs.runEnd z.cps.toList (s + 1) Fs.figures
 ·have hi:(s:Int) + 1 < (Fs.runEnd z.cps.toList (s + 1) Fs.figures:Int):=by omega
  rw [if_pos h12];exact zW rfl ((zb (zp (vF (vC rfl (vC (v2 rfl rfl rfl) (vC rfl rfl))) h))).trans (zt ((Xz (vT (v2 rfl (v2 rfl rfl rfl) (XD (decide_eq_true hi))))).trans rfl)))
 ·have hi:¬ ((s:Int) + 1 < (Fs.runEnd z.cps.toList (s + 1) Fs.figures:Int)):=by omega
  rw [if_neg h12];exact zW rfl ((zb (zp (vF (vC rfl (vC (v2 rfl rfl rfl) (vC rfl rfl))) h))).trans (zt ((XA (vT (v2 rfl (v2 rfl rfl rfl) (XD (decide_eq_false hi))))).trans rfl)))
theorem nS (z:Str)(hz:z.length<=sizeLine)(h2:z.length < 99999):jM [(false,.str z)]=.ok (false,.bl (Fs.isName z.cps.toList)):=by
 have h:=qE z 0 hz h2 (Nat.zero_le _);have hl:z.cps.toList.length=z.length:=by simp [Str.length]
 have he:(z = "")↔z.cps.toList=[]:=by
  constructor
  ·rintro rfl;decide +kernel
  ·intro h
   obtain ⟨cps⟩:=z;simp at h;subst h
   decide +kernel
 have hn:(decide (z.cps.toList=[]))=decide (z = ""):=decide_eq_decide.mpr he.symm;unfold Fs.isName;rw [hl,hn];have h:jC [(false,.str z),(false,.int 0)]=.ok (false,.int (Fs.nameEnd z.cps.toList 0)):=h
 by_cases h0:z = ""
 ·have n0:=iV z ""
  rw [decide_eq_true h0] at n0;rw [decide_eq_true h0];exact zW rfl (zt (U2 (v2 rfl rfl n0)))
 ·have n0:=iV z ""
  rw [decide_eq_false h0] at n0;rw [decide_eq_false h0];have e:=kD (Fs.nameEnd z.cps.toList 0:Int) (z.length:Int);rw [show decide ((Fs.nameEnd z.cps.toList 0:Int)=(z.length:Int))=decide (Fs.nameEnd z.cps.toList 0=z.length) from decide_eq_decide.mpr (by omega)] at e;exact zW rfl (zt (av (v2 rfl rfl n0) (v2 (vF (vC rfl (vC rfl rfl)) h) (vK (vC rfl rfl) (aP hz)) e)))
theorem kX (z:Str):z.cps.toList.length=z.length:=by simp [Str.length]
theorem dZ (z:Str)(s:Int)(hz:z.length<=sizeLine)(hz2:z.length < 99999):∀ (n e fuel:Nat) (v:Option RV),kP v=v->z.length - e<=n->e<=z.length->n < fuel ->
  ze (zT (zS (m2 zI (kZ (mV 0) (zy (mV 2)) (zy (m2 jb (mV 2) (mC (.int 1))))) (mC (.str "."))))
   (ze (zo 3 (z7 jC (z3 (mV 0) (z3 (m2 jb (mV 2) (mC (.int 1))) z5))))
   (ze (jp (zS (m2 zI (mV 3) (m2 jb (mV 2) (mC (.int 1))))) (vp 2) zk) (zo 2 (mV 3)))) fuel) (vp 2)
   [some (false,.str z),some (false,.int s),some (false,.int e),v]=.rt (false,.int (Fs.pointsEnd z.cps.toList e)):=by
 have ht:∀ (e:Nat) (v:Option RV),jJ (zS (m2 zI (kZ (mV 0) (zy (mV 2)) (zy (m2 jb (mV 2) (mC (.int 1))))) (mC (.str ".")))) [some (false,.str z),some (false,.int s),some (false,.int e),v]=.ok (decide (z.cps.toList[e]? = some 46)):=λe v=>zR (dY Gb hz rfl rfl);intro n
 induction n with
 | zero =>
  intro e fuel v hv hn he hf;obtain ⟨f,rfl⟩:∃ f,fuel=f + 1:=⟨fuel - 1,by omega⟩
  have h:¬ z.cps.toList[e]? = some 46:=λh=>by have:=(List.getElem?_eq_some_iff.mp h).1;rw [kX] at this;omega
  have ht:=ht e v;rw [decide_eq_false h] at ht;rw [Fs.pe_no h];exact zb (fk ht)
 | succ n ih =>
  intro e fuel v hv hn he hf;obtain ⟨f,rfl⟩:∃ f,fuel=f + 1:=⟨fuel - 1,by omega⟩
  have ht:=ht e v
  by_cases h:z.cps.toList[e]? = some 46
  ·have hl:e < z.length:=by have:=(List.getElem?_eq_some_iff.mp h).1;rwa [kX] at this
   rw [decide_eq_true h] at ht;have hne:=qE z (e + 1) hz hz2 hl;have hc:((e + 1:Nat):Int)=(e:Int) + 1:=by omega
   rw [hc] at hne;have hq:=kD (Fs.nameEnd z.cps.toList (e + 1):Int) ((e:Int) + 1)
   by_cases h2:e + 1 < Fs.nameEnd z.cps.toList (e + 1)
   ·have h3:=Fs.nameEnd_lt h2
    rw [kX] at h3;rw [decide_eq_false (by omega)] at hq;rw [Fs.pe_go h h2,<- ih (Fs.nameEnd z.cps.toList (e + 1)) f (some (false,.int (Fs.nameEnd z.cps.toList (e + 1)))) rfl (by omega) h3.2 (by omega)];exact G9 ht ((zb (zp (vF (vC rfl (vC (v2 rfl rfl rfl) rfl)) hne))).trans ((zb (zw (zR (vT (v2 rfl (v2 rfl rfl rfl) hq))))).trans (zp rfl)))
   ·have hi:(Fs.nameEnd z.cps.toList (e + 1):Int)=(e:Int) + 1:=by have:=Fs.nameEnd_ge z.cps.toList (e + 1);omega
    rw [decide_eq_true hi] at hq;rw [Fs.pe_bad h h2];exact gC (Jy ht ((zb (zp (vF (vC rfl (vC (v2 rfl rfl rfl) rfl)) hne))).trans (xo (zR (vT (v2 rfl (v2 rfl rfl rfl) hq))) rfl)))
  ·rw [decide_eq_false h] at ht
   rw [Fs.pe_no h];exact zb (fk ht)
theorem gd (z:Str)(s:Nat)(hz:z.length<=sizeLine)(h2:z.length < 99999)(hs:s<=z.length) :
  jD [(false,.str z),(false,.int s)]=.ok (false,.int (Fs.pointsEnd z.cps.toList s)):=by
 have h:=dZ z s hz h2 (z.length - s) s 100000 none rfl (Nat.le_refl _) hs (by omega);exact zW rfl ((zb (zp rfl)).trans h)
def qd (st:List Nat):List T:=st.reverse.map λc=>T.str ⟨#[c]⟩
theorem k9 (st:List Nat)(c:Nat):qd st ++ [T.str ⟨#[c]⟩]=qd (c :: st):=by simp [qd]
theorem kG (st:List Nat):(qd st).length=st.length:=by simp [qd]
theorem JD (st:List Nat)(c:Nat):(qd (c :: st)).dropLast=qd st:=by rw [<- k9,List.dropLast_concat]
theorem c5 (n:Nat):bV (n + 1) (-1)=some n:=by
 unfold bV;simp;omega
theorem Ky (st:List Nat)(c:Nat):m3 (qd (c :: st)) (-1)=some (T.str ⟨#[c]⟩):=by
 unfold m3;rw [kG,List.length_cons,c5];show (qd (c :: st))[st.length]? = _;rw [<- k9,List.getElem?_append_right (by rw [kG];exact Nat.le_refl _),kG];simp
theorem iW (st:List Nat)(c:Nat):zq (.lst (qd (c :: st))) (.int (-1))=some (false,.str ⟨#[c]⟩):=by
 show (m3 (qd (c :: st)) (-1)).map _=_;rw [Ky]
 rfl
theorem XE (st:List Nat)(c d:Nat):(qd (c :: st)).set st.length (T.str ⟨#[d]⟩)=qd (d :: st):=by
 rw [<- k9,<- k9,List.set_append_right _ _ (by rw [kG];exact Nat.le_refl _),kG];simp
theorem iX (st:List Nat)(c:Nat):(qd (c :: st)).isEmpty=false:=by
 rw [<- k9];cases qd st<;>rfl
theorem XF {y:Str}{c d:Nat}(hy:y=⟨#[d]⟩):zI (.str ⟨#[c]⟩) (.str y)=some (false,.bl (decide (c=d))):=by
 rw [kF];subst hy
 congr 3
 exact decide_eq_decide.mpr ⟨λh=>by injection h with h;simpa using h,λh=>by rw [h]⟩
theorem XG {y:Str}{c d:Nat}(hy:y=⟨#[d]⟩):wu (.str ⟨#[c]⟩) (.str y)=some (false,.bl (!decide (c=d))):=by
 rw [iV];subst hy
 congr 4
 exact decide_eq_decide.mpr ⟨λh=>by injection h with h;simpa using h,λh=>by rw [h]⟩
theorem Kz {z y:Str}{e c:Nat}(hy:y=⟨#[c]⟩):wu (.str (u4 z (some (e:Int)) (some ((e:Int) + 1)))) (.str y)=some (false,.bl (!decide (z.cps.toList[e]? = some c))):=by
 rw [iV,<- ae (z:=z) (e:=e) hy]
 congr 4
 exact decide_eq_decide.mpr ⟨λh=>by rw [h],λh=>by injection h⟩
theorem oS (z:Str)(hz:z.length < sizeLine):∀ (n b fuel:Nat) (st:List Nat) (v:Option RV),kP v=v->(∀ t∈st,t=38\/t=41)->z.length - b<=n->b<=z.length->st.length<=b->n < fuel ->
  ∃ (b':Nat) (tt:List Nat),zT (zS (m2 zI (kZ (mV 0) (zy (mV 2)) (zy (m2 jb (mV 2) (mC (.int 1))))) (mC (.str "(")))) (ze (vZ 1 (mC (.str "&"))) (m9 2 gV (mC (.int 1)))) fuel
   [some (false,.str z),some (true,.lst (qd st)),some (false,.int b),v]=.nx [some (false,.str z),some (true,.lst (qd tt)),some (false,.int b'),v] /\
   ¬ z.cps.toList[b']? = some 40/\b<=b'/\b'<=z.length/\tt.length<=b'/\(∀ t∈tt,t=38\/t=41)/\Fs.ans z.cps.toList tt b'=Fs.ans z.cps.toList st b:=by
 have hz':z.length<=sizeLine:=Nat.le_of_lt hz;have ht:∀ (b:Nat) (st:List Nat) (v:Option RV),jJ (zS (m2 zI (kZ (mV 0) (zy (mV 2)) (zy (m2 jb (mV 2) (mC (.int 1))))) (mC (.str "(")))) [some (false,.str z),some (true,.lst (qd st)),some (false,.int b),v]=.ok (decide (z.cps.toList[b]? = some 40)):=λb st v=>zR (dY U3 hz' rfl rfl);intro n
 induction n with
 | zero =>
  intro b fuel st v hv hst hn hb hl hf;obtain ⟨f,rfl⟩:∃ f,fuel=f + 1:=⟨fuel - 1,by omega⟩
  have h:¬ z.cps.toList[b]? = some 40:=λh=>by have:=(List.getElem?_eq_some_iff.mp h).1;rw [kX] at this;omega
  have ht:=ht b st v;rw [decide_eq_false h] at ht;exact ⟨b,st,fk ht,h,Nat.le_refl _,hb,hl,hst,rfl⟩
 | succ n ih =>
  intro b fuel st v hv hst hn hb hl hf;obtain ⟨f,rfl⟩:∃ f,fuel=f + 1:=⟨fuel - 1,by omega⟩
  have ht:=ht b st v
  by_cases h:z.cps.toList[b]? = some 40
  ·have hbl:b < z.length:=by have:=(List.getElem?_eq_some_iff.mp h).1;rwa [kX] at this
   rw [decide_eq_true h] at ht
   obtain ⟨b',tt,e,h1,h2,h3,h4,h5,h6⟩:=ih (b + 1) f (38 :: st) v hv (λt ht=>by
    rcases List.mem_cons.mp ht with rfl | ht
    ·exact .inl rfl
    ·exact hst t ht) (by omega) hbl (by rw [List.length_cons];omega) (by omega)
   refine ⟨b',tt,?_,h1,by omega,h3,h4,h5,by rw [h6,<- Fs.ans_open h]⟩;have hsl:st.length < sizeLine:=by omega
   rw [<- e,<- k9,<- JA];exact dX ht ((zb (iS (r:=(false,.str "&")) rfl rfl (by rw [kG];exact hsl))).trans rfl)
  ·rw [decide_eq_false h] at ht
   exact ⟨b,st,fk ht,h,Nat.le_refl _,hb,hl,hst,rfl⟩
def KA (cs:List Nat)(uu:List Nat)(c:Nat):Bool:=match uu with
 | []=>false
 | t :: _=>decide (t=41) && decide (cs[c]? = some 41)
theorem bF (z:Str)(hz:z.length<=sizeLine)(hz2:z.length < 99999):∀ (n c fuel:Nat) (uu:List Nat) (v:Option RV),kP v=v->(∀ t∈uu,t=38\/t=41)->uu.length<=n->c<=z.length->n < fuel ->
  ∃ (c':Nat) (ww:List Nat),zT (jS (wX (mV 1)) (jS (zS (m2 zI (m2 zq (mV 1) (fL (mC (.int 1)))) (mC (.str ")")))) (zS (m2 zI (kZ (mV 0) (zy (mV 2)) (zy (m2 jb (mV 2) (mC (.int 1))))) (mC (.str ")"))))))
   (ze (uX 1) (zo 2 (z7 jD (z3 (mV 0) (z3 (m2 jb (mV 2) (mC (.int 1))) z5))))) fuel
   [some (false,.str z),some (true,.lst (qd uu)),some (false,.int c),v]=.nx [some (false,.str z),some (true,.lst (qd ww)),some (false,.int c'),v] /\
   KA z.cps.toList ww c'=false/\c<=c'/\c'<=z.length/\ww.length<=uu.length/\(∀ t∈ww,t=38\/t=41)/\Fs.contP z.cps.toList ww c'=Fs.contP z.cps.toList uu c:=by
 have no:∀ (t:MT) (c:Nat) (uu:List Nat) (v:Option RV) (x:Bool),jS (wX (mV 1)) t [some (false,.str z),some (true,.lst (qd uu)),some (false,.int c),v]=.ok x->jJ (jS (wX (mV 1)) t) [some (false,.str z),some (true,.lst (qd uu)),some (false,.int c),v]=.ok x:=λt c uu v x h=>xJ rfl h;have ht:∀ (c t:Nat) (uu:List Nat) (v:Option RV),jJ (jS (wX (mV 1)) (jS (zS (m2 zI (m2 zq (mV 1) (fL (mC (.int 1)))) (mC (.str ")")))) (zS (m2 zI (kZ (mV 0) (zy (mV 2)) (zy (m2 jb (mV 2) (mC (.int 1))))) (mC (.str ")")))))) [some (false,.str z),some (true,.lst (qd (t :: uu))),some (false,.int c),v]=.ok (decide (t=41) && decide (z.cps.toList[c]? = some 41)):=λc t uu v=>no _ _ _ _ _ (dW (x:=true) (Ga rfl (iX uu t)) (dW (vT (v2 (v2 rfl rfl (iW uu t)) rfl (XF Kw))) (dY Kw hz rfl rfl)));intro n
 induction n with
 | zero =>
  intro c fuel uu v hv hu hn hc hf;obtain ⟨f,rfl⟩:∃ f,fuel=f + 1:=⟨fuel - 1,by omega⟩
  have:uu=[]:=List.length_eq_zero_iff.mp (Nat.le_zero.mp hn);subst this;exact ⟨c,[],fk (no _ _ _ _ _ (aO rfl)),rfl,Nat.le_refl _,hc,Nat.le_refl _,hu,rfl⟩
 | succ n ih =>
  intro c fuel uu v hv hu hn hc hf;obtain ⟨f,rfl⟩:∃ f,fuel=f + 1:=⟨fuel - 1,by omega⟩
  cases uu with
  | nil=>exact ⟨c,[],fk (no _ _ _ _ _ (aO rfl)),rfl,Nat.le_refl _,hc,Nat.le_refl _,hu,rfl⟩
  | cons t uu =>
   have ht:=ht c t uu v
   by_cases h:t=41/\z.cps.toList[c]? = some 41
   ·obtain ⟨rfl,h⟩:=h
    have hcl:c < z.length:=by have:=(List.getElem?_eq_some_iff.mp h).1;rwa [kX] at this
    rw [decide_eq_true h] at ht;have hpe:=gd z (c + 1) hz hz2 hcl;have hcc:((c + 1:Nat):Int)=(c:Int) + 1:=by omega
    rw [hcc] at hpe;have hge:=Fs.pointsEnd_ge z.cps.toList _ (c + 1) (Nat.le_refl _);rw [kX] at hge;obtain ⟨c',ww,e,h1,h2,h3,h4,h5,h6⟩:=ih (Fs.pointsEnd z.cps.toList (c + 1)) f uu v hv (λt ht=>hu t (List.mem_cons_of_mem _ ht)) (by rw [List.length_cons] at hn;omega) (hge.2 hcl) (by omega);refine ⟨c',ww,?_,h1,by omega,h3,by rw [List.length_cons];omega,h5,by rw [h6,<- Fs.contP_close h]⟩;rw [<- e,<- JD uu 41];exact dX ht ((zb (Ku rfl (iX uu 41))).trans (zp (vF (vC rfl (vC (v2 rfl rfl rfl) rfl)) hpe)))
   ·rw [<- Bool.decide_and,decide_eq_false h] at ht
    exact ⟨c,t :: uu,fk ht,(Bool.decide_and _ _).symm.trans (decide_eq_false h),Nat.le_refl _,hc,Nat.le_refl _,hu,rfl⟩
def fm:MS:=(ze (zT (zS (m2 zI (kZ (mV 0) (zy (mV 2)) (zy (m2 jb (mV 2) (mC (.int 1))))) (mC (.str "("))))
  (ze (vZ 1 (mC (.str "&")))
  (m9 2 gV (mC (.int 1)))) 100000)
  (ze (zo 3 (gP (zS (m2 zI (kZ (mV 0) (zy (mV 2)) (zy (m2 jb (mV 2) (mC (.int 1))))) (mC (.str "#")))) (z7 xP (z3 (mV 0) (z3 (mV 2) z5))) (z7 jC (z3 (mV 0) (z3 (mV 2) z5)))))
  (ze (jp (zS (m2 zI (mV 3) (mV 2)))
  (zl (mC (.bl false))) zk)
  (ze (zo 2 (z7 jD (z3 (mV 0) (z3 (mV 3) z5))))
  (ze (zT (jS (wX (mV 1)) (jS (zS (m2 zI (m2 zq (mV 1) (fL (mC (.int 1)))) (mC (.str ")")))) (zS (m2 zI (kZ (mV 0) (zy (mV 2)) (zy (m2 jb (mV 2) (mC (.int 1))))) (mC (.str ")"))))))
  (ze (uX 1)
  (zo 2 (z7 jD (z3 (mV 0) (z3 (m2 jb (mV 2) (mC (.int 1))) z5))))) 100000)
  (ze (jp (jc (wX (mV 1)))
  (zl (m2 zI (mV 2) (zm jA (z3 (mV 0) z5)))) zk)
  (ze (jp (wv (zS (m2 wu (m2 zq (mV 1) (fL (mC (.int 1)))) (mC (.str "&")))) (zS (m2 wu (kZ (mV 0) (zy (mV 2)) (zy (m2 jb (mV 2) (mC (.int 1))))) (mC (.str "&")))))
  (zl (mC (.bl false))) zk)
  (ze (fO 1 (fL (mC (.int 1))) (mC (.str ")")))
  (m9 2 gV (mC (.int 1)))))))))))
theorem ls (z:Str)(hz:z.length < sizeLine)(hz2:z.length < 99999)(a:Nat)(st:List Nat)(v:Option RV)(hv:kP v=v)(hst:∀ t∈st,t=38\/t=41)(ha:a<=z.length)(hsl:st.length<=a) :
  fm [some (false,.str z),some (true,.lst (qd st)),some (false,.int a),v]=.rt (false,.bl (Fs.ans z.cps.toList st a)) \/
  ∃ (c:Nat) (rest:List Nat) (v':Option RV),fm [some (false,.str z),some (true,.lst (qd st)),some (false,.int a),v]=.nx [some (false,.str z),some (true,.lst (qd (41 :: rest))),some (false,.int ((c + 1:Nat):Int)),v']/\kP v'=v'/\a<=c/\c < z.length/\rest.length < c /\
   (∀ t∈41 :: rest,t=38\/t=41)/\Fs.ans z.cps.toList (41 :: rest) (c + 1)=Fs.ans z.cps.toList st a:=by
 have hz':z.length<=sizeLine:=Nat.le_of_lt hz;unfold fm;obtain ⟨b,tt,e1,h40,hab,hb,htl,htt,hans⟩:=oS z hz (z.length - a) a 100000 st v hv hst (Nat.le_refl _) ha hsl (by omega);rw [zb e1,<- hans,Fs.ans_head h40];have hhe:=Fs.headEnd_le z.cps.toList b;rw [kX] at hhe
 -- end=..
 have e2:zo 3 (gP (zS (m2 zI (kZ (mV 0) (zy (mV 2)) (zy (m2 jb (mV 2) (mC (.int 1))))) (mC (.str "#")))) (z7 xP (z3 (mV 0) (z3 (mV 2) z5))) (z7 jC (z3 (mV 0) (z3 (mV 2) z5))))
   [some (false,.str z),some (true,.lst (qd tt)),some (false,.int b),v]=.nx [some (false,.str z),some (true,.lst (qd tt)),some (false,.int b),some (false,.int (Fs.headEnd z.cps.toList b))]:=by
  unfold Fs.headEnd
  by_cases h:z.cps.toList[b]? = some 35
  ·have hbl:b < z.length:=by have:=(List.getElem?_eq_some_iff.mp h).1;rwa [kX] at this
   have:=mG z b hz' hz2 hbl;rw [if_pos h];have hc:=dY JB hz' (e:=b) (env:=hide [some (false,.str z),some (true,.lst (qd tt)),some (false,.int b),v]) rfl rfl;rw [decide_eq_true h] at hc;exact zp ((Xz hc).trans (vF (vC rfl (vC rfl rfl)) this))
  ·have:=qE z b hz' hz2 hb
   rw [if_neg h];have hc:=dY JB hz' (e:=b) (env:=hide [some (false,.str z),some (true,.lst (qd tt)),some (false,.int b),v]) rfl rfl;rw [decide_eq_false h] at hc;exact zp ((XA hc).trans (vF (vC rfl (vC rfl rfl)) this))
 rw [zb e2]
 by_cases h3:Fs.headEnd z.cps.toList b=b
 ·have hq:=kD (Fs.headEnd z.cps.toList b:Int) (b:Int)
  rw [decide_eq_true (by omega)] at hq;rw [if_pos h3];exact .inl (xo (zR (vT (v2 rfl rfl hq))) (zt rfl))
 have hq:=kD (Fs.headEnd z.cps.toList b:Int) (b:Int);rw [decide_eq_false (by omega)] at hq;have hn3:jJ (zS (m2 zI (mV 3) (mV 2))) [some (false,.str z),some (true,.lst (qd tt)),some (false,.int b),some (false,.int (Fs.headEnd z.cps.toList b))]=.ok false:=zR (vT (v2 rfl rfl hq));rw [if_neg h3,zb (zw hn3)]
 -- at=points_end(text,end)
 have hpe:=gd z (Fs.headEnd z.cps.toList b) hz' hz2 (hhe.2 hb);have hge:=Fs.pointsEnd_ge z.cps.toList _ (Fs.headEnd z.cps.toList b) (Nat.le_refl _);rw [kX] at hge;rw [zb (e':=[some (false,.str z),some (true,.lst (qd tt)),some (false,.int (Fs.pointsEnd z.cps.toList (Fs.headEnd z.cps.toList b))),some (false,.int (Fs.headEnd z.cps.toList b))]) (zp (vF (vC rfl (vC rfl rfl)) hpe))];obtain ⟨c,uu,e3,hcl,hcc,hc,hul,huu,hcp⟩:=bF z hz' hz2 tt.length (Fs.pointsEnd z.cps.toList (Fs.headEnd z.cps.toList b)) 100000 tt (some (false,.int (Fs.headEnd z.cps.toList b))) rfl htt (Nat.le_refl _) (hge.2 (hhe.2 hb)) (by omega);rw [zb e3,<- hcp]
 cases uu with
 | nil =>
  refine .inl ?_;have hq:=kD (c:Int) (z.length:Int);rw [show decide ((c:Int)=(z.length:Int))=decide (c=z.length) from decide_eq_decide.mpr (by omega)] at hq;rw [Fs.contP_nil,kX];exact xo (xJ rfl rfl) (zt (v2 rfl (vK (vC rfl rfl) (aP hz')) hq))
 | cons t uu =>
  have he:jJ (jc (wX (mV 1))) [some (false,.str z),some (true,.lst (qd (t :: uu))),some (false,.int c),some (false,.int (Fs.headEnd z.cps.toList b))]=.ok false:=xJ rfl (by unfold jc;rw [Ga rfl (iX uu t)];rfl);rw [zb (zw he)]
  have hT:∀ x y:Bool,decide (t=38) = !x->decide (z.cps.toList[c]? = some 38) = !y->jJ (wv (zS (m2 wu (m2 zq (mV 1) (fL (mC (.int 1)))) (mC (.str "&")))) (zS (m2 wu (kZ (mV 0) (zy (mV 2)) (zy (m2 jb (mV 2) (mC (.int 1))))) (mC (.str "&"))))) [some (false,.str z),some (true,.lst (qd (t :: uu))),some (false,.int c),some (false,.int (Fs.headEnd z.cps.toList b))]=.ok (x || y):=λx y hx hy=>by
   have n1:=XG (c:=t) JA;have n2:=Kz (z:=z) (e:=c) JA;rw [hx,Bool.not_not] at n1;rw [hy,Bool.not_not] at n2;refine xJ rfl ?_;cases x
   ·exact mF (vT (v2 (v2 rfl rfl (iW uu t)) rfl n1)) (vT (v2 (JC hz' rfl rfl) rfl n2))
   ·exact U0 (vT (v2 (v2 rfl rfl (iW uu t)) rfl n1))
  have htop:t=38\/t=41:=huu t List.mem_cons_self
  by_cases ht:t=38
  ·subst ht
   by_cases h38:z.cps.toList[c]? = some 38
   ·have hclt:c < z.length:=by have:=(List.getElem?_eq_some_iff.mp h38).1;rwa [kX] at this
    refine .inr ⟨c,uu,some (false,.int (Fs.headEnd z.cps.toList b)),?_,rfl,by omega,hclt,by rw [List.length_cons] at hul;omega,λt ht => ?_,by rw [Fs.contP_amp h38]⟩
    ·rw [zb (zw (hT false false rfl (decide_eq_true h38))),<- XE uu 38 41,<- Kw]
     exact (zb (Jz (ts:=qd (38 :: uu)) (r:=(false,.str ")")) (k := -1) (lr rfl) rfl rfl (by rw [kG];exact c5 _))).trans rfl
    ·rcases List.mem_cons.mp ht with rfl | ht
     ·exact .inr rfl
     ·exact huu t (List.mem_cons_of_mem _ ht)
   ·refine .inl ?_
    rw [Fs.contP_no (.inr ⟨rfl,h38⟩)];exact xo (hT false true rfl (decide_eq_false h38)) (zt rfl)
  ·have ht41:t=41:=htop.resolve_left ht
   subst ht41
   have h41:¬ z.cps.toList[c]? = some 41:=by
    intro h;have hcl:decide (z.cps.toList[c]? = some 41)=false:=hcl;rw [decide_eq_true h] at hcl;cases hcl
   refine .inl ?_;rw [Fs.contP_no (.inl ⟨rfl,h41⟩)];cases hy:decide (z.cps.toList[c]? = some 38)
   ·exact xo (hT true true rfl hy) (zt rfl)
   ·exact xo (hT true false rfl hy) (zt rfl)
theorem oU (z:Str)(hz:z.length < sizeLine)(hz2:z.length < 99999):∀ (n a fuel:Nat) (st:List Nat) (v:Option RV),kP v=v->(∀ t∈st,t=38\/t=41)->z.length - a<=n->a<=z.length->st.length<=a->n < fuel ->
  zT (wX (mC (.bl true))) fm fuel [some (false,.str z),some (true,.lst (qd st)),some (false,.int a),v]=.rt (false,.bl (Fs.ans z.cps.toList st a)):=by
 intro n
 induction n with
 | zero =>
  intro a fuel st v hv hst hn ha hl hf;obtain ⟨f,rfl⟩:∃ f,fuel=f + 1:=⟨fuel - 1,by omega⟩
  rcases ls z hz hz2 a st v hv hst ha hl with e | ⟨c,rest,v',e,hv',hac,hc,hr,hrs,hans⟩
  ·exact Jy rfl e
  ·omega
 | succ n ih =>
  intro a fuel st v hv hst hn ha hl hf;obtain ⟨f,rfl⟩:∃ f,fuel=f + 1:=⟨fuel - 1,by omega⟩
  rcases ls z hz hz2 a st v hv hst ha hl with e | ⟨c,rest,v',e,hv',hac,hc,hr,hrs,hans⟩
  ·exact Jy rfl e
  ·rw [<- hans,<- ih (c + 1) f (41 :: rest) v' hv' hrs (by omega) hc (by rw [List.length_cons];omega) (by omega)]
   exact dX rfl e
theorem bG (z:Str)(hz:z.length < sizeLine)(hz2:z.length < 99999):m_is_kind [(false,.str z)]=.ok (false,.bl (Fs.isKind z.cps.toList)):=by
 have h:=oU z hz hz2 z.length 0 100000 [] none rfl (λt ht=>by cases ht) (by omega) (Nat.zero_le _) (Nat.le_refl _) (by omega);rw [<- Fs.isKind_ans] at h;exact zW rfl ((zb (zp (vL (rs:=[]) rfl rfl rfl))).trans ((zb (zp rfl)).trans h))
theorem XH (ns:List Int)(k:Nat):jj [(false,.lst (ns.map T.int)),(false,.int k)]=.ok (false,.int (ns.getD k 0)):=by
 by_cases h:k < ns.length
 ·have hi:(k:Int) < (ns.length:Int):=by omega
  simp [jj,zL,xb,vd,ze,jp,jJ,hide,kP,zS,m2,mV,zm,z3,z5,jA,wR,hi,zl,jw,zq,aQ,h,aq]
 ·have hi:¬ ((k:Int) < (ns.length:Int)):=by omega
  simp [jj,zL,xb,vd,ze,jp,jJ,hide,kP,zS,m2,mV,zm,z3,z5,jA,wR,hi,zl,jw,zk,mC,h,aq]
theorem big:1000 < sizeLine:=by decide
theorem add_str {x y:Str}(h:x.length + y.length<=1000):jb (.str x) (.str y)=some (false,.str (x ++ y)):=by
 show (if x.length + y.length<=sizeLine then _ else _)=_;rw [if_pos (by have:=big;omega)]
def WD (x:Nat):Nat:=1 + x % 12
def Ut (x:Nat):Nat:=x / 12 % WD x
def Gc (x:Nat):Nat:=[1,3,25,7].getD (x / 200 % 4) 1
def Gd (x k:Nat):Nat:=97 + (x / 800 + k * Gc x) % 26
def Ge (x k:Nat):Nat:=(WD x - Ut x - 1) / (1 + (x / 3200 + k) % 3)
def UW (x k:Nat):List Nat:=List.replicate (Ut x) 113 ++ Gd x k :: List.replicate (Ge x k) 113
def nm (x k:Nat):Str:=⟨(UW x k).toArray⟩
theorem a1 (x k st:Nat):((x:Int) / 800 + (k:Int) * (st:Int)) % 26=(((x / 800 + k * st) % 26:Nat):Int):=by simp
theorem a3 (x k:Nat):1 + ((x:Int) / 3200 + (k:Int)) % 3=((1 + (x / 3200 + k) % 3:Nat):Int):=by simp
theorem a4 (a b:Nat):(a:Int) / (b:Int)=((a / b:Nat):Int):=by simp
theorem d1 (x:Nat):rP (x:Int) 800:=⟨by omega,by omega⟩
theorem lu {tg:MG}{mb:MS}{t:T}{ts:List T}{env e1 e2:En}(h1:tg t env=some e1)(h2:mb e1=.nx e2):wk tg mb (t :: ts) env=wk tg mb ts e2:=by
 rw [wk,h1];dsimp only;rw [h2]
theorem GQ (ts:List T)(i:Nat):zq (.lst ts) (.int (i:Int))=ts[i]?.map λt=>(false,t):=by
 show Option.map (λt=>(false,t)) (m3 ts (i:Int))=_;rw [aQ]
theorem jE (ts:List T)(i:Nat):zq (.tup ts) (.int (i:Int))=ts[i]?.map λt=>(false,t):=by
 show Option.map (λt=>(false,t)) (m3 ts (i:Int))=_;rw [aQ]
def iT (xs:List Nat):List T:=xs.map λ(x:Nat)=>T.int (x:Int)
def sT (ys:List Str):List T:=ys.map T.str
theorem Gf (ys:List Str)(i:Nat):zq (.lst (sT ys)) (.int (i:Int))=ys[i]?.map λy=>(false,T.str y):=by
 rw [GQ];unfold sT;rw [List.getElem?_map];cases ys[i]?<;>rfl
section
variable {E:En}{b made du:Bool}{xs:List Nat}{k x:Nat}(h0:E[0]? = some (some (b,.lst (iT xs))))(h3:E[3]? = some (some (false,.bl made)))(h5:E[5]? = some (some (false,.int k)))(x1:zq (.lst (iT xs)) (.int (k:Int))=some (false,.int (x:Int)))
include h0 h3 h5 x1
end
theorem JE {m:MA}{env:En}{n:Nat}{b:Bool}(h:m env=.ok [(b,.int n)])(hj:(n:Int) < 2 ^ 62):ql m env=.ok (gW 0 n):=by
 unfold ql;rw [h,bind_ok];show (if -(2 ^ 62)<=(n:Int)/\(n:Int) < 2 ^ 62 then _ else _)=_;rw [if_pos ⟨by omega,hj⟩,Int.toNat_natCast]
def WE (x:Nat):Nat:=[0,1,2,3,2,12].getD (x % 6) 0
theorem Zl (x:Nat):WE x<=12:=by
 have h:x % 6 < 6:=Nat.mod_lt _ (by omega);unfold WE;generalize x % 6=i at h
 match i,h with
 | 0,_=>decide
 | 1,_=>decide
 | 2,_=>decide
 | 3,_=>decide
 | 4,_=>decide
 | 5,_=>decide
section
variable (t:Str)(c:Int)(ks:List Str)(xs:List Nat)(hx:xs.length=16)
include hx
end
theorem JF (ts:List T)(k:Nat):ki ts (some (k:Int)) none=ts.drop k:=by
 unfold ki;rw [HT.sIx_none,HT.sIx_nat]
 by_cases h:k<=ts.length
 ·rw [Nat.min_eq_left h,List.take_of_length_le (by simp)]
 ·rw [Nat.min_eq_right (by omega),List.drop_eq_nil_of_le (Nat.le_refl _),List.drop_eq_nil_of_le (by omega)]
  simp
theorem bI (ts:List T)(k:Nat):ki ts none (some (k:Int))=ts.take k:=by
 unfold ki;rw [HT.sIx_none,HT.sIx_nat]
 by_cases h:k<=ts.length
 ·rw [Nat.min_eq_left h];simp
 ·rw [Nat.min_eq_right (by omega)]
  simp;rw [List.take_of_length_le (by omega)]
theorem ka {i:Nat}{m:ME}{env:En}{r:RV}(hE:m env=.ok r)(hH:m (hide env)=.bad\/m (hide env)=.ok r)(hcl:L3.clean env r=true):zo i m env=.nx (env.set i (some r)):=by
 unfold zo jw
 rcases hH with h | h
 ·rw [h,hE]
  dsimp only;unfold L3.settle;rw [if_pos hcl]
 ·rw [h]
theorem ul {ts us:List T}(h:ts.length + us.length<=sizeLine):jb (.tup ts) (.tup us)=some (false,.tup (ts ++ us)):=by
 show (if ts.length + us.length<=sizeLine then some (false,T.tup (ts ++ us)) else none)=_;rw [if_pos h]
theorem add_int (i j:Int):jb (.int i) (.int j)=some (false,.int (i + j)):=rfl
end Law
namespace Law
open PySem L2 L3 PyProof.Rows
theorem c6:∀ (ys acc:List Str),(acc ++ ys).Nodup->ys.foldl step_dedup acc=acc ++ ys
 | [],acc,_=>by simp
 | y :: ys,acc,h=>by
  have hn:¬ (acc.any (· == y)=true):=by
   intro z;obtain ⟨a,ha,e⟩:=List.any_eq_true.mp z;have e:a=y:=by simpa using e
   subst e;rw [List.nodup_append] at h;exact h.2.2 a ha a List.mem_cons_self rfl
  rw [List.foldl_cons];have:step_dedup acc y=acc ++ [y]:=by unfold step_dedup;rw [if_neg hn]
  rw [this,c6 ys (acc ++ [y]) (by simpa using h)];simp
theorem pZ {ys:List Str}(h:ys.Nodup):qW ys=ys:=by
 have:=c6 ys [] (by simpa using h);simpa [qW] using this
theorem pj:∀ ys:List Str,xX (sT ys)=some ys
 | []=>rfl
 | y :: ys=>by
  show (xX (sT ys)).map _=_;rw [pj ys]
  rfl
theorem JG (ys:List Str):(sT ys).length=ys.length:=by simp [sT]
theorem vh {me:ME}{caps:En} : ∀ (ts:List T),(∀ t∈ts,∃ b,me (some (false,t) :: caps)=.ok (b,.bl true))->wm j4 me caps ts=.ok (List.replicate ts.length (.bl true))
 | [],_=>rfl
 | t :: ts,h=>by
  obtain ⟨b,hb⟩:=h t List.mem_cons_self;rw [wm];simp only [j4];rw [hb];dsimp only;rw [vh ts λu hu=>h u (List.mem_cons_of_mem _ hu)]
  rfl
theorem lv:∀ n:Nat,allB (List.replicate n (.bl true))=some (List.replicate n true)
 | 0=>rfl
 | n + 1=>by
  rw [List.replicate_succ];show (L3.allB (List.replicate n (.bl true))).map _=_;rw [lv n]
  rfl
theorem fo (n:Nat):gY [.lst (List.replicate n (.bl true))]=some (false,.bl true):=by
 show (L3.allB _).map _=_;rw [lv];simp
def c7 (t:T)(ts:List T):Prop:=t=.lst ts\/t=.tup ts
theorem lw {t:T}{ts:List T}(h:c7 t ts):km t=some ts:=by
 rcases h with rfl | rfl<;>rfl
theorem nU (f:MF)(env:En)(b:Bool)(t:T)(ys:List Str)(hr:c7 t (sT ys))(h0:env[0]? = some (some (b,t)))(hf:∀ y∈ys,f [(false,.str y)]=.ok (false,.bl true))(hl:ys.length < 900)(hn:ys.Nodup) :
  jl (zm gY (z3 (zU (jX (mV 0)) j4 (z7 f (z3 (mV 0) z5)) []) z5)) (m2 zI (f9 (mV 0)) (zm jA (z3 (mV 0) z5))) env=.ok (false,.bl true):=by
 have hc:zU (jX (mV 0)) j4 (z7 f (z3 (mV 0) z5)) [] env=.ok (true,.lst (List.replicate (sT ys).length (.bl true))):=by
  unfold zU jX;have hit:(mV 0 env).bind (λr=>rl (km r.2))=.ok (sT ys):=by simp [mV,h0,lw hr]
  rw [hit,bind_ok,if_pos (by rw [JG];have:=big;omega),vh (sT ys) λu hu=>by
   obtain ⟨y,hy,rfl⟩:=List.mem_map.mp hu;exact ⟨false,by simp [z7,z3,z5,mV,hf y hy]⟩]
 have hs:ij t=some ys.length:=by
  rcases hr with rfl | rfl
  ·show (xX (sT ys)).bind _=_
   rw [pj];show (if ys.length + 1 < scanBound then some (qW ys).length else none)=_;rw [if_pos (by unfold scanBound;omega),pZ hn]
  ·show (xX (sT ys)).bind _=_
   rw [pj];show (if ys.length + 1 < scanBound then some (qW ys).length else none)=_;rw [if_pos (by unfold scanBound;omega),pZ hn]
 have hle:jA [t]=some (false,.int ys.length):=by
  rcases hr with rfl | rfl<;>(show some (false,T.int ((sT ys).length:Int))=_;rw [JG])
 have ha:=fo (sT ys).length;simp [jl,zm,z3,z5,hc,ha,m2,f9,mV,h0,hs,hle,kD]
theorem fq {m:ME}{env:En}{r:RV}(hE:m env=.ok r)(hH:hide env=env):zl m env=.rt r:=by
 unfold zl jw;rw [hH,hE]
theorem ft (b:Bool)(t:T)(ys:List Str)(hr:c7 t (sT ys))(hf:∀ y∈ys,jM [(false,.str y)]=.ok (false,.bl true))(hl:ys.length < 900)(hn:ys.Nodup):jz [(b,t)]=.ok (false,.bl true):=by
 have hb:qu [some (b,t)]=.rt (false,.bl true):=by
  unfold qu;generalize jM=f at hf;have hE:=nU f [some (b,t)] b t ys hr rfl hf hl hn
  cases b with
  | false=>exact fq hE rfl
  | true=>exact uk hE (by simp [hide,kP,jl,zm,z3,zU,jX,mV])
 exact zW rfl hb
end Law
namespace Law
open PySem L2 L3
def um (P:List (Str×Str×List T)):List T:=P.map λp=>.tup (.str p.1 :: .str p.2.1 :: p.2.2)
theorem UX (y kd:Str)(r:List T):zq (.tup (.str y :: .str kd :: r)) (.int 0)=some (false,.str y):=by
 have:=jE (.str y :: .str kd :: r) 0;exact this
theorem UY (y kd:Str)(r:List T):zq (.tup (.str y :: .str kd :: r)) (.int 1)=some (false,.str kd):=by
 have:=jE (.str y :: .str kd :: r) 1;exact this
theorem aR {me:ME}{caps:En}{g:T->T} : ∀ (ts:List T),(∀ t∈ts,∃ b,me (some (false,t) :: caps)=.ok (b,g t))->wm j4 me caps ts=.ok (ts.map g)
 | [],_=>rfl
 | t :: ts,h=>by
  obtain ⟨b,hb⟩:=h t List.mem_cons_self;rw [wm];simp only [j4];rw [hb];dsimp only;rw [aR ts λu hu=>h u (List.mem_cons_of_mem _ hu)]
  rfl
def KB:T->T
 | .tup (y :: _)=>y
 | t=>t
theorem XI (P:List (Str×Str×List T)):(um P).map KB=sT (P.map (·.1)):=by
 unfold um sT;rw [List.map_map,List.map_map]
 rfl
theorem nV (c:CA)(m:Addr)(ks:List Str)(x:Str)(hx:x∈ks)(h:m_is_kind [(false,.str x)]=.ok (false,.bl true)):j0 c [(false,.mem m (c.memo ks m)),(false,.str x)]=.ok (false,.bl true):=by
 unfold j0 ld;dsimp only;rw [if_pos ⟨ks,rfl,hx⟩,h]
theorem nW (f g:MF)(env:En)(b:Bool)(M t:T)(P:List (Str×Str×List T))(hr:c7 t (um P))(hM:env[0]? = some (some (false,M)))(h0:env[1]? = some (some (b,t)))(hf:f [(true,.lst (sT (P.map (·.1))))]=.ok (false,.bl true))(hg:∀ p∈P,g [(false,M),(false,.str p.2.1)]=.ok (false,.bl true))(hl:P.length < 900) :
  jl (z7 f (z3 (zU (jX (mV 1)) j4 (m2 zq (mV 0) (mC (.int 0))) []) z5)) (zm gY (z3 (zU (jX (mV 1)) j4 (z7 g (z3 (mV 1) (z3 (m2 zq (mV 0) (mC (.int 1))) z5))) [0]) z5)) env=.ok (false,.bl true):=by
 have hlen:(um P).length=P.length:=by simp [um]
 have hit:jX (mV 1) env=.ok (um P):=by
  unfold jX;simp [mV,h0,lw hr]
 have c1:zU (jX (mV 1)) j4 (m2 zq (mV 0) (mC (.int 0))) [] env=.ok (true,.lst (sT (P.map (·.1)))):=by
  unfold zU
  rw [hit,bind_ok,if_pos (by rw [hlen];have:=big;omega),aR (g:=KB) (um P) λu hu=>by
   obtain ⟨p,hp,rfl⟩:=List.mem_map.mp hu;exact ⟨false,by simp [m2,mV,mC,UX,KB]⟩,XI]
 have c2:zU (jX (mV 1)) j4 (z7 g (z3 (mV 1) (z3 (m2 zq (mV 0) (mC (.int 1))) z5))) [0] env=.ok (true,.lst (List.replicate (um P).length (.bl true))):=by
  unfold zU
  rw [hit,bind_ok,if_pos (by rw [hlen];have:=big;omega),vh (um P) λu hu=>by
   obtain ⟨p,hp,rfl⟩:=List.mem_map.mp hu;exact ⟨false,by simp [z7,z3,z5,m2,mV,mC,qb,hM,UY,hg p hp]⟩]
 have ha:=fo (um P).length;simp [jl,z7,zm,z3,z5,c1,c2,hf,ha]
theorem iY (c:CA)(M t:T)(P:List (Str×Str×List T))(hr:c7 t (um P))(hf:jz [(true,.lst (sT (P.map (·.1))))]=.ok (false,.bl true))(hg:∀ p∈P,j0 c [(false,M),(false,.str p.2.1)]=.ok (false,.bl true))(hl:P.length < 900):jq c [(false,M),(false,t)]=.ok (false,.bl true):=by
 have hb:qw c [some (false,M),some (false,t)]=.rt (false,.bl true):=by
  unfold qw;generalize jz=f at hf;generalize j0 c=g at hg;exact fq (nW f g [some (false,M),some (false,t)] false M t P hr rfl rfl hf hg hl) rfl
 exact zW rfl hb
theorem KC (z a b:Str):qN (.str z) (.tup [.str a,.str b])=some (false,.bl (decide (a=z) || decide (b=z))):=by
 have e:∀ x y:Str,gj 40 (.str x) (.str y)=some (decide (x=y)):=λx y=>by
  simp [gj,eY];exact Bool.eq_iff_iff.mpr (by simp)
 show Option.map _ (qg (.str z) [.str a,.str b])=_;simp [qg,e]
theorem oV (f g:MF)(M:T)(z:Str)(made:Bool)(h1:("num" : Str)≠z)(h2:("word" : Str)≠z)(hk:g [(false,M),(false,.str z)]=.ok (false,.bl true))(nb:Bool)(hn:f [(false,.str z)]=.ok (false,.bl nb))(ho:nb=true\/made=false) :
  (ze (jp (wv (zS (m2 qN (mV 1) (mC (.tup (List.map T.str ["num","word"]))))) (jc (wX (z7 g (z3 (mV 0) (z3 (mV 1) z5)))))) (zl (mC (.bl false))) zk) (zl (d9 (z7 f (z3 (mV 1) z5)) (kN (mV 2))))) [some (false,M),some (false,.str z),some (false,.bl made)]=.rt (false,.bl true):=by
 have hi:=KC z "num" "word";rw [decide_eq_false h1,decide_eq_false h2] at hi;have hi':qN (.str z) (.tup [.str "num",.str "word"])=some (false,.bl false):=hi;refine (zb (zw (zR (mF (vT (v2 rfl rfl hi')) (iR (vF (vC rfl (vC rfl rfl)) hk)))))).trans (zt ?_);rw [UV (vF (vC rfl rfl) hn) (U1 rfl)]
 rcases ho with rfl | rfl
 ·rfl
 ·cases nb<;>rfl
theorem KD (made due sure:Bool)(h:if made=true then due=true\/sure=false else due=false):xk [(false,.bl made),(false,.bl due),(false,.bl sure)]=.ok (false,.bl true):=by
 cases made<;>cases due<;>cases sure<;>simp at h<;>simp [xk,zL,xb,qy,ze,jp,jJ,hide,kP,wX,mV,Zw,zl,jw,d9,kN,zk,aq]
theorem JH (fT fP fM:MF)(M:T)(z:Str)(made:Bool)(P:List (Str×Str×List T))(hT:fT [(false,M),(false,.str z),(false,.bl made)]=.ok (false,.bl true))(hP:fP [(false,M),(false,.tup (um P))]=.ok (false,.bl true))(hl:P.length < 900)
  (hM:∀ p∈P,∃ d s,p.2.2=[.bl d,.bl s]/\fM [(false,.bl made),(false,.bl d),(false,.bl s)]=.ok (false,.bl true)) :
  (ze (jp (wv (jc (wX (z7 fT (z3 (mV 0) (z3 (mV 1) (z3 (mV 2) z5)))))) (jc (wX (z7 fP (z3 (mV 0) (z3 (mV 3) z5)))))) (zl (mC (.bl false))) zk)
  (zl (zm gY (z3 (zU (jX (mV 3)) j4 (z7 fM (z3 (mV 1) (z3 (m2 zq (mV 0) (mC (.int 2))) (z3 (m2 zq (mV 0) (mC (.int 3))) z5)))) [2]) z5)))) [some (false,M),some (false,.str z),some (false,.bl made),some (false,.tup (um P))]=.rt (false,.bl true):=by
 have hlen:(um P).length=P.length:=by simp [um]
 have c2:zU (jX (mV 3)) j4 (z7 fM (z3 (mV 1) (z3 (m2 zq (mV 0) (mC (.int 2))) (z3 (m2 zq (mV 0) (mC (.int 3))) z5)))) [2] [some (false,M),some (false,.str z),some (false,.bl made),some (false,.tup (um P))]=.ok (true,.lst (List.replicate (um P).length (.bl true))):=by
  unfold zU;have hit:jX (mV 3) [some (false,M),some (false,.str z),some (false,.bl made),some (false,.tup (um P))]=.ok (um P):=rfl
  rw [hit,bind_ok,if_pos (by rw [hlen];have:=big;omega),vh (um P) λu hu=>by
   obtain ⟨p,hp,rfl⟩:=List.mem_map.mp hu;obtain ⟨d,s,e,hm⟩:=hM p hp;refine ⟨false,?_⟩;have i2:zq (.tup (.str p.1 :: .str p.2.1 :: p.2.2)) (.int 2)=some (false,.bl d):=by rw [e];exact jE [.str p.1,.str p.2.1,.bl d,.bl s] 2
   have i3:zq (.tup (.str p.1 :: .str p.2.1 :: p.2.2)) (.int 3)=some (false,.bl s):=by rw [e];exact jE [.str p.1,.str p.2.1,.bl d,.bl s] 3
   exact vF (vC rfl (vC (v2 rfl rfl i2) (vC (v2 rfl rfl i3) rfl))) hm]
 have ha:=fo (um P).length;rw [zb (e':=[some (false,M),some (false,.str z),some (false,.bl made),some (false,.tup (um P))]) (zw (zR (mF (iR (vF (vC rfl (vC rfl (vC rfl rfl))) hT)) (iR (vF (vC rfl (vC rfl rfl)) hP)))))];exact fq (vK (vC c2 rfl) ha) rfl
theorem JI (fT fP:MF)(M:T)(z:Str)(made:Bool)(p:T)(hT:fT [(false,M),(false,.str z),(false,.bl made)]=.ok (false,.bl true))(hP:fP [(false,M),(false,p)]=.ok (false,.bl true)) :
  zl (jl (z7 fT (z3 (mV 0) (z3 (mV 1) (z3 (mV 2) z5)))) (z7 fP (z3 (mV 0) (z3 (mV 3) z5)))) [some (false,M),some (false,.str z),some (false,.bl made),some (false,p)]=.rt (false,.bl true):=by
 exact zt (av (vF (vC rfl (vC rfl (vC rfl rfl))) hT) (vF (vC rfl (vC rfl rfl)) hP))
theorem JJ (fN fK fP fA:MF)(M:T)(z kd:Str)(pl:Int)(ps fs:List T)(hN:fN [(false,.str z)]=.ok (false,.bl true))(hK:fK [(false,M),(false,.str kd)]=.ok (false,.bl true))(h0:0<=pl)(h1:pl<=ps.length)(hP:fP [(false,M),(false,.tup ps)]=.ok (false,.bl true))(hA:fA [(false,.tup fs)]=.ok (false,.bl true)) :
  (ze (jp (wv (jc (wX (z7 fN (z3 (mV 1) z5)))) (jc (wX (z7 fK (z3 (mV 0) (z3 (mV 4) z5)))))) (zl (mC (.bl false))) zk)
  (ze (jp (wv (zS (m2 wR (mV 2) (mC (.int 0)))) (zS (m2 lU (mV 2) (zm jA (z3 (mV 3) z5))))) (zl (mC (.bl false))) zk)
  (zl (jl (z7 fP (z3 (mV 0) (z3 (mV 3) z5))) (z7 fA (z3 (mV 5) z5)))))) [some (false,M),some (false,.str z),some (false,.int pl),some (false,.tup ps),some (false,.str kd),some (false,.tup fs)]=.rt (false,.bl true):=by
 have a0:¬ pl < 0:=by omega
 have a1:¬ ((ps.length:Int) < pl):=by omega
 rw [zb (e':=[some (false,M),some (false,.str z),some (false,.int pl),some (false,.tup ps),some (false,.str kd),some (false,.tup fs)]) (zw (zR (mF (iR (vF (vC rfl rfl) hN)) (iR (vF (vC rfl (vC rfl rfl)) hK)))))];rw [zb (e':=[some (false,M),some (false,.str z),some (false,.int pl),some (false,.tup ps),some (false,.str kd),some (false,.tup fs)]) (zw (zR (mF (vT (v2 rfl rfl (oR (decide_eq_false a0)))) (vT (v2 rfl (vK (vC rfl rfl) rfl) (XD (decide_eq_false a1)))))))];exact zt (av (vF (vC rfl (vC rfl rfl)) hP) (vF (vC rfl rfl) hA))
theorem Gg:¬ ("choice" : Str) = "record" := by decide +kernel
theorem Gh:¬ ("function" : Str) = "record" := by decide +kernel
theorem Gi:¬ ("function" : Str) = "choice" := by decide +kernel
theorem oW (fR fC fF:MF)(M:T)(w wr wc:Str)(a b p:T)(ts:List T)(hw:w=wr)(h:fR [(false,M),(false,a),(false,b),(false,p)]=.ok (false,.bl true)) :
  (ze (jp (zS (m2 zI (m2 zq (mV 1) (mC (.int 0))) (mC (.str wr)))) (zl (z7 fR (z3 (mV 0) (z3 (m2 zq (mV 1) (mC (.int 1))) (z3 (m2 zq (mV 1) (mC (.int 2))) (z3 (m2 zq (mV 1) (mC (.int 3))) z5)))))) zk)
  (ze (jp (zS (m2 zI (m2 zq (mV 1) (mC (.int 0))) (mC (.str wc)))) (zl (z7 fC (z3 (mV 0) (z3 (m2 zq (mV 1) (mC (.int 1))) (z3 (m2 zq (mV 1) (mC (.int 2))) (z3 (m2 zq (mV 1) (mC (.int 4))) z5)))))) zk)
  (zl (z7 fF (z3 (mV 0) (z3 (m2 zq (mV 1) (mC (.int 1))) (z3 (m2 zq (mV 1) (mC (.int 2))) (z3 (m2 zq (mV 1) (mC (.int 3))) (z3 (m2 zq (mV 1) (mC (.int 4))) (z3 (m2 zq (mV 1) (mC (.int 5))) z5)))))))))) [some (false,M),some (false,.tup (.str w :: a :: b :: p :: ts))]=.rt (false,.bl true):=by
 have i0:zq (.tup (.str w :: a :: b :: p :: ts)) (.int 0)=some (false,.str w):=jE _ 0;have i1:zq (.tup (.str w :: a :: b :: p :: ts)) (.int 1)=some (false,a):=jE _ 1;have i2:zq (.tup (.str w :: a :: b :: p :: ts)) (.int 2)=some (false,b):=jE _ 2;have i3:zq (.tup (.str w :: a :: b :: p :: ts)) (.int 3)=some (false,p):=jE _ 3;apply gC;subst hw;exact (vg (zR (wt rfl i0 (decide_eq_true rfl)))).trans (zt (vF (vC rfl (vC (v2 rfl rfl i1) (vC (v2 rfl rfl i2) (vC (v2 rfl rfl i3) rfl)))) h))
theorem oX (fR fC fF:MF)(M:T)(w wr wc:Str)(a b s p:T)(ts:List T)(hw:¬ w=wr)(hc:w=wc)(h:fC [(false,M),(false,a),(false,b),(false,p)]=.ok (false,.bl true)) :
  (ze (jp (zS (m2 zI (m2 zq (mV 1) (mC (.int 0))) (mC (.str wr)))) (zl (z7 fR (z3 (mV 0) (z3 (m2 zq (mV 1) (mC (.int 1))) (z3 (m2 zq (mV 1) (mC (.int 2))) (z3 (m2 zq (mV 1) (mC (.int 3))) z5)))))) zk)
  (ze (jp (zS (m2 zI (m2 zq (mV 1) (mC (.int 0))) (mC (.str wc)))) (zl (z7 fC (z3 (mV 0) (z3 (m2 zq (mV 1) (mC (.int 1))) (z3 (m2 zq (mV 1) (mC (.int 2))) (z3 (m2 zq (mV 1) (mC (.int 4))) z5)))))) zk)
  (zl (z7 fF (z3 (mV 0) (z3 (m2 zq (mV 1) (mC (.int 1))) (z3 (m2 zq (mV 1) (mC (.int 2))) (z3 (m2 zq (mV 1) (mC (.int 3))) (z3 (m2 zq (mV 1) (mC (.int 4))) (z3 (m2 zq (mV 1) (mC (.int 5))) z5)))))))))) [some (false,M),some (false,.tup (.str w :: a :: b :: s :: p :: ts))]=.rt (false,.bl true):=by
 have i0:zq (.tup (.str w :: a :: b :: s :: p :: ts)) (.int 0)=some (false,.str w):=jE _ 0;have i1:zq (.tup (.str w :: a :: b :: s :: p :: ts)) (.int 1)=some (false,a):=jE _ 1;have i2:zq (.tup (.str w :: a :: b :: s :: p :: ts)) (.int 2)=some (false,b):=jE _ 2;have i4:zq (.tup (.str w :: a :: b :: s :: p :: ts)) (.int 4)=some (false,p):=jE _ 4;rw [zb (e':=[some (false,M),some (false,.tup (.str w :: a :: b :: s :: p :: ts))]) (zw (zR (wt rfl i0 (decide_eq_false hw))))];apply gC;subst hc;exact (vg (zR (wt rfl i0 (decide_eq_true rfl)))).trans (zt (vF (vC rfl (vC (v2 rfl rfl i1) (vC (v2 rfl rfl i2) (vC (v2 rfl rfl i4) rfl)))) h))
theorem oY (fR fC fF:MF)(M:T)(w wr wc:Str)(a b p k f:T)(ts:List T)(hw:¬ w=wr)(hc:¬ w=wc)(h:fF [(false,M),(false,a),(false,b),(false,p),(false,k),(false,f)]=.ok (false,.bl true)) :
  (ze (jp (zS (m2 zI (m2 zq (mV 1) (mC (.int 0))) (mC (.str wr)))) (zl (z7 fR (z3 (mV 0) (z3 (m2 zq (mV 1) (mC (.int 1))) (z3 (m2 zq (mV 1) (mC (.int 2))) (z3 (m2 zq (mV 1) (mC (.int 3))) z5)))))) zk)
  (ze (jp (zS (m2 zI (m2 zq (mV 1) (mC (.int 0))) (mC (.str wc)))) (zl (z7 fC (z3 (mV 0) (z3 (m2 zq (mV 1) (mC (.int 1))) (z3 (m2 zq (mV 1) (mC (.int 2))) (z3 (m2 zq (mV 1) (mC (.int 4))) z5)))))) zk)
  (zl (z7 fF (z3 (mV 0) (z3 (m2 zq (mV 1) (mC (.int 1))) (z3 (m2 zq (mV 1) (mC (.int 2))) (z3 (m2 zq (mV 1) (mC (.int 3))) (z3 (m2 zq (mV 1) (mC (.int 4))) (z3 (m2 zq (mV 1) (mC (.int 5))) z5)))))))))) [some (false,M),some (false,.tup (.str w :: a :: b :: p :: k :: f :: ts))]=.rt (false,.bl true):=by
 have i0:zq (.tup (.str w :: a :: b :: p :: k :: f :: ts)) (.int 0)=some (false,.str w):=jE _ 0;have i1:zq (.tup (.str w :: a :: b :: p :: k :: f :: ts)) (.int 1)=some (false,a):=jE _ 1;have i2:zq (.tup (.str w :: a :: b :: p :: k :: f :: ts)) (.int 2)=some (false,b):=jE _ 2;have i3:zq (.tup (.str w :: a :: b :: p :: k :: f :: ts)) (.int 3)=some (false,p):=jE _ 3;have i4:zq (.tup (.str w :: a :: b :: p :: k :: f :: ts)) (.int 4)=some (false,k):=jE _ 4;have i5:zq (.tup (.str w :: a :: b :: p :: k :: f :: ts)) (.int 5)=some (false,f):=jE _ 5;rw [zb (e':=[some (false,M),some (false,.tup (.str w :: a :: b :: p :: k :: f :: ts))]) (zw (zR (wt rfl i0 (decide_eq_false hw))))];rw [zb (e':=[some (false,M),some (false,.tup (.str w :: a :: b :: p :: k :: f :: ts))]) (zw (zR (wt rfl i0 (decide_eq_false hc))))];exact zt (vF (vC rfl (vC (v2 rfl rfl i1) (vC (v2 rfl rfl i2) (vC (v2 rfl rfl i3) (vC (v2 rfl rfl i4) (vC (v2 rfl rfl i5) rfl)))))) h)
theorem aS {x:Str}{us:List T} : ∀ {ts:List T},T.tup us∈ts->x∈strsL us->x∈strsL ts
 | t :: ts,h,hx=>by
  unfold strsL
  rcases List.mem_cons.mp h with rfl | h
  ·exact List.mem_append_left _ (by unfold k4;exact hx)
  ·exact List.mem_append_right _ (aS h hx)
theorem aT (z:Str)(hl:z.length<=100)(h:Fs.isKind z.cps.toList=true):m_is_kind [(false,.str z)]=.ok (false,.bl true):=by
 rw [bG z (by have:=big;omega) (by omega),h]
theorem vE {b:Bool}{ts us:List T}(h:sortS ts=some us):jt [(b,.tup ts)]=.ok (false,.tup us):=by
 have hs:qJ [.tup ts]=some (true,.lst us):=by
  show (sortS ts).map _=_;rw [h]
  rfl
 have hb:gy [some (b,.tup ts)]=.rt (false,.tup us):=by
  unfold gy
  have hE:zm lZ (z3 (zm qJ (z3 (mV 0) z5)) z5) [some (b,.tup ts)]=.ok (false,.tup us):=by
   simp [zm,z3,z5,mV,hs,lZ]
  cases b with
  | false=>exact fq hE rfl
  | true=>exact uk hE (by simp [hide,kP,zm,z3,mV])
 exact zW rfl hb
theorem Gj (a b c:T)(r:List T):Zv (.tup (a :: b :: c :: r)) none (some 3)=some (false,.tup [a,b,c]):=by
 show some (false,T.tup (ki (a :: b :: c :: r) none (some ((3:Nat):Int))))=_;rw [bI]
 rfl
theorem U5 (a b c d:T)(r:List T):Zv (.tup (a :: b :: c :: d :: r)) none (some 4)=some (false,.tup [a,b,c,d]):=by
 show some (false,T.tup (ki (a :: b :: c :: d :: r) none (some ((4:Nat):Int))))=_;rw [bI]
 rfl
def kH (f:MF)(wr wc:Str):MS:=(ze (jp (zS (m2 zI (m2 zq (mV 0) (mC (.int 0))) (mC (.str wr))))
  (zl (m2 jb (kZ (mV 0) xp (zy (mC (.int 3)))) (jI (z3 (z7 f (z3 (m2 zq (mV 0) (mC (.int 3))) z5)) z5)))) zk)
  (ze (jp (zS (m2 zI (m2 zq (mV 0) (mC (.int 0))) (mC (.str wc))))
  (zl (m2 jb (kZ (mV 0) xp (zy (mC (.int 4)))) (jI (z3 (z7 f (z3 (m2 zq (mV 0) (mC (.int 4))) z5)) z5)))) zk)
  (ze (zo 1 (m2 zq (mV 0) (mC (.int 2))))
  (ze (zo 2 (m2 jb (kZ (m2 zq (mV 0) (mC (.int 3))) xp (zy (mV 1))) (z7 f (z3 (kZ (m2 zq (mV 0) (mC (.int 3))) (zy (mV 1)) xp) z5))))
  (zl (m2 jb (kZ (mV 0) xp (zy (mC (.int 3)))) (jI (z3 (mV 2) (z3 (m2 zq (mV 0) (mC (.int 4))) (z3 (z7 f (z3 (m2 zq (mV 0) (mC (.int 5))) z5)) z5))))))))))
theorem kI:k6=kH jt "record" "choice" := rfl
theorem XJ (f:MF)(w wc:Str)(a b p u:T)(h:f [(false,p)]=.ok (false,u)):kH f w wc [some (false,.tup [.str w,a,b,p]),none,none]=.rt (false,.tup [.str w,a,b,u]):=by
 have i0:zq (.tup [.str w,a,b,p]) (.int 0)=some (false,.str w):=jE _ 0;have i3:zq (.tup [.str w,a,b,p]) (.int 3)=some (false,p):=jE _ 3;have c3:=Gj (.str w) a b [p];have h1:1<=sizeLine:=by decide
 have ad:jb (.tup [.str w,a,b]) (.tup [u])=some (false,.tup [.str w,a,b,u]):=ul (ts:=[.str w,a,b]) (us:=[u]) (by have:=big;simp;omega);unfold kH;apply gC;exact (vg (zR (wt rfl i0 (decide_eq_true rfl)))).trans (zt (v2 (vS rfl rfl rfl c3) (vP (vC (vF (vC (v2 rfl rfl i3) rfl) h) rfl) rfl rfl) ad))
theorem XL (f:MF)(w wr:Str)(a b s p u:T)(hw:¬ w=wr)(h:f [(false,p)]=.ok (false,u)):kH f wr w [some (false,.tup [.str w,a,b,s,p]),none,none]=.rt (false,.tup [.str w,a,b,s,u]):=by
 have i0:zq (.tup [.str w,a,b,s,p]) (.int 0)=some (false,.str w):=jE _ 0;have i4:zq (.tup [.str w,a,b,s,p]) (.int 4)=some (false,p):=jE _ 4;have c4:=U5 (.str w) a b s [p];have h1:1<=sizeLine:=by decide
 have ad:jb (.tup [.str w,a,b,s]) (.tup [u])=some (false,.tup [.str w,a,b,s,u]):=ul (ts:=[.str w,a,b,s]) (us:=[u]) (by have:=big;simp;omega);unfold kH;rw [zb (e':=[some (false,.tup [.str w,a,b,s,p]),none,none]) (zw (zR (wt rfl i0 (decide_eq_false hw))))];apply gC;exact (vg (zR (wt rfl i0 (decide_eq_true rfl)))).trans (zt (v2 (vS rfl rfl rfl c4) (vP (vC (vF (vC (v2 rfl rfl i4) rfl) h) rfl) rfl rfl) ad))
theorem XM (f:MF)(w wr wc:Str)(a k:T)(pl:Nat)(ps us fs vs:List T)(hw:¬ w=wr)(hc:¬ w=wc)(h1:f [(false,.tup (ps.drop pl))]=.ok (false,.tup us))(h2:f [(false,.tup fs)]=.ok (false,.tup vs))(hl:ps.length + us.length < 1000) :
  kH f wr wc [some (false,.tup [.str w,a,.int (pl:Int),.tup ps,k,.tup fs]),none,none]=.rt (false,.tup [.str w,a,.int (pl:Int),.tup (ps.take pl ++ us),k,.tup vs]):=by
 have i0:zq (.tup [.str w,a,.int (pl:Int),.tup ps,k,.tup fs]) (.int 0)=some (false,.str w):=jE _ 0;have i2:zq (.tup [.str w,a,.int (pl:Int),.tup ps,k,.tup fs]) (.int 2)=some (false,.int pl):=jE _ 2;have i3:zq (.tup [.str w,a,.int (pl:Int),.tup ps,k,.tup fs]) (.int 3)=some (false,.tup ps):=jE _ 3;have i4:zq (.tup [.str w,a,.int (pl:Int),.tup ps,k,.tup fs]) (.int 4)=some (false,k):=jE _ 4;have i5:zq (.tup [.str w,a,.int (pl:Int),.tup ps,k,.tup fs]) (.int 5)=some (false,.tup fs):=jE _ 5;have c3:=Gj (.str w) a (.int (pl:Int)) [.tup ps,k,.tup fs]
 have ct:Zv (.tup ps) none (some (pl:Int))=some (false,.tup (ps.take pl)):=by
  show some (false,T.tup (ki ps none (some (pl:Int))))=_;rw [bI]
 have cf:Zv (.tup ps) (some (pl:Int)) none=some (false,.tup (ps.drop pl)):=by
  show some (false,T.tup (ki ps (some (pl:Int)) none))=_;rw [JF]
 have a1:jb (.tup (ps.take pl)) (.tup us)=some (false,.tup (ps.take pl ++ us)):=ul (by
  have:=big;have:=List.length_take_le pl ps;have:=List.length_take_le' pl ps;omega)
 generalize hq:ps.take pl ++ us=qs at a1;have a2:jb (.tup [.str w,a,.int (pl:Int)]) (.tup [.tup qs,k,.tup vs])=some (false,.tup [.str w,a,.int (pl:Int),.tup qs,k,.tup vs]):=ul (ts:=[.str w,a,.int (pl:Int)]) (us:=[.tup qs,k,.tup vs]) (by have:=big;simp;omega);have h3:3<=sizeLine:=by decide
 unfold kH;rw [zb (e':=[some (false,.tup [.str w,a,.int (pl:Int),.tup ps,k,.tup fs]),none,none]) (zw (zR (wt rfl i0 (decide_eq_false hw))))];rw [zb (e':=[some (false,.tup [.str w,a,.int (pl:Int),.tup ps,k,.tup fs]),none,none]) (zw (zR (wt rfl i0 (decide_eq_false hc))))];rw [zb (e':=[some (false,.tup [.str w,a,.int (pl:Int),.tup ps,k,.tup fs]),some (false,.int pl),none]) (zp (v2 rfl rfl i2))];rw [zb (e':=[some (false,.tup [.str w,a,.int (pl:Int),.tup ps,k,.tup fs]),some (false,.int pl),some (false,.tup qs)]) (zp (v2 (vS (v2 rfl rfl i3) rfl (vN rfl) ct) (vF (vC (vS (v2 rfl rfl i3) (vN rfl) rfl cf) rfl) h1) a1))];exact zt (v2 (vS rfl rfl rfl c3) (vP (vC rfl (vC (v2 rfl rfl i4) (vC (vF (vC (v2 rfl rfl i5) rfl) h2) rfl))) rfl rfl) a2)
def XN (t:T):Prop:=(∃ x,t=.str x)\/(∃ i,t=.int i)\/∃ b,t=.bl b
def ud:Nat->T->Prop
 | 0,t=>XN t
 | n + 1,t=>XN t\/∃ ts,t=.tup ts/\∀ u∈ts,ud n u
theorem ly {t:T}(h:XN t):∀ n,ud n t
 | 0=>h
 | _ + 1=>.inl h
theorem JK (n:Nat)(x:Str):ud n (.str x):=ly (.inl ⟨x,rfl⟩) n
theorem JL (n:Nat)(i:Int):ud n (.int i):=ly (.inr (.inl ⟨i,rfl⟩)) n
theorem JM {n:Nat}{ts:List T}(h:∀ u∈ts,ud n u):ud (n + 1) (.tup ts):=.inr ⟨ts,rfl,h⟩
theorem aU {t:T}(h:XN t)(m:Nat):gj m t t=some true:=by
 rcases h with ⟨x,rfl⟩ | ⟨i,rfl⟩ | ⟨b,rfl⟩<;>cases m<;>simp [gj,eY]
theorem nX {f:T->T->Option Bool} : ∀ {ts:List T},(∀ u∈ts,f u u=some true)->cX f ts ts=some true
 | [],_=>rfl
 | t :: ts,h=>by
  rw [cX,h t List.mem_cons_self];dsimp only;rw [nX λu hu=>h u (List.mem_cons_of_mem _ hu)]
  rfl
theorem aV:∀ (n m:Nat) (t:T),ud n t->n<=m->gj m t t=some true
 | 0,m,t,h,_=>aU h m
 | n + 1,m,t,h,hm=>by
  rcases h with h | ⟨ts,rfl,h⟩
  ·exact aU h m
  ·obtain ⟨m,rfl⟩:∃ m',m=m' + 1:=⟨m - 1,by omega⟩
   simp only [gj];rw [nX λu hu=>aV n m u (h u hu) (by omega)];simp
theorem iZ:∀ {ts:List T},(∀ u∈ts,ef u=true/\eV u=true/\eW u=true)->noLs ts=true/\noDs ts=true/\noOs ts=true
 | [],_=>⟨rfl,rfl,rfl⟩
 | t :: ts,h=>by
  have ih:=iZ λu hu=>h u (List.mem_cons_of_mem _ hu);have hi:=h t List.mem_cons_self;simp [noLs,noDs,noOs,ih,hi]
theorem hG:∀ (n:Nat) (t:T),ud n t->ef t=true/\eV t=true/\eW t=true
 | 0,t,h=>by
  rcases h with ⟨x,rfl⟩ | ⟨i,rfl⟩ | ⟨b,rfl⟩<;>simp [ef,eV,eW]
 | n + 1,t,h=>by
  rcases h with h | ⟨ts,rfl,h⟩
  ·rcases h with ⟨x,rfl⟩ | ⟨i,rfl⟩ | ⟨b,rfl⟩<;>simp [ef,eV,eW]
  ·have:=iZ λu hu=>hG n u (h u hu)
   simpa [ef,eV,eW] using this
theorem c8 {n:Nat}{ts:List T}(h:∀ u∈ts,ud n u):noLs ts=true/\noDs ts=true/\noOs ts=true:=iZ λu hu=>hG n u (h u hu)
theorem c9 {z:Str}{m:Bool}{ts us:List T}(h:sortS ts=some us):jO [(false,.tup [.str "record",.str z,.bl m,.tup ts])]=.ok (false,.tup [.str "record",.str z,.bl m,.tup us]):=by
 refine zW (n:=3) (k:=1) (mb:=k6) rfl ?_;rw [kI];exact XJ jt "record" "choice" _ _ _ _ (vE h)
theorem cb {z:Str}{m s:Bool}{ts us:List T}(h:sortS ts=some us):jO [(false,.tup [.str "choice",.str z,.bl m,.bl s,.tup ts])]=.ok (false,.tup [.str "choice",.str z,.bl m,.bl s,.tup us]):=by
 refine zW (n:=3) (k:=1) (mb:=k6) rfl ?_;rw [kI];exact XL jt "choice" "record" _ _ _ _ _ Gg (vE h)
theorem ce {z k:Str}{pl:Nat}{ps fs us vs:List T}(h1:sortS (ps.drop pl)=some us)(h2:sortS fs=some vs)(hl:ps.length + us.length < 1000):jO [(false,.tup [.str "function",.str z,.int (pl:Int),.tup ps,.str k,.tup fs])]=.ok (false,.tup [.str "function",.str z,.int (pl:Int),.tup (ps.take pl ++ us),.str k,.tup vs]):=by
 refine zW (n:=3) (k:=1) (mb:=k6) rfl ?_;rw [kI];exact XM jt "function" "record" "choice" _ _ pl ps us fs vs Gh Gi (vE h1) (vE h2) hl
theorem U6:("record" : Str) ≠ "function" := by decide +kernel
theorem U7:("choice" : Str) ≠ "function" := by decide +kernel
def core (L:List Nat):List Nat:=(L.dropWhile λc=>decide (c < 97)).takeWhile λc=>decide (97<=c)
theorem lz:∀ (ks:List Key) (us:List T) (x:Key),x∉ks->fJ ks us x=none
 | [],us,x,_=>by cases us<;>rfl
 | k :: ks,[],x,_=>rfl
 | k :: ks,u :: us,x,h=>by
  have hk:¬ k=x:=λe=>h (by rw [e];exact List.mem_cons_self);rw [fJ,if_neg hk,lz ks us x λz=>h (List.mem_cons_of_mem _ z)]
theorem JN {ks:List Key}{us:List T}{k:Key}{t:T}(h:k∉ks):gU ks us k t=.dct (ks ++ [k]) (us ++ [t]):=by
 unfold gU;rw [if_neg];intro z;rw [List.any_eq_true] at z;obtain ⟨y,hy,e⟩:=z;exact h ((of_decide_eq_true e) ▸ hy)
def GR (wf:Str):MT:=zS (m2 zI (m2 zq (mV 4) (mC (.int 0))) (mC (.str wf)))
def GS (fP:MF):MT:=wv (zS (m2 qN (m2 zq (mV 4) (mC (.int 1))) (mV 5))) (jc (wX (z7 fP (z3 (mV 2) (z3 (mV 4) z5)))))
def GT:ME:=m2 zq (mV 4) (mC (.int 1))
def GU (fS:MF):ME:=z7 fS (z3 (mV 4) z5)
theorem cg (M:T)(fP fS:MF)(wf w z:Str)(r ts:List T)(i:Nat)(d1 d2 v:T)(ks:List Key)(us:List T)(b:Bool)(hb:decide (w=wf)=b)(hd:(if b=true then d2 else d1)=.dct ks us)(hn:Sum.inr z∉ks)(hl:ks.length < sizeLine)
  (hP:fP [(false,M),(false,.tup (.str w :: .str z :: r))]=.ok (false,.bl true)) (hS:fS [(false,.tup (.str w :: .str z :: r))]=.ok (false,v)) :
  wZ M (GR wf) (GS fP) GT (GU fS) ts i (.tup (.str w :: .str z :: r)) (d1,d2)=.ok (if b=true then (d1,.dct (ks ++ [.inr z]) (us ++ [v])) else (.dct (ks ++ [.inr z]) (us ++ [v]),d2)):=by
 have i0:zq (.tup (.str w :: .str z :: r)) (.int 0)=some (false,.str w):=jE _ 0;have i1:zq (.tup (.str w :: .str z :: r)) (.int 1)=some (false,.str z):=jE _ 1
 have hi:qN (.str z) (.dct ks us)=some (false,.bl false):=by
  show some (false,T.bl (fJ ks us (Sum.inr z)).isSome)=_;rw [lz ks us _ hn]
  rfl
 have e1:∀ d,GR wf (jf M ts i (.tup (.str w :: .str z :: r)) d)=.ok b:=λd=>by
  exact wt rfl i0 hb
 have e2:GS fP (jf M ts i (.tup (.str w :: .str z :: r)) (some (false,.dct ks us)))=.ok false:=by
  exact mF (vT (v2 (v2 rfl rfl i1) rfl hi)) (iR (vF (vC rfl (vC rfl rfl)) hP))
 have e3:GT (jf M ts i (.tup (.str w :: .str z :: r)) none)=.ok (false,.str z):=by
  exact v2 rfl rfl i1
 have e4:GU fS (jf M ts i (.tup (.str w :: .str z :: r)) none)=.ok (false,v):=by
  exact vF (vC rfl rfl) hS
 unfold wZ;rw [e1,bind_ok];dsimp only;rw [hd,e2];dsimp only;rw [e4,bind_ok,e3,bind_ok];show (if ks.length < sizeLine then _ else _)=_;rw [if_pos hl,JN hn]
inductive D where
 | rc (z:Str) (m:Bool) (ps:List T)
 | ch (z:Str) (m s:Bool) (ps:List T)
 | fn (z:Str) (qs ps:List T) (kd:Str) (fs:List T)
namespace D
def t:D->T
 | rc z m ps=>.tup [.str "record",.str z,.bl m,.tup ps]
 | ch z m s ps=>.tup [.str "choice",.str z,.bl m,.bl s,.tup ps]
 | fn z qs ps kd fs=>.tup [.str "function",.str z,.int (qs.length:Nat),.tup (qs ++ ps),.str kd,.tup fs]
def w:D->Str
 | rc .. => "record"
 | ch .. => "choice"
 | fn .. => "function"
def z:D->Str
 | rc z .. => z
 | ch z .. => z
 | fn z .. => z
def isF:D->Bool
 | fn .. => true
 | _=>false
def on (f:List T->List T):D->D
 | rc z m ps=>rc z m (f ps)
 | ch z m s ps=>ch z m s (f ps)
 | fn z qs ps kd fs=>fn z qs (f ps) kd (f fs)
def st:D->D:=on wz
def tr:D->D:=on List.reverse
end D
def Nm (y:Str):Prop:=jM [(false,.str y)]=.ok (false,.bl true)
def Kd (y:Str):Prop:=m_is_kind [(false,.str y)]=.ok (false,.bl true)
def Gk (z:Str)(m:Bool):Prop := ∀ (c:CA) (ma:Addr) (mk:List Str),z∈mk->ju c [(false,.mem ma (c.memo mk ma)),(false,.str z),(false,.bl m)]=.ok (false,.bl true)
def bJ:T->Str
 | .tup (.str y :: _)=>y
 | .str y=>y
 | _ => ""
def nY (R:List T->Prop)(t:T):Prop := ∃ y kd r,t=.tup (.str y :: .str kd :: r)/\Nm y/\Kd kd/\R r
def ck (Q:T->Prop)(ts:List T):Prop:=ts.length<=12/\(ts.map bJ).Nodup/\∀ t∈ts,Q t
def Gm (t:T):Prop := ∃ y,t=.str y/\Nm y
def RF (m:Bool)(r:List T):Prop := ∃ d s:Bool,r=[.bl d,.bl s]/\if m=true then d=true\/s=false else d=false
def RP (r:List T):Prop := ∃ b:Bool,r=[.bl b]
def R0 (r:List T):Prop:=r=[]
def D.ok:D->Prop
 | .rc z m ps=>Gk z m/\ck (nY (RF m)) ps
 | .ch z m s ps=>Gk z m/\ck (nY R0) ps
 | .fn z qs ps kd fs=>Nm z/\Kd kd/\ck (nY RP) (qs ++ ps)/\ck Gm fs
theorem XO {t u:T}(h:bJ t≠bJ u)(ht:oq t=true\/ZP t=true)(hu:oq u=true\/ZP u=true):xF t≠xF u:=by
 have e:∀ {x y:Str},x.cps.toList=y.cps.toList->x=y:=λ{x y} h=>by
  obtain ⟨x⟩:=x;obtain ⟨y⟩:=y;have:x=y:=by simpa using h
  rw [this]
 have f1:∀ {t:T},oq t=true\/ZP t=true->∃ r,xF t=(bJ t).cps.toList :: r:=λ{t} h=>by
  rcases h with h | h
  ·cases t<;>first | exact ⟨[],rfl⟩ | cases h
  ·unfold ZP at h
   split at h
   ·exact ⟨_,rfl⟩
   ·cases h
 intro z;obtain ⟨r,e1⟩:=f1 ht;obtain ⟨r',e2⟩:=f1 hu;rw [e1,e2] at z;exact h (e (List.cons.inj z).1)
theorem ck.keys {Q:T->Prop}{ts:List T}(hq:∀ t,Q t->oq t=true\/ZP t=true)(h:ck Q ts):(ts.map xF).Nodup:=by
 obtain ⟨_,h2,h3⟩:=h;unfold List.Nodup at h2 ⊢;rw [List.pairwise_map] at h2 ⊢;refine h2.imp_of_mem λha hb hab => ?_;exact XO hab (hq _ (h3 _ ha)) (hq _ (h3 _ hb))
theorem ck.sub {Q:T->Prop}{qs ps:List T}(h:ck Q (qs ++ ps)):ck Q ps:=by
 obtain ⟨h1,h2,h3⟩:=h;rw [List.length_append] at h1;rw [List.map_append] at h2;exact ⟨by omega,(List.nodup_append.mp h2).2.1,λt ht=>h3 t (List.mem_append_right _ ht)⟩
def cm (ds:List D):Prop:=ds.Pairwise λd e=>d.isF=e.isF->d.z≠e.z
def UZ (ds:List D):List T:=wz (ds.map λd=>d.st.t)
end Law
namespace Law
open PySem L2 L3
def KF:T->Str×Str×List T
 | .tup (.str y :: .str kd :: r)=>(y,kd,r)
 | _=>("","",[])
theorem bK {R:List T->Prop} : ∀ {ts:List T},(∀ t∈ts,nY R t)->um (ts.map KF)=ts
 | [],_=>rfl
 | t :: ts,h=>by
  obtain ⟨y,kd,r,e,_⟩:=h t List.mem_cons_self;have ih:=bK (ts:=ts) λu hu=>h u (List.mem_cons_of_mem _ hu);subst e;unfold um at ih ⊢;rw [List.map_cons,List.map_cons,ih]
  rfl
theorem JO {R:List T->Prop} : ∀ {ts:List T},(∀ t∈ts,nY R t)->(ts.map KF).map (·.1)=ts.map bJ
 | [],_=>rfl
 | t :: ts,h=>by
  obtain ⟨y,kd,r,e,_⟩:=h t List.mem_cons_self;have ih:=JO (ts:=ts) λu hu=>h u (List.mem_cons_of_mem _ hu);subst e;rw [List.map_cons,List.map_cons,List.map_cons,ih]
  rfl
theorem hI {R:List T->Prop}{ts:List T}(h:∀ t∈ts,nY R t){p:Str×Str×List T}(hp:p∈ts.map KF):Nm p.1/\Kd p.2.1/\R p.2.2/\p.2.1∈strsL ts:=by
 obtain ⟨t,ht,rfl⟩:=List.mem_map.mp hp;obtain ⟨y,kd,r,e,h1,h2,h3⟩:=h t ht;subst e;refine ⟨h1,h2,h3,aS ht ?_⟩;unfold strsL;unfold strsL;exact List.mem_append_right _ (List.mem_append_left _ (by simp [k4,KF]))
theorem pp (c:CA)(m:Addr)(mk:List Str){R:List T->Prop}{ts:List T}(h:ck (nY R) ts)(hx:∀ z∈strsL ts,z∈mk):jq c [(false,.mem m (c.memo mk m)),(false,.tup ts)]=.ok (false,.bl true):=by
 obtain ⟨h1,h2,h3⟩:=h;have hp:=bK h3;refine iY c _ _ (ts.map KF) (.inr (by rw [hp])) ?_ ?_ (by rw [List.length_map];omega)
 ·refine ft true _ ((ts.map KF).map (·.1)) (.inl rfl) ?_ (by rw [List.length_map,List.length_map];omega) (by rw [JO h3];exact h2)
  intro y hy;obtain ⟨p,hp,rfl⟩:=List.mem_map.mp hy;exact (hI h3 hp).1
 ·intro p hp
  exact nV c m mk _ (hx _ (hI h3 hp).2.2.2) (hI h3 hp).2.1
theorem WF:∀ {ts:List T},(∀ t∈ts,Gm t)->sT (ts.map bJ)=ts
 | [],_=>rfl
 | t :: ts,h=>by
  obtain ⟨y,e,_⟩:=h t List.mem_cons_self;have ih:=WF (ts:=ts) λu hu=>h u (List.mem_cons_of_mem _ hu);subst e;unfold sT at ih ⊢;rw [List.map_cons,List.map_cons,ih]
  rfl
theorem oZ {ts:List T}(h:ck Gm ts):jz [(false,.tup ts)]=.ok (false,.bl true):=by
 obtain ⟨h1,h2,h3⟩:=h;have e:=WF h3;refine ft false _ (ts.map bJ) (.inr (by rw [e])) ?_ (by rw [List.length_map];omega) h2;intro y hy;obtain ⟨t,ht,rfl⟩:=List.mem_map.mp hy;obtain ⟨y,rfl,hn⟩:=h3 t ht;exact hn
theorem KG (c:CA)(m:Addr)(mk:List Str)(z:Str)(md:Bool)(ps:List T)(hz:z∈mk)(hT:Gk z md)(h:ck (nY (RF md)) ps)(hx:∀ z∈strsL ps,z∈mk):xI c [(false,.mem m (c.memo mk m)),(false,.str z),(false,.bl md),(false,.tup ps)]=.ok (false,.bl true):=by
 have hP:=pp c m mk h hx;have e:=bK h.2.2;rw [<- e] at hP ⊢;refine zW (n:=4) (k:=4) (mb:=pV c) rfl ?_;refine JH (ju c) (jq c) xk _ z md (ps.map KF) (hT c m mk hz) hP (by rw [List.length_map];have:=h.1;omega) ?_;intro p hp;obtain ⟨d,s,e,h⟩:=(hI h.2.2 hp).2.2.1;exact ⟨d,s,e,KD md d s h⟩
theorem KH (c:CA)(m:Addr)(mk:List Str)(z:Str)(md:Bool)(ps:List T)(hz:z∈mk)(hT:Gk z md)(h:ck (nY R0) ps)(hx:∀ z∈strsL ps,z∈mk):xH c [(false,.mem m (c.memo mk m)),(false,.str z),(false,.bl md),(false,.tup ps)]=.ok (false,.bl true) :=
 zW (n:=4) (k:=4) (mb:=pU c) rfl (JI (ju c) (jq c) _ z md _ (hT c m mk hz) (pp c m mk h hx))
theorem KI (c:CA)(m:Addr)(mk:List Str)(z kd:Str)(qs ps fs:List T)(hn:Nm z)(hk:Kd kd)(hkd:kd∈mk)(h:ck (nY RP) (qs ++ ps))(hx:∀ z∈strsL (qs ++ ps),z∈mk)(g:ck Gm fs):jN c [(false,.mem m (c.memo mk m)),(false,.str z),(false,.int (qs.length:Nat)),(false,.tup (qs ++ ps)),(false,.str kd),(false,.tup fs)]=.ok (false,.bl true) :=
 zW (n:=6) (k:=6) (mb:=g9 c) rfl (JJ jM (j0 c) (jq c) jz _ z kd (qs.length:Nat) _ _ hn (nV c m mk kd hkd hk) (by omega) (by rw [List.length_append];omega) (pp c m mk h hx) (oZ g))
theorem bL (c:CA)(m:Addr)(mk:List Str):∀ {d:D},d.ok->(∀ z∈k4 d.t,z∈mk)->xG c [(false,.mem m (c.memo mk m)),(false,d.t)]=.ok (false,.bl true)
 | .rc z md ps,h,hx=>by
  have hz:z∈mk:=hx z (by simp [D.t,k4,strsL]);have hp:∀ y∈strsL ps,y∈mk:=λy hy=>hx y (by simp [D.t,k4,strsL,hy]);exact zW (n:=2) (k:=2) (mb:=kx c) rfl (oW (xI c) (xH c) (jN c) _ "record" "record" "choice" _ _ _ [] rfl (KG c m mk z md ps hz h.1 h.2 hp))
 | .ch z md s ps,h,hx=>by
  have hz:z∈mk:=hx z (by simp [D.t,k4,strsL]);have hp:∀ y∈strsL ps,y∈mk:=λy hy=>hx y (by simp [D.t,k4,strsL,hy]);exact zW (n:=2) (k:=2) (mb:=kx c) rfl (oX (xI c) (xH c) (jN c) _ "choice" "record" "choice" _ _ _ _ [] Gg rfl (KH c m mk z md ps hz h.1 h.2 hp))
 | .fn z qs ps kd fs,h,hx=>by
  have hz:kd∈mk:=hx kd (by simp [D.t,k4,strsL]);have hp:∀ y∈strsL (qs ++ ps),y∈mk:=λy hy=>hx y (by simp [D.t,k4,strsL,hy]);exact zW (n:=2) (k:=2) (mb:=kx c) rfl (oY (xI c) (xH c) (jN c) _ "function" "record" "choice" _ _ _ _ _ [] Gh Gi (KI c m mk z kd qs ps fs h.1 h.2.1 hz h.2.2.1 hp h.2.2.2))
theorem ck.sortS {Q:T->Prop}{ts:List T}(h:ck Q ts)(hq:(∀ t,Q t->oq t=true)\/∀ t,Q t->ZP t=true):sortS ts=some (wz ts):=by
 have hk:=h.keys λt ht=>hq.elim (λf=>.inl (f t ht)) λf=>.inr (f t ht);unfold L3.sortS;rw [if_pos ⟨by have:=h.1;omega,hq.elim (λf=>.inl (List.all_eq_true.mpr λt ht=>f t (h.2.2 t ht))) (λf=>.inr (List.all_eq_true.mpr λt ht=>f t (h.2.2 t ht))),hk⟩]
theorem bM {R:List T->Prop} : ∀ t,nY R t->ZP t=true:=λt h=>by obtain ⟨y,kd,r,rfl,_⟩:=h;rfl
theorem Gn:∀ t,Gm t->oq t=true:=λt h=>by obtain ⟨y,rfl,_⟩:=h;rfl
theorem re (l:List T):(wz l).length=l.length:=(vt l).length_eq
theorem rf:∀ {d:D},d.ok->jO [(false,d.t)]=.ok (false,d.st.t)
 | .rc z md ps,h=>c9 (h.2.sortS (.inr bM))
 | .ch z md s ps,h=>cb (h.2.sortS (.inr bM))
 | .fn z qs ps kd fs,h=>by
  have h1:=h.2.2.1.sub.sortS (.inr bM);have h2:=h.2.2.2.sortS (.inl Gn);have hl:=h.2.2.1.1;rw [List.length_append] at hl;have:=ce (z:=z) (k:=kd) (pl:=qs.length) (ps:=qs ++ ps) (fs:=fs) (us:=wz ps) (vs:=wz fs) (by rw [List.drop_left];exact h1) h2 (by rw [List.length_append,re];omega);rw [List.take_left] at this;exact this
theorem KJ (d:D):∃ r,d.t=.tup (.str d.w :: .str d.z :: r):=by cases d<;>exact ⟨_,rfl⟩
theorem Gp (d:D):decide (d.w = "function")=d.isF:=by
 cases d
 ·exact decide_eq_false U6
 ·exact decide_eq_false U7
 ·exact decide_eq_true rfl
def XQ (ds:List D)(b:Bool):List Key:=(ds.filter λd=>d.isF == b).map λd=>Sum.inr d.z
def XR (ds:List D)(b:Bool):List T:=(ds.filter λd=>d.isF == b).map λd=>d.st.t
theorem pq (c:CA)(mk:List Str)(ts:List T)(M:T)(hM:∃ m,M=.mem m (c.memo mk m)):∀ (ds:List D) (i:Nat) (k1 k2:List Key) (u1 u2:List T),(∀ d∈ds,d.ok/\∀ z∈k4 d.t,z∈mk)->cm ds ->
  (∀ d∈ds,d.isF=false->Sum.inr d.z∉k1)->(∀ d∈ds,d.isF=true->Sum.inr d.z∉k2)->k1.length + ds.length < 1000->k2.length + ds.length < 1000 ->
  jU M (GR "function") (GS (xG c)) GT (GU jO) ts i (ds.map D.t) (.dct k1 u1,.dct k2 u2)=.ok (.dct (k1 ++ XQ ds false) (u1 ++ XR ds false),.dct (k2 ++ XQ ds true) (u2 ++ XR ds true))
 | [],i,k1,k2,u1,u2,_,_,_,_,_,_=>by simp [XQ,XR,jU]
 | d :: ds,i,k1,k2,u1,u2,ho,ha,h1,h2,l1,l2=>by
  obtain ⟨m,rfl⟩:=hM;obtain ⟨ok,hz⟩:=ho d List.mem_cons_self;obtain ⟨a1,a2⟩:=List.pairwise_cons.mp ha;have hP:=bL c m mk ok hz;have hS:=rf ok;obtain ⟨r,e⟩:=KJ d;have hw:=Gp d;have o':∀ e∈ds,e.ok/\∀ z∈k4 e.t,z∈mk:=λe he=>ho e (List.mem_cons_of_mem _ he);rw [List.length_cons] at l1 l2;rw [List.map_cons,jU];rw [e] at hP hS ⊢
  cases hF:d.isF with
  | false =>
   rw [hF] at hw;have hn:=h1 d List.mem_cons_self hF;rw [cg (.mem m (c.memo mk m)) (xG c) jO "function" d.w d.z r ts i (.dct k1 u1) (.dct k2 u2) d.st.t k1 u1 false hw rfl hn (by have:=big;omega) hP hS,bind_ok,if_neg Bool.false_ne_true];rw [pq c mk ts _ ⟨m,rfl⟩ ds (i + 1) (k1 ++ [Sum.inr d.z]) k2 (u1 ++ [d.st.t]) u2 o' a2 (λe he hf z => ?_) (λe he hf=>h2 e (List.mem_cons_of_mem _ he) hf) (by rw [List.length_append];simp;omega) (by omega)]
   ·simp [XQ,XR,hF]
   ·rcases List.mem_append.mp z with z | z
    ·exact h1 e (List.mem_cons_of_mem _ he) hf z
    ·have:e.z=d.z:=by simpa using z
     exact a1 e he (by rw [hF,hf]) this.symm
  | true =>
   rw [hF] at hw;have hn:=h2 d List.mem_cons_self hF;rw [cg (.mem m (c.memo mk m)) (xG c) jO "function" d.w d.z r ts i (.dct k1 u1) (.dct k2 u2) d.st.t k2 u2 true hw rfl hn (by have:=big;omega) hP hS,bind_ok,if_pos rfl];rw [pq c mk ts _ ⟨m,rfl⟩ ds (i + 1) k1 (k2 ++ [Sum.inr d.z]) u1 (u2 ++ [d.st.t]) o' a2 (λe he hf=>h1 e (List.mem_cons_of_mem _ he) hf) (λe he hf z => ?_) (by omega) (by rw [List.length_append];simp;omega)]
   ·simp [XQ,XR,hF]
   ·rcases List.mem_append.mp z with z | z
    ·exact h2 e (List.mem_cons_of_mem _ he) hf z
    ·have:e.z=d.z:=by simpa using z
     exact a1 e he (by rw [hF,hf]) this.symm
theorem KK (c:CA):zX c=xh c.memo c.Face "told_kinds" "told_functions" (GR "function") (GS (xG c)) GT (GU jO):=rfl
theorem JP {memo:List Str->Mo}{C:Addr}{f1 f2:Str}{tw tc:MT}{mk mv:ME}{ts:List T}{d1 d2:T}{env:En}{b:Bool}{i:Nat}(h4:env[i]? = some (some (b,.lst ts)))(hz:(strsL ts).length < sizeLine)(h:∀ m,jU (.mem m (memo (strsL ts) m)) tw tc mk mv ts 0 ts (.dct [] [],.dct [] [])=.ok (d1,d2)) :
  kR C (xh memo C f1 f2 tw tc mk mv) (z3 (mV i) z5) env=.ok (false,.obj C [f1,f2] [d1,d2]):=by
 have ha:z3 (mV i) z5 env=.ok [(false,.lst ts)]:=by simp [z3,z5,mV,h4]
 unfold kR;rw [ha,bind_ok]
 have hT:xh memo C f1 f2 tw tc mk mv [(true,.obj C [] []),(false,.lst ts)]=.ok (.obj C [f1,f2] [d1,d2]):=by
  unfold xh;dsimp only;rw [if_pos ⟨rfl,hz⟩,h 0];dsimp only;rw [if_pos h]
 rw [hT,bind_ok]
theorem JQ {x:Str}{t:T} : ∀ {ts:List T},t∈ts->x∈k4 t->x∈strsL ts
 | u :: ts,h,hx=>by
  unfold strsL
  rcases List.mem_cons.mp h with rfl | h
  ·exact List.mem_append_left _ hx
  ·exact List.mem_append_right _ (JQ h hx)
theorem KL (c:CA){ds:List D}(ok:∀ d∈ds,d.ok)(h:cm ds)(hl:ds.length<=13)(hz:(strsL (ds.map D.t)).length < sizeLine){env:En}{b:Bool}{i:Nat}(hi:env[i]? = some (some (b,.lst (ds.map D.t)))) :
  kR c.Face (zX c) (z3 (mV i) z5) env=.ok (false,.obj c.Face ["told_kinds","told_functions"] [.dct (XQ ds false) (XR ds false),.dct (XQ ds true) (XR ds true)]):=by
 rw [KK];refine JP hi hz λm => ?_;have:=pq c (strsL (ds.map D.t)) (ds.map D.t) (.mem m (c.memo (strsL (ds.map D.t)) m)) ⟨m,rfl⟩ ds 0 [] [] [] [] (λd hd=>⟨ok d hd,λz hz=>JQ (List.mem_map_of_mem hd) hz⟩) h (λ_ _ _ z=>nomatch z) (λ_ _ _ z=>nomatch z) (by simp;omega) (by simp;omega);exact this
theorem Gq {m:ME}{env:En}{b:Bool}{ts:List T}(h:m (hide env)=.ok (b,.lst ts)):YV m env=.ok (ts,env):=by
 unfold YV jw;rw [h]
 rfl
theorem aW {m:ME}{tg:MG}{mb:MS}{env:En}{b:Bool}{ts:List T}{o:b7}(h:m (hide env)=.ok (b,.lst ts))(g:wk tg mb ts env=o):gX (YV m) tg mb env=o:=by
 unfold gX;rw [Gq h];exact g
inductive Rw where
 | num (n:Int) | word (s:Str) | plus (x n:Int) | glue (x:Int) (s:Str)
def Rw.t:Rw->T
 | .num n=>.tup [.str "num",.int n]
 | .word s=>.tup [.str "word",.str s]
 | .plus x n=>.tup [.str "plus",.int x,.int n]
 | .glue x s=>.tup [.str "glue",.int x,.str s]
def kS:Bool->Str
 | false => "num"
 | true => "word"
def kT (b:Bool):T:=.str (kS b)
def kL (ks:List Bool):T:=.lst (ks.map kT)
def oT:Option Bool->T
 | none=>.non
 | some b=>kT b
def gD (ks:List Bool)(x:Int)(b:Bool):Bool:=decide (0<=x) && decide (x < (ks.length:Int)) && decide (ks[x.toNat]? = some b)
def Rw.kd (ks:List Bool):Rw->Option Bool
 | .num _=>some false
 | .word _=>some true
 | .plus x _=>if gD ks x false=true then some false else none
 | .glue x _=>if gD ks x true=true then some true else none
theorem JR (a b:Bool):decide (kS a=kS b)=decide (a=b):=by cases a<;>cases b<;>decide +kernel
theorem U8 {f g:T->T->Option RV}{a b c:ME}{env:En}{p q:Bool}{x y:T}(h:a env=.ok (p,x))(k:b env=.ok (q,y))(e:f x y=some (false,.bl false)):xg f g a b c env=.ok (false,.bl false):=by
 unfold xg;rw [h,bind_ok,k,bind_ok,e]
 rfl
theorem U9 {f g:T->T->Option RV}{a b c:ME}{env:En}{p q s:Bool}{x y z:T}{r:RV}(h:a env=.ok (p,x))(k:b env=.ok (q,y))(e:f x y=some (false,.bl true))(l:c env=.ok (s,z))(d:g y z=some r):xg f g a b c env=.ok r:=by
 unfold xg;rw [h,bind_ok,k,bind_ok,e];show (if true=true then ((c env).bind λu=>rl (g y u.2)) else vX.ok (false,T.bl false))=_;rw [if_pos rfl,l,bind_ok,d]
 rfl
theorem JS {a b c:ME}{env:En}{p q s:Bool}{x y:Int}(h:a env=.ok (p,.int 0))(k:b env=.ok (q,.int x))(l:c env=.ok (s,.int y)):xg gM wR a b c env=.ok (false,.bl (decide (0<=x) && decide (x < y))):=by
 by_cases h0:0<=x
 ·rw [decide_eq_true h0,Bool.true_and]
  exact U9 h k (XB (decide_eq_true h0)) l (oR rfl)
 ·rw [decide_eq_false h0,Bool.false_and]
  exact U8 h k (XB (decide_eq_false h0))
theorem fu (ks:List Bool):jA [kL ks]=some (false,.int (ks.length:Int)):=by
 show some (false,T.int ((ks.map kT).length:Int))=_;rw [List.length_map]
theorem Gr {ks:List Bool}{x:Int}(h0:0<=x)(h1:x < (ks.length:Int)):∃ b,ks[x.toNat]? = some b/\zq (kL ks) (.int x)=some (false,kT b):=by
 obtain ⟨i,rfl⟩:=Int.eq_ofNat_of_zero_le h0;have hi:i < ks.length:=by omega
 refine ⟨ks[i],List.getElem?_eq_getElem hi,?_⟩;show zq (.lst (ks.map kT)) (.int (i:Int))=_;rw [GQ,List.getElem?_map,List.getElem?_eq_getElem hi]
 rfl
def Uu:MT:=zS (m2 qN (m2 zq (mV 0) (mC (.int 0))) (jI (z3 (mC (.str "num")) (z3 (mC (.str "word")) z5))))
def Uv:MT:=zS (m2 zI (m2 zq (mV 0) (mC (.int 0))) (mC (.str "glue")))
def Gs:MT:=jS (zS (xg gM wR (mC (.int 0)) (m2 zq (mV 0) (mC (.int 1))) (zm jA (z3 (mV 1) z5)))) (zS (m2 zI (m2 zq (mV 1) (m2 zq (mV 0) (mC (.int 1)))) (mV 2)))
theorem XS:qz=ze (jp Uu (zl (m2 zq (mV 0) (mC (.int 0)))) zk) (ze (zo 2 (mC (.str "num"))) (ze (jp Uv (zo 2 (mC (.str "word"))) zk) (ze (jp Gs (vp 2) zk) (zl (mC .non))))):=rfl
theorem JT {ks:List Bool}{w:Str}{x:Int}{v:T}(b:Bool):Gs [some (false,.tup [.str w,.int x,v]),some (false,kL ks),some (false,kT b)]=.ok (gD ks x b):=by
 have h1:m2 zq (mV 0) (mC (.int 1)) [some (false,.tup [.str w,.int x,v]),some (false,kL ks),some (false,kT b)]=.ok (false,.int x):=v2 rfl rfl (jE _ 1);have hc:zS (xg gM wR (mC (.int 0)) (m2 zq (mV 0) (mC (.int 1))) (zm jA (z3 (mV 1) z5))) [some (false,.tup [.str w,.int x,v]),some (false,kL ks),some (false,kT b)]=.ok (decide (0<=x) && decide (x < (ks.length:Int))):=vT (JS rfl h1 (vK (vC rfl rfl) (fu ks)));unfold gD
 by_cases h:(decide (0<=x) && decide (x < (ks.length:Int)))=true
 ·have h':=h
  rw [Bool.and_eq_true,decide_eq_true_iff,decide_eq_true_iff] at h';obtain ⟨b',e,hx⟩:=Gr h'.1 h'.2;have:=dW hc (vT (v2 (a:=m2 zq (mV 1) (m2 zq (mV 0) (mC (.int 1)))) (b:=mV 2) (v2 (p:=false) (x:=kL ks) rfl h1 hx) (vV (b:=false) rfl) (kF (kS b') (kS b))));rw [JR] at this;rw [show Gs _=_ from this,e];simp
 ·rw [Bool.not_eq_true] at h
  rw [h] at hc ⊢;exact aO hc
theorem KM (ks:List Bool)(r:Rw):vB [(false,r.t),(false,kL ks)]=.ok (false,oT (r.kd ks)):=by
 refine zW (n:=3) (k:=2) (mb:=qz) rfl ?_;rw [XS];have nw:∀ {w:Str} {l:List T} {b:Bool} {o1 o2:Option RV},qN (.str w) (.tup [.str "num",.str "word"])=some (false,.bl b)->jJ Uu [some (false,.tup (.str w :: l)),o1,o2]=.ok b:=λ{w l b o1 o2} e=>zR (vT (v2 (v2 (y:=.int 0) (vV (b:=false) (t:=.tup (.str w :: l)) rfl) rfl (jE _ 0)) (vP (vC rfl (vC rfl rfl)) rfl rfl) e));have gl:∀ {w:Str} {l:List T} {b:Bool} {o1 o2:Option RV},decide (w = "glue")=b->jJ Uv [some (false,.tup (.str w :: l)),o1,o2]=.ok b:=λ{w l b o1 o2} e=>zR (vT (v2 (v2 (y:=.int 0) (vV (b:=false) (t:=.tup (.str w :: l)) rfl) rfl (jE _ 0)) rfl ((kF w "glue").trans (by rw [e]))))
 cases r with
 | num n=>exact xo (nw rfl) (zt (v2 rfl rfl (jE [.str "num",.int n] 0)))
 | word s=>exact xo (nw rfl) (zt (v2 rfl rfl (jE [.str "word",.str s] 0)))
 | plus x n =>
  refine (zb (zw (nw rfl))).trans ((zb (zp (r:=(false,.str "num")) rfl)).trans ((zb (zw (gl (by decide +kernel)))).trans ?_));have hf:=zR (env:=[some (false,(Rw.plus x n).t),some (false,kL ks),some (false,.str "num")]) (JT (ks:=ks) (w := "plus") (x:=x) (v:=.int n) false);show ze (jp Gs (vp 2) zk) (zl (mC .non)) [some (false,(Rw.plus x n).t),some (false,kL ks),some (false,.str "num")]=b7.rt (false,oT (if gD ks x false=true then some false else none))
  cases hb:gD ks x false with
  | true=>rw [hb] at hf;rw [if_pos rfl];exact xo hf rfl
  | false=>rw [hb] at hf;rw [if_neg (by decide)];exact (zb (zw hf)).trans rfl
 | glue x s =>
  refine (zb (zw (nw rfl))).trans ((zb (zp (r:=(false,.str "num")) rfl)).trans ((zb ((vg (gl (by decide +kernel))).trans (zp (r:=(false,.str "word")) rfl))).trans ?_));have hf:=zR (env:=[some (false,(Rw.glue x s).t),some (false,kL ks),some (false,.str "word")]) (JT (ks:=ks) (w := "glue") (x:=x) (v:=.str s) true);show ze (jp Gs (vp 2) zk) (zl (mC .non)) [some (false,(Rw.glue x s).t),some (false,kL ks),some (false,.str "word")]=b7.rt (false,oT (if gD ks x true=true then some true else none))
  cases hb:gD ks x true with
  | true=>rw [hb] at hf;rw [if_pos rfl];exact xo hf rfl
  | false=>rw [hb] at hf;rw [if_neg (by decide)];exact (zb (zw hf)).trans rfl
theorem uo (a:Int)(k:Nat)(hk:0 < k):∃ j:Nat,j < k/\a % (k:Int)=(j:Int):=by
 have h0:=Int.emod_nonneg a (b:=(k:Int)) (by omega);have h1:=Int.emod_lt_of_pos a (b:=(k:Int)) (by omega);obtain ⟨j,hj⟩:=Int.eq_ofNat_of_zero_le h0;exact ⟨j,by omega,hj⟩
theorem KN (a:Int){b:Int}(h:0 < b/\b < 1073741824):m8 (.int a) (.int b)=some (false,.int (a / b)):=if_pos h
def Uw (a b c d:Str)(m:ME):ME:=m2 zq (wy (z3 (mC (.str a)) (z3 (mC (.str b)) (z3 (mC (.str c)) (z3 (mC (.str d)) z5))))) m
theorem KO {a b c d:Str}{m:ME}{env:En}{i:Nat}(hi:i < 4)(h:m env=.ok (false,.int (i:Int))):∃ z∈[a,b,c,d],Uw a b c d m env=.ok (false,.str z):=by
 have hi:i < ([a,b,c,d]:List Str).length:=hi;refine ⟨[a,b,c,d][i],List.getElem_mem hi,v2 (vL (vC rfl (vC rfl (vC rfl (vC rfl rfl)))) rfl rfl) h ?_⟩;show zq (.lst (sT [a,b,c,d])) _=_;rw [Gf,List.getElem?_eq_getElem hi]
 rfl
theorem pw (n:Int){k:Nat}(h:tJ 10 n)(hk:n.toNat=k)(env:En):m2 ny (mC (.int 10)) (mC (.int n)) env=.ok (false,.int (10 ^ k)):=v2 rfl rfl (by
 show (if tJ 10 n then some (false,T.int ((10:Int) ^ n.toNat)) else none)=_;rw [if_pos h,hk])
def Ux:ME:=m2 jb (Uw "" "a b" "Zq~" " " (m2 wj (mV 0) (mC (.int 4)))) (zm ZF (z3 (m2 wj (mV 0) (m2 ny (mC (.int 10)) (mC (.int 20)))) z5))
theorem Gu {j:Nat}(h:j < 10 ^ 20):(j:Int).natAbs.log2 < 1920:=by
 rw [Int.natAbs_natCast]
 by_cases h0:j=0
 ·subst h0;decide
 ·exact Nat.lt_of_lt_of_le ((Nat.log2_lt h0).mpr (Nat.lt_of_lt_of_le h (show 10 ^ 20<=2 ^ 70 by decide))) (by decide)
theorem Gv (c:Int)(r:List (Option RV)):∃ s:Str,Ux (some (false,.int c) :: r)=.ok (false,.str s):=by
 obtain ⟨i,hi,ei⟩:=uo c 4 (by decide);obtain ⟨j,hj,ej⟩:=uo c (10 ^ 20) (by decide)
 have m1:wj (.int c) (.int 4)=some (false,.int (i:Int)):=by
  rw [<- ei];exact pY _ (by decide)
 have m2':wj (.int c) (.int (10 ^ 20))=some (false,.int (j:Int)):=by
  rw [<- ej];exact pY _ (by decide)
 obtain ⟨z,hz,hp⟩:=KO (a := "") (b := "a b") (c := "Zq~") (d := " ") (env:=some (false,.int c) :: r) (m:=m2 wj (mV 0) (mC (.int 4))) hi (v2 rfl rfl m1)
 have hzl:z.length<=3:=by
  have:∀ z∈(["","a b","Zq~"," "]:List Str),z.length<=3:=by decide +kernel
  exact this z hz
 have s1:ZF [.int (j:Int)]=some (false,.str (toString (j:Int):String)):=by
  show (if _ then _ else _)=_;rw [if_pos (Gu hj)]
 have s2:((toString (j:Int):String):Str).length<=20:=PyProof.Rows.toString_length_le (by omega) (by decide) (by exact_mod_cast hj);exact ⟨_,v2 hp (vK (vC (v2 rfl (pw 20 ⟨by decide,by decide,by decide⟩ rfl _) m2') rfl) s1) (add_str (by omega))⟩
def Uy:ME:=m2 zq (wy (z3 (mC (.str "num")) (z3 (mC (.str "word")) z5))) (m2 uQ (mV 2) (mC (.int 2)))
def WG:MT:=zS (m2 zI (mV 1) Uy)
def Q7:MG:=rq 2 (u6 (gN 0) (u6 (gN 1) rp))
def nT (ks:List Nat):List T:=ks.map λ(k:Nat)=>T.int (k:Int)
theorem KP {w:Int}(h:w=2\/w=3)(o0 o1:Option RV):∃ p:Str,Uy [o0,o1,some (false,.int w)]=.ok (false,.str p):=by
 rcases h with rfl | rfl
 ·exact ⟨"num",v2 (vL (vC rfl (vC rfl rfl)) rfl rfl) (v2 (vV (b:=false) rfl) rfl rfl) rfl⟩
 ·exact ⟨"word",v2 (vL (vC rfl (vC rfl rfl)) rfl rfl) (v2 (vV (b:=false) rfl) rfl rfl) rfl⟩
theorem aX {w:Int}(hw:w=2\/w=3):∀ (ks:List Bool) (n:Nat) (e0 e1:Option RV),∃ js:List Nat,xZ Q7 WG (mV 0) [e0,e1,some (false,.int w)] (jx n (ks.map kT))=.ok (nT js)
 | [],n,e0,e1=>⟨[],rfl⟩
 | v :: ks,n,e0,e1=>by
  obtain ⟨js,ih⟩:=aX hw ks (n + 1) (some (false,.int (n:Int))) (some (false,kT v));obtain ⟨p,hp⟩:=KP hw (some (false,.int (n:Int))) (some (false,kT v));have ht:WG [some (false,.int (n:Int)),some (false,kT v),some (false,.int w)]=.ok (decide (kS v=p)):=vT (v2 (vV (b:=false) rfl) hp (kF (kS v) p))
  have un:xZ Q7 WG (mV 0) [e0,e1,some (false,.int w)] (jx n ((v :: ks).map kT))=(match WG [some (false,.int (n:Int)),some (false,kT v),some (false,.int w)] with
   | .ok true=>(match xZ Q7 WG (mV 0) [some (false,.int (n:Int)),some (false,kT v),some (false,.int w)] (jx (n + 1) (ks.map kT)) with
    | .ok rs=>vX.ok (T.int (n:Int) :: rs)
    | _=>.bad)
   | .ok false=>xZ Q7 WG (mV 0) [some (false,.int (n:Int)),some (false,kT v),some (false,.int w)] (jx (n + 1) (ks.map kT))
   | _=>.bad):=rfl
  rw [un,ht,ih];cases decide (kS v=p)
  ·exact ⟨js,rfl⟩
  ·exact ⟨n :: js,rfl⟩
def Q8 (k:Int):MT:=zS (m2 zI (mV 2) (mC (.int k)))
def GV:ME:=m2 uQ (m2 wj (mV 0) (m2 ny (mC (.int 10)) (mC (.int 40)))) (m2 ny (mC (.int 10)) (mC (.int 39)))
def GW (w:Str)(m:ME):ME:=jI (z3 (mC (.str w)) (z3 m z5))
def Uz (w:Str)(m:ME):ME:=jI (z3 (mC (.str w)) (z3 (mV 5) (z3 m z5)))
def Ua:ME:=vJ (nz (mV 1)) Q7 WG (mV 0) 2 [2]
def UA:ME:=m2 uQ (m2 wj (m2 m8 (mV 0) (mC (.int 16))) (m2 jb (zm jA (z3 (mV 1) z5)) (mC (.int 3)))) (mC (.int 1))
def Ub:MT:=jS (zS (m2 wu (mV 4) (wy z5))) (zS (m2 lU (m2 wj (mV 0) (mC (.int 16))) (mC (.int 0))))
def Uc:ME:=m2 zq (mV 4) (m2 wj (m2 m8 (mV 0) (mC (.int 16))) (zm jA (z3 (mV 4) z5)))
def GX:MS:=ze (jp (Q8 2) (zl (Uz "plus" GV)) zk) (zl (Uz "glue" (mV 3)))
def GY:MS:=ze (zo 4 Ua) (ze (zo 5 UA) (ze (jp Ub (zo 5 Uc) zk) GX))
theorem XT:ve=ze (zo 2 (m2 wj (mV 0) (mC (.int 4)))) (ze (zo 0 (m2 m8 (mV 0) (mC (.int 4)))) (ze (zo 3 Ux) (ze (jp (Q8 0) (zl (GW "num" GV)) zk) (ze (jp (Q8 1) (zl (GW "word" (mV 3))) zk) GY)))):=rfl
theorem JU (q:Int)(r:List (Option RV)):GV (some (false,.int q) :: r)=.ok (false,.int (q % 10 ^ 40 - 10 ^ 39)) :=
 v2 (v2 rfl (pw 40 ⟨by decide,by decide,by decide⟩ rfl _) (pY q (by decide))) (pw 39 ⟨by decide,by decide,by decide⟩ rfl _) rfl
theorem gE {k w:Int}{env:En}{b:Bool}(h:(hide env)[2]? = some (some (false,.int w)))(e:decide (w=k)=b):jJ (Q8 k) env=.ok b :=
 zR (vT (v2 (vV h) rfl ((kD w k).trans (by rw [e]))))
theorem aY (q w x:Int)(o1 o4:Option RV)(s:Str)(h:(hide [some (false,.int q),o1,some (false,.int w),some (false,.str s),o4,some (false,.int x)])[2]? = some (some (false,.int w))):∃ r:Rw,GX [some (false,.int q),o1,some (false,.int w),some (false,.str s),o4,some (false,.int x)]=.rt (false,r.t):=by
 unfold GX
 by_cases w2:w=2
 ·exact ⟨.plus x _,xo (gE h (decide_eq_true w2)) (zt (vP (vC rfl (vC (vV (b:=false) rfl) (vC (JU q _) rfl))) rfl rfl))⟩
 ·exact ⟨.glue x s,(zb (zw (gE h (decide_eq_false w2)))).trans (zt (vP (vC rfl (vC (vV (b:=false) rfl) (vC (vV (b:=false) rfl) rfl))) rfl rfl))⟩
theorem KQ (js:List Nat):wu (.lst (nT js)) (.lst [])=some (false,.bl (!js.isEmpty)):=by cases js<;>rfl
theorem XU (q w:Int)(hw:w=2\/w=3)(ks:List Bool)(hl:ks.length < 100)(s:Str):∃ r:Rw,GY [some (false,.int q),some (false,kL ks),some (false,.int w),some (false,.str s),none,none]=.rt (false,r.t):=by
 obtain ⟨js,hk⟩:=aX hw ks 0 none none
 have hsm:Ua [some (false,.int q),some (false,kL ks),some (false,.int w),some (false,.str s),none,none]=.ok (true,.lst (nT js)):=by
  unfold Ua vJ;rw [show nz (mV 1) _=vX.ok (jx 0 (ks.map kT)) from rfl,bind_ok,if_pos (by rw [pf,List.length_map];have:=big;omega)]
  show (match xZ Q7 WG (mV 0) [none,none,some (false,.int w)] (jx 0 (ks.map kT)) with
   | .ok rs=>vX.ok (true,T.lst rs)
   | _=>.bad)=_
  rw [hk]
 have hx1:UA [some (false,.int q),some (false,kL ks),some (false,.int w),some (false,.str s),none,none]=.ok (false,.int (q / 16 % ((ks.length:Int) + 3) - 1)) :=
  v2 (v2 (v2 rfl rfl (KN q ⟨by decide,by decide⟩)) (v2 (vK (vC rfl rfl) (fu ks)) rfl rfl) (pY _ (by omega))) rfl rfl
 have hso:jJ Ub [some (false,.int q),some (false,kL ks),some (false,.int w),some (false,.str s),some (true,.lst (nT js)),some (false,.int (q / 16 % ((ks.length:Int) + 3) - 1))]=.ok ((!js.isEmpty) && decide (0 < q % 16)) :=
  xJ rfl (dW (vT (v2 rfl (vL rfl rfl rfl) (KQ js))) (vT (v2 (v2 rfl rfl (pY q (by decide))) rfl (XD rfl))))
 have go:∀ {o:b7},ze (jp Ub (zo 5 Uc) zk) GX [some (false,.int q),some (false,kL ks),some (false,.int w),some (false,.str s),some (true,.lst (nT js)),some (false,.int (q / 16 % ((ks.length:Int) + 3) - 1))]=o->GY [some (false,.int q),some (false,kL ks),some (false,.int w),some (false,.str s),none,none]=o:=λ{o} g =>
  (zb (zp hsm)).trans ((zb (zp hx1)).trans g)
 by_cases hc:((!js.isEmpty) && decide (0 < q % 16))=true
 ·rw [hc] at hso
  have h0:0 < js.length:=by
   cases js with
   | nil=>cases hc
   | cons a l=>exact Nat.succ_pos _
  obtain ⟨j,hj,ej⟩:=uo (q / 16) js.length h0;have hl2:(nT js).length=js.length:=List.length_map ..
  have hm:wj (.int (q / 16)) (.int ((nT js).length:Int))=some (false,.int (j:Int)):=by
   rw [hl2,<- ej];exact pY _ (by omega)
  have hx2:Uc [some (false,.int q),some (false,kL ks),some (false,.int w),some (false,.str s),some (true,.lst (nT js)),some (false,.int (q / 16 % ((ks.length:Int) + 3) - 1))]=.ok (false,.int (js[j]:Int)):=by
   refine v2 rfl (v2 (v2 rfl rfl (KN q ⟨by decide,by decide⟩)) (vK (vC rfl rfl) rfl) hm) ?_;rw [GQ];unfold nT;rw [List.getElem?_map,List.getElem?_eq_getElem hj]
   rfl
  obtain ⟨r,hr⟩:=aY q w (js[j]:Int) (some (false,kL ks)) (some (true,.lst (nT js))) s rfl;exact ⟨r,go ((zb ((vg hso).trans (ka hx2 (.inl rfl) (xQ rfl rfl rfl)))).trans hr)⟩
 ·rw [Bool.not_eq_true] at hc
  rw [hc] at hso;obtain ⟨r,hr⟩:=aY q w (q / 16 % ((ks.length:Int) + 3) - 1) (some (false,kL ks)) (some (true,.lst (nT js))) s rfl;exact ⟨r,go ((zb (zw hso)).trans hr)⟩
theorem KR (cell:Int){ks:List Bool}(hl:ks.length < 100):∃ r:Rw,vf [(false,.int cell),(false,kL ks)]=.ok (false,r.t):=by
 obtain ⟨w,hw,ew⟩:=uo cell 4 (by decide)
 have m4:wj (.int cell) (.int 4)=some (false,.int (w:Int)):=by
  rw [<- ew];exact pY _ (by decide)
 generalize hq:cell / 4=q;obtain ⟨s,ht⟩:=Gv q [some (false,kL ks),some (false,.int (w:Int)),none,none,none]
 have start:∀ {o:b7},ze (jp (Q8 0) (zl (GW "num" GV)) zk) (ze (jp (Q8 1) (zl (GW "word" (mV 3))) zk) GY) [some (false,.int q),some (false,kL ks),some (false,.int (w:Int)),some (false,.str s),none,none]=o->ve (xb 6 [(false,.int cell),(false,kL ks)])=o:=λ{o} g=>by
  rw [XT];refine (zb (zp (v2 rfl rfl m4))).trans ((zb (e':=[some (false,.int q),some (false,kL ks),some (false,.int (w:Int)),none,none,none]) (zp (v2 rfl rfl (by rw [<- hq];exact KN cell ⟨by decide,by decide⟩)))).trans ((zb (zp ht)).trans g))
 have fn:∀ {r:RV},ve (xb 6 [(false,.int cell),(false,kL ks)])=.rt r->vf [(false,.int cell),(false,kL ks)]=.ok r:=λg=>zW (n:=6) (k:=2) (mb:=ve) rfl g
 by_cases w0:(w:Int)=0
 ·exact ⟨.num _,fn (start (xo (gE rfl (decide_eq_true w0)) (zt (vP (vC rfl (vC (JU q _) rfl)) rfl rfl))))⟩
 by_cases w1:(w:Int)=1
 ·exact ⟨.word s,fn (start ((zb (zw (gE rfl (decide_eq_false w0)))).trans (xo (gE rfl (decide_eq_true w1)) (zt (vP (vC rfl (vC rfl rfl)) rfl rfl)))))⟩
 obtain ⟨r,hr⟩:=XU q w (by omega) ks hl s;exact ⟨r,fn (start ((zb (zw (gE rfl (decide_eq_false w0)))).trans ((zb (zw (gE rfl (decide_eq_false w1)))).trans hr)))⟩
theorem lA (w:Str)(l:List T)(h:jy.lookup w=none):jL [(false,.tup (.str w :: l))]=.ok (true,.lst []):=by
 refine zW (n:=1) (k:=1) (mb:=g7) rfl (zt ?_);show zU (jX (vM jy (m2 zq (mV 0) (mC (.int 0))) (jI z5))) j4 (m2 zq (mV 1) (mV 0)) [0] [some (false,.tup (.str w :: l))]=_
 have hk:vM jy (m2 zq (mV 0) (mC (.int 0))) (jI z5) [some (false,.tup (.str w :: l))]=.ok (false,.tup []):=by
  unfold vM;rw [show m2 zq (mV 0) (mC (.int 0)) [some (false,.tup (.str w :: l))]=.ok (false,.str w) from v2 rfl rfl (jE _ 0),bind_ok,show jI z5 [some (false,.tup (.str w :: l))]=.ok (false,.tup []) from rfl,bind_ok];dsimp only;rw [h]
  rfl
 unfold zU jX;rw [hk]
 rfl
def GZ:ME:=zU (jX (vM xq (m2 zq (mV 0) (mC (.int 0))) (jI z5))) j4 (m2 zq (mV 1) (mV 0)) [0]
def UB:ME:=zU (jX (mV 1)) (zS (m2 dF (mV 0) (mC .non))) (mV 0) []
def N1:MS:=gX (YV (z7 jL (z3 (mV 0) z5))) (gN 2) (oI 1 (vJ (jX (mV 2)) (rq 2 (u6 (gN 0) (u6 (gN 1) rp))) j4 (mV 1) 2 []))
def N2:MT:=zS (m2 zI (m2 zq (mV 0) (mC (.int 0))) (mC (.str "call")))
theorem XV:vQ=ze (zo 1 GZ) (ze (jp N2 (oI 1 (m2 zq (mV 0) (mC (.int 2)))) zk) (ze N1 (zl UB))):=rfl
theorem bN {w:Str}{l:List T}{t:T}{ts vs:List T}(ht:(xq.lookup w).getD (.tup [])=t)(hi:km t=some ts)(hl:ts.length<=sizeLine)(hv:wm j4 (m2 zq (mV 1) (mV 0)) [some (false,.tup (.str w :: l))] ts=.ok vs)(r:List (Option RV)):GZ (some (false,.tup (.str w :: l)) :: r)=.ok (true,.lst vs):=by
 have hk:vM xq (m2 zq (mV 0) (mC (.int 0))) (jI z5) (some (false,.tup (.str w :: l)) :: r)=.ok (false,t):=by
  unfold vM;rw [show m2 zq (mV 0) (mC (.int 0)) (some (false,.tup (.str w :: l)) :: r)=.ok (false,.str w) from v2 rfl rfl (jE _ 0),bind_ok,show jI z5 (some (false,.tup (.str w :: l)) :: r)=.ok (false,.tup []) from rfl,bind_ok];dsimp only;rw [ht]
 unfold GZ zU jX;rw [hk,bind_ok];dsimp only;rw [hi,ofO_some,bind_ok,if_pos hl]
 show (match wm j4 (m2 zq (mV 1) (mV 0)) [some (false,.tup (.str w :: l))] ts with
   | .ok rs=>vX.ok (true,T.lst rs)
   | _=>.bad)=_
 rw [hv]
theorem hU {w:Str}{l vs:List T}(hk:∀ r,GZ (some (false,.tup (.str w :: l)) :: r)=.ok (true,.lst vs))(hc:decide (w = "call")=false)(hn:jy.lookup w=none)(hr:UB [some (false,.tup (.str w :: l)),some (true,.lst vs),none]=.ok (true,.lst vs)):xB [(false,.tup (.str w :: l))]=.ok (true,.lst vs):=by
 refine zW (n:=3) (k:=1) (mb:=vQ) rfl ?_;rw [XV];refine (zb (e':=[some (false,.tup (.str w :: l)),some (true,.lst vs),none]) (zp (hk _))).trans ((zb (zw (zR (vT (v2 (v2 (y:=.int 0) (vV (b:=false) rfl) rfl (jE _ 0)) rfl ((kF w "call").trans (by rw [hc]))))))).trans ((zb ?_).trans (uk hr rfl)));exact aW (vF (vC (vV (b:=false) rfl) rfl) (lA w l hn)) rfl
def Gw (m:ME):ME:=zm gY (z3 m z5)
def KS:ME:=zU (jX (z7 xB (z3 (mV 0) z5))) j4 (xg gM wR (mC (.int 0)) (mV 0) (mV 1)) [1]
def Ud:ME:=zU (jX (z7 jL (z3 (mV 0) z5))) j4 (z7 bu (z3 (z7 gw (z3 (mV 0) z5)) z5)) []
theorem XW:kq=ze (jp (jc (wX (Gw KS))) (zl (mC (.bl false))) zk) (zl (Gw Ud)):=rfl
theorem bO {w:Str}{l vs us:List T}{N:Int}(h:xB [(false,.tup (.str w :: l))]=.ok (true,.lst vs))(hl:vs.length<=sizeLine)(hv:wm j4 (xg gM wR (mC (.int 0)) (mV 0) (mV 1)) [some (false,.int N)] vs=.ok us):KS [some (false,.tup (.str w :: l)),some (false,.int N)]=.ok (true,.lst us):=by
 unfold KS zU jX;rw [vF (vC (vV (b:=false) rfl) rfl) h,bind_ok];dsimp only;rw [show km (T.lst vs)=some vs from rfl,ofO_some,bind_ok,if_pos hl]
 show (match wm j4 (xg gM wR (mC (.int 0)) (mV 0) (mV 1)) [some (false,.int N)] vs with
   | .ok rs=>vX.ok (true,T.lst rs)
   | _=>.bad)=_
 rw [hv]
theorem hV {w:Str}{l us:List T}{N:Int}{b:Bool}(hn:jy.lookup w=none)(h:KS [some (false,.tup (.str w :: l)),some (false,.int N)]=.ok (true,.lst us))(ha:gY [.lst us]=some (false,.bl b)):jB [(false,.tup (.str w :: l)),(false,.int N)]=.ok (false,.bl b):=by
 refine zW (n:=2) (k:=2) (mb:=kq) rfl ?_;rw [XW];have hA:Gw KS [some (false,.tup (.str w :: l)),some (false,.int N)]=.ok (false,.bl b):=vK (vC h rfl) ha
 have hT:jJ (jc (wX (Gw KS))) [some (false,.tup (.str w :: l)),some (false,.int N)]=.ok (!b):=by
  refine zR ?_;show jc (wX (Gw KS)) [some (false,.tup (.str w :: l)),some (false,.int N)]=_;unfold jc wX;rw [hA];cases b<;>rfl
 cases b with
 | false=>exact xo hT rfl
 | true =>
  refine (zb (zw hT)).trans (zt (vK (rs:=[(true,.lst [])]) (vC ?_ rfl) rfl));show Ud [some (false,.tup (.str w :: l)),some (false,.int N)]=_;unfold Ud zU jX;rw [vF (vC (vV (b:=false) rfl) rfl) (lA w l hn)]
  rfl
def rn (N:Int):Rw->Bool
 | .num _=>true
 | .word _=>true
 | .plus x _=>decide (0<=x) && decide (x < N)
 | .glue x _=>decide (0<=x) && decide (x < N)
theorem JV (r:Rw)(N:Int):jB [(false,r.t),(false,.int N)]=.ok (false,.bl (rn N r)):=by
 have z:(0:Nat)<=sizeLine/\1<=sizeLine:=by have:=big;omega
 have two:∀ {w:Str} {x:Int} {v:T},(xq.lookup w).getD (.tup [])=.tup [.int 1]->decide (w = "call")=false->jy.lookup w=none->jB [(false,.tup [.str w,.int x,v]),(false,.int N)]=.ok (false,.bl (decide (0<=x) && decide (x < N))):=λ{w x v} h1 h2 h3=>by
  refine hV h3 (bO (vs:=[.int x]) (us:=[.bl (decide (0<=x) && decide (x < N))]) (hU (λr=>bN h1 rfl z.2 ?_ r) h2 h3 ?_) z.2 ?_) ?_
  ·rfl
  ·rfl
  ·show (match xg gM wR (mC (.int 0)) (mV 0) (mV 1) [some (false,.int x),some (false,.int N)] with
    | .ok r=>vX.ok [r.2]
    | _=>.bad)=_
   rw [JS rfl (vV (b:=false) rfl) (vV (b:=false) rfl)]
  ·cases (decide (0<=x) && decide (x < N))<;>rfl
 cases r with
 | num n=>exact hV (by decide +kernel) (bO (vs:=[]) (us:=[]) (hU (λr=>bN (t:=.tup []) (by rfl) rfl z.1 rfl r) (by decide +kernel) (by decide +kernel) rfl) z.1 rfl) rfl
 | word n=>exact hV (by decide +kernel) (bO (vs:=[]) (us:=[]) (hU (λr=>bN (t:=.tup []) (by rfl) rfl z.1 rfl r) (by decide +kernel) (by decide +kernel) rfl) z.1 rfl) rfl
 | plus x n=>exact two (by rfl) (by decide +kernel) (by rfl)
 | glue x n=>exact two (by rfl) (by decide +kernel) (by rfl)
def KU:List (Str×MF):=[("num",kr),("word",vw),("plus",vz),("glue",vA)]
def Ue:MT:=jc (wX (z7 jB (z3 (mV 2) (z3 (zm jA (z3 (mV 1) z5)) z5))))
def Uf:MS:=nC 3 KU (m2 zq (mV 2) (mC (.int 0))) (z3 (mV 0) (z3 (mV 1) (z3 (mV 2) z5)))
theorem XX (c:CA):gA c=ze (jp Ue (zl (mC .non)) zk) Uf:=rfl
theorem XY (f:T)(ks:List Bool)(r:Rw)(o:Option RV):jJ Ue [some (false,f),some (false,kL ks),some (false,r.t),o]=.ok (!rn (ks.length:Int) r):=by
 refine zR ?_;unfold Ue jc wX;rw [show z7 jB (z3 (mV 2) (z3 (zm jA (z3 (mV 1) z5)) z5)) (hide [some (false,f),some (false,kL ks),some (false,r.t),o])=_ from vF (vC (vV (b:=false) rfl) (vC (vK (vC (vV (b:=false) rfl) rfl) (fu ks)) rfl)) (JV r (ks.length:Int))];cases rn (ks.length:Int) r<;>rfl
theorem uq {f:T}{ks:List Bool}{w:Str}{l:List T}{g:MF}{q:RV}(hl:nB w KU=some g)(hg:g [(false,f),(false,kL ks),(false,.tup (.str w :: l))]=.ok q):Uf [some (false,f),some (false,kL ks),some (false,.tup (.str w :: l)),none]=.rt q:=by
 unfold Uf nC;rw [lr (v2 (y:=.int 0) (vV (b:=false) rfl) rfl (jE (.str w :: l) 0))];dsimp only
 show (match nB w KU with
  | some f'=>zl (z7 f' (z3 (mV 0) (z3 (mV 1) (z3 (mV 2) z5)))) [some (false,f),some (false,kL ks),some (false,.tup (.str w :: l)),none]
  | none=>.bad)=_
 rw [hl];exact zt (vF (vC (vV (b:=false) rfl) (vC (vV (b:=false) rfl) (vC (vV (b:=false) rfl) rfl))) hg)
def N3 (w:Str):ME:=gP (zS (m2 zI (m2 zq (mV 1) (m2 zq (mV 2) (mC (.int 1)))) (mC (.str w)))) (mC (.str w)) (mC .non)
theorem JW {f v:T}{ks:List Bool}{w:Str}{x:Int}{b:Bool}(h0:0<=x)(h1:x < (ks.length:Int)):N3 (kS b) [some (false,f),some (false,kL ks),some (false,.tup [.str w,.int x,v])]=.ok (false,oT (if gD ks x b=true then some b else none)):=by
 obtain ⟨b',e,hx⟩:=Gr h0 h1
 have ht:zS (m2 zI (m2 zq (mV 1) (m2 zq (mV 2) (mC (.int 1)))) (mC (.str (kS b)))) [some (false,f),some (false,kL ks),some (false,.tup [.str w,.int x,v])]=.ok (decide (b'=b)):=by
  have:=vT (v2 (a:=m2 zq (mV 1) (m2 zq (mV 2) (mC (.int 1)))) (b:=mC (.str (kS b))) (env:=[some (false,f),some (false,kL ks),some (false,.tup [.str w,.int x,v])]) (v2 (x:=kL ks) (vV (b:=false) rfl) (v2 (y:=.int 1) (vV (b:=false) rfl) rfl (jE [.str w,.int x,v] 1)) hx) rfl (kF (kS b') (kS b)));rw [JR] at this;exact this
 have hf:gD ks x b=decide (b'=b):=by
  unfold gD;rw [decide_eq_true h0,decide_eq_true h1,e];simp
 rw [hf]
 cases hb:decide (b'=b) with
 | true=>rw [hb] at ht;rw [if_pos rfl];exact (Xz ht).trans rfl
 | false=>rw [hb] at ht;rw [if_neg (by decide)];exact (XA ht).trans rfl
theorem KW (c:CA)(f:T)(ks:List Bool)(r:Rw):ky c [(false,f),(false,kL ks),(false,r.t)]=.ok (false,oT (r.kd ks)):=by
 refine zW (n:=4) (k:=3) (mb:=gA c) rfl ?_;rw [XX];have hT:=XY f ks r none;have two:∀ {b:Bool} {x:Int},(decide (0<=x) && decide (x < (ks.length:Int)))=false->gD ks x b=false:=λ{b x} h=>by unfold gD;rw [h];rfl
 cases hi:rn (ks.length:Int) r with
 | false =>
  rw [hi] at hT;refine (xo hT (r:=(false,.non)) rfl).trans ?_
  cases r with
  | num n=>cases hi
  | word s=>cases hi
  | plus x n=>show _=b7.rt (false,oT (if gD ks x false=true then some false else none));rw [two hi];rfl
  | glue x s=>show _=b7.rt (false,oT (if gD ks x true=true then some true else none));rw [two hi];rfl
 | true =>
  rw [hi] at hT;refine (zb (zw hT)).trans ?_
  cases r with
  | num n=>exact uq (g:=kr) rfl rfl
  | word s=>exact uq (g:=vw) rfl rfl
  | plus x n =>
   have hi:(decide (0<=x) && decide (x < (ks.length:Int)))=true:=hi;rw [Bool.and_eq_true,decide_eq_true_iff,decide_eq_true_iff] at hi;exact uq (g:=vz) rfl (zW (n:=3) (k:=3) (mb:=pR) rfl (zt (JW (b:=false) hi.1 hi.2)))
  | glue x s =>
   have hi:(decide (0<=x) && decide (x < (ks.length:Int)))=true:=hi;rw [Bool.and_eq_true,decide_eq_true_iff,decide_eq_true_iff] at hi;exact uq (g:=vA) rfl (zW (n:=3) (k:=3) (mb:=pS) rfl (zt (JW (b:=true) hi.1 hi.2)))
inductive Go:List Bool->List Rw->List Bool->Prop
 | nil (ks:List Bool):Go ks [] ks
 | cons {ks ks':List Bool} {r:Rw} {b:Bool} {rs:List Rw} (h:r.kd ks=some b) (g:Go (ks ++ [b]) rs ks'):Go ks (r :: rs) ks'
theorem Go.snoc {ks ks':List Bool}{rs:List Rw}{r:Rw}{b:Bool}(g:Go ks rs ks')(h:r.kd ks'=some b):Go ks (rs ++ [r]) (ks' ++ [b]):=by
 induction g with
 | nil ks=>exact .cons h (.nil _)
 | cons h1 _ ih=>exact .cons h1 (ih h)
theorem Go.len {ks ks':List Bool}{rs:List Rw}(g:Go ks rs ks'):ks'.length=ks.length + rs.length:=by
 induction g with
 | nil ks=>rfl
 | cons h _ ih=>rw [ih,List.length_append,List.length_singleton,List.length_cons];omega
def UC (c:CA):ME:=z7 (ky c) (z3 (mV 0) (z3 (mV 2) (z3 (mV 4) z5)))
def rD (c:CA):MS:=ze (zo 5 (UC c)) (ze (jp (zS (m2 qQ (mV 5) (mC .non))) (gr c.NoClient (mV 3)) zk) (vZ 2 (mV 5)))
def XZ:MG:=rq 2 (u6 (gN 3) (u6 (gN 4) rp))
theorem W0 (c:CA):w4 c=ze (zo 2 (wy z5)) (ze (gX (li (mV 1)) XZ (rD c)) (vp 2)):=rfl
def kE (f L:T)(ks:List Bool)(e3 e4 e5:Option RV):En:=[some (false,f),some (false,L),some (true,kL ks),e3,e4,e5]
theorem JX (c:CA)(f L:T)(ks:List Bool)(r:Rw)(k:Int)(e5:Option RV):zo 5 (UC c) (kE f L ks (some (false,.int k)) (some (false,r.t)) e5)=.nx (kE f L ks (some (false,.int k)) (some (false,r.t)) (some (false,oT (r.kd ks)))):=by
 refine ka (r:=(false,oT (r.kd ks))) (vF (vC (vV (b:=false) rfl) (vC (vV (b:=true) rfl) (vC (vV (b:=false) rfl) rfl))) (KW c f ks r)) (.inl rfl) ?_
 cases r.kd ks with
 | none=>exact xQ rfl rfl rfl
 | some b=>exact xQ rfl rfl rfl
theorem Gx (c:CA)(f L:T){ks:List Bool}{r:Rw}{b:Bool}(h:r.kd ks=some b)(hl:ks.length < 100)(k:Int)(e5:Option RV):rD c (kE f L ks (some (false,.int k)) (some (false,r.t)) e5)=.nx (kE f L (ks ++ [b]) (some (false,.int k)) (some (false,r.t)) (some (false,kT b))):=by
 have hs:=JX c f L ks r k e5;rw [h] at hs;refine (zb hs).trans ((zb (zw (zR (vT (v2 (x:=kT b) (y:=.non) (vV (b:=false) rfl) rfl rfl))))).trans ?_);have:=iS (i:=2) (m:=mV 5) (env:=kE f L ks (some (false,.int k)) (some (false,r.t)) (some (false,kT b))) (ts:=ks.map kT) (r:=(false,kT b)) rfl (vV (b:=false) rfl) (by rw [List.length_map];have:=big;omega);refine (show vZ 2 (mV 5) (kE f L ks (some (false,.int k)) (some (false,r.t)) (some (false,kT b)))=_ from this).trans ?_;unfold kE kL;rw [List.map_append]
 rfl
theorem KY (c:CA)(f L:T){ks:List Bool}{r:Rw}(h:r.kd ks=none)(k:Int)(e5:Option RV):rD c (kE f L ks (some (false,.int k)) (some (false,r.t)) e5)=.exc ⟨c.NoClient,.int k⟩ (kE f L ks (some (false,.int k)) (some (false,r.t)) (some (false,.non))):=by
 have hs:=JX c f L ks r k e5;rw [h] at hs;refine (zb hs).trans ?_
 have hr:jp (zS (m2 qQ (mV 5) (mC .non))) (gr c.NoClient (mV 3)) zk (kE f L ks (some (false,.int k)) (some (false,r.t)) (some (false,.non)))=.exc ⟨c.NoClient,.int k⟩ (kE f L ks (some (false,.int k)) (some (false,r.t)) (some (false,.non))):=by
  refine (vg (zR (vT (v2 (x:=.non) (y:=.non) (vV (b:=false) rfl) rfl rfl)))).trans ?_;unfold gr;rw [lr (r:=(false,.int k)) (vV (b:=false) rfl)]
 show ze (jp (zS (m2 qQ (mV 5) (mC .non))) (gr c.NoClient (mV 3)) zk) (vZ 2 (mV 5)) (kE f L ks (some (false,.int k)) (some (false,r.t)) (some (false,.non)))=_;unfold ze;rw [hr]
theorem aZ (c:CA)(f L:T):∀ {ks ks':List Bool} {rs:List Rw},Go ks rs ks'->ks.length + rs.length < 100->∀ (k:Nat) (e3 e4 e5:Option RV) (tl:List T),
  ∃ e3' e4' e5',wk XZ (rD c) (jx k (rs.map Rw.t ++ tl)) (kE f L ks e3 e4 e5)=wk XZ (rD c) (jx (k + rs.length) tl) (kE f L ks' e3' e4' e5'):=by
 intro ks ks' rs g
 induction g with
 | nil ks=>exact λ_ k e3 e4 e5 tl=>⟨e3,e4,e5,rfl⟩
 | @cons ks ks' r b rs h g ih =>
  intro hl k e3 e4 e5 tl;rw [List.length_cons] at hl;obtain ⟨f3,f4,f5,ih⟩:=ih (by rw [List.length_append,List.length_singleton];omega) (k + 1) (some (false,.int (k:Int))) (some (false,r.t)) (some (false,kT b)) tl;refine ⟨f3,f4,f5,?_⟩;rw [List.map_cons,List.cons_append,jx,lu (e1:=kE f L ks (some (false,.int (k:Int))) (some (false,r.t)) e5) rfl (Gx c f L h (by omega) k e5),ih,List.length_cons,show k + 1 + rs.length=k + (rs.length + 1) from by omega]
theorem cp (c:CA)(f:T)(ts:List T){o:b7}(h:ze (λenv=>wk XZ (rD c) (jx 0 ts) env) (vp 2) (kE f (.lst ts) [] none none none)=o):w4 c (xb 6 [(false,f),(false,.lst ts)])=o:=by
 rw [W0];refine (zb (e':=kE f (.lst ts) [] none none none) (zp (r:=(true,.lst [])) (vL (rs:=[]) rfl rfl rfl))).trans ?_
 have he:gX (li (mV 1)) XZ (rD c) (kE f (.lst ts) [] none none none)=wk XZ (rD c) (jx 0 ts) (kE f (.lst ts) [] none none none):=by
  unfold gX li;rw [lr (r:=(false,.lst ts)) (vV (b:=false) rfl)]
 rw [<- h];unfold ze;rw [he]
theorem cq (c:CA)(f:T){rs:List Rw}{ks:List Bool}(g:Go [] rs ks)(hl:rs.length < 100):xl c [(false,f),(false,.lst (rs.map Rw.t))]=.ok (true,kL ks):=by
 refine zW (n:=6) (k:=2) (mb:=w4 c) rfl (cp c f _ ?_);obtain ⟨e3,e4,e5,h⟩:=aZ c f (.lst (rs.map Rw.t)) g (by simpa using hl) 0 none none none [];rw [List.append_nil] at h;unfold ze;dsimp only;rw [h]
 rfl
theorem lB (c:CA)(f:T){rs:List Rw}{ks:List Bool}{r:Rw}(g:Go [] rs ks)(hl:rs.length < 100)(hn:r.kd ks=none):xl c [(false,f),(false,.lst ((rs ++ [r]).map Rw.t))]=.exc ⟨c.NoClient,.int (rs.length:Int)⟩:=by
 have hb:∃ env,w4 c (xb 6 [(false,f),(false,.lst ((rs ++ [r]).map Rw.t))])=.exc ⟨c.NoClient,.int (rs.length:Int)⟩ env:=by
  obtain ⟨e3,e4,e5,h⟩:=aZ c f (.lst ((rs ++ [r]).map Rw.t)) g (by simpa using hl) 0 none none none [r.t];refine ⟨kE f (.lst ((rs ++ [r]).map Rw.t)) ks (some (false,.int (rs.length:Int))) (some (false,r.t)) (some (false,.non)),cp c f _ ?_⟩
  ·have e:jx 0 ((rs ++ [r]).map Rw.t)=jx 0 (rs.map Rw.t ++ [r.t]):=by rw [List.map_append];rfl
   unfold ze;dsimp only;rw [e,h,Nat.zero_add,jx]
   have:wk XZ (rD c) (T.tup [.int (rs.length:Int),r.t] :: jx (rs.length + 1) []) (kE f (.lst ((rs ++ [r]).map Rw.t)) ks e3 e4 e5)=.exc ⟨c.NoClient,.int (rs.length:Int)⟩ (kE f (.lst ((rs ++ [r]).map Rw.t)) ks (some (false,.int (rs.length:Int))) (some (false,r.t)) (some (false,.non))):=by
    unfold wk
    show (match rD c (kE f (.lst ((rs ++ [r]).map Rw.t)) ks (some (false,.int (rs.length:Int))) (some (false,r.t)) e5) with
     | .nx e2=>wk XZ (rD c) (jx (rs.length + 1) []) e2
     | .ct e2=>wk XZ (rD c) (jx (rs.length + 1) []) e2
     | .bk e2=>.nx e2
     | o=>o)=_
    rw [KY c f _ hn]
   rw [this]
 obtain ⟨env,hb⟩:=hb;show zL 6 2 (w4 c) _=_;unfold zL;refine (if_pos rfl).trans ?_;rw [hb]
 rfl
theorem WH {m:ME}{env:En}{r:RV}(h:m (hide env)=.bad)(g:m env=.ok r)(c:L3.clean env r=true):jw m env=.ok (r,env):=by
 unfold jw L3.settle;rw [h];dsimp only;rw [g];dsimp only;rw [if_pos c]
theorem WI {m:ME}{env:En}{r:RV}(h:m (hide env)=.bad)(g:m env=.ok r)(c:L3.clean env r=false):jw m env=.ok (r,cZ env):=by
 unfold jw L3.settle;rw [h];dsimp only;rw [g];dsimp only;rw [if_neg (by rw [c];decide)]
theorem WJ {m:ME}{env:En}{x:Ex}(h:m (hide env)=.exc x):jw m env=.exc x:=by
 unfold jw;rw [h]
theorem WK {tab:List Addr}{nm:Option Nat}{mb mh:MS}{env e:En}(h:mb env=.nx e):qY tab nm mb mh env=.nx e:=by
 unfold qY;rw [h]
theorem WL {tab:List Addr}{nm:Option Nat}{mb mh:MS}{env e:En}{x:Ex}(h:mb env=.exc x e)(hx:x.C∈tab):qY tab nm mb mh env=Xo nm (mh (bindE nm (.exn x.C x.at_) e)):=by
 unfold qY;rw [h];exact if_pos hx
theorem N4 {f:MF}{m:MA}{env:En}{rs:List RV}{x:Ex}(h:m env=.ok rs)(g:f rs=.exc x):z7 f m env=.exc x:=by
 unfold z7;rw [h,bind_ok,g]
theorem Gy {i:Nat}{m:ME}{env:En}{x:Ex}(h:m (hide env)=.exc x):zo i m env=.exc x env:=by
 unfold zo;rw [WJ h]
theorem Ug {m:ME}{env:En}{x:Ex}(h:m (hide env)=.exc x):pH m env=.exc x env:=by
 unfold pH;rw [WJ h]
theorem Uh {m:ME}{env:En}{r:RV}(h:m (hide env)=.ok r):pH m env=.nx env:=by
 unfold pH;rw [lr h]
def Gz (c:CA):ME:=z7 (xl c) (z3 (mV 0) (z3 (mV 1) z5))
theorem GA (c:CA){f L:T}{x:Ex}{e:En}(h:xl c [(false,f),(false,L)]=.exc x):Gz c (some (false,f) :: some (false,L) :: e)=.exc x:=N4 (vC (vV (b:=false) rfl) (vC (vV (b:=false) rfl) rfl)) h
theorem Ui (c:CA){f L:T}{x:RV}{e:En}(h:xl c [(false,f),(false,L)]=.ok x):Gz c (some (false,f) :: some (false,L) :: e)=.ok x:=vF (vC (vV (b:=false) rfl) (vC (vV (b:=false) rfl) rfl)) h
def UD (C:Addr):MS:=ze (zo 3 (oJ [C] (mV 5))) (zo 4 (jl (mw [(C,true)] (mV 5)) (jl (mw [(C,true)] (mV 5)) (kN (mw [(C,false)] (mV 5))))))
def N5:ME:=jI (z3 (mV 2) (z3 (mV 3) (z3 (mV 4) z5)))
theorem t5 (c:CA):w8 c=ze (zo 2 (mC .non)) (ze (zo 3 (mC .non)) (ze (zo 4 (mC (.bl true))) (ze (qY [c.NoClient] (some 5) (zo 2 (Gz c)) (UD c.NoClient)) (zl N5)))):=rfl
theorem WM (c:CA)(f:T){rs:List Rw}{ks:List Bool}(g:Go [] rs ks)(hl:rs.length < 100):jP c [(false,f),(false,.lst (rs.map Rw.t))]=.ok (false,.tup [kL ks,.non,.bl true]):=by
 refine zW (n:=6) (k:=2) (mb:=w8 c) rfl ?_;rw [t5];refine (zb (zp rfl)).trans ((zb (zp rfl)).trans ((zb (zp rfl)).trans ?_));refine (zb (e':=[some (false,f),some (false,.lst (rs.map Rw.t)),some (true,kL ks),some (false,.non),some (false,.bl true),none]) (WK (zp (vF (vC (vV (b:=false) rfl) (vC (vV (b:=false) rfl) rfl)) (cq c f g hl))))).trans ?_;exact uk (vP (vC (vV (b:=true) rfl) (vC (vV (b:=false) rfl) (vC (vV (b:=false) rfl) rfl))) rfl rfl) rfl
theorem KZ {C:Addr}{t:T}{m:ME}{env:En}{b:Bool}(h:m env=.ok (b,.exn C t)):oJ [C] m env=.ok (false,t):=by
 unfold oJ;rw [h,bind_ok];exact if_pos List.mem_cons_self
theorem hW {C:Addr}{t:T}{m:ME}{env:En}{b k:Bool}(h:m env=.ok (b,.exn C t)):mw [(C,k)] m env=.ok (false,.bl k):=by
 unfold mw;rw [h,bind_ok];dsimp only;rw [show Kf C [(C,k)]=some k from if_pos rfl]
theorem Q0 (c:CA)(f:T){rs:List Rw}{ks:List Bool}{r:Rw}(g:Go [] rs ks)(hl:rs.length < 100)(hn:r.kd ks=none):jP c [(false,f),(false,.lst ((rs ++ [r]).map Rw.t))]=.ok (false,.tup [.non,.int (rs.length:Int),.bl true]):=by
 refine zW (n:=6) (k:=2) (mb:=w8 c) rfl ?_;rw [t5];refine (zb (zp rfl)).trans ((zb (zp rfl)).trans ((zb (zp rfl)).trans ?_));generalize hL:(T.lst ((rs ++ [r]).map Rw.t))=L
 have hx:zo 2 (Gz c) [some (false,f),some (false,L),some (false,.non),some (false,.non),some (false,.bl true),none]=.exc ⟨c.NoClient,.int (rs.length:Int)⟩ [some (false,f),some (false,L),some (false,.non),some (false,.non),some (false,.bl true),none]:=by
  exact Gy (GA c (by rw [<- hL];exact lB c f g hl hn))
 have hh:UD c.NoClient [some (false,f),some (false,L),some (false,.non),some (false,.non),some (false,.bl true),some (false,.exn c.NoClient (.int (rs.length:Int)))]=.nx [some (false,f),some (false,L),some (false,.non),some (false,.int (rs.length:Int)),some (false,.bl true),some (false,.exn c.NoClient (.int (rs.length:Int)))]:=by
  have hv:∀ o3:Option RV,mV 5 (hide [some (false,f),some (false,L),some (false,.non),some (false,o3.elim .non Prod.snd),some (false,.bl true),some (false,.exn c.NoClient (.int (rs.length:Int)))])=.ok (false,.exn c.NoClient (.int (rs.length:Int))):=λ_=>vV (b:=false) rfl;refine (zb (zp (KZ (hv none)))).trans (zp (r:=(false,.bl true)) ?_);exact av (hW (hv (some (false,.int (rs.length:Int))))) (av (hW (hv (some (false,.int (rs.length:Int))))) (U1 (hW (hv (some (false,.int (rs.length:Int)))))))
 refine (zb (e':=[some (false,f),some (false,L),some (false,.non),some (false,.int (rs.length:Int)),some (false,.bl true),none]) ((WL hx List.mem_cons_self).trans (congrArg (Xo (some 5)) hh))).trans ?_;exact zt (vP (vC (vV (b:=false) rfl) (vC (vV (b:=false) rfl) (vC (vV (b:=false) rfl) rfl))) rfl rfl)
theorem t6 (c:CA):qL c=ze (qY [c.NoClient] none (pH (Gz c)) (zl (mC (.bl false)))) (zl (mC (.bl true))):=rfl
theorem GB (c:CA)(f:T){rs:List Rw}{ks:List Bool}(g:Go [] rs ks)(hl:rs.length < 100):v3 c [(false,f),(false,.lst (rs.map Rw.t))]=.ok (false,.bl true):=by
 refine zW (n:=2) (k:=2) (mb:=qL c) rfl ?_;rw [t6];refine (zb (e':=[some (false,f),some (false,.lst (rs.map Rw.t))]) (WK ?_)).trans rfl;exact Uh (Ui c (cq c f g hl))
theorem Q1 (c:CA)(f:T){rs:List Rw}{ks:List Bool}{r:Rw}(g:Go [] rs ks)(hl:rs.length < 100)(hn:r.kd ks=none):v3 c [(false,f),(false,.lst ((rs ++ [r]).map Rw.t))]=.ok (false,.bl false):=by
 refine zW (n:=2) (k:=2) (mb:=qL c) rfl ?_;rw [t6];refine gC ((WL (x:=⟨c.NoClient,.int (rs.length:Int)⟩) (e:=[some (false,f),some (false,.lst ((rs ++ [r]).map Rw.t))]) ?_ List.mem_cons_self).trans rfl);exact Ug (GA c (lB c f g hl hn))
def UE (i:Nat)(w:String):MT:=wX (zm qP (z3 (mV i) (z3 (mC (.ty w)) z5)))
theorem qF {i:Nat}{w:String}{env:En}{t:T}{b:Bool}(h:(hide env)[i]? = some (some (false,t)))(e:qP [t,.ty w]=some (false,.bl b)):jJ (UE i w) env=.ok b:=by
 refine zR ?_;unfold UE wX;rw [show zm qP _ _=_ from vK (rs:=[(false,t),(false,.ty w)]) (vC (vV h) (vC rfl rfl)) e]
 rfl
theorem W1 (n:Nat)(s:Str):j5 (n + 1) [(false,.str s),(false,.str s)]=.ok (false,.bl true):=by
 refine zW (n:=2) (k:=2) (mb:=kA (j5 n)) rfl ?_;refine (zb (zw (zR (vT (v2 rfl rfl rfl))))).trans ((zb (zw (qF (i:=1) (w := "bool") rfl rfl))).trans ((zb (zw (qF (i:=1) (w := "int") rfl rfl))).trans (xo (qF (i:=1) (w := "str") rfl rfl) (zt ?_))));exact av (vK (vC rfl (vC rfl rfl)) rfl) (v2 rfl rfl ((kF s s).trans (by rw [decide_eq_true rfl])))
theorem JY:jr=zL 2 2 (kA (j5 7)):=rfl
theorem W2 (i:Int):jr [(false,.int i),(false,.int i)]=.ok (false,.bl true):=by
 rw [JY];refine zW rfl ?_;refine (zb (zw (zR (vT (v2 rfl rfl rfl))))).trans ((zb (zw (qF (i:=1) (w := "bool") rfl rfl))).trans (xo (qF (i:=1) (w := "int") rfl rfl) (zt ?_)));exact av (vK (vC rfl (vC rfl rfl)) rfl) (av (U1 (p:=false) (x:=false) (vK (vC rfl (vC rfl rfl)) rfl)) (v2 rfl rfl ((kD i i).trans (by rw [decide_eq_true rfl]))))
def UF (al:MF):ME:=zU (ql (z3 (zm jA (z3 (mV 1) z5)) z5)) j4 (z7 al (z3 (m2 zq (mV 1) (mV 0)) (z3 (m2 zq (mV 2) (mV 0)) z5))) [0,1]
theorem W3 {n:Nat} : ∀ t∈gW 0 n,∃ i:Nat,i < n/\t=.int (i:Int):=by
 intro t ht;unfold gW at ht;obtain ⟨i,hi,rfl⟩:=List.mem_map.mp ht;exact ⟨i,List.mem_range.mp hi,by simp⟩
theorem JZ (ks:List Bool)(hl:ks.length < 100):jr [(false,kL ks),(false,kL ks)]=.ok (false,.bl true):=by
 rw [JY];refine zW rfl ?_
 have hne:wu (.int (ks.length:Int)) (.int (ks.length:Int))=some (false,.bl false):=by
  unfold wu;show (eY (.int (ks.length:Int)) (.int (ks.length:Int))).map _=_;simp [eY]
 refine (zb (zw (zR (vT (v2 rfl rfl rfl))))).trans ((zb (zw (qF (i:=1) (w := "bool") rfl rfl))).trans ((zb (zw (qF (i:=1) (w := "int") rfl rfl))).trans ((zb (zw (qF (i:=1) (w := "str") rfl rfl))).trans ((zb (zw (zR (mF (vT (v2 (vK (vC rfl (vC rfl rfl)) rfl) (vK (vC rfl (vC rfl rfl)) rfl) rfl)) (vT (v2 (vK (vC rfl (vC rfl rfl)) rfl) (vK (vC rfl (vC rfl rfl)) rfl) rfl)))))).trans ((zb (zw (zR (vT (v2 (vK (vC rfl rfl) (fu ks)) (vK (vC rfl rfl) (fu ks)) hne))))).trans (zt ?_))))));refine vK (rs:=[(true,.lst (List.replicate (gW 0 ks.length).length (.bl true)))]) (vC (a:=UF (j5 7)) ?_ rfl) (fo _);have hr:ql (z3 (zm jA (z3 (mV 1) z5)) z5) (hide [some (false,kL ks),some (false,kL ks)])=.ok (gW 0 ks.length):=JE (n:=ks.length) (b:=false) (vC (vK (vC rfl rfl) (fu ks)) rfl) (by omega)
 have hz:(gW 0 ks.length).length<=sizeLine:=by
  have:(gW 0 ks.length).length=ks.length:=by simp [gW]
  have:=big;omega
 unfold UF zU;show (ql (z3 (zm jA (z3 (mV 1) z5)) z5) (hide [some (false,kL ks),some (false,kL ks)])).bind _=_;rw [hr,bind_ok,if_pos hz]
 show (match wm j4 (z7 (j5 7) (z3 (m2 zq (mV 1) (mV 0)) (z3 (m2 zq (mV 2) (mV 0)) z5))) [some (false,kL ks),some (false,kL ks)] (gW 0 ks.length) with
  | .ok rs=>vX.ok (true,T.lst rs)
  | _=>.bad)=_
 rw [vh _ λt ht => ?_];obtain ⟨i,hi,rfl⟩:=W3 t ht
 have hx:zq (kL ks) (.int (i:Int))=some (false,kT ks[i]):=by
  show zq (.lst (ks.map kT)) (.int (i:Int))=_;rw [GQ,List.getElem?_map,List.getElem?_eq_getElem hi]
  rfl
 exact ⟨false,vF (vC (v2 (vV (b:=false) rfl) (vV (b:=false) rfl) hx) (vC (v2 (vV (b:=false) rfl) (vV (b:=false) rfl) hx) rfl)) (W1 6 (kS ks[i]))⟩
def pr (c:CA)(es:List D):T:=.obj c.Face ["told_kinds","told_functions"] [.dct (XQ es false) (XR es false),.dct (XQ es true) (XR es true)]
theorem Y0 (c:CA){ds:List D}(ok:∀ d∈ds,d.ok)(hA:cm ds)(hl:ds.length<=13)(hz:(strsL (ds.map D.t)).length < sizeLine){m:ME}{env:En}{b:Bool}(h:m env=.ok (b,.lst (ds.map D.t))):kR c.Face (zX c) (z3 m z5) env=.ok (false,pr c ds):=by
 rw [<- (show kR c.Face (zX c) (z3 (mV 0) z5) [some (true,.lst (ds.map D.t))]=.ok (false,pr c ds) from KL c ok hA hl hz (b:=true) (i:=0) rfl)];have e1:z3 m z5 env=.ok [(b,.lst (ds.map D.t))]:=vC h rfl;have e2:z3 (mV 0) z5 [some (true,.lst (ds.map D.t))]=.ok [(false,.lst (ds.map D.t))]:=rfl;unfold kR;rw [e1,e2,bind_ok,bind_ok]
 rfl
def rE:List D:=[.rc "numb" true [],.fn "word" [] [] "num" [.str "gone"]]
theorem WN {z:Str}(hl:z.length<=40)(h:Fs.isName z.cps.toList=true):Nm z:=by
 have:=nS z (Nat.le_trans hl (by decide)) (by omega);rw [h] at this;exact this
theorem Y1:Gk "numb" true:=by
 intro c ma mk hx;have hn:=nS "numb" (by decide +kernel) (by decide +kernel);exact zW (n:=3) (k:=3) (mb:=qx c) rfl (oV jM (j0 c) _ "numb" true (by decide +kernel) (by decide +kernel) (nV c ma mk "numb" hx (aT "numb" (by decide +kernel) (by decide +kernel))) _ hn (.inl (by decide +kernel)))
theorem GC:∀ d∈rE,d.ok:=by
 intro d hd
 rcases List.mem_cons.mp hd with rfl | hd
 ·exact ⟨Y1,by decide,List.nodup_nil,λt h=>nomatch h⟩
 ·obtain rfl:=List.mem_singleton.mp hd
  refine ⟨WN (by decide +kernel) (by decide +kernel),aT _ (by decide +kernel) (by decide +kernel),⟨by decide,List.nodup_nil,λt h=>nomatch h⟩,by decide,by decide +kernel,λt h => ?_⟩;obtain rfl:=List.mem_singleton.mp h;exact ⟨_,rfl,WN (by decide +kernel) (by decide +kernel)⟩
theorem Y2:cm rE:=by
 unfold cm rE;refine .cons (λe he h => ?_) (.cons (λe he=>nomatch he) .nil);obtain rfl:=List.mem_singleton.mp he;cases h
def WO (c:CA)(m:ME):ME:=kR c.Face (zX c) (z3 m z5)
def Uj:ME:=z7 vf (z3 (mV 5) (z3 (mV 4) z5))
def Uk:ME:=z7 vB (z3 (mV 6) (z3 (mV 4) z5))
def Q2:MS:=ze (zo 6 Uj) (ze (vZ 3 (mV 6)) (ze (zo 7 Uk) (ze (jp (zS (m2 qQ (mV 7) (mC .non))) oi zk) (vZ 4 (mV 7)))))
def Ul:ME:=wy (z3 (jI (z3 (mC (.str "record")) (z3 (mC (.str "numb")) (z3 (mC (.bl true)) (z3 (jI z5) z5))))) (z3 (jI (z3 (mC (.str "function")) (z3 (mC (.str "word")) (z3 (mC (.int 0)) (z3 (jI z5) (z3 (mC (.str "num")) (z3 (jI (z3 (mC (.str "gone")) z5)) z5))))))) z5))
def Um:MT:=zS (m2 zI (m2 wj (z7 jj (z3 (mV 0) (z3 (mC (.int 0)) z5))) (mC (.int 3))) (mC (.int 0)))
def Q3 (c:CA)(i:Nat):ME:=z7 (jP c) (z3 (mV 1) (z3 (mV i) z5))
def g3:MG:=rq 3 (u6 (gN 9) (u6 (gN 10) (u6 (gN 11) rp)))
def N6:MT:=wv (jc (wX (mV 11))) (zS (m2 wu (mV 8) (mV 3)))
def GD (i:Nat):ME:=zm jA (z3 (mV i) z5)
def Uo (c:CA):ME:=z7 (v3 c) (z3 (mV 1) (z3 (mV 3) z5))
def UG (c:CA):MT:=wv (jc (wX (z7 jr (z3 (mV 10) (z3 (GD 4) z5))))) (zS (m2 dF (Uo c) (mC (.bl false))))
def UH:ME:=kZ (mV 3) xp (zy (fL (mC (.int 1))))
def N7 (c:CA):MS:=ze (jp (UG c) (zl (mC (.bl false))) zk) (ze (zo 3 UH) (vb (Q3 c 3) g3))
def UI (c:CA):ME:=jl (m2 qQ (mV 10) (mC .non)) (jl (z7 jr (z3 (mV 9) (z3 (mV 4) z5))) (m2 qQ (Uo c) (mC (.bl true))))
def GE (c:CA):MS:=ze (jp N6 (zl (mC (.bl false))) zk) (ze (jp (zS (m2 wR (GD 4) (GD 3))) (N7 c) zk) (zl (UI c)))
theorem Y3 (c:CA):Jx c=ze (zo 1 (WO c (wy z5))) (ze (jp Um (ze (zo 2 Ul) (zo 1 (WO c (mV 2)))) zk) (ze (zo 3 (wy z5)) (ze (zo 4 (wy z5)) (ze (gX (YV (kZ (mV 0) (zy (mC (.int 1))) (zy (mC (.int 41))))) (gN 5) Q2) (ze (zo 8 (zm ZE (z3 (mV 3) z5))) (ze (vb (Q3 c 8) g3) (GE c))))))):=rfl
def lE (L f:T)(o2:Option RV)(R:List T)(ks:List Bool)(e5 e6 e7:Option RV):En:=[some (false,L),some (false,f),o2,some (true,.lst R),some (true,kL ks),e5,e6,e7,none,none,none,none]
theorem Rw.flat (r:Rw):ud 2 r.t:=by
 cases r<;>exact JM (by simp [JK,JL])
theorem qM (rs:List Rw):∀ u∈rs.map Rw.t,ud 2 u:=λu hu=>by
 obtain ⟨r,_,rfl⟩:=List.mem_map.mp hu;exact r.flat
theorem t7 {ts:List T}(h:∀ u∈ts,ud 2 u):wu (.lst ts) (.lst ts)=some (false,.bl false):=by
 unfold wu
 have:gj 40 (.lst ts) (.lst ts)=some true:=by
  show (if ts.length=ts.length then cX (gj 39) ts ts else some false)=_;rw [if_pos rfl];exact nX λu hu=>aV 2 39 u (h u hu) (by decide)
 rw [this]
 rfl
theorem W4 (L f:T)(o2:Option RV){rs:List Rw}{ks:List Bool}(hl:rs.length < 98)(hk:ks.length < 98)(x:Int)(e6 e7:Option RV):∃ r:Rw,∀ {tl:MS},
  ze (zo 6 Uj) (ze (vZ 3 (mV 6)) (ze (zo 7 Uk) tl)) (lE L f o2 (rs.map Rw.t) ks (some (false,.int x)) e6 e7)=tl (lE L f o2 ((rs ++ [r]).map Rw.t) ks (some (false,.int x)) (some (false,r.t)) (some (false,oT (r.kd ks)))):=by
 obtain ⟨r,hr⟩:=KR x (ks:=ks) (by omega);have fl:=hG 2 r.t r.flat;refine ⟨r,λ{tl} => ?_⟩;have h1:zo 6 Uj (lE L f o2 (rs.map Rw.t) ks (some (false,.int x)) e6 e7)=.nx (lE L f o2 (rs.map Rw.t) ks (some (false,.int x)) (some (false,r.t)) e7):=ka (vF (vC (vV (b:=false) rfl) (vC (vV (b:=true) rfl) rfl)) hr) (.inl rfl) (xQ fl.1 fl.2.1 fl.2.2)
 have h2:vZ 3 (mV 6) (lE L f o2 (rs.map Rw.t) ks (some (false,.int x)) (some (false,r.t)) e7)=.nx (lE L f o2 ((rs ++ [r]).map Rw.t) ks (some (false,.int x)) (some (false,r.t)) e7):=by
  rw [List.map_append];exact iS (ts:=rs.map Rw.t) (r:=(false,r.t)) rfl (vV (b:=false) rfl) (by rw [List.length_map];have:=big;omega)
 have h3:zo 7 Uk (lE L f o2 ((rs ++ [r]).map Rw.t) ks (some (false,.int x)) (some (false,r.t)) e7)=.nx (lE L f o2 ((rs ++ [r]).map Rw.t) ks (some (false,.int x)) (some (false,r.t)) (some (false,oT (r.kd ks)))):=by
  refine ka (r:=(false,oT (r.kd ks))) (vF (vC (vV (b:=false) rfl) (vC (vV (b:=true) rfl) rfl)) (KM ks r)) (.inl rfl) ?_
  cases r.kd ks with
  | none=>exact xQ rfl rfl rfl
  | some b=>exact xQ rfl rfl rfl
 exact (zb h1).trans ((zb h2).trans (zb h3))
theorem W5 (L f:T)(o2:Option RV){rs:List Rw}{ks:List Bool}(hl:rs.length < 98)(hk:ks.length < 98)(x:Int)(e6 e7:Option RV):∃ r:Rw,
  (∃ b,r.kd ks=some b/\Q2 (lE L f o2 (rs.map Rw.t) ks (some (false,.int x)) e6 e7)=.nx (lE L f o2 ((rs ++ [r]).map Rw.t) (ks ++ [b]) (some (false,.int x)) (some (false,r.t)) (some (false,kT b)))) \/
  (r.kd ks=none/\Q2 (lE L f o2 (rs.map Rw.t) ks (some (false,.int x)) e6 e7)=.bk (lE L f o2 ((rs ++ [r]).map Rw.t) ks (some (false,.int x)) (some (false,r.t)) (some (false,.non)))):=by
 obtain ⟨r,h⟩:=W4 L f o2 hl hk x e6 e7;refine ⟨r,?_⟩;have h:=h (tl:=ze (jp (zS (m2 qQ (mV 7) (mC .non))) oi zk) (vZ 4 (mV 7)))
 cases hd:r.kd ks with
 | none =>
  rw [hd] at h;refine .inr ⟨rfl,h.trans ?_⟩;have hi:jp (zS (m2 qQ (mV 7) (mC .non))) oi zk (lE L f o2 ((rs ++ [r]).map Rw.t) ks (some (false,.int x)) (some (false,r.t)) (some (false,.non)))=.bk (lE L f o2 ((rs ++ [r]).map Rw.t) ks (some (false,.int x)) (some (false,r.t)) (some (false,.non))):=(vg (zR (vT (v2 (x:=.non) (y:=.non) (vV (b:=false) rfl) rfl rfl)))).trans rfl;show ze (jp (zS (m2 qQ (mV 7) (mC .non))) oi zk) (vZ 4 (mV 7)) (lE L f o2 ((rs ++ [r]).map Rw.t) ks (some (false,.int x)) (some (false,r.t)) (some (false,.non)))=_;unfold ze;rw [hi]
 | some b =>
  rw [hd] at h;refine .inl ⟨b,rfl,h.trans ((zb (zw (zR (vT (v2 (x:=kT b) (y:=.non) (vV (b:=false) rfl) rfl rfl))))).trans ?_)⟩;refine (show vZ 4 (mV 7) (lE L f o2 ((rs ++ [r]).map Rw.t) ks (some (false,.int x)) (some (false,r.t)) (some (false,kT b)))=_ from iS (ts:=ks.map kT) (r:=(false,kT b)) rfl (vV (b:=false) rfl) (by rw [List.length_map];have:=big;omega)).trans ?_;unfold lE kL;rw [List.map_append (f:=kT)]
  rfl
theorem t8 (L f:T)(o2:Option RV):∀ (cs:List Int) {rs:List Rw} {ks:List Bool} (e5 e6 e7:Option RV),Go [] rs ks->rs.length + cs.length < 98 ->
  ∃ rs' ks' st e5' e6' e7',Go [] rs' ks'/\rs'.length < 98/\(st=rs'\/∃ r:Rw,st=rs' ++ [r]/\r.kd ks'=none)/\wk (gN 5) Q2 (cs.map T.int) (lE L f o2 (rs.map Rw.t) ks e5 e6 e7)=.nx (lE L f o2 (st.map Rw.t) ks' e5' e6' e7')
 | [],rs,ks,e5,e6,e7,g,hl=>⟨rs,ks,rs,e5,e6,e7,g,by simpa using hl,.inl rfl,rfl⟩
 | x :: cs,rs,ks,e5,e6,e7,g,hl=>by
  have gl:=g.len;rw [List.length_nil,Nat.zero_add] at gl;rw [List.length_cons] at hl;obtain ⟨r,⟨b,hb,h⟩ | ⟨hn,h⟩⟩:=W5 L f o2 (rs:=rs) (ks:=ks) (by omega) (by omega) x e6 e7
  ·obtain ⟨rs',ks',st,f5,f6,f7,g',hl',hs,ih⟩:=t8 L f o2 cs (some (false,.int x)) (some (false,r.t)) (some (false,kT b)) (g.snoc hb) (by rw [List.length_append,List.length_singleton];omega)
   refine ⟨rs',ks',st,f5,f6,f7,g',hl',hs,?_⟩;rw [List.map_cons,lu (e1:=lE L f o2 (rs.map Rw.t) ks (some (false,.int x)) e6 e7) rfl h];exact ih
  ·refine ⟨rs,ks,rs ++ [r],some (false,.int x),some (false,r.t),some (false,.non),g,by omega,.inr ⟨r,rfl,hn⟩,?_⟩
   rw [List.map_cons];unfold wk
   show (match Q2 (lE L f o2 (rs.map Rw.t) ks (some (false,.int x)) e6 e7) with
    | .nx e2=>wk (gN 5) Q2 (cs.map T.int) e2
    | .ct e2=>wk (gN 5) Q2 (cs.map T.int) e2
    | .bk e2=>.nx e2
    | o=>o)=_
   rw [h]
theorem GF {env:En}{r:RV}(h1:env.any gk=true)(h2:lX r=false):L3.clean env r=false:=by
 unfold L3.clean;rw [h1,h2]
 rfl
theorem GG {m:ME}{g:MG}{env e:En}{r:RV}(h:m (hide env)=.bad)(k:m env=.ok r)(c:L3.clean env r=true)(hg:g r.2 env=some e):vb m g env=.nx e:=by
 unfold vb;rw [WH h k c];dsimp only;rw [hg]
theorem WP {m:ME}{g:MG}{env e:En}{r:RV}(h:m (hide env)=.bad)(k:m env=.ok r)(c:L3.clean env r=false)(hg:g r.2 (cZ env)=some e):vb m g env=.nx e:=by
 unfold vb;rw [WI h k c];dsimp only;rw [hg]
theorem t9 (c:CA){f:T}{rs:List Rw}{ks:List Bool}(g:Go [] rs ks)(hl:rs.length < 98){env:En}(h1:env[1]? = some (some (false,f)))(h3:env[3]? = some (some (false,.lst (rs.map Rw.t))))(h4:env[4]? = some (some (false,kL ks)))(h9:env[9]? = some (some (false,kL ks)))(h10:env[10]? = some (some (false,.non))):UI c env=.ok (false,.bl true):=by
 have gl:=g.len;rw [List.length_nil,Nat.zero_add] at gl;exact av (v2 (vV h10) rfl rfl) (av (vF (vC (vV h9) (vC (vV h4) rfl)) (JZ ks (by omega))) (v2 (x:=.bl true) (y:=.bl true) (vF (vC (vV h1) (vC (vV h3) rfl)) (GB c f g (by omega))) rfl rfl))
theorem WQ (rs:List Rw):jA [.lst (rs.map Rw.t)]=some (false,.int (rs.length:Int)):=by
 show some (false,T.int ((rs.map Rw.t).length:Int))=_;rw [List.length_map]
def eE (L f:T)(o2:Option RV)(R:List T)(ks:List Bool)(e5 e6 e7:Option RV)(H:List T)(e9 e10 e11:Option RV):En:=[some (false,L),some (false,f),o2,some (true,.lst R),some (true,kL ks),e5,e6,e7,some (true,.lst H),e9,e10,e11]
def zE (L f:T)(o2:Option RV)(R:List T)(ks:List Bool)(e5 e6 e7:Option RV)(H:List T):En:=[some (false,L),some (false,f),u5 o2,some (false,.lst R),some (false,kL ks),u5 e5,u5 e6,u5 e7,some (false,.lst H),some (false,kL ks),some (false,.non),some (false,.bl true)]
theorem WR (L f:T)(o2:Option RV)(R:List T)(ks:List Bool)(e5 e6 e7:Option RV)(H:List T)(e9 e10 e11:Option RV):(eE L f o2 R ks e5 e6 e7 H e9 e10 e11).any gk=true:=by
 unfold eE;simp [gk]
theorem UJ (ks:List Bool):lX (false,.tup [kL ks,.non,.bl true])=false:=by
 simp [lX,kL,ef,noLs]
theorem GH (c:CA)(L f:T)(o2:Option RV){rs:List Rw}{ks:List Bool}(g:Go [] rs ks)(hl:rs.length < 98)(e5 e6 e7:Option RV):ze (vb (Q3 c 8) g3) (GE c) (eE L f o2 (rs.map Rw.t) ks e5 e6 e7 (rs.map Rw.t) none none none)=.rt (false,.bl true):=by
 have gl:=g.len;rw [List.length_nil,Nat.zero_add] at gl
 have ha:vb (Q3 c 8) g3 (eE L f o2 (rs.map Rw.t) ks e5 e6 e7 (rs.map Rw.t) none none none)=.nx (zE L f o2 (rs.map Rw.t) ks e5 e6 e7 (rs.map Rw.t)) :=
  WP rfl (vF (vC (vV (b:=false) rfl) (vC (vV (b:=true) rfl) rfl)) (WM c f g (by omega))) (GF (WR ..) (UJ ks)) rfl
 refine (zb ha).trans ?_;unfold GE;refine (zb (zw (zR (mF (iR (p:=false) (vV (b:=false) rfl)) (vT (v2 (vV (b:=false) rfl) (vV (b:=false) rfl) (t7 (qM rs)))))))).trans ?_;refine (zb (zw (zR (vT (v2 (vK (vC (vV (b:=false) rfl) rfl) (fu ks)) (vK (vC (vV (b:=false) rfl) rfl) (WQ rs)) (oR (decide_eq_false (by omega)))))))).trans ?_;exact zt (t9 c (f:=f) g hl rfl rfl rfl rfl rfl)
theorem Y4 (rs:List Rw)(r:Rw):Zv (.lst ((rs ++ [r]).map Rw.t)) none (some (-1))=some (true,.lst (rs.map Rw.t)):=by
 show some (true,T.lst (ki ((rs ++ [r]).map Rw.t) none (some (-1))))=_
 have h:ki ((rs ++ [r]).map Rw.t) none (some (-1))=rs.map Rw.t:=by
  unfold ki;rw [List.map_append,List.length_append,List.length_map];have h1:HT.sIx (rs.length + 1) 0 none=0:=by simp [HT.sIx]
  have h2:HT.sIx (rs.length + 1) (rs.length + 1) (some (-1))=rs.length:=by simp [HT.sIx];omega
  show (List.drop (HT.sIx (rs.length + 1) 0 none) _).take (HT.sIx (rs.length + 1) (rs.length + 1) (some (-1)) - HT.sIx (rs.length + 1) 0 none)=_;rw [h1,h2,List.drop_zero,Nat.sub_zero];simp
 rw [h]
theorem Q4 (c:CA)(L f:T)(o2:Option RV){rs:List Rw}{ks:List Bool}{r:Rw}(g:Go [] rs ks)(hl:rs.length < 98)(hn:r.kd ks=none)(e5 e6 e7:Option RV):ze (vb (Q3 c 8) g3) (GE c) (eE L f o2 ((rs ++ [r]).map Rw.t) ks e5 e6 e7 ((rs ++ [r]).map Rw.t) none none none)=.rt (false,.bl true):=by
 have gl:=g.len;rw [List.length_nil,Nat.zero_add] at gl
 have ha:vb (Q3 c 8) g3 (eE L f o2 ((rs ++ [r]).map Rw.t) ks e5 e6 e7 ((rs ++ [r]).map Rw.t) none none none)=.nx (eE L f o2 ((rs ++ [r]).map Rw.t) ks e5 e6 e7 ((rs ++ [r]).map Rw.t) (some (false,.non)) (some (false,.int (rs.length:Int))) (some (false,.bl true))) :=
  GG rfl (vF (vC (vV (b:=false) rfl) (vC (vV (b:=true) rfl) rfl)) (Q0 c f g (by omega) hn)) (xQ rfl rfl rfl) rfl
 refine (zb ha).trans ?_;have hlb:Uo c (eE L f o2 ((rs ++ [r]).map Rw.t) ks e5 e6 e7 ((rs ++ [r]).map Rw.t) (some (false,.non)) (some (false,.int (rs.length:Int))) (some (false,.bl true)))=.ok (false,.bl false):=vF (vC (vV (b:=false) rfl) (vC (vV (b:=true) rfl) rfl)) (Q1 c f g (by omega) hn)
 have hd2:jJ (UG c) (eE L f o2 ((rs ++ [r]).map Rw.t) ks e5 e6 e7 ((rs ++ [r]).map Rw.t) (some (false,.non)) (some (false,.int (rs.length:Int))) (some (false,.bl true)))=.ok false:=by
  refine xJ rfl (mF (iR (p:=false) (vF (rs:=[(false,.int (rs.length:Int)),(false,.int (rs.length:Int))]) (vC (vV (b:=false) rfl) (vC (vK (vC (vV (b:=true) rfl) rfl) ?_) rfl)) (W2 _))) (vT (v2 hlb rfl rfl)));rw [<- gl];exact fu ks
 have fr:=c8 (qM rs)
 have hcu:zo 3 UH (eE L f o2 ((rs ++ [r]).map Rw.t) ks e5 e6 e7 ((rs ++ [r]).map Rw.t) (some (false,.non)) (some (false,.int (rs.length:Int))) (some (false,.bl true)))=.nx (eE L f o2 (rs.map Rw.t) ks e5 e6 e7 ((rs ++ [r]).map Rw.t) (some (false,.non)) (some (false,.int (rs.length:Int))) (some (false,.bl true))) :=
  ka (r:=(true,.lst (rs.map Rw.t))) (vS (vV (b:=true) rfl) rfl rfl (Y4 rs r)) (.inl rfl) (xQ fr.1 fr.2.1 fr.2.2)
 have has:vb (Q3 c 3) g3 (eE L f o2 (rs.map Rw.t) ks e5 e6 e7 ((rs ++ [r]).map Rw.t) (some (false,.non)) (some (false,.int (rs.length:Int))) (some (false,.bl true)))=.nx (zE L f o2 (rs.map Rw.t) ks e5 e6 e7 ((rs ++ [r]).map Rw.t)) :=
  WP rfl (vF (vC (vV (b:=false) rfl) (vC (vV (b:=true) rfl) rfl)) (WM c f g (by omega))) (GF (WR ..) (UJ ks)) rfl
 unfold GE;refine (zb (zw (xJ rfl (mF (iR (p:=false) (vV (b:=false) rfl)) (vT (v2 (vV (b:=true) rfl) (vV (b:=true) rfl) (t7 (qM (rs ++ [r]))))))))).trans ?_
 have hlt:jJ (zS (m2 wR (GD 4) (GD 3))) (eE L f o2 ((rs ++ [r]).map Rw.t) ks e5 e6 e7 ((rs ++ [r]).map Rw.t) (some (false,.non)) (some (false,.int (rs.length:Int))) (some (false,.bl true)))=.ok true :=
  xJ rfl (vT (v2 (vK (vC (vV (b:=true) rfl) rfl) (fu ks)) (vK (vC (vV (b:=true) rfl) rfl) (WQ (rs ++ [r]))) (oR (decide_eq_true (by rw [List.length_append,List.length_singleton];omega)))))
 refine (zb ((vg hlt).trans ((zb (zw hd2)).trans ((zb hcu).trans has)))).trans ?_;exact zt (t9 c (f:=f) g hl rfl rfl rfl rfl rfl)
theorem W6 (ns:List Int):∃ cs:List Int,cs.length<=40/\Zv (.lst (ns.map T.int)) (some 1) (some 41)=some (true,.lst (cs.map T.int)):=by
 refine ⟨(ns.drop (HT.sIx ns.length 0 (some 1))).take (HT.sIx ns.length ns.length (some 41) - HT.sIx ns.length 0 (some 1)),?_,?_⟩
 ·rw [List.length_take,List.length_drop]
  have h1:HT.sIx ns.length 0 (some 1)=min 1 ns.length:=by simp [HT.sIx]
  have h2:HT.sIx ns.length ns.length (some 41)=min 41 ns.length:=by simp [HT.sIx]
  rw [h1,h2];omega
 ·show some (true,T.lst (ki (ns.map T.int) (some 1) (some 41)))=_
  unfold ki;rw [List.length_map,<- List.map_drop,<- List.map_take]
def sE (L:T)(f:T)(o2:Option RV):En:=[some (false,L),some (false,f),o2,none,none,none,none,none,none,none,none,none]
theorem W7 (c:CA)(ns:List Int):∃ f o2,∀ {tl:MS} {o:b7},tl (sE (.lst (ns.map T.int)) f o2)=o->ze (zo 1 (WO c (wy z5))) (ze (jp Um (ze (zo 2 Ul) (zo 1 (WO c (mV 2)))) zk) tl) (xb 12 [(false,.lst (ns.map T.int))])=o:=by
 have hc:jj [(false,.lst (ns.map T.int)),(false,.int 0)]=.ok (false,.int (ns.getD 0 0)):=XH ns 0;have he:∀ {env:En},WO c (wy z5) env=.ok (false,pr c []):=λ{env} => Y0 c (ds:=[]) (λd h=>nomatch h) (by constructor) (by decide) (by decide +kernel) (m:=wy z5) (env:=env) (b:=true) (vL rfl rfl rfl);have st:zo 1 (WO c (wy z5)) (xb 12 [(false,.lst (ns.map T.int))])=.nx (sE (.lst (ns.map T.int)) (pr c []) none):=zp he;have ht:jJ Um (sE (.lst (ns.map T.int)) (pr c []) none)=.ok (decide (ns.getD 0 0 % 3=0)):=zR (vT (v2 (v2 (vF (vC (vV (b:=false) rfl) (vC rfl rfl)) hc) rfl (pY _ (by decide))) rfl (kD _ 0)))
 by_cases h0:ns.getD 0 0 % 3=0
 ·rw [decide_eq_true h0] at ht
  have h2:zo 2 Ul (sE (.lst (ns.map T.int)) (pr c []) none)=.nx (sE (.lst (ns.map T.int)) (pr c []) (some (true,.lst (rE.map D.t)))):=zp (r:=(true,.lst (rE.map D.t))) rfl;have hm:WO c (mV 2) (sE (.lst (ns.map T.int)) (pr c []) (some (true,.lst (rE.map D.t))))=.ok (false,pr c rE):=Y0 c GC Y2 (by decide) (by decide +kernel) (b:=false) (vV (b:=true) rfl)
  have hs:∃ b,zo 1 (WO c (mV 2)) (sE (.lst (ns.map T.int)) (pr c []) (some (true,.lst (rE.map D.t))))=.nx (sE (.lst (ns.map T.int)) (pr c rE) (some (b,.lst (rE.map D.t)))):=by
   unfold zo
   cases hcl:L3.clean (sE (.lst (ns.map T.int)) (pr c []) (some (true,.lst (rE.map D.t)))) (false,pr c rE) with
   | true=>rw [WH rfl hm hcl];exact ⟨true,rfl⟩
   | false=>rw [WI rfl hm hcl];exact ⟨false,rfl⟩
  obtain ⟨b,hs⟩:=hs;exact ⟨_,_,λ{tl o} g=>(zb st).trans ((zb ((vg ht).trans ((zb h2).trans hs))).trans g)⟩
 ·rw [decide_eq_false h0] at ht
  exact ⟨_,_,λ{tl o} g=>(zb st).trans ((zb (zw ht)).trans g)⟩
theorem Y5 {c:CA}(ns:List Int)(hns:ns.length<=63):WC c [(false,.lst (ns.map T.int))]=.ok (false,.bl true):=by
 refine zW (n:=12) (k:=1) (mb:=Jx c) rfl ?_;rw [Y3];obtain ⟨f,o2,hf⟩:=W7 c ns;refine hf ?_;refine (zb (zp (r:=(true,.lst [])) (vL (rs:=[]) rfl rfl rfl))).trans ((zb (e':=lE (.lst (ns.map T.int)) f o2 [] [] none none none) (zp (r:=(true,.lst [])) (vL (rs:=[]) rfl rfl rfl))).trans ?_);obtain ⟨cs,hcl,hcs⟩:=W6 ns;obtain ⟨rs,ks,st,e5,e6,e7,g,hl,hst,hL⟩:=t8 (.lst (ns.map T.int)) f o2 cs (rs:=[]) (ks:=[]) none none none (.nil []) (by simp;omega);refine (zb (aW (b:=true) (vS (vV (b:=false) rfl) rfl rfl hcs) hL)).trans ?_;have fr:=c8 (qM st);refine (zb (e':=eE (.lst (ns.map T.int)) f o2 (st.map Rw.t) ks e5 e6 e7 (st.map Rw.t) none none none) (ka (r:=(true,.lst (st.map Rw.t))) rfl (.inl rfl) (xQ fr.1 fr.2.1 fr.2.2))).trans ?_
 rcases hst with rfl | ⟨r,rfl,hn⟩
 ·exact GH c _ f o2 g hl e5 e6 e7
 ·exact Q4 c _ f o2 g hl hn e5 e6 e7
theorem walk {l:W.OpenLaw}{q:Program}{loose:List Str}{XP:(Str->Option Value)->Heap->Prop}{YP:World->Heap->Prop}{d:DefRec}{K:Params->W.Frag}(hn:l.most=some 63)(hdf:d.params.defaults=[])(hdn:d.name = "law")
  (hY:∀ (w:World) (h:Heap),YP w h->(K w.params).In h) (hYT:∀ (w:World) (h:Heap),YP w h->h.get? tabP=some { cls:=.none,data:=.fields #[] }) {c₀:Addr} (hYC:∀ (w:World) (h:Heap),YP w h->W.CodeHd h c₀ tabP) (hYN:∀ w:World,W.noTabs (K w.params)=true) (F:∀ (w:World) (mg:Str->Option Value) (h:Heap),(K w.params).In h->h.Ns mainGlobals mg->∃ c,Txt l.prog w (K w.params) mg c) :
  W.WalkO q loose XP YP l.row.toRowW d [] (λf vs=>PySem.call f vs) :=
 QW (x := "_law_script") (k:=11) (st:=aL) hn hdf hdn ⟨rfl,by decide,by decide⟩ hY hYT hYC hYN (λ_ _ _ _ _ _ _=>rfl) λw mg h KX G=>by
  obtain ⟨c,T⟩:=F w mg h KX G;exact ⟨T.yz,λf fd Fl base=>Ke (Kt T Fl) Y5⟩
end Law
open PySem PySem.W PyProof.Rows L3
namespace PySem.W.Fast
def tw1239844211512637713:=0
def tw15166395951025532765:=0
def tw11814881620551401358:=0
def tw3174182743546266907:=0
def tw9156982354791789429:=0
def tw16823723707567670005:=0
def tw2133259733452765048:=0
def tw5591647708911158219:=0
def tw2776972746437389144:=0
def tw3286190180037066940:=0
def tw12518641426062785432:=0
def tw8556997048715530074:=0
def tw5536625094544292795:=0
def tw7999814185018260404:=0
def tw4414768370706757826:=0
def tw12023866220947826229:=0
def tw14710985632682103942:=0
def tw8516616222338130518:=0
def tw10177486763493257558:=0
def tw10990191517966806656:=0
def tw1500466157143959320:=0
def tw3021594888582278511:=0
def tw1528010608863481053:=0
def tw2904975070638985419:=0
def tw1065475224292419288:=0
def tw3051448881278840198:=0
def tw9527448740037009013:=0
def tw14249434663992804115:=0
def tw228069688169165658:=0
def tw2174830368783449570:=0
def tw17242679350461128327:=0
def tw1119821713323268563:=0
def tw18206583583478779816:=0
def tw15904176507401210765:=0
def tw3165822744562728296:=0
def tw1736415890342411930:=0
def tw8307464446002689538:=0
def tw7799769018868353647:=0
def tw16246816125336075880:=0
def tw16841377279998267515:=0
def tw4149280823082709340:=0
def tw1575558836921172604:=0
def tw4792616160369854690:=0
def tw8366689806186532237:=0
def tw12032678082524867461:=0
def tw9540393834746589500:=0
def tw13347670344323370711:=0
def tw6416273245609841688:=0
def tw86209232778781801:=0
def tw15891184639588433902:=0
def tw11871396696946659911:=0
def tw9811147089941142971:=0
def tw4080126674254222284:=0
def tw10008017846605382338:=0
def tw3640242203643839978:=0
def tw11037687925865731336:=0
def tw10615586495742061467:=0
def tw13840844669542935535:=0
def tw14321848120166607767:=0
def tw1547006293018309945:=0
def tw12422401251973602449:=0
def tw1141275641882072085:=0
def tw16754262580811181378:=0
def tw7519357188153410816:=0
def tw2619071164618232478:=0
def tw8412037741298998634:=0
def tw5282893505679492902:=0
def tw11962782264402111034:=0
def tw9305824000466774143:=0
def tw831104443714770531:=0
def tw11326176245855342563:=0
def tw14025236445235424021:=0
def tw831831823388998015:=0
def tw8829107452393582401:=0
def tw9965820265766955039:=0
def tw1136875161758813896:=0
def tw1071453265986462812:=0
def tw2907126721497377462:=0
def tw16305603903959148490:=0
def tw11752221712589876275:=0
def tw8069815306546126278:=0
def tw10133040140408587268:=0
def tw17108714621705297120:=0
def tw5790084226658580170:=0
def tw8798552972816222906:=0
def tw15805512971438058365:=0
def tw11446346808127488187:=0
def tw1815985501987724913:=0
def tw724720749987816481:=0
def tw10348266966928558519:=0
def tw6439882939066224998:=0
def tw946362317332142712:=0
def tw8520010465868013416:=0
def tw9761420373059380576:=0
def tw17439015428156944560:=0
def tw13004700112832108518:=0
def tw236629442095619385:=0
def tw2558857442878716890:=0
def tw16155466709645430044:=0
def tw1665400384006927995:=0
def tw10678365060688461017:=0
def tw6548984812605303750:=0
def tw5301366482853079613:=0
def tw2457487528731244311:=0
def tw7838569659596443226:=0
def tw2585928065646216904:=0
def tw356534294659224480:=0
def tw11521305501210679493:=0
def tw7500512211403829828:=0
def tw9187504886299020616:=0
def tw15888954562388786472:=0
def tw6301170286140339292:=0
def tw6357228199902743004:=0
def tw18292786248477799809:=0
def tw844765580267513191:=0
def tw14499543381122082264:=0
def tw3391367731258530391:=0
def tw17533704549178040957:=0
def tw654067306607541027:=0
def tw14972595877301670425:=0
def tw879236928055110987:=0
def tw5092560287417160207:=0
def tw5519741229968424832:=0
def tw8225827349405692649:=0
def tw8543850738681501039:=0
def tw17307741937659010513:=0
def tw2362863441893715264:=0
def tw13141441923603692795:=0
def tw16461759956436683793:=0
def tw3444251436929804412:=0
def tw15112302317623275777:=0
def tw16125030611119974793:=0
def tw8978314049563152854:=0
def tw17532542143712707534:=0
def tw10022761495937098182:=0
def tw7022688498054022256:=0
def tw8042197909353260546:=0
def tw14380374555531400926:=0
def tw14547134136667581716:=0
def tw590637425928371044:=0
def tw7923847037001992923:=0
def tw7931450861417093336:=0
def tw15601344456527043133:=0
def tw2076698377368418301:=0
def tw17707939585005939234:=0
def tw15527781650740252224:=0
def tw17516142666536195962:=0
def tw1789498420379540111:=0
def tw4265366304614426991:=0
def tw11011672166721674536:=0
def tw4423631972389561712:=0
def tw10118340547106493747:=0
def tw989085155712280375:=0
def tw4058793078710355228:=0
def tw8665345879813285480:=0
def tw2795459671485185489:=0
def tw15475477050693773761:=0
def tw6795933815242909408:=0
def tw17996500458183884330:=0
def tw11984086950431640469:=0
def tw9586764509699630906:=0
def tw5659369113263230430:=0
def tw14267362021700530262:=0
def tw6817459723061243672:=0
def tw7743644097064991683:=0
def tw11258562801639030321:=0
def tw11158102615062157497:=0
def tw15794316713362324550:=0
def tw4571186755152377308:=0
def tw14948249695499770392:=0
def tw5002308264874440688:=0
def tw14101393066337262456:=0
def tw3881509878666498841:=0
def tw14158072594140996758:=0
def tw3360122609600558763:=0
def tw4456002490733649647:=0
def tw17706421182973322697:=0
def tw13929441024290716286:=0
def tw16037894874506059884:=0
def tw9271922170388052851:=0
def tw17465093353968130337:=0
def tw2378273094110840981:=0
def tw16545476787201717554:=0
def tw18348323169399469217:=0
def tw11280212297626027866:=0
def tw10700409886649690239:=0
def tw17978154113572150779:=0
def tw3796492928231141335:=0
def tw1007482714586272678:=0
def tw16958423285550797232:=0
def tw1749391678270482641:=0
def tw2738769423107256044:=0
def tw14700782071641883978:=0
def tw15644557709533235741:=0
def tw3795003333514373129:=0
def tw685951744659882174:=0
def tw16312308834273385336:=0
def tw12365326591883963423:=0
def tw14760452161378347933:=0
def tw16745987044418291300:=0
def tw14074975107430725131:=0
def tw15617612196853021192:=0
def tw8165417836111922001:=0
def tw15304788201976961046:=0
def tw3533481973948311583:=0
def tw12742219549051490710:=0
def tw6149102735538888611:=0
def tw3430758008208094807:=0
def tw15775131948516547735:=0
def tw14427617722741029195:=0
def tw8601108400370975441:=0
def tw4280944751806908277:=0
def tw11566542888200501157:=0
def tw12523594606376365869:=0
def tw15981877256579933471:=0
def tw17788028805938781844:=0
def tw17493851266726261720:=0
def tw17835921389104463354:=0
def tw17342609944582595947:=0
def tw16593812289662018952:=0
def tw14068427062142954786:=0
def tw17895987673363073101:=0
def tw2580343627473303617:=0
def tw13840778878533892426:=0
def tw10628813954113264169:=0
def tw62066961804863092:=0
def tw17262043487958372701:=0
def tw3815246686455604539:=0
def tw13142538353221319534:=0
def tw9814076463596994258:=0
def tw1924786763533534855:=0
def tw11273993181940109533:=0
def tw13372396252563218721:=0
def tw10754814893211773441:=0
def tw5143337284230997809:=0
def tw16044436502451412050:=0
def tw18369584796888809453:=0
def tw11598514328878005748:=0
def tw12968766115681025151:=0
def tw8280309405186282142:=0
def tw16188566648272327671:=0
def tw102941449884224045:=0
def tw2041107921874293169:=0
def tw1272433644892328893:=0
def tw2118350859194573591:=0
def tw16408073749543586778:=0
def tw10360166249429105067:=0
def tw11082510529494535217:=0
def tw707602612183603743:=0
def tw18365683551599068176:=0
def tw1859636458474078707:=0
def tw8003398285023109837:=0
def tw11913746003111858301:=0
def tw14586843222181447703:=0
def tw15586929887768280154:=0
def tw10946800400924770765:=0
def tw8386993720923689448:=0
def tw15811112118436990958:=0
def tw2509626921362619025:=0
def tw13475397914244426922:=0
def tw2070425108913942473:=0
def tw11160157034503979920:=0
def tw7714131060980870002:=0
def tw16505176617627390978:=0
def tw5155830566897270421:=0
def tw3458804800190505792:=0
def tw17270669336157580982:=0
def tw17223108138402171723:=0
def tw4325293257250206420:=0
def tw15377601808960326748:=0
def tw8337700661633814328:=0
def tw10592611495800238695:=0
def tw11516575510187086821:=0
def tw13636991443278447808:=0
def tw12602391132818250958:=0
def tw7981571009434119189:=0
def tw146137481745482181:=0
def tw15649837517841382214:=0
def tw726205668573139605:=0
def tw10081580841340525441:=0
def tw6097623825150595444:=0
def tw7446284823697036973:=0
def tw14442800407998147725:=0
def tw2873247669506127957:=0
def tw1259280242398209969:=0
def tw16288454172051023964:=0
def tw4633356572839225229:=0
def tw17573328117731600835:=0
def tw2294341489330302739:=0
def tw17359623950993758989:=0
def tw16404947755026753658:=0
def tw17444495719317718944:=0
def tw9952870832165006458:=0
def tw2534275069112839807:=0
def tw16401942383307816083:=0
def tw3518024943711649750:=0
def tw17908043441558588389:=0
def tw13513827057433553538:=0
def tw15566749277532579295:=0
def tw14321360177738278046:=0
end PySem.W.Fast
set_option maxRecDepth 100000 in
set_option maxHeartbeats 0 in
theorem PySem.Challenge.cw_facestead_k21_plain_rows_holds : PySem.Challenge.rw_facestead_k21_plain_rows.Holds := by
 w_on;o_law;k_head;(case hw=>w_witness2)
 k_fill
 refine Law.walk (l:=PySem.Challenge.rw_facestead_k21_plain_rows) rfl rfl rfl (λw h Y=>W.km_in_of Y) (λw h Y=>W.km_tabs_of Y L2.tabP (List.mem_singleton.mpr rfl)) (c₀:=537) (λw h Y=>W.codeHd_of_K (W.km_in_of Y) (by kernel_rfl)) (λw=>by kernel_rfl) ?F
 case F =>
  intro w mg h KX G;exact ⟨⟨_,_,_,0,0,0,0,_,L3.memoP _ w (L3.gOf Law.m_is_kind)⟩,⟨rfl,pd KX G,pd KX G,pd KX G,pd KX G,pd KX G,pd KX G,pd KX G,pd KX G,pd KX G,pd KX G,pd KX G,pd KX G,pd KX G,Wo KX G,G2 KX G,Wo KX G,G1 KX G,Wq [("call",_,.ref _,.ref _,.tup [.int 3,.int 4]),("make",_,.ref _,.ref _,.tup [.int 2]),("sort",_,.ref _,.ref _,.tup [.int 2])] KX G (by (try dsimp only);k_is) (by (try dsimp only);k_is) (by rfl) (by decide) (by decide +kernel) (ja rfl (ja rfl (ja rfl iB))) (λF H=>(ja (Xp (by (try dsimp only);k_is)) (ja (oK (by (try dsimp only);k_is)) (ja (oK (by (try dsimp only);k_is)) iB)))),Wq [("plus",_,.ref _,.ref _,.tup [.int 1]),("glue",_,.ref _,.ref _,.tup [.int 1]),("form",_,.ref _,.ref _,.tup [.int 3]),("get",_,.ref _,.ref _,.tup [.int 1]),("getor",_,.ref _,.ref _,.tup [.int 1,.int 3]),("take",_,.ref _,.ref _,.tup [.int 1,.int 3]),("sort",_,.ref _,.ref _,.tup [.int 1,.int 3])] KX G (by (try dsimp only);k_is) (by (try dsimp only);k_is) (by rfl) (by decide) (by decide +kernel) (ja rfl (ja rfl (ja rfl (ja rfl (ja rfl (ja rfl (ja rfl iB))))))) (λF H=>(ja (oK (by (try dsimp only);k_is)) (ja (oK (by (try dsimp only);k_is)) (ja (oK (by (try dsimp only);k_is)) (ja (oK (by (try dsimp only);k_is)) (ja (Xp (by (try dsimp only);k_is)) (ja (Xp (by (try dsimp only);k_is)) (ja (Xp (by (try dsimp only);k_is)) iB)))))))),G7 [("num",_,_,"num_kind"),("word",_,_,"word_kind"),("plus",_,_,"plus_kind"),("glue",_,_,"glue_kind"),("call",_,_,"call_kind"),("make",_,_,"make_kind"),("form",_,_,"form_kind"),("get",_,_,"get_kind"),("getor",_,_,"getor_kind"),("take",_,_,"take_kind"),("sort",_,_,"sort_kind")] KX G (by (try dsimp only);k_is) (by (try dsimp only);k_is) (by rfl) (by decide +kernel) (xO (by (try dsimp only);k_is) (xO (by (try dsimp only);k_is) (xO (by (try dsimp only);k_is) (xO (by (try dsimp only);k_is) (xO (by (try dsimp only);k_is) (xO (by (try dsimp only);k_is) (xO (by (try dsimp only);k_is) (xO (by (try dsimp only);k_is) (xO (by (try dsimp only);k_is) (xO (by (try dsimp only);k_is) (xO (by (try dsimp only);k_is) Kl))))))))))),zx KX G,zx KX G,zx KX G,zx KX G,zx KX G,zx KX G,zx KX G,zx KX G,zx KX G,zx KX G,zx KX G,zx KX G,zx KX G,zx KX G,zx KX G,zx KX G,zx KX G,zx KX G,zx KX G,zx KX G,zx KX G,zx KX G,zx KX G,zx KX G,zx KX G,zx KX G,zx KX G,zx KX G,zx KX G,zx KX G,zx KX G,zx KX G,zx KX G,zx KX G,zx KX G,Xf KX G,Kg,Xg,Wp,Wp,Xf KX G,Xf KX G,Xf KX G,Xq KX G,Kp,Kq,J5 (by dsimp only;decide) (by (try dsimp only);k_is) (by (try dsimp only);k_is) (by (try dsimp only);k_is),J5 (by dsimp only;decide) (by (try dsimp only);k_is) (by (try dsimp only);k_is) (by (try dsimp only);k_is),Xr⟩⟩
