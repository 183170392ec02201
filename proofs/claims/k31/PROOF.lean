import PyProof.Rows.All
import Wide.All
import OpenK.AllK
import Wide.FinOn
import PyProof.EqAt
import PyProof.EqKinds
import PyProof.TupleCall
import KE.LcSums
import KE.KSortTup
import PyProof.NeKinds
import PyProof.Rows.SetFrom
import PyProof.WalksEnum
import KE.KLam
import KE.KRevSl
import KE.KDictList
import PyProof.StrLawsTight
import PyProof.Conv_int_bool
import PyProof.DictItems
import KE.KPairComp
import KE.KItemsList
import PyProof.TupleOfSeq
import PyProof.Rows.Range3
import Lean
import PySem.Challenge.RW_facestead_k31_what_fits_plain_kinds
set_option Elab.async false
set_option bootstrap.genMatcherCode false
noncomputable section
set_option linter.all false
set_option maxRecDepth 100000
namespace L2
open PySem PySem.Spec PyProof.Rows
abbrev Key:=Sum Int Str
def hW:Key->Value->Bool
 | .inl k,v=>Value.isInt k v
 | .inr x,v=>Value.isStrOf x v
def Ul (w:World):Key->Int
 | .inl k=>hashInt k
 | .inr x=>hashStr w x
def ji:∀ {k:Key} {v:Value},hW k v=true->(∃ i t,k=Sum.inl i/\v=Value.int i t)\/(∃ x t,k=Sum.inr x/\v=Value.str x t)
 | .inl i,v,h=>by
  obtain ⟨t,e⟩:=Value.isInt_shape (k:=i) (v:=v) h;exact .inl ⟨i,t,rfl,e⟩
 | .inr x,v,h=>by
  obtain ⟨t,e⟩:=Value.isStrOf_shape (x:=x) (v:=v) h;exact .inr ⟨x,t,rfl,e⟩
def Zn (i:Int)(t:Tok):hW (.inl i) (.int i t)=true:=by simp [hW,Value.isInt]
def Zo (x:Str)(t:Tok):hW (.inr x) (.str x t)=true:=by simp [hW,Value.isStrOf]
def Kr (a b:Int):decide ((Sum.inl a:Key)=Sum.inl b)=(a == b):=by
 by_cases e:a=b
 ·subst e;simp
 ·have h:¬ (Sum.inl a:Key)=Sum.inl b:=λq=>e (Sum.inl.inj q)
  rw [decide_eq_false h];exact (beq_eq_false_iff_ne.mpr e).symm
def Ks (a b:Str):decide ((Sum.inr a:Key)=Sum.inr b)=decide (a=b):=by
 by_cases e:a=b
 ·subst e;simp
 ·have h:¬ (Sum.inr a:Key)=Sum.inr b:=λq=>e (Sum.inr.inj q)
  rw [decide_eq_false h,decide_eq_false e]
def Kt (a:Int)(b:Str):decide ((Sum.inl a:Key)=Sum.inr b)=false:=decide_eq_false (λq=>nomatch q)
def Ku (a:Str)(b:Int):decide ((Sum.inr a:Key)=Sum.inl b)=false:=decide_eq_false (λq=>nomatch q)
def j3 (prog:Program)(w:World):PySem.KeyKind prog w Key where
 is:=hW
 hash:=Ul w
 inj:=λv a b ha hb=>by
  rcases ji ha with ⟨i,t,rfl,rfl⟩ | ⟨x,t,rfl,rfl⟩
  ·rcases ji hb with ⟨j,u,rfl,e⟩ | ⟨y,u,rfl,e⟩
   ·injection e with e1 _;rw [e1]
   ·exact nomatch e
  ·rcases ji hb with ⟨j,u,rfl,e⟩ | ⟨y,u,rfl,e⟩
   ·exact nomatch e
   ·injection e with e1 _;rw [e1]
 byValue:=λk v h=>by
  rcases ji h with ⟨i,t,rfl,rfl⟩ | ⟨x,t,rfl,rfl⟩<;>rfl
 pyHash:=λhv h=>by
  rcases ji hv with ⟨i,t,rfl,rfl⟩ | ⟨x,t,rfl,rfl⟩
  ·exact wpAny_pyHash_int h
  ·exact wpAny_pyHash_str h
 eqBool:=λhu hv h=>by
  rcases ji hu with ⟨i,t,rfl,rfl⟩ | ⟨x,t,rfl,rfl⟩
  ·rcases ji hv with ⟨j,u,rfl,rfl⟩ | ⟨y,u,rfl,rfl⟩
   ·rw [Kr] at h;exact wpAny_eqBool_int h
   ·rw [Kt] at h;exact SeqAt.EqAt.int_str i t y u _ _ _ _ h
  ·rcases ji hv with ⟨j,u,rfl,rfl⟩ | ⟨y,u,rfl,rfl⟩
   ·rw [Ku] at h;exact SeqAt.EqAt.str_int x t j u _ _ _ _ h
   ·rw [Ks] at h;exact wpAny_eqBool_str h
 «strs» := λk x t v h=>by
  rcases ji h with ⟨i,u,rfl,e⟩ | ⟨y,u,rfl,e⟩
  ·exact nomatch e
  ·injection e with e1 _
   subst e1;cases v<;>rfl
def cU (prog:Program)(w:World)(i:Int)(t:Tok):(j3 prog w).is (.inl i) (.int i t)=true:=Zn i t
def cV (prog:Program)(w:World)(x:Str)(t:Tok):(j3 prog w).is (.inr x) (.str x t)=true:=Zo x t
inductive V where
 | non | bl (b:Bool) | int (i:Int) | str (x:Str) | byt (b:Array UInt8) | flt (b:UInt64) | ref (a:Addr) | ty (n:String)
 deriving DecidableEq
def RelV:V->Value->Prop
 | .non,u=>u=Value.none
 | .bl b,u=>u=Value.bool b
 | .int i,u=>∃ t,u=Value.int i t
 | .str x,u=>∃ t,u=Value.str x t
 | .byt b,u=>∃ t,u=Value.bytes b t
 | .flt b,u=>∃ t,u=Value.float b t
 | .ref a,u=>u=Value.ref a
 | .ty n,u=>u=Value.type n
abbrev zJ:List V->List Value->Prop:=Paired RelV
def zJ.length {xs:List V}{us:List Value}(r:zJ xs us):xs.length=us.length:=Paired.length r
def zJ.get:∀ {xs:List V} {us:List Value} {i:Nat} {x:V},zJ xs us->xs[i]? = some x->∃ u,us[i]? = some u/\RelV x u
 | _,_,_,_,.nil,e=>by simp at e
 | _,_,0,_,.cons r _,e=>by simp at e;subst e;exact ⟨_,rfl,r⟩
 | _,_,i + 1,x,.cons _ t,e=>by
  obtain ⟨u,h1,h2⟩:=zJ.get (i:=i) (x:=x) t (by simpa using e);exact ⟨u,by simpa using h1,h2⟩
def zJ.set {x:V}{u:Value}(r:RelV x u):∀ {xs:List V} {us:List Value} (i:Nat),zJ xs us->zJ (xs.set i x) (us.set i u)
 | _,_,_,.nil=>.nil
 | _,_,0,.cons _ t=>.cons r t
 | _,_,i + 1,.cons q t=>.cons q (zJ.set r i t)
def zJ.append:∀ {xs ys:List V} {us ws:List Value},zJ xs us->zJ ys ws->zJ (xs ++ ys) (us ++ ws)
 | _,_,_,_,.nil,s=>s
 | _,_,_,_,.cons r t,s=>.cons r (zJ.append t s)
def zJ.take:∀ {xs:List V} {us:List Value} (n:Nat),zJ xs us->zJ (xs.take n) (us.take n)
 | _,_,0,_=>.nil
 | _,_,_ + 1,.nil=>.nil
 | _,_,n + 1,.cons r t=>.cons r (zJ.take n t)
def zJ.drop:∀ {xs:List V} {us:List Value} (n:Nat),zJ xs us->zJ (xs.drop n) (us.drop n)
 | _,_,0,r=>r
 | _,_,_ + 1,.nil=>.nil
 | _,_,n + 1,.cons _ t=>zJ.drop n t
def qZ:Option V->Option Value->Prop
 | some v,some u=>RelV v u
 | none,none=>True
 | _,_=>False
def KV {κ:Type} : List (κ×V)->List (κ×Value)->Prop:=Paired λ(p:κ×V) (q:κ×Value)=>p.1=q.1/\RelV p.2 q.2
def kV:Key->V
 | .inl i=>.int i
 | .inr x=>.str x
inductive HO where
  | lst (xs:List V)
  | tup (xs:List V)
  | dK (kvs:List (Key×V)) | dT (kvs:List (List Key×V))
  | set (S:Int->Bool) (n:Nat)
  | ins (C dx:Addr) (fs:List (Str×V))
  | own (x:Addr)
  | xd (fs:List (Str×V))
  | met (f x:Addr)
  | rng (lo hi:Int)
  | frz (o:Obj) (u:HO)
  | tbl (ps:Array Value)
 | tab (q:Str)
  | ext (φ:Heap->Prop)
abbrev Hp:=Addr->Option HO
def HO.isTab:HO->Bool
 | .tab _=>true
 | _=>false
def Gs:Str := "Face.pieces.<locals>.<lambda>"
def tabP:Addr:=439
def aS:HO:=.frz { cls:=.none,data:=.plain } (.tab Gs)
def zW (H:Hp)(a:Addr)(o:HO):Hp:=λb=>if b=a then some o else H b
def zh {H:Hp}{a:Addr}{o:HO} : zW H a o a=some o:=by unfold zW;rw [if_pos rfl]
def zd {H:Hp}{a b:Addr}{o:HO}(h:b≠a):zW H a o b=H b:=by unfold zW;rw [if_neg h]
def pC {H:Hp}{a b:Addr}{o u:HO}(h:H a=some o)(h':H b=some u)(d:o≠u):a≠b:=by
 intro e;subst e;rw [h] at h';exact d (Option.some.inj h')
def zG {H:Hp}{a b:Addr}{o:HO}(h:H a=some o)(h':H b=none):a≠b:=by
 intro e;subst e;rw [h] at h';cases h'
section
variable (P:Program)(w:World)
def jd (H:Hp)(h:Heap)(a:Addr):HO->Prop
 | .lst xs=>xs.length<=sizeLine/\∃ (its:List Value) (n:Nat),zJ xs its/\h.get? a=some { cls:=.type "list",data:=.seq its.toArray n }
 | .tup xs=>xs.length<=sizeLine/\∃ its:List Value,zJ xs its/\IsTup h a its.toArray
 | .dK kvs=>kvs.length<=sizeLine/\(a == sysModules)=false/\∃ vs,KV kvs vs/\h.DictOf (j3 P w) a vs
 | .dT kvs=>kvs.length<=sizeLine/\(a == sysModules)=false/\∃ xs:List (List Key×Addr×Value),
   Paired (λ(p:List Key×V) (q:List Key×Addr×Value)=>p.1=q.1/\H q.2.1=some (.tup (p.1.map kV))/\RelV p.2 q.2.2) kvs xs /\
   ∃ o es ep,h.get? a=some o/\o.ExactDict/\o.data=.dict es ep/\es.toList=xs.map (entryOfKey (tupleKind (j3 P w)))/\(xs.map (·.1)).Nodup
 | .set S n=>h.SetOf (intKind P w) a S n
 | .ins C dx fs=>H dx=some (.own a)/\fs.length<=1000/\dx≠a/\h.get? a=some (W.instObj C dx) /\
   ∃ mA,h.Ns1 dx mA/\(∀ f,qZ (fs.lookup f) (mA f))/\PySem.Within mA (fs.map (·.1))
 | .own _=>∃ o,h.get? a=some o
 | .xd fs=>∃ mA,h.Ns1 a mA/\∀ f,qZ (fs.lookup f) (mA f)
 | .rng lo hi=>∃ t u v,h.get? a=some { cls:=.type "range",data:=.fields #[.int lo t,.int hi u,.int 1 v] }
 | .frz o u=>(u.isTab=false->h.get? a=some o)/\jd H h a u
 | .tab q=>∃ ps,h.get? a=some { cls:=.none,data:=.fields ps } /\ TriplesOk ps.toList/\∀ pos cv,codeAmong pos ps.toList=some cv->∃ c o vs t,cv=.ref c/\H c=some (.own a)/\h.get? c=some o/\o.data=.fields vs/\vs[1]? = some (.str q t)
 | .tbl ps=>h.get? a=some { cls:=.none,data:=.fields ps }
 | .met f x=>h.get? a=some (W.methodObj (.ref f) (.ref x))
 | .ext φ=>φ h/\(∃ o,h.get? a=some o)/\∀ h1 h2:Heap,φ h1->(∀ o,h1.get? a=some o->h2.get? a=some o)->φ h2
def gd (H:Hp)(h:Heap):Prop := ∀ a o,H a=some o->jd P w H h a o
end
def jd.lt (x:jd P w H h a o):a < h.objs.size:=by
 induction o with
 | lst xs=>obtain ⟨_,_,_,_,e⟩:=x;exact Heap.lt_size e
 | tup xs=>obtain ⟨_,_,_,p⟩:=x;exact p.lt
 | dK kvs=>obtain ⟨_,_,_,_,o,_,_,e,_⟩:=x;exact Heap.lt_size e
 | dT kvs=>obtain ⟨_,_,_,_,o,_,_,e,_⟩:=x;exact Heap.lt_size e
 | set S n=>obtain ⟨o,_,_,_,e,_⟩:=x;exact Heap.lt_size e
 | ins C dx fs=>obtain ⟨_,_,_,e,_⟩:=x;exact Heap.lt_size e
 | own y=>obtain ⟨_,e⟩:=x;exact Heap.lt_size e
 | xd fs=>obtain ⟨_,⟨_,_,_,e,_⟩,_⟩:=x;exact Heap.lt_size e
 | rng lo hi=>obtain ⟨_,_,_,e⟩:=x;exact Heap.lt_size e
 | frz ob u ih=>exact ih x.2
 | tab q=>obtain ⟨_,e,_⟩:=x;exact Heap.lt_size e
 | tbl ps=>exact Heap.lt_size (show h.get? a=some _ from x)
 | met f y=>exact Heap.lt_size (show h.get? a=some _ from x)
 | ext φ=>obtain ⟨_,⟨_,e⟩,_⟩:=x;exact Heap.lt_size e
def Paired.mapP {α β:Type}{F G:α->β->Prop} : ∀ {l₁:List α} {l₂:List β},Paired F l₁ l₂->(∀ a b,F a b->G a b)->Paired G l₁ l₂
 | _,_,.nil,_=>.nil
 | _,_,.cons r t,f=>.cons (f _ _ r) (Paired.mapP t f)
def jd.stay (x:jd P w H h a o)(k:∀ b u,(b=a\/H b=some (.own a))->h.get? b=some u->h'.get? b=some u)
  (ho:∀ b,H b=some (.own a)->H' b=some (.own a)) (ht:∀ b xs,H b=some (.tup xs)->H' b=some (.tup xs)):jd P w H' h' a o:=by
 induction o with
 | lst xs=>obtain ⟨z,its,n,r,e⟩:=x;exact ⟨z,its,n,r,k _ _ (.inl rfl) e⟩
 | tup xs=>obtain ⟨z,its,r,ob,e,c⟩:=x;exact ⟨z,its,r,ob,k _ _ (.inl rfl) e,c⟩
 | dK kvs=>obtain ⟨z,y,vs,r,ob,es,ep,e,c⟩:=x;exact ⟨z,y,vs,r,ob,es,ep,k _ _ (.inl rfl) e,c⟩
 | dT kvs =>
  obtain ⟨z,y,xs,r,ob,es,ep,e,c⟩:=x;exact ⟨z,y,xs,Paired.mapP r λp q z=>⟨z.1,ht _ _ z.2.1,z.2.2⟩,ob,es,ep,k _ _ (.inl rfl) e,c⟩
 | set S n=>obtain ⟨ob,es,ep,t,e,c⟩:=x;exact ⟨ob,es,ep,t,k _ _ (.inl rfl) e,c⟩
 | ins C dx fs =>
  obtain ⟨d,z,ne,e,mA,⟨od,es,ep,e2,c⟩,r⟩:=x;exact ⟨ho _ d,z,ne,k _ _ (.inl rfl) e,mA,⟨od,es,ep,k _ _ (.inr d) e2,c⟩,r⟩
 | own y=>obtain ⟨ob,e⟩:=x;exact ⟨ob,k _ _ (.inl rfl) e⟩
 | xd fs=>obtain ⟨mA,⟨od,es,ep,e,c⟩,r⟩:=x;exact ⟨mA,⟨od,es,ep,k _ _ (.inl rfl) e,c⟩,r⟩
 | rng lo hi=>obtain ⟨t,u,v,e⟩:=x;exact ⟨t,u,v,k _ _ (.inl rfl) e⟩
 | frz ob u ih=>obtain ⟨e,q⟩:=x;exact ⟨λz=>k _ _ (.inl rfl) (e z),ih q⟩
 | tab q =>
  obtain ⟨ps,e,t,f⟩:=x;exact ⟨ps,k _ _ (.inl rfl) e,t,λpos cv z=>let ⟨c,o,vs,tt,h1,h2,h3,h4⟩:=f pos cv z;⟨c,o,vs,tt,h1,ho _ h2,k _ _ (.inr h2) h3,h4⟩⟩
 | tbl ps =>
  have e:h.get? a=some { cls:=.none,data:=.fields ps }:=x;show h'.get? a=some { cls:=.none,data:=.fields ps };exact k a _ (.inl rfl) e
 | met f y =>
  have e:h.get? a=some (W.methodObj (.ref f) (.ref y)):=x;show h'.get? a=some (W.methodObj (.ref f) (.ref y));exact k a _ (.inl rfl) e
 | ext φ=>obtain ⟨p,⟨o,e⟩,st⟩:=x;exact ⟨st _ _ p λo q=>k _ _ (.inl rfl) q,⟨o,k _ _ (.inl rfl) e⟩,st⟩
def gd.lt (x:gd P w H h)(e:H a=some o):a < h.objs.size:=(x a o e).lt
def gd.fresh (x:gd P w H h)(e:h.objs.size<=a):H a=none:=by
 cases q:H a with
 | none=>rfl
 | some u=>exact absurd (Nat.lt_of_lt_of_le (x.lt q) e) (Nat.lt_irrefl _)
def gd.kept (x:gd P w H h)(k:∀ b u,h.get? b=some u->h'.get? b=some u):gd P w H h':=λa o e =>
 (x a o e).stay (λb u _ q=>k b u q) (λ_ q=>q) λ_ _ q=>q
def gd.laid (x:gd P w H h)(k:∀ b u,h.get? b=some u->h'.get? b=some u)(hp:h.objs.size<=a)(new:jd P w (zW H a o) h' a o):gd P w (zW H a o) h':=λb u e=>by
 have hn:=x.fresh hp
 by_cases hb:b=a
 ·subst hb;rw [zh] at e;cases e;exact new
 ·rw [zd hb] at e
  exact (x b u e).stay (λc v _ q=>k c v q) (λc q=>by rw [zd (zG q hn)];exact q) λc xs q=>by rw [zd (zG q hn)];exact q
def Rd (H:Hp)(a:Addr)(u:HO):Prop:=H a=some u\/∃ o,H a=some (.frz o u)
def Rd.ok {P:Program}{w:World}{H:Hp}{h:Heap}{a:Addr}{u:HO}(r:Rd H a u)(x:gd P w H h):jd P w H h a u:=by
 rcases r with r | ⟨o,r⟩
 ·exact x a u r
 ·obtain ⟨_,q⟩:=x a _ r
  exact q
def Gu:Option HO->Prop
 | some (.lst _)=>True
 | some (.dK _)=>True
 | some (.dT _)=>True
 | some (.set _ _)=>True
 | some (.ins _ _ _)=>True
 | some (.ext _)=>True
 | _=>False
def gd.write (ok:gd P w H h)(mu:Gu (H x))(he:e=x\/H e=some (.own x))(k:∀ b u,b≠e->h.get? b=some u->h'.get? b=some u)(heo:∃ u,h'.get? e=some u)
  (new:jd P w (zW H x o') h' x o'):gd P w (zW H x o') h':=λb u q=>by
 have nown:∀ c y,H c=some (.own y)->c≠x:=λc y r z=>by subst z;rw [r] at mu;exact mu
 have ntup:∀ c xs,H c=some (.tup xs)->c≠x:=λc xs r z=>by subst z;rw [r] at mu;exact mu
 by_cases hb:b=x
 ·subst hb;rw [zh] at q;cases q;exact new
 ·rw [zd hb] at q
  by_cases hbe:b=e
  ·have q':H b=some (.own x):=by
    rcases he with z | z
    ·exact absurd (hbe.trans z) hb
    ·rw [hbe];exact z
   rw [q] at q';cases q';obtain ⟨v,hv⟩:=heo;exact ⟨v,by rw [hbe];exact hv⟩
  ·refine (ok b u q).stay (λc v hc r=>k c v ?_ r) (λc r=>by rw [zd (nown c b r)];exact r) λc xs r=>by rw [zd (ntup c xs r)];exact r
   rcases hc with rfl | hc
   ·exact hbe
   ·rintro rfl
    rcases he with z | z
    ·exact nown c b hc z
    ·rw [hc] at z;cases z;exact hb rfl
structure Un (fs ex:List Addr) (H H':Hp) (h h':Heap):Prop where
 keep:∀ b o,h.get? b=some o->H b=none->b∉fs->b∉ex->h'.get? b=some o
 slot:∀ b o,h.get? b=some o->H b=none->b∈fs->b∉ex->∃ sl,h'.get? b=some { o with slots:=sl }
 free:∀ b o,h.get? b=some o->H b=none->b∉ex->H' b=none
 there:∀ b o,h.get? b=some o->b∉ex->∃ o',h'.get? b=some o'
 tups:∀ b xs,H b=some (.tup xs)->H' b=some (.tup xs)
 frzs:∀ b o u,H b=some (.frz o u)->H' b=some (.frz o u)
 tbls:∀ b ps,H b=some (.tbl ps)->∃ more,H' b=some (.tbl (ps ++ more))
def Un.any (u:Un fs ex H H1 h h1){b:Addr}{ob:Obj}(q:h.get? b=some ob)(n:H b=none)(hx:b∉ex):∃ sl,h1.get? b=some { ob with slots:=sl }:=by
 by_cases hb:b∈fs
 ·exact u.slot b ob q n hb hx
 ·exact ⟨ob.slots,u.keep b ob q n hb hx⟩
def Un.kept (k:∀ b u,h.get? b=some u->h'.get? b=some u):Un fs ex H H h h' :=
 ⟨λb ob q _ _ _=>k b ob q,λb ob q _ _ _=>⟨ob.slots,k b ob q⟩,λ_ _ _ n _=>n,λb ob q _=>⟨ob,k b ob q⟩,λ_ _ q=>q,λ_ _ _ q=>q,λ_ ps q=>⟨#[],by rw [q];simp⟩⟩
def Un.refl:Un fs ex H H h h:=Un.kept λ_ _ q=>q
def Un.laid (k:∀ b u,h.get? b=some u->h'.get? b=some u)(hp:h.objs.size<=a)(hn:H a=none):Un fs ex H (zW H a o) h h' where
 keep:=λb u q _ _ _=>k b u q
 slot:=λb u q _ _ _=>⟨u.slots,k b u q⟩
 free:=λb u q n _=>by rw [zd (Nat.ne_of_lt (Nat.lt_of_lt_of_le (Heap.lt_size q) hp))];exact n
 there:=λb u q _=>⟨u,k b u q⟩
 tups:=λb xs q=>by rw [zd (zG q hn)];exact q
 frzs:=λb u xs q=>by rw [zd (zG q hn)];exact q
 tbls:=λb ps q=>⟨#[],by rw [zd (zG q hn),q];simp⟩
def Un.write (mu:Gu (H x))(he:e=x\/H e=some (.own x))(k:∀ b u,b≠e->h.get? b=some u->h'.get? b=some u)(heo:∃ u,h'.get? e=some u):Un fs ex H (zW H x o) h h':=by
 have hx:∀ b,H b=none->b≠x:=λb n z=>by subst z;rw [n] at mu;exact mu
 have hb:∀ b,H b=none->b≠e:=λb n z=>by
  subst z
  rcases he with r | r
  ·exact hx b n r
  ·rw [n] at r;cases r
 have hm:∀ b u,H b=some u->¬ Gu (some u)->b≠x:=λb u q nm z=>by subst z;rw [q] at mu;exact nm mu
 refine ⟨λb u q n _ _=>k b u (hb b n) q,λb u q n _ _=>⟨u.slots,k b u (hb b n) q⟩,λb u q n _=>by rw [zd (hx b n)];exact n,λb u q _ => ?_,
  λb xs q=>by rw [zd (hm b _ q λz=>z)];exact q,λb u xs q=>by rw [zd (hm b _ q λz=>z)];exact q,λb ps q=>⟨#[],by rw [zd (hm b _ q λz=>z),q];simp⟩⟩
 by_cases hbe:b=e
 ·subst hbe;exact heo
 ·exact ⟨u,k b u hbe q⟩
def U3 (h:Heap)(H:Hp):List Addr:=(List.range h.objs.size).filter λa=>(H a).isSome
def dn (h:Heap)(H:Hp):Heap:=W.hideAll h (U3 h H)
def Zp (h:Heap)(H:Hp):(dn h H).objs.size=h.objs.size:=W.hideAll_size _ _
def JP {h:Heap}{H:Hp}{b:Addr}{o:Obj}(e:h.get? b=some o)(n:H b=none):(dn h H).get? b=some o :=
 W.hideAll_get _ e λhm=>by
  have q:(H b).isSome=true:=(List.mem_filter.mp hm).2;rw [n] at q;simp at q
def Wm {h:Heap}{H:Hp}{b:Addr}{o:Obj}(e:(dn h H).get? b=some o):h.get? b=some o/\H b=none:=by
 have e':h.get? b=some o:=W.of_hideAll (U3 h H) e;refine ⟨e',?_⟩
 cases q:H b with
 | none=>rfl
 | some x =>
  have hm:b∈U3 h H:=List.mem_filter.mpr ⟨List.mem_range.mpr (Heap.lt_size e'),by simp [q]⟩;have z:(dn h H).get? b=none:=W.hideAll_none (U3 h H) hm;rw [z] at e;cases e
def Wn (g h:Heap)(L:Addr):List (Addr×Obj):=(List.range h.objs.size).filterMap λa=>if a=L\/(g.get? a).isSome=true then none else (h.get? a).map λo=>(a,o)
def rest (g h:Heap)(L d:Addr):List (Addr×Obj):=(Wn g h L).filter λp=>decide (p.1≠d)
structure Mod (K:W.Frag) (mg:Str->Option Value) (base:Heap):Prop where
 kin:K.In base
 glob:base.Ns mainGlobals mg
 blt:∃ mb,base.Ns builtinsNs mb/\∀ x:Str,x ≠ "__name__" -> mb x=bootBuiltins x
 nolimit:base.NoLimit
 bmain:∃ bm ob,mg "__builtins__" = some (.ref bm)/\bm≠builtinsNs/\base.get? bm=some ob/\ob.cls=.type "module" /\ ob.dict=some builtinsNs/\ob.data=.plain
structure Cx where
 prog:Program
 w:World
 K:W.Frag
 mg:Str->Option Value
 base:Heap
 A:Around
 N:List Str
 s₀:Shared
 H₀:Hp
 env:Env
 outer:List Env
 stack:List Env
 ex:List Addr
 fn:Str->Bool
 calm:Bool
 pn:List (Addr×Obj)
 xe:Value->Shared->Prop
def r0 (l:List Env):List Addr:=l.filterMap (·.frame)
abbrev Cx.fs (X:Cx):List Addr:=r0 X.outer
def JC (sc:Scope)(x:Str):Prop:=sc.names.lookup x=some .local\/sc.names.lookup x=some .cell\/sc.names.lookup x=some .free
def cP (sc:Scope)(x:Str):Prop:=sc.names.lookup x=some .local\/sc.names.lookup x=some .cell
def Um (env:Env)(h:Heap)(m:Str->Option Value)(x:Str)(u:Value):Prop :=
 (env.kindOf x=some .local/\m x=some u)\/((env.kindOf x=some .cell\/env.kindOf x=some .free)/\∃ c,env.cells.lookup x=some c/\h.IsCell c (some u))
structure Cx.Ok (X:Cx):Prop where
 mod:Mod X.K X.mg X.base
 kind:X.env.scope.kind=.function
 glob:X.env.globals=mainGlobals
 blt:X.env.builtins=builtinsNs
 above:X.s₀.heap.objs.size<=X.env.locals
 inj:∀ x y c,X.env.cells.lookup x=some c->X.env.cells.lookup y=some c->x=y
 has:∀ x,(X.env.kindOf x=some .cell\/X.env.kindOf x=some .free)->∃ c,X.env.cells.lookup x=some c
 cab:∀ x c,X.fn x=true->X.env.cells.lookup x=some c->X.s₀.heap.objs.size<=c
 hd:X.calm=true->X.A.handled=none
 frames:X.A.frames=some X.stack
 stk:X.stack=X.outer\/(X.stack=X.env :: X.outer/\X.env.frame=some X.env.locals)
 exf:∀ b∈X.ex,b≠X.env.locals/\∀ x c,X.env.cells.lookup x=some c->c≠b
 bs:∀ b o,X.base.get? b=some o->X.s₀.heap.get? b=some o/\X.H₀ b=none
 bsz:X.base.objs.size<=X.s₀.heap.objs.size
 noex:∀ b o,X.base.get? b=some o->b∉X.ex
 exfs:∀ b∈X.ex,b∉X.fs
 funs:X.s₀.heap.FunFrames X.base X.outer
 frf:∀ b∈X.fs,X.H₀ b=none
 tab:X.H₀ tabP=some aS
structure zk (X:Cx) (pins:List (Addr×Obj)) (σ:List (Option V)) (H:Hp) (s:Shared):Prop where
 ok:X.Ok
 os:s.os=X.s₀.os
 bare:AllBare s.gens
 base:Un X.fs X.ex X.H₀ H X.s₀.heap s.heap
 loc:∃ m,s.heap.Ns X.env.locals m/\∀ (i:Nat) (x:Str) (v:V),X.N[i]? = some x->σ[i]? = some (some v)->JC X.env.scope x->∃ u,RelV v u/\Um X.env s.heap m x u
 cell:∀ x c,X.env.cells.lookup x=some c->∃ v,s.heap.IsCell c v
 free:H X.env.locals=none
 freeC:∀ x c,X.env.cells.lookup x=some c->H c=none
 pin:∀ p∈X.pn ++ pins,s.heap.get? p.1=some p.2/\H p.1=none/\p.1≠X.env.locals/\p.1∉X.fs/\∀ v,p.2.data≠.cell v
 hok:gd X.prog X.w H s.heap
 len:σ.length=X.N.length
section
variable {X:Cx}{pins:List (Addr×Obj)}{σ:List (Option V)}{H H':Hp}{s:Shared}{h':Heap}
theorem Cx.Ok.nofr (ok:X.Ok){b:Addr}{o:Obj}(e:X.base.get? b=some o):b∉X.fs:=λhb=>by
 have:=(ok.funs.mem hb).1;rw [e] at this;cases this
theorem zk.bs (I:zk X pins σ H s):∀ b o,X.base.get? b=some o->s.heap.get? b=some o/\H b=none:=λb o e =>
 ⟨I.base.keep b o (I.ok.bs b o e).1 (I.ok.bs b o e).2 (I.ok.nofr e) (I.ok.noex b o e),I.base.free b o (I.ok.bs b o e).1 (I.ok.bs b o e).2 (I.ok.noex b o e)⟩
theorem zk.tab (I:zk X pins σ H s):H tabP=some aS:=I.base.frzs _ _ _ I.ok.tab
theorem zk.bk (I:zk X pins σ H s):∀ b o,X.base.get? b=some o->s.heap.get? b=some o:=λb o e=>(I.bs b o e).1
theorem zk.mod (I:zk X pins σ H s):Mod X.K X.mg X.base:=I.ok.mod
theorem zk.kIn (I:zk X pins σ H s):X.K.In s.heap:=I.ok.mod.kin.keeps I.bk
theorem zk.lt (I:zk X pins σ H s):X.env.locals < s.heap.objs.size:=let ⟨_,hn,_⟩:=I.loc;hn.lt
theorem zk.sz (I:zk X pins σ H s):X.s₀.heap.objs.size<=s.heap.objs.size:=Nat.le_trans I.ok.above (Nat.le_of_lt I.lt)
theorem zk.nofs (I:zk X pins σ H s){a:Addr}(h:s.heap.objs.size<=a):a∉X.fs:=λhb=>by
 obtain ⟨_,o,ho,_⟩:=I.ok.funs.mem hb;exact absurd (Nat.lt_of_lt_of_le (Heap.lt_size ho) (Nat.le_trans I.sz h)) (Nat.lt_irrefl _)
theorem zk.cne (I:zk X pins σ H s):∀ x c,X.env.cells.lookup x=some c->c≠X.env.locals:=λx c e z=>by
 obtain ⟨v,o,ho,hd⟩:=I.cell x c e;obtain ⟨m,⟨o',es,ep,ho',hd',_⟩,_⟩:=I.loc;rw [z,ho'] at ho;cases ho;rw [hd'] at hd;cases hd
theorem zk.funs (I:zk X pins σ H s):s.heap.FunFrames X.base X.outer:=by
 have all:∀ (l:List Env),(∀ b∈r0 l,b∈X.fs)->X.s₀.heap.FunFrames X.base l->s.heap.FunFrames X.base l:=by
  intro l
  induction l with
  | nil=>intro _ _;trivial
  | cons env r ih =>
   intro hs hl;obtain ⟨hk,⟨L,o,hf,hn,ho,hd⟩,hr⟩:=hl;have hL:L∈X.fs:=hs L (by unfold r0;rw [List.filterMap_cons,hf];exact List.mem_cons_self);obtain ⟨sl,e⟩:=I.base.slot L o ho (I.ok.frf L hL) hL λz=>I.ok.exfs L z hL;exact ⟨hk,⟨L,_,hf,hn,e,hd⟩,ih (λb hb=>hs b (by unfold r0;rw [List.filterMap_cons,hf];exact List.mem_cons_of_mem _ hb)) hr⟩
 exact all X.outer (λ_ hb=>hb) I.ok.funs
theorem zk.stack (I:zk X pins σ H s):s.heap.FunFrames X.base X.stack:=by
 rcases I.ok.stk with e | ⟨e,hf⟩
 ·rw [e];exact I.funs
 ·rw [e]
  obtain ⟨m,hn,_⟩:=I.loc;refine .cons (by rw [I.ok.kind];decide) hf hn ?_ I.funs;exact Heap.get?_none_of_le (Nat.le_trans I.ok.bsz I.ok.above)
theorem zk.stkSub (I:zk X pins σ H s):∀ b∈r0 X.stack,b∈X.env.locals :: X.fs:=λb hb=>by
 rcases I.ok.stk with e | ⟨e,hf⟩
 ·rw [e] at hb;exact List.mem_cons_of_mem _ hb
 ·rw [e] at hb
  unfold r0 at hb;rw [List.filterMap_cons,hf] at hb;exact hb
theorem zk.stkFree (I:zk X pins σ H s):∀ b∈r0 X.stack,H b=none:=λb hb=>by
 rcases List.mem_cons.mp (I.stkSub b hb) with e | hb
 ·rw [e];exact I.free
 ·obtain ⟨_,o,ho,_⟩:=I.ok.funs.mem hb
  exact I.base.free b o ho (I.ok.frf b hb) λz=>I.ok.exfs b z hb
theorem zk.step {g':Array GenState}{t':Nat}{d':Drawn}{ch:List Addr}(I:zk X pins σ H s)
  (hch:∀ b∈ch,(b∈X.ex\/X.s₀.heap.objs.size<=b)/\b≠X.env.locals/\(∀ x c,X.env.cells.lookup x=some c->c≠b)/\∀ p∈X.pn ++ pins,p.1≠b)
  (keep:∀ b o,b≠X.env.locals->b∉X.fs->b∉ch->s.heap.get? b=some o->H b=none->h'.get? b=some o)
  (slot:∀ b o,b≠X.env.locals->b∈X.fs->b∉ch->s.heap.get? b=some o->H b=none->∃ sl,h'.get? b=some { o with slots:=sl }) (free:∀ b o,b∉ch->s.heap.get? b=some o->H b=none->H' b=none)
  (there:∀ b o,b∉ch->s.heap.get? b=some o->∃ o',h'.get? b=some o')
  (tups:∀ b xs,H b=some (.tup xs)->H' b=some (.tup xs)) (frzs:∀ b o u,H b=some (.frz o u)->H' b=some (.frz o u)) (tbls:∀ b ps,H b=some (.tbl ps)->∃ more,H' b=some (.tbl (ps ++ more)))
  (ns:∀ m,s.heap.Ns X.env.locals m->h'.Ns X.env.locals m) (hok:gd X.prog X.w H' h') (hg:AllBare g') :
  zk X pins σ H' { s with heap:=h',gens:=g',drawn:=d',toks:=t' }:=by
 have neL:∀ b o,X.s₀.heap.get? b=some o->b≠X.env.locals:=λb o e=>Nat.ne_of_lt (Nat.lt_of_lt_of_le (Heap.lt_size e) I.ok.above)
 have neC:∀ b o,X.s₀.heap.get? b=some o->b∉X.ex->b∉ch:=λb o e hx hb=>by
  rcases (hch b hb).1 with z | z
  ·exact hx z
  ·exact absurd (Nat.lt_of_lt_of_le (Heap.lt_size e) z) (Nat.lt_irrefl _)
 have cellK:∀ x c,X.env.cells.lookup x=some c->∀ v,s.heap.IsCell c v->h'.IsCell c v:=λx c e v ⟨o,ho,hd⟩=>by
  have nch:c∉ch:=λz=>(hch c z).2.2.1 x c e rfl
  by_cases hc:c∈X.fs
  ·obtain ⟨sl,q⟩:=slot c o (I.cne x c e) hc nch ho (I.freeC x c e)
   exact ⟨_,q,hd⟩
  ·exact ⟨o,keep c o (I.cne x c e) hc nch ho (I.freeC x c e),hd⟩
 refine ⟨I.ok,I.os,hg,⟨λb o e n hb hx => ?_,λb o e n hb hx => ?_,λb o e n hx => ?_,λb o e hx => ?_,λb xs e=>tups b xs (I.base.tups b xs e),λb o xs e=>frzs b o xs (I.base.frzs b o xs e),λb ps e => ?_⟩,?_,λx c e => ?_,?_,λx c e => ?_,λp hp => ?_,hok,I.len⟩
 ·exact keep b o (neL b o e) hb (neC b o e hx) (I.base.keep b o e n hb hx) (I.base.free b o e n hx)
 ·obtain ⟨sl,e1⟩:=I.base.slot b o e n hb hx
  obtain ⟨sl',e2⟩:=slot b _ (neL b o e) hb (neC b o e hx) e1 (I.base.free b o e n hx);exact ⟨sl',e2⟩
 ·obtain ⟨o',e1⟩:=I.base.there b o e hx
  exact free b o' (neC b o e hx) e1 (I.base.free b o e n hx)
 ·obtain ⟨o',e1⟩:=I.base.there b o e hx
  exact there b o' (neC b o e hx) e1
 ·obtain ⟨m1,e1⟩:=I.base.tbls b ps e
  obtain ⟨m2,e2⟩:=tbls b _ e1;exact ⟨m1 ++ m2,by rw [e2,Array.append_assoc]⟩
 ·obtain ⟨m,hn,hl⟩:=I.loc
  refine ⟨m,ns m hn,λi x v e1 e2 e3 => ?_⟩;obtain ⟨u,r,l⟩:=hl i x v e1 e2 e3;refine ⟨u,r,?_⟩
  rcases l with l | ⟨k,c,e,z⟩
  ·exact .inl l
  ·exact .inr ⟨k,c,e,cellK x c e _ z⟩
 ·obtain ⟨v,z⟩:=I.cell x c e
  exact ⟨v,cellK x c e v z⟩
 ·obtain ⟨m,⟨o,_,_,ho,_⟩,_⟩:=I.loc
  exact free _ o (λz=>(hch _ z).2.1 rfl) ho I.free
 ·obtain ⟨v,o,ho,hd⟩:=I.cell x c e
  exact free c o (λz=>(hch c z).2.2.1 x c e rfl) ho (I.freeC x c e)
 ·obtain ⟨e,n,ne,nf,d⟩:=I.pin p hp
  have nch:p.1∉ch:=λz=>(hch p.1 z).2.2.2 p hp rfl;exact ⟨keep p.1 p.2 ne nf nch e n,free p.1 p.2 nch e n,ne,nf,d⟩
theorem zk.un {t':Nat}(I:zk X pins σ H s)(u:Un X.fs [] H H' s.heap h')(hok:gd X.prog X.w H' h'):zk X pins σ H' { s with heap:=h',toks:=t' }:=by
 obtain ⟨m,⟨o,es,ep,ho,r⟩,_⟩:=id I.loc;obtain ⟨sl,hL⟩:=u.any ho I.free (by simp)
 exact I.step (g':=s.gens) (d':=s.drawn) (ch:=[]) (λ_ z=>nomatch z) (λb o _ hb _ e n=>u.keep b o e n hb (by simp)) (λb o _ hb _ e n=>u.slot b o e n hb (by simp)) (λb o _ e n=>u.free b o e n (by simp)) (λb o _ e=>u.there b o e (by simp)) u.tups u.frzs u.tbls (λm' hm=>by
  obtain ⟨o',es',ep',ho',r'⟩:=hm;rw [ho] at ho';cases ho';exact ⟨_,es',ep',hL,r'⟩) hok I.bare
theorem zk.call {g':Array GenState}{t':Nat}{d':Drawn}{ch:List Addr}(I:zk X pins σ H s)(u:Un (r0 X.stack) ch H H' s.heap h')(hok:gd X.prog X.w H' h')(hg:AllBare g')
  (hch:∀ b∈ch,(b∈X.ex\/X.s₀.heap.objs.size<=b)/\b≠X.env.locals/\(∀ x c,X.env.cells.lookup x=some c->c≠b)/\∀ p∈X.pn ++ pins,p.1≠b) :
  zk X pins σ H' { s with heap:=h',gens:=g',drawn:=d',toks:=t' }:=by
 obtain ⟨m,⟨o,es,ep,ho,r⟩,_⟩:=id I.loc;obtain ⟨sl,hL⟩:=u.any ho I.free λz=>(hch _ z).2.1 rfl
 exact I.step (ch:=ch) hch (λb o hL hb hc e n=>u.keep b o e n (λz=>(List.mem_cons.mp (I.stkSub b z)).elim hL hb) hc) (λb o _ _ hc e n=>u.any e n hc) (λb o hc e n=>u.free b o e n hc) (λb o hc e=>u.there b o e hc) u.tups u.frzs u.tbls (λm' hm=>by
  obtain ⟨o',es',ep',ho',r'⟩:=hm;rw [ho] at ho';cases ho';exact ⟨_,es',ep',hL,r'⟩) hok hg
theorem zk.turned {t':Nat}{it:Addr}(I:zk X pins σ H s)(k:∀ b o,b≠it->s.heap.get? b=some o->h'.get? b=some o)(hn:H it=none)(hL:it≠X.env.locals)
  (h1:it∈X.ex\/X.s₀.heap.objs.size<=it) (h2:∀ x c,X.env.cells.lookup x=some c->c≠it) (h3:∀ p∈X.pn ++ pins,p.1≠it):zk X pins σ H { s with heap:=h',toks:=t' }:=by
 have nit:∀ b u,H b=some u->b≠it:=λb u e z=>by rw [z,hn] at e;cases e
 refine I.step (g':=s.gens) (d':=s.drawn) (ch:=[it]) (λb hb => ?_) (λb o _ _ hc e _=>k b o (λz=>hc (by simp [z])) e) (λb o _ _ hc e _=>⟨o.slots,k b o (λz=>hc (by simp [z])) e⟩) (λ_ _ _ _ n=>n)
  (λb o hc e=>⟨o,k b o (λz=>hc (by simp [z])) e⟩) (λ_ _ e=>e) (λ_ _ _ e=>e) (λb ps e=>⟨#[],by rw [e];simp⟩) (λm hm => ?_) (λb u e => ?_) I.bare
 ·have e:b=it:=by simpa using hb
  subst e;exact ⟨h1,hL,h2,h3⟩
 ·obtain ⟨o,es,ep,ho,r⟩:=hm
  exact ⟨o,es,ep,k _ o (Ne.symm hL) ho,r⟩
 ·refine (I.hok b u e).stay (λc v hc q=>k c v ?_ q) (λ_ q=>q) λ_ _ q=>q
  rcases hc with z | z
  ·rw [z];exact nit b u e
  ·exact nit c _ z
theorem zk.tok (I:zk X pins σ H s)(t:Nat):zk X pins σ H { s with toks:=t }:=I.un (h':=s.heap) (t':=t) Un.refl I.hok
theorem zk.kept {t':Nat}(I:zk X pins σ H s)(k:∀ b u,s.heap.get? b=some u->h'.get? b=some u):zk X pins σ H { s with heap:=h',toks:=t' }:=I.un (Un.kept k) (I.hok.kept k)
theorem zk.laid {a:Addr}{o:HO}{t':Nat}(I:zk X pins σ H s)(k:∀ b u,s.heap.get? b=some u->h'.get? b=some u)(hp:s.heap.objs.size<=a)(new:jd X.prog X.w (zW H a o) h' a o) :
  zk X pins σ (zW H a o) { s with heap:=h',toks:=t' }:=I.un (Un.laid k hp (I.hok.fresh hp)) (I.hok.laid k hp new)
theorem zk.write {x e:Addr}{o:HO}{t':Nat}(I:zk X pins σ H s)(mu:Gu (H x))(he:e=x\/H e=some (.own x))(k:∀ b u,b≠e->s.heap.get? b=some u->h'.get? b=some u)(heo:∃ u,h'.get? e=some u)
  (new:jd X.prog X.w (zW H x o) h' x o):zk X pins σ (zW H x o) { s with heap:=h',toks:=t' }:=I.un (Un.write mu he k heo) (I.hok.write mu he k heo new)
theorem zk.pins_of {pins':List (Addr×Obj)}(I:zk X pins σ H s)(h:∀ p∈pins',s.heap.get? p.1=some p.2/\H p.1=none/\p.1≠X.env.locals/\p.1∉X.fs/\∀ v,p.2.data≠.cell v):zk X pins' σ H s :=
 ⟨I.ok,I.os,I.bare,I.base,I.loc,I.cell,I.free,I.freeC,λp hp=>(List.mem_append.mp hp).elim (λz=>I.pin p (List.mem_append_left _ z)) (h p),I.hok,I.len⟩
theorem cW {N:List Str}(hN:N.Nodup){i j:Nat}{x:Str}(a:N[i]? = some x)(b:N[j]? = some x):i=j:=by
 obtain ⟨h1,e1⟩:=List.getElem?_eq_some_iff.mp a;obtain ⟨h2,e2⟩:=List.getElem?_eq_some_iff.mp b;exact (List.getElem_inj hN).mp (e1.trans e2.symm)
theorem Zq {M:Model}{A:Around}{E:Value->Shared->Prop}{i:Nat}{x:Str}{v:V}{u:Value}{Q:Unit->Shared->Prop}(I:zk X pins σ H s)(hN:X.N.Nodup)(hi:X.N[i]? = some x)(hx:cP X.env.scope x)(r:RelV v u)
  (h:∀ s',zk X pins (σ.set i (some v)) H s'->(∃ a,Heap.SameBut a s.heap s'.heap/\(a=X.env.locals\/X.env.cells.lookup x=some a))->Q () s') (hf:X.fn x=true\/X.env.scope.names.lookup x=some .local:=by first | exact .inl rfl | exact .inr rfl | assumption):wpAny M A (storeName X.env x u) Q E s:=by
 obtain ⟨m,hn,hl⟩:=id I.loc;have hcls:(X.env.scope.kind == .class || (X.env.scope.kind == .module && X.env.locals != X.env.globals))=false:=by rw [I.ok.kind];rfl
 have hiσ:i < σ.length:=by rw [I.len];exact (List.getElem?_eq_some_iff.mp hi).1
 have cne:=I.cne
 have tracked:∀ {a:Addr} {h':Heap},(∃ o,s.heap.get? a=some o/\H a=none)->Heap.SameBut a s.heap h'->gd X.prog X.w H h':=λ{a h'} ha hs b ob e=>by
  obtain ⟨_,_,hfree⟩:=ha;refine (I.hok b ob e).stay (λc w' hc q=>(hs.2 c ?_).trans q) (λ_ q=>q) λ_ _ q=>q;rintro rfl
  rcases hc with rfl | hc
  ·rw [hfree] at e;cases e
  ·rw [hfree] at hc;cases hc
 rcases hx with hk | hk
 ·refine wpAny_storeName_local hk hn (λh' hn' hs => ?_) hcls
  obtain ⟨oL,_,_,hoL,_⟩:=id hn;refine h _ ⟨I.ok,I.os,I.bare,⟨λb o e n hb hx => ?_,λb o e n hb hx => ?_,I.base.free,λb o e hx => ?_,I.base.tups,I.base.frzs,I.base.tbls⟩,⟨_,hn',λj y v' e1 e2 e3 => ?_⟩,λy c e => ?_,I.free,I.freeC,λp hp => ?_,tracked ⟨oL,hoL,I.free⟩ hs,by simpa using I.len⟩ ⟨_,hs,.inl rfl⟩
  ·exact (hs.2 b (Nat.ne_of_lt (Nat.lt_of_lt_of_le (Heap.lt_size e) I.ok.above))).trans (I.base.keep b o e n hb hx)
  ·obtain ⟨sl,e1⟩:=I.base.slot b o e n hb hx
   exact ⟨sl,(hs.2 b (Nat.ne_of_lt (Nat.lt_of_lt_of_le (Heap.lt_size e) I.ok.above))).trans e1⟩
  ·obtain ⟨o',e1⟩:=I.base.there b o e hx
   exact ⟨o',(hs.2 b (Nat.ne_of_lt (Nat.lt_of_lt_of_le (Heap.lt_size e) I.ok.above))).trans e1⟩
  ·by_cases hj:j=i
   ·subst hj
    rw [hi] at e1;cases e1;rw [List.getElem?_set_self hiσ] at e2;cases e2;exact ⟨u,r,.inl ⟨hk,by simp⟩⟩
   ·rw [List.getElem?_set_ne (Ne.symm hj)] at e2
    obtain ⟨u',r',q⟩:=hl j y v' e1 e2 e3;refine ⟨u',r',?_⟩
    rcases q with ⟨k,e⟩ | ⟨k,c,e,z⟩
    ·refine .inl ⟨k,?_⟩
     have:y≠x:=λe=>hj (cW hN e1 (e ▸ hi));simp [this,e]
    ·exact .inr ⟨k,c,e,z.sameBut hs (cne y c e)⟩
  ·obtain ⟨w',z⟩:=I.cell y c e
   exact ⟨w',z.sameBut hs (cne y c e)⟩
  ·obtain ⟨e,n,ne,nf,d⟩:=I.pin p hp
   exact ⟨(hs.2 p.1 ne).trans e,n,ne,nf,d⟩
 ·have hfn:X.fn x=true:=by
   rcases hf with z | z
   ·exact z
   ·rw [z] at hk;cases hk
  obtain ⟨c,hc⟩:=I.ok.has x (.inl hk);obtain ⟨w',z⟩:=I.cell x c hc;refine wpAny_storeName_cell I.ok.kind hk hc z (λh' hc' hs => ?_);obtain ⟨oc,hoc,hocd⟩:=id z;refine h { s with heap:=h' } ⟨I.ok,I.os,I.bare,⟨λb o e n hb hx => ?_,λb o e n hb hx => ?_,I.base.free,λb o e hx => ?_,I.base.tups,I.base.frzs,I.base.tbls⟩,⟨m,hn.sameBut hs (Ne.symm (cne x c hc)),λj y v' e1 e2 e3 => ?_⟩,λy c' e => ?_,I.free,I.freeC,λp hp => ?_,tracked ⟨oc,hoc,I.freeC x c hc⟩ hs,by simpa using I.len⟩ ⟨c,hs,.inr hc⟩
  ·exact (hs.2 b (Nat.ne_of_lt (Nat.lt_of_lt_of_le (Heap.lt_size e) (I.ok.cab x c hfn hc)))).trans (I.base.keep b o e n hb hx)
  ·obtain ⟨sl,e1⟩:=I.base.slot b o e n hb hx
   exact ⟨sl,(hs.2 b (Nat.ne_of_lt (Nat.lt_of_lt_of_le (Heap.lt_size e) (I.ok.cab x c hfn hc)))).trans e1⟩
  ·obtain ⟨o',e1⟩:=I.base.there b o e hx
   exact ⟨o',(hs.2 b (Nat.ne_of_lt (Nat.lt_of_lt_of_le (Heap.lt_size e) (I.ok.cab x c hfn hc)))).trans e1⟩
  ·by_cases hj:j=i
   ·subst hj
    rw [hi] at e1;cases e1;rw [List.getElem?_set_self hiσ] at e2;cases e2;exact ⟨u,r,.inr ⟨.inl hk,c,hc,hc'⟩⟩
   ·rw [List.getElem?_set_ne (Ne.symm hj)] at e2
    obtain ⟨u',r',q⟩:=hl j y v' e1 e2 e3;refine ⟨u',r',?_⟩
    rcases q with q | ⟨k,c',e,z'⟩
    ·exact .inl q
    ·refine .inr ⟨k,c',e,z'.sameBut hs ?_⟩
     rintro rfl;exact hj (cW hN e1 (I.ok.inj _ _ _ e hc ▸ hi))
  ·by_cases hcc:c'=c
   ·subst hcc;exact ⟨_,hc'⟩
   ·obtain ⟨w2,z2⟩:=I.cell y c' e
    exact ⟨w2,z2.sameBut hs hcc⟩
  ·obtain ⟨e,n,ne,nf,d⟩:=I.pin p hp
   refine ⟨(hs.2 p.1 ?_).trans e,n,ne,nf,d⟩;intro q;rw [q,hoc] at e;have q':oc=p.2:=Option.some.inj e;exact d w' (by rw [<- q'];exact hocd)
theorem m7 {M:Model}{A:Around}{E:Value->Shared->Prop}{i:Nat}{x:Str}{v:V}{u:Value}{Q:Unit->Shared->Prop}(I:zk X pins σ H s)(hN:X.N.Nodup)(hi:X.N[i]? = some x)(hx:cP X.env.scope x)(r:RelV v u)
  (h:∀ s',zk X pins (σ.set i (some v)) H s'->Q () s') (hf:X.fn x=true\/X.env.scope.names.lookup x=some .local:=by first | exact .inl rfl | exact .inr rfl | assumption):wpAny M A (storeName X.env x u) Q E s :=
 Zq I hN hi hx r (λs' I' _=>h s' I') hf
theorem zk.call' {s':Shared}{ch:List Addr}(I:zk X pins σ H s)(ho:s'.os=s.os)(u:Un (r0 X.stack) ch H H' s.heap s'.heap)(hok:gd X.prog X.w H' s'.heap)(hg:AllBare s'.gens)
  (hch:∀ b∈ch,(b∈X.ex\/X.s₀.heap.objs.size<=b)/\b≠X.env.locals/\(∀ x c,X.env.cells.lookup x=some c->c≠b)/\∀ p∈X.pn ++ pins,p.1≠b):zk X pins σ H' s':=by
 obtain ⟨h',g',d',t',o'⟩:=s';have e:o'=s.os:=ho;subst e;exact I.call (g':=g') (t':=t') (d':=d') u hok hg hch
end
abbrev XK:=Value->Option Addr->Hp->Prop
abbrev St:=List (Option V)
abbrev VK:=V->Hp->Prop
abbrev TE:=St->Hp->VK->Prop
abbrev TT:=St->Hp->(Bool->Hp->Prop)->Prop
abbrev TA:=St->Hp->(List V->Hp->Prop)->Prop
structure nC where
 nx:St->Hp->Prop
 rt:VK
 bk:St->Hp->Prop:=λ_ _=>False
 ct:St->Hp->Prop:=λ_ _=>False
abbrev TS:=nC->St->Hp->Prop
def EP (X:Cx)(pins:List (Addr×Obj))(σ:St)(Q:VK)(u:Value)(s':Shared):Prop := ∃ v H',zk X pins σ H' s'/\RelV v u/\Q v H'
def TP (X:Cx)(pins:List (Addr×Obj))(σ:St)(Q:Bool->Hp->Prop)(b:Bool)(s':Shared):Prop := ∃ H',zk X pins σ H' s'/\Q b H'
def AP (X:Cx)(pins:List (Addr×Obj))(σ:St)(Q:List V->Hp->Prop)(us:List Value)(s':Shared):Prop := ∃ vs H',zk X pins σ H' s'/\zJ vs us/\Q vs H'
def SP (X:Cx)(pins:List (Addr×Obj))(D:nC)(f:Flow)(s':Shared):Prop :=
 match f with
 | .next=>∃ σ' H',zk X pins σ' H' s'/\D.nx σ' H'
 | .brk=>∃ σ' H',zk X pins σ' H' s'/\D.bk σ' H'
 | .cont=>∃ σ' H',zk X pins σ' H' s'/\D.ct σ' H'
 | .ret u=>∃ v σ' H',zk X pins σ' H' s'/\RelV v u/\D.rt v H'
def PE (X:Cx)(e:Expr)(t:TE):Prop :=
 ∀ (pins:List (Addr×Obj)) (s:Shared) (σ:St) (H:Hp) (Q:VK),zk X pins σ H s->t σ H Q->wpAny (model X.prog X.w) X.A (eval e X.env) (EP X pins σ Q) X.xe s
def PT (X:Cx)(e:Expr)(t:TT):Prop :=
 ∀ (pins:List (Addr×Obj)) (s:Shared) (σ:St) (H:Hp) (Q:Bool->Hp->Prop),zk X pins σ H s->t σ H Q->wpAny (model X.prog X.w) X.A (isTrue e X.env (eval e X.env)) (TP X pins σ Q) X.xe s
def PW (X:Cx)(e:Expr)(t:TT):Prop :=
 ∀ (whole:Sem Value) (pins:List (Addr×Obj)) (s:Shared) (σ:St) (H:Hp) (Q:Bool->Hp->Prop),zk X pins σ H s->t σ H Q->wpAny (model X.prog X.w) X.A (isTrue e X.env whole) (TP X pins σ Q) X.xe s
def PW.pt {X:Cx}{e:Expr}{t:TT}(h:PW X e t):PT X e t:=h _
def PA (X:Cx)(es:List Expr)(t:TA):Prop :=
 ∀ (pos:Pos) (pins:List (Addr×Obj)) (s:Shared) (σ:St) (H:Hp) (Q:List V->Hp->Prop),zk X pins σ H s->t σ H Q->wpAny (model X.prog X.w) X.A (spliced (backTo pos (starEach es X.env))) (AP X pins σ Q) X.xe s
def PS (X:Cx)(st:Stmt)(t:TS):Prop :=
 ∀ (pins:List (Addr×Obj)) (s:Shared) (σ:St) (H:Hp) (D:nC),zk X pins σ H s->t D σ H->wpAny (model X.prog X.w) X.A (exec st X.env) (SP X pins D) X.xe s
def cX (X:Cx)(st:List Stmt)(t:TS):Prop :=
 ∀ (pins:List (Addr×Obj)) (s:Shared) (σ:St) (H:Hp) (D:nC),zk X pins σ H s->t D σ H->wpAny (model X.prog X.w) X.A (execs st X.env) (SP X pins D) X.xe s
def jx {α:Type}{t:Sem α}{Q Q':α->Shared->Prop}{M:Model}{A:Around}{E:Value->Shared->Prop}{s:Shared}(h:wpAny M A t Q E s)(hQ:∀ a s,Q a s->Q' a s):wpAny M A t Q' E s:=wpAny_mono h hQ λ_ _ x=>x
section
def Me {a b:Expr}{ta tb:TE}(ha:PE X a ta)(hb:PE X b tb){pins:List (Addr×Obj)}{s:Shared}{σ:St}{H:Hp}{R:V->V->Hp->Prop}(I:zk X pins σ H s)(h:ta σ H λx H1=>tb σ H1 λy H2=>R x y H2)
  {α:Type} {Q:α->Shared->Prop} {f:Value->Value->Sem α}
  (hf:∀ v u s2 x y H2,zk X pins σ H2 s2->RelV x v->RelV y u->R x y H2->wpAny (model X.prog X.w) X.A (f v u) Q X.xe s2) :
  wpAny (model X.prog X.w) X.A (eval a X.env) (λv s₁=>wpAny (model X.prog X.w) X.A (eval b X.env) (λu s₂=>wpAny (model X.prog X.w) X.A (f v u) Q X.xe s₂) X.xe s₁) X.xe s:=by
 refine jx (ha pins s σ H _ I h) λv s1 ⟨x,H1,I1,r1,q1⟩ => ?_;refine jx (hb pins s1 σ H1 _ I1 q1) λu s2 ⟨y,H2,I2,r2,q2⟩ => ?_;exact hf v u s2 x y H2 I2 r1 r2 q2
def xw (i:Nat):TE:=λσ H Q=>∃ v,σ[i]? = some (some v)/\Q v H
def tC (v:V):TE:=λ_ H Q=>Q v H
def qq {i:Nat}{x:Str}{pos:Pos}(hN:X.N[i]? = some x)(hv:JC X.env.scope x)(hd:(x == ("__debug__" : Str))=false:=by decide)(hcd:(x == ("__classdict__" : Str))=false:=by decide):PE X (.Name x pos) (xw i):=by
 intro pins s σ H Q I h;obtain ⟨v,e,h⟩:=h;obtain ⟨m,hn,hl⟩:=I.loc;obtain ⟨u,r,l⟩:=hl i x v hN e hv;have fin:EP X pins σ Q u s:=⟨v,H,I,r,h⟩
 rcases l with ⟨hk,hm⟩ | ⟨hk,c,hc,hcell⟩
 ·exact wpAny_Name (wpAny_loadName_local I.ok.kind hk hn hm fin) hd
 ·rcases hk with hk | hk
  ·exact wpAny_Name (wpAny_loadName_cell I.ok.kind hk hc hcell fin) hd
  ·exact wpAny_Name (wpAny_loadName_free I.ok.kind hk hc hcell fin hcd) hd
def Kv {i j pos} : PE X (.Constant (.int i) j pos) (tC (.int i)):=λ_ _ _ H _ I h=>wpAny_Constant_int ⟨.int i,H,I.tok _,⟨_,rfl⟩,h⟩
def Gv {b j pos} : PE X (.Constant (.bool b) j pos) (tC (.bl b)):=λ_ _ _ H _ I h=>Constant_bool ⟨.bl b,H,I,rfl,h⟩
def Kw {j pos} : PE X (.Constant .none j pos) (tC .non):=λ_ _ _ H _ I h=>Constant_none ⟨.non,H,I,rfl,h⟩
def Kx {x j pos} : PE X (.Constant (.str x) j pos) (tC (.str x)):=λ_ _ _ H _ I h=>Calls.Constant_str ⟨.str x,H,I.tok _,⟨_,rfl⟩,h⟩
def Gl (X:Cx)(x:Str):Prop:=X.env.kindOf x=some .globalImplicit
def dq {E:Value->Shared->Prop}{pins:List (Addr×Obj)}{s:Shared}{σ:St}{H:Hp}{x:Str}{u:Value}{pos:Pos}{Q:Value->Shared->Prop}(I:zk X pins σ H s)(hg:Gl X x)(hm:X.mg x=some u)(h:Q u s)
  (hd:(x == ("__debug__" : Str))=false:=by decide):wpAny (model X.prog X.w) X.A (eval (.Name x pos) X.env) Q E s :=
 Calls.Name_function_global I.ok.kind hg (Calls.loadGlobal_global (by rw [I.ok.glob];exact I.mod.glob.keeps I.bk) hm h) hd
def gf {E:Value->Shared->Prop}{pins:List (Addr×Obj)}{s:Shared}{σ:St}{H:Hp}{x:Str}{u:Value}{pos:Pos}{Q:Value->Shared->Prop}(I:zk X pins σ H s)(hg:Gl X x)(hm:X.mg x=none)(hv:bootBuiltins x=some u)(h:Q u s)
  (hn:x ≠ "__name__" := by decide) (hd:(x == ("__debug__" : Str))=false:=by decide):wpAny (model X.prog X.w) X.A (eval (.Name x pos) X.env) Q E s:=by
 obtain ⟨mb,h1,h2⟩:=I.mod.blt;exact Calls.Name_function_global I.ok.kind hg (Calls.loadGlobal_builtin (by rw [I.ok.glob];exact I.mod.glob.keeps I.bk) hm (by rw [I.ok.blt];exact h1.keeps I.bk) ((h2 x hn).trans hv) h) hd
def nT {x:Str}{v:V}{u:Value}{pos:Pos}(hg:Gl X x)(hm:X.mg x=some u)(r:RelV v u)(hd:(x == ("__debug__" : Str))=false:=by decide):PE X (.Name x pos) (tC v) :=
 λ_ _ _ H _ I h=>dq I hg hm ⟨v,H,I,r,h⟩ hd
def Wo {x:Str}{v:V}{u:Value}{pos:Pos}(hg:Gl X x)(hm:X.mg x=none)(hv:bootBuiltins x=some u)(r:RelV v u)(hn:x ≠ "__name__" := by decide)(hd:(x == ("__debug__" : Str))=false:=by decide):PE X (.Name x pos) (tC v) :=
 λ_ _ _ H _ I h=>gf I hg hm hv ⟨v,H,I,r,h⟩ hn hd
def PC (X:Cx)(op:CmpOp)(a b:Expr)(t:TE):Prop :=
 ∀ (pins:List (Addr×Obj)) (s:Shared) (σ:St) (H:Hp) (Q:VK),zk X pins σ H s->t σ H Q ->
  wpAny (model X.prog X.w) X.A (eval a X.env) (λv s₁=>wpAny (model X.prog X.w) X.A (eval b X.env) (λu s₂=>wpAny (model X.prog X.w) X.A (compareOp op v u) (EP X pins σ Q) X.xe s₂) X.xe s₁) X.xe s
def JQ (b:Expr){op:CmpOp}(h:op≠.In)(h2:op≠.NotIn):behindInMarks op b=false:=by
 have e1:(op == CmpOp.In)=false:=by cases op<;>first | rfl | exact absurd rfl h
 have e2:(op == CmpOp.NotIn)=false:=by cases op<;>first | rfl | exact absurd rfl h2
 cases b<;>simp [behindInMarks,e1,e2]
def tB (t:TE):TT:=λσ H Q=>t σ H λx H1=>∃ c,x=.bl c/\Q c H1
def Ky {op:CmpOp}{t:TE}(h:PC X op a b t)(h1:behindInMarks op b=false:=by first | exact JQ _ (by decide) (by decide) | rfl):PT X (.Compare a [op] [b] pos) (tB t):=by
 intro pins s σ H Q I hw;refine wpAny_isTrue_Compare1 (jx (h pins s σ H _ I hw) λv s1 h1=>jx h1 λu s2 h2=>jx h2 λc s3 ⟨x,H1,I1,r1,q1⟩ => ?_) h1;obtain ⟨d,rfl,q⟩:=q1;cases r1;exact wpAny_truthy_bool ⟨H1,I1,q⟩
variable {tA tB':TT}{rest:List Expr}
def Gw (t u:TT):TT:=λσ H Q=>t σ H λc H1=>if c=true then u σ H1 Q else Q false H1
def Nt (t u:TT):TT:=λσ H Q=>t σ H λc H1=>if c=true then Q true H1 else u σ H1 Q
def Gx (t:TT):TT:=λσ H Q=>t σ H λc H1=>Q (!c) H1
theorem Wp (ha:PT X a tA):PW X (.BoolOp .And [a] pos) tA:=by
 intro wh pins s σ H Q I h;refine isTrue_and (jx (ha pins s σ H Q I h) λc s1 e => ?_)
 cases c with
 | true=>exact isTrue_and_nil e
 | false=>exact e
theorem Kz (ha:PT X a tA):PW X (.BoolOp .Or [a] pos) tA:=by
 intro wh pins s σ H Q I h;refine isTrue_or (jx (ha pins s σ H Q I h) λc s1 e => ?_)
 cases c with
 | false=>exact isTrue_or_nil e
 | true=>exact e
theorem KA (ha:PT X a tA)(hb:PW X (.BoolOp .And (b :: rest) pos) tB'):PW X (.BoolOp .And (a :: b :: rest) pos) (Gw tA tB'):=by
 intro wh pins s σ H Q I h;refine isTrue_and (jx (ha pins s σ H _ I h) λc s1 ⟨H1,I1,q1⟩ => ?_)
 cases c with
 | true=>exact hb wh pins s1 σ H1 Q I1 q1
 | false=>exact ⟨H1,I1,q1⟩
theorem Gy (ha:PT X a tA)(hb:PW X (.BoolOp .Or (b :: rest) pos) tB'):PW X (.BoolOp .Or (a :: b :: rest) pos) (Nt tA tB'):=by
 intro wh pins s σ H Q I h;refine isTrue_or (jx (ha pins s σ H _ I h) λc s1 ⟨H1,I1,q1⟩ => ?_)
 cases c with
 | true=>exact ⟨H1,I1,q1⟩
 | false=>exact hb wh pins s1 σ H1 Q I1 q1
theorem KB (ha:PT X a tA):PT X (.UnaryOp .Not a pos) (Gx tA):=by
 intro pins s σ H Q I h;exact isTrue_not (ha pins s σ H (λc H1=>Q (!c) H1) I h)
def Gz (ta tb:TE):TE:=λσ H Q=>ta σ H λx H1=>∃ c,x=.bl c/\if c=true then tb σ H1 Q else Q (.bl false) H1
def Uo (ta tb:TE):TE:=λσ H Q=>ta σ H λx H1=>∃ c,x=.bl c/\if c=true then Q (.bl true) H1 else tb σ H1 Q
def GA (ta:TE):TE:=λσ H Q=>ta σ H λx H1=>∃ c,x=.bl c/\Q (.bl (!c)) H1
theorem KC {op}{t:TE}(h:PE X a t):PE X (.BoolOp op [a] pos) t:=λpins s σ H Q I hw=>BoolOp_one (h pins s σ H Q I hw)
theorem KD (ha:PE X a ta)(hb:PE X (.BoolOp .And (b :: rest) pos) tb):PE X (.BoolOp .And (a :: b :: rest) pos) (Gz ta tb):=by
 intro pins s σ H Q I h;refine BoolOp_and (jx (ha pins s σ H _ I h) λv s1 ⟨x,H1,I1,r1,q1⟩ => ?_);obtain ⟨c,rfl,q1⟩:=q1;cases r1;refine wpAny_truthy_bool ?_
 cases c with
 | true=>exact hb pins s1 σ H1 Q I1 q1
 | false=>exact ⟨.bl false,H1,I1,rfl,q1⟩
theorem GB (ha:PE X a ta)(hb:PE X (.BoolOp .Or (b :: rest) pos) tb):PE X (.BoolOp .Or (a :: b :: rest) pos) (Uo ta tb):=by
 intro pins s σ H Q I h;refine BoolOp_or (jx (ha pins s σ H _ I h) λv s1 ⟨x,H1,I1,r1,q1⟩ => ?_);obtain ⟨c,rfl,q1⟩:=q1;cases r1;refine wpAny_truthy_bool ?_
 cases c with
 | false=>exact hb pins s1 σ H1 Q I1 q1
 | true=>exact ⟨.bl true,H1,I1,rfl,q1⟩
theorem KF (ha:PE X a ta):PE X (.UnaryOp .Not a pos) (GA ta):=by
 intro pins s σ H Q I h;refine UnaryOp_ (jx (ha pins s σ H _ I h) λv s1 ⟨x,H1,I1,r1,q1⟩ => ?_);obtain ⟨c,rfl,q1⟩:=q1;cases r1;exact not_of (wpAny_truthy_bool ⟨.bl (!c),H1,I1,rfl,q1⟩)
def U4 (t:TT)(ta tb:TE):TE:=λσ H Q=>t σ H λc H1=>if c=true then ta σ H1 Q else tb σ H1 Q
theorem cY {c:Expr}(hc:PT X c tA)(ha:PE X a ta)(hb:PE X b tb):PE X (.IfExp c a b pos) (U4 tA ta tb):=by
 intro pins s σ H Q I h;refine wpAny_IfExp (jx (hc pins s σ H _ I h) λd s1 ⟨H1,I1,q1⟩ => ?_)
 cases d with
 | true=>exact ha pins s1 σ H1 Q I1 q1
 | false=>exact hb pins s1 σ H1 Q I1 q1
end
def uv (K:W.Frag)(H:Hp)(a:Addr)(xs:List V):Prop :=
 Rd H a (.lst xs) \/
  ∃ (o:Obj) (its:Array Value) (n:Nat),K.lookup a=some o/\o.cls=.type "list" /\ o.dict=none/\o.data=.seq its n/\its.size<=sizeLine/\zJ xs its.toList
def uW (K:W.Frag)(H:Hp)(a:Addr)(xs:List V):Prop :=
 Rd H a (.tup xs) \/
  ∃ (o:Obj) (its:Array Value) (n:Nat),K.lookup a=some o/\o.cls=.type "tuple" /\ o.data=.seq its n/\its.size<=sizeLine/\zJ xs its.toList
def Uq:Value->Option V
 | .none=>some .non
 | .bool b=>some (.bl b)
 | .int i _=>some (.int i)
 | .str x _=>some (.str x)
 | .bytes b _=>some (.byt b)
 | .float b _=>some (.flt b)
 | .ref a=>some (.ref a)
 | .type n=>some (.ty n)
 | _=>none
def RelV.abs {x:V}{u:Value}(r:RelV x u):Uq u=some x:=by
 cases x with
 | non=>cases r;rfl
 | bl _=>cases r;rfl
 | int _=>obtain ⟨t,rfl⟩:=r;rfl
 | str _=>obtain ⟨t,rfl⟩:=r;rfl
 | byt _=>obtain ⟨t,rfl⟩:=r;rfl
 | flt _=>obtain ⟨t,rfl⟩:=r;rfl
 | ref _=>cases r;rfl
 | ty _=>cases r;rfl
def RelV.inj {x y:V}{u:Value}(r:RelV x u)(q:RelV y u):x=y:=Option.some.inj (r.abs.symm.trans q.abs)
def zJ.inj:∀ {xs ys:List V} {us:List Value},zJ xs us->zJ ys us->xs=ys
 | _,_,_,.nil,.nil=>rfl
 | _,_,_,.cons r t,.cons r' t'=>by rw [r.inj r',zJ.inj t t']
def zk.list (I:zk X pins σ H s)(h:uv X.K H a xs):∃ its:List Value,zJ xs its/\PlainL s.heap a its.toArray/\xs.length<=sizeLine:=by
 rcases h with h | ⟨o,its,n,hk,hc,hd,hs,hz,r⟩
 ·obtain ⟨z,its,n,r,e⟩:=h.ok I.hok
  exact ⟨its,r,⟨_,n,e,rfl,rfl,rfl⟩,z⟩
 ·refine ⟨its.toList,r,⟨o,n,I.kIn a o hk,hc,hd,by simpa using hs⟩,?_⟩
  have e:=r.length;simp only [Array.length_toList] at e;omega
def zk.tuple (I:zk X pins σ H s)(h:uW X.K H a xs):∃ its:List Value,zJ xs its/\IsTup s.heap a its.toArray/\xs.length<=sizeLine:=by
 rcases h with h | ⟨o,its,n,hk,hc,hs,hz,r⟩
 ·obtain ⟨z,its,r,p⟩:=h.ok I.hok
  exact ⟨its,r,p,z⟩
 ·refine ⟨its.toList,r,⟨o,I.kIn a o hk,hc,n,by simpa using hs⟩,?_⟩
  have e:=r.length;simp only [Array.length_toList] at e;omega
def zk.list_inj (I:zk X pins σ H s)(h:uv X.K H a xs)(h':uv X.K H a ys):xs=ys:=by
 obtain ⟨its,r,⟨o,n,e,_,_,d⟩,_⟩:=I.list h;obtain ⟨its',r',⟨o',n',e',_,_,d'⟩,_⟩:=I.list h';rw [e] at e';cases e';rw [d] at d';injection d' with d1 _
 have:its=its':=by simpa using congrArg Array.toList d1
 subst this;exact r.inj r'
def zk.tuple_inj (I:zk X pins σ H s)(h:uW X.K H a xs)(h':uW X.K H a ys):xs=ys:=by
 obtain ⟨its,r,⟨o,e,_,n,d⟩,_⟩:=I.tuple h;obtain ⟨its',r',⟨o',e',_,n',d'⟩,_⟩:=I.tuple h';rw [e] at e';cases e';rw [d] at d';injection d' with d1 _
 have:its=its':=by simpa using congrArg Array.toList d1
 subst this;exact r.inj r'
section
variable {X:Cx}{st:Stmt}{rest:List Stmt}{t u:TS}{e:Expr}{te:TE}{pos:Pos}
def cZ:TS:=λD σ H=>D.nx σ H
def nE (t u:TS):TS:=λD σ H=>t { D with nx:=u D } σ H
theorem nU:cX X [] cZ:=λ_ _ σ H _ I h=>wpAny_execs_nil ⟨σ,H,I,h⟩
theorem w9 (h1:PS X st t)(h2:cX X rest u):cX X (st :: rest) (nE t u):=by
 intro pins s σ H D I h;refine wpAny_execs_cons (jx (h1 pins s σ H { D with nx:=u D } I h) λf s1 q => ?_)
 cases f with
 | next =>
  obtain ⟨σ',H',I',q⟩:=q;exact h2 pins s1 σ' H' D I' q
 | ret v=>exact q
 | brk=>exact q
 | cont=>exact q
theorem pD (h1:PS X st t):cX X [st] t:=by
 intro pins s σ H D I h;refine wpAny_execs_cons (jx (h1 pins s σ H D I h) λf s1 q => ?_)
 cases f with
 | next=>exact wpAny_execs_nil q
 | ret v=>exact q
 | brk=>exact q
 | cont=>exact q
theorem zk.quiet {pins:List (Addr×Obj)}{σ:St}{H:Hp}{s:Shared}(I:zk X pins σ H s):interactive X.env=false:=by simp [interactive,I.ok.kind]
def re (te:TE):TS:=λD σ H=>te σ H λ_ H1=>D.nx σ H1
theorem kc (he:PE X e te)(hs:swapsWith e none pos.line X.env=pure false:=by rfl):PS X (.Expr e pos) (re te):=by
 intro pins s σ H D I h;exact wpAny_Expr_any (jx (he pins s σ H _ I h) λv s1 ⟨x,H1,I1,r1,q1⟩=>⟨σ,H1,I1,q1⟩) I.quiet hs
def Ur (te:TE):TS:=λD σ H=>te σ H D.rt
theorem aT (he:PE X e te):PS X (.Return (some e) pos) (Ur te):=by
 intro pins s σ H D I h;exact wpAny_Return_some (jx (he pins s σ H _ I h) λv s1 ⟨x,H1,I1,r1,q1⟩=>⟨x,σ,H1,I1,r1,q1⟩)
def JR (c:TT)(t u:TS):TS:=λD σ H=>c σ H λb H1=>if b=true then t D σ H1 else u D σ H1
theorem JS {c:Expr}{a b:List Stmt}{tc:TT}(hc:PT X c tc)(ha:cX X a t)(hb:cX X b u):PS X (.If c a b pos) (JR tc t u):=by
 intro pins s σ H D I h;refine wpAny_If (jx (hc pins s σ H _ I h) λd s1 ⟨H1,I1,q1⟩ => ?_)
 cases d with
 | true=>exact ha pins s1 σ H1 D I1 q1
 | false=>exact hb pins s1 σ H1 D I1 q1
def uw:TS:=λ_ _ _=>False
theorem JT:PS X st uw:=λ_ _ _ _ _ _ h=>h.elim
theorem Zr {sts:List Stmt} : cX X sts uw:=λ_ _ _ _ _ _ h=>h.elim
end
abbrev TG:=V->St->Hp->(St->Hp->Prop)->Prop
abbrev VX:=List V->St->Hp->(St->Hp->Prop)->Prop
def PG (X:Cx)(target:Expr)(t:TG):Prop :=
 ∀ (pins:List (Addr×Obj)) (s:Shared) (σ:St) (H:Hp) (v:V) (u:Value) (Q:St->Hp->Prop),zk X pins σ H s->RelV v u->t v σ H Q ->
  wpAny (model X.prog X.w) X.A (assign target X.env u) (λ_ s'=>∃ σ' H',zk X pins σ' H' s'/\Q σ' H') X.xe s
def GC (X:Cx)(ts:List Expr)(t:VX):Prop :=
 ∀ (pins:List (Addr×Obj)) (s:Shared) (σ:St) (H:Hp) (vs:List V) (us:List Value) (Q:St->Hp->Prop),zk X pins σ H s->zJ vs us->t vs σ H Q ->
  wpAny (model X.prog X.w) X.A (assignInOrder ((assignEach ts X.env).map (·.2)) us) (λ_ s'=>∃ σ' H',zk X pins σ' H' s'/\Q σ' H') X.xe s
abbrev KG:=V->V->V->Hp->(Hp->Prop)->Prop
def GD (X:Cx)(t:KG):Prop :=
 ∀ (pins:List (Addr×Obj)) (s:Shared) (σ:St) (H:Hp) (o i v:V) (ov iv u:Value) (Q:Hp->Prop),zk X pins σ H s->RelV o ov->RelV i iv->RelV v u->t o i v H Q ->
  wpAny (model X.prog X.w) X.A (setItem ov iv u) (λ_ s'=>∃ H',zk X pins σ H' s'/\Q H') X.xe s
abbrev Us:=V->V->Hp->VK->Prop
def Nu (X:Cx)(op:Operator)(t:Us):Prop :=
 ∀ (pins:List (Addr×Obj)) (s:Shared) (σ:St) (H:Hp) (x y:V) (v u:Value) (Q:VK),zk X pins σ H s->RelV x v->RelV y u->t x y H Q ->
  wpAny (model X.prog X.w) X.A (inplaceOp op v u) (EP X pins σ Q) X.xe s
def vO (i:Nat):TG:=λv σ H Q=>Q (σ.set i (some v)) H
def gP {i:Nat}{x:Str}(hN:X.N.Nodup)(hi:X.N[i]? = some x)(hx:cP X.env.scope x)(hf:X.fn x=true\/X.env.scope.names.lookup x=some .local:=by first | exact .inl rfl | exact .inr rfl | assumption):PG X (.Name x pos) (vO i):=by
 intro pins s σ H v u Q I r h;exact wpAny_assign_Name (m7 I hN hi hx r (λs' I'=>⟨_,H,I',h⟩) hf)
def KH:VX:=λvs σ H Q=>vs=[]/\Q σ H
def b0 (t:TG)(u:VX):VX:=λvs σ H Q=>∃ v r,vs=v :: r/\t v σ H λσ' H'=>u r σ' H' Q
def rf:GC X [] KH:=by
 intro pins s σ H vs us Q I r h;obtain ⟨e,h⟩:=h;subst e;cases r;exact assignInOrder_nil ⟨σ,H,I,h⟩
def m8 {e:Expr}{es:List Expr}{t:TG}{u:VX}(h1:PG X e t)(h2:GC X es u)
  (hs:(assignEach (e :: es) X.env).map (·.2)=assign e X.env :: (assignEach es X.env).map (·.2):=by rfl):GC X (e :: es) (b0 t u):=by
 intro pins s σ H vs us Q I r h;obtain ⟨v,vr,e1,h⟩:=h;subst e1
 cases r with
 | cons r rr =>
  rw [hs];refine assignInOrder_cons (jx (h1 pins s σ H _ _ _ I r h) λ_ s1 ⟨σ1,H1,I1,q1⟩ => ?_);exact h2 pins s1 σ1 H1 _ _ Q I1 rr q1
def KI (K:W.Frag)(n:Nat)(t:VX):TG:=λv σ H Q=>∃ a xs,v=.ref a/\uW K H a xs/\xs.length=n/\t xs σ H Q
def JU {es:List Expr}{k:Nat}{t:VX}{n:Nat}(hc:X.calm=true)(h:GC X es t)
  (hn:(assignEach es X.env).length=n:=by rfl) (hst:(assignEach es X.env).findIdx? (·.1)=none:=by rfl):PG X (.Tuple es k pos) (KI X.K n t):=by
 intro pins s σ H v u Q I r hw;obtain ⟨a,xs,e1,hq,hl,hw⟩:=hw;subst e1;cases r;obtain ⟨its,rv,ht,hz⟩:=I.tuple hq;refine assign_Tuple_tuple (I.ok.hd hc) ht (by simp [hn,<- hl,rv.length]) hst λh' hx => ?_;have I1:zk X pins σ H { s with heap:=h' }:=I.kept (t':=s.toks) λb o e=>hx b o (Nat.ne_of_lt (Heap.lt_size e)) e;exact h pins _ σ H xs _ Q I1 (by simpa using rv) hw
def GE (to ti:TE)(t:KG):TG:=λv σ H Q=>to σ H λo H1=>ti σ H1 λi H2=>t o i v H2 λH3=>Q σ H3
def aU {o i:Expr}{to ti:TE}{t:KG}(ho:PE X o to)(hi:PE X i ti)(hs:GD X t)
  (ha:∀ v,assign (.Subscript o i pos) X.env v=(do
   let ov <- holding [v] (eval o X.env)
   let iv <- holding [v,ov] (eval i X.env)
   standAt pos
   holding [v,ov,iv] (setItem ov iv v)
   release [v,ov,iv] []):=by intro _;rfl):PG X (.Subscript o i pos) (GE to ti t):=by
 intro pins s σ H v u Q I r h;rw [ha];refine wpAny_bind (wpAny_holding (jx (ho pins s σ H _ I h) λov s1 ⟨x,H1,I1,r1,q1⟩ => ?_));refine wpAny_bind (wpAny_holding (jx (hi pins s1 σ H1 _ I1 q1) λiv s2 ⟨y,H2,I2,r2,q2⟩ => ?_));refine wpAny_bind (wpAny_standAt (wpAny_bind (wpAny_holding (jx (hs pins s2 σ H2 x y v ov iv u _ I2 r1 r2 r q2) λ_ s3 ⟨H3,I3,q3⟩ => ?_))));exact wpAny_release ⟨σ,H3,I3,q3⟩
def dr (te:TE)(g:TG):TS:=λD σ H=>te σ H λx H1=>g x σ H1 D.nx
def mf {tg e:Expr}{te:TE}{g:TG}(he:PE X e te)(hg:PG X tg g)(hs:swapsWithSole [tg] e pos.line X.env=pure false:=by rfl)(hw:swappedStores [tg] e X.env=pure none:=by rfl)
  (h1:(assignEach [tg] X.env).map (·.2)=[assign tg X.env]:=by rfl):PS X (.Assign [tg] e pos) (dr te g):=by
 intro pins s σ H D I h;refine wpAny_Assign_stores (jx (he pins s σ H _ I h) λv s1 ⟨x,H1,I1,r1,q1⟩ => ?_) hs hw;rw [h1];exact jx (hg pins s1 σ H1 x v _ I1 r1 q1) λ_ s2 q=>q
def aV {i:Nat}{x:Str}{e:Expr}{te:TE}{pos':Pos}(hN:X.N.Nodup)(hi:X.N[i]? = some x)(hx:cP X.env.scope x)(he:PE X e te)(hs:swapsWith e (some (.Name x pos')) pos.line X.env=pure false:=by rfl)(hf:X.fn x=true\/X.env.scope.names.lookup x=some .local:=by first | exact .inl rfl | exact .inr rfl | assumption) :
  PS X (.Assign [.Name x pos'] e pos) (dr te (vO i)):=by
 intro pins s σ H D I h;refine wpAny_Assign_Name (jx (he pins s σ H _ I h) λv s1 ⟨y,H1,I1,r1,q1⟩ => ?_) hs;exact m7 I1 hN hi hx r1 (λs2 I2=>⟨_,H1,I2,q1⟩) hf
def Ut (i:Nat)(te:TE)(ti:Us):TS:=λD σ H=>∃ x,σ[i]? = some (some x)/\te σ H λy H1=>ti x y H1 λz H2=>D.nx (σ.set i (some z)) H2
def KJ {i:Nat}{x:Str}{e:Expr}{te:TE}{op:Operator}{ti:Us}{pos':Pos}(hN:X.N.Nodup)(hi:X.N[i]? = some x)(hx:cP X.env.scope x)(he:PE X e te)(ho:Nu X op ti)(hf:X.fn x=true\/X.env.scope.names.lookup x=some .local:=by first | exact .inl rfl | exact .inr rfl | assumption) :
  PS X (.AugAssign (.Name x pos') op e pos) (Ut i te ti):=by
 intro pins s σ H D I h;obtain ⟨v,e1,h⟩:=h;obtain ⟨m,hn,hl⟩:=I.loc;have vis:JC X.env.scope x:=by rcases hx with k | k;exact .inl k;exact .inr (.inl k)
 obtain ⟨u,r,l⟩:=hl i x v hi e1 vis;refine wpAny_AugAssign_Name ?_
 have go:wpAny (model X.prog X.w) X.A (eval e X.env) (λw s₂=>wpAny (model X.prog X.w) X.A (inplaceOp op u w) (λr s₃=>wpAny (model X.prog X.w) X.A (storeName X.env x r) (λ_=>SP X pins D .next) X.xe s₃) X.xe s₂) X.xe s:=by
  refine jx (he pins s σ H _ I h) λw s1 ⟨y,H1,I1,r1,q1⟩ => ?_;refine jx (ho pins s1 σ H1 v y u w _ I1 r r1 q1) λz s2 ⟨zv,H2,I2,r2,q2⟩ => ?_;exact m7 I2 hN hi hx r2 (λs3 I3=>⟨_,H2,I3,q2⟩) hf
 rcases l with ⟨hk,hm⟩ | ⟨hk,c,hc,hcell⟩
 ·exact wpAny_loadName_local I.ok.kind hk hn hm go
 ·rcases hk with hk | hk
  ·exact wpAny_loadName_cell I.ok.kind hk hc hcell go
  ·rcases hx with k | k
   ·have:X.env.scope.names.lookup x=some .free:=hk
    rw [k] at this;cases this
   ·have:X.env.scope.names.lookup x=some .free:=hk
    rw [k] at this;cases this
def KK (c:TT)(tb:TS):TS:=λD σ H=>∃ W:Nat->St->Hp->Prop,(∃ m,W m σ H)/\∀ m σ H,W m σ H ->
 c σ H λb H1=>if b=true then ∃ N:St->Hp->Prop,(∀ σ' H',N σ' H'->∃ m',m' < m/\W m' σ' H')/\tb { D with nx:=N,ct:=N,bk:=D.nx } σ H1 else D.nx σ H1
def JV {c:Expr}{body:List Stmt}{tc:TT}{tb:TS}(hp:PassesOwn (model X.prog X.w) X.A X.env X.xe)(hc:PT X c tc)(hb:cX X body tb):PS X (.While c body [] pos) (KK tc tb):=by
 intro pins s σ H D I h;obtain ⟨W,⟨m0,w0⟩,turn⟩:=h;refine wpAny_While (codeAny_whileLoop (λn s'=>∃ σ' H',zk X pins σ' H' s'/\W n σ' H') ?_ m0 ⟨σ,H,I,w0⟩);rintro n s1 ⟨σ1,H1,I1,w1⟩;refine wpAny_passesOwn hp (jx (hc pins s1 σ1 H1 _ I1 (turn n σ1 H1 w1)) λb s2 ⟨H2,I2,q2⟩ => ?_)
 cases b with
 | true =>
  obtain ⟨N,hN,q2⟩:=q2;rw [if_pos rfl];refine wpAny_passesOwn hp (jx (hb pins s2 σ1 H2 _ I2 q2) λf s3 q3 => ?_)
  cases f with
  | next =>
   obtain ⟨σ3,H3,I3,n3⟩:=q3;obtain ⟨m',hm,w3⟩:=hN σ3 H3 n3;exact ⟨m',hm,σ3,H3,I3,w3⟩
  | cont =>
   obtain ⟨σ3,H3,I3,n3⟩:=q3;obtain ⟨m',hm,w3⟩:=hN σ3 H3 n3;exact ⟨m',hm,σ3,H3,I3,w3⟩
  | brk=>exact q3
  | ret v=>exact q3
 | false =>
  rw [if_neg Bool.false_ne_true];exact wpAny_execs_nil ⟨σ1,H2,I2,q2⟩
structure It where
 go:Nat->Hp->Prop
 yld:Nat->Hp->V->Hp->Prop
 stop:Nat->Hp->Prop
def pF (X:Cx)(pins:List (Addr×Obj))(H:Hp)(b:Addr):Prop :=
 H b=none/\b≠X.env.locals/\b∉X.fs/\(b∈X.ex\/X.s₀.heap.objs.size<=b)/\(∀ x c,X.env.cells.lookup x=some c->c≠b)/\∀ p∈X.pn ++ pins,p.1≠b
def zk.fpOk {X:Cx}{pins:List (Addr×Obj)}{σ:St}{H H':Hp}{s:Shared}{b:Addr}(I:zk X pins σ H s)(hb:s.heap.objs.size<=b)(hn:H' b=none):pF X pins H' b:=by
 refine ⟨hn,Nat.ne_of_gt (Nat.lt_of_lt_of_le I.lt hb),I.nofs hb,.inr (Nat.le_trans I.sz hb),λx c e z => ?_,λp hp z => ?_⟩
 ·obtain ⟨v,q⟩:=I.cell x c e
  exact absurd (Nat.lt_of_lt_of_le q.lt (by rw [z];exact hb)) (Nat.lt_irrefl _)
 ·exact absurd (Nat.lt_of_lt_of_le (Heap.lt_size (I.pin p hp).1) (by rw [z];exact hb)) (Nat.lt_irrefl _)
structure aW (P:Program) (w:World) (K:W.Frag) (tg:Expr) (J:It) (fp:List Addr) (it:Addr) (tn:Nat->Heap->Prop):Prop where
 mem:it∈fp
 obj:∀ i h,tn i h->∀ b∈fp,∃ o,h.get? b=some o/\∀ v,o.data≠.cell v
 keep:∀ i h h',tn i h->(∀ b∈fp,∀ o,h.get? b=some o->h'.get? b=some o)->tn i h'
 item:∀ (X:Cx),X.prog=P->X.w=w->X.K=K->X.calm=true->∀ (i:Nat) (pins:List (Addr×Obj)) (s:Shared) (σ:St) (H:Hp) (E:Value->Shared->Prop),zk X pins σ H s->(∀ b∈fp,pF X pins H b)->tn i s.heap->J.go i H ->
  wpAny (model P w) X.A (pyNext (.ref it)) (λr s1=>∃ u,r=some u /\
   wpAny (model P w) X.A (letOwnedTupleGo tg (.ref it) u) (λ_ s2=>∃ x H',zk X pins σ H' s2/\RelV x u/\J.yld i H x H'/\tn (i + 1) s2.heap/\∀ b∈fp,H' b=none) E s1) E s
 done:∀ (X:Cx),X.prog=P->X.w=w->X.K=K->X.calm=true->∀ (i:Nat) (pins:List (Addr×Obj)) (s:Shared) (σ:St) (H:Hp) (E:Value->Shared->Prop),zk X pins σ H s->(∀ b∈fp,pF X pins H b)->tn i s.heap->J.stop i H ->
  wpAny (model P w) X.A (pyNext (.ref it)) (λr s1=>r=none/\zk X pins σ H s1) E s
 self:∀ (A:Around) (i:Nat) (s:Shared) (Q:Value->Shared->Prop) (E:Value->Shared->Prop),tn i s.heap->Q (.ref it) s->wpAny (model P w) A (pyIter (.ref it)) Q E s
abbrev TI:=St->Hp->(It->Hp->Prop)->Prop
def Uu (X:Cx)(pins:List (Addr×Obj))(σ:St)(tg:Expr)(R:It->Hp->Prop)(itv:Value)(s2:Shared):Prop :=
 ∃ (it:Addr) (fp:List Addr) (tn:Nat->Heap->Prop) (J:It) (H':Hp),itv=.ref it/\zk X pins σ H' s2/\aW X.prog X.w X.K tg J fp it tn/\tn 0 s2.heap/\(∀ b∈fp,pF X pins H' b)/\R J H'
def PI (X:Cx)(tg iter:Expr)(wi:TI):Prop :=
 ∀ (pins:List (Addr×Obj)) (s:Shared) (σ:St) (H:Hp) (R:It->Hp->Prop),zk X pins σ H s->wi σ H R ->
  wpAny (model X.prog X.w) X.A (eval iter X.env) (λv s1=>wpAny (model X.prog X.w) X.A (pyIter v) (Uu X pins σ tg R) X.xe s1) X.xe s
def rg {M:Model}{A:Around}{E:Value->Shared->Prop}{s:Shared}{tg:Expr}{it:Addr}{u:Value}{o:Obj}{n:String}{vs:Array Value}{Q:Unit->Shared->Prop}(ho:s.heap.get? it=some o)(hc:o.cls=.type n)(hd:o.data=.fields vs)
  (hn:["enumerate","zip","dict_itemiterator","dict_reverseitemiterator","odict_iterator","itertools.zip_longest","itertools.pairwise"].contains n=false) (hQ:Q () s):wpAny M A (letOwnedTupleGo tg (.ref it) u) Q E s:=by
 unfold letOwnedTupleGo
 cases tg<;>first
  | exact wpAny_pure hQ
  | (cases u<;>first
    | exact wpAny_pure hQ
    | (
     refine wpAny_bind (wpAny_load ho ?_);rw [hc,hd];show wpAny M A (if (["enumerate","zip","dict_itemiterator","dict_reverseitemiterator","odict_iterator","itertools.zip_longest","itertools.pairwise"].contains n && vs[0]? == some (rawInt _))=true then _ else _) Q E s;rw [if_neg (by intro h;rw [hn,Bool.false_and] at h;cases h)];exact wpAny_pure hQ))
def Uv (K:W.Frag)(a:Addr):It :=
 ⟨λi H=>∃ xs x,uv K H a xs/\xs[i]? = some x,λi H x H'=>H'=H/\∀ xs,uv K H a xs->xs[i]? = some x,λi H=>∃ xs,uv K H a xs/\xs.length<=i⟩
def Uw (K:W.Frag)(a:Addr):It :=
 ⟨λi H=>∃ xs x,uW K H a xs/\xs[i]? = some x,λi H x H'=>H'=H/\∀ xs,uW K H a xs->xs[i]? = some x,λi H=>∃ xs,uW K H a xs/\xs.length<=i⟩
def U5 (lo:Int)(n:Nat):It:=⟨λi _=>i < n,λi H x H'=>H'=H/\x=.int (lo + i),λi _=>n<=i⟩
def Zs {P:Program}{w:World}{K:W.Frag}{tg:Expr}(a it:Addr):aW P w K tg (Uv K a) [it] it (λi h=>h.IsListIter it a i) where
 mem:=by simp
 obj:=λi h st b hb=>by
  have e:b=it:=by simpa using hb
  subst e;obtain ⟨o,e,c,d⟩:=st;exact ⟨o,e,λv z=>by rw [d] at z;cases z⟩
 keep:=λi h h' st k=>st.at λo e=>k it (by simp) o e
 item:=by
  intro X hP hw hK hc i pins s σ H E I hf st hg;subst hP hw hK;obtain ⟨xs,x,hq,hx⟩:=hg;obtain ⟨its,rv,p,hz⟩:=I.list hq;obtain ⟨u,hu,ru⟩:=rv.get hx;obtain ⟨f0,f1,f2,f3,f4,f5⟩:=hf it (by simp);refine wpAny_pyNext_list_item st p.isList (x:=u) (by simpa using hu) λh' st' sb => ?_;have I1:zk X pins σ H { s with heap:=h' }:=I.turned (t':=s.toks) (λb o hb e=>(sb.2 b hb).trans e) f0 f1 f3 f4 f5;obtain ⟨o,e,c,d⟩:=id st';exact ⟨u,rfl,rg (s:={ s with heap:=h' }) e c d (by decide) ⟨x,H,I1,ru,⟨rfl,λys hy=>by rw [I.list_inj hy hq];exact hx⟩,st',λb hb=>(hf b hb).1⟩⟩
 done:=by
  intro X hP hw hK hc i pins s σ H E I hf st hg;subst hP hw hK;obtain ⟨xs,hq,hx⟩:=hg;obtain ⟨its,rv,p,hz⟩:=I.list hq;obtain ⟨f0,f1,f2,f3,f4,f5⟩:=hf it (by simp);have hl:=rv.length;exact wpAny_pyNext_list_end (I.ok.hd hc) st p.isList (by simp;omega) λh' eb=>⟨rfl,I.turned (t':=s.toks) (λb o hb e=>eb b o hb e) f0 f1 f3 f4 f5⟩
 self:=λ_ _ _ _ _ st h=>wpAny_pyIter_listiter st h
def aX {P:Program}{w:World}{K:W.Frag}{tg:Expr}(a it:Addr):aW P w K tg (Uw K a) [it] it (λi h=>h.IsTupleIter it a i) where
 mem:=by simp
 obj:=λi h st b hb=>by
  have e:b=it:=by simpa using hb
  subst e;obtain ⟨o,e,c,d⟩:=st;exact ⟨o,e,λv z=>by rw [d] at z;cases z⟩
 keep:=λi h h' st k=>st.at λo e=>k it (by simp) o e
 item:=by
  intro X hP hw hK hc i pins s σ H E I hf st hg;subst hP hw hK;obtain ⟨xs,x,hq,hx⟩:=hg;obtain ⟨its,rv,p,hz⟩:=I.tuple hq;obtain ⟨u,hu,ru⟩:=rv.get hx;obtain ⟨f0,f1,f2,f3,f4,f5⟩:=hf it (by simp);refine wpAny_pyNext_tuple_item st (show s.heap.IsTuple a its.toArray from p) (x:=u) (by simpa using hu) λh' st' sb => ?_;have I1:zk X pins σ H { s with heap:=h' }:=I.turned (t':=s.toks) (λb o hb e=>(sb.2 b hb).trans e) f0 f1 f3 f4 f5;obtain ⟨o,e,c,d⟩:=id st';exact ⟨u,rfl,rg (s:={ s with heap:=h' }) e c d (by decide) ⟨x,H,I1,ru,⟨rfl,λys hy=>by rw [I.tuple_inj hy hq];exact hx⟩,st',λb hb=>(hf b hb).1⟩⟩
 done:=by
  intro X hP hw hK hc i pins s σ H E I hf st hg;subst hP hw hK;obtain ⟨xs,hq,hx⟩:=hg;obtain ⟨its,rv,p,hz⟩:=I.tuple hq;obtain ⟨f0,f1,f2,f3,f4,f5⟩:=hf it (by simp);have hl:=rv.length;exact wpAny_pyNext_tuple_end (I.ok.hd hc) st (show s.heap.IsTuple a its.toArray from p) (by simp;omega) λh' eb=>⟨rfl,I.turned (t':=s.toks) (λb o hb e=>eb b o hb e) f0 f1 f3 f4 f5⟩
 self:=λ_ _ _ _ _ st h=>wpAny_pyIter_tupleiter st h
def aY {P:Program}{w:World}{K:W.Frag}{tg:Expr}(it:Addr)(lo:Int)(n:Nat):aW P w K tg (U5 lo n) [it] it (λi h=>IsRangeIter h it (lo + (i:Nat) * 1) ((n:Int) - (i:Nat)) 1) where
 mem:=by simp
 obj:=λi h st b hb=>by
  have e:b=it:=by simpa using hb
  subst e
  exact ⟨_,st,λv z=>by
   have z':Data.fields _=Data.cell v:=z;cases z'⟩
 keep:=λi h h' st k=>k it (by simp) _ st
 item:=by
  intro X hP hw hK hc i pins s σ H E I hf st hg;subst hP hw hK;obtain ⟨f0,f1,f2,f3,f4,f5⟩:=hf it (by simp);have W:=Walks.range (prog:=X.prog) (w:=X.w) (I.ok.hd hc) it lo 1 n;refine W.item i s _ _ hg st λv h' tk hv st' kk => ?_;obtain ⟨t,rfl⟩:=hv;have I1:zk X pins σ H { s with heap:=h',toks:=tk }:=I.turned (λb o hb e=>kk b o (by simpa using hb) e) f0 f1 f3 f4 f5;refine ⟨_,rfl,rg (s:={ s with heap:=h',toks:=tk }) (n := "range_iterator") st' rfl rfl (by decide) ⟨.int (lo + i),H,I1,⟨t,?_⟩,⟨rfl,rfl⟩,st',λb hb=>(hf b hb).1⟩⟩;rw [Int.mul_one]
 done:=by
  intro X hP hw hK hc i pins s σ H E I hf st hg;subst hP hw hK;obtain ⟨f0,f1,f2,f3,f4,f5⟩:=hf it (by simp);exact wpAny_pyNext_range_end (I.ok.hd hc) st (by have:n<=i:=hg;omega) λh' eb=>⟨rfl,I.turned (t':=s.toks) (λb o hb e=>eb b o hb e) f0 f1 f3 f4 f5⟩
 self:=λ_ _ _ _ _ st h=>wpAny_pyIter_rangeiter st h
def VY (K:W.Frag)(tl:TE):TI:=λσ H R=>tl σ H λx H1=>∃ a,x=.ref a/\(∃ xs,uv K H1 a xs)/\R (Uv K a) H1
def GF (K:W.Frag)(tl:TE):TI:=λσ H R=>tl σ H λx H1=>∃ a,x=.ref a/\(∃ xs,uW K H1 a xs)/\R (Uw K a) H1
def Wq {l:Expr}{tl:TE}(hl:PE X l tl):PI X tg l (VY X.K tl):=by
 intro pins s σ H R I h;refine jx (hl pins s σ H _ I h) λv s1 ⟨x,H1,I1,r1,q1⟩ => ?_;obtain ⟨a,e,⟨xs,hq⟩,q⟩:=q1;subst e;cases r1;obtain ⟨its,rv,p,hz⟩:=I1.list hq;refine wpAny_pyIter_list p.isList ?_;refine ⟨s1.heap.objs.size,[s1.heap.objs.size],_,_,H1,rfl,I1.kept (t':=s1.toks) λb o e=>Heap.get?_push_of_some _ e,Zs a _,⟨_,Heap.get?_push_size _ rfl,rfl,rfl⟩,λb hb => ?_,q⟩;have e:b=s1.heap.objs.size:=by simpa using hb
 subst e;exact I1.fpOk (Nat.le_refl _) (I1.hok.fresh (Nat.le_refl _))
def KL {l:Expr}{tl:TE}(hl:PE X l tl):PI X tg l (GF X.K tl):=by
 intro pins s σ H R I h;refine jx (hl pins s σ H _ I h) λv s1 ⟨x,H1,I1,r1,q1⟩ => ?_;obtain ⟨a,e,⟨xs,hq⟩,q⟩:=q1;subst e;cases r1;obtain ⟨its,rv,p,hz⟩:=I1.tuple hq;refine wpAny_pyIter_tuple (show s1.heap.IsTuple a its.toArray from p) ?_;refine ⟨s1.heap.objs.size,[s1.heap.objs.size],_,_,H1,rfl,I1.kept (t':=s1.toks) λb o e=>Heap.get?_push_of_some _ e,aX a _,⟨_,Heap.get?_push_size _ rfl,rfl,rfl⟩,λb hb => ?_,q⟩;have e:b=s1.heap.objs.size:=by simpa using hb
 subst e;exact I1.fpOk (Nat.le_refl _) (I1.hok.fresh (Nat.le_refl _))
def JW {pins:List (Addr×Obj)}{σ:St}{H:Hp}{s:Shared}{R:It->Hp->Prop}{E:Value->Shared->Prop}{lo hi:Int}{t u v:Tok}{tk:Nat}(I:zk X pins σ H s)(h1 : -(2 ^ 62)<=lo)(h2:lo < 2 ^ 62)(h3 : -(2 ^ 62)<=hi)(h4:hi < 2 ^ 62)
  (q:R (U5 lo (hi - lo).toNat) H):wpAny (model X.prog X.w) X.A (pyIter (.ref s.heap.objs.size)) (Uu X pins σ tg R) E { s with heap:=s.heap.push { cls:=.type "range",data:=.fields #[.int lo t,.int hi u,.int 1 v] },toks:=tk }:=by
 refine wpAny_pyIter_range (IsRange.new ..) (small_one h1 h2 h3 h4) ?_;have I1:zk X pins σ H { s with heap:=s.heap.push { cls:=.type "range",data:=.fields #[.int lo t,.int hi u,.int 1 v] },toks:=tk }:=I.kept λb o e=>Heap.get?_push_of_some _ e
 refine ⟨(s.heap.push { cls:=.type "range",data:=.fields #[.int lo t,.int hi u,.int 1 v] }).objs.size,[(s.heap.push { cls:=.type "range",data:=.fields #[.int lo t,.int hi u,.int 1 v] }).objs.size],_,_,H,rfl,
  I1.kept (t':=tk) λb o e=>Heap.get?_push_of_some _ e,aY _ lo (hi - lo).toNat,?_,λb hb => ?_,q⟩
 ·have e1:lo + ((0:Nat):Int) * 1=lo:=by simp
  have e2:(((hi - lo).toNat:Nat):Int) - ((0:Nat):Int)=Builtin.Range.rangeSize lo hi 1:=by rw [rangeSize_one];split<;>omega
  show IsRangeIter _ _ (lo + ((0:Nat):Int) * 1) ((((hi - lo).toNat:Nat):Int) - ((0:Nat):Int)) 1;rw [e1,e2];exact Heap.get?_push_size _ rfl
 ·have e:b=(s.heap.push { cls:=.type "range",data:=.fields #[.int lo t,.int hi u,.int 1 v] }).objs.size:=by simpa using hb
  subst e;exact I1.fpOk (Nat.le_refl _) (I1.hok.fresh (Nat.le_refl _))
def GG (ta:TA):TI:=λσ H R=>ta σ H λvs H1=>∃ j:Int,vs=[.int j] /\ -(2 ^ 62)<=j/\j < 2 ^ 62/\R (U5 0 j.toNat) H1
def Zt {a:Expr}{ta:TA}{p pos:Pos}(hg:Gl X "range")(hm:X.mg "range" = none)(ha:PA X [a] ta)(hs:starEach [a] X.env=[(false,eval a X.env)]:=by rfl):PI X tg (.Call (.Name "range" p) [a] [] pos) (GG ta):=by
 intro pins s σ H R I h;refine Call_ (gf I hg hm boot_range (PyProof.Rows.callWith_type1 (jx (ha pos pins s σ H _ I h) λus s1 ⟨vs,H1,I1,r1,q1⟩ => ?_) hs rfl));obtain ⟨j,e,q1,q2,q⟩:=q1;subst e
 cases r1 with
 | cons r rr =>
  cases rr;obtain ⟨t,rfl⟩:=r;exact call_range_1 (JW I1 (by omega) (by omega) q1 q2 (by simpa using q))
def KM (wi:TI)(g:TG)(tb:TS):TS:=λD σ H=>wi σ H λJ H1=>∃ W:Nat->Nat->St->Hp->Prop,(∃ m,W 0 m σ H1)/\∀ i m σ H,W i m σ H ->
 (J.stop i H/\D.nx σ H)\/(J.go i H/\∃ N:St->Hp->Prop,(∀ σ' H',N σ' H'->∃ m',m' < m/\W (i + 1) m' σ' H')/\∀ x H',J.yld i H x H'->g x σ H' λσ2 H2=>tb { D with nx:=N,ct:=N,bk:=D.nx } σ2 H2)
def ux (fp:List Addr)(h:Heap):List (Addr×Obj):=fp.filterMap λb=>(h.get? b).map λo=>(b,o)
def xO {fp:List Addr}{h:Heap}{b:Addr}{o:Obj}(hb:b∈fp)(e:h.get? b=some o):(b,o)∈ux fp h:=List.mem_filterMap.mpr ⟨b,hb,by rw [e];rfl⟩
def Zu {fp:List Addr}{h:Heap}{p:Addr×Obj}(hp:p∈ux fp h):p.1∈fp/\h.get? p.1=some p.2:=by
 obtain ⟨b,hb,e⟩:=List.mem_filterMap.mp hp
 cases q:h.get? b with
 | none=>rw [q] at e;cases e
 | some o =>
  rw [q] at e;have e':(b,o)=p:=Option.some.inj e;subst e';exact ⟨hb,q⟩
def zk.pinned {pins:List (Addr×Obj)}{σ:St}{H:Hp}{s:Shared}{fp:List Addr}(I:zk X pins σ H s)(hf:∀ b∈fp,pF X pins H b)(ho:∀ b∈fp,∃ o,s.heap.get? b=some o/\∀ v,o.data≠.cell v):zk X (pins ++ ux fp s.heap) σ H s :=
 I.pins_of λp hp=>(List.mem_append.mp hp).elim (λz=>I.pin p (List.mem_append_right _ z)) λz=>by
  obtain ⟨hb,e⟩:=Zu z;obtain ⟨f0,f1,f2,_⟩:=hf p.1 hb;obtain ⟨o,e',d⟩:=ho p.1 hb;rw [e] at e';cases e';exact ⟨e,f0,f1,f2,d⟩
def zk.unpinned {pins pl:List (Addr×Obj)}{σ:St}{H:Hp}{s:Shared}(I:zk X (pins ++ pl) σ H s):zk X pins σ H s:=I.pins_of λp hp=>I.pin p (List.mem_append_right _ (List.mem_append_left _ hp))
def aZ {iter:Expr}{body:List Stmt}{wi:TI}{g:TG}{tb:TS}{pos:Pos}(hp:PassesOwn (model X.prog X.w) X.A X.env X.xe)(hc:X.calm=true)(hi:PI X tg iter wi)(hg:PG X tg g)(hb:cX X body tb)
  (hs:∀ x,foldedSetIterable iter X.env x=pure x:=by intro _;rfl):PS X (.For tg iter body [] pos) (KM wi g tb):=by
 intro pins s σ H D I h;refine wpAny_For (jx (hi pins s σ H _ I h) λv s1 h1=>jx h1 λitv s2 h2 => ?_) hs;obtain ⟨it,fp,tn,J,H2,e,I2,T,st2,f2,W,⟨m0,w0⟩,turn⟩:=h2;subst e
 -- what stays true of the iterator's objects through the loop
 have stat:∀ {H':Hp},(∀ b∈fp,H' b=none)->∀ b∈fp,pF X pins H' b:=λhn b hb=>⟨hn b hb,(f2 b hb).2⟩;refine codeAny_forLoop_any (λn s'=>∃ i σ' H',zk X pins σ' H' s'/\tn i s'.heap/\(∀ b∈fp,H' b=none)/\W i n σ' H') ?_ m0 ⟨0,σ,H2,I2,st2,λb hb=>(f2 b hb).1,w0⟩;rintro n s3 ⟨i,σ3,H3,I3,st3,fr3,w3⟩
 rcases turn i n σ3 H3 w3 with ⟨stop,qn⟩ | ⟨go,N,hN,step⟩
 ·refine wpAny_passesOwn hp (jx (T.done X rfl rfl rfl hc i pins s3 σ3 H3 X.xe I3 (stat fr3) st3 stop) λr s4 ⟨hr,I4⟩ => ?_)
  subst hr;exact wpAny_execs_nil ⟨σ3,H3,I4,qn⟩
 ·refine wpAny_passesOwn hp (jx (T.item X rfl rfl rfl hc i pins s3 σ3 H3 X.xe I3 (stat fr3) st3 go) λr s4 ⟨u,hr,h4⟩ => ?_)
  subst hr;refine wpAny_passesOwn hp (jx h4 λ_ s5 ⟨x,H5,I5,r5,y5,st5,fr5⟩ => ?_);have I5':=I5.pinned (stat fr5) (T.obj _ _ st5);refine wpAny_passesOwn hp (jx (hg _ s5 σ3 H5 x u _ I5' r5 (step x H5 y5)) λ_ s6 ⟨σ6,H6,I6,q6⟩ => ?_);refine wpAny_passesOwn hp (jx (hb _ s6 σ6 H6 _ I6 q6) λf s7 q7 => ?_)
  have again:∀ {σ7:St} {H7:Hp},zk X (pins ++ ux fp s5.heap) σ7 H7 s7->N σ7 H7->∃ m,m < n/\∃ i σ' H',zk X pins σ' H' s7/\tn i s7.heap/\(∀ b∈fp,H' b=none)/\W i m σ' H':=λ{σ7 H7} I7 n7=>by
   obtain ⟨m',hm,w7⟩:=hN σ7 H7 n7;refine ⟨m',hm,i + 1,σ7,H7,I7.unpinned,T.keep _ _ _ st5 λb hb o e=>(I7.pin (b,o) (List.mem_append_right _ (List.mem_append_right _ (xO hb e)))).1,λb hb => ?_,w7⟩;obtain ⟨o,e,d⟩:=T.obj _ _ st5 b hb;exact (I7.pin (b,o) (List.mem_append_right _ (List.mem_append_right _ (xO hb e)))).2.1
  cases f with
  | next=>obtain ⟨σ7,H7,I7,n7⟩:=q7;exact again I7 n7
  | cont=>obtain ⟨σ7,H7,I7,n7⟩:=q7;exact again I7 n7
  | brk=>obtain ⟨σ7,H7,I7,q7⟩:=q7;exact ⟨σ7,H7,I7.unpinned,q7⟩
  | ret v=>obtain ⟨x7,σ7,H7,I7,r7,q7⟩:=q7;exact ⟨x7,σ7,H7,I7.unpinned,r7,q7⟩
abbrev R2:=V->V->Hp->VK->Prop
def qp (X:Cx)(f:Value->Value->Sem Value)(r:R2):Prop :=
 ∀ (pins:List (Addr×Obj)) (s:Shared) (σ:St) (H:Hp) (x y:V) (v u:Value) (Q:VK),zk X pins σ H s->RelV x v->RelV y u->r x y H Q ->
  wpAny (model X.prog X.w) X.A (f v u) (EP X pins σ Q) X.xe s
def Ux (X:Cx)(f:Value->Sem Value)(r:V->Hp->VK->Prop):Prop :=
 ∀ (pins:List (Addr×Obj)) (s:Shared) (σ:St) (H:Hp) (x:V) (v:Value) (Q:VK),zk X pins σ H s->RelV x v->r x H Q ->
  wpAny (model X.prog X.w) X.A (f v) (EP X pins σ Q) X.xe s
def ke (X:Cx)(f:Value)(r:List V->Hp->VK->Prop):Prop :=
 ∀ (pins:List (Addr×Obj)) (s:Shared) (σ:St) (H:Hp) (xs:List V) (us:List Value) (Q:VK),zk X pins σ H s->zJ xs us->r xs H Q ->
  wpAny (model X.prog X.w) X.A (call f us) (EP X pins σ Q) X.xe s
def Uy (X:Cx)(r:V->Hp->(Bool->Hp->Prop)->Prop):Prop :=
 ∀ (pins:List (Addr×Obj)) (s:Shared) (σ:St) (H:Hp) (x:V) (v:Value) (Q:Bool->Hp->Prop),zk X pins σ H s->RelV x v->r x H Q ->
  wpAny (model X.prog X.w) X.A (truthy v) (TP X pins σ Q) X.xe s
def GH (r:R2)(ta tb:TE):TE:=λσ H Q=>ta σ H λx H1=>tb σ H1 λy H2=>r x y H2 Q
def NS (r:V->Hp->VK->Prop)(ta:TE):TE:=λσ H Q=>ta σ H λx H1=>r x H1 Q
def rI (C:Int->Int->Prop)(g:Int->Int->V):R2:=λx y H Q=>∃ i j,x=.int i/\y=.int j/\C i j/\Q (g i j) H
def KN (g:Int->Int->V):R2:=λx y H Q=>∃ i j,x=.int i/\y=.int j/\Q (g i j) H
def rU (g:Int->V):V->Hp->VK->Prop:=λx H Q=>∃ i,x=.int i/\Q (g i) H
def KO (ha:PE X a ta)(hb:PE X b tb){pins:List (Addr×Obj)}{s:Shared}{σ:St}{H:Hp}{R:V->V->Hp->Prop}(I:zk X pins σ H s)
  (h:ta σ H λx H1=>tb σ H1 λy H2=>R x y H2) {Q:Value->Shared->Prop} {f:Value->Value->Sem Value}
  (hf:∀ v u s2 x y H2,zk X pins σ H2 s2->RelV x v->RelV y u->R x y H2->wpAny (model X.prog X.w) X.A (f v u) Q X.xe s2) :
  wpAny (model X.prog X.w) X.A (eval a X.env) (λv s₁=>wpAny (model X.prog X.w) X.A (eval b X.env) (λu s₂=>wpAny (model X.prog X.w) X.A (f v u) Q X.xe s₂) X.xe s₁) X.xe s:=by
 refine jx (ha pins s σ H _ I h) λv s1 ⟨x,H1,I1,r1,q1⟩ => ?_;refine jx (hb pins s1 σ H1 _ I1 q1) λu s2 ⟨y,H2,I2,r2,q2⟩ => ?_;exact hf v u s2 x y H2 I2 r1 r2 q2
def GI {op:Operator}{r:R2}(ho:qp X (binaryOp op) r)(ha:PE X a ta)(hb:PE X b tb):PE X (.BinOp a op b pos) (GH r ta tb):=by
 intro pins s σ H Q I h;exact wpAny_BinOp (KO ha hb I h λv u s2 x y H2 I2 rx ry q=>ho pins s2 σ H2 x y v u Q I2 rx ry q)
def GJ {op:UnaryOp}{r:V->Hp->VK->Prop}(ho:Ux X (unaryOp op) r)(ha:PE X a ta):PE X (.UnaryOp op a pos) (NS r ta):=by
 intro pins s σ H Q I h;exact UnaryOp_ (jx (ha pins s σ H _ I h) λv s1 ⟨x,H1,I1,r1,q1⟩=>ho pins s1 σ H1 x v Q I1 r1 q1)
def U6 {f:Value->Value->Sem Value}{C:Int->Int->Prop}{g:Int->Int->Int}
  (rule:∀ (i j:Int) (t u:Tok) (s:Shared) (Q:Value->Shared->Prop) (E:Value->Shared->Prop),C i j->Q (.int (g i j) s.toks) { s with toks:=s.toks + 1 } -> wpAny (model X.prog X.w) X.A (f (.int i t) (.int j u)) Q E s) :
  qp X f (rI C λi j=>.int (g i j)):=by
 intro pins s σ H x y v u Q I rx ry h;obtain ⟨i,j,rfl,rfl,hc,q⟩:=h;obtain ⟨t,rfl⟩:=rx;obtain ⟨t',rfl⟩:=ry;exact rule i j t t' s _ _ hc ⟨.int (g i j),H,I.tok _,⟨_,rfl⟩,q⟩
def GK {f:Value->Value->Sem Value}{g:Int->Int->Int}
  (rule:∀ (i j:Int) (t u:Tok) (s:Shared) (Q:Value->Shared->Prop) (E:Value->Shared->Prop),Q (.int (g i j) s.toks) { s with toks:=s.toks + 1 } -> wpAny (model X.prog X.w) X.A (f (.int i t) (.int j u)) Q E s) :
  qp X f (KN λi j=>.int (g i j)):=by
 intro pins s σ H x y v u Q I rx ry h;obtain ⟨i,j,rfl,rfl,q⟩:=h;obtain ⟨t,rfl⟩:=rx;obtain ⟨t',rfl⟩:=ry;exact rule i j t t' s _ _ ⟨.int (g i j),H,I.tok _,⟨_,rfl⟩,q⟩
def KP {f:Value->Value->Sem Value}{g:Int->Int->Bool}
  (rule:∀ (i j:Int) (t u:Tok) (s:Shared) (Q:Value->Shared->Prop) (E:Value->Shared->Prop),Q (.bool (g i j)) s->wpAny (model X.prog X.w) X.A (f (.int i t) (.int j u)) Q E s) :
  qp X f (KN λi j=>.bl (g i j)):=by
 intro pins s σ H x y v u Q I rx ry h;obtain ⟨i,j,rfl,rfl,q⟩:=h;obtain ⟨t,rfl⟩:=rx;obtain ⟨t',rfl⟩:=ry;exact rule i j t t' s _ _ ⟨.bl (g i j),H,I,rfl,q⟩
def Zv (i j:Int):Prop:=0 < j/\j < 1073741824
def JX (i j:Int):Prop:=0<=j/\j<=1000000/\i.natAbs < 2 ^ 64
def Zw (i j:Int):Prop:=(-(2 ^ 64) < i/\i < 2 ^ 64)\/(-(2 ^ 64) < j/\j < 2 ^ 64)
def Zw.ok {i j:Int}(h:Zw i j):IntMulOk i j:=by
 rcases h with ⟨h1,h2⟩ | ⟨h1,h2⟩
 ·exact .of_left (intBits_le_64 h1 h2)
 ·exact .of_right (intBits_le_64 h1 h2)
def KQ:qp X (binaryOp .Add) (KN λi j=>.int (i + j)):=GK λ_ _ _ _ _ _ _ q=>add_int q
def KR:qp X (binaryOp .Sub) (KN λi j=>.int (i - j)):=GK λ_ _ _ _ _ _ _ q=>sub_int q
def KS:qp X (binaryOp .Mult) (rI Zw λi j=>.int (i * j)):=U6 λ_ _ _ _ _ _ _ hc q=>mul_int q hc.ok
def Wr:qp X (binaryOp .FloorDiv) (rI Zv λi j=>.int (i / j)):=U6 λi j _ _ _ _ _ hc q=>by
 have h1:(0:Int) < j:=hc.1;have h2:j < 1073741824:=hc.2;exact floordiv_int (by omega) (by rw [Int.fdiv_eq_ediv_of_nonneg i (by omega)];exact q) (.inl (PyProof.noPylong_small (by omega)))
def KU:qp X (binaryOp .Mod) (rI (λ_ j=>0 < j) λi j=>.int (i % j)):=U6 λi j _ _ _ _ _ hc q=>by
 have h1:(0:Int) < j:=hc;exact mod_int' (by omega) (by rw [Int.fmod_eq_emod_of_nonneg i (by omega)];exact q)
def KW:qp X (binaryOp .Pow) (rI JX λi j=>.int (i ^ j.toNat)):=U6 λ_ _ _ _ _ _ _ hc q=>pow_int_small hc.1 hc.2.1 hc.2.2 q
def NT {f:Value->Sem Value}{g:Int->Int}
  (rule:∀ (i:Int) (t:Tok) (s:Shared) (Q:Value->Shared->Prop) (E:Value->Shared->Prop),Q (.int (g i) s.toks) { s with toks:=s.toks + 1 } -> wpAny (model X.prog X.w) X.A (f (.int i t)) Q E s) :
  Ux X f (rU λi=>.int (g i)):=by
 intro pins s σ H x v Q I rx h;obtain ⟨i,rfl,q⟩:=h;obtain ⟨t,rfl⟩:=rx;exact rule i t s _ _ ⟨.int (g i),H,I.tok _,⟨_,rfl⟩,q⟩
def KY:Ux X (unaryOp .USub) (rU λi=>.int (-i)):=NT λ_ _ _ _ _ q=>neg_int q
def mj {pins:List (Addr×Obj)}{σ:St}{H:Hp}{s:Shared}{Q:VK}{k k':Bool}(I:zk X pins σ H s)(q:Q (.bl k) H)(e:k=k'):EP X pins σ Q (.bool k') s:=by
 subst e;exact ⟨.bl k,H,I,rfl,q⟩
def GL:qp X (compareOp .Lt) (KN λi j=>.bl (decide (i < j))):=KP λ_ _ _ _ _ _ _ q=>lt_int q
def GM:qp X (compareOp .LtE) (KN λi j=>.bl (decide (i<=j))):=KP λ_ _ _ _ _ _ _ q=>le_int q
def GN:qp X (compareOp .Gt) (KN λi j=>.bl (decide (j < i))):=KP λ_ _ _ _ _ _ _ q=>gt_int q
def Zx:qp X (compareOp .Lt) (λx y H Q=>∃ i j,x=.str i/\y=.str j/\Q (.bl (decide (i.cps.toList < j.cps.toList))) H):=by
 intro pins s σ H x y v u Q I rx ry h;obtain ⟨i,j,rfl,rfl,q⟩:=h;obtain ⟨t,rfl⟩:=rx;obtain ⟨t',rfl⟩:=ry;exact lt_str (mj I q rfl)
def KZ:qp X (compareOp .Is) (λx y H Q=>y=.non/\Q (.bl (decide (x=.non))) H):=by
 intro pins s σ H x y v u Q I rx ry h;obtain ⟨rfl,q⟩:=h;cases ry;refine is_none_gen (mj I q ?_)
 cases x<;>first
  | (cases rx;rfl)
  | (obtain ⟨t,rfl⟩:=rx;rfl)
def Ws:qp X (compareOp .IsNot) (λx y H Q=>y=.non/\Q (.bl (!decide (x=.non))) H):=by
 intro pins s σ H x y v u Q I rx ry h;obtain ⟨rfl,q⟩:=h;cases ry;refine isnot_none_gen (mj I q ?_)
 cases x<;>first
  | (cases rx;rfl)
  | (obtain ⟨t,rfl⟩:=rx;rfl)
def zu (b:Expr){op:CmpOp}(h:op≠.In:=by decide)(h2:op≠.NotIn:=by decide):behindInMarks op b=false:=by
 have e1:(op == CmpOp.In)=false:=by cases op<;>first | rfl | exact absurd rfl h
 have e2:(op == CmpOp.NotIn)=false:=by cases op<;>first | rfl | exact absurd rfl h2
 cases b<;>simp [behindInMarks,e1,e2]
def Wt {op:CmpOp}{r:R2}(ho:qp X (compareOp op) r)(ha:PE X a ta)(hb:PE X b tb)(hm:behindInMarks op b=false):PE X (.Compare a [op] [b] pos) (GH r ta tb):=by
 intro pins s σ H Q I h;exact wpAny_Compare1 (KO ha hb I h λv u s2 x y H2 I2 rx ry q=>ho pins s2 σ H2 x y v u Q I2 rx ry q) hm
def VZ (t:TE):TT:=λσ H Q=>t σ H λx H'=>∃ k,x=.bl k/\Q k H'
def Wu {op:CmpOp}{r:R2}(ho:qp X (compareOp op) r)(ha:PE X a ta)(hb:PE X b tb)(hm:behindInMarks op b=false):PT X (.Compare a [op] [b] pos) (VZ (GH r ta tb)):=by
 intro pins s σ H Q I h
 refine wpAny_isTrue_Compare1 (jx (ha pins s σ H _ I h) λv s1 ⟨x,H1,I1,r1,q1⟩=>jx (hb pins s1 σ H1 _ I1 q1) λu s2 ⟨y,H2,I2,r2,q2⟩ =>
  jx (ho pins s2 σ H2 x y v u _ I2 r1 r2 q2) λc s3 ⟨z,H3,I3,r3,k,e,q3⟩ => ?_) hm
 subst e;cases r3;exact wpAny_truthy_bool ⟨H3,I3,q3⟩
def Q0 (K:W.Frag)(x:V)(H:Hp)(k:Bool):Prop :=
 match x with
 | .non=>k=false
 | .bl b=>k=b
 | .int i=>k=(i != 0)
 | .str y=>y.length<=sizeLine/\k=((y.length:Int) != 0)
 | .byt y=>y.size<=sizeLine/\k=((y.size:Int) != 0)
 | .ref p=>(∃ xs,uv K H p xs/\k = !xs.isEmpty)\/(∃ xs,uW K H p xs/\k = !xs.isEmpty)\/∃ kvs,H p=some (.dK kvs)/\k = !kvs.isEmpty
 | _=>False
def t5 {κ:Type}{kvs:List (κ×V)}{vs:List (κ×Value)}(r:KV kvs vs):(!vs.isEmpty) = !kvs.isEmpty:=by
 cases r<;>rfl
def mn {xs:List V}{its:List Value}(r:zJ xs its):(!its.toArray.isEmpty) = !xs.isEmpty:=by
 cases r<;>simp
def fG:(sizeLine:Nat) < 2 ^ 63:=by rw [sizeLine_eq];decide
def Q3:Uy X (λx H Q=>∃ k,Q0 X.K x H k/\Q k H):=by
 intro pins s σ H x v Q I rx h;obtain ⟨k,e,q⟩:=h;have hl:=fG;have hs:sizeLine=16777216:=sizeLine_eq
 cases x with
 | non =>
  cases rx;have e':k=false:=e;subst e';exact truthy_none ⟨H,I,q⟩
 | bl b =>
  cases rx;have e':k=b:=e;subst e';exact wpAny_truthy_bool ⟨H,I,q⟩
 | int i =>
  obtain ⟨t,rfl⟩:=rx;have e':k=(i != 0):=e;subst e';exact PySem.P.truthy_int ⟨H,I,q⟩
 | str y =>
  obtain ⟨t,rfl⟩:=rx;obtain ⟨hy,e'⟩:y.length<=sizeLine/\k=((y.length:Int) != 0):=e;subst e';exact PySem.P.truthy_str (by omega) ⟨H,I.tok _,q⟩
 | byt y =>
  obtain ⟨t,rfl⟩:=rx;obtain ⟨hy,e'⟩:y.size<=sizeLine/\k=((y.size:Int) != 0):=e;subst e';exact W.truthy_bytes (by omega) ⟨H,I.tok _,q⟩
 | ref p =>
  cases rx;have e':(∃ xs,uv X.K H p xs/\k = !xs.isEmpty)\/(∃ xs,uW X.K H p xs/\k = !xs.isEmpty)\/∃ kvs,H p=some (.dK kvs)/\k = !kvs.isEmpty:=e
  rcases e' with ⟨xs,hx,e'⟩ | ⟨xs,hx,e'⟩ | ⟨kvs,hx,e'⟩
  ·subst e'
   obtain ⟨its,r,pl,hz⟩:=I.list hx;have hlen:=r.length;exact wpAny_truthy_list pl.isList (by simp only [List.size_toArray];omega) ⟨H,I.tok _,by rw [mn r];exact q⟩
  ·subst e'
   obtain ⟨its,r,pl,hz⟩:=I.tuple hx;have hlen:=r.length;exact truthy_tuple pl (by simp only [List.size_toArray];omega) ⟨H,I.tok _,by rw [mn r];exact q⟩
  ·subst e'
   obtain ⟨hz,hS,vs,r,m⟩:kvs.length<=sizeLine/\(p == sysModules)=false/\∃ vs,KV kvs vs/\s.heap.DictOf (j3 X.prog X.w) p vs:=I.hok p _ hx;have hlen:kvs.length=vs.length:=Paired.length r;exact wpAny_truthy_dict hS m (by omega) ⟨H,I.tok _,by rw [t5 r];exact q⟩
 | _=>exact (show False from e).elim
def JY (ha:PE X a ta)(he:∀ whole,isTrue a X.env whole=(do let v <- whole;standAt a.pos;holding [v] (truthy v))) :
  PT X a (λσ H Q=>ta σ H λx H'=>∃ k,Q0 X.K x H' k/\Q k H'):=by
 intro pins s σ H Q I h;exact isTrue_plain (jx (ha pins s σ H _ I h) λv s1 ⟨x,H1,I1,r1,q1⟩=>Q3 pins s1 σ H1 x v Q I1 r1 q1) (he _)
def t6:qp X (binaryOp .Add) (λx y H Q=>∃ i j,x=.str i/\y=.str j/\i.length + j.length<=sizeLine/\Q (.str (i ++ j)) H):=by
 intro pins s σ H x y v u Q I rx ry h;obtain ⟨i,j,rfl,rfl,hz,q⟩:=h;obtain ⟨t,rfl⟩:=rx;obtain ⟨t',rfl⟩:=ry;exact add_str (λt' tk=>⟨.str (i ++ j),H,I.tok _,⟨_,rfl⟩,q⟩) hz
def mq {x:V}{us:List Value}(r:zJ [x] us):∃ u,us=[u]/\RelV x u:=by
 cases r with
 | cons r1 r2=>cases r2;exact ⟨_,rfl,r1⟩
def GO {x y:V}{us:List Value}(r:zJ [x,y] us):∃ u w',us=[u,w']/\RelV x u/\RelV y w':=by
 cases r with
 | cons r1 r2 =>
  cases r2 with
  | cons r3 r4=>cases r4;exact ⟨_,_,rfl,r1,r3⟩
def dt:ke X (.type "str") (λxs H Q=>∃ i,xs=[.int i]/\i.natAbs.log2 < 1920/\Q (.str (toString i)) H):=by
 intro pins s σ H xs us Q I r h;obtain ⟨i,rfl,hz,q⟩:=h;obtain ⟨u,rfl,t,rfl⟩:=mq r;exact PySem.P.str_of_int hz ⟨.str _,H,I.tok _,⟨_,rfl⟩,q⟩
structure t7 (h:Heap) (x dx C:Addr) (mA:Str->Option Value):Prop where
 obj:h.get? x=some (W.instObj C dx)
 ns:h.Ns1 dx mA
 ne:dx≠x
def Zy {h:Heap}{dx:Addr}{mA:Str->Option Value}(n:h.Ns1 dx mA):∃ od,h.get? dx=some od/\∀ name,W.lookIn name od=some (mA name):=by
 obtain ⟨o,es,ep,ho,hd,hk,_,hm⟩:=n;refine ⟨o,ho,λname => ?_⟩;have e:=hm name;unfold nsFind findBy at e;rw [<- Array.find?_toList] at e;unfold W.lookIn;rw [hd];dsimp only
 split
 ·rename_i y q
  rw [q] at e;exact congrArg some e
 ·rename_i q
  rw [q] at e
  have a:es.toList.any (·.refKey)=false:=by
   rw [List.any_eq_false];intro y hy;obtain ⟨z,t,hkey⟩:=hk y (Array.mem_toList_iff.mp hy);simp [DictEntry.refKey,hkey]
  have a':¬ es.toList.any (·.refKey)=true:=by rw [a];exact Bool.false_ne_true
  rw [if_neg a'];exact congrArg some e
def t7.look {h:Heap}{x dx C:Addr}{mA:Str->Option Value}(I:t7 h x dx C mA):∃ od,W.InstAt h x (W.instObj C dx) C (some od)/\∀ name,W.lookIn name od=some (mA name) :=
 let ⟨od,ho,hl⟩:=Zy I.ns
 ⟨od,⟨I.obj,rfl,rfl,ho⟩,hl⟩
section
variable {prog:Program}{w:World}{A:Around}{E:Value->Shared->Prop}{s:Shared}{K:W.Frag}{x dx C f:Addr}{mA:Str->Option Value}{name:Str}{v:Value}
theorem qr {expr:Bool}{Q:Value->Shared->Prop}(X:K.In s.heap)(I:t7 s.heap x dx C mA)(hg:W.plainGet K C name=true)(hh:W.hasDictIn K C=true)
  (ha:W.findIn K (.ref C) name=some none) (hv:mA name=some v) (hv':W.handedIn v=true) (h:Q v { s with toks:=s.toks + 1 }) :
  wpAny (model prog w) A (getAttr (.ref x) name expr) Q E s:=by
 obtain ⟨od,J,hl⟩:=I.look;exact W.get_value X J (W.plainGet_of hg).1 (W.findObj_own hh ha rfl (by rw [hl,hv])) hv' h
theorem JZ {pl:Sem Bool}{Q:Value×List Value->Shared->Prop}(X:K.In s.heap)(I:t7 s.heap x dx C mA)(hg:W.plainGet K C name=true)
  (hf:W.findIn K (.ref C) name=some (some (.ref f))) (ht:W.isFn K (.ref f)=true) (hv:mA name=none) (h:Q (.ref f,[.ref x]) s) :
  wpAny (model prog w) A (getMethod (.ref x) name pl) Q E s:=by
 obtain ⟨od,J,hl⟩:=I.look;exact W.method_fn X J (W.plainGet_of hg).1 (W.plainGet_of hg).2 hf (beq_iff_eq.mp ht) (by show (W.lookIn name od).map (·.isSome)=some false;rw [hl,hv];rfl) h
theorem Wv {ns:List Str}{Q:Unit->Shared->Prop}(X:K.In s.heap)(I:t7 s.heap x dx C mA)
  (hs:W.findIn K (.ref C) "__setattr__" = some (some (.builtin "object.__setattr__"))) (hp:W.plainOver K C=true) (ht:W.takerIn K C name=some none) (hh:W.hasDictIn K C=true)
  (hw:PySem.Within mA ns) (hsz:ns.length<=sizeLine)
  (h:∀ h',t7 h' x dx C (λy=>if y=name then some v else mA y)->Heap.SameBut dx s.heap h'->Q () { s with heap:=h',toks:=s.toks + 2 }) :
  wpAny (model prog w) A (setAttr (.ref x) name v) Q E s:=by
 obtain ⟨od,J,hl⟩:=I.look;refine W.set_plain X J hs (W.osa_open (s:={ s with toks:=s.toks + 1 }) (r:=none) X J hp ht λb => ?_);obtain ⟨cd,hc,hd'⟩:=W.any_some hh;have hx:s.heap.get? x=some ⟨.ref C,some dx,.plain,#[]⟩:=I.obj;refine wpAny_bind (wpAny_pure (wpAny_bind (wpAny_bind (wpAny_loadPart hx (wpAny_bind (W.Looks.here (s:={ s with toks:=s.toks + 1 }) (W.looks_clsIn X hc) ?_))))));rw [hd'];refine wpAny_pure (a:=some dx) (wpAny_bind (wpAny_pure (wpAny_bind ?_)));refine wpAny_nsSet1 (s:={ s with toks:=s.toks + 1 }) I.ns λh' hn2 hs2 => ?_;obtain ⟨oD,esD,epD,hoD,hdD,hcD⟩:=hn2.count (PySem.Within.cons name v hw);refine wpAny_bind (wpAny_lookBehind hoD (by rw [hdD];exact pastItsLine_dict (Nat.le_trans hcD (by rw [List.length_cons];omega))) ?_);exact wpAny_pure (h _ ⟨(hs2.2 _ (Ne.symm I.ne)).trans I.obj,hn2,I.ne⟩ hs2)
theorem Y0 {R:Result->Shared->Prop}{vs:List Value}{kw:List (Str×Value)}(X:K.In s.heap)(hm:W.makesIn K C=true)
  (hi:W.findIn K (.ref C) "__init__" = some (some (.ref f))) (hf:W.typeIn K (.ref f)=some (.type "function"))
  (h:codeAny (model prog w) (A.under (.builtin "type.__call__" ⟨.ref C :: vs,kw⟩)) (.call (.ref f) ⟨.ref (s.heap.objs.size + 1) :: vs,kw⟩) (W.InitBack (s.heap.objs.size + 1) R)
   { s with heap:=(s.heap.push W.emptyDict).push (W.instObj C s.heap.objs.size) }) :
  codeAny (model prog w) A (.call (.ref C) ⟨vs,kw⟩) R s:=by
 obtain ⟨hh,g,d,t,os⟩:=s;exact W.make_core (W.makes_of X hm) (W.looks_findIn X hi) (λself=>W.bind_fn X self hf) (.inl rfl) h
end
def wq (f:Str)(v:V):List (Str×V)->List (Str×V)
 | []=>[(f,v)]
 | (g,x) :: r=>if g=f then (g,v) :: r else (g,x) :: wq f v r
def uX (f g:Str)(v:V):∀ fs:List (Str×V),(wq f v fs).lookup g=if g=f then some v else fs.lookup g
 | []=>by
  show List.lookup g [(f,v)]=_
  by_cases h:g=f
  ·have hb:(g == f)=true:=beq_iff_eq.mpr h
   simp only [List.lookup,hb,if_pos h]
  ·have hb:(g == f)=false:=beq_eq_false_iff_ne.mpr h
   simp only [List.lookup,hb,if_neg h]
 | (k,x) :: r=>by
  have ih:=uX f g v r;rw [show wq f v ((k,x) :: r)=(if k=f then (k,v) :: r else (k,x) :: wq f v r) from rfl]
  by_cases hk:k=f
  ·rw [if_pos hk]
   by_cases h:g=k
   ·have hb:(g == k)=true:=beq_iff_eq.mpr h
    simp only [List.lookup,hb,if_pos (h.trans hk)]
   ·have hb:(g == k)=false:=beq_eq_false_iff_ne.mpr h
    simp only [List.lookup,hb,if_neg (λe:g=f=>h (e.trans hk.symm))]
  ·rw [if_neg hk]
   by_cases h:g=k
   ·have hb:(g == k)=true:=beq_iff_eq.mpr h
    simp only [List.lookup,hb,if_neg (λe:g=f=>hk (h.symm.trans e))]
   ·have hb:(g == k)=false:=beq_eq_false_iff_ne.mpr h
    simp only [List.lookup,hb];exact ih
def uy (f:Str)(v:V):∀ fs:List (Str×V),f∈(wq f v fs).map (·.1)/\∀ g,g∈fs.map (·.1)->g∈(wq f v fs).map (·.1)
 | []=>⟨by simp [wq],λg h=>by simp at h⟩
 | (k,x) :: r=>by
  obtain ⟨i1,i2⟩:=uy f v r;rw [show wq f v ((k,x) :: r)=(if k=f then (k,v) :: r else (k,x) :: wq f v r) from rfl]
  by_cases hk:k=f
  ·rw [if_pos hk]
   subst hk;exact ⟨by simp,λg h=>by simpa using h⟩
  ·rw [if_neg hk]
   refine ⟨?_,λg h => ?_⟩
   ·rw [List.map_cons]
    exact List.mem_cons_of_mem _ i1
   ·rw [List.map_cons] at h ⊢
    rcases List.mem_cons.mp h with e | e
    ·exact List.mem_cons.mpr (.inl e)
    ·exact List.mem_cons_of_mem _ (i2 g e)
def uY (f:Str)(v:V):∀ fs:List (Str×V),(wq f v fs).length<=fs.length + 1
 | []=>by simp [wq]
 | (k,x) :: r=>by
  have ih:=uY f v r;rw [show wq f v ((k,x) :: r)=(if k=f then (k,v) :: r else (k,x) :: wq f v r) from rfl]
  by_cases hk:k=f
  ·rw [if_pos hk,List.length_cons,List.length_cons];omega
  ·rw [if_neg hk,List.length_cons,List.length_cons];omega
def qZ.some_of {v:V}{o:Option Value}(r:qZ (some v) o):∃ u,o=some u/\RelV v u:=by
 cases o with
 | none=>exact (show False from r).elim
 | some u=>exact ⟨u,rfl,r⟩
def qZ.none_of {o:Option Value}(r:qZ none o):o=none:=by
 cases o with
 | none=>rfl
 | some u=>exact (show False from r).elim
def Zz {v:V}{u:Value}(r:RelV v u):W.handedIn u=true:=by
 cases v with
 | non=>cases (show u=Value.none from r);rfl
 | bl b=>cases (show u=Value.bool b from r);rfl
 | int i=>obtain ⟨t,e⟩:=(show ∃ t,u=Value.int i t from r);cases e;rfl
 | str x=>obtain ⟨t,e⟩:=(show ∃ t,u=Value.str x t from r);cases e;rfl
 | byt b=>obtain ⟨t,e⟩:=(show ∃ t,u=Value.bytes b t from r);cases e;rfl
 | flt b=>obtain ⟨t,e⟩:=(show ∃ t,u=Value.float b t from r);cases e;rfl
 | ref a=>cases (show u=Value.ref a from r);rfl
 | ty n=>cases (show u=Value.type n from r);rfl
def nV (hok:gd P w H h)(e:H a=some (.ins C dx fs)):∃ mA,t7 h a dx C mA/\(∀ f,qZ (fs.lookup f) (mA f))/\PySem.Within mA (fs.map (·.1))/\fs.length<=1000/\H dx=some (.own a):=by
 obtain ⟨d,z,ne,ob,mA,n,r,q⟩:=(show jd P w H h a (.ins C dx fs) from hok a _ e)
 exact ⟨mA,⟨ob,n,ne⟩,r,q,z,d⟩
structure k7 (K:W.Frag) (C:Addr):Prop where
 pg:W.plainGet K C Str.empty=true
 hd:W.hasDictIn K C=true
 po:W.plainOver K C=true
 sa:W.findIn K (.ref C) "__setattr__" = some (some (.builtin "object.__setattr__"))
def k7.get {K:W.Frag}{C:Addr}(c:k7 K C)(f:Str):W.plainGet K C f=true:=c.pg
def zK (K:W.Frag)(C:Addr)(f:Str):Prop:=W.findIn K (.ref C) f=some none
def zK.taker {K:W.Frag}{C:Addr}{f:Str}(n:zK K C f):W.takerIn K C f=some none:=by
 unfold W.takerIn;rw [show W.findIn K (.ref C) f=some none from n]
 rfl
structure vf (K:W.Frag) (C:Addr) (m:Str) (f:Addr):Prop where
 at_:W.findIn K (.ref C) m=some (some (.ref f))
 fn:W.isFn K (.ref f)=true
 kp:W.keepIn K (.ref f)=true
def t8 {b:Bool}{Q:Value->Shared->Prop}(I:zk X pins σ H s)(e:H a=some (.ins C dx fs))(c:k7 X.K C)(n:zK X.K C f)(l:fs.lookup f=some v)
  (h:∀ u s',zk X pins σ H s'->RelV v u->Q u s'):wpAny (model X.prog X.w) A (getAttr (.ref a) f b) Q E s:=by
 obtain ⟨mA,O,r,_,_,_⟩:=nV I.hok e;obtain ⟨u,hu,ru⟩:=qZ.some_of (v:=v) (o:=mA f) (by rw [<- l];exact r f);exact qr I.kIn O (c.get f) c.hd n hu (Zz ru) (h u _ (I.tok _) ru)
def mw {m:Str}{g:Addr}{pl:Sem Bool}{Q:Value×List Value->Shared->Prop}(I:zk X pins σ H s)(e:H a=some (.ins C dx fs))(c:k7 X.K C)(k:vf X.K C m g)(l:fs.lookup m=none)
  (h:Q (.ref g,[.ref a]) s):wpAny (model X.prog X.w) A (getMethod (.ref a) m pl) Q E s:=by
 obtain ⟨mA,O,r,_,_,_⟩:=nV I.hok e;have hn:mA m=none:=qZ.none_of (by rw [<- l];exact r m);exact JZ I.kIn O (c.get m) k.at_ k.fn hn h
def t9 {y:V}{u:Value}{Q:Unit->Shared->Prop}(I:zk X pins σ H s)(e:H a=some (.ins C dx fs))(c:k7 X.K C)(n:zK X.K C f)(hl:fs.length < 1000)(ry:RelV y u)
  (h:∀ s',zk X pins σ (zW H a (.ins C dx (wq f y fs))) s'->Q () s'):wpAny (model X.prog X.w) A (setAttr (.ref a) f u) Q E s:=by
 obtain ⟨mA,O,r,wi,_,ho⟩:=nV I.hok e;have hz:(fs.map (·.1)).length<=sizeLine:=by rw [List.length_map,sizeLine_eq];omega
 refine Wv I.kIn O c.sa c.po n.taker c.hd wi hz λh' O' sb=>h _ ?_;have hd:∃ o,h'.get? dx=some o:=let ⟨o,_,_,e',_⟩:=O'.ns;⟨o,e'⟩
 refine I.write (x:=a) (e:=dx) (by rw [e];exact True.intro) (.inr ho) (λb q hb z=>(sb.2 b hb).trans z) hd ?_;refine ⟨by rw [zd O.ne];exact ho,?_,O.ne,O'.obj,_,O'.ns,λg => ?_,λg hg => ?_⟩
 ·have:=uY f y fs;omega
 ·show qZ ((wq f y fs).lookup g) (if g=f then some u else mA g)
  rw [uX]
  by_cases q:g=f
  ·rw [if_pos q,if_pos q];exact ry
  ·rw [if_neg q,if_neg q];exact r g
 ·by_cases q:g=f
  ·rw [q];exact (uy f y fs).1
  ·refine (uy f y fs).2 g (wi g λz=>hg ?_)
   show (if g=f then some u else mA g)=none;rw [if_neg q];exact z
def zk.made (I:zk X pins σ H s):zk X pins σ (zW (zW H s.heap.objs.size (.own (s.heap.objs.size + 1))) (s.heap.objs.size + 1) (.ins C s.heap.objs.size []))
  { s with heap:=(s.heap.push W.emptyDict).push (W.instObj C s.heap.objs.size) }:=by
 have e1:(s.heap.push W.emptyDict).get? s.heap.objs.size=some W.emptyDict:=Heap.get?_push_size s.heap rfl
 have e2:((s.heap.push W.emptyDict).push (W.instObj C s.heap.objs.size)).get? (s.heap.objs.size + 1)=some (W.instObj C s.heap.objs.size):=by
  have:=Heap.get?_push_size (s.heap.push W.emptyDict) (o:=W.instObj C s.heap.objs.size) rfl
  rwa [Heap.size_push] at this
 have e3:(s.heap.push W.emptyDict).Ns s.heap.objs.size (λ_=>none):=⟨W.emptyDict,#[],_,e1,rfl,(λe he=>absurd he (by simp)),λ_=>rfl⟩
 have I1:=I.laid (a:=s.heap.objs.size) (o:=.own (s.heap.objs.size + 1)) (h':=s.heap.push W.emptyDict) (t':=s.toks) (λb u q=>Heap.get?_push_of_some _ q) (Nat.le_refl _) ⟨_,e1⟩;refine I1.laid (a:=s.heap.objs.size + 1) (o:=.ins C s.heap.objs.size []) (t':=s.toks) (λb u q=>Heap.get?_push_of_some _ q) (Nat.le_of_eq (Heap.size_push _ _)) ?_;have ne:s.heap.objs.size≠s.heap.objs.size + 1:=Nat.ne_of_lt (Nat.lt_succ_self _);refine ⟨by rw [zd ne,zh],Nat.zero_le _,ne,e2,λ_=>none,(Heap.Ns1.of_empty e3).at λo q=>Heap.get?_push_of_some _ q,λ_=>True.intro,λy hy=>absurd rfl hy⟩
def Ww {prog:Program}{w:World}{env:Env}{e:Expr}{f:Str}{pos:Pos}{s:Shared}{Q:Value->Shared->Prop}(hb:attributeBase e f env (eval e env)=eval e env)
  (h:wpAny (model prog w) A (eval e env) (λo s₁=>wpAny (model prog w) A (getAttr o f true) Q E s₁) E s):wpAny (model prog w) A (eval (.Attribute e f pos) env) Q E s :=
 Attribute_any_ h (by rw [arm_eval_Attribute,hb])
def tf (K:W.Frag)(ta:TE)(f:Str):TE:=λσ H Q=>ta σ H λx H1=>∃ a C dx fs v,x=.ref a/\H1 a=some (.ins C dx fs)/\k7 K C/\zK K C f/\fs.lookup f=some v/\Q v H1
def Wx (K:W.Frag)(ta tv:TE)(f:Str):TS:=λD σ H=>tv σ H λy H1=>ta σ H1 λx H2=>∃ a C dx fs,x=.ref a/\H2 a=some (.ins C dx fs)/\k7 K C/\zK K C f/\fs.length < 1000 /\
 D.nx σ (zW H2 a (.ins C dx (wq f y fs)))
def tm (he:PE X e ta)(hb:attributeBase e f X.env (eval e X.env)=eval e X.env):PE X (.Attribute e f pos) (tf X.K ta f):=by
 intro pins s σ H Q I h;refine Ww hb (jx (he pins s σ H _ I h) λu s1 ⟨x,H1,I1,rx,a,C,dx,fs,v,ex,ea,c,n,l,q⟩ => ?_);subst ex;obtain rfl:u=Value.ref a:=rx;exact t8 I1 ea c n l λu' s2 I2 ru=>⟨v,H1,I2,ru,q⟩
def tq (ha:PE X o ta)(hv:PE X value tv)(hs:swapsWith value (some (.Attribute o f pos')) pos.line X.env=pure false):PS X (.Assign [.Attribute o f pos'] value pos) (Wx X.K ta tv f):=by
 intro pins s σ H D I h;refine plainObj_wpAny_Assign_Attribute (jx (hv pins s σ H _ I h) λu s1 ⟨y,H1,I1,ry,q⟩=>jx (ha pins s1 σ H1 _ I1 q) λov s2 ⟨x,H2,I2,rx,a,C,dx,fs,ex,ea,c,n,l,q2⟩ => ?_) hs;subst ex;obtain rfl:ov=Value.ref a:=rx;exact t9 I2 ea c n l ry λs3 I3=>⟨σ,_,I3,q2⟩
inductive uz (K:W.Frag) (H:Hp):V->Value->Prop where
 | non:uz K H .non (.type "NoneType")
 | bl (x:Bool):uz K H (.bl x) (.type "bool")
 | int (i:Int):uz K H (.int i) (.type "int")
 | str (x:Str):uz K H (.str x) (.type "str")
 | flt (x:UInt64):uz K H (.flt x) (.type "float")
 | lst {a:Addr} {xs:List V} (e:H a=some (.lst xs)):uz K H (.ref a) (.type "list")
 | frz {a:Addr} {o:Obj} {xs:List V} (e:H a=some (.frz o (.lst xs))):uz K H (.ref a) (.type "list")
 | tup {a:Addr} {xs:List V} (e:H a=some (.tup xs)):uz K H (.ref a) (.type "tuple")
 | dK {a:Addr} {kvs:List (Key×V)} (e:H a=some (.dK kvs)):uz K H (.ref a) (.type "dict")
 | dT {a:Addr} {kvs:List (List Key×V)} (e:H a=some (.dT kvs)):uz K H (.ref a) (.type "dict")
 | ins {a C dx:Addr} {fs:List (Str×V)} (e:H a=some (.ins C dx fs)) (cl:k7 K C) (ha:W.findIn K (.ref C) "__class__" = some (some (.builtin "object.__class__")))
   (hn:W.specialIn K (.builtin "object.__class__") "__get__" = some (some (.builtin "getset_descriptor.__get__"))) (htk:W.takesIn K (.builtin "object.__class__")=some true)
   (hm:W.mroIn K C (.type "object")=some true):uz K H (.ref a) (.ref C)
def ZA {x:V}{u t:Value}(I:zk X pins σ H s)(rx:RelV x u)(ty:uz X.K H x t)(e:W.kitOne X.K t c=some b)(h:∀ tk,Q (.bool b) { s with toks:=tk }) :
  wpAny (model X.prog X.w) A (call (.builtin "isinstance") [u,c]) Q E s:=by
 cases ty with
 | non=>cases (show u=Value.none from rx);exact W.kia_one W.kitx_none I.kIn True.intro e (λz=>nomatch z) h
 | bl y=>cases (show u=Value.bool y from rx);exact W.kia_one W.kitx_bool I.kIn True.intro e (λz=>nomatch z) h
 | int i=>obtain ⟨t,q⟩:=(show ∃ t,u=Value.int i t from rx);cases q;exact W.kia_one W.kitx_int I.kIn True.intro e (λz=>nomatch z) h
 | str y=>obtain ⟨t,q⟩:=(show ∃ t,u=Value.str y t from rx);cases q;exact W.kia_one W.kitx_str I.kIn True.intro e (λz=>nomatch z) h
 | flt y=>obtain ⟨t,q⟩:=(show ∃ t,u=Value.float y t from rx);cases q;exact W.kia_one W.kitx_float I.kIn True.intro e (λz=>nomatch z) h
 | @lst a xs ea =>
  cases (show u=Value.ref a from rx);obtain ⟨_,_,n,_,h1⟩:=(show jd X.prog X.w H s.heap a (.lst xs) from I.hok a _ ea)
  exact W.kia_one W.kitx_list I.kIn ⟨_,h1,rfl⟩ e (λz=>nomatch z) h
 | @frz a ob xs ea =>
  cases (show u=Value.ref a from rx);obtain ⟨_,_,_,n,_,h1⟩:=(show jd X.prog X.w H s.heap a (.frz ob (.lst xs)) from I.hok a _ ea)
  exact W.kia_one W.kitx_list I.kIn ⟨_,h1,rfl⟩ e (λz=>nomatch z) h
 | @tup a xs ea =>
  cases (show u=Value.ref a from rx);obtain ⟨_,_,_,p⟩:=(show jd X.prog X.w H s.heap a (.tup xs) from I.hok a _ ea)
  obtain ⟨o,h1,h2,_⟩:=p;exact W.kia_one W.kitx_tuple I.kIn ⟨o,h1,h2⟩ e (λz=>nomatch z) h
 | @dK a kvs ea =>
  cases (show u=Value.ref a from rx);obtain ⟨_,_,vs,_,p⟩:=(show jd X.prog X.w H s.heap a (.dK kvs) from I.hok a _ ea)
  obtain ⟨o,es,ep,h1,h2,_⟩:=p;exact W.kia_one W.kitx_dict I.kIn ⟨o,h1,h2.1⟩ e (λz=>nomatch z) h
 | @dT a kvs ea =>
  cases (show u=Value.ref a from rx);obtain ⟨_,_,xs,_,o,es,ep,h1,h2,_⟩:=(show jd X.prog X.w H s.heap a (.dT kvs) from I.hok a _ ea)
  exact W.kia_one W.kitx_dict I.kIn ⟨o,h1,h2.1⟩ e (λz=>nomatch z) h
 | @ins a C dx fs ea cl ha hn htk hm =>
  cases (show u=Value.ref a from rx);obtain ⟨mA,O,_⟩:=nV I.hok ea;obtain ⟨od,J,_⟩:=O.look;exact W.kia_one (W.kitx_own (cl.get _) cl.hd ha hn htk hm) I.kIn J e (λz=>nomatch z) h
structure jD (k:Nat) (A:Around):Prop where
 hd:A.handled=none
 dp:A.depth + 3 * k + 5 < recursionLimit
 un:A.units + 16 * k + 200 < cLine
def jD.mono {j k:Nat}{A:Around}(r:jD k A)(h:j<=k):jD j A:=⟨r.hd,by have:=r.dp;omega,by have:=r.un;omega⟩
def jD.deeper {k:Nat}{A:Around}(r:jD (k + 1) A)(env:Env):jD k (A.deeper env) :=
 ⟨r.hd,by have:=r.dp;show A.depth + 1 + 3 * k + 5 < _;omega,by have:=r.un;show A.units + 3 + 16 * k + 200 < _;omega⟩
def tD {A:Around}{C:Addr}{us:List Value}{kw:List (Str×Value)} : (A.under (.builtin "type.__call__" ⟨.ref C :: us,kw⟩)).depth=A.depth + 1:=by
 first | rfl | simp [Around.under,Code.weight,Code.isCreation,Code.isGuard,Code.isCaller,Code.frames,Code.isFrame,guardIds]
def tE {A:Around}{C:Addr}{us:List Value}{kw:List (Str×Value)} : (A.under (.builtin "type.__call__" ⟨.ref C :: us,kw⟩)).units=A.units + 1:=by
 first | rfl | simp [Around.under,Code.cUnits,Code.frames,Code.isFrame]
def jD.make {k:Nat}{A:Around}(r:jD (k + 1) A)(C:Addr)(us:List Value)(kw:List (Str×Value)):jD k (A.under (.builtin "type.__call__" ⟨.ref C :: us,kw⟩)) :=
 ⟨r.hd,by have:=r.dp;rw [tD];omega,by have:=r.un;rw [tE];omega⟩
def jD.depth {k:Nat}{A:Around}(r:jD k A):A.depth < recursionLimit:=by have:=r.dp;omega
def jD.units {k:Nat}{A:Around}(r:jD k A):A.units + 64 < cLine:=by have:=r.un;omega
def Wy:TA:=λ_ H Q=>Q [] H
def Y1 (ta:TE)(tr:TA):TA:=λσ H Q=>ta σ H λx H1=>tr σ H1 λxs H2=>Q (x :: xs) H2
def qu:PA X [] Wy:=λ_ _ _ _ H Q I h=>Calls.spliced_nil ⟨[],H,I,.nil,h⟩
def vb (ha:PE X e te)(hr:PA X es t)(hs:starEach (e :: es) X.env=(false,eval e X.env) :: starEach es X.env:=by rfl):PA X (e :: es) (Y1 te t):=by
 intro pos pins s σ H Q I h;rw [hs];show wpAny _ _ (spliced ((false,eval e X.env) :: backTo pos (starEach es X.env))) _ _ s;refine Calls.spliced_cons (jx (ha pins s σ H _ I h) λu s1 ⟨x,H1,I1,r1,q1⟩ => ?_);exact jx (hr pos pins s1 σ H1 _ I1 q1) λus s2 ⟨xs,H2,I2,r2,q2⟩=>⟨x :: xs,H2,I2,.cons r1 r2,q2⟩
def Uz (t:TA):TE:=λσ H Q=>t σ H λxs H1=>xs.length<=sizeLine/\∀ p,H1 p=none->Q (.ref p) (zW H1 p (.tup xs))
def UA (t:TA):TE:=λσ H Q=>t σ H λxs H1=>xs.length<=sizeLine/\∀ p,H1 p=none->Q (.ref p) (zW H1 p (.lst xs))
def Q4 {x1}(h:PA X es t):PE X (.Tuple es x1 pos) (Uz t):=by
 intro pins s σ H Q I hq;refine wpAny_Tuple_spliced (jx (h pos pins s σ H _ I hq) λus s1 ⟨xs,H1,I1,r,z,q⟩=>⟨by rw [<- r.length];exact z,?_⟩);have hf:H1 s1.heap.objs.size=none:=I1.hok.fresh (Nat.le_refl _);refine ⟨.ref s1.heap.objs.size,zW H1 s1.heap.objs.size (.tup xs),I1.laid (t':=s1.toks) (λb u e=>Heap.get?_push_of_some _ e) (Nat.le_refl _) ?_,rfl,q _ hf⟩;exact ⟨z,us,r,⟨_,Heap.get?_push_size _ rfl,rfl,_,rfl⟩⟩
def Q5 (h:PA X es t):PE X (.List es pos) (UA t):=by
 intro pins s σ H Q I hq;refine wpAny_List_spliced (jx (h pos pins s σ H _ I hq) λus s1 ⟨xs,H1,I1,r,z,q⟩=>⟨by rw [<- r.length];exact z,?_⟩);have hf:H1 s1.heap.objs.size=none:=I1.hok.fresh (Nat.le_refl _);refine ⟨.ref s1.heap.objs.size,zW H1 s1.heap.objs.size (.lst xs),I1.laid (t':=s1.toks) (λb u e=>Heap.get?_push_of_some _ e) (Nat.le_refl _) ?_,rfl,q _ hf⟩;exact ⟨z,us,0,r,Heap.get?_push_size _ rfl⟩
abbrev Sp:=List V->Hp->VK->XK->Prop
abbrev Wz:=List Env->Hp->Shared->XK->Value->Shared->Prop
structure b8 (P:Program) (w:World) (K:W.Frag) (mg:Str->Option Value) (base:Heap) (A:Around) (outer:List Env) (s:Shared) (H:Hp):Prop where
 frames:A.frames=some outer
 mod:Mod K mg base
 bs:∀ b o,base.get? b=some o->s.heap.get? b=some o/\H b=none
 bsz:base.objs.size<=s.heap.objs.size
 funs:s.heap.FunFrames base outer
 frf:∀ b∈r0 outer,H b=none
 tab:H tabP=some aS
 hok:gd P w H s.heap
 bare:AllBare s.gens
def CE (outer:List Env)(P:Program)(w:World)(H:Hp)(s:Shared)(Q:VK)(u:Value)(s':Shared):Prop :=
 ∃ v H',s'.os=s.os/\AllBare s'.gens/\Un (r0 outer) [] H H' s.heap s'.heap/\gd P w H' s'.heap/\RelV v u/\Q v H'
def CR (CX:Wz)(outer:List Env)(P:Program)(w:World)(H:Hp)(s:Shared)(Q:VK)(E:XK)(r:Result)(s':Shared):Prop :=
 match r with
 | .ok (.ret u)=>CE outer P w H s Q u s'
 | .ok _=>False
 | .error e=>CX outer H s E e s'
structure vg (P:Program) (w:World) (K:W.Frag) (mg:Str->Option Value) (base:Heap) (CX:Wz) (k:Nat) (f:Addr) (fd:FuncData) (ps:List Str) (sp:Sp):Prop where
 len:∀ vs H Q E,sp vs H Q E->vs.length=ps.length
 run:∀ (A:Around) (outer:List Env) (s:Shared) (H:Hp) (args:Args) (us:List Value) (vs:List V) (Q:VK) (E:XK),jD k A->b8 P w K mg base A outer s H->BindsTo s fd args (ps.zip us)->zJ vs us->sp vs H Q E ->
  codeAny (model P w) A (.call (.ref f) args) (CR CX outer P w H s Q E) s
def vg.imp {P:Program}{w:World}{K:W.Frag}{mg:Str->Option Value}{base:Heap}{CX:Wz}{k:Nat}{f:Addr}{fd:FuncData}{ps:List Str}{sp sp':Sp}(F:vg P w K mg base CX k f fd ps sp)
  (h:∀ vs H Q E,sp' vs H Q E->sp vs H Q E):vg P w K mg base CX k f fd ps sp' :=
 ⟨λvs H Q E q=>F.len vs H Q E (h _ _ _ _ q),λA outer s H args us vs Q E hr he hb hv hs=>F.run A outer s H args us vs Q E hr he hb hv (h _ _ _ _ hs)⟩
def b8.make {P:Program}{w:World}{K:W.Frag}{mg:Str->Option Value}{base:Heap}{A:Around}{outer:List Env}{s:Shared}{H:Hp}(e:b8 P w K mg base A outer s H)(C:Addr)(us:List Value)(kw:List (Str×Value)) :
  b8 P w K mg base (A.under (.builtin "type.__call__" ⟨.ref C :: us,kw⟩)) outer s H:=⟨by first | exact e.frames | (simpa [Around.under,Code.envs,Code.isFrame,pushEnvs] using e.frames),e.mod,e.bs,e.bsz,e.funs,e.frf,e.tab,e.hok,e.bare⟩
def zk.env0 (I:zk X pins σ H s):b8 X.prog X.w X.K X.mg X.base X.A X.stack s H :=
 ⟨I.ok.frames,I.ok.mod,I.bs,Nat.le_trans I.ok.bsz I.sz,I.stack,I.stkFree,I.tab,I.hok,I.bare⟩
def zk.after {Q:VK}{u:Value}(I:zk X pins σ H s)(h:CE X.stack X.prog X.w H s Q u s'):EP X pins σ Q u s':=by
 obtain ⟨v,H',os,bare,un,hok,r,q⟩:=h;obtain ⟨hh,g,d,t,os'⟩:=s';obtain rfl:os'=s.os:=os;exact ⟨v,H',I.call (h':=hh) (g':=g) (d':=d) (t':=t) (ch:=[]) un hok bare (λb z=>absurd z (by simp)),r,q⟩
def kf (K:W.Frag)(fd:FuncData)(ps:List Str)(ds:List Value):Prop :=
 ∀ (s:Shared) (us:List Value),K.In s.heap->(us ++ ds).length=ps.length->BindsTo s fd ⟨us,[]⟩ (ps.zip (us ++ ds))
def kf.all {K:W.Frag}{fd:FuncData}{ps:List Str}(h:∀ us:List Value,us.length=ps.length->bindArgs fd ⟨us,[]⟩=pure (ps.zip us)):kf K fd ps []:=λs us _ hl=>by
 rw [List.append_nil] at hl ⊢;exact .of_eq (h us hl)
structure Mk (K:W.Frag) (C f:Addr):Prop where
 makes:W.makesIn K C=true
 init:W.findIn K (.ref C) "__init__" = some (some (.ref f))
 fn:W.isFn K (.ref f)=true
 kp:W.keepIn K (.ref C)=true
structure z7 (N P:List Str) (sc:Scope):Prop where
 kind:sc.kind=.function
 co:sc.isCoroutine=false
 gen:sc.isGenerator=false
 nd:N.Nodup
 pre:N.take P.length=P
 par:∀ x∈P,sc.names.lookup x=some .local\/sc.names.lookup x=some .cell
 nofree:∀ y∈sc.names,y.2≠.free
def hX {kindOf:Str->Option NameKind}{x:Str} : ∀ {binds:List (Str×Value)} {m:Str->Option Value},(∀ v,(x,v)∉binds)->bindL kindOf binds m x=m x
 | [],_,_=>rfl
 | (n,v) :: r,m,h=>by
  unfold bindL;rw [hX λw hw=>h w (List.mem_cons_of_mem _ hw)]
  split
  ·have:x≠n:=by rintro rfl;exact h v List.mem_cons_self
   simp [this]
  ·rfl
def ee {kindOf:Str->Option NameKind}{x:Str} : ∀ {binds:List (Str×Value)} {m:Str->Option Value},(∀ v,(x,v)∉binds)->bindC kindOf binds m x=m x
 | [],_,_=>rfl
 | (n,v) :: r,m,h=>by
  unfold bindC;rw [ee λw hw=>h w (List.mem_cons_of_mem _ hw)]
  split
  ·rfl
  ·have:x≠n:=by rintro rfl;exact h v List.mem_cons_self
   simp [this]
def ef {kindOf:Str->Option NameKind}{x:Str}{v:Value} : ∀ {P:List Str} {vs:List Value} {i:Nat} {m:Str->Option Value},P.Nodup->P[i]? = some x->vs[i]? = some v->kindOf x=some .local ->
  bindL kindOf (P.zip vs) m x=some v
 | [],_,_,_,_,h,_,_=>by simp at h
 | _ :: _,[],_,_,_,_,h,_=>by simp at h
 | p :: P,w :: vs,0,m,nd,h1,h2,hk=>by
  simp at h1 h2;subst h1;subst h2;show bindL kindOf ((p,w) :: P.zip vs) m p=_;unfold bindL;rw [hX λv hv=>(List.nodup_cons.mp nd).1 (List.of_mem_zip hv).1,if_pos hk];simp
 | p :: P,w :: vs,i + 1,m,nd,h1,h2,hk=>by
  show bindL kindOf ((p,w) :: P.zip vs) m x=_;unfold bindL;exact ef (i:=i) (List.nodup_cons.mp nd).2 (by simpa using h1) (by simpa using h2) hk
def eh {kindOf:Str->Option NameKind}{x:Str}{v:Value} : ∀ {P:List Str} {vs:List Value} {i:Nat} {m:Str->Option Value},P.Nodup->P[i]? = some x->vs[i]? = some v->kindOf x≠some .local ->
  bindC kindOf (P.zip vs) m x=some v
 | [],_,_,_,_,h,_,_=>by simp at h
 | _ :: _,[],_,_,_,_,h,_=>by simp at h
 | p :: P,w :: vs,0,m,nd,h1,h2,hk=>by
  simp at h1 h2;subst h1;subst h2;show bindC kindOf ((p,w) :: P.zip vs) m p=_;unfold bindC;rw [ee λv hv=>(List.nodup_cons.mp nd).1 (List.of_mem_zip hv).1,if_neg hk];simp
 | p :: P,w :: vs,i + 1,m,nd,h1,h2,hk=>by
  show bindC kindOf ((p,w) :: P.zip vs) m x=_;unfold bindC;exact eh (i:=i) (List.nodup_cons.mp nd).2 (by simpa using h1) (by simpa using h2) hk
def start (N:List Str)(vs:List V):St:=vs.map some ++ List.replicate (N.length - vs.length) none
def pG (CX:Wz)(P:Program)(w:World)(K:W.Frag)(mg:Str->Option Value)(base:Heap)(N:List Str)(qual:Str)(scope:Scope)(f:Addr)(cd:Value)(A:Around)(outer:List Env)(s:Shared)(H:Hp)(E:XK):Cx where
 prog:=P
 w:=w
 K:=K
 mg:=mg
 base:=base
 A:=A.deeper (envOfC qual scope s.heap.objs.size f cd)
 N:=N
 s₀:=s
 H₀:=H
 env:=envOfC qual scope s.heap.objs.size f cd
 outer:=outer
 stack:=envOfC qual scope s.heap.objs.size f cd :: outer
 ex:=[]
 calm:=true
 fn:=λ_=>true
 pn:=[]
 xe:=λe s'=>wpAny (model P w) (A.deeper (envOfC qual scope s.heap.objs.size f cd)) (leaving (envOfC qual scope s.heap.objs.size f cd) e) (λ_ s''=>CX outer H s E e s'') (λe' s''=>CX outer H s E e' s'') s'
def mx {sc:Scope}{n:Nat}{x:Str}(h:sc.names.lookup x=some .cell):∃ c,(cellsFrom n sc.names []).lookup x=some c:=by
 have q:=W.cellsFrom_some sc.names n [] (.inl h);exact Option.isSome_iff_exists.mp q
def ZB {CX:Wz}{P:Program}{w:World}{K:W.Frag}{mg:Str->Option Value}{base:Heap}{N ps:List Str}{qual:Str}{scope:Scope}{f:Addr}{cd:Value}{A:Around}{outer:List Env}{s s1:Shared}{H:Hp}{E:XK}{us:List Value}{vs:List V}
  (S:z7 N ps scope) (hd:A.handled=none) (e0:b8 P w K mg base A outer s H) (hl:vs.length=ps.length) (r:zJ vs us)
  (x:InCallC s s.heap.objs.size (bindL (envOfC qual scope s.heap.objs.size f cd).kindOf (ps.zip us) λ_=>none) (cellsFrom (s.heap.objs.size + 1) scope.names []) (bindC (envOfC qual scope s.heap.objs.size f cd).kindOf (ps.zip us) λ_=>none) s1) :
  zk (pG CX P w K mg base N qual scope f cd A outer s H E) [] (start N vs) H s1:=by
 have hpl:ps.length<=N.length:=by have:=congrArg List.length S.pre;rw [List.length_take] at this;omega
 obtain ⟨h1,tk,rfl,hk⟩:=x.done;have noA:∀ b:Addr,b∉(pG CX P w K mg base N qual scope f cd A outer s H E).ex:=λb z=>absurd (show b∈([]:List Addr) from z) (by simp)
 refine ⟨⟨e0.mod,S.kind,rfl,rfl,Nat.le_refl _,λy z c h1 h2 => ?_,λy hy => ?_,λy c _ h => ?_,λ_=>hd,Around.frames_deeper e0.frames,.inr ⟨rfl,rfl⟩,λb z=>absurd z (noA b),e0.bs,e0.bsz,λb _ _=>noA b,λb z=>absurd z (noA b),e0.funs,e0.frf,e0.tab⟩,
  rfl,e0.bare,Un.kept hk,⟨_,x.toInCall.ns,λi y v h1 h2 h3 => ?_⟩,λy c h=>⟨_,x.cell y c h⟩,e0.hok.fresh (Nat.le_refl _),λy c h => ?_,λp hp=>absurd (show p∈([]:List (Addr×Obj)) from hp) (by simp),e0.hok.kept hk,?_⟩
 ·exact name_of_addr x.apart (PySem.mem_of_lookup h1) (PySem.mem_of_lookup h2)
 ·have hy:scope.names.lookup y=some .cell\/scope.names.lookup y=some .free:=hy
  rcases hy with hy | hy
  ·exact mx hy
  ·exact absurd rfl (S.nofree _ (PySem.mem_of_lookup hy))
 ·exact Nat.le_of_lt (x.above y c (PySem.mem_of_lookup h))
 ·have hi:i < vs.length:=by
   unfold start at h2
   by_cases hi:i < vs.length
   ·exact hi
   ·rw [List.getElem?_append_right (by simpa using hi)] at h2
    rw [List.getElem?_replicate] at h2
    split at h2<;>cases h2
  have ha:vs[i]? = some v:=by
   unfold start at h2;rw [List.getElem?_append_left (by simpa using hi),List.getElem?_map] at h2
   cases e:vs[i]? with
   | none=>rw [e] at h2;cases h2
   | some a=>rw [e] at h2;cases h2;rfl
  obtain ⟨u,hu,rv⟩:=r.get ha
  have hp:ps[i]? = some y:=by
   rw [<- S.pre,List.getElem?_take_of_lt (by omega)];exact h1
  have ndP:ps.Nodup:=by rw [<- S.pre];exact S.nd.sublist (List.take_sublist _ _)
  refine ⟨u,rv,?_⟩
  rcases S.par y (List.mem_of_getElem? hp) with k | k
  ·exact .inl ⟨k,ef ndP hp hu k⟩
  ·obtain ⟨c,e⟩:=mx (n:=s.heap.objs.size + 1) k
   refine .inr ⟨.inl k,c,e,?_⟩;have q:=x.cell y c e;rw [eh ndP hp hu (by show scope.names.lookup y≠_;rw [k];decide)] at q;exact q
 ·exact e0.hok.fresh (Nat.le_of_lt (x.above y c (PySem.mem_of_lookup h)))
 ·unfold start
  show _=N.length;rw [List.length_append,List.length_map,List.length_replicate];omega
def el {CX:Wz}{P:Program}{w:World}{K:W.Frag}{mg:Str->Option Value}{base:Heap}{k:Nat}{f:Addr}{name qual:Str}{params:Arguments}{body:List Stmt}{scope:Scope}{dV kV doc pm cdv ct oc:Value}{an od:Option Addr}
  {osl:Array (Option Value)} {N ps:List Str} {sp:Sp} (lk:K.lookup f=some ⟨oc,od,.func (W.fnOf name qual params body scope dV kV doc pm an cdv ct),osl⟩) (hcd:W.codeIn K cdv qual=true) (S:z7 N ps scope)
  (len:∀ vs H Q E,sp vs H Q E->vs.length=ps.length)
  (hbody:∀ (A:Around) (outer:List Env) (s:Shared) (H:Hp) (vs:List V) (Q:VK) (E:XK),jD k (A.deeper (envOfC qual scope s.heap.objs.size f cdv))->sp vs H Q E ->
   ∃ t,cX (pG CX P w K mg base N qual scope f cdv A outer s H E) body t/\t { nx:=λ_ H'=>Q .non H',rt:=Q } (start N vs) H) :
  vg P w K mg base CX (k + 1) f (W.fnOf name qual params body scope dV kV doc pm an cdv ct) ps sp:=by
 refine ⟨len,λA outer s H args us vs Q E hr e0 hb r hsp => ?_⟩;have hl:=len _ _ _ _ hsp;have KX:K.In s.heap:=e0.mod.kin.keeps λb o e=>(e0.bs b o e).1;have lim:s.heap.NoLimit:=e0.mod.nolimit.keeps λb o e=>(e0.bs b o e).1
 have hkind:∀ y∈ps.zip us,scope.names.lookup y.1=some .local\/(scope.names.lookup y.1=some .cell/\((cellsFrom (s.heap.objs.size + 1) scope.names []).lookup y.1).isSome=true):=λ⟨n,v⟩ hy=>by
  rcases S.par n (List.of_mem_zip hy).1 with q | q
  ·exact .inl q
  ·exact .inr ⟨q,W.cellsFrom_some _ _ _ (.inl q)⟩
 refine codeAny_call_function hr.depth (KX _ _ lk) rfl S.co S.gen rfl (W.codeRec_of KX hcd) (hb _ _ _ _ ?_);refine wpAny_newFunctionEnv_cells S.kind hkind λenv he s1 x => ?_;subst he;refine ⟨lim.keeps x.toInCall.keep,codeAny_func ?_⟩;obtain ⟨t,ht,hq⟩:=hbody A outer s H vs Q E (hr.deeper _) hsp;have I:zk (pG CX P w K mg base N qual scope f cdv A outer s H E) [] (start N vs) H s1:=ZB S hr.hd e0 hl r x;refine wpAny_mono (ht [] s1 (start N vs) H _ I hq) (λfl s' hs => ?_) λe s' hs=>hs
 have fin:∀ {σ':St} {H':Hp} {v:V} {u:Value},zk (pG CX P w K mg base N qual scope f cdv A outer s H E) [] σ' H' s'->RelV v u->Q v H'->CE outer P w H s Q u s' :=
  λ{σ' H' v u} J rv q=>⟨v,H',J.os,J.bare,J.base,J.hok,rv,q⟩
 cases fl with
 | ret u =>
  obtain ⟨v,σ',H',J,rv,q⟩:=hs;exact fin J rv q
 | next =>
  obtain ⟨σ',H',J,q⟩:=hs;exact fin (v:=V.non) (u:=Value.none) J rfl q
 | brk =>
  obtain ⟨_,_,_,q⟩:=hs;exact False.elim q
 | cont =>
  obtain ⟨_,_,_,q⟩:=hs;exact False.elim q
section
variable {X:Cx}{x:Str}{p pos:Pos}{e:Expr}{es:List Expr}{t:TA}{id T:String}{r:List V->Hp->VK->Prop}
def UB (r:List V->Hp->VK->Prop)(t:TA):TE:=λσ H Q=>t σ H λvs H1=>r vs H1 Q
theorem Y2 (hc:ke X (.builtin id) r)(hg:Gl X x)(hm:X.mg x=none)(hv:bootBuiltins x=some (.builtin id))(ha:PA X (e :: es) t)(hn:x ≠ "__name__" := by decide)(hdb:(x == ("__debug__" : Str))=false:=by decide)
  (he:starEach (e :: es) X.env=(false,eval e X.env) :: starEach es X.env:=by rfl) (hpl:(backTo pos (starEach es X.env)).any (·.1)=false:=by rfl):PE X (.Call (.Name x p) (e :: es) [] pos) (UB r t):=by
 intro pins s σ H Q I h;refine wpAny_Call_Name_kw (gf I hg hm hv ?_ hn hdb);exact PyProof.Rows.callWith_builtin1 (jx (ha pos pins s σ H _ I h) λus s1 ⟨vs,H1,I1,r1,q1⟩=>hc pins s1 σ H1 vs us Q I1 r1 q1) he hpl
theorem ZC (hc:ke X (.type T) r)(hg:Gl X x)(hm:X.mg x=none)(hv:bootBuiltins x=some (.type T))(ha:PA X (e :: es) t)(hn:x ≠ "__name__" := by decide)(hdb:(x == ("__debug__" : Str))=false:=by decide)
  (he:starEach (e :: es) X.env=(false,eval e X.env) :: starEach es X.env:=by rfl) (hpl:(backTo pos (starEach es X.env)).any (·.1)=false:=by rfl):PE X (.Call (.Name x p) (e :: es) [] pos) (UB r t):=by
 intro pins s σ H Q I h;refine wpAny_Call_Name_kw (gf I hg hm hv ?_ hn hdb);exact PyProof.Rows.callWith_type1 (jx (ha pos pins s σ H _ I h) λus s1 ⟨vs,H1,I1,r1,q1⟩=>hc pins s1 σ H1 vs us Q I1 r1 q1) he hpl
end
end L2
namespace HT
open PySem PyProof.Rows
def cat_tup {t b:Addr}{vs ws:List Value}{Q:Value->Shared->Prop}(ht:IsTup s.heap t vs.toArray)(hb:IsTup s.heap b ws.toArray)(hv:vs≠[])
  (h1:ws=[]->Q (.ref t) s) (h2:ws≠[]->Q (.ref s.heap.objs.size) { s with heap:=s.heap.push { cls:=.type "tuple",data:=.seq (vs ++ ws).toArray } })
  (hsz:vs.length + ws.length<=sizeLine):wpAny (model prog w) A (binaryOp .Add (.ref t) (.ref b)) Q E s:=by
 obtain ⟨⟨cls,dd,data,sl⟩,ho,hc,n,hd⟩:=id ht;obtain ⟨⟨cls2,dd2,data2,sl2⟩,ho2,hc2,n2,hd2⟩:=id hb;simp only at hc hd hc2 hd2;subst hc hd hc2 hd2;have e:vs.toArray ++ ws.toArray=(vs ++ ws).toArray:=by simp
 by_cases hw:ws=[]
 ·exact concat_meets ⟨_,ho,rfl⟩ ⟨_,ho2,rfl⟩ noFill_tuple_add seq_tuple_add PySem.F.slot_tuple_add PySem.F.entry_tuple_add (PySem.F.args_tuple_add_2 _ _)
   (tuple_addW1 t b vs.toArray ws.toArray n n2 dd dd2 sl sl2 (by simpa using hv) (by simp [hw])) ⟨ho,ho2,h1 hw⟩
 ·refine concat_meets ⟨_,ho,rfl⟩ ⟨_,ho2,rfl⟩ noFill_tuple_add seq_tuple_add PySem.F.slot_tuple_add PySem.F.entry_tuple_add (PySem.F.args_tuple_add_2 _ _)
   (tuple_addW2 t b vs.toArray ws.toArray n n2 dd dd2 sl sl2 (by simpa using hv) (by simpa using hw) (by rw [List.size_toArray,List.size_toArray];exact hsz)) ⟨ho,ho2,?_⟩
  rw [e];exact h2 hw
def sIx (n d:Nat):Option Int->Nat
 | none=>d
 | some v=>if v < 0 then (v + (n:Int)).toNat else min v.toNat n
def sIx_none (n d:Nat):sIx n d none=d:=rfl
def sIx_nat (n d k:Nat):sIx n d (some (k:Int))=min k n:=by
 show (if (k:Int) < 0 then ((k:Int) + (n:Int)).toNat else min (k:Int).toNat n)=min k n;rw [if_neg (by omega),Int.toNat_natCast]
def sIx_le (n d:Nat)(hd:d<=n)(o:Option Int):sIx n d o<=n:=by
 cases o with
 | none=>exact hd
 | some v =>
  show (if v < 0 then (v + (n:Int)).toNat else min v.toNat n)<=n
  by_cases hv:v < 0
  ·rw [if_pos hv];omega
  ·rw [if_neg hv];exact Nat.min_le_right _ _
def rh (v:Int)(n d:Nat):(if v < 0 then max (v + (n:Int)) 0 else min v (n:Int))=((sIx n d (some v):Nat):Int):=by
 show (if v < 0 then max (v + (n:Int)) 0 else min v (n:Int))=(((if v < 0 then (v + (n:Int)).toNat else min v.toNat n):Nat):Int)
 by_cases hv:v < 0
 ·simp only [if_pos hv];omega
 ·simp only [if_neg hv];omega
def tF (lo hi:Option Int)(n:Nat):Builtin.Slice.sliceAdjust lo hi 1 (n:Int)=(((sIx n 0 lo:Nat):Int),((sIx n n hi:Nat):Int)):=by
 have h1:¬ ((1:Int) < 0):=by omega
 unfold Builtin.Slice.sliceAdjust;simp only [h1,if_false];refine Prod.ext ?_ ?_
 ·cases lo with
  | none=>rfl
  | some v=>exact rh v n 0
 ·cases hi with
  | none=>rfl
  | some v=>exact rh v n n
def tG (i j:Nat):Builtin.Slice.slicePlaces (i:Int) (j:Int) 1=j - i:=by
 unfold Builtin.Slice.slicePlaces;have h1:(1:Int) > 0:=by omega
 simp only [h1,if_true,Int.ediv_one]
 split<;>omega
def my {v:Value}{o:Option Int}{Q:Option Int->Shared->Prop}(p:IsPart v o)(h:Q o s):wpAny (model prog w) A (Builtin.Slice.slicePartIndex v) Q E s:=by
 cases p with
 | none=>exact slicePart_none h
 | int i t=>exact slicePart_int h
def kY {sl:Addr}{vl vu:Value}{lo hi:Option Int}{n:Nat}{Q:Int×Int×Nat->Shared->Prop}(hs:s.heap.IsSliceOf sl vl vu .none)(pl:IsPart vl lo)(pu:IsPart vu hi)
  (h:Q (((sIx n 0 lo:Nat):Int),1,sIx n n hi - sIx n 0 lo) s):wpAny (model prog w) A (Builtin.Slice.sliceApplied (.ref sl) (pure (n:Int))) Q E s:=by
 obtain ⟨os,hos,hcs,hds⟩:=id hs;unfold Builtin.Slice.sliceApplied Builtin.Slice.sliceFields;refine wpAny_bind (wpAny_bind (wpAny_field hos hds (x:=vl) rfl (wpAny_bind (wpAny_field hos hds (x:=vu) rfl (wpAny_bind (wpAny_field hos hds (x:=.none) rfl (wpAny_pure ?_)))))));refine wpAny_bind (slicePart_none ?_);show wpAny _ _ (if ((1:Int) == 0)=true then _ else _) _ _ s;rw [if_neg (by decide)];refine wpAny_bind (my pl (wpAny_bind (my pu (wpAny_bind (wpAny_pure ?_)))));show wpAny _ _ (match Builtin.Slice.sliceAdjust lo hi 1 (n:Int) with | (lo,hi)=>pure (lo,(1:Int),Builtin.Slice.slicePlaces lo hi 1)) _ _ s;rw [tF lo hi n];show wpAny _ _ (pure (((sIx n 0 lo:Nat):Int),(1:Int),Builtin.Slice.slicePlaces ((sIx n 0 lo:Nat):Int) ((sIx n n hi:Nat):Int) 1)) _ _ s;rw [tG];exact wpAny_pure h
def Y3 (xs:Array Value)(i k:Nat):((List.range k).filterMap λ(m:Nat)=>xs[((i:Int) + (m:Int) * 1).toNat]?).toArray=((xs.toList.drop i).take k).toArray:=by
 have e:(λ(m:Nat)=>xs[((i:Int) + (m:Int) * 1).toNat]?)=λm=>xs[i + m]? := by
  funext m
  have:((i:Int) + (m:Int) * 1).toNat=i + m:=by omega
  rw [this]
 rw [e];have:=pick_run xs i k;rw [List.filterMap_map] at this;have e2:((λx=>xs[x]?) ∘ λx=>i + x)=λm=>xs[i + m]? := rfl;rw [e2] at this;rw [this]
def getItem_tuple_cut {t sl:Addr}{items:Array Value}{vl vu:Value}{lo hi:Option Int}{Q:Value->Shared->Prop}(ht:IsTup s.heap t items)(hs:s.heap.IsSliceOf sl vl vu .none)(pl:IsPart vl lo)(pu:IsPart vu hi)
  (hw:¬ (sIx items.size 0 lo=0/\sIx items.size items.size hi=items.size))
  (h:Q (.ref s.heap.objs.size) { s with heap:=s.heap.push { cls:=.type "tuple",data:=.seq ((items.toList.drop (sIx items.size 0 lo)).take (sIx items.size items.size hi - sIx items.size 0 lo)).toArray } })
  (hsz:items.size<=sizeLine):wpAny (model prog w) A (getItem (.ref t) (.ref sl)) Q E s:=by
 have htake:sizeOk (.seq ((items.toList.drop (sIx items.size 0 lo)).take (sIx items.size items.size hi - sIx items.size 0 lo)).toArray):=by
  show ((items.toList.drop (sIx items.size 0 lo)).take (sIx items.size items.size hi - sIx items.size 0 lo)).toArray.size<=sizeLine;rw [List.size_toArray,List.length_take,List.length_drop,Array.length_toList];omega
 have hj:sIx items.size items.size hi<=items.size:=sIx_le _ _ (Nat.le_refl _) hi;obtain ⟨os,hos,hcs,hds⟩:=id hs;have hTs:s.TypeIs (.ref sl) "slice" := ⟨os,hos,hcs⟩
 unfold getItem
 try with_reducible refine wpAny_holding ?_
 first | refine wpAny_bind (wpAny_pure ?_) | skip
 refine wpAny_bind (wpAny_sequenceKey ht.typeIs (by decide) ?_)
 refine wpAny_bind (wpAny_callSpecial?_slot (name:=Str.ofString "__getitem__") ht.typeIs PyProof.Rows.slot_tuple_getitem
  (wpAny_call_entry PyProof.Rows.slot_tuple_getitem ht.typeIs entry_tuple_getitem ?_ (args_tuple_getitem _ _)))
 show wpAny _ _ (Builtin.Tuple.tupleItemsOf (.ref t) >>= _) _ _ s;refine wpAny_bind (tupleItemsOf_ ht ?_);refine wpAny_bind (wpAny_typeOf hTs ?_);rw [if_pos (by decide)];refine wpAny_bind (kY hs pl pu ?_)
 have hno:¬ ((((sIx items.size 0 lo:Nat):Int) == 0 && (1:Int) == 1 && (sIx items.size items.size hi - sIx items.size 0 lo) == items.size)=true):=by
  intro q;rw [Bool.and_eq_true,Bool.and_eq_true] at q;have q1:((sIx items.size 0 lo:Nat):Int)=0:=eq_of_beq q.1.1;have q2:sIx items.size items.size hi - sIx items.size 0 lo=items.size:=eq_of_beq q.2;exact hw ⟨by omega,by omega⟩
 show wpAny _ _ (if (((sIx items.size 0 lo:Nat):Int) == 0 && (1:Int) == 1 && (sIx items.size items.size hi - sIx items.size 0 lo) == items.size)=true then _ else _) _ _ s;rw [if_neg hno,Y3]
 first
  | exact wpAny_bind (m:=Builtin.Tuple.tupleExact _) (wpAny_newObj_type (wpAny_pure ⟨_,rfl,wpAny_pure h⟩) htake)
  | exact wpAny_bind (m:=Builtin.Tuple.tupleExact _) (wpAny_newObj_type (wpAny_bind (wpAny_pure (wpAny_pure ⟨_,rfl,wpAny_pure h⟩))) htake)
  | exact wpAny_bind (wpAny_bind (m:=Builtin.Tuple.tupleExact _) (wpAny_newObj_type (wpAny_pure (wpAny_pure ⟨_,rfl,wpAny_pure h⟩)) htake))
  | exact wpAny_bind (wpAny_bind (m:=Builtin.Tuple.tupleExact _) (wpAny_newObj_type (wpAny_pure ⟨_,rfl,wpAny_pure h⟩) htake))
end HT
namespace L2
open PySem PySem.Spec PyProof.Rows
abbrev TO:=St->Hp->(Option Int->Hp->Prop)->Prop
def PO (X:Cx)(e:Option Expr)(t:TO):Prop :=
 ∀ (pins:List (Addr×Obj)) (s:Shared) (σ:St) (H:Hp) (Q:Option Int->Hp->Prop),zk X pins σ H s->t σ H Q ->
  wpAny (model X.prog X.w) X.A (evalPart e X.env) (λu s'=>∃ o H',zk X pins σ H' s'/\IsPart u o/\Q o H') X.xe s
def WA:TO:=λ_ H Q=>Q none H
def GP (t:TE):TO:=λσ H Q=>t σ H λx H1=>∃ i,x=.int i/\Q (some i) H1
section
variable {X:Cx}{e:Expr}{te:TE}{lo hi:Option Expr}{tl th:TO}{pos p2:Pos}
theorem WB:PO X none WA:=by
 intro pins s σ H Q I h;rw [evalPart_none];exact wpAny_pure ⟨none,H,I,.none,h⟩
theorem WC (h:PE X e te):PO X (some e) (GP te):=by
 intro pins s σ H Q I hw;rw [evalPart_some];refine jx (h pins s σ H _ I hw) λu s1 ⟨x,H1,I1,r1,q1⟩ => ?_;obtain ⟨i,rfl,q⟩:=q1;obtain ⟨t,rfl⟩:=r1;exact ⟨some i,H1,I1,.int i t,q⟩
def GQ (X:Cx)(r:V->Option Int->Option Int->Hp->VK->Prop):Prop :=
 ∀ (pins:List (Addr×Obj)) (s:Shared) (σ:St) (H:Hp) (x:V) (v vl vu:Value) (lo hi:Option Int) (sl:Addr) (Q:VK),zk X pins σ H s->RelV x v->s.heap.IsSliceOf sl vl vu .none->IsPart vl lo->IsPart vu hi->r x lo hi H Q ->
  ∃ T id,typeLookup (.type T) "__getitem__" = pure (some (.builtin id))/\s.TypeIs v T/\wpAny (model X.prog X.w) X.A (getItem v (.ref sl)) (EP X pins σ Q) X.xe s
def NU (r:V->Option Int->Option Int->Hp->VK->Prop)(te:TE)(tl th:TO):TE:=λσ H Q=>te σ H λx H1=>tl σ H1 λl H2=>th σ H2 λu H3=>r x l u H3 Q
theorem Y4 {r:V->Option Int->Option Int->Hp->VK->Prop}(hr:GQ X r)(he:PE X e te)(hl:PO X lo tl)(hu:PO X hi th):PE X (.Subscript e (.Slice lo hi none p2) pos) (NU r te tl th):=by
 intro pins s σ H Q I h;refine Subscript_ (jx (he pins s σ H _ I h) λv s1 ⟨x,H1,I1,r1,q1⟩ => ?_);refine wpAny_Slice (jx (hl pins s1 σ H1 _ I1 q1) λvl s2 ⟨l,H2,I2,pl,q2⟩=>jx (hu pins s2 σ H2 _ I2 q2) λvu s3 ⟨u,H3,I3,pu,q3⟩ => ?_);rw [evalPart_none];refine wpAny_pure ?_;have I4:zk X pins σ H3 { s3 with heap:=s3.heap.push { cls:=.type "slice",data:=.fields #[vl,vu,.none] } }:=I3.kept (t':=s3.toks) λb ob q=>Heap.get?_push_of_some _ q;obtain ⟨T,id,hT,ht,hg⟩:=hr pins { s3 with heap:=s3.heap.push { cls:=.type "slice",data:=.fields #[vl,vu,.none] } } σ H3 x v vl vu l u s3.heap.objs.size Q I4 r1 (Heap.IsSliceOf.new ..) pl pu q3;show wpAny (model X.prog X.w) X.A (subscriptTail e (.Slice lo hi none p2) v (.ref s3.heap.objs.size)) (EP X pins σ Q) X.xe { s3 with heap:=s3.heap.push { cls:=.type "slice",data:=.fields #[vl,vu,.none] } };exact tail_any (ops:=[.ref s3.heap.objs.size,v]) ht hT hg (by with_unfolding_all rfl)
def b9 (xs:List V)(lo hi:Option Int):List V:=(xs.drop (HT.sIx xs.length 0 lo)).take (HT.sIx xs.length xs.length hi - HT.sIx xs.length 0 lo)
theorem uZ (xs:List V)(lo hi:Option Int):(b9 xs lo hi).length<=xs.length:=by
 unfold b9;rw [List.length_take,List.length_drop];omega
def UC (K:W.Frag):V->Option Int->Option Int->Hp->VK->Prop:=λx lo hi H Q=>∃ a xs,x=.ref a/\uW K H a xs /\
 ¬ (HT.sIx xs.length 0 lo=0/\HT.sIx xs.length xs.length hi=xs.length)/\∀ p,H p=none->Q (.ref p) (zW H p (.tup (b9 xs lo hi)))
theorem Q6:GQ X (UC X.K):=by
 intro pins s σ H x v vl vu lo hi sl Q I rx hs pl pu h;obtain ⟨a,xs,rfl,hx,hw,q⟩:=h;cases rx;obtain ⟨its,r,ht,hz⟩:=I.tuple hx;have hlen:its.toArray.size=xs.length:=by rw [List.size_toArray];exact r.length.symm
 refine ⟨"tuple",_,PyProof.Rows.slot_tuple_getitem.lookup,ht.typeIs,?_⟩;refine HT.getItem_tuple_cut ht hs pl pu (by rw [hlen];exact hw) ?_ (by rw [hlen];exact hz);rw [hlen];refine ⟨.ref s.heap.objs.size,_,I.laid (t':=s.toks) (o:=.tup (b9 xs lo hi)) (λb ob q=>Heap.get?_push_of_some _ q) (Nat.le_refl _) ?_,rfl,q _ (I.hok.fresh (Nat.le_refl _))⟩;exact ⟨Nat.le_trans (uZ xs lo hi) hz,_,(r.drop (HT.sIx xs.length 0 lo)).take (HT.sIx xs.length xs.length hi - HT.sIx xs.length 0 lo),IsTup.new _ _⟩
def GR (K:W.Frag):R2:=λx y H Q=>∃ a b xs ys,x=.ref a/\y=.ref b/\uW K H a xs/\uW K H b ys/\xs≠[]/\xs.length + ys.length<=sizeLine /\
 (ys=[]->Q (.ref a) H)/\(ys≠[]->∀ p,H p=none->Q (.ref p) (zW H p (.tup (xs ++ ys))))
theorem zJ.nil_iff {xs:List V}{us:List Value}(r:zJ xs us):us=[]↔xs=[]:=by
 cases r with
 | nil=>simp
 | cons _ _=>simp
theorem WD:qp X (binaryOp .Add) (GR X.K):=by
 intro pins s σ H x y v u Q I rx ry h;obtain ⟨a,b,xs,ys,rfl,rfl,ha,hb,hx,hz,q1,q2⟩:=h;cases rx;cases ry;obtain ⟨its,r1,p1,_⟩:=I.tuple ha;obtain ⟨its2,r2,p2,_⟩:=I.tuple hb;refine HT.cat_tup p1 p2 (λz=>hx (r1.nil_iff.mp z)) (λz=>⟨.ref a,H,I,rfl,q1 (r2.nil_iff.mp z)⟩) (λz => ?_) (by rw [<- r1.length,<- r2.length];exact hz);refine ⟨.ref s.heap.objs.size,_,I.laid (t':=s.toks) (o:=.tup (xs ++ ys)) (λb ob q=>Heap.get?_push_of_some _ q) (Nat.le_refl _) ?_,rfl,q2 (λw=>z (r2.nil_iff.mpr w)) _ (I.hok.fresh (Nat.le_refl _))⟩;exact ⟨by rw [List.length_append];exact hz,_,r1.append r2,IsTup.new _ _⟩
end
def aR (n:Nat)(i:Int):Option Nat:=if 0<=i then (if i < n then some i.toNat else none) else if -(n:Int)<=i then some (i + n).toNat else none
def mz {α:Type}(xs:List α)(i:Int):Option α:=(aR xs.length i).bind λj=>xs[j]?
def rl {n:Nat}{i:Int}{j:Nat}(h:aR n i=some j):seqIndex? i n=some j/\j < n /\ -(n:Int)<=i/\i < n:=by
 unfold aR at h
 by_cases h0:0<=i
 ·rw [if_pos h0] at h
  by_cases h1:i < n
  ·rw [if_pos h1] at h
   have e:i.toNat=j:=Option.some.inj h;exact ⟨by rw [seqIndex_of h0 h1,e],by omega,by omega,h1⟩
  ·rw [if_neg h1] at h;cases h
 ·rw [if_neg h0] at h
  by_cases h1 : -(n:Int)<=i
  ·rw [if_pos h1] at h
   have e:(i + n).toNat=j:=Option.some.inj h;exact ⟨by rw [seqIndex_neg (by omega) h1,e],by omega,h1,by omega⟩
  ·rw [if_neg h1] at h;cases h
def dv {α:Type}{xs:List α}{i:Int}{v:α}(h:mz xs i=some v):∃ j,seqIndex? i xs.length=some j/\xs[j]? = some v/\j < xs.length /\ -(xs.length:Int)<=i/\i < xs.length:=by
 unfold mz at h
 cases e:aR xs.length i with
 | none=>rw [e] at h;cases h
 | some j =>
  rw [e] at h;obtain ⟨h1,h2,h3,h4⟩:=rl e;exact ⟨j,h1,h,h2,h3,h4⟩
def WE {α:Type}{xs:List α}{j:Nat}{v:α}(h:xs[j]? = some v):mz xs (j:Int)=some v:=by
 have hj:j < xs.length:=(List.getElem?_eq_some_iff.mp h).1
 have e:aR xs.length (j:Int)=some j:=by
  unfold aR;rw [if_pos (by omega),if_pos (by omega)];simp
 unfold mz;rw [e];exact h
def rm (b:Expr):Prop := ∀ o i,subscripted b false o i=operate [o,i] (getItem o i)
def GS (X:Cx)(r:R2):Prop :=
 ∀ (value slice:Expr) (pins:List (Addr×Obj)) (s:Shared) (σ:St) (H:Hp) (x y:V) (v u:Value) (Q:VK),zk X pins σ H s->RelV x v->RelV y u->r x y H Q ->
  subscripted slice false v u=operate [v,u] (getItem v u)->wpAny (model X.prog X.w) X.A (subscriptTail value slice v u) (EP X pins σ Q) X.xe s
def UD (X:Cx)(id:String)(r:V->List V->Hp->VK->Prop):Prop :=
 ∀ (pins:List (Addr×Obj)) (s:Shared) (σ:St) (H:Hp) (x:V) (xs:List V) (v:Value) (us:List Value) (Q:VK),zk X pins σ H s->RelV x v->zJ xs us->r x xs H Q ->
  wpAny (model X.prog X.w) X.A (call (.builtin id) (v :: us)) (EP X pins σ Q) X.xe s
section
def GT {r:R2}(hr:GS X r)(ha:PE X a ta)(hb:PE X b tb)(hs:rm b):PE X (.Subscript a b pos) (GH r ta tb):=by
 intro pins s σ H Q I h;exact Subscript_ (KO ha hb I h λv u s2 x y H2 I2 rx ry q=>hr a b pins s2 σ H2 x y v u Q I2 rx ry q (hs _ _))
def UE (K:W.Frag):R2:=λx y H Q=>∃ p xs i v,x=.ref p/\y=.int i/\uv K H p xs/\mz xs i=some v/\Q v H
def UF (K:W.Frag):R2:=λx y H Q=>∃ p xs i v,x=.ref p/\y=.int i/\uW K H p xs/\mz xs i=some v/\Q v H
def UG:R2:=λx y H Q=>∃ z i c,x=.str z/\y=.int i/\z.length<=sizeLine/\mz z.cps.toList i=some c/\Q (.str ⟨#[c]⟩) H
def WF:GS X (UE X.K):=by
 intro value slice pins s σ H x y v u Q I rx ry h hs;obtain ⟨p,xs,i,z,rfl,rfl,hq,he,q⟩:=h;cases rx;obtain ⟨t,rfl⟩:=ry;obtain ⟨its,r,pl,hz⟩:=I.list hq;obtain ⟨j,h1,h2,h3,h4,h5⟩:=dv he;obtain ⟨w,ew,rw'⟩:=r.get h2;have hl:=r.length;have hn:=fG;have fin:EP X pins σ Q w s:=⟨z,H,I,rw',q⟩
 by_cases h0:0<=i
 ·have hj:i.toNat=j:=by
   rw [seqIndex_of h0 h5] at h1;exact Option.some.inj h1
  exact item_listR pl.isList h0 (by omega) (by rw [hj];simpa using ew) fin hs
 ·have hj:(i + (its.toArray.size:Int)).toNat=j:=by
   rw [seqIndex_neg (by omega) h4] at h1;rw [List.size_toArray,<- hl];exact Option.some.inj h1
  exact subscriptTail_builtinR (x:=w) pl.isList.typeIs slot_list_getitem.lookup
   (wpAny_getItem_list_neg (Q:=λr s'=>r=w/\EP X pins σ Q r s') pl.isList (by omega) (by rw [List.size_toArray]<;>omega) (by omega) (by rw [hj];simpa using ew) ⟨rfl,fin⟩) hs
def Q7:GS X (UF X.K):=by
 intro value slice pins s σ H x y v u Q I rx ry h hs;obtain ⟨p,xs,i,z,rfl,rfl,hq,he,q⟩:=h;cases rx;obtain ⟨t,rfl⟩:=ry;obtain ⟨its,r,pl,hz⟩:=I.tuple hq;obtain ⟨j,h1,h2,h3,h4,h5⟩:=dv he;obtain ⟨w,ew,rw'⟩:=r.get h2;have hl:=r.length;have hn:=fG;have fin:EP X pins σ Q w s:=⟨z,H,I,rw',q⟩
 exact subscriptTail_builtinR (x:=w) pl.typeIs slot_tuple_getitem.lookup
  (getItem_tuple (j:=j) (Q:=λr s'=>r=w/\EP X pins σ Q r s') pl (by omega) (by omega) (by rw [List.size_toArray,<- hl];exact h1) (by simpa using ew) ⟨rfl,fin⟩) hs
def Q8:GS X UG:=by
 intro value slice pins s σ H x y v u Q I rx ry h hs;obtain ⟨z,i,c,rfl,rfl,hz,he,q⟩:=h;obtain ⟨t,rfl⟩:=rx;obtain ⟨t',rfl⟩:=ry;obtain ⟨j,h1,h2,h3,h4,h5⟩:=dv he;have hl:z.cps.toList.length=z.length:=by simp [Str.length]
 rw [hl] at h1 h4 h5;have hn:=fG
 exact tail_any (typeIs_str s z t) slot_str_getitem.lookup (getItem_str (c:=c) (by
  have e1:decide (i < -(2 ^ 63:Int))=false:=decide_eq_false (by omega);have e2:decide (i >= 2 ^ 63)=false:=decide_eq_false (by omega);rw [e1,e2,Bool.or_false]) (by rw [h1];simpa using h2) ⟨.str ⟨#[c]⟩,H,I.tok _,⟨_,rfl⟩,q⟩) hs
def tH (its:List Value)(n j:Nat)(u:Value):Obj.mapSeq (·.setIfInBounds j u) { cls:=.type "list",data:=.seq its.toArray n } = { cls:=.type "list",data:=.seq (its.set j u).toArray n }:=by
 simp [Obj.mapSeq]
def zk.lst {pins:List (Addr×Obj)}{σ:St}{H:Hp}{s:Shared}{p:Addr}{xs:List V}(I:zk X pins σ H s)(h:H p=some (.lst xs)) :
  ∃ (its:List Value) (n:Nat),zJ xs its/\s.heap.get? p=some { cls:=.type "list",data:=.seq its.toArray n } /\ xs.length<=sizeLine:=by
 obtain ⟨z,its,n,r,e⟩:=I.hok p _ h;exact ⟨its,n,r,e,z⟩
def zk.lstUpd {pins:List (Addr×Obj)}{σ:St}{H:Hp}{s:Shared}{p:Addr}{xs ys:List V}{its its':List Value}{n n':Nat}{f:Obj->Obj}(I:zk X pins σ H s)(h:H p=some (.lst xs))
  (ho:s.heap.get? p=some { cls:=.type "list",data:=.seq its.toArray n }) (hf:f { cls:=.type "list",data:=.seq its.toArray n } = { cls:=.type "list",data:=.seq its'.toArray n' }) (r:zJ ys its') (hz:ys.length<=sizeLine) (t:Nat) :
  zk X pins σ (zW H p (.lst ys)) { s with heap:=s.heap.update p f,toks:=t }:=by
 have e:(s.heap.update p f).get? p=some { cls:=.type "list",data:=.seq its'.toArray n' }:=by
  rw [Heap.get?_update_self f ho (by rw [hf]<;>rfl),hf]
 refine I.write (x:=p) (e:=p) (by rw [h];trivial) (.inl rfl) (λb u hb q=>(Heap.get?_update_other _ _ (Ne.symm hb)).trans q) ⟨_,e⟩ ?_;exact ⟨hz,its',n',r,e⟩
def K0:V->V->V->Hp->(Hp->Prop)->Prop:=λo i v H Q=>∃ p xs k j,o=.ref p/\i=.int k/\H p=some (.lst xs)/\aR xs.length k=some j/\Q (zW H p (.lst (xs.set j v)))
def mB:GD X K0:=by
 intro pins s σ H o i v ov iv u Q I ro ri rv h;obtain ⟨p,xs,k,j,rfl,rfl,hp,hj,q⟩:=h;cases ro;obtain ⟨t,rfl⟩:=ri;obtain ⟨its,n,r,ho,hz⟩:=I.lst hp;obtain ⟨h1,h2,h3,h4⟩:=rl hj;have hl:=r.length;have hn:=fG
 have I':zk X pins σ (zW H p (.lst (xs.set j v))) { s with heap:=s.heap.update p (Obj.mapSeq (·.setIfInBounds j u)) } :=
  I.lstUpd hp ho (tH its n j u) (r.set rv j) (by rw [List.length_set];exact hz) s.toks
 by_cases h0:0<=k
 ·have hk:k.toNat=j:=by
   rw [seqIndex_of h0 h4] at h1;exact Option.some.inj h1
  exact W.ki_setAt ho h0 (by omega) (by rw [List.size_toArray,<- hl];exact h4) (by rw [hk];exact ⟨_,I',q⟩)
 ·have hk:(k + (its.toArray.size:Int)).toNat=j:=by
   rw [seqIndex_neg (by omega) h3] at h1;rw [List.size_toArray,<- hl];exact Option.some.inj h1
  exact W.ki_setBack ho (by omega) (by rw [List.size_toArray,<- hl];exact h3) (by omega) (by rw [hk];exact ⟨_,I',q⟩)
def dw (lo hi:Option Int)(n:Nat):(sliceBounds lo hi none n).1=((HT.sIx n 0 lo:Nat):Int)/\(sliceBounds lo hi none n).2.1=((HT.sIx n n hi:Nat):Int)/\(sliceBounds lo hi none n).2.2=1:=by
 refine ⟨?_,?_,rfl⟩
 ·cases lo with
  | none=>simp [sliceBounds,HT.sIx]
  | some i =>
   simp only [sliceBounds,HT.sIx,Option.getD_none,show (1:Int) > 0 by decide,if_true]
   by_cases h:i < 0
   ·simp only [h,if_true]<;>omega
   ·simp only [h,if_false]<;>omega
 ·cases hi with
  | none=>simp [sliceBounds,HT.sIx]
  | some i =>
   simp only [sliceBounds,HT.sIx,Option.getD_none,show (1:Int) > 0 by decide,if_true]
   by_cases h:i < 0
   ·simp only [h,if_true]<;>omega
   ·simp only [h,if_false]<;>omega
def iE (its:List Value)(lo hi:Option Int):slicePick its.toArray lo hi none=((its.drop (HT.sIx its.length 0 lo)).take (HT.sIx its.length its.length hi - HT.sIx its.length 0 lo)).toArray:=by
 obtain ⟨h1,h2,h3⟩:=dw lo hi its.toArray.size;unfold slicePick;rw [h1,h2,h3];simp only [sliceRange_one,pick_run,List.size_toArray]<;>rfl
def UH (K:W.Frag):V->Option Int->Option Int->Hp->VK->Prop:=λx lo hi H Q=>∃ a xs,x=.ref a/\uv K H a xs/\∀ p,H p=none->Q (.ref p) (zW H p (.lst (b9 xs lo hi)))
def WG:GQ X (UH X.K):=by
 intro pins s σ H x v vl vu lo hi sl Q I rx hs pl pu h;obtain ⟨a,xs,rfl,hx,q⟩:=h;cases rx;obtain ⟨its,r,ht,hz⟩:=I.list hx;have hlen:=r.length;refine ⟨"list",_,slot_list_getitem.lookup,ht.isList.typeIs,?_⟩;refine wpAny_getItem_list_slice ht.isList hs pl pu .none (by simp) ?_ (by rw [List.size_toArray]<;>omega);rw [iE,<- hlen];refine ⟨.ref s.heap.objs.size,_,I.laid (t':=s.toks) (o:=.lst (b9 xs lo hi)) (λb ob q=>Heap.get?_push_of_some _ q) (Nat.le_refl _) ?_,rfl,q _ (I.hok.fresh (Nat.le_refl _))⟩;exact ⟨Nat.le_trans (uZ xs lo hi) hz,_,0,(r.drop (HT.sIx xs.length 0 lo)).take (HT.sIx xs.length xs.length hi - HT.sIx xs.length 0 lo),Heap.get?_push_size _ rfl⟩
def pH:ke X (.builtin "len") (λxs H Q=>∃ p ys,xs=[.ref p]/\(uv X.K H p ys\/uW X.K H p ys)/\Q (.int ys.length) H):=by
 intro pins s σ H xs us Q I r h;obtain ⟨p,ys,rfl,hq,q⟩:=h;obtain ⟨u,rfl,rx⟩:=mq r;cases rx;have hn:=fG
 rcases hq with hq | hq
 ·obtain ⟨its,r',pl,hz⟩:=I.list hq
  have hlen:=r'.length;exact Calls.call_len_list pl.isList (by simp only [List.size_toArray]<;>omega) ⟨.int ys.length,H,I.tok _,⟨s.toks + 1,by rw [List.size_toArray,hlen]⟩,q⟩
 ·obtain ⟨its,r',pl,hz⟩:=I.tuple hq
  have hlen:=r'.length;exact len_tuple pl (by simp only [List.size_toArray]<;>omega) ⟨.int ys.length,H,I.tok _,⟨s.toks + 1,by rw [List.size_toArray,hlen]⟩,q⟩
def dy:ke X (.builtin "len") (λxs H Q=>∃ z,xs=[.str z]/\z.length<=sizeLine/\Q (.int z.length) H):=by
 intro pins s σ H xs us Q I r h;obtain ⟨z,rfl,hz,q⟩:=h;obtain ⟨u,rfl,t,rfl⟩:=mq r;have hn:=fG;exact len_str (by omega) ⟨.int z.length,H,I.tok _,⟨_,rfl⟩,q⟩
def gZ:ke X (.type "tuple") (λxs H Q=>∃ p ys,xs=[.ref p]/\((uv X.K H p ys/\∀ l,H l=none->Q (.ref l) (zW H l (.tup ys)))\/(uW X.K H p ys/\Q (.ref p) H))):=by
 intro pins s σ H xs us Q I r h;obtain ⟨p,ys,rfl,h⟩:=h;obtain ⟨u,rfl,rx⟩:=mq r;cases rx
 rcases h with ⟨hq,q⟩ | ⟨hq,q⟩
 ·obtain ⟨its,r',pl,hz⟩:=I.list hq
  have hlen:=r'.length;refine call_tuple_list pl.isList (λh' kp => ?_) (by simp only [List.size_toArray]<;>omega);have I1:zk X pins σ H { s with heap:=h' }:=I.kept (t':=s.toks) kp
  have I2:zk X pins σ (zW H h'.objs.size (.tup ys)) { s with heap:=h'.push { cls:=.type "tuple",data:=.seq its.toArray } } :=
   I1.laid (t':=s.toks) (λb o e=>Heap.get?_push_of_some _ e) (Nat.le_refl _) (show jd X.prog X.w _ _ _ (.tup ys) from ⟨hz,its,r',IsTup.new _ _⟩)
  exact ⟨.ref h'.objs.size,_,I2,rfl,q _ (I1.hok.fresh (Nat.le_refl _))⟩
 ·obtain ⟨its,r',pl,hz⟩:=I.tuple hq
  exact call_tuple_same pl ⟨.ref p,H,I,rfl,q⟩
def UI (K:W.Frag)(T:String)(x:V)(H:Hp):Prop:=match x with
 | .str _=>T = "str"
 | .int _=>T = "int"
 | .ref p=>(T = "list" /\ ∃ xs,uv K H p xs)\/(T = "tuple" /\ ∃ o,K.lookup p=some o/\o.cls=.type "tuple" /\ o.dict=none) \/
   (T = "dict" /\ ((∃ kvs,H p=some (.dK kvs))\/∃ kvs,H p=some (.dT kvs)))\/(T = "set" /\ ∃ S n,H p=some (.set S n))
 | _=>False
def Y5 {pins:List (Addr×Obj)}{σ:St}{H:Hp}{s:Shared}{T:String}{x:V}{v:Value}(I:zk X pins σ H s)(r:RelV x v)(ty:UI X.K T x H) :
  s.TypeIs v T/\∀ a,v=.ref a->∃ ob,s.heap.get? a=some ob/\ob.dict=none:=by
 cases x with
 | str z =>
  obtain ⟨t,rfl⟩:=r;cases (show T = "str" from ty);exact ⟨typeIs_str s z t,λ_ e=>nomatch e⟩
 | int i =>
  obtain ⟨t,rfl⟩:=r;cases (show T = "int" from ty);exact ⟨typeIs_int s i t,λ_ e=>nomatch e⟩
 | ref p =>
  cases r
  rcases ty with ⟨rfl,xs,hq⟩ | ⟨rfl,o,hk,hc,hd⟩ | ⟨rfl,hk⟩ | ⟨rfl,S,n,hk⟩
  ·obtain ⟨its,_,pl,_⟩:=I.list hq
   refine ⟨pl.isList.typeIs,λa e => ?_⟩;cases e;obtain ⟨o,n,e,c,hd,_⟩:=pl;exact ⟨o,e,hd⟩
  ·refine ⟨⟨o,I.kIn p o hk,hc⟩,λa e => ?_⟩
   cases e;exact ⟨o,I.kIn _ o hk,hd⟩
  ·have z:∃ o,s.heap.get? p=some o/\o.ExactDict:=by
    rcases hk with ⟨kvs,hk⟩ | ⟨kvs,hk⟩
    ·obtain ⟨_,_,_,_,o,_,_,e,ex,_⟩:=I.hok p _ hk
     exact ⟨o,e,ex⟩
    ·obtain ⟨_,_,_,_,o,_,_,e,ex,_⟩:=I.hok p _ hk
     exact ⟨o,e,ex⟩
   obtain ⟨o,e,ex⟩:=z;refine ⟨⟨o,e,ex.1⟩,λa e2 => ?_⟩;cases e2;exact ⟨o,e,ex.2.1⟩
  ·obtain ⟨o,_,_,_,e,ex,_⟩:=I.hok p _ hk
   refine ⟨⟨o,e,ex.1⟩,λa e2 => ?_⟩;cases e2;exact ⟨o,e,ex.2.1⟩
 | _=>exact False.elim ty
def Q9 (K:W.Frag)(T:String)(r:V->List V->Hp->VK->Prop)(to:TE):TE:=λσ H Q=>to σ H λx H1=>UI K T x H1/\r x [] H1 Q
def UJ (K:W.Frag)(T:String)(r:V->List V->Hp->VK->Prop)(to:TE)(t:TA):TE:=λσ H Q=>to σ H λx H1=>UI K T x H1/\t σ H1 λxs H2=>r x xs H2 Q
variable {o e:Expr}{es:List Expr}{to:TE}{t:TA}{name:Str}{apos cpos:Pos}{T id:String}{r:V->List V->Hp->VK->Prop}
theorem Y6 (pa:PlainAttrs T)(slot:Slot T name id)(hty:typeOf (.builtin id)=pure (.type "method_descriptor"))(hm:UD X id r)(ho:PE X o to)
  (hbase:attributeBase o name X.env (eval o X.env)=eval o X.env:=by rfl) (hline:(apos.endLine == cpos.line)=true:=by rfl):PE X (.Call (.Attribute o name apos) [] [] cpos) (Q9 X.K T r to):=by
 intro pins s σ H Q I h;refine wpAny_Call_method0_late hbase hline (jx (ho pins s σ H _ I h) λv s1 ⟨x,H1,I1,r1,ty,q1⟩ => ?_);obtain ⟨h1,h2⟩:=Y5 I1 r1 ty;exact ⟨T,id,pa,slot,hty,h1,h2,Calls.callWith_builtin rfl (PySem.evalArgs_none (hm pins s1 σ H1 x [] v [] Q I1 r1 .nil q1))⟩
theorem em (pa:PlainAttrs T)(slot:Slot T name id)(hty:typeOf (.builtin id)=pure (.type "method_descriptor"))(hm:UD X id r)(ho:PE X o to)(ha:PA X (e :: es) t)
  (hbase:attributeBase o name X.env (eval o X.env)=eval o X.env:=by rfl)
  (hfew:((backTo cpos (starEach (e :: es) X.env)).all (λx => !x.1) && (backToKw cpos (keywordEach [] X.env)).all (λx=>x.1.isSome)
   && decide ((e :: es).length + ([]:List Keyword).length + (if ([]:List Keyword).isEmpty then 0 else 1) < 30))=true:=by rfl)
  (hline:(apos.endLine == cpos.line)=true:=by rfl) (hs:starEach (e :: es) X.env=(false,eval e X.env) :: starEach es X.env:=by rfl) (hplain:(backTo cpos (starEach es X.env)).any (·.1)=false:=by rfl) :
  PE X (.Call (.Attribute o name apos) (e :: es) [] cpos) (UJ X.K T r to t):=by
 intro pins s σ H Q I h;refine wpAny_Call_method_late hbase hfew hline rfl (jx (ho pins s σ H _ I h) λv s1 ⟨x,H1,I1,r1,ty,q1⟩ => ?_);obtain ⟨h1,h2⟩:=Y5 I1 r1 ty;refine ⟨T,id,pa,slot,hty,h1,h2,?_⟩;have hA:=ha cpos pins s1 σ H1 _ I1 q1;rw [hs] at hA ⊢;refine Calls.callWith_builtin (by show (false || (backTo cpos (starEach es X.env)).any (·.1))=false;rw [hplain]<;>rfl) (Calls.evalArgs_plain ?_);exact jx hA λus s2 ⟨vs,H2,I2,r2,q2⟩=>hm pins s2 σ H2 x vs v us Q I2 r1 r2 q2
/- xs.append(e),list.index on a module's tuple .. are UD facts of 06m -/
end
def UK (X:Cx)(id:String)(r:V->List V->Hp->VK->Prop):Prop :=
 ∀ (pins:List (Addr×Obj)) (s:Shared) (σ:St) (H:Hp) (x:V) (xs:List V) (v:Value) (us:List Value) (Q:VK),zk X pins σ H s->RelV x v->zJ xs us->r x xs H Q ->
  wpAny (model X.prog X.w) X.A (call (.builtin id) (v :: us)) (EP X pins σ Q) X.xe s
def zJ.one:∀ {x:V} {us:List Value},zJ [x] us->∃ u,us=[u]/\RelV x u
 | _,_,.cons r .nil=>⟨_,rfl,r⟩
def zJ.zero:∀ {us:List Value},zJ [] us->us=[]
 | _,.nil=>rfl
def zJ.dropLast {xs:List V}{us:List Value}(h:zJ xs us):zJ xs.dropLast us.dropLast:=by
 induction h with
 | nil=>exact .nil
 | cons r t ih =>
  cases t with
  | nil=>exact .nil
  | cons q t'=>exact .cons r ih
def tI {α:Type}(l:List α):l.eraseIdx (l.length - 1)=l.dropLast:=by
 induction l with
 | nil=>rfl
 | cons a r ih =>
  cases r with
  | nil=>rfl
  | cons b r =>
   have e:(a :: b :: r).length - 1=((b :: r).length - 1) + 1:=by
    have h1:(a :: b :: r).length=r.length + 2:=rfl;have h2:(b :: r).length=r.length + 1:=rfl;omega
   rw [e,List.eraseIdx_cons_succ,ih]
   all_goals rfl
def zk.lset {its its':List Value}{n:Nat}{f:Array Value->Array Value}{t':Nat}(I:zk X pins σ H s)(hH:H l=some (.lst xs))
  (e:s.heap.get? l=some { cls:=.type "list",data:=.seq its.toArray n }) (hf:f its.toArray=its'.toArray) (hv:zJ ys its') (hz:ys.length<=sizeLine) :
  zk X pins σ (zW H l (.lst ys)) { s with heap:=s.heap.update l (Obj.mapSeq f),toks:=t' }:=by
 have q:=PySem.IsL.update e f;rw [hf] at q;refine I.write (x:=l) (e:=l) (by rw [hH];exact trivial) (.inl rfl) (λb' u hb hu=>(Heap.get?_update_other s.heap (Obj.mapSeq f) (Ne.symm hb)).trans hu) ⟨_,q⟩ ?_;exact ⟨hz,its',_,hv,q⟩
def zk.lnew {its:List Value}{t':Nat}(I:zk X pins σ H s)(hv:zJ ys its)(hz:ys.length<=sizeLine) :
  zk X pins σ (zW H s.heap.objs.size (.lst ys)) { s with heap:=s.heap.push { cls:=.type "list",data:=.seq its.toArray },toks:=t' } :=
 I.laid (λ_ _ q=>Heap.get?_push_of_some _ q) (Nat.le_refl _) ⟨hz,its,0,hv,Heap.get?_push_size _ rfl⟩
def zk.fresh (I:zk X pins σ H s):H s.heap.objs.size=none:=I.hok.fresh (Nat.le_refl _)
def zk.lstM (I:zk X pins σ H s)(hH:H l=some (.lst xs)):xs.length<=sizeLine/\∃ (its:List Value) (n:Nat),zJ xs its/\xs.length=its.length/\s.heap.get? l=some { cls:=.type "list",data:=.seq its.toArray n }:=by
 obtain ⟨z,its,n,r,e⟩:=I.hok l _ hH;exact ⟨z,its,n,r,r.length,e⟩
def Y7 {n:Nat}(h:n<=sizeLine):Builtin.List.listTooLong n=false:=by
 unfold Builtin.List.listTooLong;exact decide_eq_false (by omega)
def rn:V->List V->Hp->VK->Prop:=λx vs H Q=>∃ l xs y,x=.ref l/\vs=[y]/\H l=some (.lst xs)/\xs.length < sizeLine/\Q .non (zW H l (.lst (xs ++ [y])))
def wz:UK X "list.append" rn:=by
 intro pins s σ H x vs v us Q I rx rv h;obtain ⟨l,xs,y,rfl,rfl,hH,hz,q⟩:=h;cases rx;obtain ⟨u,rfl,ru⟩:=rv.one;obtain ⟨z,its,n,r,hl,e⟩:=I.lstM hH;refine call_meets F.slot_list_append ⟨_,e,rfl⟩ F.entry_list_append (F.args_list_append_2 _ _) (PySem.list_append l its.toArray n u (by rw [List.size_toArray];omega)) ⟨e,?_⟩;refine ⟨.non,_,I.lset (its':=its ++ [u]) hH e (by simp) (r.append (.cons ru .nil)) ?_,rfl,q⟩;rw [List.length_append,List.length_singleton];omega
def rp:V->List V->Hp->VK->Prop:=λx vs H Q=>∃ l b xs zs,x=.ref l/\vs=[.ref b]/\H l=some (.lst xs)/\H b=some (.lst zs)/\xs.length + zs.length<=sizeLine/\Q .non (zW H l (.lst (xs ++ zs)))
def ZD:UK X "list.extend" rp:=by
 intro pins s σ H x vs v us Q I rx rv h;obtain ⟨l,b,xs,zs,rfl,rfl,hH,hB,hz,q⟩:=h;cases rx;obtain ⟨u,rfl,ru⟩:=rv.one;cases ru;obtain ⟨z,its,n,r,hl,e⟩:=I.lstM hH;obtain ⟨z2,its2,n2,r2,hl2,e2⟩:=I.lstM hB;have hsz:its.toArray.size + its2.toArray.size<=sizeLine:=by rw [List.size_toArray,List.size_toArray];omega
 have hlong:¬ (!its.toArray.isEmpty && Builtin.List.listTooLong (its.toArray.size + its2.toArray.size))=true:=by
  rw [Y7 hsz,Bool.and_false];exact Bool.false_ne_true
 refine call_meets F.slot_list_extend ⟨_,e,rfl⟩ F.entry_list_extend (F.args_list_extend_2 _ _)
  (AutoSeq1.list_extend_list_list_0 l its.toArray n b its2.toArray n2 hlong (by rw [List.size_toArray];omega) (by omega)) ⟨e,e2,?_⟩
 refine ⟨.non,_,I.lset (its':=its ++ its2) hH e (by simp) (r.append r2) ?_,rfl,q⟩;rw [List.length_append];omega
def Qa:V->List V->Hp->VK->Prop:=λx vs H Q=>∃ l xs y,x=.ref l/\vs=[]/\H l=some (.lst xs)/\xs[xs.length - 1]? = some y/\Q y (zW H l (.lst xs.dropLast))
def Y8:UK X "list.pop" Qa:=by
 intro pins s σ H x vs v us Q I rx rv h;obtain ⟨l,xs,y,rfl,rfl,hH,hy,q⟩:=h;cases rx;have hus:=rv.zero;subst hus;obtain ⟨z,its,n,r,hl,e⟩:=I.lstM hH;obtain ⟨u,hu,ru⟩:=r.get hy
 have hy':its.toArray[its.toArray.size - 1]? = some u:=by
  show its.toArray[its.length - 1]? = some u;rw [<- Array.getElem?_toList,<- hl];exact hu
 refine call_meets F.slot_list_pop ⟨_,e,rfl⟩ F.entry_list_pop (F.args_list_pop_1 _) (MeetsSeq.list_pop_last l its.toArray n u hy' (by rw [List.size_toArray];omega)) ⟨e,?_⟩;refine ⟨y,_,I.lset (its':=its.dropLast) hH e ?_ r.dropLast ?_,ru,q⟩
 ·show its.toArray.eraseIdxIfInBounds (its.toArray.size - 1)=its.dropLast.toArray
  rw [List.size_toArray,List.eraseIdxIfInBounds_toArray,tI]
 ·rw [List.length_dropLast]
  omega
section
def Qb {a c n:Nat}(hac:a<=c)(hc:c<=n):sliceBounds (some (a:Int)) (some (c:Int)) none n=((a:Int),(c:Int),1):=by
 simp only [sliceBounds,Option.getD_none];have h1:¬ ((a:Int) < 0):=by omega
 have h2:¬ ((c:Int) < 0):=by omega
 simp only [h1,h2,if_false,show (1:Int) > 0 by decide,if_true]
 congr 1
 ·omega
 ·congr 1;omega
end
section
variable {κ:Type} [DecidableEq κ]
def xF (kvs:List (κ×V))(k:κ):Option V:=(kvs.find? λkv=>decide (kv.1=k)).map (·.2)
def v3 (kvs:List (κ×V))(k:κ)(v:V):List (κ×V) :=
 if (kvs.any λkv=>decide (kv.1=k))=true then kvs.map (λkv=>if kv.1=k then (kv.1,v) else kv) else kvs ++ [(k,v)]
theorem jO {p:κ×V}{r:List (κ×V)}{k:κ}(e:p.1=k):xF (p :: r) k=some p.2:=by simp [xF,List.find?_cons,e]
theorem jP {p:κ×V}{r:List (κ×V)}{k:κ}(e:¬ p.1=k):xF (p :: r) k=xF r k:=by simp [xF,List.find?_cons,e]
theorem kZ (k:κ):∀ kvs:List (κ×V),(kvs.any λkv=>decide (kv.1=k))=(xF kvs k).isSome
 | []=>rfl
 | p :: r=>by
  rw [List.any_cons]
  by_cases e:p.1=k
  ·simp only [jO e,decide_eq_true e,Bool.true_or,Option.isSome_some]
  ·rw [jP e,decide_eq_false e,Bool.false_or];exact kZ k r
theorem ba (k j:κ)(y:V):∀ kvs:List (κ×V),xF (kvs.map λkv=>if kv.1=k then (kv.1,y) else kv) j=(xF kvs j).map λx=>if j=k then y else x
 | []=>rfl
 | p :: r=>by
  have ih:=ba k j y r;rw [List.map_cons]
  by_cases h:p.1=k
  ·rw [if_pos h]
   by_cases e:p.1=j
   ·rw [jO (p:=(p.1,y)) e,jO e,Option.map_some,if_pos (e.symm.trans h)]
   ·rw [jP (p:=(p.1,y)) e,jP e,ih]
  ·rw [if_neg h]
   by_cases e:p.1=j
   ·rw [jO (p:=p) e,jO e,Option.map_some,if_neg (λz=>h (e.trans z))]
   ·rw [jP (p:=p) e,jP e,ih]
theorem eu (k j:κ)(y:V):∀ kvs:List (κ×V),xF kvs k=none->xF (kvs ++ [(k,y)]) j=if j=k then some y else xF kvs j
 | [],_=>by
  by_cases e:k=j
  ·rw [if_pos e.symm];exact jO (p:=(k,y)) e
  ·rw [if_neg (λz=>e z.symm)];exact jP (p:=(k,y)) e
 | p :: r,hn=>by
  rw [List.cons_append];have hk:¬ p.1=k:=λz=>by rw [jO z] at hn;cases hn
  rw [jP hk] at hn;have ih:=eu k j y r hn
  by_cases e:p.1=j
  ·rw [jO e,jO e,if_neg (λz=>hk (e.trans z))]
  ·rw [jP e,jP e,ih]
theorem Y9 (kvs:List (κ×V))(k j:κ)(y:V):xF (v3 kvs k y) j=if j=k then some y else xF kvs j:=by
 unfold v3
 by_cases a:(kvs.any λkv=>decide (kv.1=k))=true
 ·rw [if_pos a,ba]
  rw [kZ] at a
  by_cases e:j=k
  ·obtain ⟨x,hx⟩:=Option.isSome_iff_exists.mp a
   rw [if_pos e,e,hx,Option.map_some,if_pos rfl]
  ·rw [if_neg e]
   cases xF kvs j with
   | none=>rfl
   | some x=>rw [Option.map_some,if_neg e]
 ·rw [if_neg a]
  refine eu k j y kvs ?_;rw [kZ] at a
  cases q:xF kvs k with
  | none=>rfl
  | some x=>rw [q] at a;exact (a rfl).elim
theorem n6 (kvs:List (κ×V))(k:κ)(v:V):(v3 kvs k v).length<=kvs.length + 1:=by
 unfold v3
 split
 ·rw [List.length_map];omega
 ·rw [List.length_append,List.length_cons,List.length_nil];omega
theorem Ya {kvs:List (κ×V)}{k:κ}(v:V)(h:xF kvs k=none):v3 kvs k v=kvs ++ [(k,v)]:=by
 unfold v3;rw [kZ,h];exact if_neg (by decide)
theorem qZ.isSome_eq {o:Option V}{u:Option Value}(r:qZ o u):o.isSome=u.isSome:=by
 cases o with
 | none=>cases u with
  | none=>rfl
  | some _=>exact (show False from r).elim
 | some _=>cases u with
  | none=>exact (show False from r).elim
  | some _=>rfl
theorem qZ.getD {o:Option V}{u:Option Value}{d:V}{d':Value}(r:qZ o u)(rd:RelV d d'):RelV (o.getD d) (u.getD d'):=by
 cases o with
 | none=>cases u with
  | none=>exact rd
  | some _=>exact (show False from r).elim
 | some _=>cases u with
  | none=>exact (show False from r).elim
  | some _=>exact r
theorem KV.val {kvs:List (κ×V)}{vs:List (κ×Value)}(r:KV kvs vs)(k:κ):qZ (xF kvs k) (valueAt vs k):=by
 unfold KV at r
 induction r with
 | nil=>exact True.intro
 | @cons p q ps qs h t ih =>
  obtain ⟨h1,h2⟩:=h
  by_cases e:p.1=k
  ·have e':q.1=k:=h1.symm.trans e
   have b:valueAt (q :: qs) k=some q.2:=by simp [valueAt,List.find?_cons,e']
   rw [jO e,b];exact h2
  ·have e':¬ q.1=k:=λz=>e (h1.trans z)
   have b:valueAt (q :: qs) k=valueAt qs k:=by simp [valueAt,List.find?_cons,e']
   rw [jP e,b];exact ih
theorem KV.any {kvs:List (κ×V)}{vs:List (κ×Value)}(r:KV kvs vs)(k:κ):(kvs.any λkv=>decide (kv.1=k))=vs.any λkv=>decide (kv.1=k):=by
 unfold KV at r
 induction r with
 | nil=>rfl
 | cons h t ih=>rw [List.any_cons,List.any_cons,ih,h.1]
theorem KV.repl {kvs:List (κ×V)}{vs:List (κ×Value)}(r:KV kvs vs)(k:κ){y:V}{u:Value}(ry:RelV y u) :
  KV (kvs.map λkv=>if kv.1=k then (kv.1,y) else kv) (vs.map λkv=>if kv.1=k then (kv.1,u) else kv):=by
 unfold KV at r ⊢
 induction r with
 | nil=>exact .nil
 | @cons p q ps qs h t ih =>
  rw [List.map_cons,List.map_cons];refine .cons ?_ ih;obtain ⟨h1,h2⟩:=h
  by_cases e:p.1=k
  ·rw [if_pos e,if_pos (h1.symm.trans e)];exact ⟨h1,ry⟩
  ·rw [if_neg e,if_neg (λz=>e (h1.trans z))];exact ⟨h1,h2⟩
theorem KV.put {kvs:List (κ×V)}{vs:List (κ×Value)}(r:KV kvs vs)(k:κ){y:V}{u:Value}(ry:RelV y u):KV (v3 kvs k y) (stored vs k u):=by
 unfold v3 stored;rw [r.any k]
 by_cases e:(vs.any λkv=>decide (kv.1=k))=true
 ·rw [if_pos e,if_pos e];exact r.repl k ry
 ·rw [if_neg e,if_neg e];exact Paired.snoc r ⟨rfl,ry⟩
theorem KV.length {kvs:List (κ×V)}{vs:List (κ×Value)}(r:KV kvs vs):kvs.length=vs.length:=Paired.length r
end
def ez {P:Program}{w:World}{k:Key}{u:Value}(r:RelV (kV k) u):(j3 P w).is k u=true:=by
 cases k with
 | inl i=>obtain ⟨t,e⟩:=(show ∃ t,u=Value.int i t from r);subst e;exact cU P w i t
 | inr x=>obtain ⟨t,e⟩:=(show ∃ t,u=Value.str x t from r);subst e;exact cV P w x t
def eA {P:Program}{w:World} : ∀ {ks:List Key} {us:List Value},zJ (ks.map kV) us->ItemsAre (j3 P w) ks us
 | [],_,r=>by rw [List.map_nil] at r;cases r;exact .nil
 | k :: ks,_,r=>by
  rw [List.map_cons] at r
  cases r with
  | cons h t=>exact .cons (ez h) (eA t)
abbrev KT (H:Hp):List (List Key×V)->List (List Key×Addr×Value)->Prop:=Paired λp q=>p.1=q.1/\H q.2.1=some (.tup (p.1.map kV))/\RelV p.2 q.2.2
def KT.val {H:Hp}{kvs:List (List Key×V)}{xs:List (List Key×Addr×Value)}(r:KT H kvs xs)(k:List Key):qZ (xF kvs k) ((atKey xs k).map (·.2)):=by
 induction r with
 | nil=>exact True.intro
 | @cons p q ps qs h t ih =>
  obtain ⟨h1,_,h2⟩:=h
  by_cases e:p.1=k
  ·have e':q.1=k:=h1.symm.trans e
   have b:atKey (q :: qs) k=some q.2:=by simp [atKey,List.find?_cons,e']
   rw [jO e,b];exact h2
  ·have e':¬ q.1=k:=λz=>e (h1.trans z)
   have b:atKey (q :: qs) k=atKey qs k:=by simp [atKey,List.find?_cons,e']
   rw [jP e,b];exact ih
def KT.repl {H:Hp}{kvs:List (List Key×V)}{xs:List (List Key×Addr×Value)}(r:KT H kvs xs)(k:List Key){y:V}{u:Value}(ry:RelV y u) :
  KT H (kvs.map λkv=>if kv.1=k then (kv.1,y) else kv) (xs.map (putAt k u)):=by
 induction r with
 | nil=>exact .nil
 | @cons p q ps qs h t ih =>
  rw [List.map_cons,List.map_cons];refine .cons ?_ ih;obtain ⟨h1,h2,h3⟩:=h;unfold putAt
  by_cases e:p.1=k
  ·rw [if_pos e,if_pos (h1.symm.trans e)];exact ⟨h1,h2,ry⟩
  ·rw [if_neg e,if_neg (λz=>e (h1.trans z))];exact ⟨h1,h2,h3⟩
def KT.put {H:Hp}{kvs:List (List Key×V)}{xs:List (List Key×Addr×Value)}(r:KT H kvs xs)(k:List Key){b:Addr}{y:V}{u:Value}(hb:H b=some (.tup (k.map kV)))(ry:RelV y u) :
  KT H (v3 kvs k y) (storedH xs k b u):=by
 have e:(kvs.any λkv=>decide (kv.1=k))=(atKey xs k).isSome:=by
  rw [kZ,(r.val k).isSome_eq,Option.isSome_map]
 unfold v3 storedH;rw [e]
 by_cases q:(atKey xs k).isSome=true
 ·rw [if_pos q,if_pos q];exact r.repl k ry
 ·rw [if_neg q,if_neg q];exact Paired.snoc r ⟨rfl,hb,ry⟩
def KT.keeps {H H':Hp}{kvs:List (List Key×V)}{xs:List (List Key×Addr×Value)}(r:KT H kvs xs)(ht:∀ b ys,H b=some (.tup ys)->H' b=some (.tup ys)):KT H' kvs xs :=
 Paired.mapP r λ_ _ z=>⟨z.1,ht _ _ z.2.1,z.2.2⟩
def K1 {u:HO}(ok:gd P w H h)(e:Rd H a u):jd P w H h a u:=e.ok ok
def pI {kvs:List (Key×V)}(ok:gd P w H h)(e:Rd H a (.dK kvs)):kvs.length<=sizeLine/\(a == sysModules)=false/\∃ vs,KV kvs vs/\h.DictOf (j3 P w) a vs :=
 show jd P w H h a (.dK kvs) from K1 ok e
def GU {kvs:List (Key×V)}(ok:gd P w H h)(e:H a=some (.dK kvs)):kvs.length<=sizeLine/\(a == sysModules)=false/\∃ vs,KV kvs vs/\h.DictOf (j3 P w) a vs:=pI ok (.inl e)
def uA {ks:List Key}(ok:gd P w H h)(e:H a=some (.tup (ks.map kV))):(tupleKind (j3 P w)).is h ks a:=by
 obtain ⟨_,its,r,o,h1,h2,n,h3⟩:=(show jd P w H h a (.tup (ks.map kV)) from ok a _ e)
 exact ⟨o,its.toArray,n,h1,h2,h3,by simpa using eA r⟩
def mD {kvs:List (List Key×V)}(ok:gd P w H h)(e:Rd H a (.dT kvs)):kvs.length<=sizeLine/\(a == sysModules)=false /\
  ∃ xs,KT H kvs xs/\h.DictOfH (tupleKind (j3 P w)) a xs:=by
 obtain ⟨z,y,xs,r,o,es,ep,h1,h2,h3,h4,h5⟩:=(show jd P w H h a (.dT kvs) from K1 ok e)
 refine ⟨z,y,xs,r,o,es,ep,h1,h2,h3,h4,λx hx => ?_,h5⟩
 have all:∀ {l:List (List Key×V)} {m:List (List Key×Addr×Value)},KT H l m->∀ x∈m,(tupleKind (j3 P w)).is h x.1 x.2.1:=by
  intro l m q
  induction q with
  | nil=>intro x hx;exact nomatch hx
  | @cons p q ps qs hq t ih =>
   intro x hx
   rcases List.mem_cons.mp hx with e | hx
   ·subst e
    exact uA ok (by rw [<- hq.1];exact hq.2.1)
   ·exact ih x hx
 exact all r x hx
def GV {kvs:List (List Key×V)}(ok:gd P w H h)(e:H a=some (.dT kvs)):kvs.length<=sizeLine/\(a == sysModules)=false /\
  ∃ xs,KT H kvs xs/\h.DictOfH (tupleKind (j3 P w)) a xs:=mD ok (.inl e)
def gV (H:Hp)(a:Addr)(y:V)(r:Option V):Prop :=
 (∃ kvs k,Rd H a (.dK kvs)/\y=kV k/\r=xF kvs k)\/∃ kvs k b,Rd H a (.dT kvs)/\y=.ref b/\H b=some (.tup (k.map kV))/\r=xF kvs k
def tJ (H:Hp)(a:Addr)(y v:V)(H':Hp):Prop :=
 (∃ kvs k,H a=some (.dK kvs)/\y=kV k/\kvs.length < sizeLine/\H'=zW H a (.dK (v3 kvs k v))) \/
 ∃ kvs k b,H a=some (.dT kvs)/\y=.ref b/\H b=some (.tup (k.map kV))/\kvs.length < sizeLine/\H'=zW H a (.dT (v3 kvs k v))
def gV.k {H:Hp}{a:Addr}{kvs:List (Key×V)}{k:Key}(e:H a=some (.dK kvs)):gV H a (kV k) (xF kvs k):=.inl ⟨kvs,k,.inl e,rfl,rfl⟩
def tJ.k {H:Hp}{a:Addr}{kvs:List (Key×V)}{k:Key}{v:V}(e:H a=some (.dK kvs))(hl:kvs.length < sizeLine):tJ H a (kV k) v (zW H a (.dK (v3 kvs k v))):=.inl ⟨kvs,k,e,rfl,hl,rfl⟩
def zk.big (I:zk X pins σ H s):sysModules < s.heap.objs.size:=by
 have h:mainGlobals < s.heap.objs.size:=(I.mod.glob.keeps I.bk).lt;exact Nat.lt_trans (by decide) h
def eB {Q:Value->Shared->Prop}(hu:A.units + 1 < cLine)(I:zk X pins σ H s)(g:gV H a y (some v))(ry:RelV y u)(h:∀ w' s',zk X pins σ H s'->RelV v w'->Q w' s') :
  wpAny (model X.prog X.w) A (getItem (.ref a) u) Q E s:=by
 rcases g with ⟨kvs,k,e,ey,l⟩ | ⟨kvs,k,b,e,ey,eb,l⟩
 ·subst ey
  obtain ⟨z,hd,vs,rel,dd⟩:=pI I.hok e;obtain ⟨w',hw,rw'⟩:=qZ.some_of (v:=v) (o:=valueAt vs k) (by rw [l];exact rel.val k);exact wpAny_getItem_of (ez ry) dd.mapOf hw (h w' _ (I.tok _) rw')
 ·subst ey
  cases (show u=Value.ref b from ry);obtain ⟨z,hd,xs,rel,dd⟩:=mD I.hok e;obtain ⟨w',hw,rw'⟩:=qZ.some_of (v:=v) (o:=(atKey xs k).map (·.2)) (by rw [l];exact rel.val k);obtain ⟨p,hp,hp2⟩:=Option.map_eq_some_iff.mp hw;refine wpAny_getItem_heap (tupleKind_room_in1 hu) (uA I.hok eb) dd hp ?_;rw [hp2];exact h w' _ (I.tok _) rw'
def UL {Q:Value->Shared->Prop}(hu:A.units + 1 < cLine)(I:zk X pins σ H s)(g:gV H a y o)(ry:RelV y u)(h:∀ s',zk X pins σ H s'->Q (.bool o.isSome) s') :
  wpAny (model X.prog X.w) A (compareOp .In u (.ref a)) Q E s:=by
 rcases g with ⟨kvs,k,e,ey,l⟩ | ⟨kvs,k,b,e,ey,eb,l⟩
 ·subst ey
  obtain ⟨z,hd,vs,rel,dd⟩:=pI I.hok e;refine wpAny_in_of (ez ry) hd dd.mapOf ?_;rw [<- (rel.val k).isSome_eq,<- l];exact h _ (I.tok _)
 ·subst ey
  cases (show u=Value.ref b from ry);obtain ⟨z,hd,xs,rel,dd⟩:=mD I.hok e;refine wpAny_in_heap (tupleKind_room_in1 hu) (uA I.hok eb) hd dd ?_;have q:=(rel.val k).isSome_eq;rw [Option.isSome_map] at q;rw [<- q,<- l];exact h _ (I.tok _)
def rq {Q:Value->Shared->Prop}(hu:A.units + 1 < cLine)(I:zk X pins σ H s)(g:gV H a y o)(ry:RelV y u)(h:∀ s',zk X pins σ H s'->Q (.bool (!o.isSome)) s') :
  wpAny (model X.prog X.w) A (compareOp .NotIn u (.ref a)) Q E s:=by
 rcases g with ⟨kvs,k,e,ey,l⟩ | ⟨kvs,k,b,e,ey,eb,l⟩
 ·subst ey
  obtain ⟨z,hd,vs,rel,dd⟩:=pI I.hok e;refine wpAny_notIn_of (ez ry) hd dd.mapOf ?_;rw [<- (rel.val k).isSome_eq,<- l];exact h _ (I.tok _)
 ·subst ey
  cases (show u=Value.ref b from ry);obtain ⟨z,hd,xs,rel,dd⟩:=mD I.hok e;refine wpAny_notIn_heap (tupleKind_room_in1 hu) (uA I.hok eb) hd dd ?_;have q:=(rel.val k).isSome_eq;rw [Option.isSome_map] at q;rw [<- q,<- l];exact h _ (I.tok _)
def rz {h':Heap}{t':Nat}{ob:HO}(I:zk X pins σ H s)(mu:Gu (H a))(hs:Heap.SameBut a s.heap h')(he:∃ q,h'.get? a=some q)(new:jd X.prog X.w (zW H a ob) h' a ob) :
  zk X pins σ (zW H a ob) { s with heap:=h',toks:=t' } :=
 I.write (x:=a) (e:=a) mu (.inl rfl) (λb q hb z=>(hs.2 b hb).trans z) he new
def Qc {P:Program}{w:World}{H':Hp}{h':Heap}{kvs:List (Key×V)}{vs:List (Key×Value)}(z:kvs.length<=sizeLine)(hd:(a == sysModules)=false)(rel:KV kvs vs)(dd:h'.DictOf (j3 P w) a vs) :
  jd P w H' h' a (.dK kvs):=⟨z,hd,vs,rel,dd⟩
def ZE {H':Hp}{Q:Unit->Shared->Prop}(hu:A.units + 1 < cLine)(I:zk X pins σ H s)(g:tJ H a y v H')(ry:RelV y u)(rv:RelV v r)(h:∀ s',zk X pins σ H' s'->Q () s') :
  wpAny (model X.prog X.w) A (setItem (.ref a) u r) Q E s:=by
 rcases g with ⟨kvs,k,e,ey,l,eH⟩ | ⟨kvs,k,b,e,ey,eb,l,eH⟩
 ·subst ey eH
  obtain ⟨z,hd,vs,rel,dd⟩:=GU I.hok e;have hz:vs.length<=sizeLine:=by rw [<- rel.length];exact z
  have hl:(v3 kvs k v).length<=sizeLine:=by have:=n6 kvs k v;omega
  refine wpAny_setItem_pairs (hsz:=hz) (ez ry) dd λh' dd' hs=>h _ ?_;have he:∃ q,h'.get? a=some q:=let ⟨q,_,_,hq,_⟩:=dd';⟨q,hq⟩
  exact rz I (by rw [e];exact True.intro) hs he (Qc hl hd (rel.put k rv) dd')
 ·subst ey eH
  cases (show u=Value.ref b from ry);obtain ⟨z,hd,xs,rel,dd⟩:=GV I.hok e;have hz:xs.length<=sizeLine:=by rw [<- Paired.length rel];exact z
  have hl:(v3 kvs k v).length<=sizeLine:=by have:=n6 kvs k v;omega
  refine wpAny_setItem_heap (hsz:=hz) (tupleKind_room_in1 hu) (uA I.hok eb) dd λh' dd' hs=>h _ ?_;obtain ⟨q,es,ep,hq,h2,h3,h4,_,h5⟩:=dd';refine rz I (by rw [e];exact True.intro) hs ⟨q,hq⟩ ⟨hl,hd,_,(rel.put k eb rv).keeps λc ys ec => ?_,q,es,ep,hq,h2,h3,h4,h5⟩;rw [zd (pC ec e (λz=>nomatch z))];exact ec
def Qd (i:Expr):Prop := ∀ ov iv,subscripted i false ov iv=operate [ov,iv] (getItem ov iv)
def WH {prog:Program}{w:World}{A:Around}{E:Value->Shared->Prop}{s:Shared}{env:Env}{value slice:Expr}{pos:Pos}{T id:String}{Q:Value->Shared->Prop}
  (hl:typeLookup (.type T) "__getitem__" = pure (some (.builtin id))) (hs:Qd slice)
  (h:wpAny (model prog w) A (eval value env) (λo s₁=>wpAny (model prog w) A (eval slice env) (λi s₂=>s₂.TypeIs o T/\wpAny (model prog w) A (getItem o i) Q E s₂) E s₁) E s) :
  wpAny (model prog w) A (eval (.Subscript value slice pos) env) Q E s:=by
 refine Subscript_ (wpAny_mono h (λo s₁ h₁=>wpAny_mono h₁ (λi s₂ h₂ => ?_) λ_ _ x=>x) λ_ _ x=>x);obtain ⟨hT,h₂⟩:=h₂;unfold subscriptTail;refine wpAny_bind ?_;rw [getitemInPython_of_ne hT.not_modules];refine wpAny_bind (wpAny_specialOf hT hl ?_)
 have fin:wpAny (model prog w) A (subscripted slice false o i) (λr s₃=>wpAny (model prog w) A (letTemporaryGo value o r >>= λ_=>pure r) Q E s₃) E s₂:=by
  rw [hs o i];exact wpAny_operating (wpAny_mono h₂ (λr s₃ h₃=>wpAny_bind (wpAny_letTemporaryGo (wpAny_pure h₃))) λ_ _ x=>x)
 first
  | exact wpAny_pure (wpAny_bind fin)
  | exact wpAny_bind (wpAny_pure (wpAny_bind fin))
  | exact wpAny_bind fin
def n8 {X:Cx}{pins:List (Addr×Obj)}{σ:St}{H:Hp}{s:Shared}{a:Addr}{y:V}{o:Option V}(I:zk X pins σ H s)(g:gV H a y o):s.TypeIs (.ref a) "dict" := by
 rcases g with ⟨kvs,k,e,_,_⟩ | ⟨kvs,k,b,e,_,_,_⟩
 ·obtain ⟨_,_,vs,_,dd⟩:=pI I.hok e
  exact dd.typeIs
 ·obtain ⟨_,_,xs,_,dd⟩:=mD I.hok e
  exact dd.typeIs
def GW (td ty:TE):TE:=λσ H Q=>td σ H λx H1=>ty σ H1 λy H2=>∃ a v,x=.ref a/\gV H2 a y (some v)/\Q v H2
def WI (ty td:TE):TE:=λσ H Q=>ty σ H λy H1=>td σ H1 λx H2=>∃ a o,x=.ref a/\gV H2 a y o/\Q (.bl (!o.isSome)) H2
def eC (td ty tv:TE):TS:=λD σ H=>tv σ H λv H1=>td σ H1 λx H2=>ty σ H2 λy H3=>∃ a H4,x=.ref a/\tJ H3 a y v H4/\D.nx σ H4
def WJ (hu:X.A.units + 1 < cLine)(ho:PE X o td)(hi:PE X i ty)(hs:Qd i):PE X (.Subscript o i pos) (GW td ty):=by
 intro pins s σ H Q I h;refine WH PySem.F.slot_dict_getitem.lookup hs (jx (ho pins s σ H _ I h) λu s1 ⟨x,H1,I1,rx,q1⟩=>jx (hi pins s1 σ H1 _ I1 q1) λiv s2 ⟨y,H2,I2,ry,a,v,ex,g,q2⟩ => ?_);subst ex;obtain rfl:u=Value.ref a:=rx;exact ⟨n8 I2 g,eB hu I2 g ry λw' s3 I3 rw'=>⟨v,H2,I3,rw',q2⟩⟩
def ZF (hu:X.A.units + 1 < cLine)(hi:PE X i ty)(ho:PE X o td):PC X .NotIn i o (WI ty td):=by
 intro pins s σ H Q I h;refine jx (hi pins s σ H _ I h) λiv s1 ⟨y,H1,I1,ry,q1⟩=>jx (ho pins s1 σ H1 _ I1 q1) λu s2 ⟨x,H2,I2,rx,a,ov,ex,g,q2⟩ => ?_;subst ex;obtain rfl:u=Value.ref a:=rx;exact rq hu I2 g ry λs3 I3=>⟨.bl (!ov.isSome),H2,I3,rfl,q2⟩
def qw (hu:X.A.units + 1 < cLine)(ho:PE X o td)(hi:PE X i ty)(hv:PE X value tv)(hs:swapsWith value (some (.Subscript o i pos')) pos.line X.env=pure false) :
  PS X (.Assign [.Subscript o i pos'] value pos) (eC td ty tv):=by
 intro pins s σ H D I h;refine wpAny_Assign_Subscript (jx (hv pins s σ H _ I h) λr s1 ⟨v,H1,I1,rv,q1⟩=>jx (ho pins s1 σ H1 _ I1 q1) λu s2 ⟨x,H2,I2,rx,q2⟩=>jx (hi pins s2 σ H2 _ I2 q2) λiv s3 ⟨y,H3,I3,ry,a,H4,ex,g,q3⟩ => ?_) hs;subst ex;obtain rfl:u=Value.ref a:=rx;exact ZE hu I3 g ry rv λs4 I4=>⟨σ,H4,I4,q3⟩
def bb {P:Program}{w:World}{H:Hp}(h:Heap)(hb:sysModules < h.objs.size):jd P w H (h.push { cls:=.type "dict",data:=.dict #[] }) h.objs.size (.dK []) :=
 ⟨Nat.zero_le _,beq_eq_false_iff_ne.mpr (Ne.symm (Nat.ne_of_lt hb)),[],.nil,Heap.DictOf.new h⟩
def dz:TE:=λ_ H Q=>∀ p,H p=none->Q (.ref p) (zW H p (.dK []))
def mE:PE X (.Dict [] [] pos) dz:=λpins s σ H Q I h =>
 wpAny_Dict_empty ⟨.ref s.heap.objs.size,_,I.laid (a:=s.heap.objs.size) (o:=.dK []) (t':=s.toks) (λ_ _ q=>Heap.get?_push_of_some _ q) (Nat.le_refl _) (bb s.heap I.big),rfl,h _ (I.hok.fresh (Nat.le_refl _))⟩
structure M1 (X:Cx) (o:Expr) (m:Str) (apos:Pos) (e:Expr) (cpos:Pos):Prop where
 base:attributeBase o m X.env (eval o X.env)=eval o X.env
 few:((backTo cpos (starEach [e] X.env)).all (λx => !x.1) && (backToKw cpos (keywordEach [] X.env)).all (λx=>x.1.isSome)
  && decide (([e]:List Expr).length + ([]:List Keyword).length + (if ([]:List Keyword).isEmpty then 0 else 1) < 30))=true
 line:(apos.endLine == cpos.line)=true
 trees:backTo cpos (starEach [e] X.env)=[(false,eval e X.env)]
structure M2 (X:Cx) (o:Expr) (m:Str) (apos:Pos) (e f:Expr) (cpos:Pos):Prop where
 base:attributeBase o m X.env (eval o X.env)=eval o X.env
 few:((backTo cpos (starEach [e,f] X.env)).all (λx => !x.1) && (backToKw cpos (keywordEach [] X.env)).all (λx=>x.1.isSome)
  && decide (([e,f]:List Expr).length + ([]:List Keyword).length + (if ([]:List Keyword).isEmpty then 0 else 1) < 30))=true
 line:(apos.endLine == cpos.line)=true
 trees:backTo cpos (starEach [e,f] X.env)=[(false,eval e X.env),(false,eval f X.env)]
def Nv (H:Hp)(a:Addr):Prop:=(∃ kvs,Rd H a (.dK kvs))\/∃ kvs,Rd H a (.dT kvs)
def tK {X:Cx}{pins:List (Addr×Obj)}{σ:St}{H:Hp}{s:Shared}{a:Addr}(I:zk X pins σ H s)(d:Nv H a) :
  s.TypeIs (.ref a) "dict" /\ (∀ b,Value.ref a=.ref b->∃ ob,s.heap.get? b=some ob/\ob.dict=none)/\(a == sysModules)=false:=by
 rcases d with ⟨kvs,e⟩ | ⟨kvs,e⟩
 ·obtain ⟨_,hd,vs,_,dd⟩:=pI I.hok e
  refine ⟨dd.typeIs,λb q => ?_,hd⟩;cases q;obtain ⟨ob,_,_,h1,h2,_⟩:=dd;exact ⟨ob,h1,h2.2.1⟩
 ·obtain ⟨_,hd,xs,_,dd⟩:=mD I.hok e
  refine ⟨dd.typeIs,λb q => ?_,hd⟩;cases q;obtain ⟨ob,_,_,h1,h2,_⟩:=dd;exact ⟨ob,h1,h2.2.1⟩
def Qe {Q:Value->Shared->Prop}(hu:A.units + 1 < cLine)(I:zk X pins σ H s)(g:gV H a y o)(ry:RelV y u)(h:∀ w' s',zk X pins σ H s'->RelV (o.getD .non) w'->Q w' s') :
  wpAny (model X.prog X.w) A (call (.builtin "dict.get") [.ref a,u]) Q E s:=by
 rcases g with ⟨kvs,k,e,ey,l⟩ | ⟨kvs,k,b,e,ey,eb,l⟩
 ·subst ey
  obtain ⟨z,hd,vs,rel,dd⟩:=pI I.hok e;refine call_meetsIn PySem.F.slot_dict_get dd.typeIs PySem.F.entry_dict_get (PySem.F.args_dict_get_2 _ _) (meets_dict_get (j3 X.prog X.w) a (ez ry) hd) ⟨_,dd.mapOf,h _ _ (I.tok _) ?_⟩;rw [l];exact (rel.val k).getD rfl
 ·subst ey
  cases (show u=Value.ref b from ry);obtain ⟨z,hd,xs,rel,dd⟩:=mD I.hok e;refine call_meetsIn PySem.F.slot_dict_get dd.typeIs PySem.F.entry_dict_get (PySem.F.args_dict_get_2 _ _) (meetsH_dict_get (tupleKind (j3 X.prog X.w)) a b hd) ⟨tupleKind_room_in1 hu,k,xs,uA I.hok eb,dd,h _ _ (I.tok _) ?_⟩;rw [l];exact (rel.val k).getD rfl
def Qf (td ty:TE):TE:=λσ H Q=>td σ H λx H1=>∃ a,x=.ref a/\Nv H1 a/\ty σ H1 λy H2=>∃ o,gV H2 a y o/\Q (o.getD .non) H2
def Yb (hu:X.A.units + 1 < cLine)(ho:PE X o td)(he:PE X e ty)(m:M1 X o "get" apos e cpos):PE X (.Call (.Attribute o "get" apos) [e] [] cpos) (Qf td ty):=by
 intro pins s σ H Q I h;refine wpAny_Call_method m.base m.few m.line PySem.F.plainAttrs_dict PySem.F.slot_dict_get PySem.F.type_dict_get (jx (ho pins s σ H _ I h) λu s1 ⟨x,H1,I1,rx,a,ex,d,q1⟩ => ?_);subst ex;obtain rfl:u=Value.ref a:=rx;obtain ⟨t1,t2,_⟩:=tK I1 d;refine ⟨t1,t2,?_⟩;rw [m.trees];refine Calls.callWith_builtin rfl (Calls.evalArgs_plain (Calls.spliced_cons (jx (he pins s1 σ H1 _ I1 q1) λiv s2 ⟨y,H2,I2,ry,ov,g,q2⟩=>Calls.spliced_nil ?_)));exact Qe hu I2 g ry λw' s3 I3 rw'=>⟨_,H2,I3,rw',q2⟩
end L2
namespace Att
open PySem PySem.W PySem.Calls PyProof.Rows
def nG {P:Params}{h:Heap} : ∀ (ns:List Int) (vs:List Value),WellAll P h vs (ns.map WData.int)->IntsAre vs ns:=by
 intro ns
 induction ns with
 | nil =>
  intro vs w;rw [List.map_nil] at w;cases w;exact .nil
 | cons n ns ih =>
  intro vs w;rw [List.map_cons] at w
  cases w with
  | cons a b =>
   cases a;exact .cons _ _ (ih _ b)
def ZG {l:OpenLaw}{n:Nat}(hn:l.most=some n){P:Params}{h:Heap}{args:List WData}{vals:List Value}
  (hpre:l.row.toRowW.claim.pre args=true) (hwl:WellAll P h vals args) :
  ∃ a vs ns,vals=[Value.ref a]/\args=[WData.list (ns.map WData.int)]/\h.get? a=some { cls:=.type "list",data:=.seq vs.toArray } /\ IntsAre vs ns/\ns.length<=n:=by
 have hsh:WShape.hasAll [] args [.list .int]=true:=(pre_splitW hpre).1;have hc:l.pre.holds [] { args:=args } = true:=(pre_splitW hpre).2;obtain ⟨d,r,rfl,h1,h2⟩:=hasAllW_cons hsh;obtain rfl:=hasAllW_nil h2;obtain ⟨xs,rfl,h3⟩:=hasW_list h1;obtain ⟨ns,rfl⟩:=items_int h3
 have hlen:ns.length<=n:=by
  unfold OpenLaw.pre at hc
  have h4:(WTm.not (.lt (.lit (.int (n:Int))) (.len (.arg 0)))).holds [] { args:=[.list (ns.map .int)] } = true:=by
   have h4:=(holds_andW hc).1;rw [hn] at h4;exact h4
  have h5:=condW_of h4 (w_not (w_lt w_lit (w_len_list (w_arg rfl))));rw [List.length_map] at h5;refine Nat.le_of_not_lt λq => ?_;have q':(n:Int) < ((ns.length:Nat):Int):=by omega
  first
   | (rw [decide_eq_true q'] at h5;exact absurd h5 (by decide))
   | (simp at h5;omega)
 cases hwl with
 | cons w1 w2 =>
  cases w2
  cases w1 with
  | list ho hall=>exact ⟨_,_,ns,rfl,rfl,ho,nG ns _ hall,hlen⟩
def ZH (l:OpenLaw)(args:List WData):l.row.toRowW.claim.post args (.bool true) args=true :=
 postW_of (r:=l.row.toRowW) (X:=(true == true))
  (show WShape.has [] (.bool true) .bool=true by first | rfl | decide | simp [WShape.has,WShape.arms,WShape.armsAll])
  (show (WTm.eq .res (.lit (.bool true))).value [] { args:=args,res:=some (.bool true),after:=args } = some (.bool (true == true)) from w_eq_bool (w_res rfl) w_lit) rfl
def attach_call {l:OpenLaw}{n:Nat}{q:Program}{loose:List Str}{XP:(Str->Option Value)->Heap->Prop}{YP:World->Heap->Prop}{d:DefRec}
  (hn:l.most=some n) (hdf:d.params.defaults=[])
  (call:∀ (w:World) (s₀ s₁:Shared) (mg mb:Str->Option Value) (fa:Addr) (o:Obj) (pm cd doc:Value) (a:Addr) (vs:List Value) (ns:List Int),
   Ground q loose [] XP w s₀ mg mb s₁.heap->YP w s₁.heap ->
   s₁.heap.get? fa=some o->o.data=.func (docDef d.name d.params d.body d.scope pm cd doc)->s₁.heap.CodeRec cd d.name->mg d.name=some (.ref fa) ->
   s₁.heap.get? a=some { cls:=.type "list",data:=.seq vs.toArray } -> IntsAre vs ns->ns.length<=n->s₁.gens = #[] ->
   codeAny (model l.prog w) callerA (.call (.ref fa) ⟨[.ref a],[]⟩) (λr s'=>r=.ok (.ret (.bool true))/\OldK s₁.heap s'.heap/\s'.os=s₁.os/\AllBare s'.gens) s₁) :
  WalkO q loose XP YP l.row.toRowW d [] (λf vs=>PySem.call f vs):=by
 intro w s₀ s₁ mg mb G Y fa o pm cd doc dV kV ho hd hcd hD hmg hg args vals as hpre hlay hrd hwl hlo;obtain rfl:dV=.none:=Dflts.none hD hdf;obtain rfl:kV=.none:=Dflts.noKw hD;obtain ⟨a,vs,ns,rfl,rfl,hobj,hints,hlen⟩:=ZG hn hpre hwl;refine enter_call (codeAny_mono (call w s₀ s₁ mg mb fa o pm cd doc a vs ns G Y ho (fd_plain hd) hcd hmg hobj hints hlen hg) λr s' hq => ?_);obtain ⟨rfl,h2,h3,h4⟩:=hq;exact ⟨.inl ⟨.bool true,.bool true,[],rfl,λ_=>rfl,.bool true,ZH l _,λ_=>⟨List.Pairwise.nil,λ_ hm=>(nomatch hm)⟩⟩,h2,h3,h4⟩
section
variable {prog:Program}{w:World}{A:Around}{E:Value->Shared->Prop}{s:Shared}{K:Frag}
def UM (h:Heap)(L d:Addr):List (Addr×Obj):=(List.range h.objs.size).filterMap λa=>if a=L\/a=d then none else (h.get? a).map λo=>(a,o)
end
end Att
namespace L2
open PySem PySem.Spec PyProof.Rows
def eD:∀ {vs:List Value} {ns:List Int},IntsAre vs ns->zJ (ns.map V.int) vs
 | _,_,.nil=>.nil
 | _,_,.cons n t h=>.cons ⟨t,rfl⟩ (eD h)
def Qg (H:Hp):Prop := ∀ b,H b=none\/b=tabP\/∃ o xs,H b=some (.frz o (.lst xs))
def Yc {P:Program}{w:World}{K:W.Frag}{mg mb:Str->Option Value}{CX:Wz}{k:Nat}{fa a:Addr}{fd:FuncData}{x:Str}{sp:Sp}{s₁:Shared}{vs:List Value}{ns:List Int}
  {c₀:Addr} (KX:K.In s₁.heap) (hT:s₁.heap.get? tabP=some { cls:=.none,data:=.fields #[] }) (hC:W.CodeHd s₁.heap c₀ tabP) (hKT:W.noTabs K=true) (hbm:∃ bm ob,mg "__builtins__" = some (.ref bm)/\bm≠builtinsNs/\s₁.heap.get? bm=some ob/\ob.cls=.type "module" /\ ob.dict=some builtinsNs/\ob.data=.plain) (hns:s₁.heap.Ns mainGlobals mg) (hb:s₁.heap.Ns builtinsNs mb) (hbb:∀ x:Str,x ≠ "__name__" -> mb x=bootBuiltins x) (hlim:s₁.heap.NoLimit) (hg:s₁.gens = #[])
  (ha:s₁.heap.get? a=some { cls:=.type "list",data:=.seq vs.toArray }) (hi:IntsAre vs ns) (hl:ns.length<=sizeLine) (hr:jD k callerA)
  (F:∀ base:Heap,K.In base->base.Ns mainGlobals mg->vg P w K mg base CX k fa fd [x] sp) (hbind:∀ (s:Shared) (u:Value),BindsTo s fd ⟨[u],[]⟩ [(x,u)])
  (hsp:∀ H:Hp,Qg H->uv K H a (ns.map V.int)->sp [.ref a] H (λv _=>v=.bl true) λ_ _ _=>False)
  (hCX:∀ H e s',CX [] H s₁ (λ_ _ _=>False) e s'->False) :
  codeAny (model P w) callerA (.call (.ref fa) ⟨[.ref a],[]⟩) (λr s'=>r=.ok (.ret (.bool true))/\OldK s₁.heap s'.heap/\s'.os=s₁.os/\AllBare s'.gens) s₁:=by
 have rv:=eD hi;have lenV:=hi.length
 -- from an abstract heap in which nothing but the script may be tracked
 have core:∀ H:Hp,Qg H->uv K H a (ns.map V.int)->gd P w H s₁.heap->H tabP=some aS->(∀ b,H b≠none->b=a\/b=tabP)->(H a≠none->K.lookup a=none) ->
   codeAny (model P w) callerA (.call (.ref fa) ⟨[.ref a],[]⟩) (λr s'=>r=.ok (.ret (.bool true))/\OldK s₁.heap s'.heap/\s'.os=s₁.os/\AllBare s'.gens) s₁:=by
  intro H hO hS hok hTb hA hK
  have kT:K.lookup tabP=none:=by
   cases e:K.lookup tabP with
   | none=>rfl
   | some o =>
    have e1:=KX _ _ e;rw [hT] at e1;cases e1;have:=List.all_eq_true.mp hKT _ (W.mem_of_lookupK e);cases this
  have base_of:∀ {b:Addr} {o:Obj},s₁.heap.get? b=some o->H b=none->(dn s₁.heap H).get? b=some o:=λe n=>JP e n
  have noA:∀ {b:Addr} {o:Obj} {es:Array DictEntry} {ep:Nat},s₁.heap.get? b=some o->o.data=.dict es ep->H b=none:=λ{b o es ep} e d=>by
   cases q:H b with
   | none=>rfl
   | some u =>
    rcases hA b (by rw [q];simp) with e' | e'
    ·subst e'
     rw [ha] at e;cases e;have d':Data.seq vs.toArray _=Data.dict es ep:=d;cases d'
    ·subst e'
     rw [hT] at e;cases e;have d':Data.fields #[]=Data.dict es ep:=d;cases d'
  have nsK:∀ {b:Addr} {m:Str->Option Value},s₁.heap.Ns b m->(dn s₁.heap H).Ns b m:=λ{b m} ⟨o,es,ep,e,d,r⟩=>⟨o,es,ep,base_of e (noA e d),d,r⟩
  have hKb:K.In (dn s₁.heap H):=λb o e=>base_of (KX b o e) (by
   cases q:H b with
   | none=>rfl
   | some u =>
    rcases hA b (by rw [q];simp) with e' | e'
    ·subst e'
     rw [hK (by rw [q];simp)] at e;cases e
    ·subst e'
     rw [kT] at e;cases e)
  have hM:Mod K mg (dn s₁.heap H):=⟨hKb,nsK hns,⟨mb,nsK hb,hbb⟩,let ⟨mc,h1,h2⟩:=hlim;⟨mc,nsK h1,h2⟩,by
   obtain ⟨bm,ob,b1,b2,b3,b4,b5,b6⟩:=hbm;refine ⟨bm,ob,b1,b2,base_of b3 ?_,b4,b5,b6⟩
   cases q:H bm with
   | none=>rfl
   | some u =>
    rcases hA bm (by rw [q];simp) with e' | e'
    ·subst e'
     rw [ha] at b3;cases b3;cases b6
    ·subst e'
     rw [hT] at b3;cases b3;cases b6⟩
  have e0:b8 P w K mg (dn s₁.heap H) callerA [] s₁ H:=⟨rfl,hM,λb o e=>Wm e,Nat.le_of_eq (Zp _ _),trivial,λb hb=>absurd (show b∈([]:List Addr) from hb) (by simp),hTb,hok,.of_eq hg⟩
  refine codeAny_mono ((F _ hKb (nsK hns)).run callerA [] s₁ H ⟨[.ref a],[]⟩ [.ref a] [.ref a] _ _ hr e0 (hbind s₁ (.ref a)) (.cons rfl .nil) (hsp H hO hS)) λr s' h => ?_
  cases r with
  | error e=>exact (hCX H e s' h).elim
  | ok fl =>
   cases fl with
   | next=>exact False.elim h
   | brk=>exact False.elim h
   | cont=>exact False.elim h
   | ret u =>
    obtain ⟨v,H',os,bare,un,hok',r',q⟩:=h;have q':v=.bl true:=q;subst q';obtain rfl:u=Value.bool true:=r';have hk:∀ b o,b≠tabP->s₁.heap.get? b=some o->s'.heap.get? b=some o:=λb o hbP e => ?_;refine ⟨rfl,⟨λb o e => ?_,λb o e => ?_⟩,os,bare⟩
    ·by_cases hbP:b=tabP
     ·subst hbP
      rw [hT] at e;cases e;obtain ⟨ps,e2,_⟩:=(hok' _ _ (un.frzs _ _ _ hTb)).2;exact .inr (.inl ⟨let ⟨o,vs,_,_,_,_,_,_,_,e1,e2,e3,e4,_⟩:=hC;⟨_,o,vs,e1,e2,e3,e4⟩,rfl,#[],ps,rfl,by rw [Array.empty_append];exact e2⟩)
     ·exact .inl (hk b o hbP e)
    ·by_cases hbP:b=tabP
     ·subst hbP
      obtain ⟨ps,e2,_⟩:=(hok' _ _ (un.frzs _ _ _ hTb)).2;exact ⟨_,e2⟩
     ·exact ⟨o,hk b o hbP e⟩
    cases q:H b with
    | none=>exact un.keep b o e q (by intro z;exact absurd (show b∈([]:List Addr) from z) (by simp)) (by simp)
    | some u =>
     rcases hO b with z | z | ⟨ob,xs,z⟩
     ·rw [q] at z;cases z
     ·exact absurd z hbP
     ·have z2:=un.frzs b ob _ z
      obtain ⟨e1,_⟩:=hok b _ z;obtain ⟨e2,_⟩:=hok' b _ z2;have e1:=e1 rfl;rw [e] at e1;cases e1;exact e2 rfl
 have tne:a≠tabP:=λz=>by rw [z,hT] at ha;cases ha
 have tok:∀ H:Hp,jd P w H s₁.heap tabP aS:=λH=>by
  show jd P w H s₁.heap tabP (.frz _ (.tab Gs));exact ⟨λz=>(by cases z),#[],hT,trivial,λpos cv z=>(by cases z)⟩
 cases hk:K.lookup a with
 | some o =>
  -- the script is one of the module's own objects
  have e:=KX a o hk;rw [ha] at e;cases e;refine core (λb=>if b=tabP then some aS else none) (λb => ?_) (.inr ⟨_,vs.toArray,_,hk,rfl,rfl,rfl,by rw [List.size_toArray,lenV];exact hl,by simpa using rv⟩) (λb u z => ?_) (if_pos rfl) (λb z => ?_) λz=>absurd (if_neg tne) z
  ·by_cases hb:b=tabP
   ·exact .inr (.inl hb)
   ·exact .inl (if_neg hb)
  ·by_cases hb:b=tabP
   ·have z':=(if_pos hb).symm.trans z
    cases z';subst hb;exact tok _
   ·have z':=(if_neg hb).symm.trans z
    cases z'
  ·by_cases hb:b=tabP
   ·exact .inr hb
   ·exact absurd (if_neg hb) z
 | none =>
  refine core (λb=>if b=a then some (.frz { cls:=.type "list",data:=.seq vs.toArray } (.lst (ns.map V.int))) else if b=tabP then some aS else none) (λb => ?_) (.inl (.inr ⟨{ cls:=.type "list",data:=.seq vs.toArray },if_pos rfl⟩)) (λb u z => ?_) ((if_neg tne.symm).trans (if_pos rfl)) (λb z => ?_) λ_=>hk
  ·by_cases hb:b=a
   ·exact .inr (.inr ⟨_,_,if_pos hb⟩)
   ·by_cases hb2:b=tabP
    ·exact .inr (.inl hb2)
    ·exact .inl ((if_neg hb).trans (if_neg hb2))
  ·by_cases hb:b=a
   ·have z':=(if_pos hb).symm.trans z
    cases z';subst hb;exact ⟨λ_=>ha,by rw [List.length_map];exact hl,vs,_,rv,ha⟩
   ·by_cases hb2:b=tabP
    ·have z':=((if_neg hb).trans (if_pos hb2)).symm.trans z
     cases z';subst hb2;exact tok _
    ·have z':=((if_neg hb).trans (if_neg hb2)).symm.trans z
     cases z'
  ·by_cases hb:b=a
   ·exact .inl hb
   ·by_cases hb2:b=tabP
    ·exact .inr hb2
    ·exact absurd ((if_neg hb).trans (if_neg hb2)) z
abbrev Mf {K:W.Frag}{h:Heap}(_:K.In h):W.Frag:=K
def walk_of {l:W.OpenLaw}{n k:Nat}{q:Program}{loose:List Str}{XP:(Str->Option Value)->Heap->Prop}{YP:World->Heap->Prop}{d:DefRec}{K:Params->W.Frag}{CX:World->Wz}{sp:World->Sp}{x:Str}
  (hn:l.most=some n) (hn2:n<=sizeLine) (hdf:d.params.defaults=[]) (hr:jD k callerA)
  (hY:∀ (w:World) (h:Heap),YP w h->(K w.params).In h) (hYT:∀ (w:World) (h:Heap),YP w h->h.get? tabP=some { cls:=.none,data:=.fields #[] }) {c₀:Addr} (hYC:∀ (w:World) (h:Heap),YP w h->W.CodeHd h c₀ tabP) (hYN:∀ w:World,W.noTabs (K w.params)=true)
  (F:∀ (w:World) (mg:Str->Option Value) (fa:Addr) (h:Heap),(K w.params).In h->h.Ns mainGlobals mg->mg d.name=some (.ref fa) ->
   ∃ fd:FuncData,(∀ (s:Shared) (u:Value),BindsTo s fd ⟨[u],[]⟩ [(x,u)]) /\
    ∀ base:Heap,(K w.params).In base->base.Ns mainGlobals mg->vg l.prog w (K w.params) mg base (CX w) k fa fd [x] (sp w))
  (hsp:∀ (w:World) (H:Hp) (a:Addr) (ns:List Int),ns.length<=n->Qg H->uv (K w.params) H a (ns.map V.int)->sp w [.ref a] H (λv _=>v=.bl true) λ_ _ _=>False)
  (hCX:∀ (w:World) (H:Hp) (s:Shared) (e:Value) (s':Shared),CX w [] H s (λ_ _ _=>False) e s'->False) :
  W.WalkO q loose XP YP l.row.toRowW d [] (λf vs=>PySem.call f vs):=by
 refine Att.attach_call hn hdf λw s₀ s₁ mg mb fa o pm cd doc a vs ns G Y ho hd hcd hmg hobj hints hlen hg => ?_;have KX:=hY w _ Y;obtain ⟨fd,hb,hF⟩:=F w mg fa _ KX G.T.g hmg;exact Yc KX (hYT w _ Y) (hYC w _ Y) (hYN w) G.T.bmain G.T.g G.T.b G.T.builtins G.T.nolimit hg hobj hints (Nat.le_trans hlen hn2) hr hF hb (λH hO hS=>hsp w H a ns hlen hO hS) λH e s'=>hCX w H s₁ e s'
def zR (s:Stmt)(j:Nat):Stmt:=match s with
 | .ClassDef _ _ _ body _ _ _ _ _ _ _=>body.getD j (.Pass ⟨0,0,0,0⟩)
 | _=>.Pass ⟨0,0,0,0⟩
def jK (s:Stmt):Arguments:=match s with
 | .FunctionDef _ a _ _ _ _ _ _ _ _=>a
 | _ => { posonlyargs:=[],args:=[],vararg:=none,kwonlyargs:=[],kw_defaults:=[],kwarg:=none,defaults:=[] }
def j8 (s:Stmt):List Stmt:=match s with
 | .FunctionDef _ _ b _ _ _ _ _ _ _=>b
 | _=>[]
def z6 (s:Stmt):Scope:=match s with
 | .FunctionDef _ _ _ _ _ _ sc _ _ _=>sc
 | _ => { kind:=.function,names:=[],isGenerator:=false,isCoroutine:=false }
structure k8 (K:W.Frag) (x qual:Str) (st:Stmt) (f:Addr) (fd:FuncData):Prop where
 ex:∃ (oc:Value) (od:Option Addr) (kV doc pm:Value) (an:Option Addr) (cdv ct:Value) (osl:Array (Option Value)),
  fd=W.fnOf x qual (jK st) (j8 st) (z6 st) .none kV doc pm an cdv ct/\K.lookup f=some ⟨oc,od,.func fd,osl⟩/\W.codeIn K cdv qual=true
 kp:W.keepIn K (.ref f)=true
section
variable {P:Program}{w:World}{K:W.Frag}{mg:Str->Option Value}{base:Heap}
theorem k8.binds {x qual:Str}{st:Stmt}{f:Addr}{fd:FuncData}{ps:List Str}(F:k8 K x qual st f fd)
  (h:∀ (kV doc pm:Value) (an:Option Addr) (cdv ct:Value) (us:List Value),us.length=ps.length->bindArgs (W.fnOf x qual (jK st) (j8 st) (z6 st) .none kV doc pm an cdv ct) ⟨us,[]⟩=pure (ps.zip us)):kf K fd ps []:=by
 obtain ⟨oc,od,kV,doc,pm,an,cdv,ct,osl,rfl,lk,hcd⟩:=F.ex;exact .all (h kV doc pm an cdv ct)
theorem dA {x qual:Str}{st:Stmt}{f:Addr}{oc:Value}{od an:Option Addr}{osl:Array (Option Value)}{kV doc pm cdv ct:Value}(l:K.lookup f=some ⟨oc,od,.func (W.fnOf x qual (jK st) (j8 st) (z6 st) .none kV doc pm an cdv ct),osl⟩)
  (c:W.codeIn K cdv qual=true) (k:W.keepIn K (.ref f)=true):k8 K x qual st f (W.fnOf x qual (jK st) (j8 st) (z6 st) .none kV doc pm an cdv ct):=⟨⟨oc,od,kV,doc,pm,an,cdv,ct,osl,rfl,l,c⟩,k⟩
end
def pv (i:Nat){x:Str}{pos:Pos}(hN:X.N[i]? = some x:=by rfl)(hv:JC X.env.scope x:=by first | exact Or.inl rfl | exact Or.inr (Or.inl rfl) | exact Or.inr (Or.inr rfl))(hd:(x == ("__debug__" : Str))=false:=by decide)
  (hcd:(x == ("__classdict__" : Str))=false:=by decide):PE X (.Name x pos) (xw i):=qq hN hv hd hcd
section
variable {κ:Type} [DecidableEq κ]
theorem Yd {kvs:List (κ×V)}{k:κ}(h:xF kvs k=none):¬ k∈kvs.map (·.1):=by
 intro m;obtain ⟨p,hp,e⟩:=List.mem_map.mp m;have q:(kvs.any λkv=>decide (kv.1=k))=true:=List.any_eq_true.mpr ⟨p,hp,decide_eq_true e⟩;rw [kZ,h] at q;exact absurd q (by simp)
end
def ZI {α:Type}(xs:List α)(lo hi:Option Int):List α:=(xs.drop (HT.sIx xs.length 0 lo)).take (HT.sIx xs.length xs.length hi - HT.sIx xs.length 0 lo)
def nH (z:Str)(lo hi:Option Int):Str:=⟨(ZI z.cps.toList lo hi).toArray⟩
def bc (n:Nat)(d:Int):Option Int->Int
 | none=>d
 | some i=>max 0 (min (if i < 0 then i + (n:Int) else i) (n:Int))
def bd (n d:Nat)(hd:d<=n)(o:Option Int):bc n d o=((HT.sIx n d o:Nat):Int):=by
 cases o with
 | none=>rfl
 | some i =>
  simp only [bc,HT.sIx]
  split<;>omega
def n9 (lo hi:Option Int)(n:Nat):Builtin.Str.strSliceIndices lo hi 1 n=(List.range (HT.sIx n n hi - HT.sIx n 0 lo)).map (λk=>HT.sIx n 0 lo + k):=by
 have e:Builtin.Str.strSliceIndices lo hi 1 n=sliceRange (bc n ((0:Nat):Int) lo) (bc n (n:Int) hi) 1:=by
  unfold Builtin.Str.strSliceIndices;cases lo<;>cases hi<;>simp [bc]
 rw [e,bd n 0 (Nat.zero_le _),bd n n (Nat.le_refl _)];unfold sliceRange;simp only [show (1:Int) > 0 by decide,if_true]
 by_cases h:((HT.sIx n 0 lo:Nat):Int) < ((HT.sIx n n hi:Nat):Int)
 ·have e3:((((HT.sIx n n hi:Nat):Int) - ((HT.sIx n 0 lo:Nat):Int) + 1 - 1) / 1).toNat=HT.sIx n n hi - HT.sIx n 0 lo:=by
   rw [Int.ediv_one];omega
  simp only [h,if_true,e3];refine List.map_congr_left λk _ => ?_;omega
 ·have e4:HT.sIx n n hi - HT.sIx n 0 lo=0:=by omega
  simp [h,e4]
def Ye (z:Str)(lo hi:Option Int):Txt.slice z lo hi=nH z lo hi:=by
 have hn:z.cps.toList.length=z.length:=by simp [Str.length]
 have a1:=HT.sIx_le z.length 0 (Nat.zero_le _) lo;have a2:=HT.sIx_le z.length z.length (Nat.le_refl _) hi
 have pk:((Builtin.Str.strSliceIndices lo hi 1 z.length).filterMap (z.cps[·]?))=ZI z.cps.toList lo hi:=by
  rw [n9];unfold ZI;rw [hn]
  by_cases h:HT.sIx z.length 0 lo<=HT.sIx z.length z.length hi
  ·have:=StrLaws.picks z.cps.toList (HT.sIx z.length z.length hi - HT.sIx z.length 0 lo) (HT.sIx z.length 0 lo) (by rw [hn];omega)
   simpa using this
  ·have e4:HT.sIx z.length z.length hi - HT.sIx z.length 0 lo=0:=by omega
   simp [e4]
 unfold Txt.slice
 split
 ·rename_i h
  rw [Bool.and_eq_true] at h;have h2:(Builtin.Str.strSliceIndices lo hi 1 z.length).length=z.length:=by simpa using h.2
  rw [n9,List.length_map,List.length_range] at h2;have b1:HT.sIx z.length 0 lo=0\/z.length=0:=by omega
  have:ZI z.cps.toList lo hi=z.cps.toList:=by
   unfold ZI;rw [hn]
   rcases b1 with b1 | b1
   ·have b2:HT.sIx z.length z.length hi=z.length:=by omega
    rw [b1,b2,List.drop_zero];exact List.take_of_length_le (by rw [hn];omega)
   ·have:z.cps.toList=[]:=List.eq_nil_of_length_eq_zero (by rw [hn];exact b1)
    rw [this];simp
  unfold nH;rw [this]
 ·rw [pk];rfl
def UN:V->Option Int->Option Int->Hp->VK->Prop:=λx lo hi H Q=>∃ z,x=.str z/\z.length<=sizeLine/\Q (.str (nH z lo hi)) H
def Qh:GQ X UN:=by
 intro pins s σ H x v vl vu lo hi sl Q I rx hs pl pu h;obtain ⟨z,rfl,hz,q⟩:=h;obtain ⟨t,rfl⟩:=rx;refine ⟨"str",_,F.slot_str_getitem.lookup,typeIs_str _ _ _,?_⟩;have fin:∀ t' k,EP X pins σ Q (.str (Txt.slice z lo hi) t') { s with toks:=k }:=λt' k=>⟨.str (nH z lo hi),H,I.tok _,⟨t',by rw [Ye]⟩,q⟩;have hsz:(Txt.slice z lo hi).length<=sizeLine:=Nat.le_trans (Txt.slice_le z _ _) hz
 cases pl with
 | none =>
  cases pu with
  | none=>exact wpAny_getItem_str_slice (l:=none) (u:=none) (st:=none) hs rfl (post_val_or_str ⟨hsz,fin⟩)
  | int j tj=>exact wpAny_getItem_str_slice (l:=none) (u:=some (j,tj)) (st:=none) hs rfl (post_val_or_str ⟨hsz,fin⟩)
 | int i ti =>
  cases pu with
  | none=>exact wpAny_getItem_str_slice (l:=some (i,ti)) (u:=none) (st:=none) hs rfl (post_val_or_str ⟨hsz,fin⟩)
  | int j tj=>exact wpAny_getItem_str_slice (l:=some (i,ti)) (u:=some (j,tj)) (st:=none) hs rfl (post_val_or_str ⟨hsz,fin⟩)
def U7 (z:Str):It:=⟨λi _=>i < z.length,λi H x H'=>H'=H/\∃ c,z.cps[i]? = some c/\x=.str ⟨#[c]⟩,λi _=>z.length<=i⟩
def Yf {P:Program}{w:World}{K:W.Frag}{tg:Expr}(z:Str)(t:Tok)(it:Addr)(ty:String)(hty:ty = "str_ascii_iterator" \/ ty = "str_iterator"):aW P w K tg (U7 z) [it] it (λi h=>h.IsStrIter it ty z t i) where
 mem:=by simp
 obj:=λi h st b hb=>by
  have e:b=it:=by simpa using hb
  subst e;obtain ⟨o,e,c,d⟩:=st;exact ⟨o,e,λv z=>by rw [d] at z;cases z⟩
 keep:=λi h h' st k=>by
  obtain ⟨o,e,r⟩:=st;exact ⟨o,k it (by simp) o e,r⟩
 item:=by
  intro X hP hw hK hc i pins s σ H E I hf st hg;subst hP hw hK;obtain ⟨f0,f1,f2,f3,f4,f5⟩:=hf it (by simp);have hg:i < z.cps.size:=hg
  have fin:∀ h',h'.IsStrIter it ty z t (i + 1)->Heap.SameBut it s.heap h'->∃ u,(some (.str ⟨#[z.cps[i]]⟩ s.toks):Option Value)=some u /\
   wpAny (model X.prog X.w) X.A (letOwnedTupleGo tg (.ref it) u) (λ_ s2=>∃ x H',zk X pins σ H' s2/\RelV x u/\(U7 z).yld i H x H'/\s2.heap.IsStrIter it ty z t (i + 1)/\∀ b∈[it],H' b=none) E { s with heap:=h',toks:=s.toks + 1 }:=by
   intro h' st' sb;have I1:zk X pins σ H { s with heap:=h',toks:=s.toks + 1 }:=I.turned (λb o hb e=>(sb.2 b hb).trans e) f0 f1 f3 f4 f5;obtain ⟨o,e,c,d⟩:=id st';refine ⟨_,rfl,rg (s:={ s with heap:=h',toks:=s.toks + 1 }) e c d (by rcases hty with rfl | rfl<;>decide) ⟨.str ⟨#[z.cps[i]]⟩,H,I1,⟨_,rfl⟩,⟨rfl,z.cps[i],by simp [hg],rfl⟩,st',λb hb=>(hf b hb).1⟩⟩
  rcases hty with rfl | rfl
  ·exact wpAny_pyNext_ascii_item st (c:=z.cps[i]) (by simp [hg]) fin
  ·exact wpAny_pyNext_wide_item st (c:=z.cps[i]) (by simp [hg]) fin
 done:=by
  intro X hP hw hK hc i pins s σ H E I hf st hg;subst hP hw hK;obtain ⟨f0,f1,f2,f3,f4,f5⟩:=hf it (by simp);have hg:z.cps.size<=i:=hg
  rcases hty with rfl | rfl
  ·exact wpAny_pyNext_ascii_end (I.ok.hd hc) st (by simp [hg]) λh' eb=>⟨rfl,I.turned (t':=s.toks) (λb o hb e=>eb b o hb e) f0 f1 f3 f4 f5⟩
  ·exact wpAny_pyNext_wide_end (I.ok.hd hc) st (by simp [hg]) λh' eb=>⟨rfl,I.turned (t':=s.toks) (λb o hb e=>eb b o hb e) f0 f1 f3 f4 f5⟩
 self:=λ_ _ _ _ _ st h=>by
  rcases hty with rfl | rfl
  ·exact wpAny_pyIter_striter_ascii st h
  ·exact wpAny_pyIter_striter_wide st h
def GX (tl:TE):TI:=λσ H R=>tl σ H λx H1=>∃ z,x=.str z/\R (U7 z) H1
def Qi {l:Expr}{tl:TE}(hl:PE X l tl):PI X tg l (GX tl):=by
 intro pins s σ H R I h;refine jx (hl pins s σ H _ I h) λv s1 ⟨x,H1,I1,r1,q1⟩ => ?_;obtain ⟨z,e,q⟩:=q1;subst e;obtain ⟨t,rfl⟩:=r1
 have fin:∀ ty,ty = "str_ascii_iterator" \/ ty = "str_iterator" -> Uu X pins σ tg R (.ref s1.heap.objs.size) { s1 with heap:=s1.heap.push { cls:=.type ty,data:=.fields #[.str z t,.int 0 0] } }:=by
  intro ty hty;refine ⟨s1.heap.objs.size,[s1.heap.objs.size],_,_,H1,rfl,I1.kept (t':=s1.toks) λb o e=>Heap.get?_push_of_some _ e,Yf z t _ ty hty,⟨_,Heap.get?_push_size _ rfl,rfl,rfl⟩,λb hb => ?_,q⟩;have e:b=s1.heap.objs.size:=by simpa using hb
  subst e;exact I1.fpOk (Nat.le_refl _) (I1.hok.fresh (Nat.le_refl _))
 cases ha:z.cps.all (· < 128)
 ·exact wpAny_pyIter_wide ha (fin _ (.inr rfl))
 ·exact wpAny_pyIter_ascii ha (fin _ (.inl rfl))
def zN (K:W.Frag)(mg:Str->Option Value)(x:Str)(st:Stmt):Prop := ∃ f fd,k8 K x x st f fd/\mg x=some (.ref f)
def Yg (hg:Gl X x)(h:∃ t,X.mg x=some (.str z t))(hd:(x == ("__debug__" : Str))=false:=by decide):PE X (.Name x pos) (tC (.str z)):=by
 obtain ⟨t,h⟩:=h;exact nT hg h ⟨t,rfl⟩ hd
def Yh (hg:Gl X x)(h:∃ t,X.mg x=some (.int z t))(hd:(x == ("__debug__" : Str))=false:=by decide):PE X (.Name x pos) (tC (.int z)):=by
 obtain ⟨t,h⟩:=h;exact nT hg h ⟨t,rfl⟩ hd
def gg:bootBuiltins "len" = some (.builtin "len"):=by decide +kernel
def jj:bootBuiltins "isinstance" = some (.builtin "isinstance"):=by decide +kernel
def ZJ:bootBuiltins "sorted" = some (.builtin "sorted"):=by decide +kernel
def tL:bootBuiltins "all" = some (.builtin "all"):=by decide +kernel
def rA:bootBuiltins "bool" = some (.type "bool"):=by decide +kernel
def Yi:bootBuiltins "int" = some (.type "int"):=by decide +kernel
def dB:bootBuiltins "str" = some (.type "str"):=by decide +kernel
def vQ:bootBuiltins "tuple" = some (.type "tuple"):=by decide +kernel
def dC:bootBuiltins "enumerate" = some (.type "enumerate"):=by decide +kernel
end L2
namespace Fs
def mF (cs ss:List Nat):Nat:=(cs.takeWhile λc=>decide (c∈ss)).length
def runEnd (cs:List Nat)(s:Nat)(ss:List Nat):Nat:=s + mF (cs.drop s) ss
def runEnd_go {cs ss:List Nat}{e c:Nat}(h:cs[e]? = some c)(m:c∈ss):runEnd cs (e + 1) ss=runEnd cs e ss:=by
 unfold runEnd mF;have hlt:e < cs.length:=(List.getElem?_eq_some_iff.mp h).1;have hc:cs[e]=c:=(List.getElem?_eq_some_iff.mp h).2;rw [List.drop_eq_getElem_cons hlt,hc,List.takeWhile_cons,if_pos (by simp [m]),List.length_cons];omega
def runEnd_stop {cs ss:List Nat}{e c:Nat}(h:cs[e]? = some c)(m:¬ c∈ss):runEnd cs e ss=e:=by
 unfold runEnd mF;have hlt:e < cs.length:=(List.getElem?_eq_some_iff.mp h).1;have hc:cs[e]=c:=(List.getElem?_eq_some_iff.mp h).2;rw [List.drop_eq_getElem_cons hlt,hc,List.takeWhile_cons,if_neg (by simp [m])]
 rfl
def runEnd_out {cs ss:List Nat}{e:Nat}(h:cs.length<=e):runEnd cs e ss=e:=by
 unfold runEnd mF;rw [List.drop_eq_nil_of_le h]
 rfl
def eE {cs ss:List Nat}{e:Nat}(h:e<=cs.length):e<=runEnd cs e ss/\runEnd cs e ss<=cs.length:=by
 unfold runEnd mF;have h1:=(List.takeWhile_sublist (λc=>decide (c∈ss)) (l:=cs.drop e)).length_le;rw [List.length_drop] at h1;omega
def letters:List Nat:=[97,98,99,100,101,102,103,104,105,106,107,108,109,110,111,112,113,114,115,116,117,118,119,120,121,122]
def nameEnd (cs:List Nat)(s:Nat):Nat:=if runEnd cs s letters - s<=12 then runEnd cs s letters else s
def isName (cs:List Nat):Bool := !decide (cs=[]) && decide (nameEnd cs 0=cs.length)
def figures:List Nat:=[48,49,50,51,52,53,54,55,56,57]
def runEnd_ge (cs:List Nat)(s:Nat)(ss:List Nat):s<=runEnd cs s ss:=by unfold runEnd;omega
def bg (h:s < runEnd cs s ss):∃ c,cs[s]? = some c/\c∈ss:=by
 cases e:cs[s]? with
 | none =>
  have:=runEnd_out (ss:=ss) (List.getElem?_eq_none_iff.mp e);omega
 | some c =>
  refine ⟨c,rfl,Classical.byContradiction λm => ?_⟩;have:=runEnd_stop e m;omega
def nameEnd_ge (cs:List Nat)(s:Nat):s<=nameEnd cs s:=by
 unfold nameEnd;have:=runEnd_ge cs s letters
 split<;>omega
def nameEnd_lt (h:s < nameEnd cs s):s < cs.length/\nameEnd cs s<=cs.length:=by
 unfold nameEnd at h ⊢
 split at h
 ·rename_i h1
  rw [if_pos h1];obtain ⟨c,hc,_⟩:=bg h;have hl:=(List.getElem?_eq_some_iff.mp hc).1;exact ⟨hl,(eE (Nat.le_of_lt hl)).2⟩
 ·omega
def K2 (cs:List Nat)(s:Nat):Option Nat:=if nameEnd cs s=s then none else some (nameEnd cs s)
def Qj (cs:List Nat)(s:Nat):Option Nat:=if runEnd cs (s + 1) figures=s + 1 then none else some (runEnd cs (s + 1) figures)
def numberEnd (cs:List Nat)(s:Nat):Nat:=if s + 1 < runEnd cs (s + 1) figures then runEnd cs (s + 1) figures else s
def cQ (cs:List Nat)(e:Nat):Option Nat :=
 if h:cs[e]? = some 46 then
  if h2:e + 1 < nameEnd cs (e + 1) then cQ cs (nameEnd cs (e + 1)) else none
 else some e
 termination_by cs.length - e
 decreasing_by
  have:=(List.getElem?_eq_some_iff.mp h).1;have:=nameEnd_lt h2;omega
def pointsEnd (cs:List Nat)(e:Nat):Nat :=
 if h:cs[e]? = some 46 then
  if h2:e + 1 < nameEnd cs (e + 1) then pointsEnd cs (nameEnd cs (e + 1)) else e
 else e
 termination_by cs.length - e
 decreasing_by
  have:=(List.getElem?_eq_some_iff.mp h).1;have:=nameEnd_lt h2;omega
def dD (h:¬ cs[e]? = some 46):cQ cs e=some e:=by rw [cQ,dif_neg h]
def Yj (h:cs[e]? = some 46)(h2:e + 1 < nameEnd cs (e + 1)):cQ cs e=cQ cs (nameEnd cs (e + 1)):=by rw [cQ,dif_pos h,dif_pos h2]
def rB (h:cs[e]? = some 46)(h2:¬ e + 1 < nameEnd cs (e + 1)):cQ cs e=none:=by rw [cQ,dif_pos h,dif_neg h2]
def pe_no (h:¬ cs[e]? = some 46):pointsEnd cs e=e:=by rw [pointsEnd,dif_neg h]
def pe_go (h:cs[e]? = some 46)(h2:e + 1 < nameEnd cs (e + 1)):pointsEnd cs e=pointsEnd cs (nameEnd cs (e + 1)):=by rw [pointsEnd,dif_pos h,dif_pos h2]
def pe_bad (h:cs[e]? = some 46)(h2:¬ e + 1 < nameEnd cs (e + 1)):pointsEnd cs e=e:=by rw [pointsEnd,dif_pos h,dif_neg h2]
def tM (cs:List Nat):∀ (n e:Nat),cs.length - e<=n->(cQ cs e=some (pointsEnd cs e)/\¬ cs[pointsEnd cs e]? = some 46)\/(cQ cs e=none/\cs[pointsEnd cs e]? = some 46):=by
 intro n
 induction n with
 | zero =>
  intro e hn;have h:¬ cs[e]? = some 46:=λh=>by have:=(List.getElem?_eq_some_iff.mp h).1;omega
  rw [dD h,pe_no h];exact .inl ⟨rfl,h⟩
 | succ n ih =>
  intro e hn
  by_cases h:cs[e]? = some 46
  ·by_cases h2:e + 1 < nameEnd cs (e + 1)
   ·rw [Yj h h2,pe_go h h2]
    have:=nameEnd_lt h2;exact ih _ (by omega)
   ·rw [rB h h2,pe_bad h h2]
    exact .inr ⟨rfl,h⟩
  ·rw [dD h,pe_no h]
   exact .inl ⟨rfl,h⟩
def Qk (cs:List Nat):∀ (n e k:Nat),cs.length - e<=n->cQ cs e=some k->e<=k:=by
 intro n
 induction n with
 | zero =>
  intro e k hn hk;have h:¬ cs[e]? = some 46:=λh=>by have:=(List.getElem?_eq_some_iff.mp h).1;omega
  rw [dD h] at hk;cases hk;exact Nat.le_refl _
 | succ n ih =>
  intro e k hn hk
  by_cases h:cs[e]? = some 46
  ·by_cases h2:e + 1 < nameEnd cs (e + 1)
   ·rw [Yj h h2] at hk
    have:=nameEnd_lt h2;have:=ih _ k (by omega) hk;omega
   ·rw [rB h h2] at hk
    cases hk
  ·rw [dD h] at hk
   cases hk;exact Nat.le_refl _
def bh (cs:List Nat):Option Nat->Option Nat
 | none=>none
 | some e=>cQ cs e
def base (cs:List Nat)(R:Nat->Option Nat)(at':Nat):Option Nat :=
 if cs[at']? = some 40 then
  match R (at' + 1) with
  | none=>none
  | some j=>if cs[j]? = some 38 then
    match R (j + 1) with
    | none=>none
    | some k=>if cs[k]? = some 41 then some (k + 1) else none
   else none
 else if cs[at']? = some 35 then Qj cs at'
 else K2 cs at'
def mG (cs:List Nat):Nat->Nat->Option Nat
 | 0,_=>none
 | n + 1,at'=>bh cs (base cs (mG cs n) at')
def WK (h:bh cs o=some k):∃ e,o=some e/\e<=k:=by
 cases o with
 | none=>cases h
 | some e=>exact ⟨e,rfl,Qk cs _ e k (Nat.le_refl _) h⟩
def rC (cs:List Nat):∀ (n at' k:Nat),mG cs n at'=some k->at' < k:=by
 intro n
 induction n with
 | zero=>intro a k h;cases h
 | succ n ih =>
  intro a k h;obtain ⟨e,he,hk⟩:=WK h;refine Nat.lt_of_lt_of_le ?_ hk;unfold base at he
  split at he
  ·cases h1:mG cs n (a + 1) with
   | none=>rw [h1] at he;cases he
   | some j =>
    rw [h1] at he;have he:(if cs[j]? = some 38 then _ else none)=some e:=he
    split at he
    ·cases h2:mG cs n (j + 1) with
     | none=>rw [h2] at he;cases he
     | some m =>
      rw [h2] at he;have he:(if cs[m]? = some 41 then some (m + 1) else none)=some e:=he;have g1:=ih _ _ h1;have g2:=ih _ _ h2
      split at he
      ·cases he;omega
      ·cases he
    ·cases he
  ·split at he
   ·unfold Qj at he
    have:=runEnd_ge cs (a + 1) figures
    split at he
    ·cases he
    ·cases he;omega
   ·unfold K2 at he
    have:=nameEnd_ge cs a
    split at he
    ·cases he
    ·cases he;omega
def JD (cs:List Nat)(a:Nat):Nat:=(cs.drop a).count 40
def bn (cs:List Nat)(h:a<=b):JD cs b<=JD cs a:=by
 unfold JD;obtain ⟨d,rfl⟩:∃ d,b=a + d:=⟨b - a,by omega⟩
 rw [<- List.drop_drop];exact (List.drop_sublist _ _).count_le _
def bo (h:cs[a]? = some 40):JD cs a=JD cs (a + 1) + 1:=by
 obtain ⟨hl,hc⟩:=List.getElem?_eq_some_iff.mp h;unfold JD;rw [List.drop_eq_getElem_cons hl,hc,List.count_cons_self]
def Yk (cs:List Nat)(a:Nat):JD cs a<=cs.length:=by
 unfold JD;have:=List.count_le_length (a:=40) (l:=cs.drop a);rw [List.length_drop] at this;omega
def eF (cs:List Nat):∀ (n m at':Nat),JD cs at' < n->JD cs at' < m->mG cs n at'=mG cs m at':=by
 intro n
 induction n with
 | zero=>intro m a h1 h2;omega
 | succ n ih =>
  intro m a h1 h2
  cases m with
  | zero=>omega
  | succ m =>
   show bh cs (base cs (mG cs n) a)=bh cs (base cs (mG cs m) a)
   congr 1
   unfold base
   split
   ·rename_i hp
    have hc:=bo hp;rw [ih m (a + 1) (by omega) (by omega)]
    cases e:mG cs m (a + 1) with
    | none=>rfl
    | some j =>
     have:=rC cs _ _ _ e;have:=bn cs (show a + 1<=j + 1 by omega);show (if cs[j]? = some 38 then _ else none)=(if cs[j]? = some 38 then _ else none)
     rw [ih m (j + 1) (by omega) (by omega)]
   ·rfl
def K (cs:List Nat)(at':Nat):Option Nat:=mG cs (cs.length + 1) at'
def GY (cs:List Nat)(a:Nat):K cs a=bh cs (base cs (K cs) a):=by
 show bh cs (base cs (mG cs cs.length) a)=_
 congr 1
 unfold base
 split
 ·rename_i hp
  have hc:=bo hp;have hl:=Yk cs a;rw [eF cs cs.length (cs.length + 1) (a + 1) (by omega) (by omega)];show (match K cs (a + 1) with | none=>none | some j=>_)=_
  cases e:K cs (a + 1) with
  | none=>rfl
  | some j =>
   have:=rC cs _ _ _ e;have:=bn cs (show a + 1<=j + 1 by omega);show (if cs[j]? = some 38 then _ else none)=(if cs[j]? = some 38 then _ else none)
   rw [eF cs cs.length (cs.length + 1) (j + 1) (by omega) (by omega)]
   rfl
 ·rfl
def vR (cs:List Nat):List Nat->Nat->Bool
 | [],e=>decide (e=cs.length)
 | t :: st,e =>
  if t=38 then
   if cs[e]? = some 38 then
    match K cs (e + 1) with
    | none=>false
    | some k=>if cs[k]? = some 41 then (match cQ cs (k + 1) with | none=>false | some k'=>vR cs st k') else false
   else false
  else if cs[e]? = some 41 then (match cQ cs (e + 1) with | none=>false | some e'=>vR cs st e') else false
def ans (cs:List Nat)(st:List Nat)(a:Nat):Bool:=match K cs a with
 | none=>false
 | some e=>vR cs st e
def contP (cs:List Nat)(st:List Nat)(e:Nat):Bool:=if cs[e]? = some 46 then false else vR cs st e
def mH (cs st:List Nat)(e:Nat):vR cs (41 :: st) e=if cs[e]? = some 41 then (match cQ cs (e + 1) with | none=>false | some e'=>vR cs st e') else false:=by
 rw [vR,if_neg (by decide)]
def eG (cs st:List Nat)(e:Nat):vR cs (38 :: st) e=if cs[e]? = some 38 then ans cs (41 :: st) (e + 1) else false:=by
 rw [vR,if_pos rfl]
 split
 ·unfold ans
  cases K cs (e + 1) with
  | none=>rfl
  | some k=>exact (mH cs st k).symm
 ·rfl
def ans_open (h:cs[a]? = some 40):ans cs st a=ans cs (38 :: st) (a + 1):=by
 unfold ans;rw [GY cs a];unfold base;rw [if_pos h]
 cases e:K cs (a + 1) with
 | none=>rfl
 | some j =>
  show (match bh cs (if cs[j]? = some 38 then (match K cs (j + 1) with | none=>none | some k=>if cs[k]? = some 41 then some (k + 1) else none) else none) with | none=>false | some e=>vR cs st e)=vR cs (38 :: st) j;rw [vR,if_pos rfl]
  by_cases h3:cs[j]? = some 38
  ·rw [if_pos h3,if_pos h3]
   cases e2:K cs (j + 1) with
   | none=>rfl
   | some k =>
    show (match bh cs (if cs[k]? = some 41 then some (k + 1) else none) with | none=>false | some e=>vR cs st e)=(if cs[k]? = some 41 then _ else false)
    by_cases h4:cs[k]? = some 41
    ·rw [if_pos h4,if_pos h4]
     rfl
    ·rw [if_neg h4,if_neg h4]
     rfl
  ·rw [if_neg h3,if_neg h3]
   rfl
def headEnd (cs:List Nat)(a:Nat):Nat:=if cs[a]? = some 35 then numberEnd cs a else nameEnd cs a
def ans_head (h:¬ cs[a]? = some 40):ans cs st a=if headEnd cs a=a then false else contP cs st (pointsEnd cs (headEnd cs a)):=by
 have hb:base cs (K cs) a=if headEnd cs a=a then none else some (headEnd cs a):=by
  unfold base headEnd;rw [if_neg h]
  split
  ·unfold Qj numberEnd
   have:=runEnd_ge cs (a + 1) figures
   by_cases h1:runEnd cs (a + 1) figures=a + 1
   ·rw [if_pos h1,if_pos]
    rw [if_neg (by omega)]
   ·rw [if_neg h1,if_pos (show a + 1 < runEnd cs (a + 1) figures by omega),if_neg (by omega)]
  ·rfl
 unfold ans;rw [GY,hb]
 split
 ·rename_i h1;split at h1
  ·rename_i h2
   rw [if_pos h2]
  ·rename_i h2
   rw [if_neg h2]
   rcases tM cs _ (headEnd cs a) (Nat.le_refl _) with ⟨p1,p2⟩ | ⟨p1,p2⟩
   ·have h1:cQ cs (headEnd cs a)=none:=h1
    rw [p1] at h1;cases h1
   ·unfold contP
    rw [if_pos p2]
 ·rename_i e h1;split at h1
  ·cases h1
  ·rename_i h2
   rw [if_neg h2]
   rcases tM cs _ (headEnd cs a) (Nat.le_refl _) with ⟨p1,p2⟩ | ⟨p1,p2⟩
   ·have h1:cQ cs (headEnd cs a)=some e:=h1
    rw [p1] at h1;cases h1;unfold contP;rw [if_neg p2]
   ·have h1:cQ cs (headEnd cs a)=some e:=h1
    rw [p1] at h1;cases h1
def contP_close (h:cs[e]? = some 41):contP cs (41 :: st) e=contP cs st (pointsEnd cs (e + 1)):=by
 have h1:contP cs (41 :: st) e=vR cs (41 :: st) e:=by
  unfold contP;rw [if_neg (by rw [h];simp)]
 rw [h1,mH,if_pos h]
 rcases tM cs _ (e + 1) (Nat.le_refl _) with ⟨p1,p2⟩ | ⟨p1,p2⟩
 ·rw [p1]
  unfold contP;rw [if_neg p2]
 ·rw [p1]
  unfold contP;rw [if_pos p2]
def contP_nil (cs:List Nat)(e:Nat):contP cs [] e=decide (e=cs.length):=by
 unfold contP
 split
 ·rename_i h
  have:=(List.getElem?_eq_some_iff.mp h).1;exact (decide_eq_false (by omega)).symm
 ·rfl
def contP_amp (h:cs[e]? = some 38):contP cs (38 :: st) e=ans cs (41 :: st) (e + 1):=by
 unfold contP;rw [if_neg (by rw [h];simp),eG,if_pos h]
def contP_no (h:(t=41/\¬ cs[e]? = some 41)\/(t=38/\¬ cs[e]? = some 38)):contP cs (t :: st) e=false:=by
 unfold contP
 split
 ·rfl
 ·rcases h with ⟨rfl,h⟩ | ⟨rfl,h⟩
  ·rw [mH,if_neg h]
  ·rw [eG,if_neg h]
def isKind (cs:List Nat):Bool:=decide (K cs 0=some cs.length)
def isKind_ans (cs:List Nat):isKind cs=ans cs [] 0:=by
 unfold isKind ans
 cases K cs 0 with
 | none=>simp
 | some e=>simp [vR]
def pointsEnd_ge (cs:List Nat):∀ (n e:Nat),cs.length - e<=n->e<=pointsEnd cs e/\(e<=cs.length->pointsEnd cs e<=cs.length):=by
 intro n
 induction n with
 | zero =>
  intro e hn;have h:¬ cs[e]? = some 46:=λh=>by have:=(List.getElem?_eq_some_iff.mp h).1;omega
  rw [pe_no h];exact ⟨Nat.le_refl _,λh=>h⟩
 | succ n ih =>
  intro e hn
  by_cases h:cs[e]? = some 46
  ·by_cases h2:e + 1 < nameEnd cs (e + 1)
   ·rw [pe_go h h2]
    have:=nameEnd_lt h2;have:=ih (nameEnd cs (e + 1)) (by omega);omega
   ·rw [pe_bad h h2]
    exact ⟨Nat.le_refl _,λh=>h⟩
  ·rw [pe_no h]
   exact ⟨Nat.le_refl _,λh=>h⟩
def headEnd_le (cs:List Nat)(a:Nat):a<=headEnd cs a/\(a<=cs.length->headEnd cs a<=cs.length):=by
 unfold headEnd
 split
 ·rename_i h
  have hl:=(List.getElem?_eq_some_iff.mp h).1;have g:=eE (cs:=cs) (ss:=figures) (e:=a + 1) (by omega);unfold numberEnd
  split<;>omega
 ·have g:=nameEnd_ge cs a
  refine ⟨g,λh => ?_⟩
  by_cases h2:a < nameEnd cs a
  ·exact (nameEnd_lt h2).2
  ·omega
end Fs
namespace L2
open PySem PySem.Spec PyProof.Rows
def UO (z:Str)(e:Nat):nH z (some (e:Int)) (some ((e:Int) + 1))=⟨(z.cps.toList[e]?).toList.toArray⟩:=by
 have e1:((e:Int) + 1)=((e + 1:Nat):Int):=by omega
 unfold nH ZI;rw [e1,HT.sIx_nat,HT.sIx_nat]
 by_cases h:e < z.cps.toList.length
 ·rw [Nat.min_eq_left (Nat.le_of_lt h),Nat.min_eq_left h,List.drop_eq_getElem_cons h,List.getElem?_eq_getElem h]
  have:e + 1 - e=1:=by omega
  rw [this]
  rfl
 ·have e2:min e z.cps.toList.length=z.cps.toList.length:=by omega
  have e3:min (e + 1) z.cps.toList.length=z.cps.toList.length:=by omega
  rw [e2,e3,Nat.sub_self,List.take_zero,List.getElem?_eq_none_iff.mpr (by omega)]
  rfl
def Yl (z:Str)(e c:Nat):V.str (nH z (some (e:Int)) (some ((e:Int) + 1)))=V.str ⟨#[c]⟩↔z.cps.toList[e]? = some c:=by
 rw [UO]
 cases h:z.cps.toList[e]? with
 | none=>simp
 | some d=>simp
def rD {z:Str}{e c:Nat}{y:Str}(hy:y=⟨#[c]⟩):decide (V.str (nH z (some (e:Int)) (some ((e:Int) + 1)))=V.str y)=decide (z.cps.toList[e]? = some c):=by
 subst hy;exact decide_eq_decide.mpr (Yl z e c)
def zi (X:Cx)(scope:Scope)(cl:List (Str×Addr))(C:Addr)(N:List Str)(ex:List Addr)(pn:List (Addr×Obj))(s₀:Shared)(H₀:Hp):Cx :=
 { X with env:=compEnvC scope cl C X.env,N:=N,s₀:=s₀,H₀:=H₀,outer:=X.stack,ex:=ex,fn:=λ_=>false,pn:=pn,xe:=λ_ _=>False }
structure mI (X:Cx) (scope:Scope) (cl:List (Str×Addr)) (x:Str) (caps:List Str) (slots:List Nat):Prop where
 kind:scope.kind=.function
 nocell:∀ y∈scope.names,y.2≠.cell
 names:∀ y∈scope.names,y.2=.local->scope.names.lookup y.1=some .local
 hx:scope.names.lookup x=some .local
 clos:closureFor scope X.env=pure cl
 sub:∀ y c,cl.lookup y=some c->X.env.cells.lookup y=some c
 has:∀ y,((relabel scope X.env).names.lookup y=some .cell\/(relabel scope X.env).names.lookup y=some .free)->∃ c,cl.lookup y=some c
 cap:∀ (j:Nat) (y:Str),caps[j]? = some y->∃ k:Nat,slots[j]? = some k/\X.N[k]? = some y/\(relabel scope X.env).names.lookup y=some .cell/\X.env.scope.names.lookup y=some .cell
 nd:(x :: caps).Nodup
 len:slots.length=caps.length
def vU (σ:St)(slots:List Nat):St:=slots.map λk=>(σ[k]?).getD none
def rF (wi:TI)(tt:TT)(te:TE)(slots:List Nat):TE:=λσ H Q=>wi σ H λJ H1=>∀ D,H1 D=none->∃ W:Nat->Nat->List V->Hp->Prop,(∃ m,W 0 m [] (zW H1 D (.lst []))) /\
 ∀ i m ys H,W i m ys H->H D=some (.lst ys)/\((J.stop i H/\Q (.ref D) H)\/(J.go i H/\∀ v H',J.yld i H v H'->tt (some v :: vU σ slots) H' λb H2 =>
  if b=true then te (some v :: vU σ slots) H2 λy H3=>H3 D=some (.lst ys)/\ys.length < sizeLine/\∃ m',m' < m/\W (i + 1) m' (ys ++ [y]) (zW H3 D (.lst (ys ++ [y]))) else ∃ m',m' < m/\W (i + 1) m' ys H2))
def JE (X:Cx)(ifs:List Expr)(t:TT):Prop :=
 ∀ (pins:List (Addr×Obj)) (s:Shared) (σ:St) (H:Hp) (Q:Bool->Hp->Prop),zk X pins σ H s->t σ H Q ->
  wpAny (model X.prog X.w) X.A (forIn ifs true λc r=>if r=true then do let ok <- isTrue c X.env (eval c X.env);pure (ForInStep.yield ok) else pure (ForInStep.yield r)) (TP X pins σ Q) X.xe s
def GZ:TT:=λ_ H Q=>Q true H
def Ym:JE X [] GZ:=λ_ _ _ H _ I h=>wpAny_tests_nil ⟨H,I,h⟩
def WL (h:PT X c t):JE X [c] t:=λpins s σ H Q I hw=>wpAny_tests_one (h pins s σ H Q I hw)
def eI (I:zk X pins σ H s)(h:rF wi tt te slots σ H Q)
  (fin:∀ D C H5 s6 m,s6.heap.Ns C m->pF X pins H5 C->(∀ h',Heap.SameBut C s6.heap h'->zk X pins σ H5 { s6 with heap:=h' })->Q (.ref D) H5->compPost (model X.prog X.w) X.A X.xe use PQ (.ref D) C (.ok .next) s6)
  (hc:X.calm=true) (S:mI X scope cl x caps slots) (hi:PI X (.Name x px) iter wi)
  (ht:∀ C ex pn s₀ H₀,JE (zi X scope cl C (x :: caps) ex pn s₀ H₀) ifs tt) (he:∀ C ex pn s₀ H₀,PE (zi X scope cl C (x :: caps) ex pn s₀ H₀) elt te)
  (hs:∀ v,foldedSetIterable iter X.env v=pure v:=by intro _;rfl) (hg:∀ it v,letOwnedTupleGo (.Name x px) it v=pure ():=by intro _ _;rfl) :
  wpAny (model X.prog X.w) X.A (comprehension (.ListComp elt [⟨.Name x px,iter,ifs,0⟩] scope pos) scope X.env cpos (newList []) false (eval iter X.env) use) PQ X.xe s:=by
 refine wpAny_comprehension_free rfl hs S.clos S.kind S.names (jx (hi pins s σ H _ I h) λv s1 h1=>jx h1 λitv s2 h2 => ?_);obtain ⟨it,fp,tn,J,H1,e,I2,T,st2,f2,q⟩:=h2;subst e
 -- the new list,at D;then the block's map,at C
 obtain ⟨W,⟨m0,w0⟩,turn⟩:=q s2.heap.objs.size (I2.hok.fresh (Nat.le_refl _));refine wpAny_newObj_type ?_ (show (0:Nat)<=sizeLine from Nat.zero_le _);have I3:zk X pins σ (zW H1 s2.heap.objs.size (.lst [])) { s2 with heap:=s2.heap.push { cls:=.type "list",data:=.seq ([]:List Value).toArray } }:=I2.lnew .nil (Nat.zero_le _)
 have f3:∀ b∈fp,pF X pins (zW H1 s2.heap.objs.size (.lst [])) b:=λb hb=>by
  obtain ⟨f0,fr⟩:=f2 b hb;obtain ⟨o,ho,_⟩:=T.obj _ _ st2 b hb;exact ⟨by rw [zd (Nat.ne_of_lt (Heap.lt_size ho))];exact f0,fr⟩
 have st3:tn 0 (s2.heap.push { cls:=.type "list",data:=.seq ([]:List Value).toArray }):=T.keep _ _ _ st2 λb _ o e=>Heap.get?_push_of_some _ e;generalize hD:s2.heap.objs.size=D at I3 turn w0 f3 ⊢;generalize hs3:({ s2 with heap:=s2.heap.push { cls:=.type "list",data:=.seq ([]:List Value).toArray } } : Shared)=s3 at I3 ⊢;have st3:tn 0 s3.heap:=by rw [<- hs3];exact st3
 generalize hH3:zW H1 D (.lst [])=H3 at I3 w0 f3;refine wpAny_newFunctionEnv S.nocell (by intro y hy;simp at hy) (λh4 hns4 hsb4 => ?_) S.kind;generalize hC:s3.heap.objs.size=C at hns4 hsb4 ⊢;have neC:∀ b o,s3.heap.get? b=some o->b≠C:=λb o e=>by rw [<- hC];exact Nat.ne_of_lt (Heap.lt_size e)
 have old:∀ b o,s3.heap.get? b=some o->h4.get? b=some o:=λb o e=>hsb4.extBut b o (neC b o e) (Heap.get?_push_of_some _ e);have fpo:∀ b∈fp,∃ o,s3.heap.get? b=some o:=λb hb=>let ⟨o,ho,_⟩:=T.obj _ _ st3 b hb;⟨o,ho⟩
 have nst:∀ b∈fp,b∉r0 X.stack:=λb hb z=>(List.mem_cons.mp (I3.stkSub b z)).elim (f3 b hb).2.1 (f3 b hb).2.2.1;have lx:(relabel scope X.env).names.lookup x=some .local:=lookup_relabel_local S.hx
 have ok:(zi X scope cl C (x :: caps) fp (X.pn ++ pins) s3 H3).Ok :=
  {
   mod:=I3.ok.mod
   kind:=S.kind
   glob:=I3.ok.glob
   blt:=I3.ok.blt
   above:=by rw [<- hC];exact Nat.le_refl _
   inj:=λy z c h1 h2=>I3.ok.inj y z c (S.sub y c h1) (S.sub z c h2)
   has:=λy hy=>S.has y hy
   cab:=λy c h=>nomatch (show false=true from h)
   hd:=I3.ok.hd
   frames:=I3.ok.frames
   stk:=.inl rfl
   exf:=λb hb=>⟨let ⟨o,ho⟩:=fpo b hb;neC b o ho,λy c e=>(f3 b hb).2.2.2.2.1 y c (S.sub y c e)⟩
   bs:=λb o e=>I3.bs b o e
   bsz:=Nat.le_trans I3.ok.bsz I3.sz
   noex:=λb o e hb=>by
    rcases (f3 b hb).2.2.2.1 with z | z
    ·exact I3.ok.noex b o e z
    ·exact absurd (Nat.lt_of_lt_of_le (Heap.lt_size (I3.ok.bs b o e).1) z) (Nat.lt_irrefl _)
   exfs:=nst
   funs:=I3.stack
   frf:=I3.stkFree
   tab:=I3.tab }
 have I4:∀ tk,zk (zi X scope cl C (x :: caps) fp (X.pn ++ pins) s3 H3) [] (none :: vU σ slots) H3 { s3 with heap:=h4,toks:=tk }:=λtk=>by
  refine ⟨ok,rfl,I3.bare,Un.kept old,⟨_,hns4,λi y v h1 h2 h3 => ?_⟩,λy c e => ?_,by show H3 C=none;rw [<- hC];exact I3.hok.fresh (Nat.le_refl _),λy c e=>I3.freeC y c (S.sub y c e),λp hp => ?_,I3.hok.kept old,?_⟩
  ·cases i with
   | zero=>cases h2
   | succ i =>
    have h1:caps[i]? = some y:=h1;have h2:(vU σ slots)[i]? = some (some v):=h2;obtain ⟨k,hk,hN,hr,hcl⟩:=S.cap i y h1;have h2:(slots.map λk=>(σ[k]?).getD none)[i]? = some (some v):=h2;rw [List.getElem?_map,hk] at h2;have h2:(σ[k]?).getD none=some v:=Option.some.inj h2
    have h2:σ[k]? = some (some v):=by
     cases e:σ[k]? with
     | none=>rw [e] at h2;cases h2
     | some o=>rw [e] at h2;have:o=some v:=h2;rw [this]
    obtain ⟨m,hn,hl⟩:=I3.loc;obtain ⟨u,r,l⟩:=hl k y v hN h2 (.inr (.inl hcl));refine ⟨u,r,.inr ⟨.inl hr,?_⟩⟩
    rcases l with ⟨z,_⟩ | ⟨_,c,e1,⟨o,ho,hd⟩⟩
    ·have z:X.env.scope.names.lookup y=some .local:=z
     rw [hcl] at z;cases z
    ·obtain ⟨c',e2⟩:=S.has y (.inl hr)
     have e3:=S.sub y c' e2;rw [e1] at e3;cases e3;exact ⟨c,e2,o,old _ _ ho,hd⟩
  ·obtain ⟨v,o,ho,hd⟩:=I3.cell y c (S.sub y c e)
   exact ⟨v,o,old _ _ ho,hd⟩
  ·have hp:p∈(X.pn ++ pins) ++ []:=hp
   have hp:p∈X.pn ++ pins:=by simpa using hp
   obtain ⟨e,n,ne,nf,d⟩:=I3.pin p hp;exact ⟨old _ _ e,n,neC _ _ e,λz=>(List.mem_cons.mp (I3.stkSub _ z)).elim ne nf,d⟩
  ·show (none :: vU σ slots).length=(x :: caps).length
   unfold vU;rw [List.length_cons,List.length_cons,List.length_map,S.len]
 have stat:∀ {H':Hp},(∀ b∈fp,H' b=none)->∀ b∈fp,pF (zi X scope cl C (x :: caps) fp (X.pn ++ pins) s3 H3) [] H' b:=λhn b hb =>
  ⟨hn b hb,(ok.exf b hb).1,nst b hb,.inl hb,(ok.exf b hb).2,λp hp=>(f3 b hb).2.2.2.2.2 p (by have hp:p∈(X.pn ++ pins) ++ []:=hp;simpa using hp)⟩
 have loop:∀ tk,codeAny (model X.prog X.w) X.A (.compLoop (.ListComp elt [⟨.Name x px,iter,ifs,0⟩] scope pos) 0 (.ref it) (.ref D) (compEnvC scope cl C X.env)) (compPost (model X.prog X.w) X.A X.xe use PQ (.ref D) C) { s3 with heap:=h4,toks:=tk }:=by
  intro tk
  refine codeAny_compLoop_tests (λn s'=>∃ i ys o H',zk (zi X scope cl C (x :: caps) fp (X.pn ++ pins) s3 H3) [] (o :: vU σ slots) H' s'/\tn i s'.heap/\(∀ b∈fp,H' b=none)/\W i n ys H') ?_ m0
   ⟨0,[],none,H3,I4 tk,T.keep _ _ _ st3 λb _ o e=>old b o e,λb hb=>(f3 b hb).1,w0⟩ (hg _)
  rintro n s5 ⟨i,ys,o,H5,I5,st5,fr5,w5⟩;obtain ⟨hDl,stop | ⟨go,step⟩⟩:=turn i n ys H5 w5
  ·obtain ⟨stop,qD⟩:=stop
   refine wpAny_mono (T.done (zi X scope cl C (x :: caps) fp (X.pn ++ pins) s3 H3) rfl rfl rfl hc i [] s5 _ H5 (λ_ _=>False) I5 (stat fr5) st5 stop) (λr s6 hr6 => ?_) λ_ _ z=>z.elim;obtain ⟨hr,I6⟩:=hr6;subst hr;obtain ⟨m,hn,_⟩:=I6.loc;refine fin D C H5 s6 m hn (I3.fpOk (by rw [<- hC];exact Nat.le_refl _) I6.free) (λh' hsb => ?_) qD
   have neC':∀ c v,H5 c=some v->c≠C:=λc v e z=>by
    have:=I6.free;have:H5 C=none:=this;rw [z,this] at e;cases e
   refine I3.call' I6.os ?_ ?_ I6.bare λb hb=>⟨(f3 b hb).2.2.2.1,(f3 b hb).2.1,(f3 b hb).2.2.2.2.1,(f3 b hb).2.2.2.2.2⟩
   ·have u:=I6.base
    exact ⟨λb o e n hb hx=>hsb.extBut b o (neC b o e) (u.keep b o e n hb hx),λb o e n hb hx=>let ⟨sl,q⟩:=u.slot b o e n hb hx;⟨sl,hsb.extBut b _ (neC b o e) q⟩,u.free,λb o e hx=>let ⟨o',q⟩:=u.there b o e hx;⟨o',hsb.extBut b _ (neC b o e) q⟩,u.tups,u.frzs,u.tbls⟩
   ·exact λb u e=>(I6.hok b u e).stay (λc v hc q=>hsb.extBut c v (hc.elim (λz=>by rw [z];exact neC' b u e) λz=>neC' c _ z) q) (λ_ q=>q) λ_ _ q=>q
  ·refine wpAny_mono (T.item (zi X scope cl C (x :: caps) fp (X.pn ++ pins) s3 H3) rfl rfl rfl hc i [] s5 _ H5 (λ_ _=>False) I5 (stat fr5) st5 go) (λr s6 hr6 => ?_) λ_ _ z=>z.elim
   obtain ⟨u,hr,h6⟩:=hr6;subst hr;show wpAny (model X.prog X.w) X.A (assign (.Name x px) (compEnvC scope cl C X.env) u) _ _ s6;have e6:assign (.Name x px) (compEnvC scope cl C X.env) u=(letOwnedTupleGo (.Name x px) (.ref it) u >>= λ_=>assign (.Name x px) (compEnvC scope cl C X.env) u):=by rw [hg];rfl
   rw [e6];refine wpAny_bind (wpAny_mono h6 (λ_ s7 h7 => ?_) λ_ _ z=>z.elim);obtain ⟨v,H7,I7,r7,y7,st7,fr7⟩:=h7;have I7':=I7.pinned (stat fr7) (T.obj _ _ st7);have pg:PG (zi X scope cl C (x :: caps) fp (X.pn ++ pins) s3 H3) (.Name x px) (vO 0):=gP S.nd rfl (.inl lx) (.inr lx);refine wpAny_mono (pg _ s7 _ H7 v u (λσ8 H8=>σ8=some v :: vU σ slots/\H8=H7) I7' r7 ⟨rfl,rfl⟩) (λ_ s8 h8 => ?_) λ_ _ z=>z.elim;obtain ⟨σ8,H8,I8,e8,e9⟩:=h8;rw [e8,e9] at I8;refine wpAny_mono (ht C fp (X.pn ++ pins) s3 H3 _ s8 _ _ _ I8 (step v H7 y7)) (λb s9 h9 => ?_) λ_ _ z=>z.elim;obtain ⟨H9,I9,q9⟩:=h9
   have again:∀ {o':Option V} {H':Hp} {s':Shared} {zs:List V} {m':Nat},zk (zi X scope cl C (x :: caps) fp (X.pn ++ pins) s3 H3) ([] ++ ux fp s7.heap) (o' :: vU σ slots) H' s'->m' < n->W (i + 1) m' zs H' ->
     ∃ m,m < n/\∃ i ys o H',zk (zi X scope cl C (x :: caps) fp (X.pn ++ pins) s3 H3) [] (o :: vU σ slots) H' s'/\tn i s'.heap/\(∀ b∈fp,H' b=none)/\W i m ys H':=λ{o' H' s' zs m'} I' hm w'=>by
    refine ⟨m',hm,i + 1,zs,o',H',I'.unpinned,T.keep _ _ _ st7 λb hb o e=>(I'.pin (b,o) (List.mem_append_right _ (List.mem_append_right _ (xO hb e)))).1,λb hb => ?_,w'⟩;obtain ⟨o,e,d⟩:=T.obj _ _ st7 b hb;exact (I'.pin (b,o) (List.mem_append_right _ (List.mem_append_right _ (xO hb e)))).2.1
   cases b with
   | false =>
    rw [if_neg Bool.false_ne_true] at q9 ⊢;obtain ⟨m',hm,w'⟩:=q9;exact again I9 hm w'
   | true =>
    rw [if_pos rfl] at q9 ⊢;refine wpAny_mono (he C fp (X.pn ++ pins) s3 H3 _ s9 _ _ _ I9 q9) (λyv s10 h10 => ?_) λ_ _ z=>z.elim;obtain ⟨y,H10,I10,ry,hDy,hlt,m',hm,w'⟩:=h10;refine wpAny_mono (wz (X:=zi X scope cl C (x :: caps) fp (X.pn ++ pins) s3 H3) _ s10 _ H10 (.ref D) [y] (.ref D) [yv] (λ_ H'=>H'=zW H10 D (.lst (ys ++ [y]))) I10 rfl (.cons ry .nil) ⟨D,ys,y,rfl,rfl,hDy,hlt,rfl⟩) (λ_ s11 h11 => ?_) λ_ _ z=>z.elim;obtain ⟨_,H11,I11,_,e11⟩:=h11;subst e11;exact again I11 hm w'
 exact codeAny_compStart_list (loop _) (T.self X.A 0 _ _ _ (T.keep _ _ _ st3 λb _ o e=>old b o e) (loop _))
def WM (hc:X.calm=true)(S:mI X scope cl x caps slots)(hi:PI X (.Name x px) iter wi)
  (ht:∀ C ex pn s₀ H₀,JE (zi X scope cl C (x :: caps) ex pn s₀ H₀) ifs tt) (he:∀ C ex pn s₀ H₀,PE (zi X scope cl C (x :: caps) ex pn s₀ H₀) elt te)
  (hs:∀ v,foldedSetIterable iter X.env v=pure v:=by intro _;rfl) (hg:∀ it v,letOwnedTupleGo (.Name x px) it v=pure ():=by intro _ _;rfl) :
  PE X (.ListComp elt [⟨.Name x px,iter,ifs,0⟩] scope pos) (rF wi tt te slots):=by
 intro pins s σ H Q I h;rw [eval_ListComp];exact eI I h (λD C H5 s6 m hn f keep q=>⟨m,hn,λh' hsb=>⟨.ref D,H5,keep h' hsb,rfl,q⟩⟩) hc S hi ht he hs hg
end L2
namespace L3
open PySem PySem.Spec PyProof.Rows L2
abbrev Mp:=Heap->Prop
abbrev Mo:=Addr->Mp
inductive T where
 | non | bl (b:Bool) | int (i:Int) | str (x:Str) | ty (n:String)
 | tup (ts:List T) | lst (ts:List T) | dct (ks:List Key) (ts:List T) | obj (C:Addr) (fs:List Str) (ts:List T) | mem (m:Addr) (o:Mp)
def P1 (K:W.Frag)(H:Hp)(a:Addr)(vs:List V):Prop :=
 (∃ o,H a=some (.frz o (.lst vs))) \/
  ∃ (o:Obj) (its:Array Value) (n:Nat),K.lookup a=some o/\o.cls=.type "list" /\ o.dict=none/\o.data=.seq its n/\its.size<=sizeLine/\zJ vs its.toList
def Yn (K:W.Frag)(F:Addr->Prop)(H:Hp)(a:Addr)(vs:List V):Prop:=(F a/\H a=some (.lst vs))\/P1 K H a vs
def Yn.sq {K:W.Frag}{F:Addr->Prop}{H:Hp}{a:Addr}{vs:List V}(h:Yn K F H a vs):uv K H a vs:=by
 rcases h with ⟨_,h⟩ | h | h
 ·exact .inl (.inl h)
 ·exact .inl (.inr h)
 ·exact .inr h
mutual
def Is (K:W.Frag)(F:Addr->Prop)(H:Hp):T->V->Prop
 | .non,v=>v=.non
 | .bl b,v=>v=.bl b
 | .int i,v=>v=.int i
 | .str x,v=>v=.str x
 | .ty n,v=>v=.ty n
 | .tup ts,v=>∃ a vs,v=.ref a/\uW K H a vs/\IsAll K F H ts vs
 | .lst ts,v=>∃ a vs,v=.ref a/\Yn K F H a vs/\IsAll K F H ts vs
 | .dct ks ts,v=>∃ a kvs,v=.ref a/\F a/\Rd H a (.dK kvs)/\kvs.map (·.1)=ks/\IsAll K F H ts (kvs.map (·.2))
 | .obj C fs ts,v=>∃ a dx fvs,v=.ref a/\F a/\H a=some (.ins C dx fvs)/\fvs.map (·.1)=fs/\IsAll K F H ts (fvs.map (·.2))
 | .mem m o,v=>v=.ref m/\H m=some (.ext o)
def IsAll (K:W.Frag)(F:Addr->Prop)(H:Hp):List T->List V->Prop
 | [],vs=>vs=[]
 | t :: ts,vs=>∃ v r,vs=v :: r/\Is K F H t v/\IsAll K F H ts r
end
section
variable {K:W.Frag}{F F':Addr->Prop}{H H':Hp}
theorem bp (h:uW K H a vs)(s:∀ b o,H b=some o->(∀ xs,o≠.lst xs)->((∀ xs,o≠.dK xs)/\∀ C d xs,o≠.ins C d xs)->H' b=some o):uW K H' a vs:=by
 rcases h with (h | ⟨o,h⟩) | h
 ·exact .inl (.inl (s _ _ h (by intro xs z;cases z) ⟨(by intro xs z;cases z),by intro _ _ xs z;cases z⟩))
 ·exact .inl (.inr ⟨o,s _ _ h (by intro xs z;cases z) ⟨(by intro xs z;cases z),by intro _ _ xs z;cases z⟩⟩)
 ·exact .inr h
structure k9 (F F':Addr->Prop) (H H':Hp):Prop where
 sub:∀ a,F a->F' a
 fz:∀ a o,F a->H a=some o->H' a=some o
 rest:∀ a o,H a=some o->(∀ xs,o≠.lst xs)->((∀ xs,o≠.dK xs)/\∀ C d xs,o≠.ins C d xs)->H' a=some o
theorem Yn.mono (k:k9 F F' H H')(h:Yn K F H a vs):Yn K F' H' a vs:=by
 rcases h with ⟨f,h⟩ | ⟨o,h⟩ | h
 ·exact .inl ⟨k.sub _ f,k.fz _ _ f h⟩
 ·exact .inr (.inl ⟨o,k.rest _ _ h (by intro xs z;cases z) ⟨(by intro xs z;cases z),by intro _ _ xs z;cases z⟩⟩)
 ·exact .inr (.inr h)
mutual
theorem Is.mono (k:k9 F F' H H'):∀ {t:T} {v:V},Is K F H t v->Is K F' H' t v
 | .non,v,h=>by unfold Is at h ⊢;exact h
 | .bl b,v,h=>by unfold Is at h ⊢;exact h
 | .int i,v,h=>by unfold Is at h ⊢;exact h
 | .str x,v,h=>by unfold Is at h ⊢;exact h
 | .ty n,v,h=>by unfold Is at h ⊢;exact h
 | .tup ts,v,h=>by
  unfold Is at h ⊢;obtain ⟨a,vs,e,h,r⟩:=h;exact ⟨a,vs,e,bp h k.rest,IsAll.mono k r⟩
 | .lst ts,v,h=>by
  unfold Is at h ⊢;obtain ⟨a,vs,e,h,r⟩:=h;exact ⟨a,vs,e,h.mono k,IsAll.mono k r⟩
 | .dct ks ts,v,h=>by
  unfold Is at h ⊢;obtain ⟨a,kvs,e,f,h,d,r⟩:=h;exact ⟨a,kvs,e,k.sub _ f,h.elim (λh=>.inl (k.fz _ _ f h)) λ⟨o,h⟩=>.inr ⟨o,k.fz _ _ f h⟩,d,IsAll.mono k r⟩
 | .obj C fs ts,v,h=>by
  unfold Is at h ⊢;obtain ⟨a,dx,kvs,e,f,h,d,r⟩:=h;exact ⟨a,dx,kvs,e,k.sub _ f,k.fz _ _ f h,d,IsAll.mono k r⟩
 | .mem m o,v,h=>by
  unfold Is at h ⊢;exact ⟨h.1,k.rest _ _ h.2 (by intro xs z;cases z) ⟨(by intro xs z;cases z),by intro _ _ xs z;cases z⟩⟩
theorem IsAll.mono (k:k9 F F' H H'):∀ {ts:List T} {vs:List V},IsAll K F H ts vs->IsAll K F' H' ts vs
 | [],vs,h=>by unfold IsAll at h ⊢;exact h
 | t :: ts,vs,h=>by
  unfold IsAll at h ⊢;obtain ⟨v,r,e,h1,h2⟩:=h;exact ⟨v,r,e,Is.mono k h1,IsAll.mono k h2⟩
end
end
mutual
def K3:T->Bool
 | .lst _=>false
 | .tup ts=>noLs ts
 | .dct _ ts=>noLs ts
 | .obj _ _ ts=>noLs ts
 | _=>true
def noLs:List T->Bool
 | []=>true
 | t :: ts=>K3 t && noLs ts
end
mutual
def K4:T->Bool
 | .dct _ _=>false
 | .tup ts=>noDs ts
 | .lst ts=>noDs ts
 | .obj _ _ ts=>noDs ts
 | _=>true
def noDs:List T->Bool
 | []=>true
 | t :: ts=>K4 t && noDs ts
end
mutual
def K5:T->Bool
 | .obj _ _ _=>false
 | .tup ts=>noOs ts
 | .lst ts=>noOs ts
 | .dct _ ts=>noOs ts
 | _=>true
def noOs:List T->Bool
 | []=>true
 | t :: ts=>K5 t && noOs ts
end
section
variable {K:W.Frag}{F F':Addr->Prop}{H:Hp}
structure dE (F F':Addr->Prop) (H:Hp) (l d o:Bool):Prop where
 lst:∀ a xs,F a->H a=some (.lst xs)->l=false->F' a
 dct:∀ a xs,F a->H a=some (.dK xs)->d=false->F' a
 ins:∀ a C dx xs,F a->H a=some (.ins C dx xs)->o=false->F' a
 frz:∀ a ob u,F a->H a=some (.frz ob u)->F' a
mutual
theorem Is.clean (c:dE F F' H l d o):∀ {t:T} {v:V},(l=true->K3 t=true)->(d=true->K4 t=true)->(o=true->K5 t=true)->Is K F H t v->Is K F' H t v
 | .non,v,_,_,_,h=>by unfold Is at h ⊢;exact h
 | .bl b,v,_,_,_,h=>by unfold Is at h ⊢;exact h
 | .int i,v,_,_,_,h=>by unfold Is at h ⊢;exact h
 | .str x,v,_,_,_,h=>by unfold Is at h ⊢;exact h
 | .ty n,v,_,_,_,h=>by unfold Is at h ⊢;exact h
 | .mem m o,v,_,_,_,h=>by unfold Is at h ⊢;exact h
 | .tup ts,v,hl,hd,ho,h=>by
  unfold Is at h ⊢;obtain ⟨a,vs,e,h,r⟩:=h;exact ⟨a,vs,e,h,IsAll.clean c (λz=>by simpa [K3] using hl z) (λz=>by simpa [K4] using hd z) (λz=>by simpa [K5] using ho z) r⟩
 | .lst ts,v,hl,hd,ho,h=>by
  unfold Is at h ⊢;obtain ⟨a,vs,e,h,r⟩:=h
  have hl0:l=false:=by
   cases l with
   | false=>rfl
   | true=>simp [K3] at hl
  refine ⟨a,vs,e,?_,IsAll.clean c (λz=>by rw [hl0] at z;cases z) (λz=>by simpa [K4] using hd z) (λz=>by simpa [K5] using ho z) r⟩
  rcases h with ⟨f,h⟩ | h
  ·exact .inl ⟨c.lst a vs f h hl0,h⟩
  ·exact .inr h
 | .dct ks ts,v,hl,hd,ho,h=>by
  unfold Is at h ⊢;obtain ⟨a,kvs,e,f,h,q,r⟩:=h
  have hd0:d=false:=by
   cases d with
   | false=>rfl
   | true=>simp [K4] at hd
  exact ⟨a,kvs,e,h.elim (λh=>c.dct a kvs f h hd0) (λ⟨_,h⟩=>c.frz a _ _ f h),h,q,IsAll.clean c (λz=>by simpa [K3] using hl z) (λz=>by rw [hd0] at z;cases z) (λz=>by simpa [K5] using ho z) r⟩
 | .obj C fs ts,v,hl,hd,ho,h=>by
  unfold Is at h ⊢;obtain ⟨a,dx,kvs,e,f,h,q,r⟩:=h
  have ho0:o=false:=by
   cases o with
   | false=>rfl
   | true=>simp [K5] at ho
  exact ⟨a,dx,kvs,e,c.ins a _ _ _ f h ho0,h,q,IsAll.clean c (λz=>by simpa [K3] using hl z) (λz=>by simpa [K4] using hd z) (λz=>by rw [ho0] at z;cases z) r⟩
theorem IsAll.clean (c:dE F F' H l d o):∀ {ts:List T} {vs:List V},(l=true->noLs ts=true)->(d=true->noDs ts=true)->(o=true->noOs ts=true)->IsAll K F H ts vs->IsAll K F' H ts vs
 | [],vs,_,_,_,h=>by unfold IsAll at h ⊢;exact h
 | t :: ts,vs,hl,hd,ho,h=>by
  unfold IsAll at h ⊢;obtain ⟨v,r,e,h1,h2⟩:=h;have hl':l=true->K3 t=true/\noLs ts=true:=λz=>by simpa [noLs] using hl z
  have hd':d=true->K4 t=true/\noDs ts=true:=λz=>by simpa [noDs] using hd z
  have ho':o=true->K5 t=true/\noOs ts=true:=λz=>by simpa [noOs] using ho z
  exact ⟨v,r,e,Is.clean c (λz=>(hl' z).1) (λz=>(hd' z).1) (λz=>(ho' z).1) h1,IsAll.clean c (λz=>(hl' z).2) (λz=>(hd' z).2) (λz=>(ho' z).2) h2⟩
end
end
section
variable {K:W.Frag}{F:Addr->Prop}{H:Hp}
theorem IsAll.len:∀ {ts:List T} {vs:List V},IsAll K F H ts vs->ts.length=vs.length
 | [],vs,h=>by unfold IsAll at h;rw [h];rfl
 | t :: ts,vs,h=>by
  unfold IsAll at h;obtain ⟨v,r,e,h1,h2⟩:=h;rw [e,List.length_cons,List.length_cons,IsAll.len h2]
theorem IsAll.get:∀ {ts:List T} {vs:List V} {i:Nat} {t:T},IsAll K F H ts vs->ts[i]? = some t->∃ v,vs[i]? = some v/\Is K F H t v
 | [],vs,i,t,h,e=>by simp at e
 | u :: ts,vs,i,t,h,e=>by
  unfold IsAll at h;obtain ⟨v,r,e',h1,h2⟩:=h;subst e'
  cases i with
  | zero=>simp at e;subst e;exact ⟨v,by simp,h1⟩
  | succ i =>
   obtain ⟨w,hw,q⟩:=IsAll.get h2 (by simpa using e);exact ⟨w,by simpa using hw,q⟩
theorem IsAll.nil:IsAll K F H [] []:=by unfold IsAll;rfl
theorem IsAll.cons (h:Is K F H t v)(r:IsAll K F H ts vs):IsAll K F H (t :: ts) (v :: vs):=by unfold IsAll;exact ⟨v,vs,rfl,h,r⟩
theorem IsAll.append:∀ {ts us:List T} {vs ws:List V},IsAll K F H ts vs->IsAll K F H us ws->IsAll K F H (ts ++ us) (vs ++ ws)
 | [],us,vs,ws,h,g=>by unfold IsAll at h;subst h;exact g
 | t :: ts,us,vs,ws,h,g=>by
  unfold IsAll at h;obtain ⟨v,r,e,h1,h2⟩:=h;subst e;exact IsAll.cons h1 (IsAll.append h2 g)
theorem IsAll.take:∀ {ts:List T} {vs:List V} (n:Nat),IsAll K F H ts vs->IsAll K F H (ts.take n) (vs.take n)
 | ts,vs,0,h=>by simpa using IsAll.nil
 | [],vs,n + 1,h=>by unfold IsAll at h;subst h;simpa using IsAll.nil
 | t :: ts,vs,n + 1,h=>by
  unfold IsAll at h;obtain ⟨v,r,e,h1,h2⟩:=h;subst e;exact IsAll.cons h1 (IsAll.take n h2)
theorem IsAll.drop:∀ {ts:List T} {vs:List V} (n:Nat),IsAll K F H ts vs->IsAll K F H (ts.drop n) (vs.drop n)
 | ts,vs,0,h=>by simpa using h
 | [],vs,n + 1,h=>by unfold IsAll at h;subst h;simpa using IsAll.nil
 | t :: ts,vs,n + 1,h=>by
  unfold IsAll at h;obtain ⟨v,r,e,h1,h2⟩:=h;subst e;exact IsAll.drop n h2
theorem IsAll.set:∀ {ts:List T} {vs:List V} {t:T} {v:V} (n:Nat),IsAll K F H ts vs->Is K F H t v->IsAll K F H (ts.set n t) (vs.set n v)
 | [],vs,_,_,n,h,_=>by unfold IsAll at h;subst h;simpa using IsAll.nil
 | t :: ts,vs,_,_,0,h,g=>by
  unfold IsAll at h;obtain ⟨v,r,e,h1,h2⟩:=h;subst e;exact IsAll.cons g h2
 | t :: ts,vs,_,_,n + 1,h,g=>by
  unfold IsAll at h;obtain ⟨v,r,e,h1,h2⟩:=h;subst e;exact IsAll.cons h1 (IsAll.set n h2 g)
end
abbrev St:=L2.St
structure Ex where
 C:Addr
 at_:T
inductive kg (α:Type) where
 | ok (a:α) | exc (x:Ex) | bad
def kg.bind {α β:Type}(r:kg α)(f:α->kg β):kg β:=match r with
 | .ok a=>f a
 | .exc x=>.exc x
 | .bad=>.bad
@[simp] theorem bind_ok {α β:Type} (a:α) (f:α->kg β):(kg.ok a).bind f=f a:=rfl
@[simp] theorem bind_exc {α β:Type} (x:Ex) (f:α->kg β):(kg.exc x:kg α).bind f=.exc x:=rfl
@[simp] theorem bind_bad {α β:Type} (f:α->kg β):(kg.bad:kg α).bind f=.bad:=rfl
def ZK {α:Type} : Option α->kg α
 | some a=>.ok a
 | none=>.bad
@[simp] theorem ofO_some {α:Type} (a:α):ZK (some a)=.ok a:=rfl
@[simp] theorem ofO_none {α:Type} : ZK (none:Option α)=.bad:=rfl
abbrev RV:=Bool×T
abbrev En:=List (Option RV)
abbrev ME:=En->kg RV
abbrev MT:=En->kg Bool
abbrev MA:=En->kg (List RV)
structure jE (F:Addr->Prop) (H:Hp) (F':Addr->Prop) (H':Hp):Prop where
 same:∀ a o,H a=some o->H' a=some o
 sub:∀ a,F a->F' a
 new:∀ a,F' a->F a\/H a=none
 dom:∀ a,F' a->H' a≠none
def iD (F:Addr->Prop)(H:Hp):Prop := ∀ a,F a->H a≠none
section
variable {F F1 F2:Addr->Prop}{H H1 H2:Hp}
theorem jE.refl (d:iD F H):jE F H F H:=⟨λ_ _ h=>h,λ_ h=>h,λ_ h=>.inl h,d⟩
theorem j6 (e:∀ a o,H a=some o->H1 a=some o)(h:H1 a=none):H a=none:=by
 cases q:H a with
 | none=>rfl
 | some o=>rw [e a o q] at h;cases h
theorem jE.trans (e:jE F H F1 H1)(f:jE F1 H1 F2 H2):jE F H F2 H2 :=
 ⟨λa o h=>f.same a o (e.same a o h),λa h=>f.sub a (e.sub a h),λa h=>by
  rcases f.new a h with h | h
  ·exact e.new a h
  ·exact .inr (j6 e.same h),f.dom⟩
theorem jE.kept (e:jE F H F1 H1):k9 F F1 H H1:=⟨e.sub,λa o _ h=>e.same a o h,λa o h _ _=>e.same a o h⟩
theorem jE.alloc (d:iD F H)(hp:H p=none):jE F H F (zW H p o) :=
 ⟨λa u h=>by rw [zd (zG h hp)];exact h,λ_ h=>h,λ_ h=>.inl h,λa h=>by
  have:=d a h
  by_cases e:a=p
  ·subst e;exact absurd hp this
  ·rw [zd e];exact this⟩
theorem jE.freeze (e:jE F H F1 H1)(hf:H a=none)(h1:H1 a≠none):jE F H (λb=>F1 b\/b=a) H1 :=
 ⟨e.same,λb h=>.inl (e.sub b h),λb h=>by
  rcases h with h | rfl
  ·exact e.new b h
  ·exact .inr hf,λb h=>by
  rcases h with h | rfl
  ·exact e.dom b h
  ·exact h1⟩
end
def xG (K:W.Frag)(F:Addr->Prop)(H:Hp)(a:Addr):T->Prop
 | .lst ts=>∃ vs,H a=some (.lst vs)/\IsAll K F H ts vs
 | .dct ks ts=>∃ kvs,H a=some (.dK kvs)/\kvs.map (·.1)=ks/\IsAll K F H ts (kvs.map (·.2))
 | .obj C fs ts=>∃ dx fvs,H a=some (.ins C dx fvs)/\fvs.map (·.1)=fs/\IsAll K F H ts (fvs.map (·.2))
 | _=>False
def wu (K:W.Frag)(fr:Addr->Prop)(F:Addr->Prop)(H:Hp)(v:V)(r:RV):Prop :=
 if r.1=true then ∃ a,v=.ref a/\¬ F a/\fr a/\xG K F H a r.2 else Is K F H r.2 v
def xG.mono {K:W.Frag}{F F':Addr->Prop}{H H':Hp}{a:Addr}{t:T}(k:k9 F F' H H')(s:∀ o,H a=some o->H' a=some o)(h:xG K F H a t):xG K F' H' a t:=by
 cases t with
 | lst ts=>obtain ⟨vs,e,r⟩:=h;exact ⟨vs,s _ e,r.mono k⟩
 | dct ks ts=>obtain ⟨vs,e,d,r⟩:=h;exact ⟨vs,s _ e,d,r.mono k⟩
 | obj C fs ts=>obtain ⟨dx,vs,e,d,r⟩:=h;exact ⟨dx,vs,s _ e,d,r.mono k⟩
 | _=>exact h.elim
def xG.there {K:W.Frag}{F:Addr->Prop}{H:Hp}{a:Addr}{t:T}(h:xG K F H a t):H a≠none:=by
 cases t with
 | lst ts=>obtain ⟨vs,e,r⟩:=h;rw [e];intro z;cases z
 | dct ks ts=>obtain ⟨vs,e,r⟩:=h;rw [e];intro z;cases z
 | obj C fs ts=>obtain ⟨dx,vs,e,r⟩:=h;rw [e];intro z;cases z
 | _=>exact h.elim
def xG.is {K:W.Frag}{F F':Addr->Prop}{H:Hp}{a:Addr}{t:T}(h:xG K F H a t)(s:∀ b,F b->F' b)(ha:F' a):Is K F' H t (.ref a):=by
 have k:k9 F F' H H:=⟨s,λ_ _ _ h=>h,λ_ _ h _ _=>h⟩
 cases t with
 | lst ts=>obtain ⟨vs,e,r⟩:=h;unfold Is;exact ⟨a,vs,rfl,.inl ⟨ha,e⟩,r.mono k⟩
 | dct ks ts=>obtain ⟨vs,e,d,r⟩:=h;unfold Is;exact ⟨a,vs,rfl,ha,.inl e,d,r.mono k⟩
 | obj C fs ts=>obtain ⟨dx,vs,e,d,r⟩:=h;unfold Is;exact ⟨a,dx,vs,rfl,ha,e,d,r.mono k⟩
 | _=>exact h.elim
def wu.is {K:W.Frag}{fr F:Addr->Prop}{H:Hp}{v:V}{t:T}(h:wu K fr F H v (false,t)):Is K F H t v:=by simpa [wu] using h
def jo {K:W.Frag}{fr F:Addr->Prop}{H:Hp}{v:V}{t:T}(h:Is K F H t v):wu K fr F H v (false,t):=by simpa [wu] using h
def wu.frz {K:W.Frag}{F F1:Addr->Prop}{H H1:Hp}{v:V}{r:RV}(e:jE F H F1 H1)(h:wu K (λa=>H a=none) F1 H1 v r) :
  ∃ F2,jE F H F2 H1/\(∀ a,F1 a->F2 a)/\Is K F2 H1 r.2 v:=by
 obtain ⟨o,t⟩:=r
 cases o with
 | false=>exact ⟨F1,e,λ_ h=>h,h.is⟩
 | true =>
  have h:∃ a,v=.ref a/\¬ F1 a/\H a=none/\xG K F1 H1 a t:=by simpa [wu] using h
  obtain ⟨a,rfl,nf,fr,o⟩:=h;exact ⟨_,e.freeze fr o.there,λb h=>.inl h,o.is (λb h=>.inl h) (.inr rfl)⟩
def Wf (K:W.Frag)(F:Addr->Prop)(H:Hp)(ev:Value)(x:Ex):Prop:=False
structure v5 (K:W.Frag) (F:Addr->Prop) (H:Hp) (σ:St) (env:En):Prop where
 dom:iD F H
 vals:∀ (i:Nat) (r:RV),env[i]? = some (some r)->∃ v,σ[i]? = some (some v)/\Is K F H r.2 v
def v5.mono {K:W.Frag}{F F':Addr->Prop}{H H':Hp}{σ:St}{env:En}(r:v5 K F H σ env)(e:jE F H F' H'):v5 K F' H' σ env :=
 ⟨e.dom,λi t h=>let ⟨v,h1,h2⟩:=r.vals i t h;⟨v,h1,h2.mono e.kept⟩⟩
def ZL (X:Cx)(F:Addr->Prop)(H:Hp)(σ:St)(x:Ex):Prop :=
 ∀ ev F' H',jE F H F' H'->Wf X.K F' H' ev x->∀ pins s',zk X pins σ H' s'->X.xe ev s'
def ZL.mono (h:ZL X F H σ x)(e:jE F H F1 H1):ZL X F1 H1 σ x :=
 λev F' H' e' i pins s' I=>h ev F' H' (e.trans e') i pins s' I
def xx (X:Cx)(t:TE)(m:ME):Prop :=
 ∀ (F:Addr->Prop) (H:Hp) (σ:St) (env:En) (Q:VK),v5 X.K F H σ env->m env≠.bad ->
  (∀ r,m env=.ok r->∀ v F' H',jE F H F' H'->wu X.K (λa=>H a=none) F' H' v r->Q v H')->(∀ x,m env=.exc x->ZL X F H σ x)->t σ H Q
def vh (X:Cx)(t:TT)(m:MT):Prop :=
 ∀ (F:Addr->Prop) (H:Hp) (σ:St) (env:En) (Q:Bool->Hp->Prop),v5 X.K F H σ env->m env≠.bad ->
  (∀ b,m env=.ok b->∀ F' H',jE F H F' H'->Q b H')->(∀ x,m env=.exc x->ZL X F H σ x)->t σ H Q
def xx.val (h:xx X t m)(R:v5 X.K F H σ env)(nb:m env≠.bad)
  (ok:∀ r,m env=.ok r->∀ v F' H',jE F H F' H'->Is X.K F' H' r.2 v->Q v H') (ex:∀ x,m env=.exc x->ZL X F H σ x):t σ H Q :=
 h F H σ env Q R nb (λr e v F' H' x i=>let ⟨F2,e2,_,i2⟩:=i.frz x;ok r e v F2 H' e2 i2) ex
def ju (X:Cx)(e:Expr)(m:ME):Prop := ∃ t,PE X e t/\xx X t m
def tN (X:Cx)(e:Expr)(m:MT):Prop := ∃ t,PT X e t/\vh X t m
def mC (t:T):ME:=λ_=>.ok (false,t)
def mV (i:Nat):ME:=λenv=>match env[i]? with
 | some (some r)=>.ok (false,r.2)
 | _=>.bad
section
variable {X:Cx}{e a b c:Expr}{pos:Pos}{ma mb mc:ME}{ta tb tc:TE}
theorem nc (h:∀ F H,Is X.K F H t v):xx X (tC v) (mC t):=by
 intro F H σ env Q R nb ok ex;exact ok _ rfl v F H (.refl R.dom) (jo (h F H))
theorem zb {i j} : ju X (.Constant (.int i) j pos) (mC (.int i)):=⟨_,Kv,nc λ_ _=>by unfold Is;rfl⟩
theorem pJ {i j} : ju X (.Constant (.bool i) j pos) (mC (.bl i)):=⟨_,Gv,nc λ_ _=>by unfold Is;rfl⟩
theorem ng {j} : ju X (.Constant .none j pos) (mC .non):=⟨_,Kw,nc λ_ _=>by unfold Is;rfl⟩
theorem zl {i j} : ju X (.Constant (.str i) j pos) (mC (.str i)):=⟨_,Kx,nc λ_ _=>by unfold Is;rfl⟩
theorem WN (i:Nat):xx X (xw i) (mV i):=by
 intro F H σ env Q R nb ok ex;unfold mV at nb ok
 cases h:env[i]? with
 | none=>rw [h] at nb;exact absurd rfl nb
 | some o =>
  cases o with
  | none=>rw [h] at nb;exact absurd rfl nb
  | some r =>
   rw [h] at ok;obtain ⟨v,e,q⟩:=R.vals i r h;exact ⟨v,e,ok _ rfl v F H (.refl R.dom) (jo q)⟩
theorem qv (i:Nat)(hN:X.N[i]? = some x:=by rfl)(hv:JC X.env.scope x:=by first | exact Or.inl rfl | exact Or.inr (Or.inl rfl) | exact Or.inr (Or.inr rfl))(hd:(x == ("__debug__" : Str))=false:=by decide)
  (hcd:(x == ("__classdict__" : Str))=false:=by decide):ju X (.Name x pos) (mV i):=⟨_,qq hN hv hd hcd,WN i⟩
def P7 (K:W.Frag)(r:R2)(f:T->T->Option RV):Prop :=
 ∀ (F:Addr->Prop) (H:Hp) (x y:V) (tx ty:T) (Q:VK) (rv:RV),iD F H->Is K F H tx x->Is K F H ty y->f tx ty=some rv ->
  (∀ v F' H',jE F H F' H'->wu K (λa=>H a=none) F' H' v rv->Q v H')->r x y H Q
def m2 (f:T->T->Option RV)(ma mb:ME):ME:=λenv=>(ma env).bind λx=>(mb env).bind λy=>ZK (f x.2 y.2)
theorem dF (hr:P7 X.K r f)(ha:xx X ta ma)(hb:xx X tb mb):xx X (GH r ta tb) (m2 f ma mb):=by
 intro F H σ env Q R nb ok ex;unfold m2 at nb ok ex;refine ha.val R (λz=>by rw [z] at nb;exact nb rfl) (λr1 e1 v1 F1 H1 x1 i1 => ?_) λx z=>ex x (by rw [z];rfl);rw [e1] at nb ok ex;refine hb.val (R.mono x1) (λz=>by rw [bind_ok,z] at nb;exact nb rfl) (λr2 e2 v2 F2 H2 x2 i2 => ?_) λx z=>(ex x (by rw [bind_ok,z];rfl)).mono x1;rw [bind_ok,e2,bind_ok] at nb ok
 cases h:f r1.2 r2.2 with
 | none=>rw [h] at nb;exact absurd rfl nb
 | some rv =>
  rw [h] at ok;refine hr F2 H2 v1 v2 _ _ Q rv x2.dom (i1.mono x2.kept) i2 h λv F' H' x i=>ok rv rfl v F' H' ((x1.trans x2).trans x) ?_;unfold wu at i ⊢
  split
  ·rename_i ho
   rw [if_pos ho] at i;obtain ⟨a,e,nf,fr,o⟩:=i;exact ⟨a,e,nf,j6 (x1.trans x2).same fr,o⟩
  ·rename_i ho
   rw [if_neg ho] at i;exact i
theorem zB (ho:qp X (binaryOp op) r)(hr:P7 X.K r f)(ha:ju X a ma)(hb:ju X b mb):ju X (.BinOp a op b pos) (m2 f ma mb):=by
 obtain ⟨ta,pa,sa⟩:=ha;obtain ⟨tb,pb,sb⟩:=hb;exact ⟨_,GI ho pa pb,dF hr sa sb⟩
theorem vW (ho:qp X (compareOp op) r)(hr:P7 X.K r f)(ha:ju X a ma)(hb:ju X b mb)(hm:behindInMarks op b=false):ju X (.Compare a [op] [b] pos) (m2 f ma mb):=by
 obtain ⟨ta,pa,sa⟩:=ha;obtain ⟨tb,pb,sb⟩:=hb;exact ⟨_,Wt ho pa pb hm,dF hr sa sb⟩
def jr (m:ME):MT:=λenv=>(m env).bind λx=>match x.2 with
 | .bl b=>.ok b
 | _=>.bad
theorem Yo (h:xx X t m):vh X (VZ t) (jr m):=by
 intro F H σ env Q R nb ok ex;unfold jr at nb ok ex;refine h.val R (λz=>by rw [z] at nb;exact nb rfl) (λr1 e1 v1 F1 H1 x1 i1 => ?_) λx z=>ex x (by rw [z];rfl);rw [e1,bind_ok] at nb ok;obtain ⟨o,t⟩:=r1
 cases t with
 | bl k =>
  unfold Is at i1;exact ⟨k,i1,ok k rfl F1 H1 x1⟩
 | _=>exact absurd rfl nb
theorem zF (ho:qp X (compareOp op) r)(hr:P7 X.K r f)(ha:ju X a ma)(hb:ju X b mb)(hm:behindInMarks op b=false):tN X (.Compare a [op] [b] pos) (jr (m2 f ma mb)):=by
 obtain ⟨ta,pa,sa⟩:=ha;obtain ⟨tb,pb,sb⟩:=hb;exact ⟨_,Wu ho pa pb hm,Yo (dF hr sa sb)⟩
end
def rG (t u:T):Option Bool:=match t with
 | .non=>match u with
  | .non=>some true
  | .bl _=>some false
  | .int _=>some false
  | .str _=>some false
  | .tup _=>some false
  | .lst _=>some false
  | _=>none
 | .bl a=>match u with
  | .non=>some false
  | .bl b=>some (a == b)
  | .int b=>some ((if a then 1 else 0) == b)
  | .str _=>some false
  | .tup _=>some false
  | .lst _=>some false
  | _=>none
 | .int a=>match u with
  | .non=>some false
  | .bl b=>some (a == (if b then 1 else 0))
  | .int b=>some (a == b)
  | .str _=>some false
  | .tup _=>some false
  | .lst _=>some false
  | _=>none
 | .str a=>match u with
  | .non=>some false
  | .bl _=>some false
  | .int _=>some false
  | .str b=>some (a == b)
  | .tup _=>some false
  | .lst _=>some false
  | _=>none
 | .tup _=>match u with
  | .non=>some false
  | .bl _=>some false
  | .int _=>some false
  | .str _=>some false
  | .lst _=>some false
  | _=>none
 | .lst _=>match u with
  | .non=>some false
  | .bl _=>some false
  | .int _=>some false
  | .str _=>some false
  | .tup _=>some false
  | _=>none
 | _=>none
def JF (f:T->T->Option Bool):List T->List T->Option Bool
 | [],_=>some true
 | _ :: _,[]=>some true
 | t :: ts,u :: us=>match f t u with
  | none=>none
  | some a=>match JF f ts us with
   | none=>none
   | some b=>some (a && b)
def nI:Nat->T->T->Option Bool
 | 0,t,u=>rG t u
 | n + 1,t,u=>match t,u with
  | .tup ts,.tup us=>(JF (nI n) ts us).map λb=>b && ts.length == us.length
  | .lst ts,.lst us=>if ts.length=us.length then JF (nI n) ts us else some false
  | t,u=>rG t u
def mJ:∀ {ts us:List T} {b:Bool},JF f ts us=some b->∃ e:Nat->Bool,(∀ (j:Nat) (t u:T),ts[j]? = some t->us[j]? = some u->f t u=some (e j))/\(List.range (min ts.length us.length)).all e=b
 | [],us,b,h=>⟨λ_=>true,λj t u h1 _=>by simp at h1,by simp [JF] at h;simp [h]⟩
 | t :: ts,[],b,h=>⟨λ_=>true,λj t u _ h1=>by simp at h1,by simp [JF] at h;simp [h]⟩
 | t :: ts,u :: us,b,h=>by
  rw [JF] at h
  cases h1:f t u with
  | none=>rw [h1] at h;cases h
  | some a =>
   rw [h1] at h
   cases h2:JF f ts us with
   | none=>rw [h2] at h;cases h
   | some c =>
    rw [h2] at h;simp only [Option.some.injEq] at h;obtain ⟨e,he,hb⟩:=mJ h2;refine ⟨λj=>match j with | 0=>a | j + 1=>e j,λj t' u' g1 g2 => ?_,?_⟩
    ·cases j with
     | zero=>simp at g1 g2;subst g1;subst g2;exact h1
     | succ j=>exact he j t' u' (by simpa using g1) (by simpa using g2)
    ·have:min (t :: ts).length (u :: us).length=min ts.length us.length + 1:=by simp only [List.length_cons];omega
     rw [this,List.range_succ_eq_map,List.all_cons,List.all_map];show (a && (List.range (min ts.length us.length)).all e)=b;rw [hb,h]
def bq:∀ {t:T} {b:Bool},rG t t=some b->b=true:=by
 intro t b h;cases t<;>simp [rG] at h<;>simp_all
def mK (hf:∀ t b,f t t=some b->b=true):∀ {ts:List T} {b:Bool},JF f ts ts=some b->b=true
 | [],b,h=>by simp [JF] at h;exact h
 | t :: ts,b,h=>by
  rw [JF] at h
  cases h1:f t t with
  | none=>rw [h1] at h;cases h
  | some a =>
   rw [h1] at h
   cases h2:JF f ts ts with
   | none=>rw [h2] at h;cases h
   | some c =>
    rw [h2] at h;have:=hf t a h1;have:=mK hf h2
    simp_all
def mL:∀ {n:Nat} {t:T} {b:Bool},nI n t t=some b->b=true
 | 0,t,b,h=>bq h
 | n + 1,t,b,h=>by
  cases t with
  | tup ts =>
   simp only [nI,Option.map_eq_some_iff] at h;obtain ⟨c,h1,h2⟩:=h;have:=mK (λt b=>mL) h1
   simp_all
  | lst ts =>
   simp only [nI,if_true] at h;exact mK (λt b=>mL) h
  | _=>exact bq (by simpa [nI] using h)
section
variable {X:Cx}{pins:List (Addr×Obj)}{σ:St}{H:Hp}{s:Shared}{F:Addr->Prop}
def NV:Value->V
 | .bool b=>.bl b
 | .int i _=>.int i
 | .str x _=>.str x
 | .bytes b _=>.byt b
 | .float b _=>.flt b
 | .ref a=>.ref a
 | .type n=>.ty n
 | _=>.non
theorem rH (h:L2.RelV v u):NV u=v:=by
 cases v<;>first | (obtain ⟨_,rfl⟩:=h;rfl) | (cases h;rfl)
theorem bt (h:L2.RelV v u)(h':L2.RelV v' u):v=v':=(rH h).symm.trans (rH h')
theorem mM:∀ {vs vs':List V} {us:List Value},zJ vs us->zJ vs' us->vs=vs'
 | _,_,_,.nil,.nil=>rfl
 | _,_,_,.cons r t,.cons r' t'=>by rw [bt r r',mM t t']
theorem WO (I:zk X pins σ H s)(h:uW X.K H a vs)(h':uW X.K H a vs'):vs=vs':=by
 obtain ⟨its,r,pl,hz⟩:=I.tuple h;obtain ⟨its',r',pl',hz'⟩:=I.tuple h';obtain ⟨o,e,c,n,d⟩:=pl;obtain ⟨o',e',c',n',d'⟩:=pl';rw [e] at e';cases e';rw [d] at d';have:its=its':=by injection d' with d' _;simpa using d'
 subst this;exact mM r r'
theorem WP (I:zk X pins σ H s)(h:uv X.K H a vs)(h':uv X.K H a vs'):vs=vs':=by
 obtain ⟨its,r,pl,hz⟩:=I.list h;obtain ⟨its',r',pl',hz'⟩:=I.list h';obtain ⟨o,e,c,n,d⟩:=pl.isList;obtain ⟨o',e',c',n',d'⟩:=pl'.isList;rw [e] at e';cases e';rw [d] at d';have:its=its':=by injection d' with d' _;simpa using d'
 subst this;exact mM r r'
theorem bu (I:zk X pins σ H s)(h:uv X.K H a vs)(h':uW X.K H a vs'):False:=by
 obtain ⟨its,r,pl,hz⟩:=I.list h;obtain ⟨its',r',pl',hz'⟩:=I.tuple h';exact SeqAt.ne_of_list_tuple pl.isList pl' rfl
theorem vm (r:zJ xs its)(h:j < its.toArray.size):∃ x,xs[j]? = some x/\L2.RelV x its.toArray[j]:=by
 have hl:=r.length;have h':j < its.length:=by simpa using h
 have hx:j < xs.length:=by omega
 obtain ⟨u,hu,q⟩:=r.get (i:=j) (x:=xs[j]) (by simp [hx]);refine ⟨xs[j],by simp [hx],?_⟩;have:its[j]? = some its[j]:=by simp [h']
 rw [this] at hu;cases hu;simpa using q
theorem Yp (I:zk X pins σ H s)(hu:A.units < cLine)(h:rG t u=some b)(it:Is X.K F H t x)(iu:Is X.K F H u y)(rx:L2.RelV x vx)(ry:L2.RelV y vy) :
  SeqAt.RcAt A s vx vy b/\(SeqAt.EqAt A s vx vy b):=by
 cases t<;>try (simp only [rG,reduceCtorEq] at h;done)
 all_goals (cases u<;>simp only [rG,Option.some.injEq,reduceCtorEq] at h<;>unfold Is at it iu)
 case non.non=>subst it iu h;cases rx;cases ry;exact ⟨SeqAt.RcAt.none_none,SeqAt.EqAt.same _⟩
 case non.bl=>subst it iu h;cases rx;cases ry;exact ⟨SeqAt.RcAt.none_bool _,SeqAt.EqAt.none_bool _⟩
 case non.int=>subst it iu h;cases rx;obtain ⟨t',rfl⟩:=ry;exact ⟨SeqAt.RcAt.none_int _ _,SeqAt.EqAt.none_int _ _⟩
 case non.str=>subst it iu h;cases rx;obtain ⟨t',rfl⟩:=ry;exact ⟨SeqAt.RcAt.none_str _ _,SeqAt.EqAt.none_str _ _⟩
 case bl.non=>subst it iu h;cases rx;cases ry;exact ⟨SeqAt.RcAt.bool_none _,SeqAt.EqAt.bool_none _⟩
 case bl.bl=>subst it iu h;cases rx;cases ry;exact ⟨SeqAt.RcAt.bool_bool _ _,SeqAt.EqAt.bool_bool _ _⟩
 case bl.int=>subst it iu h;cases rx;obtain ⟨t',rfl⟩:=ry;exact ⟨SeqAt.RcAt.bool_int _ _ _,SeqAt.EqAt.bool_int _ _ _⟩
 case bl.str=>subst it iu h;cases rx;obtain ⟨t',rfl⟩:=ry;exact ⟨SeqAt.RcAt.bool_str _ _ _,SeqAt.EqAt.bool_str _ _ _⟩
 case int.non=>subst it iu h;obtain ⟨t',rfl⟩:=rx;cases ry;exact ⟨SeqAt.RcAt.int_none _ _,SeqAt.EqAt.int_none _ _⟩
 case int.bl=>subst it iu h;obtain ⟨t',rfl⟩:=rx;cases ry;exact ⟨SeqAt.RcAt.int_bool _ _ _,SeqAt.EqAt.int_bool _ _ _⟩
 case int.int=>subst it iu h;obtain ⟨t',rfl⟩:=rx;obtain ⟨t',rfl⟩:=ry;exact ⟨SeqAt.RcAt.int_int _ _ _ _,SeqAt.EqAt.int_int _ _ _ _⟩
 case int.str=>subst it iu h;obtain ⟨t',rfl⟩:=rx;obtain ⟨t',rfl⟩:=ry;exact ⟨SeqAt.RcAt.int_str _ _ _ _,SeqAt.EqAt.int_str _ _ _ _⟩
 case str.non=>subst it iu h;obtain ⟨t',rfl⟩:=rx;cases ry;exact ⟨SeqAt.RcAt.str_none _ _,SeqAt.EqAt.str_none _ _⟩
 case str.bl=>subst it iu h;obtain ⟨t',rfl⟩:=rx;cases ry;exact ⟨SeqAt.RcAt.str_bool _ _ _,SeqAt.EqAt.str_bool _ _ _⟩
 case str.int=>subst it iu h;obtain ⟨t',rfl⟩:=rx;obtain ⟨t',rfl⟩:=ry;exact ⟨SeqAt.RcAt.str_int _ _ _ _,SeqAt.EqAt.str_int _ _ _ _⟩
 case str.str=>subst it iu h;obtain ⟨t',rfl⟩:=rx;obtain ⟨t',rfl⟩:=ry;exact ⟨SeqAt.RcAt.str_str _ _ _ _,SeqAt.EqAt.str_str _ _ _ _⟩
 case tup.lst =>
  obtain ⟨a,vs,rfl,h1,_⟩:=it;obtain ⟨b,ws,rfl,h2,_⟩:=iu;subst h;cases rx;cases ry;obtain ⟨_,_,p1,_⟩:=I.tuple h1;obtain ⟨_,_,p2,_⟩:=I.list h2.sq;exact ⟨SeqAt.RcAt.tuple_list p1 p2.isList hu,SeqAt.EqAt.tuple_list p1 p2.isList hu⟩
 case lst.tup =>
  obtain ⟨a,vs,rfl,h1,_⟩:=it;obtain ⟨b,ws,rfl,h2,_⟩:=iu;subst h;cases rx;cases ry;obtain ⟨_,_,p1,_⟩:=I.list h1.sq;obtain ⟨_,_,p2,_⟩:=I.tuple h2;exact ⟨SeqAt.RcAt.list_tuple p1.isList p2 hu,SeqAt.EqAt.list_tuple p1.isList p2 hu⟩
 case tup.non=>obtain ⟨a,vs,rfl,h1,_⟩:=it;subst iu h;cases rx;cases ry;obtain ⟨_,_,p1,_⟩:=I.tuple h1;exact ⟨SeqAt.RcAt.tuple_none p1 hu,SeqAt.EqAt.tuple_none p1 hu⟩
 case tup.bl=>obtain ⟨a,vs,rfl,h1,_⟩:=it;subst iu h;cases rx;cases ry;obtain ⟨_,_,p1,_⟩:=I.tuple h1;exact ⟨SeqAt.RcAt.tuple_bool _ p1 hu,SeqAt.EqAt.tuple_bool _ p1 hu⟩
 case tup.int=>obtain ⟨a,vs,rfl,h1,_⟩:=it;subst iu h;cases rx;obtain ⟨t',rfl⟩:=ry;obtain ⟨_,_,p1,_⟩:=I.tuple h1;exact ⟨SeqAt.RcAt.tuple_int _ _ p1 hu,SeqAt.EqAt.tuple_int _ _ p1 hu⟩
 case tup.str=>obtain ⟨a,vs,rfl,h1,_⟩:=it;subst iu h;cases rx;obtain ⟨t',rfl⟩:=ry;obtain ⟨_,_,p1,_⟩:=I.tuple h1;exact ⟨SeqAt.RcAt.tuple_str _ _ p1 hu,SeqAt.EqAt.tuple_str _ _ p1 hu⟩
 case lst.non=>obtain ⟨a,vs,rfl,h1,_⟩:=it;subst iu h;cases rx;cases ry;obtain ⟨_,_,p1,_⟩:=I.list h1.sq;exact ⟨SeqAt.RcAt.list_none p1.isList hu,SeqAt.EqAt.list_none p1.isList hu⟩
 case lst.bl=>obtain ⟨a,vs,rfl,h1,_⟩:=it;subst iu h;cases rx;cases ry;obtain ⟨_,_,p1,_⟩:=I.list h1.sq;exact ⟨SeqAt.RcAt.list_bool _ p1.isList hu,SeqAt.EqAt.list_bool _ p1.isList hu⟩
 case lst.int=>obtain ⟨a,vs,rfl,h1,_⟩:=it;subst iu h;cases rx;obtain ⟨t',rfl⟩:=ry;obtain ⟨_,_,p1,_⟩:=I.list h1.sq;exact ⟨SeqAt.RcAt.list_int _ _ p1.isList hu,SeqAt.EqAt.list_int _ _ p1.isList hu⟩
 case lst.str=>obtain ⟨a,vs,rfl,h1,_⟩:=it;subst iu h;cases rx;obtain ⟨t',rfl⟩:=ry;obtain ⟨_,_,p1,_⟩:=I.list h1.sq;exact ⟨SeqAt.RcAt.list_str _ _ p1.isList hu,SeqAt.EqAt.list_str _ _ p1.isList hu⟩
 case non.tup=>obtain ⟨a,vs,rfl,h1,_⟩:=iu;subst it h;cases rx;cases ry;obtain ⟨_,_,p1,_⟩:=I.tuple h1;exact ⟨SeqAt.RcAt.none_tuple p1 hu,SeqAt.EqAt.none_tuple p1 hu⟩
 case bl.tup=>obtain ⟨a,vs,rfl,h1,_⟩:=iu;subst it h;cases rx;cases ry;obtain ⟨_,_,p1,_⟩:=I.tuple h1;exact ⟨SeqAt.RcAt.bool_tuple _ p1 hu,SeqAt.EqAt.bool_tuple _ p1 hu⟩
 case int.tup=>obtain ⟨a,vs,rfl,h1,_⟩:=iu;subst it h;cases ry;obtain ⟨t',rfl⟩:=rx;obtain ⟨_,_,p1,_⟩:=I.tuple h1;exact ⟨SeqAt.RcAt.int_tuple _ _ p1 hu,SeqAt.EqAt.int_tuple _ _ p1 hu⟩
 case str.tup=>obtain ⟨a,vs,rfl,h1,_⟩:=iu;subst it h;cases ry;obtain ⟨t',rfl⟩:=rx;obtain ⟨_,_,p1,_⟩:=I.tuple h1;exact ⟨SeqAt.RcAt.str_tuple _ _ p1 hu,SeqAt.EqAt.str_tuple _ _ p1 hu⟩
 case non.lst=>obtain ⟨a,vs,rfl,h1,_⟩:=iu;subst it h;cases rx;cases ry;obtain ⟨_,_,p1,_⟩:=I.list h1.sq;exact ⟨SeqAt.RcAt.none_list p1.isList hu,SeqAt.EqAt.none_list p1.isList hu⟩
 case bl.lst=>obtain ⟨a,vs,rfl,h1,_⟩:=iu;subst it h;cases rx;cases ry;obtain ⟨_,_,p1,_⟩:=I.list h1.sq;exact ⟨SeqAt.RcAt.bool_list _ p1.isList hu,SeqAt.EqAt.bool_list _ p1.isList hu⟩
 case int.lst=>obtain ⟨a,vs,rfl,h1,_⟩:=iu;subst it h;cases ry;obtain ⟨t',rfl⟩:=rx;obtain ⟨_,_,p1,_⟩:=I.list h1.sq;exact ⟨SeqAt.RcAt.int_list _ _ p1.isList hu,SeqAt.EqAt.int_list _ _ p1.isList hu⟩
 case str.lst=>obtain ⟨a,vs,rfl,h1,_⟩:=iu;subst it h;cases ry;obtain ⟨t',rfl⟩:=rx;obtain ⟨_,_,p1,_⟩:=I.list h1.sq;exact ⟨SeqAt.RcAt.str_list _ _ p1.isList hu,SeqAt.EqAt.str_list _ _ p1.isList hu⟩
def U8:Option HO->Nat
 | some (.dK _)=>4
 | some (.frz _ (.dK _))=>4
 | some (.ins _ _ _)=>5
 | some (.ext _)=>6
 | _=>0
def Ql (H:Hp):V->Nat
 | .ref a=>U8 (H a)
 | _=>9
def WQ:T->Nat
 | .tup _=>0
 | .lst _=>0
 | .dct _ _=>4
 | .obj _ _ _=>5
 | .mem _ _=>6
 | _=>9
theorem zX (I:zk X pins σ H s)(h:Is X.K F H t v):Ql H v=WQ t:=by
 have kin:∀ {a:Addr} {o:Obj},X.K.lookup a=some o->Ql H (.ref a)=0:=λh=>by
  show U8 _=_;rw [(I.bs _ _ (I.ok.mod.kin _ _ h)).2]
  rfl
 have at_:∀ {a:Addr} {o:HO} {n:Nat},H a=some o->U8 (some o)=n->Ql H (.ref a)=n:=λh e=>by
  show U8 _=_;rw [h];exact e
 cases t<;>unfold Is at h
 case tup ts =>
  obtain ⟨a,vs,rfl,(h | ⟨o,h⟩) | ⟨o,its,n,h,_⟩,_⟩:=h
  ·exact at_ h rfl
  ·exact at_ h rfl
  ·exact kin h
 case lst ts =>
  obtain ⟨a,vs,rfl,⟨_,h⟩ | ⟨o,h⟩ | ⟨o,its,n,h,_⟩,_⟩:=h
  ·exact at_ h rfl
  ·exact at_ h rfl
  ·exact kin h
 case dct ks ts=>obtain ⟨a,kvs,rfl,_,h | ⟨o,h⟩,_⟩:=h<;>exact at_ h rfl
 case obj C fs ts=>obtain ⟨a,dx,kvs,rfl,_,h,_⟩:=h;exact at_ h rfl
 case mem m o=>obtain ⟨rfl,h⟩:=h;exact at_ h rfl
 all_goals (rw [h];rfl)
theorem tO (h:Rd H a (.dK x))(g:Rd H a (.dK y)):x=y:=by
 rcases h with h | ⟨o,h⟩<;>rcases g with g | ⟨o',g⟩<;>rw [h] at g<;>cases g<;>rfl
def UP:T->V
 | .bl b=>.bl b
 | .int i=>.int i
 | .str x=>.str x
 | .ty n=>.ty n
 | _=>.non
theorem fb (e:WQ t=9)(h:Is X.K F H t v):v=UP t:=by
 cases t<;>first | (unfold Is at h;exact h) | cases e
theorem mN (e:WQ t=9)(g:WQ u=9)(h:UP t=UP u):t=u:=by
 cases t<;>first | (cases e;done) | (cases u<;>first | (cases g;done) | (cases h;rfl) | (cases h;done))
mutual
theorem Is.inj (I:zk X pins σ H s):∀ {t u:T} {v:V},Is X.K F H t v->Is X.K F H u v->t=u
 | .tup ts,u,v,h,g=>by
  have hc:=(zX I h).symm.trans (zX I g);unfold Is at h;obtain ⟨a,vs,rfl,h1,h2⟩:=h;cases u<;>first | (cases hc;done) | unfold Is at g
  case tup us =>
   obtain ⟨b,ws,e,g1,g2⟩:=g;cases e;have:=WO I h1 g1;subst this;rw [IsAll.inj I h2 g2]
  case lst us=>obtain ⟨b,ws,e,g1,g2⟩:=g;cases e;exact (bu I g1.sq h1).elim
 | .lst ts,u,v,h,g=>by
  have hc:=(zX I h).symm.trans (zX I g);unfold Is at h;obtain ⟨a,vs,rfl,h1,h2⟩:=h;cases u<;>first | (cases hc;done) | unfold Is at g
  case tup us=>obtain ⟨b,ws,e,g1,g2⟩:=g;cases e;exact (bu I h1.sq g1).elim
  case lst us =>
   obtain ⟨b,ws,e,g1,g2⟩:=g;cases e;have:=WP I h1.sq g1.sq;subst this;rw [IsAll.inj I h2 g2]
 | .dct ks ts,u,v,h,g=>by
  have hc:=(zX I h).symm.trans (zX I g);unfold Is at h;obtain ⟨a,vs,rfl,_,h1,h2,h3⟩:=h;cases u<;>first | (cases hc;done) | unfold Is at g
  obtain ⟨b,ws,e,_,g1,g2,g3⟩:=g;cases e;cases tO h1 g1;rw [IsAll.inj I h3 g3,<- h2,<- g2]
 | .obj C fs ts,u,v,h,g=>by
  have hc:=(zX I h).symm.trans (zX I g);unfold Is at h;obtain ⟨a,dx,vs,rfl,_,h1,h2,h3⟩:=h;cases u<;>first | (cases hc;done) | unfold Is at g
  obtain ⟨b,dx',ws,e,_,g1,g2,g3⟩:=g;cases e;rw [h1] at g1;cases g1;rw [IsAll.inj I h3 g3,<- h2,<- g2]
 | .mem m o,u,v,h,g=>by
  have hc:=(zX I h).symm.trans (zX I g);unfold Is at h;obtain ⟨rfl,h1⟩:=h;cases u<;>first | (cases hc;done) | unfold Is at g
  obtain ⟨e,g1⟩:=g;cases e;rw [h1] at g1;cases g1
  rfl
 | .non,u,v,h,g=>mN rfl ((zX I g).symm.trans (zX I h)) ((fb rfl h).symm.trans (fb ((zX I g).symm.trans (zX I h)) g))
 | .bl b,u,v,h,g=>mN rfl ((zX I g).symm.trans (zX I h)) ((fb rfl h).symm.trans (fb ((zX I g).symm.trans (zX I h)) g))
 | .int i,u,v,h,g=>mN rfl ((zX I g).symm.trans (zX I h)) ((fb rfl h).symm.trans (fb ((zX I g).symm.trans (zX I h)) g))
 | .str x,u,v,h,g=>mN rfl ((zX I g).symm.trans (zX I h)) ((fb rfl h).symm.trans (fb ((zX I g).symm.trans (zX I h)) g))
 | .ty n,u,v,h,g=>mN rfl ((zX I g).symm.trans (zX I h)) ((fb rfl h).symm.trans (fb ((zX I g).symm.trans (zX I h)) g))
theorem IsAll.inj (I:zk X pins σ H s):∀ {ts us:List T} {vs:List V},IsAll X.K F H ts vs->IsAll X.K F H us vs->ts=us
 | [],us,vs,h,g=>by
  unfold IsAll at h;subst h
  cases us with
  | nil=>rfl
  | cons u us=>unfold IsAll at g;obtain ⟨_,_,e,_⟩:=g;cases e
 | t :: ts,us,vs,h,g=>by
  unfold IsAll at h;obtain ⟨v,r,rfl,h1,h2⟩:=h
  cases us with
  | nil=>unfold IsAll at g;cases g
  | cons u us =>
   unfold IsAll at g;obtain ⟨_,_,e,g1,g2⟩:=g;cases e;rw [Is.inj I h1 g1,IsAll.inj I h2 g2]
end
def uB (I:zk X pins σ H s):∀ {n:Nat} {t u:T} {x y:V} {vx vy:Value} {b:Bool} {A:Around},A.units + n < cLine->nI n t u=some b->Is X.K F H t x->Is X.K F H u y->L2.RelV x vx->L2.RelV y vy ->
  SeqAt.RcAt A s vx vy b/\SeqAt.EqAt A s vx vy b
 | 0,t,u,x,y,vx,vy,b,A,hu,h,it,iu,rx,ry=>Yp I (by omega) h it iu rx ry
 | n + 1,t,u,x,y,vx,vy,b,A,hu,h,it,iu,rx,ry=>by
  have two:∀ {a c:Addr} {k:Bool},x=.ref a->y=.ref c->(a=c->k=true)->SeqAt.RcAt A s (.ref a) (.ref c) k->SeqAt.RcAt A s (.ref a) (.ref c) k/\SeqAt.EqAt A s (.ref a) (.ref c) k:=by
   intro a c k _ _ hk r;refine ⟨r,?_⟩
   by_cases e:a=c
   ·rw [hk e,e];exact SeqAt.EqAt.same _
   ·exact .of_refs e r
  have same:x=y->b=true:=λe=>by
   subst e;have:=it.inj I iu;subst this;exact mL h
  cases t<;>cases u<;>try (exact Yp I (by omega) (by simpa [nI] using h) it iu rx ry)
  case tup.tup ts us =>
   simp only [nI,Option.map_eq_some_iff] at h;obtain ⟨c,h1,h2⟩:=h;unfold Is at it iu;obtain ⟨a,vs,rfl,g1,g2⟩:=it;obtain ⟨d,ws,rfl,g3,g4⟩:=iu;cases rx;cases ry;obtain ⟨its,r1,p1,_⟩:=I.tuple g1;obtain ⟨its',r2,p2,_⟩:=I.tuple g3;obtain ⟨e,he,hb⟩:=mJ h1;refine two rfl rfl (λz=>same (by rw [z])) ?_;have l1:=g2.len;have l2:=g4.len;have l3:=r1.length;have l4:=r2.length
   have:=SeqAt.RcAt.tuples (A:=A) p1 p2 (by omega) λj j1 j2=>by
    obtain ⟨v1,hv1,q1⟩:=vm r1 j1;obtain ⟨v2,hv2,q2⟩:=vm r2 j2;have j1':j < its.length:=by simpa using j1
    have j2':j < its'.length:=by simpa using j2
    have hj1:j < ts.length:=by omega
    have hj2:j < us.length:=by omega
    obtain ⟨w1,hw1,i1⟩:=g2.get (i:=j) (t:=ts[j]) (by simp [hj1]);obtain ⟨w2,hw2,i2⟩:=g4.get (i:=j) (t:=us[j]) (by simp [hj2]);rw [hv1] at hw1;cases hw1;rw [hv2] at hw2;cases hw2;exact (uB I (by rw [Around.in1_units];omega) (he j ts[j] us[j] (by simp [hj1]) (by simp [hj2])) i1 i2 q1 q2).2
   have e1:its.toArray.size=ts.length:=by simp;omega
   have e2:its'.toArray.size=us.length:=by simp;omega
   rw [e1,e2,hb] at this;rw [<- h2];exact this
  case lst.lst ts us =>
   simp only [nI] at h;unfold Is at it iu;obtain ⟨a,vs,rfl,g1,g2⟩:=it;obtain ⟨d,ws,rfl,g3,g4⟩:=iu;cases rx;cases ry;obtain ⟨its,r1,p1,_⟩:=I.list g1.sq;obtain ⟨its',r2,p2,_⟩:=I.list g3.sq;refine two rfl rfl (λz=>same (by rw [z])) ?_;have l1:=g2.len;have l2:=g4.len;have l3:=r1.length;have l4:=r2.length;have e1:its.toArray.size=ts.length:=by simp;omega
   have e2:its'.toArray.size=us.length:=by simp;omega
   by_cases hl:ts.length=us.length
   ·rw [if_pos hl] at h
    obtain ⟨e,he,hb⟩:=mJ h
    have:=SeqAt.RcAt.lists (A:=A) p1.isList p2.isList (by omega) (by omega) λj j1 j2=>by
     obtain ⟨v1,hv1,q1⟩:=vm r1 j1;obtain ⟨v2,hv2,q2⟩:=vm r2 j2;have j1':j < its.length:=by simpa using j1
     have j2':j < its'.length:=by simpa using j2
     have hj1:j < ts.length:=by omega
     have hj2:j < us.length:=by omega
     obtain ⟨w1,hw1,i1⟩:=g2.get (i:=j) (t:=ts[j]) (by simp [hj1]);obtain ⟨w2,hw2,i2⟩:=g4.get (i:=j) (t:=us[j]) (by simp [hj2]);rw [hv1] at hw1;cases hw1;rw [hv2] at hw2;cases hw2;exact (uB I (A:=A.in1) (by rw [Around.in1_units];omega) (he j ts[j] us[j] (by simp [hj1]) (by simp [hj2])) i1 i2 q1 q2).2
    rw [e1] at this;have e3:min ts.length us.length=ts.length:=by omega
    rw [e3] at hb;rw [hb] at this;exact this
   ·rw [if_neg hl] at h
    cases h;exact SeqAt.RcAt.lists_lengths p1.isList p2.isList (by rw [e1,e2];simpa using hl) (by omega)
def Yq (I:zk X pins σ H s)(hu:A.units < cLine)(h:rG t u=some b)(it:Is X.K F H t x)(iu:Is X.K F H u y)(rx:L2.RelV x vx)(ry:L2.RelV y vy) :
  SeqAt.RcNeAt A s vx vy (!b):=by
 cases t<;>try (simp only [rG,reduceCtorEq] at h;done)
 all_goals (cases u<;>simp only [rG,Option.some.injEq,reduceCtorEq] at h<;>unfold Is at it iu)
 case non.non=>subst it iu h;cases rx;cases ry;exact (SeqAt.RcNeAt.none_none)
 case non.bl=>subst it iu h;cases rx;cases ry;exact (SeqAt.RcNeAt.none_bool _)
 case non.int=>subst it iu h;cases rx;obtain ⟨t',rfl⟩:=ry;exact (SeqAt.RcNeAt.none_int _ _)
 case non.str=>subst it iu h;cases rx;obtain ⟨t',rfl⟩:=ry;exact (SeqAt.RcNeAt.none_str _ _)
 case bl.non=>subst it iu h;cases rx;cases ry;exact (SeqAt.RcNeAt.bool_none _)
 case bl.bl=>subst it iu h;cases rx;cases ry;exact (SeqAt.RcNeAt.bool_bool _ _)
 case bl.int=>subst it iu h;cases rx;obtain ⟨t',rfl⟩:=ry;exact (SeqAt.RcNeAt.bool_int _ _ _)
 case bl.str=>subst it iu h;cases rx;obtain ⟨t',rfl⟩:=ry;exact (SeqAt.RcNeAt.bool_str _ _ _)
 case int.non=>subst it iu h;obtain ⟨t',rfl⟩:=rx;cases ry;exact (SeqAt.RcNeAt.int_none _ _)
 case int.bl=>subst it iu h;obtain ⟨t',rfl⟩:=rx;cases ry;exact (SeqAt.RcNeAt.int_bool _ _ _)
 case int.int=>subst it iu h;obtain ⟨t',rfl⟩:=rx;obtain ⟨t',rfl⟩:=ry;exact (SeqAt.RcNeAt.int_int _ _ _ _)
 case int.str=>subst it iu h;obtain ⟨t',rfl⟩:=rx;obtain ⟨t',rfl⟩:=ry;exact (SeqAt.RcNeAt.int_str _ _ _ _)
 case str.non=>subst it iu h;obtain ⟨t',rfl⟩:=rx;cases ry;exact (SeqAt.RcNeAt.str_none _ _)
 case str.bl=>subst it iu h;obtain ⟨t',rfl⟩:=rx;cases ry;exact (SeqAt.RcNeAt.str_bool _ _ _)
 case str.int=>subst it iu h;obtain ⟨t',rfl⟩:=rx;obtain ⟨t',rfl⟩:=ry;exact (SeqAt.RcNeAt.str_int _ _ _ _)
 case str.str=>subst it iu h;obtain ⟨t',rfl⟩:=rx;obtain ⟨t',rfl⟩:=ry;exact (SeqAt.RcNeAt.str_str _ _ _ _)
 case tup.lst =>
  obtain ⟨a,vs,rfl,h1,_⟩:=it;obtain ⟨b,ws,rfl,h2,_⟩:=iu;subst h;cases rx;cases ry;obtain ⟨_,_,p1,_⟩:=I.tuple h1;obtain ⟨_,_,p2,_⟩:=I.list h2.sq;exact (SeqAt.RcNeAt.tuple_list p1 p2.isList hu)
 case lst.tup =>
  obtain ⟨a,vs,rfl,h1,_⟩:=it;obtain ⟨b,ws,rfl,h2,_⟩:=iu;subst h;cases rx;cases ry;obtain ⟨_,_,p1,_⟩:=I.list h1.sq;obtain ⟨_,_,p2,_⟩:=I.tuple h2;exact (SeqAt.RcNeAt.list_tuple p1.isList p2 hu)
 case tup.non=>obtain ⟨a,vs,rfl,h1,_⟩:=it;subst iu h;cases rx;cases ry;obtain ⟨_,_,p1,_⟩:=I.tuple h1;exact (SeqAt.RcNeAt.tuple_none p1 hu)
 case tup.bl=>obtain ⟨a,vs,rfl,h1,_⟩:=it;subst iu h;cases rx;cases ry;obtain ⟨_,_,p1,_⟩:=I.tuple h1;exact (SeqAt.RcNeAt.tuple_bool _ p1 hu)
 case tup.int=>obtain ⟨a,vs,rfl,h1,_⟩:=it;subst iu h;cases rx;obtain ⟨t',rfl⟩:=ry;obtain ⟨_,_,p1,_⟩:=I.tuple h1;exact (SeqAt.RcNeAt.tuple_int _ _ p1 hu)
 case tup.str=>obtain ⟨a,vs,rfl,h1,_⟩:=it;subst iu h;cases rx;obtain ⟨t',rfl⟩:=ry;obtain ⟨_,_,p1,_⟩:=I.tuple h1;exact (SeqAt.RcNeAt.tuple_str _ _ p1 hu)
 case lst.non=>obtain ⟨a,vs,rfl,h1,_⟩:=it;subst iu h;cases rx;cases ry;obtain ⟨_,_,p1,_⟩:=I.list h1.sq;exact (SeqAt.RcNeAt.list_none p1.isList hu)
 case lst.bl=>obtain ⟨a,vs,rfl,h1,_⟩:=it;subst iu h;cases rx;cases ry;obtain ⟨_,_,p1,_⟩:=I.list h1.sq;exact (SeqAt.RcNeAt.list_bool _ p1.isList hu)
 case lst.int=>obtain ⟨a,vs,rfl,h1,_⟩:=it;subst iu h;cases rx;obtain ⟨t',rfl⟩:=ry;obtain ⟨_,_,p1,_⟩:=I.list h1.sq;exact (SeqAt.RcNeAt.list_int _ _ p1.isList hu)
 case lst.str=>obtain ⟨a,vs,rfl,h1,_⟩:=it;subst iu h;cases rx;obtain ⟨t',rfl⟩:=ry;obtain ⟨_,_,p1,_⟩:=I.list h1.sq;exact (SeqAt.RcNeAt.list_str _ _ p1.isList hu)
 case non.tup=>obtain ⟨a,vs,rfl,h1,_⟩:=iu;subst it h;cases rx;cases ry;obtain ⟨_,_,p1,_⟩:=I.tuple h1;exact (SeqAt.RcNeAt.none_tuple p1 hu)
 case bl.tup=>obtain ⟨a,vs,rfl,h1,_⟩:=iu;subst it h;cases rx;cases ry;obtain ⟨_,_,p1,_⟩:=I.tuple h1;exact (SeqAt.RcNeAt.bool_tuple _ p1 hu)
 case int.tup=>obtain ⟨a,vs,rfl,h1,_⟩:=iu;subst it h;cases ry;obtain ⟨t',rfl⟩:=rx;obtain ⟨_,_,p1,_⟩:=I.tuple h1;exact (SeqAt.RcNeAt.int_tuple _ _ p1 hu)
 case str.tup=>obtain ⟨a,vs,rfl,h1,_⟩:=iu;subst it h;cases ry;obtain ⟨t',rfl⟩:=rx;obtain ⟨_,_,p1,_⟩:=I.tuple h1;exact (SeqAt.RcNeAt.str_tuple _ _ p1 hu)
 case non.lst=>obtain ⟨a,vs,rfl,h1,_⟩:=iu;subst it h;cases rx;cases ry;obtain ⟨_,_,p1,_⟩:=I.list h1.sq;exact (SeqAt.RcNeAt.none_list p1.isList hu)
 case bl.lst=>obtain ⟨a,vs,rfl,h1,_⟩:=iu;subst it h;cases rx;cases ry;obtain ⟨_,_,p1,_⟩:=I.list h1.sq;exact (SeqAt.RcNeAt.bool_list _ p1.isList hu)
 case int.lst=>obtain ⟨a,vs,rfl,h1,_⟩:=iu;subst it h;cases ry;obtain ⟨t',rfl⟩:=rx;obtain ⟨_,_,p1,_⟩:=I.list h1.sq;exact (SeqAt.RcNeAt.int_list _ _ p1.isList hu)
 case str.lst=>obtain ⟨a,vs,rfl,h1,_⟩:=iu;subst it h;cases ry;obtain ⟨t',rfl⟩:=rx;obtain ⟨_,_,p1,_⟩:=I.list h1.sq;exact (SeqAt.RcNeAt.str_list _ _ p1.isList hu)
def Qm (I:zk X pins σ H s):∀ {n:Nat} {t u:T} {x y:V} {vx vy:Value} {b:Bool} {A:Around},A.units + n < cLine->nI n t u=some b->Is X.K F H t x->Is X.K F H u y->L2.RelV x vx->L2.RelV y vy ->
  SeqAt.RcNeAt A s vx vy (!b)
 | 0,t,u,x,y,vx,vy,b,A,hu,h,it,iu,rx,ry=>Yq I (by omega) h it iu rx ry
 | n + 1,t,u,x,y,vx,vy,b,A,hu,h,it,iu,rx,ry=>by
  cases t<;>cases u<;>try (exact Yq I (by omega) (by simpa [nI] using h) it iu rx ry)
  case tup.tup ts us =>
   simp only [nI,Option.map_eq_some_iff] at h;obtain ⟨c,h1,h2⟩:=h;unfold Is at it iu;obtain ⟨a,vs,rfl,g1,g2⟩:=it;obtain ⟨d,ws,rfl,g3,g4⟩:=iu;cases rx;cases ry;obtain ⟨its,r1,p1,_⟩:=I.tuple g1;obtain ⟨its',r2,p2,_⟩:=I.tuple g3;obtain ⟨e,he,hb⟩:=mJ h1;have l1:=g2.len;have l2:=g4.len;have l3:=r1.length;have l4:=r2.length
   have:=SeqAt.RcNeAt.tuples (A:=A) (e:=e) p1 p2 (by omega) λj j1 j2=>by
    obtain ⟨v1,hv1,q1⟩:=vm r1 j1;obtain ⟨v2,hv2,q2⟩:=vm r2 j2;have j1':j < its.length:=by simpa using j1
    have j2':j < its'.length:=by simpa using j2
    have hj1:j < ts.length:=by omega
    have hj2:j < us.length:=by omega
    obtain ⟨w1,hw1,i1⟩:=g2.get (i:=j) (t:=ts[j]) (by simp [hj1]);obtain ⟨w2,hw2,i2⟩:=g4.get (i:=j) (t:=us[j]) (by simp [hj2]);rw [hv1] at hw1;cases hw1;rw [hv2] at hw2;cases hw2;exact (uB I (A:=A.in1) (by rw [Around.in1_units];omega) (he j ts[j] us[j] (by simp [hj1]) (by simp [hj2])) i1 i2 q1 q2).2
   have e1:its.toArray.size=ts.length:=by simp;omega
   have e2:its'.toArray.size=us.length:=by simp;omega
   rw [e1,e2,hb] at this;rw [<- h2];exact this
  case lst.lst ts us =>
   simp only [nI] at h;unfold Is at it iu;obtain ⟨a,vs,rfl,g1,g2⟩:=it;obtain ⟨d,ws,rfl,g3,g4⟩:=iu;cases rx;cases ry;obtain ⟨its,r1,p1,_⟩:=I.list g1.sq;obtain ⟨its',r2,p2,_⟩:=I.list g3.sq;have l1:=g2.len;have l2:=g4.len;have l3:=r1.length;have l4:=r2.length;have e1:its.toArray.size=ts.length:=by simp;omega
   have e2:its'.toArray.size=us.length:=by simp;omega
   by_cases hl:ts.length=us.length
   ·rw [if_pos hl] at h
    obtain ⟨e,he,hb⟩:=mJ h
    have:=SeqAt.RcNeAt.lists (A:=A) (e:=e) p1.isList p2.isList (by omega) (by omega) λj j1 j2=>by
     obtain ⟨v1,hv1,q1⟩:=vm r1 j1;obtain ⟨v2,hv2,q2⟩:=vm r2 j2;have j1':j < its.length:=by simpa using j1
     have j2':j < its'.length:=by simpa using j2
     have hj1:j < ts.length:=by omega
     have hj2:j < us.length:=by omega
     obtain ⟨w1,hw1,i1⟩:=g2.get (i:=j) (t:=ts[j]) (by simp [hj1]);obtain ⟨w2,hw2,i2⟩:=g4.get (i:=j) (t:=us[j]) (by simp [hj2]);rw [hv1] at hw1;cases hw1;rw [hv2] at hw2;cases hw2;exact (uB I (A:=A.in1) (by rw [Around.in1_units];omega) (he j ts[j] us[j] (by simp [hj1]) (by simp [hj2])) i1 i2 q1 q2).2
    rw [e1] at this;have e3:min ts.length us.length=ts.length:=by omega
    rw [e3] at hb;rw [hb] at this;exact this
   ·rw [if_neg hl] at h
    cases h;exact SeqAt.RcNeAt.lists_lengths p1.isList p2.isList (by rw [e1,e2];simpa using hl) (by omega)
end
def rT (K:W.Frag)(f:T->T->Option RV):R2:=λx y H Q=>∃ F tx ty rv,iD F H/\Is K F H tx x/\Is K F H ty y/\f tx ty=some rv/\∀ v F' H',jE F H F' H'->wu K (λa=>H a=none) F' H' v rv->Q v H'
def z8 {K:W.Frag}{f:T->T->Option RV} : P7 K (rT K f) f:=λF H x y tx ty Q rv d ix iy e q=>⟨F,tx,ty,rv,d,ix,iy,e,q⟩
def WR (K:W.Frag)(f:List T->Option RV):List V->Hp->VK->Prop:=λvs H Q=>∃ F ts rv,iD F H/\IsAll K F H ts vs/\f ts=some rv/\∀ v F' H',jE F H F' H'->wu K (λa=>H a=none) F' H' v rv->Q v H'
def WS {K:W.Frag}{Q:VK}{ts:List T}{vs:List V}{p:Addr}(d:iD F H)(i:IsAll K F H ts vs)(hp:H p=none)
  (q:∀ v F' H',jE F H F' H'->wu K (λa=>H a=none) F' H' v (true,.lst ts)->Q v H'):Q (.ref p) (zW H p (.lst vs)):=by
 have x:=jE.alloc d (o:=.lst vs) hp;refine q _ F _ x ?_;unfold wu;rw [if_pos rfl];exact ⟨p,rfl,λf=>d p f hp,hp,vs,zh,i.mono x.kept⟩
def WT {K:W.Frag}{Q:VK}{ts:List T}{vs:List V}{p:Addr}(d:iD F H)(i:IsAll K F H ts vs)(hp:H p=none)
  (q:∀ v F' H',jE F H F' H'->wu K (λa=>H a=none) F' H' v (false,.tup ts)->Q v H'):Q (.ref p) (zW H p (.tup vs)):=by
 have x:=jE.alloc d (o:=.tup vs) hp;refine q _ F _ x (jo ?_);unfold Is;exact ⟨p,vs,rfl,.inl (.inl zh),i.mono x.kept⟩
def jQ {K:W.Frag}{Q:VK}{t:T}{v:V}{rv:RV}(d:iD F H)(i:Is K F H t v)(q:∀ v F' H',jE F H F' H'->wu K (λa=>H a=none) F' H' v rv->Q v H')(e:rv=(false,t)):Q v H:=by
 subst e;exact q v F H (.refl d) (jo i)
def xg {K:W.Frag}{i:Int} : Is K F H (.int i) (.int i):=by unfold Is;rfl
def xH {K:W.Frag}{i:Bool} : Is K F H (.bl i) (.bl i):=by unfold Is;rfl
def vX {K:W.Frag}{i:Str} : Is K F H (.str i) (.str i):=by unfold Is;rfl
def Yr {K:W.Frag} : Is K F H .non .non:=by unfold Is;rfl
def zr (t u:T):Option RV:=match t with
 | .int i=>match u with
  | .int j=>some (false,.int (i + j))
  | _=>none
 | .str x=>match u with
  | .str y=>if x.length + y.length<=sizeLine then some (false,.str (x ++ y)) else none
  | _=>none
 | .lst ts=>match u with
  | .lst us=>if ts.length + us.length<=sizeLine then some (true,.lst (ts ++ us)) else none
  | _=>none
 | .tup ts=>match u with
  | .tup us=>if ts.length + us.length<=sizeLine then some (false,.tup (ts ++ us)) else none
  | _=>none
 | _=>none
def dG (t u:T):Option RV:=match t with
 | .int i=>match u with
  | .int j=>some (false,.int (i - j))
  | _=>none
 | _=>none
instance (i j:Int):Decidable (Zw i j):=by unfold Zw;infer_instance
instance (i j:Int):Decidable (Zv i j):=by unfold Zv;infer_instance
def iF (t u:T):Option RV:=match t with
 | .int i=>match u with
  | .int j=>if Zw i j then some (false,.int (i * j)) else none
  | _=>none
 | .str x=>match u with
  | .int n=>if -(2 ^ 63)<=n/\n<=16777216/\x.length * n.toNat<=16777216 then some (false,.str (Txt.mul x n)) else none
  | _=>none
 | _=>none
def jL (t u:T):Option RV:=match t with
 | .int i=>match u with
  | .int j=>if Zv i j then some (false,.int (i / j)) else none
  | _=>none
 | _=>none
def zS (t u:T):Option RV:=match t with
 | .int i=>match u with
  | .int j=>if 0 < j then some (false,.int (i % j)) else none
  | _=>none
 | _=>none
def Ys {prog:Program}{w:World}{A:Around}{E:Value->Shared->Prop}{s:Shared}{t b:Addr}{vs ws:List Value}{Q:Value->Shared->Prop}(ht:IsTup s.heap t vs.toArray)(hb:IsTup s.heap b ws.toArray)(hv:vs=[])
  (h1:Q (.ref b) s):wpAny (model prog w) A (binaryOp .Add (.ref t) (.ref b)) Q E s:=by
 obtain ⟨⟨cls,dd,data,sl⟩,ho,hc,n,hd⟩:=id ht;obtain ⟨⟨cls2,dd2,data2,sl2⟩,ho2,hc2,n2,hd2⟩:=id hb;simp only at hc hd hc2 hd2;subst hc hd hc2 hd2
 exact concat_meets ⟨_,ho,rfl⟩ ⟨_,ho2,rfl⟩ noFill_tuple_add seq_tuple_add PySem.F.slot_tuple_add PySem.F.entry_tuple_add (PySem.F.args_tuple_add_2 _ _)
   (tuple_addW0 t b vs.toArray ws.toArray n n2 dd dd2 sl sl2 (by simp [hv])) ⟨ho,ho2,h1⟩
def Yt (hl:s.heap.IsList l xs)(hb:s.heap.IsList b ys)(hsz:xs.size + ys.size<=sizeLine)
  (h:Q (.ref s.heap.objs.size) { s with heap:=s.heap.push { cls:=.type "list",data:=.seq (xs ++ ys) } }):wpAny (model prog w) A (binaryOp .Add (.ref l) (.ref b)) Q E s:=by
 obtain ⟨⟨cls,dd,data,sl⟩,ho,hc,n,hd⟩:=id hl;obtain ⟨⟨cls2,dd2,data2,sl2⟩,ho2,hc2,n2,hd2⟩:=id hb;simp only at hc hd hc2 hd2;subst hc hd hc2 hd2;exact concat_meets ⟨_,ho,rfl⟩ ⟨_,ho2,rfl⟩ noFill_list_add seq_list_add PySem.F.slot_list_add PySem.F.entry_list_add (PySem.F.args_list_add_2 _ _) (list_addW l b xs ys n n2 dd dd2 sl sl2 hsz) ⟨ho,ho2,h⟩
def jb:qp X (binaryOp .Add) (rT X.K zr):=by
 intro pins s σ H x y v u Q I rx ry h;obtain ⟨F,tx,ty,rv,d,ix,iy,e,q⟩:=h;cases tx<;>try (simp only [zr,reduceCtorEq] at e;done)
 all_goals (cases ty<;>simp only [zr,reduceCtorEq] at e)
 case int.int i j =>
  unfold Is at ix iy;subst ix iy;cases e;exact KQ pins s σ H _ _ v u Q I rx ry ⟨i,j,rfl,rfl,jQ d xg q rfl⟩
 case str.str i j =>
  unfold Is at ix iy;subst ix iy
  split at e<;>cases e
  rename_i hl;exact t6 pins s σ H _ _ v u Q I rx ry ⟨i,j,rfl,rfl,hl,jQ d vX q rfl⟩
 case lst.lst ts us =>
  split at e<;>cases e
  rename_i hl;unfold Is at ix iy;obtain ⟨l,vs,rfl,g1,g2⟩:=ix;obtain ⟨b,ws,rfl,g3,g4⟩:=iy;cases rx;cases ry;obtain ⟨its,r,p1,z⟩:=I.list g1.sq;obtain ⟨its2,r2,p2,z2⟩:=I.list g3.sq;have l1:=g2.len;have l2:=g4.len;have l3:=r.length;have l4:=r2.length;have ea:its.toArray ++ its2.toArray=(its ++ its2).toArray:=by simp
  refine Yt p1.isList p2.isList (by rw [List.size_toArray,List.size_toArray];omega) ?_;rw [ea];exact ⟨.ref _,_,I.lnew (r.append r2) (by rw [List.length_append];omega),rfl,WS d (g2.append g4) I.fresh q⟩
 case tup.tup ts us =>
  split at e<;>cases e
  rename_i hl;have ix':=ix;have iy':=iy;unfold Is at ix iy;obtain ⟨l,vs,rfl,g1,g2⟩:=ix;obtain ⟨b,ws,rfl,g3,g4⟩:=iy;have l1:=g2.len;have l2:=g4.len
  by_cases hv:vs=[]
  ·subst hv
   cases rx;cases ry;obtain ⟨its,r1,p1,_⟩:=I.tuple g1;obtain ⟨its2,r2,p2,_⟩:=I.tuple g3;refine Ys p1 p2 (r1.nil_iff.mpr rfl) ⟨.ref b,H,I,rfl,?_⟩;have:ts=[]:=List.eq_nil_of_length_eq_zero (by rw [l1];rfl);subst this;exact jQ d iy' q rfl
  ·refine WD pins s σ H _ _ v u Q I rx ry ⟨l,b,vs,ws,rfl,rfl,g1,g3,hv,by omega,λz => ?_,λz p hp=>WT d (g2.append g4) hp q⟩
   subst z;have:us=[]:=List.eq_nil_of_length_eq_zero (by rw [l2];rfl);subst this;exact jQ d ix' q (by rw [List.append_nil])
def Yu:qp X (binaryOp .Sub) (rT X.K dG):=by
 intro pins s σ H x y v u Q I rx ry h;obtain ⟨F,tx,ty,rv,d,ix,iy,e,q⟩:=h;cases tx<;>try (simp only [dG,reduceCtorEq] at e;done)
 all_goals (cases ty<;>simp only [dG,reduceCtorEq] at e)
 case int.int i j =>
  unfold Is at ix iy;subst ix iy;cases e;exact KR pins s σ H _ _ v u Q I rx ry ⟨i,j,rfl,rfl,jQ d xg q rfl⟩
def rJ:qp X (binaryOp .Mult) (rT X.K iF):=by
 intro pins s σ H x y v u Q I rx ry h;obtain ⟨F,tx,ty,rv,d,ix,iy,e,q⟩:=h;cases tx<;>try (simp only [iF,reduceCtorEq] at e;done)
 all_goals (cases ty<;>simp only [iF,reduceCtorEq] at e)
 case int.int i j =>
  unfold Is at ix iy;subst ix iy
  split at e<;>cases e
  rename_i hc;exact KS pins s σ H _ _ v u Q I rx ry ⟨i,j,rfl,rfl,hc,jQ d xg q rfl⟩
 case str.int i j =>
  unfold Is at ix iy;subst ix iy
  split at e<;>cases e
  rename_i hc;obtain ⟨t,rfl⟩:=rx;obtain ⟨t',rfl⟩:=ry;refine SB.mul (mulOk_of i.length j.toNat (Nat.le_refl _) (by omega) hc.1 (by omega) hc.2.2) λt' k=>⟨.str (Txt.mul i j),H,I.tok _,⟨t',rfl⟩,jQ d vX q rfl⟩
def wv:qp X (binaryOp .FloorDiv) (rT X.K jL):=by
 intro pins s σ H x y v u Q I rx ry h;obtain ⟨F,tx,ty,rv,d,ix,iy,e,q⟩:=h;cases tx<;>try (simp only [jL,reduceCtorEq] at e;done)
 all_goals (cases ty<;>simp only [jL,reduceCtorEq] at e)
 case int.int i j =>
  unfold Is at ix iy;subst ix iy
  split at e<;>cases e
  rename_i hc;exact Wr pins s σ H _ _ v u Q I rx ry ⟨i,j,rfl,rfl,hc,jQ d xg q rfl⟩
def jy:qp X (binaryOp .Mod) (rT X.K zS):=by
 intro pins s σ H x y v u Q I rx ry h;obtain ⟨F,tx,ty,rv,d,ix,iy,e,q⟩:=h;cases tx<;>try (simp only [zS,reduceCtorEq] at e;done)
 all_goals (cases ty<;>simp only [zS,reduceCtorEq] at e)
 case int.int i j =>
  unfold Is at ix iy;subst ix iy
  split at e<;>cases e
  rename_i hc;exact KU pins s σ H _ _ v u Q I rx ry ⟨i,j,rfl,rfl,hc,jQ d xg q rfl⟩
def zO (a b:T):Option RV:=(nI 40 a b).map λk=>(false,.bl k)
def uC (a b:T):Option RV:=(nI 40 a b).map λk=>(false,.bl (!k))
def ga (t u:T):Option RV:=match t with
 | .int i=>match u with
  | .int j=>some (false,.bl (decide (i < j)))
  | _=>none
 | .str i=>match u with
  | .str j=>some (false,.bl (decide (i.cps.toList < j.cps.toList)))
  | _=>none
 | _=>none
def Yv (t u:T):Option RV:=match t with
 | .int i=>match u with
  | .int j=>some (false,.bl (decide (i<=j)))
  | _=>none
 | .str i=>match u with
  | .str j=>some (false,.bl (!decide (j.cps.toList < i.cps.toList)))
  | _=>none
 | _=>none
def pK (t u:T):Option RV:=match t with
 | .int i=>match u with
  | .int j=>some (false,.bl (decide (j < i)))
  | _=>none
 | .str i=>match u with
  | .str j=>some (false,.bl (decide (j.cps.toList < i.cps.toList)))
  | _=>none
 | _=>none
def tP:T->T->Option RV
 | .bl a,.bl b=>some (false,.bl (a == b))
 | .non,.non=>some (false,.bl true)
 | .tup _,.non=>some (false,.bl false)
 | .lst _,.non=>some (false,.bl false)
 | .dct _ _,.non=>some (false,.bl false)
 | .obj _ _ _,.non=>some (false,.bl false)
 | .str _,.non=>some (false,.bl false)
 | .int _,.non=>some (false,.bl false)
 | .bl _,.non=>some (false,.bl false)
 | _,_=>none
def eJ (t u:T):Option RV:=match u with
 | .non=>match t with
  | .non=>some (false,.bl false)
  | .tup _=>some (false,.bl true)
  | .lst _=>some (false,.bl true)
  | .dct _ _=>some (false,.bl true)
  | .obj _ _ _=>some (false,.bl true)
  | .str _=>some (false,.bl true)
  | .int _=>some (false,.bl true)
  | .bl _=>some (false,.bl true)
  | _=>none
 | _=>none
def w8 (hu:X.A.units + 40 < cLine):qp X (compareOp .Eq) (rT X.K zO):=by
 intro pins s σ H x y v u Q I rx ry h;obtain ⟨F,tx,ty,rv,d,ix,iy,e,q⟩:=h;simp only [zO,Option.map_eq_some_iff] at e;obtain ⟨k,e,rfl⟩:=e;exact EqBoolInt.of_rc (uB I hu e ix iy rx ry).1 ⟨.bl k,H,I,rfl,jQ d xH q rfl⟩
def Qn (hu:X.A.units + 40 < cLine):qp X (compareOp .NotEq) (rT X.K uC):=by
 intro pins s σ H x y v u Q I rx ry h;obtain ⟨F,tx,ty,rv,d,ix,iy,e,q⟩:=h;simp only [uC,Option.map_eq_some_iff] at e;obtain ⟨k,e,rfl⟩:=e;exact (Qm I hu e ix iy rx ry) _ _ _ _ ⟨.bl (!k),H,I,rfl,jQ d xH q rfl⟩
def tQ:qp X (compareOp .Lt) (rT X.K ga):=by
 intro pins s σ H x y v u Q I rx ry h;obtain ⟨F,tx,ty,rv,d,ix,iy,e,q⟩:=h;cases tx<;>try (simp only [ga,reduceCtorEq] at e;done)
 all_goals (cases ty<;>simp only [ga,reduceCtorEq] at e)
 case int.int i j =>
  unfold Is at ix iy;subst ix iy;cases e;exact GL pins s σ H _ _ v u Q I rx ry ⟨i,j,rfl,rfl,jQ d xH q rfl⟩
 case str.str i j =>
  unfold Is at ix iy;subst ix iy;cases e;exact Zx pins s σ H _ _ v u Q I rx ry ⟨i,j,rfl,rfl,jQ d xH q rfl⟩
def UQ:qp X (compareOp .LtE) (rT X.K Yv):=by
 intro pins s σ H x y v u Q I rx ry h;obtain ⟨F,tx,ty,rv,d,ix,iy,e,q⟩:=h;cases tx<;>try (simp only [Yv,reduceCtorEq] at e;done)
 all_goals (cases ty<;>simp only [Yv,reduceCtorEq] at e)
 case int.int i j =>
  unfold Is at ix iy;subst ix iy;cases e;exact GM pins s σ H _ _ v u Q I rx ry ⟨i,j,rfl,rfl,jQ d xH q rfl⟩
 case str.str i j =>
  unfold Is at ix iy;subst ix iy;cases e;obtain ⟨t,rfl⟩:=rx;obtain ⟨t',rfl⟩:=ry;exact PySem.P.le_str (mj I (jQ d xH q rfl) rfl)
def Yw:qp X (compareOp .Gt) (rT X.K pK):=by
 intro pins s σ H x y v u Q I rx ry h;obtain ⟨F,tx,ty,rv,d,ix,iy,e,q⟩:=h;cases tx<;>try (simp only [pK,reduceCtorEq] at e;done)
 all_goals (cases ty<;>simp only [pK,reduceCtorEq] at e)
 case int.int i j =>
  unfold Is at ix iy;subst ix iy;cases e;exact GN pins s σ H _ _ v u Q I rx ry ⟨i,j,rfl,rfl,jQ d xH q rfl⟩
 case str.str i j =>
  unfold Is at ix iy;subst ix iy;cases e;obtain ⟨t,rfl⟩:=rx;obtain ⟨t',rfl⟩:=ry;exact PySem.P.gt_str (mj I (jQ d xH q rfl) rfl)
def UR:qp X (compareOp .Is) (rT X.K tP):=by
 intro pins s σ H x y v u Q I rx ry h;obtain ⟨F,tx,ty,rv,d,ix,iy,e,q⟩:=h;cases ty
 case bl b =>
  cases tx<;>simp only [tP,reduceCtorEq] at e
  case bl a =>
   unfold Is at ix iy;subst ix iy;cases e;cases rx;cases ry;refine wpAny_is_plain rfl ⟨.bl (a == b),H,I,?_,jQ d xH q rfl⟩;cases a<;>cases b<;>rfl
 case non =>
  unfold Is at iy;subst iy;refine KZ pins s σ H _ _ v u Q I rx ry ⟨rfl,?_⟩
  have:(x=.non↔tx=.non):=by
   cases tx<;>unfold Is at ix<;>first
    | (subst ix;simp;done)
    | (obtain ⟨a,_,rfl,_⟩:=ix;simp;done)
    | (obtain ⟨a,_,_,rfl,_⟩:=ix;simp;done)
    | (obtain ⟨rfl,_⟩:=ix;simp;done)
  cases tx<;>simp only [tP,reduceCtorEq] at e<;>cases e<;>simp only [this,reduceCtorEq]<;>exact jQ d xH q (by simp)
 all_goals (cases tx<;>simp only [tP,reduceCtorEq] at e)
def P9:qp X (compareOp .IsNot) (rT X.K eJ):=by
 intro pins s σ H x y v u Q I rx ry h;obtain ⟨F,tx,ty,rv,d,ix,iy,e,q⟩:=h;cases ty
 case non =>
  unfold Is at iy;subst iy;refine Ws pins s σ H _ _ v u Q I rx ry ⟨rfl,?_⟩
  have:(x=.non↔tx=.non):=by
   cases tx<;>unfold Is at ix<;>first
    | (subst ix;simp;done)
    | (obtain ⟨a,_,rfl,_⟩:=ix;simp;done)
    | (obtain ⟨a,_,_,rfl,_⟩:=ix;simp;done)
    | (obtain ⟨rfl,_⟩:=ix;simp;done)
  cases tx<;>simp only [eJ,reduceCtorEq] at e<;>cases e<;>simp only [this,reduceCtorEq]<;>exact jQ d xH q (by simp)
 all_goals (cases tx<;>simp only [eJ,reduceCtorEq] at e)
end L3
namespace HT
open PySem PySem.Spec PyProof.Rows L2
def getItem_tuple_whole {prog:Program}{w:World}{A:Around}{E:Value->Shared->Prop}{s:Shared}{t sl:Addr}{items:Array Value}{vl vu:Value}{lo hi:Option Int}{Q:Value->Shared->Prop}(ht:IsTup s.heap t items)(hs:s.heap.IsSliceOf sl vl vu .none)(pl:IsPart vl lo)(pu:IsPart vu hi)
  (hw:sIx items.size 0 lo=0/\sIx items.size items.size hi=items.size) (h:Q (.ref t) s):wpAny (model prog w) A (getItem (.ref t) (.ref sl)) Q E s:=by
 obtain ⟨os,hos,hcs,hds⟩:=id hs;have hTs:s.TypeIs (.ref sl) "slice" := ⟨os,hos,hcs⟩
 unfold getItem
 try with_reducible refine wpAny_holding ?_
 first | refine wpAny_bind (wpAny_pure ?_) | skip
 refine wpAny_bind (wpAny_sequenceKey ht.typeIs (by decide) ?_)
 refine wpAny_bind (wpAny_callSpecial?_slot ht.typeIs PyProof.Rows.slot_tuple_getitem
  (wpAny_call_entry PyProof.Rows.slot_tuple_getitem ht.typeIs entry_tuple_getitem ?_ (args_tuple_getitem _ _)))
 show wpAny _ _ (Builtin.Tuple.tupleItemsOf (.ref t) >>= _) _ _ s;refine wpAny_bind (tupleItemsOf_ ht ?_);refine wpAny_bind (wpAny_typeOf hTs ?_);rw [if_pos (by decide)];refine wpAny_bind (kY hs pl pu ?_)
 have hyes:(((sIx items.size 0 lo:Nat):Int) == 0 && (1:Int) == 1 && (sIx items.size items.size hi - sIx items.size 0 lo) == items.size)=true:=by
  rw [hw.1,hw.2];simp
 show wpAny _ _ (if (((sIx items.size 0 lo:Nat):Int) == 0 && (1:Int) == 1 && (sIx items.size items.size hi - sIx items.size 0 lo) == items.size)=true then _ else _) _ _ s;rw [if_pos hyes];unfold Builtin.Tuple.tupleIsExact;refine wpAny_bind (wpAny_bind (wpAny_typeOf ht.typeIs ?_));refine wpAny_pure ?_;rw [if_pos (by decide)];exact wpAny_bind (wpAny_rule (wpAny_pure ⟨_,rfl,wpAny_pure h⟩))
end HT
namespace L3
open PySem PySem.Spec PyProof.Rows L2
section
variable {K:W.Frag}{F:Addr->Prop}{H:Hp}
theorem IsAll.at (h:IsAll K F H ts vs)(e:mz ts i=some t):∃ v,mz vs i=some v/\Is K F H t v:=by
 unfold mz at e ⊢;rw [<- h.len]
 cases hj:aR ts.length i with
 | none=>rw [hj] at e;cases e
 | some j =>
  rw [hj] at e;have e:ts[j]? = some t:=e;obtain ⟨v,hv,q⟩:=h.get e;exact ⟨v,hv,q⟩
def qx:List Key->List T->Key->Option T
 | k :: ks,t :: ts,x=>if k=x then some t else qx ks ts x
 | _,_,_=>none
theorem pL:∀ {ks:List Key} {ts:List T} {kvs:List (Key×V)} (x:Key),kvs.map (·.1)=ks->IsAll K F H ts (kvs.map (·.2)) ->
  (∀ t,qx ks ts x=some t->∃ v,xF kvs x=some v/\Is K F H t v)/\(qx ks ts x=none->xF kvs x=none)
 | [],ts,[],x,_,_=>⟨λt h=>by cases ts<;>simp [qx] at h,λ_=>rfl⟩
 | [],ts,kv :: kvs,x,h,_=>by simp at h
 | k :: ks,ts,[],x,h,_=>by simp at h
 | k :: ks,[],kv :: kvs,x,h,g=>by unfold IsAll at g;simp at g
 | k :: ks,t :: ts,kv :: kvs,x,h,g=>by
  simp only [List.map_cons,List.cons.injEq] at h;obtain ⟨h1,h2⟩:=h;rw [List.map_cons] at g;unfold IsAll at g;obtain ⟨v,r,e,g1,g2⟩:=g;cases e;have ih:=pL x h2 g2;unfold qx
  by_cases hk:k=x
  ·rw [if_pos hk,jO (h1.trans hk)]
   exact ⟨λt' e=>by cases e;exact ⟨_,rfl,g1⟩,λz=>by cases z⟩
  ·rw [if_neg hk,jP (λz=>hk (h1.symm.trans z))]
   exact ih
end
def gh (x:T):List T->Option Bool
 | []=>some false
 | t :: ts=>match nI 40 t x with
  | none=>none
  | some a=>match gh x ts with
   | none=>none
   | some b=>some (a || b)
def pM:T->Option Key
 | .int i=>some (.inl i)
 | .str x=>some (.inr x)
 | _=>none
def WU:T->T->Option Bool
 | .str x,.str y=>some (!(Builtin.Str.occurrences y x 0 y.length 1).isEmpty)
 | x,.lst ts=>gh x ts
 | x,.tup ts=>gh x ts
 | x,.dct ks ts=>(pM x).map λk=>(qx ks ts k).isSome
 | _,_=>none
def pN (a b:T):Option RV:=(WU a b).map λk=>(false,.bl k)
def qO (a b:T):Option RV:=(WU a b).map λk=>(false,.bl (!k))
section
variable {X:Cx}
open Classical in
def qP (X:Cx)(F:Addr->Prop)(H:Hp)(t:T)(u:Value):Bool:=decide (∃ (y:V) (ty:T),L2.RelV y u/\Is X.K F H ty y/\nI 40 ty t=some true)
open Classical in
theorem Yx (I:zk X pins σ H s)(r:L2.RelV y u)(i:Is X.K F H ty y)(e:nI 40 ty t=some a):qP X F H t u=a:=by
 unfold qP
 cases a with
 | true=>exact decide_eq_true ⟨y,ty,r,i,e⟩
 | false =>
  refine decide_eq_false λ⟨y',ty',r',i',e'⟩ => ?_;have:=bt r r';subst this;have:=i.inj I i';subst this;rw [e] at e';cases e'
theorem mO (I:zk X pins σ H s)(hu:A.units + 40 < cLine)(it:Is X.K F H t x)(rx:L2.RelV x vx) :
  ∀ {ts:List T} {vs:List V} {us:List Value} {b:Bool},gh t ts=some b->IsAll X.K F H ts vs->zJ vs us->(∀ u,u∈us->SeqAt.EqAt A s u vx (qP X F H t u))/\us.any (qP X F H t)=b
 | [],vs,us,b,h,i,r=>by
  unfold IsAll at i;subst i;cases r;simp [gh] at h;refine ⟨?_,?_⟩
  ·intro u hu
   cases hu
  ·rw [h];rfl
 | ty :: ts,vs,us,b,h,i,r=>by
  unfold IsAll at i;obtain ⟨v,vr,rfl,i1,i2⟩:=i
  cases r with
  | cons r1 r2 =>
  rename_i u us;rw [gh] at h
  cases h1:nI 40 ty t with
  | none=>rw [h1] at h;cases h
  | some a =>
   rw [h1] at h
   cases h2:gh t ts with
   | none=>rw [h2] at h;cases h
   | some c =>
    rw [h2] at h;simp only [Option.some.injEq] at h;obtain ⟨he,hb⟩:=mO I hu it rx h2 i2 r2;have q:=(uB I hu h1 i1 it r1 rx).2;have ea:=Yx I r1 i1 h1;refine ⟨?_,?_⟩
    ·intro z hz
     rcases List.mem_cons.mp hz with h' | h'
     ·subst h';rw [ea];exact q
     ·exact he z h'
    ·rw [List.any_cons,ea,hb,h]
theorem Yy (hu:X.A.units + 41 < cLine)
  (I:zk X pins σ H s) (ix:Is X.K F H tx x) (iy:Is X.K F H ty y) (rx:L2.RelV x v) (ry:L2.RelV y u) (e:WU tx ty=some b) (ho:op=.In\/op=.NotIn) (q:∀ s',zk X pins σ H s'->Q (.bool (if op=.In then b else !b)) s') :
  wpAny (model X.prog X.w) X.A (compareOp op v u) Q E s:=by
 have seqL:∀ {ts:List T},ty=.lst ts->gh tx ts=some b->wpAny (model X.prog X.w) X.A (compareOp op v u) Q E s:=by
  intro ts hy ha;subst hy;unfold Is at iy;obtain ⟨p,vs,rfl,g1,g2⟩:=iy;cases ry;obtain ⟨its,r,pl,hz⟩:=I.list g1.sq;obtain ⟨he,hb⟩:=mO I (by rw [Around.in1_units];omega) ix rx ha g2 r
  rcases ho with rfl | rfl
  ·refine SeqAt.in_listAt _ pl.isList (λw hw=>he w (by simpa using hw)) ?_
   have:its.toArray.any (qP X F H tx)=its.any (qP X F H tx):=by simp
   rw [this,hb];exact q s I
  ·refine SeqAt.notIn_listAt _ pl.isList (λw hw=>he w (by simpa using hw)) ?_
   have:its.toArray.any (qP X F H tx)=its.any (qP X F H tx):=by simp
   rw [this,hb];exact q s I
 have seqT:∀ {ts:List T},ty=.tup ts->gh tx ts=some b->wpAny (model X.prog X.w) X.A (compareOp op v u) Q E s:=by
  intro ts hy ha;subst hy;unfold Is at iy;obtain ⟨p,vs,rfl,g1,g2⟩:=iy;cases ry;obtain ⟨its,r,pl,hz⟩:=I.tuple g1;obtain ⟨he,hb⟩:=mO I (by rw [Around.in1_units];omega) ix rx ha g2 r
  rcases ho with rfl | rfl
  ·refine SeqAt.in_tupleAt _ pl (λw hw=>he w (by simpa using hw)) ?_
   have:its.toArray.any (qP X F H tx)=its.any (qP X F H tx):=by simp
   rw [this,hb];exact q s I
  ·refine SeqAt.notIn_tupleAt _ pl (λw hw=>he w (by simpa using hw)) ?_
   have:its.toArray.any (qP X F H tx)=its.any (qP X F H tx):=by simp
   rw [this,hb];exact q s I
 have dct:∀ {ks:List Key} {ts:List T} {k:Key},ty=.dct ks ts->x=kV k->(qx ks ts k).isSome=b->wpAny (model X.prog X.w) X.A (compareOp op v u) Q E s:=by
  intro ks ts k hy hx hb;subst hy hx;unfold Is at iy;obtain ⟨p,kvs,rfl,f,g1,g2,g3⟩:=iy;cases ry;have ⟨d1,d2⟩:=pL k g2 g3
  have:(xF kvs k).isSome=b:=by
   rw [<- hb]
   cases hd:qx ks ts k with
   | none=>rw [d2 hd];rfl
   | some t=>obtain ⟨v',hv,_⟩:=d1 t hd;rw [hv];rfl
  rcases ho with rfl | rfl
  ·refine UL (by omega) I (.inl ⟨kvs,k,g1,rfl,rfl⟩:gV H p (kV k) (xF kvs k)) rx λs' I' => ?_
   rw [this];exact q s' I'
  ·refine rq (by omega) I (.inl ⟨kvs,k,g1,rfl,rfl⟩:gV H p (kV k) (xF kvs k)) rx λs' I' => ?_
   rw [this];exact q s' I'
 cases ty<;>try (cases tx<;>simp [WU] at e;done)
 case str y' =>
  cases tx<;>simp only [WU,Option.some.injEq,reduceCtorEq] at e
  case str x' =>
   unfold Is at ix iy;subst ix iy;obtain ⟨t,rfl⟩:=rx;obtain ⟨t',rfl⟩:=ry
   rcases ho with rfl | rfl
   ·refine in_str ?_
    have:=q s I;rw [if_pos rfl,<- e] at this;exact this
   ·refine notIn_str ?_
    have:=q s I;rw [if_neg (by decide),<- e] at this;exact this
 case lst ts=>exact seqL rfl (by cases tx<;>simpa [WU] using e)
 case tup ts=>exact seqT rfl (by cases tx<;>simpa [WU] using e)
 case dct ks ts =>
  cases tx<;>simp [WU,pM] at e
  case int i=>unfold Is at ix;exact dct (k:=.inl i) rfl ix e
  case str i=>unfold Is at ix;exact dct (k:=.inr i) rfl ix e
theorem Qo (hu:X.A.units + 41 < cLine):qp X (compareOp .In) (rT X.K pN):=by
 intro pins s σ H x y v u Q I rx ry h;obtain ⟨F,tx,ty,rv,d,ix,iy,e,q⟩:=h;simp only [pN,Option.map_eq_some_iff] at e;obtain ⟨k,e,rfl⟩:=e;exact Yy hu I ix iy rx ry e (.inl rfl) λs' I'=>⟨.bl k,H,I',rfl,jQ d xH q rfl⟩
theorem rK (hu:X.A.units + 41 < cLine):qp X (compareOp .NotIn) (rT X.K qO):=by
 intro pins s σ H x y v u Q I rx ry h;obtain ⟨F,tx,ty,rv,d,ix,iy,e,q⟩:=h;simp only [qO,Option.map_eq_some_iff] at e;obtain ⟨k,e,rfl⟩:=e;exact Yy hu I ix iy rx ry e (.inr rfl) λs' I'=>⟨.bl (!k),H,I',rfl,jQ d xH q rfl⟩
def zo:T->T->Option RV
 | .lst ts,.int i=>(mz ts i).map λt=>(false,t)
 | .tup ts,.int i=>(mz ts i).map λt=>(false,t)
 | .str z,.int i=>if z.length<=sizeLine then (mz z.cps.toList i).map λc=>(false,.str ⟨#[c]⟩) else none
 | .dct ks ts,y=>match pM y with
  | none=>none
  | some k=>(qx ks ts k).map λt=>(false,t)
 | _,_=>none
theorem Pa {prog:Program}{w:World}{A:Around}{E:Value->Shared->Prop}{s:Shared}{value slice:Expr}{o i:Value}{T id:String}{Q:Value->Shared->Prop}
  (hl:typeLookup (.type T) "__getitem__" = pure (some (.builtin id))) (hs:subscripted slice false o i=operate [o,i] (getItem o i)) (hT:s.TypeIs o T) (h:wpAny (model prog w) A (getItem o i) Q E s) :
  wpAny (model prog w) A (subscriptTail value slice o i) Q E s:=by
 unfold subscriptTail;refine wpAny_bind ?_;rw [getitemInPython_of_ne hT.not_modules];refine wpAny_bind (wpAny_specialOf hT hl ?_)
 have fin:wpAny (model prog w) A (subscripted slice false o i) (λr s₃=>wpAny (model prog w) A (letTemporaryGo value o r >>= λ_=>pure r) Q E s₃) E s:=by
  rw [hs];exact wpAny_operating (wpAny_mono h (λr s₃ h₃=>wpAny_bind (wpAny_letTemporaryGo (wpAny_pure h₃))) λ_ _ x=>x)
 first
  | exact wpAny_pure (wpAny_bind fin)
  | exact wpAny_bind (wpAny_pure (wpAny_bind fin))
  | exact wpAny_bind fin
theorem US (hu:X.A.units + 1 < cLine):GS X (rT X.K zo):=by
 intro value slice pins s σ H x y v u Q I rx ry h hs;obtain ⟨F,tx,ty,rv,d,ix,iy,e,q⟩:=h;cases tx<;>simp only [zo,reduceCtorEq] at e
 case lst ts =>
  cases ty<;>simp only [reduceCtorEq] at e
  case int i =>
   simp only [Option.map_eq_some_iff] at e;obtain ⟨t,e,rfl⟩:=e;unfold Is at ix iy;obtain ⟨p,vs,rfl,g1,g2⟩:=ix;obtain ⟨z,hz,iz⟩:=g2.at e;exact WF value slice pins s σ H _ _ v u Q I rx ry ⟨p,vs,i,z,rfl,iy,g1.sq,hz,jQ d iz q rfl⟩ hs
 case tup ts =>
  cases ty<;>simp only [reduceCtorEq] at e
  case int i =>
   simp only [Option.map_eq_some_iff] at e;obtain ⟨t,e,rfl⟩:=e;unfold Is at ix iy;obtain ⟨p,vs,rfl,g1,g2⟩:=ix;obtain ⟨z,hz,iz⟩:=g2.at e;exact Q7 value slice pins s σ H _ _ v u Q I rx ry ⟨p,vs,i,z,rfl,iy,g1,hz,jQ d iz q rfl⟩ hs
 case str z =>
  cases ty<;>simp only [reduceCtorEq] at e
  case int i =>
   split at e
   ·rename_i hl
    simp only [Option.map_eq_some_iff] at e;obtain ⟨t,e,rfl⟩:=e;unfold Is at ix iy;exact Q8 value slice pins s σ H _ _ v u Q I rx ry ⟨z,i,t,ix,iy,hl,e,jQ d vX q rfl⟩ hs
   ·cases e
 case dct ks ts =>
  have key:∀ k,y=kV k->∀ t,qx ks ts k=some t->rv=(false,t)->wpAny (model X.prog X.w) X.A (subscriptTail value slice v u) (EP X pins σ Q) X.xe s:=by
   intro k hy t ht hrv;unfold Is at ix;obtain ⟨p,kvs,rfl,f,g1,g2,g3⟩:=ix;cases rx;subst hy;obtain ⟨w,hw,iw⟩:=(pL k g2 g3).1 t ht;have g:gV H p (kV k) (some w):=by rw [<- hw];exact .inl ⟨kvs,k,g1,rfl,rfl⟩
   exact Pa PySem.F.slot_dict_getitem.lookup hs (n8 I g) (eB hu I g ry λw' s3 I3 rw'=>⟨w,H,I3,rw',jQ d iw q hrv⟩)
  cases ty<;>simp only [pM,reduceCtorEq] at e
  case int i =>
   simp only [Option.map_eq_some_iff] at e;obtain ⟨t,e,rfl⟩:=e;unfold Is at iy;exact key (.inl i) iy t e rfl
  case str i =>
   simp only [Option.map_eq_some_iff] at e;obtain ⟨t,e,rfl⟩:=e;unfold Is at iy;exact key (.inr i) iy t e rfl
def gi (ts:List T)(lo hi:Option Int):List T:=(ts.drop (HT.sIx ts.length 0 lo)).take (HT.sIx ts.length ts.length hi - HT.sIx ts.length 0 lo)
def Yz:T->Option Int->Option Int->Option RV
 | .lst ts,lo,hi=>some (true,.lst (gi ts lo hi))
 | .tup ts,lo,hi=>some (false,.tup (gi ts lo hi))
 | .str z,lo,hi=>if z.length<=sizeLine then some (false,.str (nH z lo hi)) else none
 | _,_,_=>none
theorem rL {K:W.Frag}{F:Addr->Prop}{H:Hp}{ts:List T}{vs:List V}{lo hi:Option Int}(h:IsAll K F H ts vs):IsAll K F H (gi ts lo hi) (b9 vs lo hi):=by
 unfold gi b9;rw [h.len];exact (h.drop _).take _
def NW (K:W.Frag)(f:T->Option Int->Option Int->Option RV):V->Option Int->Option Int->Hp->VK->Prop:=λx lo hi H Q=>∃ F tx rv,iD F H/\Is K F H tx x/\f tx lo hi=some rv/\∀ v F' H',jE F H F' H'->wu K (λa=>H a=none) F' H' v rv->Q v H'
theorem UT:GQ X (NW X.K Yz):=by
 intro pins s σ H x v vl vu lo hi sl Q I rx hs pl pu h;obtain ⟨F,tx,rv,d,ix,e,q⟩:=h;cases tx<;>simp only [Yz,reduceCtorEq] at e
 case lst ts =>
  cases e;unfold Is at ix;obtain ⟨p,vs,rfl,g1,g2⟩:=ix;exact WG pins s σ H _ v vl vu lo hi sl Q I rx hs pl pu ⟨p,vs,rfl,g1.sq,λl hl=>WS d (rL g2) hl q⟩
 case tup ts =>
  cases e;have ix':=ix;unfold Is at ix;obtain ⟨p,vs,rfl,g1,g2⟩:=ix
  by_cases hw:HT.sIx vs.length 0 lo=0/\HT.sIx vs.length vs.length hi=vs.length
  ·cases rx
   obtain ⟨its,r,ht,hz⟩:=I.tuple g1;have hlen:its.toArray.size=vs.length:=by rw [List.size_toArray];exact r.length.symm
   refine ⟨"tuple",_,PyProof.Rows.slot_tuple_getitem.lookup,ht.typeIs,HT.getItem_tuple_whole ht hs pl pu (by rw [hlen];exact hw) ⟨.ref p,H,I,rfl,jQ d ix' q ?_⟩⟩
   have:gi ts lo hi=ts:=by
    unfold gi;rw [g2.len,hw.1,hw.2,List.drop_zero];exact List.take_of_length_le (by rw [g2.len];omega)
   rw [this]
  ·exact Q6 pins s σ H _ v vl vu lo hi sl Q I rx hs pl pu ⟨p,vs,rfl,g1,hw,λl hl=>WT d (rL g2) hl q⟩
 case str z =>
  split at e<;>cases e
  rename_i hl;unfold Is at ix;exact Qh pins s σ H _ v vl vu lo hi sl Q I rx hs pl pu ⟨z,ix,hl,jQ d vX q rfl⟩
end
def YA:T->Option Bool
 | .non=>some false
 | .bl b=>some b
 | .int i=>some (i != 0)
 | .str y=>if y.length<=sizeLine then some ((y.length:Int) != 0) else none
 | .lst ts=>some (!ts.isEmpty)
 | .tup ts=>some (!ts.isEmpty)
 | _=>none
def WV {K:W.Frag}{F:Addr->Prop}{H:Hp}{t:T}{x:V}{b:Bool}(h:YA t=some b)(i:Is K F H t x):Q0 K x H b:=by
 cases t<;>simp only [YA,Option.some.injEq,reduceCtorEq] at h<;>unfold Is at i
 case non=>subst i h;rfl
 case bl=>subst i h;rfl
 case int=>subst i h;rfl
 case str y =>
  split at h
  ·rename_i hl
   subst i;exact ⟨hl,(Option.some.inj h).symm⟩
  ·cases h
 case lst ts =>
  obtain ⟨a,vs,rfl,g1,g2⟩:=i;refine .inl ⟨vs,g1.sq,?_⟩;have:=g2.len;rw [<- h];cases ts<;>cases vs<;>simp at this ⊢
 case tup ts =>
  obtain ⟨a,vs,rfl,g1,g2⟩:=i;refine .inr (.inl ⟨vs,g1,?_⟩);have:=g2.len;rw [<- h];cases ts<;>cases vs<;>simp at this ⊢
section
variable {X:Cx}{a b c e:Expr}{pos:Pos}{ma mb mc:ME}{ta tb tc:TE}{rest:List Expr}
def ka (m:ME):MT:=λenv=>(m env).bind λx=>ZK (YA x.2)
theorem jp (ha:ju X a ma)(he:∀ whole,isTrue a X.env whole=(do let v <- whole;standAt a.pos;holding [v] (truthy v))):tN X a (ka ma):=by
 obtain ⟨ta,pa,sa⟩:=ha;refine ⟨_,JY pa he,?_⟩;intro F H σ env Q R nb ok ex;unfold ka at nb ok ex;refine sa.val R (λz=>by rw [z] at nb;exact nb rfl) (λr1 e1 v1 F1 H1 x1 i1 => ?_) λx z=>ex x (by rw [z];rfl);rw [e1,bind_ok] at nb ok
 cases h:YA r1.2 with
 | none=>rw [h] at nb;exact absurd rfl nb
 | some k =>
  rw [h] at ok;exact ⟨k,WV h i1,ok k rfl F1 H1 x1⟩
def jR (m:MT):MT:=λenv=>(m env).bind λx=>.ok (!x)
def xU (m n:MT):MT:=λenv=>(m env).bind λx=>if x=true then n env else .ok false
def kb (m n:MT):MT:=λenv=>(m env).bind λx=>if x=true then .ok true else n env
theorem YB (h:vh X t m):vh X (Gx t) (jR m):=by
 intro F H σ env Q R nb ok ex;unfold jR at nb ok ex;refine h F H σ env _ R (λz=>by rw [z] at nb;exact nb rfl) (λk e F' H' x => ?_) λx z=>ex x (by rw [z];rfl);rw [e,bind_ok] at ok;exact ok _ rfl F' H' x
theorem YC (h:vh X t m)(g:vh X u n):vh X (Gw t u) (xU m n):=by
 intro F H σ env Q R nb ok ex;unfold xU at nb ok ex;refine h F H σ env _ R (λz=>by rw [z] at nb;exact nb rfl) (λk e F1 H1 x1 => ?_) λx z=>ex x (by rw [z];rfl);rw [e,bind_ok] at nb ok ex
 cases k with
 | true =>
  rw [if_pos rfl] at nb ok ex ⊢;exact g F1 H1 σ env Q (R.mono x1) nb (λk e F' H' x=>ok k e F' H' (x1.trans x)) λx z=>(ex x z).mono x1
 | false =>
  rw [if_neg Bool.false_ne_true] at ok ⊢;exact ok _ rfl F1 H1 x1
theorem WW (h:vh X t m)(g:vh X u n):vh X (Nt t u) (kb m n):=by
 intro F H σ env Q R nb ok ex;unfold kb at nb ok ex;refine h F H σ env _ R (λz=>by rw [z] at nb;exact nb rfl) (λk e F1 H1 x1 => ?_) λx z=>ex x (by rw [z];rfl);rw [e,bind_ok] at nb ok ex
 cases k with
 | false =>
  rw [if_neg Bool.false_ne_true] at nb ok ex ⊢;exact g F1 H1 σ env Q (R.mono x1) nb (λk e F' H' x=>ok k e F' H' (x1.trans x)) λx z=>(ex x z).mono x1
 | true =>
  rw [if_pos rfl] at ok ⊢;exact ok _ rfl F1 H1 x1
def K6 (X:Cx)(e:Expr)(m:MT):Prop := ∃ t,PW X e t/\vh X t m
theorem K6.pt (h:K6 X e m):tN X e m:=let ⟨t,p,s⟩:=h;⟨t,p.pt,s⟩
theorem rM (h:tN X a m):K6 X (.BoolOp .And [a] pos) m:=let ⟨t,p,s⟩:=h;⟨t,Wp p,s⟩
theorem fH (h:tN X a m):K6 X (.BoolOp .Or [a] pos) m:=let ⟨t,p,s⟩:=h;⟨t,Kz p,s⟩
theorem tR (h:tN X a m)(g:K6 X (.BoolOp .And (b :: rest) pos) n):K6 X (.BoolOp .And (a :: b :: rest) pos) (xU m n):=by
 obtain ⟨t,p,s⟩:=h;obtain ⟨u,p',s'⟩:=g;exact ⟨_,KA p p',YC s s'⟩
theorem mP (h:tN X a m)(g:K6 X (.BoolOp .Or (b :: rest) pos) n):K6 X (.BoolOp .Or (a :: b :: rest) pos) (kb m n):=by
 obtain ⟨t,p,s⟩:=h;obtain ⟨u,p',s'⟩:=g;exact ⟨_,Gy p p',WW s s'⟩
theorem qy (h:tN X a m):tN X (.UnaryOp .Not a pos) (jR m):=let ⟨t,p,s⟩:=h;⟨_,KB p,YB s⟩
def jk (ma mb:ME):ME:=λenv=>(ma env).bind λx=>match x.2 with
 | .bl k=>if k=true then mb env else .ok (false,.bl false)
 | _=>.bad
def iG (ma mb:ME):ME:=λenv=>(ma env).bind λx=>match x.2 with
 | .bl k=>if k=true then .ok (false,.bl true) else mb env
 | _=>.bad
def qQ (ma:ME):ME:=λenv=>(ma env).bind λx=>match x.2 with
 | .bl k=>.ok (false,.bl (!k))
 | _=>.bad
theorem qb {K:W.Frag}{F F1 F':Addr->Prop}{H H1 H':Hp}{v:V}{r:RV}(x:jE F H F1 H1)(i:wu K (λa=>H1 a=none) F' H' v r):wu K (λa=>H a=none) F' H' v r:=by
 unfold wu at i ⊢
 split
 ·rename_i ho
  rw [if_pos ho] at i;obtain ⟨a,e,nf,fr,o⟩:=i;exact ⟨a,e,nf,j6 x.same fr,o⟩
 ·rename_i ho
  rw [if_neg ho] at i;exact i
theorem xx.next (h:xx X t m)(R:v5 X.K F H σ env)(x1:jE F H F1 H1)(nb:m env≠.bad)
  (ok:∀ r,m env=.ok r->∀ v F' H',jE F H F' H'->wu X.K (λa=>H a=none) F' H' v r->Q v H') (ex:∀ x,m env=.exc x->ZL X F H σ x):t σ H1 Q :=
 h F1 H1 σ env Q (R.mono x1) nb (λr e v F' H' x i=>ok r e v F' H' (x1.trans x) (qb x1 i)) λx z=>(ex x z).mono x1
theorem vA {op}(h:ju X a m):ju X (.BoolOp op [a] pos) m:=let ⟨t,p,s⟩:=h;⟨t,KC p,s⟩
theorem qc (ha:ju X a ma)(hb:ju X (.BoolOp .And (b :: rest) pos) mb):ju X (.BoolOp .And (a :: b :: rest) pos) (jk ma mb):=by
 obtain ⟨ta,pa,sa⟩:=ha;obtain ⟨tb,pb,sb⟩:=hb;refine ⟨_,KD pa pb,?_⟩;intro F H σ env Q R nb ok ex;unfold jk at nb ok ex;refine sa.val R (λz=>by rw [z] at nb;exact nb rfl) (λr1 e1 v1 F1 H1 x1 i1 => ?_) λx z=>ex x (by rw [z];rfl);rw [e1,bind_ok] at nb ok ex;obtain ⟨o,t⟩:=r1
 cases t with
 | bl k =>
  unfold Is at i1;refine ⟨k,i1,?_⟩
  cases k with
  | true=>rw [if_pos rfl];exact sb.next R x1 nb ok ex
  | false=>rw [if_neg Bool.false_ne_true];exact ok _ rfl _ F1 H1 x1 (jo xH)
 | _=>exact absurd rfl nb
theorem Qp (ha:ju X a ma)(hb:ju X (.BoolOp .Or (b :: rest) pos) mb):ju X (.BoolOp .Or (a :: b :: rest) pos) (iG ma mb):=by
 obtain ⟨ta,pa,sa⟩:=ha;obtain ⟨tb,pb,sb⟩:=hb;refine ⟨_,GB pa pb,?_⟩;intro F H σ env Q R nb ok ex;unfold iG at nb ok ex;refine sa.val R (λz=>by rw [z] at nb;exact nb rfl) (λr1 e1 v1 F1 H1 x1 i1 => ?_) λx z=>ex x (by rw [z];rfl);rw [e1,bind_ok] at nb ok ex;obtain ⟨o,t⟩:=r1
 cases t with
 | bl k =>
  unfold Is at i1;refine ⟨k,i1,?_⟩
  cases k with
  | false=>rw [if_neg Bool.false_ne_true];exact sb.next R x1 nb ok ex
  | true=>rw [if_pos rfl];exact ok _ rfl _ F1 H1 x1 (jo xH)
 | _=>exact absurd rfl nb
theorem bv (ha:ju X a ma):ju X (.UnaryOp .Not a pos) (qQ ma):=by
 obtain ⟨ta,pa,sa⟩:=ha;refine ⟨_,KF pa,?_⟩;intro F H σ env Q R nb ok ex;unfold qQ at nb ok ex;refine sa.val R (λz=>by rw [z] at nb;exact nb rfl) (λr1 e1 v1 F1 H1 x1 i1 => ?_) λx z=>ex x (by rw [z];rfl);rw [e1,bind_ok] at nb ok ex;obtain ⟨o,t⟩:=r1
 cases t with
 | bl k =>
  unfold Is at i1;exact ⟨k,i1,ok _ rfl _ F1 H1 x1 (jo xH)⟩
 | _=>exact absurd rfl nb
def mQ (ma:ME):ME:=λenv=>(ma env).bind λx=>match x.2 with
 | .int i=>.ok (false,.int (-i))
 | _=>.bad
theorem YD (ha:ju X a ma):ju X (.UnaryOp .USub a pos) (mQ ma):=by
 obtain ⟨ta,pa,sa⟩:=ha;refine ⟨_,GJ KY pa,?_⟩;intro F H σ env Q R nb ok ex;unfold mQ at nb ok ex;refine sa.val R (λz=>by rw [z] at nb;exact nb rfl) (λr1 e1 v1 F1 H1 x1 i1 => ?_) λx z=>ex x (by rw [z];rfl);rw [e1,bind_ok] at nb ok ex;obtain ⟨o,t⟩:=r1
 cases t with
 | int k =>
  unfold Is at i1;exact ⟨k,i1,ok _ rfl _ F1 H1 x1 (jo xg)⟩
 | _=>exact absurd rfl nb
def fI (m:MT)(ma mb:ME):ME:=λenv=>(m env).bind λk=>if k=true then ma env else mb env
theorem pO (hc:tN X c m)(ha:ju X a ma)(hb:ju X b mb):ju X (.IfExp c a b pos) (fI m ma mb):=by
 obtain ⟨t,p,s⟩:=hc;obtain ⟨ta,pa,sa⟩:=ha;obtain ⟨tb,pb,sb⟩:=hb;refine ⟨_,cY p pa pb,?_⟩;intro F H σ env Q R nb ok ex;unfold fI at nb ok ex;refine s F H σ env _ R (λz=>by rw [z] at nb;exact nb rfl) (λk e F1 H1 x1 => ?_) λx z=>ex x (by rw [z];rfl);rw [e,bind_ok] at nb ok ex
 cases k with
 | true=>rw [if_pos rfl] at nb ok ex ⊢;exact sa.next R x1 nb ok ex
 | false=>rw [if_neg Bool.false_ne_true] at nb ok ex ⊢;exact sb.next R x1 nb ok ex
theorem zM (hu:X.A.units + 1 < cLine)(ha:ju X a ma)(hb:ju X b mb)(hs:rm b):ju X (.Subscript a b pos) (m2 zo ma mb):=by
 obtain ⟨ta,pa,sa⟩:=ha;obtain ⟨tb,pb,sb⟩:=hb;exact ⟨_,GT (US hu) pa pb hs,dF z8 sa sb⟩
abbrev MO:=En->kg (Option Int)
def UU (X:Cx)(t:TO)(m:MO):Prop :=
 ∀ (F:Addr->Prop) (H:Hp) (σ:St) (env:En) (Q:Option Int->Hp->Prop),v5 X.K F H σ env->m env≠.bad ->
  (∀ b,m env=.ok b->∀ F' H',jE F H F' H'->Q b H')->(∀ x,m env=.exc x->ZL X F H σ x)->t σ H Q
def U9 (X:Cx)(e:Option Expr)(m:MO):Prop := ∃ t,PO X e t/\UU X t m
def xh:MO:=λ_=>.ok none
def zC (m:ME):MO:=λenv=>(m env).bind λx=>match x.2 with
 | .int i=>.ok (some i)
 | _=>.bad
theorem qz:U9 X none xh:=⟨_,WB,λF H σ env Q R nb ok ex=>ok none rfl F H (.refl R.dom)⟩
theorem jg (ha:ju X a ma):U9 X (some a) (zC ma):=by
 obtain ⟨ta,pa,sa⟩:=ha;refine ⟨_,WC pa,?_⟩;intro F H σ env Q R nb ok ex;unfold zC at nb ok ex;refine sa.val R (λz=>by rw [z] at nb;exact nb rfl) (λr1 e1 v1 F1 H1 x1 i1 => ?_) λx z=>ex x (by rw [z];rfl);rw [e1,bind_ok] at nb ok ex;obtain ⟨o,t⟩:=r1
 cases t with
 | int k=>unfold Is at i1;exact ⟨k,i1,ok _ rfl F1 H1 x1⟩
 | _=>exact absurd rfl nb
def qR (ma:ME)(ml mh:MO):ME:=λenv=>(ma env).bind λx=>(ml env).bind λl=>(mh env).bind λh=>ZK (Yz x.2 l h)
theorem xz {lo hi:Option Expr}{ml mh:MO}{p2:Pos}(ha:ju X a ma)(hl:U9 X lo ml)(hh:U9 X hi mh):ju X (.Subscript a (.Slice lo hi none p2) pos) (qR ma ml mh):=by
 obtain ⟨ta,pa,sa⟩:=ha;obtain ⟨tl,pl,sl⟩:=hl;obtain ⟨th,ph,sh⟩:=hh;refine ⟨_,Y4 UT pa pl ph,?_⟩;intro F H σ env Q R nb ok ex;unfold qR at nb ok ex;refine sa.val R (λz=>by rw [z] at nb;exact nb rfl) (λr1 e1 v1 F1 H1 x1 i1 => ?_) λx z=>ex x (by rw [z];rfl);rw [e1,bind_ok] at nb ok ex;refine sl F1 H1 σ env _ (R.mono x1) (λz=>by rw [z] at nb;exact nb rfl) (λl e2 F2 H2 x2 => ?_) λx z=>(ex x (by rw [z];rfl)).mono x1;rw [e2,bind_ok] at nb ok ex;refine sh F2 H2 σ env _ ((R.mono x1).mono x2) (λz=>by rw [z] at nb;exact nb rfl) (λh e3 F3 H3 x3 => ?_) λx z=>(ex x (by rw [z];rfl)).mono (x1.trans x2);rw [e3,bind_ok] at nb ok ex
 cases h:Yz r1.2 l h with
 | none=>rw [h] at nb;exact absurd rfl nb
 | some rv =>
  rw [h] at ok;have x13:=(x1.trans x2).trans x3;exact ⟨F3,r1.2,rv,x3.dom,i1.mono (x2.trans x3).kept,h,λv F' H' x i=>ok rv rfl v F' H' (x13.trans x) (qb x13 i)⟩
end
def xl (K:W.Frag)(fr F:Addr->Prop)(H:Hp):List V->List RV->Prop
 | [],[]=>True
 | v :: vs,r :: rs=>wu K fr F H v r/\xl K fr F H vs rs/\(r.1=true->∀ (i:Nat) (r':RV),rs[i]? = some r'->r'.1=true->vs[i]?≠some v)
 | _,_=>False
def wu.there {K:W.Frag}{fr F:Addr->Prop}{H:Hp}{v:V}{r:RV}(h:wu K fr F H v r)(o:r.1=true):∃ a,v=.ref a/\¬ F a/\fr a/\H a≠none/\xG K F H a r.2:=by
 unfold wu at h;rw [if_pos o] at h;obtain ⟨a,e,nf,f,w⟩:=h;exact ⟨a,e,nf,f,w.there,w⟩
def wu.mono {K:W.Frag}{fr F F1:Addr->Prop}{H H1:Hp}{v:V}{r:RV}(x:jE F H F1 H1)(h:wu K fr F H v r):wu K fr F1 H1 v r:=by
 unfold wu at h ⊢
 split
 ·rename_i o
  rw [if_pos o] at h;obtain ⟨a,e,nf,f,w⟩:=h;refine ⟨a,e,λz => ?_,f,w.mono x.kept λo q=>x.same a o q⟩
  rcases x.new a z with z | z
  ·exact nf z
  ·exact w.there z
 ·rename_i o
  rw [if_neg o] at h;exact h.mono x.kept
def xl.frz {K:W.Frag}{F F1:Addr->Prop}{H H1:Hp} : ∀ {vs:List V} {rs:List RV},jE F H F1 H1->xl K (λa=>H a=none) F1 H1 vs rs->∃ F2,jE F H F2 H1/\(∀ a,F1 a->F2 a)/\IsAll K F2 H1 (rs.map (·.2)) vs
 | [],[],x,_=>⟨F1,x,λ_ h=>h,IsAll.nil⟩
 | [],_ :: _,_,h=>h.elim
 | _ :: _,[],_,h=>h.elim
 | v :: vs,r :: rs,x,h=>by
  obtain ⟨h1,h2,_⟩:=h;obtain ⟨F2,x2,s2,i2⟩:=xl.frz x h2
  by_cases o:r.1=true
  ·obtain ⟨a,rfl,nf,fr,th,w⟩:=h1.there o
   refine ⟨λb=>F2 b\/b=a,x2.freeze fr th,λb q=>.inl (s2 b q),IsAll.cons ?_ (i2.mono ⟨λb q=>.inl q,λ_ _ _ q=>q,λ_ _ q _ _=>q⟩)⟩;exact w.is (λb q=>.inl (s2 b q)) (.inr rfl)
  ·obtain ⟨o',t⟩:=r
   cases o' with
   | true=>exact absurd rfl o
   | false=>exact ⟨F2,x2,s2,IsAll.cons (h1.is.mono ⟨s2,λ_ _ _ q=>q,λ_ _ q _ _=>q⟩) i2⟩
def tS (X:Cx)(t:TA)(m:MA):Prop :=
 ∀ (F:Addr->Prop) (H:Hp) (σ:St) (env:En) (Q:List V->Hp->Prop),v5 X.K F H σ env->m env≠.bad ->
  (∀ rs,m env=.ok rs->∀ vs F' H',jE F H F' H'->xl X.K (λa=>H a=none) F' H' vs rs->Q vs H')->(∀ x,m env=.exc x->ZL X F H σ x)->t σ H Q
def YE (X:Cx)(es:List Expr)(m:MA):Prop := ∃ t,PA X es t/\tS X t m
def z5:MA:=λ_=>.ok []
def z3 (me:ME)(ma:MA):MA:=λenv=>(me env).bind λx=>(ma env).bind λxs=>.ok (x :: xs)
def z9:YE X [] z5:=⟨_,qu,λF H σ env Q R nb ok ex=>ok [] rfl [] F H (.refl R.dom) trivial⟩
def z4 (he:ju X e me)(ha:YE X es ma)(hs:starEach (e :: es) X.env=(false,eval e X.env) :: starEach es X.env:=by rfl):YE X (e :: es) (z3 me ma):=by
 obtain ⟨te,pe,se⟩:=he;obtain ⟨ta,pa,sa⟩:=ha;refine ⟨_,vb pe pa hs,?_⟩;intro F H σ env Q R nb ok ex;unfold z3 at nb ok ex;refine se F H σ env _ R (λz=>by rw [z] at nb;exact nb rfl) (λr1 e1 v1 F1 H1 x1 i1 => ?_) λx z=>ex x (by rw [z];rfl);rw [e1,bind_ok] at nb ok ex;refine sa F1 H1 σ env _ (R.mono x1) (λz=>by rw [z] at nb;exact nb rfl) (λrs e2 vs F2 H2 x2 i2 => ?_) λx z=>(ex x (by rw [z];rfl)).mono x1;rw [e2,bind_ok] at ok
 have back:∀ {vs:List V} {rs:List RV},xl X.K (λa=>H1 a=none) F2 H2 vs rs->xl X.K (λa=>H a=none) F2 H2 vs rs/\∀ (i:Nat) (r':RV) (a:Addr),rs[i]? = some r'->r'.1=true->vs[i]? = some (.ref a)->H1 a=none:=by
  intro vs
  induction vs with
  | nil =>
   intro rs h
   cases rs with
   | nil=>exact ⟨trivial,λi r' a h=>by simp at h⟩
   | cons _ _=>exact h.elim
  | cons v vs ih =>
   intro rs h
   cases rs with
   | nil=>exact h.elim
   | cons r rs =>
    obtain ⟨h1,h2,h3⟩:=h;obtain ⟨g1,g2⟩:=ih h2;refine ⟨⟨qb x1 h1,g1,h3⟩,λi r' a hr ho hv => ?_⟩
    cases i with
    | zero =>
     simp at hr hv;subst hr hv;obtain ⟨b,e,_,f,_⟩:=h1.there ho;cases e;exact f
    | succ i=>exact g2 i r' a (by simpa using hr) ho (by simpa using hv)
 obtain ⟨b1,b2⟩:=back i2;refine ok _ rfl (v1 :: vs) F2 H2 (x1.trans x2) ⟨i1.mono x2,b1,λho i r' hr ho' hv => ?_⟩;obtain ⟨a,rfl,_,_,th,_⟩:=i1.there ho;exact th (b2 i r' a hr ho' hv)
def zP (ma:MA):ME:=λenv=>(ma env).bind λrs=>if rs.length<=sizeLine then .ok (false,.tup (rs.map (·.2))) else .bad
def jS (ma:MA):ME:=λenv=>(ma env).bind λrs=>if rs.length<=sizeLine then .ok (true,.lst (rs.map (·.2))) else .bad
def xl.len {K:W.Frag}{fr F:Addr->Prop}{H:Hp} : ∀ {vs:List V} {rs:List RV},xl K fr F H vs rs->vs.length=rs.length
 | [],[],_=>rfl
 | [],_ :: _,h=>h.elim
 | _ :: _,[],h=>h.elim
 | _ :: vs,_ :: rs,h=>by rw [List.length_cons,List.length_cons,xl.len h.2.1]
def jC {x1}(h:YE X es ma):ju X (.Tuple es x1 pos) (zP ma):=by
 obtain ⟨ta,pa,sa⟩:=h;refine ⟨_,Q4 pa,?_⟩;intro F H σ env Q R nb ok ex;unfold zP at nb ok ex;refine sa F H σ env _ R (λz=>by rw [z] at nb;exact nb rfl) (λrs e1 vs F1 H1 x1 i1 => ?_) λx z=>ex x (by rw [z];rfl);rw [e1,bind_ok] at nb ok ex;obtain ⟨F2,x2,s2,i2⟩:=i1.frz x1
 by_cases hl:rs.length<=sizeLine
 ·rw [if_pos hl] at ok
  refine ⟨by rw [i1.len];exact hl,λp hp => ?_⟩;exact WT x2.dom i2 hp λv F' H' x i=>ok _ rfl v F' H' (x2.trans x) (qb x2 i)
 ·rw [if_neg hl] at nb
  exact absurd rfl nb
def xI (h:YE X es ma):ju X (.List es pos) (jS ma):=by
 obtain ⟨ta,pa,sa⟩:=h;refine ⟨_,Q5 pa,?_⟩;intro F H σ env Q R nb ok ex;unfold jS at nb ok ex;refine sa F H σ env _ R (λz=>by rw [z] at nb;exact nb rfl) (λrs e1 vs F1 H1 x1 i1 => ?_) λx z=>ex x (by rw [z];rfl);rw [e1,bind_ok] at nb ok ex;obtain ⟨F2,x2,s2,i2⟩:=i1.frz x1
 by_cases hl:rs.length<=sizeLine
 ·rw [if_pos hl] at ok
  refine ⟨by rw [i1.len];exact hl,λp hp => ?_⟩;exact WS x2.dom i2 hp λv F' H' x i=>ok _ rfl v F' H' (x2.trans x) (qb x2 i)
 ·rw [if_neg hl] at nb
  exact absurd rfl nb
def zE (f:List T->Option RV)(ma:MA):ME:=λenv=>(ma env).bind λrs=>ZK (f (rs.map (·.2)))
def YF {f:List T->Option RV}{t:TA}(sa:tS X t ma):xx X (UB (WR X.K f) t) (zE f ma):=by
 intro F H σ env Q R nb ok ex;unfold zE at nb ok ex;refine sa F H σ env _ R (λz=>by rw [z] at nb;exact nb rfl) (λrs e1 vs F1 H1 x1 i1 => ?_) λx z=>ex x (by rw [z];rfl);rw [e1,bind_ok] at nb ok ex;obtain ⟨F2,x2,s2,i2⟩:=i1.frz x1
 cases h:f (rs.map (·.2)) with
 | none=>rw [h] at nb;exact absurd rfl nb
 | some rv =>
  rw [h] at ok;exact ⟨F2,_,rv,x2.dom,i2,h,λv F' H' x i=>ok rv rfl v F' H' (x2.trans x) (qb x2 i)⟩
def je {id:String}{f:List T->Option RV}(hc:ke X (.builtin id) (WR X.K f))(hg:Gl X x)(hm:X.mg x=none)(hv:bootBuiltins x=some (.builtin id))(ha:YE X (e :: es) ma)(hn:x ≠ "__name__" := by decide)(hdb:(x == ("__debug__" : Str))=false:=by decide)
  (he:starEach (e :: es) X.env=(false,eval e X.env) :: starEach es X.env:=by rfl) (hpl:(backTo pos (starEach es X.env)).any (·.1)=false:=by rfl):ju X (.Call (.Name x p) (e :: es) [] pos) (zE f ma):=by
 obtain ⟨ta,pa,sa⟩:=ha;exact ⟨_,Y2 hc hg hm hv pa hn hdb he hpl,YF sa⟩
def qd {id:String}{f:List T->Option RV}(hc:ke X (.type id) (WR X.K f))(hg:Gl X x)(hm:X.mg x=none)(hv:bootBuiltins x=some (.type id))(ha:YE X (e :: es) ma)(hn:x ≠ "__name__" := by decide)(hdb:(x == ("__debug__" : Str))=false:=by decide)
  (he:starEach (e :: es) X.env=(false,eval e X.env) :: starEach es X.env:=by rfl) (hpl:(backTo pos (starEach es X.env)).any (·.1)=false:=by rfl):ju X (.Call (.Name x p) (e :: es) [] pos) (zE f ma):=by
 obtain ⟨ta,pa,sa⟩:=ha;exact ⟨_,ZC hc hg hm hv pa hn hdb he hpl,YF sa⟩
structure Bs where
 M:Addr->Prop
 H:Hp
 F:Addr->Prop
structure fe (B:Bs) (F:Addr->Prop) (H:Hp):Prop where
 dom:iD F H
 sub:∀ a,B.F a->F a
 new:∀ a,F a->B.F a\/B.H a=none\/B.M a
 keep:∀ a o,B.H a=some o->¬ B.M a->H a=some o
 f0:∀ a,B.F a->¬ B.M a
structure zQ (K:W.Frag) (B:Bs) (F:Addr->Prop) (H:Hp) (σ:St) (env:En):Prop where
 fr:fe B F H
 len:env.length=σ.length
 vals:∀ (i:Nat) (t:T),env[i]? = some (some (false,t))->∃ v,σ[i]? = some (some v)/\Is K F H t v
 owns:∀ (i:Nat) (t:T),env[i]? = some (some (true,t))->∃ a,σ[i]? = some (some (.ref a))/\¬ F a/\(B.H a=none\/B.M a)/\xG K F H a t
 sep:∀ (i j:Nat) (t t':T) (a:Addr),env[i]? = some (some (true,t))->env[j]? = some (some (true,t'))->σ[i]? = some (some (.ref a))->σ[j]? = some (some (.ref a))->i=j
structure bw (K:W.Frag) (B:Bs) (F:Addr->Prop) (H:Hp) (v:V) (r:RV):Prop where
 fr:fe B F H
 val:wu K (λa=>B.H a=none\/B.M a) F H v r
def qS:Option RV->Option RV
 | some (true,_)=>none
 | o=>o
def zZ (env:En):En:=env.map qS
def frz1:Option RV->Option RV
 | some (_,t)=>some (false,t)
 | none=>none
def YG (env:En):En:=env.map frz1
def dH:Option RV->Bool
 | some (true,.lst _)=>true
 | _=>false
def dI:Option RV->Bool
 | some (true,.dct _ _)=>true
 | _=>false
def dJ:Option RV->Bool
 | some (true,.obj _ _ _)=>true
 | _=>false
def YH:RV->Bool
 | (true,.lst ts)=>noLs ts
 | (true,.dct _ ts)=>noLs ts
 | (true,.obj _ _ ts)=>noLs ts
 | (_,t)=>K3 t
def YI:RV->Bool
 | (true,.lst ts)=>noDs ts
 | (true,.dct _ ts)=>noDs ts
 | (true,.obj _ _ ts)=>noDs ts
 | (_,t)=>K4 t
def YJ:RV->Bool
 | (true,.lst ts)=>noOs ts
 | (true,.dct _ ts)=>noOs ts
 | (true,.obj _ _ ts)=>noOs ts
 | (_,t)=>K5 t
def clean (env:En)(r:RV):Bool:=(!env.any dH || YH r) && (!env.any dI || YI r) && (!env.any dJ || YJ r)
def fJ (hc:clean env r=true):(env.any dH=true->YH r=true)/\(env.any dI=true->YI r=true)/\(env.any dJ=true->YJ r=true):=by
 unfold clean at hc;simp only [Bool.and_eq_true,Bool.or_eq_true,Bool.not_eq_true'] at hc;exact ⟨λz=>by rcases hc.1.1 with q | q;(rw [z] at q;cases q);exact q,λz=>by rcases hc.1.2 with q | q;(rw [z] at q;cases q);exact q,λz=>by rcases hc.2 with q | q;(rw [z] at q;cases q);exact q⟩
def settle (env:En)(r:RV):En:=if clean env r=true then env else YG env
def xm (m:ME)(env:En):kg (RV×En):=match m (zZ env) with
 | .ok r=>.ok (r,env)
 | .exc x=>.exc x
 | .bad=>match m env with
  | .ok r=>.ok (r,settle env r)
  | .exc x=>if clean env (false,x.at_)=true then .exc x else .bad
  | .bad=>.bad
section
variable {K:W.Frag}{B:Bs}{F F':Addr->Prop}{H H':Hp}{σ:St}{env:En}{v:V}{r:RV}
theorem qr {f:Option RV->Option RV}{i:Nat}{o:Option RV}(h:(env.map f)[i]? = some o):∃ o',env[i]? = some o'/\f o'=o:=by
 rw [List.getElem?_map] at h
 cases e:env[i]? with
 | none=>rw [e] at h;cases h
 | some o'=>rw [e] at h;exact ⟨o',rfl,Option.some.inj h⟩
theorem bx {i:Nat}{r:RV}(h:(zZ env)[i]? = some (some r)):∃ t,r=(false,t)/\env[i]? = some (some (false,t)):=by
 obtain ⟨o,e,q⟩:=qr h
 cases o with
 | none=>cases q
 | some r' =>
  obtain ⟨b,t⟩:=r'
  cases b with
  | true=>cases q
  | false=>cases q;exact ⟨t,rfl,e⟩
theorem zH (f:fe B F H)(h:H a=none):B.H a=none\/B.M a:=by
 cases e:B.H a with
 | none=>exact .inl rfl
 | some o =>
  by_cases hm:B.M a
  ·exact .inr hm
  ·rw [f.keep a o e hm] at h;cases h
theorem fe.ext (f:fe B F H)(x:jE F H F' H'):fe B F' H':=by
 refine ⟨x.dom,λa h=>x.sub a (f.sub a h),λa h => ?_,λa o h hm=>x.same a o (f.keep a o h hm),f.f0⟩
 rcases x.new a h with h | h
 ·exact f.new a h
 ·exact .inr (zH f h)
theorem zQ.hid (R:zQ K B F H σ env):v5 K F H σ (zZ env) :=
 ⟨R.fr.dom,λi r h=>by
  obtain ⟨t,rfl,e⟩:=bx h;exact R.vals i t e⟩
def rN (σ:St)(env:En)(a:Addr):Prop := ∃ (i:Nat) (t:T),env[i]? = some (some (true,t))/\σ[i]? = some (some (V.ref a))
theorem zQ.own_not (R:zQ K B F H σ env)(h:rN σ env a):¬ F a/\H a≠none/\(B.H a=none\/B.M a):=by
 obtain ⟨i,t,e,s⟩:=h;obtain ⟨b,s',nf,fr,o⟩:=R.owns i t e;rw [s] at s';cases s';exact ⟨nf,o.there,fr⟩
theorem zQ.opn (R:zQ K B F H σ env):v5 K (λa=>F a\/rN σ env a) H σ env :=
 ⟨λa h=>by
  rcases h with h | h
  ·exact R.fr.dom a h
  ·exact (R.own_not h).2.1,λi r h=>by
  obtain ⟨b,t⟩:=r
  cases b with
  | false =>
   obtain ⟨v,s,q⟩:=R.vals i t h;exact ⟨v,s,q.mono ⟨λa h=>.inl h,λ_ _ _ h=>h,λ_ _ h _ _=>h⟩⟩
  | true =>
   obtain ⟨a,s,nf,fr,o⟩:=R.owns i t h;exact ⟨.ref a,s,o.is (λb h=>.inl h) (.inr ⟨i,t,h,s⟩)⟩⟩
theorem zQ.ext (R:zQ K B F H σ env)(x:jE F H F' H'):zQ K B F' H' σ env :=
 ⟨R.fr.ext x,R.len,λi t h=>let ⟨v,s,q⟩:=R.vals i t h;⟨v,s,q.mono x.kept⟩,λi t h=>by
  obtain ⟨a,s,nf,fr,o⟩:=R.owns i t h;refine ⟨a,s,λz => ?_,fr,o.mono x.kept λo q=>x.same a o q⟩
  rcases x.new a z with z | z
  ·exact nf z
  ·exact o.there z,R.sep⟩
theorem zQ.closed (R:zQ K B F H σ env)(x:jE (λa=>F a\/rN σ env a) H F' H'):zQ K B (λa=>F' a/\¬ rN σ env a) H' σ env/\jE F H (λa=>F' a/\¬ rN σ env a) H':=by
 have e:jE F H (λa=>F' a/\¬ rN σ env a) H':=⟨x.same,λa h=>⟨x.sub a (.inl h),λz=>(R.own_not z).1 h⟩,λa h=>by
  rcases x.new a h.1 with (z | z) | z
  ·exact .inl z
  ·exact absurd z h.2
  ·exact .inr z,λa h=>x.dom a h.1⟩
 exact ⟨R.ext e,e⟩
theorem zQ.cleans (R:zQ K B F H σ env)(x:jE (λa=>F a\/rN σ env a) H F' H'):dE F' (λa=>F' a/\¬ rN σ env a) H' (env.any dH) (env.any dI) (env.any dJ):=by
 have own:∀ a,rN σ env a->(∃ xs,H' a=some (.lst xs)/\env.any dH=true)\/(∃ xs,H' a=some (.dK xs)/\env.any dI=true)\/∃ C dx xs,H' a=some (.ins C dx xs)/\env.any dJ=true:=by
  intro a ⟨i,t,e,s⟩;obtain ⟨b,s',nf,fr,o⟩:=R.owns i t e;rw [s] at s';cases s'
  cases t with
  | lst ts =>
   obtain ⟨vs,h,_⟩:=o;exact .inl ⟨vs,x.same _ _ h,List.any_eq_true.mpr ⟨_,List.mem_of_getElem? e,rfl⟩⟩
  | dct ks ts =>
   obtain ⟨vs,h,_⟩:=o;exact .inr (.inl ⟨vs,x.same _ _ h,List.any_eq_true.mpr ⟨_,List.mem_of_getElem? e,rfl⟩⟩)
  | obj C fs ts =>
   obtain ⟨dx,vs,h,_⟩:=o;exact .inr (.inr ⟨_,_,vs,x.same _ _ h,List.any_eq_true.mpr ⟨_,List.mem_of_getElem? e,rfl⟩⟩)
  | _=>exact o.elim
 refine ⟨λa xs f h l=>⟨f,λz => ?_⟩,λa xs f h l=>⟨f,λz => ?_⟩,λa C dx xs f h l=>⟨f,λz => ?_⟩,λa ob u f h=>⟨f,λz => ?_⟩⟩
 ·rcases own a z with ⟨ys,h',l'⟩ | ⟨ys,h',_⟩ | ⟨_,_,ys,h',_⟩
  ·rw [l] at l';cases l'
  ·rw [h] at h';cases h'
  ·rw [h] at h';cases h'
 ·rcases own a z with ⟨ys,h',_⟩ | ⟨ys,h',l'⟩ | ⟨_,_,ys,h',_⟩
  ·rw [h] at h';cases h'
  ·rw [l] at l';cases l'
  ·rw [h] at h';cases h'
 ·rcases own a z with ⟨ys,h',_⟩ | ⟨ys,h',_⟩ | ⟨_,_,ys,h',l'⟩
  ·rw [h] at h';cases h'
  ·rw [h] at h';cases h'
  ·rw [l] at l';cases l'
 ·rcases own a z with ⟨ys,h',_⟩ | ⟨ys,h',_⟩ | ⟨_,_,ys,h',_⟩<;>(rw [h] at h';cases h')
theorem ZM (c:dE F F' H l d o)(hs:∀ a,F' a->F a)(hl:l=true->YH r=true)(hd:d=true->YI r=true)(ho:o=true->YJ r=true)(i:wu K fr F H v r):wu K fr F' H v r:=by
 obtain ⟨b,t⟩:=r;unfold wu at i ⊢
 cases b with
 | false =>
  simp only [Bool.false_eq_true,if_false] at i ⊢;exact Is.clean c (λz=>by have:=hl z;cases t<;>simpa [YH] using this) (λz=>by have:=hd z;cases t<;>simpa [YI] using this) (λz=>by have:=ho z;cases t<;>simpa [YJ] using this) i
 | true =>
  simp only [if_true] at i ⊢;obtain ⟨a,e,nf,f,o⟩:=i;refine ⟨a,e,λz=>nf (hs a z),f,?_⟩
  cases t with
  | lst ts=>obtain ⟨vs,h,q⟩:=o;exact ⟨vs,h,IsAll.clean c (λz=>hl z) (λz=>hd z) (λz=>ho z) q⟩
  | dct ks ts=>obtain ⟨vs,h,k,q⟩:=o;exact ⟨vs,h,k,IsAll.clean c (λz=>hl z) (λz=>hd z) (λz=>ho z) q⟩
  | obj C fs ts=>obtain ⟨dx,vs,h,k,q⟩:=o;exact ⟨dx,vs,h,k,IsAll.clean c (λz=>hl z) (λz=>hd z) (λz=>ho z) q⟩
  | _=>exact o.elim
theorem zQ.frozen (R:zQ K B F H σ env)(x:jE (λa=>F a\/rN σ env a) H F' H'):zQ K B F' H' σ (YG env):=by
 have fr:fe B F' H':=⟨x.dom,λa h=>x.sub a (.inl (R.fr.sub a h)),λa h=>by
  rcases x.new a h with (z | z) | z
  ·exact R.fr.new a z
  ·exact .inr (R.own_not z).2.2
  ·exact .inr (zH R.fr z),λa o h hm=>x.same a o (R.fr.keep a o h hm),R.fr.f0⟩
 refine ⟨fr,by unfold YG;rw [List.length_map];exact R.len,λi t h => ?_,λi t h => ?_,λi j t t' a h => ?_⟩
 ·obtain ⟨o,e,q⟩:=qr h
  cases o with
  | none=>cases q
  | some r' =>
   obtain ⟨b,t'⟩:=r';have:t'=t:=by cases b<;>(cases q;rfl)
   subst this;obtain ⟨v,s,iv⟩:=R.opn.vals i _ e;exact ⟨v,s,iv.mono x.kept⟩
 ·obtain ⟨o,e,q⟩:=qr h
  cases o with
  | none=>cases q
  | some r'=>obtain ⟨b,t'⟩:=r';cases q
 ·obtain ⟨o,e,q⟩:=qr h
  cases o with
  | none=>cases q
  | some r'=>obtain ⟨b,t'⟩:=r';cases q
theorem YK {a:Addr}(h:rN σ (YG env) a):False:=by
 obtain ⟨i,t,e,_⟩:=h;obtain ⟨o,_,q⟩:=qr e
 cases o with
 | none=>cases q
 | some r'=>obtain ⟨b,t'⟩:=r';cases q
end
inductive YL where
 | nx (env:En) | rt (r:RV) | bk (env:En) | ct (env:En) | exc (x:Ex) (env:En) | bad
abbrev MS:=En->YL
def gj (X:Cx)(B:Bs)(D:nC):YL->Prop
 | .nx env=>∀ F H σ,zQ X.K B F H σ env->D.nx σ H
 | .bk env=>∀ F H σ,zQ X.K B F H σ env->D.bk σ H
 | .ct env=>∀ F H σ,zQ X.K B F H σ env->D.ct σ H
 | .rt r=>∀ v F H,bw X.K B F H v r->D.rt v H
 | .exc x env=>∀ ev F H σ,zQ X.K B F H σ env->Wf X.K F H ev x->∀ pins s',zk X pins σ H s'->X.xe ev s'
 | .bad=>False
def Qq (X:Cx)(t:TS)(m:MS):Prop := ∀ (B:Bs) (F:Addr->Prop) (H:Hp) (σ:St) (env:En) (D:nC),zQ X.K B F H σ env->gj X B D (m env)->t D σ H
def mR (X:Cx)(st:Stmt)(m:MS):Prop := ∃ t,PS X st t/\Qq X t m
def uD (X:Cx)(st:List Stmt)(m:MS):Prop := ∃ t,cX X st t/\Qq X t m
def xx.run (h:xx X t m)(R:zQ X.K B F H σ env)
  (ok:∀ r env',xm m env=.ok (r,env')->∀ v F' H',zQ X.K B F' H' σ env'->wu X.K (λa=>H a=none) F' H' v r->(∀ a,rN σ env' a->H a≠none)->k9 F F' H H'->Q v H')
  (ex:∀ x,xm m env=.exc x->∀ ev F' H',zQ X.K B F' H' σ env->Wf X.K F' H' ev x->∀ pins s',zk X pins σ H' s'->X.xe ev s') (nb:xm m env≠.bad):t σ H Q:=by
 unfold xm at ok ex nb
 cases hm:m (zZ env) with
 | ok r =>
  rw [hm] at ok
  exact h F H σ (zZ env) Q R.hid (by rw [hm];intro z;cases z) (λr' e v F' H' x i=>by rw [hm] at e;cases e;exact ok r env rfl v F' H' (R.ext x) i (λa z=>(R.own_not z).2.1) x.kept) λx z=>by rw [hm] at z;cases z
 | exc x =>
  rw [hm] at ex
  exact h F H σ (zZ env) Q R.hid (by rw [hm];intro z;cases z) (λr' e=>by rw [hm] at e;cases e) λx' z ev F' H' e i pins s' I=>by rw [hm] at z;cases z;exact ex x rfl ev F' H' (R.ext e) i pins s' I
 | bad =>
  rw [hm] at ok ex nb;dsimp only at ok ex nb
  cases hm2:m env with
  | bad=>rw [hm2] at nb;exact absurd rfl nb
  | ok r =>
   rw [hm2] at ok;dsimp only at ok;refine h _ H σ env Q R.opn (by rw [hm2];intro z;cases z) (λr' e v F' H' x i => ?_) λx z=>by rw [hm2] at z;cases z
   rw [hm2] at e;cases e
   by_cases hc:clean env r=true
   ·have es:settle env r=env:=by unfold settle;rw [if_pos hc]
    rw [es] at ok;have hc':=fJ hc;obtain ⟨R',e'⟩:=R.closed x;exact ok r env rfl v _ H' R' (ZM (R.cleans x) (λa z=>z.1) hc'.1 hc'.2.1 hc'.2.2 i) (λa z=>(R.own_not z).2.1) e'.kept
   ·have es:settle env r=YG env:=by unfold settle;rw [if_neg hc]
    rw [es] at ok;exact ok r _ rfl v F' H' (R.frozen x) i (λa z=>(YK z).elim) ⟨λa h=>x.sub a (.inl h),λa o _ h=>x.same a o h,λa o h _ _=>x.same a o h⟩
  | exc x =>
   rw [hm2] at ex nb;dsimp only at ex nb
   by_cases hc:clean env (false,x.at_)=true
   ·rw [if_pos hc] at ex
    refine h _ H σ env Q R.opn (by rw [hm2];intro z;cases z) (λr' e=>by rw [hm2] at e;cases e) λx' z ev F' H' e i pins s' I => ?_;rw [hm2] at z;cases z;have hc':=fJ hc;obtain ⟨R',e'⟩:=R.closed e;exact (i:False).elim
   ·rw [if_neg hc] at nb
    exact absurd rfl nb
section
variable {K:W.Frag}{B:Bs}{F F':Addr->Prop}{H H':Hp}{σ:St}{env:En}{v:V}{r:RV}
theorem jG {α:Type}{l:List α}{i j:Nat}{a b:α}(h:(l.set i a)[j]? = some b):(j=i/\i < l.length/\b=a)\/(j≠i/\l[j]? = some b):=by
 by_cases e:j=i
 ·subst e
  have hl:j < (l.set j a).length:=(List.getElem?_eq_some_iff.mp h).1;rw [List.length_set] at hl;rw [List.getElem?_set_self hl] at h;exact .inl ⟨rfl,hl,(Option.some.inj h).symm⟩
 ·rw [List.getElem?_set_ne (Ne.symm e)] at h
  exact .inr ⟨e,h⟩
theorem zQ.put (R:zQ K B F' H' σ env)(i:Nat)(h:wu K (λa=>H a=none) F' H' v r)(hb:∀ a,H a=none->B.H a=none\/B.M a)(old:∀ a,rN σ env a->H a≠none) :
  zQ K B F' H' (σ.set i (some v)) (env.set i (some r)):=by
 have hs:∀ j,j≠i->(σ.set i (some v))[j]? = σ[j]? := λj hj=>List.getElem?_set_ne (Ne.symm hj);have hself:i < env.length->(σ.set i (some v))[i]? = some (some v):=λhi=>List.getElem?_set_self (by rw [<- R.len];exact hi);refine ⟨R.fr,by rw [List.length_set,List.length_set];exact R.len,λj t e => ?_,λj t e => ?_,λj k t t' a e1 e2 s1 s2 => ?_⟩
 ·rcases jG e with ⟨rfl,hl,er⟩ | ⟨hj,e⟩
  ·refine ⟨v,hself hl,?_⟩
   have er:=(Option.some.inj er).symm;subst er;exact h.is
  ·rw [hs j hj]
   exact R.vals j t e
 ·rcases jG e with ⟨rfl,hl,er⟩ | ⟨hj,e⟩
  ·have er:=(Option.some.inj er).symm
   subst er;obtain ⟨a,rfl,nf,fr,th,w⟩:=h.there rfl;exact ⟨a,hself hl,nf,hb a fr,w⟩
  ·rw [hs j hj]
   exact R.owns j t e
 ·rcases jG e1 with ⟨rfl,hl,er⟩ | ⟨hj,e1'⟩
  ·have er:=(Option.some.inj er).symm
   subst er;obtain ⟨b,rfl,nf,fr,th,w⟩:=h.there rfl;rw [hself hl] at s1;cases s1
   rcases jG e2 with ⟨rfl,_,_⟩ | ⟨hk,e2⟩
   ·rfl
   ·rw [hs k hk] at s2
    exact absurd fr (old _ ⟨k,t',e2,s2⟩)
  ·rw [hs j hj] at s1
   rcases jG e2 with ⟨rfl,hl,er⟩ | ⟨hk,e2⟩
   ·have er:=(Option.some.inj er).symm
    subst er;obtain ⟨b,rfl,nf,fr,th,w⟩:=h.there rfl;rw [hself hl] at s2;cases s2;exact absurd fr (old _ ⟨j,t,e1',s1⟩)
   ·rw [hs k hk] at s2
    exact R.sep j k t t' a e1' e2 s1 s2
end
def zn (i:Nat)(m:ME):MS:=λenv=>match xm m env with
 | .ok (r,env')=>.nx (env'.set i (some r))
 | .exc x=>.exc x env
 | .bad=>.bad
def zq (m:ME):MS:=λenv=>match xm m env with
 | .ok (r,_)=>.rt r
 | .exc x=>.exc x env
 | .bad=>.bad
def zw:MS:=λenv=>.nx env
def Qr:MS:=λ_=>.bad
def wx (i:Nat):MS:=λenv=>match env[i]? with
 | some (some r)=>.rt r
 | _=>.bad
def ze (a b:MS):MS:=λenv=>match a env with
 | .nx env'=>b env'
 | o=>o
section
variable {X:Cx}{e:Expr}{st:Stmt}{rest:List Stmt}{m:ME}{ms mr:MS}{pos:Pos}
theorem zY:uD X [] zw:=⟨_,nU,λB F H σ env D R w=>w F H σ R⟩
theorem zg (h:mR X st ms):uD X [st] ms:=let ⟨t,p,s⟩:=h;⟨t,pD p,s⟩
theorem zc (h:mR X st ms)(g:uD X rest mr):uD X (st :: rest) (ze ms mr):=by
 obtain ⟨t,p,s⟩:=h;obtain ⟨u,p',s'⟩:=g;refine ⟨_,w9 p p',?_⟩;intro B F H σ env D R w;refine s B F H σ env _ R ?_;unfold ze at w
 cases ho:ms env with
 | nx env' =>
  rw [ho] at w;exact λF' H' σ' R'=>s' B F' H' σ' env' D R' w
 | rt r=>rw [ho] at w;exact w
 | bk env'=>rw [ho] at w;exact w
 | ct env'=>rw [ho] at w;exact w
 | exc x env'=>rw [ho] at w;exact w
 | bad=>rw [ho] at w;exact w
theorem rO:mR X st Qr:=⟨_,JT,λB F H σ env D R w=>w.elim⟩
theorem zt (h:ju X e m):mR X (.Return (some e) pos) (zq m):=by
 obtain ⟨t,p,s⟩:=h;refine ⟨_,aT p,?_⟩;intro B F H σ env D R w;unfold zq at w;refine s.run R (λr env' e v F' H' R' i _ _ => ?_) (λx e ev F' H' R' i pins s' I => ?_) λe => ?_
 ·rw [e] at w
  refine w v F' H' ⟨R'.fr,?_⟩;unfold wu at i ⊢
  split
  ·rename_i ho
   rw [if_pos ho] at i;obtain ⟨a,e,nf,fr,o⟩:=i;exact ⟨a,e,nf,zH R.fr fr,o⟩
  ·rename_i ho
   rw [if_neg ho] at i;exact i
 ·rw [e] at w
  exact w ev F' H' σ R' i pins s' I
 ·rw [e] at w
  exact w
theorem fL (i:Nat)(hN:X.N[i]? = some x:=by rfl)(hv:JC X.env.scope x:=by first | exact Or.inl rfl | exact Or.inr (Or.inl rfl) | exact Or.inr (Or.inr rfl))(hd:(x == ("__debug__" : Str))=false:=by decide)
  (hcd:(x == ("__classdict__" : Str))=false:=by decide):mR X (.Return (some (.Name x p2)) pos) (wx i):=by
 refine ⟨_,aT (qq hN hv hd hcd),?_⟩;intro B F H σ env D R w;unfold wx at w
 cases he:env[i]? with
 | none=>rw [he] at w;exact w.elim
 | some o =>
  cases o with
  | none=>rw [he] at w;exact w.elim
  | some r =>
   rw [he] at w;obtain ⟨b,t⟩:=r
   cases b with
   | false =>
    obtain ⟨v,s,q⟩:=R.vals i t he;exact ⟨v,s,w v F H ⟨R.fr,jo q⟩⟩
   | true =>
    obtain ⟨a,s,nf,fr,o⟩:=R.owns i t he;refine ⟨.ref a,s,w _ F H ⟨R.fr,?_⟩⟩;unfold wu;rw [if_pos rfl];exact ⟨a,rfl,nf,fr,o⟩
theorem Pb (hN:X.N.Nodup)(hi:X.N[i]? = some x)(hx:cP X.env.scope x)(h:ju X e m)(hs:swapsWith e (some (.Name x pos')) pos.line X.env=pure false:=by rfl)
  (hf:X.fn x=true\/X.env.scope.names.lookup x=some .local:=by first | exact .inl rfl | exact .inr rfl | assumption):mR X (.Assign [.Name x pos'] e pos) (zn i m):=by
 obtain ⟨t,p,s⟩:=h;refine ⟨_,aV (i:=i) hN hi hx p hs hf,?_⟩;intro B F H σ env D R w;unfold zn at w;refine s.run R (λr env' e v F' H' R' i' old _ => ?_) (λx e ev F' H' R' i pins s' I => ?_) λe => ?_
 ·rw [e] at w;exact w F' H' _ (R'.put i i' (λa q=>zH R.fr q) old)
 ·rw [e] at w;exact w ev F' H' σ R' i pins s' I
 ·rw [e] at w;exact w
def jT (m:MT)(env:En):kg Bool:=match m (zZ env) with
 | .bad=>match m env with
  | .exc x=>if clean env (false,x.at_)=true then .exc x else .bad
  | o=>o
 | o=>o
theorem vh.run {t:TT}{m:MT}(h:vh X t m){B:Bs}{F:Addr->Prop}{H:Hp}{σ:St}{env:En}{Q:Bool->Hp->Prop}(R:zQ X.K B F H σ env)
  (ok:∀ b,jT m env=.ok b->∀ F' H',zQ X.K B F' H' σ env->Q b H')
  (ex:∀ x,jT m env=.exc x->∀ ev F' H',zQ X.K B F' H' σ env->Wf X.K F' H' ev x->∀ pins s',zk X pins σ H' s'->X.xe ev s') (nb:jT m env≠.bad):t σ H Q:=by
 unfold jT at ok ex nb
 cases hm:m (zZ env) with
 | ok b =>
  rw [hm] at ok
  exact h F H σ (zZ env) Q R.hid (by rw [hm];intro z;cases z) (λr' e F' H' x=>by rw [hm] at e;cases e;exact ok b rfl F' H' (R.ext x)) λx z=>by rw [hm] at z;cases z
 | exc x =>
  rw [hm] at ex
  exact h F H σ (zZ env) Q R.hid (by rw [hm];intro z;cases z) (λr' e=>by rw [hm] at e;cases e) λx' z ev F' H' e i pins s' I=>by rw [hm] at z;cases z;exact ex x rfl ev F' H' (R.ext e) i pins s' I
 | bad =>
  rw [hm] at ok ex nb;dsimp only at ok ex nb
  cases hm2:m env with
  | bad=>rw [hm2] at nb;exact absurd rfl nb
  | ok b =>
   rw [hm2] at ok
   exact h _ H σ env Q R.opn (by rw [hm2];intro z;cases z) (λr' e F' H' x=>by rw [hm2] at e;cases e;exact ok b rfl _ H' (R.closed x).1) λx z=>by rw [hm2] at z;cases z
  | exc x =>
   rw [hm2] at ex nb;dsimp only at ex nb
   by_cases hc:clean env (false,x.at_)=true
   ·rw [if_pos hc] at ex
    refine h _ H σ env Q R.opn (by rw [hm2];intro z;cases z) (λr' e=>by rw [hm2] at e;cases e) λx' z ev F' H' e i pins s' I => ?_;rw [hm2] at z;cases z;have hc':=fJ hc;obtain ⟨R',e'⟩:=R.closed e;exact (i:False).elim
   ·rw [if_neg hc] at nb
    exact absurd rfl nb
def xi (c:MT)(a b:MS):MS:=λenv=>match jT c env with
 | .ok k=>if k=true then a env else b env
 | .exc x=>.exc x env
 | .bad=>.bad
theorem xP {c:Expr}{a b:List Stmt}{mc:MT}{m1 m2:MS}(hc:tN X c mc)(ha:uD X a m1)(hb:uD X b m2):mR X (.If c a b pos) (xi mc m1 m2):=by
 obtain ⟨tc,pc,sc⟩:=hc;obtain ⟨t1,p1,s1⟩:=ha;obtain ⟨t2,p2,s2⟩:=hb;refine ⟨_,JS pc p1 p2,?_⟩;intro B F H σ env D R w;unfold xi at w;refine sc.run R (λk e F' H' R' => ?_) (λx e ev F' H' R' i pins s' I => ?_) λe => ?_
 ·rw [e] at w
  cases k with
  | true=>rw [if_pos rfl];exact s1 B F' H' σ env D R' w
  | false=>rw [if_neg Bool.false_ne_true];exact s2 B F' H' σ env D R' w
 ·rw [e] at w;exact w ev F' H' σ R' i pins s' I
 ·rw [e] at w;exact w
def zU (c:MT)(b:MS):Nat->MS
 | 0=>λ_=>.bad
 | n + 1=>λenv=>match jT c env with
  | .ok k=>if k=true then (match b env with
    | .nx env'=>zU c b n env'
    | .ct env'=>zU c b n env'
    | .bk env'=>.nx env'
    | o=>o) else .nx env
  | .exc x=>.exc x env
  | .bad=>.bad
theorem gQ (n:Nat)(hp:PassesOwn (model X.prog X.w) X.A X.env X.xe)(hc:tN X c mc)(hb:uD X body mb):mR X (.While c body [] pos) (zU mc mb n):=by
 obtain ⟨tc,pc,sc⟩:=hc;obtain ⟨tb,pb,sb⟩:=hb;refine ⟨_,JV hp pc pb,?_⟩;intro B F H σ env D R w;refine ⟨λk σ H=>∃ F env,zQ X.K B F H σ env/\gj X B D (zU mc mb k env),⟨n,F,env,R,w⟩,?_⟩;rintro k σ H ⟨F,env,R,w⟩
 cases k with
 | zero=>exact w.elim
 | succ k =>
  unfold zU at w;refine sc.run R (λc e F' H' R' => ?_) (λx e ev F' H' R' i pins s' I => ?_) λe => ?_
  ·rw [e] at w
   cases c with
   | false=>rw [if_neg Bool.false_ne_true];exact w F' H' σ R'
   | true =>
    rw [if_pos rfl];refine ⟨λσ' H'=>∃ F env,zQ X.K B F H' σ' env/\gj X B D (zU mc mb k env),λσ' H' q=>⟨k,Nat.lt_succ_self _,q⟩,?_⟩;refine sb B F' H' σ env _ R' ?_
    have w:gj X B D (match mb env with
     | .nx env'=>zU mc mb k env'
     | .ct env'=>zU mc mb k env'
     | .bk env'=>.nx env'
     | o=>o):=w
    cases ho:mb env with
    | nx env'=>rw [ho] at w;exact λF2 H2 σ2 R2=>⟨F2,env',R2,w⟩
    | ct env'=>rw [ho] at w;exact λF2 H2 σ2 R2=>⟨F2,env',R2,w⟩
    | bk env'=>rw [ho] at w;exact w
    | rt r=>rw [ho] at w;exact w
    | exc x env'=>rw [ho] at w;exact w
    | bad=>rw [ho] at w;exact w
  ·rw [e] at w;exact w ev F' H' σ R' i pins s' I
  ·rw [e] at w;exact w
end
section
variable {K:W.Frag}{B:Bs}{F F':Addr->Prop}{H H':Hp}{σ:St}{env:En}{v:V}{r:RV}
theorem zQ.mut (R:zQ K B F H σ env)(e:env[i]? = some (some (true,t)))(s:σ[i]? = some (some (.ref a)))(w:xG K F (zW H a o) a t'):zQ K B F (zW H a o) σ (env.set i (some (true,t'))):=by
 obtain ⟨b,s',nf,fr,w0⟩:=R.owns i t e;rw [s] at s';cases s';have hi:i < env.length:=(List.getElem?_eq_some_iff.mp e).1;have ne:∀ b,F b->b≠a:=λb f z=>nf (z ▸ f)
 have k:k9 F F H (zW H a o):=by
  refine ⟨λ_ h=>h,λb u f h=>by rw [zd (ne b f)];exact h,λb u h h1 h2 => ?_⟩
  have:b≠a:=by
   rintro rfl
   cases t with
   | lst ts=>obtain ⟨vs,q,_⟩:=w0;rw [h] at q;exact h1 vs (Option.some.inj q)
   | dct ks ts=>obtain ⟨vs,q,_⟩:=w0;rw [h] at q;exact h2.1 vs (Option.some.inj q)
   | obj C fs ts=>obtain ⟨dx,vs,q,_⟩:=w0;rw [h] at q;exact h2.2 C dx vs (Option.some.inj q)
   | _=>exact w0.elim
  rw [zd this];exact h
 refine ⟨⟨λb f => ?_,R.fr.sub,R.fr.new,λb u h hm => ?_,R.fr.f0⟩,by rw [List.length_set];exact R.len,λj u h => ?_,λj u h => ?_,λj l u u' c e1 e2 s1 s2 => ?_⟩
 ·rw [zd (ne b f)];exact R.fr.dom b f
 ·have:b≠a:=by
   rintro rfl
   rcases fr with fr | fr
   ·rw [h] at fr;cases fr
   ·exact hm fr
  rw [zd this];exact R.fr.keep b u h hm
 ·rcases jG h with ⟨rfl,_,z⟩ | ⟨hj,h⟩
  ·cases z
  ·obtain ⟨x,sx,q⟩:=R.vals j u h
   exact ⟨x,sx,q.mono k⟩
 ·rcases jG h with ⟨rfl,_,z⟩ | ⟨hj,h⟩
  ·have z:=Option.some.inj z
   have:u=t':=by injection z
   subst this;exact ⟨a,s,nf,fr,w⟩
  ·obtain ⟨b,sb,nfb,frb,wb⟩:=R.owns j u h
   refine ⟨b,sb,nfb,frb,wb.mono k λq hq => ?_⟩
   have:b≠a:=by
    rintro rfl;exact hj (R.sep j i u t b h e sb s)
   rw [zd this];exact hq
 ·have e1':∃ t,env[j]? = some (some (true,t)):=by
   rcases jG e1 with ⟨rfl,_,_⟩ | ⟨_,h⟩
   ·exact ⟨t,e⟩
   ·exact ⟨u,h⟩
  have e2':∃ t,env[l]? = some (some (true,t)):=by
   rcases jG e2 with ⟨rfl,_,_⟩ | ⟨_,h⟩
   ·exact ⟨t,e⟩
   ·exact ⟨u',h⟩
  obtain ⟨_,e1'⟩:=e1';obtain ⟨_,e2'⟩:=e2';exact R.sep j l _ _ c e1' e2' s1 s2
theorem zQ.freeze (R:zQ K B F' H' σ env)(h:wu K (λa=>H a=none) F' H' v r)(hb:∀ a,H a=none->B.H a=none\/B.M a)(old:∀ a,rN σ env a->H a≠none) :
  ∃ F2,zQ K B F2 H' σ env/\Is K F2 H' r.2 v/\∀ a,F' a->F2 a:=by
 by_cases o:r.1=true
 ·obtain ⟨a,rfl,nf,fr,th,w⟩:=h.there o
  have k:k9 F' (λb=>F' b\/b=a) H' H':=⟨λb f=>.inl f,λ_ _ _ h=>h,λ_ _ h _ _=>h⟩
  refine ⟨λb=>F' b\/b=a,⟨⟨λb f => ?_,λb f=>.inl (R.fr.sub b f),λb f => ?_,R.fr.keep,R.fr.f0⟩,R.len,λj u q => ?_,λj u q => ?_,R.sep⟩,w.is (λb f=>.inl f) (.inr rfl),λb f=>.inl f⟩
  ·rcases f with f | rfl
   ·exact R.fr.dom b f
   ·exact th
  ·rcases f with f | rfl
   ·exact R.fr.new b f
   ·exact .inr (hb b fr)
  ·obtain ⟨x,sx,q⟩:=R.vals j u q
   exact ⟨x,sx,q.mono k⟩
  ·obtain ⟨b,sb,nfb,frb,wb⟩:=R.owns j u q
   refine ⟨b,sb,λz => ?_,frb,wb.mono k λ_ h=>h⟩
   rcases z with z | rfl
   ·exact nfb z
   ·exact old b ⟨j,u,q,sb⟩ fr
 ·obtain ⟨b,t⟩:=r
  cases b with
  | true=>exact absurd rfl o
  | false=>exact ⟨F',R,h.is,λ_ f=>f⟩
end
def gb (i:Nat)(m:ME):MS:=λenv=>match env[i]? with
 | some (some (true,.lst _))=>(match xm m env with
  | .ok (r,env')=>(match env'[i]? with
   | some (some (true,.lst ts))=>if ts.length < sizeLine then .nx (env'.set i (some (true,.lst (ts ++ [r.2])))) else .bad
   | _=>.bad)
  | .exc x=>.exc x env
  | .bad=>.bad)
 | _=>.bad
def jU (nf:¬ F a)(h:H a=some o)(ho:(∃ xs,o=.lst xs)\/(∃ xs,o=.dK xs)\/∃ C d xs,o=.ins C d xs):k9 F F H (zW H a u):=by
 refine ⟨λ_ h=>h,λb q f h => ?_,λb q hq h1 h2 => ?_⟩
 ·have:b≠a:=by rintro rfl;exact nf f
  rw [zd this];exact h
 ·have:b≠a:=by
   rintro rfl;rw [hq] at h;cases h
   rcases ho with ⟨xs,rfl⟩ | ⟨xs,rfl⟩ | ⟨C,d,xs,rfl⟩
   ·exact h1 xs rfl
   ·exact h2.1 xs rfl
   ·exact h2.2 C d xs rfl
  rw [zd this];exact hq
section
variable {X:Cx}{e ek:Expr}{m mk mv:ME}{pos:Pos}
theorem bz {i:Nat}{st:Stmt}(he:ju X e m)(hp:∀ te,PE X e te->PS X st (re (UJ X.K "list" rn (xw i) (Y1 te Wy)))):mR X st (gb i m):=by
 obtain ⟨te,pe,se⟩:=he;refine ⟨_,hp te pe,?_⟩;intro B F H σ env D R w;unfold gb at w
 split at w
 ·rename_i ts0 hi
  obtain ⟨a,s,nf,fr,vs,hH,iv⟩:=R.owns i _ hi;refine ⟨.ref a,s,.inl ⟨rfl,vs,.inl (.inl hH)⟩,?_⟩;refine se.run R (λr env' er v F' H' R' iv' old kp => ?_) (λx er ev F' H' R' ix pins s' I => ?_) λer => ?_
  ·rw [er] at w
   dsimp only at w
   split at w
   ·rename_i ts' hi'
    split at w
    ·rename_i hl
     obtain ⟨F2,R2,i2,_⟩:=R'.freeze iv' (λa q=>zH R.fr q) old;obtain ⟨a',s',nf',fr',vs',hH',iv2⟩:=R2.owns i _ hi';rw [s] at s';cases s';refine ⟨a,vs',v,rfl,rfl,hH',by rw [<- iv2.len];exact hl,?_⟩;refine w F2 _ σ (R2.mut hi' s ⟨vs' ++ [v],zh,?_⟩);exact (iv2.append (IsAll.cons i2 IsAll.nil)).mono (jU nf' hH' (.inl ⟨_,rfl⟩))
    ·exact w.elim
   ·exact w.elim
  ·rw [er] at w;exact w ev F' H' σ R' ix pins s' I
  ·rw [er] at w;exact w
 ·exact w.elim
def mS (i:Nat):MS:=λenv=>match env[i]? with
 | some (some (true,.lst ts))=>if ts=[] then .bad else .nx (env.set i (some (true,.lst ts.dropLast)))
 | _=>.bad
instance (ts:List T):Decidable (ts=[]):=by cases ts with
 | nil=>exact .isTrue rfl
 | cons _ _=>exact .isFalse (by intro z;cases z)
theorem IsAll.dropLast {K:W.Frag}{F:Addr->Prop}{H:Hp}{ts:List T}{vs:List V}(h:IsAll K F H ts vs):IsAll K F H ts.dropLast vs.dropLast:=by
 rw [List.dropLast_eq_take,List.dropLast_eq_take,<- h.len];exact h.take _
theorem Qs {i:Nat}{st:Stmt}(hp:PS X st (re (Q9 X.K "list" Qa (xw i)))):mR X st (mS i):=by
 refine ⟨_,hp,?_⟩;intro B F H σ env D R w;unfold mS at w
 split at w
 ·rename_i ts0 hi
  obtain ⟨a,s,nf,fr,vs,hH,iv⟩:=R.owns i _ hi
  split at w
  ·exact w.elim
  ·rename_i hne
   have hl:=iv.len
   have hv:0 < vs.length:=by
    cases ts0 with
    | nil=>exact absurd rfl hne
    | cons _ _=>rw [<- hl];simp
   refine ⟨.ref a,s,.inl ⟨rfl,vs,.inl (.inl hH)⟩,a,vs,vs[vs.length - 1],rfl,rfl,hH,by simp [hv],w F _ σ (R.mut hi s ⟨vs.dropLast,zh,?_⟩)⟩;exact iv.dropLast.mono (jU nf hH (.inl ⟨_,rfl⟩))
 ·exact w.elim
def wd (i:Nat)(mk mv:ME):MS:=λenv=>match xm mv env with
 | .ok (r,env1)=>(match env1[i]? with
  | some (some (true,.lst _))=>(match xm mk env1 with
   | .ok (k,env2)=>(match env2[i]?,k.2 with
    | some (some (true,.lst ts)),.int k=>(match aR ts.length k with
     | some j=>.nx (env2.set i (some (true,.lst (ts.set j r.2))))
     | none=>.bad)
    | _,_=>.bad)
   | .exc x=>.exc x env1
   | .bad=>.bad)
  | _=>.bad)
 | .exc x=>.exc x env
 | .bad=>.bad
theorem dL {i:Nat}{st:Stmt}(hk:ju X ek mk)(hv:ju X e mv)(hp:∀ tk te,PE X ek tk->PE X e te->PS X st (dr te (GE (xw i) tk K0))):mR X st (wd i mk mv):=by
 obtain ⟨tk,pk,sk⟩:=hk;obtain ⟨te,pe,se⟩:=hv;refine ⟨_,hp tk te pk pe,?_⟩;intro B F H σ env D R w;unfold wd at w;refine se.run R (λr env1 er v F1 H1 R1 iv1 old1 kp1 => ?_) (λx er ev F' H' R' ix pins s' I => ?_) λer => ?_
 ·rw [er] at w
  dsimp only at w;obtain ⟨F2,R2,i2,_⟩:=R1.freeze iv1 (λa q=>zH R.fr q) old1
  split at w
  ·rename_i ts0 hi
   obtain ⟨a,s,nf,fr,vs,hH,iv⟩:=R2.owns i _ hi;refine ⟨.ref a,s,?_⟩;refine sk.run R2 (λk env2 er2 vk F3 H3 R3 iv3 old3 kp3 => ?_) (λx er ev F' H' R' ix pins s' I => ?_) λer => ?_
   ·rw [er2] at w
    dsimp only at w
    split at w
    ·rename_i x1 ts kk hi' hk'
     split at w
     ·rename_i j hj
      obtain ⟨a',s',nf',fr',vs',hH',iv2⟩:=R3.owns i _ hi';rw [s] at s';cases s';obtain ⟨bk,tk'⟩:=k;dsimp only at hk';subst hk'
      have:vk=.int kk:=by
       cases bk with
       | false=>have:=iv3.is;unfold Is at this;exact this
       | true=>obtain ⟨_,_,_,_,_,w'⟩:=iv3.there rfl;exact w'.elim
      refine ⟨a,vs',kk,j,rfl,this,hH',by rw [<- iv2.len];exact hj,?_⟩;refine w F3 _ σ (R3.mut hi' s ⟨vs'.set j v,zh,?_⟩);exact (iv2.set j (i2.mono kp3)).mono (jU nf' hH' (.inl ⟨_,rfl⟩))
     ·exact w.elim
    ·exact w.elim
   ·rw [er] at w;exact w ev F' H' σ R' ix pins s' I
   ·rw [er] at w;exact w
  ·exact w.elim
 ·rw [er] at w;exact w ev F' H' σ R' ix pins s' I
 ·rw [er] at w;exact w
def rP (k:Key)(t:T):List Key->List T->List T
 | x :: ks,u :: ts=>(if x=k then t else u) :: rP k t ks ts
 | _,_=>[]
def gk (ks:List Key)(ts:List T)(k:Key)(t:T):T:=if ks.any (λx=>decide (x=k))=true then .dct ks (rP k t ks ts) else .dct (ks ++ [k]) (ts ++ [t])
theorem mT {K:W.Frag}{F:Addr->Prop}{H H':Hp}{a:Addr}{ks:List Key}{ts:List T}{kvs:List (Key×V)}{k:Key}{t:T}{v:V}(hk:kvs.map (·.1)=ks)(i:IsAll K F H ts (kvs.map (·.2)))(iv:Is K F H t v)(kp:k9 F F H H')
  (hH:H' a=some (.dK (v3 kvs k v))):xG K F H' a (gk ks ts k t):=by
 unfold gk;have any_eq:ks.any (λx=>decide (x=k))=kvs.any λkv=>decide (kv.1=k):=by rw [<- hk,List.any_map];rfl
 by_cases h:ks.any (λx=>decide (x=k))=true
 ·rw [if_pos h]
  rw [any_eq] at h;have e:v3 kvs k v=kvs.map λkv=>if kv.1=k then (kv.1,v) else kv:=by unfold v3;rw [if_pos h]
  refine ⟨_,hH,?_,?_⟩
  ·rw [e,<- hk,List.map_map]
   refine List.map_congr_left λkv _ => ?_;show (if kv.1=k then (kv.1,v) else kv).1=kv.1
   split<;>rfl
  ·rw [e]
   have:∀ {kvs:List (Key×V)} {ks:List Key} {ts:List T},kvs.map (·.1)=ks->IsAll K F H ts (kvs.map (·.2))->IsAll K F H (rP k t ks ts) ((kvs.map λkv=>if kv.1=k then (kv.1,v) else kv).map (·.2)):=by
    intro kvs
    induction kvs with
    | nil =>
     intro ks ts hk i;subst hk
     cases ts with
     | nil=>exact IsAll.nil
     | cons _ _=>unfold IsAll at i;obtain ⟨_,_,z,_⟩:=i;cases z
    | cons kv kvs ih =>
     intro ks ts hk i;subst hk
     cases ts with
     | nil=>unfold IsAll at i;cases i
     | cons u ts =>
      unfold IsAll at i;obtain ⟨v',r,z,i1,i2⟩:=i;cases z;show IsAll K F H ((if kv.1=k then t else u) :: rP k t (kvs.map (·.1)) ts) ((if kv.1=k then (kv.1,v) else kv).2 :: _);refine IsAll.cons ?_ (ih rfl i2)
      split
      ·exact iv
      ·exact i1
   exact (this hk i).mono kp
 ·rw [if_neg h]
  rw [any_eq] at h;have e:v3 kvs k v=kvs ++ [(k,v)]:=by unfold v3;rw [if_neg h]
  refine ⟨_,hH,by rw [e,List.map_append,hk];rfl,?_⟩;rw [e,List.map_append];exact (i.append (IsAll.cons iv IsAll.nil)).mono kp
def vn (i:Nat)(mk mv:ME):MS:=λenv=>match xm mv env with
 | .ok (r,env1)=>(match env1[i]? with
  | some (some (true,.dct _ _))=>(match xm mk env1 with
   | .ok (k,env2)=>(match env2[i]?,pM k.2 with
    | some (some (true,.dct ks ts)),some k=>if ks.length < sizeLine then .nx (env2.set i (some (true,gk ks ts k r.2))) else .bad
    | _,_=>.bad)
   | .exc x=>.exc x env1
   | .bad=>.bad)
  | _=>.bad)
 | .exc x=>.exc x env
 | .bad=>.bad
theorem rQ {K:W.Frag}{fr F:Addr->Prop}{H:Hp}{v:V}{r:RV}{k:Key}(h:wu K fr F H v r)(e:pM r.2=some k):v=kV k:=by
 obtain ⟨b,t⟩:=r
 cases b with
 | true=>obtain ⟨_,_,_,_,_,w⟩:=h.there rfl;cases t<;>first | exact w.elim | cases e
 | false =>
  have h:=h.is;cases t<;>simp only [pM,reduceCtorEq,Option.some.injEq] at e
  case int i=>subst e;unfold Is at h;exact h
  case str i=>subst e;unfold Is at h;exact h
theorem mU {i:Nat}{st:Stmt}(hk:ju X ek mk)(hv:ju X e mv)(hp:∀ tk te,PE X ek tk->PE X e te->PS X st (eC (xw i) tk te)):mR X st (vn i mk mv):=by
 obtain ⟨tk,pk,sk⟩:=hk;obtain ⟨te,pe,se⟩:=hv;refine ⟨_,hp tk te pk pe,?_⟩;intro B F H σ env D R w;unfold vn at w;refine se.run R (λr env1 er v F1 H1 R1 iv1 old1 kp1 => ?_) (λx er ev F' H' R' ix pins s' I => ?_) λer => ?_
 ·rw [er] at w
  dsimp only at w;obtain ⟨F2,R2,i2,_⟩:=R1.freeze iv1 (λa q=>zH R.fr q) old1
  split at w
  ·rename_i ks0 ts0 hi
   obtain ⟨a,s,nf,fr,vs,hH,hk0,iv⟩:=R2.owns i _ hi;refine ⟨.ref a,s,?_⟩;refine sk.run R2 (λk env2 er2 vk F3 H3 R3 iv3 old3 kp3 => ?_) (λx er ev F' H' R' ix pins s' I => ?_) λer => ?_
   ·rw [er2] at w
    dsimp only at w
    split at w
    ·rename_i x1 x2 ks ts kk hi' hk'
     split at w
     ·rename_i hl
      obtain ⟨a',s',nf',fr',kvs,hH',hks,iv2⟩:=R3.owns i _ hi';rw [s] at s';cases s';have hv:=rQ iv3 hk';subst hv;have hlen:kvs.length < sizeLine:=by rw [<- hks,List.length_map] at hl;exact hl
      refine ⟨a,_,rfl,tJ.k hH' hlen,?_⟩;exact w F3 _ σ (R3.mut hi' s (mT hks iv2 (i2.mono kp3) (jU nf' hH' (.inr (.inl ⟨_,rfl⟩))) zh))
     ·exact w.elim
    ·exact w.elim
   ·rw [er] at w;exact w ev F' H' σ R' ix pins s' I
   ·rw [er] at w;exact w
  ·exact w.elim
 ·rw [er] at w;exact w ev F' H' σ R' ix pins s' I
 ·rw [er] at w;exact w
def vD:ME:=λ_=>.ok (true,.dct [] [])
theorem mW:ju X (.Dict [] [] pos) vD:=by
 refine ⟨_,mE,?_⟩;intro F H σ env Q R nb ok ex;intro p hp;have x:=jE.alloc R.dom (o:=.dK []) hp;refine ok _ rfl _ F _ x ?_;unfold wu;rw [if_pos rfl];exact ⟨p,rfl,λf=>R.dom p f hp,hp,[],zh,rfl,IsAll.nil⟩
def iH (i:Nat)(f:T->T->Option RV)(m:ME):MS:=λenv=>match env[i]? with
 | some (some (false,t))=>(match xm m env with
  | .ok (r,env')=>(match f t r.2 with
   | some (false,u)=>.nx (env'.set i (some (false,u)))
   | _=>.bad)
  | .exc x=>.exc x env
  | .bad=>.bad)
 | _=>.bad
def Qt (X:Cx)(op:Operator)(f:T->T->Option RV):Prop:=Nu X op λx y H Q=>∃ F tx ty u,iD F H/\Is X.K F H tx x/\Is X.K F H ty y/\f tx ty=some (false,u)/\∀ v F' H',jE F H F' H'->Is X.K F' H' u v->Q v H'
end
def pP:T->T->Option RV
 | .int i,.int j=>some (false,.int (i + j))
 | .str x,.str y=>if x.length + y.length<=sizeLine then some (false,.str (x ++ y)) else none
 | _,_=>none
def dM:Qt X .Add pP:=by
 intro pins s σ H x y v u Q I rx ry h;obtain ⟨F,tx,ty,w,d,ix,iy,e,q⟩:=h;cases tx<;>cases ty<;>simp only [pP,reduceCtorEq] at e
 case int.int i j =>
  unfold Is at ix iy;subst ix iy;cases e;obtain ⟨t,rfl⟩:=rx;obtain ⟨t',rfl⟩:=ry;exact iadd_int ⟨.int _,H,I.tok _,⟨_,rfl⟩,q _ F H (.refl d) xg⟩
 case str.str i j =>
  unfold Is at ix iy;subst ix iy
  split at e<;>cases e
  rename_i hl;obtain ⟨t,rfl⟩:=rx;obtain ⟨t',rfl⟩:=ry;exact iadd_str (λt' tk=>⟨.str _,H,I.tok _,⟨_,rfl⟩,q _ F H (.refl d) vX⟩) hl
def Pc (ho:Qt X op f)(hN:X.N.Nodup)(hi:X.N[i]? = some x)(hx:cP X.env.scope x)(h:ju X e m)
  (hf:X.fn x=true\/X.env.scope.names.lookup x=some .local:=by first | exact .inl rfl | exact .inr rfl | assumption):mR X (.AugAssign (.Name x pos') op e pos) (iH i f m):=by
 obtain ⟨te,pe,se⟩:=h;refine ⟨_,KJ hN hi hx pe ho hf,?_⟩;intro B F H σ env D R w;unfold iH at w
 split at w
 ·rename_i t hi'
  obtain ⟨v0,s0,q0⟩:=R.vals i t hi';refine ⟨v0,s0,?_⟩;refine se.run R (λr env' er v F' H' R' iv' old kp => ?_) (λx er ev F' H' R' ix pins s' I => ?_) λer => ?_
  ·rw [er] at w
   dsimp only at w
   split at w
   ·rename_i u hu
    obtain ⟨F2,R2,i2,s2⟩:=R'.freeze iv' (λa q=>zH R.fr q) old;have q1:Is X.K F2 H' t v0:=(q0.mono kp).mono ⟨s2,λ_ _ _ h=>h,λ_ _ h _ _=>h⟩;refine ⟨F2,t,r.2,u,R2.fr.dom,q1,i2,hu,λv' F3 H3 x3 i3 => ?_⟩;have R3:=R2.ext x3;exact w F3 H3 _ (R3.put i (jo i3) (λa q=>zH R3.fr q) λa z=>(R3.own_not z).2.1)
   ·exact w.elim
  ·rw [er] at w;exact w ev F' H' σ R' ix pins s' I
  ·rw [er] at w;exact w
 ·exact w.elim
def qA:T->Option (List T)
 | .lst ts=>some ts
 | .tup ts=>some ts
 | .str z=>some (z.cps.toList.map λc=>.str ⟨#[c]⟩)
 | _=>none
def uE (K:W.Frag)(F:Addr->Prop)(H:Hp)(J:It)(ts:List T):Prop :=
 ∀ F2 H2,k9 F F2 H H2->∀ i:Nat,(i < ts.length->J.go i H2/\∀ x H3,J.yld i H2 x H3->H3=H2/\∃ t,ts[i]? = some t/\Is K F2 H2 t x)/\(ts.length<=i->J.stop i H2)
abbrev MI:=En->kg (List T×En)
def UV (X:Cx)(wi:TI)(it:MI):Prop :=
 ∀ (B:Bs) (F:Addr->Prop) (H:Hp) (σ:St) (env:En) (R:It->Hp->Prop),zQ X.K B F H σ env->it env≠.bad ->
  (∀ ts env',it env=.ok (ts,env')->∀ J F' H',zQ X.K B F' H' σ env'->uE X.K F' H' J ts->R J H') ->
  (∀ x,it env=.exc x->∀ ev F' H',zQ X.K B F' H' σ env->Wf X.K F' H' ev x->∀ pins s',zk X pins σ H' s'->X.xe ev s')->wi σ H R
def Ua (X:Cx)(tg iter:Expr)(it:MI):Prop := ∃ wi,PI X tg iter wi/\UV X wi it
def UW (K:W.Frag)(tl:TE):TI:=λσ H R=>VY K tl σ H R\/GF K tl σ H R\/GX tl σ H R
def tT (h:PE X e tl):PI X tg e (UW X.K tl):=by
 intro pins s σ H R I w
 rcases w with w | w | w
 ·exact Wq h pins s σ H R I w
 ·exact KL h pins s σ H R I w
 ·exact Qi h pins s σ H R I w
def fO {K:W.Frag}{F:Addr->Prop}{H:Hp}{a:Addr}{vs:List V}{ts:List T}(g1:uW K H a vs)(g2:IsAll K F H ts vs):uE K F H (Uw K a) ts:=by
 intro F2 H2 k i;have h1:=bp g1 k.rest;have h2:=g2.mono k;have hl:=h2.len;refine ⟨λhi=>⟨⟨vs,vs[i],h1,by simp [<- hl,hi]⟩,λx H3 y=>⟨y.1,?_⟩⟩,λhi=>⟨vs,h1,by omega⟩⟩;have hx:=y.2 vs h1;obtain ⟨v,hv,iv⟩:=h2.get (i:=i) (t:=ts[i]) (by simp [hi]);rw [hx] at hv;cases hv;exact ⟨ts[i],by simp [hi],iv⟩
def fQ {K:W.Frag}{F:Addr->Prop}{H:Hp}{z:Str} : uE K F H (U7 z) (z.cps.toList.map λc=>.str ⟨#[c]⟩):=by
 intro F2 H2 k i;have hl:(z.cps.toList.map λc=>T.str ⟨#[c]⟩).length=z.length:=by simp [Str.length]
 rw [hl];refine ⟨λhi=>⟨hi,λx H3 y => ?_⟩,λhi=>hi⟩;obtain ⟨e,c,hc,rfl⟩:=y;refine ⟨e,.str ⟨#[c]⟩,?_,vX⟩;rw [List.getElem?_map];have:z.cps.toList[i]? = some c:=by simpa using hc
 rw [this]
 rfl
def WX (m:ME):MI:=λenv=>match xm m env with
 | .ok (r,env')=>(match qA r.2 with
  | some ts=>.ok (ts,env')
  | none=>.bad)
 | .exc x=>.exc x
 | .bad=>.bad
def Qu (h:ju X e m):Ua X tg e (WX m):=by
 obtain ⟨tl,pl,sl⟩:=h;refine ⟨_,tT pl,?_⟩;intro B F H σ env R RS nb ok ex;unfold WX at nb ok ex
 cases hr:xm m env with
 | bad=>rw [hr] at nb;exact absurd rfl nb
 | exc x =>
  rw [hr] at ex;refine .inl (sl.run RS (λr env' er=>by rw [hr] at er;cases er) (λx' er ev F' H' R' i pins s' I => ?_) (by rw [hr];intro z;cases z));rw [hr] at er;cases er;exact ex x rfl ev F' H' R' i pins s' I
 | ok q =>
  obtain ⟨r,env'⟩:=q;rw [hr] at nb ok;dsimp only at nb ok;have noex:∀ x,xm m env=.exc x->False:=λx z=>by rw [hr] at z;cases z
  have nb':xm m env≠.bad:=by rw [hr];intro z;cases z
  cases hi:qA r.2 with
  | none=>rw [hi] at nb;exact absurd rfl nb
  | some ts =>
   rw [hi] at ok;obtain ⟨o,t⟩:=r;dsimp only at hi;cases t<;>simp only [qA,reduceCtorEq,Option.some.injEq] at hi
   case lst us =>
    subst hi;refine .inl (sl.run RS (λr env1 er v F' H' R' iv old kp => ?_) (λx er=>(noex x er).elim) nb');rw [hr] at er;cases er;obtain ⟨F2,R2,i2,_⟩:=R'.freeze iv (λa q=>zH RS.fr q) old;have i2':=i2;unfold Is at i2;obtain ⟨a,vs,rfl,g1,g2⟩:=i2;refine ⟨a,rfl,⟨vs,g1.sq⟩,ok _ _ rfl _ F2 H' R2 ?_⟩;intro F3 H3 k i;have h1:=g1.mono k;have h2:=g2.mono k;have hl:=h2.len;refine ⟨λhi=>⟨⟨vs,vs[i],h1.sq,by simp [<- hl,hi]⟩,λx H4 y=>⟨y.1,?_⟩⟩,λhi=>⟨vs,h1.sq,by omega⟩⟩;have hx:=y.2 vs h1.sq;obtain ⟨v,hv,iv⟩:=h2.get (i:=i) (t:=us[i]) (by simp [hi]);rw [hx] at hv;cases hv;exact ⟨us[i],by simp [hi],iv⟩
   case tup us =>
    subst hi;refine .inr (.inl (sl.run RS (λr env1 er v F' H' R' iv old kp => ?_) (λx er=>(noex x er).elim) nb'));rw [hr] at er;cases er;obtain ⟨F2,R2,i2,_⟩:=R'.freeze iv (λa q=>zH RS.fr q) old;unfold Is at i2;obtain ⟨a,vs,rfl,g1,g2⟩:=i2;exact ⟨a,rfl,⟨vs,g1⟩,ok _ _ rfl _ F2 H' R2 (fO g1 g2)⟩
   case str z =>
    subst hi;refine .inr (.inr (sl.run RS (λr env1 er v F' H' R' iv old kp => ?_) (λx er=>(noex x er).elim) nb'));rw [hr] at er;cases er;obtain ⟨F2,R2,i2,_⟩:=R'.freeze iv (λa q=>zH RS.fr q) old;unfold Is at i2;exact ⟨z,i2,ok _ _ rfl _ F2 H' R2 fQ⟩
def WY (i:Nat):MI:=λenv=>match env[i]? with
 | some (some (_,t))=>(match qA t with
  | some ts=>.ok (ts,env.set i (some (false,t)))
  | none=>.bad)
 | _=>.bad
def zQ.frz1 {K:W.Frag}{B:Bs}{F:Addr->Prop}{H:Hp}{σ:St}{env:En}(R:zQ K B F H σ env){i:Nat}{r:RV}(e:env[i]? = some (some r)) :
  ∃ F2 v,zQ K B F2 H σ (env.set i (some (false,r.2)))/\σ[i]? = some (some v)/\Is K F2 H r.2 v:=by
 obtain ⟨b,t⟩:=r;have hi:i < env.length:=(List.getElem?_eq_some_iff.mp e).1
 cases b with
 | false =>
  obtain ⟨v,s,q⟩:=R.vals i t e;refine ⟨F,v,?_,s,q⟩
  have:env.set i (some (false,t))=env:=by
   apply List.ext_getElem?;intro j
   by_cases hj:j=i
   ·subst hj;rw [List.getElem?_set_self hi,e]
   ·rw [List.getElem?_set_ne (Ne.symm hj)]
  rw [this];exact R
 | true =>
  obtain ⟨a,s,nf,fr,w⟩:=R.owns i t e;have k:k9 F (λb=>F b\/b=a) H H:=⟨λb f=>.inl f,λ_ _ _ h=>h,λ_ _ h _ _=>h⟩
  refine ⟨λb=>F b\/b=a,.ref a,⟨⟨λb f => ?_,λb f=>.inl (R.fr.sub b f),λb f => ?_,R.fr.keep,R.fr.f0⟩,by rw [List.length_set];exact R.len,λj u h => ?_,λj u h => ?_,λj l u u' c e1 e2 s1 s2 => ?_⟩,s,w.is (λb f=>.inl f) (.inr rfl)⟩
  ·rcases f with f | rfl
   ·exact R.fr.dom b f
   ·exact w.there
  ·rcases f with f | rfl
   ·exact R.fr.new b f
   ·exact .inr fr
  ·rcases jG h with ⟨rfl,_,z⟩ | ⟨hj,h⟩
   ·have:u=t:=by have:=Option.some.inj z;injection this
    subst this;exact ⟨.ref a,s,w.is (λb f=>.inl f) (.inr rfl)⟩
   ·obtain ⟨x,sx,q⟩:=R.vals j u h
    exact ⟨x,sx,q.mono k⟩
  ·rcases jG h with ⟨rfl,_,z⟩ | ⟨hj,h⟩
   ·cases z
   ·obtain ⟨b,sb,nfb,frb,wb⟩:=R.owns j u h
    refine ⟨b,sb,λz => ?_,frb,wb.mono k λ_ h=>h⟩
    rcases z with z | rfl
    ·exact nfb z
    ·exact hj (R.sep j i u t b h e sb s)
  ·rcases jG e1 with ⟨rfl,_,z⟩ | ⟨hj,h1⟩
   ·cases z
   ·rcases jG e2 with ⟨rfl,_,z⟩ | ⟨hl,h2⟩
    ·cases z
    ·exact R.sep j l u u' c h1 h2 s1 s2
def Pd (i:Nat){x:Str}(hN:X.N[i]? = some x:=by rfl)(hv:JC X.env.scope x:=by first | exact Or.inl rfl | exact Or.inr (Or.inl rfl) | exact Or.inr (Or.inr rfl))(hd:(x == ("__debug__" : Str))=false:=by decide)
  (hcd:(x == ("__classdict__" : Str))=false:=by decide):Ua X tg (.Name x pos) (WY i):=by
 refine ⟨_,tT (qq hN hv hd hcd),?_⟩;intro B F H σ env R RS nb ok ex;unfold WY at nb ok ex
 cases he:env[i]? with
 | none=>rw [he] at nb;exact absurd rfl nb
 | some o =>
  cases o with
  | none=>rw [he] at nb;exact absurd rfl nb
  | some r =>
   rw [he] at nb ok;obtain ⟨b,t⟩:=r;dsimp only at nb ok;obtain ⟨F2,v,R2,s,i2⟩:=RS.frz1 he;cases t<;>simp only [qA] at nb ok<;>try (exact absurd rfl nb)
   case lst us =>
    unfold Is at i2;obtain ⟨a,vs,rfl,g1,g2⟩:=i2;refine .inl ⟨.ref a,s,a,rfl,⟨vs,g1.sq⟩,ok _ _ rfl _ F2 H R2 ?_⟩;intro F3 H3 k i;have h1:=g1.mono k;have h2:=g2.mono k;have hl:=h2.len;refine ⟨λhi=>⟨⟨vs,vs[i],h1.sq,by simp [<- hl,hi]⟩,λx H4 y=>⟨y.1,?_⟩⟩,λhi=>⟨vs,h1.sq,by omega⟩⟩;have hx:=y.2 vs h1.sq;obtain ⟨v,hv,iv⟩:=h2.get (i:=i) (t:=us[i]) (by simp [hi]);rw [hx] at hv;cases hv;exact ⟨us[i],by simp [hi],iv⟩
   case tup us =>
    unfold Is at i2;obtain ⟨a,vs,rfl,g1,g2⟩:=i2;exact .inr (.inl ⟨.ref a,s,a,rfl,⟨vs,g1⟩,ok _ _ rfl _ F2 H R2 (fO g1 g2)⟩)
   case str z =>
    unfold Is at i2;subst i2;exact .inr (.inr ⟨.str z,s,z,rfl,ok _ _ rfl _ F2 H R2 fQ⟩)
def bA (lo:Int)(n:Nat):List T:=(List.range n).map λ(i:Nat)=>.int (lo + i)
def tU {K:W.Frag}{F:Addr->Prop}{H:Hp}{lo:Int}{n:Nat} : uE K F H (U5 lo n) (bA lo n):=by
 intro F2 H2 k i;have hl:(bA lo n).length=n:=by simp [bA]
 rw [hl];refine ⟨λhi=>⟨hi,λx H3 y=>⟨y.1,.int (lo + i),?_,?_⟩⟩,λhi=>hi⟩
 ·simp [bA,hi]
 ·rw [y.2];exact xg
def tV (m:MA)(env:En):kg (List T):=match m (zZ env) with
 | .ok rs=>.ok (rs.map (·.2))
 | .exc x=>.exc x
 | .bad=>match m env with
  | .ok rs=>.ok (rs.map (·.2))
  | .exc x=>if clean env (false,x.at_)=true then .exc x else .bad
  | .bad=>.bad
def tS.run {t:TA}{m:MA}(h:tS X t m){B:Bs}{F:Addr->Prop}{H:Hp}{σ:St}{env:En}{Q:List V->Hp->Prop}(R:zQ X.K B F H σ env)(js:List Int)(hj:tV m env=.ok (js.map T.int))
  (ok:∀ F' H',zQ X.K B F' H' σ env->Q (js.map V.int) H'):t σ H Q:=by
 have allInts:∀ {F:Addr->Prop} {H:Hp} {js:List Int} {vs:List V},IsAll X.K F H (js.map T.int) vs->vs=js.map V.int:=by
  intro F H js
  induction js with
  | nil=>intro vs h;unfold IsAll at h;exact h
  | cons j js ih =>
   intro vs h;rw [List.map_cons] at h;unfold IsAll at h;obtain ⟨v,r,rfl,h1,h2⟩:=h;unfold Is at h1;rw [h1,ih h2]
   rfl
 unfold tV at hj
 cases hm:m (zZ env) with
 | ok rs =>
  rw [hm] at hj;have hj:rs.map (·.2)=js.map T.int:=by injection hj
  refine h F H σ (zZ env) Q R.hid (by rw [hm];intro z;cases z) (λr' e vs F' H' x i => ?_) λx z=>by rw [hm] at z;cases z
  rw [hm] at e;cases e;obtain ⟨F2,x2,_,i2⟩:=i.frz x;rw [hj] at i2;rw [allInts i2];exact ok F2 H' (R.ext x2)
 | exc x=>rw [hm] at hj;cases hj
 | bad =>
  rw [hm] at hj;dsimp only at hj
  cases hm2:m env with
  | bad=>rw [hm2] at hj;cases hj
  | exc x=>rw [hm2] at hj;dsimp only at hj;split at hj<;>cases hj
  | ok rs =>
   rw [hm2] at hj;have hj:rs.map (·.2)=js.map T.int:=by injection hj
   refine h _ H σ env Q R.opn (by rw [hm2];intro z;cases z) (λr' e vs F' H' x i => ?_) λx z=>by rw [hm2] at z;cases z
   rw [hm2] at e;cases e;obtain ⟨F2,x2,_,i2⟩:=i.frz x;rw [hj] at i2;rw [allInts i2];exact ok _ H' (R.closed x2).1
def xV (m:MA):MI:=λenv=>match tV m env with
 | .ok [.int j]=>if -(2 ^ 62)<=j/\j < 2 ^ 62 then .ok (bA 0 j.toNat,env) else .bad
 | _=>.bad
def gl (hg:Gl X "range")(hm:X.mg "range" = none)(ha:YE X [a] ma)(hs:starEach [a] X.env=[(false,eval a X.env)]:=by rfl):Ua X tg (.Call (.Name "range" p) [a] [] pos) (xV ma):=by
 obtain ⟨ta,pa,sa⟩:=ha;refine ⟨_,Zt hg hm pa hs,?_⟩;intro B F H σ env R RS nb ok ex;unfold xV at nb ok ex
 split at nb
 ·rename_i j hj
  split at nb
  ·rename_i hb
   rw [hj] at ok;dsimp only at ok;rw [if_pos hb] at ok;exact sa.run RS [j] hj λF' H' R'=>⟨j,rfl,hb.1,hb.2,ok _ _ rfl _ F' H' R' tU⟩
  ·exact absurd rfl nb
 ·exact absurd rfl nb
abbrev MG:=T->En->Option En
def YM (X:Cx)(g:TG)(tg:MG):Prop := ∀ (B:Bs) (F:Addr->Prop) (H:Hp) (σ:St) (env env':En) (v:V) (t:T) (Q:St->Hp->Prop),zQ X.K B F H σ env->Is X.K F H t v->tg t env=some env'->(∀ σ',zQ X.K B F H σ' env'->Q σ' H)->g v σ H Q
def WZ (X:Cx)(e:Expr)(tg:MG):Prop := ∃ g,PG X e g/\YM X g tg
def gN (i:Nat):MG:=λt env=>some (env.set i (some (false,t)))
def V0 (hN:X.N.Nodup)(hi:X.N[i]? = some x)(hx:cP X.env.scope x)(hf:X.fn x=true\/X.env.scope.names.lookup x=some .local:=by first | exact .inl rfl | exact .inr rfl | assumption):WZ X (.Name x pos) (gN i):=by
 refine ⟨_,gP hN hi hx hf,?_⟩;intro B F H σ env env' v t Q R iv e q;cases e;exact q _ (R.put i (jo iv) (λa q=>zH R.fr q) λa z=>(R.own_not z).2.1)
def xD (tg:MG)(mb:MS):List T->MS
 | [],env=>.nx env
 | t :: ts,env=>match tg t env with
  | none=>.bad
  | some e1=>match mb e1 with
   | .nx e2=>xD tg mb ts e2
   | .ct e2=>xD tg mb ts e2
   | .bk e2=>.nx e2
   | o=>o
def v6 (it:MI)(tg:MG)(mb:MS):MS:=λenv=>match it env with
 | .ok (ts,env')=>xD tg mb ts env'
 | .exc x=>.exc x env
 | .bad=>.bad
def Bs.at_ (B:Bs)(F:Addr->Prop)(H:Hp):Bs:=⟨λa=>¬ F a/\((∃ xs,H a=some (.lst xs))\/(∃ xs,H a=some (.dK xs))\/∃ C d xs,H a=some (.ins C d xs))/\(B.H a=none\/B.M a),H,F⟩
section
variable {K:W.Frag}{B:Bs}{F F1:Addr->Prop}{H H1:Hp}{σ:St}{env:En}{v:V}{r:RV}
theorem zQ.rebase (R:zQ K B F H σ env):zQ K (B.at_ F H) F H σ env :=
 ⟨⟨R.fr.dom,λ_ h=>h,λ_ h=>.inl h,λ_ _ h _=>h,λa f m=>m.1 f⟩,R.len,R.vals,λi t e=>by
  obtain ⟨a,s,nf,fr,w⟩:=R.owns i t e;refine ⟨a,s,nf,.inr ⟨nf,?_,fr⟩,w⟩
  cases t with
  | lst ts=>obtain ⟨vs,q,_⟩:=w;exact .inl ⟨vs,q⟩
  | dct ks ts=>obtain ⟨vs,q,_⟩:=w;exact .inr (.inl ⟨vs,q⟩)
  | obj C fs ts=>obtain ⟨dx,vs,q,_⟩:=w;exact .inr (.inr ⟨_,dx,vs,q⟩)
  | _=>exact w.elim,R.sep⟩
theorem fe.unbase (f1:fe B F1 H1)(f:fe (B.at_ F1 H1) F H):fe B F H:=by
 refine ⟨f.dom,λa h=>f.sub a (f1.sub a h),λa h => ?_,λa o h hm=>f.keep a o (f1.keep a o h hm) λz => ?_,f1.f0⟩
 ·rcases f.new a h with h | h | h
  ·exact f1.new a h
  ·exact .inr (zH f1 h)
  ·exact .inr h.2.2
 ·rcases z.2.2 with z | z
  ·rw [h] at z;cases z
  ·exact hm z
theorem mX (f1:fe B F1 H1)(h:(B.at_ F1 H1).H a=none\/(B.at_ F1 H1).M a):B.H a=none\/B.M a:=by
 rcases h with h | h
 ·exact zH f1 h
 ·exact h.2.2
theorem zQ.unbase (f1:fe B F1 H1)(R:zQ K (B.at_ F1 H1) F H σ env):zQ K B F H σ env :=
 ⟨f1.unbase R.fr,R.len,R.vals,λi t e=>let ⟨a,s,nf,fr,w⟩:=R.owns i t e;⟨a,s,nf,mX f1 fr,w⟩,R.sep⟩
theorem bw.unbase (f1:fe B F1 H1)(R:bw K (B.at_ F1 H1) F H v r):bw K B F H v r:=by
 refine ⟨f1.unbase R.fr,?_⟩;have i:=R.val;unfold wu at i ⊢
 split
 ·rename_i ho
  rw [if_pos ho] at i;obtain ⟨a,e,nf,fr,o⟩:=i;exact ⟨a,e,nf,mX f1 fr,o⟩
 ·rename_i ho
  rw [if_neg ho] at i;exact i
theorem fe.kept (f:fe (B.at_ F1 H1) F H):k9 F1 F H1 H :=
 ⟨f.sub,λa o h e=>f.keep a o e λz=>z.1 h,λa o e h1 h2=>f.keep a o e λz=>by
  rcases z.2.1 with ⟨xs,q⟩ | ⟨xs,q⟩ | ⟨C,d,xs,q⟩
  ·rw [e] at q;exact h1 xs (Option.some.inj q)
  ·rw [e] at q;exact h2.1 xs (Option.some.inj q)
  ·rw [e] at q;exact h2.2 C d xs (Option.some.inj q)⟩
end
def pQ (hp:PassesOwn (model X.prog X.w) X.A X.env X.xe)(hc:X.calm=true)(hi:Ua X tg iter it)(hg:WZ X tg g)(hb:uD X body mb)
  (hs:∀ x,foldedSetIterable iter X.env x=pure x:=by intro _;rfl):mR X (.For tg iter body [] pos) (v6 it g mb):=by
 obtain ⟨wi,pi,si⟩:=hi;obtain ⟨tg',pg,sg⟩:=hg;obtain ⟨tb,pb,sb⟩:=hb;refine ⟨_,aZ hp hc pi pg pb hs,?_⟩;intro B F H σ env D R w;unfold v6 at w;refine si B F H σ env _ R (λz=>by rw [z] at w;exact w) (λts env' e J F1 H1 R1 Y => ?_) λx e ev F' H' R' i pins s' I=>by rw [e] at w;exact w ev F' H' σ R' i pins s' I
 rw [e] at w;dsimp only at w;have f1:=R1.fr;refine ⟨λi m σ H=>m=ts.length - i/\i<=ts.length/\∃ F env,zQ X.K (B.at_ F1 H1) F H σ env/\gj X B D (xD g mb (ts.drop i) env),⟨ts.length,by simp,Nat.zero_le _,F1,env',R1.rebase,by simpa using w⟩,?_⟩;rintro i m σ2 H2 ⟨rfl,hi,F2,env2,R2,w2⟩;obtain ⟨yg,ys⟩:=Y F2 H2 R2.fr.kept i
 by_cases hlt:i < ts.length
 ·obtain ⟨go,yl⟩:=yg hlt
  refine .inr ⟨go,λσ' H'=>∃ F env,zQ X.K (B.at_ F1 H1) F H' σ' env/\gj X B D (xD g mb (ts.drop (i + 1)) env),λσ' H' ⟨F',e',R',w'⟩=>⟨ts.length - (i + 1),by omega,rfl,hlt,F',e',R',w'⟩,λx H3 y => ?_⟩;obtain ⟨rfl,t,ht,it⟩:=yl x H3 y
  have hd:ts.drop i=t :: ts.drop (i + 1):=by
   rw [List.drop_eq_getElem_cons hlt];have:ts[i]? = some ts[i]:=by simp [hlt]
   rw [this] at ht;cases ht
   rfl
  rw [hd] at w2
  have w2:gj X B D (match g t env2 with
   | none=>.bad
   | some e1=>match mb e1 with
    | .nx e2=>xD g mb (ts.drop (i + 1)) e2
    | .ct e2=>xD g mb (ts.drop (i + 1)) e2
    | .bk e2=>.nx e2
    | o=>o):=w2
  cases hg:g t env2 with
  | none=>rw [hg] at w2;exact w2.elim
  | some e1 =>
   rw [hg] at w2;dsimp only at w2;refine sg _ F2 H3 σ2 env2 e1 x t _ R2 it hg λσ3 R3 => ?_;refine sb _ F2 H3 σ3 e1 _ R3 ?_
   cases ho:mb e1 with
   | nx e2=>rw [ho] at w2;exact λF4 H4 σ4 R4=>⟨F4,e2,R4,w2⟩
   | ct e2=>rw [ho] at w2;exact λF4 H4 σ4 R4=>⟨F4,e2,R4,w2⟩
   | bk e2=>rw [ho] at w2;exact λF4 H4 σ4 R4=>w2 F4 H4 σ4 (R4.unbase f1)
   | rt r=>rw [ho] at w2;exact λv F4 H4 R4=>w2 v F4 H4 (R4.unbase f1)
   | exc x e2=>rw [ho] at w2;exact λev F4 H4 σ4 R4=>w2 ev F4 H4 σ4 (R4.unbase f1)
   | bad=>rw [ho] at w2;exact w2.elim
 ·have hl:i=ts.length:=by omega
  subst hl;rw [List.drop_length] at w2;exact .inl ⟨ys (Nat.le_refl _),w2 F2 H2 σ2 (R2.unbase f1)⟩
def ut (P:Program)(w:World):Wz:=λouter H s E e s'=>∃ H' oa,s'.os=s.os/\AllBare s'.gens/\Un (r0 outer) [] H H' s.heap s'.heap/\gd P w H' s'.heap/\E e oa H'
def nW (F:vg X.prog X.w X.K X.mg X.base (ut X.prog X.w) k f fd ps sp)(hr:jD k X.A)(hb:kf X.K fd ps [])
  (I:zk X pins σ H s) (r:zJ vs us) (h:sp vs H Q E) (hx:∀ e oa H',E e oa H'->∀ s',zk X pins σ H' s'->X.xe e s'):wpAny (model X.prog X.w) X.A (call (.ref f) us) (EP X pins σ Q) X.xe s:=by
 have hl:us.length=ps.length:=by rw [<- r.length];exact F.len _ _ _ _ h
 refine wpAny_call (codeAny_mono (F.run X.A X.stack s H ⟨us,[]⟩ us vs Q E hr I.env0 (by have:=hb s us I.kIn (by simpa using hl);simpa using this) r h) λr s' hq => ?_)
 cases r with
 | error e =>
  obtain ⟨H',oa,ho,hg,hu,hok,he⟩:=hq;exact hx e oa H' he s' (I.call' ho hu hok hg λb z=>absurd z (by simp))
 | ok fl =>
  cases fl with
  | ret u=>exact I.after hq
  | next=>exact False.elim hq
  | brk=>exact False.elim hq
  | cont=>exact False.elim hq
def tW (X:Cx)(sp:Sp)(t:TA):TE:=λσ H Q=>t σ H λvs H1=>∃ E,sp vs H1 Q E/\∀ e oa H',E e oa H'->∀ pins s',zk X pins σ H' s'->X.xe e s'
def bB (F:vg X.prog X.w X.K X.mg X.base (ut X.prog X.w) k f fd ps sp)(hr:jD k X.A)(hg:Gl X x)(hm:X.mg x=some (.ref f))(hk:W.keepIn X.K (.ref f)=true)(hb:kf X.K fd ps [])
  (ha:PA X (e :: es) t) (hdb:(x == ("__debug__" : Str))=false:=by decide) (he:starEach (e :: es) X.env=(false,eval e X.env) :: starEach es X.env:=by rfl) (hpl:(backTo pos (starEach es X.env)).any (·.1)=false:=by rfl) :
  PE X (.Call (.Name x p) (e :: es) [] pos) (tW X sp t):=by
 intro pins s σ H Q I h;refine wpAny_Call_Name_kw (dq I hg hm ?_ hdb);refine W.callWith_K I.ok.mod.kin hk (jx (ha pos pins s σ H _ I h) λus s1 ⟨vs,H1,I1,r,E,q,hx⟩=>⟨I1.kIn,?_⟩) he hpl;exact nW F hr hb I1 r q λe oa H' z s' I'=>hx e oa H' z pins s' I'
abbrev MF:=List RV->kg RV
def mY (vs:List V)(rs:List RV)(a:Addr):Prop := ∃ (i:Nat) (r:RV),rs[i]? = some r/\r.1=true/\vs[i]? = some (V.ref a)
def ff (K:W.Frag)(f:MF):Sp:=λvs H Q E=>∃ F rs,iD F H/\xl K (λ_=>True) F H vs rs/\f rs≠.bad /\
 (∀ r,f rs=.ok r->∀ v F' H',bw K ⟨mY vs rs,H,F⟩ F' H' v r->Q v H')/\(∀ x,f rs=.exc x->∀ ev F' H',fe ⟨mY vs rs,H,F⟩ F' H'->Wf K F' H' ev x->E ev none H')
def jV (P:Program)(w:World)(K:W.Frag)(mg:Str->Option Value)(base:Heap)(k:Nat)(x:Str)(ps:List Str)(f:MF):Prop :=
 ∃ fa fd,vg P w K mg base (ut P w) k fa fd ps (ff K f)/\mg x=some (.ref fa)/\W.keepIn K (.ref fa)=true/\kf K fd ps []
def za (f:MF)(ma:MA):ME:=λenv=>(ma env).bind f
def xl.at {K:W.Frag}{fr F:Addr->Prop}{H:Hp} : ∀ {vs:List V} {rs:List RV} {i:Nat} {r:RV},xl K fr F H vs rs->rs[i]? = some r->∃ v,vs[i]? = some v/\wu K fr F H v r
 | [],[],i,r,_,h=>by simp at h
 | [],_ :: _,_,_,h,_=>h.elim
 | _ :: _,[],_,_,h,_=>h.elim
 | v :: vs,q :: rs,i,r,h,e=>by
  cases i with
  | zero=>simp at e;subst e;exact ⟨v,by simp,h.1⟩
  | succ i =>
   obtain ⟨w,hw,q⟩:=xl.at h.2.1 (by simpa using e);exact ⟨w,by simpa using hw,q⟩
def xl.any {K:W.Frag}{fr fr' F:Addr->Prop}{H:Hp}(hf:∀ a,fr a->fr' a):∀ {vs:List V} {rs:List RV},xl K fr F H vs rs->xl K fr' F H vs rs
 | [],[],_=>trivial
 | [],_ :: _,h=>h.elim
 | _ :: _,[],h=>h.elim
 | v :: vs,r :: rs,h=>by
  refine ⟨?_,xl.any hf h.2.1,h.2.2⟩;have i:=h.1;unfold wu at i ⊢
  split
  ·rename_i ho
   rw [if_pos ho] at i;obtain ⟨a,e,nf,f,o⟩:=i;exact ⟨a,e,nf,hf a f,o⟩
  ·rename_i ho
   rw [if_neg ho] at i;exact i
def xA {K:W.Frag}{fr F:Addr->Prop}{H:Hp}{vs:List V}{rs:List RV}{a:Addr}(h:xl K fr F H vs rs)(o:mY vs rs a):¬ F a/\fr a/\H a≠none:=by
 obtain ⟨i,r,e,ho,hv⟩:=o;obtain ⟨v,hv',ir⟩:=h.at e;rw [hv] at hv';cases hv';obtain ⟨b,eb,nf,f,th,_⟩:=ir.there ho;cases eb;exact ⟨nf,f,th⟩
def ZN (sa:tS X t ma):xx X (tW X (ff X.K f) t) (za f ma):=by
 intro F H σ env Q R nb ok ex;unfold za at nb ok ex;refine sa F H σ env _ R (λz=>by rw [z] at nb;exact nb rfl) (λrs e1 vs F1 H1 x1 i1 => ?_) λx z=>ex x (by rw [z];rfl);rw [e1,bind_ok] at nb ok ex
 -- from the callee's frame to ours
 have toExt:∀ {F':Addr->Prop} {H':Hp},fe ⟨mY vs rs,H1,F1⟩ F' H'->jE F H F' H':=by
  intro F' H' fr;refine ⟨λa o h=>fr.keep a o (x1.same a o h) λz => ?_,λa h=>fr.sub a (x1.sub a h),λa h => ?_,fr.dom⟩
  ·rw [(xA i1 z).2.1] at h;cases h
  ·rcases fr.new a h with h | h | h
   ·exact x1.new a h
   ·exact .inr (j6 x1.same h)
   ·exact .inr (xA i1 h).2.1
 refine ⟨λev oa H'=>oa=none/\∃ F' x,f rs=.exc x/\jE F H F' H'/\Wf X.K F' H' ev x,⟨F1,rs,x1.dom,i1.any λ_ _=>trivial,nb,λr er v F' H' rr => ?_,λx ex' ev F' H' fr ix=>⟨rfl,F',x,ex',toExt fr,ix⟩⟩,λev oa H' ⟨_,F',x,e',xt,ix⟩ pins s' I=>ex x e' ev F' H' xt ix pins s' I⟩;refine ok r er v F' H' (toExt rr.fr) ?_;have i:=rr.val;unfold wu at i ⊢
 split
 ·rename_i ho
  rw [if_pos ho] at i;obtain ⟨a,e,nf,fr,o⟩:=i;refine ⟨a,e,nf,?_,o⟩
  rcases fr with fr | fr
  ·exact j6 x1.same fr
  ·exact (xA i1 fr).2.1
 ·rename_i ho
  rw [if_neg ho] at i;exact i
def zm (C:jV X.prog X.w X.K X.mg X.base k x ps f)(hr:jD k X.A)(hg:Gl X x)(ha:YE X (e :: es) ma)(hdb:(x == ("__debug__" : Str))=false:=by decide)
  (he:starEach (e :: es) X.env=(false,eval e X.env) :: starEach es X.env:=by rfl) (hpl:(backTo pos (starEach es X.env)).any (·.1)=false:=by rfl) :
  ju X (.Call (.Name x p) (e :: es) [] pos) (za f ma):=by
 obtain ⟨fa,fd,F,hm,hk,hb⟩:=C;obtain ⟨ta,pa,sa⟩:=ha;exact ⟨_,bB F hr hg hm hk hb pa hdb he hpl,ZN sa⟩
def we (n:Nat)(rs:List RV):En:=rs.map some ++ List.replicate (n - rs.length) none
def rR:YL->kg RV
 | .nx _=>.ok (false,.non)
 | .rt r=>.ok r
 | .exc x _=>.exc x
 | _=>.bad
def zy (n k:Nat)(mb:MS):MF:=λrs=>if rs.length=k then rR (mb (we n rs)) else .bad
def ZO {K:W.Frag}{F:Addr->Prop}{H:Hp}{N:List Str}{vs:List V}{rs:List RV}(d:iD F H)(h:xl K (λ_=>True) F H vs rs):zQ K ⟨mY vs rs,H,F⟩ F H (start N vs) (we N.length rs):=by
 have hl:=h.len
 have he:∀ {i:Nat} {r:RV},(we N.length rs)[i]? = some (some r)->rs[i]? = some r:=by
  intro i r e;unfold we at e
  by_cases hi:i < rs.length
  ·rw [List.getElem?_append_left (by simpa using hi),List.getElem?_map] at e
   cases q:rs[i]? with
   | none=>rw [q] at e;cases e
   | some r'=>rw [q] at e;cases e;rfl
  ·rw [List.getElem?_append_right (by simpa using hi),List.getElem?_replicate] at e
   split at e<;>cases e
 have hs:∀ {i:Nat} {v:V},vs[i]? = some v->(start N vs)[i]? = some (some v):=by
  intro i v e;unfold L2.start;have hi:i < vs.length:=(List.getElem?_eq_some_iff.mp e).1;rw [List.getElem?_append_left (by simpa using hi),List.getElem?_map,e]
  rfl
 have sepG:∀ {vs:List V} {rs:List RV},xl K (λ_=>True) F H vs rs->∀ (i j:Nat) (r r':RV) (v:V),rs[i]? = some r->rs[j]? = some r'->r.1=true->r'.1=true->vs[i]? = some v->vs[j]? = some v->i=j:=by
  intro vs
  induction vs with
  | nil=>intro rs h i j r r' v _ _ _ _ e;simp at e
  | cons w vs ih =>
   intro rs h i j r r' v e1 e2 o1 o2 s1 s2
   cases rs with
   | nil=>exact h.elim
   | cons q rs =>
    cases i with
    | zero =>
     cases j with
     | zero=>rfl
     | succ j =>
      simp at e1 s1;subst e1 s1;exact absurd (by simpa using s2) (h.2.2 o1 j r' (by simpa using e2) o2)
    | succ i =>
     cases j with
     | zero =>
      simp at e2 s2;subst e2 s2;exact absurd (by simpa using s1) (h.2.2 o2 i r (by simpa using e1) o1)
     | succ j=>rw [ih h.2.1 i j r r' v (by simpa using e1) (by simpa using e2) o1 o2 (by simpa using s1) (by simpa using s2)]
 refine ⟨⟨d,λ_ h=>h,λ_ h=>.inl h,λ_ _ h _=>h,λa f m=>(xA h m).1 f⟩,?_,λi t e => ?_,λi t e => ?_,λi j t t' a e1 e2 s1 s2 => ?_⟩
 ·unfold L2.start we
  simp [hl]
 ·obtain ⟨v,hv,ir⟩:=h.at (he e)
  exact ⟨v,hs hv,ir.is⟩
 ·obtain ⟨v,hv,ir⟩:=h.at (he e)
  obtain ⟨a,rfl,nf,_,_,w⟩:=ir.there rfl;exact ⟨a,hs hv,nf,.inr ⟨i,_,he e,rfl,hv⟩,w⟩
 ·obtain ⟨v,hv,ir⟩:=h.at (he e1)
  obtain ⟨v',hv',ir'⟩:=h.at (he e2);rw [hs hv] at s1;rw [hs hv'] at s2;have s1:v=.ref a:=by injection s1 with s1;injection s1
  have s2:v'=.ref a:=by injection s2 with s2;injection s2
  subst s1;subst s2;exact sepG h i j _ _ _ (he e1) (he e2) rfl rfl hv hv'
section
variable {P:Program}{w:World}{K:W.Frag}{mg:Str->Option Value}{base:Heap}
theorem YN {N:List Str}{x:Str}{sc:Scope}{f:Addr}{cdv:Value}{A:Around}{outer:List Env}{s:Shared}{H:Hp}{vs:List V}{Q:VK}{E:XK}{body:List Stmt}{mb:MS}{n:Nat}(h:ff K (zy N.length n mb) vs H Q E)
  (hb:uD (pG (ut P w) P w K mg base N x sc f cdv A outer s H E) body mb):∃ t,cX (pG (ut P w) P w K mg base N x sc f cdv A outer s H E) body t/\t { nx:=λ_ H'=>Q .non H',rt:=Q } (start N vs) H:=by
 obtain ⟨F,rs,d,ir,nb,ok,ex⟩:=h;obtain ⟨t,p,sm⟩:=hb;refine ⟨t,p,?_⟩;unfold zy at nb ok ex
 by_cases hl:rs.length=n
 ·rw [if_pos hl] at nb ok ex
  refine sm _ F H (start N vs) (we N.length rs) _ (ZO d ir) ?_
  cases ho:mb (we N.length rs) with
  | nx env=>rw [ho] at ok;exact λF' H' σ R=>ok _ rfl .non F' H' ⟨R.fr,jo Yr⟩
  | rt r=>rw [ho] at ok;exact λv F' H' R=>ok _ rfl v F' H' R
  | bk env=>rw [ho] at nb;exact absurd rfl nb
  | ct env=>rw [ho] at nb;exact absurd rfl nb
  | exc x env=>exact λev F' H' σ R ix=>ix.elim
  | bad=>rw [ho] at nb;exact absurd rfl nb
 ·rw [if_neg hl] at nb
  exact absurd rfl nb
theorem Qv (h:ff K (zy n m mb) vs H Q E):vs.length=m:=by
 obtain ⟨F,rs,d,ir,nb,_⟩:=h;unfold zy at nb
 by_cases hl:rs.length=m
 ·rw [<- hl];exact ir.len
 ·rw [if_neg hl] at nb
  exact absurd rfl nb
theorem zN.ok3 {x:Str}{st:Stmt}{N ps:List Str}{k:Nat}{mb:MS}(F:zN K mg x st)(S:z7 N ps (z6 st))
  (hb:∀ (kV doc pm:Value) (an:Option Addr) (cdv ct:Value) (us:List Value),us.length=ps.length->bindArgs (W.fnOf x x (jK st) (j8 st) (z6 st) .none kV doc pm an cdv ct) ⟨us,[]⟩=pure (ps.zip us))
  (hbody:∀ (f:Addr) (cdv:Value) (A:Around) (outer:List Env) (s:Shared) (H:Hp) (E:XK),jD k (A.deeper (envOfC x (z6 st) s.heap.objs.size f cdv)) ->
   uD (pG (ut P w) P w K mg base N x (z6 st) f cdv A outer s H E) (j8 st) mb):jV P w K mg base (k + 1) x ps (zy N.length ps.length mb):=by
 obtain ⟨f,fd,F,e⟩:=F;refine ⟨f,fd,?_,e,F.kp,F.binds hb⟩;obtain ⟨oc,od,kV,doc,pm,an,cdv,ct,osl,rfl,lk,hcd⟩:=F.ex;exact el lk hcd S (λvs H Q E h=>Qv h) λA outer s H vs Q E hr hsp=>YN hsp (hbody f cdv A outer s H E hr)
end
def iI {K:W.Frag}{F:Addr->Prop}{H:Hp}{t:T}{vs:List V}(h:IsAll K F H [t] vs):∃ v,vs=[v]/\Is K F H t v:=by
 unfold IsAll at h;obtain ⟨v,r,rfl,h1,h2⟩:=h;unfold IsAll at h2;subst h2;exact ⟨v,rfl,h1⟩
def UX {K:W.Frag}{F:Addr->Prop}{H:Hp}{t u:T}{vs:List V}(h:IsAll K F H [t,u] vs):∃ v w,vs=[v,w]/\Is K F H t v/\Is K F H u w:=by
 unfold IsAll at h;obtain ⟨v,r,rfl,h1,h2⟩:=h;obtain ⟨w,rfl,h3⟩:=iI h2;exact ⟨v,w,rfl,h1,h3⟩
def vY:List T->Option RV
 | [.lst ts]=>some (false,.int ts.length)
 | [.tup ts]=>some (false,.int ts.length)
 | [.str z]=>if z.length<=sizeLine then some (false,.int z.length) else none
 | _=>none
def Nw:List T->Option RV
 | [.lst ts]=>some (true,.lst ts)
 | [.tup ts]=>some (true,.lst ts)
 | _=>none
def kH:List T->Option RV
 | [.lst ts]=>some (false,.tup ts)
 | [.tup ts]=>some (false,.tup ts)
 | _=>none
def bC:List T->Option RV
 | [.int i]=>if i.natAbs.log2 < 1920 then some (false,.str (toString i)) else none
 | _=>none
def bD:T->Option String
 | .non=>some "NoneType"
 | .bl _=>some "bool"
 | .int _=>some "int"
 | .str _=>some "str"
 | .tup _=>some "tuple"
 | .lst _=>some "list"
 | _=>none
def allB:List T->Option (List Bool)
 | []=>some []
 | .bl b :: ts=>(allB ts).map (b :: ·)
 | _=>none
def dN:List T->Option RV
 | [.lst ts]=>(allB ts).map λbs=>(false,.bl (bs.all id))
 | _=>none
def gm:ke X (.builtin "len") (WR X.K vY):=by
 intro pins s σ H xs us Q I r h;obtain ⟨F,ts,rv,d,ia,e,q⟩:=h
 match ts,e with
 | [.lst ts],e =>
  cases e;obtain ⟨v,rfl,i⟩:=iI ia;unfold Is at i;obtain ⟨a,vs,rfl,g1,g2⟩:=i;exact pH pins s σ H _ us Q I r ⟨a,vs,rfl,.inl g1.sq,by rw [<- g2.len];exact jQ d xg q rfl⟩
 | [.tup ts],e =>
  cases e;obtain ⟨v,rfl,i⟩:=iI ia;unfold Is at i;obtain ⟨a,vs,rfl,g1,g2⟩:=i;exact pH pins s σ H _ us Q I r ⟨a,vs,rfl,.inr g1,by rw [<- g2.len];exact jQ d xg q rfl⟩
 | [.str z],e =>
  obtain ⟨v,rfl,i⟩:=iI ia;unfold Is at i;subst i;simp only [vY] at e
  split at e<;>cases e
  rename_i hl;exact dy pins s σ H _ us Q I r ⟨z,rfl,hl,jQ d xg q rfl⟩
def pR:ke X (.type "tuple") (WR X.K kH):=by
 intro pins s σ H xs us Q I r h;obtain ⟨F,ts,rv,d,ia,e,q⟩:=h
 match ts,e with
 | [.lst ts],e =>
  cases e;obtain ⟨v,rfl,i⟩:=iI ia;unfold Is at i;obtain ⟨a,vs,rfl,g1,g2⟩:=i;exact gZ pins s σ H _ us Q I r ⟨a,vs,rfl,.inl ⟨g1.sq,λl hl=>WT d g2 hl q⟩⟩
 | [.tup ts],e =>
  cases e;obtain ⟨v,rfl,i⟩:=iI ia;have i':=i;unfold Is at i;obtain ⟨a,vs,rfl,g1,g2⟩:=i;exact gZ pins s σ H _ us Q I r ⟨a,vs,rfl,.inr ⟨g1,jQ d i' q rfl⟩⟩
def YO:ke X (.type "str") (WR X.K bC):=by
 intro pins s σ H xs us Q I r h;obtain ⟨F,ts,rv,d,ia,e,q⟩:=h
 match ts,e with
 | [.int i],e =>
  obtain ⟨v,rfl,g⟩:=iI ia;unfold Is at g;subst g;simp only [bC] at e
  split at e<;>cases e
  rename_i hl;exact dt pins s σ H _ us Q I r ⟨i,rfl,hl,jQ d vX q rfl⟩
def bE {K:W.Frag}{F:Addr->Prop}{H:Hp} : ∀ {ts:List T} {bs:List Bool} {vs:List V} {us:List Value},allB ts=some bs->IsAll K F H ts vs->zJ vs us->us=bs.map Value.bool
 | [],bs,vs,us,h,i,r=>by
  unfold IsAll at i;subst i;cases r;simp [allB] at h;subst h
  rfl
 | t :: ts,bs,vs,us,h,i,r=>by
  unfold IsAll at i;obtain ⟨v,w,rfl,i1,i2⟩:=i
  cases r with
  | cons r1 r2 =>
  cases t<;>simp only [allB,reduceCtorEq,Option.map_eq_some_iff] at h
  case bl b =>
   obtain ⟨bs',h,rfl⟩:=h;unfold Is at i1;subst i1;cases r1;rw [bE h i2 r2]
   rfl
def rS:∀ (bs:List Bool),((List.range bs.length).all λi=>(bs[i]?).getD true)=bs.all id
 | []=>rfl
 | b :: bs=>by
  rw [List.length_cons,List.range_succ_eq_map,List.all_cons,List.all_map,List.all_cons];have:=rS bs;simp only [List.getElem?_cons_zero,Option.getD_some,id]
  congr 1
def tX (hc:X.calm=true):ke X (.builtin "all") (WR X.K dN):=by
 intro pins s σ H xs us Q I r h;obtain ⟨F,ts,rv,d,ia,e,q⟩:=h
 match ts,e with
 | [.lst ts],e =>
  simp only [dN,Option.map_eq_some_iff] at e;obtain ⟨bs,eb,rfl⟩:=e;obtain ⟨v,rfl,i⟩:=iI ia;obtain ⟨u,rfl,ru⟩:=mq r;unfold Is at i;obtain ⟨a,vs,rfl,g1,g2⟩:=i;cases ru;obtain ⟨its,r',pl,hz⟩:=I.list g1.sq;have hb:=bE eb g2 r';have hl:=pl.isList;have hlt:a < s.heap.objs.size:=by obtain ⟨_,e,_⟩:=hl;exact Heap.lt_size e
  refine call_all_walk (wpAny_pyIter_list hl ?_)
  refine ⟨s.heap.objs.size,[s.heap.objs.size,a],[s.heap.objs.size],its.toArray.size,_,_,λi=>(bs[i]?).getD true,rfl,Walks.list (A:=X.A.in1) (I.ok.hd hc) _ a (Nat.ne_of_lt hlt) its.toArray,
   ⟨⟨_,Heap.get?_push_size _ rfl,rfl,rfl⟩,hl.push _⟩,λi v s' Q' E' hP hQ => ?_,λh' tk hk => ?_⟩
  ·have hv:its[i]? = some v:=by simpa using hP
   rw [hb,List.getElem?_map] at hv
   cases hbi:bs[i]? with
   | none=>rw [hbi] at hv;cases hv
   | some b =>
    rw [hbi] at hv;cases hv;simp only [hbi,Option.getD_some] at hQ;exact wpAny_truthy_bool hQ
  ·have e2:((List.range its.toArray.size).all λi=>(bs[i]?).getD true)=bs.all id:=by
    have:its.toArray.size=bs.length:=by rw [hb];simp
    rw [this];exact rS bs
   rw [e2];exact ⟨.bl (bs.all id),H,I.kept (LSm.kept_iter hk),rfl,jQ d xH q rfl⟩
abbrev JG:=En->kg (List T)
def K7 (X:Cx)(wi:TI)(it:JG):Prop :=
 ∀ (F:Addr->Prop) (H:Hp) (σ:St) (env:En) (R:It->Hp->Prop),v5 X.K F H σ env->it env≠.bad ->
  (∀ ts,it env=.ok ts->∀ J F' H',jE F H F' H'->uE X.K F' H' J ts->R J H')->(∀ x,it env=.exc x->ZL X F H σ x)->wi σ H R
def V1 (X:Cx)(tg iter:Expr)(it:JG):Prop := ∃ wi,PI X tg iter wi/\K7 X wi it
def xQ (m:ME):JG:=λenv=>(m env).bind λr=>ZK (qA r.2)
def tY {K:W.Frag}{F:Addr->Prop}{H:Hp}{a:Addr}{vs:List V}{ts:List T}(g1:Yn K F H a vs)(g2:IsAll K F H ts vs):uE K F H (Uv K a) ts:=by
 intro F2 H2 k i;have h1:=(g1.mono k).sq;have h2:=g2.mono k;have hl:=h2.len;refine ⟨λhi=>⟨⟨vs,vs[i],h1,by simp [<- hl,hi]⟩,λx H3 y=>⟨y.1,?_⟩⟩,λhi=>⟨vs,h1,by omega⟩⟩;have hx:=y.2 vs h1;obtain ⟨v,hv,iv⟩:=h2.get (i:=i) (t:=ts[i]) (by simp [hi]);rw [hx] at hv;cases hv;exact ⟨ts[i],by simp [hi],iv⟩
def pS (h:ju X e m):V1 X tg e (xQ m):=by
 obtain ⟨tl,pl,sl⟩:=h;refine ⟨_,tT pl,?_⟩;intro F H σ env R RE nb ok ex;unfold xQ at nb ok ex
 cases hr:m env with
 | bad=>rw [hr] at nb;exact absurd rfl nb
 | exc x =>
  rw [hr] at ex;exact .inl (sl.val RE (by rw [hr];intro z;cases z) (λr er=>by rw [hr] at er;cases er) λx' z=>by rw [hr] at z;cases z;exact ex x rfl)
 | ok r =>
  rw [hr,bind_ok] at nb ok;have nb':m env≠.bad:=by rw [hr];intro z;cases z
  have noex:∀ x,m env=.exc x->ZL X F H σ x:=λx z=>by rw [hr] at z;cases z
  obtain ⟨o,t⟩:=r;dsimp only at nb ok;cases t<;>simp only [qA,ofO_none,ofO_some] at nb ok<;>try (exact absurd rfl nb)
  case lst us =>
   refine .inl (sl.val RE nb' (λr er v F1 H1 x1 i1 => ?_) noex);rw [hr] at er;cases er;unfold Is at i1;obtain ⟨a,vs,rfl,g1,g2⟩:=i1;exact ⟨a,rfl,⟨vs,g1.sq⟩,ok _ rfl _ F1 H1 x1 (tY g1 g2)⟩
  case tup us =>
   refine .inr (.inl (sl.val RE nb' (λr er v F1 H1 x1 i1 => ?_) noex));rw [hr] at er;cases er;unfold Is at i1;obtain ⟨a,vs,rfl,g1,g2⟩:=i1;exact ⟨a,rfl,⟨vs,g1⟩,ok _ rfl _ F1 H1 x1 (fO g1 g2)⟩
  case str z =>
   refine .inr (.inr (sl.val RE nb' (λr er v F1 H1 x1 i1 => ?_) noex));rw [hr] at er;cases er;unfold Is at i1;exact ⟨z,i1,ok _ rfl _ F1 H1 x1 fQ⟩
def qB (env:En)(slots:List Nat):En:=slots.map λk=>(env[k]?).getD none
def wy (mt:MT)(me:ME)(caps:En):List T->kg (List T)
 | []=>.ok []
 | t :: ts=>match mt (some (false,t) :: caps) with
  | .ok true=>(match me (some (false,t) :: caps) with
   | .ok r=>(match wy mt me caps ts with
    | .ok rs=>.ok (r.2 :: rs)
    | _=>.bad)
   | _=>.bad)
  | .ok false=>wy mt me caps ts
  | _=>.bad
def jf (it:JG)(mt:MT)(me:ME)(slots:List Nat):ME:=λenv=>(it env).bind λts=>if ts.length<=sizeLine then (match wy mt me (qB env slots) ts with
 | .ok rs=>.ok (true,.lst rs)
 | _=>.bad) else .bad
def jt:MT:=λ_=>.ok true
def bF (X:Cx)(ifs:List Expr)(m:MT):Prop := ∃ t,JE X ifs t/\vh X t m
def vo:bF X [] jt:=⟨_,Ym,λF H σ env Q R nb ok ex=>ok true rfl F H (.refl R.dom)⟩
def rV (h:tN X c m):bF X [c] m:=let ⟨t,p,s⟩:=h;⟨t,WL p,s⟩
section
variable {X:Cx}{scope:Scope}{cl:List (Str×Addr)}{x:Str}{caps:List Str}{slots:List Nat}{iter elt:Expr}{ifs:List Expr}{px pos:Pos}{it:JG}{mt:MT}{me:ME}
def UY (X:Cx)(scope:Scope)(cl:List (Str×Addr))(x:Str)(caps:List Str)(ifs:List Expr)(m:MT):Prop := ∃ t,∀ C ex pn s₀ H₀,JE (zi X scope cl C (x :: caps) ex pn s₀ H₀) ifs t/\vh (zi X scope cl C (x :: caps) ex pn s₀ H₀) t m
def NX (X:Cx)(scope:Scope)(cl:List (Str×Addr))(x:Str)(caps:List Str)(e:Expr)(m:ME):Prop := ∃ t,∀ C ex pn s₀ H₀,PE (zi X scope cl C (x :: caps) ex pn s₀ H₀) e t/\xx (zi X scope cl C (x :: caps) ex pn s₀ H₀) t m
theorem YQ (h:∀ C ex pn s₀ H₀,ju (zi X scope cl C (x :: caps) ex pn s₀ H₀) e m):NX X scope cl x caps e m:=by
 refine ⟨λσ H Q=>∀ C ex pn s₀ H₀,∃ t,PE (zi X scope cl C (x :: caps) ex pn s₀ H₀) e t/\t σ H Q,λC ex pn s₀ H₀=>⟨λpins s σ H Q I w => ?_,λF H σ env Q R nb ok exx C' ex' pn' s₀' H₀' => ?_⟩⟩
 ·obtain ⟨t,p,w⟩:=w C ex pn s₀ H₀
  exact p pins s σ H Q I w
 ·obtain ⟨t,p,s⟩:=h C' ex' pn' s₀' H₀'
  refine ⟨t,p,s F H σ env Q R nb ok λy z ev F' H' xt ix => ?_⟩;exact ix.elim
theorem YR (h:∀ C ex pn s₀ H₀,bF (zi X scope cl C (x :: caps) ex pn s₀ H₀) ifs m):UY X scope cl x caps ifs m:=by
 refine ⟨λσ H Q=>∀ C ex pn s₀ H₀,∃ t,JE (zi X scope cl C (x :: caps) ex pn s₀ H₀) ifs t/\t σ H Q,λC ex pn s₀ H₀=>⟨λpins s σ H Q I w => ?_,λF H σ env Q R nb ok exx C' ex' pn' s₀' H₀' => ?_⟩⟩
 ·obtain ⟨t,p,w⟩:=w C ex pn s₀ H₀
  exact p pins s σ H Q I w
 ·obtain ⟨t,p,s⟩:=h C' ex' pn' s₀' H₀'
  refine ⟨t,p,s F H σ env Q R nb ok λy z ev F' H' xt ix => ?_⟩;exact ix.elim
theorem YS {K:W.Frag}{F:Addr->Prop}{H:Hp}{σ:St}{env:En}{v:V}{t:T}(R:v5 K F H σ env)(iv:Is K F H t v):v5 K F H (some v :: vU σ slots) (some (false,t) :: qB env slots):=by
 refine ⟨R.dom,λi r h => ?_⟩
 cases i with
 | zero =>
  simp at h;subst h;exact ⟨v,rfl,iv⟩
 | succ i =>
  have h:(qB env slots)[i]? = some (some r):=by simpa using h
  unfold qB at h;rw [List.getElem?_map] at h
  cases hk:slots[i]? with
  | none=>rw [hk] at h;cases h
  | some k =>
   rw [hk] at h;have h:(env[k]?).getD none=some r:=Option.some.inj h
   have he:env[k]? = some (some r):=by
    cases e:env[k]? with
    | none=>rw [e] at h;cases h
    | some o=>rw [e] at h;have:o=some r:=h;rw [this]
   obtain ⟨w,sw,q⟩:=R.vals k r he;refine ⟨w,?_,q⟩;show (vU σ slots)[i]? = some (some w);unfold vU;rw [List.getElem?_map,hk];show some ((σ[k]?).getD none)=some (some w);rw [sw]
   rfl
theorem bG (si:K7 X wi it)(st:vh (zi X scope cl 0 (x :: caps) [] [] X.s₀ X.H₀) tt mt)(se:xx (zi X scope cl 0 (x :: caps) [] [] X.s₀ X.H₀) te me) :
  xx X (rF wi tt te slots) (jf it mt me slots):=by
 intro F H σ env Q RE nb ok exx;unfold jf at nb ok exx;refine si F H σ env _ RE (λz=>by rw [z] at nb;exact nb rfl) (λts e1 J F1 H1 x1 Y => ?_) λx z=>exx x (by rw [z];rfl);rw [e1,bind_ok] at nb ok
 by_cases hl:ts.length<=sizeLine
 ·rw [if_pos hl] at nb ok
  cases hcl:wy mt me (qB env slots) ts with
  | bad=>rw [hcl] at nb;exact absurd rfl nb
  | exc y=>rw [hcl] at nb;exact absurd rfl nb
  | ok out =>
   rw [hcl] at ok;intro D hD
   refine ⟨λi m ys H=>m=ts.length - i/\i<=ts.length/\ys.length<=i/\H D=some (.lst ys)/\∃ Fc us rest,¬ Fc D/\jE F1 H1 Fc H/\IsAll X.K Fc H us ys/\wy mt me (qB env slots) (ts.drop i)=.ok rest/\us ++ rest=out,
    ⟨ts.length,by simp,Nat.zero_le _,Nat.le_refl _,zh,F1,[],out,λf=>x1.dom D f hD,jE.alloc x1.dom hD,IsAll.nil,by simpa using hcl,rfl⟩,?_⟩
   rintro i m ys H2 ⟨rfl,hi,hyl,hHD,Fc,us,rest,nD,xc,iu,hrest,hout⟩;refine ⟨hHD,?_⟩;obtain ⟨yg,ysp⟩:=Y Fc H2 xc.kept i
   by_cases hlt:i < ts.length
   ·obtain ⟨go,yl⟩:=yg hlt
    refine .inr ⟨go,λv H3 y => ?_⟩;obtain ⟨rfl,t,hti,iv⟩:=yl v H3 y
    have hd:ts.drop i=t :: ts.drop (i + 1):=by
     rw [List.drop_eq_getElem_cons hlt];have:ts[i]? = some ts[i]:=by simp [hlt]
     rw [this] at hti;cases hti
     rfl
    rw [hd,wy] at hrest;have RE2:v5 X.K Fc H3 σ env:=(RE.mono x1).mono xc;have RC:v5 X.K Fc H3 (some v :: vU σ slots) (some (false,t) :: qB env slots):=YS RE2 iv
    have keepD:∀ {F':Addr->Prop} {H':Hp},jE Fc H3 F' H'->¬ F' D/\H' D=some (.lst ys):=by
     intro F' H' xt;refine ⟨λf => ?_,xt.same D _ hHD⟩
     rcases xt.new D f with f | f
     ·exact nD f
     ·rw [hHD] at f;cases f
    refine st Fc H3 _ _ _ RC (λz=>by rw [z] at hrest;cases hrest) (λb eb F4 H4 x4 => ?_) λy z=>by rw [z] at hrest;cases hrest
    rw [eb] at hrest
    cases b with
    | false =>
     rw [if_neg Bool.false_ne_true];dsimp only at hrest;obtain ⟨n4,d4⟩:=keepD x4;exact ⟨ts.length - (i + 1),by omega,rfl,hlt,by omega,d4,F4,us,rest,n4,xc.trans x4,iu.mono x4.kept,hrest,hout⟩
    | true =>
     rw [if_pos rfl];dsimp only at hrest;refine se.val (RC.mono x4) (λz=>by rw [z] at hrest;cases hrest) (λr er w F5 H5 x5 iw => ?_) λy z=>by rw [z] at hrest;cases hrest
     rw [er] at hrest;dsimp only at hrest
     cases hcl2:wy mt me (qB env slots) (ts.drop (i + 1)) with
     | bad=>rw [hcl2] at hrest;cases hrest
     | exc y=>rw [hcl2] at hrest;cases hrest
     | ok rest2 =>
      rw [hcl2] at hrest;have hr:r.2 :: rest2=rest:=by injection hrest
      obtain ⟨n5,d5⟩:=keepD (x4.trans x5);have x15:=(xc.trans x4).trans x5;refine ⟨d5,by omega,ts.length - (i + 1),by omega,rfl,hlt,by rw [List.length_append];simp;omega,zh,F5,us ++ [r.2],rest2,n5,?_,?_,hcl2,by rw [<- hout,<- hr];simp⟩
      ·refine ⟨λa o h => ?_,x15.sub,x15.new,λa f => ?_⟩
       ·rw [zd (zG h hD)];exact x15.same a o h
       ·have:a≠D:=by rintro rfl;exact n5 f
        rw [zd this];exact x15.dom a f
      ·exact ((iu.mono (x4.trans x5).kept).append (IsAll.cons iw IsAll.nil)).mono (jU n5 d5 (.inl ⟨_,rfl⟩))
   ·have hli:i=ts.length:=by omega
    subst hli;rw [List.drop_length,wy] at hrest;have hr:rest=[]:=by injection hrest with hrest;exact hrest.symm
    subst hr;rw [List.append_nil] at hout;subst hout;refine .inl ⟨ysp (Nat.le_refl _),ok _ rfl _ Fc H2 (x1.trans xc) ?_⟩;unfold wu;rw [if_pos rfl];exact ⟨D,rfl,nD,j6 x1.same hD,ys,hHD,iu⟩
 ·rw [if_neg hl] at nb
  exact absurd rfl nb
theorem Qw (hc:X.calm=true)(S:mI X scope cl x caps slots)(hi:V1 X (.Name x px) iter it)
  (ht:∀ C ex pn s₀ H₀,bF (zi X scope cl C (x :: caps) ex pn s₀ H₀) ifs mt) (he:∀ C ex pn s₀ H₀,ju (zi X scope cl C (x :: caps) ex pn s₀ H₀) elt me)
  (hs:∀ v,foldedSetIterable iter X.env v=pure v:=by intro _;rfl) (hg:∀ it v,letOwnedTupleGo (.Name x px) it v=pure ():=by intro _ _;rfl) :
  ju X (.ListComp elt [⟨.Name x px,iter,ifs,0⟩] scope pos) (jf it mt me slots):=by
 obtain ⟨wi,pi,si⟩:=hi;obtain ⟨tt,ht⟩:=YR ht;obtain ⟨te,he⟩:=YQ he;exact ⟨_,WM hc S pi (λC ex pn s₀ H₀=>(ht C ex pn s₀ H₀).1) (λC ex pn s₀ H₀=>(he C ex pn s₀ H₀).1) hs hg,bG si (ht 0 [] [] X.s₀ X.H₀).2 (he 0 [] [] X.s₀ X.H₀).2⟩
end
end L3
namespace L3
open PySem PySem.W PyProof.Rows
def xJ (lt:Nat->Nat->Bool){α:Type} : KasT α->α
 | .ret a=>a
 | .ask i j k=>xJ lt (k (lt i j))
def vI:∀ (t:KasT α),xJ lt (t.bind f)=xJ lt (f (xJ lt t))
 | .ret a=>rfl
 | .ask i j k=>by
  show xJ lt ((k (lt i j)).bind f)=_;rw [vI (k (lt i j))]
  rfl
structure TO (lt:Nat->Nat->Bool) (n:Nat):Prop where
 asym:∀ i j,i < n->j < n->lt i j=true->lt j i=false
 trans:∀ i j k,i < n->j < n->k < n->lt i j=true->lt j k=true->lt i k=true
 total:∀ i j,i < n->j < n->i≠j->lt i j=true\/lt j i=true
structure Pm (p:Array Nat) (n:Nat):Prop where
 size:p.size=n
 perm:p.toList.Perm (List.range n)
def Pm.lt (h:Pm p n)(hi:i < n):p.getD i 0 < n:=by
 have hs:i < p.size:=by rw [h.size];exact hi
 have:p[i]∈p.toList:=by simp
 have:=(h.perm.mem_iff).mp this;simp only [Array.getD,hs,dite_true];exact List.mem_range.mp this
def Pm.inj (h:Pm p n)(hi:i < n)(hj:j < n)(e:p.getD i 0=p.getD j 0):i=j:=by
 have hi':i < p.size:=by rw [h.size];exact hi
 have hj':j < p.size:=by rw [h.size];exact hj
 have nd:p.toList.Nodup:=h.perm.nodup_iff.mpr List.nodup_range;simp only [Array.getD,hi',hj',dite_true] at e;have h1:p.toList[i]? = some p[i]:=by simp [hi']
 have h2:p.toList[j]? = some p[j]:=by simp [hj']
 have e:p[i]=p[j]:=e;rw [e] at h1;exact (List.getElem?_inj (by simpa using hi') nd).mp (h1.trans h2.symm)
def Up (lt:Nat->Nat->Bool)(p:Array Nat)(m:Nat):Prop := ∀ i j,i < j->j < m->lt (p.getD i 0) (p.getD j 0)=true
def Dn (lt:Nat->Nat->Bool)(p:Array Nat)(m:Nat):Prop := ∀ i j,i < j->j < m->lt (p.getD j 0) (p.getD i 0)=true
def V2 (T:TO lt n)(h:Pm p n)(hm:m < n)(h1:1<=m)(u:Up lt p m)(hl:lt (p.getD m 0) (p.getD (m - 1) 0)=false):Up lt p (m + 1):=by
 have last:lt (p.getD (m - 1) 0) (p.getD m 0)=true:=by
  rcases T.total (p.getD m 0) (p.getD (m - 1) 0) (h.lt hm) (h.lt (by omega)) (λe=>by have:=h.inj hm (by omega) e;omega) with z | z
  ·rw [hl] at z;cases z
  ·exact z
 intro i j hij hj
 by_cases e:j=m
 ·subst e
  by_cases e2:i=j - 1
  ·subst e2;exact last
  ·exact T.trans _ _ _ (h.lt (by omega)) (h.lt (by omega)) (h.lt (by omega)) (u i (j - 1) (by omega) (by omega)) last
 ·exact u i j hij (by omega)
def dO (T:TO lt n)(h:Pm p n)(hm:m < n)(h1:1<=m)(u:Dn lt p m)(hl:lt (p.getD m 0) (p.getD (m - 1) 0)=true):Dn lt p (m + 1):=by
 intro i j hij hj
 by_cases e:j=m
 ·subst e
  by_cases e2:i=j - 1
  ·subst e2;exact hl
  ·exact T.trans _ _ _ (h.lt (by omega)) (h.lt (by omega)) (h.lt (by omega)) hl (u i (j - 1) (by omega) (by omega))
 ·exact u i j hij (by omega)
def dP (T:TO lt n)(h:Pm p n):∀ (f m:Nat),1<=m->m + f=n->Up lt p m->Up lt p (xJ lt (kas_asc p f m))/\m<=xJ lt (kas_asc p f m)/\xJ lt (kas_asc p f m)<=n /\
  (xJ lt (kas_asc p f m) < n->lt (p.getD (xJ lt (kas_asc p f m)) 0) (p.getD (xJ lt (kas_asc p f m) - 1) 0)=true)
 | 0,m,h1,hf,u=>⟨u,Nat.le_refl _,by show m<=n;omega,λz=>absurd (show m < n from z) (by omega)⟩
 | f + 1,m,h1,hf,u=>by
  show _/\_;have e:xJ lt (kas_asc p (f + 1) m)=xJ lt (if lt (p.getD m 0) (p.getD (m - 1) 0)=true then .ret m else kas_asc p f (m + 1)):=rfl;rw [e]
  cases hl:lt (p.getD m 0) (p.getD (m - 1) 0) with
  | true=>exact ⟨u,Nat.le_refl _,by show m<=n;omega,λ_=>hl⟩
  | false =>
   obtain ⟨a,b,c,d⟩:=dP T h f (m + 1) (by omega) (by omega) (V2 T h (by omega) h1 u hl);exact ⟨a,by show m<=xJ lt (kas_asc p f (m + 1));omega,c,d⟩
def tZ (h:Pm p n)(i j:Nat):Pm (kas_rev p i j) n:=by
 refine ⟨by unfold kas_rev;rw [mirror_size];exact h.size,?_⟩;have:=mirror_perm p i j ((j - i) / 2);exact (Array.perm_iff_toList_perm.mp this).trans h.perm
def kh {p:Array Nat}{k:Nat} : p.getD k 0=(p[k]?).getD 0:=by simp [Array.getD_eq_getD_getElem?]
def rW {p:Array Nat}(h:Pm p n){m k:Nat}(hm:m<=n):(kas_rev p 0 m).getD k 0=if k < m then p.getD (m - 1 - k) 0 else p.getD k 0:=by
 rw [kh];unfold kas_rev;rw [getElem?_mirror (by rw [h.size];exact hm) _ (by omega) k]
 by_cases hk:k < m
 ·rw [if_pos hk]
  by_cases c:(0<=k/\k < 0 + (m - 0) / 2)\/(m - (m - 0) / 2<=k/\k < m)
  ·rw [if_pos c,kh]
   congr 2
   omega
  ·rw [if_neg c]
   have:m - 1 - k=k:=by omega
   rw [this,kh]
 ·rw [if_neg hk,if_neg (by omega),kh]
def Qx (T:TO lt n)(h:Pm p n)(hm:m<=n)(d:Dn lt p m):Up lt (kas_rev p 0 m) m:=by
 intro i j hij hj;rw [rW h hm,rW h hm,if_pos (by omega),if_pos hj];exact d _ _ (by omega) (by omega)
def dQ (T:TO lt n)(h:Pm p n):∀ (f m:Nat),1<=m->m + f=n->Dn lt p m->∃ m',xJ lt (kas_desc f p m 0)=(p,m',0)/\m<=m'/\m'<=n/\Dn lt p m'
 | 0,m,h1,hf,u=>⟨m,rfl,Nat.le_refl _,by omega,u⟩
 | f + 1,m,h1,hf,u=>by
  have e:xJ lt (kas_desc (f + 1) p m 0)=xJ lt (if lt (p.getD m 0) (p.getD (m - 1) 0)=true then (if 0 > 0 then kas_desc f (kas_rev p (m - (0 + 1)) m) (m + 1) 0 else kas_desc f p (m + 1) 0)
   else .ask (p.getD (m - 1) 0) (p.getD m 0) λd=>if d=true then .ret (p,m,0) else kas_desc f p (m + 1) (0 + 1)):=rfl
  rw [e]
  cases hl:lt (p.getD m 0) (p.getD (m - 1) 0) with
  | true =>
   obtain ⟨m',e',a,b,c⟩:=dQ T h f (m + 1) (by omega) (by omega) (dO T h (by omega) h1 u hl);refine ⟨m',?_,by omega,b,c⟩;rw [if_pos rfl,if_neg (by omega)];exact e'
  | false =>
   rw [if_neg Bool.false_ne_true]
   have:lt (p.getD (m - 1) 0) (p.getD m 0)=true:=by
    rcases T.total (p.getD m 0) (p.getD (m - 1) 0) (h.lt (by omega)) (h.lt (by omega)) (λe=>by have:=h.inj (show m < n by omega) (by omega) e;omega) with z | z
    ·rw [hl] at z;cases z
    ·exact z
   show ∃ m',xJ lt (if lt (p.getD (m - 1) 0) (p.getD m 0)=true then .ret (p,m,0) else kas_desc f p (m + 1) (0 + 1))=_/\_;rw [this,if_pos rfl];exact ⟨m,rfl,Nat.le_refl _,by omega,u⟩
def YT (T:TO lt n)(h:Pm p n)(h1:1<=m)(hm:m<=n)(d:Dn lt p m):∃ k q,xJ lt (kas_tail3 m n p)=(k,q)/\Pm q n/\1<=k/\k<=n/\Up lt q k:=by
 unfold kas_tail3;rw [vI];obtain ⟨a,b,c,_⟩:=dP T (tZ h 0 m) (n - m) m h1 (by omega) (Qx T h hm d);exact ⟨_,_,rfl,tZ h 0 m,by omega,c,a⟩
def bI (T:TO lt n)(h:Pm p n)(h2:1<=n):∃ k q,xJ lt (kas_count n p)=(k,q)/\Pm q n/\1<=k/\k<=n/\Up lt q k:=by
 unfold kas_count;rw [vI];obtain ⟨a,b,c,d⟩:=dP T h (n - 1) 1 (Nat.le_refl _) (by omega) (λi j h1 h2=>by omega);generalize hk:xJ lt (kas_asc p (n - 1) 1)=k at a b c d ⊢
 by_cases e:k=n
 ·rw [if_pos (by simp [e])]
  exact ⟨k,p,rfl,h,b,c,a⟩
 ·rw [if_neg (by simpa using e)]
  have hd:=d (by omega)
  by_cases hk1:k > 1
  ·rw [if_pos hk1]
   have:lt (p.getD 0 0) (p.getD (k - 1) 0)=true:=a 0 (k - 1) (by omega) (by omega);show ∃ k' q,xJ lt (if lt (p.getD 0 0) (p.getD (k - 1) 0)=true then .ret (k,p) else kas_descPart k n (kas_rev p 0 k))=_/\_;rw [this,if_pos rfl];exact ⟨k,p,rfl,h,b,c,a⟩
  ·rw [if_neg hk1]
   have hk0:k=1:=by omega
   subst hk0;unfold kas_descPart;rw [vI];have d2:Dn lt p 2:=dO T h (by omega) (Nat.le_refl _) (λi j h1 h2=>by omega) hd;obtain ⟨m',e',x,y,z⟩:=dQ T h (n - (1 + 1)) (1 + 1) (by omega) (by omega) d2;rw [e'];show ∃ k q,xJ lt (if 0 > 0 then _ else kas_tail3 m' n p)=_/\_;rw [if_neg (by omega)];exact YT T h (by omega) y z
def mZ (T:TO lt n)(h:Pm p n)(hk:k < n)(u:Up lt p k):∀ (f l r:Nat),r - l<=f->l<=r->r<=k->(∀ i,i < l->lt (p.getD i 0) (p.getD k 0)=true)->(∀ i,r<=i->i < k->lt (p.getD k 0) (p.getD i 0)=true) ->
  ∃ l',xJ lt (kas_place p k f l r)=l'/\l'<=k/\(∀ i,i < l'->lt (p.getD i 0) (p.getD k 0)=true)/\(∀ i,l'<=i->i < k->lt (p.getD k 0) (p.getD i 0)=true)
 | 0,l,r,hf,hlr,hr,a,b=>⟨l,rfl,by omega,a,λi h1 h2=>b i (by omega) h2⟩
 | f + 1,l,r,hf,hlr,hr,a,b=>by
  show ∃ l',xJ lt (if l >= r then .ret l else .ask (p.getD k 0) (p.getD ((l + r) / 2) 0) λc=>if c=true then kas_place p k f l ((l + r) / 2) else kas_place p k f ((l + r) / 2 + 1) r)=l'/\_
  by_cases e:l >= r
  ·rw [if_pos e]
   exact ⟨l,rfl,by omega,a,λi h1 h2=>b i (by omega) h2⟩
  ·rw [if_neg e]
   show ∃ l',xJ lt (if lt (p.getD k 0) (p.getD ((l + r) / 2) 0)=true then kas_place p k f l ((l + r) / 2) else kas_place p k f ((l + r) / 2 + 1) r)=l'/\_;have hmid:(l + r) / 2 < k:=by omega
   cases hl:lt (p.getD k 0) (p.getD ((l + r) / 2) 0) with
   | true =>
    rw [if_pos rfl];refine mZ T h hk u f l ((l + r) / 2) (by omega) (by omega) (by omega) a λi h1 h2 => ?_
    by_cases e2:i=(l + r) / 2
    ·subst e2;exact hl
    ·exact T.trans _ _ _ (h.lt hk) (h.lt (by omega)) (h.lt (by omega)) hl (u _ _ (by omega) h2)
   | false =>
    rw [if_neg Bool.false_ne_true]
    have hl2:lt (p.getD ((l + r) / 2) 0) (p.getD k 0)=true:=by
     rcases T.total (p.getD k 0) (p.getD ((l + r) / 2) 0) (h.lt hk) (h.lt (by omega)) (λe=>by have:=h.inj hk (by omega) e;omega) with z | z
     ·rw [hl] at z;cases z
     ·exact z
    refine mZ T h hk u f ((l + r) / 2 + 1) r (by omega) (by omega) hr (λi h1 => ?_) b
    by_cases e2:i=(l + r) / 2
    ·subst e2;exact hl2
    ·exact T.trans _ _ _ (h.lt (by omega)) (h.lt (by omega)) (h.lt hk) (u i ((l + r) / 2) (by omega) hmid) hl2
def YU (T:TO lt n):∀ (f:Nat) (p:Array Nat) (k:Nat),Pm p n->k + f=n->1<=k->Up lt p k->∃ q,xJ lt (kas_bin f p k)=q/\Pm q n/\Up lt q n
 | 0,p,k,h,hf,h1,u=>⟨p,rfl,h,by
  have:k=n:=by omega
  rw [<- this];exact u⟩
 | f + 1,p,k,h,hf,h1,u=>by
  unfold kas_bin;rw [vI];obtain ⟨l,e,hl,a,b⟩:=mZ T h (show k < n by omega) u k 0 k (by omega) (by omega) (Nat.le_refl _) (λi h=>by omega) (λi h1 h2=>by omega);rw [e];have hq:Pm (bubble p k (k - l)) n:=⟨by rw [bubble_size];exact h.size,(Array.perm_iff_toList_perm.mp (bubble_perm p k (k - l))).trans h.perm⟩
  have g:∀ i,(bubble p k (k - l)).getD i 0=if i=l then p.getD k 0 else if l < i/\i<=k then p.getD (i - 1) 0 else p.getD i 0:=by
   intro i;rw [kh,getElem?_bubble (by rw [h.size];omega) (k - l) (by omega) i];have:k - (k - l)=l:=by omega
   rw [this]
   by_cases e1:i=l
   ·rw [if_pos e1,if_pos e1,kh]
   ·rw [if_neg e1,if_neg e1]
    by_cases e2:l < i/\i<=k
    ·rw [if_pos e2,if_pos e2,kh]
    ·rw [if_neg e2,if_neg e2,kh]
  refine YU T f _ (k + 1) hq (by omega) (by omega) λi j hij hj => ?_;rw [g i,g j]
  by_cases ei:i=l
  ·rw [if_pos ei,if_neg (by omega),if_pos (by omega)]
   exact b (j - 1) (by omega) (by omega)
  ·rw [if_neg ei]
   by_cases ej:j=l
   ·rw [if_pos ej,if_neg (by omega)]
    exact a i (by omega)
   ·rw [if_neg ej]
    by_cases ci:l < i/\i<=k
    ·rw [if_pos ci,if_pos (by omega)]
     exact u _ _ (by omega) (by omega)
    ·rw [if_neg ci]
     by_cases cj:l < j/\j<=k
     ·rw [if_pos cj]
      by_cases e3:i < j - 1
      ·exact u _ _ e3 (by omega)
      ·exfalso;omega
     ·rw [if_neg cj]
      exact u _ _ hij (by omega)
def V3 (T:TO lt n)(h1:1<=n):∃ q,xJ lt (kas_sort n)=q/\Pm q n/\Up lt q n:=by
 unfold kas_sort;rw [vI];have h0:Pm (List.toArray (List.range n)) n:=⟨by simp,by simp⟩
 obtain ⟨k,q,e,hq,hk,hk2,u⟩:=bI T h0 h1;rw [e];show ∃ r,xJ lt (if k < n then kas_bin (n - max k 1) q (max k 1) else .ret q)=r/\_
 by_cases hl:k < n
 ·rw [if_pos hl]
  have:max k 1=k:=by omega
  rw [this];exact YU T (n - k) q k hq (by omega) hk u
 ·rw [if_neg hl]
  have:k=n:=by omega
  subst this;exact ⟨q,rfl,hq,u⟩
def l0 (lt:Nat->Nat->Bool)(n:Nat){α:Type} : KasT α->Prop
 | .ret _=>True
 | .ask i j k=>i < n/\j < n/\l0 lt n (k (lt i j))
def l0.bind:∀ {t:KasT α},l0 lt n t->l0 lt n (f (xJ lt t))->l0 lt n (t.bind f)
 | .ret a,_,h=>h
 | .ask i j k,h,g=>⟨h.1,h.2.1,l0.bind h.2.2 g⟩
def bJ (hc:∀ i j (C:Bool->Shared->Prop),i < n->j < n->C (lt i j) s->cmp i j C s) :
  ∀ (t:KasT α),l0 lt n t->Q (xJ lt t) s->t.kasWp cmp Q s
 | .ret a,_,h=>h
 | .ask i j k,r,h=>hc i j _ r.1 r.2.1 (bJ hc (k (lt i j)) r.2.2 h)
def o6 (h:Pm p n):∀ (f m:Nat),1<=m->m + f=n->l0 lt n (kas_asc p f m)
 | 0,m,h1,hf=>trivial
 | f + 1,m,h1,hf=>by
  refine ⟨h.lt (by omega),h.lt (by omega),?_⟩
  cases hl:lt (p.getD m 0) (p.getD (m - 1) 0) with
  | true=>exact trivial
  | false=>exact o6 h f (m + 1) (by omega) (by omega)
def rX (T:TO lt n)(h:Pm p n):∀ (f m:Nat),1<=m->m + f=n->l0 lt n (kas_desc f p m 0)
 | 0,m,h1,hf=>trivial
 | f + 1,m,h1,hf=>by
  refine ⟨h.lt (by omega),h.lt (by omega),?_⟩
  cases hl:lt (p.getD m 0) (p.getD (m - 1) 0) with
  | true =>
   show l0 lt n (if true=true then (if 0 > 0 then kas_desc f (kas_rev p (m - (0 + 1)) m) (m + 1) 0 else kas_desc f p (m + 1) 0) else _);rw [if_pos rfl,if_neg (by omega)];exact rX T h f (m + 1) (by omega) (by omega)
  | false =>
   refine ⟨h.lt (by omega),h.lt (by omega),?_⟩
   have:lt (p.getD (m - 1) 0) (p.getD m 0)=true:=by
    rcases T.total (p.getD m 0) (p.getD (m - 1) 0) (h.lt (by omega)) (h.lt (by omega)) (λe=>by have:=h.inj (show m < n by omega) (by omega) e;omega) with z | z
    ·rw [hl] at z;cases z
    ·exact z
   rw [this];exact trivial
def YV (h:Pm p n)(h1:1<=m)(hm:m<=n):l0 lt n (kas_tail3 m n p):=by
 unfold kas_tail3;exact l0.bind (o6 (tZ h 0 m) (n - m) m h1 (by omega)) trivial
def YW (T:TO lt n)(h:Pm p n)(h2:1<=n):l0 lt n (kas_count n p):=by
 unfold kas_count;refine l0.bind (o6 h (n - 1) 1 (Nat.le_refl _) (by omega)) ?_;obtain ⟨a,b,c,d⟩:=dP T h (n - 1) 1 (Nat.le_refl _) (by omega) (λi j h1 h2=>by omega);generalize hk:xJ lt (kas_asc p (n - 1) 1)=k at a b c d ⊢
 by_cases e:k=n
 ·rw [if_pos (by simp [e])]
  exact trivial
 ·rw [if_neg (by simpa using e)]
  have hd:=d (by omega)
  by_cases hk1:k > 1
  ·rw [if_pos hk1]
   refine ⟨h.lt (by omega),h.lt (by omega),?_⟩;have:lt (p.getD 0 0) (p.getD (k - 1) 0)=true:=a 0 (k - 1) (by omega) (by omega);rw [this];exact trivial
  ·rw [if_neg hk1]
   have hk0:k=1:=by omega
   subst hk0;unfold kas_descPart;have d2:Dn lt p 2:=dO T h (by omega) (Nat.le_refl _) (λi j h1 h2=>by omega) hd;refine l0.bind (rX T h (n - (1 + 1)) (1 + 1) (by omega) (by omega)) ?_;obtain ⟨m',e',x,y,z⟩:=dQ T h (n - (1 + 1)) (1 + 1) (by omega) (by omega) d2;rw [e'];show l0 lt n (if 0 > 0 then _ else kas_tail3 m' n p);rw [if_neg (by omega)];exact YV h (by omega) y
def l5 (h:Pm p n)(hk:k < n):∀ (f l r:Nat),r<=k->l0 lt n (kas_place p k f l r)
 | 0,l,r,hr=>trivial
 | f + 1,l,r,hr=>by
  show l0 lt n (if l >= r then .ret l else .ask (p.getD k 0) (p.getD ((l + r) / 2) 0) λc=>if c=true then kas_place p k f l ((l + r) / 2) else kas_place p k f ((l + r) / 2 + 1) r)
  by_cases e:l >= r
  ·rw [if_pos e];exact trivial
  ·rw [if_neg e]
   refine ⟨h.lt hk,h.lt (by omega),?_⟩
   cases hl:lt (p.getD k 0) (p.getD ((l + r) / 2) 0) with
   | true=>exact l5 h hk f l ((l + r) / 2) (by omega)
   | false=>exact l5 h hk f ((l + r) / 2 + 1) r hr
def YX (T:TO lt n):∀ (f:Nat) (p:Array Nat) (k:Nat),Pm p n->k + f=n->l0 lt n (kas_bin f p k)
 | 0,p,k,h,hf=>trivial
 | f + 1,p,k,h,hf=>by
  unfold kas_bin;refine l0.bind (l5 h (by omega) k 0 k (Nat.le_refl _)) ?_;exact YX T f _ (k + 1) ⟨by rw [bubble_size];exact h.size,(Array.perm_iff_toList_perm.mp (bubble_perm p k _)).trans h.perm⟩ (by omega)
def V4 (T:TO lt n)(h1:1<=n):l0 lt n (kas_sort n):=by
 unfold kas_sort;have h0:Pm (List.toArray (List.range n)) n:=⟨by simp,by simp⟩
 refine l0.bind (YW T h0 h1) ?_;obtain ⟨k,q,e,hq,hk,hk2,u⟩:=bI T h0 h1;rw [e];show l0 lt n (if k < n then kas_bin (n - max k 1) q (max k 1) else .ret q)
 by_cases hl:k < n
 ·rw [if_pos hl]
  have:max k 1=k:=by omega
  rw [this];exact YX T (n - k) q k hq (by omega)
 ·rw [if_neg hl]
  exact trivial
end L3
namespace L3
open PySem PySem.Spec PyProof.Rows PySem.W
def bK {l:Addr}{vs:List Value}{o:Obj}{n:Nat}{T:String}{Q:List Value->Shared->Prop}(ho:s.heap.get? l=some o)(hc:o.cls=.type T)(hd:o.data=.seq vs.toArray n)(hT:T = "list" \/ T = "tuple")
  (h:Q vs { s with heap:=(s.heap.push (seqObj "list" #[] 0)).update s.heap.objs.size (Obj.mapSeq (· ++ vs.toArray)) }) (hsz:vs.length<=sizeLine) :
  wpAny (model prog w) A (collect (.ref l)) Q E s:=by
 unfold collect;refine wpAny_bind (wpAny_runValue (codeAny_builtin entry_proto_collect' ?_));show wpAny _ _ (do again (.builtin "list.__iadd__" ⟨[<- newList [],.ref l],[]⟩)) _ _ s;refine wpAny_bind (wpAny_newList (wpAny_pure ⟨Code.quiet_builtin _ (by decide +kernel),codeAny_builtin entry_list_iadd' ?_⟩) (Nat.zero_le _));show wpAny _ _ (Builtin.List.listExtendWith (.ref s.heap.objs.size) (.ref l) (.ref s.heap.objs.size)) _ _ { s with heap:=s.heap.push (seqObj "list" #[] 0) };unfold Builtin.List.listExtendWith;have ho':(s.heap.push (seqObj "list" #[] 0)).get? l=some o:=Heap.get?_push_of_some _ ho;refine wpAny_bind (wpAny_typeOf ⟨o,ho',hc⟩ ?_);have e1:(Value.type "list" == Value.type "list")=true:=by decide +kernel
 have e2:(Value.type "tuple" == Value.type "tuple")=true:=by decide +kernel
 rw [if_pos (by rcases hT with rfl | rfl;(rw [e1];simp);(rw [e2];simp))];refine wpAny_bind (listItems_at ho' hd ?_);refine wpAny_bind (listItems_at (Heap.get?_push_size _ rfl) rfl ?_);rw [if_neg (by simp)];refine wpAny_bind (listUpdate_at (Heap.get?_push_size _ rfl) rfl ?_ (Nat.zero_le _) (by show (#[] ++ vs.toArray).size<=sizeLine + 1;simp only [Array.size_append,List.size_toArray,List.length_nil];omega));refine wpAny_pure ?_
 show wpAny (model prog w) A (do
   let o <- load s.heap.objs.size
   match o.data with
   | .seq xs _=>pure xs.toList
   | _=>unsupported "internal:collect") Q E { s with heap:=(s.heap.push (seqObj "list" #[] 0)).update s.heap.objs.size (Obj.mapSeq (· ++ vs.toArray)) }
 refine wpAny_bind (wpAny_load (get?_update_seq (Heap.get?_push_size _ rfl) _) ?_);show wpAny _ _ (pure ((#[]:Array Value) ++ vs.toArray).toList) Q E _;rw [show ((#[]:Array Value) ++ vs.toArray).toList=vs by simp];exact wpAny_pure h
def ZP (ho:s.heap.get? a=some (seqObj "list" vs.toArray n))(h64:vs.length < 64)(T:TO lt vs.length)
  (hk:2<=vs.length->∀ h',(∀ b o,b≠a->s.heap.get? b=some o->h'.get? b=some o) ->
   (∀ (Q:SortKind->Shared->Prop),Q κ { s with heap:=h' } -> wpAny (model prog w) A (keyKind' vs.toArray) Q (λ_ _=>False) { s with heap:=h' }) /\
   ∀ i j (C:Bool->Shared->Prop),i < vs.length->j < vs.length->C (lt i j) { s with heap:=h' } -> wpAny (model prog w) A (keyLt' κ (vs.getD i Value.none) (vs.getD j Value.none)) C (λ_ _=>False) { s with heap:=h' })
  (h:∀ q:Array Nat,Pm q vs.length->Up lt q vs.length->P (.done (.ret .none)) { s with heap:=sortedHeap s.heap a vs (List.toArray (q.toList.map λi=>vs.getD i Value.none)) }) :
  wpAny (model prog w) A (Builtin.«list.sort» ⟨[.ref a],[]⟩) P E s:=by
 rw [list_sort_plain];have ha:a < s.heap.objs.size:=Heap.lt_size ho;refine wpAny_bind (listItems_at ho rfl ?_);refine wpAny_bind (listUpdate_at ho rfl ?_ (by rw [List.size_toArray,sizeLine_eq];omega) (Nat.zero_le _));obtain ⟨e1,ho1⟩:∃ e1,(s.heap.update a (Obj.mapSeq λ_=>(#[]:Array Value))).get? a=some (seqObj "list" #[] e1):=⟨_,get?_update_seq ho (λ_ => #[])⟩
 refine wpAny_bind (seqEpoch_at ho1 rfl ?_);refine wpAny_bind (wpAny_newTuple ?_ (by show vs.length<=_;rw [sizeLine_eq];omega));refine wpAny_bind (wpAny_newList ?_ (Nat.zero_le _));refine wpAny_holding ?_
 have ho6:(((s.heap.update a (Obj.mapSeq λ_=>(#[]:Array Value))).push (seqObj "tuple" vs.toArray 0)).push (seqObj "list" #[] 0)).get? a=some (seqObj "list" #[] e1):=by
  rw [Heap.get?_push_ne _ _ _ (by rw [size_push',Heap.size_update];exact Nat.ne_of_lt (Nat.lt_succ_of_lt ha)),Heap.get?_push_ne _ _ _ (by rw [Heap.size_update];exact Nat.ne_of_lt ha)];exact ho1
 show wpAny (model prog w) A _ P E { s with heap:=((s.heap.update a (Obj.mapSeq λ_=>(#[]:Array Value))).push (seqObj "tuple" vs.toArray 0)).push (seqObj "list" #[] 0) };dsimp only;have hsz:vs.toArray.size=vs.length:=by simp
 by_cases h2:vs.toArray.size < 2
 ·rw [if_pos h2,if_pos h2]
  refine wpAny_bind (wpAny_pure ?_);rw [StateT.run_pure];refine wpAny_bind (wpAny_pure ?_);dsimp only;refine wpAny_bind (seqEpoch_at ho6 rfl ?_);have hlen:vs.length < 2:=by omega
  have e2:(arrOf (SortSt.mk' general' (vs.toArray.zip vs.toArray) #[] 7 none)).map (·.2)=List.toArray ((List.toArray (List.range vs.length)).toList.map λi=>vs.getD i Value.none):=by
   refine kat_snds rfl ?_;have e:=kas_range (vs.toArray.zip vs.toArray);rw [show (vs.toArray.zip vs.toArray).size=vs.length by simp] at e;exact e.symm
  have e2':Array.map (·.2) (vs.toArray.zip vs.toArray)=List.toArray ((List.toArray (List.range vs.length)).toList.map λi=>vs.getD i Value.none):=e2;refine wpAny_bind (listUpdate_at ho6 rfl ?_ (Nat.zero_le _) (by show (Array.map (·.2) (arrOf (SortSt.mk' general' (vs.toArray.zip vs.toArray) #[] 7 none))).size<=_;rw [e2,List.size_toArray,List.length_map];simp;rw [sizeLine_eq];omega));simp only [bne_self_eq_false,Bool.false_eq_true,if_false];refine wpAny_pure ?_;have:=h (List.toArray (List.range vs.length)) ⟨by simp,by simp⟩ λi j hij hj=>by omega
  rw [<- e2'] at this;exact this
 ·rw [if_neg h2,if_neg h2]
  have h2':2<=vs.length:=by omega
  obtain ⟨kk,kl⟩:=hk h2' _ (λb o hb e=>by
   have hlt:b < s.heap.objs.size:=Heap.lt_size e;show (((s.heap.update a (Obj.mapSeq λ_=>(#[]:Array Value))).push (seqObj "tuple" vs.toArray 0)).push (seqObj "list" #[] 0)).get? b=some o;rw [Heap.get?_push_ne _ _ _ (by rw [size_push',Heap.size_update];exact Nat.ne_of_lt (Nat.lt_succ_of_lt hlt)),Heap.get?_push_ne _ _ _ (by rw [Heap.size_update];exact Nat.ne_of_lt hlt),Heap.get?_update_ne _ _ _ _ hb];exact e)
  refine wpAny_bind (wpAny_mono (kk (λκ' s'=>κ'=κ/\s' = { s with heap:=((s.heap.update a (Obj.mapSeq λ_=>(#[]:Array Value))).push (seqObj "tuple" vs.toArray 0)).push (seqObj "list" #[] 0) }) ⟨rfl,rfl⟩) (λκ' s0 hκ => ?_) λ_ _ x=>x.elim);obtain ⟨rfl,rfl⟩:=hκ;obtain ⟨q,hq1,hq2,hq3⟩:=V3 T (by omega)
  refine wpAny_bind (wpAny_mono (kat_run (G:=λp s'=>p=q/\s' = { s with heap:=((s.heap.update a (Obj.mapSeq λ_=>(#[]:Array Value))).push (seqObj "tuple" vs.toArray 0)).push (seqObj "list" #[] 0) })
   (Q:=λst' s'=>arrOf st'=q.map (kas_item (vs.toArray.zip vs.toArray))/\failedOf st'=none/\s' = { s with heap:=((s.heap.update a (Obj.mapSeq λ_=>(#[]:Array Value))).push (seqObj "tuple" vs.toArray 0)).push (seqObj "list" #[] 0) })
   rfl h2' h64 (λp' st' s' a1 a2 a3 a4=>by obtain ⟨rfl,rfl⟩:=a4;exact ⟨a2,a3,rfl⟩) (bJ (λi j C hi hj hC=>kl i j C hi hj hC) (kas_sort vs.length) (V4 T (by omega)) ⟨hq1,rfl⟩)) ?_ λ_ _ e=>e)
  rintro ⟨⟨⟩,st'⟩ s' ⟨har,hf,rfl⟩;dsimp only;have hout:=kat_snds rfl har;have hsz3:(List.toArray (q.toList.map λi=>vs.getD i Value.none)).size=vs.length:=by rw [List.size_toArray,List.length_map,Array.length_toList,hq2.size]
  rw [hout];refine wpAny_bind (seqEpoch_at ho6 rfl ?_);refine wpAny_bind (listUpdate_at ho6 rfl ?_ (Nat.zero_le _) (Nat.le_trans (Nat.le_of_eq hsz3) (by rw [sizeLine_eq];omega)));rw [hf];simp only [bne_self_eq_false,Bool.false_eq_true,if_false];exact wpAny_pure (h q hq2 hq3)
def eK {κ:SortKind}{lt:Nat->Nat->Bool}{l:Addr}{vs:List Value}{o:Obj}{n:Nat}{Ty:String}{Q:Value->Shared->Prop}(ho:s.heap.get? l=some o)(hc:o.cls=.type Ty)(hd:o.data=.seq vs.toArray n)(hT:Ty = "list" \/ Ty = "tuple")
  (h64:vs.length < 64) (T:TO lt vs.length)
  (hk:2<=vs.length->∀ h',(∀ b o,s.heap.get? b=some o->h'.get? b=some o) ->
   (∀ (Q:SortKind->Shared->Prop),Q κ { s with heap:=h' } -> wpAny (model prog w) A.in1.in1 (keyKind' vs.toArray) Q (λ_ _=>False) { s with heap:=h' }) /\
   ∀ i j (C:Bool->Shared->Prop),i < vs.length->j < vs.length->C (lt i j) { s with heap:=h' } -> wpAny (model prog w) A.in1.in1 (keyLt' κ (vs.getD i Value.none) (vs.getD j Value.none)) C (λ_ _=>False) { s with heap:=h' })
  (h:∀ q:Array Nat,Pm q vs.length->Up lt q vs.length->Q (.ref (s.heap.objs.size + 1)) { s with heap:=sortedAll s.heap vs (List.toArray (q.toList.map λi=>vs.getD i Value.none)) }) :
  wpAny (model prog w) A (call (.builtin "sorted") [.ref l]) Q E s:=by
 refine Calls.call_function_entry kind_sorted plain_sorted entry_sorted (args_sorted1 _) ?_;unfold Builtin.«sorted»;refine wpAny_bind (wpAny_pure ?_);refine wpAny_bind (bK ho hc hd hT ?_ (by rw [sizeLine_eq];omega));refine wpAny_bind (wpAny_newList ?_ (by rw [sizeLine_eq];omega))
 have hsz:((s.heap.push (seqObj "list" #[] 0)).update s.heap.objs.size (Obj.mapSeq (· ++ vs.toArray))).objs.size=s.heap.objs.size + 1:=by
  rw [Heap.size_update,size_push']
 have hoL:(((s.heap.push (seqObj "list" #[] 0)).update s.heap.objs.size (Obj.mapSeq (· ++ vs.toArray))).push (seqObj "list" vs.toArray 0)).get? (s.heap.objs.size + 1)=some (seqObj "list" vs.toArray 0):=by
  rw [<- hsz];exact Heap.get?_push_size _ rfl
 have keep:∀ b o,s.heap.get? b=some o->(((s.heap.push (seqObj "list" #[] 0)).update s.heap.objs.size (Obj.mapSeq (· ++ vs.toArray))).push (seqObj "list" vs.toArray 0)).get? b=some o:=λb o q=>by
  have hlt:b < s.heap.objs.size:=Heap.lt_size q;rw [Heap.get?_push_ne _ _ _ (by rw [hsz];exact Nat.ne_of_lt (Nat.lt_succ_of_lt hlt)),Heap.get?_update_ne _ _ _ _ (Nat.ne_of_lt hlt),Heap.get?_push_ne _ _ _ (Nat.ne_of_lt hlt)];exact q
 show wpAny _ _ _ _ _ { s with heap:=((s.heap.push (seqObj "list" #[] 0)).update s.heap.objs.size (Obj.mapSeq (· ++ vs.toArray))).push (seqObj "list" vs.toArray 0) };rw [hsz];refine wpAny_bind (wpAny_holding (wpAny_call_entry slot_list_sort ⟨_,hoL,rfl⟩ entry_list_sort (ZP (κ:=κ) hoL h64 T (λh2 h' kp => ?_) λq hq1 hq2=>⟨_,rfl,?_⟩) (args_list_sort _)))
 ·exact hk h2 h' λb o e=>kp b o (Nat.ne_of_lt (Nat.lt_succ_of_lt (Heap.lt_size e))) (keep b o e)
 ·exact wpAny_pure ⟨_,rfl,h q hq1 hq2⟩
end L3
namespace L3
open PySem PySem.Spec PyProof.Rows PySem.W L2
def xR:T->List (List Nat)
 | .str z=>[z.cps.toList]
 | .tup (.str a :: .str b :: _)=>[a.cps.toList,b.cps.toList]
 | _=>[]
def ZQ:T->Bool
 | .str _=>true
 | _=>false
def YY:T->Bool
 | .tup (.str _ :: .str _ :: _)=>true
 | _=>false
def bL (a b:T):Bool:=decide (xR a < xR b)
def o7 (t:T):List T->List T
 | []=>[t]
 | u :: us=>if bL u t=true then u :: o7 t us else t :: u :: us
def kI:List T->List T
 | []=>[]
 | t :: ts=>o7 t (kI ts)
def sortS (ts:List T):Option (List T):=if ts.length < 64/\(ts.all ZQ=true\/ts.all YY=true)/\(ts.map xR).Nodup then some (kI ts) else none
def gR:List T->Option RV
 | [.lst ts]=>(sortS ts).map λus=>(true,.lst us)
 | [.tup ts]=>(sortS ts).map λus=>(true,.lst us)
 | _=>none
def uF (t:T):∀ us:List T,(o7 t us).Perm (t :: us)
 | []=>List.Perm.refl _
 | u :: us=>by
  unfold o7
  split
  ·exact ((uF t us).cons u).trans (List.Perm.swap t u us)
  ·exact List.Perm.refl _
def ki:∀ ts:List T,(kI ts).Perm ts
 | []=>List.Perm.refl _
 | t :: ts=>(uF t (kI ts)).trans ((ki ts).cons t)
def rY {a b:List (List Nat)}(h:¬ a < b)(g:¬ b < a):a=b:=List.le_antisymm (List.not_lt.mp g) (List.not_lt.mp h)
def nh {t:T} : ∀ {us:List T},us.Pairwise (λa b=>bL a b=true)->(∀ u∈us,xR u≠xR t)->(o7 t us).Pairwise (λa b=>bL a b=true)
 | [],_,_=>by unfold o7;simp
 | u :: us,h,hn=>by
  unfold o7;have hp:=List.pairwise_cons.mp h
  split
  ·rename_i hl
   refine List.pairwise_cons.mpr ⟨λx hx => ?_,nh hp.2 λv hv=>hn v (List.mem_cons_of_mem _ hv)⟩
   rcases List.mem_cons.mp ((uF t us).mem_iff.mp hx) with rfl | hx
   ·exact hl
   ·exact hp.1 x hx
  ·rename_i hl
   have htu:bL t u=true:=by
    unfold bL at hl ⊢;refine decide_eq_true ?_;refine Classical.byContradiction λz => ?_;exact hn u List.mem_cons_self (rY (by simpa using hl) z)
   refine List.pairwise_cons.mpr ⟨λx hx => ?_,h⟩
   rcases List.mem_cons.mp hx with rfl | hx
   ·exact htu
   ·have h1:=of_decide_eq_true htu
    have h2:=of_decide_eq_true (hp.1 x hx);exact decide_eq_true (List.lt_trans h1 h2)
def fg:∀ {ts:List T},(ts.map xR).Nodup->(kI ts).Pairwise (λa b=>bL a b=true)
 | [],_=>List.Pairwise.nil
 | t :: ts,h=>by
  rw [List.map_cons] at h;have hn:=List.nodup_cons.mp h;refine nh (fg hn.2) λu hu e=>hn.1 ?_;rw [<- e];exact List.mem_map.mpr ⟨u,(ki ts).mem_iff.mp hu,rfl⟩
def l6 (ts:List T)(i j:Nat):Bool:=match ts[i]?,ts[j]? with
 | some a,some b=>bL a b
 | _,_=>false
def Pe {ts:List T}(h:(ts.map xR).Nodup):TO (l6 ts) ts.length:=by
 refine ⟨λi j hi hj e => ?_,λi j k hi hj hk e1 e2 => ?_,λi j hi hj hij => ?_⟩
 ·unfold l6 at e ⊢
  obtain ⟨a,ha⟩:∃ a,ts[i]? = some a:=⟨ts[i],by simp [hi]⟩
  obtain ⟨b,hb⟩:∃ b,ts[j]? = some b:=⟨ts[j],by simp [hj]⟩
  rw [ha,hb] at e ⊢;exact decide_eq_false (List.lt_asymm (of_decide_eq_true e))
 ·unfold l6 at e1 e2 ⊢
  obtain ⟨a,ha⟩:∃ a,ts[i]? = some a:=⟨ts[i],by simp [hi]⟩
  obtain ⟨b,hb⟩:∃ b,ts[j]? = some b:=⟨ts[j],by simp [hj]⟩
  obtain ⟨c,hc⟩:∃ c,ts[k]? = some c:=⟨ts[k],by simp [hk]⟩
  rw [ha,hb] at e1;rw [hb,hc] at e2;rw [ha,hc];exact decide_eq_true (List.lt_trans (of_decide_eq_true e1) (of_decide_eq_true e2))
 ·unfold l6
  obtain ⟨a,ha⟩:∃ a,ts[i]? = some a:=⟨ts[i],by simp [hi]⟩
  obtain ⟨b,hb⟩:∃ b,ts[j]? = some b:=⟨ts[j],by simp [hj]⟩
  rw [ha,hb]
  have hne:xR a≠xR b:=λe=>by
   have h1:(ts.map xR)[i]? = some (xR a):=by rw [List.getElem?_map,ha];rfl
   have h2:(ts.map xR)[j]? = some (xR b):=by rw [List.getElem?_map,hb];rfl
   rw [<- e] at h2;exact hij ((List.getElem?_inj (by simpa using hi) h).mp (h1.trans h2.symm))
  by_cases hl:xR a < xR b
  ·exact .inl (decide_eq_true hl)
  ·refine .inr (decide_eq_true ?_)
   exact Classical.byContradiction λz=>hne (rY hl z)
def Qy (h:(ts.map xR).Nodup)(hq:Pm q ts.length)(u:Up (l6 ts) q ts.length):q.toList.map (λi=>(ts[i]?).getD .non)=kI ts:=by
 have hp:(q.toList.map (λi=>(ts[i]?).getD .non)).Perm ts:=by
  have h1:(q.toList.map (λi=>(ts[i]?).getD .non)).Perm ((List.range ts.length).map (λi=>(ts[i]?).getD .non)):=hq.perm.map _
  have h2:(List.range ts.length).map (λi=>(ts[i]?).getD .non)=ts:=by
   apply List.ext_getElem?;intro i;rw [List.getElem?_map]
   by_cases hi:i < ts.length
   ·simp [hi]
   ·simp [hi]
  rw [h2] at h1;exact h1
 refine List.Perm.eq_of_pairwise (λa b _ _ h1 h2 => ?_) ?_ (fg h) (hp.trans (ki ts).symm)
 ·exact absurd (of_decide_eq_true h2) (List.lt_asymm (of_decide_eq_true h1))
 ·rw [List.pairwise_iff_getElem]
  intro i j hi hj hij;rw [List.length_map,Array.length_toList,hq.size] at hi hj;have e:=u i j hij hj;have hi':i < q.size:=by rw [hq.size];exact hi
  have hj':j < q.size:=by rw [hq.size];exact hj
  have g1:q.getD i 0=q[i]:=by simp [Array.getD,hi']
  have g2:q.getD j 0=q[j]:=by simp [Array.getD,hj']
  rw [g1,g2] at e;have b1:q[i] < ts.length:=by rw [<- g1];exact hq.lt hi
  have b2:q[j] < ts.length:=by rw [<- g2];exact hq.lt hj
  simp only [List.getElem_map,Array.getElem_toList];unfold l6 at e;have c1:ts[q[i]]? = some ts[q[i]]:=by simp [b1]
  have c2:ts[q[j]]? = some ts[q[j]]:=by simp [b2]
  rw [c1,c2] at e ⊢;exact e
def dR {K:W.Frag}{F:Addr->Prop}{H:Hp}{vs:List V}(h:IsAll K F H [] vs):vs=[]:=by unfold IsAll at h;exact h
section
variable {X:Cx}{pins:List (Addr×Obj)}{σ:St}{H:Hp}{s:Shared}{F:Addr->Prop}
theorem l7:∀ {ts:List T} {vs:List V} {us:List Value},ts.all ZQ=true->IsAll X.K F H ts vs->zJ vs us->∃ ss,StrsAre us ss
 | [],vs,us,_,i,r=>by
  have:=dR i;subst this;cases r;exact ⟨[],.nil⟩
 | t :: ts,vs,us,h,i,r=>by
  unfold IsAll at i;obtain ⟨v,w,rfl,i1,i2⟩:=i
  cases r with
  | cons r1 r2 =>
  rw [List.all_cons,Bool.and_eq_true] at h;obtain ⟨ss,hs⟩:=l7 h.2 i2 r2;cases t<;>simp only [ZQ,Bool.false_eq_true,false_and] at h
  case str z =>
   unfold Is at i1;subst i1;obtain ⟨tk,rfl⟩:=r1;exact ⟨z :: ss,.cons z tk hs⟩
theorem V5 {prog:Program}{w:World}{A:Around}{E:Value->Shared->Prop}{s:Shared}{a b:T}{x y:V}{u v:Value}{K:W.Frag}{C:Bool->Shared->Prop}(ha:ZQ a=true)(hb:ZQ b=true)(ia:Is K F H a x)(ib:Is K F H b y)(ra:L2.RelV x u)(rb:L2.RelV y v)
  (h:C (bL a b) s):wpAny (model prog w) A (keyLt' oneType' u v) C E s:=by
 cases a<;>simp only [ZQ,Bool.false_eq_true] at ha
 case str a =>
  cases b<;>simp only [ZQ,Bool.false_eq_true] at hb
  case str b =>
   unfold Is at ia ib;subst ia ib;obtain ⟨t,rfl⟩:=ra;obtain ⟨t',rfl⟩:=rb;refine kas_lt_str ?_
   have:bL (.str a) (.str b)=decide (a.cps.toList < b.cps.toList):=by
    unfold bL xR;refine decide_eq_decide.mpr ⟨λh => ?_,λh => ?_⟩
    ·rcases List.cons_lt_cons_iff.mp h with h | ⟨_,h⟩
     ·exact h
     ·exact absurd h (by simp)
    ·exact List.cons_lt_cons_iff.mpr (.inl h)
   rw [<- this];exact h
theorem ni:∀ (xs:List Value) (i:Nat),Q fin s->KatLex prog w A b fin Q (xs.zip xs) i s
 | [],i,h=>h
 | x :: xs,i,h=>by
  rw [List.zip_cons_cons];exact kat_cons (SeqAt.EqAt.same x _ _ _ _ (kat_yes (ni xs (i + 1) h)))
theorem uG {K:W.Frag}{a1 a2:Str}{ar:List T}{vs:List V}{us:List Value}(i:IsAll K F H (.str a1 :: .str a2 :: ar) vs)(r:zJ vs us):∃ t1 t2 ur,us=.str a1 t1 :: .str a2 t2 :: ur:=by
 unfold IsAll at i;obtain ⟨v1,w1,rfl,i1,i2⟩:=i;unfold IsAll at i2;obtain ⟨v2,w2,rfl,i3,i4⟩:=i2;unfold Is at i1 i3;subst i1 i3
 cases r with
 | cons r1 r2 =>
  cases r2 with
  | cons r3 r4 =>
   obtain ⟨t1,rfl⟩:=r1;obtain ⟨t2,rfl⟩:=r3;exact ⟨t1,t2,_,rfl⟩
theorem V6:bL (.tup (.str a1 :: .str a2 :: ar)) (.tup (.str b1 :: .str b2 :: br))=if (a1 == b1)=true then decide (a2.cps.toList < b2.cps.toList) else decide (a1.cps.toList < b1.cps.toList):=by
 have ext:∀ {x y:Str},x.cps.toList=y.cps.toList->x=y:=by
  intro x y h;cases x;cases y;simp only [Str.mk.injEq];exact Array.toList_inj.mp h
 unfold bL xR
 by_cases e:a1=b1
 ·subst e
  rw [if_pos (by simp)];refine decide_eq_decide.mpr ⟨λh => ?_,λh => ?_⟩
  ·rcases List.cons_lt_cons_iff.mp h with h | ⟨_,h⟩
   ·exact absurd h (List.lt_irrefl _)
   ·rcases List.cons_lt_cons_iff.mp h with h | ⟨_,h⟩
    ·exact h
    ·exact absurd h (by simp)
  ·exact List.cons_lt_cons_iff.mpr (.inr ⟨rfl,List.cons_lt_cons_iff.mpr (.inl h)⟩)
 ·rw [if_neg (by simpa using e)]
  refine decide_eq_decide.mpr ⟨λh => ?_,λh => ?_⟩
  ·rcases List.cons_lt_cons_iff.mp h with h | ⟨h,_⟩
   ·exact h
   ·exact absurd (ext h) e
  ·exact List.cons_lt_cons_iff.mpr (.inl h)
theorem V7
  (hp:IsTup s.heap p (List.toArray (.str a1 t1 :: .str a2 t2 :: ur))) (hq:IsTup s.heap q (List.toArray (.str b1 t3 :: .str b2 t4 :: wr)))
  (hd:xR (.tup (.str a1 :: .str a2 :: ar))≠xR (.tup (.str b1 :: .str b2 :: br))\/p=q) (h:C (bL (.tup (.str a1 :: .str a2 :: ar)) (.tup (.str b1 :: .str b2 :: br))) s) :
  wpAny (model prog w) A (keyLt' (tuples' true) (.ref p) (.ref q)) C E s:=by
 obtain ⟨o1,e1,c1,n1,d1⟩:=id hp;obtain ⟨o2,e2,c2,n2,d2⟩:=id hq;refine kat_lt e1 d1 e2 d2 ?_
 rcases hd with hd | hd
 ·rw [V6] at h
  show KatLex prog w A true _ C ((Value.str a1 t1,Value.str b1 t3) :: (Value.str a2 t2,Value.str b2 t4) :: ur.zip wr) 0 s;refine kat_cons (SeqAt.EqAt.str_str a1 t1 b1 t3 _ _ _ _ ?_)
  by_cases x1:(a1 == b1)=true
  ·rw [x1]
   rw [if_pos x1] at h;refine kat_yes (kat_cons (SeqAt.EqAt.str_str a2 t2 b2 t4 _ _ _ _ ?_))
   have x2:(a2 == b2)=false:=by
    cases z:a2 == b2 with
    | false=>rfl
    | true =>
     exfalso;refine hd ?_;have z1:a1=b1:=by simpa using x1
     have z2:a2=b2:=by simpa using z
     rw [z1,z2]
     rfl
   rw [x2];exact kat_no (kat_one _ _ (PyProof.Rows.lt_str h))
  ·have x1':(a1 == b1)=false:=by simpa using x1
   rw [x1'];rw [if_neg x1] at h;exact kat_no (oneLt_str h)
 ·subst hd
  rw [e1] at e2;cases e2;rw [d1] at d2
  have:Value.str a1 t1 :: Value.str a2 t2 :: ur=Value.str b1 t3 :: Value.str b2 t4 :: wr:=by
   have:=d2;injection this with this _
   simpa using this
  rw [<- this];refine ni _ 0 ?_
  have hirr:bL (.tup (.str a1 :: .str a2 :: ar)) (.tup (.str b1 :: .str b2 :: br))=false:=by
   injection this with g1 g2
   injection g1 with g1 _
   injection g2 with g2 _
   injection g2 with g2 _
   subst g1 g2;unfold bL xR;exact decide_eq_false (List.lt_irrefl _)
  rw [hirr] at h;have:decide ((Value.str a1 t1 :: Value.str a2 t2 :: ur).toArray.size < (Value.str a1 t1 :: Value.str a2 t2 :: ur).toArray.size)=false:=decide_eq_false (Nat.lt_irrefl _);rw [this];exact h
theorem l8 {K:W.Frag}{ts:List T}{vs:List V}(h:IsAll K F H ts vs):∀ {is:List Nat},(∀ i∈is,i < ts.length)->IsAll K F H (is.map λi=>(ts[i]?).getD .non) (is.map λi=>(vs[i]?).getD .non)
 | [],_=>IsAll.nil
 | i :: is,hi=>by
  have h0:=hi i List.mem_cons_self;obtain ⟨v,hv,q⟩:=h.get (i:=i) (t:=ts[i]) (by simp [h0]);refine IsAll.cons ?_ (l8 h λj hj=>hi j (List.mem_cons_of_mem _ hj));show Is K F H ((ts[i]?).getD T.non) ((vs[i]?).getD V.non);rw [hv];have:ts[i]? = some ts[i]:=by simp [h0]
  rw [this];exact q
theorem eL (h:zJ vs us):∀ {is:List Nat},(∀ i∈is,i < vs.length)->zJ (is.map λi=>(vs[i]?).getD .non) (is.map λi=>us.getD i Value.none)
 | [],_=>.nil
 | i :: is,hi=>by
  have h0:=hi i List.mem_cons_self;obtain ⟨u,hu,q⟩:=h.get (i:=i) (x:=vs[i]) (by simp [h0]);refine .cons ?_ (eL h λj hj=>hi j (List.mem_cons_of_mem _ hj));have e1:vs[i]? = some vs[i]:=by simp [h0]
  have e2:us.getD i Value.none=u:=by rw [List.getD_eq_getElem?_getD,hu];rfl
  show L2.RelV ((vs[i]?).getD V.non) (us.getD i Value.none);rw [e1,e2];exact q
theorem nX (h:zJ vs us)(hi:i < us.length):∃ v,vs[i]? = some v/\L2.RelV v (us.getD i Value.none):=by
 have hl:=h.length;obtain ⟨u,hu,q⟩:=h.get (i:=i) (x:=vs[i]'(by omega)) (by simp);refine ⟨vs[i]'(by omega),by simp,?_⟩;rw [List.getD_eq_getElem?_getD,hu];exact q
theorem l9 (h:YY t=true):∃ a b r,t=.tup (.str a :: .str b :: r):=by
 unfold YY at h
 split at h
 ·rename_i a b r
  exact ⟨a,b,r,rfl⟩
 ·cases h
theorem lc (I:zk X pins σ H s){h':Heap}(kp:∀ b o,s.heap.get? b=some o->h'.get? b=some o):∀ {ts:List T} {vs:List V} {us:List Value},ts.all YY=true->IsAll X.K F H ts vs->zJ vs us ->
  ∃ fs,KatTups h' us fs/\fs.length=us.length/\∀ v∈fs,∃ z t,v=.str z t
 | [],vs,us,_,i,r=>by
  have:=dR i;subst this;cases r;exact ⟨[],trivial,rfl,λv h=>by cases h⟩
 | t :: ts,vs,us,h,i,r=>by
  unfold IsAll at i;obtain ⟨v,w,rfl,i1,i2⟩:=i
  cases r with
  | cons r1 r2 =>
  rw [List.all_cons,Bool.and_eq_true] at h;obtain ⟨fs,hf,hl,hs⟩:=lc I kp h.2 i2 r2;obtain ⟨a,b,ar,rfl⟩:=l9 h.1;unfold Is at i1;obtain ⟨p,ps,rfl,g1,g2⟩:=i1;cases r1;obtain ⟨its,rv,pl,_⟩:=I.tuple g1;obtain ⟨t1,t2,ur,rfl⟩:=uG g2 rv;obtain ⟨o,e,c,n,d⟩:=pl
  exact ⟨.str a t1 :: fs,KatTups.cons (kp _ _ e) c d (by simp) hf,by rw [List.length_cons,List.length_cons,hl],λv hv=>by
   rcases List.mem_cons.mp hv with rfl | hv
   ·exact ⟨a,t1,rfl⟩
   ·exact hs v hv⟩
theorem eM {ts us:List T}{l:Addr}{vs:List V}{its:List Value}{o:Obj}{n:Nat}{Ty:String}{Q:VK}{E:Value->Shared->Prop}(I:zk X pins σ H s)(d:iD F H)(ia:IsAll X.K F H ts vs)(r:zJ vs its)
  (ho:s.heap.get? l=some o) (hc:o.cls=.type Ty) (hd:o.data=.seq its.toArray n) (hT:Ty = "list" \/ Ty = "tuple") (e:sortS ts=some us)
  (q:∀ v F' H',jE F H F' H'->wu X.K (λa=>H a=none) F' H' v (true,.lst us)->Q v H'):wpAny (model X.prog X.w) X.A (call (.builtin "sorted") [.ref l]) (EP X pins σ Q) E s:=by
 unfold sortS at e
 split at e
 ·rename_i hcnd
  obtain ⟨h64,hk,nd⟩:=hcnd;cases e;have l1:=ia.len;have l2:=r.length;have T0:=Pe nd;have hlen:its.length=ts.length:=by omega
  have fin:∀ qa:Array Nat,Pm qa its.length->Up (l6 ts) qa its.length->EP X pins σ Q (.ref (s.heap.objs.size + 1)) { s with heap:=sortedAll s.heap its (List.toArray (qa.toList.map λi=>its.getD i Value.none)) }:=by
   intro qa hq hu;rw [hlen] at hq hu;have hb:∀ i∈qa.toList,i < ts.length:=λi hi=>List.mem_range.mp (hq.perm.mem_iff.mp hi);have e1:=Qy nd hq hu;obtain ⟨ep,hep⟩:=sortedAll_at s.heap its (List.toArray (qa.toList.map λi=>its.getD i Value.none));have hfresh:H (s.heap.objs.size + 1)=none:=I.hok.fresh (Nat.le_succ _);have hz:(qa.toList.map λi=>(vs[i]?).getD .non).length<=sizeLine:=by rw [List.length_map,Array.length_toList,hq.size,sizeLine_eq];omega
   refine ⟨.ref (s.heap.objs.size + 1),zW H (s.heap.objs.size + 1) (.lst (qa.toList.map λi=>(vs[i]?).getD .non)),I.laid (λb ob e=>sortedAll_old e) (Nat.le_succ _) ?_,rfl,?_⟩
   ·exact ⟨hz,_,ep,eL r (λi hi=>by have:=hb i hi;omega),hep⟩
   ·have:=l8 ia hb
    rw [e1] at this;exact WS d this hfresh q
  rcases hk with hk | hk
  ·refine eK (κ:=oneType') ho hc hd hT (by omega) (by rw [hlen];exact T0) (λh2 h' kp=>⟨λQ' hQ => ?_,λi j C hi hj hC => ?_⟩) fin
   ·obtain ⟨ss,hs⟩:=l7 hk ia r
    match its,h2,hs with
    | v₁ :: v₂ :: rest,_,hs =>
     rw [keyKind_strs hs];exact wpAny_pure hQ
   ·obtain ⟨vi,hvi,ri⟩:=nX r hi
    obtain ⟨vj,hvj,rj⟩:=nX r hj;have bi:i < ts.length:=by omega
    have bj:j < ts.length:=by omega
    obtain ⟨vi',hvi',qi⟩:=ia.get (i:=i) (t:=ts[i]) (by simp [bi]);obtain ⟨vj',hvj',qj⟩:=ia.get (i:=j) (t:=ts[j]) (by simp [bj]);rw [hvi] at hvi';cases hvi';rw [hvj] at hvj';cases hvj';have hall:=List.all_eq_true.mp hk;refine V5 (hall _ (List.getElem_mem bi)) (hall _ (List.getElem_mem bj)) qi qj ri rj ?_
    have:l6 ts i j=bL ts[i] ts[j]:=by
     unfold l6;have c1:ts[i]? = some ts[i]:=by simp [bi]
     have c2:ts[j]? = some ts[j]:=by simp [bj]
     rw [c1,c2]
    rw [<- this];exact hC
  ·refine eK (κ:=tuples' true) ho hc hd hT (by omega) (by rw [hlen];exact T0) (λh2 h' kp=>⟨λQ' hQ => ?_,λi j C hi hj hC => ?_⟩) fin
   ·obtain ⟨fs,hf,hfl,hfs⟩:=lc I kp hk ia r
    refine kat_kind (T:=.type "str") hf (by omega) (λv hv => ?_) (by decide +kernel) ?_
    ·obtain ⟨z,t,rfl⟩:=hfs v hv
     exact Looks.now
    ·have:(Value.type "str" != Value.type "tuple")=true:=by decide +kernel
     rw [this];exact hQ
   ·obtain ⟨vi,hvi,ri⟩:=nX r hi
    obtain ⟨vj,hvj,rj⟩:=nX r hj;have bi:i < ts.length:=by omega
    have bj:j < ts.length:=by omega
    obtain ⟨vi',hvi',qi⟩:=ia.get (i:=i) (t:=ts[i]) (by simp [bi]);obtain ⟨vj',hvj',qj⟩:=ia.get (i:=j) (t:=ts[j]) (by simp [bj]);rw [hvi] at hvi';cases hvi';rw [hvj] at hvj';cases hvj';have hall:=List.all_eq_true.mp hk
    have this:l6 ts i j=bL ts[i] ts[j]:=by
     unfold l6;have c1:ts[i]? = some ts[i]:=by simp [bi]
     have c2:ts[j]? = some ts[j]:=by simp [bj]
     rw [c1,c2]
    rw [this] at hC
    have hd:xR ts[i]≠xR ts[j]\/vi=vj:=by
     by_cases hij:i=j
     ·subst hij
      rw [hvi] at hvj;exact .inr (Option.some.inj hvj)
     ·refine .inl λe=>hij ?_
      have h1:(ts.map xR)[i]? = some (xR ts[i]):=by rw [List.getElem?_map];simp [bi]
      have h2:(ts.map xR)[j]? = some (xR ts[j]):=by rw [List.getElem?_map];simp [bj]
      rw [<- e] at h2;exact (List.getElem?_inj (by simpa using bi) nd).mp (h1.trans h2.symm)
    obtain ⟨a1,a2,ar,ea⟩:=l9 (hall _ (List.getElem_mem bi));obtain ⟨b1,b2,br,eb⟩:=l9 (hall _ (List.getElem_mem bj));rw [ea] at qi hC hd;rw [eb] at qj hC hd;unfold Is at qi qj;obtain ⟨p,ps,rfl,g1,g2⟩:=qi;obtain ⟨p',ps',rfl,g3,g4⟩:=qj;have e1:its.getD i Value.none=.ref p:=ri;have e2:its.getD j Value.none=.ref p':=rj;rw [e1,e2];obtain ⟨i1,rv1,pl1,_⟩:=I.tuple g1;obtain ⟨i2,rv2,pl2,_⟩:=I.tuple g3;obtain ⟨t1,t2,ur,rfl⟩:=uG g2 rv1;obtain ⟨t3,t4,wr,rfl⟩:=uG g4 rv2;have up:∀ {c:Addr} {xs:Array Value},IsTup s.heap c xs->IsTup h' c xs:=λ⟨o,e,r⟩=>⟨o,kp _ _ e,r⟩;exact V7 (up pl1) (up pl2) (hd.imp id λz=>by injection z) hC
 ·cases e
end
def ZR:ke X (.builtin "sorted") (WR X.K gR):=by
 intro pins s σ H xs us Q I r h;obtain ⟨F,ts,rv,d,ia,e,q⟩:=h
 match ts,e with
 | [.lst ts],e =>
  simp only [gR,Option.map_eq_some_iff] at e;obtain ⟨ss,es,rfl⟩:=e;obtain ⟨v,rfl,i⟩:=iI ia;obtain ⟨u,rfl,ru⟩:=mq r;unfold Is at i;obtain ⟨a,vs,rfl,g1,g2⟩:=i;cases ru;obtain ⟨its,r',pl,hz⟩:=I.list g1.sq;obtain ⟨o,ho,hc,n,hd⟩:=pl.isList;exact eM I d g2 r' ho hc hd (.inl rfl) es q
 | [.tup ts],e =>
  simp only [gR,Option.map_eq_some_iff] at e;obtain ⟨ss,es,rfl⟩:=e;obtain ⟨v,rfl,i⟩:=iI ia;obtain ⟨u,rfl,ru⟩:=mq r;unfold Is at i;obtain ⟨a,vs,rfl,g1,g2⟩:=i;cases ru;obtain ⟨its,r',pl,hz⟩:=I.tuple g1;obtain ⟨o,ho,hc,n,hd⟩:=pl;exact eM I d g2 r' ho hc hd (.inr rfl) es q
end L3
namespace L3
open PySem PySem.Spec PyProof.Rows L2
def fU:∀ (names:List (Str×NameKind)) (acc:List (Str×Addr)),(∀ y,(y,NameKind.free)∈names->∃ c,env.cells.lookup y=some c) ->
  ∃ cl,(forIn names acc λ(x:Str×NameKind) (cs:List (Str×Addr))=>(if (x.2 == NameKind.free)=true then do let a <- cellOf env x.1;pure (ForInStep.yield ((x.1,a) :: cs)) else pure (ForInStep.yield cs):Sem (ForInStep (List (Str×Addr)))))=pure cl /\
   (∀ y c,cl.lookup y=some c->acc.lookup y=some c\/env.cells.lookup y=some c)/\(∀ y,((y,NameKind.free)∈names\/∃ c,acc.lookup y=some c)->∃ c,cl.lookup y=some c)
 | [],acc,h=>⟨acc,by rw [List.forIn_nil],λy c e=>.inl e,λy z=>by
  rcases z with z | z
  ·cases z
  ·exact z⟩
 | (n,k) :: r,acc,h=>by
  rw [List.forIn_cons]
  by_cases hk:(k == NameKind.free)=true
  ·have hk':k=NameKind.free:=by simpa using hk
   subst hk';obtain ⟨c,hc⟩:=h n List.mem_cons_self;obtain ⟨cl,e,h1,h2⟩:=fU r ((n,c) :: acc) λy hy=>h y (List.mem_cons_of_mem _ hy);refine ⟨cl,?_,λy d ed => ?_,λy z => ?_⟩
   ·have e2:cellOf env n=pure c:=by unfold cellOf;rw [hc]
    simp only [hk,if_true,e2,pure_bind];exact e
   ·rcases h1 y d ed with z | z
    ·rw [List.lookup_cons] at z
     cases hy:y == n with
     | true =>
      rw [hy] at z;have:y=n:=by simpa using hy
      subst this;cases z;exact .inr hc
     | false=>rw [hy] at z;exact .inl z
    ·exact .inr z
   ·refine h2 y ?_
    rcases z with z | ⟨d,z⟩
    ·rcases List.mem_cons.mp z with z | z
     ·have:y=n:=by injection z
      subst this;exact .inr ⟨c,by rw [List.lookup_cons];simp⟩
     ·exact .inl z
    ·rw [List.lookup_cons]
     cases hy:y == n with
     | true=>exact .inr ⟨c,rfl⟩
     | false=>exact .inr ⟨d,z⟩
  ·obtain ⟨cl,e,h1,h2⟩:=fU r acc λy hy=>h y (List.mem_cons_of_mem _ hy)
   refine ⟨cl,?_,h1,λy z=>h2 y ?_⟩
   ·simp only [hk,if_false,pure_bind]
    exact e
   ·rcases z with z | z
    ·rcases List.mem_cons.mp z with z | z
     ·have:k=NameKind.free:=by injection z with _ z;exact z.symm
      subst this;exact absurd (by simp) hk
     ·exact .inl z
    ·exact .inr z
def o8 (h:∀ y,(y,NameKind.free)∈scope.names->∃ c,env.cells.lookup y=some c) :
  ∃ cl,closureFor scope env=pure cl/\(∀ y c,cl.lookup y=some c->env.cells.lookup y=some c)/\∀ y,(y,NameKind.free)∈scope.names->∃ c,cl.lookup y=some c:=by
 obtain ⟨cl,e,h1,h2⟩:=fU (env:=env) scope.names [] h;refine ⟨cl,?_,λy c ec => ?_,λy hy=>h2 y (.inl hy)⟩
 ·unfold closureFor
  show (forIn scope.names ([]:List (Str×Addr)) (λ(x:Str×NameKind) (cs:List (Str×Addr))=>(match x with | (name,kind)=>if (kind == NameKind.free)=true then do let a <- cellOf env name;pure (ForInStep.yield ((name,a) :: cs)) else pure (ForInStep.yield cs):Sem (ForInStep (List (Str×Addr))))) >>= λr=>pure r)=pure cl;have e':(forIn scope.names ([]:List (Str×Addr)) λ(x:Str×NameKind) (cs:List (Str×Addr))=>(match x with | (name,kind)=>if (kind == NameKind.free)=true then do let a <- cellOf env name;pure (ForInStep.yield ((name,a) :: cs)) else pure (ForInStep.yield cs):Sem (ForInStep (List (Str×Addr)))))=pure cl:=e;rw [e',pure_bind]
 ·rcases h1 y c ec with z | z
  ·cases z
  ·exact z
structure jH (N:List Str) (fsc scope:Scope) (x:Str) (caps:List Str) (slots:List Nat):Prop where
 kind:scope.kind=.function
 fkind:fsc.kind=.function
 nocell:∀ y∈scope.names,y.2≠.cell
 names:∀ y∈scope.names,y.2=.local->scope.names.lookup y.1=some .local
 hx:scope.names.lookup x=some .local
 free:∀ y∈scope.names,y.2=.free->fsc.names.lookup y.1=some .cell
 cap:∀ y∈caps,scope.names.lookup y=some .free/\fsc.names.lookup y=some .cell
 nd:(x :: caps).Nodup
 len:slots.length=caps.length
 slot:slots.map (λk=>N[k]?)=caps.map some
def wg {l:List (Str×NameKind)}{y:Str}{k:NameKind}(h:l.lookup y=some k):(y,k)∈l:=PySem.mem_of_lookup h
def vE {env:Env} : ∀ {names:List (Str×NameKind)} {y:Str} {k:NameKind},(names.map λ(n,k)=>if (k == NameKind.free && env.scope.kind == .function && env.kindOf n == some .cell)=true then (n,NameKind.cell) else (n,k)).lookup y=some k ->
  ∃ k',names.lookup y=some k'/\(k=k'\/(k'=.free/\k=.cell))
 | [],y,k,h=>by simp at h
 | (n,q) :: r,y,k,h=>by
  rw [List.map_cons,List.lookup_cons] at h;rw [List.lookup_cons]
  by_cases hc:(q == NameKind.free && env.scope.kind == .function && env.kindOf n == some .cell)=true
  ·simp only [hc,if_true] at h
   cases hy:y == n with
   | true =>
    rw [hy] at h;cases h;simp only [Bool.and_eq_true] at hc;exact ⟨q,rfl,.inr ⟨by simpa using hc.1.1,rfl⟩⟩
   | false=>rw [hy] at h;exact vE h
  ·simp only [hc,Bool.false_eq_true,if_false] at h
   cases hy:y == n with
   | true=>rw [hy] at h;cases h;exact ⟨q,rfl,.inl rfl⟩
   | false=>rw [hy] at h;exact vE h
def pT {env:Env}(hk:env.scope.kind=.function):∀ {names:List (Str×NameKind)} {y:Str},names.lookup y=some .free->env.kindOf y=some .cell ->
  (names.map λ(n,k)=>if (k == NameKind.free && env.scope.kind == .function && env.kindOf n == some .cell)=true then (n,NameKind.cell) else (n,k)).lookup y=some .cell
 | [],y,h,_=>by simp at h
 | (n,q) :: r,y,h,hc=>by
  rw [List.map_cons,List.lookup_cons];rw [List.lookup_cons] at h
  cases hy:y == n with
  | true =>
   rw [hy] at h;cases h;have:y=n:=by simpa using hy
   subst this;have hcc:(NameKind.free == NameKind.free && env.scope.kind == .function && env.kindOf y == some .cell)=true:=by rw [hk,hc];rfl
   simp only [hcc,if_true];rw [hy]
  | false =>
   rw [hy] at h;have ih:=pT hk h hc
   by_cases hcc:(q == NameKind.free && env.scope.kind == .function && env.kindOf n == some .cell)=true
   ·simp only [hcc,if_true,hy];exact ih
   ·simp only [hcc,Bool.false_eq_true,if_false,hy];exact ih
def ld {X:Cx}{scope:Scope}{x:Str}{caps:List Str}{slots:List Nat}{L:Nat}(C:jH X.N X.env.scope scope x caps slots)(hc:X.env.cells=cellsFrom L X.env.scope.names []):∃ cl,mI X scope cl x caps slots:=by
 obtain ⟨cl,e,h1,h2⟩:=o8 (scope:=scope) (env:=X.env) λy hy=>by
  rw [hc];exact mx (C.free _ hy rfl)
 refine ⟨cl,C.kind,C.nocell,C.names,C.hx,e,h1,λy hy=>h2 y ?_,λj y hj => ?_,C.nd,C.len⟩
 ·rcases hy with hy | hy
  ·obtain ⟨k',e1,e2 | ⟨e2,_⟩⟩:=vE hy
   ·subst e2;exact absurd rfl (C.nocell _ (wg e1))
   ·subst e2;exact wg e1
  ·obtain ⟨k',e1,e2 | ⟨e2,_⟩⟩:=vE hy
   ·subst e2;exact wg e1
   ·subst e2;exact wg e1
 ·have hl:=C.len
  have hjl:j < caps.length:=(List.getElem?_eq_some_iff.mp hj).1;have hs:=congrArg (λl=>l[j]?) C.slot;simp only [List.getElem?_map,hj,Option.map_some] at hs
  cases hk:slots[j]? with
  | none=>rw [hk] at hs;cases hs
  | some k =>
   rw [hk] at hs;obtain ⟨q1,q2⟩:=C.cap y (List.mem_of_getElem? hj);exact ⟨k,rfl,by injection hs,pT C.fkind q1 q2,q2⟩
section
variable {X:Cx}{scope:Scope}{x:Str}{caps:List Str}{slots:List Nat}{iter elt:Expr}{ifs:List Expr}{px pos:Pos}{it:JG}{mt:MT}{me:ME}{L:Nat}
theorem gS (hc:X.calm=true)(C:jH X.N X.env.scope scope x caps slots)(hcl:X.env.cells=cellsFrom L X.env.scope.names [])(hi:V1 X (.Name x px) iter it)
  (ht:∀ cl C ex pn s₀ H₀,bF (zi X scope cl C (x :: caps) ex pn s₀ H₀) ifs mt) (he:∀ cl C ex pn s₀ H₀,ju (zi X scope cl C (x :: caps) ex pn s₀ H₀) elt me)
  (hs:∀ v,foldedSetIterable iter X.env v=pure v:=by intro _;rfl) (hg:∀ it v,letOwnedTupleGo (.Name x px) it v=pure ():=by intro _ _;rfl) :
  ju X (.ListComp elt [⟨.Name x px,iter,ifs,0⟩] scope pos) (jf it mt me slots):=by
 obtain ⟨cl,S⟩:=ld C hcl;exact Qw hc S hi (ht cl) (he cl) hs hg
theorem rZ (hg:Gl X y)(h:∃ t,X.mg y=some (.str z t))(hd:(y == ("__debug__" : Str))=false:=by decide):ju X (.Name y pos) (mC (.str z)):=⟨_,Yg hg h hd,nc λ_ _=>vX⟩
theorem V8 (hg:Gl X y)(h:∃ t,X.mg y=some (.int z t))(hd:(y == ("__debug__" : Str))=false:=by decide):ju X (.Name y pos) (mC (.int z)):=⟨_,Yh hg h hd,nc λ_ _=>xg⟩
theorem gn (hg:Gl X y)(hm:X.mg y=none)(hv:bootBuiltins y=some (.type n))(hn:y ≠ "__name__" := by decide)(hd:(y == ("__debug__" : Str))=false:=by decide):ju X (.Name y pos) (mC (.ty n)) :=
 ⟨_,Wo (v:=.ty n) hg hm hv rfl hn hd,nc λ_ _=>by unfold Is;rfl⟩
def Qz (K:W.Frag)(mg:Str->Option Value)(y:Str)(zs:List Str):Prop := ∃ a o its n,mg y=some (.ref a)/\K.lookup a=some o/\o.cls=.type "tuple" /\ o.data=.seq its n/\its.size<=sizeLine/\zJ (zs.map V.str) its.toList
theorem Z0 {K:W.Frag}{F:Addr->Prop}{H:Hp} : ∀ (zs:List Str),IsAll K F H (zs.map T.str) (zs.map V.str)
 | []=>IsAll.nil
 | z :: zs=>IsAll.cons vX (Z0 zs)
theorem V9 (hg:Gl X y)(h:Qz X.K X.mg y zs)(hd:(y == ("__debug__" : Str))=false:=by decide):ju X (.Name y pos) (mC (.tup (zs.map T.str))):=by
 obtain ⟨a,o,its,n,hm,hl,hc,hdt,hz,hv⟩:=h;refine ⟨_,nT (v:=.ref a) hg hm rfl hd,nc λF H => ?_⟩;unfold Is;exact ⟨a,_,rfl,.inr ⟨o,its,n,hl,hc,hdt,hz,hv⟩,Z0 zs⟩
end
def o9 (hr:jD k A):A.units + 41 < cLine:=Nat.lt_of_le_of_lt (Nat.add_le_add_left (by decide:41<=64) _) hr.units
def xE (hr:jD k A):A.units + 40 < cLine:=Nat.lt_of_le_of_lt (Nat.add_le_add_left (by decide:40<=64) _) hr.units
def jF (hr:jD k A):A.units + 1 < cLine:=Nat.lt_of_le_of_lt (Nat.add_le_add_left (by decide:1<=64) _) hr.units
abbrev Gm:=List T->En->Option En
def Pf (X:Cx)(g:VX)(tg:Gm):Prop := ∀ (B:Bs) (F:Addr->Prop) (H:Hp) (σ:St) (env env':En) (vs:List V) (ts:List T) (Q:St->Hp->Prop),zQ X.K B F H σ env->IsAll X.K F H ts vs->tg ts env=some env'->(∀ σ',zQ X.K B F H σ' env'->Q σ' H)->g vs σ H Q
def Va (X:Cx)(es:List Expr)(tg:Gm):Prop := ∃ g,GC X es g/\Pf X g tg
def cR:Gm:=λts env=>if ts=[] then some env else none
def qT (g:MG)(gs:Gm):Gm:=λts env=>match ts with
 | t :: ts=>(g t env).bind λe1=>gs ts e1
 | []=>none
def cS (n:Nat)(gs:Gm):MG:=λt env=>match t with
 | .tup ts=>if ts.length=n then gs ts env else none
 | _=>none
def lf:Va X [] cR:=by
 refine ⟨_,rf,?_⟩;intro B F H σ env env' vs ts Q R ia h q;unfold cR at h
 split at h
 ·rename_i hts
  subst hts;cases h;exact ⟨dR ia,q σ R⟩
 ·cases h
def xM (h1:WZ X e g)(h2:Va X es gs)(hs:(assignEach (e :: es) X.env).map (·.2)=assign e X.env :: (assignEach es X.env).map (·.2):=by rfl):Va X (e :: es) (qT g gs):=by
 obtain ⟨t1,p1,s1⟩:=h1;obtain ⟨t2,p2,s2⟩:=h2;refine ⟨_,m8 p1 p2 hs,?_⟩;intro B F H σ env env' vs ts Q R ia h q;unfold qT at h
 cases ts with
 | nil=>cases h
 | cons t ts =>
  dsimp only at h
  cases hg:g t env with
  | none=>rw [hg] at h;cases h
  | some e1 =>
   rw [hg] at h;unfold IsAll at ia;obtain ⟨v,r,rfl,i1,i2⟩:=ia;exact ⟨v,r,rfl,s1 B F H σ env e1 v t _ R i1 hg λσ1 R1=>s2 B F H σ1 e1 env' r ts Q R1 i2 h q⟩
def lg (hc:X.calm=true)(h:Va X es gs)(hn:(assignEach es X.env).length=n:=by rfl)(hst:(assignEach es X.env).findIdx? (·.1)=none:=by rfl):WZ X (.Tuple es k pos) (cS n gs):=by
 obtain ⟨t,p,s⟩:=h;refine ⟨_,JU hc p hn hst,?_⟩;intro B F H σ env env' v t Q R iv h q;unfold cS at h;cases t<;>simp only [reduceCtorEq] at h
 case tup ts =>
  split at h
  ·rename_i hl
   unfold Is at iv;obtain ⟨a,vs,rfl,g1,g2⟩:=iv;exact ⟨a,vs,rfl,g1,by rw [<- g2.len];exact hl,s B F H σ env env' vs ts Q R g2 h q⟩
  ·cases h
def Z2 (m:ME)(g:MG):MS:=λenv=>match xm m env with
 | .ok (r,env')=>(match g r.2 env' with
  | some e1=>.nx e1
  | none=>.bad)
 | .exc x=>.exc x env
 | .bad=>.bad
def QA (he:ju X e m)(hg:WZ X tg g)(hs:swapsWithSole [tg] e pos.line X.env=pure false:=by rfl)(hw:swappedStores [tg] e X.env=pure none:=by rfl)
  (h1:(assignEach [tg] X.env).map (·.2)=[assign tg X.env]:=by rfl):mR X (.Assign [tg] e pos) (Z2 m g):=by
 obtain ⟨te,pe,se⟩:=he;obtain ⟨t,p,s⟩:=hg;refine ⟨_,mf pe p hs hw h1,?_⟩;intro B F H σ env D R w;unfold Z2 at w;refine se.run R (λr env' er v F' H' R' iv old kp => ?_) (λx er ev F' H' R' ix pins s' I => ?_) λer => ?_
 ·rw [er] at w
  dsimp only at w;obtain ⟨F2,R2,i2,_⟩:=R'.freeze iv (λa q=>zH R.fr q) old
  split at w
  ·rename_i e1 he1
   exact s B F2 H' σ env' e1 v r.2 _ R2 i2 he1 λσ' R3=>w F2 H' σ' R3
  ·exact w.elim
 ·rw [er] at w;exact w ev F' H' σ R' ix pins s' I
 ·rw [er] at w;exact w
def ZS (m n:ME):ME:=λenv=>match m env with
 | .bad=>n env
 | r=>r
def YZ (h:ju X e m)(g:ju X e n):ju X e (ZS m n):=by
 obtain ⟨t,p,s⟩:=h;obtain ⟨u,p',s'⟩:=g;refine ⟨λσ H Q=>t σ H Q\/u σ H Q,λpins sh σ H Q I w => ?_,λF H σ env Q R nb ok ex => ?_⟩
 ·rcases w with w | w
  ·exact p pins sh σ H Q I w
  ·exact p' pins sh σ H Q I w
 ·unfold ZS at nb ok ex
  cases hm:m env with
  | bad=>rw [hm] at nb ok ex;exact .inr (s' F H σ env Q R nb ok ex)
  | ok r=>rw [hm] at ok;exact .inl (s F H σ env Q R (by rw [hm];intro z;cases z) (λr' e=>by rw [hm] at e;cases e;exact ok r rfl) λx z=>by rw [hm] at z;cases z)
  | exc x=>rw [hm] at ex;exact .inl (s F H σ env Q R (by rw [hm];intro z;cases z) (λr' e=>by rw [hm] at e;cases e) λx' z=>by rw [hm] at z;cases z;exact ex x rfl)
end L3
namespace L2
open PySem PySem.Spec PyProof.Rows
def zk.dropC (I:zk X pins σ H s)(f:pF X pins H C)(hsb:Heap.SameBut C s.heap h'):zk X pins σ H { s with heap:=h' }:=by
 have neC:∀ b u,H b=some u->b≠C:=λb u e z=>by rw [z,f.1] at e;cases e
 refine I.call' (s':={ s with heap:=h' }) (ch:=[C]) rfl ?_ ?_ I.bare λb hb => ?_
 ·have nm:∀ b,b∉[C]->b≠C:=λb n z=>n (by rw [z];exact List.mem_singleton.mpr rfl)
  exact ⟨λb o e n hb hx=>hsb.extBut b o (nm b hx) e,λb o e n hb hx=>⟨o.slots,hsb.extBut b o (nm b hx) e⟩,λb o e n hx=>n,λb o e hx=>⟨o,hsb.extBut b o (nm b hx) e⟩,λ_ _ q=>q,λ_ _ _ q=>q,λ_ ps q=>⟨#[],by rw [Array.append_empty];exact q⟩⟩
 ·exact λb u e=>(I.hok b u e).stay (λc v hc q=>hsb.extBut c v (hc.elim (λz=>by rw [z];exact neC b u e) λz=>neC c _ z) q) (λ_ q=>q) λ_ _ q=>q
 ·have:b=C:=List.mem_singleton.mp hb
  subst this;exact ⟨f.2.2.2.1,f.2.1,f.2.2.2.2.1,f.2.2.2.2.2⟩
def Vb (hN:X.N.Nodup)(hi':X.N[i]? = some y)(hy:cP X.env.scope y)(hc:X.calm=true)(S:mI X scope cl x caps slots)(hi:PI X (.Name x px) iter wi)
  (ht:∀ C ex pn s₀ H₀,JE (zi X scope cl C (x :: caps) ex pn s₀ H₀) ifs tt) (he:∀ C ex pn s₀ H₀,PE (zi X scope cl C (x :: caps) ex pn s₀ H₀) elt te)
  (hsw:swapsWith (.ListComp elt [⟨.Name x px,iter,ifs,0⟩] scope pos) (some (.Name y py)) spos.line X.env=pure true)
  (hs:∀ v,foldedSetIterable iter X.env v=pure v) (hg:∀ it v,letOwnedTupleGo (.Name x px) it v=pure ()) (hf:X.fn y=true\/X.env.scope.names.lookup y=some .local) :
  PS X (.Assign [.Name y py] (.ListComp elt [⟨.Name x px,iter,ifs,0⟩] scope pos) spos) (dr (rF wi tt te slots) (vO i)):=by
 intro pins s σ H D I h;rw [exec_Assign_Name_used _ _ _ _ hsw];refine wpAny_bind (wpAny_standAt (wpAny_bind ?_));show wpAny _ X.A (do let _ <- comprehension (.ListComp elt [⟨.Name x px,iter,ifs,0⟩] scope pos) scope X.env _ (newList []) false (eval iter X.env) (some (assign (.Name y py) X.env))) _ _ s;refine wpAny_bind (wpAny_mono (eI (use:=some (assign (.Name y py) X.env)) (PQ:=λ_ s'=>∃ σ' H',zk X pins σ' H' s'/\D.nx σ' H') I h (λDa C H5 s6 m hn f inv q => ?_) hc S hi ht he hs hg) (λ_ s' hq=>wpAny_pure (wpAny_pure hq)) λ_ _ e=>e);show wpAny _ X.A (assign (.Name y py) X.env (.ref Da)) _ _ s6;have I6:zk X pins σ H5 s6:=inv s6.heap (Heap.SameBut.refl _ _);obtain ⟨o,es,ep,ho,hd,hr⟩:=hn;have I6':=I6.pinned (fp:=[C]) (λb hb=>by rw [List.mem_singleton.mp hb];exact f) (λb hb=>by rw [List.mem_singleton.mp hb];exact ⟨o,ho,λv z=>by rw [hd] at z;cases z⟩);have pg:PG X (.Name y py) (vO i):=gP hN hi' hy hf;refine wpAny_mono (pg _ s6 _ H5 (.ref Da) (.ref Da) D.nx I6' rfl q) (λ_ s8 h8 => ?_) λ_ _ z=>z;obtain ⟨σ8,H8,I8,q8⟩:=h8;have hp:=I8.pin (C,o) (List.mem_append_right _ (List.mem_append_right _ (xO (List.mem_singleton.mpr rfl) ho)));exact ⟨m,⟨o,es,ep,hp.1,hd,hr⟩,λh' hsb=>⟨σ8,H8,I8.unpinned.dropC ⟨hp.2.1,f.2⟩ hsb,q8⟩⟩
end L2
namespace L3
open PySem PySem.Spec PyProof.Rows L2
section
variable {X:Cx}{scope:Scope}{x:Str}{caps:List Str}{slots:List Nat}{iter elt:Expr}{ifs:List Expr}{px pos:Pos}{it:JG}{mt:MT}{me:ME}{L:Nat}
theorem oe (hN:X.N.Nodup)(hi':X.N[i]? = some y)(hy:cP X.env.scope y)(hc:X.calm=true)(C:jH X.N X.env.scope scope x caps slots)(hcl:X.env.cells=cellsFrom L X.env.scope.names [])(hi:V1 X (.Name x px) iter it)
  (ht:∀ cl C ex pn s₀ H₀,bF (zi X scope cl C (x :: caps) ex pn s₀ H₀) ifs mt) (he:∀ cl C ex pn s₀ H₀,ju (zi X scope cl C (x :: caps) ex pn s₀ H₀) elt me)
  (hsw:swapsWith (.ListComp elt [⟨.Name x px,iter,ifs,0⟩] scope pos) (some (.Name y py)) spos.line X.env=pure true:=by rfl)
  (hs:∀ v,foldedSetIterable iter X.env v=pure v:=by intro _;rfl) (hg:∀ it v,letOwnedTupleGo (.Name x px) it v=pure ():=by intro _ _;rfl)
  (hf:X.fn y=true\/X.env.scope.names.lookup y=some .local:=by first | exact .inl rfl | exact .inr rfl | assumption) :
  mR X (.Assign [.Name y py] (.ListComp elt [⟨.Name x px,iter,ifs,0⟩] scope pos) spos) (zn i (jf it mt me slots)):=by
 obtain ⟨cl,S⟩:=ld C hcl;obtain ⟨wi,pi,si⟩:=hi;obtain ⟨tt,ht⟩:=YR (ht cl);obtain ⟨te,he⟩:=YQ (he cl);have s:=bG (slots:=slots) si (ht 0 [] [] X.s₀ X.H₀).2 (he 0 [] [] X.s₀ X.H₀).2;refine ⟨_,Vb (i:=i) hN hi' hy hc S pi (λC ex pn s₀ H₀=>(ht C ex pn s₀ H₀).1) (λC ex pn s₀ H₀=>(he C ex pn s₀ H₀).1) hsw hs hg hf,?_⟩;intro B F H σ env D R w;unfold zn at w;refine s.run R (λr env' e v F' H' R' i' old _ => ?_) (λx e ev F' H' R' i pins s' I => ?_) λe => ?_
 ·rw [e] at w;exact w F' H' _ (R'.put i i' (λa q=>zH R.fr q) old)
 ·rw [e] at w;exact w ev F' H' σ R' i pins s' I
 ·rw [e] at w;exact w
end
def vp (val:Nat->Str)(i:Nat):List Str:=((List.range i).map val).foldl step_dedup []
theorem uH (val:Nat->Str)(i:Nat):vp val (i + 1)=step_dedup (vp val i) (val i):=by
 unfold vp;rw [List.range_succ,List.map_append,List.foldl_append];rfl
theorem dS (val:Nat->Str):∀ i,(vp val i).length<=i
 | 0=>Nat.le_refl _
 | i + 1=>by
  rw [uH];unfold step_dedup;have ih:=dS val i
  split
  ·omega
  ·rw [List.length_append,List.length_singleton];omega
theorem ZT (σ:List Str)(v k:Str):(step_dedup σ v).any (· == k)=(σ.any (· == k) || decide (k=v)):=by
 unfold step_dedup
 by_cases h:σ.any (· == v)=true
 ·rw [if_pos h]
  by_cases e:k=v
  ·subst e;rw [h];simp
  ·simp [e]
 ·rw [if_neg h,List.any_append]
  by_cases e:k=v
  ·subst e;simp
  ·have hb:(v == k)=false:=by simpa [beq_iff_eq] using (λh':v=k=>e h'.symm)
   simp [hb,e]
theorem ZU (σ:List Str)(v:Str):(step_dedup σ v).length=if σ.any (· == v) then σ.length else σ.length + 1:=by
 unfold step_dedup;split<;>simp
def jv (led:Bool):Obj:={ cls:=.type "set",dict:=none,data:=.set #[] 0 (.fresh 0 0 led) }
theorem sub_list_set:isSubtype (.type "list") (.type "set")=pure false:=F.sub_list_set
theorem sub_list_frozenset:isSubtype (.type "list") (.type "frozenset")=pure false:=F.sub_list_frozenset
theorem iJ:isSubtype (.type "tuple") (.type "set")=pure false:=by rw [isSubtype_type];kernel_rfl
theorem gW:isSubtype (.type "tuple") (.type "frozenset")=pure false:=by rw [isSubtype_type];kernel_rfl
section
variable {prog:Program}{w:World}{A:Around}{R:Result->Shared->Prop}{I:Addr}{fp wr:List Addr}{G:Array GenState->Array GenState->Prop}{n:Nat}{P:Nat->Value->Prop}{St:Nat->Shared->Prop}
theorem bM (W:WalksS prog w A.in1 I fp wr G n P St)(S:Addr)(hSf:S∉fp)(val:Nat->Str)(hval:∀ i v,P i v->∃ t,v=.str (val i) t)(hb:n + 1 < scanBound) :
  ∀ (k i:Nat) (s:Shared),n - i=k->i<=n->St i s ->
   s.heap.SetOf (strKind prog w) S (λk'=>(vp val i).any (· == k')) (vp val i).length ->
   (∀ s',Moved (S :: wr) G s s'->s'.heap.SetOf (strKind prog w) S (λk'=>(vp val n).any (· == k')) (vp val n).length->R (.ok (.ret .none)) s') ->
   codeAny (model prog w) A (.builtin "set.update.loop" ⟨[.ref S,.ref I],[]⟩) R s:=by
 have hSw:S∉wr:=λh=>hSf (W.sub _ h);have hsub:∀ b∈wr,b∈S :: wr:=λb hb=>List.mem_cons_of_mem _ hb;intro k
 induction k with
 | zero =>
  intro i s hk hi hst hS hR;have hin:i=n:=by omega
  subst hin;refine codeAny_builtin PyProof.Rows.F.entry_set_update_loop ?_;rw [Around.under_plainId PyProof.Rows.F.plain_set_update_loop _];show wpAny _ A.in1 (pyNext (.ref I) >>= _) _ _ s;refine wpAny_bind (W.done s _ _ hst λs' hm => ?_);show wpAny _ A.in1 (ret Value.none) _ _ s'
  exact wpAny_pure (hR s' (hm.mono hsub) (by
   obtain ⟨o,es,ep,t,ho,rest⟩:=hS
   exact ⟨o,es,ep,t,hm.heap S _ hSw ho,rest⟩))
 | succ k ih =>
  intro i s hk hi hst hS hR;have hlt:i < n:=by omega
  refine codeAny_builtin PyProof.Rows.F.entry_set_update_loop ?_;rw [Around.under_plainId PyProof.Rows.F.plain_set_update_loop _];show wpAny _ A.in1 (pyNext (.ref I) >>= _) _ _ s;refine wpAny_bind (W.item i s _ _ hlt hst λv s' hP hst' hm => ?_);obtain ⟨t,rfl⟩:=hval i v hP
  have hS':s'.heap.SetOf (strKind prog w) S (λk'=>(vp val i).any (· == k')) (vp val i).length:=by
   obtain ⟨o,es,ep,tb,ho,rest⟩:=hS;exact ⟨o,es,ep,tb,hm.heap S _ hSw ho,rest⟩
  show wpAny _ A.in1 (holding [Value.str (val i) t] (setAdd S (.str (val i) t)) >>= _) _ _ s';refine wpAny_bind (wpAny_holding ?_);unfold setAdd;refine wpAny_holding ?_;refine wpAny_bind ((strKind prog w).pyHash (k:=val i) (strKind_is _ _ _ _) ?_);have hroom:(vp val i).length + 1 < scanBound:=by have:=dS val i;omega
  refine wpAny_setAddHashed_of (knd:=strKind prog w) (s:={ s' with toks:=s'.toks + 1 }) (strKind_is _ _ _ _) rfl hS' hroom λh' hsb hS2 => ?_
  have hSi:h'.SetOf (strKind prog w) S (λk'=>(vp val (i + 1)).any (· == k')) (vp val (i + 1)).length :=
   SetOf_congr hS2 (λk'=>by rw [uH,ZT]) (by rw [uH,ZU])
  refine wpAny_pure ⟨plainId_quiet PyProof.Rows.F.plain_set_update_loop _,ih (i + 1) _ (by omega) hlt (W.frame _ s' _ _ hst' (Nat.le_succ _) λb hb o e => ?_) hSi λs'' hm'' hS'' => ?_⟩
  ·rw [hsb.2 b (λh:b=S=>hSf (by rw [<- h];exact hb))];exact e
  ·refine hR s'' (Moved.trans W.gtrans ((hm.mono hsub).then_heap (Nat.le_succ _) λb o hb e => ?_) hm'') hS''
   rw [hsb.2 b (λh:b=S=>hb (by rw [h];exact List.mem_cons_self))];exact e
end
section
variable {prog:Program}{w:World}{A:Around}{E:Value->Shared->Prop}{s:Shared}
set_option maxHeartbeats 3200000 in
theorem iK
  (hh:A.handled=none) (hl:s.heap.IsList l items) (hi:∀ (i:Nat) (v:Value),items[i]? = some v->∃ t,v=.str (val i) t) (hb:items.size + 1 < scanBound)
  (h:∀ (h':Heap) (tk:Nat),h'.SetOf (strKind prog w) s.heap.objs.size (λk'=>(vp val items.size).any (· == k')) (vp val items.size).length ->
   (∀ b o,b < s.heap.objs.size->s.heap.get? b=some o->h'.get? b=some o)->Q (.ref s.heap.objs.size) { s with heap:=h',toks:=tk }) :
  wpAny (model prog w) A (call (.type "set") [.ref l]) Q E s:=by
 obtain ⟨c,tl,hmro⟩:=F.called_set.mro;have hmade:=F.called_set.made;have hsub:=F.called_set.sub;refine wpAny_call (codeAny_of_tree ?_);show wpAny _ _ (callAny (.type "set") _) _ _ _;refine wpAny_pure ⟨Code.quiet_builtin _ (by decide +kernel),codeAny_builtin F.entry_type_call ?_⟩;rw [Around.under_plain (weight_type_call_type "set" [.ref l] []) rfl];have h1:=F.called_set.notType;have h2:=F.called_set.canCreate;have hct:=F.typeCall_set_1 (.ref l)
 repeat (any_goals (first | assumption | wp_step))
 refine codeAny_mono (code_set_new_1 (.ref l) (E:=E) (Q₁:=λobj s₁=>∃ led:Bool,obj=.ref s.heap.objs.size/\s₁ = { s with heap:=s.heap.push (jv led) }) λled=>⟨led,rfl,rfl⟩) λr s₁ hr => ?_
 cases r with
 | error e=>exact hr
 | ok fl =>
  cases fl with
  | ret obj =>
   obtain ⟨led,rfl,rfl⟩:=hr;have hS:(s.heap.push (jv led)).get? s.heap.objs.size=some (jv led):=Heap.get?_push_size _ rfl;have hT:Shared.TypeIs { s with heap:=s.heap.push (jv led) } (.ref s.heap.objs.size) "set" := ⟨_,hS,rfl⟩
   have hli:=F.called_set.init.lookup;have hbi:=F.called_set.init.bind (.ref s.heap.objs.size)
   repeat (any_goals (first | assumption | wp_step))
   refine codeAny_mono (codeAny_call_builtin (R:=wants (λr s₂=>r=.none/\∃ h' tk,s₂ = { s with heap:=h',toks:=tk } /\
     h'.SetOf (strKind prog w) s.heap.objs.size (λk'=>(vp val items.size).any (· == k')) (vp val items.size).length /\
     (∀ b o,b < s.heap.objs.size->s.heap.get? b=some o->h'.get? b=some o)) E) F.called_set.init.plain F.entry_set_init (check_set_init_1 hT ?_)) λr₂ s₂ hr₂ => ?_
   ·obtain ⟨ol,hol,hcl,nl,hdl⟩:=hl
    obtain ⟨ocls,odict,odata,oslots⟩:=ol;simp only at hcl hdl;subst hcl;subst hdl;have hol':(s.heap.push (jv led)).get? l=some { cls:=.type "list",dict:=odict,data:=.seq items nl,slots:=oslots }:=Heap.get?_push_of_some _ hol;have hsls:=sub_list_set;have hslf:=sub_list_frozenset;have hne:(Value.type "list" == Value.type "dict")=false:=by decide
    have hl1:(s.heap.push (jv led)).IsList l items:=⟨_,hol',rfl,nl,rfl⟩
    unfold Builtin.«set.__init__» noKeywords Builtin.Frozenset.updateFrom;generalize hPI:pyIter=PI
    wp_walk
    subst hPI;refine wpAny_pyIter_list hl1 ?_;refine wpAny_bind (wpAny_runValue ?_);have hlS:l < s.heap.objs.size:=Heap.lt_size hol;have hh3:A.in1.in1.in1.handled=none:=by simp [hh]
    have hneI:l≠(s.heap.push (jv led)).objs.size:=by
     rw [Heap.size_push];exact Nat.ne_of_lt (Nat.lt_succ_of_lt hlS)
    have hSf:s.heap.objs.size∉[(s.heap.push (jv led)).objs.size,l]:=by
     rw [Heap.size_push];simp only [List.mem_cons,List.mem_singleton,List.not_mem_nil,or_false,not_or];exact ⟨Nat.ne_of_lt (Nat.lt_succ_self _),Nat.ne_of_gt hlS⟩
    refine bM ((Walks.list hh3 _ l hneI items).toS) s.heap.objs.size hSf val hi hb (items.size - 0) 0 _ (by omega) (Nat.zero_le _)
     ⟨⟨_,Heap.get?_push_size _ rfl,rfl,rfl⟩,⟨_,Heap.get?_push_of_some _ hol',rfl,nl,rfl⟩⟩ ?hS0 ?hR
    case hS0 =>
     have hget:((s.heap.push (jv led)).push { cls:=.type "list_iterator",data:=.fields #[.ref l,.int 0 0] }).get? s.heap.objs.size=some (jv led):=Heap.get?_push_of_some _ hS;exact PyProof.Rows.SetOf_congr ((PyProof.Rows.setObjOf_fresh (knd:=strKind prog w) led).setOf hget (by unfold scanBound;omega)) (λ_=>rfl) rfl
    case hR =>
     intro s' hm hS';obtain ⟨h',g',d',tk',os'⟩:=s';have eg:g'=s.gens:=hm.gens;have ed:d'=s.drawn:=hm.drawn;have eo:os'=s.os:=hm.os;subst eg;subst ed;subst eo;show wpAny _ _ _ _ _ _;refine wpAny_pure ?_;show wpAny _ _ (ret Value.none) _ _ _;refine wpAny_pure ⟨rfl,h',tk',rfl,hS',λb o hb e => ?_⟩;have hb1:b≠s.heap.objs.size:=Nat.ne_of_lt hb
     have hb2:b≠(s.heap.push (jv led)).objs.size:=by
      rw [Heap.size_push];exact Nat.ne_of_lt (Nat.lt_succ_of_lt hb)
     exact hm.heap b o (by simp only [List.mem_cons,List.mem_singleton,List.not_mem_nil,or_false,not_or];exact ⟨hb1,hb2⟩) (Heap.get?_push_of_some _ (Heap.get?_push_of_some _ e))
   ·cases r₂ with
    | error e=>exact hr₂
    | ok fl₂ =>
     cases fl₂ with
     | ret r =>
      obtain ⟨rfl,h',tk,rfl,hS',hk'⟩:=hr₂
      repeat (any_goals (first | assumption | wp_step))
      exact h _ _ hS' hk'
     | _=>exact hr₂.elim
  | _=>exact hr.elim
set_option maxHeartbeats 3200000 in
theorem lh
  (hh:A.handled=none) (hl:s.heap.IsTuple l items) (hi:∀ (i:Nat) (v:Value),items[i]? = some v->∃ t,v=.str (val i) t) (hb:items.size + 1 < scanBound)
  (h:∀ (h':Heap) (tk:Nat),h'.SetOf (strKind prog w) s.heap.objs.size (λk'=>(vp val items.size).any (· == k')) (vp val items.size).length ->
   (∀ b o,b < s.heap.objs.size->s.heap.get? b=some o->h'.get? b=some o)->Q (.ref s.heap.objs.size) { s with heap:=h',toks:=tk }) :
  wpAny (model prog w) A (call (.type "set") [.ref l]) Q E s:=by
 obtain ⟨c,tl,hmro⟩:=F.called_set.mro;have hmade:=F.called_set.made;have hsub:=F.called_set.sub;refine wpAny_call (codeAny_of_tree ?_);show wpAny _ _ (callAny (.type "set") _) _ _ _;refine wpAny_pure ⟨Code.quiet_builtin _ (by decide +kernel),codeAny_builtin F.entry_type_call ?_⟩;rw [Around.under_plain (weight_type_call_type "set" [.ref l] []) rfl];have h1:=F.called_set.notType;have h2:=F.called_set.canCreate;have hct:=F.typeCall_set_1 (.ref l)
 repeat (any_goals (first | assumption | wp_step))
 refine codeAny_mono (code_set_new_1 (.ref l) (E:=E) (Q₁:=λobj s₁=>∃ led:Bool,obj=.ref s.heap.objs.size/\s₁ = { s with heap:=s.heap.push (jv led) }) λled=>⟨led,rfl,rfl⟩) λr s₁ hr => ?_
 cases r with
 | error e=>exact hr
 | ok fl =>
  cases fl with
  | ret obj =>
   obtain ⟨led,rfl,rfl⟩:=hr;have hS:(s.heap.push (jv led)).get? s.heap.objs.size=some (jv led):=Heap.get?_push_size _ rfl;have hT:Shared.TypeIs { s with heap:=s.heap.push (jv led) } (.ref s.heap.objs.size) "set" := ⟨_,hS,rfl⟩
   have hli:=F.called_set.init.lookup;have hbi:=F.called_set.init.bind (.ref s.heap.objs.size)
   repeat (any_goals (first | assumption | wp_step))
   refine codeAny_mono (codeAny_call_builtin (R:=wants (λr s₂=>r=.none/\∃ h' tk,s₂ = { s with heap:=h',toks:=tk } /\
     h'.SetOf (strKind prog w) s.heap.objs.size (λk'=>(vp val items.size).any (· == k')) (vp val items.size).length /\
     (∀ b o,b < s.heap.objs.size->s.heap.get? b=some o->h'.get? b=some o)) E) F.called_set.init.plain F.entry_set_init (check_set_init_1 hT ?_)) λr₂ s₂ hr₂ => ?_
   ·obtain ⟨ol,hol,hcl,nl,hdl⟩:=hl
    obtain ⟨ocls,odict,odata,oslots⟩:=ol;simp only at hcl hdl;subst hcl;subst hdl;have hol':(s.heap.push (jv led)).get? l=some { cls:=.type "tuple",dict:=odict,data:=.seq items nl,slots:=oslots }:=Heap.get?_push_of_some _ hol;have hsls:=iJ;have hslf:=gW;have hne:(Value.type "tuple" == Value.type "dict")=false:=by decide
    have hl1:(s.heap.push (jv led)).IsTuple l items:=⟨_,hol',rfl,nl,rfl⟩
    unfold Builtin.«set.__init__» noKeywords Builtin.Frozenset.updateFrom;generalize hPI:pyIter=PI
    wp_walk
    subst hPI;refine wpAny_pyIter_tuple hl1 ?_;refine wpAny_bind (wpAny_runValue ?_);have hlS:l < s.heap.objs.size:=Heap.lt_size hol;have hh3:A.in1.in1.in1.handled=none:=by simp [hh]
    have hneI:l≠(s.heap.push (jv led)).objs.size:=by
     rw [Heap.size_push];exact Nat.ne_of_lt (Nat.lt_succ_of_lt hlS)
    have hSf:s.heap.objs.size∉[(s.heap.push (jv led)).objs.size,l]:=by
     rw [Heap.size_push];simp only [List.mem_cons,List.mem_singleton,List.not_mem_nil,or_false,not_or];exact ⟨Nat.ne_of_lt (Nat.lt_succ_self _),Nat.ne_of_gt hlS⟩
    refine bM ((Walks.tuple hh3 _ l hneI items).toS) s.heap.objs.size hSf val hi hb (items.size - 0) 0 _ (by omega) (Nat.zero_le _)
     ⟨⟨_,Heap.get?_push_size _ rfl,rfl,rfl⟩,⟨_,Heap.get?_push_of_some _ hol',rfl,nl,rfl⟩⟩ ?hS0 ?hR
    case hS0 =>
     have hget:((s.heap.push (jv led)).push { cls:=.type "tuple_iterator",data:=.fields #[.ref l,.int 0 0] }).get? s.heap.objs.size=some (jv led):=Heap.get?_push_of_some _ hS;exact PyProof.Rows.SetOf_congr ((PyProof.Rows.setObjOf_fresh (knd:=strKind prog w) led).setOf hget (by unfold scanBound;omega)) (λ_=>rfl) rfl
    case hR =>
     intro s' hm hS';obtain ⟨h',g',d',tk',os'⟩:=s';have eg:g'=s.gens:=hm.gens;have ed:d'=s.drawn:=hm.drawn;have eo:os'=s.os:=hm.os;subst eg;subst ed;subst eo;show wpAny _ _ _ _ _ _;refine wpAny_pure ?_;show wpAny _ _ (ret Value.none) _ _ _;refine wpAny_pure ⟨rfl,h',tk',rfl,hS',λb o hb e => ?_⟩;have hb1:b≠s.heap.objs.size:=Nat.ne_of_lt hb
     have hb2:b≠(s.heap.push (jv led)).objs.size:=by
      rw [Heap.size_push];exact Nat.ne_of_lt (Nat.lt_succ_of_lt hb)
     exact hm.heap b o (by simp only [List.mem_cons,List.mem_singleton,List.not_mem_nil,or_false,not_or];exact ⟨hb1,hb2⟩) (Heap.get?_push_of_some _ (Heap.get?_push_of_some _ e))
   ·cases r₂ with
    | error e=>exact hr₂
    | ok fl₂ =>
     cases fl₂ with
     | ret r =>
      obtain ⟨rfl,h',tk,rfl,hS',hk'⟩:=hr₂
      repeat (any_goals (first | assumption | wp_step))
      exact h _ _ hS' hk'
     | _=>exact hr₂.elim
  | _=>exact hr.elim
end
def fh (zs:List Str):List Str:=zs.foldl step_dedup []
def ZV (zs:List Str):vp (λi=>zs.getD i "") zs.length=fh zs:=by
 unfold vp fh
 congr 1
 apply List.ext_getElem
 ·simp
 ·intro i h1 h2
  simp at h1;simp [h1]
def v7:List T->Option (List Str)
 | []=>some []
 | .str z :: ts=>(v7 ts).map λr=>z :: r
 | _ :: _=>none
def dU:T->Option Nat
 | .lst ts=>(v7 ts).bind λzs=>if zs.length + 1 < scanBound then some (fh zs).length else none
 | .tup ts=>(v7 ts).bind λzs=>if zs.length + 1 < scanBound then some (fh zs).length else none
 | _=>none
def uI {K:W.Frag}{F:Addr->Prop}{H:Hp} : ∀ {ts:List T} {zs:List Str} {vs:List V},v7 ts=some zs->IsAll K F H ts vs->vs=zs.map V.str
 | [],zs,vs,h,ia=>by
  unfold v7 at h;cases h;exact dR ia
 | t :: ts,zs,vs,h,ia=>by
  unfold v7 at h;cases t<;>simp only [reduceCtorEq] at h
  case str z =>
   cases hr:v7 ts with
   | none=>rw [hr] at h;cases h
   | some r =>
    rw [hr] at h;cases h;unfold IsAll at ia;obtain ⟨v,us,rfl,i1,i2⟩:=ia;unfold Is at i1;rw [i1,uI hr i2]
    rfl
def Vc (K:W.Frag)(te:TE):TE:=λσ H Q=>te σ H λv H1=>∃ a zs,v=.ref a/\(uv K H1 a (zs.map V.str)\/uW K H1 a (zs.map V.str))/\zs.length + 1 < scanBound/\Q (.int (fh zs).length) H1
def X0 {zs:List Str}{us:List Value}(r:zJ (zs.map V.str) us):∀ (i:Nat) (v:Value),us.toArray[i]? = some v->∃ t,v=.str (zs.getD i "") t:=by
 intro i v h;have hl:=r.length;simp at h;have hi:i < us.length:=(List.getElem?_eq_some_iff.mp h).1;have hz:i < zs.length:=by rw [List.length_map] at hl;omega
 obtain ⟨u,e1,e2⟩:=r.get (i:=i) (x:=V.str zs[i]) (by simp [hz]);rw [h] at e1;cases e1;obtain ⟨t,e⟩:=e2;exact ⟨t,by rw [e];simp [hz]⟩
def ZW (hc:X.calm=true)(hgl:Gl X "len")(hml:X.mg "len" = none)(hgs:Gl X "set")(hms:X.mg "set" = none)(h:PE X e te)
  (h1:starEach [.Call (.Name "set" q) [e] [] p1] X.env=[(false,eval (.Call (.Name "set" q) [e] [] p1) X.env)]:=by rfl) (h2:starEach [e] X.env=[(false,eval e X.env)]:=by rfl) :
  PE X (.Call (.Name "len" p) [.Call (.Name "set" q) [e] [] p1] [] p2) (Vc X.K te):=by
 intro pins s σ H Q I hw;have hd:X.A.handled=none:=I.ok.hd hc;refine wpAny_Call_Name_kw (gf I hgl hml PySem.boot_len ?_);refine PyProof.Rows.callWith_builtin1 ?_;rw [h1];show wpAny _ _ (spliced ((false,eval (.Call (.Name "set" q) [e] [] p1) X.env) :: [])) _ _ s;refine Calls.spliced_cons ?_;refine wpAny_Call_Name_kw (gf I hgs hms (show bootBuiltins "set" = some (.type "set") by rfl) ?_);refine PyProof.Rows.callWith_type1 ?_ (he:=by rw [h2];rfl);rw [h2];show wpAny _ _ (spliced ((false,eval e X.env) :: [])) _ _ s;refine Calls.spliced_cons (jx (h pins s σ H _ I hw) λu s1 ⟨x,H1,I1,r1,q1⟩ => ?_);obtain ⟨a,zs,rfl,sq,hb,hq⟩:=q1;cases r1;rw [spliced];refine wpAny_pure ?_
 have fin:∀ (h':Heap) (tk:Nat),h'.SetOf (strKind X.prog X.w) s1.heap.objs.size (λk'=>(vp (λi=>zs.getD i "") zs.length).any (· == k')) (vp (λi=>zs.getD i "") zs.length).length ->
   (∀ b o,b < s1.heap.objs.size->s1.heap.get? b=some o->h'.get? b=some o) ->
   wpAny (model X.prog X.w) X.A (spliced []) (λvs s₂=>wpAny (model X.prog X.w) X.A (call (.builtin "len") (Value.ref s1.heap.objs.size :: vs)) (EP X pins σ Q) X.xe s₂) X.xe { s1 with heap:=h',toks:=tk }:=by
  intro h' tk hS kp;rw [spliced];refine wpAny_pure ?_;have I2:zk X pins σ H1 { s1 with heap:=h',toks:=tk }:=I1.kept λb o e=>kp b o (Heap.lt_size e) e;obtain ⟨o,es,ep,t,ho,hex,hdt,hel,hmem,hlt,hf,hn⟩:=hS;have hle:(vp (λi=>zs.getD i "") zs.length).length<=zs.length:=dS _ _;have hsz:(es.size:Int) < 2 ^ 63:=by unfold scanBound at hb;omega
  refine call_len_set ho hex hdt hf hsz ⟨.int (fh zs).length,H1,I2.tok _,⟨tk + 1,?_⟩,hq⟩;rw [hn,ZV]
 rcases sq with sq | sq
 ·obtain ⟨its,r',pl,hz⟩:=I1.list sq
  have hl:its.length=zs.length:=by have:=r'.length;rw [List.length_map] at this;omega
  have hsz:its.toArray.size=zs.length:=by simp [hl]
  refine iK hd pl.isList (X0 r') (by rw [hsz];exact hb) λh' tk hS kp => ?_;rw [hsz] at hS;exact fin h' tk hS kp
 ·obtain ⟨its,r',pl,hz⟩:=I1.tuple sq
  have hl:its.length=zs.length:=by have:=r'.length;rw [List.length_map] at this;omega
  have hsz:its.toArray.size=zs.length:=by simp [hl]
  refine lh hd pl (X0 r') (by rw [hsz];exact hb) λh' tk hS kp => ?_;rw [hsz] at hS;exact fin h' tk hS kp
def pU (m:ME):ME:=λenv=>(m env).bind λr=>match dU r.2 with
 | some n=>.ok (false,.int n)
 | none=>.bad
def X1 (hc:X.calm=true)(hgl:Gl X "len")(hml:X.mg "len" = none)(hgs:Gl X "set")(hms:X.mg "set" = none)(h:ju X e m)
  (h1:starEach [.Call (.Name "set" q) [e] [] p1] X.env=[(false,eval (.Call (.Name "set" q) [e] [] p1) X.env)]:=by rfl) (h2:starEach [e] X.env=[(false,eval e X.env)]:=by rfl) :
  ju X (.Call (.Name "len" p) [.Call (.Name "set" q) [e] [] p1] [] p2) (pU m):=by
 obtain ⟨te,pe,se⟩:=h;refine ⟨_,ZW hc hgl hml hgs hms pe h1 h2,?_⟩;intro F H σ env Q R nb ok ex;unfold pU at nb ok ex;refine se.val R (λz=>by rw [z] at nb;exact nb rfl) (λr e1 v F1 H1 x1 i1 => ?_) λx z=>ex x (by rw [z];rfl);rw [e1,bind_ok] at nb ok;obtain ⟨o,t⟩:=r;dsimp only at nb ok i1
 cases hn:dU t with
 | none=>rw [hn] at nb;exact absurd rfl nb
 | some n =>
  rw [hn] at ok;cases t<;>simp only [dU,reduceCtorEq] at hn
  case lst ts =>
   cases hz:v7 ts with
   | none=>rw [hz] at hn;cases hn
   | some zs =>
    rw [hz] at hn;dsimp only [Option.bind] at hn
    split at hn
    ·rename_i hb
     cases hn;unfold Is at i1;obtain ⟨a,vs,rfl,g1,g2⟩:=i1;rw [uI hz g2] at g1;exact ⟨a,zs,rfl,.inl g1.sq,hb,ok _ rfl _ F1 H1 x1 (jo xg)⟩
    ·cases hn
  case tup ts =>
   cases hz:v7 ts with
   | none=>rw [hz] at hn;cases hn
   | some zs =>
    rw [hz] at hn;dsimp only [Option.bind] at hn
    split at hn
    ·rename_i hb
     cases hn;unfold Is at i1;obtain ⟨a,vs,rfl,g1,g2⟩:=i1;rw [uI hz g2] at g1;exact ⟨a,zs,rfl,.inr g1,hb,ok _ rfl _ F1 H1 x1 (jo xg)⟩
    ·cases hn
end L3
namespace L2
open PySem PySem.Spec PyProof.Rows
def Nx (K:W.Frag)(a:Addr):It :=
 ⟨λi H=>∃ xs x,uv K H a xs/\xs[i]? = some x,λi H v H'=>∃ T y,H T=none/\v=.ref T/\H'=zW H T (.tup [.int i,y])/\∀ xs,uv K H a xs->xs[i]? = some y,λi H=>∃ xs,uv K H a xs/\xs.length<=i⟩
def zk.turnT {h':Heap}{tk:Nat}{ch:List Addr}{T:Addr}{xs:List V}{its:List Value}(I:zk X pins σ H s)(hf:∀ b∈ch,pF X pins H b)(k:∀ b o,b∉ch->s.heap.get? b=some o->h'.get? b=some o)
  (hT:s.heap.objs.size<=T) (hz:xs.length<=sizeLine) (r:zJ xs its) (ht:IsTup h' T its.toArray):zk X pins σ (zW H T (.tup xs)) { s with heap:=h',toks:=tk }:=by
 have hn:=I.hok.fresh hT;have neT:∀ b o,s.heap.get? b=some o->b≠T:=λb o e z=>absurd (Heap.lt_size e) (Nat.not_lt.mpr (by rw [z];exact hT));have nch:∀ b u,H b=some u->b∉ch:=λb u e z=>by rw [(hf b z).1] at e;cases e
 refine I.call' rfl ⟨λb o e n hb hx=>k b o hx e,λb o e n hb hx=>⟨o.slots,k b o hx e⟩,λb o e n hx=>by rw [zd (neT b o e)];exact n,λb o e hx=>⟨o,k b o hx e⟩,
  λb ys q=>by rw [zd (zG q hn)];exact q,λb o u q=>by rw [zd (zG q hn)];exact q,λb ps q=>⟨#[],by rw [zd (zG q hn),Array.append_empty];exact q⟩⟩ (λb u e => ?_) I.bare λb hb=>⟨(hf b hb).2.2.2.1,(hf b hb).2.1,(hf b hb).2.2.2.2.1,(hf b hb).2.2.2.2.2⟩
 by_cases hb:b=T
 ·subst hb
  rw [zh] at e;cases e;exact ⟨hz,its,r,ht⟩
 ·rw [zd hb] at e
  refine (I.hok b u e).stay (λc v hc q=>k c v ?_ q) (λc q=>by rw [zd (zG q hn)];exact q) λc xs q=>by rw [zd (zG q hn)];exact q
  rcases hc with rfl | hc
  ·exact nch _ _ e
  ·exact nch _ _ hc
def ZX {P:Program}{w:World}{K:W.Frag}{elts:List Expr}{k:Nat}{tp:Pos}(a e it:Addr)(hei:e≠it):aW P w K (.Tuple elts k tp) (Nx K a) [e,it] e (λi h=>(∃ old,IsEnum h e it (i:Int) old)/\h.IsListIter it a i) where
 mem:=by simp
 obj:=λi h st b hb=>by
  obtain ⟨⟨old,he⟩,hi⟩:=st
  rcases List.mem_cons.mp hb with rfl | hb
  ·exact ⟨_,he,λv z=>by
    have z':Data.fields _=Data.cell v:=z;cases z'⟩
  ·have e:b=it:=by simpa using hb
   subst e;obtain ⟨o,e,c,d⟩:=hi;exact ⟨o,e,λv z=>by rw [d] at z;cases z⟩
 keep:=λi h h' st k=>by
  obtain ⟨⟨old,he⟩,hi⟩:=st;exact ⟨⟨old,k e (by simp) _ he⟩,hi.at λo q=>k it (by simp) o q⟩
 item:=by
  intro X hP hw hK hc i pins s σ H E I hf st hg;subst hP hw hK;obtain ⟨xs,x,hq,hx⟩:=hg;obtain ⟨its,rv,p,hz⟩:=I.list hq;obtain ⟨u,hu,ru⟩:=rv.get hx;obtain ⟨⟨old,he⟩,hi⟩:=st;refine wpAny_pyNext_enum_item he hi p.isList (by simpa using hu) hei λh' ho hi' hT hsz hk => ?_
  have I1:zk X pins σ (zW H s.heap.objs.size (.tup [.int i,x])) { s with heap:=h',toks:=s.toks + 1 } :=
   I.turnT hf (λb o hb q=>hk b o (λz=>hb (by simp [z])) (λz=>hb (by simp [z])) q) (Nat.le_refl _) (by show 2<=sizeLine;decide) (.cons ⟨_,rfl⟩ (.cons ru .nil)) ⟨_,hT,rfl,_,rfl⟩
  have ne1:e≠s.heap.objs.size:=Nat.ne_of_lt (Heap.lt_size he);have ne2:it≠s.heap.objs.size:=by obtain ⟨o,q,_⟩:=hi;exact Nat.ne_of_lt (Heap.lt_size q)
  refine ⟨_,rfl,wpAny_letOwnedTupleGo_enum ho λh2 he2 hs2 => ?_⟩;obtain ⟨f0,f1,f2,f3,f4,f5⟩:=hf e (by simp);refine ⟨.ref s.heap.objs.size,_,I1.turned (λb o hb q=>(hs2.2 b hb).trans q) (by rw [zd ne1];exact f0) f1 f3 f4 f5,rfl,⟨_,x,I.hok.fresh (Nat.le_refl _),rfl,rfl,λys hy=>by rw [I.list_inj hy hq];exact hx⟩,⟨⟨u,by simpa using he2⟩,hi'.at λo q=>(hs2.2 it hei.symm).trans q⟩,λb hb => ?_⟩
  rcases List.mem_cons.mp hb with rfl | hb
  ·rw [zd ne1];exact f0
  ·have e':b=it:=by simpa using hb
   subst e';rw [zd ne2];exact (hf b (by simp)).1
 done:=by
  intro X hP hw hK hc i pins s σ H E I hf st hg;subst hP hw hK;obtain ⟨xs,hq,hx⟩:=hg;obtain ⟨its,rv,p,hz⟩:=I.list hq;obtain ⟨f0,f1,f2,f3,f4,f5⟩:=hf it (by simp);obtain ⟨⟨old,he⟩,hi⟩:=st;have hl:=rv.length;exact wpAny_pyNext_enum_end (I.ok.hd hc) he hi p.isList (by simp;omega) λh' eb=>⟨rfl,I.turned (λb o hb e=>eb b o hb e) f0 f1 f3 f4 f5⟩
 self:=λ_ _ _ _ _ st h=>by
  obtain ⟨⟨old,he⟩,_⟩:=st;exact wpAny_pyIter_enum he h
def X2 (K:W.Frag)(tl:TE):TI:=λσ H R=>tl σ H λx H1=>∃ a,x=.ref a/\(∃ xs,uv K H1 a xs)/\R (Nx K a) H1
def Vd {elts:List Expr}{k:Nat}{tp p pos:Pos}{l:Expr}{tl:TE}(hg:Gl X "enumerate")(hm:X.mg "enumerate" = none)(hl:PE X l tl)(hs:starEach [l] X.env=[(false,eval l X.env)]:=by rfl) :
  PI X (.Tuple elts k tp) (.Call (.Name "enumerate" p) [l] [] pos) (X2 X.K tl):=by
 intro pins s σ H R I h;refine wpAny_Call_Name_kw (gf I hg hm dC ?_);refine PyProof.Rows.callWith_type1 ?_ (he:=by rw [hs];rfl);rw [hs];show wpAny _ _ (spliced ((false,eval l X.env) :: [])) _ _ s;refine Calls.spliced_cons (jx (hl pins s σ H _ I h) λu s1 ⟨x,H1,I1,r1,q1⟩ => ?_);obtain ⟨a,rfl,⟨xs,hq⟩,q⟩:=q1;cases r1;rw [spliced];refine wpAny_pure ?_;obtain ⟨its,rv,pl,hz⟩:=I1.list hq;refine call_enumerate_list pl.isList λh' he hi hsz kp=>wpAny_pyIter_enum he ?_;have I2:zk X pins σ H1 { s1 with heap:=h' }:=I1.kept kp;refine ⟨s1.heap.objs.size + 1,[s1.heap.objs.size + 1,s1.heap.objs.size],_,_,H1,rfl,I2,ZX a (s1.heap.objs.size + 1) s1.heap.objs.size (Nat.ne_of_gt (Nat.lt_succ_self _)),⟨⟨.none,he⟩,hi⟩,λb hb => ?_,q⟩
 have hb':s1.heap.objs.size<=b:=by
  rcases List.mem_cons.mp hb with rfl | hb
  ·exact Nat.le_succ _
  ·have e:b=s1.heap.objs.size:=by simpa using hb
   exact Nat.le_of_eq e.symm
 exact I1.fpOk hb' (I1.hok.fresh hb')
end L2
namespace L3
open PySem PySem.Spec PyProof.Rows L2
def K8 (f:Str):List Str->List T->Option T
 | g :: fs,t :: ts=>if f == g then some t else K8 f fs ts
 | _,_=>none
def bN {K:W.Frag}{F:Addr->Prop}{H:Hp}{f:Str}{t:T} : ∀ {fvs:List (Str×V)} {fs:List Str} {ts:List T},fvs.map (·.1)=fs->IsAll K F H ts (fvs.map (·.2))->K8 f fs ts=some t->∃ v,fvs.lookup f=some v/\Is K F H t v
 | [],fs,ts,e,_,h=>by
  subst e
  cases ts<;>(simp [K8] at h)
 | (g,v) :: r,fs,ts,e,ia,h=>by
  subst e
  cases ts with
  | nil=>simp [K8] at h
  | cons u us =>
   rw [List.map_cons] at ia h;unfold IsAll at ia;obtain ⟨v',r',e1,i1,i2⟩:=ia;injection e1 with e1 e2
   subst e1 e2;rw [List.lookup_cons];unfold K8 at h;dsimp only at h
   cases hb:f == g with
   | true=>rw [hb,if_pos rfl] at h;cases h;exact ⟨v,rfl,i1⟩
   | false=>rw [hb,if_neg Bool.false_ne_true] at h;exact bN rfl i2 h
def nj:∀ {fvs:List (Str×V)},f∉fvs.map (·.1)->fvs.lookup f=none
 | [],_=>rfl
 | (g,v) :: r,h=>by
  rw [List.map_cons,List.mem_cons,not_or] at h;rw [List.lookup_cons];have:(f == g)=false:=by simpa using h.1
  rw [this];exact nj h.2
def iL (cs:List Addr)(f:Str)(m:ME):ME:=λenv=>(m env).bind λr=>match r.2 with
 | .obj C fs ts=>if C∈cs then ZK ((K8 f fs ts).map λt=>(false,t)) else .bad
 | _=>.bad
def eN {cs:List Addr}(hc:∀ C∈cs,k7 X.K C/\zK X.K C f)(h:ju X e me)(hb:attributeBase e f X.env (eval e X.env)=eval e X.env:=by rfl):ju X (.Attribute e f pos) (iL cs f me):=by
 obtain ⟨te,pe,se⟩:=h;refine ⟨_,tm pe hb,?_⟩;intro F H σ env Q R nb ok ex;unfold iL at nb ok ex;refine se.val R (λz=>by rw [z] at nb;exact nb rfl) (λr e1 v F1 H1 x1 i1 => ?_) λx z=>ex x (by rw [z];rfl);rw [e1,bind_ok] at nb ok;obtain ⟨b,t⟩:=r;dsimp only at nb ok i1;cases t<;>dsimp only at nb ok<;>try (exact absurd rfl nb)
 case obj C fs ts =>
  split at nb
  ·rename_i hC
   rw [if_pos hC] at ok
   cases hl:K8 f fs ts with
   | none=>rw [hl] at nb;exact absurd rfl nb
   | some t =>
    rw [hl] at ok;unfold Is at i1;obtain ⟨a,dx,fvs,rfl,fa,hH,hk,ia⟩:=i1;obtain ⟨v,lv,iv⟩:=bN hk ia hl;exact ⟨a,C,dx,fvs,v,rfl,hH,(hc C hC).1,(hc C hC).2,lv,ok _ rfl v F1 H1 x1 (jo iv)⟩
  ·exact absurd rfl nb
def og (X:Cx)(C:Addr)(m:Str)(sp:Sp)(ta:TE)(t:TA):TE:=λσ H Q=>ta σ H λx H1=>∃ a dx fs,x=.ref a/\H1 a=some (.ins C dx fs)/\fs.lookup m=none /\
 t σ H1 λvs H2=>∃ E,sp (x :: vs) H2 Q E/\∀ e oa H',E e oa H'->∀ pins s',zk X pins σ H' s'->X.xe e s'
def X3 (he:PE X o ta)(c:k7 X.K C)(hm:vf X.K C m fa)(Fn:vg X.prog X.w X.K X.mg X.base (ut X.prog X.w) k fa fd ps sp)(hr:jD k X.A)(hb:kf X.K fd ps [])(ha:PA X (e :: es) t)
  (hst:starEach (e :: es) X.env=(false,eval e X.env) :: starEach es X.env:=by rfl) (hpl:(backTo pos (starEach es X.env)).any (·.1)=false:=by rfl)
  (ht:eval (.Call (.Attribute o m apos) (e :: es) [] pos) X.env=(do
   let ov <- eval o X.env
   standAt apos.atName
   let (f,first) <- holding [ov] (getMethod ov m pl)
   callWith pos f first (backTo pos (starEach (e :: es) X.env)) (backToKw pos (keywordEach [] X.env))):=by rfl) :
  PE X (.Call (.Attribute o m apos) (e :: es) [] pos) (og X C m sp ta t):=by
 intro pins s σ H Q I h;refine W.methodCall_KW (jx (he pins s σ H _ I h) λu s1 ⟨x,H1,I1,rx,a,dx,fs,ex,ea,l,q⟩ => ?_) ht;subst ex;obtain rfl:u=Value.ref a:=rx;refine mw I1 ea c hm l ?_;refine W.callWith_K I.ok.mod.kin hm.kp (jx (ha pos pins s1 σ H1 _ I1 q) λus s2 ⟨vs,H2,I2,r,E,q2,hx⟩=>⟨I2.kIn,?_⟩) hst hpl;exact nW (vs:=.ref a :: vs) Fn hr hb I2 (.cons rfl r) q2 λe oa H' z s' I'=>hx e oa H' z pins s' I'
def ZY (he:PE X o ta)(c:k7 X.K C)(hm:vf X.K C m fa)(Fn:vg X.prog X.w X.K X.mg X.base (ut X.prog X.w) k fa fd ps sp)(hr:jD k X.A)(hb:kf X.K fd ps [])
  (ht:eval (.Call (.Attribute o m apos) [] [] pos) X.env=(do
   let ov <- eval o X.env
   standAt apos.atName
   let (f,first) <- holding [ov] (getMethod ov m pl)
   callWith pos f first (backTo pos (starEach [] X.env)) (backToKw pos (keywordEach [] X.env))):=by rfl) :
  PE X (.Call (.Attribute o m apos) [] [] pos) (og X C m sp ta Wy):=by
 intro pins s σ H Q I h;refine W.methodCall_KW (jx (he pins s σ H _ I h) λu s1 ⟨x,H1,I1,rx,a,dx,fs,ex,ea,l,E,q,hx⟩ => ?_) ht;subst ex;obtain rfl:u=Value.ref a:=rx;refine mw I1 ea c hm l ?_;exact W.callWith_K0 I1.kIn hm.kp (nW (vs:=[.ref a]) Fn hr hb I1 (.cons rfl .nil) q λe oa H' z s' I'=>hx e oa H' z pins s' I')
def j7 (P:Program)(w:World)(K:W.Frag)(mg:Str->Option Value)(base:Heap)(k:Nat)(C:Addr)(m:Str)(ps:List Str)(f:MF):Prop :=
 ∃ fa fd,vg P w K mg base (ut P w) k fa fd ps (ff K f)/\vf K C m fa/\k7 K C/\kf K fd ps []
def qU (C:Addr)(m:Str)(f:MF)(mo:ME)(ma:MA):ME:=λenv=>(mo env).bind λr=>match r.2 with
 | .obj C' fs ts=>if C'=C/\m∉fs then (ma env).bind λrs=>f ((false,r.2) :: rs) else .bad
 | _=>.bad
def eO {C:Addr}{f:MF}{ta:TE}{t:TA}(so:xx X ta mo)(sa:tS X t ma):xx X (og X C m (ff X.K f) ta t) (qU C m f mo ma):=by
 intro F H σ env Q R nb ok ex;unfold qU at nb ok ex;refine so.val R (λz=>by rw [z] at nb;exact nb rfl) (λr e1 v F0 H0 x0 i0 => ?_) λx z=>ex x (by rw [z];rfl);rw [e1,bind_ok] at nb ok ex;obtain ⟨b,t0⟩:=r;dsimp only at nb ok ex i0;cases t0<;>dsimp only at nb ok ex<;>try (exact absurd rfl nb)
 case obj C' fs ts =>
  split at nb
  ·rename_i hC
   rw [if_pos hC] at ok ex;obtain ⟨rfl,hm⟩:=hC;have i0':=i0;unfold Is at i0';obtain ⟨a,dx,fvs,rfl,fa,hH,hk,ia⟩:=i0';refine ⟨a,dx,fvs,rfl,hH,nj (by rw [hk];exact hm),?_⟩;refine sa F0 H0 σ env _ (R.mono x0) (λz=>by rw [z] at nb;exact nb rfl) (λrs e2 vs F1 H1 x01 i1 => ?_) λx z=>(ex x (by rw [z];rfl)).mono x0;rw [e2,bind_ok] at nb ok ex;have x1:=x0.trans x01;have i1':xl X.K (λa=>H a=none) F1 H1 vs rs:=i1.any λa z=>j6 x0.same z;have i2:xl X.K (λa=>H a=none) F1 H1 (.ref a :: vs) ((false,.obj C' fs ts) :: rs):=⟨jo (i0.mono x01.kept),i1',λz=>by cases z⟩
   have toExt:∀ {F':Addr->Prop} {H':Hp},fe ⟨mY (.ref a :: vs) ((false,.obj C' fs ts) :: rs),H1,F1⟩ F' H'->jE F H F' H':=by
    intro F' H' fr;refine ⟨λa o h=>fr.keep a o (x1.same a o h) λz => ?_,λa h=>fr.sub a (x1.sub a h),λa h => ?_,fr.dom⟩
    ·rw [(xA i2 z).2.1] at h;cases h
    ·rcases fr.new a h with h | h | h
     ·exact x1.new a h
     ·exact .inr (j6 x1.same h)
     ·exact .inr (xA i2 h).2.1
   refine ⟨λev oa H'=>oa=none/\∃ F' x,f ((false,.obj C' fs ts) :: rs)=.exc x/\jE F H F' H'/\Wf X.K F' H' ev x,⟨F1,_,x1.dom,i2.any λ_ _=>trivial,nb,λr er v F' H' rr => ?_,λx ex' ev F' H' fr ix=>⟨rfl,F',x,ex',toExt fr,ix⟩⟩,λev oa H' ⟨_,F',x,e',xt,ix⟩ pins s' I=>ex x e' ev F' H' xt ix pins s' I⟩;refine ok r er v F' H' (toExt rr.fr) ?_;have i:=rr.val;unfold wu at i ⊢
   split
   ·rename_i ho
    rw [if_pos ho] at i;obtain ⟨a',e,nf,fr,o⟩:=i;refine ⟨a',e,nf,?_,o⟩
    rcases fr with fr | fr
    ·exact j6 x1.same fr
    ·exact (xA i2 fr).2.1
   ·rename_i ho
    rw [if_neg ho] at i;exact i
  ·exact absurd rfl nb
def QB {k:Nat}{C:Addr}{ps:List Str}{f:MF}{pl:Sem Bool}(M:j7 X.prog X.w X.K X.mg X.base k C m ps f)(hr:jD k X.A)(ho:ju X o mo)(ha:YE X (e :: es) ma)
  (hst:starEach (e :: es) X.env=(false,eval e X.env) :: starEach es X.env:=by rfl) (hpl:(backTo pos (starEach es X.env)).any (·.1)=false:=by rfl)
  (ht:eval (.Call (.Attribute o m apos) (e :: es) [] pos) X.env=(do
   let ov <- eval o X.env
   standAt apos.atName
   let (f,first) <- holding [ov] (getMethod ov m pl)
   callWith pos f first (backTo pos (starEach (e :: es) X.env)) (backToKw pos (keywordEach [] X.env))):=by rfl):ju X (.Call (.Attribute o m apos) (e :: es) [] pos) (qU C m f mo ma):=by
 obtain ⟨fa,fd,Fn,hm,hc,hb⟩:=M;obtain ⟨to,po,so⟩:=ho;obtain ⟨ta,pa,sa⟩:=ha;exact ⟨_,X3 po hc hm Fn hr hb pa hst hpl ht,eO so sa⟩
def nY {k:Nat}{C:Addr}{ps:List Str}{f:MF}{pl:Sem Bool}(M:j7 X.prog X.w X.K X.mg X.base k C m ps f)(hr:jD k X.A)(ho:ju X o mo)
  (ht:eval (.Call (.Attribute o m apos) [] [] pos) X.env=(do
   let ov <- eval o X.env
   standAt apos.atName
   let (f,first) <- holding [ov] (getMethod ov m pl)
   callWith pos f first (backTo pos (starEach [] X.env)) (backToKw pos (keywordEach [] X.env))):=by rfl):ju X (.Call (.Attribute o m apos) [] [] pos) (qU C m f mo z5):=by
 obtain ⟨fa,fd,Fn,hm,hc,hb⟩:=M;obtain ⟨to,po,so⟩:=ho;exact ⟨_,ZY po hc hm Fn hr hb ht,eO so λF H σ env Q R nb ok ex=>ok [] rfl [] F H (.refl R.dom) trivial⟩
section
variable {P:Program}{w:World}{K:W.Frag}{mg:Str->Option Value}{base:Heap}
theorem j7.ok {C:Addr}{x qual:Str}{st:Stmt}{N ps:List Str}{k:Nat}{mb:MS}(F:∃ f fd,k8 K x qual st f fd/\vf K C x f)(hc:k7 K C)(S:z7 N ps (z6 st))
  (hb:∀ (kV doc pm:Value) (an:Option Addr) (cdv ct:Value) (us:List Value),us.length=ps.length->bindArgs (W.fnOf x qual (jK st) (j8 st) (z6 st) .none kV doc pm an cdv ct) ⟨us,[]⟩=pure (ps.zip us))
  (hbody:∀ (f:Addr) (cdv:Value) (A:Around) (outer:List Env) (s:Shared) (H:Hp) (E:XK),jD k (A.deeper (envOfC qual (z6 st) s.heap.objs.size f cdv)) ->
   uD (pG (ut P w) P w K mg base N qual (z6 st) f cdv A outer s H E) (j8 st) mb):j7 P w K mg base (k + 1) C x ps (zy N.length ps.length mb):=by
 obtain ⟨f,fd,F,hm⟩:=F;refine ⟨f,fd,?_,hm,hc,F.binds hb⟩;obtain ⟨oc,od,kV,doc,pm,an,cdv,ct,osl,rfl,lk,hcd⟩:=F.ex;exact el lk hcd S (λvs H Q E h=>Qv h) λA outer s H vs Q E hr hsp=>YN hsp (hbody f cdv A outer s H E hr)
end
def xl.mono {K:W.Frag}{fr F F':Addr->Prop}{H H':Hp}(x:jE F H F' H'):∀ {vs:List V} {rs:List RV},xl K fr F H vs rs->xl K fr F' H' vs rs
 | [],[],_=>trivial
 | [],_ :: _,h=>h.elim
 | _ :: _,[],h=>h.elim
 | v :: vs,r :: rs,h=>by
  refine ⟨?_,xl.mono x h.2.1,h.2.2⟩;have i:=h.1;unfold wu at i ⊢
  split
  ·rename_i ho
   rw [if_pos ho] at i;obtain ⟨a,e,nf,f,o⟩:=i;refine ⟨a,e,λz => ?_,f,o.mono x.kept λo q=>x.same a o q⟩
   rcases x.new a z with z | z
   ·exact nf z
   ·exact o.there z
  ·rename_i ho
   rw [if_neg ho] at i;exact i.mono x.kept
abbrev MN:=List RV->kg T
def Z3 (K:W.Frag)(g:MN):Sp:=λvs H Q E=>∃ F rs,iD F H/\xl K (λ_=>True) F H vs rs/\g rs≠.bad /\
 (∀ t,g rs=.ok t->∀ a F' H',vs[0]? = some (.ref a)->fe ⟨mY vs rs,H,F⟩ F' H'->¬ F' a->xG K F' H' a t->Q .non H')/\(∀ x,g rs=.exc x->∀ ev F' H',fe ⟨mY vs rs,H,F⟩ F' H'->Wf K F' H' ev x->E ev none H')
def kj (P:Program)(w:World)(K:W.Frag)(mg:Str->Option Value)(base:Heap)(k:Nat)(C:Addr)(x:Str)(ps:List Str)(g:MN):Prop :=
 ∃ fa fd,vg P w K mg base (ut P w) k fa fd ps (Z3 K g)/\Mk K C fa/\mg x=some (.ref C)/\kf K fd ps []
def km (C:Addr)(g:MN)(ma:MA):ME:=λenv=>(ma env).bind λrs=>(g ((true,.obj C [] []) :: rs)).bind λt=>.ok (false,t)
def X4 (X:Cx)(C:Addr)(sp:Sp)(t:TA):TE:=λσ H Q=>t σ H λvs H1=>∀ x dx,H1 x=none->H1 dx=none->dx≠x ->
 ∃ E,sp (.ref x :: vs) (zW (zW H1 dx (.own x)) x (.ins C dx [])) (λv H2=>v=.non/\Q (.ref x) H2) E/\∀ e oa H',E e oa H'->∀ pins s',zk X pins σ H' s'->X.xe e s'
def ZZ (M:Mk X.K C fa)(F:vg X.prog X.w X.K X.mg X.base (ut X.prog X.w) k fa fd ps sp)(hr:jD (k + 1) X.A)(hb:kf X.K fd ps [])
  (I:zk X pins σ H s) (r:zJ vs us)
  (h:∀ x dx,H x=none->H dx=none->dx≠x->∃ E,sp (.ref x :: vs) (zW (zW H dx (.own x)) x (.ins C dx [])) (λv H2=>v=.non/\Q (.ref x) H2) E/\∀ e oa H',E e oa H'->∀ pins s',zk X pins σ H' s'->X.xe e s') :
  wpAny (model X.prog X.w) X.A (call (.ref C) us) (EP X pins σ Q) X.xe s:=by
 obtain ⟨E,hq,hx⟩:=h (s.heap.objs.size + 1) s.heap.objs.size (I.hok.fresh (Nat.le_succ _)) (I.hok.fresh (Nat.le_refl _)) (Nat.ne_of_lt (Nat.lt_succ_self _));have I2:=zk.made (C:=C) I;have r2:zJ (V.ref (s.heap.objs.size + 1) :: vs) (Value.ref (s.heap.objs.size + 1) :: us):=.cons rfl r
 have hl:(Value.ref (s.heap.objs.size + 1) :: us).length=ps.length:=by
  have e:=r2.length;rw [F.len _ _ _ _ hq] at e;exact e.symm
 refine wpAny_call (Y0 I.kIn M.makes M.init (beq_iff_eq.mp M.fn) (codeAny_mono (F.run _ X.stack _ _ ⟨Value.ref (s.heap.objs.size + 1) :: us,[]⟩ (Value.ref (s.heap.objs.size + 1) :: us) _ _ E (hr.make C us [])
  (I2.env0.make C us []) (by have:=hb _ (Value.ref (s.heap.objs.size + 1) :: us) I2.kIn (by simpa using hl);simpa using this) r2 hq) λr s' hq' => ?_))
 cases r with
 | error e =>
  obtain ⟨H',oa,ho,hg,hu,hok,he⟩:=hq';exact hx e oa H' he pins s' (I2.call' ho hu hok hg λb z=>absurd z (by simp))
 | ok fl =>
  cases fl with
  | ret u =>
   obtain ⟨v,H',I3,rv,ev,q3⟩:=I2.after hq';subst ev;exact ⟨rv,⟨V.ref (s.heap.objs.size + 1),H',I3,rfl,q3⟩⟩
  | next=>exact False.elim hq'
  | brk=>exact False.elim hq'
  | cont=>exact False.elim hq'
def X5 (M:Mk X.K C fa)(F:vg X.prog X.w X.K X.mg X.base (ut X.prog X.w) k fa fd ps sp)(hr:jD (k + 1) X.A)(hg:Gl X x)(hm:X.mg x=some (.ref C))(hb:kf X.K fd ps [])
  (ha:PA X (e :: es) t) (hdb:(x == ("__debug__" : Str))=false:=by decide) (he:starEach (e :: es) X.env=(false,eval e X.env) :: starEach es X.env:=by rfl) (hpl:(backTo pos (starEach es X.env)).any (·.1)=false:=by rfl) :
  PE X (.Call (.Name x p) (e :: es) [] pos) (X4 X C sp t):=by
 intro pins s σ H Q I h;refine wpAny_Call_Name_kw (dq I hg hm ?_ hdb);refine W.callWith_K I.ok.mod.kin M.kp (jx (ha pos pins s σ H _ I h) λus s1 ⟨vs,H1,I1,r,q⟩=>⟨I1.kIn,?_⟩) he hpl;exact ZZ M F hr hb I1 r q
def J0 (sa:tS X t ma):xx X (X4 X C (Z3 X.K g) t) (km C g ma):=by
 intro F H σ env Q R nb ok ex;unfold km at nb ok ex;refine sa F H σ env _ R (λz=>by rw [z] at nb;exact nb rfl) (λrs e1 vs F1 H1 x1 i1 => ?_) λx z=>ex x (by rw [z];rfl);rw [e1,bind_ok] at nb ok ex;intro a dx ha hd hne;have ea:jE F1 H1 F1 (zW H1 dx (.own a)):=jE.alloc x1.dom hd;have hna:zW H1 dx (.own a) a=none:=by rw [zd (Ne.symm hne)];exact ha
 have eb:jE F1 (zW H1 dx (.own a)) F1 (zW (zW H1 dx (.own a)) a (.ins C dx [])):=jE.alloc ea.dom hna;have x2:=ea.trans eb;have x12:=x1.trans x2;have nF:¬ F1 a:=λf=>x1.dom a f ha
 have own:∀ {i:Nat} {r:RV},rs[i]? = some r->r.1=true->vs[i]? = some (V.ref a)->False:=by
  intro i r er ho hv;exact (xA i1 ⟨i,r,er,ho,hv⟩).2.2 ha
 have i2:xl X.K (λa=>H a=none) F1 (zW (zW H1 dx (.own a)) a (.ins C dx [])) (.ref a :: vs) ((true,.obj C [] []) :: rs):=by
  refine ⟨?_,i1.mono x2,λ_ j r er ho hv=>own er ho hv⟩;unfold wu;rw [if_pos rfl];exact ⟨a,rfl,nF,j6 x1.same ha,dx,[],zh,rfl,IsAll.nil⟩
 have toExt:∀ {F':Addr->Prop} {H':Hp},fe ⟨mY (.ref a :: vs) ((true,.obj C [] []) :: rs),zW (zW H1 dx (.own a)) a (.ins C dx []),F1⟩ F' H'->jE F H F' H':=by
  intro F' H' fr;refine ⟨λb o h=>fr.keep b o (x12.same b o h) λz => ?_,λb h=>fr.sub b (x1.sub b h),λb h => ?_,fr.dom⟩
  ·rw [(xA i2 z).2.1] at h;cases h
  ·rcases fr.new b h with h | h | h
   ·exact x1.new b h
   ·exact .inr (j6 x12.same h)
   ·exact .inr (xA i2 h).2.1
 refine ⟨λev oa H'=>oa=none/\∃ F' x,g ((true,.obj C [] []) :: rs)=.exc x/\jE F H F' H'/\Wf X.K F' H' ev x,⟨F1,_,x2.dom,i2.any λ_ _=>trivial,λz=>by rw [z] at nb;exact nb rfl,λt et a' F' H' hv fr nf' w => ?_,λx ex' ev F' H' fr ix=>⟨rfl,F',x,ex',toExt fr,ix⟩⟩,
  λev oa H' ⟨_,F',x,e',xt,ix⟩ pins s' I=>ex x (by rw [e'];rfl) ev F' H' xt ix pins s' I⟩
 have hv:V.ref a=V.ref a':=by simpa using hv
 cases hv;refine ⟨rfl,ok (false,t) (by rw [et];rfl) (.ref a) (λb=>F' b\/b=a) H' ((toExt fr).freeze (j6 x1.same ha) w.there) (jo (w.is (λb h=>.inl h) (.inr rfl)))⟩
def dW (M:kj X.prog X.w X.K X.mg X.base k C x ps g)(hr:jD (k + 1) X.A)(hg:Gl X x)(ha:YE X (e :: es) ma)(hdb:(x == ("__debug__" : Str))=false:=by decide)
  (he:starEach (e :: es) X.env=(false,eval e X.env) :: starEach es X.env:=by rfl) (hpl:(backTo pos (starEach es X.env)).any (·.1)=false:=by rfl) :
  ju X (.Call (.Name x p) (e :: es) [] pos) (km C g ma):=by
 obtain ⟨fa,fd,F,hM,hm,hb⟩:=M;obtain ⟨ta,pa,sa⟩:=ha;exact ⟨_,X5 hM F hr hg hm hb pa hdb he hpl,J0 sa⟩
def jh (M:T)(ts:List T)(i:Nat)(t:T)(d:Option RV):En:=[none,some (false,.lst ts),some (false,M),some (false,.int i),some (false,t),d]
def vJ (M:T)(tw tc:MT)(mk mv:ME)(ts:List T)(i:Nat)(t:T)(st:T×T):kg (T×T):=(tw (jh M ts i t none)).bind λb =>
 match tc (jh M ts i t (some (false,if b=true then st.2 else st.1))) with
 | .ok false=>(mv (jh M ts i t none)).bind λv=>(mk (jh M ts i t none)).bind λk=>match pM k.2,(if b=true then st.2 else st.1) with
  | some key,.dct ks us=>if ks.length < sizeLine then .ok (if b=true then (st.1,gk ks us key v.2) else (gk ks us key v.2,st.2)) else .bad
  | _,_=>.bad
 | _=>.bad
def xj (M:T)(tw tc:MT)(mk mv:ME)(ts:List T):Nat->List T->T×T->kg (T×T)
 | _,[],st=>.ok st
 | i,t :: r,st=>(vJ M tw tc mk mv ts i t st).bind λst'=>xj M tw tc mk mv ts (i + 1) r st'
mutual
def xW:T->List Str
 | .str x=>[x]
 | .tup ts=>strsL ts
 | _=>[]
def strsL:List T->List Str
 | []=>[]
 | t :: ts=>xW t ++ strsL ts
end
open Classical in
def xn (memo:List Str->Mo)(C0:Addr)(f1 f2:Str)(tw tc:MT)(mk mv:ME):MN:=λrs=>match rs with
 | [(true,.obj C [] []),(_,.lst ts)]=>if C=C0/\(strsL ts).length < sizeLine then (match xj (.mem 0 (memo (strsL ts) 0)) tw tc mk mv ts 0 ts (.dct [] [],.dct [] []) with
  | .ok st=>if ∀ m,xj (.mem m (memo (strsL ts) m)) tw tc mk mv ts 0 ts (.dct [] [],.dct [] [])=.ok st then .ok (.obj C [f1,f2] [st.1,st.2]) else .bad
  | _=>.bad) else .bad
 | _=>.bad
structure j4 (K:W.Frag) (B:Bs) (f1 f2:Str) (C a l dk df dx:Addr) (ts:List T) (d1 d2:T) (F:Addr->Prop) (H:Hp):Prop where
 fr:fe B F H
 nA:¬ F a
 nk:¬ F dk
 nf:¬ F df
 ne:dk≠df
 ins:H a=some (.ins C dx [(f1,.ref dk),(f2,.ref df)])
 bk:B.H dk=none
 bf:B.H df=none
 w1:xG K F H dk d1
 w2:xG K F H df d2
 s1:∃ ks us,d1=.dct ks us
 s2:∃ ks us,d2=.dct ks us
 pl:Is K F H (.lst ts) (.ref l)
section
variable {K:W.Frag}{B:Bs}{f1 f2:Str}{C a l dk df dx:Addr}{ts:List T}{d1 d2:T}{F F':Addr->Prop}{H H':Hp}
theorem j4.ext (p:j4 K B f1 f2 C a l dk df dx ts d1 d2 F H)(x:jE F H F' H'):j4 K B f1 f2 C a l dk df dx ts d1 d2 F' H':=by
 have old:∀ b,¬ F b->H b≠none->¬ F' b:=λb n h z=>by
  rcases x.new b z with z | z
  ·exact n z
  ·exact h z
 exact ⟨p.fr.ext x,old a p.nA (by rw [p.ins];intro z;cases z),old dk p.nk p.w1.there,old df p.nf p.w2.there,p.ne,x.same _ _ p.ins,p.bk,p.bf,p.w1.mono x.kept λo q=>x.same _ _ q,p.w2.mono x.kept λo q=>x.same _ _ q,p.s1,p.s2,p.pl.mono x.kept⟩
theorem j4.put1 (p:j4 K B f1 f2 C a l dk df dx ts d1 d2 F H)(e:d1=.dct ks us)(h:H dk=some (.dK kvs))(hk:kvs.map (·.1)=ks)(i:IsAll K F H us (kvs.map (·.2)))(iv:Is K F H t v) :
  j4 K B f1 f2 C a l dk df dx ts (gk ks us k t) d2 F (zW H dk (.dK (v3 kvs k v))):=by
 have kp:k9 F F H (zW H dk (.dK (v3 kvs k v))):=jU p.nk h (.inr (.inl ⟨_,rfl⟩));have na:a≠dk:=pC p.ins h (by intro z;cases z);refine ⟨⟨λb f => ?_,p.fr.sub,p.fr.new,λb o hb hm => ?_,p.fr.f0⟩,p.nA,p.nk,p.nf,p.ne,by rw [zd na];exact p.ins,p.bk,p.bf,mT hk i iv kp zh,p.w2.mono kp λo q=>by rw [zd (Ne.symm p.ne)];exact q,?_,p.s2,p.pl.mono kp⟩
 ·have:b≠dk:=by rintro rfl;exact p.nk f
  rw [zd this];exact p.fr.dom b f
 ·have:b≠dk:=by rintro rfl;rw [p.bk] at hb;cases hb
  rw [zd this];exact p.fr.keep b o hb hm
 ·unfold gk
  split
  ·exact ⟨_,_,rfl⟩
  ·exact ⟨_,_,rfl⟩
theorem j4.put2 (p:j4 K B f1 f2 C a l dk df dx ts d1 d2 F H)(e:d2=.dct ks us)(h:H df=some (.dK kvs))(hk:kvs.map (·.1)=ks)(i:IsAll K F H us (kvs.map (·.2)))(iv:Is K F H t v) :
  j4 K B f1 f2 C a l dk df dx ts d1 (gk ks us k t) F (zW H df (.dK (v3 kvs k v))):=by
 have kp:k9 F F H (zW H df (.dK (v3 kvs k v))):=jU p.nf h (.inr (.inl ⟨_,rfl⟩));have na:a≠df:=pC p.ins h (by intro z;cases z);refine ⟨⟨λb f => ?_,p.fr.sub,p.fr.new,λb o hb hm => ?_,p.fr.f0⟩,p.nA,p.nk,p.nf,p.ne,by rw [zd na];exact p.ins,p.bk,p.bf,p.w1.mono kp λo q=>by rw [zd p.ne];exact q,mT hk i iv kp zh,p.s1,?_,p.pl.mono kp⟩
 ·have:b≠df:=by rintro rfl;exact p.nf f
  rw [zd this];exact p.fr.dom b f
 ·have:b≠df:=by rintro rfl;rw [p.bf] at hb;cases hb
  rw [zd this];exact p.fr.keep b o hb hm
 ·unfold gk
  split
  ·exact ⟨_,_,rfl⟩
  ·exact ⟨_,_,rfl⟩
theorem X6 (h:Is K F H t v)(e:pM t=some k):v=kV k:=rQ (fr:=λ_=>True) (jo h) e
theorem jE.less (nb:¬ F b)(hb:H b≠none)(x:jE (λc=>F c\/c=b) H F' H'):jE F H (λc=>F' c/\c≠b) H':=by
 refine ⟨x.same,λc h=>⟨x.sub c (.inl h),λz=>nb (z ▸ h)⟩,λc h => ?_,λc h=>x.dom c h.1⟩
 rcases x.new c h.1 with (z | z) | z
 ·exact .inl z
 ·exact absurd z h.2
 ·exact .inr z
theorem qC (dm:iD F H)(pl:Is K F H (.lst ts) (.ref l))(pm:Is K F H M (.ref mm))(iy:Is K F H t y)(s1:σ[1]? = some (some (.ref l)))(sm:σ[2]? = some (some (.ref mm)))(s2:σ[3]? = some (some (.int i)))(s3:σ[4]? = some (some y))(hd:∀ r,d=some r->∃ v,σ[5]? = some (some v)/\Is K F H r.2 v) :
  v5 K F H σ (jh M ts i t d):=by
 refine ⟨dm,λj r h => ?_⟩;unfold jh at h
 match j,h with
 | 0,h=>simp at h
 | 1,h=>simp at h;subst h;exact ⟨_,s1,pl⟩
 | 2,h=>simp at h;subst h;exact ⟨_,sm,pm⟩
 | 3,h=>simp at h;subst h;exact ⟨_,s2,xg⟩
 | 4,h=>simp at h;subst h;exact ⟨_,s3,iy⟩
 | 5,h=>simp at h;exact hd r h
 | n + 6,h=>simp at h
end
def QC {f1 f2:Str}{x y:V}(hf:f1≠f2):List.lookup f2 [(f1,x),(f2,y)]=some y:=by
 have h:(f2 == f1)=false:=by simpa using Ne.symm hf
 rw [List.lookup_cons,h,List.lookup_cons,beq_self_eq_true]
def QD {f1 f2:Str}{x y:V} : List.lookup f1 [(f1,x),(f2,y)]=some x:=by
 rw [List.lookup_cons,beq_self_eq_true]
section
variable {X:Cx}{f1 f2:Str}{cw cc ek ev:Expr}{tw tc:MT}{mk mv:ME}{C:Addr}{rs:List Stmt}{p1 p2 p3 p4 p5 p6 p7 p8 p9 q1 q2 q3 q4 q5 q6 q7 q8 q9 r1 r2 r3 r4 r5 r6 r7 r8 r9 s1 s2 s3:Pos}{kt:Nat}
theorem li {α β:Type}{m:kg α}{f:α->kg β}{r:β}(h:m.bind f=.ok r):∃ a,m=.ok a/\f a=.ok r:=by
 cases m with
 | ok a=>exact ⟨a,rfl,h⟩
 | exc x=>cases h
 | bad=>cases h
theorem X7 {M:T}{tw tc:MT}{mk mv:ME}{ts:List T}{i:Nat}{t d1 d2:T}{st':T×T}(hstep:vJ M tw tc mk mv ts i t (d1,d2)=.ok st'):∃ b rv rk key ks us,tw (jh M ts i t none)=.ok b/\tc (jh M ts i t (some (false,if b=true then d2 else d1)))=.ok false/\mv (jh M ts i t none)=.ok rv/\mk (jh M ts i t none)=.ok rk/\pM rk.2=some key/\(if b=true then d2 else d1)=.dct ks us/\ks.length < sizeLine/\(if b=true then (d1,gk ks us key rv.2) else (gk ks us key rv.2,d2))=st':=by
 obtain ⟨b2,hb,h⟩:=li (show (tw _).bind _=_ from hstep)
 have h:(match tc (jh M ts i t (some (false,if b2=true then d2 else d1))) with
  | .ok false=>(mv (jh M ts i t none)).bind λv=>(mk (jh M ts i t none)).bind λk=>match pM k.2,(if b2=true then d2 else d1) with
   | some key,.dct ks us=>if ks.length < sizeLine then kg.ok (if b2=true then (d1,gk ks us key v.2) else (gk ks us key v.2,d2)) else .bad
   | _,_=>.bad
  | _=>.bad)=.ok st':=h
 split at h
 ·rename_i hcc
  obtain ⟨rv,hmv,h⟩:=li h;obtain ⟨rk,hmk,h⟩:=li h
  split at h
  ·rename_i hkey hd
   split at h
   ·rename_i hl
    exact ⟨b2,rv,rk,_,_,_,hb,hcc,hmv,hmk,hkey,hd,hl,kg.ok.inj h⟩
   ·cases h
  ·cases h
 ·cases h
theorem xl.two {K:W.Frag}{fr F:Addr->Prop}{H:Hp}{r1 r2:RV}{vs:List V}(h:xl K fr F H vs [r1,r2]):∃ va vl,vs=[va,vl]:=by
 cases vs with
 | nil=>exact h.elim
 | cons a t=>cases t with
  | nil=>exact h.2.1.elim
  | cons b u=>cases u with
   | nil=>exact ⟨a,b,rfl⟩
   | cons c x=>exact h.2.1.2.1.elim
theorem Ve {memo:List Str->Mo}{C0:Addr}{f1 f2:Str}{tw tc:MT}{mk mv:ME}{rs:List RV}(nb:xn memo C0 f1 f2 tw tc mk mv rs≠.bad):∃ b ts fin,rs=[(true,.obj C0 [] []),(b,.lst ts)]/\(strsL ts).length < sizeLine/\(∀ m,xj (.mem m (memo (strsL ts) m)) tw tc mk mv ts 0 ts (.dct [] [],.dct [] [])=.ok fin)/\xn memo C0 f1 f2 tw tc mk mv rs=.ok (.obj C0 [f1,f2] [fin.1,fin.2]):=by
 unfold xn at nb ⊢
 split at nb
 ·split at nb
  ·rename_i hC
   obtain ⟨rfl,hz⟩:=hC
   split at nb
   ·rename_i st hst
    split at nb
    ·rename_i hm
     exact ⟨_,_,st,rfl,hz,hm,by rw [if_pos ⟨rfl,hz⟩];exact if_pos hm⟩
    ·exact absurd rfl nb
   ·exact absurd rfl nb
  ·exact absurd rfl nb
 ·exact absurd rfl nb
theorem X8 {K:W.Frag}{f:Str}{u:TS}{D:nC}{σ:St}{H:Hp}{a C dx:Addr}{fs:List (Str×V)}(h0:σ[0]? = some (some (.ref a)))(hi:H a=some (.ins C dx fs))(cl:k7 K C)(n:zK K C f)(hl:fs.length < 1000)
  (k:∀ p,H p=none->a≠p->u D σ (zW (zW H p (.dK [])) a (.ins C dx (wq f (.ref p) fs)))):nE (Wx K (xw 0) dz f) u D σ H:=λp hp =>
 have hap:a≠p:=zG hi hp
 ⟨.ref a,h0,a,C,dx,fs,rfl,by rw [zd hap];exact hi,cl,n,hl,k p hp hap⟩
section
variable {M:T}{B:Bs}{a l mm dk df dx:Addr}{ts:List T}{d1 d2 t d:T}{F:Addr->Prop}{H:Hp}{tw' tc':TT}{tk' tv':TE}{i:Nat}{y:V}{D:nC}{o2 o3 o4:Option V}{st' fin:T×T}
theorem bO (sc:vh X tc' tc)(sk:xx X tk' mk)(sv:xx X tv' mv)(P4:j4 X.K B f1 f2 C a l dk df dx ts d1 d2 F H)(pm4:Is X.K F H M (.ref mm))(iy4:Is X.K F H t y)(hcc:tc (jh M ts i t (some (false,d)))=.ok false)
  (hmv:mv (jh M ts i t none)=.ok rv) (hmk:mk (jh M ts i t none)=.ok rk) (hkey:pM rk.2=some key) (ntd:¬ F td) (wtd:xG X.K F H td d)
  (put:∀ F6 H6 v,j4 X.K B f1 f2 C a l dk df dx ts d1 d2 F6 H6->Is X.K F6 H6 M (.ref mm)->Is X.K F6 H6 rv.2 v->∃ kvs,H6 td=some (.dK kvs)/\kvs.length < sizeLine/\D.nx [some (.ref a),some (.ref l),some (.ref mm),some (.int i),some y,some (.ref td)] (zW H6 td (.dK (v3 kvs key v)))) :
  nE (JR tc' uw cZ) (eC (xw 5) tk' tv') D [some (.ref a),some (.ref l),some (.ref mm),some (.int i),some y,some (.ref td)] H:=by
 have kz:k9 F (λc=>F c\/c=td) H H:=⟨λ_ h=>.inl h,λ_ _ _ h=>h,λ_ _ h _ _=>h⟩
 refine sc (λc=>F c\/c=td) H _ (jh M ts i t (some (false,d))) _ (qC (λc h => ?_) (P4.pl.mono kz) (pm4.mono kz) (iy4.mono kz) rfl rfl rfl rfl λr z => ?_) (by rw [hcc];intro z;cases z) (λb' eb F5 H5 x5 => ?_) λx z=>by rw [hcc] at z;cases z
 ·rcases h with h | rfl
  ·exact P4.fr.dom c h
  ·exact wtd.there
 ·cases z
  exact ⟨_,rfl,wtd.is (λ_ h=>.inl h) (.inr rfl)⟩
 rw [hcc] at eb;cases eb;rw [if_neg Bool.false_ne_true];have x5':=x5.less ntd wtd.there;have P5:=P4.ext x5';have iy5:=iy4.mono x5'.kept;have pm5:=pm4.mono x5'.kept;refine sv.val (env:=jh M ts i t none) (qC P5.fr.dom P5.pl pm5 iy5 rfl rfl rfl rfl λr z=>by cases z) (by rw [hmv];intro z;cases z) (λr er v F6 H6 x6 i6 => ?_) λx z=>by rw [hmv] at z;cases z
 rw [hmv] at er;cases er;have P6:=P5.ext x6;have iy6:=iy5.mono x6.kept;have pm6:=pm5.mono x6.kept;refine ⟨.ref td,rfl,?_⟩;refine sk.val (env:=jh M ts i t none) (qC P6.fr.dom P6.pl pm6 iy6 rfl rfl rfl rfl λr z=>by cases z) (by rw [hmk];intro z;cases z) (λr er kv F7 H7 x7 i7 => ?_) λx z=>by rw [hmk] at z;cases z
 rw [hmk] at er;cases er;obtain ⟨kvs,hkv,hlen',P8⟩:=put F7 H7 v (P6.ext x7) (pm6.mono x7.kept) (i6.mono x7.kept);refine ⟨td,_,rfl,?_,P8⟩;rw [X6 i7 hkey];exact tJ.k hkv hlen'
theorem X9 (sw:vh X tw' tw)(sc:vh X tc' tc)(sk:xx X tk' mk)(sv:xx X tv' mv)(cl:k7 X.K C)(n1:zK X.K C f1)(n2:zK X.K C f2)(hf:f1≠f2)(P3:j4 X.K B f1 f2 C a l dk df dx ts d1 d2 F H)(pm:Is X.K F H M (.ref mm))(iy:Is X.K F H t y)
  (hstep:vJ M tw tc mk mv ts i t (d1,d2)=.ok st') (nx:∀ F' H' o4,j4 X.K B f1 f2 C a l dk df dx ts st'.1 st'.2 F' H'->Is X.K F' H' M (.ref mm)->D.nx [some (.ref a),some (.ref l),some (.ref mm),some (.int i),some y,o4] H') :
  nE (dr (U4 tw' (tf X.K (xw 0) f2) (tf X.K (xw 0) f1)) (vO 5)) (nE (JR tc' uw cZ) (eC (xw 5) tk' tv')) D [some (.ref a),some (.ref l),some (.ref mm),some (.int i),some y,o4] H:=by
 obtain ⟨b2,rv,rk,key,ks,us,hb,hcc,hmv,hmk,hkey,hd,hlen,rfl⟩:=X7 hstep;refine sw F H _ (jh M ts i t none) _ (qC P3.fr.dom P3.pl pm iy rfl rfl rfl rfl λr z=>by cases z) (by rw [hb];intro z;cases z) (λb' eb F4 H4 x4 => ?_) λx z=>by rw [hb] at z;cases z
 rw [hb] at eb;cases eb;have P4:=P3.ext x4;have iy4:=iy.mono x4.kept;have pm4:=pm.mono x4.kept
 cases b2 with
 | true =>
  rw [if_pos rfl] at hd hcc nx ⊢;subst hd;refine ⟨.ref a,rfl,a,C,dx,_,.ref df,rfl,P4.ins,cl,n2,QC hf,?_⟩;refine bO sc sk sv P4 pm4 iy4 hcc hmv hmk hkey P4.nf P4.w2 λF6 H6 v P6 pm6 iv => ?_;obtain ⟨kvs,hkv,hks,iw⟩:=P6.w2;exact ⟨kvs,hkv,by rw [<- hks,List.length_map] at hlen;exact hlen,nx F6 _ _ (P6.put2 rfl hkv hks iw iv) (pm6.mono (jU P6.nf hkv (.inr (.inl ⟨_,rfl⟩))))⟩
 | false =>
  rw [if_neg Bool.false_ne_true] at hd hcc nx ⊢;subst hd;refine ⟨.ref a,rfl,a,C,dx,_,.ref dk,rfl,P4.ins,cl,n1,QD,?_⟩;refine bO sc sk sv P4 pm4 iy4 hcc hmv hmk hkey P4.nk P4.w1 λF6 H6 v P6 pm6 iv => ?_;obtain ⟨kvs,hkv,hks,iw⟩:=P6.w1;exact ⟨kvs,hkv,by rw [<- hks,List.length_map] at hlen;exact hlen,nx F6 _ _ (P6.put1 rfl hkv hks iw iv) (pm6.mono (jU P6.nk hkv (.inr (.inl ⟨_,rfl⟩))))⟩
theorem Xa (P:j4 X.K B f1 f2 C a l dk df dx ts d1 d2 F H):∃ us,Yn X.K F H l us/\IsAll X.K F H ts us:=by
 have:=P.pl;unfold Is at this;obtain ⟨a',us,e,g1,g2⟩:=this;cases e;exact ⟨us,g1,g2⟩
theorem Xb (sw:vh X tw' tw)(sc:vh X tc' tc)(sk:xx X tk' mk)(sv:xx X tv' mv)(cl:k7 X.K C)(n1:zK X.K C f1)(n2:zK X.K C f2)(hf:f1≠f2)(P0:j4 X.K B f1 f2 C a l dk df dx ts (.dct [] []) (.dct [] []) F H)(pm0:Is X.K F H M (.ref mm))
  (hfin:xj M tw tc mk mv ts 0 ts (.dct [] [],.dct [] [])=.ok fin) (nx:∀ F' H' σ,j4 X.K B f1 f2 C a l dk df dx ts fin.1 fin.2 F' H'->D.nx σ H') :
  KM (X2 X.K (xw 1)) (KI X.K 2 (b0 (vO 3) (b0 (vO 4) KH))) (nE (dr (U4 tw' (tf X.K (xw 0) f2) (tf X.K (xw 0) f1)) (vO 5)) (nE (JR tc' uw cZ) (eC (xw 5) tk' tv'))) D [some (.ref a),some (.ref l),some (.ref mm),none,none,none] H:=by
 obtain ⟨us0,hus0,_⟩:=Xa P0;refine ⟨.ref l,rfl,l,rfl,⟨us0,hus0.sq⟩,?_⟩
 refine ⟨λi m σ H=>m=ts.length - i/\i<=ts.length/\∃ F d1 d2 o2 o3 o4,σ=[some (.ref a),some (.ref l),some (.ref mm),o2,o3,o4]/\j4 X.K B f1 f2 C a l dk df dx ts d1 d2 F H/\Is X.K F H M (.ref mm)/\xj M tw tc mk mv ts i (ts.drop i) (d1,d2)=.ok fin,
  ⟨ts.length,by simp,Nat.zero_le _,F,_,_,none,none,none,rfl,P0,pm0,by simpa using hfin⟩,?_⟩
 rintro i m σ H2 ⟨rfl,hi,F2,d1,d2,o2,o3,o4,rfl,P2,pm2,hrun⟩;obtain ⟨us,hus,ius⟩:=Xa P2
 by_cases hlt:i < ts.length
 ·refine .inr ⟨⟨us,us[i]'(by rw [<- ius.len];exact hlt),hus.sq,by simp⟩,λσ H=>∃ F d1 d2 o2 o3 o4,σ=[some (.ref a),some (.ref l),some (.ref mm),o2,o3,o4]/\j4 X.K B f1 f2 C a l dk df dx ts d1 d2 F H/\Is X.K F H M (.ref mm)/\xj M tw tc mk mv ts (i + 1) (ts.drop (i + 1)) (d1,d2)=.ok fin,
   λσ' H' n=>⟨ts.length - (i + 1),by omega,rfl,hlt,n⟩,?_⟩
  rintro x H3 ⟨tu,y,htu,rfl,rfl,hy⟩;have hyi:=hy us hus.sq;obtain ⟨y',hy',iy0⟩:=ius.get (i:=i) (t:=ts[i]) (by simp [hlt]);rw [hyi] at hy';cases hy';have xa:jE F2 H2 F2 (zW H2 tu (.tup [.int i,y])):=jE.alloc P2.fr.dom htu;refine ⟨tu,[.int i,y],rfl,.inl (.inl zh),rfl,.int i,[y],rfl,y,[],rfl,rfl,?_⟩;have hdr:ts.drop i=ts[i] :: ts.drop (i + 1):=List.drop_eq_getElem_cons hlt;rw [hdr,xj] at hrun
  cases hstep:vJ M tw tc mk mv ts i ts[i] (d1,d2) with
  | bad=>rw [hstep] at hrun;cases hrun
  | exc x=>rw [hstep] at hrun;cases hrun
  | ok st' =>
  rw [hstep,bind_ok] at hrun;exact X9 sw sc sk sv cl n1 n2 hf (P2.ext xa) (pm2.mono xa.kept) (iy0.mono xa.kept) hstep λF' H' o4 P pm=>⟨F',st'.1,st'.2,_,_,_,rfl,P,pm,hrun⟩
 ·have hli:i=ts.length:=by omega
  subst hli;rw [List.drop_length,xj] at hrun;have hfin2:(d1,d2)=fin:=by injection hrun
  subst hfin2;exact .inl ⟨⟨us,hus.sq,by rw [ius.len];exact Nat.le_refl _⟩,nx F2 H2 _ P2⟩
end
def oh (memo:List Str->Mo):TE:=λ_ H Q=>∃ ks:List Str,ks.length < sizeLine/\∀ p,H p=none->Q (.ref p) (zW H p (.ext (memo ks p)))
theorem J1 {memo:List Str->Mo}{tw' tc':TT}{tk' tv':TE}{b:Bool}{ts:List T}{fin:T×T}{F:Addr->Prop}{H:Hp}{va vl:V}{Q:VK}(sw:vh X tw' tw)(sc:vh X tc' tc)(sk:xx X tk' mk)(sv:xx X tv' mv)(cl:k7 X.K C)(n1:zK X.K C f1)(n2:zK X.K C f2)(hf:f1≠f2)
  (hN:X.N=[("self" : Str),("pieces" : Str),("looked" : Str),("at" : Str),("piece" : Str),("told" : Str)]) (dm:iD F H) (ir:xl X.K (λ_=>True) F H [va,vl] [(true,.obj C [] []),(b,.lst ts)]) (hz:(strsL ts).length < sizeLine) (hfin:∀ m,xj (.mem m (memo (strsL ts) m)) tw tc mk mv ts 0 ts (.dct [] [],.dct [] [])=.ok fin)
  (ok:∀ a F' H',[va,vl][0]? = some (.ref a)->fe ⟨mY [va,vl] [(true,.obj C [] []),(b,.lst ts)],H,F⟩ F' H'->¬ F' a->xG X.K F' H' a (.obj C [f1,f2] [fin.1,fin.2])->Q .non H') :
  nE (Wx X.K (xw 0) dz f1) (nE (Wx X.K (xw 0) dz f2) (nE (dr (oh memo) (vO 2)) (KM (X2 X.K (xw 1)) (KI X.K 2 (b0 (vO 3) (b0 (vO 4) KH))) (nE (dr (U4 tw' (tf X.K (xw 0) f2) (tf X.K (xw 0) f1)) (vO 5)) (nE (JR tc' uw cZ) (eC (xw 5) tk' tv')))))) { nx:=λ_ H'=>Q .non H',rt:=Q } (start X.N [va,vl]) H:=by
 have ir0:=ir;obtain ⟨ia,⟨il,_,_⟩,sep⟩:=ir;obtain ⟨a,rfl,nFa,_,hHa,wa⟩:=ia.there rfl;obtain ⟨dx,fvs,hins,hk0,_⟩:=wa;have hfv:fvs=[]:=by simpa using hk0
 subst hfv
 -- the list,frozen
 have hfz:∃ F0:Addr->Prop,∃ l,vl=.ref l/\(∀ c,F c->F0 c)/\(∀ c,F0 c->F c\/(c=l/\b=true/\H c≠none))/\¬ F0 a/\Is X.K F0 H (.lst ts) (.ref l):=by
  cases b with
  | false =>
   have il:=il.is;obtain ⟨l,us,e,_⟩:=(show ∃ a vs,vl=.ref a/\_ by unfold Is at il;exact il)
   subst e;exact ⟨F,l,rfl,λ_ h=>h,λ_ h=>.inl h,nFa,il⟩
  | true =>
   obtain ⟨l,rfl,nFl,_,hHl,wl⟩:=il.there rfl;refine ⟨λc=>F c\/c=l,l,rfl,λ_ h=>.inl h,λc h => ?_,λz => ?_,wl.is (λ_ h=>.inl h) (.inr rfl)⟩
   ·rcases h with h | rfl
    ·exact .inl h
    ·exact .inr ⟨rfl,rfl,hHl⟩
   ·rcases z with z | rfl
    ·exact nFa z
    ·exact sep rfl 0 (true,.lst ts) rfl rfl rfl
 obtain ⟨F0,l,rfl,sub0,new0,nF0a,il0⟩:=hfz
 have dm0:iD F0 H:=λc h=>by
  rcases new0 c h with h | h
  ·exact dm c h
  ·exact h.2.2
 generalize hB:(⟨mY [V.ref a,V.ref l] [(true,T.obj C [] []),(b,T.lst ts)],H,F⟩:Bs)=B at ok
 have fr0:fe B F0 H:=by
  subst hB;refine ⟨dm0,λc h=>sub0 c h,λc h => ?_,λc o h _=>h,λc f z => ?_⟩
  ·rcases new0 c h with h | ⟨rfl,hb,_⟩
   ·exact .inl h
   ·exact .inr (.inr ⟨1,(b,T.lst ts),rfl,hb,rfl⟩)
  ·exact (xA ir0 z).1 f
 have bH:B.H=H:=by rw [<- hB]
 have hMa:B.M a:=by rw [<- hB];exact ⟨0,(true,T.obj C [] []),rfl,rfl,rfl⟩
 have hst:start X.N [V.ref a,V.ref l]=[some (.ref a),some (.ref l),none,none,none,none]:=by rw [hN];rfl
 rw [hst];refine X8 rfl hins cl n1 (by decide) λdk hdk hak => ?_;refine X8 rfl zh cl n2 (by simp [wq]) λdf hdf hadf => ?_
 have hkf:dk≠df:=by
  rintro rfl;rw [zd (Ne.symm hak),zh] at hdf;cases hdf
 have hdf0:H df=none:=by
  rw [zd (Ne.symm hadf),zd (Ne.symm hkf)] at hdf;exact hdf
 -- the loop
 have P0:j4 X.K B f1 f2 C a l dk df dx ts (.dct [] []) (.dct [] []) F0 (zW (zW (zW (zW H dk (.dK [])) a (.ins C dx (wq f1 (.ref dk) []))) df (.dK [])) a (.ins C dx (wq f2 (.ref df) (wq f1 (.ref dk) [])))):=by
  have nk:¬ F0 dk:=λz=>dm0 dk z hdk;have nf:¬ F0 df:=λz=>dm0 df z hdf0
  have kp:k9 F0 F0 H (zW (zW (zW (zW H dk (.dK [])) a (.ins C dx (wq f1 (.ref dk) []))) df (.dK [])) a (.ins C dx (wq f2 (.ref df) (wq f1 (.ref dk) [])))):=by
   refine ⟨λ_ h=>h,λc o f h => ?_,λc o h h1 h2 => ?_⟩
   ·have n1:c≠a:=by rintro rfl;exact nF0a f
    have n2:c≠dk:=by rintro rfl;exact nk f
    have n3:c≠df:=by rintro rfl;exact nf f
    rw [zd n1,zd n3,zd n1,zd n2];exact h
   ·have n1:c≠a:=by rintro rfl;rw [hins] at h;cases h;exact h2.2 _ _ _ rfl
    rw [zd n1,zd (zG h hdf0),zd n1,zd (zG h hdk)];exact h
  refine ⟨⟨λc f => ?_,fr0.sub,fr0.new,λc o h hm => ?_,fr0.f0⟩,nF0a,nk,nf,hkf,?_,by rw [bH];exact hdk,by rw [bH];exact hdf0,⟨[],?_,rfl,IsAll.nil⟩,⟨[],?_,rfl,IsAll.nil⟩,⟨_,_,rfl⟩,⟨_,_,rfl⟩,il0.mono kp⟩
  ·cases hc0:H c with
   | none=>exact absurd hc0 (dm0 c f)
   | some o=>rw [kp.fz c o f hc0];intro z;cases z
  ·rw [bH] at h
   have n1:c≠a:=by rintro rfl;exact hm hMa
   rw [zd n1,zd (zG h hdf0),zd n1,zd (zG h hdk)];exact h
  ·rw [zh];simp [wq,hf]
  ·rw [zd (Ne.symm hak),zd hkf,zd (Ne.symm hak),zh]
  ·rw [zd (Ne.symm hadf),zh]
 refine ⟨strsL ts,hz,λmm hmm => ?_⟩;refine Xb sw sc sk sv cl n1 n2 hf (P0.ext (jE.alloc P0.fr.dom hmm)) (by unfold Is;exact ⟨rfl,zh⟩) (hfin mm) λF2 H2 σ P2 => ?_;refine ok a (λc=>(F2 c\/c=dk)\/c=df) H2 rfl ⟨λc h => ?_,λc h=>.inl (.inl (P2.fr.sub c h)),λc h => ?_,P2.fr.keep,P2.fr.f0⟩ (λz => ?_) ⟨dx,_,P2.ins,rfl,IsAll.cons (P2.w1.is (λc h=>.inl (.inl h)) (.inl (.inr rfl))) (IsAll.cons (P2.w2.is (λc h=>.inl (.inl h)) (.inr rfl)) IsAll.nil)⟩
 ·rcases h with (h | rfl) | rfl
  ·exact P2.fr.dom c h
  ·exact P2.w1.there
  ·exact P2.w2.there
 ·rcases h with (h | rfl) | rfl
  ·exact P2.fr.new c h
  ·exact .inr (.inl P2.bk)
  ·exact .inr (.inl P2.bf)
 ·rcases z with (z | rfl) | rfl
  ·exact P2.nA z
  ·obtain ⟨ks,us,e⟩:=P2.s1
   have w:=P2.w1;rw [e] at w;obtain ⟨kvs,hw,_⟩:=w;rw [P2.ins] at hw;cases hw
  ·obtain ⟨ks,us,e⟩:=P2.s2
   have w:=P2.w2;rw [e] at w;obtain ⟨kvs,hw,_⟩:=w;rw [P2.ins] at hw;cases hw
theorem J2 (nd:X.N.Nodup)(hN:X.N=[("self" : Str),("pieces" : Str),("looked" : Str),("at" : Str),("piece" : Str),("told" : Str)])(hc:X.calm=true)(hu:X.A.units + 1 < cLine)(hp:PassesOwn (model X.prog X.w) X.A X.env X.xe)(cl:k7 X.K C)(n1:zK X.K C f1)(n2:zK X.K C f2)(hf:f1≠f2)
  (hg:Gl X "enumerate") (hm:X.mg "enumerate" = none) (v0:JC X.env.scope "self") (v1:JC X.env.scope "pieces") (v4:JC X.env.scope "told") (lm:cP X.env.scope "looked") (l2:cP X.env.scope "at") (l3:cP X.env.scope "piece") (l4:cP X.env.scope "told")
  (fnm:X.fn "looked" = true\/X.env.scope.names.lookup ("looked" : Str)=some NameKind.local) (fn2:X.fn "at" = true\/X.env.scope.names.lookup ("at" : Str)=some NameKind.local) (fn3:X.fn "piece" = true\/X.env.scope.names.lookup ("piece" : Str)=some NameKind.local) (fn4:X.fn "told" = true\/X.env.scope.names.lookup ("told" : Str)=some NameKind.local)
  (hmo:∀ p:Pos,PE X (.Dict [] [] p) (oh memo)) (hw:tN X cw tw) (hcc:tN X cc tc) (hk:ju X ek mk) (hv:ju X ev mv)
  (hs1:swapsWith (.Dict [] [] p1) (some (.Attribute (.Name "self" p2) f1 p3)) p4.line X.env=pure false:=by rfl) (hs2:swapsWith (.Dict [] [] q1) (some (.Attribute (.Name "self" q2) f2 q3)) q4.line X.env=pure false:=by rfl)
  (hb1:attributeBase (.Name "self" r1) f2 X.env (eval (.Name "self" r1) X.env)=eval (.Name "self" r1) X.env:=by rfl) (hb2:attributeBase (.Name "self" r3) f1 X.env (eval (.Name "self" r3) X.env)=eval (.Name "self" r3) X.env:=by rfl)
  (hs3:swapsWith (.IfExp cw (.Attribute (.Name "self" r1) f2 r2) (.Attribute (.Name "self" r3) f1 r4) r5) (some (.Name "told" r6)) r7.line X.env=pure false:=by rfl) (hs4:swapsWith ev (some (.Subscript (.Name "told" p7) ek p8)) p9.line X.env=pure false:=by rfl)
  (hsm:swapsWith (.Dict [] [] s1) (some (.Name "looked" s2)) s3.line X.env=pure false:=by rfl) (hst:starEach [.Name "pieces" q5] X.env=[(false,eval (.Name "pieces" q5) X.env)]:=by rfl) (ha:(assignEach [.Name "at" q7,.Name "piece" q8] X.env).map (·.2)=assign (.Name "at" q7) X.env :: (assignEach [.Name "piece" q8] X.env).map (·.2):=by rfl)
  (ha2:(assignEach [.Name "piece" q8] X.env).map (·.2)=assign (.Name "piece" q8) X.env :: (assignEach [] X.env).map (·.2):=by rfl) (ha3:(assignEach [.Name "at" q7,.Name "piece" q8] X.env).length=2:=by rfl) (ha4:(assignEach [.Name "at" q7,.Name "piece" q8] X.env).findIdx? (·.1)=none:=by rfl)
  (hfs:∀ x,foldedSetIterable (.Call (.Name "enumerate" q6) [.Name "pieces" q5] [] q9) X.env x=pure x:=by intro _;rfl) :
  ∃ t,cX X [.Assign [.Attribute (.Name "self" p2) f1 p3] (.Dict [] [] p1) p4,.Assign [.Attribute (.Name "self" q2) f2 q3] (.Dict [] [] q1) q4,.Assign [.Name "looked" s2] (.Dict [] [] s1) s3,
    .For (.Tuple [.Name "at" q7,.Name "piece" q8] kt p5) (.Call (.Name "enumerate" q6) [.Name "pieces" q5] [] q9)
     [.Assign [.Name "told" r6] (.IfExp cw (.Attribute (.Name "self" r1) f2 r2) (.Attribute (.Name "self" r3) f1 r4) r5) r7,.If cc rs [] r8,.Assign [.Subscript (.Name "told" p7) ek p8] ev p9] [] p6] t /\
   ∀ vs H Q E,Z3 X.K (xn memo C f1 f2 tw tc mk mv) vs H Q E->t { nx:=λ_ H'=>Q .non H',rt:=Q } (start X.N vs) H:=by
 obtain ⟨tw',pw,sw⟩:=hw;obtain ⟨tc',pc,sc⟩:=hcc;obtain ⟨tk',pk,sk⟩:=hk;obtain ⟨tv',pv',sv⟩:=hv;have pself:∀ {p:Pos},PE X (.Name "self" p) (xw 0):=λ{p} => qq (by rw [hN];rfl) v0;have ppieces:∀ {p:Pos},PE X (.Name "pieces" p) (xw 1):=λ{p} => qq (by rw [hN];rfl) v1;have ptold:∀ {p:Pos},PE X (.Name "told" p) (xw 5):=λ{p} => qq (by rw [hN];rfl) v4
 refine ⟨_,w9 (tq pself mE hs1) (w9 (tq pself mE hs2) (w9 (aV (i:=2) nd (by rw [hN];rfl) lm (hmo _) hsm fnm) (pD (aZ hp hc (Vd hg hm ppieces hst)
  (JU hc (m8 (gP (i:=3) nd (by rw [hN];rfl) l2 fn2) (m8 (gP (i:=4) nd (by rw [hN];rfl) l3 fn3) rf ha2) ha) ha3 ha4)
  (w9 (aV (i:=5) nd (by rw [hN];rfl) l4 (cY pw (tm pself hb1) (tm pself hb2)) hs3 fn4) (w9 (JS pc Zr nU) (pD (qw hu ptold pk pv' hs4)))) hfs)))),?_⟩
 intro vs H Q E h;obtain ⟨F,args,dm,ir,nb,ok,hexc⟩:=h;obtain ⟨b,ts,fin,rfl,hz,hfin,hok⟩:=Ve nb;obtain ⟨va,vl,rfl⟩:=xl.two ir;exact J1 sw sc sk sv cl n1 n2 hf hN dm ir hz hfin (ok _ hok)
end
section
variable {P:Program}{w:World}{K:W.Frag}{mg:Str->Option Value}{base:Heap}
theorem kj.ok {C:Addr}{x qual:Str}{st:Stmt}{N ps:List Str}{k:Nat}{g:MN}(F:∃ f fd,k8 K "__init__" qual st f fd/\Mk K C f)(hx:mg x=some (.ref C))(S:z7 N ps (z6 st))(hl:∀ rs,g rs≠.bad->rs.length=ps.length)
  (hb:∀ (kV doc pm:Value) (an:Option Addr) (cdv ct:Value) (us:List Value),us.length=ps.length->bindArgs (W.fnOf "__init__" qual (jK st) (j8 st) (z6 st) .none kV doc pm an cdv ct) ⟨us,[]⟩=pure (ps.zip us))
  (hbody:∀ (f:Addr) (cdv:Value) (A:Around) (outer:List Env) (s:Shared) (H:Hp) (E:XK),jD k (A.deeper (envOfC qual (z6 st) s.heap.objs.size f cdv)) ->
   ∃ t,cX (pG (ut P w) P w K mg base N qual (z6 st) f cdv A outer s H E) (j8 st) t/\∀ vs H Q E,Z3 K g vs H Q E->t { nx:=λ_ H'=>Q .non H',rt:=Q } (start N vs) H):kj P w K mg base (k + 1) C x ps g:=by
 obtain ⟨f,fd,F,hm⟩:=F;refine ⟨f,fd,?_,hm,hx,F.binds hb⟩;obtain ⟨oc,od,kV,doc,pm,an,cdv,ct,osl,rfl,lk,hcd⟩:=F.ex;refine el lk hcd S (λvs H Q E h => ?_) λA outer s H vs Q E hr hsp => ?_
 ·obtain ⟨F,rs,d,ir,nb,_⟩:=h
  rw [ir.len];exact hl rs nb
 ·obtain ⟨t,p,h⟩:=hbody f cdv A outer s H E hr
  exact ⟨t,p,h vs H Q E hsp⟩
end
def dX {memo:List Str->Mo}{C:Addr}{f1 f2:Str}{tw tc:MT}{mk mv:ME}{ps:List Str}(h:ps.length=2):∀ rs,xn memo C f1 f2 tw tc mk mv rs≠.bad->rs.length=ps.length:=by
 intro rs nb;unfold xn at nb
 split at nb
 ·rw [h];rfl
 ·exact absurd rfl nb
def K9 (d k:T):Option RV:=match d with
 | .dct ks ts=>(pM k).map λk=>(false,(qx ks ts k).getD .non)
 | _=>none
def bP (md mk:ME):ME:=λenv=>(md env).bind λd=>match d.2 with
 | .dct _ _=>(mk env).bind λk=>ZK (K9 d.2 k.2)
 | _=>.bad
def QE (hu:X.A.units + 1 < cLine)(ho:ju X o md)(he:ju X e mk)(m:M1 X o "get" apos e cpos:=by exact ⟨rfl,rfl,rfl,rfl⟩):ju X (.Call (.Attribute o "get" apos) [e] [] cpos) (bP md mk):=by
 obtain ⟨td,pd,sd⟩:=ho;obtain ⟨tk,pk,sk⟩:=he;refine ⟨_,Yb hu pd pk m,?_⟩;intro F H σ env Q R nb ok ex;unfold bP at nb ok ex;refine sd.val R (λz=>by rw [z] at nb;exact nb rfl) (λr1 e1 v1 F1 H1 x1 i1 => ?_) λx z=>ex x (by rw [z];rfl);rw [e1,bind_ok] at nb ok ex;obtain ⟨b,d⟩:=r1;dsimp only at nb ok ex i1;cases d<;>dsimp only at nb ok ex<;>try (exact absurd rfl nb)
 case dct ks ts =>
  have i1':=i1;unfold Is at i1';obtain ⟨a,kvs,rfl,fa,hH,hks,ia⟩:=i1';refine ⟨a,rfl,.inl ⟨kvs,hH⟩,?_⟩;refine sk.val (R.mono x1) (λz=>by rw [z] at nb;exact nb rfl) (λr2 e2 v2 F2 H2 x2 i2 => ?_) λx z=>(ex x (by rw [z];rfl)).mono x1;rw [e2,bind_ok] at nb ok;unfold K9 at nb ok;dsimp only at nb ok
  cases hk:pM r2.2 with
  | none=>rw [hk] at nb;exact absurd rfl nb
  | some key =>
   rw [hk] at ok;have i1'':=i1.mono x2.kept;unfold Is at i1'';obtain ⟨a',kvs',e',_,hH',hks',ia'⟩:=i1'';cases e';have hv:=X6 i2 hk;subst hv;have ⟨g1,g2⟩:=pL key hks' ia';refine ⟨_,.inl ⟨kvs',key,hH',rfl,rfl⟩,ok _ rfl _ F2 H2 (x1.trans x2) (jo ?_)⟩
   cases hd:qx ks ts key with
   | none=>rw [g2 hd];exact Yr
   | some t =>
    obtain ⟨v,hv,iv⟩:=g1 t hd;rw [hv];exact iv
def v8 (g:Str->Bool)(ks:List Str)(kvs:List (Key×V)):Prop:=ks.length < sizeLine/\(kvs.map (·.1)).Nodup/\∀ p∈kvs,∃ x,x∈ks/\p=(Sum.inr x,V.bl (g x))
def memoP (P:Program)(w:World)(g:Str->Bool)(ks:List Str):Mo:=λa h=>∃ kvs,v8 g ks kvs/\jd P w (λ_=>none) h a (.dK kvs)
def Xc [DecidableEq α]:∀ {l m:List α},l.Nodup->(∀ x∈l,x∈m)->l.length<=m.length
 | [],m,_,_=>Nat.zero_le _
 | a :: l,m,nd,h=>by
  have nd:=List.nodup_cons.mp nd;have ha:=h a List.mem_cons_self;have hl:=Xc nd.2 λx hx=>(List.mem_erase_of_ne (by rintro rfl;exact nd.1 hx)).mpr (h x (List.mem_cons_of_mem _ hx));rw [List.length_erase_of_mem ha] at hl;have:=List.length_pos_of_mem ha;rw [List.length_cons];omega
def v8.len (m:v8 g ks kvs):kvs.length < sizeLine:=by
 have:=Xc m.2.1 λy hy=>by
  obtain ⟨p,hp,rfl⟩:=List.mem_map.mp hy;obtain ⟨x,hx,rfl⟩:=m.2.2 p hp;exact List.mem_map.mpr ⟨x,hx,rfl⟩
 rw [List.length_map,List.length_map] at this;exact Nat.lt_of_le_of_lt this m.1
def v8.val (m:v8 g ks kvs)(h:xF kvs (.inr x)=some v):v=.bl (g x):=by
 unfold xF at h;obtain ⟨p,hp,rfl⟩:=Option.map_eq_some_iff.mp h;have h2:=List.find?_some hp;obtain ⟨y,hy,rfl⟩:=m.2.2 p (List.mem_of_find?_eq_some hp);have h2:(Sum.inr y:Key)=.inr x:=of_decide_eq_true h2;cases h2
 rfl
def v8.put (m:v8 g ks kvs)(hx:x∈ks)(h:xF kvs (.inr x)=none):v8 g ks (v3 kvs (.inr x) (.bl (g x))):=by
 rw [Ya _ h];refine ⟨m.1,?_,λp hp => ?_⟩
 ·rw [List.map_append]
  refine List.nodup_append.mpr ⟨m.2.1,by simp,λy hy z hz => ?_⟩;have:z=.inr x:=by simpa using hz
  rw [this];intro e;exact Yd h (e ▸ hy)
 ·rcases List.mem_append.mp hp with hp | hp
  ·exact m.2.2 p hp
  ·exact ⟨x,hx,by simpa using hp⟩
def bQ (m:v8 g ks kvs)(o:jd P w (λ_=>none) h a (.dK kvs))(H':Hp):jd P w H' h a (.ext (memoP P w g ks a)):=by
 refine ⟨⟨kvs,m,o⟩,?_,λh1 h2 ⟨kvs,m,o⟩ k=>⟨kvs,m,o.stay (λb u hb q => ?_) (λ_ z=>by cases z) λ_ _ z=>by cases z⟩⟩
 ·obtain ⟨_,_,_,_,ob,_,_,e,_⟩:=o
  exact ⟨ob,e⟩
 ·rcases hb with rfl | hb
  ·exact k u q
  ·cases hb
def pV (ok:gd P w H h)(e:H a=some o)(h1:∀ b,o≠.own b)(h2:∀ xs,o≠.tup xs)(new:∀ H',jd P w H' h a u):gd P w (zW H a u) h:=λb q hq=>by
 by_cases hb:b=a
 ·subst hb
  rw [zh] at hq;cases hq;exact new _
 ·rw [zd hb] at hq
  refine (ok b q hq).stay (λ_ _ _ z=>z) (λc z => ?_) λc xs z => ?_
  ·rw [zd (by rintro rfl;rw [e] at z;cases z;exact h1 _ rfl)];exact z
  ·rw [zd (by rintro rfl;rw [e] at z;cases z;exact h2 _ rfl)];exact z
def vg.memo {K:W.Frag}{mg:Str->Option Value}{base:Heap}{k:Nat}{f:Addr}{fd:FuncData}{ps:List Str}{spO sp:Sp}(F:vg P w K mg base (ut P w) k f fd ps spO)(len:∀ vs H Q E,sp vs H Q E->vs.length=ps.length)
  (hs:∀ vs H Q E,sp vs H Q E->∃ a ks,H a=some (.ext (memoP P w g ks a))/\∀ kvs,v8 g ks kvs->spO vs (zW H a (.dK kvs)) (λv H'=>∃ kvs',v8 g ks kvs'/\H' a=some (.dK kvs')/\Q v (zW H' a (.ext (memoP P w g ks a)))) (λ_ _ _=>False)):vg P w K mg base (ut P w) k f fd ps sp:=by
 refine ⟨len,λA outer s H args us vs Q E hr e0 hb hv h => ?_⟩;obtain ⟨a,ks,ha,hk⟩:=hs vs H Q E h;obtain ⟨⟨kvs,m,ok⟩,_,_⟩:=(show jd P w H s.heap a (.ext (memoP P w g ks a)) from e0.hok a _ ha)
 have nn:∀ b,H b=none->b≠a:=λb n z=>by rw [z,ha] at n;cases n
 have up:∀ b,H b=none->zW H a (.dK kvs) b=none:=λb n=>by rw [zd (nn b n)];exact n
 have e1:b8 P w K mg base A outer s (zW H a (.dK kvs)):=⟨e0.frames,e0.mod,λb o q=>⟨(e0.bs b o q).1,up b (e0.bs b o q).2⟩,e0.bsz,e0.funs,λb q=>up b (e0.frf b q),(by rw [zd (pC e0.tab ha (by intro z;cases z))];exact e0.tab),pV e0.hok ha (λ_ z=>by cases z) (λ_ z=>by cases z) (λ_=>ok),e0.bare⟩
 refine codeAny_mono (F.run A outer s _ args us vs _ _ hr e1 hb hv (hk kvs m)) λr s' hq => ?_
 cases r with
 | error e=>obtain ⟨_,_,_,_,_,_,z⟩:=hq;exact z.elim
 | ok fl =>
  cases fl with
  | next=>exact False.elim hq
  | brk=>exact False.elim hq
  | cont=>exact False.elim hq
  | ret u =>
   obtain ⟨v,H',os,br,un,hok,rv,kvs',m',h',q⟩:=hq;refine ⟨v,_,os,br,⟨λb o q n hc hx=>un.keep b o q (up b n) hc hx,λb o q n hc hx=>un.slot b o q (up b n) hc hx,λb o q n hx => ?_,un.there,λb xs q => ?_,λb o u q => ?_,λb xs q => ?_⟩,pV hok h' (λ_ z=>by cases z) (λ_ z=>by cases z) (bQ m' (hok a _ h')),rv,q⟩
   ·rw [zd (nn b n)];exact un.free b o q (up b n) hx
   ·have hb:=pC q ha (by intro z;cases z)
    rw [zd hb];exact un.tups b xs (by rw [zd hb];exact q)
   ·have hb:=pC q ha (by intro z;cases z)
    rw [zd hb];exact un.frzs b o u (by rw [zd hb];exact q)
   ·have hb:=pC q ha (by intro z;cases z)
    rw [zd hb];exact un.tbls b xs (by rw [zd hb];exact q)
def Xd (hm:memo=memoP X.prog X.w g)(pos:Pos):PE X (.Dict [] [] pos) (oh memo):=λpins s σ H Q I h=>by
 subst hm;obtain ⟨ks,hl,h⟩:=h;exact wpAny_Dict_empty ⟨.ref s.heap.objs.size,_,I.laid (λ_ _ q=>Heap.get?_push_of_some _ q) (Nat.le_refl _) (bQ (kvs:=[]) ⟨hl,List.nodup_nil,λp hp=>nomatch hp⟩ (bb s.heap I.big) _),rfl,h _ (I.hok.fresh (Nat.le_refl _))⟩
open Classical in
def eP (memo:List Str->Mo)(f:MF):MF:=λrs=>match rs with
 | [(_,.mem m o),(_,.str x)]=>if ∃ ks,o=memo ks m/\x∈ks then (match f [(false,.str x)] with
  | .ok (false,.bl b)=>.ok (false,.bl b)
  | _=>.bad) else .bad
 | _=>.bad
def gOf (f:MF)(x:Str):Bool:=match f [(false,.str x)] with
 | .ok (_,.bl b)=>b
 | _=>false
def bR (nb:eP memo f rs≠.bad):∃ b1 b2 m ks x b,rs=[(b1,.mem m (memo ks m)),(b2,.str x)]/\x∈ks/\f [(false,.str x)]=.ok (false,.bl b)/\eP memo f rs=.ok (false,.bl b):=by
 unfold eP at nb ⊢
 split at nb
 ·split at nb
  ·rename_i hc
   obtain ⟨ks,rfl,hx⟩:=hc
   split at nb
   ·rename_i b hb
    exact ⟨_,_,_,ks,_,b,rfl,hx,hb,by rw [if_pos ⟨ks,rfl,hx⟩]⟩
   ·exact absurd rfl nb
  ·exact absurd rfl nb
 ·exact absurd rfl nb
def UZ (g:Str->Bool)(f:MF):Sp:=λvs H Q _=>∃ a x kvs ks,vs=[.ref a,.str x]/\H a=some (.dK kvs)/\v8 g ks kvs/\x∈ks/\f [(false,.str x)]=.ok (false,.bl (g x)) /\
 ∀ H' kvs',v8 g ks kvs'->H' a=some (.dK kvs')->(∀ c o,c≠a->H c=some o->H' c=some o)->Q (.bl (g x)) H'
def J3 (C:jV X.prog X.w X.K X.mg X.base k "is_kind" ["text"] f)(hr:jD k X.A)(hu:X.A.units + 1 < cLine)(hN:X.N=[("looked" : Str),("text" : Str)])(hg:Gl X "is_kind")(v0:JC X.env.scope "looked")(v1:JC X.env.scope "text")
  (hbm:behindInMarks .NotIn (.Name "looked" p2)=false:=by first | rfl | with_unfolding_all rfl) (hsw:swapsWith (.Call (.Name "is_kind" p7) [.Name "text" p8] [] p9) (some (.Subscript (.Name "looked" p4) (.Name "text" p5) p6)) p10.line X.env=pure false:=by rfl)
  (he:starEach [.Name "text" p8] X.env=(false,eval (.Name "text" p8) X.env) :: starEach [] X.env:=by rfl) (hpl:(backTo p9 (starEach [] X.env)).any (·.1)=false:=by rfl) (hns:Qd (.Name "text" p13):=by first | rfl | exact (λ_ _=>rfl)) :
  ∃ t,cX X [.If (.Compare (.Name "text" p1) [.NotIn] [.Name "looked" p2] p3) [.Assign [.Subscript (.Name "looked" p4) (.Name "text" p5) p6] (.Call (.Name "is_kind" p7) [.Name "text" p8] [] p9) p10] [] p11,.Return (some (.Subscript (.Name "looked" p12) (.Name "text" p13) p14)) p15] t /\
   ∀ vs H Q E,UZ g f vs H Q E->t { nx:=λ_ H'=>Q .non H',rt:=Q } (start X.N vs) H:=by
 obtain ⟨fa,fd,F,hm,hk,hb⟩:=C;have pl:∀ {p:Pos},PE X (.Name "looked" p) (xw 0):=λ{p} => qq (by rw [hN];rfl) v0;have pt:∀ {p:Pos},PE X (.Name "text" p) (xw 1):=λ{p} => qq (by rw [hN];rfl) v1;refine ⟨_,w9 (JS (Ky (ZF hu pt pl) hbm) (pD (qw hu pl pt (bB F hr hg hm hk hb (vb pt qu he)) hsw)) nU) (pD (aT (WJ hu pl pt hns))),?_⟩;rintro vs H Q E ⟨a,x,kvs,ks,rfl,ha,m,hx,hf,q⟩;rw [show start X.N [.ref a,.str x]=[some (.ref a),some (.str x)] from by rw [hN];rfl];refine ⟨.str x,rfl,.ref a,rfl,a,xF kvs (.inr x),rfl,gV.k (k:=.inr x) ha,?_⟩
 cases hv:xF kvs (.inr x) with
 | some v =>
  refine ⟨_,rfl,?_⟩;refine ⟨.ref a,rfl,.str x,rfl,a,v,rfl,hv ▸ gV.k (k:=.inr x) ha,?_⟩;rw [m.val hv];exact q H kvs m ha λc o _ h=>h
 | none =>
  refine ⟨_,rfl,?_⟩;refine ⟨.str x,rfl,λ_ _ _=>False,⟨λ_=>False,[(false,.str x)],λ_ h=>h.elim,⟨jo vX,trivial,λz=>by cases z⟩,(by rw [hf];intro z;cases z),λr er v F' H1 rr => ?_,λx ex=>by rw [hf] at ex;cases ex⟩,λ_ _ _ z=>z.elim⟩;rw [hf] at er;cases er;have hvv:=rr.val.is;unfold Is at hvv;subst hvv
  have kp:∀ c o,H c=some o->H1 c=some o:=λc o h=>rr.fr.keep c o h λ⟨i,r,e,ho,_⟩=>by
   cases i with
   | zero=>simp at e;subst e;cases ho
   | succ i=>simp at e
  refine ⟨.ref a,rfl,.str x,rfl,a,_,rfl,tJ.k (k:=.inr x) (kp _ _ ha) m.len,?_⟩;have hd:=gV.k (k:=.inr x) (zh (H:=H1) (a:=a) (o:=.dK (v3 kvs (.inr x) (.bl (g x)))));rw [Y9,if_pos rfl] at hd;exact ⟨.ref a,rfl,.str x,rfl,a,_,rfl,hd,q _ _ (m.put hx hv) zh λc o hc h=>by rw [zd hc];exact kp c o h⟩
section
variable {P:Program}{w:World}{K:W.Frag}{mg:Str->Option Value}{base:Heap}
theorem Vf {memo:List Str->Mo}{f:MF}{x:Str}{st:Stmt}{N ps:List Str}{k:Nat}(hm:memo=memoP P w (gOf f))(hps:ps.length=2)(F:zN K mg x st)(S:z7 N ps (z6 st))
  (hb:∀ (kV doc pm:Value) (an:Option Addr) (cdv ct:Value) (us:List Value),us.length=ps.length->bindArgs (W.fnOf x x (jK st) (j8 st) (z6 st) .none kV doc pm an cdv ct) ⟨us,[]⟩=pure (ps.zip us))
  (hbody:∀ (fa:Addr) (cdv:Value) (A:Around) (outer:List Env) (s:Shared) (H:Hp) (E:XK),jD k (A.deeper (envOfC x (z6 st) s.heap.objs.size fa cdv)) ->
   ∃ t,cX (pG (ut P w) P w K mg base N x (z6 st) fa cdv A outer s H E) (j8 st) t/\∀ vs H Q E,UZ (gOf f) f vs H Q E->t { nx:=λ_ H'=>Q .non H',rt:=Q } (start N vs) H):jV P w K mg base (k + 1) x ps (eP memo f):=by
 subst hm;obtain ⟨fa,fd,F,e⟩:=F;refine ⟨fa,fd,?_,e,F.kp,F.binds hb⟩;obtain ⟨oc,od,kV,doc,pm,an,cdv,ct,osl,rfl,lk,hcd⟩:=F.ex;refine vg.memo (g:=gOf f) (spO:=UZ (gOf f) f) (el lk hcd S (λvs H Q E h => ?_) λA outer s H vs Q E hr hsp => ?_) (λvs H Q E h => ?_) λvs H Q E h => ?_
 ·obtain ⟨a,x,kvs,ks,rfl,_⟩:=h
  exact hps.symm
 ·obtain ⟨t,p,h⟩:=hbody fa cdv A outer s H E hr
  exact ⟨t,p,h vs H Q E hsp⟩
 ·obtain ⟨Fz,rs,d,ir,nb,_⟩:=h
  obtain ⟨_,_,_,_,_,_,rfl,_⟩:=bR nb;rw [ir.len,hps]
  rfl
 ·obtain ⟨Fz,rs,d,ir,nb,ok,_⟩:=h
  obtain ⟨b1,b2,a,ks,x,b,rfl,hx,hf,hok⟩:=bR nb;obtain ⟨v1,v2,rfl⟩:=xl.two ir;have f0:=λc (fc:Fz c) z=>(xA ir z).1 fc;obtain ⟨i1,⟨i2,_,_⟩,_⟩:=ir
  have i1:Is K Fz H (.mem a (memoP P w (gOf f) ks a)) v1:=by
   cases b1 with
   | false=>exact i1.is
   | true=>obtain ⟨_,_,_,_,_,z⟩:=i1.there rfl;exact z.elim
  have i2:Is K Fz H (.str x) v2:=by
   cases b2 with
   | false=>exact i2.is
   | true=>obtain ⟨_,_,_,_,_,z⟩:=i2.there rfl;exact z.elim
  unfold Is at i1 i2;obtain ⟨rfl,ha⟩:=i1;subst i2;have hgb:gOf f x=b:=by unfold gOf;rw [hf]
  subst hgb;refine ⟨a,ks,ha,λkvs m=>⟨a,x,kvs,ks,rfl,zh,m,hx,hf,λH' kvs' m' h' kp=>⟨kvs',m',h',ok _ hok _ Fz _ ⟨⟨λc fc => ?_,λ_ h=>h,λ_ h=>.inl h,λc o hc _ => ?_,f0⟩,jo xH⟩⟩⟩⟩
  ·by_cases e:c=a
   ·subst e;rw [zh];intro z;cases z
   ·cases hc:H c with
    | none=>exact absurd hc (d c fc)
    | some o=>rw [zd e,kp c o e (by rw [zd e];exact hc)];intro z;cases z
  ·by_cases e:c=a
   ·subst e;rw [zh,<- ha];exact hc
   ·rw [zd e];exact kp c o e (by rw [zd e];exact hc)
end
def Vg (a b:String):Bool:=a == b || (a == "bool" && b == "int")
def QF:List String:=["bool","int","str","tuple","list","dict"]
def Vh {K:W.Frag}{t:T}{a b:String}(ha:bD t=some a)(hb:b∈QF):W.kitOne K (.type a) (.type b)=some (Vg a b):=by
 cases t<;>simp only [bD,Option.some.injEq,reduceCtorEq] at ha<;>subst ha<;>simp only [QF,List.mem_cons,List.not_mem_nil,or_false] at hb<;>rcases hb with rfl | rfl | rfl | rfl | rfl | rfl <;>
  first | rfl | decide | (unfold W.kitOne W.kitCls;rfl) | (unfold W.kitOne W.kitCls;simp;decide +kernel)
def pW:List T->Option RV
 | [t,.ty n]=>match bD t with
  | some m=>if n∈QF then some (false,.bl (Vg m n)) else none
  | none=>none
 | _=>none
def kn:ke X (.builtin "isinstance") (WR X.K pW):=by
 intro pins s σ H xs us Q I r h;obtain ⟨F,ts,rv,d,ia,e,q⟩:=h
 match ts,e with
 | [t,.ty n],e =>
  obtain ⟨v,w,rfl,g1,g2⟩:=UX ia;unfold Is at g2;subst g2;simp only [pW] at e
  cases hm:bD t with
  | none=>rw [hm] at e;cases e
  | some m =>
  rw [hm] at e;dsimp only at e
  split at e<;>cases e
  rename_i hn;have qt:Q (.bl (Vg m n)) H:=jQ d xH q rfl;obtain ⟨u,u2,rfl,ru,ru2⟩:=GO r;cases ru2;have kt:=Vh (K:=X.K) hm hn
  have fin:uz X.K H v (.type m)->wpAny (model X.prog X.w) X.A (call (.builtin "isinstance") [u,.type n]) (EP X pins σ Q) X.xe s:=λht =>
   ZA I ru ht kt λtk=>⟨.bl (Vg m n),H,I.tok _,rfl,qt⟩
  cases t<;>unfold Is at g1<;>simp only [bD,Option.some.injEq,reduceCtorEq] at hm<;>subst hm
  case non=>subst g1;exact fin .non
  case bl=>subst g1;exact fin (.bl _)
  case int=>subst g1;exact fin (.int _)
  case str=>subst g1;exact fin (.str _)
  case lst ts =>
   obtain ⟨a,vs,rfl,g,g2⟩:=g1;cases ru;obtain ⟨its,rr,pl,hz⟩:=I.list g.sq;obtain ⟨o,ho,hc,n',hd⟩:=pl.isList;exact W.kia_one W.kitx_list I.kIn ⟨o,ho,hc⟩ kt (λz=>nomatch z) λtk=>⟨.bl _,H,I.tok _,rfl,qt⟩
  case tup ts =>
   obtain ⟨a,vs,rfl,g,g2⟩:=g1;cases ru;obtain ⟨its,rr,pl,hz⟩:=I.tuple g;obtain ⟨o,ho,hc,_⟩:=pl;exact W.kia_one W.kitx_tuple I.kIn ⟨o,ho,hc⟩ kt (λz=>nomatch z) λtk=>⟨.bl _,H,I.tok _,rfl,qt⟩
def N1 (K:W.Frag):Sp:=λvs H Q _=>∃ a,∃ ns:List Int,vs=[.ref a]/\uv K H a (ns.map V.int)/\ns.length<=63/\∀ H',Q (.bl true) H'
def Z4 {K:W.Frag}{F:Addr->Prop}{H:Hp} : ∀ (ns:List Int),IsAll K F H (ns.map T.int) (ns.map V.int)
 | []=>IsAll.nil
 | _ :: ns=>IsAll.cons xg (Z4 ns)
section
variable {P:Program}{w:World}{K:W.Frag}{mg:Str->Option Value}{base:Heap}
theorem k8.ok3 {x:Str}{st:Stmt}{f:Addr}{fd:FuncData}{N ps:List Str}{k:Nat}{mb:MS}(F:k8 K x x st f fd)(S:z7 N ps (z6 st))
  (hbody:∀ (cdv:Value) (A:Around) (outer:List Env) (s:Shared) (H:Hp) (E:XK),jD k (A.deeper (envOfC x (z6 st) s.heap.objs.size f cdv)) ->
   uD (pG (ut P w) P w K mg base N x (z6 st) f cdv A outer s H E) (j8 st) mb):vg P w K mg base (ut P w) (k + 1) f fd ps (ff K (zy N.length ps.length mb)):=by
 obtain ⟨oc,od,kV,doc,pm,an,cdv,ct,osl,rfl,lk,hcd⟩:=F.ex;exact el lk hcd S (λvs H Q E h=>Qv h) λA outer s H vs Q E hr hsp=>YN hsp (hbody cdv A outer s H E hr)
theorem QG (F:vg P w K mg base (ut P w) k f fd [x] (ff K m))(h:∀ ns:List Int,ns.length<=63->m [(false,.lst (ns.map T.int))]=.ok (false,.bl true)):vg P w K mg base (ut P w) k f fd [x] (N1 K):=by
 refine F.imp λvs H Q E ⟨a,ns,hv,hS,hl,q⟩ => ?_;subst hv;have hm:=h ns hl
 have fin:∀ F:Addr->Prop,iD F H->Yn K F H a (ns.map V.int)->ff K m [.ref a] H Q E:=by
  intro F d fz;refine ⟨F,[(false,.lst (ns.map T.int))],d,⟨jo ?_,trivial,λz=>by cases z⟩,(by rw [hm];intro z;cases z),λr er v F' H' rr => ?_,λx ex=>(by rw [hm] at ex;cases ex)⟩
  ·unfold Is
   exact ⟨a,_,rfl,fz,Z4 ns⟩
  ·rw [hm] at er
   cases er;have:=rr.val.is;unfold Is at this;rw [this];exact q H'
 rcases hS with (hS | hS) | hS
 ·exact fin (λb=>b=a) (λb hb=>by rw [hb,hS];intro z;cases z) (.inl ⟨rfl,hS⟩)
 ·exact fin (λ_=>False) (λb hb=>hb.elim) (.inr (.inl hS))
 ·exact fin (λ_=>False) (λb hb=>hb.elim) (.inr (.inr hS))
end
def Pg {l:W.OpenLaw}{q:Program}{loose:List Str}{XP:(Str->Option Value)->Heap->Prop}{YP:World->Heap->Prop}{d:DefRec}{K:Params->W.Frag}{x:Str}{k:Nat}{st:Stmt}(hn:l.most=some 63)(hdf:d.params.defaults=[])(hdn:d.name = "law")(hr:jD k callerA)
  (hY:∀ (w:World) (h:Heap),YP w h->(K w.params).In h) (hYT:∀ (w:World) (h:Heap),YP w h->h.get? tabP=some { cls:=.none,data:=.fields #[] }) {c₀:Addr} (hYC:∀ (w:World) (h:Heap),YP w h->W.CodeHd h c₀ tabP) (hYN:∀ w:World,W.noTabs (K w.params)=true)
  (hb:∀ (kV doc pm:Value) (an:Option Addr) (cdv ct:Value) (u:Value),bindArgs (W.fnOf "law" "law" (jK st) (j8 st) (z6 st) .none kV doc pm an cdv ct) ⟨[u],[]⟩=pure [(x,u)])
  (F:∀ (w:World) (mg:Str->Option Value) (h:Heap),(K w.params).In h->h.Ns mainGlobals mg->zN (K w.params) mg "law" st/\∀ (f:Addr) (fd:FuncData),k8 (K w.params) "law" "law" st f fd->∀ base:Heap,vg l.prog w (K w.params) mg base (ut l.prog w) k f fd [x] (N1 (K w.params))) :
  W.WalkO q loose XP YP l.row.toRowW d [] (λf vs=>PySem.call f vs):=by
 refine L2.walk_of (x:=x) (CX:=λw=>ut l.prog w) (sp:=λw=>N1 (K w.params)) hn (by decide) hdf hr hY hYT hYC hYN ?_ (λw H a ns hl _ hS=>⟨a,ns,rfl,hS,hl,λ_=>rfl⟩) λw H s e s' z=>by
  obtain ⟨_,_,_,_,_,_,z⟩:=z;exact z
 intro w mg fa h KX G hmg;obtain ⟨⟨f,fd,Fl,e⟩,T⟩:=F w mg h KX G;rw [hdn,e] at hmg;cases hmg;refine ⟨fd,λs u => ?_,λbase _ _=>T _ fd Fl base⟩;obtain ⟨oc,od,kV,doc,pm,an,cdv,ct,osl,rfl,lk,hcd⟩:=Fl.ex;exact .of_eq (hb kV doc pm an cdv ct u)
def bS:∀ {fs:List (Str×V)},f∉fs.map (·.1)->wq f v fs=fs ++ [(f,v)]
 | [],_=>rfl
 | (k,x) :: r,h=>by
  have hk:¬ k=f:=λe=>h (by rw [e];simp);have hr:f∉r.map (·.1):=λz=>h (by simp only [List.map_cons];exact List.mem_cons_of_mem _ z);rw [show wq f v ((k,x) :: r)=(if k=f then (k,v) :: r else (k,x) :: wq f v r) from rfl,if_neg hk,bS hr]
  rfl
def xo (X:Cx)(sts:List Stmt)(fis:List (Str×Nat)):Prop := ∃ t,cX X sts t /\
 ∀ (D:nC) (σ:St) (H:Hp) (a C dx:Addr) (cur:List (Str×V)) (vs:List V),σ[0]? = some (some (.ref a))->H a=some (.ins C dx cur)->k7 X.K C->(∀ p∈fis,zK X.K C p.1)->cur.length + fis.length < 900 ->
  fis.length=vs.length->(∀ (j:Nat) (p:Str×Nat) (v:V),fis[j]? = some p->vs[j]? = some v->σ[p.2]? = some (some v))->(cur.map (·.1) ++ fis.map (·.1)).Nodup ->
  (∀ H':Hp,H' a=some (.ins C dx (cur ++ (fis.map (·.1)).zip vs))->(∀ b,b≠a->H' b=H b)->D.nx σ H')->t D σ H
section
variable {X:Cx}{fis:List (Str×Nat)}{rest:List Stmt}{f:Str}{i:Nat}{o value:Expr}{p' pos:Pos}
theorem xo.nil:xo X [] []:=⟨_,nU,λD σ H a C dx cur vs s0 ha cl hn hl hlen hv nd fin=>by
 have:vs=[]:=by cases vs with | nil=>rfl | cons _ _=>simp at hlen
 subst this;exact fin H (by simpa using ha) λb _=>rfl⟩
theorem xo.fld (h0:PE X o (xw 0))(hi:PE X value (xw i))(r:xo X rest fis)(hs:swapsWith value (some (.Attribute o f p')) pos.line X.env=pure false:=by rfl):xo X (.Assign [.Attribute o f p'] value pos :: rest) ((f,i) :: fis):=by
 obtain ⟨t,p,h⟩:=r;refine ⟨_,w9 (tq h0 hi hs) p,λD σ H a C dx cur vs s0 ha cl hn hl hlen hv nd fin => ?_⟩
 cases vs with
 | nil=>simp at hlen
 | cons v vs =>
  have hf:f∉cur.map (·.1):=λz=>by
   have:=(List.nodup_append.mp nd).2.2 f z f (by simp);exact this rfl
  refine ⟨v,hv 0 (f,i) v rfl rfl,.ref a,s0,a,C,dx,cur,rfl,ha,cl,hn (f,i) List.mem_cons_self,(by simp at hl;omega),?_⟩;rw [bS hf];refine h D σ _ a C dx (cur ++ [(f,v)]) vs s0 zh cl (λq hq=>hn q (List.mem_cons_of_mem _ hq)) (by simp at hl ⊢;omega) (by simpa using hlen) (λj q w h1 h2=>hv (j + 1) q w (by simpa using h1) (by simpa using h2)) (by simpa using nd) λH' h1 h2=>fin H' (by simpa using h1) λb hb=>by rw [h2 b hb,zd hb]
end
structure bT (K:W.Frag) (C:Addr) (m:Str) (f:Addr):Prop where
 sg:W.specialIn K (.ref C) "__getattribute__" = some (some (.builtin "type.__getattribute__"))
 rd:W.readsIn K C (.type "type")=true
 fc:W.findCls K (.ref C) (.type "type") m=some (.val (.ref f))
 kp:W.keepIn K (.ref f)=true
def QH (K:W.Frag)(f:Str):Sp:=λvs H Q _=>∃ a C dx cur v,vs=[.ref a,v]/\H a=some (.ins C dx cur)/\k7 K C/\zK K C f/\cur.length < 899/\f∉cur.map (·.1)/\(cur.map (·.1)).Nodup /\
 ∀ H':Hp,H' a=some (.ins C dx (cur ++ [(f,v)]))->(∀ b,b≠a->H' b=H b)->Q .non H'
def Xe {pl:Sem Bool}(c:bT X.K C m fa)(F:vg X.prog X.w X.K X.mg X.base (ut X.prog X.w) k fa fd ps sp)(hr:jD k X.A)(hg:Gl X x)(hm:X.mg x=some (.ref C))(hb:kf X.K fd ps [])(ha:PA X (e :: es) t)
  (hdb:(x == ("__debug__" : Str))=false:=by decide) (hst:starEach (e :: es) X.env=(false,eval e X.env) :: starEach es X.env:=by rfl) (hpl:(backTo pos (starEach es X.env)).any (·.1)=false:=by rfl)
  (ht:eval (.Call (.Attribute (.Name x p) m apos) (e :: es) [] pos) X.env=(do
   let ov <- eval (.Name x p) X.env
   standAt apos.atName
   let (f,first) <- holding [ov] (getMethod ov m pl)
   callWith pos f first (backTo pos (starEach (e :: es) X.env)) (backToKw pos (keywordEach [] X.env))):=by rfl) :
  PE X (.Call (.Attribute (.Name x p) m apos) (e :: es) [] pos) (tW X sp t):=by
 intro pins s σ H Q I h;refine W.methodCall_KW (pl:=pl) (jx (nT (v:=.ref C) hg hm rfl hdb pins s σ H (λv H1=>v=.ref C/\H1=H) I ⟨rfl,rfl⟩) λu s1 ⟨v,H1,I1,rx,ev,eH⟩ => ?_) ht;subst ev;subst eH;obtain rfl:u=Value.ref C:=rx;refine W.method_cls I1.kIn c.sg (W.cls_value I1.kIn c.rd c.fc rfl ?_);refine W.callWith_K (first:=[]) (h₀:=X.base) I.ok.mod.kin c.kp (jx (ha pos pins _ σ H1 _ (I1.tok _) h) λus s2 ⟨vs,H2,I2,r,E,q,hx⟩=>⟨I2.kIn,?_⟩) hst hpl;exact nW F hr hb I2 r q λe oa H' z s' I'=>hx e oa H' z pins s' I'
def bU (P:Program)(w:World)(K:W.Frag)(mg:Str->Option Value)(base:Heap)(k:Nat)(C:Addr)(m:Str)(ps:List Str)(f:Str):Prop :=
 ∃ fa fd,vg P w K mg base (ut P w) k fa fd ps (QH K f)/\bT K C m fa/\kf K fd ps []
def xo.base {pl:Sem Bool}{f:Str}{i:Nat}{fis:List (Str×Nat)}{rest:List Stmt}{a1 a2:Expr}(B:bU X.prog X.w X.K X.mg X.base k C m ps f)(hr:jD k X.A)(hg:Gl X x)(hm:X.mg x=some (.ref C))
  (h0:PE X a1 (xw 0)) (hi:PE X a2 (xw i)) (r:xo X rest fis)
  (hdb:(x == ("__debug__" : Str))=false:=by decide) (hst:starEach [a1,a2] X.env=(false,eval a1 X.env) :: starEach [a2] X.env:=by rfl) (hst2:starEach [a2] X.env=(false,eval a2 X.env) :: starEach [] X.env:=by rfl) (hpl:(backTo pos (starEach [a2] X.env)).any (·.1)=false:=by rfl)
  (ht:eval (.Call (.Attribute (.Name x p) m apos) [a1,a2] [] pos) X.env=(do
   let ov <- eval (.Name x p) X.env
   standAt apos.atName
   let (f,first) <- holding [ov] (getMethod ov m pl)
   callWith pos f first (backTo pos (starEach [a1,a2] X.env)) (backToKw pos (keywordEach [] X.env))):=by rfl) :
  xo X (.Expr (.Call (.Attribute (.Name x p) m apos) [a1,a2] [] pos) epos :: rest) ((f,i) :: fis):=by
 obtain ⟨fa,fd,F,c,hb⟩:=B;obtain ⟨t,pr,h⟩:=r;refine ⟨_,w9 (kc (Xe (pl:=pl) c F hr hg hm hb (vb h0 (vb hi qu hst2) hst) hdb hst hpl ht)) pr,λD σ H a C dx cur vs s0 ha cl hn hl hlen hv nd fin => ?_⟩
 cases vs with
 | nil=>simp at hlen
 | cons v vs =>
  have hf:f∉cur.map (·.1):=λz=>by
   have:=(List.nodup_append.mp nd).2.2 f z f (by simp);exact this rfl
  refine ⟨.ref a,s0,v,hv 0 (f,i) v rfl rfl,λ_ _ _=>False,⟨a,C,dx,cur,v,rfl,ha,cl,hn (f,i) List.mem_cons_self,(by simp at hl;omega),hf,(List.nodup_append.mp nd).1,λH1 h1 h2 => ?_⟩,λ_ _ _ z=>z.elim⟩;refine h D σ H1 a C dx (cur ++ [(f,v)]) vs s0 h1 cl (λq hq=>hn q (List.mem_cons_of_mem _ hq)) (by simp at hl ⊢;omega) (by simpa using hlen) (λj q w h1 h2=>hv (j + 1) q w (by simpa using h1) (by simpa using h2)) (by simpa using nd) λH' h3 h4=>fin H' (by simpa using h3) λb hb=>by rw [h4 b hb,h2 b hb]
section
variable {P:Program}{w:World}{K:W.Frag}{mg:Str->Option Value}{base:Heap}
theorem bU.ok {C:Addr}{x qual f:Str}{st:Stmt}{N:List Str}{s1 s2:Str}{k:Nat}(F:∃ fa fd,k8 K x qual st fa fd/\bT K C x fa)(S:z7 N [s1,s2] (z6 st))
  (hb:∀ (kV doc pm:Value) (an:Option Addr) (cdv ct:Value) (us:List Value),us.length=[s1,s2].length->bindArgs (W.fnOf x qual (jK st) (j8 st) (z6 st) .none kV doc pm an cdv ct) ⟨us,[]⟩=pure ([s1,s2].zip us))
  (hbody:∀ (fa:Addr) (cdv:Value) (A:Around) (outer:List Env) (s:Shared) (H:Hp) (E:XK),jD k (A.deeper (envOfC qual (z6 st) s.heap.objs.size fa cdv))->xo (pG (ut P w) P w K mg base N qual (z6 st) fa cdv A outer s H E) (j8 st) [(f,1)]) :
  bU P w K mg base (k + 1) C x [s1,s2] f:=by
 obtain ⟨fa,fd,F,c⟩:=F;refine ⟨fa,fd,?_,c,F.binds hb⟩;obtain ⟨oc,od,kV,doc,pm,an,cdv,ct,osl,rfl,lk,hcd⟩:=F.ex;refine el lk hcd S (λvs H Q E h => ?_) λA outer s H vs Q E hr hsp => ?_
 ·obtain ⟨_,_,_,_,_,rfl,_⟩:=h;rfl
 ·obtain ⟨t,p,h⟩:=hbody fa cdv A outer s H E hr
  refine ⟨t,p,?_⟩;obtain ⟨a,C,dx,cur,v,rfl,ha,cl,hn,hl,hf,hnd,q⟩:=hsp;refine h _ (start N [.ref a,v]) H a C dx cur [v] rfl ha cl (λp hp => ?_) (by simp;omega) rfl (λj p w h1 h2 => ?_) ?_ λH' h1 h2=>q H' h1 h2
  ·have:p=(f,1):=by simpa using hp
   rw [this];exact hn
  ·cases j with
   | zero=>cases h1;cases h2;rfl
   | succ j=>simp at h1
  ·refine List.nodup_append.mpr ⟨hnd,by simp,λy hy z hz e=>hf ?_⟩
   have:z=f:=by simpa using hz
   rw [<- this,<- e];exact hy
def uJ (C:Addr)(n:Nat)(fis:List (Str×Nat)):MN:=λrs=>match rs with
 | (true,.obj C' [] []) :: args=>if C'=C/\args.length + 1=n/\args.all (λr => !r.1)=true then .ok (.obj C (fis.map (·.1)) (fis.map λp=>((args[p.2 - 1]?).map Prod.snd).getD .non)) else .bad
 | _=>.bad
theorem lj {K:W.Frag}{fr F:Addr->Prop}{H:Hp} : ∀ {vs:List V} {rs:List RV},xl K fr F H vs rs->rs.all (λr => !r.1)=true->IsAll K F H (rs.map Prod.snd) vs
 | [],[],_,_=>IsAll.nil
 | [],_ :: _,h,_=>h.elim
 | _ :: _,[],h,_=>h.elim
 | v :: vs,(b,t) :: rs,h,hb=>by
  rw [List.all_cons,Bool.and_eq_true] at hb;have hb0:b=false:=by simpa using hb.1
  subst hb0;exact IsAll.cons h.1.is (lj h.2.1 hb.2)
theorem kj.attrs {C:Addr}{x qual:Str}{st:Stmt}{N ps:List Str}{k:Nat}{fis:List (Str×Nat)}(Fm:∃ f fd,k8 K "__init__" qual st f fd/\Mk K C f)(hx:mg x=some (.ref C))(hc:k7 K C)(hn:∀ p∈fis,zK K C p.1)
  (nd:(fis.map (·.1)).Nodup) (hs:∀ p∈fis,1<=p.2/\p.2 < ps.length) (hlf:fis.length < 100) (S:z7 N ps (z6 st))
  (hb:∀ (kV doc pm:Value) (an:Option Addr) (cdv ct:Value) (us:List Value),us.length=ps.length->bindArgs (W.fnOf "__init__" qual (jK st) (j8 st) (z6 st) .none kV doc pm an cdv ct) ⟨us,[]⟩=pure (ps.zip us))
  (hbody:∀ (f:Addr) (cdv:Value) (A:Around) (outer:List Env) (s:Shared) (H:Hp) (E:XK),jD k (A.deeper (envOfC qual (z6 st) s.heap.objs.size f cdv))->xo (pG (ut P w) P w K mg base N qual (z6 st) f cdv A outer s H E) (j8 st) fis) :
  kj P w K mg base (k + 1) C x ps (uJ C ps.length fis):=by
 refine kj.ok Fm hx S (λrs nb => ?_) hb λf cdv A outer s H E hr => ?_
 ·unfold uJ at nb
  split at nb
  ·split at nb
   ·rename_i h;rw [List.length_cons];exact h.2.1
   ·exact absurd rfl nb
  ·exact absurd rfl nb
 ·obtain ⟨t,p,h⟩:=hbody f cdv A outer s H E hr
  refine ⟨t,p,λvs H Q E ⟨F,rs,dm,ir,nb,ok,ex⟩ => ?_⟩;have ir0:=ir
  match rs,ir,nb with
  | (true,.obj C' [] []) :: args,ir,nb =>
   have hcond:C'=C/\args.length + 1=ps.length/\args.all (λr => !r.1)=true:=by
    by_cases hq:C'=C/\args.length + 1=ps.length/\args.all (λr => !r.1)=true
    ·exact hq
    ·exact absurd (by show (if _ then _ else _)=_;rw [if_neg hq]) nb
   have hg:uJ C ps.length fis ((true,.obj C' [] []) :: args)=.ok (.obj C (fis.map (·.1)) (fis.map λp=>((args[p.2 - 1]?).map Prod.snd).getD .non)):=by
    show (if _ then _ else _)=_;rw [if_pos hcond]
   obtain ⟨rfl,hlen,hall⟩:=hcond
   match vs,ir with
   | va :: vargs,ir =>
    obtain ⟨ia,iargs,_⟩:=ir;obtain ⟨a,rfl,nFa,_,hHa,wa⟩:=ia.there rfl;obtain ⟨dx,fvs,hins,hk0,_⟩:=wa;have hfv:fvs=[]:=by simpa using hk0
    subst hfv;have iall:=lj iargs hall;have hvl:vargs.length=args.length:=iargs.len;refine h _ (start N (.ref a :: vargs)) H a C' dx [] (fis.map λp=>(vargs[p.2 - 1]?).getD .non) rfl hins hc hn (by simpa using (by omega:fis.length < 900)) (by simp) (λj q v h1 h2 => ?_) (by simpa using nd) λH' h1 h2 => ?_
    ·have hq:q∈fis:=List.mem_of_getElem? h1
     obtain ⟨hq1,hq2⟩:=hs q hq;rw [List.getElem?_map,h1] at h2;have h2:(vargs[q.2 - 1]?).getD .non=v:=by simpa using h2
     obtain ⟨m,hm⟩:∃ m,q.2=m + 1:=⟨q.2 - 1,by omega⟩
     have e1:q.2 - 1=m:=by omega
     have hlt:m < vargs.length:=by omega
     rw [e1,List.getElem?_eq_getElem hlt] at h2;have h2:vargs[m]=v:=h2;unfold L2.start;rw [List.getElem?_append_left (by simp;omega),List.getElem?_map,hm,List.getElem?_cons_succ,List.getElem?_eq_getElem hlt,<- h2]
     rfl
    ·have kp:k9 F F H H':=by
      refine ⟨λ_ h=>h,λb o f hb => ?_,λb o hb hn1 hn2 => ?_⟩
      ·rw [h2 b (by rintro rfl;exact nFa f)];exact hb
      ·rw [h2 b (by rintro rfl;rw [hins] at hb;cases hb;exact hn2.2 _ _ _ rfl)];exact hb
     refine ok _ hg a F H' rfl ⟨λb f => ?_,λb f=>f,λb f=>.inl f,λb o hb hm => ?_,λb f z=>(xA ir0 z).1 f⟩ nFa ⟨dx,_,h1,?_,?_⟩
     ·rw [h2 b (by rintro rfl;exact nFa f)];exact dm b f
     ·rw [h2 b (by rintro rfl;exact hm ⟨0,(true,.obj C' [] []),rfl,rfl,rfl⟩)];exact hb
     ·rw [List.nil_append]
      simp [List.map_fst_zip]
     ·rw [List.nil_append,List.map_snd_zip (by simp)]
      have:∀ l:List (Str×Nat),(∀ p∈l,1<=p.2/\p.2 < ps.length)->IsAll K F H' (l.map λp=>((args[p.2 - 1]?).map Prod.snd).getD .non) (l.map λp=>(vargs[p.2 - 1]?).getD .non):=by
       intro l
       induction l with
       | nil=>intro _;exact IsAll.nil
       | cons q l ih =>
        intro hl;have hq:=hl q List.mem_cons_self;refine IsAll.cons ?_ (ih λr hr=>hl r (List.mem_cons_of_mem _ hr));have hlt:q.2 - 1 < args.length:=by omega
        obtain ⟨v,hv,iv⟩:=iall.get (i:=q.2 - 1) (t:=(args[q.2 - 1]).2) (by rw [List.getElem?_map,List.getElem?_eq_getElem hlt];rfl);show Is K F H' (((args[q.2 - 1]?).map Prod.snd).getD .non) ((vargs[q.2 - 1]?).getD .non);rw [List.getElem?_eq_getElem hlt,hv];exact iv.mono kp
      exact this fis hs
end
def z7.of {N ps:List Str}{sc:Scope}(h:z7 N ps sc:=by exact ⟨rfl,rfl,rfl,by decide +kernel,rfl,by decide +kernel,by decide +kernel⟩):z7 N ps sc:=h
def jH.of {N:List Str}{fsc scope:Scope}{x:Str}{caps:List Str}{slots:List Nat}(h:jH N fsc scope x caps slots:=by exact ⟨rfl,rfl,by decide +kernel,by decide +kernel,rfl,by decide +kernel,by decide +kernel,by decide +kernel,rfl,rfl⟩):jH N fsc scope x caps slots:=h
def zx (hN:X.N.Nodup)(h:ju X e m)(hi:X.N[i]? = some x:=by rfl)(hx:cP X.env.scope x:=by first | exact Or.inl rfl | exact Or.inr rfl)(hs:swapsWith e (some (.Name x pos')) pos.line X.env=pure false:=by rfl)
  (hf:X.fn x=true\/X.env.scope.names.lookup x=some .local:=by first | exact .inl rfl | exact .inr rfl | assumption):mR X (.Assign [.Name x pos'] e pos) (zn i m):=Pb hN hi hx h hs hf
def oi {op:Operator}{f:T->T->Option RV}(ho:Qt X op f)(hN:X.N.Nodup)(h:ju X e m)(hi:X.N[i]? = some x:=by rfl)(hx:cP X.env.scope x:=by first | exact Or.inl rfl | exact Or.inr rfl)
  (hf:X.fn x=true\/X.env.scope.names.lookup x=some .local:=by first | exact .inl rfl | exact .inr rfl | assumption):mR X (.AugAssign (.Name x pos') op e pos) (iH i f m):=Pc ho hN hi hx h hf
def zV (hN:X.N.Nodup)(hi:X.N[i]? = some x:=by rfl)(hx:cP X.env.scope x:=by first | exact Or.inl rfl | exact Or.inr rfl)(hf:X.fn x=true\/X.env.scope.names.lookup x=some .local:=by first | exact .inl rfl | exact .inr rfl | assumption):WZ X (.Name x pos) (gN i):=V0 hN hi hx hf
def d4 (c1 c2 c3 c4:Addr)(m:Str)(f1 f2 f3 f4:MF)(mo:ME)(ma:MA):ME:=ZS (ZS (ZS (qU c1 m f1 mo ma) (qU c2 m f2 mo ma)) (qU c3 m f3 mo ma)) (qU c4 m f4 mo ma)
def Ph {k k1 k2 k3 k4:Nat}{c1 c2 c3 c4:Addr}{p1 p2 p3 p4:List Str}{f1 f2 f3 f4:MF}{pl:Sem Bool}(M1:j7 X.prog X.w X.K X.mg X.base k1 c1 n p1 f1)(M2:j7 X.prog X.w X.K X.mg X.base k2 c2 n p2 f2)(M3:j7 X.prog X.w X.K X.mg X.base k3 c3 n p3 f3)(M4:j7 X.prog X.w X.K X.mg X.base k4 c4 n p4 f4)
  (hr:jD k X.A) (ho:ju X o mo) (h1:k1<=k:=by omega) (h2:k2<=k:=by omega) (h3:k3<=k:=by omega) (h4:k4<=k:=by omega)
  (ht:eval (.Call (.Attribute o n apos) [] [] pos) X.env=(do
   let ov <- eval o X.env
   standAt apos.atName
   let (f,first) <- holding [ov] (getMethod ov n pl)
   callWith pos f first (backTo pos (starEach [] X.env)) (backToKw pos (keywordEach [] X.env))):=by rfl):ju X (.Call (.Attribute o n apos) [] [] pos) (d4 c1 c2 c3 c4 n f1 f2 f3 f4 mo z5) :=
 YZ (YZ (YZ (nY M1 (hr.mono h1) ho ht) (nY M2 (hr.mono h2) ho ht)) (nY M3 (hr.mono h3) ho ht)) (nY M4 (hr.mono h4) ho ht)
def Pj {P:List Value->Prop}(h:P []):∀ us:List Value,us.length=0->P us:=λus e=>by cases us with | nil=>exact h | cons a r=>cases e
def xk {P:List Value->Prop}(h:∀ a,P [a]):∀ us:List Value,us.length=1->P us:=λus e=>by cases us with | nil=>cases e | cons a r=>exact Pj (P:=λr=>P (a :: r)) (h a) r (Nat.succ.inj e)
def xX {P:List Value->Prop}(h:∀ a b,P [a,b]):∀ us:List Value,us.length=2->P us:=λus e=>by cases us with | nil=>cases e | cons a r=>exact xk (P:=λr=>P (a :: r)) (h a) r (Nat.succ.inj e)
def np {P:List Value->Prop}(h:∀ a b c,P [a,b,c]):∀ us:List Value,us.length=3->P us:=λus e=>by cases us with | nil=>cases e | cons a r=>exact xX (P:=λr=>P (a :: r)) (h a) r (Nat.succ.inj e)
def Z5 {P:List Value->Prop}(h:∀ a b c d,P [a,b,c,d]):∀ us:List Value,us.length=4->P us:=λus e=>by cases us with | nil=>cases e | cons a r=>exact np (P:=λr=>P (a :: r)) (h a) r (Nat.succ.inj e)
def Ka {P:List Value->Prop}(h:∀ a b c d e,P [a,b,c,d,e]):∀ us:List Value,us.length=5->P us:=λus e=>by cases us with | nil=>cases e | cons a r=>exact Z5 (P:=λr=>P (a :: r)) (h a) r (Nat.succ.inj e)
def Pk {P:List Value->Prop}(h:∀ a b c d e f,P [a,b,c,d,e,f]):∀ us:List Value,us.length=6->P us:=λus e=>by cases us with | nil=>cases e | cons a r=>exact Ka (P:=λr=>P (a :: r)) (h a) r (Nat.succ.inj e)
section
variable {K:W.Frag}{h:Heap}{mg:Str->Option Value}{f C C0:Addr}{oc kV dc pm cd ct:Value}{od an:Option Addr}{sl:Array (Option Value)}{x q:Str}{st:Stmt}{t:Tok}{b:Bool}
theorem ll (X:K.In h)(G:h.Ns mainGlobals mg)(g:W.nsIn K mainGlobals x=some none:=by (try dsimp only);k_is):mg x=none:=W.mg_none_of X G g
theorem Xf (X:K.In h)(G:h.Ns mainGlobals mg)(g:W.nsIn K mainGlobals x=some (some v):=by (try dsimp only);k_is):mg x=some v:=W.mg_of X G g
theorem zD (X:K.In h)(G:h.Ns mainGlobals mg)(g:W.nsIn K mainGlobals x=some (some (.ref f)):=by (try dsimp only);k_is)(l:K.lookup f=some ⟨oc,od,.func (W.fnOf x x (jK st) (j8 st) (z6 st) .none kV dc pm an cd ct),sl⟩:=by (try dsimp only);k_is)
  (c:W.codeIn K cd x=true:=by (try dsimp only);k_is) (k:W.keepIn K (.ref f)=true:=by (try dsimp only);k_is):zN K mg x st:=⟨_,_,dA l c k,W.mg_of X G g⟩
theorem Kb (X:K.In h)(G:h.Ns mainGlobals mg)(g:W.nsIn K mainGlobals x=some (some (.str s t)):=by (try dsimp only);k_is):∃ t,mg x=some (.str s t):=⟨_,W.mg_of X G g⟩
theorem Pl (X:K.In h)(G:h.Ns mainGlobals mg)(g:W.nsIn K mainGlobals x=some (some (.int i t)):=by (try dsimp only);k_is):∃ t,mg x=some (.int i t):=⟨_,W.mg_of X G g⟩
theorem Pn (X:K.In h)(G:h.Ns mainGlobals mg)(g:W.nsIn K mainGlobals x=some (some (.ref f)):=by (try dsimp only);k_is)(l:K.lookup f=some ⟨.type "tuple",od,.seq #[.str s1 t1,.str s2 t2] n,sl⟩:=by (try dsimp only);k_is):Qz K mg x [s1,s2] :=
 ⟨_,_,_,_,W.mg_of X G g,l,rfl,rfl,(by show 2<=sizeLine;decide),(.cons ⟨_,rfl⟩ (.cons ⟨_,rfl⟩ .nil))⟩
theorem nZ (i:W.findIn K (.ref C) "__init__" = some (some (.ref f)):=by (try dsimp only);k_is)(l:K.lookup f=some ⟨oc,od,.func (W.fnOf "__init__" q (jK st) (j8 st) (z6 st) .none kV dc pm an cd ct),sl⟩:=by (try dsimp only);k_is)
  (c:W.codeIn K cd q=true:=by (try dsimp only);k_is) (k:W.keepIn K (.ref f)=true:=by (try dsimp only);k_is) (m:W.makesIn K C=true:=by (try dsimp only);k_is) (n:W.isFn K (.ref f)=true:=by (try dsimp only);k_is) (p:W.keepIn K (.ref C)=true:=by (try dsimp only);k_is):∃ f fd,k8 K "__init__" q st f fd/\Mk K C f:=⟨_,_,dA l c k,m,i,n,p⟩
theorem pX (i:W.findIn K (.ref C) x=some (some (.ref f)):=by (try dsimp only);k_is)(l:K.lookup f=some ⟨oc,od,.func (W.fnOf x q (jK st) (j8 st) (z6 st) .none kV dc pm an cd ct),sl⟩:=by (try dsimp only);k_is)
  (c:W.codeIn K cd q=true:=by (try dsimp only);k_is) (k:W.keepIn K (.ref f)=true:=by (try dsimp only);k_is) (n:W.isFn K (.ref f)=true:=by (try dsimp only);k_is):∃ f fd,k8 K x q st f fd/\vf K C x f:=⟨_,_,dA l c k,i,n,k⟩
theorem base_of (i:W.findCls K (.ref C) (.type "type") "__init__" = some (.val (.ref f)):=by (try dsimp only);k_is)(l:K.lookup f=some ⟨oc,od,.func (W.fnOf "__init__" q (jK st) (j8 st) (z6 st) .none kV dc pm an cd ct),sl⟩:=by (try dsimp only);k_is)
  (c:W.codeIn K cd q=true:=by (try dsimp only);k_is) (k:W.keepIn K (.ref f)=true:=by (try dsimp only);k_is) (s:W.specialIn K (.ref C) "__getattribute__" = some (some (.builtin "type.__getattribute__")):=by (try dsimp only);k_is) (r:W.readsIn K C (.type "type")=true:=by (try dsimp only);k_is):∃ f fd,k8 K "__init__" q st f fd/\bT K C "__init__" f:=⟨_,_,dA l c k,s,r,i,k⟩
theorem lq (a:W.plainGet K C Str.empty=true:=by (try dsimp only);k_is)(b:W.hasDictIn K C=true:=by (try dsimp only);k_is)(c:W.plainOver K C=true:=by (try dsimp only);k_is)(d:W.findIn K (.ref C) "__setattr__" = some (some (.builtin "object.__setattr__")):=by (try dsimp only);k_is):k7 K C:=⟨a,b,c,d⟩
theorem fi (i:W.findIn K (.ref C) x=some none:=by (try dsimp only);k_is):zK K C x:=i
end
structure M0 (X:Cx) (o:Expr) (m:Str) (apos:Pos) (cpos:Pos):Prop where
 base:attributeBase o m X.env (eval o X.env)=eval o X.env
 few:((backTo cpos (starEach [] X.env)).all (λx => !x.1) && (backToKw cpos (keywordEach [] X.env)).all (λx=>x.1.isSome)
  && decide (([]:List Expr).length + ([]:List Keyword).length + (if ([]:List Keyword).isEmpty then 0 else 1) < 30))=true
 line:(apos.endLine == cpos.line)=true
 trees:backTo cpos (starEach [] X.env)=[]
def Xg (a:Addr)(o:Obj):It :=
 ⟨λi H=>∃ kvs k y,H a=some (.frz o (.dK kvs))/\kvs[i]? = some (k,y),λi H v H'=>∃ T k y,H T=none/\v=.ref T/\H'=zW H T (.tup [kV k,y])/\∀ kvs,H a=some (.frz o (.dK kvs))->kvs[i]? = some (k,y),λi H=>∃ kvs,H a=some (.frz o (.dK kvs))/\kvs.length<=i⟩
theorem Xh:∀ {kvs:List (Key×V)} {vs:List (Key×Value)} {i:Nat} {k:Key} {y:V},KV kvs vs->kvs[i]? = some (k,y)->∃ u,vs[i]? = some (k,u)/\RelV y u
 | _,_,_,_,_,.nil,h=>by simp at h
 | _,_,0,k,y,.cons (b:=q) r t,h=>by
  simp at h;obtain ⟨k',u⟩:=q;subst h;obtain ⟨e,ru⟩:=r;cases e;exact ⟨u,by simp,ru⟩
 | _,_,i + 1,k,y,.cons r t,h=>by
  obtain ⟨u,h1,h2⟩:=Xh (i:=i) t (by simpa using h);exact ⟨u,by simpa using h1,h2⟩
theorem Xi {P:Program}{w:World}{k:Key}{u:Value}(h:(j3 P w).is k u=true):RelV (kV k) u:=by
 rcases ji h with ⟨i,t,rfl,rfl⟩ | ⟨x,t,rfl,rfl⟩
 ·exact ⟨t,rfl⟩
 ·exact ⟨t,rfl⟩
theorem Xj {P:Program}{w:World}{H:Hp}{h:Heap}{a:Addr}{o:Obj}{es:Array DictEntry}{ep:Nat}{kvs:List (Key×V)}(hd:o.data=.dict es ep)(x:jd P w H h a (.frz o (.dK kvs))):∃ vs,KV kvs vs/\h.DictAt (j3 P w) a vs ep/\vs.length=es.size:=by
 obtain ⟨hget,hz,hS,vs,r,o',es',ep',h1,h2,h3,h4,h5,h6⟩:=x;have hget:=hget rfl;rw [hget] at h1;cases h1;rw [hd] at h3;cases h3;exact ⟨vs,r,⟨_,_,hget,h2,hd,h4,h5,h6⟩,by rw [<- h5.length];simp⟩
section
variable {elts:List Expr}{k:Nat}{tp:Pos}
theorem lr {P:Program}{w:World}{K:W.Frag}(a it:Addr)(o:Obj){es:Array DictEntry}{ep:Nat}(hd:o.data=.dict es ep):aW P w K (.Tuple elts k tp) (Xg a o) [it] it (λi h=>∃ ok ov,IsItemIter h it a i es.size ep ok ov) where
 mem:=by simp
 obj:=λi h st b hb=>by
  obtain ⟨ok,ov,he⟩:=st;have e:b=it:=by simpa using hb
  subst e
  exact ⟨_,he,λv z=>by
   have z':Data.fields _=Data.cell v:=z;cases z'⟩
 keep:=λi h h' st k=>by
  obtain ⟨ok,ov,he⟩:=st;exact ⟨ok,ov,k it (by simp) _ he⟩
 item:=by
  intro X hP hw hK hc i pins s σ H E I hf st hg;subst hP hw hK;obtain ⟨kvs,k,y,hq,hx⟩:=hg;obtain ⟨vs,r,hat,hl⟩:=Xj hd (I.hok a _ hq);obtain ⟨u,hu,ru⟩:=Xh r hx;obtain ⟨ok,ov,hi⟩:=st;rw [<- hl] at hi;refine wpAny_pyNext_items_item hi hat hu λkey h' hkey ho hT hsz hk => ?_
  have I1:zk X pins σ (zW H s.heap.objs.size (.tup [kV k,y])) { s with heap:=h',toks:=s.toks } :=
   I.turnT (ch:=[it]) (its:=[key,u]) hf (λb o hb q=>hk b o (λz=>hb (by simp [z])) q) (Nat.le_refl _) (by show 2<=sizeLine;decide) (.cons (Xi hkey) (.cons ru .nil)) ⟨_,hT,rfl,_,rfl⟩
  have ne1:it≠s.heap.objs.size:=Nat.ne_of_lt (Heap.lt_size hi);refine ⟨_,rfl,wpAny_letOwnedTupleGo_items ho λh2 he2 hs2 => ?_⟩;obtain ⟨f0,f1,f2,f3,f4,f5⟩:=hf it (by simp);refine ⟨.ref s.heap.objs.size,_,I1.turned (t':=s.toks) (it:=it) (λb o hb q=>(hs2.2 b hb).trans q) (by rw [zd ne1];exact f0) f1 f3 f4 f5,rfl,⟨_,k,y,I.hok.fresh (Nat.le_refl _),rfl,rfl,λys hy=>by rw [hq] at hy;cases hy;exact hx⟩,⟨key,u,by rw [<- hl];exact he2⟩,λb hb => ?_⟩;have e':b=it:=by simpa using hb
  subst e';rw [zd ne1];exact f0
 done:=by
  intro X hP hw hK hc i pins s σ H E I hf st hg;subst hP hw hK;obtain ⟨kvs,hq,hx⟩:=hg;obtain ⟨vs,r,hat,hl⟩:=Xj hd (I.hok a _ hq);obtain ⟨f0,f1,f2,f3,f4,f5⟩:=hf it (by simp);obtain ⟨ok,ov,hi⟩:=st;rw [<- hl] at hi;have hlen:=r.length;exact wpAny_pyNext_items_end (I.ok.hd hc) hi hat (List.getElem?_eq_none (by omega)) λh' eb=>⟨rfl,I.turned (t':=s.toks) (λb o hb e=>eb b o hb e) f0 f1 f3 f4 f5⟩
 self:=λA i s Q E st h=>by
  obtain ⟨ok,ov,he⟩:=st;have hT:s.TypeIs (.ref it) "dict_itemiterator" := ⟨_,he,rfl⟩
  refine wpAny_pyIter_slot hT PySem.F.slot_dict_itemiterator_iter (wpAny_call_entry PySem.F.slot_dict_itemiterator_iter hT W.kcp_entry ?_ (PySem.F.args_dict_itemiterator_iter_1 _));show wpAny _ _ (ret (.ref it)) _ _ s;exact wpAny_pure ⟨_,rfl,"dict_itemiterator",_,hT,PySem.F.slot_dict_itemiterator_next.lookup,h⟩
theorem oj {X:Cx}{pins:List (Addr×Obj)}{σ:St}{H:Hp}{s:Shared}{a:Addr}{kvs:List (Key×V)}{o:Obj}(I:zk X pins σ H s)(e:H a=some (.dK kvs))(ho:s.heap.get? a=some o):zk X pins σ (zW H a (.frz o (.dK kvs))) s :=
 I.un (h':=s.heap) (t':=s.toks) (Un.write (by rw [e];exact True.intro) (.inl rfl) (λ_ _ _ q=>q) ⟨o,ho⟩) (pV I.hok e (λ_ z=>by cases z) (λ_ z=>by cases z) λ_=>⟨λ_=>ho,I.hok a _ e⟩)
def Xk (X:Cx)(td:TE):TI:=λσ H R=>td σ H λx H1=>∃ a kvs,x=.ref a/\((H1 a=some (.dK kvs)/\∀ o,(∀ o' u,X.H₀ a≠some (.frz o' u))->R (Xg a o) (zW H1 a (.frz o (.dK kvs))))\/∃ o,H1 a=some (.frz o (.dK kvs))/\R (Xg a o) H1)
theorem bV {X:Cx}{o:Expr}{td:TE}{apos cpos:Pos}(ho:PE X o td)(m:M0 X o "items" apos cpos):PI X (.Tuple elts k tp) (.Call (.Attribute o "items" apos) [] [] cpos) (Xk X td):=by
 intro pins s σ H R I h;refine wpAny_Call_method m.base m.few m.line PySem.F.plainAttrs_dict PySem.F.slot_dict_items PySem.F.type_dict_items (jx (ho pins s σ H _ I h) λu s1 ⟨x,H1,I1,rx,a,kvs,ex,q1⟩ => ?_);subst ex;obtain rfl:u=Value.ref a:=rx;have d:Rd H1 a (.dK kvs):=q1.elim (λh=>.inl h.1) λ⟨o,h,_⟩=>.inr ⟨o,h⟩;obtain ⟨t1,t2,_⟩:=tK I1 (.inl ⟨kvs,d⟩);refine ⟨t1,t2,?_⟩;rw [m.trees];obtain ⟨hz,hS,vs,r,dd⟩:=pI I1.hok d;refine Calls.callWith_builtin rfl (PyProof.Rows.evalArgs_none ?_);refine call_meetsIn PySem.F.slot_dict_items dd.typeIs PySem.F.entry_dict_items (PySem.F.args_dict_items_1 _) (meets_dict_items (j3 X.prog X.w) a hS) ⟨⟨vs,dd⟩,?_⟩;obtain ⟨ob,es,ep,h1,h2,h3,h4,h5,h6⟩:=dd;have I2:zk X pins σ H1 { s1 with heap:=s1.heap.push { cls:=.type "dict_items",data:=.fields #[.ref a] } }:=I1.kept (t':=s1.toks) λb ob q=>Heap.get?_push_of_some _ q;have hat:({ s1 with heap:=s1.heap.push { cls:=.type "dict_items",data:=.fields #[.ref a] } } : Shared).heap.DictAt (j3 X.prog X.w) a vs ep:=⟨ob,es,Heap.get?_push_of_some _ h1,h2,h3,h4,h5,h6⟩
 have hl:vs.length=es.size:=by rw [<- h5.length];simp
 refine wpAny_pyIter_items (knd:=j3 X.prog X.w) ⟨_,Heap.get?_push_size _ rfl,rfl,rfl⟩ hat ?_;have hf:=I2.hok.fresh (Nat.le_refl _);have I3:=I2.kept (t':=s1.toks) (h':=(s1.heap.push { cls:=.type "dict_items",data:=.fields #[.ref a] }).push { cls:=.type "dict_itemiterator",data:=.fields #[.none,.bool false,.ref a,.int 0 0,.int vs.length 0,.int ep 0,.none,.none] }) λb ob q=>Heap.get?_push_of_some _ q;have ha:((s1.heap.push { cls:=.type "dict_items",data:=.fields #[.ref a] }).push { cls:=.type "dict_itemiterator",data:=.fields #[.none,.bool false,.ref a,.int 0 0,.int vs.length 0,.int ep 0,.none,.none] }).get? a=some ob:=Heap.get?_push_of_some _ (Heap.get?_push_of_some _ h1)
 rcases q1 with ⟨d,q1⟩ | ⟨ob',d,q1⟩
 ·have I4:=oj I3 d ha
  refine ⟨_,[_],_,Xg a ob,_,rfl,I4,lr a _ ob h3,⟨.none,.none,by rw [<- hl];exact Heap.get?_push_size _ rfl⟩,λb hb => ?_,q1 ob λo' u z=>by rw [I1.base.frzs _ _ _ z] at d;cases d⟩;have e:b=(s1.heap.push { cls:=.type "dict_items",data:=.fields #[.ref a] }).objs.size:=by simpa using hb
  subst e;exact I2.fpOk (Nat.le_refl _) (by rw [zd (Ne.symm (zG d hf))];exact hf)
 ·have e:=(I1.hok a _ d).1 rfl
  rw [h1] at e;cases e;refine ⟨_,[_],_,Xg a ob,_,rfl,I3,lr a _ ob h3,⟨.none,.none,by rw [<- hl];exact Heap.get?_push_size _ rfl⟩,λb hb => ?_,q1⟩;have e:b=(s1.heap.push { cls:=.type "dict_items",data:=.fields #[.ref a] }).objs.size:=by simpa using hb
  subst e;exact I2.fpOk (Nat.le_refl _) hf
end
theorem gp {X:Cx}{pins:List (Addr×Obj)}{σ:St}{H:Hp}{s:Shared}{a:Addr}{kvs:List (Key×V)}{o:Obj}(I:zk X pins σ H s)(e:H a=some (.frz o (.dK kvs)))(h0:∀ o' u,X.H₀ a≠some (.frz o' u)):zk X pins σ (zW H a (.dK kvs)) s:=by
 have nn:∀ b,H b=none->b≠a:=λb n z=>by rw [z,e] at n;cases n
 have up:∀ b,H b=none->zW H a (.dK kvs) b=none:=λb n=>by rw [zd (nn b n)];exact n
 refine ⟨I.ok,I.os,I.bare,⟨I.base.keep,I.base.slot,λb ob q n hx=>up b (I.base.free b ob q n hx),I.base.there,λb xs q => ?_,λb ob u q => ?_,λb ps q => ?_⟩,I.loc,I.cell,up _ I.free,λx c q=>up _ (I.freeC x c q),λp hp=>let ⟨h1,h2,h3⟩:=I.pin p hp;⟨h1,up _ h2,h3⟩,pV I.hok e (λ_ z=>by cases z) (λ_ z=>by cases z) λ_=>(I.hok a _ e).2,I.len⟩
 ·have:=I.base.tups b xs q
  rw [zd (pC this e (by intro z;cases z))];exact this
 ·have:=I.base.frzs b ob u q
  rw [zd (by rintro rfl;exact h0 _ _ q)];exact this
 ·obtain ⟨more,m⟩:=I.base.tbls b ps q
  exact ⟨more,by rw [zd (pC m e (by intro z;cases z))];exact m⟩
def om (X:Cx)(Q:Hp->Prop)(H:Hp):Prop:=Q H\/∃ a o kvs,H a=some (.frz o (.dK kvs))/\(∀ o' u,X.H₀ a≠some (.frz o' u))/\Q (zW H a (.dK kvs))
def Kc (X:Cx)(D:nC):nC:={ nx:=λσ=>om X (D.nx σ),bk:=λσ=>om X (D.bk σ),ct:=λσ=>om X (D.ct σ),rt:=λv=>om X (D.rt v) }
theorem Vi {X:Cx}{st:Stmt}{t:TS}(h:PS X st t):PS X st (λD σ H=>t (Kc X D) σ H):=λpins s σ H D I w =>
 jx (h pins s σ H (Kc X D) I w) λf s' q=>by
  cases f with
  | next =>
   obtain ⟨σ',H',I',q | ⟨a,o,kvs,e,h0,q⟩⟩:=q
   ·exact ⟨σ',_,I',q⟩
   ·exact ⟨σ',_,gp I' e h0,q⟩
  | brk =>
   obtain ⟨σ',H',I',q | ⟨a,o,kvs,e,h0,q⟩⟩:=q
   ·exact ⟨σ',_,I',q⟩
   ·exact ⟨σ',_,gp I' e h0,q⟩
  | cont =>
   obtain ⟨σ',H',I',q | ⟨a,o,kvs,e,h0,q⟩⟩:=q
   ·exact ⟨σ',_,I',q⟩
   ·exact ⟨σ',_,gp I' e h0,q⟩
  | ret u =>
   obtain ⟨v,σ',H',I',r,q | ⟨a,o,kvs,e,h0,q⟩⟩:=q
   ·exact ⟨v,σ',_,I',r,q⟩
   ·exact ⟨v,σ',_,gp I' e h0,r,q⟩
structure Ke (H H':Hp):Prop where
 oth:∀ b o,H b=some o->(∀ kvs,o≠.dK kvs)->(∀ ob kvs,o≠.frz ob (.dK kvs))->H' b=some o
 dct:∀ b kvs,Rd H b (.dK kvs)->Rd H' b (.dK kvs)
section
variable {K:W.Frag}{F:Addr->Prop}{H H':Hp}
theorem Vj {a:Addr}{vs:List V}(w:Ke H H')(h:uW K H a vs):uW K H' a vs:=by
 rcases h with (h | ⟨o,h⟩) | h
 ·exact .inl (.inl (w.oth _ _ h (λ_ z=>by cases z) λ_ _ z=>by cases z))
 ·exact .inl (.inr ⟨o,w.oth _ _ h (λ_ z=>by cases z) λ_ _ z=>by cases z⟩)
 ·exact .inr h
theorem Vk {a:Addr}{vs:List V}(w:Ke H H')(h:Yn K F H a vs):Yn K F H' a vs:=by
 rcases h with ⟨f,h⟩ | ⟨o,h⟩ | h
 ·exact .inl ⟨f,w.oth _ _ h (λ_ z=>by cases z) λ_ _ z=>by cases z⟩
 ·exact .inr (.inl ⟨o,w.oth _ _ h (λ_ z=>by cases z) λ_ _ z=>by cases z⟩)
 ·exact .inr (.inr h)
mutual
theorem Is.swp (w:Ke H H'):∀ {t:T} {v:V},Is K F H t v->Is K F H' t v
 | .non,v,h=>by unfold Is at h ⊢;exact h
 | .bl b,v,h=>by unfold Is at h ⊢;exact h
 | .int i,v,h=>by unfold Is at h ⊢;exact h
 | .str x,v,h=>by unfold Is at h ⊢;exact h
 | .ty n,v,h=>by unfold Is at h ⊢;exact h
 | .tup ts,v,h=>by
  unfold Is at h ⊢;obtain ⟨a,vs,e,h,r⟩:=h;exact ⟨a,vs,e,Vj w h,IsAll.swp w r⟩
 | .lst ts,v,h=>by
  unfold Is at h ⊢;obtain ⟨a,vs,e,h,r⟩:=h;exact ⟨a,vs,e,Vk w h,IsAll.swp w r⟩
 | .dct ks ts,v,h=>by
  unfold Is at h ⊢;obtain ⟨a,kvs,e,f,h,d,r⟩:=h;exact ⟨a,kvs,e,f,w.dct _ _ h,d,IsAll.swp w r⟩
 | .obj C fs ts,v,h=>by
  unfold Is at h ⊢;obtain ⟨a,dx,kvs,e,f,h,d,r⟩:=h;exact ⟨a,dx,kvs,e,f,w.oth _ _ h (λ_ z=>by cases z) (λ_ _ z=>by cases z),d,IsAll.swp w r⟩
 | .mem m o,v,h=>by
  unfold Is at h ⊢;exact ⟨h.1,w.oth _ _ h.2 (λ_ z=>by cases z) λ_ _ z=>by cases z⟩
theorem IsAll.swp (w:Ke H H'):∀ {ts:List T} {vs:List V},IsAll K F H ts vs->IsAll K F H' ts vs
 | [],vs,h=>by unfold IsAll at h ⊢;exact h
 | t :: ts,vs,h=>by
  unfold IsAll at h ⊢;obtain ⟨v,r,e,h1,h2⟩:=h;exact ⟨v,r,e,Is.swp w h1,IsAll.swp w h2⟩
end
theorem fV {a:Addr}{kvs:List (Key×V)}{o:Obj}(e:H a=some (.dK kvs)):Ke H (zW H a (.frz o (.dK kvs))):=by
 refine ⟨λb ob q h1 h2 => ?_,λb ks q => ?_⟩
 ·rw [zd (by rintro rfl;rw [e] at q;cases q;exact h1 _ rfl)];exact q
 ·by_cases hb:b=a
  ·subst hb
   cases tO q (.inl e);exact .inr ⟨o,zh⟩
  ·rcases q with q | ⟨o',q⟩
   ·exact .inl (by rw [zd hb];exact q)
   ·exact .inr ⟨o',by rw [zd hb];exact q⟩
theorem ls {a:Addr}{kvs:List (Key×V)}{o:Obj}(e:H a=some (.frz o (.dK kvs))):Ke H (zW H a (.dK kvs)):=by
 refine ⟨λb ob q h1 h2 => ?_,λb ks q => ?_⟩
 ·rw [zd (by rintro rfl;rw [e] at q;cases q;exact h2 _ _ rfl)];exact q
 ·by_cases hb:b=a
  ·subst hb
   cases tO q (.inr ⟨o,e⟩);exact .inl zh
  ·rcases q with q | ⟨o',q⟩
   ·exact .inl (by rw [zd hb];exact q)
   ·exact .inr ⟨o',by rw [zd hb];exact q⟩
theorem xG.swp {b a:Addr}{u:HO}{t:T}(w:Ke H (zW H a u))(hb:b≠a)(h:xG K F H b t):xG K F (zW H a u) b t:=by
 cases t with
 | lst ts=>obtain ⟨vs,e,r⟩:=h;exact ⟨vs,by rw [zd hb];exact e,r.swp w⟩
 | dct ks ts=>obtain ⟨vs,e,d,r⟩:=h;exact ⟨vs,by rw [zd hb];exact e,d,r.swp w⟩
 | obj C fs ts=>obtain ⟨dx,vs,e,d,r⟩:=h;exact ⟨dx,vs,by rw [zd hb];exact e,d,r.swp w⟩
 | _=>exact h.elim
end
def Bs.fz (B:Bs)(a:Addr)(u:HO):Bs:=⟨B.M,λb=>if b=a then (B.H a).map λ_=>u else B.H b,B.F⟩
theorem pY {B:Bs}{a b:Addr}{u:HO} : (Bs.fz B a u).H b=none↔B.H b=none:=by
 unfold Bs.fz;dsimp only
 by_cases h:b=a
 ·subst h;rw [if_pos rfl,Option.map_eq_none_iff]
 ·rw [if_neg h]
section
variable {K:W.Frag}{B:Bs}{F:Addr->Prop}{H:Hp}{σ:St}{env:En}{a:Addr}{kvs:List (Key×V)}{o:Obj}{v:V}{r:RV}
theorem fe.fz (f:fe B F H)(e:H a=some (.dK kvs)):fe (Bs.fz B a (.frz o (.dK kvs))) F (zW H a (.frz o (.dK kvs))):=by
 refine ⟨λb h => ?_,f.sub,λb h => ?_,λb ob h hm => ?_,f.f0⟩
 ·by_cases hb:b=a
  ·subst hb;rw [zh];intro z;cases z
  ·rw [zd hb];exact f.dom b h
 ·rcases f.new b h with h | h | h
  ·exact .inl h
  ·exact .inr (.inl (pY.mpr h))
  ·exact .inr (.inr h)
 ·by_cases hb:b=a
  ·subst hb
   unfold Bs.fz at h;dsimp only at h;rw [if_pos rfl,Option.map_eq_some_iff] at h;obtain ⟨_,_,rfl⟩:=h;exact zh
  ·unfold Bs.fz at h
   dsimp only at h;rw [if_neg hb] at h;rw [zd hb];exact f.keep b ob h hm
theorem zQ.fz (R:zQ K B F H σ env)(fa:F a)(e:H a=some (.dK kvs)):zQ K (Bs.fz B a (.frz o (.dK kvs))) F (zW H a (.frz o (.dK kvs))) σ env:=by
 have w:=fV (o:=o) e;refine ⟨R.fr.fz e,R.len,λi t h=>let ⟨v,s,q⟩:=R.vals i t h;⟨v,s,q.swp w⟩,λi t h => ?_,R.sep⟩;obtain ⟨b,s,nf,fr,ow⟩:=R.owns i t h;exact ⟨b,s,nf,fr.imp pY.mpr id,ow.swp w (by rintro rfl;exact nf fa)⟩
theorem fe.tz (f:fe (Bs.fz B a (.frz o (.dK kvs))) F H)(hB:∀ u,B.H a=some u->¬ B.M a->u=.dK kvs):fe B F (zW H a (.dK kvs)):=by
 refine ⟨λb h => ?_,f.sub,λb h => ?_,λb ob h hm => ?_,f.f0⟩
 ·by_cases hb:b=a
  ·subst hb;rw [zh];intro z;cases z
  ·rw [zd hb];exact f.dom b h
 ·rcases f.new b h with h | h | h
  ·exact .inl h
  ·exact .inr (.inl (pY.mp h))
  ·exact .inr (.inr h)
 ·by_cases hb:b=a
  ·subst hb
   rw [zh,hB ob h hm]
  ·rw [zd hb]
   refine f.keep b ob ?_ hm;unfold Bs.fz;dsimp only;rw [if_neg hb];exact h
theorem zQ.tz (R:zQ K (Bs.fz B a (.frz o (.dK kvs))) F H σ env)(fa:F a)(e:H a=some (.frz o (.dK kvs)))(hB:∀ u,B.H a=some u->¬ B.M a->u=.dK kvs):zQ K B F (zW H a (.dK kvs)) σ env:=by
 have w:=ls e;refine ⟨R.fr.tz hB,R.len,λi t h=>let ⟨v,s,q⟩:=R.vals i t h;⟨v,s,q.swp w⟩,λi t h => ?_,R.sep⟩;obtain ⟨b,s,nf,fr,ow⟩:=R.owns i t h;exact ⟨b,s,nf,fr.imp pY.mp id,ow.swp w (by rintro rfl;exact nf fa)⟩
theorem bw.tz (R:bw K (Bs.fz B a (.frz o (.dK kvs))) F H v r)(fa:F a)(e:H a=some (.frz o (.dK kvs)))(hB:∀ u,B.H a=some u->¬ B.M a->u=.dK kvs):bw K B F (zW H a (.dK kvs)) v r:=by
 have w:=ls e;refine ⟨R.fr.tz hB,?_⟩;have i:=R.val;unfold wu at i ⊢
 split
 ·rename_i ho
  rw [if_pos ho] at i;obtain ⟨b,e1,nf,fr,ow⟩:=i;exact ⟨b,e1,nf,fr.imp pY.mp id,ow.swp w (by rintro rfl;exact nf fa)⟩
 ·rename_i ho
  rw [if_neg ho] at i;exact i.swp w
end
def kT:Key->T
 | .inl i=>.int i
 | .inr x=>.str x
theorem Xl {K:W.Frag}{F:Addr->Prop}{H:Hp} : ∀ {k:Key},Is K F H (kT k) (kV k)
 | .inl _=>xg
 | .inr _=>vX
def xp (ks:List Key)(ts:List T):List T:=(ks.zip ts).map λp=>.tup [kT p.1,p.2]
theorem bW {K:W.Frag}{F:Addr->Prop}{H:Hp}{kvs:List (Key×V)}{ts:List T}{i:Nat}{k:Key}{y:V}(ia:IsAll K F H ts (kvs.map (·.2)))(h:kvs[i]? = some (k,y)):∃ t,(xp (kvs.map (·.1)) ts)[i]? = some (.tup [kT k,t])/\Is K F H t y:=by
 have hl:=ia.len;have hi:i < kvs.length:=(List.getElem?_eq_some_iff.mp h).1;have hi2:i < ts.length:=by rw [hl,List.length_map];exact hi
 obtain ⟨v,hv,iv⟩:=ia.get (i:=i) (t:=ts[i]) (by simp [hi2]);rw [List.getElem?_map,h] at hv;cases hv;refine ⟨ts[i],?_,iv⟩;unfold xp;have hz:((kvs.map (·.1)).zip ts)[i]? = some (k,ts[i]):=List.getElem?_zip_eq_some.mpr ⟨by rw [List.getElem?_map,h];rfl,by simp [hi2]⟩;rw [List.getElem?_map,hz]
 rfl
theorem eQ {kvs:List (Key×V)}{ts:List T}(h:ts.length=(kvs.map (·.2)).length):(xp (kvs.map (·.1)) ts).length=kvs.length:=by
 unfold xp;rw [List.length_map,List.length_zip,List.length_map,h,List.length_map,Nat.min_self]
def fj (m:ME)(tg:MG)(mb:MS):MS:=λenv=>match xm m env with
 | .ok (r,env')=>(match r.2 with
  | .dct ks ts=>xD tg mb (xp ks ts) env'
  | _=>.bad)
 | .exc x=>.exc x env
 | .bad=>.bad
section
variable {X:Cx}{g:MG}{mb:MS}{tg':TG}{tb:TS}{B:Bs}{F1:Addr->Prop}{H1:Hp}{σ:St}{env:En}{D:nC}{a:Addr}{ob:Obj}{kvs:List (Key×V)}{ts:List T}
theorem lu (sg:YM X tg' g)(sb:Qq X tb mb)(R1:zQ X.K B F1 H1 σ env)(fa:F1 a)(e:H1 a=some (.frz ob (.dK kvs)))(ia:IsAll X.K F1 H1 ts (kvs.map (·.2)))
  (w:gj X (B.at_ F1 H1) D (xD g mb (xp (kvs.map (·.1)) ts) env)):∃ W:Nat->Nat->St->Hp->Prop,(∃ m,W 0 m σ H1)/\∀ i m σ H,W i m σ H ->
   ((Xg a ob).stop i H/\D.nx σ H)\/((Xg a ob).go i H/\∃ N:St->Hp->Prop,(∀ σ' H',N σ' H'->∃ m',m' < m/\W (i + 1) m' σ' H')/\∀ x H',(Xg a ob).yld i H x H'->tg' x σ H' λσ2 H2=>tb { D with nx:=N,ct:=N,bk:=D.nx } σ2 H2):=by
 have hlen:=eQ (kvs:=kvs) ia.len;generalize hps:xp (kvs.map (·.1)) ts=ps at w hlen;refine ⟨λi m σ H=>m=ps.length - i/\i<=ps.length/\∃ F env,zQ X.K (B.at_ F1 H1) F H σ env/\gj X (B.at_ F1 H1) D (xD g mb (ps.drop i) env),⟨ps.length,by simp,Nat.zero_le _,F1,env,R1.rebase,by simpa using w⟩,?_⟩;rintro i m σ2 H2 ⟨rfl,hi,F2,env2,R2,w2⟩;have kp:=R2.fr.kept;have e2:=kp.fz _ _ fa e;have ia2:=ia.mono kp
 by_cases hlt:i < ps.length
 ·have hk:i < kvs.length:=by omega
  refine .inr ⟨⟨kvs,kvs[i].1,kvs[i].2,e2,by simp [hk]⟩,λσ' H'=>∃ F env,zQ X.K (B.at_ F1 H1) F H' σ' env/\gj X (B.at_ F1 H1) D (xD g mb (ps.drop (i + 1)) env),λσ' H' ⟨F',e',R',w'⟩=>⟨ps.length - (i + 1),by omega,rfl,hlt,F',e',R',w'⟩,λx H3 y => ?_⟩;obtain ⟨T0,k,v,hT,rfl,rfl,hy⟩:=y;have hx:=hy kvs e2;obtain ⟨t,ht,it⟩:=bW ia2 hx;rw [hps] at ht
  have hd:ps.drop i=.tup [kT k,t] :: ps.drop (i + 1):=by
   rw [List.drop_eq_getElem_cons hlt];have:ps[i]? = some ps[i]:=by simp [hlt]
   rw [this] at ht;rw [Option.some.inj ht]
  rw [hd] at w2;have xa:jE F2 H2 F2 (zW H2 T0 (.tup [kV k,v])):=jE.alloc R2.fr.dom hT;have R3:=R2.ext xa
  have itT:Is X.K F2 (zW H2 T0 (.tup [kV k,v])) (.tup [kT k,t]) (.ref T0):=by
   unfold Is;exact ⟨T0,_,rfl,.inl (.inl zh),IsAll.cons Xl (IsAll.cons (it.mono xa.kept) IsAll.nil)⟩
  have w2:gj X (B.at_ F1 H1) D (match g (.tup [kT k,t]) env2 with
   | none=>.bad
   | some e1=>match mb e1 with
    | .nx e2=>xD g mb (ps.drop (i + 1)) e2
    | .ct e2=>xD g mb (ps.drop (i + 1)) e2
    | .bk e2=>.nx e2
    | o=>o):=w2
  cases hg:g (.tup [kT k,t]) env2 with
  | none=>rw [hg] at w2;exact w2.elim
  | some e1 =>
   rw [hg] at w2;dsimp only at w2;refine sg _ F2 _ σ2 env2 e1 _ _ _ R3 itT hg λσ3 R4 => ?_;refine sb _ F2 _ σ3 e1 _ R4 ?_
   cases ho:mb e1 with
   | nx e2=>rw [ho] at w2;exact λF4 H4 σ4 R4=>⟨F4,e2,R4,w2⟩
   | ct e2=>rw [ho] at w2;exact λF4 H4 σ4 R4=>⟨F4,e2,R4,w2⟩
   | bk e2=>rw [ho] at w2;exact w2
   | rt r=>rw [ho] at w2;exact w2
   | exc x e2=>rw [ho] at w2;exact w2
   | bad=>rw [ho] at w2;exact w2.elim
 ·have hl:i=ps.length:=by omega
  subst hl;rw [List.drop_length] at w2;exact .inl ⟨⟨kvs,e2,by omega⟩,w2 F2 H2 σ2 R2⟩
theorem oo {elts:List Expr}{k:Nat}{tp apos cpos pos:Pos}{o:Expr}{body:List Stmt}{m:ME}(hp:PassesOwn (model X.prog X.w) X.A X.env X.xe)(hc:X.calm=true)(ho:ju X o m)(hg:WZ X (.Tuple elts k tp) g)(hb:uD X body mb)
  (M:M0 X o "items" apos cpos:=by exact ⟨rfl,rfl,rfl,rfl⟩) (hs:∀ x,foldedSetIterable (.Call (.Attribute o "items" apos) [] [] cpos) X.env x=pure x:=by intro _;rfl):mR X (.For (.Tuple elts k tp) (.Call (.Attribute o "items" apos) [] [] cpos) body [] pos) (fj m g mb):=by
 obtain ⟨td,pd,sd⟩:=ho;obtain ⟨tg',pg,sg⟩:=hg;obtain ⟨tb,pb,sb⟩:=hb;refine ⟨_,Vi (aZ hp hc (bV pd M) pg pb hs),?_⟩;intro B F H σ env D R w;unfold fj at w
 cases hr:xm m env with
 | bad=>rw [hr] at w;exact w.elim
 | exc x =>
  rw [hr] at w;refine sd.run R (λr env' er=>by rw [hr] at er;cases er) (λx' er ev F' H' R' i pins s' I => ?_) (by rw [hr];intro z;cases z);rw [hr] at er;cases er;exact w ev F' H' σ R' i pins s' I
 | ok q =>
  obtain ⟨r,env'⟩:=q;rw [hr] at w;dsimp only at w;obtain ⟨b,t⟩:=r;dsimp only at w;cases t<;>try exact w.elim
  rename_i ks ts;dsimp only at w;refine sd.run R (λr env1 er v F' H' R' iv old kp => ?_) (λx er=>by rw [hr] at er;cases er) (by rw [hr];intro z;cases z);rw [hr] at er;cases er;obtain ⟨F2,R2,i2,_⟩:=R'.freeze iv (λa q=>zH R.fr q) old;unfold Is at i2;obtain ⟨a,kvs,rfl,fa,rd,rfl,ia⟩:=i2;refine ⟨a,kvs,rfl,?_⟩
  rcases rd with e | ⟨ob,e⟩
  ·refine .inl ⟨e,λob h0 => ?_⟩
   have hB:∀ u,B.H a=some u->¬ B.M a->u=.dK kvs:=λu h hm=>by
    have:=R2.fr.keep a u h hm;rw [e] at this;cases this
    rfl
   have R3:=R2.fz (o:=ob) fa e;refine lu sg sb R3 fa zh (ia.swp (fV e)) ?_;have key:∀ {F4:Addr->Prop} {H4:Hp},fe ((Bs.fz B a (.frz ob (.dK kvs))).at_ F2 (zW H' a (.frz ob (.dK kvs)))) F4 H4->F4 a/\H4 a=some (.frz ob (.dK kvs)):=λf=>⟨f.sub a fa,f.kept.fz a _ fa zh⟩;generalize xD g mb (xp (kvs.map (·.1)) ts) env'=out at w
   cases out with
   | nx env2=>exact λF4 H4 σ4 R4=>.inr ⟨a,ob,kvs,(key R4.fr).2,h0,w F4 _ σ4 ((R4.unbase R3.fr).tz (key R4.fr).1 (key R4.fr).2 hB)⟩
   | bk env2=>exact λF4 H4 σ4 R4=>.inr ⟨a,ob,kvs,(key R4.fr).2,h0,w F4 _ σ4 ((R4.unbase R3.fr).tz (key R4.fr).1 (key R4.fr).2 hB)⟩
   | ct env2=>exact λF4 H4 σ4 R4=>.inr ⟨a,ob,kvs,(key R4.fr).2,h0,w F4 _ σ4 ((R4.unbase R3.fr).tz (key R4.fr).1 (key R4.fr).2 hB)⟩
   | rt r=>exact λv F4 H4 R4=>.inr ⟨a,ob,kvs,(key R4.fr).2,h0,w v F4 _ ((R4.unbase R3.fr).tz (key R4.fr).1 (key R4.fr).2 hB)⟩
   | exc x env2=>exact λev F4 H4 σ4 R4 ix=>ix.elim
   | bad=>exact w
  ·refine .inr ⟨ob,e,lu sg sb R2 fa e ia ?_⟩
   generalize xD g mb (xp (kvs.map (·.1)) ts) env'=out at w
   cases out with
   | nx env2=>exact λF4 H4 σ4 R4=>.inl (w F4 _ σ4 (R4.unbase R2.fr))
   | bk env2=>exact λF4 H4 σ4 R4=>.inl (w F4 _ σ4 (R4.unbase R2.fr))
   | ct env2=>exact λF4 H4 σ4 R4=>.inl (w F4 _ σ4 (R4.unbase R2.fr))
   | rt r=>exact λv F4 H4 R4=>.inl (w v F4 _ (R4.unbase R2.fr))
   | exc x env2=>exact λev F4 H4 σ4 R4 ix=>ix.elim
   | bad=>exact w
end
def bX (i j:Nat):MS:=λenv=>match env[i]? with
 | some (some (true,.lst ts))=>(match ts[ts.length - 1]? with
  | some t=>.nx ((env.set i (some (true,.lst ts.dropLast))).set j (some (false,t)))
  | none=>.bad)
 | _=>.bad
section
variable {X:Cx}
theorem QI {i j:Nat}{st:Stmt}(hp:PS X st (dr (Q9 X.K "list" Qa (xw i)) (vO j))):mR X st (bX i j):=by
 refine ⟨_,hp,?_⟩;intro B F H σ env D R w;unfold bX at w
 split at w
 ·rename_i ts0 hi
  obtain ⟨a,s,nf,fr,vs,hH,iv⟩:=R.owns i _ hi
  split at w
  ·rename_i t ht
   obtain ⟨v,hv,it⟩:=iv.get ht;have hl:=iv.len;rw [hl] at hv;have kp:k9 F F H (zW H a (.lst vs.dropLast)):=jU nf hH (.inl ⟨_,rfl⟩);have R2:=R.mut (o:=.lst vs.dropLast) (t':=.lst ts0.dropLast) hi s ⟨vs.dropLast,zh,iv.dropLast.mono kp⟩;refine ⟨.ref a,s,.inl ⟨rfl,vs,.inl (.inl hH)⟩,a,vs,v,rfl,rfl,hH,hv,w F _ _ (R2.put (H:=zW H a (.lst vs.dropLast)) j (jo (it.mono kp)) (λb q=>zH R2.fr q) λb z=>(R2.own_not z).2.1)⟩
  ·exact w.elim
 ·exact w.elim
end
section
variable {X:Cx}{pos p p1 p2:Pos}
theorem NY {i:Nat}{x:Str}(hN:X.N.Nodup)(hi:X.N[i]? = some x:=by rfl)(hx:cP X.env.scope x:=by first | exact Or.inl rfl | exact Or.inr rfl)(hf:X.fn x=true\/X.env.scope.names.lookup x=some .local:=by first | exact .inl rfl | exact .inr rfl | assumption):PG X (.Name x pos) (vO i):=gP hN hi hx hf
end
section
open Builtin Builtin.Str in
def Gn (z0:(z.length == 0)=false)(sz:x.length + 2<=sizeLine)
  (q:∀ l k,l.map (·.1)=Txt.split x z->Q (.ref s.heap.objs.size) { s with heap:=s.heap.push { cls:=.type "list",data:=.seq (strValues l).toArray },toks:=k }):wpAny (model prog w) A (call (.builtin "str.split") [.str x tx,.str z tz]) Q E s:=by
 have JD:(partsBetween x (occurrences x z 0 x.length (x.length + 1)) z.length).length<=sizeLine:=by
  have:=StrLaws.occ_length_le x z 0 x.length (x.length + 1);rw [length_partsBetween];omega
 cases c1:(decide (x.length < z.length) || decide (strKind x < strKind z)) with
 | true=>exact call_meets F.slot_str_split (typeIs_str _ _ _) F.entry_str_split (F.args_str_split_2 _ _) (meets_str_split_cannot_occur x z tx tz c1) (q [(x,tx)] s.toks (if_pos c1).symm)
 | false =>
  cases c2:(occurrences x z 0 x.length (x.length + 1)).isEmpty with
  | true=>exact call_meets F.slot_str_split (typeIs_str _ _ _) F.entry_str_split (F.args_str_split_2 _ _) (meets_str_split_not_found x z tx tz c1 z0 c2) (q [(x,tx)] s.toks ((if_neg (ne_true_of_eq_false c1)).trans (if_pos c2)).symm)
  | false =>
   refine call_meets F.slot_str_split (typeIs_str _ _ _) F.entry_str_split (F.args_str_split_2 _ _) (meets_str_split_sep x z tx tz c1 z0 c2 (by omega) JD) ?_;have e:=strsFrom_eq s.toks (partsBetween x (occurrences x z 0 x.length (x.length + 1)) z.length);have q':=q (numbered s.toks (partsBetween x (occurrences x z 0 x.length (x.length + 1)) z.length));rw [<- e] at q';exact q' _ ((numbered_texts _ _).trans ((if_neg (ne_true_of_eq_false c1)).trans (if_neg (ne_true_of_eq_false c2))).symm)
end
open PySem.SeqAt PySem.MeetsSeq PySem.MeetsSeq2 PySem.MeetsSeq3 PySem.SeqRoads2 in
def Xm (l:Addr)(items:Array Value)(n:Nat)(dd:Option Addr)(sl:Array (Option Value))(x:Value)(e:Value->Bool)(i j:Nat)(t:Tok)(hj:j < items.size)(hij:i<=j)(hsmall:(j:Int) < 2 ^ 63 - 1)
  (hit:e items[j]=true) (hno:∀ m (hm:m < items.size),i<=m->m < j->e items[m]=false) :
  Meets (Builtin.«list.index» ⟨[.ref l,x,.int (i:Int) t],[]⟩)
   (λA R s=>s.heap.get? l=some { cls:=.type "list",dict:=dd,data:=.seq items n,slots:=sl } /\ (∀ y,y∈items->EqAt A.in1 s y x (e y))/\R (.ok (.ret (.int j s.toks))) { s with toks:=s.toks + 1 }):=by
 intro prog w A R s h;obtain ⟨hp,g,d,tk,os⟩:=s;obtain ⟨hl,he,h⟩:=h
 wp_walk using wpAny_loadPart' hl
 have b1:((λq:Int=>if q < 0 then max 0 (q + (items.size:Int)) else q) ((some (i:Int)).getD 0))=((i:Nat):Int):=if_neg (Int.not_lt.mpr (Int.natCast_nonneg i));have b2:((λq:Int=>if q < 0 then max 0 (q + (items.size:Int)) else q) ((none:Option Int).getD (2 ^ 63 - 1)))=2 ^ 63 - 1:=by simp
 rw [b1,b2];refine ⟨plainId_quiet plain_index_loop _,codeAny_builtin entry_index_loop ?_⟩;rw [Around.under_plainId plain_index_loop _];exact index_loopAt l items n dd sl x e (2 ^ 63 - 1) j hj hsmall hit _ i rfl hij hno prog w A R _ ⟨hl,he,h⟩
end L3
namespace L2
open PySem PySem.Spec PyProof.Rows
def oq (J:Nat->Shared->Prop)
  (one:∀ k s,J k s->wpAny (model P w) A (pyNext itv) (λr s1=>match r with
   | none=>Z (.ok .next) s1
   | some v=>wpAny (model P w) A (letOwnedTupleGo tg itv v) (λ_ s2=>wpAny (model P w) A (assign tg env v) (λ_ s3 =>
     wpAny (model P w) A (forIn ifs true λc r=>if r=true then do let ok <- isTrue c env (eval c env);pure (ForInStep.yield ok) else pure (ForInStep.yield r)) (λok s4 =>
      if ok=true then wpAny (model P w) A (eval elt env) (λy s5=>wpAny (model P w) A (call (.builtin "list.append") [acc,y]) (λ_ s6=>∃ m,m < k/\J m s6) (notedBy (model P w) A env λe z=>Z (.error e) z) s5) (notedBy (model P w) A env λe z=>Z (.error e) z) s4
      else ∃ m,m < k/\J m s4) (notedBy (model P w) A env λe z=>Z (.error e) z) s3) (notedBy (model P w) A env λe z=>Z (.error e) z) s2) (notedBy (model P w) A env λe z=>Z (.error e) z) s1) (notedBy (model P w) A env λe z=>Z (.error e) z) s)
  (k:Nat) (h:J k s):codeAny (model P w) A (.compLoop (.ListComp elt [⟨tg,iter,ifs,0⟩] scope pos) 0 itv acc env) Z s:=by
 refine codeAny_loop rfl J (λk s hJ => ?_) k h;show wpAny (model P w) A ((compTurn (.ListComp elt [⟨tg,iter,ifs,0⟩] scope pos) 0 itv acc env).onRaise λx=>do noteFrame x env;theTreesLotGoes x) _ _ s;apply wpAny_noted;rw [compTurn_list];refine wpAny_bind (wpAny_standAt (wpAny_bind (wpAny_mono (one k s hJ) (λr s1 g1 => ?_) λ_ _ z=>z)))
 cases r with
 | none=>exact wpAny_pure g1
 | some v =>
  refine wpAny_bind (wpAny_mono g1 (λ_ s2 g2 => ?_) λ_ _ z=>z);refine wpAny_bind (wpAny_mono g2 (λ_ s3 g3=>wpAny_bind (wpAny_mono g3 (λok s4 g4 => ?_) λ_ _ z=>z)) λ_ _ z=>z)
  cases ok with
  | false=>exact wpAny_pure ⟨rfl,g4⟩
  | true=>exact wpAny_bind (wpAny_bind (wpAny_mono g4 (λy s5 g5=>wpAny_bind (wpAny_mono g5 (λ_ s6 g6=>wpAny_pure (wpAny_pure ⟨rfl,g6⟩)) λ_ _ z=>z)) λ_ _ z=>z))
structure ot (X:Cx) (scope:Scope) (cl:List (Str×Addr)) (xs caps:List Str) (slots:List Nat):Prop where
 kind:scope.kind=.function
 nocell:∀ y∈scope.names,y.2≠.cell
 names:∀ y∈scope.names,y.2=.local->scope.names.lookup y.1=some .local
 clos:closureFor scope X.env=pure cl
 sub:∀ y c,cl.lookup y=some c->X.env.cells.lookup y=some c
 has:∀ y,((relabel scope X.env).names.lookup y=some .cell\/(relabel scope X.env).names.lookup y=some .free)->∃ c,cl.lookup y=some c
 cap:∀ (j:Nat) (y:Str),caps[j]? = some y->∃ k:Nat,slots[j]? = some k/\X.N[k]? = some y/\(relabel scope X.env).names.lookup y=some .cell/\X.env.scope.names.lookup y=some .cell
 nd:(xs ++ caps).Nodup
 len:slots.length=caps.length
def dY (wi:TI)(g:TG)(tt:TT)(te:TE)(n:Nat)(slots:List Nat):TE:=λσ H Q=>wi σ H λJ H1=>∀ D,H1 D=none->∃ W:Nat->Nat->List V->St->Hp->Prop,(∃ m,W 0 m [] (List.replicate n none ++ vU σ slots) (zW H1 D (.lst []))) /\
 ∀ i m ys τ H,W i m ys τ H->H D=some (.lst ys)/\((J.stop i H/\Q (.ref D) H)\/(J.go i H/\∀ v H',J.yld i H v H'->g v τ H' λτ' H1=>tt τ' H1 λb H2 =>
  if b=true then te τ' H2 λy H3=>H3 D=some (.lst ys)/\ys.length < sizeLine/\∃ m',m' < m/\W (i + 1) m' (ys ++ [y]) τ' (zW H3 D (.lst (ys ++ [y]))) else ∃ m',m' < m/\W (i + 1) m' ys τ' H2))
def ou (I:zk X pins σ H s)(h:dY wi g tt te xs.length slots σ H Q)
  (fin:∀ D C H5 s6 m,s6.heap.Ns C m->pF X pins H5 C->(∀ h',Heap.SameBut C s6.heap h'->zk X pins σ H5 { s6 with heap:=h' })->Q (.ref D) H5->compPost (model X.prog X.w) X.A X.xe use PQ (.ref D) C (.ok .next) s6)
  (hc:X.calm=true) (S:ot X scope cl xs caps slots) (hi:PI X tg iter wi) (pg:∀ C ex pn s₀ H₀,PG (zi X scope cl C (xs ++ caps) ex pn s₀ H₀) tg g)
  (ht:∀ C ex pn s₀ H₀,JE (zi X scope cl C (xs ++ caps) ex pn s₀ H₀) ifs tt) (he:∀ C ex pn s₀ H₀,PE (zi X scope cl C (xs ++ caps) ex pn s₀ H₀) elt te)
  (hs:∀ v,foldedSetIterable iter X.env v=pure v:=by intro _;rfl) :
  wpAny (model X.prog X.w) X.A (comprehension (.ListComp elt [⟨tg,iter,ifs,0⟩] scope pos) scope X.env cpos (newList []) false (eval iter X.env) use) PQ X.xe s:=by
 refine wpAny_comprehension_free rfl hs S.clos S.kind S.names (jx (hi pins s σ H _ I h) λv s1 h1=>jx h1 λitv s2 h2 => ?_);obtain ⟨it,fp,tn,J,H1,e,I2,T,st2,f2,q⟩:=h2;subst e
 -- the new list,at D;then the block's map,at C
 obtain ⟨W,⟨m0,w0⟩,turn⟩:=q s2.heap.objs.size (I2.hok.fresh (Nat.le_refl _));refine wpAny_newObj_type ?_ (show (0:Nat)<=sizeLine from Nat.zero_le _);have I3:zk X pins σ (zW H1 s2.heap.objs.size (.lst [])) { s2 with heap:=s2.heap.push { cls:=.type "list",data:=.seq ([]:List Value).toArray } }:=I2.lnew .nil (Nat.zero_le _)
 have f3:∀ b∈fp,pF X pins (zW H1 s2.heap.objs.size (.lst [])) b:=λb hb=>by
  obtain ⟨f0,fr⟩:=f2 b hb;obtain ⟨o,ho,_⟩:=T.obj _ _ st2 b hb;exact ⟨by rw [zd (Nat.ne_of_lt (Heap.lt_size ho))];exact f0,fr⟩
 have st3:tn 0 (s2.heap.push { cls:=.type "list",data:=.seq ([]:List Value).toArray }):=T.keep _ _ _ st2 λb _ o e=>Heap.get?_push_of_some _ e;generalize hD:s2.heap.objs.size=D at I3 turn w0 f3 ⊢;generalize hs3:({ s2 with heap:=s2.heap.push { cls:=.type "list",data:=.seq ([]:List Value).toArray } } : Shared)=s3 at I3 ⊢;have st3:tn 0 s3.heap:=by rw [<- hs3];exact st3
 generalize hH3:zW H1 D (.lst [])=H3 at I3 w0 f3;refine wpAny_newFunctionEnv S.nocell (by intro y hy;simp at hy) (λh4 hns4 hsb4 => ?_) S.kind;generalize hC:s3.heap.objs.size=C at hns4 hsb4 ⊢;have neC:∀ b o,s3.heap.get? b=some o->b≠C:=λb o e=>by rw [<- hC];exact Nat.ne_of_lt (Heap.lt_size e)
 have old:∀ b o,s3.heap.get? b=some o->h4.get? b=some o:=λb o e=>hsb4.extBut b o (neC b o e) (Heap.get?_push_of_some _ e);have fpo:∀ b∈fp,∃ o,s3.heap.get? b=some o:=λb hb=>let ⟨o,ho,_⟩:=T.obj _ _ st3 b hb;⟨o,ho⟩
 have nst:∀ b∈fp,b∉r0 X.stack:=λb hb z=>(List.mem_cons.mp (I3.stkSub b z)).elim (f3 b hb).2.1 (f3 b hb).2.2.1
 have ok:(zi X scope cl C (xs ++ caps) fp (X.pn ++ pins) s3 H3).Ok :=
  {
   mod:=I3.ok.mod
   kind:=S.kind
   glob:=I3.ok.glob
   blt:=I3.ok.blt
   above:=by rw [<- hC];exact Nat.le_refl _
   inj:=λy z c h1 h2=>I3.ok.inj y z c (S.sub y c h1) (S.sub z c h2)
   has:=λy hy=>S.has y hy
   cab:=λy c h=>nomatch (show false=true from h)
   hd:=I3.ok.hd
   frames:=I3.ok.frames
   stk:=.inl rfl
   exf:=λb hb=>⟨let ⟨o,ho⟩:=fpo b hb;neC b o ho,λy c e=>(f3 b hb).2.2.2.2.1 y c (S.sub y c e)⟩
   bs:=λb o e=>I3.bs b o e
   bsz:=Nat.le_trans I3.ok.bsz I3.sz
   noex:=λb o e hb=>by
    rcases (f3 b hb).2.2.2.1 with z | z
    ·exact I3.ok.noex b o e z
    ·exact absurd (Nat.lt_of_lt_of_le (Heap.lt_size (I3.ok.bs b o e).1) z) (Nat.lt_irrefl _)
   exfs:=nst
   funs:=I3.stack
   frf:=I3.stkFree
   tab:=I3.tab }
 have I4:∀ tk,zk (zi X scope cl C (xs ++ caps) fp (X.pn ++ pins) s3 H3) [] (List.replicate xs.length none ++ vU σ slots) H3 { s3 with heap:=h4,toks:=tk }:=λtk=>by
  refine ⟨ok,rfl,I3.bare,Un.kept old,⟨_,hns4,λi y v h1 h2 h3 => ?_⟩,λy c e => ?_,by show H3 C=none;rw [<- hC];exact I3.hok.fresh (Nat.le_refl _),λy c e=>I3.freeC y c (S.sub y c e),λp hp => ?_,I3.hok.kept old,?_⟩
  ·have hlt:¬ i < xs.length:=λz=>by
    rw [List.getElem?_append_left (by simpa using z),List.getElem?_replicate,if_pos z] at h2;cases h2
   obtain ⟨i,rfl⟩:∃ j,i=xs.length + j:=⟨i - xs.length,by omega⟩
   have h1:(xs ++ caps)[xs.length + i]? = some y:=h1;rw [List.getElem?_append_right (by omega),Nat.add_sub_cancel_left] at h1;rw [List.getElem?_append_right (by rw [List.length_replicate];omega),List.length_replicate,Nat.add_sub_cancel_left] at h2;obtain ⟨k,hk,hN,hr,hcl⟩:=S.cap i y h1;have h2:(slots.map λk=>(σ[k]?).getD none)[i]? = some (some v):=h2;rw [List.getElem?_map,hk] at h2;have h2:(σ[k]?).getD none=some v:=Option.some.inj h2
   have h2:σ[k]? = some (some v):=by
    cases e:σ[k]? with
    | none=>rw [e] at h2;cases h2
    | some o=>rw [e] at h2;have:o=some v:=h2;rw [this]
   obtain ⟨m,hn,hl⟩:=I3.loc;obtain ⟨u,r,l⟩:=hl k y v hN h2 (.inr (.inl hcl));refine ⟨u,r,.inr ⟨.inl hr,?_⟩⟩
   rcases l with ⟨z,_⟩ | ⟨_,c,e1,⟨o,ho,hd⟩⟩
   ·have z:X.env.scope.names.lookup y=some .local:=z
    rw [hcl] at z;cases z
   ·obtain ⟨c',e2⟩:=S.has y (.inl hr)
    have e3:=S.sub y c' e2;rw [e1] at e3;cases e3;exact ⟨c,e2,o,old _ _ ho,hd⟩
  ·obtain ⟨v,o,ho,hd⟩:=I3.cell y c (S.sub y c e)
   exact ⟨v,o,old _ _ ho,hd⟩
  ·have hp:p∈(X.pn ++ pins) ++ []:=hp
   have hp:p∈X.pn ++ pins:=by simpa using hp
   obtain ⟨e,n,ne,nf,d⟩:=I3.pin p hp;exact ⟨old _ _ e,n,neC _ _ e,λz=>(List.mem_cons.mp (I3.stkSub _ z)).elim ne nf,d⟩
  ·show (List.replicate xs.length none ++ vU σ slots).length=(xs ++ caps).length
   unfold vU;rw [List.length_append,List.length_append,List.length_map,List.length_replicate,S.len]
 have stat:∀ {H':Hp},(∀ b∈fp,H' b=none)->∀ b∈fp,pF (zi X scope cl C (xs ++ caps) fp (X.pn ++ pins) s3 H3) [] H' b:=λhn b hb =>
  ⟨hn b hb,(ok.exf b hb).1,nst b hb,.inl hb,(ok.exf b hb).2,λp hp=>(f3 b hb).2.2.2.2.2 p (by have hp:p∈(X.pn ++ pins) ++ []:=hp;simpa using hp)⟩
 have loop:∀ tk,codeAny (model X.prog X.w) X.A (.compLoop (.ListComp elt [⟨tg,iter,ifs,0⟩] scope pos) 0 (.ref it) (.ref D) (compEnvC scope cl C X.env)) (compPost (model X.prog X.w) X.A X.xe use PQ (.ref D) C) { s3 with heap:=h4,toks:=tk }:=by
  intro tk
  refine oq (λn s'=>∃ i ys τ H',zk (zi X scope cl C (xs ++ caps) fp (X.pn ++ pins) s3 H3) [] τ H' s'/\tn i s'.heap/\(∀ b∈fp,H' b=none)/\W i n ys τ H') ?_ m0
   ⟨0,[],_,H3,I4 tk,T.keep _ _ _ st3 λb _ o e=>old b o e,λb hb=>(f3 b hb).1,w0⟩
  rintro n s5 ⟨i,ys,τ,H5,I5,st5,fr5,w5⟩;obtain ⟨hDl,stop | ⟨go,step⟩⟩:=turn i n ys τ H5 w5
  ·obtain ⟨stop,qD⟩:=stop
   refine wpAny_mono (T.done (zi X scope cl C (xs ++ caps) fp (X.pn ++ pins) s3 H3) rfl rfl rfl hc i [] s5 _ H5 (λ_ _=>False) I5 (stat fr5) st5 stop) (λr s6 hr6 => ?_) λ_ _ z=>z.elim;obtain ⟨hr,I6⟩:=hr6;subst hr;obtain ⟨m,hn,_⟩:=I6.loc;refine fin D C H5 s6 m hn (I3.fpOk (by rw [<- hC];exact Nat.le_refl _) I6.free) (λh' hsb => ?_) qD
   have neC':∀ c v,H5 c=some v->c≠C:=λc v e z=>by
    have:=I6.free;have:H5 C=none:=this;rw [z,this] at e;cases e
   refine I3.call' I6.os ?_ ?_ I6.bare λb hb=>⟨(f3 b hb).2.2.2.1,(f3 b hb).2.1,(f3 b hb).2.2.2.2.1,(f3 b hb).2.2.2.2.2⟩
   ·have u:=I6.base
    exact ⟨λb o e n hb hx=>hsb.extBut b o (neC b o e) (u.keep b o e n hb hx),λb o e n hb hx=>let ⟨sl,q⟩:=u.slot b o e n hb hx;⟨sl,hsb.extBut b _ (neC b o e) q⟩,u.free,λb o e hx=>let ⟨o',q⟩:=u.there b o e hx;⟨o',hsb.extBut b _ (neC b o e) q⟩,u.tups,u.frzs,u.tbls⟩
   ·exact λb u e=>(I6.hok b u e).stay (λc v hc q=>hsb.extBut c v (hc.elim (λz=>by rw [z];exact neC' b u e) λz=>neC' c _ z) q) (λ_ q=>q) λ_ _ q=>q
  ·refine wpAny_mono (T.item (zi X scope cl C (xs ++ caps) fp (X.pn ++ pins) s3 H3) rfl rfl rfl hc i [] s5 _ H5 (λ_ _=>False) I5 (stat fr5) st5 go) (λr s6 hr6 => ?_) λ_ _ z=>z.elim
   obtain ⟨u,hr,h6⟩:=hr6;subst hr;refine wpAny_mono h6 (λ_ s7 h7 => ?_) λ_ _ z=>z.elim;obtain ⟨v,H7,I7,r7,y7,st7,fr7⟩:=h7;have I7':=I7.pinned (stat fr7) (T.obj _ _ st7);refine wpAny_mono (pg C fp (X.pn ++ pins) s3 H3 _ s7 _ H7 v u _ I7' r7 (step v H7 y7)) (λ_ s8 h8 => ?_) λ_ _ z=>z.elim;obtain ⟨σ8,H8,I8,q8⟩:=h8;refine wpAny_mono (ht C fp (X.pn ++ pins) s3 H3 _ s8 _ _ _ I8 q8) (λb s9 h9 => ?_) λ_ _ z=>z.elim;obtain ⟨H9,I9,q9⟩:=h9
   have again:∀ {o':St} {H':Hp} {s':Shared} {zs:List V} {m':Nat},zk (zi X scope cl C (xs ++ caps) fp (X.pn ++ pins) s3 H3) ([] ++ ux fp s7.heap) o' H' s'->m' < n->W (i + 1) m' zs o' H' ->
     ∃ m,m < n/\∃ i ys o H',zk (zi X scope cl C (xs ++ caps) fp (X.pn ++ pins) s3 H3) [] o H' s'/\tn i s'.heap/\(∀ b∈fp,H' b=none)/\W i m ys o H':=λ{o' H' s' zs m'} I' hm w'=>by
    refine ⟨m',hm,i + 1,zs,o',H',I'.unpinned,T.keep _ _ _ st7 λb hb o e=>(I'.pin (b,o) (List.mem_append_right _ (List.mem_append_right _ (xO hb e)))).1,λb hb => ?_,w'⟩;obtain ⟨o,e,d⟩:=T.obj _ _ st7 b hb;exact (I'.pin (b,o) (List.mem_append_right _ (List.mem_append_right _ (xO hb e)))).2.1
   cases b with
   | false =>
    rw [if_neg Bool.false_ne_true] at q9 ⊢;obtain ⟨m',hm,w'⟩:=q9;exact again I9 hm w'
   | true =>
    rw [if_pos rfl] at q9 ⊢;refine wpAny_mono (he C fp (X.pn ++ pins) s3 H3 _ s9 _ _ _ I9 q9) (λyv s10 h10 => ?_) λ_ _ z=>z.elim;obtain ⟨y,H10,I10,ry,hDy,hlt,m',hm,w'⟩:=h10;refine wpAny_mono (wz (X:=zi X scope cl C (xs ++ caps) fp (X.pn ++ pins) s3 H3) _ s10 _ H10 (.ref D) [y] (.ref D) [yv] (λ_ H'=>H'=zW H10 D (.lst (ys ++ [y]))) I10 rfl (.cons ry .nil) ⟨D,ys,y,rfl,rfl,hDy,hlt,rfl⟩) (λ_ s11 h11 => ?_) λ_ _ z=>z.elim;obtain ⟨_,H11,I11,_,e11⟩:=h11;subst e11;exact again I11 hm w'
 exact codeAny_compStart_list (loop _) (T.self X.A 0 _ _ _ (T.keep _ _ _ st3 λb _ o e=>old b o e) (loop _))
end L2
namespace L3
open PySem PySem.Spec PyProof.Rows L2
def Z6 (K:W.Frag)(F:Addr->Prop)(H:Hp)(J:It)(ts:List T):Prop :=
 ∀ F2 H2,iD F2 H2->k9 F F2 H H2->∀ i:Nat,(i < ts.length->J.go i H2/\∀ x H3,J.yld i H2 x H3->jE F2 H2 F2 H3/\∃ t,ts[i]? = some t/\Is K F2 H3 t x)/\(ts.length<=i->J.stop i H2)
def vZ (mg:MG)(mt:MT)(me:ME):En->List T->kg (List T)
 | _,[]=>.ok []
 | env,t :: ts=>match mg t env with
  | none=>.bad
  | some e1=>match mt (zZ e1) with
   | .ok true=>(match me (zZ e1) with
    | .ok r=>(match vZ mg mt me (zZ e1) ts with
     | .ok rs=>.ok (r.2 :: rs)
     | _=>.bad)
    | _=>.bad)
   | .ok false=>vZ mg mt me (zZ e1) ts
   | _=>.bad
def xS (it:JG)(mg:MG)(mt:MT)(me:ME)(n:Nat)(slots:List Nat):ME:=λenv=>(it env).bind λts=>if ts.length<=sizeLine then (match vZ mg mt me (List.replicate n none ++ (qB env slots).map frz1) ts with
 | .ok rs=>.ok (true,.lst rs)
 | _=>.bad) else .bad
def J4 (env:En):∀ (i:Nat) (t:T),(zZ env)[i]?≠some (some (true,t)):=λi t h=>by
 obtain ⟨u,e,_⟩:=bx h;cases e
def v5.stm {K:W.Frag}{F:Addr->Prop}{H:Hp}{σ:St}{env:En}(R:v5 K F H σ env)(hl:env.length=σ.length)(hn:∀ (i:Nat) (t:T),env[i]?≠some (some (true,t))):zQ K ⟨λ_=>False,H,F⟩ F H σ env :=
 ⟨⟨R.dom,λ_ h=>h,λ_ h=>.inl h,λ_ _ h _=>h,λ_ _ z=>z⟩,hl,λi t h=>R.vals i (false,t) h,λi t h=>absurd h (hn i t),λi j t t' a h _ _ _=>absurd h (hn i t)⟩
section
variable {X:Cx}{scope:Scope}{cl:List (Str×Addr)}{xs caps:List Str}{slots:List Nat}{iter elt tg:Expr}{ifs:List Expr}{pos:Pos}{it:JG}{mg:MG}{mt:MT}{me:ME}
def N2 (X:Cx)(scope:Scope)(cl:List (Str×Addr))(N:List Str)(ifs:List Expr)(m:MT):Prop := ∃ t,∀ C ex pn s₀ H₀,JE (zi X scope cl C N ex pn s₀ H₀) ifs t/\vh (zi X scope cl C N ex pn s₀ H₀) t m
def NZ (X:Cx)(scope:Scope)(cl:List (Str×Addr))(N:List Str)(e:Expr)(m:ME):Prop := ∃ t,∀ C ex pn s₀ H₀,PE (zi X scope cl C N ex pn s₀ H₀) e t/\xx (zi X scope cl C N ex pn s₀ H₀) t m
def M5 (X:Cx)(scope:Scope)(cl:List (Str×Addr))(N:List Str)(e:Expr)(m:MG):Prop := ∃ g,∀ C ex pn s₀ H₀,PG (zi X scope cl C N ex pn s₀ H₀) e g/\YM (zi X scope cl C N ex pn s₀ H₀) g m
theorem QJ (h:∀ C ex pn s₀ H₀,ju (zi X scope cl C N ex pn s₀ H₀) e m):NZ X scope cl N e m:=by
 refine ⟨λσ H Q=>∀ C ex pn s₀ H₀,∃ t,PE (zi X scope cl C N ex pn s₀ H₀) e t/\t σ H Q,λC ex pn s₀ H₀=>⟨λpins s σ H Q I w => ?_,λF H σ env Q R nb ok exx C' ex' pn' s₀' H₀' => ?_⟩⟩
 ·obtain ⟨t,p,w⟩:=w C ex pn s₀ H₀
  exact p pins s σ H Q I w
 ·obtain ⟨t,p,s⟩:=h C' ex' pn' s₀' H₀'
  exact ⟨t,p,s F H σ env Q R nb ok λy z ev F' H' xt ix=>ix.elim⟩
theorem QK (h:∀ C ex pn s₀ H₀,bF (zi X scope cl C N ex pn s₀ H₀) ifs m):N2 X scope cl N ifs m:=by
 refine ⟨λσ H Q=>∀ C ex pn s₀ H₀,∃ t,JE (zi X scope cl C N ex pn s₀ H₀) ifs t/\t σ H Q,λC ex pn s₀ H₀=>⟨λpins s σ H Q I w => ?_,λF H σ env Q R nb ok exx C' ex' pn' s₀' H₀' => ?_⟩⟩
 ·obtain ⟨t,p,w⟩:=w C ex pn s₀ H₀
  exact p pins s σ H Q I w
 ·obtain ⟨t,p,s⟩:=h C' ex' pn' s₀' H₀'
  exact ⟨t,p,s F H σ env Q R nb ok λy z ev F' H' xt ix=>ix.elim⟩
theorem QL (h:∀ C ex pn s₀ H₀,WZ (zi X scope cl C N ex pn s₀ H₀) e m):M5 X scope cl N e m:=by
 refine ⟨λv σ H Q=>∀ C ex pn s₀ H₀,∃ g,PG (zi X scope cl C N ex pn s₀ H₀) e g/\g v σ H Q,λC ex pn s₀ H₀=>⟨λpins s σ H v u Q I rv w => ?_,λB F H σ env env' v t Q R iv e q C' ex' pn' s₀' H₀' => ?_⟩⟩
 ·obtain ⟨g,p,w⟩:=w C ex pn s₀ H₀
  exact p pins s σ H v u Q I rv w
 ·obtain ⟨g,p,s⟩:=h C' ex' pn' s₀' H₀'
  exact ⟨g,p,s B F H σ env env' v t Q R iv e q⟩
theorem Xn {K:W.Frag}{F:Addr->Prop}{H:Hp}{σ:St}{env:En}{n:Nat}(R:v5 K F H σ env):v5 K F H (List.replicate n none ++ vU σ slots) (List.replicate n none ++ (qB env slots).map frz1):=by
 refine ⟨R.dom,λi r h => ?_⟩
 have hlt:¬ i < n:=λz=>by
  rw [List.getElem?_append_left (by simpa using z),List.getElem?_replicate,if_pos z] at h;cases h
 obtain ⟨i,rfl⟩:∃ j,i=n + j:=⟨i - n,by omega⟩
 rw [List.getElem?_append_right (by rw [List.length_replicate];omega),List.length_replicate,Nat.add_sub_cancel_left] at h;rw [List.getElem?_append_right (by rw [List.length_replicate];omega),List.length_replicate,Nat.add_sub_cancel_left];rw [List.getElem?_map] at h;unfold qB at h;rw [List.getElem?_map] at h
 cases hk:slots[i]? with
 | none=>rw [hk] at h;cases h
 | some k =>
  rw [hk] at h;have h:frz1 ((env[k]?).getD none)=some r:=Option.some.inj h
  cases e:env[k]? with
  | none=>rw [e] at h;cases h
  | some o =>
   rw [e] at h
   cases o with
   | none=>cases h
   | some q =>
    obtain ⟨b,t⟩:=q;cases h;obtain ⟨w,sw,q⟩:=R.vals k (b,t) e;refine ⟨w,?_,q⟩;unfold vU;rw [List.getElem?_map,hk];show some ((σ[k]?).getD none)=some (some w);rw [sw]
    rfl
theorem Xo:(List.replicate n none ++ (qB env slots).map frz1:En).length=(List.replicate n none ++ vU σ slots:St).length:=by simp [qB,vU]
theorem Xp:∀ (i:Nat) (t:T),(List.replicate n none ++ (qB env slots).map frz1:En)[i]?≠some (some (true,t)):=λi t h=>by
 by_cases z:i < n
 ·rw [List.getElem?_append_left (by simpa using z),List.getElem?_replicate,if_pos z] at h
  cases h
 ·rw [List.getElem?_append_right (by rw [List.length_replicate];omega),List.getElem?_map] at h
  cases e:(qB env slots)[i - (List.replicate n (none:Option RV)).length]? with
  | none=>rw [e] at h;cases h
  | some o =>
   rw [e] at h
   cases o with
   | none=>cases h
   | some q=>obtain ⟨b,u⟩:=q;cases h
end
end L3
namespace L2
open PySem PySem.Spec PyProof.Rows
def mI.more (S:mI X scope cl x caps slots)(nd:(xs ++ caps).Nodup):ot X scope cl xs caps slots:=⟨S.kind,S.nocell,S.names,S.clos,S.sub,S.has,S.cap,nd,S.len⟩
def Xq (hc:X.calm=true)(S:ot X scope cl xs caps slots)(hi:PI X tg iter wi)(pg:∀ C ex pn s₀ H₀,PG (zi X scope cl C (xs ++ caps) ex pn s₀ H₀) tg g)
  (ht:∀ C ex pn s₀ H₀,JE (zi X scope cl C (xs ++ caps) ex pn s₀ H₀) ifs tt) (he:∀ C ex pn s₀ H₀,PE (zi X scope cl C (xs ++ caps) ex pn s₀ H₀) elt te)
  (hs:∀ v,foldedSetIterable iter X.env v=pure v):PE X (.ListComp elt [⟨tg,iter,ifs,0⟩] scope pos) (dY wi g tt te xs.length slots):=by
 intro pins s σ H Q I h;rw [eval_ListComp];exact ou (use:=none) I h (λD C H5 s6 m hn f keep q=>⟨m,hn,λh' hsb=>⟨.ref D,H5,keep h' hsb,rfl,q⟩⟩) hc S hi pg ht he hs
end L2
namespace L3
open PySem PySem.Spec PyProof.Rows L2
def Xr (t u:T):Option RV:=match t with
 | .int _=>(match u with
  | .bl _=>some (false,.bl false)
  | u=>tP t u)
 | t=>tP t u
def Kf {X:Cx} : qp X (compareOp .Is) (rT X.K Xr):=by
 intro pins s σ H x y v u Q I rx ry h;obtain ⟨F,tx,ty,rv,d,ix,iy,e,q⟩:=h;have old:tP tx ty=some rv->wpAny (model X.prog X.w) X.A (compareOp .Is v u) (EP X pins σ Q) X.xe s:=λe=>UR pins s σ H x y v u Q I rx ry ⟨F,tx,ty,rv,d,ix,iy,e,q⟩;cases tx
 case int i =>
  cases ty
  case bl b =>
   cases e;unfold Is at ix iy;subst ix iy;obtain ⟨t,rfl⟩:=rx;cases ry;exact wpAny_is_plain rfl ⟨.bl false,H,I,rfl,jQ d xH q rfl⟩
  all_goals exact old e
 all_goals exact old e
instance (i j:Int):Decidable (JX i j):=by unfold JX;infer_instance
def ox:T->T->Option RV
 | .int i,.int j=>if JX i j then some (false,.int (i ^ j.toNat)) else none
 | _,_=>none
section
variable {X:Cx}
theorem Kg:qp X (binaryOp .Pow) (rT X.K ox):=by
 intro pins s σ H x y v u Q I rx ry h;obtain ⟨F,tx,ty,rv,d,ix,iy,e,q⟩:=h;cases tx<;>cases ty<;>simp only [ox,reduceCtorEq] at e
 case int.int i j =>
  unfold Is at ix iy;subst ix iy
  split at e<;>cases e
  rename_i hc;exact KW pins s σ H _ _ v u Q I rx ry ⟨i,j,rfl,rfl,hc,jQ d xg q rfl⟩
end
def Xs (t u:T):Option RV:=match t with
 | .bl a=>(match u with
  | .bl b=>some (false,.bl (a != b))
  | u=>eJ t u)
 | t=>eJ t u
def Z7 (i j:Nat):MS:=λenv=>match env[i]? with
 | some (some (true,.lst ts))=>(match env[j]? with
  | some (some (true,.lst us))=>if i≠j/\ts.length + us.length<=sizeLine then .nx (env.set i (some (true,.lst (ts ++ us)))) else .bad
  | _=>.bad)
 | _=>.bad
def gq (m:ME):JG:=λenv=>(m env).bind λr=>match r.2 with
 | .dct ks ts=>.ok (xp ks ts)
 | _=>.bad
def eR (m:ME):ME:=λenv=>(m env).bind λr=>match r.2 with
 | .dct ks ts=>.ok (false,.tup (xp ks ts))
 | _=>.bad
def Go (i:Nat)(mb:MS):MS:=λenv=>match mb env with
 | .nx e=>(match e[i]? with
  | some (some (_,t))=>.nx (e.set i (some (false,t)))
  | _=>.nx e)
 | o=>o
section
variable {X:Cx}
theorem N3 {i:Nat}{st:Stmt}{mb:MS}(h:mR X st mb):mR X st (Go i mb):=by
 obtain ⟨t,p,s⟩:=h;refine ⟨t,p,λB F H σ env D R w=>s B F H σ env D R ?_⟩;unfold Go at w
 cases e:mb env with
 | nx e1 =>
  rw [e] at w;dsimp only at w;intro F' H' σ' R'
  split at w
  ·rename_i b t g
   obtain ⟨F2,v,R2,_⟩:=R'.frz1 g;exact w F2 H' σ' R2
  ·exact w F' H' σ' R'
 | _=>rw [e] at w;exact w
theorem QM {i j:Nat}{st:Stmt}(hp:PS X st (re (UJ X.K "list" rp (xw i) (Y1 (xw j) Wy)))):mR X st (Z7 i j):=by
 refine ⟨_,hp,?_⟩;intro B F H σ env D R w;unfold Z7 at w
 split at w
 ·rename_i ts hi
  split at w
  ·rename_i us hj
   split at w
   ·rename_i hl
    obtain ⟨a,s,nf,fr,vs,hH,iv⟩:=R.owns i _ hi;obtain ⟨b,s2,nf2,fr2,zs,hB,iz⟩:=R.owns j _ hj;refine ⟨.ref a,s,.inl ⟨rfl,vs,.inl (.inl hH)⟩,.ref b,s2,a,b,vs,zs,rfl,rfl,hH,hB,by rw [<- iv.len,<- iz.len];exact hl.2,?_⟩;refine w F _ σ (R.mut hi s ⟨vs ++ zs,zh,?_⟩);exact (iv.append iz).mono (jU nf hH (.inl ⟨_,rfl⟩))
   ·exact w.elim
  ·exact w.elim
 ·exact w.elim
theorem QN:qp X (compareOp .IsNot) (rT X.K Xs):=by
 intro pins s σ H x y v u Q I rx ry h;obtain ⟨F,tx,ty,rv,d,ix,iy,e,q⟩:=h;have old:eJ tx ty=some rv->wpAny (model X.prog X.w) X.A (compareOp .IsNot v u) (EP X pins σ Q) X.xe s:=λe=>P9 pins s σ H x y v u Q I rx ry ⟨F,tx,ty,rv,d,ix,iy,e,q⟩;cases tx
 case bl a =>
  cases ty
  case bl b =>
   cases e;unfold Is at ix iy;subst ix iy;cases rx;cases ry;refine wpAny_isNot_plain rfl ⟨.bl (a != b),H,I,?_,jQ d xH q rfl⟩;cases a<;>cases b<;>rfl
  all_goals exact old e
 all_goals exact old e
end
section
variable {X:Cx}{scope:Scope}{cl:List (Str×Addr)}{xs caps:List Str}{slots:List Nat}{iter elt tg:Expr}{ifs:List Expr}{pos:Pos}{it:JG}{mg:MG}{mt:MT}{me:ME}
theorem pZ {wi:TI}{g:TG}{tt:TT}{te:TE}{F:Addr->Prop}{H:Hp}{σ:St}{env:En}{Q:VK}(si:∀ R:It->Hp->Prop,it env≠.bad->(∀ ts,it env=.ok ts->∀ J F' H',jE F H F' H'->Z6 X.K F' H' J ts->R J H')->(∀ x,it env=.exc x->ZL X F H σ x)->wi σ H R)
  (sg:YM (zi X scope cl 0 (xs ++ caps) [] [] X.s₀ X.H₀) g mg) (st:vh (zi X scope cl 0 (xs ++ caps) [] [] X.s₀ X.H₀) tt mt) (se:xx (zi X scope cl 0 (xs ++ caps) [] [] X.s₀ X.H₀) te me) (RE:v5 X.K F H σ env) (nb:xS it mg mt me xs.length slots env≠.bad)
  (ok:∀ r,xS it mg mt me xs.length slots env=.ok r->∀ v F' H',jE F H F' H'->wu X.K (λa=>H a=none) F' H' v r->Q v H') (exx:∀ x,xS it mg mt me xs.length slots env=.exc x->ZL X F H σ x):dY wi g tt te xs.length slots σ H Q:=by
 unfold xS at nb ok exx;refine si _ (λz=>by rw [z] at nb;exact nb rfl) (λts e1 J F1 H1 x1 Y => ?_) λx z=>exx x (by rw [z];rfl);rw [e1,bind_ok] at nb ok
 by_cases hl:ts.length<=sizeLine
 ·rw [if_pos hl] at nb ok
  have R0:v5 X.K F1 H1 (List.replicate xs.length none ++ vU σ slots) (List.replicate xs.length none ++ (qB env slots).map frz1):=Xn (RE.mono x1);have L0:=Xo (slots:=slots) (σ:=σ) (env:=env) (n:=xs.length);have N0:=Xp (slots:=slots) (env:=env) (n:=xs.length);generalize (List.replicate xs.length none ++ (qB env slots).map frz1:En)=env0 at R0 L0 N0 nb ok
  cases hcl:vZ mg mt me env0 ts with
  | bad=>rw [hcl] at nb;exact absurd rfl nb
  | exc y=>rw [hcl] at nb;exact absurd rfl nb
  | ok out =>
   rw [hcl] at ok;intro D hD
   refine ⟨λi m ys τ H=>m=ts.length - i/\i<=ts.length/\ys.length<=i/\H D=some (.lst ys)/\∃ Fc us rest en,¬ Fc D/\jE F1 H1 Fc H/\IsAll X.K Fc H us ys/\v5 X.K Fc H τ en/\en.length=τ.length/\(∀ (i:Nat) (t:T),en[i]?≠some (some (true,t)))/\vZ mg mt me en (ts.drop i)=.ok rest/\us ++ rest=out,
    ⟨ts.length,by simp,Nat.zero_le _,Nat.le_refl _,zh,F1,[],out,env0,λf=>x1.dom D f hD,jE.alloc x1.dom hD,IsAll.nil,R0.mono (jE.alloc x1.dom hD),L0,N0,by simpa using hcl,rfl⟩,?_⟩
   rintro i m ys τ H2 ⟨rfl,hi,hyl,hHD,Fc,us,rest,en,nD,xc,iu,RC,LC,NC,hrest,hout⟩;refine ⟨hHD,?_⟩;obtain ⟨yg,ysp⟩:=Y Fc H2 RC.dom xc.kept i
   by_cases hlt:i < ts.length
   ·obtain ⟨go,yl⟩:=yg hlt
    refine .inr ⟨go,λv H3 y => ?_⟩;obtain ⟨xt,t,hti,iv⟩:=yl v H3 y;have hHD:=xt.same D _ hHD;have xc:=xc.trans xt;have iu:=iu.mono xt.kept;have RC:=RC.mono xt
    have hd:ts.drop i=t :: ts.drop (i + 1):=by
     rw [List.drop_eq_getElem_cons hlt];have:ts[i]? = some ts[i]:=by simp [hlt]
     rw [this] at hti;cases hti
     rfl
    rw [hd,vZ] at hrest
    cases hg:mg t en with
    | none=>rw [hg] at hrest;cases hrest
    | some e2 =>
    rw [hg] at hrest;dsimp only at hrest;refine sg _ Fc H3 τ en e2 v t _ (RC.stm LC NC) iv hg λτ' R' => ?_;have RH:v5 X.K Fc H3 τ' (zZ e2):=R'.hid
    have LH:(zZ e2).length=τ'.length:=by
     unfold zZ;rw [List.length_map];exact R'.len
    have NH:=J4 e2;generalize zZ e2=en2 at RH LH NH hrest
    have keepD:∀ {F':Addr->Prop} {H':Hp},jE Fc H3 F' H'->¬ F' D/\H' D=some (.lst ys):=by
     intro F' H' xt;refine ⟨λf => ?_,xt.same D _ hHD⟩
     rcases xt.new D f with f | f
     ·exact nD f
     ·rw [hHD] at f;cases f
    refine st Fc H3 _ _ _ RH (λz=>by rw [z] at hrest;cases hrest) (λb eb F4 H4 x4 => ?_) λy z=>by rw [z] at hrest;cases hrest
    rw [eb] at hrest
    cases b with
    | false =>
     rw [if_neg Bool.false_ne_true];dsimp only at hrest;obtain ⟨n4,d4⟩:=keepD x4;exact ⟨ts.length - (i + 1),by omega,rfl,hlt,by omega,d4,F4,us,rest,en2,n4,xc.trans x4,iu.mono x4.kept,RH.mono x4,LH,NH,hrest,hout⟩
    | true =>
     rw [if_pos rfl];dsimp only at hrest;refine se.val (RH.mono x4) (λz=>by rw [z] at hrest;cases hrest) (λr er w F5 H5 x5 iw => ?_) λy z=>by rw [z] at hrest;cases hrest
     rw [er] at hrest;dsimp only at hrest
     cases hcl2:vZ mg mt me en2 (ts.drop (i + 1)) with
     | bad=>rw [hcl2] at hrest;cases hrest
     | exc y=>rw [hcl2] at hrest;cases hrest
     | ok rest2 =>
      rw [hcl2] at hrest;have hr:r.2 :: rest2=rest:=by injection hrest
      obtain ⟨n5,d5⟩:=keepD (x4.trans x5);have x15:=(xc.trans x4).trans x5;have ku:k9 F5 F5 H5 (zW H5 D (.lst (ys ++ [w]))):=jU n5 d5 (.inl ⟨_,rfl⟩)
      have xu:jE F1 H1 F5 (zW H5 D (.lst (ys ++ [w]))):=by
       refine ⟨λa o h => ?_,x15.sub,x15.new,λa f => ?_⟩
       ·rw [zd (zG h hD)];exact x15.same a o h
       ·have:a≠D:=by rintro rfl;exact n5 f
        rw [zd this];exact x15.dom a f
      have R5:v5 X.K F5 H5 τ' en2:=(RH.mono x4).mono x5;refine ⟨d5,by omega,ts.length - (i + 1),by omega,rfl,hlt,by rw [List.length_append];simp;omega,zh,F5,us ++ [r.2],rest2,en2,n5,xu,?_,⟨xu.dom,λj q h => ?_⟩,LH,NH,hcl2,by rw [<- hout,<- hr];simp⟩
      ·exact ((iu.mono (x4.trans x5).kept).append (IsAll.cons iw IsAll.nil)).mono ku
      ·obtain ⟨v',s',i'⟩:=R5.vals j q h
       exact ⟨v',s',i'.mono ku⟩
   ·have hli:i=ts.length:=by omega
    subst hli;rw [List.drop_length,vZ] at hrest;have hr:rest=[]:=by injection hrest with hrest;exact hrest.symm
    subst hr;rw [List.append_nil] at hout;subst hout;refine .inl ⟨ysp (Nat.le_refl _),?_⟩;refine ok _ rfl _ Fc H2 (x1.trans xc) ?_;unfold wu;rw [if_pos rfl];exact ⟨D,rfl,nD,j6 x1.same hD,ys,hHD,iu⟩
 ·rw [if_neg hl] at nb
  exact absurd rfl nb
end
def Kh (X:Cx)(t:TE):TE:=λσ H Q=>t σ H λv=>om X (Q v)
theorem Vl {X:Cx}{e:Expr}{t:TE}(p:PE X e t):PE X e (Kh X t):=by
 intro pins s σ H Q I h;refine jx (p pins s σ H _ I h) λu s1 q => ?_;obtain ⟨x,H1,I1,rx,q | ⟨a,o,kvs,e,h0,q⟩⟩:=q
 ·exact ⟨x,H1,I1,rx,q⟩
 ·exact ⟨x,_,gp I1 e h0,rx,q⟩
theorem u0 {K:W.Frag}{F:Addr->Prop}{H:Hp}{a:Addr}{o:Obj}{kvs:List (Key×V)}{ts:List T}(fa:F a)(e:H a=some (.frz o (.dK kvs)))(ia:IsAll K F H ts (kvs.map (·.2))):Z6 K F H (Xg a o) (xp (kvs.map (·.1)) ts):=by
 intro F2 H2 d kp i;have hlen:=eQ (kvs:=kvs) ia.len;have e2:=kp.fz _ _ fa e;have ia2:=ia.mono kp;refine ⟨λhi => ?_,λhi=>⟨kvs,e2,by omega⟩⟩;have hk:i < kvs.length:=by omega
 refine ⟨⟨kvs,kvs[i].1,kvs[i].2,e2,by simp [hk]⟩,λx H3 y => ?_⟩;obtain ⟨T0,k,v,hT,rfl,rfl,hy⟩:=y;have hx:=hy kvs e2;obtain ⟨t,ht,it⟩:=bW ia2 hx;have xa:jE F2 H2 F2 (zW H2 T0 (.tup [kV k,v])):=jE.alloc d hT;refine ⟨xa,_,ht,?_⟩;unfold Is;exact ⟨T0,_,rfl,.inl (.inl zh),IsAll.cons Xl (IsAll.cons (it.mono xa.kept) IsAll.nil)⟩
section
variable {X:Cx}{scope:Scope}{cl:List (Str×Addr)}{xs caps:List Str}{slots:List Nat}{m:ME}{mg:MG}{mt:MT}{me:ME}{g:TG}{tt:TT}{te td:TE}
theorem J5 (sd:xx X td m)(sg:YM (zi X scope cl 0 (xs ++ caps) [] [] X.s₀ X.H₀) g mg)(st:vh (zi X scope cl 0 (xs ++ caps) [] [] X.s₀ X.H₀) tt mt)(se:xx (zi X scope cl 0 (xs ++ caps) [] [] X.s₀ X.H₀) te me) :
  xx X (Kh X (dY (Xk X td) g tt te xs.length slots)) (xS (gq m) mg mt me xs.length slots):=by
 intro F H σ env Q RE nb ok exx
 have mi:∀ {r:kg RV},m env=r->gq m env=r.bind λr=>match r.2 with
   | .dct ks ts=>.ok (xp ks ts)
   | _=>.bad:=λe=>by subst e;rfl
 refine sd.val RE (λz => ?_) (λr1 e1 v1 F1 H1 x1 i1 => ?_) λx z=>exx x (by unfold xS;rw [mi z];rfl)
 ·unfold xS at nb
  rw [mi z] at nb;exact nb rfl
 obtain ⟨b,t⟩:=r1;have e1:=mi e1
 have bad:gq m env=.bad->False:=λz=>by
  unfold xS at nb;rw [z] at nb;exact nb rfl
 cases t with
 | dct ks ts =>
  have e1:gq m env=.ok (xp ks ts):=e1;unfold Is at i1;obtain ⟨a,kvs,rfl,fa,rd,rfl,ia⟩:=i1;refine ⟨a,kvs,rfl,?_⟩;have R1:=RE.mono x1
  have nx:∀ x,xS (gq m) mg mt me xs.length slots env≠.exc x:=λx z=>by
   unfold xS at z;rw [e1,bind_ok] at z
   split at z
   ·split at z<;>cases z
   ·cases z
  rcases rd with e | ⟨o,e⟩
  ·refine .inl ⟨e,λo h0 => ?_⟩
   have sw:Ke H1 (zW H1 a (.frz o (.dK kvs))):=fV e
   have dm:iD F1 (zW H1 a (.frz o (.dK kvs))):=λb f=>by
    by_cases z:b=a
    ·rw [z,zh];intro q;cases q
    ·rw [zd z];exact x1.dom b f
   have R2:v5 X.K F1 (zW H1 a (.frz o (.dK kvs))) σ env:=⟨dm,λi r h=>let ⟨v,s,iv⟩:=R1.vals i r h;⟨v,s,iv.swp sw⟩⟩
   have Y:=u0 (K:=X.K) (F:=F1) fa (zh:zW H1 a (.frz o (.dK kvs)) a=_) (ia.swp sw);refine pZ (wi:=λσ H R=>R (Xg a o) H) (F:=F1) (H:=zW H1 a (.frz o (.dK kvs))) (Q:=λv=>om X (Q v)) (λR _ k _=>k _ e1 _ F1 _ (jE.refl dm) Y) sg st se R2 nb (λr hr v F2 H2 x2 iv => ?_) (λx z=>(nx x z).elim)
   ·have ea:H2 a=some (.frz o (.dK kvs)):=x2.same a _ zh
    refine .inr ⟨a,o,kvs,ea,h0,ok r hr v F2 _ ⟨λb ob h => ?_,λb f=>x2.sub b (x1.sub b f),λb f => ?_,λb f => ?_⟩ ?_⟩
    ·have h1:=x1.same b ob h
     by_cases z:b=a
     ·subst z;rw [e] at h1;rw [zh];exact h1
     ·rw [zd z];exact x2.same b ob (by rw [zd z];exact h1)
    ·rcases x2.new b f with f | f
     ·exact x1.new b f
     ·right
      by_cases z:b=a
      ·rw [z,zh] at f;cases f
      ·rw [zd z] at f
       exact j6 x1.same f
    ·by_cases z:b=a
     ·rw [z,zh];intro q;cases q
     ·rw [zd z];exact x2.dom b f
    ·have w:=ls ea
     unfold wu at iv ⊢
     split
     ·rename_i ho
      rw [if_pos ho] at iv;obtain ⟨b,e1,nf,fr,ow⟩:=iv;refine ⟨b,e1,nf,?_,ow.swp w (by rintro rfl;exact nf (x2.sub _ fa))⟩
      by_cases z:b=a
      ·rw [z,zh] at fr;cases fr
      ·rw [zd z] at fr
       exact j6 x1.same fr
     ·rename_i ho
      rw [if_neg ho] at iv;exact iv.swp w
  ·refine .inr ⟨o,e,?_⟩
   have Y:=u0 (K:=X.K) (F:=F1) fa e ia;refine pZ (wi:=λσ H R=>R (Xg a o) H) (F:=F1) (H:=H1) (Q:=λv=>om X (Q v)) (λR _ k _=>k _ e1 _ F1 _ (jE.refl x1.dom) Y) sg st se R1 nb (λr hr v F2 H2 x2 iv => ?_) (λx z=>(nx x z).elim);refine .inl (ok r hr v F2 H2 (x1.trans x2) ?_);unfold wu at iv ⊢
   split
   ·rename_i ho
    rw [if_pos ho] at iv;obtain ⟨b,e1,nf,fr,ow⟩:=iv;exact ⟨b,e1,nf,j6 x1.same fr,ow⟩
   ·rename_i ho
    rw [if_neg ho] at iv;exact iv
 | _=>exact (bad e1).elim
end
section
variable {X:Cx}{L:Addr}{scope:Scope}{x:Str}{xs caps:List Str}{slots:List Nat}{elt o:Expr}{elts ifs:List Expr}{n:Nat}{pos tp apos cpos:Pos}{m:ME}{mg:MG}{mt:MT}{me:ME}
theorem Vm (hc:X.calm=true)(C:jH X.N X.env.scope scope x caps slots)(nd:(xs ++ caps).Nodup)(hcl:X.env.cells=cellsFrom L X.env.scope.names [])(ho:ju X o m)(hg:∀ cl C ex pn s₀ H₀,WZ (zi X scope cl C (xs ++ caps) ex pn s₀ H₀) (.Tuple elts n tp) mg)
  (ht:∀ cl C ex pn s₀ H₀,bF (zi X scope cl C (xs ++ caps) ex pn s₀ H₀) ifs mt) (he:∀ cl C ex pn s₀ H₀,ju (zi X scope cl C (xs ++ caps) ex pn s₀ H₀) elt me)
  (M:M0 X o "items" apos cpos:=by exact ⟨rfl,rfl,rfl,rfl⟩) (hs:∀ v,foldedSetIterable (.Call (.Attribute o "items" apos) [] [] cpos) X.env v=pure v:=by intro _;rfl):ju X (.ListComp elt [⟨.Tuple elts n tp,.Call (.Attribute o "items" apos) [] [] cpos,ifs,0⟩] scope pos) (xS (gq m) mg mt me xs.length slots):=by
 obtain ⟨cl,S⟩:=ld C hcl;obtain ⟨td,pd,sd⟩:=ho;obtain ⟨g,hg⟩:=QL (hg cl);obtain ⟨tt,ht⟩:=QK (ht cl);obtain ⟨te,he⟩:=QJ (he cl)
 exact ⟨_,Vl (Xq hc (S.more nd) (bV pd M) (λC ex pn s₀ H₀=>(hg C ex pn s₀ H₀).1) (λC ex pn s₀ H₀=>(ht C ex pn s₀ H₀).1) (λC ex pn s₀ H₀=>(he C ex pn s₀ H₀).1) hs),
  J5 sd (hg 0 [] [] X.s₀ X.H₀).2 (ht 0 [] [] X.s₀ X.H₀).2 (he 0 [] [] X.s₀ X.H₀).2⟩
end
end L3
namespace PySem
open Sem (wp)
open AutoSeq1 (wpAny_loadPart')
theorem gX {prog:Program}{w:World}{K:Type} [DecidableEq K] {knd:KeyKind prog w K}(r d:Addr)(kvs:List (K×Value))(ep:Nat)(hn:kvs.length<=sizeLine) :
  MeetsIn prog w (Builtin.«tuple.__new__» ⟨[.type "tuple",.ref r],[]⟩)
   (λA R s=>A.handled=none/\s.heap.IsItemsView r d/\s.heap.DictAt knd d kvs ep/\∀ (h':Heap) (tk:Nat) (as:List Addr),(∀ b o,s.heap.get? b=some o->h'.get? b=some o)->as.length=kvs.length->W.KdxG knd kvs s.heap.objs.size h' as ->
    R (.ok (.ret (.ref h'.objs.size))) { s with heap:=h'.push { cls:=.type "tuple",data:=.seq (as.map Value.ref).toArray },toks:=tk }) :=
 .of_wp λA R s h=>by
  obtain ⟨hp,g,d',tk0,os⟩:=s;obtain ⟨hh,hv,hm,h⟩:=h;have hv':=hv;obtain ⟨o,ho,hc,hd⟩:=hv';have hsub:=sub_tuple_self;have hinit:=init_tuple_lookup;have hmh:=madeHere_tuple;have hT:Shared.TypeIs ⟨hp,g,d',tk0,os⟩ (.ref r) "dict_items" := ⟨o,ho,hc⟩
  wp_walk using wpAny_loadPart' ho,wpAny_typeOf hT,W.kdx_collect (A:=A.in1) (knd:=knd) hh hv hm hn
  intro h' tk as hk hl hG;show wpAny _ _ (Builtin.Tuple.tupleExact (as.map Value.ref).toArray >>= λv=>ret v) _ _ _;unfold Builtin.Tuple.tupleExact;refine wpAny_bind (wpAny_newObj_type ?_ (by show (as.map Value.ref).toArray.size<=sizeLine;simp;omega));exact wpAny_pure ⟨_,rfl,h h' tk as hk hl hG⟩
end PySem
namespace L3
open PySem PySem.Spec PyProof.Rows L2
def Po (td:TE):TE:=λσ H Q=>td σ H λx H1=>∃ a kvs,x=.ref a/\Rd H1 a (.dK kvs)/\∀ (as:List Addr) (p:Addr) (H2:Hp),(∀ b o,H1 b=some o->H2 b=some o)->as.length=kvs.length ->
 (∀ (j:Nat) (b:Addr) (k:Key) (y:V),as[j]? = some b->kvs[j]? = some (k,y)->H2 b=some (.tup [kV k,y]))->H2 p=some (.tup (as.map V.ref))->Q (.ref p) H2
theorem Vn {fs ex:List Addr}{P:Program}{w:World}{H H':Hp}{h h':Heap}(x:gd P w H h)(k:∀ b u,h.get? b=some u->h'.get? b=some u)(hH:∀ b,b < h.objs.size->H' b=H b):Un fs ex H H' h h':=by
 have old:∀ b o,H b=some o->H' b=some o:=λb o e=>by
  rw [hH b (Nat.lt_of_not_le λz=>by rw [x.fresh z] at e;cases e)];exact e
 exact ⟨λb u q _ _ _=>k b u q,λb u q _ _ _=>⟨u.slots,k b u q⟩,λb u q n _=>by rw [hH b (Heap.lt_size q)];exact n,λb u q _=>⟨u,k b u q⟩,λb xs q=>old b _ q,λb u xs q=>old b _ q,λb ps q=>⟨#[],by rw [old b _ q];simp⟩⟩
theorem eS:∀ as:List Addr,zJ (as.map V.ref) (as.map Value.ref)
 | []=>.nil
 | _ :: as=>.cons rfl (eS as)
section
variable {X:Cx}{o:Expr}{td:TE}{p pos apos cpos:Pos}
theorem bY (hc:X.calm=true)(hg:Gl X "tuple")(hm:X.mg "tuple" = none)(ho:PE X o td)(m:M0 X o "items" apos cpos)
  (hs:starEach [.Call (.Attribute o "items" apos) [] [] cpos] X.env=[(false,eval (.Call (.Attribute o "items" apos) [] [] cpos) X.env)]:=by rfl):PE X (.Call (.Name "tuple" p) [.Call (.Attribute o "items" apos) [] [] cpos] [] pos) (Po td):=by
 intro pins s σ H Q I h;refine wpAny_Call_Name_kw (gf I hg hm vQ ?_);refine PyProof.Rows.callWith_type1 ?_ (he:=by rw [hs];rfl) (hplain:=rfl);rw [hs];show wpAny _ _ (spliced ((false,eval (.Call (.Attribute o "items" apos) [] [] cpos) X.env) :: [])) _ _ s;refine Calls.spliced_cons ?_;refine wpAny_Call_method m.base m.few m.line PySem.F.plainAttrs_dict PySem.F.slot_dict_items PySem.F.type_dict_items (jx (ho pins s σ H _ I h) λu s1 ⟨x,H1,I1,rx,a,kvs,ex,d,q1⟩ => ?_);subst ex;obtain rfl:u=Value.ref a:=rx;obtain ⟨t1,t2,_⟩:=tK I1 (.inl ⟨kvs,d⟩);refine ⟨t1,t2,?_⟩;rw [m.trees];obtain ⟨hz,hS,vs,r,dd⟩:=pI I1.hok d;refine Calls.callWith_builtin rfl (PyProof.Rows.evalArgs_none ?_);refine call_meetsIn PySem.F.slot_dict_items dd.typeIs PySem.F.entry_dict_items (PySem.F.args_dict_items_1 _) (meets_dict_items (j3 X.prog X.w) a hS) ⟨⟨vs,dd⟩,?_⟩;have I2:zk X pins σ H1 { s1 with heap:=s1.heap.push { cls:=.type "dict_items",data:=.fields #[.ref a] } }:=I1.kept (t':=s1.toks) λb ob q=>Heap.get?_push_of_some _ q;obtain ⟨ep,hat⟩:=dd.dictAt;have hlen:vs.length=kvs.length:=by rw [<- r.length]
 rw [spliced];refine wpAny_pure ?_
 refine callType_newIn PySem.F.called_tuple (by decide) (PySem.F.typeCall_tuple_1 _) (PySem.F.newCall_tuple_1 _) (λobj=>PySem.F.args_object_init_2 obj _) PySem.F.entry_tuple_new
  (gX (knd:=j3 X.prog X.w) s1.heap.objs.size a vs ep (by omega)) ⟨I2.ok.hd hc,⟨_,Heap.get?_push_size _ rfl,rfl,rfl⟩,hat.push _,λh' tk as hk hl hG=>⟨⟨_,Heap.get?_push_size _ rfl,rfl⟩,?_⟩⟩
 have n0:(s1.heap.push { cls:=.type "dict_items",data:=.fields #[.ref a] }).objs.size=s1.heap.objs.size + 1:=by simp [Heap.push]
 have hle:s1.heap.objs.size < h'.objs.size:=Heap.lt_size (hk _ _ (Heap.get?_push_size _ rfl));have keep:∀ b ob,(s1.heap.push { cls:=.type "dict_items",data:=.fields #[.ref a] }).get? b=some ob->(h'.push { cls:=.type "tuple",data:=.seq (as.map Value.ref).toArray }).get? b=some ob:=λb ob q=>Heap.get?_push_of_some _ (hk b ob q)
 have asz:∀ j b,as[j]? = some b->s1.heap.objs.size + 1<=b/\b < h'.objs.size:=λj b e=>by
  obtain ⟨key,k,x,_,_,hb⟩:=hG.pairs j b e;have this:s1.heap.objs.size + 1 < b:=Nat.lt_of_le_of_lt (Nat.le_of_eq n0.symm) (hG.above b (List.mem_of_getElem? e));exact ⟨Nat.le_of_lt this,Heap.lt_size hb⟩
 have uni:∀ i j b,as[i]? = some b->as[j]? = some b->i=j:=λi j b h1 h2=>by
  obtain ⟨l1,e1⟩:=List.getElem?_eq_some_iff.mp h1;obtain ⟨l2,e2⟩:=List.getElem?_eq_some_iff.mp h2
  rcases Nat.lt_trichotomy i j with z | z | z
  ·have:=List.pairwise_iff_getElem.mp hG.rise i j l1 l2 z
   rw [e1,e2] at this;exact absurd this (Nat.lt_irrefl _)
  ·exact z
  ·have:=List.pairwise_iff_getElem.mp hG.rise j i l2 l1 z
   rw [e1,e2] at this;exact absurd this (Nat.lt_irrefl _)
 obtain ⟨H2,hH2⟩:∃ H2:Hp,∀ b,H2 b=if b < s1.heap.objs.size + 1 then H1 b else if b=h'.objs.size then some (.tup (as.map V.ref)) else open Classical in if h:∃ q:Key×V,∃ j:Nat,as[j]? = some b/\kvs[j]? = some q then some (.tup [kV h.choose.1,h.choose.2]) else none:=⟨_,λ_=>rfl⟩
 have f0:∀ b,b < s1.heap.objs.size + 1->H2 b=H1 b:=λb z=>by rw [hH2,if_pos z]
 have f1:∀ b ob,H1 b=some ob->H2 b=some ob:=λb ob e=>by
  rw [f0 b (Nat.lt_of_not_le λz=>by rw [I2.hok.fresh (by rw [n0];exact z)] at e;cases e)];exact e
 have f2:∀ (j:Nat) (b:Addr) (k:Key) (y:V),as[j]? = some b->kvs[j]? = some (k,y)->H2 b=some (.tup [kV k,y]):=λj b k y e1 e2=>by
  have z:=asz j b e1;have hx:∃ q:Key×V,∃ j:Nat,as[j]? = some b/\kvs[j]? = some q:=⟨(k,y),j,e1,e2⟩
  have z1:¬ b < s1.heap.objs.size + 1:=Nat.not_lt.mpr z.1;have z2:¬ b=h'.objs.size:=Nat.ne_of_lt z.2;rw [hH2,if_neg z1,if_neg z2,dif_pos hx];obtain ⟨i,h1,h2⟩:=hx.choose_spec;rw [uni i j b h1 e1,e2] at h2;rw [<- Option.some.inj h2]
 have f3:H2 h'.objs.size=some (.tup (as.map V.ref)):=by rw [hH2,if_neg (Nat.not_lt.mpr hle),if_pos rfl]
 have hok:gd X.prog X.w H2 (h'.push { cls:=.type "tuple",data:=.seq (as.map Value.ref).toArray }):=λb ob e=>by
  by_cases z:b < s1.heap.objs.size + 1
  ·rw [f0 b z] at e
   exact (I2.hok b ob e).stay (λc v _ q=>keep c v q) (λc q=>f1 c _ q) λc xs q=>f1 c _ q
  ·by_cases zp:b=h'.objs.size
   ·subst zp
    rw [f3] at e;cases e;exact ⟨by rw [List.length_map];omega,as.map Value.ref,eS as,_,Heap.get?_push_size _ rfl,rfl,_,rfl⟩
   ·rw [hH2,if_neg z,if_neg zp] at e
    split at e
    ·rename_i hx
     obtain ⟨j,h1,h2⟩:=hx.choose_spec;cases e;obtain ⟨key,k,x,g1,g2,g3⟩:=hG.pairs j b h1;generalize hx.choose=q at h2;obtain ⟨k',y⟩:=q;obtain ⟨u,g4,ry⟩:=Xh r h2;rw [g1] at g4;cases g4;exact ⟨(show 2<=sizeLine by decide),[key,x],.cons (Xi g2) (.cons ry .nil),_,Heap.get?_push_of_some _ g3,rfl,_,rfl⟩
    ·cases e
 exact ⟨.ref h'.objs.size,H2,I2.un (t':=tk) (Vn I2.hok keep λb z=>f0 b (by rw [n0] at z;exact z)) hok,rfl,q1 as h'.objs.size H2 f1 (by omega) f2 f3⟩
end
theorem eT {K:W.Frag}{F:Addr->Prop}{H:Hp} : ∀ {kvs:List (Key×V)} {ts:List T} {as:List Addr},IsAll K F H ts (kvs.map (·.2))->as.length=kvs.length->(∀ (j:Nat) (b:Addr) (k:Key) (y:V),as[j]? = some b->kvs[j]? = some (k,y)->H b=some (.tup [kV k,y]))->IsAll K F H (xp (kvs.map (·.1)) ts) (as.map V.ref)
 | [],[],[],_,_,_=>IsAll.nil
 | [],_ :: _,_,ia,_,_=>by have:=ia.len;cases this
 | [],[],_ :: _,_,hl,_=>by cases hl
 | _ :: _,[],_,ia,_,_=>by have:=ia.len;cases this
 | _ :: _,_ :: _,[],_,hl,_=>by cases hl
 | (k,y) :: kvs,t :: ts,b :: as,ia,hl,h=>by
  obtain ⟨i1,i2⟩:Is K F H t y/\IsAll K F H ts (kvs.map (·.2)):=by
   unfold IsAll at ia;obtain ⟨v,r,e,h1,h2⟩:=ia;cases e;exact ⟨h1,h2⟩
  refine IsAll.cons ?_ (eT i2 (by simpa using hl) λj b k y e1 e2=>h (j + 1) b k y e1 e2);unfold Is;exact ⟨b,_,rfl,.inl (.inl (h 0 b k y rfl rfl)),IsAll.cons Xl (IsAll.cons i1 IsAll.nil)⟩
section
variable {X:Cx}{o:Expr}{md:ME}{p pos apos cpos:Pos}
theorem oy (hc:X.calm=true)(hg:Gl X "tuple")(hm:X.mg "tuple" = none)(ho:ju X o md)(m:M0 X o "items" apos cpos:=by exact ⟨rfl,rfl,rfl,rfl⟩)
  (hs:starEach [.Call (.Attribute o "items" apos) [] [] cpos] X.env=[(false,eval (.Call (.Attribute o "items" apos) [] [] cpos) X.env)]:=by rfl):ju X (.Call (.Name "tuple" p) [.Call (.Attribute o "items" apos) [] [] cpos] [] pos) (eR md):=by
 obtain ⟨td,pd,sd⟩:=ho;refine ⟨_,bY hc hg hm pd m hs,?_⟩;intro F H σ env Q R nb ok ex;unfold eR at nb ok ex;refine sd.val R (λz=>by rw [z] at nb;exact nb rfl) (λr1 e1 v1 F1 H1 x1 i1 => ?_) λx z=>ex x (by rw [z];rfl);rw [e1,bind_ok] at nb ok;obtain ⟨b,t⟩:=r1
 cases t with
 | dct ks ts =>
  unfold Is at i1;obtain ⟨a,kvs,rfl,fa,rd,rfl,ia⟩:=i1;refine ⟨a,kvs,rfl,rd,λas p H2 h1 hl h2 h3 => ?_⟩
  have x2:jE F1 H1 F1 H2:=⟨h1,λ_ f=>f,λ_ f=>.inl f,λb f=>by
   cases e:H1 b with
   | none=>exact absurd e (x1.dom b f)
   | some ob=>rw [h1 b ob e];intro z;cases z⟩
  refine ok _ rfl _ F1 H2 (x1.trans x2) ?_;unfold wu;rw [if_neg Bool.false_ne_true];unfold Is;exact ⟨p,_,rfl,.inl (.inl h3),eT (ia.mono x2.kept) hl h2⟩
 | _=>exact absurd rfl nb
end
end L3
set_option maxHeartbeats 4000000
namespace Law
open PySem L2 L3
def top (i:Nat):Stmt:=PySem.Challenge.pw_facestead_k31_what_fits_plain_kinds.main.body.getD i (.Pass ⟨0,0,0,0⟩)
abbrev Ub:Stmt:=top 0
abbrev lw:Stmt:=top 5
abbrev eU:Stmt:=top 6
abbrev bZ:Stmt:=top 7
abbrev eV:Stmt:=top 8
abbrev JH:Stmt:=top 10
abbrev JI:Stmt:=top 11
abbrev a5:Stmt:=top 12
abbrev Xt:Stmt:=top 13
abbrev eW:Stmt:=top 18
abbrev ly:Stmt:=top 19
abbrev u3:Stmt:=top 20
abbrev u4:Stmt:=top 21
abbrev eX:Stmt:=top 22
abbrev eY:Stmt:=top 23
abbrev gr:Stmt:=top 30
abbrev u5:Stmt:=top 31
abbrev ko:Stmt:=top 32
abbrev gu:Stmt:=top 33
abbrev gv:Stmt:=top 34
abbrev gw:Stmt:=top 35
abbrev nq:Stmt:=top 36
abbrev fk:Stmt:=top 37
abbrev lz:Stmt:=top 38
abbrev lA:Stmt:=top 39
abbrev eZ:Stmt:=top 40
abbrev gx:Stmt:=top 43
abbrev u6:Stmt:=top 44
abbrev kJ:Stmt:=top 45
abbrev nr:Stmt:=top 46
abbrev fm:Stmt:=top 47
abbrev fo:Stmt:=top 48
abbrev qV:Stmt:=top 49
abbrev u7:Stmt:=top 50
abbrev kK:Stmt:=top 51
abbrev lB:Stmt:=top 52
abbrev u8:Stmt:=top 53
abbrev d0:Stmt:=top 54
abbrev a8:Stmt:=zR (top 2) 0
abbrev xN:Stmt:=zR (top 24) 0
abbrev gy:Stmt:=zR (top 24) 1
abbrev Vo:Stmt:=zR (top 24) 2
abbrev u9:Stmt:=zR (top 24) 3
abbrev gz:Stmt:=zR (top 24) 4
abbrev fq:Stmt:=zR (top 24) 5
abbrev Ki:Stmt:=zR (top 24) 6
abbrev ua:Stmt:=zR (top 24) 7
abbrev nu:Stmt:=zR (top 24) 8
abbrev gA:Stmt:=zR (top 25) 0
abbrev wj:Stmt:=zR (top 26) 0
abbrev kL:Stmt:=zR (top 26) 1
abbrev Xu:Stmt:=zR (top 26) 2
abbrev gB:Stmt:=zR (top 26) 3
abbrev vt:Stmt:=zR (top 26) 4
abbrev Wg:Stmt:=zR (top 26) 5
abbrev wk:Stmt:=zR (top 27) 0
abbrev kM:Stmt:=zR (top 27) 1
abbrev Xv:Stmt:=zR (top 27) 2
abbrev qe:Stmt:=zR (top 27) 3
abbrev k0:Stmt:=zR (top 27) 4
abbrev ft:Stmt:=zR (top 27) 5
abbrev vv:Stmt:=zR (top 41) 0
abbrev Wh:Stmt:=zR (top 41) 1
abbrev gC:Stmt:=zR (top 41) 2
abbrev JJ:Stmt:=zR (top 41) 3
structure CA where
 FaceError:Addr
 NoFace:Addr
 Kind:Addr
 Bare:Addr
 Record:Addr
 Choice:Addr
 Face:Addr
 memo:List Str->Mo
theorem a9:z7 ["value"] ["value"] (z6 lw):=z7.of
def oz:MS:=(zq (jk (zE pW (z3 (mV 0) (z3 (mC (.ty "int")) z5))) (qQ (zE pW (z3 (mV 0) (z3 (mC (.ty "bool")) z5))))))
def v9:MF:=zy 1 1 oz
theorem oA:z7 ["value"] ["value"] (z6 eU):=z7.of
def J6:MS:=(zq (zE pW (z3 (mV 0) (z3 (mC (.ty "str")) z5))))
def vM:MF:=zy 1 1 J6
theorem J7:z7 ["value"] ["value"] (z6 bZ):=z7.of
def Xw:MS:=(zq (jk (zE pW (z3 (mV 0) (z3 (mC (.ty "tuple")) z5))) (m2 zO (m2 zo (mV 0) (mC (.int 0))) (mC (.str "rec")))))
def Xx:MF:=zy 1 1 Xw
theorem oB:z7 ["value"] ["value"] (z6 eV):=z7.of
def J8:MS:=(zq (jk (zE pW (z3 (mV 0) (z3 (mC (.ty "tuple")) z5))) (m2 zO (m2 zo (mV 0) (mC (.int 0))) (mC (.str "form")))))
def J9:MF:=zy 1 1 J8
theorem iM:z7 ["self","name"] ["self","name"] (z6 u9):=z7.of
def dZ (c:CA):MS:=(zq (mC .non))
def c0 (c:CA):MF:=zy 2 2 (dZ c)
theorem lC:z7 ["self"] ["self"] (z6 fq):=z7.of
def iN (c:CA):MS:=(zq (jS z5))
def iO (c:CA):MF:=zy 1 1 (iN c)
theorem qW:z7 ["self","name","part"] ["self","name"] (z6 gB):=z7.of
def lD (c:CA):MS:=(ze (v6 (WX (iL [c.Record,c.Choice] "parts" (mV 0))) (gN 2)
  (xi (jr (m2 zO (m2 zo (mV 2) (mC (.int 0))) (mV 1)))
  (zq (qR (mV 2) (zC (mC (.int 1))) xh)) zw))
  (zq (mC .non)))
def lF (c:CA):MF:=zy 3 2 (lD c)
theorem uK:z7 ["self"] ["self"] (z6 vt):=z7.of
def nJ (c:CA):MS:=(zq (jf (xQ (iL [c.Record,c.Choice] "parts" (mV 0))) jt (m2 zo (mV 0) (mC (.int 0))) []))
def nK (c:CA):MF:=zy 1 1 (nJ c)
theorem kq:z7 ["self","form","part"] ["self","form"] (z6 qe):=z7.of
def uL (c:CA):MS:=(ze (v6 (WX (iL [c.Record,c.Choice] "parts" (mV 0))) (gN 2)
  (xi (jr (m2 zO (m2 zo (mV 2) (mC (.int 0))) (mV 1)))
  (zq (m2 zo (mV 2) (mC (.int 1)))) zw))
  (zq (mC .non)))
def uM (c:CA):MF:=zy 3 2 (uL c)
theorem lG:z7 ["self"] ["self"] (z6 ft):=z7.of
def iP (c:CA):MS:=(zq (iL [c.Choice] "closed" (mV 0)))
def iQ (c:CA):MF:=zy 1 1 (iP c)
theorem nL:z7 ["self","form"] ["self","form"] (z6 gz):=z7.of
def lH (c:CA):MS:=(zq (mC .non))
def lI (c:CA):MF:=zy 2 2 (lH c)
theorem c5:z7 ["self"] ["self"] (z6 nu):=z7.of
def aa (c:CA):MS:=(zq (mC (.bl false)))
def ab (c:CA):MF:=zy 1 1 (aa c)
theorem c6:z7 ["self"] ["self"] (z6 gA):=z7.of
def ac (c:CA):MS:=(zq (mC (.str "bare")))
def kr (c:CA):MF:=zy 1 1 (ac c)
theorem lJ:z7 ["self"] ["self"] (z6 kM):=z7.of
def iR (c:CA):MS:=(zq (mC (.str "choice")))
def vc (c:CA):MF:=zy 1 1 (iR c)
theorem fW:z7 ["text","start","signs","end"] ["text","start","signs"] (z6 eW):=z7.of
def Ja:MS:=(ze (zn 3 (mV 1))
  (ze (zU (xU (jr (m2 ga (mV 3) (zE vY (z3 (mV 0) z5)))) (jr (m2 pN (m2 zo (mV 0) (mV 3)) (mV 2))))
  (iH 3 pP (mC (.int 1))) 100000)
  (wx 3)))
def gT:MF:=zy 4 3 Ja
theorem nv:z7 ["text","start","end"] ["text","start"] (z6 ly):=z7.of
def oC:MS:=(ze (zn 2 (za gT (z3 (mV 0) (z3 (mV 1) (z3 (mC (.str "abcdefghijklmnopqrstuvwxyz")) z5)))))
  (zq (fI (jr (m2 Yv (m2 dG (mV 2) (mV 1)) (mC (.int 12)))) (mV 2) (mV 1))))
def jM:MF:=zy 3 2 oC
theorem oE:z7 ["text"] ["text"] (z6 eX):=z7.of
def Jb:MS:=(zq (jk (m2 uC (mV 0) (mC (.str ""))) (m2 zO (za jM (z3 (mV 0) (z3 (mC (.int 0)) z5))) (zE vY (z3 (mV 0) z5)))))
def jX:MF:=zy 1 1 Jb
theorem c9:z7 ["names"] ["names"] (z6 gr):=z7.of
def gD:MS:=(zq (jk (zE dN (z3 (jf (xQ (mV 0)) jt (za jX (z3 (mV 0) z5)) []) z5)) (m2 zO (pU (mV 0)) (zE vY (z3 (mV 0) z5)))))
def jJ:MF:=zy 1 1 gD
theorem fu:z7 ["text","start","end"] ["text","start"] (z6 u3):=z7.of
def ca:MS:=(ze (zn 2 (za gT (z3 (mV 0) (z3 (m2 zr (mV 1) (mC (.int 1))) (z3 (mC (.str "0123456789")) z5)))))
  (zq (fI (jr (m2 pK (mV 2) (m2 zr (mV 1) (mC (.int 1))))) (mV 2) (mV 1))))
def wm:MF:=zy 3 2 ca
theorem vd:z7 ["text","start","end","behind"] ["text","start"] (z6 u4):=z7.of
def cb:MS:=(ze (zn 2 (mV 1))
  (ze (zU (jr (m2 zO (qR (mV 0) (zC (mV 2)) (zC (m2 zr (mV 2) (mC (.int 1))))) (mC (.str "."))))
  (ze (zn 3 (za jM (z3 (mV 0) (z3 (m2 zr (mV 2) (mC (.int 1))) z5))))
  (ze (xi (jr (m2 zO (mV 3) (m2 zr (mV 2) (mC (.int 1)))))
  (wx 2) zw)
  (zn 2 (mV 3)))) 100000)
  (wx 2)))
def jN:MF:=zy 4 2 cb
theorem xq:z7 ["text","awaited","at","end"] ["text"] (z6 eY):=z7.of
def Jc:MS:=(ze (zn 1 (jS z5))
  (ze (zn 2 (mC (.int 0)))
  (zU (ka (mC (.bl true)))
  (ze (zU (jr (m2 zO (qR (mV 0) (zC (mV 2)) (zC (m2 zr (mV 2) (mC (.int 1))))) (mC (.str "("))))
  (ze (gb 1 (mC (.str "&")))
  (iH 2 pP (mC (.int 1)))) 100000)
  (ze (zn 3 (fI (jr (m2 zO (qR (mV 0) (zC (mV 2)) (zC (m2 zr (mV 2) (mC (.int 1))))) (mC (.str "#")))) (za wm (z3 (mV 0) (z3 (mV 2) z5))) (za jM (z3 (mV 0) (z3 (mV 2) z5)))))
  (ze (xi (jr (m2 zO (mV 3) (mV 2)))
  (zq (mC (.bl false))) zw)
  (ze (zn 2 (za jN (z3 (mV 0) (z3 (mV 3) z5))))
  (ze (zU (xU (ka (mV 1)) (xU (jr (m2 zO (m2 zo (mV 1) (mQ (mC (.int 1)))) (mC (.str ")")))) (jr (m2 zO (qR (mV 0) (zC (mV 2)) (zC (m2 zr (mV 2) (mC (.int 1))))) (mC (.str ")"))))))
  (ze (mS 1)
  (zn 2 (za jN (z3 (mV 0) (z3 (m2 zr (mV 2) (mC (.int 1))) z5))))) 100000)
  (ze (xi (jR (ka (mV 1)))
  (zq (m2 zO (mV 2) (zE vY (z3 (mV 0) z5)))) zw)
  (ze (xi (kb (jr (m2 uC (m2 zo (mV 1) (mQ (mC (.int 1)))) (mC (.str "&")))) (jr (m2 uC (qR (mV 0) (zC (mV 2)) (zC (m2 zr (mV 2) (mC (.int 1))))) (mC (.str "&")))))
  (zq (mC (.bl false))) zw)
  (ze (wd 1 (mQ (mC (.int 1))) (mC (.str ")")))
  (iH 2 pP (mC (.int 1))))))))))) 100000)))
def m_is_kind:MF:=zy 4 1 Jc
theorem iS:z7 ["looked","text"] ["looked","text"] (z6 u5):=z7.of
def ja (c:CA):MF:=eP c.memo m_is_kind
theorem ce:z7 ["looked","parts"] ["looked","parts"] (z6 ko):=z7.of
def gE (c:CA):MS:=(zq (jk (za jJ (z3 (jf (xQ (mV 1)) jt (m2 zo (mV 0) (mC (.int 0))) []) z5)) (zE dN (z3 (jf (xQ (mV 1)) jt (za (ja c) (z3 (mV 1) (z3 (m2 zo (mV 0) (mC (.int 1))) z5))) [0]) z5))))
def jz (c:CA):MF:=zy 2 2 (gE c)
theorem nM:z7 ["looked","title","made"] ["looked","title","made"] (z6 gu):=z7.of
def gF (c:CA):MS:=(ze (xi (kb (jr (m2 pN (mV 1) (mC (.tup (List.map T.str ["num","word"]))))) (jR (ka (za (ja c) (z3 (mV 0) (z3 (mV 1) z5))))))
  (zq (mC (.bl false))) zw)
  (zq (iG (za jX (z3 (mV 1) z5)) (qQ (mV 2)))))
def jI (c:CA):MF:=zy 3 3 (gF c)
theorem cg:z7 ["looked","title","made","forms"] ["looked","title","made","forms"] (z6 nq):=z7.of
def ae (c:CA):MS:=(zq (jk (za (jI c) (z3 (mV 0) (z3 (mV 1) (z3 (mV 2) z5)))) (za (jz c) (z3 (mV 0) (z3 (mV 3) z5)))))
def xY (c:CA):MF:=zy 4 4 (ae c)
theorem lK:z7 ["looked","name","plain","places","back","faults"] ["looked","name","plain","places","back","faults"] (z6 fk):=z7.of
def iU (c:CA):MS:=(ze (xi (kb (jR (ka (za jX (z3 (mV 1) z5)))) (jR (ka (za (ja c) (z3 (mV 0) (z3 (mV 4) z5))))))
  (zq (mC (.bl false))) zw)
  (ze (xi (kb (jr (m2 ga (mV 2) (mC (.int 0)))) (jr (m2 pK (mV 2) (zE vY (z3 (mV 3) z5)))))
  (zq (mC (.bl false))) zw)
  (zq (jk (za (jz c) (z3 (mV 0) (z3 (mV 3) z5))) (za jJ (z3 (mV 5) z5))))))
def jY (c:CA):MF:=zy 6 6 (iU c)
theorem nN:z7 ["made","due","sure"] ["made","due","sure"] (z6 gv):=z7.of
def gG:MS:=(ze (xi (ka (mV 0))
  (zq (iG (mV 1) (qQ (mV 2)))) zw)
  (zq (qQ (mV 1))))
def xr:MF:=zy 3 3 gG
theorem ck:z7 ["looked","title","made","fields"] ["looked","title","made","fields"] (z6 gw):=z7.of
def af (c:CA):MS:=(ze (xi (kb (jR (ka (za (jI c) (z3 (mV 0) (z3 (mV 1) (z3 (mV 2) z5)))))) (jR (ka (za (jz c) (z3 (mV 0) (z3 (mV 3) z5))))))
  (zq (mC (.bl false))) zw)
  (zq (zE dN (z3 (jf (xQ (mV 3)) jt (za xr (z3 (mV 1) (z3 (m2 zo (mV 0) (mC (.int 2))) (z3 (m2 zo (mV 0) (mC (.int 3))) z5)))) [2]) z5))))
def xZ (c:CA):MF:=zy 4 4 (af c)
theorem ag:z7 ["looked","piece"] ["looked","piece"] (z6 lz):=z7.of
def oF (c:CA):MS:=(ze (xi (jr (m2 zO (m2 zo (mV 1) (mC (.int 0))) (mC (.str "record"))))
  (zq (za (xZ c) (z3 (mV 0) (z3 (m2 zo (mV 1) (mC (.int 1))) (z3 (m2 zo (mV 1) (mC (.int 2))) (z3 (m2 zo (mV 1) (mC (.int 3))) z5)))))) zw)
  (ze (xi (jr (m2 zO (m2 zo (mV 1) (mC (.int 0))) (mC (.str "choice"))))
  (zq (za (xY c) (z3 (mV 0) (z3 (m2 zo (mV 1) (mC (.int 1))) (z3 (m2 zo (mV 1) (mC (.int 2))) (z3 (m2 zo (mV 1) (mC (.int 4))) z5)))))) zw)
  (zq (za (jY c) (z3 (mV 0) (z3 (m2 zo (mV 1) (mC (.int 1))) (z3 (m2 zo (mV 1) (mC (.int 2))) (z3 (m2 zo (mV 1) (mC (.int 3))) (z3 (m2 zo (mV 1) (mC (.int 4))) (z3 (m2 zo (mV 1) (mC (.int 5))) z5))))))))))
def xT (c:CA):MF:=zy 2 2 (oF c)
theorem ah:z7 ["parts"] ["parts"] (z6 lA):=z7.of
def fX:MS:=(zq (zE kH (z3 (zE gR (z3 (mV 0) z5)) z5)))
def jA:MF:=zy 1 1 fX
theorem fY:z7 ["piece","plain","places"] ["piece"] (z6 eZ):=z7.of
def qf:MS:=(ze (xi (jr (m2 zO (m2 zo (mV 0) (mC (.int 0))) (mC (.str "record"))))
  (zq (m2 zr (qR (mV 0) xh (zC (mC (.int 3)))) (zP (z3 (za jA (z3 (m2 zo (mV 0) (mC (.int 3))) z5)) z5)))) zw)
  (ze (xi (jr (m2 zO (m2 zo (mV 0) (mC (.int 0))) (mC (.str "choice"))))
  (zq (m2 zr (qR (mV 0) xh (zC (mC (.int 4)))) (zP (z3 (za jA (z3 (m2 zo (mV 0) (mC (.int 4))) z5)) z5)))) zw)
  (ze (zn 1 (m2 zo (mV 0) (mC (.int 2))))
  (ze (zn 2 (m2 zr (qR (m2 zo (mV 0) (mC (.int 3))) xh (zC (mV 1))) (za jA (z3 (qR (m2 zo (mV 0) (mC (.int 3))) (zC (mV 1)) xh) z5))))
  (zq (m2 zr (qR (mV 0) xh (zC (mC (.int 3)))) (zP (z3 (mV 2) (z3 (m2 zo (mV 0) (mC (.int 4))) (z3 (za jA (z3 (m2 zo (mV 0) (mC (.int 5))) z5)) z5))))))))))
def jZ:MF:=zy 3 1 qf
theorem qg:z7 ["self","pieces","looked","at","piece","told"] ["self","pieces"] (z6 vv):=z7.of
def jw (c:CA):MN:=xn c.memo c.Face "told_kinds" "told_functions" (jr (m2 zO (m2 zo (mV 4) (mC (.int 0))) (mC (.str "function")))) (kb (jr (m2 pN (m2 zo (mV 4) (mC (.int 1))) (mV 5))) (jR (ka (za (xT c) (z3 (mV 2) (z3 (mV 4) z5)))))) (m2 zo (mV 4) (mC (.int 1))) (za jZ (z3 (mV 4) z5))
theorem qh:z7 ["self","title"] ["self","title"] (z6 xN):=z7.of
def qX (c:CA)(C:Addr):MN:=uJ C 2 [("title",1)]
theorem fZ:z7 ["self","title","made","parts"] ["self","title","made","parts"] (z6 wj):=z7.of
def kx (c:CA)(C:Addr):MN:=uJ C 4 [("title",1),("made",2),("parts",3)]
theorem p0:z7 ["self","title","made","closed","parts"] ["self","title","made","closed","parts"] (z6 wk):=z7.of
def ky (c:CA)(C:Addr):MN:=uJ C 5 [("title",1),("made",2),("closed",3),("parts",4)]
theorem ub:z7 ["self","title","piece"] ["self","title"] (z6 gC):=z7.of
def nw (c:CA):MS:=(ze (zn 2 (bP (iL [c.Face] "told_kinds" (mV 0)) (mV 1)))
  (ze (xi (jr (m2 Xr (mV 2) (mC .non)))
  (zq (km c.Bare (qX c c.Bare) (z3 (mV 1) z5))) zw)
  (ze (xi (jr (m2 zO (m2 zo (mV 2) (mC (.int 0))) (mC (.str "record"))))
  (zq (km c.Record (kx c c.Record) (z3 (mV 1) (z3 (m2 zo (mV 2) (mC (.int 2))) (z3 (m2 zo (mV 2) (mC (.int 3))) z5))))) zw)
  (zq (km c.Choice (ky c c.Choice) (z3 (mV 1) (z3 (m2 zo (mV 2) (mC (.int 2))) (z3 (m2 zo (mV 2) (mC (.int 3))) (z3 (m2 zo (mV 2) (mC (.int 4))) z5)))))))))
def vq (c:CA):MF:=zy 3 2 (nw c)
theorem cm:z7 ["self"] ["self"] (z6 gy):=z7.of
def ai (c:CA):MS:=(zq (mC (.str "kind")))
def kA (c:CA):MF:=zy 1 1 (ai c)
theorem lL:z7 ["self"] ["self"] (z6 kL):=z7.of
def iV (c:CA):MS:=(zq (mC (.str "record")))
def ve (c:CA):MF:=zy 1 1 (iV c)
theorem d3:z7 ["face","title","value","kind"] ["face","title","value"] (z6 a5):=z7.of
def uc (c:CA):MS:=(ze (xi (jr (m2 zO (mV 1) (mC (.str "num"))))
  (zq (fI (ka (za v9 (z3 (mV 2) z5))) (jS z5) (mC .non))) zw)
  (ze (xi (jr (m2 zO (mV 1) (mC (.str "word"))))
  (zq (fI (ka (za vM (z3 (mV 2) z5))) (jS z5) (mC .non))) zw)
  (ze (zn 3 (qU c.Face "kind" (vq c) (mV 0) (z3 (mV 1) z5)))
  (ze (xi (jr (m2 zO (d4 c.Kind c.Bare c.Record c.Choice "word" (kA c) (kr c) (ve c) (vc c) (mV 3) z5) (mC (.str "record"))))
  Qr zw)
  (ze (xi (jr (m2 zO (d4 c.Kind c.Bare c.Record c.Choice "word" (kA c) (kr c) (ve c) (vc c) (mV 3) z5) (mC (.str "choice"))))
  Qr zw)
  (zq (jS z5)))))))
def wn (c:CA):MF:=zy 4 3 (uc c)
theorem m3:z7 ["face","kind","value","waiting","one","more"] ["face","kind","value"] (z6 Xt):=z7.of
def lM (c:CA):MS:=(ze (zn 3 (jS (z3 (zP (z3 (mV 1) (z3 (mV 2) z5))) z5)))
  (ze (zU (ka (mV 3))
  (ze (bX 3 4)
  (ze (zn 5 (za (wn c) (z3 (mV 0) (z3 (m2 zo (mV 4) (mC (.int 0))) (z3 (m2 zo (mV 4) (mC (.int 1))) z5)))))
  (ze (xi (jr (m2 Xr (mV 5) (mC .non)))
  (zq (mC (.bl false))) zw)
  (Z7 3 5)))) 100000)
  (zq (mC (.bl true)))))
def qE (c:CA):MF:=zy 6 3 (lM c)
theorem nO:z7 ["_law_script","_law_k"] ["_law_script","_law_k"] (z6 gx):=z7.of
def k5:MS:=(ze (xi (jr (m2 ga (mV 1) (zE vY (z3 (mV 0) z5))))
  (zq (m2 zo (mV 0) (mV 1))) zw)
  (zq (mC (.int 0))))
def jq:MF:=zy 2 2 k5
theorem fv:z7 ["_law_cell","_law_k","_law_number"] ["_law_cell","_law_k"] (z6 u6):=z7.of
def ud:MS:=(ze (zn 2 (m2 zS (m2 iF (m2 zr (m2 zr (mV 0) (m2 iF (mC (.int 7919)) (mV 1))) (mC (.int 1))) (mC (.int 48271))) (mC (.int 2147483647))))
  (zq (m2 zS (m2 iF (mV 2) (m2 zr (m2 jL (mV 2) (mC (.int 1009))) (mC (.int 69621)))) (mC (.int 2147483647)))))
def zI:MF:=zy 3 2 ud
theorem xv:z7 ["_law_cell","_law_x","_law_head","_law_tail","_law_found"] ["_law_cell"] (z6 kJ):=z7.of
def kN:MS:=(ze (zn 1 (za zI (z3 (mV 0) (z3 (mC (.int 0)) z5))))
  (ze (zn 2 (m2 zo (jS (z3 (mC (.str "")) (z3 (mC (.str "a")) (z3 (mC (.str "zz")) (z3 (mC (.str "mor")) z5))))) (m2 zS (mV 1) (mC (.int 4)))))
  (ze (zn 3 (m2 zo (jS (z3 (mC (.str "")) (z3 (mC (.str "b")) (z3 (mC (.str "xy")) (z3 (mC (.str "k")) z5))))) (m2 zS (m2 jL (mV 1) (mC (.int 4))) (mC (.int 4)))))
  (ze (zn 4 (jf (xQ (mC (.str "cdefg"))) jt (m2 zr (m2 zr (mV 2) (mV 0)) (mV 1)) [3,2]))
  (ze (xi (jr (m2 zO (m2 zS (m2 jL (mV 1) (mC (.int 16))) (mC (.int 3))) (mC (.int 0))))
  (wd 4 (mC (.int 3)) (m2 zr (mC (.str "#")) (zE bC (z3 (m2 zS (m2 jL (mV 1) (mC (.int 48))) (mC (.int 100))) z5)))) zw)
  (ze (xi (jr (m2 zO (m2 zS (m2 jL (mV 1) (mC (.int 16))) (mC (.int 3))) (mC (.int 1))))
  (wd 4 (mC (.int 3)) (m2 zr (m2 zr (mC (.str "(")) (m2 zo (mV 4) (mC (.int 0)))) (mC (.str "&word)")))) zw)
  (wx 4)))))))
def xK:MF:=zy 5 1 kN
theorem cn:z7 ["_law_titles_here","_law_x"] ["_law_titles_here","_law_x"] (z6 nr):=z7.of
def ny:MS:=(zq (m2 zo (m2 zr (jS (z3 (mC (.str "num")) (z3 (mC (.str "word")) z5))) (mV 0)) (m2 zS (mV 1) (m2 zr (mC (.int 2)) (zE vY (z3 (mV 0) z5))))))
def jl:MF:=zy 2 2 ny
theorem jc:z7 ["_law_titles_here","_law_at","_law_cell","_law_x","_law_made","_law_fields","_law_k","_law_y","_law_due","_law_sure"] ["_law_titles_here","_law_at","_law_cell"] (z6 fm):=z7.of
def kO:MS:=(ze (zn 3 (za zI (z3 (mV 2) (z3 (mC (.int 1)) z5))))
  (ze (zn 4 (jk (m2 pK (m2 zS (mV 3) (mC (.int 3))) (mC (.int 0))) (m2 qO (m2 zo (m2 zo (mV 0) (mV 1)) (mC (.int 0))) (mC (.str "#(")))))
  (ze (zn 5 vD)
  (ze (v6 (xV (z3 (m2 zS (m2 jL (mV 3) (mC (.int 3))) (mC (.int 4))) z5)) (gN 6)
  (ze (zn 7 (za zI (z3 (mV 2) (z3 (m2 zr (mC (.int 2)) (mV 6)) z5))))
  (ze (zn 8 (jk (mV 4) (m2 zO (m2 zS (mV 7) (mC (.int 2))) (mC (.int 1)))))
  (ze (zn 9 (jk (m2 pK (m2 zS (m2 jL (mV 7) (mC (.int 2))) (mC (.int 3))) (mC (.int 0))) (iG (mV 8) (qQ (mV 4)))))
  (vn 5 (m2 zo (jS (z3 (mC (.str "left")) (z3 (mC (.str "q")) (z3 (mC (.str "zeal")) z5)))) (mV 6)) (zP (z3 (za jl (z3 (mV 0) (z3 (m2 jL (mV 7) (mC (.int 6))) z5))) (z3 (mV 8) (z3 (mV 9) z5)))))))))
  (zq (zP (z3 (mV 4) (z3 (mV 5) z5))))))))
def x8:MF:=zy 10 3 kO
theorem wo:z7 ["_law_titles_here","_law_at","_law_cell","_law_x","_law_forms","_law_k"] ["_law_titles_here","_law_at","_law_cell"] (z6 fo):=z7.of
def kP:MS:=(ze (zn 3 (za zI (z3 (mV 2) (z3 (mC (.int 1)) z5))))
  (ze (zn 4 vD)
  (ze (v6 (xV (z3 (m2 zS (m2 jL (mV 3) (mC (.int 6))) (mC (.int 4))) z5)) (gN 5)
  (vn 4 (m2 zo (jS (z3 (mC (.str "no")) (z3 (mC (.str "okay")) (z3 (mC (.str "z")) z5)))) (mV 5)) (za jl (z3 (mV 0) (z3 (za zI (z3 (mV 2) (z3 (m2 zr (mC (.int 2)) (mV 5)) z5))) z5)))))
  (zq (zP (z3 (jk (m2 pK (m2 zS (mV 3) (mC (.int 3))) (mC (.int 0))) (m2 qO (m2 zo (m2 zo (mV 0) (mV 1)) (mC (.int 0))) (mC (.str "#(")))) (z3 (m2 zO (m2 zS (m2 jL (mV 3) (mC (.int 3))) (mC (.int 2))) (mC (.int 0))) (z3 (mV 4) z5))))))))
def x9:MF:=zy 6 3 kP
theorem jn:z7 ["_law_titles_here","_law_cell","_law_x","_law_places","_law_k","_law_y","_law_faults"] ["_law_titles_here","_law_cell"] (z6 qV):=z7.of
def vw:MS:=(ze (zn 2 (za zI (z3 (mV 1) (z3 (mC (.int 1)) z5))))
  (ze (zn 3 (jS z5))
  (ze (v6 (xV (z3 (m2 zS (mV 2) (mC (.int 4))) z5)) (gN 4)
  (ze (zn 5 (za zI (z3 (mV 1) (z3 (m2 zr (mC (.int 2)) (mV 4)) z5))))
  (gb 3 (zP (z3 (m2 zo (jS (z3 (mC (.str "at")) (z3 (mC (.str "by")) (z3 (mC (.str "of")) z5)))) (m2 zS (m2 zr (mV 4) (m2 jL (mV 2) (mC (.int 4)))) (mC (.int 3)))) (z3 (za jl (z3 (mV 0) (z3 (mV 5) z5))) (z3 (m2 zO (m2 zS (m2 jL (mV 5) (mC (.int 8))) (mC (.int 3))) (mC (.int 0))) z5)))))))
  (ze (zn 6 (qR (jS (z3 (mC (.str "gone")) (z3 (mC (.str "late")) z5))) (zC (m2 zS (m2 jL (mV 2) (mC (.int 12))) (mC (.int 3)))) xh))
  (zq (zP (z3 (m2 zS (m2 jL (mV 2) (mC (.int 36))) (m2 zr (zE vY (z3 (mV 3) z5)) (mC (.int 1)))) (z3 (mV 3) (z3 (za jl (z3 (mV 0) (z3 (m2 jL (mV 2) (mC (.int 144))) z5))) (z3 (mV 6) z5))))))))))
def jW:MF:=zy 7 2 vw
theorem jm:z7 ["_law_cell","_law_titles_here","_law_records","_law_choices","_law_functions","_law_k","_law_x"] ["_law_cell"] (z6 u7):=z7.of
def qF:MS:=(ze (Go 1 (zn 1 (za xK (z3 (mV 0) z5))))
  (ze (zn 2 vD)
  (ze (zn 3 vD)
  (ze (zn 4 vD)
  (ze (v6 (xV (z3 (mC (.int 4)) z5)) (gN 5)
  (ze (zn 6 (za zI (z3 (mV 0) (z3 (m2 zr (mC (.int 3)) (mV 5)) z5))))
  (xi (jr (m2 ga (m2 zS (mV 6) (mC (.int 5))) (mC (.int 2))))
  (vn 2 (m2 zo (mV 1) (mV 5)) (za x8 (z3 (mV 1) (z3 (mV 5) (z3 (mV 6) z5))))) (xi (jr (m2 ga (m2 zS (mV 6) (mC (.int 5))) (mC (.int 4))))
  (vn 3 (m2 zo (mV 1) (mV 5)) (za x9 (z3 (mV 1) (z3 (mV 5) (z3 (mV 6) z5))))) zw))))
  (ze (v6 (xV (z3 (m2 zS (za zI (z3 (mV 0) (z3 (mC (.int 7)) z5))) (mC (.int 4))) z5)) (gN 5)
  (vn 4 (m2 zo (jS (z3 (mC (.str "ask")) (z3 (mC (.str "give")) (z3 (mC (.str "take")) z5)))) (mV 5)) (za jW (z3 (mV 1) (z3 (za zI (z3 (mV 0) (z3 (m2 zr (mC (.int 8)) (mV 5)) z5))) z5)))))
  (zq (zP (z3 (mV 1) (z3 (mV 2) (z3 (mV 3) (z3 (mV 4) z5))))))))))))
def vG:MF:=zy 7 1 qF
theorem zL:z7 ["_law_world_here","_law_titles_here","_law_records","_law_choices","_law_functions","_law_found","_law_title","_law_part","_law_name"] ["_law_world_here"] (z6 kK):=z7.of
def kQ:MS:=(ze (Z2 (mV 0) (cS 4 (qT (gN 1) (qT (gN 2) (qT (gN 3) (qT (gN 4) cR))))))
  (ze (zn 5 (jS z5))
  (ze (fj (mV 2) (cS 2 (qT (gN 6) (qT (gN 7) cR)))
  (gb 5 (zP (z3 (mC (.str "record")) (z3 (mV 6) (z3 (m2 zo (mV 7) (mC (.int 0))) (z3 (zE kH (z3 (xS (gq (m2 zo (mV 7) (mC (.int 1)))) (cS 2 (qT (gN 0) (qT (gN 1) cR))) jt (m2 zr (zP (z3 (mV 0) z5)) (mV 1)) 2 []) z5)) z5)))))))
  (ze (fj (mV 3) (cS 2 (qT (gN 6) (qT (gN 7) cR)))
  (gb 5 (zP (z3 (mC (.str "choice")) (z3 (mV 6) (z3 (m2 zo (mV 7) (mC (.int 0))) (z3 (m2 zo (mV 7) (mC (.int 1))) (z3 (eR (m2 zo (mV 7) (mC (.int 2)))) z5))))))))
  (ze (fj (mV 4) (cS 2 (qT (gN 8) (qT (gN 7) cR)))
  (gb 5 (zP (z3 (mC (.str "function")) (z3 (mV 8) (z3 (m2 zo (mV 7) (mC (.int 0))) (z3 (zE kH (z3 (m2 zo (mV 7) (mC (.int 1))) z5)) (z3 (m2 zo (mV 7) (mC (.int 2))) (z3 (zE kH (z3 (m2 zo (mV 7) (mC (.int 3))) z5)) z5)))))))))
  (wx 5))))))
def xb:MF:=zy 9 1 kQ
theorem kB:z7 ["_law_cell","_law_number","_law_text","_law_some"] ["_law_cell"] (z6 lB):=z7.of
def pf:MS:=(ze (zn 1 (m2 dG (m2 zS (m2 jL (mV 0) (mC (.int 9))) (m2 iF (mC (.int 2)) (m2 ox (mC (.int 10)) (mC (.int 40))))) (m2 ox (mC (.int 10)) (mC (.int 40)))))
  (ze (zn 2 (m2 zr (m2 zo (jS (z3 (mC (.str "")) (z3 (mC (.str "num")) (z3 (mC (.str "a b")) (z3 (mC (.str "rec")) z5))))) (m2 zS (m2 jL (mV 0) (mC (.int 9))) (mC (.int 4)))) (zE bC (z3 (m2 zS (m2 jL (mV 0) (mC (.int 36))) (mC (.int 1000))) z5))))
  (ze (xi (jr (m2 ga (m2 zS (mV 0) (mC (.int 9))) (mC (.int 2))))
  (wx 1) zw)
  (ze (xi (jr (m2 ga (m2 zS (mV 0) (mC (.int 9))) (mC (.int 4))))
  (wx 2) zw)
  (ze (zn 3 (jS (z3 (zP (z3 (mC (.str "rec")) (z3 (zP z5) z5))) (z3 (zP (z3 (mC (.str "rec")) (z3 (zP (z3 (zP (z3 (mC (.str "a")) (z3 (mV 1) z5))) z5)) z5))) (z3 (zP (z3 (mC (.str "rec")) (z3 (zP (z3 (zP (z3 (mC (.str "num")) (z3 (mV 2) z5))) (z3 (zP (z3 (mC (.str "word")) (z3 (zP (z3 (mC (.str "rec")) (z3 (zP z5) z5))) z5))) z5))) z5))) z5)))))
  (zq (m2 zo (m2 zr (mV 3) (jS (z3 (zP (z3 (mC (.str "form")) (z3 (mC (.str "a")) (z3 (mV 1) z5)))) (z3 (zP (z3 (mC (.str "form")) (z3 (mC (.str "num")) (z3 (zP (z3 (mC (.str "form")) (z3 (mC (.str "z")) (z3 (mV 2) z5)))) z5)))) z5)))) (m2 dG (m2 zS (mV 0) (mC (.int 9))) (mC (.int 4))))))))))
def k6:MF:=zy 4 1 pf
theorem iW:z7 ["_law_found","_law_due"] ["_law_found","_law_due"] (z6 u8):=z7.of
def cp:MS:=(zq (jk (zE pW (z3 (mV 0) (z3 (mC (.ty "bool")) z5))) (m2 zO (mV 0) (mV 1))))
def xB:MF:=zy 2 2 cp
theorem kR:z7 ["_law_script","_law_world_here","_law_face","_law_bare","_law_cell","_law_value","_law_number","_law_text","_law_title"] ["_law_script"] (z6 d0):=z7.of
def Xy (c:CA):MS:=(ze (zn 1 (za vG (z3 (za jq (z3 (mV 0) (z3 (mC (.int 0)) z5))) z5)))
  (ze (zn 2 (km c.Face (jw c) (z3 (za xb (z3 (mV 1) z5)) z5)))
  (ze (zn 3 (jf (xQ (m2 zr (m2 zo (mV 1) (mC (.int 0))) (jS (z3 (mC (.str "none")) (z3 (mC (.str "#12")) (z3 (mC (.str "#3.ok")) (z3 (mC (.str "(num&word)")) z5))))))) (jr (m2 qO (mV 0) (m2 zo (mV 1) (mC (.int 1))))) (mV 0) [1]))
  (ze (zn 3 (jf (xQ (mV 3)) (jr (m2 qO (mV 0) (m2 zo (mV 1) (mC (.int 2))))) (mV 0) [1]))
  (ze (v6 (WX (qR (mV 0) (zC (mC (.int 1))) (zC (mC (.int 17))))) (gN 4)
  (ze (zn 5 (za k6 (z3 (mV 4) z5)))
  (ze (zn 6 (zE pW (z3 (mV 5) (z3 (mC (.ty "int")) z5))))
  (ze (zn 7 (zE pW (z3 (mV 5) (z3 (mC (.ty "str")) z5))))
  (ze (xi (kb (jR (ka (za xB (z3 (za (qE c) (z3 (mV 2) (z3 (mC (.str "num")) (z3 (mV 5) z5)))) (z3 (mV 6) z5))))) (jR (ka (za xB (z3 (za (qE c) (z3 (mV 2) (z3 (mC (.str "word")) (z3 (mV 5) z5)))) (z3 (mV 7) z5))))))
  (zq (mC (.bl false))) zw)
  (v6 (WY 3) (gN 8)
  (xi (jr (m2 Xs (za (qE c) (z3 (mV 2) (z3 (mV 8) (z3 (mV 5) z5)))) (mC (.bl true))))
  (zq (mC (.bl false))) zw)))))))
  (zq (mC (.bl true))))))))
def Kj (c:CA):MF:=zy 9 1 (Xy c)
theorem iX:z7 ["self"] ["self"] (z6 ua):=z7.of
def cq (c:CA):MS:=(zq (jS z5))
def cr (c:CA):MF:=zy 1 1 (cq c)
theorem nP:z7 ["self"] ["self"] (z6 k0):=z7.of
def lN (c:CA):MS:=(zq (jf (xQ (iL [c.Record,c.Choice] "parts" (mV 0))) jt (m2 zo (mV 0) (mC (.int 0))) []))
def lO (c:CA):MF:=zy 1 1 (lN c)
structure Txt (P:Program) (w:World) (K:W.Frag) (mg:Str->Option Value) (c:CA):Prop where
 yA:c.memo=memoP P w (gOf m_is_kind)
 yB:mg "all" = none
 yC:mg "bool" = none
 yD:mg "enumerate" = none
 yE:mg "int" = none
 yF:mg "isinstance" = none
 yG:mg "len" = none
 yH:mg "range" = none
 yI:mg "set" = none
 yJ:mg "sorted" = none
 yK:mg "str" = none
 yL:mg "tuple" = none
 yM:∃ t,mg "FIGURES" = some (.str "0123456789" t)
 yN:Qz K mg "GIVEN_KINDS" ["num","word"]
 yO:∃ t,mg "LETTERS" = some (.str "abcdefghijklmnopqrstuvwxyz" t)
 yP:∃ t,mg "LONGEST_NAME" = some (.int 12 t)
 yQ:zN K mg "is_whole" lw
 yR:zN K mg "is_text" eU
 yS:zN K mg "is_rec" bZ
 yT:zN K mg "is_form" eV
 yU:zN K mg "within" a5
 yV:zN K mg "fits" Xt
 yW:zN K mg "run_end" eW
 yX:zN K mg "name_end" ly
 yY:zN K mg "number_end" u3
 yZ:zN K mg "points_end" u4
 y0:zN K mg "is_name" eX
 y1:zN K mg "is_kind" eY
 y2:zN K mg "are_names" gr
 y3:zN K mg "tells_kind" u5
 y4:zN K mg "are_parts" ko
 y6:zN K mg "is_told_kind" gu
 y8:zN K mg "may_be_field" gv
 y9:zN K mg "is_record" gw
 ya:zN K mg "is_choice" nq
 yb:zN K mg "is_function" fk
 yc:zN K mg "is_piece" lz
 yd:zN K mg "by_names" lA
 ye:zN K mg "settled" eZ
 yf:zN K mg "_law_cell_at" gx
 yh:zN K mg "_law_mixed" u6
 yi:zN K mg "_law_titles" kJ
 yj:zN K mg "_law_kind" nr
 yk:zN K mg "_law_record" fm
 ym:zN K mg "_law_choice" fo
 yn:zN K mg "_law_function" qV
 yo:zN K mg "_law_world" u7
 yp:zN K mg "_law_pieces" kK
 yq:zN K mg "_law_any" lB
 yr:zN K mg "_law_truth" u8
 yt:zN K mg "law" d0
 yu:mg "Bare" = some (.ref c.Bare)
 yw:k7 K c.Bare
 yx:mg "Choice" = some (.ref c.Choice)
 yy:k7 K c.Choice
 yz:mg "Face" = some (.ref c.Face)
 wA:k7 K c.Face
 wB:mg "Kind" = some (.ref c.Kind)
 wC:k7 K c.Kind
 wD:mg "Record" = some (.ref c.Record)
 wF:k7 K c.Record
 wG:∃ f fd,k8 K "__init__" "Kind.__init__" xN f fd/\Mk K c.Bare f
 wH:∃ f fd,k8 K "__init__" "Choice.__init__" wk f fd/\Mk K c.Choice f
 wI:∃ f fd,k8 K "__init__" "Face.__init__" vv f fd/\Mk K c.Face f
 wJ:∃ f fd,k8 K "__init__" "Record.__init__" wj f fd/\Mk K c.Record f
 wK:∃ f fd,k8 K "word" "Bare.word" gA f fd/\vf K c.Bare "word" f
 wL:∃ f fd,k8 K "word" "Choice.word" kM f fd/\vf K c.Choice "word" f
 wM:∃ f fd,k8 K "kind" "Face.kind" gC f fd/\vf K c.Face "kind" f
 wN:∃ f fd,k8 K "word" "Kind.word" gy f fd/\vf K c.Kind "word" f
 wO:∃ f fd,k8 K "word" "Record.word" kL f fd/\vf K c.Record "word" f
 wP:zK K c.Bare "title"
 wQ:zK K c.Choice "closed"
 wR:zK K c.Choice "made"
 wS:zK K c.Choice "parts"
 wU:zK K c.Choice "title"
 wV:zK K c.Face "told_functions"
 wW:zK K c.Face "told_kinds"
 wX:zK K c.Record "made"
 wY:zK K c.Record "parts"
 wZ:zK K c.Record "title"
 w4:∃ f fd,k8 K "__init__" "Kind.__init__" xN f fd/\bT K c.Kind "__init__" f
section
variable {P:Program}{w:World}{K:W.Frag}{mg:Str->Option Value}{base:Heap}{c:CA}(T:Txt P w K mg c)
include T
theorem aj:jV P w K mg base 1 "is_whole" ["value"] v9 :=
 zN.ok3 T.yQ a9 (λ_ _ _ _ _ _=>xk λ_=>rfl) λf cdv A outer s H E hr=>(zg (zt (qc (je kn (by rfl) T.yF jj (z4 (qv 0) (z4 (gn (by rfl) T.yE Yi) z9))) (vA (bv (je kn (by rfl) T.yF jj (z4 (qv 0) (z4 (gn (by rfl) T.yC rA) z9))))))))
theorem oG:jV P w K mg base 1 "is_text" ["value"] vM :=
 zN.ok3 T.yR oA (λ_ _ _ _ _ _=>xk λ_=>rfl) λf cdv A outer s H E hr=>(zg (zt (je kn (by rfl) T.yF jj (z4 (qv 0) (z4 (gn (by rfl) T.yK dB) z9)))))
theorem Gp:jV P w K mg base 1 "is_rec" ["value"] Xx :=
 zN.ok3 T.yS J7 (λ_ _ _ _ _ _=>xk λ_=>rfl) λf cdv A outer s H E hr=>(zg (zt (qc (je kn (by rfl) T.yF jj (z4 (qv 0) (z4 (gn (by rfl) T.yL vQ) z9))) (vA (vW (w8 (xE hr)) z8 (zM (jF hr) (qv 0) zb (λ_ _=>rfl)) zl (zu _))))))
theorem QO:jV P w K mg base 1 "is_form" ["value"] J9 :=
 zN.ok3 T.yT oB (λ_ _ _ _ _ _=>xk λ_=>rfl) λf cdv A outer s H E hr=>(zg (zt (qc (je kn (by rfl) T.yF jj (z4 (qv 0) (z4 (gn (by rfl) T.yL vQ) z9))) (vA (vW (w8 (xE hr)) z8 (zM (jF hr) (qv 0) zb (λ_ _=>rfl)) zl (zu _))))))
theorem Wi {C:Addr}(F:∃ f fd,k8 K "field" "Kind.field" u9 f fd/\vf K C "field" f)(hc:k7 K C):j7 P w K mg base 1 C "field" ["self","name"] (c0 c) :=
 j7.ok F hc iM (λ_ _ _ _ _ _=>xX λ_ _=>rfl) λf cdv A outer s H E hr=>(zg (zt ng))
theorem Xz {C:Addr}(F:∃ f fd,k8 K "fields" "Kind.fields" fq f fd/\vf K C "fields" f)(hc:k7 K C):j7 P w K mg base 1 C "fields" ["self"] (iO c) :=
 j7.ok F hc lC (λ_ _ _ _ _ _=>xk λ_=>rfl) λf cdv A outer s H E hr=>(zg (zt (xI z9)))
theorem JK {C:Addr}(F:∃ f fd,k8 K "field" "Record.field" gB f fd/\vf K C "field" f)(hc:k7 K C):j7 P w K mg base 1 C "field" ["self","name"] (lF c) :=
 j7.ok F hc qW (λ_ _ _ _ _ _=>xX λ_ _=>rfl) λf cdv A outer s H E hr=>(zc (pQ PassesOwn.leaving rfl (Qu (eN (λC h=>(List.mem_cons.mp h).elim (λe=>e ▸ ⟨T.wF,T.wY⟩) λh=>(List.mem_cons.mp h).elim (λe=>e ▸ ⟨T.yy,T.wS⟩) λh=>nomatch h) (qv 0))) (zV (i:=2) qW.nd)
  (zg (xP (zF (w8 (xE hr)) z8 (zM (jF hr) (qv 2) zb (λ_ _=>rfl)) (qv 1) (zu _))
  (zg (zt (xz (qv 2) (jg zb) qz))) zY)))
  (zg (zt ng)))
theorem Jd {C:Addr}(F:∃ f fd,k8 K "fields" "Record.fields" vt f fd/\vf K C "fields" f)(hc:k7 K C):j7 P w K mg base 1 C "fields" ["self"] (nK c) :=
 j7.ok F hc uK (λ_ _ _ _ _ _=>xk λ_=>rfl) λf cdv A outer s H E hr=>(zg (zt (gS rfl (jH.of:jH ["self"] (z6 vt) _ "part" [] []) rfl (pS (eN (λC h=>(List.mem_cons.mp h).elim (λe=>e ▸ ⟨T.wF,T.wY⟩) λh=>(List.mem_cons.mp h).elim (λe=>e ▸ ⟨T.yy,T.wS⟩) λh=>nomatch h) (qv 0))) (λcl C ex pn s₀ H₀=>vo) (λcl C ex pn s₀ H₀=>(zM (jF hr) (qv 0) zb (λ_ _=>rfl))) (L:=0))))
theorem Z8 {C:Addr}(F:∃ f fd,k8 K "carried" "Choice.carried" qe f fd/\vf K C "carried" f)(hc:k7 K C):j7 P w K mg base 1 C "carried" ["self","form"] (uM c) :=
 j7.ok F hc kq (λ_ _ _ _ _ _=>xX λ_ _=>rfl) λf cdv A outer s H E hr=>(zc (pQ PassesOwn.leaving rfl (Qu (eN (λC h=>(List.mem_cons.mp h).elim (λe=>e ▸ ⟨T.wF,T.wY⟩) λh=>(List.mem_cons.mp h).elim (λe=>e ▸ ⟨T.yy,T.wS⟩) λh=>nomatch h) (qv 0))) (zV (i:=2) kq.nd)
  (zg (xP (zF (w8 (xE hr)) z8 (zM (jF hr) (qv 2) zb (λ_ _=>rfl)) (qv 1) (zu _))
  (zg (zt (zM (jF hr) (qv 2) zb (λ_ _=>rfl)))) zY)))
  (zg (zt ng)))
theorem XA {C:Addr}(F:∃ f fd,k8 K "shut" "Choice.shut" ft f fd/\vf K C "shut" f)(hc:k7 K C):j7 P w K mg base 1 C "shut" ["self"] (iQ c) :=
 j7.ok F hc lG (λ_ _ _ _ _ _=>xk λ_=>rfl) λf cdv A outer s H E hr=>(zg (zt (eN (λC h=>(List.mem_cons.mp h).elim (λe=>e ▸ ⟨T.yy,T.wQ⟩) λh=>nomatch h) (qv 0))))
theorem JL {C:Addr}(F:∃ f fd,k8 K "carried" "Kind.carried" gz f fd/\vf K C "carried" f)(hc:k7 K C):j7 P w K mg base 1 C "carried" ["self","form"] (lI c) :=
 j7.ok F hc nL (λ_ _ _ _ _ _=>xX λ_ _=>rfl) λf cdv A outer s H E hr=>(zg (zt ng))
theorem Vp {C:Addr}(F:∃ f fd,k8 K "shut" "Kind.shut" nu f fd/\vf K C "shut" f)(hc:k7 K C):j7 P w K mg base 1 C "shut" ["self"] (ab c) :=
 j7.ok F hc c5 (λ_ _ _ _ _ _=>xk λ_=>rfl) λf cdv A outer s H E hr=>(zg (zt pJ))
theorem ue {C:Addr}(F:∃ f fd,k8 K "word" "Bare.word" gA f fd/\vf K C "word" f)(hc:k7 K C):j7 P w K mg base 1 C "word" ["self"] (kr c) :=
 j7.ok F hc c6 (λ_ _ _ _ _ _=>xk λ_=>rfl) λf cdv A outer s H E hr=>(zg (zt zl))
theorem gH {C:Addr}(F:∃ f fd,k8 K "word" "Choice.word" kM f fd/\vf K C "word" f)(hc:k7 K C):j7 P w K mg base 1 C "word" ["self"] (vc c) :=
 j7.ok F hc lJ (λ_ _ _ _ _ _=>xk λ_=>rfl) λf cdv A outer s H E hr=>(zg (zt zl))
theorem lP:jV P w K mg base 1 "run_end" ["text","start","signs"] gT :=
 zN.ok3 T.yW fW (λ_ _ _ _ _ _=>np λ_ _ _=>rfl) λf cdv A outer s H E hr=>(zc (zx (i:=3) fW.nd (qv 1))
  (zc (gQ 100000 PassesOwn.leaving (tR (zF tQ z8 (qv 3) (je gm (by rfl) T.yG gg (z4 (qv 0) z9)) (zu _)) (rM (zF (Qo (o9 hr)) z8 (zM (jF hr) (qv 0) (qv 3) (λ_ _=>rfl)) (qv 2) (by with_unfolding_all rfl)))).pt
  (zg (oi dM (i:=3) fW.nd zb)))
  (zg (fL 3))))
theorem gI:jV P w K mg base 2 "name_end" ["text","start"] jM :=
 zN.ok3 T.yX nv (λ_ _ _ _ _ _=>xX λ_ _=>rfl) λf cdv A outer s H E hr=>(zc (zx (i:=2) nv.nd (zm (lP T) (hr.mono (by omega)) (by rfl) (z4 (qv 0) (z4 (qv 1) (z4 (rZ (by rfl) T.yO) z9)))))
  (zg (zt (pO (zF UQ z8 (zB Yu z8 (qv 2) (qv 1)) (V8 (by rfl) T.yP) (zu _)) (qv 2) (qv 1)))))
theorem pj:jV P w K mg base 3 "is_name" ["text"] jX :=
 zN.ok3 T.y0 oE (λ_ _ _ _ _ _=>xk λ_=>rfl) λf cdv A outer s H E hr=>(zg (zt (qc (vW (Qn (xE hr)) z8 (qv 0) zl (zu _)) (vA (vW (w8 (xE hr)) z8 (zm (gI T) (hr.mono (by omega)) (by rfl) (z4 (qv 0) (z4 zb z9))) (je gm (by rfl) T.yG gg (z4 (qv 0) z9)) (zu _))))))
theorem uf:jV P w K mg base 4 "are_names" ["names"] jJ :=
 zN.ok3 T.y2 c9 (λ_ _ _ _ _ _=>xk λ_=>rfl) λf cdv A outer s H E hr=>(zg (zt (qc (je (tX rfl) (by rfl) T.yB tL (z4 (gS rfl (jH.of:jH ["names"] (z6 gr) _ "name" [] []) rfl (pS (qv 0)) (λcl C ex pn s₀ H₀=>vo) (λcl C ex pn s₀ H₀=>(zm (pj T) (hr.mono (by omega)) (by rfl) (z4 (qv 0) z9))) (L:=0)) z9)) (vA (vW (w8 (xE hr)) z8 (X1 rfl (by rfl) T.yG (by rfl) T.yI (qv 0)) (je gm (by rfl) T.yG gg (z4 (qv 0) z9)) (zu _))))))
theorem iY:jV P w K mg base 2 "number_end" ["text","start"] wm :=
 zN.ok3 T.yY fu (λ_ _ _ _ _ _=>xX λ_ _=>rfl) λf cdv A outer s H E hr=>(zc (zx (i:=2) fu.nd (zm (lP T) (hr.mono (by omega)) (by rfl) (z4 (qv 0) (z4 (zB jb z8 (qv 1) zb) (z4 (rZ (by rfl) T.yM) z9)))))
  (zg (zt (pO (zF Yw z8 (qv 2) (zB jb z8 (qv 1) zb) (zu _)) (qv 2) (qv 1)))))
theorem fw:jV P w K mg base 3 "points_end" ["text","start"] jN :=
 zN.ok3 T.yZ vd (λ_ _ _ _ _ _=>xX λ_ _=>rfl) λf cdv A outer s H E hr=>(zc (zx (i:=2) vd.nd (qv 1))
  (zc (gQ 100000 PassesOwn.leaving (zF (w8 (xE hr)) z8 (xz (qv 0) (jg (qv 2)) (jg (zB jb z8 (qv 2) zb))) zl (zu _))
  (zc (zx (i:=3) vd.nd (zm (gI T) (hr.mono (by omega)) (by rfl) (z4 (qv 0) (z4 (zB jb z8 (qv 2) zb) z9))))
  (zc (xP (zF (w8 (xE hr)) z8 (qv 3) (zB jb z8 (qv 2) zb) (zu _))
  (zg (fL 2)) zY)
  (zg (zx (i:=2) vd.nd (qv 3))))))
  (zg (fL 2))))
theorem oH:jV P w K mg base 4 "is_kind" ["text"] m_is_kind :=
 zN.ok3 T.y1 xq (λ_ _ _ _ _ _=>xk λ_=>rfl) λf cdv A outer s H E hr=>(zc (zx (i:=1) xq.nd (xI z9))
  (zc (zx (i:=2) xq.nd zb)
  (zg (gQ 100000 PassesOwn.leaving (jp pJ (λ_=>rfl))
  (zc (gQ 100000 PassesOwn.leaving (zF (w8 (xE hr)) z8 (xz (qv 0) (jg (qv 2)) (jg (zB jb z8 (qv 2) zb))) zl (zu _))
  (zc (bz (i:=1) zl (λte pe=>kc (em PySem.F.plainAttrs_list PySem.F.slot_list_append PySem.F.type_list_append wz (pv 1) (vb pe qu))))
  (zg (oi dM (i:=2) xq.nd zb))))
  (zc (zx (i:=3) xq.nd (pO (zF (w8 (xE hr)) z8 (xz (qv 0) (jg (qv 2)) (jg (zB jb z8 (qv 2) zb))) zl (zu _)) (zm (iY T) (hr.mono (by omega)) (by rfl) (z4 (qv 0) (z4 (qv 2) z9))) (zm (gI T) (hr.mono (by omega)) (by rfl) (z4 (qv 0) (z4 (qv 2) z9)))))
  (zc (xP (zF (w8 (xE hr)) z8 (qv 3) (qv 2) (zu _))
  (zg (zt pJ)) zY)
  (zc (zx (i:=2) xq.nd (zm (fw T) (hr.mono (by omega)) (by rfl) (z4 (qv 0) (z4 (qv 3) z9))))
  (zc (gQ 100000 PassesOwn.leaving (tR (jp (qv 1) (λ_=>rfl)) (tR (zF (w8 (xE hr)) z8 (zM (jF hr) (qv 1) (YD zb) (λ_ _=>rfl)) zl (zu _)) (rM (zF (w8 (xE hr)) z8 (xz (qv 0) (jg (qv 2)) (jg (zB jb z8 (qv 2) zb))) zl (zu _))))).pt
  (zc (Qs (i:=1) (kc (Y6 PySem.F.plainAttrs_list PySem.F.slot_list_pop PySem.F.type_list_pop Y8 (pv 1))))
  (zg (zx (i:=2) xq.nd (zm (fw T) (hr.mono (by omega)) (by rfl) (z4 (qv 0) (z4 (zB jb z8 (qv 2) zb) z9)))))))
  (zc (xP (qy (jp (qv 1) (λ_=>rfl)))
  (zg (zt (vW (w8 (xE hr)) z8 (qv 2) (je gm (by rfl) T.yG gg (z4 (qv 0) z9)) (zu _)))) zY)
  (zc (xP (mP (zF (Qn (xE hr)) z8 (zM (jF hr) (qv 1) (YD zb) (λ_ _=>rfl)) zl (zu _)) (fH (zF (Qn (xE hr)) z8 (xz (qv 0) (jg (qv 2)) (jg (zB jb z8 (qv 2) zb))) zl (zu _)))).pt
  (zg (zt pJ)) zY)
  (zc (dL (i:=1) (YD zb) zl (λtk te pk pe=>mf pe (aU (pv 1) pk mB)))
  (zg (oi dM (i:=2) xq.nd zb))))))))))))))
theorem kS:jV P w K mg base 5 "tells_kind" ["looked","text"] (ja c) :=
 Vf T.yA rfl T.y3 iS (λ_ _ _ _ _ _=>xX λ_ _=>rfl) λf cdv A outer s H E hr=>J3 (oH T) (hr.mono (by omega)) (jF hr) rfl (by rfl) (by first | exact Or.inl rfl | exact Or.inr (Or.inl rfl) | exact Or.inr (Or.inr rfl)) (by first | exact Or.inl rfl | exact Or.inr (Or.inl rfl) | exact Or.inr (Or.inr rfl))
theorem qG:jV P w K mg base 6 "are_parts" ["looked","parts"] (jz c) :=
 zN.ok3 T.y4 ce (λ_ _ _ _ _ _=>xX λ_ _=>rfl) λf cdv A outer s H E hr=>(zg (zt (qc (zm (uf T) (hr.mono (by omega)) (by rfl) (z4 (gS rfl (jH.of:jH ["looked","parts"] (z6 ko) _ "part" [] []) rfl (pS (qv 1)) (λcl C ex pn s₀ H₀=>vo) (λcl C ex pn s₀ H₀=>(zM (jF hr) (qv 0) zb (λ_ _=>rfl)))) z9)) (vA (je (tX rfl) (by rfl) T.yB tL (z4 (gS rfl (jH.of:jH ["looked","parts"] (z6 ko) _ "part" ["looked"] [0]) rfl (pS (qv 1)) (λcl C ex pn s₀ H₀=>vo) (λcl C ex pn s₀ H₀=>(zm (kS T) (hr.mono (by omega)) (by rfl) (z4 (qv 1) (z4 (zM (jF hr) (qv 0) zb (λ_ _=>rfl)) z9))))) z9))))))
theorem qY:jV P w K mg base 6 "is_told_kind" ["looked","title","made"] (jI c) :=
 zN.ok3 T.y6 nM (λ_ _ _ _ _ _=>np λ_ _ _=>rfl) λf cdv A outer s H E hr=>(zc (xP (mP (zF (Qo (o9 hr)) z8 (qv 1) (V9 (by rfl) T.yN) (by with_unfolding_all rfl)) (fH (qy (jp (zm (kS T) (hr.mono (by omega)) (by rfl) (z4 (qv 0) (z4 (qv 1) z9))) (λ_=>rfl))))).pt
  (zg (zt pJ)) zY)
  (zg (zt (Qp (zm (pj T) (hr.mono (by omega)) (by rfl) (z4 (qv 1) z9)) (vA (bv (qv 2)))))))
theorem cx:jV P w K mg base 7 "is_choice" ["looked","title","made","forms"] (xY c) :=
 zN.ok3 T.ya cg (λ_ _ _ _ _ _=>Z5 λ_ _ _ _=>rfl) λf cdv A outer s H E hr=>(zg (zt (qc (zm (qY T) (hr.mono (by omega)) (by rfl) (z4 (qv 0) (z4 (qv 1) (z4 (qv 2) z9)))) (vA (zm (qG T) (hr.mono (by omega)) (by rfl) (z4 (qv 0) (z4 (qv 3) z9)))))))
theorem lQ:jV P w K mg base 7 "is_function" ["looked","name","plain","places","back","faults"] (jY c) :=
 zN.ok3 T.yb lK (λ_ _ _ _ _ _=>Pk λ_ _ _ _ _ _=>rfl) λf cdv A outer s H E hr=>(zc (xP (mP (qy (jp (zm (pj T) (hr.mono (by omega)) (by rfl) (z4 (qv 1) z9)) (λ_=>rfl))) (fH (qy (jp (zm (kS T) (hr.mono (by omega)) (by rfl) (z4 (qv 0) (z4 (qv 4) z9))) (λ_=>rfl))))).pt
  (zg (zt pJ)) zY)
  (zc (xP (mP (zF tQ z8 (qv 2) zb (zu _)) (fH (zF Yw z8 (qv 2) (je gm (by rfl) T.yG gg (z4 (qv 3) z9)) (zu _)))).pt
  (zg (zt pJ)) zY)
  (zg (zt (qc (zm (qG T) (hr.mono (by omega)) (by rfl) (z4 (qv 0) (z4 (qv 3) z9))) (vA (zm (uf T) (hr.mono (by omega)) (by rfl) (z4 (qv 5) z9))))))))
theorem nQ:jV P w K mg base 1 "may_be_field" ["made","due","sure"] xr :=
 zN.ok3 T.y8 nN (λ_ _ _ _ _ _=>np λ_ _ _=>rfl) λf cdv A outer s H E hr=>(zc (xP (jp (qv 0) (λ_=>rfl))
  (zg (zt (Qp (qv 1) (vA (bv (qv 2)))))) zY)
  (zg (zt (bv (qv 1)))))
theorem cy:jV P w K mg base 7 "is_record" ["looked","title","made","fields"] (xZ c) :=
 zN.ok3 T.y9 ck (λ_ _ _ _ _ _=>Z5 λ_ _ _ _=>rfl) λf cdv A outer s H E hr=>(zc (xP (mP (qy (jp (zm (qY T) (hr.mono (by omega)) (by rfl) (z4 (qv 0) (z4 (qv 1) (z4 (qv 2) z9)))) (λ_=>rfl))) (fH (qy (jp (zm (qG T) (hr.mono (by omega)) (by rfl) (z4 (qv 0) (z4 (qv 3) z9))) (λ_=>rfl))))).pt
  (zg (zt pJ)) zY)
  (zg (zt (je (tX rfl) (by rfl) T.yB tL (z4 (gS rfl (jH.of:jH ["looked","title","made","fields"] (z6 gw) _ "field" ["made"] [2]) rfl (pS (qv 3)) (λcl C ex pn s₀ H₀=>vo) (λcl C ex pn s₀ H₀=>(zm (nQ T) (hr.mono (by omega)) (by rfl) (z4 (qv 1) (z4 (zM (jF hr) (qv 0) zb (λ_ _=>rfl)) (z4 (zM (jF hr) (qv 0) zb (λ_ _=>rfl)) z9)))))) z9)))))
theorem ak:jV P w K mg base 8 "is_piece" ["looked","piece"] (xT c) :=
 zN.ok3 T.yc ag (λ_ _ _ _ _ _=>xX λ_ _=>rfl) λf cdv A outer s H E hr=>(zc (xP (zF (w8 (xE hr)) z8 (zM (jF hr) (qv 1) zb (λ_ _=>rfl)) zl (zu _))
  (zg (zt (zm (cy T) (hr.mono (by omega)) (by rfl) (z4 (qv 0) (z4 (zM (jF hr) (qv 1) zb (λ_ _=>rfl)) (z4 (zM (jF hr) (qv 1) zb (λ_ _=>rfl)) (z4 (zM (jF hr) (qv 1) zb (λ_ _=>rfl)) z9))))))) zY)
  (zc (xP (zF (w8 (xE hr)) z8 (zM (jF hr) (qv 1) zb (λ_ _=>rfl)) zl (zu _))
  (zg (zt (zm (cx T) (hr.mono (by omega)) (by rfl) (z4 (qv 0) (z4 (zM (jF hr) (qv 1) zb (λ_ _=>rfl)) (z4 (zM (jF hr) (qv 1) zb (λ_ _=>rfl)) (z4 (zM (jF hr) (qv 1) zb (λ_ _=>rfl)) z9))))))) zY)
  (zg (zt (zm (lQ T) (hr.mono (by omega)) (by rfl) (z4 (qv 0) (z4 (zM (jF hr) (qv 1) zb (λ_ _=>rfl)) (z4 (zM (jF hr) (qv 1) zb (λ_ _=>rfl)) (z4 (zM (jF hr) (qv 1) zb (λ_ _=>rfl)) (z4 (zM (jF hr) (qv 1) zb (λ_ _=>rfl)) (z4 (zM (jF hr) (qv 1) zb (λ_ _=>rfl)) z9)))))))))))
theorem kC:jV P w K mg base 1 "by_names" ["parts"] jA :=
 zN.ok3 T.yd ah (λ_ _ _ _ _ _=>xk λ_=>rfl) λf cdv A outer s H E hr=>(zg (zt (qd pR (by rfl) T.yL vQ (z4 (je ZR (by rfl) T.yJ ZJ (z4 (qv 0) z9)) z9))))
theorem oI:jV P w K mg base 2 "settled" ["piece"] jZ :=
 zN.ok3 T.ye fY (λ_ _ _ _ _ _=>xk λ_=>rfl) λf cdv A outer s H E hr=>(zc (xP (zF (w8 (xE hr)) z8 (zM (jF hr) (qv 0) zb (λ_ _=>rfl)) zl (zu _))
  (zg (zt (zB jb z8 (xz (qv 0) qz (jg zb)) (jC (z4 (zm (kC T) (hr.mono (by omega)) (by rfl) (z4 (zM (jF hr) (qv 0) zb (λ_ _=>rfl)) z9)) z9))))) zY)
  (zc (xP (zF (w8 (xE hr)) z8 (zM (jF hr) (qv 0) zb (λ_ _=>rfl)) zl (zu _))
  (zg (zt (zB jb z8 (xz (qv 0) qz (jg zb)) (jC (z4 (zm (kC T) (hr.mono (by omega)) (by rfl) (z4 (zM (jF hr) (qv 0) zb (λ_ _=>rfl)) z9)) z9))))) zY)
  (zc (zx (i:=1) fY.nd (zM (jF hr) (qv 0) zb (λ_ _=>rfl)))
  (zc (zx (i:=2) fY.nd (zB jb z8 (xz (zM (jF hr) (qv 0) zb (λ_ _=>rfl)) qz (jg (qv 1))) (zm (kC T) (hr.mono (by omega)) (by rfl) (z4 (xz (zM (jF hr) (qv 0) zb (λ_ _=>rfl)) (jg (qv 1)) qz) z9))))
  (zg (zt (zB jb z8 (xz (qv 0) qz (jg zb)) (jC (z4 (qv 2) (z4 (zM (jF hr) (qv 0) zb (λ_ _=>rfl)) (z4 (zm (kC T) (hr.mono (by omega)) (by rfl) (z4 (zM (jF hr) (qv 0) zb (λ_ _=>rfl)) z9)) z9)))))))))))
theorem uN (F:∃ f fd,k8 K "__init__" "Face.__init__" vv f fd/\Mk K c.Face f)(hx:mg "Face" = some (.ref c.Face))(hc:k7 K c.Face):kj P w K mg base 9 c.Face "Face" ["self","pieces"] (jw c) :=
 kj.ok F hx qg (dX rfl) (λ_ _ _ _ _ _=>xX λ_ _=>rfl) λf cdv A outer s H E hr=>J2 qg.nd rfl rfl (jF hr) PassesOwn.leaving hc T.wW T.wV (by decide) (by rfl) T.yD (by first | exact Or.inl rfl | exact Or.inr (Or.inl rfl) | exact Or.inr (Or.inr rfl)) (by first | exact Or.inl rfl | exact Or.inr (Or.inl rfl) | exact Or.inr (Or.inr rfl)) (by first | exact Or.inl rfl | exact Or.inr (Or.inl rfl) | exact Or.inr (Or.inr rfl)) (by first | exact Or.inl rfl | exact Or.inr rfl) (by first | exact Or.inl rfl | exact Or.inr rfl) (by first | exact Or.inl rfl | exact Or.inr rfl) (by first | exact Or.inl rfl | exact Or.inr rfl) (by first | exact Or.inl rfl | exact Or.inr rfl) (by first | exact Or.inl rfl | exact Or.inr rfl) (by first | exact Or.inl rfl | exact Or.inr rfl) (by first | exact Or.inl rfl | exact Or.inr rfl) (Xd T.yA)
  (zF (w8 (xE hr)) z8 (zM (jF hr) (qv 4) zb (λ_ _=>rfl)) zl (zu _))
  (mP (zF (Qo (o9 hr)) z8 (zM (jF hr) (qv 4) zb (λ_ _=>rfl)) (qv 5) (by with_unfolding_all rfl)) (fH (qy (jp (zm (ak T) (hr.mono (by omega)) (by rfl) (z4 (qv 2) (z4 (qv 4) z9))) (λ_=>rfl))))).pt
  (zM (jF hr) (qv 4) zb (λ_ _=>rfl))
  (zm (oI T) (hr.mono (by omega)) (by rfl) (z4 (qv 4) z9))
theorem uO {C:Addr}{x:Str}(F:∃ f fd,k8 K "__init__" "Kind.__init__" xN f fd/\Mk K C f)(hx:mg x=some (.ref C))(hc:k7 K C)(n0:zK K C "title"):kj P w K mg base 1 C x ["self","title"] (qX c C) :=
 kj.attrs F hx hc (λp h=>(List.mem_cons.mp h).elim (λe=>by rw [e];exact n0) λh=>nomatch h) (by decide +kernel) (by decide) (by decide) qh (λ_ _ _ _ _ _=>xX λ_ _=>rfl) λf cdv A outer s H E hr=>(xo.fld (pv 0) (pv 1) xo.nil)
theorem qk:bU P w K mg base 1 c.Kind "__init__" ["self","title"] "title" :=
 bU.ok T.w4 qh (λ_ _ _ _ _ _=>xX λ_ _=>rfl) λf cdv A outer s H E hr=>(xo.fld (pv 0) (pv 1) xo.nil)
theorem pp {C:Addr}{x:Str}(F:∃ f fd,k8 K "__init__" "Record.__init__" wj f fd/\Mk K C f)(hx:mg x=some (.ref C))(hc:k7 K C)(n0:zK K C "title")(n1:zK K C "made")(n2:zK K C "parts"):kj P w K mg base 2 C x ["self","title","made","parts"] (kx c C) :=
 kj.attrs F hx hc (λp h=>(List.mem_cons.mp h).elim (λe=>by rw [e];exact n0) λh=>(List.mem_cons.mp h).elim (λe=>by rw [e];exact n1) λh=>(List.mem_cons.mp h).elim (λe=>by rw [e];exact n2) λh=>nomatch h) (by decide +kernel) (by decide) (by decide) fZ (λ_ _ _ _ _ _=>Z5 λ_ _ _ _=>rfl) λf cdv A outer s H E hr=>(xo.base (qk T) (hr.mono (by omega)) (by rfl) T.wB (pv 0) (pv 1) (xo.fld (pv 0) (pv 2) (xo.fld (pv 0) (pv 3) xo.nil)))
theorem pq {C:Addr}{x:Str}(F:∃ f fd,k8 K "__init__" "Choice.__init__" wk f fd/\Mk K C f)(hx:mg x=some (.ref C))(hc:k7 K C)(n0:zK K C "title")(n1:zK K C "made")(n2:zK K C "closed")(n3:zK K C "parts"):kj P w K mg base 2 C x ["self","title","made","closed","parts"] (ky c C) :=
 kj.attrs F hx hc (λp h=>(List.mem_cons.mp h).elim (λe=>by rw [e];exact n0) λh=>(List.mem_cons.mp h).elim (λe=>by rw [e];exact n1) λh=>(List.mem_cons.mp h).elim (λe=>by rw [e];exact n2) λh=>(List.mem_cons.mp h).elim (λe=>by rw [e];exact n3) λh=>nomatch h) (by decide +kernel) (by decide) (by decide) p0 (λ_ _ _ _ _ _=>Ka λ_ _ _ _ _=>rfl) λf cdv A outer s H E hr=>(xo.base (qk T) (hr.mono (by omega)) (by rfl) T.wB (pv 0) (pv 1) (xo.fld (pv 0) (pv 2) (xo.fld (pv 0) (pv 3) (xo.fld (pv 0) (pv 4) xo.nil))))
theorem cz {C:Addr}(F:∃ f fd,k8 K "kind" "Face.kind" gC f fd/\vf K C "kind" f)(hc:k7 K C):j7 P w K mg base 4 C "kind" ["self","title"] (vq c) :=
 j7.ok F hc ub (λ_ _ _ _ _ _=>xX λ_ _=>rfl) λf cdv A outer s H E hr=>(zc (zx (i:=2) ub.nd (QE (jF hr) (eN (λC h=>(List.mem_cons.mp h).elim (λe=>e ▸ ⟨T.wA,T.wW⟩) λh=>nomatch h) (qv 0)) (qv 1)))
  (zc (xP (zF Kf z8 (qv 2) ng (zu _))
  (zg (zt (dW (uO T T.wG T.yu T.yw T.wP) (hr.mono (by omega)) (by rfl) (z4 (qv 1) z9)))) zY)
  (zc (xP (zF (w8 (xE hr)) z8 (zM (jF hr) (qv 2) zb (λ_ _=>rfl)) zl (zu _))
  (zg (zt (dW (pp T T.wJ T.wD T.wF T.wZ T.wX T.wY) (hr.mono (by omega)) (by rfl) (z4 (qv 1) (z4 (zM (jF hr) (qv 2) zb (λ_ _=>rfl)) (z4 (zM (jF hr) (qv 2) zb (λ_ _=>rfl)) z9)))))) zY)
  (zg (zt (dW (pq T T.wH T.yx T.yy T.wU T.wR T.wQ T.wS) (hr.mono (by omega)) (by rfl) (z4 (qv 1) (z4 (zM (jF hr) (qv 2) zb (λ_ _=>rfl)) (z4 (zM (jF hr) (qv 2) zb (λ_ _=>rfl)) (z4 (zM (jF hr) (qv 2) zb (λ_ _=>rfl)) z9))))))))))
theorem ug {C:Addr}(F:∃ f fd,k8 K "word" "Kind.word" gy f fd/\vf K C "word" f)(hc:k7 K C):j7 P w K mg base 1 C "word" ["self"] (kA c) :=
 j7.ok F hc cm (λ_ _ _ _ _ _=>xk λ_=>rfl) λf cdv A outer s H E hr=>(zg (zt zl))
theorem gJ {C:Addr}(F:∃ f fd,k8 K "word" "Record.word" kL f fd/\vf K C "word" f)(hc:k7 K C):j7 P w K mg base 1 C "word" ["self"] (ve c) :=
 j7.ok F hc lL (λ_ _ _ _ _ _=>xk λ_=>rfl) λf cdv A outer s H E hr=>(zg (zt zl))
theorem Je:jV P w K mg base 5 "within" ["face","title","value"] (wn c) :=
 zN.ok3 T.yU d3 (λ_ _ _ _ _ _=>np λ_ _ _=>rfl) λf cdv A outer s H E hr=>(zc (xP (zF (w8 (xE hr)) z8 (qv 1) zl (zu _))
  (zg (zt (pO (jp (zm (aj T) (hr.mono (by omega)) (by rfl) (z4 (qv 2) z9)) (λ_=>rfl)) (xI z9) ng))) zY)
  (zc (xP (zF (w8 (xE hr)) z8 (qv 1) zl (zu _))
  (zg (zt (pO (jp (zm (oG T) (hr.mono (by omega)) (by rfl) (z4 (qv 2) z9)) (λ_=>rfl)) (xI z9) ng))) zY)
  (zc (zx (i:=3) d3.nd (QB (cz T T.wM T.wA) (hr.mono (by omega)) (qv 0) (z4 (qv 1) z9)))
  (zc (xP (zF (w8 (xE hr)) z8 (Ph (ug T T.wN T.wC) (ue T T.wK T.yw) (gJ T T.wO T.wF) (gH T T.wL T.yy) hr (qv 3)) zl (zu _))
  (zg rO) zY)
  (zc (xP (zF (w8 (xE hr)) z8 (Ph (ug T T.wN T.wC) (ue T T.wK T.yw) (gJ T T.wO T.wF) (gH T T.wL T.yy) hr (qv 3)) zl (zu _))
  (zg rO) zY)
  (zg (zt (xI z9))))))))
theorem cA:jV P w K mg base 6 "fits" ["face","kind","value"] (qE c) :=
 zN.ok3 T.yV m3 (λ_ _ _ _ _ _=>np λ_ _ _=>rfl) λf cdv A outer s H E hr=>(zc (zx (i:=3) m3.nd (xI (z4 (jC (z4 (qv 1) (z4 (qv 2) z9))) z9)))
  (zc (gQ 100000 PassesOwn.leaving (jp (qv 3) (λ_=>rfl))
  (zc (QI (i:=3) (j:=4) (mf (Y6 PySem.F.plainAttrs_list PySem.F.slot_list_pop PySem.F.type_list_pop Y8 (pv 3)) (NY (i:=4) m3.nd)))
  (zc (zx (i:=5) m3.nd (zm (Je T) (hr.mono (by omega)) (by rfl) (z4 (qv 0) (z4 (zM (jF hr) (qv 4) zb (λ_ _=>rfl)) (z4 (zM (jF hr) (qv 4) zb (λ_ _=>rfl)) z9)))))
  (zc (xP (zF Kf z8 (qv 5) ng (zu _))
  (zg (zt pJ)) zY)
  (zg (QM (i:=3) (j:=5) (kc (em PySem.F.plainAttrs_list PySem.F.slot_list_extend PySem.F.type_list_extend ZD (pv 3) (vb (pv 5) qu)))))))))
  (zg (zt pJ))))
theorem nR:jV P w K mg base 1 "_law_cell_at" ["_law_script","_law_k"] jq :=
 zN.ok3 T.yf nO (λ_ _ _ _ _ _=>xX λ_ _=>rfl) λf cdv A outer s H E hr=>(zc (xP (zF tQ z8 (qv 1) (je gm (by rfl) T.yG gg (z4 (qv 0) z9)) (zu _))
  (zg (zt (zM (jF hr) (qv 0) (qv 1) (λ_ _=>rfl)))) zY)
  (zg (zt zb)))
theorem j0:jV P w K mg base 1 "_law_mixed" ["_law_cell","_law_k"] zI :=
 zN.ok3 T.yh fv (λ_ _ _ _ _ _=>xX λ_ _=>rfl) λf cdv A outer s H E hr=>(zc (zx (i:=2) fv.nd (zB jy z8 (zB rJ z8 (zB jb z8 (zB jb z8 (qv 0) (zB rJ z8 zb (qv 1))) zb) zb) zb))
  (zg (zt (zB jy z8 (zB rJ z8 (qv 2) (zB jb z8 (zB wv z8 (qv 2) zb) zb)) zb))))
theorem lR:jV P w K mg base 2 "_law_titles" ["_law_cell"] xK :=
 zN.ok3 T.yi xv (λ_ _ _ _ _ _=>xk λ_=>rfl) λf cdv A outer s H E hr=>(zc (zx (i:=1) xv.nd (zm (j0 T) (hr.mono (by omega)) (by rfl) (z4 (qv 0) (z4 zb z9))))
  (zc (zx (i:=2) xv.nd (zM (jF hr) (xI (z4 zl (z4 zl (z4 zl (z4 zl z9))))) (zB jy z8 (qv 1) zb) (λ_ _=>rfl)))
  (zc (zx (i:=3) xv.nd (zM (jF hr) (xI (z4 zl (z4 zl (z4 zl (z4 zl z9))))) (zB jy z8 (zB wv z8 (qv 1) zb) zb) (λ_ _=>rfl)))
  (zc (oe (i:=4) xv.nd rfl (by first | exact .inl rfl | exact .inr rfl) rfl (jH.of:jH ["_law_cell","_law_x","_law_head","_law_tail","_law_found"] (z6 kJ) _ "_law_sign" ["_law_tail","_law_head"] [3,2]) rfl (pS zl) (λcl C ex pn s₀ H₀=>vo) (λcl C ex pn s₀ H₀=>(zB jb z8 (zB jb z8 (qv 2) (qv 0)) (qv 1))))
  (zc (xP (zF (w8 (xE hr)) z8 (zB jy z8 (zB wv z8 (qv 1) zb) zb) zb (zu _))
  (zg (dL (i:=4) zb (zB jb z8 zl (qd YO (by rfl) T.yK dB (z4 (zB jy z8 (zB wv z8 (qv 1) zb) zb) z9))) (λtk te pk pe=>mf pe (aU (pv 4) pk mB)))) zY)
  (zc (xP (zF (w8 (xE hr)) z8 (zB jy z8 (zB wv z8 (qv 1) zb) zb) zb (zu _))
  (zg (dL (i:=4) zb (zB jb z8 (zB jb z8 zl (zM (jF hr) (qv 4) zb (λ_ _=>rfl))) zl) (λtk te pk pe=>mf pe (aU (pv 4) pk mB)))) zY)
  (zg (fL 4))))))))
theorem vH:jV P w K mg base 1 "_law_kind" ["_law_titles_here","_law_x"] jl :=
 zN.ok3 T.yj cn (λ_ _ _ _ _ _=>xX λ_ _=>rfl) λf cdv A outer s H E hr=>(zg (zt (zM (jF hr) (zB jb z8 (xI (z4 zl (z4 zl z9))) (qv 0)) (zB jy z8 (qv 1) (zB jb z8 zb (je gm (by rfl) T.yG gg (z4 (qv 0) z9)))) (λ_ _=>rfl))))
theorem lS:jV P w K mg base 2 "_law_record" ["_law_titles_here","_law_at","_law_cell"] x8 :=
 zN.ok3 T.yk jc (λ_ _ _ _ _ _=>np λ_ _ _=>rfl) λf cdv A outer s H E hr=>(zc (zx (i:=3) jc.nd (zm (j0 T) (hr.mono (by omega)) (by rfl) (z4 (qv 2) (z4 zb z9))))
  (zc (zx (i:=4) jc.nd (qc (vW Yw z8 (zB jy z8 (qv 3) zb) zb (zu _)) (vA (vW (rK (o9 hr)) z8 (zM (jF hr) (zM (jF hr) (qv 0) (qv 1) (λ_ _=>rfl)) zb (λ_ _=>rfl)) zl (by with_unfolding_all rfl)))))
  (zc (zx (i:=5) jc.nd mW)
  (zc (pQ PassesOwn.leaving rfl (gl (by rfl) T.yH (z4 (zB jy z8 (zB wv z8 (qv 3) zb) zb) z9)) (zV (i:=6) jc.nd)
  (zc (zx (i:=7) jc.nd (zm (j0 T) (hr.mono (by omega)) (by rfl) (z4 (qv 2) (z4 (zB jb z8 zb (qv 6)) z9))))
  (zc (zx (i:=8) jc.nd (qc (qv 4) (vA (vW (w8 (xE hr)) z8 (zB jy z8 (qv 7) zb) zb (zu _)))))
  (zc (zx (i:=9) jc.nd (qc (vW Yw z8 (zB jy z8 (zB wv z8 (qv 7) zb) zb) zb (zu _)) (vA (Qp (qv 8) (vA (bv (qv 4)))))))
  (zg (mU (i:=5) (zM (jF hr) (xI (z4 zl (z4 zl (z4 zl z9)))) (qv 6) (λ_ _=>rfl)) (jC (z4 (zm (vH T) (hr.mono (by omega)) (by rfl) (z4 (qv 0) (z4 (zB wv z8 (qv 7) zb) z9))) (z4 (qv 8) (z4 (qv 9) z9)))) (λtk te pk pe=>qw (jF hr) (pv 5) pk pe rfl)))))))
  (zg (zt (jC (z4 (qv 4) (z4 (qv 5) z9)))))))))
theorem lT:jV P w K mg base 2 "_law_choice" ["_law_titles_here","_law_at","_law_cell"] x9 :=
 zN.ok3 T.ym wo (λ_ _ _ _ _ _=>np λ_ _ _=>rfl) λf cdv A outer s H E hr=>(zc (zx (i:=3) wo.nd (zm (j0 T) (hr.mono (by omega)) (by rfl) (z4 (qv 2) (z4 zb z9))))
  (zc (zx (i:=4) wo.nd mW)
  (zc (pQ PassesOwn.leaving rfl (gl (by rfl) T.yH (z4 (zB jy z8 (zB wv z8 (qv 3) zb) zb) z9)) (zV (i:=5) wo.nd)
  (zg (mU (i:=4) (zM (jF hr) (xI (z4 zl (z4 zl (z4 zl z9)))) (qv 5) (λ_ _=>rfl)) (zm (vH T) (hr.mono (by omega)) (by rfl) (z4 (qv 0) (z4 (zm (j0 T) (hr.mono (by omega)) (by rfl) (z4 (qv 2) (z4 (zB jb z8 zb (qv 5)) z9))) z9))) (λtk te pk pe=>qw (jF hr) (pv 4) pk pe rfl))))
  (zg (zt (jC (z4 (qc (vW Yw z8 (zB jy z8 (qv 3) zb) zb (zu _)) (vA (vW (rK (o9 hr)) z8 (zM (jF hr) (zM (jF hr) (qv 0) (qv 1) (λ_ _=>rfl)) zb (λ_ _=>rfl)) zl (by with_unfolding_all rfl)))) (z4 (vW (w8 (xE hr)) z8 (zB jy z8 (zB wv z8 (qv 3) zb) zb) zb (zu _)) (z4 (qv 4) z9)))))))))
theorem uP:jV P w K mg base 2 "_law_function" ["_law_titles_here","_law_cell"] jW :=
 zN.ok3 T.yn jn (λ_ _ _ _ _ _=>xX λ_ _=>rfl) λf cdv A outer s H E hr=>(zc (zx (i:=2) jn.nd (zm (j0 T) (hr.mono (by omega)) (by rfl) (z4 (qv 1) (z4 zb z9))))
  (zc (zx (i:=3) jn.nd (xI z9))
  (zc (pQ PassesOwn.leaving rfl (gl (by rfl) T.yH (z4 (zB jy z8 (qv 2) zb) z9)) (zV (i:=4) jn.nd)
  (zc (zx (i:=5) jn.nd (zm (j0 T) (hr.mono (by omega)) (by rfl) (z4 (qv 1) (z4 (zB jb z8 zb (qv 4)) z9))))
  (zg (bz (i:=3) (jC (z4 (zM (jF hr) (xI (z4 zl (z4 zl (z4 zl z9)))) (zB jy z8 (zB jb z8 (qv 4) (zB wv z8 (qv 2) zb)) zb) (λ_ _=>rfl)) (z4 (zm (vH T) (hr.mono (by omega)) (by rfl) (z4 (qv 0) (z4 (qv 5) z9))) (z4 (vW (w8 (xE hr)) z8 (zB jy z8 (zB wv z8 (qv 5) zb) zb) zb (zu _)) z9)))) (λte pe=>kc (em PySem.F.plainAttrs_list PySem.F.slot_list_append PySem.F.type_list_append wz (pv 3) (vb pe qu)))))))
  (zc (zx (i:=6) jn.nd (xz (xI (z4 zl (z4 zl z9))) (jg (zB jy z8 (zB wv z8 (qv 2) zb) zb)) qz))
  (zg (zt (jC (z4 (zB jy z8 (zB wv z8 (qv 2) zb) (zB jb z8 (je gm (by rfl) T.yG gg (z4 (qv 3) z9)) zb)) (z4 (qv 3) (z4 (zm (vH T) (hr.mono (by omega)) (by rfl) (z4 (qv 0) (z4 (zB wv z8 (qv 2) zb) z9))) (z4 (qv 6) z9)))))))))))
theorem iZ:jV P w K mg base 3 "_law_world" ["_law_cell"] vG :=
 zN.ok3 T.yo jm (λ_ _ _ _ _ _=>xk λ_=>rfl) λf cdv A outer s H E hr=>(zc (N3 (i:=1) (zx (i:=1) jm.nd (zm (lR T) (hr.mono (by omega)) (by rfl) (z4 (qv 0) z9))))
  (zc (zx (i:=2) jm.nd mW)
  (zc (zx (i:=3) jm.nd mW)
  (zc (zx (i:=4) jm.nd mW)
  (zc (pQ PassesOwn.leaving rfl (gl (by rfl) T.yH (z4 zb z9)) (zV (i:=5) jm.nd)
  (zc (zx (i:=6) jm.nd (zm (j0 T) (hr.mono (by omega)) (by rfl) (z4 (qv 0) (z4 (zB jb z8 zb (qv 5)) z9))))
  (zg (xP (zF tQ z8 (zB jy z8 (qv 6) zb) zb (zu _))
  (zg (mU (i:=2) (zM (jF hr) (qv 1) (qv 5) (λ_ _=>rfl)) (zm (lS T) (hr.mono (by omega)) (by rfl) (z4 (qv 1) (z4 (qv 5) (z4 (qv 6) z9)))) (λtk te pk pe=>qw (jF hr) (pv 2) pk pe rfl))) (zg (xP (zF tQ z8 (zB jy z8 (qv 6) zb) zb (zu _))
  (zg (mU (i:=3) (zM (jF hr) (qv 1) (qv 5) (λ_ _=>rfl)) (zm (lT T) (hr.mono (by omega)) (by rfl) (z4 (qv 1) (z4 (qv 5) (z4 (qv 6) z9)))) (λtk te pk pe=>qw (jF hr) (pv 3) pk pe rfl))) zY))))))
  (zc (pQ PassesOwn.leaving rfl (gl (by rfl) T.yH (z4 (zB jy z8 (zm (j0 T) (hr.mono (by omega)) (by rfl) (z4 (qv 0) (z4 zb z9))) zb) z9)) (zV (i:=5) jm.nd)
  (zg (mU (i:=4) (zM (jF hr) (xI (z4 zl (z4 zl (z4 zl z9)))) (qv 5) (λ_ _=>rfl)) (zm (uP T) (hr.mono (by omega)) (by rfl) (z4 (qv 1) (z4 (zm (j0 T) (hr.mono (by omega)) (by rfl) (z4 (qv 0) (z4 (zB jb z8 zb (qv 5)) z9))) z9))) (λtk te pk pe=>qw (jF hr) (pv 4) pk pe rfl))))
  (zg (zt (jC (z4 (qv 1) (z4 (qv 2) (z4 (qv 3) (z4 (qv 4) z9)))))))))))))
theorem lU:jV P w K mg base 1 "_law_pieces" ["_law_world_here"] xb :=
 zN.ok3 T.yp zL (λ_ _ _ _ _ _=>xk λ_=>rfl) λf cdv A outer s H E hr=>(zc (QA (qv 0) (lg rfl (xM (zV (i:=1) zL.nd) (xM (zV (i:=2) zL.nd) (xM (zV (i:=3) zL.nd) (xM (zV (i:=4) zL.nd) lf))))))
  (zc (zx (i:=5) zL.nd (xI z9))
  (zc (oo PassesOwn.leaving rfl (qv 2) (lg rfl (xM (zV (i:=6) zL.nd) (xM (zV (i:=7) zL.nd) lf)))
  (zg (bz (i:=5) (jC (z4 zl (z4 (qv 6) (z4 (zM (jF hr) (qv 7) zb (λ_ _=>rfl)) (z4 (qd pR (by rfl) T.yL vQ (z4 (Vm (xs:=["_law_name","_law_field"]) rfl (jH.of:jH ["_law_world_here","_law_titles_here","_law_records","_law_choices","_law_functions","_law_found","_law_title","_law_part","_law_name"] (z6 kK) _ "_law_name" [] []) (by decide +kernel) rfl (zM (jF hr) (qv 7) zb (λ_ _=>rfl)) (λcl C ex pn s₀ H₀=>(lg rfl (xM (zV (i:=0) (show List.Nodup (["_law_name","_law_field"]:List Str) by decide +kernel)) (xM (zV (i:=1) (show List.Nodup (["_law_name","_law_field"]:List Str) by decide +kernel)) lf)))) (λcl C ex pn s₀ H₀=>vo) (λcl C ex pn s₀ H₀=>(zB jb z8 (jC (z4 (qv 0) z9)) (qv 1))) (L:=0)) z9)) z9))))) (λte pe=>kc (em PySem.F.plainAttrs_list PySem.F.slot_list_append PySem.F.type_list_append wz (pv 5) (vb pe qu))))))
  (zc (oo PassesOwn.leaving rfl (qv 3) (lg rfl (xM (zV (i:=6) zL.nd) (xM (zV (i:=7) zL.nd) lf)))
  (zg (bz (i:=5) (jC (z4 zl (z4 (qv 6) (z4 (zM (jF hr) (qv 7) zb (λ_ _=>rfl)) (z4 (zM (jF hr) (qv 7) zb (λ_ _=>rfl)) (z4 (oy rfl (by rfl) T.yL (zM (jF hr) (qv 7) zb (λ_ _=>rfl))) z9)))))) (λte pe=>kc (em PySem.F.plainAttrs_list PySem.F.slot_list_append PySem.F.type_list_append wz (pv 5) (vb pe qu))))))
  (zc (oo PassesOwn.leaving rfl (qv 4) (lg rfl (xM (zV (i:=8) zL.nd) (xM (zV (i:=7) zL.nd) lf)))
  (zg (bz (i:=5) (jC (z4 zl (z4 (qv 8) (z4 (zM (jF hr) (qv 7) zb (λ_ _=>rfl)) (z4 (qd pR (by rfl) T.yL vQ (z4 (zM (jF hr) (qv 7) zb (λ_ _=>rfl)) z9)) (z4 (zM (jF hr) (qv 7) zb (λ_ _=>rfl)) (z4 (qd pR (by rfl) T.yL vQ (z4 (zM (jF hr) (qv 7) zb (λ_ _=>rfl)) z9)) z9))))))) (λte pe=>kc (em PySem.F.plainAttrs_list PySem.F.slot_list_append PySem.F.type_list_append wz (pv 5) (vb pe qu))))))
  (zg (fL 5)))))))
theorem al:jV P w K mg base 1 "_law_any" ["_law_cell"] k6 :=
 zN.ok3 T.yq kB (λ_ _ _ _ _ _=>xk λ_=>rfl) λf cdv A outer s H E hr=>(zc (zx (i:=1) kB.nd (zB Yu z8 (zB jy z8 (zB wv z8 (qv 0) zb) (zB rJ z8 zb (zB Kg z8 zb zb))) (zB Kg z8 zb zb)))
  (zc (zx (i:=2) kB.nd (zB jb z8 (zM (jF hr) (xI (z4 zl (z4 zl (z4 zl (z4 zl z9))))) (zB jy z8 (zB wv z8 (qv 0) zb) zb) (λ_ _=>rfl)) (qd YO (by rfl) T.yK dB (z4 (zB jy z8 (zB wv z8 (qv 0) zb) zb) z9))))
  (zc (xP (zF tQ z8 (zB jy z8 (qv 0) zb) zb (zu _))
  (zg (fL 1)) zY)
  (zc (xP (zF tQ z8 (zB jy z8 (qv 0) zb) zb (zu _))
  (zg (fL 2)) zY)
  (zc (zx (i:=3) kB.nd (xI (z4 (jC (z4 zl (z4 (jC z9) z9))) (z4 (jC (z4 zl (z4 (jC (z4 (jC (z4 zl (z4 (qv 1) z9))) z9)) z9))) (z4 (jC (z4 zl (z4 (jC (z4 (jC (z4 zl (z4 (qv 2) z9))) (z4 (jC (z4 zl (z4 (jC (z4 zl (z4 (jC z9) z9))) z9))) z9))) z9))) z9)))))
  (zg (zt (zM (jF hr) (zB jb z8 (qv 3) (xI (z4 (jC (z4 zl (z4 zl (z4 (qv 1) z9)))) (z4 (jC (z4 zl (z4 zl (z4 (jC (z4 zl (z4 zl (z4 (qv 2) z9)))) z9)))) z9)))) (zB Yu z8 (zB jy z8 (qv 0) zb) zb) (λ_ _=>rfl)))))))))
theorem fx:jV P w K mg base 1 "_law_truth" ["_law_found","_law_due"] xB :=
 zN.ok3 T.yr iW (λ_ _ _ _ _ _=>xX λ_ _=>rfl) λf cdv A outer s H E hr=>(zg (zt (qc (je kn (by rfl) T.yF jj (z4 (qv 0) (z4 (gn (by rfl) T.yC rA) z9))) (vA (vW (w8 (xE hr)) z8 (qv 0) (qv 1) (zu _))))))
theorem QP {f:Addr}{fd:FuncData}(Fl:k8 K "law" "law" d0 f fd):vg P w K mg base (ut P w) 11 f fd ["_law_script"] (ff K (Kj c)) :=
 k8.ok3 Fl kR λcdv A outer s H E hr=>(zc (zx (i:=1) kR.nd (zm (iZ T) (hr.mono (by omega)) (by rfl) (z4 (zm (nR T) (hr.mono (by omega)) (by rfl) (z4 (qv 0) (z4 zb z9))) z9)))
  (zc (zx (i:=2) kR.nd (dW (uN T T.wI T.yz T.wA) (hr.mono (by omega)) (by rfl) (z4 (zm (lU T) (hr.mono (by omega)) (by rfl) (z4 (qv 1) z9)) z9)))
  (zc (oe (i:=3) kR.nd rfl (by first | exact .inl rfl | exact .inr rfl) rfl (jH.of:jH ["_law_script","_law_world_here","_law_face","_law_bare","_law_cell","_law_value","_law_number","_law_text","_law_title"] (z6 d0) _ "_law_title" ["_law_world_here"] [1]) rfl (pS (zB jb z8 (zM (jF hr) (qv 1) zb (λ_ _=>rfl)) (xI (z4 zl (z4 zl (z4 zl (z4 zl z9))))))) (λcl C ex pn s₀ H₀=>(rV (zF (rK (o9 hr)) z8 (qv 0) (zM (jF hr) (qv 1) zb (λ_ _=>rfl)) (by with_unfolding_all rfl)))) (λcl C ex pn s₀ H₀=>(qv 0)))
  (zc (oe (i:=3) kR.nd rfl (by first | exact .inl rfl | exact .inr rfl) rfl (jH.of:jH ["_law_script","_law_world_here","_law_face","_law_bare","_law_cell","_law_value","_law_number","_law_text","_law_title"] (z6 d0) _ "_law_title" ["_law_world_here"] [1]) rfl (pS (qv 3)) (λcl C ex pn s₀ H₀=>(rV (zF (rK (o9 hr)) z8 (qv 0) (zM (jF hr) (qv 1) zb (λ_ _=>rfl)) (by with_unfolding_all rfl)))) (λcl C ex pn s₀ H₀=>(qv 0)))
  (zc (pQ PassesOwn.leaving rfl (Qu (xz (qv 0) (jg zb) (jg zb))) (zV (i:=4) kR.nd)
  (zc (zx (i:=5) kR.nd (zm (al T) (hr.mono (by omega)) (by rfl) (z4 (qv 4) z9)))
  (zc (zx (i:=6) kR.nd (je kn (by rfl) T.yF jj (z4 (qv 5) (z4 (gn (by rfl) T.yE Yi) z9))))
  (zc (zx (i:=7) kR.nd (je kn (by rfl) T.yF jj (z4 (qv 5) (z4 (gn (by rfl) T.yK dB) z9))))
  (zc (xP (mP (qy (jp (zm (fx T) (hr.mono (by omega)) (by rfl) (z4 (zm (cA T) (hr.mono (by omega)) (by rfl) (z4 (qv 2) (z4 zl (z4 (qv 5) z9)))) (z4 (qv 6) z9))) (λ_=>rfl))) (fH (qy (jp (zm (fx T) (hr.mono (by omega)) (by rfl) (z4 (zm (cA T) (hr.mono (by omega)) (by rfl) (z4 (qv 2) (z4 zl (z4 (qv 5) z9)))) (z4 (qv 7) z9))) (λ_=>rfl))))).pt
  (zg (zt pJ)) zY)
  (zg (pQ PassesOwn.leaving rfl (Pd 3) (zV (i:=8) kR.nd)
  (zg (xP (zF QN z8 (zm (cA T) (hr.mono (by omega)) (by rfl) (z4 (qv 2) (z4 (qv 8) (z4 (qv 5) z9)))) pJ (zu _))
  (zg (zt pJ)) zY)))))))))
  (zg (zt pJ)))))))
theorem Wj {C:Addr}(F:∃ f fd,k8 K "forms" "Kind.forms" ua f fd/\vf K C "forms" f)(hc:k7 K C):j7 P w K mg base 1 C "forms" ["self"] (cr c) :=
 j7.ok F hc iX (λ_ _ _ _ _ _=>xk λ_=>rfl) λf cdv A outer s H E hr=>(zg (zt (xI z9)))
theorem JM {C:Addr}(F:∃ f fd,k8 K "forms" "Choice.forms" k0 f fd/\vf K C "forms" f)(hc:k7 K C):j7 P w K mg base 1 C "forms" ["self"] (lO c) :=
 j7.ok F hc nP (λ_ _ _ _ _ _=>xk λ_=>rfl) λf cdv A outer s H E hr=>(zg (zt (gS rfl (jH.of:jH ["self"] (z6 k0) _ "part" [] []) rfl (pS (eN (λC h=>(List.mem_cons.mp h).elim (λe=>e ▸ ⟨T.wF,T.wY⟩) λh=>(List.mem_cons.mp h).elim (λe=>e ▸ ⟨T.yy,T.wS⟩) λh=>nomatch h) (qv 0))) (λcl C ex pn s₀ H₀=>vo) (λcl C ex pn s₀ H₀=>(zM (jF hr) (qv 0) zb (λ_ _=>rfl))) (L:=0))))
end
def qH (h:jT t env=.ok true):xi t a b env=a env:=by
 unfold xi;rw [h]
 rfl
def j5 (h:jT t env=.ok false):xi t a zw env=.nx env:=by
 unfold xi;rw [h]
 rfl
def zf (h:a e=.nx e'):ze a b e=b e':=by unfold ze;rw [h]
def pz (h:a e=.rt r):ze a b e=.rt r:=by unfold ze;rw [h]
def vz (h:jT t env=.ok true)(g:a env=.rt r):ze (xi t a zw) c env=.rt r:=pz ((qH h).trans g)
def vC (h:a env=.ok r)(g:m env=.ok rs):z3 a m env=.ok (r :: rs):=by
 unfold z3;rw [h,bind_ok,g]
 rfl
def v2 (h:a env=.ok (p,x))(g:b env=.ok (q,y))(k:f x y=some r):m2 f a b env=.ok r:=by
 unfold m2;rw [h,bind_ok,g,bind_ok];show ZK (f x y)=_;rw [k]
 rfl
def vF (h:m env=.ok rs)(g:f rs=.ok r):za f m env=.ok r:=by
 unfold za;rw [h];exact g
def vK (h:m env=.ok rs)(g:f (rs.map (·.2))=some r):zE f m env=.ok r:=by
 unfold zE;rw [h,bind_ok,g]
 rfl
def vL (h:m env=.ok rs)(e:rs.map (·.2)=ts)(hl:Nat.ble rs.length 100=true):jS m env=.ok (true,.lst ts):=by
 unfold jS;rw [h,bind_ok,if_pos (Nat.le_trans (Nat.le_of_ble_eq_true hl) (by decide)),e]
def vV (h:env[i]? = some (some (b,t))):mV i env=.ok (false,t):=by
 unfold mV;rw [h]
def vT (h:m env=.ok (p,.bl b)):jr m env=.ok b:=by
 unfold jr;rw [h]
 rfl
def av (h:a env=.ok (p,.bl true))(g:b env=.ok r):jk a b env=.ok r:=by
 unfold jk;rw [h];exact g
def XB (h:a env=.ok x)(g:b env=.ok y):xU a b env=.ok (x && y):=by
 unfold xU;rw [h,bind_ok];cases x
 ·rfl
 ·exact g
def vS (a:m env=.ok (p,x))(b:ml env=.ok l)(c:mh env=.ok h)(d:Yz x l h=some r):qR m ml mh env=.ok r:=by
 unfold qR;rw [a,bind_ok,b,bind_ok,c,bind_ok,d]
 rfl
def vP (h:m env=.ok rs)(e:rs.map (·.2)=ts)(hl:Nat.ble rs.length 100=true):zP m env=.ok (false,.tup ts):=by
 unfold zP;rw [h,bind_ok,if_pos (Nat.le_trans (Nat.le_of_ble_eq_true hl) (by decide)),e]
def oJ (h:a env=.ok false)(g:b env=x):kb a b env=x:=by
 unfold kb;rw [h];exact g
def am (h:m env=.ok (p,.bl true)):jR (ka m) env=.ok false:=by
 unfold jR ka;rw [h]
 rfl
def vB (h:a env=.ok r)(g:m env=.bad):z3 a m env=.bad:=by
 unfold z3;rw [h,bind_ok,g]
 rfl
def Ny (h:m env=.bad):zP m env=.bad:=by
 unfold zP;rw [h]
 rfl
def vN (h:m env=.ok (p,.int i)):zC m env=.ok (some i):=by
 unfold zC;rw [h]
 rfl
def j9 (h:m (zZ env)=.ok b):jT m env=.ok b:=by
 unfold jT;rw [h]
def zT (hl:rs.length=k)(h:mb (we n rs)=.rt r):zy n k mb rs=.ok r:=by
 unfold zy;rw [if_pos hl,h]
 rfl
def zj (h:m (zZ env)=.ok r):zn i m env=.nx (env.set i (some r)):=by
 unfold zn xm;rw [h]
def zA (h:m (zZ env)=.ok r):zq m env=.rt r:=by
 unfold zq xm;rw [h]
def XC (h:a env=.ok false):xU a b env=.ok false:=by
 unfold xU;rw [h]
 rfl
def fy (h:jT t env=.ok false):zU t b (n + 1) env=.nx env:=by
 unfold zU;rw [h]
 rfl
def d6 (h:jT t env=.ok true)(g:b env=.nx e):zU t b (n + 1) env=zU t b n e:=by
 conv=>lhs;unfold zU
 rw [h];dsimp only;rw [if_pos rfl,g]
def Z9 (h:jT t env=.ok true)(g:b env=.rt r):zU t b (n + 1) env=.rt r:=by
 conv=>lhs;unfold zU
 rw [h];dsimp only;rw [if_pos rfl,g]
def Pp (h:jT t env=.ok true)(g:b env=.nx e):ze (zU t b (n + 1)) c env=ze (zU t b n) c e:=by
 unfold ze;rw [d6 h g]
def QQ (h:m env=.ok true):fI m a b env=a env:=by
 unfold fI;rw [h]
 rfl
def QR (h:m env=.ok false):fI m a b env=b env:=by
 unfold fI;rw [h]
 rfl
def Za (h:z.length<=sizeLine):vY [.str z]=some (false,.int (z.length:Int)):=if_pos h
def QS (h:decide (i < j)=b):ga (.int i) (.int j)=some (false,.bl b):=by
 rw [<- h]
 rfl
def lV (h:env[i]? = some (some (true,.lst ts)))(hm:m (zZ env)=.ok r)(hl:ts.length < sizeLine):gb i m env=.nx (env.set i (some (true,.lst (ts ++ [r.2])))):=by
 unfold gb xm;rw [h,hm];dsimp only;rw [h];dsimp only;rw [if_pos hl]
def w6 (hH:m (zZ env)=.bad)(hE:m env=.ok b):jT m env=.ok b:=by
 unfold jT;rw [hH,hE]
def kD (hE:m env=.ok r)(hH:m (zZ env)=.bad):zq m env=.rt r:=by
 unfold zq xm;rw [hH,hE]
def Pq (h:mV i env=.ok (false,.lst ts))(e:ts.isEmpty=b):ka (mV i) env=.ok (!b):=by
 unfold ka;rw [h,<- e]
 rfl
def QT (h:env[i]? = some (some (true,.lst ts)))(e:ts.isEmpty=false):mS i env=.nx (env.set i (some (true,.lst ts.dropLast))):=by
 unfold mS;rw [h];dsimp only;rw [if_neg λz=>by rw [z] at e;cases e]
def N4 (h:a env=.ok true):kb a b env=.ok true:=by
 unfold kb;rw [h]
 rfl
def fB (h:m (zZ env)=.ok r):xm m env=.ok (r,env):=by
 unfold xm;rw [h]
def lW (hv:xm mv env=.ok (r,env))(hi:env[i]? = some (some (true,.lst ts)))(hk:mk (zZ env)=.ok (p,.int k))(hx:aR ts.length k=some j):wd i mk mv env=.nx (env.set i (some (true,.lst (ts.set j r.2)))):=by
 unfold wd;rw [hv];dsimp only;rw [hi];dsimp only;rw [fB hk];dsimp only;rw [hi];dsimp only;rw [hx]
def ao (h1:YH r=true)(h2:YI r=true)(h3:YJ r=true):L3.clean env r=true:=by
 unfold L3.clean;simp [h1,h2,h3]
def d7 (a:Int)(h:0 < b):zS (.int a) (.int b)=some (false,.int (a % b)):=if_pos h
def M6 (h:a env=.bad):z3 a m env=.bad:=by
 unfold z3;rw [h]
 rfl
def M7 (h:a env=.ok r)(g:b env=.bad):m2 f a b env=.bad:=by
 unfold m2;rw [h,bind_ok,g]
 rfl
def N5 (h:a env=.ok (p,.bl x))(g:b env=.ok (false,.bl y)):jk a b env=.ok (false,.bl (x && y)):=by
 unfold jk;rw [h];cases x
 ·rfl
 ·exact g
def Nz (h:a env=.ok (p,.bl x))(g:b env=.ok (false,.bl y)):iG a b env=.ok (false,.bl (x || y)):=by
 unfold iG;rw [h];cases x
 ·exact g
 ·rfl
def NA (h:a env=.ok (p,.bl x)):qQ a env=.ok (false,.bl (!x)):=by
 unfold qQ;rw [h]
 rfl
def Pr (h:decide (i<=j)=b):Yv (.int i) (.int j)=some (false,.bl b):=by
 rw [<- h]
 rfl
def QU (h:decide (j < i)=b):pK (.int i) (.int j)=some (false,.bl b):=by
 rw [<- h]
 rfl
def N6 (h:a env=.ok (p,.bl false)):jk a b env=.ok (false,.bl false):=by
 unfold jk;rw [h]
 rfl
def Zb (l:List α)(e:Nat):mz l (e:Int)=l[e]? := by
 cases h:l[e]? with
 | some v=>exact WE h
 | none =>
  have hl:l.length<=e:=by simpa using h
  have e1:aR l.length (e:Int)=none:=by
   unfold aR;rw [if_pos (by omega),if_neg (by omega)]
  unfold mz;rw [e1]
  rfl
def XD (c:Nat)(z:Str):pN (.str ⟨#[c]⟩) (.str z)=some (false,.bl (decide (c∈z.cps.toList))):=by
 show Option.map _ (some (!(Builtin.Str.occurrences z ⟨#[c]⟩ 0 z.length 1).isEmpty))=_;rw [StrLaws.found_one]
 rfl
def cB (z sg:Str)(s:Int)(hz:z.length<=sizeLine):∀ (n e fuel:Nat),z.length - e=n->e<=z.length->n < fuel ->
  zU (xU (jr (m2 ga (mV 3) (zE vY (z3 (mV 0) z5)))) (jr (m2 pN (m2 zo (mV 0) (mV 3)) (mV 2)))) (iH 3 pP (mC (.int 1))) fuel
   [some (false,.str z),some (false,.int s),some (false,.str sg),some (false,.int e)] =
  .nx [some (false,.str z),some (false,.int s),some (false,.str sg),some (false,.int (Fs.runEnd z.cps.toList e sg.cps.toList))]:=by
 intro n
 induction n with
 | zero =>
  intro e fuel hn he hf;obtain ⟨f,rfl⟩:∃ f,fuel=f + 1:=⟨fuel - 1,by omega⟩
  have hl:¬ ((e:Int) < (z.length:Int)):=by omega
  rw [Fs.runEnd_out (by show z.cps.size<=e;have:z.length=z.cps.size:=rfl;omega)];exact fy (j9 (XC (vT (v2 rfl (vK (vC rfl rfl) (Za hz)) (QS (decide_eq_false hl))))))
 | succ n ih =>
  intro e fuel hn he hf;obtain ⟨f,rfl⟩:∃ f,fuel=f + 1:=⟨fuel - 1,by omega⟩
  have hl:(e:Int) < (z.length:Int):=by omega
  have hlt:e < z.cps.toList.length:=by have:z.length=z.cps.size:=rfl;simp;omega
  obtain ⟨c,hget⟩:∃ c,z.cps.toList[e]? = some c:=⟨z.cps.toList[e],List.getElem?_eq_getElem hlt⟩
  have hx:zo (.str z) (.int (e:Int))=some (false,.str ⟨#[c]⟩):=by
   show (if z.length<=sizeLine then (mz z.cps.toList (e:Int)).map _ else none)=_;rw [if_pos hz,Zb,hget]
   rfl
  have ht:jT (xU (jr (m2 ga (mV 3) (zE vY (z3 (mV 0) z5)))) (jr (m2 pN (m2 zo (mV 0) (mV 3)) (mV 2)))) [some (false,.str z),some (false,.int s),some (false,.str sg),some (false,.int (e:Int))]=.ok (true && decide (c∈sg.cps.toList)):=j9 (XB (vT (v2 rfl (vK (vC rfl rfl) (Za hz)) (QS (decide_eq_true hl)))) (vT (v2 (v2 rfl rfl hx) rfl (XD c sg))))
  by_cases hm:c∈sg.cps.toList
  ·rw [<- Fs.runEnd_go hget hm,<- ih (e + 1) f (by omega) (by omega) (by omega)]
   rw [decide_eq_true hm] at ht;exact d6 ht rfl
  ·rw [Fs.runEnd_stop hget hm]
   rw [decide_eq_false hm] at ht;exact fy ht
def lX (z sg:Str)(s:Nat)(hz:z.length<=sizeLine)(h2:z.length < 99999)(hs:s<=z.length) :
  gT [(false,.str z),(false,.int s),(false,.str sg)]=.ok (false,.int (Fs.runEnd z.cps.toList s sg.cps.toList)):=by
 have h:=cB z sg s hz (z.length - s) s 100000 rfl hs (by omega);exact zT rfl ((zf (zj rfl)).trans (zf h))
def oK:("abcdefghijklmnopqrstuvwxyz" : Str).cps.toList=Fs.letters:=by decide +kernel
def oM:("0123456789" : Str).cps.toList=Fs.figures:=by decide +kernel
def Ps:("." : Str)=⟨#[46]⟩:=by decide +kernel
def N7:("(" : Str)=⟨#[40]⟩:=by decide +kernel
def QV:(")" : Str)=⟨#[41]⟩:=by decide +kernel
def XE:("&" : Str)=⟨#[38]⟩:=by decide +kernel
def XF:("#" : Str)=⟨#[35]⟩:=by decide +kernel
def gK (i j:Int):zO (.int i) (.int j)=some (false,.bl (decide (i=j))):=by
 simp [zO,nI,rG];exact Bool.eq_iff_iff.mpr (by simp)
def kU (x y:Str):zO (.str x) (.str y)=some (false,.bl (decide (x=y))):=by
 simp [zO,nI,rG];exact Bool.eq_iff_iff.mpr (by simp)
def cC (x y:Str):uC (.str x) (.str y)=some (false,.bl (!decide (x=y))):=by
 simp [uC,nI,rG];exact Bool.eq_iff_iff.mpr (by simp)
def wt (h:mV i env=.ok (false,t))(hx:zo t (.int 0)=some (false,.str w))(hb:decide (w=v)=b):jr (m2 zO (m2 zo (mV i) (mC (.int 0))) (mC (.str v))) env=.ok b:=by
 rw [<- hb];exact vT (v2 (v2 h rfl hx) rfl (kU w v))
def QW {z y:Str}{e c:Nat}(hy:y=⟨#[c]⟩):zO (.str (nH z (some (e:Int)) (some ((e:Int) + 1)))) (.str y)=some (false,.bl (decide (z.cps.toList[e]? = some c))):=by
 rw [kU,<- rD (z:=z) (e:=e) hy]
 congr 3
 exact decide_eq_decide.mpr ⟨λh=>by rw [h],λh=>by injection h⟩
def N8:ME:=qR (mV 0) (zC (mV 2)) (zC (m2 zr (mV 2) (mC (.int 1))))
def XG (hz:z.length<=sizeLine)(h0:mV 0 env=.ok (false,.str z))(h2:mV 2 env=.ok (false,.int (e:Int))):N8 env=.ok (false,.str (nH z (some (e:Int)) (some ((e:Int) + 1)))):=vS h0 (vN h2) (vN (v2 h2 rfl rfl)) (if_pos hz)
def ap {z y:Str}{c:Nat}(hy:y=⟨#[c]⟩)(hz:z.length<=sizeLine){e:Nat}{env:En}(h0:mV 0 env=.ok (false,.str z))(h2:mV 2 env=.ok (false,.int (e:Int))):jr (m2 zO (qR (mV 0) (zC (mV 2)) (zC (m2 zr (mV 2) (mC (.int 1))))) (mC (.str y))) env=.ok (decide (z.cps.toList[e]? = some c)):=vT (v2 (XG hz h0 h2) rfl (QW hy))
def gL (z:Str)(s:Nat)(hz:z.length<=sizeLine)(h2:z.length < 99999)(hs:s<=z.length) :
  jM [(false,.str z),(false,.int s)]=.ok (false,.int (Fs.nameEnd z.cps.toList s)):=by
 have h:=lX z "abcdefghijklmnopqrstuvwxyz" s hz h2 hs;rw [oK] at h;have hge:=Fs.runEnd_ge z.cps.toList s Fs.letters;unfold Fs.nameEnd
 by_cases h12:Fs.runEnd z.cps.toList s Fs.letters - s<=12
 ·have hi:(Fs.runEnd z.cps.toList s Fs.letters:Int) - (s:Int)<=12:=by omega
  rw [if_pos h12];exact zT rfl ((zf (zj (vF (vC rfl (vC rfl (vC rfl rfl))) h))).trans (zA ((QQ (vT (v2 (v2 rfl rfl rfl) rfl (Pr (decide_eq_true hi))))).trans rfl)))
 ·have hi:¬ ((Fs.runEnd z.cps.toList s Fs.letters:Int) - (s:Int)<=12):=by omega
  rw [if_neg h12];exact zT rfl ((zf (zj (vF (vC rfl (vC rfl (vC rfl rfl))) h))).trans (zA ((QR (vT (v2 (v2 rfl rfl rfl) rfl (Pr (decide_eq_false hi))))).trans rfl)))
def hI (z:Str)(s:Nat)(hz:z.length<=sizeLine)(h2:z.length < 99999)(hs:s + 1<=z.length) :
  wm [(false,.str z),(false,.int s)]=.ok (false,.int (Fs.numberEnd z.cps.toList s)):=by
 have h:=lX z "0123456789" (s + 1) hz h2 hs;rw [oM] at h;have hc:((s + 1:Nat):Int)=(s:Int) + 1:=by omega
 rw [hc] at h;unfold Fs.numberEnd
 by_cases h12:s + 1 < Fs.runEnd z.cps.toList (s + 1) Fs.figures
 ·have hi:(s:Int) + 1 < (Fs.runEnd z.cps.toList (s + 1) Fs.figures:Int):=by omega
  rw [if_pos h12];exact zT rfl ((zf (zj (vF (vC rfl (vC (v2 rfl rfl rfl) (vC rfl rfl))) h))).trans (zA ((QQ (vT (v2 rfl (v2 rfl rfl rfl) (QU (decide_eq_true hi))))).trans rfl)))
 ·have hi:¬ ((s:Int) + 1 < (Fs.runEnd z.cps.toList (s + 1) Fs.figures:Int)):=by omega
  rw [if_neg h12];exact zT rfl ((zf (zj (vF (vC rfl (vC (v2 rfl rfl rfl) (vC rfl rfl))) h))).trans (zA ((QR (vT (v2 rfl (v2 rfl rfl rfl) (QU (decide_eq_false hi))))).trans rfl)))
def lY (z:Str)(hz:z.length<=sizeLine)(h2:z.length < 99999):jX [(false,.str z)]=.ok (false,.bl (Fs.isName z.cps.toList)):=by
 have h:=gL z 0 hz h2 (Nat.zero_le _);have hl:z.cps.toList.length=z.length:=by simp [Str.length]
 have he:(z = "")↔z.cps.toList=[]:=by
  constructor
  ·rintro rfl;decide +kernel
  ·intro h
   obtain ⟨cps⟩:=z;simp at h;subst h
   decide +kernel
 have hn:(decide (z.cps.toList=[]))=decide (z = ""):=decide_eq_decide.mpr he.symm;unfold Fs.isName;rw [hl,hn];have h:jM [(false,.str z),(false,.int 0)]=.ok (false,.int (Fs.nameEnd z.cps.toList 0)):=h
 by_cases h0:z = ""
 ·have n0:=cC z ""
  rw [decide_eq_true h0] at n0;rw [decide_eq_true h0];exact zT rfl (zA (N6 (v2 rfl rfl n0)))
 ·have n0:=cC z ""
  rw [decide_eq_false h0] at n0;rw [decide_eq_false h0];have e:=gK (Fs.nameEnd z.cps.toList 0:Int) (z.length:Int);rw [show decide ((Fs.nameEnd z.cps.toList 0:Int)=(z.length:Int))=decide (Fs.nameEnd z.cps.toList 0=z.length) from decide_eq_decide.mpr (by omega)] at e;exact zT rfl (zA (av (v2 rfl rfl n0) (v2 (vF (vC rfl (vC rfl rfl)) h) (vK (vC rfl rfl) (Za hz)) e)))
def xC (z:Str):z.cps.toList.length=z.length:=by simp [Str.length]
def aq (z:Str)(s:Int)(hz:z.length<=sizeLine)(hz2:z.length < 99999):∀ (n e fuel:Nat) (v:Option RV),qS v=v->z.length - e<=n->e<=z.length->n < fuel ->
  ze (zU (jr (m2 zO (qR (mV 0) (zC (mV 2)) (zC (m2 zr (mV 2) (mC (.int 1))))) (mC (.str "."))))
   (ze (zn 3 (za jM (z3 (mV 0) (z3 (m2 zr (mV 2) (mC (.int 1))) z5))))
   (ze (xi (jr (m2 zO (mV 3) (m2 zr (mV 2) (mC (.int 1))))) (wx 2) zw) (zn 2 (mV 3)))) fuel) (wx 2)
   [some (false,.str z),some (false,.int s),some (false,.int e),v]=.rt (false,.int (Fs.pointsEnd z.cps.toList e)):=by
 have ht:∀ (e:Nat) (v:Option RV),jT (jr (m2 zO (qR (mV 0) (zC (mV 2)) (zC (m2 zr (mV 2) (mC (.int 1))))) (mC (.str ".")))) [some (false,.str z),some (false,.int s),some (false,.int e),v]=.ok (decide (z.cps.toList[e]? = some 46)):=λe v=>j9 (ap Ps hz rfl rfl);intro n
 induction n with
 | zero =>
  intro e fuel v hv hn he hf;obtain ⟨f,rfl⟩:∃ f,fuel=f + 1:=⟨fuel - 1,by omega⟩
  have h:¬ z.cps.toList[e]? = some 46:=λh=>by have:=(List.getElem?_eq_some_iff.mp h).1;rw [xC] at this;omega
  have ht:=ht e v;rw [decide_eq_false h] at ht;rw [Fs.pe_no h];exact zf (fy ht)
 | succ n ih =>
  intro e fuel v hv hn he hf;obtain ⟨f,rfl⟩:∃ f,fuel=f + 1:=⟨fuel - 1,by omega⟩
  have ht:=ht e v
  by_cases h:z.cps.toList[e]? = some 46
  ·have hl:e < z.length:=by have:=(List.getElem?_eq_some_iff.mp h).1;rwa [xC] at this
   rw [decide_eq_true h] at ht;have hne:=gL z (e + 1) hz hz2 hl;have hc:((e + 1:Nat):Int)=(e:Int) + 1:=by omega
   rw [hc] at hne;have hq:=gK (Fs.nameEnd z.cps.toList (e + 1):Int) ((e:Int) + 1)
   by_cases h2:e + 1 < Fs.nameEnd z.cps.toList (e + 1)
   ·have h3:=Fs.nameEnd_lt h2
    rw [xC] at h3;rw [decide_eq_false (by omega)] at hq;rw [Fs.pe_go h h2,<- ih (Fs.nameEnd z.cps.toList (e + 1)) f (some (false,.int (Fs.nameEnd z.cps.toList (e + 1)))) rfl (by omega) h3.2 (by omega)];exact Pp ht ((zf (zj (vF (vC rfl (vC (v2 rfl rfl rfl) rfl)) hne))).trans ((zf (j5 (j9 (vT (v2 rfl (v2 rfl rfl rfl) hq))))).trans (zj rfl)))
   ·have hi:(Fs.nameEnd z.cps.toList (e + 1):Int)=(e:Int) + 1:=by have:=Fs.nameEnd_ge z.cps.toList (e + 1);omega
    rw [decide_eq_true hi] at hq;rw [Fs.pe_bad h h2];exact pz (Z9 ht ((zf (zj (vF (vC rfl (vC (v2 rfl rfl rfl) rfl)) hne))).trans (vz (j9 (vT (v2 rfl (v2 rfl rfl rfl) hq))) rfl)))
  ·rw [decide_eq_false h] at ht
   rw [Fs.pe_no h];exact zf (fy ht)
def fD (z:Str)(s:Nat)(hz:z.length<=sizeLine)(h2:z.length < 99999)(hs:s<=z.length) :
  jN [(false,.str z),(false,.int s)]=.ok (false,.int (Fs.pointsEnd z.cps.toList s)):=by
 have h:=aq z s hz h2 (z.length - s) s 100000 none rfl (Nat.le_refl _) hs (by omega);exact zT rfl ((zf (zj rfl)).trans h)
def gc (st:List Nat):List T:=st.reverse.map λc=>T.str ⟨#[c]⟩
def ql (st:List Nat)(c:Nat):gc st ++ [T.str ⟨#[c]⟩]=gc (c :: st):=by simp [gc]
def qI (st:List Nat):(gc st).length=st.length:=by simp [gc]
def XH (st:List Nat)(c:Nat):(gc (c :: st)).dropLast=gc st:=by rw [<- ql,List.dropLast_concat]
def au (n:Nat):aR (n + 1) (-1)=some n:=by
 unfold aR;simp;omega
def QX (st:List Nat)(c:Nat):mz (gc (c :: st)) (-1)=some (T.str ⟨#[c]⟩):=by
 unfold mz;rw [qI,List.length_cons,au];show (gc (c :: st))[st.length]? = _;rw [<- ql,List.getElem?_append_right (by rw [qI];exact Nat.le_refl _),qI];simp
def cD (st:List Nat)(c:Nat):zo (.lst (gc (c :: st))) (.int (-1))=some (false,.str ⟨#[c]⟩):=by
 show (mz (gc (c :: st)) (-1)).map _=_;rw [QX]
 rfl
def Vq (st:List Nat)(c d:Nat):(gc (c :: st)).set st.length (T.str ⟨#[d]⟩)=gc (d :: st):=by
 rw [<- ql,<- ql,List.set_append_right _ _ (by rw [qI];exact Nat.le_refl _),qI];simp
def cF (st:List Nat)(c:Nat):(gc (c :: st)).isEmpty=false:=by
 rw [<- ql];cases gc st<;>rfl
def Vr (hy:y=⟨#[d]⟩):zO (.str ⟨#[c]⟩) (.str y)=some (false,.bl (decide (c=d))):=by
 rw [kU];subst hy
 congr 3
 exact decide_eq_decide.mpr ⟨λh=>by injection h with h;simpa using h,λh=>by rw [h]⟩
def Vs (hy:y=⟨#[d]⟩):uC (.str ⟨#[c]⟩) (.str y)=some (false,.bl (!decide (c=d))):=by
 rw [cC];subst hy
 congr 4
 exact decide_eq_decide.mpr ⟨λh=>by injection h with h;simpa using h,λh=>by rw [h]⟩
def QY {z y:Str}{e c:Nat}(hy:y=⟨#[c]⟩):uC (.str (nH z (some (e:Int)) (some ((e:Int) + 1)))) (.str y)=some (false,.bl (!decide (z.cps.toList[e]? = some c))):=by
 rw [cC,<- rD (z:=z) (e:=e) hy]
 congr 4
 exact decide_eq_decide.mpr ⟨λh=>by rw [h],λh=>by injection h⟩
def Jf (z:Str)(hz:z.length < sizeLine):∀ (n b fuel:Nat) (st:List Nat) (v:Option RV),qS v=v->(∀ t∈st,t=38\/t=41)->z.length - b<=n->b<=z.length->st.length<=b->n < fuel ->
  ∃ (b':Nat) (tt:List Nat),zU (jr (m2 zO (qR (mV 0) (zC (mV 2)) (zC (m2 zr (mV 2) (mC (.int 1))))) (mC (.str "(")))) (ze (gb 1 (mC (.str "&"))) (iH 2 pP (mC (.int 1)))) fuel
   [some (false,.str z),some (true,.lst (gc st)),some (false,.int b),v]=.nx [some (false,.str z),some (true,.lst (gc tt)),some (false,.int b'),v] /\
   ¬ z.cps.toList[b']? = some 40/\b<=b'/\b'<=z.length/\tt.length<=b'/\(∀ t∈tt,t=38\/t=41)/\Fs.ans z.cps.toList tt b'=Fs.ans z.cps.toList st b:=by
 have hz':z.length<=sizeLine:=Nat.le_of_lt hz;have ht:∀ (b:Nat) (st:List Nat) (v:Option RV),jT (jr (m2 zO (qR (mV 0) (zC (mV 2)) (zC (m2 zr (mV 2) (mC (.int 1))))) (mC (.str "(")))) [some (false,.str z),some (true,.lst (gc st)),some (false,.int b),v]=.ok (decide (z.cps.toList[b]? = some 40)):=λb st v=>j9 (ap N7 hz' rfl rfl);intro n
 induction n with
 | zero =>
  intro b fuel st v hv hst hn hb hl hf;obtain ⟨f,rfl⟩:∃ f,fuel=f + 1:=⟨fuel - 1,by omega⟩
  have h:¬ z.cps.toList[b]? = some 40:=λh=>by have:=(List.getElem?_eq_some_iff.mp h).1;rw [xC] at this;omega
  have ht:=ht b st v;rw [decide_eq_false h] at ht;exact ⟨b,st,fy ht,h,Nat.le_refl _,hb,hl,hst,rfl⟩
 | succ n ih =>
  intro b fuel st v hv hst hn hb hl hf;obtain ⟨f,rfl⟩:∃ f,fuel=f + 1:=⟨fuel - 1,by omega⟩
  have ht:=ht b st v
  by_cases h:z.cps.toList[b]? = some 40
  ·have hbl:b < z.length:=by have:=(List.getElem?_eq_some_iff.mp h).1;rwa [xC] at this
   rw [decide_eq_true h] at ht
   obtain ⟨b',tt,e,h1,h2,h3,h4,h5,h6⟩:=ih (b + 1) f (38 :: st) v hv (λt ht=>by
    rcases List.mem_cons.mp ht with rfl | ht
    ·exact .inl rfl
    ·exact hst t ht) (by omega) hbl (by rw [List.length_cons];omega) (by omega)
   refine ⟨b',tt,?_,h1,by omega,h3,h4,h5,by rw [h6,<- Fs.ans_open h]⟩;have hsl:st.length < sizeLine:=by omega
   rw [<- e,<- ql,<- XE];exact d6 ht ((zf (lV (r:=(false,.str "&")) rfl rfl (by rw [qI];exact hsl))).trans rfl)
  ·rw [decide_eq_false h] at ht
   exact ⟨b,st,fy ht,h,Nat.le_refl _,hb,hl,hst,rfl⟩
def QZ (cs:List Nat)(uu:List Nat)(c:Nat):Bool:=match uu with
 | []=>false
 | t :: _=>decide (t=41) && decide (cs[c]? = some 41)
def oN (z:Str)(hz:z.length<=sizeLine)(hz2:z.length < 99999):∀ (n c fuel:Nat) (uu:List Nat) (v:Option RV),qS v=v->(∀ t∈uu,t=38\/t=41)->uu.length<=n->c<=z.length->n < fuel ->
  ∃ (c':Nat) (ww:List Nat),zU (xU (ka (mV 1)) (xU (jr (m2 zO (m2 zo (mV 1) (mQ (mC (.int 1)))) (mC (.str ")")))) (jr (m2 zO (qR (mV 0) (zC (mV 2)) (zC (m2 zr (mV 2) (mC (.int 1))))) (mC (.str ")"))))))
   (ze (mS 1) (zn 2 (za jN (z3 (mV 0) (z3 (m2 zr (mV 2) (mC (.int 1))) z5))))) fuel
   [some (false,.str z),some (true,.lst (gc uu)),some (false,.int c),v]=.nx [some (false,.str z),some (true,.lst (gc ww)),some (false,.int c'),v] /\
   QZ z.cps.toList ww c'=false/\c<=c'/\c'<=z.length/\ww.length<=uu.length/\(∀ t∈ww,t=38\/t=41)/\Fs.contP z.cps.toList ww c'=Fs.contP z.cps.toList uu c:=by
 have no:∀ (t:MT) (c:Nat) (uu:List Nat) (v:Option RV) (x:Bool),xU (ka (mV 1)) t [some (false,.str z),some (true,.lst (gc uu)),some (false,.int c),v]=.ok x->jT (xU (ka (mV 1)) t) [some (false,.str z),some (true,.lst (gc uu)),some (false,.int c),v]=.ok x:=λt c uu v x h=>w6 rfl h;have ht:∀ (c t:Nat) (uu:List Nat) (v:Option RV),jT (xU (ka (mV 1)) (xU (jr (m2 zO (m2 zo (mV 1) (mQ (mC (.int 1)))) (mC (.str ")")))) (jr (m2 zO (qR (mV 0) (zC (mV 2)) (zC (m2 zr (mV 2) (mC (.int 1))))) (mC (.str ")")))))) [some (false,.str z),some (true,.lst (gc (t :: uu))),some (false,.int c),v]=.ok (decide (t=41) && decide (z.cps.toList[c]? = some 41)):=λc t uu v=>no _ _ _ _ _ (XB (x:=true) (Pq rfl (cF uu t)) (XB (vT (v2 (v2 rfl rfl (cD uu t)) rfl (Vr QV))) (ap QV hz rfl rfl)));intro n
 induction n with
 | zero =>
  intro c fuel uu v hv hu hn hc hf;obtain ⟨f,rfl⟩:∃ f,fuel=f + 1:=⟨fuel - 1,by omega⟩
  have:uu=[]:=List.length_eq_zero_iff.mp (Nat.le_zero.mp hn);subst this;exact ⟨c,[],fy (no _ _ _ _ _ (XC rfl)),rfl,Nat.le_refl _,hc,Nat.le_refl _,hu,rfl⟩
 | succ n ih =>
  intro c fuel uu v hv hu hn hc hf;obtain ⟨f,rfl⟩:∃ f,fuel=f + 1:=⟨fuel - 1,by omega⟩
  cases uu with
  | nil=>exact ⟨c,[],fy (no _ _ _ _ _ (XC rfl)),rfl,Nat.le_refl _,hc,Nat.le_refl _,hu,rfl⟩
  | cons t uu =>
   have ht:=ht c t uu v
   by_cases h:t=41/\z.cps.toList[c]? = some 41
   ·obtain ⟨rfl,h⟩:=h
    have hcl:c < z.length:=by have:=(List.getElem?_eq_some_iff.mp h).1;rwa [xC] at this
    rw [decide_eq_true h] at ht;have hpe:=fD z (c + 1) hz hz2 hcl;have hcc:((c + 1:Nat):Int)=(c:Int) + 1:=by omega
    rw [hcc] at hpe;have hge:=Fs.pointsEnd_ge z.cps.toList _ (c + 1) (Nat.le_refl _);rw [xC] at hge;obtain ⟨c',ww,e,h1,h2,h3,h4,h5,h6⟩:=ih (Fs.pointsEnd z.cps.toList (c + 1)) f uu v hv (λt ht=>hu t (List.mem_cons_of_mem _ ht)) (by rw [List.length_cons] at hn;omega) (hge.2 hcl) (by omega);refine ⟨c',ww,?_,h1,by omega,h3,by rw [List.length_cons];omega,h5,by rw [h6,<- Fs.contP_close h]⟩;rw [<- e,<- XH uu 41];exact d6 ht ((zf (QT rfl (cF uu 41))).trans (zj (vF (vC rfl (vC (v2 rfl rfl rfl) rfl)) hpe)))
   ·rw [<- Bool.decide_and,decide_eq_false h] at ht
    exact ⟨c,t :: uu,fy ht,(Bool.decide_and _ _).symm.trans (decide_eq_false h),Nat.le_refl _,hc,Nat.le_refl _,hu,rfl⟩
def uh:MS:=(ze (zU (jr (m2 zO (qR (mV 0) (zC (mV 2)) (zC (m2 zr (mV 2) (mC (.int 1))))) (mC (.str "("))))
  (ze (gb 1 (mC (.str "&")))
  (iH 2 pP (mC (.int 1)))) 100000)
  (ze (zn 3 (fI (jr (m2 zO (qR (mV 0) (zC (mV 2)) (zC (m2 zr (mV 2) (mC (.int 1))))) (mC (.str "#")))) (za wm (z3 (mV 0) (z3 (mV 2) z5))) (za jM (z3 (mV 0) (z3 (mV 2) z5)))))
  (ze (xi (jr (m2 zO (mV 3) (mV 2)))
  (zq (mC (.bl false))) zw)
  (ze (zn 2 (za jN (z3 (mV 0) (z3 (mV 3) z5))))
  (ze (zU (xU (ka (mV 1)) (xU (jr (m2 zO (m2 zo (mV 1) (mQ (mC (.int 1)))) (mC (.str ")")))) (jr (m2 zO (qR (mV 0) (zC (mV 2)) (zC (m2 zr (mV 2) (mC (.int 1))))) (mC (.str ")"))))))
  (ze (mS 1)
  (zn 2 (za jN (z3 (mV 0) (z3 (m2 zr (mV 2) (mC (.int 1))) z5))))) 100000)
  (ze (xi (jR (ka (mV 1)))
  (zq (m2 zO (mV 2) (zE vY (z3 (mV 0) z5)))) zw)
  (ze (xi (kb (jr (m2 uC (m2 zo (mV 1) (mQ (mC (.int 1)))) (mC (.str "&")))) (jr (m2 uC (qR (mV 0) (zC (mV 2)) (zC (m2 zr (mV 2) (mC (.int 1))))) (mC (.str "&")))))
  (zq (mC (.bl false))) zw)
  (ze (wd 1 (mQ (mC (.int 1))) (mC (.str ")")))
  (iH 2 pP (mC (.int 1)))))))))))
def d8 (z:Str)(hz:z.length < sizeLine)(hz2:z.length < 99999)(a:Nat)(st:List Nat)(v:Option RV)(hv:qS v=v)(hst:∀ t∈st,t=38\/t=41)(ha:a<=z.length)(hsl:st.length<=a) :
  uh [some (false,.str z),some (true,.lst (gc st)),some (false,.int a),v]=.rt (false,.bl (Fs.ans z.cps.toList st a)) \/
  ∃ (c:Nat) (rest:List Nat) (v':Option RV),uh [some (false,.str z),some (true,.lst (gc st)),some (false,.int a),v]=.nx [some (false,.str z),some (true,.lst (gc (41 :: rest))),some (false,.int ((c + 1:Nat):Int)),v']/\qS v'=v'/\a<=c/\c < z.length/\rest.length < c /\
   (∀ t∈41 :: rest,t=38\/t=41)/\Fs.ans z.cps.toList (41 :: rest) (c + 1)=Fs.ans z.cps.toList st a:=by
 have hz':z.length<=sizeLine:=Nat.le_of_lt hz;unfold uh;obtain ⟨b,tt,e1,h40,hab,hb,htl,htt,hans⟩:=Jf z hz (z.length - a) a 100000 st v hv hst (Nat.le_refl _) ha hsl (by omega);rw [zf e1,<- hans,Fs.ans_head h40];have hhe:=Fs.headEnd_le z.cps.toList b;rw [xC] at hhe
 -- end=..
 have e2:zn 3 (fI (jr (m2 zO (qR (mV 0) (zC (mV 2)) (zC (m2 zr (mV 2) (mC (.int 1))))) (mC (.str "#")))) (za wm (z3 (mV 0) (z3 (mV 2) z5))) (za jM (z3 (mV 0) (z3 (mV 2) z5))))
   [some (false,.str z),some (true,.lst (gc tt)),some (false,.int b),v]=.nx [some (false,.str z),some (true,.lst (gc tt)),some (false,.int b),some (false,.int (Fs.headEnd z.cps.toList b))]:=by
  unfold Fs.headEnd
  by_cases h:z.cps.toList[b]? = some 35
  ·have hbl:b < z.length:=by have:=(List.getElem?_eq_some_iff.mp h).1;rwa [xC] at this
   have:=hI z b hz' hz2 hbl;rw [if_pos h];have hc:=ap XF hz' (e:=b) (env:=zZ [some (false,.str z),some (true,.lst (gc tt)),some (false,.int b),v]) rfl rfl;rw [decide_eq_true h] at hc;exact zj ((QQ hc).trans (vF (vC rfl (vC rfl rfl)) this))
  ·have:=gL z b hz' hz2 hb
   rw [if_neg h];have hc:=ap XF hz' (e:=b) (env:=zZ [some (false,.str z),some (true,.lst (gc tt)),some (false,.int b),v]) rfl rfl;rw [decide_eq_false h] at hc;exact zj ((QR hc).trans (vF (vC rfl (vC rfl rfl)) this))
 rw [zf e2]
 by_cases h3:Fs.headEnd z.cps.toList b=b
 ·have hq:=gK (Fs.headEnd z.cps.toList b:Int) (b:Int)
  rw [decide_eq_true (by omega)] at hq;rw [if_pos h3];exact .inl (vz (j9 (vT (v2 rfl rfl hq))) (zA rfl))
 have hq:=gK (Fs.headEnd z.cps.toList b:Int) (b:Int);rw [decide_eq_false (by omega)] at hq;have hn3:jT (jr (m2 zO (mV 3) (mV 2))) [some (false,.str z),some (true,.lst (gc tt)),some (false,.int b),some (false,.int (Fs.headEnd z.cps.toList b))]=.ok false:=j9 (vT (v2 rfl rfl hq));rw [if_neg h3,zf (j5 hn3)]
 -- at=points_end(text,end)
 have hpe:=fD z (Fs.headEnd z.cps.toList b) hz' hz2 (hhe.2 hb);have hge:=Fs.pointsEnd_ge z.cps.toList _ (Fs.headEnd z.cps.toList b) (Nat.le_refl _);rw [xC] at hge;rw [zf (e':=[some (false,.str z),some (true,.lst (gc tt)),some (false,.int (Fs.pointsEnd z.cps.toList (Fs.headEnd z.cps.toList b))),some (false,.int (Fs.headEnd z.cps.toList b))]) (zj (vF (vC rfl (vC rfl rfl)) hpe))];obtain ⟨c,uu,e3,hcl,hcc,hc,hul,huu,hcp⟩:=oN z hz' hz2 tt.length (Fs.pointsEnd z.cps.toList (Fs.headEnd z.cps.toList b)) 100000 tt (some (false,.int (Fs.headEnd z.cps.toList b))) rfl htt (Nat.le_refl _) (hge.2 (hhe.2 hb)) (by omega);rw [zf e3,<- hcp]
 cases uu with
 | nil =>
  refine .inl ?_;have hq:=gK (c:Int) (z.length:Int);rw [show decide ((c:Int)=(z.length:Int))=decide (c=z.length) from decide_eq_decide.mpr (by omega)] at hq;rw [Fs.contP_nil,xC];exact vz (w6 rfl rfl) (zA (v2 rfl (vK (vC rfl rfl) (Za hz')) hq))
 | cons t uu =>
  have he:jT (jR (ka (mV 1))) [some (false,.str z),some (true,.lst (gc (t :: uu))),some (false,.int c),some (false,.int (Fs.headEnd z.cps.toList b))]=.ok false:=w6 rfl (by unfold jR;rw [Pq rfl (cF uu t)];rfl);rw [zf (j5 he)]
  have hT:∀ x y:Bool,decide (t=38) = !x->decide (z.cps.toList[c]? = some 38) = !y->jT (kb (jr (m2 uC (m2 zo (mV 1) (mQ (mC (.int 1)))) (mC (.str "&")))) (jr (m2 uC (qR (mV 0) (zC (mV 2)) (zC (m2 zr (mV 2) (mC (.int 1))))) (mC (.str "&"))))) [some (false,.str z),some (true,.lst (gc (t :: uu))),some (false,.int c),some (false,.int (Fs.headEnd z.cps.toList b))]=.ok (x || y):=λx y hx hy=>by
   have n1:=Vs (c:=t) XE;have n2:=QY (z:=z) (e:=c) XE;rw [hx,Bool.not_not] at n1;rw [hy,Bool.not_not] at n2;refine w6 rfl ?_;cases x
   ·exact oJ (vT (v2 (v2 rfl rfl (cD uu t)) rfl n1)) (vT (v2 (XG hz' rfl rfl) rfl n2))
   ·exact N4 (vT (v2 (v2 rfl rfl (cD uu t)) rfl n1))
  have htop:t=38\/t=41:=huu t List.mem_cons_self
  by_cases ht:t=38
  ·subst ht
   by_cases h38:z.cps.toList[c]? = some 38
   ·have hclt:c < z.length:=by have:=(List.getElem?_eq_some_iff.mp h38).1;rwa [xC] at this
    refine .inr ⟨c,uu,some (false,.int (Fs.headEnd z.cps.toList b)),?_,rfl,by omega,hclt,by rw [List.length_cons] at hul;omega,λt ht => ?_,by rw [Fs.contP_amp h38]⟩
    ·rw [zf (j5 (hT false false rfl (decide_eq_true h38))),<- Vq uu 38 41,<- QV]
     exact (zf (lW (ts:=gc (38 :: uu)) (r:=(false,.str ")")) (k := -1) (fB rfl) rfl rfl (by rw [qI];exact au _))).trans rfl
    ·rcases List.mem_cons.mp ht with rfl | ht
     ·exact .inr rfl
     ·exact huu t (List.mem_cons_of_mem _ ht)
   ·refine .inl ?_
    rw [Fs.contP_no (.inr ⟨rfl,h38⟩)];exact vz (hT false true rfl (decide_eq_false h38)) (zA rfl)
  ·have ht41:t=41:=htop.resolve_left ht
   subst ht41
   have h41:¬ z.cps.toList[c]? = some 41:=by
    intro h;have hcl:decide (z.cps.toList[c]? = some 41)=false:=hcl;rw [decide_eq_true h] at hcl;cases hcl
   refine .inl ?_;rw [Fs.contP_no (.inl ⟨rfl,h41⟩)];cases hy:decide (z.cps.toList[c]? = some 38)
   ·exact vz (hT true true rfl hy) (zA rfl)
   ·exact vz (hT true false rfl hy) (zA rfl)
def Jg (z:Str)(hz:z.length < sizeLine)(hz2:z.length < 99999):∀ (n a fuel:Nat) (st:List Nat) (v:Option RV),qS v=v->(∀ t∈st,t=38\/t=41)->z.length - a<=n->a<=z.length->st.length<=a->n < fuel ->
  zU (ka (mC (.bl true))) uh fuel [some (false,.str z),some (true,.lst (gc st)),some (false,.int a),v]=.rt (false,.bl (Fs.ans z.cps.toList st a)):=by
 intro n
 induction n with
 | zero =>
  intro a fuel st v hv hst hn ha hl hf;obtain ⟨f,rfl⟩:∃ f,fuel=f + 1:=⟨fuel - 1,by omega⟩
  rcases d8 z hz hz2 a st v hv hst ha hl with e | ⟨c,rest,v',e,hv',hac,hc,hr,hrs,hans⟩
  ·exact Z9 rfl e
  ·omega
 | succ n ih =>
  intro a fuel st v hv hst hn ha hl hf;obtain ⟨f,rfl⟩:∃ f,fuel=f + 1:=⟨fuel - 1,by omega⟩
  rcases d8 z hz hz2 a st v hv hst ha hl with e | ⟨c,rest,v',e,hv',hac,hc,hr,hrs,hans⟩
  ·exact Z9 rfl e
  ·rw [<- hans,<- ih (c + 1) f (41 :: rest) v' hv' hrs (by omega) hc (by rw [List.length_cons];omega) (by omega)]
   exact d6 rfl e
def oO (z:Str)(hz:z.length < sizeLine)(hz2:z.length < 99999):m_is_kind [(false,.str z)]=.ok (false,.bl (Fs.isKind z.cps.toList)):=by
 have h:=Jg z hz hz2 z.length 0 100000 [] none rfl (λt ht=>by cases ht) (by omega) (Nat.zero_le _) (Nat.le_refl _) (by omega);rw [<- Fs.isKind_ans] at h;exact zT rfl ((zf (zj (vL (rs:=[]) rfl rfl rfl))).trans ((zf (zj rfl)).trans h))
def Vt (ns:List Int)(k:Nat):jq [(false,.lst (ns.map T.int)),(false,.int k)]=.ok (false,.int (ns.getD k 0)):=by
 by_cases h:k < ns.length
 ·have hi:(k:Int) < (ns.length:Int):=by omega
  simp [jq,zy,we,k5,ze,xi,jT,zZ,qS,jr,m2,mV,zE,z3,z5,vY,ga,hi,zq,xm,zo,Zb,h,rR]
 ·have hi:¬ ((k:Int) < (ns.length:Int)):=by omega
  simp [jq,zy,we,k5,ze,xi,jT,zZ,qS,jr,m2,mV,zE,z3,z5,vY,ga,hi,zq,xm,zw,mC,h,rR]
def big:1000 < sizeLine:=by decide
def G0 (n:Nat):bA 0 n=(List.range' 0 n).map λ(i:Nat)=>T.int (i:Int):=by
 unfold bA;rw [List.range_eq_range'];simp
def Vu {m:MA}{env:En}{n:Nat}(h:tV m env=.ok [.int n])(hj:(n:Int) < 2 ^ 62):xV m env=.ok (bA 0 n,env):=by
 unfold xV;rw [h];show (if -(2 ^ 62)<=(n:Int)/\(n:Int) < 2 ^ 62 then _ else _)=_;rw [if_pos ⟨by omega,hj⟩,Int.toNat_natCast]
def ui {m:MA}{tg:MG}{mb:MS}{env:En}{n:Nat}(h:tV m env=.ok [.int n])(hj:(n:Int) < 2 ^ 62):v6 (xV m) tg mb env=xD tg mb ((List.range' 0 n).map λ(i:Nat)=>T.int (i:Int)) env:=by
 unfold v6;rw [Vu h hj,<- G0]
def m4 (x y:Str):(x ++ y).cps.toList=x.cps.toList ++ y.cps.toList:=by
 show (x.cps ++ y.cps).toList=_;simp
def add_str (h:x.length + y.length<=1000):zr (.str x) (.str y)=some (false,.str (x ++ y)):=by
 show (if x.length + y.length<=sizeLine then _ else _)=_;rw [if_pos (by have:=big;omega)]
def Kk (x:Nat):Nat:=1 + x % 12
def NB (x:Nat):Nat:=x / 12 % Kk x
def Pt (x:Nat):Nat:=[1,3,25,7].getD (x / 200 % 4) 1
def Pu (x k:Nat):Nat:=97 + (x / 800 + k * Pt x) % 26
def Pv (x k:Nat):Nat:=(Kk x - NB x - 1) / (1 + (x / 3200 + k) % 3)
def M8 (x k:Nat):List Nat:=List.replicate (NB x) 113 ++ Pu x k :: List.replicate (Pv x k) 113
def nm (x k:Nat):Str:=⟨(M8 x k).toArray⟩
def a1 (x k st:Nat):((x:Int) / 800 + (k:Int) * (st:Int)) % 26=(((x / 800 + k * st) % 26:Nat):Int):=by simp
def a3 (x k:Nat):1 + ((x:Int) / 3200 + (k:Int)) % 3=((1 + (x / 3200 + k) % 3:Nat):Int):=by simp
def a4 (a b:Nat):(a:Int) / (b:Int)=((a / b:Nat):Int):=by simp
def d1 (x:Nat):Zv (x:Int) 800:=⟨by omega,by omega⟩
def xf (h1:tg t env=some e1)(h2:mb e1=.nx e2):xD tg mb (t :: ts) env=xD tg mb ts e2:=by
 rw [xD,h1];dsimp only;rw [h2]
def ND (ts:List T)(i:Nat):zo (.lst ts) (.int (i:Int))=ts[i]?.map λt=>(false,t):=by
 show Option.map (λt=>(false,t)) (mz ts (i:Int))=_;rw [Zb]
def jB (ts:List T)(i:Nat):zo (.tup ts) (.int (i:Int))=ts[i]?.map λt=>(false,t):=by
 show Option.map (λt=>(false,t)) (mz ts (i:Int))=_;rw [Zb]
def iT (xs:List Nat):List T:=xs.map λ(x:Nat)=>T.int (x:Int)
def sT (ys:List Str):List T:=ys.map T.str
def aw (ys:List Str)(i:Nat):zo (.lst (sT ys)) (.int (i:Int))=ys[i]?.map λy=>(false,T.str y):=by
 rw [ND];unfold sT;rw [List.getElem?_map];cases ys[i]?<;>rfl
section
variable {E:En}{b made du:Bool}{xs:List Nat}{k x:Nat}(h0:E[0]? = some (some (b,.lst (iT xs))))(h3:E[3]? = some (some (false,.bl made)))(h5:E[5]? = some (some (false,.int k)))(x1:zo (.lst (iT xs)) (.int (k:Int))=some (false,.int (x:Int)))
include h0 h3 h5 x1
end
def getD_some {α:Type}{l:List α}{i:Nat}{d:α}(h:i < l.length):l[i]? = some (l.getD i d):=by
 rw [List.getD_eq_getElem?_getD,List.getElem?_eq_getElem h];rfl
def G1 (ys:List Str):noLs (sT ys)=true/\noDs (sT ys)=true/\noOs (sT ys)=true:=by
 unfold sT
 induction ys with
 | nil=>exact ⟨rfl,rfl,rfl⟩
 | cons y ys ih=>exact ih
def Kl (x:Nat):Nat:=[0,1,2,3,2,12].getD (x % 6) 0
def Yk (x:Nat):Kl x<=12:=by
 have h:x % 6 < 6:=Nat.mod_lt _ (by omega);unfold Kl;generalize x % 6=i at h
 match i,h with
 | 0,_=>decide
 | 1,_=>decide
 | 2,_=>decide
 | 3,_=>decide
 | 4,_=>decide
 | 5,_=>decide
section
variable (t:Str)(c:Int)(ks:List Str)(xs:List Nat)(hx:xs.length=16)
include hx
end
def ax (ts:List T)(k:Nat):gi ts (some (k:Int)) none=ts.drop k:=by
 unfold gi;rw [HT.sIx_none,HT.sIx_nat]
 by_cases h:k<=ts.length
 ·rw [Nat.min_eq_left h,List.take_of_length_le (by simp)]
 ·rw [Nat.min_eq_right (by omega),List.drop_eq_nil_of_le (Nat.le_refl _),List.drop_eq_nil_of_le (by omega)]
  simp
def oP (ts:List T)(k:Nat):gi ts none (some (k:Int))=ts.take k:=by
 unfold gi;rw [HT.sIx_none,HT.sIx_nat]
 by_cases h:k<=ts.length
 ·rw [Nat.min_eq_left h];simp
 ·rw [Nat.min_eq_right (by omega)]
  simp;rw [List.take_of_length_le (by omega)]
def XI (hE:m env=.ok r)(hH:m (zZ env)=.bad\/m (zZ env)=.ok r)(hcl:L3.clean env r=true):zn i m env=.nx (env.set i (some r)):=by
 unfold zn xm
 rcases hH with h | h
 ·rw [h,hE]
  dsimp only;unfold L3.settle;rw [if_pos hcl]
 ·rw [h]
def uj (h:ts.length + us.length<=sizeLine):zr (.tup ts) (.tup us)=some (false,.tup (ts ++ us)):=by
 show (if ts.length + us.length<=sizeLine then some (false,T.tup (ts ++ us)) else none)=_;rw [if_pos h]
def add_int (i j:Int):zr (.int i) (.int j)=some (false,.int (i + j)):=rfl
def hU (y:Nat)(d:Nat)(h0:0 < d)(h1:d < 1000):jL (.int (y:Int)) (.int (d:Int))=some (false,.int ((y / d:Nat):Int)):=by
 have hd:Zv (y:Int) (d:Int):=⟨by omega,by omega⟩
 have:((y / d:Nat):Int)=(y:Int) / (d:Int):=by simp
 rw [this];simp [jL,hd]
def uk (y:Nat)(d:Nat)(h0:0 < d):zS (.int (y:Int)) (.int (d:Int))=some (false,.int ((y % d:Nat):Int)):=by
 have h0':(0:Int) < (d:Int):=by omega
 have:((y % d:Nat):Int)=(y:Int) % (d:Int):=by simp
 rw [this];show (if 0 < (d:Int) then some (false,T.int ((y:Int) % (d:Int))) else none)=_;rw [if_pos h0']
end Law
namespace Law
open PySem L2 L3 PyProof.Rows
def ay:∀ (ys acc:List Str),(acc ++ ys).Nodup->ys.foldl step_dedup acc=acc ++ ys
 | [],acc,_=>by simp
 | y :: ys,acc,h=>by
  have hn:¬ (acc.any (· == y)=true):=by
   intro z;obtain ⟨a,ha,e⟩:=List.any_eq_true.mp z;have e:a=y:=by simpa using e
   subst e;rw [List.nodup_append] at h;exact h.2.2 a ha a List.mem_cons_self rfl
  rw [List.foldl_cons];have:step_dedup acc y=acc ++ [y]:=by unfold step_dedup;rw [if_neg hn]
  rw [this,ay ys (acc ++ [y]) (by simpa using h)];simp
def nB (h:ys.Nodup):fh ys=ys:=by
 have:=ay ys [] (by simpa using h);simpa [fh] using this
def uQ:∀ ys:List Str,v7 (sT ys)=some ys
 | []=>rfl
 | y :: ys=>by
  show (v7 (sT ys)).map _=_;rw [uQ ys]
  rfl
def gM (ys:List Str):(sT ys).length=ys.length:=by simp [sT]
def qJ:∀ (ts:List T),(∀ t∈ts,∃ b,me (some (false,t) :: caps)=.ok (b,.bl true))->wy jt me caps ts=.ok (List.replicate ts.length (.bl true))
 | [],_=>rfl
 | t :: ts,h=>by
  obtain ⟨b,hb⟩:=h t List.mem_cons_self;rw [wy];simp only [jt];rw [hb];dsimp only;rw [qJ ts λu hu=>h u (List.mem_cons_of_mem _ hu)]
  rfl
def d9:∀ n:Nat,allB (List.replicate n (.bl true))=some (List.replicate n true)
 | 0=>rfl
 | n + 1=>by
  rw [List.replicate_succ];show (L3.allB (List.replicate n (.bl true))).map _=_;rw [d9 n]
  rfl
def lZ (n:Nat):dN [.lst (List.replicate n (.bl true))]=some (false,.bl true):=by
 show (L3.allB _).map _=_;rw [d9];simp
def az (t:T)(ts:List T):Prop:=t=.lst ts\/t=.tup ts
def da (h:az t ts):qA t=some ts:=by
 rcases h with rfl | rfl<;>rfl
def i8 (f:MF)(env:En)(b:Bool)(t:T)(ys:List Str)(hr:az t (sT ys))(h0:env[0]? = some (some (b,t)))(hf:∀ y∈ys,f [(false,.str y)]=.ok (false,.bl true))(hl:ys.length < 900)(hn:ys.Nodup) :
  jk (zE dN (z3 (jf (xQ (mV 0)) jt (za f (z3 (mV 0) z5)) []) z5)) (m2 zO (pU (mV 0)) (zE vY (z3 (mV 0) z5))) env=.ok (false,.bl true):=by
 have hc:jf (xQ (mV 0)) jt (za f (z3 (mV 0) z5)) [] env=.ok (true,.lst (List.replicate (sT ys).length (.bl true))):=by
  unfold jf xQ;have hit:(mV 0 env).bind (λr=>ZK (qA r.2))=.ok (sT ys):=by simp [mV,h0,da hr]
  rw [hit,bind_ok,if_pos (by rw [gM];have:=big;omega),qJ (sT ys) λu hu=>by
   obtain ⟨y,hy,rfl⟩:=List.mem_map.mp hu;exact ⟨false,by simp [za,z3,z5,mV,hf y hy]⟩]
 have hs:dU t=some ys.length:=by
  rcases hr with rfl | rfl
  ·show (v7 (sT ys)).bind _=_
   rw [uQ];show (if ys.length + 1 < scanBound then some (fh ys).length else none)=_;rw [if_pos (by unfold scanBound;omega),nB hn]
  ·show (v7 (sT ys)).bind _=_
   rw [uQ];show (if ys.length + 1 < scanBound then some (fh ys).length else none)=_;rw [if_pos (by unfold scanBound;omega),nB hn]
 have hle:vY [t]=some (false,.int ys.length):=by
  rcases hr with rfl | rfl<;>(show some (false,T.int ((sT ys).length:Int))=_;rw [gM])
 have ha:=lZ (sT ys).length;simp [jk,zE,z3,z5,hc,ha,m2,pU,mV,h0,hs,hle,gK]
def ul (hE:m env=.ok r)(hH:zZ env=env):zq m env=.rt r:=by
 unfold zq xm;rw [hH,hE]
def um (b:Bool)(t:T)(ys:List Str)(hr:az t (sT ys))(hf:∀ y∈ys,jX [(false,.str y)]=.ok (false,.bl true))(hl:ys.length < 900)(hn:ys.Nodup):jJ [(b,t)]=.ok (false,.bl true):=by
 have hb:gD [some (b,t)]=.rt (false,.bl true):=by
  unfold gD;generalize jX=f at hf;have hE:=i8 f [some (b,t)] b t ys hr rfl hf hl hn
  cases b with
  | false=>exact ul hE rfl
  | true=>exact kD hE (by simp [zZ,qS,jk,zE,z3,jf,xQ,mV])
 exact zT rfl hb
end Law
namespace Law
open PySem L2 L3
def m5 (P:List (Str×Str×List T)):List T:=P.map λp=>.tup (.str p.1 :: .str p.2.1 :: p.2.2)
def M9 (y kd:Str)(r:List T):zo (.tup (.str y :: .str kd :: r)) (.int 0)=some (false,.str y):=by
 have:=jB (.str y :: .str kd :: r) 0;exact this
def Ma (y kd:Str)(r:List T):zo (.tup (.str y :: .str kd :: r)) (.int 1)=some (false,.str kd):=by
 have:=jB (.str y :: .str kd :: r) 1;exact this
def Zc:∀ (ts:List T),(∀ t∈ts,∃ b,me (some (false,t) :: caps)=.ok (b,g t))->wy jt me caps ts=.ok (ts.map g)
 | [],_=>rfl
 | t :: ts,h=>by
  obtain ⟨b,hb⟩:=h t List.mem_cons_self;rw [wy];simp only [jt];rw [hb];dsimp only;rw [Zc ts λu hu=>h u (List.mem_cons_of_mem _ hu)]
  rfl
def G2:T->T
 | .tup (y :: _)=>y
 | t=>t
def Vv (P:List (Str×Str×List T)):(m5 P).map G2=sT (P.map (·.1)):=by
 unfold m5 sT;rw [List.map_map,List.map_map]
 rfl
def i9 (c:CA)(m:Addr)(ks:List Str)(x:Str)(hx:x∈ks)(h:m_is_kind [(false,.str x)]=.ok (false,.bl true)):ja c [(false,.mem m (c.memo ks m)),(false,.str x)]=.ok (false,.bl true):=by
 unfold ja eP;dsimp only;rw [if_pos ⟨ks,rfl,hx⟩,h]
def ic (f g:MF)(env:En)(b:Bool)(M t:T)(P:List (Str×Str×List T))(hr:az t (m5 P))(hM:env[0]? = some (some (false,M)))(h0:env[1]? = some (some (b,t)))(hf:f [(true,.lst (sT (P.map (·.1))))]=.ok (false,.bl true))(hg:∀ p∈P,g [(false,M),(false,.str p.2.1)]=.ok (false,.bl true))(hl:P.length < 900) :
  jk (za f (z3 (jf (xQ (mV 1)) jt (m2 zo (mV 0) (mC (.int 0))) []) z5)) (zE dN (z3 (jf (xQ (mV 1)) jt (za g (z3 (mV 1) (z3 (m2 zo (mV 0) (mC (.int 1))) z5))) [0]) z5)) env=.ok (false,.bl true):=by
 have hlen:(m5 P).length=P.length:=by simp [m5]
 have hit:xQ (mV 1) env=.ok (m5 P):=by
  unfold xQ;simp [mV,h0,da hr]
 have c1:jf (xQ (mV 1)) jt (m2 zo (mV 0) (mC (.int 0))) [] env=.ok (true,.lst (sT (P.map (·.1)))):=by
  unfold jf
  rw [hit,bind_ok,if_pos (by rw [hlen];have:=big;omega),Zc (g:=G2) (m5 P) λu hu=>by
   obtain ⟨p,hp,rfl⟩:=List.mem_map.mp hu;exact ⟨false,by simp [m2,mV,mC,M9,G2]⟩,Vv]
 have c2:jf (xQ (mV 1)) jt (za g (z3 (mV 1) (z3 (m2 zo (mV 0) (mC (.int 1))) z5))) [0] env=.ok (true,.lst (List.replicate (m5 P).length (.bl true))):=by
  unfold jf
  rw [hit,bind_ok,if_pos (by rw [hlen];have:=big;omega),qJ (m5 P) λu hu=>by
   obtain ⟨p,hp,rfl⟩:=List.mem_map.mp hu;exact ⟨false,by simp [za,z3,z5,m2,mV,mC,qB,hM,Ma,hg p hp]⟩]
 have ha:=lZ (m5 P).length;simp [jk,za,zE,z3,z5,c1,c2,hf,ha]
def cG (c:CA)(M t:T)(P:List (Str×Str×List T))(hr:az t (m5 P))(hf:jJ [(true,.lst (sT (P.map (·.1))))]=.ok (false,.bl true))(hg:∀ p∈P,ja c [(false,M),(false,.str p.2.1)]=.ok (false,.bl true))(hl:P.length < 900):jz c [(false,M),(false,t)]=.ok (false,.bl true):=by
 have hb:gE c [some (false,M),some (false,t)]=.rt (false,.bl true):=by
  unfold gE;generalize jJ=f at hf;generalize ja c=g at hg;exact ul (ic f g [some (false,M),some (false,t)] false M t P hr rfl rfl hf hg hl) rfl
 exact zT rfl hb
def G3 (z a b:Str):pN (.str z) (.tup [.str a,.str b])=some (false,.bl (decide (a=z) || decide (b=z))):=by
 have e:∀ x y:Str,nI 40 (.str x) (.str y)=some (decide (x=y)):=λx y=>by
  simp [nI,rG];exact Bool.eq_iff_iff.mpr (by simp)
 show Option.map _ (gh (.str z) [.str a,.str b])=_;simp [gh,e]
def Jh (f g:MF)(M:T)(z:Str)(made:Bool)(h1:("num" : Str)≠z)(h2:("word" : Str)≠z)(hk:g [(false,M),(false,.str z)]=.ok (false,.bl true))(nb:Bool)(hn:f [(false,.str z)]=.ok (false,.bl nb))(ho:nb=true\/made=false) :
  (ze (xi (kb (jr (m2 pN (mV 1) (mC (.tup (List.map T.str ["num","word"]))))) (jR (ka (za g (z3 (mV 0) (z3 (mV 1) z5)))))) (zq (mC (.bl false))) zw) (zq (iG (za f (z3 (mV 1) z5)) (qQ (mV 2))))) [some (false,M),some (false,.str z),some (false,.bl made)]=.rt (false,.bl true):=by
 have hi:=G3 z "num" "word";rw [decide_eq_false h1,decide_eq_false h2] at hi;have hi':pN (.str z) (.tup [.str "num",.str "word"])=some (false,.bl false):=hi;refine (zf (j5 (j9 (oJ (vT (v2 rfl rfl hi')) (am (vF (vC rfl (vC rfl rfl)) hk)))))).trans (zA ?_);rw [Nz (vF (vC rfl rfl) hn) (NA rfl)]
 rcases ho with rfl | rfl
 ·rfl
 ·cases nb<;>rfl
def G4 (made due sure:Bool)(h:if made=true then due=true\/sure=false else due=false):xr [(false,.bl made),(false,.bl due),(false,.bl sure)]=.ok (false,.bl true):=by
 cases made<;>cases due<;>cases sure<;>simp at h<;>simp [xr,zy,we,gG,ze,xi,jT,zZ,qS,ka,mV,YA,zq,xm,iG,qQ,zw,rR]
def XJ (fT fP fM:MF)(M:T)(z:Str)(made:Bool)(P:List (Str×Str×List T))(hT:fT [(false,M),(false,.str z),(false,.bl made)]=.ok (false,.bl true))(hP:fP [(false,M),(false,.tup (m5 P))]=.ok (false,.bl true))(hl:P.length < 900)
  (hM:∀ p∈P,∃ d s,p.2.2=[.bl d,.bl s]/\fM [(false,.bl made),(false,.bl d),(false,.bl s)]=.ok (false,.bl true)) :
  (ze (xi (kb (jR (ka (za fT (z3 (mV 0) (z3 (mV 1) (z3 (mV 2) z5)))))) (jR (ka (za fP (z3 (mV 0) (z3 (mV 3) z5)))))) (zq (mC (.bl false))) zw)
  (zq (zE dN (z3 (jf (xQ (mV 3)) jt (za fM (z3 (mV 1) (z3 (m2 zo (mV 0) (mC (.int 2))) (z3 (m2 zo (mV 0) (mC (.int 3))) z5)))) [2]) z5)))) [some (false,M),some (false,.str z),some (false,.bl made),some (false,.tup (m5 P))]=.rt (false,.bl true):=by
 have hlen:(m5 P).length=P.length:=by simp [m5]
 have c2:jf (xQ (mV 3)) jt (za fM (z3 (mV 1) (z3 (m2 zo (mV 0) (mC (.int 2))) (z3 (m2 zo (mV 0) (mC (.int 3))) z5)))) [2] [some (false,M),some (false,.str z),some (false,.bl made),some (false,.tup (m5 P))]=.ok (true,.lst (List.replicate (m5 P).length (.bl true))):=by
  unfold jf;have hit:xQ (mV 3) [some (false,M),some (false,.str z),some (false,.bl made),some (false,.tup (m5 P))]=.ok (m5 P):=rfl
  rw [hit,bind_ok,if_pos (by rw [hlen];have:=big;omega),qJ (m5 P) λu hu=>by
   obtain ⟨p,hp,rfl⟩:=List.mem_map.mp hu;obtain ⟨d,s,e,hm⟩:=hM p hp;refine ⟨false,?_⟩;have i2:zo (.tup (.str p.1 :: .str p.2.1 :: p.2.2)) (.int 2)=some (false,.bl d):=by rw [e];exact jB [.str p.1,.str p.2.1,.bl d,.bl s] 2
   have i3:zo (.tup (.str p.1 :: .str p.2.1 :: p.2.2)) (.int 3)=some (false,.bl s):=by rw [e];exact jB [.str p.1,.str p.2.1,.bl d,.bl s] 3
   exact vF (vC rfl (vC (v2 rfl rfl i2) (vC (v2 rfl rfl i3) rfl))) hm]
 have ha:=lZ (m5 P).length;rw [zf (e':=[some (false,M),some (false,.str z),some (false,.bl made),some (false,.tup (m5 P))]) (j5 (j9 (oJ (am (vF (vC rfl (vC rfl (vC rfl rfl))) hT)) (am (vF (vC rfl (vC rfl rfl)) hP)))))];exact ul (vK (vC c2 rfl) ha) rfl
def XL (fT fP:MF)(M:T)(z:Str)(made:Bool)(p:T)(hT:fT [(false,M),(false,.str z),(false,.bl made)]=.ok (false,.bl true))(hP:fP [(false,M),(false,p)]=.ok (false,.bl true)) :
  zq (jk (za fT (z3 (mV 0) (z3 (mV 1) (z3 (mV 2) z5)))) (za fP (z3 (mV 0) (z3 (mV 3) z5)))) [some (false,M),some (false,.str z),some (false,.bl made),some (false,p)]=.rt (false,.bl true):=by
 exact zA (av (vF (vC rfl (vC rfl (vC rfl rfl))) hT) (vF (vC rfl (vC rfl rfl)) hP))
def XM (fN fK fP fA:MF)(M:T)(z kd:Str)(pl:Int)(ps fs:List T)(hN:fN [(false,.str z)]=.ok (false,.bl true))(hK:fK [(false,M),(false,.str kd)]=.ok (false,.bl true))(h0:0<=pl)(h1:pl<=ps.length)(hP:fP [(false,M),(false,.tup ps)]=.ok (false,.bl true))(hA:fA [(false,.tup fs)]=.ok (false,.bl true)) :
  (ze (xi (kb (jR (ka (za fN (z3 (mV 1) z5)))) (jR (ka (za fK (z3 (mV 0) (z3 (mV 4) z5)))))) (zq (mC (.bl false))) zw)
  (ze (xi (kb (jr (m2 ga (mV 2) (mC (.int 0)))) (jr (m2 pK (mV 2) (zE vY (z3 (mV 3) z5))))) (zq (mC (.bl false))) zw)
  (zq (jk (za fP (z3 (mV 0) (z3 (mV 3) z5))) (za fA (z3 (mV 5) z5)))))) [some (false,M),some (false,.str z),some (false,.int pl),some (false,.tup ps),some (false,.str kd),some (false,.tup fs)]=.rt (false,.bl true):=by
 have a0:¬ pl < 0:=by omega
 have a1:¬ ((ps.length:Int) < pl):=by omega
 rw [zf (e':=[some (false,M),some (false,.str z),some (false,.int pl),some (false,.tup ps),some (false,.str kd),some (false,.tup fs)]) (j5 (j9 (oJ (am (vF (vC rfl rfl) hN)) (am (vF (vC rfl (vC rfl rfl)) hK)))))];rw [zf (e':=[some (false,M),some (false,.str z),some (false,.int pl),some (false,.tup ps),some (false,.str kd),some (false,.tup fs)]) (j5 (j9 (oJ (vT (v2 rfl rfl (QS (decide_eq_false a0)))) (vT (v2 rfl (vK (vC rfl rfl) rfl) (QU (decide_eq_false a1)))))))];exact zA (av (vF (vC rfl (vC rfl rfl)) hP) (vF (vC rfl rfl) hA))
def Pw:¬ ("choice" : Str) = "record" := by decide +kernel
def Px:¬ ("function" : Str) = "record" := by decide +kernel
def Py:¬ ("function" : Str) = "choice" := by decide +kernel
def Ji (fR fC fF:MF)(M:T)(w wr wc:Str)(a b p:T)(ts:List T)(hw:w=wr)(h:fR [(false,M),(false,a),(false,b),(false,p)]=.ok (false,.bl true)) :
  (ze (xi (jr (m2 zO (m2 zo (mV 1) (mC (.int 0))) (mC (.str wr)))) (zq (za fR (z3 (mV 0) (z3 (m2 zo (mV 1) (mC (.int 1))) (z3 (m2 zo (mV 1) (mC (.int 2))) (z3 (m2 zo (mV 1) (mC (.int 3))) z5)))))) zw)
  (ze (xi (jr (m2 zO (m2 zo (mV 1) (mC (.int 0))) (mC (.str wc)))) (zq (za fC (z3 (mV 0) (z3 (m2 zo (mV 1) (mC (.int 1))) (z3 (m2 zo (mV 1) (mC (.int 2))) (z3 (m2 zo (mV 1) (mC (.int 4))) z5)))))) zw)
  (zq (za fF (z3 (mV 0) (z3 (m2 zo (mV 1) (mC (.int 1))) (z3 (m2 zo (mV 1) (mC (.int 2))) (z3 (m2 zo (mV 1) (mC (.int 3))) (z3 (m2 zo (mV 1) (mC (.int 4))) (z3 (m2 zo (mV 1) (mC (.int 5))) z5)))))))))) [some (false,M),some (false,.tup (.str w :: a :: b :: p :: ts))]=.rt (false,.bl true):=by
 have i0:zo (.tup (.str w :: a :: b :: p :: ts)) (.int 0)=some (false,.str w):=jB _ 0;have i1:zo (.tup (.str w :: a :: b :: p :: ts)) (.int 1)=some (false,a):=jB _ 1;have i2:zo (.tup (.str w :: a :: b :: p :: ts)) (.int 2)=some (false,b):=jB _ 2;have i3:zo (.tup (.str w :: a :: b :: p :: ts)) (.int 3)=some (false,p):=jB _ 3;apply pz;subst hw;exact (qH (j9 (wt rfl i0 (decide_eq_true rfl)))).trans (zA (vF (vC rfl (vC (v2 rfl rfl i1) (vC (v2 rfl rfl i2) (vC (v2 rfl rfl i3) rfl)))) h))
def Jj (fR fC fF:MF)(M:T)(w wr wc:Str)(a b s p:T)(ts:List T)(hw:¬ w=wr)(hc:w=wc)(h:fC [(false,M),(false,a),(false,b),(false,p)]=.ok (false,.bl true)) :
  (ze (xi (jr (m2 zO (m2 zo (mV 1) (mC (.int 0))) (mC (.str wr)))) (zq (za fR (z3 (mV 0) (z3 (m2 zo (mV 1) (mC (.int 1))) (z3 (m2 zo (mV 1) (mC (.int 2))) (z3 (m2 zo (mV 1) (mC (.int 3))) z5)))))) zw)
  (ze (xi (jr (m2 zO (m2 zo (mV 1) (mC (.int 0))) (mC (.str wc)))) (zq (za fC (z3 (mV 0) (z3 (m2 zo (mV 1) (mC (.int 1))) (z3 (m2 zo (mV 1) (mC (.int 2))) (z3 (m2 zo (mV 1) (mC (.int 4))) z5)))))) zw)
  (zq (za fF (z3 (mV 0) (z3 (m2 zo (mV 1) (mC (.int 1))) (z3 (m2 zo (mV 1) (mC (.int 2))) (z3 (m2 zo (mV 1) (mC (.int 3))) (z3 (m2 zo (mV 1) (mC (.int 4))) (z3 (m2 zo (mV 1) (mC (.int 5))) z5)))))))))) [some (false,M),some (false,.tup (.str w :: a :: b :: s :: p :: ts))]=.rt (false,.bl true):=by
 have i0:zo (.tup (.str w :: a :: b :: s :: p :: ts)) (.int 0)=some (false,.str w):=jB _ 0;have i1:zo (.tup (.str w :: a :: b :: s :: p :: ts)) (.int 1)=some (false,a):=jB _ 1;have i2:zo (.tup (.str w :: a :: b :: s :: p :: ts)) (.int 2)=some (false,b):=jB _ 2;have i4:zo (.tup (.str w :: a :: b :: s :: p :: ts)) (.int 4)=some (false,p):=jB _ 4;rw [zf (e':=[some (false,M),some (false,.tup (.str w :: a :: b :: s :: p :: ts))]) (j5 (j9 (wt rfl i0 (decide_eq_false hw))))];apply pz;subst hc;exact (qH (j9 (wt rfl i0 (decide_eq_true rfl)))).trans (zA (vF (vC rfl (vC (v2 rfl rfl i1) (vC (v2 rfl rfl i2) (vC (v2 rfl rfl i4) rfl)))) h))
def Jk (fR fC fF:MF)(M:T)(w wr wc:Str)(a b p k f:T)(ts:List T)(hw:¬ w=wr)(hc:¬ w=wc)(h:fF [(false,M),(false,a),(false,b),(false,p),(false,k),(false,f)]=.ok (false,.bl true)) :
  (ze (xi (jr (m2 zO (m2 zo (mV 1) (mC (.int 0))) (mC (.str wr)))) (zq (za fR (z3 (mV 0) (z3 (m2 zo (mV 1) (mC (.int 1))) (z3 (m2 zo (mV 1) (mC (.int 2))) (z3 (m2 zo (mV 1) (mC (.int 3))) z5)))))) zw)
  (ze (xi (jr (m2 zO (m2 zo (mV 1) (mC (.int 0))) (mC (.str wc)))) (zq (za fC (z3 (mV 0) (z3 (m2 zo (mV 1) (mC (.int 1))) (z3 (m2 zo (mV 1) (mC (.int 2))) (z3 (m2 zo (mV 1) (mC (.int 4))) z5)))))) zw)
  (zq (za fF (z3 (mV 0) (z3 (m2 zo (mV 1) (mC (.int 1))) (z3 (m2 zo (mV 1) (mC (.int 2))) (z3 (m2 zo (mV 1) (mC (.int 3))) (z3 (m2 zo (mV 1) (mC (.int 4))) (z3 (m2 zo (mV 1) (mC (.int 5))) z5)))))))))) [some (false,M),some (false,.tup (.str w :: a :: b :: p :: k :: f :: ts))]=.rt (false,.bl true):=by
 have i0:zo (.tup (.str w :: a :: b :: p :: k :: f :: ts)) (.int 0)=some (false,.str w):=jB _ 0;have i1:zo (.tup (.str w :: a :: b :: p :: k :: f :: ts)) (.int 1)=some (false,a):=jB _ 1;have i2:zo (.tup (.str w :: a :: b :: p :: k :: f :: ts)) (.int 2)=some (false,b):=jB _ 2;have i3:zo (.tup (.str w :: a :: b :: p :: k :: f :: ts)) (.int 3)=some (false,p):=jB _ 3;have i4:zo (.tup (.str w :: a :: b :: p :: k :: f :: ts)) (.int 4)=some (false,k):=jB _ 4;have i5:zo (.tup (.str w :: a :: b :: p :: k :: f :: ts)) (.int 5)=some (false,f):=jB _ 5;rw [zf (e':=[some (false,M),some (false,.tup (.str w :: a :: b :: p :: k :: f :: ts))]) (j5 (j9 (wt rfl i0 (decide_eq_false hw))))];rw [zf (e':=[some (false,M),some (false,.tup (.str w :: a :: b :: p :: k :: f :: ts))]) (j5 (j9 (wt rfl i0 (decide_eq_false hc))))];exact zA (vF (vC rfl (vC (v2 rfl rfl i1) (vC (v2 rfl rfl i2) (vC (v2 rfl rfl i3) (vC (v2 rfl rfl i4) (vC (v2 rfl rfl i5) rfl)))))) h)
def Zd:∀ {ts:List T},T.tup us∈ts->x∈strsL us->x∈strsL ts
 | t :: ts,h,hx=>by
  unfold strsL
  rcases List.mem_cons.mp h with rfl | h
  ·exact List.mem_append_left _ (by unfold xW;exact hx)
  ·exact List.mem_append_right _ (Zd h hx)
def cH (z:Str)(hl:z.length<=100)(h:Fs.isKind z.cps.toList=true):m_is_kind [(false,.str z)]=.ok (false,.bl true):=by
 rw [oO z (by have:=big;omega) (by omega),h]
def kE (h:sortS ts=some us):jA [(b,.tup ts)]=.ok (false,.tup us):=by
 have hs:gR [.tup ts]=some (true,.lst us):=by
  show (sortS ts).map _=_;rw [h]
  rfl
 have hb:fX [some (b,.tup ts)]=.rt (false,.tup us):=by
  unfold fX
  have hE:zE kH (z3 (zE gR (z3 (mV 0) z5)) z5) [some (b,.tup ts)]=.ok (false,.tup us):=by
   simp [zE,z3,z5,mV,hs,kH]
  cases b with
  | false=>exact ul hE rfl
  | true=>exact kD hE (by simp [zZ,qS,zE,z3,mV])
 exact zT rfl hb
def Pz (a b c:T)(r:List T):Yz (.tup (a :: b :: c :: r)) none (some 3)=some (false,.tup [a,b,c]):=by
 show some (false,T.tup (gi (a :: b :: c :: r) none (some ((3:Nat):Int))))=_;rw [oP]
 rfl
def N9 (a b c d:T)(r:List T):Yz (.tup (a :: b :: c :: d :: r)) none (some 4)=some (false,.tup [a,b,c,d]):=by
 show some (false,T.tup (gi (a :: b :: c :: d :: r) none (some ((4:Nat):Int))))=_;rw [oP]
 rfl
def qK (f:MF)(wr wc:Str):MS:=(ze (xi (jr (m2 zO (m2 zo (mV 0) (mC (.int 0))) (mC (.str wr))))
  (zq (m2 zr (qR (mV 0) xh (zC (mC (.int 3)))) (zP (z3 (za f (z3 (m2 zo (mV 0) (mC (.int 3))) z5)) z5)))) zw)
  (ze (xi (jr (m2 zO (m2 zo (mV 0) (mC (.int 0))) (mC (.str wc))))
  (zq (m2 zr (qR (mV 0) xh (zC (mC (.int 4)))) (zP (z3 (za f (z3 (m2 zo (mV 0) (mC (.int 4))) z5)) z5)))) zw)
  (ze (zn 1 (m2 zo (mV 0) (mC (.int 2))))
  (ze (zn 2 (m2 zr (qR (m2 zo (mV 0) (mC (.int 3))) xh (zC (mV 1))) (za f (z3 (qR (m2 zo (mV 0) (mC (.int 3))) (zC (mV 1)) xh) z5))))
  (zq (m2 zr (qR (mV 0) xh (zC (mC (.int 3)))) (zP (z3 (mV 2) (z3 (m2 zo (mV 0) (mC (.int 4))) (z3 (za f (z3 (m2 zo (mV 0) (mC (.int 5))) z5)) z5))))))))))
def qL:qf=qK jA "record" "choice" := rfl
def Vw (f:MF)(w wc:Str)(a b p u:T)(h:f [(false,p)]=.ok (false,u)):qK f w wc [some (false,.tup [.str w,a,b,p]),none,none]=.rt (false,.tup [.str w,a,b,u]):=by
 have i0:zo (.tup [.str w,a,b,p]) (.int 0)=some (false,.str w):=jB _ 0;have i3:zo (.tup [.str w,a,b,p]) (.int 3)=some (false,p):=jB _ 3;have c3:=Pz (.str w) a b [p];have h1:1<=sizeLine:=by decide
 have ad:zr (.tup [.str w,a,b]) (.tup [u])=some (false,.tup [.str w,a,b,u]):=uj (ts:=[.str w,a,b]) (us:=[u]) (by have:=big;simp;omega);unfold qK;apply pz;exact (qH (j9 (wt rfl i0 (decide_eq_true rfl)))).trans (zA (v2 (vS rfl rfl rfl c3) (vP (vC (vF (vC (v2 rfl rfl i3) rfl) h) rfl) rfl rfl) ad))
def Vx (f:MF)(w wr:Str)(a b s p u:T)(hw:¬ w=wr)(h:f [(false,p)]=.ok (false,u)):qK f wr w [some (false,.tup [.str w,a,b,s,p]),none,none]=.rt (false,.tup [.str w,a,b,s,u]):=by
 have i0:zo (.tup [.str w,a,b,s,p]) (.int 0)=some (false,.str w):=jB _ 0;have i4:zo (.tup [.str w,a,b,s,p]) (.int 4)=some (false,p):=jB _ 4;have c4:=N9 (.str w) a b s [p];have h1:1<=sizeLine:=by decide
 have ad:zr (.tup [.str w,a,b,s]) (.tup [u])=some (false,.tup [.str w,a,b,s,u]):=uj (ts:=[.str w,a,b,s]) (us:=[u]) (by have:=big;simp;omega);unfold qK;rw [zf (e':=[some (false,.tup [.str w,a,b,s,p]),none,none]) (j5 (j9 (wt rfl i0 (decide_eq_false hw))))];apply pz;exact (qH (j9 (wt rfl i0 (decide_eq_true rfl)))).trans (zA (v2 (vS rfl rfl rfl c4) (vP (vC (vF (vC (v2 rfl rfl i4) rfl) h) rfl) rfl rfl) ad))
def Vy (f:MF)(w wr wc:Str)(a k:T)(pl:Nat)(ps us fs vs:List T)(hw:¬ w=wr)(hc:¬ w=wc)(h1:f [(false,.tup (ps.drop pl))]=.ok (false,.tup us))(h2:f [(false,.tup fs)]=.ok (false,.tup vs))(hl:ps.length + us.length < 1000) :
  qK f wr wc [some (false,.tup [.str w,a,.int (pl:Int),.tup ps,k,.tup fs]),none,none]=.rt (false,.tup [.str w,a,.int (pl:Int),.tup (ps.take pl ++ us),k,.tup vs]):=by
 have i0:zo (.tup [.str w,a,.int (pl:Int),.tup ps,k,.tup fs]) (.int 0)=some (false,.str w):=jB _ 0;have i2:zo (.tup [.str w,a,.int (pl:Int),.tup ps,k,.tup fs]) (.int 2)=some (false,.int pl):=jB _ 2;have i3:zo (.tup [.str w,a,.int (pl:Int),.tup ps,k,.tup fs]) (.int 3)=some (false,.tup ps):=jB _ 3;have i4:zo (.tup [.str w,a,.int (pl:Int),.tup ps,k,.tup fs]) (.int 4)=some (false,k):=jB _ 4;have i5:zo (.tup [.str w,a,.int (pl:Int),.tup ps,k,.tup fs]) (.int 5)=some (false,.tup fs):=jB _ 5;have c3:=Pz (.str w) a (.int (pl:Int)) [.tup ps,k,.tup fs]
 have ct:Yz (.tup ps) none (some (pl:Int))=some (false,.tup (ps.take pl)):=by
  show some (false,T.tup (gi ps none (some (pl:Int))))=_;rw [oP]
 have cf:Yz (.tup ps) (some (pl:Int)) none=some (false,.tup (ps.drop pl)):=by
  show some (false,T.tup (gi ps (some (pl:Int)) none))=_;rw [ax]
 have a1:zr (.tup (ps.take pl)) (.tup us)=some (false,.tup (ps.take pl ++ us)):=uj (by
  have:=big;have:=List.length_take_le pl ps;have:=List.length_take_le' pl ps;omega)
 generalize hq:ps.take pl ++ us=qs at a1;have a2:zr (.tup [.str w,a,.int (pl:Int)]) (.tup [.tup qs,k,.tup vs])=some (false,.tup [.str w,a,.int (pl:Int),.tup qs,k,.tup vs]):=uj (ts:=[.str w,a,.int (pl:Int)]) (us:=[.tup qs,k,.tup vs]) (by have:=big;simp;omega);have h3:3<=sizeLine:=by decide
 unfold qK;rw [zf (e':=[some (false,.tup [.str w,a,.int (pl:Int),.tup ps,k,.tup fs]),none,none]) (j5 (j9 (wt rfl i0 (decide_eq_false hw))))];rw [zf (e':=[some (false,.tup [.str w,a,.int (pl:Int),.tup ps,k,.tup fs]),none,none]) (j5 (j9 (wt rfl i0 (decide_eq_false hc))))];rw [zf (e':=[some (false,.tup [.str w,a,.int (pl:Int),.tup ps,k,.tup fs]),some (false,.int pl),none]) (zj (v2 rfl rfl i2))];rw [zf (e':=[some (false,.tup [.str w,a,.int (pl:Int),.tup ps,k,.tup fs]),some (false,.int pl),some (false,.tup qs)]) (zj (v2 (vS (v2 rfl rfl i3) rfl (vN rfl) ct) (vF (vC (vS (v2 rfl rfl i3) (vN rfl) rfl cf) rfl) h1) a1))];exact zA (v2 (vS rfl rfl rfl c3) (vP (vC rfl (vC (v2 rfl rfl i4) (vC (vF (vC (v2 rfl rfl i5) rfl) h2) rfl))) rfl rfl) a2)
def aA (h:sortS ts=some us):jZ [(false,.tup [.str "record",.str z,.bl m,.tup ts])]=.ok (false,.tup [.str "record",.str z,.bl m,.tup us]):=by
 refine zT (n:=3) (k:=1) (mb:=qf) rfl ?_;rw [qL];exact Vw jA "record" "choice" _ _ _ _ (kE h)
def aB (h:sortS ts=some us):jZ [(false,.tup [.str "choice",.str z,.bl m,.bl s,.tup ts])]=.ok (false,.tup [.str "choice",.str z,.bl m,.bl s,.tup us]):=by
 refine zT (n:=3) (k:=1) (mb:=qf) rfl ?_;rw [qL];exact Vx jA "choice" "record" _ _ _ _ _ Pw (kE h)
def aC {z k:Str}{pl:Nat}{ps fs us vs:List T}(h1:sortS (ps.drop pl)=some us)(h2:sortS fs=some vs)(hl:ps.length + us.length < 1000):jZ [(false,.tup [.str "function",.str z,.int (pl:Int),.tup ps,.str k,.tup fs])]=.ok (false,.tup [.str "function",.str z,.int (pl:Int),.tup (ps.take pl ++ us),.str k,.tup vs]):=by
 refine zT (n:=3) (k:=1) (mb:=qf) rfl ?_;rw [qL];exact Vy jA "function" "record" "choice" _ _ pl ps us fs vs Px Py (kE h1) (kE h2) hl
def Na:("record" : Str) ≠ "function" := by decide +kernel
def Nb:("choice" : Str) ≠ "function" := by decide +kernel
def core (L:List Nat):List Nat:=(L.dropWhile λc=>decide (c < 97)).takeWhile λc=>decide (97<=c)
def uR:∀ (ks:List Key) (us:List T) (x:Key),x∉ks->qx ks us x=none
 | [],us,x,_=>by cases us<;>rfl
 | k :: ks,[],x,_=>rfl
 | k :: ks,u :: us,x,h=>by
  have hk:¬ k=x:=λe=>h (by rw [e];exact List.mem_cons_self);rw [qx,if_neg hk,uR ks us x λz=>h (List.mem_cons_of_mem _ z)]
def XN (h:k∉ks):gk ks us k t=.dct (ks ++ [k]) (us ++ [t]):=by
 unfold gk;rw [if_neg];intro z;rw [List.any_eq_true] at z;obtain ⟨y,hy,e⟩:=z;exact h ((of_decide_eq_true e) ▸ hy)
def Uc (wf:Str):MT:=jr (m2 zO (m2 zo (mV 4) (mC (.int 0))) (mC (.str wf)))
def Ud (fP:MF):MT:=kb (jr (m2 pN (m2 zo (mV 4) (mC (.int 1))) (mV 5))) (jR (ka (za fP (z3 (mV 2) (z3 (mV 4) z5)))))
def Ue:ME:=m2 zo (mV 4) (mC (.int 1))
def Uf (fS:MF):ME:=za fS (z3 (mV 4) z5)
def aD (M:T)(fP fS:MF)(wf w z:Str)(r ts:List T)(i:Nat)(d1 d2 v:T)(ks:List Key)(us:List T)(b:Bool)(hb:decide (w=wf)=b)(hd:(if b=true then d2 else d1)=.dct ks us)(hn:Sum.inr z∉ks)(hl:ks.length < sizeLine)
  (hP:fP [(false,M),(false,.tup (.str w :: .str z :: r))]=.ok (false,.bl true)) (hS:fS [(false,.tup (.str w :: .str z :: r))]=.ok (false,v)) :
  vJ M (Uc wf) (Ud fP) Ue (Uf fS) ts i (.tup (.str w :: .str z :: r)) (d1,d2)=.ok (if b=true then (d1,.dct (ks ++ [.inr z]) (us ++ [v])) else (.dct (ks ++ [.inr z]) (us ++ [v]),d2)):=by
 have i0:zo (.tup (.str w :: .str z :: r)) (.int 0)=some (false,.str w):=jB _ 0;have i1:zo (.tup (.str w :: .str z :: r)) (.int 1)=some (false,.str z):=jB _ 1
 have hi:pN (.str z) (.dct ks us)=some (false,.bl false):=by
  show some (false,T.bl (qx ks us (Sum.inr z)).isSome)=_;rw [uR ks us _ hn]
  rfl
 have e1:∀ d,Uc wf (jh M ts i (.tup (.str w :: .str z :: r)) d)=.ok b:=λd=>by
  exact wt rfl i0 hb
 have e2:Ud fP (jh M ts i (.tup (.str w :: .str z :: r)) (some (false,.dct ks us)))=.ok false:=by
  exact oJ (vT (v2 (v2 rfl rfl i1) rfl hi)) (am (vF (vC rfl (vC rfl rfl)) hP))
 have e3:Ue (jh M ts i (.tup (.str w :: .str z :: r)) none)=.ok (false,.str z):=by
  exact v2 rfl rfl i1
 have e4:Uf fS (jh M ts i (.tup (.str w :: .str z :: r)) none)=.ok (false,v):=by
  exact vF (vC rfl rfl) hS
 unfold vJ;rw [e1,bind_ok];dsimp only;rw [hd,e2];dsimp only;rw [e4,bind_ok,e3,bind_ok];show (if ks.length < sizeLine then _ else _)=_;rw [if_pos hl,XN hn]
inductive D where
 | rc (z:Str) (m:Bool) (ps:List T)
 | ch (z:Str) (m s:Bool) (ps:List T)
 | fn (z:Str) (qs ps:List T) (kd:Str) (fs:List T)
namespace D
def t:D->T
 | rc z m ps=>.tup [.str "record",.str z,.bl m,.tup ps]
 | ch z m s ps=>.tup [.str "choice",.str z,.bl m,.bl s,.tup ps]
 | fn z qs ps kd fs=>.tup [.str "function",.str z,.int (qs.length:Nat),.tup (qs ++ ps),.str kd,.tup fs]
def w:D->Str
 | rc .. => "record"
 | ch .. => "choice"
 | fn .. => "function"
def z:D->Str
 | rc z .. => z
 | ch z .. => z
 | fn z .. => z
def isF:D->Bool
 | fn .. => true
 | _=>false
def on (f:List T->List T):D->D
 | rc z m ps=>rc z m (f ps)
 | ch z m s ps=>ch z m s (f ps)
 | fn z qs ps kd fs=>fn z qs (f ps) kd (f fs)
def st:D->D:=on kI
def tr:D->D:=on List.reverse
end D
def Nm (y:Str):Prop:=jX [(false,.str y)]=.ok (false,.bl true)
def Kd (y:Str):Prop:=m_is_kind [(false,.str y)]=.ok (false,.bl true)
def PB (z:Str)(m:Bool):Prop := ∀ (c:CA) (ma:Addr) (mk:List Str),z∈mk->jI c [(false,.mem ma (c.memo mk ma)),(false,.str z),(false,.bl m)]=.ok (false,.bl true)
def uS:T->Str
 | .tup (.str y :: _)=>y
 | .str y=>y
 | _ => ""
def nS (R:List T->Prop)(t:T):Prop := ∃ y kd r,t=.tup (.str y :: .str kd :: r)/\Nm y/\Kd kd/\R r
def cI (Q:T->Prop)(ts:List T):Prop:=ts.length<=12/\(ts.map uS).Nodup/\∀ t∈ts,Q t
def Gq (t:T):Prop := ∃ y,t=.str y/\Nm y
def RF (m:Bool)(r:List T):Prop := ∃ d s:Bool,r=[.bl d,.bl s]/\if m=true then d=true\/s=false else d=false
def RP (r:List T):Prop := ∃ b:Bool,r=[.bl b]
def R0 (r:List T):Prop:=r=[]
def D.ok:D->Prop
 | .rc z m ps=>PB z m/\cI (nS (RF m)) ps
 | .ch z m s ps=>PB z m/\cI (nS R0) ps
 | .fn z qs ps kd fs=>Nm z/\Kd kd/\cI (nS RP) (qs ++ ps)/\cI Gq fs
def Vz (h:uS t≠uS u)(ht:ZQ t=true\/YY t=true)(hu:ZQ u=true\/YY u=true):xR t≠xR u:=by
 have e:∀ {x y:Str},x.cps.toList=y.cps.toList->x=y:=λ{x y} h=>by
  obtain ⟨x⟩:=x;obtain ⟨y⟩:=y;have:x=y:=by simpa using h
  rw [this]
 have f1:∀ {t:T},ZQ t=true\/YY t=true->∃ r,xR t=(uS t).cps.toList :: r:=λ{t} h=>by
  rcases h with h | h
  ·cases t<;>first | exact ⟨[],rfl⟩ | cases h
  ·unfold YY at h
   split at h
   ·exact ⟨_,rfl⟩
   ·cases h
 intro z;obtain ⟨r,e1⟩:=f1 ht;obtain ⟨r',e2⟩:=f1 hu;rw [e1,e2] at z;exact h (e (List.cons.inj z).1)
def cI.keys (hq:∀ t,Q t->ZQ t=true\/YY t=true)(h:cI Q ts):(ts.map xR).Nodup:=by
 obtain ⟨_,h2,h3⟩:=h;unfold List.Nodup at h2 ⊢;rw [List.pairwise_map] at h2 ⊢;refine h2.imp_of_mem λha hb hab => ?_;exact Vz hab (hq _ (h3 _ ha)) (hq _ (h3 _ hb))
def cI.sub (h:cI Q (qs ++ ps)):cI Q ps:=by
 obtain ⟨h1,h2,h3⟩:=h;rw [List.length_append] at h1;rw [List.map_append] at h2;exact ⟨by omega,(List.nodup_append.mp h2).2.1,λt ht=>h3 t (List.mem_append_right _ ht)⟩
def aE (ds:List D):Prop:=ds.Pairwise λd e=>d.isF=e.isF->d.z≠e.z
def told (ds:List D):List T:=kI (ds.map λd=>d.st.t)
end Law
namespace Law
open PySem L2 L3
def G5:T->Str×Str×List T
 | .tup (.str y :: .str kd :: r)=>(y,kd,r)
 | _=>("","",[])
def oQ:∀ {ts:List T},(∀ t∈ts,nS R t)->m5 (ts.map G5)=ts
 | [],_=>rfl
 | t :: ts,h=>by
  obtain ⟨y,kd,r,e,_⟩:=h t List.mem_cons_self;have ih:=oQ λu hu=>h u (List.mem_cons_of_mem _ hu);subst e;unfold m5 at ih ⊢;rw [List.map_cons,List.map_cons,ih]
  rfl
def XO:∀ {ts:List T},(∀ t∈ts,nS R t)->(ts.map G5).map (·.1)=ts.map uS
 | [],_=>rfl
 | t :: ts,h=>by
  obtain ⟨y,kd,r,e,_⟩:=h t List.mem_cons_self;have ih:=XO λu hu=>h u (List.mem_cons_of_mem _ hu);subst e;rw [List.map_cons,List.map_cons,List.map_cons,ih]
  rfl
def cJ (h:∀ t∈ts,nS R t)(hp:p∈ts.map G5):Nm p.1/\Kd p.2.1/\R p.2.2/\p.2.1∈strsL ts:=by
 obtain ⟨t,ht,rfl⟩:=List.mem_map.mp hp;obtain ⟨y,kd,r,e,h1,h2,h3⟩:=h t ht;subst e;refine ⟨h1,h2,h3,Zd ht ?_⟩;unfold strsL;unfold strsL;exact List.mem_append_right _ (List.mem_append_left _ (by simp [xW,G5]))
def uT (c:CA)(m:Addr)(mk:List Str)(h:cI (nS R) ts)(hx:∀ z∈strsL ts,z∈mk):jz c [(false,.mem m (c.memo mk m)),(false,.tup ts)]=.ok (false,.bl true):=by
 obtain ⟨h1,h2,h3⟩:=h;have hp:=oQ h3;refine cG c _ _ (ts.map G5) (.inr (by rw [hp])) ?_ ?_ (by rw [List.length_map];omega)
 ·refine um true _ ((ts.map G5).map (·.1)) (.inl rfl) ?_ (by rw [List.length_map,List.length_map];omega) (by rw [XO h3];exact h2)
  intro y hy;obtain ⟨p,hp,rfl⟩:=List.mem_map.mp hy;exact (cJ h3 hp).1
 ·intro p hp
  exact i9 c m mk _ (hx _ (cJ h3 hp).2.2.2) (cJ h3 hp).2.1
def Km:∀ {ts:List T},(∀ t∈ts,Gq t)->sT (ts.map uS)=ts
 | [],_=>rfl
 | t :: ts,h=>by
  obtain ⟨y,e,_⟩:=h t List.mem_cons_self;have ih:=Km λu hu=>h u (List.mem_cons_of_mem _ hu);subst e;unfold sT at ih ⊢;rw [List.map_cons,List.map_cons,ih]
  rfl
def Jl (h:cI Gq ts):jJ [(false,.tup ts)]=.ok (false,.bl true):=by
 obtain ⟨h1,h2,h3⟩:=h;have e:=Km h3;refine um false _ (ts.map uS) (.inr (by rw [e])) ?_ (by rw [List.length_map];omega) h2;intro y hy;obtain ⟨t,ht,rfl⟩:=List.mem_map.mp hy;obtain ⟨y,rfl,hn⟩:=h3 t ht;exact hn
def G6 (c:CA)(m:Addr)(mk:List Str)(z:Str)(md:Bool)(ps:List T)(hz:z∈mk)(hT:PB z md)(h:cI (nS (RF md)) ps)(hx:∀ z∈strsL ps,z∈mk):xZ c [(false,.mem m (c.memo mk m)),(false,.str z),(false,.bl md),(false,.tup ps)]=.ok (false,.bl true):=by
 have hP:=uT c m mk h hx;have e:=oQ h.2.2;rw [<- e] at hP ⊢;refine zT rfl ?_;refine XJ (jI c) (jz c) xr _ z md (ps.map G5) (hT c m mk hz) hP (by rw [List.length_map];have:=h.1;omega) ?_;intro p hp;obtain ⟨d,s,e,h⟩:=(cJ h.2.2 hp).2.2.1;exact ⟨d,s,e,G4 md d s h⟩
def G7 (c:CA)(m:Addr)(mk:List Str)(z:Str)(md:Bool)(ps:List T)(hz:z∈mk)(hT:PB z md)(h:cI (nS R0) ps)(hx:∀ z∈strsL ps,z∈mk):xY c [(false,.mem m (c.memo mk m)),(false,.str z),(false,.bl md),(false,.tup ps)]=.ok (false,.bl true) :=
 zT rfl (XL (jI c) (jz c) _ z md _ (hT c m mk hz) (uT c m mk h hx))
def G8 (c:CA)(m:Addr)(mk:List Str)(z kd:Str)(qs ps fs:List T)(hn:Nm z)(hk:Kd kd)(hkd:kd∈mk)(h:cI (nS RP) (qs ++ ps))(hx:∀ z∈strsL (qs ++ ps),z∈mk)(g:cI Gq fs):jY c [(false,.mem m (c.memo mk m)),(false,.str z),(false,.int (qs.length:Nat)),(false,.tup (qs ++ ps)),(false,.str kd),(false,.tup fs)]=.ok (false,.bl true) :=
 zT rfl (XM jX (ja c) (jz c) jJ _ z kd (qs.length:Nat) _ _ hn (i9 c m mk kd hkd hk) (by omega) (by rw [List.length_append];omega) (uT c m mk h hx) (Jl g))
def oR (c:CA)(m:Addr)(mk:List Str):∀ {d:D},d.ok->(∀ z∈xW d.t,z∈mk)->xT c [(false,.mem m (c.memo mk m)),(false,d.t)]=.ok (false,.bl true)
 | .rc z md ps,h,hx=>by
  have hz:z∈mk:=hx z (by simp [D.t,xW,strsL]);have hp:∀ y∈strsL ps,y∈mk:=λy hy=>hx y (by simp [D.t,xW,strsL,hy]);exact zT rfl (Ji (xZ c) (xY c) (jY c) _ "record" "record" "choice" _ _ _ [] rfl (G6 c m mk z md ps hz h.1 h.2 hp))
 | .ch z md s ps,h,hx=>by
  have hz:z∈mk:=hx z (by simp [D.t,xW,strsL]);have hp:∀ y∈strsL ps,y∈mk:=λy hy=>hx y (by simp [D.t,xW,strsL,hy]);exact zT rfl (Jj (xZ c) (xY c) (jY c) _ "choice" "record" "choice" _ _ _ _ [] Pw rfl (G7 c m mk z md ps hz h.1 h.2 hp))
 | .fn z qs ps kd fs,h,hx=>by
  have hz:kd∈mk:=hx kd (by simp [D.t,xW,strsL]);have hp:∀ y∈strsL (qs ++ ps),y∈mk:=λy hy=>hx y (by simp [D.t,xW,strsL,hy]);exact zT rfl (Jk (xZ c) (xY c) (jY c) _ "function" "record" "choice" _ _ _ _ _ [] Px Py (G8 c m mk z kd qs ps fs h.1 h.2.1 hz h.2.2.1 hp h.2.2.2))
def cI.sortS (h:cI Q ts)(hq:(∀ t,Q t->ZQ t=true)\/∀ t,Q t->YY t=true):sortS ts=some (kI ts):=by
 have hk:=h.keys λt ht=>hq.elim (λf=>.inl (f t ht)) λf=>.inr (f t ht);unfold L3.sortS;rw [if_pos ⟨by have:=h.1;omega,hq.elim (λf=>.inl (List.all_eq_true.mpr λt ht=>f t (h.2.2 t ht))) (λf=>.inr (List.all_eq_true.mpr λt ht=>f t (h.2.2 t ht))),hk⟩]
def oS:∀ t,nS R t->YY t=true:=λt h=>by obtain ⟨y,kd,r,rfl,_⟩:=h;rfl
def PD:∀ t,Gq t->ZQ t=true:=λt h=>by obtain ⟨y,rfl,_⟩:=h;rfl
def Jm (l:List T):(kI l).length=l.length:=(ki l).length_eq
def Jn:∀ {d:D},d.ok->jZ [(false,d.t)]=.ok (false,d.st.t)
 | .rc z md ps,h=>aA (h.2.sortS (.inr oS))
 | .ch z md s ps,h=>aB (h.2.sortS (.inr oS))
 | .fn z qs ps kd fs,h=>by
  have h1:=h.2.2.1.sub.sortS (.inr oS);have h2:=h.2.2.2.sortS (.inl PD);have hl:=h.2.2.1.1;rw [List.length_append] at hl;have:=aC (z:=z) (k:=kd) (ps:=qs ++ ps) (by rw [List.drop_left];exact h1) h2 (by rw [List.length_append,Jm];omega);rw [List.take_left] at this;exact this
theorem G9 (d:D):∃ r,d.t=.tup (.str d.w :: .str d.z :: r):=by cases d<;>exact ⟨_,rfl⟩
theorem PF (d:D):decide (d.w = "function")=d.isF:=by
 cases d
 ·exact decide_eq_false Na
 ·exact decide_eq_false Nb
 ·exact decide_eq_true rfl
def db (ds:List D)(b:Bool):List Key:=(ds.filter λd=>d.isF == b).map λd=>Sum.inr d.z
def Jo (ds:List D)(b:Bool):List T:=(ds.filter λd=>d.isF == b).map λd=>d.st.t
theorem uU (c:CA)(mk:List Str)(ts:List T)(M:T)(hM:∃ m,M=.mem m (c.memo mk m)):∀ (ds:List D) (i:Nat) (k1 k2:List Key) (u1 u2:List T),(∀ d∈ds,d.ok/\∀ z∈xW d.t,z∈mk)->aE ds ->
  (∀ d∈ds,d.isF=false->Sum.inr d.z∉k1)->(∀ d∈ds,d.isF=true->Sum.inr d.z∉k2)->k1.length + ds.length < 1000->k2.length + ds.length < 1000 ->
  xj M (Uc "function") (Ud (xT c)) Ue (Uf jZ) ts i (ds.map D.t) (.dct k1 u1,.dct k2 u2)=.ok (.dct (k1 ++ db ds false) (u1 ++ Jo ds false),.dct (k2 ++ db ds true) (u2 ++ Jo ds true))
 | [],i,k1,k2,u1,u2,_,_,_,_,_,_=>by simp [db,Jo,xj]
 | d :: ds,i,k1,k2,u1,u2,ho,ha,h1,h2,l1,l2=>by
  obtain ⟨m,rfl⟩:=hM;obtain ⟨ok,hz⟩:=ho d List.mem_cons_self;obtain ⟨a1,a2⟩:=List.pairwise_cons.mp ha;have hP:=oR c m mk ok hz;have hS:=Jn ok;obtain ⟨r,e⟩:=G9 d;have hw:=PF d;have o':∀ e∈ds,e.ok/\∀ z∈xW e.t,z∈mk:=λe he=>ho e (List.mem_cons_of_mem _ he);rw [List.length_cons] at l1 l2;rw [List.map_cons,xj];rw [e] at hP hS ⊢
  cases hF:d.isF with
  | false =>
   rw [hF] at hw;have hn:=h1 d List.mem_cons_self hF;rw [aD (.mem m (c.memo mk m)) (xT c) jZ "function" d.w d.z r ts i (.dct k1 u1) (.dct k2 u2) d.st.t k1 u1 false hw rfl hn (by have:=big;omega) hP hS,bind_ok,if_neg Bool.false_ne_true];rw [uU c mk ts _ ⟨m,rfl⟩ ds (i + 1) (k1 ++ [Sum.inr d.z]) k2 (u1 ++ [d.st.t]) u2 o' a2 (λe he hf z => ?_) (λe he hf=>h2 e (List.mem_cons_of_mem _ he) hf) (by rw [List.length_append];simp;omega) (by omega)]
   ·simp [db,Jo,hF]
   ·rcases List.mem_append.mp z with z | z
    ·exact h1 e (List.mem_cons_of_mem _ he) hf z
    ·have:e.z=d.z:=by simpa using z
     exact a1 e he (by rw [hF,hf]) this.symm
  | true =>
   rw [hF] at hw;have hn:=h2 d List.mem_cons_self hF;rw [aD (.mem m (c.memo mk m)) (xT c) jZ "function" d.w d.z r ts i (.dct k1 u1) (.dct k2 u2) d.st.t k2 u2 true hw rfl hn (by have:=big;omega) hP hS,bind_ok,if_pos rfl];rw [uU c mk ts _ ⟨m,rfl⟩ ds (i + 1) k1 (k2 ++ [Sum.inr d.z]) u1 (u2 ++ [d.st.t]) o' a2 (λe he hf=>h1 e (List.mem_cons_of_mem _ he) hf) (λe he hf z => ?_) (by omega) (by rw [List.length_append];simp;omega)]
   ·simp [db,Jo,hF]
   ·rcases List.mem_append.mp z with z | z
    ·exact h2 e (List.mem_cons_of_mem _ he) hf z
    ·have:e.z=d.z:=by simpa using z
     exact a1 e he (by rw [hF,hf]) this.symm
theorem oT {ts us:List T}(h:ts.length + us.length<=sizeLine):zr (.lst ts) (.lst us)=some (true,.lst (ts ++ us)):=by
 show (if ts.length + us.length<=sizeLine then some (true,T.lst (ts ++ us)) else none)=_;rw [if_pos h]
theorem Ga (c:CA):jw c=xn c.memo c.Face "told_kinds" "told_functions" (Uc "function") (Ud (xT c)) Ue (Uf jZ):=rfl
theorem XQ {memo:List Str->Mo}{C:Addr}{f1 f2:Str}{tw tc:MT}{mk mv:ME}{ts:List T}{d1 d2:T}{env:En}{b:Bool}{i:Nat}(h4:env[i]? = some (some (b,.lst ts)))(hz:(strsL ts).length < sizeLine)(h:∀ m,xj (.mem m (memo (strsL ts) m)) tw tc mk mv ts 0 ts (.dct [] [],.dct [] [])=.ok (d1,d2)) :
  km C (xn memo C f1 f2 tw tc mk mv) (z3 (mV i) z5) env=.ok (false,.obj C [f1,f2] [d1,d2]):=by
 have ha:z3 (mV i) z5 env=.ok [(false,.lst ts)]:=by simp [z3,z5,mV,h4]
 unfold km;rw [ha,bind_ok]
 have hT:xn memo C f1 f2 tw tc mk mv [(true,.obj C [] []),(false,.lst ts)]=.ok (.obj C [f1,f2] [d1,d2]):=by
  unfold xn;dsimp only;rw [if_pos ⟨rfl,hz⟩,h 0];dsimp only;rw [if_pos h]
 rw [hT,bind_ok]
theorem XR {x:Str}{t:T} : ∀ {ts:List T},t∈ts->x∈xW t->x∈strsL ts
 | u :: ts,h,hx=>by
  unfold strsL
  rcases List.mem_cons.mp h with rfl | h
  ·exact List.mem_append_left _ hx
  ·exact List.mem_append_right _ (XR h hx)
theorem Gb (c:CA){ds:List D}(ok:∀ d∈ds,d.ok)(h:aE ds)(hl:ds.length<=13)(hz:(strsL (ds.map D.t)).length < sizeLine){env:En}{b:Bool}{i:Nat}(hi:env[i]? = some (some (b,.lst (ds.map D.t)))) :
  km c.Face (jw c) (z3 (mV i) z5) env=.ok (false,.obj c.Face ["told_kinds","told_functions"] [.dct (db ds false) (Jo ds false),.dct (db ds true) (Jo ds true)]):=by
 rw [Ga];refine XQ hi hz λm => ?_;have:=uU c (strsL (ds.map D.t)) (ds.map D.t) (.mem m (c.memo (strsL (ds.map D.t)) m)) ⟨m,rfl⟩ ds 0 [] [] [] [] (λd hd=>⟨ok d hd,λz hz=>XR (List.mem_map_of_mem hd) hz⟩) h (λ_ _ _ z=>nomatch z) (λ_ _ _ z=>nomatch z) (by simp;omega) (by simp;omega);exact this
theorem PH {m:ME}{env:En}{b:Bool}{ts:List T}(h:m (zZ env)=.ok (b,.lst ts)):WX m env=.ok (ts,env):=by
 unfold WX xm;rw [h]
 rfl
theorem VA {m:ME}{tg:MG}{mb:MS}{env:En}{b:Bool}{ts:List T}{o:YL}(h:m (zZ env)=.ok (b,.lst ts))(g:xD tg mb ts env=o):v6 (WX m) tg mb env=o:=by
 unfold v6;rw [PH h];exact g
theorem XS {a:Int}(b:Int)(h : -(2 ^ 64) < a/\a < 2 ^ 64):iF (.int a) (.int b)=some (false,.int (a * b)):=if_pos (.inl h)
theorem PJ (a:Int){b:Int}(h : -(2 ^ 64) < b/\b < 2 ^ 64):iF (.int a) (.int b)=some (false,.int (a * b)):=if_pos (.inr h)
theorem VB (a:Int){b:Int}(h:0 < b/\b < 1073741824):jL (.int a) (.int b)=some (false,.int (a / b)):=if_pos h
theorem xL (c k:Int):∃ n:Nat,zI [(false,.int c),(false,.int k)]=.ok (false,.int (n:Int)):=by
 have h0:=Int.emod_nonneg ((c + 7919 * k + 1) * 48271) (b:=2147483647) (by decide);have h1:=Int.emod_lt_of_pos ((c + 7919 * k + 1) * 48271) (b:=2147483647) (by decide);have q:∀ x:Int,0<=x % 2147483647:=λx=>Int.emod_nonneg x (by decide);generalize hn:(c + 7919 * k + 1) * 48271 % 2147483647=n at h0 h1;obtain ⟨m,hm⟩:=Int.eq_ofNat_of_zero_le (q (n * (n / 1009 + 69621)));refine ⟨m,zT (n:=3) (k:=2) (mb:=ud) rfl ?_⟩;show ze _ _ [some (false,.int c),some (false,.int k),none]=_;have a1:zS (.int ((c + 7919 * k + 1) * 48271)) (.int 2147483647)=some (false,.int n):=by rw [<- hn];exact d7 _ (by decide)
 have a2:zS (.int (n * (n / 1009 + 69621))) (.int 2147483647)=some (false,.int (m:Int)):=by rw [<- hm];exact d7 _ (by decide)
 rw [zf (zj (v2 (v2 (v2 (v2 rfl (v2 rfl rfl (XS k (by decide))) rfl) rfl rfl) rfl (PJ _ (by decide))) rfl a1))];exact zA (v2 (v2 rfl (v2 (v2 rfl rfl (VB n (by decide))) rfl rfl) (XS _ (by omega))) rfl a2)
structure kW (ts:List Str):Prop where
 len:ts.length=5
 kind:∀ z∈ts,Kd z
 short:∀ z∈ts,z.length<=40
 ne:∀ z∈ts,∃ c r,z.cps.toList=c :: r/\(c≠35->c≠40->Nm z)
 told:∀ z∈ts,z ≠ "num" /\ z ≠ "word"
 nodup:ts.Nodup
def oU (ts:List Str):List Str := "num" :: "word" :: ts
theorem m6 {ts:List Str}(h:kW ts)(b:Bool)(x:Nat):∃ z:Str,z∈oU ts/\jl [(b,.lst (sT ts)),(false,.int (x:Int))]=.ok (false,.str z):=by
 have hl:(oU ts).length=7:=congrArg (· + 2) h.len;have hi:x % 7 < (oU ts).length:=by rw [hl];exact Nat.mod_lt _ (by decide)
 refine ⟨(oU ts)[x % 7],List.getElem_mem hi,zT (n:=2) (k:=2) (mb:=ny) rfl ?_⟩;have e1:zr (.lst [.str "num",.str "word"]) (.lst (sT ts))=some (true,.lst (sT (oU ts))):=oT (by rw [gM,h.len];decide)
 have e2:vY [.lst (sT ts)]=some (false,.int 5):=by
  show some (false,T.int (((sT ts).length:Nat):Int))=_;rw [gM,h.len]
  rfl
 have e3:zS (.int (x:Int)) (.int 7)=some (false,.int ((x % 7:Nat):Int)):=uk x 7 (by decide)
 have e4:zo (.lst (sT (oU ts))) (.int ((x % 7:Nat):Int))=some (false,.str (oU ts)[x % 7]):=by
  rw [aw,List.getElem?_eq_getElem hi]
  rfl
 have key:∀ env:En,mV 0 env=.ok (false,.lst (sT ts))->mV 1 env=.ok (false,.int (x:Int))->m2 zo (m2 zr (jS (z3 (mC (.str "num")) (z3 (mC (.str "word")) z5))) (mV 0)) (m2 zS (mV 1) (m2 zr (mC (.int 2)) (zE vY (z3 (mV 0) z5)))) env=.ok (false,.str (oU ts)[x % 7]):=λenv h0 h1 =>
  v2 (v2 (vL (vC rfl (vC rfl rfl)) rfl rfl) h0 e1) (v2 h1 (v2 rfl (vK (vC h0 rfl) e2) rfl) e3) e4
 cases b with
 | false=>exact zA (key _ rfl rfl)
 | true=>exact kD (key _ rfl rfl) rfl
def hds:List Str:=["","a","zz","mor"]
def PK:List Str:=["","b","xy","k"]
def ie (a b:Str):List Str:=[a ++ "c" ++ b,a ++ "d" ++ b,a ++ "e" ++ b,a ++ "f" ++ b,a ++ "g" ++ b]
def hsh (n:Nat):Str := "#" ++ ((toString (n:Int):String):Str)
def PL (a b:Str):Str := "(" ++ (a ++ "c" ++ b) ++ "&word)"
def PM (z:Str):Bool:=Fs.isKind z.cps.toList && decide (z.length<=40) && (match z.cps.toList with
 | []=>false
 | c :: _=>decide (c=35) || decide (c=40) || Fs.isName z.cps.toList) && decide (z ≠ "num") && decide (z ≠ "word")
theorem Gc:∀ a∈hds,∀ b∈PK,(ie a b).all PM=true/\(ie a b).Nodup:=by decide +kernel
theorem Gd:∀ n:Fin 100,∀ a∈hds,∀ b∈PK,((ie a b).set 3 (hsh n.1)).all PM=true/\((ie a b).set 3 (hsh n.1)).Nodup:=by decide +kernel
theorem Ge:∀ a∈hds,∀ b∈PK,((ie a b).set 3 (PL a b)).all PM=true/\((ie a b).set 3 (PL a b)).Nodup:=by decide +kernel
theorem XT:∀ a∈hds,a.length<=3:=by decide +kernel
theorem XU:∀ a∈PK,a.length<=3:=by decide +kernel
theorem Kn {z:Str}(hl:z.length<=40)(h:Fs.isName z.cps.toList=true):Nm z:=by
 have:=lY z (Nat.le_trans hl (by decide)) (by omega);rw [h] at this;exact this
theorem cK {ts:List Str}(hl:ts.length=5)(h:ts.all PM=true/\ts.Nodup):kW ts:=by
 have q:∀ z∈ts,Fs.isKind z.cps.toList=true/\z.length<=40/\(∃ c r,z.cps.toList=c :: r/\(c≠35->c≠40->Fs.isName z.cps.toList=true))/\z ≠ "num" /\ z ≠ "word" := λz hz=>by
  have:=List.all_eq_true.mp h.1 z hz;unfold PM at this;rw [Bool.and_eq_true,Bool.and_eq_true,Bool.and_eq_true,Bool.and_eq_true] at this;obtain ⟨⟨⟨⟨h1,h2⟩,h3⟩,h4⟩,h5⟩:=this;refine ⟨h1,of_decide_eq_true h2,?_,of_decide_eq_true h4,of_decide_eq_true h5⟩
  cases e:z.cps.toList with
  | nil=>rw [e] at h3;cases h3
  | cons c r =>
   rw [e] at h3;refine ⟨c,r,rfl,λn1 n2 => ?_⟩;have h3:(decide (c=35) || decide (c=40) || Fs.isName (c :: r))=true:=h3;rw [decide_eq_false n1,decide_eq_false n2] at h3;exact h3
 refine ⟨hl,λz hz=>cH z (Nat.le_trans (q z hz).2.1 (by decide)) (q z hz).1,λz hz=>(q z hz).2.1,λz hz => ?_,λz hz=>(q z hz).2.2.2,h.2⟩;obtain ⟨c,r,e,g⟩:=(q z hz).2.2.1;exact ⟨c,r,e,λn1 n2=>Kn (q z hz).2.1 (g n1 n2)⟩
theorem PN {m:ME}{env:En}{r:RV}(h:m (zZ env)=.bad)(g:m env=.ok r)(c:L3.clean env r=true):xm m env=.ok (r,env):=by
 unfold xm L3.settle;rw [h,g];dsimp only;rw [if_pos c]
theorem Ze {me:ME}{caps:En}{g:T->T} : ∀ ts:List T,(∀ t∈ts,∃ b,me (some (false,t) :: caps)=.ok (b,g t))->wy jt me caps ts=.ok (ts.map g)
 | [],_=>rfl
 | t :: ts,h=>by
  obtain ⟨b,e⟩:=h t List.mem_cons_self;have ih:=Ze ts λu hu=>h u (List.mem_cons_of_mem _ hu)
  show (match me (some (false,t) :: caps) with
   | .ok r=>(match wy jt me caps ts with
    | .ok rs=>kg.ok (r.2 :: rs)
    | _=>.bad)
   | _=>.bad)=_
  rw [e,ih]
  rfl
def Nc:ME:=jf (xQ (mC (.str "cdefg"))) jt (m2 zr (m2 zr (mV 2) (mV 0)) (mV 1)) [3,2]
def Nd:ME:=m2 zr (mC (.str "#")) (zE bC (z3 (m2 zS (m2 jL (mV 1) (mC (.int 48))) (mC (.int 100))) z5))
def Nf:ME:=m2 zr (m2 zr (mC (.str "(")) (m2 zo (mV 4) (mC (.int 0)))) (mC (.str "&word)"))
def Gf (k:Int):MT:=jr (m2 zO (m2 zS (m2 jL (mV 1) (mC (.int 16))) (mC (.int 3))) (mC (.int k)))
def Ug (a b c d:Str)(m:ME):ME:=m2 zo (jS (z3 (mC (.str a)) (z3 (mC (.str b)) (z3 (mC (.str c)) (z3 (mC (.str d)) z5))))) m
theorem VC:kN=ze (zn 1 (za zI (z3 (mV 0) (z3 (mC (.int 0)) z5)))) (ze (zn 2 (Ug "" "a" "zz" "mor" (m2 zS (mV 1) (mC (.int 4))))) (ze (zn 3 (Ug "" "b" "xy" "k" (m2 zS (m2 jL (mV 1) (mC (.int 4))) (mC (.int 4))))) (ze (zn 4 Nc) (ze (xi (Gf 0) (wd 4 (mC (.int 3)) Nd) zw) (ze (xi (Gf 1) (wd 4 (mC (.int 3)) Nf) zw) (wx 4)))))):=rfl
theorem oV {a b c d:Str}{m:ME}{env:En}{i:Nat}(h:m env=.ok (false,.int ((i % 4:Nat):Int))):∃ z∈[a,b,c,d],Ug a b c d m env=.ok (false,.str z):=by
 have hi:i % 4 < ([a,b,c,d]:List Str).length:=Nat.mod_lt _ (by decide);refine ⟨[a,b,c,d][i % 4],List.getElem_mem hi,v2 (vL (vC rfl (vC rfl (vC rfl (vC rfl rfl)))) rfl rfl) h ?_⟩;show zo (.lst (sT [a,b,c,d])) _=_;rw [aw,List.getElem?_eq_getElem hi]
 rfl
theorem Mb:("cdefg" : Str).cps.toList=[99,100,101,102,103]:=by decide +kernel
theorem VD {a b:Str}(ha:a.length<=3)(hb:b.length<=3)(o0 o1:Option RV)(r:List (Option RV)):Nc (o0 :: o1 :: some (false,.str a) :: some (false,.str b) :: r)=.ok (true,.lst (sT (ie a b))):=by
 have e:xQ (mC (.str "cdefg")) (o0 :: o1 :: some (false,.str a) :: some (false,.str b) :: r)=.ok ([99,100,101,102,103].map λc=>T.str ⟨#[c]⟩):=by
  show kg.ok (("cdefg" : Str).cps.toList.map λc=>T.str ⟨#[c]⟩)=_;rw [Mb]
 unfold Nc jf;rw [e,bind_ok,if_pos (by decide)]
 show (match wy jt (m2 zr (m2 zr (mV 2) (mV 0)) (mV 1)) [some (false,.str b),some (false,.str a)] ([99,100,101,102,103].map λc=>T.str ⟨#[c]⟩) with
  | .ok rs=>kg.ok (true,T.lst rs)
  | _=>.bad)=_
 rw [Ze (g:=λt=>match t with
  | .str s=>.str (a ++ s ++ b)
  | _=>.non)]
 ·have k:([99,100,101,102,103].map λc=>(⟨#[c]⟩:Str))=(["c","d","e","f","g"]:List Str):=by decide +kernel
  show kg.ok (true,T.lst (([99,100,101,102,103].map λc=>(⟨#[c]⟩:Str)).map λs=>T.str (a ++ s ++ b)))=_;rw [k]
  rfl
 ·intro t ht
  obtain ⟨c,_,rfl⟩:=List.mem_map.mp ht;have l1:(⟨#[c]⟩:Str).length=1:=rfl;have l2:(a ++ (⟨#[c]⟩:Str)).length=a.length + 1:=by rw [<- xC,m4,List.length_append,xC,xC,l1]
  exact ⟨false,v2 (v2 rfl rfl (add_str (by omega))) rfl (add_str (by omega))⟩
theorem Zf {k:Nat}{n:Nat}{env:En}(h:(zZ env)[1]? = some (some (false,.int (n:Int)))):jT (Gf (k:Int)) env=.ok (decide (n / 16 % 3=k)):=by
 refine j9 (vT (p:=false) (v2 (v2 (v2 (vV h) rfl (hU n 16 (by decide) (by decide))) rfl (uk _ 3 (by decide))) rfl ?_));rw [gK]
 congr 3
 exact decide_eq_decide.mpr (by omega)
theorem Jp (c:Int):∃ ts,kW ts/\xK [(false,.int c)]=.ok (true,.lst (sT ts)):=by
 obtain ⟨n,hn⟩:=xL c 0;have m1:zS (.int (n:Int)) (.int 4)=some (false,.int ((n % 4:Nat):Int)):=uk n 4 (by decide);have d1:jL (.int (n:Int)) (.int 4)=some (false,.int ((n / 4:Nat):Int)):=hU n 4 (by decide) (by decide);have m2':zS (.int ((n / 4:Nat):Int)) (.int 4)=some (false,.int ((n / 4 % 4:Nat):Int)):=uk (n / 4) 4 (by decide);obtain ⟨a,ha,pa⟩:=oV (a := "") (b := "a") (c := "zz") (d := "mor") (env:=[some (false,.int c),some (false,.int (n:Int)),none,none,none]) (m:=m2 zS (mV 1) (mC (.int 4))) (i:=n) (v2 rfl rfl m1);obtain ⟨b,hb,pb⟩:=oV (a := "") (b := "b") (c := "xy") (d := "k") (env:=[some (false,.int c),some (false,.int (n:Int)),some (false,.str a),none,none]) (m:=m2 zS (m2 jL (mV 1) (mC (.int 4))) (mC (.int 4))) (i:=n / 4) (v2 (v2 rfl rfl d1) rfl m2');have ha:a∈hds:=ha;have hb:b∈PK:=hb;have la:=XT a ha;have lb:=XU b hb;have hl:(sT (ie a b)).length=5:=rfl
 have run:∀ ts,(ze (xi (Gf 0) (wd 4 (mC (.int 3)) Nd) zw) (ze (xi (Gf 1) (wd 4 (mC (.int 3)) Nf) zw) (wx 4))) [some (false,.int c),some (false,.int (n:Int)),some (false,.str a),some (false,.str b),some (true,.lst (sT (ie a b)))]=.rt (true,.lst (sT ts))->xK [(false,.int c)]=.ok (true,.lst (sT ts)):=λts h=>by
  refine zT (n:=5) (k:=1) (mb:=kN) rfl ?_;rw [VC];show ze _ _ [some (false,.int c),none,none,none,none]=_;rw [zf (zj (vF (vC rfl (vC rfl rfl)) hn))];show ze _ _ [some (false,.int c),some (false,.int (n:Int)),none,none,none]=_;rw [zf (zj pa)];show ze _ _ [some (false,.int c),some (false,.int (n:Int)),some (false,.str a),none,none]=_;rw [zf (zj pb)];show ze _ _ [some (false,.int c),some (false,.int (n:Int)),some (false,.str a),some (false,.str b),none]=_;rw [zf (zj (VD la lb _ _ _))];exact h
 have t0:jT (Gf 0) [some (false,.int c),some (false,.int (n:Int)),some (false,.str a),some (false,.str b),some (true,.lst (sT (ie a b)))]=.ok (decide (n / 16 % 3=0)):=Zf (k:=0) (n:=n) rfl;have t1:∀ ys,jT (Gf 1) [some (false,.int c),some (false,.int (n:Int)),some (false,.str a),some (false,.str b),some (true,.lst ys)]=.ok (decide (n / 16 % 3=1)):=λys=>Zf (k:=1) (n:=n) rfl;have back:∀ z:Str,(sT (ie a b)).set 3 (.str z)=sT ((ie a b).set 3 z):=λz=>rfl
 by_cases g0:n / 16 % 3=0
 ·rw [decide_eq_true g0] at t0
  have q:n / 48 % 100 < 100:=Nat.mod_lt _ (by decide);refine ⟨(ie a b).set 3 (hsh (n / 48 % 100)),cK rfl (Gd ⟨_,q⟩ a ha b hb),run _ ?_⟩
  have s1:bC [.int ((n / 48 % 100:Nat):Int)]=some (false,.str (toString ((n / 48 % 100:Nat):Int):String)):=by
   have:∀ i:Fin 100,(((i.1:Nat):Int).natAbs.log2 < 1920):=by decide +kernel
   show (if _ then _ else _)=_;rw [if_pos (this ⟨_,q⟩)]
  have s2:zr (.str "#") (.str (toString ((n / 48 % 100:Nat):Int):String))=some (false,.str (hsh (n / 48 % 100))):=by
   refine add_str ?_;have:∀ i:Fin 100,("#" : Str).length + ((toString ((i.1:Nat):Int):String):Str).length<=1000:=by decide +kernel
   exact this ⟨_,q⟩
  have hS:wd 4 (mC (.int 3)) Nd [some (false,.int c),some (false,.int (n:Int)),some (false,.str a),some (false,.str b),some (true,.lst (sT (ie a b)))]=.nx [some (false,.int c),some (false,.int (n:Int)),some (false,.str a),some (false,.str b),some (true,.lst ((sT (ie a b)).set 3 (.str (hsh (n / 48 % 100)))))]:=lW (fB (r:=(false,.str (hsh (n / 48 % 100)))) (v2 rfl (vK (vC (v2 (v2 rfl rfl (hU n 48 (by decide) (by decide))) rfl (uk _ 100 (by decide))) rfl) s1) s2)) rfl rfl (j:=3) rfl;rw [zf ((qH t0).trans hS)];have t1:=t1 ((sT (ie a b)).set 3 (.str (hsh (n / 48 % 100))));rw [decide_eq_false (by omega)] at t1;rw [zf (j5 t1)]
  rfl
 ·rw [decide_eq_false g0] at t0
  by_cases g1:n / 16 % 3=1
  ·refine ⟨(ie a b).set 3 (PL a b),cK rfl (Ge a ha b hb),run _ ?_⟩
   rw [zf (j5 t0)];have t1:=t1 (sT (ie a b));rw [decide_eq_true g1] at t1
   have la2:(a ++ "c" ++ b).length=a.length + 1 + b.length:=by
    rw [<- xC,m4,m4,List.length_append,List.length_append,xC,xC,xC]
    rfl
   have l3:("(" ++ (a ++ "c" ++ b)).length=1 + (a.length + 1 + b.length):=by
    rw [<- xC,m4,List.length_append,xC,xC,la2]
    rfl
   have w5:("&word)" : Str).length=6:=by decide +kernel
   have w1:("(" : Str).length=1:=by decide +kernel
   have i0:zo (.lst (sT (ie a b))) (.int 0)=some (false,.str (a ++ "c" ++ b)):=rfl;have hS:wd 4 (mC (.int 3)) Nf [some (false,.int c),some (false,.int (n:Int)),some (false,.str a),some (false,.str b),some (true,.lst (sT (ie a b)))]=.nx [some (false,.int c),some (false,.int (n:Int)),some (false,.str a),some (false,.str b),some (true,.lst ((sT (ie a b)).set 3 (.str (PL a b))))]:=lW (PN (r:=(false,.str (PL a b))) rfl (v2 (v2 rfl (v2 rfl rfl i0) (add_str (by omega))) rfl (add_str (by omega))) (ao rfl rfl rfl)) rfl rfl (j:=3) rfl;rw [zf ((qH t1).trans hS)]
   rfl
  ·refine ⟨ie a b,cK rfl (Gc a ha b hb),run _ ?_⟩
   rw [zf (j5 t0)];have t1:=t1 (sT (ie a b));rw [decide_eq_false g1] at t1;rw [zf (j5 t1)]
   rfl
theorem NE (n:Nat):pK (.int (n:Int)) (.int 0)=some (false,.bl (decide (0 < n))):=by
 show some (false,T.bl (decide ((0:Int) < (n:Int))))=_
 congr 3
 exact decide_eq_decide.mpr (by omega)
theorem Uh (n k:Nat):zO (.int (n:Int)) (.int (k:Int))=some (false,.bl (decide (n=k))):=by
 rw [gK]
 congr 3
 exact decide_eq_decide.mpr (by omega)
theorem uo {i:Nat}{mk mv:ME}{env:En}{ks:List Key}{ts:List T}{r:RV}{p:Bool}{y:Str}(hv:xm mv env=.ok (r,env))(hi:env[i]? = some (some (true,.dct ks ts)))(hk:mk (zZ env)=.ok (p,.str y))(hy:Sum.inr y∉ks)(hl:ks.length < 900):vn i mk mv env=.nx (env.set i (some (true,.dct (ks ++ [Sum.inr y]) (ts ++ [r.2])))):=by
 unfold vn;rw [hv];dsimp only;rw [hi];dsimp only;rw [fB hk];dsimp only;rw [hi];show (if ks.length < sizeLine then YL.nx (env.set i (some (true,gk ks ts (Sum.inr y) r.2))) else .bad)=_;rw [if_pos (by have:=big;omega)];unfold gk;rw [if_neg];intro z;obtain ⟨x,hx,e⟩:=List.any_eq_true.mp z;exact hy (of_decide_eq_true e ▸ hx)
theorem ig {ts:List Str}(h:kW ts){i n:Nat}(hi:i < 5){env:En}{b:Bool}{k3:Nat}(h0:env[0]? = some (some (b,.lst (sT ts))))(h1:env[1]? = some (some (false,.int (i:Int))))(h3:env[k3]? = some (some (false,.int (n:Int)))) :
  ∃ md:Bool,jk (m2 pK (m2 zS (mV k3) (mC (.int 3))) (mC (.int 0))) (m2 qO (m2 zo (m2 zo (mV 0) (mV 1)) (mC (.int 0))) (mC (.str "#("))) env=.ok (false,.bl md)/\(md=true->Nm (ts.getD i "")):=by
 have hi':i < ts.length:=by rw [h.len];exact hi
 have e1:zo (.lst (sT ts)) (.int (i:Int))=some (false,.str (ts.getD i "")):=by
  rw [aw,getD_some (d:=("" : Str)) hi']
  rfl
 have hm:ts.getD i "" ∈ ts:=by
  rw [List.getD_eq_getElem?_getD,List.getElem?_eq_getElem hi'];exact List.getElem_mem hi'
 obtain ⟨c,r,e,g⟩:=h.ne _ hm;have hs:=h.short _ hm;generalize ts.getD i "" = z at *
 have e2:zo (.str z) (.int 0)=some (false,.str ⟨#[c]⟩):=by
  show (if z.length<=sizeLine then (mz z.cps.toList 0).map λc=>(false,T.str ⟨#[c]⟩) else none)=_;rw [if_pos (Nat.le_trans hs (by decide)),e];have:aR (c :: r).length 0=some 0:=by simp [aR]
  unfold mz;rw [this]
  rfl
 have hc:("#(" : Str).cps.toList=[35,40]:=by decide +kernel
 have e3:qO (.str ⟨#[c]⟩) (.str "#(")=some (false,.bl (!decide (c∈("#(" : Str).cps.toList))):=by
  have:=XD c "#(";unfold pN at this;unfold qO
  cases q:WU (.str ⟨#[c]⟩) (.str "#(") with
  | none=>rw [q] at this;cases this
  | some k=>rw [q] at this;cases this;rfl
 refine ⟨_,N5 (v2 (v2 (vV h3) rfl (uk n 3 (by decide))) rfl (NE _)) (v2 (v2 (v2 (vV h0) (vV h1) e1) rfl e2) rfl e3),λq => ?_⟩;rw [Bool.and_eq_true] at q;have q:=q.2;rw [hc] at q;have q:¬ c∈[35,40]:=of_decide_eq_true (by rw [decide_not];exact q);exact g (λz=>q (by rw [z];decide)) (λz=>q (by rw [z];decide))
def Jq (ts:List Str)(md:Bool)(q:Str×List T):Prop := ∃ kd d s,q.2=[.str kd,.bl d,.bl s]/\kd∈oU ts/\if md=true then d=true\/s=false else d=false
def hV {α:Type}(Q:List (Str×α)):List Key:=Q.map λq=>Sum.inr q.1
def JN (Q:List (Str×List T)):List T:=Q.map λq=>.tup q.2
def JO:List Str:=["left","q","zeal"]
def NF:ME:=jk (mV 4) (m2 zO (m2 zS (mV 7) (mC (.int 2))) (mC (.int 1)))
def NG:ME:=jk (m2 pK (m2 zS (m2 jL (mV 7) (mC (.int 2))) (mC (.int 3))) (mC (.int 0))) (iG (mV 8) (qQ (mV 4)))
def n3 (a b c:Str)(m:ME):ME:=m2 zo (jS (z3 (mC (.str a)) (z3 (mC (.str b)) (z3 (mC (.str c)) z5)))) m
def NI:ME:=zP (z3 (za jl (z3 (mV 0) (z3 (m2 jL (mV 7) (mC (.int 6))) z5))) (z3 (mV 8) (z3 (mV 9) z5)))
def PP:MS:=ze (zn 7 (za zI (z3 (mV 2) (z3 (m2 zr (mC (.int 2)) (mV 6)) z5)))) (ze (zn 8 NF) (ze (zn 9 NG) (vn 5 (n3 "left" "q" "zeal" (mV 6)) NI)))
theorem cL {a b c:Str}{m:ME}{env:En}{i:Nat}(hi:i < 3)(h:m env=.ok (false,.int (i:Int))):n3 a b c m env=.ok (false,.str (([a,b,c]:List Str).getD i "")):=by
 refine v2 (vL (vC rfl (vC rfl (vC rfl rfl))) rfl rfl) h ?_;show zo (.lst (sT [a,b,c])) _=_;rw [aw,getD_some (d:=("" : Str)) (by exact hi)]
 rfl
theorem qm {l:List Str}{k:Nat}(h:k < l.length):l.take k ++ [l.getD k ""]=l.take (k + 1):=by
 rw [List.take_add_one,getD_some (d:=("" : Str)) h]
 rfl
theorem kF {l:List Str}(n:l.Nodup){k:Nat}(h:k < l.length):l.getD k "" ∉ l.take k:=by
 have e:l.take (k + 1)=l.take k ++ [l.getD k ""]:=(qm h).symm;have:=List.Nodup.sublist (List.take_sublist (k + 1) l) n;rw [e] at this;intro z;exact (List.nodup_append.mp this).2.2 _ z _ (List.mem_singleton.mpr rfl) rfl
theorem de:JO.Nodup:=by decide +kernel
theorem XV {ts:List Str}(h:kW ts)(at_ c n:Int)(md:Bool)(k:Nat)(hk:k < 3)(Q:List (Str×List T))(hQ:Q.map (·.1)=JO.take k)(hF:∀ q∈Q,Jq ts md q)(e7 e8 e9:Option RV) :
  ∃ Q' e7' e8' e9',Q'.map (·.1)=JO.take (k + 1)/\(∀ q∈Q',Jq ts md q)/\PP [some (false,.lst (sT ts)),some (false,.int at_),some (false,.int c),some (false,.int n),some (false,.bl md),some (true,.dct (hV Q) (JN Q)),some (false,.int (k:Int)),e7,e8,e9]=.nx [some (false,.lst (sT ts)),some (false,.int at_),some (false,.int c),some (false,.int n),some (false,.bl md),some (true,.dct (hV Q') (JN Q')),some (false,.int (k:Int)),e7',e8',e9']:=by
 obtain ⟨y,hy⟩:=xL c (2 + (k:Int));have m2':zS (.int (y:Int)) (.int 2)=some (false,.int ((y % 2:Nat):Int)):=uk y 2 (by decide);obtain ⟨kd,hkd,hkk⟩:=m6 h false (y / 6);refine ⟨Q ++ [(JO.getD k "",[.str kd,.bl (md && decide (y % 2=1)),.bl (decide (0 < y / 2 % 3) && ((md && decide (y % 2=1)) || !md))])],some (false,.int (y:Int)),some (false,.bl (md && decide (y % 2=1))),some (false,.bl (decide (0 < y / 2 % 3) && ((md && decide (y % 2=1)) || !md))),?_,λq hq => ?_,?_⟩
 ·rw [List.map_append,hQ]
  exact qm hk
 ·rcases List.mem_append.mp hq with z | z
  ·exact hF q z
  ·rw [List.mem_singleton.mp z]
   refine ⟨kd,_,_,rfl,hkd,?_⟩;cases md
   ·rfl
   ·by_cases g:y % 2=1
    ·exact .inl (by rw [decide_eq_true g];rfl)
    ·exact .inr (by rw [decide_eq_false g];exact Bool.and_false _)
 ·unfold PP
  rw [zf (zj (vF (vC rfl (vC (v2 rfl rfl rfl) rfl)) hy))];show ze _ _ [some (false,.lst (sT ts)),some (false,.int at_),some (false,.int c),some (false,.int n),some (false,.bl md),some (true,.dct (hV Q) (JN Q)),some (false,.int (k:Int)),some (false,.int (y:Int)),e8,e9]=_;rw [zf (a:=zn 8 NF) (zj (N5 rfl (v2 (v2 rfl rfl m2') rfl (Uh (y % 2) 1))))];show ze _ _ [some (false,.lst (sT ts)),some (false,.int at_),some (false,.int c),some (false,.int n),some (false,.bl md),some (true,.dct (hV Q) (JN Q)),some (false,.int (k:Int)),some (false,.int (y:Int)),some (false,.bl (md && decide (y % 2=1))),e9]=_;rw [zf (a:=zn 9 NG) (zj (N5 (v2 (v2 (v2 rfl rfl (hU y 2 (by decide) (by decide))) rfl (uk _ 3 (by decide))) rfl (NE _)) (Nz rfl (NA rfl))))];show vn _ _ _ [some (false,.lst (sT ts)),some (false,.int at_),some (false,.int c),some (false,.int n),some (false,.bl md),some (true,.dct (hV Q) (JN Q)),some (false,.int (k:Int)),some (false,.int (y:Int)),some (false,.bl (md && decide (y % 2=1))),some (false,.bl (decide (0 < y / 2 % 3) && ((md && decide (y % 2=1)) || !md)))]=_;refine (uo (mv:=NI) (y:=JO.getD k "") (fB (vP (vC (vF (vC rfl (vC (v2 rfl rfl (hU y 6 (by decide) (by decide))) rfl)) hkk) (vC rfl (vC rfl rfl))) rfl rfl)) rfl (cL hk rfl) ?_ ?_).trans ?_
  ·intro z
   obtain ⟨q,hq,e⟩:=List.mem_map.mp z;have e:q.1=JO.getD k "" := Sum.inr.inj e;refine kF de hk ?_;rw [<- hQ,<- e];exact List.mem_map_of_mem hq
  ·have:=congrArg List.length hQ
   rw [List.length_map,List.length_take] at this;unfold hV;rw [List.length_map];omega
  ·simp only [hV,JN,List.map_append,List.map_cons,List.map_nil]
   rfl
def rE (ts:List Str)(at_ c n:Int)(md:Bool)(Q:List (Str×List T))(e6 e7 e8 e9:Option RV):En:=[some (false,.lst (sT ts)),some (false,.int at_),some (false,.int c),some (false,.int n),some (false,.bl md),some (true,.dct (hV Q) (JN Q)),e6,e7,e8,e9]
theorem aF {ts:List Str}(h:kW ts)(at_ c n:Int)(md:Bool):∀ (m k:Nat) (Q:List (Str×List T)) (e6 e7 e8 e9:Option RV),k + m<=3->Q.map (·.1)=JO.take k->(∀ q∈Q,Jq ts md q) ->
  ∃ Q' e6' e7' e8' e9',Q'.map (·.1)=JO.take (k + m)/\(∀ q∈Q',Jq ts md q)/\xD (gN 6) PP ((List.range' k m).map λ(i:Nat)=>T.int (i:Int)) (rE ts at_ c n md Q e6 e7 e8 e9)=.nx (rE ts at_ c n md Q' e6' e7' e8' e9')
 | 0,k,Q,e6,e7,e8,e9,_,hQ,hF=>⟨Q,e6,e7,e8,e9,hQ,hF,rfl⟩
 | m + 1,k,Q,e6,e7,e8,e9,hl,hQ,hF=>by
  obtain ⟨Q1,f7,f8,f9,hQ1,hF1,ht⟩:=XV h at_ c n md k (by omega) Q hQ hF e7 e8 e9;obtain ⟨Q2,g6,g7,g8,g9,hQ2,hF2,ih⟩:=aF h at_ c n md m (k + 1) Q1 (some (false,.int (k:Int))) f7 f8 f9 (by omega) hQ1 hF1;refine ⟨Q2,g6,g7,g8,g9,by rw [hQ2];congr 1;omega,hF2,?_⟩;rw [List.range'_succ,List.map_cons,xf (e1:=rE ts at_ c n md Q (some (false,.int (k:Int))) e7 e8 e9) (e2:=rE ts at_ c n md Q1 (some (false,.int (k:Int))) f7 f8 f9) rfl ht];exact ih
def Gg (k:Nat):ME:=jk (m2 pK (m2 zS (mV k) (mC (.int 3))) (mC (.int 0))) (m2 qO (m2 zo (m2 zo (mV 0) (mV 1)) (mC (.int 0))) (mC (.str "#(")))
def oW (i:Nat)(m:ME):ME:=za zI (z3 (mV i) (z3 m z5))
def Ko (i:Nat)(a b:Int):ME:=m2 zS (m2 jL (mV i) (mC (.int a))) (mC (.int b))
theorem VE:kO=ze (zn 3 (oW 2 (mC (.int 1)))) (ze (zn 4 (Gg 3)) (ze (zn 5 vD) (ze (v6 (xV (z3 (Ko 3 3 4) z5)) (gN 6) PP) (zq (zP (z3 (mV 4) (z3 (mV 5) z5))))))):=rfl
theorem uV {i:Nat}{env:En}{n a b:Nat}(h:env[i]? = some (some (false,.int (n:Int))))(ha:0 < a/\a < 1000)(hb:0 < b):Ko i (a:Int) (b:Int) env=.ok (false,.int ((n / a % b:Nat):Int)):=v2 (v2 (vV h) rfl (hU n a ha.1 ha.2)) rfl (uk _ b hb)
theorem gO {m:ME}{env:En}{t:T}{b:Bool}(h:m (zZ env)=.ok (b,t)):tV (z3 m z5) env=.ok [t]:=by
 unfold tV;rw [vC h (rfl:z5 (zZ env)=.ok [])]
 rfl
structure aG (ts:List Str) (z:Str) (md:Bool) (Q:List (Str×List T)):Prop where
 names:∃ n,Q.map (·.1)=JO.take n
 flds:∀ q∈Q,Jq ts md q
 made:md=true->Nm z
theorem Jr {ts:List Str}(h:kW ts){i:Nat}(hi:i < 5)(c:Int):∃ md Q,aG ts (ts.getD i "") md Q/\x8 [(false,.lst (sT ts)),(false,.int (i:Int)),(false,.int c)]=.ok (false,.tup [.bl md,.dct (hV Q) (JN Q)]):=by
 obtain ⟨n,hn⟩:=xL c 1;obtain ⟨md,hm,hN⟩:=ig h hi (n:=n) (env:=[some (false,.lst (sT ts)),some (false,.int (i:Int)),some (false,.int c),some (false,.int (n:Int)),none,none,none,none,none,none]) (k3:=3) rfl rfl rfl;have q4:n / 3 % 4<=3:=by omega
 obtain ⟨Q,e6,e7,e8,e9,hQ,hF,hL⟩:=aF h (i:Int) c (n:Int) md (n / 3 % 4) 0 [] none none none none (by omega) rfl (λq hq=>by cases hq);refine ⟨md,Q,⟨⟨_,hQ⟩,hF,hN⟩,zT (n:=10) (k:=3) (mb:=kO) rfl ?_⟩;rw [VE];show ze _ _ [some (false,.lst (sT ts)),some (false,.int (i:Int)),some (false,.int c),none,none,none,none,none,none,none]=_;rw [zf (a:=zn 3 (oW 2 (mC (.int 1)))) (zj (vF (vC rfl (vC rfl rfl)) hn))];show ze _ _ [some (false,.lst (sT ts)),some (false,.int (i:Int)),some (false,.int c),some (false,.int (n:Int)),none,none,none,none,none,none]=_;rw [zf (a:=zn 4 (Gg 3)) (zj (env:=[some (false,.lst (sT ts)),some (false,.int (i:Int)),some (false,.int c),some (false,.int (n:Int)),none,none,none,none,none,none]) hm)];rw [zf (a:=zn 5 vD) (zj (r:=(true,.dct [] [])) rfl)];show ze _ _ (rE ts (i:Int) c (n:Int) md [] none none none none)=_;rw [zf (a:=v6 (xV (z3 (Ko 3 3 4) z5)) (gN 6) PP) ((ui (n:=n / 3 % 4) (gO (uV (a:=3) (b:=4) rfl (by decide) (by decide))) (by omega)).trans hL)];exact kD (vP (vC rfl (vC rfl rfl)) rfl rfl) rfl
def Gh (Q:List (Str×Str)):List T:=Q.map λq=>.str q.2
def XW:List Str:=["no","okay","z"]
theorem dg:XW.Nodup:=by decide +kernel
def NJ:ME:=za jl (z3 (mV 0) (z3 (oW 2 (m2 zr (mC (.int 2)) (mV 5))) z5))
def Ng:MS:=vn 4 (n3 "no" "okay" "z" (mV 5)) NJ
def cE (ts:List Str)(at_ c n:Int)(Q:List (Str×Str))(e5:Option RV):En:=[some (false,.lst (sT ts)),some (false,.int at_),some (false,.int c),some (false,.int n),some (true,.dct (hV Q) (Gh Q)),e5]
theorem aH {ts:List Str}(h:kW ts)(at_ c n:Int):∀ (m k:Nat) (Q:List (Str×Str)) (e5:Option RV),k + m<=3->Q.map (·.1)=XW.take k->(∀ q∈Q,q.2∈oU ts) ->
  ∃ Q' e5',Q'.map (·.1)=XW.take (k + m)/\(∀ q∈Q',q.2∈oU ts)/\xD (gN 5) Ng ((List.range' k m).map λ(i:Nat)=>T.int (i:Int)) (cE ts at_ c n Q e5)=.nx (cE ts at_ c n Q' e5')
 | 0,k,Q,e5,_,hQ,hF=>⟨Q,e5,hQ,hF,rfl⟩
 | m + 1,k,Q,e5,hl,hQ,hF=>by
  have hk:k < 3:=by omega
  obtain ⟨y,hy⟩:=xL c (2 + (k:Int));obtain ⟨kd,hkd,hkk⟩:=m6 h false y
  obtain ⟨Q2,g5,hQ2,hF2,ih⟩:=aH h at_ c n m (k + 1) (Q ++ [(XW.getD k "",kd)]) (some (false,.int (k:Int))) (by omega) (by rw [List.map_append,hQ];exact qm hk) (λq hq=>by
   rcases List.mem_append.mp hq with z | z
   ·exact hF q z
   ·rw [List.mem_singleton.mp z];exact hkd)
  refine ⟨Q2,g5,by rw [hQ2];congr 1;omega,hF2,?_⟩;rw [List.range'_succ,List.map_cons,xf (e1:=cE ts at_ c n Q (some (false,.int (k:Int)))) (e2:=cE ts at_ c n (Q ++ [(XW.getD k "",kd)]) (some (false,.int (k:Int)))) rfl]
  ·exact ih
  ·refine (uo (mv:=NJ) (y:=XW.getD k "") (fB (vF (vC rfl (vC (vF (vC rfl (vC (v2 rfl rfl rfl) rfl)) hy) rfl)) hkk)) rfl (cL hk rfl) ?_ ?_).trans ?_
   ·intro z
    obtain ⟨q,hq,e⟩:=List.mem_map.mp z;have e:q.1=XW.getD k "" := Sum.inr.inj e;refine kF dg hk ?_;rw [<- hQ,<- e];exact List.mem_map_of_mem hq
   ·have:=congrArg List.length hQ
    rw [List.length_map,List.length_take] at this;unfold hV;rw [List.length_map];omega
   ·unfold cE hV Gh
    rw [List.map_append,List.map_append]
    rfl
structure XX (ts:List Str) (z:Str) (md:Bool) (Q:List (Str×Str)):Prop where
 names:∃ n,Q.map (·.1)=XW.take n
 forms:∀ q∈Q,q.2∈oU ts
 made:md=true->Nm z
theorem VF:kP=ze (zn 3 (oW 2 (mC (.int 1)))) (ze (zn 4 vD) (ze (v6 (xV (z3 (Ko 3 6 4) z5)) (gN 5) Ng) (zq (zP (z3 (Gg 3) (z3 (m2 zO (Ko 3 3 2) (mC (.int 0))) (z3 (mV 4) z5))))))):=rfl
theorem Js {ts:List Str}(h:kW ts){i:Nat}(hi:i < 5)(c:Int):∃ md sh Q,XX ts (ts.getD i "") md Q/\x9 [(false,.lst (sT ts)),(false,.int (i:Int)),(false,.int c)]=.ok (false,.tup [.bl md,.bl sh,.dct (hV Q) (Gh Q)]):=by
 obtain ⟨n,hn⟩:=xL c 1;have q4:n / 6 % 4<=3:=by omega
 obtain ⟨Q,e5,hQ,hF,hL⟩:=aH h (i:Int) c (n:Int) (n / 6 % 4) 0 [] none (by omega) rfl (λq hq=>by cases hq);obtain ⟨md,hm,hN⟩:=ig h hi (n:=n) (env:=cE ts (i:Int) c (n:Int) Q e5) (k3:=3) rfl rfl rfl;obtain ⟨md',hm',_⟩:=ig h hi (n:=n) (env:=zZ (cE ts (i:Int) c (n:Int) Q e5)) (k3:=3) rfl rfl rfl;refine ⟨md,decide (n / 3 % 2=0),Q,⟨⟨_,hQ⟩,hF,hN⟩,zT (n:=6) (k:=3) (mb:=kP) rfl ?_⟩;rw [VF];show ze _ _ [some (false,.lst (sT ts)),some (false,.int (i:Int)),some (false,.int c),none,none,none]=_;rw [zf (a:=zn 3 (oW 2 (mC (.int 1)))) (zj (vF (vC rfl (vC rfl rfl)) hn))];rw [zf (a:=zn 4 vD) (zj (r:=(true,.dct [] [])) rfl)];show ze _ _ (cE ts (i:Int) c (n:Int) [] none)=_;rw [zf (a:=v6 (xV (z3 (Ko 3 6 4) z5)) (gN 5) Ng) ((ui (n:=n / 6 % 4) (gO (uV (a:=6) (b:=4) rfl (by decide) (by decide))) (by omega)).trans hL)];exact kD (vP (vC hm (vC (v2 (uV (a:=3) (b:=2) rfl (by decide) (by decide)) rfl (Uh _ 0)) (vC rfl rfl))) rfl rfl) (Ny (vB hm' (vB (v2 (uV (a:=3) (b:=2) rfl (by decide) (by decide)) rfl (Uh _ 0)) rfl)))
def Ui:List Str:=["at","by","of"]
def ii:List Str:=["gone","late"]
def Nh (ts:List Str)(t:T):Prop := ∃ y kd b,t=.tup [.str y,.str kd,.bl b]/\y∈Ui/\kd∈oU ts
structure aI (ts:List Str) (pl:Nat) (ps:List T) (kd:Str) (fs:List Str):Prop where
 few:pl<=ps.length
 len:ps.length<=3
 nodup:(ps.map uS).Nodup
 parts:∀ t∈ps,Nh ts t
 back:kd∈oU ts
 faults:∃ j,fs=ii.drop j
theorem XY {l:List Str}{i:Nat}(h:i < l.length):l.getD i "" ∈ l:=by
 rw [List.getD_eq_getElem?_getD,List.getElem?_eq_getElem h];exact List.getElem_mem h
def NK:ME:=zP (z3 (n3 "at" "by" "of" (m2 zS (m2 zr (mV 4) (m2 jL (mV 2) (mC (.int 4)))) (mC (.int 3)))) (z3 (za jl (z3 (mV 0) (z3 (mV 5) z5))) (z3 (m2 zO (Ko 5 8 3) (mC (.int 0))) z5)))
def Uj:MS:=ze (zn 5 (oW 1 (m2 zr (mC (.int 2)) (mV 4)))) (gb 3 NK)
def fE (ts:List Str)(c n:Int)(ps:List T)(e4 e5:Option RV):En:=[some (false,.lst (sT ts)),some (false,.int c),some (false,.int n),some (true,.lst ps),e4,e5,none]
def Wk (q i:Nat):Str:=Ui.getD ((i + q) % 3) ""
theorem aJ {ts:List Str}(h:kW ts)(c:Int)(n:Nat):∀ (m k:Nat) (ps:List T) (e4 e5:Option RV),k + m<=3->ps.map uS=(List.range k).map (Wk (n / 4))->(∀ t∈ps,Nh ts t) ->
  ∃ ps' e4' e5',ps'.map uS=(List.range (k + m)).map (Wk (n / 4))/\(∀ t∈ps',Nh ts t)/\xD (gN 4) Uj ((List.range' k m).map λ(i:Nat)=>T.int (i:Int)) (fE ts c n ps e4 e5)=.nx (fE ts c n ps' e4' e5')
 | 0,k,ps,e4,e5,_,hp,hF=>⟨ps,e4,e5,hp,hF,rfl⟩
 | m + 1,k,ps,e4,e5,hl,hp,hF=>by
  obtain ⟨y,hy⟩:=xL c (2 + (k:Int));obtain ⟨kd,hkd,hkk⟩:=m6 h false y;have hm:(k + n / 4) % 3 < 3:=Nat.mod_lt _ (by decide);have a1:zr (.int (k:Int)) (.int ((n / 4:Nat):Int))=some (false,.int ((k + n / 4:Nat):Int)):=by rw [add_int,Int.natCast_add]
  have lp:ps.length=k:=by have:=congrArg List.length hp;simpa using this
  obtain ⟨ps2,g4,g5,hp2,hF2,ih⟩:=aJ h c n m (k + 1) (ps ++ [.tup [.str (Wk (n / 4) k),.str kd,.bl (decide (y / 8 % 3=0))]]) (some (false,.int (k:Int))) (some (false,.int (y:Int))) (by omega) (by rw [List.map_append,hp,List.range_succ,List.map_append];rfl) (λt ht=>by
   rcases List.mem_append.mp ht with z | z
   ·exact hF t z
   ·rw [List.mem_singleton.mp z];exact ⟨_,kd,_,rfl,XY hm,hkd⟩)
  refine ⟨ps2,g4,g5,by rw [hp2];congr 2;omega,hF2,?_⟩;rw [List.range'_succ,List.map_cons,xf (e1:=fE ts c n ps (some (false,.int (k:Int))) e5) (e2:=fE ts c n (ps ++ [.tup [.str (Wk (n / 4) k),.str kd,.bl (decide (y / 8 % 3=0))]]) (some (false,.int (k:Int))) (some (false,.int (y:Int)))) rfl]
  ·exact ih
  ·unfold Uj
   rw [zf (a:=zn 5 (oW 1 (m2 zr (mC (.int 2)) (mV 4)))) (zj (env:=fE ts c n ps (some (false,.int (k:Int))) e5) (vF (vC rfl (vC (v2 rfl rfl rfl) rfl)) hy))];exact lV (m:=NK) (ts:=ps) (r:=(false,.tup [.str (Wk (n / 4) k),.str kd,.bl (decide (y / 8 % 3=0))])) rfl (vP (vC (cL hm (v2 (v2 rfl (v2 rfl rfl (hU n 4 (by decide) (by decide))) a1) rfl (uk _ 3 (by decide)))) (vC (vF (vC rfl (vC rfl rfl)) hkk) (vC (v2 (uV (n:=y) (a:=8) (b:=3) rfl (by decide) (by decide)) rfl (Uh _ 0)) rfl))) rfl rfl) (by rw [lp];have:=big;omega)
def NL:ME:=qR (jS (z3 (mC (.str "gone")) (z3 (mC (.str "late")) z5))) (zC (Ko 2 12 3)) xh
def Mc:ME:=m2 zS (m2 jL (mV 2) (mC (.int 36))) (m2 zr (zE vY (z3 (mV 3) z5)) (mC (.int 1)))
def Md:ME:=za jl (z3 (mV 0) (z3 (m2 jL (mV 2) (mC (.int 144))) z5))
theorem VG:vw=ze (zn 2 (oW 1 (mC (.int 1)))) (ze (zn 3 (jS z5)) (ze (v6 (xV (z3 (m2 zS (mV 2) (mC (.int 4))) z5)) (gN 4) Uj) (ze (zn 6 NL) (zq (zP (z3 Mc (z3 (mV 3) (z3 Md (z3 (mV 6) z5)))))))))  := rfl
theorem Jt (q:Nat){m:Nat}(h:m<=3):((List.range m).map (Wk q)).Nodup:=by
 have k:∀ r:Fin 3,∀ m:Fin 4,((List.range m.1).map (Wk r.1)).Nodup:=by decide +kernel
 have e:Wk q=Wk (q % 3):=by
  funext i
  unfold Wk
  congr 1
  omega
 rw [e];exact k ⟨q % 3,Nat.mod_lt _ (by decide)⟩ ⟨m,by omega⟩
theorem aK {ts:List Str}(h:kW ts)(c:Int):∃ pl ps kd fs,aI ts pl ps kd fs/\jW [(false,.lst (sT ts)),(false,.int c)]=.ok (false,.tup [.int ((pl:Nat):Int),.lst ps,.str kd,.lst (sT fs)]):=by
 obtain ⟨n,hn⟩:=xL c 1;have q4:n % 4<=3:=by omega
 obtain ⟨ps,e4,e5,hp,hF,hL⟩:=aJ h c n (n % 4) 0 [] none none (by omega) rfl (λq hq=>by cases hq);obtain ⟨kd,hkd,hkk⟩:=m6 h false (n / 144);have lp:ps.length=n % 4:=by have:=congrArg List.length hp;simpa using this
 have lt:n / 36 % (ps.length + 1)<=ps.length:=Nat.lt_succ_iff.mp (Nat.mod_lt _ (Nat.succ_pos _));refine ⟨n / 36 % (ps.length + 1),ps,kd,ii.drop (n / 12 % 3),⟨lt,by omega,by rw [hp];exact Jt _ (by omega),hF,hkd,⟨_,rfl⟩⟩,zT (n:=7) (k:=2) (mb:=vw) rfl ?_⟩;rw [VG];show ze _ _ [some (false,.lst (sT ts)),some (false,.int c),none,none,none,none,none]=_;rw [zf (a:=zn 2 (oW 1 (mC (.int 1)))) (zj (vF (vC rfl (vC rfl rfl)) hn))];rw [zf (a:=zn 3 (jS z5)) (zj (r:=(true,.lst [])) (vL (rs:=[]) rfl rfl rfl))];show ze _ _ (fE ts c n [] none none)=_;rw [zf (a:=v6 (xV (z3 (m2 zS (mV 2) (mC (.int 4))) z5)) (gN 4) Uj) ((ui (n:=n % 4) (gO (v2 rfl rfl (uk n 4 (by decide)))) (by omega)).trans hL)]
 have s1:Yz (.lst (sT ii)) (some ((n / 12 % 3:Nat):Int)) none=some (true,.lst (sT (ii.drop (n / 12 % 3)))):=by
  show some (true,T.lst (gi (sT ii) (some ((n / 12 % 3:Nat):Int)) none))=_;rw [ax];unfold sT;rw [List.map_drop]
 have hs:NL (zZ (fE ts c n ps e4 e5))=.ok (true,.lst (sT (ii.drop (n / 12 % 3)))):=vS (p:=true) (x:=.lst (sT ii)) (vL (vC rfl (vC rfl rfl)) rfl rfl) (vN (uV (n:=n) (a:=12) (b:=3) rfl (by decide) (by decide))) rfl s1;rw [zf (zj hs)];have l1:vY [.lst ps]=some (false,.int (ps.length:Int)):=rfl;have a1:zr (.int (ps.length:Int)) (.int 1)=some (false,.int ((ps.length + 1:Nat):Int)):=by rw [add_int];rfl
 exact kD (vP (vC (v2 (v2 rfl rfl (hU n 36 (by decide) (by decide))) (v2 (vK (vC rfl rfl) l1) rfl a1) (uk _ _ (Nat.succ_pos _))) (vC rfl (vC (vF (vC rfl (vC (v2 rfl rfl (hU n 144 (by decide) (by decide))) rfl)) hkk) (vC rfl rfl)))) rfl rfl) (Ny (M6 (M7 (v2 rfl rfl (hU n 36 (by decide) (by decide))) rfl)))
structure qM where
 z:Str
 md:Bool
 Q:List (Str×List T)
structure qN where
 z:Str
 md:Bool
 sh:Bool
 Q:List (Str×Str)
structure gY where
 z:Str
 pl:Nat
 ps:List T
 kd:Str
 fs:List Str
def qM.v (r:qM):T:=.tup [.bl r.md,.dct (hV r.Q) (JN r.Q)]
def qN.v (r:qN):T:=.tup [.bl r.md,.bl r.sh,.dct (hV r.Q) (Gh r.Q)]
def gY.v (r:gY):T:=.tup [.int (r.pl:Int),.lst r.ps,.str r.kd,.lst (sT r.fs)]
def oX (R:List qM):List Key:=R.map λr=>Sum.inr r.z
def cT (R:List qN):List Key:=R.map λr=>Sum.inr r.z
def VH (R:List gY):List Key:=R.map λr=>Sum.inr r.z
structure kG (ts:List Str) (k:Nat) (R:List qM) (C:List qN):Prop where
 recs:∀ r∈R,aG ts r.z r.md r.Q
 chos:∀ r∈C,XX ts r.z r.md r.Q
 sub:∀ z∈R.map qM.z ++ C.map qN.z,z∈ts.take k
 nodup:(R.map qM.z ++ C.map qN.z).Nodup
def wE (c:Int)(ts:List Str)(R:List qM)(C:List qN)(F:List gY)(e5 e6:Option RV):En:=[some (false,.int c),some (false,.lst (sT ts)),some (true,.dct (oX R) (R.map qM.v)),some (true,.dct (cT C) (C.map qN.v)),some (true,.dct (VH F) (F.map gY.v)),e5,e6]
def wT (k:Int):MT:=jr (m2 ga (m2 zS (mV 6) (mC (.int 5))) (mC (.int k)))
def XZ:ME:=m2 zo (mV 1) (mV 5)
def Ju (f:MF):ME:=za f (z3 (mV 1) (z3 (mV 5) (z3 (mV 6) z5)))
def Gr:MS:=ze (zn 6 (oW 0 (m2 zr (mC (.int 3)) (mV 5)))) (xi (wT 2) (vn 2 XZ (Ju x8)) (xi (wT 4) (vn 3 XZ (Ju x9)) zw))
theorem W0 {t:MT}{a b:MS}{env:En}(h:jT t env=.ok false):xi t a b env=b env:=by
 unfold xi;rw [h]
 rfl
theorem W1 {k n:Nat}{env:En}(h:(zZ env)[6]? = some (some (false,.int (n:Int)))):jT (wT (k:Int)) env=.ok (decide (n % 5 < k)):=by
 refine j9 (vT (p:=false) (v2 (v2 (vV h) rfl (uk n 5 (by decide))) rfl ?_));show some (false,T.bl (decide (((n % 5:Nat):Int) < (k:Int))))=_
 congr 3
 exact decide_eq_decide.mpr (by omega)
theorem gU {ts:List Str}{k:Nat}{z:Str}(h:z∈ts.take k):z∈ts.take (k + 1):=by
 rw [List.take_add_one];exact List.mem_append_left _ h
theorem dh {ts:List Str}{k:Nat}(h:k < ts.length):ts.getD k "" ∈ ts.take (k + 1):=by
 rw [<- qm h];exact List.mem_append_right _ (List.mem_singleton.mpr rfl)
theorem oY {ts:List Str}(h:kW ts)(c:Int)(k:Nat)(hk:k < 4)(R:List qM)(C:List qN)(F:List gY)(o:kG ts k R C)(hl:R.length + C.length<=k)(e6:Option RV) :
  ∃ R' C' e6',kG ts (k + 1) R' C'/\R'.length + C'.length<=k + 1/\Gr (wE c ts R C F (some (false,.int (k:Int))) e6)=.nx (wE c ts R' C' F (some (false,.int (k:Int))) e6'):=by
 have hk5:k < ts.length:=by rw [h.len];omega
 obtain ⟨n,hn⟩:=xL c (3 + (k:Int))
 have hkey:∀ R C e,XZ (zZ (wE c ts R C F (some (false,.int (k:Int))) e))=.ok (false,.str (ts.getD k "")):=λR C e=>v2 rfl rfl (by
  rw [aw,getD_some (d:=("" : Str)) hk5]
  rfl)
 have nt:=kF h.nodup hk5;have hnr:ts.getD k "" ∉ R.map qM.z:=λz=>nt (o.sub _ (List.mem_append_left _ z));have hnc:ts.getD k "" ∉ C.map qN.z:=λz=>nt (o.sub _ (List.mem_append_right _ z))
 have step:Gr (wE c ts R C F (some (false,.int (k:Int))) e6)=xi (wT 2) (vn 2 XZ (Ju x8)) (xi (wT 4) (vn 3 XZ (Ju x9)) zw) (wE c ts R C F (some (false,.int (k:Int))) (some (false,.int (n:Int)))):=by
  unfold Gr;rw [zf (a:=zn 6 (oW 0 (m2 zr (mC (.int 3)) (mV 5)))) (zj (env:=wE c ts R C F (some (false,.int (k:Int))) e6) (vF (vC rfl (vC (v2 rfl rfl rfl) rfl)) hn))]
  rfl
 have t2:jT (wT 2) (wE c ts R C F (some (false,.int (k:Int))) (some (false,.int (n:Int))))=.ok (decide (n % 5 < 2)):=W1 (k:=2) rfl;have t4:jT (wT 4) (wE c ts R C F (some (false,.int (k:Int))) (some (false,.int (n:Int))))=.ok (decide (n % 5 < 4)):=W1 (k:=4) rfl
 by_cases g2:n % 5 < 2
 ·rw [decide_eq_true g2] at t2
  obtain ⟨md,Q,hr,he⟩:=Jr h (i:=k) (by omega) (n:Int);refine ⟨R ++ [⟨ts.getD k "",md,Q⟩],C,some (false,.int (n:Int)),⟨λr hm => ?_,o.chos,λz hz => ?_,?_⟩,by rw [List.length_append,List.length_singleton];omega,?_⟩
  ·rcases List.mem_append.mp hm with q | q
   ·exact o.recs r q
   ·rw [List.mem_singleton.mp q]
    exact hr
  ·rw [List.map_append,List.append_assoc,List.mem_append,List.mem_append] at hz
   rcases hz with q | q | q
   ·exact gU (o.sub z (List.mem_append_left _ q))
   ·rw [List.mem_singleton.mp q]
    exact dh hk5
   ·exact gU (o.sub z (List.mem_append_right _ q))
  ·rw [List.map_append,List.append_assoc,List.nodup_append]
   have q:=List.nodup_append.mp o.nodup;refine ⟨q.1,?_,λa ha b hb => ?_⟩
   ·refine List.nodup_cons.mpr ⟨hnc,q.2.1⟩
   ·rcases List.mem_cons.mp hb with rfl | hb
    ·exact λe=>hnr (by rw [e] at ha;exact ha)
    ·exact q.2.2 a ha b hb
  ·rw [step,qH t2]
   refine (uo (mv:=Ju x8) (y:=ts.getD k "") (r:=(false,qM.v ⟨ts.getD k "",md,Q⟩)) (fB (vF (vC rfl (vC rfl (vC rfl rfl))) he)) rfl (hkey R C _) (λz => ?_) ?_).trans ?_
   ·obtain ⟨r,hr,e⟩:=List.mem_map.mp z
    exact hnr (List.mem_map.mpr ⟨r,hr,Sum.inr.inj e⟩)
   ·unfold oX
    rw [List.length_map];omega
   ·unfold wE oX
    rw [List.map_append,List.map_append]
    rfl
 ·rw [decide_eq_false g2] at t2
  by_cases g4:n % 5 < 4
  ·rw [decide_eq_true g4] at t4
   obtain ⟨md,sh,Q,hr,he⟩:=Js h (i:=k) (by omega) (n:Int);refine ⟨R,C ++ [⟨ts.getD k "",md,sh,Q⟩],some (false,.int (n:Int)),⟨o.recs,λr hm => ?_,λz hz => ?_,?_⟩,by rw [List.length_append,List.length_singleton];omega,?_⟩
   ·rcases List.mem_append.mp hm with q | q
    ·exact o.chos r q
    ·rw [List.mem_singleton.mp q]
     exact hr
   ·rw [List.map_append,<- List.append_assoc,List.mem_append] at hz
    rcases hz with q | q
    ·exact gU (o.sub z q)
    ·rw [List.mem_singleton.mp q]
     exact dh hk5
   ·rw [List.map_append,<- List.append_assoc,List.nodup_append]
    refine ⟨o.nodup,by simp,λa ha b hb => ?_⟩;rw [List.mem_singleton.mp hb];exact λe=>nt (o.sub _ (by rw [e] at ha;exact ha))
   ·rw [step,W0 t2,qH t4]
    refine (uo (mv:=Ju x9) (y:=ts.getD k "") (r:=(false,qN.v ⟨ts.getD k "",md,sh,Q⟩)) (fB (vF (vC rfl (vC rfl (vC rfl rfl))) he)) rfl (hkey R C _) (λz => ?_) ?_).trans ?_
    ·obtain ⟨r,hr,e⟩:=List.mem_map.mp z
     exact hnc (List.mem_map.mpr ⟨r,hr,Sum.inr.inj e⟩)
    ·unfold cT
     rw [List.length_map];omega
    ·unfold wE cT
     rw [List.map_append,List.map_append]
     rfl
  ·rw [decide_eq_false g4] at t4
   refine ⟨R,C,some (false,.int (n:Int)),⟨o.recs,o.chos,λz hz=>gU (o.sub z hz),o.nodup⟩,by omega,?_⟩;rw [step,W0 t2,W0 t4]
   rfl
theorem ij {ts:List Str}(h:kW ts)(c:Int)(F:List gY):∀ (m k:Nat) (R:List qM) (C:List qN) (e5 e6:Option RV),k + m<=4->kG ts k R C->R.length + C.length<=k ->
  ∃ R' C' e5' e6',kG ts (k + m) R' C'/\R'.length + C'.length<=k + m/\xD (gN 5) Gr ((List.range' k m).map λ(i:Nat)=>T.int (i:Int)) (wE c ts R C F e5 e6)=.nx (wE c ts R' C' F e5' e6')
 | 0,k,R,C,e5,e6,_,o,hl=>⟨R,C,e5,e6,o,hl,rfl⟩
 | m + 1,k,R,C,e5,e6,hk,o,hl=>by
  obtain ⟨R1,C1,f6,o1,l1,ht⟩:=oY h c k (by omega) R C F o hl e6;obtain ⟨R2,C2,g5,g6,o2,l2,ih⟩:=ij h c F m (k + 1) R1 C1 (some (false,.int (k:Int))) f6 (by omega) o1 l1;refine ⟨R2,C2,g5,g6,by rw [show k + (m + 1)=k + 1 + m by omega];exact o2,by omega,?_⟩;rw [List.range'_succ,List.map_cons,xf (e1:=wE c ts R C F (some (false,.int (k:Int))) e6) (e2:=wE c ts R1 C1 F (some (false,.int (k:Int))) f6) rfl ht];exact ih
def W2:List Str:=["ask","give","take"]
theorem di:W2.Nodup:=by decide +kernel
def Ni:MS:=vn 4 (n3 "ask" "give" "take" (mV 5)) (za jW (z3 (mV 1) (z3 (oW 0 (m2 zr (mC (.int 8)) (mV 5))) z5)))
structure dj (ts:List Str) (k:Nat) (F:List gY):Prop where
 names:F.map gY.z=W2.take k
 all:∀ r∈F,aI ts r.pl r.ps r.kd r.fs
theorem aL {ts:List Str}(h:kW ts)(c:Int)(R:List qM)(C:List qN):∀ (m k:Nat) (F:List gY) (e5 e6:Option RV),k + m<=3->dj ts k F ->
  ∃ F' e5',dj ts (k + m) F'/\xD (gN 5) Ni ((List.range' k m).map λ(i:Nat)=>T.int (i:Int)) (wE c ts R C F e5 e6)=.nx (wE c ts R C F' e5' e6)
 | 0,k,F,e5,e6,_,o=>⟨F,e5,o,rfl⟩
 | m + 1,k,F,e5,e6,hk,o=>by
  have hk3:k < 3:=by omega
  obtain ⟨y,hy⟩:=xL c (8 + (k:Int));obtain ⟨pl,ps,kd,fs,of,hf⟩:=aK h (y:Int)
  obtain ⟨F2,g5,o2,ih⟩:=aL h c R C m (k + 1) (F ++ [⟨W2.getD k "",pl,ps,kd,fs⟩]) (some (false,.int (k:Int))) e6 (by omega) ⟨by rw [List.map_append,o.names];exact qm hk3,λr hr=>by
   rcases List.mem_append.mp hr with q | q
   ·exact o.all r q
   ·rw [List.mem_singleton.mp q];exact of⟩
  refine ⟨F2,g5,by rw [show k + (m + 1)=k + 1 + m by omega];exact o2,?_⟩
  have ln:F.length=k:=by
   have:=congrArg List.length o.names;rw [List.length_map,List.length_take] at this;have:W2.length=3:=rfl;omega
  rw [List.range'_succ,List.map_cons,xf (e1:=wE c ts R C F (some (false,.int (k:Int))) e6) (e2:=wE c ts R C (F ++ [⟨W2.getD k "",pl,ps,kd,fs⟩]) (some (false,.int (k:Int))) e6) rfl]
  ·exact ih
  ·refine (uo (mv:=za jW (z3 (mV 1) (z3 (oW 0 (m2 zr (mC (.int 8)) (mV 5))) z5))) (y:=W2.getD k "") (r:=(false,gY.v ⟨W2.getD k "",pl,ps,kd,fs⟩)) (fB (vF (vC rfl (vC (vF (vC rfl (vC (v2 rfl rfl rfl) rfl)) hy) rfl)) hf)) rfl (cL hk3 rfl) (λz => ?_) ?_).trans ?_
   ·obtain ⟨r,hr,e⟩:=List.mem_map.mp z
    refine kF di hk3 ?_;rw [<- o.names,<- Sum.inr.inj e];exact List.mem_map_of_mem hr
   ·unfold VH
    rw [List.length_map];omega
   ·unfold wE VH
    rw [List.map_append,List.map_append]
    rfl
theorem PR {i:Nat}{mb:MS}{env e:En}{b:Bool}{t:T}(h:mb env=.nx e)(g:e[i]? = some (some (b,t))):Go i mb env=.nx (e.set i (some (false,t))):=by
 unfold Go;rw [h];dsimp only;rw [g]
def Jv (ts:List Str)(R:List qM)(C:List qN)(F:List gY):T:=.tup [.lst (sT ts),.dct (oX R) (R.map qM.v),.dct (cT C) (C.map qN.v),.dct (VH F) (F.map gY.v)]
theorem VI:qF=ze (Go 1 (zn 1 (za xK (z3 (mV 0) z5)))) (ze (zn 2 vD) (ze (zn 3 vD) (ze (zn 4 vD) (ze (v6 (xV (z3 (mC (.int 4)) z5)) (gN 5) Gr) (ze (v6 (xV (z3 (m2 zS (oW 0 (mC (.int 7))) (mC (.int 4))) z5)) (gN 5) Ni) (zq (zP (z3 (mV 1) (z3 (mV 2) (z3 (mV 3) (z3 (mV 4) z5)))))))))))  := rfl
theorem W3 (c:Int):∃ ts R C F m,kW ts/\kG ts 4 R C/\R.length + C.length<=4/\m<=3/\dj ts m F/\vG [(false,.int c)]=.ok (false,Jv ts R C F):=by
 obtain ⟨ts,h,ht⟩:=Jp c;obtain ⟨n,hn⟩:=xL c 7;obtain ⟨R,C,e5,e6,o,hl,hL⟩:=ij h c [] 4 0 [] [] none none (by omega) ⟨λr hr=>(by cases hr),λr hr=>(by cases hr),λz hz=>(by cases hz),List.nodup_nil⟩ (Nat.le_refl _);have hq:n % 4<=3:=by omega
 obtain ⟨F,e5',of,hL2⟩:=aL h c R C (n % 4) 0 [] e5 e6 (by omega) ⟨rfl,λr hr=>(by cases hr)⟩;rw [Nat.zero_add] at o hl of;refine ⟨ts,R,C,F,n % 4,h,o,hl,hq,of,zT (n:=7) (k:=1) (mb:=qF) rfl ?_⟩;rw [VI];show ze _ _ [some (false,.int c),none,none,none,none,none,none]=_;rw [zf (PR (zj (vF (vC rfl rfl) ht)) rfl)];rw [zf (a:=zn 2 vD) (zj (r:=(true,.dct [] [])) rfl)];rw [zf (a:=zn 3 vD) (zj (r:=(true,.dct [] [])) rfl)];rw [zf (a:=zn 4 vD) (zj (r:=(true,.dct [] [])) rfl)];show ze _ _ (wE c ts [] [] [] none none)=_;rw [zf (a:=v6 (xV (z3 (mC (.int 4)) z5)) (gN 5) Gr) ((ui (n:=4) (gO rfl) (by decide)).trans hL)];rw [zf (a:=v6 (xV (z3 (m2 zS (oW 0 (mC (.int 7))) (mC (.int 4))) z5)) (gN 5) Ni) ((ui (n:=n % 4) (gO (v2 (vF (vC rfl (vC rfl rfl)) hn) rfl (uk n 4 (by decide)))) (by omega)).trans hL2)];exact kD (vP (vC rfl (vC rfl (vC rfl (vC rfl rfl)))) rfl rfl) rfl
def qM.d (r:qM):D:=.rc r.z r.md (r.Q.map λq=>.tup (.str q.1 :: q.2))
def qN.d (r:qN):D:=.ch r.z r.md r.sh (r.Q.map λq=>.tup [.str q.1,.str q.2])
def gY.d (r:gY):D:=.fn r.z (r.ps.take r.pl) (r.ps.drop r.pl) r.kd (sT r.fs)
theorem qo {α:Type}(z:α->Str)(v:α->T):∀ l:List α,xp (l.map λr=>Sum.inr (z r)) (l.map v)=l.map λr=>.tup [.str (z r),v r]
 | []=>rfl
 | r :: l=>by
  show T.tup [.str (z r),v r] :: xp (l.map λr=>Sum.inr (z r)) (l.map v)=_;rw [qo z v l]
  rfl
def pE (W:T)(o1 o2 o3 o4:Option RV)(acc:List T)(e6 e7 e8:Option RV):En:=[some (false,W),o1,o2,o3,o4,some (true,.lst acc),e6,e7,e8]
def Nj:ME:=zP (z3 (mC (.str "record")) (z3 (mV 6) (z3 (m2 zo (mV 7) (mC (.int 0))) (z3 (zE kH (z3 (xS (gq (m2 zo (mV 7) (mC (.int 1)))) (cS 2 (qT (gN 0) (qT (gN 1) cR))) jt (m2 zr (zP (z3 (mV 0) z5)) (mV 1)) 2 []) z5)) z5))))
def Nk:ME:=zP (z3 (mC (.str "choice")) (z3 (mV 6) (z3 (m2 zo (mV 7) (mC (.int 0))) (z3 (m2 zo (mV 7) (mC (.int 1))) (z3 (eR (m2 zo (mV 7) (mC (.int 2)))) z5)))))
def Nl:ME:=zP (z3 (mC (.str "function")) (z3 (mV 8) (z3 (m2 zo (mV 7) (mC (.int 0))) (z3 (zE kH (z3 (m2 zo (mV 7) (mC (.int 1))) z5)) (z3 (m2 zo (mV 7) (mC (.int 2))) (z3 (zE kH (z3 (m2 zo (mV 7) (mC (.int 3))) z5)) z5))))))
theorem ik:∀ (Q:List (Str×List T)) (e0 e1:Option RV),(∀ q∈Q,q.2.length<=3)->vZ (cS 2 (qT (gN 0) (qT (gN 1) cR))) jt (m2 zr (zP (z3 (mV 0) z5)) (mV 1)) [e0,e1] (Q.map λ(q:Str×List T)=>T.tup [.str q.1,.tup q.2])=.ok (Q.map λq=>.tup (.str q.1 :: q.2))
 | [],_,_,_=>rfl
 | q :: Q,e0,e1,h=>by
  have ih:=ik Q (some (false,.str q.1)) (some (false,.tup q.2)) λp hp=>h p (List.mem_cons_of_mem _ hp);have ha:zr (.tup [.str q.1]) (.tup q.2)=some (false,.tup (.str q.1 :: q.2)):=uj (ts:=[.str q.1]) (by have:=h q List.mem_cons_self;have:=big;simp;omega);have hm:m2 zr (zP (z3 (mV 0) z5)) (mV 1) [some (false,.str q.1),some (false,.tup q.2)]=.ok (false,.tup (.str q.1 :: q.2)):=v2 (vP (ts:=[.str q.1]) (vC rfl rfl) rfl rfl) rfl ha
  show (match m2 zr (zP (z3 (mV 0) z5)) (mV 1) [some (false,.str q.1),some (false,.tup q.2)] with
   | .ok r=>(match vZ (cS 2 (qT (gN 0) (qT (gN 1) cR))) jt (m2 zr (zP (z3 (mV 0) z5)) (mV 1)) [some (false,.str q.1),some (false,.tup q.2)] (Q.map λ(q:Str×List T)=>T.tup [.str q.1,.tup q.2]) with
    | .ok rs=>kg.ok (r.2 :: rs)
    | _=>.bad)
   | _=>.bad)=_
  rw [hm,ih]
  rfl
theorem Gi {ts:List Str}{md:Bool}{q:Str×List T}(h:Jq ts md q):q.2.length<=3:=by
 obtain ⟨kd,d,s,e,_⟩:=h;rw [e];exact Nat.le_refl _
theorem im {α:Type}{Q:List (Str×α)}{l:List Str}{n:Nat}(h:Q.map (·.1)=l.take n)(hl:l.length<=3):Q.length<=3:=by
 have:=congrArg List.length h;rw [List.length_map,List.length_take] at this;omega
theorem VJ {ts:List Str}{r:qM}(h:aG ts r.z r.md r.Q){env:En}(h6:mV 6 env=.ok (false,.str r.z))(h7:mV 7 env=.ok (false,r.v)):Nj env=.ok (false,r.d.t):=by
 have i0:zo r.v (.int 0)=some (false,.bl r.md):=jB _ 0;have i1:zo r.v (.int 1)=some (false,.dct (hV r.Q) (JN r.Q)):=jB _ 1;have hp:xp (hV r.Q) (JN r.Q)=r.Q.map λq=>.tup [.str q.1,.tup q.2]:=qo (λq:Str×List T=>q.1) (λq=>.tup q.2) r.Q;obtain ⟨n,hn⟩:=h.names;have hl:=im hn (by decide)
 have hc:xS (gq (m2 zo (mV 7) (mC (.int 1)))) (cS 2 (qT (gN 0) (qT (gN 1) cR))) jt (m2 zr (zP (z3 (mV 0) z5)) (mV 1)) 2 [] env=.ok (true,.lst (r.Q.map λq=>.tup (.str q.1 :: q.2))):=by
  have hi:gq (m2 zo (mV 7) (mC (.int 1))) env=.ok (r.Q.map λq=>.tup [.str q.1,.tup q.2]):=by
   unfold gq;rw [v2 h7 rfl i1];show kg.ok (xp (hV r.Q) (JN r.Q))=_;rw [hp]
  unfold xS;rw [hi,bind_ok,if_pos (by rw [List.length_map];have:=big;omega)]
  show (match vZ _ jt _ [none,none] _ with
   | .ok rs=>kg.ok (true,T.lst rs)
   | _=>.bad)=_
  rw [ik r.Q none none λq hq=>Gi (h.flds q hq)]
 exact vP (vC rfl (vC h6 (vC (v2 h7 rfl i0) (vC (vK (vC hc rfl) rfl) rfl)))) rfl rfl
theorem VL {r:qN}{env:En}(h6:mV 6 env=.ok (false,.str r.z))(h7:mV 7 env=.ok (false,r.v)):Nk env=.ok (false,r.d.t):=by
 have i0:zo r.v (.int 0)=some (false,.bl r.md):=jB _ 0;have i1:zo r.v (.int 1)=some (false,.bl r.sh):=jB _ 1;have i2:zo r.v (.int 2)=some (false,.dct (hV r.Q) (Gh r.Q)):=jB _ 2;have hp:xp (hV r.Q) (Gh r.Q)=r.Q.map λq=>.tup [.str q.1,.str q.2]:=qo (λq:Str×Str=>q.1) (λq=>.str q.2) r.Q
 have ht:eR (m2 zo (mV 7) (mC (.int 2))) env=.ok (false,.tup (r.Q.map λq=>.tup [.str q.1,.str q.2])):=by
  unfold eR;rw [v2 h7 rfl i2];show kg.ok (false,T.tup (xp (hV r.Q) (Gh r.Q)))=_;rw [hp]
 exact vP (vC rfl (vC h6 (vC (v2 h7 rfl i0) (vC (v2 h7 rfl i1) (vC ht rfl))))) rfl rfl
theorem VM {ts:List Str}{r:gY}(h:aI ts r.pl r.ps r.kd r.fs){env:En}(h8:mV 8 env=.ok (false,.str r.z))(h7:mV 7 env=.ok (false,r.v)):Nl env=.ok (false,r.d.t):=by
 have i0:zo r.v (.int 0)=some (false,.int (r.pl:Int)):=jB _ 0;have i1:zo r.v (.int 1)=some (false,.lst r.ps):=jB _ 1;have i2:zo r.v (.int 2)=some (false,.str r.kd):=jB _ 2;have i3:zo r.v (.int 3)=some (false,.lst (sT r.fs)):=jB _ 3
 have e:r.d.t=.tup [.str "function",.str r.z,.int (r.pl:Int),.tup r.ps,.str r.kd,.tup (sT r.fs)]:=by
  show T.tup [.str "function",.str r.z,.int ((r.ps.take r.pl).length:Nat),.tup (r.ps.take r.pl ++ r.ps.drop r.pl),.str r.kd,.tup (sT r.fs)]=_;rw [List.take_append_drop,List.length_take,Nat.min_eq_left h.few]
 rw [e];exact vP (vC rfl (vC h8 (vC (v2 h7 rfl i0) (vC (vK (vC (v2 h7 rfl i1) rfl) rfl) (vC (v2 h7 rfl i2) (vC (vK (vC (v2 h7 rfl i3) rfl) rfl) rfl)))))) rfl rfl
theorem Zg {ts:List Str}(W:T)(o1 o2 o3 o4:Option RV):∀ (R:List qM) (acc:List T) (e6 e7 e8:Option RV),(∀ r∈R,aG ts r.z r.md r.Q)->acc.length + R.length < 900 ->
  ∃ e6' e7',xD (cS 2 (qT (gN 6) (qT (gN 7) cR))) (gb 5 Nj) (R.map λr=>.tup [.str r.z,r.v]) (pE W o1 o2 o3 o4 acc e6 e7 e8)=.nx (pE W o1 o2 o3 o4 (acc ++ R.map λr=>r.d.t) e6' e7' e8)
 | [],acc,e6,e7,e8,_,_=>⟨e6,e7,by show _=YL.nx (pE W o1 o2 o3 o4 (acc ++ []) e6 e7 e8);rw [List.append_nil];rfl⟩
 | r :: R,acc,e6,e7,e8,h,hl=>by
  rw [List.length_cons] at hl;obtain ⟨f6,f7,ih⟩:=Zg W o1 o2 o3 o4 R (acc ++ [r.d.t]) (some (false,.str r.z)) (some (false,r.v)) e8 (λq hq=>h q (List.mem_cons_of_mem _ hq)) (by rw [List.length_append,List.length_singleton];omega);refine ⟨f6,f7,?_⟩;rw [List.map_cons,xf (e1:=pE W o1 o2 o3 o4 acc (some (false,.str r.z)) (some (false,r.v)) e8) (e2:=pE W o1 o2 o3 o4 (acc ++ [r.d.t]) (some (false,.str r.z)) (some (false,r.v)) e8) rfl,ih,List.append_assoc]
  ·rfl
  ·exact lV (ts:=acc) rfl (VJ (h r List.mem_cons_self) rfl rfl) (by have:=big;omega)
theorem Zh (W:T)(o1 o2 o3 o4:Option RV):∀ (R:List qN) (acc:List T) (e6 e7 e8:Option RV),acc.length + R.length < 900 ->
  ∃ e6' e7',xD (cS 2 (qT (gN 6) (qT (gN 7) cR))) (gb 5 Nk) (R.map λr=>.tup [.str r.z,r.v]) (pE W o1 o2 o3 o4 acc e6 e7 e8)=.nx (pE W o1 o2 o3 o4 (acc ++ R.map λr=>r.d.t) e6' e7' e8)
 | [],acc,e6,e7,e8,_=>⟨e6,e7,by show _=YL.nx (pE W o1 o2 o3 o4 (acc ++ []) e6 e7 e8);rw [List.append_nil];rfl⟩
 | r :: R,acc,e6,e7,e8,hl=>by
  rw [List.length_cons] at hl;obtain ⟨f6,f7,ih⟩:=Zh W o1 o2 o3 o4 R (acc ++ [r.d.t]) (some (false,.str r.z)) (some (false,r.v)) e8 (by rw [List.length_append,List.length_singleton];omega);refine ⟨f6,f7,?_⟩;rw [List.map_cons,xf (e1:=pE W o1 o2 o3 o4 acc (some (false,.str r.z)) (some (false,r.v)) e8) (e2:=pE W o1 o2 o3 o4 (acc ++ [r.d.t]) (some (false,.str r.z)) (some (false,r.v)) e8) rfl,ih,List.append_assoc]
  ·rfl
  ·exact lV (ts:=acc) rfl (VL rfl rfl) (by have:=big;omega)
theorem Zi {ts:List Str}(W:T)(o1 o2 o3 o4:Option RV):∀ (R:List gY) (acc:List T) (e6 e7 e8:Option RV),(∀ r∈R,aI ts r.pl r.ps r.kd r.fs)->acc.length + R.length < 900 ->
  ∃ e7' e8',xD (cS 2 (qT (gN 8) (qT (gN 7) cR))) (gb 5 Nl) (R.map λr=>.tup [.str r.z,r.v]) (pE W o1 o2 o3 o4 acc e6 e7 e8)=.nx (pE W o1 o2 o3 o4 (acc ++ R.map λr=>r.d.t) e6 e7' e8')
 | [],acc,e6,e7,e8,_,_=>⟨e7,e8,by show _=YL.nx (pE W o1 o2 o3 o4 (acc ++ []) e6 e7 e8);rw [List.append_nil];rfl⟩
 | r :: R,acc,e6,e7,e8,h,hl=>by
  rw [List.length_cons] at hl;obtain ⟨f7,f8,ih⟩:=Zi W o1 o2 o3 o4 R (acc ++ [r.d.t]) e6 (some (false,r.v)) (some (false,.str r.z)) (λq hq=>h q (List.mem_cons_of_mem _ hq)) (by rw [List.length_append,List.length_singleton];omega);refine ⟨f7,f8,?_⟩;rw [List.map_cons,xf (e1:=pE W o1 o2 o3 o4 acc e6 (some (false,r.v)) (some (false,.str r.z))) (e2:=pE W o1 o2 o3 o4 (acc ++ [r.d.t]) e6 (some (false,r.v)) (some (false,.str r.z))) rfl,ih,List.append_assoc]
  ·rfl
  ·exact lV (ts:=acc) rfl (VM (h r List.mem_cons_self) rfl rfl) (by have:=big;omega)
theorem cM {m:ME}{tg:MG}{mb:MS}{env:En}{b:Bool}{ks:List Key}{ts ps:List T}{o:YL}(h:m (zZ env)=.ok (b,.dct ks ts))(e:xp ks ts=ps)(g:xD tg mb ps env=o):fj m tg mb env=o:=by
 unfold fj;rw [fB h];show xD tg mb (xp ks ts) env=o;rw [e];exact g
def Wl (R:List qM)(C:List qN)(F:List gY):List D:=R.map qM.d ++ C.map qN.d ++ F.map gY.d
theorem VN:kQ=ze (Z2 (mV 0) (cS 4 (qT (gN 1) (qT (gN 2) (qT (gN 3) (qT (gN 4) cR)))))) (ze (zn 5 (jS z5)) (ze (fj (mV 2) (cS 2 (qT (gN 6) (qT (gN 7) cR))) (gb 5 Nj)) (ze (fj (mV 3) (cS 2 (qT (gN 6) (qT (gN 7) cR))) (gb 5 Nk)) (ze (fj (mV 4) (cS 2 (qT (gN 8) (qT (gN 7) cR))) (gb 5 Nl)) (wx 5))))):=rfl
theorem Jw {ts:List Str}{R:List qM}{C:List qN}{F:List gY}{m:Nat}(o:kG ts 4 R C)(hl:R.length + C.length<=4)(of:dj ts m F)(hf:F.length<=3):xb [(false,Jv ts R C F)]=.ok (true,.lst ((Wl R C F).map D.t)):=by
 refine zT (n:=9) (k:=1) (mb:=kQ) rfl ?_;rw [VN];show ze _ _ [some (false,Jv ts R C F),none,none,none,none,none,none,none,none]=_;refine (zf (e':=[some (false,Jv ts R C F),some (false,.lst (sT ts)),some (false,.dct (oX R) (R.map qM.v)),some (false,.dct (cT C) (C.map qN.v)),some (false,.dct (VH F) (F.map gY.v)),none,none,none,none]) rfl).trans ?_;rw [zf (a:=zn 5 (jS z5)) (zj (r:=(true,.lst [])) (vL (rs:=[]) rfl rfl rfl))];show ze _ _ (pE (Jv ts R C F) (some (false,.lst (sT ts))) (some (false,.dct (oX R) (R.map qM.v))) (some (false,.dct (cT C) (C.map qN.v))) (some (false,.dct (VH F) (F.map gY.v))) [] none none none)=_;obtain ⟨a6,a7,h1⟩:=Zg (Jv ts R C F) (some (false,.lst (sT ts))) (some (false,.dct (oX R) (R.map qM.v))) (some (false,.dct (cT C) (C.map qN.v))) (some (false,.dct (VH F) (F.map gY.v))) R [] none none none o.recs (by simp;omega);refine (zf (cM rfl (qo qM.z qM.v R) h1)).trans ?_;obtain ⟨b6,b7,h2⟩:=Zh (Jv ts R C F) (some (false,.lst (sT ts))) (some (false,.dct (oX R) (R.map qM.v))) (some (false,.dct (cT C) (C.map qN.v))) (some (false,.dct (VH F) (F.map gY.v))) C ([] ++ R.map λr=>r.d.t) a6 a7 none (by simp;omega);refine (zf (cM rfl (qo qN.z qN.v C) h2)).trans ?_;obtain ⟨c7,c8,h3⟩:=Zi (Jv ts R C F) (some (false,.lst (sT ts))) (some (false,.dct (oX R) (R.map qM.v))) (some (false,.dct (cT C) (C.map qN.v))) (some (false,.dct (VH F) (F.map gY.v))) F (([] ++ R.map λr=>r.d.t) ++ C.map λr=>r.d.t) b6 b7 none of.all (by simp;omega);refine (zf (cM rfl (qo gY.z gY.v F) h3)).trans ?_;show YL.rt _=_;unfold Wl;rw [List.map_append,List.map_append,List.map_map,List.map_map,List.map_map]
 rfl
theorem uq {n:Nat} : ∀ {ts:List T},(∀ t∈ts,(xW t).length<=n)->(strsL ts).length<=n * ts.length
 | [],_=>by simp [strsL]
 | t :: ts,h=>by
  have h1:=h t List.mem_cons_self;have h2:=uq (ts:=ts) λu hu=>h u (List.mem_cons_of_mem _ hu);unfold strsL;rw [List.length_append,List.length_cons,Nat.mul_succ];omega
theorem ip {R:List T->Prop}{ts:List T}(hR:∀ r,R r->strsL r=[])(h:cI (nS R) ts):(strsL ts).length<=24:=by
 have:=uq (n:=2) (ts:=ts) λt ht=>by
  obtain ⟨y,kd,r,rfl,_,_,hr⟩:=h.2.2 t ht;simp [xW,strsL,hR r hr]
 have:=h.1;omega
theorem W4 {ts:List T}(h:cI Gq ts):(strsL ts).length<=12:=by
 have:=uq (n:=1) (ts:=ts) λt ht=>by
  obtain ⟨y,rfl,_⟩:=h.2.2 t ht;simp [xW]
 have:=h.1;omega
theorem VO (m:Bool):∀ r,RF m r->strsL r=[]:=λr h=>by obtain ⟨d,s,rfl,_⟩:=h;rfl
theorem VP:∀ r,RP r->strsL r=[]:=λr h=>by obtain ⟨d,rfl⟩:=h;rfl
theorem VQ:∀ r,R0 r->strsL r=[]:=λr h=>by rw [show r=[] from h];rfl
theorem VR:∀ {d:D},d.ok->(xW d.t).length<=100
 | .rc z m ps,h=>by
  have:=ip (VO m) h.2;simp only [D.t,xW,strsL,List.length_append,List.length_cons,List.length_nil];omega
 | .ch z m s ps,h=>by
  have:=ip VQ h.2;simp only [D.t,xW,strsL,List.length_append,List.length_cons,List.length_nil];omega
 | .fn z qs ps kd fs,h=>by
  have:=ip VP h.2.2.1;have:=W4 h.2.2.2;simp only [D.t,xW,strsL,List.length_append,List.length_cons,List.length_nil];omega
theorem W5 {ds:List D}(ok:∀ d∈ds,d.ok)(hl:ds.length<=13):(strsL (ds.map D.t)).length < sizeLine:=by
 have:=uq (n:=100) (ts:=ds.map D.t) λt ht=>by
  obtain ⟨d,hd,rfl⟩:=List.mem_map.mp ht;exact VR (ok d hd)
 rw [List.length_map] at this;have h2:2000 < sizeLine:=by decide
 omega
theorem W6:∀ z∈JO ++ XW ++ Ui ++ ii ++ W2,z.length<=40/\Fs.isName z.cps.toList=true:=by decide +kernel
theorem iq {z:Str}(h:z∈JO ++ XW ++ Ui ++ ii ++ W2):Nm z:=Kn (W6 z h).1 (W6 z h).2
theorem Zj {ts:List Str}(h:kW ts){z:Str}(hz:z∈oU ts):Kd z:=by
 rcases List.mem_cons.mp hz with rfl | hz
 ·exact cH _ (by decide +kernel) (by decide +kernel)
 ·rcases List.mem_cons.mp hz with rfl | hz
  ·exact cH _ (by decide +kernel) (by decide +kernel)
  ·exact h.kind z hz
theorem W7 {ts:List Str}(h:kW ts){z:Str}{md:Bool}(hz:z∈ts)(hm:md=true->Nm z):PB z md:=by
 intro c ma mk hx;have hn:=lY z (Nat.le_trans (h.short z hz) (by decide)) (by have:=h.short z hz;omega)
 have ho:Fs.isName z.cps.toList=true\/md=false:=by
  cases md with
  | false=>exact .inr rfl
  | true =>
   left;have:=hm rfl;unfold Nm at this;rw [hn] at this
   cases e:Fs.isName z.cps.toList with
   | true=>rfl
   | false=>rw [e] at this;cases this
 exact zT (n:=3) (k:=3) (mb:=gF c) rfl (Jh jX (ja c) _ z md (h.told z hz).1.symm (h.told z hz).2.symm (i9 c ma mk z hx (h.kind z hz)) _ hn ho)
theorem pA {l m:List Str}{n:Nat}(h:l=m.take n)(hm:m.Nodup):l.Nodup:=by
 rw [h];exact List.Nodup.sublist (List.take_sublist n m) hm
theorem PU {ts:List Str}(h:kW ts){r:qM}(hz:r.z∈ts)(o:aG ts r.z r.md r.Q):r.d.ok:=by
 obtain ⟨n,hn⟩:=o.names;refine ⟨W7 h hz o.made,?_,?_,λt ht => ?_⟩
 ·rw [List.length_map]
  have:=im hn (by decide);omega
 ·rw [List.map_map]
  exact pA (show r.Q.map (uS ∘ λq=>T.tup (.str q.1 :: q.2))=_ from hn) de
 ·obtain ⟨q,hq,rfl⟩:=List.mem_map.mp ht
  obtain ⟨kd,d,s,e,hk,hr⟩:=o.flds q hq;refine ⟨q.1,kd,[.bl d,.bl s],by rw [e],iq ?_,Zj h hk,d,s,rfl,hr⟩;have:q.1∈JO.take n:=hn ▸ List.mem_map_of_mem hq;have:=List.mem_of_mem_take this;simp only [List.mem_append];exact .inl (.inl (.inl (.inl this)))
theorem PV {ts:List Str}(h:kW ts){r:qN}(hz:r.z∈ts)(o:XX ts r.z r.md r.Q):r.d.ok:=by
 obtain ⟨n,hn⟩:=o.names;refine ⟨W7 h hz o.made,?_,?_,λt ht => ?_⟩
 ·rw [List.length_map]
  have:=im hn (by decide);omega
 ·rw [List.map_map]
  exact pA (show r.Q.map (uS ∘ λq=>T.tup [.str q.1,.str q.2])=_ from hn) dg
 ·obtain ⟨q,hq,rfl⟩:=List.mem_map.mp ht
  refine ⟨q.1,q.2,[],rfl,iq ?_,Zj h (o.forms q hq),rfl⟩;have:q.1∈XW.take n:=hn ▸ List.mem_map_of_mem hq;have:=List.mem_of_mem_take this;simp only [List.mem_append];exact .inl (.inl (.inl (.inr this)))
theorem Jx:ii.Nodup:=by decide +kernel
theorem PX {ts:List Str}(h:kW ts){r:gY}(hz:r.z∈W2)(o:aI ts r.pl r.ps r.kd r.fs):r.d.ok:=by
 refine ⟨iq (List.mem_append_right _ hz),Zj h o.back,?_,?_⟩
 ·rw [List.take_append_drop]
  refine ⟨by have:=o.len;omega,o.nodup,λt ht => ?_⟩;obtain ⟨y,kd,b,rfl,hy,hk⟩:=o.parts t ht;refine ⟨y,kd,[.bl b],rfl,iq ?_,Zj h hk,b,rfl⟩;simp only [List.mem_append];exact .inl (.inl (.inr hy))
 ·obtain ⟨j,e⟩:=o.faults
  rw [e];refine ⟨?_,?_,λt ht => ?_⟩
  ·rw [gM,List.length_drop]
   have:ii.length=2:=rfl;omega
  ·unfold sT
   rw [List.map_map,show (uS ∘ T.str)=id from rfl,List.map_id];exact List.Nodup.sublist (List.drop_sublist j _) Jx
  ·obtain ⟨y,hy,rfl⟩:=List.mem_map.mp ht
   refine ⟨y,rfl,iq ?_⟩;have:=List.mem_of_mem_drop hy;simp only [List.mem_append];exact .inl (.inr this)
theorem Nn {ts:List Str}(h:kW ts){R:List qM}{C:List qN}{F:List gY}{m:Nat}(o:kG ts 4 R C)(of:dj ts m F):∀ d∈Wl R C F,d.ok:=by
 intro d hd
 rcases List.mem_append.mp hd with hd | hd
 ·rcases List.mem_append.mp hd with hd | hd
  ·obtain ⟨r,hr,rfl⟩:=List.mem_map.mp hd
   exact PU h (List.mem_of_mem_take (o.sub _ (List.mem_append_left _ (List.mem_map_of_mem hr)))) (o.recs r hr)
  ·obtain ⟨r,hr,rfl⟩:=List.mem_map.mp hd
   exact PV h (List.mem_of_mem_take (o.sub _ (List.mem_append_right _ (List.mem_map_of_mem hr)))) (o.chos r hr)
 ·obtain ⟨r,hr,rfl⟩:=List.mem_map.mp hd
  refine PX h (List.mem_of_mem_take (i:=m) ?_) (of.all r hr);rw [<- of.names];exact List.mem_map_of_mem hr
theorem VS {ts:List Str}{R:List qM}{C:List qN}{F:List gY}{m:Nat}(o:kG ts 4 R C)(of:dj ts m F):aE (Wl R C F):=by
 have e:(R.map qM.d ++ C.map qN.d).map D.z=R.map qM.z ++ C.map qN.z:=by
  rw [List.map_append,List.map_map,List.map_map]
  rfl
 have k1:(R.map qM.d ++ C.map qN.d).Pairwise λd e=>d.z≠e.z:=by
  have:=o.nodup;rw [<- e] at this;exact List.pairwise_map.mp this
 have k2:(F.map gY.d).Pairwise λd e=>d.z≠e.z:=by
  have:(F.map gY.z).Nodup:=pA of.names di;rw [List.pairwise_map];exact List.pairwise_map.mp this
 unfold aE Wl;rw [List.pairwise_append];have q:∀ {d e:D},d.z≠e.z->d.isF=e.isF->d.z≠e.z:=λh _=>h;refine ⟨k1.imp q,k2.imp q,λa ha b hb hab => ?_⟩;obtain ⟨r,_,rfl⟩:=List.mem_map.mp hb
 rcases List.mem_append.mp ha with ha | ha<;>(obtain ⟨q,_,rfl⟩:=List.mem_map.mp ha;cases hab)
def NM (c:CA):ME:=za (wn c) (z3 (mV 0) (z3 (m2 zo (mV 4) (mC (.int 0))) (z3 (m2 zo (mV 4) (mC (.int 1))) z5)))
def No (c:CA):MS:=ze (bX 3 4) (ze (zn 5 (NM c)) (ze (xi (jr (m2 Xr (mV 5) (mC .non))) (zq (mC (.bl false))) zw) (Z7 3 5)))
theorem VT (c:CA):lM c=ze (zn 3 (jS (z3 (zP (z3 (mV 1) (z3 (mV 2) z5))) z5))) (ze (zU (ka (mV 3)) (No c) 100000) (zq (mC (.bl true)))):=rfl
theorem iA (c:CA)(f v:T)(k:Str)(o:YL)(h:ze (zU (ka (mV 3)) (No c) 100000) (zq (mC (.bl true))) [some (false,f),some (false,.str k),some (false,v),some (true,.lst [.tup [.str k,v]]),none,none]=o):lM c (we 6 [(false,f),(false,.str k),(false,v)])=o:=by
 rw [VT];refine (zf (zj (vL (vC (vP (vC rfl (vC rfl rfl)) rfl rfl) rfl) rfl rfl))).trans ?_;exact h
theorem Zk (c:CA)(f v:T)(k:Str):bX 3 4 [some (false,f),some (false,.str k),some (false,v),some (true,.lst [.tup [.str k,v]]),none,none]=.nx [some (false,f),some (false,.str k),some (false,v),some (true,.lst []),some (false,.tup [.str k,v]),none]:=rfl
theorem W8 (c:CA)(f v:T)(k:Str){r:RV}(h:wn c [(false,f),(false,.str k),(false,v)]=.ok r)(o3 o5:Option RV):NM c [some (false,f),some (false,.str k),some (false,v),o3,some (false,.tup [.str k,v]),o5]=.ok r :=
 vF (vC rfl (vC (v2 rfl rfl (jB _ 0)) (vC (v2 rfl rfl (jB _ 1)) rfl))) h
theorem iB (c:CA)(f v:T)(k:Str)(h:wn c [(false,f),(false,.str k),(false,v)]=.ok (true,.lst [])):qE c [(false,f),(false,.str k),(false,v)]=.ok (false,.bl true):=by
 refine zT (n:=6) (k:=3) (mb:=lM c) rfl (iA c f v k _ ?_)
 have e1:zU (ka (mV 3)) (No c) 100000 [some (false,f),some (false,.str k),some (false,v),some (true,.lst [.tup [.str k,v]]),none,none]=.nx [some (false,f),some (false,.str k),some (false,v),some (true,.lst []),some (false,.tup [.str k,v]),some (true,.lst [])]:=by
  have hif:jT (jr (m2 Xr (mV 5) (mC .non))) [some (false,f),some (false,.str k),some (false,v),some (true,.lst []),some (false,.tup [.str k,v]),some (true,.lst [])]=.ok false:=w6 rfl rfl;refine (d6 (n:=99999) (w6 rfl rfl) ((zf (Zk c f v k)).trans ((zf (zj (W8 c f v k h none none))).trans ((zf (j5 hif)).trans rfl)))).trans ?_;exact fy (n:=99998) (w6 rfl rfl)
 exact (zf e1).trans (zA rfl)
theorem Zl (c:CA)(f v:T)(k:Str)(h:wn c [(false,f),(false,.str k),(false,v)]=.ok (false,.non)):qE c [(false,f),(false,.str k),(false,v)]=.ok (false,.bl false):=by
 refine zT (n:=6) (k:=3) (mb:=lM c) rfl (iA c f v k _ ?_);exact pz (Z9 (n:=99999) (w6 rfl rfl) ((zf (Zk c f v k)).trans ((zf (zj (W8 c f v k h none none))).trans (vz (j9 rfl) (zA rfl)))))
theorem oZ (c:CA)(f v:T)(b:Bool)(h:v9 [(false,v)]=.ok (false,.bl b)):wn c [(false,f),(false,.str "num"),(false,v)]=.ok (if b=true then (true,.lst []) else (false,.non)):=by
 refine zT (n:=4) (k:=3) (mb:=uc c) rfl ?_;have e:=kU "num" "num";rw [decide_eq_true rfl] at e;refine vz (j9 (vT (v2 rfl rfl e))) (zA ?_)
 have ht:ka (za v9 (z3 (mV 2) z5)) (zZ (we 4 [(false,f),(false,.str "num"),(false,v)]))=.ok b:=by
  unfold ka;rw [vF (vC rfl rfl) h]
  rfl
 unfold fI;rw [ht];cases b
 ·rfl
 ·rfl
theorem aM (c:CA)(f v:T)(b:Bool)(h:vM [(false,v)]=.ok (false,.bl b)):wn c [(false,f),(false,.str "word"),(false,v)]=.ok (if b=true then (true,.lst []) else (false,.non)):=by
 refine zT (n:=4) (k:=3) (mb:=uc c) rfl ?_;have e0:=kU "word" "num";rw [decide_eq_false (by decide +kernel)] at e0;have e:=kU "word" "word";rw [decide_eq_true rfl] at e;refine (zf (j5 (j9 (vT (v2 rfl rfl e0))))).trans (vz (j9 (vT (v2 rfl rfl e))) (zA ?_))
 have ht:ka (za vM (z3 (mV 2) z5)) (zZ (we 4 [(false,f),(false,.str "word"),(false,v)]))=.ok b:=by
  unfold ka;rw [vF (vC rfl rfl) h]
  rfl
 unfold fI;rw [ht];cases b
 ·rfl
 ·rfl
def kX (c:CA)(es:List D):T:=.obj c.Face ["told_kinds","told_functions"] [.dct (db es false) (Jo es false),.dct (db es true) (Jo es true)]
def W9 (c:CA)(k:Str):T:=.obj c.Bare ["title"] [.str k]
theorem Jy (c:CA)(es:List D)(k:Str)(h:Sum.inr k∉db es false):vq c [(false,kX c es),(false,.str k)]=.ok (false,W9 c k):=by
 refine zT (n:=3) (k:=2) (mb:=nw c) rfl ?_
 have hf:iL [c.Face] "told_kinds" (mV 0) (zZ [some (false,kX c es),some (false,.str k),none])=.ok (false,.dct (db es false) (Jo es false)):=by
  show (if c.Face∈[c.Face] then ZK ((K8 "told_kinds" ["told_kinds","told_functions"] [.dct (db es false) (Jo es false),.dct (db es true) (Jo es true)]).map λt=>(false,t)) else .bad)=_;rw [if_pos List.mem_cons_self]
  rfl
 have hd:bP (iL [c.Face] "told_kinds" (mV 0)) (mV 1) (zZ [some (false,kX c es),some (false,.str k),none])=.ok (false,.non):=by
  unfold bP;rw [hf];show ZK (some (false,(qx (db es false) (Jo es false) (Sum.inr k)).getD .non))=_;rw [uR _ _ _ h]
  rfl
 refine (zf (zj hd)).trans (vz (j9 rfl) (zA ?_));unfold km;rw [vC (r:=(false,.str k)) rfl (rfl:z5 _=.ok [])];show (if c.Bare=c.Bare/\_/\_ then _ else _:kg T).bind _=_;rw [if_pos ⟨rfl,rfl,rfl⟩]
 rfl
theorem Jz (c:CA)(k:Str){env:En}(h3:mV 3 env=.ok (false,W9 c k)):∃ w:Str,w ≠ "record" /\ w ≠ "choice" /\ d4 c.Kind c.Bare c.Record c.Choice "word" (kA c) (kr c) (ve c) (vc c) (mV 3) z5 env=.ok (false,.str w):=by
 have hm:∀ (C:Addr) (f:MF),qU C "word" f (mV 3) z5 env=if c.Bare=C/\("word" : Str)∉(["title"]:List Str) then f [(false,W9 c k)] else .bad:=λC f=>by
  unfold qU;rw [h3]
  rfl
 have hn:("word" : Str)∉(["title"]:List Str):=by decide +kernel
 unfold d4 ZS
 by_cases e:c.Bare=c.Kind
 ·refine ⟨"kind",by decide +kernel,by decide +kernel,?_⟩
  rw [hm c.Kind,if_pos ⟨e,hn⟩]
  rfl
 ·refine ⟨"bare",by decide +kernel,by decide +kernel,?_⟩
  rw [hm c.Kind,if_neg λz=>e z.1,hm c.Bare,if_pos ⟨rfl,hn⟩]
  rfl
theorem aN (c:CA)(es:List D)(v:T)(k:Str)(h1:k ≠ "num")(h2:k ≠ "word")(h:Sum.inr k∉db es false):wn c [(false,kX c es),(false,.str k),(false,v)]=.ok (true,.lst []):=by
 refine zT (n:=4) (k:=3) (mb:=uc c) rfl ?_;have e1:=kU k "num";rw [decide_eq_false h1] at e1;have e2:=kU k "word";rw [decide_eq_false h2] at e2
 have hk:qU c.Face "kind" (vq c) (mV 0) (z3 (mV 1) z5) (zZ [some (false,kX c es),some (false,.str k),some (false,v),none])=.ok (false,W9 c k):=by
  have hn:("kind" : Str)∉(["told_kinds","told_functions"]:List Str):=by decide +kernel
  show (if c.Face=c.Face/\("kind" : Str)∉(["told_kinds","told_functions"]:List Str) then (z3 (mV 1) z5 _).bind λrs=>vq c ((false,kX c es) :: rs) else .bad)=_;rw [if_pos ⟨rfl,hn⟩];exact Jy c es k h
 obtain ⟨w,w1,w2,hw⟩:=Jz c k (env:=zZ [some (false,kX c es),some (false,.str k),some (false,v),some (false,W9 c k)]) rfl;have q1:=kU w "record";rw [decide_eq_false w1] at q1;have q2:=kU w "choice";rw [decide_eq_false w2] at q2;refine (zf (j5 (j9 (vT (v2 rfl rfl e1))))).trans ((zf (j5 (j9 (vT (v2 rfl rfl e2))))).trans ((zf (zj hk)).trans ?_));exact (zf (j5 (j9 (vT (v2 hw rfl q1))))).trans ((zf (j5 (j9 (vT (v2 hw rfl q2))))).trans (zA rfl))
def PY (v:T):Prop:=(∃ n,v=.int n)\/(∃ s,v=.str s)\/∃ ts,v=.tup ts
theorem cN (a:Int)(k:Nat)(hk:0 < k):∃ j:Nat,j < k/\a % (k:Int)=(j:Int):=by
 have h0:=Int.emod_nonneg a (b:=(k:Int)) (by omega);have h1:=Int.emod_lt_of_pos a (b:=(k:Int)) (by omega);obtain ⟨j,hj⟩:=Int.eq_ofNat_of_zero_le h0;exact ⟨j,by omega,hj⟩
def NN:ME:=m2 dG (m2 zS (m2 jL (mV 0) (mC (.int 9))) (m2 iF (mC (.int 2)) (m2 ox (mC (.int 10)) (mC (.int 40))))) (m2 ox (mC (.int 10)) (mC (.int 40)))
def NO:ME:=m2 zr (Ug "" "num" "a b" "rec" (m2 zS (m2 jL (mV 0) (mC (.int 9))) (mC (.int 4)))) (zE bC (z3 (m2 zS (m2 jL (mV 0) (mC (.int 36))) (mC (.int 1000))) z5))
def PZ (k:Int):MT:=jr (m2 ga (m2 zS (mV 0) (mC (.int 9))) (mC (.int k)))
def Np:ME:=jS (z3 (zP (z3 (mC (.str "rec")) (z3 (zP z5) z5))) (z3 (zP (z3 (mC (.str "rec")) (z3 (zP (z3 (zP (z3 (mC (.str "a")) (z3 (mV 1) z5))) z5)) z5))) (z3 (zP (z3 (mC (.str "rec")) (z3 (zP (z3 (zP (z3 (mC (.str "num")) (z3 (mV 2) z5))) (z3 (zP (z3 (mC (.str "word")) (z3 (zP (z3 (mC (.str "rec")) (z3 (zP z5) z5))) z5))) z5))) z5))) z5)))
def NP:ME:=m2 zo (m2 zr (mV 3) (jS (z3 (zP (z3 (mC (.str "form")) (z3 (mC (.str "a")) (z3 (mV 1) z5)))) (z3 (zP (z3 (mC (.str "form")) (z3 (mC (.str "num")) (z3 (zP (z3 (mC (.str "form")) (z3 (mC (.str "z")) (z3 (mV 2) z5)))) z5)))) z5)))) (m2 dG (m2 zS (mV 0) (mC (.int 9))) (mC (.int 4)))
theorem VU:pf=ze (zn 1 NN) (ze (zn 2 NO) (ze (xi (PZ 2) (wx 1) zw) (ze (xi (PZ 4) (wx 2) zw) (ze (zn 3 Np) (zq NP))))):=rfl
theorem Kp (env:En):m2 ox (mC (.int 10)) (mC (.int 40)) env=.ok (false,.int (10 ^ 40)):=v2 rfl rfl (by
 show (if JX 10 40 then some (false,T.int ((10:Int) ^ (40:Int).toNat)) else none)=_;rw [if_pos ⟨by decide,by decide,by decide⟩]
 rfl)
theorem U0 (c:Int)(r:List (Option RV)):∃ s:Str,NO (some (false,.int c) :: r)=.ok (false,.str s):=by
 obtain ⟨i,hi,ei⟩:=cN (c / 9) 4 (by decide);obtain ⟨j,hj,ej⟩:=cN (c / 36) 1000 (by decide)
 have m1:zS (.int (c / 9)) (.int 4)=some (false,.int ((i % 4:Nat):Int)):=by
  rw [Nat.mod_eq_of_lt hi,<- ei];exact d7 _ (by decide)
 have m2':zS (.int (c / 36)) (.int 1000)=some (false,.int (j:Int)):=by
  rw [<- ej];exact d7 _ (by decide)
 obtain ⟨z,hz,hp⟩:=oV (a := "") (b := "num") (c := "a b") (d := "rec") (env:=some (false,.int c) :: r) (m:=m2 zS (m2 jL (mV 0) (mC (.int 9))) (mC (.int 4))) (i:=i) (v2 (v2 rfl rfl (VB c (by decide))) rfl m1)
 have hzl:z.length<=3:=by
  have:∀ z∈(["","num","a b","rec"]:List Str),z.length<=3:=by decide +kernel
  exact this z hz
 have s1:bC [.int (j:Int)]=some (false,.str (toString (j:Int):String)):=by
  have:∀ i:Fin 1000,(((i.1:Nat):Int).natAbs.log2 < 1920):=by decide +kernel
  show (if _ then _ else _)=_;rw [if_pos (this ⟨j,hj⟩)]
 have s2:((toString (j:Int):String):Str).length<=20:=by
  have:∀ i:Fin 1000,((toString ((i.1:Nat):Int):String):Str).length<=20:=by decide +kernel
  exact this ⟨j,hj⟩
 exact ⟨_,v2 hp (vK (vC (v2 (v2 rfl rfl (VB c (by decide))) rfl m2') rfl) s1) (add_str (by omega))⟩
theorem Gj (c:Int):∃ v,PY v/\k6 [(false,.int c)]=.ok (false,v):=by
 obtain ⟨s,hs⟩:=U0 c [some (false,.int (c / 9 % (2 * 10 ^ 40) - 10 ^ 40)),none,none];have hn:NN [some (false,.int c),none,none,none]=.ok (false,.int (c / 9 % (2 * 10 ^ 40) - 10 ^ 40)):=v2 (v2 (v2 rfl rfl (VB c (by decide))) (v2 rfl (Kp _) (XS _ (by decide))) (d7 _ (by decide +kernel))) (Kp _) rfl;generalize c / 9 % (2 * 10 ^ 40) - 10 ^ 40=n at hn hs;obtain ⟨i,hi,ei⟩:=cN c 9 (by decide)
 have m9:zS (.int c) (.int 9)=some (false,.int (i:Int)):=by
  rw [<- ei];exact d7 _ (by decide)
 have lt:∀ (k:Nat) (r:List (Option RV)),jT (PZ (k:Int)) (some (false,.int c) :: r)=.ok (decide (i < k)):=λk r=>by
  refine j9 (vT (p:=false) (v2 (v2 rfl rfl m9) rfl ?_));show some (false,T.bl (decide ((i:Int) < (k:Int))))=_
  congr 3
  exact decide_eq_decide.mpr (by omega)
 have go:∀ v,ze (xi (PZ 2) (wx 1) zw) (ze (xi (PZ 4) (wx 2) zw) (ze (zn 3 Np) (zq NP))) [some (false,.int c),some (false,.int n),some (false,.str s),none]=.rt (false,v)->k6 [(false,.int c)]=.ok (false,v):=λv h=>by
  refine zT (n:=4) (k:=1) (mb:=pf) rfl ?_;rw [VU];exact (zf (zj hn)).trans ((zf (zj hs)).trans h)
 have l2:=lt 2 [some (false,.int n),some (false,.str s),none];have l4:=lt 4 [some (false,.int n),some (false,.str s),none]
 by_cases g2:i < 2
 ·rw [decide_eq_true g2] at l2
  exact ⟨.int n,.inl ⟨n,rfl⟩,go _ (vz l2 rfl)⟩
 rw [decide_eq_false g2] at l2
 by_cases g4:i < 4
 ·rw [decide_eq_true g4] at l4
  exact ⟨.str s,.inr (.inl ⟨s,rfl⟩),go _ ((zf (j5 l2)).trans (vz l4 rfl))⟩
 rw [decide_eq_false g4] at l4;obtain ⟨j,hj,rfl⟩:∃ j,j < 5/\i=j + 4:=⟨i - 4,by omega,by omega⟩
 have hsub:dG (.int ((j + 4:Nat):Int)) (.int 4)=some (false,.int (j:Int)):=by
  show some (false,T.int (((j + 4:Nat):Int) - 4))=_
  congr 3
  omega
 let A:List T:=[.tup [.str "rec",.tup []],.tup [.str "rec",.tup [.tup [.str "a",.int n]]],.tup [.str "rec",.tup [.tup [.str "num",.str s],.tup [.str "word",.tup [.str "rec",.tup []]]]]]
 let B:List T:=[.tup [.str "form",.str "a",.int n],.tup [.str "form",.str "num",.tup [.str "form",.str "z",.str s]]]
 have ha:zr (.lst A) (.lst B)=some (true,.lst (A ++ B)):=oT (by show 5<=sizeLine;decide)
 have hx:∃ ts,zo (.lst (A ++ B)) (.int (j:Int))=some (false,.tup ts):=by
  rw [ND]
  match j,hj with
  | 0,_=>exact ⟨_,rfl⟩
  | 1,_=>exact ⟨_,rfl⟩
  | 2,_=>exact ⟨_,rfl⟩
  | 3,_=>exact ⟨_,rfl⟩
  | 4,_=>exact ⟨_,rfl⟩
 obtain ⟨ts,hx⟩:=hx;have hA:Np (zZ [some (false,.int c),some (false,.int n),some (false,.str s),none])=.ok (true,.lst A):=rfl
 have hB:∀ env:En,mV 1 env=.ok (false,.int n)->mV 2 env=.ok (false,.str s)->jS (z3 (zP (z3 (mC (.str "form")) (z3 (mC (.str "a")) (z3 (mV 1) z5)))) (z3 (zP (z3 (mC (.str "form")) (z3 (mC (.str "num")) (z3 (zP (z3 (mC (.str "form")) (z3 (mC (.str "z")) (z3 (mV 2) z5)))) z5)))) z5)) env=.ok (true,.lst B):=λenv h1 h2 =>
  vL (vC (vP (vC rfl (vC rfl (vC h1 rfl))) rfl rfl) (vC (vP (vC rfl (vC rfl (vC (vP (vC rfl (vC rfl (vC h2 rfl))) rfl rfl) rfl))) rfl rfl) rfl)) rfl rfl
 refine ⟨.tup ts,.inr (.inr ⟨ts,rfl⟩),go _ ((zf (j5 l2)).trans ((zf (j5 l4)).trans ((zf (zj hA)).trans ?_)))⟩;exact kD (v2 (v2 rfl (hB _ rfl rfl) ha) (v2 (v2 rfl rfl m9) rfl hsub) hx) rfl
theorem JA {v:T}(h:PY v):∃ a b:Bool,pW [v,.ty "int"]=some (false,.bl a)/\pW [v,.ty "str"]=some (false,.bl b)/\v9 [(false,v)]=.ok (false,.bl a)/\vM [(false,v)]=.ok (false,.bl b):=by
 rcases h with ⟨n,rfl⟩ | ⟨s,rfl⟩ | ⟨ts,rfl⟩
 ·exact ⟨true,false,rfl,rfl,zT rfl (zA rfl),zT rfl (zA rfl)⟩
 ·exact ⟨false,true,rfl,rfl,zT rfl (zA rfl),zT rfl (zA rfl)⟩
 ·exact ⟨false,false,rfl,rfl,zT rfl (zA rfl),zT rfl (zA rfl)⟩
def pB (ks:List Key)(x:Key):Bool:=ks.any λy=>decide (y=x)
theorem Wa {ks:List Key}{x:Key}(h:pB ks x=false):x∉ks:=λz=>by
 have:pB ks x=true:=List.any_eq_true.mpr ⟨x,z,decide_eq_true rfl⟩;rw [h] at this;cases this
theorem U1 (z:Str)(ks:List Key)(us:List T):qO (.str z) (.dct ks us)=some (false,.bl (!(qx ks us (Sum.inr z)).isSome)):=rfl
theorem dl:∀ (ks:List Key) (us:List T) (x:Key),ks.length=us.length->(qx ks us x).isSome=pB ks x
 | [],[],x,_=>rfl
 | k :: ks,u :: us,x,h=>by
  have ih:=dl ks us x (by simpa using h);show (if k=x then some u else qx ks us x).isSome=(decide (k=x) || pB ks x)
  by_cases e:k=x
  ·rw [if_pos e,decide_eq_true e]
   rfl
  ·rw [if_neg e,decide_eq_false e,ih]
   rfl
def cO (k:Int):MT:=jr (m2 qO (mV 0) (m2 zo (mV 1) (mC (.int k))))
theorem aO (W:T)(k:Int)(ks:List Key)(us:List T)(hw:zo W (.int k)=some (false,.dct ks us))(hl:ks.length=us.length):∀ zs:List Str,wy (cO k) (mV 0) [some (false,W)] (sT zs)=.ok (sT (zs.filter λz => !pB ks (Sum.inr z)))
 | []=>rfl
 | z :: zs=>by
  have ih:=aO W k ks us hw hl zs
  have ht:cO k [some (false,.str z),some (false,W)]=.ok (!pB ks (Sum.inr z)):=by
   have:=U1 z ks us;rw [dl ks us _ hl] at this;exact vT (v2 rfl (v2 rfl rfl hw) this)
  show (match cO k [some (false,.str z),some (false,W)] with
   | .ok true=>(match mV 0 [some (false,.str z),some (false,W)] with
    | .ok r=>(match wy (cO k) (mV 0) [some (false,W)] (sT zs) with
     | .ok rs=>kg.ok (r.2 :: rs)
     | _=>.bad)
    | _=>.bad)
   | .ok false=>wy (cO k) (mV 0) [some (false,W)] (sT zs)
   | _=>.bad)=_
  rw [ht,ih];cases g:pB ks (Sum.inr z)
  ·rw [List.filter_cons_of_pos (by rw [g];rfl)]
   rfl
  ·rw [List.filter_cons_of_neg (by rw [g];exact Bool.false_ne_true)]
   rfl
def Kq:List Str:=["none","#12","#3.ok","(num&word)"]
def Nq:ME:=m2 zr (m2 zo (mV 1) (mC (.int 0))) (jS (z3 (mC (.str "none")) (z3 (mC (.str "#12")) (z3 (mC (.str "#3.ok")) (z3 (mC (.str "(num&word)")) z5)))))
def Uk (c:CA):ME:=km c.Face (jw c) (z3 (za xb (z3 (mV 1) z5)) z5)
def Nr (c:CA)(m:ME):ME:=za (qE c) (z3 (mV 2) (z3 m (z3 (mV 5) z5)))
def NQ (c:CA):MT:=kb (jR (ka (za xB (z3 (Nr c (mC (.str "num"))) (z3 (mV 6) z5))))) (jR (ka (za xB (z3 (Nr c (mC (.str "word"))) (z3 (mV 7) z5)))))
def U2 (c:CA):MS:=xi (jr (m2 Xs (Nr c (mV 8)) (mC (.bl true)))) (zq (mC (.bl false))) zw
def NR (c:CA):MS:=ze (zn 5 (za k6 (z3 (mV 4) z5))) (ze (zn 6 (zE pW (z3 (mV 5) (z3 (mC (.ty "int")) z5)))) (ze (zn 7 (zE pW (z3 (mV 5) (z3 (mC (.ty "str")) z5)))) (ze (xi (NQ c) (zq (mC (.bl false))) zw) (v6 (WY 3) (gN 8) (U2 c)))))
theorem Wb (c:CA):Xy c=ze (zn 1 (za vG (z3 (za jq (z3 (mV 0) (z3 (mC (.int 0)) z5))) z5))) (ze (zn 2 (Uk c)) (ze (zn 3 (jf (xQ Nq) (cO 1) (mV 0) [1])) (ze (zn 3 (jf (xQ (mV 3)) (cO 2) (mV 0) [1])) (ze (v6 (WX (qR (mV 0) (zC (mC (.int 1))) (zC (mC (.int 17))))) (gN 4) (NR c)) (zq (mC (.bl true))))))):=rfl
theorem iC (a:Bool):xB [(false,.bl a),(false,.bl a)]=.ok (false,.bl true):=by cases a<;>exact zT rfl (zA rfl)
theorem Wc (c:CA)(f v:T)(a:Bool)(h:v9 [(false,v)]=.ok (false,.bl a)):qE c [(false,f),(false,.str "num"),(false,v)]=.ok (false,.bl a):=by
 have:=oZ c f v a h;cases a
 ·exact Zl c f v _ this
 ·exact iB c f v _ this
theorem JB (c:CA)(f v:T)(a:Bool)(h:vM [(false,v)]=.ok (false,.bl a)):qE c [(false,f),(false,.str "word"),(false,v)]=.ok (false,.bl a):=by
 have:=aM c f v a h;cases a
 ·exact Zl c f v _ this
 ·exact iB c f v _ this
def lE (L W f:T)(o3 e4 e5 e6 e7 e8:Option RV):En:=[some (false,L),some (false,W),some (false,f),o3,e4,e5,e6,e7,e8]
theorem Zm (c:CA)(L W:T)(ds:List D)(o3:Option RV)(v:T)(e4 e6 e7:Option RV):∀ (zs:List Str) (e8:Option RV),(∀ z∈zs,z ≠ "num" /\ z ≠ "word" /\ Sum.inr z∉db ds false) ->
  ∃ e8',xD (gN 8) (U2 c) (sT zs) (lE L W (kX c ds) o3 e4 (some (false,v)) e6 e7 e8)=.nx (lE L W (kX c ds) o3 e4 (some (false,v)) e6 e7 e8')
 | [],e8,_=>⟨e8,rfl⟩
 | z :: zs,e8,h=>by
  obtain ⟨f8,ih⟩:=Zm c L W ds o3 v e4 e6 e7 zs (some (false,.str z)) λy hy=>h y (List.mem_cons_of_mem _ hy);obtain ⟨h1,h2,h3⟩:=h z List.mem_cons_self;refine ⟨f8,?_⟩;show xD _ _ (T.str z :: sT zs) _=_;rw [xf (e1:=lE L W (kX c ds) o3 e4 (some (false,v)) e6 e7 (some (false,.str z))) (e2:=lE L W (kX c ds) o3 e4 (some (false,v)) e6 e7 (some (false,.str z))) rfl]
  ·exact ih
  ·exact j5 (j9 (vT (v2 (vF (vC rfl (vC rfl (vC rfl rfl))) (iB c _ v z (aN c ds v z h1 h2 h3))) rfl rfl)))
theorem aP (c:CA)(L W:T)(ds:List D)(zs:List Str)(hz:∀ z∈zs,z ≠ "num" /\ z ≠ "word" /\ Sum.inr z∉db ds false):∀ (cs:List Int) (b:Bool) (e4 e5 e6 e7 e8:Option RV),
  ∃ b' e4' e5' e6' e7' e8',xD (gN 4) (NR c) (cs.map T.int) (lE L W (kX c ds) (some (b,.lst (sT zs))) e4 e5 e6 e7 e8)=.nx (lE L W (kX c ds) (some (b',.lst (sT zs))) e4' e5' e6' e7' e8')
 | [],b,e4,e5,e6,e7,e8=>⟨b,e4,e5,e6,e7,e8,rfl⟩
 | x :: cs,b,e4,e5,e6,e7,e8=>by
  obtain ⟨v,hv,hx⟩:=Gj x;obtain ⟨p,q,i1,i2,w1,w2⟩:=JA hv;obtain ⟨f8,h8⟩:=Zm c L W ds (some (false,.lst (sT zs))) v (some (false,.int x)) (some (false,.bl p)) (some (false,.bl q)) zs e8 hz;obtain ⟨b',g4,g5,g6,g7,g8,ih⟩:=aP c L W ds zs hz cs false (some (false,.int x)) (some (false,v)) (some (false,.bl p)) (some (false,.bl q)) f8;refine ⟨b',g4,g5,g6,g7,g8,?_⟩;rw [List.map_cons,xf (e1:=lE L W (kX c ds) (some (b,.lst (sT zs))) (some (false,.int x)) e5 e6 e7 e8) (e2:=lE L W (kX c ds) (some (false,.lst (sT zs))) (some (false,.int x)) (some (false,v)) (some (false,.bl p)) (some (false,.bl q)) f8) rfl]
  ·exact ih
  ·have ht:jT (NQ c) (lE L W (kX c ds) (some (b,.lst (sT zs))) (some (false,.int x)) (some (false,v)) (some (false,.bl p)) (some (false,.bl q)) e8)=.ok false:=j9 (oJ (am (vF (vC (vF (vC rfl (vC rfl (vC rfl rfl))) (Wc c _ v p w1)) (vC rfl rfl)) (iC p))) (am (vF (vC (vF (vC rfl (vC rfl (vC rfl rfl))) (JB c _ v q w2)) (vC rfl rfl)) (iC q))))
   refine (zf (zj (vF (vC rfl rfl) hx))).trans ((zf (zj (vK (vC rfl (vC rfl rfl)) i1))).trans ((zf (zj (vK (vC rfl (vC rfl rfl)) i2))).trans ((zf (j5 ht)).trans ?_)));exact h8
theorem Gk {R:List qM}{C:List qN}{F:List gY}{z:Str}(h1:Sum.inr z∉oX R)(h2:Sum.inr z∉cT C):Sum.inr z∉db (Wl R C F) false:=by
 intro h;obtain ⟨d,hd,e⟩:=List.mem_map.mp h;obtain ⟨hd,hF⟩:=List.mem_filter.mp hd
 rcases List.mem_append.mp hd with hd | hd
 ·rcases List.mem_append.mp hd with hd | hd
  ·obtain ⟨r,hr,rfl⟩:=List.mem_map.mp hd
   exact h1 (List.mem_map.mpr ⟨r,hr,e⟩)
  ·obtain ⟨r,hr,rfl⟩:=List.mem_map.mp hd
   exact h2 (List.mem_map.mpr ⟨r,hr,e⟩)
 ·obtain ⟨r,hr,rfl⟩:=List.mem_map.mp hd
  cases hF
theorem Wd:∀ z∈Kq,z ≠ "num" /\ z ≠ "word" := by decide +kernel
theorem VV (c:CA){ds:List D}{W:T}(hp:xb [(false,W)]=.ok (true,.lst (ds.map D.t)))(ok:∀ d∈ds,d.ok)(hA:aE ds)(hl:ds.length<=13){env:En}(h1:mV 1 env=.ok (false,W)):Uk c env=.ok (false,kX c ds):=by
 rw [<- (show km c.Face (jw c) (z3 (mV 0) z5) [some (true,.lst (ds.map D.t))]=.ok (false,kX c ds) from Gb c ok hA hl (W5 ok hl) (b:=true) (i:=0) rfl)];have e1:z3 (za xb (z3 (mV 1) z5)) z5 env=.ok [(true,.lst (ds.map D.t))]:=vC (vF (vC h1 rfl) hp) rfl;have e2:z3 (mV 0) z5 [some (true,.lst (ds.map D.t))]=.ok [(false,.lst (ds.map D.t))]:=rfl;unfold Uk km;rw [e1,e2,bind_ok,bind_ok]
 rfl
theorem aQ {it:JG}{k:Int}{env:En}{W:T}{ks:List Key}{us:List T}{zs:List Str}(hi:it env=.ok (sT zs))(h1:env[1]? = some (some (false,W)))(hw:zo W (.int k)=some (false,.dct ks us))(hl:ks.length=us.length)(hz:zs.length < 900):jf it (cO k) (mV 0) [1] env=.ok (true,.lst (sT (zs.filter λz => !pB ks (Sum.inr z)))):=by
 have hk:qB env [1]=[some (false,W)]:=by
  show [(env[1]?).getD none]=_;rw [h1]
  rfl
 unfold jf;rw [hi,bind_ok,if_pos (by rw [gM];have:=big;omega),hk,aO W k ks us hw hl]
theorem VW (ns:List Int)(a b:Option Int):∃ cs:List Int,Yz (.lst (ns.map T.int)) a b=some (true,.lst (cs.map T.int)):=by
 refine ⟨(ns.drop (HT.sIx ns.length 0 a)).take (HT.sIx ns.length ns.length b - HT.sIx ns.length 0 a),?_⟩;show some (true,T.lst (gi (ns.map T.int) a b))=_;unfold gi;rw [List.length_map,<- List.map_drop,<- List.map_take]
theorem We {c:CA}(ns:List Int)(hns:ns.length<=63):Kj c [(false,.lst (ns.map T.int))]=.ok (false,.bl true):=by
 refine zT (n:=9) (k:=1) (mb:=Xy c) rfl ?_;rw [Wb];show ze _ _ [some (false,.lst (ns.map T.int)),none,none,none,none,none,none,none,none]=_;obtain ⟨ts,R,C,F,m,h,o,hl,hm,of,hw⟩:=W3 (ns.getD 0 0);have hc:jq [(false,.lst (ns.map T.int)),(false,.int 0)]=.ok (false,.int (ns.getD 0 0)):=Vt ns 0
 have hF:F.length<=3:=by
  have:=congrArg List.length of.names;rw [List.length_map,List.length_take] at this;have:W2.length=3:=rfl;omega
 have hp:=Jw o hl of hF;have ok:=Nn h o of;have hA:=VS o of
 have hL:(Wl R C F).length<=13:=by
  unfold Wl;rw [List.length_append,List.length_append,List.length_map,List.length_map,List.length_map];omega
 have w0:zo (Jv ts R C F) (.int 0)=some (false,.lst (sT ts)):=jB _ 0;have w1:zo (Jv ts R C F) (.int 1)=some (false,.dct (oX R) (R.map qM.v)):=jB _ 1;have w2:zo (Jv ts R C F) (.int 2)=some (false,.dct (cT C) (C.map qN.v)):=jB _ 2;have l1:(oX R).length=(R.map qM.v).length:=by unfold oX;rw [List.length_map,List.length_map]
 have l2:(cT C).length=(C.map qN.v).length:=by unfold cT;rw [List.length_map,List.length_map]
 have hf:=λ{env:En} (h1:mV 1 env=.ok (false,Jv ts R C F))=>VV c hp ok hA hL h1;have hk:∀ z,pB (oX R) (Sum.inr z)=false->pB (cT C) (Sum.inr z)=false->Sum.inr z∉db (Wl R C F) false:=λz h1 h2=>Gk (Wa h1) (Wa h2);generalize Jv ts R C F=W at *;generalize Wl R C F=ds at *;generalize R.map qM.v=ru at *;generalize C.map qN.v=cu at *;refine (zf (zj (vF (vC (vF (vC rfl (vC rfl rfl)) hc) rfl) hw))).trans ?_;refine (zf (a:=zn 2 (Uk c)) (e':=[some (false,.lst (ns.map T.int)),some (false,W),some (false,kX c ds),none,none,none,none,none,none]) (zj (hf rfl))).trans ?_
 have hb:xQ Nq (zZ [some (false,.lst (ns.map T.int)),some (false,W),some (false,kX c ds),none,none,none,none,none,none])=.ok (sT (ts ++ Kq)):=by
  have ha:zr (.lst (sT ts)) (.lst (sT Kq))=some (true,.lst (sT (ts ++ Kq))):=by
   rw [show sT (ts ++ Kq)=sT ts ++ sT Kq from List.map_append ..];exact oT (by rw [gM,gM,h.len];decide)
  unfold xQ;rw [show Nq _=_ from v2 (v2 rfl rfl w0) (vL (vC rfl (vC rfl (vC rfl (vC rfl rfl)))) rfl rfl) ha]
  rfl
 have n0:(ts ++ Kq).length=9:=by
  rw [List.length_append,h.len]
  rfl
 have c1:=aQ (k:=1) hb rfl w1 l1 (by omega);refine (zf (zj c1)).trans ?_;generalize hZ:(ts ++ Kq).filter (λz => !pB (oX R) (Sum.inr z))=Z1;have z1:Z1.length<=9:=by rw [<- hZ,<- n0];exact List.length_filter_le _ _
 have c2:jf (xQ (mV 3)) (cO 2) (mV 0) [1] [some (false,.lst (ns.map T.int)),some (false,W),some (false,kX c ds),some (true,.lst (sT Z1)),none,none,none,none,none]=.ok (true,.lst (sT (Z1.filter λz => !pB (cT C) (Sum.inr z)))):=aQ (k:=2) (zs:=Z1) rfl rfl w2 l2 (by omega);have nz:=G1 (Z1.filter λz => !pB (cT C) (Sum.inr z));refine (zf (XI c2 (.inl rfl) (ao nz.1 nz.2.1 nz.2.2))).trans ?_
 have hz:∀ z∈Z1.filter (λz => !pB (cT C) (Sum.inr z)),z ≠ "num" /\ z ≠ "word" /\ Sum.inr z∉db ds false:=λz hz=>by
  obtain ⟨hz,g2⟩:=List.mem_filter.mp hz;rw [<- hZ] at hz;obtain ⟨hz,g1⟩:=List.mem_filter.mp hz;have q:=hk z (by simpa using g1) (by simpa using g2)
  rcases List.mem_append.mp hz with hz | hz
  ·exact ⟨(h.told z hz).1,(h.told z hz).2,q⟩
  ·exact ⟨(Wd z hz).1,(Wd z hz).2,q⟩
 generalize Z1.filter (λz => !pB (cT C) (Sum.inr z))=zs at hz;obtain ⟨cs,hcs⟩:=VW ns (some 1) (some 17);obtain ⟨b',e4,e5,e6,e7,e8,hLo⟩:=aP c (.lst (ns.map T.int)) W ds zs hz cs true none none none none none;refine (zf (VA (vS rfl rfl rfl hcs) hLo)).trans (zA rfl)
theorem walk {l:W.OpenLaw}{q:Program}{loose:List Str}{XP:(Str->Option Value)->Heap->Prop}{YP:World->Heap->Prop}{d:DefRec}{K:Params->W.Frag}(hn:l.most=some 63)(hdf:d.params.defaults=[])(hdn:d.name = "law")
  (hY:∀ (w:World) (h:Heap),YP w h->(K w.params).In h) (hYT:∀ (w:World) (h:Heap),YP w h->h.get? tabP=some { cls:=.none,data:=.fields #[] }) {c₀:Addr} (hYC:∀ (w:World) (h:Heap),YP w h->W.CodeHd h c₀ tabP) (hYN:∀ w:World,W.noTabs (K w.params)=true) (F:∀ (w:World) (mg:Str->Option Value) (h:Heap),(K w.params).In h->h.Ns mainGlobals mg->∃ c,Txt l.prog w (K w.params) mg c) :
  W.WalkO q loose XP YP l.row.toRowW d [] (λf vs=>PySem.call f vs) :=
 Pg (x := "_law_script") (k:=11) (st:=d0) hn hdf hdn ⟨rfl,by decide,by decide⟩ hY hYT hYC hYN (λ_ _ _ _ _ _ _=>rfl) λw mg h KX G=>by
  obtain ⟨c,T⟩:=F w mg h KX G;exact ⟨T.yt,λf fd Fl base=>QG (QP T Fl) We⟩
end Law
open PySem PySem.W PyProof.Rows L3
namespace PySem.W.Fast
def tw14243898281114559961:=0
def tw4292142395248652266:=0
def tw12718017783577070965:=0
def tw6235853240580325035:=0
def tw6397183512390417954:=0
def tw16916508786769735279:=0
def tw10245215435193927385:=0
def tw14646044219952829988:=0
def tw1278993861590170672:=0
def tw15324351997918361048:=0
def tw13787097836073491252:=0
def tw14383951829675519797:=0
def tw13419198260317690588:=0
def tw3917750960143293318:=0
def tw5269611194760838803:=0
def tw9478688983257567575:=0
def tw9701341678351568823:=0
def tw3590183138131498823:=0
def tw1240386734422672631:=0
def tw10450003580809536033:=0
def tw11499833909697985537:=0
def tw14468440277224358485:=0
def tw14972723823010087320:=0
def tw17567681695435597774:=0
def tw6619712631495784169:=0
def tw10002546395250686133:=0
def tw5002548053980904671:=0
def tw3277324965776476800:=0
def tw18177912735100317205:=0
def tw6592561541265404433:=0
def tw9276501202735195360:=0
def tw14099555986078488008:=0
def tw2805598431875262248:=0
def tw7920285728034482293:=0
def tw7350877436575062356:=0
def tw12023182759331193905:=0
def tw160805977742086122:=0
def tw11874988213346938453:=0
def tw10766453138270871816:=0
def tw6510700786848160503:=0
def tw12456301653948322884:=0
def tw16518063727504805881:=0
def tw5267829070469896911:=0
def tw4210104256119064770:=0
def tw5131390870844168529:=0
def tw1264342818414066506:=0
def tw6111760266971088528:=0
def tw11110906011425577408:=0
def tw12453995595542073802:=0
def tw11119688671185246853:=0
def tw3945372205379404938:=0
def tw10179438708076067786:=0
def tw17025687948487276709:=0
def tw5805806977969235943:=0
def tw9744463283022942939:=0
def tw11452655050569128436:=0
def tw2918650509478599679:=0
def tw17754947948656723191:=0
def tw13646015766651857154:=0
def tw6073337719999010575:=0
def tw11740226592119832426:=0
def tw7235972975043212511:=0
def tw4870186693224861654:=0
def tw817067272860076655:=0
def tw16307460904495366113:=0
def tw8116669730992981558:=0
def tw9495252194289611975:=0
def tw8775504267586329863:=0
def tw6967687599694545151:=0
def tw6165233866811226968:=0
def tw15653947365991924884:=0
def tw15299031348958769345:=0
def tw12929396993391963516:=0
def tw1059329830682036842:=0
def tw1339306873329419231:=0
def tw13706458920097013252:=0
def tw6325643790026069228:=0
def tw12550654285586253410:=0
def tw10494292421470288063:=0
def tw7167411944041840867:=0
def tw5927203098166747881:=0
def tw11464693402479163047:=0
def tw2885656898847347387:=0
def tw16364121465524174715:=0
def tw4393673993474393522:=0
def tw7848423020389880846:=0
def tw14016319320515331102:=0
def tw1484790002412277631:=0
def tw6274825648505386311:=0
def tw16204877288495418921:=0
def tw2221898788725132627:=0
def tw6958884283719315854:=0
def tw16227214009082333693:=0
def tw6472648470750405038:=0
def tw16316697694117950355:=0
def tw16369780418935163796:=0
def tw13506733609226362953:=0
def tw12216037096514428931:=0
def tw4988613117733344979:=0
def tw10386567186440748433:=0
def tw7423698879201000935:=0
def tw9216165011794113321:=0
def tw1435479116743746730:=0
def tw12512198919807148290:=0
def tw16394834728964610022:=0
def tw6705470085974075357:=0
def tw7164439145261203405:=0
def tw5178113878855491281:=0
def tw2152232727393603798:=0
def tw16430491658952898970:=0
def tw18285335639434364195:=0
def tw10443546044553450826:=0
def tw4159158419365806476:=0
def tw13224170517741217574:=0
def tw13631557870545182530:=0
def tw8087752049560571920:=0
def tw16746994007503416382:=0
def tw9649222570039160455:=0
def tw8411063811722724126:=0
def tw6270342052262611235:=0
def tw15975181614166405012:=0
def tw8094122211105183508:=0
def tw2498944831108741480:=0
def tw8961915656180564419:=0
def tw17577887686355031095:=0
def tw10278911081883581522:=0
def tw16304701760881554128:=0
def tw16317467048353319154:=0
def tw8737433738891625663:=0
def tw9234955739889106228:=0
def tw17590391054447142731:=0
def tw4201475709306371898:=0
def tw9061697433085615546:=0
def tw5865932254858127144:=0
def tw6334218600590973055:=0
def tw12112134971610970617:=0
def tw18217755099737649257:=0
def tw11062919141592699185:=0
def tw10339305683079543071:=0
def tw2642183825895458169:=0
def tw16958486584559284150:=0
def tw8309058708389438500:=0
def tw17218427964226469383:=0
def tw13523326535909490348:=0
def tw13941813650623178004:=0
def tw10612573852984072698:=0
def tw13908983042579761531:=0
def tw654035932857656708:=0
def tw9508538229485426006:=0
def tw12530708547911558212:=0
end PySem.W.Fast
set_option maxRecDepth 100000 in
set_option maxHeartbeats 0 in
theorem PySem.Challenge.cw_facestead_k31_what_fits_plain_kinds_holds : PySem.Challenge.rw_facestead_k31_what_fits_plain_kinds.Holds := by
 w_on;o_law;k_head;(case hw=>w_witness2)
 k_fill
 refine Law.walk (l:=PySem.Challenge.rw_facestead_k31_what_fits_plain_kinds) rfl rfl rfl (λw h Y=>W.km_in_of Y) (λw h Y=>W.km_tabs_of Y L2.tabP (List.mem_singleton.mpr rfl)) (c₀:=443) (λw h Y=>W.codeHd_of_K (W.km_in_of Y) (by kernel_rfl)) (λw=>by kernel_rfl) ?F
 case F =>
  intro w mg h KX G;exact ⟨⟨0,0,_,_,_,_,_,L3.memoP _ w (L3.gOf Law.m_is_kind)⟩,⟨rfl,ll KX G,ll KX G,ll KX G,ll KX G,ll KX G,ll KX G,ll KX G,ll KX G,ll KX G,ll KX G,ll KX G,Kb KX G,Pn KX G,Kb KX G,Pl KX G,zD KX G,zD KX G,zD KX G,zD KX G,zD KX G,zD KX G,zD KX G,zD KX G,zD KX G,zD KX G,zD KX G,zD KX G,zD KX G,zD KX G,zD KX G,zD KX G,zD KX G,zD KX G,zD KX G,zD KX G,zD KX G,zD KX G,zD KX G,zD KX G,zD KX G,zD KX G,zD KX G,zD KX G,zD KX G,zD KX G,zD KX G,zD KX G,zD KX G,zD KX G,zD KX G,Xf KX G,lq,Xf KX G,lq,Xf KX G,lq,Xf KX G,lq,Xf KX G,lq,nZ,nZ,nZ,nZ,pX,pX,pX,pX,pX,fi,fi,fi,fi,fi,fi,fi,fi,fi,fi,base_of⟩⟩
