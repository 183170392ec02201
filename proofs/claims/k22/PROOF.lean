import PyProof.Rows.All
import Wide.All
import OpenK.AllK
import Wide.FinOn
import PyProof.EqAt
import PyProof.EqKinds
import PyProof.TupleCall
import KE.LcSums
import KE.KSortTup
import PyProof.NeKinds
import PyProof.Rows.SetFrom
import PyProof.WalksEnum
import KE.KLam
import KE.KRevSl
import KE.KDictList
import PyProof.StrLawsTight
import PyProof.Conv_int_bool
import PyProof.DictItems
import KE.KPairComp
import KE.KItemsList
import PyProof.TupleOfSeq
import PyProof.Rows.Range3
import KE.KDictOf
import Lean
import KE.KTryMore
import PyProof.ExcArgsOwn
import PyProof.ExcBaseAll.ValueError
import PyProof.ExcClass2
import PyProof.ExcInit
import PyProof.InstStore
import PyProof.Rows.StrJoinMade
import PyProof.RulesDel
import PyProof.RulesTry
import PyProof.StationsW
import PyProof.ZipIter
import PyProof.AttrMissHeap
import PySem.Challenge.RW_facestead_k22_calls_bound
set_option compiler.extract_closed false
set_option hygiene false
local macro_rules|`(↑a)=>`(model X.prog X.w)|`(↑b)=>`(λz=>by rw[z]at nb;exact nb rfl)|`(↑c)=>`(by omega)|`(↑d)=>`(model prog w)|`(↑e)=>`(zn X scope cl C (x::caps) ex pn s₀ H₀)|`(↑f)=>`(by decide)|`(↑g)=>`(vf rfl)|`(↑h)=>`(Nat.le_refl _)|`(↑i)=>`(Str×Str×Bool)|`(↑j)=>`(Addr×Obj)|`(↑k)=>`(zn X scope cl C (xs++caps) ex pn s₀ H₀)|`(↑l)=>`((false,.bl true))|`(↑m)=>`(mC (.int 1))|`(↑n)=>`(zO (zO H1 (h1.objs.size+1) (.ext (lP (h1.objs.size+1) C h1.objs.size))) (h1.objs.size+1) (.ext (gV (h1.objs.size+1) C h1.objs.size d)))|`(↑o)=>`(mC (.int 0))|`(↑p)=>`(λ_ _ _ _ _ _=>xW λ_ _=>rfl)|`(↑q)=>`(.ListComp elt [⟨.Name x px,iter,ifs,0⟩] scope pos)|`(↑r)=>`(by rfl)|`(↑s)=>`(Str×Int)|`(↑t)=>`(("__debug__":Str))|`(↑u)=>`(.ListComp elt [⟨tg,iter,ifs,0⟩] scope pos)|`(↑v)=>`(by rw[z];rfl)|`(↑w)=>`(s.heap.objs.size+1)|`(↑x)=>`((false,eval e X.env))|`(↑y)=>`((true,.lst (sT (zR bs))))|`(↑z)=>`(.int (i:Int))|`(↑A)=>`(.ref s.heap.objs.size)|`(↑B)=>`(zn X scope cl C N ex pn s₀ H₀)|`(↑C)=>`(excClassObj nm q C N bs bm hdct sn sub ab col dd k0 k1 k2 k3 k5 newId)|`(↑D)=>`(by simp)|`(↑E)=>`(mV 0)|`(↑F)=>`(((sIx items.size 0 lo:Nat):Int)==0&&(1:Int)==1&&(sIx items.size items.size hi-sIx items.size 0 lo)==items.size)|`(↑G)=>`(zn X scope cl C (x::caps) fp (X.pn++pins) s3 H3)|`(↑H)=>`(.builtin "object.__class__")|`(↑I)=>`(mC (.int 2))|`(↑J)=>`(Nat.ne_of_lt (Nat.lt_of_lt_of_le (Heap.lt_size e) I.ok.above))|`(↑K)=>`(by decide+kernel)|`(↑L)=>`((true,.dct (pl.map λp=>Sum.inr p.1) (pl.map λp=>.str p.2.1)))|`(↑M)=>`(vC ↑g rfl)|`(↑N)=>`(List.mem_append_right _ (List.mem_append_right _ (xl hb e)))
local macro_rules|`(↑O)=>`(zn X scope cl C (xs++caps) fp (X.pn++pins) s3 H3)|`(↑P)=>`(ps.map zZ)|`(↑Q)=>`(.ref C)|`(↑R)=>`(.Call (.Name x p) (e::es) [] pos)|`(↑S)=>`(wpAny_pure ⟨_,rfl,wpAny_pure h⟩)|`(↑T)=>`((false,.bl false))|`(↑U)=>`(mV 1)|`(↑V)=>`((false,t))|`(↑W)=>`(λa=>H a=none)|`(↑X)=>`(wpAny_standAt (ft hbase hh (wpAny_bind (wpAny_mono h (λv s₁ h₁=>wpAny_bind (wpAny_standAt (wpAny_pure h₁))) λ_ _ x=>x))))|`(↑Y)=>`(by intro xs z;cases z)|`(↑Z)=>`(bE k pl bk fs xs ps cs ks [fv (.lst B),some (true,N),fv (.str n),fv (.int x),some (true,.lst (sT (qO pl n))),none,none,none])|`(↑aa)=>`(λ_ _ _ _ _ _=>qK λ_=>rfl)|`(↑ab)=>`(λ_ _ _ _ _ _=>je)|`(↑ac)=>`((false,.lst (sT ks)))|`(↑ad)=>`(by rw[List.length_map];omega)|`(↑ae)=>`((zW I g).symm.trans (zW I h))|`(↑af)=>`(zJ (mC (.bl false)))|`(↑ag)=>`(starEach es X.env)|`(↑ah)=>`(notedBy (model P w) A env λe z=>Z (.error e) z)
set_option hygiene true
set_option Elab.async false
set_option bootstrap.genMatcherCode false
noncomputable section
set_option linter.all false
set_option maxRecDepth 100000
namespace L2
open PySem PySem.Spec PyProof.Rows
abbrev Key:=Sum Int Str
def ig:Key->Value->Bool|.inl k,v=>Value.isInt k v|.inr x,v=>Value.isStrOf x v
def WC(w:World):Key->Int|.inl k=>hashInt k|.inr x=>hashStr w x
theorem jD:∀{k:Key}{v:Value},ig k v=true->(∃i t,k=Sum.inl i/\v=Value.int i t)\/(∃x t,k=Sum.inr x/\v=Value.str x t)|.inl i,v,h=>by obtain⟨t,e⟩:=Value.isInt_shape (k:=i) (v:=v) h;exact .inl ⟨i,t,rfl,e⟩|.inr x,v,h=>by obtain⟨t,e⟩:=Value.isStrOf_shape (x:=x) (v:=v) h;exact .inr ⟨x,t,rfl,e⟩
theorem Zv(i:Int)(t:Tok):ig (.inl i) (.int i t)=true:=by simp[ig,Value.isInt]
theorem Zw(x:Str)(t:Tok):ig (.inr x) (.str x t)=true:=by simp[ig,Value.isStrOf]
theorem QC(a b:Int):decide ((Sum.inl a:Key)=Sum.inl b)=(a==b):=by
 by_cases e:a=b;·subst e;simp
 ·have h:¬(Sum.inl a:Key)=Sum.inl b:=λq=>e (Sum.inl.inj q);rw[decide_eq_false h];exact(beq_eq_false_iff_ne.mpr e).symm
theorem QD(a b:Str):decide ((Sum.inr a:Key)=Sum.inr b)=decide (a=b):=by
 by_cases e:a=b;·subst e;simp
 ·have h:¬(Sum.inr a:Key)=Sum.inr b:=λq=>e (Sum.inr.inj q);rw[decide_eq_false h,decide_eq_false e]
theorem QE(a:Int)(b:Str):decide ((Sum.inl a:Key)=Sum.inr b)=false:=decide_eq_false (λq=>nomatch q)
theorem QF(a:Str)(b:Int):decide ((Sum.inr a:Key)=Sum.inl b)=false:=decide_eq_false (λq=>nomatch q)
def zU(prog:Program)(w:World):PySem.KeyKind prog w Key where
 is:=ig;hash:=WC w;inj:=λv a b ha hb=>by
  rcases jD ha with⟨i,t,rfl,rfl⟩|⟨x,t,rfl,rfl⟩
  ·rcases jD hb with⟨j,u,rfl,e⟩|⟨y,u,rfl,e⟩;·injection e with e1 _;rw[e1]
   ·exact nomatch e
  ·rcases jD hb with⟨j,u,rfl,e⟩|⟨y,u,rfl,e⟩;·exact nomatch e
   ·injection e with e1 _;rw[e1]
 byValue:=λk v h=>by rcases jD h with⟨i,t,rfl,rfl⟩|⟨x,t,rfl,rfl⟩<;>rfl
 pyHash:=λhv h=>by
  rcases jD hv with⟨i,t,rfl,rfl⟩|⟨x,t,rfl,rfl⟩;·exact wpAny_pyHash_int h
  ·exact wpAny_pyHash_str h
 eqBool:=λhu hv h=>by
  rcases jD hu with⟨i,t,rfl,rfl⟩|⟨x,t,rfl,rfl⟩
  ·rcases jD hv with⟨j,u,rfl,rfl⟩|⟨y,u,rfl,rfl⟩;·rw[QC]at h;exact wpAny_eqBool_int h
   ·rw[QE]at h;exact SeqAt.EqAt.int_str i t y u _ _ _ _ h
  ·rcases jD hv with⟨j,u,rfl,rfl⟩|⟨y,u,rfl,rfl⟩;·rw[QF]at h;exact SeqAt.EqAt.str_int x t j u _ _ _ _ h
   ·rw[QD]at h;exact wpAny_eqBool_str h
 «strs»:=λk x t v h=>by
  rcases jD h with⟨i,u,rfl,e⟩|⟨y,u,rfl,e⟩;·exact nomatch e
  ·injection e with e1 _;subst e1;cases v<;>rfl
theorem cx(prog:Program)(w:World)(i:Int)(t:Tok):(zU prog w).is (.inl i) (.int i t)=true:=Zv i t
theorem ky(prog:Program)(w:World)(x:Str)(t:Tok):(zU prog w).is (.inr x) (.str x t)=true:=Zw x t
inductive V where|non|bl(b:Bool)|int(i:Int)|str(x:Str)|byt(b:Array UInt8)|flt(b:UInt64)|ref(a:Addr)|ty(n:String)deriving DecidableEq
def RelV:V->Value->Prop|.non,u=>u=Value.none|.bl b,u=>u=Value.bool b|.int i,u=>∃t,u=Value.int i t|.str x,u=>∃t,u=Value.str x t|.byt b,u=>∃t,u=Value.bytes b t|.flt b,u=>∃t,u=Value.float b t|.ref a,u=>u=Value.ref a|.ty n,u=>u=Value.type n
abbrev zE:List V->List Value->Prop:=Paired RelV
theorem zE.length{xs:List V}{us:List Value}(r:zE xs us):xs.length=us.length:=Paired.length r
theorem zE.get:∀{xs:List V}{us:List Value}{i:Nat}{x:V},zE xs us->xs[i]?=some x->∃u,us[i]?=some u/\RelV x u|_,_,_,_,.nil,e=>by simp at e|_,_,0,_,.cons r _,e=>by simp at e;subst e;exact⟨_,rfl,r⟩|_,_,i+1,x,.cons _ t,e=>by obtain⟨u,h1,h2⟩:=zE.get (i:=i) (x:=x) t (by simpa using e);exact⟨u,by simpa using h1,h2⟩
theorem zE.set{x:V}{u:Value}(r:RelV x u):∀{xs:List V}{us:List Value}(i:Nat),zE xs us->zE (xs.set i x) (us.set i u)|_,_,_,.nil=>.nil|_,_,0,.cons _ t=>.cons r t|_,_,i+1,.cons q t=>.cons q (zE.set r i t)
theorem zE.append:∀{xs ys:List V}{us ws:List Value},zE xs us->zE ys ws->zE (xs++ys) (us++ws)|_,_,_,_,.nil,s=>s|_,_,_,_,.cons r t,s=>.cons r (zE.append t s)
theorem zE.take:∀{xs:List V}{us:List Value}(n:Nat),zE xs us->zE (xs.take n) (us.take n)|_,_,0,_=>.nil|_,_,_+1,.nil=>.nil|_,_,n+1,.cons r t=>.cons r (zE.take n t)
theorem zE.drop:∀{xs:List V}{us:List Value}(n:Nat),zE xs us->zE (xs.drop n) (us.drop n)|_,_,0,r=>r|_,_,_+1,.nil=>.nil|_,_,n+1,.cons _ t=>zE.drop n t
def kX:Option V->Option Value->Prop|some v,some u=>RelV v u|none,none=>True|_,_=>False
def KV{κ:Type}:List (κ×V)->List (κ×Value)->Prop:=Paired λ(p:κ×V)(q:κ×Value)=>p.1=q.1/\RelV p.2 q.2
def kV:Key->V|.inl i=>.int i|.inr x=>.str x
inductive HO where|lst(xs:List V)|tup(xs:List V)|dK(kvs:List (Key×V))|dT(kvs:List (List Key×V))|set(S:Int->Bool)(n:Nat)|ins(C dx:Addr)(fs:List (Str×V))|own(x:Addr)|xd(fs:List (Str×V))|met(f x:Addr)|rng(lo hi:Int)|frz(o:Obj)(u:HO)|tbl(ps:Array Value)|tab(q:Str)|xob(C d:Addr)|ext(φ:Heap->Prop)
abbrev Hp:=Addr->Option HO
def HO.isTab:HO->Bool|.tab _=>true|_=>false
def Ur:Str:="Face.pieces.<locals>.<lambda>"
def tabP:Addr:=526
def aO:HO:=.frz {cls:=.none,data:=.plain} (.tab Ur)
def zO(H:Hp)(a:Addr)(o:HO):Hp:=λb=>if b=a then some o else H b
theorem zm{H:Hp}{a:Addr}{o:HO}:zO H a o a=some o:=by unfold zO;rw[if_pos rfl]
theorem zf{H:Hp}{a b:Addr}{o:HO}(h:b≠a):zO H a o b=H b:=by unfold zO;rw[if_neg h]
theorem nR{H:Hp}{a b:Addr}{o u:HO}(h:H a=some o)(h':H b=some u)(d:o≠u):a≠b:=by intro e;subst e;rw[h]at h';exact d (Option.some.inj h')
theorem zK{H:Hp}{a b:Addr}{o:HO}(h:H a=some o)(h':H b=none):a≠b:=by intro e;subst e;rw[h]at h';cases h'
section
variable(P:Program)(w:World)
def jg(H:Hp)(h:Heap)(a:Addr):HO->Prop|.lst xs=>xs.length<=sizeLine/\∃(its:List Value)(n:Nat),zE xs its/\h.get? a=some {cls:=.type "list",data:=.seq its.toArray n}|.tup xs=>xs.length<=sizeLine/\∃its:List Value,zE xs its/\IsTup h a its.toArray|.dK kvs=>kvs.length<=sizeLine/\(a==sysModules)=false/\∃vs,KV kvs vs/\h.DictOf (zU P w) a vs|.dT kvs=>kvs.length<=sizeLine/\(a==sysModules)=false/\∃xs:List (List Key×Addr×Value),Paired (λ(p:List Key×V)(q:List Key×Addr×Value)=>p.1=q.1/\H q.2.1=some (.tup (p.1.map kV))/\RelV p.2 q.2.2) kvs xs/\∃o es ep,h.get? a=some o/\o.ExactDict/\o.data=.dict es ep/\es.toList=xs.map (entryOfKey (tupleKind (zU P w)))/\(xs.map (·.1)).Nodup|.set S n=>h.SetOf (intKind P w) a S n|.ins C dx fs=>H dx=some (.own a)/\fs.length<=1000/\dx≠a/\h.get? a=some (W.instObj C dx)/\∃mA,h.Ns1 dx mA/\(∀f,kX (fs.lookup f) (mA f))/\PySem.Within mA (fs.map (·.1))|.own _=>∃o,h.get? a=some o|.xd fs=>∃mA,h.Ns1 a mA/\∀f,kX (fs.lookup f) (mA f)|.rng lo hi=>∃t u v,h.get? a=some {cls:=.type "range",data:=.fields #[.int lo t,.int hi u,.int 1 v]}|.frz o u=>(u.isTab=false->h.get? a=some o)/\jg H h a u|.tab q=>∃ps,h.get? a=some {cls:=.none,data:=.fields ps}/\TriplesOk ps.toList/\∀pos cv,codeAmong pos ps.toList=some cv->∃c o vs t,cv=.ref c/\H c=some (.own a)/\h.get? c=some o/\o.data=.fields vs/\vs[1]?=some (.str q t)|.tbl ps=>h.get? a=some {cls:=.none,data:=.fields ps}|.met f x=>h.get? a=some (W.methodObj (.ref f) (.ref x))|.xob C d=>∃oe vs,h.get? a=some oe/\oe.cls=.ref C/\oe.dict=some d/\oe.data=.fields vs/\1<vs.size|.ext φ=>φ h/\(∃o,h.get? a=some o)/\∀h1 h2:Heap,φ h1->(∀o,h1.get? a=some o->h2.get? a=some o)->φ h2
def gx(H:Hp)(h:Heap):Prop:=∀a o,H a=some o->jg P w H h a o
end
section
variable{P:Program}{w:World}{H H':Hp}{h h':Heap}{a:Addr}{o:HO}
theorem jg.lt(x:jg P w H h a o):a<h.objs.size:=by induction o with|lst xs=>obtain⟨_,_,_,_,e⟩:=x;exact Heap.lt_size e|tup xs=>obtain⟨_,_,_,p⟩:=x;exact p.lt|dK kvs=>obtain⟨_,_,_,_,o,_,_,e,_⟩:=x;exact Heap.lt_size e|dT kvs=>obtain⟨_,_,_,_,o,_,_,e,_⟩:=x;exact Heap.lt_size e|set S n=>obtain⟨o,_,_,_,e,_⟩:=x;exact Heap.lt_size e|ins C dx fs=>obtain⟨_,_,_,e,_⟩:=x;exact Heap.lt_size e|own y=>obtain⟨_,e⟩:=x;exact Heap.lt_size e|xd fs=>obtain⟨_,⟨_,_,_,e,_⟩,_⟩:=x;exact Heap.lt_size e|rng lo hi=>obtain⟨_,_,_,e⟩:=x;exact Heap.lt_size e|frz ob u ih=>exact ih x.2|tab q=>obtain⟨_,e,_⟩:=x;exact Heap.lt_size e|tbl ps=>exact Heap.lt_size (show h.get? a=some _ from x)|met f y=>exact Heap.lt_size (show h.get? a=some _ from x)|xob C d=>obtain⟨_,_,e,_⟩:=x;exact Heap.lt_size e|ext φ=>obtain⟨_,⟨_,e⟩,_⟩:=x;exact Heap.lt_size e
theorem Paired.mapP{α β:Type}{F G:α->β->Prop}:∀{l₁:List α}{l₂:List β},Paired F l₁ l₂->(∀a b,F a b->G a b)->Paired G l₁ l₂|_,_,.nil,_=>.nil|_,_,.cons r t,f=>.cons (f _ _ r) (Paired.mapP t f)
theorem jg.stay(x:jg P w H h a o)(k:∀b u,(b=a\/H b=some (.own a))->h.get? b=some u->h'.get? b=some u)(ho:∀b,H b=some (.own a)->H' b=some (.own a))(ht:∀b xs,H b=some (.tup xs)->H' b=some (.tup xs)):jg P w H' h' a o:=by induction o with|lst xs=>obtain⟨z,its,n,r,e⟩:=x;exact⟨z,its,n,r,k _ _ (.inl rfl) e⟩|tup xs=>obtain⟨z,its,r,ob,e,c⟩:=x;exact⟨z,its,r,ob,k _ _ (.inl rfl) e,c⟩|dK kvs=>obtain⟨z,y,vs,r,ob,es,ep,e,c⟩:=x;exact⟨z,y,vs,r,ob,es,ep,k _ _ (.inl rfl) e,c⟩|dT kvs=>obtain⟨z,y,xs,r,ob,es,ep,e,c⟩:=x;exact⟨z,y,xs,Paired.mapP r λp q z=>⟨z.1,ht _ _ z.2.1,z.2.2⟩,ob,es,ep,k _ _ (.inl rfl) e,c⟩|set S n=>obtain⟨ob,es,ep,t,e,c⟩:=x;exact⟨ob,es,ep,t,k _ _ (.inl rfl) e,c⟩|ins C dx fs=>obtain⟨d,z,ne,e,mA,⟨od,es,ep,e2,c⟩,r⟩:=x;exact⟨ho _ d,z,ne,k _ _ (.inl rfl) e,mA,⟨od,es,ep,k _ _ (.inr d) e2,c⟩,r⟩|own y=>obtain⟨ob,e⟩:=x;exact⟨ob,k _ _ (.inl rfl) e⟩|xd fs=>obtain⟨mA,⟨od,es,ep,e,c⟩,r⟩:=x;exact⟨mA,⟨od,es,ep,k _ _ (.inl rfl) e,c⟩,r⟩|rng lo hi=>obtain⟨t,u,v,e⟩:=x;exact⟨t,u,v,k _ _ (.inl rfl) e⟩|frz ob u ih=>obtain⟨e,q⟩:=x;exact⟨λz=>k _ _ (.inl rfl) (e z),ih q⟩|tab q=>obtain⟨ps,e,t,f⟩:=x;exact⟨ps,k _ _ (.inl rfl) e,t,λpos cv z=>let⟨c,o,vs,tt,h1,h2,h3,h4⟩:=f pos cv z;⟨c,o,vs,tt,h1,ho _ h2,k _ _ (.inr h2) h3,h4⟩⟩|tbl ps=>have e:h.get? a=some {cls:=.none,data:=.fields ps}:=x;show h'.get? a=some {cls:=.none,data:=.fields ps};exact k a _ (.inl rfl) e|met f y=>have e:h.get? a=some (W.methodObj (.ref f) (.ref y)):=x;show h'.get? a=some (W.methodObj (.ref f) (.ref y));exact k a _ (.inl rfl) e|xob C d=>obtain⟨oe,vs,e,c⟩:=x;exact⟨oe,vs,k _ _ (.inl rfl) e,c⟩|ext φ=>obtain⟨p,⟨o,e⟩,st⟩:=x;exact⟨st _ _ p λo q=>k _ _ (.inl rfl) q,⟨o,k _ _ (.inl rfl) e⟩,st⟩
theorem gx.lt(x:gx P w H h)(e:H a=some o):a<h.objs.size:=(x a o e).lt
theorem gx.fresh(x:gx P w H h)(e:h.objs.size<=a):H a=none:=by cases q:H a with|none=>rfl|some u=>exact absurd (Nat.lt_of_lt_of_le (x.lt q) e) (Nat.lt_irrefl _)
theorem gx.kept(x:gx P w H h)(k:∀b u,h.get? b=some u->h'.get? b=some u):gx P w H h':=λa o e=>(x a o e).stay (λb u _ q=>k b u q) (λ_ q=>q) λ_ _ q=>q
theorem gx.laid(x:gx P w H h)(k:∀b u,h.get? b=some u->h'.get? b=some u)(hp:h.objs.size<=a)(new:jg P w (zO H a o) h' a o):gx P w (zO H a o) h':=λb u e=>by
 have hn:=x.fresh hp;by_cases hb:b=a;·subst hb;rw[zm]at e;cases e;exact new
 ·rw[zf hb]at e;exact(x b u e).stay (λc v _ q=>k c v q) (λc q=>by rw[zf (zK q hn)];exact q) λc xs q=>by rw[zf (zK q hn)];exact q
end
def Rd(H:Hp)(a:Addr)(u:HO):Prop:=H a=some u\/∃o,H a=some (.frz o u)
theorem Rd.ok{P:Program}{w:World}{H:Hp}{h:Heap}{a:Addr}{u:HO}(r:Rd H a u)(x:gx P w H h):jg P w H h a u:=by
 rcases r with r|⟨o,r⟩;·exact x a u r
 ·obtain⟨_,q⟩:=x a _ r;exact q
def Us:Option HO->Prop|some (.lst _)=>True|some (.dK _)=>True|some (.dT _)=>True|some (.set _ _)=>True|some (.ins _ _ _)=>True|some (.ext _)=>True|_=>False
section
variable{P:Program}{w:World}{H:Hp}{h h':Heap}{x e:Addr}{o':HO}
theorem gx.write(ok:gx P w H h)(mu:Us (H x))(he:e=x\/H e=some (.own x))(k:∀b u,b≠e->h.get? b=some u->h'.get? b=some u)(heo:∃u,h'.get? e=some u)(new:jg P w (zO H x o') h' x o'):gx P w (zO H x o') h':=λb u q=>by
 have nown:∀c y,H c=some (.own y)->c≠x:=λc y r z=>by subst z;rw[r]at mu;exact mu
 have ntup:∀c xs,H c=some (.tup xs)->c≠x:=λc xs r z=>by subst z;rw[r]at mu;exact mu
 by_cases hb:b=x;·subst hb;rw[zm]at q;cases q;exact new
 ·rw[zf hb]at q;by_cases hbe:b=e
  ·have q':H b=some (.own x):=by
    rcases he with z|z;·exact absurd (hbe.trans z) hb
    ·rw[hbe];exact z
   rw[q]at q';cases q';obtain⟨v,hv⟩:=heo;exact⟨v,by rw[hbe];exact hv⟩
  ·refine(ok b u q).stay (λc v hc r=>k c v ?_ r) (λc r=>by rw[zf (nown c b r)];exact r) λc xs r=>by rw[zf (ntup c xs r)];exact r
   rcases hc with rfl|hc;·exact hbe
   ·rintro rfl;rcases he with z|z;·exact nown c b hc z
    ·rw[hc]at z;cases z;exact hb rfl
end
structure Un(fs ex:List Addr)(H H':Hp)(h h':Heap):Prop where
 keep:∀b o,h.get? b=some o->H b=none->b∉fs->b∉ex->h'.get? b=some o
 slot:∀b o,h.get? b=some o->H b=none->b∈fs->b∉ex->∃sl,h'.get? b=some {o with slots:=sl}free:∀b o,h.get? b=some o->H b=none->b∉ex->H' b=none
 there:∀b o,h.get? b=some o->b∉ex->∃o',h'.get? b=some o'
 tups:∀b xs,H b=some (.tup xs)->H' b=some (.tup xs)frzs:∀b o u,H b=some (.frz o u)->H' b=some (.frz o u)tbls:∀b ps,H b=some (.tbl ps)->∃more,H' b=some (.tbl (ps++more))
section
variable{fs fs' ex ex':List Addr}{H H1 H2:Hp}{h h1 h2 h':Heap}{a x e:Addr}{o:HO}
theorem Un.any(u:Un fs ex H H1 h h1){b:Addr}{ob:Obj}(q:h.get? b=some ob)(n:H b=none)(hx:b∉ex):∃sl,h1.get? b=some {ob with slots:=sl}:=by
 by_cases hb:b∈fs;·exact u.slot b ob q n hb hx
 ·exact⟨ob.slots,u.keep b ob q n hb hx⟩
theorem Un.kept(k:∀b u,h.get? b=some u->h'.get? b=some u):Un fs ex H H h h':=⟨λb ob q _ _ _=>k b ob q,λb ob q _ _ _=>⟨ob.slots,k b ob q⟩,λ_ _ _ n _=>n,λb ob q _=>⟨ob,k b ob q⟩,λ_ _ q=>q,λ_ _ _ q=>q,λ_ ps q=>⟨#[],by rw[q];simp⟩⟩
theorem Un.refl:Un fs ex H H h h:=Un.kept λ_ _ q=>q
theorem Un.laid(k:∀b u,h.get? b=some u->h'.get? b=some u)(hp:h.objs.size<=a)(hn:H a=none):Un fs ex H (zO H a o) h h' where
 keep:=λb u q _ _ _=>k b u q;slot:=λb u q _ _ _=>⟨u.slots,k b u q⟩;free:=λb u q n _=>by rw[zf (Nat.ne_of_lt (Nat.lt_of_lt_of_le (Heap.lt_size q) hp))];exact n
 there:=λb u q _=>⟨u,k b u q⟩;tups:=λb xs q=>by rw[zf (zK q hn)];exact q
 frzs:=λb u xs q=>by rw[zf (zK q hn)];exact q
 tbls:=λb ps q=>⟨#[],by rw[zf (zK q hn),q];simp⟩
theorem Un.write(mu:Us (H x))(he:e=x\/H e=some (.own x))(k:∀b u,b≠e->h.get? b=some u->h'.get? b=some u)(heo:∃u,h'.get? e=some u):Un fs ex H (zO H x o) h h':=by
 have hx:∀b,H b=none->b≠x:=λb n z=>by subst z;rw[n]at mu;exact mu
 have hb:∀b,H b=none->b≠e:=λb n z=>by
  subst z;rcases he with r|r;·exact hx b n r
  ·rw[n]at r;cases r
 have hm:∀b u,H b=some u->¬Us (some u)->b≠x:=λb u q nm z=>by subst z;rw[q]at mu;exact nm mu
 refine⟨λb u q n _ _=>k b u (hb b n) q,λb u q n _ _=>⟨u.slots,k b u (hb b n) q⟩,λb u q n _=>by rw[zf (hx b n)];exact n,λb u q _=>?_,λb xs q=>by rw[zf (hm b _ q λz=>z)];exact q,λb u xs q=>by rw[zf (hm b _ q λz=>z)];exact q,λb ps q=>⟨#[],by rw[zf (hm b _ q λz=>z),q];simp⟩⟩;by_cases hbe:b=e;·subst hbe;exact heo
 ·exact⟨u,k b u hbe q⟩
end
def Mg(h:Heap)(H:Hp):List Addr:=(List.range h.objs.size).filter λa=>(H a).isSome
def eE(h:Heap)(H:Hp):Heap:=W.hideAll h (Mg h H)
theorem Zx(h:Heap)(H:Hp):(eE h H).objs.size=h.objs.size:=W.hideAll_size _ _
theorem JJ{h:Heap}{H:Hp}{b:Addr}{o:Obj}(e:h.get? b=some o)(n:H b=none):(eE h H).get? b=some o:=W.hideAll_get _ e λhm=>by have q:(H b).isSome=true:=(List.mem_filter.mp hm).2;rw[n]at q;simp at q
theorem WD{h:Heap}{H:Hp}{b:Addr}{o:Obj}(e:(eE h H).get? b=some o):h.get? b=some o/\H b=none:=by have e':h.get? b=some o:=W.of_hideAll (Mg h H) e;refine⟨e',?_⟩;cases q:H b with|none=>rfl|some x=>have hm:b∈Mg h H:=List.mem_filter.mpr ⟨List.mem_range.mpr (Heap.lt_size e'),by simp[q]⟩;have z:(eE h H).get? b=none:=W.hideAll_none (Mg h H) hm;rw[z]at e;cases e
def WE(g h:Heap)(L:Addr):List ↑j:=(List.range h.objs.size).filterMap λa=>if a=L\/(g.get? a).isSome=true then none else(h.get? a).map λo=>(a,o)
def rest(g h:Heap)(L d:Addr):List ↑j:=(WE g h L).filter λp=>decide (p.1≠d)
structure Mod(K:W.Frag)(mg:Str->Option Value)(base:Heap):Prop where
 kin:K.In base
 glob:base.Ns mainGlobals mg
 blt:∃mb,base.Ns builtinsNs mb/\∀x:Str,x≠"__name__"->mb x=bootBuiltins x
 nolimit:base.NoLimit
 bmain:∃bm ob,mg "__builtins__"=some (.ref bm)/\bm≠builtinsNs/\base.get? bm=some ob/\ob.cls=.type "module"/\ob.dict=some builtinsNs/\ob.data=.plain
structure Cx where
 prog:Program
 w:World
 K:W.Frag
 mg:Str->Option Value
 base:Heap
 A:Around
 N:List Str
 s₀:Shared
 H₀:Hp
 env:Env
 outer:List Env
 stack:List Env
 ex:List Addr
 fn:Str->Bool
 calm:Bool
 pn:List (Addr×Obj)xe:Value->Shared->Prop
def nH(l:List Env):List Addr:=l.filterMap (·.frame)
abbrev Cx.fs(X:Cx):List Addr:=nH X.outer
def aK(sc:Scope)(x:Str):Prop:=sc.names.lookup x=some .local\/sc.names.lookup x=some .cell\/sc.names.lookup x=some .free
def ii(sc:Scope)(x:Str):Prop:=sc.names.lookup x=some .local\/sc.names.lookup x=some .cell
def MK(env:Env)(h:Heap)(m:Str->Option Value)(x:Str)(u:Value):Prop:=(env.kindOf x=some .local/\m x=some u)\/((env.kindOf x=some .cell\/env.kindOf x=some .free)/\∃c,env.cells.lookup x=some c/\h.IsCell c (some u))
structure Cx.Ok(X:Cx):Prop where
 mod:Mod X.K X.mg X.base
 kind:X.env.scope.kind=.function
 glob:X.env.globals=mainGlobals
 blt:X.env.builtins=builtinsNs
 above:X.s₀.heap.objs.size<=X.env.locals
 inj:∀x y c,X.env.cells.lookup x=some c->X.env.cells.lookup y=some c->x=y
 has:∀x,(X.env.kindOf x=some .cell\/X.env.kindOf x=some .free)->∃c,X.env.cells.lookup x=some c
 cab:∀x c,X.fn x=true->X.env.cells.lookup x=some c->X.s₀.heap.objs.size<=c
 hd:X.calm=true->X.A.handled=none
 frames:X.A.frames=some X.stack
 stk:X.stack=X.outer\/(X.stack=X.env::X.outer/\X.env.frame=some X.env.locals)exf:∀b∈X.ex,b≠X.env.locals/\∀x c,X.env.cells.lookup x=some c->c≠b
 bs:∀b o,X.base.get? b=some o->X.s₀.heap.get? b=some o/\X.H₀ b=none
 bsz:X.base.objs.size<=X.s₀.heap.objs.size
 noex:∀b o,X.base.get? b=some o->b∉X.ex
 exfs:∀b∈X.ex,b∉X.fs
 funs:X.s₀.heap.FunFrames X.base X.outer
 frf:∀b∈X.fs,X.H₀ b=none
 tab:X.H₀ tabP=some aO
structure zo(X:Cx)(pins:List ↑j)(σ:List (Option V))(H:Hp)(s:Shared):Prop where
 ok:X.Ok
 os:s.os=X.s₀.os
 bare:AllBare s.gens
 base:Un X.fs X.ex X.H₀ H X.s₀.heap s.heap
 loc:∃m,s.heap.Ns X.env.locals m/\∀(i:Nat)(x:Str)(v:V),X.N[i]?=some x->σ[i]?=some (some v)->aK X.env.scope x->∃u,RelV v u/\MK X.env s.heap m x u
 cell:∀x c,X.env.cells.lookup x=some c->∃v,s.heap.IsCell c v
 free:H X.env.locals=none
 freeC:∀x c,X.env.cells.lookup x=some c->H c=none
 pin:∀p∈X.pn++pins,s.heap.get? p.1=some p.2/\H p.1=none/\p.1≠X.env.locals/\p.1∉X.fs/\∀v,p.2.data≠.cell v
 hok:gx X.prog X.w H s.heap
 len:σ.length=X.N.length
section
variable{X:Cx}{pins:List ↑j}{σ:List (Option V)}{H H':Hp}{s:Shared}{h':Heap}
theorem Cx.Ok.nofr(ok:X.Ok){b:Addr}{o:Obj}(e:X.base.get? b=some o):b∉X.fs:=λhb=>by have:=(ok.funs.mem hb).1;rw[e]at this;cases this
theorem zo.bs(I:zo X pins σ H s):∀b o,X.base.get? b=some o->s.heap.get? b=some o/\H b=none:=λb o e=>⟨I.base.keep b o (I.ok.bs b o e).1 (I.ok.bs b o e).2 (I.ok.nofr e) (I.ok.noex b o e),I.base.free b o (I.ok.bs b o e).1 (I.ok.bs b o e).2 (I.ok.noex b o e)⟩
theorem zo.tab(I:zo X pins σ H s):H tabP=some aO:=I.base.frzs _ _ _ I.ok.tab
theorem zo.bk(I:zo X pins σ H s):∀b o,X.base.get? b=some o->s.heap.get? b=some o:=λb o e=>(I.bs b o e).1
theorem zo.mod(I:zo X pins σ H s):Mod X.K X.mg X.base:=I.ok.mod
theorem zo.kIn(I:zo X pins σ H s):X.K.In s.heap:=I.ok.mod.kin.keeps I.bk
theorem zo.lt(I:zo X pins σ H s):X.env.locals<s.heap.objs.size:=let⟨_,hn,_⟩:=I.loc;hn.lt
theorem zo.sz(I:zo X pins σ H s):X.s₀.heap.objs.size<=s.heap.objs.size:=Nat.le_trans I.ok.above (Nat.le_of_lt I.lt)
theorem zo.nofs(I:zo X pins σ H s){a:Addr}(h:s.heap.objs.size<=a):a∉X.fs:=λhb=>by obtain⟨_,o,ho,_⟩:=I.ok.funs.mem hb;exact absurd (Nat.lt_of_lt_of_le (Heap.lt_size ho) (Nat.le_trans I.sz h)) (Nat.lt_irrefl _)
theorem zo.cne(I:zo X pins σ H s):∀x c,X.env.cells.lookup x=some c->c≠X.env.locals:=λx c e z=>by obtain⟨v,o,ho,hd⟩:=I.cell x c e;obtain⟨m,⟨o',es,ep,ho',hd',_⟩,_⟩:=I.loc;rw[z,ho']at ho;cases ho;rw[hd']at hd;cases hd
theorem zo.funs(I:zo X pins σ H s):s.heap.FunFrames X.base X.outer:=by
 have all:∀(l:List Env),(∀b∈nH l,b∈X.fs)->X.s₀.heap.FunFrames X.base l->s.heap.FunFrames X.base l:=by intro l;induction l with|nil=>intro _ _;trivial|cons env r ih=>intro hs hl;obtain⟨hk,⟨L,o,hf,hn,ho,hd⟩,hr⟩:=hl;have hL:L∈X.fs:=hs L (by unfold nH;rw[List.filterMap_cons,hf];exact List.mem_cons_self);obtain⟨sl,e⟩:=I.base.slot L o ho (I.ok.frf L hL) hL λz=>I.ok.exfs L z hL;exact⟨hk,⟨L,_,hf,hn,e,hd⟩,ih (λb hb=>hs b (by unfold nH;rw[List.filterMap_cons,hf];exact List.mem_cons_of_mem _ hb)) hr⟩
 exact all X.outer (λ_ hb=>hb) I.ok.funs
theorem zo.stack(I:zo X pins σ H s):s.heap.FunFrames X.base X.stack:=by
 rcases I.ok.stk with e|⟨e,hf⟩;·rw[e];exact I.funs
 ·rw[e];obtain⟨m,hn,_⟩:=I.loc;refine .cons (by rw[I.ok.kind];decide) hf hn ?_ I.funs;exact Heap.get?_none_of_le (Nat.le_trans I.ok.bsz I.ok.above)
theorem zo.stkSub(I:zo X pins σ H s):∀b∈nH X.stack,b∈X.env.locals::X.fs:=λb hb=>by
 rcases I.ok.stk with e|⟨e,hf⟩;·rw[e]at hb;exact List.mem_cons_of_mem _ hb
 ·rw[e]at hb;unfold nH at hb;rw[List.filterMap_cons,hf]at hb;exact hb
theorem zo.stkFree(I:zo X pins σ H s):∀b∈nH X.stack,H b=none:=λb hb=>by
 rcases List.mem_cons.mp (I.stkSub b hb)with e|hb;·rw[e];exact I.free
 ·obtain⟨_,o,ho,_⟩:=I.ok.funs.mem hb;exact I.base.free b o ho (I.ok.frf b hb) λz=>I.ok.exfs b z hb
theorem zo.step{g':Array GenState}{t':Nat}{d':Drawn}{ch:List Addr}(I:zo X pins σ H s)(hch:∀b∈ch,(b∈X.ex\/X.s₀.heap.objs.size<=b)/\b≠X.env.locals/\(∀x c,X.env.cells.lookup x=some c->c≠b)/\∀p∈X.pn++pins,p.1≠b)(keep:∀b o,b≠X.env.locals->b∉X.fs->b∉ch->s.heap.get? b=some o->H b=none->h'.get? b=some o)(slot:∀b o,b≠X.env.locals->b∈X.fs->b∉ch->s.heap.get? b=some o->H b=none->∃sl,h'.get? b=some {o with slots:=sl})(free:∀b o,b∉ch->s.heap.get? b=some o->H b=none->H' b=none)(there:∀b o,b∉ch->s.heap.get? b=some o->∃o',h'.get? b=some o')(tups:∀b xs,H b=some (.tup xs)->H' b=some (.tup xs))(frzs:∀b o u,H b=some (.frz o u)->H' b=some (.frz o u))(tbls:∀b ps,H b=some (.tbl ps)->∃more,H' b=some (.tbl (ps++more)))(ns:∀m,s.heap.Ns X.env.locals m->h'.Ns X.env.locals m)(hok:gx X.prog X.w H' h')(hg:AllBare g'):zo X pins σ H' {s with heap:=h',gens:=g',drawn:=d',toks:=t'}:=by
 have neL:∀b o,X.s₀.heap.get? b=some o->b≠X.env.locals:=λb o e=>Nat.ne_of_lt (Nat.lt_of_lt_of_le (Heap.lt_size e) I.ok.above);have neC:∀b o,X.s₀.heap.get? b=some o->b∉X.ex->b∉ch:=λb o e hx hb=>by
  rcases(hch b hb).1 with z|z;·exact hx z
  ·exact absurd (Nat.lt_of_lt_of_le (Heap.lt_size e) z) (Nat.lt_irrefl _)
 have cellK:∀x c,X.env.cells.lookup x=some c->∀v,s.heap.IsCell c v->h'.IsCell c v:=λx c e v⟨o,ho,hd⟩=>by
  have nch:c∉ch:=λz=>(hch c z).2.2.1 x c e rfl;by_cases hc:c∈X.fs;·obtain⟨sl,q⟩:=slot c o (I.cne x c e) hc nch ho (I.freeC x c e);exact⟨_,q,hd⟩
  ·exact⟨o,keep c o (I.cne x c e) hc nch ho (I.freeC x c e),hd⟩
 refine⟨I.ok,I.os,hg,⟨λb o e n hb hx=>?_,λb o e n hb hx=>?_,λb o e n hx=>?_,λb o e hx=>?_,λb xs e=>tups b xs (I.base.tups b xs e),λb o xs e=>frzs b o xs (I.base.frzs b o xs e),λb ps e=>?_⟩,?_,λx c e=>?_,?_,λx c e=>?_,λp hp=>?_,hok,I.len⟩;·exact keep b o (neL b o e) hb (neC b o e hx) (I.base.keep b o e n hb hx) (I.base.free b o e n hx)
 ·obtain⟨sl,e1⟩:=I.base.slot b o e n hb hx;obtain⟨sl',e2⟩:=slot b _ (neL b o e) hb (neC b o e hx) e1 (I.base.free b o e n hx);exact⟨sl',e2⟩
 ·obtain⟨o',e1⟩:=I.base.there b o e hx;exact free b o' (neC b o e hx) e1 (I.base.free b o e n hx)
 ·obtain⟨o',e1⟩:=I.base.there b o e hx;exact there b o' (neC b o e hx) e1
 ·obtain⟨m1,e1⟩:=I.base.tbls b ps e;obtain⟨m2,e2⟩:=tbls b _ e1;exact⟨m1++m2,by rw[e2,Array.append_assoc]⟩
 ·obtain⟨m,hn,hl⟩:=I.loc;refine⟨m,ns m hn,λi x v e1 e2 e3=>?_⟩;obtain⟨u,r,l⟩:=hl i x v e1 e2 e3;refine⟨u,r,?_⟩;rcases l with l|⟨k,c,e,z⟩;·exact .inl l
  ·exact .inr ⟨k,c,e,cellK x c e _ z⟩
 ·obtain⟨v,z⟩:=I.cell x c e;exact⟨v,cellK x c e v z⟩
 ·obtain⟨m,⟨o,_,_,ho,_⟩,_⟩:=I.loc;exact free _ o (λz=>(hch _ z).2.1 rfl) ho I.free
 ·obtain⟨v,o,ho,hd⟩:=I.cell x c e;exact free c o (λz=>(hch c z).2.2.1 x c e rfl) ho (I.freeC x c e)
 ·obtain⟨e,n,ne,nf,d⟩:=I.pin p hp;have nch:p.1∉ch:=λz=>(hch p.1 z).2.2.2 p hp rfl;exact⟨keep p.1 p.2 ne nf nch e n,free p.1 p.2 nch e n,ne,nf,d⟩
theorem zo.un{t':Nat}(I:zo X pins σ H s)(u:Un X.fs [] H H' s.heap h')(hok:gx X.prog X.w H' h'):zo X pins σ H' {s with heap:=h',toks:=t'}:=by obtain⟨m,⟨o,es,ep,ho,r⟩,_⟩:=id I.loc;obtain⟨sl,hL⟩:=u.any ho I.free ↑D;exact I.step (g':=s.gens) (d':=s.drawn) (ch:=[]) (λ_ z=>nomatch z) (λb o _ hb _ e n=>u.keep b o e n hb ↑D) (λb o _ hb _ e n=>u.slot b o e n hb ↑D) (λb o _ e n=>u.free b o e n ↑D) (λb o _ e=>u.there b o e ↑D) u.tups u.frzs u.tbls (λm' hm=>by obtain⟨o',es',ep',ho',r'⟩:=hm;rw[ho]at ho';cases ho';exact⟨_,es',ep',hL,r'⟩) hok I.bare
theorem zo.call{g':Array GenState}{t':Nat}{d':Drawn}{ch:List Addr}(I:zo X pins σ H s)(u:Un (nH X.stack) ch H H' s.heap h')(hok:gx X.prog X.w H' h')(hg:AllBare g')(hch:∀b∈ch,(b∈X.ex\/X.s₀.heap.objs.size<=b)/\b≠X.env.locals/\(∀x c,X.env.cells.lookup x=some c->c≠b)/\∀p∈X.pn++pins,p.1≠b):zo X pins σ H' {s with heap:=h',gens:=g',drawn:=d',toks:=t'}:=by obtain⟨m,⟨o,es,ep,ho,r⟩,_⟩:=id I.loc;obtain⟨sl,hL⟩:=u.any ho I.free λz=>(hch _ z).2.1 rfl;exact I.step (ch:=ch) hch (λb o hL hb hc e n=>u.keep b o e n (λz=>(List.mem_cons.mp (I.stkSub b z)).elim hL hb) hc) (λb o _ _ hc e n=>u.any e n hc) (λb o hc e n=>u.free b o e n hc) (λb o hc e=>u.there b o e hc) u.tups u.frzs u.tbls (λm' hm=>by obtain⟨o',es',ep',ho',r'⟩:=hm;rw[ho]at ho';cases ho';exact⟨_,es',ep',hL,r'⟩) hok hg
theorem zo.turned{t':Nat}{it:Addr}(I:zo X pins σ H s)(k:∀b o,b≠it->s.heap.get? b=some o->h'.get? b=some o)(hn:H it=none)(hL:it≠X.env.locals)(h1:it∈X.ex\/X.s₀.heap.objs.size<=it)(h2:∀x c,X.env.cells.lookup x=some c->c≠it)(h3:∀p∈X.pn++pins,p.1≠it):zo X pins σ H {s with heap:=h',toks:=t'}:=by
 have nit:∀b u,H b=some u->b≠it:=λb u e z=>by rw[z,hn]at e;cases e
 refine I.step (g':=s.gens) (d':=s.drawn) (ch:=[it]) (λb hb=>?_) (λb o _ _ hc e _=>k b o (λz=>hc (by simp[z])) e) (λb o _ _ hc e _=>⟨o.slots,k b o (λz=>hc (by simp[z])) e⟩) (λ_ _ _ _ n=>n) (λb o hc e=>⟨o,k b o (λz=>hc (by simp[z])) e⟩) (λ_ _ e=>e) (λ_ _ _ e=>e) (λb ps e=>⟨#[],by rw[e];simp⟩) (λm hm=>?_) (λb u e=>?_) I.bare
 ·have e:b=it:=by simpa using hb
  subst e;exact⟨h1,hL,h2,h3⟩
 ·obtain⟨o,es,ep,ho,r⟩:=hm;exact⟨o,es,ep,k _ o (Ne.symm hL) ho,r⟩
 ·refine(I.hok b u e).stay (λc v hc q=>k c v ?_ q) (λ_ q=>q) λ_ _ q=>q;rcases hc with z|z;·rw[z];exact nit b u e
  ·exact nit c _ z
theorem zo.tok(I:zo X pins σ H s)(t:Nat):zo X pins σ H {s with toks:=t}:=I.un (h':=s.heap) (t':=t) Un.refl I.hok
theorem zo.kept{t':Nat}(I:zo X pins σ H s)(k:∀b u,s.heap.get? b=some u->h'.get? b=some u):zo X pins σ H {s with heap:=h',toks:=t'}:=I.un (Un.kept k) (I.hok.kept k)
theorem zo.laid{a:Addr}{o:HO}{t':Nat}(I:zo X pins σ H s)(k:∀b u,s.heap.get? b=some u->h'.get? b=some u)(hp:s.heap.objs.size<=a)(new:jg X.prog X.w (zO H a o) h' a o):zo X pins σ (zO H a o) {s with heap:=h',toks:=t'}:=I.un (Un.laid k hp (I.hok.fresh hp)) (I.hok.laid k hp new)
theorem zo.write{x e:Addr}{o:HO}{t':Nat}(I:zo X pins σ H s)(mu:Us (H x))(he:e=x\/H e=some (.own x))(k:∀b u,b≠e->s.heap.get? b=some u->h'.get? b=some u)(heo:∃u,h'.get? e=some u)(new:jg X.prog X.w (zO H x o) h' x o):zo X pins σ (zO H x o) {s with heap:=h',toks:=t'}:=I.un (Un.write mu he k heo) (I.hok.write mu he k heo new)
theorem zo.pins_of{pins':List ↑j}(I:zo X pins σ H s)(h:∀p∈pins',s.heap.get? p.1=some p.2/\H p.1=none/\p.1≠X.env.locals/\p.1∉X.fs/\∀v,p.2.data≠.cell v):zo X pins' σ H s:=⟨I.ok,I.os,I.bare,I.base,I.loc,I.cell,I.free,I.freeC,λp hp=>(List.mem_append.mp hp).elim (λz=>I.pin p (List.mem_append_left _ z)) (h p),I.hok,I.len⟩
theorem nS{N:List Str}(hN:N.Nodup){i j:Nat}{x:Str}(a:N[i]?=some x)(b:N[j]?=some x):i=j:=by obtain⟨h1,e1⟩:=List.getElem?_eq_some_iff.mp a;obtain⟨h2,e2⟩:=List.getElem?_eq_some_iff.mp b;exact(List.getElem_inj hN).mp (e1.trans e2.symm)
theorem Zy{M:Model}{A:Around}{E:Value->Shared->Prop}{i:Nat}{x:Str}{v:V}{u:Value}{Q:Unit->Shared->Prop}(I:zo X pins σ H s)(hN:X.N.Nodup)(hi:X.N[i]?=some x)(hx:ii X.env.scope x)(r:RelV v u)(h:∀s',zo X pins (σ.set i (some v)) H s'->(∃a,Heap.SameBut a s.heap s'.heap/\(a=X.env.locals\/X.env.cells.lookup x=some a))->Q () s')(hf:X.fn x=true\/X.env.scope.names.lookup x=some .local:=by first|exact .inl rfl|exact .inr rfl|assumption):wpAny M A (storeName X.env x u) Q E s:=by
 obtain⟨m,hn,hl⟩:=id I.loc;have hcls:(X.env.scope.kind==.class||(X.env.scope.kind==.module&&X.env.locals !=X.env.globals))=false:=by rw[I.ok.kind];rfl
 have hiσ:i<σ.length:=by rw[I.len];exact(List.getElem?_eq_some_iff.mp hi).1
 have cne:=I.cne;have tracked:∀{a:Addr}{h':Heap},(∃o,s.heap.get? a=some o/\H a=none)->Heap.SameBut a s.heap h'->gx X.prog X.w H h':=λ{a h'}ha hs b ob e=>by
  obtain⟨_,_,hfree⟩:=ha;refine(I.hok b ob e).stay (λc w' hc q=>(hs.2 c ?_).trans q) (λ_ q=>q) λ_ _ q=>q;rintro rfl;rcases hc with rfl|hc;·rw[hfree]at e;cases e
  ·rw[hfree]at hc;cases hc
 rcases hx with hk|hk
 ·refine wpAny_storeName_local hk hn (λh' hn' hs=>?_) hcls;obtain⟨oL,_,_,hoL,_⟩:=id hn;refine h _ ⟨I.ok,I.os,I.bare,⟨λb o e n hb hx=>?_,λb o e n hb hx=>?_,I.base.free,λb o e hx=>?_,I.base.tups,I.base.frzs,I.base.tbls⟩,⟨_,hn',λj y v' e1 e2 e3=>?_⟩,λy c e=>?_,I.free,I.freeC,λp hp=>?_,tracked ⟨oL,hoL,I.free⟩ hs,by simpa using I.len⟩ ⟨_,hs,.inl rfl⟩;·exact(hs.2 b ↑J).trans (I.base.keep b o e n hb hx)
  ·obtain⟨sl,e1⟩:=I.base.slot b o e n hb hx;exact⟨sl,(hs.2 b ↑J).trans e1⟩
  ·obtain⟨o',e1⟩:=I.base.there b o e hx;exact⟨o',(hs.2 b ↑J).trans e1⟩
  ·by_cases hj:j=i;·subst hj;rw[hi]at e1;cases e1;rw[List.getElem?_set_self hiσ]at e2;cases e2;exact⟨u,r,.inl ⟨hk,by simp⟩⟩
   ·rw[List.getElem?_set_ne (Ne.symm hj)]at e2;obtain⟨u',r',q⟩:=hl j y v' e1 e2 e3;refine⟨u',r',?_⟩;rcases q with⟨k,e⟩|⟨k,c,e,z⟩;·refine .inl ⟨k,?_⟩;have:y≠x:=λe=>hj (nS hN e1 (e▸hi));simp[this,e]
    ·exact .inr ⟨k,c,e,z.sameBut hs (cne y c e)⟩
  ·obtain⟨w',z⟩:=I.cell y c e;exact⟨w',z.sameBut hs (cne y c e)⟩
  ·obtain⟨e,n,ne,nf,d⟩:=I.pin p hp;exact⟨(hs.2 p.1 ne).trans e,n,ne,nf,d⟩
 ·have hfn:X.fn x=true:=by
   rcases hf with z|z;·exact z
   ·rw[z]at hk;cases hk
  obtain⟨c,hc⟩:=I.ok.has x (.inl hk);obtain⟨w',z⟩:=I.cell x c hc;refine wpAny_storeName_cell I.ok.kind hk hc z (λh' hc' hs=>?_);obtain⟨oc,hoc,hocd⟩:=id z;refine h {s with heap:=h'} ⟨I.ok,I.os,I.bare,⟨λb o e n hb hx=>?_,λb o e n hb hx=>?_,I.base.free,λb o e hx=>?_,I.base.tups,I.base.frzs,I.base.tbls⟩,⟨m,hn.sameBut hs (Ne.symm (cne x c hc)),λj y v' e1 e2 e3=>?_⟩,λy c' e=>?_,I.free,I.freeC,λp hp=>?_,tracked ⟨oc,hoc,I.freeC x c hc⟩ hs,by simpa using I.len⟩ ⟨c,hs,.inr hc⟩;·exact(hs.2 b (Nat.ne_of_lt (Nat.lt_of_lt_of_le (Heap.lt_size e) (I.ok.cab x c hfn hc)))).trans (I.base.keep b o e n hb hx)
  ·obtain⟨sl,e1⟩:=I.base.slot b o e n hb hx;exact⟨sl,(hs.2 b (Nat.ne_of_lt (Nat.lt_of_lt_of_le (Heap.lt_size e) (I.ok.cab x c hfn hc)))).trans e1⟩
  ·obtain⟨o',e1⟩:=I.base.there b o e hx;exact⟨o',(hs.2 b (Nat.ne_of_lt (Nat.lt_of_lt_of_le (Heap.lt_size e) (I.ok.cab x c hfn hc)))).trans e1⟩
  ·by_cases hj:j=i;·subst hj;rw[hi]at e1;cases e1;rw[List.getElem?_set_self hiσ]at e2;cases e2;exact⟨u,r,.inr ⟨.inl hk,c,hc,hc'⟩⟩
   ·rw[List.getElem?_set_ne (Ne.symm hj)]at e2;obtain⟨u',r',q⟩:=hl j y v' e1 e2 e3;refine⟨u',r',?_⟩;rcases q with q|⟨k,c',e,z'⟩;·exact .inl q
    ·refine .inr ⟨k,c',e,z'.sameBut hs ?_⟩;rintro rfl;exact hj (nS hN e1 (I.ok.inj _ _ _ e hc▸hi))
  ·by_cases hcc:c'=c;·subst hcc;exact⟨_,hc'⟩
   ·obtain⟨w2,z2⟩:=I.cell y c' e;exact⟨w2,z2.sameBut hs hcc⟩
  ·obtain⟨e,n,ne,nf,d⟩:=I.pin p hp;refine⟨(hs.2 p.1 ?_).trans e,n,ne,nf,d⟩;intro q;rw[q,hoc]at e;have q':oc=p.2:=Option.some.inj e;exact d w' (by rw[<-q'];exact hocd)
theorem qS{M:Model}{A:Around}{E:Value->Shared->Prop}{i:Nat}{x:Str}{v:V}{u:Value}{Q:Unit->Shared->Prop}(I:zo X pins σ H s)(hN:X.N.Nodup)(hi:X.N[i]?=some x)(hx:ii X.env.scope x)(r:RelV v u)(h:∀s',zo X pins (σ.set i (some v)) H s'->Q () s')(hf:X.fn x=true\/X.env.scope.names.lookup x=some .local:=by first|exact .inl rfl|exact .inr rfl|assumption):wpAny M A (storeName X.env x u) Q E s:=Zy I hN hi hx r (λs' I' _=>h s' I') hf
theorem zo.call'{s':Shared}{ch:List Addr}(I:zo X pins σ H s)(ho:s'.os=s.os)(u:Un (nH X.stack) ch H H' s.heap s'.heap)(hok:gx X.prog X.w H' s'.heap)(hg:AllBare s'.gens)(hch:∀b∈ch,(b∈X.ex\/X.s₀.heap.objs.size<=b)/\b≠X.env.locals/\(∀x c,X.env.cells.lookup x=some c->c≠b)/\∀p∈X.pn++pins,p.1≠b):zo X pins σ H' s':=by obtain⟨h',g',d',t',o'⟩:=s';have e:o'=s.os:=ho;subst e;exact I.call (g':=g') (t':=t') (d':=d') u hok hg hch
end
abbrev XK:=Value->Option Addr->Hp->Prop
abbrev St:=List (Option V)
abbrev VK:=V->Hp->Prop
abbrev TE:=St->Hp->VK->Prop
abbrev TT:=St->Hp->(Bool->Hp->Prop)->Prop
abbrev TA:=St->Hp->(List V->Hp->Prop)->Prop
structure fk where
 nx:St->Hp->Prop
 rt:VK
 bk:St->Hp->Prop:=λ_ _=>False
 ct:St->Hp->Prop:=λ_ _=>False
abbrev TS:=fk->St->Hp->Prop
def EP(X:Cx)(pins:List ↑j)(σ:St)(Q:VK)(u:Value)(s':Shared):Prop:=∃v H',zo X pins σ H' s'/\RelV v u/\Q v H'
def TP(X:Cx)(pins:List ↑j)(σ:St)(Q:Bool->Hp->Prop)(b:Bool)(s':Shared):Prop:=∃H',zo X pins σ H' s'/\Q b H'
def AP(X:Cx)(pins:List ↑j)(σ:St)(Q:List V->Hp->Prop)(us:List Value)(s':Shared):Prop:=∃vs H',zo X pins σ H' s'/\zE vs us/\Q vs H'
def SP(X:Cx)(pins:List ↑j)(D:fk)(f:Flow)(s':Shared):Prop:=match f with|.next=>∃σ' H',zo X pins σ' H' s'/\D.nx σ' H'|.brk=>∃σ' H',zo X pins σ' H' s'/\D.bk σ' H'|.cont=>∃σ' H',zo X pins σ' H' s'/\D.ct σ' H'|.ret u=>∃v σ' H',zo X pins σ' H' s'/\RelV v u/\D.rt v H'
def PE(X:Cx)(e:Expr)(t:TE):Prop:=∀(pins:List ↑j)(s:Shared)(σ:St)(H:Hp)(Q:VK),zo X pins σ H s->t σ H Q->wpAny ↑a X.A (eval e X.env) (EP X pins σ Q) X.xe s
def PT(X:Cx)(e:Expr)(t:TT):Prop:=∀(pins:List ↑j)(s:Shared)(σ:St)(H:Hp)(Q:Bool->Hp->Prop),zo X pins σ H s->t σ H Q->wpAny ↑a X.A (isTrue e X.env (eval e X.env)) (TP X pins σ Q) X.xe s
def PW(X:Cx)(e:Expr)(t:TT):Prop:=∀(whole:Sem Value)(pins:List ↑j)(s:Shared)(σ:St)(H:Hp)(Q:Bool->Hp->Prop),zo X pins σ H s->t σ H Q->wpAny ↑a X.A (isTrue e X.env whole) (TP X pins σ Q) X.xe s
theorem PW.pt{X:Cx}{e:Expr}{t:TT}(h:PW X e t):PT X e t:=h _
def PA(X:Cx)(es:List Expr)(t:TA):Prop:=∀(pos:Pos)(pins:List ↑j)(s:Shared)(σ:St)(H:Hp)(Q:List V->Hp->Prop),zo X pins σ H s->t σ H Q->wpAny ↑a X.A (spliced (backTo pos ↑ag)) (AP X pins σ Q) X.xe s
def PS(X:Cx)(st:Stmt)(t:TS):Prop:=∀(pins:List ↑j)(s:Shared)(σ:St)(H:Hp)(D:fk),zo X pins σ H s->t D σ H->wpAny ↑a X.A (exec st X.env) (SP X pins D) X.xe s
def cu(X:Cx)(st:List Stmt)(t:TS):Prop:=∀(pins:List ↑j)(s:Shared)(σ:St)(H:Hp)(D:fk),zo X pins σ H s->t D σ H->wpAny ↑a X.A (execs st X.env) (SP X pins D) X.xe s
theorem ja{α:Type}{t:Sem α}{Q Q':α->Shared->Prop}{M:Model}{A:Around}{E:Value->Shared->Prop}{s:Shared}(h:wpAny M A t Q E s)(hQ:∀a s,Q a s->Q' a s):wpAny M A t Q' E s:=wpAny_mono h hQ λ_ _ x=>x
section
variable{X:Cx}
theorem Hq{a b:Expr}{ta tb:TE}(ha:PE X a ta)(hb:PE X b tb){pins:List ↑j}{s:Shared}{σ:St}{H:Hp}{R:V->V->Hp->Prop}(I:zo X pins σ H s)(h:ta σ H λx H1=>tb σ H1 λy H2=>R x y H2){α:Type}{Q:α->Shared->Prop}{f:Value->Value->Sem α}(hf:∀v u s2 x y H2,zo X pins σ H2 s2->RelV x v->RelV y u->R x y H2->wpAny ↑a X.A (f v u) Q X.xe s2):wpAny ↑a X.A (eval a X.env) (λv s₁=>wpAny ↑a X.A (eval b X.env) (λu s₂=>wpAny ↑a X.A (f v u) Q X.xe s₂) X.xe s₁) X.xe s:=by refine ja (ha pins s σ H _ I h) λv s1⟨x,H1,I1,r1,q1⟩=>?_;refine ja (hb pins s1 σ H1 _ I1 q1) λu s2⟨y,H2,I2,r2,q2⟩=>?_;exact hf v u s2 x y H2 I2 r1 r2 q2
def xJ(i:Nat):TE:=λσ H Q=>∃v,σ[i]?=some (some v)/\Q v H
def tC(v:V):TE:=λ_ H Q=>Q v H
theorem k9{i:Nat}{x:Str}{pos:Pos}(hN:X.N[i]?=some x)(hv:aK X.env.scope x)(hd:(x==↑t)=false:=by decide)(hcd:(x==("__classdict__":Str))=false:=by decide):PE X (.Name x pos) (xJ i):=by
 intro pins s σ H Q I h;obtain⟨v,e,h⟩:=h;obtain⟨m,hn,hl⟩:=I.loc;obtain⟨u,r,l⟩:=hl i x v hN e hv;have fin:EP X pins σ Q u s:=⟨v,H,I,r,h⟩;rcases l with⟨hk,hm⟩|⟨hk,c,hc,hcell⟩;·exact wpAny_Name (wpAny_loadName_local I.ok.kind hk hn hm fin) hd
 ·rcases hk with hk|hk;·exact wpAny_Name (wpAny_loadName_cell I.ok.kind hk hc hcell fin) hd
  ·exact wpAny_Name (wpAny_loadName_free I.ok.kind hk hc hcell fin hcd) hd
theorem JK{i j pos}:PE X (.Constant (.int i) j pos) (tC (.int i)):=λ_ _ _ H _ I h=>wpAny_Constant_int ⟨.int i,H,I.tok _,⟨_,rfl⟩,h⟩
theorem Ut{b j pos}:PE X (.Constant (.bool b) j pos) (tC (.bl b)):=λ_ _ _ H _ I h=>Constant_bool ⟨.bl b,H,I,rfl,h⟩
theorem QG{j pos}:PE X (.Constant .none j pos) (tC .non):=λ_ _ _ H _ I h=>Constant_none ⟨.non,H,I,rfl,h⟩
theorem JL{x j pos}:PE X (.Constant (.str x) j pos) (tC (.str x)):=λ_ _ _ H _ I h=>Calls.Constant_str ⟨.str x,H,I.tok _,⟨_,rfl⟩,h⟩
def Gl(X:Cx)(x:Str):Prop:=X.env.kindOf x=some .globalImplicit
theorem fY{E:Value->Shared->Prop}{pins:List ↑j}{s:Shared}{σ:St}{H:Hp}{x:Str}{u:Value}{pos:Pos}{Q:Value->Shared->Prop}(I:zo X pins σ H s)(hg:Gl X x)(hm:X.mg x=some u)(h:Q u s)(hd:(x==↑t)=false:=by decide):wpAny ↑a X.A (eval (.Name x pos) X.env) Q E s:=Calls.Name_function_global I.ok.kind hg (Calls.loadGlobal_global (by rw[I.ok.glob];exact I.mod.glob.keeps I.bk) hm h) hd
theorem kL{E:Value->Shared->Prop}{pins:List ↑j}{s:Shared}{σ:St}{H:Hp}{x:Str}{u:Value}{pos:Pos}{Q:Value->Shared->Prop}(I:zo X pins σ H s)(hg:Gl X x)(hm:X.mg x=none)(hv:bootBuiltins x=some u)(h:Q u s)(hn:x≠"__name__":=by decide)(hd:(x==↑t)=false:=by decide):wpAny ↑a X.A (eval (.Name x pos) X.env) Q E s:=by obtain⟨mb,h1,h2⟩:=I.mod.blt;exact Calls.Name_function_global I.ok.kind hg (Calls.loadGlobal_builtin (by rw[I.ok.glob];exact I.mod.glob.keeps I.bk) hm (by rw[I.ok.blt];exact h1.keeps I.bk) ((h2 x hn).trans hv) h) hd
theorem gy{x:Str}{v:V}{u:Value}{pos:Pos}(hg:Gl X x)(hm:X.mg x=some u)(r:RelV v u)(hd:(x==↑t)=false:=by decide):PE X (.Name x pos) (tC v):=λ_ _ _ H _ I h=>fY I hg hm ⟨v,H,I,r,h⟩ hd
theorem oR{x:Str}{v:V}{u:Value}{pos:Pos}(hg:Gl X x)(hm:X.mg x=none)(hv:bootBuiltins x=some u)(r:RelV v u)(hn:x≠"__name__":=by decide)(hd:(x==↑t)=false:=by decide):PE X (.Name x pos) (tC v):=λ_ _ _ H _ I h=>kL I hg hm hv ⟨v,H,I,r,h⟩ hn hd
variable{a b:Expr}{ta tb:TE}{pos:Pos}
def PC(X:Cx)(op:CmpOp)(a b:Expr)(t:TE):Prop:=∀(pins:List ↑j)(s:Shared)(σ:St)(H:Hp)(Q:VK),zo X pins σ H s->t σ H Q->wpAny ↑a X.A (eval a X.env) (λv s₁=>wpAny ↑a X.A (eval b X.env) (λu s₂=>wpAny ↑a X.A (compareOp op v u) (EP X pins σ Q) X.xe s₂) X.xe s₁) X.xe s
theorem JM(b:Expr){op:CmpOp}(h:op≠.In)(h2:op≠.NotIn):behindInMarks op b=false:=by
 have e1:(op==CmpOp.In)=false:=by cases op<;>first|rfl|exact absurd rfl h
 have e2:(op==CmpOp.NotIn)=false:=by cases op<;>first|rfl|exact absurd rfl h2
 cases b<;>simp[behindInMarks,e1,e2]
def tB(t:TE):TT:=λσ H Q=>t σ H λx H1=>∃c,x=.bl c/\Q c H1
theorem QH{op:CmpOp}{t:TE}(h:PC X op a b t)(h1:behindInMarks op b=false:=by first|exact JM _ ↑f ↑f|rfl):PT X (.Compare a [op] [b] pos) (tB t):=by intro pins s σ H Q I hw;refine wpAny_isTrue_Compare1 (ja (h pins s σ H _ I hw) λv s1 h1=>ja h1 λu s2 h2=>ja h2 λc s3⟨x,H1,I1,r1,q1⟩=>?_) h1;obtain⟨d,rfl,q⟩:=q1;cases r1;exact wpAny_truthy_bool ⟨H1,I1,q⟩
variable{tA tB':TT}{rest:List Expr}
def Uu(t u:TT):TT:=λσ H Q=>t σ H λc H1=>if c=true then u σ H1 Q else Q false H1
def Ii(t u:TT):TT:=λσ H Q=>t σ H λc H1=>if c=true then Q true H1 else u σ H1 Q
def Uv(t:TT):TT:=λσ H Q=>t σ H λc H1=>Q (!c) H1
theorem WF(ha:PT X a tA):PW X (.BoolOp .And [a] pos) tA:=by intro wh pins s σ H Q I h;refine isTrue_and (ja (ha pins s σ H Q I h) λc s1 e=>?_);cases c with|true=>exact isTrue_and_nil e|false=>exact e
theorem QI(ha:PT X a tA):PW X (.BoolOp .Or [a] pos) tA:=by intro wh pins s σ H Q I h;refine isTrue_or (ja (ha pins s σ H Q I h) λc s1 e=>?_);cases c with|false=>exact isTrue_or_nil e|true=>exact e
theorem QJ(ha:PT X a tA)(hb:PW X (.BoolOp .And (b::rest) pos) tB'):PW X (.BoolOp .And (a::b::rest) pos) (Uu tA tB'):=by intro wh pins s σ H Q I h;refine isTrue_and (ja (ha pins s σ H _ I h) λc s1⟨H1,I1,q1⟩=>?_);cases c with|true=>exact hb wh pins s1 σ H1 Q I1 q1|false=>exact⟨H1,I1,q1⟩
theorem Uw(ha:PT X a tA)(hb:PW X (.BoolOp .Or (b::rest) pos) tB'):PW X (.BoolOp .Or (a::b::rest) pos) (Ii tA tB'):=by intro wh pins s σ H Q I h;refine isTrue_or (ja (ha pins s σ H _ I h) λc s1⟨H1,I1,q1⟩=>?_);cases c with|true=>exact⟨H1,I1,q1⟩|false=>exact hb wh pins s1 σ H1 Q I1 q1
theorem QK(ha:PT X a tA):PT X (.UnaryOp .Not a pos) (Uv tA):=by intro pins s σ H Q I h;exact isTrue_not (ha pins s σ H (λc H1=>Q (!c) H1) I h)
def Ux(ta tb:TE):TE:=λσ H Q=>ta σ H λx H1=>∃c,x=.bl c/\if c=true then tb σ H1 Q else Q (.bl false) H1
def Uy(ta:TE):TE:=λσ H Q=>ta σ H λx H1=>∃c,x=.bl c/\Q (.bl (!c)) H1
theorem QL{op}{t:TE}(h:PE X a t):PE X (.BoolOp op [a] pos) t:=λpins s σ H Q I hw=>BoolOp_one (h pins s σ H Q I hw)
theorem QM(ha:PE X a ta)(hb:PE X (.BoolOp .And (b::rest) pos) tb):PE X (.BoolOp .And (a::b::rest) pos) (Ux ta tb):=by intro pins s σ H Q I h;refine BoolOp_and (ja (ha pins s σ H _ I h) λv s1⟨x,H1,I1,r1,q1⟩=>?_);obtain⟨c,rfl,q1⟩:=q1;cases r1;refine wpAny_truthy_bool ?_;cases c with|true=>exact hb pins s1 σ H1 Q I1 q1|false=>exact⟨.bl false,H1,I1,rfl,q1⟩
theorem QN(ha:PE X a ta):PE X (.UnaryOp .Not a pos) (Uy ta):=by intro pins s σ H Q I h;refine UnaryOp_ (ja (ha pins s σ H _ I h) λv s1⟨x,H1,I1,r1,q1⟩=>?_);obtain⟨c,rfl,q1⟩:=q1;cases r1;exact not_of (wpAny_truthy_bool ⟨.bl (!c),H1,I1,rfl,q1⟩)
def Mh(t:TT)(ta tb:TE):TE:=λσ H Q=>t σ H λc H1=>if c=true then ta σ H1 Q else tb σ H1 Q
theorem cy{c:Expr}(hc:PT X c tA)(ha:PE X a ta)(hb:PE X b tb):PE X (.IfExp c a b pos) (Mh tA ta tb):=by intro pins s σ H Q I h;refine wpAny_IfExp (ja (hc pins s σ H _ I h) λd s1⟨H1,I1,q1⟩=>?_);cases d with|true=>exact ha pins s1 σ H1 Q I1 q1|false=>exact hb pins s1 σ H1 Q I1 q1
end
def fo(K:W.Frag)(H:Hp)(a:Addr)(xs:List V):Prop:=Rd H a (.lst xs)\/∃(o:Obj)(its:Array Value)(n:Nat),K.lookup a=some o/\o.cls=.type "list"/\o.dict=none/\o.data=.seq its n/\its.size<=sizeLine/\zE xs its.toList
def fX(K:W.Frag)(H:Hp)(a:Addr)(xs:List V):Prop:=Rd H a (.tup xs)\/∃(o:Obj)(its:Array Value)(n:Nat),K.lookup a=some o/\o.cls=.type "tuple"/\o.data=.seq its n/\its.size<=sizeLine/\zE xs its.toList
def ML:Value->Option V|.none=>some .non|.bool b=>some (.bl b)|.int i _=>some (.int i)|.str x _=>some (.str x)|.bytes b _=>some (.byt b)|.float b _=>some (.flt b)|.ref a=>some (.ref a)|.type n=>some (.ty n)|_=>none
theorem RelV.abs{x:V}{u:Value}(r:RelV x u):ML u=some x:=by cases x with|non=>cases r;rfl|bl _=>cases r;rfl|int _=>obtain⟨t,rfl⟩:=r;rfl|str _=>obtain⟨t,rfl⟩:=r;rfl|byt _=>obtain⟨t,rfl⟩:=r;rfl|flt _=>obtain⟨t,rfl⟩:=r;rfl|ref _=>cases r;rfl|ty _=>cases r;rfl
theorem RelV.inj{x y:V}{u:Value}(r:RelV x u)(q:RelV y u):x=y:=Option.some.inj (r.abs.symm.trans q.abs)
theorem zE.inj:∀{xs ys:List V}{us:List Value},zE xs us->zE ys us->xs=ys|_,_,_,.nil,.nil=>rfl|_,_,_,.cons r t,.cons r' t'=>by rw[r.inj r',zE.inj t t']
section
variable{X:Cx}{pins:List ↑j}{σ:St}{H:Hp}{s:Shared}{a:Addr}{xs ys:List V}
theorem zo.list(I:zo X pins σ H s)(h:fo X.K H a xs):∃its:List Value,zE xs its/\PlainL s.heap a its.toArray/\xs.length<=sizeLine:=by
 rcases h with h|⟨o,its,n,hk,hc,hd,hs,hz,r⟩;·obtain⟨z,its,n,r,e⟩:=h.ok I.hok;exact⟨its,r,⟨_,n,e,rfl,rfl,rfl⟩,z⟩
 ·refine⟨its.toList,r,⟨o,n,I.kIn a o hk,hc,hd,by simpa using hs⟩,?_⟩;have e:=r.length;simp only[Array.length_toList]at e;omega
theorem zo.tuple(I:zo X pins σ H s)(h:fX X.K H a xs):∃its:List Value,zE xs its/\IsTup s.heap a its.toArray/\xs.length<=sizeLine:=by
 rcases h with h|⟨o,its,n,hk,hc,hs,hz,r⟩;·obtain⟨z,its,r,p⟩:=h.ok I.hok;exact⟨its,r,p,z⟩
 ·refine⟨its.toList,r,⟨o,I.kIn a o hk,hc,n,by simpa using hs⟩,?_⟩;have e:=r.length;simp only[Array.length_toList]at e;omega
theorem zo.list_inj(I:zo X pins σ H s)(h:fo X.K H a xs)(h':fo X.K H a ys):xs=ys:=by
 obtain⟨its,r,⟨o,n,e,_,_,d⟩,_⟩:=I.list h;obtain⟨its',r',⟨o',n',e',_,_,d'⟩,_⟩:=I.list h';rw[e]at e';cases e';rw[d]at d';injection d' with d1 _;have:its=its':=by simpa using congrArg Array.toList d1
 subst this;exact r.inj r'
theorem zo.tuple_inj(I:zo X pins σ H s)(h:fX X.K H a xs)(h':fX X.K H a ys):xs=ys:=by
 obtain⟨its,r,⟨o,e,_,n,d⟩,_⟩:=I.tuple h;obtain⟨its',r',⟨o',e',_,n',d'⟩,_⟩:=I.tuple h';rw[e]at e';cases e';rw[d]at d';injection d' with d1 _;have:its=its':=by simpa using congrArg Array.toList d1
 subst this;exact r.inj r'
end
section
variable{X:Cx}{st:Stmt}{rest:List Stmt}{t u:TS}{e:Expr}{te:TE}{pos:Pos}
def cz:TS:=λD σ H=>D.nx σ H
def n8(t u:TS):TS:=λD σ H=>t {D with nx:=u D} σ H
theorem eF:cu X [] cz:=λ_ _ σ H _ I h=>wpAny_execs_nil ⟨σ,H,I,h⟩
theorem vc(h1:PS X st t)(h2:cu X rest u):cu X (st::rest) (n8 t u):=by intro pins s σ H D I h;refine wpAny_execs_cons (ja (h1 pins s σ H {D with nx:=u D} I h) λf s1 q=>?_);cases f with|next=>obtain⟨σ',H',I',q⟩:=q;exact h2 pins s1 σ' H' D I' q|ret v=>exact q|brk=>exact q|cont=>exact q
theorem qg(h1:PS X st t):cu X [st] t:=by intro pins s σ H D I h;refine wpAny_execs_cons (ja (h1 pins s σ H D I h) λf s1 q=>?_);cases f with|next=>exact wpAny_execs_nil q|ret v=>exact q|brk=>exact q|cont=>exact q
theorem zo.quiet{pins:List ↑j}{σ:St}{H:Hp}{s:Shared}(I:zo X pins σ H s):interactive X.env=false:=by simp[interactive,I.ok.kind]
def cA(te:TE):TS:=λD σ H=>te σ H λ_ H1=>D.nx σ H1
theorem w6(he:PE X e te)(hs:swapsWith e none pos.line X.env=pure false:=by rfl):PS X (.Expr e pos) (cA te):=by intro pins s σ H D I h;exact wpAny_Expr_any (ja (he pins s σ H _ I h) λv s1⟨x,H1,I1,r1,q1⟩=>⟨σ,H1,I1,q1⟩) I.quiet hs
def Uz(te:TE):TS:=λD σ H=>te σ H D.rt
theorem eG(he:PE X e te):PS X (.Return (some e) pos) (Uz te):=by intro pins s σ H D I h;exact wpAny_Return_some (ja (he pins s σ H _ I h) λv s1⟨x,H1,I1,r1,q1⟩=>⟨x,σ,H1,I1,r1,q1⟩)
def JN(c:TT)(t u:TS):TS:=λD σ H=>c σ H λb H1=>if b=true then t D σ H1 else u D σ H1
theorem JO{c:Expr}{a b:List Stmt}{tc:TT}(hc:PT X c tc)(ha:cu X a t)(hb:cu X b u):PS X (.If c a b pos) (JN tc t u):=by intro pins s σ H D I h;refine wpAny_If (ja (hc pins s σ H _ I h) λd s1⟨H1,I1,q1⟩=>?_);cases d with|true=>exact ha pins s1 σ H1 D I1 q1|false=>exact hb pins s1 σ H1 D I1 q1
def nT:TS:=λ_ _ _=>False
theorem Zz{sts:List Stmt}:cu X sts nT:=λ_ _ _ _ _ _ h=>h.elim
end
abbrev TG:=V->St->Hp->(St->Hp->Prop)->Prop
abbrev KN:=List V->St->Hp->(St->Hp->Prop)->Prop
def PG(X:Cx)(target:Expr)(t:TG):Prop:=∀(pins:List ↑j)(s:Shared)(σ:St)(H:Hp)(v:V)(u:Value)(Q:St->Hp->Prop),zo X pins σ H s->RelV v u->t v σ H Q->wpAny ↑a X.A (assign target X.env u) (λ_ s'=>∃σ' H',zo X pins σ' H' s'/\Q σ' H') X.xe s
def UA(X:Cx)(ts:List Expr)(t:KN):Prop:=∀(pins:List ↑j)(s:Shared)(σ:St)(H:Hp)(vs:List V)(us:List Value)(Q:St->Hp->Prop),zo X pins σ H s->zE vs us->t vs σ H Q->wpAny ↑a X.A (assignInOrder ((assignEach ts X.env).map (·.2)) us) (λ_ s'=>∃σ' H',zo X pins σ' H' s'/\Q σ' H') X.xe s
abbrev QO:=V->V->V->Hp->(Hp->Prop)->Prop
def UB(X:Cx)(t:QO):Prop:=∀(pins:List ↑j)(s:Shared)(σ:St)(H:Hp)(o i v:V)(ov iv u:Value)(Q:Hp->Prop),zo X pins σ H s->RelV o ov->RelV i iv->RelV v u->t o i v H Q->wpAny ↑a X.A (setItem ov iv u) (λ_ s'=>∃H',zo X pins σ H' s'/\Q H') X.xe s
abbrev MM:=V->V->Hp->VK->Prop
def Ij(X:Cx)(op:Operator)(t:MM):Prop:=∀(pins:List ↑j)(s:Shared)(σ:St)(H:Hp)(x y:V)(v u:Value)(Q:VK),zo X pins σ H s->RelV x v->RelV y u->t x y H Q->wpAny ↑a X.A (inplaceOp op v u) (EP X pins σ Q) X.xe s
section
variable{X:Cx}{pos:Pos}
def vd(i:Nat):TG:=λv σ H Q=>Q (σ.set i (some v)) H
theorem qh{i:Nat}{x:Str}(hN:X.N.Nodup)(hi:X.N[i]?=some x)(hx:ii X.env.scope x)(hf:X.fn x=true\/X.env.scope.names.lookup x=some .local:=by first|exact .inl rfl|exact .inr rfl|assumption):PG X (.Name x pos) (vd i):=by intro pins s σ H v u Q I r h;exact wpAny_assign_Name (qS I hN hi hx r (λs' I'=>⟨_,H,I',h⟩) hf)
def QP:KN:=λvs σ H Q=>vs=[]/\Q σ H
def cB(t:TG)(u:KN):KN:=λvs σ H Q=>∃v r,vs=v::r/\t v σ H λσ' H'=>u r σ' H' Q
theorem oS:UA X [] QP:=by intro pins s σ H vs us Q I r h;obtain⟨e,h⟩:=h;subst e;cases r;exact assignInOrder_nil ⟨σ,H,I,h⟩
theorem nU{e:Expr}{es:List Expr}{t:TG}{u:KN}(h1:PG X e t)(h2:UA X es u)(hs:(assignEach (e::es) X.env).map (·.2)=assign e X.env::(assignEach es X.env).map (·.2):=by rfl):UA X (e::es) (cB t u):=by intro pins s σ H vs us Q I r h;obtain⟨v,vr,e1,h⟩:=h;subst e1;cases r with|cons r rr=>rw[hs];refine assignInOrder_cons (ja (h1 pins s σ H _ _ _ I r h) λ_ s1⟨σ1,H1,I1,q1⟩=>?_);exact h2 pins s1 σ1 H1 _ _ Q I1 rr q1
def QQ(K:W.Frag)(n:Nat)(t:KN):TG:=λv σ H Q=>∃a xs,v=.ref a/\fX K H a xs/\xs.length=n/\t xs σ H Q
theorem JP{es:List Expr}{k:Nat}{t:KN}{n:Nat}(hc:X.calm=true)(h:UA X es t)(hn:(assignEach es X.env).length=n:=by rfl)(hst:(assignEach es X.env).findIdx? (·.1)=none:=by rfl):PG X (.Tuple es k pos) (QQ X.K n t):=by intro pins s σ H v u Q I r hw;obtain⟨a,xs,e1,hq,hl,hw⟩:=hw;subst e1;cases r;obtain⟨its,rv,ht,hz⟩:=I.tuple hq;refine assign_Tuple_tuple (I.ok.hd hc) ht (by simp[hn,<-hl,rv.length]) hst λh' hx=>?_;have I1:zo X pins σ H {s with heap:=h'}:=I.kept (t':=s.toks) λb o e=>hx b o (Nat.ne_of_lt (Heap.lt_size e)) e;exact h pins _ σ H xs _ Q I1 (by simpa using rv) hw
def UC(to ti:TE)(t:QO):TG:=λv σ H Q=>to σ H λo H1=>ti σ H1 λi H2=>t o i v H2 λH3=>Q σ H3
theorem QR{o i:Expr}{to ti:TE}{t:QO}(ho:PE X o to)(hi:PE X i ti)(hs:UB X t)(ha:∀v,assign (.Subscript o i pos) X.env v=(do
   let ov<-holding [v] (eval o X.env)let iv<-holding [v,ov] (eval i X.env)standAt pos
   holding [v,ov,iv] (setItem ov iv v)release [v,ov,iv] []):=by intro _;rfl):PG X (.Subscript o i pos) (UC to ti t):=by intro pins s σ H v u Q I r h;rw[ha];refine wpAny_bind (wpAny_holding (ja (ho pins s σ H _ I h) λov s1⟨x,H1,I1,r1,q1⟩=>?_));refine wpAny_bind (wpAny_holding (ja (hi pins s1 σ H1 _ I1 q1) λiv s2⟨y,H2,I2,r2,q2⟩=>?_));refine wpAny_bind (wpAny_standAt (wpAny_bind (wpAny_holding (ja (hs pins s2 σ H2 x y v ov iv u _ I2 r1 r2 r q2) λ_ s3⟨H3,I3,q3⟩=>?_))));exact wpAny_release ⟨σ,H3,I3,q3⟩
def eI(te:TE)(g:TG):TS:=λD σ H=>te σ H λx H1=>g x σ H1 D.nx
theorem aP{tg e:Expr}{te:TE}{g:TG}(he:PE X e te)(hg:PG X tg g)(hs:swapsWithSole [tg] e pos.line X.env=pure false:=by rfl)(hw:swappedStores [tg] e X.env=pure none:=by rfl)(h1:(assignEach [tg] X.env).map (·.2)=[assign tg X.env]:=by rfl):PS X (.Assign [tg] e pos) (eI te g):=by intro pins s σ H D I h;refine wpAny_Assign_stores (ja (he pins s σ H _ I h) λv s1⟨x,H1,I1,r1,q1⟩=>?_) hs hw;rw[h1];exact ja (hg pins s1 σ H1 x v _ I1 r1 q1) λ_ s2 q=>q
theorem aQ{i:Nat}{x:Str}{e:Expr}{te:TE}{pos':Pos}(hN:X.N.Nodup)(hi:X.N[i]?=some x)(hx:ii X.env.scope x)(he:PE X e te)(hs:swapsWith e (some (.Name x pos')) pos.line X.env=pure false:=by rfl)(hf:X.fn x=true\/X.env.scope.names.lookup x=some .local:=by first|exact .inl rfl|exact .inr rfl|assumption):PS X (.Assign [.Name x pos'] e pos) (eI te (vd i)):=by intro pins s σ H D I h;refine wpAny_Assign_Name (ja (he pins s σ H _ I h) λv s1⟨y,H1,I1,r1,q1⟩=>?_) hs;exact qS I1 hN hi hx r1 (λs2 I2=>⟨_,H1,I2,q1⟩) hf
def MP(i:Nat)(te:TE)(ti:MM):TS:=λD σ H=>∃x,σ[i]?=some (some x)/\te σ H λy H1=>ti x y H1 λz H2=>D.nx (σ.set i (some z)) H2
theorem QS{i:Nat}{x:Str}{e:Expr}{te:TE}{op:Operator}{ti:MM}{pos':Pos}(hN:X.N.Nodup)(hi:X.N[i]?=some x)(hx:ii X.env.scope x)(he:PE X e te)(ho:Ij X op ti)(hf:X.fn x=true\/X.env.scope.names.lookup x=some .local:=by first|exact .inl rfl|exact .inr rfl|assumption):PS X (.AugAssign (.Name x pos') op e pos) (MP i te ti):=by
 intro pins s σ H D I h;obtain⟨v,e1,h⟩:=h;obtain⟨m,hn,hl⟩:=I.loc;have vis:aK X.env.scope x:=by rcases hx with k|k;exact .inl k;exact .inr (.inl k)
 obtain⟨u,r,l⟩:=hl i x v hi e1 vis;refine wpAny_AugAssign_Name ?_;have go:wpAny ↑a X.A (eval e X.env) (λw s₂=>wpAny ↑a X.A (inplaceOp op u w) (λr s₃=>wpAny ↑a X.A (storeName X.env x r) (λ_=>SP X pins D .next) X.xe s₃) X.xe s₂) X.xe s:=by refine ja (he pins s σ H _ I h) λw s1⟨y,H1,I1,r1,q1⟩=>?_;refine ja (ho pins s1 σ H1 v y u w _ I1 r r1 q1) λz s2⟨zv,H2,I2,r2,q2⟩=>?_;exact qS I2 hN hi hx r2 (λs3 I3=>⟨_,H2,I3,q2⟩) hf
 rcases l with⟨hk,hm⟩|⟨hk,c,hc,hcell⟩;·exact wpAny_loadName_local I.ok.kind hk hn hm go
 ·rcases hk with hk|hk;·exact wpAny_loadName_cell I.ok.kind hk hc hcell go
  ·rcases hx with k|k;·have:X.env.scope.names.lookup x=some .free:=hk;rw[k]at this;cases this
   ·have:X.env.scope.names.lookup x=some .free:=hk;rw[k]at this;cases this
end
section
variable{X:Cx}{pos:Pos}
def QT(c:TT)(tb:TS):TS:=λD σ H=>∃W:Nat->St->Hp->Prop,(∃m,W m σ H)/\∀m σ H,W m σ H->c σ H λb H1=>if b=true then∃N:St->Hp->Prop,(∀σ' H',N σ' H'->∃m',m'<m/\W m' σ' H')/\tb {D with nx:=N,ct:=N,bk:=D.nx} σ H1 else D.nx σ H1
theorem JQ{c:Expr}{body:List Stmt}{tc:TT}{tb:TS}(hp:PassesOwn ↑a X.A X.env X.xe)(hc:PT X c tc)(hb:cu X body tb):PS X (.While c body [] pos) (QT tc tb):=by intro pins s σ H D I h;obtain⟨W,⟨m0,w0⟩,turn⟩:=h;refine wpAny_While (codeAny_whileLoop (λn s'=>∃σ' H',zo X pins σ' H' s'/\W n σ' H') ?_ m0 ⟨σ,H,I,w0⟩);rintro n s1⟨σ1,H1,I1,w1⟩;refine wpAny_passesOwn hp (ja (hc pins s1 σ1 H1 _ I1 (turn n σ1 H1 w1)) λb s2⟨H2,I2,q2⟩=>?_);cases b with
 |true=>obtain⟨N,hN,q2⟩:=q2;rw[if_pos rfl];refine wpAny_passesOwn hp (ja (hb pins s2 σ1 H2 _ I2 q2) λf s3 q3=>?_);cases f with|next=>obtain⟨σ3,H3,I3,n3⟩:=q3;obtain⟨m',hm,w3⟩:=hN σ3 H3 n3;exact⟨m',hm,σ3,H3,I3,w3⟩|cont=>obtain⟨σ3,H3,I3,n3⟩:=q3;obtain⟨m',hm,w3⟩:=hN σ3 H3 n3;exact⟨m',hm,σ3,H3,I3,w3⟩|brk=>exact q3|ret v=>exact q3
 |false=>rw[if_neg Bool.false_ne_true];exact wpAny_execs_nil ⟨σ1,H2,I2,q2⟩
end
structure It where
 go:Nat->Hp->Prop
 yld:Nat->Hp->V->Hp->Prop
 stop:Nat->Hp->Prop
def qT(X:Cx)(pins:List ↑j)(H:Hp)(b:Addr):Prop:=H b=none/\b≠X.env.locals/\b∉X.fs/\(b∈X.ex\/X.s₀.heap.objs.size<=b)/\(∀x c,X.env.cells.lookup x=some c->c≠b)/\∀p∈X.pn++pins,p.1≠b
theorem zo.fpOk{X:Cx}{pins:List ↑j}{σ:St}{H H':Hp}{s:Shared}{b:Addr}(I:zo X pins σ H s)(hb:s.heap.objs.size<=b)(hn:H' b=none):qT X pins H' b:=by
 refine⟨hn,Nat.ne_of_gt (Nat.lt_of_lt_of_le I.lt hb),I.nofs hb,.inr (Nat.le_trans I.sz hb),λx c e z=>?_,λp hp z=>?_⟩;·obtain⟨v,q⟩:=I.cell x c e;exact absurd (Nat.lt_of_lt_of_le q.lt (by rw[z];exact hb)) (Nat.lt_irrefl _)
 ·exact absurd (Nat.lt_of_lt_of_le (Heap.lt_size (I.pin p hp).1) (by rw[z];exact hb)) (Nat.lt_irrefl _)
structure aR(P:Program)(w:World)(K:W.Frag)(tg:Expr)(J:It)(fp:List Addr)(it:Addr)(tn:Nat->Heap->Prop):Prop where
 mem:it∈fp
 obj:∀i h,tn i h->∀b∈fp,∃o,h.get? b=some o/\∀v,o.data≠.cell v
 keep:∀i h h',tn i h->(∀b∈fp,∀o,h.get? b=some o->h'.get? b=some o)->tn i h'
 item:∀(X:Cx),X.prog=P->X.w=w->X.K=K->X.calm=true->∀(i:Nat)(pins:List ↑j)(s:Shared)(σ:St)(H:Hp)(E:Value->Shared->Prop),zo X pins σ H s->(∀b∈fp,qT X pins H b)->tn i s.heap->J.go i H->wpAny (model P w) X.A (pyNext (.ref it)) (λr s1=>∃u,r=some u/\wpAny (model P w) X.A (letOwnedTupleGo tg (.ref it) u) (λ_ s2=>∃x H',zo X pins σ H' s2/\RelV x u/\J.yld i H x H'/\tn (i+1) s2.heap/\∀b∈fp,H' b=none) E s1) E s
 done:∀(X:Cx),X.prog=P->X.w=w->X.K=K->X.calm=true->∀(i:Nat)(pins:List ↑j)(s:Shared)(σ:St)(H:Hp)(E:Value->Shared->Prop),zo X pins σ H s->(∀b∈fp,qT X pins H b)->tn i s.heap->J.stop i H->wpAny (model P w) X.A (pyNext (.ref it)) (λr s1=>r=none/\zo X pins σ H s1) E s
 self:∀(A:Around)(i:Nat)(s:Shared)(Q:Value->Shared->Prop)(E:Value->Shared->Prop),tn i s.heap->Q (.ref it) s->wpAny (model P w) A (pyIter (.ref it)) Q E s
abbrev TI:=St->Hp->(It->Hp->Prop)->Prop
def MQ(X:Cx)(pins:List ↑j)(σ:St)(tg:Expr)(R:It->Hp->Prop)(itv:Value)(s2:Shared):Prop:=∃(it:Addr)(fp:List Addr)(tn:Nat->Heap->Prop)(J:It)(H':Hp),itv=.ref it/\zo X pins σ H' s2/\aR X.prog X.w X.K tg J fp it tn/\tn 0 s2.heap/\(∀b∈fp,qT X pins H' b)/\R J H'
def PI(X:Cx)(tg iter:Expr)(wi:TI):Prop:=∀(pins:List ↑j)(s:Shared)(σ:St)(H:Hp)(R:It->Hp->Prop),zo X pins σ H s->wi σ H R->wpAny ↑a X.A (eval iter X.env) (λv s1=>wpAny ↑a X.A (pyIter v) (MQ X pins σ tg R) X.xe s1) X.xe s
theorem oU{M:Model}{A:Around}{E:Value->Shared->Prop}{s:Shared}{tg:Expr}{it:Addr}{u:Value}{o:Obj}{n:String}{vs:Array Value}{Q:Unit->Shared->Prop}(ho:s.heap.get? it=some o)(hc:o.cls=.type n)(hd:o.data=.fields vs)(hn:["enumerate","zip","dict_itemiterator","dict_reverseitemiterator","odict_iterator","itertools.zip_longest","itertools.pairwise"].contains n=false)(hQ:Q () s):wpAny M A (letOwnedTupleGo tg (.ref it) u) Q E s:=by unfold letOwnedTupleGo;cases tg<;>first|exact wpAny_pure hQ|(cases u<;>first|exact wpAny_pure hQ|(refine wpAny_bind (wpAny_load ho ?_);rw[hc,hd];show wpAny M A (if(["enumerate","zip","dict_itemiterator","dict_reverseitemiterator","odict_iterator","itertools.zip_longest","itertools.pairwise"].contains n&&vs[0]?==some (rawInt _))=true then _ else _) Q E s;rw[if_neg (by intro h;rw[hn,Bool.false_and]at h;cases h)];exact wpAny_pure hQ))
def MR(K:W.Frag)(a:Addr):It:=⟨λi H=>∃xs x,fo K H a xs/\xs[i]?=some x,λi H x H'=>H'=H/\∀xs,fo K H a xs->xs[i]?=some x,λi H=>∃xs,fo K H a xs/\xs.length<=i⟩
def MU(K:W.Frag)(a:Addr):It:=⟨λi H=>∃xs x,fX K H a xs/\xs[i]?=some x,λi H x H'=>H'=H/\∀xs,fX K H a xs->xs[i]?=some x,λi H=>∃xs,fX K H a xs/\xs.length<=i⟩
def UD(lo:Int)(n:Nat):It:=⟨λi _=>i<n,λi H x H'=>H'=H/\x=.int (lo+i),λi _=>n<=i⟩
theorem ZA{P:Program}{w:World}{K:W.Frag}{tg:Expr}(a it:Addr):aR P w K tg (MR K a) [it] it (λi h=>h.IsListIter it a i)where
 mem:=by simp
 obj:=λi h st b hb=>by
  have e:b=it:=by simpa using hb
  subst e;obtain⟨o,e,c,d⟩:=st;exact⟨o,e,λv z=>by rw[d]at z;cases z⟩
 keep:=λi h h' st k=>st.at λo e=>k it ↑D o e;item:=by intro X hP hw hK hc i pins s σ H E I hf st hg;subst hP hw hK;obtain⟨xs,x,hq,hx⟩:=hg;obtain⟨its,rv,p,hz⟩:=I.list hq;obtain⟨u,hu,ru⟩:=rv.get hx;obtain⟨f0,f1,f2,f3,f4,f5⟩:=hf it ↑D;refine wpAny_pyNext_list_item st p.isList (x:=u) (by simpa using hu) λh' st' sb=>?_;have I1:zo X pins σ H {s with heap:=h'}:=I.turned (t':=s.toks) (λb o hb e=>(sb.2 b hb).trans e) f0 f1 f3 f4 f5;obtain⟨o,e,c,d⟩:=id st';exact⟨u,rfl,oU (s:={s with heap:=h'}) e c d ↑f ⟨x,H,I1,ru,⟨rfl,λys hy=>by rw[I.list_inj hy hq];exact hx⟩,st',λb hb=>(hf b hb).1⟩⟩
 done:=by intro X hP hw hK hc i pins s σ H E I hf st hg;subst hP hw hK;obtain⟨xs,hq,hx⟩:=hg;obtain⟨its,rv,p,hz⟩:=I.list hq;obtain⟨f0,f1,f2,f3,f4,f5⟩:=hf it ↑D;have hl:=rv.length;exact wpAny_pyNext_list_end (I.ok.hd hc) st p.isList (by simp;omega) λh' eb=>⟨rfl,I.turned (t':=s.toks) (λb o hb e=>eb b o hb e) f0 f1 f3 f4 f5⟩
 self:=λ_ _ _ _ _ st h=>wpAny_pyIter_listiter st h
theorem aS{P:Program}{w:World}{K:W.Frag}{tg:Expr}(a it:Addr):aR P w K tg (MU K a) [it] it (λi h=>h.IsTupleIter it a i)where
 mem:=by simp
 obj:=λi h st b hb=>by
  have e:b=it:=by simpa using hb
  subst e;obtain⟨o,e,c,d⟩:=st;exact⟨o,e,λv z=>by rw[d]at z;cases z⟩
 keep:=λi h h' st k=>st.at λo e=>k it ↑D o e;item:=by intro X hP hw hK hc i pins s σ H E I hf st hg;subst hP hw hK;obtain⟨xs,x,hq,hx⟩:=hg;obtain⟨its,rv,p,hz⟩:=I.tuple hq;obtain⟨u,hu,ru⟩:=rv.get hx;obtain⟨f0,f1,f2,f3,f4,f5⟩:=hf it ↑D;refine wpAny_pyNext_tuple_item st (show s.heap.IsTuple a its.toArray from p) (x:=u) (by simpa using hu) λh' st' sb=>?_;have I1:zo X pins σ H {s with heap:=h'}:=I.turned (t':=s.toks) (λb o hb e=>(sb.2 b hb).trans e) f0 f1 f3 f4 f5;obtain⟨o,e,c,d⟩:=id st';exact⟨u,rfl,oU (s:={s with heap:=h'}) e c d ↑f ⟨x,H,I1,ru,⟨rfl,λys hy=>by rw[I.tuple_inj hy hq];exact hx⟩,st',λb hb=>(hf b hb).1⟩⟩
 done:=by intro X hP hw hK hc i pins s σ H E I hf st hg;subst hP hw hK;obtain⟨xs,hq,hx⟩:=hg;obtain⟨its,rv,p,hz⟩:=I.tuple hq;obtain⟨f0,f1,f2,f3,f4,f5⟩:=hf it ↑D;have hl:=rv.length;exact wpAny_pyNext_tuple_end (I.ok.hd hc) st (show s.heap.IsTuple a its.toArray from p) (by simp;omega) λh' eb=>⟨rfl,I.turned (t':=s.toks) (λb o hb e=>eb b o hb e) f0 f1 f3 f4 f5⟩
 self:=λ_ _ _ _ _ st h=>wpAny_pyIter_tupleiter st h
theorem aT{P:Program}{w:World}{K:W.Frag}{tg:Expr}(it:Addr)(lo:Int)(n:Nat):aR P w K tg (UD lo n) [it] it (λi h=>IsRangeIter h it (lo+(i:Nat)*1) ((n:Int)-(i:Nat)) 1)where
 mem:=by simp
 obj:=λi h st b hb=>by
  have e:b=it:=by simpa using hb
  subst e;exact⟨_,st,λv z=>by have z':Data.fields _=Data.cell v:=z;cases z'⟩
 keep:=λi h h' st k=>k it ↑D _ st;item:=by intro X hP hw hK hc i pins s σ H E I hf st hg;subst hP hw hK;obtain⟨f0,f1,f2,f3,f4,f5⟩:=hf it ↑D;have W:=Walks.range (prog:=X.prog) (w:=X.w) (I.ok.hd hc) it lo 1 n;refine W.item i s _ _ hg st λv h' tk hv st' kk=>?_;obtain⟨t,rfl⟩:=hv;have I1:zo X pins σ H {s with heap:=h',toks:=tk}:=I.turned (λb o hb e=>kk b o (by simpa using hb) e) f0 f1 f3 f4 f5;refine⟨_,rfl,oU (s:={s with heap:=h',toks:=tk}) (n:="range_iterator") st' rfl rfl ↑f ⟨.int (lo+i),H,I1,⟨t,?_⟩,⟨rfl,rfl⟩,st',λb hb=>(hf b hb).1⟩⟩;rw[Int.mul_one]
 done:=by intro X hP hw hK hc i pins s σ H E I hf st hg;subst hP hw hK;obtain⟨f0,f1,f2,f3,f4,f5⟩:=hf it ↑D;exact wpAny_pyNext_range_end (I.ok.hd hc) st (by have:n<=i:=hg;omega) λh' eb=>⟨rfl,I.turned (t':=s.toks) (λb o hb e=>eb b o hb e) f0 f1 f3 f4 f5⟩
 self:=λ_ _ _ _ _ st h=>wpAny_pyIter_rangeiter st h
section
variable{X:Cx}{tg:Expr}
def KO(K:W.Frag)(tl:TE):TI:=λσ H R=>tl σ H λx H1=>∃a,x=.ref a/\(∃xs,fo K H1 a xs)/\R (MR K a) H1
def UE(K:W.Frag)(tl:TE):TI:=λσ H R=>tl σ H λx H1=>∃a,x=.ref a/\(∃xs,fX K H1 a xs)/\R (MU K a) H1
theorem WG{l:Expr}{tl:TE}(hl:PE X l tl):PI X tg l (KO X.K tl):=by
 intro pins s σ H R I h;refine ja (hl pins s σ H _ I h) λv s1⟨x,H1,I1,r1,q1⟩=>?_;obtain⟨a,e,⟨xs,hq⟩,q⟩:=q1;subst e;cases r1;obtain⟨its,rv,p,hz⟩:=I1.list hq;refine wpAny_pyIter_list p.isList ?_;refine⟨s1.heap.objs.size,[s1.heap.objs.size],_,_,H1,rfl,I1.kept (t':=s1.toks) λb o e=>Heap.get?_push_of_some _ e,ZA a _,⟨_,Heap.get?_push_size _ rfl,rfl,rfl⟩,λb hb=>?_,q⟩;have e:b=s1.heap.objs.size:=by simpa using hb
 subst e;exact I1.fpOk ↑h (I1.hok.fresh ↑h)
theorem QU{l:Expr}{tl:TE}(hl:PE X l tl):PI X tg l (UE X.K tl):=by
 intro pins s σ H R I h;refine ja (hl pins s σ H _ I h) λv s1⟨x,H1,I1,r1,q1⟩=>?_;obtain⟨a,e,⟨xs,hq⟩,q⟩:=q1;subst e;cases r1;obtain⟨its,rv,p,hz⟩:=I1.tuple hq;refine wpAny_pyIter_tuple (show s1.heap.IsTuple a its.toArray from p) ?_;refine⟨s1.heap.objs.size,[s1.heap.objs.size],_,_,H1,rfl,I1.kept (t':=s1.toks) λb o e=>Heap.get?_push_of_some _ e,aS a _,⟨_,Heap.get?_push_size _ rfl,rfl,rfl⟩,λb hb=>?_,q⟩;have e:b=s1.heap.objs.size:=by simpa using hb
 subst e;exact I1.fpOk ↑h (I1.hok.fresh ↑h)
theorem cC{pins:List ↑j}{σ:St}{H:Hp}{s:Shared}{R:It->Hp->Prop}{E:Value->Shared->Prop}{lo hi:Int}{t u v:Tok}{tk:Nat}(I:zo X pins σ H s)(h1:-(2^62)<=lo)(h2:lo<2^62)(h3:-(2^62)<=hi)(h4:hi<2^62)(q:R (UD lo (hi-lo).toNat) H):wpAny ↑a X.A (pyIter ↑A) (MQ X pins σ tg R) E {s with heap:=s.heap.push {cls:=.type "range",data:=.fields #[.int lo t,.int hi u,.int 1 v]},toks:=tk}:=by
 refine wpAny_pyIter_range (IsRange.new ..) (small_one h1 h2 h3 h4) ?_;have I1:zo X pins σ H {s with heap:=s.heap.push {cls:=.type "range",data:=.fields #[.int lo t,.int hi u,.int 1 v]},toks:=tk}:=I.kept λb o e=>Heap.get?_push_of_some _ e;refine⟨(s.heap.push {cls:=.type "range",data:=.fields #[.int lo t,.int hi u,.int 1 v]}).objs.size,[(s.heap.push {cls:=.type "range",data:=.fields #[.int lo t,.int hi u,.int 1 v]}).objs.size],_,_,H,rfl,I1.kept (t':=tk) λb o e=>Heap.get?_push_of_some _ e,aT _ lo (hi-lo).toNat,?_,λb hb=>?_,q⟩
 ·have e1:lo+((0:Nat):Int)*1=lo:=by simp
  have e2:(((hi-lo).toNat:Nat):Int)-((0:Nat):Int)=Builtin.Range.rangeSize lo hi 1:=by rw[rangeSize_one];split<;>omega
  show IsRangeIter _ _ (lo+((0:Nat):Int)*1) ((((hi-lo).toNat:Nat):Int)-((0:Nat):Int)) 1;rw[e1,e2];exact Heap.get?_push_size _ rfl
 ·have e:b=(s.heap.push {cls:=.type "range",data:=.fields #[.int lo t,.int hi u,.int 1 v]}).objs.size:=by simpa using hb
  subst e;exact I1.fpOk ↑h (I1.hok.fresh ↑h)
def UF(ta:TA):TI:=λσ H R=>ta σ H λvs H1=>∃j:Int,vs=[.int j]/\-(2^62)<=j/\j<2^62/\R (UD 0 j.toNat) H1
def UG(ta:TA):TI:=λσ H R=>ta σ H λvs H1=>∃i j:Int,vs=[.int i,.int j]/\(-(2^62)<=i/\i<2^62/\-(2^62)<=j/\j<2^62)/\R (UD i (j-i).toNat) H1
theorem ij{a:Expr}{ta:TA}{p pos:Pos}(hg:Gl X "range")(hm:X.mg "range"=none)(ha:PA X [a] ta)(hs:starEach [a] X.env=[(false,eval a X.env)]:=by rfl):PI X tg (.Call (.Name "range" p) [a] [] pos) (UF ta):=by intro pins s σ H R I h;refine Call_ (kL I hg hm boot_range (PyProof.Rows.callWith_type1 (ja (ha pos pins s σ H _ I h) λus s1⟨vs,H1,I1,r1,q1⟩=>?_) hs rfl));obtain⟨j,e,q1,q2,q⟩:=q1;subst e;cases r1 with|cons r rr=>cases rr;obtain⟨t,rfl⟩:=r;exact call_range_1 (cC I1 ↑c ↑c q1 q2 (by simpa using q))
theorem ZB{a b:Expr}{ta:TA}{p pos:Pos}(hg:Gl X "range")(hm:X.mg "range"=none)(ha:PA X [a,b] ta)(hs:starEach [a,b] X.env=[(false,eval a X.env),(false,eval b X.env)]:=by rfl)(hs2:starEach [b] X.env=[(false,eval b X.env)]:=by rfl):PI X tg (.Call (.Name "range" p) [a,b] [] pos) (UG ta):=by intro pins s σ H R I h;refine Call_ (kL I hg hm boot_range (PyProof.Rows.callWith_type1 (ja (ha pos pins s σ H _ I h) λus s1⟨vs,H1,I1,r1,q1⟩=>?_) (by rw[hs,hs2]) (by rw[hs2];rfl)));obtain⟨i,j,e,⟨q1,q2,q3,q4⟩,q⟩:=q1;subst e;cases r1 with|cons r rr=>cases rr with|cons r' rr=>cases rr;obtain⟨t,rfl⟩:=r;obtain⟨t',rfl⟩:=r';exact call_range_2 (cC I1 q1 q2 q3 q4 q)
def QV(wi:TI)(g:TG)(tb:TS):TS:=λD σ H=>wi σ H λJ H1=>∃W:Nat->Nat->St->Hp->Prop,(∃m,W 0 m σ H1)/\∀i m σ H,W i m σ H->(J.stop i H/\D.nx σ H)\/(J.go i H/\∃N:St->Hp->Prop,(∀σ' H',N σ' H'->∃m',m'<m/\W (i+1) m' σ' H')/\∀x H',J.yld i H x H'->g x σ H' λσ2 H2=>tb {D with nx:=N,ct:=N,bk:=D.nx} σ2 H2)
def pY(fp:List Addr)(h:Heap):List ↑j:=fp.filterMap λb=>(h.get? b).map λo=>(b,o)
theorem xl{fp:List Addr}{h:Heap}{b:Addr}{o:Obj}(hb:b∈fp)(e:h.get? b=some o):(b,o)∈pY fp h:=List.mem_filterMap.mpr ⟨b,hb,by rw[e];rfl⟩
theorem ZC{fp:List Addr}{h:Heap}{p:Addr×Obj}(hp:p∈pY fp h):p.1∈fp/\h.get? p.1=some p.2:=by obtain⟨b,hb,e⟩:=List.mem_filterMap.mp hp;cases q:h.get? b with|none=>rw[q]at e;cases e|some o=>rw[q]at e;have e':(b,o)=p:=Option.some.inj e;subst e';exact⟨hb,q⟩
theorem zo.pinned{pins:List ↑j}{σ:St}{H:Hp}{s:Shared}{fp:List Addr}(I:zo X pins σ H s)(hf:∀b∈fp,qT X pins H b)(ho:∀b∈fp,∃o,s.heap.get? b=some o/\∀v,o.data≠.cell v):zo X (pins++pY fp s.heap) σ H s:=I.pins_of λp hp=>(List.mem_append.mp hp).elim (λz=>I.pin p (List.mem_append_right _ z)) λz=>by obtain⟨hb,e⟩:=ZC z;obtain⟨f0,f1,f2,_⟩:=hf p.1 hb;obtain⟨o,e',d⟩:=ho p.1 hb;rw[e]at e';cases e';exact⟨e,f0,f1,f2,d⟩
theorem zo.unpinned{pins pl:List ↑j}{σ:St}{H:Hp}{s:Shared}(I:zo X (pins++pl) σ H s):zo X pins σ H s:=I.pins_of λp hp=>I.pin p (List.mem_append_right _ (List.mem_append_left _ hp))
theorem aU{iter:Expr}{body:List Stmt}{wi:TI}{g:TG}{tb:TS}{pos:Pos}(hp:PassesOwn ↑a X.A X.env X.xe)(hc:X.calm=true)(hi:PI X tg iter wi)(hg:PG X tg g)(hb:cu X body tb)(hs:∀x,foldedSetIterable iter X.env x=pure x:=by intro _;rfl):PS X (.For tg iter body [] pos) (QV wi g tb):=by
 intro pins s σ H D I h;refine wpAny_For (ja (hi pins s σ H _ I h) λv s1 h1=>ja h1 λitv s2 h2=>?_) hs;obtain⟨it,fp,tn,J,H2,e,I2,T,st2,f2,W,⟨m0,w0⟩,turn⟩:=h2;subst e--what stays true of the iterator's objects through the loop
 have stat:∀{H':Hp},(∀b∈fp,H' b=none)->∀b∈fp,qT X pins H' b:=λhn b hb=>⟨hn b hb,(f2 b hb).2⟩;refine codeAny_forLoop_any (λn s'=>∃i σ' H',zo X pins σ' H' s'/\tn i s'.heap/\(∀b∈fp,H' b=none)/\W i n σ' H') ?_ m0 ⟨0,σ,H2,I2,st2,λb hb=>(f2 b hb).1,w0⟩;rintro n s3⟨i,σ3,H3,I3,st3,fr3,w3⟩;rcases turn i n σ3 H3 w3 with⟨stop,qn⟩|⟨go,N,hN,step⟩;·refine wpAny_passesOwn hp (ja (T.done X rfl rfl rfl hc i pins s3 σ3 H3 X.xe I3 (stat fr3) st3 stop) λr s4⟨hr,I4⟩=>?_);subst hr;exact wpAny_execs_nil ⟨σ3,H3,I4,qn⟩
 ·refine wpAny_passesOwn hp (ja (T.item X rfl rfl rfl hc i pins s3 σ3 H3 X.xe I3 (stat fr3) st3 go) λr s4⟨u,hr,h4⟩=>?_);subst hr;refine wpAny_passesOwn hp (ja h4 λ_ s5⟨x,H5,I5,r5,y5,st5,fr5⟩=>?_);have I5':=I5.pinned (stat fr5) (T.obj _ _ st5);refine wpAny_passesOwn hp (ja (hg _ s5 σ3 H5 x u _ I5' r5 (step x H5 y5)) λ_ s6⟨σ6,H6,I6,q6⟩=>?_);refine wpAny_passesOwn hp (ja (hb _ s6 σ6 H6 _ I6 q6) λf s7 q7=>?_);have again:∀{σ7:St}{H7:Hp},zo X (pins++pY fp s5.heap) σ7 H7 s7->N σ7 H7->∃m,m<n/\∃i σ' H',zo X pins σ' H' s7/\tn i s7.heap/\(∀b∈fp,H' b=none)/\W i m σ' H':=λ{σ7 H7}I7 n7=>by obtain⟨m',hm,w7⟩:=hN σ7 H7 n7;refine⟨m',hm,i+1,σ7,H7,I7.unpinned,T.keep _ _ _ st5 λb hb o e=>(I7.pin (b,o) ↑N).1,λb hb=>?_,w7⟩;obtain⟨o,e,d⟩:=T.obj _ _ st5 b hb;exact(I7.pin (b,o) ↑N).2.1
  cases f with|next=>obtain⟨σ7,H7,I7,n7⟩:=q7;exact again I7 n7|cont=>obtain⟨σ7,H7,I7,n7⟩:=q7;exact again I7 n7|brk=>obtain⟨σ7,H7,I7,q7⟩:=q7;exact⟨σ7,H7,I7.unpinned,q7⟩|ret v=>obtain⟨x7,σ7,H7,I7,r7,q7⟩:=q7;exact⟨x7,σ7,H7,I7.unpinned,r7,q7⟩
end
abbrev R2:=V->V->Hp->VK->Prop
def ve(X:Cx)(f:Value->Value->Sem Value)(r:R2):Prop:=∀(pins:List ↑j)(s:Shared)(σ:St)(H:Hp)(x y:V)(v u:Value)(Q:VK),zo X pins σ H s->RelV x v->RelV y u->r x y H Q->wpAny ↑a X.A (f v u) (EP X pins σ Q) X.xe s
def MV(X:Cx)(f:Value->Sem Value)(r:V->Hp->VK->Prop):Prop:=∀(pins:List ↑j)(s:Shared)(σ:St)(H:Hp)(x:V)(v:Value)(Q:VK),zo X pins σ H s->RelV x v->r x H Q->wpAny ↑a X.A (f v) (EP X pins σ Q) X.xe s
def vg(X:Cx)(f:Value)(r:List V->Hp->VK->Prop):Prop:=∀(pins:List ↑j)(s:Shared)(σ:St)(H:Hp)(xs:List V)(us:List Value)(Q:VK),zo X pins σ H s->zE xs us->r xs H Q->wpAny ↑a X.A (call f us) (EP X pins σ Q) X.xe s
def MW(X:Cx)(r:V->Hp->(Bool->Hp->Prop)->Prop):Prop:=∀(pins:List ↑j)(s:Shared)(σ:St)(H:Hp)(x:V)(v:Value)(Q:Bool->Hp->Prop),zo X pins σ H s->RelV x v->r x H Q->wpAny ↑a X.A (truthy v) (TP X pins σ Q) X.xe s
def UH(r:R2)(ta tb:TE):TE:=λσ H Q=>ta σ H λx H1=>tb σ H1 λy H2=>r x y H2 Q
def Ik(r:V->Hp->VK->Prop)(ta:TE):TE:=λσ H Q=>ta σ H λx H1=>r x H1 Q
def rI(C:Int->Int->Prop)(g:Int->Int->V):R2:=λx y H Q=>∃i j,x=.int i/\y=.int j/\C i j/\Q (g i j) H
def KP(g:Int->Int->V):R2:=λx y H Q=>∃i j,x=.int i/\y=.int j/\Q (g i j) H
def rU(g:Int->V):V->Hp->VK->Prop:=λx H Q=>∃i,x=.int i/\Q (g i) H
section
variable{X:Cx}{a b c:Expr}{ta tb tc:TE}{pos:Pos}
theorem QW(ha:PE X a ta)(hb:PE X b tb){pins:List ↑j}{s:Shared}{σ:St}{H:Hp}{R:V->V->Hp->Prop}(I:zo X pins σ H s)(h:ta σ H λx H1=>tb σ H1 λy H2=>R x y H2){Q:Value->Shared->Prop}{f:Value->Value->Sem Value}(hf:∀v u s2 x y H2,zo X pins σ H2 s2->RelV x v->RelV y u->R x y H2->wpAny ↑a X.A (f v u) Q X.xe s2):wpAny ↑a X.A (eval a X.env) (λv s₁=>wpAny ↑a X.A (eval b X.env) (λu s₂=>wpAny ↑a X.A (f v u) Q X.xe s₂) X.xe s₁) X.xe s:=by refine ja (ha pins s σ H _ I h) λv s1⟨x,H1,I1,r1,q1⟩=>?_;refine ja (hb pins s1 σ H1 _ I1 q1) λu s2⟨y,H2,I2,r2,q2⟩=>?_;exact hf v u s2 x y H2 I2 r1 r2 q2
theorem UI{op:Operator}{r:R2}(ho:ve X (binaryOp op) r)(ha:PE X a ta)(hb:PE X b tb):PE X (.BinOp a op b pos) (UH r ta tb):=by intro pins s σ H Q I h;exact wpAny_BinOp (QW ha hb I h λv u s2 x y H2 I2 rx ry q=>ho pins s2 σ H2 x y v u Q I2 rx ry q)
theorem KQ{op:UnaryOp}{r:V->Hp->VK->Prop}(ho:MV X (unaryOp op) r)(ha:PE X a ta):PE X (.UnaryOp op a pos) (Ik r ta):=by intro pins s σ H Q I h;exact UnaryOp_ (ja (ha pins s σ H _ I h) λv s1⟨x,H1,I1,r1,q1⟩=>ho pins s1 σ H1 x v Q I1 r1 q1)
theorem MX{f:Value->Value->Sem Value}{C:Int->Int->Prop}{g:Int->Int->Int}(rule:∀(i j:Int)(t u:Tok)(s:Shared)(Q:Value->Shared->Prop)(E:Value->Shared->Prop),C i j->Q (.int (g i j) s.toks) {s with toks:=s.toks+1}->wpAny ↑a X.A (f (.int i t) (.int j u)) Q E s):ve X f (rI C λi j=>.int (g i j)):=by intro pins s σ H x y v u Q I rx ry h;obtain⟨i,j,rfl,rfl,hc,q⟩:=h;obtain⟨t,rfl⟩:=rx;obtain⟨t',rfl⟩:=ry;exact rule i j t t' s _ _ hc ⟨.int (g i j),H,I.tok _,⟨_,rfl⟩,q⟩
theorem UJ{f:Value->Value->Sem Value}{g:Int->Int->Int}(rule:∀(i j:Int)(t u:Tok)(s:Shared)(Q:Value->Shared->Prop)(E:Value->Shared->Prop),Q (.int (g i j) s.toks) {s with toks:=s.toks+1}->wpAny ↑a X.A (f (.int i t) (.int j u)) Q E s):ve X f (KP λi j=>.int (g i j)):=by intro pins s σ H x y v u Q I rx ry h;obtain⟨i,j,rfl,rfl,q⟩:=h;obtain⟨t,rfl⟩:=rx;obtain⟨t',rfl⟩:=ry;exact rule i j t t' s _ _ ⟨.int (g i j),H,I.tok _,⟨_,rfl⟩,q⟩
theorem WH{f:Value->Value->Sem Value}{g:Int->Int->Bool}(rule:∀(i j:Int)(t u:Tok)(s:Shared)(Q:Value->Shared->Prop)(E:Value->Shared->Prop),Q (.bool (g i j)) s->wpAny ↑a X.A (f (.int i t) (.int j u)) Q E s):ve X f (KP λi j=>.bl (g i j)):=by intro pins s σ H x y v u Q I rx ry h;obtain⟨i,j,rfl,rfl,q⟩:=h;obtain⟨t,rfl⟩:=rx;obtain⟨t',rfl⟩:=ry;exact rule i j t t' s _ _ ⟨.bl (g i j),H,I,rfl,q⟩
def WI(i j:Int):Prop:=0<j/\j<1073741824
def UK(i j:Int):Prop:=0<=j/\j<=1000000/\i.natAbs<2^64
def ZD(i j:Int):Prop:=(-(2^64)<i/\i<2^64)\/(-(2^64)<j/\j<2^64)
theorem ZD.ok{i j:Int}(h:ZD i j):IntMulOk i j:=by
 rcases h with⟨h1,h2⟩|⟨h1,h2⟩;·exact .of_left (intBits_le_64 h1 h2)
 ·exact .of_right (intBits_le_64 h1 h2)
theorem QX:ve X (binaryOp .Add) (KP λi j=>.int (i+j)):=UJ λ_ _ _ _ _ _ _ q=>add_int q
theorem QY:ve X (binaryOp .Sub) (KP λi j=>.int (i-j)):=UJ λ_ _ _ _ _ _ _ q=>sub_int q
theorem QZ:ve X (binaryOp .Mult) (rI ZD λi j=>.int (i*j)):=MX λ_ _ _ _ _ _ _ hc q=>mul_int q hc.ok
theorem WJ:ve X (binaryOp .FloorDiv) (rI WI λi j=>.int (i/j)):=MX λi j _ _ _ _ _ hc q=>by have h1:(0:Int)<j:=hc.1;have h2:j<1073741824:=hc.2;exact floordiv_int ↑c (by rw[Int.fdiv_eq_ediv_of_nonneg i ↑c];exact q) (.inl (PyProof.noPylong_small ↑c))
theorem G0:ve X (binaryOp .Mod) (rI (λ_ j=>0<j) λi j=>.int (i%j)):=MX λi j _ _ _ _ _ hc q=>by have h1:(0:Int)<j:=hc;exact mod_int' ↑c (by rw[Int.fmod_eq_emod_of_nonneg i ↑c];exact q)
theorem IL{f:Value->Sem Value}{g:Int->Int}(rule:∀(i:Int)(t:Tok)(s:Shared)(Q:Value->Shared->Prop)(E:Value->Shared->Prop),Q (.int (g i) s.toks) {s with toks:=s.toks+1}->wpAny ↑a X.A (f (.int i t)) Q E s):MV X f (rU λi=>.int (g i)):=by intro pins s σ H x v Q I rx h;obtain⟨i,rfl,q⟩:=h;obtain⟨t,rfl⟩:=rx;exact rule i t s _ _ ⟨.int (g i),H,I.tok _,⟨_,rfl⟩,q⟩
theorem JR:MV X (unaryOp .USub) (rU λi=>.int (-i)):=IL λ_ _ _ _ _ q=>neg_int q
end
section
variable{X:Cx}{a b c:Expr}{ta tb tc:TE}{pos:Pos}
theorem pZ{pins:List ↑j}{σ:St}{H:Hp}{s:Shared}{Q:VK}{k k':Bool}(I:zo X pins σ H s)(q:Q (.bl k) H)(e:k=k'):EP X pins σ Q (.bool k') s:=by subst e;exact⟨.bl k,H,I,rfl,q⟩
theorem UL:ve X (compareOp .Lt) (KP λi j=>.bl (decide (i<j))):=WH λ_ _ _ _ _ _ _ q=>lt_int q
theorem UM:ve X (compareOp .LtE) (KP λi j=>.bl (decide (i<=j))):=WH λ_ _ _ _ _ _ _ q=>le_int q
theorem UN:ve X (compareOp .Gt) (KP λi j=>.bl (decide (j<i))):=WH λ_ _ _ _ _ _ _ q=>gt_int q
theorem UO:ve X (compareOp .GtE) (KP λi j=>.bl (decide (j<=i))):=WH λ_ _ _ _ _ _ _ q=>ge_int q
theorem ZE:ve X (compareOp .Lt) (λx y H Q=>∃i j,x=.str i/\y=.str j/\Q (.bl (decide (i.cps.toList<j.cps.toList))) H):=by intro pins s σ H x y v u Q I rx ry h;obtain⟨i,j,rfl,rfl,q⟩:=h;obtain⟨t,rfl⟩:=rx;obtain⟨t',rfl⟩:=ry;exact lt_str (pZ I q rfl)
theorem G1:ve X (compareOp .Is) (λx y H Q=>y=.non/\Q (.bl (decide (x=.non))) H):=by intro pins s σ H x y v u Q I rx ry h;obtain⟨rfl,q⟩:=h;cases ry;refine is_none_gen (pZ I q ?_);cases x<;>first|(cases rx;rfl)|(obtain⟨t,rfl⟩:=rx;rfl)
theorem WK:ve X (compareOp .IsNot) (λx y H Q=>y=.non/\Q (.bl (!decide (x=.non))) H):=by intro pins s σ H x y v u Q I rx ry h;obtain⟨rfl,q⟩:=h;cases ry;refine isnot_none_gen (pZ I q ?_);cases x<;>first|(cases rx;rfl)|(obtain⟨t,rfl⟩:=rx;rfl)
theorem eJ(b:Expr){op:CmpOp}(h:op≠.In:=by decide)(h2:op≠.NotIn:=by decide):behindInMarks op b=false:=by
 have e1:(op==CmpOp.In)=false:=by cases op<;>first|rfl|exact absurd rfl h
 have e2:(op==CmpOp.NotIn)=false:=by cases op<;>first|rfl|exact absurd rfl h2
 cases b<;>simp[behindInMarks,e1,e2]
theorem WL{op:CmpOp}{r:R2}(ho:ve X (compareOp op) r)(ha:PE X a ta)(hb:PE X b tb)(hm:behindInMarks op b=false):PE X (.Compare a [op] [b] pos) (UH r ta tb):=by intro pins s σ H Q I h;exact wpAny_Compare1 (QW ha hb I h λv u s2 x y H2 I2 rx ry q=>ho pins s2 σ H2 x y v u Q I2 rx ry q) hm
def JS(t:TE):TT:=λσ H Q=>t σ H λx H'=>∃k,x=.bl k/\Q k H'
theorem WM{op:CmpOp}{r:R2}(ho:ve X (compareOp op) r)(ha:PE X a ta)(hb:PE X b tb)(hm:behindInMarks op b=false):PT X (.Compare a [op] [b] pos) (JS (UH r ta tb)):=by intro pins s σ H Q I h;refine wpAny_isTrue_Compare1 (ja (ha pins s σ H _ I h) λv s1⟨x,H1,I1,r1,q1⟩=>ja (hb pins s1 σ H1 _ I1 q1) λu s2⟨y,H2,I2,r2,q2⟩=>ja (ho pins s2 σ H2 x y v u _ I2 r1 r2 q2) λc s3⟨z,H3,I3,r3,k,e,q3⟩=>?_) hm;subst e;cases r3;exact wpAny_truthy_bool ⟨H3,I3,q3⟩
def aV(r r':R2)(ta tb tc:TE):TE:=λσ H Q=>ta σ H λx H1=>tb σ H1 λy H2=>r x y H2 λz H3=>∃k,z=.bl k/\(if k=true then tc σ H3 λw' H4=>r' y w' H4 Q else Q (.bl false) H3)
theorem JT{op op':CmpOp}{r r':R2}(ho:ve X (compareOp op) r)(ho':ve X (compareOp op') r')(ha:PE X a ta)(hb:PE X b tb)(hc:PE X c tc)(hm:lastMarks [op,op'] [b,c]=false:=by with_unfolding_all rfl):PE X (.Compare a [op,op'] [b,c] pos) (aV r r' ta tb tc):=by intro pins s σ H Q I h;refine Compare_chain (ja (ha pins s σ H _ I h) λv s1⟨x,H1,I1,r1,q1⟩=>chain_link (ja (hb pins s1 σ H1 _ I1 q1) λu s2⟨y,H2,I2,r2,q2⟩=>ja (ho pins s2 σ H2 x y v u _ I2 r1 r2 q2) λd s3⟨z,H3,I3,r3,k,e,q3⟩=>?_)) hm;subst e;cases r3;refine wpAny_truthy_bool ?_;cases k with|false=>exact ite_ff ⟨.bl false,H3,I3,rfl,q3⟩|true=>exact ite_tt (chain_last (ja (hc pins s3 σ H3 _ I3 q3) λw' s4⟨z',H4,I4,r4,q4⟩=>ho' pins s4 σ H4 y z' u w' Q I4 r2 r4 q4))
theorem JU{op op':CmpOp}{r r':R2}(ho:ve X (compareOp op) r)(ho':ve X (compareOp op') r')(ha:PE X a ta)(hb:PE X b tb)(hc:PE X c tc)(hm:lastMarks [op,op'] [b,c]=false:=by with_unfolding_all rfl):PT X (.Compare a [op,op'] [b,c] pos) (JS (aV r r' ta tb tc)):=by intro pins s σ H Q I h;refine isTrue_chain (ja (ha pins s σ H _ I h) λv s1⟨x,H1,I1,r1,q1⟩=>test_link (ja (hb pins s1 σ H1 _ I1 q1) λu s2⟨y,H2,I2,r2,q2⟩=>ja (ho pins s2 σ H2 x y v u _ I2 r1 r2 q2) λd s3⟨z,H3,I3,r3,k,e,q3⟩=>?_)) hm;subst e;cases r3;refine wpAny_truthy_bool ?_;cases k with|false=>obtain⟨k',e',q'⟩:=q3;cases e';exact ite_ff ⟨H3,I3,q'⟩|true=>refine ite_tt (test_last (ja (hc pins s3 σ H3 _ I3 q3) λw' s4⟨z',H4,I4,r4,q4⟩=>ja (ho' pins s4 σ H4 y z' u w' _ I4 r2 r4 q4) λd' s5⟨z2,H5,I5,r5,k2,e2,q5⟩=>?_));subst e2;cases r5;exact wpAny_truthy_bool ⟨H5,I5,q5⟩
def G2(K:W.Frag)(x:V)(H:Hp)(k:Bool):Prop:=match x with|.non=>k=false|.bl b=>k=b|.int i=>k=(i !=0)|.str y=>y.length<=sizeLine/\k=((y.length:Int)!=0)|.byt y=>y.size<=sizeLine/\k=((y.size:Int)!=0)|.ref p=>(∃xs,fo K H p xs/\k=!xs.isEmpty)\/(∃xs,fX K H p xs/\k=!xs.isEmpty)\/∃kvs,H p=some (.dK kvs)/\k=!kvs.isEmpty|_=>False
theorem aW{κ:Type}{kvs:List (κ×V)}{vs:List (κ×Value)}(r:KV kvs vs):(!vs.isEmpty)=!kvs.isEmpty:=by cases r<;>rfl
theorem nV{xs:List V}{its:List Value}(r:zE xs its):(!its.toArray.isEmpty)=!xs.isEmpty:=by cases r<;>simp
theorem fq:(sizeLine:Nat)<2^63:=by rw[sizeLine_eq];decide
theorem G3:MW X (λx H Q=>∃k,G2 X.K x H k/\Q k H):=by intro pins s σ H x v Q I rx h;obtain⟨k,e,q⟩:=h;have hl:=fq;have hs:sizeLine=16777216:=sizeLine_eq;cases x with|non=>cases rx;have e':k=false:=e;subst e';exact truthy_none ⟨H,I,q⟩|bl b=>cases rx;have e':k=b:=e;subst e';exact wpAny_truthy_bool ⟨H,I,q⟩|int i=>obtain⟨t,rfl⟩:=rx;have e':k=(i !=0):=e;subst e';exact PySem.P.truthy_int ⟨H,I,q⟩|str y=>obtain⟨t,rfl⟩:=rx;obtain⟨hy,e'⟩:y.length<=sizeLine/\k=((y.length:Int)!=0):=e;subst e';exact PySem.P.truthy_str ↑c ⟨H,I.tok _,q⟩|byt y=>obtain⟨t,rfl⟩:=rx;obtain⟨hy,e'⟩:y.size<=sizeLine/\k=((y.size:Int)!=0):=e;subst e';exact W.truthy_bytes ↑c ⟨H,I.tok _,q⟩|ref p=>
  cases rx;have e':(∃xs,fo X.K H p xs/\k=!xs.isEmpty)\/(∃xs,fX X.K H p xs/\k=!xs.isEmpty)\/∃kvs,H p=some (.dK kvs)/\k=!kvs.isEmpty:=e;rcases e' with⟨xs,hx,e'⟩|⟨xs,hx,e'⟩|⟨kvs,hx,e'⟩;·subst e';obtain⟨its,r,pl,hz⟩:=I.list hx;have hlen:=r.length;exact wpAny_truthy_list pl.isList (by simp only[List.size_toArray];omega) ⟨H,I.tok _,by rw[nV r];exact q⟩
  ·subst e';obtain⟨its,r,pl,hz⟩:=I.tuple hx;have hlen:=r.length;exact truthy_tuple pl (by simp only[List.size_toArray];omega) ⟨H,I.tok _,by rw[nV r];exact q⟩
  ·subst e';obtain⟨hz,hS,vs,r,m⟩:kvs.length<=sizeLine/\(p==sysModules)=false/\∃vs,KV kvs vs/\s.heap.DictOf (zU X.prog X.w) p vs:=I.hok p _ hx;have hlen:kvs.length=vs.length:=Paired.length r;exact wpAny_truthy_dict hS m ↑c ⟨H,I.tok _,by rw[aW r];exact q⟩|_=>exact(show False from e).elim
theorem JV(ha:PE X a ta)(he:∀whole,isTrue a X.env whole=(do let v<-whole;standAt a.pos;holding [v] (truthy v))):PT X a (λσ H Q=>ta σ H λx H'=>∃k,G2 X.K x H' k/\Q k H'):=by intro pins s σ H Q I h;exact isTrue_plain (ja (ha pins s σ H _ I h) λv s1⟨x,H1,I1,r1,q1⟩=>G3 pins s1 σ H1 x v Q I1 r1 q1) (he _)
theorem aX:ve X (binaryOp .Add) (λx y H Q=>∃i j,x=.str i/\y=.str j/\i.length+j.length<=sizeLine/\Q (.str (i++j)) H):=by intro pins s σ H x y v u Q I rx ry h;obtain⟨i,j,rfl,rfl,hz,q⟩:=h;obtain⟨t,rfl⟩:=rx;obtain⟨t',rfl⟩:=ry;exact add_str (λt' tk=>⟨.str (i++j),H,I.tok _,⟨_,rfl⟩,q⟩) hz
theorem gQ{x:V}{us:List Value}(r:zE [x] us):∃u,us=[u]/\RelV x u:=by cases r with|cons r1 r2=>cases r2;exact⟨_,rfl,r1⟩
theorem KR{x y:V}{us:List Value}(r:zE [x,y] us):∃u w',us=[u,w']/\RelV x u/\RelV y w':=by cases r with|cons r1 r2=>cases r2 with|cons r3 r4=>cases r4;exact⟨_,_,rfl,r1,r3⟩
end
structure aY(h:Heap)(x dx C:Addr)(mA:Str->Option Value):Prop where
 obj:h.get? x=some (W.instObj C dx)ns:h.Ns1 dx mA
 ne:dx≠x
theorem ik{h:Heap}{dx:Addr}{mA:Str->Option Value}(n:h.Ns1 dx mA):∃od,h.get? dx=some od/\∀name,W.lookIn name od=some (mA name):=by
 obtain⟨o,es,ep,ho,hd,hk,_,hm⟩:=n;refine⟨o,ho,λname=>?_⟩;have e:=hm name;unfold nsFind findBy at e;rw[<-Array.find?_toList]at e;unfold W.lookIn;rw[hd];dsimp only;split;·rename_i y q;rw[q]at e;exact congrArg some e
 ·rename_i q;rw[q]at e;have a:es.toList.any (·.refKey)=false:=by rw[List.any_eq_false];intro y hy;obtain⟨z,t,hkey⟩:=hk y (Array.mem_toList_iff.mp hy);simp[DictEntry.refKey,hkey]
  have a':¬es.toList.any (·.refKey)=true:=by rw[a];exact Bool.false_ne_true
  rw[if_neg a'];exact congrArg some e
theorem aY.look{h:Heap}{x dx C:Addr}{mA:Str->Option Value}(I:aY h x dx C mA):∃od,W.InstAt h x (W.instObj C dx) C (some od)/\∀name,W.lookIn name od=some (mA name):=let⟨od,ho,hl⟩:=ik I.ns;⟨od,⟨I.obj,rfl,rfl,ho⟩,hl⟩
section
variable{prog:Program}{w:World}{A:Around}{E:Value->Shared->Prop}{s:Shared}{K:W.Frag}{x dx C f:Addr}{mA:Str->Option Value}{name:Str}{v:Value}
theorem qk{expr:Bool}{Q:Value->Shared->Prop}(X:K.In s.heap)(I:aY s.heap x dx C mA)(hg:W.plainGet K C name=true)(hh:W.hasDictIn K C=true)(ha:W.findIn K ↑Q name=some none)(hv:mA name=some v)(hv':W.handedIn v=true)(h:Q v {s with toks:=s.toks+1}):wpAny ↑d A (getAttr (.ref x) name expr) Q E s:=by obtain⟨od,J,hl⟩:=I.look;exact W.get_value X J (W.plainGet_of hg).1 (W.findObj_own hh ha rfl (by rw[hl,hv])) hv' h
theorem JW{pl:Sem Bool}{Q:Value×List Value->Shared->Prop}(X:K.In s.heap)(I:aY s.heap x dx C mA)(hg:W.plainGet K C name=true)(hf:W.findIn K ↑Q name=some (some (.ref f)))(ht:W.isFn K (.ref f)=true)(hv:mA name=none)(h:Q (.ref f,[.ref x]) s):wpAny ↑d A (getMethod (.ref x) name pl) Q E s:=by obtain⟨od,J,hl⟩:=I.look;exact W.method_fn X J (W.plainGet_of hg).1 (W.plainGet_of hg).2 hf (beq_iff_eq.mp ht) (by show(W.lookIn name od).map (·.isSome)=some false;rw[hl,hv];rfl) h
theorem WN{ns:List Str}{Q:Unit->Shared->Prop}(X:K.In s.heap)(I:aY s.heap x dx C mA)(hs:W.findIn K ↑Q "__setattr__"=some (some (.builtin "object.__setattr__")))(hp:W.plainOver K C=true)(ht:W.takerIn K C name=some none)(hh:W.hasDictIn K C=true)(hw:PySem.Within mA ns)(hsz:ns.length<=sizeLine)(h:∀h',aY h' x dx C (λy=>if y=name then some v else mA y)->Heap.SameBut dx s.heap h'->Q () {s with heap:=h',toks:=s.toks+2}):wpAny ↑d A (setAttr (.ref x) name v) Q E s:=by obtain⟨od,J,hl⟩:=I.look;refine W.set_plain X J hs (W.osa_open (s:={s with toks:=s.toks+1}) (r:=none) X J hp ht λb=>?_);obtain⟨cd,hc,hd'⟩:=W.any_some hh;have hx:s.heap.get? x=some ⟨.ref C,some dx,.plain,#[]⟩:=I.obj;refine wpAny_bind (wpAny_pure (wpAny_bind (wpAny_bind (wpAny_loadPart hx (wpAny_bind (W.Looks.here (s:={s with toks:=s.toks+1}) (W.looks_clsIn X hc) ?_))))));rw[hd'];refine wpAny_pure (a:=some dx) (wpAny_bind (wpAny_pure (wpAny_bind ?_)));refine wpAny_nsSet1 (s:={s with toks:=s.toks+1}) I.ns λh' hn2 hs2=>?_;obtain⟨oD,esD,epD,hoD,hdD,hcD⟩:=hn2.count (PySem.Within.cons name v hw);refine wpAny_bind (wpAny_lookBehind hoD (by rw[hdD];exact pastItsLine_dict (Nat.le_trans hcD (by rw[List.length_cons];omega))) ?_);exact wpAny_pure (h _ ⟨(hs2.2 _ (Ne.symm I.ne)).trans I.obj,hn2,I.ne⟩ hs2)
theorem JX{R:Result->Shared->Prop}{vs:List Value}{kw:List (Str×Value)}(X:K.In s.heap)(hm:W.makesIn K C=true)(hi:W.findIn K ↑Q "__init__"=some (some (.ref f)))(hf:W.typeIn K (.ref f)=some (.type "function"))(h:codeAny ↑d (A.under (.builtin "type.__call__" ⟨.ref C::vs,kw⟩)) (.call (.ref f) ⟨.ref ↑w::vs,kw⟩) (W.InitBack ↑w R) {s with heap:=(s.heap.push W.emptyDict).push (W.instObj C s.heap.objs.size)}):codeAny ↑d A (.call ↑Q ⟨vs,kw⟩) R s:=by obtain⟨hh,g,d,t,os⟩:=s;exact W.make_core (W.makes_of X hm) (W.looks_findIn X hi) (λself=>W.bind_fn X self hf) (.inl rfl) h
end
def vA(f:Str)(v:V):List (Str×V)->List (Str×V)|[]=>[(f,v)]|(g,x)::r=>if g=f then(g,v)::r else(g,x)::vA f v r
theorem uw(f g:Str)(v:V):∀fs:List (Str×V),(vA f v fs).lookup g=if g=f then some v else fs.lookup g
 |[]=>by
  show List.lookup g [(f,v)]=_;by_cases h:g=f;·have hb:(g==f)=true:=beq_iff_eq.mpr h;simp only[List.lookup,hb,if_pos h]
  ·have hb:(g==f)=false:=beq_eq_false_iff_ne.mpr h;simp only[List.lookup,hb,if_neg h]|(k,x)::r=>by
  have ih:=uw f g v r;rw[show vA f v ((k,x)::r)=(if k=f then(k,v)::r else(k,x)::vA f v r)from rfl];by_cases hk:k=f
  ·rw[if_pos hk];by_cases h:g=k;·have hb:(g==k)=true:=beq_iff_eq.mpr h;simp only[List.lookup,hb,if_pos (h.trans hk)]
   ·have hb:(g==k)=false:=beq_eq_false_iff_ne.mpr h;simp only[List.lookup,hb,if_neg (λe:g=f=>h (e.trans hk.symm))]
  ·rw[if_neg hk];by_cases h:g=k;·have hb:(g==k)=true:=beq_iff_eq.mpr h;simp only[List.lookup,hb,if_neg (λe:g=f=>hk (h.symm.trans e))]
   ·have hb:(g==k)=false:=beq_eq_false_iff_ne.mpr h;simp only[List.lookup,hb];exact ih
theorem u0(f:Str)(v:V):∀fs:List (Str×V),f∈(vA f v fs).map (·.1)/\∀g,g∈fs.map (·.1)->g∈(vA f v fs).map (·.1)
 |[]=>⟨by simp[vA],λg h=>by simp at h⟩|(k,x)::r=>by
  obtain⟨i1,i2⟩:=u0 f v r;rw[show vA f v ((k,x)::r)=(if k=f then(k,v)::r else(k,x)::vA f v r)from rfl];by_cases hk:k=f;·rw[if_pos hk];subst hk;exact⟨by simp,λg h=>by simpa using h⟩
  ·rw[if_neg hk];refine⟨?_,λg h=>?_⟩;·rw[List.map_cons];exact List.mem_cons_of_mem _ i1
   ·rw[List.map_cons]at h⊢;rcases List.mem_cons.mp h with e|e;·exact List.mem_cons.mpr (.inl e)
    ·exact List.mem_cons_of_mem _ (i2 g e)
theorem ux(f:Str)(v:V):∀fs:List (Str×V),(vA f v fs).length<=fs.length+1
 |[]=>by simp[vA]|(k,x)::r=>by
  have ih:=ux f v r;rw[show vA f v ((k,x)::r)=(if k=f then(k,v)::r else(k,x)::vA f v r)from rfl];by_cases hk:k=f;·rw[if_pos hk,List.length_cons,List.length_cons];omega
  ·rw[if_neg hk,List.length_cons,List.length_cons];omega
theorem kX.some_of{v:V}{o:Option Value}(r:kX (some v) o):∃u,o=some u/\RelV v u:=by cases o with|none=>exact(show False from r).elim|some u=>exact⟨u,rfl,r⟩
theorem kX.none_of{o:Option Value}(r:kX none o):o=none:=by cases o with|none=>rfl|some u=>exact(show False from r).elim
theorem im{v:V}{u:Value}(r:RelV v u):W.handedIn u=true:=by cases v with|non=>cases(show u=Value.none from r);rfl|bl b=>cases(show u=Value.bool b from r);rfl|int i=>obtain⟨t,e⟩:=(show∃t,u=Value.int i t from r);cases e;rfl|str x=>obtain⟨t,e⟩:=(show∃t,u=Value.str x t from r);cases e;rfl|byt b=>obtain⟨t,e⟩:=(show∃t,u=Value.bytes b t from r);cases e;rfl|flt b=>obtain⟨t,e⟩:=(show∃t,u=Value.float b t from r);cases e;rfl|ref a=>cases(show u=Value.ref a from r);rfl|ty n=>cases(show u=Value.type n from r);rfl
section
variable{P:Program}{w:World}{H H':Hp}{h h':Heap}{a C dx:Addr}{fs fs':List (Str×V)}
theorem nI(hok:gx P w H h)(e:H a=some (.ins C dx fs)):∃mA,aY h a dx C mA/\(∀f,kX (fs.lookup f) (mA f))/\PySem.Within mA (fs.map (·.1))/\fs.length<=1000/\H dx=some (.own a):=by obtain⟨d,z,ne,ob,mA,n,r,q⟩:=(show jg P w H h a (.ins C dx fs)from hok a _ e);exact⟨mA,⟨ob,n,ne⟩,r,q,z,d⟩
end
structure lN(K:W.Frag)(C:Addr):Prop where
 pg:W.plainGet K C Str.empty=true
 hd:W.hasDictIn K C=true
 po:W.plainOver K C=true
 sa:W.findIn K ↑Q "__setattr__"=some (some (.builtin "object.__setattr__"))
theorem lN.get{K:W.Frag}{C:Addr}(c:lN K C)(f:Str):W.plainGet K C f=true:=c.pg
def jQ(K:W.Frag)(C:Addr)(f:Str):Prop:=W.findIn K ↑Q f=some none
theorem jQ.taker{K:W.Frag}{C:Addr}{f:Str}(n:jQ K C f):W.takerIn K C f=some none:=by unfold W.takerIn;rw[show W.findIn K ↑Q f=some none from n];rfl
structure aZ(K:W.Frag)(C:Addr)(m:Str)(f:Addr):Prop where
 at_:W.findIn K ↑Q m=some (some (.ref f))fn:W.isFn K (.ref f)=true
 kp:W.keepIn K (.ref f)=true
section
variable{X:Cx}{pins:List ↑j}{σ:St}{H:Hp}{s:Shared}{a C dx:Addr}{fs:List (Str×V)}{f:Str}{v:V}{A:Around}{E:Value->Shared->Prop}
theorem t6{b:Bool}{Q:Value->Shared->Prop}(I:zo X pins σ H s)(e:H a=some (.ins C dx fs))(c:lN X.K C)(n:jQ X.K C f)(l:fs.lookup f=some v)(h:∀u s',zo X pins σ H s'->RelV v u->Q u s'):wpAny ↑a A (getAttr (.ref a) f b) Q E s:=by obtain⟨mA,O,r,_,_,_⟩:=nI I.hok e;obtain⟨u,hu,ru⟩:=kX.some_of (v:=v) (o:=mA f) (by rw[<-l];exact r f);exact qk I.kIn O (c.get f) c.hd n hu (im ru) (h u _ (I.tok _) ru)
theorem t7{m:Str}{g:Addr}{pl:Sem Bool}{Q:Value×List Value->Shared->Prop}(I:zo X pins σ H s)(e:H a=some (.ins C dx fs))(c:lN X.K C)(k:aZ X.K C m g)(l:fs.lookup m=none)(h:Q (.ref g,[.ref a]) s):wpAny ↑a A (getMethod (.ref a) m pl) Q E s:=by obtain⟨mA,O,r,_,_,_⟩:=nI I.hok e;have hn:mA m=none:=kX.none_of (by rw[<-l];exact r m);exact JW I.kIn O (c.get m) k.at_ k.fn hn h
theorem t8{y:V}{u:Value}{Q:Unit->Shared->Prop}(I:zo X pins σ H s)(e:H a=some (.ins C dx fs))(c:lN X.K C)(n:jQ X.K C f)(hl:fs.length<1000)(ry:RelV y u)(h:∀s',zo X pins σ (zO H a (.ins C dx (vA f y fs))) s'->Q () s'):wpAny ↑a A (setAttr (.ref a) f u) Q E s:=by
 obtain⟨mA,O,r,wi,_,ho⟩:=nI I.hok e;have hz:(fs.map (·.1)).length<=sizeLine:=by rw[List.length_map,sizeLine_eq];omega
 refine WN I.kIn O c.sa c.po n.taker c.hd wi hz λh' O' sb=>h _ ?_;have hd:∃o,h'.get? dx=some o:=let⟨o,_,_,e',_⟩:=O'.ns;⟨o,e'⟩;refine I.write (x:=a) (e:=dx) (by rw[e];exact True.intro) (.inr ho) (λb q hb z=>(sb.2 b hb).trans z) hd ?_;refine⟨by rw[zf O.ne];exact ho,?_,O.ne,O'.obj,_,O'.ns,λg=>?_,λg hg=>?_⟩;·have:=ux f y fs;omega
 ·show kX ((vA f y fs).lookup g) (if g=f then some u else mA g);rw[uw];by_cases q:g=f;·rw[if_pos q,if_pos q];exact ry
  ·rw[if_neg q,if_neg q];exact r g
 ·by_cases q:g=f;·rw[q];exact(u0 f y fs).1
  ·refine(u0 f y fs).2 g (wi g λz=>hg ?_);show(if g=f then some u else mA g)=none;rw[if_neg q];exact z
theorem zo.made(I:zo X pins σ H s):zo X pins σ (zO (zO H s.heap.objs.size (.own ↑w)) ↑w (.ins C s.heap.objs.size [])) {s with heap:=(s.heap.push W.emptyDict).push (W.instObj C s.heap.objs.size)}:=by
 have e1:(s.heap.push W.emptyDict).get? s.heap.objs.size=some W.emptyDict:=Heap.get?_push_size s.heap rfl;have e2:((s.heap.push W.emptyDict).push (W.instObj C s.heap.objs.size)).get? ↑w=some (W.instObj C s.heap.objs.size):=by have:=Heap.get?_push_size (s.heap.push W.emptyDict) (o:=W.instObj C s.heap.objs.size) rfl;rwa[Heap.size_push]at this
 have e3:(s.heap.push W.emptyDict).Ns s.heap.objs.size (λ_=>none):=⟨W.emptyDict,#[],_,e1,rfl,(λe he=>absurd he ↑D),λ_=>rfl⟩;have I1:=I.laid (a:=s.heap.objs.size) (o:=.own ↑w) (h':=s.heap.push W.emptyDict) (t':=s.toks) (λb u q=>Heap.get?_push_of_some _ q) ↑h ⟨_,e1⟩;refine I1.laid (a:=s.heap.objs.size+1) (o:=.ins C s.heap.objs.size []) (t':=s.toks) (λb u q=>Heap.get?_push_of_some _ q) (Nat.le_of_eq (Heap.size_push _ _)) ?_;have ne:s.heap.objs.size≠s.heap.objs.size+1:=Nat.ne_of_lt (Nat.lt_succ_self _);refine⟨by rw[zf ne,zm],Nat.zero_le _,ne,e2,λ_=>none,(Heap.Ns1.of_empty e3).at λo q=>Heap.get?_push_of_some _ q,λ_=>True.intro,λy hy=>absurd rfl hy⟩
theorem oV{prog:Program}{w:World}{env:Env}{e:Expr}{f:Str}{pos:Pos}{s:Shared}{Q:Value->Shared->Prop}(hb:attributeBase e f env (eval e env)=eval e env)(h:wpAny ↑d A (eval e env) (λo s₁=>wpAny ↑d A (getAttr o f true) Q E s₁) E s):wpAny ↑d A (eval (.Attribute e f pos) env) Q E s:=Attribute_any_ h (by rw[arm_eval_Attribute,hb])
end
def t9(K:W.Frag)(ta:TE)(f:Str):TE:=λσ H Q=>ta σ H λx H1=>∃a C dx fs v,x=.ref a/\H1 a=some (.ins C dx fs)/\lN K C/\jQ K C f/\fs.lookup f=some v/\Q v H1
def WP(K:W.Frag)(ta tv:TE)(f:Str):TS:=λD σ H=>tv σ H λy H1=>ta σ H1 λx H2=>∃a C dx fs,x=.ref a/\H2 a=some (.ins C dx fs)/\lN K C/\jQ K C f/\fs.length<1000/\D.nx σ (zO H2 a (.ins C dx (vA f y fs)))
section
variable{X:Cx}{o e value:Expr}{f:Str}{pos pos' tpos:Pos}{ta tv:TE}
theorem tf(he:PE X e ta)(hb:attributeBase e f X.env (eval e X.env)=eval e X.env):PE X (.Attribute e f pos) (t9 X.K ta f):=by intro pins s σ H Q I h;refine oV hb (ja (he pins s σ H _ I h) λu s1⟨x,H1,I1,rx,a,C,dx,fs,v,ex,ea,c,n,l,q⟩=>?_);subst ex;obtain rfl:u=Value.ref a:=rx;exact t6 I1 ea c n l λu' s2 I2 ru=>⟨v,H1,I2,ru,q⟩
theorem JY(ha:PE X o ta)(hv:PE X value tv)(hs:swapsWith value (some (.Attribute o f pos')) pos.line X.env=pure false):PS X (.Assign [.Attribute o f pos'] value pos) (WP X.K ta tv f):=by intro pins s σ H D I h;refine plainObj_wpAny_Assign_Attribute (ja (hv pins s σ H _ I h) λu s1⟨y,H1,I1,ry,q⟩=>ja (ha pins s1 σ H1 _ I1 q) λov s2⟨x,H2,I2,rx,a,C,dx,fs,ex,ea,c,n,l,q2⟩=>?_) hs;subst ex;obtain rfl:ov=Value.ref a:=rx;exact t8 I2 ea c n l ry λs3 I3=>⟨σ,_,I3,q2⟩
end
section
variable{X:Cx}{pins:List ↑j}{σ:St}{H:Hp}{s:Shared}{A:Around}{E:Value->Shared->Prop}{Q:Value->Shared->Prop}{c:Value}{b:Bool}
inductive u3(K:W.Frag)(H:Hp):V->Value->Prop where|non:u3 K H .non (.type "NoneType")|bl(x:Bool):u3 K H (.bl x) (.type "bool")|int(i:Int):u3 K H (.int i) (.type "int")|str(x:Str):u3 K H (.str x) (.type "str")|flt(x:UInt64):u3 K H (.flt x) (.type "float")|lst{a:Addr}{xs:List V}(e:H a=some (.lst xs)):u3 K H (.ref a) (.type "list")|frz{a:Addr}{o:Obj}{xs:List V}(e:H a=some (.frz o (.lst xs))):u3 K H (.ref a) (.type "list")|tup{a:Addr}{xs:List V}(e:H a=some (.tup xs)):u3 K H (.ref a) (.type "tuple")|dK{a:Addr}{kvs:List (Key×V)}(e:H a=some (.dK kvs)):u3 K H (.ref a) (.type "dict")|dT{a:Addr}{kvs:List (List Key×V)}(e:H a=some (.dT kvs)):u3 K H (.ref a) (.type "dict")|ins{a C dx:Addr}{fs:List (Str×V)}(e:H a=some (.ins C dx fs))(cl:lN K C)(ha:W.findIn K ↑Q "__class__"=some (some ↑H))(hn:W.specialIn K ↑H "__get__"=some (some (.builtin "getset_descriptor.__get__")))(htk:W.takesIn K ↑H=some true)(hm:W.mroIn K C (.type "object")=some true):u3 K H (.ref a) ↑Q
theorem ZF{x:V}{u t:Value}(I:zo X pins σ H s)(rx:RelV x u)(ty:u3 X.K H x t)(e:W.kitOne X.K t c=some b)(h:∀tk,Q (.bool b) {s with toks:=tk}):wpAny ↑a A (call (.builtin "isinstance") [u,c]) Q E s:=by cases ty with|non=>cases(show u=Value.none from rx);exact W.kia_one W.kitx_none I.kIn True.intro e (λz=>nomatch z) h|bl y=>cases(show u=Value.bool y from rx);exact W.kia_one W.kitx_bool I.kIn True.intro e (λz=>nomatch z) h|int i=>obtain⟨t,q⟩:=(show∃t,u=Value.int i t from rx);cases q;exact W.kia_one W.kitx_int I.kIn True.intro e (λz=>nomatch z) h|str y=>obtain⟨t,q⟩:=(show∃t,u=Value.str y t from rx);cases q;exact W.kia_one W.kitx_str I.kIn True.intro e (λz=>nomatch z) h|flt y=>obtain⟨t,q⟩:=(show∃t,u=Value.float y t from rx);cases q;exact W.kia_one W.kitx_float I.kIn True.intro e (λz=>nomatch z) h|@lst a xs ea=>cases(show u=Value.ref a from rx);obtain⟨_,_,n,_,h1⟩:=(show jg X.prog X.w H s.heap a (.lst xs)from I.hok a _ ea);exact W.kia_one W.kitx_list I.kIn ⟨_,h1,rfl⟩ e (λz=>nomatch z) h|@frz a ob xs ea=>cases(show u=Value.ref a from rx);obtain⟨_,_,_,n,_,h1⟩:=(show jg X.prog X.w H s.heap a (.frz ob (.lst xs))from I.hok a _ ea);exact W.kia_one W.kitx_list I.kIn ⟨_,h1,rfl⟩ e (λz=>nomatch z) h|@tup a xs ea=>cases(show u=Value.ref a from rx);obtain⟨_,_,_,p⟩:=(show jg X.prog X.w H s.heap a (.tup xs)from I.hok a _ ea);obtain⟨o,h1,h2,_⟩:=p;exact W.kia_one W.kitx_tuple I.kIn ⟨o,h1,h2⟩ e (λz=>nomatch z) h|@dK a kvs ea=>cases(show u=Value.ref a from rx);obtain⟨_,_,vs,_,p⟩:=(show jg X.prog X.w H s.heap a (.dK kvs)from I.hok a _ ea);obtain⟨o,es,ep,h1,h2,_⟩:=p;exact W.kia_one W.kitx_dict I.kIn ⟨o,h1,h2.1⟩ e (λz=>nomatch z) h|@dT a kvs ea=>cases(show u=Value.ref a from rx);obtain⟨_,_,xs,_,o,es,ep,h1,h2,_⟩:=(show jg X.prog X.w H s.heap a (.dT kvs)from I.hok a _ ea);exact W.kia_one W.kitx_dict I.kIn ⟨o,h1,h2.1⟩ e (λz=>nomatch z) h|@ins a C dx fs ea cl ha hn htk hm=>cases(show u=Value.ref a from rx);obtain⟨mA,O,_⟩:=nI I.hok ea;obtain⟨od,J,_⟩:=O.look;exact W.kia_one (W.kitx_own (cl.get _) cl.hd ha hn htk hm) I.kIn J e (λz=>nomatch z) h
end
structure jN(k:Nat)(A:Around):Prop where
 hd:A.handled=none
 dp:A.depth+3*k+5<recursionLimit
 un:A.units+16*k+200<cLine
theorem jN.mono{j k:Nat}{A:Around}(r:jN k A)(h:j<=k):jN j A:=⟨r.hd,by have:=r.dp;omega,by have:=r.un;omega⟩
theorem jN.deeper{k:Nat}{A:Around}(r:jN (k+1) A)(env:Env):jN k (A.deeper env):=⟨r.hd,by have:=r.dp;show A.depth+1+3*k+5<_;omega,by have:=r.un;show A.units+3+16*k+200<_;omega⟩
theorem tm{A:Around}{C:Addr}{us:List Value}{kw:List (Str×Value)}:(A.under (.builtin "type.__call__" ⟨.ref C::us,kw⟩)).depth=A.depth+1:=by first|rfl|simp[Around.under,Code.weight,Code.isCreation,Code.isGuard,Code.isCaller,Code.frames,Code.isFrame,guardIds]
theorem tq{A:Around}{C:Addr}{us:List Value}{kw:List (Str×Value)}:(A.under (.builtin "type.__call__" ⟨.ref C::us,kw⟩)).units=A.units+1:=by first|rfl|simp[Around.under,Code.cUnits,Code.frames,Code.isFrame]
theorem jN.make{k:Nat}{A:Around}(r:jN (k+1) A)(C:Addr)(us:List Value)(kw:List (Str×Value)):jN k (A.under (.builtin "type.__call__" ⟨.ref C::us,kw⟩)):=⟨r.hd,by have:=r.dp;rw[tm];omega,by have:=r.un;rw[tq];omega⟩
theorem jN.depth{k:Nat}{A:Around}(r:jN k A):A.depth<recursionLimit:=by have:=r.dp;omega
theorem jN.units{k:Nat}{A:Around}(r:jN k A):A.units+64<cLine:=by have:=r.un;omega
def WQ:TA:=λ_ H Q=>Q [] H
def oW(ta:TE)(tr:TA):TA:=λσ H Q=>ta σ H λx H1=>tr σ H1 λxs H2=>Q (x::xs) H2
section
variable{X:Cx}{e:Expr}{es:List Expr}{te:TE}{t:TA}{pos:Pos}
theorem w8:PA X [] WQ:=λ_ _ _ _ H Q I h=>Calls.spliced_nil ⟨[],H,I,.nil,h⟩
theorem jR(ha:PE X e te)(hr:PA X es t)(hs:starEach (e::es) X.env=↑x::starEach es X.env:=by rfl):PA X (e::es) (oW te t):=by intro pos pins s σ H Q I h;rw[hs];show wpAny _ _ (spliced (↑x::backTo pos ↑ag)) _ _ s;refine Calls.spliced_cons (ja (ha pins s σ H _ I h) λu s1⟨x,H1,I1,r1,q1⟩=>?_);exact ja (hr pos pins s1 σ H1 _ I1 q1) λus s2⟨xs,H2,I2,r2,q2⟩=>⟨x::xs,H2,I2,.cons r1 r2,q2⟩
def MY(t:TA):TE:=λσ H Q=>t σ H λxs H1=>xs.length<=sizeLine/\∀p,H1 p=none->Q (.ref p) (zO H1 p (.tup xs))
def MZ(t:TA):TE:=λσ H Q=>t σ H λxs H1=>xs.length<=sizeLine/\∀p,H1 p=none->Q (.ref p) (zO H1 p (.lst xs))
theorem G4{x1}(h:PA X es t):PE X (.Tuple es x1 pos) (MY t):=by intro pins s σ H Q I hq;refine wpAny_Tuple_spliced (ja (h pos pins s σ H _ I hq) λus s1⟨xs,H1,I1,r,z,q⟩=>⟨by rw[<-r.length];exact z,?_⟩);have hf:H1 s1.heap.objs.size=none:=I1.hok.fresh ↑h;refine⟨.ref s1.heap.objs.size,zO H1 s1.heap.objs.size (.tup xs),I1.laid (t':=s1.toks) (λb u e=>Heap.get?_push_of_some _ e) ↑h ?_,rfl,q _ hf⟩;exact⟨z,us,r,⟨_,Heap.get?_push_size _ rfl,rfl,_,rfl⟩⟩
theorem G5(h:PA X es t):PE X (.List es pos) (MZ t):=by intro pins s σ H Q I hq;refine wpAny_List_spliced (ja (h pos pins s σ H _ I hq) λus s1⟨xs,H1,I1,r,z,q⟩=>⟨by rw[<-r.length];exact z,?_⟩);have hf:H1 s1.heap.objs.size=none:=I1.hok.fresh ↑h;refine⟨.ref s1.heap.objs.size,zO H1 s1.heap.objs.size (.lst xs),I1.laid (t':=s1.toks) (λb u e=>Heap.get?_push_of_some _ e) ↑h ?_,rfl,q _ hf⟩;exact⟨z,us,0,r,Heap.get?_push_size _ rfl⟩
end
abbrev Sp:=List V->Hp->VK->XK->Prop
abbrev ZG:=List Env->Hp->Shared->XK->Value->Shared->Prop
structure cD(P:Program)(w:World)(K:W.Frag)(mg:Str->Option Value)(base:Heap)(A:Around)(outer:List Env)(s:Shared)(H:Hp):Prop where
 frames:A.frames=some outer
 mod:Mod K mg base
 bs:∀b o,base.get? b=some o->s.heap.get? b=some o/\H b=none
 bsz:base.objs.size<=s.heap.objs.size
 funs:s.heap.FunFrames base outer
 frf:∀b∈nH outer,H b=none
 tab:H tabP=some aO
 hok:gx P w H s.heap
 bare:AllBare s.gens
def CE(outer:List Env)(P:Program)(w:World)(H:Hp)(s:Shared)(Q:VK)(u:Value)(s':Shared):Prop:=∃v H',s'.os=s.os/\AllBare s'.gens/\Un (nH outer) [] H H' s.heap s'.heap/\gx P w H' s'.heap/\RelV v u/\Q v H'
def CR(CX:ZG)(outer:List Env)(P:Program)(w:World)(H:Hp)(s:Shared)(Q:VK)(E:XK)(r:Result)(s':Shared):Prop:=match r with|.ok (.ret u)=>CE outer P w H s Q u s'|.ok _=>False|.error e=>CX outer H s E e s'
structure xZ(P:Program)(w:World)(K:W.Frag)(mg:Str->Option Value)(base:Heap)(CX:ZG)(k:Nat)(f:Addr)(fd:FuncData)(ps:List Str)(sp:Sp):Prop where
 len:∀vs H Q E,sp vs H Q E->vs.length=ps.length
 run:∀(A:Around)(outer:List Env)(s:Shared)(H:Hp)(args:Args)(us:List Value)(vs:List V)(Q:VK)(E:XK),jN k A->cD P w K mg base A outer s H->BindsTo s fd args (ps.zip us)->zE vs us->sp vs H Q E->codeAny (model P w) A (.call (.ref f) args) (CR CX outer P w H s Q E) s
theorem xZ.mono{P:Program}{w:World}{K:W.Frag}{mg:Str->Option Value}{base:Heap}{CX:ZG}{j k:Nat}{f:Addr}{fd:FuncData}{ps:List Str}{sp:Sp}(F:xZ P w K mg base CX j f fd ps sp)(h:j<=k):xZ P w K mg base CX k f fd ps sp:=⟨F.len,λA outer s H args us vs Q E hr=>F.run A outer s H args us vs Q E (hr.mono h)⟩
theorem xZ.imp{P:Program}{w:World}{K:W.Frag}{mg:Str->Option Value}{base:Heap}{CX:ZG}{k:Nat}{f:Addr}{fd:FuncData}{ps:List Str}{sp sp':Sp}(F:xZ P w K mg base CX k f fd ps sp)(h:∀vs H Q E,sp' vs H Q E->sp vs H Q E):xZ P w K mg base CX k f fd ps sp':=⟨λvs H Q E q=>F.len vs H Q E (h _ _ _ _ q),λA outer s H args us vs Q E hr he hb hv hs=>F.run A outer s H args us vs Q E hr he hb hv (h _ _ _ _ hs)⟩
theorem cD.make{P:Program}{w:World}{K:W.Frag}{mg:Str->Option Value}{base:Heap}{A:Around}{outer:List Env}{s:Shared}{H:Hp}(e:cD P w K mg base A outer s H)(C:Addr)(us:List Value)(kw:List (Str×Value)):cD P w K mg base (A.under (.builtin "type.__call__" ⟨.ref C::us,kw⟩)) outer s H:=⟨by first|exact e.frames|(simpa[Around.under,Code.envs,Code.isFrame,pushEnvs]using e.frames),e.mod,e.bs,e.bsz,e.funs,e.frf,e.tab,e.hok,e.bare⟩
section
variable{X:Cx}{pins:List ↑j}{σ:St}{H:Hp}{s s':Shared}
theorem zo.env0(I:zo X pins σ H s):cD X.prog X.w X.K X.mg X.base X.A X.stack s H:=⟨I.ok.frames,I.ok.mod,I.bs,Nat.le_trans I.ok.bsz I.sz,I.stack,I.stkFree,I.tab,I.hok,I.bare⟩
theorem zo.after{Q:VK}{u:Value}(I:zo X pins σ H s)(h:CE X.stack X.prog X.w H s Q u s'):EP X pins σ Q u s':=by obtain⟨v,H',os,bare,un,hok,r,q⟩:=h;obtain⟨hh,g,d,t,os'⟩:=s';obtain rfl:os'=s.os:=os;exact⟨v,H',I.call (h':=hh) (g':=g) (d':=d) (t':=t) (ch:=[]) un hok bare (λb z=>absurd z ↑D),r,q⟩
end
def kA(K:W.Frag)(fd:FuncData)(ps:List Str)(ds:List Value):Prop:=∀(s:Shared)(us:List Value),K.In s.heap->(us++ds).length=ps.length->BindsTo s fd ⟨us,[]⟩ (ps.zip (us++ds))
theorem kA.all{K:W.Frag}{fd:FuncData}{ps:List Str}(h:∀us:List Value,us.length=ps.length->bindArgs fd ⟨us,[]⟩=pure (ps.zip us)):kA K fd ps []:=λs us _ hl=>by rw[List.append_nil]at hl⊢;exact .of_eq (h us hl)
section
variable{X:Cx}{CX:ZG}{k:Nat}{f C:Addr}{fd:FuncData}{ps:List Str}{sp:Sp}{dvs:List V}{ds:List Value}{E:XK}{x m:Str}{p pos apos:Pos}{e o:Expr}{es:List Expr}{ta:TE}{t:TA}
structure Mk(K:W.Frag)(C f:Addr):Prop where
 makes:W.makesIn K C=true
 init:W.findIn K ↑Q "__init__"=some (some (.ref f))fn:W.isFn K (.ref f)=true
 kp:W.keepIn K ↑Q=true
end
structure zg(N P:List Str)(sc:Scope):Prop where
 kind:sc.kind=.function
 co:sc.isCoroutine=false
 gen:sc.isGenerator=false
 nd:N.Nodup
 pre:N.take P.length=P
 par:∀x∈P,sc.names.lookup x=some .local\/sc.names.lookup x=some .cell
 nofree:∀y∈sc.names,y.2≠.free
theorem ip{kindOf:Str->Option NameKind}{x:Str}:∀{binds:List (Str×Value)}{m:Str->Option Value},(∀v,(x,v)∉binds)->bindL kindOf binds m x=m x
 |[],_,_=>rfl|(n,v)::r,m,h=>by
  unfold bindL;rw[ip λw hw=>h w (List.mem_cons_of_mem _ hw)];split
  ·have:x≠n:=by rintro rfl;exact h v List.mem_cons_self
   simp[this]
  ·rfl
theorem iq{kindOf:Str->Option NameKind}{x:Str}:∀{binds:List (Str×Value)}{m:Str->Option Value},(∀v,(x,v)∉binds)->bindC kindOf binds m x=m x
 |[],_,_=>rfl|(n,v)::r,m,h=>by
  unfold bindC;rw[iq λw hw=>h w (List.mem_cons_of_mem _ hw)];split;·rfl
  ·have:x≠n:=by rintro rfl;exact h v List.mem_cons_self
   simp[this]
theorem iA{kindOf:Str->Option NameKind}{x:Str}{v:Value}:∀{P:List Str}{vs:List Value}{i:Nat}{m:Str->Option Value},P.Nodup->P[i]?=some x->vs[i]?=some v->kindOf x=some .local->bindL kindOf (P.zip vs) m x=some v|[],_,_,_,_,h,_,_=>by simp at h|_::_,[],_,_,_,_,h,_=>by simp at h|p::P,w::vs,0,m,nd,h1,h2,hk=>by simp at h1 h2;subst h1;subst h2;show bindL kindOf ((p,w)::P.zip vs) m p=_;unfold bindL;rw[ip λv hv=>(List.nodup_cons.mp nd).1 (List.of_mem_zip hv).1,if_pos hk];simp|p::P,w::vs,i+1,m,nd,h1,h2,hk=>by show bindL kindOf ((p,w)::P.zip vs) m x=_;unfold bindL;exact iA (i:=i) (List.nodup_cons.mp nd).2 (by simpa using h1) (by simpa using h2) hk
theorem iB{kindOf:Str->Option NameKind}{x:Str}{v:Value}:∀{P:List Str}{vs:List Value}{i:Nat}{m:Str->Option Value},P.Nodup->P[i]?=some x->vs[i]?=some v->kindOf x≠some .local->bindC kindOf (P.zip vs) m x=some v|[],_,_,_,_,h,_,_=>by simp at h|_::_,[],_,_,_,_,h,_=>by simp at h|p::P,w::vs,0,m,nd,h1,h2,hk=>by simp at h1 h2;subst h1;subst h2;show bindC kindOf ((p,w)::P.zip vs) m p=_;unfold bindC;rw[iq λv hv=>(List.nodup_cons.mp nd).1 (List.of_mem_zip hv).1,if_neg hk];simp|p::P,w::vs,i+1,m,nd,h1,h2,hk=>by show bindC kindOf ((p,w)::P.zip vs) m x=_;unfold bindC;exact iB (i:=i) (List.nodup_cons.mp nd).2 (by simpa using h1) (by simpa using h2) hk
def start(N:List Str)(vs:List V):St:=vs.map some++List.replicate (N.length-vs.length) none
def n9(CX:ZG)(P:Program)(w:World)(K:W.Frag)(mg:Str->Option Value)(base:Heap)(N:List Str)(qual:Str)(scope:Scope)(f:Addr)(cd:Value)(A:Around)(outer:List Env)(s:Shared)(H:Hp)(E:XK):Cx where prog:=P;w:=w;K:=K;mg:=mg;base:=base;A:=A.deeper (envOfC qual scope s.heap.objs.size f cd);N:=N;s₀:=s;H₀:=H;env:=envOfC qual scope s.heap.objs.size f cd;outer:=outer;stack:=envOfC qual scope s.heap.objs.size f cd::outer;ex:=[];calm:=true;fn:=λ_=>true;pn:=[];xe:=λe s'=>wpAny (model P w) (A.deeper (envOfC qual scope s.heap.objs.size f cd)) (leaving (envOfC qual scope s.heap.objs.size f cd) e) (λ_ s''=>CX outer H s E e s'') (λe' s''=>CX outer H s E e' s'') s'
theorem nW{sc:Scope}{n:Nat}{x:Str}(h:sc.names.lookup x=some .cell):∃c,(cellsFrom n sc.names []).lookup x=some c:=by have q:=W.cellsFrom_some sc.names n [] (.inl h);exact Option.isSome_iff_exists.mp q
theorem ZH{CX:ZG}{P:Program}{w:World}{K:W.Frag}{mg:Str->Option Value}{base:Heap}{N ps:List Str}{qual:Str}{scope:Scope}{f:Addr}{cd:Value}{A:Around}{outer:List Env}{s s1:Shared}{H:Hp}{E:XK}{us:List Value}{vs:List V}(S:zg N ps scope)(hd:A.handled=none)(e0:cD P w K mg base A outer s H)(hl:vs.length=ps.length)(r:zE vs us)(x:InCallC s s.heap.objs.size (bindL (envOfC qual scope s.heap.objs.size f cd).kindOf (ps.zip us) λ_=>none) (cellsFrom ↑w scope.names []) (bindC (envOfC qual scope s.heap.objs.size f cd).kindOf (ps.zip us) λ_=>none) s1):zo (n9 CX P w K mg base N qual scope f cd A outer s H E) [] (start N vs) H s1:=by
 have hpl:ps.length<=N.length:=by have:=congrArg List.length S.pre;rw[List.length_take]at this;omega
 obtain⟨h1,tk,rfl,hk⟩:=x.done;have noA:∀b:Addr,b∉(n9 CX P w K mg base N qual scope f cd A outer s H E).ex:=λb z=>absurd (show b∈([]:List Addr)from z) ↑D;refine⟨⟨e0.mod,S.kind,rfl,rfl,Nat.le_refl _,λy z c h1 h2=>?_,λy hy=>?_,λy c _ h=>?_,λ_=>hd,Around.frames_deeper e0.frames,.inr ⟨rfl,rfl⟩,λb z=>absurd z (noA b),e0.bs,e0.bsz,λb _ _=>noA b,λb z=>absurd z (noA b),e0.funs,e0.frf,e0.tab⟩,rfl,e0.bare,Un.kept hk,⟨_,x.toInCall.ns,λi y v h1 h2 h3=>?_⟩,λy c h=>⟨_,x.cell y c h⟩,e0.hok.fresh ↑h,λy c h=>?_,λp hp=>absurd (show p∈([]:List ↑j)from hp) ↑D,e0.hok.kept hk,?_⟩;·exact name_of_addr x.apart (PySem.mem_of_lookup h1) (PySem.mem_of_lookup h2)
 ·have hy:scope.names.lookup y=some .cell\/scope.names.lookup y=some .free:=hy;rcases hy with hy|hy;·exact nW hy
  ·exact absurd rfl (S.nofree _ (PySem.mem_of_lookup hy))
 ·exact Nat.le_of_lt (x.above y c (PySem.mem_of_lookup h))
 ·have hi:i<vs.length:=by
   unfold start at h2;by_cases hi:i<vs.length;·exact hi
   ·rw[List.getElem?_append_right (by simpa using hi)]at h2;rw[List.getElem?_replicate]at h2;split at h2<;>cases h2
  have ha:vs[i]?=some v:=by unfold start at h2;rw[List.getElem?_append_left (by simpa using hi),List.getElem?_map]at h2;cases e:vs[i]? with|none=>rw[e]at h2;cases h2|some a=>rw[e]at h2;cases h2;rfl
  obtain⟨u,hu,rv⟩:=r.get ha;have hp:ps[i]?=some y:=by rw[<-S.pre,List.getElem?_take_of_lt ↑c];exact h1
  have ndP:ps.Nodup:=by rw[<-S.pre];exact S.nd.sublist (List.take_sublist _ _)
  refine⟨u,rv,?_⟩;rcases S.par y (List.mem_of_getElem? hp)with k|k;·exact .inl ⟨k,iA ndP hp hu k⟩
  ·obtain⟨c,e⟩:=nW (n:=s.heap.objs.size+1) k;refine .inr ⟨.inl k,c,e,?_⟩;have q:=x.cell y c e;rw[iB ndP hp hu (by show scope.names.lookup y≠_;rw[k];decide)]at q;exact q
 ·exact e0.hok.fresh (Nat.le_of_lt (x.above y c (PySem.mem_of_lookup h)))
 ·unfold start;show _=N.length;rw[List.length_append,List.length_map,List.length_replicate];omega
theorem iC{CX:ZG}{P:Program}{w:World}{K:W.Frag}{mg:Str->Option Value}{base:Heap}{k:Nat}{f:Addr}{name qual:Str}{params:Arguments}{body:List Stmt}{scope:Scope}{dV kV doc pm cdv ct oc:Value}{an od:Option Addr}{osl:Array (Option Value)}{N ps:List Str}{sp:Sp}(lk:K.lookup f=some ⟨oc,od,.func (W.fnOf name qual params body scope dV kV doc pm an cdv ct),osl⟩)(hcd:W.codeIn K cdv qual=true)(S:zg N ps scope)(len:∀vs H Q E,sp vs H Q E->vs.length=ps.length)(hbody:∀(A:Around)(outer:List Env)(s:Shared)(H:Hp)(vs:List V)(Q:VK)(E:XK),jN k (A.deeper (envOfC qual scope s.heap.objs.size f cdv))->sp vs H Q E->∃t,cu (n9 CX P w K mg base N qual scope f cdv A outer s H E) body t/\t {nx:=λ_ H'=>Q .non H',rt:=Q} (start N vs) H):xZ P w K mg base CX (k+1) f (W.fnOf name qual params body scope dV kV doc pm an cdv ct) ps sp:=by
 refine⟨len,λA outer s H args us vs Q E hr e0 hb r hsp=>?_⟩;have hl:=len _ _ _ _ hsp;have KX:K.In s.heap:=e0.mod.kin.keeps λb o e=>(e0.bs b o e).1;have lim:s.heap.NoLimit:=e0.mod.nolimit.keeps λb o e=>(e0.bs b o e).1;have hkind:∀y∈ps.zip us,scope.names.lookup y.1=some .local\/(scope.names.lookup y.1=some .cell/\((cellsFrom ↑w scope.names []).lookup y.1).isSome=true):=λ⟨n,v⟩hy=>by
  rcases S.par n (List.of_mem_zip hy).1 with q|q;·exact .inl q
  ·exact .inr ⟨q,W.cellsFrom_some _ _ _ (.inl q)⟩
 refine codeAny_call_function hr.depth (KX _ _ lk) rfl S.co S.gen rfl (W.codeRec_of KX hcd) (hb _ _ _ _ ?_);refine wpAny_newFunctionEnv_cells S.kind hkind λenv he s1 x=>?_;subst he;refine⟨lim.keeps x.toInCall.keep,codeAny_func ?_⟩;obtain⟨t,ht,hq⟩:=hbody A outer s H vs Q E (hr.deeper _) hsp;have I:zo (n9 CX P w K mg base N qual scope f cdv A outer s H E) [] (start N vs) H s1:=ZH S hr.hd e0 hl r x;refine wpAny_mono (ht [] s1 (start N vs) H _ I hq) (λfl s' hs=>?_) λe s' hs=>hs;have fin:∀{σ':St}{H':Hp}{v:V}{u:Value},zo (n9 CX P w K mg base N qual scope f cdv A outer s H E) [] σ' H' s'->RelV v u->Q v H'->CE outer P w H s Q u s':=λ{σ' H' v u}J rv q=>⟨v,H',J.os,J.bare,J.base,J.hok,rv,q⟩;cases fl with|ret u=>obtain⟨v,σ',H',J,rv,q⟩:=hs;exact fin J rv q|next=>obtain⟨σ',H',J,q⟩:=hs;exact fin (v:=V.non) (u:=Value.none) J rfl q|brk=>obtain⟨_,_,_,q⟩:=hs;exact False.elim q|cont=>obtain⟨_,_,_,q⟩:=hs;exact False.elim q
section
variable{X:Cx}{x:Str}{p pos:Pos}{e:Expr}{es:List Expr}{t:TA}{id T:String}{r:List V->Hp->VK->Prop}
def L4(r:List V->Hp->VK->Prop)(t:TA):TE:=λσ H Q=>t σ H λvs H1=>r vs H1 Q
theorem cF(hc:vg X (.builtin id) r)(hg:Gl X x)(hm:X.mg x=none)(hv:bootBuiltins x=some (.builtin id))(ha:PA X (e::es) t)(hn:x≠"__name__":=by decide)(hdb:(x==↑t)=false:=by decide)(he:starEach (e::es) X.env=↑x::starEach es X.env:=by rfl)(hpl:(backTo pos ↑ag).any (·.1)=false:=by rfl):PE X ↑R (L4 r t):=by intro pins s σ H Q I h;refine wpAny_Call_Name_kw (kL I hg hm hv ?_ hn hdb);exact PyProof.Rows.callWith_builtin1 (ja (ha pos pins s σ H _ I h) λus s1⟨vs,H1,I1,r1,q1⟩=>hc pins s1 σ H1 vs us Q I1 r1 q1) he hpl
theorem ZI(hc:vg X (.type T) r)(hg:Gl X x)(hm:X.mg x=none)(hv:bootBuiltins x=some (.type T))(ha:PA X (e::es) t)(hn:x≠"__name__":=by decide)(hdb:(x==↑t)=false:=by decide)(he:starEach (e::es) X.env=↑x::starEach es X.env:=by rfl)(hpl:(backTo pos ↑ag).any (·.1)=false:=by rfl):PE X ↑R (L4 r t):=by intro pins s σ H Q I h;refine wpAny_Call_Name_kw (kL I hg hm hv ?_ hn hdb);exact PyProof.Rows.callWith_type1 (ja (ha pos pins s σ H _ I h) λus s1⟨vs,H1,I1,r1,q1⟩=>hc pins s1 σ H1 vs us Q I1 r1 q1) he hpl
end
end L2
namespace HT
open PySem PyProof.Rows
section
variable{prog:Program}{w:World}{A:Around}{E:Value->Shared->Prop}{s:Shared}
theorem cat_tup{t b:Addr}{vs ws:List Value}{Q:Value->Shared->Prop}(ht:IsTup s.heap t vs.toArray)(hb:IsTup s.heap b ws.toArray)(hv:vs≠[])(h1:ws=[]->Q (.ref t) s)(h2:ws≠[]->Q ↑A {s with heap:=s.heap.push {cls:=.type "tuple",data:=.seq (vs++ws).toArray}})(hsz:vs.length+ws.length<=sizeLine):wpAny ↑d A (binaryOp .Add (.ref t) (.ref b)) Q E s:=by
 obtain⟨⟨cls,dd,data,sl⟩,ho,hc,n,hd⟩:=id ht;obtain⟨⟨cls2,dd2,data2,sl2⟩,ho2,hc2,n2,hd2⟩:=id hb;simp only at hc hd hc2 hd2;subst hc hd hc2 hd2;have e:vs.toArray++ws.toArray=(vs++ws).toArray:=by simp
 by_cases hw:ws=[];·exact concat_meets ⟨_,ho,rfl⟩ ⟨_,ho2,rfl⟩ noFill_tuple_add seq_tuple_add PySem.F.slot_tuple_add PySem.F.entry_tuple_add (PySem.F.args_tuple_add_2 _ _) (tuple_addW1 t b vs.toArray ws.toArray n n2 dd dd2 sl sl2 (by simpa using hv) (by simp[hw])) ⟨ho,ho2,h1 hw⟩
 ·refine concat_meets ⟨_,ho,rfl⟩ ⟨_,ho2,rfl⟩ noFill_tuple_add seq_tuple_add PySem.F.slot_tuple_add PySem.F.entry_tuple_add (PySem.F.args_tuple_add_2 _ _) (tuple_addW2 t b vs.toArray ws.toArray n n2 dd dd2 sl sl2 (by simpa using hv) (by simpa using hw) (by rw[List.size_toArray,List.size_toArray];exact hsz)) ⟨ho,ho2,?_⟩;rw[e];exact h2 hw
def sIx(n d:Nat):Option Int->Nat|none=>d|some v=>if v<0 then(v+(n:Int)).toNat else min v.toNat n
theorem sIx_none(n d:Nat):sIx n d none=d:=rfl
theorem sIx_nat(n d k:Nat):sIx n d (some (k:Int))=min k n:=by show(if(k:Int)<0 then((k:Int)+(n:Int)).toNat else min (k:Int).toNat n)=min k n;rw[if_neg ↑c,Int.toNat_natCast]
theorem sIx_le(n d:Nat)(hd:d<=n)(o:Option Int):sIx n d o<=n:=by cases o with|none=>exact hd|some v=>
  show(if v<0 then(v+(n:Int)).toNat else min v.toNat n)<=n;by_cases hv:v<0;·rw[if_pos hv];omega
  ·rw[if_neg hv];exact Nat.min_le_right _ _
theorem oX(v:Int)(n d:Nat):(if v<0 then max (v+(n:Int)) 0 else min v (n:Int))=((sIx n d (some v):Nat):Int):=by
 show(if v<0 then max (v+(n:Int)) 0 else min v (n:Int))=(((if v<0 then(v+(n:Int)).toNat else min v.toNat n):Nat):Int);by_cases hv:v<0;·simp only[if_pos hv];omega
 ·simp only[if_neg hv];omega
theorem tD(lo hi:Option Int)(n:Nat):Builtin.Slice.sliceAdjust lo hi 1 (n:Int)=(((sIx n 0 lo:Nat):Int),((sIx n n hi:Nat):Int)):=by
 have h1:¬((1:Int)<0):=by omega
 unfold Builtin.Slice.sliceAdjust;simp only[h1,if_false];refine Prod.ext ?_ ?_;·cases lo with|none=>rfl|some v=>exact oX v n 0
 ·cases hi with|none=>rfl|some v=>exact oX v n n
theorem tE(i j:Nat):Builtin.Slice.slicePlaces (i:Int) (j:Int) 1=j-i:=by
 unfold Builtin.Slice.slicePlaces;have h1:(1:Int)>0:=by omega
 simp only[h1,if_true,Int.ediv_one];split<;>omega
theorem nX{v:Value}{o:Option Int}{Q:Option Int->Shared->Prop}(p:IsPart v o)(h:Q o s):wpAny ↑d A (Builtin.Slice.slicePartIndex v) Q E s:=by cases p with|none=>exact slicePart_none h|int i t=>exact slicePart_int h
theorem kY{sl:Addr}{vl vu:Value}{lo hi:Option Int}{n:Nat}{Q:Int×Int×Nat->Shared->Prop}(hs:s.heap.IsSliceOf sl vl vu .none)(pl:IsPart vl lo)(pu:IsPart vu hi)(h:Q (((sIx n 0 lo:Nat):Int),1,sIx n n hi-sIx n 0 lo) s):wpAny ↑d A (Builtin.Slice.sliceApplied (.ref sl) (pure (n:Int))) Q E s:=by obtain⟨os,hos,hcs,hds⟩:=id hs;unfold Builtin.Slice.sliceApplied Builtin.Slice.sliceFields;refine wpAny_bind (wpAny_bind (wpAny_field hos hds (x:=vl) rfl (wpAny_bind (wpAny_field hos hds (x:=vu) rfl (wpAny_bind (wpAny_field hos hds (x:=.none) rfl (wpAny_pure ?_)))))));refine wpAny_bind (slicePart_none ?_);show wpAny _ _ (if((1:Int)==0)=true then _ else _) _ _ s;rw[if_neg ↑f];refine wpAny_bind (nX pl (wpAny_bind (nX pu (wpAny_bind (wpAny_pure ?_)))));show wpAny _ _ (match Builtin.Slice.sliceAdjust lo hi 1 (n:Int)with|(lo,hi)=>pure (lo,(1:Int),Builtin.Slice.slicePlaces lo hi 1)) _ _ s;rw[tD lo hi n];show wpAny _ _ (pure (((sIx n 0 lo:Nat):Int),(1:Int),Builtin.Slice.slicePlaces ((sIx n 0 lo:Nat):Int) ((sIx n n hi:Nat):Int) 1)) _ _ s;rw[tE];exact wpAny_pure h
theorem JZ(xs:Array Value)(i k:Nat):((List.range k).filterMap λ(m:Nat)=>xs[((i:Int)+(m:Int)*1).toNat]?).toArray=((xs.toList.drop i).take k).toArray:=by
 have e:(λ(m:Nat)=>xs[((i:Int)+(m:Int)*1).toNat]?)=λm=>xs[i+m]?:=by
  funext m;have:((i:Int)+(m:Int)*1).toNat=i+m:=by omega
  rw[this]
 rw[e];have:=pick_run xs i k;rw[List.filterMap_map]at this;have e2:((λx=>xs[x]?)∘λx=>i+x)=λm=>xs[i+m]?:=rfl;rw[e2]at this;rw[this]
theorem getItem_tuple_cut{t sl:Addr}{items:Array Value}{vl vu:Value}{lo hi:Option Int}{Q:Value->Shared->Prop}(ht:IsTup s.heap t items)(hs:s.heap.IsSliceOf sl vl vu .none)(pl:IsPart vl lo)(pu:IsPart vu hi)(hw:¬(sIx items.size 0 lo=0/\sIx items.size items.size hi=items.size))(h:Q ↑A {s with heap:=s.heap.push {cls:=.type "tuple",data:=.seq ((items.toList.drop (sIx items.size 0 lo)).take (sIx items.size items.size hi-sIx items.size 0 lo)).toArray}})(hsz:items.size<=sizeLine):wpAny ↑d A (getItem (.ref t) (.ref sl)) Q E s:=by
 have htake:sizeOk (.seq ((items.toList.drop (sIx items.size 0 lo)).take (sIx items.size items.size hi-sIx items.size 0 lo)).toArray):=by show((items.toList.drop (sIx items.size 0 lo)).take (sIx items.size items.size hi-sIx items.size 0 lo)).toArray.size<=sizeLine;rw[List.size_toArray,List.length_take,List.length_drop,Array.length_toList];omega
 have hj:sIx items.size items.size hi<=items.size:=sIx_le _ _ ↑h hi;obtain⟨os,hos,hcs,hds⟩:=id hs;have hTs:s.TypeIs (.ref sl) "slice":=⟨os,hos,hcs⟩;unfold getItem;try with_reducible refine wpAny_holding ?_
 first|refine wpAny_bind (wpAny_pure ?_)|skip
 refine wpAny_bind (wpAny_sequenceKey ht.typeIs ↑f ?_);refine wpAny_bind (wpAny_callSpecial?_slot (name:=Str.ofString "__getitem__") ht.typeIs PyProof.Rows.slot_tuple_getitem (wpAny_call_entry PyProof.Rows.slot_tuple_getitem ht.typeIs entry_tuple_getitem ?_ (args_tuple_getitem _ _)));show wpAny _ _ (Builtin.Tuple.tupleItemsOf (.ref t)>>=_) _ _ s;refine wpAny_bind (tupleItemsOf_ ht ?_);refine wpAny_bind (wpAny_typeOf hTs ?_);rw[if_pos ↑f];refine wpAny_bind (kY hs pl pu ?_);have hno:¬(↑F=true):=by intro q;rw[Bool.and_eq_true,Bool.and_eq_true]at q;have q1:((sIx items.size 0 lo:Nat):Int)=0:=eq_of_beq q.1.1;have q2:sIx items.size items.size hi-sIx items.size 0 lo=items.size:=eq_of_beq q.2;exact hw ⟨by omega,by omega⟩
 show wpAny _ _ (if↑F=true then _ else _) _ _ s;rw[if_neg hno,JZ];first|exact wpAny_bind (m:=Builtin.Tuple.tupleExact _) (wpAny_newObj_type ↑S htake)|exact wpAny_bind (m:=Builtin.Tuple.tupleExact _) (wpAny_newObj_type (wpAny_bind (wpAny_pure ↑S)) htake)|exact wpAny_bind (wpAny_bind (m:=Builtin.Tuple.tupleExact _) (wpAny_newObj_type (wpAny_pure ↑S) htake))|exact wpAny_bind (wpAny_bind (m:=Builtin.Tuple.tupleExact _) (wpAny_newObj_type ↑S htake))
end
end HT
namespace L2
open PySem PySem.Spec PyProof.Rows
abbrev TO:=St->Hp->(Option Int->Hp->Prop)->Prop
def PO(X:Cx)(e:Option Expr)(t:TO):Prop:=∀(pins:List ↑j)(s:Shared)(σ:St)(H:Hp)(Q:Option Int->Hp->Prop),zo X pins σ H s->t σ H Q->wpAny ↑a X.A (evalPart e X.env) (λu s'=>∃o H',zo X pins σ H' s'/\IsPart u o/\Q o H') X.xe s
def WR:TO:=λ_ H Q=>Q none H
def UP(t:TE):TO:=λσ H Q=>t σ H λx H1=>∃i,x=.int i/\Q (some i) H1
section
variable{X:Cx}{e:Expr}{te:TE}{lo hi:Option Expr}{tl th:TO}{pos p2:Pos}
theorem WS:PO X none WR:=by intro pins s σ H Q I h;rw[evalPart_none];exact wpAny_pure ⟨none,H,I,.none,h⟩
theorem WT(h:PE X e te):PO X (some e) (UP te):=by intro pins s σ H Q I hw;rw[evalPart_some];refine ja (h pins s σ H _ I hw) λu s1⟨x,H1,I1,r1,q1⟩=>?_;obtain⟨i,rfl,q⟩:=q1;obtain⟨t,rfl⟩:=r1;exact⟨some i,H1,I1,.int i t,q⟩
def UQ(X:Cx)(r:V->Option Int->Option Int->Hp->VK->Prop):Prop:=∀(pins:List ↑j)(s:Shared)(σ:St)(H:Hp)(x:V)(v vl vu:Value)(lo hi:Option Int)(sl:Addr)(Q:VK),zo X pins σ H s->RelV x v->s.heap.IsSliceOf sl vl vu .none->IsPart vl lo->IsPart vu hi->r x lo hi H Q->∃T id,typeLookup (.type T) "__getitem__"=pure (some (.builtin id))/\s.TypeIs v T/\wpAny ↑a X.A (getItem v (.ref sl)) (EP X pins σ Q) X.xe s
def IM(r:V->Option Int->Option Int->Hp->VK->Prop)(te:TE)(tl th:TO):TE:=λσ H Q=>te σ H λx H1=>tl σ H1 λl H2=>th σ H2 λu H3=>r x l u H3 Q
theorem Y0{r:V->Option Int->Option Int->Hp->VK->Prop}(hr:UQ X r)(he:PE X e te)(hl:PO X lo tl)(hu:PO X hi th):PE X (.Subscript e (.Slice lo hi none p2) pos) (IM r te tl th):=by intro pins s σ H Q I h;refine Subscript_ (ja (he pins s σ H _ I h) λv s1⟨x,H1,I1,r1,q1⟩=>?_);refine wpAny_Slice (ja (hl pins s1 σ H1 _ I1 q1) λvl s2⟨l,H2,I2,pl,q2⟩=>ja (hu pins s2 σ H2 _ I2 q2) λvu s3⟨u,H3,I3,pu,q3⟩=>?_);rw[evalPart_none];refine wpAny_pure ?_;have I4:zo X pins σ H3 {s3 with heap:=s3.heap.push {cls:=.type "slice",data:=.fields #[vl,vu,.none]}}:=I3.kept (t':=s3.toks) λb ob q=>Heap.get?_push_of_some _ q;obtain⟨T,id,hT,ht,hg⟩:=hr pins {s3 with heap:=s3.heap.push {cls:=.type "slice",data:=.fields #[vl,vu,.none]}} σ H3 x v vl vu l u s3.heap.objs.size Q I4 r1 (Heap.IsSliceOf.new ..) pl pu q3;show wpAny ↑a X.A (subscriptTail e (.Slice lo hi none p2) v (.ref s3.heap.objs.size)) (EP X pins σ Q) X.xe {s3 with heap:=s3.heap.push {cls:=.type "slice",data:=.fields #[vl,vu,.none]}};exact tail_any (ops:=[.ref s3.heap.objs.size,v]) ht hT hg (by with_unfolding_all rfl)
def cG(xs:List V)(lo hi:Option Int):List V:=(xs.drop (HT.sIx xs.length 0 lo)).take (HT.sIx xs.length xs.length hi-HT.sIx xs.length 0 lo)
theorem uy(xs:List V)(lo hi:Option Int):(cG xs lo hi).length<=xs.length:=by unfold cG;rw[List.length_take,List.length_drop];omega
def L5(K:W.Frag):V->Option Int->Option Int->Hp->VK->Prop:=λx lo hi H Q=>∃a xs,x=.ref a/\fX K H a xs/\¬(HT.sIx xs.length 0 lo=0/\HT.sIx xs.length xs.length hi=xs.length)/\∀p,H p=none->Q (.ref p) (zO H p (.tup (cG xs lo hi)))
theorem G6:UQ X (L5 X.K):=by
 intro pins s σ H x v vl vu lo hi sl Q I rx hs pl pu h;obtain⟨a,xs,rfl,hx,hw,q⟩:=h;cases rx;obtain⟨its,r,ht,hz⟩:=I.tuple hx;have hlen:its.toArray.size=xs.length:=by rw[List.size_toArray];exact r.length.symm
 refine⟨"tuple",_,PyProof.Rows.slot_tuple_getitem.lookup,ht.typeIs,?_⟩;refine HT.getItem_tuple_cut ht hs pl pu (by rw[hlen];exact hw) ?_ (by rw[hlen];exact hz);rw[hlen];refine⟨.ref s.heap.objs.size,_,I.laid (t':=s.toks) (o:=.tup (cG xs lo hi)) (λb ob q=>Heap.get?_push_of_some _ q) ↑h ?_,rfl,q _ (I.hok.fresh ↑h)⟩;exact⟨Nat.le_trans (uy xs lo hi) hz,_,(r.drop (HT.sIx xs.length 0 lo)).take (HT.sIx xs.length xs.length hi-HT.sIx xs.length 0 lo),IsTup.new _ _⟩
def UR(K:W.Frag):R2:=λx y H Q=>∃a b xs ys,x=.ref a/\y=.ref b/\fX K H a xs/\fX K H b ys/\xs≠[]/\xs.length+ys.length<=sizeLine/\(ys=[]->Q (.ref a) H)/\(ys≠[]->∀p,H p=none->Q (.ref p) (zO H p (.tup (xs++ys))))
theorem zE.nil_iff{xs:List V}{us:List Value}(r:zE xs us):us=[]↔xs=[]:=by cases r with|nil=>simp|cons _ _=>simp
theorem WU:ve X (binaryOp .Add) (UR X.K):=by intro pins s σ H x y v u Q I rx ry h;obtain⟨a,b,xs,ys,rfl,rfl,ha,hb,hx,hz,q1,q2⟩:=h;cases rx;cases ry;obtain⟨its,r1,p1,_⟩:=I.tuple ha;obtain⟨its2,r2,p2,_⟩:=I.tuple hb;refine HT.cat_tup p1 p2 (λz=>hx (r1.nil_iff.mp z)) (λz=>⟨.ref a,H,I,rfl,q1 (r2.nil_iff.mp z)⟩) (λz=>?_) (by rw[<-r1.length,<-r2.length];exact hz);refine⟨.ref s.heap.objs.size,_,I.laid (t':=s.toks) (o:=.tup (xs++ys)) (λb ob q=>Heap.get?_push_of_some _ q) ↑h ?_,rfl,q2 (λw=>z (r2.nil_iff.mpr w)) _ (I.hok.fresh ↑h)⟩;exact⟨by rw[List.length_append];exact hz,_,r1.append r2,IsTup.new _ _⟩
end
def Y1(n:Nat)(i:Int):Option Nat:=if 0<=i then(if i<n then some i.toNat else none)else if-(n:Int)<=i then some (i+n).toNat else none
def cH{α:Type}(xs:List α)(i:Int):Option α:=(Y1 xs.length i).bind λj=>xs[j]?
theorem oY{n:Nat}{i:Int}{j:Nat}(h:Y1 n i=some j):seqIndex? i n=some j/\j<n/\-(n:Int)<=i/\i<n:=by
 unfold Y1 at h;by_cases h0:0<=i
 ·rw[if_pos h0]at h;by_cases h1:i<n;·rw[if_pos h1]at h;have e:i.toNat=j:=Option.some.inj h;exact⟨by rw[seqIndex_of h0 h1,e],by omega,by omega,h1⟩
  ·rw[if_neg h1]at h;cases h
 ·rw[if_neg h0]at h;by_cases h1:-(n:Int)<=i;·rw[if_pos h1]at h;have e:(i+n).toNat=j:=Option.some.inj h;exact⟨by rw[seqIndex_neg ↑c h1,e],by omega,h1,by omega⟩
  ·rw[if_neg h1]at h;cases h
theorem eK{α:Type}{xs:List α}{i:Int}{v:α}(h:cH xs i=some v):∃j,seqIndex? i xs.length=some j/\xs[j]?=some v/\j<xs.length/\-(xs.length:Int)<=i/\i<xs.length:=by unfold cH at h;cases e:Y1 xs.length i with|none=>rw[e]at h;cases h|some j=>rw[e]at h;obtain⟨h1,h2,h3,h4⟩:=oY e;exact⟨j,h1,h,h2,h3,h4⟩
theorem WV{α:Type}{xs:List α}{j:Nat}{v:α}(h:xs[j]?=some v):cH xs (j:Int)=some v:=by
 have hj:j<xs.length:=(List.getElem?_eq_some_iff.mp h).1;have e:Y1 xs.length (j:Int)=some j:=by unfold Y1;rw[if_pos ↑c,if_pos ↑c];simp
 unfold cH;rw[e];exact h
def eM(b:Expr):Prop:=∀o i,subscripted b false o i=operate [o,i] (getItem o i)
def US(X:Cx)(r:R2):Prop:=∀(value slice:Expr)(pins:List ↑j)(s:Shared)(σ:St)(H:Hp)(x y:V)(v u:Value)(Q:VK),zo X pins σ H s->RelV x v->RelV y u->r x y H Q->subscripted slice false v u=operate [v,u] (getItem v u)->wpAny ↑a X.A (subscriptTail value slice v u) (EP X pins σ Q) X.xe s
def L6(X:Cx)(id:String)(r:V->List V->Hp->VK->Prop):Prop:=∀(pins:List ↑j)(s:Shared)(σ:St)(H:Hp)(x:V)(xs:List V)(v:Value)(us:List Value)(Q:VK),zo X pins σ H s->RelV x v->zE xs us->r x xs H Q->wpAny ↑a X.A (call (.builtin id) (v::us)) (EP X pins σ Q) X.xe s
section
variable{X:Cx}{a b:Expr}{ta tb:TE}{pos:Pos}
theorem UT{r:R2}(hr:US X r)(ha:PE X a ta)(hb:PE X b tb)(hs:eM b):PE X (.Subscript a b pos) (UH r ta tb):=by intro pins s σ H Q I h;exact Subscript_ (QW ha hb I h λv u s2 x y H2 I2 rx ry q=>hr a b pins s2 σ H2 x y v u Q I2 rx ry q (hs _ _))
def L7(K:W.Frag):R2:=λx y H Q=>∃p xs i v,x=.ref p/\y=.int i/\fo K H p xs/\cH xs i=some v/\Q v H
def L8(K:W.Frag):R2:=λx y H Q=>∃p xs i v,x=.ref p/\y=.int i/\fX K H p xs/\cH xs i=some v/\Q v H
def L9:R2:=λx y H Q=>∃z i c,x=.str z/\y=.int i/\z.length<=sizeLine/\cH z.cps.toList i=some c/\Q (.str ⟨#[c]⟩) H
theorem WW:US X (L7 X.K):=by
 intro value slice pins s σ H x y v u Q I rx ry h hs;obtain⟨p,xs,i,z,rfl,rfl,hq,he,q⟩:=h;cases rx;obtain⟨t,rfl⟩:=ry;obtain⟨its,r,pl,hz⟩:=I.list hq;obtain⟨j,h1,h2,h3,h4,h5⟩:=eK he;obtain⟨w,ew,rw'⟩:=r.get h2;have hl:=r.length;have hn:=fq;have fin:EP X pins σ Q w s:=⟨z,H,I,rw',q⟩;by_cases h0:0<=i
 ·have hj:i.toNat=j:=by rw[seqIndex_of h0 h5]at h1;exact Option.some.inj h1
  exact item_listR pl.isList h0 ↑c (by rw[hj];simpa using ew) fin hs
 ·have hj:(i+(its.toArray.size:Int)).toNat=j:=by rw[seqIndex_neg ↑c h4]at h1;rw[List.size_toArray,<-hl];exact Option.some.inj h1
  exact subscriptTail_builtinR (x:=w) pl.isList.typeIs slot_list_getitem.lookup (wpAny_getItem_list_neg (Q:=λr s'=>r=w/\EP X pins σ Q r s') pl.isList ↑c (by rw[List.size_toArray]<;>omega) ↑c (by rw[hj];simpa using ew) ⟨rfl,fin⟩) hs
theorem G7:US X (L8 X.K):=by intro value slice pins s σ H x y v u Q I rx ry h hs;obtain⟨p,xs,i,z,rfl,rfl,hq,he,q⟩:=h;cases rx;obtain⟨t,rfl⟩:=ry;obtain⟨its,r,pl,hz⟩:=I.tuple hq;obtain⟨j,h1,h2,h3,h4,h5⟩:=eK he;obtain⟨w,ew,rw'⟩:=r.get h2;have hl:=r.length;have hn:=fq;have fin:EP X pins σ Q w s:=⟨z,H,I,rw',q⟩;exact subscriptTail_builtinR (x:=w) pl.typeIs slot_tuple_getitem.lookup (getItem_tuple (j:=j) (Q:=λr s'=>r=w/\EP X pins σ Q r s') pl ↑c ↑c (by rw[List.size_toArray,<-hl];exact h1) (by simpa using ew) ⟨rfl,fin⟩) hs
theorem G8:US X L9:=by
 intro value slice pins s σ H x y v u Q I rx ry h hs;obtain⟨z,i,c,rfl,rfl,hz,he,q⟩:=h;obtain⟨t,rfl⟩:=rx;obtain⟨t',rfl⟩:=ry;obtain⟨j,h1,h2,h3,h4,h5⟩:=eK he;have hl:z.cps.toList.length=z.length:=by simp[Str.length]
 rw[hl]at h1 h4 h5;have hn:=fq;exact tail_any (typeIs_str s z t) slot_str_getitem.lookup (getItem_str (c:=c) (by have e1:decide (i< -(2^63:Int))=false:=decide_eq_false ↑c;have e2:decide (i>=2^63)=false:=decide_eq_false ↑c;rw[e1,e2,Bool.or_false]) (by rw[h1];simpa using h2) ⟨.str ⟨#[c]⟩,H,I.tok _,⟨_,rfl⟩,q⟩) hs
theorem tF(its:List Value)(n j:Nat)(u:Value):Obj.mapSeq (·.setIfInBounds j u) {cls:=.type "list",data:=.seq its.toArray n}={cls:=.type "list",data:=.seq (its.set j u).toArray n}:=by simp[Obj.mapSeq]
theorem zo.lst{pins:List ↑j}{σ:St}{H:Hp}{s:Shared}{p:Addr}{xs:List V}(I:zo X pins σ H s)(h:H p=some (.lst xs)):∃(its:List Value)(n:Nat),zE xs its/\s.heap.get? p=some {cls:=.type "list",data:=.seq its.toArray n}/\xs.length<=sizeLine:=by obtain⟨z,its,n,r,e⟩:=I.hok p _ h;exact⟨its,n,r,e,z⟩
theorem zo.lstUpd{pins:List ↑j}{σ:St}{H:Hp}{s:Shared}{p:Addr}{xs ys:List V}{its its':List Value}{n n':Nat}{f:Obj->Obj}(I:zo X pins σ H s)(h:H p=some (.lst xs))(ho:s.heap.get? p=some {cls:=.type "list",data:=.seq its.toArray n})(hf:f {cls:=.type "list",data:=.seq its.toArray n}={cls:=.type "list",data:=.seq its'.toArray n'})(r:zE ys its')(hz:ys.length<=sizeLine)(t:Nat):zo X pins σ (zO H p (.lst ys)) {s with heap:=s.heap.update p f,toks:=t}:=by
 have e:(s.heap.update p f).get? p=some {cls:=.type "list",data:=.seq its'.toArray n'}:=by rw[Heap.get?_update_self f ho (by rw[hf]<;>rfl),hf]
 refine I.write (x:=p) (e:=p) (by rw[h];trivial) (.inl rfl) (λb u hb q=>(Heap.get?_update_other _ _ (Ne.symm hb)).trans q) ⟨_,e⟩ ?_;exact⟨hz,its',n',r,e⟩
def KS:V->V->V->Hp->(Hp->Prop)->Prop:=λo i v H Q=>∃p xs k j,o=.ref p/\i=.int k/\H p=some (.lst xs)/\Y1 xs.length k=some j/\Q (zO H p (.lst (xs.set j v)))
theorem Y2:UB X KS:=by
 intro pins s σ H o i v ov iv u Q I ro ri rv h;obtain⟨p,xs,k,j,rfl,rfl,hp,hj,q⟩:=h;cases ro;obtain⟨t,rfl⟩:=ri;obtain⟨its,n,r,ho,hz⟩:=I.lst hp;obtain⟨h1,h2,h3,h4⟩:=oY hj;have hl:=r.length;have hn:=fq;have I':zo X pins σ (zO H p (.lst (xs.set j v))) {s with heap:=s.heap.update p (Obj.mapSeq (·.setIfInBounds j u))}:=I.lstUpd hp ho (tF its n j u) (r.set rv j) (by rw[List.length_set];exact hz) s.toks;by_cases h0:0<=k
 ·have hk:k.toNat=j:=by rw[seqIndex_of h0 h4]at h1;exact Option.some.inj h1
  exact W.ki_setAt ho h0 ↑c (by rw[List.size_toArray,<-hl];exact h4) (by rw[hk];exact⟨_,I',q⟩)
 ·have hk:(k+(its.toArray.size:Int)).toNat=j:=by rw[seqIndex_neg ↑c h3]at h1;rw[List.size_toArray,<-hl];exact Option.some.inj h1
  exact W.ki_setBack ho ↑c (by rw[List.size_toArray,<-hl];exact h3) ↑c (by rw[hk];exact⟨_,I',q⟩)
theorem eN(lo hi:Option Int)(n:Nat):(sliceBounds lo hi none n).1=((HT.sIx n 0 lo:Nat):Int)/\(sliceBounds lo hi none n).2.1=((HT.sIx n n hi:Nat):Int)/\(sliceBounds lo hi none n).2.2=1:=by
 refine⟨?_,?_,rfl⟩;·cases lo with|none=>simp[sliceBounds,HT.sIx]|some i=>
   simp only[sliceBounds,HT.sIx,Option.getD_none,show(1:Int)>0 by decide,if_true];by_cases h:i<0;·simp only[h,if_true]<;>omega
   ·simp only[h,if_false]<;>omega
 ·cases hi with|none=>simp[sliceBounds,HT.sIx]|some i=>
   simp only[sliceBounds,HT.sIx,Option.getD_none,show(1:Int)>0 by decide,if_true];by_cases h:i<0;·simp only[h,if_true]<;>omega
   ·simp only[h,if_false]<;>omega
theorem lO(its:List Value)(lo hi:Option Int):slicePick its.toArray lo hi none=((its.drop (HT.sIx its.length 0 lo)).take (HT.sIx its.length its.length hi-HT.sIx its.length 0 lo)).toArray:=by obtain⟨h1,h2,h3⟩:=eN lo hi its.toArray.size;unfold slicePick;rw[h1,h2,h3];simp only[sliceRange_one,pick_run,List.size_toArray]<;>rfl
def La(K:W.Frag):V->Option Int->Option Int->Hp->VK->Prop:=λx lo hi H Q=>∃a xs,x=.ref a/\fo K H a xs/\∀p,H p=none->Q (.ref p) (zO H p (.lst (cG xs lo hi)))
theorem WX:UQ X (La X.K):=by intro pins s σ H x v vl vu lo hi sl Q I rx hs pl pu h;obtain⟨a,xs,rfl,hx,q⟩:=h;cases rx;obtain⟨its,r,ht,hz⟩:=I.list hx;have hlen:=r.length;refine⟨"list",_,slot_list_getitem.lookup,ht.isList.typeIs,?_⟩;refine wpAny_getItem_list_slice ht.isList hs pl pu .none ↑D ?_ (by rw[List.size_toArray]<;>omega);rw[lO,<-hlen];refine⟨.ref s.heap.objs.size,_,I.laid (t':=s.toks) (o:=.lst (cG xs lo hi)) (λb ob q=>Heap.get?_push_of_some _ q) ↑h ?_,rfl,q _ (I.hok.fresh ↑h)⟩;exact⟨Nat.le_trans (uy xs lo hi) hz,_,0,(r.drop (HT.sIx xs.length 0 lo)).take (HT.sIx xs.length xs.length hi-HT.sIx xs.length 0 lo),Heap.get?_push_size _ rfl⟩
theorem fZ:vg X (.builtin "len") (λxs H Q=>∃p ys,xs=[.ref p]/\(fo X.K H p ys\/fX X.K H p ys)/\Q (.int ys.length) H):=by
 intro pins s σ H xs us Q I r h;obtain⟨p,ys,rfl,hq,q⟩:=h;obtain⟨u,rfl,rx⟩:=gQ r;cases rx;have hn:=fq;rcases hq with hq|hq;·obtain⟨its,r',pl,hz⟩:=I.list hq;have hlen:=r'.length;exact Calls.call_len_list pl.isList (by simp only[List.size_toArray]<;>omega) ⟨.int ys.length,H,I.tok _,⟨s.toks+1,by rw[List.size_toArray,hlen]⟩,q⟩
 ·obtain⟨its,r',pl,hz⟩:=I.tuple hq;have hlen:=r'.length;exact len_tuple pl (by simp only[List.size_toArray]<;>omega) ⟨.int ys.length,H,I.tok _,⟨s.toks+1,by rw[List.size_toArray,hlen]⟩,q⟩
theorem eO:vg X (.builtin "len") (λxs H Q=>∃z,xs=[.str z]/\z.length<=sizeLine/\Q (.int z.length) H):=by intro pins s σ H xs us Q I r h;obtain⟨z,rfl,hz,q⟩:=h;obtain⟨u,rfl,t,rfl⟩:=gQ r;have hn:=fq;exact len_str ↑c ⟨.int z.length,H,I.tok _,⟨_,rfl⟩,q⟩
theorem p0:vg X (.type "list") (λxs H Q=>∃p ys,xs=[.ref p]/\(fo X.K H p ys\/fX X.K H p ys)/\∀l,H l=none->Q (.ref l) (zO H l (.lst ys))):=by
 intro pins s σ H xs us Q I r h;obtain⟨p,ys,rfl,hq,q⟩:=h;obtain⟨u,rfl,rx⟩:=gQ r;cases rx;have fin:∀(its:List Value),zE ys its->ys.length<=sizeLine->∀(h':Heap)(c':Nat),(∀b o',s.heap.get? b=some o'->h'.get? b=some o')->h'.get? s.heap.objs.size=some {cls:=.type "list",dict:=none,data:=.seq its.toArray c',slots:=#[]}->EP X pins σ Q ↑A {s with heap:=h'}:=λits r' hz h' c' kp e=>⟨.ref s.heap.objs.size,_,I.laid (t':=s.toks) kp ↑h (show jg X.prog X.w _ h' _ (.lst ys)from⟨hz,its,c',r',e⟩),rfl,q _ (I.hok.fresh ↑h)⟩;rcases hq with hq|hq;·obtain⟨its,r',pl,hz⟩:=I.list hq;have hlen:=r'.length;obtain⟨o,ho,hc,n,hd⟩:=pl.isList;exact call_list_seq p (.inl rfl) ho hc hd (λh' c' kp e=>fin its r' hz h' c' kp e) (by simp only[List.size_toArray]<;>omega)
 ·obtain⟨its,r',pl,hz⟩:=I.tuple hq;have hlen:=r'.length;obtain⟨o,ho,hc,n,hd⟩:=pl;exact call_list_seq p (.inr rfl) ho hc hd (λh' c' kp e=>fin its r' hz h' c' kp e) (by simp only[List.size_toArray]<;>omega)
theorem gR:vg X (.type "tuple") (λxs H Q=>∃p ys,xs=[.ref p]/\((fo X.K H p ys/\∀l,H l=none->Q (.ref l) (zO H l (.tup ys)))\/(fX X.K H p ys/\Q (.ref p) H))):=by
 intro pins s σ H xs us Q I r h;obtain⟨p,ys,rfl,h⟩:=h;obtain⟨u,rfl,rx⟩:=gQ r;cases rx;rcases h with⟨hq,q⟩|⟨hq,q⟩;·obtain⟨its,r',pl,hz⟩:=I.list hq;have hlen:=r'.length;refine call_tuple_list pl.isList (λh' kp=>?_) (by simp only[List.size_toArray]<;>omega);have I1:zo X pins σ H {s with heap:=h'}:=I.kept (t':=s.toks) kp;have I2:zo X pins σ (zO H h'.objs.size (.tup ys)) {s with heap:=h'.push {cls:=.type "tuple",data:=.seq its.toArray}}:=I1.laid (t':=s.toks) (λb o e=>Heap.get?_push_of_some _ e) ↑h (show jg X.prog X.w _ _ _ (.tup ys)from⟨hz,its,r',IsTup.new _ _⟩);exact⟨.ref h'.objs.size,_,I2,rfl,q _ (I1.hok.fresh ↑h)⟩
 ·obtain⟨its,r',pl,hz⟩:=I.tuple hq;exact call_tuple_same pl ⟨.ref p,H,I,rfl,q⟩
def Lb(K:W.Frag)(T:String)(x:V)(H:Hp):Prop:=match x with|.str _=>T="str"|.int _=>T="int"|.ref p=>(T="list"/\∃xs,fo K H p xs)\/(T="tuple"/\∃o,K.lookup p=some o/\o.cls=.type "tuple"/\o.dict=none)\/(T="dict"/\((∃kvs,H p=some (.dK kvs))\/∃kvs,H p=some (.dT kvs)))\/(T="set"/\∃S n,H p=some (.set S n))|_=>False
theorem Y3{pins:List ↑j}{σ:St}{H:Hp}{s:Shared}{T:String}{x:V}{v:Value}(I:zo X pins σ H s)(r:RelV x v)(ty:Lb X.K T x H):
  s.TypeIs v T/\∀a,v=.ref a->∃ob,s.heap.get? a=some ob/\ob.dict=none:=by cases x with|str z=>obtain⟨t,rfl⟩:=r;cases(show T="str"from ty);exact⟨typeIs_str s z t,λ_ e=>nomatch e⟩|int i=>obtain⟨t,rfl⟩:=r;cases(show T="int"from ty);exact⟨typeIs_int s i t,λ_ e=>nomatch e⟩|ref p=>
  cases r;rcases ty with⟨rfl,xs,hq⟩|⟨rfl,o,hk,hc,hd⟩|⟨rfl,hk⟩|⟨rfl,S,n,hk⟩;·obtain⟨its,_,pl,_⟩:=I.list hq;refine⟨pl.isList.typeIs,λa e=>?_⟩;cases e;obtain⟨o,n,e,c,hd,_⟩:=pl;exact⟨o,e,hd⟩
  ·refine⟨⟨o,I.kIn p o hk,hc⟩,λa e=>?_⟩;cases e;exact⟨o,I.kIn _ o hk,hd⟩
  ·have z:∃o,s.heap.get? p=some o/\o.ExactDict:=by
    rcases hk with⟨kvs,hk⟩|⟨kvs,hk⟩;·obtain⟨_,_,_,_,o,_,_,e,ex,_⟩:=I.hok p _ hk;exact⟨o,e,ex⟩
    ·obtain⟨_,_,_,_,o,_,_,e,ex,_⟩:=I.hok p _ hk;exact⟨o,e,ex⟩
   obtain⟨o,e,ex⟩:=z;refine⟨⟨o,e,ex.1⟩,λa e2=>?_⟩;cases e2;exact⟨o,e,ex.2.1⟩
  ·obtain⟨o,_,_,_,e,ex,_⟩:=I.hok p _ hk;refine⟨⟨o,e,ex.1⟩,λa e2=>?_⟩;cases e2;exact⟨o,e,ex.2.1⟩|_=>exact False.elim ty
def UU(K:W.Frag)(T:String)(r:V->List V->Hp->VK->Prop)(to:TE):TE:=λσ H Q=>to σ H λx H1=>Lb K T x H1/\r x [] H1 Q
def Mi(K:W.Frag)(T:String)(r:V->List V->Hp->VK->Prop)(to:TE)(t:TA):TE:=λσ H Q=>to σ H λx H1=>Lb K T x H1/\t σ H1 λxs H2=>r x xs H2 Q
variable{o e:Expr}{es:List Expr}{to:TE}{t:TA}{name:Str}{apos cpos:Pos}{T id:String}{r:V->List V->Hp->VK->Prop}
theorem G9(pa:PlainAttrs T)(slot:Slot T name id)(hty:typeOf (.builtin id)=pure (.type "method_descriptor"))(hm:L6 X id r)(ho:PE X o to)(hbase:attributeBase o name X.env (eval o X.env)=eval o X.env:=by rfl)(hline:(apos.endLine==cpos.line)=true:=by rfl):PE X (.Call (.Attribute o name apos) [] [] cpos) (UU X.K T r to):=by intro pins s σ H Q I h;refine wpAny_Call_method0_late hbase hline (ja (ho pins s σ H _ I h) λv s1⟨x,H1,I1,r1,ty,q1⟩=>?_);obtain⟨h1,h2⟩:=Y3 I1 r1 ty;exact⟨T,id,pa,slot,hty,h1,h2,Calls.callWith_builtin rfl (PySem.evalArgs_none (hm pins s1 σ H1 x [] v [] Q I1 r1 .nil q1))⟩
theorem gS(pa:PlainAttrs T)(slot:Slot T name id)(hty:typeOf (.builtin id)=pure (.type "method_descriptor"))(hm:L6 X id r)(ho:PE X o to)(ha:PA X (e::es) t)(hbase:attributeBase o name X.env (eval o X.env)=eval o X.env:=by rfl)(hfew:((backTo cpos (starEach (e::es) X.env)).all (λx=>!x.1)&&(backToKw cpos (keywordEach [] X.env)).all (λx=>x.1.isSome)&&decide ((e::es).length+([]:List Keyword).length+(if([]:List Keyword).isEmpty then 0 else 1)<30))=true:=by rfl)(hline:(apos.endLine==cpos.line)=true:=by rfl)(hs:starEach (e::es) X.env=↑x::starEach es X.env:=by rfl)(hplain:(backTo cpos ↑ag).any (·.1)=false:=by rfl):PE X (.Call (.Attribute o name apos) (e::es) [] cpos) (Mi X.K T r to t):=by intro pins s σ H Q I h;refine wpAny_Call_method_late hbase hfew hline rfl (ja (ho pins s σ H _ I h) λv s1⟨x,H1,I1,r1,ty,q1⟩=>?_);obtain⟨h1,h2⟩:=Y3 I1 r1 ty;refine⟨T,id,pa,slot,hty,h1,h2,?_⟩;have hA:=ha cpos pins s1 σ H1 _ I1 q1;rw[hs]at hA⊢;refine Calls.callWith_builtin (by show(false||(backTo cpos ↑ag).any (·.1))=false;rw[hplain]<;>rfl) (Calls.evalArgs_plain ?_);exact ja hA λus s2⟨vs,H2,I2,r2,q2⟩=>hm pins s2 σ H2 x vs v us Q I2 r1 r2 q2/-xs.append(e),list.index on a module's tuple..are L6 facts of 06m-/
end
def Mj(X:Cx)(id:String)(r:V->List V->Hp->VK->Prop):Prop:=∀(pins:List ↑j)(s:Shared)(σ:St)(H:Hp)(x:V)(xs:List V)(v:Value)(us:List Value)(Q:VK),zo X pins σ H s->RelV x v->zE xs us->r x xs H Q->wpAny ↑a X.A (call (.builtin id) (v::us)) (EP X pins σ Q) X.xe s
theorem zE.one:∀{x:V}{us:List Value},zE [x] us->∃u,us=[u]/\RelV x u|_,_,.cons r .nil=>⟨_,rfl,r⟩
theorem zE.zero:∀{us:List Value},zE [] us->us=[]|_,.nil=>rfl
theorem zE.dropLast{xs:List V}{us:List Value}(h:zE xs us):zE xs.dropLast us.dropLast:=by induction h with|nil=>exact .nil|cons r t ih=>cases t with|nil=>exact .nil|cons q t'=>exact .cons r ih
theorem tG{α:Type}(l:List α):l.eraseIdx (l.length-1)=l.dropLast:=by induction l with|nil=>rfl|cons a r ih=>cases r with|nil=>rfl|cons b r=>
   have e:(a::b::r).length-1=((b::r).length-1)+1:=by have h1:(a::b::r).length=r.length+2:=rfl;have h2:(b::r).length=r.length+1:=rfl;omega
   rw[e,List.eraseIdx_cons_succ,ih];all_goals rfl
section
variable{X:Cx}{pins:List ↑j}{σ:St}{H:Hp}{s:Shared}{l b:Addr}{xs ys zs:List V}
theorem zo.lset{its its':List Value}{n:Nat}{f:Array Value->Array Value}{t':Nat}(I:zo X pins σ H s)(hH:H l=some (.lst xs))(e:s.heap.get? l=some {cls:=.type "list",data:=.seq its.toArray n})(hf:f its.toArray=its'.toArray)(hv:zE ys its')(hz:ys.length<=sizeLine):zo X pins σ (zO H l (.lst ys)) {s with heap:=s.heap.update l (Obj.mapSeq f),toks:=t'}:=by have q:=PySem.IsL.update e f;rw[hf]at q;refine I.write (x:=l) (e:=l) (by rw[hH];exact trivial) (.inl rfl) (λb' u hb hu=>(Heap.get?_update_other s.heap (Obj.mapSeq f) (Ne.symm hb)).trans hu) ⟨_,q⟩ ?_;exact⟨hz,its',_,hv,q⟩
theorem zo.lnew{its:List Value}{t':Nat}(I:zo X pins σ H s)(hv:zE ys its)(hz:ys.length<=sizeLine):zo X pins σ (zO H s.heap.objs.size (.lst ys)) {s with heap:=s.heap.push {cls:=.type "list",data:=.seq its.toArray},toks:=t'}:=I.laid (λ_ _ q=>Heap.get?_push_of_some _ q) ↑h ⟨hz,its,0,hv,Heap.get?_push_size _ rfl⟩
theorem zo.fresh(I:zo X pins σ H s):H s.heap.objs.size=none:=I.hok.fresh ↑h
theorem zo.lstM(I:zo X pins σ H s)(hH:H l=some (.lst xs)):xs.length<=sizeLine/\∃(its:List Value)(n:Nat),zE xs its/\xs.length=its.length/\s.heap.get? l=some {cls:=.type "list",data:=.seq its.toArray n}:=by obtain⟨z,its,n,r,e⟩:=I.hok l _ hH;exact⟨z,its,n,r,r.length,e⟩
theorem cI{n:Nat}(h:n<=sizeLine):Builtin.List.listTooLong n=false:=by unfold Builtin.List.listTooLong;exact decide_eq_false ↑c
end
section
variable{X:Cx}
def oZ:V->List V->Hp->VK->Prop:=λx vs H Q=>∃l xs y,x=.ref l/\vs=[y]/\H l=some (.lst xs)/\xs.length<sizeLine/\Q .non (zO H l (.lst (xs++[y])))
theorem x9:Mj X "list.append" oZ:=by intro pins s σ H x vs v us Q I rx rv h;obtain⟨l,xs,y,rfl,rfl,hH,hz,q⟩:=h;cases rx;obtain⟨u,rfl,ru⟩:=rv.one;obtain⟨z,its,n,r,hl,e⟩:=I.lstM hH;refine call_meets F.slot_list_append ⟨_,e,rfl⟩ F.entry_list_append (F.args_list_append_2 _ _) (PySem.list_append l its.toArray n u (by rw[List.size_toArray];omega)) ⟨e,?_⟩;refine⟨.non,_,I.lset (its':=its++[u]) hH e ↑D (r.append (.cons ru .nil)) ?_,rfl,q⟩;rw[List.length_append,List.length_singleton];omega
def re:V->List V->Hp->VK->Prop:=λx vs H Q=>∃l b xs zs,x=.ref l/\vs=[.ref b]/\H l=some (.lst xs)/\H b=some (.lst zs)/\xs.length+zs.length<=sizeLine/\Q .non (zO H l (.lst (xs++zs)))
theorem ZJ:Mj X "list.extend" re:=by
 intro pins s σ H x vs v us Q I rx rv h;obtain⟨l,b,xs,zs,rfl,rfl,hH,hB,hz,q⟩:=h;cases rx;obtain⟨u,rfl,ru⟩:=rv.one;cases ru;obtain⟨z,its,n,r,hl,e⟩:=I.lstM hH;obtain⟨z2,its2,n2,r2,hl2,e2⟩:=I.lstM hB;have hsz:its.toArray.size+its2.toArray.size<=sizeLine:=by rw[List.size_toArray,List.size_toArray];omega
 have hlong:¬(!its.toArray.isEmpty&&Builtin.List.listTooLong (its.toArray.size+its2.toArray.size))=true:=by rw[cI hsz,Bool.and_false];exact Bool.false_ne_true
 refine call_meets F.slot_list_extend ⟨_,e,rfl⟩ F.entry_list_extend (F.args_list_extend_2 _ _) (AutoSeq1.list_extend_list_list_0 l its.toArray n b its2.toArray n2 hlong (by rw[List.size_toArray];omega) ↑c) ⟨e,e2,?_⟩;refine⟨.non,_,I.lset (its':=its++its2) hH e ↑D (r.append r2) ?_,rfl,q⟩;rw[List.length_append];omega
def UV:V->List V->Hp->VK->Prop:=λx vs H Q=>∃l xs y,x=.ref l/\vs=[]/\H l=some (.lst xs)/\xs[xs.length-1]?=some y/\Q y (zO H l (.lst xs.dropLast))
theorem Ga:Mj X "list.pop" UV:=by
 intro pins s σ H x vs v us Q I rx rv h;obtain⟨l,xs,y,rfl,rfl,hH,hy,q⟩:=h;cases rx;have hus:=rv.zero;subst hus;obtain⟨z,its,n,r,hl,e⟩:=I.lstM hH;obtain⟨u,hu,ru⟩:=r.get hy;have hy':its.toArray[its.toArray.size-1]?=some u:=by show its.toArray[its.length-1]?=some u;rw[<-Array.getElem?_toList,<-hl];exact hu
 refine call_meets F.slot_list_pop ⟨_,e,rfl⟩ F.entry_list_pop (F.args_list_pop_1 _) (MeetsSeq.list_pop_last l its.toArray n u hy' (by rw[List.size_toArray];omega)) ⟨e,?_⟩;refine⟨y,_,I.lset (its':=its.dropLast) hH e ?_ r.dropLast ?_,ru,q⟩;·show its.toArray.eraseIdxIfInBounds (its.toArray.size-1)=its.dropLast.toArray;rw[List.size_toArray,List.eraseIdxIfInBounds_toArray,tG]
 ·rw[List.length_dropLast];omega
end
section
variable{prog:Program}{w:World}{A:Around}{E:Value->Shared->Prop}{s:Shared}
theorem Gb{a c n:Nat}(hac:a<=c)(hc:c<=n):sliceBounds (some (a:Int)) (some (c:Int)) none n=((a:Int),(c:Int),1):=by
 simp only[sliceBounds,Option.getD_none];have h1:¬((a:Int)<0):=by omega
 have h2:¬((c:Int)<0):=by omega
 simp only[h1,h2,if_false,show(1:Int)>0 by decide,if_true];congr 1;·omega
 ·congr 1;omega
end
section
variable{κ:Type}[DecidableEq κ]
def ju(kvs:List (κ×V))(k:κ):Option V:=(kvs.find? λkv=>decide (kv.1=k)).map (·.2)
def xB(kvs:List (κ×V))(k:κ)(v:V):List (κ×V):=if(kvs.any λkv=>decide (kv.1=k))=true then kvs.map (λkv=>if kv.1=k then(kv.1,v)else kv)else kvs++[(k,v)]
theorem jY{p:κ×V}{r:List (κ×V)}{k:κ}(e:p.1=k):ju (p::r) k=some p.2:=by simp[ju,List.find?_cons,e]
theorem jZ{p:κ×V}{r:List (κ×V)}{k:κ}(e:¬p.1=k):ju (p::r) k=ju r k:=by simp[ju,List.find?_cons,e]
theorem kZ(k:κ):∀kvs:List (κ×V),(kvs.any λkv=>decide (kv.1=k))=(ju kvs k).isSome
 |[]=>rfl|p::r=>by
  rw[List.any_cons];by_cases e:p.1=k;·simp only[jY e,decide_eq_true e,Bool.true_or,Option.isSome_some]
  ·rw[jZ e,decide_eq_false e,Bool.false_or];exact kZ k r
theorem cJ(k j:κ)(y:V):∀kvs:List (κ×V),ju (kvs.map λkv=>if kv.1=k then(kv.1,y)else kv) j=(ju kvs j).map λx=>if j=k then y else x
 |[]=>rfl|p::r=>by
  have ih:=cJ k j y r;rw[List.map_cons];by_cases h:p.1=k
  ·rw[if_pos h];by_cases e:p.1=j;·rw[jY (p:=(p.1,y)) e,jY e,Option.map_some,if_pos (e.symm.trans h)]
   ·rw[jZ (p:=(p.1,y)) e,jZ e,ih]
  ·rw[if_neg h];by_cases e:p.1=j;·rw[jY (p:=p) e,jY e,Option.map_some,if_neg (λz=>h (e.trans z))]
   ·rw[jZ (p:=p) e,jZ e,ih]
theorem iD(k j:κ)(y:V):∀kvs:List (κ×V),ju kvs k=none->ju (kvs++[(k,y)]) j=if j=k then some y else ju kvs j
 |[],_=>by
  by_cases e:k=j;·rw[if_pos e.symm];exact jY (p:=(k,y)) e
  ·rw[if_neg (λz=>e z.symm)];exact jZ (p:=(k,y)) e|p::r,hn=>by
  rw[List.cons_append];have hk:¬p.1=k:=λz=>by rw[jY z]at hn;cases hn
  rw[jZ hk]at hn;have ih:=iD k j y r hn;by_cases e:p.1=j;·rw[jY e,jY e,if_neg (λz=>hk (e.trans z))]
  ·rw[jZ e,jZ e,ih]
theorem Y4(kvs:List (κ×V))(k j:κ)(y:V):ju (xB kvs k y) j=if j=k then some y else ju kvs j:=by
 unfold xB;by_cases a:(kvs.any λkv=>decide (kv.1=k))=true
 ·rw[if_pos a,cJ];rw[kZ]at a;by_cases e:j=k;·obtain⟨x,hx⟩:=Option.isSome_iff_exists.mp a;rw[if_pos e,e,hx,Option.map_some,if_pos rfl]
  ·rw[if_neg e];cases ju kvs j with|none=>rfl|some x=>rw[Option.map_some,if_neg e]
 ·rw[if_neg a];refine iD k j y kvs ?_;rw[kZ]at a;cases q:ju kvs k with|none=>rfl|some x=>rw[q]at a;exact(a rfl).elim
theorem qU(kvs:List (κ×V))(k:κ)(v:V):(xB kvs k v).length<=kvs.length+1:=by
 unfold xB;split;·rw[List.length_map];omega
 ·rw[List.length_append,List.length_cons,List.length_nil];omega
theorem Y5{kvs:List (κ×V)}{k:κ}(v:V)(h:ju kvs k=none):xB kvs k v=kvs++[(k,v)]:=by unfold xB;rw[kZ,h];exact if_neg ↑f
theorem kX.isSome_eq{o:Option V}{u:Option Value}(r:kX o u):o.isSome=u.isSome:=by cases o with
 |none=>cases u with|none=>rfl|some _=>exact(show False from r).elim
 |some _=>cases u with|none=>exact(show False from r).elim|some _=>rfl
theorem kX.getD{o:Option V}{u:Option Value}{d:V}{d':Value}(r:kX o u)(rd:RelV d d'):RelV (o.getD d) (u.getD d'):=by cases o with
 |none=>cases u with|none=>exact rd|some _=>exact(show False from r).elim
 |some _=>cases u with|none=>exact(show False from r).elim|some _=>exact r
theorem KV.val{kvs:List (κ×V)}{vs:List (κ×Value)}(r:KV kvs vs)(k:κ):kX (ju kvs k) (valueAt vs k):=by unfold KV at r;induction r with|nil=>exact True.intro|@cons p q ps qs h t ih=>
  obtain⟨h1,h2⟩:=h;by_cases e:p.1=k
  ·have e':q.1=k:=h1.symm.trans e;have b:valueAt (q::qs) k=some q.2:=by simp[valueAt,List.find?_cons,e']
   rw[jY e,b];exact h2
  ·have e':¬q.1=k:=λz=>e (h1.trans z);have b:valueAt (q::qs) k=valueAt qs k:=by simp[valueAt,List.find?_cons,e']
   rw[jZ e,b];exact ih
theorem KV.any{kvs:List (κ×V)}{vs:List (κ×Value)}(r:KV kvs vs)(k:κ):(kvs.any λkv=>decide (kv.1=k))=vs.any λkv=>decide (kv.1=k):=by unfold KV at r;induction r with|nil=>rfl|cons h t ih=>rw[List.any_cons,List.any_cons,ih,h.1]
theorem KV.repl{kvs:List (κ×V)}{vs:List (κ×Value)}(r:KV kvs vs)(k:κ){y:V}{u:Value}(ry:RelV y u):KV (kvs.map λkv=>if kv.1=k then(kv.1,y)else kv) (vs.map λkv=>if kv.1=k then(kv.1,u)else kv):=by unfold KV at r⊢;induction r with|nil=>exact .nil|@cons p q ps qs h t ih=>
  rw[List.map_cons,List.map_cons];refine .cons ?_ ih;obtain⟨h1,h2⟩:=h;by_cases e:p.1=k;·rw[if_pos e,if_pos (h1.symm.trans e)];exact⟨h1,ry⟩
  ·rw[if_neg e,if_neg (λz=>e (h1.trans z))];exact⟨h1,h2⟩
theorem KV.put{kvs:List (κ×V)}{vs:List (κ×Value)}(r:KV kvs vs)(k:κ){y:V}{u:Value}(ry:RelV y u):KV (xB kvs k y) (stored vs k u):=by
 unfold xB stored;rw[r.any k];by_cases e:(vs.any λkv=>decide (kv.1=k))=true;·rw[if_pos e,if_pos e];exact r.repl k ry
 ·rw[if_neg e,if_neg e];exact Paired.snoc r ⟨rfl,ry⟩
theorem KV.length{kvs:List (κ×V)}{vs:List (κ×Value)}(r:KV kvs vs):kvs.length=vs.length:=Paired.length r
end
theorem gU{P:Program}{w:World}{k:Key}{u:Value}(r:RelV (kV k) u):(zU P w).is k u=true:=by cases k with|inl i=>obtain⟨t,e⟩:=(show∃t,u=Value.int i t from r);subst e;exact cx P w i t|inr x=>obtain⟨t,e⟩:=(show∃t,u=Value.str x t from r);subst e;exact ky P w x t
theorem iE{P:Program}{w:World}:∀{ks:List Key}{us:List Value},zE (ks.map kV) us->ItemsAre (zU P w) ks us|[],_,r=>by rw[List.map_nil]at r;cases r;exact .nil|k::ks,_,r=>by rw[List.map_cons]at r;cases r with|cons h t=>exact .cons (gU h) (iE t)
abbrev KT(H:Hp):List (List Key×V)->List (List Key×Addr×Value)->Prop:=Paired λp q=>p.1=q.1/\H q.2.1=some (.tup (p.1.map kV))/\RelV p.2 q.2.2
theorem KT.val{H:Hp}{kvs:List (List Key×V)}{xs:List (List Key×Addr×Value)}(r:KT H kvs xs)(k:List Key):kX (ju kvs k) ((atKey xs k).map (·.2)):=by induction r with|nil=>exact True.intro|@cons p q ps qs h t ih=>
  obtain⟨h1,_,h2⟩:=h;by_cases e:p.1=k
  ·have e':q.1=k:=h1.symm.trans e;have b:atKey (q::qs) k=some q.2:=by simp[atKey,List.find?_cons,e']
   rw[jY e,b];exact h2
  ·have e':¬q.1=k:=λz=>e (h1.trans z);have b:atKey (q::qs) k=atKey qs k:=by simp[atKey,List.find?_cons,e']
   rw[jZ e,b];exact ih
theorem KT.repl{H:Hp}{kvs:List (List Key×V)}{xs:List (List Key×Addr×Value)}(r:KT H kvs xs)(k:List Key){y:V}{u:Value}(ry:RelV y u):KT H (kvs.map λkv=>if kv.1=k then(kv.1,y)else kv) (xs.map (putAt k u)):=by induction r with|nil=>exact .nil|@cons p q ps qs h t ih=>
  rw[List.map_cons,List.map_cons];refine .cons ?_ ih;obtain⟨h1,h2,h3⟩:=h;unfold putAt;by_cases e:p.1=k;·rw[if_pos e,if_pos (h1.symm.trans e)];exact⟨h1,h2,ry⟩
  ·rw[if_neg e,if_neg (λz=>e (h1.trans z))];exact⟨h1,h2,h3⟩
theorem KT.put{H:Hp}{kvs:List (List Key×V)}{xs:List (List Key×Addr×Value)}(r:KT H kvs xs)(k:List Key){b:Addr}{y:V}{u:Value}(hb:H b=some (.tup (k.map kV)))(ry:RelV y u):KT H (xB kvs k y) (storedH xs k b u):=by
 have e:(kvs.any λkv=>decide (kv.1=k))=(atKey xs k).isSome:=by rw[kZ,(r.val k).isSome_eq,Option.isSome_map]
 unfold xB storedH;rw[e];by_cases q:(atKey xs k).isSome=true;·rw[if_pos q,if_pos q];exact r.repl k ry
 ·rw[if_neg q,if_neg q];exact Paired.snoc r ⟨rfl,hb,ry⟩
theorem KT.keeps{H H':Hp}{kvs:List (List Key×V)}{xs:List (List Key×Addr×Value)}(r:KT H kvs xs)(ht:∀b ys,H b=some (.tup ys)->H' b=some (.tup ys)):KT H' kvs xs:=Paired.mapP r λ_ _ z=>⟨z.1,ht _ _ z.2.1,z.2.2⟩
section
variable{P:Program}{w:World}{H:Hp}{h:Heap}{a:Addr}
theorem KU{u:HO}(ok:gx P w H h)(e:Rd H a u):jg P w H h a u:=e.ok ok
theorem nY{kvs:List (Key×V)}(ok:gx P w H h)(e:Rd H a (.dK kvs)):kvs.length<=sizeLine/\(a==sysModules)=false/\∃vs,KV kvs vs/\h.DictOf (zU P w) a vs:=show jg P w H h a (.dK kvs)from KU ok e
theorem KW{kvs:List (Key×V)}(ok:gx P w H h)(e:H a=some (.dK kvs)):kvs.length<=sizeLine/\(a==sysModules)=false/\∃vs,KV kvs vs/\h.DictOf (zU P w) a vs:=nY ok (.inl e)
theorem u4{ks:List Key}(ok:gx P w H h)(e:H a=some (.tup (ks.map kV))):(tupleKind (zU P w)).is h ks a:=by obtain⟨_,its,r,o,h1,h2,n,h3⟩:=(show jg P w H h a (.tup (ks.map kV))from ok a _ e);exact⟨o,its.toArray,n,h1,h2,h3,by simpa using iE r⟩
theorem nZ{kvs:List (List Key×V)}(ok:gx P w H h)(e:Rd H a (.dT kvs)):kvs.length<=sizeLine/\(a==sysModules)=false/\∃xs,KT H kvs xs/\h.DictOfH (tupleKind (zU P w)) a xs:=by
 obtain⟨z,y,xs,r,o,es,ep,h1,h2,h3,h4,h5⟩:=(show jg P w H h a (.dT kvs)from KU ok e);refine⟨z,y,xs,r,o,es,ep,h1,h2,h3,h4,λx hx=>?_,h5⟩;have all:∀{l:List (List Key×V)}{m:List (List Key×Addr×Value)},KT H l m->∀x∈m,(tupleKind (zU P w)).is h x.1 x.2.1:=by intro l m q;induction q with|nil=>intro x hx;exact nomatch hx|@cons p q ps qs hq t ih=>
   intro x hx;rcases List.mem_cons.mp hx with e|hx;·subst e;exact u4 ok (by rw[<-hq.1];exact hq.2.1)
   ·exact ih x hx
 exact all r x hx
theorem UW{kvs:List (List Key×V)}(ok:gx P w H h)(e:H a=some (.dT kvs)):kvs.length<=sizeLine/\(a==sysModules)=false/\∃xs,KT H kvs xs/\h.DictOfH (tupleKind (zU P w)) a xs:=nZ ok (.inl e)
end
def gJ(H:Hp)(a:Addr)(y:V)(r:Option V):Prop:=(∃kvs k,Rd H a (.dK kvs)/\y=kV k/\r=ju kvs k)\/∃kvs k b,Rd H a (.dT kvs)/\y=.ref b/\H b=some (.tup (k.map kV))/\r=ju kvs k
def ZK(H:Hp)(a:Addr)(y v:V)(H':Hp):Prop:=(∃kvs k,H a=some (.dK kvs)/\y=kV k/\kvs.length<sizeLine/\H'=zO H a (.dK (xB kvs k v)))\/∃kvs k b,H a=some (.dT kvs)/\y=.ref b/\H b=some (.tup (k.map kV))/\kvs.length<sizeLine/\H'=zO H a (.dT (xB kvs k v))
theorem gJ.k{H:Hp}{a:Addr}{kvs:List (Key×V)}{k:Key}(e:H a=some (.dK kvs)):gJ H a (kV k) (ju kvs k):=.inl ⟨kvs,k,.inl e,rfl,rfl⟩
theorem ZK.k{H:Hp}{a:Addr}{kvs:List (Key×V)}{k:Key}{v:V}(e:H a=some (.dK kvs))(hl:kvs.length<sizeLine):ZK H a (kV k) v (zO H a (.dK (xB kvs k v))):=.inl ⟨kvs,k,e,rfl,hl,rfl⟩
section
variable{X:Cx}{pins:List ↑j}{σ:St}{H:Hp}{s:Shared}{a:Addr}{y v:V}{u r:Value}{o:Option V}{A:Around}{E:Value->Shared->Prop}
theorem zo.big(I:zo X pins σ H s):sysModules<s.heap.objs.size:=by have h:mainGlobals<s.heap.objs.size:=(I.mod.glob.keeps I.bk).lt;exact Nat.lt_trans ↑f h
theorem iF{Q:Value->Shared->Prop}(hu:A.units+1<cLine)(I:zo X pins σ H s)(g:gJ H a y (some v))(ry:RelV y u)(h:∀w' s',zo X pins σ H s'->RelV v w'->Q w' s'):wpAny ↑a A (getItem (.ref a) u) Q E s:=by
 rcases g with⟨kvs,k,e,ey,l⟩|⟨kvs,k,b,e,ey,eb,l⟩;·subst ey;obtain⟨z,hd,vs,rel,dd⟩:=nY I.hok e;obtain⟨w',hw,rw'⟩:=kX.some_of (v:=v) (o:=valueAt vs k) (by rw[l];exact rel.val k);exact wpAny_getItem_of (gU ry) dd.mapOf hw (h w' _ (I.tok _) rw')
 ·subst ey;cases(show u=Value.ref b from ry);obtain⟨z,hd,xs,rel,dd⟩:=nZ I.hok e;obtain⟨w',hw,rw'⟩:=kX.some_of (v:=v) (o:=(atKey xs k).map (·.2)) (by rw[l];exact rel.val k);obtain⟨p,hp,hp2⟩:=Option.map_eq_some_iff.mp hw;refine wpAny_getItem_heap (tupleKind_room_in1 hu) (u4 I.hok eb) dd hp ?_;rw[hp2];exact h w' _ (I.tok _) rw'
theorem Lc{Q:Value->Shared->Prop}(hu:A.units+1<cLine)(I:zo X pins σ H s)(g:gJ H a y o)(ry:RelV y u)(h:∀s',zo X pins σ H s'->Q (.bool o.isSome) s'):wpAny ↑a A (compareOp .In u (.ref a)) Q E s:=by
 rcases g with⟨kvs,k,e,ey,l⟩|⟨kvs,k,b,e,ey,eb,l⟩;·subst ey;obtain⟨z,hd,vs,rel,dd⟩:=nY I.hok e;refine wpAny_in_of (gU ry) hd dd.mapOf ?_;rw[<-(rel.val k).isSome_eq,<-l];exact h _ (I.tok _)
 ·subst ey;cases(show u=Value.ref b from ry);obtain⟨z,hd,xs,rel,dd⟩:=nZ I.hok e;refine wpAny_in_heap (tupleKind_room_in1 hu) (u4 I.hok eb) hd dd ?_;have q:=(rel.val k).isSome_eq;rw[Option.isSome_map]at q;rw[<-q,<-l];exact h _ (I.tok _)
theorem rg{Q:Value->Shared->Prop}(hu:A.units+1<cLine)(I:zo X pins σ H s)(g:gJ H a y o)(ry:RelV y u)(h:∀s',zo X pins σ H s'->Q (.bool (!o.isSome)) s'):wpAny ↑a A (compareOp .NotIn u (.ref a)) Q E s:=by
 rcases g with⟨kvs,k,e,ey,l⟩|⟨kvs,k,b,e,ey,eb,l⟩;·subst ey;obtain⟨z,hd,vs,rel,dd⟩:=nY I.hok e;refine wpAny_notIn_of (gU ry) hd dd.mapOf ?_;rw[<-(rel.val k).isSome_eq,<-l];exact h _ (I.tok _)
 ·subst ey;cases(show u=Value.ref b from ry);obtain⟨z,hd,xs,rel,dd⟩:=nZ I.hok e;refine wpAny_notIn_heap (tupleKind_room_in1 hu) (u4 I.hok eb) hd dd ?_;have q:=(rel.val k).isSome_eq;rw[Option.isSome_map]at q;rw[<-q,<-l];exact h _ (I.tok _)
theorem eP{h':Heap}{t':Nat}{ob:HO}(I:zo X pins σ H s)(mu:Us (H a))(hs:Heap.SameBut a s.heap h')(he:∃q,h'.get? a=some q)(new:jg X.prog X.w (zO H a ob) h' a ob):zo X pins σ (zO H a ob) {s with heap:=h',toks:=t'}:=I.write (x:=a) (e:=a) mu (.inl rfl) (λb q hb z=>(hs.2 b hb).trans z) he new
theorem tH{P:Program}{w:World}{H':Hp}{h':Heap}{kvs:List (Key×V)}{vs:List (Key×Value)}(z:kvs.length<=sizeLine)(hd:(a==sysModules)=false)(rel:KV kvs vs)(dd:h'.DictOf (zU P w) a vs):jg P w H' h' a (.dK kvs):=⟨z,hd,vs,rel,dd⟩
theorem ZL{H':Hp}{Q:Unit->Shared->Prop}(hu:A.units+1<cLine)(I:zo X pins σ H s)(g:ZK H a y v H')(ry:RelV y u)(rv:RelV v r)(h:∀s',zo X pins σ H' s'->Q () s'):wpAny ↑a A (setItem (.ref a) u r) Q E s:=by
 rcases g with⟨kvs,k,e,ey,l,eH⟩|⟨kvs,k,b,e,ey,eb,l,eH⟩
 ·subst ey eH;obtain⟨z,hd,vs,rel,dd⟩:=KW I.hok e;have hz:vs.length<=sizeLine:=by rw[<-rel.length];exact z
  have hl:(xB kvs k v).length<=sizeLine:=by have:=qU kvs k v;omega
  refine wpAny_setItem_pairs (hsz:=hz) (gU ry) dd λh' dd' hs=>h _ ?_;have he:∃q,h'.get? a=some q:=let⟨q,_,_,hq,_⟩:=dd';⟨q,hq⟩;exact eP I (by rw[e];exact True.intro) hs he (tH hl hd (rel.put k rv) dd')
 ·subst ey eH;cases(show u=Value.ref b from ry);obtain⟨z,hd,xs,rel,dd⟩:=UW I.hok e;have hz:xs.length<=sizeLine:=by rw[<-Paired.length rel];exact z
  have hl:(xB kvs k v).length<=sizeLine:=by have:=qU kvs k v;omega
  refine wpAny_setItem_heap (hsz:=hz) (tupleKind_room_in1 hu) (u4 I.hok eb) dd λh' dd' hs=>h _ ?_;obtain⟨q,es,ep,hq,h2,h3,h4,_,h5⟩:=dd';refine eP I (by rw[e];exact True.intro) hs ⟨q,hq⟩ ⟨hl,hd,_,(rel.put k eb rv).keeps λc ys ec=>?_,q,es,ep,hq,h2,h3,h4,h5⟩;rw[zf (nR ec e (λz=>nomatch z))];exact ec
end
def Y6(i:Expr):Prop:=∀ov iv,subscripted i false ov iv=operate [ov,iv] (getItem ov iv)
theorem rh{prog:Program}{w:World}{A:Around}{E:Value->Shared->Prop}{s:Shared}{env:Env}{value slice:Expr}{pos:Pos}{T id:String}{Q:Value->Shared->Prop}(hl:typeLookup (.type T) "__getitem__"=pure (some (.builtin id)))(hs:Y6 slice)(h:wpAny ↑d A (eval value env) (λo s₁=>wpAny ↑d A (eval slice env) (λi s₂=>s₂.TypeIs o T/\wpAny ↑d A (getItem o i) Q E s₂) E s₁) E s):wpAny ↑d A (eval (.Subscript value slice pos) env) Q E s:=by
 refine Subscript_ (wpAny_mono h (λo s₁ h₁=>wpAny_mono h₁ (λi s₂ h₂=>?_) λ_ _ x=>x) λ_ _ x=>x);obtain⟨hT,h₂⟩:=h₂;unfold subscriptTail;refine wpAny_bind ?_;rw[getitemInPython_of_ne hT.not_modules];refine wpAny_bind (wpAny_specialOf hT hl ?_);have fin:wpAny ↑d A (subscripted slice false o i) (λr s₃=>wpAny ↑d A (letTemporaryGo value o r>>=λ_=>pure r) Q E s₃) E s₂:=by rw[hs o i];exact wpAny_operating (wpAny_mono h₂ (λr s₃ h₃=>wpAny_bind (wpAny_letTemporaryGo (wpAny_pure h₃))) λ_ _ x=>x)
 first|exact wpAny_pure (wpAny_bind fin)|exact wpAny_bind (wpAny_pure (wpAny_bind fin))|exact wpAny_bind fin
theorem uz{X:Cx}{pins:List ↑j}{σ:St}{H:Hp}{s:Shared}{a:Addr}{y:V}{o:Option V}(I:zo X pins σ H s)(g:gJ H a y o):s.TypeIs (.ref a) "dict":=by
 rcases g with⟨kvs,k,e,_,_⟩|⟨kvs,k,b,e,_,_,_⟩;·obtain⟨_,_,vs,_,dd⟩:=nY I.hok e;exact dd.typeIs
 ·obtain⟨_,_,xs,_,dd⟩:=nZ I.hok e;exact dd.typeIs
def UX(td ty:TE):TE:=λσ H Q=>td σ H λx H1=>ty σ H1 λy H2=>∃a v,x=.ref a/\gJ H2 a y (some v)/\Q v H2
def WY(ty td:TE):TE:=λσ H Q=>ty σ H λy H1=>td σ H1 λx H2=>∃a o,x=.ref a/\gJ H2 a y o/\Q (.bl (!o.isSome)) H2
def cK(td ty tv:TE):TS:=λD σ H=>tv σ H λv H1=>td σ H1 λx H2=>ty σ H2 λy H3=>∃a H4,x=.ref a/\ZK H3 a y v H4/\D.nx σ H4
section
variable{X:Cx}{o i e value:Expr}{pos pos' tpos:Pos}{td ty tv:TE}
theorem WZ(hu:X.A.units+1<cLine)(ho:PE X o td)(hi:PE X i ty)(hs:Y6 i):PE X (.Subscript o i pos) (UX td ty):=by intro pins s σ H Q I h;refine rh PySem.F.slot_dict_getitem.lookup hs (ja (ho pins s σ H _ I h) λu s1⟨x,H1,I1,rx,q1⟩=>ja (hi pins s1 σ H1 _ I1 q1) λiv s2⟨y,H2,I2,ry,a,v,ex,g,q2⟩=>?_);subst ex;obtain rfl:u=Value.ref a:=rx;exact⟨uz I2 g,iF hu I2 g ry λw' s3 I3 rw'=>⟨v,H2,I3,rw',q2⟩⟩
theorem ZM(hu:X.A.units+1<cLine)(hi:PE X i ty)(ho:PE X o td):PC X .NotIn i o (WY ty td):=by intro pins s σ H Q I h;refine ja (hi pins s σ H _ I h) λiv s1⟨y,H1,I1,ry,q1⟩=>ja (ho pins s1 σ H1 _ I1 q1) λu s2⟨x,H2,I2,rx,a,ov,ex,g,q2⟩=>?_;subst ex;obtain rfl:u=Value.ref a:=rx;exact rg hu I2 g ry λs3 I3=>⟨.bl (!ov.isSome),H2,I3,rfl,q2⟩
theorem rm(hu:X.A.units+1<cLine)(ho:PE X o td)(hi:PE X i ty)(hv:PE X value tv)(hs:swapsWith value (some (.Subscript o i pos')) pos.line X.env=pure false):PS X (.Assign [.Subscript o i pos'] value pos) (cK td ty tv):=by intro pins s σ H D I h;refine wpAny_Assign_Subscript (ja (hv pins s σ H _ I h) λr s1⟨v,H1,I1,rv,q1⟩=>ja (ho pins s1 σ H1 _ I1 q1) λu s2⟨x,H2,I2,rx,q2⟩=>ja (hi pins s2 σ H2 _ I2 q2) λiv s3⟨y,H3,I3,ry,a,H4,ex,g,q3⟩=>?_) hs;subst ex;obtain rfl:u=Value.ref a:=rx;exact ZL hu I3 g ry rv λs4 I4=>⟨σ,H4,I4,q3⟩
end
theorem m4{P:Program}{w:World}{H:Hp}(h:Heap)(hb:sysModules<h.objs.size):jg P w H (h.push {cls:=.type "dict",data:=.dict #[]}) h.objs.size (.dK []):=⟨Nat.zero_le _,beq_eq_false_iff_ne.mpr (Ne.symm (Nat.ne_of_lt hb)),[],.nil,Heap.DictOf.new h⟩
def eQ:TE:=λ_ H Q=>∀p,H p=none->Q (.ref p) (zO H p (.dK []))
section
variable{X:Cx}{pos:Pos}
theorem cL:PE X (.Dict [] [] pos) eQ:=λpins s σ H Q I h=>wpAny_Dict_empty ⟨.ref s.heap.objs.size,_,I.laid (a:=s.heap.objs.size) (o:=.dK []) (t':=s.toks) (λ_ _ q=>Heap.get?_push_of_some _ q) ↑h (m4 s.heap I.big),rfl,h _ (I.hok.fresh ↑h)⟩
end
def eR:List (TE×TE)->St->Hp->(List (V×V)->Hp->Prop)->Prop|[],_,H,Q=>Q [] H|(tk,tv)::r,σ,H,Q=>tk σ H λx H1=>tv σ H1 λy H2=>eR r σ H2 λps H3=>Q ((x,y)::ps) H3
abbrev VV:List (V×V)->List (Value×Value)->Prop:=Paired λp q=>RelV p.1 q.1/\RelV p.2 q.2
def UY(X:Cx)(pos:Pos)(keys:List (Option Expr))(values:List Expr)(trs:List (TE×TE)):Prop:=∀(pins:List ↑j)(s:Shared)(σ:St)(H:Hp)(Q:List (V×V)->Hp->Prop),zo X pins σ H s->eR trs σ H Q->wpAny ↑a X.A (evalPairs (pairTrees keys values X.env pos)) (λvs s'=>∃ps H',zo X pins σ H' s'/\VV ps vs/\Q ps H') X.xe s
theorem V0{X:Cx}{pos:Pos}:UY X pos [] [] []:=λpins s σ H Q I h=>pairTrees_nil_walk ⟨[],H,I,.nil,h⟩
theorem Y7{X:Cx}{pos:Pos}{k v:Expr}{ks:List (Option Expr)}{vs:List Expr}{tk tv:TE}{trs:List (TE×TE)}(hk:PE X k tk)(hv:PE X v tv)(hr:UY X pos ks vs trs):UY X pos (some k::ks) (v::vs) ((tk,tv)::trs):=λpins s σ H Q I h=>pairTrees_cons_walk (ja (hk pins s σ H _ I h) λu s1⟨x,H1,I1,rx,q1⟩=>ja (hv pins s1 σ H1 _ I1 q1) λw2 s2⟨y,H2,I2,ry,q2⟩=>ja (hr pins s2 σ H2 _ I2 q2) λws s3⟨ps,H3,I3,rel,q3⟩=>⟨(x,y)::ps,H3,I3,.cons ⟨rx,ry⟩ rel,q3⟩)
def ka(kvs more:List (Key×V)):List (Key×V):=more.foldl (λacc kv=>xB acc kv.1 kv.2) kvs
theorem KV.merge:∀{more:List (Key×V)}{rs:List (Key×Value)}{kvs:List (Key×V)}{vs:List (Key×Value)},KV more rs->KV kvs vs->KV (ka kvs more) (merged vs rs):=by intro more rs kvs vs r;unfold KV at r;induction r generalizing kvs vs with|nil=>intro q;exact q|@cons p q ps qs h t ih=>
  intro r0;have e:KV (xB kvs p.1 p.2) (stored vs q.1 q.2):=by have:=r0.put p.1 h.2;rw[<-h.1];exact this
  exact ih e
theorem kM:∀(more kvs:List (Key×V)),(ka kvs more).length<=kvs.length+more.length|[],kvs=>by show kvs.length<=kvs.length+0;omega|p::r,kvs=>by have h1:=kM r (xB kvs p.1 p.2);have h2:=qU kvs p.1 p.2;show(ka (xB kvs p.1 p.2) r).length<=_;rw[List.length_cons];omega
theorem m5{P:Program}{w:World}:∀{kvs:List (Key×V)}{ws:List (Value×Value)},VV (kvs.map λkv=>(kV kv.1,kv.2)) ws->∃rs,Carries (zU P w) ws rs/\KV kvs rs|[],_,r=>by rw[List.map_nil]at r;cases r;exact⟨[],True.intro,.nil⟩|p::kvs,_,r=>by rw[List.map_cons]at r;cases r with|@cons a b as bs h t=>obtain⟨rs,c,q⟩:=m5 (P:=P) (w:=w) t;obtain⟨b1,b2⟩:=b;exact⟨(p.1,b2)::rs,⟨gU h.1,rfl,c⟩,.cons ⟨rfl,h.2⟩ q⟩
def UZ(trs:List (TE×TE)):TE:=λσ H Q=>∀p,H p=none->eR trs σ (zO H p (.dK [])) λps H2=>H2 p=some (.dK [])/\∃kvs:List (Key×V),ps=kvs.map (λkv=>(kV kv.1,kv.2))/\kvs.length<=15/\Q (.ref p) (zO H2 p (.dK (ka [] kvs)))
theorem V1{X:Cx}{pos:Pos}{keys:List (Option Expr)}{values:List Expr}{trs:List (TE×TE)}(h:UY X pos keys values trs)(hall:keys.all (·.isSome)=true)(hl:keys.length=values.length)(h0:keys≠[])(h15:keys.length<=15):PE X (.Dict keys values pos) (UZ trs):=by
 intro pins s σ H Q I q;have hn:=I.hok.fresh (Nat.le_refl s.heap.objs.size);have I1:=I.laid (a:=s.heap.objs.size) (o:=.dK []) (h':=s.heap.push {cls:=.type "dict",data:=.dict #[]}) (t':=s.toks) (λ_ _ q=>Heap.get?_push_of_some _ q) ↑h (m4 s.heap I.big);refine wpAny_Dict_walk (knd:=zU X.prog X.w) hall hl h0 h15 (ja (h pins _ σ _ _ I1 (q _ hn)) λws s2⟨ps,H2,I2,rel,e,kvs,ep,lk,q2⟩=>?_);subst ep;obtain⟨rs,c,rk⟩:=m5 (P:=X.prog) (w:=X.w) rel;obtain⟨z,hd,vs0,r0,dd⟩:=KW I2.hok e;cases r0;refine⟨rs,c,dd,λh' dd' hs=>⟨.ref s.heap.objs.size,_,?_,rfl,q2⟩⟩;have hz:(ka [] kvs).length<=sizeLine:=by have h1:=kM kvs [];rw[List.length_nil]at h1;rw[sizeLine_eq];omega
 have he:∃q,h'.get? s.heap.objs.size=some q:=let⟨q,_,_,hq,_⟩:=dd';⟨q,hq⟩;exact eP I2 (by rw[e];exact True.intro) hs he (tH hz hd (rk.merge .nil) dd')
structure M1(X:Cx)(o:Expr)(m:Str)(apos:Pos)(e:Expr)(cpos:Pos):Prop where
 base:attributeBase o m X.env (eval o X.env)=eval o X.env
 few:((backTo cpos (starEach [e] X.env)).all (λx=>!x.1)&&(backToKw cpos (keywordEach [] X.env)).all (λx=>x.1.isSome)&&decide (([e]:List Expr).length+([]:List Keyword).length+(if([]:List Keyword).isEmpty then 0 else 1)<30))=true
 line:(apos.endLine==cpos.line)=true
 trees:backTo cpos (starEach [e] X.env)=[↑x]
structure M2(X:Cx)(o:Expr)(m:Str)(apos:Pos)(e f:Expr)(cpos:Pos):Prop where
 base:attributeBase o m X.env (eval o X.env)=eval o X.env
 few:((backTo cpos (starEach [e,f] X.env)).all (λx=>!x.1)&&(backToKw cpos (keywordEach [] X.env)).all (λx=>x.1.isSome)&&decide (([e,f]:List Expr).length+([]:List Keyword).length+(if([]:List Keyword).isEmpty then 0 else 1)<30))=true
 line:(apos.endLine==cpos.line)=true
 trees:backTo cpos (starEach [e,f] X.env)=[↑x,(false,eval f X.env)]
def Il(H:Hp)(a:Addr):Prop:=(∃kvs,Rd H a (.dK kvs))\/∃kvs,Rd H a (.dT kvs)
theorem Gc{X:Cx}{pins:List ↑j}{σ:St}{H:Hp}{s:Shared}{a:Addr}(I:zo X pins σ H s)(d:Il H a):s.TypeIs (.ref a) "dict"/\(∀b,Value.ref a=.ref b->∃ob,s.heap.get? b=some ob/\ob.dict=none)/\(a==sysModules)=false:=by
 rcases d with⟨kvs,e⟩|⟨kvs,e⟩;·obtain⟨_,hd,vs,_,dd⟩:=nY I.hok e;refine⟨dd.typeIs,λb q=>?_,hd⟩;cases q;obtain⟨ob,_,_,h1,h2,_⟩:=dd;exact⟨ob,h1,h2.2.1⟩
 ·obtain⟨_,hd,xs,_,dd⟩:=nZ I.hok e;refine⟨dd.typeIs,λb q=>?_,hd⟩;cases q;obtain⟨ob,_,_,h1,h2,_⟩:=dd;exact⟨ob,h1,h2.2.1⟩
section
variable{X:Cx}{pins:List ↑j}{σ:St}{H:Hp}{s:Shared}{a:Addr}{y d:V}{u r:Value}{o:Option V}{A:Around}{E:Value->Shared->Prop}
theorem Gd{Q:Value->Shared->Prop}(hu:A.units+1<cLine)(I:zo X pins σ H s)(g:gJ H a y o)(ry:RelV y u)(h:∀w' s',zo X pins σ H s'->RelV (o.getD .non) w'->Q w' s'):wpAny ↑a A (call (.builtin "dict.get") [.ref a,u]) Q E s:=by
 rcases g with⟨kvs,k,e,ey,l⟩|⟨kvs,k,b,e,ey,eb,l⟩;·subst ey;obtain⟨z,hd,vs,rel,dd⟩:=nY I.hok e;refine call_meetsIn PySem.F.slot_dict_get dd.typeIs PySem.F.entry_dict_get (PySem.F.args_dict_get_2 _ _) (meets_dict_get (zU X.prog X.w) a (gU ry) hd) ⟨_,dd.mapOf,h _ _ (I.tok _) ?_⟩;rw[l];exact(rel.val k).getD rfl
 ·subst ey;cases(show u=Value.ref b from ry);obtain⟨z,hd,xs,rel,dd⟩:=nZ I.hok e;refine call_meetsIn PySem.F.slot_dict_get dd.typeIs PySem.F.entry_dict_get (PySem.F.args_dict_get_2 _ _) (meetsH_dict_get (tupleKind (zU X.prog X.w)) a b hd) ⟨tupleKind_room_in1 hu,k,xs,u4 I.hok eb,dd,h _ _ (I.tok _) ?_⟩;rw[l];exact(rel.val k).getD rfl
end
def Ge(td ty:TE):TE:=λσ H Q=>td σ H λx H1=>∃a,x=.ref a/\Il H1 a/\ty σ H1 λy H2=>∃o,gJ H2 a y o/\Q (o.getD .non) H2
section
variable{X:Cx}{o e f:Expr}{apos cpos:Pos}{td ty tx:TE}
theorem Y8(hu:X.A.units+1<cLine)(ho:PE X o td)(he:PE X e ty)(m:M1 X o "get" apos e cpos):PE X (.Call (.Attribute o "get" apos) [e] [] cpos) (Ge td ty):=by intro pins s σ H Q I h;refine wpAny_Call_method m.base m.few m.line PySem.F.plainAttrs_dict PySem.F.slot_dict_get PySem.F.type_dict_get (ja (ho pins s σ H _ I h) λu s1⟨x,H1,I1,rx,a,ex,d,q1⟩=>?_);subst ex;obtain rfl:u=Value.ref a:=rx;obtain⟨t1,t2,_⟩:=Gc I1 d;refine⟨t1,t2,?_⟩;rw[m.trees];refine Calls.callWith_builtin rfl (Calls.evalArgs_plain (Calls.spliced_cons (ja (he pins s1 σ H1 _ I1 q1) λiv s2⟨y,H2,I2,ry,ov,g,q2⟩=>Calls.spliced_nil ?_)));exact Gd hu I2 g ry λw' s3 I3 rw'=>⟨_,H2,I3,rw',q2⟩
end
end L2
namespace Att
open PySem PySem.W PySem.Calls PyProof.Rows
theorem ng{P:Params}{h:Heap}:∀(ns:List Int)(vs:List Value),WellAll P h vs (ns.map WData.int)->IntsAre vs ns:=by intro ns;induction ns with|nil=>intro vs w;rw[List.map_nil]at w;cases w;exact .nil|cons n ns ih=>intro vs w;rw[List.map_cons]at w;cases w with|cons a b=>cases a;exact .cons _ _ (ih _ b)
theorem ZN{l:OpenLaw}{n:Nat}(hn:l.most=some n){P:Params}{h:Heap}{args:List WData}{vals:List Value}(hpre:l.row.toRowW.claim.pre args=true)(hwl:WellAll P h vals args):∃a vs ns,vals=[Value.ref a]/\args=[WData.list (ns.map WData.int)]/\h.get? a=some {cls:=.type "list",data:=.seq vs.toArray}/\IntsAre vs ns/\ns.length<=n:=by
 have hsh:WShape.hasAll [] args [.list .int]=true:=(pre_splitW hpre).1;have hc:l.pre.holds [] {args:=args}=true:=(pre_splitW hpre).2;obtain⟨d,r,rfl,h1,h2⟩:=hasAllW_cons hsh;obtain rfl:=hasAllW_nil h2;obtain⟨xs,rfl,h3⟩:=hasW_list h1;obtain⟨ns,rfl⟩:=items_int h3;have hlen:ns.length<=n:=by
  unfold OpenLaw.pre at hc;have h4:(WTm.not (.lt (.lit (.int (n:Int))) (.len (.arg 0)))).holds [] {args:=[.list (ns.map .int)]}=true:=by have h4:=(holds_andW hc).1;rw[hn]at h4;exact h4
  have h5:=condW_of h4 (w_not (w_lt w_lit (w_len_list (w_arg rfl))));rw[List.length_map]at h5;refine Nat.le_of_not_lt λq=>?_;have q':(n:Int)<((ns.length:Nat):Int):=by omega
  first|(rw[decide_eq_true q']at h5;exact absurd h5 ↑f)|(simp at h5;omega)
 cases hwl with|cons w1 w2=>cases w2;cases w1 with|list ho hall=>exact⟨_,_,ns,rfl,rfl,ho,ng ns _ hall,hlen⟩
theorem ZO(l:OpenLaw)(args:List WData):l.row.toRowW.claim.post args (.bool true) args=true:=postW_of (r:=l.row.toRowW) (X:=(true==true)) (show WShape.has [] (.bool true) .bool=true by first|rfl|decide|simp[WShape.has,WShape.arms,WShape.armsAll]) (show(WTm.eq .res (.lit (.bool true))).value [] {args:=args,res:=some (.bool true),after:=args}=some (.bool (true==true))from w_eq_bool (w_res rfl) w_lit) rfl
theorem attach_call{l:OpenLaw}{n:Nat}{q:Program}{loose:List Str}{XP:(Str->Option Value)->Heap->Prop}{YP:World->Heap->Prop}{d:DefRec}(hn:l.most=some n)(hdf:d.params.defaults=[])(call:∀(w:World)(s₀ s₁:Shared)(mg mb:Str->Option Value)(fa:Addr)(o:Obj)(pm cd doc:Value)(a:Addr)(vs:List Value)(ns:List Int),Ground q loose [] XP w s₀ mg mb s₁.heap->YP w s₁.heap->s₁.heap.get? fa=some o->o.data=.func (docDef d.name d.params d.body d.scope pm cd doc)->s₁.heap.CodeRec cd d.name->mg d.name=some (.ref fa)->s₁.heap.get? a=some {cls:=.type "list",data:=.seq vs.toArray}->IntsAre vs ns->ns.length<=n->s₁.gens=#[]->codeAny (model l.prog w) callerA (.call (.ref fa) ⟨[.ref a],[]⟩) (λr s'=>r=.ok (.ret (.bool true))/\OldK s₁.heap s'.heap/\s'.os=s₁.os/\AllBare s'.gens) s₁):WalkO q loose XP YP l.row.toRowW d [] (λf vs=>PySem.call f vs):=by intro w s₀ s₁ mg mb G Y fa o pm cd doc dV kV ho hd hcd hD hmg hg args vals as hpre hlay hrd hwl hlo;obtain rfl:dV=.none:=Dflts.none hD hdf;obtain rfl:kV=.none:=Dflts.noKw hD;obtain⟨a,vs,ns,rfl,rfl,hobj,hints,hlen⟩:=ZN hn hpre hwl;refine enter_call (codeAny_mono (call w s₀ s₁ mg mb fa o pm cd doc a vs ns G Y ho (fd_plain hd) hcd hmg hobj hints hlen hg) λr s' hq=>?_);obtain⟨rfl,h2,h3,h4⟩:=hq;exact⟨.inl ⟨.bool true,.bool true,[],rfl,λ_=>rfl,.bool true,ZO l _,λ_=>⟨List.Pairwise.nil,λ_ hm=>(nomatch hm)⟩⟩,h2,h3,h4⟩
section
variable{prog:Program}{w:World}{A:Around}{E:Value->Shared->Prop}{s:Shared}{K:Frag}
def Ld(h:Heap)(L d:Addr):List ↑j:=(List.range h.objs.size).filterMap λa=>if a=L\/a=d then none else(h.get? a).map λo=>(a,o)
end
end Att
namespace L2
open PySem PySem.Spec PyProof.Rows
theorem iG:∀{vs:List Value}{ns:List Int},IntsAre vs ns->zE (ns.map V.int) vs|_,_,.nil=>.nil|_,_,.cons n t h=>.cons ⟨t,rfl⟩ (iG h)
def Gf(H:Hp):Prop:=∀b,H b=none\/b=tabP\/∃o xs,H b=some (.frz o (.lst xs))
theorem Y9{P:Program}{w:World}{K:W.Frag}{mg mb:Str->Option Value}{CX:ZG}{k:Nat}{fa a:Addr}{fd:FuncData}{x:Str}{sp:Sp}{s₁:Shared}{vs:List Value}{ns:List Int}{c₀:Addr}(KX:K.In s₁.heap)(hT:s₁.heap.get? tabP=some {cls:=.none,data:=.fields #[]})(hC:W.CodeHd s₁.heap c₀ tabP)(hKT:W.noTabs K=true)(hbm:∃bm ob,mg "__builtins__"=some (.ref bm)/\bm≠builtinsNs/\s₁.heap.get? bm=some ob/\ob.cls=.type "module"/\ob.dict=some builtinsNs/\ob.data=.plain)(hns:s₁.heap.Ns mainGlobals mg)(hb:s₁.heap.Ns builtinsNs mb)(hbb:∀x:Str,x≠"__name__"->mb x=bootBuiltins x)(hlim:s₁.heap.NoLimit)(hg:s₁.gens=#[])(ha:s₁.heap.get? a=some {cls:=.type "list",data:=.seq vs.toArray})(hi:IntsAre vs ns)(hl:ns.length<=sizeLine)(hr:jN k callerA)(F:∀base:Heap,K.In base->base.Ns mainGlobals mg->xZ P w K mg base CX k fa fd [x] sp)(hbind:∀(s:Shared)(u:Value),BindsTo s fd ⟨[u],[]⟩ [(x,u)])(hsp:∀H:Hp,Gf H->fo K H a (ns.map V.int)->sp [.ref a] H (λv _=>v=.bl true) λ_ _ _=>False)(hCX:∀H e s',CX [] H s₁ (λ_ _ _=>False) e s'->False):codeAny (model P w) callerA (.call (.ref fa) ⟨[.ref a],[]⟩) (λr s'=>r=.ok (.ret (.bool true))/\OldK s₁.heap s'.heap/\s'.os=s₁.os/\AllBare s'.gens) s₁:=by
 have rv:=iG hi;have lenV:=hi.length--from an abstract heap in which nothing but the script may be tracked
 have core:∀H:Hp,Gf H->fo K H a (ns.map V.int)->gx P w H s₁.heap->H tabP=some aO->(∀b,H b≠none->b=a\/b=tabP)->(H a≠none->K.lookup a=none)->codeAny (model P w) callerA (.call (.ref fa) ⟨[.ref a],[]⟩) (λr s'=>r=.ok (.ret (.bool true))/\OldK s₁.heap s'.heap/\s'.os=s₁.os/\AllBare s'.gens) s₁:=by
  intro H hO hS hok hTb hA hK;have kT:K.lookup tabP=none:=by cases e:K.lookup tabP with|none=>rfl|some o=>have e1:=KX _ _ e;rw[hT]at e1;cases e1;have:=List.all_eq_true.mp hKT _ (W.mem_of_lookupK e);cases this
  have base_of:∀{b:Addr}{o:Obj},s₁.heap.get? b=some o->H b=none->(eE s₁.heap H).get? b=some o:=λe n=>JJ e n;have noA:∀{b:Addr}{o:Obj}{es:Array DictEntry}{ep:Nat},s₁.heap.get? b=some o->o.data=.dict es ep->H b=none:=λ{b o es ep}e d=>by cases q:H b with|none=>rfl|some u=>
    rcases hA b (by rw[q];simp)with e'|e';·subst e';rw[ha]at e;cases e;have d':Data.seq vs.toArray _=Data.dict es ep:=d;cases d'
    ·subst e';rw[hT]at e;cases e;have d':Data.fields #[]=Data.dict es ep:=d;cases d'
  have nsK:∀{b:Addr}{m:Str->Option Value},s₁.heap.Ns b m->(eE s₁.heap H).Ns b m:=λ{b m}⟨o,es,ep,e,d,r⟩=>⟨o,es,ep,base_of e (noA e d),d,r⟩;have hKb:K.In (eE s₁.heap H):=λb o e=>base_of (KX b o e) (by cases q:H b with|none=>rfl|some u=>
    rcases hA b (by rw[q];simp)with e'|e';·subst e';rw[hK (by rw[q];simp)]at e;cases e
    ·subst e';rw[kT]at e;cases e);have hM:Mod K mg (eE s₁.heap H):=⟨hKb,nsK hns,⟨mb,nsK hb,hbb⟩,let⟨mc,h1,h2⟩:=hlim;⟨mc,nsK h1,h2⟩,by obtain⟨bm,ob,b1,b2,b3,b4,b5,b6⟩:=hbm;refine⟨bm,ob,b1,b2,base_of b3 ?_,b4,b5,b6⟩;cases q:H bm with|none=>rfl|some u=>
    rcases hA bm (by rw[q];simp)with e'|e';·subst e';rw[ha]at b3;cases b3;cases b6
    ·subst e';rw[hT]at b3;cases b3;cases b6⟩;have e0:cD P w K mg (eE s₁.heap H) callerA [] s₁ H:=⟨rfl,hM,λb o e=>WD e,Nat.le_of_eq (Zx _ _),trivial,λb hb=>absurd (show b∈([]:List Addr)from hb) ↑D,hTb,hok,.of_eq hg⟩;refine codeAny_mono ((F _ hKb (nsK hns)).run callerA [] s₁ H ⟨[.ref a],[]⟩ [.ref a] [.ref a] _ _ hr e0 (hbind s₁ (.ref a)) (.cons rfl .nil) (hsp H hO hS)) λr s' h=>?_;cases r with|error e=>exact(hCX H e s' h).elim|ok fl=>cases fl with|next=>exact False.elim h|brk=>exact False.elim h|cont=>exact False.elim h|ret u=>
    obtain⟨v,H',os,bare,un,hok',r',q⟩:=h;have q':v=.bl true:=q;subst q';obtain rfl:u=Value.bool true:=r';have hk:∀b o,b≠tabP->s₁.heap.get? b=some o->s'.heap.get? b=some o:=λb o hbP e=>?_;refine⟨rfl,⟨λb o e=>?_,λb o e=>?_⟩,os,bare⟩
    ·by_cases hbP:b=tabP;·subst hbP;rw[hT]at e;cases e;obtain⟨ps,e2,_⟩:=(hok' _ _ (un.frzs _ _ _ hTb)).2;exact .inr (.inl ⟨let⟨o,vs,_,_,_,_,_,_,_,e1,e2,e3,e4,_⟩:=hC;⟨_,o,vs,e1,e2,e3,e4⟩,rfl,#[],ps,rfl,by rw[Array.empty_append];exact e2⟩)
     ·exact .inl (hk b o hbP e)
    ·by_cases hbP:b=tabP;·subst hbP;obtain⟨ps,e2,_⟩:=(hok' _ _ (un.frzs _ _ _ hTb)).2;exact⟨_,e2⟩
     ·exact⟨o,hk b o hbP e⟩
    cases q:H b with|none=>exact un.keep b o e q (by intro z;exact absurd (show b∈([]:List Addr)from z) ↑D) ↑D|some u=>
     rcases hO b with z|z|⟨ob,xs,z⟩;·rw[q]at z;cases z
     ·exact absurd z hbP
     ·have z2:=un.frzs b ob _ z;obtain⟨e1,_⟩:=hok b _ z;obtain⟨e2,_⟩:=hok' b _ z2;have e1:=e1 rfl;rw[e]at e1;cases e1;exact e2 rfl
 have tne:a≠tabP:=λz=>by rw[z,hT]at ha;cases ha
 have tok:∀H:Hp,jg P w H s₁.heap tabP aO:=λH=>by show jg P w H s₁.heap tabP (.frz _ (.tab Ur));exact⟨λz=>(by cases z),#[],hT,trivial,λpos cv z=>(by cases z)⟩
 cases hk:K.lookup a with|some o=>--the script is one of the module's own objects
  have e:=KX a o hk;rw[ha]at e;cases e;refine core (λb=>if b=tabP then some aO else none) (λb=>?_) (.inr ⟨_,vs.toArray,_,hk,rfl,rfl,rfl,by rw[List.size_toArray,lenV];exact hl,by simpa using rv⟩) (λb u z=>?_) (if_pos rfl) (λb z=>?_) λz=>absurd (if_neg tne) z
  ·by_cases hb:b=tabP;·exact .inr (.inl hb)
   ·exact .inl (if_neg hb)
  ·by_cases hb:b=tabP;·have z':=(if_pos hb).symm.trans z;cases z';subst hb;exact tok _
   ·have z':=(if_neg hb).symm.trans z;cases z'
  ·by_cases hb:b=tabP;·exact .inr hb
   ·exact absurd (if_neg hb) z|none=>
  refine core (λb=>if b=a then some (.frz {cls:=.type "list",data:=.seq vs.toArray} (.lst (ns.map V.int)))else if b=tabP then some aO else none) (λb=>?_) (.inl (.inr ⟨{cls:=.type "list",data:=.seq vs.toArray},if_pos rfl⟩)) (λb u z=>?_) ((if_neg tne.symm).trans (if_pos rfl)) (λb z=>?_) λ_=>hk
  ·by_cases hb:b=a;·exact .inr (.inr ⟨_,_,if_pos hb⟩)
   ·by_cases hb2:b=tabP;·exact .inr (.inl hb2)
    ·exact .inl ((if_neg hb).trans (if_neg hb2))
  ·by_cases hb:b=a;·have z':=(if_pos hb).symm.trans z;cases z';subst hb;exact⟨λ_=>ha,by rw[List.length_map];exact hl,vs,_,rv,ha⟩
   ·by_cases hb2:b=tabP;·have z':=((if_neg hb).trans (if_pos hb2)).symm.trans z;cases z';subst hb2;exact tok _
    ·have z':=((if_neg hb).trans (if_neg hb2)).symm.trans z;cases z'
  ·by_cases hb:b=a;·exact .inl hb
   ·by_cases hb2:b=tabP;·exact .inr hb2
    ·exact absurd ((if_neg hb).trans (if_neg hb2)) z
abbrev Hr{K:W.Frag}{h:Heap}(_:K.In h):W.Frag:=K
theorem walk_of{l:W.OpenLaw}{n k:Nat}{q:Program}{loose:List Str}{XP:(Str->Option Value)->Heap->Prop}{YP:World->Heap->Prop}{d:DefRec}{K:Params->W.Frag}{CX:World->ZG}{sp:World->Sp}{x:Str}(hn:l.most=some n)(hn2:n<=sizeLine)(hdf:d.params.defaults=[])(hr:jN k callerA)(hY:∀(w:World)(h:Heap),YP w h->(K w.params).In h)(hYT:∀(w:World)(h:Heap),YP w h->h.get? tabP=some {cls:=.none,data:=.fields #[]}){c₀:Addr}(hYC:∀(w:World)(h:Heap),YP w h->W.CodeHd h c₀ tabP)(hYN:∀w:World,W.noTabs (K w.params)=true)(F:∀(w:World)(mg:Str->Option Value)(fa:Addr)(h:Heap),(K w.params).In h->h.Ns mainGlobals mg->mg d.name=some (.ref fa)->∃fd:FuncData,(∀(s:Shared)(u:Value),BindsTo s fd ⟨[u],[]⟩ [(x,u)])/\∀base:Heap,(K w.params).In base->base.Ns mainGlobals mg->xZ l.prog w (K w.params) mg base (CX w) k fa fd [x] (sp w))(hsp:∀(w:World)(H:Hp)(a:Addr)(ns:List Int),ns.length<=n->Gf H->fo (K w.params) H a (ns.map V.int)->sp w [.ref a] H (λv _=>v=.bl true) λ_ _ _=>False)(hCX:∀(w:World)(H:Hp)(s:Shared)(e:Value)(s':Shared),CX w [] H s (λ_ _ _=>False) e s'->False):W.WalkO q loose XP YP l.row.toRowW d [] (λf vs=>PySem.call f vs):=by refine Att.attach_call hn hdf λw s₀ s₁ mg mb fa o pm cd doc a vs ns G Y ho hd hcd hmg hobj hints hlen hg=>?_;have KX:=hY w _ Y;obtain⟨fd,hb,hF⟩:=F w mg fa _ KX G.T.g hmg;exact Y9 KX (hYT w _ Y) (hYC w _ Y) (hYN w) G.T.bmain G.T.g G.T.b G.T.builtins G.T.nolimit hg hobj hints (Nat.le_trans hlen hn2) hr hF hb (λH hO hS=>hsp w H a ns hlen hO hS) λH e s'=>hCX w H s₁ e s'
def zV(s:Stmt)(j:Nat):Stmt:=match s with|.ClassDef _ _ _ body _ _ _ _ _ _ _=>body.getD j (.Pass ⟨0,0,0,0⟩)|_=>.Pass ⟨0,0,0,0⟩
def jS(s:Stmt):Arguments:=match s with|.FunctionDef _ a _ _ _ _ _ _ _ _=>a|_=>{posonlyargs:=[],args:=[],vararg:=none,kwonlyargs:=[],kw_defaults:=[],kwarg:=none,defaults:=[]}
def j6(s:Stmt):List Stmt:=match s with|.FunctionDef _ _ b _ _ _ _ _ _ _=>b|_=>[]
def zb(s:Stmt):Scope:=match s with|.FunctionDef _ _ _ _ _ _ sc _ _ _=>sc|_=>{kind:=.function,names:=[],isGenerator:=false,isCoroutine:=false}
structure eS(K:W.Frag)(x qual:Str)(st:Stmt)(f:Addr)(fd:FuncData):Prop where
 ex:∃(oc:Value)(od:Option Addr)(kV doc pm:Value)(an:Option Addr)(cdv ct:Value)(osl:Array (Option Value)),fd=W.fnOf x qual (jS st) (j6 st) (zb st) .none kV doc pm an cdv ct/\K.lookup f=some ⟨oc,od,.func fd,osl⟩/\W.codeIn K cdv qual=true
 kp:W.keepIn K (.ref f)=true
section
variable{P:Program}{w:World}{K:W.Frag}{mg:Str->Option Value}{base:Heap}
theorem eS.binds{x qual:Str}{st:Stmt}{f:Addr}{fd:FuncData}{ps:List Str}(F:eS K x qual st f fd)(h:∀(kV doc pm:Value)(an:Option Addr)(cdv ct:Value)(us:List Value),us.length=ps.length->bindArgs (W.fnOf x qual (jS st) (j6 st) (zb st) .none kV doc pm an cdv ct) ⟨us,[]⟩=pure (ps.zip us)):kA K fd ps []:=by obtain⟨oc,od,kV,doc,pm,an,cdv,ct,osl,rfl,lk,hcd⟩:=F.ex;exact .all (h kV doc pm an cdv ct)
theorem eT{x qual:Str}{st:Stmt}{f:Addr}{oc:Value}{od an:Option Addr}{osl:Array (Option Value)}{kV doc pm cdv ct:Value}(l:K.lookup f=some ⟨oc,od,.func (W.fnOf x qual (jS st) (j6 st) (zb st) .none kV doc pm an cdv ct),osl⟩)(c:W.codeIn K cdv qual=true)(k:W.keepIn K (.ref f)=true):eS K x qual st f (W.fnOf x qual (jS st) (j6 st) (zb st) .none kV doc pm an cdv ct):=⟨⟨oc,od,kV,doc,pm,an,cdv,ct,osl,rfl,l,c⟩,k⟩
end
section
variable{X:Cx}
theorem pv(i:Nat){x:Str}{pos:Pos}(hN:X.N[i]?=some x:=by rfl)(hv:aK X.env.scope x:=by first|exact Or.inl rfl|exact Or.inr (Or.inl rfl)|exact Or.inr (Or.inr rfl))(hd:(x==↑t)=false:=by decide)(hcd:(x==("__classdict__":Str))=false:=by decide):PE X (.Name x pos) (xJ i):=k9 hN hv hd hcd
end
section
variable{κ:Type}[DecidableEq κ]
theorem Ya{kvs:List (κ×V)}{k:κ}(h:ju kvs k=none):¬k∈kvs.map (·.1):=by intro m;obtain⟨p,hp,e⟩:=List.mem_map.mp m;have q:(kvs.any λkv=>decide (kv.1=k))=true:=List.any_eq_true.mpr ⟨p,hp,decide_eq_true e⟩;rw[kZ,h]at q;exact absurd q ↑D
end
section
variable{M:Model}{A:Around}{E:Value->Shared->Prop}{s:Shared}
def KY(base:Heap)(l:List Env)(e:Addr)(oe:Obj)(h h':Heap):Prop:=base.StaysIn h'/\h'.FunFrames base l/\(∃T oT ts,h'.get? e=some (Obj.mapFields (·.setIfInBounds 1 (Value.ref T)) oe)/\h.objs.size<=T/\h'.get? T=some oT/\oT.data=.fields ts/\ts[3]?=some .none)/\h.UpToSlots h'
theorem iH{base:Heap}{env:Env}{outer:List Env}{L e:Addr}{oe:Obj}{vs:Array Value}{head:Value}{hadNext:Bool}{Q:Unit->Shared->Prop}(hfr:A.frames=some (env::outer))(hl:s.heap.FunFrames base (env::outer))(hf:env.frame=some L)(he:s.heap.get? e=some oe)(hkb:base.StaysIn s.heap)(hen:base.get? e=none)(hd:oe.data=.fields vs)(hsz:1<vs.size)(h:∀h',KY base (env::outer) e oe s.heap h'->Q () {s with heap:=h'}):wpAny M A (do let a<-frameOf env;let pl<-entryPlaceOf L hadNext;let b<-EntryCells.newEntry head a .none (rawInt L) .none pl;setField (.ref e) 1 b) (λ_ s'=>wpAny M A (setFlight (.ref e) none) Q E s') E s:=by
 have hene:e∉(env::outer).filterMap (·.frame):=λhm=>by obtain⟨_,o,ho,hnf⟩:=hl.mem hm;rw[he]at ho;injection ho with ho;subst ho;exact hnf vs hd
 refine wpAny_bind (wpAny_frameOf_fun hfr hl hf λh₁ hs₁=>?_);refine wpAny_bind (wpAny_entryPlaceOf λpl hpl=>?_);unfold EntryCells.newEntry newFields;refine wpAny_bind (wpAny_newObj_type ?_ (hpl.sizeOk5 _ _ _ _ _));have he₁:h₁.get? e=some oe:=(hs₁.2.1 e hene).trans he;have kb₁:base.StaysIn h₁:=λb o hbo=>(hs₁.2.1 b λhm=>by rw[(hl.mem hm).1]at hbo;cases hbo).trans (hkb b o hbo);have he₂:=Heap.get?_push_of_some (h:=h₁) {cls:=.type "traceback",dict:=none,data:=.fields ([head,.ref L,.none,rawInt L,.none]++(if pl.isEmpty then List.replicate 6 Value.none else pl)).toArray} he₁;refine wpAny_setField he₂ hd hsz ?_;have hTe:h₁.objs.size≠e:=Nat.ne_of_gt (Heap.lt_size he₁);have hd₃:=Obj.data_mapFields hd (·.setIfInBounds 1 (Value.ref h₁.objs.size));have he₃:=Heap.get?_update_self (Obj.mapFields (·.setIfInBounds 1 (Value.ref h₁.objs.size))) he₂ (Obj.isFreed_of_fields hd₃);have hT₃:=(Heap.get?_update_other (h₁.push {cls:=.type "traceback",dict:=none,data:=.fields ([head,.ref L,.none,rawInt L,.none]++(if pl.isEmpty then List.replicate 6 Value.none else pl)).toArray}) (Obj.mapFields (·.setIfInBounds 1 (Value.ref h₁.objs.size))) (Ne.symm hTe)).trans (Heap.get?_push_size h₁ rfl);unfold setFlight;refine wpAny_bind (wpAny_field he₃ hd₃ (x:=.ref h₁.objs.size) (by simp[hsz]) ?_);rw[if_pos (show(Value.ref h₁.objs.size !=Value.none)=true from by simp)];refine wpAny_setField hT₃ rfl (by simp only[List.size_toArray,List.length_append,List.length_cons,List.length_nil]<;>omega) (h _ ?_);have keep:∀b o,b≠e->h₁.get? b=some o->(((h₁.push {cls:=.type "traceback",dict:=none,data:=.fields ([head,.ref L,.none,rawInt L,.none]++(if pl.isEmpty then List.replicate 6 Value.none else pl)).toArray}).update e (Obj.mapFields (·.setIfInBounds 1 (Value.ref h₁.objs.size)))).update h₁.objs.size (Obj.mapFields (·.setIfInBounds 3 ((none:Option Addr).elim Value.none λf=>rawInt f)))).get? b=some o:=λb o hbe hb=>by have hbT:h₁.objs.size≠b:=Nat.ne_of_gt (Heap.lt_size hb);rw[Heap.get?_update_other _ _ hbT,Heap.get?_update_other _ _ (Ne.symm hbe)];exact Heap.get?_push_of_some _ hb
 have noRecord:∀b o,s.heap.get? b=some o->(∀vs,o.data≠.fields vs)->b≠e:=λb o hb hnf q=>by rw[q,he]at hb;injection hb with hb;subst hb;exact hnf vs hd
 refine⟨λb o hbo=>keep b o (λq=>by rw[q,hen]at hbo;cases hbo) (kb₁ b o hbo),hl.of_keeps λb o hb hnf=>?_,?_,λb o hb hnf=>?_⟩;·obtain⟨sl,hs⟩:=hs₁.2.2 b o hb;exact⟨_,keep b _ (noRecord b o hb hnf) hs,rfl⟩
 ·refine⟨h₁.objs.size,_,_,?_,?_,Heap.get?_update_self _ hT₃ (Obj.isFreed_of_fields (Obj.data_mapFields rfl _)),Obj.data_mapFields rfl _,by first|(simp;done)|(rcases hpl with rfl|⟨_,_,_,_,_,_,_,rfl⟩<;>simp)⟩;·rw[Heap.get?_update_other _ _ hTe];exact he₃
  ·exact Nat.le_of_eq hs₁.1.symm
 ·obtain⟨sl,hs⟩:=hs₁.2.2 b o hb;exact⟨sl,keep b _ (noRecord b o hb hnf) hs⟩
def FlyN(ps:List ↑j)(n:Nat)(H:Hp)(ev:Value)(h:Heap):Prop:=∃e oe vs,ev=.ref e/\n<=e/\h.get? e=some oe/\oe.data=.fields vs/\1<vs.size/\(vs[1]?=some .none\/∃T oT ts,n<=T/\H T=none/\T≠e/\(∀p∈ps,p.1≠T)/\vs[1]?=some (.ref T)/\h.get? T=some oT/\oT.data=.fields ts/\ts[3]?=some .none)
theorem Gg{base:Heap}{env:Env}{outer:List Env}{L e:Addr}{oe:Obj}{vs:Array Value}{Q:Unit->Shared->Prop}(hfr:A.frames=some (env::outer))(hl:s.heap.FunFrames base (env::outer))(hf:env.frame=some L)(he:s.heap.get? e=some oe)(hkb:base.StaysIn s.heap)(hen:base.get? e=none)(hd:oe.data=.fields vs)(hsz:1<vs.size)(h1:vs[1]?=some .none\/∃T oT ts,base.get? T=none/\T≠e/\vs[1]?=some (.ref T)/\s.heap.get? T=some oT/\oT.data=.fields ts/\ts[3]?=some .none)(h:∀h' hm,(hm.objs.size=s.heap.objs.size/\s.heap.UpToSlots hm)->KY base (env::outer) e oe hm h'->Q () {s with heap:=h'}):wpAny M A (noteFrame (.ref e) env) (λ_ s'=>wpAny M A (setFlight (.ref e) none) Q E s') E s:=by
 rcases h1 with h1|⟨T,oT,ts,hnT,hTe,h1,hT,hdT,h3⟩;·unfold noteFrame;simp only[hf];refine wpAny_bind (wpAny_field he hd h1 ?_);rw[if_neg ↑f];exact iH hfr hl hf he hkb hen hd hsz λh' x=>h h' s.heap ⟨rfl,.refl _⟩ x
 ·unfold noteFrame;simp only[hf];refine wpAny_bind (wpAny_field he hd h1 ?_);rw[if_pos (show(Value.ref T !=Value.none)=true from by simp)];refine wpAny_bind (wpAny_field hT hdT h3 ?_);rw[if_neg (show¬((Value.none==rawInt L)=true)from by simp[rawInt])];refine wpAny_bind (wpAny_setField hT hdT (Array.getElem?_eq_some_iff.mp h3).1 ?_);have other:∀b,b≠T->(s.heap.update T (Obj.mapFields (·.setIfInBounds 3 Value.none))).get? b=s.heap.get? b:=λb hb=>Heap.get?_update_other _ _ (Ne.symm hb);have noRecord:∀b o,s.heap.get? b=some o->(∀vs,o.data≠.fields vs)->b≠T:=λb o hb hnf q=>by rw[q,hT]at hb;injection hb with hb;subst hb;exact hnf ts hdT
  exact iH hfr (hl.of_keeps λb o hb hnf=>⟨o,(other b (noRecord b o hb hnf)).trans hb,rfl⟩) hf ((other e (Ne.symm hTe)).trans he) (λb o hbo=>(other b λq=>by rw[q,hnT]at hbo;cases hbo).trans (hkb b o hbo)) hen hd hsz λh' x=>h h' _ ⟨Heap.size_update ..,λb o hb hnf=>⟨o.slots,(other b (noRecord b o hb hnf)).trans hb⟩⟩ x
end
theorem cM{X:Cx}{pins:List ↑j}{σ:St}{H:Hp}{s:Shared}{e C d:Addr}{Q:Unit->Shared->Prop}{E:Value->Shared->Prop}(I:zo X pins σ H s)(hst:X.stack=X.env::X.outer)(hfm:X.env.frame=some X.env.locals)(hx:H e=some (.xob C d))(fly:FlyN (X.pn++pins) X.s₀.heap.objs.size H (.ref e) s.heap)(h:∀h',zo X pins σ H {s with heap:=h'}->FlyN (X.pn++pins) X.s₀.heap.objs.size H (.ref e) h'->Q () {s with heap:=h'}):wpAny ↑a X.A (noteFrame (.ref e) X.env) (λ_ s'=>wpAny ↑a X.A (setFlight (.ref e) none) Q E s') E s:=by
 obtain⟨e',oe,vs,ee,hne,he,hd,hsz,hT⟩:=fly;cases ee;have hfr:X.A.frames=some (X.env::X.outer):=by rw[<-hst];exact I.ok.frames
 have hFF:s.heap.FunFrames X.base (X.env::X.outer):=by rw[<-hst];exact I.stack
 have memf:∀{b:Addr},b∈nH X.stack↔b∈(X.env::X.outer).filterMap (·.frame):=by rw[hst];exact Iff.rfl
 have main:∀Ts:List Addr,(∀T∈Ts,H T=none/\X.s₀.heap.objs.size<=T/\T≠e/\(∀p∈X.pn++pins,p.1≠T)/\∃oT ts,s.heap.get? T=some oT/\oT.data=.fields ts)->(vs[1]?=some .none\/∃T oT ts,T∈Ts/\T≠e/\vs[1]?=some (.ref T)/\s.heap.get? T=some oT/\oT.data=.fields ts/\ts[3]?=some .none)->wpAny ↑a X.A (noteFrame (.ref e) X.env) (λ_ s'=>wpAny ↑a X.A (setFlight (.ref e) none) Q E s') E s:=by
  intro Ts hTs h1;have hide:∀{b:Addr}{o:Obj},s.heap.get? b=some o->b∉nH X.stack->b≠e->b∉Ts->(W.hideAll s.heap (nH X.stack++e::Ts)).get? b=some o:=λq n1 n2 n3=>W.hideAll_get _ q (by simp[n1,n2,n3]);have hTf:∀T∈Ts,T∉nH X.stack:=λT m z=>by obtain⟨_,_,_,_,oT,ts,q,dt⟩:=hTs T m;obtain⟨_,o,ho,nf⟩:=hFF.mem (memf.mp z);rw[q]at ho;cases ho;exact nf ts dt
  refine Gg (base:=W.hideAll s.heap (nH X.stack++e::Ts)) hfr (W.funFrames_hide hFF λen hen a ha=>List.mem_append_left _ (memf.mpr (List.mem_filterMap.mpr ⟨en,hen,ha⟩))) hfm he (λb o q=>W.of_hideAll _ q) (W.hideAll_none _ ↑D) hd hsz ?_ λh' hm hhm hL=>?_;·exact h1.imp id λ⟨T,oT,ts,m,r⟩=>⟨T,oT,ts,W.hideAll_none _ (by simp[m]),r⟩
  ·obtain⟨stay,ff,⟨T',oT,ts,he',hT',gT,dT,t3⟩,up⟩:=hL;have hT':s.heap.objs.size<=T':=by rw[<-hhm.1];exact hT'
   have kp:∀{b:Addr}{o:Obj},s.heap.get? b=some o->b∉nH X.stack->b≠e->b∉Ts->h'.get? b=some o:=λq n1 n2 n3=>stay _ _ (hide q n1 n2 n3);have slt:∀{b:Addr}{o:Obj},s.heap.get? b=some o->b∈nH X.stack->∃sl,h'.get? b=some {o with slots:=sl}:=λ{b o}q m=>by obtain⟨_,o',ho,nf⟩:=hFF.mem (memf.mp m);rw[q]at ho;cases ho;exact(hhm.2.trans up) b o q nf
   have hex:e∉nH X.stack:=λz=>by rw[I.stkFree e z]at hx;cases hx
   have hd':=Obj.data_mapFields hd (·.setIfInBounds 1 (Value.ref T'));have hdict:(Obj.mapFields (·.setIfInBounds 1 (Value.ref T')) oe).dict=oe.dict:=by unfold Obj.mapFields;split<;>rfl
   have un:Un (nH X.stack) Ts H H s.heap h':=⟨λb o q n hb hc=>kp q hb (λz=>by rw[z,hx]at n;cases n) hc,λb o q n hb hc=>slt q hb,λb o q n _=>n,λb o q hc=>by
     by_cases hb:b∈nH X.stack;·obtain⟨sl,q'⟩:=slt q hb;exact⟨_,q'⟩
     ·by_cases hbe:b=e;·subst hbe;exact⟨_,he'⟩
      ·exact⟨o,kp q hb hbe hc⟩,λb xs q=>q,λb o u q=>q,λb ps q=>⟨#[],by rw[Array.append_empty];exact q⟩⟩;have hok:gx X.prog X.w H h':=λa o q=>by
    by_cases ha:a=e;·subst ha;rw[hx]at q;cases q;obtain⟨oe0,vs0,q0,c0,d0,f0,z0⟩:=I.hok _ _ hx;rw[he]at q0;cases q0;exact⟨_,_,he',by rw[Obj.cls_mapFields];exact c0,hdict.trans d0,hd',by simpa using hsz⟩
    ·refine(I.hok a o q).stay (λb u hb r=>?_) (λ_ r=>r) λ_ _ r=>r;have tr:H b≠none:=by rcases hb with rfl|hb;(rw[q];intro z;cases z);(rw[hb];intro z;cases z)
     refine kp r (λz=>tr (I.stkFree b z)) (λz=>?_) λz=>tr (hTs b z).1;rcases hb with rfl|hb;·exact ha z
     ·rw[z,hx]at hb;cases hb
   have J:zo X pins σ H {s with heap:=h'}:=by
    refine I.call (h':=h') (g':=s.gens) (d':=s.drawn) (t':=s.toks) (ch:=Ts) un hok I.bare λb hb=>?_;obtain⟨n,z,ne,np,oT,ts,q,dt⟩:=hTs b hb;refine⟨.inr z,?_,λx c ec zz=>?_,np⟩;·rintro rfl;obtain⟨m,⟨o,es,ep,ho,dd,_⟩,_⟩:=I.loc;rw[q]at ho;cases ho;rw[dt]at dd;cases dd
    ·subst zz;obtain⟨v,o,ho,dd⟩:=I.cell x c ec;rw[q]at ho;cases ho;rw[dt]at dd;cases dd
   refine h h' J ⟨e,_,_,rfl,hne,he',hd',by simpa using hsz,.inr ⟨T',oT,ts,Nat.le_trans I.sz hT',I.hok.fresh hT',Nat.ne_of_gt (Nat.lt_of_lt_of_le (Heap.lt_size he) hT'),λp hp=>Nat.ne_of_lt (Nat.lt_of_lt_of_le (Heap.lt_size (I.pin p hp).1) hT'),by simp[hsz],gT,dT,t3⟩⟩
 rcases hT with h1|⟨T,oT,ts,z,n,ne,np,h1,q,dt,t3⟩;·exact main [] (λT m=>nomatch m) (.inl h1)
 ·exact main [T] (λT' m=>by rw[List.mem_singleton.mp m];exact⟨n,z,ne,np,oT,ts,q,dt⟩) (.inr ⟨T,oT,ts,List.mem_singleton.mpr rfl,ne,h1,q,dt,t3⟩)
end L2
namespace L2
open PySem PySem.Spec PyProof.Rows PySem.W
open PySem.Builtin.ObjectAttr
theorem passes_ve(self:Value):refuseLoop self "__setattr__" [.type "ValueError",.type "Exception",.type "BaseException",.type "object"]=pure ():=by kernel_rfl
section
variable{prog:Program}{w:World}{K:Frag}{A:Around}{R:Result->Shared->Prop}{s:Shared}{x C:Addr}
theorem V2{ox:Obj}{od:Option Obj}{cd:ClassData}{name:Str}{tk:Tok}{v:Value}(X:K.In s.heap)(I:InstAt s.heap x ox C od)(hc:clsIn K C=some cd)(hp:refuseLoop (.ref x) "__setattr__" cd.mro=pure ())(hob:cd.mro.contains (.type "object")=true)(ht:takerIn K C name=some none)(h:∀b,wpAny ↑d A.in1 (storeInOwnDict (.ref x) ↑Q (.str name tk) name v b) (λfin s'=>match fin with|.done f=>R (.ok f) s'|.again c'=>c'.quiet=true/\codeAny ↑d A c' R s') (λe s'=>R (.error e) s') s):codeAny ↑d A (.call (.builtin "object.__setattr__") ⟨[.ref x,.str name tk,v],[]⟩) R s:=by
 have SF:=PySem.F.store_object;have ne:cd.mro.isEmpty=false:=by cases q:cd.mro with|nil=>rw[q]at hob;cases hob|cons _ _=>rfl
 have sub:Looks ↑d s.heap (isInstance (.ref x) (.type "object")) true:=I.type.andThen (looks_mroIn X (by unfold mroIn;rw[hc,Option.bind_some,if_neg (by rw[ne];decide),hob]));refine codeAny_call_builtin SF.slot.plain SF.entry (@check_slot ↑d _ _ s "object.__setattr__" "object" "__setattr__" (.ref x) [.str name tk,v] [] _ SF.kind SF.split sub (SF.args (.ref x) (.str name tk) v) ?_);obtain⟨attr,ha,hr⟩:=Option.bind_eq_some_iff.mp ht;have hm:Looks ↑d s.heap (mroOf ↑Q) cd.mro:=(looks_clsIn X hc).andThen .now;have L3:Looks ↑d s.heap (storeTaker? attr) none:=by cases attr with|none=>exact .now|some a=>
   obtain⟨b,hb,hbb⟩:=Option.map_eq_some_iff.mp hr;refine(looks_takesIn X hb).andThen ?_;cases b;·exact .now
   ·cases hbb
 rw[osa_eq,refuse_eq];refine wpAny_bind (wpAny_bind (I.type.here (wpAny_bind (hm.here ?_))));rw[hp];refine wpAny_pure (wpAny_bind (I.type.here (wpAny_bind ((looks_findIn X ha).here (wpAny_bind (L3.here ?_))))));exact h _
theorem cN{ox:Obj}{cd:ClassData}{name:Str}{v:Value}{E:Value->Shared->Prop}{Q:Unit->Shared->Prop}(X:K.In s.heap)(hx:s.heap.get? x=some ox)(hcl:ox.cls=.ref C)(hno:notCls ox=true)(hdn:ox.dict=none)(hc:clsIn K C=some cd)(hh:cd.hasDict=true)(hs:findIn K ↑Q "__setattr__"=some (some (.builtin "object.__setattr__")))(hp:refuseLoop (.ref x) "__setattr__" cd.mro=pure ())(hob:cd.mro.contains (.type "object")=true)(ht:takerIn K C name=some none)(hq:∀h' tk,h'.get? x=some {ox with dict:=some s.heap.objs.size}->h'.Ns1 s.heap.objs.size (λy=>if y=name then some v else none)->(∀b o,b≠x->s.heap.get? b=some o->h'.get? b=some o)->Q () {s with heap:=h',toks:=tk}):wpAny ↑d A (setAttr (.ref x) name v) Q E s:=by
 have I:InstAt s.heap x ox C none:=⟨hx,hcl,hno,by rw[hdn];trivial⟩;refine set_plain X I hs (V2 (s:={s with toks:=s.toks+1}) X I hc hp hob ht λb=>?_);obtain⟨oc,odi,oda,osl⟩:=ox;dsimp only at hcl hdn;subst hcl hdn;have hxs:x≠s.heap.objs.size:=Nat.ne_of_lt (Heap.lt_size hx);refine wpAny_bind (wpAny_pure (wpAny_bind (wpAny_bind (wpAny_loadPart hx (wpAny_bind ((looks_clsIn (M:=model prog w) (h:=({s with toks:=s.toks+1}:Shared).heap) X hc).here ?_))))));rw[hh];dsimp only;rw[if_neg ↑f,if_neg (by simp[typeHasDict])];have hcls:∀c,oda≠.cls c:=λc z=>by subst z;cases hno
 have hx₁:(s.heap.push {cls:=.type "dict",data:=.dict #[]}).get? x=some ⟨.ref C,none,oda,osl⟩:=Heap.get?_push_of_some _ hx;split;·exact absurd rfl (hcls _)
 ·refine wpAny_bind (wpAny_alloc' ?_);refine wpAny_bind (wpAny_update' hx₁ ?_);refine wpAny_pure ?_;have hgd:((s.heap.push {cls:=.type "dict",data:=.dict #[]}).update x λo=>{cls:=o.cls,dict:=some s.heap.objs.size,data:=o.data,slots:=o.slots}).get? s.heap.objs.size=some {cls:=.type "dict",data:=.dict #[]}:=(Heap.get?_update_ne _ _ _ _ hxs.symm).trans (Heap.get?_push_at rfl rfl);have hnd:((s.heap.push {cls:=.type "dict",data:=.dict #[]}).update x λo=>{cls:=o.cls,dict:=some s.heap.objs.size,data:=o.data,slots:=o.slots}).Ns s.heap.objs.size (λ_=>none):=⟨_,#[],_,hgd,rfl,λe he=>absurd he ↑D,λ_=>rfl⟩;show wpAny _ _ (storeInDict s.heap.objs.size (.str name s.toks) name v) _ _ _;unfold storeInDict newKeyGuard;refine wpAny_bind (wpAny_pure (wpAny_bind (wpAny_nsSet1 (Heap.Ns1.of_empty hnd) λh' hn' hs'=>?_)));obtain⟨oD,esD,epD,hoD,hdD,hcD⟩:=hn'.count (Within.cons name v Within.nil);refine wpAny_bind (wpAny_lookBehind hoD (by rw[hdD];exact pastItsLine_dict (Nat.le_trans hcD (by rw[List.length_cons,List.length_nil,sizeLine_eq];omega))) ?_);refine wpAny_pure ?_;refine hq h' _ ?_ hn' λb ob hbx hb=>?_;·refine(hs'.2 x hxs).trans (Heap.get?_update_self _ hx₁ ?_);have hfr:=(Heap.get?_some_iff.mp hx).2;cases oda<;>first|rfl|exact hfr
  ·exact(hs'.2 b (Nat.ne_of_lt (Heap.lt_size hb))).trans ((Heap.get?_update_ne _ _ _ _ hbx).trans (Heap.get?_push_of_some _ hb))
end
end L2
namespace L2
open PySem PySem.Spec PySem.W
section
variable{M:Model}{A:Around}{E:Value->Shared->Prop}{h:Heap}{g:Array GenState}{d:Drawn}{t:Nat}{os:OsState}
variable{nm q:Str}{C N:Addr}{bs bm bmB:List Value}{hdct:Bool}{sn:List Str}{sub:List Value}{ab:Bool}{col:Option Bool}{dd:Option Addr}{k0 k1 k2 k3 k5:Option Value}{B newId initId:String}
theorem tI(F:ExcBaseFacts B newId initId bmB)(hB:bm.contains (.type B)=true){rest:List Value}{Q:Unit->Shared->Prop}(hC:h.get? C=some ↑C)(hq:Q () ⟨h,g,d,t,os⟩):wpAny M A (checkBuiltinCall newId ⟨.ref C::rest,[]⟩) Q E ⟨h,g,d,t,os⟩:=by
 have hcont:(Value.ref C::bm).contains (.type B)=true:=by rw[List.contains_cons,hB,Bool.or_true]
 have hstar:=F.noStar;simp only[checkBuiltinCall,F.newKind,F.newSplit,F.newRow];repeat(first|refine wpAny_loadPart_at hC ?_|(refine wpAny_isSubtype_exc hC ?_;rw[hcont])|refine wpAny_staticBase_exc hC ?_|refine wpAny_madeBy_exc hC ?_|simp only[bne_self_eq_false,Bool.false_eq_true,if_false]|wp_step)
 exact hq
end
section
variable{prog:Program}{w:World}{A:Around}{R:Result->Shared->Prop}{h:Heap}{g:Array GenState}{d:Drawn}{t:Nat}{os:OsState}
variable{nm q:Str}{C N:Addr}{bs bm bmB:List Value}{hdct:Bool}{sn:List Str}{sub:List Value}{ab:Bool}{col:Option Bool}{dd:Option Addr}{k0 k1 k2 k3 k5:Option Value}{B newId initId:String}
theorem Yb(F:ExcBaseFacts B newId initId bmB)(hB:bm.contains (.type B)=true)(hA:bm.contains (.type "AttributeError")=false)(hN:bm.contains (.type "NameError")=false){rest:List Value}(hC:h.get? C=some ↑C)(hq:R (.ok (.ret (.ref (h.objs.size+1)))) ⟨(h.push {cls:=.type "tuple",data:=.seq rest.toArray}).push {cls:=.ref C,data:=.fields #[.ref h.objs.size,.none,.none,.none,.bool false,.none]},g,d,t,os⟩)(hrest:rest.length<=sizeLine):codeAny ↑d A (.builtin newId ⟨.ref C::rest,[]⟩) R ⟨h,g,d,t,os⟩:=by
 have hends:=F.ends;have hcB:(Value.ref C::bm).contains (.type B)=true:=by rw[List.contains_cons,hB,Bool.or_true]
 have hcA:(Value.ref C::bm).contains (.type "AttributeError")=false:=by rw[List.contains_cons,hA];rfl
 have hcN:(Value.ref C::bm).contains (.type "NameError")=false:=by rw[List.contains_cons,hN];rfl
 refine codeAny_builtinAt F.entry ?_;unfold Builtin.«BaseException.__new__»;refine wpAt_bind ?_;show wpAt _ _ _ (stack>>=_) _ _ _;refine wpAt_bind (wpAt_stack λp below=>wpAt_of_wpAny ?_);wp_walk;refine wpAt_of_wpAny ?_;rw[F.owner];repeat(first|with_reducible refine wpAny_madeHere_exc F.canon hC ?_|with_reducible refine wpAny_loadPart_at hC ?_|(with_reducible refine wpAny_isSubtype_exc hC ?_;first|rw[hcB]|rw[hcA]|rw[hcN])|wp_step)
 show R _ _;rw[Heap.size_push];exact hq
end
section
variable{prog:Program}{w:World}{K:Frag}{A:Around}{E:Value->Shared->Prop}{h:Heap}{g:Array GenState}{d:Drawn}{t:Nat}{os:OsState}
variable{nm q:Str}{C N:Addr}{bs bm bmB:List Value}{hdct:Bool}{sn:List Str}{sub:List Value}{ab:Bool}{col:Option Bool}{dd:Option Addr}{k0 k1 k2 k3 k5:Option Value}{B newId initId:String}
theorem tJ(F:ExcBaseFacts B newId initId bmB)(X:K.In h)(hB:bm.contains (.type B)=true)(hA:bm.contains (.type "AttributeError")=false)(hN:bm.contains (.type "NameError")=false){rest:List Value}{fI:Addr}{Q:Fin->Shared->Prop}(hC:h.get? C=some ↑C)(hi:findIn K ↑Q "__init__"=some (some (.ref fI)))(hf:typeIn K (.ref fI)=some (.type "function"))(hq:∀h',(∀b o,h.get? b=some o->h'.get? b=some o)->h'.get? (h.objs.size+1)=some {cls:=.ref C,data:=.fields #[.ref h.objs.size,.none,.none,.none,.bool false,.none]}->wpAny ↑d A (call (.ref fI) (.ref (h.objs.size+1)::rest)) (λr s'=>r=.none/\Q (.done (.ret (.ref (h.objs.size+1)))) s') E ⟨h',g,d,t,os⟩)(hrest:rest.length<=sizeLine):wpAny ↑d A (Builtin.«type.__call__» ⟨.ref C::rest,[]⟩) Q E ⟨h,g,d,t,os⟩:=by
 repeat(first|with_reducible refine wpAny_loadPart_at hC ?_|with_reducible refine wpAny_madeBy_exc hC ?_|wp_step)
 refine codeAny_call_builtin_code (Code.quiet_builtin _ F.quiet) (tI F hB hC ?_);refine Yb F hB hA hN hC ?_ hrest;show wpAny _ _ _ _ _ _;have hC₁:=Heap.get?_push_of_some {cls:=.ref C,data:=.fields #[.ref h.objs.size,.none,.none,.none,.bool false,.none]} (Heap.get?_push_of_some {cls:=.type "tuple",data:=.seq rest.toArray} hC);have hget:((h.push {cls:=.type "tuple",data:=.seq rest.toArray}).push {cls:=.ref C,data:=.fields #[.ref h.objs.size,.none,.none,.none,.bool false,.none]}).get? (h.objs.size+1)=some {cls:=.ref C,data:=.fields #[.ref h.objs.size,.none,.none,.none,.bool false,.none]}:=by heap_get
 have X₁:K.In ((h.push {cls:=.type "tuple",data:=.seq rest.toArray}).push {cls:=.ref C,data:=.fields #[.ref h.objs.size,.none,.none,.none,.bool false,.none]}):=X.keeps λb o e=>Heap.get?_push_of_some _ (Heap.get?_push_of_some _ e);have hcC:(Value.ref C::bm).contains ↑Q=true:=by simp
 unfold isInstance;repeat(first|with_reducible refine wpAny_loadPart_at hget ?_|(with_reducible refine wpAny_isSubtype_exc hC₁ ?_;rw[hcC])|wp_step)
 show wpAny _ _ (typeLookup ↑Q _) _ _ _;refine looks_findIn X₁ hi _ _ _ _ (λ_ _ e=>e) ?_;refine wpAny_holding (wpAny_bind (bind_fn X₁ _ hf _ _ _ _ (λ_ _ e=>e) ?_));refine wpAny_bind (wpAny_mono (hq _ (λb o hb=>Heap.get?_push_of_some _ (Heap.get?_push_of_some _ hb)) hget) (λr s' hr=>?_) λ_ _ x=>x);obtain⟨rfl,hQ⟩:=hr;wp_walk;exact hQ
theorem ZP(F:ExcBaseFacts B newId initId bmB)(X:K.In h)(hB:bm.contains (.type B)=true)(hA:bm.contains (.type "AttributeError")=false)(hN:bm.contains (.type "NameError")=false){rest:List Value}{fI:Addr}{Q:Value->Shared->Prop}(hC:h.get? C=some ↑C)(hi:findIn K ↑Q "__init__"=some (some (.ref fI)))(hf:typeIn K (.ref fI)=some (.type "function"))(hq:∀h',(∀b o,h.get? b=some o->h'.get? b=some o)->h'.get? (h.objs.size+1)=some {cls:=.ref C,data:=.fields #[.ref h.objs.size,.none,.none,.none,.bool false,.none]}->wpAny ↑d (A.under (.builtin "type.__call__" ⟨.ref C::rest,[]⟩)) (call (.ref fI) (.ref (h.objs.size+1)::rest)) (λr s'=>r=.none/\Q (.ref (h.objs.size+1)) s') E ⟨h',g,d,t,os⟩)(hrest:rest.length<=sizeLine):wpAny ↑d A (call ↑Q rest) Q E ⟨h,g,d,t,os⟩:=by
 have f1:=tc_lookup;have f2:=tc_bind ↑Q;have hT:(⟨h,g,d,t,os⟩:Shared).TypeIs ↑Q "type":=⟨_,hC,rfl⟩;refine wpAny_call (codeAny_of_tree ?_);show wpAny _ _ (callAny ↑Q _) _ _ _;repeat(any_goals(first|assumption|with_reducible refine wpAny_loadPart_at hC ?_|wp_step))
 refine⟨rfl,?_⟩;refine codeAny_call_builtin_at (Code.quiet_builtin _ ↑K) entry_typeCall (wpAny_check_type_call_sub hC (tJ F X hB hA hN hC hi hf (λh' k he=>?_) hrest));exact hq h' k he
end
end L2
namespace L2
open PySem PySem.Spec PyProof.Rows PySem.W
structure ZQ(K:Frag)(C fI:Addr):Prop where
 obj:∃nm q N bs bm sn sub ab col dd k0 k1 k2 k3 k5,K.lookup C=some (excClassObj nm q C N bs bm true sn sub ab col dd k0 k1 k2 k3 k5 "ValueError.__new__")/\bm.contains (.type "ValueError")=true/\bm.contains (.type "AttributeError")=false/\bm.contains (.type "NameError")=false/\bm.contains (.type "BaseException")=true/\bm.contains (.type "object")=true/\∀self,refuseLoop self "__setattr__" bm=pure ()init:findIn K ↑Q "__init__"=some (some (.ref fI))fn:typeIn K (.ref fI)=some (.type "function")sa:findIn K ↑Q "__setattr__"=some (some (.builtin "object.__setattr__"))ta:takerIn K C "at"=some none
 keep:keepIn K ↑Q=true
def lP(e C t:Addr)(h:Heap):Prop:=h.get? e=some {cls:=.ref C,data:=.fields #[.ref t,.none,.none,.none,.bool false,.none]}
def gV(e C t d:Addr)(h:Heap):Prop:=h.get? e=some {cls:=.ref C,dict:=some d,data:=.fields #[.ref t,.none,.none,.none,.bool false,.none]}
section
variable{X:Cx}{pins:List ↑j}{σ:St}{H:Hp}{s:Shared}{A:Around}{E:Value->Shared->Prop}
theorem Gh{e C t fI:Addr}{v:V}{u:Value}{Q:Unit->Shared->Prop}(I:zo X pins σ H s)(hx:H e=some (.ext (lP e C t)))(XC:ZQ X.K C fI)(rv:RelV v u)(h:∀s' d,H d=none->d≠e->zo X pins σ (zO (zO H e (.ext (gV e C t d))) d (.xd [("at",v)])) s'->Q () s'):wpAny ↑a A (setAttr (.ref e) "at" u) Q E s:=by
 obtain⟨nm,q,N,bs,bm,sn,sub,ab,col,dd,k0,k1,k2,k3,k5,lk,b1,b2,b3,b4,b5,b6⟩:=XC.obj;obtain⟨he,_⟩:=I.hok _ _ hx;have he:s.heap.get? e=some {cls:=.ref C,data:=.fields #[.ref t,.none,.none,.none,.bool false,.none]}:=he;have hc:clsIn X.K C=some {name:=nm,bases:=bs,mro:=.ref C::bm,ns:=N,qualname:=q,hasDict:=true,slotNames:=sn,subclasses:=sub,abstract:=ab,collection:=col,hasDel:=false}:=by unfold clsIn;rw[lk]
 refine cN I.kIn he rfl rfl rfl hc rfl XC.sa (by rw[refuseLoop_ref];exact b6 _) (by show(Value.ref C::bm).contains _=true;rw[List.contains_cons,b5,Bool.or_true]) XC.ta λh' tk g1 g2 kp=>?_;have hn:H s.heap.objs.size=none:=I.hok.fresh ↑h;have ne:s.heap.objs.size≠e:=Nat.ne_of_gt (Heap.lt_size he);have lt:∀b o,s.heap.get? b=some o->b≠s.heap.objs.size:=λb o q=>Nat.ne_of_lt (Heap.lt_size q);have up:∀b o,H b=some o->b≠e->zO (zO H e (.ext (gV e C t s.heap.objs.size))) s.heap.objs.size (.xd [("at",v)]) b=some o:=λb o q hb=>by rw[zf (zK q hn),zf hb];exact q
 have te:∀b o,H b=some o->(∀φ,o≠.ext φ)->b≠e:=λb o q z w=>by rw[w,hx]at q;cases q;exact z _ rfl
 refine h _ s.heap.objs.size hn ne (I.un (t':=tk) ⟨λb o q n _ _=>kp b o (λz=>by rw[z,hx]at n;cases n) q,λb o q n _ _=>⟨o.slots,kp b o (λz=>by rw[z,hx]at n;cases n) q⟩,λb o q n _=>?_,λb o q _=>?_,λb xs q=>up b _ q (te b _ q λ_ z=>by cases z),λb o u q=>up b _ q (te b _ q λ_ z=>by cases z),λb ps q=>⟨#[],by rw[Array.append_empty];exact up b _ q (te b _ q λ_ z=>by cases z)⟩⟩ λa o q=>?_);·rw[zf (lt b o q),zf (λz=>by rw[z,hx]at n;cases n)];exact n
 ·by_cases hb:b=e;·subst hb;exact⟨_,g1⟩
  ·exact⟨o,kp b o hb q⟩
 ·by_cases ha:a=s.heap.objs.size
  ·subst ha;rw[zm]at q;cases q;refine⟨_,g2,λf=>?_⟩;by_cases hf:f="at";·subst hf;rw[List.lookup_cons_self,if_pos rfl];exact rv
   ·have:(f==("at":Str))=false:=beq_eq_false_iff_ne.mpr hf;rw[if_neg hf,List.lookup_cons,this];exact True.intro
  ·rw[zf ha]at q;by_cases hae:a=e;·subst hae;rw[zm]at q;cases q;exact⟨g1,⟨_,g1⟩,λh1 h2 z k=>k _ z⟩
   ·rw[zf hae]at q;refine(I.hok a o q).stay (λb u hb r=>kp b u ?_ r) (λb r=>up b _ r (te b _ r λ_ z=>by cases z)) λb xs r=>up b _ r (te b _ r λ_ z=>by cases z);rcases hb with rfl|hb;·exact hae
    ·exact te b _ hb λ_ z=>by cases z
end
section
variable{M:Model}{A:Around}{E:Value->Shared->Prop}{s:Shared}{env:Env}
variable{nm q:Str}{C N:Addr}{bs bm:List Value}{hdct:Bool}{sn:List Str}{sub:List Value}{ab:Bool}{col:Option Bool}{dd:Option Addr}{k0 k1 k2 k3 k5:Option Value}{newId:String}
theorem ft{x:Sem Value}{Q:Flow->Shared->Prop}(hbase:bm.contains (.type "BaseException")=true)(hh:A.handled=none)(h:wpAny M A x (λv s₁=>∃e t d,v=.ref e/\s₁.heap.get? C=some ↑C/\s₁.heap.get? e=some {cls:=.ref C,dict:=some d,data:=.fields #[.ref t,.none,.none,.none,.bool false,.none]}/\E (.ref e) s₁) E s):wpAny M A (raiseStmt env (some x) none) Q E s:=by
 have hcB:(Value.ref C::bm).contains (.type "BaseException")=true:=by rw[List.contains_cons,hbase,Bool.or_true]
 unfold raiseStmt;refine wpAny_bind (wpAny_mono h (λv s₁ h₁=>?_) λ_ _ x=>x);obtain⟨e,t,d,rfl,hC,he,hE⟩:=h₁;obtain⟨hp,g,d,tk,os⟩:=s₁;repeat(first|with_reducible refine wpAny_loadPart_at he ?_|with_reducible refine wpAny_loadPart_at hC ?_|(with_reducible refine wpAny_isSubtype_exc hC ?_;rw[hcB])|wp_step)
 exact wpAny_raiseNew_none hh hE
theorem Gi{x:Expr}{pos:Pos}{Q:Flow->Shared->Prop}(hbase:bm.contains (.type "BaseException")=true)(hh:A.handled=none)(h:wpAny M A (eval x env) (λv s₁=>∃e t d,v=.ref e/\s₁.heap.get? C=some ↑C/\s₁.heap.get? e=some {cls:=.ref C,dict:=some d,data:=.fields #[.ref t,.none,.none,.none,.bool false,.none]}/\E (.ref e) s₁) E s):wpAny M A (exec (.Raise (some x) none pos) env) Q E s:=by rw[arm_exec_Raise];first|exact wpAny_bind ↑X|(simp only[evalOpt,Option.map];exact wpAny_bind ↑X)|(show wpAny M A (do standAt pos;raiseStmt env (some (do let v<-eval x env;standAt pos;pure v)) none) Q E s;exact wpAny_bind ↑X)
end
def Gj(K:Frag)(fI:Addr):Sp:=λvs H Q _=>∃e C t v,vs=[.ref e,v]/\H e=some (.ext (lP e C t))/\ZQ K C fI/\∀d,H d=none->d≠e->Q .non (zO (zO H e (.ext (gV e C t d))) d (.xd [("at",v)]))
def IN(K:Frag)(fI:Addr):TS:=λD σ H=>∃e C t v,σ[0]?=some (some (.ref e))/\σ[1]?=some (some v)/\H e=some (.ext (lP e C t))/\ZQ K C fI/\∀d,H d=none->d≠e->D.nx σ (zO (zO H e (.ext (gV e C t d))) d (.xd [("at",v)]))
theorem N1{X:Cx}{x y:Str}{p1 p2 p3 pos:Pos}{fI:Addr}(hx:PE X (.Name x p1) (xJ 0))(hy:PE X (.Name y p2) (xJ 1))(hs:swapsWith (.Name y p2) (some (.Attribute (.Name x p1) "at" p3)) pos.line X.env=pure false):PS X (.Assign [.Attribute (.Name x p1) "at" p3] (.Name y p2) pos) (IN X.K fI):=by intro pins s σ H D I h;obtain⟨e,C,t,v,h0,h1,hx',XC,q⟩:=h;refine plainObj_wpAny_Assign_Attribute (ja (hy pins s σ H (λw H1=>w=v/\H1=H) I ⟨v,h1,rfl,rfl⟩) λu s1⟨y',H1,I1,ry,e1,e2⟩=>ja (hx pins s1 σ H1 (λw H2=>w=.ref e/\H2=H1) I1 ⟨_,h0,rfl,rfl⟩) λov s2⟨x',H2,I2,rx,e3,e4⟩=>?_) hs;subst e1 e2 e3 e4;obtain rfl:ov=Value.ref e:=rx;exact Gh I2 hx' XC ry λs' d n ne I3=>⟨σ,_,I3,q d n ne⟩
section
variable{P:Program}{w:World}{K:Frag}{mg:Str->Option Value}{base:Heap}{CX:ZG}
theorem V3{qual:Str}{st:Stmt}{f:Addr}{fd:FuncData}{x y:Str}{p1 p2 p3 pos:Pos}(F:eS K "__init__" qual st f fd)(S:zg [x,y] [x,y] (zb st))(hbd:j6 st=[.Assign [.Attribute (.Name x p1) "at" p3] (.Name y p2) pos])(hd1:(x==↑t)=false)(hd2:(y==↑t)=false)(hc1:(x==("__classdict__":Str))=false)(hc2:(y==("__classdict__":Str))=false)(v1:aK (zb st) x)(v2:aK (zb st) y):xZ P w K mg base CX 1 f fd [x,y] (Gj K f):=by obtain⟨oc,od,kV,doc,pm,an,cdv,ct,osl,rfl,lk,hcd⟩:=F.ex;refine iC lk hcd S (λvs H Q E⟨e,C,t,v,h,_⟩=>by rw[h];rfl) λA outer s H vs Q E hr hsp=>?_;obtain⟨e,C,t,v,rfl,hx,XC,q⟩:=hsp;rw[hbd];refine⟨_,qg (N1 (fI:=f) (k9 rfl v1 hd1 hc1) (k9 rfl v2 hd2 hc2) rfl),e,C,t,v,rfl,rfl,hx,XC,q⟩
end
def nh(X:Cx)(ev:Value)(pins:List ↑j)(σ:St)(H:Hp)(s:Shared):Prop:=zo X pins σ H s/\FlyN (X.pn++pins) X.s₀.heap.objs.size H ev s.heap
def Gk(X:Cx)(C:Addr)(t:TA):TS:=λ_ σ H=>t σ H λvs H1=>∃v,vs=[v]/\∀e d,H1 e=none->H1 d=none->d≠e->∀pins s',nh X (.ref e) pins σ (zO (zO H1 e (.xob C d)) d (.xd [("at",v)])) s'->X.xe (.ref e) s'
theorem Yc{X:Cx}{CX:ZG}{C fI:Addr}{fd:FuncData}{k:Nat}{x a b:Str}{p pos pos2:Pos}{arg:Expr}{t:TA}(XC:ZQ X.K C fI)(F:xZ X.prog X.w X.K X.mg X.base CX k fI fd [a,b] (Gj X.K fI))(hr:jN (k+1) X.A)(hg:Gl X x)(hm:X.mg x=some ↑Q)(hb:kA X.K fd [a,b] [])(hx:∀outer H s e s',¬CX outer H s (λ_ _ _=>False) e s')(ha:PA X [arg] t)(hdb:(x==↑t)=false:=by decide)(he:starEach [arg] X.env=[(false,eval arg X.env)]:=by rfl):PS X (.Raise (some (.Call (.Name x p) [arg] [] pos)) none pos2) (Gk X C t):=by intro pins s σ H D I h;obtain⟨nm,q,N,bs,bm,sn,sub,ab,col,dd,k0,k1,k2,k3,k5,lk,b1,b2,b3,b4,b5,b6⟩:=XC.obj;refine Gi (C:=C) (nm:=nm) (q:=q) (N:=N) (bs:=bs) (bm:=bm) (hdct:=true) (sn:=sn) (sub:=sub) (ab:=ab) (col:=col) (dd:=dd) (k0:=k0) (k1:=k1) (k2:=k2) (k3:=k3) (k5:=k5) (newId:="ValueError.__new__") b4 hr.hd ?_;refine wpAny_Call_Name_kw (fY I hg hm ?_ hdb);refine callWith_K (h₀:=X.base) I.ok.mod.kin XC.keep (ja (ha pos pins s σ H _ I h) λus s1⟨vs,H1,I1,r,v,ev,q⟩=>⟨I1.kIn,?_⟩) (by rw[he];rfl) rfl;subst ev;obtain⟨u,rfl,ru⟩:=gQ r;obtain⟨h1,g1,d1,t1,os1⟩:=s1;refine ZP PySem.F.excBase_ValueError (K:=X.K) I1.kIn b1 b2 b3 (I1.kIn C _ lk) XC.init XC.fn (λh' kp hge=>?_) (by show 1<=sizeLine;decide);have I2:zo X pins σ (zO H1 (h1.objs.size+1) (.ext (lP (h1.objs.size+1) C h1.objs.size))) ⟨h',g1,d1,t1,os1⟩:=I1.laid (t':=t1) (a:=h1.objs.size+1) kp (Nat.le_succ _) ⟨hge,⟨_,hge⟩,λ_ _ z k=>k _ z⟩;have n1:H1 (h1.objs.size+1)=none:=I1.hok.fresh (Nat.le_succ _);refine wpAny_call (codeAny_mono (F.run _ X.stack _ _ ⟨[.ref (h1.objs.size+1),u],[]⟩ [.ref (h1.objs.size+1),u] [.ref (h1.objs.size+1),v] (λv' H3=>v'=.non/\∃d,zO H1 (h1.objs.size+1) (.ext (lP (h1.objs.size+1) C h1.objs.size)) d=none/\d≠h1.objs.size+1/\H3=zO ↑n d (.xd [("at",v)])) (λ_ _ _=>False) (hr.make C [u] []) (I2.env0.make C [u] []) (hb _ [.ref (h1.objs.size+1),u] I2.kIn rfl) (.cons rfl (.cons ru .nil)) ⟨h1.objs.size+1,C,h1.objs.size,v,rfl,zm,XC,λd n ne=>⟨rfl,d,n,ne,rfl⟩⟩) λr s' hq'=>?_);cases r with|error e=>exact(hx _ _ _ _ _ hq').elim|ok fl=>cases fl with|next=>exact False.elim hq'|brk=>exact False.elim hq'|cont=>exact False.elim hq'|ret u'=>
   obtain⟨v',H3,I3,rv,ev,d,nd,ne,rfl⟩:=I2.after hq';subst ev;refine⟨rv,?_⟩;have nd1:H1 d=none:=by rw[zf ne]at nd;exact nd
   have o3:=(I3.hok (h1.objs.size+1) (.ext (gV (h1.objs.size+1) C h1.objs.size d)) (by rw[zf ne.symm,zm])).1;refine⟨_,_,d,rfl,I3.kIn C _ lk,o3,q (h1.objs.size+1) d n1 nd1 ne pins s' ⟨?_,_,_,_,rfl,Nat.le_trans I1.sz (Nat.le_succ _),o3,rfl,by show 1<6;decide,.inl rfl⟩⟩;have te:∀b o,zO ↑n d (.xd [("at",v)]) b=some o->b≠h1.objs.size+1->zO (zO H1 (h1.objs.size+1) (.xob C d)) d (.xd [("at",v)]) b=some o:=λb o z hb=>by
    by_cases hd:b=d;·subst hd;rw[zm]at z⊢;exact z
    ·rw[zf hd,zf hb,zf hb]at z;rw[zf hd,zf hb];exact z
   have tn:∀b,zO ↑n d (.xd [("at",v)]) b=none->zO (zO H1 (h1.objs.size+1) (.xob C d)) d (.xd [("at",v)]) b=none:=λb z=>by
    by_cases hd:b=d;·subst hd;rw[zm]at z;cases z
    ·by_cases hb:b=h1.objs.size+1;·subst hb;rw[zf hd,zm]at z;cases z
     ·rw[zf hd,zf hb,zf hb]at z;rw[zf hd,zf hb];exact z
   have nx:∀b o,zO ↑n d (.xd [("at",v)]) b=some o->(∀φ,o≠.ext φ)->b≠h1.objs.size+1:=λb o z w hb=>by subst hb;rw[zf ne.symm,zm]at z;cases z;exact w _ rfl
   have J:=I3.un (t':=s'.toks) (h':=s'.heap) (H':=zO (zO H1 (h1.objs.size+1) (.xob C d)) d (.xd [("at",v)])) ⟨λb o z _ _ _=>z,λb o z _ _ _=>⟨o.slots,z⟩,λb o _ n _=>tn b n,λb o z _=>⟨o,z⟩,λb xs z=>te b _ z (nx b _ z λ_ w=>by cases w),λb o u z=>te b _ z (nx b _ z λ_ w=>by cases w),λb ps z=>⟨#[],by rw[Array.append_empty];exact te b _ z (nx b _ z λ_ w=>by cases w)⟩⟩ λa o z=>by
    by_cases ha:a=h1.objs.size+1;·subst ha;rw[zf ne.symm,zm]at z;cases z;exact⟨_,_,o3,rfl,rfl,rfl,by show 1<6;decide⟩
    ·have z':zO ↑n d (.xd [("at",v)]) a=some o:=by
      by_cases hd:a=d;·subst hd;rw[zm]at z⊢;exact z
      ·rw[zf hd,zf ha]at z;rw[zf hd,zf ha,zf ha];exact z
     exact(I3.hok a o z').stay (λb u _ w=>w) (λb w=>te b _ w (nx b _ w λ_ w=>by cases w)) λb xs w=>te b _ w (nx b _ w λ_ w=>by cases w)
   exact J
theorem m6{X:Cx}{σ:St}{H:Hp}{s:Shared}{e:Addr}{A:Around}{Q:Unit->Shared->Prop}{E:Value->Shared->Prop}{pins:List ↑j}(I:zo X pins σ H s)(fly:FlyN (X.pn++pins) X.s₀.heap.objs.size H (.ref e) s.heap)(h:∀h',zo X pins σ H {s with heap:=h'}->Q () {s with heap:=h'}):wpAny ↑a A (setFlight (.ref e) none) Q E s:=by
 obtain⟨e',oe,vs,ee,hne,he,hd,hsz,hT⟩:=fly;cases ee;unfold setFlight;rcases hT with h1|⟨T,oT,ts,z,n,ne,np,h1,q,dt,t3⟩;·refine wpAny_bind (wpAny_field he hd h1 ?_);rw[if_neg ↑f];exact wpAny_pure (h s.heap I)
 ·refine wpAny_bind (wpAny_field he hd h1 ?_);rw[if_pos (show(Value.ref T !=Value.none)=true from by simp)];refine wpAny_setField q dt (Array.getElem?_eq_some_iff.mp t3).1 (h _ ?_);have other:∀b,b≠T->(s.heap.update T (Obj.mapFields (·.setIfInBounds 3 ((none:Option Addr).elim Value.none λf=>rawInt f)))).get? b=s.heap.get? b:=λb hb=>Heap.get?_update_other _ _ (Ne.symm hb);refine I.call (g':=s.gens) (d':=s.drawn) (t':=s.toks) (ch:=[T]) ⟨λb o w _ _ hc=>(other b λz=>hc (by simp[z])).trans w,λb o w _ _ hc=>⟨o.slots,(other b λz=>hc (by simp[z])).trans w⟩,λb o _ n _=>n,λb o w hc=>⟨o,(other b λz=>hc (by simp[z])).trans w⟩,λb xs w=>w,λb o u w=>w,λb ps w=>⟨#[],by rw[Array.append_empty];exact w⟩⟩ (λa o w=>(I.hok a o w).stay (λb u hb r=>(other b λz=>?_).trans r) (λ_ r=>r) λ_ _ r=>r) I.bare λb hb=>?_
  ·rcases hb with rfl|hb;·rw[z,n]at w;cases w
   ·rw[z,n]at hb;cases hb
  ·obtain rfl:=List.mem_singleton.mp hb;refine⟨.inr z,?_,λx c ec zz=>?_,np⟩;·rintro rfl;obtain⟨m,⟨o,es,ep,ho,dd,_⟩,_⟩:=I.loc;rw[q]at ho;cases ho;rw[dt]at dd;cases dd
   ·subst zz;obtain⟨v,o,ho,dd⟩:=I.cell x c ec;rw[q]at ho;cases ho;rw[dt]at dd;cases dd
def Cx.hdl(X:Cx)(ev:Value):Cx:={X with A:=X.A.mark (some ev),calm:=false,xe:=λ_ _=>False}
def Cx.wx(X:Cx)(ps:List ↑j)(E:Value->Shared->Prop):Cx:={X with pn:=X.pn++ps,xe:=E}
theorem zo.hdl{X:Cx}{pins:List ↑j}{σ:St}{H:Hp}{s:Shared}(ev:Value)(I:zo X pins σ H s):zo (X.hdl ev) pins σ H s:={I with ok:={I.ok with hd:=λz=>(by cases z),frames:=I.ok.frames}}
theorem zo.ofHdl{X:Cx}{pins:List ↑j}{σ:St}{H:Hp}{s:Shared}{ev:Value}(hd:X.calm=true->X.A.handled=none)(I:zo (X.hdl ev) pins σ H s):zo X pins σ H s:={I with ok:={I.ok with hd:=hd,frames:=I.ok.frames}}
theorem zo.wx{X:Cx}{ps:List ↑j}{σ:St}{H:Hp}{s:Shared}{E:Value->Shared->Prop}(I:zo X ps σ H s):zo (X.wx ps E) [] σ H s:={I with ok:={I.ok with},pin:=λp hp=>I.pin p (by simpa[Cx.wx]using hp)}
theorem zo.ofWx{X:Cx}{ps pins:List ↑j}{σ:St}{H:Hp}{s:Shared}{E:Value->Shared->Prop}(I:zo (X.wx ps E) pins σ H s):zo X ps σ H s:={I with ok:={I.ok with},pin:=λp hp=>I.pin p (List.mem_append_left _ hp)}
theorem ZR{X:Cx}{pins:List ↑j}{σ:St}{H:Hp}{s:Shared}{M:Model}{A:Around}{E:Value->Shared->Prop}{i:Nat}{x:Str}{v:V}{Q:Unit->Shared->Prop}(I:zo X pins σ H s)(hN:X.N.Nodup)(hi:X.N[i]?=some x)(hk:X.env.scope.names.lookup x=some .local)(hv:σ[i]?=some (some v))(h:∀s',zo X pins (σ.set i none) H s'->Q () s'):wpAny M A (unbindName X.env x) Q E s:=by
 obtain⟨m,hn,hl⟩:=id I.loc;have hcls:(X.env.scope.kind==.class||(X.env.scope.kind==.module&&X.env.locals !=X.env.globals))=false:=by rw[I.ok.kind];rfl
 have cne:=I.cne;obtain⟨u,r,lk⟩:=hl i x v hi hv (.inl hk);have hmx:m x=some u:=by
  rcases lk with⟨_,e⟩|⟨k,_⟩;·exact e
  ·have k:X.env.scope.names.lookup x=some .cell\/X.env.scope.names.lookup x=some .free:=k;rw[hk]at k;rcases k with k|k<;>cases k
 obtain⟨oL,_,_,hoL,_⟩:=id hn;refine wpAny_unbindName_local hk hn hmx hcls λh' u' hn' hs=>h _ ⟨I.ok,I.os,I.bare,⟨λb o e n hb hx=>?_,λb o e n hb hx=>?_,I.base.free,λb o e hx=>?_,I.base.tups,I.base.frzs,I.base.tbls⟩,⟨_,hn',λj y v' e1 e2 e3=>?_⟩,λy c e=>?_,I.free,I.freeC,λp hp=>?_,λb ob e=>?_,by simpa using I.len⟩;·exact(hs.2 b ↑J).trans (I.base.keep b o e n hb hx)
 ·obtain⟨sl,e1⟩:=I.base.slot b o e n hb hx;exact⟨sl,(hs.2 b ↑J).trans e1⟩
 ·obtain⟨o',e1⟩:=I.base.there b o e hx;exact⟨o',(hs.2 b ↑J).trans e1⟩
 ·have hj:j≠i:=λz=>by subst z;have hiσ:j<σ.length:=(List.getElem?_eq_some_iff.mp hv).1;rw[List.getElem?_set_self hiσ]at e2;cases e2
  rw[List.getElem?_set_ne (Ne.symm hj)]at e2;obtain⟨u',r',q⟩:=hl j y v' e1 e2 e3;refine⟨u',r',?_⟩;rcases q with⟨k,e⟩|⟨k,c,e,z⟩;·refine .inl ⟨k,?_⟩;have:y≠x:=λe=>hj (nS hN e1 (e▸hi));simp[this,e]
  ·exact .inr ⟨k,c,e,z.sameBut hs (cne y c e)⟩
 ·obtain⟨w',z⟩:=I.cell y c e;exact⟨w',z.sameBut hs (cne y c e)⟩
 ·obtain⟨e,n,ne,nf,d⟩:=I.pin p hp;exact⟨(hs.2 p.1 ne).trans e,n,ne,nf,d⟩
 ·refine(I.hok b ob e).stay (λc w' hc q=>(hs.2 c ?_).trans q) (λ_ q=>q) λ_ _ q=>q;rintro rfl;rcases hc with rfl|hc;·rw[I.free]at e;cases e
  ·rw[I.free]at hc;cases hc
def V4(nm:Option Nat)(σ:St):St:=match nm with|none=>σ|some i=>σ.set i none
def fk.beh(D:fk)(nm:Option Nat):fk:=⟨λσ H=>D.nx (V4 nm σ) H,D.rt,λσ H=>D.bk (V4 nm σ) H,λσ H=>D.ct (V4 nm σ) H⟩
def KZ(nm:Option Nat)(v:V)(σ:St):St:=match nm with|none=>σ|some i=>σ.set i (some v)
def Gm(X:Cx):Option Str->Option Nat->Prop|none,none=>True|some n,some i=>X.N.Nodup/\X.N[i]?=some n/\X.env.scope.names.lookup n=some .local|_,_=>False
theorem gz{X:Cx}{pins:List ↑j}{σ:St}{H:Hp}{s:Shared}{i:Nat}{n:Str}{pos:Pos}{A:Around}{Q:Unit->Shared->Prop}{E:Value->Shared->Prop}(I:zo X pins σ H s)(hn:Gm X (some n) (some i))(h:∀s',zo X pins (σ.set i none) H s'->Q () s'):wpAny ↑a A (do bindName X.env n .none;unbindBehindTheSuite X.env n pos) Q E s:=by
 obtain⟨nd,hi,hk⟩:=hn;refine wpAny_bind ?_;unfold bindName;refine wpAny_bind (wpAny_point (wpAny_bind (qS I nd hi (.inl hk) (v:=.non) (u:=.none) rfl (λs1 I1=>wpAny_point ?_) (.inr hk))));unfold unbindBehindTheSuite;refine wpAny_onRaise ?_;have hl:i<σ.length:=by rw[I.len];exact(List.getElem?_eq_some_iff.mp hi).1
 refine wpAny_mono (ZR (M:=model X.prog X.w) (A:=A) (E:=λ_ _=>False) I1 nd hi hk (List.getElem?_set_self hl) λs' I'=>?_) (λ_ _ z=>z) λ_ _ z=>z.elim;rw[List.set_set]at I';exact h s' I'
section
variable{prog:Program}{w:World}{A:Around}{s:Shared}{env:Env}{R:Result->Shared->Prop}
theorem Gn{e:Value}{n:Str}{b₀:Stmt}{body:List Stmt}{pos:Pos}(h:wpAny ↑d A (setFlight e none) (λ_ s₁=>wpAny ↑d A (bindName env n e) (λ_ s₂=>wpAny ↑d A (execs (b₀::body) env) (λf s₃=>R (.ok f) s₃) (λ_ _=>False) s₂) (λ_ _=>False) s₁) (λ_ _=>False) s):codeAny ↑d A (.handlers e [.ExceptHandler none (some n) (b₀::body) pos] env) R s:=by refine codeAny_of_tree ?_;show wpAny _ A (do return Fin.done (<-(handleWith e env [.ExceptHandler none (some n) (b₀::body) pos]).onRaise (λx=>do noteFrame x env;theTreesLotGoes x))) _ _ s;refine wpAny_bind (wpAny_noted ?_);unfold handleWith;refine wpAny_bind (wpAny_standAt (wpAny_bind (wpAny_mono h (λ_ s₁ h₁=>wpAny_bind (wpAny_mono h₁ (λ_ s₂ h₂=>wpAny_bind (wpAny_attempt (wpAny_mono h₂ (λf s₃ h₃=>?_) λ_ _ z=>z.elim))) λ_ _ z=>z.elim)) λ_ _ z=>z.elim)));exact wpAny_pure (wpAny_pure h₃)
end
theorem SP.beh{X:Cx}{pins:List ↑j}{D:fk}{ev:Value}(hd:X.calm=true->X.A.handled=none){f:Flow}{s:Shared}(h:SP (X.hdl ev) pins (D.beh none) f s):SP X pins D f s:=by cases f with|next=>obtain⟨σ',H',I',q⟩:=h;exact⟨σ',H',I'.ofHdl hd,q⟩|brk=>obtain⟨σ',H',I',q⟩:=h;exact⟨σ',H',I'.ofHdl hd,q⟩|cont=>obtain⟨σ',H',I',q⟩:=h;exact⟨σ',H',I'.ofHdl hd,q⟩|ret v=>obtain⟨x,σ',H',I',r,q⟩:=h;exact⟨x,σ',H',I'.ofHdl hd,r,q⟩
theorem ZS{X:Cx}{pins:List ↑j}{σ:St}{H:Hp}{s:Shared}{e C d C2:Addr}{fs:List (Str×V)}{D:fk}{cn:Str}{p pos:Pos}{nmS:Option Str}{nm:Option Nat}{b0:Stmt}{bs:List Stmt}{t:TS}(I:zo X pins σ H s)(hx:H e=some (.xob C d))(hdd:H d=some (.xd fs))(fly:FlyN (X.pn++pins) X.s₀.heap.objs.size H (.ref e) s.heap)(hg:Gl X cn)(hm:X.mg cn=some (.ref C2))(hc:exmOne X.K ↑Q (.ref C2)=some true)(hn:Gm X nmS nm)(hdb:(cn==↑t)=false)(hb:cu (X.hdl (.ref e)) (b0::bs) t)(h:t (D.beh nm) (KZ nm (.ref e) σ) H):wpAny ↑a X.A (handleBy (.ref e) X.env [.ExceptHandler (some (.Name cn p)) nmS (b0::bs) pos]) (SP X pins D) X.xe s:=by
 have IH:=I.hdl (.ref e);obtain⟨oe,vs,he,hcl,hdi,hda,_⟩:=I.hok _ _ hx;have hod:∃od,s.heap.get? d=some od:=by obtain⟨_,⟨o,_,_,q,_⟩,_⟩:=I.hok _ _ hdd;exact⟨o,q⟩
 obtain⟨od,hod⟩:=hod;have IA:InstAt s.heap e oe C (some od):=⟨he,hcl,by unfold notCls;rw[hda],by rw[hdi];exact hod⟩;refine wpAny_handleBy_cons (codeAny_handlers_test (fY (X:=X.hdl (.ref e)) IH hg hm ?_ hdb)) (by intro z;cases z);refine(exm_one (M:=model X.prog X.w) I.kIn IA.type hc).here ?_;show codeAny _ _ _ _ s;match nmS,nm,hn,h with|none,none,_,h=>refine codeAny_handlers_suite (m6 I fly λh' I'=>?_);exact wpAny_mono (hb pins _ σ H (D.beh none) (I'.hdl (.ref e)) h) (λf s2 q=>SP.beh I.ok.hd q) λ_ _ z=>z.elim|some n,some i,hn,h=>obtain⟨nd,hi,hk⟩:=id hn;refine Gn (m6 I fly λh' I'=>?_);unfold bindName;refine wpAny_bind (wpAny_holding (wpAny_point (wpAny_bind (qS I' nd hi (.inl hk) (v:=.ref e) (u:=.ref e) rfl (λs1 I1=>wpAny_point ?_) (.inr hk)))));refine wpAny_mono (hb pins _ _ H (D.beh (some i)) (I1.hdl (.ref e)) h) (λf s2 q=>?_) λ_ _ z=>z.elim;cases f with|next=>obtain⟨σ',H',I2,q⟩:=q;exact gz (I2.ofHdl I.ok.hd) hn λs3 I3=>⟨_,H',I3,q⟩|brk=>obtain⟨σ',H',I2,q⟩:=q;exact gz (I2.ofHdl I.ok.hd) hn λs3 I3=>⟨_,H',I3,q⟩|cont=>obtain⟨σ',H',I2,q⟩:=q;exact gz (I2.ofHdl I.ok.hd) hn λs3 I3=>⟨_,H',I3,q⟩|ret v=>obtain⟨x,σ',H',I2,r,q⟩:=q;exact gz (I2.ofHdl I.ok.hd) hn λs3 I3=>⟨x,_,H',I3,r,q⟩
def rn(X:Cx)(pins:List ↑j)(D:fk)(hs:List ExceptHandler):Value->Shared->Prop:=λev s1=>wpAny ↑a X.A (noteFrame ev X.env) (λ_ s2=>wpAny ↑a X.A (setFlight ev none) (λ_ s3=>wpAny ↑a X.A (handleBy ev X.env hs) (SP X pins D) X.xe s3) X.xe s2) X.xe s1
def Le(X:Cx)(body:List Stmt)(hs:List ExceptHandler):TS:=λD σ H=>∀pins,∃t,cu (X.wx pins (rn X pins D hs)) body t/\t D σ H
theorem V5{X:Cx}{body:List Stmt}{h0:ExceptHandler}{hs:List ExceptHandler}{pos:Pos}:PS X (.Try body (h0::hs) [] [] pos) (Le X body (h0::hs)):=by
 intro pins s σ H D I h;obtain⟨t,p,h⟩:=h pins;refine wpAny_Try_except (wpAny_mono (p [] s σ H D I.wx h) (λf s1 q=>?_) λev s1 z=>?_);·cases f with|next=>obtain⟨σ',H',I',q⟩:=q;exact wpAny_execs_nil ⟨σ',H',I'.ofWx,q⟩|brk=>obtain⟨σ',H',I',q⟩:=q;exact⟨σ',H',I'.ofWx,q⟩|cont=>obtain⟨σ',H',I',q⟩:=q;exact⟨σ',H',I'.ofWx,q⟩|ret v=>obtain⟨x,σ',H',I',r,q⟩:=q;exact⟨x,σ',H',I'.ofWx,r,q⟩
 ·exact z
section
variable{prog:Program}{w:World}{A:Around}{E:Value->Shared->Prop}{s:Shared}{K:Frag}{x C:Addr}{ox:Obj}{od:Option Obj}{name:Str}{expr:Bool}{Q:Value->Shared->Prop}
theorem Yd:splitId "BaseException.__getattribute__"=some ("BaseException","__getattribute__"):=by decide+kernel
theorem V6:builtinKind "BaseException.__getattribute__"=some .slot:=by decide+kernel
theorem N2:(Value.builtin "BaseException.__getattribute__"==Value.builtin "object.__getattribute__")=false:=by decide+kernel
theorem iI{tk:Tok}{fill:Bool}(X:K.In s.heap)(I:InstAt s.heap x ox C od)(hga:findIn K ↑Q "__getattribute__"=some (some (.builtin "BaseException.__getattribute__")))(hgt:findIn K ↑Q "__getattr__"=some none)(hb:mroIn K C (.type "BaseException")=some true)(h:wpAny ↑d A.in1 (Builtin.«object.__getattribute__» ⟨[.ref x,.str name tk],[]⟩) (λfin s'=>match fin with|.done (.ret v)=>wpAny ↑d A (handedOut v) Q E s'|_=>False) (λ_ _=>False) s):wpAny ↑d A (getAttrBy (.ref x) (.str name tk) fill expr) Q E s:=by obtain⟨hp,g,d,t,os⟩:=s;have L0:=I.type (M:=model prog w);have L1:=looks_findIn (M:=model prog w) X hga;have LH:Looks ↑d hp (hookBefore ↑Q) none:=looks_hook X (by rw[if_pos ↑r];exact hgt);have LS:Looks ↑d hp (isInstance (.ref x) (.type "BaseException")) true:=L0.andThen (looks_mroIn X hb);have fb:=PySem.F.excAttr_ValueError.ga.bind (.ref x);unfold getAttrBy;refine wpAny_holding (wpAny_bind (L0.at (wpAny_bind (L1.at ?_))));dsimp only;rw[N2,Bool.and_false,if_neg ↑f];unfold getAttrByItsOwn;refine wpAny_bind (LH.at (wpAny_bind (wpAny_attempt (wpAny_holding ?_))));unfold callGetattribute;rw[show(expr&&onTheHeap (Value.builtin "BaseException.__getattribute__"))=false from Bool.and_false _,if_neg ↑f];unfold boundAndCalled;rw[fb];refine wpAny_bind (wpAny_pure ?_);show wpAny _ _ (call (.builtin "BaseException.__getattribute__") [.ref x,.str name tk]) _ _ _;refine wpAny_call ?_;refine codeAny_call_builtin PySem.F.excAttr_ValueError.ga.plain PySem.F.entry_bexc_ga ?_;refine@check_slot ↑d _ _ ⟨hp,g,d,t,os⟩ "BaseException.__getattribute__" "BaseException" "__getattribute__" (.ref x) [.str name tk] [] _ V6 Yd LS (PySem.F.args_bexc_ga (.ref x) (.str name tk)) ?_;refine wpAny_mono h (λfin s' z=>?_) λ_ _ z=>z.elim;rcases fin with(_|_|_|_)|_<;>first|exact z|exact z.elim
theorem tK{v:Value}(X:K.In s.heap)(I:InstAt s.heap x ox C od)(hga:findIn K ↑Q "__getattribute__"=some (some (.builtin "BaseException.__getattribute__")))(hgt:findIn K ↑Q "__getattr__"=some none)(hb:mroIn K C (.type "BaseException")=some true)(hf:findObj K C od name=some (.value v))(hh:handedIn v=true)(h:Q v {s with toks:=s.toks+1}):wpAny ↑d A (getAttr (.ref x) name expr) Q E s:=by obtain⟨hp,g,d,t,os⟩:=s;have L0:=I.type (M:=model prog w);have LF:=looks_find (M:=model prog w) X I hf;unfold getAttr;refine wpAny_bind (wpAny_mkText (iI X I hga hgt hb ?_));unfold Builtin.«object.__getattribute__»;refine wpAny_bind (wpAny_pure (wpAny_bind (wpAny_pure (wpAny_bind (L0.at (wpAny_bind (LF.at ?_)))))));refine wpAny_pure ?_;show wpAny _ _ (handedOut v) _ _ _;rw[handedOut_of hh];exact wpAny_pure h
theorem tL{oD:Obj}{Q:Option Value->Shared->Prop}(hdct:hasDictIn K C=true)(hga:findIn K ↑Q "__getattribute__"=some (some (.builtin "BaseException.__getattribute__")))(hgt:findIn K ↑Q "__getattr__"=some none)(hb:mroIn K C (.type "BaseException")=some true)(ha:findIn K ↑Q "__class__"=some (some ↑H))(hn:specialIn K ↑H "__get__"=some (some (.builtin "getset_descriptor.__get__")))(htk:takesIn K ↑H=some true)(hm:mroIn K C (.type "object")=some true)(X:K.In s.heap)(I:InstAt s.heap x ox C (some oD))(h:Q (some ↑Q) {s with toks:=s.toks+1}):wpAny ↑d A (getAttr? (.ref x) "__class__") Q E s:=by obtain⟨hp,g,d,t,os⟩:=s;have hf:findObj K C (some oD) "__class__"=some (.bind (.builtin "getset_descriptor.__get__") ↑H):=findObj_data (by obtain⟨cd,hc,_⟩:=any_some hdct;rw[hc];rfl) ha hn htk;have LF:=looks_find (M:=model prog w) X I hf;have L0:=I.type (M:=model prog w);unfold getAttr? getAttrBy?;refine wpAny_bind (wpAny_mkText (wpAny_bind (wpAny_attempt (iI X I hga hgt hb ?_))));unfold Builtin.«object.__getattribute__»;refine wpAny_bind (wpAny_pure (wpAny_bind (wpAny_pure (wpAny_bind (L0.at (wpAny_bind (LF.at ?_)))))));show wpAny _ _ (holding [_] (call _ [_,.ref x,.ref C])>>=ret) _ _ _;refine wpAny_bind (wpAny_holding (wpAny_call (class_get (s:=⟨hp,g,d,t+1,os⟩) (ox:=ox) (od:=some oD) X I hm ?_)));refine wpAny_pure ?_;exact wpAny_pure (wpAny_pure h)
end
structure Q0(K:Frag)(C:Addr):Prop where
 hd:hasDictIn K C=true
 ga:findIn K ↑Q "__getattribute__"=some (some (.builtin "BaseException.__getattribute__"))gt:findIn K ↑Q "__getattr__"=some none
 bx:mroIn K C (.type "BaseException")=some true
 at_:findIn K ↑Q "at"=some none
 cl:findIn K ↑Q "__class__"=some (some ↑H)ns:specialIn K ↑H "__get__"=some (some (.builtin "getset_descriptor.__get__"))tk:takesIn K ↑H=some true
 ob:mroIn K C (.type "object")=some true
theorem Ye{K:Frag}{x D:Addr}{ox oD:Obj}(R:Q0 K D):KitX K (.ref x) (.ref D) (λh=>InstAt h x ox D (some oD))where
 ty:=λ_ _ _ I=>I.type;it:=λ_ _ X _=>by
  obtain⟨cdD,hcD,_⟩:=any_some R.hd;unfold clsIn at hcD;split at hcD;·rename_i c' d' cd' sl' ho;intro A' Q' E' s' k q;unfold isType loadHead;exact wpAny_bind (wpAny_loadPart (k _ _ (X _ _ ho)) (wpAny_pure q))
  ·cases hcD
 ne:=λh tp dd its n sl X htp=>by
  obtain⟨cdD,hcD,_⟩:=any_some R.hd;refine Bool.eq_false_iff.mpr λq=>?_;have e:D=tp:=Value.ref.inj (beq_iff_eq.mp q);subst e;unfold clsIn at hcD;split at hcD;·rename_i c' d' cd' sl' ho;have z:=(X _ _ ho).symm.trans htp;cases z
  ·cases hcD
 ca:=λX I k=>tL R.hd R.ga R.gt R.bx R.cl R.ns R.tk R.ob X I k
section
variable{X:Cx}{pins:List ↑j}{σ:St}{H:Hp}{s:Shared}{A:Around}{E:Value->Shared->Prop}{e C d:Addr}{fs:List (Str×V)}
theorem Yf(I:zo X pins σ H s)(hx:H e=some (.xob C d))(hdd:H d=some (.xd fs)):∃oe od,InstAt s.heap e oe C (some od)/\∀f v,fs.lookup f=some v->∃u,RelV v u/\lookIn f od=some (some u):=by obtain⟨oe,vs,he,hcl,hdi,hda,_⟩:=I.hok _ _ hx;obtain⟨mA,hns,hr⟩:=I.hok _ _ hdd;obtain⟨od,ho,hl⟩:=ik hns;refine⟨oe,od,⟨he,hcl,by unfold notCls;rw[hda],by rw[hdi];exact ho⟩,λf v hf=>?_⟩;obtain⟨u,hu,ru⟩:=kX.some_of (v:=v) (o:=mA f) (by rw[<-hf];exact hr f);exact⟨u,ru,by rw[hl,hu]⟩
def Lf(K:Frag)(ta:TE):TE:=λσ H Q=>ta σ H λx H1=>∃e C d fs v,x=.ref e/\H1 e=some (.xob C d)/\H1 d=some (.xd fs)/\Q0 K C/\fs.lookup ("at":Str)=some v/\Q v H1
theorem Gp{ex:Expr}{pos:Pos}{ta:TE}(he:PE X ex ta)(hb:attributeBase ex "at" X.env (eval ex X.env)=eval ex X.env):PE X (.Attribute ex "at" pos) (Lf X.K ta):=by intro pins s σ H Q I h;refine oV hb (ja (he pins s σ H _ I h) λo s1⟨x,H1,I1,r,e,C,d,fs,v,ex,h1,h2,R,hl,q⟩=>?_);subst ex;obtain rfl:o=Value.ref e:=r;obtain⟨oe,od,IA,hlk⟩:=Yf I1 h1 h2;obtain⟨u,ru,hu⟩:=hlk _ _ hl;exact tK I1.kIn IA R.ga R.gt R.bx (findObj_own R.hd R.at_ rfl hu) (im ru) ⟨v,H1,I1.tok _,ru,q⟩
theorem Gq{Q:Value->Shared->Prop}{c:Value}{b:Bool}(I:zo X pins σ H s)(hx:H e=some (.xob C d))(hdd:H d=some (.xd fs))(R:Q0 X.K C)(k:kitOne X.K ↑Q c=some b)(h:∀tk,Q (.bool b) {s with toks:=tk}):wpAny ↑a A (call (.builtin "isinstance") [.ref e,c]) Q E s:=by obtain⟨oe,od,IA,_⟩:=Yf I hx hdd;exact kia_one (Ye R) I.kIn IA k (λz=>nomatch z) h
end
end L2
namespace L2
open PySem PySem.Spec PyProof.Rows
def Yg{α:Type}(xs:List α)(lo hi:Option Int):List α:=(xs.drop (HT.sIx xs.length 0 lo)).take (HT.sIx xs.length xs.length hi-HT.sIx xs.length 0 lo)
def Yh(z:Str)(lo hi:Option Int):Str:=⟨(Yg z.cps.toList lo hi).toArray⟩
def cO(n:Nat)(d:Int):Option Int->Int|none=>d|some i=>max 0 (min (if i<0 then i+(n:Int)else i) (n:Int))
def cP(n d:Nat)(hd:d<=n)(o:Option Int):cO n d o=((HT.sIx n d o:Nat):Int):=by cases o with|none=>rfl|some i=>simp only[cO,HT.sIx];split<;>omega
def uA(lo hi:Option Int)(n:Nat):Builtin.Str.strSliceIndices lo hi 1 n=(List.range (HT.sIx n n hi-HT.sIx n 0 lo)).map (λk=>HT.sIx n 0 lo+k):=by
 have e:Builtin.Str.strSliceIndices lo hi 1 n=sliceRange (cO n ((0:Nat):Int) lo) (cO n (n:Int) hi) 1:=by unfold Builtin.Str.strSliceIndices;cases lo<;>cases hi<;>simp[cO]
 rw[e,cP n 0 (Nat.zero_le _),cP n n ↑h];unfold sliceRange;simp only[show(1:Int)>0 by decide,if_true];by_cases h:((HT.sIx n 0 lo:Nat):Int)<((HT.sIx n n hi:Nat):Int)
 ·have e3:((((HT.sIx n n hi:Nat):Int)-((HT.sIx n 0 lo:Nat):Int)+1-1)/1).toNat=HT.sIx n n hi-HT.sIx n 0 lo:=by rw[Int.ediv_one];omega
  simp only[h,if_true,e3];refine List.map_congr_left λk _=>?_;omega
 ·have e4:HT.sIx n n hi-HT.sIx n 0 lo=0:=by omega
  simp[h,e4]
def Yi(z:Str)(lo hi:Option Int):Txt.slice z lo hi=Yh z lo hi:=by
 have hn:z.cps.toList.length=z.length:=by simp[Str.length]
 have a1:=HT.sIx_le z.length 0 (Nat.zero_le _) lo;have a2:=HT.sIx_le z.length z.length ↑h hi;have pk:((Builtin.Str.strSliceIndices lo hi 1 z.length).filterMap (z.cps[·]?))=Yg z.cps.toList lo hi:=by
  rw[uA];unfold Yg;rw[hn];by_cases h:HT.sIx z.length 0 lo<=HT.sIx z.length z.length hi;·have:=StrLaws.picks z.cps.toList (HT.sIx z.length z.length hi-HT.sIx z.length 0 lo) (HT.sIx z.length 0 lo) (by rw[hn];omega);simpa using this
  ·have e4:HT.sIx z.length z.length hi-HT.sIx z.length 0 lo=0:=by omega
   simp[e4]
 unfold Txt.slice;split
 ·rename_i h;rw[Bool.and_eq_true]at h;have h2:(Builtin.Str.strSliceIndices lo hi 1 z.length).length=z.length:=by simpa using h.2
  rw[uA,List.length_map,List.length_range]at h2;have b1:HT.sIx z.length 0 lo=0\/z.length=0:=by omega
  have:Yg z.cps.toList lo hi=z.cps.toList:=by
   unfold Yg;rw[hn];rcases b1 with b1|b1
   ·have b2:HT.sIx z.length z.length hi=z.length:=by omega
    rw[b1,b2,List.drop_zero];exact List.take_of_length_le (by rw[hn];omega)
   ·have:z.cps.toList=[]:=List.eq_nil_of_length_eq_zero (by rw[hn];exact b1);rw[this];simp
  unfold Yh;rw[this]
 ·rw[pk];rfl
def Lg:V->Option Int->Option Int->Hp->VK->Prop:=λx lo hi H Q=>∃z,x=.str z/\z.length<=sizeLine/\Q (.str (Yh z lo hi)) H
def Gr:UQ X Lg:=by intro pins s σ H x v vl vu lo hi sl Q I rx hs pl pu h;obtain⟨z,rfl,hz,q⟩:=h;obtain⟨t,rfl⟩:=rx;refine⟨"str",_,F.slot_str_getitem.lookup,typeIs_str _ _ _,?_⟩;have fin:∀t' k,EP X pins σ Q (.str (Txt.slice z lo hi) t') {s with toks:=k}:=λt' k=>⟨.str (Yh z lo hi),H,I.tok _,⟨t',by rw[Yi]⟩,q⟩;have hsz:(Txt.slice z lo hi).length<=sizeLine:=Nat.le_trans (Txt.slice_le z _ _) hz;cases pl with
 |none=>cases pu with|none=>exact wpAny_getItem_str_slice (l:=none) (u:=none) (st:=none) hs rfl (post_val_or_str ⟨hsz,fin⟩)|int j tj=>exact wpAny_getItem_str_slice (l:=none) (u:=some (j,tj)) (st:=none) hs rfl (post_val_or_str ⟨hsz,fin⟩)
 |int i ti=>cases pu with|none=>exact wpAny_getItem_str_slice (l:=some (i,ti)) (u:=none) (st:=none) hs rfl (post_val_or_str ⟨hsz,fin⟩)|int j tj=>exact wpAny_getItem_str_slice (l:=some (i,ti)) (u:=some (j,tj)) (st:=none) hs rfl (post_val_or_str ⟨hsz,fin⟩)
def Ml(z:Str):It:=⟨λi _=>i<z.length,λi H x H'=>H'=H/\∃c,z.cps[i]?=some c/\x=.str ⟨#[c]⟩,λi _=>z.length<=i⟩
def Yj{P:Program}{w:World}{K:W.Frag}{tg:Expr}(z:Str)(t:Tok)(it:Addr)(ty:String)(hty:ty="str_ascii_iterator"\/ty="str_iterator"):aR P w K tg (Ml z) [it] it (λi h=>h.IsStrIter it ty z t i)where
 mem:=by simp
 obj:=λi h st b hb=>by
  have e:b=it:=by simpa using hb
  subst e;obtain⟨o,e,c,d⟩:=st;exact⟨o,e,λv z=>by rw[d]at z;cases z⟩
 keep:=λi h h' st k=>by obtain⟨o,e,r⟩:=st;exact⟨o,k it ↑D o e,r⟩
 item:=by
  intro X hP hw hK hc i pins s σ H E I hf st hg;subst hP hw hK;obtain⟨f0,f1,f2,f3,f4,f5⟩:=hf it ↑D;have hg:i<z.cps.size:=hg;have fin:∀h',h'.IsStrIter it ty z t (i+1)->Heap.SameBut it s.heap h'->∃u,(some (.str ⟨#[z.cps[i]]⟩ s.toks):Option Value)=some u/\wpAny ↑a X.A (letOwnedTupleGo tg (.ref it) u) (λ_ s2=>∃x H',zo X pins σ H' s2/\RelV x u/\(Ml z).yld i H x H'/\s2.heap.IsStrIter it ty z t (i+1)/\∀b∈[it],H' b=none) E {s with heap:=h',toks:=s.toks+1}:=by intro h' st' sb;have I1:zo X pins σ H {s with heap:=h',toks:=s.toks+1}:=I.turned (λb o hb e=>(sb.2 b hb).trans e) f0 f1 f3 f4 f5;obtain⟨o,e,c,d⟩:=id st';refine⟨_,rfl,oU (s:={s with heap:=h',toks:=s.toks+1}) e c d (by rcases hty with rfl|rfl<;>decide) ⟨.str ⟨#[z.cps[i]]⟩,H,I1,⟨_,rfl⟩,⟨rfl,z.cps[i],by simp[hg],rfl⟩,st',λb hb=>(hf b hb).1⟩⟩
  rcases hty with rfl|rfl;·exact wpAny_pyNext_ascii_item st (c:=z.cps[i]) (by simp[hg]) fin
  ·exact wpAny_pyNext_wide_item st (c:=z.cps[i]) (by simp[hg]) fin
 done:=by
  intro X hP hw hK hc i pins s σ H E I hf st hg;subst hP hw hK;obtain⟨f0,f1,f2,f3,f4,f5⟩:=hf it ↑D;have hg:z.cps.size<=i:=hg;rcases hty with rfl|rfl;·exact wpAny_pyNext_ascii_end (I.ok.hd hc) st (by simp[hg]) λh' eb=>⟨rfl,I.turned (t':=s.toks) (λb o hb e=>eb b o hb e) f0 f1 f3 f4 f5⟩
  ·exact wpAny_pyNext_wide_end (I.ok.hd hc) st (by simp[hg]) λh' eb=>⟨rfl,I.turned (t':=s.toks) (λb o hb e=>eb b o hb e) f0 f1 f3 f4 f5⟩
 self:=λ_ _ _ _ _ st h=>by
  rcases hty with rfl|rfl;·exact wpAny_pyIter_striter_ascii st h
  ·exact wpAny_pyIter_striter_wide st h
def N3(tl:TE):TI:=λσ H R=>tl σ H λx H1=>∃z,x=.str z/\R (Ml z) H1
def Gs{l:Expr}{tl:TE}(hl:PE X l tl):PI X tg l (N3 tl):=by
 intro pins s σ H R I h;refine ja (hl pins s σ H _ I h) λv s1⟨x,H1,I1,r1,q1⟩=>?_;obtain⟨z,e,q⟩:=q1;subst e;obtain⟨t,rfl⟩:=r1;have fin:∀ty,ty="str_ascii_iterator"\/ty="str_iterator"->MQ X pins σ tg R (.ref s1.heap.objs.size) {s1 with heap:=s1.heap.push {cls:=.type ty,data:=.fields #[.str z t,.int 0 0]}}:=by
  intro ty hty;refine⟨s1.heap.objs.size,[s1.heap.objs.size],_,_,H1,rfl,I1.kept (t':=s1.toks) λb o e=>Heap.get?_push_of_some _ e,Yj z t _ ty hty,⟨_,Heap.get?_push_size _ rfl,rfl,rfl⟩,λb hb=>?_,q⟩;have e:b=s1.heap.objs.size:=by simpa using hb
  subst e;exact I1.fpOk ↑h (I1.hok.fresh ↑h)
 cases ha:z.cps.all (·<128);·exact wpAny_pyIter_wide ha (fin _ (.inr rfl))
 ·exact wpAny_pyIter_ascii ha (fin _ (.inl rfl))
def zM(K:W.Frag)(mg:Str->Option Value)(x:Str)(st:Stmt):Prop:=∃f fd,eS K x x st f fd/\mg x=some (.ref f)
def Yk(hg:Gl X x)(h:∃t,X.mg x=some (.str z t))(hd:(x==↑t)=false:=by decide):PE X (.Name x pos) (tC (.str z)):=by obtain⟨t,h⟩:=h;exact gy hg h ⟨t,rfl⟩ hd
def Yl(hg:Gl X x)(h:∃t,X.mg x=some (.int z t))(hd:(x==↑t)=false:=by decide):PE X (.Name x pos) (tC (.int z)):=by obtain⟨t,h⟩:=h;exact gy hg h ⟨t,rfl⟩ hd
def jG:bootBuiltins "len"=some (.builtin "len"):=by decide+kernel
def zT:bootBuiltins "isinstance"=some (.builtin "isinstance"):=by decide+kernel
def iJ:bootBuiltins "sorted"=some (.builtin "sorted"):=by decide+kernel
def ql:bootBuiltins "all"=some (.builtin "all"):=by decide+kernel
def eU:bootBuiltins "bool"=some (.type "bool"):=by decide+kernel
def tM:bootBuiltins "int"=some (.type "int"):=by decide+kernel
def Ym:bootBuiltins "str"=some (.type "str"):=by decide+kernel
def eV:bootBuiltins "list"=some (.type "list"):=by decide+kernel
def xm:bootBuiltins "tuple"=some (.type "tuple"):=by decide+kernel
def eW:bootBuiltins "enumerate"=some (.type "enumerate"):=by decide+kernel
def zn(X:Cx)(scope:Scope)(cl:List (Str×Addr))(C:Addr)(N:List Str)(ex:List Addr)(pn:List ↑j)(s₀:Shared)(H₀:Hp):Cx:={X with env:=compEnvC scope cl C X.env,N:=N,s₀:=s₀,H₀:=H₀,outer:=X.stack,ex:=ex,fn:=λ_=>false,pn:=pn,xe:=λ_ _=>False}
structure m7(X:Cx)(scope:Scope)(cl:List (Str×Addr))(x:Str)(caps:List Str)(slots:List Nat):Prop where
 kind:scope.kind=.function
 nocell:∀y∈scope.names,y.2≠.cell
 names:∀y∈scope.names,y.2=.local->scope.names.lookup y.1=some .local
 hx:scope.names.lookup x=some .local
 clos:closureFor scope X.env=pure cl
 sub:∀y c,cl.lookup y=some c->X.env.cells.lookup y=some c
 has:∀y,((relabel scope X.env).names.lookup y=some .cell\/(relabel scope X.env).names.lookup y=some .free)->∃c,cl.lookup y=some c
 cap:∀(j:Nat)(y:Str),caps[j]?=some y->∃k:Nat,slots[j]?=some k/\X.N[k]?=some y/\(relabel scope X.env).names.lookup y=some .cell/\X.env.scope.names.lookup y=some .cell
 nd:(x::caps).Nodup
 len:slots.length=caps.length
def kb(σ:St)(slots:List Nat):St:=slots.map λk=>(σ[k]?).getD none
def rp(wi:TI)(tt:TT)(te:TE)(slots:List Nat):TE:=λσ H Q=>wi σ H λJ H1=>∀D,H1 D=none->∃W:Nat->Nat->List V->Hp->Prop,(∃m,W 0 m [] (zO H1 D (.lst [])))/\∀i m ys H,W i m ys H->H D=some (.lst ys)/\((J.stop i H/\Q (.ref D) H)\/(J.go i H/\∀v H',J.yld i H v H'->tt (some v::kb σ slots) H' λb H2=>if b=true then te (some v::kb σ slots) H2 λy H3=>H3 D=some (.lst ys)/\ys.length<sizeLine/\∃m',m'<m/\W (i+1) m' (ys++[y]) (zO H3 D (.lst (ys++[y])))else∃m',m'<m/\W (i+1) m' ys H2))
def ZT(X:Cx)(ifs:List Expr)(t:TT):Prop:=∀(pins:List ↑j)(s:Shared)(σ:St)(H:Hp)(Q:Bool->Hp->Prop),zo X pins σ H s->t σ H Q->wpAny ↑a X.A (forIn ifs true λc r=>if r=true then do let ok<-isTrue c X.env (eval c X.env);pure (ForInStep.yield ok)else pure (ForInStep.yield r)) (TP X pins σ Q) X.xe s
def N4:TT:=λ_ H Q=>Q true H
def Yn:ZT X [] N4:=λ_ _ _ H _ I h=>wpAny_tests_nil ⟨H,I,h⟩
def V7(h:PT X c t):ZT X [c] t:=λpins s σ H Q I hw=>wpAny_tests_one (h pins s σ H Q I hw)
def iK(I:zo X pins σ H s)(h:rp wi tt te slots σ H Q)(fin:∀D C H5 s6 m,s6.heap.Ns C m->qT X pins H5 C->(∀h',Heap.SameBut C s6.heap h'->zo X pins σ H5 {s6 with heap:=h'})->Q (.ref D) H5->compPost ↑a X.A X.xe use PQ (.ref D) C (.ok .next) s6)(hc:X.calm=true)(S:m7 X scope cl x caps slots)(hi:PI X (.Name x px) iter wi)(ht:∀C ex pn s₀ H₀,ZT ↑e ifs tt)(he:∀C ex pn s₀ H₀,PE ↑e elt te)(hs:∀v,foldedSetIterable iter X.env v=pure v:=by intro _;rfl)(hg:∀it v,letOwnedTupleGo (.Name x px) it v=pure ():=by intro _ _;rfl):wpAny ↑a X.A (comprehension ↑q scope X.env cpos (newList []) false (eval iter X.env) use) PQ X.xe s:=by
 refine wpAny_comprehension_free rfl hs S.clos S.kind S.names (ja (hi pins s σ H _ I h) λv s1 h1=>ja h1 λitv s2 h2=>?_);obtain⟨it,fp,tn,J,H1,e,I2,T,st2,f2,q⟩:=h2;subst e--the new list,at D;then the block's map,at C
 obtain⟨W,⟨m0,w0⟩,turn⟩:=q s2.heap.objs.size (I2.hok.fresh ↑h);refine wpAny_newObj_type ?_ (show(0:Nat)<=sizeLine from Nat.zero_le _);have I3:zo X pins σ (zO H1 s2.heap.objs.size (.lst [])) {s2 with heap:=s2.heap.push {cls:=.type "list",data:=.seq ([]:List Value).toArray}}:=I2.lnew .nil (Nat.zero_le _);have f3:∀b∈fp,qT X pins (zO H1 s2.heap.objs.size (.lst [])) b:=λb hb=>by obtain⟨f0,fr⟩:=f2 b hb;obtain⟨o,ho,_⟩:=T.obj _ _ st2 b hb;exact⟨by rw[zf (Nat.ne_of_lt (Heap.lt_size ho))];exact f0,fr⟩
 have st3:tn 0 (s2.heap.push {cls:=.type "list",data:=.seq ([]:List Value).toArray}):=T.keep _ _ _ st2 λb _ o e=>Heap.get?_push_of_some _ e;generalize hD:s2.heap.objs.size=D at I3 turn w0 f3⊢;generalize hs3:({s2 with heap:=s2.heap.push {cls:=.type "list",data:=.seq ([]:List Value).toArray}}:Shared)=s3 at I3⊢;have st3:tn 0 s3.heap:=by rw[<-hs3];exact st3
 generalize hH3:zO H1 D (.lst [])=H3 at I3 w0 f3;refine wpAny_newFunctionEnv S.nocell (by intro y hy;simp at hy) (λh4 hns4 hsb4=>?_) S.kind;generalize hC:s3.heap.objs.size=C at hns4 hsb4⊢;have neC:∀b o,s3.heap.get? b=some o->b≠C:=λb o e=>by rw[<-hC];exact Nat.ne_of_lt (Heap.lt_size e)
 have old:∀b o,s3.heap.get? b=some o->h4.get? b=some o:=λb o e=>hsb4.extBut b o (neC b o e) (Heap.get?_push_of_some _ e);have fpo:∀b∈fp,∃o,s3.heap.get? b=some o:=λb hb=>let⟨o,ho,_⟩:=T.obj _ _ st3 b hb;⟨o,ho⟩;have nst:∀b∈fp,b∉nH X.stack:=λb hb z=>(List.mem_cons.mp (I3.stkSub b z)).elim (f3 b hb).2.1 (f3 b hb).2.2.1;have lx:(relabel scope X.env).names.lookup x=some .local:=lookup_relabel_local S.hx;have ok:(zn X scope cl C (x::caps) fp (X.pn++pins) s3 H3).Ok:=
  {mod:=I3.ok.mod
   kind:=S.kind
   glob:=I3.ok.glob
   blt:=I3.ok.blt
   above:=by rw[<-hC];exact Nat.le_refl _
   inj:=λy z c h1 h2=>I3.ok.inj y z c (S.sub y c h1) (S.sub z c h2)
   has:=λy hy=>S.has y hy
   cab:=λy c h=>nomatch(show false=true from h)
   hd:=I3.ok.hd
   frames:=I3.ok.frames
   stk:=.inl rfl
   exf:=λb hb=>⟨let⟨o,ho⟩:=fpo b hb;neC b o ho,λy c e=>(f3 b hb).2.2.2.2.1 y c (S.sub y c e)⟩
   bs:=λb o e=>I3.bs b o e
   bsz:=Nat.le_trans I3.ok.bsz I3.sz
   noex:=λb o e hb=>by
    rcases(f3 b hb).2.2.2.1 with z|z;·exact I3.ok.noex b o e z
    ·exact absurd (Nat.lt_of_lt_of_le (Heap.lt_size (I3.ok.bs b o e).1) z) (Nat.lt_irrefl _)
   exfs:=nst
   funs:=I3.stack
   frf:=I3.stkFree
   tab:=I3.tab};have I4:∀tk,zo ↑G [] (none::kb σ slots) H3 {s3 with heap:=h4,toks:=tk}:=λtk=>by
  refine⟨ok,rfl,I3.bare,Un.kept old,⟨_,hns4,λi y v h1 h2 h3=>?_⟩,λy c e=>?_,by show H3 C=none;rw[<-hC];exact I3.hok.fresh ↑h,λy c e=>I3.freeC y c (S.sub y c e),λp hp=>?_,I3.hok.kept old,?_⟩;·cases i with|zero=>cases h2|succ i=>
    have h1:caps[i]?=some y:=h1;have h2:(kb σ slots)[i]?=some (some v):=h2;obtain⟨k,hk,hN,hr,hcl⟩:=S.cap i y h1;have h2:(slots.map λk=>(σ[k]?).getD none)[i]?=some (some v):=h2;rw[List.getElem?_map,hk]at h2;have h2:(σ[k]?).getD none=some v:=Option.some.inj h2;have h2:σ[k]?=some (some v):=by cases e:σ[k]? with|none=>rw[e]at h2;cases h2|some o=>rw[e]at h2;have:o=some v:=h2;rw[this]
    obtain⟨m,hn,hl⟩:=I3.loc;obtain⟨u,r,l⟩:=hl k y v hN h2 (.inr (.inl hcl));refine⟨u,r,.inr ⟨.inl hr,?_⟩⟩;rcases l with⟨z,_⟩|⟨_,c,e1,⟨o,ho,hd⟩⟩;·have z:X.env.scope.names.lookup y=some .local:=z;rw[hcl]at z;cases z
    ·obtain⟨c',e2⟩:=S.has y (.inl hr);have e3:=S.sub y c' e2;rw[e1]at e3;cases e3;exact⟨c,e2,o,old _ _ ho,hd⟩
  ·obtain⟨v,o,ho,hd⟩:=I3.cell y c (S.sub y c e);exact⟨v,o,old _ _ ho,hd⟩
  ·have hp:p∈(X.pn++pins)++[]:=hp;have hp:p∈X.pn++pins:=by simpa using hp
   obtain⟨e,n,ne,nf,d⟩:=I3.pin p hp;exact⟨old _ _ e,n,neC _ _ e,λz=>(List.mem_cons.mp (I3.stkSub _ z)).elim ne nf,d⟩
  ·show(none::kb σ slots).length=(x::caps).length;unfold kb;rw[List.length_cons,List.length_cons,List.length_map,S.len]
 have stat:∀{H':Hp},(∀b∈fp,H' b=none)->∀b∈fp,qT ↑G [] H' b:=λhn b hb=>⟨hn b hb,(ok.exf b hb).1,nst b hb,.inl hb,(ok.exf b hb).2,λp hp=>(f3 b hb).2.2.2.2.2 p (by have hp:p∈(X.pn++pins)++[]:=hp;simpa using hp)⟩;have loop:∀tk,codeAny ↑a X.A (.compLoop ↑q 0 (.ref it) (.ref D) (compEnvC scope cl C X.env)) (compPost ↑a X.A X.xe use PQ (.ref D) C) {s3 with heap:=h4,toks:=tk}:=by
  intro tk;refine codeAny_compLoop_tests (λn s'=>∃i ys o H',zo ↑G [] (o::kb σ slots) H' s'/\tn i s'.heap/\(∀b∈fp,H' b=none)/\W i n ys H') ?_ m0 ⟨0,[],none,H3,I4 tk,T.keep _ _ _ st3 λb _ o e=>old b o e,λb hb=>(f3 b hb).1,w0⟩ (hg _);rintro n s5⟨i,ys,o,H5,I5,st5,fr5,w5⟩;obtain⟨hDl,stop|⟨go,step⟩⟩:=turn i n ys H5 w5
  ·obtain⟨stop,qD⟩:=stop;refine wpAny_mono (T.done ↑G rfl rfl rfl hc i [] s5 _ H5 (λ_ _=>False) I5 (stat fr5) st5 stop) (λr s6 hr6=>?_) λ_ _ z=>z.elim;obtain⟨hr,I6⟩:=hr6;subst hr;obtain⟨m,hn,_⟩:=I6.loc;refine fin D C H5 s6 m hn (I3.fpOk (by rw[<-hC];exact Nat.le_refl _) I6.free) (λh' hsb=>?_) qD;have neC':∀c v,H5 c=some v->c≠C:=λc v e z=>by have:=I6.free;have:H5 C=none:=this;rw[z,this]at e;cases e
   refine I3.call' I6.os ?_ ?_ I6.bare λb hb=>⟨(f3 b hb).2.2.2.1,(f3 b hb).2.1,(f3 b hb).2.2.2.2.1,(f3 b hb).2.2.2.2.2⟩;·have u:=I6.base;exact⟨λb o e n hb hx=>hsb.extBut b o (neC b o e) (u.keep b o e n hb hx),λb o e n hb hx=>let⟨sl,q⟩:=u.slot b o e n hb hx;⟨sl,hsb.extBut b _ (neC b o e) q⟩,u.free,λb o e hx=>let⟨o',q⟩:=u.there b o e hx;⟨o',hsb.extBut b _ (neC b o e) q⟩,u.tups,u.frzs,u.tbls⟩
   ·exactλb u e=>(I6.hok b u e).stay (λc v hc q=>hsb.extBut c v (hc.elim (λz=>by rw[z];exact neC' b u e) λz=>neC' c _ z) q) (λ_ q=>q) λ_ _ q=>q
  ·refine wpAny_mono (T.item ↑G rfl rfl rfl hc i [] s5 _ H5 (λ_ _=>False) I5 (stat fr5) st5 go) (λr s6 hr6=>?_) λ_ _ z=>z.elim;obtain⟨u,hr,h6⟩:=hr6;subst hr;show wpAny ↑a X.A (assign (.Name x px) (compEnvC scope cl C X.env) u) _ _ s6;have e6:assign (.Name x px) (compEnvC scope cl C X.env) u=(letOwnedTupleGo (.Name x px) (.ref it) u>>=λ_=>assign (.Name x px) (compEnvC scope cl C X.env) u):=by rw[hg];rfl
   rw[e6];refine wpAny_bind (wpAny_mono h6 (λ_ s7 h7=>?_) λ_ _ z=>z.elim);obtain⟨v,H7,I7,r7,y7,st7,fr7⟩:=h7;have I7':=I7.pinned (stat fr7) (T.obj _ _ st7);have pg:PG ↑G (.Name x px) (vd 0):=qh S.nd rfl (.inl lx) (.inr lx);refine wpAny_mono (pg _ s7 _ H7 v u (λσ8 H8=>σ8=some v::kb σ slots/\H8=H7) I7' r7 ⟨rfl,rfl⟩) (λ_ s8 h8=>?_) λ_ _ z=>z.elim;obtain⟨σ8,H8,I8,e8,e9⟩:=h8;rw[e8,e9]at I8;refine wpAny_mono (ht C fp (X.pn++pins) s3 H3 _ s8 _ _ _ I8 (step v H7 y7)) (λb s9 h9=>?_) λ_ _ z=>z.elim;obtain⟨H9,I9,q9⟩:=h9;have again:∀{o':Option V}{H':Hp}{s':Shared}{zs:List V}{m':Nat},zo ↑G ([]++pY fp s7.heap) (o'::kb σ slots) H' s'->m'<n->W (i+1) m' zs H'->∃m,m<n/\∃i ys o H',zo ↑G [] (o::kb σ slots) H' s'/\tn i s'.heap/\(∀b∈fp,H' b=none)/\W i m ys H':=λ{o' H' s' zs m'}I' hm w'=>by refine⟨m',hm,i+1,zs,o',H',I'.unpinned,T.keep _ _ _ st7 λb hb o e=>(I'.pin (b,o) ↑N).1,λb hb=>?_,w'⟩;obtain⟨o,e,d⟩:=T.obj _ _ st7 b hb;exact(I'.pin (b,o) ↑N).2.1
   cases b with|false=>rw[if_neg Bool.false_ne_true]at q9⊢;obtain⟨m',hm,w'⟩:=q9;exact again I9 hm w'|true=>rw[if_pos rfl]at q9⊢;refine wpAny_mono (he C fp (X.pn++pins) s3 H3 _ s9 _ _ _ I9 q9) (λyv s10 h10=>?_) λ_ _ z=>z.elim;obtain⟨y,H10,I10,ry,hDy,hlt,m',hm,w'⟩:=h10;refine wpAny_mono (x9 (X:=zn X scope cl C (x::caps) fp (X.pn++pins) s3 H3) _ s10 _ H10 (.ref D) [y] (.ref D) [yv] (λ_ H'=>H'=zO H10 D (.lst (ys++[y]))) I10 rfl (.cons ry .nil) ⟨D,ys,y,rfl,rfl,hDy,hlt,rfl⟩) (λ_ s11 h11=>?_) λ_ _ z=>z.elim;obtain⟨_,H11,I11,_,e11⟩:=h11;subst e11;exact again I11 hm w'
 exact codeAny_compStart_list (loop _) (T.self X.A 0 _ _ _ (T.keep _ _ _ st3 λb _ o e=>old b o e) (loop _))
def V8(hc:X.calm=true)(S:m7 X scope cl x caps slots)(hi:PI X (.Name x px) iter wi)(ht:∀C ex pn s₀ H₀,ZT ↑e ifs tt)(he:∀C ex pn s₀ H₀,PE ↑e elt te)(hs:∀v,foldedSetIterable iter X.env v=pure v:=by intro _;rfl)(hg:∀it v,letOwnedTupleGo (.Name x px) it v=pure ():=by intro _ _;rfl):PE X ↑q (rp wi tt te slots):=by intro pins s σ H Q I h;rw[eval_ListComp];exact iK I h (λD C H5 s6 m hn f keep q=>⟨m,hn,λh' hsb=>⟨.ref D,H5,keep h' hsb,rfl,q⟩⟩) hc S hi ht he hs hg
end L2
namespace L3
open PySem PySem.Spec PyProof.Rows L2
abbrev Mp:=Heap->Prop
abbrev Mo:=Addr->Mp
inductive T where|non|bl(b:Bool)|int(i:Int)|str(x:Str)|ty(n:String)|tup(ts:List T)|lst(ts:List T)|dct(ks:List Key)(ts:List T)|obj(C:Addr)(fs:List Str)(ts:List T)|mem(m:Addr)(o:Mp)|lam|exn(C:Addr)(t:T)
def N5(K:W.Frag)(H:Hp)(a:Addr)(vs:List V):Prop:=(∃o,H a=some (.frz o (.lst vs)))\/∃(o:Obj)(its:Array Value)(n:Nat),K.lookup a=some o/\o.cls=.type "list"/\o.dict=none/\o.data=.seq its n/\its.size<=sizeLine/\zE vs its.toList
def ZU(K:W.Frag)(F:Addr->Prop)(H:Hp)(a:Addr)(vs:List V):Prop:=(F a/\H a=some (.lst vs))\/N5 K H a vs
def ZU.sq{K:W.Frag}{F:Addr->Prop}{H:Hp}{a:Addr}{vs:List V}(h:ZU K F H a vs):fo K H a vs:=by
 rcases h with⟨_,h⟩|h|h;·exact .inl (.inl h)
 ·exact .inl (.inr h)
 ·exact .inr h
mutual def Is(K:W.Frag)(F:Addr->Prop)(H:Hp):T->V->Prop|.non,v=>v=.non|.bl b,v=>v=.bl b|.int i,v=>v=.int i|.str x,v=>v=.str x|.ty n,v=>v=.ty n|.tup ts,v=>∃a vs,v=.ref a/\fX K H a vs/\IsAll K F H ts vs|.lst ts,v=>∃a vs,v=.ref a/\ZU K F H a vs/\IsAll K F H ts vs|.dct ks ts,v=>∃a kvs,v=.ref a/\F a/\Rd H a (.dK kvs)/\kvs.map (·.1)=ks/\IsAll K F H ts (kvs.map (·.2))|.obj C fs ts,v=>∃a dx fvs,v=.ref a/\F a/\H a=some (.ins C dx fvs)/\fvs.map (·.1)=fs/\IsAll K F H ts (fvs.map (·.2))|.mem m o,v=>v=.ref m/\H m=some (.ext o)|.lam,v=>∃a,v=.ref a/\H a=some (.own tabP)|.exn C t,v=>∃e d w,v=.ref e/\H e=some (.xob C d)/\H d=some (.xd [("at",w)])/\Is K F H t w def IsAll(K:W.Frag)(F:Addr->Prop)(H:Hp):List T->List V->Prop|[],vs=>vs=[]|t::ts,vs=>∃v r,vs=v::r/\Is K F H t v/\IsAll K F H ts r end
section
variable{K:W.Frag}{F F':Addr->Prop}{H H':Hp}
theorem m8(h:fX K H a vs)(s:∀b o,H b=some o->(∀xs,o≠.lst xs)->((∀xs,o≠.dK xs)/\∀C d xs,o≠.ins C d xs)->H' b=some o):fX K H' a vs:=by
 rcases h with(h|⟨o,h⟩)|h;·exact .inl (.inl (s _ _ h ↑Y ⟨↑Y,by intro _ _ xs z;cases z⟩))
 ·exact .inl (.inr ⟨o,s _ _ h ↑Y ⟨↑Y,by intro _ _ xs z;cases z⟩⟩)
 ·exact .inr h
structure kq(F F':Addr->Prop)(H H':Hp):Prop where
 sub:∀a,F a->F' a
 fz:∀a o,F a->H a=some o->H' a=some o
 rest:∀a o,H a=some o->(∀xs,o≠.lst xs)->((∀xs,o≠.dK xs)/\∀C d xs,o≠.ins C d xs)->H' a=some o
theorem ZU.mono(k:kq F F' H H')(h:ZU K F H a vs):ZU K F' H' a vs:=by
 rcases h with⟨f,h⟩|⟨o,h⟩|h;·exact .inl ⟨k.sub _ f,k.fz _ _ f h⟩
 ·exact .inr (.inl ⟨o,k.rest _ _ h ↑Y ⟨↑Y,by intro _ _ xs z;cases z⟩⟩)
 ·exact .inr (.inr h)
mutual theorem Is.mono(k:kq F F' H H'):∀{t:T}{v:V},Is K F H t v->Is K F' H' t v|.non,v,h=>by unfold Is at h⊢;exact h|.bl b,v,h=>by unfold Is at h⊢;exact h|.int i,v,h=>by unfold Is at h⊢;exact h|.str x,v,h=>by unfold Is at h⊢;exact h|.ty n,v,h=>by unfold Is at h⊢;exact h|.tup ts,v,h=>by unfold Is at h⊢;obtain⟨a,vs,e,h,r⟩:=h;exact⟨a,vs,e,m8 h k.rest,IsAll.mono k r⟩|.lst ts,v,h=>by unfold Is at h⊢;obtain⟨a,vs,e,h,r⟩:=h;exact⟨a,vs,e,h.mono k,IsAll.mono k r⟩|.dct ks ts,v,h=>by unfold Is at h⊢;obtain⟨a,kvs,e,f,h,d,r⟩:=h;exact⟨a,kvs,e,k.sub _ f,h.elim (λh=>.inl (k.fz _ _ f h)) λ⟨o,h⟩=>.inr ⟨o,k.fz _ _ f h⟩,d,IsAll.mono k r⟩|.obj C fs ts,v,h=>by unfold Is at h⊢;obtain⟨a,dx,kvs,e,f,h,d,r⟩:=h;exact⟨a,dx,kvs,e,k.sub _ f,k.fz _ _ f h,d,IsAll.mono k r⟩|.mem m o,v,h=>by unfold Is at h⊢;exact⟨h.1,k.rest _ _ h.2 ↑Y ⟨↑Y,by intro _ _ xs z;cases z⟩⟩|.lam,v,h=>by unfold Is at h⊢;exact h.imp λa h=>⟨h.1,k.rest _ _ h.2 ↑Y ⟨↑Y,by intro _ _ xs z;cases z⟩⟩|.exn C t,v,h=>by unfold Is at h⊢;obtain⟨e,d,w,ev,h1,h2,h3⟩:=h;exact⟨e,d,w,ev,k.rest _ _ h1 ↑Y ⟨↑Y,by intro _ _ xs z;cases z⟩,k.rest _ _ h2 ↑Y ⟨↑Y,by intro _ _ xs z;cases z⟩,Is.mono k h3⟩theorem IsAll.mono(k:kq F F' H H'):∀{ts:List T}{vs:List V},IsAll K F H ts vs->IsAll K F' H' ts vs|[],vs,h=>by unfold IsAll at h⊢;exact h|t::ts,vs,h=>by unfold IsAll at h⊢;obtain⟨v,r,e,h1,h2⟩:=h;exact⟨v,r,e,Is.mono k h1,IsAll.mono k h2⟩end
end
mutual def rq:T->Bool|.lst _=>false|.tup ts=>noLs ts|.dct _ ts=>noLs ts|.obj _ _ ts=>noLs ts|.exn _ t=>rq t|_=>true def noLs:List T->Bool|[]=>true|t::ts=>rq t&&noLs ts end
mutual def ZV:T->Bool|.dct _ _=>false|.tup ts=>noDs ts|.lst ts=>noDs ts|.obj _ _ ts=>noDs ts|.exn _ t=>ZV t|_=>true def noDs:List T->Bool|[]=>true|t::ts=>ZV t&&noDs ts end
mutual def ZW:T->Bool|.obj _ _ _=>false|.tup ts=>noOs ts|.lst ts=>noOs ts|.dct _ ts=>noOs ts|.exn _ t=>ZW t|_=>true def noOs:List T->Bool|[]=>true|t::ts=>ZW t&&noOs ts end
section
variable{K:W.Frag}{F F':Addr->Prop}{H:Hp}
structure eX(F F':Addr->Prop)(H:Hp)(l d o:Bool):Prop where
 lst:∀a xs,F a->H a=some (.lst xs)->l=false->F' a
 dct:∀a xs,F a->H a=some (.dK xs)->d=false->F' a
 ins:∀a C dx xs,F a->H a=some (.ins C dx xs)->o=false->F' a
 frz:∀a ob u,F a->H a=some (.frz ob u)->F' a
mutual theorem Is.clean(c:eX F F' H l d o):∀{t:T}{v:V},(l=true->rq t=true)->(d=true->ZV t=true)->(o=true->ZW t=true)->Is K F H t v->Is K F' H t v
 |.non,v,_,_,_,h=>by unfold Is at h⊢;exact h|.bl b,v,_,_,_,h=>by unfold Is at h⊢;exact h|.int i,v,_,_,_,h=>by unfold Is at h⊢;exact h|.str x,v,_,_,_,h=>by unfold Is at h⊢;exact h|.ty n,v,_,_,_,h=>by unfold Is at h⊢;exact h|.mem m o,v,_,_,_,h=>by unfold Is at h⊢;exact h|.lam,v,_,_,_,h=>by unfold Is at h⊢;exact h|.exn C t,v,hl,hd,ho,h=>by unfold Is at h⊢;obtain⟨e,d,w,ev,h1,h2,h3⟩:=h;exact⟨e,d,w,ev,h1,h2,Is.clean c (λz=>by simpa[rq]using hl z) (λz=>by simpa[ZV]using hd z) (λz=>by simpa[ZW]using ho z) h3⟩|.tup ts,v,hl,hd,ho,h=>by unfold Is at h⊢;obtain⟨a,vs,e,h,r⟩:=h;exact⟨a,vs,e,h,IsAll.clean c (λz=>by simpa[rq]using hl z) (λz=>by simpa[ZV]using hd z) (λz=>by simpa[ZW]using ho z) r⟩|.lst ts,v,hl,hd,ho,h=>by
  unfold Is at h⊢;obtain⟨a,vs,e,h,r⟩:=h;have hl0:l=false:=by cases l with|false=>rfl|true=>simp[rq]at hl
  refine⟨a,vs,e,?_,IsAll.clean c (λz=>by rw[hl0]at z;cases z) (λz=>by simpa[ZV]using hd z) (λz=>by simpa[ZW]using ho z) r⟩;rcases h with⟨f,h⟩|h;·exact .inl ⟨c.lst a vs f h hl0,h⟩
  ·exact .inr h|.dct ks ts,v,hl,hd,ho,h=>by
  unfold Is at h⊢;obtain⟨a,kvs,e,f,h,q,r⟩:=h;have hd0:d=false:=by cases d with|false=>rfl|true=>simp[ZV]at hd
  exact⟨a,kvs,e,h.elim (λh=>c.dct a kvs f h hd0) (λ⟨_,h⟩=>c.frz a _ _ f h),h,q,IsAll.clean c (λz=>by simpa[rq]using hl z) (λz=>by rw[hd0]at z;cases z) (λz=>by simpa[ZW]using ho z) r⟩|.obj C fs ts,v,hl,hd,ho,h=>by
  unfold Is at h⊢;obtain⟨a,dx,kvs,e,f,h,q,r⟩:=h;have ho0:o=false:=by cases o with|false=>rfl|true=>simp[ZW]at ho
  exact⟨a,dx,kvs,e,c.ins a _ _ _ f h ho0,h,q,IsAll.clean c (λz=>by simpa[rq]using hl z) (λz=>by simpa[ZV]using hd z) (λz=>by rw[ho0]at z;cases z) r⟩theorem IsAll.clean(c:eX F F' H l d o):∀{ts:List T}{vs:List V},(l=true->noLs ts=true)->(d=true->noDs ts=true)->(o=true->noOs ts=true)->IsAll K F H ts vs->IsAll K F' H ts vs
 |[],vs,_,_,_,h=>by unfold IsAll at h⊢;exact h|t::ts,vs,hl,hd,ho,h=>by
  unfold IsAll at h⊢;obtain⟨v,r,e,h1,h2⟩:=h;have hl':l=true->rq t=true/\noLs ts=true:=λz=>by simpa[noLs]using hl z
  have hd':d=true->ZV t=true/\noDs ts=true:=λz=>by simpa[noDs]using hd z
  have ho':o=true->ZW t=true/\noOs ts=true:=λz=>by simpa[noOs]using ho z
  exact⟨v,r,e,Is.clean c (λz=>(hl' z).1) (λz=>(hd' z).1) (λz=>(ho' z).1) h1,IsAll.clean c (λz=>(hl' z).2) (λz=>(hd' z).2) (λz=>(ho' z).2) h2⟩end
end
section
variable{K:W.Frag}{F:Addr->Prop}{H:Hp}
theorem IsAll.len:∀{ts:List T}{vs:List V},IsAll K F H ts vs->ts.length=vs.length|[],vs,h=>by unfold IsAll at h;rw[h];rfl|t::ts,vs,h=>by unfold IsAll at h;obtain⟨v,r,e,h1,h2⟩:=h;rw[e,List.length_cons,List.length_cons,IsAll.len h2]
theorem IsAll.get:∀{ts:List T}{vs:List V}{i:Nat}{t:T},IsAll K F H ts vs->ts[i]?=some t->∃v,vs[i]?=some v/\Is K F H t v|[],vs,i,t,h,e=>by simp at e|u::ts,vs,i,t,h,e=>by unfold IsAll at h;obtain⟨v,r,e',h1,h2⟩:=h;subst e';cases i with|zero=>simp at e;subst e;exact⟨v,by simp,h1⟩|succ i=>obtain⟨w,hw,q⟩:=IsAll.get h2 (by simpa using e);exact⟨w,by simpa using hw,q⟩
theorem IsAll.nil:IsAll K F H [] []:=by unfold IsAll;rfl
theorem IsAll.cons(h:Is K F H t v)(r:IsAll K F H ts vs):IsAll K F H (t::ts) (v::vs):=by unfold IsAll;exact⟨v,vs,rfl,h,r⟩
theorem IsAll.append:∀{ts us:List T}{vs ws:List V},IsAll K F H ts vs->IsAll K F H us ws->IsAll K F H (ts++us) (vs++ws)|[],us,vs,ws,h,g=>by unfold IsAll at h;subst h;exact g|t::ts,us,vs,ws,h,g=>by unfold IsAll at h;obtain⟨v,r,e,h1,h2⟩:=h;subst e;exact IsAll.cons h1 (IsAll.append h2 g)
theorem IsAll.take:∀{ts:List T}{vs:List V}(n:Nat),IsAll K F H ts vs->IsAll K F H (ts.take n) (vs.take n)|ts,vs,0,h=>by simpa using IsAll.nil|[],vs,n+1,h=>by unfold IsAll at h;subst h;simpa using IsAll.nil|t::ts,vs,n+1,h=>by unfold IsAll at h;obtain⟨v,r,e,h1,h2⟩:=h;subst e;exact IsAll.cons h1 (IsAll.take n h2)
theorem IsAll.drop:∀{ts:List T}{vs:List V}(n:Nat),IsAll K F H ts vs->IsAll K F H (ts.drop n) (vs.drop n)|ts,vs,0,h=>by simpa using h|[],vs,n+1,h=>by unfold IsAll at h;subst h;simpa using IsAll.nil|t::ts,vs,n+1,h=>by unfold IsAll at h;obtain⟨v,r,e,h1,h2⟩:=h;subst e;exact IsAll.drop n h2
theorem IsAll.set:∀{ts:List T}{vs:List V}{t:T}{v:V}(n:Nat),IsAll K F H ts vs->Is K F H t v->IsAll K F H (ts.set n t) (vs.set n v)|[],vs,_,_,n,h,_=>by unfold IsAll at h;subst h;simpa using IsAll.nil|t::ts,vs,_,_,0,h,g=>by unfold IsAll at h;obtain⟨v,r,e,h1,h2⟩:=h;subst e;exact IsAll.cons g h2|t::ts,vs,_,_,n+1,h,g=>by unfold IsAll at h;obtain⟨v,r,e,h1,h2⟩:=h;subst e;exact IsAll.cons h1 (IsAll.set n h2 g)
end
abbrev St:=L2.St
structure Ex where
 C:Addr
 at_:T
inductive kN(α:Type)where|ok(a:α)|exc(x:Ex)|bad
def kN.bind{α β:Type}(r:kN α)(f:α->kN β):kN β:=match r with|.ok a=>f a|.exc x=>.exc x|.bad=>.bad
@[simp]theorem bind_ok{α β:Type}(a:α)(f:α->kN β):(kN.ok a).bind f=f a:=rfl
@[simp]theorem bind_exc{α β:Type}(x:Ex)(f:α->kN β):(kN.exc x:kN α).bind f=.exc x:=rfl
@[simp]theorem bind_bad{α β:Type}(f:α->kN β):(kN.bad:kN α).bind f=.bad:=rfl
def aL{α:Type}:Option α->kN α|some a=>.ok a|none=>.bad
@[simp]theorem ofO_some{α:Type}(a:α):aL (some a)=.ok a:=rfl
@[simp]theorem ofO_none{α:Type}:aL (none:Option α)=.bad:=rfl
abbrev RV:=Bool×T
abbrev En:=List (Option RV)
abbrev ME:=En->kN RV
abbrev MT:=En->kN Bool
abbrev MA:=En->kN (List RV)
structure jA(F:Addr->Prop)(H:Hp)(F':Addr->Prop)(H':Hp):Prop where
 same:∀a o,H a=some o->H' a=some o
 sub:∀a,F a->F' a
 new:∀a,F' a->F a\/H a=none
 dom:∀a,F' a->H' a≠none
def lJ(F:Addr->Prop)(H:Hp):Prop:=∀a,F a->H a≠none
section
variable{F F1 F2:Addr->Prop}{H H1 H2:Hp}
theorem jA.refl(d:lJ F H):jA F H F H:=⟨λ_ _ h=>h,λ_ h=>h,λ_ h=>.inl h,d⟩
theorem j8(e:∀a o,H a=some o->H1 a=some o)(h:H1 a=none):H a=none:=by cases q:H a with|none=>rfl|some o=>rw[e a o q]at h;cases h
theorem jA.trans(e:jA F H F1 H1)(f:jA F1 H1 F2 H2):jA F H F2 H2:=⟨λa o h=>f.same a o (e.same a o h),λa h=>f.sub a (e.sub a h),λa h=>by
  rcases f.new a h with h|h;·exact e.new a h
  ·exact .inr (j8 e.same h),f.dom⟩
theorem jA.kept(e:jA F H F1 H1):kq F F1 H H1:=⟨e.sub,λa o _ h=>e.same a o h,λa o h _ _=>e.same a o h⟩
theorem jA.alloc(d:lJ F H)(hp:H p=none):jA F H F (zO H p o):=⟨λa u h=>by rw[zf (zK h hp)];exact h,λ_ h=>h,λ_ h=>.inl h,λa h=>by
  have:=d a h;by_cases e:a=p;·subst e;exact absurd hp this
  ·rw[zf e];exact this⟩
theorem jA.freeze(e:jA F H F1 H1)(hf:H a=none)(h1:H1 a≠none):jA F H (λb=>F1 b\/b=a) H1:=⟨e.same,λb h=>.inl (e.sub b h),λb h=>by
  rcases h with h|rfl;·exact e.new b h
  ·exact .inr hf,λb h=>by
  rcases h with h|rfl;·exact e.dom b h
  ·exact h1⟩
end
def wX(K:W.Frag)(F:Addr->Prop)(H:Hp)(a:Addr):T->Prop|.lst ts=>∃vs,H a=some (.lst vs)/\IsAll K F H ts vs|.dct ks ts=>∃kvs,H a=some (.dK kvs)/\kvs.map (·.1)=ks/\IsAll K F H ts (kvs.map (·.2))|.obj C fs ts=>∃dx fvs,H a=some (.ins C dx fvs)/\fvs.map (·.1)=fs/\IsAll K F H ts (fvs.map (·.2))|_=>False
def wz(K:W.Frag)(fr:Addr->Prop)(F:Addr->Prop)(H:Hp)(v:V)(r:RV):Prop:=if r.1=true then∃a,v=.ref a/\¬F a/\fr a/\wX K F H a r.2 else Is K F H r.2 v
def wX.mono{K:W.Frag}{F F':Addr->Prop}{H H':Hp}{a:Addr}{t:T}(k:kq F F' H H')(s:∀o,H a=some o->H' a=some o)(h:wX K F H a t):wX K F' H' a t:=by cases t with|lst ts=>obtain⟨vs,e,r⟩:=h;exact⟨vs,s _ e,r.mono k⟩|dct ks ts=>obtain⟨vs,e,d,r⟩:=h;exact⟨vs,s _ e,d,r.mono k⟩|obj C fs ts=>obtain⟨dx,vs,e,d,r⟩:=h;exact⟨dx,vs,s _ e,d,r.mono k⟩|_=>exact h.elim
def wX.there{K:W.Frag}{F:Addr->Prop}{H:Hp}{a:Addr}{t:T}(h:wX K F H a t):H a≠none:=by cases t with|lst ts=>obtain⟨vs,e,r⟩:=h;rw[e];intro z;cases z|dct ks ts=>obtain⟨vs,e,r⟩:=h;rw[e];intro z;cases z|obj C fs ts=>obtain⟨dx,vs,e,r⟩:=h;rw[e];intro z;cases z|_=>exact h.elim
def wX.is{K:W.Frag}{F F':Addr->Prop}{H:Hp}{a:Addr}{t:T}(h:wX K F H a t)(s:∀b,F b->F' b)(ha:F' a):Is K F' H t (.ref a):=by have k:kq F F' H H:=⟨s,λ_ _ _ h=>h,λ_ _ h _ _=>h⟩;cases t with|lst ts=>obtain⟨vs,e,r⟩:=h;unfold Is;exact⟨a,vs,rfl,.inl ⟨ha,e⟩,r.mono k⟩|dct ks ts=>obtain⟨vs,e,d,r⟩:=h;unfold Is;exact⟨a,vs,rfl,ha,.inl e,d,r.mono k⟩|obj C fs ts=>obtain⟨dx,vs,e,d,r⟩:=h;unfold Is;exact⟨a,dx,vs,rfl,ha,e,d,r.mono k⟩|_=>exact h.elim
def wz.is{K:W.Frag}{fr F:Addr->Prop}{H:Hp}{v:V}{t:T}(h:wz K fr F H v ↑V):Is K F H t v:=by simpa[wz]using h
def jc{K:W.Frag}{fr F:Addr->Prop}{H:Hp}{v:V}{t:T}(h:Is K F H t v):wz K fr F H v ↑V:=by simpa[wz]using h
def wz.frz{K:W.Frag}{F F1:Addr->Prop}{H H1:Hp}{v:V}{r:RV}(e:jA F H F1 H1)(h:wz K ↑W F1 H1 v r):∃F2,jA F H F2 H1/\(∀a,F1 a->F2 a)/\Is K F2 H1 r.2 v:=by obtain⟨o,t⟩:=r;cases o with|false=>exact⟨F1,e,λ_ h=>h,h.is⟩|true=>
  have h:∃a,v=.ref a/\¬F1 a/\H a=none/\wX K F1 H1 a t:=by simpa[wz]using h
  obtain⟨a,rfl,nf,fr,o⟩:=h;exact⟨_,e.freeze fr o.there,λb h=>.inl h,o.is (λb h=>.inl h) (.inr rfl)⟩
def Yo(K:W.Frag)(F:Addr->Prop)(H:Hp)(ev:Value)(x:Ex):Prop:=∃e,ev=.ref e/\Is K F H (.exn x.C x.at_) (.ref e)
structure w4(K:W.Frag)(F:Addr->Prop)(H:Hp)(σ:St)(env:En):Prop where
 dom:lJ F H
 vals:∀(i:Nat)(r:RV),env[i]?=some (some r)->∃v,σ[i]?=some (some v)/\Is K F H r.2 v
def w4.mono{K:W.Frag}{F F':Addr->Prop}{H H':Hp}{σ:St}{env:En}(r:w4 K F H σ env)(e:jA F H F' H'):w4 K F' H' σ env:=⟨e.dom,λi t h=>let⟨v,h1,h2⟩:=r.vals i t h;⟨v,h1,h2.mono e.kept⟩⟩
def ZX(X:Cx)(F:Addr->Prop)(H:Hp)(σ:St)(x:Ex):Prop:=∀ev F' H',jA F H F' H'->Yo X.K F' H' ev x->∀pins s',nh X ev pins σ H' s'->X.xe ev s'
def ZX.mono(h:ZX X F H σ x)(e:jA F H F1 H1):ZX X F1 H1 σ x:=λev F' H' e' i pins s' I=>h ev F' H' (e.trans e') i pins s' I
def xG(X:Cx)(t:TE)(m:ME):Prop:=∀(F:Addr->Prop)(H:Hp)(σ:St)(env:En)(Q:VK),w4 X.K F H σ env->m env≠.bad->(∀r,m env=.ok r->∀v F' H',jA F H F' H'->wz X.K ↑W F' H' v r->Q v H')->(∀x,m env=.exc x->ZX X F H σ x)->t σ H Q
def kO(X:Cx)(t:TT)(m:MT):Prop:=∀(F:Addr->Prop)(H:Hp)(σ:St)(env:En)(Q:Bool->Hp->Prop),w4 X.K F H σ env->m env≠.bad->(∀b,m env=.ok b->∀F' H',jA F H F' H'->Q b H')->(∀x,m env=.exc x->ZX X F H σ x)->t σ H Q
def iM(X:Cx)(t:TE)(m:ME):Prop:=∀(F:Addr->Prop)(H:Hp)(σ:St)(env:En)(Q:VK),w4 X.K F H σ env->m env≠.bad->(∀r,m env=.ok r->∀v F' H',jA F H F' H'->wz X.K ↑W F' H' v r->Q v H')->(∀x,m env=.exc x->False)->t σ H Q
def rA(X:Cx)(t:TT)(m:MT):Prop:=∀(F:Addr->Prop)(H:Hp)(σ:St)(env:En)(Q:Bool->Hp->Prop),w4 X.K F H σ env->m env≠.bad->(∀b,m env=.ok b->∀F' H',jA F H F' H'->Q b H')->(∀x,m env=.exc x->False)->t σ H Q
def xG.val(h:xG X t m)(R:w4 X.K F H σ env)(nb:m env≠.bad)(ok:∀r,m env=.ok r->∀v F' H',jA F H F' H'->Is X.K F' H' r.2 v->Q v H')(ex:∀x,m env=.exc x->ZX X F H σ x):t σ H Q:=h F H σ env Q R nb (λr e v F' H' x i=>let⟨F2,e2,_,i2⟩:=i.frz x;ok r e v F2 H' e2 i2) ex
def iM.val(h:iM X t m)(R:w4 X.K F H σ env)(nb:m env≠.bad)(ok:∀r,m env=.ok r->∀v F' H',jA F H F' H'->Is X.K F' H' r.2 v->Q v H')(ex:∀x,m env=.exc x->False):t σ H Q:=h F H σ env Q R nb (λr e v F' H' x i=>let⟨F2,e2,_,i2⟩:=i.frz x;ok r e v F2 H' e2 i2) ex
def j9(X:Cx)(e:Expr)(m:ME):Prop:=∃t,PE X e t/\xG X t m
def cQ(X:Cx)(e:Expr)(m:MT):Prop:=∃t,PT X e t/\kO X t m
def mC(t:T):ME:=λ_=>.ok ↑V
def mV(i:Nat):ME:=λenv=>match env[i]? with|some (some r)=>.ok (false,r.2)|_=>.bad
section
variable{X:Cx}{e a b c:Expr}{pos:Pos}{ma mb mc:ME}{ta tb tc:TE}
theorem m9(h:∀F H,Is X.K F H t v):xG X (tC v) (mC t):=by intro F H σ env Q R nb ok ex;exact ok _ rfl v F H (.refl R.dom) (jc (h F H))
theorem zd{i j}:j9 X (.Constant (.int i) j pos) (mC (.int i)):=⟨_,JK,m9 λ_ _=>by unfold Is;rfl⟩
theorem gK{i j}:j9 X (.Constant (.bool i) j pos) (mC (.bl i)):=⟨_,Ut,m9 λ_ _=>by unfold Is;rfl⟩
theorem vh{j}:j9 X (.Constant .none j pos) (mC .non):=⟨_,QG,m9 λ_ _=>by unfold Is;rfl⟩
theorem zC{i j}:j9 X (.Constant (.str i) j pos) (mC (.str i)):=⟨_,JL,m9 λ_ _=>by unfold Is;rfl⟩
theorem V9(i:Nat):xG X (xJ i) (mV i):=by intro F H σ env Q R nb ok ex;unfold mV at nb ok;cases h:env[i]? with|none=>rw[h]at nb;exact absurd rfl nb|some o=>cases o with|none=>rw[h]at nb;exact absurd rfl nb|some r=>rw[h]at ok;obtain⟨v,e,q⟩:=R.vals i r h;exact⟨v,e,ok _ rfl v F H (.refl R.dom) (jc q)⟩
theorem qv(i:Nat)(hN:X.N[i]?=some x:=by rfl)(hv:aK X.env.scope x:=by first|exact Or.inl rfl|exact Or.inr (Or.inl rfl)|exact Or.inr (Or.inr rfl))(hd:(x==↑t)=false:=by decide)(hcd:(x==("__classdict__":Str))=false:=by decide):j9 X (.Name x pos) (mV i):=⟨_,k9 hN hv hd hcd,V9 i⟩
def N6(K:W.Frag)(r:R2)(f:T->T->Option RV):Prop:=∀(F:Addr->Prop)(H:Hp)(x y:V)(tx ty:T)(Q:VK)(rv:RV),lJ F H->Is K F H tx x->Is K F H ty y->f tx ty=some rv->(∀v F' H',jA F H F' H'->wz K ↑W F' H' v rv->Q v H')->r x y H Q
def m2(f:T->T->Option RV)(ma mb:ME):ME:=λenv=>(ma env).bind λx=>(mb env).bind λy=>aL (f x.2 y.2)
theorem eY(hr:N6 X.K r f)(ha:xG X ta ma)(hb:xG X tb mb):xG X (UH r ta tb) (m2 f ma mb):=by intro F H σ env Q R nb ok ex;unfold m2 at nb ok ex;refine ha.val R ↑b (λr1 e1 v1 F1 H1 x1 i1=>?_) λx z=>ex x ↑v;rw[e1]at nb ok ex;refine hb.val (R.mono x1) (λz=>by rw[bind_ok,z]at nb;exact nb rfl) (λr2 e2 v2 F2 H2 x2 i2=>?_) λx z=>(ex x (by rw[bind_ok,z];rfl)).mono x1;rw[bind_ok,e2,bind_ok]at nb ok;cases h:f r1.2 r2.2 with|none=>rw[h]at nb;exact absurd rfl nb|some rv=>
  rw[h]at ok;refine hr F2 H2 v1 v2 _ _ Q rv x2.dom (i1.mono x2.kept) i2 h λv F' H' x i=>ok rv rfl v F' H' ((x1.trans x2).trans x) ?_;unfold wz at i⊢;split;·rename_i ho;rw[if_pos ho]at i;obtain⟨a,e,nf,fr,o⟩:=i;exact⟨a,e,nf,j8 (x1.trans x2).same fr,o⟩
  ·rename_i ho;rw[if_neg ho]at i;exact i
theorem Gu(ho:ve X (binaryOp op) r)(hr:N6 X.K r f)(ha:j9 X a ma)(hb:j9 X b mb):j9 X (.BinOp a op b pos) (m2 f ma mb):=by obtain⟨ta,pa,sa⟩:=ha;obtain⟨tb,pb,sb⟩:=hb;exact⟨_,UI ho pa pb,eY hr sa sb⟩
theorem Yp(ho:ve X (compareOp op) r)(hr:N6 X.K r f)(ha:j9 X a ma)(hb:j9 X b mb)(hm:behindInMarks op b=false):j9 X (.Compare a [op] [b] pos) (m2 f ma mb):=by obtain⟨ta,pa,sa⟩:=ha;obtain⟨tb,pb,sb⟩:=hb;exact⟨_,WL ho pa pb hm,eY hr sa sb⟩
def jX(m:ME):MT:=λenv=>(m env).bind λx=>match x.2 with|.bl b=>.ok b|_=>.bad
theorem cS(h:xG X t m):kO X (JS t) (jX m):=by intro F H σ env Q R nb ok ex;unfold jX at nb ok ex;refine h.val R ↑b (λr1 e1 v1 F1 H1 x1 i1=>?_) λx z=>ex x ↑v;rw[e1,bind_ok]at nb ok;obtain⟨o,t⟩:=r1;cases t with|bl k=>unfold Is at i1;exact⟨k,i1,ok k rfl F1 H1 x1⟩|_=>exact absurd rfl nb
theorem fu(ho:ve X (compareOp op) r)(hr:N6 X.K r f)(ha:j9 X a ma)(hb:j9 X b mb)(hm:behindInMarks op b=false):cQ X (.Compare a [op] [b] pos) (jX (m2 f ma mb)):=by obtain⟨ta,pa,sa⟩:=ha;obtain⟨tb,pb,sb⟩:=hb;exact⟨_,WM ho pa pb hm,cS (eY hr sa sb)⟩
end
def ZY(t u:T):Option Bool:=match t with
 |.non=>match u with|.non=>some true|.bl _=>some false|.int _=>some false|.str _=>some false|.tup _=>some false|.lst _=>some false|_=>none
 |.bl a=>match u with|.non=>some false|.bl b=>some (a==b)|.int b=>some ((if a then 1 else 0)==b)|.str _=>some false|.tup _=>some false|.lst _=>some false|_=>none
 |.int a=>match u with|.non=>some false|.bl b=>some (a==(if b then 1 else 0))|.int b=>some (a==b)|.str _=>some false|.tup _=>some false|.lst _=>some false|_=>none
 |.str a=>match u with|.non=>some false|.bl _=>some false|.int _=>some false|.str b=>some (a==b)|.tup _=>some false|.lst _=>some false|_=>none
 |.tup _=>match u with|.non=>some false|.bl _=>some false|.int _=>some false|.str _=>some false|.lst _=>some false|_=>none
 |.lst _=>match u with|.non=>some false|.bl _=>some false|.int _=>some false|.str _=>some false|.tup _=>some false|_=>none
 |_=>none
def JE(f:T->T->Option Bool):List T->List T->Option Bool|[],_=>some true|_::_,[]=>some true|t::ts,u::us=>match f t u with|none=>none|some a=>match JE f ts us with|none=>none|some b=>some (a&&b)
def ni:Nat->T->T->Option Bool|0,t,u=>ZY t u|n+1,t,u=>match t,u with|.tup ts,.tup us=>(JE (ni n) ts us).map λb=>b&&ts.length==us.length|.lst ts,.lst us=>if ts.length=us.length then JE (ni n) ts us else some false|t,u=>ZY t u
def mf:∀{ts us:List T}{b:Bool},JE f ts us=some b->∃e:Nat->Bool,(∀(j:Nat)(t u:T),ts[j]?=some t->us[j]?=some u->f t u=some (e j))/\(List.range (min ts.length us.length)).all e=b|[],us,b,h=>⟨λ_=>true,λj t u h1 _=>by simp at h1,by simp[JE]at h;simp[h]⟩|t::ts,[],b,h=>⟨λ_=>true,λj t u _ h1=>by simp at h1,by simp[JE]at h;simp[h]⟩|t::ts,u::us,b,h=>by rw[JE]at h;cases h1:f t u with|none=>rw[h1]at h;cases h|some a=>rw[h1]at h;cases h2:JE f ts us with|none=>rw[h2]at h;cases h|some c=>
    rw[h2]at h;simp only[Option.some.injEq]at h;obtain⟨e,he,hb⟩:=mf h2;refine⟨λj=>match j with|0=>a|j+1=>e j,λj t' u' g1 g2=>?_,?_⟩;·cases j with|zero=>simp at g1 g2;subst g1;subst g2;exact h1|succ j=>exact he j t' u' (by simpa using g1) (by simpa using g2)
    ·have:min (t::ts).length (u::us).length=min ts.length us.length+1:=by simp only[List.length_cons];omega
     rw[this,List.range_succ_eq_map,List.all_cons,List.all_map];show(a&&(List.range (min ts.length us.length)).all e)=b;rw[hb,h]
def cT:∀{t:T}{b:Bool},ZY t t=some b->b=true:=by intro t b h;cases t<;>simp[ZY]at h<;>simp_all
def mj(hf:∀t b,f t t=some b->b=true):∀{ts:List T}{b:Bool},JE f ts ts=some b->b=true|[],b,h=>by simp[JE]at h;exact h|t::ts,b,h=>by rw[JE]at h;cases h1:f t t with|none=>rw[h1]at h;cases h|some a=>rw[h1]at h;cases h2:JE f ts ts with|none=>rw[h2]at h;cases h|some c=>rw[h2]at h;have:=hf t a h1;have:=mj hf h2;simp_all
def mn:∀{n:Nat}{t:T}{b:Bool},ni n t t=some b->b=true|0,t,b,h=>cT h|n+1,t,b,h=>by cases t with|tup ts=>simp only[ni,Option.map_eq_some_iff]at h;obtain⟨c,h1,h2⟩:=h;have:=mj (λt b=>mn) h1;simp_all|lst ts=>simp only[ni,if_true]at h;exact mj (λt b=>mn) h|_=>exact cT (by simpa[ni]using h)
section
variable{X:Cx}{pins:List ↑j}{σ:St}{H:Hp}{s:Shared}{F:Addr->Prop}
def IP:Value->V|.bool b=>.bl b|.int i _=>.int i|.str x _=>.str x|.bytes b _=>.byt b|.float b _=>.flt b|.ref a=>.ref a|.type n=>.ty n|_=>.non
theorem rB(h:L2.RelV v u):IP u=v:=by cases v<;>first|(obtain⟨_,rfl⟩:=h;rfl)|(cases h;rfl)
theorem cU(h:L2.RelV v u)(h':L2.RelV v' u):v=v':=(rB h).symm.trans (rB h')
theorem mq:∀{vs vs':List V}{us:List Value},zE vs us->zE vs' us->vs=vs'|_,_,_,.nil,.nil=>rfl|_,_,_,.cons r t,.cons r' t'=>by rw[cU r r',mq t t']
theorem Va(I:zo X pins σ H s)(h:fX X.K H a vs)(h':fX X.K H a vs'):vs=vs':=by
 obtain⟨its,r,pl,hz⟩:=I.tuple h;obtain⟨its',r',pl',hz'⟩:=I.tuple h';obtain⟨o,e,c,n,d⟩:=pl;obtain⟨o',e',c',n',d'⟩:=pl';rw[e]at e';cases e';rw[d]at d';have:its=its':=by injection d' with d' _;simpa using d'
 subst this;exact mq r r'
theorem Vb(I:zo X pins σ H s)(h:fo X.K H a vs)(h':fo X.K H a vs'):vs=vs':=by
 obtain⟨its,r,pl,hz⟩:=I.list h;obtain⟨its',r',pl',hz'⟩:=I.list h';obtain⟨o,e,c,n,d⟩:=pl.isList;obtain⟨o',e',c',n',d'⟩:=pl'.isList;rw[e]at e';cases e';rw[d]at d';have:its=its':=by injection d' with d' _;simpa using d'
 subst this;exact mq r r'
theorem cV(I:zo X pins σ H s)(h:fo X.K H a vs)(h':fX X.K H a vs'):False:=by obtain⟨its,r,pl,hz⟩:=I.list h;obtain⟨its',r',pl',hz'⟩:=I.tuple h';exact SeqAt.ne_of_list_tuple pl.isList pl' rfl
theorem vm(r:zE xs its)(h:j<its.toArray.size):∃x,xs[j]?=some x/\L2.RelV x its.toArray[j]:=by
 have hl:=r.length;have h':j<its.length:=by simpa using h
 have hx:j<xs.length:=by omega
 obtain⟨u,hu,q⟩:=r.get (i:=j) (x:=xs[j]) (by simp[hx]);refine⟨xs[j],by simp[hx],?_⟩;have:its[j]?=some its[j]:=by simp[h']
 rw[this]at hu;cases hu;simpa using q
theorem Yq(I:zo X pins σ H s)(hu:A.units<cLine)(h:ZY t u=some b)(it:Is X.K F H t x)(iu:Is X.K F H u y)(rx:L2.RelV x vx)(ry:L2.RelV y vy):SeqAt.RcAt A s vx vy b/\(SeqAt.EqAt A s vx vy b):=by
 cases t<;>try(simp only[ZY,reduceCtorEq]at h;done)
 all_goals(cases u<;>simp only[ZY,Option.some.injEq,reduceCtorEq]at h<;>unfold Is at it iu)
 case non.non=>subst it iu h;cases rx;cases ry;exact⟨SeqAt.RcAt.none_none,SeqAt.EqAt.same _⟩
 case non.bl=>subst it iu h;cases rx;cases ry;exact⟨SeqAt.RcAt.none_bool _,SeqAt.EqAt.none_bool _⟩
 case non.int=>subst it iu h;cases rx;obtain⟨t',rfl⟩:=ry;exact⟨SeqAt.RcAt.none_int _ _,SeqAt.EqAt.none_int _ _⟩
 case non.str=>subst it iu h;cases rx;obtain⟨t',rfl⟩:=ry;exact⟨SeqAt.RcAt.none_str _ _,SeqAt.EqAt.none_str _ _⟩
 case bl.non=>subst it iu h;cases rx;cases ry;exact⟨SeqAt.RcAt.bool_none _,SeqAt.EqAt.bool_none _⟩
 case bl.bl=>subst it iu h;cases rx;cases ry;exact⟨SeqAt.RcAt.bool_bool _ _,SeqAt.EqAt.bool_bool _ _⟩
 case bl.int=>subst it iu h;cases rx;obtain⟨t',rfl⟩:=ry;exact⟨SeqAt.RcAt.bool_int _ _ _,SeqAt.EqAt.bool_int _ _ _⟩
 case bl.str=>subst it iu h;cases rx;obtain⟨t',rfl⟩:=ry;exact⟨SeqAt.RcAt.bool_str _ _ _,SeqAt.EqAt.bool_str _ _ _⟩
 case int.non=>subst it iu h;obtain⟨t',rfl⟩:=rx;cases ry;exact⟨SeqAt.RcAt.int_none _ _,SeqAt.EqAt.int_none _ _⟩
 case int.bl=>subst it iu h;obtain⟨t',rfl⟩:=rx;cases ry;exact⟨SeqAt.RcAt.int_bool _ _ _,SeqAt.EqAt.int_bool _ _ _⟩
 case int.int=>subst it iu h;obtain⟨t',rfl⟩:=rx;obtain⟨t',rfl⟩:=ry;exact⟨SeqAt.RcAt.int_int _ _ _ _,SeqAt.EqAt.int_int _ _ _ _⟩
 case int.str=>subst it iu h;obtain⟨t',rfl⟩:=rx;obtain⟨t',rfl⟩:=ry;exact⟨SeqAt.RcAt.int_str _ _ _ _,SeqAt.EqAt.int_str _ _ _ _⟩
 case str.non=>subst it iu h;obtain⟨t',rfl⟩:=rx;cases ry;exact⟨SeqAt.RcAt.str_none _ _,SeqAt.EqAt.str_none _ _⟩
 case str.bl=>subst it iu h;obtain⟨t',rfl⟩:=rx;cases ry;exact⟨SeqAt.RcAt.str_bool _ _ _,SeqAt.EqAt.str_bool _ _ _⟩
 case str.int=>subst it iu h;obtain⟨t',rfl⟩:=rx;obtain⟨t',rfl⟩:=ry;exact⟨SeqAt.RcAt.str_int _ _ _ _,SeqAt.EqAt.str_int _ _ _ _⟩
 case str.str=>subst it iu h;obtain⟨t',rfl⟩:=rx;obtain⟨t',rfl⟩:=ry;exact⟨SeqAt.RcAt.str_str _ _ _ _,SeqAt.EqAt.str_str _ _ _ _⟩
 case tup.lst=>obtain⟨a,vs,rfl,h1,_⟩:=it;obtain⟨b,ws,rfl,h2,_⟩:=iu;subst h;cases rx;cases ry;obtain⟨_,_,p1,_⟩:=I.tuple h1;obtain⟨_,_,p2,_⟩:=I.list h2.sq;exact⟨SeqAt.RcAt.tuple_list p1 p2.isList hu,SeqAt.EqAt.tuple_list p1 p2.isList hu⟩
 case lst.tup=>obtain⟨a,vs,rfl,h1,_⟩:=it;obtain⟨b,ws,rfl,h2,_⟩:=iu;subst h;cases rx;cases ry;obtain⟨_,_,p1,_⟩:=I.list h1.sq;obtain⟨_,_,p2,_⟩:=I.tuple h2;exact⟨SeqAt.RcAt.list_tuple p1.isList p2 hu,SeqAt.EqAt.list_tuple p1.isList p2 hu⟩
 case tup.non=>obtain⟨a,vs,rfl,h1,_⟩:=it;subst iu h;cases rx;cases ry;obtain⟨_,_,p1,_⟩:=I.tuple h1;exact⟨SeqAt.RcAt.tuple_none p1 hu,SeqAt.EqAt.tuple_none p1 hu⟩
 case tup.bl=>obtain⟨a,vs,rfl,h1,_⟩:=it;subst iu h;cases rx;cases ry;obtain⟨_,_,p1,_⟩:=I.tuple h1;exact⟨SeqAt.RcAt.tuple_bool _ p1 hu,SeqAt.EqAt.tuple_bool _ p1 hu⟩
 case tup.int=>obtain⟨a,vs,rfl,h1,_⟩:=it;subst iu h;cases rx;obtain⟨t',rfl⟩:=ry;obtain⟨_,_,p1,_⟩:=I.tuple h1;exact⟨SeqAt.RcAt.tuple_int _ _ p1 hu,SeqAt.EqAt.tuple_int _ _ p1 hu⟩
 case tup.str=>obtain⟨a,vs,rfl,h1,_⟩:=it;subst iu h;cases rx;obtain⟨t',rfl⟩:=ry;obtain⟨_,_,p1,_⟩:=I.tuple h1;exact⟨SeqAt.RcAt.tuple_str _ _ p1 hu,SeqAt.EqAt.tuple_str _ _ p1 hu⟩
 case lst.non=>obtain⟨a,vs,rfl,h1,_⟩:=it;subst iu h;cases rx;cases ry;obtain⟨_,_,p1,_⟩:=I.list h1.sq;exact⟨SeqAt.RcAt.list_none p1.isList hu,SeqAt.EqAt.list_none p1.isList hu⟩
 case lst.bl=>obtain⟨a,vs,rfl,h1,_⟩:=it;subst iu h;cases rx;cases ry;obtain⟨_,_,p1,_⟩:=I.list h1.sq;exact⟨SeqAt.RcAt.list_bool _ p1.isList hu,SeqAt.EqAt.list_bool _ p1.isList hu⟩
 case lst.int=>obtain⟨a,vs,rfl,h1,_⟩:=it;subst iu h;cases rx;obtain⟨t',rfl⟩:=ry;obtain⟨_,_,p1,_⟩:=I.list h1.sq;exact⟨SeqAt.RcAt.list_int _ _ p1.isList hu,SeqAt.EqAt.list_int _ _ p1.isList hu⟩
 case lst.str=>obtain⟨a,vs,rfl,h1,_⟩:=it;subst iu h;cases rx;obtain⟨t',rfl⟩:=ry;obtain⟨_,_,p1,_⟩:=I.list h1.sq;exact⟨SeqAt.RcAt.list_str _ _ p1.isList hu,SeqAt.EqAt.list_str _ _ p1.isList hu⟩
 case non.tup=>obtain⟨a,vs,rfl,h1,_⟩:=iu;subst it h;cases rx;cases ry;obtain⟨_,_,p1,_⟩:=I.tuple h1;exact⟨SeqAt.RcAt.none_tuple p1 hu,SeqAt.EqAt.none_tuple p1 hu⟩
 case bl.tup=>obtain⟨a,vs,rfl,h1,_⟩:=iu;subst it h;cases rx;cases ry;obtain⟨_,_,p1,_⟩:=I.tuple h1;exact⟨SeqAt.RcAt.bool_tuple _ p1 hu,SeqAt.EqAt.bool_tuple _ p1 hu⟩
 case int.tup=>obtain⟨a,vs,rfl,h1,_⟩:=iu;subst it h;cases ry;obtain⟨t',rfl⟩:=rx;obtain⟨_,_,p1,_⟩:=I.tuple h1;exact⟨SeqAt.RcAt.int_tuple _ _ p1 hu,SeqAt.EqAt.int_tuple _ _ p1 hu⟩
 case str.tup=>obtain⟨a,vs,rfl,h1,_⟩:=iu;subst it h;cases ry;obtain⟨t',rfl⟩:=rx;obtain⟨_,_,p1,_⟩:=I.tuple h1;exact⟨SeqAt.RcAt.str_tuple _ _ p1 hu,SeqAt.EqAt.str_tuple _ _ p1 hu⟩
 case non.lst=>obtain⟨a,vs,rfl,h1,_⟩:=iu;subst it h;cases rx;cases ry;obtain⟨_,_,p1,_⟩:=I.list h1.sq;exact⟨SeqAt.RcAt.none_list p1.isList hu,SeqAt.EqAt.none_list p1.isList hu⟩
 case bl.lst=>obtain⟨a,vs,rfl,h1,_⟩:=iu;subst it h;cases rx;cases ry;obtain⟨_,_,p1,_⟩:=I.list h1.sq;exact⟨SeqAt.RcAt.bool_list _ p1.isList hu,SeqAt.EqAt.bool_list _ p1.isList hu⟩
 case int.lst=>obtain⟨a,vs,rfl,h1,_⟩:=iu;subst it h;cases ry;obtain⟨t',rfl⟩:=rx;obtain⟨_,_,p1,_⟩:=I.list h1.sq;exact⟨SeqAt.RcAt.int_list _ _ p1.isList hu,SeqAt.EqAt.int_list _ _ p1.isList hu⟩
 case str.lst=>obtain⟨a,vs,rfl,h1,_⟩:=iu;subst it h;cases ry;obtain⟨t',rfl⟩:=rx;obtain⟨_,_,p1,_⟩:=I.list h1.sq;exact⟨SeqAt.RcAt.str_list _ _ p1.isList hu,SeqAt.EqAt.str_list _ _ p1.isList hu⟩
def Mm:Option HO->Nat|some (.dK _)=>4|some (.frz _ (.dK _))=>4|some (.ins _ _ _)=>5|some (.ext _)=>6|some (.own _)=>7|some (.xob _ _)=>8|_=>0
def Gv(H:Hp):V->Nat|.ref a=>Mm (H a)|_=>9
def Vc:T->Nat|.tup _=>0|.lst _=>0|.dct _ _=>4|.obj _ _ _=>5|.mem _ _=>6|.lam=>7|.exn _ _=>8|_=>9
theorem zW(I:zo X pins σ H s)(h:Is X.K F H t v):Gv H v=Vc t:=by
 have kin:∀{a:Addr}{o:Obj},X.K.lookup a=some o->Gv H (.ref a)=0:=λh=>by show Mm _=_;rw[(I.bs _ _ (I.ok.mod.kin _ _ h)).2];rfl
 have at_:∀{a:Addr}{o:HO}{n:Nat},H a=some o->Mm (some o)=n->Gv H (.ref a)=n:=λh e=>by show Mm _=_;rw[h];exact e
 cases t<;>unfold Is at h;case tup ts=>
  obtain⟨a,vs,rfl,(h|⟨o,h⟩)|⟨o,its,n,h,_⟩,_⟩:=h;·exact at_ h rfl
  ·exact at_ h rfl
  ·exact kin h
 case lst ts=>
  obtain⟨a,vs,rfl,⟨_,h⟩|⟨o,h⟩|⟨o,its,n,h,_⟩,_⟩:=h;·exact at_ h rfl
  ·exact at_ h rfl
  ·exact kin h
 case dct ks ts=>obtain⟨a,kvs,rfl,_,h|⟨o,h⟩,_⟩:=h<;>exact at_ h rfl
 case obj C fs ts=>obtain⟨a,dx,kvs,rfl,_,h,_⟩:=h;exact at_ h rfl
 case mem m o=>obtain⟨rfl,h⟩:=h;exact at_ h rfl
 case lam=>obtain⟨a,rfl,h⟩:=h;exact at_ h rfl
 case exn=>obtain⟨a,_,_,rfl,h,_⟩:=h;exact at_ h rfl
 all_goals(rw[h];rfl)
theorem Gw(h:Rd H a (.dK x))(g:Rd H a (.dK y)):x=y:=by rcases h with h|⟨o,h⟩<;>rcases g with g|⟨o',g⟩<;>rw[h]at g<;>cases g<;>rfl
def Lh:T->V|.bl b=>.bl b|.int i=>.int i|.str x=>.str x|.ty n=>.ty n|_=>.non
theorem gW(e:Vc t=9)(h:Is X.K F H t v):v=Lh t:=by cases t<;>first|(unfold Is at h;exact h)|cases e
theorem mw(e:Vc t=9)(g:Vc u=9)(h:Lh t=Lh u):t=u:=by cases t<;>first|(cases e;done)|(cases u<;>first|(cases g;done)|(cases h;rfl)|(cases h;done))
mutual theorem Is.inj(I:zo X pins σ H s):∀{t u:T}{v:V},Is X.K F H t v->Is X.K F H u v->t=u
 |.tup ts,u,v,h,g=>by
  have hc:=(zW I h).symm.trans (zW I g);unfold Is at h;obtain⟨a,vs,rfl,h1,h2⟩:=h;cases u<;>first|(cases hc;done)|unfold Is at g
  case tup us=>obtain⟨b,ws,e,g1,g2⟩:=g;cases e;have:=Va I h1 g1;subst this;rw[IsAll.inj I h2 g2]
  case lst us=>obtain⟨b,ws,e,g1,g2⟩:=g;cases e;exact(cV I g1.sq h1).elim|.lst ts,u,v,h,g=>by
  have hc:=(zW I h).symm.trans (zW I g);unfold Is at h;obtain⟨a,vs,rfl,h1,h2⟩:=h;cases u<;>first|(cases hc;done)|unfold Is at g
  case tup us=>obtain⟨b,ws,e,g1,g2⟩:=g;cases e;exact(cV I h1.sq g1).elim
  case lst us=>obtain⟨b,ws,e,g1,g2⟩:=g;cases e;have:=Vb I h1.sq g1.sq;subst this;rw[IsAll.inj I h2 g2]|.dct ks ts,u,v,h,g=>by
  have hc:=(zW I h).symm.trans (zW I g);unfold Is at h;obtain⟨a,vs,rfl,_,h1,h2,h3⟩:=h;cases u<;>first|(cases hc;done)|unfold Is at g
  obtain⟨b,ws,e,_,g1,g2,g3⟩:=g;cases e;cases Gw h1 g1;rw[IsAll.inj I h3 g3,<-h2,<-g2]|.obj C fs ts,u,v,h,g=>by
  have hc:=(zW I h).symm.trans (zW I g);unfold Is at h;obtain⟨a,dx,vs,rfl,_,h1,h2,h3⟩:=h;cases u<;>first|(cases hc;done)|unfold Is at g
  obtain⟨b,dx',ws,e,_,g1,g2,g3⟩:=g;cases e;rw[h1]at g1;cases g1;rw[IsAll.inj I h3 g3,<-h2,<-g2]|.mem m o,u,v,h,g=>by
  have hc:=(zW I h).symm.trans (zW I g);unfold Is at h;obtain⟨rfl,h1⟩:=h;cases u<;>first|(cases hc;done)|unfold Is at g
  obtain⟨e,g1⟩:=g;cases e;rw[h1]at g1;cases g1;rfl|.lam,u,v,h,g=>by have hc:=(zW I h).symm.trans (zW I g);cases u<;>first|(cases hc;done)|rfl
 |.exn C t,u,v,h,g=>by
  have hc:=(zW I h).symm.trans (zW I g);unfold Is at h;obtain⟨e,d,w,rfl,h1,h2,h3⟩:=h;cases u<;>first|(cases hc;done)|unfold Is at g
  obtain⟨e',d',w',z,g1,g2,g3⟩:=g;cases z;rw[h1]at g1;cases g1;rw[h2]at g2;cases g2;rw[Is.inj I h3 g3]|.non,u,v,h,g=>mw rfl ↑ae ((gW rfl h).symm.trans (gW ↑ae g))|.bl b,u,v,h,g=>mw rfl ↑ae ((gW rfl h).symm.trans (gW ↑ae g))|.int i,u,v,h,g=>mw rfl ↑ae ((gW rfl h).symm.trans (gW ↑ae g))|.str x,u,v,h,g=>mw rfl ↑ae ((gW rfl h).symm.trans (gW ↑ae g))|.ty n,u,v,h,g=>mw rfl ↑ae ((gW rfl h).symm.trans (gW ↑ae g))theorem IsAll.inj(I:zo X pins σ H s):∀{ts us:List T}{vs:List V},IsAll X.K F H ts vs->IsAll X.K F H us vs->ts=us
 |[],us,vs,h,g=>by unfold IsAll at h;subst h;cases us with|nil=>rfl|cons u us=>unfold IsAll at g;obtain⟨_,_,e,_⟩:=g;cases e
 |t::ts,us,vs,h,g=>by unfold IsAll at h;obtain⟨v,r,rfl,h1,h2⟩:=h;cases us with|nil=>unfold IsAll at g;cases g|cons u us=>unfold IsAll at g;obtain⟨_,_,e,g1,g2⟩:=g;cases e;rw[Is.inj I h1 g1,IsAll.inj I h2 g2]end
def u5(I:zo X pins σ H s):∀{n:Nat}{t u:T}{x y:V}{vx vy:Value}{b:Bool}{A:Around},A.units+n<cLine->ni n t u=some b->Is X.K F H t x->Is X.K F H u y->L2.RelV x vx->L2.RelV y vy->SeqAt.RcAt A s vx vy b/\SeqAt.EqAt A s vx vy b
 |0,t,u,x,y,vx,vy,b,A,hu,h,it,iu,rx,ry=>Yq I ↑c h it iu rx ry|n+1,t,u,x,y,vx,vy,b,A,hu,h,it,iu,rx,ry=>by
  have two:∀{a c:Addr}{k:Bool},x=.ref a->y=.ref c->(a=c->k=true)->SeqAt.RcAt A s (.ref a) (.ref c) k->SeqAt.RcAt A s (.ref a) (.ref c) k/\SeqAt.EqAt A s (.ref a) (.ref c) k:=by
   intro a c k _ _ hk r;refine⟨r,?_⟩;by_cases e:a=c;·rw[hk e,e];exact SeqAt.EqAt.same _
   ·exact .of_refs e r
  have same:x=y->b=true:=λe=>by subst e;have:=it.inj I iu;subst this;exact mn h
  cases t<;>cases u<;>try(exact Yq I ↑c (by simpa[ni]using h) it iu rx ry)
  case tup.tup ts us=>
   simp only[ni,Option.map_eq_some_iff]at h;obtain⟨c,h1,h2⟩:=h;unfold Is at it iu;obtain⟨a,vs,rfl,g1,g2⟩:=it;obtain⟨d,ws,rfl,g3,g4⟩:=iu;cases rx;cases ry;obtain⟨its,r1,p1,_⟩:=I.tuple g1;obtain⟨its',r2,p2,_⟩:=I.tuple g3;obtain⟨e,he,hb⟩:=mf h1;refine two rfl rfl (λz=>same (by rw[z])) ?_;have l1:=g2.len;have l2:=g4.len;have l3:=r1.length;have l4:=r2.length;have:=SeqAt.RcAt.tuples (A:=A) p1 p2 ↑c λj j1 j2=>by
    obtain⟨v1,hv1,q1⟩:=vm r1 j1;obtain⟨v2,hv2,q2⟩:=vm r2 j2;have j1':j<its.length:=by simpa using j1
    have j2':j<its'.length:=by simpa using j2
    have hj1:j<ts.length:=by omega
    have hj2:j<us.length:=by omega
    obtain⟨w1,hw1,i1⟩:=g2.get (i:=j) (t:=ts[j]) (by simp[hj1]);obtain⟨w2,hw2,i2⟩:=g4.get (i:=j) (t:=us[j]) (by simp[hj2]);rw[hv1]at hw1;cases hw1;rw[hv2]at hw2;cases hw2;exact(u5 I (by rw[Around.in1_units];omega) (he j ts[j] us[j] (by simp[hj1]) (by simp[hj2])) i1 i2 q1 q2).2
   have e1:its.toArray.size=ts.length:=by simp;omega
   have e2:its'.toArray.size=us.length:=by simp;omega
   rw[e1,e2,hb]at this;rw[<-h2];exact this
  case lst.lst ts us=>
   simp only[ni]at h;unfold Is at it iu;obtain⟨a,vs,rfl,g1,g2⟩:=it;obtain⟨d,ws,rfl,g3,g4⟩:=iu;cases rx;cases ry;obtain⟨its,r1,p1,_⟩:=I.list g1.sq;obtain⟨its',r2,p2,_⟩:=I.list g3.sq;refine two rfl rfl (λz=>same (by rw[z])) ?_;have l1:=g2.len;have l2:=g4.len;have l3:=r1.length;have l4:=r2.length;have e1:its.toArray.size=ts.length:=by simp;omega
   have e2:its'.toArray.size=us.length:=by simp;omega
   by_cases hl:ts.length=us.length
   ·rw[if_pos hl]at h;obtain⟨e,he,hb⟩:=mf h;have:=SeqAt.RcAt.lists (A:=A) p1.isList p2.isList ↑c ↑c λj j1 j2=>by
     obtain⟨v1,hv1,q1⟩:=vm r1 j1;obtain⟨v2,hv2,q2⟩:=vm r2 j2;have j1':j<its.length:=by simpa using j1
     have j2':j<its'.length:=by simpa using j2
     have hj1:j<ts.length:=by omega
     have hj2:j<us.length:=by omega
     obtain⟨w1,hw1,i1⟩:=g2.get (i:=j) (t:=ts[j]) (by simp[hj1]);obtain⟨w2,hw2,i2⟩:=g4.get (i:=j) (t:=us[j]) (by simp[hj2]);rw[hv1]at hw1;cases hw1;rw[hv2]at hw2;cases hw2;exact(u5 I (A:=A.in1) (by rw[Around.in1_units];omega) (he j ts[j] us[j] (by simp[hj1]) (by simp[hj2])) i1 i2 q1 q2).2
    rw[e1]at this;have e3:min ts.length us.length=ts.length:=by omega
    rw[e3]at hb;rw[hb]at this;exact this
   ·rw[if_neg hl]at h;cases h;exact SeqAt.RcAt.lists_lengths p1.isList p2.isList (by rw[e1,e2];simpa using hl) ↑c
def Yr(I:zo X pins σ H s)(hu:A.units<cLine)(h:ZY t u=some b)(it:Is X.K F H t x)(iu:Is X.K F H u y)(rx:L2.RelV x vx)(ry:L2.RelV y vy):SeqAt.RcNeAt A s vx vy (!b):=by
 cases t<;>try(simp only[ZY,reduceCtorEq]at h;done)
 all_goals(cases u<;>simp only[ZY,Option.some.injEq,reduceCtorEq]at h<;>unfold Is at it iu)
 case non.non=>subst it iu h;cases rx;cases ry;exact(SeqAt.RcNeAt.none_none)
 case non.bl=>subst it iu h;cases rx;cases ry;exact(SeqAt.RcNeAt.none_bool _)
 case non.int=>subst it iu h;cases rx;obtain⟨t',rfl⟩:=ry;exact(SeqAt.RcNeAt.none_int _ _)
 case non.str=>subst it iu h;cases rx;obtain⟨t',rfl⟩:=ry;exact(SeqAt.RcNeAt.none_str _ _)
 case bl.non=>subst it iu h;cases rx;cases ry;exact(SeqAt.RcNeAt.bool_none _)
 case bl.bl=>subst it iu h;cases rx;cases ry;exact(SeqAt.RcNeAt.bool_bool _ _)
 case bl.int=>subst it iu h;cases rx;obtain⟨t',rfl⟩:=ry;exact(SeqAt.RcNeAt.bool_int _ _ _)
 case bl.str=>subst it iu h;cases rx;obtain⟨t',rfl⟩:=ry;exact(SeqAt.RcNeAt.bool_str _ _ _)
 case int.non=>subst it iu h;obtain⟨t',rfl⟩:=rx;cases ry;exact(SeqAt.RcNeAt.int_none _ _)
 case int.bl=>subst it iu h;obtain⟨t',rfl⟩:=rx;cases ry;exact(SeqAt.RcNeAt.int_bool _ _ _)
 case int.int=>subst it iu h;obtain⟨t',rfl⟩:=rx;obtain⟨t',rfl⟩:=ry;exact(SeqAt.RcNeAt.int_int _ _ _ _)
 case int.str=>subst it iu h;obtain⟨t',rfl⟩:=rx;obtain⟨t',rfl⟩:=ry;exact(SeqAt.RcNeAt.int_str _ _ _ _)
 case str.non=>subst it iu h;obtain⟨t',rfl⟩:=rx;cases ry;exact(SeqAt.RcNeAt.str_none _ _)
 case str.bl=>subst it iu h;obtain⟨t',rfl⟩:=rx;cases ry;exact(SeqAt.RcNeAt.str_bool _ _ _)
 case str.int=>subst it iu h;obtain⟨t',rfl⟩:=rx;obtain⟨t',rfl⟩:=ry;exact(SeqAt.RcNeAt.str_int _ _ _ _)
 case str.str=>subst it iu h;obtain⟨t',rfl⟩:=rx;obtain⟨t',rfl⟩:=ry;exact(SeqAt.RcNeAt.str_str _ _ _ _)
 case tup.lst=>obtain⟨a,vs,rfl,h1,_⟩:=it;obtain⟨b,ws,rfl,h2,_⟩:=iu;subst h;cases rx;cases ry;obtain⟨_,_,p1,_⟩:=I.tuple h1;obtain⟨_,_,p2,_⟩:=I.list h2.sq;exact(SeqAt.RcNeAt.tuple_list p1 p2.isList hu)
 case lst.tup=>obtain⟨a,vs,rfl,h1,_⟩:=it;obtain⟨b,ws,rfl,h2,_⟩:=iu;subst h;cases rx;cases ry;obtain⟨_,_,p1,_⟩:=I.list h1.sq;obtain⟨_,_,p2,_⟩:=I.tuple h2;exact(SeqAt.RcNeAt.list_tuple p1.isList p2 hu)
 case tup.non=>obtain⟨a,vs,rfl,h1,_⟩:=it;subst iu h;cases rx;cases ry;obtain⟨_,_,p1,_⟩:=I.tuple h1;exact(SeqAt.RcNeAt.tuple_none p1 hu)
 case tup.bl=>obtain⟨a,vs,rfl,h1,_⟩:=it;subst iu h;cases rx;cases ry;obtain⟨_,_,p1,_⟩:=I.tuple h1;exact(SeqAt.RcNeAt.tuple_bool _ p1 hu)
 case tup.int=>obtain⟨a,vs,rfl,h1,_⟩:=it;subst iu h;cases rx;obtain⟨t',rfl⟩:=ry;obtain⟨_,_,p1,_⟩:=I.tuple h1;exact(SeqAt.RcNeAt.tuple_int _ _ p1 hu)
 case tup.str=>obtain⟨a,vs,rfl,h1,_⟩:=it;subst iu h;cases rx;obtain⟨t',rfl⟩:=ry;obtain⟨_,_,p1,_⟩:=I.tuple h1;exact(SeqAt.RcNeAt.tuple_str _ _ p1 hu)
 case lst.non=>obtain⟨a,vs,rfl,h1,_⟩:=it;subst iu h;cases rx;cases ry;obtain⟨_,_,p1,_⟩:=I.list h1.sq;exact(SeqAt.RcNeAt.list_none p1.isList hu)
 case lst.bl=>obtain⟨a,vs,rfl,h1,_⟩:=it;subst iu h;cases rx;cases ry;obtain⟨_,_,p1,_⟩:=I.list h1.sq;exact(SeqAt.RcNeAt.list_bool _ p1.isList hu)
 case lst.int=>obtain⟨a,vs,rfl,h1,_⟩:=it;subst iu h;cases rx;obtain⟨t',rfl⟩:=ry;obtain⟨_,_,p1,_⟩:=I.list h1.sq;exact(SeqAt.RcNeAt.list_int _ _ p1.isList hu)
 case lst.str=>obtain⟨a,vs,rfl,h1,_⟩:=it;subst iu h;cases rx;obtain⟨t',rfl⟩:=ry;obtain⟨_,_,p1,_⟩:=I.list h1.sq;exact(SeqAt.RcNeAt.list_str _ _ p1.isList hu)
 case non.tup=>obtain⟨a,vs,rfl,h1,_⟩:=iu;subst it h;cases rx;cases ry;obtain⟨_,_,p1,_⟩:=I.tuple h1;exact(SeqAt.RcNeAt.none_tuple p1 hu)
 case bl.tup=>obtain⟨a,vs,rfl,h1,_⟩:=iu;subst it h;cases rx;cases ry;obtain⟨_,_,p1,_⟩:=I.tuple h1;exact(SeqAt.RcNeAt.bool_tuple _ p1 hu)
 case int.tup=>obtain⟨a,vs,rfl,h1,_⟩:=iu;subst it h;cases ry;obtain⟨t',rfl⟩:=rx;obtain⟨_,_,p1,_⟩:=I.tuple h1;exact(SeqAt.RcNeAt.int_tuple _ _ p1 hu)
 case str.tup=>obtain⟨a,vs,rfl,h1,_⟩:=iu;subst it h;cases ry;obtain⟨t',rfl⟩:=rx;obtain⟨_,_,p1,_⟩:=I.tuple h1;exact(SeqAt.RcNeAt.str_tuple _ _ p1 hu)
 case non.lst=>obtain⟨a,vs,rfl,h1,_⟩:=iu;subst it h;cases rx;cases ry;obtain⟨_,_,p1,_⟩:=I.list h1.sq;exact(SeqAt.RcNeAt.none_list p1.isList hu)
 case bl.lst=>obtain⟨a,vs,rfl,h1,_⟩:=iu;subst it h;cases rx;cases ry;obtain⟨_,_,p1,_⟩:=I.list h1.sq;exact(SeqAt.RcNeAt.bool_list _ p1.isList hu)
 case int.lst=>obtain⟨a,vs,rfl,h1,_⟩:=iu;subst it h;cases ry;obtain⟨t',rfl⟩:=rx;obtain⟨_,_,p1,_⟩:=I.list h1.sq;exact(SeqAt.RcNeAt.int_list _ _ p1.isList hu)
 case str.lst=>obtain⟨a,vs,rfl,h1,_⟩:=iu;subst it h;cases ry;obtain⟨t',rfl⟩:=rx;obtain⟨_,_,p1,_⟩:=I.list h1.sq;exact(SeqAt.RcNeAt.str_list _ _ p1.isList hu)
def Gx(I:zo X pins σ H s):∀{n:Nat}{t u:T}{x y:V}{vx vy:Value}{b:Bool}{A:Around},A.units+n<cLine->ni n t u=some b->Is X.K F H t x->Is X.K F H u y->L2.RelV x vx->L2.RelV y vy->SeqAt.RcNeAt A s vx vy (!b)
 |0,t,u,x,y,vx,vy,b,A,hu,h,it,iu,rx,ry=>Yr I ↑c h it iu rx ry|n+1,t,u,x,y,vx,vy,b,A,hu,h,it,iu,rx,ry=>by
  cases t<;>cases u<;>try(exact Yr I ↑c (by simpa[ni]using h) it iu rx ry)
  case tup.tup ts us=>
   simp only[ni,Option.map_eq_some_iff]at h;obtain⟨c,h1,h2⟩:=h;unfold Is at it iu;obtain⟨a,vs,rfl,g1,g2⟩:=it;obtain⟨d,ws,rfl,g3,g4⟩:=iu;cases rx;cases ry;obtain⟨its,r1,p1,_⟩:=I.tuple g1;obtain⟨its',r2,p2,_⟩:=I.tuple g3;obtain⟨e,he,hb⟩:=mf h1;have l1:=g2.len;have l2:=g4.len;have l3:=r1.length;have l4:=r2.length;have:=SeqAt.RcNeAt.tuples (A:=A) (e:=e) p1 p2 ↑c λj j1 j2=>by
    obtain⟨v1,hv1,q1⟩:=vm r1 j1;obtain⟨v2,hv2,q2⟩:=vm r2 j2;have j1':j<its.length:=by simpa using j1
    have j2':j<its'.length:=by simpa using j2
    have hj1:j<ts.length:=by omega
    have hj2:j<us.length:=by omega
    obtain⟨w1,hw1,i1⟩:=g2.get (i:=j) (t:=ts[j]) (by simp[hj1]);obtain⟨w2,hw2,i2⟩:=g4.get (i:=j) (t:=us[j]) (by simp[hj2]);rw[hv1]at hw1;cases hw1;rw[hv2]at hw2;cases hw2;exact(u5 I (A:=A.in1) (by rw[Around.in1_units];omega) (he j ts[j] us[j] (by simp[hj1]) (by simp[hj2])) i1 i2 q1 q2).2
   have e1:its.toArray.size=ts.length:=by simp;omega
   have e2:its'.toArray.size=us.length:=by simp;omega
   rw[e1,e2,hb]at this;rw[<-h2];exact this
  case lst.lst ts us=>
   simp only[ni]at h;unfold Is at it iu;obtain⟨a,vs,rfl,g1,g2⟩:=it;obtain⟨d,ws,rfl,g3,g4⟩:=iu;cases rx;cases ry;obtain⟨its,r1,p1,_⟩:=I.list g1.sq;obtain⟨its',r2,p2,_⟩:=I.list g3.sq;have l1:=g2.len;have l2:=g4.len;have l3:=r1.length;have l4:=r2.length;have e1:its.toArray.size=ts.length:=by simp;omega
   have e2:its'.toArray.size=us.length:=by simp;omega
   by_cases hl:ts.length=us.length
   ·rw[if_pos hl]at h;obtain⟨e,he,hb⟩:=mf h;have:=SeqAt.RcNeAt.lists (A:=A) (e:=e) p1.isList p2.isList ↑c ↑c λj j1 j2=>by
     obtain⟨v1,hv1,q1⟩:=vm r1 j1;obtain⟨v2,hv2,q2⟩:=vm r2 j2;have j1':j<its.length:=by simpa using j1
     have j2':j<its'.length:=by simpa using j2
     have hj1:j<ts.length:=by omega
     have hj2:j<us.length:=by omega
     obtain⟨w1,hw1,i1⟩:=g2.get (i:=j) (t:=ts[j]) (by simp[hj1]);obtain⟨w2,hw2,i2⟩:=g4.get (i:=j) (t:=us[j]) (by simp[hj2]);rw[hv1]at hw1;cases hw1;rw[hv2]at hw2;cases hw2;exact(u5 I (A:=A.in1) (by rw[Around.in1_units];omega) (he j ts[j] us[j] (by simp[hj1]) (by simp[hj2])) i1 i2 q1 q2).2
    rw[e1]at this;have e3:min ts.length us.length=ts.length:=by omega
    rw[e3]at hb;rw[hb]at this;exact this
   ·rw[if_neg hl]at h;cases h;exact SeqAt.RcNeAt.lists_lengths p1.isList p2.isList (by rw[e1,e2];simpa using hl) ↑c
end
def rT(K:W.Frag)(f:T->T->Option RV):R2:=λx y H Q=>∃F tx ty rv,lJ F H/\Is K F H tx x/\Is K F H ty y/\f tx ty=some rv/\∀v F' H',jA F H F' H'->wz K ↑W F' H' v rv->Q v H'
def w9{K:W.Frag}{f:T->T->Option RV}:N6 K (rT K f) f:=λF H x y tx ty Q rv d ix iy e q=>⟨F,tx,ty,rv,d,ix,iy,e,q⟩
def Ys(K:W.Frag)(f:List T->Option RV):List V->Hp->VK->Prop:=λvs H Q=>∃F ts rv,lJ F H/\IsAll K F H ts vs/\f ts=some rv/\∀v F' H',jA F H F' H'->wz K ↑W F' H' v rv->Q v H'
def cW{K:W.Frag}{Q:VK}{ts:List T}{vs:List V}{p:Addr}(d:lJ F H)(i:IsAll K F H ts vs)(hp:H p=none)(q:∀v F' H',jA F H F' H'->wz K ↑W F' H' v (true,.lst ts)->Q v H'):Q (.ref p) (zO H p (.lst vs)):=by have x:=jA.alloc d (o:=.lst vs) hp;refine q _ F _ x ?_;unfold wz;rw[if_pos rfl];exact⟨p,rfl,λf=>d p f hp,hp,vs,zm,i.mono x.kept⟩
def Yt{K:W.Frag}{Q:VK}{ts:List T}{vs:List V}{p:Addr}(d:lJ F H)(i:IsAll K F H ts vs)(hp:H p=none)(q:∀v F' H',jA F H F' H'->wz K ↑W F' H' v (false,.tup ts)->Q v H'):Q (.ref p) (zO H p (.tup vs)):=by have x:=jA.alloc d (o:=.tup vs) hp;refine q _ F _ x (jc ?_);unfold Is;exact⟨p,vs,rfl,.inl (.inl zm),i.mono x.kept⟩
def jT{K:W.Frag}{Q:VK}{t:T}{v:V}{rv:RV}(d:lJ F H)(i:Is K F H t v)(q:∀v F' H',jA F H F' H'->wz K ↑W F' H' v rv->Q v H')(e:rv=↑V):Q v H:=by subst e;exact q v F H (.refl d) (jc i)
def xb{K:W.Frag}{i:Int}:Is K F H (.int i) (.int i):=by unfold Is;rfl
def xg{K:W.Frag}{i:Bool}:Is K F H (.bl i) (.bl i):=by unfold Is;rfl
def qV{K:W.Frag}{i:Str}:Is K F H (.str i) (.str i):=by unfold Is;rfl
def Yu{K:W.Frag}:Is K F H .non .non:=by unfold Is;rfl
def j5(t u:T):Option RV:=match t with
 |.int i=>match u with|.int j=>some (false,.int (i+j))|_=>none
 |.str x=>match u with|.str y=>if x.length+y.length<=sizeLine then some (false,.str (x++y))else none|_=>none
 |.lst ts=>match u with|.lst us=>if ts.length+us.length<=sizeLine then some (true,.lst (ts++us))else none|_=>none
 |.tup ts=>match u with|.tup us=>if ts.length+us.length<=sizeLine then some (false,.tup (ts++us))else none|_=>none
 |_=>none
def cX(t u:T):Option RV:=match t with
 |.int i=>match u with|.int j=>some (false,.int (i-j))|_=>none
 |_=>none
instance(i j:Int):Decidable (ZD i j):=by unfold ZD;infer_instance
instance(i j:Int):Decidable (WI i j):=by unfold WI;infer_instance
def cY(t u:T):Option RV:=match t with
 |.int i=>match u with|.int j=>if ZD i j then some (false,.int (i*j))else none|_=>none
 |.str x=>match u with|.int n=>if-(2^63)<=n/\n<=16777216/\x.length*n.toNat<=16777216 then some (false,.str (Txt.mul x n))else none|_=>none
 |_=>none
def kP(t u:T):Option RV:=match t with
 |.int i=>match u with|.int j=>if WI i j then some (false,.int (i/j))else none|_=>none
 |_=>none
def jO(t u:T):Option RV:=match t with
 |.int i=>match u with|.int j=>if 0<j then some (false,.int (i%j))else none|_=>none
 |_=>none
def Yv{prog:Program}{w:World}{A:Around}{E:Value->Shared->Prop}{s:Shared}{t b:Addr}{vs ws:List Value}{Q:Value->Shared->Prop}(ht:IsTup s.heap t vs.toArray)(hb:IsTup s.heap b ws.toArray)(hv:vs=[])(h1:Q (.ref b) s):wpAny ↑d A (binaryOp .Add (.ref t) (.ref b)) Q E s:=by obtain⟨⟨cls,dd,data,sl⟩,ho,hc,n,hd⟩:=id ht;obtain⟨⟨cls2,dd2,data2,sl2⟩,ho2,hc2,n2,hd2⟩:=id hb;simp only at hc hd hc2 hd2;subst hc hd hc2 hd2;exact concat_meets ⟨_,ho,rfl⟩ ⟨_,ho2,rfl⟩ noFill_tuple_add seq_tuple_add PySem.F.slot_tuple_add PySem.F.entry_tuple_add (PySem.F.args_tuple_add_2 _ _) (tuple_addW0 t b vs.toArray ws.toArray n n2 dd dd2 sl sl2 (by simp[hv])) ⟨ho,ho2,h1⟩
def Yw(hl:s.heap.IsList l xs)(hb:s.heap.IsList b ys)(hsz:xs.size+ys.size<=sizeLine)(h:Q ↑A {s with heap:=s.heap.push {cls:=.type "list",data:=.seq (xs++ys)}}):wpAny ↑d A (binaryOp .Add (.ref l) (.ref b)) Q E s:=by obtain⟨⟨cls,dd,data,sl⟩,ho,hc,n,hd⟩:=id hl;obtain⟨⟨cls2,dd2,data2,sl2⟩,ho2,hc2,n2,hd2⟩:=id hb;simp only at hc hd hc2 hd2;subst hc hd hc2 hd2;exact concat_meets ⟨_,ho,rfl⟩ ⟨_,ho2,rfl⟩ noFill_list_add seq_list_add PySem.F.slot_list_add PySem.F.entry_list_add (PySem.F.args_list_add_2 _ _) (list_addW l b xs ys n n2 dd dd2 sl sl2 hsz) ⟨ho,ho2,h⟩
def jv:ve X (binaryOp .Add) (rT X.K j5):=by
 intro pins s σ H x y v u Q I rx ry h;obtain⟨F,tx,ty,rv,d,ix,iy,e,q⟩:=h;cases tx<;>try(simp only[j5,reduceCtorEq]at e;done)
 all_goals(cases ty<;>simp only[j5,reduceCtorEq]at e)
 case int.int i j=>unfold Is at ix iy;subst ix iy;cases e;exact QX pins s σ H _ _ v u Q I rx ry ⟨i,j,rfl,rfl,jT d xb q rfl⟩
 case str.str i j=>unfold Is at ix iy;subst ix iy;split at e<;>cases e;rename_i hl;exact aX pins s σ H _ _ v u Q I rx ry ⟨i,j,rfl,rfl,hl,jT d qV q rfl⟩
 case lst.lst ts us=>
  split at e<;>cases e;rename_i hl;unfold Is at ix iy;obtain⟨l,vs,rfl,g1,g2⟩:=ix;obtain⟨b,ws,rfl,g3,g4⟩:=iy;cases rx;cases ry;obtain⟨its,r,p1,z⟩:=I.list g1.sq;obtain⟨its2,r2,p2,z2⟩:=I.list g3.sq;have l1:=g2.len;have l2:=g4.len;have l3:=r.length;have l4:=r2.length;have ea:its.toArray++its2.toArray=(its++its2).toArray:=by simp
  refine Yw p1.isList p2.isList (by rw[List.size_toArray,List.size_toArray];omega) ?_;rw[ea];exact⟨.ref _,_,I.lnew (r.append r2) (by rw[List.length_append];omega),rfl,cW d (g2.append g4) I.fresh q⟩
 case tup.tup ts us=>
  split at e<;>cases e;rename_i hl;have ix':=ix;have iy':=iy;unfold Is at ix iy;obtain⟨l,vs,rfl,g1,g2⟩:=ix;obtain⟨b,ws,rfl,g3,g4⟩:=iy;have l1:=g2.len;have l2:=g4.len;by_cases hv:vs=[];·subst hv;cases rx;cases ry;obtain⟨its,r1,p1,_⟩:=I.tuple g1;obtain⟨its2,r2,p2,_⟩:=I.tuple g3;refine Yv p1 p2 (r1.nil_iff.mpr rfl) ⟨.ref b,H,I,rfl,?_⟩;have:ts=[]:=List.eq_nil_of_length_eq_zero (by rw[l1];rfl);subst this;exact jT d iy' q rfl
  ·refine WU pins s σ H _ _ v u Q I rx ry ⟨l,b,vs,ws,rfl,rfl,g1,g3,hv,by omega,λz=>?_,λz p hp=>Yt d (g2.append g4) hp q⟩;subst z;have:us=[]:=List.eq_nil_of_length_eq_zero (by rw[l2];rfl);subst this;exact jT d ix' q (by rw[List.append_nil])
def Yx:ve X (binaryOp .Sub) (rT X.K cX):=by
 intro pins s σ H x y v u Q I rx ry h;obtain⟨F,tx,ty,rv,d,ix,iy,e,q⟩:=h;cases tx<;>try(simp only[cX,reduceCtorEq]at e;done)
 all_goals(cases ty<;>simp only[cX,reduceCtorEq]at e)
 case int.int i j=>unfold Is at ix iy;subst ix iy;cases e;exact QY pins s σ H _ _ v u Q I rx ry ⟨i,j,rfl,rfl,jT d xb q rfl⟩
def Yy:ve X (binaryOp .Mult) (rT X.K cY):=by
 intro pins s σ H x y v u Q I rx ry h;obtain⟨F,tx,ty,rv,d,ix,iy,e,q⟩:=h;cases tx<;>try(simp only[cY,reduceCtorEq]at e;done)
 all_goals(cases ty<;>simp only[cY,reduceCtorEq]at e)
 case int.int i j=>unfold Is at ix iy;subst ix iy;split at e<;>cases e;rename_i hc;exact QZ pins s σ H _ _ v u Q I rx ry ⟨i,j,rfl,rfl,hc,jT d xb q rfl⟩
 case str.int i j=>unfold Is at ix iy;subst ix iy;split at e<;>cases e;rename_i hc;obtain⟨t,rfl⟩:=rx;obtain⟨t',rfl⟩:=ry;refine SB.mul (mulOk_of i.length j.toNat ↑h ↑c hc.1 ↑c hc.2.2) λt' k=>⟨.str (Txt.mul i j),H,I.tok _,⟨t',rfl⟩,jT d qV q rfl⟩
def kB:ve X (binaryOp .FloorDiv) (rT X.K kP):=by
 intro pins s σ H x y v u Q I rx ry h;obtain⟨F,tx,ty,rv,d,ix,iy,e,q⟩:=h;cases tx<;>try(simp only[kP,reduceCtorEq]at e;done)
 all_goals(cases ty<;>simp only[kP,reduceCtorEq]at e)
 case int.int i j=>unfold Is at ix iy;subst ix iy;split at e<;>cases e;rename_i hc;exact WJ pins s σ H _ _ v u Q I rx ry ⟨i,j,rfl,rfl,hc,jT d xb q rfl⟩
def xh:ve X (binaryOp .Mod) (rT X.K jO):=by
 intro pins s σ H x y v u Q I rx ry h;obtain⟨F,tx,ty,rv,d,ix,iy,e,q⟩:=h;cases tx<;>try(simp only[jO,reduceCtorEq]at e;done)
 all_goals(cases ty<;>simp only[jO,reduceCtorEq]at e)
 case int.int i j=>unfold Is at ix iy;subst ix iy;split at e<;>cases e;rename_i hc;exact G0 pins s σ H _ _ v u Q I rx ry ⟨i,j,rfl,rfl,hc,jT d xb q rfl⟩
def jn(a b:T):Option RV:=(ni 40 a b).map λk=>(false,.bl k)
def qm(a b:T):Option RV:=(ni 40 a b).map λk=>(false,.bl (!k))
def kr(t u:T):Option RV:=match t with
 |.int i=>match u with|.int j=>some (false,.bl (decide (i<j)))|_=>none
 |.str i=>match u with|.str j=>some (false,.bl (decide (i.cps.toList<j.cps.toList)))|_=>none
 |_=>none
def mx(t u:T):Option RV:=match t with
 |.int i=>match u with|.int j=>some (false,.bl (decide (i<=j)))|_=>none
 |.str i=>match u with|.str j=>some (false,.bl (!decide (j.cps.toList<i.cps.toList)))|_=>none
 |_=>none
def my(t u:T):Option RV:=match t with
 |.int i=>match u with|.int j=>some (false,.bl (decide (j<i)))|_=>none
 |.str i=>match u with|.str j=>some (false,.bl (decide (j.cps.toList<i.cps.toList)))|_=>none
 |_=>none
def ZZ(t u:T):Option RV:=match t with
 |.int i=>match u with|.int j=>some (false,.bl (decide (j<=i)))|_=>none
 |.str i=>match u with|.str j=>some (false,.bl (!decide (i.cps.toList<j.cps.toList)))|_=>none
 |_=>none
def tN:T->T->Option RV|.bl a,.bl b=>some (false,.bl (a==b))|.non,.non=>some ↑l|.tup _,.non=>some ↑T|.lst _,.non=>some ↑T|.dct _ _,.non=>some ↑T|.obj _ _ _,.non=>some ↑T|.str _,.non=>some ↑T|.int _,.non=>some ↑T|.bl _,.non=>some ↑T|_,_=>none
def iN(t u:T):Option RV:=match u with
 |.non=>match t with|.non=>some ↑T|.tup _=>some ↑l|.lst _=>some ↑l|.dct _ _=>some ↑l|.obj _ _ _=>some ↑l|.str _=>some ↑l|.int _=>some ↑l|.bl _=>some ↑l|_=>none
 |_=>none
def N7(hu:X.A.units+40<cLine):ve X (compareOp .Eq) (rT X.K jn):=by intro pins s σ H x y v u Q I rx ry h;obtain⟨F,tx,ty,rv,d,ix,iy,e,q⟩:=h;simp only[jn,Option.map_eq_some_iff]at e;obtain⟨k,e,rfl⟩:=e;exact EqBoolInt.of_rc (u5 I hu e ix iy rx ry).1 ⟨.bl k,H,I,rfl,jT d xg q rfl⟩
def Li(hu:X.A.units+40<cLine):ve X (compareOp .NotEq) (rT X.K qm):=by intro pins s σ H x y v u Q I rx ry h;obtain⟨F,tx,ty,rv,d,ix,iy,e,q⟩:=h;simp only[qm,Option.map_eq_some_iff]at e;obtain⟨k,e,rfl⟩:=e;exact(Gx I hu e ix iy rx ry) _ _ _ _ ⟨.bl (!k),H,I,rfl,jT d xg q rfl⟩
def eZ:ve X (compareOp .Lt) (rT X.K kr):=by
 intro pins s σ H x y v u Q I rx ry h;obtain⟨F,tx,ty,rv,d,ix,iy,e,q⟩:=h;cases tx<;>try(simp only[kr,reduceCtorEq]at e;done)
 all_goals(cases ty<;>simp only[kr,reduceCtorEq]at e)
 case int.int i j=>unfold Is at ix iy;subst ix iy;cases e;exact UL pins s σ H _ _ v u Q I rx ry ⟨i,j,rfl,rfl,jT d xg q rfl⟩
 case str.str i j=>unfold Is at ix iy;subst ix iy;cases e;exact ZE pins s σ H _ _ v u Q I rx ry ⟨i,j,rfl,rfl,jT d xg q rfl⟩
def Vd:ve X (compareOp .LtE) (rT X.K mx):=by
 intro pins s σ H x y v u Q I rx ry h;obtain⟨F,tx,ty,rv,d,ix,iy,e,q⟩:=h;cases tx<;>try(simp only[mx,reduceCtorEq]at e;done)
 all_goals(cases ty<;>simp only[mx,reduceCtorEq]at e)
 case int.int i j=>unfold Is at ix iy;subst ix iy;cases e;exact UM pins s σ H _ _ v u Q I rx ry ⟨i,j,rfl,rfl,jT d xg q rfl⟩
 case str.str i j=>unfold Is at ix iy;subst ix iy;cases e;obtain⟨t,rfl⟩:=rx;obtain⟨t',rfl⟩:=ry;exact PySem.P.le_str (pZ I (jT d xg q rfl) rfl)
def J0:ve X (compareOp .Gt) (rT X.K my):=by
 intro pins s σ H x y v u Q I rx ry h;obtain⟨F,tx,ty,rv,d,ix,iy,e,q⟩:=h;cases tx<;>try(simp only[my,reduceCtorEq]at e;done)
 all_goals(cases ty<;>simp only[my,reduceCtorEq]at e)
 case int.int i j=>unfold Is at ix iy;subst ix iy;cases e;exact UN pins s σ H _ _ v u Q I rx ry ⟨i,j,rfl,rfl,jT d xg q rfl⟩
 case str.str i j=>unfold Is at ix iy;subst ix iy;cases e;obtain⟨t,rfl⟩:=rx;obtain⟨t',rfl⟩:=ry;exact PySem.P.gt_str (pZ I (jT d xg q rfl) rfl)
def Lj:ve X (compareOp .GtE) (rT X.K ZZ):=by
 intro pins s σ H x y v u Q I rx ry h;obtain⟨F,tx,ty,rv,d,ix,iy,e,q⟩:=h;cases tx<;>try(simp only[ZZ,reduceCtorEq]at e;done)
 all_goals(cases ty<;>simp only[ZZ,reduceCtorEq]at e)
 case int.int i j=>unfold Is at ix iy;subst ix iy;cases e;exact UO pins s σ H _ _ v u Q I rx ry ⟨i,j,rfl,rfl,jT d xg q rfl⟩
 case str.str i j=>unfold Is at ix iy;subst ix iy;cases e;obtain⟨t,rfl⟩:=rx;obtain⟨t',rfl⟩:=ry;exact PySem.P.ge_str (pZ I (jT d xg q rfl) rfl)
def Lk:ve X (compareOp .Is) (rT X.K tN):=by
 intro pins s σ H x y v u Q I rx ry h;obtain⟨F,tx,ty,rv,d,ix,iy,e,q⟩:=h;cases ty;case bl b=>cases tx<;>simp only[tN,reduceCtorEq]at e;case bl a=>unfold Is at ix iy;subst ix iy;cases e;cases rx;cases ry;refine wpAny_is_plain rfl ⟨.bl (a==b),H,I,?_,jT d xg q rfl⟩;cases a<;>cases b<;>rfl
 case non=>
  unfold Is at iy;subst iy;refine G1 pins s σ H _ _ v u Q I rx ry ⟨rfl,?_⟩;have:(x=.non↔tx=.non):=by cases tx<;>unfold Is at ix<;>first|(subst ix;simp;done)|(obtain⟨a,_,rfl,_⟩:=ix;simp;done)|(obtain⟨a,_,_,rfl,_⟩:=ix;simp;done)|(obtain⟨a,rfl,_⟩:=ix;simp;done)|(obtain⟨rfl,_⟩:=ix;simp;done)
  cases tx<;>simp only[tN,reduceCtorEq]at e<;>cases e<;>simp only[this,reduceCtorEq]<;>exact jT d xg q ↑D
 all_goals(cases tx<;>simp only[tN,reduceCtorEq]at e)
def N8:ve X (compareOp .IsNot) (rT X.K iN):=by
 intro pins s σ H x y v u Q I rx ry h;obtain⟨F,tx,ty,rv,d,ix,iy,e,q⟩:=h;cases ty;case non=>
  unfold Is at iy;subst iy;refine WK pins s σ H _ _ v u Q I rx ry ⟨rfl,?_⟩;have:(x=.non↔tx=.non):=by cases tx<;>unfold Is at ix<;>first|(subst ix;simp;done)|(obtain⟨a,_,rfl,_⟩:=ix;simp;done)|(obtain⟨a,_,_,rfl,_⟩:=ix;simp;done)|(obtain⟨a,rfl,_⟩:=ix;simp;done)|(obtain⟨rfl,_⟩:=ix;simp;done)
  cases tx<;>simp only[iN,reduceCtorEq]at e<;>cases e<;>simp only[this,reduceCtorEq]<;>exact jT d xg q ↑D
 all_goals(cases tx<;>simp only[iN,reduceCtorEq]at e)
end L3
namespace HT
open PySem PySem.Spec PyProof.Rows L2
def getItem_tuple_whole{prog:Program}{w:World}{A:Around}{E:Value->Shared->Prop}{s:Shared}{t sl:Addr}{items:Array Value}{vl vu:Value}{lo hi:Option Int}{Q:Value->Shared->Prop}(ht:IsTup s.heap t items)(hs:s.heap.IsSliceOf sl vl vu .none)(pl:IsPart vl lo)(pu:IsPart vu hi)(hw:sIx items.size 0 lo=0/\sIx items.size items.size hi=items.size)(h:Q (.ref t) s):wpAny ↑d A (getItem (.ref t) (.ref sl)) Q E s:=by
 obtain⟨os,hos,hcs,hds⟩:=id hs;have hTs:s.TypeIs (.ref sl) "slice":=⟨os,hos,hcs⟩;unfold getItem;try with_reducible refine wpAny_holding ?_
 first|refine wpAny_bind (wpAny_pure ?_)|skip
 refine wpAny_bind (wpAny_sequenceKey ht.typeIs ↑f ?_);refine wpAny_bind (wpAny_callSpecial?_slot ht.typeIs PyProof.Rows.slot_tuple_getitem (wpAny_call_entry PyProof.Rows.slot_tuple_getitem ht.typeIs entry_tuple_getitem ?_ (args_tuple_getitem _ _)));show wpAny _ _ (Builtin.Tuple.tupleItemsOf (.ref t)>>=_) _ _ s;refine wpAny_bind (tupleItemsOf_ ht ?_);refine wpAny_bind (wpAny_typeOf hTs ?_);rw[if_pos ↑f];refine wpAny_bind (kY hs pl pu ?_);have hyes:↑F=true:=by rw[hw.1,hw.2];simp
 show wpAny _ _ (if↑F=true then _ else _) _ _ s;rw[if_pos hyes];unfold Builtin.Tuple.tupleIsExact;refine wpAny_bind (wpAny_bind (wpAny_typeOf ht.typeIs ?_));refine wpAny_pure ?_;rw[if_pos ↑f];exact wpAny_bind (wpAny_rule ↑S)
end HT
namespace L3
open PySem PySem.Spec PyProof.Rows L2
section
variable{K:W.Frag}{F:Addr->Prop}{H:Hp}
theorem IsAll.at(h:IsAll K F H ts vs)(e:cH ts i=some t):∃v,cH vs i=some v/\Is K F H t v:=by unfold cH at e⊢;rw[<-h.len];cases hj:Y1 ts.length i with|none=>rw[hj]at e;cases e|some j=>rw[hj]at e;have e:ts[j]?=some t:=e;obtain⟨v,hv,q⟩:=h.get e;exact⟨v,hv,q⟩
def qP:List Key->List T->Key->Option T|k::ks,t::ts,x=>if k=x then some t else qP ks ts x|_,_,_=>none
theorem pj:∀{ks:List Key}{ts:List T}{kvs:List (Key×V)}(x:Key),kvs.map (·.1)=ks->IsAll K F H ts (kvs.map (·.2))->(∀t,qP ks ts x=some t->∃v,ju kvs x=some v/\Is K F H t v)/\(qP ks ts x=none->ju kvs x=none)
 |[],ts,[],x,_,_=>⟨λt h=>by cases ts<;>simp[qP]at h,λ_=>rfl⟩|[],ts,kv::kvs,x,h,_=>by simp at h|k::ks,ts,[],x,h,_=>by simp at h|k::ks,[],kv::kvs,x,h,g=>by unfold IsAll at g;simp at g|k::ks,t::ts,kv::kvs,x,h,g=>by
  simp only[List.map_cons,List.cons.injEq]at h;obtain⟨h1,h2⟩:=h;rw[List.map_cons]at g;unfold IsAll at g;obtain⟨v,r,e,g1,g2⟩:=g;cases e;have ih:=pj x h2 g2;unfold qP;by_cases hk:k=x;·rw[if_pos hk,jY (h1.trans hk)];exact⟨λt' e=>by cases e;exact⟨_,rfl,g1⟩,λz=>by cases z⟩
  ·rw[if_neg hk,jZ (λz=>hk (h1.symm.trans z))];exact ih
end
def qb(x:T):List T->Option Bool|[]=>some false|t::ts=>match ni 40 t x with|none=>none|some a=>match qb x ts with|none=>none|some b=>some (a||b)
def u6:T->Option Key|.int i=>some (.inl i)|.str x=>some (.inr x)|_=>none
def Ve:T->T->Option Bool|.str x,.str y=>some (!(Builtin.Str.occurrences y x 0 y.length 1).isEmpty)|x,.lst ts=>qb x ts|x,.tup ts=>qb x ts|x,.dct ks ts=>(u6 x).map λk=>(qP ks ts k).isSome|_,_=>none
def qQ(a b:T):Option RV:=(Ve a b).map λk=>(false,.bl k)
def uB(a b:T):Option RV:=(Ve a b).map λk=>(false,.bl (!k))
section
variable{X:Cx}
open Classical in def qI(X:Cx)(F:Addr->Prop)(H:Hp)(t:T)(u:Value):Bool:=decide (∃(y:V)(ty:T),L2.RelV y u/\Is X.K F H ty y/\ni 40 ty t=some true)
open Classical in theorem Yz(I:zo X pins σ H s)(r:L2.RelV y u)(i:Is X.K F H ty y)(e:ni 40 ty t=some a):qI X F H t u=a:=by unfold qI;cases a with|true=>exact decide_eq_true ⟨y,ty,r,i,e⟩|false=>refine decide_eq_false λ⟨y',ty',r',i',e'⟩=>?_;have:=cU r r';subst this;have:=i.inj I i';subst this;rw[e]at e';cases e'
theorem mB(I:zo X pins σ H s)(hu:A.units+40<cLine)(it:Is X.K F H t x)(rx:L2.RelV x vx):∀{ts:List T}{vs:List V}{us:List Value}{b:Bool},qb t ts=some b->IsAll X.K F H ts vs->zE vs us->(∀u,u∈us->SeqAt.EqAt A s u vx (qI X F H t u))/\us.any (qI X F H t)=b
 |[],vs,us,b,h,i,r=>by
  unfold IsAll at i;subst i;cases r;simp[qb]at h;refine⟨?_,?_⟩;·intro u hu;cases hu
  ·rw[h];rfl|ty::ts,vs,us,b,h,i,r=>by unfold IsAll at i;obtain⟨v,vr,rfl,i1,i2⟩:=i;cases r with|cons r1 r2=>rename_i u us;rw[qb]at h;cases h1:ni 40 ty t with|none=>rw[h1]at h;cases h|some a=>rw[h1]at h;cases h2:qb t ts with|none=>rw[h2]at h;cases h|some c=>
    rw[h2]at h;simp only[Option.some.injEq]at h;obtain⟨he,hb⟩:=mB I hu it rx h2 i2 r2;have q:=(u5 I hu h1 i1 it r1 rx).2;have ea:=Yz I r1 i1 h1;refine⟨?_,?_⟩
    ·intro z hz;rcases List.mem_cons.mp hz with h'|h';·subst h';rw[ea];exact q
     ·exact he z h'
    ·rw[List.any_cons,ea,hb,h]
theorem YA(hu:X.A.units+41<cLine)(I:zo X pins σ H s)(ix:Is X.K F H tx x)(iy:Is X.K F H ty y)(rx:L2.RelV x v)(ry:L2.RelV y u)(e:Ve tx ty=some b)(ho:op=.In\/op=.NotIn)(q:∀s',zo X pins σ H s'->Q (.bool (if op=.In then b else !b)) s'):wpAny ↑a X.A (compareOp op v u) Q E s:=by
 have seqL:∀{ts:List T},ty=.lst ts->qb tx ts=some b->wpAny ↑a X.A (compareOp op v u) Q E s:=by
  intro ts hy ha;subst hy;unfold Is at iy;obtain⟨p,vs,rfl,g1,g2⟩:=iy;cases ry;obtain⟨its,r,pl,hz⟩:=I.list g1.sq;obtain⟨he,hb⟩:=mB I (by rw[Around.in1_units];omega) ix rx ha g2 r;rcases ho with rfl|rfl
  ·refine SeqAt.in_listAt _ pl.isList (λw hw=>he w (by simpa using hw)) ?_;have:its.toArray.any (qI X F H tx)=its.any (qI X F H tx):=by simp
   rw[this,hb];exact q s I
  ·refine SeqAt.notIn_listAt _ pl.isList (λw hw=>he w (by simpa using hw)) ?_;have:its.toArray.any (qI X F H tx)=its.any (qI X F H tx):=by simp
   rw[this,hb];exact q s I
 have seqT:∀{ts:List T},ty=.tup ts->qb tx ts=some b->wpAny ↑a X.A (compareOp op v u) Q E s:=by
  intro ts hy ha;subst hy;unfold Is at iy;obtain⟨p,vs,rfl,g1,g2⟩:=iy;cases ry;obtain⟨its,r,pl,hz⟩:=I.tuple g1;obtain⟨he,hb⟩:=mB I (by rw[Around.in1_units];omega) ix rx ha g2 r;rcases ho with rfl|rfl
  ·refine SeqAt.in_tupleAt _ pl (λw hw=>he w (by simpa using hw)) ?_;have:its.toArray.any (qI X F H tx)=its.any (qI X F H tx):=by simp
   rw[this,hb];exact q s I
  ·refine SeqAt.notIn_tupleAt _ pl (λw hw=>he w (by simpa using hw)) ?_;have:its.toArray.any (qI X F H tx)=its.any (qI X F H tx):=by simp
   rw[this,hb];exact q s I
 have dct:∀{ks:List Key}{ts:List T}{k:Key},ty=.dct ks ts->x=kV k->(qP ks ts k).isSome=b->wpAny ↑a X.A (compareOp op v u) Q E s:=by
  intro ks ts k hy hx hb;subst hy hx;unfold Is at iy;obtain⟨p,kvs,rfl,f,g1,g2,g3⟩:=iy;cases ry;have⟨d1,d2⟩:=pj k g2 g3;have:(ju kvs k).isSome=b:=by rw[<-hb];cases hd:qP ks ts k with|none=>rw[d2 hd];rfl|some t=>obtain⟨v',hv,_⟩:=d1 t hd;rw[hv];rfl
  rcases ho with rfl|rfl;·refine Lc ↑c I (.inl ⟨kvs,k,g1,rfl,rfl⟩:gJ H p (kV k) (ju kvs k)) rx λs' I'=>?_;rw[this];exact q s' I'
  ·refine rg ↑c I (.inl ⟨kvs,k,g1,rfl,rfl⟩:gJ H p (kV k) (ju kvs k)) rx λs' I'=>?_;rw[this];exact q s' I'
 cases ty<;>try(cases tx<;>simp[Ve]at e;done)
 case str y'=>cases tx<;>simp only[Ve,Option.some.injEq,reduceCtorEq]at e;case str x'=>
   unfold Is at ix iy;subst ix iy;obtain⟨t,rfl⟩:=rx;obtain⟨t',rfl⟩:=ry;rcases ho with rfl|rfl;·refine in_str ?_;have:=q s I;rw[if_pos rfl,<-e]at this;exact this
   ·refine notIn_str ?_;have:=q s I;rw[if_neg ↑f,<-e]at this;exact this
 case lst ts=>exact seqL rfl (by cases tx<;>simpa[Ve]using e)
 case tup ts=>exact seqT rfl (by cases tx<;>simpa[Ve]using e)
 case dct ks ts=>
  cases tx<;>simp[Ve,u6]at e;case int i=>unfold Is at ix;exact dct (k:=.inl i) rfl ix e
  case str i=>unfold Is at ix;exact dct (k:=.inr i) rfl ix e
theorem Vf(hu:X.A.units+41<cLine):ve X (compareOp .In) (rT X.K qQ):=by intro pins s σ H x y v u Q I rx ry h;obtain⟨F,tx,ty,rv,d,ix,iy,e,q⟩:=h;simp only[qQ,Option.map_eq_some_iff]at e;obtain⟨k,e,rfl⟩:=e;exact YA hu I ix iy rx ry e (.inl rfl) λs' I'=>⟨.bl k,H,I',rfl,jT d xg q rfl⟩
theorem Q1(hu:X.A.units+41<cLine):ve X (compareOp .NotIn) (rT X.K uB):=by intro pins s σ H x y v u Q I rx ry h;obtain⟨F,tx,ty,rv,d,ix,iy,e,q⟩:=h;simp only[uB,Option.map_eq_some_iff]at e;obtain⟨k,e,rfl⟩:=e;exact YA hu I ix iy rx ry e (.inr rfl) λs' I'=>⟨.bl (!k),H,I',rfl,jT d xg q rfl⟩
def zA:T->T->Option RV
 |.lst ts,.int i=>(cH ts i).map λt=>↑V|.tup ts,.int i=>(cH ts i).map λt=>↑V|.str z,.int i=>if z.length<=sizeLine then(cH z.cps.toList i).map λc=>(false,.str ⟨#[c]⟩)else none|.dct ks ts,y=>match u6 y with|none=>none|some k=>(qP ks ts k).map λt=>↑V
 |_,_=>none
theorem N9{prog:Program}{w:World}{A:Around}{E:Value->Shared->Prop}{s:Shared}{value slice:Expr}{o i:Value}{T id:String}{Q:Value->Shared->Prop}(hl:typeLookup (.type T) "__getitem__"=pure (some (.builtin id)))(hs:subscripted slice false o i=operate [o,i] (getItem o i))(hT:s.TypeIs o T)(h:wpAny ↑d A (getItem o i) Q E s):wpAny ↑d A (subscriptTail value slice o i) Q E s:=by
 unfold subscriptTail;refine wpAny_bind ?_;rw[getitemInPython_of_ne hT.not_modules];refine wpAny_bind (wpAny_specialOf hT hl ?_);have fin:wpAny ↑d A (subscripted slice false o i) (λr s₃=>wpAny ↑d A (letTemporaryGo value o r>>=λ_=>pure r) Q E s₃) E s:=by rw[hs];exact wpAny_operating (wpAny_mono h (λr s₃ h₃=>wpAny_bind (wpAny_letTemporaryGo (wpAny_pure h₃))) λ_ _ x=>x)
 first|exact wpAny_pure (wpAny_bind fin)|exact wpAny_bind (wpAny_pure (wpAny_bind fin))|exact wpAny_bind fin
theorem Ll(hu:X.A.units+1<cLine):US X (rT X.K zA):=by
 intro value slice pins s σ H x y v u Q I rx ry h hs;obtain⟨F,tx,ty,rv,d,ix,iy,e,q⟩:=h;cases tx<;>simp only[zA,reduceCtorEq]at e;case lst ts=>cases ty<;>simp only[reduceCtorEq]at e;case int i=>simp only[Option.map_eq_some_iff]at e;obtain⟨t,e,rfl⟩:=e;unfold Is at ix iy;obtain⟨p,vs,rfl,g1,g2⟩:=ix;obtain⟨z,hz,iz⟩:=g2.at e;exact WW value slice pins s σ H _ _ v u Q I rx ry ⟨p,vs,i,z,rfl,iy,g1.sq,hz,jT d iz q rfl⟩ hs
 case tup ts=>cases ty<;>simp only[reduceCtorEq]at e;case int i=>simp only[Option.map_eq_some_iff]at e;obtain⟨t,e,rfl⟩:=e;unfold Is at ix iy;obtain⟨p,vs,rfl,g1,g2⟩:=ix;obtain⟨z,hz,iz⟩:=g2.at e;exact G7 value slice pins s σ H _ _ v u Q I rx ry ⟨p,vs,i,z,rfl,iy,g1,hz,jT d iz q rfl⟩ hs
 case str z=>cases ty<;>simp only[reduceCtorEq]at e;case int i=>
   split at e;·rename_i hl;simp only[Option.map_eq_some_iff]at e;obtain⟨t,e,rfl⟩:=e;unfold Is at ix iy;exact G8 value slice pins s σ H _ _ v u Q I rx ry ⟨z,i,t,ix,iy,hl,e,jT d qV q rfl⟩ hs
   ·cases e
 case dct ks ts=>
  have key:∀k,y=kV k->∀t,qP ks ts k=some t->rv=↑V->wpAny ↑a X.A (subscriptTail value slice v u) (EP X pins σ Q) X.xe s:=by
   intro k hy t ht hrv;unfold Is at ix;obtain⟨p,kvs,rfl,f,g1,g2,g3⟩:=ix;cases rx;subst hy;obtain⟨w,hw,iw⟩:=(pj k g2 g3).1 t ht;have g:gJ H p (kV k) (some w):=by rw[<-hw];exact .inl ⟨kvs,k,g1,rfl,rfl⟩
   exact N9 PySem.F.slot_dict_getitem.lookup hs (uz I g) (iF hu I g ry λw' s3 I3 rw'=>⟨w,H,I3,rw',jT d iw q hrv⟩)
  cases ty<;>simp only[u6,reduceCtorEq]at e;case int i=>simp only[Option.map_eq_some_iff]at e;obtain⟨t,e,rfl⟩:=e;unfold Is at iy;exact key (.inl i) iy t e rfl
  case str i=>simp only[Option.map_eq_some_iff]at e;obtain⟨t,e,rfl⟩:=e;unfold Is at iy;exact key (.inr i) iy t e rfl
def qo(ts:List T)(lo hi:Option Int):List T:=(ts.drop (HT.sIx ts.length 0 lo)).take (HT.sIx ts.length ts.length hi-HT.sIx ts.length 0 lo)
def Wq:T->Option Int->Option Int->Option RV|.lst ts,lo,hi=>some (true,.lst (qo ts lo hi))|.tup ts,lo,hi=>some (false,.tup (qo ts lo hi))|.str z,lo,hi=>if z.length<=sizeLine then some (false,.str (Yh z lo hi))else none|_,_,_=>none
theorem rC{K:W.Frag}{F:Addr->Prop}{H:Hp}{ts:List T}{vs:List V}{lo hi:Option Int}(h:IsAll K F H ts vs):IsAll K F H (qo ts lo hi) (cG vs lo hi):=by unfold qo cG;rw[h.len];exact(h.drop _).take _
def IQ(K:W.Frag)(f:T->Option Int->Option Int->Option RV):V->Option Int->Option Int->Hp->VK->Prop:=λx lo hi H Q=>∃F tx rv,lJ F H/\Is K F H tx x/\f tx lo hi=some rv/\∀v F' H',jA F H F' H'->wz K ↑W F' H' v rv->Q v H'
theorem Lm:UQ X (IQ X.K Wq):=by
 intro pins s σ H x v vl vu lo hi sl Q I rx hs pl pu h;obtain⟨F,tx,rv,d,ix,e,q⟩:=h;cases tx<;>simp only[Wq,reduceCtorEq]at e;case lst ts=>cases e;unfold Is at ix;obtain⟨p,vs,rfl,g1,g2⟩:=ix;exact WX pins s σ H _ v vl vu lo hi sl Q I rx hs pl pu ⟨p,vs,rfl,g1.sq,λl hl=>cW d (rC g2) hl q⟩
 case tup ts=>
  cases e;have ix':=ix;unfold Is at ix;obtain⟨p,vs,rfl,g1,g2⟩:=ix;by_cases hw:HT.sIx vs.length 0 lo=0/\HT.sIx vs.length vs.length hi=vs.length
  ·cases rx;obtain⟨its,r,ht,hz⟩:=I.tuple g1;have hlen:its.toArray.size=vs.length:=by rw[List.size_toArray];exact r.length.symm
   refine⟨"tuple",_,PyProof.Rows.slot_tuple_getitem.lookup,ht.typeIs,HT.getItem_tuple_whole ht hs pl pu (by rw[hlen];exact hw) ⟨.ref p,H,I,rfl,jT d ix' q ?_⟩⟩;have:qo ts lo hi=ts:=by unfold qo;rw[g2.len,hw.1,hw.2,List.drop_zero];exact List.take_of_length_le (by rw[g2.len];omega)
   rw[this]
  ·exact G6 pins s σ H _ v vl vu lo hi sl Q I rx hs pl pu ⟨p,vs,rfl,g1,hw,λl hl=>Yt d (rC g2) hl q⟩
 case str z=>split at e<;>cases e;rename_i hl;unfold Is at ix;exact Gr pins s σ H _ v vl vu lo hi sl Q I rx hs pl pu ⟨z,ix,hl,jT d qV q rfl⟩
end
def Vg:T->Option Bool|.non=>some false|.bl b=>some b|.int i=>some (i !=0)|.str y=>if y.length<=sizeLine then some ((y.length:Int)!=0)else none|.lst ts=>some (!ts.isEmpty)|.tup ts=>some (!ts.isEmpty)|_=>none
def Vh{K:W.Frag}{F:Addr->Prop}{H:Hp}{t:T}{x:V}{b:Bool}(h:Vg t=some b)(i:Is K F H t x):G2 K x H b:=by
 cases t<;>simp only[Vg,Option.some.injEq,reduceCtorEq]at h<;>unfold Is at i;case non=>subst i h;rfl
 case bl=>subst i h;rfl
 case int=>subst i h;rfl
 case str y=>
  split at h;·rename_i hl;subst i;exact⟨hl,(Option.some.inj h).symm⟩
  ·cases h
 case lst ts=>obtain⟨a,vs,rfl,g1,g2⟩:=i;refine .inl ⟨vs,g1.sq,?_⟩;have:=g2.len;rw[<-h];cases ts<;>cases vs<;>simp at this⊢
 case tup ts=>obtain⟨a,vs,rfl,g1,g2⟩:=i;refine .inr (.inl ⟨vs,g1,?_⟩);have:=g2.len;rw[<-h];cases ts<;>cases vs<;>simp at this⊢
section
variable{X:Cx}{a b c e:Expr}{pos:Pos}{ma mb mc:ME}{ta tb tc:TE}{rest:List Expr}
def vQ(m:ME):MT:=λenv=>(m env).bind λx=>aL (Vg x.2)
theorem zS(ha:j9 X a ma)(he:∀whole,isTrue a X.env whole=(do let v<-whole;standAt a.pos;holding [v] (truthy v))):cQ X a (vQ ma):=by obtain⟨ta,pa,sa⟩:=ha;refine⟨_,JV pa he,?_⟩;intro F H σ env Q R nb ok ex;unfold vQ at nb ok ex;refine sa.val R ↑b (λr1 e1 v1 F1 H1 x1 i1=>?_) λx z=>ex x ↑v;rw[e1,bind_ok]at nb ok;cases h:Vg r1.2 with|none=>rw[h]at nb;exact absurd rfl nb|some k=>rw[h]at ok;exact⟨k,Vh h i1,ok k rfl F1 H1 x1⟩
def jl(m:MT):MT:=λenv=>(m env).bind λx=>.ok (!x)
def qW(m n:MT):MT:=λenv=>(m env).bind λx=>if x=true then n env else .ok false
def wV(m n:MT):MT:=λenv=>(m env).bind λx=>if x=true then .ok true else n env
theorem YB(h:kO X t m):kO X (Uv t) (jl m):=by intro F H σ env Q R nb ok ex;unfold jl at nb ok ex;refine h F H σ env _ R ↑b (λk e F' H' x=>?_) λx z=>ex x ↑v;rw[e,bind_ok]at ok;exact ok _ rfl F' H' x
theorem YC(h:kO X t m)(g:kO X u n):kO X (Uu t u) (qW m n):=by intro F H σ env Q R nb ok ex;unfold qW at nb ok ex;refine h F H σ env _ R ↑b (λk e F1 H1 x1=>?_) λx z=>ex x ↑v;rw[e,bind_ok]at nb ok ex;cases k with|true=>rw[if_pos rfl]at nb ok ex⊢;exact g F1 H1 σ env Q (R.mono x1) nb (λk e F' H' x=>ok k e F' H' (x1.trans x)) λx z=>(ex x z).mono x1|false=>rw[if_neg Bool.false_ne_true]at ok⊢;exact ok _ rfl F1 H1 x1
theorem Vi(h:kO X t m)(g:kO X u n):kO X (Ii t u) (wV m n):=by intro F H σ env Q R nb ok ex;unfold wV at nb ok ex;refine h F H σ env _ R ↑b (λk e F1 H1 x1=>?_) λx z=>ex x ↑v;rw[e,bind_ok]at nb ok ex;cases k with|false=>rw[if_neg Bool.false_ne_true]at nb ok ex⊢;exact g F1 H1 σ env Q (R.mono x1) nb (λk e F' H' x=>ok k e F' H' (x1.trans x)) λx z=>(ex x z).mono x1|true=>rw[if_pos rfl]at ok⊢;exact ok _ rfl F1 H1 x1
def Q2(X:Cx)(e:Expr)(m:MT):Prop:=∃t,PW X e t/\kO X t m
theorem Q2.pt(h:Q2 X e m):cQ X e m:=let⟨t,p,s⟩:=h;⟨t,p.pt,s⟩
theorem nJ(h:cQ X a m):Q2 X (.BoolOp .And [a] pos) m:=let⟨t,p,s⟩:=h;⟨t,WF p,s⟩
theorem vB(h:cQ X a m):Q2 X (.BoolOp .Or [a] pos) m:=let⟨t,p,s⟩:=h;⟨t,QI p,s⟩
theorem mD(h:cQ X a m)(g:Q2 X (.BoolOp .And (b::rest) pos) n):Q2 X (.BoolOp .And (a::b::rest) pos) (qW m n):=by obtain⟨t,p,s⟩:=h;obtain⟨u,p',s'⟩:=g;exact⟨_,QJ p p',YC s s'⟩
theorem kc(h:cQ X a m)(g:Q2 X (.BoolOp .Or (b::rest) pos) n):Q2 X (.BoolOp .Or (a::b::rest) pos) (wV m n):=by obtain⟨t,p,s⟩:=h;obtain⟨u,p',s'⟩:=g;exact⟨_,Uw p p',Vi s s'⟩
theorem xn(h:cQ X a m):cQ X (.UnaryOp .Not a pos) (jl m):=let⟨t,p,s⟩:=h;⟨_,QK p,YB s⟩
def xo(ma mb:ME):ME:=λenv=>(ma env).bind λx=>match x.2 with|.bl k=>if k=true then mb env else .ok ↑T|_=>.bad
def iO(ma:ME):ME:=λenv=>(ma env).bind λx=>match x.2 with|.bl k=>.ok (false,.bl (!k))|_=>.bad
theorem ke{K:W.Frag}{F F1 F':Addr->Prop}{H H1 H':Hp}{v:V}{r:RV}(x:jA F H F1 H1)(i:wz K (λa=>H1 a=none) F' H' v r):wz K ↑W F' H' v r:=by
 unfold wz at i⊢;split;·rename_i ho;rw[if_pos ho]at i;obtain⟨a,e,nf,fr,o⟩:=i;exact⟨a,e,nf,j8 x.same fr,o⟩
 ·rename_i ho;rw[if_neg ho]at i;exact i
theorem xG.next(h:xG X t m)(R:w4 X.K F H σ env)(x1:jA F H F1 H1)(nb:m env≠.bad)(ok:∀r,m env=.ok r->∀v F' H',jA F H F' H'->wz X.K ↑W F' H' v r->Q v H')(ex:∀x,m env=.exc x->ZX X F H σ x):t σ H1 Q:=h F1 H1 σ env Q (R.mono x1) nb (λr e v F' H' x i=>ok r e v F' H' (x1.trans x) (ke x1 i)) λx z=>(ex x z).mono x1
theorem pp{op}(h:j9 X a m):j9 X (.BoolOp op [a] pos) m:=let⟨t,p,s⟩:=h;⟨t,QL p,s⟩
theorem qX(ha:j9 X a ma)(hb:j9 X (.BoolOp .And (b::rest) pos) mb):j9 X (.BoolOp .And (a::b::rest) pos) (xo ma mb):=by obtain⟨ta,pa,sa⟩:=ha;obtain⟨tb,pb,sb⟩:=hb;refine⟨_,QM pa pb,?_⟩;intro F H σ env Q R nb ok ex;unfold xo at nb ok ex;refine sa.val R ↑b (λr1 e1 v1 F1 H1 x1 i1=>?_) λx z=>ex x ↑v;rw[e1,bind_ok]at nb ok ex;obtain⟨o,t⟩:=r1;cases t with
 |bl k=>unfold Is at i1;refine⟨k,i1,?_⟩;cases k with|true=>rw[if_pos rfl];exact sb.next R x1 nb ok ex|false=>rw[if_neg Bool.false_ne_true];exact ok _ rfl _ F1 H1 x1 (jc xg)
 |_=>exact absurd rfl nb
theorem Q3(ha:j9 X a ma):j9 X (.UnaryOp .Not a pos) (iO ma):=by obtain⟨ta,pa,sa⟩:=ha;refine⟨_,QN pa,?_⟩;intro F H σ env Q R nb ok ex;unfold iO at nb ok ex;refine sa.val R ↑b (λr1 e1 v1 F1 H1 x1 i1=>?_) λx z=>ex x ↑v;rw[e1,bind_ok]at nb ok ex;obtain⟨o,t⟩:=r1;cases t with|bl k=>unfold Is at i1;exact⟨k,i1,ok _ rfl _ F1 H1 x1 (jc xg)⟩|_=>exact absurd rfl nb
def YD(ma:ME):ME:=λenv=>(ma env).bind λx=>match x.2 with|.int i=>.ok (false,.int (-i))|_=>.bad
theorem YE(ha:j9 X a ma):j9 X (.UnaryOp .USub a pos) (YD ma):=by obtain⟨ta,pa,sa⟩:=ha;refine⟨_,KQ JR pa,?_⟩;intro F H σ env Q R nb ok ex;unfold YD at nb ok ex;refine sa.val R ↑b (λr1 e1 v1 F1 H1 x1 i1=>?_) λx z=>ex x ↑v;rw[e1,bind_ok]at nb ok ex;obtain⟨o,t⟩:=r1;cases t with|int k=>unfold Is at i1;exact⟨k,i1,ok _ rfl _ F1 H1 x1 (jc xb)⟩|_=>exact absurd rfl nb
def YF(m:MT)(ma mb:ME):ME:=λenv=>(m env).bind λk=>if k=true then ma env else mb env
theorem d3(hc:cQ X c m)(ha:j9 X a ma)(hb:j9 X b mb):j9 X (.IfExp c a b pos) (YF m ma mb):=by obtain⟨t,p,s⟩:=hc;obtain⟨ta,pa,sa⟩:=ha;obtain⟨tb,pb,sb⟩:=hb;refine⟨_,cy p pa pb,?_⟩;intro F H σ env Q R nb ok ex;unfold YF at nb ok ex;refine s F H σ env _ R ↑b (λk e F1 H1 x1=>?_) λx z=>ex x ↑v;rw[e,bind_ok]at nb ok ex;cases k with|true=>rw[if_pos rfl]at nb ok ex⊢;exact sa.next R x1 nb ok ex|false=>rw[if_neg Bool.false_ne_true]at nb ok ex⊢;exact sb.next R x1 nb ok ex
theorem tO(hu:X.A.units+1<cLine)(ha:j9 X a ma)(hb:j9 X b mb)(hs:eM b):j9 X (.Subscript a b pos) (m2 zA ma mb):=by obtain⟨ta,pa,sa⟩:=ha;obtain⟨tb,pb,sb⟩:=hb;exact⟨_,UT (Ll hu) pa pb hs,eY w9 sa sb⟩
abbrev MO:=En->kN (Option Int)
def Ln(X:Cx)(t:TO)(m:MO):Prop:=∀(F:Addr->Prop)(H:Hp)(σ:St)(env:En)(Q:Option Int->Hp->Prop),w4 X.K F H σ env->m env≠.bad->(∀b,m env=.ok b->∀F' H',jA F H F' H'->Q b H')->(∀x,m env=.exc x->ZX X F H σ x)->t σ H Q
def Mn(X:Cx)(e:Option Expr)(m:MO):Prop:=∃t,PO X e t/\Ln X t m
def jE:MO:=λ_=>.ok none
def jq(m:ME):MO:=λenv=>(m env).bind λx=>match x.2 with|.int i=>.ok (some i)|_=>.bad
theorem vR:Mn X none jE:=⟨_,WS,λF H σ env Q R nb ok ex=>ok none rfl F H (.refl R.dom)⟩
theorem jb(ha:j9 X a ma):Mn X (some a) (jq ma):=by obtain⟨ta,pa,sa⟩:=ha;refine⟨_,WT pa,?_⟩;intro F H σ env Q R nb ok ex;unfold jq at nb ok ex;refine sa.val R ↑b (λr1 e1 v1 F1 H1 x1 i1=>?_) λx z=>ex x ↑v;rw[e1,bind_ok]at nb ok ex;obtain⟨o,t⟩:=r1;cases t with|int k=>unfold Is at i1;exact⟨k,i1,ok _ rfl F1 H1 x1⟩|_=>exact absurd rfl nb
def uC(ma:ME)(ml mh:MO):ME:=λenv=>(ma env).bind λx=>(ml env).bind λl=>(mh env).bind λh=>aL (Wq x.2 l h)
theorem jU{lo hi:Option Expr}{ml mh:MO}{p2:Pos}(ha:j9 X a ma)(hl:Mn X lo ml)(hh:Mn X hi mh):j9 X (.Subscript a (.Slice lo hi none p2) pos) (uC ma ml mh):=by obtain⟨ta,pa,sa⟩:=ha;obtain⟨tl,pl,sl⟩:=hl;obtain⟨th,ph,sh⟩:=hh;refine⟨_,Y0 Lm pa pl ph,?_⟩;intro F H σ env Q R nb ok ex;unfold uC at nb ok ex;refine sa.val R ↑b (λr1 e1 v1 F1 H1 x1 i1=>?_) λx z=>ex x ↑v;rw[e1,bind_ok]at nb ok ex;refine sl F1 H1 σ env _ (R.mono x1) ↑b (λl e2 F2 H2 x2=>?_) λx z=>(ex x ↑v).mono x1;rw[e2,bind_ok]at nb ok ex;refine sh F2 H2 σ env _ ((R.mono x1).mono x2) ↑b (λh e3 F3 H3 x3=>?_) λx z=>(ex x ↑v).mono (x1.trans x2);rw[e3,bind_ok]at nb ok ex;cases h:Wq r1.2 l h with|none=>rw[h]at nb;exact absurd rfl nb|some rv=>rw[h]at ok;have x13:=(x1.trans x2).trans x3;exact⟨F3,r1.2,rv,x3.dom,i1.mono (x2.trans x3).kept,h,λv F' H' x i=>ok rv rfl v F' H' (x13.trans x) (ke x13 i)⟩
end
def xD(K:W.Frag)(fr F:Addr->Prop)(H:Hp):List V->List RV->Prop|[],[]=>True|v::vs,r::rs=>wz K fr F H v r/\xD K fr F H vs rs/\(r.1=true->∀(i:Nat)(r':RV),rs[i]?=some r'->r'.1=true->vs[i]?≠some v)|_,_=>False
def wz.there{K:W.Frag}{fr F:Addr->Prop}{H:Hp}{v:V}{r:RV}(h:wz K fr F H v r)(o:r.1=true):∃a,v=.ref a/\¬F a/\fr a/\H a≠none/\wX K F H a r.2:=by unfold wz at h;rw[if_pos o]at h;obtain⟨a,e,nf,f,w⟩:=h;exact⟨a,e,nf,f,w.there,w⟩
def wz.mono{K:W.Frag}{fr F F1:Addr->Prop}{H H1:Hp}{v:V}{r:RV}(x:jA F H F1 H1)(h:wz K fr F H v r):wz K fr F1 H1 v r:=by
 unfold wz at h⊢;split
 ·rename_i o;rw[if_pos o]at h;obtain⟨a,e,nf,f,w⟩:=h;refine⟨a,e,λz=>?_,f,w.mono x.kept λo q=>x.same a o q⟩;rcases x.new a z with z|z;·exact nf z
  ·exact w.there z
 ·rename_i o;rw[if_neg o]at h;exact h.mono x.kept
def xD.frz{K:W.Frag}{F F1:Addr->Prop}{H H1:Hp}:∀{vs:List V}{rs:List RV},jA F H F1 H1->xD K ↑W F1 H1 vs rs->∃F2,jA F H F2 H1/\(∀a,F1 a->F2 a)/\IsAll K F2 H1 (rs.map (·.2)) vs
 |[],[],x,_=>⟨F1,x,λ_ h=>h,IsAll.nil⟩|[],_::_,_,h=>h.elim|_::_,[],_,h=>h.elim|v::vs,r::rs,x,h=>by
  obtain⟨h1,h2,_⟩:=h;obtain⟨F2,x2,s2,i2⟩:=xD.frz x h2;by_cases o:r.1=true;·obtain⟨a,rfl,nf,fr,th,w⟩:=h1.there o;refine⟨λb=>F2 b\/b=a,x2.freeze fr th,λb q=>.inl (s2 b q),IsAll.cons ?_ (i2.mono ⟨λb q=>.inl q,λ_ _ _ q=>q,λ_ _ q _ _=>q⟩)⟩;exact w.is (λb q=>.inl (s2 b q)) (.inr rfl)
  ·obtain⟨o',t⟩:=r;cases o' with|true=>exact absurd rfl o|false=>exact⟨F2,x2,s2,IsAll.cons (h1.is.mono ⟨s2,λ_ _ _ q=>q,λ_ _ q _ _=>q⟩) i2⟩
def tP(X:Cx)(t:TA)(m:MA):Prop:=∀(F:Addr->Prop)(H:Hp)(σ:St)(env:En)(Q:List V->Hp->Prop),w4 X.K F H σ env->m env≠.bad->(∀rs,m env=.ok rs->∀vs F' H',jA F H F' H'->xD X.K ↑W F' H' vs rs->Q vs H')->(∀x,m env=.exc x->ZX X F H σ x)->t σ H Q
def aM(X:Cx)(es:List Expr)(m:MA):Prop:=∃t,PA X es t/\tP X t m
def ze:MA:=λ_=>.ok []
def z9(me:ME)(ma:MA):MA:=λenv=>(me env).bind λx=>(ma env).bind λxs=>.ok (x::xs)
def za:aM X [] ze:=⟨_,w8,λF H σ env Q R nb ok ex=>ok [] rfl [] F H (.refl R.dom) trivial⟩
def z3(he:j9 X e me)(ha:aM X es ma)(hs:starEach (e::es) X.env=↑x::starEach es X.env:=by rfl):aM X (e::es) (z9 me ma):=by
 obtain⟨te,pe,se⟩:=he;obtain⟨ta,pa,sa⟩:=ha;refine⟨_,jR pe pa hs,?_⟩;intro F H σ env Q R nb ok ex;unfold z9 at nb ok ex;refine se F H σ env _ R ↑b (λr1 e1 v1 F1 H1 x1 i1=>?_) λx z=>ex x ↑v;rw[e1,bind_ok]at nb ok ex;refine sa F1 H1 σ env _ (R.mono x1) ↑b (λrs e2 vs F2 H2 x2 i2=>?_) λx z=>(ex x ↑v).mono x1;rw[e2,bind_ok]at ok;have back:∀{vs:List V}{rs:List RV},xD X.K (λa=>H1 a=none) F2 H2 vs rs->xD X.K ↑W F2 H2 vs rs/\∀(i:Nat)(r':RV)(a:Addr),rs[i]?=some r'->r'.1=true->vs[i]?=some (.ref a)->H1 a=none:=by intro vs;induction vs with
  |nil=>intro rs h;cases rs with|nil=>exact⟨trivial,λi r' a h=>by simp at h⟩|cons _ _=>exact h.elim
  |cons v vs ih=>intro rs h;cases rs with|nil=>exact h.elim|cons r rs=>obtain⟨h1,h2,h3⟩:=h;obtain⟨g1,g2⟩:=ih h2;refine⟨⟨ke x1 h1,g1,h3⟩,λi r' a hr ho hv=>?_⟩;cases i with|zero=>simp at hr hv;subst hr hv;obtain⟨b,e,_,f,_⟩:=h1.there ho;cases e;exact f|succ i=>exact g2 i r' a (by simpa using hr) ho (by simpa using hv)
 obtain⟨b1,b2⟩:=back i2;refine ok _ rfl (v1::vs) F2 H2 (x1.trans x2) ⟨i1.mono x2,b1,λho i r' hr ho' hv=>?_⟩;obtain⟨a,rfl,_,_,th,_⟩:=i1.there ho;exact th (b2 i r' a hr ho' hv)
def jJ(ma:MA):ME:=λenv=>(ma env).bind λrs=>if rs.length<=sizeLine then .ok (false,.tup (rs.map (·.2)))else .bad
def xK(ma:MA):ME:=λenv=>(ma env).bind λrs=>if rs.length<=sizeLine then .ok (true,.lst (rs.map (·.2)))else .bad
def xD.len{K:W.Frag}{fr F:Addr->Prop}{H:Hp}:∀{vs:List V}{rs:List RV},xD K fr F H vs rs->vs.length=rs.length|[],[],_=>rfl|[],_::_,h=>h.elim|_::_,[],h=>h.elim|_::vs,_::rs,h=>by rw[List.length_cons,List.length_cons,xD.len h.2.1]
def jd{x1}(h:aM X es ma):j9 X (.Tuple es x1 pos) (jJ ma):=by
 obtain⟨ta,pa,sa⟩:=h;refine⟨_,G4 pa,?_⟩;intro F H σ env Q R nb ok ex;unfold jJ at nb ok ex;refine sa F H σ env _ R ↑b (λrs e1 vs F1 H1 x1 i1=>?_) λx z=>ex x ↑v;rw[e1,bind_ok]at nb ok ex;obtain⟨F2,x2,s2,i2⟩:=i1.frz x1;by_cases hl:rs.length<=sizeLine;·rw[if_pos hl]at ok;refine⟨by rw[i1.len];exact hl,λp hp=>?_⟩;exact Yt x2.dom i2 hp λv F' H' x i=>ok _ rfl v F' H' (x2.trans x) (ke x2 i)
 ·rw[if_neg hl]at nb;exact absurd rfl nb
def x8(h:aM X es ma):j9 X (.List es pos) (xK ma):=by
 obtain⟨ta,pa,sa⟩:=h;refine⟨_,G5 pa,?_⟩;intro F H σ env Q R nb ok ex;unfold xK at nb ok ex;refine sa F H σ env _ R ↑b (λrs e1 vs F1 H1 x1 i1=>?_) λx z=>ex x ↑v;rw[e1,bind_ok]at nb ok ex;obtain⟨F2,x2,s2,i2⟩:=i1.frz x1;by_cases hl:rs.length<=sizeLine;·rw[if_pos hl]at ok;refine⟨by rw[i1.len];exact hl,λp hp=>?_⟩;exact cW x2.dom i2 hp λv F' H' x i=>ok _ rfl v F' H' (x2.trans x) (ke x2 i)
 ·rw[if_neg hl]at nb;exact absurd rfl nb
def zp(f:List T->Option RV)(ma:MA):ME:=λenv=>(ma env).bind λrs=>aL (f (rs.map (·.2)))
def YG{f:List T->Option RV}{t:TA}(sa:tP X t ma):xG X (L4 (Ys X.K f) t) (zp f ma):=by intro F H σ env Q R nb ok ex;unfold zp at nb ok ex;refine sa F H σ env _ R ↑b (λrs e1 vs F1 H1 x1 i1=>?_) λx z=>ex x ↑v;rw[e1,bind_ok]at nb ok ex;obtain⟨F2,x2,s2,i2⟩:=i1.frz x1;cases h:f (rs.map (·.2))with|none=>rw[h]at nb;exact absurd rfl nb|some rv=>rw[h]at ok;exact⟨F2,_,rv,x2.dom,i2,h,λv F' H' x i=>ok rv rfl v F' H' (x2.trans x) (ke x2 i)⟩
def zt{id:String}{f:List T->Option RV}(hc:vg X (.builtin id) (Ys X.K f))(hg:Gl X x)(hm:X.mg x=none)(hv:bootBuiltins x=some (.builtin id))(ha:aM X (e::es) ma)(hn:x≠"__name__":=by decide)(hdb:(x==↑t)=false:=by decide)(he:starEach (e::es) X.env=↑x::starEach es X.env:=by rfl)(hpl:(backTo pos ↑ag).any (·.1)=false:=by rfl):j9 X ↑R (zp f ma):=by obtain⟨ta,pa,sa⟩:=ha;exact⟨_,cF hc hg hm hv pa hn hdb he hpl,YG sa⟩
def xp{id:String}{f:List T->Option RV}(hc:vg X (.type id) (Ys X.K f))(hg:Gl X x)(hm:X.mg x=none)(hv:bootBuiltins x=some (.type id))(ha:aM X (e::es) ma)(hn:x≠"__name__":=by decide)(hdb:(x==↑t)=false:=by decide)(he:starEach (e::es) X.env=↑x::starEach es X.env:=by rfl)(hpl:(backTo pos ↑ag).any (·.1)=false:=by rfl):j9 X ↑R (zp f ma):=by obtain⟨ta,pa,sa⟩:=ha;exact⟨_,ZI hc hg hm hv pa hn hdb he hpl,YG sa⟩
structure Bs where
 M:Addr->Prop
 H:Hp
 F:Addr->Prop
structure nj(B:Bs)(F:Addr->Prop)(H:Hp):Prop where
 dom:lJ F H
 sub:∀a,B.F a->F a
 new:∀a,F a->B.F a\/B.H a=none\/B.M a
 keep:∀a o,B.H a=some o->¬B.M a->H a=some o
 f0:∀a,B.F a->¬B.M a
structure zN(K:W.Frag)(B:Bs)(F:Addr->Prop)(H:Hp)(σ:St)(env:En):Prop where
 fr:nj B F H
 len:env.length=σ.length
 vals:∀(i:Nat)(t:T),env[i]?=some (some ↑V)->∃v,σ[i]?=some (some v)/\Is K F H t v
 owns:∀(i:Nat)(t:T),env[i]?=some (some (true,t))->∃a,σ[i]?=some (some (.ref a))/\¬F a/\(B.H a=none\/B.M a)/\wX K F H a t
 sep:∀(i j:Nat)(t t':T)(a:Addr),env[i]?=some (some (true,t))->env[j]?=some (some (true,t'))->σ[i]?=some (some (.ref a))->σ[j]?=some (some (.ref a))->i=j
structure YH(K:W.Frag)(B:Bs)(F:Addr->Prop)(H:Hp)(v:V)(r:RV):Prop where
 fr:nj B F H
 val:wz K (λa=>B.H a=none\/B.M a) F H v r
def xU:Option RV->Option RV|some (true,_)=>none|o=>o
def hide(env:En):En:=env.map xU
def frz1:Option RV->Option RV|some (_,t)=>some ↑V|none=>none
def J1(env:En):En:=env.map frz1
def mE:Option RV->Bool|some (true,.lst _)=>true|_=>false
def d6:Option RV->Bool|some (true,.dct _ _)=>true|_=>false
def d7:Option RV->Bool|some (true,.obj _ _ _)=>true|_=>false
def d8:RV->Bool|(true,.lst ts)=>noLs ts|(true,.dct _ ts)=>noLs ts|(true,.obj _ _ ts)=>noLs ts|(_,t)=>rq t
def tQ:RV->Bool|(true,.lst ts)=>noDs ts|(true,.dct _ ts)=>noDs ts|(true,.obj _ _ ts)=>noDs ts|(_,t)=>ZV t
def tR:RV->Bool|(true,.lst ts)=>noOs ts|(true,.dct _ ts)=>noOs ts|(true,.obj _ _ ts)=>noOs ts|(_,t)=>ZW t
theorem Q4{C:Addr}{t:T}(h:d8 ↑V=true):rq (.exn C t)=true:=by rw[rq];cases t<;>exact h
theorem Q5{C:Addr}{t:T}(h:tQ ↑V=true):ZV (.exn C t)=true:=by rw[ZV];cases t<;>exact h
theorem Q6{C:Addr}{t:T}(h:tR ↑V=true):ZW (.exn C t)=true:=by rw[ZW];cases t<;>exact h
def clean(env:En)(r:RV):Bool:=(!env.any mE||d8 r)&&(!env.any d6||tQ r)&&(!env.any d7||tR r)
def fw(hc:clean env r=true):(env.any mE=true->d8 r=true)/\(env.any d6=true->tQ r=true)/\(env.any d7=true->tR r=true):=by unfold clean at hc;simp only[Bool.and_eq_true,Bool.or_eq_true,Bool.not_eq_true']at hc;exact⟨λz=>by rcases hc.1.1 with q|q;(rw[z]at q;cases q);exact q,λz=>by rcases hc.1.2 with q|q;(rw[z]at q;cases q);exact q,λz=>by rcases hc.2 with q|q;(rw[z]at q;cases q);exact q⟩
def settle(env:En)(r:RV):En:=if clean env r=true then env else J1 env
def xj(m:ME)(env:En):kN (RV×En):=match m (hide env)with|.ok r=>.ok (r,env)|.exc x=>.exc x|.bad=>match m env with|.ok r=>.ok (r,settle env r)|.exc x=>if clean env (false,x.at_)=true then .exc x else .bad|.bad=>.bad
section
variable{K:W.Frag}{B:Bs}{F F':Addr->Prop}{H H':Hp}{σ:St}{env:En}{v:V}{r:RV}
theorem qk{f:Option RV->Option RV}{i:Nat}{o:Option RV}(h:(env.map f)[i]?=some o):∃o',env[i]?=some o'/\f o'=o:=by rw[List.getElem?_map]at h;cases e:env[i]? with|none=>rw[e]at h;cases h|some o'=>rw[e]at h;exact⟨o',rfl,Option.some.inj h⟩
theorem cZ{i:Nat}{r:RV}(h:(hide env)[i]?=some (some r)):∃t,r=↑V/\env[i]?=some (some ↑V):=by obtain⟨o,e,q⟩:=qk h;cases o with|none=>cases q|some r'=>obtain⟨b,t⟩:=r';cases b with|true=>cases q|false=>cases q;exact⟨t,rfl,e⟩
theorem zG(f:nj B F H)(h:H a=none):B.H a=none\/B.M a:=by cases e:B.H a with|none=>exact .inl rfl|some o=>
  by_cases hm:B.M a;·exact .inr hm
  ·rw[f.keep a o e hm]at h;cases h
theorem nj.ext(f:nj B F H)(x:jA F H F' H'):nj B F' H':=by
 refine⟨x.dom,λa h=>x.sub a (f.sub a h),λa h=>?_,λa o h hm=>x.same a o (f.keep a o h hm),f.f0⟩;rcases x.new a h with h|h;·exact f.new a h
 ·exact .inr (zG f h)
theorem zN.hid(R:zN K B F H σ env):w4 K F H σ (hide env):=⟨R.fr.dom,λi r h=>by obtain⟨t,rfl,e⟩:=cZ h;exact R.vals i t e⟩
def rD(σ:St)(env:En)(a:Addr):Prop:=∃(i:Nat)(t:T),env[i]?=some (some (true,t))/\σ[i]?=some (some (V.ref a))
theorem zN.own_not(R:zN K B F H σ env)(h:rD σ env a):¬F a/\H a≠none/\(B.H a=none\/B.M a):=by obtain⟨i,t,e,s⟩:=h;obtain⟨b,s',nf,fr,o⟩:=R.owns i t e;rw[s]at s';cases s';exact⟨nf,o.there,fr⟩
theorem zN.opn(R:zN K B F H σ env):w4 K (λa=>F a\/rD σ env a) H σ env:=⟨λa h=>by
  rcases h with h|h;·exact R.fr.dom a h
  ·exact(R.own_not h).2.1,λi r h=>by obtain⟨b,t⟩:=r;cases b with|false=>obtain⟨v,s,q⟩:=R.vals i t h;exact⟨v,s,q.mono ⟨λa h=>.inl h,λ_ _ _ h=>h,λ_ _ h _ _=>h⟩⟩|true=>obtain⟨a,s,nf,fr,o⟩:=R.owns i t h;exact⟨.ref a,s,o.is (λb h=>.inl h) (.inr ⟨i,t,h,s⟩)⟩⟩
theorem zN.ext(R:zN K B F H σ env)(x:jA F H F' H'):zN K B F' H' σ env:=⟨R.fr.ext x,R.len,λi t h=>let⟨v,s,q⟩:=R.vals i t h;⟨v,s,q.mono x.kept⟩,λi t h=>by
  obtain⟨a,s,nf,fr,o⟩:=R.owns i t h;refine⟨a,s,λz=>?_,fr,o.mono x.kept λo q=>x.same a o q⟩;rcases x.new a z with z|z;·exact nf z
  ·exact o.there z,R.sep⟩
theorem zN.closed(R:zN K B F H σ env)(x:jA (λa=>F a\/rD σ env a) H F' H'):zN K B (λa=>F' a/\¬rD σ env a) H' σ env/\jA F H (λa=>F' a/\¬rD σ env a) H':=by
 have e:jA F H (λa=>F' a/\¬rD σ env a) H':=⟨x.same,λa h=>⟨x.sub a (.inl h),λz=>(R.own_not z).1 h⟩,λa h=>by
  rcases x.new a h.1 with(z|z)|z;·exact .inl z
  ·exact absurd z h.2
  ·exact .inr z,λa h=>x.dom a h.1⟩;exact⟨R.ext e,e⟩
theorem zN.cleans(R:zN K B F H σ env)(x:jA (λa=>F a\/rD σ env a) H F' H'):eX F' (λa=>F' a/\¬rD σ env a) H' (env.any mE) (env.any d6) (env.any d7):=by
 have own:∀a,rD σ env a->(∃xs,H' a=some (.lst xs)/\env.any mE=true)\/(∃xs,H' a=some (.dK xs)/\env.any d6=true)\/∃C dx xs,H' a=some (.ins C dx xs)/\env.any d7=true:=by intro a⟨i,t,e,s⟩;obtain⟨b,s',nf,fr,o⟩:=R.owns i t e;rw[s]at s';cases s';cases t with|lst ts=>obtain⟨vs,h,_⟩:=o;exact .inl ⟨vs,x.same _ _ h,List.any_eq_true.mpr ⟨_,List.mem_of_getElem? e,rfl⟩⟩|dct ks ts=>obtain⟨vs,h,_⟩:=o;exact .inr (.inl ⟨vs,x.same _ _ h,List.any_eq_true.mpr ⟨_,List.mem_of_getElem? e,rfl⟩⟩)|obj C fs ts=>obtain⟨dx,vs,h,_⟩:=o;exact .inr (.inr ⟨_,_,vs,x.same _ _ h,List.any_eq_true.mpr ⟨_,List.mem_of_getElem? e,rfl⟩⟩)|_=>exact o.elim
 refine⟨λa xs f h l=>⟨f,λz=>?_⟩,λa xs f h l=>⟨f,λz=>?_⟩,λa C dx xs f h l=>⟨f,λz=>?_⟩,λa ob u f h=>⟨f,λz=>?_⟩⟩
 ·rcases own a z with⟨ys,h',l'⟩|⟨ys,h',_⟩|⟨_,_,ys,h',_⟩;·rw[l]at l';cases l'
  ·rw[h]at h';cases h'
  ·rw[h]at h';cases h'
 ·rcases own a z with⟨ys,h',_⟩|⟨ys,h',l'⟩|⟨_,_,ys,h',_⟩;·rw[h]at h';cases h'
  ·rw[l]at l';cases l'
  ·rw[h]at h';cases h'
 ·rcases own a z with⟨ys,h',_⟩|⟨ys,h',_⟩|⟨_,_,ys,h',l'⟩;·rw[h]at h';cases h'
  ·rw[h]at h';cases h'
  ·rw[l]at l';cases l'
 ·rcases own a z with⟨ys,h',_⟩|⟨ys,h',_⟩|⟨_,_,ys,h',_⟩<;>(rw[h]at h';cases h')
theorem J2(c:eX F F' H l d o)(hs:∀a,F' a->F a)(hl:l=true->d8 r=true)(hd:d=true->tQ r=true)(ho:o=true->tR r=true)(i:wz K fr F H v r):wz K fr F' H v r:=by obtain⟨b,t⟩:=r;unfold wz at i⊢;cases b with|false=>simp only[Bool.false_eq_true,if_false]at i⊢;exact Is.clean c (λz=>by have:=hl z;cases t<;>simpa[d8]using this) (λz=>by have:=hd z;cases t<;>simpa[tQ]using this) (λz=>by have:=ho z;cases t<;>simpa[tR]using this) i|true=>simp only[if_true]at i⊢;obtain⟨a,e,nf,f,o⟩:=i;refine⟨a,e,λz=>nf (hs a z),f,?_⟩;cases t with|lst ts=>obtain⟨vs,h,q⟩:=o;exact⟨vs,h,IsAll.clean c (λz=>hl z) (λz=>hd z) (λz=>ho z) q⟩|dct ks ts=>obtain⟨vs,h,k,q⟩:=o;exact⟨vs,h,k,IsAll.clean c (λz=>hl z) (λz=>hd z) (λz=>ho z) q⟩|obj C fs ts=>obtain⟨dx,vs,h,k,q⟩:=o;exact⟨dx,vs,h,k,IsAll.clean c (λz=>hl z) (λz=>hd z) (λz=>ho z) q⟩|_=>exact o.elim
theorem zN.frozen(R:zN K B F H σ env)(x:jA (λa=>F a\/rD σ env a) H F' H'):zN K B F' H' σ (J1 env):=by
 have fr:nj B F' H':=⟨x.dom,λa h=>x.sub a (.inl (R.fr.sub a h)),λa h=>by
  rcases x.new a h with(z|z)|z;·exact R.fr.new a z
  ·exact .inr (R.own_not z).2.2
  ·exact .inr (zG R.fr z),λa o h hm=>x.same a o (R.fr.keep a o h hm),R.fr.f0⟩;refine⟨fr,by unfold J1;rw[List.length_map];exact R.len,λi t h=>?_,λi t h=>?_,λi j t t' a h=>?_⟩;·obtain⟨o,e,q⟩:=qk h;cases o with|none=>cases q|some r'=>
   obtain⟨b,t'⟩:=r';have:t'=t:=by cases b<;>(cases q;rfl)
   subst this;obtain⟨v,s,iv⟩:=R.opn.vals i _ e;exact⟨v,s,iv.mono x.kept⟩
 ·obtain⟨o,e,q⟩:=qk h;cases o with|none=>cases q|some r'=>obtain⟨b,t'⟩:=r';cases q
 ·obtain⟨o,e,q⟩:=qk h;cases o with|none=>cases q|some r'=>obtain⟨b,t'⟩:=r';cases q
theorem YI{a:Addr}(h:rD σ (J1 env) a):False:=by obtain⟨i,t,e,_⟩:=h;obtain⟨o,_,q⟩:=qk e;cases o with|none=>cases q|some r'=>obtain⟨b,t'⟩:=r';cases q
end
inductive YJ where|nx(env:En)|rt(r:RV)|bk(env:En)|ct(env:En)|exc(x:Ex)(env:En)|bad
abbrev MS:=En->YJ
def qJ(X:Cx)(B:Bs)(D:fk):YJ->Prop|.nx env=>∀F H σ,zN X.K B F H σ env->D.nx σ H|.bk env=>∀F H σ,zN X.K B F H σ env->D.bk σ H|.ct env=>∀F H σ,zN X.K B F H σ env->D.ct σ H|.rt r=>∀v F H,YH X.K B F H v r->D.rt v H|.exc x env=>∀ev F H σ,zN X.K B F H σ env->Yo X.K F H ev x->∀pins s',nh X ev pins σ H s'->X.xe ev s'|.bad=>False
def Gy(X:Cx)(t:TS)(m:MS):Prop:=∀(B:Bs)(F:Addr->Prop)(H:Hp)(σ:St)(env:En)(D:fk),zN X.K B F H σ env->qJ X B D (m env)->t D σ H
def lK(X:Cx)(st:Stmt)(m:MS):Prop:=∃t,PS X st t/\Gy X t m
def gM(X:Cx)(st:List Stmt)(m:MS):Prop:=∃t,cu X st t/\Gy X t m
def xG.run(h:xG X t m)(R:zN X.K B F H σ env)(ok:∀r env',xj m env=.ok (r,env')->∀v F' H',zN X.K B F' H' σ env'->wz X.K ↑W F' H' v r->(∀a,rD σ env' a->H a≠none)->kq F F' H H'->Q v H')(ex:∀x,xj m env=.exc x->∀ev F' H',zN X.K B F' H' σ env->Yo X.K F' H' ev x->∀pins s',nh X ev pins σ H' s'->X.xe ev s')(nb:xj m env≠.bad):t σ H Q:=by unfold xj at ok ex nb;cases hm:m (hide env)with
 |ok r=>rw[hm]at ok;exact h F H σ (hide env) Q R.hid (by rw[hm];intro z;cases z) (λr' e v F' H' x i=>by rw[hm]at e;cases e;exact ok r env rfl v F' H' (R.ext x) i (λa z=>(R.own_not z).2.1) x.kept) λx z=>by rw[hm]at z;cases z|exc x=>rw[hm]at ex;exact h F H σ (hide env) Q R.hid (by rw[hm];intro z;cases z) (λr' e=>by rw[hm]at e;cases e) λx' z ev F' H' e i pins s' I=>by rw[hm]at z;cases z;exact ex x rfl ev F' H' (R.ext e) i pins s' I
 |bad=>rw[hm]at ok ex nb;dsimp only at ok ex nb;cases hm2:m env with|bad=>rw[hm2]at nb;exact absurd rfl nb|ok r=>
   rw[hm2]at ok;dsimp only at ok;refine h _ H σ env Q R.opn (by rw[hm2];intro z;cases z) (λr' e v F' H' x i=>?_) λx z=>by rw[hm2]at z;cases z
   rw[hm2]at e;cases e;by_cases hc:clean env r=true
   ·have es:settle env r=env:=by unfold settle;rw[if_pos hc]
    rw[es]at ok;have hc':=fw hc;obtain⟨R',e'⟩:=R.closed x;exact ok r env rfl v _ H' R' (J2 (R.cleans x) (λa z=>z.1) hc'.1 hc'.2.1 hc'.2.2 i) (λa z=>(R.own_not z).2.1) e'.kept
   ·have es:settle env r=J1 env:=by unfold settle;rw[if_neg hc]
    rw[es]at ok;exact ok r _ rfl v F' H' (R.frozen x) i (λa z=>(YI z).elim) ⟨λa h=>x.sub a (.inl h),λa o _ h=>x.same a o h,λa o h _ _=>x.same a o h⟩|exc x=>
   rw[hm2]at ex nb;dsimp only at ex nb;by_cases hc:clean env (false,x.at_)=true;·rw[if_pos hc]at ex;refine h _ H σ env Q R.opn (by rw[hm2];intro z;cases z) (λr' e=>by rw[hm2]at e;cases e) λx' z ev F' H' e i pins s' I=>?_;rw[hm2]at z;cases z;have hc':=fw hc;obtain⟨R',e'⟩:=R.closed e;exact ex x rfl ev _ H' R' (i.imp λe0 q=>⟨q.1,Is.clean (R.cleans e) (λz=>Q4 (hc'.1 z)) (λz=>Q5 (hc'.2.1 z)) (λz=>Q6 (hc'.2.2 z)) q.2⟩) pins s' I
   ·rw[if_neg hc]at nb;exact absurd rfl nb
section
variable{K:W.Frag}{B:Bs}{F F':Addr->Prop}{H H':Hp}{σ:St}{env:En}{v:V}{r:RV}
theorem jw{α:Type}{l:List α}{i j:Nat}{a b:α}(h:(l.set i a)[j]?=some b):(j=i/\i<l.length/\b=a)\/(j≠i/\l[j]?=some b):=by
 by_cases e:j=i;·subst e;have hl:j<(l.set j a).length:=(List.getElem?_eq_some_iff.mp h).1;rw[List.length_set]at hl;rw[List.getElem?_set_self hl]at h;exact .inl ⟨rfl,hl,(Option.some.inj h).symm⟩
 ·rw[List.getElem?_set_ne (Ne.symm e)]at h;exact .inr ⟨e,h⟩
theorem zN.put(R:zN K B F' H' σ env)(i:Nat)(h:wz K ↑W F' H' v r)(hb:∀a,H a=none->B.H a=none\/B.M a)(old:∀a,rD σ env a->H a≠none):zN K B F' H' (σ.set i (some v)) (env.set i (some r)):=by
 have hs:∀j,j≠i->(σ.set i (some v))[j]?=σ[j]?:=λj hj=>List.getElem?_set_ne (Ne.symm hj);have hself:i<env.length->(σ.set i (some v))[i]?=some (some v):=λhi=>List.getElem?_set_self (by rw[<-R.len];exact hi);refine⟨R.fr,by rw[List.length_set,List.length_set];exact R.len,λj t e=>?_,λj t e=>?_,λj k t t' a e1 e2 s1 s2=>?_⟩
 ·rcases jw e with⟨rfl,hl,er⟩|⟨hj,e⟩;·refine⟨v,hself hl,?_⟩;have er:=(Option.some.inj er).symm;subst er;exact h.is
  ·rw[hs j hj];exact R.vals j t e
 ·rcases jw e with⟨rfl,hl,er⟩|⟨hj,e⟩;·have er:=(Option.some.inj er).symm;subst er;obtain⟨a,rfl,nf,fr,th,w⟩:=h.there rfl;exact⟨a,hself hl,nf,hb a fr,w⟩
  ·rw[hs j hj];exact R.owns j t e
 ·rcases jw e1 with⟨rfl,hl,er⟩|⟨hj,e1'⟩
  ·have er:=(Option.some.inj er).symm;subst er;obtain⟨b,rfl,nf,fr,th,w⟩:=h.there rfl;rw[hself hl]at s1;cases s1;rcases jw e2 with⟨rfl,_,_⟩|⟨hk,e2⟩;·rfl
   ·rw[hs k hk]at s2;exact absurd fr (old _ ⟨k,t',e2,s2⟩)
  ·rw[hs j hj]at s1;rcases jw e2 with⟨rfl,hl,er⟩|⟨hk,e2⟩;·have er:=(Option.some.inj er).symm;subst er;obtain⟨b,rfl,nf,fr,th,w⟩:=h.there rfl;rw[hself hl]at s2;cases s2;exact absurd fr (old _ ⟨j,t,e1',s1⟩)
   ·rw[hs k hk]at s2;exact R.sep j k t t' a e1' e2 s1 s2
end
def zH(i:Nat)(m:ME):MS:=λenv=>match xj m env with|.ok (r,env')=>.nx (env'.set i (some r))|.exc x=>.exc x env|.bad=>.bad
def zJ(m:ME):MS:=λenv=>match xj m env with|.ok (r,_)=>.rt r|.exc x=>.exc x env|.bad=>.bad
def zF:MS:=λenv=>.nx env
def uD(i:Nat):MS:=λenv=>match env[i]? with|some (some r)=>.rt r|_=>.bad
def zq(a b:MS):MS:=λenv=>match a env with|.nx env'=>b env'|o=>o
section
variable{X:Cx}{e:Expr}{st:Stmt}{rest:List Stmt}{m:ME}{ms mr:MS}{pos:Pos}
theorem zL:gM X [] zF:=⟨_,eF,λB F H σ env D R w=>w F H σ R⟩
theorem zi(h:lK X st ms):gM X [st] ms:=let⟨t,p,s⟩:=h;⟨t,qg p,s⟩
theorem zc(h:lK X st ms)(g:gM X rest mr):gM X (st::rest) (zq ms mr):=by obtain⟨t,p,s⟩:=h;obtain⟨u,p',s'⟩:=g;refine⟨_,vc p p',?_⟩;intro B F H σ env D R w;refine s B F H σ env _ R ?_;unfold zq at w;cases ho:ms env with|nx env'=>rw[ho]at w;exactλF' H' σ' R'=>s' B F' H' σ' env' D R' w|rt r=>rw[ho]at w;exact w|bk env'=>rw[ho]at w;exact w|ct env'=>rw[ho]at w;exact w|exc x env'=>rw[ho]at w;exact w|bad=>rw[ho]at w;exact w
theorem zD(h:j9 X e m):lK X (.Return (some e) pos) (zJ m):=by
 obtain⟨t,p,s⟩:=h;refine⟨_,eG p,?_⟩;intro B F H σ env D R w;unfold zJ at w;refine s.run R (λr env' e v F' H' R' i _ _=>?_) (λx e ev F' H' R' i pins s' I=>?_) λe=>?_
 ·rw[e]at w;refine w v F' H' ⟨R'.fr,?_⟩;unfold wz at i⊢;split;·rename_i ho;rw[if_pos ho]at i;obtain⟨a,e,nf,fr,o⟩:=i;exact⟨a,e,nf,zG R.fr fr,o⟩
  ·rename_i ho;rw[if_neg ho]at i;exact i
 ·rw[e]at w;exact w ev F' H' σ R' i pins s' I
 ·rw[e]at w;exact w
theorem mF(i:Nat)(hN:X.N[i]?=some x:=by rfl)(hv:aK X.env.scope x:=by first|exact Or.inl rfl|exact Or.inr (Or.inl rfl)|exact Or.inr (Or.inr rfl))(hd:(x==↑t)=false:=by decide)(hcd:(x==("__classdict__":Str))=false:=by decide):lK X (.Return (some (.Name x p2)) pos) (uD i):=by refine⟨_,eG (k9 hN hv hd hcd),?_⟩;intro B F H σ env D R w;unfold uD at w;cases he:env[i]? with|none=>rw[he]at w;exact w.elim|some o=>cases o with|none=>rw[he]at w;exact w.elim|some r=>rw[he]at w;obtain⟨b,t⟩:=r;cases b with|false=>obtain⟨v,s,q⟩:=R.vals i t he;exact⟨v,s,w v F H ⟨R.fr,jc q⟩⟩|true=>obtain⟨a,s,nf,fr,o⟩:=R.owns i t he;refine⟨.ref a,s,w _ F H ⟨R.fr,?_⟩⟩;unfold wz;rw[if_pos rfl];exact⟨a,rfl,nf,fr,o⟩
theorem Na(hN:X.N.Nodup)(hi:X.N[i]?=some x)(hx:ii X.env.scope x)(h:j9 X e m)(hs:swapsWith e (some (.Name x pos')) pos.line X.env=pure false:=by rfl)(hf:X.fn x=true\/X.env.scope.names.lookup x=some .local:=by first|exact .inl rfl|exact .inr rfl|assumption):lK X (.Assign [.Name x pos'] e pos) (zH i m):=by
 obtain⟨t,p,s⟩:=h;refine⟨_,aQ (i:=i) hN hi hx p hs hf,?_⟩;intro B F H σ env D R w;unfold zH at w;refine s.run R (λr env' e v F' H' R' i' old _=>?_) (λx e ev F' H' R' i pins s' I=>?_) λe=>?_;·rw[e]at w;exact w F' H' _ (R'.put i i' (λa q=>zG R.fr q) old)
 ·rw[e]at w;exact w ev F' H' σ R' i pins s' I
 ·rw[e]at w;exact w
def xq(m:MT)(env:En):kN Bool:=match m (hide env)with
 |.bad=>match m env with|.exc x=>if clean env (false,x.at_)=true then .exc x else .bad|o=>o
 |o=>o
theorem kO.run{t:TT}{m:MT}(h:kO X t m){B:Bs}{F:Addr->Prop}{H:Hp}{σ:St}{env:En}{Q:Bool->Hp->Prop}(R:zN X.K B F H σ env)(ok:∀b,xq m env=.ok b->∀F' H',zN X.K B F' H' σ env->Q b H')(ex:∀x,xq m env=.exc x->∀ev F' H',zN X.K B F' H' σ env->Yo X.K F' H' ev x->∀pins s',nh X ev pins σ H' s'->X.xe ev s')(nb:xq m env≠.bad):t σ H Q:=by unfold xq at ok ex nb;cases hm:m (hide env)with|ok b=>rw[hm]at ok;exact h F H σ (hide env) Q R.hid (by rw[hm];intro z;cases z) (λr' e F' H' x=>by rw[hm]at e;cases e;exact ok b rfl F' H' (R.ext x)) λx z=>by rw[hm]at z;cases z|exc x=>rw[hm]at ex;exact h F H σ (hide env) Q R.hid (by rw[hm];intro z;cases z) (λr' e=>by rw[hm]at e;cases e) λx' z ev F' H' e i pins s' I=>by rw[hm]at z;cases z;exact ex x rfl ev F' H' (R.ext e) i pins s' I|bad=>rw[hm]at ok ex nb;dsimp only at ok ex nb;cases hm2:m env with|bad=>rw[hm2]at nb;exact absurd rfl nb|ok b=>rw[hm2]at ok;exact h _ H σ env Q R.opn (by rw[hm2];intro z;cases z) (λr' e F' H' x=>by rw[hm2]at e;cases e;exact ok b rfl _ H' (R.closed x).1) λx z=>by rw[hm2]at z;cases z|exc x=>
   rw[hm2]at ex nb;dsimp only at ex nb;by_cases hc:clean env (false,x.at_)=true;·rw[if_pos hc]at ex;refine h _ H σ env Q R.opn (by rw[hm2];intro z;cases z) (λr' e=>by rw[hm2]at e;cases e) λx' z ev F' H' e i pins s' I=>?_;rw[hm2]at z;cases z;have hc':=fw hc;obtain⟨R',e'⟩:=R.closed e;exact ex x rfl ev _ H' R' (i.imp λe0 q=>⟨q.1,Is.clean (R.cleans e) (λz=>Q4 (hc'.1 z)) (λz=>Q5 (hc'.2.1 z)) (λz=>Q6 (hc'.2.2 z)) q.2⟩) pins s' I
   ·rw[if_neg hc]at nb;exact absurd rfl nb
def xH(c:MT)(a b:MS):MS:=λenv=>match xq c env with|.ok k=>if k=true then a env else b env|.exc x=>.exc x env|.bad=>.bad
theorem jK{c:Expr}{a b:List Stmt}{mc:MT}{m1 m2:MS}(hc:cQ X c mc)(ha:gM X a m1)(hb:gM X b m2):lK X (.If c a b pos) (xH mc m1 m2):=by
 obtain⟨tc,pc,sc⟩:=hc;obtain⟨t1,p1,s1⟩:=ha;obtain⟨t2,p2,s2⟩:=hb;refine⟨_,JO pc p1 p2,?_⟩;intro B F H σ env D R w;unfold xH at w;refine sc.run R (λk e F' H' R'=>?_) (λx e ev F' H' R' i pins s' I=>?_) λe=>?_;·rw[e]at w;cases k with|true=>rw[if_pos rfl];exact s1 B F' H' σ env D R' w|false=>rw[if_neg Bool.false_ne_true];exact s2 B F' H' σ env D R' w
 ·rw[e]at w;exact w ev F' H' σ R' i pins s' I
 ·rw[e]at w;exact w
def wZ(c:MT)(b:MS):Nat->MS|0=>λ_=>.bad|n+1=>λenv=>match xq c env with|.ok k=>if k=true then(match b env with|.nx env'=>wZ c b n env'|.ct env'=>wZ c b n env'|.bk env'=>.nx env'|o=>o)else .nx env|.exc x=>.exc x env|.bad=>.bad
theorem pA(n:Nat)(hp:PassesOwn ↑a X.A X.env X.xe)(hc:cQ X c mc)(hb:gM X body mb):lK X (.While c body [] pos) (wZ mc mb n):=by obtain⟨tc,pc,sc⟩:=hc;obtain⟨tb,pb,sb⟩:=hb;refine⟨_,JQ hp pc pb,?_⟩;intro B F H σ env D R w;refine⟨λk σ H=>∃F env,zN X.K B F H σ env/\qJ X B D (wZ mc mb k env),⟨n,F,env,R,w⟩,?_⟩;rintro k σ H⟨F,env,R,w⟩;cases k with|zero=>exact w.elim|succ k=>
  unfold wZ at w;refine sc.run R (λc e F' H' R'=>?_) (λx e ev F' H' R' i pins s' I=>?_) λe=>?_;·rw[e]at w;cases c with|false=>rw[if_neg Bool.false_ne_true];exact w F' H' σ R'|true=>rw[if_pos rfl];refine⟨λσ' H'=>∃F env,zN X.K B F H' σ' env/\qJ X B D (wZ mc mb k env),λσ' H' q=>⟨k,Nat.lt_succ_self _,q⟩,?_⟩;refine sb B F' H' σ env _ R' ?_;have w:qJ X B D (match mb env with|.nx env'=>wZ mc mb k env'|.ct env'=>wZ mc mb k env'|.bk env'=>.nx env'|o=>o):=w;cases ho:mb env with|nx env'=>rw[ho]at w;exactλF2 H2 σ2 R2=>⟨F2,env',R2,w⟩|ct env'=>rw[ho]at w;exactλF2 H2 σ2 R2=>⟨F2,env',R2,w⟩|bk env'=>rw[ho]at w;exact w|rt r=>rw[ho]at w;exact w|exc x env'=>rw[ho]at w;exact w|bad=>rw[ho]at w;exact w
  ·rw[e]at w;exact w ev F' H' σ R' i pins s' I
  ·rw[e]at w;exact w
end
section
variable{K:W.Frag}{B:Bs}{F F':Addr->Prop}{H H':Hp}{σ:St}{env:En}{v:V}{r:RV}
theorem zN.mut(R:zN K B F H σ env)(e:env[i]?=some (some (true,t)))(s:σ[i]?=some (some (.ref a)))(w:wX K F (zO H a o) a t'):zN K B F (zO H a o) σ (env.set i (some (true,t'))):=by
 obtain⟨b,s',nf,fr,w0⟩:=R.owns i t e;rw[s]at s';cases s';have hi:i<env.length:=(List.getElem?_eq_some_iff.mp e).1;have ne:∀b,F b->b≠a:=λb f z=>nf (z▸f);have k:kq F F H (zO H a o):=by
  refine⟨λ_ h=>h,λb u f h=>by rw[zf (ne b f)];exact h,λb u h h1 h2=>?_⟩;have:b≠a:=by rintro rfl;cases t with|lst ts=>obtain⟨vs,q,_⟩:=w0;rw[h]at q;exact h1 vs (Option.some.inj q)|dct ks ts=>obtain⟨vs,q,_⟩:=w0;rw[h]at q;exact h2.1 vs (Option.some.inj q)|obj C fs ts=>obtain⟨dx,vs,q,_⟩:=w0;rw[h]at q;exact h2.2 C dx vs (Option.some.inj q)|_=>exact w0.elim
  rw[zf this];exact h
 refine⟨⟨λb f=>?_,R.fr.sub,R.fr.new,λb u h hm=>?_,R.fr.f0⟩,by rw[List.length_set];exact R.len,λj u h=>?_,λj u h=>?_,λj l u u' c e1 e2 s1 s2=>?_⟩;·rw[zf (ne b f)];exact R.fr.dom b f
 ·have:b≠a:=by
   rintro rfl;rcases fr with fr|fr;·rw[h]at fr;cases fr
   ·exact hm fr
  rw[zf this];exact R.fr.keep b u h hm
 ·rcases jw h with⟨rfl,_,z⟩|⟨hj,h⟩;·cases z
  ·obtain⟨x,sx,q⟩:=R.vals j u h;exact⟨x,sx,q.mono k⟩
 ·rcases jw h with⟨rfl,_,z⟩|⟨hj,h⟩
  ·have z:=Option.some.inj z;have:u=t':=by injection z
   subst this;exact⟨a,s,nf,fr,w⟩
  ·obtain⟨b,sb,nfb,frb,wb⟩:=R.owns j u h;refine⟨b,sb,nfb,frb,wb.mono k λq hq=>?_⟩;have:b≠a:=by rintro rfl;exact hj (R.sep j i u t b h e sb s)
   rw[zf this];exact hq
 ·have e1':∃t,env[j]?=some (some (true,t)):=by
   rcases jw e1 with⟨rfl,_,_⟩|⟨_,h⟩;·exact⟨t,e⟩
   ·exact⟨u,h⟩
  have e2':∃t,env[l]?=some (some (true,t)):=by
   rcases jw e2 with⟨rfl,_,_⟩|⟨_,h⟩;·exact⟨t,e⟩
   ·exact⟨u',h⟩
  obtain⟨_,e1'⟩:=e1';obtain⟨_,e2'⟩:=e2';exact R.sep j l _ _ c e1' e2' s1 s2
theorem zN.freeze(R:zN K B F' H' σ env)(h:wz K ↑W F' H' v r)(hb:∀a,H a=none->B.H a=none\/B.M a)(old:∀a,rD σ env a->H a≠none):∃F2,zN K B F2 H' σ env/\Is K F2 H' r.2 v/\∀a,F' a->F2 a:=by
 by_cases o:r.1=true
 ·obtain⟨a,rfl,nf,fr,th,w⟩:=h.there o;have k:kq F' (λb=>F' b\/b=a) H' H':=⟨λb f=>.inl f,λ_ _ _ h=>h,λ_ _ h _ _=>h⟩;refine⟨λb=>F' b\/b=a,⟨⟨λb f=>?_,λb f=>.inl (R.fr.sub b f),λb f=>?_,R.fr.keep,R.fr.f0⟩,R.len,λj u q=>?_,λj u q=>?_,R.sep⟩,w.is (λb f=>.inl f) (.inr rfl),λb f=>.inl f⟩
  ·rcases f with f|rfl;·exact R.fr.dom b f
   ·exact th
  ·rcases f with f|rfl;·exact R.fr.new b f
   ·exact .inr (hb b fr)
  ·obtain⟨x,sx,q⟩:=R.vals j u q;exact⟨x,sx,q.mono k⟩
  ·obtain⟨b,sb,nfb,frb,wb⟩:=R.owns j u q;refine⟨b,sb,λz=>?_,frb,wb.mono k λ_ h=>h⟩;rcases z with z|rfl;·exact nfb z
   ·exact old b ⟨j,u,q,sb⟩ fr
 ·obtain⟨b,t⟩:=r;cases b with|true=>exact absurd rfl o|false=>exact⟨F',R,h.is,λ_ f=>f⟩
end
def pB(i:Nat)(m:ME):MS:=λenv=>match env[i]? with|some (some (true,.lst _))=>(match xj m env with|.ok (r,env')=>(match env'[i]? with|some (some (true,.lst ts))=>if ts.length<sizeLine then .nx (env'.set i (some (true,.lst (ts++[r.2]))))else .bad|_=>.bad)|.exc x=>.exc x env|.bad=>.bad)|_=>.bad
def xr(nf:¬F a)(h:H a=some o)(ho:(∃xs,o=.lst xs)\/(∃xs,o=.dK xs)\/∃C d xs,o=.ins C d xs):kq F F H (zO H a u):=by
 refine⟨λ_ h=>h,λb q f h=>?_,λb q hq h1 h2=>?_⟩
 ·have:b≠a:=by rintro rfl;exact nf f
  rw[zf this];exact h
 ·have:b≠a:=by
   rintro rfl;rw[hq]at h;cases h;rcases ho with⟨xs,rfl⟩|⟨xs,rfl⟩|⟨C,d,xs,rfl⟩;·exact h1 xs rfl
   ·exact h2.1 xs rfl
   ·exact h2.2 C d xs rfl
  rw[zf this];exact hq
section
variable{X:Cx}{e ek:Expr}{m mk mv:ME}{pos:Pos}
theorem uE{i:Nat}{st:Stmt}(he:j9 X e m)(hp:∀te,PE X e te->PS X st (cA (Mi X.K "list" oZ (xJ i) (oW te WQ)))):lK X st (pB i m):=by
 obtain⟨te,pe,se⟩:=he;refine⟨_,hp te pe,?_⟩;intro B F H σ env D R w;unfold pB at w;split at w
 ·rename_i ts0 hi;obtain⟨a,s,nf,fr,vs,hH,iv⟩:=R.owns i _ hi;refine⟨.ref a,s,.inl ⟨rfl,vs,.inl (.inl hH)⟩,?_⟩;refine se.run R (λr env' er v F' H' R' iv' old kp=>?_) (λx er ev F' H' R' ix pins s' I=>?_) λer=>?_
  ·rw[er]at w;dsimp only at w;split at w
   ·rename_i ts' hi';split at w;·rename_i hl;obtain⟨F2,R2,i2,_⟩:=R'.freeze iv' (λa q=>zG R.fr q) old;obtain⟨a',s',nf',fr',vs',hH',iv2⟩:=R2.owns i _ hi';rw[s]at s';cases s';refine⟨a,vs',v,rfl,rfl,hH',by rw[<-iv2.len];exact hl,?_⟩;refine w F2 _ σ (R2.mut hi' s ⟨vs'++[v],zm,?_⟩);exact(iv2.append (IsAll.cons i2 IsAll.nil)).mono (xr nf' hH' (.inl ⟨_,rfl⟩))
    ·exact w.elim
   ·exact w.elim
  ·rw[er]at w;exact w ev F' H' σ R' ix pins s' I
  ·rw[er]at w;exact w
 ·exact w.elim
def YK(i:Nat):MS:=λenv=>match env[i]? with|some (some (true,.lst ts))=>if ts=[]then .bad else .nx (env.set i (some (true,.lst ts.dropLast)))|_=>.bad
instance(ts:List T):Decidable (ts=[]):=by cases ts with|nil=>exact .isTrue rfl|cons _ _=>exact .isFalse (by intro z;cases z)
theorem IsAll.dropLast{K:W.Frag}{F:Addr->Prop}{H:Hp}{ts:List T}{vs:List V}(h:IsAll K F H ts vs):IsAll K F H ts.dropLast vs.dropLast:=by rw[List.dropLast_eq_take,List.dropLast_eq_take,<-h.len];exact h.take _
theorem Gz{i:Nat}{st:Stmt}(hp:PS X st (cA (UU X.K "list" UV (xJ i)))):lK X st (YK i):=by
 refine⟨_,hp,?_⟩;intro B F H σ env D R w;unfold YK at w;split at w
 ·rename_i ts0 hi;obtain⟨a,s,nf,fr,vs,hH,iv⟩:=R.owns i _ hi;split at w;·exact w.elim
  ·rename_i hne;have hl:=iv.len;have hv:0<vs.length:=by cases ts0 with|nil=>exact absurd rfl hne|cons _ _=>rw[<-hl];simp
   refine⟨.ref a,s,.inl ⟨rfl,vs,.inl (.inl hH)⟩,a,vs,vs[vs.length-1],rfl,rfl,hH,by simp[hv],w F _ σ (R.mut hi s ⟨vs.dropLast,zm,?_⟩)⟩;exact iv.dropLast.mono (xr nf hH (.inl ⟨_,rfl⟩))
 ·exact w.elim
def tS(i:Nat)(mk mv:ME):MS:=λenv=>match xj mv env with|.ok (r,env1)=>(match env1[i]? with|some (some (true,.lst _))=>(match xj mk env1 with|.ok (k,env2)=>(match env2[i]?,k.2 with|some (some (true,.lst ts)),.int k=>(match Y1 ts.length k with|some j=>.nx (env2.set i (some (true,.lst (ts.set j r.2))))|none=>.bad)|_,_=>.bad)|.exc x=>.exc x env1|.bad=>.bad)|_=>.bad)|.exc x=>.exc x env|.bad=>.bad
theorem Vj{i:Nat}{st:Stmt}(hk:j9 X ek mk)(hv:j9 X e mv)(hp:∀tk te,PE X ek tk->PE X e te->PS X st (eI te (UC (xJ i) tk KS))):lK X st (tS i mk mv):=by
 obtain⟨tk,pk,sk⟩:=hk;obtain⟨te,pe,se⟩:=hv;refine⟨_,hp tk te pk pe,?_⟩;intro B F H σ env D R w;unfold tS at w;refine se.run R (λr env1 er v F1 H1 R1 iv1 old1 kp1=>?_) (λx er ev F' H' R' ix pins s' I=>?_) λer=>?_
 ·rw[er]at w;dsimp only at w;obtain⟨F2,R2,i2,_⟩:=R1.freeze iv1 (λa q=>zG R.fr q) old1;split at w
  ·rename_i ts0 hi;obtain⟨a,s,nf,fr,vs,hH,iv⟩:=R2.owns i _ hi;refine⟨.ref a,s,?_⟩;refine sk.run R2 (λk env2 er2 vk F3 H3 R3 iv3 old3 kp3=>?_) (λx er ev F' H' R' ix pins s' I=>?_) λer=>?_
   ·rw[er2]at w;dsimp only at w;split at w
    ·rename_i x1 ts kk hi' hk';split at w
     ·rename_i j hj;obtain⟨a',s',nf',fr',vs',hH',iv2⟩:=R3.owns i _ hi';rw[s]at s';cases s';obtain⟨bk,tk'⟩:=k;dsimp only at hk';subst hk';have:vk=.int kk:=by cases bk with|false=>have:=iv3.is;unfold Is at this;exact this|true=>obtain⟨_,_,_,_,_,w'⟩:=iv3.there rfl;exact w'.elim
      refine⟨a,vs',kk,j,rfl,this,hH',by rw[<-iv2.len];exact hj,?_⟩;refine w F3 _ σ (R3.mut hi' s ⟨vs'.set j v,zm,?_⟩);exact(iv2.set j (i2.mono kp3)).mono (xr nf' hH' (.inl ⟨_,rfl⟩))
     ·exact w.elim
    ·exact w.elim
   ·rw[er]at w;exact w ev F' H' σ R' ix pins s' I
   ·rw[er]at w;exact w
  ·exact w.elim
 ·rw[er]at w;exact w ev F' H' σ R' ix pins s' I
 ·rw[er]at w;exact w
def rE(k:Key)(t:T):List Key->List T->List T|x::ks,u::ts=>(if x=k then t else u)::rE k t ks ts|_,_=>[]
def pC(ks:List Key)(ts:List T)(k:Key)(t:T):T:=if ks.any (λx=>decide (x=k))=true then .dct ks (rE k t ks ts)else .dct (ks++[k]) (ts++[t])
theorem b7{K:W.Frag}{F:Addr->Prop}{H H':Hp}{a:Addr}{ks:List Key}{ts:List T}{kvs:List (Key×V)}{k:Key}{t:T}{v:V}(hk:kvs.map (·.1)=ks)(i:IsAll K F H ts (kvs.map (·.2)))(iv:Is K F H t v)(kp:kq F F H H')(hH:H' a=some (.dK (xB kvs k v))):wX K F H' a (pC ks ts k t):=by
 unfold pC;have any_eq:ks.any (λx=>decide (x=k))=kvs.any λkv=>decide (kv.1=k):=by rw[<-hk,List.any_map];rfl
 by_cases h:ks.any (λx=>decide (x=k))=true
 ·rw[if_pos h];rw[any_eq]at h;have e:xB kvs k v=kvs.map λkv=>if kv.1=k then(kv.1,v)else kv:=by unfold xB;rw[if_pos h]
  refine⟨_,hH,?_,?_⟩;·rw[e,<-hk,List.map_map];refine List.map_congr_left λkv _=>?_;show(if kv.1=k then(kv.1,v)else kv).1=kv.1;split<;>rfl
  ·rw[e];have:∀{kvs:List (Key×V)}{ks:List Key}{ts:List T},kvs.map (·.1)=ks->IsAll K F H ts (kvs.map (·.2))->IsAll K F H (rE k t ks ts) ((kvs.map λkv=>if kv.1=k then(kv.1,v)else kv).map (·.2)):=by intro kvs;induction kvs with
    |nil=>intro ks ts hk i;subst hk;cases ts with|nil=>exact IsAll.nil|cons _ _=>unfold IsAll at i;obtain⟨_,_,z,_⟩:=i;cases z
    |cons kv kvs ih=>intro ks ts hk i;subst hk;cases ts with|nil=>unfold IsAll at i;cases i|cons u ts=>
      unfold IsAll at i;obtain⟨v',r,z,i1,i2⟩:=i;cases z;show IsAll K F H ((if kv.1=k then t else u)::rE k t (kvs.map (·.1)) ts) ((if kv.1=k then(kv.1,v)else kv).2::_);refine IsAll.cons ?_ (ih rfl i2);split;·exact iv
      ·exact i1
   exact(this hk i).mono kp
 ·rw[if_neg h];rw[any_eq]at h;have e:xB kvs k v=kvs++[(k,v)]:=by unfold xB;rw[if_neg h]
  refine⟨_,hH,by rw[e,List.map_append,hk];rfl,?_⟩;rw[e,List.map_append];exact(i.append (IsAll.cons iv IsAll.nil)).mono kp
theorem Vk{K:W.Frag}{fr F:Addr->Prop}{H:Hp}{v:V}{r:RV}{k:Key}(h:wz K fr F H v r)(e:u6 r.2=some k):v=kV k:=by obtain⟨b,t⟩:=r;cases b with
 |true=>obtain⟨_,_,_,_,_,w⟩:=h.there rfl;cases t<;>first|exact w.elim|cases e
 |false=>
  have h:=h.is;cases t<;>simp only[u6,reduceCtorEq,Option.some.injEq]at e;case int i=>subst e;unfold Is at h;exact h
  case str i=>subst e;unfold Is at h;exact h
def J3(i:Nat)(f:T->T->Option RV)(m:ME):MS:=λenv=>match env[i]? with|some (some ↑V)=>(match xj m env with|.ok (r,env')=>(match f t r.2 with|some (false,u)=>.nx (env'.set i (some (false,u)))|_=>.bad)|.exc x=>.exc x env|.bad=>.bad)|_=>.bad
def GA(X:Cx)(op:Operator)(f:T->T->Option RV):Prop:=Ij X op λx y H Q=>∃F tx ty u,lJ F H/\Is X.K F H tx x/\Is X.K F H ty y/\f tx ty=some (false,u)/\∀v F' H',jA F H F' H'->Is X.K F' H' u v->Q v H'
end
def b8:T->T->Option RV|.int i,.int j=>some (false,.int (i+j))|.str x,.str y=>if x.length+y.length<=sizeLine then some (false,.str (x++y))else none|_,_=>none
def d9:GA X .Add b8:=by
 intro pins s σ H x y v u Q I rx ry h;obtain⟨F,tx,ty,w,d,ix,iy,e,q⟩:=h;cases tx<;>cases ty<;>simp only[b8,reduceCtorEq]at e;case int.int i j=>unfold Is at ix iy;subst ix iy;cases e;obtain⟨t,rfl⟩:=rx;obtain⟨t',rfl⟩:=ry;exact iadd_int ⟨.int _,H,I.tok _,⟨_,rfl⟩,q _ F H (.refl d) xb⟩
 case str.str i j=>unfold Is at ix iy;subst ix iy;split at e<;>cases e;rename_i hl;obtain⟨t,rfl⟩:=rx;obtain⟨t',rfl⟩:=ry;exact iadd_str (λt' tk=>⟨.str _,H,I.tok _,⟨_,rfl⟩,q _ F H (.refl d) qV⟩) hl
def Nb(ho:GA X op f)(hN:X.N.Nodup)(hi:X.N[i]?=some x)(hx:ii X.env.scope x)(h:j9 X e m)(hf:X.fn x=true\/X.env.scope.names.lookup x=some .local:=by first|exact .inl rfl|exact .inr rfl|assumption):lK X (.AugAssign (.Name x pos') op e pos) (J3 i f m):=by
 obtain⟨te,pe,se⟩:=h;refine⟨_,QS hN hi hx pe ho hf,?_⟩;intro B F H σ env D R w;unfold J3 at w;split at w
 ·rename_i t hi';obtain⟨v0,s0,q0⟩:=R.vals i t hi';refine⟨v0,s0,?_⟩;refine se.run R (λr env' er v F' H' R' iv' old kp=>?_) (λx er ev F' H' R' ix pins s' I=>?_) λer=>?_
  ·rw[er]at w;dsimp only at w;split at w;·rename_i u hu;obtain⟨F2,R2,i2,s2⟩:=R'.freeze iv' (λa q=>zG R.fr q) old;have q1:Is X.K F2 H' t v0:=(q0.mono kp).mono ⟨s2,λ_ _ _ h=>h,λ_ _ h _ _=>h⟩;refine⟨F2,t,r.2,u,R2.fr.dom,q1,i2,hu,λv' F3 H3 x3 i3=>?_⟩;have R3:=R2.ext x3;exact w F3 H3 _ (R3.put i (jc i3) (λa q=>zG R3.fr q) λa z=>(R3.own_not z).2.1)
   ·exact w.elim
  ·rw[er]at w;exact w ev F' H' σ R' ix pins s' I
  ·rw[er]at w;exact w
 ·exact w.elim
def qp:T->Option (List T)|.lst ts=>some ts|.tup ts=>some ts|.str z=>some (z.cps.toList.map λc=>.str ⟨#[c]⟩)|_=>none
def qY(K:W.Frag)(F:Addr->Prop)(H:Hp)(J:It)(ts:List T):Prop:=∀F2 H2,kq F F2 H H2->∀i:Nat,(i<ts.length->J.go i H2/\∀x H3,J.yld i H2 x H3->H3=H2/\∃t,ts[i]?=some t/\Is K F2 H2 t x)/\(ts.length<=i->J.stop i H2)
abbrev MI:=En->kN (List T×En)
def Lo(X:Cx)(wi:TI)(it:MI):Prop:=∀(B:Bs)(F:Addr->Prop)(H:Hp)(σ:St)(env:En)(R:It->Hp->Prop),zN X.K B F H σ env->it env≠.bad->(∀ts env',it env=.ok (ts,env')->∀J F' H',zN X.K B F' H' σ env'->qY X.K F' H' J ts->R J H')->(∀x,it env=.exc x->∀ev F' H',zN X.K B F' H' σ env->Yo X.K F' H' ev x->∀pins s',nh X ev pins σ H' s'->X.xe ev s')->wi σ H R
def Nc(X:Cx)(tg iter:Expr)(it:MI):Prop:=∃wi,PI X tg iter wi/\Lo X wi it
def Lp(K:W.Frag)(tl:TE):TI:=λσ H R=>KO K tl σ H R\/UE K tl σ H R\/N3 tl σ H R
def tT(h:PE X e tl):PI X tg e (Lp X.K tl):=by
 intro pins s σ H R I w;rcases w with w|w|w;·exact WG h pins s σ H R I w
 ·exact QU h pins s σ H R I w
 ·exact Gs h pins s σ H R I w
def fx{K:W.Frag}{F:Addr->Prop}{H:Hp}{a:Addr}{vs:List V}{ts:List T}(g1:fX K H a vs)(g2:IsAll K F H ts vs):qY K F H (MU K a) ts:=by intro F2 H2 k i;have h1:=m8 g1 k.rest;have h2:=g2.mono k;have hl:=h2.len;refine⟨λhi=>⟨⟨vs,vs[i],h1,by simp[<-hl,hi]⟩,λx H3 y=>⟨y.1,?_⟩⟩,λhi=>⟨vs,h1,by omega⟩⟩;have hx:=y.2 vs h1;obtain⟨v,hv,iv⟩:=h2.get (i:=i) (t:=ts[i]) (by simp[hi]);rw[hx]at hv;cases hv;exact⟨ts[i],by simp[hi],iv⟩
def fy{K:W.Frag}{F:Addr->Prop}{H:Hp}{z:Str}:qY K F H (Ml z) (z.cps.toList.map λc=>.str ⟨#[c]⟩):=by
 intro F2 H2 k i;have hl:(z.cps.toList.map λc=>T.str ⟨#[c]⟩).length=z.length:=by simp[Str.length]
 rw[hl];refine⟨λhi=>⟨hi,λx H3 y=>?_⟩,λhi=>hi⟩;obtain⟨e,c,hc,rfl⟩:=y;refine⟨e,.str ⟨#[c]⟩,?_,qV⟩;rw[List.getElem?_map];have:z.cps.toList[i]?=some c:=by simpa using hc
 rw[this];rfl
def ba(m:ME):MI:=λenv=>match xj m env with|.ok (r,env')=>(match qp r.2 with|some ts=>.ok (ts,env')|none=>.bad)|.exc x=>.exc x|.bad=>.bad
def YL(h:j9 X e m):Nc X tg e (ba m):=by obtain⟨tl,pl,sl⟩:=h;refine⟨_,tT pl,?_⟩;intro B F H σ env R RS nb ok ex;unfold ba at nb ok ex;cases hr:xj m env with|bad=>rw[hr]at nb;exact absurd rfl nb|exc x=>rw[hr]at ex;refine .inl (sl.run RS (λr env' er=>by rw[hr]at er;cases er) (λx' er ev F' H' R' i pins s' I=>?_) (by rw[hr];intro z;cases z));rw[hr]at er;cases er;exact ex x rfl ev F' H' R' i pins s' I|ok q=>
  obtain⟨r,env'⟩:=q;rw[hr]at nb ok;dsimp only at nb ok;have noex:∀x,xj m env=.exc x->False:=λx z=>by rw[hr]at z;cases z
  have nb':xj m env≠.bad:=by rw[hr];intro z;cases z
  cases hi:qp r.2 with|none=>rw[hi]at nb;exact absurd rfl nb|some ts=>
   rw[hi]at ok;obtain⟨o,t⟩:=r;dsimp only at hi;cases t<;>simp only[qp,reduceCtorEq,Option.some.injEq]at hi;case lst us=>subst hi;refine .inl (sl.run RS (λr env1 er v F' H' R' iv old kp=>?_) (λx er=>(noex x er).elim) nb');rw[hr]at er;cases er;obtain⟨F2,R2,i2,_⟩:=R'.freeze iv (λa q=>zG RS.fr q) old;have i2':=i2;unfold Is at i2;obtain⟨a,vs,rfl,g1,g2⟩:=i2;refine⟨a,rfl,⟨vs,g1.sq⟩,ok _ _ rfl _ F2 H' R2 ?_⟩;intro F3 H3 k i;have h1:=g1.mono k;have h2:=g2.mono k;have hl:=h2.len;refine⟨λhi=>⟨⟨vs,vs[i],h1.sq,by simp[<-hl,hi]⟩,λx H4 y=>⟨y.1,?_⟩⟩,λhi=>⟨vs,h1.sq,by omega⟩⟩;have hx:=y.2 vs h1.sq;obtain⟨v,hv,iv⟩:=h2.get (i:=i) (t:=us[i]) (by simp[hi]);rw[hx]at hv;cases hv;exact⟨us[i],by simp[hi],iv⟩
   case tup us=>subst hi;refine .inr (.inl (sl.run RS (λr env1 er v F' H' R' iv old kp=>?_) (λx er=>(noex x er).elim) nb'));rw[hr]at er;cases er;obtain⟨F2,R2,i2,_⟩:=R'.freeze iv (λa q=>zG RS.fr q) old;unfold Is at i2;obtain⟨a,vs,rfl,g1,g2⟩:=i2;exact⟨a,rfl,⟨vs,g1⟩,ok _ _ rfl _ F2 H' R2 (fx g1 g2)⟩
   case str z=>subst hi;refine .inr (.inr (sl.run RS (λr env1 er v F' H' R' iv old kp=>?_) (λx er=>(noex x er).elim) nb'));rw[hr]at er;cases er;obtain⟨F2,R2,i2,_⟩:=R'.freeze iv (λa q=>zG RS.fr q) old;unfold Is at i2;exact⟨z,i2,ok _ _ rfl _ F2 H' R2 fy⟩
def Vl(i:Nat):MI:=λenv=>match env[i]? with|some (some (_,t))=>(match qp t with|some ts=>.ok (ts,env.set i (some ↑V))|none=>.bad)|_=>.bad
def zN.frz1{K:W.Frag}{B:Bs}{F:Addr->Prop}{H:Hp}{σ:St}{env:En}(R:zN K B F H σ env){i:Nat}{r:RV}(e:env[i]?=some (some r)):∃F2 v,zN K B F2 H σ (env.set i (some (false,r.2)))/\σ[i]?=some (some v)/\Is K F2 H r.2 v:=by
 obtain⟨b,t⟩:=r;have hi:i<env.length:=(List.getElem?_eq_some_iff.mp e).1
 cases b with|false=>
  obtain⟨v,s,q⟩:=R.vals i t e;refine⟨F,v,?_,s,q⟩;have:env.set i (some ↑V)=env:=by
   apply List.ext_getElem?;intro j;by_cases hj:j=i;·subst hj;rw[List.getElem?_set_self hi,e]
   ·rw[List.getElem?_set_ne (Ne.symm hj)]
  rw[this];exact R|true=>
  obtain⟨a,s,nf,fr,w⟩:=R.owns i t e;have k:kq F (λb=>F b\/b=a) H H:=⟨λb f=>.inl f,λ_ _ _ h=>h,λ_ _ h _ _=>h⟩;refine⟨λb=>F b\/b=a,.ref a,⟨⟨λb f=>?_,λb f=>.inl (R.fr.sub b f),λb f=>?_,R.fr.keep,R.fr.f0⟩,by rw[List.length_set];exact R.len,λj u h=>?_,λj u h=>?_,λj l u u' c e1 e2 s1 s2=>?_⟩,s,w.is (λb f=>.inl f) (.inr rfl)⟩
  ·rcases f with f|rfl;·exact R.fr.dom b f
   ·exact w.there
  ·rcases f with f|rfl;·exact R.fr.new b f
   ·exact .inr fr
  ·rcases jw h with⟨rfl,_,z⟩|⟨hj,h⟩
   ·have:u=t:=by have:=Option.some.inj z;injection this
    subst this;exact⟨.ref a,s,w.is (λb f=>.inl f) (.inr rfl)⟩
   ·obtain⟨x,sx,q⟩:=R.vals j u h;exact⟨x,sx,q.mono k⟩
  ·rcases jw h with⟨rfl,_,z⟩|⟨hj,h⟩;·cases z
   ·obtain⟨b,sb,nfb,frb,wb⟩:=R.owns j u h;refine⟨b,sb,λz=>?_,frb,wb.mono k λ_ h=>h⟩;rcases z with z|rfl;·exact nfb z
    ·exact hj (R.sep j i u t b h e sb s)
  ·rcases jw e1 with⟨rfl,_,z⟩|⟨hj,h1⟩;·cases z
   ·rcases jw e2 with⟨rfl,_,z⟩|⟨hl,h2⟩;·cases z
    ·exact R.sep j l u u' c h1 h2 s1 s2
def Q7(i:Nat){x:Str}(hN:X.N[i]?=some x:=by rfl)(hv:aK X.env.scope x:=by first|exact Or.inl rfl|exact Or.inr (Or.inl rfl)|exact Or.inr (Or.inr rfl))(hd:(x==↑t)=false:=by decide)(hcd:(x==("__classdict__":Str))=false:=by decide):Nc X tg (.Name x pos) (Vl i):=by refine⟨_,tT (k9 hN hv hd hcd),?_⟩;intro B F H σ env R RS nb ok ex;unfold Vl at nb ok ex;cases he:env[i]? with|none=>rw[he]at nb;exact absurd rfl nb|some o=>cases o with|none=>rw[he]at nb;exact absurd rfl nb|some r=>
   rw[he]at nb ok;obtain⟨b,t⟩:=r;dsimp only at nb ok;obtain⟨F2,v,R2,s,i2⟩:=RS.frz1 he;cases t<;>simp only[qp]at nb ok<;>try(exact absurd rfl nb)
   case lst us=>unfold Is at i2;obtain⟨a,vs,rfl,g1,g2⟩:=i2;refine .inl ⟨.ref a,s,a,rfl,⟨vs,g1.sq⟩,ok _ _ rfl _ F2 H R2 ?_⟩;intro F3 H3 k i;have h1:=g1.mono k;have h2:=g2.mono k;have hl:=h2.len;refine⟨λhi=>⟨⟨vs,vs[i],h1.sq,by simp[<-hl,hi]⟩,λx H4 y=>⟨y.1,?_⟩⟩,λhi=>⟨vs,h1.sq,by omega⟩⟩;have hx:=y.2 vs h1.sq;obtain⟨v,hv,iv⟩:=h2.get (i:=i) (t:=us[i]) (by simp[hi]);rw[hx]at hv;cases hv;exact⟨us[i],by simp[hi],iv⟩
   case tup us=>unfold Is at i2;obtain⟨a,vs,rfl,g1,g2⟩:=i2;exact .inr (.inl ⟨.ref a,s,a,rfl,⟨vs,g1⟩,ok _ _ rfl _ F2 H R2 (fx g1 g2)⟩)
   case str z=>unfold Is at i2;subst i2;exact .inr (.inr ⟨.str z,s,z,rfl,ok _ _ rfl _ F2 H R2 fy⟩)
def kQ(lo:Int)(n:Nat):List T:=(List.range n).map λ(i:Nat)=>.int (lo+i)
def fB{K:W.Frag}{F:Addr->Prop}{H:Hp}{lo:Int}{n:Nat}:qY K F H (UD lo n) (kQ lo n):=by
 intro F2 H2 k i;have hl:(kQ lo n).length=n:=by simp[kQ]
 rw[hl];refine⟨λhi=>⟨hi,λx H3 y=>⟨y.1,.int (lo+i),?_,?_⟩⟩,λhi=>hi⟩;·simp[kQ,hi]
 ·rw[y.2];exact xb
def nq(m:MA)(env:En):kN (List T):=match m (hide env)with|.ok rs=>.ok (rs.map (·.2))|.exc x=>.exc x|.bad=>match m env with|.ok rs=>.ok (rs.map (·.2))|.exc x=>if clean env (false,x.at_)=true then .exc x else .bad|.bad=>.bad
def tP.run{t:TA}{m:MA}(h:tP X t m){B:Bs}{F:Addr->Prop}{H:Hp}{σ:St}{env:En}{Q:List V->Hp->Prop}(R:zN X.K B F H σ env)(js:List Int)(hj:nq m env=.ok (js.map T.int))(ok:∀F' H',zN X.K B F' H' σ env->Q (js.map V.int) H'):t σ H Q:=by
 have allInts:∀{F:Addr->Prop}{H:Hp}{js:List Int}{vs:List V},IsAll X.K F H (js.map T.int) vs->vs=js.map V.int:=by intro F H js;induction js with|nil=>intro vs h;unfold IsAll at h;exact h|cons j js ih=>intro vs h;rw[List.map_cons]at h;unfold IsAll at h;obtain⟨v,r,rfl,h1,h2⟩:=h;unfold Is at h1;rw[h1,ih h2];rfl
 unfold nq at hj;cases hm:m (hide env)with|ok rs=>
  rw[hm]at hj;have hj:rs.map (·.2)=js.map T.int:=by injection hj
  refine h F H σ (hide env) Q R.hid (by rw[hm];intro z;cases z) (λr' e vs F' H' x i=>?_) λx z=>by rw[hm]at z;cases z
  rw[hm]at e;cases e;obtain⟨F2,x2,_,i2⟩:=i.frz x;rw[hj]at i2;rw[allInts i2];exact ok F2 H' (R.ext x2)|exc x=>rw[hm]at hj;cases hj|bad=>rw[hm]at hj;dsimp only at hj;cases hm2:m env with|bad=>rw[hm2]at hj;cases hj|exc x=>rw[hm2]at hj;dsimp only at hj;split at hj<;>cases hj|ok rs=>
   rw[hm2]at hj;have hj:rs.map (·.2)=js.map T.int:=by injection hj
   refine h _ H σ env Q R.opn (by rw[hm2];intro z;cases z) (λr' e vs F' H' x i=>?_) λx z=>by rw[hm2]at z;cases z
   rw[hm2]at e;cases e;obtain⟨F2,x2,_,i2⟩:=i.frz x;rw[hj]at i2;rw[allInts i2];exact ok _ H' (R.closed x2).1
def mG(m:MA):MI:=λenv=>match nq m env with|.ok [.int j]=>if-(2^62)<=j/\j<2^62 then .ok (kQ 0 j.toNat,env)else .bad|_=>.bad
def uF(m:MA):MI:=λenv=>match nq m env with|.ok [.int i,.int j]=>if(-(2^62)<=i/\i<2^62)/\-(2^62)<=j/\j<2^62 then .ok (kQ i (j-i).toNat,env)else .bad|_=>.bad
def bc(hg:Gl X "range")(hm:X.mg "range"=none)(ha:aM X [a] ma)(hs:starEach [a] X.env=[(false,eval a X.env)]:=by rfl):Nc X tg (.Call (.Name "range" p) [a] [] pos) (mG ma):=by
 obtain⟨ta,pa,sa⟩:=ha;refine⟨_,ij hg hm pa hs,?_⟩;intro B F H σ env R RS nb ok ex;unfold mG at nb ok ex;split at nb
 ·rename_i j hj;split at nb;·rename_i hb;rw[hj]at ok;dsimp only at ok;rw[if_pos hb]at ok;exact sa.run RS [j] hj λF' H' R'=>⟨j,rfl,hb.1,hb.2,ok _ _ rfl _ F' H' R' fB⟩
  ·exact absurd rfl nb
 ·exact absurd rfl nb
def bg(hg:Gl X "range")(hm:X.mg "range"=none)(ha:aM X [a,b] ma)(hs:starEach [a,b] X.env=[(false,eval a X.env),(false,eval b X.env)]:=by rfl)(hs2:starEach [b] X.env=[(false,eval b X.env)]:=by rfl):Nc X tg (.Call (.Name "range" p) [a,b] [] pos) (uF ma):=by
 obtain⟨ta,pa,sa⟩:=ha;refine⟨_,ZB hg hm pa hs hs2,?_⟩;intro B F H σ env R RS nb ok ex;unfold uF at nb ok ex;split at nb
 ·rename_i i j hj;split at nb;·rename_i hb;rw[hj]at ok;dsimp only at ok;rw[if_pos hb]at ok;exact sa.run RS [i,j] hj λF' H' R'=>⟨i,j,rfl,⟨hb.1.1,hb.1.2,hb.2.1,hb.2.2⟩,ok _ _ rfl _ F' H' R' fB⟩
  ·exact absurd rfl nb
 ·exact absurd rfl nb
abbrev MG:=T->En->Option En
def GB(X:Cx)(g:TG)(tg:MG):Prop:=∀(B:Bs)(F:Addr->Prop)(H:Hp)(σ:St)(env env':En)(v:V)(t:T)(Q:St->Hp->Prop),zN X.K B F H σ env->Is X.K F H t v->tg t env=some env'->(∀σ',zN X.K B F H σ' env'->Q σ' H)->g v σ H Q
def Wr(X:Cx)(e:Expr)(tg:MG):Prop:=∃g,PG X e g/\GB X g tg
def gN(i:Nat):MG:=λt env=>some (env.set i (some ↑V))
def Vm(hN:X.N.Nodup)(hi:X.N[i]?=some x)(hx:ii X.env.scope x)(hf:X.fn x=true\/X.env.scope.names.lookup x=some .local:=by first|exact .inl rfl|exact .inr rfl|assumption):Wr X (.Name x pos) (gN i):=by refine⟨_,qh hN hi hx hf,?_⟩;intro B F H σ env env' v t Q R iv e q;cases e;exact q _ (R.put i (jc iv) (λa q=>zG R.fr q) λa z=>(R.own_not z).2.1)
def jy(tg:MG)(mb:MS):List T->MS|[],env=>.nx env|t::ts,env=>match tg t env with|none=>.bad|some e1=>match mb e1 with|.nx e2=>jy tg mb ts e2|.ct e2=>jy tg mb ts e2|.bk e2=>.nx e2|o=>o
def wW(it:MI)(tg:MG)(mb:MS):MS:=λenv=>match it env with|.ok (ts,env')=>jy tg mb ts env'|.exc x=>.exc x env|.bad=>.bad
def Bs.at_(B:Bs)(F:Addr->Prop)(H:Hp):Bs:=⟨λa=>¬F a/\((∃xs,H a=some (.lst xs))\/(∃xs,H a=some (.dK xs))\/∃C d xs,H a=some (.ins C d xs))/\(B.H a=none\/B.M a),H,F⟩
section
variable{K:W.Frag}{B:Bs}{F F1:Addr->Prop}{H H1:Hp}{σ:St}{env:En}{v:V}{r:RV}
theorem zN.rebase(R:zN K B F H σ env):zN K (B.at_ F H) F H σ env:=⟨⟨R.fr.dom,λ_ h=>h,λ_ h=>.inl h,λ_ _ h _=>h,λa f m=>m.1 f⟩,R.len,R.vals,λi t e=>by obtain⟨a,s,nf,fr,w⟩:=R.owns i t e;refine⟨a,s,nf,.inr ⟨nf,?_,fr⟩,w⟩;cases t with|lst ts=>obtain⟨vs,q,_⟩:=w;exact .inl ⟨vs,q⟩|dct ks ts=>obtain⟨vs,q,_⟩:=w;exact .inr (.inl ⟨vs,q⟩)|obj C fs ts=>obtain⟨dx,vs,q,_⟩:=w;exact .inr (.inr ⟨_,dx,vs,q⟩)|_=>exact w.elim,R.sep⟩
theorem nj.unbase(f1:nj B F1 H1)(f:nj (B.at_ F1 H1) F H):nj B F H:=by
 refine⟨f.dom,λa h=>f.sub a (f1.sub a h),λa h=>?_,λa o h hm=>f.keep a o (f1.keep a o h hm) λz=>?_,f1.f0⟩
 ·rcases f.new a h with h|h|h;·exact f1.new a h
  ·exact .inr (zG f1 h)
  ·exact .inr h.2.2
 ·rcases z.2.2 with z|z;·rw[h]at z;cases z
  ·exact hm z
theorem mH(f1:nj B F1 H1)(h:(B.at_ F1 H1).H a=none\/(B.at_ F1 H1).M a):B.H a=none\/B.M a:=by
 rcases h with h|h;·exact zG f1 h
 ·exact h.2.2
theorem zN.unbase(f1:nj B F1 H1)(R:zN K (B.at_ F1 H1) F H σ env):zN K B F H σ env:=⟨f1.unbase R.fr,R.len,R.vals,λi t e=>let⟨a,s,nf,fr,w⟩:=R.owns i t e;⟨a,s,nf,mH f1 fr,w⟩,R.sep⟩
theorem YH.unbase(f1:nj B F1 H1)(R:YH K (B.at_ F1 H1) F H v r):YH K B F H v r:=by
 refine⟨f1.unbase R.fr,?_⟩;have i:=R.val;unfold wz at i⊢;split;·rename_i ho;rw[if_pos ho]at i;obtain⟨a,e,nf,fr,o⟩:=i;exact⟨a,e,nf,mH f1 fr,o⟩
 ·rename_i ho;rw[if_neg ho]at i;exact i
theorem nj.kept(f:nj (B.at_ F1 H1) F H):kq F1 F H1 H:=⟨f.sub,λa o h e=>f.keep a o e λz=>z.1 h,λa o e h1 h2=>f.keep a o e λz=>by
  rcases z.2.1 with⟨xs,q⟩|⟨xs,q⟩|⟨C,d,xs,q⟩;·rw[e]at q;exact h1 xs (Option.some.inj q)
  ·rw[e]at q;exact h2.1 xs (Option.some.inj q)
  ·rw[e]at q;exact h2.2 C d xs (Option.some.inj q)⟩
end
def qZ(hp:PassesOwn ↑a X.A X.env X.xe)(hc:X.calm=true)(hi:Nc X tg iter it)(hg:Wr X tg g)(hb:gM X body mb)(hs:∀x,foldedSetIterable iter X.env x=pure x:=by intro _;rfl):lK X (.For tg iter body [] pos) (wW it g mb):=by
 obtain⟨wi,pi,si⟩:=hi;obtain⟨tg',pg,sg⟩:=hg;obtain⟨tb,pb,sb⟩:=hb;refine⟨_,aU hp hc pi pg pb hs,?_⟩;intro B F H σ env D R w;unfold wW at w;refine si B F H σ env _ R (λz=>by rw[z]at w;exact w) (λts env' e J F1 H1 R1 Y=>?_) λx e ev F' H' R' i pins s' I=>by rw[e]at w;exact w ev F' H' σ R' i pins s' I
 rw[e]at w;dsimp only at w;have f1:=R1.fr;refine⟨λi m σ H=>m=ts.length-i/\i<=ts.length/\∃F env,zN X.K (B.at_ F1 H1) F H σ env/\qJ X B D (jy g mb (ts.drop i) env),⟨ts.length,by simp,Nat.zero_le _,F1,env',R1.rebase,by simpa using w⟩,?_⟩;rintro i m σ2 H2⟨rfl,hi,F2,env2,R2,w2⟩;obtain⟨yg,ys⟩:=Y F2 H2 R2.fr.kept i;by_cases hlt:i<ts.length
 ·obtain⟨go,yl⟩:=yg hlt;refine .inr ⟨go,λσ' H'=>∃F env,zN X.K (B.at_ F1 H1) F H' σ' env/\qJ X B D (jy g mb (ts.drop (i+1)) env),λσ' H'⟨F',e',R',w'⟩=>⟨ts.length-(i+1),by omega,rfl,hlt,F',e',R',w'⟩,λx H3 y=>?_⟩;obtain⟨rfl,t,ht,it⟩:=yl x H3 y;have hd:ts.drop i=t::ts.drop (i+1):=by
   rw[List.drop_eq_getElem_cons hlt];have:ts[i]?=some ts[i]:=by simp[hlt]
   rw[this]at ht;cases ht;rfl
  rw[hd]at w2;have w2:qJ X B D (match g t env2 with|none=>.bad|some e1=>match mb e1 with|.nx e2=>jy g mb (ts.drop (i+1)) e2|.ct e2=>jy g mb (ts.drop (i+1)) e2|.bk e2=>.nx e2|o=>o):=w2;cases hg:g t env2 with|none=>rw[hg]at w2;exact w2.elim|some e1=>rw[hg]at w2;dsimp only at w2;refine sg _ F2 H3 σ2 env2 e1 x t _ R2 it hg λσ3 R3=>?_;refine sb _ F2 H3 σ3 e1 _ R3 ?_;cases ho:mb e1 with|nx e2=>rw[ho]at w2;exactλF4 H4 σ4 R4=>⟨F4,e2,R4,w2⟩|ct e2=>rw[ho]at w2;exactλF4 H4 σ4 R4=>⟨F4,e2,R4,w2⟩|bk e2=>rw[ho]at w2;exactλF4 H4 σ4 R4=>w2 F4 H4 σ4 (R4.unbase f1)|rt r=>rw[ho]at w2;exactλv F4 H4 R4=>w2 v F4 H4 (R4.unbase f1)|exc x e2=>rw[ho]at w2;exactλev F4 H4 σ4 R4=>w2 ev F4 H4 σ4 (R4.unbase f1)|bad=>rw[ho]at w2;exact w2.elim
 ·have hl:i=ts.length:=by omega
  subst hl;rw[List.drop_length]at w2;exact .inl ⟨ys ↑h,w2 F2 H2 σ2 (R2.unbase f1)⟩
theorem _root_.L2.FlyN.up{n m:Nat}{ps:List ↑j}{H:Hp}{ev:Value}{h:Heap}(f:FlyN [] n H ev h)(hm:m<=n)(hp:∀p∈ps,p.1<n):FlyN ps m H ev h:=by obtain⟨e,oe,vs,a,b,c,d,g,r⟩:=f;exact⟨e,oe,vs,a,Nat.le_trans hm b,c,d,g,r.imp id λ⟨T,oT,ts,q1,q2,q3,_,q4⟩=>⟨T,oT,ts,Nat.le_trans hm q1,q2,q3,λp z=>Nat.ne_of_lt (Nat.lt_of_lt_of_le (hp p z) q1),q4⟩⟩
theorem _root_.L2.FlyN.dn{n:Nat}{ps:List ↑j}{H:Hp}{ev:Value}{h:Heap}(f:FlyN ps n H ev h):FlyN [] n H ev h:=by obtain⟨e,oe,vs,a,b,c,d,g,r⟩:=f;exact⟨e,oe,vs,a,b,c,d,g,r.imp id λ⟨T,oT,ts,q1,q2,q3,_,q4⟩=>⟨T,oT,ts,q1,q2,q3,(λ_ z=>nomatch z),q4⟩⟩
def nr(P:Program)(w:World):ZG:=λouter H s E e s'=>∃H' oa,s'.os=s.os/\AllBare s'.gens/\Un (nH outer) [] H H' s.heap s'.heap/\gx P w H' s'.heap/\FlyN [] s.heap.objs.size H' e s'.heap/\E e oa H'
def da(F:xZ X.prog X.w X.K X.mg X.base (nr X.prog X.w) k f fd ps sp)(hr:jN k X.A)(hb:kA X.K fd ps [])(I:zo X pins σ H s)(r:zE vs us)(h:sp vs H Q E)(hx:∀e oa H',E e oa H'->∀s',nh X e pins σ H' s'->X.xe e s'):wpAny ↑a X.A (call (.ref f) us) (EP X pins σ Q) X.xe s:=by
 have hl:us.length=ps.length:=by rw[<-r.length];exact F.len _ _ _ _ h
 refine wpAny_call (codeAny_mono (F.run X.A X.stack s H ⟨us,[]⟩ us vs Q E hr I.env0 (by have:=hb s us I.kIn (by simpa using hl);simpa using this) r h) λr s' hq=>?_);cases r with|error e=>obtain⟨H',oa,ho,hg,hu,hok,fl,he⟩:=hq;exact hx e oa H' he s' ⟨I.call' ho hu hok hg λb z=>absurd z ↑D,fl.up I.sz λp hp=>Heap.lt_size (I.pin p hp).1⟩|ok fl=>cases fl with|ret u=>exact I.after hq|next=>exact False.elim hq|brk=>exact False.elim hq|cont=>exact False.elim hq
def tU(X:Cx)(sp:Sp)(t:TA):TE:=λσ H Q=>t σ H λvs H1=>∃E,sp vs H1 Q E/\∀e oa H',E e oa H'->∀pins s',nh X e pins σ H' s'->X.xe e s'
def bh(F:xZ X.prog X.w X.K X.mg X.base (nr X.prog X.w) k f fd ps sp)(hr:jN k X.A)(hg:Gl X x)(hm:X.mg x=some (.ref f))(hk:W.keepIn X.K (.ref f)=true)(hb:kA X.K fd ps [])(ha:PA X (e::es) t)(hdb:(x==↑t)=false:=by decide)(he:starEach (e::es) X.env=↑x::starEach es X.env:=by rfl)(hpl:(backTo pos ↑ag).any (·.1)=false:=by rfl):PE X ↑R (tU X sp t):=by intro pins s σ H Q I h;refine wpAny_Call_Name_kw (fY I hg hm ?_ hdb);refine W.callWith_K I.ok.mod.kin hk (ja (ha pos pins s σ H _ I h) λus s1⟨vs,H1,I1,r,E,q,hx⟩=>⟨I1.kIn,?_⟩) he hpl;exact da F hr hb I1 r q λe oa H' z s' I'=>hx e oa H' z pins s' I'
abbrev MF:=List RV->kN RV
def mI(vs:List V)(rs:List RV)(a:Addr):Prop:=∃(i:Nat)(r:RV),rs[i]?=some r/\r.1=true/\vs[i]?=some (V.ref a)
def gX(K:W.Frag)(f:MF):Sp:=λvs H Q E=>∃F rs,lJ F H/\xD K (λ_=>True) F H vs rs/\f rs≠.bad/\(∀r,f rs=.ok r->∀v F' H',YH K ⟨mI vs rs,H,F⟩ F' H' v r->Q v H')/\(∀x,f rs=.exc x->∀ev F' H',nj ⟨mI vs rs,H,F⟩ F' H'->Yo K F' H' ev x->E ev none H')
def j7(P:Program)(w:World)(K:W.Frag)(mg:Str->Option Value)(base:Heap)(k:Nat)(x:Str)(ps:List Str)(f:MF):Prop:=∃fa fd,xZ P w K mg base (nr P w) k fa fd ps (gX K f)/\mg x=some (.ref fa)/\W.keepIn K (.ref fa)=true/\kA K fd ps []
def j7.mono{P:Program}{w:World}{K:W.Frag}{mg:Str->Option Value}{base:Heap}{j k:Nat}{x:Str}{ps:List Str}{f:MF}(F:j7 P w K mg base j x ps f)(h:j<=k):j7 P w K mg base k x ps f:=by obtain⟨fa,fd,F,r⟩:=F;exact⟨fa,fd,F.mono h,r⟩
def zj(f:MF)(ma:MA):ME:=λenv=>(ma env).bind f
def xD.at{K:W.Frag}{fr F:Addr->Prop}{H:Hp}:∀{vs:List V}{rs:List RV}{i:Nat}{r:RV},xD K fr F H vs rs->rs[i]?=some r->∃v,vs[i]?=some v/\wz K fr F H v r|[],[],i,r,_,h=>by simp at h|[],_::_,_,_,h,_=>h.elim|_::_,[],_,_,h,_=>h.elim|v::vs,q::rs,i,r,h,e=>by cases i with|zero=>simp at e;subst e;exact⟨v,by simp,h.1⟩|succ i=>obtain⟨w,hw,q⟩:=xD.at h.2.1 (by simpa using e);exact⟨w,by simpa using hw,q⟩
def xD.any{K:W.Frag}{fr fr' F:Addr->Prop}{H:Hp}(hf:∀a,fr a->fr' a):∀{vs:List V}{rs:List RV},xD K fr F H vs rs->xD K fr' F H vs rs
 |[],[],_=>trivial|[],_::_,h=>h.elim|_::_,[],h=>h.elim|v::vs,r::rs,h=>by
  refine⟨?_,xD.any hf h.2.1,h.2.2⟩;have i:=h.1;unfold wz at i⊢;split;·rename_i ho;rw[if_pos ho]at i;obtain⟨a,e,nf,f,o⟩:=i;exact⟨a,e,nf,hf a f,o⟩
  ·rename_i ho;rw[if_neg ho]at i;exact i
def xQ{K:W.Frag}{fr F:Addr->Prop}{H:Hp}{vs:List V}{rs:List RV}{a:Addr}(h:xD K fr F H vs rs)(o:mI vs rs a):¬F a/\fr a/\H a≠none:=by obtain⟨i,r,e,ho,hv⟩:=o;obtain⟨v,hv',ir⟩:=h.at e;rw[hv]at hv';cases hv';obtain⟨b,eb,nf,f,th,_⟩:=ir.there ho;cases eb;exact⟨nf,f,th⟩
def iP(sa:tP X t ma):xG X (tU X (gX X.K f) t) (zj f ma):=by
 intro F H σ env Q R nb ok ex;unfold zj at nb ok ex;refine sa F H σ env _ R ↑b (λrs e1 vs F1 H1 x1 i1=>?_) λx z=>ex x ↑v;rw[e1,bind_ok]at nb ok ex--from the callee's frame to ours
 have toExt:∀{F':Addr->Prop}{H':Hp},nj ⟨mI vs rs,H1,F1⟩ F' H'->jA F H F' H':=by
  intro F' H' fr;refine⟨λa o h=>fr.keep a o (x1.same a o h) λz=>?_,λa h=>fr.sub a (x1.sub a h),λa h=>?_,fr.dom⟩;·rw[(xQ i1 z).2.1]at h;cases h
  ·rcases fr.new a h with h|h|h;·exact x1.new a h
   ·exact .inr (j8 x1.same h)
   ·exact .inr (xQ i1 h).2.1
 refine⟨λev oa H'=>oa=none/\∃F' x,f rs=.exc x/\jA F H F' H'/\Yo X.K F' H' ev x,⟨F1,rs,x1.dom,i1.any λ_ _=>trivial,nb,λr er v F' H' rr=>?_,λx ex' ev F' H' fr ix=>⟨rfl,F',x,ex',toExt fr,ix⟩⟩,λev oa H'⟨_,F',x,e',xt,ix⟩pins s' I=>ex x e' ev F' H' xt ix pins s' I⟩;refine ok r er v F' H' (toExt rr.fr) ?_;have i:=rr.val;unfold wz at i⊢;split
 ·rename_i ho;rw[if_pos ho]at i;obtain⟨a,e,nf,fr,o⟩:=i;refine⟨a,e,nf,?_,o⟩;rcases fr with fr|fr;·exact j8 x1.same fr
  ·exact(xQ i1 fr).2.1
 ·rename_i ho;rw[if_neg ho]at i;exact i
def vD(C:j7 X.prog X.w X.K X.mg X.base k x ps f)(hr:jN k X.A)(hg:Gl X x)(ha:aM X (e::es) ma)(hdb:(x==↑t)=false:=by decide)(he:starEach (e::es) X.env=↑x::starEach es X.env:=by rfl)(hpl:(backTo pos ↑ag).any (·.1)=false:=by rfl):j9 X ↑R (zj f ma):=by obtain⟨fa,fd,F,hm,hk,hb⟩:=C;obtain⟨ta,pa,sa⟩:=ha;exact⟨_,bh F hr hg hm hk hb pa hdb he hpl,iP sa⟩
def wd(n:Nat)(rs:List RV):En:=rs.map some++List.replicate (n-rs.length) none
def YM:YJ->kN RV|.nx _=>.ok (false,.non)|.rt r=>.ok r|.exc x _=>.exc x|_=>.bad
def zP(n k:Nat)(mb:MS):MF:=λrs=>if rs.length=k then YM (mb (wd n rs))else .bad
def J4{K:W.Frag}{F:Addr->Prop}{H:Hp}{N:List Str}{vs:List V}{rs:List RV}(d:lJ F H)(h:xD K (λ_=>True) F H vs rs):zN K ⟨mI vs rs,H,F⟩ F H (start N vs) (wd N.length rs):=by
 have hl:=h.len;have he:∀{i:Nat}{r:RV},(wd N.length rs)[i]?=some (some r)->rs[i]?=some r:=by
  intro i r e;unfold wd at e;by_cases hi:i<rs.length;·rw[List.getElem?_append_left (by simpa using hi),List.getElem?_map]at e;cases q:rs[i]? with|none=>rw[q]at e;cases e|some r'=>rw[q]at e;cases e;rfl
  ·rw[List.getElem?_append_right (by simpa using hi),List.getElem?_replicate]at e;split at e<;>cases e
 have hs:∀{i:Nat}{v:V},vs[i]?=some v->(start N vs)[i]?=some (some v):=by intro i v e;unfold L2.start;have hi:i<vs.length:=(List.getElem?_eq_some_iff.mp e).1;rw[List.getElem?_append_left (by simpa using hi),List.getElem?_map,e];rfl
 have sepG:∀{vs:List V}{rs:List RV},xD K (λ_=>True) F H vs rs->∀(i j:Nat)(r r':RV)(v:V),rs[i]?=some r->rs[j]?=some r'->r.1=true->r'.1=true->vs[i]?=some v->vs[j]?=some v->i=j:=by intro vs;induction vs with|nil=>intro rs h i j r r' v _ _ _ _ e;simp at e|cons w vs ih=>intro rs h i j r r' v e1 e2 o1 o2 s1 s2;cases rs with|nil=>exact h.elim|cons q rs=>cases i with
    |zero=>cases j with|zero=>rfl|succ j=>simp at e1 s1;subst e1 s1;exact absurd (by simpa using s2) (h.2.2 o1 j r' (by simpa using e2) o2)
    |succ i=>cases j with|zero=>simp at e2 s2;subst e2 s2;exact absurd (by simpa using s1) (h.2.2 o2 i r (by simpa using e1) o1)|succ j=>rw[ih h.2.1 i j r r' v (by simpa using e1) (by simpa using e2) o1 o2 (by simpa using s1) (by simpa using s2)]
 refine⟨⟨d,λ_ h=>h,λ_ h=>.inl h,λ_ _ h _=>h,λa f m=>(xQ h m).1 f⟩,?_,λi t e=>?_,λi t e=>?_,λi j t t' a e1 e2 s1 s2=>?_⟩;·unfold L2.start wd;simp[hl]
 ·obtain⟨v,hv,ir⟩:=h.at (he e);exact⟨v,hs hv,ir.is⟩
 ·obtain⟨v,hv,ir⟩:=h.at (he e);obtain⟨a,rfl,nf,_,_,w⟩:=ir.there rfl;exact⟨a,hs hv,nf,.inr ⟨i,_,he e,rfl,hv⟩,w⟩
 ·obtain⟨v,hv,ir⟩:=h.at (he e1);obtain⟨v',hv',ir'⟩:=h.at (he e2);rw[hs hv]at s1;rw[hs hv']at s2;have s1:v=.ref a:=by injection s1 with s1;injection s1
  have s2:v'=.ref a:=by injection s2 with s2;injection s2
  subst s1;subst s2;exact sepG h i j _ _ _ (he e1) (he e2) rfl rfl hv hv'
section
variable{P:Program}{w:World}{K:W.Frag}{mg:Str->Option Value}{base:Heap}
theorem YN{N:List Str}{x:Str}{sc:Scope}{f:Addr}{cdv:Value}{A:Around}{outer:List Env}{s:Shared}{H:Hp}{vs:List V}{Q:VK}{E:XK}{body:List Stmt}{mb:MS}{n:Nat}(h:gX K (zP N.length n mb) vs H Q E)(hb:gM (n9 (nr P w) P w K mg base N x sc f cdv A outer s H E) body mb):∃t,cu (n9 (nr P w) P w K mg base N x sc f cdv A outer s H E) body t/\t {nx:=λ_ H'=>Q .non H',rt:=Q} (start N vs) H:=by
 obtain⟨F,rs,d,ir,nb,ok,ex⟩:=h;obtain⟨t,p,sm⟩:=hb;refine⟨t,p,?_⟩;unfold zP at nb ok ex;by_cases hl:rs.length=n;·rw[if_pos hl]at nb ok ex;refine sm _ F H (start N vs) (wd N.length rs) _ (J4 d ir) ?_;cases ho:mb (wd N.length rs)with|nx env=>rw[ho]at ok;exactλF' H' σ R=>ok _ rfl .non F' H' ⟨R.fr,jc Yu⟩|rt r=>rw[ho]at ok;exactλv F' H' R=>ok _ rfl v F' H' R|bk env=>rw[ho]at nb;exact absurd rfl nb|ct env=>rw[ho]at nb;exact absurd rfl nb|exc x env=>rw[ho]at ex;intro ev F' H' σ R ix pins s'⟨I,fl⟩;obtain⟨e0,rfl,i0⟩:=id ix;unfold Is at i0;obtain⟨e1,d1,w1,ee,h1,_⟩:=i0;cases ee;exact wpAny_bind (cM I rfl rfl h1 fl λh' J fl'=>⟨H',none,J.os,J.bare,J.base,J.hok,fl'.dn,ex x rfl _ F' H' R.fr ix⟩)|bad=>rw[ho]at nb;exact absurd rfl nb
 ·rw[if_neg hl]at nb;exact absurd rfl nb
theorem GC(h:gX K (zP n m mb) vs H Q E):vs.length=m:=by
 obtain⟨F,rs,d,ir,nb,_⟩:=h;unfold zP at nb;by_cases hl:rs.length=m;·rw[<-hl];exact ir.len
 ·rw[if_neg hl]at nb;exact absurd rfl nb
theorem zM.ok3{x:Str}{st:Stmt}{N ps:List Str}{k:Nat}{mb:MS}(F:zM K mg x st)(S:zg N ps (zb st))(hb:∀(kV doc pm:Value)(an:Option Addr)(cdv ct:Value)(us:List Value),us.length=ps.length->bindArgs (W.fnOf x x (jS st) (j6 st) (zb st) .none kV doc pm an cdv ct) ⟨us,[]⟩=pure (ps.zip us))(hbody:∀(f:Addr)(cdv:Value)(A:Around)(outer:List Env)(s:Shared)(H:Hp)(E:XK),jN k (A.deeper (envOfC x (zb st) s.heap.objs.size f cdv))->gM (n9 (nr P w) P w K mg base N x (zb st) f cdv A outer s H E) (j6 st) mb):j7 P w K mg base (k+1) x ps (zP N.length ps.length mb):=by obtain⟨f,fd,F,e⟩:=F;refine⟨f,fd,?_,e,F.kp,F.binds hb⟩;obtain⟨oc,od,kV,doc,pm,an,cdv,ct,osl,rfl,lk,hcd⟩:=F.ex;exact iC lk hcd S (λvs H Q E h=>GC h) λA outer s H vs Q E hr hsp=>YN hsp (hbody f cdv A outer s H E hr)
end
def pD{K:W.Frag}{F:Addr->Prop}{H:Hp}{t:T}{vs:List V}(h:IsAll K F H [t] vs):∃v,vs=[v]/\Is K F H t v:=by unfold IsAll at h;obtain⟨v,r,rfl,h1,h2⟩:=h;unfold IsAll at h2;subst h2;exact⟨v,rfl,h1⟩
def Vn{K:W.Frag}{F:Addr->Prop}{H:Hp}{t u:T}{vs:List V}(h:IsAll K F H [t,u] vs):∃v w,vs=[v,w]/\Is K F H t v/\Is K F H u w:=by unfold IsAll at h;obtain⟨v,r,rfl,h1,h2⟩:=h;obtain⟨w,rfl,h3⟩:=pD h2;exact⟨v,w,rfl,h1,h3⟩
def jH:List T->Option RV|[.lst ts]=>some (false,.int ts.length)|[.tup ts]=>some (false,.int ts.length)|[.str z]=>if z.length<=sizeLine then some (false,.int z.length)else none|_=>none
def Q8:List T->Option RV|[.lst ts]=>some (true,.lst ts)|[.tup ts]=>some (true,.lst ts)|_=>none
def vE:List T->Option RV|[.lst ts]=>some (false,.tup ts)|[.tup ts]=>some (false,.tup ts)|_=>none
def bn:T->Option String|.non=>some "NoneType"|.bl _=>some "bool"|.int _=>some "int"|.str _=>some "str"|.tup _=>some "tuple"|.lst _=>some "list"|_=>none
def allB:List T->Option (List Bool)|[]=>some []|.bl b::ts=>(allB ts).map (b::·)|_=>none
def g0:List T->Option RV|[.lst ts]=>(allB ts).map λbs=>(false,.bl (bs.all id))|_=>none
def jI:vg X (.builtin "len") (Ys X.K jH):=by intro pins s σ H xs us Q I r h;obtain⟨F,ts,rv,d,ia,e,q⟩:=h;match ts,e with|[.lst ts],e=>cases e;obtain⟨v,rfl,i⟩:=pD ia;unfold Is at i;obtain⟨a,vs,rfl,g1,g2⟩:=i;exact fZ pins s σ H _ us Q I r ⟨a,vs,rfl,.inl g1.sq,by rw[<-g2.len];exact jT d xb q rfl⟩|[.tup ts],e=>cases e;obtain⟨v,rfl,i⟩:=pD ia;unfold Is at i;obtain⟨a,vs,rfl,g1,g2⟩:=i;exact fZ pins s σ H _ us Q I r ⟨a,vs,rfl,.inr g1,by rw[<-g2.len];exact jT d xb q rfl⟩|[.str z],e=>obtain⟨v,rfl,i⟩:=pD ia;unfold Is at i;subst i;simp only[jH]at e;split at e<;>cases e;rename_i hl;exact eO pins s σ H _ us Q I r ⟨z,rfl,hl,jT d xb q rfl⟩
def Vo:vg X (.type "list") (Ys X.K Q8):=by intro pins s σ H xs us Q I r h;obtain⟨F,ts,rv,d,ia,e,q⟩:=h;match ts,e with|[.lst ts],e=>cases e;obtain⟨v,rfl,i⟩:=pD ia;unfold Is at i;obtain⟨a,vs,rfl,g1,g2⟩:=i;exact p0 pins s σ H _ us Q I r ⟨a,vs,rfl,.inl g1.sq,λl hl=>cW d g2 hl q⟩|[.tup ts],e=>cases e;obtain⟨v,rfl,i⟩:=pD ia;unfold Is at i;obtain⟨a,vs,rfl,g1,g2⟩:=i;exact p0 pins s σ H _ us Q I r ⟨a,vs,rfl,.inr g1,λl hl=>cW d g2 hl q⟩
def we:vg X (.type "tuple") (Ys X.K vE):=by intro pins s σ H xs us Q I r h;obtain⟨F,ts,rv,d,ia,e,q⟩:=h;match ts,e with|[.lst ts],e=>cases e;obtain⟨v,rfl,i⟩:=pD ia;unfold Is at i;obtain⟨a,vs,rfl,g1,g2⟩:=i;exact gR pins s σ H _ us Q I r ⟨a,vs,rfl,.inl ⟨g1.sq,λl hl=>Yt d g2 hl q⟩⟩|[.tup ts],e=>cases e;obtain⟨v,rfl,i⟩:=pD ia;have i':=i;unfold Is at i;obtain⟨a,vs,rfl,g1,g2⟩:=i;exact gR pins s σ H _ us Q I r ⟨a,vs,rfl,.inr ⟨g1,jT d i' q rfl⟩⟩
def bo{K:W.Frag}{F:Addr->Prop}{H:Hp}:∀{ts:List T}{bs:List Bool}{vs:List V}{us:List Value},allB ts=some bs->IsAll K F H ts vs->zE vs us->us=bs.map Value.bool|[],bs,vs,us,h,i,r=>by unfold IsAll at i;subst i;cases r;simp[allB]at h;subst h;rfl|t::ts,bs,vs,us,h,i,r=>by unfold IsAll at i;obtain⟨v,w,rfl,i1,i2⟩:=i;cases r with|cons r1 r2=>cases t<;>simp only[allB,reduceCtorEq,Option.map_eq_some_iff]at h;case bl b=>obtain⟨bs',h,rfl⟩:=h;unfold Is at i1;subst i1;cases r1;rw[bo h i2 r2];rfl
def rF:∀(bs:List Bool),((List.range bs.length).all λi=>(bs[i]?).getD true)=bs.all id|[]=>rfl|b::bs=>by rw[List.length_cons,List.range_succ_eq_map,List.all_cons,List.all_map,List.all_cons];have:=rF bs;simp only[List.getElem?_cons_zero,Option.getD_some,id];congr 1
def qq(hc:X.calm=true):vg X (.builtin "all") (Ys X.K g0):=by intro pins s σ H xs us Q I r h;obtain⟨F,ts,rv,d,ia,e,q⟩:=h;match ts,e with
 |[.lst ts],e=>
  simp only[g0,Option.map_eq_some_iff]at e;obtain⟨bs,eb,rfl⟩:=e;obtain⟨v,rfl,i⟩:=pD ia;obtain⟨u,rfl,ru⟩:=gQ r;unfold Is at i;obtain⟨a,vs,rfl,g1,g2⟩:=i;cases ru;obtain⟨its,r',pl,hz⟩:=I.list g1.sq;have hb:=bo eb g2 r';have hl:=pl.isList;have hlt:a<s.heap.objs.size:=by obtain⟨_,e,_⟩:=hl;exact Heap.lt_size e
  refine call_all_walk (wpAny_pyIter_list hl ?_);refine⟨s.heap.objs.size,[s.heap.objs.size,a],[s.heap.objs.size],its.toArray.size,_,_,λi=>(bs[i]?).getD true,rfl,Walks.list (A:=X.A.in1) (I.ok.hd hc) _ a (Nat.ne_of_lt hlt) its.toArray,⟨⟨_,Heap.get?_push_size _ rfl,rfl,rfl⟩,hl.push _⟩,λi v s' Q' E' hP hQ=>?_,λh' tk hk=>?_⟩
  ·have hv:its[i]?=some v:=by simpa using hP
   rw[hb,List.getElem?_map]at hv;cases hbi:bs[i]? with|none=>rw[hbi]at hv;cases hv|some b=>rw[hbi]at hv;cases hv;simp only[hbi,Option.getD_some]at hQ;exact wpAny_truthy_bool hQ
  ·have e2:((List.range its.toArray.size).all λi=>(bs[i]?).getD true)=bs.all id:=by
    have:its.toArray.size=bs.length:=by rw[hb];simp
    rw[this];exact rF bs
   rw[e2];exact⟨.bl (bs.all id),H,I.kept (LSm.kept_iter hk),rfl,jT d xg q rfl⟩
abbrev aN:=En->kN (List T)
def Q9(X:Cx)(wi:TI)(it:aN):Prop:=∀(F:Addr->Prop)(H:Hp)(σ:St)(env:En)(R:It->Hp->Prop),w4 X.K F H σ env->it env≠.bad->(∀ts,it env=.ok ts->∀J F' H',jA F H F' H'->qY X.K F' H' J ts->R J H')->(∀x,it env=.exc x->ZX X F H σ x)->wi σ H R
def tV(X:Cx)(tg iter:Expr)(it:aN):Prop:=∃wi,PI X tg iter wi/\Q9 X wi it
def xk(m:ME):aN:=λenv=>(m env).bind λr=>aL (qp r.2)
def tW{K:W.Frag}{F:Addr->Prop}{H:Hp}{a:Addr}{vs:List V}{ts:List T}(g1:ZU K F H a vs)(g2:IsAll K F H ts vs):qY K F H (MR K a) ts:=by intro F2 H2 k i;have h1:=(g1.mono k).sq;have h2:=g2.mono k;have hl:=h2.len;refine⟨λhi=>⟨⟨vs,vs[i],h1,by simp[<-hl,hi]⟩,λx H3 y=>⟨y.1,?_⟩⟩,λhi=>⟨vs,h1,by omega⟩⟩;have hx:=y.2 vs h1;obtain⟨v,hv,iv⟩:=h2.get (i:=i) (t:=ts[i]) (by simp[hi]);rw[hx]at hv;cases hv;exact⟨ts[i],by simp[hi],iv⟩
def vM(h:j9 X e m):tV X tg e (xk m):=by obtain⟨tl,pl,sl⟩:=h;refine⟨_,tT pl,?_⟩;intro F H σ env R RE nb ok ex;unfold xk at nb ok ex;cases hr:m env with|bad=>rw[hr]at nb;exact absurd rfl nb|exc x=>rw[hr]at ex;exact .inl (sl.val RE (by rw[hr];intro z;cases z) (λr er=>by rw[hr]at er;cases er) λx' z=>by rw[hr]at z;cases z;exact ex x rfl)|ok r=>
  rw[hr,bind_ok]at nb ok;have nb':m env≠.bad:=by rw[hr];intro z;cases z
  have noex:∀x,m env=.exc x->ZX X F H σ x:=λx z=>by rw[hr]at z;cases z
  obtain⟨o,t⟩:=r;dsimp only at nb ok;cases t<;>simp only[qp,ofO_none,ofO_some]at nb ok<;>try(exact absurd rfl nb)
  case lst us=>refine .inl (sl.val RE nb' (λr er v F1 H1 x1 i1=>?_) noex);rw[hr]at er;cases er;unfold Is at i1;obtain⟨a,vs,rfl,g1,g2⟩:=i1;exact⟨a,rfl,⟨vs,g1.sq⟩,ok _ rfl _ F1 H1 x1 (tW g1 g2)⟩
  case tup us=>refine .inr (.inl (sl.val RE nb' (λr er v F1 H1 x1 i1=>?_) noex));rw[hr]at er;cases er;unfold Is at i1;obtain⟨a,vs,rfl,g1,g2⟩:=i1;exact⟨a,rfl,⟨vs,g1⟩,ok _ rfl _ F1 H1 x1 (fx g1 g2)⟩
  case str z=>refine .inr (.inr (sl.val RE nb' (λr er v F1 H1 x1 i1=>?_) noex));rw[hr]at er;cases er;unfold Is at i1;exact⟨z,i1,ok _ rfl _ F1 H1 x1 fy⟩
def qr(m:MA):aN:=λenv=>(m env).bind λrs=>match rs.map Prod.snd with|[.int j]=>if-(2^62)<=j/\j<2^62 then .ok (kQ 0 j.toNat)else .bad|_=>.bad
def iQ(hg:Gl X "range")(hm:X.mg "range"=none)(ha:aM X [a] ma)(hs:starEach [a] X.env=[(false,eval a X.env)]:=by rfl):tV X tg (.Call (.Name "range" p) [a] [] pos) (qr ma):=by
 obtain⟨ta,pa,sa⟩:=ha;refine⟨_,ij hg hm pa hs,?_⟩;intro F H σ env R RE nb ok ex;unfold qr at nb ok ex;refine sa F H σ env _ RE ↑b (λrs e1 vs F1 H1 x1 i1=>?_) λx z=>ex x ↑v;rw[e1,bind_ok]at nb ok;obtain⟨F2,x2,_,i2⟩:=i1.frz x1;split at nb
 ·rename_i j hj;rw[hj]at i2 ok;dsimp only at ok;split at nb;·rename_i hb;rw[if_pos hb]at ok;obtain⟨v,rfl,g⟩:=pD i2;unfold Is at g;exact⟨j,by rw[g],hb.1,hb.2,ok _ rfl _ F2 H1 x2 fB⟩
  ·exact absurd rfl nb
 ·exact absurd rfl nb
def kx(env:En)(slots:List Nat):En:=slots.map λk=>(env[k]?).getD none
def vn(mt:MT)(me:ME)(caps:En):List T->kN (List T)|[]=>.ok []|t::ts=>match mt (some ↑V::caps)with|.ok true=>(match me (some ↑V::caps)with|.ok r=>(match vn mt me caps ts with|.ok rs=>.ok (r.2::rs)|_=>.bad)|_=>.bad)|.ok false=>vn mt me caps ts|_=>.bad
def jh(it:aN)(mt:MT)(me:ME)(slots:List Nat):ME:=λenv=>(it env).bind λts=>if ts.length<=sizeLine then(match vn mt me (kx env slots) ts with|.ok rs=>.ok (true,.lst rs)|_=>.bad)else .bad
def zX:MT:=λ_=>.ok true
def db(X:Cx)(ifs:List Expr)(m:MT):Prop:=∃t,ZT X ifs t/\kO X t m
def je:db X [] zX:=⟨_,Yn,λF H σ env Q R nb ok ex=>ok true rfl F H (.refl R.dom)⟩
def de(h:cQ X c m):db X [c] m:=let⟨t,p,s⟩:=h;⟨t,V7 p,s⟩
section
variable{X:Cx}{scope:Scope}{cl:List (Str×Addr)}{x:Str}{caps:List Str}{slots:List Nat}{iter elt:Expr}{ifs:List Expr}{px pos:Pos}{it:aN}{mt:MT}{me:ME}
def Lq(X:Cx)(scope:Scope)(cl:List (Str×Addr))(x:Str)(caps:List Str)(ifs:List Expr)(m:MT):Prop:=∃t,∀C ex pn s₀ H₀,ZT ↑e ifs t/\rA ↑e t m
def IR(X:Cx)(scope:Scope)(cl:List (Str×Addr))(x:Str)(caps:List Str)(e:Expr)(m:ME):Prop:=∃t,∀C ex pn s₀ H₀,PE ↑e e t/\iM ↑e t m
theorem YO(h:∀C ex pn s₀ H₀,j9 ↑e e m):IR X scope cl x caps e m:=by
 refine⟨λσ H Q=>∀C ex pn s₀ H₀,∃t,PE ↑e e t/\t σ H Q,λC ex pn s₀ H₀=>⟨λpins s σ H Q I w=>?_,λF H σ env Q R nb ok exx C' ex' pn' s₀' H₀'=>?_⟩⟩;·obtain⟨t,p,w⟩:=w C ex pn s₀ H₀;exact p pins s σ H Q I w
 ·obtain⟨t,p,s⟩:=h C' ex' pn' s₀' H₀';exact⟨t,p,s F H σ env Q R nb ok λy z=>(exx y z).elim⟩
theorem YQ(h:∀C ex pn s₀ H₀,db ↑e ifs m):Lq X scope cl x caps ifs m:=by
 refine⟨λσ H Q=>∀C ex pn s₀ H₀,∃t,ZT ↑e ifs t/\t σ H Q,λC ex pn s₀ H₀=>⟨λpins s σ H Q I w=>?_,λF H σ env Q R nb ok exx C' ex' pn' s₀' H₀'=>?_⟩⟩;·obtain⟨t,p,w⟩:=w C ex pn s₀ H₀;exact p pins s σ H Q I w
 ·obtain⟨t,p,s⟩:=h C' ex' pn' s₀' H₀';exact⟨t,p,s F H σ env Q R nb ok λy z=>(exx y z).elim⟩
theorem YR{K:W.Frag}{F:Addr->Prop}{H:Hp}{σ:St}{env:En}{v:V}{t:T}(R:w4 K F H σ env)(iv:Is K F H t v):w4 K F H (some v::kb σ slots) (some ↑V::kx env slots):=by refine⟨R.dom,λi r h=>?_⟩;cases i with|zero=>simp at h;subst h;exact⟨v,rfl,iv⟩|succ i=>
  have h:(kx env slots)[i]?=some (some r):=by simpa using h
  unfold kx at h;rw[List.getElem?_map]at h;cases hk:slots[i]? with|none=>rw[hk]at h;cases h|some k=>
   rw[hk]at h;have h:(env[k]?).getD none=some r:=Option.some.inj h;have he:env[k]?=some (some r):=by cases e:env[k]? with|none=>rw[e]at h;cases h|some o=>rw[e]at h;have:o=some r:=h;rw[this]
   obtain⟨w,sw,q⟩:=R.vals k r he;refine⟨w,?_,q⟩;show(kb σ slots)[i]?=some (some w);unfold kb;rw[List.getElem?_map,hk];show some ((σ[k]?).getD none)=some (some w);rw[sw];rfl
theorem bp(si:Q9 X wi it)(st:rA (zn X scope cl 0 (x::caps) [] [] X.s₀ X.H₀) tt mt)(se:iM (zn X scope cl 0 (x::caps) [] [] X.s₀ X.H₀) te me):xG X (rp wi tt te slots) (jh it mt me slots):=by
 intro F H σ env Q RE nb ok exx;unfold jh at nb ok exx;refine si F H σ env _ RE ↑b (λts e1 J F1 H1 x1 Y=>?_) λx z=>exx x ↑v;rw[e1,bind_ok]at nb ok;by_cases hl:ts.length<=sizeLine;·rw[if_pos hl]at nb ok;cases hcl:vn mt me (kx env slots) ts with|bad=>rw[hcl]at nb;exact absurd rfl nb|exc y=>rw[hcl]at nb;exact absurd rfl nb|ok out=>
   rw[hcl]at ok;intro D hD;refine⟨λi m ys H=>m=ts.length-i/\i<=ts.length/\ys.length<=i/\H D=some (.lst ys)/\∃Fc us rest,¬Fc D/\jA F1 H1 Fc H/\IsAll X.K Fc H us ys/\vn mt me (kx env slots) (ts.drop i)=.ok rest/\us++rest=out,⟨ts.length,by simp,Nat.zero_le _,Nat.le_refl _,zm,F1,[],out,λf=>x1.dom D f hD,jA.alloc x1.dom hD,IsAll.nil,by simpa using hcl,rfl⟩,?_⟩;rintro i m ys H2⟨rfl,hi,hyl,hHD,Fc,us,rest,nD,xc,iu,hrest,hout⟩;refine⟨hHD,?_⟩;obtain⟨yg,ysp⟩:=Y Fc H2 xc.kept i;by_cases hlt:i<ts.length
   ·obtain⟨go,yl⟩:=yg hlt;refine .inr ⟨go,λv H3 y=>?_⟩;obtain⟨rfl,t,hti,iv⟩:=yl v H3 y;have hd:ts.drop i=t::ts.drop (i+1):=by
     rw[List.drop_eq_getElem_cons hlt];have:ts[i]?=some ts[i]:=by simp[hlt]
     rw[this]at hti;cases hti;rfl
    rw[hd,vn]at hrest;have RE2:w4 X.K Fc H3 σ env:=(RE.mono x1).mono xc;have RC:w4 X.K Fc H3 (some v::kb σ slots) (some ↑V::kx env slots):=YR RE2 iv;have keepD:∀{F':Addr->Prop}{H':Hp},jA Fc H3 F' H'->¬F' D/\H' D=some (.lst ys):=by
     intro F' H' xt;refine⟨λf=>?_,xt.same D _ hHD⟩;rcases xt.new D f with f|f;·exact nD f
     ·rw[hHD]at f;cases f
    refine st Fc H3 _ _ _ RC (λz=>by rw[z]at hrest;cases hrest) (λb eb F4 H4 x4=>?_) λy z=>by rw[z]at hrest;cases hrest
    rw[eb]at hrest;cases b with|false=>rw[if_neg Bool.false_ne_true];dsimp only at hrest;obtain⟨n4,d4⟩:=keepD x4;exact⟨ts.length-(i+1),by omega,rfl,hlt,by omega,d4,F4,us,rest,n4,xc.trans x4,iu.mono x4.kept,hrest,hout⟩|true=>
     rw[if_pos rfl];dsimp only at hrest;refine se.val (RC.mono x4) (λz=>by rw[z]at hrest;cases hrest) (λr er w F5 H5 x5 iw=>?_) λy z=>by rw[z]at hrest;cases hrest
     rw[er]at hrest;dsimp only at hrest;cases hcl2:vn mt me (kx env slots) (ts.drop (i+1))with|bad=>rw[hcl2]at hrest;cases hrest|exc y=>rw[hcl2]at hrest;cases hrest|ok rest2=>
      rw[hcl2]at hrest;have hr:r.2::rest2=rest:=by injection hrest
      obtain⟨n5,d5⟩:=keepD (x4.trans x5);have x15:=(xc.trans x4).trans x5;refine⟨d5,by omega,ts.length-(i+1),by omega,rfl,hlt,by rw[List.length_append];simp;omega,zm,F5,us++[r.2],rest2,n5,?_,?_,hcl2,by rw[<-hout,<-hr];simp⟩
      ·refine⟨λa o h=>?_,x15.sub,x15.new,λa f=>?_⟩;·rw[zf (zK h hD)];exact x15.same a o h
       ·have:a≠D:=by rintro rfl;exact n5 f
        rw[zf this];exact x15.dom a f
      ·exact((iu.mono (x4.trans x5).kept).append (IsAll.cons iw IsAll.nil)).mono (xr n5 d5 (.inl ⟨_,rfl⟩))
   ·have hli:i=ts.length:=by omega
    subst hli;rw[List.drop_length,vn]at hrest;have hr:rest=[]:=by injection hrest with hrest;exact hrest.symm
    subst hr;rw[List.append_nil]at hout;subst hout;refine .inl ⟨ysp ↑h,ok _ rfl _ Fc H2 (x1.trans xc) ?_⟩;unfold wz;rw[if_pos rfl];exact⟨D,rfl,nD,j8 x1.same hD,ys,hHD,iu⟩
 ·rw[if_neg hl]at nb;exact absurd rfl nb
theorem GD(hc:X.calm=true)(S:m7 X scope cl x caps slots)(hi:tV X (.Name x px) iter it)(ht:∀C ex pn s₀ H₀,db ↑e ifs mt)(he:∀C ex pn s₀ H₀,j9 ↑e elt me)(hs:∀v,foldedSetIterable iter X.env v=pure v:=by intro _;rfl)(hg:∀it v,letOwnedTupleGo (.Name x px) it v=pure ():=by intro _ _;rfl):j9 X ↑q (jh it mt me slots):=by obtain⟨wi,pi,si⟩:=hi;obtain⟨tt,ht⟩:=YQ ht;obtain⟨te,he⟩:=YO he;exact⟨_,V8 hc S pi (λC ex pn s₀ H₀=>(ht C ex pn s₀ H₀).1) (λC ex pn s₀ H₀=>(he C ex pn s₀ H₀).1) hs hg,bp si (ht 0 [] [] X.s₀ X.H₀).2 (he 0 [] [] X.s₀ X.H₀).2⟩
end
end L3
namespace L3
open PySem PySem.W PyProof.Rows
def qc(lt:Nat->Nat->Bool){α:Type}:KasT α->α|.ret a=>a|.ask i j k=>qc lt (k (lt i j))
structure TO(lt:Nat->Nat->Bool)(n:Nat):Prop where
 asym:∀i j,i<n->j<n->lt i j=true->lt j i=false
 trans:∀i j k,i<n->j<n->k<n->lt i j=true->lt j k=true->lt i k=true
 total:∀i j,i<n->j<n->i≠j->lt i j=true\/lt j i=true
structure Pm(p:Array Nat)(n:Nat):Prop where
 size:p.size=n
 perm:p.toList.Perm (List.range n)
def Pm.lt(h:Pm p n)(hi:i<n):p.getD i 0<n:=by
 have hs:i<p.size:=by rw[h.size];exact hi
 have:p[i]∈p.toList:=by simp
 have:=(h.perm.mem_iff).mp this;simp only[Array.getD,hs,dite_true];exact List.mem_range.mp this
def Pm.inj(h:Pm p n)(hi:i<n)(hj:j<n)(e:p.getD i 0=p.getD j 0):i=j:=by
 have hi':i<p.size:=by rw[h.size];exact hi
 have hj':j<p.size:=by rw[h.size];exact hj
 have nd:p.toList.Nodup:=h.perm.nodup_iff.mpr List.nodup_range;simp only[Array.getD,hi',hj',dite_true]at e;have h1:p.toList[i]?=some p[i]:=by simp[hi']
 have h2:p.toList[j]?=some p[j]:=by simp[hj']
 have e:p[i]=p[j]:=e;rw[e]at h1;exact(List.getElem?_inj (by simpa using hi') nd).mp (h1.trans h2.symm)
def Up(lt:Nat->Nat->Bool)(p:Array Nat)(m:Nat):Prop:=∀i j,i<j->j<m->lt (p.getD i 0) (p.getD j 0)=true
def GE(lt:Nat->Nat->Bool)(n:Nat){α:Type}:KasT α->Prop|.ret _=>True|.ask i j k=>i<n/\j<n/\GE lt n (k (lt i j))
def bq(hc:∀i j(C:Bool->Shared->Prop),i<n->j<n->C (lt i j) s->cmp i j C s):∀(t:KasT α),GE lt n t->Q (qc lt t) s->t.kasWp cmp Q s|.ret a,_,h=>h|.ask i j k,r,h=>hc i j _ r.1 r.2.1 (bq hc (k (lt i j)) r.2.2 h)
def uG(lt:Nat->Nat->Bool)(n:Nat){α:Type}:KasT α->Option α|.ret a=>some a|.ask i j k=>if i<n/\j<n then uG lt n (k (lt i j))else none
theorem bt{lt:Nat->Nat->Bool}{n:Nat}{α:Type}{a:α}:∀{t:KasT α},uG lt n t=some a->GE lt n t/\qc lt t=a
 |.ret a,h=>⟨trivial,Option.some.inj h⟩|.ask i j k,h=>by
  unfold uG at h;split at h;·rename_i hc;obtain⟨h1,h2⟩:=bt h;exact⟨⟨hc.1,hc.2,h1⟩,h2⟩
  ·cases h
theorem uH{lt lt':Nat->Nat->Bool}{n:Nat}{α:Type}(h:∀i j,i<n->j<n->lt i j=lt' i j):∀t:KasT α,uG lt n t=uG lt' n t
 |.ret a=>rfl|.ask i j k=>by
  unfold uG;split;·rename_i hc;rw[h i j hc.1 hc.2];exact uH h _
  ·rfl
def rG(n:Nat):Nat->List (List Nat)|0=>[[]]|k+1=>(rG n k).flatMap λr=>(List.range n).map λx=>x::r
theorem iR:∀{r:List Nat},(∀x∈r,x<n)->r∈rG n r.length|[],_=>List.mem_singleton.mpr rfl|x::r,h=>List.mem_flatMap.mpr ⟨r,iR λy hy=>h y (List.mem_cons_of_mem _ hy),List.mem_map.mpr ⟨x,List.mem_range.mpr (h x List.mem_cons_self),rfl⟩⟩
def Nd(r:List Nat)(i j:Nat):Bool:=Nat.blt (r.getD i 0) (r.getD j 0)
def Mq(r:List Nat):List Nat->Bool|[]=>true|i::q=>q.all (λj=>!Nd r j i)&&Mq r q
def Nf(n:Nat)(r:List Nat):Bool:=match uG (Nd r) n (kas_sort n)with|some q=>q.toList.isPerm (List.range n)&&Mq r q.toList|none=>false
theorem Vp:∀n<6,(rG n n).all (Nf n)=true:=by decide+kernel
theorem YS:∀{q:List Nat},Mq r q=true->q.Pairwise λi j=>Nd r j i=false|[],_=>.nil|i::q,h=>by unfold Mq at h;rw[Bool.and_eq_true,List.all_eq_true]at h;exact .cons (λj hj=>by simpa using h.1 j hj) (YS h.2)
structure WO(lt:Nat->Nat->Bool)(n:Nat):Prop where
 irr:∀i,i<n->lt i i=false
 trans:∀i j k,i<n->j<n->k<n->lt i j=true->lt j k=true->lt i k=true
 neg:∀i j k,i<n->j<n->k<n->lt i j=false->lt j k=false->lt i k=false
def bu(lt:Nat->Nat->Bool)(n i:Nat):Nat:=((List.range n).filter λk=>lt k i).length
theorem Vq{lt:Nat->Nat->Bool}(W:WO lt n)(hi:i<n):bu lt n i<n:=by have:=(List.length_filter_lt_length_iff_exists (l:=List.range n) (p:=λk=>lt k i)).mpr ⟨i,List.mem_range.mpr hi,by rw[W.irr i hi];decide⟩;simpa[bu]using this
theorem YT{lt:Nat->Nat->Bool}(W:WO lt n)(hi:i<n)(hj:j<n):lt i j=Nat.blt (bu lt n i) (bu lt n j):=by
 have sub:∀{a b},(∀k,k<n->lt k a=true->lt k b=true)->(List.range n).filter (λk=>lt k a)=((List.range n).filter λk=>lt k b).filter λk=>lt k a:=λ{a b}h=>by rw[List.filter_filter];refine List.filter_congr λk hk=>?_;cases g:lt k a with|false=>rfl|true=>rw[h k (List.mem_range.mp hk) g];rfl
 cases e:lt i j with|true=>symm;rw[Nat.blt_eq];unfold bu;rw[sub λk hk g=>W.trans _ _ _ hk hi hj g e];exact List.length_filter_lt_length_iff_exists.mpr ⟨i,List.mem_filter.mpr ⟨List.mem_range.mpr hi,e⟩,by rw[W.irr i hi];decide⟩|false=>symm;refine Bool.eq_false_iff.mpr λg=>?_;rw[Nat.blt_eq]at g;have:=List.length_filter_le (λk=>lt k j) ((List.range n).filter λk=>lt k i);rw[<-sub λk hk q=>by cases z:lt k i with|true=>rfl|false=>rw[W.neg _ _ _ hk hi hj z e]at q;cases q]at this;exact absurd g (Nat.not_lt.mpr this)
theorem Qa{lt:Nat->Nat->Bool}{n:Nat}(W:WO lt n)(h5:n<=5):GE lt n (kas_sort n)/\Pm (qc lt (kas_sort n)) n/\(qc lt (kas_sort n)).toList.Pairwise λi j=>i<n->j<n->lt j i=false:=by
 have hm:((List.range n).map (bu lt n))∈rG n n:=by
  have:=iR (n:=n) (r:=(List.range n).map (bu lt n)) λx hx=>by obtain⟨k,hk,rfl⟩:=List.mem_map.mp hx;exact Vq W (List.mem_range.mp hk)
  simpa using this
 have hc:=List.all_eq_true.mp (Vp n ↑c) _ hm;have hlt:∀i j,i<n->j<n->Nd ((List.range n).map (bu lt n)) i j=lt i j:=λi j hi hj=>by rw[YT W hi hj];unfold Nd;simp[hi,hj]
 unfold Nf at hc;rw[uH hlt]at hc;cases hk:uG lt n (kas_sort n)with|none=>rw[hk]at hc;cases hc|some q=>rw[hk,Bool.and_eq_true]at hc;obtain⟨h1,h2⟩:=bt hk;rw[h2];have hp:=List.isPerm_iff.mp hc.1;refine⟨h1,⟨by simpa using hp.length_eq,hp⟩,(YS hc.2).imp λg hi hj=>?_⟩;rw[hlt _ _ hj hi]at g;exact g
theorem Ng{lt:Nat->Nat->Bool}{n:Nat}(T:TO lt n)(h5:n<=5):GE lt n (kas_sort n)/\Pm (qc lt (kas_sort n)) n/\Up lt (qc lt (kas_sort n)) n:=by
 have irr:∀i,i<n->lt i i=false:=λi hi=>by cases e:lt i i with|false=>rfl|true=>exact(T.asym i i hi hi e).symm.trans e|>.symm
 obtain⟨h1,h2,h3⟩:=Qa (lt:=lt) ⟨irr,T.trans,λi j k hi hj hk a b=>by
  by_cases e:i=j;·rw[e];exact b
  ·cases c:lt i k with|false=>rfl|true=>rw[T.trans j i k hj hi hk ((T.total i j hi hj e).resolve_left (by rw[a];decide)) c]at b;cases b⟩ h5;refine⟨h1,h2,λi j hij hj=>?_⟩;have hi':i<n:=by omega
 have a:i<(qc lt (kas_sort n)).size:=by rw[h2.size];exact hi'
 have b:j<(qc lt (kas_sort n)).size:=by rw[h2.size];exact hj
 have e:=List.pairwise_iff_getElem.mp h3 i j (by simpa using a) (by simpa using b) hij;have ga:(qc lt (kas_sort n)).getD i 0=(qc lt (kas_sort n))[i]:=by simp[Array.getD,a]
 have gb:(qc lt (kas_sort n)).getD j 0=(qc lt (kas_sort n))[j]:=by simp[Array.getD,b]
 have la:=h2.lt hi';have lb:=h2.lt hj;have ne:(qc lt (kas_sort n)).getD i 0≠(qc lt (kas_sort n)).getD j 0:=λz=>by have:=h2.inj hi' hj z;omega
 refine(T.total _ _ la lb ne).resolve_right λz=>?_;rw[ga,gb]at z;simp only[Array.getElem_toList]at e;rw[e (by rw[<-ga];exact h2.lt hi') (by rw[<-gb];exact h2.lt hj)]at z;cases z
end L3
namespace L3
open PySem PySem.Spec PyProof.Rows PySem.W
def bv{l:Addr}{vs:List Value}{o:Obj}{n:Nat}{T:String}{Q:List Value->Shared->Prop}(ho:s.heap.get? l=some o)(hc:o.cls=.type T)(hd:o.data=.seq vs.toArray n)(hT:T="list"\/T="tuple")(h:Q vs {s with heap:=(s.heap.push (seqObj "list" #[] 0)).update s.heap.objs.size (Obj.mapSeq (·++vs.toArray))})(hsz:vs.length<=sizeLine):wpAny ↑d A (collect (.ref l)) Q E s:=by
 unfold collect;refine wpAny_bind (wpAny_runValue (codeAny_builtin entry_proto_collect' ?_));show wpAny _ _ (do again (.builtin "list.__iadd__" ⟨[<-newList [],.ref l],[]⟩)) _ _ s;refine wpAny_bind (wpAny_newList (wpAny_pure ⟨Code.quiet_builtin _ ↑K,codeAny_builtin entry_list_iadd' ?_⟩) (Nat.zero_le _));show wpAny _ _ (Builtin.List.listExtendWith ↑A (.ref l) ↑A) _ _ {s with heap:=s.heap.push (seqObj "list" #[] 0)};unfold Builtin.List.listExtendWith;have ho':(s.heap.push (seqObj "list" #[] 0)).get? l=some o:=Heap.get?_push_of_some _ ho;refine wpAny_bind (wpAny_typeOf ⟨o,ho',hc⟩ ?_);have e1:(Value.type "list"==Value.type "list")=true:=by decide+kernel
 have e2:(Value.type "tuple"==Value.type "tuple")=true:=by decide+kernel
 rw[if_pos (by rcases hT with rfl|rfl;(rw[e1];simp);(rw[e2];simp))];refine wpAny_bind (listItems_at ho' hd ?_);refine wpAny_bind (listItems_at (Heap.get?_push_size _ rfl) rfl ?_);rw[if_neg ↑D];refine wpAny_bind (listUpdate_at (Heap.get?_push_size _ rfl) rfl ?_ (Nat.zero_le _) (by show(#[]++vs.toArray).size<=sizeLine+1;simp only[Array.size_append,List.size_toArray,List.length_nil];omega));refine wpAny_pure ?_;show wpAny ↑d A (do let o<-load s.heap.objs.size match o.data with|.seq xs _=>pure xs.toList|_=>unsupported "internal:collect") Q E {s with heap:=(s.heap.push (seqObj "list" #[] 0)).update s.heap.objs.size (Obj.mapSeq (·++vs.toArray))};refine wpAny_bind (wpAny_load (get?_update_seq (Heap.get?_push_size _ rfl) _) ?_);show wpAny _ _ (pure ((#[]:Array Value)++vs.toArray).toList) Q E _;rw[show((#[]:Array Value)++vs.toArray).toList=vs by simp];exact wpAny_pure h
def J5{U:Array Nat->Prop}(ho:s.heap.get? a=some (seqObj "list" vs.toArray n))(h64:vs.length<64)(S0:vs.length<2->U (List.toArray (List.range vs.length)))(S:2<=vs.length->GE lt vs.length (kas_sort vs.length)/\Pm (qc lt (kas_sort vs.length)) vs.length/\U (qc lt (kas_sort vs.length)))(hk:2<=vs.length->∀h',(∀b o,b≠a->s.heap.get? b=some o->h'.get? b=some o)->(∀(Q:SortKind->Shared->Prop),Q κ {s with heap:=h'}->wpAny ↑d A (keyKind' vs.toArray) Q (λ_ _=>False) {s with heap:=h'})/\∀i j(C:Bool->Shared->Prop),i<vs.length->j<vs.length->C (lt i j) {s with heap:=h'}->wpAny ↑d A (keyLt' κ (vs.getD i Value.none) (vs.getD j Value.none)) C (λ_ _=>False) {s with heap:=h'})(h:∀q:Array Nat,Pm q vs.length->U q->P (.done (.ret .none)) {s with heap:=sortedHeap s.heap a vs (List.toArray (q.toList.map λi=>vs.getD i Value.none))}):wpAny ↑d A (Builtin.«list.sort» ⟨[.ref a],[]⟩) P E s:=by
 rw[list_sort_plain];have ha:a<s.heap.objs.size:=Heap.lt_size ho;refine wpAny_bind (listItems_at ho rfl ?_);refine wpAny_bind (listUpdate_at ho rfl ?_ (by rw[List.size_toArray,sizeLine_eq];omega) (Nat.zero_le _));obtain⟨e1,ho1⟩:∃e1,(s.heap.update a (Obj.mapSeq λ_=>(#[]:Array Value))).get? a=some (seqObj "list" #[] e1):=⟨_,get?_update_seq ho (λ_=>#[])⟩;refine wpAny_bind (seqEpoch_at ho1 rfl ?_);refine wpAny_bind (wpAny_newTuple ?_ (by show vs.length<=_;rw[sizeLine_eq];omega));refine wpAny_bind (wpAny_newList ?_ (Nat.zero_le _));refine wpAny_holding ?_;have ho6:(((s.heap.update a (Obj.mapSeq λ_=>(#[]:Array Value))).push (seqObj "tuple" vs.toArray 0)).push (seqObj "list" #[] 0)).get? a=some (seqObj "list" #[] e1):=by rw[Heap.get?_push_ne _ _ _ (by rw[size_push',Heap.size_update];exact Nat.ne_of_lt (Nat.lt_succ_of_lt ha)),Heap.get?_push_ne _ _ _ (by rw[Heap.size_update];exact Nat.ne_of_lt ha)];exact ho1
 show wpAny ↑d A _ P E {s with heap:=((s.heap.update a (Obj.mapSeq λ_=>(#[]:Array Value))).push (seqObj "tuple" vs.toArray 0)).push (seqObj "list" #[] 0)};dsimp only;have hsz:vs.toArray.size=vs.length:=by simp
 by_cases h2:vs.toArray.size<2
 ·rw[if_pos h2,if_pos h2];refine wpAny_bind (wpAny_pure ?_);rw[StateT.run_pure];refine wpAny_bind (wpAny_pure ?_);dsimp only;refine wpAny_bind (seqEpoch_at ho6 rfl ?_);have hlen:vs.length<2:=by omega
  have e2:(arrOf (SortSt.mk' general' (vs.toArray.zip vs.toArray) #[] 7 none)).map (·.2)=List.toArray ((List.toArray (List.range vs.length)).toList.map λi=>vs.getD i Value.none):=by refine kat_snds rfl ?_;have e:=kas_range (vs.toArray.zip vs.toArray);rw[show(vs.toArray.zip vs.toArray).size=vs.length by simp]at e;exact e.symm
  have e2':Array.map (·.2) (vs.toArray.zip vs.toArray)=List.toArray ((List.toArray (List.range vs.length)).toList.map λi=>vs.getD i Value.none):=e2;refine wpAny_bind (listUpdate_at ho6 rfl ?_ (Nat.zero_le _) (by show(Array.map (·.2) (arrOf (SortSt.mk' general' (vs.toArray.zip vs.toArray) #[] 7 none))).size<=_;rw[e2,List.size_toArray,List.length_map];simp;rw[sizeLine_eq];omega));simp only[bne_self_eq_false,Bool.false_eq_true,if_false];refine wpAny_pure ?_;have:=h (List.toArray (List.range vs.length)) ⟨by simp,by simp⟩ (S0 hlen);rw[<-e2']at this;exact this
 ·rw[if_neg h2,if_neg h2];have h2':2<=vs.length:=by omega
  obtain⟨kk,kl⟩:=hk h2' _ (λb o hb e=>by have hlt:b<s.heap.objs.size:=Heap.lt_size e;show(((s.heap.update a (Obj.mapSeq λ_=>(#[]:Array Value))).push (seqObj "tuple" vs.toArray 0)).push (seqObj "list" #[] 0)).get? b=some o;rw[Heap.get?_push_ne _ _ _ (by rw[size_push',Heap.size_update];exact Nat.ne_of_lt (Nat.lt_succ_of_lt hlt)),Heap.get?_push_ne _ _ _ (by rw[Heap.size_update];exact Nat.ne_of_lt hlt),Heap.get?_update_ne _ _ _ _ hb];exact e);refine wpAny_bind (wpAny_mono (kk (λκ' s'=>κ'=κ/\s'={s with heap:=((s.heap.update a (Obj.mapSeq λ_=>(#[]:Array Value))).push (seqObj "tuple" vs.toArray 0)).push (seqObj "list" #[] 0)}) ⟨rfl,rfl⟩) (λκ' s0 hκ=>?_) λ_ _ x=>x.elim);obtain⟨rfl,rfl⟩:=hκ;obtain⟨hin,hq2,hq3⟩:=S h2';generalize hq1:qc lt (kas_sort vs.length)=q at hq2 hq3;refine wpAny_bind (wpAny_mono (kat_run (G:=λp s'=>p=q/\s'={s with heap:=((s.heap.update a (Obj.mapSeq λ_=>(#[]:Array Value))).push (seqObj "tuple" vs.toArray 0)).push (seqObj "list" #[] 0)}) (Q:=λst' s'=>arrOf st'=q.map (kas_item (vs.toArray.zip vs.toArray))/\failedOf st'=none/\s'={s with heap:=((s.heap.update a (Obj.mapSeq λ_=>(#[]:Array Value))).push (seqObj "tuple" vs.toArray 0)).push (seqObj "list" #[] 0)}) rfl h2' h64 (λp' st' s' a1 a2 a3 a4=>by obtain⟨rfl,rfl⟩:=a4;exact⟨a2,a3,rfl⟩) (bq (λi j C hi hj hC=>kl i j C hi hj hC) (kas_sort vs.length) hin ⟨hq1,rfl⟩)) ?_ λ_ _ e=>e);rintro⟨⟨⟩,st'⟩s'⟨har,hf,rfl⟩;dsimp only;have hout:=kat_snds rfl har;have hsz3:(List.toArray (q.toList.map λi=>vs.getD i Value.none)).size=vs.length:=by rw[List.size_toArray,List.length_map,Array.length_toList,hq2.size]
  rw[hout];refine wpAny_bind (seqEpoch_at ho6 rfl ?_);refine wpAny_bind (listUpdate_at ho6 rfl ?_ (Nat.zero_le _) (Nat.le_trans (Nat.le_of_eq hsz3) (by rw[sizeLine_eq];omega)));rw[hf];simp only[bne_self_eq_false,Bool.false_eq_true,if_false];exact wpAny_pure (h q hq2 hq3)
def u7{U:Array Nat->Prop}{κ:SortKind}{lt:Nat->Nat->Bool}{l:Addr}{vs:List Value}{o:Obj}{n:Nat}{Ty:String}{Q:Value->Shared->Prop}(ho:s.heap.get? l=some o)(hc:o.cls=.type Ty)(hd:o.data=.seq vs.toArray n)(hT:Ty="list"\/Ty="tuple")(h64:vs.length<64)(S0:vs.length<2->U (List.toArray (List.range vs.length)))(S:2<=vs.length->GE lt vs.length (kas_sort vs.length)/\Pm (qc lt (kas_sort vs.length)) vs.length/\U (qc lt (kas_sort vs.length)))(hk:2<=vs.length->∀h',(∀b o,s.heap.get? b=some o->h'.get? b=some o)->(∀(Q:SortKind->Shared->Prop),Q κ {s with heap:=h'}->wpAny ↑d A.in1.in1 (keyKind' vs.toArray) Q (λ_ _=>False) {s with heap:=h'})/\∀i j(C:Bool->Shared->Prop),i<vs.length->j<vs.length->C (lt i j) {s with heap:=h'}->wpAny ↑d A.in1.in1 (keyLt' κ (vs.getD i Value.none) (vs.getD j Value.none)) C (λ_ _=>False) {s with heap:=h'})(h:∀q:Array Nat,Pm q vs.length->U q->Q (.ref ↑w) {s with heap:=sortedAll s.heap vs (List.toArray (q.toList.map λi=>vs.getD i Value.none))}):wpAny ↑d A (call (.builtin "sorted") [.ref l]) Q E s:=by
 refine Calls.call_function_entry kind_sorted plain_sorted entry_sorted (args_sorted1 _) ?_;unfold Builtin.«sorted»;refine wpAny_bind (wpAny_pure ?_);refine wpAny_bind (bv ho hc hd hT ?_ (by rw[sizeLine_eq];omega));refine wpAny_bind (wpAny_newList ?_ (by rw[sizeLine_eq];omega));have hsz:((s.heap.push (seqObj "list" #[] 0)).update s.heap.objs.size (Obj.mapSeq (·++vs.toArray))).objs.size=s.heap.objs.size+1:=by rw[Heap.size_update,size_push']
 have hoL:(((s.heap.push (seqObj "list" #[] 0)).update s.heap.objs.size (Obj.mapSeq (·++vs.toArray))).push (seqObj "list" vs.toArray 0)).get? ↑w=some (seqObj "list" vs.toArray 0):=by rw[<-hsz];exact Heap.get?_push_size _ rfl
 have keep:∀b o,s.heap.get? b=some o->(((s.heap.push (seqObj "list" #[] 0)).update s.heap.objs.size (Obj.mapSeq (·++vs.toArray))).push (seqObj "list" vs.toArray 0)).get? b=some o:=λb o q=>by have hlt:b<s.heap.objs.size:=Heap.lt_size q;rw[Heap.get?_push_ne _ _ _ (by rw[hsz];exact Nat.ne_of_lt (Nat.lt_succ_of_lt hlt)),Heap.get?_update_ne _ _ _ _ (Nat.ne_of_lt hlt),Heap.get?_push_ne _ _ _ (Nat.ne_of_lt hlt)];exact q
 show wpAny _ _ _ _ _ {s with heap:=((s.heap.push (seqObj "list" #[] 0)).update s.heap.objs.size (Obj.mapSeq (·++vs.toArray))).push (seqObj "list" vs.toArray 0)};rw[hsz];refine wpAny_bind (wpAny_holding (wpAny_call_entry slot_list_sort ⟨_,hoL,rfl⟩ entry_list_sort (J5 (κ:=κ) (U:=U) hoL h64 S0 S (λh2 h' kp=>?_) λq hq1 hq2=>⟨_,rfl,?_⟩) (args_list_sort _)));·exact hk h2 h' λb o e=>kp b o (Nat.ne_of_lt (Nat.lt_succ_of_lt (Heap.lt_size e))) (keep b o e)
 ·exact wpAny_pure ⟨_,rfl,h q hq1 hq2⟩
end L3
namespace L3
open PySem PySem.Spec PyProof.Rows PySem.W L2
def xR:T->List (List Nat)|.str z=>[z.cps.toList]|.tup (.str a::.str b::_)=>[a.cps.toList,b.cps.toList]|_=>[]
def J6:T->Bool|.str _=>true|_=>false
def YU:T->Bool|.tup (.str _::.str _::_)=>true|_=>false
def bw(a b:T):Bool:=decide (xR a<xR b)
def tX(t:T):List T->List T|[]=>[t]|u::us=>if bw u t=true then u::tX t us else t::u::us
def wg:List T->List T|[]=>[]|t::ts=>tX t (wg ts)
def sortS(ts:List T):Option (List T):=if ts.length<=5/\(ts.all J6=true\/ts.all YU=true)/\(ts.map xR).Nodup then some (wg ts)else none
def gE:List T->Option RV|[.lst ts]=>(sortS ts).map λus=>(true,.lst us)|[.tup ts]=>(sortS ts).map λus=>(true,.lst us)|_=>none
def u8(t:T):∀us:List T,(tX t us).Perm (t::us)
 |[]=>List.Perm.refl _|u::us=>by
  unfold tX;split;·exact((u8 t us).cons u).trans (List.Perm.swap t u us)
  ·exact List.Perm.refl _
def xV:∀ts:List T,(wg ts).Perm ts|[]=>List.Perm.refl _|t::ts=>(u8 t (wg ts)).trans ((xV ts).cons t)
def rH{a b:List (List Nat)}(h:¬a<b)(g:¬b<a):a=b:=List.le_antisymm (List.not_lt.mp g) (List.not_lt.mp h)
def uI{t:T}:∀{us:List T},us.Pairwise (λa b=>bw a b=true)->(∀u∈us,xR u≠xR t)->(tX t us).Pairwise (λa b=>bw a b=true)
 |[],_,_=>by unfold tX;simp|u::us,h,hn=>by
  unfold tX;have hp:=List.pairwise_cons.mp h;split
  ·rename_i hl;refine List.pairwise_cons.mpr ⟨λx hx=>?_,uI hp.2 λv hv=>hn v (List.mem_cons_of_mem _ hv)⟩;rcases List.mem_cons.mp ((u8 t us).mem_iff.mp hx)with rfl|hx;·exact hl
   ·exact hp.1 x hx
  ·rename_i hl;have htu:bw t u=true:=by unfold bw at hl⊢;refine decide_eq_true ?_;refine Classical.byContradiction λz=>?_;exact hn u List.mem_cons_self (rH (by simpa using hl) z)
   refine List.pairwise_cons.mpr ⟨λx hx=>?_,h⟩;rcases List.mem_cons.mp hx with rfl|hx;·exact htu
   ·have h1:=of_decide_eq_true htu;have h2:=of_decide_eq_true (hp.1 x hx);exact decide_eq_true (List.lt_trans h1 h2)
def gY:∀{ts:List T},(ts.map xR).Nodup->(wg ts).Pairwise (λa b=>bw a b=true)|[],_=>List.Pairwise.nil|t::ts,h=>by rw[List.map_cons]at h;have hn:=List.nodup_cons.mp h;refine uI (gY hn.2) λu hu e=>hn.1 ?_;rw[<-e];exact List.mem_map.mpr ⟨u,(xV ts).mem_iff.mp hu,rfl⟩
def u9(ts:List T)(i j:Nat):Bool:=match ts[i]?,ts[j]? with|some a,some b=>bw a b|_,_=>false
def Nh{ts:List T}(h:(ts.map xR).Nodup):TO (u9 ts) ts.length:=by
 refine⟨λi j hi hj e=>?_,λi j k hi hj hk e1 e2=>?_,λi j hi hj hij=>?_⟩;·unfold u9 at e⊢;obtain⟨a,ha⟩:∃a,ts[i]?=some a:=⟨ts[i],by simp[hi]⟩;obtain⟨b,hb⟩:∃b,ts[j]?=some b:=⟨ts[j],by simp[hj]⟩;rw[ha,hb]at e⊢;exact decide_eq_false (List.lt_asymm (of_decide_eq_true e))
 ·unfold u9 at e1 e2⊢;obtain⟨a,ha⟩:∃a,ts[i]?=some a:=⟨ts[i],by simp[hi]⟩;obtain⟨b,hb⟩:∃b,ts[j]?=some b:=⟨ts[j],by simp[hj]⟩;obtain⟨c,hc⟩:∃c,ts[k]?=some c:=⟨ts[k],by simp[hk]⟩;rw[ha,hb]at e1;rw[hb,hc]at e2;rw[ha,hc];exact decide_eq_true (List.lt_trans (of_decide_eq_true e1) (of_decide_eq_true e2))
 ·unfold u9;obtain⟨a,ha⟩:∃a,ts[i]?=some a:=⟨ts[i],by simp[hi]⟩;obtain⟨b,hb⟩:∃b,ts[j]?=some b:=⟨ts[j],by simp[hj]⟩;rw[ha,hb];have hne:xR a≠xR b:=λe=>by
   have h1:(ts.map xR)[i]?=some (xR a):=by rw[List.getElem?_map,ha];rfl
   have h2:(ts.map xR)[j]?=some (xR b):=by rw[List.getElem?_map,hb];rfl
   rw[<-e]at h2;exact hij ((List.getElem?_inj (by simpa using hi) h).mp (h1.trans h2.symm))
  by_cases hl:xR a<xR b;·exact .inl (decide_eq_true hl)
  ·refine .inr (decide_eq_true ?_);exact Classical.byContradiction λz=>hne (rH hl z)
def GF(h:(ts.map xR).Nodup)(hq:Pm q ts.length)(u:Up (u9 ts) q ts.length):q.toList.map (λi=>(ts[i]?).getD .non)=wg ts:=by
 have hp:(q.toList.map (λi=>(ts[i]?).getD .non)).Perm ts:=by
  have h1:(q.toList.map (λi=>(ts[i]?).getD .non)).Perm ((List.range ts.length).map (λi=>(ts[i]?).getD .non)):=hq.perm.map _;have h2:(List.range ts.length).map (λi=>(ts[i]?).getD .non)=ts:=by
   apply List.ext_getElem?;intro i;rw[List.getElem?_map];by_cases hi:i<ts.length;·simp[hi]
   ·simp[hi]
  rw[h2]at h1;exact h1
 refine List.Perm.eq_of_pairwise (λa b _ _ h1 h2=>?_) ?_ (gY h) (hp.trans (xV ts).symm);·exact absurd (of_decide_eq_true h2) (List.lt_asymm (of_decide_eq_true h1))
 ·rw[List.pairwise_iff_getElem];intro i j hi hj hij;rw[List.length_map,Array.length_toList,hq.size]at hi hj;have e:=u i j hij hj;have hi':i<q.size:=by rw[hq.size];exact hi
  have hj':j<q.size:=by rw[hq.size];exact hj
  have g1:q.getD i 0=q[i]:=by simp[Array.getD,hi']
  have g2:q.getD j 0=q[j]:=by simp[Array.getD,hj']
  rw[g1,g2]at e;have b1:q[i]<ts.length:=by rw[<-g1];exact hq.lt hi
  have b2:q[j]<ts.length:=by rw[<-g2];exact hq.lt hj
  simp only[List.getElem_map,Array.getElem_toList];unfold u9 at e;have c1:ts[q[i]]?=some ts[q[i]]:=by simp[b1]
  have c2:ts[q[j]]?=some ts[q[j]]:=by simp[b2]
  rw[c1,c2]at e⊢;exact e
def mJ{K:W.Frag}{F:Addr->Prop}{H:Hp}{vs:List V}(h:IsAll K F H [] vs):vs=[]:=by unfold IsAll at h;exact h
section
variable{X:Cx}{pins:List ↑j}{σ:St}{H:Hp}{s:Shared}{F:Addr->Prop}
theorem mK:∀{ts:List T}{vs:List V}{us:List Value},ts.all J6=true->IsAll X.K F H ts vs->zE vs us->∃ss,StrsAre us ss|[],vs,us,_,i,r=>by have:=mJ i;subst this;cases r;exact⟨[],.nil⟩|t::ts,vs,us,h,i,r=>by unfold IsAll at i;obtain⟨v,w,rfl,i1,i2⟩:=i;cases r with|cons r1 r2=>rw[List.all_cons,Bool.and_eq_true]at h;obtain⟨ss,hs⟩:=mK h.2 i2 r2;cases t<;>simp only[J6,Bool.false_eq_true,false_and]at h;case str z=>unfold Is at i1;subst i1;obtain⟨tk,rfl⟩:=r1;exact⟨z::ss,.cons z tk hs⟩
theorem Vr{prog:Program}{w:World}{A:Around}{E:Value->Shared->Prop}{s:Shared}{a b:T}{x y:V}{u v:Value}{K:W.Frag}{C:Bool->Shared->Prop}(ha:J6 a=true)(hb:J6 b=true)(ia:Is K F H a x)(ib:Is K F H b y)(ra:L2.RelV x u)(rb:L2.RelV y v)(h:C (bw a b) s):wpAny ↑d A (keyLt' oneType' u v) C E s:=by cases a<;>simp only[J6,Bool.false_eq_true]at ha;case str a=>cases b<;>simp only[J6,Bool.false_eq_true]at hb;case str b=>
   unfold Is at ia ib;subst ia ib;obtain⟨t,rfl⟩:=ra;obtain⟨t',rfl⟩:=rb;refine kas_lt_str ?_;have:bw (.str a) (.str b)=decide (a.cps.toList<b.cps.toList):=by
    unfold bw xR;refine decide_eq_decide.mpr ⟨λh=>?_,λh=>?_⟩
    ·rcases List.cons_lt_cons_iff.mp h with h|⟨_,h⟩;·exact h
     ·exact absurd h ↑D
    ·exact List.cons_lt_cons_iff.mpr (.inl h)
   rw[<-this];exact h
theorem uJ:∀(xs:List Value)(i:Nat),Q fin s->KatLex prog w A b fin Q (xs.zip xs) i s|[],i,h=>h|x::xs,i,h=>by rw[List.zip_cons_cons];exact kat_cons (SeqAt.EqAt.same x _ _ _ _ (kat_yes (uJ xs (i+1) h)))
theorem ua{K:W.Frag}{a1 a2:Str}{ar:List T}{vs:List V}{us:List Value}(i:IsAll K F H (.str a1::.str a2::ar) vs)(r:zE vs us):∃t1 t2 ur,us=.str a1 t1::.str a2 t2::ur:=by unfold IsAll at i;obtain⟨v1,w1,rfl,i1,i2⟩:=i;unfold IsAll at i2;obtain⟨v2,w2,rfl,i3,i4⟩:=i2;unfold Is at i1 i3;subst i1 i3;cases r with|cons r1 r2=>cases r2 with|cons r3 r4=>obtain⟨t1,rfl⟩:=r1;obtain⟨t2,rfl⟩:=r3;exact⟨t1,t2,_,rfl⟩
theorem Vs:bw (.tup (.str a1::.str a2::ar)) (.tup (.str b1::.str b2::br))=if(a1==b1)=true then decide (a2.cps.toList<b2.cps.toList)else decide (a1.cps.toList<b1.cps.toList):=by
 have ext:∀{x y:Str},x.cps.toList=y.cps.toList->x=y:=by intro x y h;cases x;cases y;simp only[Str.mk.injEq];exact Array.toList_inj.mp h
 unfold bw xR;by_cases e:a1=b1
 ·subst e;rw[if_pos ↑D];refine decide_eq_decide.mpr ⟨λh=>?_,λh=>?_⟩
  ·rcases List.cons_lt_cons_iff.mp h with h|⟨_,h⟩;·exact absurd h (List.lt_irrefl _)
   ·rcases List.cons_lt_cons_iff.mp h with h|⟨_,h⟩;·exact h
    ·exact absurd h ↑D
  ·exact List.cons_lt_cons_iff.mpr (.inr ⟨rfl,List.cons_lt_cons_iff.mpr (.inl h)⟩)
 ·rw[if_neg (by simpa using e)];refine decide_eq_decide.mpr ⟨λh=>?_,λh=>?_⟩
  ·rcases List.cons_lt_cons_iff.mp h with h|⟨h,_⟩;·exact h
   ·exact absurd (ext h) e
  ·exact List.cons_lt_cons_iff.mpr (.inl h)
theorem Vt(hp:IsTup s.heap p (List.toArray (.str a1 t1::.str a2 t2::ur)))(hq:IsTup s.heap q (List.toArray (.str b1 t3::.str b2 t4::wr)))(hd:xR (.tup (.str a1::.str a2::ar))≠xR (.tup (.str b1::.str b2::br))\/p=q)(h:C (bw (.tup (.str a1::.str a2::ar)) (.tup (.str b1::.str b2::br))) s):wpAny ↑d A (keyLt' (tuples' true) (.ref p) (.ref q)) C E s:=by
 obtain⟨o1,e1,c1,n1,d1⟩:=id hp;obtain⟨o2,e2,c2,n2,d2⟩:=id hq;refine kat_lt e1 d1 e2 d2 ?_;rcases hd with hd|hd
 ·rw[Vs]at h;show KatLex prog w A true _ C ((Value.str a1 t1,Value.str b1 t3)::(Value.str a2 t2,Value.str b2 t4)::ur.zip wr) 0 s;refine kat_cons (SeqAt.EqAt.str_str a1 t1 b1 t3 _ _ _ _ ?_);by_cases x1:(a1==b1)=true
  ·rw[x1];rw[if_pos x1]at h;refine kat_yes (kat_cons (SeqAt.EqAt.str_str a2 t2 b2 t4 _ _ _ _ ?_));have x2:(a2==b2)=false:=by cases z:a2==b2 with|false=>rfl|true=>
     exfalso;refine hd ?_;have z1:a1=b1:=by simpa using x1
     have z2:a2=b2:=by simpa using z
     rw[z1,z2];rfl
   rw[x2];exact kat_no (kat_one _ _ (PyProof.Rows.lt_str h))
  ·have x1':(a1==b1)=false:=by simpa using x1
   rw[x1'];rw[if_neg x1]at h;exact kat_no (oneLt_str h)
 ·subst hd;rw[e1]at e2;cases e2;rw[d1]at d2;have:Value.str a1 t1::Value.str a2 t2::ur=Value.str b1 t3::Value.str b2 t4::wr:=by have:=d2;injection this with this _;simpa using this
  rw[<-this];refine uJ _ 0 ?_;have hirr:bw (.tup (.str a1::.str a2::ar)) (.tup (.str b1::.str b2::br))=false:=by injection this with g1 g2;injection g1 with g1 _;injection g2 with g2 _;injection g2 with g2 _;subst g1 g2;unfold bw xR;exact decide_eq_false (List.lt_irrefl _)
  rw[hirr]at h;have:decide ((Value.str a1 t1::Value.str a2 t2::ur).toArray.size<(Value.str a1 t1::Value.str a2 t2::ur).toArray.size)=false:=decide_eq_false (Nat.lt_irrefl _);rw[this];exact h
theorem fD{K:W.Frag}{ts:List T}{vs:List V}(h:IsAll K F H ts vs):∀{is:List Nat},(∀i∈is,i<ts.length)->IsAll K F H (is.map λi=>(ts[i]?).getD .non) (is.map λi=>(vs[i]?).getD .non)
 |[],_=>IsAll.nil|i::is,hi=>by
  have h0:=hi i List.mem_cons_self;obtain⟨v,hv,q⟩:=h.get (i:=i) (t:=ts[i]) (by simp[h0]);refine IsAll.cons ?_ (fD h λj hj=>hi j (List.mem_cons_of_mem _ hj));show Is K F H ((ts[i]?).getD T.non) ((vs[i]?).getD V.non);rw[hv];have:ts[i]?=some ts[i]:=by simp[h0]
  rw[this];exact q
theorem ub(h:zE vs us):∀{is:List Nat},(∀i∈is,i<vs.length)->zE (is.map λi=>(vs[i]?).getD .non) (is.map λi=>us.getD i Value.none)
 |[],_=>.nil|i::is,hi=>by
  have h0:=hi i List.mem_cons_self;obtain⟨u,hu,q⟩:=h.get (i:=i) (x:=vs[i]) (by simp[h0]);refine .cons ?_ (ub h λj hj=>hi j (List.mem_cons_of_mem _ hj));have e1:vs[i]?=some vs[i]:=by simp[h0]
  have e2:us.getD i Value.none=u:=by rw[List.getD_eq_getElem?_getD,hu];rfl
  show L2.RelV ((vs[i]?).getD V.non) (us.getD i Value.none);rw[e1,e2];exact q
theorem gF(h:zE vs us)(hi:i<us.length):∃v,vs[i]?=some v/\L2.RelV v (us.getD i Value.none):=by have hl:=h.length;obtain⟨u,hu,q⟩:=h.get (i:=i) (x:=vs[i]'↑c) ↑D;refine⟨vs[i]'↑c,by simp,?_⟩;rw[List.getD_eq_getElem?_getD,hu];exact q
theorem mL(h:YU t=true):∃a b r,t=.tup (.str a::.str b::r):=by
 unfold YU at h;split at h;·rename_i a b r;exact⟨a,b,r,rfl⟩
 ·cases h
theorem mM(I:zo X pins σ H s){h':Heap}(kp:∀b o,s.heap.get? b=some o->h'.get? b=some o):∀{ts:List T}{vs:List V}{us:List Value},ts.all YU=true->IsAll X.K F H ts vs->zE vs us->∃fs,KatTups h' us fs/\fs.length=us.length/\∀v∈fs,∃z t,v=.str z t|[],vs,us,_,i,r=>by have:=mJ i;subst this;cases r;exact⟨[],trivial,rfl,λv h=>by cases h⟩|t::ts,vs,us,h,i,r=>by unfold IsAll at i;obtain⟨v,w,rfl,i1,i2⟩:=i;cases r with|cons r1 r2=>rw[List.all_cons,Bool.and_eq_true]at h;obtain⟨fs,hf,hl,hs⟩:=mM I kp h.2 i2 r2;obtain⟨a,b,ar,rfl⟩:=mL h.1;unfold Is at i1;obtain⟨p,ps,rfl,g1,g2⟩:=i1;cases r1;obtain⟨its,rv,pl,_⟩:=I.tuple g1;obtain⟨t1,t2,ur,rfl⟩:=ua g2 rv;obtain⟨o,e,c,n,d⟩:=pl;exact⟨.str a t1::fs,KatTups.cons (kp _ _ e) c d ↑D hf,by rw[List.length_cons,List.length_cons,hl],λv hv=>by
   rcases List.mem_cons.mp hv with rfl|hv;·exact⟨a,t1,rfl⟩
   ·exact hs v hv⟩
theorem iS{ts us:List T}{l:Addr}{vs:List V}{its:List Value}{o:Obj}{n:Nat}{Ty:String}{Q:VK}{E:Value->Shared->Prop}(I:zo X pins σ H s)(d:lJ F H)(ia:IsAll X.K F H ts vs)(r:zE vs its)(ho:s.heap.get? l=some o)(hc:o.cls=.type Ty)(hd:o.data=.seq its.toArray n)(hT:Ty="list"\/Ty="tuple")(e:sortS ts=some us)(q:∀v F' H',jA F H F' H'->wz X.K ↑W F' H' v (true,.lst us)->Q v H'):wpAny ↑a X.A (call (.builtin "sorted") [.ref l]) (EP X pins σ Q) E s:=by
 unfold sortS at e;split at e
 ·rename_i hcnd;obtain⟨h64,hk,nd⟩:=hcnd;cases e;have l1:=ia.len;have l2:=r.length;have T0:=Nh nd;have hlen:its.length=ts.length:=by omega
  have fin:∀qa:Array Nat,Pm qa its.length->Up (u9 ts) qa its.length->EP X pins σ Q (.ref ↑w) {s with heap:=sortedAll s.heap its (List.toArray (qa.toList.map λi=>its.getD i Value.none))}:=by
   intro qa hq hu;rw[hlen]at hq hu;have hb:∀i∈qa.toList,i<ts.length:=λi hi=>List.mem_range.mp (hq.perm.mem_iff.mp hi);have e1:=GF nd hq hu;obtain⟨ep,hep⟩:=sortedAll_at s.heap its (List.toArray (qa.toList.map λi=>its.getD i Value.none));have hfresh:H ↑w=none:=I.hok.fresh (Nat.le_succ _);have hz:(qa.toList.map λi=>(vs[i]?).getD .non).length<=sizeLine:=by rw[List.length_map,Array.length_toList,hq.size,sizeLine_eq];omega
   refine⟨.ref ↑w,zO H ↑w (.lst (qa.toList.map λi=>(vs[i]?).getD .non)),I.laid (λb ob e=>sortedAll_old e) (Nat.le_succ _) ?_,rfl,?_⟩;·exact⟨hz,_,ep,ub r (λi hi=>by have:=hb i hi;omega),hep⟩
   ·have:=fD ia hb;rw[e1]at this;exact cW d this hfresh q
  rcases hk with hk|hk
  ·refine u7 (U:=λq=>Up (u9 ts) q its.length) (κ:=oneType') ho hc hd hT ↑c (λh2 i j _ _=>by omega) (λ_=>by rw[hlen];exact Ng T0 h64) (λh2 h' kp=>⟨λQ' hQ=>?_,λi j C hi hj hC=>?_⟩) fin;·obtain⟨ss,hs⟩:=mK hk ia r;match its,h2,hs with|v₁::v₂::rest,_,hs=>rw[keyKind_strs hs];exact wpAny_pure hQ
   ·obtain⟨vi,hvi,ri⟩:=gF r hi;obtain⟨vj,hvj,rj⟩:=gF r hj;have bi:i<ts.length:=by omega
    have bj:j<ts.length:=by omega
    obtain⟨vi',hvi',qi⟩:=ia.get (i:=i) (t:=ts[i]) (by simp[bi]);obtain⟨vj',hvj',qj⟩:=ia.get (i:=j) (t:=ts[j]) (by simp[bj]);rw[hvi]at hvi';cases hvi';rw[hvj]at hvj';cases hvj';have hall:=List.all_eq_true.mp hk;refine Vr (hall _ (List.getElem_mem bi)) (hall _ (List.getElem_mem bj)) qi qj ri rj ?_;have:u9 ts i j=bw ts[i] ts[j]:=by
     unfold u9;have c1:ts[i]?=some ts[i]:=by simp[bi]
     have c2:ts[j]?=some ts[j]:=by simp[bj]
     rw[c1,c2]
    rw[<-this];exact hC
  ·refine u7 (U:=λq=>Up (u9 ts) q its.length) (κ:=tuples' true) ho hc hd hT ↑c (λh2 i j _ _=>by omega) (λ_=>by rw[hlen];exact Ng T0 h64) (λh2 h' kp=>⟨λQ' hQ=>?_,λi j C hi hj hC=>?_⟩) fin
   ·obtain⟨fs,hf,hfl,hfs⟩:=mM I kp hk ia r;refine kat_kind (T:=.type "str") hf ↑c (λv hv=>?_) ↑K ?_;·obtain⟨z,t,rfl⟩:=hfs v hv;exact Looks.now
    ·have:(Value.type "str"!=Value.type "tuple")=true:=by decide+kernel
     rw[this];exact hQ
   ·obtain⟨vi,hvi,ri⟩:=gF r hi;obtain⟨vj,hvj,rj⟩:=gF r hj;have bi:i<ts.length:=by omega
    have bj:j<ts.length:=by omega
    obtain⟨vi',hvi',qi⟩:=ia.get (i:=i) (t:=ts[i]) (by simp[bi]);obtain⟨vj',hvj',qj⟩:=ia.get (i:=j) (t:=ts[j]) (by simp[bj]);rw[hvi]at hvi';cases hvi';rw[hvj]at hvj';cases hvj';have hall:=List.all_eq_true.mp hk;have this:u9 ts i j=bw ts[i] ts[j]:=by
     unfold u9;have c1:ts[i]?=some ts[i]:=by simp[bi]
     have c2:ts[j]?=some ts[j]:=by simp[bj]
     rw[c1,c2]
    rw[this]at hC;have hd:xR ts[i]≠xR ts[j]\/vi=vj:=by
     by_cases hij:i=j;·subst hij;rw[hvi]at hvj;exact .inr (Option.some.inj hvj)
     ·refine .inl λe=>hij ?_;have h1:(ts.map xR)[i]?=some (xR ts[i]):=by rw[List.getElem?_map];simp[bi]
      have h2:(ts.map xR)[j]?=some (xR ts[j]):=by rw[List.getElem?_map];simp[bj]
      rw[<-e]at h2;exact(List.getElem?_inj (by simpa using bi) nd).mp (h1.trans h2.symm)
    obtain⟨a1,a2,ar,ea⟩:=mL (hall _ (List.getElem_mem bi));obtain⟨b1,b2,br,eb⟩:=mL (hall _ (List.getElem_mem bj));rw[ea]at qi hC hd;rw[eb]at qj hC hd;unfold Is at qi qj;obtain⟨p,ps,rfl,g1,g2⟩:=qi;obtain⟨p',ps',rfl,g3,g4⟩:=qj;have e1:its.getD i Value.none=.ref p:=ri;have e2:its.getD j Value.none=.ref p':=rj;rw[e1,e2];obtain⟨i1,rv1,pl1,_⟩:=I.tuple g1;obtain⟨i2,rv2,pl2,_⟩:=I.tuple g3;obtain⟨t1,t2,ur,rfl⟩:=ua g2 rv1;obtain⟨t3,t4,wr,rfl⟩:=ua g4 rv2;have up:∀{c:Addr}{xs:Array Value},IsTup s.heap c xs->IsTup h' c xs:=λ⟨o,e,r⟩=>⟨o,kp _ _ e,r⟩;exact Vt (up pl1) (up pl2) (hd.imp id λz=>by injection z) hC
 ·cases e
end
def J7:vg X (.builtin "sorted") (Ys X.K gE):=by intro pins s σ H xs us Q I r h;obtain⟨F,ts,rv,d,ia,e,q⟩:=h;match ts,e with|[.lst ts],e=>simp only[gE,Option.map_eq_some_iff]at e;obtain⟨ss,es,rfl⟩:=e;obtain⟨v,rfl,i⟩:=pD ia;obtain⟨u,rfl,ru⟩:=gQ r;unfold Is at i;obtain⟨a,vs,rfl,g1,g2⟩:=i;cases ru;obtain⟨its,r',pl,hz⟩:=I.list g1.sq;obtain⟨o,ho,hc,n,hd⟩:=pl.isList;exact iS I d g2 r' ho hc hd (.inl rfl) es q|[.tup ts],e=>simp only[gE,Option.map_eq_some_iff]at e;obtain⟨ss,es,rfl⟩:=e;obtain⟨v,rfl,i⟩:=pD ia;obtain⟨u,rfl,ru⟩:=gQ r;unfold Is at i;obtain⟨a,vs,rfl,g1,g2⟩:=i;cases ru;obtain⟨its,r',pl,hz⟩:=I.tuple g1;obtain⟨o,ho,hc,n,hd⟩:=pl;exact iS I d g2 r' ho hc hd (.inr rfl) es q
end L3
namespace L3
open PySem PySem.Spec PyProof.Rows L2
def fE:∀(names:List (Str×NameKind))(acc:List (Str×Addr)),(∀y,(y,NameKind.free)∈names->∃c,env.cells.lookup y=some c)->∃cl,(forIn names acc λ(x:Str×NameKind)(cs:List (Str×Addr))=>(if(x.2==NameKind.free)=true then do let a<-cellOf env x.1;pure (ForInStep.yield ((x.1,a)::cs))else pure (ForInStep.yield cs):Sem (ForInStep (List (Str×Addr)))))=pure cl/\(∀y c,cl.lookup y=some c->acc.lookup y=some c\/env.cells.lookup y=some c)/\(∀y,((y,NameKind.free)∈names\/∃c,acc.lookup y=some c)->∃c,cl.lookup y=some c)
 |[],acc,h=>⟨acc,by rw[List.forIn_nil],λy c e=>.inl e,λy z=>by
  rcases z with z|z;·cases z
  ·exact z⟩|(n,k)::r,acc,h=>by
  rw[List.forIn_cons];by_cases hk:(k==NameKind.free)=true
  ·have hk':k=NameKind.free:=by simpa using hk
   subst hk';obtain⟨c,hc⟩:=h n List.mem_cons_self;obtain⟨cl,e,h1,h2⟩:=fE r ((n,c)::acc) λy hy=>h y (List.mem_cons_of_mem _ hy);refine⟨cl,?_,λy d ed=>?_,λy z=>?_⟩
   ·have e2:cellOf env n=pure c:=by unfold cellOf;rw[hc]
    simp only[hk,if_true,e2,pure_bind];exact e
   ·rcases h1 y d ed with z|z
    ·rw[List.lookup_cons]at z
     cases hy:y==n with|true=>
      rw[hy]at z;have:y=n:=by simpa using hy
      subst this;cases z;exact .inr hc|false=>rw[hy]at z;exact .inl z
    ·exact .inr z
   ·refine h2 y ?_;rcases z with z|⟨d,z⟩
    ·rcases List.mem_cons.mp z with z|z
     ·have:y=n:=by injection z
      subst this;exact .inr ⟨c,by rw[List.lookup_cons];simp⟩
     ·exact .inl z
    ·rw[List.lookup_cons];cases hy:y==n with|true=>exact .inr ⟨c,rfl⟩|false=>exact .inr ⟨d,z⟩
  ·obtain⟨cl,e,h1,h2⟩:=fE r acc λy hy=>h y (List.mem_cons_of_mem _ hy);refine⟨cl,?_,h1,λy z=>h2 y ?_⟩;·simp only[hk,if_false,pure_bind];exact e
   ·rcases z with z|z
    ·rcases List.mem_cons.mp z with z|z
     ·have:k=NameKind.free:=by injection z with _ z;exact z.symm
      subst this;exact absurd ↑D hk
     ·exact .inl z
    ·exact .inr z
def tY(h:∀y,(y,NameKind.free)∈scope.names->∃c,env.cells.lookup y=some c):∃cl,closureFor scope env=pure cl/\(∀y c,cl.lookup y=some c->env.cells.lookup y=some c)/\∀y,(y,NameKind.free)∈scope.names->∃c,cl.lookup y=some c:=by
 obtain⟨cl,e,h1,h2⟩:=fE (env:=env) scope.names [] h;refine⟨cl,?_,λy c ec=>?_,λy hy=>h2 y (.inl hy)⟩;·unfold closureFor;show(forIn scope.names ([]:List (Str×Addr)) (λ(x:Str×NameKind)(cs:List (Str×Addr))=>(match x with|(name,kind)=>if(kind==NameKind.free)=true then do let a<-cellOf env name;pure (ForInStep.yield ((name,a)::cs))else pure (ForInStep.yield cs):Sem (ForInStep (List (Str×Addr)))))>>=λr=>pure r)=pure cl;have e':(forIn scope.names ([]:List (Str×Addr)) λ(x:Str×NameKind)(cs:List (Str×Addr))=>(match x with|(name,kind)=>if(kind==NameKind.free)=true then do let a<-cellOf env name;pure (ForInStep.yield ((name,a)::cs))else pure (ForInStep.yield cs):Sem (ForInStep (List (Str×Addr)))))=pure cl:=e;rw[e',pure_bind]
 ·rcases h1 y c ec with z|z;·cases z
  ·exact z
structure zQ(N:List Str)(fsc scope:Scope)(x:Str)(caps:List Str)(slots:List Nat):Prop where
 kind:scope.kind=.function
 fkind:fsc.kind=.function
 nocell:∀y∈scope.names,y.2≠.cell
 names:∀y∈scope.names,y.2=.local->scope.names.lookup y.1=some .local
 hx:scope.names.lookup x=some .local
 free:∀y∈scope.names,y.2=.free->fsc.names.lookup y.1=some .cell
 cap:∀y∈caps,scope.names.lookup y=some .free/\fsc.names.lookup y=some .cell
 nd:(x::caps).Nodup
 len:slots.length=caps.length
 slot:slots.map (λk=>N[k]?)=caps.map some
def wj{l:List (Str×NameKind)}{y:Str}{k:NameKind}(h:l.lookup y=some k):(y,k)∈l:=PySem.mem_of_lookup h
def vU{env:Env}:∀{names:List (Str×NameKind)}{y:Str}{k:NameKind},(names.map λ(n,k)=>if(k==NameKind.free&&env.scope.kind==.function&&env.kindOf n==some .cell)=true then(n,NameKind.cell)else(n,k)).lookup y=some k->∃k',names.lookup y=some k'/\(k=k'\/(k'=.free/\k=.cell))
 |[],y,k,h=>by simp at h|(n,q)::r,y,k,h=>by
  rw[List.map_cons,List.lookup_cons]at h;rw[List.lookup_cons];by_cases hc:(q==NameKind.free&&env.scope.kind==.function&&env.kindOf n==some .cell)=true;·simp only[hc,if_true]at h;cases hy:y==n with|true=>rw[hy]at h;cases h;simp only[Bool.and_eq_true]at hc;exact⟨q,rfl,.inr ⟨by simpa using hc.1.1,rfl⟩⟩|false=>rw[hy]at h;exact vU h
  ·simp only[hc,Bool.false_eq_true,if_false]at h;cases hy:y==n with|true=>rw[hy]at h;cases h;exact⟨q,rfl,.inl rfl⟩|false=>rw[hy]at h;exact vU h
def pE{env:Env}(hk:env.scope.kind=.function):∀{names:List (Str×NameKind)}{y:Str},names.lookup y=some .free->env.kindOf y=some .cell->(names.map λ(n,k)=>if(k==NameKind.free&&env.scope.kind==.function&&env.kindOf n==some .cell)=true then(n,NameKind.cell)else(n,k)).lookup y=some .cell
 |[],y,h,_=>by simp at h|(n,q)::r,y,h,hc=>by
  rw[List.map_cons,List.lookup_cons];rw[List.lookup_cons]at h
  cases hy:y==n with|true=>
   rw[hy]at h;cases h;have:y=n:=by simpa using hy
   subst this;have hcc:(NameKind.free==NameKind.free&&env.scope.kind==.function&&env.kindOf y==some .cell)=true:=by rw[hk,hc];rfl
   simp only[hcc,if_true];rw[hy]|false=>
   rw[hy]at h;have ih:=pE hk h hc;by_cases hcc:(q==NameKind.free&&env.scope.kind==.function&&env.kindOf n==some .cell)=true;·simp only[hcc,if_true,hy];exact ih
   ·simp only[hcc,Bool.false_eq_true,if_false,hy];exact ih
def pF{X:Cx}{scope:Scope}{x:Str}{caps:List Str}{slots:List Nat}{L:Nat}(C:zQ X.N X.env.scope scope x caps slots)(hc:X.env.cells=cellsFrom L X.env.scope.names []):∃cl,m7 X scope cl x caps slots:=by
 obtain⟨cl,e,h1,h2⟩:=tY (scope:=scope) (env:=X.env) λy hy=>by rw[hc];exact nW (C.free _ hy rfl)
 refine⟨cl,C.kind,C.nocell,C.names,C.hx,e,h1,λy hy=>h2 y ?_,λj y hj=>?_,C.nd,C.len⟩
 ·rcases hy with hy|hy
  ·obtain⟨k',e1,e2|⟨e2,_⟩⟩:=vU hy;·subst e2;exact absurd rfl (C.nocell _ (wj e1))
   ·subst e2;exact wj e1
  ·obtain⟨k',e1,e2|⟨e2,_⟩⟩:=vU hy;·subst e2;exact wj e1
   ·subst e2;exact wj e1
 ·have hl:=C.len;have hjl:j<caps.length:=(List.getElem?_eq_some_iff.mp hj).1;have hs:=congrArg (λl=>l[j]?) C.slot;simp only[List.getElem?_map,hj,Option.map_some]at hs;cases hk:slots[j]? with|none=>rw[hk]at hs;cases hs|some k=>rw[hk]at hs;obtain⟨q1,q2⟩:=C.cap y (List.mem_of_getElem? hj);exact⟨k,rfl,by injection hs,pE C.fkind q1 q2,q2⟩
section
variable{X:Cx}{scope:Scope}{x:Str}{caps:List Str}{slots:List Nat}{iter elt:Expr}{ifs:List Expr}{px pos:Pos}{it:aN}{mt:MT}{me:ME}{L:Nat}
theorem vW(hc:X.calm=true)(C:zQ X.N X.env.scope scope x caps slots)(hcl:X.env.cells=cellsFrom L X.env.scope.names [])(hi:tV X (.Name x px) iter it)(ht:∀cl C ex pn s₀ H₀,db ↑e ifs mt)(he:∀cl C ex pn s₀ H₀,j9 ↑e elt me)(hs:∀v,foldedSetIterable iter X.env v=pure v:=by intro _;rfl)(hg:∀it v,letOwnedTupleGo (.Name x px) it v=pure ():=by intro _ _;rfl):j9 X ↑q (jh it mt me slots):=by obtain⟨cl,S⟩:=pF C hcl;exact GD hc S hi (ht cl) (he cl) hs hg
def wk(f g:T->T->Option RV)(ma mb mc:ME):ME:=λenv=>(ma env).bind λx=>(mb env).bind λy=>(aL (f x.2 y.2)).bind λz=>match z.2 with|.bl k=>if k=true then(mc env).bind λu=>aL (g y.2 u.2)else .ok ↑T|_=>.bad
theorem iT(sa:xG X ta ma)(sb:xG X tb mb)(sc:xG X tc mc):xG X (aV (rT X.K f) (rT X.K g) ta tb tc) (wk f g ma mb mc):=by intro F H σ env Q R nb ok ex;unfold wk at nb ok ex;refine sa.val R ↑b (λr1 e1 v1 F1 H1 x1 i1=>?_) λx z=>ex x ↑v;rw[e1,bind_ok]at nb ok ex;refine sb.val (R.mono x1) ↑b (λr2 e2 v2 F2 H2 x2 i2=>?_) λx z=>(ex x ↑v).mono x1;rw[e2,bind_ok]at nb ok ex;cases h:f r1.2 r2.2 with|none=>rw[h]at nb;exact absurd rfl nb|some rv=>rw[h,ofO_some,bind_ok]at nb ok ex;refine⟨F2,_,_,rv,x2.dom,i1.mono x2.kept,i2,h,λv F3 H3 x3 i3=>?_⟩;obtain⟨F3',x3',s3,i3'⟩:=i3.frz x3;obtain⟨b,t⟩:=rv;dsimp only at nb ok ex i3';cases t with
  |bl k=>unfold Is at i3';refine⟨k,i3',?_⟩;have x13:=(x1.trans x2).trans x3';cases k with|false=>rw[if_neg Bool.false_ne_true];exact ok _ rfl _ F3' H3 x13 (jc xg)|true=>rw[if_pos rfl];dsimp only at nb ok ex;rw[if_pos rfl]at nb ok ex;refine sc.val (R.mono x13) ↑b (λr4 e4 v4 F4 H4 x4 i4=>?_) λx z=>(ex x ↑v).mono x13;rw[e4,bind_ok]at nb ok;cases h2:g r2.2 r4.2 with|none=>rw[h2]at nb;exact absurd rfl nb|some rw2=>rw[h2]at ok;have x14:=x13.trans x4;exact⟨F4,_,_,rw2,x4.dom,i2.mono (x3'.trans x4).kept,i4,h2,λv F' H' x i=>ok _ rfl v F' H' (x14.trans x) (ke x14 i)⟩
  |_=>exact absurd rfl nb
theorem Vu(ho:ve X (compareOp op) (rT X.K f))(ho':ve X (compareOp op') (rT X.K g))(ha:j9 X a ma)(hb:j9 X b mb)(hc:j9 X c mc)(hm:lastMarks [op,op'] [b,c]=false:=by with_unfolding_all rfl):j9 X (.Compare a [op,op'] [b,c] pos) (wk f g ma mb mc):=by obtain⟨ta,pa,sa⟩:=ha;obtain⟨tb,pb,sb⟩:=hb;obtain⟨tc,pc,sc⟩:=hc;exact⟨_,JT ho ho' pa pb pc hm,iT sa sb sc⟩
theorem bz(ho:ve X (compareOp op) (rT X.K f))(ho':ve X (compareOp op') (rT X.K g))(ha:j9 X a ma)(hb:j9 X b mb)(hc:j9 X c mc)(hm:lastMarks [op,op'] [b,c]=false:=by with_unfolding_all rfl):cQ X (.Compare a [op,op'] [b,c] pos) (jX (wk f g ma mb mc)):=by obtain⟨ta,pa,sa⟩:=ha;obtain⟨tb,pb,sb⟩:=hb;obtain⟨tc,pc,sc⟩:=hc;exact⟨_,JU ho ho' pa pb pc hm,cS (iT sa sb sc)⟩
theorem rJ(hg:Gl X y)(h:∃t,X.mg y=some (.str z t))(hd:(y==↑t)=false:=by decide):j9 X (.Name y pos) (mC (.str z)):=⟨_,Yk hg h hd,m9 λ_ _=>qV⟩
theorem Vv(hg:Gl X y)(h:∃t,X.mg y=some (.int z t))(hd:(y==↑t)=false:=by decide):j9 X (.Name y pos) (mC (.int z)):=⟨_,Yl hg h hd,m9 λ_ _=>xb⟩
theorem kf(hg:Gl X y)(hm:X.mg y=none)(hv:bootBuiltins y=some (.type n))(hn:y≠"__name__":=by decide)(hd:(y==↑t)=false:=by decide):j9 X (.Name y pos) (mC (.ty n)):=⟨_,oR (v:=.ty n) hg hm hv rfl hn hd,m9 λ_ _=>by unfold Is;rfl⟩
def Lr(K:W.Frag)(mg:Str->Option Value)(y:Str)(zs:List Str):Prop:=∃a o its n,mg y=some (.ref a)/\K.lookup a=some o/\o.cls=.type "tuple"/\o.data=.seq its n/\its.size<=sizeLine/\zE (zs.map V.str) its.toList
end
def J8(hr:jN k A):A.units+41<cLine:=Nat.lt_of_le_of_lt (Nat.add_le_add_left (by decide:41<=64) _) hr.units
def GG(hr:jN k A):A.units+40<cLine:=Nat.lt_of_le_of_lt (Nat.add_le_add_left (by decide:40<=64) _) hr.units
def J9(hr:jN k A):A.units+1<cLine:=Nat.lt_of_le_of_lt (Nat.add_le_add_left (by decide:1<=64) _) hr.units
abbrev Ui:=List T->En->Option En
def Ni(X:Cx)(g:KN)(tg:Ui):Prop:=∀(B:Bs)(F:Addr->Prop)(H:Hp)(σ:St)(env env':En)(vs:List V)(ts:List T)(Q:St->Hp->Prop),zN X.K B F H σ env->IsAll X.K F H ts vs->tg ts env=some env'->(∀σ',zN X.K B F H σ' env'->Q σ' H)->g vs σ H Q
def Vw(X:Cx)(es:List Expr)(tg:Ui):Prop:=∃g,UA X es g/\Ni X g tg
def bA:Ui:=λts env=>if ts=[]then some env else none
def qd(g:MG)(gs:Ui):Ui:=λts env=>match ts with|t::ts=>(g t env).bind λe1=>gs ts e1|[]=>none
def bB(n:Nat)(gs:Ui):MG:=λt env=>match t with|.tup ts=>if ts.length=n then gs ts env else none|_=>none
def jV:Vw X [] bA:=by
 refine⟨_,oS,?_⟩;intro B F H σ env env' vs ts Q R ia h q;unfold bA at h;split at h;·rename_i hts;subst hts;cases h;exact⟨mJ ia,q σ R⟩
 ·cases h
def zr(h1:Wr X e g)(h2:Vw X es gs)(hs:(assignEach (e::es) X.env).map (·.2)=assign e X.env::(assignEach es X.env).map (·.2):=by rfl):Vw X (e::es) (qd g gs):=by obtain⟨t1,p1,s1⟩:=h1;obtain⟨t2,p2,s2⟩:=h2;refine⟨_,nU p1 p2 hs,?_⟩;intro B F H σ env env' vs ts Q R ia h q;unfold qd at h;cases ts with|nil=>cases h|cons t ts=>dsimp only at h;cases hg:g t env with|none=>rw[hg]at h;cases h|some e1=>rw[hg]at h;unfold IsAll at ia;obtain⟨v,r,rfl,i1,i2⟩:=ia;exact⟨v,r,rfl,s1 B F H σ env e1 v t _ R i1 hg λσ1 R1=>s2 B F H σ1 e1 env' r ts Q R1 i2 h q⟩
def jW(hc:X.calm=true)(h:Vw X es gs)(hn:(assignEach es X.env).length=n:=by rfl)(hst:(assignEach es X.env).findIdx? (·.1)=none:=by rfl):Wr X (.Tuple es k pos) (bB n gs):=by obtain⟨t,p,s⟩:=h;refine⟨_,JP hc p hn hst,?_⟩;intro B F H σ env env' v t Q R iv h q;unfold bB at h;cases t<;>simp only[reduceCtorEq]at h;case tup ts=>
  split at h;·rename_i hl;unfold Is at iv;obtain⟨a,vs,rfl,g1,g2⟩:=iv;exact⟨a,vs,rfl,g1,by rw[<-g2.len];exact hl,s B F H σ env env' vs ts Q R g2 h q⟩
  ·cases h
def gZ(m:ME)(g:MG):MS:=λenv=>match xj m env with|.ok (r,env')=>(match g r.2 env' with|some e1=>.nx e1|none=>.bad)|.exc x=>.exc x env|.bad=>.bad
def dg(he:j9 X e m)(hg:Wr X tg g)(hs:swapsWithSole [tg] e pos.line X.env=pure false:=by rfl)(hw:swappedStores [tg] e X.env=pure none:=by rfl)(h1:(assignEach [tg] X.env).map (·.2)=[assign tg X.env]:=by rfl):lK X (.Assign [tg] e pos) (gZ m g):=by
 obtain⟨te,pe,se⟩:=he;obtain⟨t,p,s⟩:=hg;refine⟨_,aP pe p hs hw h1,?_⟩;intro B F H σ env D R w;unfold gZ at w;refine se.run R (λr env' er v F' H' R' iv old kp=>?_) (λx er ev F' H' R' ix pins s' I=>?_) λer=>?_
 ·rw[er]at w;dsimp only at w;obtain⟨F2,R2,i2,_⟩:=R'.freeze iv (λa q=>zG R.fr q) old;split at w;·rename_i e1 he1;exact s B F2 H' σ env' e1 v r.2 _ R2 i2 he1 λσ' R3=>w F2 H' σ' R3
  ·exact w.elim
 ·rw[er]at w;exact w ev F' H' σ R' ix pins s' I
 ·rw[er]at w;exact w
end L3
namespace L2
open PySem PySem.Spec PyProof.Rows
def zo.dropC(I:zo X pins σ H s)(f:qT X pins H C)(hsb:Heap.SameBut C s.heap h'):zo X pins σ H {s with heap:=h'}:=by
 have neC:∀b u,H b=some u->b≠C:=λb u e z=>by rw[z,f.1]at e;cases e
 refine I.call' (s':={s with heap:=h'}) (ch:=[C]) rfl ?_ ?_ I.bare λb hb=>?_;·have nm:∀b,b∉[C]->b≠C:=λb n z=>n (by rw[z];exact List.mem_singleton.mpr rfl);exact⟨λb o e n hb hx=>hsb.extBut b o (nm b hx) e,λb o e n hb hx=>⟨o.slots,hsb.extBut b o (nm b hx) e⟩,λb o e n hx=>n,λb o e hx=>⟨o,hsb.extBut b o (nm b hx) e⟩,λ_ _ q=>q,λ_ _ _ q=>q,λ_ ps q=>⟨#[],by rw[Array.append_empty];exact q⟩⟩
 ·exactλb u e=>(I.hok b u e).stay (λc v hc q=>hsb.extBut c v (hc.elim (λz=>by rw[z];exact neC b u e) λz=>neC c _ z) q) (λ_ q=>q) λ_ _ q=>q
 ·have:b=C:=List.mem_singleton.mp hb;subst this;exact⟨f.2.2.2.1,f.2.1,f.2.2.2.2.1,f.2.2.2.2.2⟩
def Vx(hN:X.N.Nodup)(hi':X.N[i]?=some y)(hy:ii X.env.scope y)(hc:X.calm=true)(S:m7 X scope cl x caps slots)(hi:PI X (.Name x px) iter wi)(ht:∀C ex pn s₀ H₀,ZT ↑e ifs tt)(he:∀C ex pn s₀ H₀,PE ↑e elt te)(hsw:swapsWith ↑q (some (.Name y py)) spos.line X.env=pure true)(hs:∀v,foldedSetIterable iter X.env v=pure v)(hg:∀it v,letOwnedTupleGo (.Name x px) it v=pure ())(hf:X.fn y=true\/X.env.scope.names.lookup y=some .local):PS X (.Assign [.Name y py] ↑q spos) (eI (rp wi tt te slots) (vd i)):=by intro pins s σ H D I h;rw[exec_Assign_Name_used _ _ _ _ hsw];refine wpAny_bind (wpAny_standAt (wpAny_bind ?_));show wpAny _ X.A (do let _<-comprehension ↑q scope X.env _ (newList []) false (eval iter X.env) (some (assign (.Name y py) X.env))) _ _ s;refine wpAny_bind (wpAny_mono (iK (use:=some (assign (.Name y py) X.env)) (PQ:=λ_ s'=>∃σ' H',zo X pins σ' H' s'/\D.nx σ' H') I h (λDa C H5 s6 m hn f inv q=>?_) hc S hi ht he hs hg) (λ_ s' hq=>wpAny_pure (wpAny_pure hq)) λ_ _ e=>e);show wpAny _ X.A (assign (.Name y py) X.env (.ref Da)) _ _ s6;have I6:zo X pins σ H5 s6:=inv s6.heap (Heap.SameBut.refl _ _);obtain⟨o,es,ep,ho,hd,hr⟩:=hn;have I6':=I6.pinned (fp:=[C]) (λb hb=>by rw[List.mem_singleton.mp hb];exact f) (λb hb=>by rw[List.mem_singleton.mp hb];exact⟨o,ho,λv z=>by rw[hd]at z;cases z⟩);have pg:PG X (.Name y py) (vd i):=qh hN hi' hy hf;refine wpAny_mono (pg _ s6 _ H5 (.ref Da) (.ref Da) D.nx I6' rfl q) (λ_ s8 h8=>?_) λ_ _ z=>z;obtain⟨σ8,H8,I8,q8⟩:=h8;have hp:=I8.pin (C,o) (List.mem_append_right _ (List.mem_append_right _ (xl (List.mem_singleton.mpr rfl) ho)));exact⟨m,⟨o,es,ep,hp.1,hd,hr⟩,λh' hsb=>⟨σ8,H8,I8.unpinned.dropC ⟨hp.2.1,f.2⟩ hsb,q8⟩⟩
end L2
namespace L3
open PySem PySem.Spec PyProof.Rows L2
section
variable{X:Cx}{scope:Scope}{x:Str}{caps:List Str}{slots:List Nat}{iter elt:Expr}{ifs:List Expr}{px pos:Pos}{it:aN}{mt:MT}{me:ME}{L:Nat}
theorem YV(hN:X.N.Nodup)(hi':X.N[i]?=some y)(hy:ii X.env.scope y)(hc:X.calm=true)(C:zQ X.N X.env.scope scope x caps slots)(hcl:X.env.cells=cellsFrom L X.env.scope.names [])(hi:tV X (.Name x px) iter it)(ht:∀cl C ex pn s₀ H₀,db ↑e ifs mt)(he:∀cl C ex pn s₀ H₀,j9 ↑e elt me)(hsw:swapsWith ↑q (some (.Name y py)) spos.line X.env=pure true:=by rfl)(hs:∀v,foldedSetIterable iter X.env v=pure v:=by intro _;rfl)(hg:∀it v,letOwnedTupleGo (.Name x px) it v=pure ():=by intro _ _;rfl)(hf:X.fn y=true\/X.env.scope.names.lookup y=some .local:=by first|exact .inl rfl|exact .inr rfl|assumption):lK X (.Assign [.Name y py] ↑q spos) (zH i (jh it mt me slots)):=by
 obtain⟨cl,S⟩:=pF C hcl;obtain⟨wi,pi,si⟩:=hi;obtain⟨tt,ht⟩:=YQ (ht cl);obtain⟨te,he⟩:=YO (he cl);have s:=bp (slots:=slots) si (ht 0 [] [] X.s₀ X.H₀).2 (he 0 [] [] X.s₀ X.H₀).2;refine⟨_,Vx (i:=i) hN hi' hy hc S pi (λC ex pn s₀ H₀=>(ht C ex pn s₀ H₀).1) (λC ex pn s₀ H₀=>(he C ex pn s₀ H₀).1) hsw hs hg hf,?_⟩;intro B F H σ env D R w;unfold zH at w;refine s.run R (λr env' e v F' H' R' i' old _=>?_) (λx e ev F' H' R' i pins s' I=>?_) λe=>?_;·rw[e]at w;exact w F' H' _ (R'.put i i' (λa q=>zG R.fr q) old)
 ·rw[e]at w;exact w ev F' H' σ R' i pins s' I
 ·rw[e]at w;exact w
end
def vp(val:Nat->Str)(i:Nat):List Str:=((List.range i).map val).foldl step_dedup []
theorem uc(val:Nat->Str)(i:Nat):vp val (i+1)=step_dedup (vp val i) (val i):=by unfold vp;rw[List.range_succ,List.map_append,List.foldl_append];rfl
theorem nK(val:Nat->Str):∀i,(vp val i).length<=i
 |0=>Nat.le_refl _|i+1=>by
  rw[uc];unfold step_dedup;have ih:=nK val i;split;·omega
  ·rw[List.length_append,List.length_singleton];omega
theorem Ja(σ:List Str)(v k:Str):(step_dedup σ v).any (·==k)=(σ.any (·==k)||decide (k=v)):=by
 unfold step_dedup;by_cases h:σ.any (·==v)=true
 ·rw[if_pos h];by_cases e:k=v;·subst e;rw[h];simp
  ·simp[e]
 ·rw[if_neg h,List.any_append];by_cases e:k=v;·subst e;simp
  ·have hb:(v==k)=false:=by simpa[beq_iff_eq]using(λh':v=k=>e h'.symm)
   simp[hb,e]
theorem Jb(σ:List Str)(v:Str):(step_dedup σ v).length=if σ.any (·==v)then σ.length else σ.length+1:=by unfold step_dedup;split<;>simp
def jz(led:Bool):Obj:={cls:=.type "set",dict:=none,data:=.set #[] 0 (.fresh 0 0 led)}
theorem sub_list_set:isSubtype (.type "list") (.type "set")=pure false:=F.sub_list_set
theorem sub_list_frozenset:isSubtype (.type "list") (.type "frozenset")=pure false:=F.sub_list_frozenset
theorem lQ:isSubtype (.type "tuple") (.type "set")=pure false:=by rw[isSubtype_type];kernel_rfl
theorem gO:isSubtype (.type "tuple") (.type "frozenset")=pure false:=by rw[isSubtype_type];kernel_rfl
section
variable{prog:Program}{w:World}{A:Around}{R:Result->Shared->Prop}{I:Addr}{fp wr:List Addr}{G:Array GenState->Array GenState->Prop}{n:Nat}{P:Nat->Value->Prop}{St:Nat->Shared->Prop}
theorem bC(W:WalksS prog w A.in1 I fp wr G n P St)(S:Addr)(hSf:S∉fp)(val:Nat->Str)(hval:∀i v,P i v->∃t,v=.str (val i) t)(hb:n+1<scanBound):∀(k i:Nat)(s:Shared),n-i=k->i<=n->St i s->s.heap.SetOf (strKind prog w) S (λk'=>(vp val i).any (·==k')) (vp val i).length->
   (∀s',Moved (S::wr) G s s'->s'.heap.SetOf (strKind prog w) S (λk'=>(vp val n).any (·==k')) (vp val n).length->R (.ok (.ret .none)) s')->codeAny ↑d A (.builtin "set.update.loop" ⟨[.ref S,.ref I],[]⟩) R s:=by have hSw:S∉wr:=λh=>hSf (W.sub _ h);have hsub:∀b∈wr,b∈S::wr:=λb hb=>List.mem_cons_of_mem _ hb;intro k;induction k with|zero=>
  intro i s hk hi hst hS hR;have hin:i=n:=by omega
  subst hin;refine codeAny_builtin PyProof.Rows.F.entry_set_update_loop ?_;rw[Around.under_plainId PyProof.Rows.F.plain_set_update_loop _];show wpAny _ A.in1 (pyNext (.ref I)>>=_) _ _ s;refine wpAny_bind (W.done s _ _ hst λs' hm=>?_);show wpAny _ A.in1 (ret Value.none) _ _ s';exact wpAny_pure (hR s' (hm.mono hsub) (by obtain⟨o,es,ep,t,ho,rest⟩:=hS;exact⟨o,es,ep,t,hm.heap S _ hSw ho,rest⟩))|succ k ih=>
  intro i s hk hi hst hS hR;have hlt:i<n:=by omega
  refine codeAny_builtin PyProof.Rows.F.entry_set_update_loop ?_;rw[Around.under_plainId PyProof.Rows.F.plain_set_update_loop _];show wpAny _ A.in1 (pyNext (.ref I)>>=_) _ _ s;refine wpAny_bind (W.item i s _ _ hlt hst λv s' hP hst' hm=>?_);obtain⟨t,rfl⟩:=hval i v hP;have hS':s'.heap.SetOf (strKind prog w) S (λk'=>(vp val i).any (·==k')) (vp val i).length:=by obtain⟨o,es,ep,tb,ho,rest⟩:=hS;exact⟨o,es,ep,tb,hm.heap S _ hSw ho,rest⟩
  show wpAny _ A.in1 (holding [Value.str (val i) t] (setAdd S (.str (val i) t))>>=_) _ _ s';refine wpAny_bind (wpAny_holding ?_);unfold setAdd;refine wpAny_holding ?_;refine wpAny_bind ((strKind prog w).pyHash (k:=val i) (strKind_is _ _ _ _) ?_);have hroom:(vp val i).length+1<scanBound:=by have:=nK val i;omega
  refine wpAny_setAddHashed_of (knd:=strKind prog w) (s:={s' with toks:=s'.toks+1}) (strKind_is _ _ _ _) rfl hS' hroom λh' hsb hS2=>?_;have hSi:h'.SetOf (strKind prog w) S (λk'=>(vp val (i+1)).any (·==k')) (vp val (i+1)).length:=SetOf_congr hS2 (λk'=>by rw[uc,Ja]) (by rw[uc,Jb]);refine wpAny_pure ⟨plainId_quiet PyProof.Rows.F.plain_set_update_loop _,ih (i+1) _ ↑c hlt (W.frame _ s' _ _ hst' (Nat.le_succ _) λb hb o e=>?_) hSi λs'' hm'' hS''=>?_⟩;·rw[hsb.2 b (λh:b=S=>hSf (by rw[<-h];exact hb))];exact e
  ·refine hR s'' (Moved.trans W.gtrans ((hm.mono hsub).then_heap (Nat.le_succ _) λb o hb e=>?_) hm'') hS'';rw[hsb.2 b (λh:b=S=>hb (by rw[h];exact List.mem_cons_self))];exact e
end
section
variable{prog:Program}{w:World}{A:Around}{E:Value->Shared->Prop}{s:Shared}
set_option maxHeartbeats 3200000 in theorem lR{l:Addr}{items:Array Value}{val:Nat->Str}{Q:Value->Shared->Prop}(hh:A.handled=none)(hl:s.heap.IsList l items)(hi:∀(i:Nat)(v:Value),items[i]?=some v->∃t,v=.str (val i) t)(hb:items.size+1<scanBound)(h:∀(h':Heap)(tk:Nat),h'.SetOf (strKind prog w) s.heap.objs.size (λk'=>(vp val items.size).any (·==k')) (vp val items.size).length->(∀b o,b<s.heap.objs.size->s.heap.get? b=some o->h'.get? b=some o)->Q ↑A {s with heap:=h',toks:=tk}):wpAny ↑d A (call (.type "set") [.ref l]) Q E s:=by
 obtain⟨c,tl,hmro⟩:=F.called_set.mro;have hmade:=F.called_set.made;have hsub:=F.called_set.sub;refine wpAny_call (codeAny_of_tree ?_);show wpAny _ _ (callAny (.type "set") _) _ _ _;refine wpAny_pure ⟨Code.quiet_builtin _ ↑K,codeAny_builtin F.entry_type_call ?_⟩;rw[Around.under_plain (weight_type_call_type "set" [.ref l] []) rfl];have h1:=F.called_set.notType;have h2:=F.called_set.canCreate;have hct:=F.typeCall_set_1 (.ref l);repeat(any_goals(first|assumption|wp_step))
 refine codeAny_mono (code_set_new_1 (.ref l) (E:=E) (Q₁:=λobj s₁=>∃led:Bool,obj=.ref s.heap.objs.size/\s₁={s with heap:=s.heap.push (jz led)}) λled=>⟨led,rfl,rfl⟩) λr s₁ hr=>?_;cases r with|error e=>exact hr|ok fl=>cases fl with
  |ret obj=>
   obtain⟨led,rfl,rfl⟩:=hr;have hS:(s.heap.push (jz led)).get? s.heap.objs.size=some (jz led):=Heap.get?_push_size _ rfl;have hT:Shared.TypeIs {s with heap:=s.heap.push (jz led)} ↑A "set":=⟨_,hS,rfl⟩;have hli:=F.called_set.init.lookup;have hbi:=F.called_set.init.bind ↑A;repeat(any_goals(first|assumption|wp_step))
   refine codeAny_mono (codeAny_call_builtin (R:=wants (λr s₂=>r=.none/\∃h' tk,s₂={s with heap:=h',toks:=tk}/\h'.SetOf (strKind prog w) s.heap.objs.size (λk'=>(vp val items.size).any (·==k')) (vp val items.size).length/\(∀b o,b<s.heap.objs.size->s.heap.get? b=some o->h'.get? b=some o)) E) F.called_set.init.plain F.entry_set_init (check_set_init_1 hT ?_)) λr₂ s₂ hr₂=>?_
   ·obtain⟨ol,hol,hcl,nl,hdl⟩:=hl;obtain⟨ocls,odict,odata,oslots⟩:=ol;simp only at hcl hdl;subst hcl;subst hdl;have hol':(s.heap.push (jz led)).get? l=some {cls:=.type "list",dict:=odict,data:=.seq items nl,slots:=oslots}:=Heap.get?_push_of_some _ hol;have hsls:=sub_list_set;have hslf:=sub_list_frozenset;have hne:(Value.type "list"==Value.type "dict")=false:=by decide
    have hl1:(s.heap.push (jz led)).IsList l items:=⟨_,hol',rfl,nl,rfl⟩;unfold Builtin.«set.__init__»noKeywords Builtin.Frozenset.updateFrom;generalize hPI:pyIter=PI;wp_walk;subst hPI;refine wpAny_pyIter_list hl1 ?_;refine wpAny_bind (wpAny_runValue ?_);have hlS:l<s.heap.objs.size:=Heap.lt_size hol;have hh3:A.in1.in1.in1.handled=none:=by simp[hh]
    have hneI:l≠(s.heap.push (jz led)).objs.size:=by rw[Heap.size_push];exact Nat.ne_of_lt (Nat.lt_succ_of_lt hlS)
    have hSf:s.heap.objs.size∉[(s.heap.push (jz led)).objs.size,l]:=by rw[Heap.size_push];simp only[List.mem_cons,List.mem_singleton,List.not_mem_nil,or_false,not_or];exact⟨Nat.ne_of_lt (Nat.lt_succ_self _),Nat.ne_of_gt hlS⟩
    refine bC ((Walks.list hh3 _ l hneI items).toS) s.heap.objs.size hSf val hi hb (items.size-0) 0 _ ↑c (Nat.zero_le _) ⟨⟨_,Heap.get?_push_size _ rfl,rfl,rfl⟩,⟨_,Heap.get?_push_of_some _ hol',rfl,nl,rfl⟩⟩ ?hS0 ?hR;case hS0=>have hget:((s.heap.push (jz led)).push {cls:=.type "list_iterator",data:=.fields #[.ref l,.int 0 0]}).get? s.heap.objs.size=some (jz led):=Heap.get?_push_of_some _ hS;exact PyProof.Rows.SetOf_congr ((PyProof.Rows.setObjOf_fresh (knd:=strKind prog w) led).setOf hget (by unfold scanBound;omega)) (λ_=>rfl) rfl
    case hR=>
     intro s' hm hS';obtain⟨h',g',d',tk',os'⟩:=s';have eg:g'=s.gens:=hm.gens;have ed:d'=s.drawn:=hm.drawn;have eo:os'=s.os:=hm.os;subst eg;subst ed;subst eo;show wpAny _ _ _ _ _ _;refine wpAny_pure ?_;show wpAny _ _ (ret Value.none) _ _ _;refine wpAny_pure ⟨rfl,h',tk',rfl,hS',λb o hb e=>?_⟩;have hb1:b≠s.heap.objs.size:=Nat.ne_of_lt hb;have hb2:b≠(s.heap.push (jz led)).objs.size:=by rw[Heap.size_push];exact Nat.ne_of_lt (Nat.lt_succ_of_lt hb)
     exact hm.heap b o (by simp only[List.mem_cons,List.mem_singleton,List.not_mem_nil,or_false,not_or];exact⟨hb1,hb2⟩) (Heap.get?_push_of_some _ (Heap.get?_push_of_some _ e))
   ·cases r₂ with|error e=>exact hr₂|ok fl₂=>
     cases fl₂ with|ret r=>
      obtain⟨rfl,h',tk,rfl,hS',hk'⟩:=hr₂;repeat(any_goals(first|assumption|wp_step))
      exact h _ _ hS' hk'|_=>exact hr₂.elim
  |_=>exact hr.elim
set_option maxHeartbeats 3200000 in theorem mN{l:Addr}{items:Array Value}{val:Nat->Str}{Q:Value->Shared->Prop}(hh:A.handled=none)(hl:s.heap.IsTuple l items)(hi:∀(i:Nat)(v:Value),items[i]?=some v->∃t,v=.str (val i) t)(hb:items.size+1<scanBound)(h:∀(h':Heap)(tk:Nat),h'.SetOf (strKind prog w) s.heap.objs.size (λk'=>(vp val items.size).any (·==k')) (vp val items.size).length->(∀b o,b<s.heap.objs.size->s.heap.get? b=some o->h'.get? b=some o)->Q ↑A {s with heap:=h',toks:=tk}):wpAny ↑d A (call (.type "set") [.ref l]) Q E s:=by
 obtain⟨c,tl,hmro⟩:=F.called_set.mro;have hmade:=F.called_set.made;have hsub:=F.called_set.sub;refine wpAny_call (codeAny_of_tree ?_);show wpAny _ _ (callAny (.type "set") _) _ _ _;refine wpAny_pure ⟨Code.quiet_builtin _ ↑K,codeAny_builtin F.entry_type_call ?_⟩;rw[Around.under_plain (weight_type_call_type "set" [.ref l] []) rfl];have h1:=F.called_set.notType;have h2:=F.called_set.canCreate;have hct:=F.typeCall_set_1 (.ref l);repeat(any_goals(first|assumption|wp_step))
 refine codeAny_mono (code_set_new_1 (.ref l) (E:=E) (Q₁:=λobj s₁=>∃led:Bool,obj=.ref s.heap.objs.size/\s₁={s with heap:=s.heap.push (jz led)}) λled=>⟨led,rfl,rfl⟩) λr s₁ hr=>?_;cases r with|error e=>exact hr|ok fl=>cases fl with
  |ret obj=>
   obtain⟨led,rfl,rfl⟩:=hr;have hS:(s.heap.push (jz led)).get? s.heap.objs.size=some (jz led):=Heap.get?_push_size _ rfl;have hT:Shared.TypeIs {s with heap:=s.heap.push (jz led)} ↑A "set":=⟨_,hS,rfl⟩;have hli:=F.called_set.init.lookup;have hbi:=F.called_set.init.bind ↑A;repeat(any_goals(first|assumption|wp_step))
   refine codeAny_mono (codeAny_call_builtin (R:=wants (λr s₂=>r=.none/\∃h' tk,s₂={s with heap:=h',toks:=tk}/\h'.SetOf (strKind prog w) s.heap.objs.size (λk'=>(vp val items.size).any (·==k')) (vp val items.size).length/\(∀b o,b<s.heap.objs.size->s.heap.get? b=some o->h'.get? b=some o)) E) F.called_set.init.plain F.entry_set_init (check_set_init_1 hT ?_)) λr₂ s₂ hr₂=>?_
   ·obtain⟨ol,hol,hcl,nl,hdl⟩:=hl;obtain⟨ocls,odict,odata,oslots⟩:=ol;simp only at hcl hdl;subst hcl;subst hdl;have hol':(s.heap.push (jz led)).get? l=some {cls:=.type "tuple",dict:=odict,data:=.seq items nl,slots:=oslots}:=Heap.get?_push_of_some _ hol;have hsls:=lQ;have hslf:=gO;have hne:(Value.type "tuple"==Value.type "dict")=false:=by decide
    have hl1:(s.heap.push (jz led)).IsTuple l items:=⟨_,hol',rfl,nl,rfl⟩;unfold Builtin.«set.__init__»noKeywords Builtin.Frozenset.updateFrom;generalize hPI:pyIter=PI;wp_walk;subst hPI;refine wpAny_pyIter_tuple hl1 ?_;refine wpAny_bind (wpAny_runValue ?_);have hlS:l<s.heap.objs.size:=Heap.lt_size hol;have hh3:A.in1.in1.in1.handled=none:=by simp[hh]
    have hneI:l≠(s.heap.push (jz led)).objs.size:=by rw[Heap.size_push];exact Nat.ne_of_lt (Nat.lt_succ_of_lt hlS)
    have hSf:s.heap.objs.size∉[(s.heap.push (jz led)).objs.size,l]:=by rw[Heap.size_push];simp only[List.mem_cons,List.mem_singleton,List.not_mem_nil,or_false,not_or];exact⟨Nat.ne_of_lt (Nat.lt_succ_self _),Nat.ne_of_gt hlS⟩
    refine bC ((Walks.tuple hh3 _ l hneI items).toS) s.heap.objs.size hSf val hi hb (items.size-0) 0 _ ↑c (Nat.zero_le _) ⟨⟨_,Heap.get?_push_size _ rfl,rfl,rfl⟩,⟨_,Heap.get?_push_of_some _ hol',rfl,nl,rfl⟩⟩ ?hS0 ?hR;case hS0=>have hget:((s.heap.push (jz led)).push {cls:=.type "tuple_iterator",data:=.fields #[.ref l,.int 0 0]}).get? s.heap.objs.size=some (jz led):=Heap.get?_push_of_some _ hS;exact PyProof.Rows.SetOf_congr ((PyProof.Rows.setObjOf_fresh (knd:=strKind prog w) led).setOf hget (by unfold scanBound;omega)) (λ_=>rfl) rfl
    case hR=>
     intro s' hm hS';obtain⟨h',g',d',tk',os'⟩:=s';have eg:g'=s.gens:=hm.gens;have ed:d'=s.drawn:=hm.drawn;have eo:os'=s.os:=hm.os;subst eg;subst ed;subst eo;show wpAny _ _ _ _ _ _;refine wpAny_pure ?_;show wpAny _ _ (ret Value.none) _ _ _;refine wpAny_pure ⟨rfl,h',tk',rfl,hS',λb o hb e=>?_⟩;have hb1:b≠s.heap.objs.size:=Nat.ne_of_lt hb;have hb2:b≠(s.heap.push (jz led)).objs.size:=by rw[Heap.size_push];exact Nat.ne_of_lt (Nat.lt_succ_of_lt hb)
     exact hm.heap b o (by simp only[List.mem_cons,List.mem_singleton,List.not_mem_nil,or_false,not_or];exact⟨hb1,hb2⟩) (Heap.get?_push_of_some _ (Heap.get?_push_of_some _ e))
   ·cases r₂ with|error e=>exact hr₂|ok fl₂=>
     cases fl₂ with|ret r=>
      obtain⟨rfl,h',tk,rfl,hS',hk'⟩:=hr₂;repeat(any_goals(first|assumption|wp_step))
      exact h _ _ hS' hk'|_=>exact hr₂.elim
  |_=>exact hr.elim
end
def vO(zs:List Str):List Str:=zs.foldl step_dedup []
def iU(zs:List Str):vp (λi=>zs.getD i "") zs.length=vO zs:=by
 unfold vp vO;congr 1;apply List.ext_getElem;·simp
 ·intro i h1 h2;simp at h1;simp[h1]
def wm:List T->Option (List Str)|[]=>some []|.str z::ts=>(wm ts).map λr=>z::r|_::_=>none
def mO:T->Option Nat|.lst ts=>(wm ts).bind λzs=>if zs.length+1<scanBound then some (vO zs).length else none|.tup ts=>(wm ts).bind λzs=>if zs.length+1<scanBound then some (vO zs).length else none|_=>none
def ud{K:W.Frag}{F:Addr->Prop}{H:Hp}:∀{ts:List T}{zs:List Str}{vs:List V},wm ts=some zs->IsAll K F H ts vs->vs=zs.map V.str|[],zs,vs,h,ia=>by unfold wm at h;cases h;exact mJ ia|t::ts,zs,vs,h,ia=>by unfold wm at h;cases t<;>simp only[reduceCtorEq]at h;case str z=>cases hr:wm ts with|none=>rw[hr]at h;cases h|some r=>rw[hr]at h;cases h;unfold IsAll at ia;obtain⟨v,us,rfl,i1,i2⟩:=ia;unfold Is at i1;rw[i1,ud hr i2];rfl
def Vy(K:W.Frag)(te:TE):TE:=λσ H Q=>te σ H λv H1=>∃a zs,v=.ref a/\(fo K H1 a (zs.map V.str)\/fX K H1 a (zs.map V.str))/\zs.length+1<scanBound/\Q (.int (vO zs).length) H1
def YW{zs:List Str}{us:List Value}(r:zE (zs.map V.str) us):∀(i:Nat)(v:Value),us.toArray[i]?=some v->∃t,v=.str (zs.getD i "") t:=by
 intro i v h;have hl:=r.length;simp at h;have hi:i<us.length:=(List.getElem?_eq_some_iff.mp h).1;have hz:i<zs.length:=by rw[List.length_map]at hl;omega
 obtain⟨u,e1,e2⟩:=r.get (i:=i) (x:=V.str zs[i]) (by simp[hz]);rw[h]at e1;cases e1;obtain⟨t,e⟩:=e2;exact⟨t,by rw[e];simp[hz]⟩
def Jc(hc:X.calm=true)(hgl:Gl X "len")(hml:X.mg "len"=none)(hgs:Gl X "set")(hms:X.mg "set"=none)(h:PE X e te)(h1:starEach [.Call (.Name "set" q) [e] [] p1] X.env=[(false,eval (.Call (.Name "set" q) [e] [] p1) X.env)]:=by rfl)(h2:starEach [e] X.env=[↑x]:=by rfl):PE X (.Call (.Name "len" p) [.Call (.Name "set" q) [e] [] p1] [] p2) (Vy X.K te):=by
 intro pins s σ H Q I hw;have hd:X.A.handled=none:=I.ok.hd hc;refine wpAny_Call_Name_kw (kL I hgl hml PySem.boot_len ?_);refine PyProof.Rows.callWith_builtin1 ?_;rw[h1];show wpAny _ _ (spliced ((false,eval (.Call (.Name "set" q) [e] [] p1) X.env)::[])) _ _ s;refine Calls.spliced_cons ?_;refine wpAny_Call_Name_kw (kL I hgs hms (show bootBuiltins "set"=some (.type "set")by rfl) ?_);refine PyProof.Rows.callWith_type1 ?_ (he:=by rw[h2];rfl);rw[h2];show wpAny _ _ (spliced (↑x::[])) _ _ s;refine Calls.spliced_cons (ja (h pins s σ H _ I hw) λu s1⟨x,H1,I1,r1,q1⟩=>?_);obtain⟨a,zs,rfl,sq,hb,hq⟩:=q1;cases r1;rw[spliced];refine wpAny_pure ?_;have fin:∀(h':Heap)(tk:Nat),h'.SetOf (strKind X.prog X.w) s1.heap.objs.size (λk'=>(vp (λi=>zs.getD i "") zs.length).any (·==k')) (vp (λi=>zs.getD i "") zs.length).length->(∀b o,b<s1.heap.objs.size->s1.heap.get? b=some o->h'.get? b=some o)->wpAny ↑a X.A (spliced []) (λvs s₂=>wpAny ↑a X.A (call (.builtin "len") (Value.ref s1.heap.objs.size::vs)) (EP X pins σ Q) X.xe s₂) X.xe {s1 with heap:=h',toks:=tk}:=by
  intro h' tk hS kp;rw[spliced];refine wpAny_pure ?_;have I2:zo X pins σ H1 {s1 with heap:=h',toks:=tk}:=I1.kept λb o e=>kp b o (Heap.lt_size e) e;obtain⟨o,es,ep,t,ho,hex,hdt,hel,hmem,hlt,hf,hn⟩:=hS;have hle:(vp (λi=>zs.getD i "") zs.length).length<=zs.length:=nK _ _;have hsz:(es.size:Int)<2^63:=by unfold scanBound at hb;omega
  refine call_len_set ho hex hdt hf hsz ⟨.int (vO zs).length,H1,I2.tok _,⟨tk+1,?_⟩,hq⟩;rw[hn,iU]
 rcases sq with sq|sq
 ·obtain⟨its,r',pl,hz⟩:=I1.list sq;have hl:its.length=zs.length:=by have:=r'.length;rw[List.length_map]at this;omega
  have hsz:its.toArray.size=zs.length:=by simp[hl]
  refine lR hd pl.isList (YW r') (by rw[hsz];exact hb) λh' tk hS kp=>?_;rw[hsz]at hS;exact fin h' tk hS kp
 ·obtain⟨its,r',pl,hz⟩:=I1.tuple sq;have hl:its.length=zs.length:=by have:=r'.length;rw[List.length_map]at this;omega
  have hsz:its.toArray.size=zs.length:=by simp[hl]
  refine mN hd pl (YW r') (by rw[hsz];exact hb) λh' tk hS kp=>?_;rw[hsz]at hS;exact fin h' tk hS kp
def v6(m:ME):ME:=λenv=>(m env).bind λr=>match mO r.2 with|some n=>.ok (false,.int n)|none=>.bad
def mP(hc:X.calm=true)(hgl:Gl X "len")(hml:X.mg "len"=none)(hgs:Gl X "set")(hms:X.mg "set"=none)(h:j9 X e m)(h1:starEach [.Call (.Name "set" q) [e] [] p1] X.env=[(false,eval (.Call (.Name "set" q) [e] [] p1) X.env)]:=by rfl)(h2:starEach [e] X.env=[↑x]:=by rfl):j9 X (.Call (.Name "len" p) [.Call (.Name "set" q) [e] [] p1] [] p2) (v6 m):=by obtain⟨te,pe,se⟩:=h;refine⟨_,Jc hc hgl hml hgs hms pe h1 h2,?_⟩;intro F H σ env Q R nb ok ex;unfold v6 at nb ok ex;refine se.val R ↑b (λr e1 v F1 H1 x1 i1=>?_) λx z=>ex x ↑v;rw[e1,bind_ok]at nb ok;obtain⟨o,t⟩:=r;dsimp only at nb ok i1;cases hn:mO t with|none=>rw[hn]at nb;exact absurd rfl nb|some n=>
  rw[hn]at ok;cases t<;>simp only[mO,reduceCtorEq]at hn;case lst ts=>cases hz:wm ts with|none=>rw[hz]at hn;cases hn|some zs=>
    rw[hz]at hn;dsimp only[Option.bind]at hn;split at hn;·rename_i hb;cases hn;unfold Is at i1;obtain⟨a,vs,rfl,g1,g2⟩:=i1;rw[ud hz g2]at g1;exact⟨a,zs,rfl,.inl g1.sq,hb,ok _ rfl _ F1 H1 x1 (jc xb)⟩
    ·cases hn
  case tup ts=>cases hz:wm ts with|none=>rw[hz]at hn;cases hn|some zs=>
    rw[hz]at hn;dsimp only[Option.bind]at hn;split at hn;·rename_i hb;cases hn;unfold Is at i1;obtain⟨a,vs,rfl,g1,g2⟩:=i1;rw[ud hz g2]at g1;exact⟨a,zs,rfl,.inr g1,hb,ok _ rfl _ F1 H1 x1 (jc xb)⟩
    ·cases hn
end L3
namespace L2
open PySem PySem.Spec PyProof.Rows
def Ls(K:W.Frag)(a:Addr):It:=⟨λi H=>∃xs x,fo K H a xs/\xs[i]?=some x,λi H v H'=>∃T y,H T=none/\v=.ref T/\H'=zO H T (.tup [.int i,y])/\∀xs,fo K H a xs->xs[i]?=some y,λi H=>∃xs,fo K H a xs/\xs.length<=i⟩
def zo.turnT{h':Heap}{tk:Nat}{ch:List Addr}{T:Addr}{xs:List V}{its:List Value}(I:zo X pins σ H s)(hf:∀b∈ch,qT X pins H b)(k:∀b o,b∉ch->s.heap.get? b=some o->h'.get? b=some o)(hT:s.heap.objs.size<=T)(hz:xs.length<=sizeLine)(r:zE xs its)(ht:IsTup h' T its.toArray):zo X pins σ (zO H T (.tup xs)) {s with heap:=h',toks:=tk}:=by
 have hn:=I.hok.fresh hT;have neT:∀b o,s.heap.get? b=some o->b≠T:=λb o e z=>absurd (Heap.lt_size e) (Nat.not_lt.mpr (by rw[z];exact hT));have nch:∀b u,H b=some u->b∉ch:=λb u e z=>by rw[(hf b z).1]at e;cases e
 refine I.call' rfl ⟨λb o e n hb hx=>k b o hx e,λb o e n hb hx=>⟨o.slots,k b o hx e⟩,λb o e n hx=>by rw[zf (neT b o e)];exact n,λb o e hx=>⟨o,k b o hx e⟩,λb ys q=>by rw[zf (zK q hn)];exact q,λb o u q=>by rw[zf (zK q hn)];exact q,λb ps q=>⟨#[],by rw[zf (zK q hn),Array.append_empty];exact q⟩⟩ (λb u e=>?_) I.bare λb hb=>⟨(hf b hb).2.2.2.1,(hf b hb).2.1,(hf b hb).2.2.2.2.1,(hf b hb).2.2.2.2.2⟩;by_cases hb:b=T;·subst hb;rw[zm]at e;cases e;exact⟨hz,its,r,ht⟩
 ·rw[zf hb]at e;refine(I.hok b u e).stay (λc v hc q=>k c v ?_ q) (λc q=>by rw[zf (zK q hn)];exact q) λc xs q=>by rw[zf (zK q hn)];exact q
  rcases hc with rfl|hc;·exact nch _ _ e
  ·exact nch _ _ hc
def Jd{P:Program}{w:World}{K:W.Frag}{elts:List Expr}{k:Nat}{tp:Pos}(a e it:Addr)(hei:e≠it):aR P w K (.Tuple elts k tp) (Ls K a) [e,it] e (λi h=>(∃old,IsEnum h e it (i:Int) old)/\h.IsListIter it a i)where
 mem:=by simp
 obj:=λi h st b hb=>by
  obtain⟨⟨old,he⟩,hi⟩:=st;rcases List.mem_cons.mp hb with rfl|hb;·exact⟨_,he,λv z=>by have z':Data.fields _=Data.cell v:=z;cases z'⟩
  ·have e:b=it:=by simpa using hb
   subst e;obtain⟨o,e,c,d⟩:=hi;exact⟨o,e,λv z=>by rw[d]at z;cases z⟩
 keep:=λi h h' st k=>by obtain⟨⟨old,he⟩,hi⟩:=st;exact⟨⟨old,k e ↑D _ he⟩,hi.at λo q=>k it ↑D o q⟩
 item:=by
  intro X hP hw hK hc i pins s σ H E I hf st hg;subst hP hw hK;obtain⟨xs,x,hq,hx⟩:=hg;obtain⟨its,rv,p,hz⟩:=I.list hq;obtain⟨u,hu,ru⟩:=rv.get hx;obtain⟨⟨old,he⟩,hi⟩:=st;refine wpAny_pyNext_enum_item he hi p.isList (by simpa using hu) hei λh' ho hi' hT hsz hk=>?_;have I1:zo X pins σ (zO H s.heap.objs.size (.tup [.int i,x])) {s with heap:=h',toks:=s.toks+1}:=I.turnT hf (λb o hb q=>hk b o (λz=>hb (by simp[z])) (λz=>hb (by simp[z])) q) ↑h (by show 2<=sizeLine;decide) (.cons ⟨_,rfl⟩ (.cons ru .nil)) ⟨_,hT,rfl,_,rfl⟩;have ne1:e≠s.heap.objs.size:=Nat.ne_of_lt (Heap.lt_size he);have ne2:it≠s.heap.objs.size:=by obtain⟨o,q,_⟩:=hi;exact Nat.ne_of_lt (Heap.lt_size q)
  refine⟨_,rfl,wpAny_letOwnedTupleGo_enum ho λh2 he2 hs2=>?_⟩;obtain⟨f0,f1,f2,f3,f4,f5⟩:=hf e ↑D;refine⟨.ref s.heap.objs.size,_,I1.turned (λb o hb q=>(hs2.2 b hb).trans q) (by rw[zf ne1];exact f0) f1 f3 f4 f5,rfl,⟨_,x,I.hok.fresh ↑h,rfl,rfl,λys hy=>by rw[I.list_inj hy hq];exact hx⟩,⟨⟨u,by simpa using he2⟩,hi'.at λo q=>(hs2.2 it hei.symm).trans q⟩,λb hb=>?_⟩;rcases List.mem_cons.mp hb with rfl|hb;·rw[zf ne1];exact f0
  ·have e':b=it:=by simpa using hb
   subst e';rw[zf ne2];exact(hf b ↑D).1
 done:=by intro X hP hw hK hc i pins s σ H E I hf st hg;subst hP hw hK;obtain⟨xs,hq,hx⟩:=hg;obtain⟨its,rv,p,hz⟩:=I.list hq;obtain⟨f0,f1,f2,f3,f4,f5⟩:=hf it ↑D;obtain⟨⟨old,he⟩,hi⟩:=st;have hl:=rv.length;exact wpAny_pyNext_enum_end (I.ok.hd hc) he hi p.isList (by simp;omega) λh' eb=>⟨rfl,I.turned (λb o hb e=>eb b o hb e) f0 f1 f3 f4 f5⟩
 self:=λ_ _ _ _ _ st h=>by obtain⟨⟨old,he⟩,_⟩:=st;exact wpAny_pyIter_enum he h
def YX(K:W.Frag)(tl:TE):TI:=λσ H R=>tl σ H λx H1=>∃a,x=.ref a/\(∃xs,fo K H1 a xs)/\R (Ls K a) H1
def rK{elts:List Expr}{k:Nat}{tp p pos:Pos}{l:Expr}{tl:TE}(hg:Gl X "enumerate")(hm:X.mg "enumerate"=none)(hl:PE X l tl)(hs:starEach [l] X.env=[(false,eval l X.env)]:=by rfl):PI X (.Tuple elts k tp) (.Call (.Name "enumerate" p) [l] [] pos) (YX X.K tl):=by
 intro pins s σ H R I h;refine wpAny_Call_Name_kw (kL I hg hm eW ?_);refine PyProof.Rows.callWith_type1 ?_ (he:=by rw[hs];rfl);rw[hs];show wpAny _ _ (spliced ((false,eval l X.env)::[])) _ _ s;refine Calls.spliced_cons (ja (hl pins s σ H _ I h) λu s1⟨x,H1,I1,r1,q1⟩=>?_);obtain⟨a,rfl,⟨xs,hq⟩,q⟩:=q1;cases r1;rw[spliced];refine wpAny_pure ?_;obtain⟨its,rv,pl,hz⟩:=I1.list hq;refine call_enumerate_list pl.isList λh' he hi hsz kp=>wpAny_pyIter_enum he ?_;have I2:zo X pins σ H1 {s1 with heap:=h'}:=I1.kept kp;refine⟨s1.heap.objs.size+1,[s1.heap.objs.size+1,s1.heap.objs.size],_,_,H1,rfl,I2,Jd a (s1.heap.objs.size+1) s1.heap.objs.size (Nat.ne_of_gt (Nat.lt_succ_self _)),⟨⟨.none,he⟩,hi⟩,λb hb=>?_,q⟩;have hb':s1.heap.objs.size<=b:=by
  rcases List.mem_cons.mp hb with rfl|hb;·exact Nat.le_succ _
  ·have e:b=s1.heap.objs.size:=by simpa using hb
   exact Nat.le_of_eq e.symm
 exact I1.fpOk hb' (I1.hok.fresh hb')
end L2
namespace L3
open PySem PySem.Spec PyProof.Rows L2
def GH(f:Str):List Str->List T->Option T|g::fs,t::ts=>if f==g then some t else GH f fs ts|_,_=>none
def bD{K:W.Frag}{F:Addr->Prop}{H:Hp}{f:Str}{t:T}:∀{fvs:List (Str×V)}{fs:List Str}{ts:List T},fvs.map (·.1)=fs->IsAll K F H ts (fvs.map (·.2))->GH f fs ts=some t->∃v,fvs.lookup f=some v/\Is K F H t v|[],fs,ts,e,_,h=>by subst e;cases ts<;>(simp[GH]at h)|(g,v)::r,fs,ts,e,ia,h=>by subst e;cases ts with|nil=>simp[GH]at h|cons u us=>rw[List.map_cons]at ia h;unfold IsAll at ia;obtain⟨v',r',e1,i1,i2⟩:=ia;injection e1 with e1 e2;subst e1 e2;rw[List.lookup_cons];unfold GH at h;dsimp only at h;cases hb:f==g with|true=>rw[hb,if_pos rfl]at h;cases h;exact⟨v,rfl,i1⟩|false=>rw[hb,if_neg Bool.false_ne_true]at h;exact bD rfl i2 h
def uK:∀{fvs:List (Str×V)},f∉fvs.map (·.1)->fvs.lookup f=none
 |[],_=>rfl|(g,v)::r,h=>by
  rw[List.map_cons,List.mem_cons,not_or]at h;rw[List.lookup_cons];have:(f==g)=false:=by simpa using h.1
  rw[this];exact uK h.2
def YY(cs:List Addr)(f:Str)(m:ME):ME:=λenv=>(m env).bind λr=>match r.2 with|.obj C fs ts=>if C∈cs then aL ((GH f fs ts).map λt=>↑V)else .bad|_=>.bad
def Nj{cs:List Addr}(hc:∀C∈cs,lN X.K C/\jQ X.K C f)(h:j9 X e me)(hb:attributeBase e f X.env (eval e X.env)=eval e X.env:=by rfl):j9 X (.Attribute e f pos) (YY cs f me):=by
 obtain⟨te,pe,se⟩:=h;refine⟨_,tf pe hb,?_⟩;intro F H σ env Q R nb ok ex;unfold YY at nb ok ex;refine se.val R ↑b (λr e1 v F1 H1 x1 i1=>?_) λx z=>ex x ↑v;rw[e1,bind_ok]at nb ok;obtain⟨b,t⟩:=r;dsimp only at nb ok i1;cases t<;>dsimp only at nb ok<;>try(exact absurd rfl nb)
 case obj C fs ts=>
  split at nb;·rename_i hC;rw[if_pos hC]at ok;cases hl:GH f fs ts with|none=>rw[hl]at nb;exact absurd rfl nb|some t=>rw[hl]at ok;unfold Is at i1;obtain⟨a,dx,fvs,rfl,fa,hH,hk,ia⟩:=i1;obtain⟨v,lv,iv⟩:=bD hk ia hl;exact⟨a,C,dx,fvs,v,rfl,hH,(hc C hC).1,(hc C hC).2,lv,ok _ rfl v F1 H1 x1 (jc iv)⟩
  ·exact absurd rfl nb
def YZ(X:Cx)(C:Addr)(m:Str)(sp:Sp)(ta:TE)(t:TA):TE:=λσ H Q=>ta σ H λx H1=>∃a dx fs,x=.ref a/\H1 a=some (.ins C dx fs)/\fs.lookup m=none/\t σ H1 λvs H2=>∃E,sp (x::vs) H2 Q E/\∀e oa H',E e oa H'->∀pins s',nh X e pins σ H' s'->X.xe e s'
def X0(he:PE X o ta)(c:lN X.K C)(hm:aZ X.K C m fa)(Fn:xZ X.prog X.w X.K X.mg X.base (nr X.prog X.w) k fa fd ps sp)(hr:jN k X.A)(hb:kA X.K fd ps [])(ha:PA X (e::es) t)(hst:starEach (e::es) X.env=↑x::starEach es X.env:=by rfl)(hpl:(backTo pos ↑ag).any (·.1)=false:=by rfl)(ht:eval (.Call (.Attribute o m apos) (e::es) [] pos) X.env=(do
   let ov<-eval o X.env
   standAt apos.atName let(f,first)<-holding [ov] (getMethod ov m pl)callWith pos f first (backTo pos (starEach (e::es) X.env)) (backToKw pos (keywordEach [] X.env))):=by rfl):PE X (.Call (.Attribute o m apos) (e::es) [] pos) (YZ X C m sp ta t):=by intro pins s σ H Q I h;refine W.methodCall_KW (ja (he pins s σ H _ I h) λu s1⟨x,H1,I1,rx,a,dx,fs,ex,ea,l,q⟩=>?_) ht;subst ex;obtain rfl:u=Value.ref a:=rx;refine t7 I1 ea c hm l ?_;refine W.callWith_K I.ok.mod.kin hm.kp (ja (ha pos pins s1 σ H1 _ I1 q) λus s2⟨vs,H2,I2,r,E,q2,hx⟩=>⟨I2.kIn,?_⟩) hst hpl;exact da (vs:=.ref a::vs) Fn hr hb I2 (.cons rfl r) q2 λe oa H' z s' I'=>hx e oa H' z pins s' I'
def bF(P:Program)(w:World)(K:W.Frag)(mg:Str->Option Value)(base:Heap)(k:Nat)(C:Addr)(m:Str)(ps:List Str)(f:MF):Prop:=∃fa fd,xZ P w K mg base (nr P w) k fa fd ps (gX K f)/\aZ K C m fa/\lN K C/\kA K fd ps []
def mQ(C:Addr)(m:Str)(f:MF)(mo:ME)(ma:MA):ME:=λenv=>(mo env).bind λr=>match r.2 with|.obj C' fs ts=>if C'=C/\m∉fs then(ma env).bind λrs=>f ((false,r.2)::rs)else .bad|_=>.bad
def Je{C:Addr}{f:MF}{ta:TE}{t:TA}(so:xG X ta mo)(sa:tP X t ma):xG X (YZ X C m (gX X.K f) ta t) (mQ C m f mo ma):=by
 intro F H σ env Q R nb ok ex;unfold mQ at nb ok ex;refine so.val R ↑b (λr e1 v F0 H0 x0 i0=>?_) λx z=>ex x ↑v;rw[e1,bind_ok]at nb ok ex;obtain⟨b,t0⟩:=r;dsimp only at nb ok ex i0;cases t0<;>dsimp only at nb ok ex<;>try(exact absurd rfl nb)
 case obj C' fs ts=>
  split at nb
  ·rename_i hC;rw[if_pos hC]at ok ex;obtain⟨rfl,hm⟩:=hC;have i0':=i0;unfold Is at i0';obtain⟨a,dx,fvs,rfl,fa,hH,hk,ia⟩:=i0';refine⟨a,dx,fvs,rfl,hH,uK (by rw[hk];exact hm),?_⟩;refine sa F0 H0 σ env _ (R.mono x0) ↑b (λrs e2 vs F1 H1 x01 i1=>?_) λx z=>(ex x ↑v).mono x0;rw[e2,bind_ok]at nb ok ex;have x1:=x0.trans x01;have i1':xD X.K ↑W F1 H1 vs rs:=i1.any λa z=>j8 x0.same z;have i2:xD X.K ↑W F1 H1 (.ref a::vs) ((false,.obj C' fs ts)::rs):=⟨jc (i0.mono x01.kept),i1',λz=>by cases z⟩;have toExt:∀{F':Addr->Prop}{H':Hp},nj ⟨mI (.ref a::vs) ((false,.obj C' fs ts)::rs),H1,F1⟩ F' H'->jA F H F' H':=by
    intro F' H' fr;refine⟨λa o h=>fr.keep a o (x1.same a o h) λz=>?_,λa h=>fr.sub a (x1.sub a h),λa h=>?_,fr.dom⟩;·rw[(xQ i2 z).2.1]at h;cases h
    ·rcases fr.new a h with h|h|h;·exact x1.new a h
     ·exact .inr (j8 x1.same h)
     ·exact .inr (xQ i2 h).2.1
   refine⟨λev oa H'=>oa=none/\∃F' x,f ((false,.obj C' fs ts)::rs)=.exc x/\jA F H F' H'/\Yo X.K F' H' ev x,⟨F1,_,x1.dom,i2.any λ_ _=>trivial,nb,λr er v F' H' rr=>?_,λx ex' ev F' H' fr ix=>⟨rfl,F',x,ex',toExt fr,ix⟩⟩,λev oa H'⟨_,F',x,e',xt,ix⟩pins s' I=>ex x e' ev F' H' xt ix pins s' I⟩;refine ok r er v F' H' (toExt rr.fr) ?_;have i:=rr.val;unfold wz at i⊢;split
   ·rename_i ho;rw[if_pos ho]at i;obtain⟨a',e,nf,fr,o⟩:=i;refine⟨a',e,nf,?_,o⟩;rcases fr with fr|fr;·exact j8 x1.same fr
    ·exact(xQ i2 fr).2.1
   ·rename_i ho;rw[if_neg ho]at i;exact i
  ·exact absurd rfl nb
def X1{k:Nat}{C:Addr}{ps:List Str}{f:MF}{pl:Sem Bool}(M:bF X.prog X.w X.K X.mg X.base k C m ps f)(hr:jN k X.A)(ho:j9 X o mo)(ha:aM X (e::es) ma)(hst:starEach (e::es) X.env=↑x::starEach es X.env:=by rfl)(hpl:(backTo pos ↑ag).any (·.1)=false:=by rfl)(ht:eval (.Call (.Attribute o m apos) (e::es) [] pos) X.env=(do
   let ov<-eval o X.env
   standAt apos.atName let(f,first)<-holding [ov] (getMethod ov m pl)callWith pos f first (backTo pos (starEach (e::es) X.env)) (backToKw pos (keywordEach [] X.env))):=by rfl):j9 X (.Call (.Attribute o m apos) (e::es) [] pos) (mQ C m f mo ma):=by obtain⟨fa,fd,Fn,hm,hc,hb⟩:=M;obtain⟨to,po,so⟩:=ho;obtain⟨ta,pa,sa⟩:=ha;exact⟨_,X0 po hc hm Fn hr hb pa hst hpl ht,Je so sa⟩
section
variable{P:Program}{w:World}{K:W.Frag}{mg:Str->Option Value}{base:Heap}
theorem bF.ok{C:Addr}{x qual:Str}{st:Stmt}{N ps:List Str}{k:Nat}{mb:MS}(F:∃f fd,eS K x qual st f fd/\aZ K C x f)(hc:lN K C)(S:zg N ps (zb st))(hb:∀(kV doc pm:Value)(an:Option Addr)(cdv ct:Value)(us:List Value),us.length=ps.length->bindArgs (W.fnOf x qual (jS st) (j6 st) (zb st) .none kV doc pm an cdv ct) ⟨us,[]⟩=pure (ps.zip us))(hbody:∀(f:Addr)(cdv:Value)(A:Around)(outer:List Env)(s:Shared)(H:Hp)(E:XK),jN k (A.deeper (envOfC qual (zb st) s.heap.objs.size f cdv))->gM (n9 (nr P w) P w K mg base N qual (zb st) f cdv A outer s H E) (j6 st) mb):bF P w K mg base (k+1) C x ps (zP N.length ps.length mb):=by obtain⟨f,fd,F,hm⟩:=F;refine⟨f,fd,?_,hm,hc,F.binds hb⟩;obtain⟨oc,od,kV,doc,pm,an,cdv,ct,osl,rfl,lk,hcd⟩:=F.ex;exact iC lk hcd S (λvs H Q E h=>GC h) λA outer s H vs Q E hr hsp=>YN hsp (hbody f cdv A outer s H E hr)
end
def xD.mono{K:W.Frag}{fr F F':Addr->Prop}{H H':Hp}(x:jA F H F' H'):∀{vs:List V}{rs:List RV},xD K fr F H vs rs->xD K fr F' H' vs rs
 |[],[],_=>trivial|[],_::_,h=>h.elim|_::_,[],h=>h.elim|v::vs,r::rs,h=>by
  refine⟨?_,xD.mono x h.2.1,h.2.2⟩;have i:=h.1;unfold wz at i⊢;split
  ·rename_i ho;rw[if_pos ho]at i;obtain⟨a,e,nf,f,o⟩:=i;refine⟨a,e,λz=>?_,f,o.mono x.kept λo q=>x.same a o q⟩;rcases x.new a z with z|z;·exact nf z
   ·exact o.there z
  ·rename_i ho;rw[if_neg ho]at i;exact i.mono x.kept
abbrev MN:=List RV->kN T
def rL(K:W.Frag)(g:MN):Sp:=λvs H Q E=>∃F rs,lJ F H/\xD K (λ_=>True) F H vs rs/\g rs≠.bad/\(∀t,g rs=.ok t->∀a F' H',vs[0]?=some (.ref a)->nj ⟨mI vs rs,H,F⟩ F' H'->¬F' a->wX K F' H' a t->Q .non H')/\(∀x,g rs=.exc x->∀ev F' H',nj ⟨mI vs rs,H,F⟩ F' H'->Yo K F' H' ev x->E ev none H')
def bG(P:Program)(w:World)(K:W.Frag)(mg:Str->Option Value)(base:Heap)(k:Nat)(C:Addr)(x:Str)(ps:List Str)(g:MN):Prop:=∃fa fd,xZ P w K mg base (nr P w) k fa fd ps (rL K g)/\Mk K C fa/\mg x=some ↑Q/\kA K fd ps []
def g9(C:Addr)(g:MN)(ma:MA):ME:=λenv=>(ma env).bind λrs=>(g ((true,.obj C [] [])::rs)).bind λt=>.ok ↑V
def X2(X:Cx)(C:Addr)(sp:Sp)(t:TA):TE:=λσ H Q=>t σ H λvs H1=>∀x dx,H1 x=none->H1 dx=none->dx≠x->∃E,sp (.ref x::vs) (zO (zO H1 dx (.own x)) x (.ins C dx [])) (λv H2=>v=.non/\Q (.ref x) H2) E/\∀e oa H',E e oa H'->∀pins s',nh X e pins σ H' s'->X.xe e s'
def Jf(M:Mk X.K C fa)(F:xZ X.prog X.w X.K X.mg X.base (nr X.prog X.w) k fa fd ps sp)(hr:jN (k+1) X.A)(hb:kA X.K fd ps [])(I:zo X pins σ H s)(r:zE vs us)(h:∀x dx,H x=none->H dx=none->dx≠x->∃E,sp (.ref x::vs) (zO (zO H dx (.own x)) x (.ins C dx [])) (λv H2=>v=.non/\Q (.ref x) H2) E/\∀e oa H',E e oa H'->∀pins s',nh X e pins σ H' s'->X.xe e s'):wpAny ↑a X.A (call ↑Q us) (EP X pins σ Q) X.xe s:=by
 obtain⟨E,hq,hx⟩:=h ↑w s.heap.objs.size (I.hok.fresh (Nat.le_succ _)) (I.hok.fresh ↑h) (Nat.ne_of_lt (Nat.lt_succ_self _));have I2:=zo.made (C:=C) I;have r2:zE (V.ref ↑w::vs) (Value.ref ↑w::us):=.cons rfl r;have hl:(Value.ref ↑w::us).length=ps.length:=by have e:=r2.length;rw[F.len _ _ _ _ hq]at e;exact e.symm
 refine wpAny_call (JX I.kIn M.makes M.init (beq_iff_eq.mp M.fn) (codeAny_mono (F.run _ X.stack _ _ ⟨Value.ref ↑w::us,[]⟩ (Value.ref ↑w::us) _ _ E (hr.make C us []) (I2.env0.make C us []) (by have:=hb _ (Value.ref ↑w::us) I2.kIn (by simpa using hl);simpa using this) r2 hq) λr s' hq'=>?_));cases r with|error e=>obtain⟨H',oa,ho,hg,hu,hok,fl,he⟩:=hq';exact hx e oa H' he pins s' ⟨I2.call' ho hu hok hg λb z=>absurd z ↑D,fl.up I2.sz λp hp=>Heap.lt_size (I2.pin p hp).1⟩|ok fl=>cases fl with|ret u=>obtain⟨v,H',I3,rv,ev,q3⟩:=I2.after hq';subst ev;exact⟨rv,⟨V.ref ↑w,H',I3,rfl,q3⟩⟩|next=>exact False.elim hq'|brk=>exact False.elim hq'|cont=>exact False.elim hq'
def X3(M:Mk X.K C fa)(F:xZ X.prog X.w X.K X.mg X.base (nr X.prog X.w) k fa fd ps sp)(hr:jN (k+1) X.A)(hg:Gl X x)(hm:X.mg x=some ↑Q)(hb:kA X.K fd ps [])(ha:PA X (e::es) t)(hdb:(x==↑t)=false:=by decide)(he:starEach (e::es) X.env=↑x::starEach es X.env:=by rfl)(hpl:(backTo pos ↑ag).any (·.1)=false:=by rfl):PE X ↑R (X2 X C sp t):=by intro pins s σ H Q I h;refine wpAny_Call_Name_kw (fY I hg hm ?_ hdb);refine W.callWith_K I.ok.mod.kin M.kp (ja (ha pos pins s σ H _ I h) λus s1⟨vs,H1,I1,r,q⟩=>⟨I1.kIn,?_⟩) he hpl;exact Jf M F hr hb I1 r q
def Jg(sa:tP X t ma):xG X (X2 X C (rL X.K g) t) (g9 C g ma):=by
 intro F H σ env Q R nb ok ex;unfold g9 at nb ok ex;refine sa F H σ env _ R ↑b (λrs e1 vs F1 H1 x1 i1=>?_) λx z=>ex x ↑v;rw[e1,bind_ok]at nb ok ex;intro a dx ha hd hne;have ea:jA F1 H1 F1 (zO H1 dx (.own a)):=jA.alloc x1.dom hd;have hna:zO H1 dx (.own a) a=none:=by rw[zf (Ne.symm hne)];exact ha
 have eb:jA F1 (zO H1 dx (.own a)) F1 (zO (zO H1 dx (.own a)) a (.ins C dx [])):=jA.alloc ea.dom hna;have x2:=ea.trans eb;have x12:=x1.trans x2;have nF:¬F1 a:=λf=>x1.dom a f ha;have own:∀{i:Nat}{r:RV},rs[i]?=some r->r.1=true->vs[i]?=some (V.ref a)->False:=by intro i r er ho hv;exact(xQ i1 ⟨i,r,er,ho,hv⟩).2.2 ha
 have i2:xD X.K ↑W F1 (zO (zO H1 dx (.own a)) a (.ins C dx [])) (.ref a::vs) ((true,.obj C [] [])::rs):=by refine⟨?_,i1.mono x2,λ_ j r er ho hv=>own er ho hv⟩;unfold wz;rw[if_pos rfl];exact⟨a,rfl,nF,j8 x1.same ha,dx,[],zm,rfl,IsAll.nil⟩
 have toExt:∀{F':Addr->Prop}{H':Hp},nj ⟨mI (.ref a::vs) ((true,.obj C [] [])::rs),zO (zO H1 dx (.own a)) a (.ins C dx []),F1⟩ F' H'->jA F H F' H':=by
  intro F' H' fr;refine⟨λb o h=>fr.keep b o (x12.same b o h) λz=>?_,λb h=>fr.sub b (x1.sub b h),λb h=>?_,fr.dom⟩;·rw[(xQ i2 z).2.1]at h;cases h
  ·rcases fr.new b h with h|h|h;·exact x1.new b h
   ·exact .inr (j8 x12.same h)
   ·exact .inr (xQ i2 h).2.1
 refine⟨λev oa H'=>oa=none/\∃F' x,g ((true,.obj C [] [])::rs)=.exc x/\jA F H F' H'/\Yo X.K F' H' ev x,⟨F1,_,x2.dom,i2.any λ_ _=>trivial,λz=>by rw[z]at nb;exact nb rfl,λt et a' F' H' hv fr nf' w=>?_,λx ex' ev F' H' fr ix=>⟨rfl,F',x,ex',toExt fr,ix⟩⟩,λev oa H'⟨_,F',x,e',xt,ix⟩pins s' I=>ex x (by rw[e'];rfl) ev F' H' xt ix pins s' I⟩;have hv:V.ref a=V.ref a':=by simpa using hv
 cases hv;refine⟨rfl,ok ↑V (by rw[et];rfl) (.ref a) (λb=>F' b\/b=a) H' ((toExt fr).freeze (j8 x1.same ha) w.there) (jc (w.is (λb h=>.inl h) (.inr rfl)))⟩
def GI(M:bG X.prog X.w X.K X.mg X.base k C x ps g)(hr:jN (k+1) X.A)(hg:Gl X x)(ha:aM X (e::es) ma)(hdb:(x==↑t)=false:=by decide)(he:starEach (e::es) X.env=↑x::starEach es X.env:=by rfl)(hpl:(backTo pos ↑ag).any (·.1)=false:=by rfl):j9 X ↑R (g9 C g ma):=by obtain⟨fa,fd,F,hM,hm,hb⟩:=M;obtain⟨ta,pa,sa⟩:=ha;exact⟨_,X3 hM F hr hg hm hb pa hdb he hpl,Jg sa⟩
def jo(M:T)(ts:List T)(i:Nat)(t:T)(d:Option RV):En:=[none,some (false,.lst ts),some (false,M),some (false,.int i),some ↑V,d]
def k8(M:T)(tw tc:MT)(mk mv:ME)(ts:List T)(i:Nat)(t:T)(st:T×T):kN (T×T):=(tw (jo M ts i t none)).bind λb=>match tc (jo M ts i t (some (false,if b=true then st.2 else st.1)))with
 |.ok false=>(mv (jo M ts i t none)).bind λv=>(mk (jo M ts i t none)).bind λk=>match u6 k.2,(if b=true then st.2 else st.1)with|some key,.dct ks us=>if ks.length<sizeLine then .ok (if b=true then(st.1,pC ks us key v.2)else(pC ks us key v.2,st.2))else .bad|_,_=>.bad
 |_=>.bad
def xi(M:T)(tw tc:MT)(mk mv:ME)(ts:List T):Nat->List T->T×T->kN (T×T)|_,[],st=>.ok st|i,t::r,st=>(k8 M tw tc mk mv ts i t st).bind λst'=>xi M tw tc mk mv ts (i+1) r st'
mutual def kC:T->List Str|.str x=>[x]|.tup ts=>strsL ts|_=>[]def strsL:List T->List Str|[]=>[]|t::ts=>kC t++strsL ts end
open Classical in def xv(memo:List Str->Mo)(C0:Addr)(f1 f2:Str)(tw tc:MT)(mk mv:ME):MN:=λrs=>match rs with|[(true,.obj C [] []),(_,.lst ts)]=>if C=C0/\(strsL ts).length<sizeLine then(match xi (.mem 0 (memo (strsL ts) 0)) tw tc mk mv ts 0 ts (.dct [] [],.dct [] [])with|.ok st=>if∀m,xi (.mem m (memo (strsL ts) m)) tw tc mk mv ts 0 ts (.dct [] [],.dct [] [])=.ok st then .ok (.obj C [f1,f2] [st.1,st.2])else .bad|_=>.bad)else .bad|_=>.bad
structure j3(K:W.Frag)(B:Bs)(f1 f2:Str)(C a l dk df dx:Addr)(ts:List T)(d1 d2:T)(F:Addr->Prop)(H:Hp):Prop where
 fr:nj B F H
 nA:¬F a
 nk:¬F dk
 nf:¬F df
 ne:dk≠df
 ins:H a=some (.ins C dx [(f1,.ref dk),(f2,.ref df)])bk:B.H dk=none
 bf:B.H df=none
 w1:wX K F H dk d1
 w2:wX K F H df d2
 s1:∃ks us,d1=.dct ks us
 s2:∃ks us,d2=.dct ks us
 pl:Is K F H (.lst ts) (.ref l)
section
variable{K:W.Frag}{B:Bs}{f1 f2:Str}{C a l dk df dx:Addr}{ts:List T}{d1 d2:T}{F F':Addr->Prop}{H H':Hp}
theorem j3.ext(p:j3 K B f1 f2 C a l dk df dx ts d1 d2 F H)(x:jA F H F' H'):j3 K B f1 f2 C a l dk df dx ts d1 d2 F' H':=by
 have old:∀b,¬F b->H b≠none->¬F' b:=λb n h z=>by
  rcases x.new b z with z|z;·exact n z
  ·exact h z
 exact⟨p.fr.ext x,old a p.nA (by rw[p.ins];intro z;cases z),old dk p.nk p.w1.there,old df p.nf p.w2.there,p.ne,x.same _ _ p.ins,p.bk,p.bf,p.w1.mono x.kept λo q=>x.same _ _ q,p.w2.mono x.kept λo q=>x.same _ _ q,p.s1,p.s2,p.pl.mono x.kept⟩
theorem j3.put1(p:j3 K B f1 f2 C a l dk df dx ts d1 d2 F H)(e:d1=.dct ks us)(h:H dk=some (.dK kvs))(hk:kvs.map (·.1)=ks)(i:IsAll K F H us (kvs.map (·.2)))(iv:Is K F H t v):j3 K B f1 f2 C a l dk df dx ts (pC ks us k t) d2 F (zO H dk (.dK (xB kvs k v))):=by
 have kp:kq F F H (zO H dk (.dK (xB kvs k v))):=xr p.nk h (.inr (.inl ⟨_,rfl⟩));have na:a≠dk:=nR p.ins h (by intro z;cases z);refine⟨⟨λb f=>?_,p.fr.sub,p.fr.new,λb o hb hm=>?_,p.fr.f0⟩,p.nA,p.nk,p.nf,p.ne,by rw[zf na];exact p.ins,p.bk,p.bf,b7 hk i iv kp zm,p.w2.mono kp λo q=>by rw[zf (Ne.symm p.ne)];exact q,?_,p.s2,p.pl.mono kp⟩
 ·have:b≠dk:=by rintro rfl;exact p.nk f
  rw[zf this];exact p.fr.dom b f
 ·have:b≠dk:=by rintro rfl;rw[p.bk]at hb;cases hb
  rw[zf this];exact p.fr.keep b o hb hm
 ·unfold pC;split;·exact⟨_,_,rfl⟩
  ·exact⟨_,_,rfl⟩
theorem j3.put2(p:j3 K B f1 f2 C a l dk df dx ts d1 d2 F H)(e:d2=.dct ks us)(h:H df=some (.dK kvs))(hk:kvs.map (·.1)=ks)(i:IsAll K F H us (kvs.map (·.2)))(iv:Is K F H t v):j3 K B f1 f2 C a l dk df dx ts d1 (pC ks us k t) F (zO H df (.dK (xB kvs k v))):=by
 have kp:kq F F H (zO H df (.dK (xB kvs k v))):=xr p.nf h (.inr (.inl ⟨_,rfl⟩));have na:a≠df:=nR p.ins h (by intro z;cases z);refine⟨⟨λb f=>?_,p.fr.sub,p.fr.new,λb o hb hm=>?_,p.fr.f0⟩,p.nA,p.nk,p.nf,p.ne,by rw[zf na];exact p.ins,p.bk,p.bf,p.w1.mono kp λo q=>by rw[zf p.ne];exact q,b7 hk i iv kp zm,p.s1,?_,p.pl.mono kp⟩
 ·have:b≠df:=by rintro rfl;exact p.nf f
  rw[zf this];exact p.fr.dom b f
 ·have:b≠df:=by rintro rfl;rw[p.bf]at hb;cases hb
  rw[zf this];exact p.fr.keep b o hb hm
 ·unfold pC;split;·exact⟨_,_,rfl⟩
  ·exact⟨_,_,rfl⟩
theorem X4(h:Is K F H t v)(e:u6 t=some k):v=kV k:=Vk (fr:=λ_=>True) (jc h) e
theorem jA.less(nb:¬F b)(hb:H b≠none)(x:jA (λc=>F c\/c=b) H F' H'):jA F H (λc=>F' c/\c≠b) H':=by
 refine⟨x.same,λc h=>⟨x.sub c (.inl h),λz=>nb (z▸h)⟩,λc h=>?_,λc h=>x.dom c h.1⟩;rcases x.new c h.1 with(z|z)|z;·exact .inl z
 ·exact absurd z h.2
 ·exact .inr z
theorem qu(dm:lJ F H)(pl:Is K F H (.lst ts) (.ref l))(pm:Is K F H M (.ref mm))(iy:Is K F H t y)(s1:σ[1]?=some (some (.ref l)))(sm:σ[2]?=some (some (.ref mm)))(s2:σ[3]?=some (some (.int i)))(s3:σ[4]?=some (some y))(hd:∀r,d=some r->∃v,σ[5]?=some (some v)/\Is K F H r.2 v):w4 K F H σ (jo M ts i t d):=by refine⟨dm,λj r h=>?_⟩;unfold jo at h;match j,h with|0,h=>simp at h|1,h=>simp at h;subst h;exact⟨_,s1,pl⟩|2,h=>simp at h;subst h;exact⟨_,sm,pm⟩|3,h=>simp at h;subst h;exact⟨_,s2,xb⟩|4,h=>simp at h;subst h;exact⟨_,s3,iy⟩|5,h=>simp at h;exact hd r h|n+6,h=>simp at h
end
def GJ{f1 f2:Str}{x y:V}(hf:f1≠f2):List.lookup f2 [(f1,x),(f2,y)]=some y:=by
 have h:(f2==f1)=false:=by simpa using Ne.symm hf
 rw[List.lookup_cons,h,List.lookup_cons,beq_self_eq_true]
def GK{f1 f2:Str}{x y:V}:List.lookup f1 [(f1,x),(f2,y)]=some x:=by rw[List.lookup_cons,beq_self_eq_true]
section
variable{X:Cx}{f1 f2:Str}{cw cc ek ev:Expr}{tw tc:MT}{mk mv:ME}{C:Addr}{rs:List Stmt}{p1 p2 p3 p4 p5 p6 p7 p8 p9 q1 q2 q3 q4 q5 q6 q7 q8 q9 r1 r2 r3 r4 r5 r6 r7 r8 r9 s1 s2 s3:Pos}{kt:Nat}
theorem mR{α β:Type}{m:kN α}{f:α->kN β}{r:β}(h:m.bind f=.ok r):∃a,m=.ok a/\f a=.ok r:=by cases m with|ok a=>exact⟨a,rfl,h⟩|exc x=>cases h|bad=>cases h
theorem X5{M:T}{tw tc:MT}{mk mv:ME}{ts:List T}{i:Nat}{t d1 d2:T}{st':T×T}(hstep:k8 M tw tc mk mv ts i t (d1,d2)=.ok st'):∃b rv rk key ks us,tw (jo M ts i t none)=.ok b/\tc (jo M ts i t (some (false,if b=true then d2 else d1)))=.ok false/\mv (jo M ts i t none)=.ok rv/\mk (jo M ts i t none)=.ok rk/\u6 rk.2=some key/\(if b=true then d2 else d1)=.dct ks us/\ks.length<sizeLine/\(if b=true then(d1,pC ks us key rv.2)else(pC ks us key rv.2,d2))=st':=by
 obtain⟨b2,hb,h⟩:=mR (show(tw _).bind _=_ from hstep);have h:(match tc (jo M ts i t (some (false,if b2=true then d2 else d1)))with
  |.ok false=>(mv (jo M ts i t none)).bind λv=>(mk (jo M ts i t none)).bind λk=>match u6 k.2,(if b2=true then d2 else d1)with|some key,.dct ks us=>if ks.length<sizeLine then kN.ok (if b2=true then(d1,pC ks us key v.2)else(pC ks us key v.2,d2))else .bad|_,_=>.bad
  |_=>.bad)=.ok st':=h;split at h
 ·rename_i hcc;obtain⟨rv,hmv,h⟩:=mR h;obtain⟨rk,hmk,h⟩:=mR h;split at h
  ·rename_i hkey hd;split at h;·rename_i hl;exact⟨b2,rv,rk,_,_,_,hb,hcc,hmv,hmk,hkey,hd,hl,kN.ok.inj h⟩
   ·cases h
  ·cases h
 ·cases h
theorem xD.two{K:W.Frag}{fr F:Addr->Prop}{H:Hp}{r1 r2:RV}{vs:List V}(h:xD K fr F H vs [r1,r2]):∃va vl,vs=[va,vl]:=by cases vs with|nil=>exact h.elim|cons a t=>cases t with|nil=>exact h.2.1.elim|cons b u=>cases u with|nil=>exact⟨a,b,rfl⟩|cons c x=>exact h.2.1.2.1.elim
theorem Vz{memo:List Str->Mo}{C0:Addr}{f1 f2:Str}{tw tc:MT}{mk mv:ME}{rs:List RV}(nb:xv memo C0 f1 f2 tw tc mk mv rs≠.bad):∃b ts fin,rs=[(true,.obj C0 [] []),(b,.lst ts)]/\(strsL ts).length<sizeLine/\(∀m,xi (.mem m (memo (strsL ts) m)) tw tc mk mv ts 0 ts (.dct [] [],.dct [] [])=.ok fin)/\xv memo C0 f1 f2 tw tc mk mv rs=.ok (.obj C0 [f1,f2] [fin.1,fin.2]):=by
 unfold xv at nb⊢;split at nb
 ·split at nb
  ·rename_i hC;obtain⟨rfl,hz⟩:=hC;split at nb
   ·rename_i st hst;split at nb;·rename_i hm;exact⟨_,_,st,rfl,hz,hm,by rw[if_pos ⟨rfl,hz⟩];exact if_pos hm⟩
    ·exact absurd rfl nb
   ·exact absurd rfl nb
  ·exact absurd rfl nb
 ·exact absurd rfl nb
theorem X6{K:W.Frag}{f:Str}{u:TS}{D:fk}{σ:St}{H:Hp}{a C dx:Addr}{fs:List (Str×V)}(h0:σ[0]?=some (some (.ref a)))(hi:H a=some (.ins C dx fs))(cl:lN K C)(n:jQ K C f)(hl:fs.length<1000)(k:∀p,H p=none->a≠p->u D σ (zO (zO H p (.dK [])) a (.ins C dx (vA f (.ref p) fs)))):n8 (WP K (xJ 0) eQ f) u D σ H:=λp hp=>have hap:a≠p:=zK hi hp;⟨.ref a,h0,a,C,dx,fs,rfl,by rw[zf hap];exact hi,cl,n,hl,k p hp hap⟩
section
variable{M:T}{B:Bs}{a l mm dk df dx:Addr}{ts:List T}{d1 d2 t d:T}{F:Addr->Prop}{H:Hp}{tw' tc':TT}{tk' tv':TE}{i:Nat}{y:V}{D:fk}{o2 o3 o4:Option V}{st' fin:T×T}
theorem bI(sc:kO X tc' tc)(sk:xG X tk' mk)(sv:xG X tv' mv)(P4:j3 X.K B f1 f2 C a l dk df dx ts d1 d2 F H)(pm4:Is X.K F H M (.ref mm))(iy4:Is X.K F H t y)(hcc:tc (jo M ts i t (some (false,d)))=.ok false)(hmv:mv (jo M ts i t none)=.ok rv)(hmk:mk (jo M ts i t none)=.ok rk)(hkey:u6 rk.2=some key)(ntd:¬F td)(wtd:wX X.K F H td d)(put:∀F6 H6 v,j3 X.K B f1 f2 C a l dk df dx ts d1 d2 F6 H6->Is X.K F6 H6 M (.ref mm)->Is X.K F6 H6 rv.2 v->∃kvs,H6 td=some (.dK kvs)/\kvs.length<sizeLine/\D.nx [some (.ref a),some (.ref l),some (.ref mm),some (.int i),some y,some (.ref td)] (zO H6 td (.dK (xB kvs key v)))):n8 (JN tc' nT cz) (cK (xJ 5) tk' tv') D [some (.ref a),some (.ref l),some (.ref mm),some (.int i),some y,some (.ref td)] H:=by
 have kz:kq F (λc=>F c\/c=td) H H:=⟨λ_ h=>.inl h,λ_ _ _ h=>h,λ_ _ h _ _=>h⟩;refine sc (λc=>F c\/c=td) H _ (jo M ts i t (some (false,d))) _ (qu (λc h=>?_) (P4.pl.mono kz) (pm4.mono kz) (iy4.mono kz) rfl rfl rfl rfl λr z=>?_) (by rw[hcc];intro z;cases z) (λb' eb F5 H5 x5=>?_) λx z=>by rw[hcc]at z;cases z
 ·rcases h with h|rfl;·exact P4.fr.dom c h
  ·exact wtd.there
 ·cases z;exact⟨_,rfl,wtd.is (λ_ h=>.inl h) (.inr rfl)⟩
 rw[hcc]at eb;cases eb;rw[if_neg Bool.false_ne_true];have x5':=x5.less ntd wtd.there;have P5:=P4.ext x5';have iy5:=iy4.mono x5'.kept;have pm5:=pm4.mono x5'.kept;refine sv.val (env:=jo M ts i t none) (qu P5.fr.dom P5.pl pm5 iy5 rfl rfl rfl rfl λr z=>by cases z) (by rw[hmv];intro z;cases z) (λr er v F6 H6 x6 i6=>?_) λx z=>by rw[hmv]at z;cases z
 rw[hmv]at er;cases er;have P6:=P5.ext x6;have iy6:=iy5.mono x6.kept;have pm6:=pm5.mono x6.kept;refine⟨.ref td,rfl,?_⟩;refine sk.val (env:=jo M ts i t none) (qu P6.fr.dom P6.pl pm6 iy6 rfl rfl rfl rfl λr z=>by cases z) (by rw[hmk];intro z;cases z) (λr er kv F7 H7 x7 i7=>?_) λx z=>by rw[hmk]at z;cases z
 rw[hmk]at er;cases er;obtain⟨kvs,hkv,hlen',P8⟩:=put F7 H7 v (P6.ext x7) (pm6.mono x7.kept) (i6.mono x7.kept);refine⟨td,_,rfl,?_,P8⟩;rw[X4 i7 hkey];exact ZK.k hkv hlen'
theorem X7(sw:kO X tw' tw)(sc:kO X tc' tc)(sk:xG X tk' mk)(sv:xG X tv' mv)(cl:lN X.K C)(n1:jQ X.K C f1)(n2:jQ X.K C f2)(hf:f1≠f2)(P3:j3 X.K B f1 f2 C a l dk df dx ts d1 d2 F H)(pm:Is X.K F H M (.ref mm))(iy:Is X.K F H t y)(hstep:k8 M tw tc mk mv ts i t (d1,d2)=.ok st')(nx:∀F' H' o4,j3 X.K B f1 f2 C a l dk df dx ts st'.1 st'.2 F' H'->Is X.K F' H' M (.ref mm)->D.nx [some (.ref a),some (.ref l),some (.ref mm),some (.int i),some y,o4] H'):n8 (eI (Mh tw' (t9 X.K (xJ 0) f2) (t9 X.K (xJ 0) f1)) (vd 5)) (n8 (JN tc' nT cz) (cK (xJ 5) tk' tv')) D [some (.ref a),some (.ref l),some (.ref mm),some (.int i),some y,o4] H:=by
 obtain⟨b2,rv,rk,key,ks,us,hb,hcc,hmv,hmk,hkey,hd,hlen,rfl⟩:=X5 hstep;refine sw F H _ (jo M ts i t none) _ (qu P3.fr.dom P3.pl pm iy rfl rfl rfl rfl λr z=>by cases z) (by rw[hb];intro z;cases z) (λb' eb F4 H4 x4=>?_) λx z=>by rw[hb]at z;cases z
 rw[hb]at eb;cases eb;have P4:=P3.ext x4;have iy4:=iy.mono x4.kept;have pm4:=pm.mono x4.kept;cases b2 with|true=>rw[if_pos rfl]at hd hcc nx⊢;subst hd;refine⟨.ref a,rfl,a,C,dx,_,.ref df,rfl,P4.ins,cl,n2,GJ hf,?_⟩;refine bI sc sk sv P4 pm4 iy4 hcc hmv hmk hkey P4.nf P4.w2 λF6 H6 v P6 pm6 iv=>?_;obtain⟨kvs,hkv,hks,iw⟩:=P6.w2;exact⟨kvs,hkv,by rw[<-hks,List.length_map]at hlen;exact hlen,nx F6 _ _ (P6.put2 rfl hkv hks iw iv) (pm6.mono (xr P6.nf hkv (.inr (.inl ⟨_,rfl⟩))))⟩|false=>rw[if_neg Bool.false_ne_true]at hd hcc nx⊢;subst hd;refine⟨.ref a,rfl,a,C,dx,_,.ref dk,rfl,P4.ins,cl,n1,GK,?_⟩;refine bI sc sk sv P4 pm4 iy4 hcc hmv hmk hkey P4.nk P4.w1 λF6 H6 v P6 pm6 iv=>?_;obtain⟨kvs,hkv,hks,iw⟩:=P6.w1;exact⟨kvs,hkv,by rw[<-hks,List.length_map]at hlen;exact hlen,nx F6 _ _ (P6.put1 rfl hkv hks iw iv) (pm6.mono (xr P6.nk hkv (.inr (.inl ⟨_,rfl⟩))))⟩
theorem X8(P:j3 X.K B f1 f2 C a l dk df dx ts d1 d2 F H):∃us,ZU X.K F H l us/\IsAll X.K F H ts us:=by have:=P.pl;unfold Is at this;obtain⟨a',us,e,g1,g2⟩:=this;cases e;exact⟨us,g1,g2⟩
theorem X9(sw:kO X tw' tw)(sc:kO X tc' tc)(sk:xG X tk' mk)(sv:xG X tv' mv)(cl:lN X.K C)(n1:jQ X.K C f1)(n2:jQ X.K C f2)(hf:f1≠f2)(P0:j3 X.K B f1 f2 C a l dk df dx ts (.dct [] []) (.dct [] []) F H)(pm0:Is X.K F H M (.ref mm))(hfin:xi M tw tc mk mv ts 0 ts (.dct [] [],.dct [] [])=.ok fin)(nx:∀F' H' σ,j3 X.K B f1 f2 C a l dk df dx ts fin.1 fin.2 F' H'->D.nx σ H'):QV (YX X.K (xJ 1)) (QQ X.K 2 (cB (vd 3) (cB (vd 4) QP))) (n8 (eI (Mh tw' (t9 X.K (xJ 0) f2) (t9 X.K (xJ 0) f1)) (vd 5)) (n8 (JN tc' nT cz) (cK (xJ 5) tk' tv'))) D [some (.ref a),some (.ref l),some (.ref mm),none,none,none] H:=by
 obtain⟨us0,hus0,_⟩:=X8 P0;refine⟨.ref l,rfl,l,rfl,⟨us0,hus0.sq⟩,?_⟩;refine⟨λi m σ H=>m=ts.length-i/\i<=ts.length/\∃F d1 d2 o2 o3 o4,σ=[some (.ref a),some (.ref l),some (.ref mm),o2,o3,o4]/\j3 X.K B f1 f2 C a l dk df dx ts d1 d2 F H/\Is X.K F H M (.ref mm)/\xi M tw tc mk mv ts i (ts.drop i) (d1,d2)=.ok fin,⟨ts.length,by simp,Nat.zero_le _,F,_,_,none,none,none,rfl,P0,pm0,by simpa using hfin⟩,?_⟩;rintro i m σ H2⟨rfl,hi,F2,d1,d2,o2,o3,o4,rfl,P2,pm2,hrun⟩;obtain⟨us,hus,ius⟩:=X8 P2;by_cases hlt:i<ts.length;·refine .inr ⟨⟨us,us[i]'(by rw[<-ius.len];exact hlt),hus.sq,by simp⟩,λσ H=>∃F d1 d2 o2 o3 o4,σ=[some (.ref a),some (.ref l),some (.ref mm),o2,o3,o4]/\j3 X.K B f1 f2 C a l dk df dx ts d1 d2 F H/\Is X.K F H M (.ref mm)/\xi M tw tc mk mv ts (i+1) (ts.drop (i+1)) (d1,d2)=.ok fin,λσ' H' n=>⟨ts.length-(i+1),by omega,rfl,hlt,n⟩,?_⟩;rintro x H3⟨tu,y,htu,rfl,rfl,hy⟩;have hyi:=hy us hus.sq;obtain⟨y',hy',iy0⟩:=ius.get (i:=i) (t:=ts[i]) (by simp[hlt]);rw[hyi]at hy';cases hy';have xa:jA F2 H2 F2 (zO H2 tu (.tup [.int i,y])):=jA.alloc P2.fr.dom htu;refine⟨tu,[.int i,y],rfl,.inl (.inl zm),rfl,.int i,[y],rfl,y,[],rfl,rfl,?_⟩;have hdr:ts.drop i=ts[i]::ts.drop (i+1):=List.drop_eq_getElem_cons hlt;rw[hdr,xi]at hrun;cases hstep:k8 M tw tc mk mv ts i ts[i] (d1,d2)with|bad=>rw[hstep]at hrun;cases hrun|exc x=>rw[hstep]at hrun;cases hrun|ok st'=>rw[hstep,bind_ok]at hrun;exact X7 sw sc sk sv cl n1 n2 hf (P2.ext xa) (pm2.mono xa.kept) (iy0.mono xa.kept) hstep λF' H' o4 P pm=>⟨F',st'.1,st'.2,_,_,_,rfl,P,pm,hrun⟩
 ·have hli:i=ts.length:=by omega
  subst hli;rw[List.drop_length,xi]at hrun;have hfin2:(d1,d2)=fin:=by injection hrun
  subst hfin2;exact .inl ⟨⟨us,hus.sq,by rw[ius.len];exact Nat.le_refl _⟩,nx F2 H2 _ P2⟩
end
def tZ(memo:List Str->Mo):TE:=λ_ H Q=>∃ks:List Str,ks.length<sizeLine/\∀p,H p=none->Q (.ref p) (zO H p (.ext (memo ks p)))
theorem Jh{memo:List Str->Mo}{tw' tc':TT}{tk' tv':TE}{b:Bool}{ts:List T}{fin:T×T}{F:Addr->Prop}{H:Hp}{va vl:V}{Q:VK}(sw:kO X tw' tw)(sc:kO X tc' tc)(sk:xG X tk' mk)(sv:xG X tv' mv)(cl:lN X.K C)(n1:jQ X.K C f1)(n2:jQ X.K C f2)(hf:f1≠f2)(hN:X.N=[("self":Str),("pieces":Str),("looked":Str),("at":Str),("piece":Str),("told":Str)])(dm:lJ F H)(ir:xD X.K (λ_=>True) F H [va,vl] [(true,.obj C [] []),(b,.lst ts)])(hz:(strsL ts).length<sizeLine)(hfin:∀m,xi (.mem m (memo (strsL ts) m)) tw tc mk mv ts 0 ts (.dct [] [],.dct [] [])=.ok fin)(ok:∀a F' H',[va,vl][0]?=some (.ref a)->nj ⟨mI [va,vl] [(true,.obj C [] []),(b,.lst ts)],H,F⟩ F' H'->¬F' a->wX X.K F' H' a (.obj C [f1,f2] [fin.1,fin.2])->Q .non H'):n8 (WP X.K (xJ 0) eQ f1) (n8 (WP X.K (xJ 0) eQ f2) (n8 (eI (tZ memo) (vd 2)) (QV (YX X.K (xJ 1)) (QQ X.K 2 (cB (vd 3) (cB (vd 4) QP))) (n8 (eI (Mh tw' (t9 X.K (xJ 0) f2) (t9 X.K (xJ 0) f1)) (vd 5)) (n8 (JN tc' nT cz) (cK (xJ 5) tk' tv')))))) {nx:=λ_ H'=>Q .non H',rt:=Q} (start X.N [va,vl]) H:=by
 have ir0:=ir;obtain⟨ia,⟨il,_,_⟩,sep⟩:=ir;obtain⟨a,rfl,nFa,_,hHa,wa⟩:=ia.there rfl;obtain⟨dx,fvs,hins,hk0,_⟩:=wa;have hfv:fvs=[]:=by simpa using hk0
 subst hfv--the list,frozen
 have hfz:∃F0:Addr->Prop,∃l,vl=.ref l/\(∀c,F c->F0 c)/\(∀c,F0 c->F c\/(c=l/\b=true/\H c≠none))/\¬F0 a/\Is X.K F0 H (.lst ts) (.ref l):=by cases b with|false=>have il:=il.is;obtain⟨l,us,e,_⟩:=(show∃a vs,vl=.ref a/\_ by unfold Is at il;exact il);subst e;exact⟨F,l,rfl,λ_ h=>h,λ_ h=>.inl h,nFa,il⟩|true=>
   obtain⟨l,rfl,nFl,_,hHl,wl⟩:=il.there rfl;refine⟨λc=>F c\/c=l,l,rfl,λ_ h=>.inl h,λc h=>?_,λz=>?_,wl.is (λ_ h=>.inl h) (.inr rfl)⟩
   ·rcases h with h|rfl;·exact .inl h
    ·exact .inr ⟨rfl,rfl,hHl⟩
   ·rcases z with z|rfl;·exact nFa z
    ·exact sep rfl 0 (true,.lst ts) rfl rfl rfl
 obtain⟨F0,l,rfl,sub0,new0,nF0a,il0⟩:=hfz;have dm0:lJ F0 H:=λc h=>by
  rcases new0 c h with h|h;·exact dm c h
  ·exact h.2.2
 generalize hB:(⟨mI [V.ref a,V.ref l] [(true,T.obj C [] []),(b,T.lst ts)],H,F⟩:Bs)=B at ok;have fr0:nj B F0 H:=by
  subst hB;refine⟨dm0,λc h=>sub0 c h,λc h=>?_,λc o h _=>h,λc f z=>?_⟩
  ·rcases new0 c h with h|⟨rfl,hb,_⟩;·exact .inl h
   ·exact .inr (.inr ⟨1,(b,T.lst ts),rfl,hb,rfl⟩)
  ·exact(xQ ir0 z).1 f
 have bH:B.H=H:=by rw[<-hB]
 have hMa:B.M a:=by rw[<-hB];exact⟨0,(true,T.obj C [] []),rfl,rfl,rfl⟩
 have hst:start X.N [V.ref a,V.ref l]=[some (.ref a),some (.ref l),none,none,none,none]:=by rw[hN];rfl
 rw[hst];refine X6 rfl hins cl n1 ↑f λdk hdk hak=>?_;refine X6 rfl zm cl n2 (by simp[vA]) λdf hdf hadf=>?_;have hkf:dk≠df:=by rintro rfl;rw[zf (Ne.symm hak),zm]at hdf;cases hdf
 have hdf0:H df=none:=by rw[zf (Ne.symm hadf),zf (Ne.symm hkf)]at hdf;exact hdf--the loop
 have P0:j3 X.K B f1 f2 C a l dk df dx ts (.dct [] []) (.dct [] []) F0 (zO (zO (zO (zO H dk (.dK [])) a (.ins C dx (vA f1 (.ref dk) []))) df (.dK [])) a (.ins C dx (vA f2 (.ref df) (vA f1 (.ref dk) [])))):=by
  have nk:¬F0 dk:=λz=>dm0 dk z hdk;have nf:¬F0 df:=λz=>dm0 df z hdf0;have kp:kq F0 F0 H (zO (zO (zO (zO H dk (.dK [])) a (.ins C dx (vA f1 (.ref dk) []))) df (.dK [])) a (.ins C dx (vA f2 (.ref df) (vA f1 (.ref dk) [])))):=by
   refine⟨λ_ h=>h,λc o f h=>?_,λc o h h1 h2=>?_⟩
   ·have n1:c≠a:=by rintro rfl;exact nF0a f
    have n2:c≠dk:=by rintro rfl;exact nk f
    have n3:c≠df:=by rintro rfl;exact nf f
    rw[zf n1,zf n3,zf n1,zf n2];exact h
   ·have n1:c≠a:=by rintro rfl;rw[hins]at h;cases h;exact h2.2 _ _ _ rfl
    rw[zf n1,zf (zK h hdf0),zf n1,zf (zK h hdk)];exact h
  refine⟨⟨λc f=>?_,fr0.sub,fr0.new,λc o h hm=>?_,fr0.f0⟩,nF0a,nk,nf,hkf,?_,by rw[bH];exact hdk,by rw[bH];exact hdf0,⟨[],?_,rfl,IsAll.nil⟩,⟨[],?_,rfl,IsAll.nil⟩,⟨_,_,rfl⟩,⟨_,_,rfl⟩,il0.mono kp⟩;·cases hc0:H c with|none=>exact absurd hc0 (dm0 c f)|some o=>rw[kp.fz c o f hc0];intro z;cases z
  ·rw[bH]at h;have n1:c≠a:=by rintro rfl;exact hm hMa
   rw[zf n1,zf (zK h hdf0),zf n1,zf (zK h hdk)];exact h
  ·rw[zm];simp[vA,hf]
  ·rw[zf (Ne.symm hak),zf hkf,zf (Ne.symm hak),zm]
  ·rw[zf (Ne.symm hadf),zm]
 refine⟨strsL ts,hz,λmm hmm=>?_⟩;refine X9 sw sc sk sv cl n1 n2 hf (P0.ext (jA.alloc P0.fr.dom hmm)) (by unfold Is;exact⟨rfl,zm⟩) (hfin mm) λF2 H2 σ P2=>?_;refine ok a (λc=>(F2 c\/c=dk)\/c=df) H2 rfl ⟨λc h=>?_,λc h=>.inl (.inl (P2.fr.sub c h)),λc h=>?_,P2.fr.keep,P2.fr.f0⟩ (λz=>?_) ⟨dx,_,P2.ins,rfl,IsAll.cons (P2.w1.is (λc h=>.inl (.inl h)) (.inl (.inr rfl))) (IsAll.cons (P2.w2.is (λc h=>.inl (.inl h)) (.inr rfl)) IsAll.nil)⟩
 ·rcases h with(h|rfl)|rfl;·exact P2.fr.dom c h
  ·exact P2.w1.there
  ·exact P2.w2.there
 ·rcases h with(h|rfl)|rfl;·exact P2.fr.new c h
  ·exact .inr (.inl P2.bk)
  ·exact .inr (.inl P2.bf)
 ·rcases z with(z|rfl)|rfl;·exact P2.nA z
  ·obtain⟨ks,us,e⟩:=P2.s1;have w:=P2.w1;rw[e]at w;obtain⟨kvs,hw,_⟩:=w;rw[P2.ins]at hw;cases hw
  ·obtain⟨ks,us,e⟩:=P2.s2;have w:=P2.w2;rw[e]at w;obtain⟨kvs,hw,_⟩:=w;rw[P2.ins]at hw;cases hw
theorem Ji(nd:X.N.Nodup)(hN:X.N=[("self":Str),("pieces":Str),("looked":Str),("at":Str),("piece":Str),("told":Str)])(hc:X.calm=true)(hu:X.A.units+1<cLine)(hp:PassesOwn ↑a X.A X.env X.xe)(cl:lN X.K C)(n1:jQ X.K C f1)(n2:jQ X.K C f2)(hf:f1≠f2)(hg:Gl X "enumerate")(hm:X.mg "enumerate"=none)(v0:aK X.env.scope "self")(v1:aK X.env.scope "pieces")(v4:aK X.env.scope "told")(lm:ii X.env.scope "looked")(l2:ii X.env.scope "at")(l3:ii X.env.scope "piece")(l4:ii X.env.scope "told")(fnm:X.fn "looked"=true\/X.env.scope.names.lookup ("looked":Str)=some NameKind.local)(fn2:X.fn "at"=true\/X.env.scope.names.lookup ("at":Str)=some NameKind.local)(fn3:X.fn "piece"=true\/X.env.scope.names.lookup ("piece":Str)=some NameKind.local)(fn4:X.fn "told"=true\/X.env.scope.names.lookup ("told":Str)=some NameKind.local)(hmo:∀p:Pos,PE X (.Dict [] [] p) (tZ memo))(hw:cQ X cw tw)(hcc:cQ X cc tc)(hk:j9 X ek mk)(hv:j9 X ev mv)(hs1:swapsWith (.Dict [] [] p1) (some (.Attribute (.Name "self" p2) f1 p3)) p4.line X.env=pure false:=by rfl)(hs2:swapsWith (.Dict [] [] q1) (some (.Attribute (.Name "self" q2) f2 q3)) q4.line X.env=pure false:=by rfl)(hb1:attributeBase (.Name "self" r1) f2 X.env (eval (.Name "self" r1) X.env)=eval (.Name "self" r1) X.env:=by rfl)(hb2:attributeBase (.Name "self" r3) f1 X.env (eval (.Name "self" r3) X.env)=eval (.Name "self" r3) X.env:=by rfl)(hs3:swapsWith (.IfExp cw (.Attribute (.Name "self" r1) f2 r2) (.Attribute (.Name "self" r3) f1 r4) r5) (some (.Name "told" r6)) r7.line X.env=pure false:=by rfl)(hs4:swapsWith ev (some (.Subscript (.Name "told" p7) ek p8)) p9.line X.env=pure false:=by rfl)(hsm:swapsWith (.Dict [] [] s1) (some (.Name "looked" s2)) s3.line X.env=pure false:=by rfl)(hst:starEach [.Name "pieces" q5] X.env=[(false,eval (.Name "pieces" q5) X.env)]:=by rfl)(ha:(assignEach [.Name "at" q7,.Name "piece" q8] X.env).map (·.2)=assign (.Name "at" q7) X.env::(assignEach [.Name "piece" q8] X.env).map (·.2):=by rfl)(ha2:(assignEach [.Name "piece" q8] X.env).map (·.2)=assign (.Name "piece" q8) X.env::(assignEach [] X.env).map (·.2):=by rfl)(ha3:(assignEach [.Name "at" q7,.Name "piece" q8] X.env).length=2:=by rfl)(ha4:(assignEach [.Name "at" q7,.Name "piece" q8] X.env).findIdx? (·.1)=none:=by rfl)(hfs:∀x,foldedSetIterable (.Call (.Name "enumerate" q6) [.Name "pieces" q5] [] q9) X.env x=pure x:=by intro _;rfl):∃t,cu X [.Assign [.Attribute (.Name "self" p2) f1 p3] (.Dict [] [] p1) p4,.Assign [.Attribute (.Name "self" q2) f2 q3] (.Dict [] [] q1) q4,.Assign [.Name "looked" s2] (.Dict [] [] s1) s3,.For (.Tuple [.Name "at" q7,.Name "piece" q8] kt p5) (.Call (.Name "enumerate" q6) [.Name "pieces" q5] [] q9) [.Assign [.Name "told" r6] (.IfExp cw (.Attribute (.Name "self" r1) f2 r2) (.Attribute (.Name "self" r3) f1 r4) r5) r7,.If cc rs [] r8,.Assign [.Subscript (.Name "told" p7) ek p8] ev p9] [] p6] t/\∀vs H Q E,rL X.K (xv memo C f1 f2 tw tc mk mv) vs H Q E->t {nx:=λ_ H'=>Q .non H',rt:=Q} (start X.N vs) H:=by obtain⟨tw',pw,sw⟩:=hw;obtain⟨tc',pc,sc⟩:=hcc;obtain⟨tk',pk,sk⟩:=hk;obtain⟨tv',pv',sv⟩:=hv;have pself:∀{p:Pos},PE X (.Name "self" p) (xJ 0):=λ{p}=>k9 (by rw[hN];rfl) v0;have ppieces:∀{p:Pos},PE X (.Name "pieces" p) (xJ 1):=λ{p}=>k9 (by rw[hN];rfl) v1;have ptold:∀{p:Pos},PE X (.Name "told" p) (xJ 5):=λ{p}=>k9 (by rw[hN];rfl) v4;refine⟨_,vc (JY pself cL hs1) (vc (JY pself cL hs2) (vc (aQ (i:=2) nd (by rw[hN];rfl) lm (hmo _) hsm fnm) (qg (aU hp hc (rK hg hm ppieces hst) (JP hc (nU (qh (i:=3) nd (by rw[hN];rfl) l2 fn2) (nU (qh (i:=4) nd (by rw[hN];rfl) l3 fn3) oS ha2) ha) ha3 ha4) (vc (aQ (i:=5) nd (by rw[hN];rfl) l4 (cy pw (tf pself hb1) (tf pself hb2)) hs3 fn4) (vc (JO pc Zz eF) (qg (rm hu ptold pk pv' hs4)))) hfs)))),?_⟩;intro vs H Q E h;obtain⟨F,args,dm,ir,nb,ok,hexc⟩:=h;obtain⟨b,ts,fin,rfl,hz,hfin,hok⟩:=Vz nb;obtain⟨va,vl,rfl⟩:=xD.two ir;exact Jh sw sc sk sv cl n1 n2 hf hN dm ir hz hfin (ok _ hok)
end
section
variable{P:Program}{w:World}{K:W.Frag}{mg:Str->Option Value}{base:Heap}
theorem bG.ok{C:Addr}{x qual:Str}{st:Stmt}{N ps:List Str}{k:Nat}{g:MN}(F:∃f fd,eS K "__init__" qual st f fd/\Mk K C f)(hx:mg x=some ↑Q)(S:zg N ps (zb st))(hl:∀rs,g rs≠.bad->rs.length=ps.length)(hb:∀(kV doc pm:Value)(an:Option Addr)(cdv ct:Value)(us:List Value),us.length=ps.length->bindArgs (W.fnOf "__init__" qual (jS st) (j6 st) (zb st) .none kV doc pm an cdv ct) ⟨us,[]⟩=pure (ps.zip us))(hbody:∀(f:Addr)(cdv:Value)(A:Around)(outer:List Env)(s:Shared)(H:Hp)(E:XK),jN k (A.deeper (envOfC qual (zb st) s.heap.objs.size f cdv))->∃t,cu (n9 (nr P w) P w K mg base N qual (zb st) f cdv A outer s H E) (j6 st) t/\∀vs H Q E,rL K g vs H Q E->t {nx:=λ_ H'=>Q .non H',rt:=Q} (start N vs) H):bG P w K mg base (k+1) C x ps g:=by
 obtain⟨f,fd,F,hm⟩:=F;refine⟨f,fd,?_,hm,hx,F.binds hb⟩;obtain⟨oc,od,kV,doc,pm,an,cdv,ct,osl,rfl,lk,hcd⟩:=F.ex;refine iC lk hcd S (λvs H Q E h=>?_) λA outer s H vs Q E hr hsp=>?_;·obtain⟨F,rs,d,ir,nb,_⟩:=h;rw[ir.len];exact hl rs nb
 ·obtain⟨t,p,h⟩:=hbody f cdv A outer s H E hr;exact⟨t,p,h vs H Q E hsp⟩
end
def dh{memo:List Str->Mo}{C:Addr}{f1 f2:Str}{tw tc:MT}{mk mv:ME}{ps:List Str}(h:ps.length=2):∀rs,xv memo C f1 f2 tw tc mk mv rs≠.bad->rs.length=ps.length:=by
 intro rs nb;unfold xv at nb;split at nb;·rw[h];rfl
 ·exact absurd rfl nb
def Qb(d k:T):Option RV:=match d with|.dct ks ts=>(u6 k).map λk=>(false,(qP ks ts k).getD .non)|_=>none
def mS(md mk:ME):ME:=λenv=>(md env).bind λd=>match d.2 with|.dct _ _=>(mk env).bind λk=>aL (Qb d.2 k.2)|_=>.bad
def Xa(hu:X.A.units+1<cLine)(ho:j9 X o md)(he:j9 X e mk)(m:M1 X o "get" apos e cpos:=by exact⟨rfl,rfl,rfl,rfl⟩):j9 X (.Call (.Attribute o "get" apos) [e] [] cpos) (mS md mk):=by
 obtain⟨td,pd,sd⟩:=ho;obtain⟨tk,pk,sk⟩:=he;refine⟨_,Y8 hu pd pk m,?_⟩;intro F H σ env Q R nb ok ex;unfold mS at nb ok ex;refine sd.val R ↑b (λr1 e1 v1 F1 H1 x1 i1=>?_) λx z=>ex x ↑v;rw[e1,bind_ok]at nb ok ex;obtain⟨b,d⟩:=r1;dsimp only at nb ok ex i1;cases d<;>dsimp only at nb ok ex<;>try(exact absurd rfl nb)
 case dct ks ts=>have i1':=i1;unfold Is at i1';obtain⟨a,kvs,rfl,fa,hH,hks,ia⟩:=i1';refine⟨a,rfl,.inl ⟨kvs,hH⟩,?_⟩;refine sk.val (R.mono x1) ↑b (λr2 e2 v2 F2 H2 x2 i2=>?_) λx z=>(ex x ↑v).mono x1;rw[e2,bind_ok]at nb ok;unfold Qb at nb ok;dsimp only at nb ok;cases hk:u6 r2.2 with|none=>rw[hk]at nb;exact absurd rfl nb|some key=>rw[hk]at ok;have i1'':=i1.mono x2.kept;unfold Is at i1'';obtain⟨a',kvs',e',_,hH',hks',ia'⟩:=i1'';cases e';have hv:=X4 i2 hk;subst hv;have⟨g1,g2⟩:=pj key hks' ia';refine⟨_,.inl ⟨kvs',key,hH',rfl,rfl⟩,ok _ rfl _ F2 H2 (x1.trans x2) (jc ?_)⟩;cases hd:qP ks ts key with|none=>rw[g2 hd];exact Yu|some t=>obtain⟨v,hv,iv⟩:=g1 t hd;rw[hv];exact iv
def v3(g:Str->Bool)(ks:List Str)(kvs:List (Key×V)):Prop:=ks.length<sizeLine/\(kvs.map (·.1)).Nodup/\∀p∈kvs,∃x,x∈ks/\p=(Sum.inr x,V.bl (g x))
def memoP(P:Program)(w:World)(g:Str->Bool)(ks:List Str):Mo:=λa h=>∃kvs,v3 g ks kvs/\jg P w (λ_=>none) h a (.dK kvs)
def Xb[DecidableEq α]:∀{l m:List α},l.Nodup->(∀x∈l,x∈m)->l.length<=m.length|[],m,_,_=>Nat.zero_le _|a::l,m,nd,h=>by have nd:=List.nodup_cons.mp nd;have ha:=h a List.mem_cons_self;have hl:=Xb nd.2 λx hx=>(List.mem_erase_of_ne (by rintro rfl;exact nd.1 hx)).mpr (h x (List.mem_cons_of_mem _ hx));rw[List.length_erase_of_mem ha]at hl;have:=List.length_pos_of_mem ha;rw[List.length_cons];omega
def v3.len(m:v3 g ks kvs):kvs.length<sizeLine:=by
 have:=Xb m.2.1 λy hy=>by obtain⟨p,hp,rfl⟩:=List.mem_map.mp hy;obtain⟨x,hx,rfl⟩:=m.2.2 p hp;exact List.mem_map.mpr ⟨x,hx,rfl⟩
 rw[List.length_map,List.length_map]at this;exact Nat.lt_of_le_of_lt this m.1
def v3.val(m:v3 g ks kvs)(h:ju kvs (.inr x)=some v):v=.bl (g x):=by unfold ju at h;obtain⟨p,hp,rfl⟩:=Option.map_eq_some_iff.mp h;have h2:=List.find?_some hp;obtain⟨y,hy,rfl⟩:=m.2.2 p (List.mem_of_find?_eq_some hp);have h2:(Sum.inr y:Key)=.inr x:=of_decide_eq_true h2;cases h2;rfl
def v3.put(m:v3 g ks kvs)(hx:x∈ks)(h:ju kvs (.inr x)=none):v3 g ks (xB kvs (.inr x) (.bl (g x))):=by
 rw[Y5 _ h];refine⟨m.1,?_,λp hp=>?_⟩
 ·rw[List.map_append];refine List.nodup_append.mpr ⟨m.2.1,by simp,λy hy z hz=>?_⟩;have:z=.inr x:=by simpa using hz
  rw[this];intro e;exact Ya h (e▸hy)
 ·rcases List.mem_append.mp hp with hp|hp;·exact m.2.2 p hp
  ·exact⟨x,hx,by simpa using hp⟩
def bJ(m:v3 g ks kvs)(o:jg P w (λ_=>none) h a (.dK kvs))(H':Hp):jg P w H' h a (.ext (memoP P w g ks a)):=by
 refine⟨⟨kvs,m,o⟩,?_,λh1 h2⟨kvs,m,o⟩k=>⟨kvs,m,o.stay (λb u hb q=>?_) (λ_ z=>by cases z) λ_ _ z=>by cases z⟩⟩;·obtain⟨_,_,_,_,ob,_,_,e,_⟩:=o;exact⟨ob,e⟩
 ·rcases hb with rfl|hb;·exact k u q
  ·cases hb
def bK(ok:gx P w H h)(e:H a=some o)(h1:∀b,o≠.own b)(h2:∀xs,o≠.tup xs)(new:∀H',jg P w H' h a u):gx P w (zO H a u) h:=λb q hq=>by
 by_cases hb:b=a;·subst hb;rw[zm]at hq;cases hq;exact new _
 ·rw[zf hb]at hq;refine(ok b q hq).stay (λ_ _ _ z=>z) (λc z=>?_) λc xs z=>?_;·rw[zf (by rintro rfl;rw[e]at z;cases z;exact h1 _ rfl)];exact z
  ·rw[zf (by rintro rfl;rw[e]at z;cases z;exact h2 _ rfl)];exact z
def xZ.memo{K:W.Frag}{mg:Str->Option Value}{base:Heap}{k:Nat}{f:Addr}{fd:FuncData}{ps:List Str}{spO sp:Sp}(F:xZ P w K mg base (nr P w) k f fd ps spO)(len:∀vs H Q E,sp vs H Q E->vs.length=ps.length)(hs:∀vs H Q E,sp vs H Q E->∃a ks,H a=some (.ext (memoP P w g ks a))/\∀kvs,v3 g ks kvs->spO vs (zO H a (.dK kvs)) (λv H'=>∃kvs',v3 g ks kvs'/\H' a=some (.dK kvs')/\Q v (zO H' a (.ext (memoP P w g ks a)))) (λ_ _ _=>False)):xZ P w K mg base (nr P w) k f fd ps sp:=by
 refine⟨len,λA outer s H args us vs Q E hr e0 hb hv h=>?_⟩;obtain⟨a,ks,ha,hk⟩:=hs vs H Q E h;obtain⟨⟨kvs,m,ok⟩,_,_⟩:=(show jg P w H s.heap a (.ext (memoP P w g ks a))from e0.hok a _ ha);have nn:∀b,H b=none->b≠a:=λb n z=>by rw[z,ha]at n;cases n
 have up:∀b,H b=none->zO H a (.dK kvs) b=none:=λb n=>by rw[zf (nn b n)];exact n
 have e1:cD P w K mg base A outer s (zO H a (.dK kvs)):=⟨e0.frames,e0.mod,λb o q=>⟨(e0.bs b o q).1,up b (e0.bs b o q).2⟩,e0.bsz,e0.funs,λb q=>up b (e0.frf b q),(by rw[zf (nR e0.tab ha (by intro z;cases z))];exact e0.tab),bK e0.hok ha (λ_ z=>by cases z) (λ_ z=>by cases z) (λ_=>ok),e0.bare⟩;refine codeAny_mono (F.run A outer s _ args us vs _ _ hr e1 hb hv (hk kvs m)) λr s' hq=>?_;cases r with|error e=>obtain⟨_,_,_,_,_,_,_,z⟩:=hq;exact z.elim|ok fl=>cases fl with|next=>exact False.elim hq|brk=>exact False.elim hq|cont=>exact False.elim hq|ret u=>
   obtain⟨v,H',os,br,un,hok,rv,kvs',m',h',q⟩:=hq;refine⟨v,_,os,br,⟨λb o q n hc hx=>un.keep b o q (up b n) hc hx,λb o q n hc hx=>un.slot b o q (up b n) hc hx,λb o q n hx=>?_,un.there,λb xs q=>?_,λb o u q=>?_,λb xs q=>?_⟩,bK hok h' (λ_ z=>by cases z) (λ_ z=>by cases z) (bJ m' (hok a _ h')),rv,q⟩;·rw[zf (nn b n)];exact un.free b o q (up b n) hx
   ·have hb:=nR q ha (by intro z;cases z);rw[zf hb];exact un.tups b xs (by rw[zf hb];exact q)
   ·have hb:=nR q ha (by intro z;cases z);rw[zf hb];exact un.frzs b o u (by rw[zf hb];exact q)
   ·have hb:=nR q ha (by intro z;cases z);rw[zf hb];exact un.tbls b xs (by rw[zf hb];exact q)
def Xc(hm:memo=memoP X.prog X.w g)(pos:Pos):PE X (.Dict [] [] pos) (tZ memo):=λpins s σ H Q I h=>by subst hm;obtain⟨ks,hl,h⟩:=h;exact wpAny_Dict_empty ⟨.ref s.heap.objs.size,_,I.laid (λ_ _ q=>Heap.get?_push_of_some _ q) ↑h (bJ (kvs:=[]) ⟨hl,List.nodup_nil,λp hp=>nomatch hp⟩ (m4 s.heap I.big) _),rfl,h _ (I.hok.fresh ↑h)⟩
open Classical in def iV(memo:List Str->Mo)(f:MF):MF:=λrs=>match rs with|[(_,.mem m o),(_,.str x)]=>if∃ks,o=memo ks m/\x∈ks then(match f [(false,.str x)]with|.ok (false,.bl b)=>.ok (false,.bl b)|_=>.bad)else .bad|_=>.bad
def gOf(f:MF)(x:Str):Bool:=match f [(false,.str x)]with|.ok (_,.bl b)=>b|_=>false
def bL(nb:iV memo f rs≠.bad):∃b1 b2 m ks x b,rs=[(b1,.mem m (memo ks m)),(b2,.str x)]/\x∈ks/\f [(false,.str x)]=.ok (false,.bl b)/\iV memo f rs=.ok (false,.bl b):=by
 unfold iV at nb⊢;split at nb
 ·split at nb
  ·rename_i hc;obtain⟨ks,rfl,hx⟩:=hc;split at nb;·rename_i b hb;exact⟨_,_,_,ks,_,b,rfl,hx,hb,by rw[if_pos ⟨ks,rfl,hx⟩]⟩
   ·exact absurd rfl nb
  ·exact absurd rfl nb
 ·exact absurd rfl nb
def Lu(g:Str->Bool)(f:MF):Sp:=λvs H Q _=>∃a x kvs ks,vs=[.ref a,.str x]/\H a=some (.dK kvs)/\v3 g ks kvs/\x∈ks/\f [(false,.str x)]=.ok (false,.bl (g x))/\∀H' kvs',v3 g ks kvs'->H' a=some (.dK kvs')->(∀c o,c≠a->H c=some o->H' c=some o)->Q (.bl (g x)) H'
def Jj(C:j7 X.prog X.w X.K X.mg X.base k "is_kind" ["text"] f)(hr:jN k X.A)(hu:X.A.units+1<cLine)(hN:X.N=[("looked":Str),("text":Str)])(hg:Gl X "is_kind")(v0:aK X.env.scope "looked")(v1:aK X.env.scope "text")(hbm:behindInMarks .NotIn (.Name "looked" p2)=false:=by first|rfl|with_unfolding_all rfl)(hsw:swapsWith (.Call (.Name "is_kind" p7) [.Name "text" p8] [] p9) (some (.Subscript (.Name "looked" p4) (.Name "text" p5) p6)) p10.line X.env=pure false:=by rfl)(he:starEach [.Name "text" p8] X.env=(false,eval (.Name "text" p8) X.env)::starEach [] X.env:=by rfl)(hpl:(backTo p9 (starEach [] X.env)).any (·.1)=false:=by rfl)(hns:Y6 (.Name "text" p13):=by first|rfl|exact(λ_ _=>rfl)):∃t,cu X [.If (.Compare (.Name "text" p1) [.NotIn] [.Name "looked" p2] p3) [.Assign [.Subscript (.Name "looked" p4) (.Name "text" p5) p6] (.Call (.Name "is_kind" p7) [.Name "text" p8] [] p9) p10] [] p11,.Return (some (.Subscript (.Name "looked" p12) (.Name "text" p13) p14)) p15] t/\∀vs H Q E,Lu g f vs H Q E->t {nx:=λ_ H'=>Q .non H',rt:=Q} (start X.N vs) H:=by obtain⟨fa,fd,F,hm,hk,hb⟩:=C;have pl:∀{p:Pos},PE X (.Name "looked" p) (xJ 0):=λ{p}=>k9 (by rw[hN];rfl) v0;have pt:∀{p:Pos},PE X (.Name "text" p) (xJ 1):=λ{p}=>k9 (by rw[hN];rfl) v1;refine⟨_,vc (JO (QH (ZM hu pt pl) hbm) (qg (rm hu pl pt (bh F hr hg hm hk hb (jR pt w8 he)) hsw)) eF) (qg (eG (WZ hu pl pt hns))),?_⟩;rintro vs H Q E⟨a,x,kvs,ks,rfl,ha,m,hx,hf,q⟩;rw[show start X.N [.ref a,.str x]=[some (.ref a),some (.str x)]from by rw[hN];rfl];refine⟨.str x,rfl,.ref a,rfl,a,ju kvs (.inr x),rfl,gJ.k (k:=.inr x) ha,?_⟩;cases hv:ju kvs (.inr x)with|some v=>refine⟨_,rfl,?_⟩;refine⟨.ref a,rfl,.str x,rfl,a,v,rfl,hv▸gJ.k (k:=.inr x) ha,?_⟩;rw[m.val hv];exact q H kvs m ha λc o _ h=>h|none=>
  refine⟨_,rfl,?_⟩;refine⟨.str x,rfl,λ_ _ _=>False,⟨λ_=>False,[(false,.str x)],λ_ h=>h.elim,⟨jc qV,trivial,λz=>by cases z⟩,(by rw[hf];intro z;cases z),λr er v F' H1 rr=>?_,λx ex=>by rw[hf]at ex;cases ex⟩,λ_ _ _ z=>z.elim⟩;rw[hf]at er;cases er;have hvv:=rr.val.is;unfold Is at hvv;subst hvv;have kp:∀c o,H c=some o->H1 c=some o:=λc o h=>rr.fr.keep c o h λ⟨i,r,e,ho,_⟩=>by cases i with|zero=>simp at e;subst e;cases ho|succ i=>simp at e
  refine⟨.ref a,rfl,.str x,rfl,a,_,rfl,ZK.k (k:=.inr x) (kp _ _ ha) m.len,?_⟩;have hd:=gJ.k (k:=.inr x) (zm (H:=H1) (a:=a) (o:=.dK (xB kvs (.inr x) (.bl (g x)))));rw[Y4,if_pos rfl]at hd;exact⟨.ref a,rfl,.str x,rfl,a,_,rfl,hd,q _ _ (m.put hx hv) zm λc o hc h=>by rw[zf hc];exact kp c o h⟩
section
variable{P:Program}{w:World}{K:W.Frag}{mg:Str->Option Value}{base:Heap}
theorem VA{memo:List Str->Mo}{f:MF}{x:Str}{st:Stmt}{N ps:List Str}{k:Nat}(hm:memo=memoP P w (gOf f))(hps:ps.length=2)(F:zM K mg x st)(S:zg N ps (zb st))(hb:∀(kV doc pm:Value)(an:Option Addr)(cdv ct:Value)(us:List Value),us.length=ps.length->bindArgs (W.fnOf x x (jS st) (j6 st) (zb st) .none kV doc pm an cdv ct) ⟨us,[]⟩=pure (ps.zip us))(hbody:∀(fa:Addr)(cdv:Value)(A:Around)(outer:List Env)(s:Shared)(H:Hp)(E:XK),jN k (A.deeper (envOfC x (zb st) s.heap.objs.size fa cdv))->∃t,cu (n9 (nr P w) P w K mg base N x (zb st) fa cdv A outer s H E) (j6 st) t/\∀vs H Q E,Lu (gOf f) f vs H Q E->t {nx:=λ_ H'=>Q .non H',rt:=Q} (start N vs) H):j7 P w K mg base (k+1) x ps (iV memo f):=by
 subst hm;obtain⟨fa,fd,F,e⟩:=F;refine⟨fa,fd,?_,e,F.kp,F.binds hb⟩;obtain⟨oc,od,kV,doc,pm,an,cdv,ct,osl,rfl,lk,hcd⟩:=F.ex;refine xZ.memo (g:=gOf f) (spO:=Lu (gOf f) f) (iC lk hcd S (λvs H Q E h=>?_) λA outer s H vs Q E hr hsp=>?_) (λvs H Q E h=>?_) λvs H Q E h=>?_;·obtain⟨a,x,kvs,ks,rfl,_⟩:=h;exact hps.symm
 ·obtain⟨t,p,h⟩:=hbody fa cdv A outer s H E hr;exact⟨t,p,h vs H Q E hsp⟩
 ·obtain⟨Fz,rs,d,ir,nb,_⟩:=h;obtain⟨_,_,_,_,_,_,rfl,_⟩:=bL nb;rw[ir.len,hps];rfl
 ·obtain⟨Fz,rs,d,ir,nb,ok,_⟩:=h;obtain⟨b1,b2,a,ks,x,b,rfl,hx,hf,hok⟩:=bL nb;obtain⟨v1,v2,rfl⟩:=xD.two ir;have f0:=λc(fc:Fz c)z=>(xQ ir z).1 fc;obtain⟨i1,⟨i2,_,_⟩,_⟩:=ir;have i1:Is K Fz H (.mem a (memoP P w (gOf f) ks a)) v1:=by cases b1 with|false=>exact i1.is|true=>obtain⟨_,_,_,_,_,z⟩:=i1.there rfl;exact z.elim
  have i2:Is K Fz H (.str x) v2:=by cases b2 with|false=>exact i2.is|true=>obtain⟨_,_,_,_,_,z⟩:=i2.there rfl;exact z.elim
  unfold Is at i1 i2;obtain⟨rfl,ha⟩:=i1;subst i2;have hgb:gOf f x=b:=by unfold gOf;rw[hf]
  subst hgb;refine⟨a,ks,ha,λkvs m=>⟨a,x,kvs,ks,rfl,zm,m,hx,hf,λH' kvs' m' h' kp=>⟨kvs',m',h',ok _ hok _ Fz _ ⟨⟨λc fc=>?_,λ_ h=>h,λ_ h=>.inl h,λc o hc _=>?_,f0⟩,jc xg⟩⟩⟩⟩
  ·by_cases e:c=a;·subst e;rw[zm];intro z;cases z
   ·cases hc:H c with|none=>exact absurd hc (d c fc)|some o=>rw[zf e,kp c o e (by rw[zf e];exact hc)];intro z;cases z
  ·by_cases e:c=a;·subst e;rw[zm,<-ha];exact hc
   ·rw[zf e];exact kp c o e (by rw[zf e];exact hc)
end
def VB(a b:String):Bool:=a==b||(a=="bool"&&b=="int")
def GL:List String:=["bool","int","str","tuple","list","dict"]
def VC{K:W.Frag}{t:T}{a b:String}(ha:bn t=some a)(hb:b∈GL):W.kitOne K (.type a) (.type b)=some (VB a b):=by cases t<;>simp only[bn,Option.some.injEq,reduceCtorEq]at ha<;>subst ha<;>simp only[GL,List.mem_cons,List.not_mem_nil,or_false]at hb<;>rcases hb with rfl|rfl|rfl|rfl|rfl|rfl<;>first|rfl|decide|(unfold W.kitOne W.kitCls;rfl)|(unfold W.kitOne W.kitCls;simp;decide+kernel)
def kg:List T->Option RV
 |[t,.ty n]=>match bn t with|some m=>if n∈GL then some (false,.bl (VB m n))else none|none=>none
 |_=>none
def wn:vg X (.builtin "isinstance") (Ys X.K kg):=by intro pins s σ H xs us Q I r h;obtain⟨F,ts,rv,d,ia,e,q⟩:=h;match ts,e with|[t,.ty n],e=>obtain⟨v,w,rfl,g1,g2⟩:=Vn ia;unfold Is at g2;subst g2;simp only[kg]at e;cases hm:bn t with|none=>rw[hm]at e;cases e|some m=>
  rw[hm]at e;dsimp only at e;split at e<;>cases e;rename_i hn;have qt:Q (.bl (VB m n)) H:=jT d xg q rfl;obtain⟨u,u2,rfl,ru,ru2⟩:=KR r;cases ru2;have kt:=VC (K:=X.K) hm hn;have fin:u3 X.K H v (.type m)->wpAny ↑a X.A (call (.builtin "isinstance") [u,.type n]) (EP X pins σ Q) X.xe s:=λht=>ZF I ru ht kt λtk=>⟨.bl (VB m n),H,I.tok _,rfl,qt⟩;cases t<;>unfold Is at g1<;>simp only[bn,Option.some.injEq,reduceCtorEq]at hm<;>subst hm;case non=>subst g1;exact fin .non
  case bl=>subst g1;exact fin (.bl _)
  case int=>subst g1;exact fin (.int _)
  case str=>subst g1;exact fin (.str _)
  case lst ts=>obtain⟨a,vs,rfl,g,g2⟩:=g1;cases ru;obtain⟨its,rr,pl,hz⟩:=I.list g.sq;obtain⟨o,ho,hc,n',hd⟩:=pl.isList;exact W.kia_one W.kitx_list I.kIn ⟨o,ho,hc⟩ kt (λz=>nomatch z) λtk=>⟨.bl _,H,I.tok _,rfl,qt⟩
  case tup ts=>obtain⟨a,vs,rfl,g,g2⟩:=g1;cases ru;obtain⟨its,rr,pl,hz⟩:=I.tuple g;obtain⟨o,ho,hc,_⟩:=pl;exact W.kia_one W.kitx_tuple I.kIn ⟨o,ho,hc⟩ kt (λz=>nomatch z) λtk=>⟨.bl _,H,I.tok _,rfl,qt⟩
def Lv(K:W.Frag):Sp:=λvs H Q _=>∃a,∃ns:List Int,vs=[.ref a]/\fo K H a (ns.map V.int)/\ns.length<=63/\∀H',Q (.bl true) H'
def rM{K:W.Frag}{F:Addr->Prop}{H:Hp}:∀(ns:List Int),IsAll K F H (ns.map T.int) (ns.map V.int)|[]=>IsAll.nil|_::ns=>IsAll.cons xb (rM ns)
section
variable{P:Program}{w:World}{K:W.Frag}{mg:Str->Option Value}{base:Heap}
theorem eS.ok3{x:Str}{st:Stmt}{f:Addr}{fd:FuncData}{N ps:List Str}{k:Nat}{mb:MS}(F:eS K x x st f fd)(S:zg N ps (zb st))(hbody:∀(cdv:Value)(A:Around)(outer:List Env)(s:Shared)(H:Hp)(E:XK),jN k (A.deeper (envOfC x (zb st) s.heap.objs.size f cdv))->gM (n9 (nr P w) P w K mg base N x (zb st) f cdv A outer s H E) (j6 st) mb):xZ P w K mg base (nr P w) (k+1) f fd ps (gX K (zP N.length ps.length mb)):=by obtain⟨oc,od,kV,doc,pm,an,cdv,ct,osl,rfl,lk,hcd⟩:=F.ex;exact iC lk hcd S (λvs H Q E h=>GC h) λA outer s H vs Q E hr hsp=>YN hsp (hbody cdv A outer s H E hr)
theorem GM(F:xZ P w K mg base (nr P w) k f fd [x] (gX K m))(h:∀ns:List Int,ns.length<=63->m [(false,.lst (ns.map T.int))]=.ok ↑l):xZ P w K mg base (nr P w) k f fd [x] (Lv K):=by
 refine F.imp λvs H Q E⟨a,ns,hv,hS,hl,q⟩=>?_;subst hv;have hm:=h ns hl;have fin:∀F:Addr->Prop,lJ F H->ZU K F H a (ns.map V.int)->gX K m [.ref a] H Q E:=by
  intro F d fz;refine⟨F,[(false,.lst (ns.map T.int))],d,⟨jc ?_,trivial,λz=>by cases z⟩,(by rw[hm];intro z;cases z),λr er v F' H' rr=>?_,λx ex=>(by rw[hm]at ex;cases ex)⟩;·unfold Is;exact⟨a,_,rfl,fz,rM ns⟩
  ·rw[hm]at er;cases er;have:=rr.val.is;unfold Is at this;rw[this];exact q H'
 rcases hS with(hS|hS)|hS;·exact fin (λb=>b=a) (λb hb=>by rw[hb,hS];intro z;cases z) (.inl ⟨rfl,hS⟩)
 ·exact fin (λ_=>False) (λb hb=>hb.elim) (.inr (.inl hS))
 ·exact fin (λ_=>False) (λb hb=>hb.elim) (.inr (.inr hS))
end
def Nk{l:W.OpenLaw}{q:Program}{loose:List Str}{XP:(Str->Option Value)->Heap->Prop}{YP:World->Heap->Prop}{d:DefRec}{K:Params->W.Frag}{x:Str}{k:Nat}{st:Stmt}(hn:l.most=some 63)(hdf:d.params.defaults=[])(hdn:d.name="law")(hr:jN k callerA)(hY:∀(w:World)(h:Heap),YP w h->(K w.params).In h)(hYT:∀(w:World)(h:Heap),YP w h->h.get? tabP=some {cls:=.none,data:=.fields #[]}){c₀:Addr}(hYC:∀(w:World)(h:Heap),YP w h->W.CodeHd h c₀ tabP)(hYN:∀w:World,W.noTabs (K w.params)=true)(hb:∀(kV doc pm:Value)(an:Option Addr)(cdv ct:Value)(u:Value),bindArgs (W.fnOf "law" "law" (jS st) (j6 st) (zb st) .none kV doc pm an cdv ct) ⟨[u],[]⟩=pure [(x,u)])(F:∀(w:World)(mg:Str->Option Value)(h:Heap),(K w.params).In h->h.Ns mainGlobals mg->zM (K w.params) mg "law" st/\∀(f:Addr)(fd:FuncData),eS (K w.params) "law" "law" st f fd->∀base:Heap,xZ l.prog w (K w.params) mg base (nr l.prog w) k f fd [x] (Lv (K w.params))):W.WalkO q loose XP YP l.row.toRowW d [] (λf vs=>PySem.call f vs):=by
 refine L2.walk_of (x:=x) (CX:=λw=>nr l.prog w) (sp:=λw=>Lv (K w.params)) hn ↑f hdf hr hY hYT hYC hYN ?_ (λw H a ns hl _ hS=>⟨a,ns,rfl,hS,hl,λ_=>rfl⟩) λw H s e s' z=>by obtain⟨_,_,_,_,_,_,_,z⟩:=z;exact z
 intro w mg fa h KX G hmg;obtain⟨⟨f,fd,Fl,e⟩,T⟩:=F w mg h KX G;rw[hdn,e]at hmg;cases hmg;refine⟨fd,λs u=>?_,λbase _ _=>T _ fd Fl base⟩;obtain⟨oc,od,kV,doc,pm,an,cdv,ct,osl,rfl,lk,hcd⟩:=Fl.ex;exact .of_eq (hb kV doc pm an cdv ct u)
def Xd{K:W.Frag}{C C0:Addr}{b:Bool}(d:C≠C0)(h1:W.isClsIn K C0=true)(h2:W.typeIn K (.ref C0)=some (.type "type"))(h3:W.subIn K ↑Q (.ref C0)=some b):W.kitOne K ↑Q (.ref C0)=some b:=by
 unfold W.kitOne W.kitCls;have h1:(W.clsIn K C0).isSome=true:=h1;have ne:¬((Value.ref C==Value.ref C0)=true):=λz=>by have:=eq_of_beq z;injection this with e;exact d e
 rw[if_neg ne];dsimp only;rw[h1,h2,if_pos (by rw[beq_self_eq_true];rfl)];exact h3
def GN(C:Addr):List (Addr×Bool)->Option Bool|[]=>none|p::r=>if p.1=C then some p.2 else GN C r
def rN:∀{l:List (Addr×Bool)},GN C l=some b->(C,b)∈l
 |[],h=>by cases h|p::r,h=>by
  rw[GN]at h;split at h;·rename_i e;cases h;rw[<-e];exact List.mem_cons_self
  ·exact List.mem_cons_of_mem _ (rN h)
def zg.of{N ps:List Str}{sc:Scope}(h:zg N ps sc:=by exact⟨rfl,rfl,rfl,by decide+kernel,rfl,by decide+kernel,by decide+kernel⟩):zg N ps sc:=h
def zQ.of{N:List Str}{fsc scope:Scope}{x:Str}{caps:List Str}{slots:List Nat}(h:zQ N fsc scope x caps slots:=by exact⟨rfl,rfl,by decide+kernel,by decide+kernel,rfl,by decide+kernel,by decide+kernel,by decide+kernel,rfl,rfl⟩):zQ N fsc scope x caps slots:=h
def zu(hN:X.N.Nodup)(h:j9 X e m)(hi:X.N[i]?=some x:=by rfl)(hx:ii X.env.scope x:=by first|exact Or.inl rfl|exact Or.inr rfl)(hs:swapsWith e (some (.Name x pos')) pos.line X.env=pure false:=by rfl)(hf:X.fn x=true\/X.env.scope.names.lookup x=some .local:=by first|exact .inl rfl|exact .inr rfl|assumption):lK X (.Assign [.Name x pos'] e pos) (zH i m):=Na hN hi hx h hs hf
def o5{op:Operator}{f:T->T->Option RV}(ho:GA X op f)(hN:X.N.Nodup)(h:j9 X e m)(hi:X.N[i]?=some x:=by rfl)(hx:ii X.env.scope x:=by first|exact Or.inl rfl|exact Or.inr rfl)(hf:X.fn x=true\/X.env.scope.names.lookup x=some .local:=by first|exact .inl rfl|exact .inr rfl|assumption):lK X (.AugAssign (.Name x pos') op e pos) (J3 i f m):=Nb ho hN hi hx h hf
def zk(hN:X.N.Nodup)(hi:X.N[i]?=some x:=by rfl)(hx:ii X.env.scope x:=by first|exact Or.inl rfl|exact Or.inr rfl)(hf:X.fn x=true\/X.env.scope.names.lookup x=some .local:=by first|exact .inl rfl|exact .inr rfl|assumption):Wr X (.Name x pos) (gN i):=Vm hN hi hx hf
def Nl{P:List Value->Prop}(h:P []):∀us:List Value,us.length=0->P us:=λus e=>by cases us with|nil=>exact h|cons a r=>cases e
def qK{P:List Value->Prop}(h:∀a,P [a]):∀us:List Value,us.length=1->P us:=λus e=>by cases us with|nil=>cases e|cons a r=>exact Nl (P:=λr=>P (a::r)) (h a) r (Nat.succ.inj e)
def xW{P:List Value->Prop}(h:∀a b,P [a,b]):∀us:List Value,us.length=2->P us:=λus e=>by cases us with|nil=>cases e|cons a r=>exact qK (P:=λr=>P (a::r)) (h a) r (Nat.succ.inj e)
def f6{P:List Value->Prop}(h:∀a b c,P [a,b,c]):∀us:List Value,us.length=3->P us:=λus e=>by cases us with|nil=>cases e|cons a r=>exact xW (P:=λr=>P (a::r)) (h a) r (Nat.succ.inj e)
def Xe{P:List Value->Prop}(h:∀a b c d,P [a,b,c,d]):∀us:List Value,us.length=4->P us:=λus e=>by cases us with|nil=>cases e|cons a r=>exact f6 (P:=λr=>P (a::r)) (h a) r (Nat.succ.inj e)
def Nn{P:List Value->Prop}(h:∀a b c d e,P [a,b,c,d,e]):∀us:List Value,us.length=5->P us:=λus e=>by cases us with|nil=>cases e|cons a r=>exact Xe (P:=λr=>P (a::r)) (h a) r (Nat.succ.inj e)
def No{P:List Value->Prop}(h:∀a b c d e f,P [a,b,c,d,e,f]):∀us:List Value,us.length=6->P us:=λus e=>by cases us with|nil=>cases e|cons a r=>exact Nn (P:=λr=>P (a::r)) (h a) r (Nat.succ.inj e)
section
variable{K:W.Frag}{h:Heap}{mg:Str->Option Value}{f C C0:Addr}{oc kV dc pm cd ct:Value}{od an:Option Addr}{sl:Array (Option Value)}{x q:Str}{st:Stmt}{t:Tok}{b:Bool}
theorem fG(X:K.In h)(G:h.Ns mainGlobals mg)(g:W.nsIn K mainGlobals x=some none:=by(try dsimp only);k_is):mg x=none:=W.mg_none_of X G g
theorem VD(X:K.In h)(G:h.Ns mainGlobals mg)(g:W.nsIn K mainGlobals x=some (some v):=by(try dsimp only);k_is):mg x=some v:=W.mg_of X G g
theorem zy(X:K.In h)(G:h.Ns mainGlobals mg)(g:W.nsIn K mainGlobals x=some (some (.ref f)):=by(try dsimp only);k_is)(l:K.lookup f=some ⟨oc,od,.func (W.fnOf x x (jS st) (j6 st) (zb st) .none kV dc pm an cd ct),sl⟩:=by(try dsimp only);k_is)(c:W.codeIn K cd x=true:=by(try dsimp only);k_is)(k:W.keepIn K (.ref f)=true:=by(try dsimp only);k_is):zM K mg x st:=⟨_,_,eT l c k,W.mg_of X G g⟩
theorem Qc(X:K.In h)(G:h.Ns mainGlobals mg)(g:W.nsIn K mainGlobals x=some (some (.str s t)):=by(try dsimp only);k_is):∃t,mg x=some (.str s t):=⟨_,W.mg_of X G g⟩
theorem Np(X:K.In h)(G:h.Ns mainGlobals mg)(g:W.nsIn K mainGlobals x=some (some (.int i t)):=by(try dsimp only);k_is):∃t,mg x=some (.int i t):=⟨_,W.mg_of X G g⟩
theorem Im(X:K.In h)(G:h.Ns mainGlobals mg)(g:W.nsIn K mainGlobals x=some (some (.ref f)):=by(try dsimp only);k_is)(l:K.lookup f=some ⟨.type "tuple",od,.seq #[.str s1 t1,.str s2 t2] n,sl⟩:=by(try dsimp only);k_is):Lr K mg x [s1,s2]:=⟨_,_,_,_,W.mg_of X G g,l,rfl,rfl,(by show 2<=sizeLine;decide),(.cons ⟨_,rfl⟩ (.cons ⟨_,rfl⟩ .nil))⟩
theorem VE(i:W.findIn K ↑Q "__init__"=some (some (.ref f)):=by(try dsimp only);k_is)(l:K.lookup f=some ⟨oc,od,.func (W.fnOf "__init__" q (jS st) (j6 st) (zb st) .none kV dc pm an cd ct),sl⟩:=by(try dsimp only);k_is)(c:W.codeIn K cd q=true:=by(try dsimp only);k_is)(k:W.keepIn K (.ref f)=true:=by(try dsimp only);k_is)(m:W.makesIn K C=true:=by(try dsimp only);k_is)(n:W.isFn K (.ref f)=true:=by(try dsimp only);k_is)(p:W.keepIn K ↑Q=true:=by(try dsimp only);k_is):∃f fd,eS K "__init__" q st f fd/\Mk K C f:=⟨_,_,eT l c k,m,i,n,p⟩
theorem nL(i:W.findIn K ↑Q x=some (some (.ref f)):=by(try dsimp only);k_is)(l:K.lookup f=some ⟨oc,od,.func (W.fnOf x q (jS st) (j6 st) (zb st) .none kV dc pm an cd ct),sl⟩:=by(try dsimp only);k_is)(c:W.codeIn K cd q=true:=by(try dsimp only);k_is)(k:W.keepIn K (.ref f)=true:=by(try dsimp only);k_is)(n:W.isFn K (.ref f)=true:=by(try dsimp only);k_is):∃f fd,eS K x q st f fd/\aZ K C x f:=⟨_,_,eT l c k,i,n,k⟩
theorem GO(a:W.plainGet K C Str.empty=true:=by(try dsimp only);k_is)(b:W.hasDictIn K C=true:=by(try dsimp only);k_is)(c:W.plainOver K C=true:=by(try dsimp only);k_is)(d:W.findIn K ↑Q "__setattr__"=some (some (.builtin "object.__setattr__")):=by(try dsimp only);k_is):lN K C:=⟨a,b,c,d⟩
theorem Qd(i:W.findIn K ↑Q x=some none:=by(try dsimp only);k_is):jQ K C x:=i
end
end L3
namespace HT
open PySem PyProof.Rows
section
variable{prog:Program}{w:World}{A:Around}{E:Value->Shared->Prop}{s:Shared}
theorem ue{sl:Addr}{t:Tok}{n:Nat}{Q:Int×Int×Nat->Shared->Prop}(hs:s.heap.IsSliceOf sl .none .none (.int (-1) t))(h:Q ((n:Int)-1,-1,n) s):wpAny ↑d A (Builtin.Slice.sliceApplied (.ref sl) (pure (n:Int))) Q E s:=by
 obtain⟨os,hos,hcs,hds⟩:=id hs;unfold Builtin.Slice.sliceApplied Builtin.Slice.sliceFields;refine wpAny_bind (wpAny_bind (wpAny_field hos hds (x:=.none) rfl (wpAny_bind (wpAny_field hos hds (x:=.none) rfl (wpAny_bind (wpAny_field hos hds (x:=.int (-1) t) rfl (wpAny_pure ?_)))))));refine wpAny_bind (slicePart_int ?_);show wpAny _ _ (if((-1:Int)==0)=true then _ else _) _ _ s;rw[if_neg ↑f];refine wpAny_bind (slicePart_none (wpAny_bind (slicePart_none (wpAny_bind (wpAny_pure ?_)))));have e:Builtin.Slice.slicePlaces ((n:Int)-1) (-1) (-1)=n:=by
  unfold Builtin.Slice.slicePlaces;have h1:¬((-1:Int)>0):=by decide
  simp only[h1,if_false];split;·rw[show(- -1:Int)=1 by decide,Int.ediv_one];omega
  ·omega
 show wpAny _ _ (pure ((n:Int)-1,(-1:Int),Builtin.Slice.slicePlaces ((n:Int)-1) (-1) (-1))) _ _ s;rw[e];exact wpAny_pure h
theorem bM{α β:Type}{f g:α->Option β}:∀{l:List α},(∀x∈l,f x=g x)->l.filterMap f=l.filterMap g|[],_=>rfl|a::l,h=>by rw[List.filterMap_cons,List.filterMap_cons,h a List.mem_cons_self,bM λx hx=>h x (List.mem_cons_of_mem _ hx)]
theorem Xf(xs:Array Value):((List.range xs.size).filterMap λ(m:Nat)=>xs[(((xs.size:Int)-1)+(m:Int)*(-1)).toNat]?).toArray=xs.toList.reverse.toArray:=by
 have e:(List.range xs.size).filterMap (λ(m:Nat)=>xs[(((xs.size:Int)-1)+(m:Int)*(-1)).toNat]?)=((List.range xs.size).map λk=>xs.size-1-k).filterMap (xs[·]?):=by rw[List.filterMap_map];refine bM λm hm=>?_;have:=List.mem_range.mp hm;show xs[_]?=xs[xs.size-1-m]?;congr 1;omega
 rw[e,W.krv_range,List.filterMap_reverse,W.krv_all]
theorem getItem_tuple_rev{t sl:Addr}{tk:Tok}{items:Array Value}{Q:Value->Shared->Prop}(ht:IsTup s.heap t items)(hs:s.heap.IsSliceOf sl .none .none (.int (-1) tk))(h:Q ↑A {s with heap:=s.heap.push {cls:=.type "tuple",data:=.seq items.toList.reverse.toArray}})(hsz:items.size<=sizeLine):wpAny ↑d A (getItem (.ref t) (.ref sl)) Q E s:=by
 have htake:sizeOk (.seq items.toList.reverse.toArray):=by show items.toList.reverse.toArray.size<=sizeLine;rw[List.size_toArray,List.length_reverse,Array.length_toList];exact hsz
 obtain⟨os,hos,hcs,hds⟩:=id hs;have hTs:s.TypeIs (.ref sl) "slice":=⟨os,hos,hcs⟩;unfold getItem;try with_reducible refine wpAny_holding ?_
 first|refine wpAny_bind (wpAny_pure ?_)|skip
 refine wpAny_bind (wpAny_sequenceKey ht.typeIs ↑f ?_);refine wpAny_bind (wpAny_callSpecial?_slot (name:=Str.ofString "__getitem__") ht.typeIs PyProof.Rows.slot_tuple_getitem (wpAny_call_entry PyProof.Rows.slot_tuple_getitem ht.typeIs entry_tuple_getitem ?_ (args_tuple_getitem _ _)));show wpAny _ _ (Builtin.Tuple.tupleItemsOf (.ref t)>>=_) _ _ s;refine wpAny_bind (tupleItemsOf_ ht ?_);refine wpAny_bind (wpAny_typeOf hTs ?_);rw[if_pos ↑f];refine wpAny_bind (ue hs ?_);have hno:¬((((items.size:Int)-1)==0&&(-1:Int)==1&&items.size==items.size)=true):=by intro q;rw[Bool.and_eq_true,Bool.and_eq_true]at q;exact absurd (eq_of_beq q.1.2) ↑f
 show wpAny _ _ (if(((items.size:Int)-1)==0&&(-1:Int)==1&&items.size==items.size)=true then _ else _) _ _ s;rw[if_neg hno,Xf];first|exact wpAny_bind (m:=Builtin.Tuple.tupleExact _) (wpAny_newObj_type ↑S htake)|exact wpAny_bind (m:=Builtin.Tuple.tupleExact _) (wpAny_newObj_type (wpAny_bind (wpAny_pure ↑S)) htake)|exact wpAny_bind (wpAny_bind (m:=Builtin.Tuple.tupleExact _) (wpAny_newObj_type (wpAny_pure ↑S) htake))|exact wpAny_bind (wpAny_bind (m:=Builtin.Tuple.tupleExact _) (wpAny_newObj_type ↑S htake))
end
end HT
namespace L3
open PySem PySem.Spec PyProof.Rows L2
def Lw:T->Option RV|.lst ts=>some (true,.lst ts.reverse)|.tup ts=>some (false,.tup ts.reverse)|_=>none
def mT(m:ME):ME:=λenv=>(m env).bind λx=>aL (Lw x.2)
theorem IsAll.rev{K:W.Frag}{F:Addr->Prop}{H:Hp}:∀{ts:List T}{vs:List V},IsAll K F H ts vs->IsAll K F H ts.reverse vs.reverse|[],vs,h=>by unfold IsAll at h;subst h;exact IsAll.nil|t::ts,vs,h=>by unfold IsAll at h;obtain⟨v,r,e,h1,h2⟩:=h;subst e;rw[List.reverse_cons,List.reverse_cons];exact(IsAll.rev h2).append (IsAll.cons h1 IsAll.nil)
theorem zE.rev:∀{xs:List V}{us:List Value},zE xs us->zE xs.reverse us.reverse|_,_,.nil=>.nil|_,_,.cons r t=>by rw[List.reverse_cons,List.reverse_cons];exact(zE.rev t).append (.cons r .nil)
def Lx(K:W.Frag)(te:TE):TE:=λσ H Q=>te σ H λx H1=>(∃a xs,x=.ref a/\fX K H1 a xs/\∀p,H1 p=none->Q (.ref p) (zO H1 p (.tup xs.reverse)))\/∃a xs,x=.ref a/\fo K H1 a xs/\∀p,H1 p=none->Q (.ref p) (zO H1 p (.lst xs.reverse))
section
variable{X:Cx}{e:Expr}{te:TE}{ma:ME}{pos p2 p3 p4:Pos}{j:Nat}
theorem GP(he:PE X e te):PE X (.Subscript e (.Slice none none (some (.UnaryOp .USub (.Constant (.int 1) j p3) p4)) p2) pos) (Lx X.K te):=by
 intro pins s σ H Q I h;refine Subscript_ (ja (he pins s σ H _ I h) λv s1⟨x,H1,I1,r1,q1⟩=>?_);refine wpAny_Slice ?_;rw[evalPart_none];refine wpAny_pure (wpAny_pure ?_);have pn:PE X (.UnaryOp .USub (.Constant (.int 1) j p3) p4) (Ik (rU λi=>.int (-i)) (tC (.int 1))):=KQ JR JK;rw[evalPart_some];refine ja (pn pins s1 σ H1 (λv H'=>v=.int (-1)/\H'=H1) I1 ⟨1,rfl,rfl,rfl⟩) λu s2⟨y,H2,I2,r2,e1,e2⟩=>?_;subst e1 e2;obtain⟨t,rfl⟩:=r2;have I4:zo X pins σ H2 {s2 with heap:=s2.heap.push {cls:=.type "slice",data:=.fields #[.none,.none,.int (-1) t]}}:=I2.kept (t':=s2.toks) λb ob q=>Heap.get?_push_of_some _ q;have hs:({s2 with heap:=s2.heap.push {cls:=.type "slice",data:=.fields #[.none,.none,.int (-1) t]}}:Shared).heap.IsSliceOf s2.heap.objs.size .none .none (.int (-1) t):=Heap.IsSliceOf.new ..;show wpAny ↑a X.A (subscriptTail e (.Slice none none (some (.UnaryOp .USub (.Constant (.int 1) j p3) p4)) p2) v (.ref s2.heap.objs.size)) (EP X pins σ Q) X.xe {s2 with heap:=s2.heap.push {cls:=.type "slice",data:=.fields #[.none,.none,.int (-1) t]}};generalize{s2 with heap:=s2.heap.push {cls:=.type "slice",data:=.fields #[.none,.none,.int (-1) t]}}=s3 at I4 hs⊢;rcases q1 with⟨a,xs,rfl,hx,q⟩|⟨a,xs,rfl,hx,q⟩;·cases r1;obtain⟨its,r,ht,hz⟩:=I4.tuple hx;refine tail_any (ops:=[.ref a,.ref s2.heap.objs.size]) ht.typeIs PyProof.Rows.slot_tuple_getitem.lookup (HT.getItem_tuple_rev ht hs ?_ (by rw[List.size_toArray,<-r.length];exact hz)) (by with_unfolding_all rfl);refine⟨.ref s3.heap.objs.size,_,I4.laid (t':=s3.toks) (o:=.tup xs.reverse) (λb ob q=>Heap.get?_push_of_some _ q) ↑h ?_,rfl,q _ (I4.hok.fresh ↑h)⟩;exact⟨by rw[List.length_reverse];exact hz,_,zE.rev r,IsTup.new _ _⟩
 ·cases r1;obtain⟨its,r,ht,hz⟩:=I4.list hx;refine tail_any (ops:=[.ref a,.ref s2.heap.objs.size]) ht.isList.typeIs slot_list_getitem.lookup (wpAny_getItem_list_slice ht.isList hs .none .none (.int (-1) t) ↑f ?_ (by rw[List.size_toArray,<-r.length];exact hz)) (by with_unfolding_all rfl);rw[W.krv_pick];refine⟨.ref s3.heap.objs.size,_,I4.laid (t':=s3.toks) (o:=.lst xs.reverse) (λb ob q=>Heap.get?_push_of_some _ q) ↑h ?_,rfl,q _ (I4.hok.fresh ↑h)⟩;exact⟨by rw[List.length_reverse];exact hz,_,0,zE.rev r,Heap.get?_push_size _ rfl⟩
theorem Xg(ha:j9 X e ma):j9 X (.Subscript e (.Slice none none (some (.UnaryOp .USub (.Constant (.int 1) j p3) p4)) p2) pos) (mT ma):=by
 obtain⟨ta,pa,sa⟩:=ha;refine⟨_,GP pa,?_⟩;intro F H σ env Q R nb ok ex;unfold mT at nb ok ex;refine sa.val R ↑b (λr1 e1 v1 F1 H1 x1 i1=>?_) λx z=>ex x ↑v;rw[e1,bind_ok]at nb ok;obtain⟨b,t⟩:=r1;dsimp only at nb ok i1;have un:∀{v:V}{F':Addr->Prop}{H':Hp}{rv:RV},wz X.K (λa=>H1 a=none) F' H' v rv->wz X.K ↑W F' H' v rv:=λ{v F' H' rv}i=>by
  unfold wz at i⊢;split;·rename_i ho;rw[if_pos ho]at i;obtain⟨a,e,nf,fr,o⟩:=i;exact⟨a,e,nf,j8 x1.same fr,o⟩
  ·rename_i ho;rw[if_neg ho]at i;exact i
 cases t<;>try exact absurd rfl nb
 case tup ts=>unfold Is at i1;obtain⟨a,vs,rfl,g,gs⟩:=i1;exact .inl ⟨a,vs,rfl,g,λp hp=>Yt x1.dom gs.rev hp λv F' H' x i=>ok _ rfl v F' H' (x1.trans x) (un i)⟩
 case lst ts=>unfold Is at i1;obtain⟨a,vs,rfl,g,gs⟩:=i1;exact .inr ⟨a,vs,rfl,g.sq,λp hp=>cW x1.dom gs.rev hp λv F' H' x i=>ok _ rfl v F' H' (x1.trans x) (un i)⟩
end
section
variable{X:Cx}{pos p p1 p2:Pos}
theorem IS{i:Nat}{x:Str}(hN:X.N.Nodup)(hi:X.N[i]?=some x:=by rfl)(hx:ii X.env.scope x:=by first|exact Or.inl rfl|exact Or.inr rfl)(hf:X.fn x=true\/X.env.scope.names.lookup x=some .local:=by first|exact .inl rfl|exact .inr rfl|assumption):PG X (.Name x pos) (vd i):=qh hN hi hx hf
end
open PySem.SeqAt PySem.MeetsSeq PySem.MeetsSeq2 PySem.MeetsSeq3 PySem.SeqRoads2 in def Xh(l:Addr)(items:Array Value)(n:Nat)(dd:Option Addr)(sl:Array (Option Value))(x:Value)(e:Value->Bool)(i j:Nat)(t:Tok)(hj:j<items.size)(hij:i<=j)(hsmall:(j:Int)<2^63-1)(hit:e items[j]=true)(hno:∀m(hm:m<items.size),i<=m->m<j->e items[m]=false):Meets (Builtin.«list.index» ⟨[.ref l,x,.int (i:Int) t],[]⟩) (λA R s=>s.heap.get? l=some {cls:=.type "list",dict:=dd,data:=.seq items n,slots:=sl}/\(∀y,y∈items->EqAt A.in1 s y x (e y))/\R (.ok (.ret (.int j s.toks))) {s with toks:=s.toks+1}):=by
 intro prog w A R s h;obtain⟨hp,g,d,tk,os⟩:=s;obtain⟨hl,he,h⟩:=h;wp_walk using wpAny_loadPart' hl;have b1:((λq:Int=>if q<0 then max 0 (q+(items.size:Int))else q) ((some (i:Int)).getD 0))=((i:Nat):Int):=if_neg (Int.not_lt.mpr (Int.natCast_nonneg i));have b2:((λq:Int=>if q<0 then max 0 (q+(items.size:Int))else q) ((none:Option Int).getD (2^63-1)))=2^63-1:=by simp
 rw[b1,b2];refine⟨plainId_quiet plain_index_loop _,codeAny_builtin entry_index_loop ?_⟩;rw[Around.under_plainId plain_index_loop _];exact index_loopAt l items n dd sl x e (2^63-1) j hj hsmall hit _ i rfl hij hno prog w A R _ ⟨hl,he,h⟩
structure mU(P:Program)(w:World)(K:W.Frag)(mg:Str->Option Value)(y:Str)(a:Addr)(kvs:List (Key×V))(tab:List (Str×T)):Prop where
 mg:mg y=some (.ref a)sys:(a==sysModules)=false
 obj:∃o es ep vs,K.lookup a=some o/\o.ExactDict/\o.data=.dict es ep/\KeysOf (zU P w) es/\Pairs (zU P w) es.toList vs/\(vs.map (·.1)).Nodup/\KV kvs vs
 rel:∀(F:Addr->Prop)(H:Hp)(z:Str),(∀t,tab.lookup z=some t->∃v,ju kvs (.inr z)=some v/\Is K F H t v)/\(tab.lookup z=none->ju kvs (.inr z)=none)
def mU.of(D:mU X.prog X.w X.K X.mg y a kvs tab)(I:zo X pins σ H s):∃vs,KV kvs vs/\s.heap.DictOf (zU X.prog X.w) a vs:=by obtain⟨o,es,ep,vs,h1,h2,h3,h4,h5,h6,h7⟩:=D.obj;exact⟨vs,h7,o,es,ep,I.kIn a o h1,h2,h3,h4,h5,h6⟩
def Nq(kvs:List (Key×V))(ty:TE):TE:=λσ H Q=>ty σ H λu H1=>∃k v,u=kV k/\ju kvs k=some v/\Q v H1
section
variable{P:Program}{w:World}{K:W.Frag}{mg:Str->Option Value}{base:Heap}
def uf:MF:=λ_=>.bad
theorem j7.never{x:Str}{st:Stmt}{ps:List Str}{k:Nat}(F:zM K mg x st)(hb:∀(kV doc pm:Value)(an:Option Addr)(cdv ct:Value)(us:List Value),us.length=ps.length->bindArgs (W.fnOf x x (jS st) (j6 st) (zb st) .none kV doc pm an cdv ct) ⟨us,[]⟩=pure (ps.zip us)):j7 P w K mg base k x ps uf:=by
 obtain⟨f,fd,F,e⟩:=F;refine⟨f,fd,⟨λvs H Q E h=>?_,λA outer s H args us vs Q E _ _ _ _ h=>?_⟩,e,F.kp,F.binds hb⟩;·obtain⟨_,_,_,_,nb,_⟩:=h;exact absurd rfl nb
 ·obtain⟨_,_,_,_,nb,_⟩:=h;exact absurd rfl nb
end
end L3
namespace L2
open PySem PySem.Spec PyProof.Rows
def o6(J:Nat->Shared->Prop)(one:∀k s,J k s->wpAny (model P w) A (pyNext itv) (λr s1=>match r with|none=>Z (.ok .next) s1|some v=>wpAny (model P w) A (letOwnedTupleGo tg itv v) (λ_ s2=>wpAny (model P w) A (assign tg env v) (λ_ s3=>wpAny (model P w) A (forIn ifs true λc r=>if r=true then do let ok<-isTrue c env (eval c env);pure (ForInStep.yield ok)else pure (ForInStep.yield r)) (λok s4=>if ok=true then wpAny (model P w) A (eval elt env) (λy s5=>wpAny (model P w) A (call (.builtin "list.append") [acc,y]) (λ_ s6=>∃m,m<k/\J m s6) ↑ah s5) ↑ah s4 else∃m,m<k/\J m s4) ↑ah s3) ↑ah s2) ↑ah s1) ↑ah s)(k:Nat)(h:J k s):codeAny (model P w) A (.compLoop ↑u 0 itv acc env) Z s:=by refine codeAny_loop rfl J (λk s hJ=>?_) k h;show wpAny (model P w) A ((compTurn ↑u 0 itv acc env).onRaise λx=>do noteFrame x env;theTreesLotGoes x) _ _ s;apply wpAny_noted;rw[compTurn_list];refine wpAny_bind (wpAny_standAt (wpAny_bind (wpAny_mono (one k s hJ) (λr s1 g1=>?_) λ_ _ z=>z)));cases r with|none=>exact wpAny_pure g1|some v=>refine wpAny_bind (wpAny_mono g1 (λ_ s2 g2=>?_) λ_ _ z=>z);refine wpAny_bind (wpAny_mono g2 (λ_ s3 g3=>wpAny_bind (wpAny_mono g3 (λok s4 g4=>?_) λ_ _ z=>z)) λ_ _ z=>z);cases ok with|false=>exact wpAny_pure ⟨rfl,g4⟩|true=>exact wpAny_bind (wpAny_bind (wpAny_mono g4 (λy s5 g5=>wpAny_bind (wpAny_mono g5 (λ_ s6 g6=>wpAny_pure (wpAny_pure ⟨rfl,g6⟩)) λ_ _ z=>z)) λ_ _ z=>z))
structure dj(X:Cx)(scope:Scope)(cl:List (Str×Addr))(xs caps:List Str)(slots:List Nat):Prop where
 kind:scope.kind=.function
 nocell:∀y∈scope.names,y.2≠.cell
 names:∀y∈scope.names,y.2=.local->scope.names.lookup y.1=some .local
 clos:closureFor scope X.env=pure cl
 sub:∀y c,cl.lookup y=some c->X.env.cells.lookup y=some c
 has:∀y,((relabel scope X.env).names.lookup y=some .cell\/(relabel scope X.env).names.lookup y=some .free)->∃c,cl.lookup y=some c
 cap:∀(j:Nat)(y:Str),caps[j]?=some y->∃k:Nat,slots[j]?=some k/\X.N[k]?=some y/\(relabel scope X.env).names.lookup y=some .cell/\X.env.scope.names.lookup y=some .cell
 nd:(xs++caps).Nodup
 len:slots.length=caps.length
def dl(wi:TI)(g:TG)(tt:TT)(te:TE)(n:Nat)(slots:List Nat):TE:=λσ H Q=>wi σ H λJ H1=>∀D,H1 D=none->∃W:Nat->Nat->List V->St->Hp->Prop,(∃m,W 0 m [] (List.replicate n none++kb σ slots) (zO H1 D (.lst [])))/\∀i m ys τ H,W i m ys τ H->H D=some (.lst ys)/\((J.stop i H/\Q (.ref D) H)\/(J.go i H/\∀v H',J.yld i H v H'->g v τ H' λτ' H1=>tt τ' H1 λb H2=>if b=true then te τ' H2 λy H3=>H3 D=some (.lst ys)/\ys.length<sizeLine/\∃m',m'<m/\W (i+1) m' (ys++[y]) τ' (zO H3 D (.lst (ys++[y])))else∃m',m'<m/\W (i+1) m' ys τ' H2))
def mW(I:zo X pins σ H s)(h:dl wi g tt te xs.length slots σ H Q)(fin:∀D C H5 s6 m,s6.heap.Ns C m->qT X pins H5 C->(∀h',Heap.SameBut C s6.heap h'->zo X pins σ H5 {s6 with heap:=h'})->Q (.ref D) H5->compPost ↑a X.A X.xe use PQ (.ref D) C (.ok .next) s6)(hc:X.calm=true)(S:dj X scope cl xs caps slots)(hi:PI X tg iter wi)(pg:∀C ex pn s₀ H₀,PG ↑k tg g)(ht:∀C ex pn s₀ H₀,ZT ↑k ifs tt)(he:∀C ex pn s₀ H₀,PE ↑k elt te)(hs:∀v,foldedSetIterable iter X.env v=pure v:=by intro _;rfl):wpAny ↑a X.A (comprehension ↑u scope X.env cpos (newList []) false (eval iter X.env) use) PQ X.xe s:=by
 refine wpAny_comprehension_free rfl hs S.clos S.kind S.names (ja (hi pins s σ H _ I h) λv s1 h1=>ja h1 λitv s2 h2=>?_);obtain⟨it,fp,tn,J,H1,e,I2,T,st2,f2,q⟩:=h2;subst e--the new list,at D;then the block's map,at C
 obtain⟨W,⟨m0,w0⟩,turn⟩:=q s2.heap.objs.size (I2.hok.fresh ↑h);refine wpAny_newObj_type ?_ (show(0:Nat)<=sizeLine from Nat.zero_le _);have I3:zo X pins σ (zO H1 s2.heap.objs.size (.lst [])) {s2 with heap:=s2.heap.push {cls:=.type "list",data:=.seq ([]:List Value).toArray}}:=I2.lnew .nil (Nat.zero_le _);have f3:∀b∈fp,qT X pins (zO H1 s2.heap.objs.size (.lst [])) b:=λb hb=>by obtain⟨f0,fr⟩:=f2 b hb;obtain⟨o,ho,_⟩:=T.obj _ _ st2 b hb;exact⟨by rw[zf (Nat.ne_of_lt (Heap.lt_size ho))];exact f0,fr⟩
 have st3:tn 0 (s2.heap.push {cls:=.type "list",data:=.seq ([]:List Value).toArray}):=T.keep _ _ _ st2 λb _ o e=>Heap.get?_push_of_some _ e;generalize hD:s2.heap.objs.size=D at I3 turn w0 f3⊢;generalize hs3:({s2 with heap:=s2.heap.push {cls:=.type "list",data:=.seq ([]:List Value).toArray}}:Shared)=s3 at I3⊢;have st3:tn 0 s3.heap:=by rw[<-hs3];exact st3
 generalize hH3:zO H1 D (.lst [])=H3 at I3 w0 f3;refine wpAny_newFunctionEnv S.nocell (by intro y hy;simp at hy) (λh4 hns4 hsb4=>?_) S.kind;generalize hC:s3.heap.objs.size=C at hns4 hsb4⊢;have neC:∀b o,s3.heap.get? b=some o->b≠C:=λb o e=>by rw[<-hC];exact Nat.ne_of_lt (Heap.lt_size e)
 have old:∀b o,s3.heap.get? b=some o->h4.get? b=some o:=λb o e=>hsb4.extBut b o (neC b o e) (Heap.get?_push_of_some _ e);have fpo:∀b∈fp,∃o,s3.heap.get? b=some o:=λb hb=>let⟨o,ho,_⟩:=T.obj _ _ st3 b hb;⟨o,ho⟩;have nst:∀b∈fp,b∉nH X.stack:=λb hb z=>(List.mem_cons.mp (I3.stkSub b z)).elim (f3 b hb).2.1 (f3 b hb).2.2.1;have ok:(zn X scope cl C (xs++caps) fp (X.pn++pins) s3 H3).Ok:=
  {mod:=I3.ok.mod
   kind:=S.kind
   glob:=I3.ok.glob
   blt:=I3.ok.blt
   above:=by rw[<-hC];exact Nat.le_refl _
   inj:=λy z c h1 h2=>I3.ok.inj y z c (S.sub y c h1) (S.sub z c h2)
   has:=λy hy=>S.has y hy
   cab:=λy c h=>nomatch(show false=true from h)
   hd:=I3.ok.hd
   frames:=I3.ok.frames
   stk:=.inl rfl
   exf:=λb hb=>⟨let⟨o,ho⟩:=fpo b hb;neC b o ho,λy c e=>(f3 b hb).2.2.2.2.1 y c (S.sub y c e)⟩
   bs:=λb o e=>I3.bs b o e
   bsz:=Nat.le_trans I3.ok.bsz I3.sz
   noex:=λb o e hb=>by
    rcases(f3 b hb).2.2.2.1 with z|z;·exact I3.ok.noex b o e z
    ·exact absurd (Nat.lt_of_lt_of_le (Heap.lt_size (I3.ok.bs b o e).1) z) (Nat.lt_irrefl _)
   exfs:=nst
   funs:=I3.stack
   frf:=I3.stkFree
   tab:=I3.tab};have I4:∀tk,zo ↑O [] (List.replicate xs.length none++kb σ slots) H3 {s3 with heap:=h4,toks:=tk}:=λtk=>by
  refine⟨ok,rfl,I3.bare,Un.kept old,⟨_,hns4,λi y v h1 h2 h3=>?_⟩,λy c e=>?_,by show H3 C=none;rw[<-hC];exact I3.hok.fresh ↑h,λy c e=>I3.freeC y c (S.sub y c e),λp hp=>?_,I3.hok.kept old,?_⟩
  ·have hlt:¬i<xs.length:=λz=>by rw[List.getElem?_append_left (by simpa using z),List.getElem?_replicate,if_pos z]at h2;cases h2
   obtain⟨i,rfl⟩:∃j,i=xs.length+j:=⟨i-xs.length,by omega⟩;have h1:(xs++caps)[xs.length+i]?=some y:=h1;rw[List.getElem?_append_right ↑c,Nat.add_sub_cancel_left]at h1;rw[List.getElem?_append_right (by rw[List.length_replicate];omega),List.length_replicate,Nat.add_sub_cancel_left]at h2;obtain⟨k,hk,hN,hr,hcl⟩:=S.cap i y h1;have h2:(slots.map λk=>(σ[k]?).getD none)[i]?=some (some v):=h2;rw[List.getElem?_map,hk]at h2;have h2:(σ[k]?).getD none=some v:=Option.some.inj h2;have h2:σ[k]?=some (some v):=by cases e:σ[k]? with|none=>rw[e]at h2;cases h2|some o=>rw[e]at h2;have:o=some v:=h2;rw[this]
   obtain⟨m,hn,hl⟩:=I3.loc;obtain⟨u,r,l⟩:=hl k y v hN h2 (.inr (.inl hcl));refine⟨u,r,.inr ⟨.inl hr,?_⟩⟩;rcases l with⟨z,_⟩|⟨_,c,e1,⟨o,ho,hd⟩⟩;·have z:X.env.scope.names.lookup y=some .local:=z;rw[hcl]at z;cases z
   ·obtain⟨c',e2⟩:=S.has y (.inl hr);have e3:=S.sub y c' e2;rw[e1]at e3;cases e3;exact⟨c,e2,o,old _ _ ho,hd⟩
  ·obtain⟨v,o,ho,hd⟩:=I3.cell y c (S.sub y c e);exact⟨v,o,old _ _ ho,hd⟩
  ·have hp:p∈(X.pn++pins)++[]:=hp;have hp:p∈X.pn++pins:=by simpa using hp
   obtain⟨e,n,ne,nf,d⟩:=I3.pin p hp;exact⟨old _ _ e,n,neC _ _ e,λz=>(List.mem_cons.mp (I3.stkSub _ z)).elim ne nf,d⟩
  ·show(List.replicate xs.length none++kb σ slots).length=(xs++caps).length;unfold kb;rw[List.length_append,List.length_append,List.length_map,List.length_replicate,S.len]
 have stat:∀{H':Hp},(∀b∈fp,H' b=none)->∀b∈fp,qT ↑O [] H' b:=λhn b hb=>⟨hn b hb,(ok.exf b hb).1,nst b hb,.inl hb,(ok.exf b hb).2,λp hp=>(f3 b hb).2.2.2.2.2 p (by have hp:p∈(X.pn++pins)++[]:=hp;simpa using hp)⟩;have loop:∀tk,codeAny ↑a X.A (.compLoop ↑u 0 (.ref it) (.ref D) (compEnvC scope cl C X.env)) (compPost ↑a X.A X.xe use PQ (.ref D) C) {s3 with heap:=h4,toks:=tk}:=by
  intro tk;refine o6 (λn s'=>∃i ys τ H',zo ↑O [] τ H' s'/\tn i s'.heap/\(∀b∈fp,H' b=none)/\W i n ys τ H') ?_ m0 ⟨0,[],_,H3,I4 tk,T.keep _ _ _ st3 λb _ o e=>old b o e,λb hb=>(f3 b hb).1,w0⟩;rintro n s5⟨i,ys,τ,H5,I5,st5,fr5,w5⟩;obtain⟨hDl,stop|⟨go,step⟩⟩:=turn i n ys τ H5 w5
  ·obtain⟨stop,qD⟩:=stop;refine wpAny_mono (T.done ↑O rfl rfl rfl hc i [] s5 _ H5 (λ_ _=>False) I5 (stat fr5) st5 stop) (λr s6 hr6=>?_) λ_ _ z=>z.elim;obtain⟨hr,I6⟩:=hr6;subst hr;obtain⟨m,hn,_⟩:=I6.loc;refine fin D C H5 s6 m hn (I3.fpOk (by rw[<-hC];exact Nat.le_refl _) I6.free) (λh' hsb=>?_) qD;have neC':∀c v,H5 c=some v->c≠C:=λc v e z=>by have:=I6.free;have:H5 C=none:=this;rw[z,this]at e;cases e
   refine I3.call' I6.os ?_ ?_ I6.bare λb hb=>⟨(f3 b hb).2.2.2.1,(f3 b hb).2.1,(f3 b hb).2.2.2.2.1,(f3 b hb).2.2.2.2.2⟩;·have u:=I6.base;exact⟨λb o e n hb hx=>hsb.extBut b o (neC b o e) (u.keep b o e n hb hx),λb o e n hb hx=>let⟨sl,q⟩:=u.slot b o e n hb hx;⟨sl,hsb.extBut b _ (neC b o e) q⟩,u.free,λb o e hx=>let⟨o',q⟩:=u.there b o e hx;⟨o',hsb.extBut b _ (neC b o e) q⟩,u.tups,u.frzs,u.tbls⟩
   ·exactλb u e=>(I6.hok b u e).stay (λc v hc q=>hsb.extBut c v (hc.elim (λz=>by rw[z];exact neC' b u e) λz=>neC' c _ z) q) (λ_ q=>q) λ_ _ q=>q
  ·refine wpAny_mono (T.item ↑O rfl rfl rfl hc i [] s5 _ H5 (λ_ _=>False) I5 (stat fr5) st5 go) (λr s6 hr6=>?_) λ_ _ z=>z.elim;obtain⟨u,hr,h6⟩:=hr6;subst hr;refine wpAny_mono h6 (λ_ s7 h7=>?_) λ_ _ z=>z.elim;obtain⟨v,H7,I7,r7,y7,st7,fr7⟩:=h7;have I7':=I7.pinned (stat fr7) (T.obj _ _ st7);refine wpAny_mono (pg C fp (X.pn++pins) s3 H3 _ s7 _ H7 v u _ I7' r7 (step v H7 y7)) (λ_ s8 h8=>?_) λ_ _ z=>z.elim;obtain⟨σ8,H8,I8,q8⟩:=h8;refine wpAny_mono (ht C fp (X.pn++pins) s3 H3 _ s8 _ _ _ I8 q8) (λb s9 h9=>?_) λ_ _ z=>z.elim;obtain⟨H9,I9,q9⟩:=h9;have again:∀{o':St}{H':Hp}{s':Shared}{zs:List V}{m':Nat},zo ↑O ([]++pY fp s7.heap) o' H' s'->m'<n->W (i+1) m' zs o' H'->∃m,m<n/\∃i ys o H',zo ↑O [] o H' s'/\tn i s'.heap/\(∀b∈fp,H' b=none)/\W i m ys o H':=λ{o' H' s' zs m'}I' hm w'=>by refine⟨m',hm,i+1,zs,o',H',I'.unpinned,T.keep _ _ _ st7 λb hb o e=>(I'.pin (b,o) ↑N).1,λb hb=>?_,w'⟩;obtain⟨o,e,d⟩:=T.obj _ _ st7 b hb;exact(I'.pin (b,o) ↑N).2.1
   cases b with|false=>rw[if_neg Bool.false_ne_true]at q9⊢;obtain⟨m',hm,w'⟩:=q9;exact again I9 hm w'|true=>rw[if_pos rfl]at q9⊢;refine wpAny_mono (he C fp (X.pn++pins) s3 H3 _ s9 _ _ _ I9 q9) (λyv s10 h10=>?_) λ_ _ z=>z.elim;obtain⟨y,H10,I10,ry,hDy,hlt,m',hm,w'⟩:=h10;refine wpAny_mono (x9 (X:=zn X scope cl C (xs++caps) fp (X.pn++pins) s3 H3) _ s10 _ H10 (.ref D) [y] (.ref D) [yv] (λ_ H'=>H'=zO H10 D (.lst (ys++[y]))) I10 rfl (.cons ry .nil) ⟨D,ys,y,rfl,rfl,hDy,hlt,rfl⟩) (λ_ s11 h11=>?_) λ_ _ z=>z.elim;obtain⟨_,H11,I11,_,e11⟩:=h11;subst e11;exact again I11 hm w'
 exact codeAny_compStart_list (loop _) (T.self X.A 0 _ _ _ (T.keep _ _ _ st3 λb _ o e=>old b o e) (loop _))
end L2
namespace L3
open PySem PySem.Spec PyProof.Rows L2
def pG(K:W.Frag)(F:Addr->Prop)(H:Hp)(J:It)(ts:List T):Prop:=∀F2 H2,lJ F2 H2->kq F F2 H H2->∀i:Nat,(i<ts.length->J.go i H2/\∀x H3,J.yld i H2 x H3->jA F2 H2 F2 H3/\∃t,ts[i]?=some t/\Is K F2 H3 t x)/\(ts.length<=i->J.stop i H2)
def qY.two{K:W.Frag}{F:Addr->Prop}{H:Hp}{J:It}{ts:List T}(y:qY K F H J ts):pG K F H J ts:=λF2 H2 d k i=>by obtain⟨a,b⟩:=y F2 H2 k i;refine⟨λhi=>⟨(a hi).1,λx H3 z=>?_⟩,b⟩;obtain⟨rfl,r⟩:=(a hi).2 x H3 z;exact⟨.refl d,r⟩
def Nr(X:Cx)(wi:TI)(it:MI):Prop:=∀(B:Bs)(F:Addr->Prop)(H:Hp)(σ:St)(env:En)(R:It->Hp->Prop),zN X.K B F H σ env->it env≠.bad->(∀ts env',it env=.ok (ts,env')->∀J F' H',zN X.K B F' H' σ env'->pG X.K F' H' J ts->R J H')->(∀x,it env=.exc x->∀ev F' H',zN X.K B F' H' σ env->Yo X.K F' H' ev x->∀pins s',nh X ev pins σ H' s'->X.xe ev s')->wi σ H R
def Nt(X:Cx)(tg iter:Expr)(it:MI):Prop:=∃wi,PI X tg iter wi/\Nr X wi it
def Xi(X:Cx)(wi:TI)(it:aN):Prop:=∀(F:Addr->Prop)(H:Hp)(σ:St)(env:En)(R:It->Hp->Prop),w4 X.K F H σ env->it env≠.bad->(∀ts,it env=.ok ts->∀J F' H',jA F H F' H'->pG X.K F' H' J ts->R J H')->(∀x,it env=.exc x->ZX X F H σ x)->wi σ H R
def rO(X:Cx)(tg iter:Expr)(it:aN):Prop:=∃wi,PI X tg iter wi/\Xi X wi it
def tV.two(h:tV X tg iter it):rO X tg iter it:=let⟨wi,p,s⟩:=h;⟨wi,p,λF H σ env R a b c d=>s F H σ env R a b (λts e J F' H' r y=>c ts e J F' H' r y.two) d⟩
def Xj(hp:PassesOwn ↑a X.A X.env X.xe)(hc:X.calm=true)(hi:Nt X tg iter it)(hg:Wr X tg g)(hb:gM X body mb)(hs:∀x,foldedSetIterable iter X.env x=pure x:=by intro _;rfl):lK X (.For tg iter body [] pos) (wW it g mb):=by
 obtain⟨wi,pi,si⟩:=hi;obtain⟨tg',pg,sg⟩:=hg;obtain⟨tb,pb,sb⟩:=hb;refine⟨_,aU hp hc pi pg pb hs,?_⟩;intro B F H σ env D R w;unfold wW at w;refine si B F H σ env _ R (λz=>by rw[z]at w;exact w) (λts env' e J F1 H1 R1 Y=>?_) λx e ev F' H' R' i pins s' I=>by rw[e]at w;exact w ev F' H' σ R' i pins s' I
 rw[e]at w;dsimp only at w;have f1:=R1.fr;refine⟨λi m σ H=>m=ts.length-i/\i<=ts.length/\∃F env,zN X.K (B.at_ F1 H1) F H σ env/\qJ X B D (jy g mb (ts.drop i) env),⟨ts.length,by simp,Nat.zero_le _,F1,env',R1.rebase,by simpa using w⟩,?_⟩;rintro i m σ2 H2⟨rfl,hi,F2,env2,R2,w2⟩;obtain⟨yg,ys⟩:=Y F2 H2 R2.fr.dom R2.fr.kept i;by_cases hlt:i<ts.length
 ·obtain⟨go,yl⟩:=yg hlt;refine .inr ⟨go,λσ' H'=>∃F env,zN X.K (B.at_ F1 H1) F H' σ' env/\qJ X B D (jy g mb (ts.drop (i+1)) env),λσ' H'⟨F',e',R',w'⟩=>⟨ts.length-(i+1),by omega,rfl,hlt,F',e',R',w'⟩,λx H3 y=>?_⟩;obtain⟨xt,t,ht,it⟩:=yl x H3 y;have R2:=R2.ext xt;have hd:ts.drop i=t::ts.drop (i+1):=by
   rw[List.drop_eq_getElem_cons hlt];have:ts[i]?=some ts[i]:=by simp[hlt]
   rw[this]at ht;cases ht;rfl
  rw[hd,jy]at w2;cases hg:g t env2 with|none=>rw[hg]at w2;exact w2.elim|some e1=>rw[hg]at w2;dsimp only at w2;refine sg _ F2 H3 σ2 env2 e1 x t _ R2 it hg λσ3 R3=>?_;refine sb _ F2 H3 σ3 e1 _ R3 ?_;cases ho:mb e1 with|nx e2=>rw[ho]at w2;exactλF4 H4 σ4 R4=>⟨F4,e2,R4,w2⟩|ct e2=>rw[ho]at w2;exactλF4 H4 σ4 R4=>⟨F4,e2,R4,w2⟩|bk e2=>rw[ho]at w2;exactλF4 H4 σ4 R4=>w2 F4 H4 σ4 (R4.unbase f1)|rt r=>rw[ho]at w2;exactλv F4 H4 R4=>w2 v F4 H4 (R4.unbase f1)|exc x e2=>rw[ho]at w2;exactλev F4 H4 σ4 R4=>w2 ev F4 H4 σ4 (R4.unbase f1)|bad=>rw[ho]at w2;exact w2.elim
 ·have hl:i=ts.length:=by omega
  subst hl;rw[List.drop_length]at w2;exact .inl ⟨ys ↑h,w2 F2 H2 σ2 (R2.unbase f1)⟩
def jL(mg:MG)(mt:MT)(me:ME):En->List T->kN (List T)|_,[]=>.ok []|env,t::ts=>match mg t env with|none=>.bad|some e1=>match mt (hide e1)with|.ok true=>(match me (hide e1)with|.ok r=>(match jL mg mt me (hide e1) ts with|.ok rs=>.ok (r.2::rs)|_=>.bad)|_=>.bad)|.ok false=>jL mg mt me (hide e1) ts|_=>.bad
def xf(it:aN)(mg:MG)(mt:MT)(me:ME)(n:Nat)(slots:List Nat):ME:=λenv=>(it env).bind λts=>if ts.length<=sizeLine then(match jL mg mt me (List.replicate n none++(kx env slots).map frz1) ts with|.ok rs=>.ok (true,.lst rs)|_=>.bad)else .bad
def Jk(env:En):∀(i:Nat)(t:T),(hide env)[i]?≠some (some (true,t)):=λi t h=>by obtain⟨u,e,_⟩:=cZ h;cases e
def w4.stm{K:W.Frag}{F:Addr->Prop}{H:Hp}{σ:St}{env:En}(R:w4 K F H σ env)(hl:env.length=σ.length)(hn:∀(i:Nat)(t:T),env[i]?≠some (some (true,t))):zN K ⟨λ_=>False,H,F⟩ F H σ env:=⟨⟨R.dom,λ_ h=>h,λ_ h=>.inl h,λ_ _ h _=>h,λ_ _ z=>z⟩,hl,λi t h=>R.vals i ↑V h,λi t h=>absurd h (hn i t),λi j t t' a h _ _ _=>absurd h (hn i t)⟩
section
variable{X:Cx}{scope:Scope}{cl:List (Str×Addr)}{xs caps:List Str}{slots:List Nat}{iter elt tg:Expr}{ifs:List Expr}{pos:Pos}{it:aN}{mg:MG}{mt:MT}{me:ME}
def Ly(X:Cx)(scope:Scope)(cl:List (Str×Addr))(N:List Str)(ifs:List Expr)(m:MT):Prop:=∃t,∀C ex pn s₀ H₀,ZT ↑B ifs t/\rA ↑B t m
def IT(X:Cx)(scope:Scope)(cl:List (Str×Addr))(N:List Str)(e:Expr)(m:ME):Prop:=∃t,∀C ex pn s₀ H₀,PE ↑B e t/\iM ↑B t m
def IU(X:Cx)(scope:Scope)(cl:List (Str×Addr))(N:List Str)(e:Expr)(m:MG):Prop:=∃g,∀C ex pn s₀ H₀,PG ↑B e g/\GB ↑B g m
theorem Xk(h:∀C ex pn s₀ H₀,j9 ↑B e m):IT X scope cl N e m:=by
 refine⟨λσ H Q=>∀C ex pn s₀ H₀,∃t,PE ↑B e t/\t σ H Q,λC ex pn s₀ H₀=>⟨λpins s σ H Q I w=>?_,λF H σ env Q R nb ok exx C' ex' pn' s₀' H₀'=>?_⟩⟩;·obtain⟨t,p,w⟩:=w C ex pn s₀ H₀;exact p pins s σ H Q I w
 ·obtain⟨t,p,s⟩:=h C' ex' pn' s₀' H₀';exact⟨t,p,s F H σ env Q R nb ok λy z=>(exx y z).elim⟩
theorem Xl(h:∀C ex pn s₀ H₀,db ↑B ifs m):Ly X scope cl N ifs m:=by
 refine⟨λσ H Q=>∀C ex pn s₀ H₀,∃t,ZT ↑B ifs t/\t σ H Q,λC ex pn s₀ H₀=>⟨λpins s σ H Q I w=>?_,λF H σ env Q R nb ok exx C' ex' pn' s₀' H₀'=>?_⟩⟩;·obtain⟨t,p,w⟩:=w C ex pn s₀ H₀;exact p pins s σ H Q I w
 ·obtain⟨t,p,s⟩:=h C' ex' pn' s₀' H₀';exact⟨t,p,s F H σ env Q R nb ok λy z=>(exx y z).elim⟩
theorem Xm(h:∀C ex pn s₀ H₀,Wr ↑B e m):IU X scope cl N e m:=by
 refine⟨λv σ H Q=>∀C ex pn s₀ H₀,∃g,PG ↑B e g/\g v σ H Q,λC ex pn s₀ H₀=>⟨λpins s σ H v u Q I rv w=>?_,λB F H σ env env' v t Q R iv e q C' ex' pn' s₀' H₀'=>?_⟩⟩;·obtain⟨g,p,w⟩:=w C ex pn s₀ H₀;exact p pins s σ H v u Q I rv w
 ·obtain⟨g,p,s⟩:=h C' ex' pn' s₀' H₀';exact⟨g,p,s B F H σ env env' v t Q R iv e q⟩
theorem Xn{K:W.Frag}{F:Addr->Prop}{H:Hp}{σ:St}{env:En}{n:Nat}(R:w4 K F H σ env):w4 K F H (List.replicate n none++kb σ slots) (List.replicate n none++(kx env slots).map frz1):=by
 refine⟨R.dom,λi r h=>?_⟩;have hlt:¬i<n:=λz=>by rw[List.getElem?_append_left (by simpa using z),List.getElem?_replicate,if_pos z]at h;cases h
 obtain⟨i,rfl⟩:∃j,i=n+j:=⟨i-n,by omega⟩;rw[List.getElem?_append_right (by rw[List.length_replicate];omega),List.length_replicate,Nat.add_sub_cancel_left]at h;rw[List.getElem?_append_right (by rw[List.length_replicate];omega),List.length_replicate,Nat.add_sub_cancel_left];rw[List.getElem?_map]at h;unfold kx at h;rw[List.getElem?_map]at h;cases hk:slots[i]? with|none=>rw[hk]at h;cases h|some k=>rw[hk]at h;have h:frz1 ((env[k]?).getD none)=some r:=Option.some.inj h;cases e:env[k]? with|none=>rw[e]at h;cases h|some o=>rw[e]at h;cases o with|none=>cases h|some q=>obtain⟨b,t⟩:=q;cases h;obtain⟨w,sw,q⟩:=R.vals k (b,t) e;refine⟨w,?_,q⟩;unfold kb;rw[List.getElem?_map,hk];show some ((σ[k]?).getD none)=some (some w);rw[sw];rfl
theorem Xo:(List.replicate n none++(kx env slots).map frz1:En).length=(List.replicate n none++kb σ slots:St).length:=by simp[kx,kb]
theorem Xp:∀(i:Nat)(t:T),(List.replicate n none++(kx env slots).map frz1:En)[i]?≠some (some (true,t)):=λi t h=>by
 by_cases z:i<n;·rw[List.getElem?_append_left (by simpa using z),List.getElem?_replicate,if_pos z]at h;cases h
 ·rw[List.getElem?_append_right (by rw[List.length_replicate];omega),List.getElem?_map]at h;cases e:(kx env slots)[i-(List.replicate n (none:Option RV)).length]? with|none=>rw[e]at h;cases h|some o=>rw[e]at h;cases o with|none=>cases h|some q=>obtain⟨b,u⟩:=q;cases h
theorem iW{wi:TI}{g:TG}{tt:TT}{te:TE}(si:Xi X wi it)(sg:GB (zn X scope cl 0 (xs++caps) [] [] X.s₀ X.H₀) g mg)(st:rA (zn X scope cl 0 (xs++caps) [] [] X.s₀ X.H₀) tt mt)(se:iM (zn X scope cl 0 (xs++caps) [] [] X.s₀ X.H₀) te me):xG X (dl wi g tt te xs.length slots) (xf it mg mt me xs.length slots):=by
 intro F H σ env Q RE nb ok exx;unfold xf at nb ok exx;refine si F H σ env _ RE ↑b (λts e1 J F1 H1 x1 Y=>?_) λx z=>exx x ↑v;rw[e1,bind_ok]at nb ok;by_cases hl:ts.length<=sizeLine;·rw[if_pos hl]at nb ok;have R0:w4 X.K F1 H1 (List.replicate xs.length none++kb σ slots) (List.replicate xs.length none++(kx env slots).map frz1):=Xn (RE.mono x1);have L0:=Xo (slots:=slots) (σ:=σ) (env:=env) (n:=xs.length);have N0:=Xp (slots:=slots) (env:=env) (n:=xs.length);generalize(List.replicate xs.length none++(kx env slots).map frz1:En)=env0 at R0 L0 N0 nb ok;cases hcl:jL mg mt me env0 ts with|bad=>rw[hcl]at nb;exact absurd rfl nb|exc y=>rw[hcl]at nb;exact absurd rfl nb|ok out=>
   rw[hcl]at ok;intro D hD;refine⟨λi m ys τ H=>m=ts.length-i/\i<=ts.length/\ys.length<=i/\H D=some (.lst ys)/\∃Fc us rest en,¬Fc D/\jA F1 H1 Fc H/\IsAll X.K Fc H us ys/\w4 X.K Fc H τ en/\en.length=τ.length/\(∀(i:Nat)(t:T),en[i]?≠some (some (true,t)))/\jL mg mt me en (ts.drop i)=.ok rest/\us++rest=out,⟨ts.length,by simp,Nat.zero_le _,Nat.le_refl _,zm,F1,[],out,env0,λf=>x1.dom D f hD,jA.alloc x1.dom hD,IsAll.nil,R0.mono (jA.alloc x1.dom hD),L0,N0,by simpa using hcl,rfl⟩,?_⟩;rintro i m ys τ H2⟨rfl,hi,hyl,hHD,Fc,us,rest,en,nD,xc,iu,RC,LC,NC,hrest,hout⟩;refine⟨hHD,?_⟩;obtain⟨yg,ysp⟩:=Y Fc H2 RC.dom xc.kept i;by_cases hlt:i<ts.length
   ·obtain⟨go,yl⟩:=yg hlt;refine .inr ⟨go,λv H3 y=>?_⟩;obtain⟨xt,t,hti,iv⟩:=yl v H3 y;have hHD:=xt.same D _ hHD;have xc:=xc.trans xt;have iu:=iu.mono xt.kept;have RC:=RC.mono xt;have hd:ts.drop i=t::ts.drop (i+1):=by
     rw[List.drop_eq_getElem_cons hlt];have:ts[i]?=some ts[i]:=by simp[hlt]
     rw[this]at hti;cases hti;rfl
    rw[hd,jL]at hrest;cases hg:mg t en with|none=>rw[hg]at hrest;cases hrest|some e2=>
    rw[hg]at hrest;dsimp only at hrest;refine sg _ Fc H3 τ en e2 v t _ (RC.stm LC NC) iv hg λτ' R'=>?_;have RH:w4 X.K Fc H3 τ' (hide e2):=R'.hid;have LH:(hide e2).length=τ'.length:=by unfold hide;rw[List.length_map];exact R'.len
    have NH:=Jk e2;generalize hide e2=en2 at RH LH NH hrest;have keepD:∀{F':Addr->Prop}{H':Hp},jA Fc H3 F' H'->¬F' D/\H' D=some (.lst ys):=by
     intro F' H' xt;refine⟨λf=>?_,xt.same D _ hHD⟩;rcases xt.new D f with f|f;·exact nD f
     ·rw[hHD]at f;cases f
    refine st Fc H3 _ _ _ RH (λz=>by rw[z]at hrest;cases hrest) (λb eb F4 H4 x4=>?_) λy z=>by rw[z]at hrest;cases hrest
    rw[eb]at hrest;cases b with|false=>rw[if_neg Bool.false_ne_true];dsimp only at hrest;obtain⟨n4,d4⟩:=keepD x4;exact⟨ts.length-(i+1),by omega,rfl,hlt,by omega,d4,F4,us,rest,en2,n4,xc.trans x4,iu.mono x4.kept,RH.mono x4,LH,NH,hrest,hout⟩|true=>
     rw[if_pos rfl];dsimp only at hrest;refine se.val (RH.mono x4) (λz=>by rw[z]at hrest;cases hrest) (λr er w F5 H5 x5 iw=>?_) λy z=>by rw[z]at hrest;cases hrest
     rw[er]at hrest;dsimp only at hrest;cases hcl2:jL mg mt me en2 (ts.drop (i+1))with|bad=>rw[hcl2]at hrest;cases hrest|exc y=>rw[hcl2]at hrest;cases hrest|ok rest2=>
      rw[hcl2]at hrest;have hr:r.2::rest2=rest:=by injection hrest
      obtain⟨n5,d5⟩:=keepD (x4.trans x5);have x15:=(xc.trans x4).trans x5;have ku:kq F5 F5 H5 (zO H5 D (.lst (ys++[w]))):=xr n5 d5 (.inl ⟨_,rfl⟩);have xu:jA F1 H1 F5 (zO H5 D (.lst (ys++[w]))):=by
       refine⟨λa o h=>?_,x15.sub,x15.new,λa f=>?_⟩;·rw[zf (zK h hD)];exact x15.same a o h
       ·have:a≠D:=by rintro rfl;exact n5 f
        rw[zf this];exact x15.dom a f
      have R5:w4 X.K F5 H5 τ' en2:=(RH.mono x4).mono x5;refine⟨d5,by omega,ts.length-(i+1),by omega,rfl,hlt,by rw[List.length_append];simp;omega,zm,F5,us++[r.2],rest2,en2,n5,xu,?_,⟨xu.dom,λj q h=>?_⟩,LH,NH,hcl2,by rw[<-hout,<-hr];simp⟩;·exact((iu.mono (x4.trans x5).kept).append (IsAll.cons iw IsAll.nil)).mono ku
      ·obtain⟨v',s',i'⟩:=R5.vals j q h;exact⟨v',s',i'.mono ku⟩
   ·have hli:i=ts.length:=by omega
    subst hli;rw[List.drop_length,jL]at hrest;have hr:rest=[]:=by injection hrest with hrest;exact hrest.symm
    subst hr;rw[List.append_nil]at hout;subst hout;refine .inl ⟨ysp ↑h,?_⟩;refine ok _ rfl _ Fc H2 (x1.trans xc) ?_;unfold wz;rw[if_pos rfl];exact⟨D,rfl,nD,j8 x1.same hD,ys,hHD,iu⟩
 ·rw[if_neg hl]at nb;exact absurd rfl nb
end
end L3
namespace L2
open PySem PySem.Spec PyProof.Rows
def m7.more(S:m7 X scope cl x caps slots)(nd:(xs++caps).Nodup):dj X scope cl xs caps slots:=⟨S.kind,S.nocell,S.names,S.clos,S.sub,S.has,S.cap,nd,S.len⟩
def Xq(hc:X.calm=true)(S:dj X scope cl xs caps slots)(hi:PI X tg iter wi)(pg:∀C ex pn s₀ H₀,PG ↑k tg g)(ht:∀C ex pn s₀ H₀,ZT ↑k ifs tt)(he:∀C ex pn s₀ H₀,PE ↑k elt te)(hs:∀v,foldedSetIterable iter X.env v=pure v):PE X ↑u (dl wi g tt te xs.length slots):=by intro pins s σ H Q I h;rw[eval_ListComp];exact mW (use:=none) I h (λD C H5 s6 m hn f keep q=>⟨m,hn,λh' hsb=>⟨.ref D,H5,keep h' hsb,rfl,q⟩⟩) hc S hi pg ht he hs
def Xr(hN:X.N.Nodup)(hi':X.N[i]?=some y)(hy:ii X.env.scope y)(hc:X.calm=true)(S:dj X scope cl xs caps slots)(hi:PI X tg iter wi)(pg:∀C ex pn s₀ H₀,PG ↑k tg g)(ht:∀C ex pn s₀ H₀,ZT ↑k ifs tt)(he:∀C ex pn s₀ H₀,PE ↑k elt te)(hsw:swapsWith ↑u (some (.Name y py)) spos.line X.env=pure true)(hs:∀v,foldedSetIterable iter X.env v=pure v)(hf:X.fn y=true\/X.env.scope.names.lookup y=some .local):PS X (.Assign [.Name y py] ↑u spos) (eI (dl wi g tt te xs.length slots) (vd i)):=by intro pins s σ H D I h;rw[exec_Assign_Name_used _ _ _ _ hsw];refine wpAny_bind (wpAny_standAt (wpAny_bind ?_));show wpAny _ X.A (do let _<-comprehension ↑u scope X.env _ (newList []) false (eval iter X.env) (some (assign (.Name y py) X.env))) _ _ s;refine wpAny_bind (wpAny_mono (mW (use:=some (assign (.Name y py) X.env)) (PQ:=λ_ s'=>∃σ' H',zo X pins σ' H' s'/\D.nx σ' H') I h (λDa C H5 s6 m hn f inv q=>?_) hc S hi pg ht he hs) (λ_ s' hq=>wpAny_pure (wpAny_pure hq)) λ_ _ e=>e);show wpAny _ X.A (assign (.Name y py) X.env (.ref Da)) _ _ s6;have I6:zo X pins σ H5 s6:=inv s6.heap (Heap.SameBut.refl _ _);obtain⟨o,es,ep,ho,hd,hr⟩:=hn;have I6':=I6.pinned (fp:=[C]) (λb hb=>by rw[List.mem_singleton.mp hb];exact f) (λb hb=>by rw[List.mem_singleton.mp hb];exact⟨o,ho,λv z=>by rw[hd]at z;cases z⟩);have pg:PG X (.Name y py) (vd i):=qh hN hi' hy hf;refine wpAny_mono (pg _ s6 _ H5 (.ref Da) (.ref Da) D.nx I6' rfl q) (λ_ s8 h8=>?_) λ_ _ z=>z;obtain⟨σ8,H8,I8,q8⟩:=h8;have hp:=I8.pin (C,o) (List.mem_append_right _ (List.mem_append_right _ (xl (List.mem_singleton.mpr rfl) ho)));exact⟨m,⟨o,es,ep,hp.1,hd,hr⟩,λh' hsb=>⟨σ8,H8,I8.unpinned.dropC ⟨hp.2.1,f.2⟩ hsb,q8⟩⟩
end L2
namespace L3
open PySem PySem.Spec PyProof.Rows L2
section
variable{X:Cx}{L:Addr}{scope:Scope}{x:Str}{xs caps:List Str}{slots:List Nat}{iter elt tg:Expr}{ifs:List Expr}{pos:Pos}{it:aN}{mg:MG}{mt:MT}{me:ME}
theorem qw(hc:X.calm=true)(C:zQ X.N X.env.scope scope x caps slots)(nd:(xs++caps).Nodup)(hcl:X.env.cells=cellsFrom L X.env.scope.names [])(hi:rO X tg iter it)(hg:∀cl C ex pn s₀ H₀,Wr ↑k tg mg)(ht:∀cl C ex pn s₀ H₀,db ↑k ifs mt)(he:∀cl C ex pn s₀ H₀,j9 ↑k elt me)(hs:∀v,foldedSetIterable iter X.env v=pure v:=by intro _;rfl):j9 X ↑u (xf it mg mt me xs.length slots):=by obtain⟨cl,S⟩:=pF C hcl;obtain⟨wi,pi,si⟩:=hi;obtain⟨g,hg⟩:=Xm (hg cl);obtain⟨tt,ht⟩:=Xl (ht cl);obtain⟨te,he⟩:=Xk (he cl);exact⟨_,Xq hc (S.more nd) pi (λC ex pn s₀ H₀=>(hg C ex pn s₀ H₀).1) (λC ex pn s₀ H₀=>(ht C ex pn s₀ H₀).1) (λC ex pn s₀ H₀=>(he C ex pn s₀ H₀).1) hs,iW si (hg 0 [] [] X.s₀ X.H₀).2 (ht 0 [] [] X.s₀ X.H₀).2 (he 0 [] [] X.s₀ X.H₀).2⟩
theorem rP(hN:X.N.Nodup)(hi':X.N[i]?=some y)(hy:ii X.env.scope y)(hc:X.calm=true)(C:zQ X.N X.env.scope scope x caps slots)(nd:(xs++caps).Nodup)(hcl:X.env.cells=cellsFrom L X.env.scope.names [])(hi:rO X tg iter it)(hg:∀cl C ex pn s₀ H₀,Wr ↑k tg mg)(ht:∀cl C ex pn s₀ H₀,db ↑k ifs mt)(he:∀cl C ex pn s₀ H₀,j9 ↑k elt me)(hsw:swapsWith ↑u (some (.Name y py)) spos.line X.env=pure true:=by rfl)(hs:∀v,foldedSetIterable iter X.env v=pure v:=by intro _;rfl)(hf:X.fn y=true\/X.env.scope.names.lookup y=some .local:=by first|exact .inl rfl|exact .inr rfl|assumption):lK X (.Assign [.Name y py] ↑u spos) (zH i (xf it mg mt me xs.length slots)):=by
 obtain⟨cl,S⟩:=pF C hcl;obtain⟨wi,pi,si⟩:=hi;obtain⟨g,hg⟩:=Xm (hg cl);obtain⟨tt,ht⟩:=Xl (ht cl);obtain⟨te,he⟩:=Xk (he cl);have s:=iW (slots:=slots) (xs:=xs) (caps:=caps) si (hg 0 [] [] X.s₀ X.H₀).2 (ht 0 [] [] X.s₀ X.H₀).2 (he 0 [] [] X.s₀ X.H₀).2;refine⟨_,Xr (i:=i) hN hi' hy hc (S.more nd) pi (λC ex pn s₀ H₀=>(hg C ex pn s₀ H₀).1) (λC ex pn s₀ H₀=>(ht C ex pn s₀ H₀).1) (λC ex pn s₀ H₀=>(he C ex pn s₀ H₀).1) hsw hs hf,?_⟩;intro B F H σ env D R w;unfold zH at w;refine s.run R (λr env' e v F' H' R' i' old _=>?_) (λx e ev F' H' R' i pins s' I=>?_) λe=>?_;·rw[e]at w;exact w F' H' _ (R'.put i i' (λa q=>zG R.fr q) old)
 ·rw[e]at w;exact w ev F' H' σ R' i pins s' I
 ·rw[e]at w;exact w
end
def GQ:List T->Option RV|[.bl b]=>some (false,.int (if b then 1 else 0))|_=>none
def GR:vg X (.type "int") (Ys X.K GQ):=by intro pins s σ H xs us Q I r h;obtain⟨F,ts,rv,d,ia,e,q⟩:=h;match ts,e with|[.bl b],e=>cases e;obtain⟨v,rfl,g⟩:=pD ia;unfold Is at g;subst g;obtain⟨u,rfl,ru⟩:=gQ r;cases ru;exact call_int_bool ⟨.int _,H,I.tok _,⟨s.toks,rfl⟩,jT d xb q rfl⟩
section
variable{P:Program}{w:World}{K:W.Frag}{h:Heap}{mg:Str->Option Value}{y:Str}{a:Addr}
abbrev lS:=Str×Tok×Value×V×T
theorem fH:∀rows:List lS,Pairs (zU P w) (rows.map λr=>(⟨WC w (.inr r.1),.str r.1 r.2.1,r.2.2.1⟩:DictEntry)) (rows.map λr=>((.inr r.1:Key),r.2.2.1))|[]=>.nil|r::rows=>.cons (ky P w r.1 r.2.1) rfl (fH rows)
theorem dq:∀{rows:List lS},(∀r∈rows,RelV r.2.2.2.1 r.2.2.1)->KV (rows.map λr=>((.inr r.1:Key),r.2.2.2.1)) (rows.map λr=>((.inr r.1:Key),r.2.2.1))|[],_=>.nil|r::rows,h=>.cons ⟨rfl,h r List.mem_cons_self⟩ (dq λx hx=>h x (List.mem_cons_of_mem _ hx))
theorem bN(z:Str):∀{rows:List lS},(∀r∈rows,Is K F H r.2.2.2.2 r.2.2.2.1)->(∀t,(rows.map λr=>(r.1,r.2.2.2.2)).lookup z=some t->∃v,ju (rows.map λr=>((.inr r.1:Key),r.2.2.2.1)) (.inr z)=some v/\Is K F H t v)/\((rows.map λr=>(r.1,r.2.2.2.2)).lookup z=none->ju (rows.map λr=>((.inr r.1:Key),r.2.2.2.1)) (.inr z)=none)
 |[],_=>⟨λt h=>(by cases h),λ_=>rfl⟩|r::rows,h=>by
  have ih:=bN z λx hx=>h x (List.mem_cons_of_mem _ hx);by_cases e:z=r.1
  ·subst e;have e1:ju ((r::rows).map λr=>((.inr r.1:Key),r.2.2.2.1)) (.inr r.1)=some r.2.2.2.1:=by simp[ju]
   have e2:((r::rows).map λr=>(r.1,r.2.2.2.2)).lookup r.1=some r.2.2.2.2:=by simp
   rw[e1,e2];exact⟨λt ht=>(by cases ht;exact⟨_,rfl,h r List.mem_cons_self⟩),λz=>(by cases z)⟩
  ·have e1:ju ((r::rows).map λr=>((.inr r.1:Key),r.2.2.2.1)) (.inr z)=ju (rows.map λr=>((.inr r.1:Key),r.2.2.2.1)) (.inr z):=by have:¬(Sum.inr r.1:Key)=.inr z:=λq=>e (Sum.inr.inj q).symm;simp[ju,this]
   have e2:((r::rows).map λr=>(r.1,r.2.2.2.2)).lookup z=(rows.map λr=>(r.1,r.2.2.2.2)).lookup z:=by simp[List.lookup,beq_eq_false_iff_ne.mpr e]
   rw[e1,e2];exact ih
theorem Qe(rows:List lS)(X:K.In h)(G:h.Ns mainGlobals mg)(g:W.nsIn K mainGlobals y=some (some (.ref a)))(l:K.lookup a=some ⟨.type "dict",none,.dict es ep,#[]⟩)(he:es.toList=rows.map λr=>(⟨WC w (.inr r.1),.str r.1 r.2.1,r.2.2.1⟩:DictEntry))(hs:(a==sysModules)=false)(nd:(rows.map (·.1)).Nodup)(hr:∀r∈rows,RelV r.2.2.2.1 r.2.2.1)(hi:∀(F:Addr->Prop)(H:Hp),∀r∈rows,Is K F H r.2.2.2.2 r.2.2.2.1):∃a kvs,mU P w K mg y a kvs (rows.map λr=>(r.1,r.2.2.2.2)):=by
 refine⟨a,_,W.mg_of X G g,hs,⟨_,es,ep,_,l,⟨rfl,rfl,rfl⟩,rfl,λe he'=>?_,?_,?_,dq hr⟩,λF H z=>bN z (hi F H)⟩
 ·have:e∈es.toList:=by simpa using he'
  rw[he]at this;obtain⟨r,_,rfl⟩:=List.mem_map.mp this;exact⟨.inr r.1,ky P w r.1 r.2.1,rfl⟩
 ·rw[he];exact fH rows
 ·unfold List.Nodup at nd⊢;rw[List.pairwise_map]at nd;rw[List.map_map,List.pairwise_map];exact nd.imp λhab z=>hab (Sum.inr.inj z)
end
def bO(t u:T):Option RV:=match t with|.int _=>(match u with|.bl _=>some ↑T|u=>tN t u)|t=>tN t u
def bP{X:Cx}:ve X (compareOp .Is) (rT X.K bO):=by
 intro pins s σ H x y v u Q I rx ry h;obtain⟨F,tx,ty,rv,d,ix,iy,e,q⟩:=h;have old:tN tx ty=some rv->wpAny ↑a X.A (compareOp .Is v u) (EP X pins σ Q) X.xe s:=λe=>Lk pins s σ H x y v u Q I rx ry ⟨F,tx,ty,rv,d,ix,iy,e,q⟩;cases tx;case int i=>
  cases ty;case bl b=>cases e;unfold Is at ix iy;subst ix iy;obtain⟨t,rfl⟩:=rx;cases ry;exact wpAny_is_plain rfl ⟨.bl false,H,I,rfl,jT d xg q rfl⟩
  all_goals exact old e
 all_goals exact old e
def dr{Q:lS->Prop}:∀r∈([]:List lS),Q r:=λ_ h=>nomatch h
def ji{Q:lS->Prop}{r:lS}{rows:List lS}(h:Q r)(t:∀r∈rows,Q r):∀x∈r::rows,Q x:=λx hx=>(List.mem_cons.mp hx).elim (λe=>e▸h) (t x)
def Xs(i:Nat)(m:ME):MS:=λenv=>match env[i]? with|some (some (true,.lst _))=>(match xj m env with|.ok (r,env')=>(match env'[i]? with|some (some (true,.lst ts))=>(match r with|(true,.lst us)=>if ts.length+us.length<=sizeLine then .nx (env'.set i (some (true,.lst (ts++us))))else .bad|_=>.bad)|_=>.bad)|.exc x=>.exc x env|.bad=>.bad)|_=>.bad
def Nu{i:Nat}{st:Stmt}(he:j9 X e m)(hp:∀te,PE X e te->PS X st (cA (Mi X.K "list" re (xJ i) (oW te WQ)))):lK X st (Xs i m):=by
 obtain⟨te,pe,se⟩:=he;refine⟨_,hp te pe,?_⟩;intro B F H σ env D R w;unfold Xs at w;split at w
 ·rename_i ts0 hi;obtain⟨a,s,nf,fr,vs,hH,iv⟩:=R.owns i _ hi;refine⟨.ref a,s,.inl ⟨rfl,vs,.inl (.inl hH)⟩,?_⟩;refine se.run R (λr env' er v F' H' R' iv' old kp=>?_) (λx er ev F' H' R' ix pins s' I=>?_) λer=>?_
  ·rw[er]at w;dsimp only at w;split at w
   ·rename_i ts' hi';split at w
    ·rename_i us;split at w;·rename_i hl;obtain⟨b,rfl,nfb,hb0,_,zs,hB,iz⟩:=iv'.there rfl;obtain⟨a',s',nf',fr',vs',hH',iv2⟩:=R'.owns i _ hi';rw[s]at s';cases s';refine⟨a,b,vs',zs,rfl,rfl,hH',hB,by rw[<-iv2.len,<-iz.len];exact hl,?_⟩;refine w F' _ σ (R'.mut hi' s ⟨vs'++zs,zm,?_⟩);exact(iv2.append iz).mono (xr nf' hH' (.inl ⟨_,rfl⟩))
     ·exact w.elim
    ·exact w.elim
   ·exact w.elim
  ·rw[er]at w;exact w ev F' H' σ R' ix pins s' I
  ·rw[er]at w;exact w
 ·exact w.elim
instance(i j:Int):Decidable (UK i j):=by unfold UK;infer_instance
def Xt(t u:T):Option RV:=match t with|.bl a=>(match u with|.bl b=>some (false,.bl (a !=b))|u=>iN t u)|t=>iN t u
section
variable{X:Cx}
theorem GS:ve X (compareOp .IsNot) (rT X.K Xt):=by
 intro pins s σ H x y v u Q I rx ry h;obtain⟨F,tx,ty,rv,d,ix,iy,e,q⟩:=h;have old:iN tx ty=some rv->wpAny ↑a X.A (compareOp .IsNot v u) (EP X pins σ Q) X.xe s:=λe=>N8 pins s σ H x y v u Q I rx ry ⟨F,tx,ty,rv,d,ix,iy,e,q⟩;cases tx;case bl a=>
  cases ty;case bl b=>cases e;unfold Is at ix iy;subst ix iy;cases rx;cases ry;refine wpAny_isNot_plain rfl ⟨.bl (a !=b),H,I,?_,jT d xg q rfl⟩;cases a<;>cases b<;>rfl
  all_goals exact old e
 all_goals exact old e
end
end L3
namespace L3
open PySem PySem.Spec PyProof.Rows PySem.W L2
def xX:Nat->List T->List T|_,[]=>[]|n,t::ts=>.tup [.int n,t]::xX (n+1) ts
theorem iX:∀(n:Nat)(ts:List T),(xX n ts).length=ts.length|_,[]=>rfl|n,t::ts=>congrArg (·+1) (iX (n+1) ts)
theorem bQ:∀(n:Nat)(ts:List T)(i:Nat),(xX n ts)[i]?=ts[i]?.map λt=>.tup [.int ((n+i:Nat):Int),t]|_,[],i=>by simp[xX]|n,t::ts,0=>by simp[xX]|n,t::ts,i+1=>by rw[xX,List.getElem?_cons_succ,List.getElem?_cons_succ,bQ (n+1) ts i];simp only[Nat.add_assoc,Nat.add_comm 1 i]
theorem bR{K:W.Frag}{F:Addr->Prop}{H:Hp}{a:Addr}{vs:List V}{ts:List T}(g1:ZU K F H a vs)(g2:IsAll K F H ts vs):pG K F H (Ls K a) (xX 0 ts):=by intro F2 H2 d k i;have h1:=g1.mono k;have h2:=g2.mono k;have hl:=h2.len;rw[iX];refine⟨λhi=>⟨⟨vs,vs[i],h1.sq,by simp[<-hl,hi]⟩,λx H3 y=>?_⟩,λhi=>⟨vs,h1.sq,by omega⟩⟩;obtain⟨p,z,hp,rfl,rfl,hx⟩:=y;obtain⟨v,hv,iv⟩:=h2.get (i:=i) (t:=ts[i]) (by simp[hi]);rw[hx vs h1.sq]at hv;cases hv;have x:=jA.alloc d (o:=.tup [.int i,z]) hp;refine⟨x,_,by rw[bQ,List.getElem?_eq_getElem hi];rfl,?_⟩;unfold Is;exact⟨p,_,rfl,.inl (.inl zm),IsAll.cons (by rw[Nat.zero_add];exact xb) (IsAll.cons (iv.mono x.kept) IsAll.nil)⟩
def uL(m:ME):MI:=λenv=>match xj m env with|.ok (r,env')=>(match r.2 with|.lst ts=>.ok (xX 0 ts,env')|_=>.bad)|.exc x=>.exc x|.bad=>.bad
theorem Xu{elts:List Expr}{k:Nat}{tp p pos:Pos}{l:Expr}{m:ME}(hg:Gl X "enumerate")(hm:X.mg "enumerate"=none)(h:j9 X l m)(hs:starEach [l] X.env=[(false,eval l X.env)]:=by rfl):Nt X (.Tuple elts k tp) (.Call (.Name "enumerate" p) [l] [] pos) (uL m):=by
 obtain⟨tl,pl,sl⟩:=h;refine⟨_,rK hg hm pl hs,?_⟩;intro B F H σ env R RS nb ok ex;unfold uL at nb ok ex;refine sl.run RS (λr env1 er v F' H' R' iv old kp=>?_) (λx er=>by rw[er]at ex;exact ex x rfl) (λer=>by rw[er]at nb;exact nb rfl);rw[er]at nb ok;dsimp only at nb ok;obtain⟨F2,R2,i2,_⟩:=R'.freeze iv (λa q=>zG RS.fr q) old;obtain⟨o,t⟩:=r;cases t<;>try exact absurd rfl nb
 case lst us=>unfold Is at i2;obtain⟨a,vs,rfl,g1,g2⟩:=i2;exact⟨a,rfl,⟨vs,g1.sq⟩,ok _ _ rfl _ F2 H' R2 (bR g1 g2)⟩
structure rQ(P:Program)(w:World)(K:W.Frag)(mg:Str->Option Value)(y:Str)(a:Addr)(kvs:List (Key×V))(tab:List (Str×Str)):Prop where
 at_:mg y=some (.ref a)obj:∃o es ep vs,K.lookup a=some o/\o.ExactDict/\o.data=.dict es ep/\KeysOf (zU P w) es/\Pairs (zU P w) es.toList vs/\(vs.map (·.1)).Nodup/\KV kvs vs
 rel:∀z x,tab.lookup z=some x->∃fa,mg x=some (.ref fa)/\ju kvs (.inr z)=some (.ref fa)
theorem VF(D:rQ X.prog X.w X.K X.mg y a kvs tab)(hg:Gl X y)(hi:PE X i ty)(hs:Y6 i)(hd:(y==↑t)=false):PE X (.Subscript (.Name y p) i pos) (Nq kvs ty):=by intro pins s σ H Q I h;refine rh PySem.F.slot_dict_getitem.lookup hs (ja (gy (v:=.ref a) hg D.at_ rfl hd pins s σ H (λx H1=>x=.ref a/\H1=H) I ⟨rfl,rfl⟩) λu s1⟨x,H1,I1,rx,ex,eH⟩=>?_);subst ex eH;obtain rfl:u=Value.ref a:=rx;refine ja (hi pins s1 σ H1 _ I1 h) λiv s2⟨z,H2,I2,rz,k,v,ez,ev,q⟩=>?_;subst ez;obtain⟨o,es,ep,vs,h1,h2,h3,h4,h5,h6,rel⟩:=D.obj;have dd:s2.heap.DictOf (zU X.prog X.w) a vs:=⟨o,es,ep,I2.kIn a o h1,h2,h3,h4,h5,h6⟩;obtain⟨w',hw,rw'⟩:=kX.some_of (by rw[<-ev];exact rel.val k);exact⟨dd.typeIs,wpAny_getItem_of (gU rz) dd.mapOf hw ⟨v,H2,I2.tok _,rw',q⟩⟩
def GT(X:Cx)(j n:Nat)(t:TA):TE:=λσ H Q=>∃fa k fd ps sp,(σ.length=X.N.length->σ[j]?=some (some (.ref fa)))/\xZ X.prog X.w X.K X.mg X.base (nr X.prog X.w) k fa fd ps sp/\k<=n/\W.keepIn X.K (.ref fa)=true/\kA X.K fd ps []/\tU X sp t σ H Q
theorem Xv{x:Str}{p:Pos}(hr:jN n X.A)(hx:PE X (.Name x p) (xJ j))(ha:PA X (e::es) t)(he:starEach (e::es) X.env=↑x::starEach es X.env:=by rfl)(hpl:(backTo pos ↑ag).any (·.1)=false:=by rfl):PE X ↑R (GT X j n t):=by intro pins s σ H Q I h;obtain⟨fa,k,fd,ps,sp,hσ,F,hk,kp,hb,h⟩:=h;refine wpAny_Call_Name_kw (ja (hx pins s σ H (λv H'=>v=.ref fa/\H'=H) I ⟨_,hσ I.len,rfl,rfl⟩) λu s0⟨v,H0,I0,r0,ev,eH⟩=>?_);subst ev eH;obtain rfl:u=Value.ref fa:=r0;refine W.callWith_K I0.ok.mod.kin kp (ja (ha pos pins s0 σ H0 _ I0 h) λus s1⟨vs,H1,I1,r,E,q,hx⟩=>⟨I1.kIn,?_⟩) he hpl;exact da F (hr.mono hk) hb I1 r q λe oa H' z s' I'=>hx e oa H' z pins s' I'
theorem zN.skip{K:W.Frag}{B:Bs}{F:Addr->Prop}{H:Hp}{σ:St}{env:En}(R:zN K B F H σ env)(j:Nat)(v:V):zN K B F H (σ.set j (some v)) (env.set j none):=by
 have hs:∀{i:Nat}{r:RV},(env.set j none)[i]?=some (some r)->env[i]?=some (some r)/\(σ.set j (some v))[i]?=σ[i]?:=λ{i r}h=>by
  rcases jw h with⟨_,_,z⟩|⟨hj,h⟩;·cases z
  ·exact⟨h,List.getElem?_set_ne (Ne.symm hj)⟩
 refine⟨R.fr,by rw[List.length_set,List.length_set];exact R.len,λi t h=>?_,λi t h=>?_,λi k t t' a h g s1 s2=>?_⟩;·rw[(hs h).2];exact R.vals i t (hs h).1
 ·rw[(hs h).2];exact R.owns i t (hs h).1
 ·rw[(hs h).2]at s1;rw[(hs g).2]at s2;exact R.sep i k t t' a (hs h).1 (hs g).1 s1 s2
def iY(z:Str):List (Str×MF)->Option MF|[]=>none|r::rs=>if z=r.1 then some r.2 else iY z rs
def du(j:Nat)(tab:List (Str×MF))(mk:ME)(ma:MA):MS:=λenv=>match xj mk env with|.ok (r,env')=>(match r.2 with|.str z=>(match iY z tab with|some f=>zJ (zj f ma) (env'.set j none)|none=>.bad)|_=>.bad)|.exc x=>.exc x env|.bad=>.bad
theorem VG(s:xG X t m):Gy X (Uz t) (zJ m):=by
 intro B F H σ env D R w;unfold zJ at w;refine s.run R (λr env' e v F' H' R' i _ _=>?_) (λx e ev F' H' R' i pins s' I=>?_) λe=>?_
 ·rw[e]at w;refine w v F' H' ⟨R'.fr,?_⟩;unfold wz at i⊢;split;·rename_i ho;rw[if_pos ho]at i;obtain⟨a,e,nf,fr,o⟩:=i;exact⟨a,e,nf,zG R.fr fr,o⟩
  ·rename_i ho;rw[if_neg ho]at i;exact i
 ·rw[e]at w;exact w ev F' H' σ R' i pins s' I
 ·rw[e]at w;exact w
def Xw(X:Cx)(n:Nat)(fs:List (Str×Str)):List (Str×MF)->Prop|[]=>True|r::rs=>(∃x ps k,fs.lookup r.1=some x/\j7 X.prog X.w X.K X.mg X.base k x ps r.2/\k<=n)/\Xw X n fs rs
theorem bS{X:Cx}{n:Nat}{fs:List (Str×Str)}{z:Str}{f:MF}:∀{rs:List (Str×MF)},Xw X n fs rs->iY z rs=some f->∃x ps k,fs.lookup z=some x/\j7 X.prog X.w X.K X.mg X.base k x ps f/\k<=n
 |[],_,h=>by cases h|r::rs,g,h=>by
  unfold iY at h;split at h;·rename_i e;cases h;rw[e];exact g.1
  ·exact bS g.2 h
theorem GU{y x:Str}{i:Expr}{p p1 p2 p3 pos pos2 pos3:Pos}{fs:List (Str×Str)}{tab:List (Str×MF)}(j:Nat)(D:∃a kvs,rQ X.prog X.w X.K X.mg y a kvs fs)(hr:jN n X.A)(hF:Xw X n fs tab)(hg:Gl X y)(hi:j9 X i mk)(hp:PG X (.Name x p1) (vd j))(hx:PE X (.Name x p2) (xJ j))(ha:aM X (e::es) ma)(hj:X.N[j]?=some x:=by rfl)(hs:Y6 i:=by intro _ _;rfl)(hd:(y==↑t)=false:=by decide)(he:starEach (e::es) X.env=↑x::starEach es X.env:=by rfl)(hpl:(backTo pos2 ↑ag).any (·.1)=false:=by rfl)(hs1:swapsWithSole [.Name x p1] (.Subscript (.Name y p) i pos) p3.line X.env=pure false:=by rfl)(hw:swappedStores [.Name x p1] (.Subscript (.Name y p) i pos) X.env=pure none:=by rfl)(h1:(assignEach [.Name x p1] X.env).map (·.2)=[assign (.Name x p1) X.env]:=by rfl):gM X [.Assign [.Name x p1] (.Subscript (.Name y p) i pos) p3,.Return (some (.Call (.Name x p2) (e::es) [] pos2)) pos3] (du j tab mk ma):=by
 obtain⟨a,kvs,D⟩:=D;obtain⟨ti,pi,si⟩:=hi;obtain⟨ta,pa,sa⟩:=ha;refine⟨_,vc (aP (VF D hg pi hs hd) hp hs1 hw h1) (qg (eG (Xv hr hx pa he hpl))),?_⟩;intro B F H σ env E R w;unfold du at w;refine si.run R (λr env' er v F' H' R' iv' old kp=>?_) (λx er ev F' H' R' ix pins s' I=>?_) λer=>?_
 ·rw[er]at w;obtain⟨o,t⟩:=r;dsimp only at w;cases t<;>try exact w.elim
  case str z=>dsimp only at w;cases o with|true=>obtain⟨_,_,_,_,_,z⟩:=iv'.there rfl;exact z.elim|false=>have iv':=iv'.is;unfold Is at iv';subst iv';cases hf:iY z tab with|none=>rw[hf]at w;exact w.elim|some f=>rw[hf]at w;dsimp only at w;obtain⟨nm,ps,k,hfs,⟨fa,fd,FK,hm,hkp,hb⟩,hk⟩:=bS hF hf;obtain⟨fa',hm',hv⟩:=D.rel z nm hfs;rw[hm]at hm';cases hm';refine⟨.inr z,.ref fa,rfl,hv,?_⟩;exact⟨fa,k,fd,ps,_,λhl=>List.getElem?_set_self (by rw[List.length_set]at hl;rw[hl];exact(List.getElem?_eq_some_iff.mp hj).1),FK,hk,hkp,hb,VG (iP sa) B F' H' _ _ E (R'.skip j _) w⟩
 ·rw[er]at w;exact w ev F' H' σ R' ix pins s' I
 ·rw[er]at w;exact w
abbrev bT:=Str×Tok×Addr×Str
theorem GV{Q:bT->Prop}:∀r∈([]:List bT),Q r:=λ_ h=>nomatch h
theorem wo{Q:bT->Prop}{r:bT}{rows:List bT}(h:Q r)(t:∀r∈rows,Q r):∀x∈r::rows,Q x:=λx hx=>(List.mem_cons.mp hx).elim (λe=>e▸h) (t x)
def Nv(r:bT):lS:=(r.1,r.2.1,.ref r.2.2.1,.ref r.2.2.1,.non)
theorem Xx{mg:Str->Option Value}(z x:Str):∀{rows:List bT},(∀r∈rows,mg r.2.2.2=some (.ref r.2.2.1))->(rows.map λr=>(r.1,r.2.2.2)).lookup z=some x->∃fa,mg x=some (.ref fa)/\ju ((rows.map Nv).map λr=>((.inr r.1:Key),r.2.2.2.1)) (.inr z)=some (.ref fa)
 |[],_,h=>by cases h|r::rows,g,h=>by
  by_cases e:z=r.1;·subst e;rw[List.map_cons,List.lookup_cons_self]at h;cases h;exact⟨_,g r List.mem_cons_self,by simp[ju,Nv]⟩
  ·have e2:((r::rows).map λr=>(r.1,r.2.2.2)).lookup z=(rows.map λr=>(r.1,r.2.2.2)).lookup z:=by simp[List.lookup,beq_eq_false_iff_ne.mpr e]
   rw[e2]at h;obtain⟨fa,h1,h2⟩:=Xx z x (λq hq=>g q (List.mem_cons_of_mem _ hq)) h;have:¬(Sum.inr r.1:Key)=.inr z:=λq=>e (Sum.inr.inj q).symm;exact⟨fa,h1,by rw[<-h2];simp[ju,Nv,this]⟩
theorem Nw{P:Program}{w:World}{K:W.Frag}{h:Heap}{mg:Str->Option Value}{y:Str}{a:Addr}(rows:List bT)(X:K.In h)(G:h.Ns mainGlobals mg)(g:W.nsIn K mainGlobals y=some (some (.ref a)))(l:K.lookup a=some ⟨.type "dict",none,.dict es ep,#[]⟩)(he:es.toList=(rows.map Nv).map λr=>(⟨WC w (.inr r.1),.str r.1 r.2.1,r.2.2.1⟩:DictEntry))(nd:(rows.map (·.1)).Nodup)(hr:∀r∈rows,W.nsIn K mainGlobals r.2.2.2=some (some (.ref r.2.2.1))):∃a kvs,rQ P w K mg y a kvs (rows.map λr=>(r.1,r.2.2.2)):=by
 refine⟨a,_,W.mg_of X G g,⟨_,es,ep,_,l,⟨rfl,rfl,rfl⟩,rfl,λe he'=>?_,?_,?_,dq (rows:=rows.map Nv) λr hr=>?_⟩,λz x=>Xx z x λr q=>W.mg_of X G (hr r q)⟩
 ·have:e∈es.toList:=by simpa using he'
  rw[he]at this;obtain⟨r,_,rfl⟩:=List.mem_map.mp this;exact⟨.inr r.1,ky P w r.1 r.2.1,rfl⟩
 ·rw[he];exact fH _
 ·unfold List.Nodup at nd⊢;rw[List.pairwise_map]at nd;rw[List.map_map,List.pairwise_map,List.pairwise_map];exact nd.imp λhab z=>hab (Sum.inr.inj z)
 ·obtain⟨q,_,rfl⟩:=List.mem_map.mp hr;rfl
end L3
namespace L3
open PySem PySem.Spec PyProof.Rows L2
def xI(ha:j9 X a ma)(hb:j9 X b mb)(hu:X.A.units+1<cLine:=by exact J9 hr)(hs:eM b:=by exactλ_ _=>rfl):j9 X (.Subscript a b pos) (m2 zA ma mb):=tO hu ha hb hs
def xT(ho:ve X (compareOp op) (rT X.K g))(ha:j9 X a ma)(hb:j9 X b mb)(hm:behindInMarks op b=false:=by exact eJ _):cQ X (.Compare a [op] [b] pos) (jX (m2 g ma mb)):=fu ho w9 ha hb hm
def xM(ho:ve X (compareOp op) (rT X.K g))(ha:j9 X a ma)(hb:j9 X b mb)(hm:behindInMarks op b=false:=by exact eJ _):j9 X (.Compare a [op] [b] pos) (m2 g ma mb):=Yp ho w9 ha hb hm
def xO(ho:ve X (binaryOp o) (rT X.K g))(ha:j9 X a ma)(hb:j9 X b mb):j9 X (.BinOp a o b pos) (m2 g ma mb):=Gu ho w9 ha hb
def oE(hu:X.A.units+40<cLine:=by exact GG hr):ve X (compareOp .Eq) (rT X.K jn):=N7 hu
def oN(hu:X.A.units+40<cLine:=by exact GG hr):ve X (compareOp .NotEq) (rT X.K qm):=Li hu
def xC(C:j7 X.prog X.w X.K X.mg X.base k x ps f)(ha:aM X (e::es) mA)(hR:jN k X.A:=by exact hr.mono ↑c)(hg:Gl X x:=by rfl)(hdb:(x==↑t)=false:=by decide)(he:starEach (e::es) X.env=↑x::starEach es X.env:=by rfl)(hpl:(backTo pos ↑ag).any (·.1)=false:=by rfl):j9 X ↑R (zj f mA):=vD C hR hg ha hdb he hpl
end L3
namespace L3
open PySem PySem.Spec PyProof.Rows L2 PySem.W
def GW(P:Program)(w:World)(K:Frag)(mg:Str->Option Value)(base:Heap)(x:Str)(C:Addr):Prop:=∃fI fd a b,ZQ K C fI/\xZ P w K mg base (nr P w) 1 fI fd [a,b] (Gj K fI)/\mg x=some ↑Q/\kA K fd [a,b] []
def mX(C:Addr)(m:ME):MS:=λenv=>match xj m env with|.ok (r,env')=>(match r.1 with|false=>.exc ⟨C,r.2⟩ env'|true=>.bad)|.exc x=>.exc x env|.bad=>.bad
theorem VH{X:Cx}{x:Str}{C:Addr}{arg:Expr}{m:ME}{p pos pos2:Pos}(hC:GW X.prog X.w X.K X.mg X.base x C)(hr:jN 2 X.A)(hg:Gl X x)(h:j9 X arg m)(hdb:(x==↑t)=false:=by decide)(he:starEach [arg] X.env=[(false,eval arg X.env)]:=by rfl):lK X (.Raise (some (.Call (.Name x p) [arg] [] pos)) none pos2) (mX C m):=by obtain⟨fI,fd,a,b,XC,F,hm,hb⟩:=hC;obtain⟨t,pe,se⟩:=h;refine⟨_,Yc XC F hr hg hm hb (λouter H s e s'⟨_,_,_,_,_,_,_,z⟩=>z) (jR pe w8 he) hdb he,?_⟩;intro B F H σ env D R w;unfold mX at w;cases hq:xj m env with|bad=>rw[hq]at w;exact w.elim|exc x0=>rw[hq]at w;refine se.run R (λr env' er=>by rw[hq]at er;cases er) (λx' er ev F' H' R' i pins s' I=>?_) (by rw[hq];intro z;cases z);rw[hq]at er;cases er;exact w ev F' H' σ R' i pins s' I|ok q=>obtain⟨⟨o,t0⟩,env'⟩:=q;rw[hq]at w;dsimp only at w;cases o with|true=>exact w.elim|false=>refine se.run R (λr env1 er v F' H' R' iv old kp=>?_) (λx er=>by rw[hq]at er;cases er) (by rw[hq];intro z;cases z);rw[hq]at er;cases er;refine⟨v,rfl,λe d n1 n2 ne pins s' I=>?_⟩;have x1:jA F' H' F' (zO H' e (.xob C d)):=jA.alloc R'.fr.dom n1;have x2:jA F' (zO H' e (.xob C d)) F' (zO (zO H' e (.xob C d)) d (.xd [("at",v)])):=jA.alloc x1.dom (by rw[zf ne];exact n2);have x:=x1.trans x2;refine w _ F' _ σ (R'.ext x) ⟨e,rfl,?_⟩ pins s' I;unfold Is;exact⟨e,d,v,rfl,by rw[zf ne.symm,zm],zm,iv.is.mono x.kept⟩
theorem zN.unset{K:Frag}{B:Bs}{F:Addr->Prop}{H:Hp}{σ:St}{env:En}(R:zN K B F H σ env)(i:Nat):zN K B F H (σ.set i none) (env.set i none):=by
 have hs:∀j,j≠i->(σ.set i none)[j]?=σ[j]?:=λj hj=>List.getElem?_set_ne (Ne.symm hj);have no:∀{j:Nat}{r:RV},(env.set i none)[j]?=some (some r)->j≠i/\env[j]?=some (some r):=λe=>by
  rcases jw e with⟨rfl,hl,er⟩|⟨hj,e⟩;·cases er
  ·exact⟨hj,e⟩
 refine⟨R.fr,by rw[List.length_set,List.length_set];exact R.len,λj t e=>?_,λj t e=>?_,λj k t t' a e1 e2 s1 s2=>?_⟩;·rw[hs j (no e).1];exact R.vals j t (no e).2
 ·rw[hs j (no e).1];exact R.owns j t (no e).2
 ·rw[hs j (no e1).1]at s1;rw[hs k (no e2).1]at s2;exact R.sep j k t t' a (no e1).2 (no e2).2 s1 s2
def bindE(nm:Option Nat)(t:T)(env:En):En:=match nm with|none=>env|some i=>env.set i (some ↑V)
def finE(nm:Option Nat)(env:En):En:=match nm with|none=>env|some i=>env.set i none
def VI(nm:Option Nat):YJ->YJ|.nx e=>.nx (finE nm e)|.bk e=>.bk (finE nm e)|.ct e=>.ct (finE nm e)|.rt r=>.rt r|_=>.bad
def mY(tab:List Addr)(nm:Option Nat)(mb mh:MS):MS:=λenv=>match mb env with|.exc x env'=>if x.C∈tab then VI nm (mh (bindE nm (.exn x.C x.at_) env'))else .bad|o=>o
theorem zN.bindE{K:Frag}{B:Bs}{F:Addr->Prop}{H:Hp}{σ:St}{env:En}{t:T}{v:V}(nm:Option Nat)(R:zN K B F H σ env)(h:Is K F H t v):zN K B F H (KZ nm v σ) (bindE nm t env):=by cases nm with|none=>exact R|some i=>exact R.put (H:=H) i (jc h) (λa q=>zG R.fr q) λa z=>(R.own_not z).2.1
theorem zN.finE{K:Frag}{B:Bs}{F:Addr->Prop}{H:Hp}{σ:St}{env:En}(nm:Option Nat)(R:zN K B F H σ env):zN K B F H (V4 nm σ) (finE nm env):=by cases nm with|none=>exact R|some i=>exact R.unset i
theorem qJ.fin{X:Cx}{B:Bs}{D:fk}{nm:Option Nat}{ev:Value}:∀{o:YJ},qJ X B D (VI nm o)->qJ (X.hdl ev) B (D.beh nm) o|.nx _,w=>λF H σ R=>w F H _ (R.finE nm)|.bk _,w=>λF H σ R=>w F H _ (R.finE nm)|.ct _,w=>λF H σ R=>w F H _ (R.finE nm)|.rt _,w=>w|.exc _ _,w=>w.elim|.bad,w=>w.elim
theorem _root_.L2.FlyN.sub{n:Nat}{ps qs:List ↑j}{H:Hp}{ev:Value}{h:Heap}(f:FlyN ps n H ev h)(s:∀p∈qs,p∈ps):FlyN qs n H ev h:=by obtain⟨e,oe,vs,a,b,c,d,g,r⟩:=f;exact⟨e,oe,vs,a,b,c,d,g,r.imp id λ⟨T,oT,ts,q1,q2,q3,q5,q4⟩=>⟨T,oT,ts,q1,q2,q3,λp z=>q5 p (s p z),q4⟩⟩
theorem GX{X:Cx}{body:List Stmt}{b0:Stmt}{bs:List Stmt}{cn:Str}{C2:Addr}{nmS:Option Str}{nm:Option Nat}{tab:List Addr}{mb mh:MS}{p pos pos2:Pos}(hst:X.stack=X.env::X.outer)(hfm:X.env.frame=some X.env.locals)(hg:Gl X cn)(hm:X.mg cn=some (.ref C2))(ht:∀C∈tab,exmOne X.K ↑Q (.ref C2)=some true)(hn:Gm X nmS nm)(hb:∀ps E,gM (X.wx ps E) body mb)(hh:∀ev,gM (X.hdl ev) (b0::bs) mh)(hdb:(cn==↑t)=false:=by decide):lK X (.Try body [.ExceptHandler (some (.Name cn p)) nmS (b0::bs) pos] [] [] pos2) (mY tab nm mb mh):=by refine⟨_,V5,?_⟩;intro B F H σ env D R w pins;obtain⟨t,pb,sb⟩:=hb pins (rn X pins D [.ExceptHandler (some (.Name cn p)) nmS (b0::bs) pos]);refine⟨t,pb,sb B F H σ env D R ?_⟩;unfold mY at w;cases ho:mb env with|nx e=>rw[ho]at w;exact w|bk e=>rw[ho]at w;exact w|ct e=>rw[ho]at w;exact w|rt r=>rw[ho]at w;exact w|bad=>rw[ho]at w;exact w|exc x env'=>
  rw[ho]at w;dsimp only at w;by_cases hC:x.C∈tab;·rw[if_pos hC]at w;intro ev F1 H1 σ1 R1 ix pins' s'⟨I,fl⟩;obtain⟨e,rfl,i0⟩:=ix;have i1:=i0;unfold Is at i1;obtain⟨e1,d,v,ee,h1,h2,h3⟩:=i1;cases ee;unfold rn;refine cM (X:=X.wx pins (rn X pins D [.ExceptHandler (some (.Name cn p)) nmS (b0::bs) pos])) I hst hfm h1 fl λh' J fl'=>?_;obtain⟨th,ph,sh⟩:=hh (.ref e);refine ZS J.ofWx h1 h2 (fl'.sub λq z=>?_) hg hm (ht _ hC) hn hdb ph (sh B F1 H1 _ _ _ (R1.bindE nm i0) w.fin);exact List.mem_append_left _ z
  ·rw[if_neg hC]at w;exact w.elim
def Xy(tab:List Addr)(m:ME):ME:=λenv=>(m env).bind λr=>match r.2 with|.exn C t=>if C∈tab then .ok (false,t)else .bad|_=>.bad
theorem Nx{X:Cx}{e:Expr}{m:ME}{tab:List Addr}{pos:Pos}(ht:∀C∈tab,Q0 X.K C)(h:j9 X e m)(hb:attributeBase e "at" X.env (eval e X.env)=eval e X.env:=by rfl):j9 X (.Attribute e "at" pos) (Xy tab m):=by
 obtain⟨t,pe,se⟩:=h;refine⟨_,Gp pe hb,?_⟩;intro F H σ env Q R nb ok ex;unfold Xy at nb ok ex;refine se.val R ↑b (λr e1 v F1 H1 x1 i1=>?_) λx z=>ex x ↑v;rw[e1,bind_ok]at nb ok;obtain⟨bb,t0⟩:=r;dsimp only at nb ok i1;cases t0<;>dsimp only at nb ok<;>try(exact absurd rfl nb)
 case exn C t1=>
  by_cases hC:C∈tab;·rw[if_pos hC]at ok;unfold Is at i1;obtain⟨e,d,v1,rfl,h1,h2,h3⟩:=i1;exact⟨e,C,d,_,v1,rfl,h1,h2,ht C hC,rfl,ok _ rfl _ F1 H1 x1 (jc h3)⟩
  ·rw[if_neg hC]at nb;exact absurd rfl nb
def og(tab:List (Addr×Bool))(m:ME):ME:=λenv=>(m env).bind λr=>match r.2 with|.exn C _=>(match GN C tab with|some b=>.ok (false,.bl b)|none=>.bad)|_=>.bad
def Lz(c:V)(tab:List (Addr×Bool)):List V->Hp->VK->Prop:=λxs H Q=>∃e C d fs b,xs=[.ref e,c]/\H e=some (.xob C d)/\H d=some (.xd fs)/\GN C tab=some b/\Q (.bl b) H
theorem GY{X:Cx}{tab:List (Addr×Bool)}{c:V}{c':Value}(rc:∀u,RelV c u->u=c')(ht:∀p∈tab,Q0 X.K p.1/\kitOne X.K (.ref p.1) c'=some p.2):vg X (.builtin "isinstance") (Lz c tab):=by intro pins s σ H xs us Q I r h;obtain⟨e,C,d,fs,b,rfl,h1,h2,hl,q⟩:=h;obtain⟨u,u2,rfl,ru,ru2⟩:=KR r;obtain rfl:u=Value.ref e:=ru;rw[rc u2 ru2];obtain⟨R,k⟩:=ht _ (rN hl);exact Gq I h1 h2 R k λtk=>⟨.bl b,H,I.tok _,rfl,q⟩
theorem Xz{X:Cx}{tab:List (Addr×Bool)}{c:V}{c':Value}{e:Expr}{m:ME}{x:Str}{p p2 pos:Pos}(hg:Gl X "isinstance")(hm:X.mg "isinstance"=none)(pc:PE X (.Name x p2) (tC c))(rc:∀u,RelV c u->u=c')(ht:∀p∈tab,Q0 X.K p.1/\kitOne X.K (.ref p.1) c'=some p.2)(h:j9 X e m)(hs:starEach (e::[.Name x p2]) X.env=↑x::starEach [.Name x p2] X.env:=by rfl)(hs2:starEach [.Name x p2] X.env=(false,eval (.Name x p2) X.env)::starEach [] X.env:=by rfl)(hpl:(backTo pos (starEach [.Name x p2] X.env)).any (·.1)=false:=by rfl):j9 X (.Call (.Name "isinstance" p) [e,.Name x p2] [] pos) (og tab m):=by
 obtain⟨t,pe,se⟩:=h;refine⟨_,cF (GY rc ht) hg hm zT (jR pe (jR pc w8 hs2) hs) (he:=hs) (hpl:=hpl),?_⟩;intro F H σ env Q R nb ok ex;unfold og at nb ok ex;refine se.val R ↑b (λr e1 v F1 H1 x1 i1=>?_) λx z=>ex x ↑v;rw[e1,bind_ok]at nb ok;obtain⟨bb,t0⟩:=r;dsimp only at nb ok i1;cases t0<;>dsimp only at nb ok<;>try(exact absurd rfl nb)
 case exn C t1=>cases hl:GN C tab with|none=>rw[hl]at nb;exact absurd rfl nb|some b=>rw[hl]at ok;unfold Is at i1;obtain⟨e,d,v1,rfl,h1,h2,h3⟩:=i1;exact⟨e,C,d,_,b,rfl,h1,h2,hl,ok _ rfl _ F1 H1 x1 (jc xg)⟩
def GZ(kvs:List (Key×V))(ty tx:TE):TE:=λσ H Q=>ty σ H λu H1=>tx σ H1 λz H2=>∃k,u=kV k/\Q ((ju kvs k).getD z) H2
theorem XA{X:Cx}{y:Str}{a:Addr}{kvs:List (Key×V)}{tab:List (Str×T)}{e f:Expr}{ty tx:TE}{p apos cpos:Pos}(D:mU X.prog X.w X.K X.mg y a kvs tab)(hg:Gl X y)(he:PE X e ty)(hf:PE X f tx)(m:M2 X (.Name y p) "get" apos e f cpos)(hd:(y==↑t)=false):PE X (.Call (.Attribute (.Name y p) "get" apos) [e,f] [] cpos) (GZ kvs ty tx):=by intro pins s σ H Q I h;refine wpAny_Call_method m.base m.few m.line PySem.F.plainAttrs_dict PySem.F.slot_dict_get PySem.F.type_dict_get (ja (gy (v:=.ref a) hg D.mg rfl hd pins s σ H (λx H1=>x=.ref a/\H1=H) I ⟨rfl,rfl⟩) λu s1⟨x,H1,I1,rx,ex,eH⟩=>?_);subst ex eH;obtain rfl:u=Value.ref a:=rx;obtain⟨vs,rel,dd⟩:=D.of I1;refine⟨dd.typeIs,λb q=>by cases q;obtain⟨ob,_,_,h1,h2,_⟩:=dd;exact⟨ob,h1,h2.2.1⟩,?_⟩;rw[m.trees];refine Calls.callWith_builtin rfl (Calls.evalArgs_plain (Calls.spliced_cons (ja (he pins s1 σ H1 _ I1 h) λiv s2⟨y,H2,I2,ry,q2⟩=>Calls.spliced_cons (ja (hf pins s2 σ H2 _ I2 q2) λfv s3⟨z,H3,I3,rz,k,ek,q3⟩=>Calls.spliced_nil ?_))));subst ek;obtain⟨vs,rel,dd⟩:=D.of I3;exact call_meetsIn PySem.F.slot_dict_get dd.typeIs PySem.F.entry_dict_get (PySem.F.args_dict_get_3 _ _ _) (meets_dict_get_default (zU X.prog X.w) a (gU ry) D.sys fv) ⟨_,dd.mapOf,_,H3,I3.tok _,(rel.val k).getD rz,q3⟩
def ug(tab:List (Str×T))(mi mz:ME):ME:=λenv=>(mi env).bind λk=>(mz env).bind λz=>match k.2 with|.str x=>.ok (false,(tab.lookup x).getD z.2)|_=>.bad
theorem rR{X:Cx}{y:Str}{tab:List (Str×T)}{e f:Expr}{mi mz:ME}{p apos cpos:Pos}(D:∃a kvs,mU X.prog X.w X.K X.mg y a kvs tab)(hg:Gl X y)(he:j9 X e mi)(hf:j9 X f mz)(m:M2 X (.Name y p) "get" apos e f cpos:=by exact⟨rfl,rfl,rfl,rfl⟩)(hd:(y==↑t)=false:=by decide):j9 X (.Call (.Attribute (.Name y p) "get" apos) [e,f] [] cpos) (ug tab mi mz):=by
 obtain⟨a,kvs,D⟩:=D;obtain⟨ti,pi,si⟩:=he;obtain⟨tz,pz,sz⟩:=hf;refine⟨_,XA D hg pi pz m hd,?_⟩;intro F H σ env Q R nb ok ex;unfold ug at nb ok ex;refine si.val R ↑b (λr1 e1 v1 F1 H1 x1 i1=>?_) λx z=>ex x ↑v;rw[e1,bind_ok]at nb ok ex;refine sz.val (R.mono x1) ↑b (λr2 e2 v2 F2 H2 x2 i2=>?_) λx z=>(ex x ↑v).mono x1;rw[e2,bind_ok]at nb ok;obtain⟨b,t⟩:=r1;dsimp only at nb ok i1;cases t<;>dsimp only at nb ok<;>try(exact absurd rfl nb)
 case str z=>unfold Is at i1;subst i1;refine⟨.inr z,rfl,ok _ rfl _ F2 H2 (x1.trans x2) (jc ?_)⟩;have:=D.rel F2 H2 z;cases hl:tab.lookup z with|none=>rw[this.2 hl];exact i2|some t=>obtain⟨v,hv,iv⟩:=this.1 t hl;rw[hv];exact iv
theorem Jl{K:Frag}{F:Addr->Prop}{H:Hp}{p:Addr}{od:Option Addr}{a:Int}{ta:Tok}{n:Nat}{sl:Array (Option Value)}(l:K.lookup p=some ⟨.type "tuple",od,.seq #[.int a ta] n,sl⟩):Is K F H (.tup [.int a]) (.ref p):=by unfold Is;exact⟨p,[.int a],rfl,.inr ⟨_,_,_,l,rfl,rfl,by show 1<=sizeLine;decide,.cons ⟨_,rfl⟩ .nil⟩,IsAll.cons (by unfold Is;rfl) IsAll.nil⟩
theorem VJ{K:Frag}{F:Addr->Prop}{H:Hp}{p:Addr}{od:Option Addr}{a b:Int}{ta tb:Tok}{n:Nat}{sl:Array (Option Value)}(l:K.lookup p=some ⟨.type "tuple",od,.seq #[.int a ta,.int b tb] n,sl⟩):Is K F H (.tup [.int a,.int b]) (.ref p):=by unfold Is;exact⟨p,[.int a,.int b],rfl,.inr ⟨_,_,_,l,rfl,rfl,by show 2<=sizeLine;decide,.cons ⟨_,rfl⟩ (.cons ⟨_,rfl⟩ .nil)⟩,IsAll.cons (by unfold Is;rfl) (IsAll.cons (by unfold Is;rfl) IsAll.nil)⟩
def Jm(K:Frag)(mg:Str->Option Value)(x qual:Str)(st:Stmt)(C:Addr):Prop:=∃fI fd,ZQ K C fI/\eS K "__init__" qual st fI fd/\mg x=some ↑Q
theorem Jm.ok{P:Program}{w:World}{K:Frag}{mg:Str->Option Value}{base:Heap}{x qual a b:Str}{st:Stmt}{C:Addr}{p1 p2 p3 pos:Pos}(h:Jm K mg x qual st C)(S:zg [a,b] [a,b] (zb st))(hbd:j6 st=[.Assign [.Attribute (.Name a p1) "at" p3] (.Name b p2) pos])(hb:∀(kV doc pm:Value)(an:Option Addr)(cdv ct:Value)(us:List Value),us.length=[a,b].length->bindArgs (W.fnOf "__init__" qual (jS st) (j6 st) (zb st) .none kV doc pm an cdv ct) ⟨us,[]⟩=pure ([a,b].zip us))(hd1:(a==↑t)=false:=by decide)(hd2:(b==↑t)=false:=by decide)(hc1:(a==("__classdict__":Str))=false:=by decide)(hc2:(b==("__classdict__":Str))=false:=by decide)(v1:aK (zb st) a:=by first|exact Or.inl rfl|exact Or.inr (Or.inl rfl)|exact Or.inr (Or.inr rfl))(v2:aK (zb st) b:=by first|exact Or.inl rfl|exact Or.inr (Or.inl rfl)|exact Or.inr (Or.inr rfl)):GW P w K mg base x C:=by obtain⟨fI,fd,XC,F,hm⟩:=h;exact⟨fI,fd,a,b,XC,V3 F S hbd hd1 hd2 hc1 hc2 v1 v2,hm,F.binds hb⟩
end L3
namespace L2
open PySem PySem.Spec PyProof.Rows
def Mr(b:Bool):String:=if b then"list_iterator"else"tuple_iterator"
def nM(h:Heap)(b:Bool)(it l:Addr)(i:Nat):Prop:=∃o,h.get? it=some o/\o.cls=.type (Mr b)/\o.data=.fields #[.ref l,.int i 0]
def lT(h:Heap)(b:Bool)(l:Addr)(xs:Array Value):Prop:=∃o,h.get? l=some o/\o.cls=.type (if b then"list"else"tuple")/\∃n,o.data=.seq xs n
theorem nM.at{h h':Heap}{b:Bool}{it l:Addr}{i:Nat}(x:nM h b it l i)(k:∀o,h.get? it=some o->h'.get? it=some o):nM h' b it l i:=let⟨o,e,r⟩:=x;⟨o,k o e,r⟩
theorem lT.at{h h':Heap}{b:Bool}{l:Addr}{xs:Array Value}(x:lT h b l xs)(k:∀o,h.get? l=some o->h'.get? l=some o):lT h' b l xs:=let⟨o,e,r⟩:=x;⟨o,k o e,r⟩
section
variable{prog:Program}{w:World}{A:Around}{E:Value->Shared->Prop}{s:Shared}{b b1 b2:Bool}{z TI TO i1 i2 l1 l2 it l:Addr}{k k1 k2:Nat}{xs ys:Array Value}{x y u v:Value}
theorem Qf{Q:Value->Shared->Prop}(hl:lT s.heap b l xs)(hQ:Q ↑A {s with heap:=s.heap.push {cls:=.type (Mr b),data:=.fields #[.ref l,.int 0 0]}}):wpAny ↑d A (pyIter (.ref l)) Q E s:=by
 cases b;·exact iter_tuple hl hQ
 ·exact wpAny_pyIter_list hl hQ
theorem XB{Q:Value->Shared->Prop}(hit:nM s.heap b it l k)(hl:lT s.heap b l xs)(hx:xs[k]?=some x)(hQ:∀h',nM h' b it l (k+1)->Heap.SameBut it s.heap h'->Q x {s with heap:=h'}):wpAny ↑d A (Builtin.SmallTypes.nextOf (.ref it)) Q E s:=by
 cases b;·obtain⟨o,ho,hc,hd⟩:=hit;obtain⟨p,hp,_,n,hs⟩:=hl;have ty:s.TypeIs (.ref it) "tuple_iterator":=⟨o,ho,hc⟩;unfold Builtin.SmallTypes.nextOf;refine wpAny_bind (wpAny_callSpecial?_slot (name:=Str.ofString "__next__") ty slot_tupleiter_next (wpAny_call_entry slot_tupleiter_next ty entry_tupleiter_next ?_ (args_tupleiter_next _)));refine wpAny_bind (m:=field (.ref it) 0) (wpAny_field ho hd (x:=.ref l) rfl ?_);refine wpAny_bind (m:=field (.ref it) 1) (wpAny_field ho hd (x:=.int k 0) rfl (wpAny_bind (m:=seqItems? (.ref l)) (wpAny_seqItems hp hs ?_)));simp only[Int.toNat_natCast,hx];exact wpAny_bind (wpAny_setField ho hd ↑D (wpAny_pure ⟨x,rfl,wpAny_pure (hQ _ ⟨_,Heap.get?_update_self _ ho (Obj.isFreed_of_fields (Obj.data_mapFields hd _)),(Obj.cls_mapFields ..).trans hc,by rw[Obj.data_mapFields hd];simp[rawInt]⟩ (Heap.SameBut.update ..))⟩))
 ·exact wpAny_nextOf_list_item hit hl hx hQ
theorem Ny{Q:Value->Shared->Prop}(hh:A.handled=none)(hit:nM s.heap b it l k)(hl:lT s.heap b l xs)(hx:xs[k]?=none)(hE:∀h' e,Heap.ExtBut it s.heap h'->(∃o,h'.get? e=some o/\o.cls=.type "StopIteration")->E (.ref e) {s with heap:=h'}):wpAny ↑d A (Builtin.SmallTypes.nextOf (.ref it)) Q E s:=by
 cases b
 ·obtain⟨o,ho,hc,hd⟩:=hit;obtain⟨p,hp,_,n,hs⟩:=hl;have ty:s.TypeIs (.ref it) "tuple_iterator":=⟨o,ho,hc⟩;unfold Builtin.SmallTypes.nextOf;refine wpAny_bind (wpAny_callSpecial?_slot (name:=Str.ofString "__next__") ty slot_tupleiter_next (wpAny_call_entry slot_tupleiter_next ty entry_tupleiter_next ?_ (args_tupleiter_next _)));refine wpAny_bind (m:=field (.ref it) 0) (wpAny_field ho hd (x:=.ref l) rfl ?_);refine wpAny_bind (m:=field (.ref it) 1) (wpAny_field ho hd (x:=.int k 0) rfl (wpAny_bind (m:=seqItems? (.ref l)) (wpAny_seqItems hp hs ?_)));simp only[Int.toNat_natCast,hx];refine wpAny_bind (wpAny_rule (wpAny_bind (wpAny_setField ho hd ↑D (wpAny_bind (m:=newExc (.type "StopIteration") []) ?_))));simp only[newExc,newTuple];refine wpAny_bind (wpAny_newObj_type (wpAny_bind (m:=firstArgMember _ _) (wpAny_of_eq (a:=Value.none) (by first|rfl|(simp only[firstArgMember];rfl)) (wpAny_newObj_type ?_ (by size_fits)))) (by size_fits));simp only[raiseNew];refine wpAny_bind (wpAny_handled ?_);first|rw[show A.in1.handled=none from hh]|rw[hh]
  exact wpAny_bind (wpAny_pure (wpAny_throw (hE _ _ (((Heap.SameBut.update ..).extBut.push _).push _) ⟨_,Heap.get?_push_size _ rfl,rfl⟩)))
 ·exact wpAny_nextOf_list_end hh hit hl hx hE
theorem Jn{Q:Value->Shared->Prop}(D:ZipApart z TI TO i1 i2 l1 l2)(hz:IsZip s.heap z TI TO .none)(hTI:IsPair s.heap TI (.ref i1) (.ref i2))(hTO:IsPair s.heap TO u v)(h1:nM s.heap b1 i1 l1 k1)(h2:nM s.heap b2 i2 l2 k2)(hl1:lT s.heap b1 l1 xs)(hl2:lT s.heap b2 l2 ys)(hx:xs[k1]?=some x)(hy:ys[k2]?=some y)(hQ:∀h',IsZip h' z TI TO (rawInt s.heap.objs.size)->IsPair h' TO x y->nM h' b1 i1 l1 (k1+1)->nM h' b2 i2 l2 (k2+1)->IsPair h' s.heap.objs.size x y->h'.objs.size=s.heap.objs.size+1->(∀c o,c∉[z,TO,i1,i2]->s.heap.get? c=some o->h'.get? c=some o)->Q ↑A {s with heap:=h'}):wpAny ↑d A (Builtin.«zip.__next__» ⟨[.ref z],[]⟩) (λfin s'=>∃v,fin=.done (.ret v)/\Q v s') E s:=by
 refine wpAny_bind (m:=field (.ref z) 2) (wpAny_field hz rfl (x:=.bool false) rfl ?_);refine wpAny_bind (m:=field (.ref z) 3) (wpAny_field hz rfl (x:=.ref TI) rfl (wpAny_bind (wpAny_seqItems hTI rfl ?_)));refine wpAny_bind (m:=Builtin.SmallTypes.ownedTupleIsFree (.ref z)) ?_;unfold Builtin.SmallTypes.ownedTupleIsFree;refine wpAny_bind (wpAny_field hz rfl (x:=.none) rfl (wpAny_pure ?_));simp only[if_true];refine wpAny_bind (wpAny_rule (wpAny_bind (wpAny_field hz rfl (x:=.ref TO) rfl (wpAny_bind (wpAny_setField_rec hz ↑D λg1 z1 e1=>?_)))));replace z1:IsZip g1 z TI TO .ellipsis:=z1;refine wpAny_bind ?_;simp only[List.zipIdx_cons,List.zipIdx_nil,List.forIn_cons,List.forIn_nil];refine wpAny_bind (wpAny_bind (wpAny_onRaise ?_));refine wpAny_bind (m:=Builtin.SmallTypes.nextOf (.ref i1)) (XB (h1.at λo e=>e1.extBut _ _ D.i1z e) (hl1.at λo e=>e1.extBut _ _ D.l1z e) hx λg2 a2 e2=>wpAny_pure ?_);have t2:IsPair g2 TO u v:=e2.extBut _ _ D.TOi1 (e1.extBut _ _ D.TOz hTO);refine wpAny_bind (wpAny_seqItems t2 rfl (wpAny_bind (wpAny_updateSeq_pair t2 λg3 t3 e3=>?_)));replace t3:IsPair g3 TO x v:=t3;refine wpAny_bind (wpAny_letGo (wpAny_pure (wpAny_bind (wpAny_bind (wpAny_onRaise ?_)))));refine wpAny_bind (m:=Builtin.SmallTypes.nextOf (.ref i2)) (XB (h2.at λo e=>e3.extBut _ _ D.TOi2.symm (e2.extBut _ _ D.i12.symm (e1.extBut _ _ D.i2z e))) (hl2.at λo e=>e3.extBut _ _ D.l2TO (e2.extBut _ _ D.l2i1 (e1.extBut _ _ D.l2z e))) hy λg4 a4 e4=>wpAny_pure ?_);have t4:IsPair g4 TO x v:=e4.extBut _ _ D.TOi2 t3;refine wpAny_bind (wpAny_seqItems t4 rfl (wpAny_bind (wpAny_updateSeq_pair t4 λg5 t5 e5=>?_)));replace t5:IsPair g5 TO x y:=t5;refine wpAny_bind (wpAny_letGo (wpAny_pure (wpAny_pure (wpAny_bind (wpAny_seqItems t5 rfl (wpAny_bind (wpAny_newTuple ?_)))))));have hsz:g5.objs.size=s.heap.objs.size:=by rw[e5.1,e4.1,e3.1,e2.1,e1.1]
 have z5:IsZip g5 z TI TO .ellipsis:=e5.extBut _ _ D.TOz.symm (e4.extBut _ _ D.i2z.symm (e3.extBut _ _ D.TOz.symm (e2.extBut _ _ D.i1z.symm z1)));have k5:∀c o,c∉[z,TO,i1,i2]->s.heap.get? c=some o->g5.get? c=some o:=λc o hc e=>by simp only[List.mem_cons,List.not_mem_nil,or_false,not_or]at hc;exact e5.extBut _ _ hc.2.1 (e4.extBut _ _ hc.2.2.2 (e3.extBut _ _ hc.2.1 (e2.extBut _ _ hc.2.2.1 (e1.extBut _ _ hc.1 e))))
 have a5:nM g5 b1 i1 l1 (k1+1):=a2.at λo e=>e5.extBut _ _ D.TOi1.symm (e4.extBut _ _ D.i12 (e3.extBut _ _ D.TOi1.symm e));have c5:nM g5 b2 i2 l2 (k2+1):=a4.at λo e=>e5.extBut _ _ D.TOi2.symm e;have zl:z<g5.objs.size:=Heap.lt_size z5;refine wpAny_bind (m:=Builtin.SmallTypes.ownedTupleHandOut (.ref z) (.ref g5.objs.size)) ?_;unfold Builtin.SmallTypes.ownedTupleHandOut;have z6:IsZip (g5.push {cls:=.type "tuple",data:=.seq #[x,y]}) z TI TO .ellipsis:=Heap.get?_push_of_some _ z5;refine wpAny_bind (wpAny_setField_rec z6 ↑D λg7 z7 e7=>?_);replace z7:IsZip g7 z TI TO (rawInt g5.objs.size):=z7;refine wpAny_setField_rec z7 ↑D λg8 z8 e8=>?_;replace z8:IsZip g8 z TI TO (rawInt g5.objs.size):=z8;have up:∀c o,c≠z->g5.get? c=some o->g8.get? c=some o:=λc o c1 e=>e8.extBut _ _ c1 (e7.extBut _ _ c1 (Heap.get?_push_of_some _ e));have p8:IsPair g8 g5.objs.size x y:=e8.extBut _ _ (Nat.ne_of_gt zl) (e7.extBut _ _ (Nat.ne_of_gt zl) (Heap.get?_push_size _ rfl));have s8:g8.objs.size=g5.objs.size+1:=by rw[e8.1,e7.1,Heap.size_push]
 rw[hsz]at z8 p8 s8;refine wpAny_pure ⟨_,rfl,?_⟩;show Q (.ref g5.objs.size) _;rw[hsz];exact hQ g8 z8 (up _ _ D.TOz t5) (a5.at λo e=>up _ o D.i1z e) (c5.at λo e=>up _ o D.i2z e) p8 s8 λc o hc e=>up c o (λq=>hc (by simp[q])) (k5 c o hc e)
theorem XD{Q:Fin->Shared->Prop}(hh:A.handled=none)(D:ZipApart z TI TO i1 i2 l1 l2)(hz:IsZip s.heap z TI TO .none)(hTI:IsPair s.heap TI (.ref i1) (.ref i2))(hTO:IsPair s.heap TO u v)(h1:nM s.heap b1 i1 l1 k1)(h2:nM s.heap b2 i2 l2 k2)(hl1:lT s.heap b1 l1 xs)(hl2:lT s.heap b2 l2 ys)(hend:xs[k1]?=none\/ys[k2]?=none)(hE:∀h' e,(∀c o,c∉[z,TO,i1,i2]->s.heap.get? c=some o->h'.get? c=some o)->(∃o,h'.get? e=some o/\o.cls=.type "StopIteration")->E (.ref e) {s with heap:=h'}):wpAny ↑d A (Builtin.«zip.__next__» ⟨[.ref z],[]⟩) Q E s:=by
 refine wpAny_bind (m:=field (.ref z) 2) (wpAny_field hz rfl (x:=.bool false) rfl ?_);refine wpAny_bind (m:=field (.ref z) 3) (wpAny_field hz rfl (x:=.ref TI) rfl (wpAny_bind (wpAny_seqItems hTI rfl ?_)));refine wpAny_bind (m:=Builtin.SmallTypes.ownedTupleIsFree (.ref z)) ?_;unfold Builtin.SmallTypes.ownedTupleIsFree;refine wpAny_bind (wpAny_field hz rfl (x:=.none) rfl (wpAny_pure ?_));simp only[if_true];refine wpAny_bind (wpAny_rule (wpAny_bind (wpAny_field hz rfl (x:=.ref TO) rfl (wpAny_bind (wpAny_setField_rec hz ↑D λg1 z1 e1=>?_)))));replace z1:IsZip g1 z TI TO .ellipsis:=z1;refine wpAny_bind ?_;simp only[List.zipIdx_cons,List.zipIdx_nil,List.forIn_cons,List.forIn_nil];refine wpAny_bind (wpAny_bind (wpAny_onRaise ?_));have nc:∀{c:Addr},c∉[z,TO,i1,i2]->c≠z/\c≠TO/\c≠i1/\c≠i2:=λh=>by simpa only[List.mem_cons,List.not_mem_nil,or_false,not_or]using h
 have nz:∀{g:Heap}{e:Addr}{o:Obj},IsZip g z TI TO .ellipsis->g.get? e=some o->o.cls=.type "StopIteration"->e≠z:=λa b c q=>by subst q;rw[a]at b;cases b;simp at c
 cases hx:xs[k1]? with|none=>refine wpAny_bind (m:=Builtin.SmallTypes.nextOf (.ref i1)) (Ny hh (h1.at λo e=>e1.extBut _ _ D.i1z e) (hl1.at λo e=>e1.extBut _ _ D.l1z e) hx λg2 e e2⟨oe,he,ce⟩=>?_);have z2:IsZip g2 z TI TO .ellipsis:=e2 _ _ D.i1z.symm z1;exact wpAny_setField_rec z2 ↑D λg3 _ e3=>hE g3 e (λc o hc q=>e3.extBut _ _ (nc hc).1 (e2 _ _ (nc hc).2.2.1 (e1.extBut _ _ (nc hc).1 q))) ⟨oe,e3.extBut _ _ (nz z2 he ce) he,ce⟩|some x=>have hy:ys[k2]?=none:=hend.resolve_left (by rw[hx];exactλq=>by cases q);refine wpAny_bind (m:=Builtin.SmallTypes.nextOf (.ref i1)) (XB (h1.at λo e=>e1.extBut _ _ D.i1z e) (hl1.at λo e=>e1.extBut _ _ D.l1z e) hx λg2 a2 e2=>wpAny_pure ?_);have t2:IsPair g2 TO u v:=e2.extBut _ _ D.TOi1 (e1.extBut _ _ D.TOz hTO);refine wpAny_bind (wpAny_seqItems t2 rfl (wpAny_bind (wpAny_updateSeq_pair t2 λg3 t3 e3=>?_)));refine wpAny_bind (wpAny_letGo (wpAny_pure (wpAny_bind (wpAny_bind (wpAny_onRaise ?_)))));refine wpAny_bind (m:=Builtin.SmallTypes.nextOf (.ref i2)) (Ny hh (h2.at λo e=>e3.extBut _ _ D.TOi2.symm (e2.extBut _ _ D.i12.symm (e1.extBut _ _ D.i2z e))) (hl2.at λo e=>e3.extBut _ _ D.l2TO (e2.extBut _ _ D.l2i1 (e1.extBut _ _ D.l2z e))) hy λg4 e e4⟨oe,he,ce⟩=>?_);have z4:IsZip g4 z TI TO .ellipsis:=e4 _ _ D.i2z.symm (e3.extBut _ _ D.TOz.symm (e2.extBut _ _ D.i1z.symm z1));exact wpAny_setField_rec z4 ↑D λg5 _ e5=>hE g5 e (λc o hc q=>e5.extBut _ _ (nc hc).1 (e4 _ _ (nc hc).2.2.2 (e3.extBut _ _ (nc hc).2.1 (e2.extBut _ _ (nc hc).2.2.1 (e1.extBut _ _ (nc hc).1 q))))) ⟨oe,e5.extBut _ _ (nz z4 he ce) he,ce⟩
theorem bU{Q:Option Value->Shared->Prop}(D:ZipApart z TI TO i1 i2 l1 l2)(hz:IsZip s.heap z TI TO .none)(hTI:IsPair s.heap TI (.ref i1) (.ref i2))(hTO:IsPair s.heap TO u v)(h1:nM s.heap b1 i1 l1 k1)(h2:nM s.heap b2 i2 l2 k2)(hl1:lT s.heap b1 l1 xs)(hl2:lT s.heap b2 l2 ys)(hx:xs[k1]?=some x)(hy:ys[k2]?=some y)(hQ:∀h',IsZip h' z TI TO (rawInt s.heap.objs.size)->IsPair h' TO x y->nM h' b1 i1 l1 (k1+1)->nM h' b2 i2 l2 (k2+1)->IsPair h' s.heap.objs.size x y->h'.objs.size=s.heap.objs.size+1->(∀c o,c∉[z,TO,i1,i2]->s.heap.get? c=some o->h'.get? c=some o)->Q (some ↑A) {s with heap:=h'}):wpAny ↑d A (pyNext (.ref z)) Q E s:=by have hT:s.TypeIs (.ref z) "zip":=⟨_,hz,rfl⟩;unfold pyNext;exact wpAny_bind (wpAny_attempt (wpAny_callSpecial?_slot (name:=Str.ofString "__next__") hT F.slot_zip_next (wpAny_call_entry F.slot_zip_next hT F.entry_zip_next (Jn D hz hTI hTO h1 h2 hl1 hl2 hx hy λh' a1 a2 a3 a4 a5 a6 a7=>wpAny_pure (hQ h' a1 a2 a3 a4 a5 a6 a7)) (F.args_zip_next_1 _))))
theorem bV{Q:Option Value->Shared->Prop}(hh:A.handled=none)(D:ZipApart z TI TO i1 i2 l1 l2)(hz:IsZip s.heap z TI TO .none)(hTI:IsPair s.heap TI (.ref i1) (.ref i2))(hTO:IsPair s.heap TO u v)(h1:nM s.heap b1 i1 l1 k1)(h2:nM s.heap b2 i2 l2 k2)(hl1:lT s.heap b1 l1 xs)(hl2:lT s.heap b2 l2 ys)(hend:xs[k1]?=none\/ys[k2]?=none)(hQ:∀h',(∀c o,c∉[z,TO,i1,i2]->s.heap.get? c=some o->h'.get? c=some o)->Q none {s with heap:=h'}):wpAny ↑d A (pyNext (.ref z)) Q E s:=by have hT:s.TypeIs (.ref z) "zip":=⟨_,hz,rfl⟩;unfold pyNext;exact wpAny_bind (wpAny_attempt (wpAny_callSpecial?_slot (name:=Str.ofString "__next__") hT F.slot_zip_next (wpAny_call_entry F.slot_zip_next hT F.entry_zip_next (XD hh D hz hTI hTO h1 h2 hl1 hl2 hend λh' e hk⟨o,ho,hc⟩=>wpAny_bind (wpAny_isInstance (T:="StopIteration") (b:=true) ⟨o,ho,hc⟩ isSubtype_stop (wpAny_pure (hQ _ hk)))) (F.args_zip_next_1 _))))
def Nz(h:Heap)(b:Bool)(l:Addr):Heap:=h.push {cls:=.type (Mr b),data:=.fields #[.ref l,.int 0 0]}
def Ms(h:Heap)(b1 b2:Bool)(l1 l2:Addr):Heap:=Nz (Nz h b1 l1) b2 l2
def Mt(h:Heap)(b1 b2:Bool)(l1 l2:Addr):Heap:=(Ms h b1 b2 l1 l2).push {cls:=.type "tuple",data:=.seq #[.ref h.objs.size,.ref (Nz h b1 l1).objs.size]}
def Mu(h:Heap)(b1 b2:Bool)(l1 l2:Addr):Heap:=(Mt h b1 b2 l1 l2).push {cls:=.type "tuple",data:=.seq #[.none,.none]}
def Uj(h:Heap)(b1 b2:Bool)(l1 l2:Addr):Heap:=(Mu h b1 b2 l1 l2).push {cls:=.type "zip",data:=.fields #[.none,.bool false,.bool false,.ref (Ms h b1 b2 l1 l2).objs.size,.ref (Mt h b1 b2 l1 l2).objs.size]}
theorem LA(b1 b2:Bool)(l1 l2:Addr)(xs ys:Array Value):Meets (Builtin.«zip.__new__» ⟨[.type "zip",.ref l1,.ref l2],[]⟩) (λ_ R s=>lT s.heap b1 l1 xs/\lT s.heap b2 l2 ys/\R (.ok (.ret (.ref (Mu s.heap b1 b2 l1 l2).objs.size))) {s with heap:=Uj s.heap b1 b2 l1 l2}):=.of_wp λprog w A R s h=>by obtain⟨hp,g,d,tk,os⟩:=s;obtain⟨hl1,hl2,h⟩:=h;have hsub:=sub_zip;have hL1:lT (Shared.heap ⟨hp,g,d,tk,os⟩) b1 l1 xs:=hl1;have hL2:lT (Shared.heap ⟨hp.push {cls:=.type (Mr b1),data:=.fields #[.ref l1,.int 0 0]},g,d,tk,os⟩) b2 l2 ys:=hl2.at λo e=>Heap.get?_push_of_some _ e;wp_walk using Qf hL1,Qf hL2;exact⟨_,rfl,h⟩
theorem Jo{Q:Value->Shared->Prop}(hl1:lT s.heap b1 l1 xs)(hl2:lT s.heap b2 l2 ys)(h:∀h',IsZip h' (s.heap.objs.size+4) (s.heap.objs.size+2) (s.heap.objs.size+3) .none->IsPair h' (s.heap.objs.size+2) ↑A (.ref ↑w)->IsPair h' (s.heap.objs.size+3) .none .none->nM h' b1 s.heap.objs.size l1 0->nM h' b2 ↑w l2 0->(∀c o,s.heap.get? c=some o->h'.get? c=some o)->Q (.ref (s.heap.objs.size+4)) {s with heap:=h'}):wpAny ↑d A (call (.type "zip") [.ref l1,.ref l2]) Q E s:=by refine callType_new F.called_zip ↑f (F.typeCall_zip_2 _ _) (F.newCall_zip_2 _ _) (λobj=>F.args_object_init_3 obj _ _) F.entry_zip_new (LA b1 b2 l1 l2 xs ys) ⟨hl1,hl2,?_⟩;have q1:(Nz s.heap b1 l1).objs.size=s.heap.objs.size+1:=Heap.size_push ..;have q2:(Ms s.heap b1 b2 l1 l2).objs.size=s.heap.objs.size+2:=(Heap.size_push ..).trans (by rw[q1]);have q3:(Mt s.heap b1 b2 l1 l2).objs.size=s.heap.objs.size+3:=(Heap.size_push ..).trans (by rw[q2]);have q4:(Mu s.heap b1 b2 l1 l2).objs.size=s.heap.objs.size+4:=(Heap.size_push ..).trans (by rw[q3]);have g5:(Uj s.heap b1 b2 l1 l2).get? (Mu s.heap b1 b2 l1 l2).objs.size=some _:=Heap.get?_push_size _ rfl;have g4:(Uj s.heap b1 b2 l1 l2).get? (Mt s.heap b1 b2 l1 l2).objs.size=some _:=Heap.get?_push_of_some _ (Heap.get?_push_size _ rfl);have g3:(Uj s.heap b1 b2 l1 l2).get? (Ms s.heap b1 b2 l1 l2).objs.size=some _:=Heap.get?_push_of_some _ (Heap.get?_push_of_some _ (Heap.get?_push_size _ rfl));have g2:(Uj s.heap b1 b2 l1 l2).get? (Nz s.heap b1 l1).objs.size=some _:=Heap.get?_push_of_some _ (Heap.get?_push_of_some _ (Heap.get?_push_of_some _ (Heap.get?_push_size _ rfl)));have g1:(Uj s.heap b1 b2 l1 l2).get? s.heap.objs.size=some _:=Heap.get?_push_of_some _ (Heap.get?_push_of_some _ (Heap.get?_push_of_some _ (Heap.get?_push_of_some _ (Heap.get?_push_size _ rfl))));show _/\_;rw[q2,q3,q4]at g5;rw[q1,q2]at g3;rw[q3]at g4;rw[q1]at g2;rw[q4];exact⟨⟨_,g5,rfl⟩,h _ g5 g3 g4 ⟨_,g1,rfl,rfl⟩ ⟨_,g2,rfl,rfl⟩ λc o x=>Heap.get?_push_of_some _ (Heap.get?_push_of_some _ (Heap.get?_push_of_some _ (Heap.get?_push_of_some _ (Heap.get?_push_of_some _ x))))⟩
end
def JF(b:Bool)(K:W.Frag)(H:Hp)(a:Addr)(xs:List V):Prop:=if b then fo K H a xs else fX K H a xs
def LB(K:W.Frag)(b1 b2:Bool)(l1 l2:Addr):It:=⟨λi H=>∃xs ys x y,JF b1 K H l1 xs/\JF b2 K H l2 ys/\xs[i]?=some x/\ys[i]?=some y,λi H v H'=>∃T x y,H T=none/\v=.ref T/\H'=zO H T (.tup [x,y])/\(∀xs,JF b1 K H l1 xs->xs[i]?=some x)/\∀ys,JF b2 K H l2 ys->ys[i]?=some y,λi H=>∃xs ys,JF b1 K H l1 xs/\JF b2 K H l2 ys/\(xs.length<=i\/ys.length<=i)⟩
section
variable{X:Cx}{pins:List ↑j}{σ:St}{H:Hp}{s:Shared}{a:Addr}{xs ys:List V}{b:Bool}
theorem zo.sqB(I:zo X pins σ H s)(h:JF b X.K H a xs):∃its:List Value,zE xs its/\lT s.heap b a its.toArray:=by
 cases b;·obtain⟨its,r,p,_⟩:=I.tuple h;exact⟨its,r,p⟩
 ·obtain⟨its,r,p,_⟩:=I.list h;exact⟨its,r,p.isList⟩
theorem zo.sqB_inj(I:zo X pins σ H s)(h:JF b X.K H a xs)(h':JF b X.K H a ys):xs=ys:=by
 cases b;·exact I.tuple_inj h h'
 ·exact I.list_inj h h'
theorem zo.turns{h':Heap}{tk:Nat}{ch:List Addr}(I:zo X pins σ H s)(hf:∀b∈ch,qT X pins H b)(k:∀b o,b∉ch->s.heap.get? b=some o->h'.get? b=some o):zo X pins σ H {s with heap:=h',toks:=tk}:=by
 have nch:∀b u,H b=some u->b∉ch:=λb u e z=>by rw[(hf b z).1]at e;cases e
 refine I.call' rfl ⟨λb o e n hb hx=>k b o hx e,λb o e n hb hx=>⟨o.slots,k b o hx e⟩,λb o e n hx=>n,λb o e hx=>⟨o,k b o hx e⟩,λb ys q=>q,λb o u q=>q,λb ps q=>⟨#[],by rw[Array.append_empty];exact q⟩⟩ (λb u e=>?_) I.bare λb hb=>⟨(hf b hb).2.2.2.1,(hf b hb).2.1,(hf b hb).2.2.2.2.1,(hf b hb).2.2.2.2.2⟩;refine(I.hok b u e).stay (λc v hc q=>k c v ?_ q) (λc q=>q) λc xs q=>q;rcases hc with rfl|hc;·exact nch _ _ e
 ·exact nch _ _ hc
end
def XE{P:Program}{w:World}{K:W.Frag}{elts:List Expr}{k:Nat}{tp:Pos}(b1 b2:Bool)(z TI TO i1 i2 l1 l2:Addr)(D:ZipApart z TI TO i1 i2 l1 l2):aR P w K (.Tuple elts k tp) (LB K b1 b2 l1 l2) [z,TI,TO,i1,i2] z (λi h=>IsZip h z TI TO .none/\IsPair h TI (.ref i1) (.ref i2)/\(∃a b,IsPair h TO a b)/\nM h b1 i1 l1 i/\nM h b2 i2 l2 i)where
 mem:=by simp
 obj:=λi h⟨hz,hTI,⟨u,v,hTO⟩,⟨o1,e1,_,d1⟩,⟨o2,e2,_,d2⟩⟩b hb=>by
  simp only[List.mem_cons,List.not_mem_nil,or_false]at hb;rcases hb with rfl|rfl|rfl|rfl|rfl;·exact⟨_,hz,λv q=>by have q':Data.fields _=Data.cell v:=q;cases q'⟩
  ·exact⟨_,hTI,λv q=>by have q':Data.seq _ _=Data.cell v:=q;cases q'⟩
  ·exact⟨_,hTO,λv q=>by have q':Data.seq _ _=Data.cell v:=q;cases q'⟩
  ·exact⟨_,e1,λv q=>by rw[d1]at q;cases q⟩
  ·exact⟨_,e2,λv q=>by rw[d2]at q;cases q⟩
 keep:=λi h h'⟨hz,hTI,⟨u,v,hTO⟩,h1,h2⟩k=>⟨k z ↑D _ hz,k TI ↑D _ hTI,⟨u,v,k TO ↑D _ hTO⟩,h1.at λo q=>k i1 ↑D o q,h2.at λo q=>k i2 ↑D o q⟩;item:=by
  intro X hP hw hK hc i pins s σ H E I hf st hg;subst hP hw hK;obtain⟨xs,ys,x,y,hq1,hq2,hx,hy⟩:=hg;obtain⟨its1,rv1,p1⟩:=I.sqB hq1;obtain⟨its2,rv2,p2⟩:=I.sqB hq2;obtain⟨u1,J9,ru1⟩:=rv1.get hx;obtain⟨u2,hu2,ru2⟩:=rv2.get hy;obtain⟨hz,hTI,⟨ou,ov,hTO⟩,h1,h2⟩:=st;have hfs:∀b∈[z,TO,i1,i2],qT X pins H b:=λb hb=>hf b (by simp only[List.mem_cons,List.not_mem_nil,or_false]at hb⊢;rcases hb with q|q|q|q<;>simp[q]);refine bU D hz hTI hTO h1 h2 p1 p2 (by simpa using J9) (by simpa using hu2) λh' a1 a2 a3 a4 a5 a6 hk=>?_;have I1:zo X pins σ (zO H s.heap.objs.size (.tup [x,y])) {s with heap:=h'}:=I.turnT (tk:=s.toks) hfs hk ↑h (by show 2<=sizeLine;decide) (.cons ru1 (.cons ru2 .nil)) ⟨_,a5,rfl,_,rfl⟩;have ne:∀b o,s.heap.get? b=some o->b≠s.heap.objs.size:=λb o q=>Nat.ne_of_lt (Heap.lt_size q);have hTI':IsPair h' TI (.ref i1) (.ref i2):=hk _ _ (by simp only[List.mem_cons,List.not_mem_nil,or_false,not_or];exact⟨D.TIz,D.TITO,D.TIi1,D.TIi2⟩) hTI;refine⟨_,rfl,wpAny_letOwnedTupleGo_zip a1 λg2 z2 e2=>?_⟩;obtain⟨f0,f1,f2,f3,f4,f5⟩:=hf z ↑D;refine⟨.ref s.heap.objs.size,_,I1.turned (t':=s.toks) (λb o hb q=>(e2.2 b hb).trans q) (by rw[zf (ne _ _ hz)];exact f0) f1 f3 f4 f5,rfl,⟨_,x,y,I.hok.fresh ↑h,rfl,rfl,λzs q=>by rw[I.sqB_inj q hq1];exact hx,λzs q=>by rw[I.sqB_inj q hq2];exact hy⟩,⟨z2,e2.extBut _ _ D.TIz hTI',⟨_,_,e2.extBut _ _ D.TOz a2⟩,a3.at λo q=>e2.extBut _ _ D.i1z q,a4.at λo q=>e2.extBut _ _ D.i2z q⟩,λb hb=>?_⟩;rw[zf];·exact(hf b hb).1
  ·simp only[List.mem_cons,List.not_mem_nil,or_false]at hb;rcases hb with rfl|rfl|rfl|rfl|rfl;·exact ne _ _ hz
   ·exact ne _ _ hTI
   ·exact ne _ _ hTO
   ·obtain⟨o,q,_⟩:=h1;exact ne _ _ q
   ·obtain⟨o,q,_⟩:=h2;exact ne _ _ q
 done:=by intro X hP hw hK hc i pins s σ H E I hf st hg;subst hP hw hK;obtain⟨xs,ys,hq1,hq2,hx⟩:=hg;obtain⟨its1,rv1,p1⟩:=I.sqB hq1;obtain⟨its2,rv2,p2⟩:=I.sqB hq2;obtain⟨hz,hTI,⟨ou,ov,hTO⟩,h1,h2⟩:=st;have e1:=rv1.length;have e2:=rv2.length;have hfs:∀b∈[z,TO,i1,i2],qT X pins H b:=λb hb=>hf b (by simp only[List.mem_cons,List.not_mem_nil,or_false]at hb⊢;rcases hb with q|q|q|q<;>simp[q]);exact bV (I.ok.hd hc) D hz hTI hTO h1 h2 p1 p2 (hx.imp (λq=>by simp;omega) λq=>by simp;omega) λh' hk=>⟨rfl,I.turns (tk:=s.toks) hfs hk⟩
 self:=λ_ _ _ _ _ st h=>wpAny_pyIter_zip st.1 h
theorem IV{n u v:Nat}(h1:u<n)(h2:v<n):ZipApart (n+4) (n+2) (n+3) n (n+1) u v:=by constructor<;>(intro q;have q:(_:Nat)=(_:Nat):=q;omega)
theorem IW{n b:Nat}(h:b=n+4\/b=n+2\/b=n+3\/b=n\/b=n+1):n<=b:=by omega
def LD(K:W.Frag)(ta:TA):TI:=λσ H R=>ta σ H λvs H1=>∃a c b1 b2,vs=[.ref a,.ref c]/\(∃xs,JF b1 K H1 a xs)/\(∃ys,JF b2 K H1 c ys)/\R (LB K b1 b2 a c) H1
def P1{elts:List Expr}{k:Nat}{tp p pos:Pos}{a b:Expr}{ta:TA}(hg:Gl X "zip")(hm:X.mg "zip"=none)(ha:PA X [a,b] ta)(hs:starEach [a,b] X.env=[(false,eval a X.env),(false,eval b X.env)]:=by rfl)(hs2:starEach [b] X.env=[(false,eval b X.env)]:=by rfl):PI X (.Tuple elts k tp) (.Call (.Name "zip" p) [a,b] [] pos) (LD X.K ta):=by intro pins s σ H R I h;refine Call_ (kL I hg hm (show bootBuiltins "zip"=some (.type "zip")from rfl) (PyProof.Rows.callWith_type1 (ja (ha pos pins s σ H _ I h) λus s1⟨vs,H1,I1,r1,q1⟩=>?_) (by rw[hs,hs2]) (by rw[hs2];rfl)));obtain⟨u,v,b1,b2,e,⟨xs,hx⟩,⟨ys,hy⟩,q⟩:=q1;subst e;cases r1 with|cons r rr=>cases rr with|cons r' rr=>
   cases rr;cases r;cases r';obtain⟨its1,_,p1⟩:=I1.sqB hx;obtain⟨its2,_,p2⟩:=I1.sqB hy;have l1:u<s1.heap.objs.size:=by obtain⟨o,q,_⟩:=p1;exact Heap.lt_size q
   have l2:v<s1.heap.objs.size:=by obtain⟨o,q,_⟩:=p2;exact Heap.lt_size q
   refine Jo p1 p2 λh' hz hTI hTO a1 a2 kp=>wpAny_pyIter_zip hz ?_;have I2:zo X pins σ H1 {s1 with heap:=h'}:=I1.kept kp;refine⟨s1.heap.objs.size+4,[s1.heap.objs.size+4,s1.heap.objs.size+2,s1.heap.objs.size+3,s1.heap.objs.size,s1.heap.objs.size+1],_,_,H1,rfl,I2,XE b1 b2 (s1.heap.objs.size+4) (s1.heap.objs.size+2) (s1.heap.objs.size+3) s1.heap.objs.size (s1.heap.objs.size+1) u v (IV l1 l2),⟨hz,hTI,⟨_,_,hTO⟩,a1,a2⟩,λb hb=>?_,q⟩;have hb':s1.heap.objs.size<=b:=by simp only[List.mem_cons,List.not_mem_nil,or_false]at hb;exact IW hb
   exact I1.fpOk hb' (I1.hok.fresh hb')
end L2
namespace L3
open PySem PySem.Spec PyProof.Rows PySem.W L2
def uh:List T->List T->List T|t::ts,u::us=>.tup [t,u]::uh ts us|_,_=>[]
theorem bW:∀ts us:List T,(uh ts us).length=min ts.length us.length|[],us=>by simp[uh]|t::ts,[]=>by simp[uh]|t::ts,u::us=>by rw[uh,List.length_cons,bW ts us,List.length_cons,List.length_cons];omega
theorem rS:∀(ts us:List T)(i:Nat)(t u:T),ts[i]?=some t->us[i]?=some u->(uh ts us)[i]?=some (.tup [t,u])|[],us,i,t,u,h,_=>by simp at h|t::ts,[],i,t',u,_,h=>by simp at h|t::ts,u::us,0,t',u',h,h'=>by cases h;cases h';rfl|t::ts,u::us,i+1,t',u',h,h'=>rS ts us i t' u' h h'
def Qg(b:Bool)(K:W.Frag)(F:Addr->Prop)(H:Hp)(a:Addr)(vs:List V):Prop:=if b then ZU K F H a vs else fX K H a vs
theorem Qg.sq{K:W.Frag}{F:Addr->Prop}{H:Hp}{a:Addr}{vs:List V}:∀{b:Bool},Qg b K F H a vs->JF b K H a vs|true,h=>ZU.sq h|false,h=>h
theorem Qg.mono{K:W.Frag}{F F':Addr->Prop}{H H':Hp}{a:Addr}{vs:List V}(k:kq F F' H H'):∀{b:Bool},Qg b K F H a vs->Qg b K F' H' a vs|true,h=>ZU.mono k h|false,h=>m8 h k.rest
theorem oh{K:W.Frag}{F:Addr->Prop}{H:Hp}{a c:Addr}{b1 b2:Bool}{vs ws:List V}{ts us:List T}(g1:Qg b1 K F H a vs)(g2:IsAll K F H ts vs)(g3:Qg b2 K F H c ws)(g4:IsAll K F H us ws):pG K F H (LB K b1 b2 a c) (uh ts us):=by
 intro F2 H2 d k i;have h1:=(g1.mono k).sq;have h2:=g2.mono k;have h3:=(g3.mono k).sq;have h4:=g4.mono k;have e1:=h2.len;have e2:=h4.len;rw[bW];refine⟨λhi=>?_,λhi=>⟨vs,ws,h1,h3,by omega⟩⟩;have i1:i<ts.length:=by omega
 have i2:i<us.length:=by omega
 obtain⟨v,hv,iv⟩:=h2.get (i:=i) (t:=ts[i]) (by simp[i1]);obtain⟨w,hw,iw⟩:=h4.get (i:=i) (t:=us[i]) (by simp[i2]);refine⟨⟨vs,ws,v,w,h1,h3,hv,hw⟩,λx H3 y=>?_⟩;obtain⟨p,x1,y1,hp,rfl,rfl,hx,hy⟩:=y;have:=hx vs h1;rw[hv]at this;cases this;have:=hy ws h3;rw[hw]at this;cases this;have x:=jA.alloc d (o:=.tup [v,w]) hp;refine⟨x,_,rS ts us i ts[i] us[i] (by simp[i1]) (by simp[i2]),?_⟩;unfold Is;exact⟨p,_,rfl,.inl (.inl zm),IsAll.cons (iv.mono x.kept) (IsAll.cons (iw.mono x.kept) IsAll.nil)⟩
def seqT:T->Option (List T)|.lst ts=>some ts|.tup ts=>some ts|_=>none
theorem rV{K:W.Frag}{F:Addr->Prop}{H:Hp}{t:T}{ts:List T}{v:V}(e:seqT t=some ts)(h:Is K F H t v):∃b a vs,v=.ref a/\Qg b K F H a vs/\IsAll K F H ts vs:=by
 cases t<;>first|cases e|skip
 ·unfold Is at h;obtain⟨a,vs,q,g,r⟩:=h;first|exact⟨true,a,vs,q,g,r⟩|exact⟨false,a,vs,q,g,r⟩
 ·unfold Is at h;obtain⟨a,vs,q,g,r⟩:=h;first|exact⟨true,a,vs,q,g,r⟩|exact⟨false,a,vs,q,g,r⟩
def uM(m:MA):aN:=λenv=>(m env).bind λrs=>match rs.map Prod.snd with|[t,u]=>(match seqT t,seqT u with|some ts,some us=>.ok (uh ts us)|_,_=>.bad)|_=>.bad
def XF{elts:List Expr}{k:Nat}{tp:Pos}(hg:Gl X "zip")(hm:X.mg "zip"=none)(ha:aM X [a,b] ma)(hs:starEach [a,b] X.env=[(false,eval a X.env),(false,eval b X.env)]:=by rfl)(hs2:starEach [b] X.env=[(false,eval b X.env)]:=by rfl):rO X (.Tuple elts k tp) (.Call (.Name "zip" p) [a,b] [] pos) (uM ma):=by
 obtain⟨ta,pa,sa⟩:=ha;refine⟨_,P1 hg hm pa hs hs2,?_⟩;intro F H σ env R RE nb ok ex;unfold uM at nb ok ex;refine sa F H σ env _ RE ↑b (λrs e1 vs F1 H1 x1 i1=>?_) λx z=>ex x ↑v;rw[e1,bind_ok]at nb ok;obtain⟨F2,x2,_,i2⟩:=i1.frz x1;split at nb
 ·rename_i t u hj;rw[hj]at i2 ok;dsimp only at ok;split at nb;·rename_i ts us h1 h2;rw[h1,h2]at ok;obtain⟨v,w,rfl,g,g'⟩:=Vn i2;obtain⟨b1,a1,vs1,rfl,f1,r1⟩:=rV h1 g;obtain⟨b2,a2,vs2,rfl,f2,r2⟩:=rV h2 g';exact⟨a1,a2,b1,b2,rfl,⟨_,f1.sq⟩,⟨_,f2.sq⟩,ok _ rfl _ F2 H1 x2 (oh f1 r1 f2 r2)⟩
  ·exact absurd rfl nb
 ·exact absurd rfl nb
end L3
namespace L2
open PySem PySem.Spec PyProof.Rows
section
variable{prog:Program}{w:World}{A:Around}{E:Value->Shared->Prop}{s:Shared}{a d it l:Addr}{items:Array Value}
theorem Jp:typeLookup (.type "list") "keys"=pure none:=am_miss_of_fast ↑K
theorem P7{o:Obj}{n:Nat}{Q:Option Value->Shared->Prop}(hx:s.heap.get? a=some o)(hc:o.cls=.type "list")(hdat:o.data=.seq items n)(hd:o.dict=none)(hA:A.handled=none)(h:∀h' tk,(∀b o,s.heap.get? b=some o->h'.get? b=some o)->Q none {s with heap:=h',toks:=tk}):wpAny ↑d A (getAttr? (.ref a) "keys") Q E s:=by
 obtain⟨c,dct,dat,sl⟩:=o;simp only at hc hdat hd;subst hc hdat hd;obtain⟨hp,g,dd,tk,os⟩:=s;have hT:∀tk',(⟨hp,g,dd,tk',os⟩:Shared).TypeIs (.ref a) "list":=λ_=>⟨_,hx,rfl⟩;have f1:=sub_AttributeError;have f3:=F.slot_list_getattribute.lookup;have f4:=F.slot_list_getattribute.bind (.ref a);have f5:=am_list_getattr_none;unfold getAttr? getAttrBy? getAttrBy;repeat(any_goals(first|assumption|exact hT _|((with_reducible show wpAny _ _ (call (Value.builtin "list.__getattribute__") _ _) _ _ _);refine call_meets F.slot_list_getattribute (hT _) am_entry_list_getattribute (F.args_list_getattribute_2 _ _) (meets_getattribute_miss_list a items n sl "keys" _ Jp ↑K) ⟨hx,hA,λh' tk' e hx'=>?_⟩)|wp_step))
 obtain⟨t',u',he⟩:=hx'.there;show wpAny _ _ (getattributeRaised _ _ _ _ _ _ _) _ _ _;unfold getattributeRaised;repeat(any_goals(first|assumption|wp_step))
 exact h _ _ hx'.keeps
theorem iZ:entryFor table "dict.update.loop"=some Builtin.«dict.update.loop»:=entryFor_of_tree (by kernel_rfl)
theorem gG:plainId "dict.update.loop"=true:=by decide+kernel
variable{K:Type}[DecidableEq K]{knd:KeyKind prog w K}{R:Result->Shared->Prop}
theorem hG(hh:A.in1.handled=none)(ld:l≠d)(li:l≠it)(di:d≠it):∀(rest:List (K×Value))(i:Nat)(n:Int)(u:Tok)(done:List (K×Value))(s:Shared),i+rest.length=items.size->s.heap.IsListIter it l i->s.heap.IsList l items->(∀j kv,rest[j]?=some kv->∃t key,items[i+j]?=some (.ref t)/\IsTup s.heap t #[key,kv.2]/\knd.is kv.1 key=true/\t≠d/\t≠it)->s.heap.DictOf knd d done->done.length+rest.length<=sizeLine->(∀h' tk,h'.DictOf knd d (merged done rest)->(∀b o,b≠d->b≠it->s.heap.get? b=some o->h'.get? b=some o)->R (.ok (.ret .none)) {s with heap:=h',toks:=tk})->codeAny ↑d A (.builtin "dict.update.loop" ⟨[.ref d,.ref it,.int n u,.none],[]⟩) R s
 |[],i,n,u,done,s,hi,hit,hl,_,hD,_,hR=>by refine codeAny_builtin iZ ?_;rw[Around.under_plainId gG _];show wpAny _ A.in1 (pyNext (.ref it)>>=_) _ _ s;refine wpAny_bind (wpAny_pyNext_list_end hh hit hl (by simp at hi⊢;omega) λh' eb=>?_);exact wpAny_pure (hR h' s.toks (hD.extBut eb di) λb o _ hb e=>eb b o hb e)|kv::rest,i,n,u,done,s,hi,hit,hl,hp,hD,hz,hR=>by
  obtain⟨t,key,hx,ht,hk,td,ti⟩:=hp 0 kv rfl;refine codeAny_builtin iZ ?_;rw[Around.under_plainId gG _];show wpAny _ A.in1 (pyNext (.ref it)>>=_) _ _ s;refine wpAny_bind (wpAny_pyNext_list_item hit hl hx λh1 hit1 e1=>?_);have ht1:IsTup h1 t #[key,kv.2]:=ht.extBut e1.extBut ti;obtain⟨ot,hot,hct,nt,hdt⟩:=id ht1;show wpAny _ A.in1 (holding [Value.ref t] _>>=_) _ _ _;refine wpAny_bind (wpAny_holding ?_);have hT:Shared.TypeIs {s with heap:=h1} (.ref t) "tuple":=⟨_,hot,hct⟩;refine wpAny_bind (wpAny_tryCatch ?_);unfold Builtin.Dict.pairItems;refine wpAny_bind (wpAny_typeOf hT ?_);rw[if_pos ↑f];refine wpAny_bind (wpAny_seqItems hot hdt (wpAny_pure ?_));show wpAny _ A.in1 (holding [key,kv.2] (dictSet d key kv.2)) _ _ _;refine wpAny_holding (wpAny_dictSet_pairs hk (hD.extBut e1.extBut di) (λh2 hD2 e2=>?_) (by have:done.length+(rest.length+1)<=sizeLine:=hz;omega));refine wpAny_pure ⟨plainId_quiet gG _,?_⟩;refine hG hh ld li di rest (i+1) _ _ (stored done kv.1 kv.2) _ (by simp at hi;omega) (hit1.extBut e2.extBut (Ne.symm di)) ((hl.extBut e1.extBut li).extBut e2.extBut ld) (λj kv' hj=>?_) hD2 ?_ λh' tk hD' kp=>hR h' tk hD' λb o bd bi e=>kp b o bd bi (e2.extBut _ _ bd (e1.extBut _ _ bi e));·obtain⟨t',key',hx',ht',hk',td',ti'⟩:=hp (j+1) kv' hj;exact⟨t',key',by rw[show i+1+j=i+(j+1)by omega];exact hx',(ht'.extBut e1.extBut ti').extBut e2.extBut td',hk',td',ti'⟩
  ·have h1:=stored_length_le done kv.1 kv.2;have:done.length+(rest.length+1)<=sizeLine:=hz;omega
theorem oi{o:Obj}{n:Nat}{rest:List (K×Value)}{Q:Value->Shared->Prop}(hh:A.handled=none)(ho:s.heap.get? l=some o)(hc:o.cls=.type "list")(hdat:o.data=.seq items n)(hd:o.dict=none)(hi:rest.length=items.size)(hz:rest.length<=sizeLine)(hp:∀(j:Nat)(kv:K×Value),rest[j]?=some kv->∃t key,items[j]?=some (.ref t)/\IsTup s.heap t #[key,kv.2]/\knd.is kv.1 key=true)(h:∀h' tk,h'.DictOf knd s.heap.objs.size (merged [] rest)->(∀b o,b<s.heap.objs.size->s.heap.get? b=some o->h'.get? b=some o)->Q ↑A {s with heap:=h',toks:=tk}):wpAny ↑d A (call (.type "dict") [.ref l]) Q E s:=by
 refine callType_codes (Q₁:=λobj s₁=>obj=.ref s.heap.objs.size/\s₁={s with heap:=s.heap.push {cls:=.type "dict",data:=.dict #[]}}) F.kt_called_dict (F.kt_typeCall_dict_1 _) F.entry_dict_init (kt_code_dict_new _ ⟨rfl,rfl⟩) ?_;rintro obj s₁⟨rfl,rfl⟩;have hnew:(s.heap.push {cls:=.type "dict",data:=.dict #[]}).DictOf knd s.heap.objs.size []:=Heap.DictOf.new s.heap;have hl:l<s.heap.objs.size:=Heap.lt_size ho;have ho1:(s.heap.push {cls:=.type "dict",data:=.dict #[]}).get? l=some o:=Heap.get?_push_of_some _ ho;refine⟨hnew.typeIs,F.args_dict_init_2 _ _,?_⟩;unfold Builtin.«dict.__init__»Builtin.Dict.selfAndRest;refine wpAny_bind (wpAny_bind (wpAny_notOrdered_dict hnew.typeIs ?_));refine wpAny_pure ?_;show wpAny _ _ (Builtin.Dict.updateFrom "dict.__init__" s.heap.objs.size (.ref l) [] .none) _ _ _;unfold Builtin.Dict.updateFrom;refine wpAny_bind (wpAny_typeOf (T:="list") ⟨_,ho1,hc⟩ ?_);rw[if_pos ↑f];refine wpAny_bind (P7 (s:={s with heap:=s.heap.push {cls:=.type "dict",data:=.dict #[]}}) ho1 hc hdat hd (by simp[hh]) λh1 tk k1=>?_);have hD1:h1.DictOf knd s.heap.objs.size []:=by obtain⟨q,es,ep,e,r⟩:=hnew;exact⟨q,es,ep,k1 _ _ e,r⟩
 have hL1:h1.IsList l items:=⟨o,k1 _ _ ho1,hc,n,hdat⟩;have hsz:s.heap.objs.size<h1.objs.size:=by obtain⟨q,_,_,e,_⟩:=hD1;exact Heap.lt_size e
 refine wpAny_bind (wpAny_rule (wpAny_bind (wpAny_pyIter_list (s:={s with heap:=h1,toks:=tk}) hL1 ?_)));have up:∀b q,s.heap.get? b=some q->(h1.push {cls:=.type "list_iterator",data:=.fields #[.ref l,.int 0 0]}).get? b=some q:=λb q e=>Heap.get?_push_of_some _ (k1 _ _ (Heap.get?_push_of_some _ e));refine wpAny_pure ⟨plainId_quiet gG _,?_⟩;refine hG (by simp[hh]) (Nat.ne_of_lt hl) (Nat.ne_of_lt (Nat.lt_trans hl hsz)) (Nat.ne_of_lt hsz) rest 0 _ _ [] _ ↑c ⟨_,Heap.get?_push_size _ rfl,rfl,rfl⟩ (hL1.push _) (λj kv hj=>?_) (hD1.push _) (by simpa using hz) λh' tk' hD' kp=>⟨rfl,h h' tk' hD' λb q hb e=>kp b q (Nat.ne_of_lt hb) (Nat.ne_of_lt (Nat.lt_trans hb hsz)) (up b q e)⟩;obtain⟨t,key,hx,ht,hk⟩:=hp j kv hj;have tl:=ht.lt;exact⟨t,key,by rw[Nat.zero_add];exact hx,ht.keeps up,hk,Nat.ne_of_lt tl,Nat.ne_of_lt (Nat.lt_trans tl hsz)⟩
end
def P9(K:W.Frag)(H:Hp)(xs:List V)(kvs:List (Key×V)):Prop:=Paired (λ(x:V)(kv:Key×V)=>∃t,x=.ref t/\fX K H t [kV kv.1,kv.2]) xs kvs
theorem XG{X:Cx}{pins:List ↑j}{σ:St}{H:Hp}{s:Shared}(I:zo X pins σ H s):∀{xs:List V}{kvs:List (Key×V)}{its:List Value},P9 X.K H xs kvs->zE xs its->∃rest:List (Key×Value),KV kvs rest/\rest.length=its.length/\∀(j:Nat)(kv:Key×Value),rest[j]?=some kv->∃t key,its[j]?=some (.ref t)/\IsTup s.heap t #[key,kv.2]/\(zU X.prog X.w).is kv.1 key=true|_,_,_,.nil,.nil=>⟨[],.nil,rfl,λj kv h=>by simp at h⟩|_,_,_,.cons ⟨t,e,q⟩ p,.cons r v=>by subst e;cases r;obtain⟨its2,r2,tp,_⟩:=I.tuple q;cases r2 with|cons a1 r3=>cases r3 with|cons a2 r4=>cases r4;obtain⟨rest,k,l,f⟩:=XG I p v;refine⟨(_,_)::rest,.cons ⟨rfl,a2⟩ k,congrArg (·+1) l,λj kv h=>?_⟩;cases j with|zero=>cases h;exact⟨t,_,rfl,tp,gU a1⟩|succ j=>exact f j kv h
def LE(K:W.Frag)(td:TE):TE:=λσ H Q=>td σ H λx H1=>∃a xs kvs,x=.ref a/\fo K H1 a xs/\P9 K H1 xs kvs/\∀p,H1 p=none->Q (.ref p) (zO H1 p (.dK (ka [] kvs)))
theorem Pa{X:Cx}{e:Expr}{td:TE}{p pos:Pos}(hcalm:X.calm=true)(hg:Gl X "dict")(hm:X.mg "dict"=none)(he:PE X e td)(hs:starEach [e] X.env=[↑x]:=by rfl):PE X (.Call (.Name "dict" p) [e] [] pos) (LE X.K td):=by intro pins s σ H Q I h;refine wpAny_Call_Name_kw (kL I hg hm (show bootBuiltins "dict"=some (.type "dict")from rfl) ?_);refine PyProof.Rows.callWith_type1 ?_ (he:=by rw[hs];rfl);rw[hs];show wpAny _ _ (spliced (↑x::[])) _ _ s;refine Calls.spliced_cons (ja (he pins s σ H _ I h) λu s1⟨x,H1,I1,r1,q1⟩=>?_);obtain⟨a,xs,kvs,rfl,hq,hp,q⟩:=q1;obtain rfl:u=Value.ref a:=r1;rw[spliced];refine wpAny_pure ?_;obtain⟨its,rv,⟨o,n,e1,e2,e3,e4⟩,hz⟩:=I1.list hq;obtain⟨rest,rk,rl,rf⟩:=XG I1 hp rv;have l1:=rv.length;refine oi (I1.ok.hd hcalm) e1 e2 e4 e3 (by simpa using rl) ↑c (λj kv hj=>by simpa using rf j kv hj) λh' tk dd kp=>?_;have hf:=I1.hok.fresh (Nat.le_refl s1.heap.objs.size);refine⟨.ref s1.heap.objs.size,zO H1 s1.heap.objs.size (.dK (ka [] kvs)),I1.laid (t':=tk) (λb o q=>kp b o (Heap.lt_size q) q) ↑h ?_,rfl,q _ hf⟩;refine tH ?_ (beq_eq_false_iff_ne.mpr (Ne.symm (Nat.ne_of_lt I1.big))) (rk.merge .nil) dd;have h1:=kM kvs [];have h2:=rk.length;rw[List.length_nil]at h1;omega
end L2
namespace L3
open PySem PySem.Spec PyProof.Rows PySem.W L2
def gc:List T->Option (List (Str×T))|[]=>some []|.tup [.str k,u]::ts=>(gc ts).map ((k,u)::·)|_=>none
theorem bX{K:W.Frag}{F:Addr->Prop}{H:Hp}:∀{ts:List T}{ps:List (Str×T)}{vs:List V},gc ts=some ps->IsAll K F H ts vs->∃kvs:List (Key×V),kvs.map (·.1)=ps.map (λp=>.inr p.1)/\IsAll K F H (ps.map (·.2)) (kvs.map (·.2))/\P9 K H vs kvs
 |[],ps,vs,e,h=>by cases e;cases vs with|nil=>exact⟨[],rfl,IsAll.nil,.nil⟩|cons _ _=>simp[IsAll]at h
 |t::ts,ps,vs,e,h=>by
  unfold gc at e;split at e;·rename_i e';cases e'
  ·rename_i k u ts' e';cases e';cases hq:gc ts with|none=>rw[hq]at e;cases e|some qs=>rw[hq]at e;cases e;unfold IsAll at h;obtain⟨v,r,rfl,hi,hr⟩:=h;obtain⟨kvs,k1,k2,k3⟩:=bX hq hr;unfold Is at hi;obtain⟨a,vs,rfl,g,ha⟩:=hi;obtain⟨x,y,rfl,hx,hy⟩:=Vn ha;unfold Is at hx;subst hx;exact⟨(.inr k,y)::kvs,congrArg (Sum.inr k::·) k1,IsAll.cons hy k2,.cons ⟨a,rfl,g⟩ k3⟩
  ·cases e
theorem oj(kvs:List (Key×V))(k:Key)(v:V)(h:k∉kvs.map (·.1)):xB kvs k v=kvs++[(k,v)]:=by unfold xB;rw[if_neg];intro q;obtain⟨x,hx,e⟩:=List.any_eq_true.mp q;exact h (List.mem_map.mpr ⟨x,hx,of_decide_eq_true e⟩)
theorem gd:∀(more kvs:List (Key×V)),((kvs++more).map (·.1)).Nodup->ka kvs more=kvs++more
 |[],kvs,_=>by rw[List.append_nil];rfl|p::more,kvs,h=>by
  have h1:p.1∉kvs.map (·.1):=λq=>by rw[List.map_append,List.nodup_append]at h;exact h.2.2 _ q _ (List.mem_map.mpr ⟨p,List.mem_cons_self,rfl⟩) rfl
  show ka (xB kvs p.1 p.2) more=_;rw[oj kvs p.1 p.2 h1,gd more (kvs++[(p.1,p.2)]) (by simpa using h)];simp
theorem Jq{ps:List (Str×T)}(h:(ps.map (·.1)).Nodup):(ps.map λp=>(Sum.inr p.1:Key)).Nodup:=by unfold List.Nodup at h⊢;rw[List.pairwise_map]at h⊢;exact h.imp λn e=>n (Sum.inr.inj e)
def XH(md:ME):ME:=λenv=>(md env).bind λd=>match d.2 with|.lst ts=>(match gc ts with|some ps=>if(ps.map (·.1)).Nodup then .ok (true,.dct (ps.map λp=>.inr p.1) (ps.map (·.2)))else .bad|none=>.bad)|_=>.bad
theorem NA{e:Expr}{md:ME}{p pos:Pos}(hcalm:X.calm=true)(hg:Gl X "dict")(hm:X.mg "dict"=none)(h:j9 X e md)(hs:starEach [e] X.env=[↑x]:=by rfl):j9 X (.Call (.Name "dict" p) [e] [] pos) (XH md):=by
 obtain⟨td,pd,sd⟩:=h;refine⟨_,Pa hcalm hg hm pd hs,?_⟩;intro F H σ env Q R nb ok ex;unfold XH at nb ok ex;refine sd.val R ↑b (λr1 e1 v1 F1 H1 x1 i1=>?_) λx z=>ex x ↑v;rw[e1,bind_ok]at nb ok;obtain⟨b,t⟩:=r1;dsimp only at nb ok i1;cases t<;>try exact absurd rfl nb
 case lst ts=>dsimp only at nb ok;cases hq:gc ts with|none=>rw[hq]at nb;exact absurd rfl nb|some ps=>
   rw[hq]at nb ok;dsimp only at nb ok;by_cases hn:(ps.map (·.1)).Nodup
   ·rw[if_pos hn]at ok;unfold Is at i1;obtain⟨a,vs,rfl,g,ia⟩:=i1;obtain⟨kvs,k1,k2,k3⟩:=bX hq ia;have hk:(kvs.map (·.1)).Nodup:=by rw[k1];exact Jq hn
    have hmg:ka [] kvs=kvs:=gd kvs [] hk;refine⟨a,vs,kvs,rfl,g.sq,k3,λp hp=>?_⟩;rw[hmg];have x:=jA.alloc x1.dom (o:=.dK kvs) hp;refine ok _ rfl _ F1 _ (x1.trans x) ?_;unfold wz;rw[if_pos rfl];exact⟨p,rfl,λf=>x1.dom p f hp,j8 x1.same hp,kvs,zm,k1,k2.mono x.kept⟩
   ·rw[if_neg hn]at nb;exact absurd rfl nb
def NB(X:Cx)(trs:List (TE×TE))(ks:List Str)(m:En->kN (List T)):Prop:=∀(F:Addr->Prop)(H:Hp)(σ:St)(env:En)(Q:List (V×V)->Hp->Prop),w4 X.K F H σ env->m env≠.bad->(∀ts,m env=.ok ts->∀(kvs:List (Key×V))F' H',jA F H F' H'->kvs.map (·.1)=ks.map Sum.inr->IsAll X.K F' H' ts (kvs.map (·.2))->Q (kvs.map λkv=>(kV kv.1,kv.2)) H')->(∀x,m env=.exc x->ZX X F H σ x)->eR trs σ H Q
def VL(X:Cx)(pos:Pos)(keys:List (Option Expr))(values:List Expr)(ks:List Str)(m:En->kN (List T)):Prop:=∃trs,UY X pos keys values trs/\NB X trs ks m
def ND:En->kN (List T):=λ_=>.ok []
def Uk(me:ME)(m:En->kN (List T)):En->kN (List T):=λenv=>(me env).bind λx=>(m env).bind λts=>.ok (x.2::ts)
theorem Pb:VL X pos [] [] [] ND:=⟨_,V0,λF H σ env Q R nb ok ex=>ok [] rfl [] F H (.refl R.dom) rfl IsAll.nil⟩
theorem nN{k:Str}{j:Nat}{p1:Pos}(he:j9 X e me)(hr:VL X pos keys values ks m):VL X pos (some (.Constant (.str k) j p1)::keys) (e::values) (k::ks) (Uk me m):=by obtain⟨te,pe,se⟩:=he;obtain⟨trs,pr,sr⟩:=hr;refine⟨_,Y7 JL pe pr,?_⟩;intro F H σ env Q R nb ok ex;unfold Uk at nb ok ex;show te σ H _;refine se.val R ↑b (λr1 e1 v1 F1 H1 x1 i1=>?_) λx z=>ex x ↑v;rw[e1,bind_ok]at nb ok ex;refine sr F1 H1 σ env _ (R.mono x1) ↑b (λts e2 kvs F2 H2 x2 hk ia=>?_) λx z=>(ex x ↑v).mono x1;rw[e2,bind_ok]at ok;exact ok _ rfl ((.inr k,v1)::kvs) F2 H2 (x1.trans x2) (congrArg (Sum.inr k::·) hk) (IsAll.cons (i1.mono x2.kept) ia)
def XI(ks:List Str)(m:En->kN (List T)):ME:=λenv=>(m env).bind λts=>.ok (true,.dct (ks.map Sum.inr) ts)
theorem om{ks:List Str}(h:ks.Nodup):(ks.map λk=>(Sum.inr k:Key)).Nodup:=by unfold List.Nodup at h⊢;rw[List.pairwise_map];exact h.imp λn e=>n (Sum.inr.inj e)
theorem Pc(h:VL X pos keys values ks m)(hn:ks.Nodup)(hall:keys.all (·.isSome)=true:=by rfl)(hl:keys.length=values.length:=by rfl)(h0:keys≠[]:=by simp)(h15:ks.length<=15:=by decide)(hkl:keys.length=ks.length:=by rfl):j9 X (.Dict keys values pos) (XI ks m):=by
 obtain⟨trs,pr,sr⟩:=h;refine⟨_,V1 pr hall hl h0 (by rw[hkl];exact h15),?_⟩;intro F H σ env Q R nb ok ex;unfold XI at nb ok ex;intro p hp;have x0:=jA.alloc R.dom (o:=.dK []) hp;refine sr F _ σ env _ (R.mono x0) ↑b (λts e2 kvs F2 H2 x2 hk ia=>?_) λx z=>(ex x ↑v).mono x0;rw[e2,bind_ok]at ok;have hp2:H2 p=some (.dK []):=x2.same _ _ zm;have np:¬F2 p:=λf=>(x2.new p f).elim (λf=>R.dom p f hp) λz=>by rw[zm]at z;cases z
 have lk:kvs.length=ks.length:=by simpa using congrArg List.length hk
 have hmg:ka [] kvs=kvs:=gd kvs [] (by rw[List.nil_append,hk];exact om hn);refine⟨hp2,kvs,rfl,by omega,?_⟩;rw[hmg];have ne:∀b,F2 b->b≠p:=λb f z=>np (z▸f);have kp:kq F2 F2 H2 (zO H2 p (.dK kvs)):=⟨λ_ f=>f,λb o f q=>by rw[zf (ne b f)];exact q,λb o q _ n2=>by
  rw[zf];·exact q
  ·intro z;rw[z,hp2]at q;cases q;exact n2.1 [] rfl⟩;have x:jA F H F2 (zO H2 p (.dK kvs)):=⟨λb o q=>by have hb:b≠p:=zK q hp;rw[zf hb];exact x2.same _ _ (by rw[zf hb];exact q),λb f=>x2.sub b f,λb f=>(x2.new b f).imp id λz=>by rw[zf (ne b f)]at z;exact z,λb f=>by rw[zf (ne b f)];exact x2.dom b f⟩;refine ok _ rfl _ F2 _ x ?_;unfold wz;rw[if_pos rfl];exact⟨p,rfl,np,hp,kvs,zm,hk,ia.mono kp⟩
end L3
namespace L2
open PySem PySem.Spec PyProof.Rows
theorem oo(l:Addr)(items:Array Value)(n:Nat)(b:Addr)(items2:Array Value)(n2:Nat)(dc:Option Addr)(sl:Array (Option Value))(h0:¬(!items.isEmpty&&Builtin.List.listTooLong (items.size+items2.size))=true)(h1:items.size<=sizeLine)(h2:items.size+items2.size<=sizeLine+1):Meets (Builtin.«list.extend» ⟨[.ref l,.ref b],[]⟩) (λ_ R s=>s.heap.get? l=some {cls:=.type "list",dict:=none,data:=.seq items n,slots:=#[]}/\s.heap.get? b=some {cls:=.type "tuple",dict:=dc,data:=.seq items2 n2,slots:=sl}/\R (.ok (.ret Value.none)) {s with heap:=s.heap.update l (Obj.mapSeq λx=>x++items2),toks:=s.toks}):=.of_wp λprog w A R s h=>by
  obtain⟨hp,g,d,tk,os⟩:=s;obtain⟨hl,hb,h⟩:=h;have f2:=sub_tuple_tuple;have f3:=sub_list_list;have f4:=sub_tuple_list;have f5:=sub_list_tuple;have hz':(items++items2).size<=sizeLine+1:=by rw[Array.size_append];exact h2
  wp_walk using(wpAny_updateSeq hl rfl (hz:=h1) (_hz':=hz')),wpAny_loadPart' hl,wpAny_loadPart' hb;exact⟨_,rfl,h⟩
def Qh(K:W.Frag):V->List V->Hp->VK->Prop:=λx vs H Q=>∃l b xs zs,x=.ref l/\vs=[.ref b]/\H l=some (.lst xs)/\fX K H b zs/\xs.length+zs.length<=sizeLine/\Q .non (zO H l (.lst (xs++zs)))
theorem VM:Mj X "list.extend" (Qh X.K):=by
 intro pins s σ H x vs v us Q I rx rv h;obtain⟨l,b,xs,zs,rfl,rfl,hH,hB,hz,q⟩:=h;cases rx;obtain⟨u,rfl,ru⟩:=rv.one;cases ru;obtain⟨z,its,n,r,hl,e⟩:=I.lstM hH;obtain⟨its2,r2,⟨o,e2,c2,n2,d2⟩,_⟩:=I.tuple hB;obtain⟨oc,od,odt,osl⟩:=o;simp only at c2 d2;subst c2 d2;have hl2:=r2.length;have hsz:its.toArray.size+its2.toArray.size<=sizeLine:=by rw[List.size_toArray,List.size_toArray];omega
 have hlong:¬(!its.toArray.isEmpty&&Builtin.List.listTooLong (its.toArray.size+its2.toArray.size))=true:=by rw[cI hsz,Bool.and_false];exact Bool.false_ne_true
 refine call_meets F.slot_list_extend ⟨_,e,rfl⟩ F.entry_list_extend (F.args_list_extend_2 _ _) (oo l its.toArray n b its2.toArray n2 od osl hlong (by rw[List.size_toArray];omega) ↑c) ⟨e,e2,?_⟩;refine⟨.non,_,I.lset (its':=its++its2) hH e ↑D (r.append r2) ?_,rfl,q⟩;rw[List.length_append];omega
end L2
namespace L3
open PySem PySem.Spec PyProof.Rows L2
def bY(i:Nat)(m:ME):MS:=λenv=>match env[i]? with|some (some (true,.lst _))=>(match xj m env with|.ok (r,env')=>(match env'[i]? with|some (some (true,.lst ts))=>(match r with|(_,.tup us)=>if ts.length+us.length<=sizeLine then .nx (env'.set i (some (true,.lst (ts++us))))else .bad|_=>.bad)|_=>.bad)|.exc x=>.exc x env|.bad=>.bad)|_=>.bad
def Pd{i:Nat}{st:Stmt}(he:j9 X e m)(hp:∀te,PE X e te->PS X st (cA (Mi X.K "list" (Qh X.K) (xJ i) (oW te WQ)))):lK X st (bY i m):=by
 obtain⟨te,pe,se⟩:=he;refine⟨_,hp te pe,?_⟩;intro B F H σ env D R w;unfold bY at w;split at w
 ·rename_i ts0 hi;obtain⟨a,s,nf,fr,vs,hH,iv⟩:=R.owns i _ hi;refine⟨.ref a,s,.inl ⟨rfl,vs,.inl (.inl hH)⟩,?_⟩;refine se.run R (λr env' er v F' H' R' iv' old kp=>?_) (λx er ev F' H' R' ix pins s' I=>?_) λer=>?_
  ·rw[er]at w;dsimp only at w;split at w
   ·rename_i ts' hi';split at w
    ·rename_i bb us;split at w;·rename_i hl;obtain⟨F2,R2,i2,s2⟩:=R'.freeze iv' (λa q=>zG R.fr q) old;unfold Is at i2;obtain⟨b,zs,rfl,hB,iz⟩:=i2;obtain⟨a',s',nf',fr',vs',hH',iv2⟩:=R2.owns i _ hi';rw[s]at s';cases s';refine⟨a,b,vs',zs,rfl,rfl,hH',hB,by rw[<-iv2.len,<-iz.len];exact hl,?_⟩;refine w F2 _ σ (R2.mut hi' s ⟨vs'++zs,zm,?_⟩);exact(iv2.append iz).mono (xr nf' hH' (.inl ⟨_,rfl⟩))
     ·exact w.elim
    ·exact w.elim
   ·exact w.elim
  ·rw[er]at w;exact w ev F' H' σ R' ix pins s' I
  ·rw[er]at w;exact w
 ·exact w.elim
end L3
namespace L3
open PySem PySem.Spec PyProof.Rows PySem.W L2
def lM:T->Bool|.tup [.str _,.int _]=>true|_=>false
def dv:T->T->Bool|.tup [.str a,.int i],.tup [.str b,.int j]=>if(a==b)=true then decide (i<j)else decide (a.cps.toList<b.cps.toList)|_,_=>false
def oq(t:T):List T->List T|[]=>[t]|u::us=>if dv u t=true then u::oq t us else t::u::us
def fJ:List T->List T|[]=>[]|t::ts=>oq t (fJ ts)
def pH:List T->Option RV|[.lst ts]=>if ts.length<=5/\ts.all lM=true then some (true,.lst (fJ ts))else none|_=>none
theorem wp(h:lM t=true):∃a i,t=.tup [.str a,.int i]:=by
 unfold lM at h;split at h;·exact⟨_,_,rfl⟩
 ·cases h
theorem VN{x y:Str}(h:x.cps.toList=y.cps.toList):x=y:=by cases x;cases y;simp only[Str.mk.injEq];exact Array.toList_inj.mp h
theorem dw{a b:Str}{i j:Int}:dv (.tup [.str a,.int i]) (.tup [.str b,.int j])=true↔(a=b/\i<j)\/a.cps.toList<b.cps.toList:=by
 show(if(a==b)=true then decide (i<j)else decide (a.cps.toList<b.cps.toList))=true↔_;by_cases e:a=b;·subst e;rw[if_pos ↑D,decide_eq_true_iff];exact⟨λh=>.inl ⟨rfl,h⟩,λh=>h.elim (·.2) λh=>absurd h (List.lt_irrefl _)⟩
 ·rw[if_neg (by simpa using e),decide_eq_true_iff];exact⟨.inr,λh=>h.elim (λh=>absurd h.1 e) id⟩
theorem ui{x y z:T}(hx:lM x=true)(hy:lM y=true)(hz:lM z=true)(h1:dv x y=true)(h2:dv y z=true):dv x z=true:=by
 obtain⟨a,i,rfl⟩:=wp hx;obtain⟨b,j,rfl⟩:=wp hy;obtain⟨c,k,rfl⟩:=wp hz;rw[dw]at*;rcases h1 with⟨rfl,h1⟩|h1;·exact h2.imp (λ⟨e,h⟩=>⟨e,by omega⟩) id
 ·rcases h2 with⟨rfl,h2⟩|h2;·exact .inr h1
  ·exact .inr (List.lt_trans h1 h2)
theorem hU{x y:T}(hx:lM x=true)(hy:lM y=true)(h1:¬dv x y=true)(h2:¬dv y x=true):x=y:=by
 obtain⟨a,i,rfl⟩:=wp hx;obtain⟨b,j,rfl⟩:=wp hy;rw[dw]at*;have e:a=b:=VN (List.le_antisymm (List.not_lt.mp λh=>h2 (.inr h)) (List.not_lt.mp λh=>h1 (.inr h)));subst e;have:i=j:=by have n1:¬i<j:=λh=>h1 (.inl ⟨rfl,h⟩);have n2:¬j<i:=λh=>h2 (.inl ⟨rfl,h⟩);omega
 rw[this]
theorem rW{x:T}(hx:lM x=true):¬dv x x=true:=by
 obtain⟨a,i,rfl⟩:=wp hx;rw[dw];rintro(⟨_,h⟩|h);·omega
 ·exact List.lt_irrefl _ h
theorem rX{x y z:T}(hx:lM x=true)(hy:lM y=true)(hz:lM z=true)(h1:¬dv x y=true)(h2:¬dv y z=true):¬dv x z=true:=λh=>by
 by_cases g:dv y x=true;·exact h2 (ui hy hx hz g h)
 ·have:=hU hx hy h1 g;subst this;exact h2 h
theorem uj(t:T):∀us:List T,(oq t us).Perm (t::us)
 |[]=>List.Perm.refl _|u::us=>by
  unfold oq;split;·exact((uj t us).cons u).trans (List.Perm.swap t u us)
  ·exact List.Perm.refl _
theorem vq:∀ts:List T,(fJ ts).Perm ts|[]=>List.Perm.refl _|t::ts=>(uj t (fJ ts)).trans ((vq ts).cons t)
theorem rY{t:T}(ht:lM t=true):∀{us:List T},(∀u∈us,lM u=true)->us.Pairwise (λa b=>¬dv b a=true)->(oq t us).Pairwise λa b=>¬dv b a=true
 |[],_,_=>by unfold oq;simp|u::us,hi,h=>by
  have hp:=List.pairwise_cons.mp h;have hu:=hi u List.mem_cons_self;have hr:∀v∈us,lM v=true:=λv hv=>hi v (List.mem_cons_of_mem _ hv);unfold oq;split
  ·rename_i hl;refine List.pairwise_cons.mpr ⟨λx hx=>?_,rY ht hr hp.2⟩;rcases List.mem_cons.mp ((uj t us).mem_iff.mp hx)with rfl|hx;·exactλg=>rW hu (ui hu ht hu hl g)
   ·exact hp.1 x hx
  ·rename_i hl;refine List.pairwise_cons.mpr ⟨λx hx=>?_,h⟩;rcases List.mem_cons.mp hx with rfl|hx;·exact hl
   ·exact rX (hr x hx) hu ht (hp.1 x hx) hl
theorem hV:∀{ts:List T},(∀u∈ts,lM u=true)->(fJ ts).Pairwise λa b=>¬dv b a=true|[],_=>List.Pairwise.nil|t::ts,h=>rY (h t List.mem_cons_self) (λu hu=>h u (List.mem_cons_of_mem _ ((vq ts).mem_iff.mp hu))) (hV λu hu=>h u (List.mem_cons_of_mem _ hu))
def Ul(ts:List T)(i j:Nat):Bool:=match ts[i]?,ts[j]? with|some a,some b=>dv a b|_,_=>false
theorem qx{ts:List T}(hi:i<ts.length)(hj:j<ts.length):Ul ts i j=dv ts[i] ts[j]:=by unfold Ul;rw[List.getElem?_eq_getElem hi,List.getElem?_eq_getElem hj]
theorem LG{ts:List T}(h:∀u∈ts,lM u=true):WO (Ul ts) ts.length:=by
 have hh:∀{k}(hk:k<ts.length),lM ts[k]=true:=λhk=>h _ (List.getElem_mem hk);refine⟨λi hi=>?_,λi j k hi hj hk a b=>?_,λi j k hi hj hk a b=>?_⟩;·rw[qx hi hi];exact Bool.eq_false_iff.mpr (rW (hh hi))
 ·rw[qx hi hj]at a;rw[qx hj hk]at b;rw[qx hi hk];exact ui (hh hi) (hh hj) (hh hk) a b
 ·rw[qx hi hj]at a;rw[qx hj hk]at b;rw[qx hi hk];exact Bool.eq_false_iff.mpr (rX (hh hi) (hh hj) (hh hk) (Bool.eq_false_iff.mp a) (Bool.eq_false_iff.mp b))
theorem VO{ts:List T}{q:Array Nat}(h:∀u∈ts,lM u=true)(hq:Pm q ts.length)(u:q.toList.Pairwise λi j=>i<ts.length->j<ts.length->Ul ts j i=false):q.toList.map (λi=>(ts[i]?).getD .non)=fJ ts:=by
 have h1:(q.toList.map (λi=>(ts[i]?).getD .non)).Perm ((List.range ts.length).map (λi=>(ts[i]?).getD .non)):=hq.perm.map _;have h2:(List.range ts.length).map (λi=>(ts[i]?).getD .non)=ts:=by
  apply List.ext_getElem?;intro i;rw[List.getElem?_map];by_cases hi:i<ts.length;·simp[hi]
  ·simp[hi]
 rw[h2]at h1;refine List.Perm.eq_of_pairwise (λa b ha hb g1 g2=>hU (h a (h1.mem_iff.mp ha)) (h b ((vq ts).mem_iff.mp hb)) g2 g1) ?_ (hV h) (h1.trans (vq ts).symm);rw[List.pairwise_map];refine u.imp_of_mem λ{i j}hi hj g=>?_;have hi':=List.mem_range.mp (hq.perm.mem_iff.mp hi);have hj':=List.mem_range.mp (hq.perm.mem_iff.mp hj);have:=g hi' hj';rw[qx hj' hi']at this;rw[List.getElem?_eq_getElem hi',List.getElem?_eq_getElem hj'];show¬dv ts[j] ts[i]=true;rw[this];exact Bool.false_ne_true
theorem NE{prog:Program}{w:World}{A:Around}{E:Value->Shared->Prop}{s:Shared}{p q:Addr}{a b:Str}{i j:Int}{t1 t2 t3 t4:Tok}{C:Bool->Shared->Prop}(hp:IsTup s.heap p #[.str a t1,.int i t2])(hq:IsTup s.heap q #[.str b t3,.int j t4])(h:C (dv (.tup [.str a,.int i]) (.tup [.str b,.int j])) s):wpAny ↑d A (keyLt' (tuples' true) (.ref p) (.ref q)) C E s:=by
 obtain⟨o1,e1,c1,n1,d1⟩:=hp;obtain⟨o2,e2,c2,n2,d2⟩:=hq;refine kat_lt e1 d1 e2 d2 ?_;replace h:C (if(a==b)=true then decide (i<j)else decide (a.cps.toList<b.cps.toList)) s:=h;show KatLex prog w A true _ C ((Value.str a t1,Value.str b t3)::(Value.int i t2,Value.int j t4)::[]) 0 s;refine kat_cons (SeqAt.EqAt.str_str a t1 b t3 _ _ _ _ ?_);by_cases x1:(a==b)=true
 ·rw[if_pos x1]at h;rw[x1];refine kat_yes (kat_cons (SeqAt.EqAt.int_int i t2 j t4 _ _ _ _ ?_));by_cases x2:(i==j)=true
  ·rw[x2];have e:i=j:=by simpa using x2
   subst e;rw[decide_eq_false (Int.lt_irrefl i)]at h;exact kat_yes (kat_nil h)
  ·have x2':(i==j)=false:=by simpa using x2
   rw[x2'];exact kat_no (kat_one _ _ (PyProof.Rows.lt_int h))
 ·have x1':(a==b)=false:=by simpa using x1
  rw[if_neg x1]at h;rw[x1'];exact kat_no (oneLt_str h)
theorem dy{K:W.Frag}{F:Addr->Prop}{H:Hp}{a:Str}{i:Int}{vs:List V}{us:List Value}(h:IsAll K F H [.str a,.int i] vs)(r:zE vs us):∃t1 t2,us=[.str a t1,.int i t2]:=by obtain⟨v,w,rfl,h1,h2⟩:=Vn h;unfold Is at h1 h2;subst h1 h2;cases r with|cons r1 r2=>cases r2 with|cons r3 r4=>cases r4;obtain⟨t1,rfl⟩:=r1;obtain⟨t2,rfl⟩:=r3;exact⟨t1,t2,rfl⟩
section
variable{X:Cx}{pins:List ↑j}{σ:St}{H:Hp}{s:Shared}{F:Addr->Prop}
theorem rZ(I:zo X pins σ H s){h':Heap}(kp:∀b o,s.heap.get? b=some o->h'.get? b=some o):∀{ts:List T}{vs:List V}{us:List Value},ts.all lM=true->IsAll X.K F H ts vs->zE vs us->∃fs,KatTups h' us fs/\fs.length=us.length/\∀v∈fs,∃z t,v=.str z t|[],vs,us,_,i,r=>by have:=mJ i;subst this;cases r;exact⟨[],trivial,rfl,λv h=>by cases h⟩|t::ts,vs,us,h,i,r=>by unfold IsAll at i;obtain⟨v,w,rfl,i1,i2⟩:=i;cases r with|cons r1 r2=>rw[List.all_cons,Bool.and_eq_true]at h;obtain⟨fs,hf,hl,hs⟩:=rZ I kp h.2 i2 r2;obtain⟨a,b,rfl⟩:=wp h.1;unfold Is at i1;obtain⟨p,ps,rfl,g1,g2⟩:=i1;cases r1;obtain⟨its,rv,pl,_⟩:=I.tuple g1;obtain⟨t1,t2,rfl⟩:=dy g2 rv;obtain⟨o,e,c,n,d⟩:=pl;exact⟨.str a t1::fs,KatTups.cons (kp _ _ e) c d ↑D hf,by rw[List.length_cons,List.length_cons,hl],λv hv=>by
   rcases List.mem_cons.mp hv with rfl|hv;·exact⟨a,t1,rfl⟩
   ·exact hs v hv⟩
theorem ow{ts:List T}{l:Addr}{vs:List V}{its:List Value}{o:Obj}{n:Nat}{Q:VK}{E:Value->Shared->Prop}(I:zo X pins σ H s)(d:lJ F H)(ia:IsAll X.K F H ts vs)(r:zE vs its)(ho:s.heap.get? l=some o)(hc:o.cls=.type "list")(hd:o.data=.seq its.toArray n)(h5:ts.length<=5)(hk:ts.all lM=true)(q:∀v F' H',jA F H F' H'->wz X.K ↑W F' H' v (true,.lst (fJ ts))->Q v H'):wpAny ↑a X.A (call (.builtin "sorted") [.ref l]) (EP X pins σ Q) E s:=by
 have l1:=ia.len;have l2:=r.length;have hlen:its.length=ts.length:=by omega
 have hall:=List.all_eq_true.mp hk;refine u7 (U:=λq=>q.toList.Pairwise λi j=>i<ts.length->j<ts.length->Ul ts j i=false) (κ:=tuples' true) (lt:=Ul ts) ho hc hd (.inl rfl) ↑c (λh2=>?_) (λh2=>by rw[hlen];exact Qa (LG hall) h5) (λh2 h' kp=>⟨λQ' hQ=>?_,λi j C hi hj hC=>?_⟩) λqa hq hu=>?_;·rw[hlen]at h2⊢;match ts,h2 with|[],_=>exact .nil|[_],_=>exact List.pairwise_singleton _ _
 ·obtain⟨fs,hf,hfl,hfs⟩:=rZ I kp hk ia r;refine kat_kind (T:=.type "str") hf ↑c (λv hv=>?_) ↑K ?_;·obtain⟨z,t,rfl⟩:=hfs v hv;exact Looks.now
  ·have:(Value.type "str"!=Value.type "tuple")=true:=by decide+kernel
   rw[this];exact hQ
 ·obtain⟨vi,hvi,ri⟩:=gF r hi;obtain⟨vj,hvj,rj⟩:=gF r hj;have bi:i<ts.length:=by omega
  have bj:j<ts.length:=by omega
  obtain⟨vi',hvi',qi⟩:=ia.get (i:=i) (t:=ts[i]) (by simp[bi]);obtain⟨vj',hvj',qj⟩:=ia.get (i:=j) (t:=ts[j]) (by simp[bj]);rw[hvi]at hvi';cases hvi';rw[hvj]at hvj';cases hvj';rw[qx bi bj]at hC;obtain⟨a1,a2,ea⟩:=wp (hall _ (List.getElem_mem bi));obtain⟨b1,b2,eb⟩:=wp (hall _ (List.getElem_mem bj));rw[ea]at qi hC;rw[eb]at qj hC;unfold Is at qi qj;obtain⟨p,ps,rfl,g1,g2⟩:=qi;obtain⟨p',ps',rfl,g3,g4⟩:=qj;have e1:its.getD i Value.none=.ref p:=ri;have e2:its.getD j Value.none=.ref p':=rj;rw[e1,e2];obtain⟨i1,rv1,pl1,_⟩:=I.tuple g1;obtain⟨i2,rv2,pl2,_⟩:=I.tuple g3;obtain⟨t1,t2,rfl⟩:=dy g2 rv1;obtain⟨t3,t4,rfl⟩:=dy g4 rv2;have up:∀{c:Addr}{xs:Array Value},IsTup s.heap c xs->IsTup h' c xs:=λ⟨o,e,r⟩=>⟨o,kp _ _ e,r⟩;exact NE (up pl1) (up pl2) hC
 ·rw[hlen]at hq;have hb:∀i∈qa.toList,i<ts.length:=λi hi=>List.mem_range.mp (hq.perm.mem_iff.mp hi);obtain⟨ep,hep⟩:=sortedAll_at s.heap its (List.toArray (qa.toList.map λi=>its.getD i Value.none));have hfresh:H ↑w=none:=I.hok.fresh (Nat.le_succ _);have hz:(qa.toList.map λi=>(vs[i]?).getD .non).length<=sizeLine:=by rw[List.length_map,Array.length_toList,hq.size,sizeLine_eq];omega
  refine⟨.ref ↑w,zO H ↑w (.lst (qa.toList.map λi=>(vs[i]?).getD .non)),I.laid (λb ob e=>sortedAll_old e) (Nat.le_succ _) ?_,rfl,?_⟩;·exact⟨hz,_,ep,ub r (λi hi=>by have:=hb i hi;omega),hep⟩
  ·have:=fD ia hb;rw[VO hall hq hu]at this;exact cW d this hfresh q
end
theorem oy:vg X (.builtin "sorted") (Ys X.K pH):=by
 intro pins s σ H xs us Q I r h;obtain⟨F,ts,rv,d,ia,e,q⟩:=h;unfold pH at e;split at e
 ·rename_i ts;split at e;·rename_i hc;cases e;obtain⟨v,rfl,i⟩:=pD ia;obtain⟨u,rfl,ru⟩:=gQ r;unfold Is at i;obtain⟨a,vs,rfl,g1,g2⟩:=i;cases ru;obtain⟨its,r',pl,hz⟩:=I.list g1.sq;obtain⟨o,ho,hcl,n,hd⟩:=pl.isList;exact ow I d g2 r' ho hcl hd hc.1 hc.2 q
  ·cases e
 ·cases e
end L3
namespace L3
open PySem PySem.Spec PyProof.Rows L2 PySem.W
section
variable{K:Frag}{h:Heap}{mg:Str->Option Value}{f C C0 N:Addr}{oc kV dc pm cd ct:Value}{od an:Option Addr}{sl:Array (Option Value)}{x q nm qn:Str}{st:Stmt}{bs bm sub:List Value}{sn:List Str}{ab:Bool}{col:Option Bool}{dd:Option Addr}{k0 k1 k2 k3 k5:Option Value}
theorem VP(X:K.In h)(G:h.Ns mainGlobals mg)(g:nsIn K mainGlobals x=some (some ↑Q):=by(try dsimp only);k_is)(l:K.lookup C=some (excClassObj nm qn C N bs bm true sn sub ab col dd k0 k1 k2 k3 k5 "ValueError.__new__"):=by(try dsimp only);k_is)(b1:bm.contains (.type "ValueError")=true:=by decide+kernel)(b2:bm.contains (.type "AttributeError")=false:=by decide+kernel)(b3:bm.contains (.type "NameError")=false:=by decide+kernel)(b4:bm.contains (.type "BaseException")=true:=by decide+kernel)(b5:bm.contains (.type "object")=true:=by decide+kernel)(b6:∀self,refuseLoop self "__setattr__" bm=pure ():=by intro self;simp only[refuseLoop_ref];exact L2.passes_ve self)(i:findIn K ↑Q "__init__"=some (some (.ref f)):=by(try dsimp only);k_is)(fn:typeIn K (.ref f)=some (.type "function"):=by(try dsimp only);k_is)(sa:findIn K ↑Q "__setattr__"=some (some (.builtin "object.__setattr__")):=by(try dsimp only);k_is)(ta:takerIn K C "at"=some none:=by(try dsimp only);k_is)(kp:keepIn K ↑Q=true:=by(try dsimp only);k_is)(lf:K.lookup f=some ⟨oc,od,.func (W.fnOf "__init__" q (jS st) (j6 st) (zb st) .none kV dc pm an cd ct),sl⟩:=by(try dsimp only);k_is)(c:codeIn K cd q=true:=by(try dsimp only);k_is)(k:keepIn K (.ref f)=true:=by(try dsimp only);k_is):Jm K mg x q st C:=⟨_,_,⟨⟨_,_,_,_,_,_,_,_,_,_,_,_,_,_,_,l,b1,b2,b3,b4,b5,b6⟩,i,fn,sa,ta,kp⟩,eT lf c k,mg_of X G g⟩
theorem Pe(hd:hasDictIn K C=true:=by(try dsimp only);k_is)(ga:findIn K ↑Q "__getattribute__"=some (some (.builtin "BaseException.__getattribute__")):=by(try dsimp only);k_is)(gt:findIn K ↑Q "__getattr__"=some none:=by(try dsimp only);k_is)(bx:mroIn K C (.type "BaseException")=some true:=by(try dsimp only);k_is)(a:findIn K ↑Q "at"=some none:=by(try dsimp only);k_is)(cl:findIn K ↑Q "__class__"=some (some ↑H):=by(try dsimp only);k_is)(ns:specialIn K ↑H "__get__"=some (some (.builtin "getset_descriptor.__get__")):=by(try dsimp only);k_is)(tk:takesIn K ↑H=some true:=by(try dsimp only);k_is)(ob:mroIn K C (.type "object")=some true:=by(try dsimp only);k_is):Q0 K C:=⟨hd,ga,gt,bx,a,cl,ns,tk,ob⟩
theorem Pf(h0:subIn K (.ref C0) (.type "BaseException")=some true:=by(try dsimp only);k_is)(h1:isClsIn K C0=true:=by(try dsimp only);k_is)(h2:typeIn K (.ref C0)=some (.type "type"):=by(try dsimp only);k_is)(h3:subIn K ↑Q (.ref C0)=some true:=by(try dsimp only);k_is):exmOne K ↑Q (.ref C0)=some true:=by unfold exmOne kitCls;have h1:(clsIn K C0).isSome=true:=h1;rw[h0,if_pos (by rw[beq_self_eq_true])];dsimp only;rw[h1,h2,if_pos (by rw[beq_self_eq_true];rfl)];exact h3
theorem VQ{n:String}(h1:kitMeta n=true:=by decide+kernel)(h3:subIn K ↑Q (.type n)=some true:=by(try dsimp only);k_is):kitOne K ↑Q (.type n)=some true:=by unfold kitOne kitCls;rw[if_neg (λz=>by cases(eq_of_beq z))];dsimp only;rw[if_pos h1];exact h3
end
end L3
set_option maxHeartbeats 4000000
namespace Law
open PySem L2 L3
def top(i:Nat):Stmt:=PySem.Challenge.pw_facestead_k22_calls_bound.main.body.getD i (.Pass ⟨0,0,0,0⟩)
abbrev kR:Stmt:=top 7
abbrev fL:Stmt:=top 8
abbrev xL:Stmt:=top 9
abbrev oz:Stmt:=top 11
abbrev vX:Stmt:=top 12
abbrev dz:Stmt:=top 13
abbrev mZ:Stmt:=top 14
abbrev uN:Stmt:=top 15
abbrev bZ:Stmt:=top 16
abbrev a8:Stmt:=top 17
abbrev xw:Stmt:=top 18
abbrev gf:Stmt:=top 19
abbrev VR:Stmt:=top 20
abbrev Qi:Stmt:=top 21
abbrev Qj:Stmt:=top 22
abbrev Pg:Stmt:=top 23
abbrev VS:Stmt:=top 24
abbrev Qk:Stmt:=top 25
abbrev Ql:Stmt:=top 26
abbrev l0:Stmt:=top 28
abbrev l6:Stmt:=top 29
abbrev hW:Stmt:=top 34
abbrev l7:Stmt:=top 35
abbrev pI:Stmt:=top 36
abbrev pJ:Stmt:=top 37
abbrev hX:Stmt:=top 38
abbrev hZ:Stmt:=top 39
abbrev gg:Stmt:=top 46
abbrev pK:Stmt:=top 47
abbrev kD:Stmt:=top 48
abbrev aa:Stmt:=top 51
abbrev ac:Stmt:=top 52
abbrev f7:Stmt:=top 53
abbrev l8:Stmt:=top 54
abbrev l9:Stmt:=top 55
abbrev eh:Stmt:=top 56
abbrev gh:Stmt:=top 59
abbrev qy:Stmt:=top 60
abbrev pL:Stmt:=top 61
abbrev f8:Stmt:=top 62
abbrev qL:Stmt:=top 63
abbrev pM:Stmt:=top 64
abbrev uO:Stmt:=top 65
abbrev uP:Stmt:=top 66
abbrev wq:Stmt:=top 67
abbrev Z0:Stmt:=top 68
abbrev xx:Stmt:=zV (top 1) 0
abbrev JG:Stmt:=zV (top 40) 0
abbrev Qm:Stmt:=zV (top 40) 1
abbrev VT:Stmt:=zV (top 40) 2
abbrev VU:Stmt:=zV (top 40) 3
abbrev XJ:Stmt:=zV (top 40) 4
abbrev Ws:Stmt:=zV (top 40) 5
abbrev Qn:Stmt:=zV (top 40) 6
abbrev VW:Stmt:=zV (top 40) 7
abbrev Qo:Stmt:=zV (top 40) 8
abbrev Qp:Stmt:=zV (top 41) 0
abbrev Z1:Stmt:=zV (top 42) 0
abbrev Wt:Stmt:=zV (top 42) 1
abbrev XL:Stmt:=zV (top 42) 2
abbrev XM:Stmt:=zV (top 42) 3
abbrev JH:Stmt:=zV (top 42) 4
abbrev Wu:Stmt:=zV (top 42) 5
abbrev Z2:Stmt:=zV (top 43) 0
abbrev Wv:Stmt:=zV (top 43) 1
abbrev XN:Stmt:=zV (top 43) 2
abbrev Jr:Stmt:=zV (top 43) 3
abbrev XO:Stmt:=zV (top 43) 4
abbrev Ww:Stmt:=zV (top 43) 5
abbrev vG:Stmt:=zV (top 57) 0
abbrev Wx:Stmt:=zV (top 57) 1
abbrev Qq:Stmt:=zV (top 57) 2
abbrev vH:Stmt:=zV (top 57) 3
structure CA where
 FaceError:Addr
 NoFace:Addr
 NoClient:Addr
 Kind:Addr
 Bare:Addr
 Record:Addr
 Choice:Addr
 Face:Addr
 memo:List Str->Mo
def XQ:List (Str×Str):=[("num","num_kind"),("word","word_kind"),("plus","plus_kind"),("glue","glue_kind"),("call","call_kind"),("make","make_kind"),("form","form_kind"),("get","get_kind"),("getor","getor_kind"),("take","take_kind"),("sort","sort_kind")]
def uQ:List (Str×T):=[("call",.tup [.int 3,.int 4]),("make",.tup [.int 2]),("sort",.tup [.int 2])]
def pN:List (Str×T):=[("plus",.tup [.int 1]),("glue",.tup [.int 1]),("form",.tup [.int 3]),("get",.tup [.int 1]),("getor",.tup [.int 1,.int 3]),("take",.tup [.int 1,.int 3]),("sort",.tup [.int 1,.int 3])]
theorem lc:zg ["row"] ["row"] (zb kR):=zg.of
def lU:MS:=(zJ (jh (xk (ug uQ (m2 zA ↑E ↑o) (jJ ze))) zX (m2 zA ↑U ↑E) [0]))
def xN:MF:=zP 1 1 lU
theorem ae:zg ["part"] ["part"] (zb fL):=zg.of
def oA:MS:=(zJ (xf (xk ↑E) (bB 2 (qd (gN 0) (qd (gN 1) bA))) zX ↑E 2 []))
def kh:MF:=zP 1 1 oA
theorem ki:zg ["row","things","part"] ["row"] (zb xL):=zg.of
def g2:MG:=bB 2 (qd (gN 0) (qd (gN 1) bA))
def LI:MS:=Xs 1 (xf (xk (mV 2)) g2 zX ↑U 2 [])
def IX:ME:=jh (xk ↑U) (jX (m2 Xt ↑E (mC .non))) ↑E []
def f9:MS:=zq (zH 1 (jh (xk (ug pN (m2 zA ↑E ↑o) (jJ ze))) zX (m2 zA ↑U ↑E) [0])) (zq (xH (jX (m2 jn (m2 zA ↑E ↑o) (mC (.str "call")))) (bY 1 (m2 zA ↑E ↑I)) zF) (zq (wW (ba (zj xN (z9 ↑E ze))) (gN 2) LI) (zJ IX)))
def xP:MF:=zP 3 1 f9
theorem VX:zg ["names"] ["names"] (zb oz):=zg.of
def Ph:MS:=(zJ (zp g0 (z9 (xf (uM (z9 ↑E (z9 (uC ↑E (jq ↑m) jE) ze))) (bB 2 (qd (gN 0) (qd (gN 1) bA))) zX (m2 kr ↑E ↑U) 2 []) ze)))
def dA:MF:=zP 1 1 Ph
theorem lV:zg ["row","ahead"] ["row","ahead"] (zb vX):=zg.of
def dC:MS:=(zq (xH (jl (vQ (zp g0 (z9 (jh (xk (zj xP (z9 ↑E ze))) zX (wk mx kr ↑o ↑E ↑U) [1]) ze)))) ↑af zF) (zJ (zp g0 (z9 (jh (xk (zj xN (z9 ↑E ze))) zX (zj dA (z9 (zj kh (z9 ↑E ze)) ze)) []) ze))))
def vY:MF:=zP 2 2 dC
theorem uk:zg ["self","name"] ["self","name"] (zb vH):=zg.of
def nu(c:CA):MS:=(zJ (mS (YY [c.Face] "told_functions" ↑E) ↑U))
def jB(c:CA):MF:=zP 2 2 (nu c)
theorem lg:zg ["face","row","places","by_place"] ["face","row"] (zb dz):=zg.of
def VY(c:CA):MS:=(zq (zH 2 (m2 zA (mQ c.Face "function" (jB c) ↑E (z9 (m2 zA ↑U ↑m) ze)) (mC (.int 3)))) (zq (zH 3 (xf (uM (z9 (mV 2) (z9 (m2 zA ↑U ↑I) ze))) (bB 2 (qd (gN 0) (qd (gN 1) bA))) zX (jJ (z9 (m2 zA ↑E ↑o) (z9 ↑U ze))) 2 [])) (zJ (m2 j5 (zp vE (z9 (mV 3) ze)) (zp vE (z9 (m2 zA ↑U (mC (.int 3))) ze))))))
def nO(c:CA):MF:=zP 4 2 (VY c)
theorem af:zg ["face","kinds","row"] ["face","kinds","row"] (zb mZ):=zg.of
def oB:MS:=(zJ (mC (.str "num")))
def lh:MF:=zP 3 3 oB
theorem dD:zg ["face","kinds","row"] ["face","kinds","row"] (zb uN):=zg.of
def ag:MS:=(zJ (mC (.str "word")))
def uR:MF:=zP 3 3 ag
def uS:MF:=uf
def uT:MF:=uf
theorem vI:zg ["places","pairs","kinds","names","place_kinds"] ["places","pairs","kinds"] (zb xw):=zg.of
def g3:MG:=bB 3 (qd (gN 0) (qd (gN 1) (qd (gN 2) bA)))
def Io:ME:=m2 jn (mS (mV 3) ↑E) (m2 zA (mV 2) ↑U)
def NF:ME:=zp g0 (z9 (xf (xk ↑U) g2 zX Io 2 [2,4]) ze)
def IY:ME:=zp g0 (z9 (xf (xk ↑E) g3 (vQ (mV 2)) (m2 qQ ↑E (mV 3)) 3 [3]) ze)
def IZ:ME:=XH (xf (xk ↑E) g3 zX (jJ (z9 ↑E (z9 ↑U ze))) 3 [])
def gi:MS:=zq (zH 3 (zj kh (z9 ↑U ze))) (zq (xH (jX (m2 qm (v6 (mV 3)) (zp jH (z9 (mV 3) ze)))) ↑af zF) (zq (zH 4 IZ) (zq (xH (jl (vQ NF)) ↑af zF) (zJ IY))))
def kj:MF:=zP 5 3 gi
theorem qz:zg ["face","kinds","row","piece","back"] ["face","kinds","row"] (zb gf):=zg.of
def Ip:ME:=xo (m2 qQ ↑E (m2 zA (mV 3) (mC (.int 5)))) (m2 jn (m2 zA (mV 4) ↑U) (mV 2))
def Iq:ME:=zp g0 (z9 (xf (xk (m2 zA (mV 2) (mC (.int 4)))) g2 zX Ip 2 [4,3,1]) ze)
def Ir(c:CA):ME:=zj kj (z9 (m2 zA (mV 3) (mC (.int 3))) (z9 (zj (nO c) (z9 ↑E (z9 (mV 2) ze))) (z9 ↑U ze)))
def neT:MT:=wV (jX (m2 bO (mV 3) (mC .non))) (jX (m2 my (zp jH (z9 (m2 zA (mV 2) ↑I) ze)) (m2 zA (mV 3) ↑I)))
def uU(c:CA):MS:=zq (zH 3 (mQ c.Face "function" (jB c) ↑E (z9 (m2 zA (mV 2) ↑m) ze))) (zq (xH neT (zJ (mC .non)) zF) (zq (zH 4 (m2 zA (mV 3) (mC (.int 4)))) (zq (xH (jl (vQ (Ir c))) (zJ (mC .non)) zF) (zq (xH (jl (vQ Iq)) (zJ (mC .non)) zF) (uD 4)))))
def gj(c:CA):MF:=zP 5 3 (uU c)
theorem fM:zg ["text","start","signs","end"] ["text","start","signs"] (zb hW):=zg.of
def Js:MS:=(zq (zH 3 ↑U) (zq (wZ (qW (jX (m2 kr (mV 3) (zp jH (z9 ↑E ze)))) (jX (m2 qQ (m2 zA ↑E (mV 3)) (mV 2)))) (J3 3 b8 ↑m) 100000) (uD 3)))
def ul:MF:=zP 4 3 Js
theorem uV:zg ["text","start","end"] ["text","start"] (zb l7):=zg.of
def oC:MS:=(zq (zH 2 (zj ul (z9 ↑E (z9 ↑U (z9 (mC (.str "abcdefghijklmnopqrstuvwxyz")) ze))))) (zJ (YF (jX (m2 mx (m2 cX (mV 2) ↑U) (mC (.int 12)))) (mV 2) ↑U)))
def qA:MF:=zP 3 2 oC
theorem oF:zg ["text"] ["text"] (zb hX):=zg.of
def Jt:MS:=(zJ (xo (m2 qm ↑E (mC (.str ""))) (m2 jn (zj qA (z9 ↑E (z9 ↑o ze))) (zp jH (z9 ↑E ze)))))
def v5:MF:=zP 1 1 Jt
theorem dE:zg ["names"] ["names"] (zb gg):=zg.of
def gk:MS:=(zJ (xo (zp g0 (z9 (jh (xk ↑E) zX (zj v5 (z9 ↑E ze)) []) ze)) (m2 jn (v6 ↑E) (zp jH (z9 ↑E ze)))))
def jP:MF:=zP 1 1 gk
theorem fe:zg ["text","start","end"] ["text","start"] (zb pI):=zg.of
def dG:MS:=(zq (zH 2 (zj ul (z9 ↑E (z9 (m2 j5 ↑U ↑m) (z9 (mC (.str "0123456789")) ze))))) (zJ (YF (jX (m2 my (mV 2) (m2 j5 ↑U ↑m))) (mV 2) ↑U)))
def pO:MF:=zP 3 2 dG
theorem v7:zg ["text","start","end","behind"] ["text","start"] (zb pJ):=zg.of
def dH:MS:=(zq (zH 2 ↑U) (zq (wZ (jX (m2 jn (uC ↑E (jq (mV 2)) (jq (m2 j5 (mV 2) ↑m))) (mC (.str ".")))) (zq (zH 3 (zj qA (z9 ↑E (z9 (m2 j5 (mV 2) ↑m) ze)))) (zq (xH (jX (m2 jn (mV 3) (m2 j5 (mV 2) ↑m))) (uD 2) zF) (zH 2 (mV 3)))) 100000) (uD 2)))
def qB:MF:=zP 4 2 dH
theorem xy:zg ["text","awaited","at","end"] ["text"] (zb hZ):=zg.of
def Ju:MS:=(zq (zH 1 (xK ze)) (zq (zH 2 ↑o) (wZ (vQ (mC (.bl true))) (zq (wZ (jX (m2 jn (uC ↑E (jq (mV 2)) (jq (m2 j5 (mV 2) ↑m))) (mC (.str "(")))) (zq (pB 1 (mC (.str "&"))) (J3 2 b8 ↑m)) 100000) (zq (zH 3 (YF (jX (m2 jn (uC ↑E (jq (mV 2)) (jq (m2 j5 (mV 2) ↑m))) (mC (.str "#")))) (zj pO (z9 ↑E (z9 (mV 2) ze))) (zj qA (z9 ↑E (z9 (mV 2) ze))))) (zq (xH (jX (m2 jn (mV 3) (mV 2))) ↑af zF) (zq (zH 2 (zj qB (z9 ↑E (z9 (mV 3) ze)))) (zq (wZ (qW (vQ ↑U) (qW (jX (m2 jn (m2 zA ↑U (YD ↑m)) (mC (.str ")")))) (jX (m2 jn (uC ↑E (jq (mV 2)) (jq (m2 j5 (mV 2) ↑m))) (mC (.str ")")))))) (zq (YK 1) (zH 2 (zj qB (z9 ↑E (z9 (m2 j5 (mV 2) ↑m) ze))))) 100000) (zq (xH (jl (vQ ↑U)) (zJ (m2 jn (mV 2) (zp jH (z9 ↑E ze)))) zF) (zq (xH (wV (jX (m2 qm (m2 zA ↑U (YD ↑m)) (mC (.str "&")))) (jX (m2 qm (uC ↑E (jq (mV 2)) (jq (m2 j5 (mV 2) ↑m))) (mC (.str "&"))))) ↑af zF) (zq (tS 1 (YD ↑m) (mC (.str ")"))) (J3 2 b8 ↑m))))))))) 100000)))
def m_is_kind:MF:=zP 4 1 Ju
theorem lW:zg ["looked","text"] ["looked","text"] (zb pK):=zg.of
def jF(c:CA):MF:=iV c.memo m_is_kind
theorem dI:zg ["looked","parts"] ["looked","parts"] (zb kD):=zg.of
def gl(c:CA):MS:=(zJ (xo (zj jP (z9 (jh (xk ↑U) zX (m2 zA ↑E ↑o) []) ze)) (zp g0 (z9 (jh (xk ↑U) zX (zj (jF c) (z9 ↑U (z9 (m2 zA ↑E ↑m) ze))) [0]) ze))))
def vt(c:CA):MF:=zP 2 2 (gl c)
def gm(c:CA):MF:=uf
theorem lj:zg ["looked","name","plain","places","back","faults"] ["looked","name","plain","places","back","faults"] (zb f7):=zg.of
def fg(c:CA):MS:=(zq (xH (wV (jl (vQ (zj v5 (z9 ↑U ze)))) (jl (vQ (zj (jF c) (z9 ↑E (z9 (mV 4) ze)))))) ↑af zF) (zq (xH (wV (jX (m2 kr (mV 2) ↑o)) (jX (m2 my (mV 2) (zp jH (z9 (mV 3) ze))))) ↑af zF) (zJ (xo (zj (vt c) (z9 ↑E (z9 (mV 3) ze))) (zj jP (z9 (mV 5) ze))))))
def v8(c:CA):MF:=zP 6 6 (fg c)
def gn(c:CA):MF:=uf
theorem ah:zg ["looked","piece"] ["looked","piece"] (zb l8):=zg.of
def ll(c:CA):MS:=(zq (xH (jX (m2 jn (m2 zA ↑U ↑o) (mC (.str "record")))) (zJ (zj (gn c) (z9 ↑E (z9 (m2 zA ↑U ↑m) (z9 (m2 zA ↑U ↑I) (z9 (m2 zA ↑U (mC (.int 3))) ze)))))) zF) (zq (xH (jX (m2 jn (m2 zA ↑U ↑o) (mC (.str "choice")))) (zJ (zj (gm c) (z9 ↑E (z9 (m2 zA ↑U ↑m) (z9 (m2 zA ↑U ↑I) (z9 (m2 zA ↑U (mC (.int 4))) ze)))))) zF) (zJ (zj (v8 c) (z9 ↑E (z9 (m2 zA ↑U ↑m) (z9 (m2 zA ↑U ↑I) (z9 (m2 zA ↑U (mC (.int 3))) (z9 (m2 zA ↑U (mC (.int 4))) (z9 (m2 zA ↑U (mC (.int 5))) ze))))))))))
def xS(c:CA):MF:=zP 2 2 (ll c)
theorem ai:zg ["parts"] ["parts"] (zb l9):=zg.of
def fO:MS:=(zJ (zp vE (z9 (zp gE (z9 ↑E ze)) ze)))
def xz:MF:=zP 1 1 fO
theorem fQ:zg ["piece","plain","places"] ["piece"] (zb eh):=zg.of
def um:MS:=(zq (xH (jX (m2 jn (m2 zA ↑E ↑o) (mC (.str "record")))) (zJ (m2 j5 (uC ↑E jE (jq (mC (.int 3)))) (jJ (z9 (zj xz (z9 (m2 zA ↑E (mC (.int 3))) ze)) ze)))) zF) (zq (xH (jX (m2 jn (m2 zA ↑E ↑o) (mC (.str "choice")))) (zJ (m2 j5 (uC ↑E jE (jq (mC (.int 4)))) (jJ (z9 (zj xz (z9 (m2 zA ↑E (mC (.int 4))) ze)) ze)))) zF) (zq (zH 1 (m2 zA ↑E ↑I)) (zq (zH 2 (m2 j5 (uC (m2 zA ↑E (mC (.int 3))) jE (jq ↑U)) (zj xz (z9 (uC (m2 zA ↑E (mC (.int 3))) (jq ↑U) jE) ze)))) (zJ (m2 j5 (uC ↑E jE (jq (mC (.int 3)))) (jJ (z9 (mV 2) (z9 (m2 zA ↑E (mC (.int 4))) (z9 (zj xz (z9 (m2 zA ↑E (mC (.int 5))) ze)) ze))))))))))
def xY:MF:=zP 3 1 um
theorem qe:zg ["self","pieces","looked","at","piece","told"] ["self","pieces"] (zb vG):=zg.of
def jj(c:CA):MN:=xv c.memo c.Face "told_kinds" "told_functions" (jX (m2 jn (m2 zA (mV 4) ↑o) (mC (.str "function")))) (wV (jX (m2 qQ (m2 zA (mV 4) ↑m) (mV 5))) (jl (vQ (zj (xS c) (z9 (mV 2) (z9 (mV 4) ze)))))) (m2 zA (mV 4) ↑m) (zj xY (z9 (mV 4) ze))
theorem qR:zg ["self","at"] ["self","at"] (zb xx):=zg.of
theorem uW:zg ["face","kinds","row","look"] ["face","kinds","row"] (zb l0):=zg.of
def NG(c:CA):List (Str×MF):=[("num",lh),("word",uR),("plus",uS),("glue",uT),("call",gj c)]
def Iu:MT:=jl (vQ (zj vY (z9 (mV 2) (z9 (zp jH (z9 ↑U ze)) ze))))
def ln(c:CA):MS:=zq (xH Iu (zJ (mC .non)) zF) (du 3 (NG c) (m2 zA (mV 2) ↑o) (z9 ↑E (z9 ↑U (z9 (mV 2) ze))))
def jk(c:CA):MF:=zP 4 3 (ln c)
theorem vv:zg ["face","client","kinds","at","row","kind"] ["face","client"] (zb l6):=zg.of
def Iv(c:CA):ME:=zj (jk c) (z9 ↑E (z9 (mV 2) (z9 (mV 4) ze)))
def JI(c:CA):MS:=zq (zH 5 (Iv c)) (zq (xH (jX (m2 bO (mV 5) (mC .non))) (mX c.NoClient (mV 3)) zF) (pB 2 (mV 5)))
def VZ:MG:=bB 2 (qd (gN 3) (qd (gN 4) bA))
def km(c:CA):MS:=zq (zH 2 (xK ze)) (zq (wW (uL ↑U) VZ (JI c)) (uD 2))
def qC(c:CA):MF:=zP 6 2 (km c)
theorem nv:zg ["_law_script","_law_k"] ["_law_script","_law_k"] (zb gh):=zg.of
def kn:MS:=(zq (xH (jX (m2 kr ↑U (zp jH (z9 ↑E ze)))) (zJ (m2 zA ↑E ↑U)) zF) (zJ ↑o))
def xA:MF:=zP 2 2 kn
theorem lX:zg ["_law_found","_law_due"] ["_law_found","_law_due"] (zb qy):=zg.of
def pP(r:MF):MS:=(zq (xH (jX (m2 bO ↑U (mC .non))) (zJ (m2 bO ↑E (mC .non))) zF) (zq (xH (vQ (zp kg (z9 ↑U (z9 (mC (.ty "bool")) ze)))) (zJ (xo (zp kg (z9 ↑E (z9 (mC (.ty "bool")) ze))) (m2 jn ↑E ↑U))) zF) (zq (xH (vQ (zp kg (z9 ↑U (z9 (mC (.ty "int")) ze)))) (zJ (xo (zp kg (z9 ↑E (z9 (mC (.ty "int")) ze))) (xo (iO (zp kg (z9 ↑E (z9 (mC (.ty "bool")) ze)))) (m2 jn ↑E ↑U)))) zF) (zq (xH (vQ (zp kg (z9 ↑U (z9 (mC (.ty "str")) ze)))) (zJ (xo (zp kg (z9 ↑E (z9 (mC (.ty "str")) ze))) (m2 jn ↑E ↑U))) zF) (zq (xH (wV (jX (m2 qm (zp kg (z9 ↑U (z9 (mC (.ty "tuple")) ze))) (zp kg (z9 ↑E (z9 (mC (.ty "tuple")) ze))))) (jX (m2 qm (zp kg (z9 ↑U (z9 (mC (.ty "list")) ze))) (zp kg (z9 ↑E (z9 (mC (.ty "list")) ze)))))) ↑af zF) (zq (xH (jX (m2 qm (zp jH (z9 ↑E ze)) (zp jH (z9 ↑U ze)))) ↑af zF) (zJ (zp g0 (z9 (jh (qr (z9 (zp jH (z9 ↑U ze)) ze)) zX (zj r (z9 (m2 zA ↑U ↑E) (z9 (m2 zA (mV 2) ↑E) ze))) [0,1]) ze)))))))))
def j4:Nat->MF|0=>uf|n+1=>zP 2 2 (pP (j4 n))
def xE:MF:=j4 8
theorem fh:zg ["_law_cell","_law_k","_law_number"] ["_law_cell","_law_k"] (zb pL):=zg.of
def dJ:MS:=(zq (zH 2 (m2 jO (m2 cY (m2 j5 (m2 j5 ↑E (m2 cY (mC (.int 7919)) ↑U)) ↑m) (mC (.int 48271))) (mC (.int 2147483647)))) (zJ (m2 jO (m2 cY (mV 2) (m2 j5 (m2 kP (mV 2) (mC (.int 1009))) (mC (.int 69621)))) (mC (.int 2147483647)))))
def vZ:MF:=zP 3 2 dJ
theorem jf:zg ["_law_face","_law_client","_law_found","_law_at","_law_plain","e"] ["_law_face","_law_client"] (zb f8):=zg.of
def Iw(c:CA):ME:=zj (qC c) (z9 ↑E (z9 ↑U ze))
def Ix(C:Addr):MS:=zq (zH 3 (Xy [C] (mV 5))) (zH 4 (xo (og [(C,true)] (mV 5)) (xo (og [(C,true)] (mV 5)) (iO (og [(C,false)] (mV 5))))))
def Ha:ME:=jJ (z9 (mV 2) (z9 (mV 3) (z9 (mV 4) ze)))
def kS(c:CA):MS:=zq (zH 2 (mC .non)) (zq (zH 3 (mC .non)) (zq (zH 4 (mC (.bl true))) (zq (mY [c.NoClient] (some 5) (zH 2 (Iw c)) (Ix c.NoClient)) (zJ Ha))))
def v9(c:CA):MF:=zP 6 2 (kS c)
theorem zY:zg ["_law_cell","_law_places","_law_k","_law_x","_law_name","_law_plain","_law_faults","_law_back"] ["_law_cell"] (zb qL):=zg.of
def aj(i:Nat)(m:ME):ME:=zj vZ (z9 (mV i) (z9 m ze))
def l4:ME:=xK (z9 (mC (.str "at")) (z9 (mC (.str "by")) (z9 (mC (.str "of")) (z9 (mC (.str "zed")) ze))))
def l3:ME:=xK (z9 (mC (.str "num")) (z9 (mC (.str "word")) (z9 (mC (.str "bare")) ze)))
def lb:ME:=xK (z9 (mC (.str "num")) (z9 (mC (.str "word")) (z9 (mC (.str "bare")) (z9 (mC (.str "#4.ok")) ze))))
def l2:ME:=xK (z9 (mC (.str "gone")) (z9 (mC (.str "late")) ze))
def LJ:MS:=zq (zH 3 (aj 0 (m2 j5 ↑I (mV 2)))) (zq (zH 4 (m2 zA l4 (m2 jO (m2 j5 (mV 2) (aj 0 (mC (.int 8)))) (mC (.int 4))))) (pB 1 (jJ (z9 (mV 4) (z9 (m2 zA l3 (m2 jO (mV 3) (mC (.int 3)))) (z9 (m2 jn (m2 jO (m2 kP (mV 3) (mC (.int 3))) ↑I) ↑o) ze))))))
def qM:MS:=zq (zH 1 (xK ze)) (zq (wW (mG (z9 (m2 jO (aj 0 ↑m) (mC (.int 5))) ze)) (gN 2) LJ) (zq (zH 5 (m2 jO (aj 0 (mC (.int 7))) (m2 j5 (zp jH (z9 ↑U ze)) ↑m))) (zq (zH 6 (uC l2 (jq (m2 jO (aj 0 (mC (.int 9))) (mC (.int 3)))) jE)) (zq (zH 7 (m2 zA lb (m2 jO (aj 0 (mC (.int 10))) (mC (.int 4))))) (zJ (jJ (z9 (mV 5) (z9 ↑U (z9 (mV 7) (z9 (mV 6) ze))))))))))
def vJ:MF:=zP 8 1 qM
theorem lY:zg ["_law_kind","_law_x"] ["_law_kind","_law_x"] (zb pM):=zg.of
def NI:ME:=XI ["num","word","bare","#4.ok"] (Uk (xK (z9 ↑o (z9 ↑m ze))) (Uk (xK (z9 ↑I (z9 (mC (.int 3)) ze))) (Uk (xK (z9 (mC (.int 4)) (z9 (mC (.int 5)) ze))) (Uk (xK (z9 ↑o (z9 (mC (.int 4)) ze))) ND))))
def qE:MS:=zq (xH (jX (m2 jn (m2 jO ↑U (mC (.int 13))) ↑o)) (zJ (m2 cX (m2 jO (m2 kP ↑U (mC (.int 13))) (mC (.int 9))) ↑m)) zF) (zJ (m2 zA (m2 zA NI ↑E) (m2 jO (m2 kP ↑U (mC (.int 13))) ↑I)))
def qF:MF:=zP 2 2 qE
theorem zw:zg ["_law_function_here","_law_cell","_law_plain","_law_places","_law_back","_law_faults","_law_x","_law_first","_law_by_place","_law_k","_law_kind","_law_by_name","_law_y","_law_caught","_law_fault"] ["_law_function_here","_law_cell"] (zb uO):=zg.of
def Mv(m n:ME):ME:=zj qF (z9 m (z9 n ze))
def LK:MS:=zq (zH 10 (mC (.str "num"))) (zq (xH (jX (m2 kr (mV 9) (zp jH (z9 (mV 3) ze)))) (zH 10 (m2 zA (m2 zA (mV 3) (mV 9)) ↑m)) zF) (pB 8 (Mv (mV 10) (aj 1 (m2 j5 ↑I (mV 9))))))
def Iy:MT:=wV (jX (m2 my (m2 jO (mV 12) (mC (.int 8))) (mC (.int 3)))) (qW (vQ (m2 zA (m2 zA (mV 3) (mV 9)) ↑I)) (jX (m2 my (m2 jO (mV 12) (mC (.int 8))) ↑o)))
def Hb:ME:=jJ (z9 (m2 zA (m2 zA (mV 3) (mV 9)) ↑o) (z9 (Mv (m2 zA (m2 zA (mV 3) (mV 9)) ↑m) (m2 kP (mV 12) (mC (.int 8)))) ze))
def LL:MS:=zq (zH 12 (aj 1 (m2 j5 (mC (.int 10)) (mV 9)))) (xH Iy (pB 11 Hb) zF)
def dL(d j:Int):MT:=jX (m2 jn (m2 jO (m2 kP (mV 6) (mC (.int d))) (mC (.int 11))) (mC (.int j)))
def Iz:ME:=m2 zA (xK (z9 (m2 jO (m2 kP (mV 6) (mC (.int 7))) (m2 j5 (mV 2) ↑m)) (z9 (m2 jO (m2 kP (mV 6) (mC (.int 7))) (m2 j5 (mV 2) ↑I)) ze))) (zp GQ (z9 (m2 jn (m2 jO (mV 6) (mC (.int 7))) ↑o) ze))
def l5:ME:=xK (z9 (mC (.str "at")) (z9 (mC (.str "by")) (z9 (mC (.str "of")) (z9 (mC (.str "zed")) (z9 (mC (.str "none")) ze)))))
def IB:ME:=jJ (z9 (m2 zA l5 (m2 jO (m2 kP (mV 6) (mC (.int 1100))) (mC (.int 5)))) (z9 (m2 jO (m2 kP (mV 6) (mC (.int 5500))) (mC (.int 6))) ze))
def gD:MG:=bB 2 (qd (gN 9) (qd (gN 14) bA))
def Mw:MS:=pB 13 (jJ (z9 (mV 14) (z9 (Mv (mV 4) (aj 1 (m2 j5 (mC (.int 20)) (mV 9)))) ze)))
def LM:ME:=uC (m2 j5 (mV 5) (xK (z9 (mC (.str "lost")) ze))) jE (jq (m2 jO (m2 kP (mV 6) (mC (.int 90000))) (mC (.int 3))))
def gp:MS:=zq (gZ ↑E (bB 4 (qd (gN 2) (qd (gN 3) (qd (gN 4) (qd (gN 5) bA)))))) (zq (zH 6 (aj 1 ↑m)) (zq (zH 7 Iz) (zq (zH 8 (xK ze)) (zq (wW (mG (z9 (mV 7) ze)) (gN 9) LK) (zq (zH 11 (xK ze)) (zq (wW (uF (z9 (mV 7) (z9 (zp jH (z9 (mV 3) ze)) ze))) (gN 9) LL) (zq (xH (dL 100 0) (pB 11 IB) zF) (zq (zH 11 (zp pH (z9 (mV 11) ze))) (zq (xH (dL 40000 0) (zH 11 (mT (mV 11))) zF) (zq (zH 13 (xK ze)) (zq (wW (uL LM) gD Mw) (zq (xH (dL 300000 0) (zH 13 (mT (mV 13))) zF) (zq (xH (dL 300000 1) (zH 13 (m2 j5 (uC (mV 13) jE (jq ↑m)) (mV 13))) zF) (zJ (jJ (z9 (mC (.str "call")) (z9 (mC (.str "f")) (z9 (zp vE (z9 (mV 8) ze)) (z9 (zp vE (z9 (mV 11) ze)) (z9 (zp vE (z9 (mV 13) ze)) ze))))))))))))))))))))
def kF:MF:=zP 15 2 gp
theorem pQ:zg ["_law_parts","_law_k"] ["_law_parts"] (zb uP):=zg.of
def NJ:MS:=xH (jX (m2 ZZ (m2 zA (m2 zA ↑E (m2 cX ↑U ↑m)) ↑o) (m2 zA (m2 zA ↑E ↑U) ↑o))) ↑af zF
def uX:MS:=zq (wW (uF (z9 ↑m (z9 (zp jH (z9 ↑E ze)) ze))) (gN 1) NJ) (zJ (mC (.bl true)))
def kG:MF:=zP 2 1 uX
theorem zI:zg ["_law_function_here","_law_row","_law_kinds","_law_plain","_law_places","_law_back","_law_faults","_law_found","_law_names","_law_name","_law_x","_law_sort","_law_kind","_law_due","_law_fault"] ["_law_function_here","_law_row","_law_kinds"] (zb wq):=zg.of
def IC:MT:=wV (jX (m2 my (zp jH (z9 (m2 zA ↑U ↑I) ze)) (mV 3))) (wV (jl (vQ (zj kG (z9 (m2 zA ↑U (mC (.int 3))) ze)))) (jl (vQ (zj kG (z9 (m2 zA ↑U (mC (.int 4))) ze)))))
def ID:ME:=m2 j5 (jh (qr (z9 (zp jH (z9 (m2 zA ↑U ↑I) ze)) ze)) zX (jJ (z9 (m2 zA (m2 zA ↑U ↑E) ↑o) (z9 (m2 zA (m2 zA (mV 2) ↑I) ↑E) ze))) [4,1]) (zp Q8 (z9 (m2 zA ↑U (mC (.int 3))) ze))
def IE:ME:=xf (xk (mV 7)) g2 zX ↑E 2 []
def IF:MT:=jX (m2 kr (v6 (mV 8)) (zp jH (z9 (mV 8) ze)))
def LN:ME:=jh (xk (mV 4)) (jX (m2 jn (m2 zA ↑E ↑o) ↑U)) (m2 zA ↑E ↑m) [9]
def Mx:MT:=jl (jX (wk mx kr ↑o (mV 10) (zp jH (z9 (mV 2) ze))))
def LO:MT:=wV (jX (m2 jn (mV 11) (xK ze))) (wV Mx (jX (m2 qm (m2 zA (mV 2) (mV 10)) (m2 zA (mV 11) ↑o))))
def NK:MS:=zq (zH 11 LN) (xH LO (zJ (mC .non)) zF)
def My:MS:=xH (qW (vQ (mV 13)) (jX (m2 uB (mV 9) (mV 8)))) (zJ (mC .non)) zF
def Mz:MS:=xH (wV (jX (m2 uB (mV 14) (mV 6))) (wV Mx (jX (m2 qm (m2 zA (mV 2) (mV 10)) (mV 5))))) (zJ (mC .non)) zF
def gA:MG:=bB 2 (qd (gN 9) (qd (gN 10) bA))
def gB:MG:=bB 3 (qd (gN 9) (qd (gN 12) (qd (gN 13) bA)))
def gC:MG:=bB 2 (qd (gN 14) (qd (gN 10) bA))
def pR:MS:=zq (gZ ↑E (bB 4 (qd (gN 3) (qd (gN 4) (qd (gN 5) (qd (gN 6) bA)))))) (zq (xH IC (zJ (mC .non)) zF) (zq (zH 7 ID) (zq (zH 8 IE) (zq (xH IF (zJ (mC .non)) zF) (zq (wW (Vl 7) gA NK) (zq (wW (Vl 4) gB My) (zq (wW (ba (m2 zA ↑U (mC (.int 4)))) gC Mz) (zJ (zp vE (z9 (mV 7) ze))))))))))
def k4:MF:=zP 15 3 pR
theorem jM:zg ["_law_script","_law_function_here","_law_plain","_law_places","_law_back","_law_faults","_law_turned","_law_kinds","_law_client","_law_faces","_law_one","_law_piece","_law_cell","_law_row","_law_face","_law_due","_law_found","_law_at","_law_good"] ["_law_script"] (zb Z0):=zg.of
def LP(c:CA):ME:=zj (v9 c) (z9 (mV 14) (z9 (m2 j5 (mV 8) (xK (z9 (mV 13) ze))) ze))
def gL:MG:=bB 3 (qd (gN 16) (qd (gN 17) (qd (gN 18) bA)))
def Hc:MS:=xH (wV (jl (vQ (zj xE (z9 (mV 17) (z9 (mC (.int 6)) ze))))) (jl (vQ (mV 18)))) ↑af zF
def Hd:ME:=zj xE (z9 (mV 16) (z9 (m2 j5 (mV 7) (xK (z9 (mV 4) ze))) ze))
def He(c:CA):ME:=zj xE (z9 (zj (nO c) (z9 (mV 14) (z9 (mV 13) ze))) (z9 (mV 15) ze))
def Hf(c:CA):MS:=xH (wV (jl (vQ Hd)) (jl (vQ (He c)))) ↑af zF
def K0(c:CA):MS:=zq (zH 15 (zj k4 (z9 (mV 10) (z9 (mV 13) (z9 (mV 7) ze))))) (zq (gZ (LP c) gL) (xH (jX (m2 bO (mV 15) (mC .non))) Hc (Hf c)))
def gI:MG:=bB 2 (qd (gN 14) (qd (gN 10) bA))
def LQ:ME:=xK (z9 (jJ (z9 (m2 zA (mV 9) ↑o) (z9 ↑U ze))) (z9 (jJ (z9 (m2 zA (mV 9) ↑m) (z9 (mV 6) ze))) ze))
def LR(c:CA):MS:=zq (zH 13 (zj kF (z9 ↑U (z9 (mV 12) ze)))) (wW (ba LQ) gI (K0 c))
def Hg:ME:=jJ (z9 (mC (.str "function")) (z9 (mC (.str "b")) (z9 ↑o (z9 (jJ ze) (z9 (mC (.str "bare")) (z9 (jJ ze) ze))))))
def NL:ME:=jJ (z9 (mC (.str "function")) (z9 (mC (.str "f")) (z9 (mV 2) (z9 (zp vE (z9 (m2 zA (mV 10) ↑m) ze)) (z9 (mV 4) (z9 (zp vE (z9 (mV 5) ze)) ze))))))
def LT(c:CA):MS:=zq (zH 11 NL) (pB 9 (g9 c.Face (jj c) (z9 (xK (z9 (mV 11) (z9 Hg ze))) ze)))
def g4:MG:=bB 4 (qd (gN 2) (qd (gN 3) (qd (gN 4) (qd (gN 5) bA))))
def Hh:ME:=jJ (z9 (mV 2) (z9 (mT (mV 3)) (z9 (mV 4) (z9 (mV 5) ze))))
def Hi:ME:=xK (z9 (mC (.str "num")) (z9 (mC (.str "num")) (z9 (mC (.str "word")) (z9 (mC (.str "word")) (z9 (mC (.str "bare")) (z9 (mC (.str "bare")) ze))))))
def IG:ME:=jJ (z9 (mC (.str "call")) (z9 (mC (.str "b")) (z9 (jJ ze) (z9 (jJ ze) (z9 (jJ ze) ze)))))
def Hj:ME:=xK (z9 (jJ (z9 (mC (.str "num")) (z9 ↑m ze))) (z9 (jJ (z9 (mC (.str "num")) (z9 ↑I ze))) (z9 (jJ (z9 (mC (.str "word")) (z9 (mC (.str "")) ze))) (z9 (jJ (z9 (mC (.str "word")) (z9 (mC (.str "a")) ze))) (z9 IG (z9 IG ze))))))
def Qr(c:CA):MS:=zq (zH 1 (zj vJ (z9 (zj xA (z9 ↑E (z9 ↑o ze))) ze))) (zq (gZ ↑U g4) (zq (zH 6 Hh) (zq (zH 7 Hi) (zq (zH 8 Hj) (zq (zH 9 (xK ze)) (zq (wW (ba (jJ (z9 ↑U (z9 (mV 6) ze)))) (gN 10) (LT c)) (zq (wW (ba (uC ↑E (jq ↑m) (jq (mC (.int 13))))) (gN 12) (LR c)) (zJ (mC (.bl true))))))))))
def Qs(c:CA):MF:=zP 19 1 (Qr c)
structure Txt(P:Program)(w:World)(K:W.Frag)(mg:Str->Option Value)(c:CA):Prop where
 yA:c.memo=memoP P w (gOf m_is_kind)yB:mg "ValueError"=none
 yC:mg "all"=none
 yD:mg "bool"=none
 yE:mg "dict"=none
 yF:mg "enumerate"=none
 yG:mg "int"=none
 yH:mg "isinstance"=none
 yI:mg "len"=none
 yJ:mg "list"=none
 yK:mg "range"=none
 yL:mg "set"=none
 yM:mg "sorted"=none
 yN:mg "str"=none
 yO:mg "tuple"=none
 yP:mg "zip"=none
 yQ:∃t,mg "FIGURES"=some (.str "0123456789" t)yR:∃t,mg "LETTERS"=some (.str "abcdefghijklmnopqrstuvwxyz" t)yS:∃t,mg "LONGEST_NAME"=some (.int 12 t)yT:∃a kvs,mU P w K mg "NAMED_AT" a kvs uQ
 yU:∃a kvs,mU P w K mg "THINGS_AT" a kvs pN
 yV:∃a kvs,rQ P w K mg "LOOKS" a kvs XQ
 yW:zM K mg "named_parts" kR
 yX:zM K mg "names_of" fL
 yY:zM K mg "used_things" xL
 yZ:zM K mg "rise" oz
 y0:zM K mg "is_in_form" vX
 y2:zM K mg "bound" dz
 y3:zM K mg "num_kind" mZ
 y4:zM K mg "word_kind" uN
 y6:zM K mg "plus_kind" bZ
 y8:zM K mg "glue_kind" a8
 y9:zM K mg "may_be_bound" xw
 ya:zM K mg "call_kind" gf
 yb:zM K mg "row_kind" l0
 yc:zM K mg "kinds_of" l6
 yd:zM K mg "run_end" hW
 ye:zM K mg "name_end" l7
 yf:zM K mg "number_end" pI
 yh:zM K mg "points_end" pJ
 yi:zM K mg "is_name" hX
 yj:zM K mg "is_kind" hZ
 yk:zM K mg "are_names" gg
 ym:zM K mg "tells_kind" pK
 yn:zM K mg "are_parts" kD
 yo:zM K mg "is_record" aa
 yp:zM K mg "is_choice" ac
 yq:zM K mg "is_function" f7
 yr:zM K mg "is_piece" l8
 yt:zM K mg "by_names" l9
 yu:zM K mg "settled" eh
 yw:zM K mg "_law_cell_at" gh
 yx:zM K mg "_law_alike" qy
 yy:zM K mg "_law_mixed" pL
 yz:zM K mg "_law_looked" f8
 wA:zM K mg "_law_function" qL
 wB:zM K mg "_law_thing" pM
 wC:zM K mg "_law_call" uO
 wD:zM K mg "_law_rise" uP
 wE:zM K mg "_law_bound" wq
 wF:zM K mg "law" Z0
 wG:mg "Face"=some (.ref c.Face)wH:lN K c.Face
 wI:∃f fd,eS K "__init__" "Face.__init__" vG f fd/\Mk K c.Face f
 wJ:∃f fd,eS K "function" "Face.function" vH f fd/\aZ K c.Face "function" f
 wK:jQ K c.Face "told_functions"wL:jQ K c.Face "told_kinds"wM:mg "FaceError"=some (.ref c.FaceError)wN:mg "NoClient"=some (.ref c.NoClient)wO:mg "NoFace"=some (.ref c.NoFace)wP:Jm K mg "NoClient" "FaceError.__init__" xx c.NoClient
 wQ:Q0 K c.NoClient
 wR:W.exmOne K (.ref c.NoClient) (.ref c.NoClient)=some true
 wS:W.kitOne K (.ref c.NoClient) (.ref c.FaceError)=some true
 wT:W.kitOne K (.ref c.NoClient) (.ref c.NoFace)=some false
 wU:W.kitOne K (.ref c.NoClient) (.type "ValueError")=some true
section
variable{P:Program}{w:World}{K:W.Frag}{mg:Str->Option Value}{base:Heap}{c:CA}(T:Txt P w K mg c)
include T
theorem gq:j7 P w K mg base 1 "named_parts" ["row"] xN:=zM.ok3 T.yW lc ↑aa λ_ _ _ _ _ _ _ hr=>(zi (zD (vW rfl (zQ.of:zQ ["row"] (zb kR) _ "at" ["row"] [0]) rfl (vM (rR T.yT ↑r (xI (qv 0) zd) (jd za))) ↑ab (λ_ _ _ _ _ _=>(xI (qv 1) (qv 0))))))
theorem uY:j7 P w K mg base 1 "names_of" ["part"] kh:=zM.ok3 T.yX ae ↑aa λ_ _ _ _ _ _ _ hr=>(zi (zD (qw (xs:=["name","thing"]) rfl (zQ.of:zQ ["part"] (zb fL) _ "name" [] []) ↑K rfl (vM (qv 0)).two (λ_ _ _ _ _ _=>(jW rfl (zr (zk (i:=0) (show List.Nodup (["name","thing"]:List Str)by decide+kernel)) (zr (zk (i:=1) (show List.Nodup (["name","thing"]:List Str)by decide+kernel)) jV)))) ↑ab (λ_ _ _ _ _ _=>(qv 0)) (L:=0))))
theorem lq:j7 P w K mg base 2 "used_things" ["row"] xP:=zM.ok3 T.yY ki ↑aa λ_ _ _ _ _ _ _ hr=>(zc (YV (i:=1) ki.nd rfl (by first|exact .inl rfl|exact .inr rfl) rfl (zQ.of:zQ ["row","things","part"] (zb xL) _ "at" ["row"] [0]) rfl (vM (rR T.yU ↑r (xI (qv 0) zd) (jd za))) ↑ab (λ_ _ _ _ _ _=>(xI (qv 1) (qv 0)))) (zc (jK (xT oE (xI (qv 0) zd) zC) (zi (Pd (i:=1) (xI (qv 0) zd) (λte pe=>w6 (gS PySem.F.plainAttrs_list PySem.F.slot_list_extend PySem.F.type_list_extend VM (pv 1) (jR pe w8))))) zL) (zc (qZ PassesOwn.leaving rfl (YL (xC (gq T) (z3 (qv 0) za))) (zk (i:=2) ki.nd) (zi (Nu (i:=1) (qw (xs:=["name","thing"]) rfl (zQ.of:zQ ["row","things","part"] (zb xL) _ "name" [] []) ↑K rfl (vM (qv 2)).two (λ_ _ _ _ _ _=>(jW rfl (zr (zk (i:=0) (show List.Nodup (["name","thing"]:List Str)by decide+kernel)) (zr (zk (i:=1) (show List.Nodup (["name","thing"]:List Str)by decide+kernel)) jV)))) ↑ab (λ_ _ _ _ _ _=>(qv 1))) (λte pe=>w6 (gS PySem.F.plainAttrs_list PySem.F.slot_list_extend PySem.F.type_list_extend ZJ (pv 1) (jR pe w8)))))) (zi (zD (vW rfl (zQ.of:zQ ["row","things","part"] (zb xL) _ "thing" [] []) rfl (vM (qv 1)) (λ_ _ _ _ _ _=>(de (xT GS (qv 0) vh))) (λ_ _ _ _ _ _=>(qv 0))))))))
theorem K1:j7 P w K mg base 1 "rise" ["names"] dA:=zM.ok3 T.yZ VX ↑aa λ_ _ _ _ _ _ _ hr=>(zi (zD (zt (qq rfl) ↑r T.yC ql (z3 (qw (xs:=["name","later"]) rfl (zQ.of:zQ ["names"] (zb oz) _ "name" [] []) ↑K rfl (XF ↑r T.yP (z3 (qv 0) (z3 (jU (qv 0) (jb zd) vR) za))) (λ_ _ _ _ _ _=>(jW rfl (zr (zk (i:=0) (show List.Nodup (["name","later"]:List Str)by decide+kernel)) (zr (zk (i:=1) (show List.Nodup (["name","later"]:List Str)by decide+kernel)) jV)))) ↑ab (λ_ _ _ _ _ _=>(xM eZ (qv 0) (qv 1))) (L:=0)) za))))
theorem lZ:j7 P w K mg base 3 "is_in_form" ["row","ahead"] vY:=zM.ok3 T.y0 lV ↑p λ_ _ _ _ _ _ _ hr=>(zc (jK (xn (zS (zt (qq rfl) ↑r T.yC ql (z3 (vW rfl (zQ.of:zQ ["row","ahead"] (zb vX) _ "thing" ["ahead"] [1]) rfl (vM (xC (lq T) (z3 (qv 0) za))) ↑ab (λ_ _ _ _ _ _=>(Vu Vd eZ zd (qv 0) (qv 1)))) za)) (λ_=>rfl))) (zi (zD gK)) zL) (zi (zD (zt (qq rfl) ↑r T.yC ql (z3 (vW rfl (zQ.of:zQ ["row","ahead"] (zb vX) _ "part" [] []) rfl (vM (xC (gq T) (z3 (qv 0) za))) ↑ab (λ_ _ _ _ _ _=>(xC (K1 T) (z3 (xC (uY T) (z3 (qv 0) za)) za)))) za)))))
theorem qf{C:Addr}(F:∃f fd,eS K "function" "Face.function" vH f fd/\aZ K C "function" f)(hc:lN K C):bF P w K mg base 1 C "function" ["self","name"] (jB c):=bF.ok F hc uk ↑p λ_ _ _ _ _ _ _ hr=>(zi (zD (Xa (J9 hr) (Nj (λC h=>(List.mem_cons.mp h).elim (λe=>e▸⟨T.wH,T.wK⟩) λh=>nomatch h) (qv 0)) (qv 1))))
theorem am:j7 P w K mg base 2 "bound" ["face","row"] (nO c):=zM.ok3 T.y2 lg ↑p λ_ _ _ _ _ _ _ hr=>(zc (zu (i:=2) lg.nd (xI (X1 (qf T T.wJ T.wH) (hr.mono ↑c) (qv 0) (z3 (xI (qv 1) zd) za)) zd)) (zc (rP (i:=3) lg.nd rfl (by first|exact .inl rfl|exact .inr rfl) (xs:=["place","thing"]) rfl (zQ.of:zQ ["face","row","places","by_place"] (zb dz) _ "place" [] []) ↑K rfl (XF ↑r T.yP (z3 (qv 2) (z3 (xI (qv 1) zd) za))) (λ_ _ _ _ _ _=>(jW rfl (zr (zk (i:=0) (show List.Nodup (["place","thing"]:List Str)by decide+kernel)) (zr (zk (i:=1) (show List.Nodup (["place","thing"]:List Str)by decide+kernel)) jV)))) ↑ab (λ_ _ _ _ _ _=>(jd (z3 (xI (qv 0) zd) (z3 (qv 1) za)))) (L:=0)) (zi (zD (xO jv (xp we ↑r T.yO xm (z3 (qv 3) za)) (xp we ↑r T.yO xm (z3 (xI (qv 1) zd) za)))))))
theorem ao:j7 P w K mg base 1 "num_kind" ["face","kinds","row"] lh:=zM.ok3 T.y3 af (λ_ _ _ _ _ _=>f6 λ_ _ _=>rfl) λ_ _ _ _ _ _ _ hr=>(zi (zD zC))
theorem dM:j7 P w K mg base 1 "word_kind" ["face","kinds","row"] uR:=zM.ok3 T.y4 dD (λ_ _ _ _ _ _=>f6 λ_ _ _=>rfl) λ_ _ _ _ _ _ _ hr=>(zi (zD zC))
theorem dN:j7 P w K mg base 1 "plus_kind" ["face","kinds","row"] uS:=j7.never T.y6 (λ_ _ _ _ _ _=>f6 λ_ _ _=>rfl)
theorem dO:j7 P w K mg base 1 "glue_kind" ["face","kinds","row"] uT:=j7.never T.y8 (λ_ _ _ _ _ _=>f6 λ_ _ _=>rfl)
theorem nw:j7 P w K mg base 2 "may_be_bound" ["places","pairs","kinds"] kj:=zM.ok3 T.y9 vI (λ_ _ _ _ _ _=>f6 λ_ _ _=>rfl) λ_ _ _ _ _ _ _ hr=>(zc (zu (i:=3) vI.nd (xC (uY T) (z3 (qv 1) za))) (zc (jK (xT oN (mP rfl ↑r T.yI ↑r T.yL (qv 3)) (zt jI ↑r T.yI jG (z3 (qv 3) za))) (zi (zD gK)) zL) (zc (zu (i:=4) vI.nd (NA rfl ↑r T.yE (qw (xs:=["name","kind","due"]) rfl (zQ.of:zQ ["places","pairs","kinds","names","place_kinds"] (zb xw) _ "name" [] []) ↑K rfl (vM (qv 0)).two (λ_ _ _ _ _ _=>(jW rfl (zr (zk (i:=0) (show List.Nodup (["name","kind","due"]:List Str)by decide+kernel)) (zr (zk (i:=1) (show List.Nodup (["name","kind","due"]:List Str)by decide+kernel)) (zr (zk (i:=2) (show List.Nodup (["name","kind","due"]:List Str)by decide+kernel)) jV))))) ↑ab (λ_ _ _ _ _ _=>(jd (z3 (qv 0) (z3 (qv 1) za))))))) (zc (jK (xn (zS (zt (qq rfl) ↑r T.yC ql (z3 (qw (xs:=["name","thing"]) rfl (zQ.of:zQ ["places","pairs","kinds","names","place_kinds"] (zb xw) _ "name" ["kinds","place_kinds"] [2,4]) ↑K rfl (vM (qv 1)).two (λ_ _ _ _ _ _=>(jW rfl (zr (zk (i:=0) (show List.Nodup (["name","thing","kinds","place_kinds"]:List Str)by decide+kernel)) (zr (zk (i:=1) (show List.Nodup (["name","thing","kinds","place_kinds"]:List Str)by decide+kernel)) jV)))) ↑ab (λ_ _ _ _ _ _=>(xM oE (Xa (J9 hr) (qv 3) (qv 0)) (xI (qv 2) (qv 1))))) za)) (λ_=>rfl))) (zi (zD gK)) zL) (zi (zD (zt (qq rfl) ↑r T.yC ql (z3 (qw (xs:=["name","kind","due"]) rfl (zQ.of:zQ ["places","pairs","kinds","names","place_kinds"] (zb xw) _ "name" ["names"] [3]) ↑K rfl (vM (qv 0)).two (λ_ _ _ _ _ _=>(jW rfl (zr (zk (i:=0) (show List.Nodup (["name","kind","due","names"]:List Str)by decide+kernel)) (zr (zk (i:=1) (show List.Nodup (["name","kind","due","names"]:List Str)by decide+kernel)) (zr (zk (i:=2) (show List.Nodup (["name","kind","due","names"]:List Str)by decide+kernel)) jV))))) (λ_ _ _ _ _ _=>(de (zS (qv 2) (λ_=>rfl)))) (λ_ _ _ _ _ _=>(Yp (Vf (J8 hr)) w9 (qv 0) (qv 3) (by with_unfolding_all rfl)))) za))))))))
theorem dP:j7 P w K mg base 3 "call_kind" ["face","kinds","row"] (gj c):=zM.ok3 T.ya qz (λ_ _ _ _ _ _=>f6 λ_ _ _=>rfl) λ_ _ _ _ _ _ _ hr=>(zc (zu (i:=3) qz.nd (X1 (qf T T.wJ T.wH) (hr.mono ↑c) (qv 0) (z3 (xI (qv 2) zd) za))) (zc (jK (kc (xT bP (qv 3) vh) (vB (xT J0 (zt jI ↑r T.yI jG (z3 (xI (qv 2) zd) za)) (xI (qv 3) zd)))).pt (zi (zD vh)) zL) (zc (zu (i:=4) qz.nd (xI (qv 3) zd)) (zc (jK (xn (zS (xC (nw T) (z3 (xI (qv 3) zd) (z3 (xC (am T) (z3 (qv 0) (z3 (qv 2) za))) (z3 (qv 1) za)))) (λ_=>rfl))) (zi (zD vh)) zL) (zc (jK (xn (zS (zt (qq rfl) ↑r T.yC ql (z3 (qw (xs:=["fault","thing"]) rfl (zQ.of:zQ ["face","kinds","row","piece","back"] (zb gf) _ "fault" ["back","piece","kinds"] [4,3,1]) ↑K rfl (vM (xI (qv 2) zd)).two (λ_ _ _ _ _ _=>(jW rfl (zr (zk (i:=0) (show List.Nodup (["fault","thing","back","piece","kinds"]:List Str)by decide+kernel)) (zr (zk (i:=1) (show List.Nodup (["fault","thing","back","piece","kinds"]:List Str)by decide+kernel)) jV)))) ↑ab (λ_ _ _ _ _ _=>(qX (Yp (Vf (J8 hr)) w9 (qv 0) (xI (qv 3) zd) (by with_unfolding_all rfl)) (pp (xM oE (xI (qv 4) (qv 1)) (qv 2)))))) za)) (λ_=>rfl))) (zi (zD vh)) zL) (zi (mF 4)))))))
theorem lr:j7 P w K mg base 1 "run_end" ["text","start","signs"] ul:=zM.ok3 T.yd fM (λ_ _ _ _ _ _=>f6 λ_ _ _=>rfl) λ_ _ _ _ _ _ _ hr=>(zc (zu (i:=3) fM.nd (qv 1)) (zc (pA 100000 PassesOwn.leaving (mD (xT eZ (qv 3) (zt jI ↑r T.yI jG (z3 (qv 0) za))) (nJ (fu (Vf (J8 hr)) w9 (xI (qv 0) (qv 3)) (qv 2) (by with_unfolding_all rfl)))).pt (zi (o5 d9 (i:=3) fM.nd zd))) (zi (mF 3))))
theorem gr:j7 P w K mg base 2 "name_end" ["text","start"] qA:=zM.ok3 T.ye uV ↑p λ_ _ _ _ _ _ _ hr=>(zc (zu (i:=2) uV.nd (xC (lr T) (z3 (qv 0) (z3 (qv 1) (z3 (rJ ↑r T.yR) za))))) (zi (zD (d3 (xT Vd (xO Yx (qv 2) (qv 1)) (Vv ↑r T.yS)) (qv 2) (qv 1)))))
theorem ls:j7 P w K mg base 3 "is_name" ["text"] v5:=zM.ok3 T.yi oF ↑aa λ_ _ _ _ _ _ _ hr=>(zi (zD (qX (xM oN (qv 0) zC) (pp (xM oE (xC (gr T) (z3 (qv 0) (z3 zd za))) (zt jI ↑r T.yI jG (z3 (qv 0) za)))))))
theorem pS:j7 P w K mg base 4 "are_names" ["names"] jP:=zM.ok3 T.yk dE ↑aa λ_ _ _ _ _ _ _ hr=>(zi (zD (qX (zt (qq rfl) ↑r T.yC ql (z3 (vW rfl (zQ.of:zQ ["names"] (zb gg) _ "name" [] []) rfl (vM (qv 0)) ↑ab (λ_ _ _ _ _ _=>(xC (ls T) (z3 (qv 0) za))) (L:=0)) za)) (pp (xM oE (mP rfl ↑r T.yI ↑r T.yL (qv 0)) (zt jI ↑r T.yI jG (z3 (qv 0) za)))))))
theorem i8:j7 P w K mg base 2 "number_end" ["text","start"] pO:=zM.ok3 T.yf fe ↑p λ_ _ _ _ _ _ _ hr=>(zc (zu (i:=2) fe.nd (xC (lr T) (z3 (qv 0) (z3 (xO jv (qv 1) zd) (z3 (rJ ↑r T.yQ) za))))) (zi (zD (d3 (xT J0 (qv 2) (xO jv (qv 1) zd)) (qv 2) (qv 1)))))
theorem fi:j7 P w K mg base 3 "points_end" ["text","start"] qB:=zM.ok3 T.yh v7 ↑p λ_ _ _ _ _ _ _ hr=>(zc (zu (i:=2) v7.nd (qv 1)) (zc (pA 100000 PassesOwn.leaving (xT oE (jU (qv 0) (jb (qv 2)) (jb (xO jv (qv 2) zd))) zC) (zc (zu (i:=3) v7.nd (xC (gr T) (z3 (qv 0) (z3 (xO jv (qv 2) zd) za)))) (zc (jK (xT oE (qv 3) (xO jv (qv 2) zd)) (zi (mF 2)) zL) (zi (zu (i:=2) v7.nd (qv 3)))))) (zi (mF 2))))
theorem oG:j7 P w K mg base 4 "is_kind" ["text"] m_is_kind:=zM.ok3 T.yj xy ↑aa λ_ _ _ _ _ _ _ hr=>(zc (zu (i:=1) xy.nd (x8 za)) (zc (zu (i:=2) xy.nd zd) (zi (pA 100000 PassesOwn.leaving (zS gK (λ_=>rfl)) (zc (pA 100000 PassesOwn.leaving (xT oE (jU (qv 0) (jb (qv 2)) (jb (xO jv (qv 2) zd))) zC) (zc (uE (i:=1) zC (λte pe=>w6 (gS PySem.F.plainAttrs_list PySem.F.slot_list_append PySem.F.type_list_append x9 (pv 1) (jR pe w8)))) (zi (o5 d9 (i:=2) xy.nd zd)))) (zc (zu (i:=3) xy.nd (d3 (xT oE (jU (qv 0) (jb (qv 2)) (jb (xO jv (qv 2) zd))) zC) (xC (i8 T) (z3 (qv 0) (z3 (qv 2) za))) (xC (gr T) (z3 (qv 0) (z3 (qv 2) za))))) (zc (jK (xT oE (qv 3) (qv 2)) (zi (zD gK)) zL) (zc (zu (i:=2) xy.nd (xC (fi T) (z3 (qv 0) (z3 (qv 3) za)))) (zc (pA 100000 PassesOwn.leaving (mD (zS (qv 1) (λ_=>rfl)) (mD (xT oE (xI (qv 1) (YE zd)) zC) (nJ (xT oE (jU (qv 0) (jb (qv 2)) (jb (xO jv (qv 2) zd))) zC)))).pt (zc (Gz (i:=1) (w6 (G9 PySem.F.plainAttrs_list PySem.F.slot_list_pop PySem.F.type_list_pop Ga (pv 1)))) (zi (zu (i:=2) xy.nd (xC (fi T) (z3 (qv 0) (z3 (xO jv (qv 2) zd) za))))))) (zc (jK (xn (zS (qv 1) (λ_=>rfl))) (zi (zD (xM oE (qv 2) (zt jI ↑r T.yI jG (z3 (qv 0) za))))) zL) (zc (jK (kc (xT oN (xI (qv 1) (YE zd)) zC) (vB (xT oN (jU (qv 0) (jb (qv 2)) (jb (xO jv (qv 2) zd))) zC))).pt (zi (zD gK)) zL) (zc (Vj (i:=1) (YE zd) zC (λtk te pk pe=>aP pe (QR (pv 1) pk Y2))) (zi (o5 d9 (i:=2) xy.nd zd))))))))))))))
theorem fj:j7 P w K mg base 5 "tells_kind" ["looked","text"] (jF c):=VA T.yA rfl T.ym lW ↑p λf cdv A outer s H E hr=>Jj (oG T) (hr.mono ↑c) (J9 hr) rfl ↑r (by first|exact Or.inl rfl|exact Or.inr (Or.inl rfl)|exact Or.inr (Or.inr rfl)) (by first|exact Or.inl rfl|exact Or.inr (Or.inl rfl)|exact Or.inr (Or.inr rfl))
theorem dQ:j7 P w K mg base 6 "are_parts" ["looked","parts"] (vt c):=zM.ok3 T.yn dI ↑p λ_ _ _ _ _ _ _ hr=>(zi (zD (qX (xC (pS T) (z3 (vW rfl (zQ.of:zQ ["looked","parts"] (zb kD) _ "part" [] []) rfl (vM (qv 1)) ↑ab (λ_ _ _ _ _ _=>(xI (qv 0) zd))) za)) (pp (zt (qq rfl) ↑r T.yC ql (z3 (vW rfl (zQ.of:zQ ["looked","parts"] (zb kD) _ "part" ["looked"] [0]) rfl (vM (qv 1)) ↑ab (λ_ _ _ _ _ _=>(xC (fj T) (z3 (qv 1) (z3 (xI (qv 0) zd) za))))) za))))))
theorem dR:j7 P w K mg base 7 "is_choice" ["looked","title","made","forms"] (gm c):=j7.never T.yp (λ_ _ _ _ _ _=>Xe λ_ _ _ _=>rfl)
theorem lu:j7 P w K mg base 7 "is_function" ["looked","name","plain","places","back","faults"] (v8 c):=zM.ok3 T.yq lj (λ_ _ _ _ _ _=>No λ_ _ _ _ _ _=>rfl) λ_ _ _ _ _ _ _ hr=>(zc (jK (kc (xn (zS (xC (ls T) (z3 (qv 1) za)) (λ_=>rfl))) (vB (xn (zS (xC (fj T) (z3 (qv 0) (z3 (qv 4) za))) (λ_=>rfl))))).pt (zi (zD gK)) zL) (zc (jK (kc (xT eZ (qv 2) zd) (vB (xT J0 (qv 2) (zt jI ↑r T.yI jG (z3 (qv 3) za))))).pt (zi (zD gK)) zL) (zi (zD (qX (xC (dQ T) (z3 (qv 0) (z3 (qv 3) za))) (pp (xC (pS T) (z3 (qv 5) za))))))))
theorem dS:j7 P w K mg base 7 "is_record" ["looked","title","made","fields"] (gn c):=j7.never T.yo (λ_ _ _ _ _ _=>Xe λ_ _ _ _=>rfl)
theorem ap:j7 P w K mg base 8 "is_piece" ["looked","piece"] (xS c):=zM.ok3 T.yr ah ↑p λ_ _ _ _ _ _ _ hr=>(zc (jK (xT oE (xI (qv 1) zd) zC) (zi (zD (xC (dS T) (z3 (qv 0) (z3 (xI (qv 1) zd) (z3 (xI (qv 1) zd) (z3 (xI (qv 1) zd) za))))))) zL) (zc (jK (xT oE (xI (qv 1) zd) zC) (zi (zD (xC (dR T) (z3 (qv 0) (z3 (xI (qv 1) zd) (z3 (xI (qv 1) zd) (z3 (xI (qv 1) zd) za))))))) zL) (zi (zD (xC (lu T) (z3 (qv 0) (z3 (xI (qv 1) zd) (z3 (xI (qv 1) zd) (z3 (xI (qv 1) zd) (z3 (xI (qv 1) zd) (z3 (xI (qv 1) zd) za)))))))))))
theorem kH:j7 P w K mg base 1 "by_names" ["parts"] xz:=zM.ok3 T.yt ai ↑aa λ_ _ _ _ _ _ _ hr=>(zi (zD (xp we ↑r T.yO xm (z3 (zt J7 ↑r T.yM iJ (z3 (qv 0) za)) za))))
theorem oH:j7 P w K mg base 2 "settled" ["piece"] xY:=zM.ok3 T.yu fQ ↑aa λ_ _ _ _ _ _ _ hr=>(zc (jK (xT oE (xI (qv 0) zd) zC) (zi (zD (xO jv (jU (qv 0) vR (jb zd)) (jd (z3 (xC (kH T) (z3 (xI (qv 0) zd) za)) za))))) zL) (zc (jK (xT oE (xI (qv 0) zd) zC) (zi (zD (xO jv (jU (qv 0) vR (jb zd)) (jd (z3 (xC (kH T) (z3 (xI (qv 0) zd) za)) za))))) zL) (zc (zu (i:=1) fQ.nd (xI (qv 0) zd)) (zc (zu (i:=2) fQ.nd (xO jv (jU (xI (qv 0) zd) vR (jb (qv 1))) (xC (kH T) (z3 (jU (xI (qv 0) zd) (jb (qv 1)) vR) za)))) (zi (zD (xO jv (jU (qv 0) vR (jb zd)) (jd (z3 (qv 2) (z3 (xI (qv 0) zd) (z3 (xC (kH T) (z3 (xI (qv 0) zd) za)) za)))))))))))
theorem uo(F:∃f fd,eS K "__init__" "Face.__init__" vG f fd/\Mk K c.Face f)(hx:mg "Face"=some (.ref c.Face))(hc:lN K c.Face):bG P w K mg base 9 c.Face "Face" ["self","pieces"] (jj c):=bG.ok F hx qe (dh rfl) ↑p λf cdv A outer s H E hr=>Ji qe.nd rfl rfl (J9 hr) PassesOwn.leaving hc T.wL T.wK ↑f ↑r T.yF (by first|exact Or.inl rfl|exact Or.inr (Or.inl rfl)|exact Or.inr (Or.inr rfl)) (by first|exact Or.inl rfl|exact Or.inr (Or.inl rfl)|exact Or.inr (Or.inr rfl)) (by first|exact Or.inl rfl|exact Or.inr (Or.inl rfl)|exact Or.inr (Or.inr rfl)) (by first|exact Or.inl rfl|exact Or.inr rfl) (by first|exact Or.inl rfl|exact Or.inr rfl) (by first|exact Or.inl rfl|exact Or.inr rfl) (by first|exact Or.inl rfl|exact Or.inr rfl) (by first|exact Or.inl rfl|exact Or.inr rfl) (by first|exact Or.inl rfl|exact Or.inr rfl) (by first|exact Or.inl rfl|exact Or.inr rfl) (by first|exact Or.inl rfl|exact Or.inr rfl) (Xc T.yA) (fu (N7 (GG hr)) w9 (tO (J9 hr) (qv 4) zd (λ_ _=>rfl)) zC (eJ _)) (kc (fu (Vf (J8 hr)) w9 (tO (J9 hr) (qv 4) zd (λ_ _=>rfl)) (qv 5) (by with_unfolding_all rfl)) (vB (xn (zS (vD (ap T) (hr.mono ↑c) ↑r (z3 (qv 2) (z3 (qv 4) za))) (λ_=>rfl))))).pt (tO (J9 hr) (qv 4) zd (λ_ _=>rfl)) (vD (oH T) (hr.mono ↑c) ↑r (z3 (qv 4) za))
theorem ny{x:Str}{C:Addr}(h:Jm K mg x "FaceError.__init__" xx C):GW P w K mg base x C:=Jm.ok h qR rfl ↑p
theorem aq:j7 P w K mg base 4 "row_kind" ["face","kinds","row"] (jk c):=zM.ok3 T.yb uW (λ_ _ _ _ _ _=>f6 λ_ _ _=>rfl) λ_ _ _ _ _ _ _ hr=>(zc (jK (xn (zS (xC (lZ T) (z3 (qv 2) (z3 (zt jI ↑r T.yI jG (z3 (qv 1) za)) za))) (λ_=>rfl))) (zi (zD vh)) zL) (GU (n:=3) 3 (by exact T.yV) (hr.mono ↑c) ⟨⟨_,_,_,rfl,ao T,by decide⟩,⟨⟨_,_,_,rfl,dM T,by decide⟩,⟨⟨_,_,_,rfl,dN T,by decide⟩,⟨⟨_,_,_,rfl,dO T,by decide⟩,⟨⟨_,_,_,rfl,dP T,by decide⟩,trivial⟩⟩⟩⟩⟩ ↑r (xI (qv 2) zd) (IS (i:=3) uW.nd) (pv 3) (z3 (qv 0) (z3 (qv 1) (z3 (qv 2) za)))))
theorem au:j7 P w K mg base 5 "kinds_of" ["face","client"] (qC c):=zM.ok3 T.yc vv ↑p λ_ _ _ _ _ _ _ hr=>(zc (zu (i:=2) vv.nd (x8 za)) (zc (Xj PassesOwn.leaving rfl (Xu ↑r T.yF (qv 1)) (jW rfl (zr (zk (i:=3) vv.nd) (zr (zk (i:=4) vv.nd) jV))) (zc (zu (i:=5) vv.nd (xC (aq T) (z3 (qv 0) (z3 (qv 2) (z3 (qv 4) za))))) (zc (jK (xT bP (qv 5) vh) (zi (VH (ny T T.wP) (hr.mono ↑c) ↑r (qv 3))) zL) (zi (uE (i:=2) (qv 5) (λte pe=>w6 (gS PySem.F.plainAttrs_list PySem.F.slot_list_append PySem.F.type_list_append x9 (pv 2) (jR pe w8)))))))) (zi (mF 2))))
theorem nB:j7 P w K mg base 1 "_law_cell_at" ["_law_script","_law_k"] xA:=zM.ok3 T.yw nv ↑p λ_ _ _ _ _ _ _ hr=>(zc (jK (xT eZ (qv 1) (zt jI ↑r T.yI jG (z3 (qv 0) za))) (zi (zD (xI (qv 0) (qv 1)))) zL) (zi (zD zd)))
theorem qN:∀n:Nat,j7 P w K mg base (n+1) "_law_alike" ["_law_found","_law_due"] (j4 n)|0=>j7.never T.yx ↑p|n+1=>(zM.ok3 (k:=n+1) T.yx lX ↑p λ_ _ _ _ _ _ _ hr=>(zc (jK (xT bP (qv 1) vh) (zi (zD (xM bP (qv 0) vh))) zL) (zc (jK (zS (zt wn ↑r T.yH zT (z3 (qv 1) (z3 (kf ↑r T.yD eU) za))) (λ_=>rfl)) (zi (zD (qX (zt wn ↑r T.yH zT (z3 (qv 0) (z3 (kf ↑r T.yD eU) za))) (pp (xM oE (qv 0) (qv 1)))))) zL) (zc (jK (zS (zt wn ↑r T.yH zT (z3 (qv 1) (z3 (kf ↑r T.yG tM) za))) (λ_=>rfl)) (zi (zD (qX (zt wn ↑r T.yH zT (z3 (qv 0) (z3 (kf ↑r T.yG tM) za))) (qX (Q3 (zt wn ↑r T.yH zT (z3 (qv 0) (z3 (kf ↑r T.yD eU) za)))) (pp (xM oE (qv 0) (qv 1))))))) zL) (zc (jK (zS (zt wn ↑r T.yH zT (z3 (qv 1) (z3 (kf ↑r T.yN Ym) za))) (λ_=>rfl)) (zi (zD (qX (zt wn ↑r T.yH zT (z3 (qv 0) (z3 (kf ↑r T.yN Ym) za))) (pp (xM oE (qv 0) (qv 1)))))) zL) (zc (jK (kc (xT oN (zt wn ↑r T.yH zT (z3 (qv 1) (z3 (kf ↑r T.yO xm) za))) (zt wn ↑r T.yH zT (z3 (qv 0) (z3 (kf ↑r T.yO xm) za)))) (vB (xT oN (zt wn ↑r T.yH zT (z3 (qv 1) (z3 (kf ↑r T.yJ eV) za))) (zt wn ↑r T.yH zT (z3 (qv 0) (z3 (kf ↑r T.yJ eV) za)))))).pt (zi (zD gK)) zL) (zc (jK (xT oN (zt jI ↑r T.yI jG (z3 (qv 0) za)) (zt jI ↑r T.yI jG (z3 (qv 1) za))) (zi (zD gK)) zL) (zi (zD (zt (qq rfl) ↑r T.yC ql (z3 (vW rfl (zQ.of:zQ ["_law_found","_law_due"] (zb qy) _ "_law_k" ["_law_found","_law_due"] [0,1]) rfl (iQ ↑r T.yK (z3 (zt jI ↑r T.yI jG (z3 (qv 1) za)) za)) ↑ab (λ_ _ _ _ _ _=>(xC (qN n) (z3 (xI (qv 1) (qv 0)) (z3 (xI (qv 2) (qv 0)) za))))) za))))))))))).mono ↑c
theorem kU:j7 P w K mg base 9 "_law_alike" ["_law_found","_law_due"] xE:=qN T 8
theorem j0:j7 P w K mg base 1 "_law_mixed" ["_law_cell","_law_k"] vZ:=zM.ok3 T.yy fh ↑p λ_ _ _ _ _ _ _ hr=>(zc (zu (i:=2) fh.nd (xO xh (xO Yy (xO jv (xO jv (qv 0) (xO Yy zd (qv 1))) zd) zd) zd)) (zi (zD (xO xh (xO Yy (qv 2) (xO jv (xO kB (qv 2) zd) zd)) zd))))
theorem lw:j7 P w K mg base 6 "_law_looked" ["_law_face","_law_client"] (v9 c):=zM.ok3 T.yz jf ↑p λ_ _ _ _ _ _ _ hr=>(zc (zu (i:=2) jf.nd vh) (zc (zu (i:=3) jf.nd vh) (zc (zu (i:=4) jf.nd gK) (zc (GX rfl rfl ↑r T.wN (λ_ h=>(List.mem_cons.mp h).elim (λe=>e▸T.wR) λh=>nomatch h) ⟨jf.nd,rfl,rfl⟩ (λ_ _=>(zi (zu (i:=2) jf.nd (xC (au T) (z3 (qv 0) (z3 (qv 1) za)))))) λ_=>(zc (zu (i:=3) jf.nd (Nx (λ_ h=>(List.mem_cons.mp h).elim (λe=>e▸T.wQ) λh=>nomatch h) (qv 5))) (zi (zu (i:=4) jf.nd (qX (Xz ↑r T.yH (gy (v:=.ref c.FaceError) ↑r T.wM rfl) (λ_ h=>h) (λ_ h=>(List.mem_cons.mp h).elim (λe=>e▸⟨T.wQ,T.wS⟩) λh=>nomatch h) (qv 5)) (qX (Xz ↑r T.yH (oR (v:=.ty "ValueError") ↑r T.yB (u:=.type "ValueError") ↑K rfl) (λ_ h=>h) (λ_ h=>(List.mem_cons.mp h).elim (λe=>e▸⟨T.wQ,T.wU⟩) λh=>nomatch h) (qv 5)) (pp (Q3 (Xz ↑r T.yH (gy (v:=.ref c.NoFace) ↑r T.wO rfl) (λ_ h=>h) (λ_ h=>(List.mem_cons.mp h).elim (λe=>e▸⟨T.wQ,T.wT⟩) λh=>nomatch h) (qv 5)))))))))) (zi (zD (jd (z3 (qv 2) (z3 (qv 3) (z3 (qv 4) za))))))))))
theorem uq:j7 P w K mg base 2 "_law_function" ["_law_cell"] vJ:=zM.ok3 T.wA zY ↑aa λ_ _ _ _ _ _ _ hr=>(zc (zu (i:=1) zY.nd (x8 za)) (zc (qZ PassesOwn.leaving rfl (bc ↑r T.yK (z3 (xO xh (xC (j0 T) (z3 (qv 0) (z3 zd za))) zd) za)) (zk (i:=2) zY.nd) (zc (zu (i:=3) zY.nd (xC (j0 T) (z3 (qv 0) (z3 (xO jv zd (qv 2)) za)))) (zc (zu (i:=4) zY.nd (xI (x8 (z3 zC (z3 zC (z3 zC (z3 zC za))))) (xO xh (xO jv (qv 2) (xC (j0 T) (z3 (qv 0) (z3 zd za)))) zd))) (zi (uE (i:=1) (jd (z3 (qv 4) (z3 (xI (x8 (z3 zC (z3 zC (z3 zC za)))) (xO xh (qv 3) zd)) (z3 (xM oE (xO xh (xO kB (qv 3) zd) zd) zd) za)))) (λte pe=>w6 (gS PySem.F.plainAttrs_list PySem.F.slot_list_append PySem.F.type_list_append x9 (pv 1) (jR pe w8)))))))) (zc (zu (i:=5) zY.nd (xO xh (xC (j0 T) (z3 (qv 0) (z3 zd za))) (xO jv (zt jI ↑r T.yI jG (z3 (qv 1) za)) zd))) (zc (zu (i:=6) zY.nd (jU (x8 (z3 zC (z3 zC za))) (jb (xO xh (xC (j0 T) (z3 (qv 0) (z3 zd za))) zd)) vR)) (zc (zu (i:=7) zY.nd (xI (x8 (z3 zC (z3 zC (z3 zC (z3 zC za))))) (xO xh (xC (j0 T) (z3 (qv 0) (z3 zd za))) zd))) (zi (zD (jd (z3 (qv 5) (z3 (qv 1) (z3 (qv 7) (z3 (qv 6) za))))))))))))
theorem kW:j7 P w K mg base 1 "_law_thing" ["_law_kind","_law_x"] qF:=zM.ok3 T.wB lY ↑p λ_ _ _ _ _ _ _ hr=>(zc (jK (xT oE (xO xh (qv 1) zd) zd) (zi (zD (xO Yx (xO xh (xO kB (qv 1) zd) zd) zd))) zL) (zi (zD (xI (xI (Pc (nN (x8 (z3 zd (z3 zd za))) (nN (x8 (z3 zd (z3 zd za))) (nN (x8 (z3 zd (z3 zd za))) (nN (x8 (z3 zd (z3 zd za))) Pb)))) ↑K) (qv 0)) (xO xh (xO kB (qv 1) zd) zd)))))
theorem dU:j7 P w K mg base 2 "_law_call" ["_law_function_here","_law_cell"] kF:=zM.ok3 T.wC zw ↑p λ_ _ _ _ _ _ _ hr=>(zc (dg (qv 0) (jW rfl (zr (zk (i:=2) zw.nd) (zr (zk (i:=3) zw.nd) (zr (zk (i:=4) zw.nd) (zr (zk (i:=5) zw.nd) jV)))))) (zc (zu (i:=6) zw.nd (xC (j0 T) (z3 (qv 1) (z3 zd za)))) (zc (zu (i:=7) zw.nd (xI (x8 (z3 (xO xh (xO kB (qv 6) zd) (xO jv (qv 2) zd)) (z3 (xO xh (xO kB (qv 6) zd) (xO jv (qv 2) zd)) za))) (xp GR ↑r T.yG tM (z3 (xM oE (xO xh (qv 6) zd) zd) za)))) (zc (zu (i:=8) zw.nd (x8 za)) (zc (qZ PassesOwn.leaving rfl (bc ↑r T.yK (z3 (qv 7) za)) (zk (i:=9) zw.nd) (zc (zu (i:=10) zw.nd zC) (zc (jK (xT eZ (qv 9) (zt jI ↑r T.yI jG (z3 (qv 3) za))) (zi (zu (i:=10) zw.nd (xI (xI (qv 3) (qv 9)) zd))) zL) (zi (uE (i:=8) (xC (kW T) (z3 (qv 10) (z3 (xC (j0 T) (z3 (qv 1) (z3 (xO jv zd (qv 9)) za))) za))) (λte pe=>w6 (gS PySem.F.plainAttrs_list PySem.F.slot_list_append PySem.F.type_list_append x9 (pv 8) (jR pe w8)))))))) (zc (zu (i:=11) zw.nd (x8 za)) (zc (qZ PassesOwn.leaving rfl (bg ↑r T.yK (z3 (qv 7) (z3 (zt jI ↑r T.yI jG (z3 (qv 3) za)) za))) (zk (i:=9) zw.nd) (zc (zu (i:=12) zw.nd (xC (j0 T) (z3 (qv 1) (z3 (xO jv zd (qv 9)) za)))) (zi (jK (kc (xT J0 (xO xh (qv 12) zd) zd) (vB (mD (zS (xI (xI (qv 3) (qv 9)) zd) (λ_=>rfl)) (nJ (xT J0 (xO xh (qv 12) zd) zd))).pt)).pt (zi (uE (i:=11) (jd (z3 (xI (xI (qv 3) (qv 9)) zd) (z3 (xC (kW T) (z3 (xI (xI (qv 3) (qv 9)) zd) (z3 (xO kB (qv 12) zd) za))) za))) (λte pe=>w6 (gS PySem.F.plainAttrs_list PySem.F.slot_list_append PySem.F.type_list_append x9 (pv 11) (jR pe w8))))) zL)))) (zc (jK (xT oE (xO xh (xO kB (qv 6) zd) zd) zd) (zi (uE (i:=11) (jd (z3 (xI (x8 (z3 zC (z3 zC (z3 zC (z3 zC (z3 zC za)))))) (xO xh (xO kB (qv 6) zd) zd)) (z3 (xO xh (xO kB (qv 6) zd) zd) za))) (λte pe=>w6 (gS PySem.F.plainAttrs_list PySem.F.slot_list_append PySem.F.type_list_append x9 (pv 11) (jR pe w8))))) zL) (zc (zu (i:=11) zw.nd (zt oy ↑r T.yM iJ (z3 (qv 11) za))) (zc (jK (xT oE (xO xh (xO kB (qv 6) zd) zd) zd) (zi (zu (i:=11) zw.nd (Xg (qv 11)))) zL) (zc (zu (i:=13) zw.nd (x8 za)) (zc (Xj PassesOwn.leaving rfl (Xu ↑r T.yF (jU (xO jv (qv 5) (x8 (z3 zC za))) vR (jb (xO xh (xO kB (qv 6) zd) zd)))) (jW rfl (zr (zk (i:=9) zw.nd) (zr (zk (i:=14) zw.nd) jV))) (zi (uE (i:=13) (jd (z3 (qv 14) (z3 (xC (kW T) (z3 (qv 4) (z3 (xC (j0 T) (z3 (qv 1) (z3 (xO jv zd (qv 9)) za))) za))) za))) (λte pe=>w6 (gS PySem.F.plainAttrs_list PySem.F.slot_list_append PySem.F.type_list_append x9 (pv 13) (jR pe w8)))))) (zc (jK (xT oE (xO xh (xO kB (qv 6) zd) zd) zd) (zi (zu (i:=13) zw.nd (Xg (qv 13)))) zL) (zc (jK (xT oE (xO xh (xO kB (qv 6) zd) zd) zd) (zi (zu (i:=13) zw.nd (xO jv (jU (qv 13) vR (jb zd)) (qv 13)))) zL) (zi (zD (jd (z3 zC (z3 zC (z3 (xp we ↑r T.yO xm (z3 (qv 8) za)) (z3 (xp we ↑r T.yO xm (z3 (qv 11) za)) (z3 (xp we ↑r T.yO xm (z3 (qv 13) za)) za))))))))))))))))))))))
theorem pT:j7 P w K mg base 1 "_law_rise" ["_law_parts"] kG:=zM.ok3 T.wD pQ ↑aa λ_ _ _ _ _ _ _ hr=>(zc (qZ PassesOwn.leaving rfl (bg ↑r T.yK (z3 zd (z3 (zt jI ↑r T.yI jG (z3 (qv 0) za)) za))) (zk (i:=1) pQ.nd) (zi (jK (xT Lj (xI (xI (qv 0) (xO Yx (qv 1) zd)) zd) (xI (xI (qv 0) (qv 1)) zd)) (zi (zD gK)) zL))) (zi (zD gK)))
theorem i9:j7 P w K mg base 2 "_law_bound" ["_law_function_here","_law_row","_law_kinds"] k4:=zM.ok3 T.wE zI (λ_ _ _ _ _ _=>f6 λ_ _ _=>rfl) λ_ _ _ _ _ _ _ hr=>(zc (dg (qv 0) (jW rfl (zr (zk (i:=3) zI.nd) (zr (zk (i:=4) zI.nd) (zr (zk (i:=5) zI.nd) (zr (zk (i:=6) zI.nd) jV)))))) (zc (jK (kc (xT J0 (zt jI ↑r T.yI jG (z3 (xI (qv 1) zd) za)) (qv 3)) (kc (xn (zS (xC (pT T) (z3 (xI (qv 1) zd) za)) (λ_=>rfl))) (vB (xn (zS (xC (pT T) (z3 (xI (qv 1) zd) za)) (λ_=>rfl)))))).pt (zi (zD vh)) zL) (zc (zu (i:=7) zI.nd (xO jv (vW rfl (zQ.of:zQ ["_law_function_here","_law_row","_law_kinds","_law_plain","_law_places","_law_back","_law_faults","_law_found","_law_names","_law_name","_law_x","_law_sort","_law_kind","_law_due","_law_fault"] (zb wq) _ "_law_k" ["_law_places","_law_row"] [4,1]) rfl (iQ ↑r T.yK (z3 (zt jI ↑r T.yI jG (z3 (xI (qv 1) zd) za)) za)) ↑ab (λ_ _ _ _ _ _=>(jd (z3 (xI (xI (qv 1) (qv 0)) zd) (z3 (xI (xI (qv 2) zd) (qv 0)) za))))) (xp Vo ↑r T.yJ eV (z3 (xI (qv 1) zd) za)))) (zc (rP (i:=8) zI.nd rfl (by first|exact .inl rfl|exact .inr rfl) (xs:=["_law_name","_law_x"]) rfl (zQ.of:zQ ["_law_function_here","_law_row","_law_kinds","_law_plain","_law_places","_law_back","_law_faults","_law_found","_law_names","_law_name","_law_x","_law_sort","_law_kind","_law_due","_law_fault"] (zb wq) _ "_law_name" [] []) ↑K rfl (vM (qv 7)).two (λ_ _ _ _ _ _=>(jW rfl (zr (zk (i:=0) (show List.Nodup (["_law_name","_law_x"]:List Str)by decide+kernel)) (zr (zk (i:=1) (show List.Nodup (["_law_name","_law_x"]:List Str)by decide+kernel)) jV)))) ↑ab (λ_ _ _ _ _ _=>(qv 0))) (zc (jK (xT eZ (mP rfl ↑r T.yI ↑r T.yL (qv 8)) (zt jI ↑r T.yI jG (z3 (qv 8) za))) (zi (zD vh)) zL) (zc (qZ PassesOwn.leaving rfl (Q7 7) (jW rfl (zr (zk (i:=9) zI.nd) (zr (zk (i:=10) zI.nd) jV))) (zc (YV (i:=11) zI.nd rfl (by first|exact .inl rfl|exact .inr rfl) rfl (zQ.of:zQ ["_law_function_here","_law_row","_law_kinds","_law_plain","_law_places","_law_back","_law_faults","_law_found","_law_names","_law_name","_law_x","_law_sort","_law_kind","_law_due","_law_fault"] (zb wq) _ "_law_place" ["_law_name"] [9]) rfl (vM (qv 4)) (λ_ _ _ _ _ _=>(de (xT oE (xI (qv 0) zd) (qv 1)))) (λ_ _ _ _ _ _=>(xI (qv 0) zd))) (zi (jK (kc (xT oE (qv 11) (x8 za)) (kc (xn (bz Vd eZ zd (qv 10) (zt jI ↑r T.yI jG (z3 (qv 2) za)))) (vB (xT oN (xI (qv 2) (qv 10)) (xI (qv 11) zd))))).pt (zi (zD vh)) zL)))) (zc (qZ PassesOwn.leaving rfl (Q7 4) (jW rfl (zr (zk (i:=9) zI.nd) (zr (zk (i:=12) zI.nd) (zr (zk (i:=13) zI.nd) jV)))) (zi (jK (mD (zS (qv 13) (λ_=>rfl)) (nJ (fu (Q1 (J8 hr)) w9 (qv 9) (qv 8) (by with_unfolding_all rfl)))).pt (zi (zD vh)) zL))) (zc (qZ PassesOwn.leaving rfl (YL (xI (qv 1) zd)) (jW rfl (zr (zk (i:=14) zI.nd) (zr (zk (i:=10) zI.nd) jV))) (zi (jK (kc (fu (Q1 (J8 hr)) w9 (qv 14) (qv 6) (by with_unfolding_all rfl)) (kc (xn (bz Vd eZ zd (qv 10) (zt jI ↑r T.yI jG (z3 (qv 2) za)))) (vB (xT oN (xI (qv 2) (qv 10)) (qv 5))))).pt (zi (zD vh)) zL))) (zi (zD (xp we ↑r T.yO xm (z3 (qv 7) za))))))))))))
theorem Pj{f:Addr}{fd:FuncData}(Fl:eS K "law" "law" Z0 f fd):xZ P w K mg base (nr P w) 11 f fd ["_law_script"] (gX K (Qs c)):=eS.ok3 Fl jM λcdv A outer s H E hr=>(zc (zu (i:=1) jM.nd (vD (uq T) (hr.mono ↑c) ↑r (z3 (vD (nB T) (hr.mono ↑c) ↑r (z3 (qv 0) (z3 zd za))) za))) (zc (dg (qv 1) (jW rfl (zr (zk (i:=2) jM.nd) (zr (zk (i:=3) jM.nd) (zr (zk (i:=4) jM.nd) (zr (zk (i:=5) jM.nd) jV)))))) (zc (zu (i:=6) jM.nd (jd (z3 (qv 2) (z3 (Xg (qv 3)) (z3 (qv 4) (z3 (qv 5) za)))))) (zc (zu (i:=7) jM.nd (x8 (z3 zC (z3 zC (z3 zC (z3 zC (z3 zC (z3 zC za)))))))) (zc (zu (i:=8) jM.nd (x8 (z3 (jd (z3 zC (z3 zd za))) (z3 (jd (z3 zC (z3 zd za))) (z3 (jd (z3 zC (z3 zC za))) (z3 (jd (z3 zC (z3 zC za))) (z3 (jd (z3 zC (z3 zC (z3 (jd za) (z3 (jd za) (z3 (jd za) za)))))) (z3 (jd (z3 zC (z3 zC (z3 (jd za) (z3 (jd za) (z3 (jd za) za)))))) za)))))))) (zc (zu (i:=9) jM.nd (x8 za)) (zc (qZ PassesOwn.leaving rfl (YL (jd (z3 (qv 1) (z3 (qv 6) za)))) (zk (i:=10) jM.nd) (zc (zu (i:=11) jM.nd (jd (z3 zC (z3 zC (z3 (qv 2) (z3 (xp we ↑r T.yO xm (z3 (tO (J9 hr) (qv 10) zd (λ_ _=>rfl)) za)) (z3 (qv 4) (z3 (xp we ↑r T.yO xm (z3 (qv 5) za)) za)))))))) (zi (uE (i:=9) (GI (uo T T.wI T.wG T.wH) (hr.mono ↑c) ↑r (z3 (x8 (z3 (qv 11) (z3 (jd (z3 zC (z3 zC (z3 zd (z3 (jd za) (z3 zC (z3 (jd za) za))))))) za))) za)) (λte pe=>w6 (gS PySem.F.plainAttrs_list PySem.F.slot_list_append PySem.F.type_list_append x9 (pv 9) (jR pe w8))))))) (zc (qZ PassesOwn.leaving rfl (YL (jU (qv 0) (jb zd) (jb zd))) (zk (i:=12) jM.nd) (zc (zu (i:=13) jM.nd (vD (dU T) (hr.mono ↑c) ↑r (z3 (qv 1) (z3 (qv 12) za)))) (zi (qZ PassesOwn.leaving rfl (YL (x8 (z3 (jd (z3 (tO (J9 hr) (qv 9) zd (λ_ _=>rfl)) (z3 (qv 1) za))) (z3 (jd (z3 (tO (J9 hr) (qv 9) zd (λ_ _=>rfl)) (z3 (qv 6) za))) za)))) (jW rfl (zr (zk (i:=14) jM.nd) (zr (zk (i:=10) jM.nd) jV))) (zc (zu (i:=15) jM.nd (vD (i9 T) (hr.mono ↑c) ↑r (z3 (qv 10) (z3 (qv 13) (z3 (qv 7) za))))) (zc (dg (vD (lw T) (hr.mono ↑c) ↑r (z3 (qv 14) (z3 (Gu jv w9 (qv 8) (x8 (z3 (qv 13) za))) za))) (jW rfl (zr (zk (i:=16) jM.nd) (zr (zk (i:=17) jM.nd) (zr (zk (i:=18) jM.nd) jV))))) (zi (jK (fu bP w9 (qv 15) vh (eJ _)) (zi (jK (kc (xn (zS (vD (kU T) (hr.mono ↑c) ↑r (z3 (qv 17) (z3 zd za))) (λ_=>rfl))) (vB (xn (zS (qv 18) (λ_=>rfl))))).pt (zi (zD gK)) zL)) (zi (jK (kc (xn (zS (vD (kU T) (hr.mono ↑c) ↑r (z3 (qv 16) (z3 (Gu jv w9 (qv 7) (x8 (z3 (qv 4) za))) za))) (λ_=>rfl))) (vB (xn (zS (vD (kU T) (hr.mono ↑c) ↑r (z3 (vD (am T) (hr.mono ↑c) ↑r (z3 (qv 14) (z3 (qv 13) za))) (z3 (qv 15) za))) (λ_=>rfl))))).pt (zi (zD gK)) zL)))))))))) (zi (zD gK))))))))))
end
theorem wu{t:MT}{a b:MS}{env:En}(h:xq t env=.ok true):xH t a b env=a env:=by unfold xH;rw[h];rfl
theorem zB{t:MT}{a:MS}{env:En}(h:xq t env=.ok false):xH t a zF env=.nx env:=by unfold xH;rw[h];rfl
theorem zh{a b:MS}{e e':En}(h:a e=.nx e'):zq a b e=b e':=by unfold zq;rw[h]
theorem ly{a b:MS}{e:En}{r:RV}(h:a e=.rt r):zq a b e=.rt r:=by unfold zq;rw[h]
theorem wv{t:MT}{a c:MS}{env:En}{r:RV}(h:xq t env=.ok true)(g:a env=.rt r):zq (xH t a zF) c env=.rt r:=ly ((wu h).trans g)
theorem vC{a:ME}{m:MA}{env:En}{r:RV}{rs:List RV}(h:a env=.ok r)(g:m env=.ok rs):z9 a m env=.ok (r::rs):=by unfold z9;rw[h,bind_ok,g];rfl
theorem v2{f:T->T->Option RV}{a b:ME}{env:En}{p q:Bool}{x y:T}{r:RV}(h:a env=.ok (p,x))(g:b env=.ok (q,y))(k:f x y=some r):m2 f a b env=.ok r:=by unfold m2;rw[h,bind_ok,g,bind_ok];show aL (f x y)=_;rw[k];rfl
theorem vF{f:MF}{m:MA}{env:En}{rs:List RV}{r:RV}(h:m env=.ok rs)(g:f rs=.ok r):zj f m env=.ok r:=by unfold zj;rw[h];exact g
theorem vK{f:List T->Option RV}{m:MA}{env:En}{rs:List RV}{r:RV}(h:m env=.ok rs)(g:f (rs.map (·.2))=some r):zp f m env=.ok r:=by unfold zp;rw[h,bind_ok,g];rfl
theorem vL{m:MA}{env:En}{rs:List RV}{ts:List T}(h:m env=.ok rs)(e:rs.map (·.2)=ts)(hl:Nat.ble rs.length 100=true):xK m env=.ok (true,.lst ts):=by unfold xK;rw[h,bind_ok,if_pos (Nat.le_trans (Nat.le_of_ble_eq_true hl) ↑f),e]
theorem vV{i:Nat}{env:En}{b:Bool}{t:T}(h:env[i]?=some (some (b,t))):mV i env=.ok ↑V:=by unfold mV;rw[h]
theorem vT{m:ME}{env:En}{p b:Bool}(h:m env=.ok (p,.bl b)):jX m env=.ok b:=by unfold jX;rw[h];rfl
theorem av{a b:ME}{env:En}{p:Bool}{r:RV}(h:a env=.ok (p,.bl true))(g:b env=.ok r):xo a b env=.ok r:=by unfold xo;rw[h];exact g
theorem Qt{a b:MT}{env:En}{x y:Bool}(h:a env=.ok x)(g:b env=.ok y):qW a b env=.ok (x&&y):=by
 unfold qW;rw[h,bind_ok];cases x;·rfl
 ·exact g
theorem vS{m:ME}{ml mh:MO}{env:En}{p:Bool}{x:T}{l h:Option Int}{r:RV}(a:m env=.ok (p,x))(b:ml env=.ok l)(c:mh env=.ok h)(d:Wq x l h=some r):uC m ml mh env=.ok r:=by unfold uC;rw[a,bind_ok,b,bind_ok,c,bind_ok,d];rfl
theorem vP{m:MA}{env:En}{rs:List RV}{ts:List T}(h:m env=.ok rs)(e:rs.map (·.2)=ts)(hl:Nat.ble rs.length 100=true):jJ m env=.ok (false,.tup ts):=by unfold jJ;rw[h,bind_ok,if_pos (Nat.le_trans (Nat.le_of_ble_eq_true hl) ↑f),e]
theorem ic{a b:MT}{env:En}{x:kN Bool}(h:a env=.ok false)(g:b env=x):wV a b env=x:=by unfold wV;rw[h];exact g
theorem oI{m:ME}{env:En}{p:Bool}(h:m env=.ok (p,.bl true)):jl (vQ m) env=.ok false:=by unfold jl vQ;rw[h];rfl
theorem vN{m:ME}{env:En}{p:Bool}{i:Int}(h:m env=.ok (p,.int i)):jq m env=.ok (some i):=by unfold jq;rw[h];rfl
theorem II{f:List T->Option RV}{a:ME}{m:MA}{env:En}(h:a env=.bad):zp f (z9 a m) env=.bad:=by unfold zp z9;rw[h];rfl
theorem jm{m:MT}{env:En}{b:Bool}(h:m (hide env)=.ok b):xq m env=.ok b:=by unfold xq;rw[h]
theorem jr{n k:Nat}{mb:MS}{rs:List RV}{r:RV}(hl:rs.length=k)(h:mb (wd n rs)=.rt r):zP n k mb rs=.ok r:=by unfold zP;rw[if_pos hl,h];rfl
theorem zx{i:Nat}{m:ME}{env:En}{r:RV}(h:m (hide env)=.ok r):zH i m env=.nx (env.set i (some r)):=by unfold zH xj;rw[h]
theorem jp{m:ME}{env:En}{r:RV}(h:m (hide env)=.ok r):zJ m env=.rt r:=by unfold zJ xj;rw[h]
theorem K2{i j:Int}{b:Bool}(h:decide (i<j)=b):kr (.int i) (.int j)=some (false,.bl b):=by rw[<-h];rfl
theorem fU{i:Nat}{m:ME}{env:En}{ts:List T}{r:RV}(h:env[i]?=some (some (true,.lst ts)))(hm:m (hide env)=.ok r)(hl:ts.length<sizeLine):pB i m env=.nx (env.set i (some (true,.lst (ts++[r.2])))):=by unfold pB xj;rw[h,hm];dsimp only;rw[h];dsimp only;rw[if_pos hl]
theorem xF{m:MT}{env:En}{b:Bool}(hH:m (hide env)=.bad)(hE:m env=.ok b):xq m env=.ok b:=by unfold xq;rw[hH,hE]
theorem vb{m:ME}{env:En}{r:RV}(hE:m env=.ok r)(hH:m (hide env)=.bad):zJ m env=.rt r:=by unfold zJ xj;rw[hH,hE]
theorem NM{a b:MT}{env:En}(h:a env=.ok true):wV a b env=.ok true:=by unfold wV;rw[h];rfl
theorem lz{m:ME}{env:En}{r:RV}(h:m (hide env)=.ok r):xj m env=.ok (r,env):=by unfold xj;rw[h]
theorem ww{env:En}{r:RV}(h1:d8 r=true)(h2:tQ r=true)(h3:tR r=true):L3.clean env r=true:=by unfold L3.clean;simp[h1,h2,h3]
theorem Qu(a:Int){b:Int}(h:0<b):jO (.int a) (.int b)=some (false,.int (a%b)):=if_pos h
theorem Hk{f:T->T->Option RV}{a b:ME}{env:En}{r:RV}(h:a env=.ok r)(g:b env=.bad):m2 f a b env=.bad:=by unfold m2;rw[h,bind_ok,g];rfl
theorem Hl{a b:ME}{env:En}{p x y:Bool}(h:a env=.ok (p,.bl x))(g:b env=.ok (false,.bl y)):xo a b env=.ok (false,.bl (x&&y)):=by
 unfold xo;rw[h];cases x;·rfl
 ·exact g
theorem IJ{a:ME}{env:En}{p x:Bool}(h:a env=.ok (p,.bl x)):iO a env=.ok (false,.bl (!x)):=by unfold iO;rw[h];rfl
theorem NN{i j:Int}{b:Bool}(h:decide (i<=j)=b):mx (.int i) (.int j)=some (false,.bl b):=by rw[<-h];rfl
theorem XR{i j:Int}{b:Bool}(h:decide (j<i)=b):my (.int i) (.int j)=some (false,.bl b):=by rw[<-h];rfl
theorem XS{α:Type}(l:List α)(e:Nat):cH l (e:Int)=l[e]?:=by cases h:l[e]? with|some v=>exact WV h|none=>
  have hl:l.length<=e:=by simpa using h
  have e1:Y1 l.length (e:Int)=none:=by unfold Y1;rw[if_pos ↑c,if_neg ↑c]
  unfold cH;rw[e1];rfl
theorem ut(i j:Int):jn (.int i) (.int j)=some (false,.bl (decide (i=j))):=by simp[jn,ni,ZY];exact Bool.eq_iff_iff.mpr ↑D
theorem fV(x y:Str):jn (.str x) (.str y)=some (false,.bl (decide (x=y))):=by simp[jn,ni,ZY];exact Bool.eq_iff_iff.mpr ↑D
theorem XT(x y:Str):qm (.str x) (.str y)=some (false,.bl (!decide (x=y))):=by simp[qm,ni,ZY];exact Bool.eq_iff_iff.mpr ↑D
theorem wt{i:Nat}{w v:Str}{env:En}{t:T}{b:Bool}(h:mV i env=.ok ↑V)(hx:zA t (.int 0)=some (false,.str w))(hb:decide (w=v)=b):jX (m2 jn (m2 zA (mV i) ↑o) (mC (.str v))) env=.ok b:=by rw[<-hb];exact vT (v2 (v2 h rfl hx) rfl (fV w v))
theorem K3(ns:List Int)(k:Nat):xA [(false,.lst (ns.map T.int)),(false,.int k)]=.ok (false,.int (ns.getD k 0)):=by
 by_cases h:k<ns.length
 ·have hi:(k:Int)<(ns.length:Int):=by omega
  simp[xA,zP,wd,kn,zq,xH,xq,hide,xU,jX,m2,mV,zp,z9,ze,jH,kr,hi,zJ,xj,zA,XS,h,YM]
 ·have hi:¬((k:Int)<(ns.length:Int)):=by omega
  simp[xA,zP,wd,kn,zq,xH,xq,hide,xU,jX,m2,mV,zp,z9,ze,jH,kr,hi,zJ,xj,zF,mC,h,YM]
theorem big:1000<sizeLine:=by decide
theorem XU(n:Nat):kQ 0 n=(List.range' 0 n).map λ(i:Nat)=>T.int (i:Int):=by unfold kQ;rw[List.range_eq_range'];simp
theorem K4{m:MA}{env:En}{n:Nat}(h:nq m env=.ok [.int n])(hj:(n:Int)<2^62):mG m env=.ok (kQ 0 n,env):=by unfold mG;rw[h];show(if-(2^62)<=(n:Int)/\(n:Int)<2^62 then _ else _)=_;rw[if_pos ⟨by omega,hj⟩,Int.toNat_natCast]
theorem Z3{m:MA}{tg:MG}{mb:MS}{env:En}{n:Nat}(h:nq m env=.ok [.int n])(hj:(n:Int)<2^62):wW (mG m) tg mb env=jy tg mb ((List.range' 0 n).map λ(i:Nat)=>T.int (i:Int)) env:=by unfold wW;rw[K4 h hj,<-XU]
theorem jC{tg:MG}{mb:MS}{t:T}{ts:List T}{env e1 e2:En}(h1:tg t env=some e1)(h2:mb e1=.nx e2):jy tg mb (t::ts) env=jy tg mb ts e2:=by rw[jy,h1];dsimp only;rw[h2]
theorem Wy(ts:List T)(i:Nat):zA (.lst ts) ↑z=ts[i]?.map λt=>↑V:=by show Option.map (λt=>↑V) (cH ts (i:Int))=_;rw[XS]
theorem jt(ts:List T)(i:Nat):zA (.tup ts) ↑z=ts[i]?.map λt=>↑V:=by show Option.map (λt=>↑V) (cH ts (i:Int))=_;rw[XS]
def sT(ys:List Str):List T:=ys.map T.str
theorem XV(ys:List Str)(i:Nat):zA (.lst (sT ys)) ↑z=ys[i]?.map λy=>(false,T.str y):=by rw[Wy];unfold sT;rw[List.getElem?_map];cases ys[i]?<;>rfl
theorem ei{me:ME}{caps:En}{g:Nat->T}:∀(n k:Nat),(∀i,k<=i->i<k+n->∃b,me (some (false,.int (i:Int))::caps)=.ok (b,g i))->vn zX me caps ((List.range' k n).map λ(i:Nat)=>T.int (i:Int))=.ok ((List.range' k n).map g)|0,k,h=>rfl|n+1,k,h=>by obtain⟨b,hb⟩:=h k ↑h ↑c;have ih:=ei n (k+1) (λi h1 h2=>h i ↑c ↑c);rw[List.range'_succ,List.map_cons,List.map_cons,vn];show(match me (some (false,.int (k:Int))::caps)with|.ok r=>_|_=>_)=_;rw[hb];dsimp only;rw[ih]
theorem lA{m:MA}{env:En}{n:Nat}{b:Bool}(h:m env=.ok [(b,.int n)])(hj:(n:Int)<2^62):qr m env=.ok (kQ 0 n):=by unfold qr;rw[h,bind_ok];show(if-(2^62)<=(n:Int)/\(n:Int)<2^62 then _ else _)=_;rw[if_pos ⟨by omega,hj⟩,Int.toNat_natCast]
theorem dW(n:Nat):(kQ 0 n).length=n:=by simp[kQ]
theorem K5{m:MA}{me:ME}{env:En}{slots:List Nat}{n:Nat}{b:Bool}{g:Nat->T}(h:m env=.ok [(b,.int n)])(hj:n<900)(hg:∀i,i<n->∃b,me (some (false,.int (i:Int))::kx env slots)=.ok (b,g i)):jh (qr m) zX me slots env=.ok (true,.lst ((List.range' 0 n).map g)):=by unfold jh;rw[lA h ↑c,bind_ok,dW,if_pos (by have:=big;omega),XU,ei n 0 (λi _ h2=>hg i ↑c)]
theorem Pk(ys:List Str):noLs (sT ys)=true/\noDs (sT ys)=true/\noOs (sT ys)=true:=by unfold sT;induction ys with|nil=>exact⟨rfl,rfl,rfl⟩|cons y ys ih=>exact ih
theorem lB(ts:List T)(k:Nat):qo ts (some (k:Int)) none=ts.drop k:=by
 unfold qo;rw[HT.sIx_none,HT.sIx_nat];by_cases h:k<=ts.length;·rw[Nat.min_eq_left h,List.take_of_length_le ↑D]
 ·rw[Nat.min_eq_right ↑c,List.drop_eq_nil_of_le ↑h,List.drop_eq_nil_of_le ↑c];simp
theorem dX(ts:List T)(k:Nat):qo ts none (some (k:Int))=ts.take k:=by
 unfold qo;rw[HT.sIx_none,HT.sIx_nat];by_cases h:k<=ts.length;·rw[Nat.min_eq_left h];simp
 ·rw[Nat.min_eq_right ↑c];simp;rw[List.take_of_length_le ↑c]
theorem vw{i:Nat}{m:ME}{env:En}{r:RV}(hE:m env=.ok r)(hH:m (hide env)=.bad\/m (hide env)=.ok r)(hcl:L3.clean env r=true):zH i m env=.nx (env.set i (some r)):=by
 unfold zH xj;rcases hH with h|h;·rw[h,hE];dsimp only;unfold L3.settle;rw[if_pos hcl]
 ·rw[h]
theorem dY{ts us:List T}(h:ts.length+us.length<=sizeLine):j5 (.tup ts) (.tup us)=some (false,.tup (ts++us)):=by show(if ts.length+us.length<=sizeLine then some (false,T.tup (ts++us))else none)=_;rw[if_pos h]
theorem K7(y:Nat)(d:Nat)(h0:0<d):jO (.int (y:Int)) (.int (d:Int))=some (false,.int ((y%d:Nat):Int)):=by
 have h0':(0:Int)<(d:Int):=by omega
 have:((y%d:Nat):Int)=(y:Int)%(d:Int):=by simp
 rw[this];show(if 0<(d:Int)then some (false,T.int ((y:Int)%(d:Int)))else none)=_;rw[if_pos h0']
end Law
namespace Law
open PySem L2 L3 PyProof.Rows
theorem aw:∀(ys acc:List Str),(acc++ys).Nodup->ys.foldl step_dedup acc=acc++ys
 |[],acc,_=>by simp|y::ys,acc,h=>by
  have hn:¬(acc.any (·==y)=true):=by
   intro z;obtain⟨a,ha,e⟩:=List.any_eq_true.mp z;have e:a=y:=by simpa using e
   subst e;rw[List.nodup_append]at h;exact h.2.2 a ha a List.mem_cons_self rfl
  rw[List.foldl_cons];have:step_dedup acc y=acc++[y]:=by unfold step_dedup;rw[if_neg hn]
  rw[this,aw ys (acc++[y]) (by simpa using h)];simp
theorem uZ{ys:List Str}(h:ys.Nodup):vO ys=ys:=by have:=aw ys [] (by simpa using h);simpa[vO]using this
theorem gH:∀ys:List Str,wm (sT ys)=some ys|[]=>rfl|y::ys=>by show(wm (sT ys)).map _=_;rw[gH ys];rfl
theorem uu(ys:List Str):(sT ys).length=ys.length:=by simp[sT]
theorem ko{me:ME}{caps:En}:∀(ts:List T),(∀t∈ts,∃b,me (some ↑V::caps)=.ok (b,.bl true))->vn zX me caps ts=.ok (List.replicate ts.length (.bl true))|[],_=>rfl|t::ts,h=>by obtain⟨b,hb⟩:=h t List.mem_cons_self;rw[vn];simp only[zX];rw[hb];dsimp only;rw[ko ts λu hu=>h u (List.mem_cons_of_mem _ hu)];rfl
theorem ej:∀n:Nat,allB (List.replicate n (.bl true))=some (List.replicate n true)|0=>rfl|n+1=>by rw[List.replicate_succ];show(L3.allB (List.replicate n (.bl true))).map _=_;rw[ej n];rfl
theorem pU(n:Nat):g0 [.lst (List.replicate n (.bl true))]=some ↑l:=by show(L3.allB _).map _=_;rw[ej];simp
def ax(t:T)(ts:List T):Prop:=t=.lst ts\/t=.tup ts
theorem el{t:T}{ts:List T}(h:ax t ts):qp t=some ts:=by rcases h with rfl|rfl<;>rfl
theorem lC(f:MF)(env:En)(b:Bool)(t:T)(ys:List Str)(hr:ax t (sT ys))(h0:env[0]?=some (some (b,t)))(hf:∀y∈ys,f [(false,.str y)]=.ok ↑l)(hl:ys.length<900)(hn:ys.Nodup):xo (zp g0 (z9 (jh (xk ↑E) zX (zj f (z9 ↑E ze)) []) ze)) (m2 jn (v6 ↑E) (zp jH (z9 ↑E ze))) env=.ok ↑l:=by
 have hc:jh (xk ↑E) zX (zj f (z9 ↑E ze)) [] env=.ok (true,.lst (List.replicate (sT ys).length (.bl true))):=by
  unfold jh xk;have hit:(mV 0 env).bind (λr=>aL (qp r.2))=.ok (sT ys):=by simp[mV,h0,el hr]
  rw[hit,bind_ok,if_pos (by rw[uu];have:=big;omega),ko (sT ys) λu hu=>by obtain⟨y,hy,rfl⟩:=List.mem_map.mp hu;exact⟨false,by simp[zj,z9,ze,mV,hf y hy]⟩]
 have hs:mO t=some ys.length:=by
  rcases hr with rfl|rfl;·show(wm (sT ys)).bind _=_;rw[gH];show(if ys.length+1<scanBound then some (vO ys).length else none)=_;rw[if_pos (by unfold scanBound;omega),uZ hn]
  ·show(wm (sT ys)).bind _=_;rw[gH];show(if ys.length+1<scanBound then some (vO ys).length else none)=_;rw[if_pos (by unfold scanBound;omega),uZ hn]
 have hle:jH [t]=some (false,.int ys.length):=by rcases hr with rfl|rfl<;>(show some (false,T.int ((sT ys).length:Int))=_;rw[uu])
 have ha:=pU (sT ys).length;simp[xo,zp,z9,ze,hc,ha,m2,v6,mV,h0,hs,hle,ut]
theorem lD{m:ME}{env:En}{r:RV}(hE:m env=.ok r)(hH:hide env=env):zJ m env=.rt r:=by unfold zJ xj;rw[hH,hE]
theorem pV(b:Bool)(t:T)(ys:List Str)(hr:ax t (sT ys))(hf:∀y∈ys,v5 [(false,.str y)]=.ok ↑l)(hl:ys.length<900)(hn:ys.Nodup):jP [(b,t)]=.ok ↑l:=by
 have hb:gk [some (b,t)]=.rt ↑l:=by unfold gk;generalize v5=f at hf;have hE:=lC f [some (b,t)] b t ys hr rfl hf hl hn;cases b with|false=>exact lD hE rfl|true=>exact vb hE (by simp[hide,xU,xo,zp,z9,jh,xk,mV])
 exact jr rfl hb
end Law
namespace Law
open PySem L2 L3
def Jv(P:List (Str×Str×List T)):List T:=P.map λp=>.tup (.str p.1::.str p.2.1::p.2.2)
theorem Hm(y kd:Str)(r:List T):zA (.tup (.str y::.str kd::r)) (.int 0)=some (false,.str y):=by have:=jt (.str y::.str kd::r) 0;exact this
theorem Hn(y kd:Str)(r:List T):zA (.tup (.str y::.str kd::r)) (.int 1)=some (false,.str kd):=by have:=jt (.str y::.str kd::r) 1;exact this
theorem Z4{me:ME}{caps:En}{g:T->T}:∀(ts:List T),(∀t∈ts,∃b,me (some ↑V::caps)=.ok (b,g t))->vn zX me caps ts=.ok (ts.map g)|[],_=>rfl|t::ts,h=>by obtain⟨b,hb⟩:=h t List.mem_cons_self;rw[vn];simp only[zX];rw[hb];dsimp only;rw[Z4 ts λu hu=>h u (List.mem_cons_of_mem _ hu)];rfl
def Pl:T->T|.tup (y::_)=>y|t=>t
theorem K8(P:List (Str×Str×List T)):(Jv P).map Pl=sT (P.map (·.1)):=by unfold Jv sT;rw[List.map_map,List.map_map];rfl
theorem ay(c:CA)(m:Addr)(ks:List Str)(x:Str)(hx:x∈ks)(h:m_is_kind [(false,.str x)]=.ok ↑l):jF c [(false,.mem m (c.memo ks m)),(false,.str x)]=.ok ↑l:=by unfold jF iV;dsimp only;rw[if_pos ⟨ks,rfl,hx⟩,h]
theorem lF(f g:MF)(env:En)(b:Bool)(M t:T)(P:List (Str×Str×List T))(hr:ax t (Jv P))(hM:env[0]?=some (some (false,M)))(h0:env[1]?=some (some (b,t)))(hf:f [(true,.lst (sT (P.map (·.1))))]=.ok ↑l)(hg:∀p∈P,g [(false,M),(false,.str p.2.1)]=.ok ↑l)(hl:P.length<900):xo (zj f (z9 (jh (xk ↑U) zX (m2 zA ↑E ↑o) []) ze)) (zp g0 (z9 (jh (xk ↑U) zX (zj g (z9 ↑U (z9 (m2 zA ↑E ↑m) ze))) [0]) ze)) env=.ok ↑l:=by
 have hlen:(Jv P).length=P.length:=by simp[Jv]
 have hit:xk ↑U env=.ok (Jv P):=by unfold xk;simp[mV,h0,el hr]
 have c1:jh (xk ↑U) zX (m2 zA ↑E ↑o) [] env=.ok (true,.lst (sT (P.map (·.1)))):=by unfold jh;rw[hit,bind_ok,if_pos (by rw[hlen];have:=big;omega),Z4 (g:=Pl) (Jv P) λu hu=>by obtain⟨p,hp,rfl⟩:=List.mem_map.mp hu;exact⟨false,by simp[m2,mV,mC,Hm,Pl]⟩,K8]
 have c2:jh (xk ↑U) zX (zj g (z9 ↑U (z9 (m2 zA ↑E ↑m) ze))) [0] env=.ok (true,.lst (List.replicate (Jv P).length (.bl true))):=by unfold jh;rw[hit,bind_ok,if_pos (by rw[hlen];have:=big;omega),ko (Jv P) λu hu=>by obtain⟨p,hp,rfl⟩:=List.mem_map.mp hu;exact⟨false,by simp[zj,z9,ze,m2,mV,mC,kx,hM,Hn,hg p hp]⟩]
 have ha:=pU (Jv P).length;simp[xo,zj,zp,z9,ze,c1,c2,hf,ha]
theorem dZ(c:CA)(M t:T)(P:List (Str×Str×List T))(hr:ax t (Jv P))(hf:jP [(true,.lst (sT (P.map (·.1))))]=.ok ↑l)(hg:∀p∈P,jF c [(false,M),(false,.str p.2.1)]=.ok ↑l)(hl:P.length<900):vt c [(false,M),↑V]=.ok ↑l:=by
 have hb:gl c [some (false,M),some ↑V]=.rt ↑l:=by unfold gl;generalize jP=f at hf;generalize jF c=g at hg;exact lD (lF f g [some (false,M),some ↑V] false M t P hr rfl rfl hf hg hl) rfl
 exact jr rfl hb
theorem XW(fN fK fP fA:MF)(M:T)(z kd:Str)(pl:Int)(ps fs:List T)(hN:fN [(false,.str z)]=.ok ↑l)(hK:fK [(false,M),(false,.str kd)]=.ok ↑l)(h0:0<=pl)(h1:pl<=ps.length)(hP:fP [(false,M),(false,.tup ps)]=.ok ↑l)(hA:fA [(false,.tup fs)]=.ok ↑l):(zq (xH (wV (jl (vQ (zj fN (z9 ↑U ze)))) (jl (vQ (zj fK (z9 ↑E (z9 (mV 4) ze)))))) ↑af zF) (zq (xH (wV (jX (m2 kr (mV 2) ↑o)) (jX (m2 my (mV 2) (zp jH (z9 (mV 3) ze))))) ↑af zF) (zJ (xo (zj fP (z9 ↑E (z9 (mV 3) ze))) (zj fA (z9 (mV 5) ze)))))) [some (false,M),some (false,.str z),some (false,.int pl),some (false,.tup ps),some (false,.str kd),some (false,.tup fs)]=.rt ↑l:=by
 have a0:¬pl<0:=by omega
 have a1:¬((ps.length:Int)<pl):=by omega
 rw[zh (e':=[some (false,M),some (false,.str z),some (false,.int pl),some (false,.tup ps),some (false,.str kd),some (false,.tup fs)]) (zB (jm (ic (oI (vF (vC rfl rfl) hN)) (oI (vF (vC rfl (vC rfl rfl)) hK)))))];rw[zh (e':=[some (false,M),some (false,.str z),some (false,.int pl),some (false,.tup ps),some (false,.str kd),some (false,.tup fs)]) (zB (jm (ic (vT (v2 rfl rfl (K2 (decide_eq_false a0)))) (vT (v2 rfl (vK (vC rfl rfl) rfl) (XR (decide_eq_false a1)))))))];exact jp (av (vF (vC rfl (vC rfl rfl)) hP) (vF (vC rfl rfl) hA))
theorem NO:¬("function":Str)="record":=by decide+kernel
theorem NP:¬("function":Str)="choice":=by decide+kernel
theorem Jw(fR fC fF:MF)(M:T)(w wr wc:Str)(a b p k f:T)(ts:List T)(hw:¬w=wr)(hc:¬w=wc)(h:fF [(false,M),(false,a),(false,b),(false,p),(false,k),(false,f)]=.ok ↑l):(zq (xH (jX (m2 jn (m2 zA ↑U ↑o) (mC (.str wr)))) (zJ (zj fR (z9 ↑E (z9 (m2 zA ↑U ↑m) (z9 (m2 zA ↑U ↑I) (z9 (m2 zA ↑U (mC (.int 3))) ze)))))) zF) (zq (xH (jX (m2 jn (m2 zA ↑U ↑o) (mC (.str wc)))) (zJ (zj fC (z9 ↑E (z9 (m2 zA ↑U ↑m) (z9 (m2 zA ↑U ↑I) (z9 (m2 zA ↑U (mC (.int 4))) ze)))))) zF) (zJ (zj fF (z9 ↑E (z9 (m2 zA ↑U ↑m) (z9 (m2 zA ↑U ↑I) (z9 (m2 zA ↑U (mC (.int 3))) (z9 (m2 zA ↑U (mC (.int 4))) (z9 (m2 zA ↑U (mC (.int 5))) ze)))))))))) [some (false,M),some (false,.tup (.str w::a::b::p::k::f::ts))]=.rt ↑l:=by have i0:zA (.tup (.str w::a::b::p::k::f::ts)) (.int 0)=some (false,.str w):=jt _ 0;have i1:zA (.tup (.str w::a::b::p::k::f::ts)) (.int 1)=some (false,a):=jt _ 1;have i2:zA (.tup (.str w::a::b::p::k::f::ts)) (.int 2)=some (false,b):=jt _ 2;have i3:zA (.tup (.str w::a::b::p::k::f::ts)) (.int 3)=some (false,p):=jt _ 3;have i4:zA (.tup (.str w::a::b::p::k::f::ts)) (.int 4)=some (false,k):=jt _ 4;have i5:zA (.tup (.str w::a::b::p::k::f::ts)) (.int 5)=some (false,f):=jt _ 5;rw[zh (e':=[some (false,M),some (false,.tup (.str w::a::b::p::k::f::ts))]) (zB (jm (wt rfl i0 (decide_eq_false hw))))];rw[zh (e':=[some (false,M),some (false,.tup (.str w::a::b::p::k::f::ts))]) (zB (jm (wt rfl i0 (decide_eq_false hc))))];exact jp (vF (vC rfl (vC (v2 rfl rfl i1) (vC (v2 rfl rfl i2) (vC (v2 rfl rfl i3) (vC (v2 rfl rfl i4) (vC (v2 rfl rfl i5) rfl)))))) h)
theorem Z5{x:Str}{us:List T}:∀{ts:List T},T.tup us∈ts->x∈strsL us->x∈strsL ts
 |t::ts,h,hx=>by
  unfold strsL;rcases List.mem_cons.mp h with rfl|h;·exact List.mem_append_left _ (by unfold kC;exact hx)
  ·exact List.mem_append_right _ (Z5 h hx)
theorem n0{b:Bool}{ts us:List T}(h:sortS ts=some us):xz [(b,.tup ts)]=.ok (false,.tup us):=by
 have hs:gE [.tup ts]=some (true,.lst us):=by show(sortS ts).map _=_;rw[h];rfl
 have hb:fO [some (b,.tup ts)]=.rt (false,.tup us):=by
  unfold fO;have hE:zp vE (z9 (zp gE (z9 ↑E ze)) ze) [some (b,.tup ts)]=.ok (false,.tup us):=by simp[zp,z9,ze,mV,hs,vE]
  cases b with|false=>exact lD hE rfl|true=>exact vb hE (by simp[hide,xU,zp,z9,mV])
 exact jr rfl hb
theorem LU(a b c:T)(r:List T):Wq (.tup (a::b::c::r)) none (some 3)=some (false,.tup [a,b,c]):=by show some (false,T.tup (qo (a::b::c::r) none (some ((3:Nat):Int))))=_;rw[dX];rfl
def c4(f:MF)(wr wc:Str):MS:=(zq (xH (jX (m2 jn (m2 zA ↑E ↑o) (mC (.str wr)))) (zJ (m2 j5 (uC ↑E jE (jq (mC (.int 3)))) (jJ (z9 (zj f (z9 (m2 zA ↑E (mC (.int 3))) ze)) ze)))) zF) (zq (xH (jX (m2 jn (m2 zA ↑E ↑o) (mC (.str wc)))) (zJ (m2 j5 (uC ↑E jE (jq (mC (.int 4)))) (jJ (z9 (zj f (z9 (m2 zA ↑E (mC (.int 4))) ze)) ze)))) zF) (zq (zH 1 (m2 zA ↑E ↑I)) (zq (zH 2 (m2 j5 (uC (m2 zA ↑E (mC (.int 3))) jE (jq ↑U)) (zj f (z9 (uC (m2 zA ↑E (mC (.int 3))) (jq ↑U) jE) ze)))) (zJ (m2 j5 (uC ↑E jE (jq (mC (.int 3)))) (jJ (z9 (mV 2) (z9 (m2 zA ↑E (mC (.int 4))) (z9 (zj f (z9 (m2 zA ↑E (mC (.int 5))) ze)) ze))))))))))
theorem c6:um=c4 xz "record" "choice":=rfl
theorem K9(f:MF)(w wr wc:Str)(a k:T)(pl:Nat)(ps us fs vs:List T)(hw:¬w=wr)(hc:¬w=wc)(h1:f [(false,.tup (ps.drop pl))]=.ok (false,.tup us))(h2:f [(false,.tup fs)]=.ok (false,.tup vs))(hl:ps.length+us.length<1000):c4 f wr wc [some (false,.tup [.str w,a,.int (pl:Int),.tup ps,k,.tup fs]),none,none]=.rt (false,.tup [.str w,a,.int (pl:Int),.tup (ps.take pl++us),k,.tup vs]):=by
 have i0:zA (.tup [.str w,a,.int (pl:Int),.tup ps,k,.tup fs]) (.int 0)=some (false,.str w):=jt _ 0;have i2:zA (.tup [.str w,a,.int (pl:Int),.tup ps,k,.tup fs]) (.int 2)=some (false,.int pl):=jt _ 2;have i3:zA (.tup [.str w,a,.int (pl:Int),.tup ps,k,.tup fs]) (.int 3)=some (false,.tup ps):=jt _ 3;have i4:zA (.tup [.str w,a,.int (pl:Int),.tup ps,k,.tup fs]) (.int 4)=some (false,k):=jt _ 4;have i5:zA (.tup [.str w,a,.int (pl:Int),.tup ps,k,.tup fs]) (.int 5)=some (false,.tup fs):=jt _ 5;have c3:=LU (.str w) a (.int (pl:Int)) [.tup ps,k,.tup fs];have ct:Wq (.tup ps) none (some (pl:Int))=some (false,.tup (ps.take pl)):=by show some (false,T.tup (qo ps none (some (pl:Int))))=_;rw[dX]
 have cf:Wq (.tup ps) (some (pl:Int)) none=some (false,.tup (ps.drop pl)):=by show some (false,T.tup (qo ps (some (pl:Int)) none))=_;rw[lB]
 have a1:j5 (.tup (ps.take pl)) (.tup us)=some (false,.tup (ps.take pl++us)):=dY (by have:=big;have:=List.length_take_le pl ps;have:=List.length_take_le' pl ps;omega);generalize hq:ps.take pl++us=qs at a1;have a2:j5 (.tup [.str w,a,.int (pl:Int)]) (.tup [.tup qs,k,.tup vs])=some (false,.tup [.str w,a,.int (pl:Int),.tup qs,k,.tup vs]):=dY (ts:=[.str w,a,.int (pl:Int)]) (us:=[.tup qs,k,.tup vs]) (by have:=big;simp;omega);have h3:3<=sizeLine:=by decide
 unfold c4;rw[zh (e':=[some (false,.tup [.str w,a,.int (pl:Int),.tup ps,k,.tup fs]),none,none]) (zB (jm (wt rfl i0 (decide_eq_false hw))))];rw[zh (e':=[some (false,.tup [.str w,a,.int (pl:Int),.tup ps,k,.tup fs]),none,none]) (zB (jm (wt rfl i0 (decide_eq_false hc))))];rw[zh (e':=[some (false,.tup [.str w,a,.int (pl:Int),.tup ps,k,.tup fs]),some (false,.int pl),none]) (zx (v2 rfl rfl i2))];rw[zh (e':=[some (false,.tup [.str w,a,.int (pl:Int),.tup ps,k,.tup fs]),some (false,.int pl),some (false,.tup qs)]) (zx (v2 (vS (v2 rfl rfl i3) rfl (vN rfl) ct) (vF (vC (vS (v2 rfl rfl i3) (vN rfl) rfl cf) rfl) h1) a1))];exact jp (v2 (vS rfl rfl rfl c3) (vP (vC rfl (vC (v2 rfl rfl i4) (vC (vF (vC (v2 rfl rfl i5) rfl) h2) rfl))) rfl rfl) a2)
theorem az{z k:Str}{pl:Nat}{ps fs us vs:List T}(h1:sortS (ps.drop pl)=some us)(h2:sortS fs=some vs)(hl:ps.length+us.length<1000):xY [(false,.tup [.str "function",.str z,.int (pl:Int),.tup ps,.str k,.tup fs])]=.ok (false,.tup [.str "function",.str z,.int (pl:Int),.tup (ps.take pl++us),.str k,.tup vs]):=by refine jr (n:=3) (k:=1) (mb:=um) rfl ?_;rw[c6];exact K9 xz "function" "record" "choice" _ _ pl ps us fs vs NO NP (n0 h1) (n0 h2) hl
theorem LV:("record":Str)≠"function":=by decide+kernel
theorem LW:("choice":Str)≠"function":=by decide+kernel
def core(L:List Nat):List Nat:=(L.dropWhile λc=>decide (c<97)).takeWhile λc=>decide (97<=c)
theorem em:∀(ks:List Key)(us:List T)(x:Key),x∉ks->qP ks us x=none|[],us,x,_=>by cases us<;>rfl|k::ks,[],x,_=>rfl|k::ks,u::us,x,h=>by have hk:¬k=x:=λe=>h (by rw[e];exact List.mem_cons_self);rw[qP,if_neg hk,em ks us x λz=>h (List.mem_cons_of_mem _ z)]
theorem XX{ks:List Key}{us:List T}{k:Key}{t:T}(h:k∉ks):pC ks us k t=.dct (ks++[k]) (us++[t]):=by unfold pC;rw[if_neg];intro z;rw[List.any_eq_true]at z;obtain⟨y,hy,e⟩:=z;exact h ((of_decide_eq_true e)▸hy)
def MB(wf:Str):MT:=jX (m2 jn (m2 zA (mV 4) ↑o) (mC (.str wf)))
def MC(fP:MF):MT:=wV (jX (m2 qQ (m2 zA (mV 4) ↑m) (mV 5))) (jl (vQ (zj fP (z9 (mV 2) (z9 (mV 4) ze)))))
def MD:ME:=m2 zA (mV 4) ↑m
def MH(fS:MF):ME:=zj fS (z9 (mV 4) ze)
theorem aA(M:T)(fP fS:MF)(wf w z:Str)(r ts:List T)(i:Nat)(d1 d2 v:T)(ks:List Key)(us:List T)(b:Bool)(hb:decide (w=wf)=b)(hd:(if b=true then d2 else d1)=.dct ks us)(hn:Sum.inr z∉ks)(hl:ks.length<sizeLine)(hP:fP [(false,M),(false,.tup (.str w::.str z::r))]=.ok ↑l)(hS:fS [(false,.tup (.str w::.str z::r))]=.ok (false,v)):k8 M (MB wf) (MC fP) MD (MH fS) ts i (.tup (.str w::.str z::r)) (d1,d2)=.ok (if b=true then(d1,.dct (ks++[.inr z]) (us++[v]))else(.dct (ks++[.inr z]) (us++[v]),d2)):=by
 have i0:zA (.tup (.str w::.str z::r)) (.int 0)=some (false,.str w):=jt _ 0;have i1:zA (.tup (.str w::.str z::r)) (.int 1)=some (false,.str z):=jt _ 1;have hi:qQ (.str z) (.dct ks us)=some ↑T:=by show some (false,T.bl (qP ks us (Sum.inr z)).isSome)=_;rw[em ks us _ hn];rfl
 have e1:∀d,MB wf (jo M ts i (.tup (.str w::.str z::r)) d)=.ok b:=λd=>by exact wt rfl i0 hb
 have e2:MC fP (jo M ts i (.tup (.str w::.str z::r)) (some (false,.dct ks us)))=.ok false:=by exact ic (vT (v2 (v2 rfl rfl i1) rfl hi)) (oI (vF (vC rfl (vC rfl rfl)) hP))
 have e3:MD (jo M ts i (.tup (.str w::.str z::r)) none)=.ok (false,.str z):=by exact v2 rfl rfl i1
 have e4:MH fS (jo M ts i (.tup (.str w::.str z::r)) none)=.ok (false,v):=by exact vF (vC rfl rfl) hS
 unfold k8;rw[e1,bind_ok];dsimp only;rw[hd,e2];dsimp only;rw[e4,bind_ok,e3,bind_ok];show(if ks.length<sizeLine then _ else _)=_;rw[if_pos hl,XX hn]
theorem kI{α β:Type}{f:α->β}:∀{l:List β}{xs:List α},l.Perm (xs.map f)->∃ys:List α,ys.Perm xs/\ys.map f=l
 |[],xs,h=>by have:=h.nil_eq;cases xs with|nil=>exact⟨[],.refl _,rfl⟩|cons a r=>cases this
 |b::l,xs,h=>by
  obtain⟨x,hx,rfl⟩:=List.mem_map.mp (h.mem_iff.mp List.mem_cons_self);obtain⟨s,t,rfl⟩:=List.append_of_mem hx;have h2:l.Perm ((s++t).map f):=by refine List.Perm.cons_inv (h.trans ?_);rw[List.map_append,List.map_cons,List.map_append];exact List.perm_middle
  obtain⟨ys,p,rfl⟩:=kI h2;exact⟨x::ys,(p.cons x).trans List.perm_middle.symm,rfl⟩
inductive D where|rc(z:Str)(m:Bool)(ps:List T)|ch(z:Str)(m s:Bool)(ps:List T)|fn(z:Str)(qs ps:List T)(kd:Str)(fs:List T)
namespace D
def t:D->T|rc z m ps=>.tup [.str "record",.str z,.bl m,.tup ps]|ch z m s ps=>.tup [.str "choice",.str z,.bl m,.bl s,.tup ps]|fn z qs ps kd fs=>.tup [.str "function",.str z,.int (qs.length:Nat),.tup (qs++ps),.str kd,.tup fs]
def w:D->Str|rc ..=>"record"|ch ..=>"choice"|fn ..=>"function"
def z:D->Str|rc z ..=>z|ch z ..=>z|fn z ..=>z
def isF:D->Bool|fn ..=>true|_=>false
def on(f:List T->List T):D->D|rc z m ps=>rc z m (f ps)|ch z m s ps=>ch z m s (f ps)|fn z qs ps kd fs=>fn z qs (f ps) kd (f fs)
def st:D->D:=on wg
end D
def Nm(y:Str):Prop:=v5 [(false,.str y)]=.ok ↑l
def Kd(y:Str):Prop:=m_is_kind [(false,.str y)]=.ok ↑l
def c7:T->Str|.tup (.str y::_)=>y|.str y=>y|_=>""
def aB(R:List T->Prop)(t:T):Prop:=∃y kd r,t=.tup (.str y::.str kd::r)/\Nm y/\Kd kd/\R r
def oJ(Q:T->Prop)(ts:List T):Prop:=ts.length<=5/\(ts.map c7).Nodup/\∀t∈ts,Q t
def Um(t:T):Prop:=∃y,t=.str y/\Nm y
def RP(r:List T):Prop:=∃b:Bool,r=[.bl b]
def D.ok:D->Prop|.rc ..=>False|.ch ..=>False|.fn z qs ps kd fs=>Nm z/\Kd kd/\oJ (aB RP) (qs++ps)/\oJ Um fs
theorem Ka{t u:T}(h:c7 t≠c7 u)(ht:J6 t=true\/YU t=true)(hu:J6 u=true\/YU u=true):xR t≠xR u:=by
 have e:∀{x y:Str},x.cps.toList=y.cps.toList->x=y:=λ{x y}h=>by
  obtain⟨x⟩:=x;obtain⟨y⟩:=y;have:x=y:=by simpa using h
  rw[this]
 have f1:∀{t:T},J6 t=true\/YU t=true->∃r,xR t=(c7 t).cps.toList::r:=λ{t}h=>by
  rcases h with h|h;·cases t<;>first|exact⟨[],rfl⟩|cases h
  ·unfold YU at h;split at h;·exact⟨_,rfl⟩
   ·cases h
 intro z;obtain⟨r,e1⟩:=f1 ht;obtain⟨r',e2⟩:=f1 hu;rw[e1,e2]at z;exact h (e (List.cons.inj z).1)
theorem oJ.keys{Q:T->Prop}{ts:List T}(hq:∀t,Q t->J6 t=true\/YU t=true)(h:oJ Q ts):(ts.map xR).Nodup:=by obtain⟨_,h2,h3⟩:=h;unfold List.Nodup at h2⊢;rw[List.pairwise_map]at h2⊢;refine h2.imp_of_mem λha hb hab=>?_;exact Ka hab (hq _ (h3 _ ha)) (hq _ (h3 _ hb))
theorem oJ.sub{Q:T->Prop}{qs ps:List T}(h:oJ Q (qs++ps)):oJ Q ps:=by obtain⟨h1,h2,h3⟩:=h;rw[List.length_append]at h1;rw[List.map_append]at h2;exact⟨by omega,(List.nodup_append.mp h2).2.1,λt ht=>h3 t (List.mem_append_right _ ht)⟩
def Z6(ds:List D):Prop:=ds.Pairwise λd e=>d.isF=e.isF->d.z≠e.z
end Law
namespace Law
open PySem L2 L3
def Uo:T->Str×Str×List T|.tup (.str y::.str kd::r)=>(y,kd,r)|_=>("","",[])
theorem XY{R:List T->Prop}:∀{ts:List T},(∀t∈ts,aB R t)->Jv (ts.map Uo)=ts|[],_=>rfl|t::ts,h=>by obtain⟨y,kd,r,e,_⟩:=h t List.mem_cons_self;have ih:=XY (ts:=ts) λu hu=>h u (List.mem_cons_of_mem _ hu);subst e;unfold Jv at ih⊢;rw[List.map_cons,List.map_cons,ih];rfl
theorem XZ{R:List T->Prop}:∀{ts:List T},(∀t∈ts,aB R t)->(ts.map Uo).map (·.1)=ts.map c7|[],_=>rfl|t::ts,h=>by obtain⟨y,kd,r,e,_⟩:=h t List.mem_cons_self;have ih:=XZ (ts:=ts) λu hu=>h u (List.mem_cons_of_mem _ hu);subst e;rw[List.map_cons,List.map_cons,List.map_cons,ih];rfl
theorem oM{R:List T->Prop}{ts:List T}(h:∀t∈ts,aB R t){p:Str×Str×List T}(hp:p∈ts.map Uo):Nm p.1/\Kd p.2.1/\R p.2.2/\p.2.1∈strsL ts:=by obtain⟨t,ht,rfl⟩:=List.mem_map.mp hp;obtain⟨y,kd,r,e,h1,h2,h3⟩:=h t ht;subst e;refine⟨h1,h2,h3,Z5 ht ?_⟩;unfold strsL;unfold strsL;exact List.mem_append_right _ (List.mem_append_left _ (by simp[kC,Uo]))
theorem Jx(c:CA)(m:Addr)(mk:List Str){R:List T->Prop}{ts:List T}(h:oJ (aB R) ts)(hx:∀z∈strsL ts,z∈mk):vt c [(false,.mem m (c.memo mk m)),(false,.tup ts)]=.ok ↑l:=by
 obtain⟨h1,h2,h3⟩:=h;have hp:=XY h3;refine dZ c _ _ (ts.map Uo) (.inr (by rw[hp])) ?_ ?_ ↑ad;·refine pV true _ ((ts.map Uo).map (·.1)) (.inl rfl) ?_ (by rw[List.length_map,List.length_map];omega) (by rw[XZ h3];exact h2);intro y hy;obtain⟨p,hp,rfl⟩:=List.mem_map.mp hy;exact(oM h3 hp).1
 ·intro p hp;exact ay c m mk _ (hx _ (oM h3 hp).2.2.2) (oM h3 hp).2.1
theorem Qv:∀{ts:List T},(∀t∈ts,Um t)->sT (ts.map c7)=ts|[],_=>rfl|t::ts,h=>by obtain⟨y,e,_⟩:=h t List.mem_cons_self;have ih:=Qv (ts:=ts) λu hu=>h u (List.mem_cons_of_mem _ hu);subst e;unfold sT at ih⊢;rw[List.map_cons,List.map_cons,ih];rfl
theorem Jy{ts:List T}(h:oJ Um ts):jP [(false,.tup ts)]=.ok ↑l:=by obtain⟨h1,h2,h3⟩:=h;have e:=Qv h3;refine pV false _ (ts.map c7) (.inr (by rw[e])) ?_ ↑ad h2;intro y hy;obtain⟨t,ht,rfl⟩:=List.mem_map.mp hy;obtain⟨y,rfl,hn⟩:=h3 t ht;exact hn
theorem Pn(c:CA)(m:Addr)(mk:List Str)(z kd:Str)(qs ps fs:List T)(hn:Nm z)(hk:Kd kd)(hkd:kd∈mk)(h:oJ (aB RP) (qs++ps))(hx:∀z∈strsL (qs++ps),z∈mk)(g:oJ Um fs):v8 c [(false,.mem m (c.memo mk m)),(false,.str z),(false,.int (qs.length:Nat)),(false,.tup (qs++ps)),(false,.str kd),(false,.tup fs)]=.ok ↑l:=jr (n:=6) (k:=6) (mb:=fg c) rfl (XW v5 (jF c) (vt c) jP _ z kd (qs.length:Nat) _ _ hn (ay c m mk kd hkd hk) ↑c (by rw[List.length_append];omega) (Jx c m mk h hx) (Jy g))
theorem oO(c:CA)(m:Addr)(mk:List Str):∀{d:D},d.ok->(∀z∈kC d.t,z∈mk)->xS c [(false,.mem m (c.memo mk m)),(false,d.t)]=.ok ↑l|.rc ..,h,_=>h.elim|.ch ..,h,_=>h.elim|.fn z qs ps kd fs,h,hx=>by have hz:kd∈mk:=hx kd (by simp[D.t,kC,strsL]);have hp:∀y∈strsL (qs++ps),y∈mk:=λy hy=>hx y (by simp[D.t,kC,strsL,hy]);exact jr (n:=2) (k:=2) (mb:=ll c) rfl (Jw (gn c) (gm c) (v8 c) _ "function" "record" "choice" _ _ _ _ _ [] NO NP (Pn c m mk z kd qs ps fs h.1 h.2.1 hz h.2.2.1 hp h.2.2.2))
theorem oJ.sortS{Q:T->Prop}{ts:List T}(h:oJ Q ts)(hq:(∀t,Q t->J6 t=true)\/∀t,Q t->YU t=true):sortS ts=some (wg ts):=by have hk:=h.keys λt ht=>hq.elim (λf=>.inl (f t ht)) λf=>.inr (f t ht);unfold L3.sortS;rw[if_pos ⟨by have:=h.1;omega,hq.elim (λf=>.inl (List.all_eq_true.mpr λt ht=>f t (h.2.2 t ht))) (λf=>.inr (List.all_eq_true.mpr λt ht=>f t (h.2.2 t ht))),hk⟩]
theorem Po{R:List T->Prop}:∀t,aB R t->YU t=true:=λt h=>by obtain⟨y,kd,r,rfl,_⟩:=h;rfl
theorem NQ:∀t,Um t->J6 t=true:=λt h=>by obtain⟨y,rfl,_⟩:=h;rfl
theorem Jz(l:List T):(wg l).length=l.length:=(xV l).length_eq
theorem JA:∀{d:D},d.ok->xY [(false,d.t)]=.ok (false,d.st.t)|.rc ..,h=>h.elim|.ch ..,h=>h.elim|.fn z qs ps kd fs,h=>by have h1:=h.2.2.1.sub.sortS (.inr Po);have h2:=h.2.2.2.sortS (.inl NQ);have hl:=h.2.2.1.1;rw[List.length_append]at hl;have:=az (z:=z) (k:=kd) (pl:=qs.length) (ps:=qs++ps) (fs:=fs) (us:=wg ps) (vs:=wg fs) (by rw[List.drop_left];exact h1) h2 (by rw[List.length_append,Jz];omega);rw[List.take_left]at this;exact this
theorem Pp(d:D):∃r,d.t=.tup (.str d.w::.str d.z::r):=by cases d<;>exact⟨_,rfl⟩
theorem NR(d:D):decide (d.w="function")=d.isF:=by
 cases d;·exact decide_eq_false LV
 ·exact decide_eq_false LW
 ·exact decide_eq_true rfl
def Kb(ds:List D)(b:Bool):List Key:=(ds.filter λd=>d.isF==b).map λd=>Sum.inr d.z
def Kc(ds:List D)(b:Bool):List T:=(ds.filter λd=>d.isF==b).map λd=>d.st.t
theorem uv(c:CA)(mk:List Str)(ts:List T)(M:T)(hM:∃m,M=.mem m (c.memo mk m)):∀(ds:List D)(i:Nat)(k1 k2:List Key)(u1 u2:List T),(∀d∈ds,d.ok/\∀z∈kC d.t,z∈mk)->Z6 ds->(∀d∈ds,d.isF=false->Sum.inr d.z∉k1)->(∀d∈ds,d.isF=true->Sum.inr d.z∉k2)->k1.length+ds.length<1000->k2.length+ds.length<1000->xi M (MB "function") (MC (xS c)) MD (MH xY) ts i (ds.map D.t) (.dct k1 u1,.dct k2 u2)=.ok (.dct (k1++Kb ds false) (u1++Kc ds false),.dct (k2++Kb ds true) (u2++Kc ds true))
 |[],i,k1,k2,u1,u2,_,_,_,_,_,_=>by simp[Kb,Kc,xi]|d::ds,i,k1,k2,u1,u2,ho,ha,h1,h2,l1,l2=>by
  obtain⟨m,rfl⟩:=hM;obtain⟨ok,hz⟩:=ho d List.mem_cons_self;obtain⟨a1,a2⟩:=List.pairwise_cons.mp ha;have hP:=oO c m mk ok hz;have hS:=JA ok;obtain⟨r,e⟩:=Pp d;have hw:=NR d;have o':∀e∈ds,e.ok/\∀z∈kC e.t,z∈mk:=λe he=>ho e (List.mem_cons_of_mem _ he);rw[List.length_cons]at l1 l2;rw[List.map_cons,xi];rw[e]at hP hS⊢
  cases hF:d.isF with|false=>
   rw[hF]at hw;have hn:=h1 d List.mem_cons_self hF;rw[aA (.mem m (c.memo mk m)) (xS c) xY "function" d.w d.z r ts i (.dct k1 u1) (.dct k2 u2) d.st.t k1 u1 false hw rfl hn (by have:=big;omega) hP hS,bind_ok,if_neg Bool.false_ne_true];rw[uv c mk ts _ ⟨m,rfl⟩ ds (i+1) (k1++[Sum.inr d.z]) k2 (u1++[d.st.t]) u2 o' a2 (λe he hf z=>?_) (λe he hf=>h2 e (List.mem_cons_of_mem _ he) hf) (by rw[List.length_append];simp;omega) ↑c];·simp[Kb,Kc,hF]
   ·rcases List.mem_append.mp z with z|z;·exact h1 e (List.mem_cons_of_mem _ he) hf z
    ·have:e.z=d.z:=by simpa using z
     exact a1 e he (by rw[hF,hf]) this.symm|true=>
   rw[hF]at hw;have hn:=h2 d List.mem_cons_self hF;rw[aA (.mem m (c.memo mk m)) (xS c) xY "function" d.w d.z r ts i (.dct k1 u1) (.dct k2 u2) d.st.t k2 u2 true hw rfl hn (by have:=big;omega) hP hS,bind_ok,if_pos rfl];rw[uv c mk ts _ ⟨m,rfl⟩ ds (i+1) k1 (k2++[Sum.inr d.z]) u1 (u2++[d.st.t]) o' a2 (λe he hf=>h1 e (List.mem_cons_of_mem _ he) hf) (λe he hf z=>?_) ↑c (by rw[List.length_append];simp;omega)];·simp[Kb,Kc,hF]
   ·rcases List.mem_append.mp z with z|z;·exact h2 e (List.mem_cons_of_mem _ he) hf z
    ·have:e.z=d.z:=by simpa using z
     exact a1 e he (by rw[hF,hf]) this.symm
theorem lG{ts us:List T}(h:ts.length+us.length<=sizeLine):j5 (.lst ts) (.lst us)=some (true,.lst (ts++us)):=by show(if ts.length+us.length<=sizeLine then some (true,T.lst (ts++us))else none)=_;rw[if_pos h]
theorem Pq(c:CA):jj c=xv c.memo c.Face "told_kinds" "told_functions" (MB "function") (MC (xS c)) MD (MH xY):=rfl
theorem W0{memo:List Str->Mo}{C:Addr}{f1 f2:Str}{tw tc:MT}{mk mv:ME}{ts:List T}{d1 d2:T}{env:En}{b:Bool}{i:Nat}(h4:env[i]?=some (some (b,.lst ts)))(hz:(strsL ts).length<sizeLine)(h:∀m,xi (.mem m (memo (strsL ts) m)) tw tc mk mv ts 0 ts (.dct [] [],.dct [] [])=.ok (d1,d2)):g9 C (xv memo C f1 f2 tw tc mk mv) (z9 (mV i) ze) env=.ok (false,.obj C [f1,f2] [d1,d2]):=by
 have ha:z9 (mV i) ze env=.ok [(false,.lst ts)]:=by simp[z9,ze,mV,h4]
 unfold g9;rw[ha,bind_ok];have hT:xv memo C f1 f2 tw tc mk mv [(true,.obj C [] []),(false,.lst ts)]=.ok (.obj C [f1,f2] [d1,d2]):=by unfold xv;dsimp only;rw[if_pos ⟨rfl,hz⟩,h 0];dsimp only;rw[if_pos h]
 rw[hT,bind_ok]
theorem W1{x:Str}{t:T}:∀{ts:List T},t∈ts->x∈kC t->x∈strsL ts
 |u::ts,h,hx=>by
  unfold strsL;rcases List.mem_cons.mp h with rfl|h;·exact List.mem_append_left _ hx
  ·exact List.mem_append_right _ (W1 h hx)
theorem Pr(c:CA){ds:List D}(ok:∀d∈ds,d.ok)(h:Z6 ds)(hl:ds.length<=13)(hz:(strsL (ds.map D.t)).length<sizeLine){env:En}{b:Bool}{i:Nat}(hi:env[i]?=some (some (b,.lst (ds.map D.t)))):g9 c.Face (jj c) (z9 (mV i) ze) env=.ok (false,.obj c.Face ["told_kinds","told_functions"] [.dct (Kb ds false) (Kc ds false),.dct (Kb ds true) (Kc ds true)]):=by rw[Pq];refine W0 hi hz λm=>?_;have:=uv c (strsL (ds.map D.t)) (ds.map D.t) (.mem m (c.memo (strsL (ds.map D.t)) m)) ⟨m,rfl⟩ ds 0 [] [] [] [] (λd hd=>⟨ok d hd,λz hz=>W1 (List.mem_map_of_mem hd) hz⟩) h (λ_ _ _ z=>nomatch z) (λ_ _ _ z=>nomatch z) (by simp;omega) (by simp;omega);exact this
theorem Qw{m:ME}{env:En}{b:Bool}{ts:List T}(h:m (hide env)=.ok (b,.lst ts)):ba m env=.ok (ts,env):=by unfold ba xj;rw[h];rfl
theorem Ps{m:ME}{env:En}{b:Bool}{ts:List T}(h:m (hide env)=.ok (b,.tup ts)):ba m env=.ok (ts,env):=by unfold ba xj;rw[h];rfl
theorem c8{m:ME}{tg:MG}{mb:MS}{env:En}{b:Bool}{ts:List T}{o:YJ}(h:m (hide env)=.ok (b,.tup ts))(g:jy tg mb ts env=o):wW (ba m) tg mb env=o:=by unfold wW;rw[Ps h];exact g
theorem Z7{m:ME}{tg:MG}{mb:MS}{env:En}{b:Bool}{ts:List T}{o:YJ}(h:m (hide env)=.ok (b,.lst ts))(g:jy tg mb ts env=o):wW (ba m) tg mb env=o:=by unfold wW;rw[Qw h];exact g
theorem W2(z:Str):∀ys:List Str,qQ (.str z) (.lst (sT ys))=some (false,.bl (decide (z∈ys))):=by
 intro ys;have:qb (.str z) (sT ys)=some (decide (z∈ys)):=by induction ys with|nil=>rfl|cons y ys ih=>
   have e:ni 40 (.str y) (.str z)=some (decide (y=z)):=by have h:=fV y z;unfold jn at h;cases g:ni 40 (.str y) (.str z)with|none=>rw[g]at h;cases h|some k=>rw[g]at h;cases h;rfl
   have d:(decide (y=z)||decide (z∈ys))=decide (z∈y::ys):=by rw[<-Bool.decide_or];exact decide_eq_decide.mpr ⟨λh=>h.elim (λh=>h▸List.mem_cons_self) (List.mem_cons_of_mem _),λh=>(List.mem_cons.mp h).imp Eq.symm id⟩
   show qb (.str z) (T.str y::sT ys)=_;unfold qb;rw[e,ih];dsimp only;rw[d]
 show(qb (.str z) (sT ys)).map _=_;rw[this];rfl
abbrev fv(t:T):Option RV:=some ↑V
theorem vf{i:Nat}{env:En}{t:T}(h:env[i]?=some (some ↑V)):mV i env=.ok ↑V:=vV h
theorem vo{i:Nat}{env:En}{t:T}(h:env[i]?=some (some (true,t))):mV i env=.ok ↑V:=vV h
theorem Qx{α:Type}{mt:MT}{me:ME}{cs:En}(hcs:hide cs=cs)(f a b g:α->T)(t:α->Bool)(hf:∀x,f x=.tup [a x,b x]):∀(l:List α),(∀x∈l,mt (fv (a x)::fv (b x)::cs)=.ok (t x))->(∀x∈l,t x=true->∃p,me (fv (a x)::fv (b x)::cs)=.ok (p,g x))->∀o0 o1,jL g2 mt me (o0::o1::cs) (l.map f)=.ok ((l.filter t).map g)
 |[],_,_,_,_=>rfl|x::l,ht,hg,o0,o1=>by
  have ih:=Qx hcs f a b g t hf l (λy hy=>ht y (List.mem_cons_of_mem _ hy)) (λy hy=>hg y (List.mem_cons_of_mem _ hy)) (fv (a x)) (fv (b x));have e:hide (fv (a x)::fv (b x)::cs)=fv (a x)::fv (b x)::cs:=by show fv (a x)::fv (b x)::hide cs=_;rw[hcs]
  have un:jL g2 mt me (o0::o1::cs) ((x::l).map f)=(match mt (hide (fv (a x)::fv (b x)::cs))with|.ok true=>(match me (hide (fv (a x)::fv (b x)::cs))with|.ok r=>(match jL g2 mt me (hide (fv (a x)::fv (b x)::cs)) (l.map f)with|.ok rs=>.ok (r.2::rs)|_=>.bad)|_=>.bad)|.ok false=>jL g2 mt me (hide (fv (a x)::fv (b x)::cs)) (l.map f)|_=>.bad):=by rw[List.map_cons,hf x];rfl
  rw[un,e,ht x List.mem_cons_self];cases h:t x with|true=>obtain⟨p,q⟩:=hg x List.mem_cons_self h;dsimp only;rw[q,ih,List.filter_cons_of_pos h];rfl|false=>dsimp only;rw[ih,List.filter_cons_of_neg (by rw[h];decide)]
theorem LX{α:Type}{mt:MT}{me:ME}{cs:En}(hcs:hide cs=cs)(f a b d g:α->T)(t:α->Bool)(hf:∀x,f x=.tup [a x,b x,d x]):∀(l:List α),(∀x∈l,mt (fv (a x)::fv (b x)::fv (d x)::cs)=.ok (t x))->(∀x∈l,t x=true->∃p,me (fv (a x)::fv (b x)::fv (d x)::cs)=.ok (p,g x))->∀o0 o1 o2,jL g3 mt me (o0::o1::o2::cs) (l.map f)=.ok ((l.filter t).map g)
 |[],_,_,_,_,_=>rfl|x::l,ht,hg,o0,o1,o2=>by
  have ih:=LX hcs f a b d g t hf l (λy hy=>ht y (List.mem_cons_of_mem _ hy)) (λy hy=>hg y (List.mem_cons_of_mem _ hy)) (fv (a x)) (fv (b x)) (fv (d x));have e:hide (fv (a x)::fv (b x)::fv (d x)::cs)=fv (a x)::fv (b x)::fv (d x)::cs:=by show fv (a x)::fv (b x)::fv (d x)::hide cs=_;rw[hcs]
  have un:jL g3 mt me (o0::o1::o2::cs) ((x::l).map f)=(match mt (hide (fv (a x)::fv (b x)::fv (d x)::cs))with|.ok true=>(match me (hide (fv (a x)::fv (b x)::fv (d x)::cs))with|.ok r=>(match jL g3 mt me (hide (fv (a x)::fv (b x)::fv (d x)::cs)) (l.map f)with|.ok rs=>.ok (r.2::rs)|_=>.bad)|_=>.bad)|.ok false=>jL g3 mt me (hide (fv (a x)::fv (b x)::fv (d x)::cs)) (l.map f)|_=>.bad):=by rw[List.map_cons,hf x];rfl
  rw[un,e,ht x List.mem_cons_self];cases h:t x with|true=>obtain⟨p,q⟩:=hg x List.mem_cons_self h;dsimp only;rw[q,ih,List.filter_cons_of_pos h];rfl|false=>dsimp only;rw[ih,List.filter_cons_of_neg (by rw[h];decide)]
theorem c1{α:Type}{mt:MT}{me:ME}{cs:En}(f g:α->T)(t:α->Bool):∀(l:List α),(∀x∈l,mt (fv (f x)::cs)=.ok (t x))->(∀x∈l,t x=true->∃p,me (fv (f x)::cs)=.ok (p,g x))->vn mt me cs (l.map f)=.ok ((l.filter t).map g)|[],_,_=>rfl|x::l,ht,hg=>by have ih:=c1 f g t l (λy hy=>ht y (List.mem_cons_of_mem _ hy)) (λy hy=>hg y (List.mem_cons_of_mem _ hy));rw[List.map_cons];unfold vn;rw[ht x List.mem_cons_self];cases h:t x with|true=>obtain⟨p,q⟩:=hg x List.mem_cons_self h;dsimp only;rw[q,ih,List.filter_cons_of_pos h];rfl|false=>dsimp only;rw[ih,List.filter_cons_of_neg (by rw[h];decide)]
theorem jx{α:Type}(l:List α):l.filter (λ_=>true)=l:=List.filter_eq_self.mpr λ_ _=>rfl
theorem all_map{α:Type}(p:α->Bool)(l:List α):g0 [.lst (l.map λx=>T.bl (p x))]=some (false,.bl (l.all p)):=by
 have h:∀l:List α,allB (l.map λx=>T.bl (p x))=some (l.map p):=λl=>by induction l with|nil=>rfl|cons x l ih=>show(allB (l.map λx=>T.bl (p x))).map (p x::·)=_;rw[ih];rfl
 show(allB (l.map λx=>T.bl (p x))).map _=_;rw[h,Option.map_some,List.all_map];rfl
theorem k6{it:aN}{mg:MG}{mt:MT}{me:ME}{n:Nat}{sl:List Nat}{env:En}{ts rs:List T}(h:it env=.ok ts)(hl:ts.length<=900)(g:jL mg mt me (List.replicate n none++(kx env sl).map frz1) ts=.ok rs):xf it mg mt me n sl env=.ok (true,.lst rs):=by unfold xf;rw[h,bind_ok,if_pos (by have:=big;omega),g]
theorem vz{it:aN}{mt:MT}{me:ME}{sl:List Nat}{env:En}{ts rs:List T}(h:it env=.ok ts)(hl:ts.length<=900)(g:vn mt me (kx env sl) ts=.ok rs):jh it mt me sl env=.ok (true,.lst rs):=by unfold jh;rw[h,bind_ok,if_pos (by have:=big;omega),g]
theorem aC{m:ME}{env:En}{b:Bool}{ts:List T}(h:m env=.ok (b,.lst ts)):xk m env=.ok ts:=by unfold xk;rw[h];rfl
theorem n6{m:ME}{env:En}{b:Bool}{ts:List T}(h:m env=.ok (b,.tup ts)):xk m env=.ok ts:=by unfold xk;rw[h];rfl
theorem gu{α:Type}{tg:MG}{mb:MS}{I:En->Prop}{r:RV}(f:α->T)(p:α->Bool):∀(l:List α),(∀env,I env->∀x∈l,∃e1,tg (f x) env=some e1/\(p x=true->mb e1=.rt r)/\(p x=false->∃e2,mb e1=.nx e2/\I e2))->∀env,I env->(l.any p=true->jy tg mb (l.map f) env=.rt r)/\(l.any p=false->∃e,jy tg mb (l.map f) env=.nx e/\I e)
 |[],_,env,hI=>⟨λh=>absurd h ↑D,λ_=>⟨env,rfl,hI⟩⟩|x::l,h,env,hI=>by
  obtain⟨e1,ht,h1,h2⟩:=h env hI x List.mem_cons_self;have un:jy tg mb ((x::l).map f) env=(match mb e1 with|.nx e2=>jy tg mb (l.map f) e2|.ct e2=>jy tg mb (l.map f) e2|.bk e2=>.nx e2|o=>o):=by
   rw[List.map_cons];conv=>lhs;unfold jy
   rw[ht];try rfl
  rw[un,List.any_cons];cases hp:p x with|true=>rw[h1 hp];exact⟨λ_=>rfl,λz=>by cases z⟩|false=>obtain⟨e2,h3,h4⟩:=h2 hp;rw[h3];exact gu f p l (λenv hI y hy=>h env hI y (List.mem_cons_of_mem _ hy)) e2 h4
def zZ(p:Str×Int):T:=.tup [.str p.1,.int p.2]
def iL(xs:List Int):List T:=xs.map T.int
def cR(z:Str)(xs:List Int)(ps cs:List ↑s):T:=.tup [.str "call",.str z,.tup (iL xs),.tup ↑P,.tup (cs.map zZ)]
def Wz(p:Str×Str):Bool:=decide (p.1.cps.toList<p.2.cps.toList)
def kJ(ns:List Str):Bool:=(ns.zip (ns.drop 1)).all Wz
def zR(ps:List ↑s):List Str:=ps.map (·.1)
def k7(ps:List ↑s):List Int:=ps.map (·.2)
theorem cb{α β:Type}(f:α->T)(g:β->T):∀(l:List α)(m:List β),uh (l.map f) (m.map g)=(l.zip m).map λp=>.tup [f p.1,g p.2]|[],m=>by cases m<;>rfl|x::l,[]=>rfl|x::l,y::m=>by show T.tup [f x,g y]::uh (l.map f) (m.map g)=_;rw[cb f g l m];rfl
theorem Z8{m:MA}{env:En}{b1 b2:Bool}{t u:T}{ts us:List T}(h:m env=.ok [(b1,t),(b2,u)])(h1:seqT t=some ts)(h2:seqT u=some us):uM m env=.ok (uh ts us):=by unfold uM;rw[h,bind_ok];dsimp only[List.map];rw[h1,h2]
theorem W3(ns:List Str)(hl:ns.length<=100):dA [(true,.lst (sT ns))]=.ok (false,.bl (kJ ns)):=by
 refine jr rfl (vb (vK (rs:=[(true,.lst ((ns.zip (ns.drop 1)).map λp=>.bl (Wz p)))]) (vC ?_ rfl) (all_map Wz _)) rfl);have hz:uM (z9 ↑E (z9 (uC ↑E (jq ↑m) jE) ze)) [some (true,.lst (sT ns))]=.ok (uh (ns.map T.str) ((ns.drop 1).map T.str)):=by
  refine Z8 (b2:=true) (u:=.lst ((sT ns).drop 1)) (vC (vo rfl) (vC (vS (vo rfl) (vN rfl) rfl ?_) rfl)) rfl ?_;·show some (true,T.lst (qo (sT ns) (some ((1:Nat):Int)) none))=_;rw[lB]
  ·show some ((ns.map T.str).drop 1)=_;rw[List.map_drop]
 rw[cb]at hz;have hc:=Qx (mt:=zX) (me:=m2 kr ↑E ↑U) (cs:=[]) rfl (λp:Str×Str=>.tup [.str p.1,.str p.2]) (λp=>.str p.1) (λp=>.str p.2) (λp=>.bl (Wz p)) (λ_=>true) (λ_=>rfl) (ns.zip (ns.drop 1)) (λ_ _=>rfl) (λp _ _=>⟨false,v2 ↑g ↑g rfl⟩) none none;rw[jx]at hc;exact k6 hz (by rw[List.length_map,List.length_zip];omega) hc
theorem eu(ps:List ↑s)(hl:ps.length<=100):kh [(false,.tup ↑P)]=.ok (true,.lst (sT (zR ps))):=by refine jr rfl (jp ?_);have hc:=Qx (mt:=zX) (me:=mV 0) (cs:=[]) rfl zZ (λp=>.str p.1) (λp=>.int p.2) (λp=>.str p.1) (λ_=>true) (λ_=>rfl) ps (λ_ _=>rfl) (λp _ _=>⟨false,vf rfl⟩) none none;rw[jx]at hc;refine(k6 (n6 ↑g) ↑ad hc).trans ?_;unfold sT zR;rw[List.map_map];rfl
theorem Z9{tab:List (Str×T)}{mk mz:ME}{env:En}{b1 b2:Bool}{w:Str}{t z:T}(h:mk env=.ok (b1,.str w))(g:mz env=.ok (b2,z))(e:(tab.lookup w).getD z=t):ug tab mk mz env=.ok ↑V:=by unfold ug;rw[h,bind_ok,g,bind_ok];dsimp only;rw[e]
theorem Pt{z:Str}{xs:List Int}{ps cs:List ↑s}{env:En}{i:Nat}{b:Bool}(h:env[i]?=some (some (b,cR z xs ps cs))):m2 zA (mV i) ↑o env=.ok (false,.str "call"):=v2 (vV h) rfl (jt _ 0)
theorem eA(z:Str)(xs:List Int)(ps cs:List ↑s):xN [(false,cR z xs ps cs)]=.ok (true,.lst [.tup ↑P,.tup (cs.map zZ)]):=by refine jr rfl (jp ?_);refine vz (n6 (Z9 (Pt rfl) rfl ↑r)) ↑f ?_;exact rfl
theorem Za(r:T)(ys:List Int)(ps:List ↑s)(hl:ys.length+ps.length<=900):LI [fv r,some (true,.lst (iL ys)),fv (.tup ↑P)]=.nx [fv r,some (true,.lst (iL (ys++k7 ps))),fv (.tup ↑P)]:=by
 have hc:=Qx (mt:=zX) (me:=mV 1) (cs:=[]) rfl zZ (λp=>.str p.1) (λp=>.int p.2) (λp=>.int p.2) (λ_=>true) (λ_=>rfl) ps (λ_ _=>rfl) (λp _ _=>⟨false,vf rfl⟩) none none;rw[jx]at hc;have h:xf (xk (mV 2)) g2 zX ↑U 2 [] (hide [fv r,some (true,.lst (iL ys)),fv (.tup ↑P)])=.ok (true,.lst (iL (k7 ps))):=by refine(k6 (n6 ↑g) ↑ad hc).trans ?_;unfold iL k7;rw[List.map_map];rfl
 show Xs 1 _ _=_;unfold Xs;rw[lz h];dsimp only[List.getElem?_cons_succ,List.getElem?_cons_zero];rw[if_pos (by have:=big;simp only[iL,k7,List.length_map];omega)];unfold iL;rw[List.map_append];rfl
theorem W4(z:Str)(xs:List Int)(ps cs:List ↑s)(hl:xs.length+ps.length+cs.length<=100):xP [(false,cR z xs ps cs)]=.ok (true,.lst (iL (xs++k7 ps++k7 cs))):=by
 refine jr rfl ?_;unfold f9;refine(zh (zx (vz (n6 (Z9 (Pt rfl) rfl ↑r)) ↑f rfl))).trans ?_;have he:bY 1 (m2 zA ↑E ↑I) [fv (cR z xs ps cs),some (true,.lst []),none]=.nx [fv (cR z xs ps cs),some (true,.lst (iL xs)),none]:=by unfold bY;rw[lz (v2 ↑g rfl (jt _ 2))];dsimp only[List.getElem?_cons_succ,List.getElem?_cons_zero];rw[if_pos (by have:=big;simp only[iL,List.length_map,List.length_nil];omega)];rfl
 refine(zh ((wu (jm (vT (v2 (Pt rfl) rfl (fV "call" "call"))))).trans he)).trans ?_;have hf:wW (ba (zj xN (z9 ↑E ze))) (gN 2) LI [fv (cR z xs ps cs),some (true,.lst (iL xs)),none]=.nx [fv (cR z xs ps cs),some (true,.lst (iL (xs++k7 ps++k7 cs))),fv (.tup (cs.map zZ))]:=by
  refine Z7 (vF ↑M (eA z xs ps cs)) ?_;have l1:(k7 ps).length=ps.length:=by simp[k7]
  rw[jC rfl (Za _ xs ps ↑c),jC rfl (Za _ _ cs (by rw[List.length_append];omega))];rfl
 refine(zh hf).trans (vb ?_ rfl);have hc:=c1 (mt:=jX (m2 Xt ↑E (mC .non))) (me:=mV 0) (cs:=[]) T.int T.int (λ_=>true) (xs++k7 ps++k7 cs) (λ_ _=>vT (v2 ↑g rfl rfl)) (λp _ _=>⟨false,vf rfl⟩);rw[jx]at hc;exact vz (aC (vo rfl)) (by simp only[iL,k7,List.length_map,List.length_append];omega) hc
theorem LY{f g:T->T->Option RV}{a b c:ME}{env:En}{p q:Bool}{x y:T}(h:a env=.ok (p,x))(k:b env=.ok (q,y))(e:f x y=some ↑T):wk f g a b c env=.ok ↑T:=by unfold wk;rw[h,bind_ok,k,bind_ok,e];rfl
theorem LZ{f g:T->T->Option RV}{a b c:ME}{env:En}{p q s:Bool}{x y z:T}{r:RV}(h:a env=.ok (p,x))(k:b env=.ok (q,y))(e:f x y=some ↑l)(l:c env=.ok (s,z))(d:g y z=some r):wk f g a b c env=.ok r:=by unfold wk;rw[h,bind_ok,k,bind_ok,e];show(if true=true then((c env).bind λu=>aL (g y u.2))else kN.ok (false,T.bl false))=_;rw[if_pos rfl,l,bind_ok,d];rfl
def cg(n x:Int):Bool:=decide (0<=x)&&decide (x<n)
theorem W5{a b c:ME}{env:En}{p q s:Bool}{x y:Int}(h:a env=.ok (p,.int 0))(k:b env=.ok (q,.int x))(l:c env=.ok (s,.int y)):wk mx kr a b c env=.ok (false,.bl (cg y x)):=by
 unfold cg;by_cases h0:0<=x;·rw[decide_eq_true h0,Bool.true_and];exact LZ h k (NN (decide_eq_true h0)) l (K2 rfl)
 ·rw[decide_eq_false h0,Bool.false_and];exact LY h k (NN (decide_eq_false h0))
theorem aD{m:ME}{env:En}{p x:Bool}(h:m env=.ok (p,.bl x)):jl (vQ m) env=.ok (!x):=by unfold jl vQ;rw[h];cases x<;>rfl
def eB(n:Int)(xs:List Int)(ps cs:List ↑s):Bool:=(xs++k7 ps++k7 cs).all (cg n)&&(kJ (zR ps)&&kJ (zR cs))
theorem W6(z:Str)(xs:List Int)(ps cs:List ↑s)(hl:xs.length+ps.length+cs.length<=100)(n:Int):vY [(false,cR z xs ps cs),(false,.int n)]=.ok (false,.bl (eB n xs ps cs)):=by
 refine jr rfl ?_;have hA:zp g0 (z9 (jh (xk (zj xP (z9 ↑E ze))) zX (wk mx kr ↑o ↑E ↑U) [1]) ze) [fv (cR z xs ps cs),fv (.int n)]=.ok (false,.bl ((xs++k7 ps++k7 cs).all (cg n))):=by have hc:=c1 (mt:=zX) (me:=wk mx kr ↑o ↑E ↑U) (cs:=[fv (.int n)]) T.int (λx=>.bl (cg n x)) (λ_=>true) (xs++k7 ps++k7 cs) (λ_ _=>rfl) (λp _ _=>⟨false,W5 rfl ↑g ↑g⟩);rw[jx]at hc;exact vK (vC (vz (aC (vF ↑M (W4 z xs ps cs hl))) (by simp only[iL,k7,List.length_map,List.length_append];omega) hc) rfl) (all_map _ _)
 have hT:=jm (env:=[fv (cR z xs ps cs),fv (.int n)]) (aD hA);unfold eB;show zq (xH (jl (vQ (zp g0 (z9 (jh (xk (zj xP (z9 ↑E ze))) zX (wk mx kr ↑o ↑E ↑U) [1]) ze)))) ↑af zF) _ [fv (cR z xs ps cs),fv (.int n)]=_
 cases hb:(xs++k7 ps++k7 cs).all (cg n)with|false=>rw[hb]at hT;exact wv hT rfl|true=>rw[hb]at hT;refine(zh (zB hT)).trans (jp ?_);have hc:=c1 (mt:=zX) (me:=zj dA (z9 (zj kh (z9 ↑E ze)) ze)) (cs:=[]) (λq:List ↑s=>.tup (q.map zZ)) (λq=>.bl (kJ (zR q))) (λ_=>true) [ps,cs] (λ_ _=>rfl) (λq hq _=>⟨false,by have hq':q.length<=100:=(by simp only[List.mem_cons,List.not_mem_nil,or_false]at hq;rcases hq with rfl|rfl<;>omega);exact vF (vC (vF ↑M (eu q hq')) rfl) (W3 _ (by simpa[zR]using hq'))⟩);rw[jx]at hc;refine(vK (vC (vz (aC (vF ↑M (eA z xs ps cs))) (show 2<=900 by decide) hc) rfl) (all_map _ _)).trans ?_;simp
def wY(p:Str×Str×Bool):T:=.tup [.str p.1,.str p.2.1,.bl p.2.2]
def SP(z:Str)(k:Nat)(pl:List ↑i)(bk:Str)(fs:List Str):T:=.tup [.str "function",.str z,.int (k:Int),.tup (pl.map wY),.str bk,.tup (sT fs)]
def FO(c:CA)(t u:T):T:=.obj c.Face ["told_kinds","told_functions"] [.dct [] [],.dct [.inr "f",.inr "b"] [t,u]]
theorem NS(c:CA)(t u:T):jB c [(false,FO c t u),(false,.str "f")]=.ok ↑V:=by refine jr rfl (jp ?_);unfold mS;rw[show YY [c.Face] "told_functions" ↑E (hide (wd 2 [(false,FO c t u),(false,.str "f")]))=.ok (false,.dct [.inr "f",.inr "b"] [t,u])from if_pos List.mem_cons_self];rfl
theorem NT(c:CA)(t u:T):jB c [(false,FO c t u),(false,.str "b")]=.ok (false,u):=by refine jr rfl (jp ?_);unfold mS;rw[show YY [c.Face] "told_functions" ↑E (hide (wd 2 [(false,FO c t u),(false,.str "b")]))=.ok (false,.dct [.inr "f",.inr "b"] [t,u])from if_pos List.mem_cons_self];rfl
def two(z:Str)(t u:T):T:=if z="f"then t else u
theorem Qy(c:CA)(t u:T){z:Str}(hz:z="f"\/z="b"):jB c [(false,FO c t u),(false,.str z)]=.ok (false,two z t u):=by
 rcases hz with rfl|rfl;·rw[NS];rfl
 ·rw[NT];rfl
theorem nL(c:CA){f:MF}{mo:ME}{ma:MA}{env:En}{b:Bool}{t u:T}{rs:List RV}{r:RV}(h:mo env=.ok (b,FO c t u))(g:ma env=.ok rs)(k:f ((false,FO c t u)::rs)=.ok r):mQ c.Face "function" f mo ma env=.ok r:=by unfold mQ;rw[h,bind_ok];show(if c.Face=c.Face/\¬("function":Str)∈(["told_kinds","told_functions"]:List Str)then(ma env).bind λrs=>f ((false,FO c t u)::rs)else kN.bad)=_;rw[if_pos ⟨rfl,by decide+kernel⟩,g];exact k
def pX(pl:List ↑i)(xs:List Int)(ps:List ↑s):List ↑s:=(pl.zip xs).map (λq=>(q.1.1,q.2))++ps
theorem eC(c:CA){z:Str}{t u:T}{k:Nat}{pl:List ↑i}{bk:Str}{fs:List Str}(xs:List Int)(ps cs:List ↑s)(hz:z="f"\/z="b")(ht:two z t u=SP z k pl bk fs)(hl:pl.length+xs.length+ps.length<=100):nO c [(false,FO c t u),(false,cR z xs ps cs)]=.ok (false,.tup ((pX pl xs ps).map zZ)):=by
 refine jr rfl ?_;refine(zh (zx (v2 (nL c ↑g (vC (v2 ↑g rfl (jt _ 1)) rfl) (Qy c t u hz)) rfl (by rw[ht];exact jt _ 3)))).trans ?_;have hz2:uM (z9 (mV 2) (z9 (m2 zA ↑U ↑I) ze)) [fv (FO c t u),fv (cR z xs ps cs),fv (.tup (pl.map wY)),none]=.ok (uh (pl.map wY) (xs.map T.int)):=Z8 (vC ↑g (vC (v2 ↑g rfl (jt _ 2)) rfl)) rfl rfl;rw[cb]at hz2;have hc:=Qx (mt:=zX) (me:=jJ (z9 (m2 zA ↑E ↑o) (z9 ↑U ze))) (cs:=[]) rfl (λq:↑i×Int=>.tup [wY q.1,.int q.2]) (λq=>wY q.1) (λq=>.int q.2) (λq=>.tup [.str q.1.1,.int q.2]) (λ_=>true) (λ_=>rfl) (pl.zip xs) (λ_ _=>rfl) (λq _ _=>⟨false,vP (vC (v2 ↑g rfl (jt _ 0)) ↑M) rfl rfl⟩) none none;rw[jx]at hc;refine(zh (e':=[fv (FO c t u),fv (cR z xs ps cs),fv (.tup (pl.map wY)),some (true,.lst (((pl.zip xs).map λq=>(q.1.1,q.2)).map zZ))]) (zx ?_)).trans (vb (v2 (vK (vC (vo rfl) rfl) rfl) (vK (vC (v2 ↑g rfl (jt _ 3)) rfl) rfl) ?_) rfl);·refine(k6 hz2 (by rw[List.length_map,List.length_zip];omega) hc).trans ?_;rw[List.map_map];rfl
 ·refine(dY (by rw[List.length_map,List.length_map,List.length_map,List.length_zip];have:=big;omega)).trans ?_;unfold pX;rw[List.map_append]
def aE(ns:List Str):Bool:=decide ((vO ns).length=ns.length)
theorem Ke(ns:List Str):(vO ns).length<=ns.length:=by rw[<-iU];exact nK _ _
theorem eD{m:ME}{env:En}{b:Bool}{ns:List Str}(h:m env=.ok (b,.lst (sT ns)))(hl:ns.length<=900):v6 m env=.ok (false,.int ((vO ns).length:Int)):=by
 unfold v6;rw[h,bind_ok];have:mO (.lst (sT ns))=some (vO ns).length:=by show(wm (sT ns)).bind _=_;rw[gH];show(if ns.length+1<scanBound then some (vO ns).length else none)=_;rw[if_pos (by unfold scanBound;omega)]
 dsimp only;rw[this]
theorem fW(ns:List Str):jH [.lst (sT ns)]=some (false,.int (ns.length:Int)):=by show some (false,T.int ((sT ns).length:Int))=_;rw[uu]
def WA(pl:List ↑i)(n:Str):Option Str:=(pl.find? λp=>p.1==n).map (·.2.1)
theorem W7(n:Str):∀pl:List ↑i,qP (pl.map λp=>Sum.inr p.1) (pl.map λp=>.str p.2.1) (.inr n)=(WA pl n).map T.str
 |[]=>rfl|p::pl=>by
  show(if(Sum.inr p.1:Key)=.inr n then some (T.str p.2.1)else qP (pl.map λp=>Sum.inr p.1) (pl.map λp=>.str p.2.1) (.inr n))=_;unfold WA;by_cases e:p.1=n;·rw[if_pos (congrArg Sum.inr e),List.find?_cons_of_pos (by simpa using e)];rfl
  ·rw[if_neg (λq=>e (Sum.inr.inj q)),W7 n pl,List.find?_cons_of_neg (by simpa using e)];rfl
def kT(o:Option Str):T:=(o.map T.str).getD .non
theorem NU(o:Option Str)(x:Str):jn (kT o) (.str x)=some (false,.bl (decide (o=some x))):=by cases o with|none=>rfl|some y=>refine(fV y x).trans ?_;simp
theorem aF:∀pl:List ↑i,gc (pl.map λp=>.tup [.str p.1,.str p.2.1])=some (pl.map λp=>(p.1,.str p.2.1))|[]=>rfl|p::pl=>by show(gc (pl.map λp=>.tup [.str p.1,.str p.2.1])).map ((p.1,.str p.2.1)::·)=_;rw[aF pl];rfl
theorem Pu{m:ME}{env:En}{b:Bool}{pl:List ↑i}(h:m env=.ok (b,.lst (pl.map λp=>.tup [.str p.1,.str p.2.1])))(hn:(pl.map (·.1)).Nodup):XH m env=.ok ↑L:=by unfold XH;rw[h,bind_ok];dsimp only;rw[aF];dsimp only;rw[List.map_map,List.map_map,List.map_map];rw[if_pos (show(pl.map ((·.1)∘λp=>(p.1,T.str p.2.1))).Nodup from hn)];rfl
theorem Kf{m:MT}{env:En}{b:Bool}(h:m env=.ok b)(g:m (hide env)=.bad\/m (hide env)=.ok b):xq m env=.ok b:=by
 rcases g with g|g;·exact xF g h
 ·exact jm g
theorem Kg{m:ME}{env:En}{r:RV}(h:m env=.ok r)(g:m (hide env)=.bad\/m (hide env)=.ok r):zJ m env=.rt r:=by
 rcases g with g|g;·exact vb h g
 ·exact jp g
def Pv(ks:List Str)(x:Int):Str:=ks.getD x.toNat ""
theorem Kh{ks:List Str}{x:Int}(h:cg (ks.length:Int) x=true):zA (.lst (sT ks)) (.int x)=some (false,.str (Pv ks x)):=by
 unfold cg at h;rw[Bool.and_eq_true,decide_eq_true_iff,decide_eq_true_iff]at h;obtain⟨i,rfl⟩:=Int.eq_ofNat_of_zero_le h.1;have hi:i<ks.length:=by omega
 rw[XV,List.getElem?_eq_getElem hi];show some (false,T.str ks[i])=_;unfold Pv;simp[hi]
def nC(pl:List ↑i)(ks:List Str)(p:Str×Int):Bool:=decide (WA pl p.1=some (Pv ks p.2))
def Uq(pl:List ↑i)(bs:List ↑s)(ks:List Str):Bool:=aE (zR bs)&&(bs.all (nC pl ks)&&(pl.filter (·.2.2)).all λp=>decide (p.1∈zR bs))
theorem oP(i j:Int):qm (.int i) (.int j)=some (false,.bl (!decide (i=j))):=by unfold qm;show some (false,T.bl (!(i==j)))=_;rw[show(i==j)=decide (i=j)from rfl]
theorem Zb:∀(pl:List ↑i)(o0 o1 o2:Option RV),jL g3 (vQ (mV 2)) (m2 qQ ↑E (mV 3)) [o0,o1,o2,none] (pl.map wY)=.bad\/(pl.filter (·.2.2)=[]/\jL g3 (vQ (mV 2)) (m2 qQ ↑E (mV 3)) [o0,o1,o2,none] (pl.map wY)=.ok [])|[],_,_,_=>.inr ⟨rfl,rfl⟩|(a,b,true)::pl,_,_,_=>.inl rfl|(a,b,false)::pl,_,_,_=>Zb pl (fv (.str a)) (fv (.str b)) (fv (.bl false))
theorem Pw(pl:List ↑i)(bs:List ↑s)(ks:List Str)(hn:(pl.map (·.1)).Nodup)(hl:pl.length+bs.length<=100)(hr:∀p∈bs,cg (ks.length:Int) p.2=true):kj [(false,.tup (pl.map wY)),(false,.tup (bs.map zZ)),↑ac]=.ok (false,.bl (Uq pl bs ks)):=by
 refine jr rfl ?_;unfold gi;have lf:(zR bs).length=bs.length:=by simp[zR]
 refine(zh (zx (vF ↑M (eu bs ↑c)))).trans ?_;have h1:xq (jX (m2 qm (v6 (mV 3)) (zp jH (z9 (mV 3) ze)))) [fv (.tup (pl.map wY)),fv (.tup (bs.map zZ)),fv (.lst (sT ks)),some ↑y,none]=.ok (!aE (zR bs)):=by refine xF rfl (vT (p:=false) (v2 (eD (vo rfl) ↑c) (vK (vC (vo rfl) rfl) (fW _)) ((oP _ _).trans ?_)));unfold aE;congr 4;exact decide_eq_decide.mpr ↑c
 unfold Uq;cases hb:aE (zR bs)with|false=>rw[hb]at h1;exact wv h1 rfl|true=>
  rw[hb]at h1;refine(zh (zB h1)).trans ?_;have hc:=LX (mt:=zX) (me:=jJ (z9 ↑E (z9 ↑U ze))) (cs:=[]) rfl wY (λp=>.str p.1) (λp=>.str p.2.1) (λp=>.bl p.2.2) (λp=>.tup [.str p.1,.str p.2.1]) (λ_=>true) (λ_=>rfl) pl (λ_ _=>rfl) (λp _ _=>⟨false,vP (vC ↑g ↑M) rfl rfl⟩) none none none;rw[jx]at hc;refine(zh (zx (Pu (k6 (n6 ↑g) ↑ad hc) hn))).trans ?_;have ha:NF [fv (.tup (pl.map wY)),fv (.tup (bs.map zZ)),fv (.lst (sT ks)),some ↑y,some ↑L]=.ok (false,.bl (bs.all (nC pl ks))):=by have hc:=Qx (mt:=zX) (me:=Io) (cs:=[fv (.lst (sT ks)),fv (.dct (pl.map λp=>Sum.inr p.1) (pl.map λp=>.str p.2.1))]) rfl zZ (λp=>.str p.1) (λp=>.int p.2) (λp=>.bl (nC pl ks p)) (λ_=>true) (λ_=>rfl) bs (λ_ _=>rfl) (λp hp _=>⟨false,by refine v2 (p:=false) ?_ (v2 ↑g ↑g (Kh (hr p hp))) (NU _ _);unfold mS;show aL (some (false,(qP (pl.map λp=>Sum.inr p.1) (pl.map λp=>.str p.2.1) (.inr p.1)).getD .non))=_;rw[W7];rfl⟩) none none;rw[jx]at hc;exact vK (vC (k6 (n6 ↑g) ↑ad hc) rfl) (all_map _ _)
  have hah:NF (hide [fv (.tup (pl.map wY)),fv (.tup (bs.map zZ)),fv (.lst (sT ks)),some ↑y,some ↑L])=.bad\/NF (hide [fv (.tup (pl.map wY)),fv (.tup (bs.map zZ)),fv (.lst (sT ks)),some ↑y,some ↑L])=.ok (false,.bl (bs.all (nC pl ks))):=by cases bs with|nil=>exact .inr rfl|cons p bs=>refine .inl (II ?_);unfold xf;show(if((p::bs).map zZ).length<=sizeLine then _ else _)=_;split<;>rfl
  have h2:xq (jl (vQ NF)) [fv (.tup (pl.map wY)),fv (.tup (bs.map zZ)),fv (.lst (sT ks)),some ↑y,some ↑L]=.ok (!bs.all (nC pl ks)):=by refine Kf (aD ha) (hah.imp (λh=>?_) aD);unfold jl vQ;rw[h];rfl
  cases hb2:bs.all (nC pl ks)with|false=>rw[hb2]at h2;exact wv h2 rfl|true=>
   rw[hb2]at h2;refine(zh (zB h2)).trans ?_;have hd:=LX (mt:=vQ (mV 2)) (me:=m2 qQ ↑E (mV 3)) (cs:=[fv (.lst (sT (zR bs)))]) rfl wY (λp=>.str p.1) (λp=>.str p.2.1) (λp=>.bl p.2.2) (λp=>.bl (decide (p.1∈zR bs))) (λp=>p.2.2) (λ_=>rfl) pl (λp _=>by unfold vQ;rw[vf rfl];rfl) (λp _ _=>⟨false,v2 ↑g ↑g (W2 p.1 (zR bs))⟩) none none none;refine Kg (vK (vC (k6 (n6 ↑g) ↑ad hd) rfl) (all_map _ _)) ?_;have e1:xf (xk ↑E) g3 (vQ (mV 2)) (m2 qQ ↑E (mV 3)) 3 [3] (hide [fv (.tup (pl.map wY)),fv (.tup (bs.map zZ)),fv (.lst (sT ks)),some ↑y,some ↑L])=(match jL g3 (vQ (mV 2)) (m2 qQ ↑E (mV 3)) [none,none,none,none] (pl.map wY)with|.ok rs=>.ok (true,.lst rs)|_=>.bad):=if_pos (by rw[List.length_map];have:=big;omega);rcases Zb pl none none none with q|⟨q,q'⟩;·rw[q]at e1;exact .inl (II e1)
   ·rw[q']at e1;rw[q];exact .inr (vK (vC e1 rfl) rfl)
theorem NV(z:Str):∀ys:List Str,qQ (.str z) (.tup (sT ys))=some (false,.bl (decide (z∈ys))):=λys=>(show qQ (.str z) (.tup (sT ys))=qQ (.str z) (.lst (sT ys))from rfl).trans (W2 z ys)
def WB(bk:Str)(fs ks:List Str)(p:Str×Int):Bool:=decide (p.1∈fs)&&decide (Pv ks p.2=bk)
def NW(k:Nat)(pl:List ↑i)(bk:Str)(fs ks:List Str)(xs:List Int)(ps cs:List ↑s):Bool:=decide (xs.length<=k)&&(Uq pl (pX pl xs ps) ks&&cs.all (WB bk fs ks))
def oK(b:Bool)(bk:Str):T:=if b=true then .str bk else .non
theorem Zc{pl:List ↑i}{xs:List Int}{ps:List ↑s}{p:Str×Int}(h:p∈pX pl xs ps):p.2∈xs\/p∈ps:=by
 unfold pX at h;rcases List.mem_append.mp h with h|h;·obtain⟨q,hq,rfl⟩:=List.mem_map.mp h;exact .inl (List.of_mem_zip hq).2
 ·exact .inr h
theorem ci(pl:List ↑i)(xs:List Int)(ps:List ↑s):(pX pl xs ps).length<=xs.length+ps.length:=by unfold pX;rw[List.length_append,List.length_map,List.length_zip];omega
theorem Px(c:CA){z:Str}{t u:T}{k:Nat}{pl:List ↑i}{bk:Str}{fs ks:List Str}(xs:List Int)(ps cs:List ↑s)(hz:z="f"\/z="b")(ht:two z t u=SP z k pl bk fs)(hn:(pl.map (·.1)).Nodup)(hl:pl.length+xs.length+ps.length+cs.length<=50)(hr:∀x∈xs++k7 ps++k7 cs,cg (ks.length:Int) x=true):gj c [(false,FO c t u),↑ac,(false,cR z xs ps cs)]=.ok (false,oK (NW k pl bk fs ks xs ps cs) bk):=by
 refine jr rfl ?_;unfold uU;refine(zh (e':=[fv (FO c t u),fv (.lst (sT ks)),fv (cR z xs ps cs),fv (SP z k pl bk fs),none]) (zx (by rw[<-ht];exact nL c ↑g (vC (v2 ↑g rfl (jt _ 1)) rfl) (Qy c t u hz)))).trans ?_;have h1:xq neT [fv (FO c t u),fv (.lst (sT ks)),fv (cR z xs ps cs),fv (SP z k pl bk fs),none]=.ok (!decide (xs.length<=k)):=by
  refine jm (ic (vT (v2 ↑g rfl rfl)) (vT (v2 (vK (vC (v2 ↑g rfl (jt _ 2)) rfl) (show jH [.tup (iL xs)]=some (false,.int ((iL xs).length:Int))from rfl)) (v2 ↑g rfl (jt _ 2)) (XR ?_))));rw[show(iL xs).length=xs.length from List.length_map ..];by_cases h:xs.length<=k;·rw[decide_eq_true h];exact decide_eq_false ↑c
  ·rw[decide_eq_false h];exact decide_eq_true ↑c
 unfold NW;cases hb:decide (xs.length<=k)with|false=>rw[hb]at h1;exact wv h1 rfl|true=>
  rw[hb]at h1;refine(zh (zB h1)).trans ((zh (zx (v2 ↑g rfl (jt _ 4)))).trans ?_);have hbl:=ci pl xs ps;have h2:xq (jl (vQ (Ir c))) [fv (FO c t u),fv (.lst (sT ks)),fv (cR z xs ps cs),fv (SP z k pl bk fs),fv (.str bk)]=.ok (!Uq pl (pX pl xs ps) ks):=by
   refine jm (aD (vF (vC (v2 ↑g rfl (jt _ 3)) (vC (vF (vC ↑g ↑M) (eC c xs ps cs hz ht ↑c)) ↑M)) (Pw pl _ ks hn ↑c λp hp=>?_)));rcases Zc hp with h|h;·exact hr _ (List.mem_append_left _ (List.mem_append_left _ h))
   ·exact hr _ (List.mem_append_left _ (List.mem_append_right _ (List.mem_map_of_mem h)))
  cases hb2:Uq pl (pX pl xs ps) ks with|false=>rw[hb2]at h2;exact wv h2 rfl|true=>rw[hb2]at h2;refine(zh (zB h2)).trans ?_;have hc:=Qx (mt:=zX) (me:=Ip) (cs:=[fv (.str bk),fv (SP z k pl bk fs),fv (.lst (sT ks))]) rfl zZ (λp=>.str p.1) (λp=>.int p.2) (λp=>.bl (WB bk fs ks p)) (λ_=>true) (λ_=>rfl) cs (λ_ _=>rfl) (λp hp _=>⟨false,Hl (v2 ↑g (v2 ↑g rfl (jt _ 5)) (NV p.1 fs)) (v2 (v2 ↑g ↑g (Kh (hr p.2 (List.mem_append_right _ (List.mem_map_of_mem hp))))) ↑g (fV _ _))⟩) none none;rw[jx]at hc;have h3:xq (jl (vQ Iq)) [fv (FO c t u),fv (.lst (sT ks)),fv (cR z xs ps cs),fv (SP z k pl bk fs),fv (.str bk)]=.ok (!cs.all (WB bk fs ks)):=jm (aD (vK (vC (k6 (n6 (v2 ↑g rfl (jt _ 4))) ↑ad hc) rfl) (all_map _ _)));cases hb3:cs.all (WB bk fs ks)with|false=>rw[hb3]at h3;exact wv h3 rfl|true=>rw[hb3]at h3;exact(zh (zB h3)).trans rfl
theorem aG(c:CA){f:T}{ks:List Str}{w:Str}{l:List T}{b:Bool}{g:MF}{q:RV}(hf:vY [(false,.tup (.str w::l)),(false,.int (ks.length:Int))]=.ok (false,.bl b))(hl:iY w (NG c)=some g)(hg:b=true->g [(false,f),↑ac,(false,.tup (.str w::l))]=.ok q)(hb:b=false->q=(false,.non)):jk c [(false,f),↑ac,(false,.tup (.str w::l))]=.ok q:=by refine jr rfl ?_;unfold ln;have hT:xq Iu [fv f,fv (.lst (sT ks)),fv (.tup (.str w::l)),none]=.ok (!b):=jm (aD (vF (vC ↑g (vC (vK ↑M (fW ks)) rfl)) hf));cases b with|false=>rw[hb rfl];exact wv hT rfl|true=>refine(zh (zB hT)).trans ?_;unfold du;show(match xj (m2 zA (mV 2) ↑o) [fv f,fv (.lst (sT ks)),fv (.tup (.str w::l)),none]with|_=>_)=_;rw[lz (v2 ↑g rfl (jt (.str w::l) 0))];dsimp only;rw[hl];exact jp (vF (vC ↑g (vC ↑g ↑M)) (hg rfl))
theorem Zd(c:CA){z:Str}{t u:T}{k:Nat}{pl:List ↑i}{bk:Str}{fs ks:List Str}(xs:List Int)(ps cs:List ↑s)(hz:z="f"\/z="b")(ht:two z t u=SP z k pl bk fs)(hn:(pl.map (·.1)).Nodup)(hl:pl.length+xs.length+ps.length+cs.length<=50):jk c [(false,FO c t u),↑ac,(false,cR z xs ps cs)]=.ok (false,oK (eB (ks.length:Int) xs ps cs&&NW k pl bk fs ks xs ps cs) bk):=by
 refine aG c (W6 z xs ps cs ↑c _) rfl (λh=>?_) λh=>?_;·rw[h,Bool.true_and];unfold eB at h;rw[Bool.and_eq_true,List.all_eq_true]at h;exact Px c xs ps cs hz ht hn hl h.1
 ·rw[h];rfl
inductive Go(c:CA)(f:T):List Str->List T->List Str->Prop|nil(ks:List Str):Go c f ks [] ks|cons{ks ks':List Str}{r:T}{k:Str}{rs:List T}(h:jk c [(false,f),↑ac,(false,r)]=.ok (false,.str k))(g:Go c f (ks++[k]) rs ks'):Go c f ks (r::rs) ks'
theorem Go.snoc{c:CA}{f:T}{ks ks':List Str}{rs:List T}{r:T}{k:Str}(g:Go c f ks rs ks')(h:jk c [(false,f),(false,.lst (sT ks')),(false,r)]=.ok (false,.str k)):Go c f ks (rs++[r]) (ks'++[k]):=by induction g with|nil ks=>exact .cons h (.nil _)|cons h1 _ ih=>exact .cons h1 (ih h)
def kE(f L:T)(ks:List Str)(e3 e4 e5:Option RV):En:=[fv f,fv L,some (true,.lst (sT ks)),e3,e4,e5]
theorem W8(c:CA)(f L:T){ks:List Str}{r q:T}(h:jk c [(false,f),↑ac,(false,r)]=.ok (false,q))(hq:rq q=true/\ZV q=true/\ZW q=true)(k:Int)(e5:Option RV):zH 5 (Iv c) (kE f L ks (fv (.int k)) (fv r) e5)=.nx (kE f L ks (fv (.int k)) (fv r) (fv q)):=vw (vF (vC ↑g (vC (vo rfl) ↑M)) h) (.inl rfl) (ww hq.1 hq.2.1 hq.2.2)
theorem NX(c:CA)(f L:T){ks:List Str}{r:T}{b:Str}(h:jk c [(false,f),↑ac,(false,r)]=.ok (false,.str b))(hl:ks.length<100)(k:Int)(e5:Option RV):JI c (kE f L ks (fv (.int k)) (fv r) e5)=.nx (kE f L (ks++[b]) (fv (.int k)) (fv r) (fv (.str b))):=by refine(zh (W8 c f L h ⟨rfl,rfl,rfl⟩ k e5)).trans ((zh (zB (jm (vT (v2 ↑g rfl rfl))))).trans ?_);refine(show pB 2 (mV 5) (kE f L ks (fv (.int k)) (fv r) (fv (.str b)))=_ from fU rfl ↑g (by rw[uu];have:=big;omega)).trans ?_;unfold kE sT;rw[List.map_append];rfl
theorem Py(c:CA)(f L:T){ks:List Str}{r:T}(h:jk c [(false,f),↑ac,(false,r)]=.ok (false,.non))(k:Int)(e5:Option RV):JI c (kE f L ks (fv (.int k)) (fv r) e5)=.exc ⟨c.NoClient,.int k⟩ (kE f L ks (fv (.int k)) (fv r) (fv .non)):=by
 refine(zh (W8 c f L h ⟨rfl,rfl,rfl⟩ k e5)).trans ?_;have hr:xH (jX (m2 bO (mV 5) (mC .non))) (mX c.NoClient (mV 3)) zF (kE f L ks (fv (.int k)) (fv r) (fv .non))=.exc ⟨c.NoClient,.int k⟩ (kE f L ks (fv (.int k)) (fv r) (fv .non)):=by refine(wu (jm (vT (v2 ↑g rfl rfl)))).trans ?_;unfold mX;rw[lz ↑g]
 unfold zq;rw[hr]
theorem Ze(c:CA)(f L:T):∀{ks ks':List Str}{rs:List T},Go c f ks rs ks'->ks.length+rs.length<100->∀(k:Nat)(e3 e4 e5:Option RV)(tl:List T),∃e3' e4' e5',jy VZ (JI c) (xX k (rs++tl)) (kE f L ks e3 e4 e5)=jy VZ (JI c) (xX (k+rs.length) tl) (kE f L ks' e3' e4' e5'):=by intro ks ks' rs g;induction g with|nil ks=>exactλ_ k e3 e4 e5 tl=>⟨e3,e4,e5,rfl⟩|@cons ks ks' r b rs h g ih=>intro hl k e3 e4 e5 tl;rw[List.length_cons]at hl;obtain⟨f3,f4,f5,ih⟩:=ih (by rw[List.length_append,List.length_singleton];omega) (k+1) (fv (.int (k:Int))) (fv r) (fv (.str b)) tl;refine⟨f3,f4,f5,?_⟩;rw[List.cons_append,xX,jC rfl (NX c f L h ↑c k e5),ih,List.length_cons,show k+1+rs.length=k+(rs.length+1)from by omega]
theorem aH(c:CA)(f:T)(ts:List T){o:YJ}(h:zq (λenv=>jy VZ (JI c) (xX 0 ts) env) (uD 2) (kE f (.lst ts) [] none none none)=o):km c (wd 6 [(false,f),(false,.lst ts)])=o:=by
 unfold km;refine(zh (e':=kE f (.lst ts) [] none none none) (zx (vL (rs:=[]) rfl rfl rfl))).trans ?_;have he:wW (uL ↑U) VZ (JI c) (kE f (.lst ts) [] none none none)=jy VZ (JI c) (xX 0 ts) (kE f (.lst ts) [] none none none):=by unfold wW uL;rw[lz ↑g]
 rw[<-h];unfold zq;rw[he]
theorem W9(c:CA)(f:T){rs:List T}{ks:List Str}(g:Go c f [] rs ks)(hl:rs.length<100):qC c [(false,f),(false,.lst rs)]=.ok (true,.lst (sT ks)):=by refine jr rfl (aH c f _ ?_);obtain⟨e3,e4,e5,h⟩:=Ze c f (.lst rs) g (by simpa using hl) 0 none none none [];rw[List.append_nil]at h;unfold zq;dsimp only;rw[h];rfl
theorem JB(c:CA)(f:T){rs:List T}{ks:List Str}{r:T}(g:Go c f [] rs ks)(hl:rs.length<100)(hn:jk c [(false,f),↑ac,(false,r)]=.ok (false,.non)):qC c [(false,f),(false,.lst (rs++[r]))]=.exc ⟨c.NoClient,.int (rs.length:Int)⟩:=by
 have hb:∃env,km c (wd 6 [(false,f),(false,.lst (rs++[r]))])=.exc ⟨c.NoClient,.int (rs.length:Int)⟩ env:=by
  obtain⟨e3,e4,e5,h⟩:=Ze c f (.lst (rs++[r])) g (by simpa using hl) 0 none none none [r];refine⟨kE f (.lst (rs++[r])) ks (fv (.int (rs.length:Int))) (fv r) (fv .non),aH c f _ ?_⟩;unfold zq;dsimp only;rw[h,Nat.zero_add,xX];have:jy VZ (JI c) (T.tup [.int (rs.length:Int),r]::xX (rs.length+1) []) (kE f (.lst (rs++[r])) ks e3 e4 e5)=.exc ⟨c.NoClient,.int (rs.length:Int)⟩ (kE f (.lst (rs++[r])) ks (fv (.int (rs.length:Int))) (fv r) (fv .non)):=by unfold jy;show(match JI c (kE f (.lst (rs++[r])) ks (fv (.int (rs.length:Int))) (fv r) e5)with|.nx e2=>jy VZ (JI c) (xX (rs.length+1) []) e2|.ct e2=>jy VZ (JI c) (xX (rs.length+1) []) e2|.bk e2=>.nx e2|o=>o)=_;rw[Py c f _ hn]
  rw[this]
 obtain⟨env,hb⟩:=hb;show zP 6 2 (km c) _=_;unfold zP;refine(if_pos rfl).trans ?_;rw[hb];rfl
theorem NY{tab:List Addr}{nm:Option Nat}{mb mh:MS}{env e:En}(h:mb env=.nx e):mY tab nm mb mh env=.nx e:=by unfold mY;rw[h]
theorem NZ{tab:List Addr}{nm:Option Nat}{mb mh:MS}{env e:En}{x:Ex}(h:mb env=.exc x e)(hx:x.C∈tab):mY tab nm mb mh env=VI nm (mh (bindE nm (.exn x.C x.at_) e)):=by unfold mY;rw[h];exact if_pos hx
theorem Pz{C:Addr}{t:T}{m:ME}{env:En}{b:Bool}(h:m env=.ok (b,.exn C t)):Xy [C] m env=.ok ↑V:=by unfold Xy;rw[h,bind_ok];exact if_pos List.mem_cons_self
theorem cj{C:Addr}{t:T}{m:ME}{env:En}{b k:Bool}(h:m env=.ok (b,.exn C t)):og [(C,k)] m env=.ok (false,.bl k):=by unfold og;rw[h,bind_ok];dsimp only;rw[show GN C [(C,k)]=some k from if_pos rfl]
theorem Ho{f:MF}{m:MA}{env:En}{rs:List RV}{x:Ex}(h:m env=.ok rs)(g:f rs=.exc x):zj f m env=.exc x:=by unfold zj;rw[h,bind_ok,g]
theorem Zf(ks:List Str):d8 (true,.lst (sT ks))=true/\tQ (true,.lst (sT ks))=true/\tR (true,.lst (sT ks))=true:=Pk ks
theorem M0(c:CA)(f:T){rs:List T}{ks:List Str}(g:Go c f [] rs ks)(hl:rs.length<100):v9 c [(false,f),(true,.lst rs)]=.ok (false,.tup [.lst (sT ks),.non,.bl true]):=by refine jr rfl ?_;unfold kS;refine(zh (zx rfl)).trans ((zh (zx rfl)).trans ((zh (zx rfl)).trans ?_));have q:=Zf ks;refine(zh (NY (vw (vF (vC ↑g (vC (vo rfl) rfl)) (W9 c f g hl)) (.inl rfl) (ww q.1 q.2.1 q.2.2)))).trans ?_;exact vb (vP (vC (vo rfl) (vC ↑g ↑M)) rfl rfl) rfl
theorem PB{i:Nat}{m:ME}{env:En}{x:Ex}(h:m (hide env)=.bad)(g:m env=.exc x)(hc:L3.clean env (false,x.at_)=true):zH i m env=.exc x env:=by unfold zH xj;rw[h];dsimp only;rw[g];dsimp only;rw[if_pos hc]
theorem PD(c:CA)(f:T){rs:List T}{ks:List Str}{r:T}(g:Go c f [] rs ks)(hl:rs.length<100)(hn:jk c [(false,f),↑ac,(false,r)]=.ok (false,.non)):v9 c [(false,f),(true,.lst (rs++[r]))]=.ok (false,.tup [.non,.int (rs.length:Int),.bl true]):=by refine jr rfl ?_;unfold kS;refine(zh (zx rfl)).trans ((zh (zx rfl)).trans ((zh (zx rfl)).trans ?_));have hk:=JB c f g hl hn;generalize(T.lst (rs++[r]))=L at hk;have hx:zH 2 (Iw c) [fv f,some (true,L),fv .non,fv .non,fv (.bl true),none]=.exc ⟨c.NoClient,.int (rs.length:Int)⟩ [fv f,some (true,L),fv .non,fv .non,fv (.bl true),none]:=PB rfl (Ho (vC ↑g (vC (vo rfl) rfl)) hk) (ww rfl rfl rfl);have hv:∀t:T,mV 5 (hide [fv f,some (true,L),fv .non,fv t,fv (.bl true),fv (.exn c.NoClient (.int (rs.length:Int)))])=.ok (false,.exn c.NoClient (.int (rs.length:Int))):=λ_=>vf rfl;have hh:Ix c.NoClient [fv f,some (true,L),fv .non,fv .non,fv (.bl true),fv (.exn c.NoClient (.int (rs.length:Int)))]=.nx [fv f,some (true,L),fv .non,fv (.int (rs.length:Int)),fv (.bl true),fv (.exn c.NoClient (.int (rs.length:Int)))]:=(zh (zx (Pz (hv _)))).trans (zx (av (cj (hv _)) (av (cj (hv _)) (IJ (cj (hv _))))));refine(zh ((NZ hx List.mem_cons_self).trans (congrArg (VI (some 5)) hh))).trans ?_;exact jp (vP (vC ↑g (vC ↑g ↑M)) rfl rfl)
def MJ(i:Nat)(w:String):MT:=vQ (zp kg (z9 (mV i) (z9 (mC (.ty w)) ze)))
theorem gv{i:Nat}{w:String}{env:En}{t:T}{b:Bool}(h:(hide env)[i]?=some (some ↑V))(e:kg [t,.ty w]=some (false,.bl b)):xq (MJ i w) env=.ok b:=by refine jm ?_;unfold MJ vQ;rw[show zp kg _ _=_ from vK (rs:=[↑V,(false,.ty w)]) (vC (vV h) (vC rfl rfl)) e];rfl
theorem Zg(n:Nat)(s:Str):j4 (n+1) [(false,.str s),(false,.str s)]=.ok ↑l:=by refine jr rfl ?_;refine(zh (zB (jm (vT (v2 rfl rfl rfl))))).trans ((zh (zB (gv rfl rfl))).trans ((zh (zB (gv rfl rfl))).trans (wv (gv rfl rfl) (jp ?_))));exact av (vK (vC rfl (vC rfl rfl)) rfl) (v2 rfl rfl ((fV s s).trans (by rw[decide_eq_true rfl])))
theorem Zh(n:Nat)(i:Int):j4 (n+1) [(false,.int i),(false,.int i)]=.ok ↑l:=by refine jr rfl ?_;refine(zh (zB (jm (vT (v2 rfl rfl rfl))))).trans ((zh (zB (gv rfl rfl))).trans (wv (gv rfl rfl) (jp ?_)));exact av (vK (vC rfl (vC rfl rfl)) rfl) (av (IJ (x:=false) (vK (vC rfl (vC rfl rfl)) rfl)) (v2 rfl rfl ((ut i i).trans (by rw[decide_eq_true rfl]))))
def Hs(al:MF):ME:=jh (qr (z9 (zp jH (z9 ↑U ze)) ze)) zX (zj al (z9 (m2 zA ↑U ↑E) (z9 (m2 zA (mV 2) ↑E) ze))) [0,1]
theorem Zi{n:Nat}:∀t∈kQ 0 n,∃i:Nat,i<n/\t=.int (i:Int):=by intro t ht;unfold kQ at ht;obtain⟨i,hi,rfl⟩:=List.mem_map.mp ht;exact⟨i,List.mem_range.mp hi,by simp⟩
theorem Zj(n:Nat){t:T}{ts:List T}(hr:t=.lst ts\/t=.tup ts)(hl:ts.length<100)(h:∀x∈ts,j4 n [(false,x),(false,x)]=.ok ↑l):j4 (n+1) [↑V,↑V]=.ok ↑l:=by
 refine jr rfl ?_;have hx:∀i:Nat,i<ts.length->∃x∈ts,zA t ↑z=some (false,x):=λi hi=>⟨ts[i],List.getElem_mem hi,by
  rcases hr with rfl|rfl;·rw[Wy,List.getElem?_eq_getElem hi];rfl
  ·rw[jt,List.getElem?_eq_getElem hi];rfl⟩;have hle:jH [t]=some (false,.int (ts.length:Int)):=by rcases hr with rfl|rfl<;>rfl
 have e0:bO t .non=some ↑T:=by rcases hr with rfl|rfl<;>rfl
 have e1:kg [t,.ty "bool"]=some ↑T:=by rcases hr with rfl|rfl<;>rfl
 have e2:kg [t,.ty "int"]=some ↑T:=by rcases hr with rfl|rfl<;>rfl
 have e3:kg [t,.ty "str"]=some ↑T:=by rcases hr with rfl|rfl<;>rfl
 have e4:∃b,kg [t,.ty "tuple"]=some (false,.bl b):=by rcases hr with rfl|rfl<;>exact⟨_,rfl⟩
 have e5:∃b,kg [t,.ty "list"]=some (false,.bl b):=by rcases hr with rfl|rfl<;>exact⟨_,rfl⟩
 obtain⟨b4,e4⟩:=e4;obtain⟨b5,e5⟩:=e5;have nb:∀b:Bool,qm (.bl b) (.bl b)=some ↑T:=λb=>by cases b<;>rfl
 refine(zh (zB (jm (vT (v2 ↑g rfl e0))))).trans ((zh (zB (gv rfl e1))).trans ((zh (zB (gv rfl e2))).trans ((zh (zB (gv rfl e3))).trans ((zh (zB (jm (ic (vT (v2 (vK (vC ↑g (vC rfl rfl)) e4) (vK (vC ↑g (vC rfl rfl)) e4) (nb b4))) (vT (v2 (vK (vC ↑g (vC rfl rfl)) e5) (vK (vC ↑g (vC rfl rfl)) e5) (nb b5))))))).trans ((zh (zB (jm (vT (v2 (vK ↑M hle) (vK ↑M hle) ((oP _ _).trans (by rw[decide_eq_true rfl];rfl))))))).trans (jp ?_))))));refine vK (rs:=[(true,.lst (List.replicate (kQ 0 ts.length).length (.bl true)))]) (vC ?_ rfl) (pU _);refine vz (lA (vC (vK ↑M hle) rfl) ↑c) (by rw[dW];omega) (ko _ λx hm=>?_);obtain⟨i,hi,rfl⟩:=Zi x hm;obtain⟨x,hxm,hx⟩:=hx i hi;exact⟨false,vF (vC (v2 ↑g ↑g hx) (vC (v2 ↑g ↑g hx) rfl)) (h x hxm)⟩
theorem Ki:xE [(false,.int 6),(false,.int 6)]=.ok ↑l:=Zh 7 6
theorem Kj(ps:List ↑s)(hl:ps.length<100):j4 8 [(false,.tup ↑P),(false,.tup ↑P)]=.ok ↑l:=Zj 7 (.inr rfl) (by rw[List.length_map];exact hl) λx hx=>by
  obtain⟨p,_,rfl⟩:=List.mem_map.mp hx;refine Zj 6 (.inr rfl) (show 2<100 by decide) λy hy=>?_;simp only[List.mem_cons,List.not_mem_nil,or_false]at hy;rcases hy with rfl|rfl;·exact Zg 5 _
  ·exact Zh 5 _
theorem JC{a b:MT}{env:En}{x y:Bool}(h:a env=.ok x)(g:x=false->b env=.ok y):wV a b env=.ok (x||y):=by cases x with|true=>exact NM h|false=>exact ic h (g rfl)
theorem Ia{m:MT}{env:En}{x:Bool}(h:m env=.ok x):jl m env=.ok (!x):=by unfold jl;rw[h];rfl
theorem aI{m:ME}{g:MG}{env e:En}{r:RV}(h:m (hide env)=.ok r)(hg:g r.2 env=some e):gZ m g env=.nx e:=by unfold gZ;rw[lz h];dsimp only;rw[hg]
theorem Kk(ns:List Str):ns.zip (ns.drop 1)=(List.range (ns.length-1)).map λj=>(ns.getD j "",ns.getD (j+1) ""):=by
 apply List.ext_getElem;·simp
 ·intro i h1 h2;simp only[List.length_zip,List.length_drop]at h1;have a:i<ns.length:=by omega
  have b:1+i<ns.length:=by omega
  simp[a,show i+1<ns.length by omega,Nat.add_comm 1 i]
theorem Zk{m:MA}{env:En}{i j:Int}(h:nq m env=.ok [.int i,.int j])(hi:-(2^62)<=i/\i<2^62)(hj:-(2^62)<=j/\j<2^62):uF m env=.ok (kQ i (j-i).toNat,env):=by unfold uF;rw[h];dsimp only;rw[if_pos ⟨hi,hj⟩]
theorem Wa(ps:List ↑s)(hl:ps.length<=100):uF (z9 ↑m (z9 (zp jH (z9 ↑E ze)) ze)) [fv (.tup ↑P),none]=.ok ((List.range (ps.length-1)).map λj:Nat=>T.int (1+(j:Int)),[fv (.tup ↑P),none]):=by
 refine(Zk (i:=1) (j:=(ps.length:Int)) ?_ ⟨by omega,by omega⟩ ⟨by omega,by omega⟩).trans ?_;·unfold nq;rw[show z9 ↑m (z9 (zp jH (z9 ↑E ze)) ze) (hide [fv (.tup ↑P),none])=.ok [(false,.int 1),(false,.int (ps.length:Int))]from vC rfl (vC (vK ↑M (show some (false,T.int ((ps.map zZ).length:Int))=_ by rw[List.length_map])) rfl)];rfl
 ·unfold kQ;rw[show((ps.length:Int)-1).toNat=ps.length-1 by omega]
theorem Qz{ps:List ↑s}{m:ME}{env:En}{b:Bool}{j:Nat}(h0:env[0]?=some (some (b,.tup ↑P)))(hm:m env=.ok (false,.int (j:Int)))(hj:j<ps.length):m2 zA (m2 zA ↑E m) ↑o env=.ok (false,.str ((zR ps).getD j "")):=by refine v2 (v2 (vV h0) hm (show zA (.tup ↑P) (.int (j:Int))=some (false,zZ ps[j])by rw[jt,List.getElem?_map,List.getElem?_eq_getElem hj];rfl)) rfl ((jt _ 0).trans ?_);unfold zR;simp[hj]
theorem ge_str(a b:Str):ZZ (.str a) (.str b)=some (false,.bl (!Wz (a,b))):=by unfold Wz;rfl
theorem M3{ps:List ↑s}{j:Nat}(hj:j+1<ps.length):m2 zA (m2 zA ↑E (m2 cX ↑U ↑m)) ↑o [fv (.tup ↑P),fv (.int (1+(j:Int)))]=.ok (false,.str ((zR ps).getD j "")):=Qz rfl (v2 ↑g rfl (by show some (false,T.int (1+(j:Int)-1))=_;rw[show 1+(j:Int)-1=j by omega])) ↑c
theorem M4{ps:List ↑s}{j:Nat}(hj:j+1<ps.length):m2 zA (m2 zA ↑E ↑U) ↑o [fv (.tup ↑P),fv (.int (1+(j:Int)))]=.ok (false,.str ((zR ps).getD (j+1) "")):=by have hv:mV 1 [fv (.tup ↑P),fv (.int (1+(j:Int)))]=.ok (false,.int (1+(j:Int))):=vf rfl;rw[show 1+(j:Int)=((j+1:Nat):Int)by omega]at hv⊢;exact Qz rfl hv hj
theorem M5{ps:List ↑s}{j:Nat}(hj:j+1<ps.length):xq (jX (m2 ZZ (m2 zA (m2 zA ↑E (m2 cX ↑U ↑m)) ↑o) (m2 zA (m2 zA ↑E ↑U) ↑o))) [fv (.tup ↑P),fv (.int (1+(j:Int)))]=.ok (!Wz ((zR ps).getD j "",(zR ps).getD (j+1) "")):=jm (vT (v2 (M3 hj) (M4 hj) (ge_str _ _)))
theorem Kl{ps:List ↑s}{j:Nat}(hj:j+1<ps.length):(Wz ((zR ps).getD j "",(zR ps).getD (j+1) "")=false->NJ [fv (.tup ↑P),fv (.int (1+(j:Int)))]=.rt ↑T)/\(Wz ((zR ps).getD j "",(zR ps).getD (j+1) "")=true->NJ [fv (.tup ↑P),fv (.int (1+(j:Int)))]=.nx [fv (.tup ↑P),fv (.int (1+(j:Int)))]):=by have ht:=M5 hj;exact⟨λh=>by rw[h]at ht;exact(wu ht).trans rfl,λh=>by rw[h]at ht;exact zB ht⟩
def M6(ns:List Str)(j:Nat):Bool:=!Wz (ns.getD j "",ns.getD (j+1) "")
theorem PF(ns:List Str):(List.range (ns.length-1)).any (M6 ns)=!kJ ns:=by unfold kJ;rw[Kk,List.all_map,List.not_all_eq_any_not];rfl
theorem Km{ps:List ↑s}{j:Nat}(hj:j∈List.range (ps.length-1))(o:Option RV):∃e1,gN 1 (T.int (1+(j:Int))) [fv (.tup ↑P),o]=some e1/\(M6 (zR ps) j=true->NJ e1=.rt ↑T)/\(M6 (zR ps) j=false->∃e2,NJ e1=.nx e2/\∃o,e2=[fv (.tup ↑P),o]):=by have hj':=List.mem_range.mp hj;obtain⟨t1,t2⟩:=Kl (ps:=ps) (j:=j) ↑c;unfold M6;refine⟨_,rfl,λh=>t1 (Bool.not_eq_true' _▸h),λh=>⟨_,t2 ?_,_,rfl⟩⟩;exact Bool.not_eq_false' _▸h
theorem qG{it:MI}{tg:MG}{mb:MS}{env e:En}{ts:List T}{o:YJ}(h:it env=.ok (ts,e))(g:jy tg mb ts e=o):wW it tg mb env=o:=by unfold wW;rw[h];exact g
theorem Wb(ps:List ↑s)(hl:ps.length<=100):kG [(false,.tup ↑P)]=.ok (false,.bl (kJ (zR ps))):=by
 refine jr rfl ?_;unfold uX;have key:=gu (I:=λenv=>∃o,env=[fv (.tup ↑P),o]) (λj:Nat=>T.int (1+(j:Int))) (M6 (zR ps)) (List.range (ps.length-1)) (λenv⟨o,hI⟩j hj=>by rw[hI];exact Km hj o) [fv (.tup ↑P),none] ⟨_,rfl⟩;have lf:(zR ps).length=ps.length:=by simp[zR]
 rw[<-lf,PF,lf]at key;cases hb:kJ (zR ps)with|false=>rw[hb]at key;exact ly (qG (Wa ps hl) (key.1 rfl))|true=>rw[hb]at key;obtain⟨e,h1,o,rfl⟩:=key.2 rfl;exact(zh (qG (Wa ps hl) h1)).trans rfl
def fT(k:Nat)(pl:List ↑i)(bk:Str)(fs:List Str):T:=.tup [.int (k:Int),.lst (pl.map wY),.str bk,.lst (sT fs)]
section
variable(k:Nat)(pl:List ↑i)(bk:Str)(fs:List Str)(xs:List Int)(ps cs:List ↑s)(ks:List Str)
def bE(r:List (Option RV)):En:=fv (fT k pl bk fs)::fv (cR "f" xs ps cs)::fv (.lst (sT ks))::fv (.int (k:Int))::fv (.lst (pl.map wY))::fv (.str bk)::fv (.lst (sT fs))::r
variable{k pl bk fs xs ps cs ks}
theorem PH(hp:ps.length<=50)(hc:cs.length<=50):xq IC (bE k pl bk fs xs ps cs ks [none,none,none,none,none,none,none,none])=.ok (!decide (xs.length<=k)||(!kJ (zR ps)||!kJ (zR cs))):=by
 refine jm (JC (vT (v2 (vK (vC (v2 ↑g rfl (jt _ 2)) rfl) (show jH [.tup (iL xs)]=some (false,.int ((iL xs).length:Int))from rfl)) ↑g (XR ?_))) λ_=>JC (aD (vF (vC (v2 ↑g rfl (jt _ 3)) rfl) (Wb ps ↑c))) λ_=>aD (vF (vC (v2 ↑g rfl (jt _ 4)) rfl) (Wb cs ↑c)));rw[show(iL xs).length=xs.length from List.length_map ..];by_cases h:xs.length<=k;·rw[decide_eq_true h];exact decide_eq_false ↑c
 ·rw[decide_eq_false h];exact decide_eq_true ↑c
def Ib(pl:List ↑i)(xs:List Int)(i:Nat):T:=.tup [.str (pl.getD i ("","",false)).1,.int (xs.getD i 0)]
theorem Kn(hx:xs.length<=pl.length):(List.range' 0 xs.length).map (Ib pl xs)=((pl.zip xs).map λq=>(q.1.1,q.2)).map zZ:=by
 apply List.ext_getElem;·simp;omega
 ·intro i h1 h2;simp only[List.length_map,List.length_range']at h1;have a:i<pl.length:=by omega
  simp[Ib,zZ,a,h1]
theorem PJ(hx:xs.length<=pl.length)(hl:pl.length+ps.length<=100)(r:List (Option RV)):ID (bE k pl bk fs xs ps cs ks r)=.ok (true,.lst ((pX pl xs ps).map zZ)):=by
 have h1:jh (qr (z9 (zp jH (z9 (m2 zA ↑U ↑I) ze)) ze)) zX (jJ (z9 (m2 zA (m2 zA ↑U ↑E) ↑o) (z9 (m2 zA (m2 zA (mV 2) ↑I) ↑E) ze))) [4,1] (bE k pl bk fs xs ps cs ks r)=.ok (true,.lst ((List.range' 0 xs.length).map (Ib pl xs))):=by
  refine K5 (vC (vK (vC (v2 ↑g rfl (jt _ 2)) rfl) (show some (false,T.int ((iL xs).length:Int))=_ by rw[show(iL xs).length=xs.length from List.length_map ..])) rfl) ↑c λi hi=>⟨false,?_⟩;have a:i<pl.length:=by omega
  have e1:zA (.lst (pl.map wY)) ↑z=some (false,wY (pl.getD i ("","",false))):=by rw[Wy,List.getElem?_map,List.getElem?_eq_getElem a];simp[a]
  have e2:zA (.tup (iL xs)) ↑z=some (false,.int (xs.getD i 0)):=by rw[jt,iL,List.getElem?_map,List.getElem?_eq_getElem hi];simp[hi]
  exact vP (vC (v2 (v2 ↑g ↑g e1) rfl (jt _ 0)) (vC (v2 (v2 ↑g rfl (jt _ 2)) ↑g e2) rfl)) rfl rfl
 rw[Kn hx]at h1;refine v2 h1 (vK (vC (v2 ↑g rfl (jt _ 3)) rfl) rfl) ((lG (by simp only[List.length_map,List.length_zip];have:=big;omega)).trans ?_);unfold pX;rw[List.map_append]
def qO(pl:List ↑i)(n:Str):List Str:=(pl.filter λp=>decide (p.1=n)).map (·.2.1)
theorem JD(n:Str):(qO pl n).head?=WA pl n:=by unfold qO WA;rw[List.head?_map,List.head?_filter];congr 1
theorem PK(hl:pl.length<=100){r:List (Option RV)}{n:Str}{b:Bool}(h:(bE k pl bk fs xs ps cs ks r)[9]?=some (some (b,.str n))):LN (bE k pl bk fs xs ps cs ks r)=.ok (true,.lst (sT (qO pl n))):=by have hc:=c1 (mt:=jX (m2 jn (m2 zA ↑E ↑o) ↑U)) (me:=m2 zA ↑E ↑m) (cs:=[some (b,.str n)]) wY (λp=>.str p.2.1) (λp=>decide (p.1=n)) pl (λp _=>vT (v2 (v2 ↑g rfl (jt _ 0)) (vV rfl) (fV _ _))) (λp _ _=>⟨false,v2 ↑g rfl (jt _ 1)⟩);refine(vz (aC ↑g) ↑ad ?_).trans (by unfold qO sT;rw[List.map_map]);rw[show kx (bE k pl bk fs xs ps cs ks r) [9]=[some (b,.str n)]by show[((bE k pl bk fs xs ps cs ks r)[9]?).getD none]=_;rw[h];rfl];exact hc
theorem PL(l:List Str):jn (.lst (sT l)) (.lst [])=some (false,.bl l.isEmpty):=by cases l<;>rfl
theorem Wc{r:List (Option RV)}{x:Int}{b:Bool}(h:(bE k pl bk fs xs ps cs ks r)[10]?=some (some (b,.int x))):Mx (bE k pl bk fs xs ps cs ks r)=.ok (!cg (ks.length:Int) x):=Ia (vT (W5 rfl (vV h) (vK ↑M (fW ks))))
def nG(pl:List ↑i)(ks:List Str)(p:Str×Int):Bool:=cg (ks.length:Int) p.2&&nC pl ks p
theorem PM{o7 o8:Option RV}{n:Str}{x:Int}{r:List (Option RV)}:LO (bE k pl bk fs xs ps cs ks (o7::o8::fv (.str n)::fv (.int x)::some (true,.lst (sT (qO pl n)))::r))=.ok (!nG pl ks (n,x)):=by have h0:jX (m2 jn (mV 11) (xK ze)) (bE k pl bk fs xs ps cs ks (o7::o8::fv (.str n)::fv (.int x)::some (true,.lst (sT (qO pl n)))::r))=.ok (qO pl n).isEmpty:=vT (v2 (vo rfl) (vL rfl rfl rfl) (PL _));have h1:=Wc (k:=k) (pl:=pl) (bk:=bk) (fs:=fs) (xs:=xs) (ps:=ps) (cs:=cs) (ks:=ks) (r:=o7::o8::fv (.str n)::fv (.int x)::some (true,.lst (sT (qO pl n)))::r) rfl;have hd:=JD (pl:=pl) n;unfold nG nC;dsimp only;rw[<-hd];cases hs:qO pl n with|nil=>rw[hs]at h0;refine(NM h0).trans ?_;simp|cons y l=>
  rw[hs]at h0 h1;refine(ic h0 (JC h1 (y:=!decide (y=Pv ks x)) λhb=>?_)).trans ?_
  ·have hin:cg (ks.length:Int) x=true:=by simpa using hb
   refine vT (p:=false) (v2 (v2 ↑g ↑g (Kh hin)) (v2 (vo rfl) rfl (Wy _ 0)) ((XT _ _).trans ?_));congr 4;exact decide_eq_decide.mpr eq_comm
  ·simp
def oL(b:Bool)(bs:List ↑s):T:=if b=true then .tup (bs.map zZ)else .non
end
section
variable{k:Nat}{pl:List ↑i}{bk:Str}{fs:List Str}{xs:List Int}{ps cs:List ↑s}{ks:List Str}
theorem Ko(hl:pl.length<=100){B:List T}{N:T}{n:Str}{x:Int}{o11 o12 o13 o14:Option RV}(h:hide [o11,o12,o13,o14]=[none,o12,o13,o14]\/True):(nG pl ks (n,x)=false->NK (bE k pl bk fs xs ps cs ks [fv (.lst B),some (true,N),fv (.str n),fv (.int x),o11,none,none,none])=.rt (false,.non))/\(nG pl ks (n,x)=true->NK (bE k pl bk fs xs ps cs ks [fv (.lst B),some (true,N),fv (.str n),fv (.int x),o11,none,none,none])=.nx ↑Z):=by
 have hs:zH 11 LN (bE k pl bk fs xs ps cs ks [fv (.lst B),some (true,N),fv (.str n),fv (.int x),o11,none,none,none])=.nx ↑Z:=zx (PK hl rfl);have ht:xq LO ↑Z=.ok (!nG pl ks (n,x)):=xF rfl PM;refine⟨λhf=>?_,λhf=>?_⟩;·rw[hf]at ht;exact(zh hs).trans ((wu ht).trans rfl)
 ·rw[hf]at ht;exact(zh hs).trans (zB ht)
theorem Kp(hl:pl.length<=100)(B:List T)(N:T)(bs:List ↑s):(bs.all (nG pl ks)=false->jy gA NK (bs.map zZ) (bE k pl bk fs xs ps cs ks [fv (.lst B),some (true,N),none,none,none,none,none,none])=.rt (false,.non))/\(bs.all (nG pl ks)=true->∃o9 o10 o11,jy gA NK (bs.map zZ) (bE k pl bk fs xs ps cs ks [fv (.lst B),some (true,N),none,none,none,none,none,none])=.nx (bE k pl bk fs xs ps cs ks [fv (.lst B),some (true,N),o9,o10,o11,none,none,none])):=by have key:=gu (tg:=gA) (I:=λenv=>∃o9 o10 o11,env=bE k pl bk fs xs ps cs ks [fv (.lst B),some (true,N),o9,o10,o11,none,none,none]) zZ (λp=>!nG pl ks p) bs (λenv⟨o9,o10,o11,hI⟩p hp=>by rw[hI];obtain⟨t1,t2⟩:=Ko hl (o12:=none) (o13:=none) (o14:=none) (.inr trivial);exact⟨bE k pl bk fs xs ps cs ks [fv (.lst B),some (true,N),fv (.str p.1),fv (.int p.2),o11,none,none,none],rfl,λh=>t1 (by simpa using h),λh=>⟨_,t2 (by simpa using h),_,_,_,rfl⟩⟩) _ ⟨none,none,none,rfl⟩;rw[<-List.not_all_eq_any_not]at key;refine⟨λh=>key.1 (by rw[h];rfl),λh=>?_⟩;obtain⟨e,h1,o9,o10,o11,rfl⟩:=key.2 (by rw[h];rfl);exact⟨o9,o10,o11,h1⟩
def ck(bs:List ↑s)(p:Str×Str×Bool):Bool:=p.2.2&&!decide (p.1∈zR bs)
theorem Wd(z:Str)(ys:List Str):uB (.str z) (.lst (sT ys))=some (false,.bl (!decide (z∈ys))):=by have h:=W2 z ys;unfold qQ at h;unfold uB;cases e:Ve (.str z) (.lst (sT ys))with|none=>rw[e]at h;cases h|some b=>rw[e]at h;cases h;rfl
theorem Kq(B:List T)(bs:List ↑s)(o9 o10 o11:Option RV):(pl.any (ck bs)=true->jy gB My (pl.map wY) (bE k pl bk fs xs ps cs ks [fv (.lst B),some ↑y,o9,o10,o11,none,none,none])=.rt (false,.non))/\(pl.any (ck bs)=false->∃o9' o12 o13,jy gB My (pl.map wY) (bE k pl bk fs xs ps cs ks [fv (.lst B),some ↑y,o9,o10,o11,none,none,none])=.nx (bE k pl bk fs xs ps cs ks [fv (.lst B),some ↑y,o9',o10,o11,o12,o13,none])):=by
 have key:=gu (tg:=gB) (mb:=My) (I:=λenv=>∃o9' o12 o13,env=bE k pl bk fs xs ps cs ks [fv (.lst B),some ↑y,o9',o10,o11,o12,o13,none]) wY (ck bs) pl (λenv⟨o9',o12,o13,hI⟩p hp=>by
  rw[hI];obtain⟨n,kd,d⟩:=p;have ht:xq (qW (vQ (mV 13)) (jX (m2 uB (mV 9) (mV 8)))) (bE k pl bk fs xs ps cs ks [fv (.lst B),some ↑y,fv (.str n),o10,o11,fv (.str kd),fv (.bl d),none])=.ok (ck bs (n,kd,d)):=by cases d with|false=>exact jm rfl|true=>exact xF rfl (Qt rfl (vT (v2 ↑g (vo rfl) (Wd n (zR bs)))))
  exact⟨bE k pl bk fs xs ps cs ks [fv (.lst B),some ↑y,fv (.str n),o10,o11,fv (.str kd),fv (.bl d),none],rfl,λh=>by rw[h]at ht;exact(wu ht).trans rfl,λh=>⟨_,by rw[h]at ht;exact zB ht,_,_,_,rfl⟩⟩) _ ⟨o9,none,none,rfl⟩;refine⟨key.1,λh=>?_⟩;obtain⟨e,h1,a,b,c,rfl⟩:=key.2 h;exact⟨a,b,c,h1⟩
def Kr(bk:Str)(fs ks:List Str)(p:Str×Int):Bool:=cg (ks.length:Int) p.2&&WB bk fs ks p
theorem Ks(B:List T)(N:T)(o9 o10 o11 o12 o13:Option RV):(cs.all (Kr bk fs ks)=false->jy gC Mz (cs.map zZ) (bE k pl bk fs xs ps cs ks [fv (.lst B),some (true,N),o9,o10,o11,o12,o13,none])=.rt (false,.non))/\(cs.all (Kr bk fs ks)=true->∃o10' o14,jy gC Mz (cs.map zZ) (bE k pl bk fs xs ps cs ks [fv (.lst B),some (true,N),o9,o10,o11,o12,o13,none])=.nx (bE k pl bk fs xs ps cs ks [fv (.lst B),some (true,N),o9,o10',o11,o12,o13,o14])):=by
 have key:=gu (tg:=gC) (mb:=Mz) (I:=λenv=>∃o10' o14,env=bE k pl bk fs xs ps cs ks [fv (.lst B),some (true,N),o9,o10',o11,o12,o13,o14]) zZ (λp=>!Kr bk fs ks p) cs (λenv⟨o10',o14,hI⟩p hp=>by
  rw[hI];obtain⟨n,x⟩:=p;have ht:xq (wV (jX (m2 uB (mV 14) (mV 6))) (wV Mx (jX (m2 qm (m2 zA (mV 2) (mV 10)) (mV 5))))) (bE k pl bk fs xs ps cs ks [fv (.lst B),some (true,N),o9,fv (.int x),o11,o12,o13,fv (.str n)])=.ok (!Kr bk fs ks (n,x)):=by
   have h1:=Wc (k:=k) (pl:=pl) (bk:=bk) (fs:=fs) (xs:=xs) (ps:=ps) (cs:=cs) (ks:=ks) (r:=[fv (.lst B),none,xU o9,fv (.int x),xU o11,xU o12,xU o13,fv (.str n)]) rfl;refine(jm (b:=(!decide (n∈fs))||(!cg (ks.length:Int) x||!decide (Pv ks x=bk))) (JC (vT (v2 ↑g ↑g (Wd n fs))) λ_=>JC h1 λhb=>?_)).trans ?_
   ·have hin:cg (ks.length:Int) x=true:=by simpa using hb
    exact vT (v2 (v2 ↑g ↑g (Kh hin)) ↑g (XT _ _))
   ·unfold Kr WB;dsimp only;cases decide (n∈fs)<;>cases cg (ks.length:Int) x<;>cases decide (Pv ks x=bk)<;>rfl
  exact⟨bE k pl bk fs xs ps cs ks [fv (.lst B),some (true,N),o9,fv (.int x),o11,o12,o13,fv (.str n)],rfl,λh=>by rw[h]at ht;exact(wu ht).trans rfl,λh=>⟨_,by rw[h]at ht;exact zB ht,_,_,rfl⟩⟩) _ ⟨o10,none,rfl⟩;rw[<-List.not_all_eq_any_not]at key;refine⟨λh=>key.1 (by rw[h];rfl),λh=>?_⟩;obtain⟨e,h1,a,b,rfl⟩:=key.2 (by rw[h];rfl);exact⟨a,b,h1⟩
end
def PN(k:Nat)(pl:List ↑i)(bk:Str)(fs:List Str)(xs:List Int)(ps cs:List ↑s)(ks:List Str):Bool:=decide (xs.length<=k)&&(kJ (zR ps)&&(kJ (zR cs)&&(aE (zR (pX pl xs ps))&&((pX pl xs ps).all (nG pl ks)&&(!pl.any (ck (pX pl xs ps))&&cs.all (Kr bk fs ks))))))
theorem PP{k:Nat}{pl:List ↑i}{bk:Str}{fs:List Str}{xs:List Int}{ps cs:List ↑s}{ks:List Str}(hk:k<=pl.length)(hl:pl.length+xs.length+ps.length+cs.length<=50):k4 [(false,fT k pl bk fs),(false,cR "f" xs ps cs),↑ac]=.ok (false,oL (PN k pl bk fs xs ps cs ks) (pX pl xs ps)):=by refine jr rfl ?_;unfold pR;refine(zh (aI ↑g rfl)).trans ?_;have h1:=PH (k:=k) (pl:=pl) (bk:=bk) (fs:=fs) (xs:=xs) (ps:=ps) (cs:=cs) (ks:=ks) ↑c ↑c;unfold PN;cases hb1:decide (xs.length<=k)with|false=>rw[hb1]at h1;exact wv h1 rfl|true=>rw[hb1]at h1;have hxk:=of_decide_eq_true hb1;cases hb2:kJ (zR ps)with|false=>rw[hb2]at h1;exact wv h1 rfl|true=>rw[hb2]at h1;cases hb3:kJ (zR cs)with|false=>rw[hb3]at h1;exact wv h1 rfl|true=>
 rw[hb3]at h1;refine(zh (zB h1)).trans ?_;have hbl:=ci pl xs ps;have lf:(zR (pX pl xs ps)).length=(pX pl xs ps).length:=by simp[zR]
 generalize hB:pX pl xs ps=bs at hbl lf;refine(zh (e':=bE k pl bk fs xs ps cs ks [some (true,.lst (bs.map zZ)),none,none,none,none,none,none,none]) (zx (by rw[<-hB];exact PJ (r:=[none,none,none,none,none,none,none,none]) ↑c ↑c))).trans ?_;have hc:=Qx (mt:=zX) (me:=mV 0) (cs:=[]) rfl zZ (λp=>.str p.1) (λp=>.int p.2) (λp=>.str p.1) (λ_=>true) (λ_=>rfl) bs (λ_ _=>rfl) (λp _ _=>⟨false,vf rfl⟩) none none;rw[jx]at hc;have hns:IE (bE k pl bk fs xs ps cs ks [some (true,.lst (bs.map zZ)),none,none,none,none,none,none,none])=.ok ↑y:=by refine(k6 (aC (vo rfl)) ↑ad hc).trans ?_;unfold sT zR;rw[List.map_map];rfl
 have q:=Zf (zR bs);refine(zh (e':=bE k pl bk fs xs ps cs ks [some (true,.lst (bs.map zZ)),some ↑y,none,none,none,none,none,none]) (vw hns (.inl rfl) (ww q.1 q.2.1 q.2.2))).trans ?_;have h2:xq IF (bE k pl bk fs xs ps cs ks [some (true,.lst (bs.map zZ)),some ↑y,none,none,none,none,none,none])=.ok (!aE (zR bs)):=by
  refine xF rfl (vT (p:=false) (v2 (eD (vo rfl) ↑c) (vK (vC (vo rfl) rfl) (fW _)) (K2 ?_)));unfold aE;have:=Ke (zR bs);by_cases h:(vO (zR bs)).length=(zR bs).length;·rw[decide_eq_true h];exact decide_eq_false ↑c
  ·rw[decide_eq_false h];exact decide_eq_true ↑c
 cases hb4:aE (zR bs)with|false=>rw[hb4]at h2;exact wv h2 rfl|true=>rw[hb4]at h2;refine(zh (zB h2)).trans ?_;obtain⟨a1,a2⟩:=Kp (k:=k) (pl:=pl) (bk:=bk) (fs:=fs) (xs:=xs) (ps:=ps) (cs:=cs) (ks:=ks) ↑c (bs.map zZ) (.lst (sT (zR bs))) bs;cases hb5:bs.all (nG pl ks)with|false=>exact ly (qG (ts:=bs.map zZ) (e:=bE k pl bk fs xs ps cs ks [fv (.lst (bs.map zZ)),some ↑y,none,none,none,none,none,none]) rfl (a1 hb5))|true=>obtain⟨o9,o10,o11,a2⟩:=a2 hb5;refine(zh (qG (ts:=bs.map zZ) (e:=bE k pl bk fs xs ps cs ks [fv (.lst (bs.map zZ)),some ↑y,none,none,none,none,none,none]) rfl a2)).trans ?_;obtain⟨c1,c2⟩:=Kq (k:=k) (pl:=pl) (bk:=bk) (fs:=fs) (xs:=xs) (ps:=ps) (cs:=cs) (ks:=ks) (bs.map zZ) bs o9 o10 o11;cases hb6:pl.any (ck bs)with|true=>exact ly (qG (ts:=pl.map wY) (e:=bE k pl bk fs xs ps cs ks [fv (.lst (bs.map zZ)),some ↑y,o9,o10,o11,none,none,none]) rfl (c1 hb6))|false=>obtain⟨o9',o12,o13,c2⟩:=c2 hb6;refine(zh (qG (ts:=pl.map wY) (e:=bE k pl bk fs xs ps cs ks [fv (.lst (bs.map zZ)),some ↑y,o9,o10,o11,none,none,none]) rfl c2)).trans ?_;obtain⟨d1,d2⟩:=Ks (k:=k) (pl:=pl) (bk:=bk) (fs:=fs) (xs:=xs) (ps:=ps) (cs:=cs) (ks:=ks) (bs.map zZ) (.lst (sT (zR bs))) o9' o10 o11 o12 o13;cases hb7:cs.all (Kr bk fs ks)with|false=>exact ly (c8 (b:=false) (v2 (vf (t:=cR "f" xs ps cs) rfl) rfl (jt _ 4)) (d1 hb7))|true=>obtain⟨o10',o14,d2⟩:=d2 hb7;refine(zh (c8 (b:=false) (v2 (vf (t:=cR "f" xs ps cs) rfl) rfl (jt _ 4)) d2)).trans ?_;exact jp (vK (vC (vf (t:=.lst (bs.map zZ)) rfl) rfl) rfl)
theorem Zl{pl:List ↑i}(hn:(pl.map (·.1)).Nodup){n kd:Str}:WA pl n=some kd↔∃d,(n,kd,d)∈pl:=by induction pl with|nil=>simp[WA]|cons p pl ih=>
  have hn':=List.nodup_cons.mp hn;unfold WA at ih⊢;by_cases e:p.1=n
  ·rw[List.find?_cons_of_pos (by simpa using e)];obtain⟨a,b,d⟩:=p;have e:a=n:=e;subst e;constructor;·intro h;have h:b=kd:=Option.some.inj h;exact⟨d,by rw[h];exact List.mem_cons_self⟩
   ·rintro⟨d',h⟩;rcases List.mem_cons.mp h with h|h;·cases h;rfl
    ·exact absurd (List.mem_map.mpr ⟨_,h,rfl⟩) hn'.1
  ·rw[List.find?_cons_of_neg (by simpa using e),ih hn'.2];constructor;·rintro⟨d,h⟩;exact⟨d,List.mem_cons_of_mem _ h⟩
   ·rintro⟨d,h⟩;rcases List.mem_cons.mp h with h|h;·exact absurd (by rw[<-h]) e
    ·exact⟨d,h⟩
theorem We{pl pl':List ↑i}(p:pl'.Perm pl)(hn:(pl.map (·.1)).Nodup)(n:Str):WA pl' n=WA pl n:=by have hn':(pl'.map (·.1)).Nodup:=(p.map _).nodup_iff.mpr hn;refine Option.ext λkd=>?_;rw[Zl hn',Zl hn];exact exists_congr λd=>p.mem_iff
theorem lH{pl pl':List ↑i}{k:Nat}(ht:pl'.take k=pl.take k){xs:List Int}(hx:xs.length<=k)(ps:List ↑s):pX pl' xs ps=pX pl xs ps:=by
 have h:∀l:List ↑i,l.zip xs=(l.take k).zip xs:=λl=>by
  apply List.ext_getElem?;intro i;by_cases hi:i<k;·simp[List.getElem?_zip_eq_some,List.zip,List.getElem?_zipWith,List.getElem?_take,hi]
  ·have:xs[i]?=none:=List.getElem?_eq_none ↑c;simp[List.zip,List.getElem?_zipWith,this]
 unfold pX;rw[h pl',h pl,ht]
theorem PR{pl:List ↑i}{xs:List Int}(hx:xs.length<=pl.length)(ps:List ↑s){x:Int}(h:x∈xs):∃p∈pX pl xs ps,p.2=x:=by rw[<-List.map_snd_zip hx]at h;obtain⟨q,hq,rfl⟩:=List.mem_map.mp h;exact⟨(q.1.1,q.2),List.mem_append_left _ (List.mem_map.mpr ⟨q,hq,rfl⟩),rfl⟩
theorem Wf{k:Nat}{pl pl':List ↑i}{bk:Str}{fs fs':List Str}(xs:List Int)(ps cs:List ↑s)(ks:List Str)(hk:k<=pl.length)(p:pl'.Perm pl)(ht:pl'.take k=pl.take k)(pf:fs'.Perm fs)(hn:(pl.map (·.1)).Nodup):(eB (ks.length:Int) xs ps cs&&NW k pl' bk fs' ks xs ps cs)=PN k pl bk fs xs ps cs ks:=by
 rw[Bool.eq_iff_iff];unfold eB NW Uq PN;simp only[Bool.and_eq_true,List.all_eq_true,decide_eq_true_iff,Bool.not_eq_true'];have hf:∀q,nC pl' ks q=nC pl ks q:=λq=>by unfold nC;rw[We p hn]
 have hg:∀q,WB bk fs' ks q=WB bk fs ks q:=λq=>by unfold WB;rw[decide_eq_decide.mpr (pf.mem_iff)]
 have hd:∀bs:List ↑s,(∀x∈pl'.filter (·.2.2),x.1∈zR bs)↔pl.any (ck bs)=false:=λbs=>by
  rw[List.any_eq_false];constructor;·intro h x hx hd;unfold ck at hd;rw[Bool.and_eq_true,Bool.not_eq_true',decide_eq_false_iff_not]at hd;exact hd.2 (h x (List.mem_filter.mpr ⟨p.mem_iff.mpr hx,hd.1⟩))
  ·intro h x hx;obtain⟨h1,h2⟩:=List.mem_filter.mp hx;refine Classical.byContradiction λhc=>h x (p.mem_iff.mp h1) ?_;unfold ck;rw[Bool.and_eq_true,Bool.not_eq_true',decide_eq_false_iff_not];exact⟨h2,hc⟩
 constructor
 ·rintro⟨⟨hr,h1,h2⟩,hx,⟨h3,h4,h5⟩,h6⟩;rw[lH ht hx]at h3 h4 h5;refine⟨hx,h1,h2,h3,λq hq=>?_,(hd _).mp h5,λq hq=>?_⟩
  ·unfold nG;rw[Bool.and_eq_true,<-hf];refine⟨?_,h4 q hq⟩;rcases Zc hq with h|h;·exact hr _ (List.mem_append_left _ (List.mem_append_left _ h))
   ·exact hr _ (List.mem_append_left _ (List.mem_append_right _ (List.mem_map_of_mem h)))
  ·unfold Kr;rw[Bool.and_eq_true,<-hg];exact⟨hr _ (List.mem_append_right _ (List.mem_map_of_mem hq)),h6 q hq⟩
 ·rintro⟨hx,h1,h2,h3,h4,h5,h6⟩;have h4':∀q∈pX pl xs ps,cg (ks.length:Int) q.2=true/\nC pl ks q=true:=λq hq=>by have:=h4 q hq;unfold nG at this;rwa[Bool.and_eq_true]at this
  have h6':∀q∈cs,cg (ks.length:Int) q.2=true/\WB bk fs ks q=true:=λq hq=>by have:=h6 q hq;unfold Kr at this;rwa[Bool.and_eq_true]at this
  rw[lH ht hx];refine⟨⟨λx hm=>?_,h1,h2⟩,hx,⟨h3,λq hq=>by rw[hf];exact(h4' q hq).2,(hd _).mpr h5⟩,λq hq=>by rw[hg];exact(h6' q hq).2⟩;rcases List.mem_append.mp hm with hm|hm
  ·rcases List.mem_append.mp hm with hm|hm;·obtain⟨q,hq,rfl⟩:=PR (pl:=pl) ↑c ps hm;exact(h4' q hq).1
   ·obtain⟨q,hq,rfl⟩:=List.mem_map.mp hm;exact(h4' q (List.mem_append_right _ hq)).1
  ·obtain⟨q,hq,rfl⟩:=List.mem_map.mp hm;exact(h6' q hq).1
theorem pW{n:Nat}:∀{ts:List T},(∀t∈ts,(kC t).length<=n)->(strsL ts).length<=n*ts.length|[],_=>by simp[strsL]|t::ts,h=>by have h1:=h t List.mem_cons_self;have h2:=pW λu hu=>h u (List.mem_cons_of_mem _ hu);unfold strsL;rw[List.length_append,List.length_cons,Nat.mul_succ];omega
theorem Wg{R:List T->Prop}{ts:List T}(hR:∀r,R r->strsL r=[])(h:oJ (aB R) ts):(strsL ts).length<=24:=by
 have:=pW (n:=2) λt ht=>by obtain⟨y,kd,r,rfl,_,_,hr⟩:=h.2.2 t ht;simp[kC,strsL,hR r hr]
 have:=h.1;omega
theorem Wh{ts:List T}(h:oJ Um ts):(strsL ts).length<=12:=by
 have:=pW (n:=1) λt ht=>by obtain⟨y,rfl,_⟩:=h.2.2 t ht;simp[kC]
 have:=h.1;omega
theorem Kt:∀r,RP r->strsL r=[]:=λr h=>by obtain⟨d,rfl⟩:=h;rfl
theorem Ku:∀{d:D},d.ok->(kC d.t).length<=100|.rc ..,h=>h.elim|.ch ..,h=>h.elim|.fn z qs ps kd fs,h=>by have:=Wg Kt h.2.2.1;have:=Wh h.2.2.2;simp only[D.t,kC,strsL,List.length_append,List.length_cons,List.length_nil];omega
theorem Wi{ds:List D}(ok:∀d∈ds,d.ok)(hl:ds.length<=13):(strsL (ds.map D.t)).length<sizeLine:=by
 have:=pW (ts:=ds.map D.t) λt ht=>by obtain⟨d,hd,rfl⟩:=List.mem_map.mp ht;exact Ku (ok d hd)
 rw[List.length_map]at this;have h2:2000<sizeLine:=by decide
 omega
def M7(c:CA)(es:List D):T:=.obj c.Face ["told_kinds","told_functions"] [.dct (Kb es false) (Kc es false),.dct (Kb es true) (Kc es true)]
theorem PU(c:CA){ds:List D}(ok:∀d∈ds,d.ok)(hA:Z6 ds)(hl:ds.length<=13)(hz:(strsL (ds.map D.t)).length<sizeLine){m:ME}{env:En}{b:Bool}(h:m env=.ok (b,.lst (ds.map D.t))):g9 c.Face (jj c) (z9 m ze) env=.ok (false,M7 c ds):=by rw[<-(show g9 c.Face (jj c) (z9 ↑E ze) [some (true,.lst (ds.map D.t))]=.ok (false,M7 c ds)from Pr c ok hA hl hz rfl)];have e1:z9 m ze env=.ok [(b,.lst (ds.map D.t))]:=vC h rfl;have e2:z9 ↑E ze [some (true,.lst (ds.map D.t))]=.ok [(false,.lst (ds.map D.t))]:=rfl;unfold g9;rw[e1,e2,bind_ok,bind_ok];rfl
def PV:List Str:=["at","by","of","zed"]
def M8:List Str:=["num","word","bare"]
def Zm:List Str:=["num","word","bare","#4.ok"]
def PX:List Str:=["gone","late"]
theorem PY{z:Str}(h:z∈PV):Nm z:=by unfold PV at h;simp only[List.mem_cons,List.not_mem_nil,or_false]at h;rcases h with rfl|rfl|rfl|rfl<;>(unfold Nm;kernel_rfl)
theorem PZ{z:Str}(h:z∈PX):Nm z:=by unfold PX at h;simp only[List.mem_cons,List.not_mem_nil,or_false]at h;rcases h with rfl|rfl<;>(unfold Nm;kernel_rfl)
theorem oQ{z:Str}(h:z∈Zm):Kd z:=by unfold Zm at h;simp only[List.mem_cons,List.not_mem_nil,or_false]at h;rcases h with rfl|rfl|rfl|rfl<;>(unfold Kd;kernel_rfl)
theorem Wj{z:Str}(h:z∈M8):z∈Zm:=by unfold M8 at h;unfold Zm;simp only[List.mem_cons,List.not_mem_nil,or_false]at h⊢;rcases h with h|h|h<;>simp[h]
structure qH(k:Nat)(pl:List ↑i)(bk:Str)(fs:List Str):Prop where
 kl:k<=pl.length
 len:pl.length<=4
 nd:(pl.map (·.1)).Nodup
 mem:∀p∈pl,p.1∈PV/\p.2.1∈M8
 bk:bk∈Zm
 fl:fs.length<=2
 fnd:fs.Nodup
 fm:∀f∈fs,f∈PX
def dF(k:Nat)(pl:List ↑i)(bk:Str)(fs:List Str):D:=.fn "f" ((pl.take k).map wY) ((pl.drop k).map wY) bk (sT fs)
def dB:D:=.fn "b" [] [] "bare" []
theorem Ic{k:Nat}{pl:List ↑i}{bk:Str}{fs:List Str}(hk:k<=pl.length):(dF k pl bk fs).t=SP "f" k pl bk fs:=by show T.tup [.str "function",.str "f",.int (((pl.take k).map wY).length:Nat),.tup ((pl.take k).map wY++(pl.drop k).map wY),.str bk,.tup (sT fs)]=_;rw[List.length_map,List.length_take,Nat.min_eq_left hk,<-List.map_append,List.take_append_drop];rfl
theorem U0(l:List ↑i):(l.map wY).map c7=l.map (·.1):=by rw[List.map_map];rfl
theorem M9{k:Nat}{pl:List ↑i}{bk:Str}{fs:List Str}(h:qH k pl bk fs):(dF k pl bk fs).ok:=by
 refine⟨(by unfold Nm;kernel_rfl),oQ h.bk,⟨?_,?_,λt ht=>?_⟩,⟨?_,?_,λt ht=>?_⟩⟩;·rw[<-List.map_append,List.take_append_drop,List.length_map];have:=h.len;omega
 ·rw[<-List.map_append,List.take_append_drop,U0];exact h.nd
 ·rw[<-List.map_append,List.take_append_drop]at ht;obtain⟨p,hp,rfl⟩:=List.mem_map.mp ht;obtain⟨h1,h2⟩:=h.mem p hp;exact⟨p.1,p.2.1,[.bl p.2.2],rfl,PY h1,oQ (Wj h2),_,rfl⟩
 ·rw[uu];have:=h.fl;omega
 ·rw[show(sT fs).map c7=fs by unfold sT;rw[List.map_map];exact List.map_id fs];exact h.fnd
 ·obtain⟨f,hf,rfl⟩:=List.mem_map.mp ht;exact⟨f,rfl,PZ (h.fm f hf)⟩
theorem Ma:dB.ok:=⟨(by unfold Nm;kernel_rfl),oQ ↑K,⟨by decide,List.nodup_nil,λt h=>nomatch h⟩,⟨by decide,List.nodup_nil,λt h=>nomatch h⟩⟩
theorem Wk(c:CA){k:Nat}{pl:List ↑i}{bk:Str}{fs:List Str}(h:qH k pl bk fs):∃pl' fs',pl'.Perm pl/\pl'.take k=pl.take k/\fs'.Perm fs/\∀{m:ME}{env:En}{b:Bool},m env=.ok (b,.lst [SP "f" k pl bk fs,dB.t])->g9 c.Face (jj c) (z9 m ze) env=.ok (false,FO c (SP "f" k pl' bk fs') (SP "b" 0 [] "bare" [])):=by
 have ok:∀d∈[dF k pl bk fs,dB],d.ok:=λd hd=>by
  simp only[List.mem_cons,List.not_mem_nil,or_false]at hd;rcases hd with rfl|rfl;·exact M9 h
  ·exact Ma
 have hA:Z6 [dF k pl bk fs,dB]:=by refine .cons (λe he _=>?_) (.cons (λe he=>nomatch he) .nil);obtain rfl:=List.mem_singleton.mp he;show("f":Str)≠"b";decide+kernel
 obtain⟨ys,py,ey⟩:=kI (xV ((pl.drop k).map wY));obtain⟨gs,pg,eg⟩:=kI (xV (fs.map T.str));have lt:(pl.take k).length=k:=by rw[List.length_take,Nat.min_eq_left h.kl]
 refine⟨pl.take k++ys,gs,?_,?_,pg,λ{m env b}hm=>?_⟩;·have:=List.Perm.append_left (pl.take k) py;rwa[List.take_append_drop]at this
 ·rw[List.take_append_of_le_length ↑c,List.take_take,Nat.min_self]
 ·have e:[SP "f" k pl bk fs,dB.t]=[dF k pl bk fs,dB].map D.t:=by rw[List.map_cons,Ic h.kl];rfl
  rw[e]at hm;refine(PU c ok hA (show 2<=13 by decide) (Wi ok (show 2<=13 by decide)) hm).trans ?_;show kN.ok (false,FO c (dF k pl bk fs).st.t dB.st.t)=_;have e1:(dF k pl bk fs).st.t=SP "f" k (pl.take k++ys) bk gs:=by show T.tup [.str "function",.str "f",.int (((pl.take k).map wY).length:Nat),.tup ((pl.take k).map wY++wg ((pl.drop k).map wY)),.str bk,.tup (wg (sT fs))]=_;rw[<-ey,show wg (sT fs)=gs.map T.str from eg.symm,<-List.map_append,List.length_map,lt];rfl
  rw[e1];rfl
theorem QA{a:Int}(b:Int)(h:-(2^64)<a/\a<2^64):cY (.int a) (.int b)=some (false,.int (a*b)):=if_pos (.inl h)
theorem Mb(a:Int){b:Int}(h:-(2^64)<b/\b<2^64):cY (.int a) (.int b)=some (false,.int (a*b)):=if_pos (.inr h)
theorem Mc(a:Int){b:Int}(h:0<b/\b<1073741824):kP (.int a) (.int b)=some (false,.int (a/b)):=if_pos h
theorem aJ(c k:Int):∃n:Nat,vZ [(false,.int c),(false,.int k)]=.ok (false,.int (n:Int)):=by
 have h0:=Int.emod_nonneg ((c+7919*k+1)*48271) (b:=2147483647) ↑f;have h1:=Int.emod_lt_of_pos ((c+7919*k+1)*48271) (b:=2147483647) ↑f;have q:∀x:Int,0<=x%2147483647:=λx=>Int.emod_nonneg x ↑f;generalize hn:(c+7919*k+1)*48271%2147483647=n at h0 h1;obtain⟨m,hm⟩:=Int.eq_ofNat_of_zero_le (q (n*(n/1009+69621)));refine⟨m,jr rfl ?_⟩;show zq _ _ [some (false,.int c),some (false,.int k),none]=_;have a1:jO (.int ((c+7919*k+1)*48271)) (.int 2147483647)=some (false,.int n):=by rw[<-hn];exact Qu _ ↑f
 have a2:jO (.int (n*(n/1009+69621))) (.int 2147483647)=some (false,.int (m:Int)):=by rw[<-hm];exact Qu _ ↑f
 rw[zh (zx (v2 (v2 (v2 (v2 rfl (v2 rfl rfl (QA k ↑f)) rfl) rfl rfl) rfl (Mb _ ↑f)) rfl a1))];exact jp (v2 (v2 rfl (v2 (v2 rfl rfl (Mc n ↑f)) rfl rfl) (QA _ ↑c)) rfl a2)
def kK(c k:Int):Nat:=Classical.choose (aJ c k)
theorem U1(c k:Int):vZ [(false,.int c),(false,.int k)]=.ok (false,.int (kK c k:Int)):=Classical.choose_spec (aJ c k)
theorem wy{i:Nat}{m:ME}{env:En}{b p:Bool}{c k:Int}(h:env[i]?=some (some (b,.int c)))(g:m env=.ok (p,.int k))(hp:p=false:=by rfl):aj i m env=.ok (false,.int (kK c k:Int)):=by subst hp;exact vF (vC (vV h) (vC g rfl)) (U1 c k)
theorem Kv{L:List Str}{m n:ME}{env:En}{p q:Bool}{i:Nat}(h:m env=.ok (p,.lst (sT L)))(g:n env=.ok (q,.int (i:Int)))(hi:i<L.length):m2 zA m n env=.ok (false,.str (L.getD i "")):=by refine v2 h g ?_;rw[XV,List.getElem?_eq_getElem hi];simp[hi]
theorem gP{m:ME}{env:En}{p:Bool}{x d:Nat}{e:Int}(hd:e=(d:Int))(h:m env=.ok (p,.int (x:Int)))(h0:0<d):m2 jO m (mC (.int e)) env=.ok (false,.int ((x%d:Nat):Int)):=by subst hd;exact v2 h rfl (K7 x d h0)
theorem ie{m:ME}{env:En}{p:Bool}{x d:Nat}{e:Int}(hd:e=(d:Int))(h:m env=.ok (p,.int (x:Int)))(h0:0<d)(h1:d<1000000):m2 kP m (mC (.int e)) env=.ok (false,.int ((x/d:Nat):Int)):=by subst hd;refine v2 h rfl ((Mc _ ⟨by omega,by omega⟩).trans ?_);rw[Int.natCast_ediv]
theorem U2(env:En):l4 env=.ok (true,.lst (sT PV)):=vL (vC rfl (vC rfl (vC rfl (vC rfl rfl)))) rfl rfl
theorem U3(env:En):l3 env=.ok (true,.lst (sT M8)):=vL (vC rfl (vC rfl (vC rfl rfl))) rfl rfl
theorem U4(env:En):lb env=.ok (true,.lst (sT Zm)):=vL (vC rfl (vC rfl (vC rfl (vC rfl rfl)))) rfl rfl
theorem U5(env:En):l2 env=.ok (true,.lst (sT PX)):=vL (vC rfl (vC rfl rfl)) rfl rfl
def U6(c:Int)(i:Nat):Str×Str×Bool:=(PV.getD ((i+kK c 8)%4) "",M8.getD (kK c (2+(i:Int))%3) "",decide (kK c (2+(i:Int))/3%2=0))
def cm(c:Int)(n:Nat):List ↑i:=(List.range' 0 n).map (U6 c)
theorem nP(c:Int)(n:Nat):(cm c n).length=n:=by simp[cm]
theorem Wl(c:Int)(n:Nat):cm c (n+1)=cm c n++[U6 c n]:=by unfold cm;rw[List.range'_concat,List.map_append];simp
def Kw(c:Int)(pl:List ↑i)(o2 o3 o4:Option RV):En:=[fv (.int c),some (true,.lst (pl.map wY)),o2,o3,o4,none,none,none]
theorem Kx(c:Int)(i:Nat)(hi:i<100)(o3 o4:Option RV):LJ (Kw c (cm c i) (fv ↑z) o3 o4)=.nx (Kw c (cm c (i+1)) (fv ↑z) (fv (.int (kK c (2+(i:Int)):Int))) (fv (.str (U6 c i).1))):=by
 refine(zh (zx (wy rfl (v2 rfl ↑g rfl)))).trans ?_;refine(zh (zx (Kv (U2 _) (gP (p:=false) (x:=i+kK c 8) rfl (v2 ↑g (wy rfl rfl) ?_) ↑f) (Nat.mod_lt _ ↑f)))).trans ?_;·show some (false,T.int ((i:Int)+(kK c 8:Int)))=_;rw[Int.natCast_add]
 have ht:jJ (z9 (mV 4) (z9 (m2 zA l3 (m2 jO (mV 3) (mC (.int 3)))) (z9 (m2 jn (m2 jO (m2 kP (mV 3) (mC (.int 3))) ↑I) ↑o) ze))) (hide (Kw c (cm c i) (fv ↑z) (fv (.int (kK c (2+(i:Int)):Int))) (fv (.str (U6 c i).1))))=.ok (false,wY (U6 c i)):=by refine vP (vC ↑g (vC (Kv (U3 _) (gP rfl ↑g ↑f) (Nat.mod_lt _ ↑f)) (vC (v2 (r:=(false,.bl (U6 c i).2.2)) (gP rfl (ie rfl ↑g ↑f ↑f) ↑f) rfl ((ut _ 0).trans ?_)) rfl))) rfl rfl;rw[show decide (((kK c (2+(i:Int))/3%2:Nat):Int)=0)=decide (kK c (2+(i:Int))/3%2=0)from decide_eq_decide.mpr ↑c];rfl
 refine(fU rfl ht (by rw[List.length_map,nP];have:=big;omega)).trans ?_;rw[Wl];unfold Kw;rw[List.map_append];rfl
theorem Zn(c:Int):∀(n i:Nat)(o2 o3 o4:Option RV),i+n<100->∃o2' o3' o4',jy (gN 2) LJ ((List.range' i n).map λ(j:Nat)=>T.int (j:Int)) (Kw c (cm c i) o2 o3 o4)=.nx (Kw c (cm c (i+n)) o2' o3' o4')|0,i,o2,o3,o4,_=>⟨o2,o3,o4,rfl⟩|n+1,i,o2,o3,o4,h=>by obtain⟨a,b,d,ih⟩:=Zn c n (i+1) (fv ↑z) (fv (.int (kK c (2+(i:Int)):Int))) (fv (.str (U6 c i).1)) ↑c;refine⟨a,b,d,?_⟩;rw[List.range'_succ,List.map_cons,jC rfl (Kx c i ↑c o3 o4),ih,show i+1+n=i+(n+1)by omega]
theorem Ky:∀x<4,∀y<4,PV.getD x ""=PV.getD y ""->x=y:=by decide+kernel
theorem lI{L:List Str}{i:Nat}(h:i<L.length):L.getD i ""∈L:=by rw[List.getD_eq_getElem?_getD,List.getElem?_eq_getElem h];exact List.getElem_mem h
theorem U7(c:Int):∃k pl bk fs,qH k pl bk fs/\vJ [(false,.int c)]=.ok (false,fT k pl bk fs):=by
 have hn:kK c 1%5<5:=Nat.mod_lt _ ↑f;have hk:kK c 7%(kK c 1%5+1)<kK c 1%5+1:=Nat.mod_lt _ ↑c;have hj:kK c 9%3<3:=Nat.mod_lt _ ↑f;refine⟨kK c 7%(kK c 1%5+1),cm c (kK c 1%5),Zm.getD (kK c 10%4) "",PX.drop (kK c 9%3),?_,?_⟩
 ·refine⟨by rw[nP];omega,by rw[nP];omega,?_,λp hp=>?_,lI (Nat.mod_lt _ ↑f),?_,?_,λf hf=>List.mem_of_mem_drop hf⟩;·unfold cm;rw[List.map_map];unfold List.Nodup;rw[List.pairwise_map];refine(List.nodup_range').imp_of_mem λ{a b}ha hb hne e=>hne ?_;simp only[List.mem_range'_1]at ha hb;have:=Ky _ (Nat.mod_lt (a+kK c 8) ↑f) _ (Nat.mod_lt (b+kK c 8) ↑f) e;omega
  ·unfold cm at hp;obtain⟨i,_,rfl⟩:=List.mem_map.mp hp;exact⟨lI (Nat.mod_lt _ ↑f),lI (Nat.mod_lt _ ↑f)⟩
  ·rw[List.length_drop];exact Nat.sub_le _ _
  ·exact List.Nodup.sublist (List.drop_sublist _ _) ↑K
 ·refine jr rfl ?_;unfold qM;refine(zh (zx (vL rfl rfl rfl))).trans ?_;obtain⟨o2,o3,o4,hL⟩:=Zn c (kK c 1%5) 0 none none none ↑c;rw[Nat.zero_add]at hL;have hr:nq (z9 (m2 jO (aj 0 ↑m) (mC (.int 5))) ze) (Kw c (cm c 0) none none none)=.ok [.int ((kK c 1%5:Nat):Int)]:=by unfold nq;rw[show z9 (m2 jO (aj 0 ↑m) (mC (.int 5))) ze (hide (Kw c (cm c 0) none none none))=.ok [(false,.int ((kK c 1%5:Nat):Int))]from vC (gP rfl (wy rfl rfl) ↑f) rfl];rfl
  refine(zh ((Z3 hr ↑c).trans hL)).trans ?_;have lp:jH [.lst ((cm c (kK c 1%5)).map wY)]=some (false,.int ((kK c 1%5:Nat):Int)):=by show some (false,T.int (((cm c (kK c 1%5)).map wY).length:Int))=_;rw[List.length_map,nP]
  have h5:m2 jO (aj 0 (mC (.int 7))) (m2 j5 (zp jH (z9 ↑U ze)) ↑m) (Kw c (cm c (kK c 1%5)) o2 o3 o4)=.ok (false,.int ((kK c 7%(kK c 1%5+1):Nat):Int)):=by refine v2 (wy rfl rfl) (v2 (vK (vC (vo rfl) rfl) lp) rfl (show _=some (false,T.int ((kK c 1%5+1:Nat):Int))from rfl)) (K7 _ _ ↑c)
  refine(zh (vw h5 (.inl (Hk (wy rfl rfl) rfl)) (ww rfl rfl rfl))).trans ?_;refine(zh (e':=[fv (.int c),some (true,.lst ((cm c (kK c 1%5)).map wY)),o2,o3,o4,fv (.int ((kK c 7%(kK c 1%5+1):Nat):Int)),some (true,.lst (sT (PX.drop (kK c 9%3)))),none]) (zx (vS (U5 _) (vN (gP rfl (wy rfl rfl) ↑f)) rfl ?_))).trans ?_;·show some (true,T.lst (qo (sT PX) (some ((kK c 9%3:Nat):Int)) none))=_;rw[lB];unfold sT;rw[List.map_drop]
  refine(zh (zx (Kv (U4 _) (gP rfl (wy rfl rfl) ↑f) (Nat.mod_lt _ ↑f)))).trans ?_;exact vb (vP (vC ↑g (vC (vo rfl) (vC ↑g (vC (vo rfl) rfl)))) rfl rfl) rfl
def IK:List T:=[.lst [.int 0,.int 1],.lst [.int 2,.int 3],.lst [.int 4,.int 5],.lst [.int 0,.int 4]]
theorem Wm(env:En):NI env=.ok (true,.dct (Zm.map Sum.inr) IK):=rfl
theorem Ie{kd:Str}(h:kd∈Zm):∃a b:Int,zA (.dct (Zm.map Sum.inr) IK) (.str kd)=some (false,.lst [.int a,.int b]):=by
 unfold Zm at h;simp only[List.mem_cons,List.not_mem_nil,or_false]at h;rcases h with rfl|rfl|rfl|rfl;·exact⟨0,1,by rfl⟩
 ·exact⟨2,3,by rfl⟩
 ·exact⟨4,5,by rfl⟩
 ·exact⟨0,4,by rfl⟩
theorem U8{kd:Str}(h:kd∈Zm)(x:Nat):∃y:Int,qF [(false,.str kd),(false,.int (x:Int))]=.ok (false,.int y):=by have hv:mV 1 [fv (.str kd),fv (.int (x:Int))]=.ok (false,.int (x:Int)):=vf rfl;have ht:xq (jX (m2 jn (m2 jO ↑U (mC (.int 13))) ↑o)) [fv (.str kd),fv (.int (x:Int))]=.ok (decide (((x%13:Nat):Int)=0)):=jm (vT (v2 (gP rfl hv ↑f) rfl (ut _ 0)));cases hb:decide (((x%13:Nat):Int)=0)with|true=>rw[hb]at ht;exact⟨_,jr rfl (by unfold qE;exact wv ht (jp (v2 (gP rfl (ie rfl hv ↑f ↑f) ↑f) rfl rfl)))⟩|false=>
  rw[hb]at ht;obtain⟨a,b,e⟩:=Ie h;have hi:x/13%2<([.int a,.int b]:List T).length:=Nat.mod_lt _ ↑f;have h2:∃y:Int,zA (.lst [.int a,.int b]) (.int ((x/13%2:Nat):Int))=some (false,.int y):=by
   rw[Wy];have:x/13%2=0\/x/13%2=1:=by omega
   rcases this with q|q;·rw[q];exact⟨a,rfl⟩
   ·rw[q];exact⟨b,rfl⟩
  obtain⟨y,h2⟩:=h2;exact⟨y,jr rfl (by unfold qE;exact(zh (zB ht)).trans (jp (v2 (v2 (Wm _) ↑g e) (gP rfl (ie rfl hv ↑f ↑f) ↑f) h2)))⟩
theorem cp{m n:ME}{env:En}{kd:Str}{x:Nat}(h:m env=.ok (false,.str kd))(g:n env=.ok (false,.int (x:Int)))(hk:kd∈Zm):∃y:Int,Mv m n env=.ok (false,.int y):=by obtain⟨y,e⟩:=U8 hk x;exact⟨y,vF (vC h (vC g rfl)) e⟩
section
variable(k:Nat)(pl:List ↑i)(bk:Str)(fs:List Str)(c:Int)(x f:Nat)
def cE(r:List (Option RV)):En:=fv (fT k pl bk fs)::fv (.int c)::fv (.int (k:Int))::fv (.lst (pl.map wY))::fv (.str bk)::fv (.lst (sT fs))::fv (.int (x:Int))::fv (.int (f:Int))::r
variable{k pl bk fs c x f}
theorem QB{i:Nat}(hi:i<pl.length):zA (.lst (pl.map wY)) ↑z=some (false,wY pl[i]):=by rw[Wy,List.getElem?_map,List.getElem?_eq_getElem hi];rfl
theorem Wn:jH [.lst (pl.map wY)]=some (false,.int (pl.length:Int)):=by show some (false,T.int ((pl.map wY).length:Int))=_;rw[List.length_map]
theorem Kz(xs:List Int)(y:Int):iL (xs++[y])=iL xs++[.int y]:=by unfold iL;rw[List.map_append];rfl
theorem KA(h:qH k pl bk fs)(xs:List Int)(hx:xs.length<100)(i:Nat)(o10:Option RV):∃y o10',LK (cE k pl bk fs c x f [some (true,.lst (iL xs)),fv ↑z,o10,none,none,none,none])=.nx (cE k pl bk fs c x f [some (true,.lst (iL (xs++[y]))),fv ↑z,o10',none,none,none,none]):=by
 have hk:∃kd∈Zm,∀{tl:MS}{o:YJ},tl (cE k pl bk fs c x f [some (true,.lst (iL xs)),fv ↑z,fv (.str kd),none,none,none,none])=o->zq (zH 10 (mC (.str "num"))) (zq (xH (jX (m2 kr (mV 9) (zp jH (z9 (mV 3) ze)))) (zH 10 (m2 zA (m2 zA (mV 3) (mV 9)) ↑m)) zF) tl) (cE k pl bk fs c x f [some (true,.lst (iL xs)),fv ↑z,o10,none,none,none,none])=o:=by
  have h0:zH 10 (mC (.str "num")) (cE k pl bk fs c x f [some (true,.lst (iL xs)),fv ↑z,o10,none,none,none,none])=.nx (cE k pl bk fs c x f [some (true,.lst (iL xs)),fv ↑z,fv (.str "num"),none,none,none,none]):=zx rfl;have ht:xq (jX (m2 kr (mV 9) (zp jH (z9 (mV 3) ze)))) (cE k pl bk fs c x f [some (true,.lst (iL xs)),fv ↑z,fv (.str "num"),none,none,none,none])=.ok (decide ((i:Int)<(pl.length:Int))):=jm (vT (v2 ↑g (vK ↑M Wn) (K2 rfl)));by_cases hi:i<pl.length;·rw[decide_eq_true ↑c]at ht;refine⟨(pl[i]).2.1,Wj (h.mem _ (List.getElem_mem hi)).2,λ{tl o}g=>(zh h0).trans ((zh ((wu ht).trans (zx (v2 (v2 ↑g ↑g (QB hi)) rfl (jt _ 1))))).trans g)⟩
  ·rw[decide_eq_false ↑c]at ht;exact⟨"num",by decide+kernel,λ{tl o}g=>(zh h0).trans ((zh (zB ht)).trans g)⟩
 obtain⟨kd,hm,hk⟩:=hk;have h2:m2 j5 ↑I (mV 9) (hide (cE k pl bk fs c x f [some (true,.lst (iL xs)),fv ↑z,fv (.str kd),none,none,none,none]))=.ok (false,.int (2+(i:Int))):=v2 rfl ↑g rfl;obtain⟨y,hy⟩:=cp (m:=mV 10) (n:=aj 1 (m2 j5 ↑I (mV 9))) ↑g (wy rfl h2) hm;refine⟨y,fv (.str kd),hk ((fU rfl hy (by rw[show(iL xs).length=xs.length from List.length_map ..];have:=big;omega)).trans ?_)⟩;rw[Kz];rfl
theorem Zo(h:qH k pl bk fs):∀(n i:Nat)(xs:List Int)(o9 o10:Option RV),xs.length+n<100->∃(xs':List Int)(o9' o10':Option RV),xs'.length=xs.length+n/\jy (gN 9) LK ((List.range' i n).map λ(j:Nat)=>T.int (j:Int)) (cE k pl bk fs c x f [some (true,.lst (iL xs)),o9,o10,none,none,none,none])=.nx (cE k pl bk fs c x f [some (true,.lst (iL xs')),o9',o10',none,none,none,none])|0,i,xs,o9,o10,_=>⟨xs,o9,o10,rfl,rfl⟩|n+1,i,xs,o9,o10,hl=>by obtain⟨y,o10',e⟩:=KA h xs ↑c i o10;obtain⟨xs',a,b,l,ih⟩:=Zo h n (i+1) (xs++[y]) (fv ↑z) o10' (by rw[List.length_append,List.length_singleton];omega);refine⟨xs',a,b,by rw[l,List.length_append,List.length_singleton];omega,?_⟩;rw[List.range'_succ,List.map_cons,jC rfl e];exact ih
theorem cq(ps:List ↑s)(p:Str×Int):(ps++[p]).map zZ=ps.map zZ++[zZ p]:=by rw[List.map_append];rfl
theorem KB(h:qH k pl bk fs)(X:T)(ps:List ↑s)(hp:ps.length<100){i:Nat}(hi:i<pl.length)(o10 o12:Option RV):∃(ps':List ↑s)(o12':Option RV),ps'.length<=ps.length+1/\LL (cE k pl bk fs c x f [some (true,X),fv ↑z,o10,some (true,.lst ↑P),o12,none,none])=.nx (cE k pl bk fs c x f [some (true,X),fv ↑z,o10,some (true,.lst (ps'.map zZ)),o12',none,none]):=by
 have h2:m2 j5 (mC (.int 10)) (mV 9) (hide (cE k pl bk fs c x f [some (true,X),fv ↑z,o10,some (true,.lst ↑P),o12,none,none]))=.ok (false,.int (10+(i:Int))):=v2 rfl ↑g rfl;have hs:zH 12 (aj 1 (m2 j5 (mC (.int 10)) (mV 9))) (cE k pl bk fs c x f [some (true,X),fv ↑z,o10,some (true,.lst ↑P),o12,none,none])=.nx (cE k pl bk fs c x f [some (true,X),fv ↑z,o10,some (true,.lst ↑P),fv (.int (kK c (10+(i:Int)):Int)),none,none]):=zx (wy rfl h2);generalize kK c (10+(i:Int))=y at hs;have hv:∀r:Option RV,mV 12 (cE k pl bk fs c x f [none,fv ↑z,r,none,fv (.int (y:Int)),none,none])=.ok (false,.int (y:Int)):=λ_=>vf rfl;have hx:∀(r:Option RV)(j:Nat)(t:T),(wY pl[i]=.tup [.str (pl[i]).1,.str (pl[i]).2.1,.bl (pl[i]).2.2])->([T.str (pl[i]).1,.str (pl[i]).2.1,.bl (pl[i]).2.2][j]?=some t)->m2 zA (m2 zA (mV 3) (mV 9)) (mC (.int (j:Int))) (cE k pl bk fs c x f [none,fv ↑z,r,none,fv (.int (y:Int)),none,none])=.ok ↑V:=λr j t _ e=>v2 (v2 ↑g ↑g (QB hi)) rfl ((jt _ j).trans (by rw[e];rfl));have hT:∃b,xq Iy (cE k pl bk fs c x f [some (true,X),fv ↑z,o10,some (true,.lst ↑P),fv (.int (y:Int)),none,none])=.ok b:=by
  have ht:vQ (m2 zA (m2 zA (mV 3) (mV 9)) ↑I) (cE k pl bk fs c x f [none,fv ↑z,xU o10,none,fv (.int (y:Int)),none,none])=.ok (pl[i]).2.2:=by unfold vQ;rw[show m2 zA (m2 zA (mV 3) (mV 9)) ↑I (cE k pl bk fs c x f [none,fv ↑z,xU o10,none,fv (.int (y:Int)),none,none])=.ok (false,.bl (pl[i]).2.2)from hx _ 2 _ rfl rfl];rfl
  exact⟨_,jm (JC (vT (v2 (gP rfl (hv (xU o10)) ↑f) rfl (XR rfl))) λ_=>Qt ht (vT (v2 (gP rfl (hv (xU o10)) ↑f) rfl (XR rfl))))⟩
 obtain⟨b,hT⟩:=hT;cases b with|false=>exact⟨ps,fv (.int (y:Int)),by omega,(zh hs).trans (zB hT)⟩|true=>obtain⟨v,hv2⟩:=cp (hx _ 1 _ rfl rfl) (ie (d:=8) rfl (hv _) ↑f ↑f) (Wj (h.mem _ (List.getElem_mem hi)).2);refine⟨ps++[((pl[i]).1,v)],fv (.int (y:Int)),by rw[List.length_append,List.length_singleton];exact Nat.le_refl _,(zh hs).trans ((wu hT).trans ((fU rfl (vP (vC (hx _ 0 _ rfl rfl) (vC hv2 rfl)) rfl rfl) (by rw[List.length_map];have:=big;omega)).trans ?_))⟩;rw[cq];rfl
theorem Zp(h:qH k pl bk fs)(X:T)(o10:Option RV):∀(n i:Nat)(ps:List ↑s)(o9 o12:Option RV),(∀j,i<=j->j<i+n->j<pl.length)->ps.length+n<100->∃(ps':List ↑s)(o9' o12':Option RV),ps'.length<=ps.length+n/\jy (gN 9) LL ((List.range' i n).map λ(j:Nat)=>T.int (j:Int)) (cE k pl bk fs c x f [some (true,X),o9,o10,some (true,.lst ↑P),o12,none,none])=.nx (cE k pl bk fs c x f [some (true,X),o9',o10,some (true,.lst (ps'.map zZ)),o12',none,none])|0,i,ps,o9,o12,_,_=>⟨ps,o9,o12,Nat.le_refl _,rfl⟩|n+1,i,ps,o9,o12,hi,hl=>by obtain⟨ps1,o12',l1,e⟩:=KB h X ps ↑c (hi i ↑h ↑c) o10 o12;obtain⟨ps2,a,b,l2,ih⟩:=Zp h X o10 n (i+1) ps1 (fv ↑z) o12' (λj h1 h2=>hi j ↑c ↑c) ↑c;refine⟨ps2,a,b,by omega,?_⟩;rw[List.range'_succ,List.map_cons,jC rfl e];exact ih
end
theorem nQ(ps:List ↑s):noLs ↑P=true/\noDs ↑P=true/\noOs ↑P=true:=by induction ps with|nil=>exact⟨rfl,rfl,rfl⟩|cons p ps ih=>exact ih
theorem cr{env:En}{x d:Nat}{e j:Int}(hd:e=(d:Int))(h0:0<d)(h1:d<1000000)(h:(hide env)[6]?=some (some (false,.int (x:Int)))):∃b,xq (dL e j) env=.ok b:=⟨_,jm (vT (v2 (gP rfl (ie hd (vV h) h0 h1) ↑f) rfl (ut _ _)))⟩
theorem U9{env:En}{x k:Nat}(h6:env[6]?=some (some (false,.int (x:Int))))(h2:env[2]?=some (some (false,.int (k:Int)))):∃f:Nat,f<=k+1/\Iz env=.ok (false,.int (f:Int)):=by have a:m2 jO (m2 kP (mV 6) (mC (.int 7))) (m2 j5 (mV 2) ↑m) env=.ok (false,.int ((x/7%(k+1):Nat):Int)):=v2 (ie rfl (vV h6) ↑f ↑f) (v2 (vV h2) rfl (show _=some (false,T.int ((k+1:Nat):Int))from rfl)) (K7 _ _ ↑c);have b:m2 jO (m2 kP (mV 6) (mC (.int 7))) (m2 j5 (mV 2) ↑I) env=.ok (false,.int ((x/7%(k+2):Nat):Int)):=v2 (ie rfl (vV h6) ↑f ↑f) (v2 (vV h2) rfl (show _=some (false,T.int ((k+2:Nat):Int))from rfl)) (K7 _ _ ↑c);have l:xK (z9 (m2 jO (m2 kP (mV 6) (mC (.int 7))) (m2 j5 (mV 2) ↑m)) (z9 (m2 jO (m2 kP (mV 6) (mC (.int 7))) (m2 j5 (mV 2) ↑I)) ze)) env=.ok (true,.lst [.int ((x/7%(k+1):Nat):Int),.int ((x/7%(k+2):Nat):Int)]):=vL (vC a (vC b rfl)) rfl rfl;have e:zp GQ (z9 (m2 jn (m2 jO (mV 6) (mC (.int 7))) ↑o) ze) env=.ok (false,.int (if decide (((x%7:Nat):Int)=0)=true then 1 else 0)):=vK (vC (v2 (gP rfl (vV h6) ↑f) rfl (ut _ 0)) rfl) rfl;have m1:=Nat.mod_lt (x/7) (show 0<k+1 by omega);have m2':=Nat.mod_lt (x/7) (show 0<k+2 by omega);cases hb:decide (((x%7:Nat):Int)=0)with|true=>rw[hb]at e;exact⟨x/7%(k+2),by omega,v2 l e (Wy _ 1)⟩|false=>rw[hb]at e;exact⟨x/7%(k+1),by omega,v2 l e (Wy _ 0)⟩
section
variable{k:Nat}{pl:List ↑i}{bk:Str}{fs:List Str}{c:Int}{x f:Nat}
def Ig:List Str:=["at","by","of","zed","none"]
theorem Ua(env:En):l5 env=.ok (true,.lst (sT Ig)):=vL (vC rfl (vC rfl (vC rfl (vC rfl (vC rfl rfl))))) rfl rfl
def nE(k:Nat)(pl:List ↑i)(bk:Str)(fs:List Str)(c:Int)(x f:Nat)(X:T)(o9 o10:Option RV)(ps:List ↑s)(o12:Option RV)(r:List (Option RV)):En:=cE k pl bk fs c x f (some (true,X)::o9::o10::some (true,.lst ↑P)::o12::r)
theorem KC(X:T)(o9 o10 o12:Option RV)(ps:List ↑s)(hp:ps.length<100):∃ps':List ↑s,ps'.length<=ps.length+1/\xH (dL 100 0) (pB 11 IB) zF (nE k pl bk fs c x f X o9 o10 ps o12 [none,none])=.nx (nE k pl bk fs c x f X o9 o10 ps' o12 [none,none]):=by obtain⟨b,hb⟩:=cr (env:=nE k pl bk fs c x f X o9 o10 ps o12 [none,none]) (e:=100) rfl ↑f ↑f rfl;cases b with|false=>exact⟨ps,by omega,zB hb⟩|true=>
  refine⟨ps++[(Ig.getD (x/1100%5) "",((x/5500%6:Nat):Int))],by rw[List.length_append,List.length_singleton];exact Nat.le_refl _,(wu hb).trans ((fU (r:=(false,zZ (Ig.getD (x/1100%5) "",((x/5500%6:Nat):Int)))) rfl ?_ (by rw[List.length_map];have:=big;omega)).trans ?_)⟩;·exact vP (vC (Kv (Ua _) (gP rfl (ie rfl ↑g ↑f ↑f) ↑f) (Nat.mod_lt _ ↑f)) (vC (gP rfl (ie rfl ↑g ↑f ↑f) ↑f) rfl)) rfl rfl
  ·unfold nE;rw[cq];rfl
theorem Ub(ps:List ↑s):(ps.map zZ).all lM=true:=by rw[List.all_map,List.all_eq_true];exactλ_ _=>rfl
theorem KD(X:T)(o9 o10 o12:Option RV)(ps:List ↑s)(hp:ps.length<=5):∃ps':List ↑s,ps'.length=ps.length/\zH 11 (zp pH (z9 (mV 11) ze)) (nE k pl bk fs c x f X o9 o10 ps o12 [none,none])=.nx (nE k pl bk fs c x f X o9 o10 ps' o12 [none,none]):=by
 obtain⟨qs,pq,eq⟩:=kI (vq ↑P);have hs:pH [.lst ↑P]=some (true,.lst (qs.map zZ)):=by rw[eq];exact if_pos ⟨by rw[List.length_map];exact hp,Ub ps⟩
 have q:=nQ qs;exact⟨qs,pq.length_eq,vw (vK (vC (vo rfl) rfl) hs) (.inl rfl) (ww q.1 q.2.1 q.2.2)⟩
theorem Zq{m:ME}{env:En}{b:Bool}{ps:List ↑s}(h:m env=.ok (b,.lst ↑P)):mT m env=.ok (true,.lst (ps.reverse.map zZ)):=by unfold mT;rw[h,bind_ok,List.map_reverse];rfl
theorem KF(X:T)(o9 o10 o12:Option RV)(ps:List ↑s):∃ps':List ↑s,ps'.length=ps.length/\xH (dL 40000 0) (zH 11 (mT (mV 11))) zF (nE k pl bk fs c x f X o9 o10 ps o12 [none,none])=.nx (nE k pl bk fs c x f X o9 o10 ps' o12 [none,none]):=by obtain⟨b,hb⟩:=cr (env:=nE k pl bk fs c x f X o9 o10 ps o12 [none,none]) (e:=40000) rfl ↑f ↑f rfl;cases b with|false=>exact⟨ps,rfl,zB hb⟩|true=>have q:=nQ ps.reverse;exact⟨ps.reverse,List.length_reverse,(wu hb).trans (vw (Zq (vo rfl)) (.inl rfl) (ww q.1 q.2.1 q.2.2))⟩
theorem Zr(h:qH k pl bk fs)(X:T)(o10 o12:Option RV)(ps:List ↑s):∀(L:List Str)(i:Nat)(cs:List ↑s)(o9 o14:Option RV),cs.length+L.length<100->∃(cs':List ↑s)(o9' o14':Option RV),cs'.length=cs.length+L.length/\jy gD Mw (xX i (sT L)) (nE k pl bk fs c x f X o9 o10 ps o12 [some (true,.lst (cs.map zZ)),o14])=.nx (nE k pl bk fs c x f X o9' o10 ps o12 [some (true,.lst (cs'.map zZ)),o14'])
 |[],i,cs,o9,o14,_=>⟨cs,o9,o14,rfl,rfl⟩|z::L,i,cs,o9,o14,hl=>by
  rw[List.length_cons]at hl;have h2:m2 j5 (mC (.int 20)) (mV 9) (hide (nE k pl bk fs c x f X (fv ↑z) o10 ps o12 [some (true,.lst (cs.map zZ)),fv (.str z)]))=.ok (false,.int (20+(i:Int))):=v2 rfl ↑g rfl;obtain⟨y,hy⟩:=cp (m:=mV 4) (n:=aj 1 (m2 j5 (mC (.int 20)) (mV 9))) ↑g (wy rfl h2) h.bk;have e:Mw (nE k pl bk fs c x f X (fv ↑z) o10 ps o12 [some (true,.lst (cs.map zZ)),fv (.str z)])=.nx (nE k pl bk fs c x f X (fv ↑z) o10 ps o12 [some (true,.lst ((cs++[(z,y)]).map zZ)),fv (.str z)]):=by refine(fU rfl (vP (vC ↑g (vC hy rfl)) rfl rfl) (by rw[List.length_map];have:=big;omega)).trans ?_;rw[cq];rfl
  obtain⟨cs',a,b,l,ih⟩:=Zr h X o10 o12 ps L (i+1) (cs++[(z,y)]) (fv ↑z) (fv (.str z)) (by rw[List.length_append,List.length_singleton];omega);refine⟨cs',a,b,by rw[l,List.length_append,List.length_singleton,List.length_cons];omega,?_⟩;show jy gD Mw (T.tup [.int (i:Int),.str z]::xX (i+1) (sT L)) _=_;rw[jC rfl e];exact ih
def Uc:List Str:=["lost"]
theorem Ud(h:qH k pl bk fs)(r:List (Option RV)):∃L:List Str,L.length<=2/\LM (cE k pl bk fs c x f r)=.ok (true,.lst (sT L)):=by
 have hj:=Nat.mod_lt (x/90000) (show 0<3 by decide);refine⟨(fs++Uc).take (x/90000%3),by rw[List.length_take];omega,?_⟩;refine vS (v2 (r:=(true,.lst (sT (fs++Uc)))) ↑g (vL (vC rfl rfl) rfl rfl) ?_) rfl (vN (gP rfl (ie rfl ↑g ↑f ↑f) ↑f)) ?_;·refine(lG (by rw[uu];have:=h.fl;have:=big;simp;omega)).trans ?_;unfold sT;rw[List.map_append];rfl
 ·show some (true,T.lst (qo (sT (fs++Uc)) none (some ((x/90000%3:Nat):Int))))=_;rw[dX];unfold sT;rw[List.map_take]
theorem KG(X:T)(o9 o10 o12 o14:Option RV)(ps cs:List ↑s):∃cs':List ↑s,cs'.length=cs.length/\xH (dL 300000 0) (zH 13 (mT (mV 13))) zF (nE k pl bk fs c x f X o9 o10 ps o12 [some (true,.lst (cs.map zZ)),o14])=.nx (nE k pl bk fs c x f X o9 o10 ps o12 [some (true,.lst (cs'.map zZ)),o14]):=by obtain⟨b,hb⟩:=cr (env:=nE k pl bk fs c x f X o9 o10 ps o12 [some (true,.lst (cs.map zZ)),o14]) (e:=300000) rfl ↑f ↑f rfl;cases b with|false=>exact⟨cs,rfl,zB hb⟩|true=>have q:=nQ cs.reverse;exact⟨cs.reverse,List.length_reverse,(wu hb).trans (vw (Zq (vo rfl)) (.inl rfl) (ww q.1 q.2.1 q.2.2))⟩
theorem KH(X:T)(o9 o10 o12 o14:Option RV)(ps cs:List ↑s)(hl:cs.length<=10):∃cs':List ↑s,cs'.length<=cs.length+1/\xH (dL 300000 1) (zH 13 (m2 j5 (uC (mV 13) jE (jq ↑m)) (mV 13))) zF (nE k pl bk fs c x f X o9 o10 ps o12 [some (true,.lst (cs.map zZ)),o14])=.nx (nE k pl bk fs c x f X o9 o10 ps o12 [some (true,.lst (cs'.map zZ)),o14]):=by obtain⟨b,hb⟩:=cr (env:=nE k pl bk fs c x f X o9 o10 ps o12 [some (true,.lst (cs.map zZ)),o14]) (e:=300000) (j:=1) rfl ↑f ↑f rfl;cases b with|false=>exact⟨cs,by omega,zB hb⟩|true=>
  have q:=nQ (cs.take 1++cs);have hv:Wq (.lst (cs.map zZ)) none (some 1)=some (true,.lst ((cs.take 1).map zZ)):=by show some (true,T.lst (qo (cs.map zZ) none (some ((1:Nat):Int))))=_;rw[dX,List.map_take]
  have ha:j5 (.lst ((cs.take 1).map zZ)) (.lst (cs.map zZ))=some (true,.lst ((cs.take 1++cs).map zZ)):=by refine(lG (by simp only[List.length_map,List.length_take];have:=big;omega)).trans ?_;rw[List.map_append]
  refine⟨cs.take 1++cs,by rw[List.length_append,List.length_take];omega,(wu hb).trans (vw (r:=(true,.lst ((cs.take 1++cs).map zZ))) (v2 (vS (vo (t:=.lst (cs.map zZ)) rfl) rfl rfl hv) (vo (t:=.lst (cs.map zZ)) rfl) ha) (.inl rfl) (ww q.1 q.2.1 q.2.2))⟩
end
theorem Ue(i:Nat)(n:Nat):kQ (i:Int) n=(List.range' i n).map λ(j:Nat)=>T.int (j:Int):=by unfold kQ;rw[List.range'_eq_map_range,List.map_map];rfl
theorem Uf{k:Nat}{pl:List ↑i}{bk:Str}{fs:List Str}(h:qH k pl bk fs)(c:Int):∃(xs:List Int)(ps cs:List ↑s),xs.length<=5/\ps.length<=5/\cs.length<=3/\kF [(false,fT k pl bk fs),(false,.int c)]=.ok (false,cR "f" xs ps cs):=by
 have hl:=h.len;have hkl:=h.kl;obtain⟨f,hf,ef⟩:=U9 (env:=[fv (fT k pl bk fs),fv (.int c),fv (.int (k:Int)),fv (.lst (pl.map wY)),fv (.str bk),fv (.lst (sT fs)),fv (.int (kK c 1:Int)),none,none,none,none,none,none,none,none]) (x:=kK c 1) (k:=k) rfl rfl;generalize hx:kK c 1=x at ef;obtain⟨xs,a9,a10,lx,e1⟩:=Zo (c:=c) (x:=x) (f:=f) h f 0 [] none none (by simp;omega);obtain⟨ps1,b9,b12,l1,e2⟩:=Zp (c:=c) (x:=x) (f:=f) h (.lst (iL xs)) a10 (pl.length-f) f [] a9 none (λj h1 h2=>by omega) (by simp;omega);rw[List.length_nil,Nat.zero_add]at l1;obtain⟨ps2,l2,e3⟩:=KC (k:=k) (pl:=pl) (bk:=bk) (fs:=fs) (c:=c) (x:=x) (f:=f) (.lst (iL xs)) b9 a10 b12 ps1 ↑c;obtain⟨ps3,l3,e4⟩:=KD (k:=k) (pl:=pl) (bk:=bk) (fs:=fs) (c:=c) (x:=x) (f:=f) (.lst (iL xs)) b9 a10 b12 ps2 ↑c;obtain⟨ps,l4,e5⟩:=KF (k:=k) (pl:=pl) (bk:=bk) (fs:=fs) (c:=c) (x:=x) (f:=f) (.lst (iL xs)) b9 a10 b12 ps3;obtain⟨L,lL,eL⟩:=Ud (c:=c) (x:=x) (f:=f) h (hide [some (true,.lst (iL xs)),b9,a10,some (true,.lst ↑P),b12,some (true,.lst []),none]);obtain⟨cs1,c9,c14,m1,e6⟩:=Zr (c:=c) (x:=x) (f:=f) h (.lst (iL xs)) a10 b12 ps L 0 [] b9 none (by simp;omega);rw[List.length_nil,Nat.zero_add]at m1;obtain⟨cs2,m2',e7⟩:=KG (k:=k) (pl:=pl) (bk:=bk) (fs:=fs) (c:=c) (x:=x) (f:=f) (.lst (iL xs)) c9 a10 b12 c14 ps cs1;obtain⟨cs,m3,e8⟩:=KH (k:=k) (pl:=pl) (bk:=bk) (fs:=fs) (c:=c) (x:=x) (f:=f) (.lst (iL xs)) c9 a10 b12 c14 ps cs2 ↑c;rw[List.length_nil,Nat.zero_add]at lx;refine⟨xs,ps,cs,by omega,by omega,by omega,jr (n:=15) (k:=2) (mb:=gp) rfl ?_⟩;unfold gp;refine(zh (e':=[fv (fT k pl bk fs),fv (.int c),fv (.int (k:Int)),fv (.lst (pl.map wY)),fv (.str bk),fv (.lst (sT fs)),none,none,none,none,none,none,none,none,none]) (aI (r:=(false,fT k pl bk fs)) ↑g rfl)).trans ?_;refine(zh (e':=[fv (fT k pl bk fs),fv (.int c),fv (.int (k:Int)),fv (.lst (pl.map wY)),fv (.str bk),fv (.lst (sT fs)),fv (.int (x:Int)),none,none,none,none,none,none,none,none]) (zx (by rw[<-hx];exact wy (b:=false) rfl rfl))).trans ?_;refine(zh (e':=cE k pl bk fs c x f [none,none,none,none,none,none,none]) (zx ef)).trans ?_;refine(zh (e':=cE k pl bk fs c x f [some (true,.lst (iL [])),none,none,none,none,none,none]) (zx (vL (rs:=[]) rfl rfl rfl))).trans ?_;refine(zh ((Z3 (n:=f) (by unfold nq;rw[show z9 (mV 7) ze (hide (cE k pl bk fs c x f [some (true,.lst (iL [])),none,none,none,none,none,none]))=.ok [(false,.int (f:Int))]from vC ↑g rfl];rfl) ↑c).trans e1)).trans ?_;refine(zh (e':=cE k pl bk fs c x f [some (true,.lst (iL xs)),a9,a10,some (true,.lst (([]:List ↑s).map zZ)),none,none,none]) (zx (vL (rs:=[]) rfl rfl rfl))).trans ?_;have hr:uF (z9 (mV 7) (z9 (zp jH (z9 (mV 3) ze)) ze)) (cE k pl bk fs c x f [some (true,.lst (iL xs)),a9,a10,some (true,.lst (([]:List ↑s).map zZ)),none,none,none])=.ok ((List.range' f (pl.length-f)).map λ(j:Nat)=>T.int (j:Int),cE k pl bk fs c x f [some (true,.lst (iL xs)),a9,a10,some (true,.lst (([]:List ↑s).map zZ)),none,none,none]):=by
  refine(Zk (i:=(f:Int)) (j:=(pl.length:Int)) ?_ ⟨by omega,by omega⟩ ⟨by omega,by omega⟩).trans ?_;·unfold nq;rw[show z9 (mV 7) (z9 (zp jH (z9 (mV 3) ze)) ze) (hide (cE k pl bk fs c x f [some (true,.lst (iL xs)),a9,a10,some (true,.lst (([]:List ↑s).map zZ)),none,none,none]))=.ok [(false,.int (f:Int)),(false,.int (pl.length:Int))]from vC ↑g (vC (vK (vC (vf (t:=.lst (pl.map wY)) rfl) rfl) Wn) rfl)];rfl
  ·rw[show((pl.length:Int)-(f:Int)).toNat=pl.length-f by omega,Ue]
 refine(zh (qG hr e2)).trans ((zh e3).trans ((zh e4).trans ((zh e5).trans ?_)));refine(zh (e':=nE k pl bk fs c x f (.lst (iL xs)) b9 a10 ps b12 [some (true,.lst (([]:List ↑s).map zZ)),none]) (zx (vL (rs:=[]) rfl rfl rfl))).trans ?_;have he:uL LM (nE k pl bk fs c x f (.lst (iL xs)) b9 a10 ps b12 [some (true,.lst (([]:List ↑s).map zZ)),none])=.ok (xX 0 (sT L),nE k pl bk fs c x f (.lst (iL xs)) b9 a10 ps b12 [some (true,.lst (([]:List ↑s).map zZ)),none]):=by unfold uL;rw[lz (r:=(true,.lst (sT L))) eL]
 refine(zh (qG he e6)).trans ((zh e7).trans ((zh e8).trans ?_));exact vb (vP (vC rfl (vC rfl (vC (vK (vC (vo (t:=.lst (iL xs)) rfl) rfl) rfl) (vC (vK (vC (vo (t:=.lst ↑P) rfl) rfl) rfl) (vC (vK (vC (vo (t:=.lst (cs.map zZ)) rfl) rfl) rfl) rfl))))) rfl rfl) rfl
def K6:List Str:=["num","num","word","word","bare","bare"]
def b0:T:=.tup [.str "call",.str "b",.tup [],.tup [],.tup []]
def R6:List T:=[.tup [.str "num",.int 1],.tup [.str "num",.int 2],.tup [.str "word",.str ""],.tup [.str "word",.str "a"],b0,b0]
theorem Md(c:CA){t u:T}(hu:u=SP "b" 0 [] "bare" [])(ks:List Str):jk c [(false,FO c t u),↑ac,(false,b0)]=.ok (false,.str "bare"):=Zd c [] [] [] (.inr rfl) ((show two "b" t u=u from if_neg ↑K).trans hu) List.nodup_nil ↑f
theorem Ug(c:CA){t u:T}(hu:u=SP "b" 0 [] "bare" []):Go c (FO c t u) [] R6 K6:=by refine .cons (aG c rfl rfl (λ_=>rfl) (λh=>nomatch h)) ?_;refine .cons (aG c rfl rfl (λ_=>rfl) (λh=>nomatch h)) ?_;refine .cons (aG c rfl rfl (λ_=>rfl) (λh=>nomatch h)) ?_;refine .cons (aG c rfl rfl (λ_=>rfl) (λh=>nomatch h)) ?_;exact .cons (Md c hu _) (.cons (Md c hu _) (.nil _))
theorem Me{t:MT}{a b:MS}{env:En}(h:xq t env=.ok false):xH t a b env=b env:=by unfold xH;rw[h];rfl
theorem KI(ks:List Str)(hl:ks.length<100):xE [↑ac,(true,.lst (sT ks))]=.ok ↑l:=by
 show zP 2 2 (pP (j4 7)) [↑ac,(true,.lst (sT ks))]=_;refine jr rfl ?_;have is1:∀{w:String}{b:Bool},kg [.lst (sT ks),.ty w]=some (false,.bl b)->xq (MJ 1 w) [fv (.lst (sT ks)),some (true,.lst (sT ks))]=.ok b:=λ{w b}e=>by refine xF rfl ?_;unfold MJ vQ;rw[show zp kg _ _=_ from vK (rs:=[↑ac,(false,.ty w)]) (vC (vo rfl) (vC rfl rfl)) e];rfl
 refine(zh (zB (xF rfl (vT (v2 (vo rfl) rfl rfl))))).trans ((zh (zB (is1 rfl))).trans ((zh (zB (is1 rfl))).trans ((zh (zB (is1 rfl))).trans ((zh (zB (xF rfl (ic (vT (v2 (vK (vC (vo rfl) (vC rfl rfl)) rfl) (vK (vC ↑g (vC rfl rfl)) rfl) rfl)) (vT (v2 (vK (vC (vo rfl) (vC rfl rfl)) rfl) (vK (vC ↑g (vC rfl rfl)) rfl) rfl)))))).trans ((zh (zB (xF rfl (vT (v2 (vK ↑M (fW ks)) (vK (vC (vo rfl) rfl) (fW ks)) ((oP _ _).trans (by rw[decide_eq_true rfl];rfl))))))).trans (vb ?_ rfl))))));refine vK (rs:=[(true,.lst (List.replicate (kQ 0 ks.length).length (.bl true)))]) (vC ?_ rfl) (pU _);refine vz (lA (vC (vK (vC (vo rfl) rfl) (fW ks)) rfl) ↑c) (by rw[dW];omega) (ko _ λx hm=>?_);obtain⟨i,hi,rfl⟩:=Zi x hm;have hx:zA (.lst (sT ks)) ↑z=some (false,.str ks[i]):=by rw[XV,List.getElem?_eq_getElem hi];rfl
 exact⟨false,vF (vC (v2 ↑g ↑g hx) (vC (v2 (vo rfl) ↑g hx) rfl)) (Zg 6 _)⟩
section
variable(k:Nat)(pl:List ↑i)(bk:Str)(fs:List Str)(S:T)
def lE(b:Bool)(Fs:List T)(r:List (Option RV)):En:=fv S::fv (fT k pl bk fs)::fv (.int (k:Int))::fv (.lst (pl.map wY))::fv (.str bk)::fv (.lst (sT fs))::fv (fT k pl.reverse bk fs)::some (b,.lst (sT K6))::some (b,.lst R6)::some (b,.lst Fs)::r
variable{k pl bk fs S}
theorem KJ(c:CA){Fs:List T}{qs qs':List ↑i}{fs':List Str}(hq:qH k qs bk fs)(p:qs'.Perm qs)(ht:qs'.take k=qs.take k)(pf:fs'.Perm fs){xs:List Int}{ps cs:List ↑s}(h1:xs.length<=5)(h2:ps.length<=5)(h3:cs.length<=3)(o11 o12 o15 o16 o17 o18:Option RV):∃o15' o16' o17' o18',K0 c (lE k pl bk fs S false Fs [fv (fT k qs bk fs),o11,o12,fv (cR "f" xs ps cs),fv (FO c (SP "f" k qs' bk fs') (SP "b" 0 [] "bare" [])),o15,o16,o17,o18])=.nx (lE k pl bk fs S false Fs [fv (fT k qs bk fs),o11,o12,fv (cR "f" xs ps cs),fv (FO c (SP "f" k qs' bk fs') (SP "b" 0 [] "bare" [])),o15',o16',o17',o18']):=by have hl:=hq.len;have hkl:=hq.kl;have pl':=p.length_eq;have hb:=PP (bk:=bk) (fs:=fs) (xs:=xs) (ps:=ps) (cs:=cs) (ks:=K6) hq.kl ↑c;have hs:=Wf (bk:=bk) xs ps cs K6 hq.kl p ht pf hq.nd;have hr:=Zd c (u:=SP "b" 0 [] "bare" []) (k:=k) (bk:=bk) (fs:=fs') (ks:=K6) xs ps cs (.inl rfl) (if_pos rfl) ((p.map _).nodup_iff.mpr hq.nd) ↑c;rw[hs]at hr;have g6:=Ug c (t:=SP "f" k qs' bk fs') rfl;have ad:j5 (.lst R6) (.lst [cR "f" xs ps cs])=some (true,.lst (R6++[cR "f" xs ps cs])):=lG (by show 6+1<=sizeLine;decide);generalize hF:FO c (SP "f" k qs' bk fs') (SP "b" 0 [] "bare" [])=F at hr g6;have s15:zH 15 (zj k4 (z9 (mV 10) (z9 (mV 13) (z9 (mV 7) ze)))) (lE k pl bk fs S false Fs [fv (fT k qs bk fs),o11,o12,fv (cR "f" xs ps cs),fv F,o15,o16,o17,o18])=.nx (lE k pl bk fs S false Fs [fv (fT k qs bk fs),o11,o12,fv (cR "f" xs ps cs),fv F,fv (oL (PN k qs bk fs xs ps cs K6) (pX qs xs ps)),o16,o17,o18]):=zx (vF (vC ↑g (vC ↑g ↑M)) hb);have la:∀{o:Option RV},z9 (mV 14) (z9 (m2 j5 (mV 8) (xK (z9 (mV 13) ze))) ze) (hide (lE k pl bk fs S false Fs [fv (fT k qs bk fs),o11,o12,fv (cR "f" xs ps cs),fv F,o,o16,o17,o18]))=.ok [(false,F),(true,.lst (R6++[cR "f" xs ps cs]))]:=λ{o}=>vC ↑g (vC (v2 ↑g (vL ↑M rfl rfl) ad) rfl);cases hB:PN k qs bk fs xs ps cs K6 with|false=>rw[hB]at hr s15;have s16:gZ (LP c) gL (lE k pl bk fs S false Fs [fv (fT k qs bk fs),o11,o12,fv (cR "f" xs ps cs),fv F,fv (oL false (pX qs xs ps)),o16,o17,o18])=.nx (lE k pl bk fs S false Fs [fv (fT k qs bk fs),o11,o12,fv (cR "f" xs ps cs),fv F,fv (oL false (pX qs xs ps)),fv .non,fv (.int 6),fv (.bl true)]):=aI (vF la (PD c F g6 ↑f hr)) rfl;refine⟨_,_,_,_,(zh s15).trans ((zh s16).trans ((wu (jm (vT (v2 ↑g rfl rfl)))).trans (zB (jm (ic (oI (vF (vC ↑g (vC rfl rfl)) Ki)) (oI ↑g))))))⟩|true=>
  rw[hB]at hr s15;have s16:gZ (LP c) gL (lE k pl bk fs S false Fs [fv (fT k qs bk fs),o11,o12,fv (cR "f" xs ps cs),fv F,fv (oL true (pX qs xs ps)),o16,o17,o18])=.nx (lE k pl bk fs S false Fs [fv (fT k qs bk fs),o11,o12,fv (cR "f" xs ps cs),fv F,fv (oL true (pX qs xs ps)),fv (.lst (sT (K6++[bk]))),fv .non,fv (.bl true)]):=aI (vF la (M0 c F (g6.snoc hr) (show 7<100 by decide))) rfl;have hx:xs.length<=k:=by have:=hB;unfold PN at this;rw[Bool.and_eq_true]at this;exact of_decide_eq_true this.1
  have hbl:=ci qs xs ps;have hbd:=eC c (u:=SP "b" 0 [] "bare" []) (k:=k) (pl:=qs') (bk:=bk) (fs:=fs') xs ps cs (.inl rfl) (if_pos rfl) ↑c;rw[hF,lH ht hx]at hbd;have ak:j5 (.lst (sT K6)) (.lst [.str bk])=some (true,.lst (sT (K6++[bk]))):=(lG (by show 6+1<=sizeLine;decide)).trans rfl;refine⟨_,_,_,_,(zh s15).trans ((zh s16).trans ((Me (jm (vT (v2 ↑g rfl rfl)))).trans (zB (jm (ic (oI (vF (vC ↑g (vC (v2 ↑g (vL ↑M rfl rfl) ak) rfl)) (KI _ (show 7<100 by decide)))) (oI (vF (vC (vF (vC ↑g ↑M) hbd) ↑M) (Kj _ ↑c))))))))⟩
end
theorem qH.rev{k:Nat}{pl:List ↑i}{bk:Str}{fs:List Str}(h:qH k pl bk fs):qH k pl.reverse bk fs:=⟨by rw[List.length_reverse];exact h.kl,by rw[List.length_reverse];exact h.len,by rw[List.map_reverse];exact(List.reverse_perm _).nodup_iff.mpr h.nd,λp hp=>h.mem p (List.mem_reverse.mp hp),h.bk,h.fl,h.fnd,h.fm⟩
theorem Mf{m:ME}{env:En}{p:Bool}{ts:List T}(h:m (hide env)=.bad)(g:m env=.ok (p,.lst ts))(hc:L3.clean env (p,.lst ts)=false):ba m env=.ok (ts,J1 env):=by unfold ba xj L3.settle;rw[h];dsimp only;rw[g];dsimp only;rw[if_neg (by rw[hc];decide)];rfl
theorem Ih{env:En}{r:RV}(h1:env.any mE=true)(h2:d8 r=false):L3.clean env r=false:=by unfold L3.clean;rw[h1,h2];rfl
section
variable{k:Nat}{pl:List ↑i}{bk:Str}{fs:List Str}{S:T}
def gw(c:CA)(k:Nat)(bk:Str)(fs:List Str)(qs:List ↑i)(F:T):Prop:=∃qs' fs',qs'.Perm qs/\qs'.take k=qs.take k/\fs'.Perm fs/\F=FO c (SP "f" k qs' bk fs') (SP "b" 0 [] "bare" [])
theorem Zs(c:CA){Fs:List T}{qs:List ↑i}{F:T}(hq:qH k qs bk fs)(hF:gw c k bk fs qs F){xs:List Int}{ps cs:List ↑s}(h1:xs.length<=5)(h2:ps.length<=5)(h3:cs.length<=3)(o11 o12 o15 o16 o17 o18:Option RV):∃o15' o16' o17' o18',K0 c (lE k pl bk fs S false Fs [fv (fT k qs bk fs),o11,o12,fv (cR "f" xs ps cs),fv F,o15,o16,o17,o18])=.nx (lE k pl bk fs S false Fs [fv (fT k qs bk fs),o11,o12,fv (cR "f" xs ps cs),fv F,o15',o16',o17',o18']):=by obtain⟨qs',fs',p,ht,pf,rfl⟩:=hF;exact KJ c hq p ht pf h1 h2 h3 o11 o12 o15 o16 o17 o18
theorem KK(c:CA){F1 F2:T}(h:qH k pl bk fs)(hF1:gw c k bk fs pl F1)(hF2:gw c k bk fs pl.reverse F2){xs:List Int}{ps cs:List ↑s}(h1:xs.length<=5)(h2:ps.length<=5)(h3:cs.length<=3)(o10 o11 o12 o14 o15 o16 o17 o18:Option RV):∃r1 r2 r3 r4:Option RV,jy gI (K0 c) [.tup [F1,fT k pl bk fs],.tup [F2,fT k pl.reverse bk fs]] (lE k pl bk fs S false [F1,F2] [o10,o11,o12,fv (cR "f" xs ps cs),o14,o15,o16,o17,o18])=.nx (lE k pl bk fs S false [F1,F2] [fv (fT k pl.reverse bk fs),o11,o12,fv (cR "f" xs ps cs),fv F2,r1,r2,r3,r4]):=by obtain⟨a,b,d,e,e1⟩:=Zs c h hF1 h1 h2 h3 o11 o12 o15 o16 o17 o18;obtain⟨a',b',d',e',e2⟩:=Zs c h.rev hF2 h1 h2 h3 o11 o12 a b d e;refine⟨a',b',d',e',?_⟩;rw[jC rfl e1,jC rfl e2];rfl
theorem Wo(b:Bool)(F1 F2:T)(r:List (Option RV)):LQ (lE k pl bk fs S b [F1,F2] r)=.ok (true,.lst [.tup [F1,fT k pl bk fs],.tup [F2,fT k pl.reverse bk fs]]):=vL (vC (vP (vC (v2 (vV rfl) rfl (Wy _ 0)) ↑M) rfl rfl) (vC (vP (vC (v2 (vV rfl) rfl (Wy _ 1)) ↑M) rfl rfl) rfl)) rfl rfl
theorem KL(c:CA){F1 F2:T}(h:qH k pl bk fs)(hF1:gw c k bk fs pl F1)(hF2:gw c k bk fs pl.reverse F2)(b:Bool)(x:Int)(o10 o11 o13 o14 o15 o16 o17 o18:Option RV):∃r0 r1 r3 r4 r5 r6 r7 r8:Option RV,LR c (lE k pl bk fs S b [F1,F2] [o10,o11,fv (.int x),o13,o14,o15,o16,o17,o18])=.nx (lE k pl bk fs S false [F1,F2] [r0,r1,fv (.int x),r3,r4,r5,r6,r7,r8]):=by
 obtain⟨xs,ps,cs,h1,h2,h3,hc⟩:=Uf h x;have s13:zH 13 (zj kF (z9 ↑U (z9 (mV 12) ze))) (lE k pl bk fs S b [F1,F2] [o10,o11,fv (.int x),o13,o14,o15,o16,o17,o18])=.nx (lE k pl bk fs S b [F1,F2] [o10,o11,fv (.int x),fv (cR "f" xs ps cs),o14,o15,o16,o17,o18]):=by
  cases b;·exact zx (vF (vC ↑g ↑M) hc)
  ·exact zx (vF (vC ↑g ↑M) hc)
 have hI:∃q10 q11 q14 q15 q16 q17 q18,ba LQ (lE k pl bk fs S b [F1,F2] [o10,o11,fv (.int x),fv (cR "f" xs ps cs),o14,o15,o16,o17,o18])=.ok ([.tup [F1,fT k pl bk fs],.tup [F2,fT k pl.reverse bk fs]],lE k pl bk fs S false [F1,F2] [q10,q11,fv (.int x),fv (cR "f" xs ps cs),q14,q15,q16,q17,q18]):=by
  cases b;·exact⟨o10,o11,o14,o15,o16,o17,o18,Qw (Wo false F1 F2 [xU o10,xU o11,fv (.int x),fv (cR "f" xs ps cs),xU o14,xU o15,xU o16,xU o17,xU o18])⟩
  ·refine⟨frz1 o10,frz1 o11,frz1 o14,frz1 o15,frz1 o16,frz1 o17,frz1 o18,Mf rfl (Wo true F1 F2 _) (Ih rfl ?_)⟩;simp[d8,noLs,rq,fT]
 obtain⟨q10,q11,q14,q15,q16,q17,q18,hI⟩:=hI;obtain⟨r1,r2,r3,r4,hL⟩:=KK c h hF1 hF2 h1 h2 h3 q10 q11 (fv (.int x)) q14 q15 q16 q17 q18;exact⟨_,_,_,_,_,_,_,_,(zh s13).trans (qG hI hL)⟩
theorem Zt(c:CA){F1 F2:T}(h:qH k pl bk fs)(hF1:gw c k bk fs pl F1)(hF2:gw c k bk fs pl.reverse F2):∀(ns:List Int)(b:Bool)(o10 o11 o12 o13 o14 o15 o16 o17 o18:Option RV),∃env,jy (gN 12) (LR c) (ns.map T.int) (lE k pl bk fs S b [F1,F2] [o10,o11,o12,o13,o14,o15,o16,o17,o18])=.nx env|[],b,o10,o11,o12,o13,o14,o15,o16,o17,o18=>⟨_,rfl⟩|x::ns,b,o10,o11,o12,o13,o14,o15,o16,o17,o18=>by obtain⟨r0,r1,r3,r4,r5,r6,r7,r8,e⟩:=KL c h hF1 hF2 b x o10 o11 o13 o14 o15 o16 o17 o18;obtain⟨env,ih⟩:=Zt c h hF1 hF2 ns false r0 r1 (fv (.int x)) r3 r4 r5 r6 r7 r8;refine⟨env,?_⟩;rw[List.map_cons,jC rfl e];exact ih
theorem Zu(c:CA){Fs:List T}(hl:Fs.length<10){qs:List ↑i}(hq:qH k qs bk fs)(o11:Option RV):∃F o11',gw c k bk fs qs F/\LT c (lE k pl bk fs S true Fs [fv (fT k qs bk fs),o11,none,none,none,none,none,none,none])=.nx (lE k pl bk fs S true (Fs++[F]) [fv (fT k qs bk fs),o11',none,none,none,none,none,none,none]):=by obtain⟨qs',fs',p,ht,pf,hm⟩:=Wk c hq;refine⟨_,fv (SP "f" k qs bk fs),⟨qs',fs',p,ht,pf,rfl⟩,?_⟩;have s11:zH 11 NL (lE k pl bk fs S true Fs [fv (fT k qs bk fs),o11,none,none,none,none,none,none,none])=.nx (lE k pl bk fs S true Fs [fv (fT k qs bk fs),fv (SP "f" k qs bk fs),none,none,none,none,none,none,none]):=zx (vP (vC rfl (vC rfl (vC ↑g (vC (vK (vC (v2 ↑g rfl (jt _ 1)) rfl) rfl) (vC ↑g (vC (vK ↑M rfl) rfl)))))) rfl rfl);refine(zh s11).trans (fU rfl (hm (vL (vC ↑g (vC rfl rfl)) rfl rfl)) (by have:=big;omega))
end
theorem KM(ns:List Int):∃cs:List Int,Wq (.lst (ns.map T.int)) (some 1) (some 13)=some (true,.lst (cs.map T.int)):=by refine⟨(ns.drop (HT.sIx ns.length 0 (some 1))).take (HT.sIx ns.length ns.length (some 13)-HT.sIx ns.length 0 (some 1)),?_⟩;show some (true,T.lst (qo (ns.map T.int) (some 1) (some 13)))=_;unfold qo;rw[List.length_map,<-List.map_drop,<-List.map_take]
theorem Uh{m:ME}{env:En}{b:Bool}{pl:List ↑i}(h:m env=.ok (b,.lst (pl.map wY))):mT m env=.ok (true,.lst (pl.reverse.map wY)):=by unfold mT;rw[h,bind_ok,List.map_reverse];rfl
theorem Wp{c:CA}(ns:List Int)(hns:ns.length<=63):Qs c [(false,.lst (ns.map T.int))]=.ok ↑l:=by
 refine jr rfl ?_;unfold Qr;obtain⟨k,pl,bk,fs,h,hf⟩:=U7 (ns.getD 0 0);refine(zh (zx (vF (vC (vF (vC ↑g (vC rfl rfl)) (K3 ns 0)) rfl) hf))).trans ?_;refine(zh (aI ↑g rfl)).trans ?_;refine(zh (zx (vP (vC ↑g (vC (Uh ↑g) (vC ↑g ↑M))) rfl rfl))).trans ?_;refine(zh (zx rfl)).trans ((zh (zx rfl)).trans ((zh (zx (vL rfl rfl rfl))).trans ?_));obtain⟨F1,a11,hF1,e1⟩:=Zu c (Fs:=[]) ↑f h none;obtain⟨F2,b11,hF2,e2⟩:=Zu c (Fs:=[F1]) (show 1<10 by decide) h.rev a11;have hL:jy (gN 10) (LT c) [fT k pl bk fs,fT k pl.reverse bk fs] (lE k pl bk fs (.lst (ns.map T.int)) true [] [none,none,none,none,none,none,none,none,none])=.nx (lE k pl bk fs (.lst (ns.map T.int)) true [F1,F2] [fv (fT k pl.reverse bk fs),b11,none,none,none,none,none,none,none]):=by rw[jC rfl e1,jC rfl e2];rfl
 refine(zh (c8 (vP (vC ↑g ↑M) rfl rfl) hL)).trans ?_;obtain⟨cs,hcs⟩:=KM ns;obtain⟨env,ho⟩:=Zt c h hF1 hF2 cs true (fv (fT k pl.reverse bk fs)) b11 none none none none none none none;refine(zh (Z7 (vS ↑g rfl rfl hcs) ho)).trans ?_;exact jp rfl
theorem walk{l:W.OpenLaw}{q:Program}{loose:List Str}{XP:(Str->Option Value)->Heap->Prop}{YP:World->Heap->Prop}{d:DefRec}{K:Params->W.Frag}(hn:l.most=some 63)(hdf:d.params.defaults=[])(hdn:d.name="law")(hY:∀(w:World)(h:Heap),YP w h->(K w.params).In h)(hYT:∀(w:World)(h:Heap),YP w h->h.get? tabP=some {cls:=.none,data:=.fields #[]}){c₀:Addr}(hYC:∀(w:World)(h:Heap),YP w h->W.CodeHd h c₀ tabP)(hYN:∀w:World,W.noTabs (K w.params)=true)(F:∀(w:World)(mg:Str->Option Value)(h:Heap),(K w.params).In h->h.Ns mainGlobals mg->∃c,Txt l.prog w (K w.params) mg c):W.WalkO q loose XP YP l.row.toRowW d [] (λf vs=>PySem.call f vs):=Nk (x:="_law_script") (k:=11) (st:=Z0) hn hdf hdn ⟨rfl,by decide,by decide⟩ hY hYT hYC hYN (λ_ _ _ _ _ _ _=>rfl) λw mg h KX G=>by obtain⟨c,T⟩:=F w mg h KX G;exact⟨T.wF,λf fd Fl base=>GM (Pj T Fl) Wp⟩
end Law
open PySem PySem.W PyProof.Rows L3
namespace PySem.W.Fast
def tw4378786529498294901:=0
def tw10857442638907160838:=0
def tw11360045109246203182:=0
def tw16963484439660572606:=0
def tw5565394020129605629:=0
def tw13319537401781278283:=0
def tw13980685937707866933:=0
def tw2946167142367867466:=0
def tw9316942660420576140:=0
def tw9650000913748509810:=0
def tw11315417172433162397:=0
def tw5504749690682602385:=0
def tw11871962636547380657:=0
def tw17275762161597491048:=0
def tw15325342682036568927:=0
def tw6001533609741367974:=0
def tw15092650400063680734:=0
def tw9518845505064961403:=0
def tw14589147838109897133:=0
def tw10969596349636479827:=0
def tw7859683039222273117:=0
def tw2284106686298857151:=0
def tw8752083335600473862:=0
def tw14317484587956180888:=0
def tw3039688980062122011:=0
def tw2604457742012514273:=0
def tw13546893001342144517:=0
def tw4446774295091764472:=0
def tw1650758305361155412:=0
def tw13737262680298125471:=0
def tw15137914630286499495:=0
def tw2479904162550998349:=0
def tw4084288611734205220:=0
def tw6997673517983629620:=0
def tw14133922667428099673:=0
def tw14805335803281909760:=0
def tw1386954062009058171:=0
def tw14816025744139572748:=0
def tw15250857956431407670:=0
def tw1507659206791300434:=0
def tw3625615338427731201:=0
def tw2524227677180137284:=0
def tw204961256537590680:=0
def tw3338994694432387752:=0
def tw11303667987669506213:=0
def tw14734253072781748391:=0
def tw10442862253753115835:=0
def tw13860409156720826422:=0
def tw250177568477558318:=0
def tw273852180236575207:=0
def tw9671747515230004094:=0
def tw13734501004164848565:=0
def tw16135054864867560810:=0
def tw3091586087386982853:=0
def tw8688777978847827484:=0
def tw12506357831078032744:=0
def tw15550111172491117692:=0
def tw13231916977022111809:=0
def tw14163739388594566121:=0
def tw578699114960627564:=0
def tw12597735929474616520:=0
def tw13094332167963477444:=0
def tw15690762021906847332:=0
def tw14455752374789367002:=0
def tw9299251217318206960:=0
def tw12162797062412017086:=0
def tw9481077737598576065:=0
def tw11026205668300287313:=0
def tw13395301318172614076:=0
def tw11047463265762006329:=0
def tw5765156864814784329:=0
def tw18225825618281366073:=0
def tw15652800558402961748:=0
def tw18094198200268670778:=0
def tw6476855316971814032:=0
def tw5450306610732720945:=0
def tw972629682006095279:=0
def tw2139146392469798005:=0
def tw9706064157668131227:=0
def tw11769087927144639495:=0
def tw7907188010482990017:=0
def tw13541622358742544706:=0
def tw16745668973444610551:=0
def tw16510559134927663659:=0
def tw12942797673650534436:=0
def tw1702906402882971732:=0
def tw6390297388939088731:=0
def tw5133297068378794886:=0
def tw9638087484205701193:=0
def tw8031066577126832549:=0
def tw6639710321523189383:=0
def tw3087217635952755304:=0
def tw7703026214777262578:=0
def tw18281721223433879970:=0
def tw6153825727155864588:=0
def tw14169505846994799373:=0
def tw7734090041757844053:=0
def tw13181416267353486267:=0
def tw6034076244179252449:=0
def tw4077967709259576984:=0
def tw17529020168965907261:=0
def tw8683800100399689530:=0
def tw5578843228638838233:=0
def tw3598373158183763338:=0
def tw14239244155946124456:=0
def tw16991380542945980050:=0
def tw5495814289334704783:=0
def tw4721091585861954717:=0
def tw17997931035146060252:=0
def tw11778888452516903916:=0
def tw209901469315775143:=0
def tw12605105934590571165:=0
def tw9096343911582267803:=0
def tw5259013885875755891:=0
def tw10391797786412803005:=0
def tw16571967499181922159:=0
def tw10521798794312944707:=0
def tw234567485339534843:=0
def tw4283288405798566919:=0
def tw5983093505426458854:=0
def tw1948840532041571714:=0
def tw16944949455963220144:=0
def tw12907979312224799955:=0
def tw5617521243168380006:=0
def tw7663924498051636601:=0
def tw1234305054085434989:=0
def tw1036374206198827344:=0
def tw13058638577998026820:=0
def tw1966222544104039931:=0
def tw10540839749458216602:=0
def tw10280068519947081751:=0
def tw7638848237889843795:=0
def tw543074145268405281:=0
def tw8203183607342460628:=0
def tw9853342686953958698:=0
def tw8713079959129858854:=0
def tw533468638992849410:=0
def tw11652416367022055186:=0
def tw16437358376457843903:=0
def tw7668988190673973146:=0
def tw17834853415440249133:=0
def tw14090000824609065934:=0
def tw15642268997006639014:=0
def tw15318220570743389441:=0
def tw2191475044452825141:=0
def tw2729730071737719540:=0
def tw9451718151700863539:=0
def tw5696487316622839176:=0
def tw14117143302176281488:=0
def tw5447077484019005118:=0
end PySem.W.Fast
set_option maxRecDepth 100000 in
set_option maxHeartbeats 0 in
theorem PySem.Challenge.cw_facestead_k22_calls_bound_holds : PySem.Challenge.rw_facestead_k22_calls_bound.Holds := by
 w_on;o_law;k_head;(case hw=>w_witness2)
 k_fill
 refine Law.walk (l:=PySem.Challenge.rw_facestead_k22_calls_bound) rfl rfl rfl (λw h Y=>W.km_in_of Y) (λw h Y=>W.km_tabs_of Y L2.tabP (List.mem_singleton.mpr rfl)) (c₀:=530) (λw h Y=>W.codeHd_of_K (W.km_in_of Y) (by kernel_rfl)) (λw=>by kernel_rfl) ?F
 case F =>
  intro w mg h KX G;exact ⟨⟨_,_,_,0,0,0,0,_,L3.memoP _ w (L3.gOf Law.m_is_kind)⟩,⟨rfl,fG KX G,fG KX G,fG KX G,fG KX G,fG KX G,fG KX G,fG KX G,fG KX G,fG KX G,fG KX G,fG KX G,fG KX G,fG KX G,fG KX G,fG KX G,Qc KX G,Qc KX G,Np KX G,Qe [("call",_,.ref _,.ref _,.tup [.int 3,.int 4]),("make",_,.ref _,.ref _,.tup [.int 2]),("sort",_,.ref _,.ref _,.tup [.int 2])] KX G (by (try dsimp only);k_is) (by (try dsimp only);k_is) (by rfl) (by decide) (by decide +kernel) (ji rfl (ji rfl (ji rfl dr))) (λF H=>(ji (VJ (by (try dsimp only);k_is)) (ji (Jl (by (try dsimp only);k_is)) (ji (Jl (by (try dsimp only);k_is)) dr)))),Qe [("plus",_,.ref _,.ref _,.tup [.int 1]),("glue",_,.ref _,.ref _,.tup [.int 1]),("form",_,.ref _,.ref _,.tup [.int 3]),("get",_,.ref _,.ref _,.tup [.int 1]),("getor",_,.ref _,.ref _,.tup [.int 1,.int 3]),("take",_,.ref _,.ref _,.tup [.int 1,.int 3]),("sort",_,.ref _,.ref _,.tup [.int 1,.int 3])] KX G (by (try dsimp only);k_is) (by (try dsimp only);k_is) (by rfl) (by decide) (by decide +kernel) (ji rfl (ji rfl (ji rfl (ji rfl (ji rfl (ji rfl (ji rfl dr))))))) (λF H=>(ji (Jl (by (try dsimp only);k_is)) (ji (Jl (by (try dsimp only);k_is)) (ji (Jl (by (try dsimp only);k_is)) (ji (Jl (by (try dsimp only);k_is)) (ji (VJ (by (try dsimp only);k_is)) (ji (VJ (by (try dsimp only);k_is)) (ji (VJ (by (try dsimp only);k_is)) dr)))))))),Nw [("num",_,_,"num_kind"),("word",_,_,"word_kind"),("plus",_,_,"plus_kind"),("glue",_,_,"glue_kind"),("call",_,_,"call_kind"),("make",_,_,"make_kind"),("form",_,_,"form_kind"),("get",_,_,"get_kind"),("getor",_,_,"getor_kind"),("take",_,_,"take_kind"),("sort",_,_,"sort_kind")] KX G (by (try dsimp only);k_is) (by (try dsimp only);k_is) (by rfl) (by decide +kernel) (wo (by (try dsimp only);k_is) (wo (by (try dsimp only);k_is) (wo (by (try dsimp only);k_is) (wo (by (try dsimp only);k_is) (wo (by (try dsimp only);k_is) (wo (by (try dsimp only);k_is) (wo (by (try dsimp only);k_is) (wo (by (try dsimp only);k_is) (wo (by (try dsimp only);k_is) (wo (by (try dsimp only);k_is) (wo (by (try dsimp only);k_is) GV))))))))))),zy KX G,zy KX G,zy KX G,zy KX G,zy KX G,zy KX G,zy KX G,zy KX G,zy KX G,zy KX G,zy KX G,zy KX G,zy KX G,zy KX G,zy KX G,zy KX G,zy KX G,zy KX G,zy KX G,zy KX G,zy KX G,zy KX G,zy KX G,zy KX G,zy KX G,zy KX G,zy KX G,zy KX G,zy KX G,zy KX G,zy KX G,zy KX G,zy KX G,zy KX G,zy KX G,zy KX G,zy KX G,zy KX G,zy KX G,VD KX G,GO,VE,nL,Qd,Qd,VD KX G,VD KX G,VD KX G,VP KX G,Pe,Pf,Xd (by dsimp only;decide) (by (try dsimp only);k_is) (by (try dsimp only);k_is) (by (try dsimp only);k_is),Xd (by dsimp only;decide) (by (try dsimp only);k_is) (by (try dsimp only);k_is) (by (try dsimp only);k_is),VQ⟩⟩
