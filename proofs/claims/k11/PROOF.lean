import PyProof.Rows.All
import Wide.All
import OpenK.AllK
import Wide.FinOn
import PyProof.EqAt
import PyProof.EqKinds
import PyProof.TupleCall
import KE.LcSums
import KE.KSortTup
import PyProof.NeKinds
import PyProof.Rows.SetFrom
import PyProof.WalksEnum
import KE.KLam
import KE.KRevSl
import KE.KDictList
import PyProof.StrLawsTight
import PyProof.Conv_int_bool
import Lean
import PySem.Challenge.RW_facestead_k11_faces_written
set_option compiler.extract_closed false
set_option hygiene false
local macro_rules|`(↑a)=>`(by omega)|`(↑b)=>`(model X.prog X.w)|`(↑c)=>`(mC (.int 1))|`(↑d)=>`(λz=>by rw[z]at nb;exact nb rfl)|`(↑e)=>`(Nat.le_refl _)|`(↑f)=>`(zr X scope cl C (x::caps) ex pn s₀ H₀)|`(↑g)=>`(k5 (mV 0) (zx (mV 2)) (zx (m2 zg (mV 2) ↑c)))|`(↑h)=>`((false,.bl true))|`(↑i)=>`(mC (.int 2))|`(↑j)=>`((false,.str z))|`(↑k)=>`(mC (.int 3))|`(↑l)=>`(mC (.int 0))|`(↑m)=>`(mV 0)|`(↑n)=>`(model prog w)|`(↑o)=>`(xI (qv 0) z7)|`(↑p)=>`(Obj.mapSeq λ_=>(#[]:Array Value))|`(↑q)=>`(vC rfl rfl)|`(↑r)=>`((false,.int c))|`(↑s)=>`(.ListComp elt [⟨.Name x px,iter,ifs,0⟩] scope pos)|`(↑t)=>`(("__debug__":Str))|`(↑u)=>`(z3 ↑m (z3 (m2 zk (mV 1) ↑c) (z3 (m2 zk (mV 1) ↑i) (z3 (m2 zk (mV 1) ↑k) (z3 (m2 zk (mV 1) (mC (.int 4))) (z3 (m2 zk (mV 1) (mC (.int 5))) z5))))))|`(↑v)=>`(by decide)|`(↑w)=>`(s.heap.objs.size+1)|`(↑x)=>`(λ_ _ _ _ _ _=>vH λ_=>rfl)|`(↑y)=>`(Addr×Obj)|`(↑z)=>`(List.mem_cons_of_mem _ hu)|`(↑A)=>`((false,.lst (sT ks)))|`(↑B)=>`(by rfl)|`(↑C)=>`(seqObj "list" #[] 0)|`(↑D)=>`(mC (.int 4))|`(↑E)=>`(by rw[z];rfl)|`(↑F)=>`(zc (jN (zX (m2 zG (m2 zk (mV 1) ↑l) (mC (.str wc)))) (zt (z9 fC (z3 ↑m (z3 (m2 zk (mV 1) ↑c) (z3 (m2 zk (mV 1) ↑i) (z3 (m2 zk (mV 1) ↑D) z5)))))) zq) (zt (z9 fF ↑u)))|`(↑G)=>`(zr X scope cl C N ex pn s₀ H₀)|`(↑H)=>`(λ_ _ _ _ _ _=>qC λ_ _=>rfl)|`(↑I)=>`((false,.str y))|`(↑J)=>`(((sIx items.size 0 lo:Nat):Int)==0&&(1:Int)==1&&(sIx items.size items.size hi-sIx items.size 0 lo)==items.size)|`(↑K)=>`(zc (jN (zX (m2 zG (m2 zk (mV 1) ↑l) (mC (.str wr)))) (zt (z9 fR (z3 ↑m (z3 (m2 zk (mV 1) ↑c) (z3 (m2 zk (mV 1) ↑i) (z3 (m2 zk (mV 1) ↑k) z5)))))) zq) ↑F)|`(↑L)=>`(zr X scope cl C (xs++caps) ex pn s₀ H₀)|`(↑M)=>`((false,eval e X.env))|`(↑N)=>`(zr X scope cl C (x::caps) fp (X.pn++pins) s3 H3)
local macro_rules|`(↑O)=>`(jO (km (mV 1)) (jO (zX (m2 zG (m2 zk (mV 1) (iV ↑c)) (mC (.str ")")))) (zX (m2 zG ↑g (mC (.str ")"))))))|`(↑P)=>`((false,t))|`(↑Q)=>`(zc (zn 3 (m2 zY (m2 zg (m2 zg (m2 kP (mV 3) (m2 zg (m2 j7 (mV 3) (mC (.int 1009))) (mC (.int 69621)))) (mV 4)) ↑c) (mC (.int 2147483647)))) (kQ 2 (mV 3)))|`(↑R)=>`(seqObj "tuple" vs.toArray 0)|`(↑S)=>`((false,.str w))|`(↑T)=>`(by simp)|`(↑U)=>`(z3 ↑m (z3 (m2 j7 (m2 zk (mV 3) ↑i) ↑i) (z3 (mV 6) z5)))|`(↑V)=>`(z3 (mV 1) z5)|`(↑W)=>`(λcl C ex pn s₀ H₀=>xo)|`(↑X)=>`(zl jA (z3 ↑m z5))|`(↑Y)=>`((false,.bl made))|`(↑Z)=>`(List.mem_append_right _ (List.mem_append_right _ (vg hb e)))|`(↑aa)=>`(by decide+kernel)|`(↑ab)=>`(zP xX ↑B T.yF xW (z4 (qv 0) z6))|`(↑ac)=>`(zr X scope cl C (xs++caps) fp (X.pn++pins) s3 H3)|`(↑ad)=>`(z3 (m2 zk (mV 1) (mV 5)) (z3 (m2 zk (mV 2) (m2 zY (m2 j7 (m2 zk ↑m (mV 5)) ↑D) (zl jA (z3 (mV 2) z5)))) (z3 (mV 6) (z3 (mV 7) z5))))|`(↑ae)=>`(sT (zm (.fn z qs ps kd fs)))|`(↑af)=>`(m2 zk ↑m ↑k)|`(↑ag)=>`(m2 zk ↑m ↑i)|`(↑ah)=>`(nQ 3 (xy (gN 0) (xy (gN 1) (xy (gN 2) nP))))|`(↑ai)=>`(m2 zk ↑m ↑c)|`(↑aj)=>`(lq (xs.getD 2 0))|`(↑ak)=>`(.ref s.heap.objs.size)|`(↑al)=>`(.Call (.Name x p) (e::es) [] pos)|`(↑am)=>`(zn 9 (m2 j7 (m2 iP (m2 iP (mV 3) (mV 4)) ↑c) (m2 zg ↑c (m2 zY (m2 zg (m2 j7 ↑m (mC (.int 3200))) (mV 7)) ↑k))))|`(↑an)=>`((false,.int x))|`(↑ao)=>`((ja I g).symm.trans (ja I h))|`(↑ap)=>`(zt (mC (.bl false)))|`(↑aq)=>`(z3 (mV 6) (z3 (m2 zG (m2 zY (m2 j7 (m2 zk (mV 3) ↑i) (mC (.int 18))) ↑i) ↑l) (z3 (zl jS (z3 (mV 7) z5)) z5)))|`(↑ar)=>`(notedBy (model P w) A env λe z=>Z (.error e) z)|`(↑au)=>`((false,.lst (ns.map T.int)))|`(↑av)=>`(List.mem_cons_of_mem _ hx)|`(↑aw)=>`(Fs.headEnd z.cps.toList b)|`(↑ax)=>`(ds.map D.t)|`(↑ay)=>`(λte pe=>vv (fv PySem.F.plainAttrs_list PySem.F.slot_list_extend PySem.F.type_list_extend nV (pv 1) (xY pe k9)))|`(↑az)=>`(z3 (mV 2) z5)|`(↑aA)=>`((false,.bl false))|`(↑aB)=>`(Obj.mapSeq (·++vs.toArray))|`(↑aC)=>`(zc (jN (xk (km (mV 1))) (zt (m2 zG (mV 2) ↑X)) zq) (zc (jN (w9 (zX (m2 wS (m2 zk (mV 1) (iV ↑c)) (mC (.str "&")))) (zX (m2 wS ↑g (mC (.str "&"))))) ↑ap zq) (zc (m3 1 (iV ↑c) (mC (.str ")"))) (dS 2 uR ↑c))))|`(↑aD)=>`(.ListComp elt [⟨tg,iter,ifs,0⟩] scope pos)
local macro_rules|`(↑aE)=>`((backTo cpos (starEach (e::es) X.env)).all (λx=>!x.1)&&(backToKw cpos (keywordEach [] X.env)).all (λx=>x.1.isSome)&&decide ((e::es).length+([]:List Keyword).length+(if([]:List Keyword).isEmpty then 0 else 1)<30))|`(↑aF)=>`((false,.int n))|`(↑aG)=>`(zc (zn 8 (m2 zk (mV 2) (m2 zY (m2 zg (m2 j7 ↑m (mC (.int 800))) (m2 kP (mV 7) (mV 5))) (mC (.int 26))))) (zc ↑am (kQ 6 (m2 zg (m2 zg (m2 kP (mC (.str "q")) (mV 4)) (mV 8)) (m2 kP (mC (.str "q")) (mV 9))))))|`(↑aH)=>`(λa=>H a=none)|`(↑aI)=>`((false,.tup [.str w,a,.int (pl:Int),.tup ps,k,.tup fs]))|`(↑aJ)=>`(List.toArray (q.toList.map λi=>vs.getD i Value.none))|`(↑aK)=>`(EP X pins σ Q)|`(↑aL)=>`(starEach es X.env)|`(↑aM)=>`(.builtin "object.__class__")|`(↑aN)=>`((false,.str kd))|`(↑aO)=>`(by simp;omega)|`(↑aP)=>`(m2 zk (jo (z3 (m2 zg (mC (.str "#3.")) ↑m) (z3 (m2 zg (m2 zg (mC (.str "(")) ↑m) (mC (.str "&num)"))) (z3 (m2 zg (m2 zg ↑m (mC (.str "."))) ↑m) z5)))) (m2 zY (m2 j7 (mV 1) ↑k) ↑k))|`(↑aQ)=>`(Heap.lt_size e)|`(↑aR)=>`(vC rfl ↑q)|`(↑aS)=>`(zc (zn 6 (jP (mV 3) (m2 zG (m2 zY (m2 zk ↑m (mV 5)) ↑i) ↑l))) (zc (zn 7 (jP (m2 zG (m2 zY (m2 j7 (m2 zk ↑m (mV 5)) ↑i) ↑i) ↑l) (iU (mV 6) (f8 (mV 3))))) (kQ 4 (jL ↑ad))))|`(↑aT)=>`((false,.str "abcdefghijklmnopqrstuvwxyz"))|`(↑aU)=>`(W.fnOf x qual (xB st) (ju st) (za st) .none kV doc pm an cdv ct)|`(↑aV)=>`(Nat.zero_le _)|`(↑aW)=>`(zc (jN (zX (m2 zG (mV 3) (mV 2))) ↑ap zq) (zc (zn 2 (z9 xJ (z3 ↑m (z3 (mV 3) z5)))) (zc (je ↑O (zc (iY 1) (zn 2 (z9 xJ (z3 ↑m (z3 (m2 zg (mV 2) ↑c) z5))))) 100000) ↑aC)))|`(↑aX)=>`(gJ (dX hr) (gJ (dX hr) (qv 3) z7 (λ_ _=>rfl)) z7 (λ_ _=>rfl))|`(↑aY)=>`(.tup [.str w,a,.int (pl:Int),.tup ps,k,.tup fs])|`(↑aZ)=>`(.str w::a::b::p::k::f::ts)|`(↑a0)=>`(zc (je (zX (m2 zG ↑g (mC (.str "(")))) (zc (kQ 1 (mC (.str "&"))) (dS 2 uR ↑c)) 100000) (zc (zn 3 (vA (zX (m2 zG ↑g (mC (.str "#")))) (z9 vJ (z3 ↑m ↑az)) (z9 xH (z3 ↑m ↑az)))) ↑aW))|`(↑a1)=>`((false,.str (Str.join "\n" (es.map j4))))|`(↑a2)=>`(λr s'=>r=.ok (.ret (.bool true))/\OldK s₁.heap s'.heap/\s'.os=s₁.os/\AllBare s'.gens)|`(↑a3)=>`(zc (zn 4 (Eb c)) (zc (zn 5 (jo z5)) (zc (xF (iZ DQ) (gN 6) oB) (zc (zn 10 (Ec c 4)) (zc (jN (DP "\n" "str") ↑ap zq) (zc (zn 11 (z9 (kG c) (z3 (mV 10) z5))) (zt (Dp c))))))))|`(↑a4)=>`((false,.lst W))|`(↑a5)=>`(mC (.str " "))|`(↑a6)=>`(ha pins s σ H _ I h)|`(↑a7)=>`(zT (zy (i:=1) (show List.Nodup (["name","kind","flags"]:List Str)by decide+kernel)) (zT (zy (i:=2) (show List.Nodup (["name","kind","flags"]:List Str)by decide+kernel)) qX))|`(↑a8)=>`(zT (zy (i:=1) (show List.Nodup (["name","kind","due"]:List Str)by decide+kernel)) (zT (zy (i:=2) (show List.Nodup (["name","kind","due"]:List Str)by decide+kernel)) qX))|`(↑a9)=>`(xy (gN 3) (xy (gN 4) (xy (gN 5) nP)))|`(↑ba)=>`(p.getD (m-1) 0)|`(↑bb)=>`(mC (.str "record"))|`(↑bc)=>`(mC (.str "choice"))
set_option hygiene true
set_option Elab.async false
set_option bootstrap.genMatcherCode false
noncomputable section
set_option linter.all false
set_option maxRecDepth 100000
namespace L2
open PySem PySem.Spec PyProof.Rows
abbrev Key:=Sum Int Str
def cx:Key->Value->Bool|.inl k,v=>Value.isInt k v|.inr x,v=>Value.isStrOf x v
def US(w:World):Key->Int|.inl k=>hashInt k|.inr x=>hashStr w x
def jX:∀{k:Key}{v:Value},cx k v=true->(∃i t,k=Sum.inl i/\v=Value.int i t)\/(∃x t,k=Sum.inr x/\v=Value.str x t)|.inl i,v,h=>by obtain⟨t,e⟩:=Value.isInt_shape (k:=i) (v:=v) h;exact .inl ⟨i,t,rfl,e⟩|.inr x,v,h=>by obtain⟨t,e⟩:=Value.isStrOf_shape (x:=x) (v:=v) h;exact .inr ⟨x,t,rfl,e⟩
def Xh(i:Int)(t:Tok):cx (.inl i) (.int i t)=true:=by simp[cx,Value.isInt]
def Xi(x:Str)(t:Tok):cx (.inr x) (.str x t)=true:=by simp[cx,Value.isStrOf]
def UT(a b:Int):decide ((Sum.inl a:Key)=Sum.inl b)=(a==b):=by
 by_cases e:a=b;·subst e;simp
 ·have h:¬(Sum.inl a:Key)=Sum.inl b:=λq=>e (Sum.inl.inj q);rw[decide_eq_false h];exact(beq_eq_false_iff_ne.mpr e).symm
def UU(a b:Str):decide ((Sum.inr a:Key)=Sum.inr b)=decide (a=b):=by
 by_cases e:a=b;·subst e;simp
 ·have h:¬(Sum.inr a:Key)=Sum.inr b:=λq=>e (Sum.inr.inj q);rw[decide_eq_false h,decide_eq_false e]
def UV(a:Int)(b:Str):decide ((Sum.inl a:Key)=Sum.inr b)=false:=decide_eq_false (λq=>nomatch q)
def UW(a:Str)(b:Int):decide ((Sum.inr a:Key)=Sum.inl b)=false:=decide_eq_false (λq=>nomatch q)
def jC(prog:Program)(w:World):PySem.KeyKind prog w Key where
 is:=cx;hash:=US w;inj:=λv a b ha hb=>by
  rcases jX ha with⟨i,t,rfl,rfl⟩|⟨x,t,rfl,rfl⟩
  ·rcases jX hb with⟨j,u,rfl,e⟩|⟨y,u,rfl,e⟩;·injection e with e1 _;rw[e1]
   ·exact nomatch e
  ·rcases jX hb with⟨j,u,rfl,e⟩|⟨y,u,rfl,e⟩;·exact nomatch e
   ·injection e with e1 _;rw[e1]
 byValue:=λk v h=>by rcases jX h with⟨i,t,rfl,rfl⟩|⟨x,t,rfl,rfl⟩<;>rfl
 pyHash:=λhv h=>by
  rcases jX hv with⟨i,t,rfl,rfl⟩|⟨x,t,rfl,rfl⟩;·exact wpAny_pyHash_int h
  ·exact wpAny_pyHash_str h
 eqBool:=λhu hv h=>by
  rcases jX hu with⟨i,t,rfl,rfl⟩|⟨x,t,rfl,rfl⟩
  ·rcases jX hv with⟨j,u,rfl,rfl⟩|⟨y,u,rfl,rfl⟩;·rw[UT]at h;exact wpAny_eqBool_int h
   ·rw[UV]at h;exact SeqAt.EqAt.int_str i t y u _ _ _ _ h
  ·rcases jX hv with⟨j,u,rfl,rfl⟩|⟨y,u,rfl,rfl⟩;·rw[UW]at h;exact SeqAt.EqAt.str_int x t j u _ _ _ _ h
   ·rw[UU]at h;exact wpAny_eqBool_str h
 «strs»:=λk x t v h=>by
  rcases jX h with⟨i,u,rfl,e⟩|⟨y,u,rfl,e⟩;·exact nomatch e
  ·injection e with e1 _;subst e1;cases v<;>rfl
def t9(prog:Program)(w:World)(i:Int)(t:Tok):(jC prog w).is (.inl i) (.int i t)=true:=Xh i t
def ft(prog:Program)(w:World)(x:Str)(t:Tok):(jC prog w).is (.inr x) (.str x t)=true:=Xi x t
inductive V where|non|bl(b:Bool)|int(i:Int)|str(x:Str)|byt(b:Array UInt8)|flt(b:UInt64)|ref(a:Addr)|ty(n:String)deriving DecidableEq
def RelV:V->Value->Prop|.non,u=>u=Value.none|.bl b,u=>u=Value.bool b|.int i,u=>∃t,u=Value.int i t|.str x,u=>∃t,u=Value.str x t|.byt b,u=>∃t,u=Value.bytes b t|.flt b,u=>∃t,u=Value.float b t|.ref a,u=>u=Value.ref a|.ty n,u=>u=Value.type n
abbrev zL:List V->List Value->Prop:=Paired RelV
def zL.length{xs:List V}{us:List Value}(r:zL xs us):xs.length=us.length:=Paired.length r
def zL.get:∀{xs:List V}{us:List Value}{i:Nat}{x:V},zL xs us->xs[i]?=some x->∃u,us[i]?=some u/\RelV x u|_,_,_,_,.nil,e=>by simp at e|_,_,0,_,.cons r _,e=>by simp at e;subst e;exact⟨_,rfl,r⟩|_,_,i+1,x,.cons _ t,e=>by obtain⟨u,h1,h2⟩:=zL.get (i:=i) (x:=x) t (by simpa using e);exact⟨u,by simpa using h1,h2⟩
def zL.set{x:V}{u:Value}(r:RelV x u):∀{xs:List V}{us:List Value}(i:Nat),zL xs us->zL (xs.set i x) (us.set i u)|_,_,_,.nil=>.nil|_,_,0,.cons _ t=>.cons r t|_,_,i+1,.cons q t=>.cons q (zL.set r i t)
def zL.append:∀{xs ys:List V}{us ws:List Value},zL xs us->zL ys ws->zL (xs++ys) (us++ws)|_,_,_,_,.nil,s=>s|_,_,_,_,.cons r t,s=>.cons r (zL.append t s)
def zL.take:∀{xs:List V}{us:List Value}(n:Nat),zL xs us->zL (xs.take n) (us.take n)|_,_,0,_=>.nil|_,_,_+1,.nil=>.nil|_,_,n+1,.cons r t=>.cons r (zL.take n t)
def zL.drop:∀{xs:List V}{us:List Value}(n:Nat),zL xs us->zL (xs.drop n) (us.drop n)|_,_,0,r=>r|_,_,_+1,.nil=>.nil|_,_,n+1,.cons _ t=>zL.drop n t
def fu:Option V->Option Value->Prop|some v,some u=>RelV v u|none,none=>True|_,_=>False
def KV{κ:Type}:List (κ×V)->List (κ×Value)->Prop:=Paired λ(p:κ×V)(q:κ×Value)=>p.1=q.1/\RelV p.2 q.2
def kV:Key->V|.inl i=>.int i|.inr x=>.str x
inductive HO where|lst(xs:List V)|tup(xs:List V)|dK(kvs:List (Key×V))|dT(kvs:List (List Key×V))|set(S:Int->Bool)(n:Nat)|ins(C dx:Addr)(fs:List (Str×V))|own(x:Addr)|xd(fs:List (Str×V))|met(f x:Addr)|rng(lo hi:Int)|frz(o:Obj)(u:HO)|tbl(ps:Array Value)|tab(q:Str)|ext(φ:Heap->Prop)
abbrev Hp:=Addr->Option HO
def HO.isTab:HO->Bool|.tab _=>true|_=>false
def pM:Str:="Face.pieces.<locals>.<lambda>"
def tabP:Addr:=395
def tf:HO:=.frz {cls:=.none,data:=.plain} (.tab pM)
def jm(H:Hp)(a:Addr)(o:HO):Hp:=λb=>if b=a then some o else H b
def zF{H:Hp}{a:Addr}{o:HO}:jm H a o a=some o:=by unfold jm;rw[if_pos rfl]
def zh{H:Hp}{a b:Addr}{o:HO}(h:b≠a):jm H a o b=H b:=by unfold jm;rw[if_neg h]
def ij{H:Hp}{a b:Addr}{o u:HO}(h:H a=some o)(h':H b=some u)(d:o≠u):a≠b:=by intro e;subst e;rw[h]at h';exact d (Option.some.inj h')
def zC{H:Hp}{a b:Addr}{o:HO}(h:H a=some o)(h':H b=none):a≠b:=by intro e;subst e;rw[h]at h';cases h'
section
variable(P:Program)(w:World)
def jg(H:Hp)(h:Heap)(a:Addr):HO->Prop|.lst xs=>xs.length<=sizeLine/\∃(its:List Value)(n:Nat),zL xs its/\h.get? a=some {cls:=.type "list",data:=.seq its.toArray n}|.tup xs=>xs.length<=sizeLine/\∃its:List Value,zL xs its/\IsTup h a its.toArray|.dK kvs=>kvs.length<=sizeLine/\(a==sysModules)=false/\∃vs,KV kvs vs/\h.DictOf (jC P w) a vs|.dT kvs=>kvs.length<=sizeLine/\(a==sysModules)=false/\∃xs:List (List Key×Addr×Value),Paired (λ(p:List Key×V)(q:List Key×Addr×Value)=>p.1=q.1/\H q.2.1=some (.tup (p.1.map kV))/\RelV p.2 q.2.2) kvs xs/\∃o es ep,h.get? a=some o/\o.ExactDict/\o.data=.dict es ep/\es.toList=xs.map (entryOfKey (tupleKind (jC P w)))/\(xs.map (·.1)).Nodup|.set S n=>h.SetOf (intKind P w) a S n|.ins C dx fs=>H dx=some (.own a)/\fs.length<=1000/\dx≠a/\h.get? a=some (W.instObj C dx)/\∃mA,h.Ns1 dx mA/\(∀f,fu (fs.lookup f) (mA f))/\PySem.Within mA (fs.map (·.1))|.own _=>∃o,h.get? a=some o|.xd fs=>∃mA,h.Ns1 a mA/\∀f,fu (fs.lookup f) (mA f)|.rng lo hi=>∃t u v,h.get? a=some {cls:=.type "range",data:=.fields #[.int lo t,.int hi u,.int 1 v]}|.frz o u=>(u.isTab=false->h.get? a=some o)/\jg H h a u|.tab q=>∃ps,h.get? a=some {cls:=.none,data:=.fields ps}/\TriplesOk ps.toList/\∀pos cv,codeAmong pos ps.toList=some cv->∃c o vs t,cv=.ref c/\H c=some (.own a)/\h.get? c=some o/\o.data=.fields vs/\vs[1]?=some (.str q t)|.tbl ps=>h.get? a=some {cls:=.none,data:=.fields ps}|.met f x=>h.get? a=some (W.methodObj (.ref f) (.ref x))|.ext φ=>φ h/\(∃o,h.get? a=some o)/\∀h1 h2:Heap,φ h1->(∀o,h1.get? a=some o->h2.get? a=some o)->φ h2
def pN(H:Hp)(h:Heap):Prop:=∀a o,H a=some o->jg P w H h a o
end
def jg.lt(x:jg P w H h a o):a<h.objs.size:=by induction o with|lst xs=>obtain⟨_,_,_,_,e⟩:=x;exact Heap.lt_size e|tup xs=>obtain⟨_,_,_,p⟩:=x;exact p.lt|dK kvs=>obtain⟨_,_,_,_,o,_,_,e,_⟩:=x;exact Heap.lt_size e|dT kvs=>obtain⟨_,_,_,_,o,_,_,e,_⟩:=x;exact Heap.lt_size e|set S n=>obtain⟨o,_,_,_,e,_⟩:=x;exact Heap.lt_size e|ins C dx fs=>obtain⟨_,_,_,e,_⟩:=x;exact Heap.lt_size e|own y=>obtain⟨_,e⟩:=x;exact Heap.lt_size e|xd fs=>obtain⟨_,⟨_,_,_,e,_⟩,_⟩:=x;exact Heap.lt_size e|rng lo hi=>obtain⟨_,_,_,e⟩:=x;exact Heap.lt_size e|frz ob u ih=>exact ih x.2|tab q=>obtain⟨_,e,_⟩:=x;exact Heap.lt_size e|tbl ps=>exact Heap.lt_size (show h.get? a=some _ from x)|met f y=>exact Heap.lt_size (show h.get? a=some _ from x)|ext φ=>obtain⟨_,⟨_,e⟩,_⟩:=x;exact Heap.lt_size e
def Paired.mapP{α β:Type}{F G:α->β->Prop}:∀{l₁:List α}{l₂:List β},Paired F l₁ l₂->(∀a b,F a b->G a b)->Paired G l₁ l₂|_,_,.nil,_=>.nil|_,_,.cons r t,f=>.cons (f _ _ r) (Paired.mapP t f)
def jg.stay(x:jg P w H h a o)(k:∀b u,(b=a\/H b=some (.own a))->h.get? b=some u->h'.get? b=some u)(ho:∀b,H b=some (.own a)->H' b=some (.own a))(ht:∀b xs,H b=some (.tup xs)->H' b=some (.tup xs)):jg P w H' h' a o:=by induction o with|lst xs=>obtain⟨z,its,n,r,e⟩:=x;exact⟨z,its,n,r,k _ _ (.inl rfl) e⟩|tup xs=>obtain⟨z,its,r,ob,e,c⟩:=x;exact⟨z,its,r,ob,k _ _ (.inl rfl) e,c⟩|dK kvs=>obtain⟨z,y,vs,r,ob,es,ep,e,c⟩:=x;exact⟨z,y,vs,r,ob,es,ep,k _ _ (.inl rfl) e,c⟩|dT kvs=>obtain⟨z,y,xs,r,ob,es,ep,e,c⟩:=x;exact⟨z,y,xs,Paired.mapP r λp q z=>⟨z.1,ht _ _ z.2.1,z.2.2⟩,ob,es,ep,k _ _ (.inl rfl) e,c⟩|set S n=>obtain⟨ob,es,ep,t,e,c⟩:=x;exact⟨ob,es,ep,t,k _ _ (.inl rfl) e,c⟩|ins C dx fs=>obtain⟨d,z,ne,e,mA,⟨od,es,ep,e2,c⟩,r⟩:=x;exact⟨ho _ d,z,ne,k _ _ (.inl rfl) e,mA,⟨od,es,ep,k _ _ (.inr d) e2,c⟩,r⟩|own y=>obtain⟨ob,e⟩:=x;exact⟨ob,k _ _ (.inl rfl) e⟩|xd fs=>obtain⟨mA,⟨od,es,ep,e,c⟩,r⟩:=x;exact⟨mA,⟨od,es,ep,k _ _ (.inl rfl) e,c⟩,r⟩|rng lo hi=>obtain⟨t,u,v,e⟩:=x;exact⟨t,u,v,k _ _ (.inl rfl) e⟩|frz ob u ih=>obtain⟨e,q⟩:=x;exact⟨λz=>k _ _ (.inl rfl) (e z),ih q⟩|tab q=>obtain⟨ps,e,t,f⟩:=x;exact⟨ps,k _ _ (.inl rfl) e,t,λpos cv z=>let⟨c,o,vs,tt,h1,h2,h3,h4⟩:=f pos cv z;⟨c,o,vs,tt,h1,ho _ h2,k _ _ (.inr h2) h3,h4⟩⟩|tbl ps=>have e:h.get? a=some {cls:=.none,data:=.fields ps}:=x;show h'.get? a=some {cls:=.none,data:=.fields ps};exact k a _ (.inl rfl) e|met f y=>have e:h.get? a=some (W.methodObj (.ref f) (.ref y)):=x;show h'.get? a=some (W.methodObj (.ref f) (.ref y));exact k a _ (.inl rfl) e|ext φ=>obtain⟨p,⟨o,e⟩,st⟩:=x;exact⟨st _ _ p λo q=>k _ _ (.inl rfl) q,⟨o,k _ _ (.inl rfl) e⟩,st⟩
def pN.lt(x:pN P w H h)(e:H a=some o):a<h.objs.size:=(x a o e).lt
def pN.fresh(x:pN P w H h)(e:h.objs.size<=a):H a=none:=by cases q:H a with|none=>rfl|some u=>exact absurd (Nat.lt_of_lt_of_le (x.lt q) e) (Nat.lt_irrefl _)
def pN.kept(x:pN P w H h)(k:∀b u,h.get? b=some u->h'.get? b=some u):pN P w H h':=λa o e=>(x a o e).stay (λb u _ q=>k b u q) (λ_ q=>q) λ_ _ q=>q
def pN.laid(x:pN P w H h)(k:∀b u,h.get? b=some u->h'.get? b=some u)(hp:h.objs.size<=a)(new:jg P w (jm H a o) h' a o):pN P w (jm H a o) h':=λb u e=>by
 have hn:=x.fresh hp;by_cases hb:b=a;·subst hb;rw[zF]at e;cases e;exact new
 ·rw[zh hb]at e;exact(x b u e).stay (λc v _ q=>k c v q) (λc q=>by rw[zh (zC q hn)];exact q) λc xs q=>by rw[zh (zC q hn)];exact q
def Rd(H:Hp)(a:Addr)(u:HO):Prop:=H a=some u\/∃o,H a=some (.frz o u)
def Rd.ok{P:Program}{w:World}{H:Hp}{h:Heap}{a:Addr}{u:HO}(r:Rd H a u)(x:pN P w H h):jg P w H h a u:=by
 rcases r with r|⟨o,r⟩;·exact x a u r
 ·obtain⟨_,q⟩:=x a _ r;exact q
def LE:Option HO->Prop|some (.lst _)=>True|some (.dK _)=>True|some (.dT _)=>True|some (.set _ _)=>True|some (.ins _ _ _)=>True|some (.ext _)=>True|_=>False
def pN.write(ok:pN P w H h)(mu:LE (H x))(he:e=x\/H e=some (.own x))(k:∀b u,b≠e->h.get? b=some u->h'.get? b=some u)(heo:∃u,h'.get? e=some u)(new:jg P w (jm H x o') h' x o'):pN P w (jm H x o') h':=λb u q=>by
 have nown:∀c y,H c=some (.own y)->c≠x:=λc y r z=>by subst z;rw[r]at mu;exact mu
 have ntup:∀c xs,H c=some (.tup xs)->c≠x:=λc xs r z=>by subst z;rw[r]at mu;exact mu
 by_cases hb:b=x;·subst hb;rw[zF]at q;cases q;exact new
 ·rw[zh hb]at q;by_cases hbe:b=e
  ·have q':H b=some (.own x):=by
    rcases he with z|z;·exact absurd (hbe.trans z) hb
    ·rw[hbe];exact z
   rw[q]at q';cases q';obtain⟨v,hv⟩:=heo;exact⟨v,by rw[hbe];exact hv⟩
  ·refine(ok b u q).stay (λc v hc r=>k c v ?_ r) (λc r=>by rw[zh (nown c b r)];exact r) λc xs r=>by rw[zh (ntup c xs r)];exact r
   rcases hc with rfl|hc;·exact hbe
   ·rintro rfl;rcases he with z|z;·exact nown c b hc z
    ·rw[hc]at z;cases z;exact hb rfl
structure Un(fs ex:List Addr)(H H':Hp)(h h':Heap):Prop where
 keep:∀b o,h.get? b=some o->H b=none->b∉fs->b∉ex->h'.get? b=some o
 slot:∀b o,h.get? b=some o->H b=none->b∈fs->b∉ex->∃sl,h'.get? b=some {o with slots:=sl}free:∀b o,h.get? b=some o->H b=none->b∉ex->H' b=none
 there:∀b o,h.get? b=some o->b∉ex->∃o',h'.get? b=some o'
 tups:∀b xs,H b=some (.tup xs)->H' b=some (.tup xs)frzs:∀b o u,H b=some (.frz o u)->H' b=some (.frz o u)tbls:∀b ps,H b=some (.tbl ps)->∃more,H' b=some (.tbl (ps++more))
def Un.any(u:Un fs ex H H1 h h1){b:Addr}{ob:Obj}(q:h.get? b=some ob)(n:H b=none)(hx:b∉ex):∃sl,h1.get? b=some {ob with slots:=sl}:=by
 by_cases hb:b∈fs;·exact u.slot b ob q n hb hx
 ·exact⟨ob.slots,u.keep b ob q n hb hx⟩
def Un.kept(k:∀b u,h.get? b=some u->h'.get? b=some u):Un fs ex H H h h':=⟨λb ob q _ _ _=>k b ob q,λb ob q _ _ _=>⟨ob.slots,k b ob q⟩,λ_ _ _ n _=>n,λb ob q _=>⟨ob,k b ob q⟩,λ_ _ q=>q,λ_ _ _ q=>q,λ_ ps q=>⟨#[],by rw[q];simp⟩⟩
def Un.refl:Un fs ex H H h h:=Un.kept λ_ _ q=>q
def Un.laid(k:∀b u,h.get? b=some u->h'.get? b=some u)(hp:h.objs.size<=a)(hn:H a=none):Un fs ex H (jm H a o) h h' where
 keep:=λb u q _ _ _=>k b u q;slot:=λb u q _ _ _=>⟨u.slots,k b u q⟩;free:=λb u q n _=>by rw[zh (Nat.ne_of_lt (Nat.lt_of_lt_of_le (Heap.lt_size q) hp))];exact n
 there:=λb u q _=>⟨u,k b u q⟩;tups:=λb xs q=>by rw[zh (zC q hn)];exact q
 frzs:=λb u xs q=>by rw[zh (zC q hn)];exact q
 tbls:=λb ps q=>⟨#[],by rw[zh (zC q hn),q];simp⟩
def Un.write(mu:LE (H x))(he:e=x\/H e=some (.own x))(k:∀b u,b≠e->h.get? b=some u->h'.get? b=some u)(heo:∃u,h'.get? e=some u):Un fs ex H (jm H x o) h h':=by
 have hx:∀b,H b=none->b≠x:=λb n z=>by subst z;rw[n]at mu;exact mu
 have hb:∀b,H b=none->b≠e:=λb n z=>by
  subst z;rcases he with r|r;·exact hx b n r
  ·rw[n]at r;cases r
 have hm:∀b u,H b=some u->¬LE (some u)->b≠x:=λb u q nm z=>by subst z;rw[q]at mu;exact nm mu
 refine⟨λb u q n _ _=>k b u (hb b n) q,λb u q n _ _=>⟨u.slots,k b u (hb b n) q⟩,λb u q n _=>by rw[zh (hx b n)];exact n,λb u q _=>?_,λb xs q=>by rw[zh (hm b _ q λz=>z)];exact q,λb u xs q=>by rw[zh (hm b _ q λz=>z)];exact q,λb ps q=>⟨#[],by rw[zh (hm b _ q λz=>z),q];simp⟩⟩;by_cases hbe:b=e;·subst hbe;exact heo
 ·exact⟨u,k b u hbe q⟩
def HD(h:Heap)(H:Hp):List Addr:=(List.range h.objs.size).filter λa=>(H a).isSome
def bE(h:Heap)(H:Hp):Heap:=W.hideAll h (HD h H)
def Xj(h:Heap)(H:Hp):(bE h H).objs.size=h.objs.size:=W.hideAll_size _ _
def WM{h:Heap}{H:Hp}{b:Addr}{o:Obj}(e:h.get? b=some o)(n:H b=none):(bE h H).get? b=some o:=W.hideAll_get _ e λhm=>by have q:(H b).isSome=true:=(List.mem_filter.mp hm).2;rw[n]at q;simp at q
def QE{h:Heap}{H:Hp}{b:Addr}{o:Obj}(e:(bE h H).get? b=some o):h.get? b=some o/\H b=none:=by have e':h.get? b=some o:=W.of_hideAll (HD h H) e;refine⟨e',?_⟩;cases q:H b with|none=>rfl|some x=>have hm:b∈HD h H:=List.mem_filter.mpr ⟨List.mem_range.mpr (Heap.lt_size e'),by simp[q]⟩;have z:(bE h H).get? b=none:=W.hideAll_none (HD h H) hm;rw[z]at e;cases e
def QF(g h:Heap)(L:Addr):List ↑y:=(List.range h.objs.size).filterMap λa=>if a=L\/(g.get? a).isSome=true then none else(h.get? a).map λo=>(a,o)
def rest(g h:Heap)(L d:Addr):List ↑y:=(QF g h L).filter λp=>decide (p.1≠d)
structure Mod(K:W.Frag)(mg:Str->Option Value)(base:Heap):Prop where
 kin:K.In base
 glob:base.Ns mainGlobals mg
 blt:∃mb,base.Ns builtinsNs mb/\∀x:Str,x≠"__name__"->mb x=bootBuiltins x
 nolimit:base.NoLimit
 bmain:∃bm ob,mg "__builtins__"=some (.ref bm)/\bm≠builtinsNs/\base.get? bm=some ob/\ob.cls=.type "module"/\ob.dict=some builtinsNs/\ob.data=.plain
structure Cx where
 prog:Program
 w:World
 K:W.Frag
 mg:Str->Option Value
 base:Heap
 A:Around
 N:List Str
 s₀:Shared
 H₀:Hp
 env:Env
 outer:List Env
 stack:List Env
 ex:List Addr
 fn:Str->Bool
 calm:Bool
 pn:List (Addr×Obj)xe:Value->Shared->Prop
def JS(l:List Env):List Addr:=l.filterMap (·.frame)
abbrev Cx.fs(X:Cx):List Addr:=JS X.outer
def WB(sc:Scope)(x:Str):Prop:=sc.names.lookup x=some .local\/sc.names.lookup x=some .cell\/sc.names.lookup x=some .free
def tm(sc:Scope)(x:Str):Prop:=sc.names.lookup x=some .local\/sc.names.lookup x=some .cell
def Ed(env:Env)(h:Heap)(m:Str->Option Value)(x:Str)(u:Value):Prop:=(env.kindOf x=some .local/\m x=some u)\/((env.kindOf x=some .cell\/env.kindOf x=some .free)/\∃c,env.cells.lookup x=some c/\h.IsCell c (some u))
structure Cx.Ok(X:Cx):Prop where
 mod:Mod X.K X.mg X.base
 kind:X.env.scope.kind=.function
 glob:X.env.globals=mainGlobals
 blt:X.env.builtins=builtinsNs
 above:X.s₀.heap.objs.size<=X.env.locals
 inj:∀x y c,X.env.cells.lookup x=some c->X.env.cells.lookup y=some c->x=y
 has:∀x,(X.env.kindOf x=some .cell\/X.env.kindOf x=some .free)->∃c,X.env.cells.lookup x=some c
 cab:∀x c,X.fn x=true->X.env.cells.lookup x=some c->X.s₀.heap.objs.size<=c
 hd:X.calm=true->X.A.handled=none
 frames:X.A.frames=some X.stack
 stk:X.stack=X.outer\/(X.stack=X.env::X.outer/\X.env.frame=some X.env.locals)exf:∀b∈X.ex,b≠X.env.locals/\∀x c,X.env.cells.lookup x=some c->c≠b
 bs:∀b o,X.base.get? b=some o->X.s₀.heap.get? b=some o/\X.H₀ b=none
 bsz:X.base.objs.size<=X.s₀.heap.objs.size
 noex:∀b o,X.base.get? b=some o->b∉X.ex
 exfs:∀b∈X.ex,b∉X.fs
 funs:X.s₀.heap.FunFrames X.base X.outer
 frf:∀b∈X.fs,X.H₀ b=none
 tab:X.H₀ tabP=some tf
structure zu(X:Cx)(pins:List ↑y)(σ:List (Option V))(H:Hp)(s:Shared):Prop where
 ok:X.Ok
 os:s.os=X.s₀.os
 bare:AllBare s.gens
 base:Un X.fs X.ex X.H₀ H X.s₀.heap s.heap
 loc:∃m,s.heap.Ns X.env.locals m/\∀(i:Nat)(x:Str)(v:V),X.N[i]?=some x->σ[i]?=some (some v)->WB X.env.scope x->∃u,RelV v u/\Ed X.env s.heap m x u
 cell:∀x c,X.env.cells.lookup x=some c->∃v,s.heap.IsCell c v
 free:H X.env.locals=none
 freeC:∀x c,X.env.cells.lookup x=some c->H c=none
 pin:∀p∈X.pn++pins,s.heap.get? p.1=some p.2/\H p.1=none/\p.1≠X.env.locals/\p.1∉X.fs/\∀v,p.2.data≠.cell v
 hok:pN X.prog X.w H s.heap
 len:σ.length=X.N.length
section
variable{X:Cx}{pins:List ↑y}{σ:List (Option V)}{H H':Hp}{s:Shared}{h':Heap}
theorem Cx.Ok.nofr(ok:X.Ok){b:Addr}{o:Obj}(e:X.base.get? b=some o):b∉X.fs:=λhb=>by have:=(ok.funs.mem hb).1;rw[e]at this;cases this
theorem zu.bs(I:zu X pins σ H s):∀b o,X.base.get? b=some o->s.heap.get? b=some o/\H b=none:=λb o e=>⟨I.base.keep b o (I.ok.bs b o e).1 (I.ok.bs b o e).2 (I.ok.nofr e) (I.ok.noex b o e),I.base.free b o (I.ok.bs b o e).1 (I.ok.bs b o e).2 (I.ok.noex b o e)⟩
theorem zu.tab(I:zu X pins σ H s):H tabP=some tf:=I.base.frzs _ _ _ I.ok.tab
theorem zu.bk(I:zu X pins σ H s):∀b o,X.base.get? b=some o->s.heap.get? b=some o:=λb o e=>(I.bs b o e).1
theorem zu.mod(I:zu X pins σ H s):Mod X.K X.mg X.base:=I.ok.mod
theorem zu.kIn(I:zu X pins σ H s):X.K.In s.heap:=I.ok.mod.kin.keeps I.bk
theorem zu.nolimit(I:zu X pins σ H s):s.heap.NoLimit:=I.ok.mod.nolimit.keeps I.bk
theorem zu.lt(I:zu X pins σ H s):X.env.locals<s.heap.objs.size:=let⟨_,hn,_⟩:=I.loc;hn.lt
theorem zu.sz(I:zu X pins σ H s):X.s₀.heap.objs.size<=s.heap.objs.size:=Nat.le_trans I.ok.above (Nat.le_of_lt I.lt)
theorem zu.nofs(I:zu X pins σ H s){a:Addr}(h:s.heap.objs.size<=a):a∉X.fs:=λhb=>by obtain⟨_,o,ho,_⟩:=I.ok.funs.mem hb;exact absurd (Nat.lt_of_lt_of_le (Heap.lt_size ho) (Nat.le_trans I.sz h)) (Nat.lt_irrefl _)
theorem zu.cne(I:zu X pins σ H s):∀x c,X.env.cells.lookup x=some c->c≠X.env.locals:=λx c e z=>by obtain⟨v,o,ho,hd⟩:=I.cell x c e;obtain⟨m,⟨o',es,ep,ho',hd',_⟩,_⟩:=I.loc;rw[z,ho']at ho;cases ho;rw[hd']at hd;cases hd
theorem zu.funs(I:zu X pins σ H s):s.heap.FunFrames X.base X.outer:=by
 have all:∀(l:List Env),(∀b∈JS l,b∈X.fs)->X.s₀.heap.FunFrames X.base l->s.heap.FunFrames X.base l:=by intro l;induction l with|nil=>intro _ _;trivial|cons env r ih=>intro hs hl;obtain⟨hk,⟨L,o,hf,hn,ho,hd⟩,hr⟩:=hl;have hL:L∈X.fs:=hs L (by unfold JS;rw[List.filterMap_cons,hf];exact List.mem_cons_self);obtain⟨sl,e⟩:=I.base.slot L o ho (I.ok.frf L hL) hL λz=>I.ok.exfs L z hL;exact⟨hk,⟨L,_,hf,hn,e,hd⟩,ih (λb hb=>hs b (by unfold JS;rw[List.filterMap_cons,hf];exact List.mem_cons_of_mem _ hb)) hr⟩
 exact all X.outer (λ_ hb=>hb) I.ok.funs
theorem zu.stack(I:zu X pins σ H s):s.heap.FunFrames X.base X.stack:=by
 rcases I.ok.stk with e|⟨e,hf⟩;·rw[e];exact I.funs
 ·rw[e];obtain⟨m,hn,_⟩:=I.loc;refine .cons (by rw[I.ok.kind];decide) hf hn ?_ I.funs;exact Heap.get?_none_of_le (Nat.le_trans I.ok.bsz I.ok.above)
theorem zu.stkSub(I:zu X pins σ H s):∀b∈JS X.stack,b∈X.env.locals::X.fs:=λb hb=>by
 rcases I.ok.stk with e|⟨e,hf⟩;·rw[e]at hb;exact List.mem_cons_of_mem _ hb
 ·rw[e]at hb;unfold JS at hb;rw[List.filterMap_cons,hf]at hb;exact hb
theorem zu.stkFree(I:zu X pins σ H s):∀b∈JS X.stack,H b=none:=λb hb=>by
 rcases List.mem_cons.mp (I.stkSub b hb)with e|hb;·rw[e];exact I.free
 ·obtain⟨_,o,ho,_⟩:=I.ok.funs.mem hb;exact I.base.free b o ho (I.ok.frf b hb) λz=>I.ok.exfs b z hb
theorem zu.step{g':Array GenState}{t':Nat}{d':Drawn}{ch:List Addr}(I:zu X pins σ H s)(hch:∀b∈ch,(b∈X.ex\/X.s₀.heap.objs.size<=b)/\b≠X.env.locals/\(∀x c,X.env.cells.lookup x=some c->c≠b)/\∀p∈X.pn++pins,p.1≠b)(keep:∀b o,b≠X.env.locals->b∉X.fs->b∉ch->s.heap.get? b=some o->H b=none->h'.get? b=some o)(slot:∀b o,b≠X.env.locals->b∈X.fs->b∉ch->s.heap.get? b=some o->H b=none->∃sl,h'.get? b=some {o with slots:=sl})(free:∀b o,b∉ch->s.heap.get? b=some o->H b=none->H' b=none)(there:∀b o,b∉ch->s.heap.get? b=some o->∃o',h'.get? b=some o')(tups:∀b xs,H b=some (.tup xs)->H' b=some (.tup xs))(frzs:∀b o u,H b=some (.frz o u)->H' b=some (.frz o u))(tbls:∀b ps,H b=some (.tbl ps)->∃more,H' b=some (.tbl (ps++more)))(ns:∀m,s.heap.Ns X.env.locals m->h'.Ns X.env.locals m)(hok:pN X.prog X.w H' h')(hg:AllBare g'):zu X pins σ H' {s with heap:=h',gens:=g',drawn:=d',toks:=t'}:=by
 have neL:∀b o,X.s₀.heap.get? b=some o->b≠X.env.locals:=λb o e=>Nat.ne_of_lt (Nat.lt_of_lt_of_le ↑aQ I.ok.above);have neC:∀b o,X.s₀.heap.get? b=some o->b∉X.ex->b∉ch:=λb o e hx hb=>by
  rcases(hch b hb).1 with z|z;·exact hx z
  ·exact absurd (Nat.lt_of_lt_of_le ↑aQ z) (Nat.lt_irrefl _)
 have cellK:∀x c,X.env.cells.lookup x=some c->∀v,s.heap.IsCell c v->h'.IsCell c v:=λx c e v⟨o,ho,hd⟩=>by
  have nch:c∉ch:=λz=>(hch c z).2.2.1 x c e rfl;by_cases hc:c∈X.fs;·obtain⟨sl,q⟩:=slot c o (I.cne x c e) hc nch ho (I.freeC x c e);exact⟨_,q,hd⟩
  ·exact⟨o,keep c o (I.cne x c e) hc nch ho (I.freeC x c e),hd⟩
 refine⟨I.ok,I.os,hg,⟨λb o e n hb hx=>?_,λb o e n hb hx=>?_,λb o e n hx=>?_,λb o e hx=>?_,λb xs e=>tups b xs (I.base.tups b xs e),λb o xs e=>frzs b o xs (I.base.frzs b o xs e),λb ps e=>?_⟩,?_,λx c e=>?_,?_,λx c e=>?_,λp hp=>?_,hok,I.len⟩;·exact keep b o (neL b o e) hb (neC b o e hx) (I.base.keep b o e n hb hx) (I.base.free b o e n hx)
 ·obtain⟨sl,e1⟩:=I.base.slot b o e n hb hx;obtain⟨sl',e2⟩:=slot b _ (neL b o e) hb (neC b o e hx) e1 (I.base.free b o e n hx);exact⟨sl',e2⟩
 ·obtain⟨o',e1⟩:=I.base.there b o e hx;exact free b o' (neC b o e hx) e1 (I.base.free b o e n hx)
 ·obtain⟨o',e1⟩:=I.base.there b o e hx;exact there b o' (neC b o e hx) e1
 ·obtain⟨m1,e1⟩:=I.base.tbls b ps e;obtain⟨m2,e2⟩:=tbls b _ e1;exact⟨m1++m2,by rw[e2,Array.append_assoc]⟩
 ·obtain⟨m,hn,hl⟩:=I.loc;refine⟨m,ns m hn,λi x v e1 e2 e3=>?_⟩;obtain⟨u,r,l⟩:=hl i x v e1 e2 e3;refine⟨u,r,?_⟩;rcases l with l|⟨k,c,e,z⟩;·exact .inl l
  ·exact .inr ⟨k,c,e,cellK x c e _ z⟩
 ·obtain⟨v,z⟩:=I.cell x c e;exact⟨v,cellK x c e v z⟩
 ·obtain⟨m,⟨o,_,_,ho,_⟩,_⟩:=I.loc;exact free _ o (λz=>(hch _ z).2.1 rfl) ho I.free
 ·obtain⟨v,o,ho,hd⟩:=I.cell x c e;exact free c o (λz=>(hch c z).2.2.1 x c e rfl) ho (I.freeC x c e)
 ·obtain⟨e,n,ne,nf,d⟩:=I.pin p hp;have nch:p.1∉ch:=λz=>(hch p.1 z).2.2.2 p hp rfl;exact⟨keep p.1 p.2 ne nf nch e n,free p.1 p.2 nch e n,ne,nf,d⟩
theorem zu.un{t':Nat}(I:zu X pins σ H s)(u:Un X.fs [] H H' s.heap h')(hok:pN X.prog X.w H' h'):zu X pins σ H' {s with heap:=h',toks:=t'}:=by obtain⟨m,⟨o,es,ep,ho,r⟩,_⟩:=id I.loc;obtain⟨sl,hL⟩:=u.any ho I.free ↑T;exact I.step (g':=s.gens) (d':=s.drawn) (ch:=[]) (λ_ z=>nomatch z) (λb o _ hb _ e n=>u.keep b o e n hb ↑T) (λb o _ hb _ e n=>u.slot b o e n hb ↑T) (λb o _ e n=>u.free b o e n ↑T) (λb o _ e=>u.there b o e ↑T) u.tups u.frzs u.tbls (λm' hm=>by obtain⟨o',es',ep',ho',r'⟩:=hm;rw[ho]at ho';cases ho';exact⟨_,es',ep',hL,r'⟩) hok I.bare
theorem zu.call{g':Array GenState}{t':Nat}{d':Drawn}{ch:List Addr}(I:zu X pins σ H s)(u:Un (JS X.stack) ch H H' s.heap h')(hok:pN X.prog X.w H' h')(hg:AllBare g')(hch:∀b∈ch,(b∈X.ex\/X.s₀.heap.objs.size<=b)/\b≠X.env.locals/\(∀x c,X.env.cells.lookup x=some c->c≠b)/\∀p∈X.pn++pins,p.1≠b):zu X pins σ H' {s with heap:=h',gens:=g',drawn:=d',toks:=t'}:=by obtain⟨m,⟨o,es,ep,ho,r⟩,_⟩:=id I.loc;obtain⟨sl,hL⟩:=u.any ho I.free λz=>(hch _ z).2.1 rfl;exact I.step (ch:=ch) hch (λb o hL hb hc e n=>u.keep b o e n (λz=>(List.mem_cons.mp (I.stkSub b z)).elim hL hb) hc) (λb o _ _ hc e n=>u.any e n hc) (λb o hc e n=>u.free b o e n hc) (λb o hc e=>u.there b o e hc) u.tups u.frzs u.tbls (λm' hm=>by obtain⟨o',es',ep',ho',r'⟩:=hm;rw[ho]at ho';cases ho';exact⟨_,es',ep',hL,r'⟩) hok hg
theorem zu.turned{t':Nat}{it:Addr}(I:zu X pins σ H s)(k:∀b o,b≠it->s.heap.get? b=some o->h'.get? b=some o)(hn:H it=none)(hL:it≠X.env.locals)(h1:it∈X.ex\/X.s₀.heap.objs.size<=it)(h2:∀x c,X.env.cells.lookup x=some c->c≠it)(h3:∀p∈X.pn++pins,p.1≠it):zu X pins σ H {s with heap:=h',toks:=t'}:=by
 have nit:∀b u,H b=some u->b≠it:=λb u e z=>by rw[z,hn]at e;cases e
 refine I.step (g':=s.gens) (d':=s.drawn) (ch:=[it]) (λb hb=>?_) (λb o _ _ hc e _=>k b o (λz=>hc (by simp[z])) e) (λb o _ _ hc e _=>⟨o.slots,k b o (λz=>hc (by simp[z])) e⟩) (λ_ _ _ _ n=>n) (λb o hc e=>⟨o,k b o (λz=>hc (by simp[z])) e⟩) (λ_ _ e=>e) (λ_ _ _ e=>e) (λb ps e=>⟨#[],by rw[e];simp⟩) (λm hm=>?_) (λb u e=>?_) I.bare
 ·have e:b=it:=by simpa using hb
  subst e;exact⟨h1,hL,h2,h3⟩
 ·obtain⟨o,es,ep,ho,r⟩:=hm;exact⟨o,es,ep,k _ o (Ne.symm hL) ho,r⟩
 ·refine(I.hok b u e).stay (λc v hc q=>k c v ?_ q) (λ_ q=>q) λ_ _ q=>q;rcases hc with z|z;·rw[z];exact nit b u e
  ·exact nit c _ z
theorem zu.tok(I:zu X pins σ H s)(t:Nat):zu X pins σ H {s with toks:=t}:=I.un (h':=s.heap) (t':=t) Un.refl I.hok
theorem zu.kept{t':Nat}(I:zu X pins σ H s)(k:∀b u,s.heap.get? b=some u->h'.get? b=some u):zu X pins σ H {s with heap:=h',toks:=t'}:=I.un (Un.kept k) (I.hok.kept k)
theorem zu.laid{a:Addr}{o:HO}{t':Nat}(I:zu X pins σ H s)(k:∀b u,s.heap.get? b=some u->h'.get? b=some u)(hp:s.heap.objs.size<=a)(new:jg X.prog X.w (jm H a o) h' a o):zu X pins σ (jm H a o) {s with heap:=h',toks:=t'}:=I.un (Un.laid k hp (I.hok.fresh hp)) (I.hok.laid k hp new)
theorem zu.write{x e:Addr}{o:HO}{t':Nat}(I:zu X pins σ H s)(mu:LE (H x))(he:e=x\/H e=some (.own x))(k:∀b u,b≠e->s.heap.get? b=some u->h'.get? b=some u)(heo:∃u,h'.get? e=some u)(new:jg X.prog X.w (jm H x o) h' x o):zu X pins σ (jm H x o) {s with heap:=h',toks:=t'}:=I.un (Un.write mu he k heo) (I.hok.write mu he k heo new)
theorem zu.pins_of{pins':List ↑y}(I:zu X pins σ H s)(h:∀p∈pins',s.heap.get? p.1=some p.2/\H p.1=none/\p.1≠X.env.locals/\p.1∉X.fs/\∀v,p.2.data≠.cell v):zu X pins' σ H s:=⟨I.ok,I.os,I.bare,I.base,I.loc,I.cell,I.free,I.freeC,λp hp=>(List.mem_append.mp hp).elim (λz=>I.pin p (List.mem_append_left _ z)) (h p),I.hok,I.len⟩
theorem tq{N:List Str}(hN:N.Nodup){i j:Nat}{x:Str}(a:N[i]?=some x)(b:N[j]?=some x):i=j:=by obtain⟨h1,e1⟩:=List.getElem?_eq_some_iff.mp a;obtain⟨h2,e2⟩:=List.getElem?_eq_some_iff.mp b;exact(List.getElem_inj hN).mp (e1.trans e2.symm)
theorem Xk{M:Model}{A:Around}{E:Value->Shared->Prop}{i:Nat}{x:Str}{v:V}{u:Value}{Q:Unit->Shared->Prop}(I:zu X pins σ H s)(hN:X.N.Nodup)(hi:X.N[i]?=some x)(hx:tm X.env.scope x)(r:RelV v u)(h:∀s',zu X pins (σ.set i (some v)) H s'->(∃a,Heap.SameBut a s.heap s'.heap/\(a=X.env.locals\/X.env.cells.lookup x=some a))->Q () s')(hf:X.fn x=true\/X.env.scope.names.lookup x=some .local:=by first|exact .inl rfl|exact .inr rfl|assumption):wpAny M A (storeName X.env x u) Q E s:=by
 obtain⟨m,hn,hl⟩:=id I.loc;have hcls:(X.env.scope.kind==.class||(X.env.scope.kind==.module&&X.env.locals !=X.env.globals))=false:=by rw[I.ok.kind];rfl
 have hiσ:i<σ.length:=by rw[I.len];exact(List.getElem?_eq_some_iff.mp hi).1
 have cne:=I.cne;have tracked:∀{a:Addr}{h':Heap},(∃o,s.heap.get? a=some o/\H a=none)->Heap.SameBut a s.heap h'->pN X.prog X.w H h':=λ{a h'}ha hs b ob e=>by
  obtain⟨_,_,hfree⟩:=ha;refine(I.hok b ob e).stay (λc w' hc q=>(hs.2 c ?_).trans q) (λ_ q=>q) λ_ _ q=>q;rintro rfl;rcases hc with rfl|hc;·rw[hfree]at e;cases e
  ·rw[hfree]at hc;cases hc
 rcases hx with hk|hk
 ·refine wpAny_storeName_local hk hn (λh' hn' hs=>?_) hcls;obtain⟨oL,_,_,hoL,_⟩:=id hn;refine h _ ⟨I.ok,I.os,I.bare,⟨λb o e n hb hx=>?_,λb o e n hb hx=>?_,I.base.free,λb o e hx=>?_,I.base.tups,I.base.frzs,I.base.tbls⟩,⟨_,hn',λj y v' e1 e2 e3=>?_⟩,λy c e=>?_,I.free,I.freeC,λp hp=>?_,tracked ⟨oL,hoL,I.free⟩ hs,by simpa using I.len⟩ ⟨_,hs,.inl rfl⟩;·exact(hs.2 b (Nat.ne_of_lt (Nat.lt_of_lt_of_le ↑aQ I.ok.above))).trans (I.base.keep b o e n hb hx)
  ·obtain⟨sl,e1⟩:=I.base.slot b o e n hb hx;exact⟨sl,(hs.2 b (Nat.ne_of_lt (Nat.lt_of_lt_of_le ↑aQ I.ok.above))).trans e1⟩
  ·obtain⟨o',e1⟩:=I.base.there b o e hx;exact⟨o',(hs.2 b (Nat.ne_of_lt (Nat.lt_of_lt_of_le ↑aQ I.ok.above))).trans e1⟩
  ·by_cases hj:j=i;·subst hj;rw[hi]at e1;cases e1;rw[List.getElem?_set_self hiσ]at e2;cases e2;exact⟨u,r,.inl ⟨hk,by simp⟩⟩
   ·rw[List.getElem?_set_ne (Ne.symm hj)]at e2;obtain⟨u',r',q⟩:=hl j y v' e1 e2 e3;refine⟨u',r',?_⟩;rcases q with⟨k,e⟩|⟨k,c,e,z⟩;·refine .inl ⟨k,?_⟩;have:y≠x:=λe=>hj (tq hN e1 (e▸hi));simp[this,e]
    ·exact .inr ⟨k,c,e,z.sameBut hs (cne y c e)⟩
  ·obtain⟨w',z⟩:=I.cell y c e;exact⟨w',z.sameBut hs (cne y c e)⟩
  ·obtain⟨e,n,ne,nf,d⟩:=I.pin p hp;exact⟨(hs.2 p.1 ne).trans e,n,ne,nf,d⟩
 ·have hfn:X.fn x=true:=by
   rcases hf with z|z;·exact z
   ·rw[z]at hk;cases hk
  obtain⟨c,hc⟩:=I.ok.has x (.inl hk);obtain⟨w',z⟩:=I.cell x c hc;refine wpAny_storeName_cell I.ok.kind hk hc z (λh' hc' hs=>?_);obtain⟨oc,hoc,hocd⟩:=id z;refine h {s with heap:=h'} ⟨I.ok,I.os,I.bare,⟨λb o e n hb hx=>?_,λb o e n hb hx=>?_,I.base.free,λb o e hx=>?_,I.base.tups,I.base.frzs,I.base.tbls⟩,⟨m,hn.sameBut hs (Ne.symm (cne x c hc)),λj y v' e1 e2 e3=>?_⟩,λy c' e=>?_,I.free,I.freeC,λp hp=>?_,tracked ⟨oc,hoc,I.freeC x c hc⟩ hs,by simpa using I.len⟩ ⟨c,hs,.inr hc⟩;·exact(hs.2 b (Nat.ne_of_lt (Nat.lt_of_lt_of_le ↑aQ (I.ok.cab x c hfn hc)))).trans (I.base.keep b o e n hb hx)
  ·obtain⟨sl,e1⟩:=I.base.slot b o e n hb hx;exact⟨sl,(hs.2 b (Nat.ne_of_lt (Nat.lt_of_lt_of_le ↑aQ (I.ok.cab x c hfn hc)))).trans e1⟩
  ·obtain⟨o',e1⟩:=I.base.there b o e hx;exact⟨o',(hs.2 b (Nat.ne_of_lt (Nat.lt_of_lt_of_le ↑aQ (I.ok.cab x c hfn hc)))).trans e1⟩
  ·by_cases hj:j=i;·subst hj;rw[hi]at e1;cases e1;rw[List.getElem?_set_self hiσ]at e2;cases e2;exact⟨u,r,.inr ⟨.inl hk,c,hc,hc'⟩⟩
   ·rw[List.getElem?_set_ne (Ne.symm hj)]at e2;obtain⟨u',r',q⟩:=hl j y v' e1 e2 e3;refine⟨u',r',?_⟩;rcases q with q|⟨k,c',e,z'⟩;·exact .inl q
    ·refine .inr ⟨k,c',e,z'.sameBut hs ?_⟩;rintro rfl;exact hj (tq hN e1 (I.ok.inj _ _ _ e hc▸hi))
  ·by_cases hcc:c'=c;·subst hcc;exact⟨_,hc'⟩
   ·obtain⟨w2,z2⟩:=I.cell y c' e;exact⟨w2,z2.sameBut hs hcc⟩
  ·obtain⟨e,n,ne,nf,d⟩:=I.pin p hp;refine⟨(hs.2 p.1 ?_).trans e,n,ne,nf,d⟩;intro q;rw[q,hoc]at e;have q':oc=p.2:=Option.some.inj e;exact d w' (by rw[<-q'];exact hocd)
theorem ik{M:Model}{A:Around}{E:Value->Shared->Prop}{i:Nat}{x:Str}{v:V}{u:Value}{Q:Unit->Shared->Prop}(I:zu X pins σ H s)(hN:X.N.Nodup)(hi:X.N[i]?=some x)(hx:tm X.env.scope x)(r:RelV v u)(h:∀s',zu X pins (σ.set i (some v)) H s'->Q () s')(hf:X.fn x=true\/X.env.scope.names.lookup x=some .local:=by first|exact .inl rfl|exact .inr rfl|assumption):wpAny M A (storeName X.env x u) Q E s:=Xk I hN hi hx r (λs' I' _=>h s' I') hf
theorem zu.call'{s':Shared}{ch:List Addr}(I:zu X pins σ H s)(ho:s'.os=s.os)(u:Un (JS X.stack) ch H H' s.heap s'.heap)(hok:pN X.prog X.w H' s'.heap)(hg:AllBare s'.gens)(hch:∀b∈ch,(b∈X.ex\/X.s₀.heap.objs.size<=b)/\b≠X.env.locals/\(∀x c,X.env.cells.lookup x=some c->c≠b)/\∀p∈X.pn++pins,p.1≠b):zu X pins σ H' s':=by obtain⟨h',g',d',t',o'⟩:=s';have e:o'=s.os:=ho;subst e;exact I.call (g':=g') (t':=t') (d':=d') u hok hg hch
end
abbrev XK:=Value->Option Addr->Hp->Prop
abbrev St:=List (Option V)
abbrev VK:=V->Hp->Prop
abbrev TE:=St->Hp->VK->Prop
abbrev TT:=St->Hp->(Bool->Hp->Prop)->Prop
abbrev TA:=St->Hp->(List V->Hp->Prop)->Prop
structure tD where
 nx:St->Hp->Prop
 rt:VK
 bk:St->Hp->Prop:=λ_ _=>False
 ct:St->Hp->Prop:=λ_ _=>False
abbrev TS:=tD->St->Hp->Prop
def EP(X:Cx)(pins:List ↑y)(σ:St)(Q:VK)(u:Value)(s':Shared):Prop:=∃v H',zu X pins σ H' s'/\RelV v u/\Q v H'
def TP(X:Cx)(pins:List ↑y)(σ:St)(Q:Bool->Hp->Prop)(b:Bool)(s':Shared):Prop:=∃H',zu X pins σ H' s'/\Q b H'
def AP(X:Cx)(pins:List ↑y)(σ:St)(Q:List V->Hp->Prop)(us:List Value)(s':Shared):Prop:=∃vs H',zu X pins σ H' s'/\zL vs us/\Q vs H'
def SP(X:Cx)(pins:List ↑y)(D:tD)(f:Flow)(s':Shared):Prop:=match f with|.next=>∃σ' H',zu X pins σ' H' s'/\D.nx σ' H'|.brk=>∃σ' H',zu X pins σ' H' s'/\D.bk σ' H'|.cont=>∃σ' H',zu X pins σ' H' s'/\D.ct σ' H'|.ret u=>∃v σ' H',zu X pins σ' H' s'/\RelV v u/\D.rt v H'
def PE(X:Cx)(e:Expr)(t:TE):Prop:=∀(pins:List ↑y)(s:Shared)(σ:St)(H:Hp)(Q:VK),zu X pins σ H s->t σ H Q->wpAny ↑b X.A (eval e X.env) ↑aK X.xe s
def PT(X:Cx)(e:Expr)(t:TT):Prop:=∀(pins:List ↑y)(s:Shared)(σ:St)(H:Hp)(Q:Bool->Hp->Prop),zu X pins σ H s->t σ H Q->wpAny ↑b X.A (isTrue e X.env (eval e X.env)) (TP X pins σ Q) X.xe s
def PW(X:Cx)(e:Expr)(t:TT):Prop:=∀(whole:Sem Value)(pins:List ↑y)(s:Shared)(σ:St)(H:Hp)(Q:Bool->Hp->Prop),zu X pins σ H s->t σ H Q->wpAny ↑b X.A (isTrue e X.env whole) (TP X pins σ Q) X.xe s
def PW.pt{X:Cx}{e:Expr}{t:TT}(h:PW X e t):PT X e t:=h _
def PA(X:Cx)(es:List Expr)(t:TA):Prop:=∀(pos:Pos)(pins:List ↑y)(s:Shared)(σ:St)(H:Hp)(Q:List V->Hp->Prop),zu X pins σ H s->t σ H Q->wpAny ↑b X.A (spliced (backTo pos ↑aL)) (AP X pins σ Q) X.xe s
def PS(X:Cx)(st:Stmt)(t:TS):Prop:=∀(pins:List ↑y)(s:Shared)(σ:St)(H:Hp)(D:tD),zu X pins σ H s->t D σ H->wpAny ↑b X.A (exec st X.env) (SP X pins D) X.xe s
def tE(X:Cx)(st:List Stmt)(t:TS):Prop:=∀(pins:List ↑y)(s:Shared)(σ:St)(H:Hp)(D:tD),zu X pins σ H s->t D σ H->wpAny ↑b X.A (execs st X.env) (SP X pins D) X.xe s
def jQ{α:Type}{t:Sem α}{Q Q':α->Shared->Prop}{M:Model}{A:Around}{E:Value->Shared->Prop}{s:Shared}(h:wpAny M A t Q E s)(hQ:∀a s,Q a s->Q' a s):wpAny M A t Q' E s:=wpAny_mono h hQ λ_ _ x=>x
section
def Cq{a b:Expr}{ta tb:TE}(ha:PE X a ta)(hb:PE X b tb){pins:List ↑y}{s:Shared}{σ:St}{H:Hp}{R:V->V->Hp->Prop}(I:zu X pins σ H s)(h:ta σ H λx H1=>tb σ H1 λy H2=>R x y H2){α:Type}{Q:α->Shared->Prop}{f:Value->Value->Sem α}(hf:∀v u s2 x y H2,zu X pins σ H2 s2->RelV x v->RelV y u->R x y H2->wpAny ↑b X.A (f v u) Q X.xe s2):wpAny ↑b X.A (eval a X.env) (λv s₁=>wpAny ↑b X.A (eval b X.env) (λu s₂=>wpAny ↑b X.A (f v u) Q X.xe s₂) X.xe s₁) X.xe s:=by refine jQ ↑a6 λv s1⟨x,H1,I1,r1,q1⟩=>?_;refine jQ (hb pins s1 σ H1 _ I1 q1) λu s2⟨y,H2,I2,r2,q2⟩=>?_;exact hf v u s2 x y H2 I2 r1 r2 q2
def k8(i:Nat):TE:=λσ H Q=>∃v,σ[i]?=some (some v)/\Q v H
def tC(v:V):TE:=λ_ H Q=>Q v H
def gG{i:Nat}{x:Str}{pos:Pos}(hN:X.N[i]?=some x)(hv:WB X.env.scope x)(hd:(x==↑t)=false:=by decide)(hcd:(x==("__classdict__":Str))=false:=by decide):PE X (.Name x pos) (k8 i):=by
 intro pins s σ H Q I h;obtain⟨v,e,h⟩:=h;obtain⟨m,hn,hl⟩:=I.loc;obtain⟨u,r,l⟩:=hl i x v hN e hv;have fin:EP X pins σ Q u s:=⟨v,H,I,r,h⟩;rcases l with⟨hk,hm⟩|⟨hk,c,hc,hcell⟩;·exact wpAny_Name (wpAny_loadName_local I.ok.kind hk hn hm fin) hd
 ·rcases hk with hk|hk;·exact wpAny_Name (wpAny_loadName_cell I.ok.kind hk hc hcell fin) hd
  ·exact wpAny_Name (wpAny_loadName_free I.ok.kind hk hc hcell fin hcd) hd
def UX{i j pos}:PE X (.Constant (.int i) j pos) (tC (.int i)):=λ_ _ _ H _ I h=>wpAny_Constant_int ⟨.int i,H,I.tok _,⟨_,rfl⟩,h⟩
def LF{b j pos}:PE X (.Constant (.bool b) j pos) (tC (.bl b)):=λ_ _ _ H _ I h=>Constant_bool ⟨.bl b,H,I,rfl,h⟩
def UY{j pos}:PE X (.Constant .none j pos) (tC .non):=λ_ _ _ H _ I h=>Constant_none ⟨.non,H,I,rfl,h⟩
def UZ{x j pos}:PE X (.Constant (.str x) j pos) (tC (.str x)):=λ_ _ _ H _ I h=>Calls.Constant_str ⟨.str x,H,I.tok _,⟨_,rfl⟩,h⟩
def Gl(X:Cx)(x:Str):Prop:=X.env.kindOf x=some .globalImplicit
def bF{E:Value->Shared->Prop}{pins:List ↑y}{s:Shared}{σ:St}{H:Hp}{x:Str}{u:Value}{pos:Pos}{Q:Value->Shared->Prop}(I:zu X pins σ H s)(hg:Gl X x)(hm:X.mg x=some u)(h:Q u s)(hd:(x==↑t)=false:=by decide):wpAny ↑b X.A (eval (.Name x pos) X.env) Q E s:=Calls.Name_function_global I.ok.kind hg (Calls.loadGlobal_global (by rw[I.ok.glob];exact I.mod.glob.keeps I.bk) hm h) hd
def qo{E:Value->Shared->Prop}{pins:List ↑y}{s:Shared}{σ:St}{H:Hp}{x:Str}{u:Value}{pos:Pos}{Q:Value->Shared->Prop}(I:zu X pins σ H s)(hg:Gl X x)(hm:X.mg x=none)(hv:bootBuiltins x=some u)(h:Q u s)(hn:x≠"__name__":=by decide)(hd:(x==↑t)=false:=by decide):wpAny ↑b X.A (eval (.Name x pos) X.env) Q E s:=by obtain⟨mb,h1,h2⟩:=I.mod.blt;exact Calls.Name_function_global I.ok.kind hg (Calls.loadGlobal_builtin (by rw[I.ok.glob];exact I.mod.glob.keeps I.bk) hm (by rw[I.ok.blt];exact h1.keeps I.bk) ((h2 x hn).trans hv) h) hd
def gH{x:Str}{v:V}{u:Value}{pos:Pos}(hg:Gl X x)(hm:X.mg x=some u)(r:RelV v u)(hd:(x==↑t)=false:=by decide):PE X (.Name x pos) (tC v):=λ_ _ _ H _ I h=>bF I hg hm ⟨v,H,I,r,h⟩ hd
def QG{x:Str}{v:V}{u:Value}{pos:Pos}(hg:Gl X x)(hm:X.mg x=none)(hv:bootBuiltins x=some u)(r:RelV v u)(hn:x≠"__name__":=by decide)(hd:(x==↑t)=false:=by decide):PE X (.Name x pos) (tC v):=λ_ _ _ H _ I h=>qo I hg hm hv ⟨v,H,I,r,h⟩ hn hd
def PC(X:Cx)(op:CmpOp)(a b:Expr)(t:TE):Prop:=∀(pins:List ↑y)(s:Shared)(σ:St)(H:Hp)(Q:VK),zu X pins σ H s->t σ H Q->wpAny ↑b X.A (eval a X.env) (λv s₁=>wpAny ↑b X.A (eval b X.env) (λu s₂=>wpAny ↑b X.A (compareOp op v u) ↑aK X.xe s₂) X.xe s₁) X.xe s
def tF(b:Expr){op:CmpOp}(h:op≠.In)(h2:op≠.NotIn):behindInMarks op b=false:=by
 have e1:(op==CmpOp.In)=false:=by cases op<;>first|rfl|exact absurd rfl h
 have e2:(op==CmpOp.NotIn)=false:=by cases op<;>first|rfl|exact absurd rfl h2
 cases b<;>simp[behindInMarks,e1,e2]
def tB(t:TE):TT:=λσ H Q=>t σ H λx H1=>∃c,x=.bl c/\Q c H1
def N1{op:CmpOp}{t:TE}(h:PC X op a b t)(h1:behindInMarks op b=false:=by first|exact tF _ ↑v ↑v|rfl):PE X (.Compare a [op] [b] pos) t:=λpins s σ H Q I hw=>wpAny_Compare1 (h pins s σ H Q I hw) h1
def WN{op:CmpOp}{t:TE}(h:PC X op a b t)(h1:behindInMarks op b=false:=by first|exact tF _ ↑v ↑v|rfl):PT X (.Compare a [op] [b] pos) (tB t):=by intro pins s σ H Q I hw;refine wpAny_isTrue_Compare1 (jQ (h pins s σ H _ I hw) λv s1 h1=>jQ h1 λu s2 h2=>jQ h2 λc s3⟨x,H1,I1,r1,q1⟩=>?_) h1;obtain⟨d,rfl,q⟩:=q1;cases r1;exact wpAny_truthy_bool ⟨H1,I1,q⟩
variable{tA tB':TT}{rest:List Expr}
def LG(t u:TT):TT:=λσ H Q=>t σ H λc H1=>if c=true then u σ H1 Q else Q false H1
def Dq(t u:TT):TT:=λσ H Q=>t σ H λc H1=>if c=true then Q true H1 else u σ H1 Q
def LI(t:TT):TT:=λσ H Q=>t σ H λc H1=>Q (!c) H1
theorem QH(ha:PT X a tA):PW X (.BoolOp .And [a] pos) tA:=by intro wh pins s σ H Q I h;refine isTrue_and (jQ (ha pins s σ H Q I h) λc s1 e=>?_);cases c with|true=>exact isTrue_and_nil e|false=>exact e
theorem N3(ha:PT X a tA):PW X (.BoolOp .Or [a] pos) tA:=by intro wh pins s σ H Q I h;refine isTrue_or (jQ (ha pins s σ H Q I h) λc s1 e=>?_);cases c with|false=>exact isTrue_or_nil e|true=>exact e
theorem N4(ha:PT X a tA)(hb:PW X (.BoolOp .And (b::rest) pos) tB'):PW X (.BoolOp .And (a::b::rest) pos) (LG tA tB'):=by intro wh pins s σ H Q I h;refine isTrue_and (jQ ↑a6 λc s1⟨H1,I1,q1⟩=>?_);cases c with|true=>exact hb wh pins s1 σ H1 Q I1 q1|false=>exact⟨H1,I1,q1⟩
theorem LJ(ha:PT X a tA)(hb:PW X (.BoolOp .Or (b::rest) pos) tB'):PW X (.BoolOp .Or (a::b::rest) pos) (Dq tA tB'):=by intro wh pins s σ H Q I h;refine isTrue_or (jQ ↑a6 λc s1⟨H1,I1,q1⟩=>?_);cases c with|true=>exact⟨H1,I1,q1⟩|false=>exact hb wh pins s1 σ H1 Q I1 q1
theorem N5(ha:PT X a tA):PT X (.UnaryOp .Not a pos) (LI tA):=by intro pins s σ H Q I h;exact isTrue_not (ha pins s σ H (λc H1=>Q (!c) H1) I h)
def LK(ta tb:TE):TE:=λσ H Q=>ta σ H λx H1=>∃c,x=.bl c/\if c=true then tb σ H1 Q else Q (.bl false) H1
def Ee(ta tb:TE):TE:=λσ H Q=>ta σ H λx H1=>∃c,x=.bl c/\if c=true then Q (.bl true) H1 else tb σ H1 Q
def LL(ta:TE):TE:=λσ H Q=>ta σ H λx H1=>∃c,x=.bl c/\Q (.bl (!c)) H1
theorem N6{op}{t:TE}(h:PE X a t):PE X (.BoolOp op [a] pos) t:=λpins s σ H Q I hw=>BoolOp_one (h pins s σ H Q I hw)
theorem N7(ha:PE X a ta)(hb:PE X (.BoolOp .And (b::rest) pos) tb):PE X (.BoolOp .And (a::b::rest) pos) (LK ta tb):=by intro pins s σ H Q I h;refine BoolOp_and (jQ ↑a6 λv s1⟨x,H1,I1,r1,q1⟩=>?_);obtain⟨c,rfl,q1⟩:=q1;cases r1;refine wpAny_truthy_bool ?_;cases c with|true=>exact hb pins s1 σ H1 Q I1 q1|false=>exact⟨.bl false,H1,I1,rfl,q1⟩
theorem LM(ha:PE X a ta)(hb:PE X (.BoolOp .Or (b::rest) pos) tb):PE X (.BoolOp .Or (a::b::rest) pos) (Ee ta tb):=by intro pins s σ H Q I h;refine BoolOp_or (jQ ↑a6 λv s1⟨x,H1,I1,r1,q1⟩=>?_);obtain⟨c,rfl,q1⟩:=q1;cases r1;refine wpAny_truthy_bool ?_;cases c with|false=>exact hb pins s1 σ H1 Q I1 q1|true=>exact⟨.bl true,H1,I1,rfl,q1⟩
theorem N8(ha:PE X a ta):PE X (.UnaryOp .Not a pos) (LL ta):=by intro pins s σ H Q I h;refine UnaryOp_ (jQ ↑a6 λv s1⟨x,H1,I1,r1,q1⟩=>?_);obtain⟨c,rfl,q1⟩:=q1;cases r1;exact not_of (wpAny_truthy_bool ⟨.bl (!c),H1,I1,rfl,q1⟩)
def HE(t:TT)(ta tb:TE):TE:=λσ H Q=>t σ H λc H1=>if c=true then ta σ H1 Q else tb σ H1 Q
theorem tG{c:Expr}(hc:PT X c tA)(ha:PE X a ta)(hb:PE X b tb):PE X (.IfExp c a b pos) (HE tA ta tb):=by intro pins s σ H Q I h;refine wpAny_IfExp (jQ (hc pins s σ H _ I h) λd s1⟨H1,I1,q1⟩=>?_);cases d with|true=>exact ha pins s1 σ H1 Q I1 q1|false=>exact hb pins s1 σ H1 Q I1 q1
end
def nO(K:W.Frag)(H:Hp)(a:Addr)(xs:List V):Prop:=Rd H a (.lst xs)\/∃(o:Obj)(its:Array Value)(n:Nat),K.lookup a=some o/\o.cls=.type "list"/\o.dict=none/\o.data=.seq its n/\its.size<=sizeLine/\zL xs its.toList
def lw(K:W.Frag)(H:Hp)(a:Addr)(xs:List V):Prop:=Rd H a (.tup xs)\/∃(o:Obj)(its:Array Value)(n:Nat),K.lookup a=some o/\o.cls=.type "tuple"/\o.data=.seq its n/\its.size<=sizeLine/\zL xs its.toList
def Ef:Value->Option V|.none=>some .non|.bool b=>some (.bl b)|.int i _=>some (.int i)|.str x _=>some (.str x)|.bytes b _=>some (.byt b)|.float b _=>some (.flt b)|.ref a=>some (.ref a)|.type n=>some (.ty n)|_=>none
def RelV.abs{x:V}{u:Value}(r:RelV x u):Ef u=some x:=by cases x with|non=>cases r;rfl|bl _=>cases r;rfl|int _=>obtain⟨t,rfl⟩:=r;rfl|str _=>obtain⟨t,rfl⟩:=r;rfl|byt _=>obtain⟨t,rfl⟩:=r;rfl|flt _=>obtain⟨t,rfl⟩:=r;rfl|ref _=>cases r;rfl|ty _=>cases r;rfl
def RelV.inj{x y:V}{u:Value}(r:RelV x u)(q:RelV y u):x=y:=Option.some.inj (r.abs.symm.trans q.abs)
def zL.inj:∀{xs ys:List V}{us:List Value},zL xs us->zL ys us->xs=ys|_,_,_,.nil,.nil=>rfl|_,_,_,.cons r t,.cons r' t'=>by rw[r.inj r',zL.inj t t']
def zu.list(I:zu X pins σ H s)(h:nO X.K H a xs):∃its:List Value,zL xs its/\PlainL s.heap a its.toArray/\xs.length<=sizeLine:=by
 rcases h with h|⟨o,its,n,hk,hc,hd,hs,hz,r⟩;·obtain⟨z,its,n,r,e⟩:=h.ok I.hok;exact⟨its,r,⟨_,n,e,rfl,rfl,rfl⟩,z⟩
 ·refine⟨its.toList,r,⟨o,n,I.kIn a o hk,hc,hd,by simpa using hs⟩,?_⟩;have e:=r.length;simp only[Array.length_toList]at e;omega
def zu.tuple(I:zu X pins σ H s)(h:lw X.K H a xs):∃its:List Value,zL xs its/\IsTup s.heap a its.toArray/\xs.length<=sizeLine:=by
 rcases h with h|⟨o,its,n,hk,hc,hs,hz,r⟩;·obtain⟨z,its,r,p⟩:=h.ok I.hok;exact⟨its,r,p,z⟩
 ·refine⟨its.toList,r,⟨o,I.kIn a o hk,hc,n,by simpa using hs⟩,?_⟩;have e:=r.length;simp only[Array.length_toList]at e;omega
def zu.list_inj(I:zu X pins σ H s)(h:nO X.K H a xs)(h':nO X.K H a ys):xs=ys:=by
 obtain⟨its,r,⟨o,n,e,_,_,d⟩,_⟩:=I.list h;obtain⟨its',r',⟨o',n',e',_,_,d'⟩,_⟩:=I.list h';rw[e]at e';cases e';rw[d]at d';injection d' with d1 _;have:its=its':=by simpa using congrArg Array.toList d1
 subst this;exact r.inj r'
def zu.tuple_inj(I:zu X pins σ H s)(h:lw X.K H a xs)(h':lw X.K H a ys):xs=ys:=by
 obtain⟨its,r,⟨o,e,_,n,d⟩,_⟩:=I.tuple h;obtain⟨its',r',⟨o',e',_,n',d'⟩,_⟩:=I.tuple h';rw[e]at e';cases e';rw[d]at d';injection d' with d1 _;have:its=its':=by simpa using congrArg Array.toList d1
 subst this;exact r.inj r'
section
variable{X:Cx}{st:Stmt}{rest:List Stmt}{t u:TS}{e:Expr}{te:TE}{pos:Pos}
def tH:TS:=λD σ H=>D.nx σ H
def ly(t u:TS):TS:=λD σ H=>t {D with nx:=u D} σ H
theorem bG:tE X [] tH:=λ_ _ σ H _ I h=>wpAny_execs_nil ⟨σ,H,I,h⟩
theorem qp(h1:PS X st t)(h2:tE X rest u):tE X (st::rest) (ly t u):=by intro pins s σ H D I h;refine wpAny_execs_cons (jQ (h1 pins s σ H {D with nx:=u D} I h) λf s1 q=>?_);cases f with|next=>obtain⟨σ',H',I',q⟩:=q;exact h2 pins s1 σ' H' D I' q|ret v=>exact q|brk=>exact q|cont=>exact q
theorem uG(h1:PS X st t):tE X [st] t:=by intro pins s σ H D I h;refine wpAny_execs_cons (jQ (h1 pins s σ H D I h) λf s1 q=>?_);cases f with|next=>exact wpAny_execs_nil q|ret v=>exact q|brk=>exact q|cont=>exact q
def N9:TS:=λD σ H=>D.bk σ H
theorem WO:PS X (.Break pos) N9:=λ_ _ σ H _ I h=>wpAny_Break ⟨σ,H,I,h⟩
theorem zu.quiet{pins:List ↑y}{σ:St}{H:Hp}{s:Shared}(I:zu X pins σ H s):interactive X.env=false:=by simp[interactive,I.ok.kind]
def JT(te:TE):TS:=λD σ H=>te σ H λ_ H1=>D.nx σ H1
theorem vv(he:PE X e te)(hs:swapsWith e none pos.line X.env=pure false:=by rfl):PS X (.Expr e pos) (JT te):=by intro pins s σ H D I h;exact wpAny_Expr_any (jQ (he pins s σ H _ I h) λv s1⟨x,H1,I1,r1,q1⟩=>⟨σ,H1,I1,q1⟩) I.quiet hs
def Eg(te:TE):TS:=λD σ H=>te σ H D.rt
theorem Zv(he:PE X e te):PS X (.Return (some e) pos) (Eg te):=by intro pins s σ H D I h;exact wpAny_Return_some (jQ (he pins s σ H _ I h) λv s1⟨x,H1,I1,r1,q1⟩=>⟨x,σ,H1,I1,r1,q1⟩)
def WP(c:TT)(t u:TS):TS:=λD σ H=>c σ H λb H1=>if b=true then t D σ H1 else u D σ H1
theorem WQ{c:Expr}{a b:List Stmt}{tc:TT}(hc:PT X c tc)(ha:tE X a t)(hb:tE X b u):PS X (.If c a b pos) (WP tc t u):=by intro pins s σ H D I h;refine wpAny_If (jQ (hc pins s σ H _ I h) λd s1⟨H1,I1,q1⟩=>?_);cases d with|true=>exact ha pins s1 σ H1 D I1 q1|false=>exact hb pins s1 σ H1 D I1 q1
def nR:TS:=λ_ _ _=>False
theorem WR:PS X st nR:=λ_ _ _ _ _ _ h=>h.elim
theorem Xl{sts:List Stmt}:tE X sts nR:=λ_ _ _ _ _ _ h=>h.elim
end
abbrev TG:=V->St->Hp->(St->Hp->Prop)->Prop
abbrev Ug:=List V->St->Hp->(St->Hp->Prop)->Prop
def PG(X:Cx)(target:Expr)(t:TG):Prop:=∀(pins:List ↑y)(s:Shared)(σ:St)(H:Hp)(v:V)(u:Value)(Q:St->Hp->Prop),zu X pins σ H s->RelV v u->t v σ H Q->wpAny ↑b X.A (assign target X.env u) (λ_ s'=>∃σ' H',zu X pins σ' H' s'/\Q σ' H') X.xe s
def LN(X:Cx)(ts:List Expr)(t:Ug):Prop:=∀(pins:List ↑y)(s:Shared)(σ:St)(H:Hp)(vs:List V)(us:List Value)(Q:St->Hp->Prop),zu X pins σ H s->zL vs us->t vs σ H Q->wpAny ↑b X.A (assignInOrder ((assignEach ts X.env).map (·.2)) us) (λ_ s'=>∃σ' H',zu X pins σ' H' s'/\Q σ' H') X.xe s
abbrev Na:=V->V->V->Hp->(Hp->Prop)->Prop
def LO(X:Cx)(t:Na):Prop:=∀(pins:List ↑y)(s:Shared)(σ:St)(H:Hp)(o i v:V)(ov iv u:Value)(Q:Hp->Prop),zu X pins σ H s->RelV o ov->RelV i iv->RelV v u->t o i v H Q->wpAny ↑b X.A (setItem ov iv u) (λ_ s'=>∃H',zu X pins σ H' s'/\Q H') X.xe s
abbrev Eh:=V->V->Hp->VK->Prop
def Dr(X:Cx)(op:Operator)(t:Eh):Prop:=∀(pins:List ↑y)(s:Shared)(σ:St)(H:Hp)(x y:V)(v u:Value)(Q:VK),zu X pins σ H s->RelV x v->RelV y u->t x y H Q->wpAny ↑b X.A (inplaceOp op v u) ↑aK X.xe s
def gf(i:Nat):TG:=λv σ H Q=>Q (σ.set i (some v)) H
def uH{i:Nat}{x:Str}(hN:X.N.Nodup)(hi:X.N[i]?=some x)(hx:tm X.env.scope x)(hf:X.fn x=true\/X.env.scope.names.lookup x=some .local:=by first|exact .inl rfl|exact .inr rfl|assumption):PG X (.Name x pos) (gf i):=by intro pins s σ H v u Q I r h;exact wpAny_assign_Name (ik I hN hi hx r (λs' I'=>⟨_,H,I',h⟩) hf)
def Nb:Ug:=λvs σ H Q=>vs=[]/\Q σ H
def tI(t:TG)(u:Ug):Ug:=λvs σ H Q=>∃v r,vs=v::r/\t v σ H λσ' H'=>u r σ' H' Q
def JU:LN X [] Nb:=by intro pins s σ H vs us Q I r h;obtain⟨e,h⟩:=h;subst e;cases r;exact assignInOrder_nil ⟨σ,H,I,h⟩
def im{e:Expr}{es:List Expr}{t:TG}{u:Ug}(h1:PG X e t)(h2:LN X es u)(hs:(assignEach (e::es) X.env).map (·.2)=assign e X.env::(assignEach es X.env).map (·.2):=by rfl):LN X (e::es) (tI t u):=by intro pins s σ H vs us Q I r h;obtain⟨v,vr,e1,h⟩:=h;subst e1;cases r with|cons r rr=>rw[hs];refine assignInOrder_cons (jQ (h1 pins s σ H _ _ _ I r h) λ_ s1⟨σ1,H1,I1,q1⟩=>?_);exact h2 pins s1 σ1 H1 _ _ Q I1 rr q1
def Nc(K:W.Frag)(n:Nat)(t:Ug):TG:=λv σ H Q=>∃a xs,v=.ref a/\lw K H a xs/\xs.length=n/\t xs σ H Q
def WS{es:List Expr}{k:Nat}{t:Ug}{n:Nat}(hc:X.calm=true)(h:LN X es t)(hn:(assignEach es X.env).length=n:=by rfl)(hst:(assignEach es X.env).findIdx? (·.1)=none:=by rfl):PG X (.Tuple es k pos) (Nc X.K n t):=by intro pins s σ H v u Q I r hw;obtain⟨a,xs,e1,hq,hl,hw⟩:=hw;subst e1;cases r;obtain⟨its,rv,ht,hz⟩:=I.tuple hq;refine assign_Tuple_tuple (I.ok.hd hc) ht (by simp[hn,<-hl,rv.length]) hst λh' hx=>?_;have I1:zu X pins σ H {s with heap:=h'}:=I.kept (t':=s.toks) λb o e=>hx b o (Nat.ne_of_lt ↑aQ) e;exact h pins _ σ H xs _ Q I1 (by simpa using rv) hw
def LP(to ti:TE)(t:Na):TG:=λv σ H Q=>to σ H λo H1=>ti σ H1 λi H2=>t o i v H2 λH3=>Q σ H3
def Nd{o i:Expr}{to ti:TE}{t:Na}(ho:PE X o to)(hi:PE X i ti)(hs:LO X t)(ha:∀v,assign (.Subscript o i pos) X.env v=(do
   let ov<-holding [v] (eval o X.env)let iv<-holding [v,ov] (eval i X.env)standAt pos
   holding [v,ov,iv] (setItem ov iv v)release [v,ov,iv] []):=by intro _;rfl):PG X (.Subscript o i pos) (LP to ti t):=by intro pins s σ H v u Q I r h;rw[ha];refine wpAny_bind (wpAny_holding (jQ (ho pins s σ H _ I h) λov s1⟨x,H1,I1,r1,q1⟩=>?_));refine wpAny_bind (wpAny_holding (jQ (hi pins s1 σ H1 _ I1 q1) λiv s2⟨y,H2,I2,r2,q2⟩=>?_));refine wpAny_bind (wpAny_standAt (wpAny_bind (wpAny_holding (jQ (hs pins s2 σ H2 x y v ov iv u _ I2 r1 r2 r q2) λ_ s3⟨H3,I3,q3⟩=>?_))));exact wpAny_release ⟨σ,H3,I3,q3⟩
def tJ(te:TE)(g:TG):TS:=λD σ H=>te σ H λx H1=>g x σ H1 D.nx
def Nf{tg e:Expr}{te:TE}{g:TG}(he:PE X e te)(hg:PG X tg g)(hs:swapsWithSole [tg] e pos.line X.env=pure false:=by rfl)(hw:swappedStores [tg] e X.env=pure none:=by rfl)(h1:(assignEach [tg] X.env).map (·.2)=[assign tg X.env]:=by rfl):PS X (.Assign [tg] e pos) (tJ te g):=by intro pins s σ H D I h;refine wpAny_Assign_stores (jQ (he pins s σ H _ I h) λv s1⟨x,H1,I1,r1,q1⟩=>?_) hs hw;rw[h1];exact jQ (hg pins s1 σ H1 x v _ I1 r1 q1) λ_ s2 q=>q
def Zw{i:Nat}{x:Str}{e:Expr}{te:TE}{pos':Pos}(hN:X.N.Nodup)(hi:X.N[i]?=some x)(hx:tm X.env.scope x)(he:PE X e te)(hs:swapsWith e (some (.Name x pos')) pos.line X.env=pure false:=by rfl)(hf:X.fn x=true\/X.env.scope.names.lookup x=some .local:=by first|exact .inl rfl|exact .inr rfl|assumption):PS X (.Assign [.Name x pos'] e pos) (tJ te (gf i)):=by intro pins s σ H D I h;refine wpAny_Assign_Name (jQ (he pins s σ H _ I h) λv s1⟨y,H1,I1,r1,q1⟩=>?_) hs;exact ik I1 hN hi hx r1 (λs2 I2=>⟨_,H1,I2,q1⟩) hf
def Ei(i:Nat)(te:TE)(ti:Eh):TS:=λD σ H=>∃x,σ[i]?=some (some x)/\te σ H λy H1=>ti x y H1 λz H2=>D.nx (σ.set i (some z)) H2
def Ng{i:Nat}{x:Str}{e:Expr}{te:TE}{op:Operator}{ti:Eh}{pos':Pos}(hN:X.N.Nodup)(hi:X.N[i]?=some x)(hx:tm X.env.scope x)(he:PE X e te)(ho:Dr X op ti)(hf:X.fn x=true\/X.env.scope.names.lookup x=some .local:=by first|exact .inl rfl|exact .inr rfl|assumption):PS X (.AugAssign (.Name x pos') op e pos) (Ei i te ti):=by
 intro pins s σ H D I h;obtain⟨v,e1,h⟩:=h;obtain⟨m,hn,hl⟩:=I.loc;have vis:WB X.env.scope x:=by rcases hx with k|k;exact .inl k;exact .inr (.inl k)
 obtain⟨u,r,l⟩:=hl i x v hi e1 vis;refine wpAny_AugAssign_Name ?_;have go:wpAny ↑b X.A (eval e X.env) (λw s₂=>wpAny ↑b X.A (inplaceOp op u w) (λr s₃=>wpAny ↑b X.A (storeName X.env x r) (λ_=>SP X pins D .next) X.xe s₃) X.xe s₂) X.xe s:=by refine jQ (he pins s σ H _ I h) λw s1⟨y,H1,I1,r1,q1⟩=>?_;refine jQ (ho pins s1 σ H1 v y u w _ I1 r r1 q1) λz s2⟨zv,H2,I2,r2,q2⟩=>?_;exact ik I2 hN hi hx r2 (λs3 I3=>⟨_,H2,I3,q2⟩) hf
 rcases l with⟨hk,hm⟩|⟨hk,c,hc,hcell⟩;·exact wpAny_loadName_local I.ok.kind hk hn hm go
 ·rcases hk with hk|hk;·exact wpAny_loadName_cell I.ok.kind hk hc hcell go
  ·rcases hx with k|k;·have:X.env.scope.names.lookup x=some .free:=hk;rw[k]at this;cases this
   ·have:X.env.scope.names.lookup x=some .free:=hk;rw[k]at this;cases this
def Nh(c:TT)(tb:TS):TS:=λD σ H=>∃W:Nat->St->Hp->Prop,(∃m,W m σ H)/\∀m σ H,W m σ H->c σ H λb H1=>if b=true then∃N:St->Hp->Prop,(∀σ' H',N σ' H'->∃m',m'<m/\W m' σ' H')/\tb {D with nx:=N,ct:=N,bk:=D.nx} σ H1 else D.nx σ H1
def WT{c:Expr}{body:List Stmt}{tc:TT}{tb:TS}(hp:PassesOwn ↑b X.A X.env X.xe)(hc:PT X c tc)(hb:tE X body tb):PS X (.While c body [] pos) (Nh tc tb):=by intro pins s σ H D I h;obtain⟨W,⟨m0,w0⟩,turn⟩:=h;refine wpAny_While (codeAny_whileLoop (λn s'=>∃σ' H',zu X pins σ' H' s'/\W n σ' H') ?_ m0 ⟨σ,H,I,w0⟩);rintro n s1⟨σ1,H1,I1,w1⟩;refine wpAny_passesOwn hp (jQ (hc pins s1 σ1 H1 _ I1 (turn n σ1 H1 w1)) λb s2⟨H2,I2,q2⟩=>?_);cases b with
 |true=>obtain⟨N,hN,q2⟩:=q2;rw[if_pos rfl];refine wpAny_passesOwn hp (jQ (hb pins s2 σ1 H2 _ I2 q2) λf s3 q3=>?_);cases f with|next=>obtain⟨σ3,H3,I3,n3⟩:=q3;obtain⟨m',hm,w3⟩:=hN σ3 H3 n3;exact⟨m',hm,σ3,H3,I3,w3⟩|cont=>obtain⟨σ3,H3,I3,n3⟩:=q3;obtain⟨m',hm,w3⟩:=hN σ3 H3 n3;exact⟨m',hm,σ3,H3,I3,w3⟩|brk=>exact q3|ret v=>exact q3
 |false=>rw[if_neg Bool.false_ne_true];exact wpAny_execs_nil ⟨σ1,H2,I2,q2⟩
structure It where
 go:Nat->Hp->Prop
 yld:Nat->Hp->V->Hp->Prop
 stop:Nat->Hp->Prop
def uI(X:Cx)(pins:List ↑y)(H:Hp)(b:Addr):Prop:=H b=none/\b≠X.env.locals/\b∉X.fs/\(b∈X.ex\/X.s₀.heap.objs.size<=b)/\(∀x c,X.env.cells.lookup x=some c->c≠b)/\∀p∈X.pn++pins,p.1≠b
def zu.fpOk{X:Cx}{pins:List ↑y}{σ:St}{H H':Hp}{s:Shared}{b:Addr}(I:zu X pins σ H s)(hb:s.heap.objs.size<=b)(hn:H' b=none):uI X pins H' b:=by
 refine⟨hn,Nat.ne_of_gt (Nat.lt_of_lt_of_le I.lt hb),I.nofs hb,.inr (Nat.le_trans I.sz hb),λx c e z=>?_,λp hp z=>?_⟩;·obtain⟨v,q⟩:=I.cell x c e;exact absurd (Nat.lt_of_lt_of_le q.lt (by rw[z];exact hb)) (Nat.lt_irrefl _)
 ·exact absurd (Nat.lt_of_lt_of_le (Heap.lt_size (I.pin p hp).1) (by rw[z];exact hb)) (Nat.lt_irrefl _)
structure Zx(P:Program)(w:World)(K:W.Frag)(tg:Expr)(J:It)(fp:List Addr)(it:Addr)(tn:Nat->Heap->Prop):Prop where
 mem:it∈fp
 obj:∀i h,tn i h->∀b∈fp,∃o,h.get? b=some o/\∀v,o.data≠.cell v
 keep:∀i h h',tn i h->(∀b∈fp,∀o,h.get? b=some o->h'.get? b=some o)->tn i h'
 item:∀(X:Cx),X.prog=P->X.w=w->X.K=K->X.calm=true->∀(i:Nat)(pins:List ↑y)(s:Shared)(σ:St)(H:Hp)(E:Value->Shared->Prop),zu X pins σ H s->(∀b∈fp,uI X pins H b)->tn i s.heap->J.go i H->wpAny (model P w) X.A (pyNext (.ref it)) (λr s1=>∃u,r=some u/\wpAny (model P w) X.A (letOwnedTupleGo tg (.ref it) u) (λ_ s2=>∃x H',zu X pins σ H' s2/\RelV x u/\J.yld i H x H'/\tn (i+1) s2.heap/\∀b∈fp,H' b=none) E s1) E s
 done:∀(X:Cx),X.prog=P->X.w=w->X.K=K->X.calm=true->∀(i:Nat)(pins:List ↑y)(s:Shared)(σ:St)(H:Hp)(E:Value->Shared->Prop),zu X pins σ H s->(∀b∈fp,uI X pins H b)->tn i s.heap->J.stop i H->wpAny (model P w) X.A (pyNext (.ref it)) (λr s1=>r=none/\zu X pins σ H s1) E s
 self:∀(A:Around)(i:Nat)(s:Shared)(Q:Value->Shared->Prop)(E:Value->Shared->Prop),tn i s.heap->Q (.ref it) s->wpAny (model P w) A (pyIter (.ref it)) Q E s
abbrev TI:=St->Hp->(It->Hp->Prop)->Prop
def Ej(X:Cx)(pins:List ↑y)(σ:St)(tg:Expr)(R:It->Hp->Prop)(itv:Value)(s2:Shared):Prop:=∃(it:Addr)(fp:List Addr)(tn:Nat->Heap->Prop)(J:It)(H':Hp),itv=.ref it/\zu X pins σ H' s2/\Zx X.prog X.w X.K tg J fp it tn/\tn 0 s2.heap/\(∀b∈fp,uI X pins H' b)/\R J H'
def PI(X:Cx)(tg iter:Expr)(wi:TI):Prop:=∀(pins:List ↑y)(s:Shared)(σ:St)(H:Hp)(R:It->Hp->Prop),zu X pins σ H s->wi σ H R->wpAny ↑b X.A (eval iter X.env) (λv s1=>wpAny ↑b X.A (pyIter v) (Ej X pins σ tg R) X.xe s1) X.xe s
def tK{M:Model}{A:Around}{E:Value->Shared->Prop}{s:Shared}{tg:Expr}{it:Addr}{u:Value}{o:Obj}{n:String}{vs:Array Value}{Q:Unit->Shared->Prop}(ho:s.heap.get? it=some o)(hc:o.cls=.type n)(hd:o.data=.fields vs)(hn:["enumerate","zip","dict_itemiterator","dict_reverseitemiterator","odict_iterator","itertools.zip_longest","itertools.pairwise"].contains n=false)(hQ:Q () s):wpAny M A (letOwnedTupleGo tg (.ref it) u) Q E s:=by unfold letOwnedTupleGo;cases tg<;>first|exact wpAny_pure hQ|(cases u<;>first|exact wpAny_pure hQ|(refine wpAny_bind (wpAny_load ho ?_);rw[hc,hd];show wpAny M A (if(["enumerate","zip","dict_itemiterator","dict_reverseitemiterator","odict_iterator","itertools.zip_longest","itertools.pairwise"].contains n&&vs[0]?==some (rawInt _))=true then _ else _) Q E s;rw[if_neg (by intro h;rw[hn,Bool.false_and]at h;cases h)];exact wpAny_pure hQ))
def Ek(K:W.Frag)(a:Addr):It:=⟨λi H=>∃xs x,nO K H a xs/\xs[i]?=some x,λi H x H'=>H'=H/\∀xs,nO K H a xs->xs[i]?=some x,λi H=>∃xs,nO K H a xs/\xs.length<=i⟩
def El(K:W.Frag)(a:Addr):It:=⟨λi H=>∃xs x,lw K H a xs/\xs[i]?=some x,λi H x H'=>H'=H/\∀xs,lw K H a xs->xs[i]?=some x,λi H=>∃xs,lw K H a xs/\xs.length<=i⟩
def LQ(lo:Int)(n:Nat):It:=⟨λi _=>i<n,λi H x H'=>H'=H/\x=.int (lo+i),λi _=>n<=i⟩
def Xm{P:Program}{w:World}{K:W.Frag}{tg:Expr}(a it:Addr):Zx P w K tg (Ek K a) [it] it (λi h=>h.IsListIter it a i)where
 mem:=by simp
 obj:=λi h st b hb=>by
  have e:b=it:=by simpa using hb
  subst e;obtain⟨o,e,c,d⟩:=st;exact⟨o,e,λv z=>by rw[d]at z;cases z⟩
 keep:=λi h h' st k=>st.at λo e=>k it ↑T o e;item:=by intro X hP hw hK hc i pins s σ H E I hf st hg;subst hP hw hK;obtain⟨xs,x,hq,hx⟩:=hg;obtain⟨its,rv,p,hz⟩:=I.list hq;obtain⟨u,hu,ru⟩:=rv.get hx;obtain⟨f0,f1,f2,f3,f4,f5⟩:=hf it ↑T;refine wpAny_pyNext_list_item st p.isList (x:=u) (by simpa using hu) λh' st' sb=>?_;have I1:zu X pins σ H {s with heap:=h'}:=I.turned (t':=s.toks) (λb o hb e=>(sb.2 b hb).trans e) f0 f1 f3 f4 f5;obtain⟨o,e,c,d⟩:=id st';exact⟨u,rfl,tK (s:={s with heap:=h'}) e c d ↑v ⟨x,H,I1,ru,⟨rfl,λys hy=>by rw[I.list_inj hy hq];exact hx⟩,st',λb hb=>(hf b hb).1⟩⟩
 done:=by intro X hP hw hK hc i pins s σ H E I hf st hg;subst hP hw hK;obtain⟨xs,hq,hx⟩:=hg;obtain⟨its,rv,p,hz⟩:=I.list hq;obtain⟨f0,f1,f2,f3,f4,f5⟩:=hf it ↑T;have hl:=rv.length;exact wpAny_pyNext_list_end (I.ok.hd hc) st p.isList ↑aO λh' eb=>⟨rfl,I.turned (t':=s.toks) (λb o hb e=>eb b o hb e) f0 f1 f3 f4 f5⟩
 self:=λ_ _ _ _ _ st h=>wpAny_pyIter_listiter st h
def Zy{P:Program}{w:World}{K:W.Frag}{tg:Expr}(a it:Addr):Zx P w K tg (El K a) [it] it (λi h=>h.IsTupleIter it a i)where
 mem:=by simp
 obj:=λi h st b hb=>by
  have e:b=it:=by simpa using hb
  subst e;obtain⟨o,e,c,d⟩:=st;exact⟨o,e,λv z=>by rw[d]at z;cases z⟩
 keep:=λi h h' st k=>st.at λo e=>k it ↑T o e;item:=by intro X hP hw hK hc i pins s σ H E I hf st hg;subst hP hw hK;obtain⟨xs,x,hq,hx⟩:=hg;obtain⟨its,rv,p,hz⟩:=I.tuple hq;obtain⟨u,hu,ru⟩:=rv.get hx;obtain⟨f0,f1,f2,f3,f4,f5⟩:=hf it ↑T;refine wpAny_pyNext_tuple_item st (show s.heap.IsTuple a its.toArray from p) (x:=u) (by simpa using hu) λh' st' sb=>?_;have I1:zu X pins σ H {s with heap:=h'}:=I.turned (t':=s.toks) (λb o hb e=>(sb.2 b hb).trans e) f0 f1 f3 f4 f5;obtain⟨o,e,c,d⟩:=id st';exact⟨u,rfl,tK (s:={s with heap:=h'}) e c d ↑v ⟨x,H,I1,ru,⟨rfl,λys hy=>by rw[I.tuple_inj hy hq];exact hx⟩,st',λb hb=>(hf b hb).1⟩⟩
 done:=by intro X hP hw hK hc i pins s σ H E I hf st hg;subst hP hw hK;obtain⟨xs,hq,hx⟩:=hg;obtain⟨its,rv,p,hz⟩:=I.tuple hq;obtain⟨f0,f1,f2,f3,f4,f5⟩:=hf it ↑T;have hl:=rv.length;exact wpAny_pyNext_tuple_end (I.ok.hd hc) st (show s.heap.IsTuple a its.toArray from p) ↑aO λh' eb=>⟨rfl,I.turned (t':=s.toks) (λb o hb e=>eb b o hb e) f0 f1 f3 f4 f5⟩
 self:=λ_ _ _ _ _ st h=>wpAny_pyIter_tupleiter st h
def Zz{P:Program}{w:World}{K:W.Frag}{tg:Expr}(it:Addr)(lo:Int)(n:Nat):Zx P w K tg (LQ lo n) [it] it (λi h=>IsRangeIter h it (lo+(i:Nat)*1) ((n:Int)-(i:Nat)) 1)where
 mem:=by simp
 obj:=λi h st b hb=>by
  have e:b=it:=by simpa using hb
  subst e;exact⟨_,st,λv z=>by have z':Data.fields _=Data.cell v:=z;cases z'⟩
 keep:=λi h h' st k=>k it ↑T _ st;item:=by intro X hP hw hK hc i pins s σ H E I hf st hg;subst hP hw hK;obtain⟨f0,f1,f2,f3,f4,f5⟩:=hf it ↑T;have W:=Walks.range (prog:=X.prog) (w:=X.w) (I.ok.hd hc) it lo 1 n;refine W.item i s _ _ hg st λv h' tk hv st' kk=>?_;obtain⟨t,rfl⟩:=hv;have I1:zu X pins σ H {s with heap:=h',toks:=tk}:=I.turned (λb o hb e=>kk b o (by simpa using hb) e) f0 f1 f3 f4 f5;refine⟨_,rfl,tK (s:={s with heap:=h',toks:=tk}) (n:="range_iterator") st' rfl rfl ↑v ⟨.int (lo+i),H,I1,⟨t,?_⟩,⟨rfl,rfl⟩,st',λb hb=>(hf b hb).1⟩⟩;rw[Int.mul_one]
 done:=by intro X hP hw hK hc i pins s σ H E I hf st hg;subst hP hw hK;obtain⟨f0,f1,f2,f3,f4,f5⟩:=hf it ↑T;exact wpAny_pyNext_range_end (I.ok.hd hc) st (by have:n<=i:=hg;omega) λh' eb=>⟨rfl,I.turned (t':=s.toks) (λb o hb e=>eb b o hb e) f0 f1 f3 f4 f5⟩
 self:=λ_ _ _ _ _ st h=>wpAny_pyIter_rangeiter st h
def Uh(K:W.Frag)(tl:TE):TI:=λσ H R=>tl σ H λx H1=>∃a,x=.ref a/\(∃xs,nO K H1 a xs)/\R (Ek K a) H1
def LR(K:W.Frag)(tl:TE):TI:=λσ H R=>tl σ H λx H1=>∃a,x=.ref a/\(∃xs,lw K H1 a xs)/\R (El K a) H1
def QI{l:Expr}{tl:TE}(hl:PE X l tl):PI X tg l (Uh X.K tl):=by
 intro pins s σ H R I h;refine jQ (hl pins s σ H _ I h) λv s1⟨x,H1,I1,r1,q1⟩=>?_;obtain⟨a,e,⟨xs,hq⟩,q⟩:=q1;subst e;cases r1;obtain⟨its,rv,p,hz⟩:=I1.list hq;refine wpAny_pyIter_list p.isList ?_;refine⟨s1.heap.objs.size,[s1.heap.objs.size],_,_,H1,rfl,I1.kept (t':=s1.toks) λb o e=>Heap.get?_push_of_some _ e,Xm a _,⟨_,Heap.get?_push_size _ rfl,rfl,rfl⟩,λb hb=>?_,q⟩;have e:b=s1.heap.objs.size:=by simpa using hb
 subst e;exact I1.fpOk ↑e (I1.hok.fresh ↑e)
def Ni{l:Expr}{tl:TE}(hl:PE X l tl):PI X tg l (LR X.K tl):=by
 intro pins s σ H R I h;refine jQ (hl pins s σ H _ I h) λv s1⟨x,H1,I1,r1,q1⟩=>?_;obtain⟨a,e,⟨xs,hq⟩,q⟩:=q1;subst e;cases r1;obtain⟨its,rv,p,hz⟩:=I1.tuple hq;refine wpAny_pyIter_tuple (show s1.heap.IsTuple a its.toArray from p) ?_;refine⟨s1.heap.objs.size,[s1.heap.objs.size],_,_,H1,rfl,I1.kept (t':=s1.toks) λb o e=>Heap.get?_push_of_some _ e,Zy a _,⟨_,Heap.get?_push_size _ rfl,rfl,rfl⟩,λb hb=>?_,q⟩;have e:b=s1.heap.objs.size:=by simpa using hb
 subst e;exact I1.fpOk ↑e (I1.hok.fresh ↑e)
def tL{pins:List ↑y}{σ:St}{H:Hp}{s:Shared}{R:It->Hp->Prop}{E:Value->Shared->Prop}{lo hi:Int}{t u v:Tok}{tk:Nat}(I:zu X pins σ H s)(h1:-(2^62)<=lo)(h2:lo<2^62)(h3:-(2^62)<=hi)(h4:hi<2^62)(q:R (LQ lo (hi-lo).toNat) H):wpAny ↑b X.A (pyIter ↑ak) (Ej X pins σ tg R) E {s with heap:=s.heap.push {cls:=.type "range",data:=.fields #[.int lo t,.int hi u,.int 1 v]},toks:=tk}:=by
 refine wpAny_pyIter_range (IsRange.new ..) (small_one h1 h2 h3 h4) ?_;have I1:zu X pins σ H {s with heap:=s.heap.push {cls:=.type "range",data:=.fields #[.int lo t,.int hi u,.int 1 v]},toks:=tk}:=I.kept λb o e=>Heap.get?_push_of_some _ e;refine⟨(s.heap.push {cls:=.type "range",data:=.fields #[.int lo t,.int hi u,.int 1 v]}).objs.size,[(s.heap.push {cls:=.type "range",data:=.fields #[.int lo t,.int hi u,.int 1 v]}).objs.size],_,_,H,rfl,I1.kept (t':=tk) λb o e=>Heap.get?_push_of_some _ e,Zz _ lo (hi-lo).toNat,?_,λb hb=>?_,q⟩
 ·have e1:lo+((0:Nat):Int)*1=lo:=by simp
  have e2:(((hi-lo).toNat:Nat):Int)-((0:Nat):Int)=Builtin.Range.rangeSize lo hi 1:=by rw[rangeSize_one];split<;>omega
  show IsRangeIter _ _ (lo+((0:Nat):Int)*1) ((((hi-lo).toNat:Nat):Int)-((0:Nat):Int)) 1;rw[e1,e2];exact Heap.get?_push_size _ rfl
 ·have e:b=(s.heap.push {cls:=.type "range",data:=.fields #[.int lo t,.int hi u,.int 1 v]}).objs.size:=by simpa using hb
  subst e;exact I1.fpOk ↑e (I1.hok.fresh ↑e)
def LS(ta:TA):TI:=λσ H R=>ta σ H λvs H1=>∃j:Int,vs=[.int j]/\-(2^62)<=j/\j<2^62/\R (LQ 0 j.toNat) H1
def LT(ta:TA):TI:=λσ H R=>ta σ H λvs H1=>∃i j:Int,vs=[.int i,.int j]/\(-(2^62)<=i/\i<2^62/\-(2^62)<=j/\j<2^62)/\R (LQ i (j-i).toNat) H1
def cy{a:Expr}{ta:TA}{p pos:Pos}(hg:Gl X "range")(hm:X.mg "range"=none)(ha:PA X [a] ta)(hs:starEach [a] X.env=[(false,eval a X.env)]:=by rfl):PI X tg (.Call (.Name "range" p) [a] [] pos) (LS ta):=by intro pins s σ H R I h;refine Call_ (qo I hg hm boot_range (PyProof.Rows.callWith_type1 (jQ (ha pos pins s σ H _ I h) λus s1⟨vs,H1,I1,r1,q1⟩=>?_) hs rfl));obtain⟨j,e,q1,q2,q⟩:=q1;subst e;cases r1 with|cons r rr=>cases rr;obtain⟨t,rfl⟩:=r;exact call_range_1 (tL I1 ↑a ↑a q1 q2 (by simpa using q))
def Xn{a b:Expr}{ta:TA}{p pos:Pos}(hg:Gl X "range")(hm:X.mg "range"=none)(ha:PA X [a,b] ta)(hs:starEach [a,b] X.env=[(false,eval a X.env),(false,eval b X.env)]:=by rfl)(hs2:starEach [b] X.env=[(false,eval b X.env)]:=by rfl):PI X tg (.Call (.Name "range" p) [a,b] [] pos) (LT ta):=by intro pins s σ H R I h;refine Call_ (qo I hg hm boot_range (PyProof.Rows.callWith_type1 (jQ (ha pos pins s σ H _ I h) λus s1⟨vs,H1,I1,r1,q1⟩=>?_) (by rw[hs,hs2]) (by rw[hs2];rfl)));obtain⟨i,j,e,⟨q1,q2,q3,q4⟩,q⟩:=q1;subst e;cases r1 with|cons r rr=>cases rr with|cons r' rr=>cases rr;obtain⟨t,rfl⟩:=r;obtain⟨t',rfl⟩:=r';exact call_range_2 (tL I1 q1 q2 q3 q4 q)
def Nj(wi:TI)(g:TG)(tb:TS):TS:=λD σ H=>wi σ H λJ H1=>∃W:Nat->Nat->St->Hp->Prop,(∃m,W 0 m σ H1)/\∀i m σ H,W i m σ H->(J.stop i H/\D.nx σ H)\/(J.go i H/\∃N:St->Hp->Prop,(∀σ' H',N σ' H'->∃m',m'<m/\W (i+1) m' σ' H')/\∀x H',J.yld i H x H'->g x σ H' λσ2 H2=>tb {D with nx:=N,ct:=N,bk:=D.nx} σ2 H2)
def nS(fp:List Addr)(h:Heap):List ↑y:=fp.filterMap λb=>(h.get? b).map λo=>(b,o)
def vg{fp:List Addr}{h:Heap}{b:Addr}{o:Obj}(hb:b∈fp)(e:h.get? b=some o):(b,o)∈nS fp h:=List.mem_filterMap.mpr ⟨b,hb,by rw[e];rfl⟩
def Xo{fp:List Addr}{h:Heap}{p:Addr×Obj}(hp:p∈nS fp h):p.1∈fp/\h.get? p.1=some p.2:=by obtain⟨b,hb,e⟩:=List.mem_filterMap.mp hp;cases q:h.get? b with|none=>rw[q]at e;cases e|some o=>rw[q]at e;have e':(b,o)=p:=Option.some.inj e;subst e';exact⟨hb,q⟩
def zu.pinned{pins:List ↑y}{σ:St}{H:Hp}{s:Shared}{fp:List Addr}(I:zu X pins σ H s)(hf:∀b∈fp,uI X pins H b)(ho:∀b∈fp,∃o,s.heap.get? b=some o/\∀v,o.data≠.cell v):zu X (pins++nS fp s.heap) σ H s:=I.pins_of λp hp=>(List.mem_append.mp hp).elim (λz=>I.pin p (List.mem_append_right _ z)) λz=>by obtain⟨hb,e⟩:=Xo z;obtain⟨f0,f1,f2,_⟩:=hf p.1 hb;obtain⟨o,e',d⟩:=ho p.1 hb;rw[e]at e';cases e';exact⟨e,f0,f1,f2,d⟩
def zu.unpinned{pins pl:List ↑y}{σ:St}{H:Hp}{s:Shared}(I:zu X (pins++pl) σ H s):zu X pins σ H s:=I.pins_of λp hp=>I.pin p (List.mem_append_right _ (List.mem_append_left _ hp))
def WU{iter:Expr}{body:List Stmt}{wi:TI}{g:TG}{tb:TS}{pos:Pos}(hp:PassesOwn ↑b X.A X.env X.xe)(hc:X.calm=true)(hi:PI X tg iter wi)(hg:PG X tg g)(hb:tE X body tb)(hs:∀x,foldedSetIterable iter X.env x=pure x:=by intro _;rfl):PS X (.For tg iter body [] pos) (Nj wi g tb):=by
 intro pins s σ H D I h;refine wpAny_For (jQ (hi pins s σ H _ I h) λv s1 h1=>jQ h1 λitv s2 h2=>?_) hs;obtain⟨it,fp,tn,J,H2,e,I2,T,st2,f2,W,⟨m0,w0⟩,turn⟩:=h2;subst e--what stays true of the iterator's objects through the loop
 have stat:∀{H':Hp},(∀b∈fp,H' b=none)->∀b∈fp,uI X pins H' b:=λhn b hb=>⟨hn b hb,(f2 b hb).2⟩;refine codeAny_forLoop_any (λn s'=>∃i σ' H',zu X pins σ' H' s'/\tn i s'.heap/\(∀b∈fp,H' b=none)/\W i n σ' H') ?_ m0 ⟨0,σ,H2,I2,st2,λb hb=>(f2 b hb).1,w0⟩;rintro n s3⟨i,σ3,H3,I3,st3,fr3,w3⟩;rcases turn i n σ3 H3 w3 with⟨stop,qn⟩|⟨go,N,hN,step⟩;·refine wpAny_passesOwn hp (jQ (T.done X rfl rfl rfl hc i pins s3 σ3 H3 X.xe I3 (stat fr3) st3 stop) λr s4⟨hr,I4⟩=>?_);subst hr;exact wpAny_execs_nil ⟨σ3,H3,I4,qn⟩
 ·refine wpAny_passesOwn hp (jQ (T.item X rfl rfl rfl hc i pins s3 σ3 H3 X.xe I3 (stat fr3) st3 go) λr s4⟨u,hr,h4⟩=>?_);subst hr;refine wpAny_passesOwn hp (jQ h4 λ_ s5⟨x,H5,I5,r5,y5,st5,fr5⟩=>?_);have I5':=I5.pinned (stat fr5) (T.obj _ _ st5);refine wpAny_passesOwn hp (jQ (hg _ s5 σ3 H5 x u _ I5' r5 (step x H5 y5)) λ_ s6⟨σ6,H6,I6,q6⟩=>?_);refine wpAny_passesOwn hp (jQ (hb _ s6 σ6 H6 _ I6 q6) λf s7 q7=>?_);have again:∀{σ7:St}{H7:Hp},zu X (pins++nS fp s5.heap) σ7 H7 s7->N σ7 H7->∃m,m<n/\∃i σ' H',zu X pins σ' H' s7/\tn i s7.heap/\(∀b∈fp,H' b=none)/\W i m σ' H':=λ{σ7 H7}I7 n7=>by obtain⟨m',hm,w7⟩:=hN σ7 H7 n7;refine⟨m',hm,i+1,σ7,H7,I7.unpinned,T.keep _ _ _ st5 λb hb o e=>(I7.pin (b,o) ↑Z).1,λb hb=>?_,w7⟩;obtain⟨o,e,d⟩:=T.obj _ _ st5 b hb;exact(I7.pin (b,o) ↑Z).2.1
  cases f with|next=>obtain⟨σ7,H7,I7,n7⟩:=q7;exact again I7 n7|cont=>obtain⟨σ7,H7,I7,n7⟩:=q7;exact again I7 n7|brk=>obtain⟨σ7,H7,I7,q7⟩:=q7;exact⟨σ7,H7,I7.unpinned,q7⟩|ret v=>obtain⟨x7,σ7,H7,I7,r7,q7⟩:=q7;exact⟨x7,σ7,H7,I7.unpinned,r7,q7⟩
abbrev R2:=V->V->Hp->VK->Prop
def gF(X:Cx)(f:Value->Value->Sem Value)(r:R2):Prop:=∀(pins:List ↑y)(s:Shared)(σ:St)(H:Hp)(x y:V)(v u:Value)(Q:VK),zu X pins σ H s->RelV x v->RelV y u->r x y H Q->wpAny ↑b X.A (f v u) ↑aK X.xe s
def Em(X:Cx)(f:Value->Sem Value)(r:V->Hp->VK->Prop):Prop:=∀(pins:List ↑y)(s:Shared)(σ:St)(H:Hp)(x:V)(v:Value)(Q:VK),zu X pins σ H s->RelV x v->r x H Q->wpAny ↑b X.A (f v) ↑aK X.xe s
def vo(X:Cx)(f:Value)(r:List V->Hp->VK->Prop):Prop:=∀(pins:List ↑y)(s:Shared)(σ:St)(H:Hp)(xs:List V)(us:List Value)(Q:VK),zu X pins σ H s->zL xs us->r xs H Q->wpAny ↑b X.A (call f us) ↑aK X.xe s
def Eo(X:Cx)(r:V->Hp->(Bool->Hp->Prop)->Prop):Prop:=∀(pins:List ↑y)(s:Shared)(σ:St)(H:Hp)(x:V)(v:Value)(Q:Bool->Hp->Prop),zu X pins σ H s->RelV x v->r x H Q->wpAny ↑b X.A (truthy v) (TP X pins σ Q) X.xe s
def LU(r:R2)(ta tb:TE):TE:=λσ H Q=>ta σ H λx H1=>tb σ H1 λy H2=>r x y H2 Q
def DR(r:V->Hp->VK->Prop)(ta:TE):TE:=λσ H Q=>ta σ H λx H1=>r x H1 Q
def rI(C:Int->Int->Prop)(g:Int->Int->V):R2:=λx y H Q=>∃i j,x=.int i/\y=.int j/\C i j/\Q (g i j) H
def Nk(g:Int->Int->V):R2:=λx y H Q=>∃i j,x=.int i/\y=.int j/\Q (g i j) H
def rU(g:Int->V):V->Hp->VK->Prop:=λx H Q=>∃i,x=.int i/\Q (g i) H
def Nl(ha:PE X a ta)(hb:PE X b tb){pins:List ↑y}{s:Shared}{σ:St}{H:Hp}{R:V->V->Hp->Prop}(I:zu X pins σ H s)(h:ta σ H λx H1=>tb σ H1 λy H2=>R x y H2){Q:Value->Shared->Prop}{f:Value->Value->Sem Value}(hf:∀v u s2 x y H2,zu X pins σ H2 s2->RelV x v->RelV y u->R x y H2->wpAny ↑b X.A (f v u) Q X.xe s2):wpAny ↑b X.A (eval a X.env) (λv s₁=>wpAny ↑b X.A (eval b X.env) (λu s₂=>wpAny ↑b X.A (f v u) Q X.xe s₂) X.xe s₁) X.xe s:=by refine jQ ↑a6 λv s1⟨x,H1,I1,r1,q1⟩=>?_;refine jQ (hb pins s1 σ H1 _ I1 q1) λu s2⟨y,H2,I2,r2,q2⟩=>?_;exact hf v u s2 x y H2 I2 r1 r2 q2
def LV{op:Operator}{r:R2}(ho:gF X (binaryOp op) r)(ha:PE X a ta)(hb:PE X b tb):PE X (.BinOp a op b pos) (LU r ta tb):=by intro pins s σ H Q I h;exact wpAny_BinOp (Nl ha hb I h λv u s2 x y H2 I2 rx ry q=>ho pins s2 σ H2 x y v u Q I2 rx ry q)
def LW{op:UnaryOp}{r:V->Hp->VK->Prop}(ho:Em X (unaryOp op) r)(ha:PE X a ta):PE X (.UnaryOp op a pos) (DR r ta):=by intro pins s σ H Q I h;exact UnaryOp_ (jQ ↑a6 λv s1⟨x,H1,I1,r1,q1⟩=>ho pins s1 σ H1 x v Q I1 r1 q1)
def Ep{f:Value->Value->Sem Value}{C:Int->Int->Prop}{g:Int->Int->Int}(rule:∀(i j:Int)(t u:Tok)(s:Shared)(Q:Value->Shared->Prop)(E:Value->Shared->Prop),C i j->Q (.int (g i j) s.toks) {s with toks:=s.toks+1}->wpAny ↑b X.A (f (.int i t) (.int j u)) Q E s):gF X f (rI C λi j=>.int (g i j)):=by intro pins s σ H x y v u Q I rx ry h;obtain⟨i,j,rfl,rfl,hc,q⟩:=h;obtain⟨t,rfl⟩:=rx;obtain⟨t',rfl⟩:=ry;exact rule i j t t' s _ _ hc ⟨.int (g i j),H,I.tok _,⟨_,rfl⟩,q⟩
def LX{f:Value->Value->Sem Value}{g:Int->Int->Int}(rule:∀(i j:Int)(t u:Tok)(s:Shared)(Q:Value->Shared->Prop)(E:Value->Shared->Prop),Q (.int (g i j) s.toks) {s with toks:=s.toks+1}->wpAny ↑b X.A (f (.int i t) (.int j u)) Q E s):gF X f (Nk λi j=>.int (g i j)):=by intro pins s σ H x y v u Q I rx ry h;obtain⟨i,j,rfl,rfl,q⟩:=h;obtain⟨t,rfl⟩:=rx;obtain⟨t',rfl⟩:=ry;exact rule i j t t' s _ _ ⟨.int (g i j),H,I.tok _,⟨_,rfl⟩,q⟩
def Nn{f:Value->Value->Sem Value}{g:Int->Int->Bool}(rule:∀(i j:Int)(t u:Tok)(s:Shared)(Q:Value->Shared->Prop)(E:Value->Shared->Prop),Q (.bool (g i j)) s->wpAny ↑b X.A (f (.int i t) (.int j u)) Q E s):gF X f (Nk λi j=>.bl (g i j)):=by intro pins s σ H x y v u Q I rx ry h;obtain⟨i,j,rfl,rfl,q⟩:=h;obtain⟨t,rfl⟩:=rx;obtain⟨t',rfl⟩:=ry;exact rule i j t t' s _ _ ⟨.bl (g i j),H,I,rfl,q⟩
def gg(i j:Int):Prop:=0<j/\j<1073741824
def dP(i j:Int):Prop:=(-(2^64)<i/\i<2^64)\/(-(2^64)<j/\j<2^64)
def dP.ok{i j:Int}(h:dP i j):IntMulOk i j:=by
 rcases h with⟨h1,h2⟩|⟨h1,h2⟩;·exact .of_left (intBits_le_64 h1 h2)
 ·exact .of_right (intBits_le_64 h1 h2)
def No:gF X (binaryOp .Add) (Nk λi j=>.int (i+j)):=LX λ_ _ _ _ _ _ _ q=>add_int q
def Np:gF X (binaryOp .Sub) (Nk λi j=>.int (i-j)):=LX λ_ _ _ _ _ _ _ q=>sub_int q
def Nq:gF X (binaryOp .Mult) (rI dP λi j=>.int (i*j)):=Ep λ_ _ _ _ _ _ _ hc q=>mul_int q hc.ok
def QJ:gF X (binaryOp .FloorDiv) (rI gg λi j=>.int (i/j)):=Ep λi j _ _ _ _ _ hc q=>by have h1:(0:Int)<j:=hc.1;have h2:j<1073741824:=hc.2;exact floordiv_int ↑a (by rw[Int.fdiv_eq_ediv_of_nonneg i ↑a];exact q) (.inl (PyProof.noPylong_small ↑a))
def Nr:gF X (binaryOp .Mod) (rI (λ_ j=>0<j) λi j=>.int (i%j)):=Ep λi j _ _ _ _ _ hc q=>by have h1:(0:Int)<j:=hc;exact mod_int' ↑a (by rw[Int.fmod_eq_emod_of_nonneg i ↑a];exact q)
def DS{f:Value->Sem Value}{g:Int->Int}(rule:∀(i:Int)(t:Tok)(s:Shared)(Q:Value->Shared->Prop)(E:Value->Shared->Prop),Q (.int (g i) s.toks) {s with toks:=s.toks+1}->wpAny ↑b X.A (f (.int i t)) Q E s):Em X f (rU λi=>.int (g i)):=by intro pins s σ H x v Q I rx h;obtain⟨i,rfl,q⟩:=h;obtain⟨t,rfl⟩:=rx;exact rule i t s _ _ ⟨.int (g i),H,I.tok _,⟨_,rfl⟩,q⟩
def Nt:Em X (unaryOp .USub) (rU λi=>.int (-i)):=DS λ_ _ _ _ _ q=>neg_int q
def bI{pins:List ↑y}{σ:St}{H:Hp}{s:Shared}{Q:VK}{k k':Bool}(I:zu X pins σ H s)(q:Q (.bl k) H)(e:k=k'):EP X pins σ Q (.bool k') s:=by subst e;exact⟨.bl k,H,I,rfl,q⟩
def LY:gF X (compareOp .Lt) (Nk λi j=>.bl (decide (i<j))):=Nn λ_ _ _ _ _ _ _ q=>lt_int q
def LZ:gF X (compareOp .LtE) (Nk λi j=>.bl (decide (i<=j))):=Nn λ_ _ _ _ _ _ _ q=>le_int q
def I0:gF X (compareOp .Gt) (Nk λi j=>.bl (decide (j<i))):=Nn λ_ _ _ _ _ _ _ q=>gt_int q
def Xp:gF X (compareOp .Lt) (λx y H Q=>∃i j,x=.str i/\y=.str j/\Q (.bl (decide (i.cps.toList<j.cps.toList))) H):=by intro pins s σ H x y v u Q I rx ry h;obtain⟨i,j,rfl,rfl,q⟩:=h;obtain⟨t,rfl⟩:=rx;obtain⟨t',rfl⟩:=ry;exact lt_str (bI I q rfl)
def Nu:gF X (compareOp .Is) (λx y H Q=>y=.non/\Q (.bl (decide (x=.non))) H):=by intro pins s σ H x y v u Q I rx ry h;obtain⟨rfl,q⟩:=h;cases ry;refine is_none_gen (bI I q ?_);cases x<;>first|(cases rx;rfl)|(obtain⟨t,rfl⟩:=rx;rfl)
def qq(b:Expr){op:CmpOp}(h:op≠.In:=by decide)(h2:op≠.NotIn:=by decide):behindInMarks op b=false:=by
 have e1:(op==CmpOp.In)=false:=by cases op<;>first|rfl|exact absurd rfl h
 have e2:(op==CmpOp.NotIn)=false:=by cases op<;>first|rfl|exact absurd rfl h2
 cases b<;>simp[behindInMarks,e1,e2]
def QK{op:CmpOp}{r:R2}(ho:gF X (compareOp op) r)(ha:PE X a ta)(hb:PE X b tb)(hm:behindInMarks op b=false):PE X (.Compare a [op] [b] pos) (LU r ta tb):=by intro pins s σ H Q I h;exact wpAny_Compare1 (Nl ha hb I h λv u s2 x y H2 I2 rx ry q=>ho pins s2 σ H2 x y v u Q I2 rx ry q) hm
def Ui(t:TE):TT:=λσ H Q=>t σ H λx H'=>∃k,x=.bl k/\Q k H'
def QL{op:CmpOp}{r:R2}(ho:gF X (compareOp op) r)(ha:PE X a ta)(hb:PE X b tb)(hm:behindInMarks op b=false):PT X (.Compare a [op] [b] pos) (Ui (LU r ta tb)):=by intro pins s σ H Q I h;refine wpAny_isTrue_Compare1 (jQ ↑a6 λv s1⟨x,H1,I1,r1,q1⟩=>jQ (hb pins s1 σ H1 _ I1 q1) λu s2⟨y,H2,I2,r2,q2⟩=>jQ (ho pins s2 σ H2 x y v u _ I2 r1 r2 q2) λc s3⟨z,H3,I3,r3,k,e,q3⟩=>?_) hm;subst e;cases r3;exact wpAny_truthy_bool ⟨H3,I3,q3⟩
def Nv(K:W.Frag)(x:V)(H:Hp)(k:Bool):Prop:=match x with|.non=>k=false|.bl b=>k=b|.int i=>k=(i !=0)|.str y=>y.length<=sizeLine/\k=((y.length:Int)!=0)|.byt y=>y.size<=sizeLine/\k=((y.size:Int)!=0)|.ref p=>(∃xs,nO K H p xs/\k=!xs.isEmpty)\/(∃xs,lw K H p xs/\k=!xs.isEmpty)\/∃kvs,H p=some (.dK kvs)/\k=!kvs.isEmpty|_=>False
def ZA{κ:Type}{kvs:List (κ×V)}{vs:List (κ×Value)}(r:KV kvs vs):(!vs.isEmpty)=!kvs.isEmpty:=by cases r<;>rfl
def ip{xs:List V}{its:List Value}(r:zL xs its):(!its.toArray.isEmpty)=!xs.isEmpty:=by cases r<;>simp
def ug:(sizeLine:Nat)<2^63:=by rw[sizeLine_eq];decide
def Nw:Eo X (λx H Q=>∃k,Nv X.K x H k/\Q k H):=by intro pins s σ H x v Q I rx h;obtain⟨k,e,q⟩:=h;have hl:=ug;have hs:sizeLine=16777216:=sizeLine_eq;cases x with|non=>cases rx;have e':k=false:=e;subst e';exact truthy_none ⟨H,I,q⟩|bl b=>cases rx;have e':k=b:=e;subst e';exact wpAny_truthy_bool ⟨H,I,q⟩|int i=>obtain⟨t,rfl⟩:=rx;have e':k=(i !=0):=e;subst e';exact PySem.P.truthy_int ⟨H,I,q⟩|str y=>obtain⟨t,rfl⟩:=rx;obtain⟨hy,e'⟩:y.length<=sizeLine/\k=((y.length:Int)!=0):=e;subst e';exact PySem.P.truthy_str ↑a ⟨H,I.tok _,q⟩|byt y=>obtain⟨t,rfl⟩:=rx;obtain⟨hy,e'⟩:y.size<=sizeLine/\k=((y.size:Int)!=0):=e;subst e';exact W.truthy_bytes ↑a ⟨H,I.tok _,q⟩|ref p=>
  cases rx;have e':(∃xs,nO X.K H p xs/\k=!xs.isEmpty)\/(∃xs,lw X.K H p xs/\k=!xs.isEmpty)\/∃kvs,H p=some (.dK kvs)/\k=!kvs.isEmpty:=e;rcases e' with⟨xs,hx,e'⟩|⟨xs,hx,e'⟩|⟨kvs,hx,e'⟩;·subst e';obtain⟨its,r,pl,hz⟩:=I.list hx;have hlen:=r.length;exact wpAny_truthy_list pl.isList (by simp only[List.size_toArray];omega) ⟨H,I.tok _,by rw[ip r];exact q⟩
  ·subst e';obtain⟨its,r,pl,hz⟩:=I.tuple hx;have hlen:=r.length;exact truthy_tuple pl (by simp only[List.size_toArray];omega) ⟨H,I.tok _,by rw[ip r];exact q⟩
  ·subst e';obtain⟨hz,hS,vs,r,m⟩:kvs.length<=sizeLine/\(p==sysModules)=false/\∃vs,KV kvs vs/\s.heap.DictOf (jC X.prog X.w) p vs:=I.hok p _ hx;have hlen:kvs.length=vs.length:=Paired.length r;exact wpAny_truthy_dict hS m ↑a ⟨H,I.tok _,by rw[ZA r];exact q⟩|_=>exact(show False from e).elim
def WV(ha:PE X a ta)(he:∀whole,isTrue a X.env whole=(do let v<-whole;standAt a.pos;holding [v] (truthy v))):PT X a (λσ H Q=>ta σ H λx H'=>∃k,Nv X.K x H' k/\Q k H'):=by intro pins s σ H Q I h;exact isTrue_plain (jQ ↑a6 λv s1⟨x,H1,I1,r1,q1⟩=>Nw pins s1 σ H1 x v Q I1 r1 q1) (he _)
def ZB:gF X (binaryOp .Add) (λx y H Q=>∃i j,x=.str i/\y=.str j/\i.length+j.length<=sizeLine/\Q (.str (i++j)) H):=by intro pins s σ H x y v u Q I rx ry h;obtain⟨i,j,rfl,rfl,hz,q⟩:=h;obtain⟨t,rfl⟩:=rx;obtain⟨t',rfl⟩:=ry;exact add_str (λt' tk=>⟨.str (i++j),H,I.tok _,⟨_,rfl⟩,q⟩) hz
def gh{x:V}{us:List Value}(r:zL [x] us):∃u,us=[u]/\RelV x u:=by cases r with|cons r1 r2=>cases r2;exact⟨_,rfl,r1⟩
def WW{x y:V}{us:List Value}(r:zL [x,y] us):∃u w',us=[u,w']/\RelV x u/\RelV y w':=by cases r with|cons r1 r2=>cases r2 with|cons r3 r4=>cases r4;exact⟨_,_,rfl,r1,r3⟩
def Xq(hc:X.calm=true):vo X (.builtin "min") (λxs H Q=>∃i j,xs=[.int i,.int j]/\Q (.int (if j<i then j else i)) H):=by
 intro pins s σ H xs us Q I r h;obtain⟨i,j,rfl,q⟩:=h;obtain⟨u,w',rfl,⟨t,rfl⟩,⟨t',rfl⟩⟩:=WW r;refine min_two_ints (I.ok.hd hc) λh' tk k=>⟨_,H,I.kept k,?_,q⟩;by_cases hj:j<i;·rw[if_pos hj,if_pos hj];exact⟨_,rfl⟩
 ·rw[if_neg hj,if_neg hj];exact⟨_,rfl⟩
def bJ:vo X (.type "str") (λxs H Q=>∃i,xs=[.int i]/\i.natAbs.log2<1920/\Q (.str (toString i)) H):=by intro pins s σ H xs us Q I r h;obtain⟨i,rfl,hz,q⟩:=h;obtain⟨u,rfl,t,rfl⟩:=gh r;exact PySem.P.str_of_int hz ⟨.str _,H,I.tok _,⟨_,rfl⟩,q⟩
structure ZC(h:Heap)(x dx C:Addr)(mA:Str->Option Value):Prop where
 obj:h.get? x=some (W.instObj C dx)ns:h.Ns1 dx mA
 ne:dx≠x
def Xr{h:Heap}{dx:Addr}{mA:Str->Option Value}(n:h.Ns1 dx mA):∃od,h.get? dx=some od/\∀name,W.lookIn name od=some (mA name):=by
 obtain⟨o,es,ep,ho,hd,hk,_,hm⟩:=n;refine⟨o,ho,λname=>?_⟩;have e:=hm name;unfold nsFind findBy at e;rw[<-Array.find?_toList]at e;unfold W.lookIn;rw[hd];dsimp only;split;·rename_i y q;rw[q]at e;exact congrArg some e
 ·rename_i q;rw[q]at e;have a:es.toList.any (·.refKey)=false:=by rw[List.any_eq_false];intro y hy;obtain⟨z,t,hkey⟩:=hk y (Array.mem_toList_iff.mp hy);simp[DictEntry.refKey,hkey]
  have a':¬es.toList.any (·.refKey)=true:=by rw[a];exact Bool.false_ne_true
  rw[if_neg a'];exact congrArg some e
def ZC.look{h:Heap}{x dx C:Addr}{mA:Str->Option Value}(I:ZC h x dx C mA):∃od,W.InstAt h x (W.instObj C dx) C (some od)/\∀name,W.lookIn name od=some (mA name):=let⟨od,ho,hl⟩:=Xr I.ns;⟨od,⟨I.obj,rfl,rfl,ho⟩,hl⟩
section
variable{prog:Program}{w:World}{A:Around}{E:Value->Shared->Prop}{s:Shared}{K:W.Frag}{x dx C f:Addr}{mA:Str->Option Value}{name:Str}{v:Value}
theorem gI{expr:Bool}{Q:Value->Shared->Prop}(X:K.In s.heap)(I:ZC s.heap x dx C mA)(hg:W.plainGet K C name=true)(hh:W.hasDictIn K C=true)(ha:W.findIn K (.ref C) name=some none)(hv:mA name=some v)(hv':W.handedIn v=true)(h:Q v {s with toks:=s.toks+1}):wpAny ↑n A (getAttr (.ref x) name expr) Q E s:=by obtain⟨od,J,hl⟩:=I.look;exact W.get_value X J (W.plainGet_of hg).1 (W.findObj_own hh ha rfl (by rw[hl,hv])) hv' h
theorem WX{pl:Sem Bool}{Q:Value×List Value->Shared->Prop}(X:K.In s.heap)(I:ZC s.heap x dx C mA)(hg:W.plainGet K C name=true)(hf:W.findIn K (.ref C) name=some (some (.ref f)))(ht:W.isFn K (.ref f)=true)(hv:mA name=none)(h:Q (.ref f,[.ref x]) s):wpAny ↑n A (getMethod (.ref x) name pl) Q E s:=by obtain⟨od,J,hl⟩:=I.look;exact W.method_fn X J (W.plainGet_of hg).1 (W.plainGet_of hg).2 hf (beq_iff_eq.mp ht) (by show(W.lookIn name od).map (·.isSome)=some false;rw[hl,hv];rfl) h
theorem QM{ns:List Str}{Q:Unit->Shared->Prop}(X:K.In s.heap)(I:ZC s.heap x dx C mA)(hs:W.findIn K (.ref C) "__setattr__"=some (some (.builtin "object.__setattr__")))(hp:W.plainOver K C=true)(ht:W.takerIn K C name=some none)(hh:W.hasDictIn K C=true)(hw:PySem.Within mA ns)(hsz:ns.length<=sizeLine)(h:∀h',ZC h' x dx C (λy=>if y=name then some v else mA y)->Heap.SameBut dx s.heap h'->Q () {s with heap:=h',toks:=s.toks+2}):wpAny ↑n A (setAttr (.ref x) name v) Q E s:=by obtain⟨od,J,hl⟩:=I.look;refine W.set_plain X J hs (W.osa_open (s:={s with toks:=s.toks+1}) (r:=none) X J hp ht λb=>?_);obtain⟨cd,hc,hd'⟩:=W.any_some hh;have hx:s.heap.get? x=some ⟨.ref C,some dx,.plain,#[]⟩:=I.obj;refine wpAny_bind (wpAny_pure (wpAny_bind (wpAny_bind (wpAny_loadPart hx (wpAny_bind (W.Looks.here (s:={s with toks:=s.toks+1}) (W.looks_clsIn X hc) ?_))))));rw[hd'];refine wpAny_pure (a:=some dx) (wpAny_bind (wpAny_pure (wpAny_bind ?_)));refine wpAny_nsSet1 (s:={s with toks:=s.toks+1}) I.ns λh' hn2 hs2=>?_;obtain⟨oD,esD,epD,hoD,hdD,hcD⟩:=hn2.count (PySem.Within.cons name v hw);refine wpAny_bind (wpAny_lookBehind hoD (by rw[hdD];exact pastItsLine_dict (Nat.le_trans hcD (by rw[List.length_cons];omega))) ?_);exact wpAny_pure (h _ ⟨(hs2.2 _ (Ne.symm I.ne)).trans I.obj,hn2,I.ne⟩ hs2)
theorem WY{R:Result->Shared->Prop}{vs:List Value}{kw:List (Str×Value)}(X:K.In s.heap)(hm:W.makesIn K C=true)(hi:W.findIn K (.ref C) "__init__"=some (some (.ref f)))(hf:W.typeIn K (.ref f)=some (.type "function"))(h:codeAny ↑n (A.under (.builtin "type.__call__" ⟨.ref C::vs,kw⟩)) (.call (.ref f) ⟨.ref ↑w::vs,kw⟩) (W.InitBack ↑w R) {s with heap:=(s.heap.push W.emptyDict).push (W.instObj C s.heap.objs.size)}):codeAny ↑n A (.call (.ref C) ⟨vs,kw⟩) R s:=by obtain⟨hh,g,d,t,os⟩:=s;exact W.make_core (W.makes_of X hm) (W.looks_findIn X hi) (λself=>W.bind_fn X self hf) (.inl rfl) h
end
def kM(f:Str)(v:V):List (Str×V)->List (Str×V)|[]=>[(f,v)]|(g,x)::r=>if g=f then(g,v)::r else(g,x)::kM f v r
def mW(f g:Str)(v:V):∀fs:List (Str×V),(kM f v fs).lookup g=if g=f then some v else fs.lookup g
 |[]=>by
  show List.lookup g [(f,v)]=_;by_cases h:g=f;·have hb:(g==f)=true:=beq_iff_eq.mpr h;simp only[List.lookup,hb,if_pos h]
  ·have hb:(g==f)=false:=beq_eq_false_iff_ne.mpr h;simp only[List.lookup,hb,if_neg h]|(k,x)::r=>by
  have ih:=mW f g v r;rw[show kM f v ((k,x)::r)=(if k=f then(k,v)::r else(k,x)::kM f v r)from rfl];by_cases hk:k=f
  ·rw[if_pos hk];by_cases h:g=k;·have hb:(g==k)=true:=beq_iff_eq.mpr h;simp only[List.lookup,hb,if_pos (h.trans hk)]
   ·have hb:(g==k)=false:=beq_eq_false_iff_ne.mpr h;simp only[List.lookup,hb,if_neg (λe:g=f=>h (e.trans hk.symm))]
  ·rw[if_neg hk];by_cases h:g=k;·have hb:(g==k)=true:=beq_iff_eq.mpr h;simp only[List.lookup,hb,if_neg (λe:g=f=>hk (h.symm.trans e))]
   ·have hb:(g==k)=false:=beq_eq_false_iff_ne.mpr h;simp only[List.lookup,hb];exact ih
def nU(f:Str)(v:V):∀fs:List (Str×V),f∈(kM f v fs).map (·.1)/\∀g,g∈fs.map (·.1)->g∈(kM f v fs).map (·.1)
 |[]=>⟨by simp[kM],λg h=>by simp at h⟩|(k,x)::r=>by
  obtain⟨i1,i2⟩:=nU f v r;rw[show kM f v ((k,x)::r)=(if k=f then(k,v)::r else(k,x)::kM f v r)from rfl];by_cases hk:k=f;·rw[if_pos hk];subst hk;exact⟨by simp,λg h=>by simpa using h⟩
  ·rw[if_neg hk];refine⟨?_,λg h=>?_⟩;·rw[List.map_cons];exact List.mem_cons_of_mem _ i1
   ·rw[List.map_cons]at h⊢;rcases List.mem_cons.mp h with e|e;·exact List.mem_cons.mpr (.inl e)
    ·exact List.mem_cons_of_mem _ (i2 g e)
def mX(f:Str)(v:V):∀fs:List (Str×V),(kM f v fs).length<=fs.length+1
 |[]=>by simp[kM]|(k,x)::r=>by
  have ih:=mX f v r;rw[show kM f v ((k,x)::r)=(if k=f then(k,v)::r else(k,x)::kM f v r)from rfl];by_cases hk:k=f;·rw[if_pos hk,List.length_cons,List.length_cons];omega
  ·rw[if_neg hk,List.length_cons,List.length_cons];omega
def fu.some_of{v:V}{o:Option Value}(r:fu (some v) o):∃u,o=some u/\RelV v u:=by cases o with|none=>exact(show False from r).elim|some u=>exact⟨u,rfl,r⟩
def fu.none_of{o:Option Value}(r:fu none o):o=none:=by cases o with|none=>rfl|some u=>exact(show False from r).elim
def Xs{v:V}{u:Value}(r:RelV v u):W.handedIn u=true:=by cases v with|non=>cases(show u=Value.none from r);rfl|bl b=>cases(show u=Value.bool b from r);rfl|int i=>obtain⟨t,e⟩:=(show∃t,u=Value.int i t from r);cases e;rfl|str x=>obtain⟨t,e⟩:=(show∃t,u=Value.str x t from r);cases e;rfl|byt b=>obtain⟨t,e⟩:=(show∃t,u=Value.bytes b t from r);cases e;rfl|flt b=>obtain⟨t,e⟩:=(show∃t,u=Value.float b t from r);cases e;rfl|ref a=>cases(show u=Value.ref a from r);rfl|ty n=>cases(show u=Value.type n from r);rfl
def lS(hok:pN P w H h)(e:H a=some (.ins C dx fs)):∃mA,ZC h a dx C mA/\(∀f,fu (fs.lookup f) (mA f))/\PySem.Within mA (fs.map (·.1))/\fs.length<=1000/\H dx=some (.own a):=by obtain⟨d,z,ne,ob,mA,n,r,q⟩:=(show jg P w H h a (.ins C dx fs)from hok a _ e);exact⟨mA,⟨ob,n,ne⟩,r,q,z,d⟩
structure lz(K:W.Frag)(C:Addr):Prop where
 pg:W.plainGet K C Str.empty=true
 hd:W.hasDictIn K C=true
 po:W.plainOver K C=true
 sa:W.findIn K (.ref C) "__setattr__"=some (some (.builtin "object.__setattr__"))
def lz.get{K:W.Frag}{C:Addr}(c:lz K C)(f:Str):W.plainGet K C f=true:=c.pg
def xA(K:W.Frag)(C:Addr)(f:Str):Prop:=W.findIn K (.ref C) f=some none
def xA.taker{K:W.Frag}{C:Addr}{f:Str}(n:xA K C f):W.takerIn K C f=some none:=by unfold W.takerIn;rw[show W.findIn K (.ref C) f=some none from n];rfl
structure bK(K:W.Frag)(C:Addr)(m:Str)(f:Addr):Prop where
 at_:W.findIn K (.ref C) m=some (some (.ref f))fn:W.isFn K (.ref f)=true
 kp:W.keepIn K (.ref f)=true
def ZD{b:Bool}{Q:Value->Shared->Prop}(I:zu X pins σ H s)(e:H a=some (.ins C dx fs))(c:lz X.K C)(n:xA X.K C f)(l:fs.lookup f=some v)(h:∀u s',zu X pins σ H s'->RelV v u->Q u s'):wpAny ↑b A (getAttr (.ref a) f b) Q E s:=by obtain⟨mA,O,r,_,_,_⟩:=lS I.hok e;obtain⟨u,hu,ru⟩:=fu.some_of (v:=v) (o:=mA f) (by rw[<-l];exact r f);exact gI I.kIn O (c.get f) c.hd n hu (Xs ru) (h u _ (I.tok _) ru)
def iq{m:Str}{g:Addr}{pl:Sem Bool}{Q:Value×List Value->Shared->Prop}(I:zu X pins σ H s)(e:H a=some (.ins C dx fs))(c:lz X.K C)(k:bK X.K C m g)(l:fs.lookup m=none)(h:Q (.ref g,[.ref a]) s):wpAny ↑b A (getMethod (.ref a) m pl) Q E s:=by obtain⟨mA,O,r,_,_,_⟩:=lS I.hok e;have hn:mA m=none:=fu.none_of (by rw[<-l];exact r m);exact WX I.kIn O (c.get m) k.at_ k.fn hn h
def ZE{y:V}{u:Value}{Q:Unit->Shared->Prop}(I:zu X pins σ H s)(e:H a=some (.ins C dx fs))(c:lz X.K C)(n:xA X.K C f)(hl:fs.length<1000)(ry:RelV y u)(h:∀s',zu X pins σ (jm H a (.ins C dx (kM f y fs))) s'->Q () s'):wpAny ↑b A (setAttr (.ref a) f u) Q E s:=by
 obtain⟨mA,O,r,wi,_,ho⟩:=lS I.hok e;have hz:(fs.map (·.1)).length<=sizeLine:=by rw[List.length_map,sizeLine_eq];omega
 refine QM I.kIn O c.sa c.po n.taker c.hd wi hz λh' O' sb=>h _ ?_;have hd:∃o,h'.get? dx=some o:=let⟨o,_,_,e',_⟩:=O'.ns;⟨o,e'⟩;refine I.write (x:=a) (e:=dx) (by rw[e];exact True.intro) (.inr ho) (λb q hb z=>(sb.2 b hb).trans z) hd ?_;refine⟨by rw[zh O.ne];exact ho,?_,O.ne,O'.obj,_,O'.ns,λg=>?_,λg hg=>?_⟩;·have:=mX f y fs;omega
 ·show fu ((kM f y fs).lookup g) (if g=f then some u else mA g);rw[mW];by_cases q:g=f;·rw[if_pos q,if_pos q];exact ry
  ·rw[if_neg q,if_neg q];exact r g
 ·by_cases q:g=f;·rw[q];exact(nU f y fs).1
  ·refine(nU f y fs).2 g (wi g λz=>hg ?_);show(if g=f then some u else mA g)=none;rw[if_neg q];exact z
def zu.made(I:zu X pins σ H s):zu X pins σ (jm (jm H s.heap.objs.size (.own ↑w)) ↑w (.ins C s.heap.objs.size [])) {s with heap:=(s.heap.push W.emptyDict).push (W.instObj C s.heap.objs.size)}:=by
 have e1:(s.heap.push W.emptyDict).get? s.heap.objs.size=some W.emptyDict:=Heap.get?_push_size s.heap rfl;have e2:((s.heap.push W.emptyDict).push (W.instObj C s.heap.objs.size)).get? ↑w=some (W.instObj C s.heap.objs.size):=by have:=Heap.get?_push_size (s.heap.push W.emptyDict) (o:=W.instObj C s.heap.objs.size) rfl;rwa[Heap.size_push]at this
 have e3:(s.heap.push W.emptyDict).Ns s.heap.objs.size (λ_=>none):=⟨W.emptyDict,#[],_,e1,rfl,(λe he=>absurd he ↑T),λ_=>rfl⟩;have I1:=I.laid (a:=s.heap.objs.size) (o:=.own ↑w) (h':=s.heap.push W.emptyDict) (t':=s.toks) (λb u q=>Heap.get?_push_of_some _ q) ↑e ⟨_,e1⟩;refine I1.laid (a:=s.heap.objs.size+1) (o:=.ins C s.heap.objs.size []) (t':=s.toks) (λb u q=>Heap.get?_push_of_some _ q) (Nat.le_of_eq (Heap.size_push _ _)) ?_;have ne:s.heap.objs.size≠s.heap.objs.size+1:=Nat.ne_of_lt (Nat.lt_succ_self _);refine⟨by rw[zh ne,zF],Nat.zero_le _,ne,e2,λ_=>none,(Heap.Ns1.of_empty e3).at λo q=>Heap.get?_push_of_some _ q,λ_=>True.intro,λy hy=>absurd rfl hy⟩
def QN{prog:Program}{w:World}{env:Env}{e:Expr}{f:Str}{pos:Pos}{s:Shared}{Q:Value->Shared->Prop}(hb:attributeBase e f env (eval e env)=eval e env)(h:wpAny ↑n A (eval e env) (λo s₁=>wpAny ↑n A (getAttr o f true) Q E s₁) E s):wpAny ↑n A (eval (.Attribute e f pos) env) Q E s:=Attribute_any_ h (by rw[arm_eval_Attribute,hb])
def ZF(K:W.Frag)(ta:TE)(f:Str):TE:=λσ H Q=>ta σ H λx H1=>∃a C dx fs v,x=.ref a/\H1 a=some (.ins C dx fs)/\lz K C/\xA K C f/\fs.lookup f=some v/\Q v H1
def QO(K:W.Frag)(ta tv:TE)(f:Str):TS:=λD σ H=>tv σ H λy H1=>ta σ H1 λx H2=>∃a C dx fs,x=.ref a/\H2 a=some (.ins C dx fs)/\lz K C/\xA K C f/\fs.length<1000/\D.nx σ (jm H2 a (.ins C dx (kM f y fs)))
def ZG(he:PE X e ta)(hb:attributeBase e f X.env (eval e X.env)=eval e X.env):PE X (.Attribute e f pos) (ZF X.K ta f):=by intro pins s σ H Q I h;refine QN hb (jQ (he pins s σ H _ I h) λu s1⟨x,H1,I1,rx,a,C,dx,fs,v,ex,ea,c,n,l,q⟩=>?_);subst ex;obtain rfl:u=Value.ref a:=rx;exact ZD I1 ea c n l λu' s2 I2 ru=>⟨v,H1,I2,ru,q⟩
def WZ(ha:PE X o ta)(hv:PE X value tv)(hs:swapsWith value (some (.Attribute o f pos')) pos.line X.env=pure false):PS X (.Assign [.Attribute o f pos'] value pos) (QO X.K ta tv f):=by intro pins s σ H D I h;refine plainObj_wpAny_Assign_Attribute (jQ (hv pins s σ H _ I h) λu s1⟨y,H1,I1,ry,q⟩=>jQ (ha pins s1 σ H1 _ I1 q) λov s2⟨x,H2,I2,rx,a,C,dx,fs,ex,ea,c,n,l,q2⟩=>?_) hs;subst ex;obtain rfl:ov=Value.ref a:=rx;exact ZE I2 ea c n l ry λs3 I3=>⟨σ,_,I3,q2⟩
inductive uJ(K:W.Frag)(H:Hp):V->Value->Prop where|non:uJ K H .non (.type "NoneType")|bl(x:Bool):uJ K H (.bl x) (.type "bool")|int(i:Int):uJ K H (.int i) (.type "int")|str(x:Str):uJ K H (.str x) (.type "str")|flt(x:UInt64):uJ K H (.flt x) (.type "float")|lst{a:Addr}{xs:List V}(e:H a=some (.lst xs)):uJ K H (.ref a) (.type "list")|frz{a:Addr}{o:Obj}{xs:List V}(e:H a=some (.frz o (.lst xs))):uJ K H (.ref a) (.type "list")|tup{a:Addr}{xs:List V}(e:H a=some (.tup xs)):uJ K H (.ref a) (.type "tuple")|dK{a:Addr}{kvs:List (Key×V)}(e:H a=some (.dK kvs)):uJ K H (.ref a) (.type "dict")|dT{a:Addr}{kvs:List (List Key×V)}(e:H a=some (.dT kvs)):uJ K H (.ref a) (.type "dict")|ins{a C dx:Addr}{fs:List (Str×V)}(e:H a=some (.ins C dx fs))(cl:lz K C)(ha:W.findIn K (.ref C) "__class__"=some (some ↑aM))(hn:W.specialIn K ↑aM "__get__"=some (some (.builtin "getset_descriptor.__get__")))(htk:W.takesIn K ↑aM=some true)(hm:W.mroIn K C (.type "object")=some true):uJ K H (.ref a) (.ref C)
def cz{x:V}{u t:Value}(I:zu X pins σ H s)(rx:RelV x u)(ty:uJ X.K H x t)(e:W.kitOne X.K t c=some b)(h:∀tk,Q (.bool b) {s with toks:=tk}):wpAny ↑b A (call (.builtin "isinstance") [u,c]) Q E s:=by cases ty with|non=>cases(show u=Value.none from rx);exact W.kia_one W.kitx_none I.kIn True.intro e (λz=>nomatch z) h|bl y=>cases(show u=Value.bool y from rx);exact W.kia_one W.kitx_bool I.kIn True.intro e (λz=>nomatch z) h|int i=>obtain⟨t,q⟩:=(show∃t,u=Value.int i t from rx);cases q;exact W.kia_one W.kitx_int I.kIn True.intro e (λz=>nomatch z) h|str y=>obtain⟨t,q⟩:=(show∃t,u=Value.str y t from rx);cases q;exact W.kia_one W.kitx_str I.kIn True.intro e (λz=>nomatch z) h|flt y=>obtain⟨t,q⟩:=(show∃t,u=Value.float y t from rx);cases q;exact W.kia_one W.kitx_float I.kIn True.intro e (λz=>nomatch z) h|@lst a xs ea=>cases(show u=Value.ref a from rx);obtain⟨_,_,n,_,h1⟩:=(show jg X.prog X.w H s.heap a (.lst xs)from I.hok a _ ea);exact W.kia_one W.kitx_list I.kIn ⟨_,h1,rfl⟩ e (λz=>nomatch z) h|@frz a ob xs ea=>cases(show u=Value.ref a from rx);obtain⟨_,_,_,n,_,h1⟩:=(show jg X.prog X.w H s.heap a (.frz ob (.lst xs))from I.hok a _ ea);exact W.kia_one W.kitx_list I.kIn ⟨_,h1,rfl⟩ e (λz=>nomatch z) h|@tup a xs ea=>cases(show u=Value.ref a from rx);obtain⟨_,_,_,p⟩:=(show jg X.prog X.w H s.heap a (.tup xs)from I.hok a _ ea);obtain⟨o,h1,h2,_⟩:=p;exact W.kia_one W.kitx_tuple I.kIn ⟨o,h1,h2⟩ e (λz=>nomatch z) h|@dK a kvs ea=>cases(show u=Value.ref a from rx);obtain⟨_,_,vs,_,p⟩:=(show jg X.prog X.w H s.heap a (.dK kvs)from I.hok a _ ea);obtain⟨o,es,ep,h1,h2,_⟩:=p;exact W.kia_one W.kitx_dict I.kIn ⟨o,h1,h2.1⟩ e (λz=>nomatch z) h|@dT a kvs ea=>cases(show u=Value.ref a from rx);obtain⟨_,_,xs,_,o,es,ep,h1,h2,_⟩:=(show jg X.prog X.w H s.heap a (.dT kvs)from I.hok a _ ea);exact W.kia_one W.kitx_dict I.kIn ⟨o,h1,h2.1⟩ e (λz=>nomatch z) h|@ins a C dx fs ea cl ha hn htk hm=>cases(show u=Value.ref a from rx);obtain⟨mA,O,_⟩:=lS I.hok ea;obtain⟨od,J,_⟩:=O.look;exact W.kia_one (W.kitx_own (cl.get _) cl.hd ha hn htk hm) I.kIn J e (λz=>nomatch z) h
structure xV(k:Nat)(A:Around):Prop where
 hd:A.handled=none
 dp:A.depth+3*k+5<recursionLimit
 un:A.units+16*k+200<cLine
def xV.mono{j k:Nat}{A:Around}(r:xV k A)(h:j<=k):xV j A:=⟨r.hd,by have:=r.dp;omega,by have:=r.un;omega⟩
def xV.deeper{k:Nat}{A:Around}(r:xV (k+1) A)(env:Env):xV k (A.deeper env):=⟨r.hd,by have:=r.dp;show A.depth+1+3*k+5<_;omega,by have:=r.un;show A.units+3+16*k+200<_;omega⟩
def ZH{A:Around}{C:Addr}{us:List Value}{kw:List (Str×Value)}:(A.under (.builtin "type.__call__" ⟨.ref C::us,kw⟩)).depth=A.depth+1:=by first|rfl|simp[Around.under,Code.weight,Code.isCreation,Code.isGuard,Code.isCaller,Code.frames,Code.isFrame,guardIds]
def ZI{A:Around}{C:Addr}{us:List Value}{kw:List (Str×Value)}:(A.under (.builtin "type.__call__" ⟨.ref C::us,kw⟩)).units=A.units+1:=by first|rfl|simp[Around.under,Code.cUnits,Code.frames,Code.isFrame]
def xV.make{k:Nat}{A:Around}(r:xV (k+1) A)(C:Addr)(us:List Value)(kw:List (Str×Value)):xV k (A.under (.builtin "type.__call__" ⟨.ref C::us,kw⟩)):=⟨r.hd,by have:=r.dp;rw[ZH];omega,by have:=r.un;rw[ZI];omega⟩
def xV.depth{k:Nat}{A:Around}(r:xV k A):A.depth<recursionLimit:=by have:=r.dp;omega
def xV.units{k:Nat}{A:Around}(r:xV k A):A.units+64<cLine:=by have:=r.un;omega
def QP:TA:=λ_ H Q=>Q [] H
def V0(ta:TE)(tr:TA):TA:=λσ H Q=>ta σ H λx H1=>tr σ H1 λxs H2=>Q (x::xs) H2
def k9:PA X [] QP:=λ_ _ _ _ H Q I h=>Calls.spliced_nil ⟨[],H,I,.nil,h⟩
def xY(ha:PE X e te)(hr:PA X es t)(hs:starEach (e::es) X.env=↑M::starEach es X.env:=by rfl):PA X (e::es) (V0 te t):=by intro pos pins s σ H Q I h;rw[hs];show wpAny _ _ (spliced (↑M::backTo pos ↑aL)) _ _ s;refine Calls.spliced_cons (jQ ↑a6 λu s1⟨x,H1,I1,r1,q1⟩=>?_);exact jQ (hr pos pins s1 σ H1 _ I1 q1) λus s2⟨xs,H2,I2,r2,q2⟩=>⟨x::xs,H2,I2,.cons r1 r2,q2⟩
def Er(t:TA):TE:=λσ H Q=>t σ H λxs H1=>xs.length<=sizeLine/\∀p,H1 p=none->Q (.ref p) (jm H1 p (.tup xs))
def Es(t:TA):TE:=λσ H Q=>t σ H λxs H1=>xs.length<=sizeLine/\∀p,H1 p=none->Q (.ref p) (jm H1 p (.lst xs))
def Nx{x1}(h:PA X es t):PE X (.Tuple es x1 pos) (Er t):=by intro pins s σ H Q I hq;refine wpAny_Tuple_spliced (jQ (h pos pins s σ H _ I hq) λus s1⟨xs,H1,I1,r,z,q⟩=>⟨by rw[<-r.length];exact z,?_⟩);have hf:H1 s1.heap.objs.size=none:=I1.hok.fresh ↑e;refine⟨.ref s1.heap.objs.size,jm H1 s1.heap.objs.size (.tup xs),I1.laid (t':=s1.toks) (λb u e=>Heap.get?_push_of_some _ e) ↑e ?_,rfl,q _ hf⟩;exact⟨z,us,r,⟨_,Heap.get?_push_size _ rfl,rfl,_,rfl⟩⟩
def Ny(h:PA X es t):PE X (.List es pos) (Es t):=by intro pins s σ H Q I hq;refine wpAny_List_spliced (jQ (h pos pins s σ H _ I hq) λus s1⟨xs,H1,I1,r,z,q⟩=>⟨by rw[<-r.length];exact z,?_⟩);have hf:H1 s1.heap.objs.size=none:=I1.hok.fresh ↑e;refine⟨.ref s1.heap.objs.size,jm H1 s1.heap.objs.size (.lst xs),I1.laid (t':=s1.toks) (λb u e=>Heap.get?_push_of_some _ e) ↑e ?_,rfl,q _ hf⟩;exact⟨z,us,0,r,Heap.get?_push_size _ rfl⟩
abbrev Sp:=List V->Hp->VK->XK->Prop
abbrev QQ:=List Env->Hp->Shared->XK->Value->Shared->Prop
structure tM(P:Program)(w:World)(K:W.Frag)(mg:Str->Option Value)(base:Heap)(A:Around)(outer:List Env)(s:Shared)(H:Hp):Prop where
 frames:A.frames=some outer
 mod:Mod K mg base
 bs:∀b o,base.get? b=some o->s.heap.get? b=some o/\H b=none
 bsz:base.objs.size<=s.heap.objs.size
 funs:s.heap.FunFrames base outer
 frf:∀b∈JS outer,H b=none
 tab:H tabP=some tf
 hok:pN P w H s.heap
 bare:AllBare s.gens
def CE(outer:List Env)(P:Program)(w:World)(H:Hp)(s:Shared)(Q:VK)(u:Value)(s':Shared):Prop:=∃v H',s'.os=s.os/\AllBare s'.gens/\Un (JS outer) [] H H' s.heap s'.heap/\pN P w H' s'.heap/\RelV v u/\Q v H'
def CR(CX:QQ)(outer:List Env)(P:Program)(w:World)(H:Hp)(s:Shared)(Q:VK)(E:XK)(r:Result)(s':Shared):Prop:=match r with|.ok (.ret u)=>CE outer P w H s Q u s'|.ok _=>False|.error e=>CX outer H s E e s'
structure qc(P:Program)(w:World)(K:W.Frag)(mg:Str->Option Value)(base:Heap)(CX:QQ)(k:Nat)(f:Addr)(fd:FuncData)(ps:List Str)(sp:Sp):Prop where
 len:∀vs H Q E,sp vs H Q E->vs.length=ps.length
 run:∀(A:Around)(outer:List Env)(s:Shared)(H:Hp)(args:Args)(us:List Value)(vs:List V)(Q:VK)(E:XK),xV k A->tM P w K mg base A outer s H->BindsTo s fd args (ps.zip us)->zL vs us->sp vs H Q E->codeAny (model P w) A (.call (.ref f) args) (CR CX outer P w H s Q E) s
def qc.imp{P:Program}{w:World}{K:W.Frag}{mg:Str->Option Value}{base:Heap}{CX:QQ}{k:Nat}{f:Addr}{fd:FuncData}{ps:List Str}{sp sp':Sp}(F:qc P w K mg base CX k f fd ps sp)(h:∀vs H Q E,sp' vs H Q E->sp vs H Q E):qc P w K mg base CX k f fd ps sp':=⟨λvs H Q E q=>F.len vs H Q E (h _ _ _ _ q),λA outer s H args us vs Q E hr he hb hv hs=>F.run A outer s H args us vs Q E hr he hb hv (h _ _ _ _ hs)⟩
def tM.make{P:Program}{w:World}{K:W.Frag}{mg:Str->Option Value}{base:Heap}{A:Around}{outer:List Env}{s:Shared}{H:Hp}(e:tM P w K mg base A outer s H)(C:Addr)(us:List Value)(kw:List (Str×Value)):tM P w K mg base (A.under (.builtin "type.__call__" ⟨.ref C::us,kw⟩)) outer s H:=⟨by first|exact e.frames|(simpa[Around.under,Code.envs,Code.isFrame,pushEnvs]using e.frames),e.mod,e.bs,e.bsz,e.funs,e.frf,e.tab,e.hok,e.bare⟩
def zu.env0(I:zu X pins σ H s):tM X.prog X.w X.K X.mg X.base X.A X.stack s H:=⟨I.ok.frames,I.ok.mod,I.bs,Nat.le_trans I.ok.bsz I.sz,I.stack,I.stkFree,I.tab,I.hok,I.bare⟩
def zu.after{Q:VK}{u:Value}(I:zu X pins σ H s)(h:CE X.stack X.prog X.w H s Q u s'):EP X pins σ Q u s':=by obtain⟨v,H',os,bare,un,hok,r,q⟩:=h;obtain⟨hh,g,d,t,os'⟩:=s';obtain rfl:os'=s.os:=os;exact⟨v,H',I.call (h':=hh) (g':=g) (d':=d) (t':=t) (ch:=[]) un hok bare (λb z=>absurd z ↑T),r,q⟩
def f6(K:W.Frag)(fd:FuncData)(ps:List Str)(ds:List Value):Prop:=∀(s:Shared)(us:List Value),K.In s.heap->(us++ds).length=ps.length->BindsTo s fd ⟨us,[]⟩ (ps.zip (us++ds))
def f6.all{K:W.Frag}{fd:FuncData}{ps:List Str}(h:∀us:List Value,us.length=ps.length->bindArgs fd ⟨us,[]⟩=pure (ps.zip us)):f6 K fd ps []:=λs us _ hl=>by rw[List.append_nil]at hl⊢;exact .of_eq (h us hl)
structure Mk(K:W.Frag)(C f:Addr):Prop where
 makes:W.makesIn K C=true
 init:W.findIn K (.ref C) "__init__"=some (some (.ref f))fn:W.isFn K (.ref f)=true
 kp:W.keepIn K (.ref C)=true
structure ze(N P:List Str)(sc:Scope):Prop where
 kind:sc.kind=.function
 co:sc.isCoroutine=false
 gen:sc.isGenerator=false
 nd:N.Nodup
 pre:N.take P.length=P
 par:∀x∈P,sc.names.lookup x=some .local\/sc.names.lookup x=some .cell
 nofree:∀y∈sc.names,y.2≠.free
def cA{kindOf:Str->Option NameKind}{x:Str}:∀{binds:List (Str×Value)}{m:Str->Option Value},(∀v,(x,v)∉binds)->bindL kindOf binds m x=m x
 |[],_,_=>rfl|(n,v)::r,m,h=>by
  unfold bindL;rw[cA λw hw=>h w (List.mem_cons_of_mem _ hw)];split
  ·have:x≠n:=by rintro rfl;exact h v List.mem_cons_self
   simp[this]
  ·rfl
def cB{kindOf:Str->Option NameKind}{x:Str}:∀{binds:List (Str×Value)}{m:Str->Option Value},(∀v,(x,v)∉binds)->bindC kindOf binds m x=m x
 |[],_,_=>rfl|(n,v)::r,m,h=>by
  unfold bindC;rw[cB λw hw=>h w (List.mem_cons_of_mem _ hw)];split;·rfl
  ·have:x≠n:=by rintro rfl;exact h v List.mem_cons_self
   simp[this]
def cC{kindOf:Str->Option NameKind}{x:Str}{v:Value}:∀{P:List Str}{vs:List Value}{i:Nat}{m:Str->Option Value},P.Nodup->P[i]?=some x->vs[i]?=some v->kindOf x=some .local->bindL kindOf (P.zip vs) m x=some v|[],_,_,_,_,h,_,_=>by simp at h|_::_,[],_,_,_,_,h,_=>by simp at h|p::P,w::vs,0,m,nd,h1,h2,hk=>by simp at h1 h2;subst h1;subst h2;show bindL kindOf ((p,w)::P.zip vs) m p=_;unfold bindL;rw[cA λv hv=>(List.nodup_cons.mp nd).1 (List.of_mem_zip hv).1,if_pos hk];simp|p::P,w::vs,i+1,m,nd,h1,h2,hk=>by show bindL kindOf ((p,w)::P.zip vs) m x=_;unfold bindL;exact cC (i:=i) (List.nodup_cons.mp nd).2 (by simpa using h1) (by simpa using h2) hk
def cD{kindOf:Str->Option NameKind}{x:Str}{v:Value}:∀{P:List Str}{vs:List Value}{i:Nat}{m:Str->Option Value},P.Nodup->P[i]?=some x->vs[i]?=some v->kindOf x≠some .local->bindC kindOf (P.zip vs) m x=some v|[],_,_,_,_,h,_,_=>by simp at h|_::_,[],_,_,_,_,h,_=>by simp at h|p::P,w::vs,0,m,nd,h1,h2,hk=>by simp at h1 h2;subst h1;subst h2;show bindC kindOf ((p,w)::P.zip vs) m p=_;unfold bindC;rw[cB λv hv=>(List.nodup_cons.mp nd).1 (List.of_mem_zip hv).1,if_neg hk];simp|p::P,w::vs,i+1,m,nd,h1,h2,hk=>by show bindC kindOf ((p,w)::P.zip vs) m x=_;unfold bindC;exact cD (i:=i) (List.nodup_cons.mp nd).2 (by simpa using h1) (by simpa using h2) hk
def start(N:List Str)(vs:List V):St:=vs.map some++List.replicate (N.length-vs.length) none
def lA(CX:QQ)(P:Program)(w:World)(K:W.Frag)(mg:Str->Option Value)(base:Heap)(N:List Str)(qual:Str)(scope:Scope)(f:Addr)(cd:Value)(A:Around)(outer:List Env)(s:Shared)(H:Hp)(E:XK):Cx where prog:=P;w:=w;K:=K;mg:=mg;base:=base;A:=A.deeper (envOfC qual scope s.heap.objs.size f cd);N:=N;s₀:=s;H₀:=H;env:=envOfC qual scope s.heap.objs.size f cd;outer:=outer;stack:=envOfC qual scope s.heap.objs.size f cd::outer;ex:=[];calm:=true;fn:=λ_=>true;pn:=[];xe:=λe s'=>wpAny (model P w) (A.deeper (envOfC qual scope s.heap.objs.size f cd)) (leaving (envOfC qual scope s.heap.objs.size f cd) e) (λ_ s''=>CX outer H s E e s'') (λe' s''=>CX outer H s E e' s'') s'
def iA{sc:Scope}{n:Nat}{x:Str}(h:sc.names.lookup x=some .cell):∃c,(cellsFrom n sc.names []).lookup x=some c:=by have q:=W.cellsFrom_some sc.names n [] (.inl h);exact Option.isSome_iff_exists.mp q
def Xt{CX:QQ}{P:Program}{w:World}{K:W.Frag}{mg:Str->Option Value}{base:Heap}{N ps:List Str}{qual:Str}{scope:Scope}{f:Addr}{cd:Value}{A:Around}{outer:List Env}{s s1:Shared}{H:Hp}{E:XK}{us:List Value}{vs:List V}(S:ze N ps scope)(hd:A.handled=none)(e0:tM P w K mg base A outer s H)(hl:vs.length=ps.length)(r:zL vs us)(x:InCallC s s.heap.objs.size (bindL (envOfC qual scope s.heap.objs.size f cd).kindOf (ps.zip us) λ_=>none) (cellsFrom ↑w scope.names []) (bindC (envOfC qual scope s.heap.objs.size f cd).kindOf (ps.zip us) λ_=>none) s1):zu (lA CX P w K mg base N qual scope f cd A outer s H E) [] (start N vs) H s1:=by
 have hpl:ps.length<=N.length:=by have:=congrArg List.length S.pre;rw[List.length_take]at this;omega
 obtain⟨h1,tk,rfl,hk⟩:=x.done;have noA:∀b:Addr,b∉(lA CX P w K mg base N qual scope f cd A outer s H E).ex:=λb z=>absurd (show b∈([]:List Addr)from z) ↑T;refine⟨⟨e0.mod,S.kind,rfl,rfl,Nat.le_refl _,λy z c h1 h2=>?_,λy hy=>?_,λy c _ h=>?_,λ_=>hd,Around.frames_deeper e0.frames,.inr ⟨rfl,rfl⟩,λb z=>absurd z (noA b),e0.bs,e0.bsz,λb _ _=>noA b,λb z=>absurd z (noA b),e0.funs,e0.frf,e0.tab⟩,rfl,e0.bare,Un.kept hk,⟨_,x.toInCall.ns,λi y v h1 h2 h3=>?_⟩,λy c h=>⟨_,x.cell y c h⟩,e0.hok.fresh ↑e,λy c h=>?_,λp hp=>absurd (show p∈([]:List ↑y)from hp) ↑T,e0.hok.kept hk,?_⟩;·exact name_of_addr x.apart (PySem.mem_of_lookup h1) (PySem.mem_of_lookup h2)
 ·have hy:scope.names.lookup y=some .cell\/scope.names.lookup y=some .free:=hy;rcases hy with hy|hy;·exact iA hy
  ·exact absurd rfl (S.nofree _ (PySem.mem_of_lookup hy))
 ·exact Nat.le_of_lt (x.above y c (PySem.mem_of_lookup h))
 ·have hi:i<vs.length:=by
   unfold start at h2;by_cases hi:i<vs.length;·exact hi
   ·rw[List.getElem?_append_right (by simpa using hi)]at h2;rw[List.getElem?_replicate]at h2;split at h2<;>cases h2
  have ha:vs[i]?=some v:=by unfold start at h2;rw[List.getElem?_append_left (by simpa using hi),List.getElem?_map]at h2;cases e:vs[i]? with|none=>rw[e]at h2;cases h2|some a=>rw[e]at h2;cases h2;rfl
  obtain⟨u,hu,rv⟩:=r.get ha;have hp:ps[i]?=some y:=by rw[<-S.pre,List.getElem?_take_of_lt ↑a];exact h1
  have ndP:ps.Nodup:=by rw[<-S.pre];exact S.nd.sublist (List.take_sublist _ _)
  refine⟨u,rv,?_⟩;rcases S.par y (List.mem_of_getElem? hp)with k|k;·exact .inl ⟨k,cC ndP hp hu k⟩
  ·obtain⟨c,e⟩:=iA (n:=s.heap.objs.size+1) k;refine .inr ⟨.inl k,c,e,?_⟩;have q:=x.cell y c e;rw[cD ndP hp hu (by show scope.names.lookup y≠_;rw[k];decide)]at q;exact q
 ·exact e0.hok.fresh (Nat.le_of_lt (x.above y c (PySem.mem_of_lookup h)))
 ·unfold start;show _=N.length;rw[List.length_append,List.length_map,List.length_replicate];omega
def tN{CX:QQ}{P:Program}{w:World}{K:W.Frag}{mg:Str->Option Value}{base:Heap}{k:Nat}{f:Addr}{name qual:Str}{params:Arguments}{body:List Stmt}{scope:Scope}{dV kV doc pm cdv ct oc:Value}{an od:Option Addr}{osl:Array (Option Value)}{N ps:List Str}{sp:Sp}(lk:K.lookup f=some ⟨oc,od,.func (W.fnOf name qual params body scope dV kV doc pm an cdv ct),osl⟩)(hcd:W.codeIn K cdv qual=true)(S:ze N ps scope)(len:∀vs H Q E,sp vs H Q E->vs.length=ps.length)(hbody:∀(A:Around)(outer:List Env)(s:Shared)(H:Hp)(vs:List V)(Q:VK)(E:XK),xV k (A.deeper (envOfC qual scope s.heap.objs.size f cdv))->sp vs H Q E->∃t,tE (lA CX P w K mg base N qual scope f cdv A outer s H E) body t/\t {nx:=λ_ H'=>Q .non H',rt:=Q} (start N vs) H):qc P w K mg base CX (k+1) f (W.fnOf name qual params body scope dV kV doc pm an cdv ct) ps sp:=by
 refine⟨len,λA outer s H args us vs Q E hr e0 hb r hsp=>?_⟩;have hl:=len _ _ _ _ hsp;have KX:K.In s.heap:=e0.mod.kin.keeps λb o e=>(e0.bs b o e).1;have lim:s.heap.NoLimit:=e0.mod.nolimit.keeps λb o e=>(e0.bs b o e).1;have hkind:∀y∈ps.zip us,scope.names.lookup y.1=some .local\/(scope.names.lookup y.1=some .cell/\((cellsFrom ↑w scope.names []).lookup y.1).isSome=true):=λ⟨n,v⟩hy=>by
  rcases S.par n (List.of_mem_zip hy).1 with q|q;·exact .inl q
  ·exact .inr ⟨q,W.cellsFrom_some _ _ _ (.inl q)⟩
 refine codeAny_call_function hr.depth (KX _ _ lk) rfl S.co S.gen rfl (W.codeRec_of KX hcd) (hb _ _ _ _ ?_);refine wpAny_newFunctionEnv_cells S.kind hkind λenv he s1 x=>?_;subst he;refine⟨lim.keeps x.toInCall.keep,codeAny_func ?_⟩;obtain⟨t,ht,hq⟩:=hbody A outer s H vs Q E (hr.deeper _) hsp;have I:zu (lA CX P w K mg base N qual scope f cdv A outer s H E) [] (start N vs) H s1:=Xt S hr.hd e0 hl r x;refine wpAny_mono (ht [] s1 (start N vs) H _ I hq) (λfl s' hs=>?_) λe s' hs=>hs;have fin:∀{σ':St}{H':Hp}{v:V}{u:Value},zu (lA CX P w K mg base N qual scope f cdv A outer s H E) [] σ' H' s'->RelV v u->Q v H'->CE outer P w H s Q u s':=λ{σ' H' v u}J rv q=>⟨v,H',J.os,J.bare,J.base,J.hok,rv,q⟩;cases fl with|ret u=>obtain⟨v,σ',H',J,rv,q⟩:=hs;exact fin J rv q|next=>obtain⟨σ',H',J,q⟩:=hs;exact fin (v:=V.non) (u:=Value.none) J rfl q|brk=>obtain⟨_,_,_,q⟩:=hs;exact False.elim q|cont=>obtain⟨_,_,_,q⟩:=hs;exact False.elim q
section
variable{X:Cx}{x:Str}{p pos:Pos}{e:Expr}{es:List Expr}{t:TA}{id T:String}{r:List V->Hp->VK->Prop}
def HF(r:List V->Hp->VK->Prop)(t:TA):TE:=λσ H Q=>t σ H λvs H1=>r vs H1 Q
theorem tO(hc:vo X (.builtin id) r)(hg:Gl X x)(hm:X.mg x=none)(hv:bootBuiltins x=some (.builtin id))(ha:PA X (e::es) t)(hn:x≠"__name__":=by decide)(hdb:(x==↑t)=false:=by decide)(he:starEach (e::es) X.env=↑M::starEach es X.env:=by rfl)(hpl:(backTo pos ↑aL).any (·.1)=false:=by rfl):PE X ↑al (HF r t):=by intro pins s σ H Q I h;refine wpAny_Call_Name_kw (qo I hg hm hv ?_ hn hdb);exact PyProof.Rows.callWith_builtin1 (jQ (ha pos pins s σ H _ I h) λus s1⟨vs,H1,I1,r1,q1⟩=>hc pins s1 σ H1 vs us Q I1 r1 q1) he hpl
theorem Xu(hc:vo X (.type T) r)(hg:Gl X x)(hm:X.mg x=none)(hv:bootBuiltins x=some (.type T))(ha:PA X (e::es) t)(hn:x≠"__name__":=by decide)(hdb:(x==↑t)=false:=by decide)(he:starEach (e::es) X.env=↑M::starEach es X.env:=by rfl)(hpl:(backTo pos ↑aL).any (·.1)=false:=by rfl):PE X ↑al (HF r t):=by intro pins s σ H Q I h;refine wpAny_Call_Name_kw (qo I hg hm hv ?_ hn hdb);exact PyProof.Rows.callWith_type1 (jQ (ha pos pins s σ H _ I h) λus s1⟨vs,H1,I1,r1,q1⟩=>hc pins s1 σ H1 vs us Q I1 r1 q1) he hpl
end
end L2
namespace HT
open PySem PyProof.Rows
def cat_tup{t b:Addr}{vs ws:List Value}{Q:Value->Shared->Prop}(ht:IsTup s.heap t vs.toArray)(hb:IsTup s.heap b ws.toArray)(hv:vs≠[])(h1:ws=[]->Q (.ref t) s)(h2:ws≠[]->Q ↑ak {s with heap:=s.heap.push {cls:=.type "tuple",data:=.seq (vs++ws).toArray}})(hsz:vs.length+ws.length<=sizeLine):wpAny ↑n A (binaryOp .Add (.ref t) (.ref b)) Q E s:=by
 obtain⟨⟨cls,dd,data,sl⟩,ho,hc,n,hd⟩:=id ht;obtain⟨⟨cls2,dd2,data2,sl2⟩,ho2,hc2,n2,hd2⟩:=id hb;simp only at hc hd hc2 hd2;subst hc hd hc2 hd2;have e:vs.toArray++ws.toArray=(vs++ws).toArray:=by simp
 by_cases hw:ws=[];·exact concat_meets ⟨_,ho,rfl⟩ ⟨_,ho2,rfl⟩ noFill_tuple_add seq_tuple_add PySem.F.slot_tuple_add PySem.F.entry_tuple_add (PySem.F.args_tuple_add_2 _ _) (tuple_addW1 t b vs.toArray ws.toArray n n2 dd dd2 sl sl2 (by simpa using hv) (by simp[hw])) ⟨ho,ho2,h1 hw⟩
 ·refine concat_meets ⟨_,ho,rfl⟩ ⟨_,ho2,rfl⟩ noFill_tuple_add seq_tuple_add PySem.F.slot_tuple_add PySem.F.entry_tuple_add (PySem.F.args_tuple_add_2 _ _) (tuple_addW2 t b vs.toArray ws.toArray n n2 dd dd2 sl sl2 (by simpa using hv) (by simpa using hw) (by rw[List.size_toArray,List.size_toArray];exact hsz)) ⟨ho,ho2,?_⟩;rw[e];exact h2 hw
def sIx(n d:Nat):Option Int->Nat|none=>d|some v=>if v<0 then(v+(n:Int)).toNat else min v.toNat n
def sIx_none(n d:Nat):sIx n d none=d:=rfl
def sIx_nat(n d k:Nat):sIx n d (some (k:Int))=min k n:=by show(if(k:Int)<0 then((k:Int)+(n:Int)).toNat else min (k:Int).toNat n)=min k n;rw[if_neg ↑a,Int.toNat_natCast]
def sIx_le(n d:Nat)(hd:d<=n)(o:Option Int):sIx n d o<=n:=by cases o with|none=>exact hd|some v=>
  show(if v<0 then(v+(n:Int)).toNat else min v.toNat n)<=n;by_cases hv:v<0;·rw[if_pos hv];omega
  ·rw[if_neg hv];exact Nat.min_le_right _ _
def JV(v:Int)(n d:Nat):(if v<0 then max (v+(n:Int)) 0 else min v (n:Int))=((sIx n d (some v):Nat):Int):=by
 show(if v<0 then max (v+(n:Int)) 0 else min v (n:Int))=(((if v<0 then(v+(n:Int)).toNat else min v.toNat n):Nat):Int);by_cases hv:v<0;·simp only[if_pos hv];omega
 ·simp only[if_neg hv];omega
def ZJ(lo hi:Option Int)(n:Nat):Builtin.Slice.sliceAdjust lo hi 1 (n:Int)=(((sIx n 0 lo:Nat):Int),((sIx n n hi:Nat):Int)):=by
 have h1:¬((1:Int)<0):=by omega
 unfold Builtin.Slice.sliceAdjust;simp only[h1,if_false];refine Prod.ext ?_ ?_;·cases lo with|none=>rfl|some v=>exact JV v n 0
 ·cases hi with|none=>rfl|some v=>exact JV v n n
def ZK(i j:Nat):Builtin.Slice.slicePlaces (i:Int) (j:Int) 1=j-i:=by
 unfold Builtin.Slice.slicePlaces;have h1:(1:Int)>0:=by omega
 simp only[h1,if_true,Int.ediv_one];split<;>omega
def iB{v:Value}{o:Option Int}{Q:Option Int->Shared->Prop}(p:IsPart v o)(h:Q o s):wpAny ↑n A (Builtin.Slice.slicePartIndex v) Q E s:=by cases p with|none=>exact slicePart_none h|int i t=>exact slicePart_int h
def gi{sl:Addr}{vl vu:Value}{lo hi:Option Int}{n:Nat}{Q:Int×Int×Nat->Shared->Prop}(hs:s.heap.IsSliceOf sl vl vu .none)(pl:IsPart vl lo)(pu:IsPart vu hi)(h:Q (((sIx n 0 lo:Nat):Int),1,sIx n n hi-sIx n 0 lo) s):wpAny ↑n A (Builtin.Slice.sliceApplied (.ref sl) (pure (n:Int))) Q E s:=by obtain⟨os,hos,hcs,hds⟩:=id hs;unfold Builtin.Slice.sliceApplied Builtin.Slice.sliceFields;refine wpAny_bind (wpAny_bind (wpAny_field hos hds (x:=vl) rfl (wpAny_bind (wpAny_field hos hds (x:=vu) rfl (wpAny_bind (wpAny_field hos hds (x:=.none) rfl (wpAny_pure ?_)))))));refine wpAny_bind (slicePart_none ?_);show wpAny _ _ (if((1:Int)==0)=true then _ else _) _ _ s;rw[if_neg ↑v];refine wpAny_bind (iB pl (wpAny_bind (iB pu (wpAny_bind (wpAny_pure ?_)))));show wpAny _ _ (match Builtin.Slice.sliceAdjust lo hi 1 (n:Int)with|(lo,hi)=>pure (lo,(1:Int),Builtin.Slice.slicePlaces lo hi 1)) _ _ s;rw[ZJ lo hi n];show wpAny _ _ (pure (((sIx n 0 lo:Nat):Int),(1:Int),Builtin.Slice.slicePlaces ((sIx n 0 lo:Nat):Int) ((sIx n n hi:Nat):Int) 1)) _ _ s;rw[ZK];exact wpAny_pure h
def V1(xs:Array Value)(i k:Nat):((List.range k).filterMap λ(m:Nat)=>xs[((i:Int)+(m:Int)*1).toNat]?).toArray=((xs.toList.drop i).take k).toArray:=by
 have e:(λ(m:Nat)=>xs[((i:Int)+(m:Int)*1).toNat]?)=λm=>xs[i+m]?:=by
  funext m;have:((i:Int)+(m:Int)*1).toNat=i+m:=by omega
  rw[this]
 rw[e];have:=pick_run xs i k;rw[List.filterMap_map]at this;have e2:((λx=>xs[x]?)∘λx=>i+x)=λm=>xs[i+m]?:=rfl;rw[e2]at this;rw[this]
def getItem_tuple_cut{t sl:Addr}{items:Array Value}{vl vu:Value}{lo hi:Option Int}{Q:Value->Shared->Prop}(ht:IsTup s.heap t items)(hs:s.heap.IsSliceOf sl vl vu .none)(pl:IsPart vl lo)(pu:IsPart vu hi)(hw:¬(sIx items.size 0 lo=0/\sIx items.size items.size hi=items.size))(h:Q ↑ak {s with heap:=s.heap.push {cls:=.type "tuple",data:=.seq ((items.toList.drop (sIx items.size 0 lo)).take (sIx items.size items.size hi-sIx items.size 0 lo)).toArray}})(hsz:items.size<=sizeLine):wpAny ↑n A (getItem (.ref t) (.ref sl)) Q E s:=by
 have htake:sizeOk (.seq ((items.toList.drop (sIx items.size 0 lo)).take (sIx items.size items.size hi-sIx items.size 0 lo)).toArray):=by show((items.toList.drop (sIx items.size 0 lo)).take (sIx items.size items.size hi-sIx items.size 0 lo)).toArray.size<=sizeLine;rw[List.size_toArray,List.length_take,List.length_drop,Array.length_toList];omega
 have hj:sIx items.size items.size hi<=items.size:=sIx_le _ _ ↑e hi;obtain⟨os,hos,hcs,hds⟩:=id hs;have hTs:s.TypeIs (.ref sl) "slice":=⟨os,hos,hcs⟩;unfold getItem;try with_reducible refine wpAny_holding ?_
 first|refine wpAny_bind (wpAny_pure ?_)|skip
 refine wpAny_bind (wpAny_sequenceKey ht.typeIs ↑v ?_);refine wpAny_bind (wpAny_callSpecial?_slot (name:=Str.ofString "__getitem__") ht.typeIs PyProof.Rows.slot_tuple_getitem (wpAny_call_entry PyProof.Rows.slot_tuple_getitem ht.typeIs entry_tuple_getitem ?_ (args_tuple_getitem _ _)));show wpAny _ _ (Builtin.Tuple.tupleItemsOf (.ref t)>>=_) _ _ s;refine wpAny_bind (tupleItemsOf_ ht ?_);refine wpAny_bind (wpAny_typeOf hTs ?_);rw[if_pos ↑v];refine wpAny_bind (gi hs pl pu ?_);have hno:¬(↑J=true):=by intro q;rw[Bool.and_eq_true,Bool.and_eq_true]at q;have q1:((sIx items.size 0 lo:Nat):Int)=0:=eq_of_beq q.1.1;have q2:sIx items.size items.size hi-sIx items.size 0 lo=items.size:=eq_of_beq q.2;exact hw ⟨by omega,by omega⟩
 show wpAny _ _ (if↑J=true then _ else _) _ _ s;rw[if_neg hno,V1];first|exact wpAny_bind (m:=Builtin.Tuple.tupleExact _) (wpAny_newObj_type (wpAny_pure ⟨_,rfl,wpAny_pure h⟩) htake)|exact wpAny_bind (m:=Builtin.Tuple.tupleExact _) (wpAny_newObj_type (wpAny_bind (wpAny_pure (wpAny_pure ⟨_,rfl,wpAny_pure h⟩))) htake)|exact wpAny_bind (wpAny_bind (m:=Builtin.Tuple.tupleExact _) (wpAny_newObj_type (wpAny_pure (wpAny_pure ⟨_,rfl,wpAny_pure h⟩)) htake))|exact wpAny_bind (wpAny_bind (m:=Builtin.Tuple.tupleExact _) (wpAny_newObj_type (wpAny_pure ⟨_,rfl,wpAny_pure h⟩) htake))
end HT
namespace L2
open PySem PySem.Spec PyProof.Rows
abbrev TO:=St->Hp->(Option Int->Hp->Prop)->Prop
def PO(X:Cx)(e:Option Expr)(t:TO):Prop:=∀(pins:List ↑y)(s:Shared)(σ:St)(H:Hp)(Q:Option Int->Hp->Prop),zu X pins σ H s->t σ H Q->wpAny ↑b X.A (evalPart e X.env) (λu s'=>∃o H',zu X pins σ H' s'/\IsPart u o/\Q o H') X.xe s
def QR:TO:=λ_ H Q=>Q none H
def Ia(t:TE):TO:=λσ H Q=>t σ H λx H1=>∃i,x=.int i/\Q (some i) H1
section
variable{X:Cx}{e:Expr}{te:TE}{lo hi:Option Expr}{tl th:TO}{pos p2:Pos}
theorem QS:PO X none QR:=by intro pins s σ H Q I h;rw[evalPart_none];exact wpAny_pure ⟨none,H,I,.none,h⟩
theorem QT(h:PE X e te):PO X (some e) (Ia te):=by intro pins s σ H Q I hw;rw[evalPart_some];refine jQ (h pins s σ H _ I hw) λu s1⟨x,H1,I1,r1,q1⟩=>?_;obtain⟨i,rfl,q⟩:=q1;obtain⟨t,rfl⟩:=r1;exact⟨some i,H1,I1,.int i t,q⟩
def Ib(X:Cx)(r:V->Option Int->Option Int->Hp->VK->Prop):Prop:=∀(pins:List ↑y)(s:Shared)(σ:St)(H:Hp)(x:V)(v vl vu:Value)(lo hi:Option Int)(sl:Addr)(Q:VK),zu X pins σ H s->RelV x v->s.heap.IsSliceOf sl vl vu .none->IsPart vl lo->IsPart vu hi->r x lo hi H Q->∃T id,typeLookup (.type T) "__getitem__"=pure (some (.builtin id))/\s.TypeIs v T/\wpAny ↑b X.A (getItem v (.ref sl)) ↑aK X.xe s
def DT(r:V->Option Int->Option Int->Hp->VK->Prop)(te:TE)(tl th:TO):TE:=λσ H Q=>te σ H λx H1=>tl σ H1 λl H2=>th σ H2 λu H3=>r x l u H3 Q
theorem V2{r:V->Option Int->Option Int->Hp->VK->Prop}(hr:Ib X r)(he:PE X e te)(hl:PO X lo tl)(hu:PO X hi th):PE X (.Subscript e (.Slice lo hi none p2) pos) (DT r te tl th):=by intro pins s σ H Q I h;refine Subscript_ (jQ (he pins s σ H _ I h) λv s1⟨x,H1,I1,r1,q1⟩=>?_);refine wpAny_Slice (jQ (hl pins s1 σ H1 _ I1 q1) λvl s2⟨l,H2,I2,pl,q2⟩=>jQ (hu pins s2 σ H2 _ I2 q2) λvu s3⟨u,H3,I3,pu,q3⟩=>?_);rw[evalPart_none];refine wpAny_pure ?_;have I4:zu X pins σ H3 {s3 with heap:=s3.heap.push {cls:=.type "slice",data:=.fields #[vl,vu,.none]}}:=I3.kept (t':=s3.toks) λb ob q=>Heap.get?_push_of_some _ q;obtain⟨T,id,hT,ht,hg⟩:=hr pins {s3 with heap:=s3.heap.push {cls:=.type "slice",data:=.fields #[vl,vu,.none]}} σ H3 x v vl vu l u s3.heap.objs.size Q I4 r1 (Heap.IsSliceOf.new ..) pl pu q3;show wpAny ↑b X.A (subscriptTail e (.Slice lo hi none p2) v (.ref s3.heap.objs.size)) ↑aK X.xe {s3 with heap:=s3.heap.push {cls:=.type "slice",data:=.fields #[vl,vu,.none]}};exact tail_any (ops:=[.ref s3.heap.objs.size,v]) ht hT hg (by with_unfolding_all rfl)
def tP(xs:List V)(lo hi:Option Int):List V:=(xs.drop (HT.sIx xs.length 0 lo)).take (HT.sIx xs.length xs.length hi-HT.sIx xs.length 0 lo)
theorem mY(xs:List V)(lo hi:Option Int):(tP xs lo hi).length<=xs.length:=by unfold tP;rw[List.length_take,List.length_drop];omega
def Et(K:W.Frag):V->Option Int->Option Int->Hp->VK->Prop:=λx lo hi H Q=>∃a xs,x=.ref a/\lw K H a xs/\¬(HT.sIx xs.length 0 lo=0/\HT.sIx xs.length xs.length hi=xs.length)/\∀p,H p=none->Q (.ref p) (jm H p (.tup (tP xs lo hi)))
theorem Nz:Ib X (Et X.K):=by
 intro pins s σ H x v vl vu lo hi sl Q I rx hs pl pu h;obtain⟨a,xs,rfl,hx,hw,q⟩:=h;cases rx;obtain⟨its,r,ht,hz⟩:=I.tuple hx;have hlen:its.toArray.size=xs.length:=by rw[List.size_toArray];exact r.length.symm
 refine⟨"tuple",_,PyProof.Rows.slot_tuple_getitem.lookup,ht.typeIs,?_⟩;refine HT.getItem_tuple_cut ht hs pl pu (by rw[hlen];exact hw) ?_ (by rw[hlen];exact hz);rw[hlen];refine⟨.ref s.heap.objs.size,_,I.laid (t':=s.toks) (o:=.tup (tP xs lo hi)) (λb ob q=>Heap.get?_push_of_some _ q) ↑e ?_,rfl,q _ (I.hok.fresh ↑e)⟩;exact⟨Nat.le_trans (mY xs lo hi) hz,_,(r.drop (HT.sIx xs.length 0 lo)).take (HT.sIx xs.length xs.length hi-HT.sIx xs.length 0 lo),IsTup.new _ _⟩
def Ic(K:W.Frag):R2:=λx y H Q=>∃a b xs ys,x=.ref a/\y=.ref b/\lw K H a xs/\lw K H b ys/\xs≠[]/\xs.length+ys.length<=sizeLine/\(ys=[]->Q (.ref a) H)/\(ys≠[]->∀p,H p=none->Q (.ref p) (jm H p (.tup (xs++ys))))
theorem zL.nil_iff{xs:List V}{us:List Value}(r:zL xs us):us=[]↔xs=[]:=by cases r with|nil=>simp|cons _ _=>simp
theorem QU:gF X (binaryOp .Add) (Ic X.K):=by intro pins s σ H x y v u Q I rx ry h;obtain⟨a,b,xs,ys,rfl,rfl,ha,hb,hx,hz,q1,q2⟩:=h;cases rx;cases ry;obtain⟨its,r1,p1,_⟩:=I.tuple ha;obtain⟨its2,r2,p2,_⟩:=I.tuple hb;refine HT.cat_tup p1 p2 (λz=>hx (r1.nil_iff.mp z)) (λz=>⟨.ref a,H,I,rfl,q1 (r2.nil_iff.mp z)⟩) (λz=>?_) (by rw[<-r1.length,<-r2.length];exact hz);refine⟨.ref s.heap.objs.size,_,I.laid (t':=s.toks) (o:=.tup (xs++ys)) (λb ob q=>Heap.get?_push_of_some _ q) ↑e ?_,rfl,q2 (λw=>z (r2.nil_iff.mpr w)) _ (I.hok.fresh ↑e)⟩;exact⟨by rw[List.length_append];exact hz,_,r1.append r2,IsTup.new _ _⟩
end
def JW(n:Nat)(i:Int):Option Nat:=if 0<=i then(if i<n then some i.toNat else none)else if-(n:Int)<=i then some (i+n).toNat else none
def dM{α:Type}(xs:List α)(i:Int):Option α:=(JW xs.length i).bind λj=>xs[j]?
def JX{n:Nat}{i:Int}{j:Nat}(h:JW n i=some j):seqIndex? i n=some j/\j<n/\-(n:Int)<=i/\i<n:=by
 unfold JW at h;by_cases h0:0<=i
 ·rw[if_pos h0]at h;by_cases h1:i<n;·rw[if_pos h1]at h;have e:i.toNat=j:=Option.some.inj h;exact⟨by rw[seqIndex_of h0 h1,e],by omega,by omega,h1⟩
  ·rw[if_neg h1]at h;cases h
 ·rw[if_neg h0]at h;by_cases h1:-(n:Int)<=i;·rw[if_pos h1]at h;have e:(i+n).toNat=j:=Option.some.inj h;exact⟨by rw[seqIndex_neg ↑a h1,e],by omega,h1,by omega⟩
  ·rw[if_neg h1]at h;cases h
def bL{α:Type}{xs:List α}{i:Int}{v:α}(h:dM xs i=some v):∃j,seqIndex? i xs.length=some j/\xs[j]?=some v/\j<xs.length/\-(xs.length:Int)<=i/\i<xs.length:=by unfold dM at h;cases e:JW xs.length i with|none=>rw[e]at h;cases h|some j=>rw[e]at h;obtain⟨h1,h2,h3,h4⟩:=JX e;exact⟨j,h1,h,h2,h3,h4⟩
def QV{α:Type}{xs:List α}{j:Nat}{v:α}(h:xs[j]?=some v):dM xs (j:Int)=some v:=by
 have hj:j<xs.length:=(List.getElem?_eq_some_iff.mp h).1;have e:JW xs.length (j:Int)=some j:=by unfold JW;rw[if_pos ↑a,if_pos ↑a];simp
 unfold dM;rw[e];exact h
def bM(b:Expr):Prop:=∀o i,subscripted b false o i=operate [o,i] (getItem o i)
def Ie(X:Cx)(r:R2):Prop:=∀(value slice:Expr)(pins:List ↑y)(s:Shared)(σ:St)(H:Hp)(x y:V)(v u:Value)(Q:VK),zu X pins σ H s->RelV x v->RelV y u->r x y H Q->subscripted slice false v u=operate [v,u] (getItem v u)->wpAny ↑b X.A (subscriptTail value slice v u) ↑aK X.xe s
def NA(X:Cx)(id:String)(r:V->List V->Hp->VK->Prop):Prop:=∀(pins:List ↑y)(s:Shared)(σ:St)(H:Hp)(x:V)(xs:List V)(v:Value)(us:List Value)(Q:VK),zu X pins σ H s->RelV x v->zL xs us->r x xs H Q->wpAny ↑b X.A (call (.builtin id) (v::us)) ↑aK X.xe s
section
def Ig{r:R2}(hr:Ie X r)(ha:PE X a ta)(hb:PE X b tb)(hs:bM b):PE X (.Subscript a b pos) (LU r ta tb):=by intro pins s σ H Q I h;exact Subscript_ (Nl ha hb I h λv u s2 x y H2 I2 rx ry q=>hr a b pins s2 σ H2 x y v u Q I2 rx ry q (hs _ _))
def Eu(K:W.Frag):R2:=λx y H Q=>∃p xs i v,x=.ref p/\y=.int i/\nO K H p xs/\dM xs i=some v/\Q v H
def Ev(K:W.Frag):R2:=λx y H Q=>∃p xs i v,x=.ref p/\y=.int i/\lw K H p xs/\dM xs i=some v/\Q v H
def Ew:R2:=λx y H Q=>∃z i c,x=.str z/\y=.int i/\z.length<=sizeLine/\dM z.cps.toList i=some c/\Q (.str ⟨#[c]⟩) H
def QW:Ie X (Eu X.K):=by
 intro value slice pins s σ H x y v u Q I rx ry h hs;obtain⟨p,xs,i,z,rfl,rfl,hq,he,q⟩:=h;cases rx;obtain⟨t,rfl⟩:=ry;obtain⟨its,r,pl,hz⟩:=I.list hq;obtain⟨j,h1,h2,h3,h4,h5⟩:=bL he;obtain⟨w,ew,rw'⟩:=r.get h2;have hl:=r.length;have hn:=ug;have fin:EP X pins σ Q w s:=⟨z,H,I,rw',q⟩;by_cases h0:0<=i
 ·have hj:i.toNat=j:=by rw[seqIndex_of h0 h5]at h1;exact Option.some.inj h1
  exact item_listR pl.isList h0 ↑a (by rw[hj];simpa using ew) fin hs
 ·have hj:(i+(its.toArray.size:Int)).toNat=j:=by rw[seqIndex_neg ↑a h4]at h1;rw[List.size_toArray,<-hl];exact Option.some.inj h1
  exact subscriptTail_builtinR (x:=w) pl.isList.typeIs slot_list_getitem.lookup (wpAny_getItem_list_neg (Q:=λr s'=>r=w/\EP X pins σ Q r s') pl.isList ↑a (by rw[List.size_toArray]<;>omega) ↑a (by rw[hj];simpa using ew) ⟨rfl,fin⟩) hs
def NB:Ie X (Ev X.K):=by intro value slice pins s σ H x y v u Q I rx ry h hs;obtain⟨p,xs,i,z,rfl,rfl,hq,he,q⟩:=h;cases rx;obtain⟨t,rfl⟩:=ry;obtain⟨its,r,pl,hz⟩:=I.tuple hq;obtain⟨j,h1,h2,h3,h4,h5⟩:=bL he;obtain⟨w,ew,rw'⟩:=r.get h2;have hl:=r.length;have hn:=ug;have fin:EP X pins σ Q w s:=⟨z,H,I,rw',q⟩;exact subscriptTail_builtinR (x:=w) pl.typeIs slot_tuple_getitem.lookup (getItem_tuple (j:=j) (Q:=λr s'=>r=w/\EP X pins σ Q r s') pl ↑a ↑a (by rw[List.size_toArray,<-hl];exact h1) (by simpa using ew) ⟨rfl,fin⟩) hs
def ND:Ie X Ew:=by
 intro value slice pins s σ H x y v u Q I rx ry h hs;obtain⟨z,i,c,rfl,rfl,hz,he,q⟩:=h;obtain⟨t,rfl⟩:=rx;obtain⟨t',rfl⟩:=ry;obtain⟨j,h1,h2,h3,h4,h5⟩:=bL he;have hl:z.cps.toList.length=z.length:=by simp[Str.length]
 rw[hl]at h1 h4 h5;have hn:=ug;exact tail_any (typeIs_str s z t) slot_str_getitem.lookup (getItem_str (c:=c) (by have e1:decide (i< -(2^63:Int))=false:=decide_eq_false ↑a;have e2:decide (i>=2^63)=false:=decide_eq_false ↑a;rw[e1,e2,Bool.or_false]) (by rw[h1];simpa using h2) ⟨.str ⟨#[c]⟩,H,I.tok _,⟨_,rfl⟩,q⟩) hs
def ZL(its:List Value)(n j:Nat)(u:Value):Obj.mapSeq (·.setIfInBounds j u) {cls:=.type "list",data:=.seq its.toArray n}={cls:=.type "list",data:=.seq (its.set j u).toArray n}:=by simp[Obj.mapSeq]
def zu.lst{pins:List ↑y}{σ:St}{H:Hp}{s:Shared}{p:Addr}{xs:List V}(I:zu X pins σ H s)(h:H p=some (.lst xs)):∃(its:List Value)(n:Nat),zL xs its/\s.heap.get? p=some {cls:=.type "list",data:=.seq its.toArray n}/\xs.length<=sizeLine:=by obtain⟨z,its,n,r,e⟩:=I.hok p _ h;exact⟨its,n,r,e,z⟩
def zu.lstUpd{pins:List ↑y}{σ:St}{H:Hp}{s:Shared}{p:Addr}{xs ys:List V}{its its':List Value}{n n':Nat}{f:Obj->Obj}(I:zu X pins σ H s)(h:H p=some (.lst xs))(ho:s.heap.get? p=some {cls:=.type "list",data:=.seq its.toArray n})(hf:f {cls:=.type "list",data:=.seq its.toArray n}={cls:=.type "list",data:=.seq its'.toArray n'})(r:zL ys its')(hz:ys.length<=sizeLine)(t:Nat):zu X pins σ (jm H p (.lst ys)) {s with heap:=s.heap.update p f,toks:=t}:=by
 have e:(s.heap.update p f).get? p=some {cls:=.type "list",data:=.seq its'.toArray n'}:=by rw[Heap.get?_update_self f ho (by rw[hf]<;>rfl),hf]
 refine I.write (x:=p) (e:=p) (by rw[h];trivial) (.inl rfl) (λb u hb q=>(Heap.get?_update_other _ _ (Ne.symm hb)).trans q) ⟨_,e⟩ ?_;exact⟨hz,its',n',r,e⟩
def Uj:V->V->V->Hp->(Hp->Prop)->Prop:=λo i v H Q=>∃p xs k j,o=.ref p/\i=.int k/\H p=some (.lst xs)/\JW xs.length k=some j/\Q (jm H p (.lst (xs.set j v)))
def V3:LO X Uj:=by
 intro pins s σ H o i v ov iv u Q I ro ri rv h;obtain⟨p,xs,k,j,rfl,rfl,hp,hj,q⟩:=h;cases ro;obtain⟨t,rfl⟩:=ri;obtain⟨its,n,r,ho,hz⟩:=I.lst hp;obtain⟨h1,h2,h3,h4⟩:=JX hj;have hl:=r.length;have hn:=ug;have I':zu X pins σ (jm H p (.lst (xs.set j v))) {s with heap:=s.heap.update p (Obj.mapSeq (·.setIfInBounds j u))}:=I.lstUpd hp ho (ZL its n j u) (r.set rv j) (by rw[List.length_set];exact hz) s.toks;by_cases h0:0<=k
 ·have hk:k.toNat=j:=by rw[seqIndex_of h0 h4]at h1;exact Option.some.inj h1
  exact W.ki_setAt ho h0 ↑a (by rw[List.size_toArray,<-hl];exact h4) (by rw[hk];exact⟨_,I',q⟩)
 ·have hk:(k+(its.toArray.size:Int)).toNat=j:=by rw[seqIndex_neg ↑a h3]at h1;rw[List.size_toArray,<-hl];exact Option.some.inj h1
  exact W.ki_setBack ho ↑a (by rw[List.size_toArray,<-hl];exact h3) ↑a (by rw[hk];exact⟨_,I',q⟩)
def bN(lo hi:Option Int)(n:Nat):(sliceBounds lo hi none n).1=((HT.sIx n 0 lo:Nat):Int)/\(sliceBounds lo hi none n).2.1=((HT.sIx n n hi:Nat):Int)/\(sliceBounds lo hi none n).2.2=1:=by
 refine⟨?_,?_,rfl⟩;·cases lo with|none=>simp[sliceBounds,HT.sIx]|some i=>
   simp only[sliceBounds,HT.sIx,Option.getD_none,show(1:Int)>0 by decide,if_true];by_cases h:i<0;·simp only[h,if_true]<;>omega
   ·simp only[h,if_false]<;>omega
 ·cases hi with|none=>simp[sliceBounds,HT.sIx]|some i=>
   simp only[sliceBounds,HT.sIx,Option.getD_none,show(1:Int)>0 by decide,if_true];by_cases h:i<0;·simp only[h,if_true]<;>omega
   ·simp only[h,if_false]<;>omega
def dQ(its:List Value)(lo hi:Option Int):slicePick its.toArray lo hi none=((its.drop (HT.sIx its.length 0 lo)).take (HT.sIx its.length its.length hi-HT.sIx its.length 0 lo)).toArray:=by obtain⟨h1,h2,h3⟩:=bN lo hi its.toArray.size;unfold slicePick;rw[h1,h2,h3];simp only[sliceRange_one,pick_run,List.size_toArray]<;>rfl
def Ey(K:W.Frag):V->Option Int->Option Int->Hp->VK->Prop:=λx lo hi H Q=>∃a xs,x=.ref a/\nO K H a xs/\∀p,H p=none->Q (.ref p) (jm H p (.lst (tP xs lo hi)))
def QX:Ib X (Ey X.K):=by intro pins s σ H x v vl vu lo hi sl Q I rx hs pl pu h;obtain⟨a,xs,rfl,hx,q⟩:=h;cases rx;obtain⟨its,r,ht,hz⟩:=I.list hx;have hlen:=r.length;refine⟨"list",_,slot_list_getitem.lookup,ht.isList.typeIs,?_⟩;refine wpAny_getItem_list_slice ht.isList hs pl pu .none ↑T ?_ (by rw[List.size_toArray]<;>omega);rw[dQ,<-hlen];refine⟨.ref s.heap.objs.size,_,I.laid (t':=s.toks) (o:=.lst (tP xs lo hi)) (λb ob q=>Heap.get?_push_of_some _ q) ↑e ?_,rfl,q _ (I.hok.fresh ↑e)⟩;exact⟨Nat.le_trans (mY xs lo hi) hz,_,0,(r.drop (HT.sIx xs.length 0 lo)).take (HT.sIx xs.length xs.length hi-HT.sIx xs.length 0 lo),Heap.get?_push_size _ rfl⟩
def uK:vo X (.builtin "len") (λxs H Q=>∃p ys,xs=[.ref p]/\(nO X.K H p ys\/lw X.K H p ys)/\Q (.int ys.length) H):=by
 intro pins s σ H xs us Q I r h;obtain⟨p,ys,rfl,hq,q⟩:=h;obtain⟨u,rfl,rx⟩:=gh r;cases rx;have hn:=ug;rcases hq with hq|hq;·obtain⟨its,r',pl,hz⟩:=I.list hq;have hlen:=r'.length;exact Calls.call_len_list pl.isList (by simp only[List.size_toArray]<;>omega) ⟨.int ys.length,H,I.tok _,⟨s.toks+1,by rw[List.size_toArray,hlen]⟩,q⟩
 ·obtain⟨its,r',pl,hz⟩:=I.tuple hq;have hlen:=r'.length;exact len_tuple pl (by simp only[List.size_toArray]<;>omega) ⟨.int ys.length,H,I.tok _,⟨s.toks+1,by rw[List.size_toArray,hlen]⟩,q⟩
def bO:vo X (.builtin "len") (λxs H Q=>∃z,xs=[.str z]/\z.length<=sizeLine/\Q (.int z.length) H):=by intro pins s σ H xs us Q I r h;obtain⟨z,rfl,hz,q⟩:=h;obtain⟨u,rfl,t,rfl⟩:=gh r;have hn:=ug;exact len_str ↑a ⟨.int z.length,H,I.tok _,⟨_,rfl⟩,q⟩
def uL:vo X (.type "list") (λxs H Q=>∃p ys,xs=[.ref p]/\(nO X.K H p ys\/lw X.K H p ys)/\∀l,H l=none->Q (.ref l) (jm H l (.lst ys))):=by
 intro pins s σ H xs us Q I r h;obtain⟨p,ys,rfl,hq,q⟩:=h;obtain⟨u,rfl,rx⟩:=gh r;cases rx;have fin:∀(its:List Value),zL ys its->ys.length<=sizeLine->∀(h':Heap)(c':Nat),(∀b o',s.heap.get? b=some o'->h'.get? b=some o')->h'.get? s.heap.objs.size=some {cls:=.type "list",dict:=none,data:=.seq its.toArray c',slots:=#[]}->EP X pins σ Q ↑ak {s with heap:=h'}:=λits r' hz h' c' kp e=>⟨.ref s.heap.objs.size,_,I.laid (t':=s.toks) kp ↑e (show jg X.prog X.w _ h' _ (.lst ys)from⟨hz,its,c',r',e⟩),rfl,q _ (I.hok.fresh ↑e)⟩;rcases hq with hq|hq;·obtain⟨its,r',pl,hz⟩:=I.list hq;have hlen:=r'.length;obtain⟨o,ho,hc,n,hd⟩:=pl.isList;exact call_list_seq p (.inl rfl) ho hc hd (λh' c' kp e=>fin its r' hz h' c' kp e) (by simp only[List.size_toArray]<;>omega)
 ·obtain⟨its,r',pl,hz⟩:=I.tuple hq;have hlen:=r'.length;obtain⟨o,ho,hc,n,hd⟩:=pl;exact call_list_seq p (.inr rfl) ho hc hd (λh' c' kp e=>fin its r' hz h' c' kp e) (by simp only[List.size_toArray]<;>omega)
def pS:vo X (.type "tuple") (λxs H Q=>∃p ys,xs=[.ref p]/\((nO X.K H p ys/\∀l,H l=none->Q (.ref l) (jm H l (.tup ys)))\/(lw X.K H p ys/\Q (.ref p) H))):=by
 intro pins s σ H xs us Q I r h;obtain⟨p,ys,rfl,h⟩:=h;obtain⟨u,rfl,rx⟩:=gh r;cases rx;rcases h with⟨hq,q⟩|⟨hq,q⟩;·obtain⟨its,r',pl,hz⟩:=I.list hq;have hlen:=r'.length;refine call_tuple_list pl.isList (λh' kp=>?_) (by simp only[List.size_toArray]<;>omega);have I1:zu X pins σ H {s with heap:=h'}:=I.kept (t':=s.toks) kp;have I2:zu X pins σ (jm H h'.objs.size (.tup ys)) {s with heap:=h'.push {cls:=.type "tuple",data:=.seq its.toArray}}:=I1.laid (t':=s.toks) (λb o e=>Heap.get?_push_of_some _ e) ↑e (show jg X.prog X.w _ _ _ (.tup ys)from⟨hz,its,r',IsTup.new _ _⟩);exact⟨.ref h'.objs.size,_,I2,rfl,q _ (I1.hok.fresh ↑e)⟩
 ·obtain⟨its,r',pl,hz⟩:=I.tuple hq;exact call_tuple_same pl ⟨.ref p,H,I,rfl,q⟩
def Lz(K:W.Frag)(T:String)(x:V)(H:Hp):Prop:=match x with|.str _=>T="str"|.int _=>T="int"|.ref p=>(T="list"/\∃xs,nO K H p xs)\/(T="tuple"/\∃o,K.lookup p=some o/\o.cls=.type "tuple"/\o.dict=none)\/(T="dict"/\((∃kvs,H p=some (.dK kvs))\/∃kvs,H p=some (.dT kvs)))\/(T="set"/\∃S n,H p=some (.set S n))|_=>False
def ZM{pins:List ↑y}{σ:St}{H:Hp}{s:Shared}{T:String}{x:V}{v:Value}(I:zu X pins σ H s)(r:RelV x v)(ty:Lz X.K T x H):
  s.TypeIs v T/\∀a,v=.ref a->∃ob,s.heap.get? a=some ob/\ob.dict=none:=by cases x with|str z=>obtain⟨t,rfl⟩:=r;cases(show T="str"from ty);exact⟨typeIs_str s z t,λ_ e=>nomatch e⟩|int i=>obtain⟨t,rfl⟩:=r;cases(show T="int"from ty);exact⟨typeIs_int s i t,λ_ e=>nomatch e⟩|ref p=>
  cases r;rcases ty with⟨rfl,xs,hq⟩|⟨rfl,o,hk,hc,hd⟩|⟨rfl,hk⟩|⟨rfl,S,n,hk⟩;·obtain⟨its,_,pl,_⟩:=I.list hq;refine⟨pl.isList.typeIs,λa e=>?_⟩;cases e;obtain⟨o,n,e,c,hd,_⟩:=pl;exact⟨o,e,hd⟩
  ·refine⟨⟨o,I.kIn p o hk,hc⟩,λa e=>?_⟩;cases e;exact⟨o,I.kIn _ o hk,hd⟩
  ·have z:∃o,s.heap.get? p=some o/\o.ExactDict:=by
    rcases hk with⟨kvs,hk⟩|⟨kvs,hk⟩;·obtain⟨_,_,_,_,o,_,_,e,ex,_⟩:=I.hok p _ hk;exact⟨o,e,ex⟩
    ·obtain⟨_,_,_,_,o,_,_,e,ex,_⟩:=I.hok p _ hk;exact⟨o,e,ex⟩
   obtain⟨o,e,ex⟩:=z;refine⟨⟨o,e,ex.1⟩,λa e2=>?_⟩;cases e2;exact⟨o,e,ex.2.1⟩
  ·obtain⟨o,_,_,_,e,ex,_⟩:=I.hok p _ hk;refine⟨⟨o,e,ex.1⟩,λa e2=>?_⟩;cases e2;exact⟨o,e,ex.2.1⟩|_=>exact False.elim ty
def Ih(K:W.Frag)(T:String)(r:V->List V->Hp->VK->Prop)(to:TE):TE:=λσ H Q=>to σ H λx H1=>Lz K T x H1/\r x [] H1 Q
def Ez(K:W.Frag)(T:String)(r:V->List V->Hp->VK->Prop)(to:TE)(t:TA):TE:=λσ H Q=>to σ H λx H1=>Lz K T x H1/\t σ H1 λxs H2=>r x xs H2 Q
variable{o e:Expr}{es:List Expr}{to:TE}{t:TA}{name:Str}{apos cpos:Pos}{T id:String}{r:V->List V->Hp->VK->Prop}
theorem NE(pa:PlainAttrs T)(slot:Slot T name id)(hty:typeOf (.builtin id)=pure (.type "method_descriptor"))(hm:NA X id r)(ho:PE X o to)(hbase:attributeBase o name X.env (eval o X.env)=eval o X.env:=by rfl)(hline:(apos.endLine==cpos.line)=true:=by rfl):PE X (.Call (.Attribute o name apos) [] [] cpos) (Ih X.K T r to):=by intro pins s σ H Q I h;refine wpAny_Call_method0_late hbase hline (jQ (ho pins s σ H _ I h) λv s1⟨x,H1,I1,r1,ty,q1⟩=>?_);obtain⟨h1,h2⟩:=ZM I1 r1 ty;exact⟨T,id,pa,slot,hty,h1,h2,Calls.callWith_builtin rfl (PySem.evalArgs_none (hm pins s1 σ H1 x [] v [] Q I1 r1 .nil q1))⟩
theorem fv(pa:PlainAttrs T)(slot:Slot T name id)(hty:typeOf (.builtin id)=pure (.type "method_descriptor"))(hm:NA X id r)(ho:PE X o to)(ha:PA X (e::es) t)(hbase:attributeBase o name X.env (eval o X.env)=eval o X.env:=by rfl)(hfew:↑aE=true:=by rfl)(hline:(apos.endLine==cpos.line)=true:=by rfl)(hs:starEach (e::es) X.env=↑M::starEach es X.env:=by rfl)(hplain:(backTo cpos ↑aL).any (·.1)=false:=by rfl):PE X (.Call (.Attribute o name apos) (e::es) [] cpos) (Ez X.K T r to t):=by intro pins s σ H Q I h;refine wpAny_Call_method_late hbase hfew hline rfl (jQ (ho pins s σ H _ I h) λv s1⟨x,H1,I1,r1,ty,q1⟩=>?_);obtain⟨h1,h2⟩:=ZM I1 r1 ty;refine⟨T,id,pa,slot,hty,h1,h2,?_⟩;have hA:=ha cpos pins s1 σ H1 _ I1 q1;rw[hs]at hA⊢;refine Calls.callWith_builtin (by show(false||(backTo cpos ↑aL).any (·.1))=false;rw[hplain]<;>rfl) (Calls.evalArgs_plain ?_);exact jQ hA λus s2⟨vs,H2,I2,r2,q2⟩=>hm pins s2 σ H2 x vs v us Q I2 r1 r2 q2/-xs.append(e),list.index on a module's tuple..are NA facts of 06m-/
end
def EA(X:Cx)(id:String)(r:V->List V->Hp->VK->Prop):Prop:=∀(pins:List ↑y)(s:Shared)(σ:St)(H:Hp)(x:V)(xs:List V)(v:Value)(us:List Value)(Q:VK),zu X pins σ H s->RelV x v->zL xs us->r x xs H Q->wpAny ↑b X.A (call (.builtin id) (v::us)) ↑aK X.xe s
def zL.one:∀{x:V}{us:List Value},zL [x] us->∃u,us=[u]/\RelV x u|_,_,.cons r .nil=>⟨_,rfl,r⟩
def zL.zero:∀{us:List Value},zL [] us->us=[]|_,.nil=>rfl
def zL.dropLast{xs:List V}{us:List Value}(h:zL xs us):zL xs.dropLast us.dropLast:=by induction h with|nil=>exact .nil|cons r t ih=>cases t with|nil=>exact .nil|cons q t'=>exact .cons r ih
def ZN{α:Type}(l:List α):l.eraseIdx (l.length-1)=l.dropLast:=by induction l with|nil=>rfl|cons a r ih=>cases r with|nil=>rfl|cons b r=>
   have e:(a::b::r).length-1=((b::r).length-1)+1:=by have h1:(a::b::r).length=r.length+2:=rfl;have h2:(b::r).length=r.length+1:=rfl;omega
   rw[e,List.eraseIdx_cons_succ,ih];all_goals rfl
def zu.lset{its its':List Value}{n:Nat}{f:Array Value->Array Value}{t':Nat}(I:zu X pins σ H s)(hH:H l=some (.lst xs))(e:s.heap.get? l=some {cls:=.type "list",data:=.seq its.toArray n})(hf:f its.toArray=its'.toArray)(hv:zL ys its')(hz:ys.length<=sizeLine):zu X pins σ (jm H l (.lst ys)) {s with heap:=s.heap.update l (Obj.mapSeq f),toks:=t'}:=by have q:=PySem.IsL.update e f;rw[hf]at q;refine I.write (x:=l) (e:=l) (by rw[hH];exact trivial) (.inl rfl) (λb' u hb hu=>(Heap.get?_update_other s.heap (Obj.mapSeq f) (Ne.symm hb)).trans hu) ⟨_,q⟩ ?_;exact⟨hz,its',_,hv,q⟩
def zu.lnew{its:List Value}{t':Nat}(I:zu X pins σ H s)(hv:zL ys its)(hz:ys.length<=sizeLine):zu X pins σ (jm H s.heap.objs.size (.lst ys)) {s with heap:=s.heap.push {cls:=.type "list",data:=.seq its.toArray},toks:=t'}:=I.laid (λ_ _ q=>Heap.get?_push_of_some _ q) ↑e ⟨hz,its,0,hv,Heap.get?_push_size _ rfl⟩
def zu.fresh(I:zu X pins σ H s):H s.heap.objs.size=none:=I.hok.fresh ↑e
def zu.lstM(I:zu X pins σ H s)(hH:H l=some (.lst xs)):xs.length<=sizeLine/\∃(its:List Value)(n:Nat),zL xs its/\xs.length=its.length/\s.heap.get? l=some {cls:=.type "list",data:=.seq its.toArray n}:=by obtain⟨z,its,n,r,e⟩:=I.hok l _ hH;exact⟨z,its,n,r,r.length,e⟩
def V4{n:Nat}(h:n<=sizeLine):Builtin.List.listTooLong n=false:=by unfold Builtin.List.listTooLong;exact decide_eq_false ↑a
def JY:V->List V->Hp->VK->Prop:=λx vs H Q=>∃l xs y,x=.ref l/\vs=[y]/\H l=some (.lst xs)/\xs.length<sizeLine/\Q .non (jm H l (.lst (xs++[y])))
def wp:EA X "list.append" JY:=by intro pins s σ H x vs v us Q I rx rv h;obtain⟨l,xs,y,rfl,rfl,hH,hz,q⟩:=h;cases rx;obtain⟨u,rfl,ru⟩:=rv.one;obtain⟨z,its,n,r,hl,e⟩:=I.lstM hH;refine call_meets F.slot_list_append ⟨_,e,rfl⟩ F.entry_list_append (F.args_list_append_2 _ _) (PySem.list_append l its.toArray n u (by rw[List.size_toArray];omega)) ⟨e,?_⟩;refine⟨.non,_,I.lset (its':=its++[u]) hH e ↑T (r.append (.cons ru .nil)) ?_,rfl,q⟩;rw[List.length_append,List.length_singleton];omega
def JZ:V->List V->Hp->VK->Prop:=λx vs H Q=>∃l b xs zs,x=.ref l/\vs=[.ref b]/\H l=some (.lst xs)/\H b=some (.lst zs)/\xs.length+zs.length<=sizeLine/\Q .non (jm H l (.lst (xs++zs)))
def nV:EA X "list.extend" JZ:=by
 intro pins s σ H x vs v us Q I rx rv h;obtain⟨l,b,xs,zs,rfl,rfl,hH,hB,hz,q⟩:=h;cases rx;obtain⟨u,rfl,ru⟩:=rv.one;cases ru;obtain⟨z,its,n,r,hl,e⟩:=I.lstM hH;obtain⟨z2,its2,n2,r2,hl2,e2⟩:=I.lstM hB;have hsz:its.toArray.size+its2.toArray.size<=sizeLine:=by rw[List.size_toArray,List.size_toArray];omega
 have hlong:¬(!its.toArray.isEmpty&&Builtin.List.listTooLong (its.toArray.size+its2.toArray.size))=true:=by rw[V4 hsz,Bool.and_false];exact Bool.false_ne_true
 refine call_meets F.slot_list_extend ⟨_,e,rfl⟩ F.entry_list_extend (F.args_list_extend_2 _ _) (AutoSeq1.list_extend_list_list_0 l its.toArray n b its2.toArray n2 hlong (by rw[List.size_toArray];omega) ↑a) ⟨e,e2,?_⟩;refine⟨.non,_,I.lset (its':=its++its2) hH e ↑T (r.append r2) ?_,rfl,q⟩;rw[List.length_append];omega
def Ii:V->List V->Hp->VK->Prop:=λx vs H Q=>∃l xs y,x=.ref l/\vs=[]/\H l=some (.lst xs)/\xs[xs.length-1]?=some y/\Q y (jm H l (.lst xs.dropLast))
def NF:EA X "list.pop" Ii:=by
 intro pins s σ H x vs v us Q I rx rv h;obtain⟨l,xs,y,rfl,rfl,hH,hy,q⟩:=h;cases rx;have hus:=rv.zero;subst hus;obtain⟨z,its,n,r,hl,e⟩:=I.lstM hH;obtain⟨u,hu,ru⟩:=r.get hy;have hy':its.toArray[its.toArray.size-1]?=some u:=by show its.toArray[its.length-1]?=some u;rw[<-Array.getElem?_toList,<-hl];exact hu
 refine call_meets F.slot_list_pop ⟨_,e,rfl⟩ F.entry_list_pop (F.args_list_pop_1 _) (MeetsSeq.list_pop_last l its.toArray n u hy' (by rw[List.size_toArray];omega)) ⟨e,?_⟩;refine⟨y,_,I.lset (its':=its.dropLast) hH e ?_ r.dropLast ?_,ru,q⟩;·show its.toArray.eraseIdxIfInBounds (its.toArray.size-1)=its.dropLast.toArray;rw[List.size_toArray,List.eraseIdxIfInBounds_toArray,ZN]
 ·rw[List.length_dropLast];omega
section
def NG{a c n:Nat}(hac:a<=c)(hc:c<=n):sliceBounds (some (a:Int)) (some (c:Int)) none n=((a:Int),(c:Int),1):=by
 simp only[sliceBounds,Option.getD_none];have h1:¬((a:Int)<0):=by omega
 have h2:¬((c:Int)<0):=by omega
 simp only[h1,h2,if_false,show(1:Int)>0 by decide,if_true];congr 1;·omega
 ·congr 1;omega
end
section
variable{κ:Type}[DecidableEq κ]
def jY(kvs:List (κ×V))(k:κ):Option V:=(kvs.find? λkv=>decide (kv.1=k)).map (·.2)
def ka(kvs:List (κ×V))(k:κ)(v:V):List (κ×V):=if(kvs.any λkv=>decide (kv.1=k))=true then kvs.map (λkv=>if kv.1=k then(kv.1,v)else kv)else kvs++[(k,v)]
theorem xK{p:κ×V}{r:List (κ×V)}{k:κ}(e:p.1=k):jY (p::r) k=some p.2:=by simp[jY,List.find?_cons,e]
theorem xL{p:κ×V}{r:List (κ×V)}{k:κ}(e:¬p.1=k):jY (p::r) k=jY r k:=by simp[jY,List.find?_cons,e]
theorem gj(k:κ):∀kvs:List (κ×V),(kvs.any λkv=>decide (kv.1=k))=(jY kvs k).isSome
 |[]=>rfl|p::r=>by
  rw[List.any_cons];by_cases e:p.1=k;·simp only[xK e,decide_eq_true e,Bool.true_or,Option.isSome_some]
  ·rw[xL e,decide_eq_false e,Bool.false_or];exact gj k r
theorem tQ(k j:κ)(y:V):∀kvs:List (κ×V),jY (kvs.map λkv=>if kv.1=k then(kv.1,y)else kv) j=(jY kvs j).map λx=>if j=k then y else x
 |[]=>rfl|p::r=>by
  have ih:=tQ k j y r;rw[List.map_cons];by_cases h:p.1=k
  ·rw[if_pos h];by_cases e:p.1=j;·rw[xK (p:=(p.1,y)) e,xK e,Option.map_some,if_pos (e.symm.trans h)]
   ·rw[xL (p:=(p.1,y)) e,xL e,ih]
  ·rw[if_neg h];by_cases e:p.1=j;·rw[xK (p:=p) e,xK e,Option.map_some,if_neg (λz=>h (e.trans z))]
   ·rw[xL (p:=p) e,xL e,ih]
theorem cE(k j:κ)(y:V):∀kvs:List (κ×V),jY kvs k=none->jY (kvs++[(k,y)]) j=if j=k then some y else jY kvs j
 |[],_=>by
  by_cases e:k=j;·rw[if_pos e.symm];exact xK (p:=(k,y)) e
  ·rw[if_neg (λz=>e z.symm)];exact xL (p:=(k,y)) e|p::r,hn=>by
  rw[List.cons_append];have hk:¬p.1=k:=λz=>by rw[xK z]at hn;cases hn
  rw[xL hk]at hn;have ih:=cE k j y r hn;by_cases e:p.1=j;·rw[xK e,xK e,if_neg (λz=>hk (e.trans z))]
  ·rw[xL e,xL e,ih]
theorem V5(kvs:List (κ×V))(k j:κ)(y:V):jY (ka kvs k y) j=if j=k then some y else jY kvs j:=by
 unfold ka;by_cases a:(kvs.any λkv=>decide (kv.1=k))=true
 ·rw[if_pos a,tQ];rw[gj]at a;by_cases e:j=k;·obtain⟨x,hx⟩:=Option.isSome_iff_exists.mp a;rw[if_pos e,e,hx,Option.map_some,if_pos rfl]
  ·rw[if_neg e];cases jY kvs j with|none=>rfl|some x=>rw[Option.map_some,if_neg e]
 ·rw[if_neg a];refine cE k j y kvs ?_;rw[gj]at a;cases q:jY kvs k with|none=>rfl|some x=>rw[q]at a;exact(a rfl).elim
theorem mZ(kvs:List (κ×V))(k:κ)(v:V):(ka kvs k v).length<=kvs.length+1:=by
 unfold ka;split;·rw[List.length_map];omega
 ·rw[List.length_append,List.length_cons,List.length_nil];omega
theorem V6{kvs:List (κ×V)}{k:κ}(v:V)(h:jY kvs k=none):ka kvs k v=kvs++[(k,v)]:=by unfold ka;rw[gj,h];exact if_neg ↑v
theorem fu.isSome_eq{o:Option V}{u:Option Value}(r:fu o u):o.isSome=u.isSome:=by cases o with
 |none=>cases u with|none=>rfl|some _=>exact(show False from r).elim
 |some _=>cases u with|none=>exact(show False from r).elim|some _=>rfl
theorem KV.val{kvs:List (κ×V)}{vs:List (κ×Value)}(r:KV kvs vs)(k:κ):fu (jY kvs k) (valueAt vs k):=by unfold KV at r;induction r with|nil=>exact True.intro|@cons p q ps qs h t ih=>
  obtain⟨h1,h2⟩:=h;by_cases e:p.1=k
  ·have e':q.1=k:=h1.symm.trans e;have b:valueAt (q::qs) k=some q.2:=by simp[valueAt,List.find?_cons,e']
   rw[xK e,b];exact h2
  ·have e':¬q.1=k:=λz=>e (h1.trans z);have b:valueAt (q::qs) k=valueAt qs k:=by simp[valueAt,List.find?_cons,e']
   rw[xL e,b];exact ih
theorem KV.any{kvs:List (κ×V)}{vs:List (κ×Value)}(r:KV kvs vs)(k:κ):(kvs.any λkv=>decide (kv.1=k))=vs.any λkv=>decide (kv.1=k):=by unfold KV at r;induction r with|nil=>rfl|cons h t ih=>rw[List.any_cons,List.any_cons,ih,h.1]
theorem KV.repl{kvs:List (κ×V)}{vs:List (κ×Value)}(r:KV kvs vs)(k:κ){y:V}{u:Value}(ry:RelV y u):KV (kvs.map λkv=>if kv.1=k then(kv.1,y)else kv) (vs.map λkv=>if kv.1=k then(kv.1,u)else kv):=by unfold KV at r⊢;induction r with|nil=>exact .nil|@cons p q ps qs h t ih=>
  rw[List.map_cons,List.map_cons];refine .cons ?_ ih;obtain⟨h1,h2⟩:=h;by_cases e:p.1=k;·rw[if_pos e,if_pos (h1.symm.trans e)];exact⟨h1,ry⟩
  ·rw[if_neg e,if_neg (λz=>e (h1.trans z))];exact⟨h1,h2⟩
theorem KV.put{kvs:List (κ×V)}{vs:List (κ×Value)}(r:KV kvs vs)(k:κ){y:V}{u:Value}(ry:RelV y u):KV (ka kvs k y) (stored vs k u):=by
 unfold ka stored;rw[r.any k];by_cases e:(vs.any λkv=>decide (kv.1=k))=true;·rw[if_pos e,if_pos e];exact r.repl k ry
 ·rw[if_neg e,if_neg e];exact Paired.snoc r ⟨rfl,ry⟩
theorem KV.length{kvs:List (κ×V)}{vs:List (κ×Value)}(r:KV kvs vs):kvs.length=vs.length:=Paired.length r
end
def l0{P:Program}{w:World}{k:Key}{u:Value}(r:RelV (kV k) u):(jC P w).is k u=true:=by cases k with|inl i=>obtain⟨t,e⟩:=(show∃t,u=Value.int i t from r);subst e;exact t9 P w i t|inr x=>obtain⟨t,e⟩:=(show∃t,u=Value.str x t from r);subst e;exact ft P w x t
def cF{P:Program}{w:World}:∀{ks:List Key}{us:List Value},zL (ks.map kV) us->ItemsAre (jC P w) ks us|[],_,r=>by rw[List.map_nil]at r;cases r;exact .nil|k::ks,_,r=>by rw[List.map_cons]at r;cases r with|cons h t=>exact .cons (l0 h) (cF t)
abbrev KT(H:Hp):List (List Key×V)->List (List Key×Addr×Value)->Prop:=Paired λp q=>p.1=q.1/\H q.2.1=some (.tup (p.1.map kV))/\RelV p.2 q.2.2
def KT.val{H:Hp}{kvs:List (List Key×V)}{xs:List (List Key×Addr×Value)}(r:KT H kvs xs)(k:List Key):fu (jY kvs k) ((atKey xs k).map (·.2)):=by induction r with|nil=>exact True.intro|@cons p q ps qs h t ih=>
  obtain⟨h1,_,h2⟩:=h;by_cases e:p.1=k
  ·have e':q.1=k:=h1.symm.trans e;have b:atKey (q::qs) k=some q.2:=by simp[atKey,List.find?_cons,e']
   rw[xK e,b];exact h2
  ·have e':¬q.1=k:=λz=>e (h1.trans z);have b:atKey (q::qs) k=atKey qs k:=by simp[atKey,List.find?_cons,e']
   rw[xL e,b];exact ih
def KT.repl{H:Hp}{kvs:List (List Key×V)}{xs:List (List Key×Addr×Value)}(r:KT H kvs xs)(k:List Key){y:V}{u:Value}(ry:RelV y u):KT H (kvs.map λkv=>if kv.1=k then(kv.1,y)else kv) (xs.map (putAt k u)):=by induction r with|nil=>exact .nil|@cons p q ps qs h t ih=>
  rw[List.map_cons,List.map_cons];refine .cons ?_ ih;obtain⟨h1,h2,h3⟩:=h;unfold putAt;by_cases e:p.1=k;·rw[if_pos e,if_pos (h1.symm.trans e)];exact⟨h1,h2,ry⟩
  ·rw[if_neg e,if_neg (λz=>e (h1.trans z))];exact⟨h1,h2,h3⟩
def KT.put{H:Hp}{kvs:List (List Key×V)}{xs:List (List Key×Addr×Value)}(r:KT H kvs xs)(k:List Key){b:Addr}{y:V}{u:Value}(hb:H b=some (.tup (k.map kV)))(ry:RelV y u):KT H (ka kvs k y) (storedH xs k b u):=by
 have e:(kvs.any λkv=>decide (kv.1=k))=(atKey xs k).isSome:=by rw[gj,(r.val k).isSome_eq,Option.isSome_map]
 unfold ka storedH;rw[e];by_cases q:(atKey xs k).isSome=true;·rw[if_pos q,if_pos q];exact r.repl k ry
 ·rw[if_neg q,if_neg q];exact Paired.snoc r ⟨rfl,hb,ry⟩
def KT.keeps{H H':Hp}{kvs:List (List Key×V)}{xs:List (List Key×Addr×Value)}(r:KT H kvs xs)(ht:∀b ys,H b=some (.tup ys)->H' b=some (.tup ys)):KT H' kvs xs:=Paired.mapP r λ_ _ z=>⟨z.1,ht _ _ z.2.1,z.2.2⟩
def Uk{u:HO}(ok:pN P w H h)(e:Rd H a u):jg P w H h a u:=e.ok ok
def iC{kvs:List (Key×V)}(ok:pN P w H h)(e:Rd H a (.dK kvs)):kvs.length<=sizeLine/\(a==sysModules)=false/\∃vs,KV kvs vs/\h.DictOf (jC P w) a vs:=show jg P w H h a (.dK kvs)from Uk ok e
def Ij{kvs:List (Key×V)}(ok:pN P w H h)(e:H a=some (.dK kvs)):kvs.length<=sizeLine/\(a==sysModules)=false/\∃vs,KV kvs vs/\h.DictOf (jC P w) a vs:=iC ok (.inl e)
def iD{ks:List Key}(ok:pN P w H h)(e:H a=some (.tup (ks.map kV))):(tupleKind (jC P w)).is h ks a:=by obtain⟨_,its,r,o,h1,h2,n,h3⟩:=(show jg P w H h a (.tup (ks.map kV))from ok a _ e);exact⟨o,its.toArray,n,h1,h2,h3,by simpa using cF r⟩
def cG{kvs:List (List Key×V)}(ok:pN P w H h)(e:Rd H a (.dT kvs)):kvs.length<=sizeLine/\(a==sysModules)=false/\∃xs,KT H kvs xs/\h.DictOfH (tupleKind (jC P w)) a xs:=by
 obtain⟨z,y,xs,r,o,es,ep,h1,h2,h3,h4,h5⟩:=(show jg P w H h a (.dT kvs)from Uk ok e);refine⟨z,y,xs,r,o,es,ep,h1,h2,h3,h4,λx hx=>?_,h5⟩;have all:∀{l:List (List Key×V)}{m:List (List Key×Addr×Value)},KT H l m->∀x∈m,(tupleKind (jC P w)).is h x.1 x.2.1:=by intro l m q;induction q with|nil=>intro x hx;exact nomatch hx|@cons p q ps qs hq t ih=>
   intro x hx;rcases List.mem_cons.mp hx with e|hx;·subst e;exact iD ok (by rw[<-hq.1];exact hq.2.1)
   ·exact ih x hx
 exact all r x hx
def Ik{kvs:List (List Key×V)}(ok:pN P w H h)(e:H a=some (.dT kvs)):kvs.length<=sizeLine/\(a==sysModules)=false/\∃xs,KT H kvs xs/\h.DictOfH (tupleKind (jC P w)) a xs:=cG ok (.inl e)
def uM(H:Hp)(a:Addr)(y:V)(r:Option V):Prop:=(∃kvs k,Rd H a (.dK kvs)/\y=kV k/\r=jY kvs k)\/∃kvs k b,Rd H a (.dT kvs)/\y=.ref b/\H b=some (.tup (k.map kV))/\r=jY kvs k
def Xv(H:Hp)(a:Addr)(y v:V)(H':Hp):Prop:=(∃kvs k,H a=some (.dK kvs)/\y=kV k/\kvs.length<sizeLine/\H'=jm H a (.dK (ka kvs k v)))\/∃kvs k b,H a=some (.dT kvs)/\y=.ref b/\H b=some (.tup (k.map kV))/\kvs.length<sizeLine/\H'=jm H a (.dT (ka kvs k v))
def uM.k{H:Hp}{a:Addr}{kvs:List (Key×V)}{k:Key}(e:H a=some (.dK kvs)):uM H a (kV k) (jY kvs k):=.inl ⟨kvs,k,.inl e,rfl,rfl⟩
def Xv.k{H:Hp}{a:Addr}{kvs:List (Key×V)}{k:Key}{v:V}(e:H a=some (.dK kvs))(hl:kvs.length<sizeLine):Xv H a (kV k) v (jm H a (.dK (ka kvs k v))):=.inl ⟨kvs,k,e,rfl,hl,rfl⟩
def zu.big(I:zu X pins σ H s):sysModules<s.heap.objs.size:=by have h:mainGlobals<s.heap.objs.size:=(I.mod.glob.keeps I.bk).lt;exact Nat.lt_trans ↑v h
def cH{Q:Value->Shared->Prop}(hu:A.units+1<cLine)(I:zu X pins σ H s)(g:uM H a y (some v))(ry:RelV y u)(h:∀w' s',zu X pins σ H s'->RelV v w'->Q w' s'):wpAny ↑b A (getItem (.ref a) u) Q E s:=by
 rcases g with⟨kvs,k,e,ey,l⟩|⟨kvs,k,b,e,ey,eb,l⟩;·subst ey;obtain⟨z,hd,vs,rel,dd⟩:=iC I.hok e;obtain⟨w',hw,rw'⟩:=fu.some_of (v:=v) (o:=valueAt vs k) (by rw[l];exact rel.val k);exact wpAny_getItem_of (l0 ry) dd.mapOf hw (h w' _ (I.tok _) rw')
 ·subst ey;cases(show u=Value.ref b from ry);obtain⟨z,hd,xs,rel,dd⟩:=cG I.hok e;obtain⟨w',hw,rw'⟩:=fu.some_of (v:=v) (o:=(atKey xs k).map (·.2)) (by rw[l];exact rel.val k);obtain⟨p,hp,hp2⟩:=Option.map_eq_some_iff.mp hw;refine wpAny_getItem_heap (tupleKind_room_in1 hu) (iD I.hok eb) dd hp ?_;rw[hp2];exact h w' _ (I.tok _) rw'
def EB{Q:Value->Shared->Prop}(hu:A.units+1<cLine)(I:zu X pins σ H s)(g:uM H a y o)(ry:RelV y u)(h:∀s',zu X pins σ H s'->Q (.bool o.isSome) s'):wpAny ↑b A (compareOp .In u (.ref a)) Q E s:=by
 rcases g with⟨kvs,k,e,ey,l⟩|⟨kvs,k,b,e,ey,eb,l⟩;·subst ey;obtain⟨z,hd,vs,rel,dd⟩:=iC I.hok e;refine wpAny_in_of (l0 ry) hd dd.mapOf ?_;rw[<-(rel.val k).isSome_eq,<-l];exact h _ (I.tok _)
 ·subst ey;cases(show u=Value.ref b from ry);obtain⟨z,hd,xs,rel,dd⟩:=cG I.hok e;refine wpAny_in_heap (tupleKind_room_in1 hu) (iD I.hok eb) hd dd ?_;have q:=(rel.val k).isSome_eq;rw[Option.isSome_map]at q;rw[<-q,<-l];exact h _ (I.tok _)
def Y0{Q:Value->Shared->Prop}(hu:A.units+1<cLine)(I:zu X pins σ H s)(g:uM H a y o)(ry:RelV y u)(h:∀s',zu X pins σ H s'->Q (.bool (!o.isSome)) s'):wpAny ↑b A (compareOp .NotIn u (.ref a)) Q E s:=by
 rcases g with⟨kvs,k,e,ey,l⟩|⟨kvs,k,b,e,ey,eb,l⟩;·subst ey;obtain⟨z,hd,vs,rel,dd⟩:=iC I.hok e;refine wpAny_notIn_of (l0 ry) hd dd.mapOf ?_;rw[<-(rel.val k).isSome_eq,<-l];exact h _ (I.tok _)
 ·subst ey;cases(show u=Value.ref b from ry);obtain⟨z,hd,xs,rel,dd⟩:=cG I.hok e;refine wpAny_notIn_heap (tupleKind_room_in1 hu) (iD I.hok eb) hd dd ?_;have q:=(rel.val k).isSome_eq;rw[Option.isSome_map]at q;rw[<-q,<-l];exact h _ (I.tok _)
def Y1{h':Heap}{t':Nat}{ob:HO}(I:zu X pins σ H s)(mu:LE (H a))(hs:Heap.SameBut a s.heap h')(he:∃q,h'.get? a=some q)(new:jg X.prog X.w (jm H a ob) h' a ob):zu X pins σ (jm H a ob) {s with heap:=h',toks:=t'}:=I.write (x:=a) (e:=a) mu (.inl rfl) (λb q hb z=>(hs.2 b hb).trans z) he new
def NI{P:Program}{w:World}{H':Hp}{h':Heap}{kvs:List (Key×V)}{vs:List (Key×Value)}(z:kvs.length<=sizeLine)(hd:(a==sysModules)=false)(rel:KV kvs vs)(dd:h'.DictOf (jC P w) a vs):jg P w H' h' a (.dK kvs):=⟨z,hd,vs,rel,dd⟩
def Xw{H':Hp}{Q:Unit->Shared->Prop}(hu:A.units+1<cLine)(I:zu X pins σ H s)(g:Xv H a y v H')(ry:RelV y u)(rv:RelV v r)(h:∀s',zu X pins σ H' s'->Q () s'):wpAny ↑b A (setItem (.ref a) u r) Q E s:=by
 rcases g with⟨kvs,k,e,ey,l,eH⟩|⟨kvs,k,b,e,ey,eb,l,eH⟩
 ·subst ey eH;obtain⟨z,hd,vs,rel,dd⟩:=Ij I.hok e;have hz:vs.length<=sizeLine:=by rw[<-rel.length];exact z
  have hl:(ka kvs k v).length<=sizeLine:=by have:=mZ kvs k v;omega
  refine wpAny_setItem_pairs (hsz:=hz) (l0 ry) dd λh' dd' hs=>h _ ?_;have he:∃q,h'.get? a=some q:=let⟨q,_,_,hq,_⟩:=dd';⟨q,hq⟩;exact Y1 I (by rw[e];exact True.intro) hs he (NI hl hd (rel.put k rv) dd')
 ·subst ey eH;cases(show u=Value.ref b from ry);obtain⟨z,hd,xs,rel,dd⟩:=Ik I.hok e;have hz:xs.length<=sizeLine:=by rw[<-Paired.length rel];exact z
  have hl:(ka kvs k v).length<=sizeLine:=by have:=mZ kvs k v;omega
  refine wpAny_setItem_heap (hsz:=hz) (tupleKind_room_in1 hu) (iD I.hok eb) dd λh' dd' hs=>h _ ?_;obtain⟨q,es,ep,hq,h2,h3,h4,_,h5⟩:=dd';refine Y1 I (by rw[e];exact True.intro) hs ⟨q,hq⟩ ⟨hl,hd,_,(rel.put k eb rv).keeps λc ys ec=>?_,q,es,ep,hq,h2,h3,h4,h5⟩;rw[zh (ij ec e (λz=>nomatch z))];exact ec
def V7(i:Expr):Prop:=∀ov iv,subscripted i false ov iv=operate [ov,iv] (getItem ov iv)
def Y2{prog:Program}{w:World}{A:Around}{E:Value->Shared->Prop}{s:Shared}{env:Env}{value slice:Expr}{pos:Pos}{T id:String}{Q:Value->Shared->Prop}(hl:typeLookup (.type T) "__getitem__"=pure (some (.builtin id)))(hs:V7 slice)(h:wpAny ↑n A (eval value env) (λo s₁=>wpAny ↑n A (eval slice env) (λi s₂=>s₂.TypeIs o T/\wpAny ↑n A (getItem o i) Q E s₂) E s₁) E s):wpAny ↑n A (eval (.Subscript value slice pos) env) Q E s:=by
 refine Subscript_ (wpAny_mono h (λo s₁ h₁=>wpAny_mono h₁ (λi s₂ h₂=>?_) λ_ _ x=>x) λ_ _ x=>x);obtain⟨hT,h₂⟩:=h₂;unfold subscriptTail;refine wpAny_bind ?_;rw[getitemInPython_of_ne hT.not_modules];refine wpAny_bind (wpAny_specialOf hT hl ?_);have fin:wpAny ↑n A (subscripted slice false o i) (λr s₃=>wpAny ↑n A (letTemporaryGo value o r>>=λ_=>pure r) Q E s₃) E s₂:=by rw[hs o i];exact wpAny_operating (wpAny_mono h₂ (λr s₃ h₃=>wpAny_bind (wpAny_letTemporaryGo (wpAny_pure h₃))) λ_ _ x=>x)
 first|exact wpAny_pure (wpAny_bind fin)|exact wpAny_bind (wpAny_pure (wpAny_bind fin))|exact wpAny_bind fin
def l5{X:Cx}{pins:List ↑y}{σ:St}{H:Hp}{s:Shared}{a:Addr}{y:V}{o:Option V}(I:zu X pins σ H s)(g:uM H a y o):s.TypeIs (.ref a) "dict":=by
 rcases g with⟨kvs,k,e,_,_⟩|⟨kvs,k,b,e,_,_,_⟩;·obtain⟨_,_,vs,_,dd⟩:=iC I.hok e;exact dd.typeIs
 ·obtain⟨_,_,xs,_,dd⟩:=cG I.hok e;exact dd.typeIs
def Il(td ty:TE):TE:=λσ H Q=>td σ H λx H1=>ty σ H1 λy H2=>∃a v,x=.ref a/\uM H2 a y (some v)/\Q v H2
def QY(ty td:TE):TE:=λσ H Q=>ty σ H λy H1=>td σ H1 λx H2=>∃a o,x=.ref a/\uM H2 a y o/\Q (.bl (!o.isSome)) H2
def tR(td ty tv:TE):TS:=λD σ H=>tv σ H λv H1=>td σ H1 λx H2=>ty σ H2 λy H3=>∃a H4,x=.ref a/\Xv H3 a y v H4/\D.nx σ H4
def QZ(hu:X.A.units+1<cLine)(ho:PE X o td)(hi:PE X i ty)(hs:V7 i):PE X (.Subscript o i pos) (Il td ty):=by intro pins s σ H Q I h;refine Y2 PySem.F.slot_dict_getitem.lookup hs (jQ (ho pins s σ H _ I h) λu s1⟨x,H1,I1,rx,q1⟩=>jQ (hi pins s1 σ H1 _ I1 q1) λiv s2⟨y,H2,I2,ry,a,v,ex,g,q2⟩=>?_);subst ex;obtain rfl:u=Value.ref a:=rx;exact⟨l5 I2 g,cH hu I2 g ry λw' s3 I3 rw'=>⟨v,H2,I3,rw',q2⟩⟩
def Xx(hu:X.A.units+1<cLine)(hi:PE X i ty)(ho:PE X o td):PC X .NotIn i o (QY ty td):=by intro pins s σ H Q I h;refine jQ (hi pins s σ H _ I h) λiv s1⟨y,H1,I1,ry,q1⟩=>jQ (ho pins s1 σ H1 _ I1 q1) λu s2⟨x,H2,I2,rx,a,ov,ex,g,q2⟩=>?_;subst ex;obtain rfl:u=Value.ref a:=rx;exact Y0 hu I2 g ry λs3 I3=>⟨.bl (!ov.isSome),H2,I3,rfl,q2⟩
def Y3(hu:X.A.units+1<cLine)(ho:PE X o td)(hi:PE X i ty)(hv:PE X value tv)(hs:swapsWith value (some (.Subscript o i pos')) pos.line X.env=pure false):PS X (.Assign [.Subscript o i pos'] value pos) (tR td ty tv):=by intro pins s σ H D I h;refine wpAny_Assign_Subscript (jQ (hv pins s σ H _ I h) λr s1⟨v,H1,I1,rv,q1⟩=>jQ (ho pins s1 σ H1 _ I1 q1) λu s2⟨x,H2,I2,rx,q2⟩=>jQ (hi pins s2 σ H2 _ I2 q2) λiv s3⟨y,H3,I3,ry,a,H4,ex,g,q3⟩=>?_) hs;subst ex;obtain rfl:u=Value.ref a:=rx;exact Xw hu I3 g ry rv λs4 I4=>⟨σ,H4,I4,q3⟩
def tS{P:Program}{w:World}{H:Hp}(h:Heap)(hb:sysModules<h.objs.size):jg P w H (h.push {cls:=.type "dict",data:=.dict #[]}) h.objs.size (.dK []):=⟨Nat.zero_le _,beq_eq_false_iff_ne.mpr (Ne.symm (Nat.ne_of_lt hb)),[],.nil,Heap.DictOf.new h⟩
def bP:TE:=λ_ H Q=>∀p,H p=none->Q (.ref p) (jm H p (.dK []))
def tT:PE X (.Dict [] [] pos) bP:=λpins s σ H Q I h=>wpAny_Dict_empty ⟨.ref s.heap.objs.size,_,I.laid (a:=s.heap.objs.size) (o:=.dK []) (t':=s.toks) (λ_ _ q=>Heap.get?_push_of_some _ q) ↑e (tS s.heap I.big),rfl,h _ (I.hok.fresh ↑e)⟩
def DU(H:Hp)(a:Addr):Prop:=(∃kvs,Rd H a (.dK kvs))\/∃kvs,Rd H a (.dT kvs)
def NJ{X:Cx}{pins:List ↑y}{σ:St}{H:Hp}{s:Shared}{a:Addr}(I:zu X pins σ H s)(d:DU H a):s.TypeIs (.ref a) "dict"/\(∀b,Value.ref a=.ref b->∃ob,s.heap.get? b=some ob/\ob.dict=none)/\(a==sysModules)=false:=by
 rcases d with⟨kvs,e⟩|⟨kvs,e⟩;·obtain⟨_,hd,vs,_,dd⟩:=iC I.hok e;refine⟨dd.typeIs,λb q=>?_,hd⟩;cases q;obtain⟨ob,_,_,h1,h2,_⟩:=dd;exact⟨ob,h1,h2.2.1⟩
 ·obtain⟨_,hd,xs,_,dd⟩:=cG I.hok e;refine⟨dd.typeIs,λb q=>?_,hd⟩;cases q;obtain⟨ob,_,_,h1,h2,_⟩:=dd;exact⟨ob,h1,h2.2.1⟩
end L2
namespace Att
open PySem PySem.W PySem.Calls PyProof.Rows
def lC{P:Params}{h:Heap}:∀(ns:List Int)(vs:List Value),WellAll P h vs (ns.map WData.int)->IntsAre vs ns:=by intro ns;induction ns with|nil=>intro vs w;rw[List.map_nil]at w;cases w;exact .nil|cons n ns ih=>intro vs w;rw[List.map_cons]at w;cases w with|cons a b=>cases a;exact .cons _ _ (ih _ b)
def Xy{l:OpenLaw}{n:Nat}(hn:l.most=some n){P:Params}{h:Heap}{args:List WData}{vals:List Value}(hpre:l.row.toRowW.claim.pre args=true)(hwl:WellAll P h vals args):∃a vs ns,vals=[Value.ref a]/\args=[WData.list (ns.map WData.int)]/\h.get? a=some {cls:=.type "list",data:=.seq vs.toArray}/\IntsAre vs ns/\ns.length<=n:=by
 have hsh:WShape.hasAll [] args [.list .int]=true:=(pre_splitW hpre).1;have hc:l.pre.holds [] {args:=args}=true:=(pre_splitW hpre).2;obtain⟨d,r,rfl,h1,h2⟩:=hasAllW_cons hsh;obtain rfl:=hasAllW_nil h2;obtain⟨xs,rfl,h3⟩:=hasW_list h1;obtain⟨ns,rfl⟩:=items_int h3;have hlen:ns.length<=n:=by
  unfold OpenLaw.pre at hc;have h4:(WTm.not (.lt (.lit (.int (n:Int))) (.len (.arg 0)))).holds [] {args:=[.list (ns.map .int)]}=true:=by have h4:=(holds_andW hc).1;rw[hn]at h4;exact h4
  have h5:=condW_of h4 (w_not (w_lt w_lit (w_len_list (w_arg rfl))));rw[List.length_map]at h5;refine Nat.le_of_not_lt λq=>?_;have q':(n:Int)<((ns.length:Nat):Int):=by omega
  first|(rw[decide_eq_true q']at h5;exact absurd h5 ↑v)|(simp at h5;omega)
 cases hwl with|cons w1 w2=>cases w2;cases w1 with|list ho hall=>exact⟨_,_,ns,rfl,rfl,ho,lC ns _ hall,hlen⟩
def Xz(l:OpenLaw)(args:List WData):l.row.toRowW.claim.post args (.bool true) args=true:=postW_of (r:=l.row.toRowW) (X:=(true==true)) (show WShape.has [] (.bool true) .bool=true by first|rfl|decide|simp[WShape.has,WShape.arms,WShape.armsAll]) (show(WTm.eq .res (.lit (.bool true))).value [] {args:=args,res:=some (.bool true),after:=args}=some (.bool (true==true))from w_eq_bool (w_res rfl) w_lit) rfl
def attach_call{l:OpenLaw}{n:Nat}{q:Program}{loose:List Str}{XP:(Str->Option Value)->Heap->Prop}{YP:World->Heap->Prop}{d:DefRec}(hn:l.most=some n)(hdf:d.params.defaults=[])(call:∀(w:World)(s₀ s₁:Shared)(mg mb:Str->Option Value)(fa:Addr)(o:Obj)(pm cd doc:Value)(a:Addr)(vs:List Value)(ns:List Int),Ground q loose [] XP w s₀ mg mb s₁.heap->YP w s₁.heap->s₁.heap.get? fa=some o->o.data=.func (docDef d.name d.params d.body d.scope pm cd doc)->s₁.heap.CodeRec cd d.name->mg d.name=some (.ref fa)->s₁.heap.get? a=some {cls:=.type "list",data:=.seq vs.toArray}->IntsAre vs ns->ns.length<=n->s₁.gens=#[]->codeAny (model l.prog w) callerA (.call (.ref fa) ⟨[.ref a],[]⟩) ↑a2 s₁):WalkO q loose XP YP l.row.toRowW d [] (λf vs=>PySem.call f vs):=by intro w s₀ s₁ mg mb G Y fa o pm cd doc dV kV ho hd hcd hD hmg hg args vals as hpre hlay hrd hwl hlo;obtain rfl:dV=.none:=Dflts.none hD hdf;obtain rfl:kV=.none:=Dflts.noKw hD;obtain⟨a,vs,ns,rfl,rfl,hobj,hints,hlen⟩:=Xy hn hpre hwl;refine enter_call (codeAny_mono (call w s₀ s₁ mg mb fa o pm cd doc a vs ns G Y ho (fd_plain hd) hcd hmg hobj hints hlen hg) λr s' hq=>?_);obtain⟨rfl,h2,h3,h4⟩:=hq;exact⟨.inl ⟨.bool true,.bool true,[],rfl,λ_=>rfl,.bool true,Xz l _,λ_=>⟨List.Pairwise.nil,λ_ hm=>(nomatch hm)⟩⟩,h2,h3,h4⟩
section
variable{prog:Program}{w:World}{A:Around}{E:Value->Shared->Prop}{s:Shared}{K:Frag}
def EC(h:Heap)(L d:Addr):List ↑y:=(List.range h.objs.size).filterMap λa=>if a=L\/a=d then none else(h.get? a).map λo=>(a,o)
end
end Att
namespace L2
open PySem PySem.Spec PyProof.Rows
def cI:∀{vs:List Value}{ns:List Int},IntsAre vs ns->zL (ns.map V.int) vs|_,_,.nil=>.nil|_,_,.cons n t h=>.cons ⟨t,rfl⟩ (cI h)
def NK(H:Hp):Prop:=∀b,H b=none\/b=tabP\/∃o xs,H b=some (.frz o (.lst xs))
def V8{P:Program}{w:World}{K:W.Frag}{mg mb:Str->Option Value}{CX:QQ}{k:Nat}{fa a:Addr}{fd:FuncData}{x:Str}{sp:Sp}{s₁:Shared}{vs:List Value}{ns:List Int}{c₀:Addr}(KX:K.In s₁.heap)(hT:s₁.heap.get? tabP=some {cls:=.none,data:=.fields #[]})(hC:W.CodeHd s₁.heap c₀ tabP)(hKT:W.noTabs K=true)(hbm:∃bm ob,mg "__builtins__"=some (.ref bm)/\bm≠builtinsNs/\s₁.heap.get? bm=some ob/\ob.cls=.type "module"/\ob.dict=some builtinsNs/\ob.data=.plain)(hns:s₁.heap.Ns mainGlobals mg)(hb:s₁.heap.Ns builtinsNs mb)(hbb:∀x:Str,x≠"__name__"->mb x=bootBuiltins x)(hlim:s₁.heap.NoLimit)(hg:s₁.gens=#[])(ha:s₁.heap.get? a=some {cls:=.type "list",data:=.seq vs.toArray})(hi:IntsAre vs ns)(hl:ns.length<=sizeLine)(hr:xV k callerA)(F:∀base:Heap,K.In base->base.Ns mainGlobals mg->qc P w K mg base CX k fa fd [x] sp)(hbind:∀(s:Shared)(u:Value),BindsTo s fd ⟨[u],[]⟩ [(x,u)])(hsp:∀H:Hp,NK H->nO K H a (ns.map V.int)->sp [.ref a] H (λv _=>v=.bl true) λ_ _ _=>False)(hCX:∀H e s',CX [] H s₁ (λ_ _ _=>False) e s'->False):codeAny (model P w) callerA (.call (.ref fa) ⟨[.ref a],[]⟩) ↑a2 s₁:=by
 have rv:=cI hi;have lenV:=hi.length--from an abstract heap in which nothing but the script may be tracked
 have core:∀H:Hp,NK H->nO K H a (ns.map V.int)->pN P w H s₁.heap->H tabP=some tf->(∀b,H b≠none->b=a\/b=tabP)->(H a≠none->K.lookup a=none)->codeAny (model P w) callerA (.call (.ref fa) ⟨[.ref a],[]⟩) ↑a2 s₁:=by
  intro H hO hS hok hTb hA hK;have kT:K.lookup tabP=none:=by cases e:K.lookup tabP with|none=>rfl|some o=>have e1:=KX _ _ e;rw[hT]at e1;cases e1;have:=List.all_eq_true.mp hKT _ (W.mem_of_lookupK e);cases this
  have base_of:∀{b:Addr}{o:Obj},s₁.heap.get? b=some o->H b=none->(bE s₁.heap H).get? b=some o:=λe n=>WM e n;have noA:∀{b:Addr}{o:Obj}{es:Array DictEntry}{ep:Nat},s₁.heap.get? b=some o->o.data=.dict es ep->H b=none:=λ{b o es ep}e d=>by cases q:H b with|none=>rfl|some u=>
    rcases hA b (by rw[q];simp)with e'|e';·subst e';rw[ha]at e;cases e;have d':Data.seq vs.toArray _=Data.dict es ep:=d;cases d'
    ·subst e';rw[hT]at e;cases e;have d':Data.fields #[]=Data.dict es ep:=d;cases d'
  have nsK:∀{b:Addr}{m:Str->Option Value},s₁.heap.Ns b m->(bE s₁.heap H).Ns b m:=λ{b m}⟨o,es,ep,e,d,r⟩=>⟨o,es,ep,base_of e (noA e d),d,r⟩;have hKb:K.In (bE s₁.heap H):=λb o e=>base_of (KX b o e) (by cases q:H b with|none=>rfl|some u=>
    rcases hA b (by rw[q];simp)with e'|e';·subst e';rw[hK (by rw[q];simp)]at e;cases e
    ·subst e';rw[kT]at e;cases e);have hM:Mod K mg (bE s₁.heap H):=⟨hKb,nsK hns,⟨mb,nsK hb,hbb⟩,let⟨mc,h1,h2⟩:=hlim;⟨mc,nsK h1,h2⟩,by obtain⟨bm,ob,b1,b2,b3,b4,b5,b6⟩:=hbm;refine⟨bm,ob,b1,b2,base_of b3 ?_,b4,b5,b6⟩;cases q:H bm with|none=>rfl|some u=>
    rcases hA bm (by rw[q];simp)with e'|e';·subst e';rw[ha]at b3;cases b3;cases b6
    ·subst e';rw[hT]at b3;cases b3;cases b6⟩;have e0:tM P w K mg (bE s₁.heap H) callerA [] s₁ H:=⟨rfl,hM,λb o e=>QE e,Nat.le_of_eq (Xj _ _),trivial,λb hb=>absurd (show b∈([]:List Addr)from hb) ↑T,hTb,hok,.of_eq hg⟩;refine codeAny_mono ((F _ hKb (nsK hns)).run callerA [] s₁ H ⟨[.ref a],[]⟩ [.ref a] [.ref a] _ _ hr e0 (hbind s₁ (.ref a)) (.cons rfl .nil) (hsp H hO hS)) λr s' h=>?_;cases r with|error e=>exact(hCX H e s' h).elim|ok fl=>cases fl with|next=>exact False.elim h|brk=>exact False.elim h|cont=>exact False.elim h|ret u=>
    obtain⟨v,H',os,bare,un,hok',r',q⟩:=h;have q':v=.bl true:=q;subst q';obtain rfl:u=Value.bool true:=r';have hk:∀b o,b≠tabP->s₁.heap.get? b=some o->s'.heap.get? b=some o:=λb o hbP e=>?_;refine⟨rfl,⟨λb o e=>?_,λb o e=>?_⟩,os,bare⟩
    ·by_cases hbP:b=tabP;·subst hbP;rw[hT]at e;cases e;obtain⟨ps,e2,_⟩:=(hok' _ _ (un.frzs _ _ _ hTb)).2;exact .inr (.inl ⟨let⟨o,vs,_,_,_,_,_,_,_,e1,e2,e3,e4,_⟩:=hC;⟨_,o,vs,e1,e2,e3,e4⟩,rfl,#[],ps,rfl,by rw[Array.empty_append];exact e2⟩)
     ·exact .inl (hk b o hbP e)
    ·by_cases hbP:b=tabP;·subst hbP;obtain⟨ps,e2,_⟩:=(hok' _ _ (un.frzs _ _ _ hTb)).2;exact⟨_,e2⟩
     ·exact⟨o,hk b o hbP e⟩
    cases q:H b with|none=>exact un.keep b o e q (by intro z;exact absurd (show b∈([]:List Addr)from z) ↑T) ↑T|some u=>
     rcases hO b with z|z|⟨ob,xs,z⟩;·rw[q]at z;cases z
     ·exact absurd z hbP
     ·have z2:=un.frzs b ob _ z;obtain⟨e1,_⟩:=hok b _ z;obtain⟨e2,_⟩:=hok' b _ z2;have e1:=e1 rfl;rw[e]at e1;cases e1;exact e2 rfl
 have tne:a≠tabP:=λz=>by rw[z,hT]at ha;cases ha
 have tok:∀H:Hp,jg P w H s₁.heap tabP tf:=λH=>by show jg P w H s₁.heap tabP (.frz _ (.tab pM));exact⟨λz=>(by cases z),#[],hT,trivial,λpos cv z=>(by cases z)⟩
 cases hk:K.lookup a with|some o=>--the script is one of the module's own objects
  have e:=KX a o hk;rw[ha]at e;cases e;refine core (λb=>if b=tabP then some tf else none) (λb=>?_) (.inr ⟨_,vs.toArray,_,hk,rfl,rfl,rfl,by rw[List.size_toArray,lenV];exact hl,by simpa using rv⟩) (λb u z=>?_) (if_pos rfl) (λb z=>?_) λz=>absurd (if_neg tne) z
  ·by_cases hb:b=tabP;·exact .inr (.inl hb)
   ·exact .inl (if_neg hb)
  ·by_cases hb:b=tabP;·have z':=(if_pos hb).symm.trans z;cases z';subst hb;exact tok _
   ·have z':=(if_neg hb).symm.trans z;cases z'
  ·by_cases hb:b=tabP;·exact .inr hb
   ·exact absurd (if_neg hb) z|none=>
  refine core (λb=>if b=a then some (.frz {cls:=.type "list",data:=.seq vs.toArray} (.lst (ns.map V.int)))else if b=tabP then some tf else none) (λb=>?_) (.inl (.inr ⟨{cls:=.type "list",data:=.seq vs.toArray},if_pos rfl⟩)) (λb u z=>?_) ((if_neg tne.symm).trans (if_pos rfl)) (λb z=>?_) λ_=>hk
  ·by_cases hb:b=a;·exact .inr (.inr ⟨_,_,if_pos hb⟩)
   ·by_cases hb2:b=tabP;·exact .inr (.inl hb2)
    ·exact .inl ((if_neg hb).trans (if_neg hb2))
  ·by_cases hb:b=a;·have z':=(if_pos hb).symm.trans z;cases z';subst hb;exact⟨λ_=>ha,by rw[List.length_map];exact hl,vs,_,rv,ha⟩
   ·by_cases hb2:b=tabP;·have z':=((if_neg hb).trans (if_pos hb2)).symm.trans z;cases z';subst hb2;exact tok _
    ·have z':=((if_neg hb).trans (if_neg hb2)).symm.trans z;cases z'
  ·by_cases hb:b=a;·exact .inl hb
   ·by_cases hb2:b=tabP;·exact .inr hb2
    ·exact absurd ((if_neg hb).trans (if_neg hb2)) z
abbrev Cr{K:W.Frag}{h:Heap}(_:K.In h):W.Frag:=K
def walk_of{l:W.OpenLaw}{n k:Nat}{q:Program}{loose:List Str}{XP:(Str->Option Value)->Heap->Prop}{YP:World->Heap->Prop}{d:DefRec}{K:Params->W.Frag}{CX:World->QQ}{sp:World->Sp}{x:Str}(hn:l.most=some n)(hn2:n<=sizeLine)(hdf:d.params.defaults=[])(hr:xV k callerA)(hY:∀(w:World)(h:Heap),YP w h->(K w.params).In h)(hYT:∀(w:World)(h:Heap),YP w h->h.get? tabP=some {cls:=.none,data:=.fields #[]}){c₀:Addr}(hYC:∀(w:World)(h:Heap),YP w h->W.CodeHd h c₀ tabP)(hYN:∀w:World,W.noTabs (K w.params)=true)(F:∀(w:World)(mg:Str->Option Value)(fa:Addr)(h:Heap),(K w.params).In h->h.Ns mainGlobals mg->mg d.name=some (.ref fa)->∃fd:FuncData,(∀(s:Shared)(u:Value),BindsTo s fd ⟨[u],[]⟩ [(x,u)])/\∀base:Heap,(K w.params).In base->base.Ns mainGlobals mg->qc l.prog w (K w.params) mg base (CX w) k fa fd [x] (sp w))(hsp:∀(w:World)(H:Hp)(a:Addr)(ns:List Int),ns.length<=n->NK H->nO (K w.params) H a (ns.map V.int)->sp w [.ref a] H (λv _=>v=.bl true) λ_ _ _=>False)(hCX:∀(w:World)(H:Hp)(s:Shared)(e:Value)(s':Shared),CX w [] H s (λ_ _ _=>False) e s'->False):W.WalkO q loose XP YP l.row.toRowW d [] (λf vs=>PySem.call f vs):=by refine Att.attach_call hn hdf λw s₀ s₁ mg mb fa o pm cd doc a vs ns G Y ho hd hcd hmg hobj hints hlen hg=>?_;have KX:=hY w _ Y;obtain⟨fd,hb,hF⟩:=F w mg fa _ KX G.T.g hmg;exact V8 KX (hYT w _ Y) (hYC w _ Y) (hYN w) G.T.bmain G.T.g G.T.b G.T.builtins G.T.nolimit hg hobj hints (Nat.le_trans hlen hn2) hr hF hb (λH hO hS=>hsp w H a ns hlen hO hS) λH e s'=>hCX w H s₁ e s'
def j0(s:Stmt)(j:Nat):Stmt:=match s with|.ClassDef _ _ _ body _ _ _ _ _ _ _=>body.getD j (.Pass ⟨0,0,0,0⟩)|_=>.Pass ⟨0,0,0,0⟩
def xB(s:Stmt):Arguments:=match s with|.FunctionDef _ a _ _ _ _ _ _ _ _=>a|_=>{posonlyargs:=[],args:=[],vararg:=none,kwonlyargs:=[],kw_defaults:=[],kwarg:=none,defaults:=[]}
def ju(s:Stmt):List Stmt:=match s with|.FunctionDef _ _ b _ _ _ _ _ _ _=>b|_=>[]
def za(s:Stmt):Scope:=match s with|.FunctionDef _ _ _ _ _ _ sc _ _ _=>sc|_=>{kind:=.function,names:=[],isGenerator:=false,isCoroutine:=false}
structure Zq(K:W.Frag)(x qual:Str)(st:Stmt)(f:Addr)(fd:FuncData):Prop where
 ex:∃(oc:Value)(od:Option Addr)(kV doc pm:Value)(an:Option Addr)(cdv ct:Value)(osl:Array (Option Value)),fd=W.fnOf x qual (xB st) (ju st) (za st) .none kV doc pm an cdv ct/\K.lookup f=some ⟨oc,od,.func fd,osl⟩/\W.codeIn K cdv qual=true
 kp:W.keepIn K (.ref f)=true
section
variable{P:Program}{w:World}{K:W.Frag}{mg:Str->Option Value}{base:Heap}
theorem Zq.binds{x qual:Str}{st:Stmt}{f:Addr}{fd:FuncData}{ps:List Str}(F:Zq K x qual st f fd)(h:∀(kV doc pm:Value)(an:Option Addr)(cdv ct:Value)(us:List Value),us.length=ps.length->bindArgs ↑aU ⟨us,[]⟩=pure (ps.zip us)):f6 K fd ps []:=by obtain⟨oc,od,kV,doc,pm,an,cdv,ct,osl,rfl,lk,hcd⟩:=F.ex;exact .all (h kV doc pm an cdv ct)
theorem iE{x qual:Str}{st:Stmt}{f:Addr}{oc:Value}{od an:Option Addr}{osl:Array (Option Value)}{kV doc pm cdv ct:Value}(l:K.lookup f=some ⟨oc,od,.func ↑aU,osl⟩)(c:W.codeIn K cdv qual=true)(k:W.keepIn K (.ref f)=true):Zq K x qual st f ↑aU:=⟨⟨oc,od,kV,doc,pm,an,cdv,ct,osl,rfl,l,c⟩,k⟩
end
def pv(i:Nat){x:Str}{pos:Pos}(hN:X.N[i]?=some x:=by rfl)(hv:WB X.env.scope x:=by first|exact Or.inl rfl|exact Or.inr (Or.inl rfl)|exact Or.inr (Or.inr rfl))(hd:(x==↑t)=false:=by decide)(hcd:(x==("__classdict__":Str))=false:=by decide):PE X (.Name x pos) (k8 i):=gG hN hv hd hcd
def G0(H H':Hp):Prop:=∀b o,H b=some o->H' b=some o
section
variable{κ:Type}[DecidableEq κ]
theorem V9{kvs:List (κ×V)}{k:κ}(h:jY kvs k=none):¬k∈kvs.map (·.1):=by intro m;obtain⟨p,hp,e⟩:=List.mem_map.mp m;have q:(kvs.any λkv=>decide (kv.1=k))=true:=List.any_eq_true.mpr ⟨p,hp,decide_eq_true e⟩;rw[gj,h]at q;exact absurd q ↑T
end
def XA{α:Type}(xs:List α)(lo hi:Option Int):List α:=(xs.drop (HT.sIx xs.length 0 lo)).take (HT.sIx xs.length xs.length hi-HT.sIx xs.length 0 lo)
def lD(z:Str)(lo hi:Option Int):Str:=⟨(XA z.cps.toList lo hi).toArray⟩
def tU(n:Nat)(d:Int):Option Int->Int|none=>d|some i=>max 0 (min (if i<0 then i+(n:Int)else i) (n:Int))
def tV(n d:Nat)(hd:d<=n)(o:Option Int):tU n d o=((HT.sIx n d o:Nat):Int):=by cases o with|none=>rfl|some i=>simp only[tU,HT.sIx];split<;>omega
def l6(lo hi:Option Int)(n:Nat):Builtin.Str.strSliceIndices lo hi 1 n=(List.range (HT.sIx n n hi-HT.sIx n 0 lo)).map (λk=>HT.sIx n 0 lo+k):=by
 have e:Builtin.Str.strSliceIndices lo hi 1 n=sliceRange (tU n ((0:Nat):Int) lo) (tU n (n:Int) hi) 1:=by unfold Builtin.Str.strSliceIndices;cases lo<;>cases hi<;>simp[tU]
 rw[e,tV n 0 ↑aV,tV n n ↑e];unfold sliceRange;simp only[show(1:Int)>0 by decide,if_true];by_cases h:((HT.sIx n 0 lo:Nat):Int)<((HT.sIx n n hi:Nat):Int)
 ·have e3:((((HT.sIx n n hi:Nat):Int)-((HT.sIx n 0 lo:Nat):Int)+1-1)/1).toNat=HT.sIx n n hi-HT.sIx n 0 lo:=by rw[Int.ediv_one];omega
  simp only[h,if_true,e3];refine List.map_congr_left λk _=>?_;omega
 ·have e4:HT.sIx n n hi-HT.sIx n 0 lo=0:=by omega
  simp[h,e4]
def Va(z:Str)(lo hi:Option Int):Txt.slice z lo hi=lD z lo hi:=by
 have hn:z.cps.toList.length=z.length:=by simp[Str.length]
 have a1:=HT.sIx_le z.length 0 ↑aV lo;have a2:=HT.sIx_le z.length z.length ↑e hi;have pk:((Builtin.Str.strSliceIndices lo hi 1 z.length).filterMap (z.cps[·]?))=XA z.cps.toList lo hi:=by
  rw[l6];unfold XA;rw[hn];by_cases h:HT.sIx z.length 0 lo<=HT.sIx z.length z.length hi;·have:=StrLaws.picks z.cps.toList (HT.sIx z.length z.length hi-HT.sIx z.length 0 lo) (HT.sIx z.length 0 lo) (by rw[hn];omega);simpa using this
  ·have e4:HT.sIx z.length z.length hi-HT.sIx z.length 0 lo=0:=by omega
   simp[e4]
 unfold Txt.slice;split
 ·rename_i h;rw[Bool.and_eq_true]at h;have h2:(Builtin.Str.strSliceIndices lo hi 1 z.length).length=z.length:=by simpa using h.2
  rw[l6,List.length_map,List.length_range]at h2;have b1:HT.sIx z.length 0 lo=0\/z.length=0:=by omega
  have:XA z.cps.toList lo hi=z.cps.toList:=by
   unfold XA;rw[hn];rcases b1 with b1|b1
   ·have b2:HT.sIx z.length z.length hi=z.length:=by omega
    rw[b1,b2,List.drop_zero];exact List.take_of_length_le (by rw[hn];omega)
   ·have:z.cps.toList=[]:=List.eq_nil_of_length_eq_zero (by rw[hn];exact b1);rw[this];simp
  unfold lD;rw[this]
 ·rw[pk];rfl
def ED:V->Option Int->Option Int->Hp->VK->Prop:=λx lo hi H Q=>∃z,x=.str z/\z.length<=sizeLine/\Q (.str (lD z lo hi)) H
def NL:Ib X ED:=by intro pins s σ H x v vl vu lo hi sl Q I rx hs pl pu h;obtain⟨z,rfl,hz,q⟩:=h;obtain⟨t,rfl⟩:=rx;refine⟨"str",_,F.slot_str_getitem.lookup,typeIs_str _ _ _,?_⟩;have fin:∀t' k,EP X pins σ Q (.str (Txt.slice z lo hi) t') {s with toks:=k}:=λt' k=>⟨.str (lD z lo hi),H,I.tok _,⟨t',by rw[Va]⟩,q⟩;have hsz:(Txt.slice z lo hi).length<=sizeLine:=Nat.le_trans (Txt.slice_le z _ _) hz;cases pl with
 |none=>cases pu with|none=>exact wpAny_getItem_str_slice (l:=none) (u:=none) (st:=none) hs rfl (post_val_or_str ⟨hsz,fin⟩)|int j tj=>exact wpAny_getItem_str_slice (l:=none) (u:=some (j,tj)) (st:=none) hs rfl (post_val_or_str ⟨hsz,fin⟩)
 |int i ti=>cases pu with|none=>exact wpAny_getItem_str_slice (l:=some (i,ti)) (u:=none) (st:=none) hs rfl (post_val_or_str ⟨hsz,fin⟩)|int j tj=>exact wpAny_getItem_str_slice (l:=some (i,ti)) (u:=some (j,tj)) (st:=none) hs rfl (post_val_or_str ⟨hsz,fin⟩)
def HG(z:Str):It:=⟨λi _=>i<z.length,λi H x H'=>H'=H/\∃c,z.cps[i]?=some c/\x=.str ⟨#[c]⟩,λi _=>z.length<=i⟩
def Vb{P:Program}{w:World}{K:W.Frag}{tg:Expr}(z:Str)(t:Tok)(it:Addr)(ty:String)(hty:ty="str_ascii_iterator"\/ty="str_iterator"):Zx P w K tg (HG z) [it] it (λi h=>h.IsStrIter it ty z t i)where
 mem:=by simp
 obj:=λi h st b hb=>by
  have e:b=it:=by simpa using hb
  subst e;obtain⟨o,e,c,d⟩:=st;exact⟨o,e,λv z=>by rw[d]at z;cases z⟩
 keep:=λi h h' st k=>by obtain⟨o,e,r⟩:=st;exact⟨o,k it ↑T o e,r⟩
 item:=by
  intro X hP hw hK hc i pins s σ H E I hf st hg;subst hP hw hK;obtain⟨f0,f1,f2,f3,f4,f5⟩:=hf it ↑T;have hg:i<z.cps.size:=hg;have fin:∀h',h'.IsStrIter it ty z t (i+1)->Heap.SameBut it s.heap h'->∃u,(some (.str ⟨#[z.cps[i]]⟩ s.toks):Option Value)=some u/\wpAny ↑b X.A (letOwnedTupleGo tg (.ref it) u) (λ_ s2=>∃x H',zu X pins σ H' s2/\RelV x u/\(HG z).yld i H x H'/\s2.heap.IsStrIter it ty z t (i+1)/\∀b∈[it],H' b=none) E {s with heap:=h',toks:=s.toks+1}:=by intro h' st' sb;have I1:zu X pins σ H {s with heap:=h',toks:=s.toks+1}:=I.turned (λb o hb e=>(sb.2 b hb).trans e) f0 f1 f3 f4 f5;obtain⟨o,e,c,d⟩:=id st';refine⟨_,rfl,tK (s:={s with heap:=h',toks:=s.toks+1}) e c d (by rcases hty with rfl|rfl<;>decide) ⟨.str ⟨#[z.cps[i]]⟩,H,I1,⟨_,rfl⟩,⟨rfl,z.cps[i],by simp[hg],rfl⟩,st',λb hb=>(hf b hb).1⟩⟩
  rcases hty with rfl|rfl;·exact wpAny_pyNext_ascii_item st (c:=z.cps[i]) (by simp[hg]) fin
  ·exact wpAny_pyNext_wide_item st (c:=z.cps[i]) (by simp[hg]) fin
 done:=by
  intro X hP hw hK hc i pins s σ H E I hf st hg;subst hP hw hK;obtain⟨f0,f1,f2,f3,f4,f5⟩:=hf it ↑T;have hg:z.cps.size<=i:=hg;rcases hty with rfl|rfl;·exact wpAny_pyNext_ascii_end (I.ok.hd hc) st (by simp[hg]) λh' eb=>⟨rfl,I.turned (t':=s.toks) (λb o hb e=>eb b o hb e) f0 f1 f3 f4 f5⟩
  ·exact wpAny_pyNext_wide_end (I.ok.hd hc) st (by simp[hg]) λh' eb=>⟨rfl,I.turned (t':=s.toks) (λb o hb e=>eb b o hb e) f0 f1 f3 f4 f5⟩
 self:=λ_ _ _ _ _ st h=>by
  rcases hty with rfl|rfl;·exact wpAny_pyIter_striter_ascii st h
  ·exact wpAny_pyIter_striter_wide st h
def Im(tl:TE):TI:=λσ H R=>tl σ H λx H1=>∃z,x=.str z/\R (HG z) H1
def NM{l:Expr}{tl:TE}(hl:PE X l tl):PI X tg l (Im tl):=by
 intro pins s σ H R I h;refine jQ (hl pins s σ H _ I h) λv s1⟨x,H1,I1,r1,q1⟩=>?_;obtain⟨z,e,q⟩:=q1;subst e;obtain⟨t,rfl⟩:=r1;have fin:∀ty,ty="str_ascii_iterator"\/ty="str_iterator"->Ej X pins σ tg R (.ref s1.heap.objs.size) {s1 with heap:=s1.heap.push {cls:=.type ty,data:=.fields #[.str z t,.int 0 0]}}:=by
  intro ty hty;refine⟨s1.heap.objs.size,[s1.heap.objs.size],_,_,H1,rfl,I1.kept (t':=s1.toks) λb o e=>Heap.get?_push_of_some _ e,Vb z t _ ty hty,⟨_,Heap.get?_push_size _ rfl,rfl,rfl⟩,λb hb=>?_,q⟩;have e:b=s1.heap.objs.size:=by simpa using hb
  subst e;exact I1.fpOk ↑e (I1.hok.fresh ↑e)
 cases ha:z.cps.all (·<128);·exact wpAny_pyIter_wide ha (fin _ (.inr rfl))
 ·exact wpAny_pyIter_ascii ha (fin _ (.inl rfl))
def Io(K:W.Frag):List V->Hp->VK->Prop:=λxs H Q=>∃x T t b,xs=[x,.ty T]/\uJ K H x t/\W.kitOne K t (.type T)=some b/\Q (.bl b) H
def zM(K:W.Frag)(mg:Str->Option Value)(x:Str)(st:Stmt):Prop:=∃f fd,Zq K x x st f fd/\mg x=some (.ref f)
def Vc(hg:Gl X x)(h:∃t,X.mg x=some (.str z t))(hd:(x==↑t)=false:=by decide):PE X (.Name x pos) (tC (.str z)):=by obtain⟨t,h⟩:=h;exact gH hg h ⟨t,rfl⟩ hd
def Vd(hg:Gl X x)(h:∃t,X.mg x=some (.int z t))(hd:(x==↑t)=false:=by decide):PE X (.Name x pos) (tC (.int z)):=by obtain⟨t,h⟩:=h;exact gH hg h ⟨t,rfl⟩ hd
def xW:bootBuiltins "len"=some (.builtin "len"):=by decide+kernel
def NN:bootBuiltins "min"=some (.builtin "min"):=by decide+kernel
def pT:bootBuiltins "isinstance"=some (.builtin "isinstance"):=by decide+kernel
def qg:bootBuiltins "sorted"=some (.builtin "sorted"):=by decide+kernel
def iF:bootBuiltins "all"=some (.builtin "all"):=by decide+kernel
def ZO:bootBuiltins "int"=some (.type "int"):=by decide+kernel
def bQ:bootBuiltins "str"=some (.type "str"):=by decide+kernel
def lT:bootBuiltins "list"=some (.type "list"):=by decide+kernel
def wR:bootBuiltins "tuple"=some (.type "tuple"):=by decide+kernel
def bR:bootBuiltins "enumerate"=some (.type "enumerate"):=by decide+kernel
end L2
namespace Fs
def uh(cs ss:List Nat):Nat:=(cs.takeWhile λc=>decide (c∈ss)).length
def runEnd(cs:List Nat)(s:Nat)(ss:List Nat):Nat:=s+uh (cs.drop s) ss
def runEnd_go{cs ss:List Nat}{e c:Nat}(h:cs[e]?=some c)(m:c∈ss):runEnd cs (e+1) ss=runEnd cs e ss:=by unfold runEnd uh;have hlt:e<cs.length:=(List.getElem?_eq_some_iff.mp h).1;have hc:cs[e]=c:=(List.getElem?_eq_some_iff.mp h).2;rw[List.drop_eq_getElem_cons hlt,hc,List.takeWhile_cons,if_pos (by simp[m]),List.length_cons];omega
def runEnd_stop{cs ss:List Nat}{e c:Nat}(h:cs[e]?=some c)(m:¬c∈ss):runEnd cs e ss=e:=by unfold runEnd uh;have hlt:e<cs.length:=(List.getElem?_eq_some_iff.mp h).1;have hc:cs[e]=c:=(List.getElem?_eq_some_iff.mp h).2;rw[List.drop_eq_getElem_cons hlt,hc,List.takeWhile_cons,if_neg (by simp[m])];rfl
def runEnd_out{cs ss:List Nat}{e:Nat}(h:cs.length<=e):runEnd cs e ss=e:=by unfold runEnd uh;rw[List.drop_eq_nil_of_le h];rfl
def cJ{cs ss:List Nat}{e:Nat}(h:e<=cs.length):e<=runEnd cs e ss/\runEnd cs e ss<=cs.length:=by unfold runEnd uh;have h1:=(List.takeWhile_sublist (λc=>decide (c∈ss)) (l:=cs.drop e)).length_le;rw[List.length_drop]at h1;omega
def letters:List Nat:=[97,98,99,100,101,102,103,104,105,106,107,108,109,110,111,112,113,114,115,116,117,118,119,120,121,122]
def nameEnd(cs:List Nat)(s:Nat):Nat:=if runEnd cs s letters-s<=12 then runEnd cs s letters else s
def isName(cs:List Nat):Bool:=!decide (cs=[])&&decide (nameEnd cs 0=cs.length)
def pU{p:Nat->Bool}:∀{cs:List Nat},(cs.takeWhile p).length=cs.length↔cs.all p=true
 |[]=>by simp|c::cs=>by
  rw[List.takeWhile_cons,List.all_cons];cases h:p c;·simp
  ·simp[pU (p:=p) (cs:=cs)]
def isName_due(cs:List Nat):isName cs=(decide (0<cs.length/\cs.length<13)&&cs.all λc=>decide (c∈letters)):=by
 have h1:=(List.takeWhile_sublist (λc=>decide (c∈letters)) (l:=cs)).length_le;have h2:=pU (p:=λc=>decide (c∈letters)) (cs:=cs);have e:runEnd cs 0 letters=(cs.takeWhile λc=>decide (c∈letters)).length:=by simp[runEnd,uh]
 unfold isName nameEnd;rw[e];rw[Bool.eq_iff_iff];rw[Bool.and_eq_true,Bool.and_eq_true,<-h2,decide_eq_true_iff,decide_eq_true_iff,Bool.not_eq_true',decide_eq_false_iff_not];have hn:cs=[]↔cs.length=0:=by cases cs<;>simp
 rw[hn];constructor;·rintro⟨a,b⟩;split at b<;>omega
 ·rintro⟨⟨a,b⟩,c⟩;refine⟨by omega,?_⟩;rw[if_pos ↑a];omega
def figures:List Nat:=[48,49,50,51,52,53,54,55,56,57]
def runEnd_ge(cs:List Nat)(s:Nat)(ss:List Nat):s<=runEnd cs s ss:=by unfold runEnd;omega
def tW(h:s<runEnd cs s ss):∃c,cs[s]?=some c/\c∈ss:=by cases e:cs[s]? with|none=>have:=runEnd_out (ss:=ss) (List.getElem?_eq_none_iff.mp e);omega|some c=>refine⟨c,rfl,Classical.byContradiction λm=>?_⟩;have:=runEnd_stop e m;omega
def nameEnd_ge(cs:List Nat)(s:Nat):s<=nameEnd cs s:=by unfold nameEnd;have:=runEnd_ge cs s letters;split<;>omega
def nameEnd_lt(h:s<nameEnd cs s):s<cs.length/\nameEnd cs s<=cs.length:=by
 unfold nameEnd at h⊢;split at h;·rename_i h1;rw[if_pos h1];obtain⟨c,hc,_⟩:=tW h;have hl:=(List.getElem?_eq_some_iff.mp hc).1;exact⟨hl,(cJ (Nat.le_of_lt hl)).2⟩
 ·omega
def Y4(cs:List Nat)(s:Nat):Option Nat:=if nameEnd cs s=s then none else some (nameEnd cs s)
def G1(cs:List Nat)(s:Nat):Option Nat:=if runEnd cs (s+1) figures=s+1 then none else some (runEnd cs (s+1) figures)
def numberEnd(cs:List Nat)(s:Nat):Nat:=if s+1<runEnd cs (s+1) figures then runEnd cs (s+1) figures else s
def iG(cs:List Nat)(e:Nat):Option Nat:=if h:cs[e]?=some 46 then if h2:e+1<nameEnd cs (e+1)then iG cs (nameEnd cs (e+1))else none else some e termination_by cs.length-e decreasing_by have:=(List.getElem?_eq_some_iff.mp h).1;have:=nameEnd_lt h2;omega
def pointsEnd(cs:List Nat)(e:Nat):Nat:=if h:cs[e]?=some 46 then if h2:e+1<nameEnd cs (e+1)then pointsEnd cs (nameEnd cs (e+1))else e else e termination_by cs.length-e decreasing_by have:=(List.getElem?_eq_some_iff.mp h).1;have:=nameEnd_lt h2;omega
def nW(h:¬cs[e]?=some 46):iG cs e=some e:=by rw[iG,dif_neg h]
def bS(h:cs[e]?=some 46)(h2:e+1<nameEnd cs (e+1)):iG cs e=iG cs (nameEnd cs (e+1)):=by rw[iG,dif_pos h,dif_pos h2]
def Y5(h:cs[e]?=some 46)(h2:¬e+1<nameEnd cs (e+1)):iG cs e=none:=by rw[iG,dif_pos h,dif_neg h2]
def pe_no(h:¬cs[e]?=some 46):pointsEnd cs e=e:=by rw[pointsEnd,dif_neg h]
def pe_go(h:cs[e]?=some 46)(h2:e+1<nameEnd cs (e+1)):pointsEnd cs e=pointsEnd cs (nameEnd cs (e+1)):=by rw[pointsEnd,dif_pos h,dif_pos h2]
def pe_bad(h:cs[e]?=some 46)(h2:¬e+1<nameEnd cs (e+1)):pointsEnd cs e=e:=by rw[pointsEnd,dif_pos h,dif_neg h2]
def ZP(cs:List Nat):∀(n e:Nat),cs.length-e<=n->(iG cs e=some (pointsEnd cs e)/\¬cs[pointsEnd cs e]?=some 46)\/(iG cs e=none/\cs[pointsEnd cs e]?=some 46):=by
 intro n;induction n with|zero=>
  intro e hn;have h:¬cs[e]?=some 46:=λh=>by have:=(List.getElem?_eq_some_iff.mp h).1;omega
  rw[nW h,pe_no h];exact .inl ⟨rfl,h⟩|succ n ih=>
  intro e hn;by_cases h:cs[e]?=some 46
  ·by_cases h2:e+1<nameEnd cs (e+1);·rw[bS h h2,pe_go h h2];have:=nameEnd_lt h2;exact ih _ ↑a
   ·rw[Y5 h h2,pe_bad h h2];exact .inr ⟨rfl,h⟩
  ·rw[nW h,pe_no h];exact .inl ⟨rfl,h⟩
def NO(cs:List Nat):∀(n e k:Nat),cs.length-e<=n->iG cs e=some k->e<=k:=by
 intro n;induction n with|zero=>
  intro e k hn hk;have h:¬cs[e]?=some 46:=λh=>by have:=(List.getElem?_eq_some_iff.mp h).1;omega
  rw[nW h]at hk;cases hk;exact Nat.le_refl _|succ n ih=>
  intro e k hn hk;by_cases h:cs[e]?=some 46
  ·by_cases h2:e+1<nameEnd cs (e+1);·rw[bS h h2]at hk;have:=nameEnd_lt h2;have:=ih _ k ↑a hk;omega
   ·rw[Y5 h h2]at hk;cases hk
  ·rw[nW h]at hk;cases hk;exact Nat.le_refl _
def bT(cs:List Nat):Option Nat->Option Nat|none=>none|some e=>iG cs e
def base(cs:List Nat)(R:Nat->Option Nat)(at':Nat):Option Nat:=if cs[at']?=some 40 then match R (at'+1)with|none=>none|some j=>if cs[j]?=some 38 then match R (j+1)with|none=>none|some k=>if cs[k]?=some 41 then some (k+1)else none else none else if cs[at']?=some 35 then G1 cs at' else Y4 cs at'
def iH(cs:List Nat):Nat->Nat->Option Nat|0,_=>none|n+1,at'=>bT cs (base cs (iH cs n) at')
def G2(h:bT cs o=some k):∃e,o=some e/\e<=k:=by cases o with|none=>cases h|some e=>exact⟨e,rfl,NO cs _ e k ↑e h⟩
def Y6(cs:List Nat):∀(n at' k:Nat),iH cs n at'=some k->at'<k:=by intro n;induction n with|zero=>intro a k h;cases h|succ n ih=>
  intro a k h;obtain⟨e,he,hk⟩:=G2 h;refine Nat.lt_of_lt_of_le ?_ hk;unfold base at he;split at he;·cases h1:iH cs n (a+1)with|none=>rw[h1]at he;cases he|some j=>
    rw[h1]at he;have he:(if cs[j]?=some 38 then _ else none)=some e:=he;split at he;·cases h2:iH cs n (j+1)with|none=>rw[h2]at he;cases he|some m=>
      rw[h2]at he;have he:(if cs[m]?=some 41 then some (m+1)else none)=some e:=he;have g1:=ih _ _ h1;have g2:=ih _ _ h2;split at he;·cases he;omega
      ·cases he
    ·cases he
  ·split at he
   ·unfold G1 at he;have:=runEnd_ge cs (a+1) figures;split at he;·cases he
    ·cases he;omega
   ·unfold Y4 at he;have:=nameEnd_ge cs a;split at he;·cases he
    ·cases he;omega
def WC(cs:List Nat)(a:Nat):Nat:=(cs.drop a).count 40
def tX(cs:List Nat)(h:a<=b):WC cs b<=WC cs a:=by unfold WC;obtain⟨d,rfl⟩:∃d,b=a+d:=⟨b-a,by omega⟩;rw[<-List.drop_drop];exact(List.drop_sublist _ _).count_le _
def tY(h:cs[a]?=some 40):WC cs a=WC cs (a+1)+1:=by obtain⟨hl,hc⟩:=List.getElem?_eq_some_iff.mp h;unfold WC;rw[List.drop_eq_getElem_cons hl,hc,List.count_cons_self]
def bU(cs:List Nat)(a:Nat):WC cs a<=cs.length:=by unfold WC;have:=List.count_le_length (a:=40) (l:=cs.drop a);rw[List.length_drop]at this;omega
def cK(cs:List Nat):∀(n m at':Nat),WC cs at'<n->WC cs at'<m->iH cs n at'=iH cs m at':=by intro n;induction n with|zero=>intro m a h1 h2;omega|succ n ih=>intro m a h1 h2;cases m with|zero=>omega|succ m=>
   show bT cs (base cs (iH cs n) a)=bT cs (base cs (iH cs m) a);congr 1;unfold base;split;·rename_i hp;have hc:=tY hp;rw[ih m (a+1) ↑a ↑a];cases e:iH cs m (a+1)with|none=>rfl|some j=>have:=Y6 cs _ _ _ e;have:=tX cs (show a+1<=j+1 by omega);show(if cs[j]?=some 38 then _ else none)=(if cs[j]?=some 38 then _ else none);rw[ih m (j+1) ↑a ↑a]
   ·rfl
def K(cs:List Nat)(at':Nat):Option Nat:=iH cs (cs.length+1) at'
def XB(cs:List Nat)(a:Nat):K cs a=bT cs (base cs (K cs) a):=by
 show bT cs (base cs (iH cs cs.length) a)=_;congr 1;unfold base;split;·rename_i hp;have hc:=tY hp;have hl:=bU cs a;rw[cK cs cs.length (cs.length+1) (a+1) ↑a ↑a];show(match K cs (a+1)with|none=>none|some j=>_)=_;cases e:K cs (a+1)with|none=>rfl|some j=>have:=Y6 cs _ _ _ e;have:=tX cs (show a+1<=j+1 by omega);show(if cs[j]?=some 38 then _ else none)=(if cs[j]?=some 38 then _ else none);rw[cK cs cs.length (cs.length+1) (j+1) ↑a ↑a];rfl
 ·rfl
def qr(cs:List Nat):List Nat->Nat->Bool|[],e=>decide (e=cs.length)|t::st,e=>if t=38 then if cs[e]?=some 38 then match K cs (e+1)with|none=>false|some k=>if cs[k]?=some 41 then(match iG cs (k+1)with|none=>false|some k'=>qr cs st k')else false else false else if cs[e]?=some 41 then(match iG cs (e+1)with|none=>false|some e'=>qr cs st e')else false
def ans(cs:List Nat)(st:List Nat)(a:Nat):Bool:=match K cs a with|none=>false|some e=>qr cs st e
def contP(cs:List Nat)(st:List Nat)(e:Nat):Bool:=if cs[e]?=some 46 then false else qr cs st e
def iI(cs st:List Nat)(e:Nat):qr cs (41::st) e=if cs[e]?=some 41 then(match iG cs (e+1)with|none=>false|some e'=>qr cs st e')else false:=by rw[qr,if_neg ↑v]
def cL(cs st:List Nat)(e:Nat):qr cs (38::st) e=if cs[e]?=some 38 then ans cs (41::st) (e+1)else false:=by
 rw[qr,if_pos rfl];split;·unfold ans;cases K cs (e+1)with|none=>rfl|some k=>exact(iI cs st k).symm
 ·rfl
def ans_open(h:cs[a]?=some 40):ans cs st a=ans cs (38::st) (a+1):=by unfold ans;rw[XB cs a];unfold base;rw[if_pos h];cases e:K cs (a+1)with|none=>rfl|some j=>
  show(match bT cs (if cs[j]?=some 38 then(match K cs (j+1)with|none=>none|some k=>if cs[k]?=some 41 then some (k+1)else none)else none)with|none=>false|some e=>qr cs st e)=qr cs (38::st) j;rw[qr,if_pos rfl];by_cases h3:cs[j]?=some 38;·rw[if_pos h3,if_pos h3];cases e2:K cs (j+1)with|none=>rfl|some k=>
    show(match bT cs (if cs[k]?=some 41 then some (k+1)else none)with|none=>false|some e=>qr cs st e)=(if cs[k]?=some 41 then _ else false);by_cases h4:cs[k]?=some 41;·rw[if_pos h4,if_pos h4];rfl
    ·rw[if_neg h4,if_neg h4];rfl
  ·rw[if_neg h3,if_neg h3];rfl
def headEnd(cs:List Nat)(a:Nat):Nat:=if cs[a]?=some 35 then numberEnd cs a else nameEnd cs a
def ans_head(h:¬cs[a]?=some 40):ans cs st a=if headEnd cs a=a then false else contP cs st (pointsEnd cs (headEnd cs a)):=by
 have hb:base cs (K cs) a=if headEnd cs a=a then none else some (headEnd cs a):=by
  unfold base headEnd;rw[if_neg h];split
  ·unfold G1 numberEnd;have:=runEnd_ge cs (a+1) figures;by_cases h1:runEnd cs (a+1) figures=a+1;·rw[if_pos h1,if_pos];rw[if_neg ↑a]
   ·rw[if_neg h1,if_pos (show a+1<runEnd cs (a+1) figures by omega),if_neg ↑a]
  ·rfl
 unfold ans;rw[XB,hb];split
 ·rename_i h1;split at h1;·rename_i h2;rw[if_pos h2]
  ·rename_i h2;rw[if_neg h2];rcases ZP cs _ (headEnd cs a) ↑e with⟨p1,p2⟩|⟨p1,p2⟩;·have h1:iG cs (headEnd cs a)=none:=h1;rw[p1]at h1;cases h1
   ·unfold contP;rw[if_pos p2]
 ·rename_i e h1;split at h1;·cases h1
  ·rename_i h2;rw[if_neg h2];rcases ZP cs _ (headEnd cs a) ↑e with⟨p1,p2⟩|⟨p1,p2⟩;·have h1:iG cs (headEnd cs a)=some e:=h1;rw[p1]at h1;cases h1;unfold contP;rw[if_neg p2]
   ·have h1:iG cs (headEnd cs a)=some e:=h1;rw[p1]at h1;cases h1
def contP_close(h:cs[e]?=some 41):contP cs (41::st) e=contP cs st (pointsEnd cs (e+1)):=by
 have h1:contP cs (41::st) e=qr cs (41::st) e:=by unfold contP;rw[if_neg (by rw[h];simp)]
 rw[h1,iI,if_pos h];rcases ZP cs _ (e+1) ↑e with⟨p1,p2⟩|⟨p1,p2⟩;·rw[p1];unfold contP;rw[if_neg p2]
 ·rw[p1];unfold contP;rw[if_pos p2]
def contP_nil(cs:List Nat)(e:Nat):contP cs [] e=decide (e=cs.length):=by
 unfold contP;split;·rename_i h;have:=(List.getElem?_eq_some_iff.mp h).1;exact(decide_eq_false ↑a).symm
 ·rfl
def contP_amp(h:cs[e]?=some 38):contP cs (38::st) e=ans cs (41::st) (e+1):=by unfold contP;rw[if_neg (by rw[h];simp),cL,if_pos h]
def contP_no(h:(t=41/\¬cs[e]?=some 41)\/(t=38/\¬cs[e]?=some 38)):contP cs (t::st) e=false:=by
 unfold contP;split;·rfl
 ·rcases h with⟨rfl,h⟩|⟨rfl,h⟩;·rw[iI,if_neg h]
  ·rw[cL,if_neg h]
def isKind(cs:List Nat):Bool:=decide (K cs 0=some cs.length)
def isKind_ans(cs:List Nat):isKind cs=ans cs [] 0:=by unfold isKind ans;cases K cs 0 with|none=>simp|some e=>simp[qr]
def pointsEnd_ge(cs:List Nat):∀(n e:Nat),cs.length-e<=n->e<=pointsEnd cs e/\(e<=cs.length->pointsEnd cs e<=cs.length):=by
 intro n;induction n with|zero=>
  intro e hn;have h:¬cs[e]?=some 46:=λh=>by have:=(List.getElem?_eq_some_iff.mp h).1;omega
  rw[pe_no h];exact⟨Nat.le_refl _,λh=>h⟩|succ n ih=>
  intro e hn;by_cases h:cs[e]?=some 46
  ·by_cases h2:e+1<nameEnd cs (e+1);·rw[pe_go h h2];have:=nameEnd_lt h2;have:=ih (nameEnd cs (e+1)) ↑a;omega
   ·rw[pe_bad h h2];exact⟨Nat.le_refl _,λh=>h⟩
  ·rw[pe_no h];exact⟨Nat.le_refl _,λh=>h⟩
def headEnd_le(cs:List Nat)(a:Nat):a<=headEnd cs a/\(a<=cs.length->headEnd cs a<=cs.length):=by
 unfold headEnd;split;·rename_i h;have hl:=(List.getElem?_eq_some_iff.mp h).1;have g:=cJ (cs:=cs) (ss:=figures) (e:=a+1) ↑a;unfold numberEnd;split<;>omega
 ·have g:=nameEnd_ge cs a;refine⟨g,λh=>?_⟩;by_cases h2:a<nameEnd cs a;·exact(nameEnd_lt h2).2
  ·omega
end Fs
namespace L2
open PySem PySem.Spec PyProof.Rows
def EE(z:Str)(e:Nat):lD z (some (e:Int)) (some ((e:Int)+1))=⟨(z.cps.toList[e]?).toList.toArray⟩:=by
 have e1:((e:Int)+1)=((e+1:Nat):Int):=by omega
 unfold lD XA;rw[e1,HT.sIx_nat,HT.sIx_nat];by_cases h:e<z.cps.toList.length
 ·rw[Nat.min_eq_left (Nat.le_of_lt h),Nat.min_eq_left h,List.drop_eq_getElem_cons h,List.getElem?_eq_getElem h];have:e+1-e=1:=by omega
  rw[this];rfl
 ·have e2:min e z.cps.toList.length=z.cps.toList.length:=by omega
  have e3:min (e+1) z.cps.toList.length=z.cps.toList.length:=by omega
  rw[e2,e3,Nat.sub_self,List.take_zero,List.getElem?_eq_none_iff.mpr ↑a];rfl
def Ve(z:Str)(e c:Nat):V.str (lD z (some (e:Int)) (some ((e:Int)+1)))=V.str ⟨#[c]⟩↔z.cps.toList[e]?=some c:=by rw[EE];cases h:z.cps.toList[e]? with|none=>simp|some d=>simp
def Y7{z:Str}{e c:Nat}{y:Str}(hy:y=⟨#[c]⟩):decide (V.str (lD z (some (e:Int)) (some ((e:Int)+1)))=V.str y)=decide (z.cps.toList[e]?=some c):=by subst hy;exact decide_eq_decide.mpr (Ve z e c)
def zr(X:Cx)(scope:Scope)(cl:List (Str×Addr))(C:Addr)(N:List Str)(ex:List Addr)(pn:List ↑y)(s₀:Shared)(H₀:Hp):Cx:={X with env:=compEnvC scope cl C X.env,N:=N,s₀:=s₀,H₀:=H₀,outer:=X.stack,ex:=ex,fn:=λ_=>false,pn:=pn,xe:=λ_ _=>False}
structure iJ(X:Cx)(scope:Scope)(cl:List (Str×Addr))(x:Str)(caps:List Str)(slots:List Nat):Prop where
 kind:scope.kind=.function
 nocell:∀y∈scope.names,y.2≠.cell
 names:∀y∈scope.names,y.2=.local->scope.names.lookup y.1=some .local
 hx:scope.names.lookup x=some .local
 clos:closureFor scope X.env=pure cl
 sub:∀y c,cl.lookup y=some c->X.env.cells.lookup y=some c
 has:∀y,((relabel scope X.env).names.lookup y=some .cell\/(relabel scope X.env).names.lookup y=some .free)->∃c,cl.lookup y=some c
 cap:∀(j:Nat)(y:Str),caps[j]?=some y->∃k:Nat,slots[j]?=some k/\X.N[k]?=some y/\(relabel scope X.env).names.lookup y=some .cell/\X.env.scope.names.lookup y=some .cell
 nd:(x::caps).Nodup
 len:slots.length=caps.length
def qu(σ:St)(slots:List Nat):St:=slots.map λk=>(σ[k]?).getD none
def Y8(wi:TI)(tt:TT)(te:TE)(slots:List Nat):TE:=λσ H Q=>wi σ H λJ H1=>∀D,H1 D=none->∃W:Nat->Nat->List V->Hp->Prop,(∃m,W 0 m [] (jm H1 D (.lst [])))/\∀i m ys H,W i m ys H->H D=some (.lst ys)/\((J.stop i H/\Q (.ref D) H)\/(J.go i H/\∀v H',J.yld i H v H'->tt (some v::qu σ slots) H' λb H2=>if b=true then te (some v::qu σ slots) H2 λy H3=>H3 D=some (.lst ys)/\ys.length<sizeLine/\∃m',m'<m/\W (i+1) m' (ys++[y]) (jm H3 D (.lst (ys++[y])))else∃m',m'<m/\W (i+1) m' ys H2))
def WD(X:Cx)(ifs:List Expr)(t:TT):Prop:=∀(pins:List ↑y)(s:Shared)(σ:St)(H:Hp)(Q:Bool->Hp->Prop),zu X pins σ H s->t σ H Q->wpAny ↑b X.A (forIn ifs true λc r=>if r=true then do let ok<-isTrue c X.env (eval c X.env);pure (ForInStep.yield ok)else pure (ForInStep.yield r)) (TP X pins σ Q) X.xe s
def Ip:TT:=λ_ H Q=>Q true H
def Vf:WD X [] Ip:=λ_ _ _ H _ I h=>wpAny_tests_nil ⟨H,I,h⟩
def G3(h:PT X c t):WD X [c] t:=λpins s σ H Q I hw=>wpAny_tests_one (h pins s σ H Q I hw)
def cM(I:zu X pins σ H s)(h:Y8 wi tt te slots σ H Q)(fin:∀D C H5 s6 m,s6.heap.Ns C m->uI X pins H5 C->(∀h',Heap.SameBut C s6.heap h'->zu X pins σ H5 {s6 with heap:=h'})->Q (.ref D) H5->compPost ↑b X.A X.xe use PQ (.ref D) C (.ok .next) s6)(hc:X.calm=true)(S:iJ X scope cl x caps slots)(hi:PI X (.Name x px) iter wi)(ht:∀C ex pn s₀ H₀,WD ↑f ifs tt)(he:∀C ex pn s₀ H₀,PE ↑f elt te)(hs:∀v,foldedSetIterable iter X.env v=pure v:=by intro _;rfl)(hg:∀it v,letOwnedTupleGo (.Name x px) it v=pure ():=by intro _ _;rfl):wpAny ↑b X.A (comprehension ↑s scope X.env cpos (newList []) false (eval iter X.env) use) PQ X.xe s:=by
 refine wpAny_comprehension_free rfl hs S.clos S.kind S.names (jQ (hi pins s σ H _ I h) λv s1 h1=>jQ h1 λitv s2 h2=>?_);obtain⟨it,fp,tn,J,H1,e,I2,T,st2,f2,q⟩:=h2;subst e--the new list,at D;then the block's map,at C
 obtain⟨W,⟨m0,w0⟩,turn⟩:=q s2.heap.objs.size (I2.hok.fresh ↑e);refine wpAny_newObj_type ?_ (show(0:Nat)<=sizeLine from Nat.zero_le _);have I3:zu X pins σ (jm H1 s2.heap.objs.size (.lst [])) {s2 with heap:=s2.heap.push {cls:=.type "list",data:=.seq ([]:List Value).toArray}}:=I2.lnew .nil ↑aV;have f3:∀b∈fp,uI X pins (jm H1 s2.heap.objs.size (.lst [])) b:=λb hb=>by obtain⟨f0,fr⟩:=f2 b hb;obtain⟨o,ho,_⟩:=T.obj _ _ st2 b hb;exact⟨by rw[zh (Nat.ne_of_lt (Heap.lt_size ho))];exact f0,fr⟩
 have st3:tn 0 (s2.heap.push {cls:=.type "list",data:=.seq ([]:List Value).toArray}):=T.keep _ _ _ st2 λb _ o e=>Heap.get?_push_of_some _ e;generalize hD:s2.heap.objs.size=D at I3 turn w0 f3⊢;generalize hs3:({s2 with heap:=s2.heap.push {cls:=.type "list",data:=.seq ([]:List Value).toArray}}:Shared)=s3 at I3⊢;have st3:tn 0 s3.heap:=by rw[<-hs3];exact st3
 generalize hH3:jm H1 D (.lst [])=H3 at I3 w0 f3;refine wpAny_newFunctionEnv S.nocell (by intro y hy;simp at hy) (λh4 hns4 hsb4=>?_) S.kind;generalize hC:s3.heap.objs.size=C at hns4 hsb4⊢;have neC:∀b o,s3.heap.get? b=some o->b≠C:=λb o e=>by rw[<-hC];exact Nat.ne_of_lt ↑aQ
 have old:∀b o,s3.heap.get? b=some o->h4.get? b=some o:=λb o e=>hsb4.extBut b o (neC b o e) (Heap.get?_push_of_some _ e);have fpo:∀b∈fp,∃o,s3.heap.get? b=some o:=λb hb=>let⟨o,ho,_⟩:=T.obj _ _ st3 b hb;⟨o,ho⟩;have nst:∀b∈fp,b∉JS X.stack:=λb hb z=>(List.mem_cons.mp (I3.stkSub b z)).elim (f3 b hb).2.1 (f3 b hb).2.2.1;have lx:(relabel scope X.env).names.lookup x=some .local:=lookup_relabel_local S.hx;have ok:(zr X scope cl C (x::caps) fp (X.pn++pins) s3 H3).Ok:=
  {mod:=I3.ok.mod
   kind:=S.kind
   glob:=I3.ok.glob
   blt:=I3.ok.blt
   above:=by rw[<-hC];exact Nat.le_refl _
   inj:=λy z c h1 h2=>I3.ok.inj y z c (S.sub y c h1) (S.sub z c h2)
   has:=λy hy=>S.has y hy
   cab:=λy c h=>nomatch(show false=true from h)
   hd:=I3.ok.hd
   frames:=I3.ok.frames
   stk:=.inl rfl
   exf:=λb hb=>⟨let⟨o,ho⟩:=fpo b hb;neC b o ho,λy c e=>(f3 b hb).2.2.2.2.1 y c (S.sub y c e)⟩
   bs:=λb o e=>I3.bs b o e
   bsz:=Nat.le_trans I3.ok.bsz I3.sz
   noex:=λb o e hb=>by
    rcases(f3 b hb).2.2.2.1 with z|z;·exact I3.ok.noex b o e z
    ·exact absurd (Nat.lt_of_lt_of_le (Heap.lt_size (I3.ok.bs b o e).1) z) (Nat.lt_irrefl _)
   exfs:=nst
   funs:=I3.stack
   frf:=I3.stkFree
   tab:=I3.tab};have I4:∀tk,zu ↑N [] (none::qu σ slots) H3 {s3 with heap:=h4,toks:=tk}:=λtk=>by
  refine⟨ok,rfl,I3.bare,Un.kept old,⟨_,hns4,λi y v h1 h2 h3=>?_⟩,λy c e=>?_,by show H3 C=none;rw[<-hC];exact I3.hok.fresh ↑e,λy c e=>I3.freeC y c (S.sub y c e),λp hp=>?_,I3.hok.kept old,?_⟩;·cases i with|zero=>cases h2|succ i=>
    have h1:caps[i]?=some y:=h1;have h2:(qu σ slots)[i]?=some (some v):=h2;obtain⟨k,hk,hN,hr,hcl⟩:=S.cap i y h1;have h2:(slots.map λk=>(σ[k]?).getD none)[i]?=some (some v):=h2;rw[List.getElem?_map,hk]at h2;have h2:(σ[k]?).getD none=some v:=Option.some.inj h2;have h2:σ[k]?=some (some v):=by cases e:σ[k]? with|none=>rw[e]at h2;cases h2|some o=>rw[e]at h2;have:o=some v:=h2;rw[this]
    obtain⟨m,hn,hl⟩:=I3.loc;obtain⟨u,r,l⟩:=hl k y v hN h2 (.inr (.inl hcl));refine⟨u,r,.inr ⟨.inl hr,?_⟩⟩;rcases l with⟨z,_⟩|⟨_,c,e1,⟨o,ho,hd⟩⟩;·have z:X.env.scope.names.lookup y=some .local:=z;rw[hcl]at z;cases z
    ·obtain⟨c',e2⟩:=S.has y (.inl hr);have e3:=S.sub y c' e2;rw[e1]at e3;cases e3;exact⟨c,e2,o,old _ _ ho,hd⟩
  ·obtain⟨v,o,ho,hd⟩:=I3.cell y c (S.sub y c e);exact⟨v,o,old _ _ ho,hd⟩
  ·have hp:p∈(X.pn++pins)++[]:=hp;have hp:p∈X.pn++pins:=by simpa using hp
   obtain⟨e,n,ne,nf,d⟩:=I3.pin p hp;exact⟨old _ _ e,n,neC _ _ e,λz=>(List.mem_cons.mp (I3.stkSub _ z)).elim ne nf,d⟩
  ·show(none::qu σ slots).length=(x::caps).length;unfold qu;rw[List.length_cons,List.length_cons,List.length_map,S.len]
 have stat:∀{H':Hp},(∀b∈fp,H' b=none)->∀b∈fp,uI ↑N [] H' b:=λhn b hb=>⟨hn b hb,(ok.exf b hb).1,nst b hb,.inl hb,(ok.exf b hb).2,λp hp=>(f3 b hb).2.2.2.2.2 p (by have hp:p∈(X.pn++pins)++[]:=hp;simpa using hp)⟩;have loop:∀tk,codeAny ↑b X.A (.compLoop ↑s 0 (.ref it) (.ref D) (compEnvC scope cl C X.env)) (compPost ↑b X.A X.xe use PQ (.ref D) C) {s3 with heap:=h4,toks:=tk}:=by
  intro tk;refine codeAny_compLoop_tests (λn s'=>∃i ys o H',zu ↑N [] (o::qu σ slots) H' s'/\tn i s'.heap/\(∀b∈fp,H' b=none)/\W i n ys H') ?_ m0 ⟨0,[],none,H3,I4 tk,T.keep _ _ _ st3 λb _ o e=>old b o e,λb hb=>(f3 b hb).1,w0⟩ (hg _);rintro n s5⟨i,ys,o,H5,I5,st5,fr5,w5⟩;obtain⟨hDl,stop|⟨go,step⟩⟩:=turn i n ys H5 w5
  ·obtain⟨stop,qD⟩:=stop;refine wpAny_mono (T.done ↑N rfl rfl rfl hc i [] s5 _ H5 (λ_ _=>False) I5 (stat fr5) st5 stop) (λr s6 hr6=>?_) λ_ _ z=>z.elim;obtain⟨hr,I6⟩:=hr6;subst hr;obtain⟨m,hn,_⟩:=I6.loc;refine fin D C H5 s6 m hn (I3.fpOk (by rw[<-hC];exact Nat.le_refl _) I6.free) (λh' hsb=>?_) qD;have neC':∀c v,H5 c=some v->c≠C:=λc v e z=>by have:=I6.free;have:H5 C=none:=this;rw[z,this]at e;cases e
   refine I3.call' I6.os ?_ ?_ I6.bare λb hb=>⟨(f3 b hb).2.2.2.1,(f3 b hb).2.1,(f3 b hb).2.2.2.2.1,(f3 b hb).2.2.2.2.2⟩;·have u:=I6.base;exact⟨λb o e n hb hx=>hsb.extBut b o (neC b o e) (u.keep b o e n hb hx),λb o e n hb hx=>let⟨sl,q⟩:=u.slot b o e n hb hx;⟨sl,hsb.extBut b _ (neC b o e) q⟩,u.free,λb o e hx=>let⟨o',q⟩:=u.there b o e hx;⟨o',hsb.extBut b _ (neC b o e) q⟩,u.tups,u.frzs,u.tbls⟩
   ·exactλb u e=>(I6.hok b u e).stay (λc v hc q=>hsb.extBut c v (hc.elim (λz=>by rw[z];exact neC' b u e) λz=>neC' c _ z) q) (λ_ q=>q) λ_ _ q=>q
  ·refine wpAny_mono (T.item ↑N rfl rfl rfl hc i [] s5 _ H5 (λ_ _=>False) I5 (stat fr5) st5 go) (λr s6 hr6=>?_) λ_ _ z=>z.elim;obtain⟨u,hr,h6⟩:=hr6;subst hr;show wpAny ↑b X.A (assign (.Name x px) (compEnvC scope cl C X.env) u) _ _ s6;have e6:assign (.Name x px) (compEnvC scope cl C X.env) u=(letOwnedTupleGo (.Name x px) (.ref it) u>>=λ_=>assign (.Name x px) (compEnvC scope cl C X.env) u):=by rw[hg];rfl
   rw[e6];refine wpAny_bind (wpAny_mono h6 (λ_ s7 h7=>?_) λ_ _ z=>z.elim);obtain⟨v,H7,I7,r7,y7,st7,fr7⟩:=h7;have I7':=I7.pinned (stat fr7) (T.obj _ _ st7);have pg:PG ↑N (.Name x px) (gf 0):=uH S.nd rfl (.inl lx) (.inr lx);refine wpAny_mono (pg _ s7 _ H7 v u (λσ8 H8=>σ8=some v::qu σ slots/\H8=H7) I7' r7 ⟨rfl,rfl⟩) (λ_ s8 h8=>?_) λ_ _ z=>z.elim;obtain⟨σ8,H8,I8,e8,e9⟩:=h8;rw[e8,e9]at I8;refine wpAny_mono (ht C fp (X.pn++pins) s3 H3 _ s8 _ _ _ I8 (step v H7 y7)) (λb s9 h9=>?_) λ_ _ z=>z.elim;obtain⟨H9,I9,q9⟩:=h9;have again:∀{o':Option V}{H':Hp}{s':Shared}{zs:List V}{m':Nat},zu ↑N ([]++nS fp s7.heap) (o'::qu σ slots) H' s'->m'<n->W (i+1) m' zs H'->∃m,m<n/\∃i ys o H',zu ↑N [] (o::qu σ slots) H' s'/\tn i s'.heap/\(∀b∈fp,H' b=none)/\W i m ys H':=λ{o' H' s' zs m'}I' hm w'=>by refine⟨m',hm,i+1,zs,o',H',I'.unpinned,T.keep _ _ _ st7 λb hb o e=>(I'.pin (b,o) ↑Z).1,λb hb=>?_,w'⟩;obtain⟨o,e,d⟩:=T.obj _ _ st7 b hb;exact(I'.pin (b,o) ↑Z).2.1
   cases b with|false=>rw[if_neg Bool.false_ne_true]at q9⊢;obtain⟨m',hm,w'⟩:=q9;exact again I9 hm w'|true=>rw[if_pos rfl]at q9⊢;refine wpAny_mono (he C fp (X.pn++pins) s3 H3 _ s9 _ _ _ I9 q9) (λyv s10 h10=>?_) λ_ _ z=>z.elim;obtain⟨y,H10,I10,ry,hDy,hlt,m',hm,w'⟩:=h10;refine wpAny_mono (wp (X:=zr X scope cl C (x::caps) fp (X.pn++pins) s3 H3) _ s10 _ H10 (.ref D) [y] (.ref D) [yv] (λ_ H'=>H'=jm H10 D (.lst (ys++[y]))) I10 rfl (.cons ry .nil) ⟨D,ys,y,rfl,rfl,hDy,hlt,rfl⟩) (λ_ s11 h11=>?_) λ_ _ z=>z.elim;obtain⟨_,H11,I11,_,e11⟩:=h11;subst e11;exact again I11 hm w'
 exact codeAny_compStart_list (loop _) (T.self X.A 0 _ _ _ (T.keep _ _ _ st3 λb _ o e=>old b o e) (loop _))
def G4(hc:X.calm=true)(S:iJ X scope cl x caps slots)(hi:PI X (.Name x px) iter wi)(ht:∀C ex pn s₀ H₀,WD ↑f ifs tt)(he:∀C ex pn s₀ H₀,PE ↑f elt te)(hs:∀v,foldedSetIterable iter X.env v=pure v:=by intro _;rfl)(hg:∀it v,letOwnedTupleGo (.Name x px) it v=pure ():=by intro _ _;rfl):PE X ↑s (Y8 wi tt te slots):=by intro pins s σ H Q I h;rw[eval_ListComp];exact cM I h (λD C H5 s6 m hn f keep q=>⟨m,hn,λh' hsb=>⟨.ref D,H5,keep h' hsb,rfl,q⟩⟩) hc S hi ht he hs hg
end L2
namespace L3
open PySem PySem.Spec PyProof.Rows L2
abbrev Mp:=Heap->Prop
abbrev Mo:=Addr->Mp
inductive T where|non|bl(b:Bool)|int(i:Int)|str(x:Str)|ty(n:String)|tup(ts:List T)|lst(ts:List T)|dct(ks:List Key)(ts:List T)|obj(C:Addr)(fs:List Str)(ts:List T)|mem(m:Addr)(o:Mp)
def Iq(K:W.Frag)(H:Hp)(a:Addr)(vs:List V):Prop:=(∃o,H a=some (.frz o (.lst vs)))\/∃(o:Obj)(its:Array Value)(n:Nat),K.lookup a=some o/\o.cls=.type "list"/\o.dict=none/\o.data=.seq its n/\its.size<=sizeLine/\zL vs its.toList
def G5(K:W.Frag)(F:Addr->Prop)(H:Hp)(a:Addr)(vs:List V):Prop:=(F a/\H a=some (.lst vs))\/Iq K H a vs
def G5.sq{K:W.Frag}{F:Addr->Prop}{H:Hp}{a:Addr}{vs:List V}(h:G5 K F H a vs):nO K H a vs:=by
 rcases h with⟨_,h⟩|h|h;·exact .inl (.inl h)
 ·exact .inl (.inr h)
 ·exact .inr h
mutual def Is(K:W.Frag)(F:Addr->Prop)(H:Hp):T->V->Prop|.non,v=>v=.non|.bl b,v=>v=.bl b|.int i,v=>v=.int i|.str x,v=>v=.str x|.ty n,v=>v=.ty n|.tup ts,v=>∃a vs,v=.ref a/\lw K H a vs/\IsAll K F H ts vs|.lst ts,v=>∃a vs,v=.ref a/\G5 K F H a vs/\IsAll K F H ts vs|.dct ks ts,v=>∃a kvs,v=.ref a/\F a/\Rd H a (.dK kvs)/\kvs.map (·.1)=ks/\IsAll K F H ts (kvs.map (·.2))|.obj C fs ts,v=>∃a dx fvs,v=.ref a/\F a/\H a=some (.ins C dx fvs)/\fvs.map (·.1)=fs/\IsAll K F H ts (fvs.map (·.2))|.mem m o,v=>v=.ref m/\H m=some (.ext o)def IsAll(K:W.Frag)(F:Addr->Prop)(H:Hp):List T->List V->Prop|[],vs=>vs=[]|t::ts,vs=>∃v r,vs=v::r/\Is K F H t v/\IsAll K F H ts r end
def G0(H H':Hp):Prop:=∀b o,H b=some o->H' b=some o
section
variable{K:W.Frag}{F F':Addr->Prop}{H H':Hp}
theorem tZ(h:lw K H a vs)(s:∀b o,H b=some o->(∀xs,o≠.lst xs)->((∀xs,o≠.dK xs)/\∀C d xs,o≠.ins C d xs)->H' b=some o):lw K H' a vs:=by
 rcases h with(h|⟨o,h⟩)|h;·exact .inl (.inl (s _ _ h (by intro xs z;cases z) ⟨(by intro xs z;cases z),by intro _ _ xs z;cases z⟩))
 ·exact .inl (.inr ⟨o,s _ _ h (by intro xs z;cases z) ⟨(by intro xs z;cases z),by intro _ _ xs z;cases z⟩⟩)
 ·exact .inr h
structure gk(F F':Addr->Prop)(H H':Hp):Prop where
 sub:∀a,F a->F' a
 fz:∀a o,F a->H a=some o->H' a=some o
 rest:∀a o,H a=some o->(∀xs,o≠.lst xs)->((∀xs,o≠.dK xs)/\∀C d xs,o≠.ins C d xs)->H' a=some o
theorem G5.mono(k:gk F F' H H')(h:G5 K F H a vs):G5 K F' H' a vs:=by
 rcases h with⟨f,h⟩|⟨o,h⟩|h;·exact .inl ⟨k.sub _ f,k.fz _ _ f h⟩
 ·exact .inr (.inl ⟨o,k.rest _ _ h (by intro xs z;cases z) ⟨(by intro xs z;cases z),by intro _ _ xs z;cases z⟩⟩)
 ·exact .inr (.inr h)
mutual theorem Is.mono(k:gk F F' H H'):∀{t:T}{v:V},Is K F H t v->Is K F' H' t v|.non,v,h=>by unfold Is at h⊢;exact h|.bl b,v,h=>by unfold Is at h⊢;exact h|.int i,v,h=>by unfold Is at h⊢;exact h|.str x,v,h=>by unfold Is at h⊢;exact h|.ty n,v,h=>by unfold Is at h⊢;exact h|.tup ts,v,h=>by unfold Is at h⊢;obtain⟨a,vs,e,h,r⟩:=h;exact⟨a,vs,e,tZ h k.rest,IsAll.mono k r⟩|.lst ts,v,h=>by unfold Is at h⊢;obtain⟨a,vs,e,h,r⟩:=h;exact⟨a,vs,e,h.mono k,IsAll.mono k r⟩|.dct ks ts,v,h=>by unfold Is at h⊢;obtain⟨a,kvs,e,f,h,d,r⟩:=h;exact⟨a,kvs,e,k.sub _ f,h.elim (λh=>.inl (k.fz _ _ f h)) λ⟨o,h⟩=>.inr ⟨o,k.fz _ _ f h⟩,d,IsAll.mono k r⟩|.obj C fs ts,v,h=>by unfold Is at h⊢;obtain⟨a,dx,kvs,e,f,h,d,r⟩:=h;exact⟨a,dx,kvs,e,k.sub _ f,k.fz _ _ f h,d,IsAll.mono k r⟩|.mem m o,v,h=>by unfold Is at h⊢;exact⟨h.1,k.rest _ _ h.2 (by intro xs z;cases z) ⟨(by intro xs z;cases z),by intro _ _ xs z;cases z⟩⟩theorem IsAll.mono(k:gk F F' H H'):∀{ts:List T}{vs:List V},IsAll K F H ts vs->IsAll K F' H' ts vs|[],vs,h=>by unfold IsAll at h⊢;exact h|t::ts,vs,h=>by unfold IsAll at h⊢;obtain⟨v,r,e,h1,h2⟩:=h;exact⟨v,r,e,Is.mono k h1,IsAll.mono k h2⟩end
end
mutual def Zr:T->Bool|.lst _=>false|.tup ts=>noLs ts|.dct _ ts=>noLs ts|.obj _ _ ts=>noLs ts|_=>true def noLs:List T->Bool|[]=>true|t::ts=>Zr t&&noLs ts end
mutual def ZQ:T->Bool|.dct _ _=>false|.tup ts=>noDs ts|.lst ts=>noDs ts|.obj _ _ ts=>noDs ts|_=>true def noDs:List T->Bool|[]=>true|t::ts=>ZQ t&&noDs ts end
mutual def ZR:T->Bool|.obj _ _ _=>false|.tup ts=>noOs ts|.lst ts=>noOs ts|.dct _ ts=>noOs ts|_=>true def noOs:List T->Bool|[]=>true|t::ts=>ZR t&&noOs ts end
section
variable{K:W.Frag}{F F':Addr->Prop}{H:Hp}
structure bV(F F':Addr->Prop)(H:Hp)(l d o:Bool):Prop where
 lst:∀a xs,F a->H a=some (.lst xs)->l=false->F' a
 dct:∀a xs,F a->H a=some (.dK xs)->d=false->F' a
 ins:∀a C dx xs,F a->H a=some (.ins C dx xs)->o=false->F' a
 frz:∀a ob u,F a->H a=some (.frz ob u)->F' a
mutual theorem Is.clean(c:bV F F' H l d o):∀{t:T}{v:V},(l=true->Zr t=true)->(d=true->ZQ t=true)->(o=true->ZR t=true)->Is K F H t v->Is K F' H t v
 |.non,v,_,_,_,h=>by unfold Is at h⊢;exact h|.bl b,v,_,_,_,h=>by unfold Is at h⊢;exact h|.int i,v,_,_,_,h=>by unfold Is at h⊢;exact h|.str x,v,_,_,_,h=>by unfold Is at h⊢;exact h|.ty n,v,_,_,_,h=>by unfold Is at h⊢;exact h|.mem m o,v,_,_,_,h=>by unfold Is at h⊢;exact h|.tup ts,v,hl,hd,ho,h=>by unfold Is at h⊢;obtain⟨a,vs,e,h,r⟩:=h;exact⟨a,vs,e,h,IsAll.clean c (λz=>by simpa[Zr]using hl z) (λz=>by simpa[ZQ]using hd z) (λz=>by simpa[ZR]using ho z) r⟩|.lst ts,v,hl,hd,ho,h=>by
  unfold Is at h⊢;obtain⟨a,vs,e,h,r⟩:=h;have hl0:l=false:=by cases l with|false=>rfl|true=>simp[Zr]at hl
  refine⟨a,vs,e,?_,IsAll.clean c (λz=>by rw[hl0]at z;cases z) (λz=>by simpa[ZQ]using hd z) (λz=>by simpa[ZR]using ho z) r⟩;rcases h with⟨f,h⟩|h;·exact .inl ⟨c.lst a vs f h hl0,h⟩
  ·exact .inr h|.dct ks ts,v,hl,hd,ho,h=>by
  unfold Is at h⊢;obtain⟨a,kvs,e,f,h,q,r⟩:=h;have hd0:d=false:=by cases d with|false=>rfl|true=>simp[ZQ]at hd
  exact⟨a,kvs,e,h.elim (λh=>c.dct a kvs f h hd0) (λ⟨_,h⟩=>c.frz a _ _ f h),h,q,IsAll.clean c (λz=>by simpa[Zr]using hl z) (λz=>by rw[hd0]at z;cases z) (λz=>by simpa[ZR]using ho z) r⟩|.obj C fs ts,v,hl,hd,ho,h=>by
  unfold Is at h⊢;obtain⟨a,dx,kvs,e,f,h,q,r⟩:=h;have ho0:o=false:=by cases o with|false=>rfl|true=>simp[ZR]at ho
  exact⟨a,dx,kvs,e,c.ins a _ _ _ f h ho0,h,q,IsAll.clean c (λz=>by simpa[Zr]using hl z) (λz=>by simpa[ZQ]using hd z) (λz=>by rw[ho0]at z;cases z) r⟩theorem IsAll.clean(c:bV F F' H l d o):∀{ts:List T}{vs:List V},(l=true->noLs ts=true)->(d=true->noDs ts=true)->(o=true->noOs ts=true)->IsAll K F H ts vs->IsAll K F' H ts vs
 |[],vs,_,_,_,h=>by unfold IsAll at h⊢;exact h|t::ts,vs,hl,hd,ho,h=>by
  unfold IsAll at h⊢;obtain⟨v,r,e,h1,h2⟩:=h;have hl':l=true->Zr t=true/\noLs ts=true:=λz=>by simpa[noLs]using hl z
  have hd':d=true->ZQ t=true/\noDs ts=true:=λz=>by simpa[noDs]using hd z
  have ho':o=true->ZR t=true/\noOs ts=true:=λz=>by simpa[noOs]using ho z
  exact⟨v,r,e,Is.clean c (λz=>(hl' z).1) (λz=>(hd' z).1) (λz=>(ho' z).1) h1,IsAll.clean c (λz=>(hl' z).2) (λz=>(hd' z).2) (λz=>(ho' z).2) h2⟩end
end
section
variable{K:W.Frag}{F:Addr->Prop}{H:Hp}
theorem IsAll.len:∀{ts:List T}{vs:List V},IsAll K F H ts vs->ts.length=vs.length|[],vs,h=>by unfold IsAll at h;rw[h];rfl|t::ts,vs,h=>by unfold IsAll at h;obtain⟨v,r,e,h1,h2⟩:=h;rw[e,List.length_cons,List.length_cons,IsAll.len h2]
theorem IsAll.get:∀{ts:List T}{vs:List V}{i:Nat}{t:T},IsAll K F H ts vs->ts[i]?=some t->∃v,vs[i]?=some v/\Is K F H t v|[],vs,i,t,h,e=>by simp at e|u::ts,vs,i,t,h,e=>by unfold IsAll at h;obtain⟨v,r,e',h1,h2⟩:=h;subst e';cases i with|zero=>simp at e;subst e;exact⟨v,by simp,h1⟩|succ i=>obtain⟨w,hw,q⟩:=IsAll.get h2 (by simpa using e);exact⟨w,by simpa using hw,q⟩
theorem IsAll.nil:IsAll K F H [] []:=by unfold IsAll;rfl
theorem IsAll.cons(h:Is K F H t v)(r:IsAll K F H ts vs):IsAll K F H (t::ts) (v::vs):=by unfold IsAll;exact⟨v,vs,rfl,h,r⟩
theorem IsAll.append:∀{ts us:List T}{vs ws:List V},IsAll K F H ts vs->IsAll K F H us ws->IsAll K F H (ts++us) (vs++ws)|[],us,vs,ws,h,g=>by unfold IsAll at h;subst h;exact g|t::ts,us,vs,ws,h,g=>by unfold IsAll at h;obtain⟨v,r,e,h1,h2⟩:=h;subst e;exact IsAll.cons h1 (IsAll.append h2 g)
theorem IsAll.take:∀{ts:List T}{vs:List V}(n:Nat),IsAll K F H ts vs->IsAll K F H (ts.take n) (vs.take n)|ts,vs,0,h=>by simpa using IsAll.nil|[],vs,n+1,h=>by unfold IsAll at h;subst h;simpa using IsAll.nil|t::ts,vs,n+1,h=>by unfold IsAll at h;obtain⟨v,r,e,h1,h2⟩:=h;subst e;exact IsAll.cons h1 (IsAll.take n h2)
theorem IsAll.drop:∀{ts:List T}{vs:List V}(n:Nat),IsAll K F H ts vs->IsAll K F H (ts.drop n) (vs.drop n)|ts,vs,0,h=>by simpa using h|[],vs,n+1,h=>by unfold IsAll at h;subst h;simpa using IsAll.nil|t::ts,vs,n+1,h=>by unfold IsAll at h;obtain⟨v,r,e,h1,h2⟩:=h;subst e;exact IsAll.drop n h2
theorem IsAll.set:∀{ts:List T}{vs:List V}{t:T}{v:V}(n:Nat),IsAll K F H ts vs->Is K F H t v->IsAll K F H (ts.set n t) (vs.set n v)|[],vs,_,_,n,h,_=>by unfold IsAll at h;subst h;simpa using IsAll.nil|t::ts,vs,_,_,0,h,g=>by unfold IsAll at h;obtain⟨v,r,e,h1,h2⟩:=h;subst e;exact IsAll.cons g h2|t::ts,vs,_,_,n+1,h,g=>by unfold IsAll at h;obtain⟨v,r,e,h1,h2⟩:=h;subst e;exact IsAll.cons h1 (IsAll.set n h2 g)
end
abbrev St:=L2.St
structure Ex where
 C:Addr
 at_:T
inductive gl(α:Type)where|ok(a:α)|exc(x:Ex)|bad
def gl.bind{α β:Type}(r:gl α)(f:α->gl β):gl β:=match r with|.ok a=>f a|.exc x=>.exc x|.bad=>.bad
@[simp]theorem bind_ok{α β:Type}(a:α)(f:α->gl β):(gl.ok a).bind f=f a:=rfl
@[simp]theorem bind_exc{α β:Type}(x:Ex)(f:α->gl β):(gl.exc x:gl α).bind f=.exc x:=rfl
@[simp]theorem bind_bad{α β:Type}(f:α->gl β):(gl.bad:gl α).bind f=.bad:=rfl
def Y9{α:Type}:Option α->gl α|some a=>.ok a|none=>.bad
@[simp]theorem ofO_some{α:Type}(a:α):Y9 (some a)=.ok a:=rfl
@[simp]theorem ofO_none{α:Type}:Y9 (none:Option α)=.bad:=rfl
abbrev RV:=Bool×T
abbrev En:=List (Option RV)
abbrev ME:=En->gl RV
abbrev MT:=En->gl Bool
abbrev MA:=En->gl (List RV)
structure xN(F:Addr->Prop)(H:Hp)(F':Addr->Prop)(H':Hp):Prop where
 same:∀a o,H a=some o->H' a=some o
 sub:∀a,F a->F' a
 new:∀a,F' a->F a\/H a=none
 dom:∀a,F' a->H' a≠none
def dN(F:Addr->Prop)(H:Hp):Prop:=∀a,F a->H a≠none
section
variable{F F1 F2:Addr->Prop}{H H1 H2:Hp}
theorem xN.refl(d:dN F H):xN F H F H:=⟨λ_ _ h=>h,λ_ h=>h,λ_ h=>.inl h,d⟩
theorem jv(e:∀a o,H a=some o->H1 a=some o)(h:H1 a=none):H a=none:=by cases q:H a with|none=>rfl|some o=>rw[e a o q]at h;cases h
theorem xN.trans(e:xN F H F1 H1)(f:xN F1 H1 F2 H2):xN F H F2 H2:=⟨λa o h=>f.same a o (e.same a o h),λa h=>f.sub a (e.sub a h),λa h=>by
  rcases f.new a h with h|h;·exact e.new a h
  ·exact .inr (jv e.same h),f.dom⟩
theorem xN.kept(e:xN F H F1 H1):gk F F1 H H1:=⟨e.sub,λa o _ h=>e.same a o h,λa o h _ _=>e.same a o h⟩
theorem xN.alloc(d:dN F H)(hp:H p=none):xN F H F (jm H p o):=⟨λa u h=>by rw[zh (zC h hp)];exact h,λ_ h=>h,λ_ h=>.inl h,λa h=>by
  have:=d a h;by_cases e:a=p;·subst e;exact absurd hp this
  ·rw[zh e];exact this⟩
theorem xN.freeze(e:xN F H F1 H1)(hf:H a=none)(h1:H1 a≠none):xN F H (λb=>F1 b\/b=a) H1:=⟨e.same,λb h=>.inl (e.sub b h),λb h=>by
  rcases h with h|rfl;·exact e.new b h
  ·exact .inr hf,λb h=>by
  rcases h with h|rfl;·exact e.dom b h
  ·exact h1⟩
end
def vw(K:W.Frag)(F:Addr->Prop)(H:Hp)(a:Addr):T->Prop|.lst ts=>∃vs,H a=some (.lst vs)/\IsAll K F H ts vs|.dct ks ts=>∃kvs,H a=some (.dK kvs)/\kvs.map (·.1)=ks/\IsAll K F H ts (kvs.map (·.2))|.obj C fs ts=>∃dx fvs,H a=some (.ins C dx fvs)/\fvs.map (·.1)=fs/\IsAll K F H ts (fvs.map (·.2))|_=>False
def kL(K:W.Frag)(fr:Addr->Prop)(F:Addr->Prop)(H:Hp)(v:V)(r:RV):Prop:=if r.1=true then∃a,v=.ref a/\¬F a/\fr a/\vw K F H a r.2 else Is K F H r.2 v
def vw.mono{K:W.Frag}{F F':Addr->Prop}{H H':Hp}{a:Addr}{t:T}(k:gk F F' H H')(s:∀o,H a=some o->H' a=some o)(h:vw K F H a t):vw K F' H' a t:=by cases t with|lst ts=>obtain⟨vs,e,r⟩:=h;exact⟨vs,s _ e,r.mono k⟩|dct ks ts=>obtain⟨vs,e,d,r⟩:=h;exact⟨vs,s _ e,d,r.mono k⟩|obj C fs ts=>obtain⟨dx,vs,e,d,r⟩:=h;exact⟨dx,vs,s _ e,d,r.mono k⟩|_=>exact h.elim
def vw.there{K:W.Frag}{F:Addr->Prop}{H:Hp}{a:Addr}{t:T}(h:vw K F H a t):H a≠none:=by cases t with|lst ts=>obtain⟨vs,e,r⟩:=h;rw[e];intro z;cases z|dct ks ts=>obtain⟨vs,e,r⟩:=h;rw[e];intro z;cases z|obj C fs ts=>obtain⟨dx,vs,e,r⟩:=h;rw[e];intro z;cases z|_=>exact h.elim
def vw.is{K:W.Frag}{F F':Addr->Prop}{H:Hp}{a:Addr}{t:T}(h:vw K F H a t)(s:∀b,F b->F' b)(ha:F' a):Is K F' H t (.ref a):=by have k:gk F F' H H:=⟨s,λ_ _ _ h=>h,λ_ _ h _ _=>h⟩;cases t with|lst ts=>obtain⟨vs,e,r⟩:=h;unfold Is;exact⟨a,vs,rfl,.inl ⟨ha,e⟩,r.mono k⟩|dct ks ts=>obtain⟨vs,e,d,r⟩:=h;unfold Is;exact⟨a,vs,rfl,ha,.inl e,d,r.mono k⟩|obj C fs ts=>obtain⟨dx,vs,e,d,r⟩:=h;unfold Is;exact⟨a,dx,vs,rfl,ha,e,d,r.mono k⟩|_=>exact h.elim
def kL.is{K:W.Frag}{fr F:Addr->Prop}{H:Hp}{v:V}{t:T}(h:kL K fr F H v ↑P):Is K F H t v:=by simpa[kL]using h
def jD{K:W.Frag}{fr F:Addr->Prop}{H:Hp}{v:V}{t:T}(h:Is K F H t v):kL K fr F H v ↑P:=by simpa[kL]using h
def kL.frz{K:W.Frag}{F F1:Addr->Prop}{H H1:Hp}{v:V}{r:RV}(e:xN F H F1 H1)(h:kL K ↑aH F1 H1 v r):∃F2,xN F H F2 H1/\(∀a,F1 a->F2 a)/\Is K F2 H1 r.2 v:=by obtain⟨o,t⟩:=r;cases o with|false=>exact⟨F1,e,λ_ h=>h,h.is⟩|true=>
  have h:∃a,v=.ref a/\¬F1 a/\H a=none/\vw K F1 H1 a t:=by simpa[kL]using h
  obtain⟨a,rfl,nf,fr,o⟩:=h;exact⟨_,e.freeze fr o.there,λb h=>.inl h,o.is (λb h=>.inl h) (.inr rfl)⟩
def Qx(K:W.Frag)(F:Addr->Prop)(H:Hp)(ev:Value)(x:Ex):Prop:=False
structure ky(K:W.Frag)(F:Addr->Prop)(H:Hp)(σ:St)(env:En):Prop where
 dom:dN F H
 vals:∀(i:Nat)(r:RV),env[i]?=some (some r)->∃v,σ[i]?=some (some v)/\Is K F H r.2 v
def ky.mono{K:W.Frag}{F F':Addr->Prop}{H H':Hp}{σ:St}{env:En}(r:ky K F H σ env)(e:xN F H F' H'):ky K F' H' σ env:=⟨e.dom,λi t h=>let⟨v,h1,h2⟩:=r.vals i t h;⟨v,h1,h2.mono e.kept⟩⟩
def WE(X:Cx)(F:Addr->Prop)(H:Hp)(σ:St)(x:Ex):Prop:=∀ev F' H',xN F H F' H'->Qx X.K F' H' ev x->∀pins s',zu X pins σ H' s'->X.xe ev s'
def WE.mono(h:WE X F H σ x)(e:xN F H F1 H1):WE X F1 H1 σ x:=λev F' H' e' i pins s' I=>h ev F' H' (e.trans e') i pins s' I
def wq(X:Cx)(t:TE)(m:ME):Prop:=∀(F:Addr->Prop)(H:Hp)(σ:St)(env:En)(Q:VK),ky X.K F H σ env->m env≠.bad->(∀r,m env=.ok r->∀v F' H',xN F H F' H'->kL X.K ↑aH F' H' v r->Q v H')->(∀x,m env=.exc x->WE X F H σ x)->t σ H Q
def kN(X:Cx)(t:TT)(m:MT):Prop:=∀(F:Addr->Prop)(H:Hp)(σ:St)(env:En)(Q:Bool->Hp->Prop),ky X.K F H σ env->m env≠.bad->(∀b,m env=.ok b->∀F' H',xN F H F' H'->Q b H')->(∀x,m env=.exc x->WE X F H σ x)->t σ H Q
def wq.val(h:wq X t m)(R:ky X.K F H σ env)(nb:m env≠.bad)(ok:∀r,m env=.ok r->∀v F' H',xN F H F' H'->Is X.K F' H' r.2 v->Q v H')(ex:∀x,m env=.exc x->WE X F H σ x):t σ H Q:=h F H σ env Q R nb (λr e v F' H' x i=>let⟨F2,e2,_,i2⟩:=i.frz x;ok r e v F2 H' e2 i2) ex
def jK(X:Cx)(e:Expr)(m:ME):Prop:=∃t,PE X e t/\wq X t m
def o9(X:Cx)(e:Expr)(m:MT):Prop:=∃t,PT X e t/\kN X t m
def mC(t:T):ME:=λ_=>.ok ↑P
def mV(i:Nat):ME:=λenv=>match env[i]? with|some (some r)=>.ok (false,r.2)|_=>.bad
section
variable{X:Cx}{e a b c:Expr}{pos:Pos}{ma mb mc:ME}{ta tb tc:TE}
theorem l7(h:∀F H,Is X.K F H t v):wq X (tC v) (mC t):=by intro F H σ env Q R nb ok ex;exact ok _ rfl v F H (.refl R.dom) (jD (h F H))
theorem z7{i j}:jK X (.Constant (.int i) j pos) (mC (.int i)):=⟨_,UX,l7 λ_ _=>by unfold Is;rfl⟩
theorem bW{i j}:jK X (.Constant (.bool i) j pos) (mC (.bl i)):=⟨_,LF,l7 λ_ _=>by unfold Is;rfl⟩
theorem qM{j}:jK X (.Constant .none j pos) (mC .non):=⟨_,UY,l7 λ_ _=>by unfold Is;rfl⟩
theorem zo{i j}:jK X (.Constant (.str i) j pos) (mC (.str i)):=⟨_,UZ,l7 λ_ _=>by unfold Is;rfl⟩
theorem G6(i:Nat):wq X (k8 i) (mV i):=by intro F H σ env Q R nb ok ex;unfold mV at nb ok;cases h:env[i]? with|none=>rw[h]at nb;exact absurd rfl nb|some o=>cases o with|none=>rw[h]at nb;exact absurd rfl nb|some r=>rw[h]at ok;obtain⟨v,e,q⟩:=R.vals i r h;exact⟨v,e,ok _ rfl v F H (.refl R.dom) (jD q)⟩
theorem qv(i:Nat)(hN:X.N[i]?=some x:=by rfl)(hv:WB X.env.scope x:=by first|exact Or.inl rfl|exact Or.inr (Or.inl rfl)|exact Or.inr (Or.inr rfl))(hd:(x==↑t)=false:=by decide)(hcd:(x==("__classdict__":Str))=false:=by decide):jK X (.Name x pos) (mV i):=⟨_,gG hN hv hd hcd,G6 i⟩
def Ir(K:W.Frag)(r:R2)(f:T->T->Option RV):Prop:=∀(F:Addr->Prop)(H:Hp)(x y:V)(tx ty:T)(Q:VK)(rv:RV),dN F H->Is K F H tx x->Is K F H ty y->f tx ty=some rv->(∀v F' H',xN F H F' H'->kL K ↑aH F' H' v rv->Q v H')->r x y H Q
def m2(f:T->T->Option RV)(ma mb:ME):ME:=λenv=>(ma env).bind λx=>(mb env).bind λy=>Y9 (f x.2 y.2)
theorem bX(hr:Ir X.K r f)(ha:wq X ta ma)(hb:wq X tb mb):wq X (LU r ta tb) (m2 f ma mb):=by intro F H σ env Q R nb ok ex;unfold m2 at nb ok ex;refine ha.val R ↑d (λr1 e1 v1 F1 H1 x1 i1=>?_) λx z=>ex x ↑E;rw[e1]at nb ok ex;refine hb.val (R.mono x1) (λz=>by rw[bind_ok,z]at nb;exact nb rfl) (λr2 e2 v2 F2 H2 x2 i2=>?_) λx z=>(ex x (by rw[bind_ok,z];rfl)).mono x1;rw[bind_ok,e2,bind_ok]at nb ok;cases h:f r1.2 r2.2 with|none=>rw[h]at nb;exact absurd rfl nb|some rv=>
  rw[h]at ok;refine hr F2 H2 v1 v2 _ _ Q rv x2.dom (i1.mono x2.kept) i2 h λv F' H' x i=>ok rv rfl v F' H' ((x1.trans x2).trans x) ?_;unfold kL at i⊢;split;·rename_i ho;rw[if_pos ho]at i;obtain⟨a,e,nf,fr,o⟩:=i;exact⟨a,e,nf,jv (x1.trans x2).same fr,o⟩
  ·rename_i ho;rw[if_neg ho]at i;exact i
theorem Iu(ho:gF X (binaryOp op) r)(hr:Ir X.K r f)(ha:jK X a ma)(hb:jK X b mb):jK X (.BinOp a op b pos) (m2 f ma mb):=by obtain⟨ta,pa,sa⟩:=ha;obtain⟨tb,pb,sb⟩:=hb;exact⟨_,LV ho pa pb,bX hr sa sb⟩
theorem Vg(ho:gF X (compareOp op) r)(hr:Ir X.K r f)(ha:jK X a ma)(hb:jK X b mb)(hm:behindInMarks op b=false):jK X (.Compare a [op] [b] pos) (m2 f ma mb):=by obtain⟨ta,pa,sa⟩:=ha;obtain⟨tb,pb,sb⟩:=hb;exact⟨_,QK ho pa pb hm,bX hr sa sb⟩
def zX(m:ME):MT:=λenv=>(m env).bind λx=>match x.2 with|.bl b=>.ok b|_=>.bad
theorem oe(h:wq X t m):kN X (Ui t) (zX m):=by intro F H σ env Q R nb ok ex;unfold zX at nb ok ex;refine h.val R ↑d (λr1 e1 v1 F1 H1 x1 i1=>?_) λx z=>ex x ↑E;rw[e1,bind_ok]at nb ok;obtain⟨o,t⟩:=r1;cases t with|bl k=>unfold Is at i1;exact⟨k,i1,ok k rfl F1 H1 x1⟩|_=>exact absurd rfl nb
theorem kb(ho:gF X (compareOp op) r)(hr:Ir X.K r f)(ha:jK X a ma)(hb:jK X b mb)(hm:behindInMarks op b=false):o9 X (.Compare a [op] [b] pos) (zX (m2 f ma mb)):=by obtain⟨ta,pa,sa⟩:=ha;obtain⟨tb,pb,sb⟩:=hb;exact⟨_,QL ho pa pb hm,oe (bX hr sa sb)⟩
end
def ZS(t u:T):Option Bool:=match t with
 |.non=>match u with|.non=>some true|.bl _=>some false|.int _=>some false|.str _=>some false|.tup _=>some false|.lst _=>some false|_=>none
 |.bl a=>match u with|.non=>some false|.bl b=>some (a==b)|.int b=>some ((if a then 1 else 0)==b)|.str _=>some false|.tup _=>some false|.lst _=>some false|_=>none
 |.int a=>match u with|.non=>some false|.bl b=>some (a==(if b then 1 else 0))|.int b=>some (a==b)|.str _=>some false|.tup _=>some false|.lst _=>some false|_=>none
 |.str a=>match u with|.non=>some false|.bl _=>some false|.int _=>some false|.str b=>some (a==b)|.tup _=>some false|.lst _=>some false|_=>none
 |.tup _=>match u with|.non=>some false|.bl _=>some false|.int _=>some false|.str _=>some false|.lst _=>some false|_=>none
 |.lst _=>match u with|.non=>some false|.bl _=>some false|.int _=>some false|.str _=>some false|.tup _=>some false|_=>none
 |_=>none
def ZT(f:T->T->Option Bool):List T->List T->Option Bool|[],_=>some true|_::_,[]=>some true|t::ts,u::us=>match f t u with|none=>none|some a=>match ZT f ts us with|none=>none|some b=>some (a&&b)
def fk:Nat->T->T->Option Bool|0,t,u=>ZS t u|n+1,t,u=>match t,u with|.tup ts,.tup us=>(ZT (fk n) ts us).map λb=>b&&ts.length==us.length|.lst ts,.lst us=>if ts.length=us.length then ZT (fk n) ts us else some false|t,u=>ZS t u
def iK:∀{ts us:List T}{b:Bool},ZT f ts us=some b->∃e:Nat->Bool,(∀(j:Nat)(t u:T),ts[j]?=some t->us[j]?=some u->f t u=some (e j))/\(List.range (min ts.length us.length)).all e=b|[],us,b,h=>⟨λ_=>true,λj t u h1 _=>by simp at h1,by simp[ZT]at h;simp[h]⟩|t::ts,[],b,h=>⟨λ_=>true,λj t u _ h1=>by simp at h1,by simp[ZT]at h;simp[h]⟩|t::ts,u::us,b,h=>by rw[ZT]at h;cases h1:f t u with|none=>rw[h1]at h;cases h|some a=>rw[h1]at h;cases h2:ZT f ts us with|none=>rw[h2]at h;cases h|some c=>
    rw[h2]at h;simp only[Option.some.injEq]at h;obtain⟨e,he,hb⟩:=iK h2;refine⟨λj=>match j with|0=>a|j+1=>e j,λj t' u' g1 g2=>?_,?_⟩;·cases j with|zero=>simp at g1 g2;subst g1;subst g2;exact h1|succ j=>exact he j t' u' (by simpa using g1) (by simpa using g2)
    ·have:min (t::ts).length (u::us).length=min ts.length us.length+1:=by simp only[List.length_cons];omega
     rw[this,List.range_succ_eq_map,List.all_cons,List.all_map];show(a&&(List.range (min ts.length us.length)).all e)=b;rw[hb,h]
def og:∀{t:T}{b:Bool},ZS t t=some b->b=true:=by intro t b h;cases t<;>simp[ZS]at h<;>simp_all
def iL(hf:∀t b,f t t=some b->b=true):∀{ts:List T}{b:Bool},ZT f ts ts=some b->b=true|[],b,h=>by simp[ZT]at h;exact h|t::ts,b,h=>by rw[ZT]at h;cases h1:f t t with|none=>rw[h1]at h;cases h|some a=>rw[h1]at h;cases h2:ZT f ts ts with|none=>rw[h2]at h;cases h|some c=>rw[h2]at h;have:=hf t a h1;have:=iL hf h2;simp_all
def iM:∀{n:Nat}{t:T}{b:Bool},fk n t t=some b->b=true|0,t,b,h=>og h|n+1,t,b,h=>by cases t with|tup ts=>simp only[fk,Option.map_eq_some_iff]at h;obtain⟨c,h1,h2⟩:=h;have:=iL (λt b=>iM) h1;simp_all|lst ts=>simp only[fk,if_true]at h;exact iL (λt b=>iM) h|_=>exact og (by simpa[fk]using h)
section
variable{X:Cx}{pins:List ↑y}{σ:St}{H:Hp}{s:Shared}{F:Addr->Prop}
def DV:Value->V|.bool b=>.bl b|.int i _=>.int i|.str x _=>.str x|.bytes b _=>.byt b|.float b _=>.flt b|.ref a=>.ref a|.type n=>.ty n|_=>.non
theorem Ya(h:L2.RelV v u):DV u=v:=by cases v<;>first|(obtain⟨_,rfl⟩:=h;rfl)|(cases h;rfl)
theorem oh(h:L2.RelV v u)(h':L2.RelV v' u):v=v':=(Ya h).symm.trans (Ya h')
theorem iN:∀{vs vs':List V}{us:List Value},zL vs us->zL vs' us->vs=vs'|_,_,_,.nil,.nil=>rfl|_,_,_,.cons r t,.cons r' t'=>by rw[oh r r',iN t t']
theorem G7(I:zu X pins σ H s)(h:lw X.K H a vs)(h':lw X.K H a vs'):vs=vs':=by
 obtain⟨its,r,pl,hz⟩:=I.tuple h;obtain⟨its',r',pl',hz'⟩:=I.tuple h';obtain⟨o,e,c,n,d⟩:=pl;obtain⟨o',e',c',n',d'⟩:=pl';rw[e]at e';cases e';rw[d]at d';have:its=its':=by injection d' with d' _;simpa using d'
 subst this;exact iN r r'
theorem G8(I:zu X pins σ H s)(h:nO X.K H a vs)(h':nO X.K H a vs'):vs=vs':=by
 obtain⟨its,r,pl,hz⟩:=I.list h;obtain⟨its',r',pl',hz'⟩:=I.list h';obtain⟨o,e,c,n,d⟩:=pl.isList;obtain⟨o',e',c',n',d'⟩:=pl'.isList;rw[e]at e';cases e';rw[d]at d';have:its=its':=by injection d' with d' _;simpa using d'
 subst this;exact iN r r'
theorem oi(I:zu X pins σ H s)(h:nO X.K H a vs)(h':lw X.K H a vs'):False:=by obtain⟨its,r,pl,hz⟩:=I.list h;obtain⟨its',r',pl',hz'⟩:=I.tuple h';exact SeqAt.ne_of_list_tuple pl.isList pl' rfl
theorem kA(r:zL xs its)(h:j<its.toArray.size):∃x,xs[j]?=some x/\L2.RelV x its.toArray[j]:=by
 have hl:=r.length;have h':j<its.length:=by simpa using h
 have hx:j<xs.length:=by omega
 obtain⟨u,hu,q⟩:=r.get (i:=j) (x:=xs[j]) (by simp[hx]);refine⟨xs[j],by simp[hx],?_⟩;have:its[j]?=some its[j]:=by simp[h']
 rw[this]at hu;cases hu;simpa using q
theorem Vh(I:zu X pins σ H s)(hu:A.units<cLine)(h:ZS t u=some b)(it:Is X.K F H t x)(iu:Is X.K F H u y)(rx:L2.RelV x vx)(ry:L2.RelV y vy):SeqAt.RcAt A s vx vy b/\(SeqAt.EqAt A s vx vy b):=by
 cases t<;>try(simp only[ZS,reduceCtorEq]at h;done)
 all_goals(cases u<;>simp only[ZS,Option.some.injEq,reduceCtorEq]at h<;>unfold Is at it iu)
 case non.non=>subst it iu h;cases rx;cases ry;exact⟨SeqAt.RcAt.none_none,SeqAt.EqAt.same _⟩
 case non.bl=>subst it iu h;cases rx;cases ry;exact⟨SeqAt.RcAt.none_bool _,SeqAt.EqAt.none_bool _⟩
 case non.int=>subst it iu h;cases rx;obtain⟨t',rfl⟩:=ry;exact⟨SeqAt.RcAt.none_int _ _,SeqAt.EqAt.none_int _ _⟩
 case non.str=>subst it iu h;cases rx;obtain⟨t',rfl⟩:=ry;exact⟨SeqAt.RcAt.none_str _ _,SeqAt.EqAt.none_str _ _⟩
 case bl.non=>subst it iu h;cases rx;cases ry;exact⟨SeqAt.RcAt.bool_none _,SeqAt.EqAt.bool_none _⟩
 case bl.bl=>subst it iu h;cases rx;cases ry;exact⟨SeqAt.RcAt.bool_bool _ _,SeqAt.EqAt.bool_bool _ _⟩
 case bl.int=>subst it iu h;cases rx;obtain⟨t',rfl⟩:=ry;exact⟨SeqAt.RcAt.bool_int _ _ _,SeqAt.EqAt.bool_int _ _ _⟩
 case bl.str=>subst it iu h;cases rx;obtain⟨t',rfl⟩:=ry;exact⟨SeqAt.RcAt.bool_str _ _ _,SeqAt.EqAt.bool_str _ _ _⟩
 case int.non=>subst it iu h;obtain⟨t',rfl⟩:=rx;cases ry;exact⟨SeqAt.RcAt.int_none _ _,SeqAt.EqAt.int_none _ _⟩
 case int.bl=>subst it iu h;obtain⟨t',rfl⟩:=rx;cases ry;exact⟨SeqAt.RcAt.int_bool _ _ _,SeqAt.EqAt.int_bool _ _ _⟩
 case int.int=>subst it iu h;obtain⟨t',rfl⟩:=rx;obtain⟨t',rfl⟩:=ry;exact⟨SeqAt.RcAt.int_int _ _ _ _,SeqAt.EqAt.int_int _ _ _ _⟩
 case int.str=>subst it iu h;obtain⟨t',rfl⟩:=rx;obtain⟨t',rfl⟩:=ry;exact⟨SeqAt.RcAt.int_str _ _ _ _,SeqAt.EqAt.int_str _ _ _ _⟩
 case str.non=>subst it iu h;obtain⟨t',rfl⟩:=rx;cases ry;exact⟨SeqAt.RcAt.str_none _ _,SeqAt.EqAt.str_none _ _⟩
 case str.bl=>subst it iu h;obtain⟨t',rfl⟩:=rx;cases ry;exact⟨SeqAt.RcAt.str_bool _ _ _,SeqAt.EqAt.str_bool _ _ _⟩
 case str.int=>subst it iu h;obtain⟨t',rfl⟩:=rx;obtain⟨t',rfl⟩:=ry;exact⟨SeqAt.RcAt.str_int _ _ _ _,SeqAt.EqAt.str_int _ _ _ _⟩
 case str.str=>subst it iu h;obtain⟨t',rfl⟩:=rx;obtain⟨t',rfl⟩:=ry;exact⟨SeqAt.RcAt.str_str _ _ _ _,SeqAt.EqAt.str_str _ _ _ _⟩
 case tup.lst=>obtain⟨a,vs,rfl,h1,_⟩:=it;obtain⟨b,ws,rfl,h2,_⟩:=iu;subst h;cases rx;cases ry;obtain⟨_,_,p1,_⟩:=I.tuple h1;obtain⟨_,_,p2,_⟩:=I.list h2.sq;exact⟨SeqAt.RcAt.tuple_list p1 p2.isList hu,SeqAt.EqAt.tuple_list p1 p2.isList hu⟩
 case lst.tup=>obtain⟨a,vs,rfl,h1,_⟩:=it;obtain⟨b,ws,rfl,h2,_⟩:=iu;subst h;cases rx;cases ry;obtain⟨_,_,p1,_⟩:=I.list h1.sq;obtain⟨_,_,p2,_⟩:=I.tuple h2;exact⟨SeqAt.RcAt.list_tuple p1.isList p2 hu,SeqAt.EqAt.list_tuple p1.isList p2 hu⟩
 case tup.non=>obtain⟨a,vs,rfl,h1,_⟩:=it;subst iu h;cases rx;cases ry;obtain⟨_,_,p1,_⟩:=I.tuple h1;exact⟨SeqAt.RcAt.tuple_none p1 hu,SeqAt.EqAt.tuple_none p1 hu⟩
 case tup.bl=>obtain⟨a,vs,rfl,h1,_⟩:=it;subst iu h;cases rx;cases ry;obtain⟨_,_,p1,_⟩:=I.tuple h1;exact⟨SeqAt.RcAt.tuple_bool _ p1 hu,SeqAt.EqAt.tuple_bool _ p1 hu⟩
 case tup.int=>obtain⟨a,vs,rfl,h1,_⟩:=it;subst iu h;cases rx;obtain⟨t',rfl⟩:=ry;obtain⟨_,_,p1,_⟩:=I.tuple h1;exact⟨SeqAt.RcAt.tuple_int _ _ p1 hu,SeqAt.EqAt.tuple_int _ _ p1 hu⟩
 case tup.str=>obtain⟨a,vs,rfl,h1,_⟩:=it;subst iu h;cases rx;obtain⟨t',rfl⟩:=ry;obtain⟨_,_,p1,_⟩:=I.tuple h1;exact⟨SeqAt.RcAt.tuple_str _ _ p1 hu,SeqAt.EqAt.tuple_str _ _ p1 hu⟩
 case lst.non=>obtain⟨a,vs,rfl,h1,_⟩:=it;subst iu h;cases rx;cases ry;obtain⟨_,_,p1,_⟩:=I.list h1.sq;exact⟨SeqAt.RcAt.list_none p1.isList hu,SeqAt.EqAt.list_none p1.isList hu⟩
 case lst.bl=>obtain⟨a,vs,rfl,h1,_⟩:=it;subst iu h;cases rx;cases ry;obtain⟨_,_,p1,_⟩:=I.list h1.sq;exact⟨SeqAt.RcAt.list_bool _ p1.isList hu,SeqAt.EqAt.list_bool _ p1.isList hu⟩
 case lst.int=>obtain⟨a,vs,rfl,h1,_⟩:=it;subst iu h;cases rx;obtain⟨t',rfl⟩:=ry;obtain⟨_,_,p1,_⟩:=I.list h1.sq;exact⟨SeqAt.RcAt.list_int _ _ p1.isList hu,SeqAt.EqAt.list_int _ _ p1.isList hu⟩
 case lst.str=>obtain⟨a,vs,rfl,h1,_⟩:=it;subst iu h;cases rx;obtain⟨t',rfl⟩:=ry;obtain⟨_,_,p1,_⟩:=I.list h1.sq;exact⟨SeqAt.RcAt.list_str _ _ p1.isList hu,SeqAt.EqAt.list_str _ _ p1.isList hu⟩
 case non.tup=>obtain⟨a,vs,rfl,h1,_⟩:=iu;subst it h;cases rx;cases ry;obtain⟨_,_,p1,_⟩:=I.tuple h1;exact⟨SeqAt.RcAt.none_tuple p1 hu,SeqAt.EqAt.none_tuple p1 hu⟩
 case bl.tup=>obtain⟨a,vs,rfl,h1,_⟩:=iu;subst it h;cases rx;cases ry;obtain⟨_,_,p1,_⟩:=I.tuple h1;exact⟨SeqAt.RcAt.bool_tuple _ p1 hu,SeqAt.EqAt.bool_tuple _ p1 hu⟩
 case int.tup=>obtain⟨a,vs,rfl,h1,_⟩:=iu;subst it h;cases ry;obtain⟨t',rfl⟩:=rx;obtain⟨_,_,p1,_⟩:=I.tuple h1;exact⟨SeqAt.RcAt.int_tuple _ _ p1 hu,SeqAt.EqAt.int_tuple _ _ p1 hu⟩
 case str.tup=>obtain⟨a,vs,rfl,h1,_⟩:=iu;subst it h;cases ry;obtain⟨t',rfl⟩:=rx;obtain⟨_,_,p1,_⟩:=I.tuple h1;exact⟨SeqAt.RcAt.str_tuple _ _ p1 hu,SeqAt.EqAt.str_tuple _ _ p1 hu⟩
 case non.lst=>obtain⟨a,vs,rfl,h1,_⟩:=iu;subst it h;cases rx;cases ry;obtain⟨_,_,p1,_⟩:=I.list h1.sq;exact⟨SeqAt.RcAt.none_list p1.isList hu,SeqAt.EqAt.none_list p1.isList hu⟩
 case bl.lst=>obtain⟨a,vs,rfl,h1,_⟩:=iu;subst it h;cases rx;cases ry;obtain⟨_,_,p1,_⟩:=I.list h1.sq;exact⟨SeqAt.RcAt.bool_list _ p1.isList hu,SeqAt.EqAt.bool_list _ p1.isList hu⟩
 case int.lst=>obtain⟨a,vs,rfl,h1,_⟩:=iu;subst it h;cases ry;obtain⟨t',rfl⟩:=rx;obtain⟨_,_,p1,_⟩:=I.list h1.sq;exact⟨SeqAt.RcAt.int_list _ _ p1.isList hu,SeqAt.EqAt.int_list _ _ p1.isList hu⟩
 case str.lst=>obtain⟨a,vs,rfl,h1,_⟩:=iu;subst it h;cases ry;obtain⟨t',rfl⟩:=rx;obtain⟨_,_,p1,_⟩:=I.list h1.sq;exact⟨SeqAt.RcAt.str_list _ _ p1.isList hu,SeqAt.EqAt.str_list _ _ p1.isList hu⟩
def HH:Option HO->Nat|some (.dK _)=>4|some (.frz _ (.dK _))=>4|some (.ins _ _ _)=>5|some (.ext _)=>6|_=>0
def NP(H:Hp):V->Nat|.ref a=>HH (H a)|_=>9
def G9:T->Nat|.tup _=>0|.lst _=>0|.dct _ _=>4|.obj _ _ _=>5|.mem _ _=>6|_=>9
theorem ja(I:zu X pins σ H s)(h:Is X.K F H t v):NP H v=G9 t:=by
 have kin:∀{a:Addr}{o:Obj},X.K.lookup a=some o->NP H (.ref a)=0:=λh=>by show HH _=_;rw[(I.bs _ _ (I.ok.mod.kin _ _ h)).2];rfl
 have at_:∀{a:Addr}{o:HO}{n:Nat},H a=some o->HH (some o)=n->NP H (.ref a)=n:=λh e=>by show HH _=_;rw[h];exact e
 cases t<;>unfold Is at h;case tup ts=>
  obtain⟨a,vs,rfl,(h|⟨o,h⟩)|⟨o,its,n,h,_⟩,_⟩:=h;·exact at_ h rfl
  ·exact at_ h rfl
  ·exact kin h
 case lst ts=>
  obtain⟨a,vs,rfl,⟨_,h⟩|⟨o,h⟩|⟨o,its,n,h,_⟩,_⟩:=h;·exact at_ h rfl
  ·exact at_ h rfl
  ·exact kin h
 case dct ks ts=>obtain⟨a,kvs,rfl,_,h|⟨o,h⟩,_⟩:=h<;>exact at_ h rfl
 case obj C fs ts=>obtain⟨a,dx,kvs,rfl,_,h,_⟩:=h;exact at_ h rfl
 case mem m o=>obtain⟨rfl,h⟩:=h;exact at_ h rfl
 all_goals(rw[h];rfl)
theorem NQ(h:Rd H a (.dK x))(g:Rd H a (.dK y)):x=y:=by rcases h with h|⟨o,h⟩<;>rcases g with g|⟨o',g⟩<;>rw[h]at g<;>cases g<;>rfl
def EF:T->V|.bl b=>.bl b|.int i=>.int i|.str x=>.str x|.ty n=>.ty n|_=>.non
theorem pV(e:G9 t=9)(h:Is X.K F H t v):v=EF t:=by cases t<;>first|(unfold Is at h;exact h)|cases e
theorem iO(e:G9 t=9)(g:G9 u=9)(h:EF t=EF u):t=u:=by cases t<;>first|(cases e;done)|(cases u<;>first|(cases g;done)|(cases h;rfl)|(cases h;done))
mutual theorem Is.inj(I:zu X pins σ H s):∀{t u:T}{v:V},Is X.K F H t v->Is X.K F H u v->t=u
 |.tup ts,u,v,h,g=>by
  have hc:=(ja I h).symm.trans (ja I g);unfold Is at h;obtain⟨a,vs,rfl,h1,h2⟩:=h;cases u<;>first|(cases hc;done)|unfold Is at g
  case tup us=>obtain⟨b,ws,e,g1,g2⟩:=g;cases e;have:=G7 I h1 g1;subst this;rw[IsAll.inj I h2 g2]
  case lst us=>obtain⟨b,ws,e,g1,g2⟩:=g;cases e;exact(oi I g1.sq h1).elim|.lst ts,u,v,h,g=>by
  have hc:=(ja I h).symm.trans (ja I g);unfold Is at h;obtain⟨a,vs,rfl,h1,h2⟩:=h;cases u<;>first|(cases hc;done)|unfold Is at g
  case tup us=>obtain⟨b,ws,e,g1,g2⟩:=g;cases e;exact(oi I h1.sq g1).elim
  case lst us=>obtain⟨b,ws,e,g1,g2⟩:=g;cases e;have:=G8 I h1.sq g1.sq;subst this;rw[IsAll.inj I h2 g2]|.dct ks ts,u,v,h,g=>by
  have hc:=(ja I h).symm.trans (ja I g);unfold Is at h;obtain⟨a,vs,rfl,_,h1,h2,h3⟩:=h;cases u<;>first|(cases hc;done)|unfold Is at g
  obtain⟨b,ws,e,_,g1,g2,g3⟩:=g;cases e;cases NQ h1 g1;rw[IsAll.inj I h3 g3,<-h2,<-g2]|.obj C fs ts,u,v,h,g=>by
  have hc:=(ja I h).symm.trans (ja I g);unfold Is at h;obtain⟨a,dx,vs,rfl,_,h1,h2,h3⟩:=h;cases u<;>first|(cases hc;done)|unfold Is at g
  obtain⟨b,dx',ws,e,_,g1,g2,g3⟩:=g;cases e;rw[h1]at g1;cases g1;rw[IsAll.inj I h3 g3,<-h2,<-g2]|.mem m o,u,v,h,g=>by
  have hc:=(ja I h).symm.trans (ja I g);unfold Is at h;obtain⟨rfl,h1⟩:=h;cases u<;>first|(cases hc;done)|unfold Is at g
  obtain⟨e,g1⟩:=g;cases e;rw[h1]at g1;cases g1;rfl|.non,u,v,h,g=>iO rfl ↑ao ((pV rfl h).symm.trans (pV ↑ao g))|.bl b,u,v,h,g=>iO rfl ↑ao ((pV rfl h).symm.trans (pV ↑ao g))|.int i,u,v,h,g=>iO rfl ↑ao ((pV rfl h).symm.trans (pV ↑ao g))|.str x,u,v,h,g=>iO rfl ↑ao ((pV rfl h).symm.trans (pV ↑ao g))|.ty n,u,v,h,g=>iO rfl ↑ao ((pV rfl h).symm.trans (pV ↑ao g))theorem IsAll.inj(I:zu X pins σ H s):∀{ts us:List T}{vs:List V},IsAll X.K F H ts vs->IsAll X.K F H us vs->ts=us
 |[],us,vs,h,g=>by unfold IsAll at h;subst h;cases us with|nil=>rfl|cons u us=>unfold IsAll at g;obtain⟨_,_,e,_⟩:=g;cases e
 |t::ts,us,vs,h,g=>by unfold IsAll at h;obtain⟨v,r,rfl,h1,h2⟩:=h;cases us with|nil=>unfold IsAll at g;cases g|cons u us=>unfold IsAll at g;obtain⟨_,_,e,g1,g2⟩:=g;cases e;rw[Is.inj I h1 g1,IsAll.inj I h2 g2]end
def nX(I:zu X pins σ H s):∀{n:Nat}{t u:T}{x y:V}{vx vy:Value}{b:Bool}{A:Around},A.units+n<cLine->fk n t u=some b->Is X.K F H t x->Is X.K F H u y->L2.RelV x vx->L2.RelV y vy->SeqAt.RcAt A s vx vy b/\SeqAt.EqAt A s vx vy b
 |0,t,u,x,y,vx,vy,b,A,hu,h,it,iu,rx,ry=>Vh I ↑a h it iu rx ry|n+1,t,u,x,y,vx,vy,b,A,hu,h,it,iu,rx,ry=>by
  have two:∀{a c:Addr}{k:Bool},x=.ref a->y=.ref c->(a=c->k=true)->SeqAt.RcAt A s (.ref a) (.ref c) k->SeqAt.RcAt A s (.ref a) (.ref c) k/\SeqAt.EqAt A s (.ref a) (.ref c) k:=by
   intro a c k _ _ hk r;refine⟨r,?_⟩;by_cases e:a=c;·rw[hk e,e];exact SeqAt.EqAt.same _
   ·exact .of_refs e r
  have same:x=y->b=true:=λe=>by subst e;have:=it.inj I iu;subst this;exact iM h
  cases t<;>cases u<;>try(exact Vh I ↑a (by simpa[fk]using h) it iu rx ry)
  case tup.tup ts us=>
   simp only[fk,Option.map_eq_some_iff]at h;obtain⟨c,h1,h2⟩:=h;unfold Is at it iu;obtain⟨a,vs,rfl,g1,g2⟩:=it;obtain⟨d,ws,rfl,g3,g4⟩:=iu;cases rx;cases ry;obtain⟨its,r1,p1,_⟩:=I.tuple g1;obtain⟨its',r2,p2,_⟩:=I.tuple g3;obtain⟨e,he,hb⟩:=iK h1;refine two rfl rfl (λz=>same (by rw[z])) ?_;have l1:=g2.len;have l2:=g4.len;have l3:=r1.length;have l4:=r2.length;have:=SeqAt.RcAt.tuples (A:=A) p1 p2 ↑a λj j1 j2=>by
    obtain⟨v1,hv1,q1⟩:=kA r1 j1;obtain⟨v2,hv2,q2⟩:=kA r2 j2;have j1':j<its.length:=by simpa using j1
    have j2':j<its'.length:=by simpa using j2
    have hj1:j<ts.length:=by omega
    have hj2:j<us.length:=by omega
    obtain⟨w1,hw1,i1⟩:=g2.get (i:=j) (t:=ts[j]) (by simp[hj1]);obtain⟨w2,hw2,i2⟩:=g4.get (i:=j) (t:=us[j]) (by simp[hj2]);rw[hv1]at hw1;cases hw1;rw[hv2]at hw2;cases hw2;exact(nX I (by rw[Around.in1_units];omega) (he j ts[j] us[j] (by simp[hj1]) (by simp[hj2])) i1 i2 q1 q2).2
   have e1:its.toArray.size=ts.length:=by simp;omega
   have e2:its'.toArray.size=us.length:=by simp;omega
   rw[e1,e2,hb]at this;rw[<-h2];exact this
  case lst.lst ts us=>
   simp only[fk]at h;unfold Is at it iu;obtain⟨a,vs,rfl,g1,g2⟩:=it;obtain⟨d,ws,rfl,g3,g4⟩:=iu;cases rx;cases ry;obtain⟨its,r1,p1,_⟩:=I.list g1.sq;obtain⟨its',r2,p2,_⟩:=I.list g3.sq;refine two rfl rfl (λz=>same (by rw[z])) ?_;have l1:=g2.len;have l2:=g4.len;have l3:=r1.length;have l4:=r2.length;have e1:its.toArray.size=ts.length:=by simp;omega
   have e2:its'.toArray.size=us.length:=by simp;omega
   by_cases hl:ts.length=us.length
   ·rw[if_pos hl]at h;obtain⟨e,he,hb⟩:=iK h;have:=SeqAt.RcAt.lists (A:=A) p1.isList p2.isList ↑a ↑a λj j1 j2=>by
     obtain⟨v1,hv1,q1⟩:=kA r1 j1;obtain⟨v2,hv2,q2⟩:=kA r2 j2;have j1':j<its.length:=by simpa using j1
     have j2':j<its'.length:=by simpa using j2
     have hj1:j<ts.length:=by omega
     have hj2:j<us.length:=by omega
     obtain⟨w1,hw1,i1⟩:=g2.get (i:=j) (t:=ts[j]) (by simp[hj1]);obtain⟨w2,hw2,i2⟩:=g4.get (i:=j) (t:=us[j]) (by simp[hj2]);rw[hv1]at hw1;cases hw1;rw[hv2]at hw2;cases hw2;exact(nX I (A:=A.in1) (by rw[Around.in1_units];omega) (he j ts[j] us[j] (by simp[hj1]) (by simp[hj2])) i1 i2 q1 q2).2
    rw[e1]at this;have e3:min ts.length us.length=ts.length:=by omega
    rw[e3]at hb;rw[hb]at this;exact this
   ·rw[if_neg hl]at h;cases h;exact SeqAt.RcAt.lists_lengths p1.isList p2.isList (by rw[e1,e2];simpa using hl) ↑a
def Vi(I:zu X pins σ H s)(hu:A.units<cLine)(h:ZS t u=some b)(it:Is X.K F H t x)(iu:Is X.K F H u y)(rx:L2.RelV x vx)(ry:L2.RelV y vy):SeqAt.RcNeAt A s vx vy (!b):=by
 cases t<;>try(simp only[ZS,reduceCtorEq]at h;done)
 all_goals(cases u<;>simp only[ZS,Option.some.injEq,reduceCtorEq]at h<;>unfold Is at it iu)
 case non.non=>subst it iu h;cases rx;cases ry;exact(SeqAt.RcNeAt.none_none)
 case non.bl=>subst it iu h;cases rx;cases ry;exact(SeqAt.RcNeAt.none_bool _)
 case non.int=>subst it iu h;cases rx;obtain⟨t',rfl⟩:=ry;exact(SeqAt.RcNeAt.none_int _ _)
 case non.str=>subst it iu h;cases rx;obtain⟨t',rfl⟩:=ry;exact(SeqAt.RcNeAt.none_str _ _)
 case bl.non=>subst it iu h;cases rx;cases ry;exact(SeqAt.RcNeAt.bool_none _)
 case bl.bl=>subst it iu h;cases rx;cases ry;exact(SeqAt.RcNeAt.bool_bool _ _)
 case bl.int=>subst it iu h;cases rx;obtain⟨t',rfl⟩:=ry;exact(SeqAt.RcNeAt.bool_int _ _ _)
 case bl.str=>subst it iu h;cases rx;obtain⟨t',rfl⟩:=ry;exact(SeqAt.RcNeAt.bool_str _ _ _)
 case int.non=>subst it iu h;obtain⟨t',rfl⟩:=rx;cases ry;exact(SeqAt.RcNeAt.int_none _ _)
 case int.bl=>subst it iu h;obtain⟨t',rfl⟩:=rx;cases ry;exact(SeqAt.RcNeAt.int_bool _ _ _)
 case int.int=>subst it iu h;obtain⟨t',rfl⟩:=rx;obtain⟨t',rfl⟩:=ry;exact(SeqAt.RcNeAt.int_int _ _ _ _)
 case int.str=>subst it iu h;obtain⟨t',rfl⟩:=rx;obtain⟨t',rfl⟩:=ry;exact(SeqAt.RcNeAt.int_str _ _ _ _)
 case str.non=>subst it iu h;obtain⟨t',rfl⟩:=rx;cases ry;exact(SeqAt.RcNeAt.str_none _ _)
 case str.bl=>subst it iu h;obtain⟨t',rfl⟩:=rx;cases ry;exact(SeqAt.RcNeAt.str_bool _ _ _)
 case str.int=>subst it iu h;obtain⟨t',rfl⟩:=rx;obtain⟨t',rfl⟩:=ry;exact(SeqAt.RcNeAt.str_int _ _ _ _)
 case str.str=>subst it iu h;obtain⟨t',rfl⟩:=rx;obtain⟨t',rfl⟩:=ry;exact(SeqAt.RcNeAt.str_str _ _ _ _)
 case tup.lst=>obtain⟨a,vs,rfl,h1,_⟩:=it;obtain⟨b,ws,rfl,h2,_⟩:=iu;subst h;cases rx;cases ry;obtain⟨_,_,p1,_⟩:=I.tuple h1;obtain⟨_,_,p2,_⟩:=I.list h2.sq;exact(SeqAt.RcNeAt.tuple_list p1 p2.isList hu)
 case lst.tup=>obtain⟨a,vs,rfl,h1,_⟩:=it;obtain⟨b,ws,rfl,h2,_⟩:=iu;subst h;cases rx;cases ry;obtain⟨_,_,p1,_⟩:=I.list h1.sq;obtain⟨_,_,p2,_⟩:=I.tuple h2;exact(SeqAt.RcNeAt.list_tuple p1.isList p2 hu)
 case tup.non=>obtain⟨a,vs,rfl,h1,_⟩:=it;subst iu h;cases rx;cases ry;obtain⟨_,_,p1,_⟩:=I.tuple h1;exact(SeqAt.RcNeAt.tuple_none p1 hu)
 case tup.bl=>obtain⟨a,vs,rfl,h1,_⟩:=it;subst iu h;cases rx;cases ry;obtain⟨_,_,p1,_⟩:=I.tuple h1;exact(SeqAt.RcNeAt.tuple_bool _ p1 hu)
 case tup.int=>obtain⟨a,vs,rfl,h1,_⟩:=it;subst iu h;cases rx;obtain⟨t',rfl⟩:=ry;obtain⟨_,_,p1,_⟩:=I.tuple h1;exact(SeqAt.RcNeAt.tuple_int _ _ p1 hu)
 case tup.str=>obtain⟨a,vs,rfl,h1,_⟩:=it;subst iu h;cases rx;obtain⟨t',rfl⟩:=ry;obtain⟨_,_,p1,_⟩:=I.tuple h1;exact(SeqAt.RcNeAt.tuple_str _ _ p1 hu)
 case lst.non=>obtain⟨a,vs,rfl,h1,_⟩:=it;subst iu h;cases rx;cases ry;obtain⟨_,_,p1,_⟩:=I.list h1.sq;exact(SeqAt.RcNeAt.list_none p1.isList hu)
 case lst.bl=>obtain⟨a,vs,rfl,h1,_⟩:=it;subst iu h;cases rx;cases ry;obtain⟨_,_,p1,_⟩:=I.list h1.sq;exact(SeqAt.RcNeAt.list_bool _ p1.isList hu)
 case lst.int=>obtain⟨a,vs,rfl,h1,_⟩:=it;subst iu h;cases rx;obtain⟨t',rfl⟩:=ry;obtain⟨_,_,p1,_⟩:=I.list h1.sq;exact(SeqAt.RcNeAt.list_int _ _ p1.isList hu)
 case lst.str=>obtain⟨a,vs,rfl,h1,_⟩:=it;subst iu h;cases rx;obtain⟨t',rfl⟩:=ry;obtain⟨_,_,p1,_⟩:=I.list h1.sq;exact(SeqAt.RcNeAt.list_str _ _ p1.isList hu)
 case non.tup=>obtain⟨a,vs,rfl,h1,_⟩:=iu;subst it h;cases rx;cases ry;obtain⟨_,_,p1,_⟩:=I.tuple h1;exact(SeqAt.RcNeAt.none_tuple p1 hu)
 case bl.tup=>obtain⟨a,vs,rfl,h1,_⟩:=iu;subst it h;cases rx;cases ry;obtain⟨_,_,p1,_⟩:=I.tuple h1;exact(SeqAt.RcNeAt.bool_tuple _ p1 hu)
 case int.tup=>obtain⟨a,vs,rfl,h1,_⟩:=iu;subst it h;cases ry;obtain⟨t',rfl⟩:=rx;obtain⟨_,_,p1,_⟩:=I.tuple h1;exact(SeqAt.RcNeAt.int_tuple _ _ p1 hu)
 case str.tup=>obtain⟨a,vs,rfl,h1,_⟩:=iu;subst it h;cases ry;obtain⟨t',rfl⟩:=rx;obtain⟨_,_,p1,_⟩:=I.tuple h1;exact(SeqAt.RcNeAt.str_tuple _ _ p1 hu)
 case non.lst=>obtain⟨a,vs,rfl,h1,_⟩:=iu;subst it h;cases rx;cases ry;obtain⟨_,_,p1,_⟩:=I.list h1.sq;exact(SeqAt.RcNeAt.none_list p1.isList hu)
 case bl.lst=>obtain⟨a,vs,rfl,h1,_⟩:=iu;subst it h;cases rx;cases ry;obtain⟨_,_,p1,_⟩:=I.list h1.sq;exact(SeqAt.RcNeAt.bool_list _ p1.isList hu)
 case int.lst=>obtain⟨a,vs,rfl,h1,_⟩:=iu;subst it h;cases ry;obtain⟨t',rfl⟩:=rx;obtain⟨_,_,p1,_⟩:=I.list h1.sq;exact(SeqAt.RcNeAt.int_list _ _ p1.isList hu)
 case str.lst=>obtain⟨a,vs,rfl,h1,_⟩:=iu;subst it h;cases ry;obtain⟨t',rfl⟩:=rx;obtain⟨_,_,p1,_⟩:=I.list h1.sq;exact(SeqAt.RcNeAt.str_list _ _ p1.isList hu)
def NR(I:zu X pins σ H s):∀{n:Nat}{t u:T}{x y:V}{vx vy:Value}{b:Bool}{A:Around},A.units+n<cLine->fk n t u=some b->Is X.K F H t x->Is X.K F H u y->L2.RelV x vx->L2.RelV y vy->SeqAt.RcNeAt A s vx vy (!b)
 |0,t,u,x,y,vx,vy,b,A,hu,h,it,iu,rx,ry=>Vi I ↑a h it iu rx ry|n+1,t,u,x,y,vx,vy,b,A,hu,h,it,iu,rx,ry=>by
  cases t<;>cases u<;>try(exact Vi I ↑a (by simpa[fk]using h) it iu rx ry)
  case tup.tup ts us=>
   simp only[fk,Option.map_eq_some_iff]at h;obtain⟨c,h1,h2⟩:=h;unfold Is at it iu;obtain⟨a,vs,rfl,g1,g2⟩:=it;obtain⟨d,ws,rfl,g3,g4⟩:=iu;cases rx;cases ry;obtain⟨its,r1,p1,_⟩:=I.tuple g1;obtain⟨its',r2,p2,_⟩:=I.tuple g3;obtain⟨e,he,hb⟩:=iK h1;have l1:=g2.len;have l2:=g4.len;have l3:=r1.length;have l4:=r2.length;have:=SeqAt.RcNeAt.tuples (A:=A) (e:=e) p1 p2 ↑a λj j1 j2=>by
    obtain⟨v1,hv1,q1⟩:=kA r1 j1;obtain⟨v2,hv2,q2⟩:=kA r2 j2;have j1':j<its.length:=by simpa using j1
    have j2':j<its'.length:=by simpa using j2
    have hj1:j<ts.length:=by omega
    have hj2:j<us.length:=by omega
    obtain⟨w1,hw1,i1⟩:=g2.get (i:=j) (t:=ts[j]) (by simp[hj1]);obtain⟨w2,hw2,i2⟩:=g4.get (i:=j) (t:=us[j]) (by simp[hj2]);rw[hv1]at hw1;cases hw1;rw[hv2]at hw2;cases hw2;exact(nX I (A:=A.in1) (by rw[Around.in1_units];omega) (he j ts[j] us[j] (by simp[hj1]) (by simp[hj2])) i1 i2 q1 q2).2
   have e1:its.toArray.size=ts.length:=by simp;omega
   have e2:its'.toArray.size=us.length:=by simp;omega
   rw[e1,e2,hb]at this;rw[<-h2];exact this
  case lst.lst ts us=>
   simp only[fk]at h;unfold Is at it iu;obtain⟨a,vs,rfl,g1,g2⟩:=it;obtain⟨d,ws,rfl,g3,g4⟩:=iu;cases rx;cases ry;obtain⟨its,r1,p1,_⟩:=I.list g1.sq;obtain⟨its',r2,p2,_⟩:=I.list g3.sq;have l1:=g2.len;have l2:=g4.len;have l3:=r1.length;have l4:=r2.length;have e1:its.toArray.size=ts.length:=by simp;omega
   have e2:its'.toArray.size=us.length:=by simp;omega
   by_cases hl:ts.length=us.length
   ·rw[if_pos hl]at h;obtain⟨e,he,hb⟩:=iK h;have:=SeqAt.RcNeAt.lists (A:=A) (e:=e) p1.isList p2.isList ↑a ↑a λj j1 j2=>by
     obtain⟨v1,hv1,q1⟩:=kA r1 j1;obtain⟨v2,hv2,q2⟩:=kA r2 j2;have j1':j<its.length:=by simpa using j1
     have j2':j<its'.length:=by simpa using j2
     have hj1:j<ts.length:=by omega
     have hj2:j<us.length:=by omega
     obtain⟨w1,hw1,i1⟩:=g2.get (i:=j) (t:=ts[j]) (by simp[hj1]);obtain⟨w2,hw2,i2⟩:=g4.get (i:=j) (t:=us[j]) (by simp[hj2]);rw[hv1]at hw1;cases hw1;rw[hv2]at hw2;cases hw2;exact(nX I (A:=A.in1) (by rw[Around.in1_units];omega) (he j ts[j] us[j] (by simp[hj1]) (by simp[hj2])) i1 i2 q1 q2).2
    rw[e1]at this;have e3:min ts.length us.length=ts.length:=by omega
    rw[e3]at hb;rw[hb]at this;exact this
   ·rw[if_neg hl]at h;cases h;exact SeqAt.RcNeAt.lists_lengths p1.isList p2.isList (by rw[e1,e2];simpa using hl) ↑a
end
def rT(K:W.Frag)(f:T->T->Option RV):R2:=λx y H Q=>∃F tx ty rv,dN F H/\Is K F H tx x/\Is K F H ty y/\f tx ty=some rv/\∀v F' H',xN F H F' H'->kL K ↑aH F' H' v rv->Q v H'
def xD{K:W.Frag}{f:T->T->Option RV}:Ir K (rT K f) f:=λF H x y tx ty Q rv d ix iy e q=>⟨F,tx,ty,rv,d,ix,iy,e,q⟩
def t8(K:W.Frag)(f:List T->Option RV):List V->Hp->VK->Prop:=λvs H Q=>∃F ts rv,dN F H/\IsAll K F H ts vs/\f ts=some rv/\∀v F' H',xN F H F' H'->kL K ↑aH F' H' v rv->Q v H'
def bY{K:W.Frag}{Q:VK}{ts:List T}{vs:List V}{p:Addr}(d:dN F H)(i:IsAll K F H ts vs)(hp:H p=none)(q:∀v F' H',xN F H F' H'->kL K ↑aH F' H' v (true,.lst ts)->Q v H'):Q (.ref p) (jm H p (.lst vs)):=by have x:=xN.alloc d (o:=.lst vs) hp;refine q _ F _ x ?_;unfold kL;rw[if_pos rfl];exact⟨p,rfl,λf=>d p f hp,hp,vs,zF,i.mono x.kept⟩
def Ga{K:W.Frag}{Q:VK}{ts:List T}{vs:List V}{p:Addr}(d:dN F H)(i:IsAll K F H ts vs)(hp:H p=none)(q:∀v F' H',xN F H F' H'->kL K ↑aH F' H' v (false,.tup ts)->Q v H'):Q (.ref p) (jm H p (.tup vs)):=by have x:=xN.alloc d (o:=.tup vs) hp;refine q _ F _ x (jD ?_);unfold Is;exact⟨p,vs,rfl,.inl (.inl zF),i.mono x.kept⟩
def xE{K:W.Frag}{Q:VK}{t:T}{v:V}{rv:RV}(d:dN F H)(i:Is K F H t v)(q:∀v F' H',xN F H F' H'->kL K ↑aH F' H' v rv->Q v H')(e:rv=↑P):Q v H:=by subst e;exact q v F H (.refl d) (jD i)
def xm{K:W.Frag}{i:Int}:Is K F H (.int i) (.int i):=by unfold Is;rfl
def jZ{K:W.Frag}{i:Bool}:Is K F H (.bl i) (.bl i):=by unfold Is;rfl
def kO{K:W.Frag}{i:Str}:Is K F H (.str i) (.str i):=by unfold Is;rfl
def NS{K:W.Frag}:Is K F H .non .non:=by unfold Is;rfl
def zg(t u:T):Option RV:=match t with
 |.int i=>match u with|.int j=>some (false,.int (i+j))|_=>none
 |.str x=>match u with|.str y=>if x.length+y.length<=sizeLine then some (false,.str (x++y))else none|_=>none
 |.lst ts=>match u with|.lst us=>if ts.length+us.length<=sizeLine then some (true,.lst (ts++us))else none|_=>none
 |.tup ts=>match u with|.tup us=>if ts.length+us.length<=sizeLine then some (false,.tup (ts++us))else none|_=>none
 |_=>none
def iP(t u:T):Option RV:=match t with
 |.int i=>match u with|.int j=>some (false,.int (i-j))|_=>none
 |_=>none
instance(i j:Int):Decidable (dP i j):=by unfold dP;infer_instance
instance(i j:Int):Decidable (gg i j):=by unfold gg;infer_instance
def kP(t u:T):Option RV:=match t with
 |.int i=>match u with|.int j=>if dP i j then some (false,.int (i*j))else none|_=>none
 |.str x=>match u with|.int n=>if-(2^63)<=n/\n<=16777216/\x.length*n.toNat<=16777216 then some (false,.str (Txt.mul x n))else none|_=>none
 |_=>none
def j7(t u:T):Option RV:=match t with
 |.int i=>match u with|.int j=>if gg i j then some (false,.int (i/j))else none|_=>none
 |_=>none
def zY(t u:T):Option RV:=match t with
 |.int i=>match u with|.int j=>if 0<j then some (false,.int (i%j))else none|_=>none
 |_=>none
def Vj{prog:Program}{w:World}{A:Around}{E:Value->Shared->Prop}{s:Shared}{t b:Addr}{vs ws:List Value}{Q:Value->Shared->Prop}(ht:IsTup s.heap t vs.toArray)(hb:IsTup s.heap b ws.toArray)(hv:vs=[])(h1:Q (.ref b) s):wpAny ↑n A (binaryOp .Add (.ref t) (.ref b)) Q E s:=by obtain⟨⟨cls,dd,data,sl⟩,ho,hc,n,hd⟩:=id ht;obtain⟨⟨cls2,dd2,data2,sl2⟩,ho2,hc2,n2,hd2⟩:=id hb;simp only at hc hd hc2 hd2;subst hc hd hc2 hd2;exact concat_meets ⟨_,ho,rfl⟩ ⟨_,ho2,rfl⟩ noFill_tuple_add seq_tuple_add PySem.F.slot_tuple_add PySem.F.entry_tuple_add (PySem.F.args_tuple_add_2 _ _) (tuple_addW0 t b vs.toArray ws.toArray n n2 dd dd2 sl sl2 (by simp[hv])) ⟨ho,ho2,h1⟩
def Vk(hl:s.heap.IsList l xs)(hb:s.heap.IsList b ys)(hsz:xs.size+ys.size<=sizeLine)(h:Q ↑ak {s with heap:=s.heap.push {cls:=.type "list",data:=.seq (xs++ys)}}):wpAny ↑n A (binaryOp .Add (.ref l) (.ref b)) Q E s:=by obtain⟨⟨cls,dd,data,sl⟩,ho,hc,n,hd⟩:=id hl;obtain⟨⟨cls2,dd2,data2,sl2⟩,ho2,hc2,n2,hd2⟩:=id hb;simp only at hc hd hc2 hd2;subst hc hd hc2 hd2;exact concat_meets ⟨_,ho,rfl⟩ ⟨_,ho2,rfl⟩ noFill_list_add seq_list_add PySem.F.slot_list_add PySem.F.entry_list_add (PySem.F.args_list_add_2 _ _) (list_addW l b xs ys n n2 dd dd2 sl sl2 hsz) ⟨ho,ho2,h⟩
def zB:gF X (binaryOp .Add) (rT X.K zg):=by
 intro pins s σ H x y v u Q I rx ry h;obtain⟨F,tx,ty,rv,d,ix,iy,e,q⟩:=h;cases tx<;>try(simp only[zg,reduceCtorEq]at e;done)
 all_goals(cases ty<;>simp only[zg,reduceCtorEq]at e)
 case int.int i j=>unfold Is at ix iy;subst ix iy;cases e;exact No pins s σ H _ _ v u Q I rx ry ⟨i,j,rfl,rfl,xE d xm q rfl⟩
 case str.str i j=>unfold Is at ix iy;subst ix iy;split at e<;>cases e;rename_i hl;exact ZB pins s σ H _ _ v u Q I rx ry ⟨i,j,rfl,rfl,hl,xE d kO q rfl⟩
 case lst.lst ts us=>
  split at e<;>cases e;rename_i hl;unfold Is at ix iy;obtain⟨l,vs,rfl,g1,g2⟩:=ix;obtain⟨b,ws,rfl,g3,g4⟩:=iy;cases rx;cases ry;obtain⟨its,r,p1,z⟩:=I.list g1.sq;obtain⟨its2,r2,p2,z2⟩:=I.list g3.sq;have l1:=g2.len;have l2:=g4.len;have l3:=r.length;have l4:=r2.length;have ea:its.toArray++its2.toArray=(its++its2).toArray:=by simp
  refine Vk p1.isList p2.isList (by rw[List.size_toArray,List.size_toArray];omega) ?_;rw[ea];exact⟨.ref _,_,I.lnew (r.append r2) (by rw[List.length_append];omega),rfl,bY d (g2.append g4) I.fresh q⟩
 case tup.tup ts us=>
  split at e<;>cases e;rename_i hl;have ix':=ix;have iy':=iy;unfold Is at ix iy;obtain⟨l,vs,rfl,g1,g2⟩:=ix;obtain⟨b,ws,rfl,g3,g4⟩:=iy;have l1:=g2.len;have l2:=g4.len;by_cases hv:vs=[];·subst hv;cases rx;cases ry;obtain⟨its,r1,p1,_⟩:=I.tuple g1;obtain⟨its2,r2,p2,_⟩:=I.tuple g3;refine Vj p1 p2 (r1.nil_iff.mpr rfl) ⟨.ref b,H,I,rfl,?_⟩;have:ts=[]:=List.eq_nil_of_length_eq_zero (by rw[l1];rfl);subst this;exact xE d iy' q rfl
  ·refine QU pins s σ H _ _ v u Q I rx ry ⟨l,b,vs,ws,rfl,rfl,g1,g3,hv,by omega,λz=>?_,λz p hp=>Ga d (g2.append g4) hp q⟩;subst z;have:us=[]:=List.eq_nil_of_length_eq_zero (by rw[l2];rfl);subst this;exact xE d ix' q (by rw[List.append_nil])
def Vl:gF X (binaryOp .Sub) (rT X.K iP):=by
 intro pins s σ H x y v u Q I rx ry h;obtain⟨F,tx,ty,rv,d,ix,iy,e,q⟩:=h;cases tx<;>try(simp only[iP,reduceCtorEq]at e;done)
 all_goals(cases ty<;>simp only[iP,reduceCtorEq]at e)
 case int.int i j=>unfold Is at ix iy;subst ix iy;cases e;exact Np pins s σ H _ _ v u Q I rx ry ⟨i,j,rfl,rfl,xE d xm q rfl⟩
def oj:gF X (binaryOp .Mult) (rT X.K kP):=by
 intro pins s σ H x y v u Q I rx ry h;obtain⟨F,tx,ty,rv,d,ix,iy,e,q⟩:=h;cases tx<;>try(simp only[kP,reduceCtorEq]at e;done)
 all_goals(cases ty<;>simp only[kP,reduceCtorEq]at e)
 case int.int i j=>unfold Is at ix iy;subst ix iy;split at e<;>cases e;rename_i hc;exact Nq pins s σ H _ _ v u Q I rx ry ⟨i,j,rfl,rfl,hc,xE d xm q rfl⟩
 case str.int i j=>unfold Is at ix iy;subst ix iy;split at e<;>cases e;rename_i hc;obtain⟨t,rfl⟩:=rx;obtain⟨t',rfl⟩:=ry;refine SB.mul (mulOk_of i.length j.toNat ↑e ↑a hc.1 ↑a hc.2.2) λt' k=>⟨.str (Txt.mul i j),H,I.tok _,⟨t',rfl⟩,xE d kO q rfl⟩
def qb:gF X (binaryOp .FloorDiv) (rT X.K j7):=by
 intro pins s σ H x y v u Q I rx ry h;obtain⟨F,tx,ty,rv,d,ix,iy,e,q⟩:=h;cases tx<;>try(simp only[j7,reduceCtorEq]at e;done)
 all_goals(cases ty<;>simp only[j7,reduceCtorEq]at e)
 case int.int i j=>unfold Is at ix iy;subst ix iy;split at e<;>cases e;rename_i hc;exact QJ pins s σ H _ _ v u Q I rx ry ⟨i,j,rfl,rfl,hc,xE d xm q rfl⟩
def w8:gF X (binaryOp .Mod) (rT X.K zY):=by
 intro pins s σ H x y v u Q I rx ry h;obtain⟨F,tx,ty,rv,d,ix,iy,e,q⟩:=h;cases tx<;>try(simp only[zY,reduceCtorEq]at e;done)
 all_goals(cases ty<;>simp only[zY,reduceCtorEq]at e)
 case int.int i j=>unfold Is at ix iy;subst ix iy;split at e<;>cases e;rename_i hc;exact Nr pins s σ H _ _ v u Q I rx ry ⟨i,j,rfl,rfl,hc,xE d xm q rfl⟩
def zG(a b:T):Option RV:=(fk 40 a b).map λk=>(false,.bl k)
def wS(a b:T):Option RV:=(fk 40 a b).map λk=>(false,.bl (!k))
def gm(t u:T):Option RV:=match t with
 |.int i=>match u with|.int j=>some (false,.bl (decide (i<j)))|_=>none
 |.str i=>match u with|.str j=>some (false,.bl (decide (i.cps.toList<j.cps.toList)))|_=>none
 |_=>none
def Vm(t u:T):Option RV:=match t with
 |.int i=>match u with|.int j=>some (false,.bl (decide (i<=j)))|_=>none
 |.str i=>match u with|.str j=>some (false,.bl (!decide (j.cps.toList<i.cps.toList)))|_=>none
 |_=>none
def om(t u:T):Option RV:=match t with
 |.int i=>match u with|.int j=>some (false,.bl (decide (j<i)))|_=>none
 |.str i=>match u with|.str j=>some (false,.bl (decide (j.cps.toList<i.cps.toList)))|_=>none
 |_=>none
def ZU:T->T->Option RV|.bl a,.bl b=>some (false,.bl (a==b))|.non,.non=>some ↑h|.tup _,.non=>some ↑aA|.lst _,.non=>some ↑aA|.dct _ _,.non=>some ↑aA|.obj _ _ _,.non=>some ↑aA|.str _,.non=>some ↑aA|.int _,.non=>some ↑aA|.bl _,.non=>some ↑aA|_,_=>none
def ZV(hu:X.A.units+40<cLine):gF X (compareOp .Eq) (rT X.K zG):=by intro pins s σ H x y v u Q I rx ry h;obtain⟨F,tx,ty,rv,d,ix,iy,e,q⟩:=h;simp only[zG,Option.map_eq_some_iff]at e;obtain⟨k,e,rfl⟩:=e;exact EqBoolInt.of_rc (nX I hu e ix iy rx ry).1 ⟨.bl k,H,I,rfl,xE d jZ q rfl⟩
def Gb(hu:X.A.units+40<cLine):gF X (compareOp .NotEq) (rT X.K wS):=by intro pins s σ H x y v u Q I rx ry h;obtain⟨F,tx,ty,rv,d,ix,iy,e,q⟩:=h;simp only[wS,Option.map_eq_some_iff]at e;obtain⟨k,e,rfl⟩:=e;exact(NR I hu e ix iy rx ry) _ _ _ _ ⟨.bl (!k),H,I,rfl,xE d jZ q rfl⟩
def XC:gF X (compareOp .Lt) (rT X.K gm):=by
 intro pins s σ H x y v u Q I rx ry h;obtain⟨F,tx,ty,rv,d,ix,iy,e,q⟩:=h;cases tx<;>try(simp only[gm,reduceCtorEq]at e;done)
 all_goals(cases ty<;>simp only[gm,reduceCtorEq]at e)
 case int.int i j=>unfold Is at ix iy;subst ix iy;cases e;exact LY pins s σ H _ _ v u Q I rx ry ⟨i,j,rfl,rfl,xE d jZ q rfl⟩
 case str.str i j=>unfold Is at ix iy;subst ix iy;cases e;exact Xp pins s σ H _ _ v u Q I rx ry ⟨i,j,rfl,rfl,xE d jZ q rfl⟩
def EG:gF X (compareOp .LtE) (rT X.K Vm):=by
 intro pins s σ H x y v u Q I rx ry h;obtain⟨F,tx,ty,rv,d,ix,iy,e,q⟩:=h;cases tx<;>try(simp only[Vm,reduceCtorEq]at e;done)
 all_goals(cases ty<;>simp only[Vm,reduceCtorEq]at e)
 case int.int i j=>unfold Is at ix iy;subst ix iy;cases e;exact LZ pins s σ H _ _ v u Q I rx ry ⟨i,j,rfl,rfl,xE d jZ q rfl⟩
 case str.str i j=>unfold Is at ix iy;subst ix iy;cases e;obtain⟨t,rfl⟩:=rx;obtain⟨t',rfl⟩:=ry;exact PySem.P.le_str (bI I (xE d jZ q rfl) rfl)
def NT:gF X (compareOp .Gt) (rT X.K om):=by
 intro pins s σ H x y v u Q I rx ry h;obtain⟨F,tx,ty,rv,d,ix,iy,e,q⟩:=h;cases tx<;>try(simp only[om,reduceCtorEq]at e;done)
 all_goals(cases ty<;>simp only[om,reduceCtorEq]at e)
 case int.int i j=>unfold Is at ix iy;subst ix iy;cases e;exact I0 pins s σ H _ _ v u Q I rx ry ⟨i,j,rfl,rfl,xE d jZ q rfl⟩
 case str.str i j=>unfold Is at ix iy;subst ix iy;cases e;obtain⟨t,rfl⟩:=rx;obtain⟨t',rfl⟩:=ry;exact PySem.P.gt_str (bI I (xE d jZ q rfl) rfl)
def EH:gF X (compareOp .Is) (rT X.K ZU):=by
 intro pins s σ H x y v u Q I rx ry h;obtain⟨F,tx,ty,rv,d,ix,iy,e,q⟩:=h;cases ty;case bl b=>cases tx<;>simp only[ZU,reduceCtorEq]at e;case bl a=>unfold Is at ix iy;subst ix iy;cases e;cases rx;cases ry;refine wpAny_is_plain rfl ⟨.bl (a==b),H,I,?_,xE d jZ q rfl⟩;cases a<;>cases b<;>rfl
 case non=>
  unfold Is at iy;subst iy;refine Nu pins s σ H _ _ v u Q I rx ry ⟨rfl,?_⟩;have:(x=.non↔tx=.non):=by cases tx<;>unfold Is at ix<;>first|(subst ix;simp;done)|(obtain⟨a,_,rfl,_⟩:=ix;simp;done)|(obtain⟨a,_,_,rfl,_⟩:=ix;simp;done)|(obtain⟨rfl,_⟩:=ix;simp;done)
  cases tx<;>simp only[ZU,reduceCtorEq]at e<;>cases e<;>simp only[this,reduceCtorEq]<;>exact xE d jZ q ↑T
 all_goals(cases tx<;>simp only[ZU,reduceCtorEq]at e)
end L3
namespace HT
open PySem PySem.Spec PyProof.Rows L2
def getItem_tuple_whole{prog:Program}{w:World}{A:Around}{E:Value->Shared->Prop}{s:Shared}{t sl:Addr}{items:Array Value}{vl vu:Value}{lo hi:Option Int}{Q:Value->Shared->Prop}(ht:IsTup s.heap t items)(hs:s.heap.IsSliceOf sl vl vu .none)(pl:IsPart vl lo)(pu:IsPart vu hi)(hw:sIx items.size 0 lo=0/\sIx items.size items.size hi=items.size)(h:Q (.ref t) s):wpAny ↑n A (getItem (.ref t) (.ref sl)) Q E s:=by
 obtain⟨os,hos,hcs,hds⟩:=id hs;have hTs:s.TypeIs (.ref sl) "slice":=⟨os,hos,hcs⟩;unfold getItem;try with_reducible refine wpAny_holding ?_
 first|refine wpAny_bind (wpAny_pure ?_)|skip
 refine wpAny_bind (wpAny_sequenceKey ht.typeIs ↑v ?_);refine wpAny_bind (wpAny_callSpecial?_slot ht.typeIs PyProof.Rows.slot_tuple_getitem (wpAny_call_entry PyProof.Rows.slot_tuple_getitem ht.typeIs entry_tuple_getitem ?_ (args_tuple_getitem _ _)));show wpAny _ _ (Builtin.Tuple.tupleItemsOf (.ref t)>>=_) _ _ s;refine wpAny_bind (tupleItemsOf_ ht ?_);refine wpAny_bind (wpAny_typeOf hTs ?_);rw[if_pos ↑v];refine wpAny_bind (gi hs pl pu ?_);have hyes:↑J=true:=by rw[hw.1,hw.2];simp
 show wpAny _ _ (if↑J=true then _ else _) _ _ s;rw[if_pos hyes];unfold Builtin.Tuple.tupleIsExact;refine wpAny_bind (wpAny_bind (wpAny_typeOf ht.typeIs ?_));refine wpAny_pure ?_;rw[if_pos ↑v];exact wpAny_bind (wpAny_rule (wpAny_pure ⟨_,rfl,wpAny_pure h⟩))
end HT
namespace L3
open PySem PySem.Spec PyProof.Rows L2
section
variable{K:W.Frag}{F:Addr->Prop}{H:Hp}
theorem IsAll.at(h:IsAll K F H ts vs)(e:dM ts i=some t):∃v,dM vs i=some v/\Is K F H t v:=by unfold dM at e⊢;rw[<-h.len];cases hj:JW ts.length i with|none=>rw[hj]at e;cases e|some j=>rw[hj]at e;have e:ts[j]?=some t:=e;obtain⟨v,hv,q⟩:=h.get e;exact⟨v,hv,q⟩
def nY:List Key->List T->Key->Option T|k::ks,t::ts,x=>if k=x then some t else nY ks ts x|_,_,_=>none
theorem iQ:∀{ks:List Key}{ts:List T}{kvs:List (Key×V)}(x:Key),kvs.map (·.1)=ks->IsAll K F H ts (kvs.map (·.2))->(∀t,nY ks ts x=some t->∃v,jY kvs x=some v/\Is K F H t v)/\(nY ks ts x=none->jY kvs x=none)
 |[],ts,[],x,_,_=>⟨λt h=>by cases ts<;>simp[nY]at h,λ_=>rfl⟩|[],ts,kv::kvs,x,h,_=>by simp at h|k::ks,ts,[],x,h,_=>by simp at h|k::ks,[],kv::kvs,x,h,g=>by unfold IsAll at g;simp at g|k::ks,t::ts,kv::kvs,x,h,g=>by
  simp only[List.map_cons,List.cons.injEq]at h;obtain⟨h1,h2⟩:=h;rw[List.map_cons]at g;unfold IsAll at g;obtain⟨v,r,e,g1,g2⟩:=g;cases e;have ih:=iQ x h2 g2;unfold nY;by_cases hk:k=x;·rw[if_pos hk,xK (h1.trans hk)];exact⟨λt' e=>by cases e;exact⟨_,rfl,g1⟩,λz=>by cases z⟩
  ·rw[if_neg hk,xL (λz=>hk (h1.symm.trans z))];exact ih
end
def vz(x:T):List T->Option Bool|[]=>some false|t::ts=>match fk 40 t x with|none=>none|some a=>match vz x ts with|none=>none|some b=>some (a||b)
def iR:T->Option Key|.int i=>some (.inl i)|.str x=>some (.inr x)|_=>none
def Ul:T->T->Option Bool|.str x,.str y=>some (!(Builtin.Str.occurrences y x 0 y.length 1).isEmpty)|x,.lst ts=>vz x ts|x,.tup ts=>vz x ts|x,.dct ks ts=>(iR x).map λk=>(nY ks ts k).isSome|_,_=>none
def fw(a b:T):Option RV:=(Ul a b).map λk=>(false,.bl k)
def oo(a b:T):Option RV:=(Ul a b).map λk=>(false,.bl (!k))
section
variable{X:Cx}
open Classical in def f7(X:Cx)(F:Addr->Prop)(H:Hp)(t:T)(u:Value):Bool:=decide (∃(y:V)(ty:T),L2.RelV y u/\Is X.K F H ty y/\fk 40 ty t=some true)
open Classical in theorem Vn(I:zu X pins σ H s)(r:L2.RelV y u)(i:Is X.K F H ty y)(e:fk 40 ty t=some a):f7 X F H t u=a:=by unfold f7;cases a with|true=>exact decide_eq_true ⟨y,ty,r,i,e⟩|false=>refine decide_eq_false λ⟨y',ty',r',i',e'⟩=>?_;have:=oh r r';subst this;have:=i.inj I i';subst this;rw[e]at e';cases e'
theorem iS(I:zu X pins σ H s)(hu:A.units+40<cLine)(it:Is X.K F H t x)(rx:L2.RelV x vx):∀{ts:List T}{vs:List V}{us:List Value}{b:Bool},vz t ts=some b->IsAll X.K F H ts vs->zL vs us->(∀u,u∈us->SeqAt.EqAt A s u vx (f7 X F H t u))/\us.any (f7 X F H t)=b
 |[],vs,us,b,h,i,r=>by
  unfold IsAll at i;subst i;cases r;simp[vz]at h;refine⟨?_,?_⟩;·intro u hu;cases hu
  ·rw[h];rfl|ty::ts,vs,us,b,h,i,r=>by unfold IsAll at i;obtain⟨v,vr,rfl,i1,i2⟩:=i;cases r with|cons r1 r2=>rename_i u us;rw[vz]at h;cases h1:fk 40 ty t with|none=>rw[h1]at h;cases h|some a=>rw[h1]at h;cases h2:vz t ts with|none=>rw[h2]at h;cases h|some c=>
    rw[h2]at h;simp only[Option.some.injEq]at h;obtain⟨he,hb⟩:=iS I hu it rx h2 i2 r2;have q:=(nX I hu h1 i1 it r1 rx).2;have ea:=Vn I r1 i1 h1;refine⟨?_,?_⟩
    ·intro z hz;rcases List.mem_cons.mp hz with h'|h';·subst h';rw[ea];exact q
     ·exact he z h'
    ·rw[List.any_cons,ea,hb,h]
theorem Vo(hu:X.A.units+41<cLine)(I:zu X pins σ H s)(ix:Is X.K F H tx x)(iy:Is X.K F H ty y)(rx:L2.RelV x v)(ry:L2.RelV y u)(e:Ul tx ty=some b)(ho:op=.In\/op=.NotIn)(q:∀s',zu X pins σ H s'->Q (.bool (if op=.In then b else !b)) s'):wpAny ↑b X.A (compareOp op v u) Q E s:=by
 have seqL:∀{ts:List T},ty=.lst ts->vz tx ts=some b->wpAny ↑b X.A (compareOp op v u) Q E s:=by
  intro ts hy ha;subst hy;unfold Is at iy;obtain⟨p,vs,rfl,g1,g2⟩:=iy;cases ry;obtain⟨its,r,pl,hz⟩:=I.list g1.sq;obtain⟨he,hb⟩:=iS I (by rw[Around.in1_units];omega) ix rx ha g2 r;rcases ho with rfl|rfl
  ·refine SeqAt.in_listAt _ pl.isList (λw hw=>he w (by simpa using hw)) ?_;have:its.toArray.any (f7 X F H tx)=its.any (f7 X F H tx):=by simp
   rw[this,hb];exact q s I
  ·refine SeqAt.notIn_listAt _ pl.isList (λw hw=>he w (by simpa using hw)) ?_;have:its.toArray.any (f7 X F H tx)=its.any (f7 X F H tx):=by simp
   rw[this,hb];exact q s I
 have seqT:∀{ts:List T},ty=.tup ts->vz tx ts=some b->wpAny ↑b X.A (compareOp op v u) Q E s:=by
  intro ts hy ha;subst hy;unfold Is at iy;obtain⟨p,vs,rfl,g1,g2⟩:=iy;cases ry;obtain⟨its,r,pl,hz⟩:=I.tuple g1;obtain⟨he,hb⟩:=iS I (by rw[Around.in1_units];omega) ix rx ha g2 r;rcases ho with rfl|rfl
  ·refine SeqAt.in_tupleAt _ pl (λw hw=>he w (by simpa using hw)) ?_;have:its.toArray.any (f7 X F H tx)=its.any (f7 X F H tx):=by simp
   rw[this,hb];exact q s I
  ·refine SeqAt.notIn_tupleAt _ pl (λw hw=>he w (by simpa using hw)) ?_;have:its.toArray.any (f7 X F H tx)=its.any (f7 X F H tx):=by simp
   rw[this,hb];exact q s I
 have dct:∀{ks:List Key}{ts:List T}{k:Key},ty=.dct ks ts->x=kV k->(nY ks ts k).isSome=b->wpAny ↑b X.A (compareOp op v u) Q E s:=by
  intro ks ts k hy hx hb;subst hy hx;unfold Is at iy;obtain⟨p,kvs,rfl,f,g1,g2,g3⟩:=iy;cases ry;have⟨d1,d2⟩:=iQ k g2 g3;have:(jY kvs k).isSome=b:=by rw[<-hb];cases hd:nY ks ts k with|none=>rw[d2 hd];rfl|some t=>obtain⟨v',hv,_⟩:=d1 t hd;rw[hv];rfl
  rcases ho with rfl|rfl;·refine EB ↑a I (.inl ⟨kvs,k,g1,rfl,rfl⟩:uM H p (kV k) (jY kvs k)) rx λs' I'=>?_;rw[this];exact q s' I'
  ·refine Y0 ↑a I (.inl ⟨kvs,k,g1,rfl,rfl⟩:uM H p (kV k) (jY kvs k)) rx λs' I'=>?_;rw[this];exact q s' I'
 cases ty<;>try(cases tx<;>simp[Ul]at e;done)
 case str y'=>cases tx<;>simp only[Ul,Option.some.injEq,reduceCtorEq]at e;case str x'=>
   unfold Is at ix iy;subst ix iy;obtain⟨t,rfl⟩:=rx;obtain⟨t',rfl⟩:=ry;rcases ho with rfl|rfl;·refine in_str ?_;have:=q s I;rw[if_pos rfl,<-e]at this;exact this
   ·refine notIn_str ?_;have:=q s I;rw[if_neg ↑v,<-e]at this;exact this
 case lst ts=>exact seqL rfl (by cases tx<;>simpa[Ul]using e)
 case tup ts=>exact seqT rfl (by cases tx<;>simpa[Ul]using e)
 case dct ks ts=>
  cases tx<;>simp[Ul,iR]at e;case int i=>unfold Is at ix;exact dct (k:=.inl i) rfl ix e
  case str i=>unfold Is at ix;exact dct (k:=.inr i) rfl ix e
theorem Gc(hu:X.A.units+41<cLine):gF X (compareOp .In) (rT X.K fw):=by intro pins s σ H x y v u Q I rx ry h;obtain⟨F,tx,ty,rv,d,ix,iy,e,q⟩:=h;simp only[fw,Option.map_eq_some_iff]at e;obtain⟨k,e,rfl⟩:=e;exact Vo hu I ix iy rx ry e (.inl rfl) λs' I'=>⟨.bl k,H,I',rfl,xE d jZ q rfl⟩
theorem Iv(hu:X.A.units+41<cLine):gF X (compareOp .NotIn) (rT X.K oo):=by intro pins s σ H x y v u Q I rx ry h;obtain⟨F,tx,ty,rv,d,ix,iy,e,q⟩:=h;simp only[oo,Option.map_eq_some_iff]at e;obtain⟨k,e,rfl⟩:=e;exact Vo hu I ix iy rx ry e (.inr rfl) λs' I'=>⟨.bl (!k),H,I',rfl,xE d jZ q rfl⟩
def zk:T->T->Option RV
 |.lst ts,.int i=>(dM ts i).map λt=>↑P|.tup ts,.int i=>(dM ts i).map λt=>↑P|.str z,.int i=>if z.length<=sizeLine then(dM z.cps.toList i).map λc=>(false,.str ⟨#[c]⟩)else none|.dct ks ts,y=>match iR y with|none=>none|some k=>(nY ks ts k).map λt=>↑P
 |_,_=>none
theorem Iw{prog:Program}{w:World}{A:Around}{E:Value->Shared->Prop}{s:Shared}{value slice:Expr}{o i:Value}{T id:String}{Q:Value->Shared->Prop}(hl:typeLookup (.type T) "__getitem__"=pure (some (.builtin id)))(hs:subscripted slice false o i=operate [o,i] (getItem o i))(hT:s.TypeIs o T)(h:wpAny ↑n A (getItem o i) Q E s):wpAny ↑n A (subscriptTail value slice o i) Q E s:=by
 unfold subscriptTail;refine wpAny_bind ?_;rw[getitemInPython_of_ne hT.not_modules];refine wpAny_bind (wpAny_specialOf hT hl ?_);have fin:wpAny ↑n A (subscripted slice false o i) (λr s₃=>wpAny ↑n A (letTemporaryGo value o r>>=λ_=>pure r) Q E s₃) E s:=by rw[hs];exact wpAny_operating (wpAny_mono h (λr s₃ h₃=>wpAny_bind (wpAny_letTemporaryGo (wpAny_pure h₃))) λ_ _ x=>x)
 first|exact wpAny_pure (wpAny_bind fin)|exact wpAny_bind (wpAny_pure (wpAny_bind fin))|exact wpAny_bind fin
theorem EI(hu:X.A.units+1<cLine):Ie X (rT X.K zk):=by
 intro value slice pins s σ H x y v u Q I rx ry h hs;obtain⟨F,tx,ty,rv,d,ix,iy,e,q⟩:=h;cases tx<;>simp only[zk,reduceCtorEq]at e;case lst ts=>cases ty<;>simp only[reduceCtorEq]at e;case int i=>simp only[Option.map_eq_some_iff]at e;obtain⟨t,e,rfl⟩:=e;unfold Is at ix iy;obtain⟨p,vs,rfl,g1,g2⟩:=ix;obtain⟨z,hz,iz⟩:=g2.at e;exact QW value slice pins s σ H _ _ v u Q I rx ry ⟨p,vs,i,z,rfl,iy,g1.sq,hz,xE d iz q rfl⟩ hs
 case tup ts=>cases ty<;>simp only[reduceCtorEq]at e;case int i=>simp only[Option.map_eq_some_iff]at e;obtain⟨t,e,rfl⟩:=e;unfold Is at ix iy;obtain⟨p,vs,rfl,g1,g2⟩:=ix;obtain⟨z,hz,iz⟩:=g2.at e;exact NB value slice pins s σ H _ _ v u Q I rx ry ⟨p,vs,i,z,rfl,iy,g1,hz,xE d iz q rfl⟩ hs
 case str z=>cases ty<;>simp only[reduceCtorEq]at e;case int i=>
   split at e;·rename_i hl;simp only[Option.map_eq_some_iff]at e;obtain⟨t,e,rfl⟩:=e;unfold Is at ix iy;exact ND value slice pins s σ H _ _ v u Q I rx ry ⟨z,i,t,ix,iy,hl,e,xE d kO q rfl⟩ hs
   ·cases e
 case dct ks ts=>
  have key:∀k,y=kV k->∀t,nY ks ts k=some t->rv=↑P->wpAny ↑b X.A (subscriptTail value slice v u) ↑aK X.xe s:=by
   intro k hy t ht hrv;unfold Is at ix;obtain⟨p,kvs,rfl,f,g1,g2,g3⟩:=ix;cases rx;subst hy;obtain⟨w,hw,iw⟩:=(iQ k g2 g3).1 t ht;have g:uM H p (kV k) (some w):=by rw[<-hw];exact .inl ⟨kvs,k,g1,rfl,rfl⟩
   exact Iw PySem.F.slot_dict_getitem.lookup hs (l5 I g) (cH hu I g ry λw' s3 I3 rw'=>⟨w,H,I3,rw',xE d iw q hrv⟩)
  cases ty<;>simp only[iR,reduceCtorEq]at e;case int i=>simp only[Option.map_eq_some_iff]at e;obtain⟨t,e,rfl⟩:=e;unfold Is at iy;exact key (.inl i) iy t e rfl
  case str i=>simp only[Option.map_eq_some_iff]at e;obtain⟨t,e,rfl⟩:=e;unfold Is at iy;exact key (.inr i) iy t e rfl
def qw(ts:List T)(lo hi:Option Int):List T:=(ts.drop (HT.sIx ts.length 0 lo)).take (HT.sIx ts.length ts.length hi-HT.sIx ts.length 0 lo)
def dR:T->Option Int->Option Int->Option RV|.lst ts,lo,hi=>some (true,.lst (qw ts lo hi))|.tup ts,lo,hi=>some (false,.tup (qw ts lo hi))|.str z,lo,hi=>if z.length<=sizeLine then some (false,.str (lD z lo hi))else none|_,_,_=>none
theorem Yb{K:W.Frag}{F:Addr->Prop}{H:Hp}{ts:List T}{vs:List V}{lo hi:Option Int}(h:IsAll K F H ts vs):IsAll K F H (qw ts lo hi) (tP vs lo hi):=by unfold qw tP;rw[h.len];exact(h.drop _).take _
def DW(K:W.Frag)(f:T->Option Int->Option Int->Option RV):V->Option Int->Option Int->Hp->VK->Prop:=λx lo hi H Q=>∃F tx rv,dN F H/\Is K F H tx x/\f tx lo hi=some rv/\∀v F' H',xN F H F' H'->kL K ↑aH F' H' v rv->Q v H'
theorem EJ:Ib X (DW X.K dR):=by
 intro pins s σ H x v vl vu lo hi sl Q I rx hs pl pu h;obtain⟨F,tx,rv,d,ix,e,q⟩:=h;cases tx<;>simp only[dR,reduceCtorEq]at e;case lst ts=>cases e;unfold Is at ix;obtain⟨p,vs,rfl,g1,g2⟩:=ix;exact QX pins s σ H _ v vl vu lo hi sl Q I rx hs pl pu ⟨p,vs,rfl,g1.sq,λl hl=>bY d (Yb g2) hl q⟩
 case tup ts=>
  cases e;have ix':=ix;unfold Is at ix;obtain⟨p,vs,rfl,g1,g2⟩:=ix;by_cases hw:HT.sIx vs.length 0 lo=0/\HT.sIx vs.length vs.length hi=vs.length
  ·cases rx;obtain⟨its,r,ht,hz⟩:=I.tuple g1;have hlen:its.toArray.size=vs.length:=by rw[List.size_toArray];exact r.length.symm
   refine⟨"tuple",_,PyProof.Rows.slot_tuple_getitem.lookup,ht.typeIs,HT.getItem_tuple_whole ht hs pl pu (by rw[hlen];exact hw) ⟨.ref p,H,I,rfl,xE d ix' q ?_⟩⟩;have:qw ts lo hi=ts:=by unfold qw;rw[g2.len,hw.1,hw.2,List.drop_zero];exact List.take_of_length_le (by rw[g2.len];omega)
   rw[this]
  ·exact Nz pins s σ H _ v vl vu lo hi sl Q I rx hs pl pu ⟨p,vs,rfl,g1,hw,λl hl=>Ga d (Yb g2) hl q⟩
 case str z=>split at e<;>cases e;rename_i hl;unfold Is at ix;exact NL pins s σ H _ v vl vu lo hi sl Q I rx hs pl pu ⟨z,ix,hl,xE d kO q rfl⟩
end
def Vp:T->Option Bool|.non=>some false|.bl b=>some b|.int i=>some (i !=0)|.str y=>if y.length<=sizeLine then some ((y.length:Int)!=0)else none|.lst ts=>some (!ts.isEmpty)|.tup ts=>some (!ts.isEmpty)|_=>none
def Gd{K:W.Frag}{F:Addr->Prop}{H:Hp}{t:T}{x:V}{b:Bool}(h:Vp t=some b)(i:Is K F H t x):Nv K x H b:=by
 cases t<;>simp only[Vp,Option.some.injEq,reduceCtorEq]at h<;>unfold Is at i;case non=>subst i h;rfl
 case bl=>subst i h;rfl
 case int=>subst i h;rfl
 case str y=>
  split at h;·rename_i hl;subst i;exact⟨hl,(Option.some.inj h).symm⟩
  ·cases h
 case lst ts=>obtain⟨a,vs,rfl,g1,g2⟩:=i;refine .inl ⟨vs,g1.sq,?_⟩;have:=g2.len;rw[<-h];cases ts<;>cases vs<;>simp at this⊢
 case tup ts=>obtain⟨a,vs,rfl,g1,g2⟩:=i;refine .inr (.inl ⟨vs,g1,?_⟩);have:=g2.len;rw[<-h];cases ts<;>cases vs<;>simp at this⊢
section
variable{X:Cx}{a b c e:Expr}{pos:Pos}{ma mb mc:ME}{ta tb tc:TE}{rest:List Expr}
def km(m:ME):MT:=λenv=>(m env).bind λx=>Y9 (Vp x.2)
theorem zV(ha:jK X a ma)(he:∀whole,isTrue a X.env whole=(do let v<-whole;standAt a.pos;holding [v] (truthy v))):o9 X a (km ma):=by obtain⟨ta,pa,sa⟩:=ha;refine⟨_,WV pa he,?_⟩;intro F H σ env Q R nb ok ex;unfold km at nb ok ex;refine sa.val R ↑d (λr1 e1 v1 F1 H1 x1 i1=>?_) λx z=>ex x ↑E;rw[e1,bind_ok]at nb ok;cases h:Vp r1.2 with|none=>rw[h]at nb;exact absurd rfl nb|some k=>rw[h]at ok;exact⟨k,Gd h i1,ok k rfl F1 H1 x1⟩
def xk(m:MT):MT:=λenv=>(m env).bind λx=>.ok (!x)
def jO(m n:MT):MT:=λenv=>(m env).bind λx=>if x=true then n env else .ok false
def w9(m n:MT):MT:=λenv=>(m env).bind λx=>if x=true then .ok true else n env
theorem Vq(h:kN X t m):kN X (LI t) (xk m):=by intro F H σ env Q R nb ok ex;unfold xk at nb ok ex;refine h F H σ env _ R ↑d (λk e F' H' x=>?_) λx z=>ex x ↑E;rw[e,bind_ok]at ok;exact ok _ rfl F' H' x
theorem Vr(h:kN X t m)(g:kN X u n):kN X (LG t u) (jO m n):=by intro F H σ env Q R nb ok ex;unfold jO at nb ok ex;refine h F H σ env _ R ↑d (λk e F1 H1 x1=>?_) λx z=>ex x ↑E;rw[e,bind_ok]at nb ok ex;cases k with|true=>rw[if_pos rfl]at nb ok ex⊢;exact g F1 H1 σ env Q (R.mono x1) nb (λk e F' H' x=>ok k e F' H' (x1.trans x)) λx z=>(ex x z).mono x1|false=>rw[if_neg Bool.false_ne_true]at ok⊢;exact ok _ rfl F1 H1 x1
theorem Ge(h:kN X t m)(g:kN X u n):kN X (Dq t u) (w9 m n):=by intro F H σ env Q R nb ok ex;unfold w9 at nb ok ex;refine h F H σ env _ R ↑d (λk e F1 H1 x1=>?_) λx z=>ex x ↑E;rw[e,bind_ok]at nb ok ex;cases k with|false=>rw[if_neg Bool.false_ne_true]at nb ok ex⊢;exact g F1 H1 σ env Q (R.mono x1) nb (λk e F' H' x=>ok k e F' H' (x1.trans x)) λx z=>(ex x z).mono x1|true=>rw[if_pos rfl]at ok⊢;exact ok _ rfl F1 H1 x1
def Um(X:Cx)(e:Expr)(m:MT):Prop:=∃t,PW X e t/\kN X t m
theorem Um.pt(h:Um X e m):o9 X e m:=let⟨t,p,s⟩:=h;⟨t,p.pt,s⟩
theorem uN(h:o9 X a m):Um X (.BoolOp .And [a] pos) m:=let⟨t,p,s⟩:=h;⟨t,QH p,s⟩
theorem qx(h:o9 X a m):Um X (.BoolOp .Or [a] pos) m:=let⟨t,p,s⟩:=h;⟨t,N3 p,s⟩
theorem ui(h:o9 X a m)(g:Um X (.BoolOp .And (b::rest) pos) n):Um X (.BoolOp .And (a::b::rest) pos) (jO m n):=by obtain⟨t,p,s⟩:=h;obtain⟨u,p',s'⟩:=g;exact⟨_,N4 p p',Vr s s'⟩
theorem qN(h:o9 X a m)(g:Um X (.BoolOp .Or (b::rest) pos) n):Um X (.BoolOp .Or (a::b::rest) pos) (w9 m n):=by obtain⟨t,p,s⟩:=h;obtain⟨u,p',s'⟩:=g;exact⟨_,LJ p p',Ge s s'⟩
theorem qW(h:o9 X a m):o9 X (.UnaryOp .Not a pos) (xk m):=let⟨t,p,s⟩:=h;⟨_,N5 p,Vq s⟩
def jP(ma mb:ME):ME:=λenv=>(ma env).bind λx=>match x.2 with|.bl k=>if k=true then mb env else .ok ↑aA|_=>.bad
def iU(ma mb:ME):ME:=λenv=>(ma env).bind λx=>match x.2 with|.bl k=>if k=true then .ok (false,.bl true)else mb env|_=>.bad
def f8(ma:ME):ME:=λenv=>(ma env).bind λx=>match x.2 with|.bl k=>.ok (false,.bl (!k))|_=>.bad
theorem kB{K:W.Frag}{F F1 F':Addr->Prop}{H H1 H':Hp}{v:V}{r:RV}(x:xN F H F1 H1)(i:kL K (λa=>H1 a=none) F' H' v r):kL K ↑aH F' H' v r:=by
 unfold kL at i⊢;split;·rename_i ho;rw[if_pos ho]at i;obtain⟨a,e,nf,fr,o⟩:=i;exact⟨a,e,nf,jv x.same fr,o⟩
 ·rename_i ho;rw[if_neg ho]at i;exact i
theorem wq.next(h:wq X t m)(R:ky X.K F H σ env)(x1:xN F H F1 H1)(nb:m env≠.bad)(ok:∀r,m env=.ok r->∀v F' H',xN F H F' H'->kL X.K ↑aH F' H' v r->Q v H')(ex:∀x,m env=.exc x->WE X F H σ x):t σ H1 Q:=h F1 H1 σ env Q (R.mono x1) nb (λr e v F' H' x i=>ok r e v F' H' (x1.trans x) (kB x1 i)) λx z=>(ex x z).mono x1
theorem fx{op}(h:jK X a m):jK X (.BoolOp op [a] pos) m:=let⟨t,p,s⟩:=h;⟨t,N6 p,s⟩
theorem uO(ha:jK X a ma)(hb:jK X (.BoolOp .And (b::rest) pos) mb):jK X (.BoolOp .And (a::b::rest) pos) (jP ma mb):=by obtain⟨ta,pa,sa⟩:=ha;obtain⟨tb,pb,sb⟩:=hb;refine⟨_,N7 pa pb,?_⟩;intro F H σ env Q R nb ok ex;unfold jP at nb ok ex;refine sa.val R ↑d (λr1 e1 v1 F1 H1 x1 i1=>?_) λx z=>ex x ↑E;rw[e1,bind_ok]at nb ok ex;obtain⟨o,t⟩:=r1;cases t with
 |bl k=>unfold Is at i1;refine⟨k,i1,?_⟩;cases k with|true=>rw[if_pos rfl];exact sb.next R x1 nb ok ex|false=>rw[if_neg Bool.false_ne_true];exact ok _ rfl _ F1 H1 x1 (jD jZ)
 |_=>exact absurd rfl nb
theorem NU(ha:jK X a ma)(hb:jK X (.BoolOp .Or (b::rest) pos) mb):jK X (.BoolOp .Or (a::b::rest) pos) (iU ma mb):=by obtain⟨ta,pa,sa⟩:=ha;obtain⟨tb,pb,sb⟩:=hb;refine⟨_,LM pa pb,?_⟩;intro F H σ env Q R nb ok ex;unfold iU at nb ok ex;refine sa.val R ↑d (λr1 e1 v1 F1 H1 x1 i1=>?_) λx z=>ex x ↑E;rw[e1,bind_ok]at nb ok ex;obtain⟨o,t⟩:=r1;cases t with
 |bl k=>unfold Is at i1;refine⟨k,i1,?_⟩;cases k with|false=>rw[if_neg Bool.false_ne_true];exact sb.next R x1 nb ok ex|true=>rw[if_pos rfl];exact ok _ rfl _ F1 H1 x1 (jD jZ)
 |_=>exact absurd rfl nb
theorem Yc(ha:jK X a ma):jK X (.UnaryOp .Not a pos) (f8 ma):=by obtain⟨ta,pa,sa⟩:=ha;refine⟨_,N8 pa,?_⟩;intro F H σ env Q R nb ok ex;unfold f8 at nb ok ex;refine sa.val R ↑d (λr1 e1 v1 F1 H1 x1 i1=>?_) λx z=>ex x ↑E;rw[e1,bind_ok]at nb ok ex;obtain⟨o,t⟩:=r1;cases t with|bl k=>unfold Is at i1;exact⟨k,i1,ok _ rfl _ F1 H1 x1 (jD jZ)⟩|_=>exact absurd rfl nb
def iV(ma:ME):ME:=λenv=>(ma env).bind λx=>match x.2 with|.int i=>.ok (false,.int (-i))|_=>.bad
theorem Vs(ha:jK X a ma):jK X (.UnaryOp .USub a pos) (iV ma):=by obtain⟨ta,pa,sa⟩:=ha;refine⟨_,LW Nt pa,?_⟩;intro F H σ env Q R nb ok ex;unfold iV at nb ok ex;refine sa.val R ↑d (λr1 e1 v1 F1 H1 x1 i1=>?_) λx z=>ex x ↑E;rw[e1,bind_ok]at nb ok ex;obtain⟨o,t⟩:=r1;cases t with|int k=>unfold Is at i1;exact⟨k,i1,ok _ rfl _ F1 H1 x1 (jD xm)⟩|_=>exact absurd rfl nb
def vA(m:MT)(ma mb:ME):ME:=λenv=>(m env).bind λk=>if k=true then ma env else mb env
theorem vD(hc:o9 X c m)(ha:jK X a ma)(hb:jK X b mb):jK X (.IfExp c a b pos) (vA m ma mb):=by obtain⟨t,p,s⟩:=hc;obtain⟨ta,pa,sa⟩:=ha;obtain⟨tb,pb,sb⟩:=hb;refine⟨_,tG p pa pb,?_⟩;intro F H σ env Q R nb ok ex;unfold vA at nb ok ex;refine s F H σ env _ R ↑d (λk e F1 H1 x1=>?_) λx z=>ex x ↑E;rw[e,bind_ok]at nb ok ex;cases k with|true=>rw[if_pos rfl]at nb ok ex⊢;exact sa.next R x1 nb ok ex|false=>rw[if_neg Bool.false_ne_true]at nb ok ex⊢;exact sb.next R x1 nb ok ex
theorem gJ(hu:X.A.units+1<cLine)(ha:jK X a ma)(hb:jK X b mb)(hs:bM b):jK X (.Subscript a b pos) (m2 zk ma mb):=by obtain⟨ta,pa,sa⟩:=ha;obtain⟨tb,pb,sb⟩:=hb;exact⟨_,Ig (EI hu) pa pb hs,bX xD sa sb⟩
abbrev MO:=En->gl (Option Int)
def EK(X:Cx)(t:TO)(m:MO):Prop:=∀(F:Addr->Prop)(H:Hp)(σ:St)(env:En)(Q:Option Int->Hp->Prop),ky X.K F H σ env->m env≠.bad->(∀b,m env=.ok b->∀F' H',xN F H F' H'->Q b H')->(∀x,m env=.exc x->WE X F H σ x)->t σ H Q
def HI(X:Cx)(e:Option Expr)(m:MO):Prop:=∃t,PO X e t/\EK X t m
def zO:MO:=λ_=>.ok none
def zx(m:ME):MO:=λenv=>(m env).bind λx=>match x.2 with|.int i=>.ok (some i)|_=>.bad
theorem wu:HI X none zO:=⟨_,QS,λF H σ env Q R nb ok ex=>ok none rfl F H (.refl R.dom)⟩
theorem j3(ha:jK X a ma):HI X (some a) (zx ma):=by obtain⟨ta,pa,sa⟩:=ha;refine⟨_,QT pa,?_⟩;intro F H σ env Q R nb ok ex;unfold zx at nb ok ex;refine sa.val R ↑d (λr1 e1 v1 F1 H1 x1 i1=>?_) λx z=>ex x ↑E;rw[e1,bind_ok]at nb ok ex;obtain⟨o,t⟩:=r1;cases t with|int k=>unfold Is at i1;exact⟨k,i1,ok _ rfl F1 H1 x1⟩|_=>exact absurd rfl nb
def k5(ma:ME)(ml mh:MO):ME:=λenv=>(ma env).bind λx=>(ml env).bind λl=>(mh env).bind λh=>Y9 (dR x.2 l h)
theorem jw{lo hi:Option Expr}{ml mh:MO}{p2:Pos}(ha:jK X a ma)(hl:HI X lo ml)(hh:HI X hi mh):jK X (.Subscript a (.Slice lo hi none p2) pos) (k5 ma ml mh):=by obtain⟨ta,pa,sa⟩:=ha;obtain⟨tl,pl,sl⟩:=hl;obtain⟨th,ph,sh⟩:=hh;refine⟨_,V2 EJ pa pl ph,?_⟩;intro F H σ env Q R nb ok ex;unfold k5 at nb ok ex;refine sa.val R ↑d (λr1 e1 v1 F1 H1 x1 i1=>?_) λx z=>ex x ↑E;rw[e1,bind_ok]at nb ok ex;refine sl F1 H1 σ env _ (R.mono x1) ↑d (λl e2 F2 H2 x2=>?_) λx z=>(ex x ↑E).mono x1;rw[e2,bind_ok]at nb ok ex;refine sh F2 H2 σ env _ ((R.mono x1).mono x2) ↑d (λh e3 F3 H3 x3=>?_) λx z=>(ex x ↑E).mono (x1.trans x2);rw[e3,bind_ok]at nb ok ex;cases h:dR r1.2 l h with|none=>rw[h]at nb;exact absurd rfl nb|some rv=>rw[h]at ok;have x13:=(x1.trans x2).trans x3;exact⟨F3,r1.2,rv,x3.dom,i1.mono (x2.trans x3).kept,h,λv F' H' x i=>ok rv rfl v F' H' (x13.trans x) (kB x13 i)⟩
end
def wv(K:W.Frag)(fr F:Addr->Prop)(H:Hp):List V->List RV->Prop|[],[]=>True|v::vs,r::rs=>kL K fr F H v r/\wv K fr F H vs rs/\(r.1=true->∀(i:Nat)(r':RV),rs[i]?=some r'->r'.1=true->vs[i]?≠some v)|_,_=>False
def kL.there{K:W.Frag}{fr F:Addr->Prop}{H:Hp}{v:V}{r:RV}(h:kL K fr F H v r)(o:r.1=true):∃a,v=.ref a/\¬F a/\fr a/\H a≠none/\vw K F H a r.2:=by unfold kL at h;rw[if_pos o]at h;obtain⟨a,e,nf,f,w⟩:=h;exact⟨a,e,nf,f,w.there,w⟩
def kL.mono{K:W.Frag}{fr F F1:Addr->Prop}{H H1:Hp}{v:V}{r:RV}(x:xN F H F1 H1)(h:kL K fr F H v r):kL K fr F1 H1 v r:=by
 unfold kL at h⊢;split
 ·rename_i o;rw[if_pos o]at h;obtain⟨a,e,nf,f,w⟩:=h;refine⟨a,e,λz=>?_,f,w.mono x.kept λo q=>x.same a o q⟩;rcases x.new a z with z|z;·exact nf z
  ·exact w.there z
 ·rename_i o;rw[if_neg o]at h;exact h.mono x.kept
def wv.frz{K:W.Frag}{F F1:Addr->Prop}{H H1:Hp}:∀{vs:List V}{rs:List RV},xN F H F1 H1->wv K ↑aH F1 H1 vs rs->∃F2,xN F H F2 H1/\(∀a,F1 a->F2 a)/\IsAll K F2 H1 (rs.map (·.2)) vs
 |[],[],x,_=>⟨F1,x,λ_ h=>h,IsAll.nil⟩|[],_::_,_,h=>h.elim|_::_,[],_,h=>h.elim|v::vs,r::rs,x,h=>by
  obtain⟨h1,h2,_⟩:=h;obtain⟨F2,x2,s2,i2⟩:=wv.frz x h2;by_cases o:r.1=true;·obtain⟨a,rfl,nf,fr,th,w⟩:=h1.there o;refine⟨λb=>F2 b\/b=a,x2.freeze fr th,λb q=>.inl (s2 b q),IsAll.cons ?_ (i2.mono ⟨λb q=>.inl q,λ_ _ _ q=>q,λ_ _ q _ _=>q⟩)⟩;exact w.is (λb q=>.inl (s2 b q)) (.inr rfl)
  ·obtain⟨o',t⟩:=r;cases o' with|true=>exact absurd rfl o|false=>exact⟨F2,x2,s2,IsAll.cons (h1.is.mono ⟨s2,λ_ _ _ q=>q,λ_ _ q _ _=>q⟩) i2⟩
def ZW(X:Cx)(t:TA)(m:MA):Prop:=∀(F:Addr->Prop)(H:Hp)(σ:St)(env:En)(Q:List V->Hp->Prop),ky X.K F H σ env->m env≠.bad->(∀rs,m env=.ok rs->∀vs F' H',xN F H F' H'->wv X.K ↑aH F' H' vs rs->Q vs H')->(∀x,m env=.exc x->WE X F H σ x)->t σ H Q
def Zs(X:Cx)(es:List Expr)(m:MA):Prop:=∃t,PA X es t/\ZW X t m
def z5:MA:=λ_=>.ok []
def z3(me:ME)(ma:MA):MA:=λenv=>(me env).bind λx=>(ma env).bind λxs=>.ok (x::xs)
def z6:Zs X [] z5:=⟨_,k9,λF H σ env Q R nb ok ex=>ok [] rfl [] F H (.refl R.dom) trivial⟩
def z4(he:jK X e me)(ha:Zs X es ma)(hs:starEach (e::es) X.env=↑M::starEach es X.env:=by rfl):Zs X (e::es) (z3 me ma):=by
 obtain⟨te,pe,se⟩:=he;obtain⟨ta,pa,sa⟩:=ha;refine⟨_,xY pe pa hs,?_⟩;intro F H σ env Q R nb ok ex;unfold z3 at nb ok ex;refine se F H σ env _ R ↑d (λr1 e1 v1 F1 H1 x1 i1=>?_) λx z=>ex x ↑E;rw[e1,bind_ok]at nb ok ex;refine sa F1 H1 σ env _ (R.mono x1) ↑d (λrs e2 vs F2 H2 x2 i2=>?_) λx z=>(ex x ↑E).mono x1;rw[e2,bind_ok]at ok;have back:∀{vs:List V}{rs:List RV},wv X.K (λa=>H1 a=none) F2 H2 vs rs->wv X.K ↑aH F2 H2 vs rs/\∀(i:Nat)(r':RV)(a:Addr),rs[i]?=some r'->r'.1=true->vs[i]?=some (.ref a)->H1 a=none:=by intro vs;induction vs with
  |nil=>intro rs h;cases rs with|nil=>exact⟨trivial,λi r' a h=>by simp at h⟩|cons _ _=>exact h.elim
  |cons v vs ih=>intro rs h;cases rs with|nil=>exact h.elim|cons r rs=>obtain⟨h1,h2,h3⟩:=h;obtain⟨g1,g2⟩:=ih h2;refine⟨⟨kB x1 h1,g1,h3⟩,λi r' a hr ho hv=>?_⟩;cases i with|zero=>simp at hr hv;subst hr hv;obtain⟨b,e,_,f,_⟩:=h1.there ho;cases e;exact f|succ i=>exact g2 i r' a (by simpa using hr) ho (by simpa using hv)
 obtain⟨b1,b2⟩:=back i2;refine ok _ rfl (v1::vs) F2 H2 (x1.trans x2) ⟨i1.mono x2,b1,λho i r' hr ho' hv=>?_⟩;obtain⟨a,rfl,_,_,th,_⟩:=i1.there ho;exact th (b2 i r' a hr ho' hv)
def jL(ma:MA):ME:=λenv=>(ma env).bind λrs=>if rs.length<=sizeLine then .ok (false,.tup (rs.map (·.2)))else .bad
def jo(ma:MA):ME:=λenv=>(ma env).bind λrs=>if rs.length<=sizeLine then .ok (true,.lst (rs.map (·.2)))else .bad
def wv.len{K:W.Frag}{fr F:Addr->Prop}{H:Hp}:∀{vs:List V}{rs:List RV},wv K fr F H vs rs->vs.length=rs.length|[],[],_=>rfl|[],_::_,h=>h.elim|_::_,[],h=>h.elim|_::vs,_::rs,h=>by rw[List.length_cons,List.length_cons,wv.len h.2.1]
def kC{x1}(h:Zs X es ma):jK X (.Tuple es x1 pos) (jL ma):=by
 obtain⟨ta,pa,sa⟩:=h;refine⟨_,Nx pa,?_⟩;intro F H σ env Q R nb ok ex;unfold jL at nb ok ex;refine sa F H σ env _ R ↑d (λrs e1 vs F1 H1 x1 i1=>?_) λx z=>ex x ↑E;rw[e1,bind_ok]at nb ok ex;obtain⟨F2,x2,s2,i2⟩:=i1.frz x1;by_cases hl:rs.length<=sizeLine;·rw[if_pos hl]at ok;refine⟨by rw[i1.len];exact hl,λp hp=>?_⟩;exact Ga x2.dom i2 hp λv F' H' x i=>ok _ rfl v F' H' (x2.trans x) (kB x2 i)
 ·rw[if_neg hl]at nb;exact absurd rfl nb
def we(h:Zs X es ma):jK X (.List es pos) (jo ma):=by
 obtain⟨ta,pa,sa⟩:=h;refine⟨_,Ny pa,?_⟩;intro F H σ env Q R nb ok ex;unfold jo at nb ok ex;refine sa F H σ env _ R ↑d (λrs e1 vs F1 H1 x1 i1=>?_) λx z=>ex x ↑E;rw[e1,bind_ok]at nb ok ex;obtain⟨F2,x2,s2,i2⟩:=i1.frz x1;by_cases hl:rs.length<=sizeLine;·rw[if_pos hl]at ok;refine⟨by rw[i1.len];exact hl,λp hp=>?_⟩;exact bY x2.dom i2 hp λv F' H' x i=>ok _ rfl v F' H' (x2.trans x) (kB x2 i)
 ·rw[if_neg hl]at nb;exact absurd rfl nb
def zl(f:List T->Option RV)(ma:MA):ME:=λenv=>(ma env).bind λrs=>Y9 (f (rs.map (·.2)))
def ZX{f:List T->Option RV}{t:TA}(sa:ZW X t ma):wq X (HF (t8 X.K f) t) (zl f ma):=by intro F H σ env Q R nb ok ex;unfold zl at nb ok ex;refine sa F H σ env _ R ↑d (λrs e1 vs F1 H1 x1 i1=>?_) λx z=>ex x ↑E;rw[e1,bind_ok]at nb ok ex;obtain⟨F2,x2,s2,i2⟩:=i1.frz x1;cases h:f (rs.map (·.2))with|none=>rw[h]at nb;exact absurd rfl nb|some rv=>rw[h]at ok;exact⟨F2,_,rv,x2.dom,i2,h,λv F' H' x i=>ok rv rfl v F' H' (x2.trans x) (kB x2 i)⟩
def zP{id:String}{f:List T->Option RV}(hc:vo X (.builtin id) (t8 X.K f))(hg:Gl X x)(hm:X.mg x=none)(hv:bootBuiltins x=some (.builtin id))(ha:Zs X (e::es) ma)(hn:x≠"__name__":=by decide)(hdb:(x==↑t)=false:=by decide)(he:starEach (e::es) X.env=↑M::starEach es X.env:=by rfl)(hpl:(backTo pos ↑aL).any (·.1)=false:=by rfl):jK X ↑al (zl f ma):=by obtain⟨ta,pa,sa⟩:=ha;exact⟨_,tO hc hg hm hv pa hn hdb he hpl,ZX sa⟩
def jd{id:String}{f:List T->Option RV}(hc:vo X (.type id) (t8 X.K f))(hg:Gl X x)(hm:X.mg x=none)(hv:bootBuiltins x=some (.type id))(ha:Zs X (e::es) ma)(hn:x≠"__name__":=by decide)(hdb:(x==↑t)=false:=by decide)(he:starEach (e::es) X.env=↑M::starEach es X.env:=by rfl)(hpl:(backTo pos ↑aL).any (·.1)=false:=by rfl):jK X ↑al (zl f ma):=by obtain⟨ta,pa,sa⟩:=ha;exact⟨_,Xu hc hg hm hv pa hn hdb he hpl,ZX sa⟩
structure Bs where
 M:Addr->Prop
 H:Hp
 F:Addr->Prop
structure lE(B:Bs)(F:Addr->Prop)(H:Hp):Prop where
 dom:dN F H
 sub:∀a,B.F a->F a
 new:∀a,F a->B.F a\/B.H a=none\/B.M a
 keep:∀a o,B.H a=some o->¬B.M a->H a=some o
 f0:∀a,B.F a->¬B.M a
structure jb(K:W.Frag)(B:Bs)(F:Addr->Prop)(H:Hp)(σ:St)(env:En):Prop where
 fr:lE B F H
 len:env.length=σ.length
 vals:∀(i:Nat)(t:T),env[i]?=some (some ↑P)->∃v,σ[i]?=some (some v)/\Is K F H t v
 owns:∀(i:Nat)(t:T),env[i]?=some (some (true,t))->∃a,σ[i]?=some (some (.ref a))/\¬F a/\(B.H a=none\/B.M a)/\vw K F H a t
 sep:∀(i j:Nat)(t t':T)(a:Addr),env[i]?=some (some (true,t))->env[j]?=some (some (true,t'))->σ[i]?=some (some (.ref a))->σ[j]?=some (some (.ref a))->i=j
structure Vt(K:W.Frag)(B:Bs)(F:Addr->Prop)(H:Hp)(v:V)(r:RV):Prop where
 fr:lE B F H
 val:kL K (λa=>B.H a=none\/B.M a) F H v r
def zQ:Option RV->Option RV|some (true,_)=>none|o=>o
def zJ(env:En):En:=env.map zQ
def frz1:Option RV->Option RV|some (_,t)=>some ↑P|none=>none
def Vu(env:En):En:=env.map frz1
def iW:Option RV->Bool|some (true,.lst _)=>true|_=>false
def uj:Option RV->Bool|some (true,.dct _ _)=>true|_=>false
def uk:Option RV->Bool|some (true,.obj _ _ _)=>true|_=>false
def ZY:RV->Bool|(true,.lst ts)=>noLs ts|(true,.dct _ ts)=>noLs ts|(true,.obj _ _ ts)=>noLs ts|(_,t)=>Zr t
def XD:RV->Bool|(true,.lst ts)=>noDs ts|(true,.dct _ ts)=>noDs ts|(true,.obj _ _ ts)=>noDs ts|(_,t)=>ZQ t
def XE:RV->Bool|(true,.lst ts)=>noOs ts|(true,.dct _ ts)=>noOs ts|(true,.obj _ _ ts)=>noOs ts|(_,t)=>ZR t
def clean(env:En)(r:RV):Bool:=(!env.any iW||ZY r)&&(!env.any uj||XD r)&&(!env.any uk||XE r)
def ul(hc:clean env r=true):(env.any iW=true->ZY r=true)/\(env.any uj=true->XD r=true)/\(env.any uk=true->XE r=true):=by unfold clean at hc;simp only[Bool.and_eq_true,Bool.or_eq_true,Bool.not_eq_true']at hc;exact⟨λz=>by rcases hc.1.1 with q|q;(rw[z]at q;cases q);exact q,λz=>by rcases hc.1.2 with q|q;(rw[z]at q;cases q);exact q,λz=>by rcases hc.2 with q|q;(rw[z]at q;cases q);exact q⟩
def settle(env:En)(r:RV):En:=if clean env r=true then env else Vu env
def jR(m:ME)(env:En):gl (RV×En):=match m (zJ env)with|.ok r=>.ok (r,env)|.exc x=>.exc x|.bad=>match m env with|.ok r=>.ok (r,settle env r)|.exc x=>if clean env (false,x.at_)=true then .exc x else .bad|.bad=>.bad
section
variable{K:W.Frag}{B:Bs}{F F':Addr->Prop}{H H':Hp}{σ:St}{env:En}{v:V}{r:RV}
theorem gI{f:Option RV->Option RV}{i:Nat}{o:Option RV}(h:(env.map f)[i]?=some o):∃o',env[i]?=some o'/\f o'=o:=by rw[List.getElem?_map]at h;cases e:env[i]? with|none=>rw[e]at h;cases h|some o'=>rw[e]at h;exact⟨o',rfl,Option.some.inj h⟩
theorem oq{i:Nat}{r:RV}(h:(zJ env)[i]?=some (some r)):∃t,r=↑P/\env[i]?=some (some ↑P):=by obtain⟨o,e,q⟩:=gI h;cases o with|none=>cases q|some r'=>obtain⟨b,t⟩:=r';cases b with|true=>cases q|false=>cases q;exact⟨t,rfl,e⟩
theorem j6(f:lE B F H)(h:H a=none):B.H a=none\/B.M a:=by cases e:B.H a with|none=>exact .inl rfl|some o=>
  by_cases hm:B.M a;·exact .inr hm
  ·rw[f.keep a o e hm]at h;cases h
theorem lE.ext(f:lE B F H)(x:xN F H F' H'):lE B F' H':=by
 refine⟨x.dom,λa h=>x.sub a (f.sub a h),λa h=>?_,λa o h hm=>x.same a o (f.keep a o h hm),f.f0⟩;rcases x.new a h with h|h;·exact f.new a h
 ·exact .inr (j6 f h)
theorem jb.hid(R:jb K B F H σ env):ky K F H σ (zJ env):=⟨R.fr.dom,λi r h=>by obtain⟨t,rfl,e⟩:=oq h;exact R.vals i t e⟩
def Yd(σ:St)(env:En)(a:Addr):Prop:=∃(i:Nat)(t:T),env[i]?=some (some (true,t))/\σ[i]?=some (some (V.ref a))
theorem jb.own_not(R:jb K B F H σ env)(h:Yd σ env a):¬F a/\H a≠none/\(B.H a=none\/B.M a):=by obtain⟨i,t,e,s⟩:=h;obtain⟨b,s',nf,fr,o⟩:=R.owns i t e;rw[s]at s';cases s';exact⟨nf,o.there,fr⟩
theorem jb.opn(R:jb K B F H σ env):ky K (λa=>F a\/Yd σ env a) H σ env:=⟨λa h=>by
  rcases h with h|h;·exact R.fr.dom a h
  ·exact(R.own_not h).2.1,λi r h=>by obtain⟨b,t⟩:=r;cases b with|false=>obtain⟨v,s,q⟩:=R.vals i t h;exact⟨v,s,q.mono ⟨λa h=>.inl h,λ_ _ _ h=>h,λ_ _ h _ _=>h⟩⟩|true=>obtain⟨a,s,nf,fr,o⟩:=R.owns i t h;exact⟨.ref a,s,o.is (λb h=>.inl h) (.inr ⟨i,t,h,s⟩)⟩⟩
theorem jb.ext(R:jb K B F H σ env)(x:xN F H F' H'):jb K B F' H' σ env:=⟨R.fr.ext x,R.len,λi t h=>let⟨v,s,q⟩:=R.vals i t h;⟨v,s,q.mono x.kept⟩,λi t h=>by
  obtain⟨a,s,nf,fr,o⟩:=R.owns i t h;refine⟨a,s,λz=>?_,fr,o.mono x.kept λo q=>x.same a o q⟩;rcases x.new a z with z|z;·exact nf z
  ·exact o.there z,R.sep⟩
theorem jb.closed(R:jb K B F H σ env)(x:xN (λa=>F a\/Yd σ env a) H F' H'):jb K B (λa=>F' a/\¬Yd σ env a) H' σ env/\xN F H (λa=>F' a/\¬Yd σ env a) H':=by
 have e:xN F H (λa=>F' a/\¬Yd σ env a) H':=⟨x.same,λa h=>⟨x.sub a (.inl h),λz=>(R.own_not z).1 h⟩,λa h=>by
  rcases x.new a h.1 with(z|z)|z;·exact .inl z
  ·exact absurd z h.2
  ·exact .inr z,λa h=>x.dom a h.1⟩;exact⟨R.ext e,e⟩
theorem jb.cleans(R:jb K B F H σ env)(x:xN (λa=>F a\/Yd σ env a) H F' H'):bV F' (λa=>F' a/\¬Yd σ env a) H' (env.any iW) (env.any uj) (env.any uk):=by
 have own:∀a,Yd σ env a->(∃xs,H' a=some (.lst xs)/\env.any iW=true)\/(∃xs,H' a=some (.dK xs)/\env.any uj=true)\/∃C dx xs,H' a=some (.ins C dx xs)/\env.any uk=true:=by intro a⟨i,t,e,s⟩;obtain⟨b,s',nf,fr,o⟩:=R.owns i t e;rw[s]at s';cases s';cases t with|lst ts=>obtain⟨vs,h,_⟩:=o;exact .inl ⟨vs,x.same _ _ h,List.any_eq_true.mpr ⟨_,List.mem_of_getElem? e,rfl⟩⟩|dct ks ts=>obtain⟨vs,h,_⟩:=o;exact .inr (.inl ⟨vs,x.same _ _ h,List.any_eq_true.mpr ⟨_,List.mem_of_getElem? e,rfl⟩⟩)|obj C fs ts=>obtain⟨dx,vs,h,_⟩:=o;exact .inr (.inr ⟨_,_,vs,x.same _ _ h,List.any_eq_true.mpr ⟨_,List.mem_of_getElem? e,rfl⟩⟩)|_=>exact o.elim
 refine⟨λa xs f h l=>⟨f,λz=>?_⟩,λa xs f h l=>⟨f,λz=>?_⟩,λa C dx xs f h l=>⟨f,λz=>?_⟩,λa ob u f h=>⟨f,λz=>?_⟩⟩
 ·rcases own a z with⟨ys,h',l'⟩|⟨ys,h',_⟩|⟨_,_,ys,h',_⟩;·rw[l]at l';cases l'
  ·rw[h]at h';cases h'
  ·rw[h]at h';cases h'
 ·rcases own a z with⟨ys,h',_⟩|⟨ys,h',l'⟩|⟨_,_,ys,h',_⟩;·rw[h]at h';cases h'
  ·rw[l]at l';cases l'
  ·rw[h]at h';cases h'
 ·rcases own a z with⟨ys,h',_⟩|⟨ys,h',_⟩|⟨_,_,ys,h',l'⟩;·rw[h]at h';cases h'
  ·rw[h]at h';cases h'
  ·rw[l]at l';cases l'
 ·rcases own a z with⟨ys,h',_⟩|⟨ys,h',_⟩|⟨_,_,ys,h',_⟩<;>(rw[h]at h';cases h')
theorem XF(c:bV F F' H l d o)(hs:∀a,F' a->F a)(hl:l=true->ZY r=true)(hd:d=true->XD r=true)(ho:o=true->XE r=true)(i:kL K fr F H v r):kL K fr F' H v r:=by obtain⟨b,t⟩:=r;unfold kL at i⊢;cases b with|false=>simp only[Bool.false_eq_true,if_false]at i⊢;exact Is.clean c (λz=>by have:=hl z;cases t<;>simpa[ZY]using this) (λz=>by have:=hd z;cases t<;>simpa[XD]using this) (λz=>by have:=ho z;cases t<;>simpa[XE]using this) i|true=>simp only[if_true]at i⊢;obtain⟨a,e,nf,f,o⟩:=i;refine⟨a,e,λz=>nf (hs a z),f,?_⟩;cases t with|lst ts=>obtain⟨vs,h,q⟩:=o;exact⟨vs,h,IsAll.clean c (λz=>hl z) (λz=>hd z) (λz=>ho z) q⟩|dct ks ts=>obtain⟨vs,h,k,q⟩:=o;exact⟨vs,h,k,IsAll.clean c (λz=>hl z) (λz=>hd z) (λz=>ho z) q⟩|obj C fs ts=>obtain⟨dx,vs,h,k,q⟩:=o;exact⟨dx,vs,h,k,IsAll.clean c (λz=>hl z) (λz=>hd z) (λz=>ho z) q⟩|_=>exact o.elim
theorem jb.frozen(R:jb K B F H σ env)(x:xN (λa=>F a\/Yd σ env a) H F' H'):jb K B F' H' σ (Vu env):=by
 have fr:lE B F' H':=⟨x.dom,λa h=>x.sub a (.inl (R.fr.sub a h)),λa h=>by
  rcases x.new a h with(z|z)|z;·exact R.fr.new a z
  ·exact .inr (R.own_not z).2.2
  ·exact .inr (j6 R.fr z),λa o h hm=>x.same a o (R.fr.keep a o h hm),R.fr.f0⟩;refine⟨fr,by unfold Vu;rw[List.length_map];exact R.len,λi t h=>?_,λi t h=>?_,λi j t t' a h=>?_⟩;·obtain⟨o,e,q⟩:=gI h;cases o with|none=>cases q|some r'=>
   obtain⟨b,t'⟩:=r';have:t'=t:=by cases b<;>(cases q;rfl)
   subst this;obtain⟨v,s,iv⟩:=R.opn.vals i _ e;exact⟨v,s,iv.mono x.kept⟩
 ·obtain⟨o,e,q⟩:=gI h;cases o with|none=>cases q|some r'=>obtain⟨b,t'⟩:=r';cases q
 ·obtain⟨o,e,q⟩:=gI h;cases o with|none=>cases q|some r'=>obtain⟨b,t'⟩:=r';cases q
theorem Vv{a:Addr}(h:Yd σ (Vu env) a):False:=by obtain⟨i,t,e,_⟩:=h;obtain⟨o,_,q⟩:=gI e;cases o with|none=>cases q|some r'=>obtain⟨b,t'⟩:=r';cases q
end
inductive Gf where|nx(env:En)|rt(r:RV)|bk(env:En)|ct(env:En)|exc(x:Ex)(env:En)|bad
abbrev MS:=En->Gf
def pW(X:Cx)(B:Bs)(D:tD):Gf->Prop|.nx env=>∀F H σ,jb X.K B F H σ env->D.nx σ H|.bk env=>∀F H σ,jb X.K B F H σ env->D.bk σ H|.ct env=>∀F H σ,jb X.K B F H σ env->D.ct σ H|.rt r=>∀v F H,Vt X.K B F H v r->D.rt v H|.exc x env=>∀ev F H σ,jb X.K B F H σ env->Qx X.K F H ev x->∀pins s',zu X pins σ H s'->X.xe ev s'|.bad=>False
def Ix(X:Cx)(t:TS)(m:MS):Prop:=∀(B:Bs)(F:Addr->Prop)(H:Hp)(σ:St)(env:En)(D:tD),jb X.K B F H σ env->pW X B D (m env)->t D σ H
def bZ(X:Cx)(st:Stmt)(m:MS):Prop:=∃t,PS X st t/\Ix X t m
def nZ(X:Cx)(st:List Stmt)(m:MS):Prop:=∃t,tE X st t/\Ix X t m
def wq.run(h:wq X t m)(R:jb X.K B F H σ env)(ok:∀r env',jR m env=.ok (r,env')->∀v F' H',jb X.K B F' H' σ env'->kL X.K ↑aH F' H' v r->(∀a,Yd σ env' a->H a≠none)->gk F F' H H'->Q v H')(ex:∀x,jR m env=.exc x->∀ev F' H',jb X.K B F' H' σ env->Qx X.K F' H' ev x->∀pins s',zu X pins σ H' s'->X.xe ev s')(nb:jR m env≠.bad):t σ H Q:=by unfold jR at ok ex nb;cases hm:m (zJ env)with
 |ok r=>rw[hm]at ok;exact h F H σ (zJ env) Q R.hid (by rw[hm];intro z;cases z) (λr' e v F' H' x i=>by rw[hm]at e;cases e;exact ok r env rfl v F' H' (R.ext x) i (λa z=>(R.own_not z).2.1) x.kept) λx z=>by rw[hm]at z;cases z|exc x=>rw[hm]at ex;exact h F H σ (zJ env) Q R.hid (by rw[hm];intro z;cases z) (λr' e=>by rw[hm]at e;cases e) λx' z ev F' H' e i pins s' I=>by rw[hm]at z;cases z;exact ex x rfl ev F' H' (R.ext e) i pins s' I
 |bad=>rw[hm]at ok ex nb;dsimp only at ok ex nb;cases hm2:m env with|bad=>rw[hm2]at nb;exact absurd rfl nb|ok r=>
   rw[hm2]at ok;dsimp only at ok;refine h _ H σ env Q R.opn (by rw[hm2];intro z;cases z) (λr' e v F' H' x i=>?_) λx z=>by rw[hm2]at z;cases z
   rw[hm2]at e;cases e;by_cases hc:clean env r=true
   ·have es:settle env r=env:=by unfold settle;rw[if_pos hc]
    rw[es]at ok;have hc':=ul hc;obtain⟨R',e'⟩:=R.closed x;exact ok r env rfl v _ H' R' (XF (R.cleans x) (λa z=>z.1) hc'.1 hc'.2.1 hc'.2.2 i) (λa z=>(R.own_not z).2.1) e'.kept
   ·have es:settle env r=Vu env:=by unfold settle;rw[if_neg hc]
    rw[es]at ok;exact ok r _ rfl v F' H' (R.frozen x) i (λa z=>(Vv z).elim) ⟨λa h=>x.sub a (.inl h),λa o _ h=>x.same a o h,λa o h _ _=>x.same a o h⟩|exc x=>
   rw[hm2]at ex nb;dsimp only at ex nb;by_cases hc:clean env (false,x.at_)=true;·rw[if_pos hc]at ex;refine h _ H σ env Q R.opn (by rw[hm2];intro z;cases z) (λr' e=>by rw[hm2]at e;cases e) λx' z ev F' H' e i pins s' I=>?_;rw[hm2]at z;cases z;have hc':=ul hc;obtain⟨R',e'⟩:=R.closed e;exact(i:False).elim
   ·rw[if_neg hc]at nb;exact absurd rfl nb
section
variable{K:W.Frag}{B:Bs}{F F':Addr->Prop}{H H':Hp}{σ:St}{env:En}{v:V}{r:RV}
theorem xn{α:Type}{l:List α}{i j:Nat}{a b:α}(h:(l.set i a)[j]?=some b):(j=i/\i<l.length/\b=a)\/(j≠i/\l[j]?=some b):=by
 by_cases e:j=i;·subst e;have hl:j<(l.set j a).length:=(List.getElem?_eq_some_iff.mp h).1;rw[List.length_set]at hl;rw[List.getElem?_set_self hl]at h;exact .inl ⟨rfl,hl,(Option.some.inj h).symm⟩
 ·rw[List.getElem?_set_ne (Ne.symm e)]at h;exact .inr ⟨e,h⟩
theorem jb.put(R:jb K B F' H' σ env)(i:Nat)(h:kL K ↑aH F' H' v r)(hb:∀a,H a=none->B.H a=none\/B.M a)(old:∀a,Yd σ env a->H a≠none):jb K B F' H' (σ.set i (some v)) (env.set i (some r)):=by
 have hs:∀j,j≠i->(σ.set i (some v))[j]?=σ[j]?:=λj hj=>List.getElem?_set_ne (Ne.symm hj);have hself:i<env.length->(σ.set i (some v))[i]?=some (some v):=λhi=>List.getElem?_set_self (by rw[<-R.len];exact hi);refine⟨R.fr,by rw[List.length_set,List.length_set];exact R.len,λj t e=>?_,λj t e=>?_,λj k t t' a e1 e2 s1 s2=>?_⟩
 ·rcases xn e with⟨rfl,hl,er⟩|⟨hj,e⟩;·refine⟨v,hself hl,?_⟩;have er:=(Option.some.inj er).symm;subst er;exact h.is
  ·rw[hs j hj];exact R.vals j t e
 ·rcases xn e with⟨rfl,hl,er⟩|⟨hj,e⟩;·have er:=(Option.some.inj er).symm;subst er;obtain⟨a,rfl,nf,fr,th,w⟩:=h.there rfl;exact⟨a,hself hl,nf,hb a fr,w⟩
  ·rw[hs j hj];exact R.owns j t e
 ·rcases xn e1 with⟨rfl,hl,er⟩|⟨hj,e1'⟩
  ·have er:=(Option.some.inj er).symm;subst er;obtain⟨b,rfl,nf,fr,th,w⟩:=h.there rfl;rw[hself hl]at s1;cases s1;rcases xn e2 with⟨rfl,_,_⟩|⟨hk,e2⟩;·rfl
   ·rw[hs k hk]at s2;exact absurd fr (old _ ⟨k,t',e2,s2⟩)
  ·rw[hs j hj]at s1;rcases xn e2 with⟨rfl,hl,er⟩|⟨hk,e2⟩;·have er:=(Option.some.inj er).symm;subst er;obtain⟨b,rfl,nf,fr,th,w⟩:=h.there rfl;rw[hself hl]at s2;cases s2;exact absurd fr (old _ ⟨j,t,e1',s1⟩)
   ·rw[hs k hk]at s2;exact R.sep j k t t' a e1' e2 s1 s2
end
def zn(i:Nat)(m:ME):MS:=λenv=>match jR m env with|.ok (r,env')=>.nx (env'.set i (some r))|.exc x=>.exc x env|.bad=>.bad
def zt(m:ME):MS:=λenv=>match jR m env with|.ok (r,_)=>.rt r|.exc x=>.exc x env|.bad=>.bad
def zq:MS:=λenv=>.nx env
def NV:MS:=λenv=>.bk env
def NX:MS:=λ_=>.bad
def xx(i:Nat):MS:=λenv=>match env[i]? with|some (some r)=>.rt r|_=>.bad
def zc(a b:MS):MS:=λenv=>match a env with|.nx env'=>b env'|o=>o
section
variable{X:Cx}{e:Expr}{st:Stmt}{rest:List Stmt}{m:ME}{ms mr:MS}{pos:Pos}
theorem zN:nZ X [] zq:=⟨_,bG,λB F H σ env D R w=>w F H σ R⟩
theorem zf(h:bZ X st ms):nZ X [st] ms:=let⟨t,p,s⟩:=h;⟨t,uG p,s⟩
theorem z8(h:bZ X st ms)(g:nZ X rest mr):nZ X (st::rest) (zc ms mr):=by obtain⟨t,p,s⟩:=h;obtain⟨u,p',s'⟩:=g;refine⟨_,qp p p',?_⟩;intro B F H σ env D R w;refine s B F H σ env _ R ?_;unfold zc at w;cases ho:ms env with|nx env'=>rw[ho]at w;exactλF' H' σ' R'=>s' B F' H' σ' env' D R' w|rt r=>rw[ho]at w;exact w|bk env'=>rw[ho]at w;exact w|ct env'=>rw[ho]at w;exact w|exc x env'=>rw[ho]at w;exact w|bad=>rw[ho]at w;exact w
theorem Gg:bZ X (.Break pos) NV:=⟨_,WO,λB F H σ env D R w=>w F H σ R⟩
theorem Gh:bZ X st NX:=⟨_,WR,λB F H σ env D R w=>w.elim⟩
theorem zH(h:jK X e m):bZ X (.Return (some e) pos) (zt m):=by
 obtain⟨t,p,s⟩:=h;refine⟨_,Zv p,?_⟩;intro B F H σ env D R w;unfold zt at w;refine s.run R (λr env' e v F' H' R' i _ _=>?_) (λx e ev F' H' R' i pins s' I=>?_) λe=>?_
 ·rw[e]at w;refine w v F' H' ⟨R'.fr,?_⟩;unfold kL at i⊢;split;·rename_i ho;rw[if_pos ho]at i;obtain⟨a,e,nf,fr,o⟩:=i;exact⟨a,e,nf,j6 R.fr fr,o⟩
  ·rename_i ho;rw[if_neg ho]at i;exact i
 ·rw[e]at w;exact w ev F' H' σ R' i pins s' I
 ·rw[e]at w;exact w
theorem kc(i:Nat)(hN:X.N[i]?=some x:=by rfl)(hv:WB X.env.scope x:=by first|exact Or.inl rfl|exact Or.inr (Or.inl rfl)|exact Or.inr (Or.inr rfl))(hd:(x==↑t)=false:=by decide)(hcd:(x==("__classdict__":Str))=false:=by decide):bZ X (.Return (some (.Name x p2)) pos) (xx i):=by refine⟨_,Zv (gG hN hv hd hcd),?_⟩;intro B F H σ env D R w;unfold xx at w;cases he:env[i]? with|none=>rw[he]at w;exact w.elim|some o=>cases o with|none=>rw[he]at w;exact w.elim|some r=>rw[he]at w;obtain⟨b,t⟩:=r;cases b with|false=>obtain⟨v,s,q⟩:=R.vals i t he;exact⟨v,s,w v F H ⟨R.fr,jD q⟩⟩|true=>obtain⟨a,s,nf,fr,o⟩:=R.owns i t he;refine⟨.ref a,s,w _ F H ⟨R.fr,?_⟩⟩;unfold kL;rw[if_pos rfl];exact⟨a,rfl,nf,fr,o⟩
theorem Iy(hN:X.N.Nodup)(hi:X.N[i]?=some x)(hx:tm X.env.scope x)(h:jK X e m)(hs:swapsWith e (some (.Name x pos')) pos.line X.env=pure false:=by rfl)(hf:X.fn x=true\/X.env.scope.names.lookup x=some .local:=by first|exact .inl rfl|exact .inr rfl|assumption):bZ X (.Assign [.Name x pos'] e pos) (zn i m):=by
 obtain⟨t,p,s⟩:=h;refine⟨_,Zw (i:=i) hN hi hx p hs hf,?_⟩;intro B F H σ env D R w;unfold zn at w;refine s.run R (λr env' e v F' H' R' i' old _=>?_) (λx e ev F' H' R' i pins s' I=>?_) λe=>?_;·rw[e]at w;exact w F' H' _ (R'.put i i' (λa q=>j6 R.fr q) old)
 ·rw[e]at w;exact w ev F' H' σ R' i pins s' I
 ·rw[e]at w;exact w
def xl(m:MT)(env:En):gl Bool:=match m (zJ env)with
 |.bad=>match m env with|.exc x=>if clean env (false,x.at_)=true then .exc x else .bad|o=>o
 |o=>o
theorem kN.run{t:TT}{m:MT}(h:kN X t m){B:Bs}{F:Addr->Prop}{H:Hp}{σ:St}{env:En}{Q:Bool->Hp->Prop}(R:jb X.K B F H σ env)(ok:∀b,xl m env=.ok b->∀F' H',jb X.K B F' H' σ env->Q b H')(ex:∀x,xl m env=.exc x->∀ev F' H',jb X.K B F' H' σ env->Qx X.K F' H' ev x->∀pins s',zu X pins σ H' s'->X.xe ev s')(nb:xl m env≠.bad):t σ H Q:=by unfold xl at ok ex nb;cases hm:m (zJ env)with|ok b=>rw[hm]at ok;exact h F H σ (zJ env) Q R.hid (by rw[hm];intro z;cases z) (λr' e F' H' x=>by rw[hm]at e;cases e;exact ok b rfl F' H' (R.ext x)) λx z=>by rw[hm]at z;cases z|exc x=>rw[hm]at ex;exact h F H σ (zJ env) Q R.hid (by rw[hm];intro z;cases z) (λr' e=>by rw[hm]at e;cases e) λx' z ev F' H' e i pins s' I=>by rw[hm]at z;cases z;exact ex x rfl ev F' H' (R.ext e) i pins s' I|bad=>rw[hm]at ok ex nb;dsimp only at ok ex nb;cases hm2:m env with|bad=>rw[hm2]at nb;exact absurd rfl nb|ok b=>rw[hm2]at ok;exact h _ H σ env Q R.opn (by rw[hm2];intro z;cases z) (λr' e F' H' x=>by rw[hm2]at e;cases e;exact ok b rfl _ H' (R.closed x).1) λx z=>by rw[hm2]at z;cases z|exc x=>
   rw[hm2]at ex nb;dsimp only at ex nb;by_cases hc:clean env (false,x.at_)=true;·rw[if_pos hc]at ex;refine h _ H σ env Q R.opn (by rw[hm2];intro z;cases z) (λr' e=>by rw[hm2]at e;cases e) λx' z ev F' H' e i pins s' I=>?_;rw[hm2]at z;cases z;have hc':=ul hc;obtain⟨R',e'⟩:=R.closed e;exact(i:False).elim
   ·rw[if_neg hc]at nb;exact absurd rfl nb
def jN(c:MT)(a b:MS):MS:=λenv=>match xl c env with|.ok k=>if k=true then a env else b env|.exc x=>.exc x env|.bad=>.bad
theorem xw{c:Expr}{a b:List Stmt}{mc:MT}{m1 m2:MS}(hc:o9 X c mc)(ha:nZ X a m1)(hb:nZ X b m2):bZ X (.If c a b pos) (jN mc m1 m2):=by
 obtain⟨tc,pc,sc⟩:=hc;obtain⟨t1,p1,s1⟩:=ha;obtain⟨t2,p2,s2⟩:=hb;refine⟨_,WQ pc p1 p2,?_⟩;intro B F H σ env D R w;unfold jN at w;refine sc.run R (λk e F' H' R'=>?_) (λx e ev F' H' R' i pins s' I=>?_) λe=>?_;·rw[e]at w;cases k with|true=>rw[if_pos rfl];exact s1 B F' H' σ env D R' w|false=>rw[if_neg Bool.false_ne_true];exact s2 B F' H' σ env D R' w
 ·rw[e]at w;exact w ev F' H' σ R' i pins s' I
 ·rw[e]at w;exact w
def je(c:MT)(b:MS):Nat->MS|0=>λ_=>.bad|n+1=>λenv=>match xl c env with|.ok k=>if k=true then(match b env with|.nx env'=>je c b n env'|.ct env'=>je c b n env'|.bk env'=>.nx env'|o=>o)else .nx env|.exc x=>.exc x env|.bad=>.bad
theorem uP(n:Nat)(hp:PassesOwn ↑b X.A X.env X.xe)(hc:o9 X c mc)(hb:nZ X body mb):bZ X (.While c body [] pos) (je mc mb n):=by obtain⟨tc,pc,sc⟩:=hc;obtain⟨tb,pb,sb⟩:=hb;refine⟨_,WT hp pc pb,?_⟩;intro B F H σ env D R w;refine⟨λk σ H=>∃F env,jb X.K B F H σ env/\pW X B D (je mc mb k env),⟨n,F,env,R,w⟩,?_⟩;rintro k σ H⟨F,env,R,w⟩;cases k with|zero=>exact w.elim|succ k=>
  unfold je at w;refine sc.run R (λc e F' H' R'=>?_) (λx e ev F' H' R' i pins s' I=>?_) λe=>?_;·rw[e]at w;cases c with|false=>rw[if_neg Bool.false_ne_true];exact w F' H' σ R'|true=>rw[if_pos rfl];refine⟨λσ' H'=>∃F env,jb X.K B F H' σ' env/\pW X B D (je mc mb k env),λσ' H' q=>⟨k,Nat.lt_succ_self _,q⟩,?_⟩;refine sb B F' H' σ env _ R' ?_;have w:pW X B D (match mb env with|.nx env'=>je mc mb k env'|.ct env'=>je mc mb k env'|.bk env'=>.nx env'|o=>o):=w;cases ho:mb env with|nx env'=>rw[ho]at w;exactλF2 H2 σ2 R2=>⟨F2,env',R2,w⟩|ct env'=>rw[ho]at w;exactλF2 H2 σ2 R2=>⟨F2,env',R2,w⟩|bk env'=>rw[ho]at w;exact w|rt r=>rw[ho]at w;exact w|exc x env'=>rw[ho]at w;exact w|bad=>rw[ho]at w;exact w
  ·rw[e]at w;exact w ev F' H' σ R' i pins s' I
  ·rw[e]at w;exact w
end
section
variable{K:W.Frag}{B:Bs}{F F':Addr->Prop}{H H':Hp}{σ:St}{env:En}{v:V}{r:RV}
theorem jb.mut(R:jb K B F H σ env)(e:env[i]?=some (some (true,t)))(s:σ[i]?=some (some (.ref a)))(w:vw K F (jm H a o) a t'):jb K B F (jm H a o) σ (env.set i (some (true,t'))):=by
 obtain⟨b,s',nf,fr,w0⟩:=R.owns i t e;rw[s]at s';cases s';have hi:i<env.length:=(List.getElem?_eq_some_iff.mp e).1;have ne:∀b,F b->b≠a:=λb f z=>nf (z▸f);have k:gk F F H (jm H a o):=by
  refine⟨λ_ h=>h,λb u f h=>by rw[zh (ne b f)];exact h,λb u h h1 h2=>?_⟩;have:b≠a:=by rintro rfl;cases t with|lst ts=>obtain⟨vs,q,_⟩:=w0;rw[h]at q;exact h1 vs (Option.some.inj q)|dct ks ts=>obtain⟨vs,q,_⟩:=w0;rw[h]at q;exact h2.1 vs (Option.some.inj q)|obj C fs ts=>obtain⟨dx,vs,q,_⟩:=w0;rw[h]at q;exact h2.2 C dx vs (Option.some.inj q)|_=>exact w0.elim
  rw[zh this];exact h
 refine⟨⟨λb f=>?_,R.fr.sub,R.fr.new,λb u h hm=>?_,R.fr.f0⟩,by rw[List.length_set];exact R.len,λj u h=>?_,λj u h=>?_,λj l u u' c e1 e2 s1 s2=>?_⟩;·rw[zh (ne b f)];exact R.fr.dom b f
 ·have:b≠a:=by
   rintro rfl;rcases fr with fr|fr;·rw[h]at fr;cases fr
   ·exact hm fr
  rw[zh this];exact R.fr.keep b u h hm
 ·rcases xn h with⟨rfl,_,z⟩|⟨hj,h⟩;·cases z
  ·obtain⟨x,sx,q⟩:=R.vals j u h;exact⟨x,sx,q.mono k⟩
 ·rcases xn h with⟨rfl,_,z⟩|⟨hj,h⟩
  ·have z:=Option.some.inj z;have:u=t':=by injection z
   subst this;exact⟨a,s,nf,fr,w⟩
  ·obtain⟨b,sb,nfb,frb,wb⟩:=R.owns j u h;refine⟨b,sb,nfb,frb,wb.mono k λq hq=>?_⟩;have:b≠a:=by rintro rfl;exact hj (R.sep j i u t b h e sb s)
   rw[zh this];exact hq
 ·have e1':∃t,env[j]?=some (some (true,t)):=by
   rcases xn e1 with⟨rfl,_,_⟩|⟨_,h⟩;·exact⟨t,e⟩
   ·exact⟨u,h⟩
  have e2':∃t,env[l]?=some (some (true,t)):=by
   rcases xn e2 with⟨rfl,_,_⟩|⟨_,h⟩;·exact⟨t,e⟩
   ·exact⟨u',h⟩
  obtain⟨_,e1'⟩:=e1';obtain⟨_,e2'⟩:=e2';exact R.sep j l _ _ c e1' e2' s1 s2
theorem jb.freeze(R:jb K B F' H' σ env)(h:kL K ↑aH F' H' v r)(hb:∀a,H a=none->B.H a=none\/B.M a)(old:∀a,Yd σ env a->H a≠none):∃F2,jb K B F2 H' σ env/\Is K F2 H' r.2 v/\∀a,F' a->F2 a:=by
 by_cases o:r.1=true
 ·obtain⟨a,rfl,nf,fr,th,w⟩:=h.there o;have k:gk F' (λb=>F' b\/b=a) H' H':=⟨λb f=>.inl f,λ_ _ _ h=>h,λ_ _ h _ _=>h⟩;refine⟨λb=>F' b\/b=a,⟨⟨λb f=>?_,λb f=>.inl (R.fr.sub b f),λb f=>?_,R.fr.keep,R.fr.f0⟩,R.len,λj u q=>?_,λj u q=>?_,R.sep⟩,w.is (λb f=>.inl f) (.inr rfl),λb f=>.inl f⟩
  ·rcases f with f|rfl;·exact R.fr.dom b f
   ·exact th
  ·rcases f with f|rfl;·exact R.fr.new b f
   ·exact .inr (hb b fr)
  ·obtain⟨x,sx,q⟩:=R.vals j u q;exact⟨x,sx,q.mono k⟩
  ·obtain⟨b,sb,nfb,frb,wb⟩:=R.owns j u q;refine⟨b,sb,λz=>?_,frb,wb.mono k λ_ h=>h⟩;rcases z with z|rfl;·exact nfb z
   ·exact old b ⟨j,u,q,sb⟩ fr
 ·obtain⟨b,t⟩:=r;cases b with|true=>exact absurd rfl o|false=>exact⟨F',R,h.is,λ_ f=>f⟩
end
def kQ(i:Nat)(m:ME):MS:=λenv=>match env[i]? with|some (some (true,.lst _))=>(match jR m env with|.ok (r,env')=>(match env'[i]? with|some (some (true,.lst ts))=>if ts.length<sizeLine then .nx (env'.set i (some (true,.lst (ts++[r.2]))))else .bad|_=>.bad)|.exc x=>.exc x env|.bad=>.bad)|_=>.bad
def wT(nf:¬F a)(h:H a=some o)(ho:(∃xs,o=.lst xs)\/(∃xs,o=.dK xs)\/∃C d xs,o=.ins C d xs):gk F F H (jm H a u):=by
 refine⟨λ_ h=>h,λb q f h=>?_,λb q hq h1 h2=>?_⟩
 ·have:b≠a:=by rintro rfl;exact nf f
  rw[zh this];exact h
 ·have:b≠a:=by
   rintro rfl;rw[hq]at h;cases h;rcases ho with⟨xs,rfl⟩|⟨xs,rfl⟩|⟨C,d,xs,rfl⟩;·exact h1 xs rfl
   ·exact h2.1 xs rfl
   ·exact h2.2 C d xs rfl
  rw[zh this];exact hq
section
variable{X:Cx}{e ek:Expr}{m mk mv:ME}{pos:Pos}
theorem iX{i:Nat}{st:Stmt}(he:jK X e m)(hp:∀te,PE X e te->PS X st (JT (Ez X.K "list" JY (k8 i) (V0 te QP)))):bZ X st (kQ i m):=by
 obtain⟨te,pe,se⟩:=he;refine⟨_,hp te pe,?_⟩;intro B F H σ env D R w;unfold kQ at w;split at w
 ·rename_i ts0 hi;obtain⟨a,s,nf,fr,vs,hH,iv⟩:=R.owns i _ hi;refine⟨.ref a,s,.inl ⟨rfl,vs,.inl (.inl hH)⟩,?_⟩;refine se.run R (λr env' er v F' H' R' iv' old kp=>?_) (λx er ev F' H' R' ix pins s' I=>?_) λer=>?_
  ·rw[er]at w;dsimp only at w;split at w
   ·rename_i ts' hi';split at w;·rename_i hl;obtain⟨F2,R2,i2,_⟩:=R'.freeze iv' (λa q=>j6 R.fr q) old;obtain⟨a',s',nf',fr',vs',hH',iv2⟩:=R2.owns i _ hi';rw[s]at s';cases s';refine⟨a,vs',v,rfl,rfl,hH',by rw[<-iv2.len];exact hl,?_⟩;refine w F2 _ σ (R2.mut hi' s ⟨vs'++[v],zF,?_⟩);exact(iv2.append (IsAll.cons i2 IsAll.nil)).mono (wT nf' hH' (.inl ⟨_,rfl⟩))
    ·exact w.elim
   ·exact w.elim
  ·rw[er]at w;exact w ev F' H' σ R' ix pins s' I
  ·rw[er]at w;exact w
 ·exact w.elim
def iY(i:Nat):MS:=λenv=>match env[i]? with|some (some (true,.lst ts))=>if ts=[]then .bad else .nx (env.set i (some (true,.lst ts.dropLast)))|_=>.bad
instance(ts:List T):Decidable (ts=[]):=by cases ts with|nil=>exact .isTrue rfl|cons _ _=>exact .isFalse (by intro z;cases z)
theorem IsAll.dropLast{K:W.Frag}{F:Addr->Prop}{H:Hp}{ts:List T}{vs:List V}(h:IsAll K F H ts vs):IsAll K F H ts.dropLast vs.dropLast:=by rw[List.dropLast_eq_take,List.dropLast_eq_take,<-h.len];exact h.take _
theorem NY{i:Nat}{st:Stmt}(hp:PS X st (JT (Ih X.K "list" Ii (k8 i)))):bZ X st (iY i):=by
 refine⟨_,hp,?_⟩;intro B F H σ env D R w;unfold iY at w;split at w
 ·rename_i ts0 hi;obtain⟨a,s,nf,fr,vs,hH,iv⟩:=R.owns i _ hi;split at w;·exact w.elim
  ·rename_i hne;have hl:=iv.len;have hv:0<vs.length:=by cases ts0 with|nil=>exact absurd rfl hne|cons _ _=>rw[<-hl];simp
   refine⟨.ref a,s,.inl ⟨rfl,vs,.inl (.inl hH)⟩,a,vs,vs[vs.length-1],rfl,rfl,hH,by simp[hv],w F _ σ (R.mut hi s ⟨vs.dropLast,zF,?_⟩)⟩;exact iv.dropLast.mono (wT nf hH (.inl ⟨_,rfl⟩))
 ·exact w.elim
def m3(i:Nat)(mk mv:ME):MS:=λenv=>match jR mv env with|.ok (r,env1)=>(match env1[i]? with|some (some (true,.lst _))=>(match jR mk env1 with|.ok (k,env2)=>(match env2[i]?,k.2 with|some (some (true,.lst ts)),.int k=>(match JW ts.length k with|some j=>.nx (env2.set i (some (true,.lst (ts.set j r.2))))|none=>.bad)|_,_=>.bad)|.exc x=>.exc x env1|.bad=>.bad)|_=>.bad)|.exc x=>.exc x env|.bad=>.bad
theorem Gi{i:Nat}{st:Stmt}(hk:jK X ek mk)(hv:jK X e mv)(hp:∀tk te,PE X ek tk->PE X e te->PS X st (tJ te (LP (k8 i) tk Uj))):bZ X st (m3 i mk mv):=by
 obtain⟨tk,pk,sk⟩:=hk;obtain⟨te,pe,se⟩:=hv;refine⟨_,hp tk te pk pe,?_⟩;intro B F H σ env D R w;unfold m3 at w;refine se.run R (λr env1 er v F1 H1 R1 iv1 old1 kp1=>?_) (λx er ev F' H' R' ix pins s' I=>?_) λer=>?_
 ·rw[er]at w;dsimp only at w;obtain⟨F2,R2,i2,_⟩:=R1.freeze iv1 (λa q=>j6 R.fr q) old1;split at w
  ·rename_i ts0 hi;obtain⟨a,s,nf,fr,vs,hH,iv⟩:=R2.owns i _ hi;refine⟨.ref a,s,?_⟩;refine sk.run R2 (λk env2 er2 vk F3 H3 R3 iv3 old3 kp3=>?_) (λx er ev F' H' R' ix pins s' I=>?_) λer=>?_
   ·rw[er2]at w;dsimp only at w;split at w
    ·rename_i x1 ts kk hi' hk';split at w
     ·rename_i j hj;obtain⟨a',s',nf',fr',vs',hH',iv2⟩:=R3.owns i _ hi';rw[s]at s';cases s';obtain⟨bk,tk'⟩:=k;dsimp only at hk';subst hk';have:vk=.int kk:=by cases bk with|false=>have:=iv3.is;unfold Is at this;exact this|true=>obtain⟨_,_,_,_,_,w'⟩:=iv3.there rfl;exact w'.elim
      refine⟨a,vs',kk,j,rfl,this,hH',by rw[<-iv2.len];exact hj,?_⟩;refine w F3 _ σ (R3.mut hi' s ⟨vs'.set j v,zF,?_⟩);exact(iv2.set j (i2.mono kp3)).mono (wT nf' hH' (.inl ⟨_,rfl⟩))
     ·exact w.elim
    ·exact w.elim
   ·rw[er]at w;exact w ev F' H' σ R' ix pins s' I
   ·rw[er]at w;exact w
  ·exact w.elim
 ·rw[er]at w;exact w ev F' H' σ R' ix pins s' I
 ·rw[er]at w;exact w
def Ye(k:Key)(t:T):List Key->List T->List T|x::ks,u::ts=>(if x=k then t else u)::Ye k t ks ts|_,_=>[]
def uQ(ks:List Key)(ts:List T)(k:Key)(t:T):T:=if ks.any (λx=>decide (x=k))=true then .dct ks (Ye k t ks ts)else .dct (ks++[k]) (ts++[t])
theorem ot{K:W.Frag}{F:Addr->Prop}{H H':Hp}{a:Addr}{ks:List Key}{ts:List T}{kvs:List (Key×V)}{k:Key}{t:T}{v:V}(hk:kvs.map (·.1)=ks)(i:IsAll K F H ts (kvs.map (·.2)))(iv:Is K F H t v)(kp:gk F F H H')(hH:H' a=some (.dK (ka kvs k v))):vw K F H' a (uQ ks ts k t):=by
 unfold uQ;have any_eq:ks.any (λx=>decide (x=k))=kvs.any λkv=>decide (kv.1=k):=by rw[<-hk,List.any_map];rfl
 by_cases h:ks.any (λx=>decide (x=k))=true
 ·rw[if_pos h];rw[any_eq]at h;have e:ka kvs k v=kvs.map λkv=>if kv.1=k then(kv.1,v)else kv:=by unfold ka;rw[if_pos h]
  refine⟨_,hH,?_,?_⟩;·rw[e,<-hk,List.map_map];refine List.map_congr_left λkv _=>?_;show(if kv.1=k then(kv.1,v)else kv).1=kv.1;split<;>rfl
  ·rw[e];have:∀{kvs:List (Key×V)}{ks:List Key}{ts:List T},kvs.map (·.1)=ks->IsAll K F H ts (kvs.map (·.2))->IsAll K F H (Ye k t ks ts) ((kvs.map λkv=>if kv.1=k then(kv.1,v)else kv).map (·.2)):=by intro kvs;induction kvs with
    |nil=>intro ks ts hk i;subst hk;cases ts with|nil=>exact IsAll.nil|cons _ _=>unfold IsAll at i;obtain⟨_,_,z,_⟩:=i;cases z
    |cons kv kvs ih=>intro ks ts hk i;subst hk;cases ts with|nil=>unfold IsAll at i;cases i|cons u ts=>
      unfold IsAll at i;obtain⟨v',r,z,i1,i2⟩:=i;cases z;show IsAll K F H ((if kv.1=k then t else u)::Ye k t (kvs.map (·.1)) ts) ((if kv.1=k then(kv.1,v)else kv).2::_);refine IsAll.cons ?_ (ih rfl i2);split;·exact iv
      ·exact i1
   exact(this hk i).mono kp
 ·rw[if_neg h];rw[any_eq]at h;have e:ka kvs k v=kvs++[(k,v)]:=by unfold ka;rw[if_neg h]
  refine⟨_,hH,by rw[e,List.map_append,hk];rfl,?_⟩;rw[e,List.map_append];exact(i.append (IsAll.cons iv IsAll.nil)).mono kp
theorem Gj{K:W.Frag}{fr F:Addr->Prop}{H:Hp}{v:V}{r:RV}{k:Key}(h:kL K fr F H v r)(e:iR r.2=some k):v=kV k:=by obtain⟨b,t⟩:=r;cases b with
 |true=>obtain⟨_,_,_,_,_,w⟩:=h.there rfl;cases t<;>first|exact w.elim|cases e
 |false=>
  have h:=h.is;cases t<;>simp only[iR,reduceCtorEq,Option.some.injEq]at e;case int i=>subst e;unfold Is at h;exact h
  case str i=>subst e;unfold Is at h;exact h
def dS(i:Nat)(f:T->T->Option RV)(m:ME):MS:=λenv=>match env[i]? with|some (some ↑P)=>(match jR m env with|.ok (r,env')=>(match f t r.2 with|some (false,u)=>.nx (env'.set i (some (false,u)))|_=>.bad)|.exc x=>.exc x env|.bad=>.bad)|_=>.bad
def NZ(X:Cx)(op:Operator)(f:T->T->Option RV):Prop:=Dr X op λx y H Q=>∃F tx ty u,dN F H/\Is X.K F H tx x/\Is X.K F H ty y/\f tx ty=some (false,u)/\∀v F' H',xN F H F' H'->Is X.K F' H' u v->Q v H'
end
def uR:T->T->Option RV|.int i,.int j=>some (false,.int (i+j))|.str x,.str y=>if x.length+y.length<=sizeLine then some (false,.str (x++y))else none|_,_=>none
def a6:NZ X .Add uR:=by
 intro pins s σ H x y v u Q I rx ry h;obtain⟨F,tx,ty,w,d,ix,iy,e,q⟩:=h;cases tx<;>cases ty<;>simp only[uR,reduceCtorEq]at e;case int.int i j=>unfold Is at ix iy;subst ix iy;cases e;obtain⟨t,rfl⟩:=rx;obtain⟨t',rfl⟩:=ry;exact iadd_int ⟨.int _,H,I.tok _,⟨_,rfl⟩,q _ F H (.refl d) xm⟩
 case str.str i j=>unfold Is at ix iy;subst ix iy;split at e<;>cases e;rename_i hl;obtain⟨t,rfl⟩:=rx;obtain⟨t',rfl⟩:=ry;exact iadd_str (λt' tk=>⟨.str _,H,I.tok _,⟨_,rfl⟩,q _ F H (.refl d) kO⟩) hl
def Iz(ho:NZ X op f)(hN:X.N.Nodup)(hi:X.N[i]?=some x)(hx:tm X.env.scope x)(h:jK X e m)(hf:X.fn x=true\/X.env.scope.names.lookup x=some .local:=by first|exact .inl rfl|exact .inr rfl|assumption):bZ X (.AugAssign (.Name x pos') op e pos) (dS i f m):=by
 obtain⟨te,pe,se⟩:=h;refine⟨_,Ng hN hi hx pe ho hf,?_⟩;intro B F H σ env D R w;unfold dS at w;split at w
 ·rename_i t hi';obtain⟨v0,s0,q0⟩:=R.vals i t hi';refine⟨v0,s0,?_⟩;refine se.run R (λr env' er v F' H' R' iv' old kp=>?_) (λx er ev F' H' R' ix pins s' I=>?_) λer=>?_
  ·rw[er]at w;dsimp only at w;split at w;·rename_i u hu;obtain⟨F2,R2,i2,s2⟩:=R'.freeze iv' (λa q=>j6 R.fr q) old;have q1:Is X.K F2 H' t v0:=(q0.mono kp).mono ⟨s2,λ_ _ _ h=>h,λ_ _ h _ _=>h⟩;refine⟨F2,t,r.2,u,R2.fr.dom,q1,i2,hu,λv' F3 H3 x3 i3=>?_⟩;have R3:=R2.ext x3;exact w F3 H3 _ (R3.put i (jD i3) (λa q=>j6 R3.fr q) λa z=>(R3.own_not z).2.1)
   ·exact w.elim
  ·rw[er]at w;exact w ev F' H' σ R' ix pins s' I
  ·rw[er]at w;exact w
 ·exact w.elim
def qy:T->Option (List T)|.lst ts=>some ts|.tup ts=>some ts|.str z=>some (z.cps.toList.map λc=>.str ⟨#[c]⟩)|_=>none
def gK(K:W.Frag)(F:Addr->Prop)(H:Hp)(J:It)(ts:List T):Prop:=∀F2 H2,gk F F2 H H2->∀i:Nat,(i<ts.length->J.go i H2/\∀x H3,J.yld i H2 x H3->H3=H2/\∃t,ts[i]?=some t/\Is K F2 H2 t x)/\(ts.length<=i->J.stop i H2)
abbrev MI:=En->gl (List T×En)
def EL(X:Cx)(wi:TI)(it:MI):Prop:=∀(B:Bs)(F:Addr->Prop)(H:Hp)(σ:St)(env:En)(R:It->Hp->Prop),jb X.K B F H σ env->it env≠.bad->(∀ts env',it env=.ok (ts,env')->∀J F' H',jb X.K B F' H' σ env'->gK X.K F' H' J ts->R J H')->(∀x,it env=.exc x->∀ev F' H',jb X.K B F' H' σ env->Qx X.K F' H' ev x->∀pins s',zu X pins σ H' s'->X.xe ev s')->wi σ H R
def HJ(X:Cx)(tg iter:Expr)(it:MI):Prop:=∃wi,PI X tg iter wi/\EL X wi it
def EM(K:W.Frag)(tl:TE):TI:=λσ H R=>Uh K tl σ H R\/LR K tl σ H R\/Im tl σ H R
def ZZ(h:PE X e tl):PI X tg e (EM X.K tl):=by
 intro pins s σ H R I w;rcases w with w|w|w;·exact QI h pins s σ H R I w
 ·exact Ni h pins s σ H R I w
 ·exact NM h pins s σ H R I w
def um{K:W.Frag}{F:Addr->Prop}{H:Hp}{a:Addr}{vs:List V}{ts:List T}(g1:lw K H a vs)(g2:IsAll K F H ts vs):gK K F H (El K a) ts:=by intro F2 H2 k i;have h1:=tZ g1 k.rest;have h2:=g2.mono k;have hl:=h2.len;refine⟨λhi=>⟨⟨vs,vs[i],h1,by simp[<-hl,hi]⟩,λx H3 y=>⟨y.1,?_⟩⟩,λhi=>⟨vs,h1,by omega⟩⟩;have hx:=y.2 vs h1;obtain⟨v,hv,iv⟩:=h2.get (i:=i) (t:=ts[i]) (by simp[hi]);rw[hx]at hv;cases hv;exact⟨ts[i],by simp[hi],iv⟩
def uo{K:W.Frag}{F:Addr->Prop}{H:Hp}{z:Str}:gK K F H (HG z) (z.cps.toList.map λc=>.str ⟨#[c]⟩):=by
 intro F2 H2 k i;have hl:(z.cps.toList.map λc=>T.str ⟨#[c]⟩).length=z.length:=by simp[Str.length]
 rw[hl];refine⟨λhi=>⟨hi,λx H3 y=>?_⟩,λhi=>hi⟩;obtain⟨e,c,hc,rfl⟩:=y;refine⟨e,.str ⟨#[c]⟩,?_,kO⟩;rw[List.getElem?_map];have:z.cps.toList[i]?=some c:=by simpa using hc
 rw[this];rfl
def iZ(m:ME):MI:=λenv=>match jR m env with|.ok (r,env')=>(match qy r.2 with|some ts=>.ok (ts,env')|none=>.bad)|.exc x=>.exc x|.bad=>.bad
def J0(h:jK X e m):HJ X tg e (iZ m):=by obtain⟨tl,pl,sl⟩:=h;refine⟨_,ZZ pl,?_⟩;intro B F H σ env R RS nb ok ex;unfold iZ at nb ok ex;cases hr:jR m env with|bad=>rw[hr]at nb;exact absurd rfl nb|exc x=>rw[hr]at ex;refine .inl (sl.run RS (λr env' er=>by rw[hr]at er;cases er) (λx' er ev F' H' R' i pins s' I=>?_) (by rw[hr];intro z;cases z));rw[hr]at er;cases er;exact ex x rfl ev F' H' R' i pins s' I|ok q=>
  obtain⟨r,env'⟩:=q;rw[hr]at nb ok;dsimp only at nb ok;have noex:∀x,jR m env=.exc x->False:=λx z=>by rw[hr]at z;cases z
  have nb':jR m env≠.bad:=by rw[hr];intro z;cases z
  cases hi:qy r.2 with|none=>rw[hi]at nb;exact absurd rfl nb|some ts=>
   rw[hi]at ok;obtain⟨o,t⟩:=r;dsimp only at hi;cases t<;>simp only[qy,reduceCtorEq,Option.some.injEq]at hi;case lst us=>subst hi;refine .inl (sl.run RS (λr env1 er v F' H' R' iv old kp=>?_) (λx er=>(noex x er).elim) nb');rw[hr]at er;cases er;obtain⟨F2,R2,i2,_⟩:=R'.freeze iv (λa q=>j6 RS.fr q) old;have i2':=i2;unfold Is at i2;obtain⟨a,vs,rfl,g1,g2⟩:=i2;refine⟨a,rfl,⟨vs,g1.sq⟩,ok _ _ rfl _ F2 H' R2 ?_⟩;intro F3 H3 k i;have h1:=g1.mono k;have h2:=g2.mono k;have hl:=h2.len;refine⟨λhi=>⟨⟨vs,vs[i],h1.sq,by simp[<-hl,hi]⟩,λx H4 y=>⟨y.1,?_⟩⟩,λhi=>⟨vs,h1.sq,by omega⟩⟩;have hx:=y.2 vs h1.sq;obtain⟨v,hv,iv⟩:=h2.get (i:=i) (t:=us[i]) (by simp[hi]);rw[hx]at hv;cases hv;exact⟨us[i],by simp[hi],iv⟩
   case tup us=>subst hi;refine .inr (.inl (sl.run RS (λr env1 er v F' H' R' iv old kp=>?_) (λx er=>(noex x er).elim) nb'));rw[hr]at er;cases er;obtain⟨F2,R2,i2,_⟩:=R'.freeze iv (λa q=>j6 RS.fr q) old;unfold Is at i2;obtain⟨a,vs,rfl,g1,g2⟩:=i2;exact⟨a,rfl,⟨vs,g1⟩,ok _ _ rfl _ F2 H' R2 (um g1 g2)⟩
   case str z=>subst hi;refine .inr (.inr (sl.run RS (λr env1 er v F' H' R' iv old kp=>?_) (λx er=>(noex x er).elim) nb'));rw[hr]at er;cases er;obtain⟨F2,R2,i2,_⟩:=R'.freeze iv (λa q=>j6 RS.fr q) old;unfold Is at i2;exact⟨z,i2,ok _ _ rfl _ F2 H' R2 uo⟩
def lF(i:Nat):MI:=λenv=>match env[i]? with|some (some (_,t))=>(match qy t with|some ts=>.ok (ts,env.set i (some ↑P))|none=>.bad)|_=>.bad
def jb.frz1{K:W.Frag}{B:Bs}{F:Addr->Prop}{H:Hp}{σ:St}{env:En}(R:jb K B F H σ env){i:Nat}{r:RV}(e:env[i]?=some (some r)):∃F2 v,jb K B F2 H σ (env.set i (some (false,r.2)))/\σ[i]?=some (some v)/\Is K F2 H r.2 v:=by
 obtain⟨b,t⟩:=r;have hi:i<env.length:=(List.getElem?_eq_some_iff.mp e).1
 cases b with|false=>
  obtain⟨v,s,q⟩:=R.vals i t e;refine⟨F,v,?_,s,q⟩;have:env.set i (some ↑P)=env:=by
   apply List.ext_getElem?;intro j;by_cases hj:j=i;·subst hj;rw[List.getElem?_set_self hi,e]
   ·rw[List.getElem?_set_ne (Ne.symm hj)]
  rw[this];exact R|true=>
  obtain⟨a,s,nf,fr,w⟩:=R.owns i t e;have k:gk F (λb=>F b\/b=a) H H:=⟨λb f=>.inl f,λ_ _ _ h=>h,λ_ _ h _ _=>h⟩;refine⟨λb=>F b\/b=a,.ref a,⟨⟨λb f=>?_,λb f=>.inl (R.fr.sub b f),λb f=>?_,R.fr.keep,R.fr.f0⟩,by rw[List.length_set];exact R.len,λj u h=>?_,λj u h=>?_,λj l u u' c e1 e2 s1 s2=>?_⟩,s,w.is (λb f=>.inl f) (.inr rfl)⟩
  ·rcases f with f|rfl;·exact R.fr.dom b f
   ·exact w.there
  ·rcases f with f|rfl;·exact R.fr.new b f
   ·exact .inr fr
  ·rcases xn h with⟨rfl,_,z⟩|⟨hj,h⟩
   ·have:u=t:=by have:=Option.some.inj z;injection this
    subst this;exact⟨.ref a,s,w.is (λb f=>.inl f) (.inr rfl)⟩
   ·obtain⟨x,sx,q⟩:=R.vals j u h;exact⟨x,sx,q.mono k⟩
  ·rcases xn h with⟨rfl,_,z⟩|⟨hj,h⟩;·cases z
   ·obtain⟨b,sb,nfb,frb,wb⟩:=R.owns j u h;refine⟨b,sb,λz=>?_,frb,wb.mono k λ_ h=>h⟩;rcases z with z|rfl;·exact nfb z
    ·exact hj (R.sep j i u t b h e sb s)
  ·rcases xn e1 with⟨rfl,_,z⟩|⟨hj,h1⟩;·cases z
   ·rcases xn e2 with⟨rfl,_,z⟩|⟨hl,h2⟩;·cases z
    ·exact R.sep j l u u' c h1 h2 s1 s2
def Yf(i:Nat){x:Str}(hN:X.N[i]?=some x:=by rfl)(hv:WB X.env.scope x:=by first|exact Or.inl rfl|exact Or.inr (Or.inl rfl)|exact Or.inr (Or.inr rfl))(hd:(x==↑t)=false:=by decide)(hcd:(x==("__classdict__":Str))=false:=by decide):HJ X tg (.Name x pos) (lF i):=by refine⟨_,ZZ (gG hN hv hd hcd),?_⟩;intro B F H σ env R RS nb ok ex;unfold lF at nb ok ex;cases he:env[i]? with|none=>rw[he]at nb;exact absurd rfl nb|some o=>cases o with|none=>rw[he]at nb;exact absurd rfl nb|some r=>
   rw[he]at nb ok;obtain⟨b,t⟩:=r;dsimp only at nb ok;obtain⟨F2,v,R2,s,i2⟩:=RS.frz1 he;cases t<;>simp only[qy]at nb ok<;>try(exact absurd rfl nb)
   case lst us=>unfold Is at i2;obtain⟨a,vs,rfl,g1,g2⟩:=i2;refine .inl ⟨.ref a,s,a,rfl,⟨vs,g1.sq⟩,ok _ _ rfl _ F2 H R2 ?_⟩;intro F3 H3 k i;have h1:=g1.mono k;have h2:=g2.mono k;have hl:=h2.len;refine⟨λhi=>⟨⟨vs,vs[i],h1.sq,by simp[<-hl,hi]⟩,λx H4 y=>⟨y.1,?_⟩⟩,λhi=>⟨vs,h1.sq,by omega⟩⟩;have hx:=y.2 vs h1.sq;obtain⟨v,hv,iv⟩:=h2.get (i:=i) (t:=us[i]) (by simp[hi]);rw[hx]at hv;cases hv;exact⟨us[i],by simp[hi],iv⟩
   case tup us=>unfold Is at i2;obtain⟨a,vs,rfl,g1,g2⟩:=i2;exact .inr (.inl ⟨.ref a,s,a,rfl,⟨vs,g1⟩,ok _ _ rfl _ F2 H R2 (um g1 g2)⟩)
   case str z=>unfold Is at i2;subst i2;exact .inr (.inr ⟨.str z,s,z,rfl,ok _ _ rfl _ F2 H R2 uo⟩)
def gn(lo:Int)(n:Nat):List T:=(List.range n).map λ(i:Nat)=>.int (lo+i)
def uq{K:W.Frag}{F:Addr->Prop}{H:Hp}{lo:Int}{n:Nat}:gK K F H (LQ lo n) (gn lo n):=by
 intro F2 H2 k i;have hl:(gn lo n).length=n:=by simp[gn]
 rw[hl];refine⟨λhi=>⟨hi,λx H3 y=>⟨y.1,.int (lo+i),?_,?_⟩⟩,λhi=>hi⟩;·simp[gn,hi]
 ·rw[y.2];exact xm
def ou(m:MA)(env:En):gl (List T):=match m (zJ env)with|.ok rs=>.ok (rs.map (·.2))|.exc x=>.exc x|.bad=>match m env with|.ok rs=>.ok (rs.map (·.2))|.exc x=>if clean env (false,x.at_)=true then .exc x else .bad|.bad=>.bad
def ZW.run{t:TA}{m:MA}(h:ZW X t m){B:Bs}{F:Addr->Prop}{H:Hp}{σ:St}{env:En}{Q:List V->Hp->Prop}(R:jb X.K B F H σ env)(js:List Int)(hj:ou m env=.ok (js.map T.int))(ok:∀F' H',jb X.K B F' H' σ env->Q (js.map V.int) H'):t σ H Q:=by
 have allInts:∀{F:Addr->Prop}{H:Hp}{js:List Int}{vs:List V},IsAll X.K F H (js.map T.int) vs->vs=js.map V.int:=by intro F H js;induction js with|nil=>intro vs h;unfold IsAll at h;exact h|cons j js ih=>intro vs h;rw[List.map_cons]at h;unfold IsAll at h;obtain⟨v,r,rfl,h1,h2⟩:=h;unfold Is at h1;rw[h1,ih h2];rfl
 unfold ou at hj;cases hm:m (zJ env)with|ok rs=>
  rw[hm]at hj;have hj:rs.map (·.2)=js.map T.int:=by injection hj
  refine h F H σ (zJ env) Q R.hid (by rw[hm];intro z;cases z) (λr' e vs F' H' x i=>?_) λx z=>by rw[hm]at z;cases z
  rw[hm]at e;cases e;obtain⟨F2,x2,_,i2⟩:=i.frz x;rw[hj]at i2;rw[allInts i2];exact ok F2 H' (R.ext x2)|exc x=>rw[hm]at hj;cases hj|bad=>rw[hm]at hj;dsimp only at hj;cases hm2:m env with|bad=>rw[hm2]at hj;cases hj|exc x=>rw[hm2]at hj;dsimp only at hj;split at hj<;>cases hj|ok rs=>
   rw[hm2]at hj;have hj:rs.map (·.2)=js.map T.int:=by injection hj
   refine h _ H σ env Q R.opn (by rw[hm2];intro z;cases z) (λr' e vs F' H' x i=>?_) λx z=>by rw[hm2]at z;cases z
   rw[hm2]at e;cases e;obtain⟨F2,x2,_,i2⟩:=i.frz x;rw[hj]at i2;rw[allInts i2];exact ok _ H' (R.closed x2).1
def fy(m:MA):MI:=λenv=>match ou m env with|.ok [.int j]=>if-(2^62)<=j/\j<2^62 then .ok (gn 0 j.toNat,env)else .bad|_=>.bad
def uS(hg:Gl X "range")(hm:X.mg "range"=none)(ha:Zs X [a] ma)(hs:starEach [a] X.env=[(false,eval a X.env)]:=by rfl):HJ X tg (.Call (.Name "range" p) [a] [] pos) (fy ma):=by
 obtain⟨ta,pa,sa⟩:=ha;refine⟨_,cy hg hm pa hs,?_⟩;intro B F H σ env R RS nb ok ex;unfold fy at nb ok ex;split at nb
 ·rename_i j hj;split at nb;·rename_i hb;rw[hj]at ok;dsimp only at ok;rw[if_pos hb]at ok;exact sa.run RS [j] hj λF' H' R'=>⟨j,rfl,hb.1,hb.2,ok _ _ rfl _ F' H' R' uq⟩
  ·exact absurd rfl nb
 ·exact absurd rfl nb
abbrev MG:=T->En->Option En
def M1(X:Cx)(g:TG)(tg:MG):Prop:=∀(B:Bs)(F:Addr->Prop)(H:Hp)(σ:St)(env env':En)(v:V)(t:T)(Q:St->Hp->Prop),jb X.K B F H σ env->Is X.K F H t v->tg t env=some env'->(∀σ',jb X.K B F H σ' env'->Q σ' H)->g v σ H Q
def M2(X:Cx)(e:Expr)(tg:MG):Prop:=∃g,PG X e g/\M1 X g tg
def gN(i:Nat):MG:=λt env=>some (env.set i (some ↑P))
def Gk(hN:X.N.Nodup)(hi:X.N[i]?=some x)(hx:tm X.env.scope x)(hf:X.fn x=true\/X.env.scope.names.lookup x=some .local:=by first|exact .inl rfl|exact .inr rfl|assumption):M2 X (.Name x pos) (gN i):=by refine⟨_,uH hN hi hx hf,?_⟩;intro B F H σ env env' v t Q R iv e q;cases e;exact q _ (R.put i (jD iv) (λa q=>j6 R.fr q) λa z=>(R.own_not z).2.1)
def xP(tg:MG)(mb:MS):List T->MS|[],env=>.nx env|t::ts,env=>match tg t env with|none=>.bad|some e1=>match mb e1 with|.nx e2=>xP tg mb ts e2|.ct e2=>xP tg mb ts e2|.bk e2=>.nx e2|o=>o
def xF(it:MI)(tg:MG)(mb:MS):MS:=λenv=>match it env with|.ok (ts,env')=>xP tg mb ts env'|.exc x=>.exc x env|.bad=>.bad
def Bs.at_(B:Bs)(F:Addr->Prop)(H:Hp):Bs:=⟨λa=>¬F a/\((∃xs,H a=some (.lst xs))\/(∃xs,H a=some (.dK xs))\/∃C d xs,H a=some (.ins C d xs))/\(B.H a=none\/B.M a),H,F⟩
section
variable{K:W.Frag}{B:Bs}{F F1:Addr->Prop}{H H1:Hp}{σ:St}{env:En}{v:V}{r:RV}
theorem jb.rebase(R:jb K B F H σ env):jb K (B.at_ F H) F H σ env:=⟨⟨R.fr.dom,λ_ h=>h,λ_ h=>.inl h,λ_ _ h _=>h,λa f m=>m.1 f⟩,R.len,R.vals,λi t e=>by obtain⟨a,s,nf,fr,w⟩:=R.owns i t e;refine⟨a,s,nf,.inr ⟨nf,?_,fr⟩,w⟩;cases t with|lst ts=>obtain⟨vs,q,_⟩:=w;exact .inl ⟨vs,q⟩|dct ks ts=>obtain⟨vs,q,_⟩:=w;exact .inr (.inl ⟨vs,q⟩)|obj C fs ts=>obtain⟨dx,vs,q,_⟩:=w;exact .inr (.inr ⟨_,dx,vs,q⟩)|_=>exact w.elim,R.sep⟩
theorem lE.unbase(f1:lE B F1 H1)(f:lE (B.at_ F1 H1) F H):lE B F H:=by
 refine⟨f.dom,λa h=>f.sub a (f1.sub a h),λa h=>?_,λa o h hm=>f.keep a o (f1.keep a o h hm) λz=>?_,f1.f0⟩
 ·rcases f.new a h with h|h|h;·exact f1.new a h
  ·exact .inr (j6 f1 h)
  ·exact .inr h.2.2
 ·rcases z.2.2 with z|z;·rw[h]at z;cases z
  ·exact hm z
theorem hG(f1:lE B F1 H1)(h:(B.at_ F1 H1).H a=none\/(B.at_ F1 H1).M a):B.H a=none\/B.M a:=by
 rcases h with h|h;·exact j6 f1 h
 ·exact h.2.2
theorem jb.unbase(f1:lE B F1 H1)(R:jb K (B.at_ F1 H1) F H σ env):jb K B F H σ env:=⟨f1.unbase R.fr,R.len,R.vals,λi t e=>let⟨a,s,nf,fr,w⟩:=R.owns i t e;⟨a,s,nf,hG f1 fr,w⟩,R.sep⟩
theorem Vt.unbase(f1:lE B F1 H1)(R:Vt K (B.at_ F1 H1) F H v r):Vt K B F H v r:=by
 refine⟨f1.unbase R.fr,?_⟩;have i:=R.val;unfold kL at i⊢;split;·rename_i ho;rw[if_pos ho]at i;obtain⟨a,e,nf,fr,o⟩:=i;exact⟨a,e,nf,hG f1 fr,o⟩
 ·rename_i ho;rw[if_neg ho]at i;exact i
theorem lE.kept(f:lE (B.at_ F1 H1) F H):gk F1 F H1 H:=⟨f.sub,λa o h e=>f.keep a o e λz=>z.1 h,λa o e h1 h2=>f.keep a o e λz=>by
  rcases z.2.1 with⟨xs,q⟩|⟨xs,q⟩|⟨C,d,xs,q⟩;·rw[e]at q;exact h1 xs (Option.some.inj q)
  ·rw[e]at q;exact h2.1 xs (Option.some.inj q)
  ·rw[e]at q;exact h2.2 C d xs (Option.some.inj q)⟩
end
def qz(hp:PassesOwn ↑b X.A X.env X.xe)(hc:X.calm=true)(hi:HJ X tg iter it)(hg:M2 X tg g)(hb:nZ X body mb)(hs:∀x,foldedSetIterable iter X.env x=pure x:=by intro _;rfl):bZ X (.For tg iter body [] pos) (xF it g mb):=by
 obtain⟨wi,pi,si⟩:=hi;obtain⟨tg',pg,sg⟩:=hg;obtain⟨tb,pb,sb⟩:=hb;refine⟨_,WU hp hc pi pg pb hs,?_⟩;intro B F H σ env D R w;unfold xF at w;refine si B F H σ env _ R (λz=>by rw[z]at w;exact w) (λts env' e J F1 H1 R1 Y=>?_) λx e ev F' H' R' i pins s' I=>by rw[e]at w;exact w ev F' H' σ R' i pins s' I
 rw[e]at w;dsimp only at w;have f1:=R1.fr;refine⟨λi m σ H=>m=ts.length-i/\i<=ts.length/\∃F env,jb X.K (B.at_ F1 H1) F H σ env/\pW X B D (xP g mb (ts.drop i) env),⟨ts.length,by simp,Nat.zero_le _,F1,env',R1.rebase,by simpa using w⟩,?_⟩;rintro i m σ2 H2⟨rfl,hi,F2,env2,R2,w2⟩;obtain⟨yg,ys⟩:=Y F2 H2 R2.fr.kept i;by_cases hlt:i<ts.length
 ·obtain⟨go,yl⟩:=yg hlt;refine .inr ⟨go,λσ' H'=>∃F env,jb X.K (B.at_ F1 H1) F H' σ' env/\pW X B D (xP g mb (ts.drop (i+1)) env),λσ' H'⟨F',e',R',w'⟩=>⟨ts.length-(i+1),by omega,rfl,hlt,F',e',R',w'⟩,λx H3 y=>?_⟩;obtain⟨rfl,t,ht,it⟩:=yl x H3 y;have hd:ts.drop i=t::ts.drop (i+1):=by
   rw[List.drop_eq_getElem_cons hlt];have:ts[i]?=some ts[i]:=by simp[hlt]
   rw[this]at ht;cases ht;rfl
  rw[hd]at w2;have w2:pW X B D (match g t env2 with|none=>.bad|some e1=>match mb e1 with|.nx e2=>xP g mb (ts.drop (i+1)) e2|.ct e2=>xP g mb (ts.drop (i+1)) e2|.bk e2=>.nx e2|o=>o):=w2;cases hg:g t env2 with|none=>rw[hg]at w2;exact w2.elim|some e1=>rw[hg]at w2;dsimp only at w2;refine sg _ F2 H3 σ2 env2 e1 x t _ R2 it hg λσ3 R3=>?_;refine sb _ F2 H3 σ3 e1 _ R3 ?_;cases ho:mb e1 with|nx e2=>rw[ho]at w2;exactλF4 H4 σ4 R4=>⟨F4,e2,R4,w2⟩|ct e2=>rw[ho]at w2;exactλF4 H4 σ4 R4=>⟨F4,e2,R4,w2⟩|bk e2=>rw[ho]at w2;exactλF4 H4 σ4 R4=>w2 F4 H4 σ4 (R4.unbase f1)|rt r=>rw[ho]at w2;exactλv F4 H4 R4=>w2 v F4 H4 (R4.unbase f1)|exc x e2=>rw[ho]at w2;exactλev F4 H4 σ4 R4=>w2 ev F4 H4 σ4 (R4.unbase f1)|bad=>rw[ho]at w2;exact w2.elim
 ·have hl:i=ts.length:=by omega
  subst hl;rw[List.drop_length]at w2;exact .inl ⟨ys ↑e,w2 F2 H2 σ2 (R2.unbase f1)⟩
def lU(P:Program)(w:World):QQ:=λouter H s E e s'=>∃H' oa,s'.os=s.os/\AllBare s'.gens/\Un (JS outer) [] H H' s.heap s'.heap/\pN P w H' s'.heap/\E e oa H'
def a7(F:qc X.prog X.w X.K X.mg X.base (lU X.prog X.w) k f fd ps sp)(hr:xV k X.A)(hb:f6 X.K fd ps [])(I:zu X pins σ H s)(r:zL vs us)(h:sp vs H Q E)(hx:∀e oa H',E e oa H'->∀s',zu X pins σ H' s'->X.xe e s'):wpAny ↑b X.A (call (.ref f) us) ↑aK X.xe s:=by
 have hl:us.length=ps.length:=by rw[<-r.length];exact F.len _ _ _ _ h
 refine wpAny_call (codeAny_mono (F.run X.A X.stack s H ⟨us,[]⟩ us vs Q E hr I.env0 (by have:=hb s us I.kIn (by simpa using hl);simpa using this) r h) λr s' hq=>?_);cases r with|error e=>obtain⟨H',oa,ho,hg,hu,hok,he⟩:=hq;exact hx e oa H' he s' (I.call' ho hu hok hg λb z=>absurd z ↑T)|ok fl=>cases fl with|ret u=>exact I.after hq|next=>exact False.elim hq|brk=>exact False.elim hq|cont=>exact False.elim hq
def Vw(X:Cx)(sp:Sp)(t:TA):TE:=λσ H Q=>t σ H λvs H1=>∃E,sp vs H1 Q E/\∀e oa H',E e oa H'->∀pins s',zu X pins σ H' s'->X.xe e s'
def ow(F:qc X.prog X.w X.K X.mg X.base (lU X.prog X.w) k f fd ps sp)(hr:xV k X.A)(hg:Gl X x)(hm:X.mg x=some (.ref f))(hk:W.keepIn X.K (.ref f)=true)(hb:f6 X.K fd ps [])(ha:PA X (e::es) t)(hdb:(x==↑t)=false:=by decide)(he:starEach (e::es) X.env=↑M::starEach es X.env:=by rfl)(hpl:(backTo pos ↑aL).any (·.1)=false:=by rfl):PE X ↑al (Vw X sp t):=by intro pins s σ H Q I h;refine wpAny_Call_Name_kw (bF I hg hm ?_ hdb);refine W.callWith_K I.ok.mod.kin hk (jQ (ha pos pins s σ H _ I h) λus s1⟨vs,H1,I1,r,E,q,hx⟩=>⟨I1.kIn,?_⟩) he hpl;exact a7 F hr hb I1 r q λe oa H' z s' I'=>hx e oa H' z pins s' I'
abbrev MF:=List RV->gl RV
def hI(vs:List V)(rs:List RV)(a:Addr):Prop:=∃(i:Nat)(r:RV),rs[i]?=some r/\r.1=true/\vs[i]?=some (V.ref a)
def pX(K:W.Frag)(f:MF):Sp:=λvs H Q E=>∃F rs,dN F H/\wv K (λ_=>True) F H vs rs/\f rs≠.bad/\(∀r,f rs=.ok r->∀v F' H',Vt K ⟨hI vs rs,H,F⟩ F' H' v r->Q v H')/\(∀x,f rs=.exc x->∀ev F' H',lE ⟨hI vs rs,H,F⟩ F' H'->Qx K F' H' ev x->E ev none H')
def x8(P:Program)(w:World)(K:W.Frag)(mg:Str->Option Value)(base:Heap)(k:Nat)(x:Str)(ps:List Str)(f:MF):Prop:=∃fa fd,qc P w K mg base (lU P w) k fa fd ps (pX K f)/\mg x=some (.ref fa)/\W.keepIn K (.ref fa)=true/\f6 K fd ps []
def z9(f:MF)(ma:MA):ME:=λenv=>(ma env).bind f
def wv.at{K:W.Frag}{fr F:Addr->Prop}{H:Hp}:∀{vs:List V}{rs:List RV}{i:Nat}{r:RV},wv K fr F H vs rs->rs[i]?=some r->∃v,vs[i]?=some v/\kL K fr F H v r|[],[],i,r,_,h=>by simp at h|[],_::_,_,_,h,_=>h.elim|_::_,[],_,_,h,_=>h.elim|v::vs,q::rs,i,r,h,e=>by cases i with|zero=>simp at e;subst e;exact⟨v,by simp,h.1⟩|succ i=>obtain⟨w,hw,q⟩:=wv.at h.2.1 (by simpa using e);exact⟨w,by simpa using hw,q⟩
def wv.any{K:W.Frag}{fr fr' F:Addr->Prop}{H:Hp}(hf:∀a,fr a->fr' a):∀{vs:List V}{rs:List RV},wv K fr F H vs rs->wv K fr' F H vs rs
 |[],[],_=>trivial|[],_::_,h=>h.elim|_::_,[],h=>h.elim|v::vs,r::rs,h=>by
  refine⟨?_,wv.any hf h.2.1,h.2.2⟩;have i:=h.1;unfold kL at i⊢;split;·rename_i ho;rw[if_pos ho]at i;obtain⟨a,e,nf,f,o⟩:=i;exact⟨a,e,nf,hf a f,o⟩
  ·rename_i ho;rw[if_neg ho]at i;exact i
def wY{K:W.Frag}{fr F:Addr->Prop}{H:Hp}{vs:List V}{rs:List RV}{a:Addr}(h:wv K fr F H vs rs)(o:hI vs rs a):¬F a/\fr a/\H a≠none:=by obtain⟨i,r,e,ho,hv⟩:=o;obtain⟨v,hv',ir⟩:=h.at e;rw[hv]at hv';cases hv';obtain⟨b,eb,nf,f,th,_⟩:=ir.there ho;cases eb;exact⟨nf,f,th⟩
def XG(sa:ZW X t ma):wq X (Vw X (pX X.K f) t) (z9 f ma):=by
 intro F H σ env Q R nb ok ex;unfold z9 at nb ok ex;refine sa F H σ env _ R ↑d (λrs e1 vs F1 H1 x1 i1=>?_) λx z=>ex x ↑E;rw[e1,bind_ok]at nb ok ex--from the callee's frame to ours
 have toExt:∀{F':Addr->Prop}{H':Hp},lE ⟨hI vs rs,H1,F1⟩ F' H'->xN F H F' H':=by
  intro F' H' fr;refine⟨λa o h=>fr.keep a o (x1.same a o h) λz=>?_,λa h=>fr.sub a (x1.sub a h),λa h=>?_,fr.dom⟩;·rw[(wY i1 z).2.1]at h;cases h
  ·rcases fr.new a h with h|h|h;·exact x1.new a h
   ·exact .inr (jv x1.same h)
   ·exact .inr (wY i1 h).2.1
 refine⟨λev oa H'=>oa=none/\∃F' x,f rs=.exc x/\xN F H F' H'/\Qx X.K F' H' ev x,⟨F1,rs,x1.dom,i1.any λ_ _=>trivial,nb,λr er v F' H' rr=>?_,λx ex' ev F' H' fr ix=>⟨rfl,F',x,ex',toExt fr,ix⟩⟩,λev oa H'⟨_,F',x,e',xt,ix⟩pins s' I=>ex x e' ev F' H' xt ix pins s' I⟩;refine ok r er v F' H' (toExt rr.fr) ?_;have i:=rr.val;unfold kL at i⊢;split
 ·rename_i ho;rw[if_pos ho]at i;obtain⟨a,e,nf,fr,o⟩:=i;refine⟨a,e,nf,?_,o⟩;rcases fr with fr|fr;·exact jv x1.same fr
  ·exact(wY i1 fr).2.1
 ·rename_i ho;rw[if_neg ho]at i;exact i
def qA(C:x8 X.prog X.w X.K X.mg X.base k x ps f)(hr:xV k X.A)(hg:Gl X x)(ha:Zs X (e::es) ma)(hdb:(x==↑t)=false:=by decide)(he:starEach (e::es) X.env=↑M::starEach es X.env:=by rfl)(hpl:(backTo pos ↑aL).any (·.1)=false:=by rfl):jK X ↑al (z9 f ma):=by obtain⟨fa,fd,F,hm,hk,hb⟩:=C;obtain⟨ta,pa,sa⟩:=ha;exact⟨_,ow F hr hg hm hk hb pa hdb he hpl,XG sa⟩
def qB(n:Nat)(rs:List RV):En:=rs.map some++List.replicate (n-rs.length) none
def Yg:Gf->gl RV|.nx _=>.ok (false,.non)|.rt r=>.ok r|.exc x _=>.exc x|_=>.bad
def zR(n k:Nat)(mb:MS):MF:=λrs=>if rs.length=k then Yg (mb (qB n rs))else .bad
def XH{K:W.Frag}{F:Addr->Prop}{H:Hp}{N:List Str}{vs:List V}{rs:List RV}(d:dN F H)(h:wv K (λ_=>True) F H vs rs):jb K ⟨hI vs rs,H,F⟩ F H (start N vs) (qB N.length rs):=by
 have hl:=h.len;have he:∀{i:Nat}{r:RV},(qB N.length rs)[i]?=some (some r)->rs[i]?=some r:=by
  intro i r e;unfold qB at e;by_cases hi:i<rs.length;·rw[List.getElem?_append_left (by simpa using hi),List.getElem?_map]at e;cases q:rs[i]? with|none=>rw[q]at e;cases e|some r'=>rw[q]at e;cases e;rfl
  ·rw[List.getElem?_append_right (by simpa using hi),List.getElem?_replicate]at e;split at e<;>cases e
 have hs:∀{i:Nat}{v:V},vs[i]?=some v->(start N vs)[i]?=some (some v):=by intro i v e;unfold L2.start;have hi:i<vs.length:=(List.getElem?_eq_some_iff.mp e).1;rw[List.getElem?_append_left (by simpa using hi),List.getElem?_map,e];rfl
 have sepG:∀{vs:List V}{rs:List RV},wv K (λ_=>True) F H vs rs->∀(i j:Nat)(r r':RV)(v:V),rs[i]?=some r->rs[j]?=some r'->r.1=true->r'.1=true->vs[i]?=some v->vs[j]?=some v->i=j:=by intro vs;induction vs with|nil=>intro rs h i j r r' v _ _ _ _ e;simp at e|cons w vs ih=>intro rs h i j r r' v e1 e2 o1 o2 s1 s2;cases rs with|nil=>exact h.elim|cons q rs=>cases i with
    |zero=>cases j with|zero=>rfl|succ j=>simp at e1 s1;subst e1 s1;exact absurd (by simpa using s2) (h.2.2 o1 j r' (by simpa using e2) o2)
    |succ i=>cases j with|zero=>simp at e2 s2;subst e2 s2;exact absurd (by simpa using s1) (h.2.2 o2 i r (by simpa using e1) o1)|succ j=>rw[ih h.2.1 i j r r' v (by simpa using e1) (by simpa using e2) o1 o2 (by simpa using s1) (by simpa using s2)]
 refine⟨⟨d,λ_ h=>h,λ_ h=>.inl h,λ_ _ h _=>h,λa f m=>(wY h m).1 f⟩,?_,λi t e=>?_,λi t e=>?_,λi j t t' a e1 e2 s1 s2=>?_⟩;·unfold L2.start qB;simp[hl]
 ·obtain⟨v,hv,ir⟩:=h.at (he e);exact⟨v,hs hv,ir.is⟩
 ·obtain⟨v,hv,ir⟩:=h.at (he e);obtain⟨a,rfl,nf,_,_,w⟩:=ir.there rfl;exact⟨a,hs hv,nf,.inr ⟨i,_,he e,rfl,hv⟩,w⟩
 ·obtain⟨v,hv,ir⟩:=h.at (he e1);obtain⟨v',hv',ir'⟩:=h.at (he e2);rw[hs hv]at s1;rw[hs hv']at s2;have s1:v=.ref a:=by injection s1 with s1;injection s1
  have s2:v'=.ref a:=by injection s2 with s2;injection s2
  subst s1;subst s2;exact sepG h i j _ _ _ (he e1) (he e2) rfl rfl hv hv'
section
variable{P:Program}{w:World}{K:W.Frag}{mg:Str->Option Value}{base:Heap}
theorem Vx{N:List Str}{x:Str}{sc:Scope}{f:Addr}{cdv:Value}{A:Around}{outer:List Env}{s:Shared}{H:Hp}{vs:List V}{Q:VK}{E:XK}{body:List Stmt}{mb:MS}{n:Nat}(h:pX K (zR N.length n mb) vs H Q E)(hb:nZ (lA (lU P w) P w K mg base N x sc f cdv A outer s H E) body mb):∃t,tE (lA (lU P w) P w K mg base N x sc f cdv A outer s H E) body t/\t {nx:=λ_ H'=>Q .non H',rt:=Q} (start N vs) H:=by
 obtain⟨F,rs,d,ir,nb,ok,ex⟩:=h;obtain⟨t,p,sm⟩:=hb;refine⟨t,p,?_⟩;unfold zR at nb ok ex;by_cases hl:rs.length=n;·rw[if_pos hl]at nb ok ex;refine sm _ F H (start N vs) (qB N.length rs) _ (XH d ir) ?_;cases ho:mb (qB N.length rs)with|nx env=>rw[ho]at ok;exactλF' H' σ R=>ok _ rfl .non F' H' ⟨R.fr,jD NS⟩|rt r=>rw[ho]at ok;exactλv F' H' R=>ok _ rfl v F' H' R|bk env=>rw[ho]at nb;exact absurd rfl nb|ct env=>rw[ho]at nb;exact absurd rfl nb|exc x env=>exactλev F' H' σ R ix=>ix.elim|bad=>rw[ho]at nb;exact absurd rfl nb
 ·rw[if_neg hl]at nb;exact absurd rfl nb
theorem M3(h:pX K (zR n m mb) vs H Q E):vs.length=m:=by
 obtain⟨F,rs,d,ir,nb,_⟩:=h;unfold zR at nb;by_cases hl:rs.length=m;·rw[<-hl];exact ir.len
 ·rw[if_neg hl]at nb;exact absurd rfl nb
theorem zM.ok3{x:Str}{st:Stmt}{N ps:List Str}{k:Nat}{mb:MS}(F:zM K mg x st)(S:ze N ps (za st))(hb:∀(kV doc pm:Value)(an:Option Addr)(cdv ct:Value)(us:List Value),us.length=ps.length->bindArgs (W.fnOf x x (xB st) (ju st) (za st) .none kV doc pm an cdv ct) ⟨us,[]⟩=pure (ps.zip us))(hbody:∀(f:Addr)(cdv:Value)(A:Around)(outer:List Env)(s:Shared)(H:Hp)(E:XK),xV k (A.deeper (envOfC x (za st) s.heap.objs.size f cdv))->nZ (lA (lU P w) P w K mg base N x (za st) f cdv A outer s H E) (ju st) mb):x8 P w K mg base (k+1) x ps (zR N.length ps.length mb):=by obtain⟨f,fd,F,e⟩:=F;refine⟨f,fd,?_,e,F.kp,F.binds hb⟩;obtain⟨oc,od,kV,doc,pm,an,cdv,ct,osl,rfl,lk,hcd⟩:=F.ex;exact tN lk hcd S (λvs H Q E h=>M3 h) λA outer s H vs Q E hr hsp=>Vx hsp (hbody f cdv A outer s H E hr)
end
def ut{K:W.Frag}{F:Addr->Prop}{H:Hp}{t:T}{vs:List V}(h:IsAll K F H [t] vs):∃v,vs=[v]/\Is K F H t v:=by unfold IsAll at h;obtain⟨v,r,rfl,h1,h2⟩:=h;unfold IsAll at h2;subst h2;exact⟨v,rfl,h1⟩
def J1{K:W.Frag}{F:Addr->Prop}{H:Hp}{t u:T}{vs:List V}(h:IsAll K F H [t,u] vs):∃v w,vs=[v,w]/\Is K F H t v/\Is K F H u w:=by unfold IsAll at h;obtain⟨v,r,rfl,h1,h2⟩:=h;obtain⟨w,rfl,h3⟩:=ut h2;exact⟨v,w,rfl,h1,h3⟩
def jA:List T->Option RV|[.lst ts]=>some (false,.int ts.length)|[.tup ts]=>some (false,.int ts.length)|[.str z]=>if z.length<=sizeLine then some (false,.int z.length)else none|_=>none
def uT:List T->Option RV|[.lst ts]=>some (true,.lst ts)|[.tup ts]=>some (true,.lst ts)|_=>none
def jS:List T->Option RV|[.lst ts]=>some (false,.tup ts)|[.tup ts]=>some (false,.tup ts)|_=>none
def dU:List T->Option RV|[.int i]=>if i.natAbs.log2<1920 then some (false,.str (toString i))else none|_=>none
def DX:List T->Option RV|[.int i,.int j]=>some (false,.int (if j>i then j else i))|_=>none
def Gm:List T->Option RV|[.int i,.int j]=>some (false,.int (if j<i then j else i))|_=>none
def ox:T->Option String|.non=>some "NoneType"|.bl _=>some "bool"|.int _=>some "int"|.str _=>some "str"|.tup _=>some "tuple"|.lst _=>some "list"|_=>none
def allB:List T->Option (List Bool)|[]=>some []|.bl b::ts=>(allB ts).map (b::·)|_=>none
def uU:List T->Option RV|[.lst ts]=>(allB ts).map λbs=>(false,.bl (bs.all id))|_=>none
def xX:vo X (.builtin "len") (t8 X.K jA):=by intro pins s σ H xs us Q I r h;obtain⟨F,ts,rv,d,ia,e,q⟩:=h;match ts,e with|[.lst ts],e=>cases e;obtain⟨v,rfl,i⟩:=ut ia;unfold Is at i;obtain⟨a,vs,rfl,g1,g2⟩:=i;exact uK pins s σ H _ us Q I r ⟨a,vs,rfl,.inl g1.sq,by rw[<-g2.len];exact xE d xm q rfl⟩|[.tup ts],e=>cases e;obtain⟨v,rfl,i⟩:=ut ia;unfold Is at i;obtain⟨a,vs,rfl,g1,g2⟩:=i;exact uK pins s σ H _ us Q I r ⟨a,vs,rfl,.inr g1,by rw[<-g2.len];exact xE d xm q rfl⟩|[.str z],e=>obtain⟨v,rfl,i⟩:=ut ia;unfold Is at i;subst i;simp only[jA]at e;split at e<;>cases e;rename_i hl;exact bO pins s σ H _ us Q I r ⟨z,rfl,hl,xE d xm q rfl⟩
def a8:vo X (.type "list") (t8 X.K uT):=by intro pins s σ H xs us Q I r h;obtain⟨F,ts,rv,d,ia,e,q⟩:=h;match ts,e with|[.lst ts],e=>cases e;obtain⟨v,rfl,i⟩:=ut ia;unfold Is at i;obtain⟨a,vs,rfl,g1,g2⟩:=i;exact uL pins s σ H _ us Q I r ⟨a,vs,rfl,.inl g1.sq,λl hl=>bY d g2 hl q⟩|[.tup ts],e=>cases e;obtain⟨v,rfl,i⟩:=ut ia;unfold Is at i;obtain⟨a,vs,rfl,g1,g2⟩:=i;exact uL pins s σ H _ us Q I r ⟨a,vs,rfl,.inr g1,λl hl=>bY d g2 hl q⟩
def wU:vo X (.type "tuple") (t8 X.K jS):=by intro pins s σ H xs us Q I r h;obtain⟨F,ts,rv,d,ia,e,q⟩:=h;match ts,e with|[.lst ts],e=>cases e;obtain⟨v,rfl,i⟩:=ut ia;unfold Is at i;obtain⟨a,vs,rfl,g1,g2⟩:=i;exact pS pins s σ H _ us Q I r ⟨a,vs,rfl,.inl ⟨g1.sq,λl hl=>Ga d g2 hl q⟩⟩|[.tup ts],e=>cases e;obtain⟨v,rfl,i⟩:=ut ia;have i':=i;unfold Is at i;obtain⟨a,vs,rfl,g1,g2⟩:=i;exact pS pins s σ H _ us Q I r ⟨a,vs,rfl,.inr ⟨g1,xE d i' q rfl⟩⟩
def J2:vo X (.type "str") (t8 X.K dU):=by intro pins s σ H xs us Q I r h;obtain⟨F,ts,rv,d,ia,e,q⟩:=h;match ts,e with|[.int i],e=>obtain⟨v,rfl,g⟩:=ut ia;unfold Is at g;subst g;simp only[dU]at e;split at e<;>cases e;rename_i hl;exact bJ pins s σ H _ us Q I r ⟨i,rfl,hl,xE d kO q rfl⟩
def M4(hc:X.calm=true):vo X (.builtin "min") (t8 X.K Gm):=by intro pins s σ H xs us Q I r h;obtain⟨F,ts,rv,d,ia,e,q⟩:=h;match ts,e with|[.int i,.int j],e=>cases e;obtain⟨v,w,rfl,g1,g2⟩:=J1 ia;unfold Is at g1 g2;subst g1 g2;exact Xq hc pins s σ H _ us Q I r ⟨i,j,rfl,xE d xm q rfl⟩
def oy{K:W.Frag}{F:Addr->Prop}{H:Hp}:∀{ts:List T}{bs:List Bool}{vs:List V}{us:List Value},allB ts=some bs->IsAll K F H ts vs->zL vs us->us=bs.map Value.bool|[],bs,vs,us,h,i,r=>by unfold IsAll at i;subst i;cases r;simp[allB]at h;subst h;rfl|t::ts,bs,vs,us,h,i,r=>by unfold IsAll at i;obtain⟨v,w,rfl,i1,i2⟩:=i;cases r with|cons r1 r2=>cases t<;>simp only[allB,reduceCtorEq,Option.map_eq_some_iff]at h;case bl b=>obtain⟨bs',h,rfl⟩:=h;unfold Is at i1;subst i1;cases r1;rw[oy h i2 r2];rfl
def Yh:∀(bs:List Bool),((List.range bs.length).all λi=>(bs[i]?).getD true)=bs.all id|[]=>rfl|b::bs=>by rw[List.length_cons,List.range_succ_eq_map,List.all_cons,List.all_map,List.all_cons];have:=Yh bs;simp only[List.getElem?_cons_zero,Option.getD_some,id];congr 1
def hU(hc:X.calm=true):vo X (.builtin "all") (t8 X.K uU):=by intro pins s σ H xs us Q I r h;obtain⟨F,ts,rv,d,ia,e,q⟩:=h;match ts,e with
 |[.lst ts],e=>
  simp only[uU,Option.map_eq_some_iff]at e;obtain⟨bs,eb,rfl⟩:=e;obtain⟨v,rfl,i⟩:=ut ia;obtain⟨u,rfl,ru⟩:=gh r;unfold Is at i;obtain⟨a,vs,rfl,g1,g2⟩:=i;cases ru;obtain⟨its,r',pl,hz⟩:=I.list g1.sq;have hb:=oy eb g2 r';have hl:=pl.isList;have hlt:a<s.heap.objs.size:=by obtain⟨_,e,_⟩:=hl;exact Heap.lt_size e
  refine call_all_walk (wpAny_pyIter_list hl ?_);refine⟨s.heap.objs.size,[s.heap.objs.size,a],[s.heap.objs.size],its.toArray.size,_,_,λi=>(bs[i]?).getD true,rfl,Walks.list (A:=X.A.in1) (I.ok.hd hc) _ a (Nat.ne_of_lt hlt) its.toArray,⟨⟨_,Heap.get?_push_size _ rfl,rfl,rfl⟩,hl.push _⟩,λi v s' Q' E' hP hQ=>?_,λh' tk hk=>?_⟩
  ·have hv:its[i]?=some v:=by simpa using hP
   rw[hb,List.getElem?_map]at hv;cases hbi:bs[i]? with|none=>rw[hbi]at hv;cases hv|some b=>rw[hbi]at hv;cases hv;simp only[hbi,Option.getD_some]at hQ;exact wpAny_truthy_bool hQ
  ·have e2:((List.range its.toArray.size).all λi=>(bs[i]?).getD true)=bs.all id:=by
    have:its.toArray.size=bs.length:=by rw[hb];simp
    rw[this];exact Yh bs
   rw[e2];exact⟨.bl (bs.all id),H,I.kept (LSm.kept_iter hk),rfl,xE d jZ q rfl⟩
abbrev J3:=En->gl (List T)
def Uo(X:Cx)(wi:TI)(it:J3):Prop:=∀(F:Addr->Prop)(H:Hp)(σ:St)(env:En)(R:It->Hp->Prop),ky X.K F H σ env->it env≠.bad->(∀ts,it env=.ok ts->∀J F' H',xN F H F' H'->gK X.K F' H' J ts->R J H')->(∀x,it env=.exc x->WE X F H σ x)->wi σ H R
def a9(X:Cx)(tg iter:Expr)(it:J3):Prop:=∃wi,PI X tg iter wi/\Uo X wi it
def jF(m:ME):J3:=λenv=>(m env).bind λr=>Y9 (qy r.2)
def J4{K:W.Frag}{F:Addr->Prop}{H:Hp}{a:Addr}{vs:List V}{ts:List T}(g1:G5 K F H a vs)(g2:IsAll K F H ts vs):gK K F H (Ek K a) ts:=by intro F2 H2 k i;have h1:=(g1.mono k).sq;have h2:=g2.mono k;have hl:=h2.len;refine⟨λhi=>⟨⟨vs,vs[i],h1,by simp[<-hl,hi]⟩,λx H3 y=>⟨y.1,?_⟩⟩,λhi=>⟨vs,h1,by omega⟩⟩;have hx:=y.2 vs h1;obtain⟨v,hv,iv⟩:=h2.get (i:=i) (t:=ts[i]) (by simp[hi]);rw[hx]at hv;cases hv;exact⟨ts[i],by simp[hi],iv⟩
def pY(h:jK X e m):a9 X tg e (jF m):=by obtain⟨tl,pl,sl⟩:=h;refine⟨_,ZZ pl,?_⟩;intro F H σ env R RE nb ok ex;unfold jF at nb ok ex;cases hr:m env with|bad=>rw[hr]at nb;exact absurd rfl nb|exc x=>rw[hr]at ex;exact .inl (sl.val RE (by rw[hr];intro z;cases z) (λr er=>by rw[hr]at er;cases er) λx' z=>by rw[hr]at z;cases z;exact ex x rfl)|ok r=>
  rw[hr,bind_ok]at nb ok;have nb':m env≠.bad:=by rw[hr];intro z;cases z
  have noex:∀x,m env=.exc x->WE X F H σ x:=λx z=>by rw[hr]at z;cases z
  obtain⟨o,t⟩:=r;dsimp only at nb ok;cases t<;>simp only[qy,ofO_none,ofO_some]at nb ok<;>try(exact absurd rfl nb)
  case lst us=>refine .inl (sl.val RE nb' (λr er v F1 H1 x1 i1=>?_) noex);rw[hr]at er;cases er;unfold Is at i1;obtain⟨a,vs,rfl,g1,g2⟩:=i1;exact⟨a,rfl,⟨vs,g1.sq⟩,ok _ rfl _ F1 H1 x1 (J4 g1 g2)⟩
  case tup us=>refine .inr (.inl (sl.val RE nb' (λr er v F1 H1 x1 i1=>?_) noex));rw[hr]at er;cases er;unfold Is at i1;obtain⟨a,vs,rfl,g1,g2⟩:=i1;exact⟨a,rfl,⟨vs,g1⟩,ok _ rfl _ F1 H1 x1 (um g1 g2)⟩
  case str z=>refine .inr (.inr (sl.val RE nb' (λr er v F1 H1 x1 i1=>?_) noex));rw[hr]at er;cases er;unfold Is at i1;exact⟨z,i1,ok _ rfl _ F1 H1 x1 uo⟩
def kR(m:MA):J3:=λenv=>(m env).bind λrs=>match rs.map Prod.snd with|[.int j]=>if-(2^62)<=j/\j<2^62 then .ok (gn 0 j.toNat)else .bad|_=>.bad
def fB(m:MA):J3:=λenv=>(m env).bind λrs=>match rs.map Prod.snd with|[.int i,.int j]=>if(-(2^62)<=i/\i<2^62)/\-(2^62)<=j/\j<2^62 then .ok (gn i (j-i).toNat)else .bad|_=>.bad
def cN(hg:Gl X "range")(hm:X.mg "range"=none)(ha:Zs X [a] ma)(hs:starEach [a] X.env=[(false,eval a X.env)]:=by rfl):a9 X tg (.Call (.Name "range" p) [a] [] pos) (kR ma):=by
 obtain⟨ta,pa,sa⟩:=ha;refine⟨_,cy hg hm pa hs,?_⟩;intro F H σ env R RE nb ok ex;unfold kR at nb ok ex;refine sa F H σ env _ RE ↑d (λrs e1 vs F1 H1 x1 i1=>?_) λx z=>ex x ↑E;rw[e1,bind_ok]at nb ok;obtain⟨F2,x2,_,i2⟩:=i1.frz x1;split at nb
 ·rename_i j hj;rw[hj]at i2 ok;dsimp only at ok;split at nb;·rename_i hb;rw[if_pos hb]at ok;obtain⟨v,rfl,g⟩:=ut i2;unfold Is at g;exact⟨j,by rw[g],hb.1,hb.2,ok _ rfl _ F2 H1 x2 uq⟩
  ·exact absurd rfl nb
 ·exact absurd rfl nb
def XI(hg:Gl X "range")(hm:X.mg "range"=none)(ha:Zs X [a,b] ma)(hs:starEach [a,b] X.env=[(false,eval a X.env),(false,eval b X.env)]:=by rfl)(hs2:starEach [b] X.env=[(false,eval b X.env)]:=by rfl):a9 X tg (.Call (.Name "range" p) [a,b] [] pos) (fB ma):=by
 obtain⟨ta,pa,sa⟩:=ha;refine⟨_,Xn hg hm pa hs hs2,?_⟩;intro F H σ env R RE nb ok ex;unfold fB at nb ok ex;refine sa F H σ env _ RE ↑d (λrs e1 vs F1 H1 x1 i1=>?_) λx z=>ex x ↑E;rw[e1,bind_ok]at nb ok;obtain⟨F2,x2,_,i2⟩:=i1.frz x1;split at nb
 ·rename_i i j hj;rw[hj]at i2 ok;dsimp only at ok;split at nb;·rename_i hb;rw[if_pos hb]at ok;obtain⟨v,w,rfl,g,g'⟩:=J1 i2;unfold Is at g g';exact⟨i,j,by rw[g,g'],⟨hb.1.1,hb.1.2,hb.2.1,hb.2.2⟩,ok _ rfl _ F2 H1 x2 uq⟩
  ·exact absurd rfl nb
 ·exact absurd rfl nb
def kU(env:En)(slots:List Nat):En:=slots.map λk=>(env[k]?).getD none
def xZ(mt:MT)(me:ME)(caps:En):List T->gl (List T)|[]=>.ok []|t::ts=>match mt (some ↑P::caps)with|.ok true=>(match me (some ↑P::caps)with|.ok r=>(match xZ mt me caps ts with|.ok rs=>.ok (r.2::rs)|_=>.bad)|_=>.bad)|.ok false=>xZ mt me caps ts|_=>.bad
def zW(it:J3)(mt:MT)(me:ME)(slots:List Nat):ME:=λenv=>(it env).bind λts=>if ts.length<=sizeLine then(match xZ mt me (kU env slots) ts with|.ok rs=>.ok (true,.lst rs)|_=>.bad)else .bad
def zK:MT:=λ_=>.ok true
def oz(X:Cx)(ifs:List Expr)(m:MT):Prop:=∃t,WD X ifs t/\kN X t m
def xo:oz X [] zK:=⟨_,Vf,λF H σ env Q R nb ok ex=>ok true rfl F H (.refl R.dom)⟩
def Gn(h:o9 X c m):oz X [c] m:=let⟨t,p,s⟩:=h;⟨t,G3 p,s⟩
section
variable{X:Cx}{scope:Scope}{cl:List (Str×Addr)}{x:Str}{caps:List Str}{slots:List Nat}{iter elt:Expr}{ifs:List Expr}{px pos:Pos}{it:J3}{mt:MT}{me:ME}
def EN(X:Cx)(scope:Scope)(cl:List (Str×Addr))(x:Str)(caps:List Str)(ifs:List Expr)(m:MT):Prop:=∃t,∀C ex pn s₀ H₀,WD ↑f ifs t/\kN ↑f t m
def DY(X:Cx)(scope:Scope)(cl:List (Str×Addr))(x:Str)(caps:List Str)(e:Expr)(m:ME):Prop:=∃t,∀C ex pn s₀ H₀,PE ↑f e t/\wq ↑f t m
theorem Vy(h:∀C ex pn s₀ H₀,jK ↑f e m):DY X scope cl x caps e m:=by
 refine⟨λσ H Q=>∀C ex pn s₀ H₀,∃t,PE ↑f e t/\t σ H Q,λC ex pn s₀ H₀=>⟨λpins s σ H Q I w=>?_,λF H σ env Q R nb ok exx C' ex' pn' s₀' H₀'=>?_⟩⟩;·obtain⟨t,p,w⟩:=w C ex pn s₀ H₀;exact p pins s σ H Q I w
 ·obtain⟨t,p,s⟩:=h C' ex' pn' s₀' H₀';refine⟨t,p,s F H σ env Q R nb ok λy z ev F' H' xt ix=>?_⟩;exact ix.elim
theorem Vz(h:∀C ex pn s₀ H₀,oz ↑f ifs m):EN X scope cl x caps ifs m:=by
 refine⟨λσ H Q=>∀C ex pn s₀ H₀,∃t,WD ↑f ifs t/\t σ H Q,λC ex pn s₀ H₀=>⟨λpins s σ H Q I w=>?_,λF H σ env Q R nb ok exx C' ex' pn' s₀' H₀'=>?_⟩⟩;·obtain⟨t,p,w⟩:=w C ex pn s₀ H₀;exact p pins s σ H Q I w
 ·obtain⟨t,p,s⟩:=h C' ex' pn' s₀' H₀';refine⟨t,p,s F H σ env Q R nb ok λy z ev F' H' xt ix=>?_⟩;exact ix.elim
theorem VA{K:W.Frag}{F:Addr->Prop}{H:Hp}{σ:St}{env:En}{v:V}{t:T}(R:ky K F H σ env)(iv:Is K F H t v):ky K F H (some v::qu σ slots) (some ↑P::kU env slots):=by refine⟨R.dom,λi r h=>?_⟩;cases i with|zero=>simp at h;subst h;exact⟨v,rfl,iv⟩|succ i=>
  have h:(kU env slots)[i]?=some (some r):=by simpa using h
  unfold kU at h;rw[List.getElem?_map]at h;cases hk:slots[i]? with|none=>rw[hk]at h;cases h|some k=>
   rw[hk]at h;have h:(env[k]?).getD none=some r:=Option.some.inj h;have he:env[k]?=some (some r):=by cases e:env[k]? with|none=>rw[e]at h;cases h|some o=>rw[e]at h;have:o=some r:=h;rw[this]
   obtain⟨w,sw,q⟩:=R.vals k r he;refine⟨w,?_,q⟩;show(qu σ slots)[i]?=some (some w);unfold qu;rw[List.getElem?_map,hk];show some ((σ[k]?).getD none)=some (some w);rw[sw];rfl
theorem oA(si:Uo X wi it)(st:kN (zr X scope cl 0 (x::caps) [] [] X.s₀ X.H₀) tt mt)(se:wq (zr X scope cl 0 (x::caps) [] [] X.s₀ X.H₀) te me):wq X (Y8 wi tt te slots) (zW it mt me slots):=by
 intro F H σ env Q RE nb ok exx;unfold zW at nb ok exx;refine si F H σ env _ RE ↑d (λts e1 J F1 H1 x1 Y=>?_) λx z=>exx x ↑E;rw[e1,bind_ok]at nb ok;by_cases hl:ts.length<=sizeLine;·rw[if_pos hl]at nb ok;cases hcl:xZ mt me (kU env slots) ts with|bad=>rw[hcl]at nb;exact absurd rfl nb|exc y=>rw[hcl]at nb;exact absurd rfl nb|ok out=>
   rw[hcl]at ok;intro D hD;refine⟨λi m ys H=>m=ts.length-i/\i<=ts.length/\ys.length<=i/\H D=some (.lst ys)/\∃Fc us rest,¬Fc D/\xN F1 H1 Fc H/\IsAll X.K Fc H us ys/\xZ mt me (kU env slots) (ts.drop i)=.ok rest/\us++rest=out,⟨ts.length,by simp,Nat.zero_le _,Nat.le_refl _,zF,F1,[],out,λf=>x1.dom D f hD,xN.alloc x1.dom hD,IsAll.nil,by simpa using hcl,rfl⟩,?_⟩;rintro i m ys H2⟨rfl,hi,hyl,hHD,Fc,us,rest,nD,xc,iu,hrest,hout⟩;refine⟨hHD,?_⟩;obtain⟨yg,ysp⟩:=Y Fc H2 xc.kept i;by_cases hlt:i<ts.length
   ·obtain⟨go,yl⟩:=yg hlt;refine .inr ⟨go,λv H3 y=>?_⟩;obtain⟨rfl,t,hti,iv⟩:=yl v H3 y;have hd:ts.drop i=t::ts.drop (i+1):=by
     rw[List.drop_eq_getElem_cons hlt];have:ts[i]?=some ts[i]:=by simp[hlt]
     rw[this]at hti;cases hti;rfl
    rw[hd,xZ]at hrest;have RE2:ky X.K Fc H3 σ env:=(RE.mono x1).mono xc;have RC:ky X.K Fc H3 (some v::qu σ slots) (some ↑P::kU env slots):=VA RE2 iv;have keepD:∀{F':Addr->Prop}{H':Hp},xN Fc H3 F' H'->¬F' D/\H' D=some (.lst ys):=by
     intro F' H' xt;refine⟨λf=>?_,xt.same D _ hHD⟩;rcases xt.new D f with f|f;·exact nD f
     ·rw[hHD]at f;cases f
    refine st Fc H3 _ _ _ RC (λz=>by rw[z]at hrest;cases hrest) (λb eb F4 H4 x4=>?_) λy z=>by rw[z]at hrest;cases hrest
    rw[eb]at hrest;cases b with|false=>rw[if_neg Bool.false_ne_true];dsimp only at hrest;obtain⟨n4,d4⟩:=keepD x4;exact⟨ts.length-(i+1),by omega,rfl,hlt,by omega,d4,F4,us,rest,n4,xc.trans x4,iu.mono x4.kept,hrest,hout⟩|true=>
     rw[if_pos rfl];dsimp only at hrest;refine se.val (RC.mono x4) (λz=>by rw[z]at hrest;cases hrest) (λr er w F5 H5 x5 iw=>?_) λy z=>by rw[z]at hrest;cases hrest
     rw[er]at hrest;dsimp only at hrest;cases hcl2:xZ mt me (kU env slots) (ts.drop (i+1))with|bad=>rw[hcl2]at hrest;cases hrest|exc y=>rw[hcl2]at hrest;cases hrest|ok rest2=>
      rw[hcl2]at hrest;have hr:r.2::rest2=rest:=by injection hrest
      obtain⟨n5,d5⟩:=keepD (x4.trans x5);have x15:=(xc.trans x4).trans x5;refine⟨d5,by omega,ts.length-(i+1),by omega,rfl,hlt,by rw[List.length_append];simp;omega,zF,F5,us++[r.2],rest2,n5,?_,?_,hcl2,by rw[<-hout,<-hr];simp⟩
      ·refine⟨λa o h=>?_,x15.sub,x15.new,λa f=>?_⟩;·rw[zh (zC h hD)];exact x15.same a o h
       ·have:a≠D:=by rintro rfl;exact n5 f
        rw[zh this];exact x15.dom a f
      ·exact((iu.mono (x4.trans x5).kept).append (IsAll.cons iw IsAll.nil)).mono (wT n5 d5 (.inl ⟨_,rfl⟩))
   ·have hli:i=ts.length:=by omega
    subst hli;rw[List.drop_length,xZ]at hrest;have hr:rest=[]:=by injection hrest with hrest;exact hrest.symm
    subst hr;rw[List.append_nil]at hout;subst hout;refine .inl ⟨ysp ↑e,ok _ rfl _ Fc H2 (x1.trans xc) ?_⟩;unfold kL;rw[if_pos rfl];exact⟨D,rfl,nD,jv x1.same hD,ys,hHD,iu⟩
 ·rw[if_neg hl]at nb;exact absurd rfl nb
theorem M5(hc:X.calm=true)(S:iJ X scope cl x caps slots)(hi:a9 X (.Name x px) iter it)(ht:∀C ex pn s₀ H₀,oz ↑f ifs mt)(he:∀C ex pn s₀ H₀,jK ↑f elt me)(hs:∀v,foldedSetIterable iter X.env v=pure v:=by intro _;rfl)(hg:∀it v,letOwnedTupleGo (.Name x px) it v=pure ():=by intro _ _;rfl):jK X ↑s (zW it mt me slots):=by obtain⟨wi,pi,si⟩:=hi;obtain⟨tt,ht⟩:=Vz ht;obtain⟨te,he⟩:=Vy he;exact⟨_,G4 hc S pi (λC ex pn s₀ H₀=>(ht C ex pn s₀ H₀).1) (λC ex pn s₀ H₀=>(he C ex pn s₀ H₀).1) hs hg,oA si (ht 0 [] [] X.s₀ X.H₀).2 (he 0 [] [] X.s₀ X.H₀).2⟩
end
end L3
namespace L3
open PySem PySem.W PyProof.Rows
def wV(lt:Nat->Nat->Bool){α:Type}:KasT α->α|.ret a=>a|.ask i j k=>wV lt (k (lt i j))
def qh:∀(t:KasT α),wV lt (t.bind f)=wV lt (f (wV lt t))|.ret a=>rfl|.ask i j k=>by show wV lt ((k (lt i j)).bind f)=_;rw[qh (k (lt i j))];rfl
structure TO(lt:Nat->Nat->Bool)(n:Nat):Prop where
 asym:∀i j,i<n->j<n->lt i j=true->lt j i=false
 trans:∀i j k,i<n->j<n->k<n->lt i j=true->lt j k=true->lt i k=true
 total:∀i j,i<n->j<n->i≠j->lt i j=true\/lt j i=true
structure Pm(p:Array Nat)(n:Nat):Prop where
 size:p.size=n
 perm:p.toList.Perm (List.range n)
def Pm.lt(h:Pm p n)(hi:i<n):p.getD i 0<n:=by
 have hs:i<p.size:=by rw[h.size];exact hi
 have:p[i]∈p.toList:=by simp
 have:=(h.perm.mem_iff).mp this;simp only[Array.getD,hs,dite_true];exact List.mem_range.mp this
def Pm.inj(h:Pm p n)(hi:i<n)(hj:j<n)(e:p.getD i 0=p.getD j 0):i=j:=by
 have hi':i<p.size:=by rw[h.size];exact hi
 have hj':j<p.size:=by rw[h.size];exact hj
 have nd:p.toList.Nodup:=h.perm.nodup_iff.mpr List.nodup_range;simp only[Array.getD,hi',hj',dite_true]at e;have h1:p.toList[i]?=some p[i]:=by simp[hi']
 have h2:p.toList[j]?=some p[j]:=by simp[hj']
 have e:p[i]=p[j]:=e;rw[e]at h1;exact(List.getElem?_inj (by simpa using hi') nd).mp (h1.trans h2.symm)
def Up(lt:Nat->Nat->Bool)(p:Array Nat)(m:Nat):Prop:=∀i j,i<j->j<m->lt (p.getD i 0) (p.getD j 0)=true
def Dn(lt:Nat->Nat->Bool)(p:Array Nat)(m:Nat):Prop:=∀i j,i<j->j<m->lt (p.getD j 0) (p.getD i 0)=true
def Go(T:TO lt n)(h:Pm p n)(hm:m<n)(h1:1<=m)(u:Up lt p m)(hl:lt (p.getD m 0) ↑ba=false):Up lt p (m+1):=by
 have last:lt ↑ba (p.getD m 0)=true:=by
  rcases T.total (p.getD m 0) ↑ba (h.lt hm) (h.lt ↑a) (λe=>by have:=h.inj hm ↑a e;omega)with z|z;·rw[hl]at z;cases z
  ·exact z
 intro i j hij hj;by_cases e:j=m
 ·subst e;by_cases e2:i=j-1;·subst e2;exact last
  ·exact T.trans _ _ _ (h.lt ↑a) (h.lt ↑a) (h.lt ↑a) (u i (j-1) ↑a ↑a) last
 ·exact u i j hij ↑a
def aa(T:TO lt n)(h:Pm p n)(hm:m<n)(h1:1<=m)(u:Dn lt p m)(hl:lt (p.getD m 0) ↑ba=true):Dn lt p (m+1):=by
 intro i j hij hj;by_cases e:j=m
 ·subst e;by_cases e2:i=j-1;·subst e2;exact hl
  ·exact T.trans _ _ _ (h.lt ↑a) (h.lt ↑a) (h.lt ↑a) hl (u i (j-1) ↑a ↑a)
 ·exact u i j hij ↑a
def ab(T:TO lt n)(h:Pm p n):∀(f m:Nat),1<=m->m+f=n->Up lt p m->Up lt p (wV lt (kas_asc p f m))/\m<=wV lt (kas_asc p f m)/\wV lt (kas_asc p f m)<=n/\(wV lt (kas_asc p f m)<n->lt (p.getD (wV lt (kas_asc p f m)) 0) (p.getD (wV lt (kas_asc p f m)-1) 0)=true)|0,m,h1,hf,u=>⟨u,Nat.le_refl _,by show m<=n;omega,λz=>absurd (show m<n from z) ↑a⟩|f+1,m,h1,hf,u=>by show _/\_;have e:wV lt (kas_asc p (f+1) m)=wV lt (if lt (p.getD m 0) ↑ba=true then .ret m else kas_asc p f (m+1)):=rfl;rw[e];cases hl:lt (p.getD m 0) ↑ba with|true=>exact⟨u,Nat.le_refl _,by show m<=n;omega,λ_=>hl⟩|false=>obtain⟨a,b,c,d⟩:=ab T h f (m+1) ↑a ↑a (Go T h ↑a h1 u hl);exact⟨a,by show m<=wV lt (kas_asc p f (m+1));omega,c,d⟩
def J5(h:Pm p n)(i j:Nat):Pm (kas_rev p i j) n:=by refine⟨by unfold kas_rev;rw[mirror_size];exact h.size,?_⟩;have:=mirror_perm p i j ((j-i)/2);exact(Array.perm_iff_toList_perm.mp this).trans h.perm
def qO{p:Array Nat}{k:Nat}:p.getD k 0=(p[k]?).getD 0:=by simp[Array.getD_eq_getD_getElem?]
def Yi{p:Array Nat}(h:Pm p n){m k:Nat}(hm:m<=n):(kas_rev p 0 m).getD k 0=if k<m then p.getD (m-1-k) 0 else p.getD k 0:=by
 rw[qO];unfold kas_rev;rw[getElem?_mirror (by rw[h.size];exact hm) _ ↑a k];by_cases hk:k<m
 ·rw[if_pos hk];by_cases c:(0<=k/\k<0+(m-0)/2)\/(m-(m-0)/2<=k/\k<m);·rw[if_pos c,qO];congr 2;omega
  ·rw[if_neg c];have:m-1-k=k:=by omega
   rw[this,qO]
 ·rw[if_neg hk,if_neg ↑a,qO]
def M6(T:TO lt n)(h:Pm p n)(hm:m<=n)(d:Dn lt p m):Up lt (kas_rev p 0 m) m:=by intro i j hij hj;rw[Yi h hm,Yi h hm,if_pos ↑a,if_pos hj];exact d _ _ ↑a ↑a
def ac(T:TO lt n)(h:Pm p n):∀(f m:Nat),1<=m->m+f=n->Dn lt p m->∃m',wV lt (kas_desc f p m 0)=(p,m',0)/\m<=m'/\m'<=n/\Dn lt p m'|0,m,h1,hf,u=>⟨m,rfl,Nat.le_refl _,by omega,u⟩|f+1,m,h1,hf,u=>by have e:wV lt (kas_desc (f+1) p m 0)=wV lt (if lt (p.getD m 0) ↑ba=true then(if 0>0 then kas_desc f (kas_rev p (m-(0+1)) m) (m+1) 0 else kas_desc f p (m+1) 0)else .ask ↑ba (p.getD m 0) λd=>if d=true then .ret (p,m,0)else kas_desc f p (m+1) (0+1)):=rfl;rw[e];cases hl:lt (p.getD m 0) ↑ba with|true=>obtain⟨m',e',a,b,c⟩:=ac T h f (m+1) ↑a ↑a (aa T h ↑a h1 u hl);refine⟨m',?_,by omega,b,c⟩;rw[if_pos rfl,if_neg ↑a];exact e'|false=>
   rw[if_neg Bool.false_ne_true];have:lt ↑ba (p.getD m 0)=true:=by
    rcases T.total (p.getD m 0) ↑ba (h.lt ↑a) (h.lt ↑a) (λe=>by have:=h.inj (show m<n by omega) ↑a e;omega)with z|z;·rw[hl]at z;cases z
    ·exact z
   show∃m',wV lt (if lt ↑ba (p.getD m 0)=true then .ret (p,m,0)else kas_desc f p (m+1) (0+1))=_/\_;rw[this,if_pos rfl];exact⟨m,rfl,Nat.le_refl _,by omega,u⟩
def VB(T:TO lt n)(h:Pm p n)(h1:1<=m)(hm:m<=n)(d:Dn lt p m):∃k q,wV lt (kas_tail3 m n p)=(k,q)/\Pm q n/\1<=k/\k<=n/\Up lt q k:=by unfold kas_tail3;rw[qh];obtain⟨a,b,c,_⟩:=ab T (J5 h 0 m) (n-m) m h1 ↑a (M6 T h hm d);exact⟨_,_,rfl,J5 h 0 m,by omega,c,a⟩
def oC(T:TO lt n)(h:Pm p n)(h2:1<=n):∃k q,wV lt (kas_count n p)=(k,q)/\Pm q n/\1<=k/\k<=n/\Up lt q k:=by
 unfold kas_count;rw[qh];obtain⟨a,b,c,d⟩:=ab T h (n-1) 1 ↑e ↑a (λi j h1 h2=>by omega);generalize hk:wV lt (kas_asc p (n-1) 1)=k at a b c d⊢;by_cases e:k=n;·rw[if_pos (by simp[e])];exact⟨k,p,rfl,h,b,c,a⟩
 ·rw[if_neg (by simpa using e)];have hd:=d ↑a;by_cases hk1:k>1;·rw[if_pos hk1];have:lt (p.getD 0 0) (p.getD (k-1) 0)=true:=a 0 (k-1) ↑a ↑a;show∃k' q,wV lt (if lt (p.getD 0 0) (p.getD (k-1) 0)=true then .ret (k,p)else kas_descPart k n (kas_rev p 0 k))=_/\_;rw[this,if_pos rfl];exact⟨k,p,rfl,h,b,c,a⟩
  ·rw[if_neg hk1];have hk0:k=1:=by omega
   subst hk0;unfold kas_descPart;rw[qh];have d2:Dn lt p 2:=aa T h ↑a ↑e (λi j h1 h2=>by omega) hd;obtain⟨m',e',x,y,z⟩:=ac T h (n-(1+1)) (1+1) ↑a ↑a d2;rw[e'];show∃k q,wV lt (if 0>0 then _ else kas_tail3 m' n p)=_/\_;rw[if_neg ↑a];exact VB T h ↑a y z
def hV(T:TO lt n)(h:Pm p n)(hk:k<n)(u:Up lt p k):∀(f l r:Nat),r-l<=f->l<=r->r<=k->(∀i,i<l->lt (p.getD i 0) (p.getD k 0)=true)->(∀i,r<=i->i<k->lt (p.getD k 0) (p.getD i 0)=true)->∃l',wV lt (kas_place p k f l r)=l'/\l'<=k/\(∀i,i<l'->lt (p.getD i 0) (p.getD k 0)=true)/\(∀i,l'<=i->i<k->lt (p.getD k 0) (p.getD i 0)=true)
 |0,l,r,hf,hlr,hr,a,b=>⟨l,rfl,by omega,a,λi h1 h2=>b i ↑a h2⟩|f+1,l,r,hf,hlr,hr,a,b=>by
  show∃l',wV lt (if l>=r then .ret l else .ask (p.getD k 0) (p.getD ((l+r)/2) 0) λc=>if c=true then kas_place p k f l ((l+r)/2)else kas_place p k f ((l+r)/2+1) r)=l'/\_;by_cases e:l>=r;·rw[if_pos e];exact⟨l,rfl,by omega,a,λi h1 h2=>b i ↑a h2⟩
  ·rw[if_neg e];show∃l',wV lt (if lt (p.getD k 0) (p.getD ((l+r)/2) 0)=true then kas_place p k f l ((l+r)/2)else kas_place p k f ((l+r)/2+1) r)=l'/\_;have hmid:(l+r)/2<k:=by omega
   cases hl:lt (p.getD k 0) (p.getD ((l+r)/2) 0)with|true=>
    rw[if_pos rfl];refine hV T h hk u f l ((l+r)/2) ↑a ↑a ↑a a λi h1 h2=>?_;by_cases e2:i=(l+r)/2;·subst e2;exact hl
    ·exact T.trans _ _ _ (h.lt hk) (h.lt ↑a) (h.lt ↑a) hl (u _ _ ↑a h2)|false=>
    rw[if_neg Bool.false_ne_true];have hl2:lt (p.getD ((l+r)/2) 0) (p.getD k 0)=true:=by
     rcases T.total (p.getD k 0) (p.getD ((l+r)/2) 0) (h.lt hk) (h.lt ↑a) (λe=>by have:=h.inj hk ↑a e;omega)with z|z;·rw[hl]at z;cases z
     ·exact z
    refine hV T h hk u f ((l+r)/2+1) r ↑a ↑a hr (λi h1=>?_) b;by_cases e2:i=(l+r)/2;·subst e2;exact hl2
    ·exact T.trans _ _ _ (h.lt ↑a) (h.lt ↑a) (h.lt hk) (u i ((l+r)/2) ↑a hmid) hl2
def VC(T:TO lt n):∀(f:Nat)(p:Array Nat)(k:Nat),Pm p n->k+f=n->1<=k->Up lt p k->∃q,wV lt (kas_bin f p k)=q/\Pm q n/\Up lt q n
 |0,p,k,h,hf,h1,u=>⟨p,rfl,h,by
  have:k=n:=by omega
  rw[<-this];exact u⟩|f+1,p,k,h,hf,h1,u=>by
  unfold kas_bin;rw[qh];obtain⟨l,e,hl,a,b⟩:=hV T h (show k<n by omega) u k 0 k ↑a ↑a ↑e (λi h=>by omega) (λi h1 h2=>by omega);rw[e];have hq:Pm (bubble p k (k-l)) n:=⟨by rw[bubble_size];exact h.size,(Array.perm_iff_toList_perm.mp (bubble_perm p k (k-l))).trans h.perm⟩;have g:∀i,(bubble p k (k-l)).getD i 0=if i=l then p.getD k 0 else if l<i/\i<=k then p.getD (i-1) 0 else p.getD i 0:=by
   intro i;rw[qO,getElem?_bubble (by rw[h.size];omega) (k-l) ↑a i];have:k-(k-l)=l:=by omega
   rw[this];by_cases e1:i=l;·rw[if_pos e1,if_pos e1,qO]
   ·rw[if_neg e1,if_neg e1];by_cases e2:l<i/\i<=k;·rw[if_pos e2,if_pos e2,qO]
    ·rw[if_neg e2,if_neg e2,qO]
  refine VC T f _ (k+1) hq ↑a ↑a λi j hij hj=>?_;rw[g i,g j];by_cases ei:i=l;·rw[if_pos ei,if_neg ↑a,if_pos ↑a];exact b (j-1) ↑a ↑a
  ·rw[if_neg ei];by_cases ej:j=l;·rw[if_pos ej,if_neg ↑a];exact a i ↑a
   ·rw[if_neg ej];by_cases ci:l<i/\i<=k;·rw[if_pos ci,if_pos ↑a];exact u _ _ ↑a ↑a
    ·rw[if_neg ci];by_cases cj:l<j/\j<=k
     ·rw[if_pos cj];by_cases e3:i<j-1;·exact u _ _ e3 ↑a
      ·exfalso;omega
     ·rw[if_neg cj];exact u _ _ hij ↑a
def Yj(T:TO lt n)(h1:1<=n):∃q,wV lt (kas_sort n)=q/\Pm q n/\Up lt q n:=by
 unfold kas_sort;rw[qh];have h0:Pm (List.toArray (List.range n)) n:=⟨by simp,by simp⟩;obtain⟨k,q,e,hq,hk,hk2,u⟩:=oC T h0 h1;rw[e];show∃r,wV lt (if k<n then kas_bin (n-max k 1) q (max k 1)else .ret q)=r/\_;by_cases hl:k<n
 ·rw[if_pos hl];have:max k 1=k:=by omega
  rw[this];exact VC T (n-k) q k hq ↑a hk u
 ·rw[if_neg hl];have:k=n:=by omega
  subst this;exact⟨q,rfl,hq,u⟩
def hZ(lt:Nat->Nat->Bool)(n:Nat){α:Type}:KasT α->Prop|.ret _=>True|.ask i j k=>i<n/\j<n/\hZ lt n (k (lt i j))
def hZ.bind:∀{t:KasT α},hZ lt n t->hZ lt n (f (wV lt t))->hZ lt n (t.bind f)|.ret a,_,h=>h|.ask i j k,h,g=>⟨h.1,h.2.1,hZ.bind h.2.2 g⟩
def ee(hc:∀i j(C:Bool->Shared->Prop),i<n->j<n->C (lt i j) s->cmp i j C s):∀(t:KasT α),hZ lt n t->Q (wV lt t) s->t.kasWp cmp Q s|.ret a,_,h=>h|.ask i j k,r,h=>hc i j _ r.1 r.2.1 (ee hc (k (lt i j)) r.2.2 h)
def J6(h:Pm p n):∀(f m:Nat),1<=m->m+f=n->hZ lt n (kas_asc p f m)|0,m,h1,hf=>trivial|f+1,m,h1,hf=>by refine⟨h.lt ↑a,h.lt ↑a,?_⟩;cases hl:lt (p.getD m 0) ↑ba with|true=>exact trivial|false=>exact J6 h f (m+1) ↑a ↑a
def Yk(T:TO lt n)(h:Pm p n):∀(f m:Nat),1<=m->m+f=n->hZ lt n (kas_desc f p m 0)|0,m,h1,hf=>trivial|f+1,m,h1,hf=>by refine⟨h.lt ↑a,h.lt ↑a,?_⟩;cases hl:lt (p.getD m 0) ↑ba with|true=>show hZ lt n (if true=true then(if 0>0 then kas_desc f (kas_rev p (m-(0+1)) m) (m+1) 0 else kas_desc f p (m+1) 0)else _);rw[if_pos rfl,if_neg ↑a];exact Yk T h f (m+1) ↑a ↑a|false=>
   refine⟨h.lt ↑a,h.lt ↑a,?_⟩;have:lt ↑ba (p.getD m 0)=true:=by
    rcases T.total (p.getD m 0) ↑ba (h.lt ↑a) (h.lt ↑a) (λe=>by have:=h.inj (show m<n by omega) ↑a e;omega)with z|z;·rw[hl]at z;cases z
    ·exact z
   rw[this];exact trivial
def VD(h:Pm p n)(h1:1<=m)(hm:m<=n):hZ lt n (kas_tail3 m n p):=by unfold kas_tail3;exact hZ.bind (J6 (J5 h 0 m) (n-m) m h1 ↑a) trivial
def VE(T:TO lt n)(h:Pm p n)(h2:1<=n):hZ lt n (kas_count n p):=by
 unfold kas_count;refine hZ.bind (J6 h (n-1) 1 ↑e ↑a) ?_;obtain⟨a,b,c,d⟩:=ab T h (n-1) 1 ↑e ↑a (λi j h1 h2=>by omega);generalize hk:wV lt (kas_asc p (n-1) 1)=k at a b c d⊢;by_cases e:k=n;·rw[if_pos (by simp[e])];exact trivial
 ·rw[if_neg (by simpa using e)];have hd:=d ↑a;by_cases hk1:k>1;·rw[if_pos hk1];refine⟨h.lt ↑a,h.lt ↑a,?_⟩;have:lt (p.getD 0 0) (p.getD (k-1) 0)=true:=a 0 (k-1) ↑a ↑a;rw[this];exact trivial
  ·rw[if_neg hk1];have hk0:k=1:=by omega
   subst hk0;unfold kas_descPart;have d2:Dn lt p 2:=aa T h ↑a ↑e (λi j h1 h2=>by omega) hd;refine hZ.bind (Yk T h (n-(1+1)) (1+1) ↑a ↑a) ?_;obtain⟨m',e',x,y,z⟩:=ac T h (n-(1+1)) (1+1) ↑a ↑a d2;rw[e'];show hZ lt n (if 0>0 then _ else kas_tail3 m' n p);rw[if_neg ↑a];exact VD h ↑a y
def ef(h:Pm p n)(hk:k<n):∀(f l r:Nat),r<=k->hZ lt n (kas_place p k f l r)
 |0,l,r,hr=>trivial|f+1,l,r,hr=>by
  show hZ lt n (if l>=r then .ret l else .ask (p.getD k 0) (p.getD ((l+r)/2) 0) λc=>if c=true then kas_place p k f l ((l+r)/2)else kas_place p k f ((l+r)/2+1) r);by_cases e:l>=r;·rw[if_pos e];exact trivial
  ·rw[if_neg e];refine⟨h.lt hk,h.lt ↑a,?_⟩;cases hl:lt (p.getD k 0) (p.getD ((l+r)/2) 0)with|true=>exact ef h hk f l ((l+r)/2) ↑a|false=>exact ef h hk f ((l+r)/2+1) r hr
def VF(T:TO lt n):∀(f:Nat)(p:Array Nat)(k:Nat),Pm p n->k+f=n->hZ lt n (kas_bin f p k)|0,p,k,h,hf=>trivial|f+1,p,k,h,hf=>by unfold kas_bin;refine hZ.bind (ef h ↑a k 0 k ↑e) ?_;exact VF T f _ (k+1) ⟨by rw[bubble_size];exact h.size,(Array.perm_iff_toList_perm.mp (bubble_perm p k _)).trans h.perm⟩ ↑a
def Yl(T:TO lt n)(h1:1<=n):hZ lt n (kas_sort n):=by
 unfold kas_sort;have h0:Pm (List.toArray (List.range n)) n:=⟨by simp,by simp⟩;refine hZ.bind (VE T h0 h1) ?_;obtain⟨k,q,e,hq,hk,hk2,u⟩:=oC T h0 h1;rw[e];show hZ lt n (if k<n then kas_bin (n-max k 1) q (max k 1)else .ret q);by_cases hl:k<n
 ·rw[if_pos hl];have:max k 1=k:=by omega
  rw[this];exact VF T (n-k) q k hq ↑a
 ·rw[if_neg hl];exact trivial
end L3
namespace L3
open PySem PySem.Spec PyProof.Rows PySem.W
def l8{l:Addr}{vs:List Value}{o:Obj}{n:Nat}{T:String}{Q:List Value->Shared->Prop}(ho:s.heap.get? l=some o)(hc:o.cls=.type T)(hd:o.data=.seq vs.toArray n)(hT:T="list"\/T="tuple")(h:Q vs {s with heap:=(s.heap.push ↑C).update s.heap.objs.size ↑aB})(hsz:vs.length<=sizeLine):wpAny ↑n A (collect (.ref l)) Q E s:=by
 unfold collect;refine wpAny_bind (wpAny_runValue (codeAny_builtin entry_proto_collect' ?_));show wpAny _ _ (do again (.builtin "list.__iadd__" ⟨[<-newList [],.ref l],[]⟩)) _ _ s;refine wpAny_bind (wpAny_newList (wpAny_pure ⟨Code.quiet_builtin _ ↑aa,codeAny_builtin entry_list_iadd' ?_⟩) ↑aV);show wpAny _ _ (Builtin.List.listExtendWith ↑ak (.ref l) ↑ak) _ _ {s with heap:=s.heap.push ↑C};unfold Builtin.List.listExtendWith;have ho':(s.heap.push ↑C).get? l=some o:=Heap.get?_push_of_some _ ho;refine wpAny_bind (wpAny_typeOf ⟨o,ho',hc⟩ ?_);have e1:(Value.type "list"==Value.type "list")=true:=by decide+kernel
 have e2:(Value.type "tuple"==Value.type "tuple")=true:=by decide+kernel
 rw[if_pos (by rcases hT with rfl|rfl;(rw[e1];simp);(rw[e2];simp))];refine wpAny_bind (listItems_at ho' hd ?_);refine wpAny_bind (listItems_at (Heap.get?_push_size _ rfl) rfl ?_);rw[if_neg ↑T];refine wpAny_bind (listUpdate_at (Heap.get?_push_size _ rfl) rfl ?_ ↑aV (by show(#[]++vs.toArray).size<=sizeLine+1;simp only[Array.size_append,List.size_toArray,List.length_nil];omega));refine wpAny_pure ?_;show wpAny ↑n A (do let o<-load s.heap.objs.size match o.data with|.seq xs _=>pure xs.toList|_=>unsupported "internal:collect") Q E {s with heap:=(s.heap.push ↑C).update s.heap.objs.size ↑aB};refine wpAny_bind (wpAny_load (get?_update_seq (Heap.get?_push_size _ rfl) _) ?_);show wpAny _ _ (pure ((#[]:Array Value)++vs.toArray).toList) Q E _;rw[show((#[]:Array Value)++vs.toArray).toList=vs by simp];exact wpAny_pure h
def XJ(ho:s.heap.get? a=some (seqObj "list" vs.toArray n))(h64:vs.length<64)(T:TO lt vs.length)(hk:2<=vs.length->∀h',(∀b o,b≠a->s.heap.get? b=some o->h'.get? b=some o)->(∀(Q:SortKind->Shared->Prop),Q κ {s with heap:=h'}->wpAny ↑n A (keyKind' vs.toArray) Q (λ_ _=>False) {s with heap:=h'})/\∀i j(C:Bool->Shared->Prop),i<vs.length->j<vs.length->C (lt i j) {s with heap:=h'}->wpAny ↑n A (keyLt' κ (vs.getD i Value.none) (vs.getD j Value.none)) C (λ_ _=>False) {s with heap:=h'})(h:∀q:Array Nat,Pm q vs.length->Up lt q vs.length->P (.done (.ret .none)) {s with heap:=sortedHeap s.heap a vs ↑aJ}):wpAny ↑n A (Builtin.«list.sort» ⟨[.ref a],[]⟩) P E s:=by
 rw[list_sort_plain];have ha:a<s.heap.objs.size:=Heap.lt_size ho;refine wpAny_bind (listItems_at ho rfl ?_);refine wpAny_bind (listUpdate_at ho rfl ?_ (by rw[List.size_toArray,sizeLine_eq];omega) ↑aV);obtain⟨e1,ho1⟩:∃e1,(s.heap.update a ↑p).get? a=some (seqObj "list" #[] e1):=⟨_,get?_update_seq ho (λ_=>#[])⟩;refine wpAny_bind (seqEpoch_at ho1 rfl ?_);refine wpAny_bind (wpAny_newTuple ?_ (by show vs.length<=_;rw[sizeLine_eq];omega));refine wpAny_bind (wpAny_newList ?_ ↑aV);refine wpAny_holding ?_;have ho6:(((s.heap.update a ↑p).push ↑R).push ↑C).get? a=some (seqObj "list" #[] e1):=by rw[Heap.get?_push_ne _ _ _ (by rw[size_push',Heap.size_update];exact Nat.ne_of_lt (Nat.lt_succ_of_lt ha)),Heap.get?_push_ne _ _ _ (by rw[Heap.size_update];exact Nat.ne_of_lt ha)];exact ho1
 show wpAny ↑n A _ P E {s with heap:=((s.heap.update a ↑p).push ↑R).push ↑C};dsimp only;have hsz:vs.toArray.size=vs.length:=by simp
 by_cases h2:vs.toArray.size<2
 ·rw[if_pos h2,if_pos h2];refine wpAny_bind (wpAny_pure ?_);rw[StateT.run_pure];refine wpAny_bind (wpAny_pure ?_);dsimp only;refine wpAny_bind (seqEpoch_at ho6 rfl ?_);have hlen:vs.length<2:=by omega
  have e2:(arrOf (SortSt.mk' general' (vs.toArray.zip vs.toArray) #[] 7 none)).map (·.2)=List.toArray ((List.toArray (List.range vs.length)).toList.map λi=>vs.getD i Value.none):=by refine kat_snds rfl ?_;have e:=kas_range (vs.toArray.zip vs.toArray);rw[show(vs.toArray.zip vs.toArray).size=vs.length by simp]at e;exact e.symm
  have e2':Array.map (·.2) (vs.toArray.zip vs.toArray)=List.toArray ((List.toArray (List.range vs.length)).toList.map λi=>vs.getD i Value.none):=e2;refine wpAny_bind (listUpdate_at ho6 rfl ?_ ↑aV (by show(Array.map (·.2) (arrOf (SortSt.mk' general' (vs.toArray.zip vs.toArray) #[] 7 none))).size<=_;rw[e2,List.size_toArray,List.length_map];simp;rw[sizeLine_eq];omega));simp only[bne_self_eq_false,Bool.false_eq_true,if_false];refine wpAny_pure ?_;have:=h (List.toArray (List.range vs.length)) ⟨by simp,by simp⟩ λi j hij hj=>by omega
  rw[<-e2']at this;exact this
 ·rw[if_neg h2,if_neg h2];have h2':2<=vs.length:=by omega
  obtain⟨kk,kl⟩:=hk h2' _ (λb o hb e=>by have hlt:b<s.heap.objs.size:=Heap.lt_size e;show(((s.heap.update a ↑p).push ↑R).push ↑C).get? b=some o;rw[Heap.get?_push_ne _ _ _ (by rw[size_push',Heap.size_update];exact Nat.ne_of_lt (Nat.lt_succ_of_lt hlt)),Heap.get?_push_ne _ _ _ (by rw[Heap.size_update];exact Nat.ne_of_lt hlt),Heap.get?_update_ne _ _ _ _ hb];exact e);refine wpAny_bind (wpAny_mono (kk (λκ' s'=>κ'=κ/\s'={s with heap:=((s.heap.update a ↑p).push ↑R).push ↑C}) ⟨rfl,rfl⟩) (λκ' s0 hκ=>?_) λ_ _ x=>x.elim);obtain⟨rfl,rfl⟩:=hκ;obtain⟨q,hq1,hq2,hq3⟩:=Yj T ↑a;refine wpAny_bind (wpAny_mono (kat_run (G:=λp s'=>p=q/\s'={s with heap:=((s.heap.update a ↑p).push ↑R).push ↑C}) (Q:=λst' s'=>arrOf st'=q.map (kas_item (vs.toArray.zip vs.toArray))/\failedOf st'=none/\s'={s with heap:=((s.heap.update a ↑p).push ↑R).push ↑C}) rfl h2' h64 (λp' st' s' a1 a2 a3 a4=>by obtain⟨rfl,rfl⟩:=a4;exact⟨a2,a3,rfl⟩) (ee (λi j C hi hj hC=>kl i j C hi hj hC) (kas_sort vs.length) (Yl T ↑a) ⟨hq1,rfl⟩)) ?_ λ_ _ e=>e);rintro⟨⟨⟩,st'⟩s'⟨har,hf,rfl⟩;dsimp only;have hout:=kat_snds rfl har;have hsz3:(List.toArray (q.toList.map λi=>vs.getD i Value.none)).size=vs.length:=by rw[List.size_toArray,List.length_map,Array.length_toList,hq2.size]
  rw[hout];refine wpAny_bind (seqEpoch_at ho6 rfl ?_);refine wpAny_bind (listUpdate_at ho6 rfl ?_ ↑aV (Nat.le_trans (Nat.le_of_eq hsz3) (by rw[sizeLine_eq];omega)));rw[hf];simp only[bne_self_eq_false,Bool.false_eq_true,if_false];exact wpAny_pure (h q hq2 hq3)
def cO{κ:SortKind}{lt:Nat->Nat->Bool}{l:Addr}{vs:List Value}{o:Obj}{n:Nat}{Ty:String}{Q:Value->Shared->Prop}(ho:s.heap.get? l=some o)(hc:o.cls=.type Ty)(hd:o.data=.seq vs.toArray n)(hT:Ty="list"\/Ty="tuple")(h64:vs.length<64)(T:TO lt vs.length)(hk:2<=vs.length->∀h',(∀b o,s.heap.get? b=some o->h'.get? b=some o)->(∀(Q:SortKind->Shared->Prop),Q κ {s with heap:=h'}->wpAny ↑n A.in1.in1 (keyKind' vs.toArray) Q (λ_ _=>False) {s with heap:=h'})/\∀i j(C:Bool->Shared->Prop),i<vs.length->j<vs.length->C (lt i j) {s with heap:=h'}->wpAny ↑n A.in1.in1 (keyLt' κ (vs.getD i Value.none) (vs.getD j Value.none)) C (λ_ _=>False) {s with heap:=h'})(h:∀q:Array Nat,Pm q vs.length->Up lt q vs.length->Q (.ref ↑w) {s with heap:=sortedAll s.heap vs ↑aJ}):wpAny ↑n A (call (.builtin "sorted") [.ref l]) Q E s:=by
 refine Calls.call_function_entry kind_sorted plain_sorted entry_sorted (args_sorted1 _) ?_;unfold Builtin.«sorted»;refine wpAny_bind (wpAny_pure ?_);refine wpAny_bind (l8 ho hc hd hT ?_ (by rw[sizeLine_eq];omega));refine wpAny_bind (wpAny_newList ?_ (by rw[sizeLine_eq];omega));have hsz:((s.heap.push ↑C).update s.heap.objs.size ↑aB).objs.size=s.heap.objs.size+1:=by rw[Heap.size_update,size_push']
 have hoL:(((s.heap.push ↑C).update s.heap.objs.size ↑aB).push (seqObj "list" vs.toArray 0)).get? ↑w=some (seqObj "list" vs.toArray 0):=by rw[<-hsz];exact Heap.get?_push_size _ rfl
 have keep:∀b o,s.heap.get? b=some o->(((s.heap.push ↑C).update s.heap.objs.size ↑aB).push (seqObj "list" vs.toArray 0)).get? b=some o:=λb o q=>by have hlt:b<s.heap.objs.size:=Heap.lt_size q;rw[Heap.get?_push_ne _ _ _ (by rw[hsz];exact Nat.ne_of_lt (Nat.lt_succ_of_lt hlt)),Heap.get?_update_ne _ _ _ _ (Nat.ne_of_lt hlt),Heap.get?_push_ne _ _ _ (Nat.ne_of_lt hlt)];exact q
 show wpAny _ _ _ _ _ {s with heap:=((s.heap.push ↑C).update s.heap.objs.size ↑aB).push (seqObj "list" vs.toArray 0)};rw[hsz];refine wpAny_bind (wpAny_holding (wpAny_call_entry slot_list_sort ⟨_,hoL,rfl⟩ entry_list_sort (XJ (κ:=κ) hoL h64 T (λh2 h' kp=>?_) λq hq1 hq2=>⟨_,rfl,?_⟩) (args_list_sort _)));·exact hk h2 h' λb o e=>kp b o (Nat.ne_of_lt (Nat.lt_succ_of_lt ↑aQ)) (keep b o e)
 ·exact wpAny_pure ⟨_,rfl,h q hq1 hq2⟩
end L3
namespace L3
open PySem PySem.Spec PyProof.Rows PySem.W L2
def jM:T->List (List Nat)|.str z=>[z.cps.toList]|.tup (.str a::.str b::_)=>[a.cps.toList,b.cps.toList]|_=>[]
def Zt:T->Bool|.str _=>true|_=>false
def dW:T->Bool|.tup (.str _::.str _::_)=>true|_=>false
def l9(a b:T):Bool:=decide (jM a<jM b)
def J7(t:T):List T->List T|[]=>[t]|u::us=>if l9 u t=true then u::J7 t us else t::u::us
def zA:List T->List T|[]=>[]|t::ts=>J7 t (zA ts)
def sortS(ts:List T):Option (List T):=if ts.length<64/\(ts.all Zt=true\/ts.all dW=true)/\(ts.map jM).Nodup then some (zA ts)else none
def x9:List T->Option RV|[.lst ts]=>(sortS ts).map λus=>(true,.lst us)|[.tup ts]=>(sortS ts).map λus=>(true,.lst us)|_=>none
def m4(t:T):∀us:List T,(J7 t us).Perm (t::us)
 |[]=>List.Perm.refl _|u::us=>by
  unfold J7;split;·exact((m4 t us).cons u).trans (List.Perm.swap t u us)
  ·exact List.Perm.refl _
def zU:∀ts:List T,(zA ts).Perm ts|[]=>List.Perm.refl _|t::ts=>(m4 t (zA ts)).trans ((zU ts).cons t)
def Ym{a b:List (List Nat)}(h:¬a<b)(g:¬b<a):a=b:=List.le_antisymm (List.not_lt.mp g) (List.not_lt.mp h)
def la{t:T}:∀{us:List T},us.Pairwise (λa b=>l9 a b=true)->(∀u∈us,jM u≠jM t)->(J7 t us).Pairwise (λa b=>l9 a b=true)
 |[],_,_=>by unfold J7;simp|u::us,h,hn=>by
  unfold J7;have hp:=List.pairwise_cons.mp h;split
  ·rename_i hl;refine List.pairwise_cons.mpr ⟨λx hx=>?_,la hp.2 λv hv=>hn v (List.mem_cons_of_mem _ hv)⟩;rcases List.mem_cons.mp ((m4 t us).mem_iff.mp hx)with rfl|hx;·exact hl
   ·exact hp.1 x hx
  ·rename_i hl;have htu:l9 t u=true:=by unfold l9 at hl⊢;refine decide_eq_true ?_;refine Classical.byContradiction λz=>?_;exact hn u List.mem_cons_self (Ym (by simpa using hl) z)
   refine List.pairwise_cons.mpr ⟨λx hx=>?_,h⟩;rcases List.mem_cons.mp hx with rfl|hx;·exact htu
   ·have h1:=of_decide_eq_true htu;have h2:=of_decide_eq_true (hp.1 x hx);exact decide_eq_true (List.lt_trans h1 h2)
def xQ:∀{ts:List T},(ts.map jM).Nodup->(zA ts).Pairwise (λa b=>l9 a b=true)|[],_=>List.Pairwise.nil|t::ts,h=>by rw[List.map_cons]at h;have hn:=List.nodup_cons.mp h;refine la (xQ hn.2) λu hu e=>hn.1 ?_;rw[<-e];exact List.mem_map.mpr ⟨u,(zU ts).mem_iff.mp hu,rfl⟩
def m5(ts:List T)(i j:Nat):Bool:=match ts[i]?,ts[j]? with|some a,some b=>l9 a b|_,_=>false
def Uq{ts:List T}(h:(ts.map jM).Nodup):TO (m5 ts) ts.length:=by
 refine⟨λi j hi hj e=>?_,λi j k hi hj hk e1 e2=>?_,λi j hi hj hij=>?_⟩;·unfold m5 at e⊢;obtain⟨a,ha⟩:∃a,ts[i]?=some a:=⟨ts[i],by simp[hi]⟩;obtain⟨b,hb⟩:∃b,ts[j]?=some b:=⟨ts[j],by simp[hj]⟩;rw[ha,hb]at e⊢;exact decide_eq_false (List.lt_asymm (of_decide_eq_true e))
 ·unfold m5 at e1 e2⊢;obtain⟨a,ha⟩:∃a,ts[i]?=some a:=⟨ts[i],by simp[hi]⟩;obtain⟨b,hb⟩:∃b,ts[j]?=some b:=⟨ts[j],by simp[hj]⟩;obtain⟨c,hc⟩:∃c,ts[k]?=some c:=⟨ts[k],by simp[hk]⟩;rw[ha,hb]at e1;rw[hb,hc]at e2;rw[ha,hc];exact decide_eq_true (List.lt_trans (of_decide_eq_true e1) (of_decide_eq_true e2))
 ·unfold m5;obtain⟨a,ha⟩:∃a,ts[i]?=some a:=⟨ts[i],by simp[hi]⟩;obtain⟨b,hb⟩:∃b,ts[j]?=some b:=⟨ts[j],by simp[hj]⟩;rw[ha,hb];have hne:jM a≠jM b:=λe=>by
   have h1:(ts.map jM)[i]?=some (jM a):=by rw[List.getElem?_map,ha];rfl
   have h2:(ts.map jM)[j]?=some (jM b):=by rw[List.getElem?_map,hb];rfl
   rw[<-e]at h2;exact hij ((List.getElem?_inj (by simpa using hi) h).mp (h1.trans h2.symm))
  by_cases hl:jM a<jM b;·exact .inl (decide_eq_true hl)
  ·refine .inr (decide_eq_true ?_);exact Classical.byContradiction λz=>hne (Ym hl z)
def VG(h:(ts.map jM).Nodup)(hq:Pm q ts.length)(u:Up (m5 ts) q ts.length):q.toList.map (λi=>(ts[i]?).getD .non)=zA ts:=by
 have hp:(q.toList.map (λi=>(ts[i]?).getD .non)).Perm ts:=by
  have h1:(q.toList.map (λi=>(ts[i]?).getD .non)).Perm ((List.range ts.length).map (λi=>(ts[i]?).getD .non)):=hq.perm.map _;have h2:(List.range ts.length).map (λi=>(ts[i]?).getD .non)=ts:=by
   apply List.ext_getElem?;intro i;rw[List.getElem?_map];by_cases hi:i<ts.length;·simp[hi]
   ·simp[hi]
  rw[h2]at h1;exact h1
 refine List.Perm.eq_of_pairwise (λa b _ _ h1 h2=>?_) ?_ (xQ h) (hp.trans (zU ts).symm);·exact absurd (of_decide_eq_true h2) (List.lt_asymm (of_decide_eq_true h1))
 ·rw[List.pairwise_iff_getElem];intro i j hi hj hij;rw[List.length_map,Array.length_toList,hq.size]at hi hj;have e:=u i j hij hj;have hi':i<q.size:=by rw[hq.size];exact hi
  have hj':j<q.size:=by rw[hq.size];exact hj
  have g1:q.getD i 0=q[i]:=by simp[Array.getD,hi']
  have g2:q.getD j 0=q[j]:=by simp[Array.getD,hj']
  rw[g1,g2]at e;have b1:q[i]<ts.length:=by rw[<-g1];exact hq.lt hi
  have b2:q[j]<ts.length:=by rw[<-g2];exact hq.lt hj
  simp only[List.getElem_map,Array.getElem_toList];unfold m5 at e;have c1:ts[q[i]]?=some ts[q[i]]:=by simp[b1]
  have c2:ts[q[j]]?=some ts[q[j]]:=by simp[b2]
  rw[c1,c2]at e⊢;exact e
def m6{K:W.Frag}{F:Addr->Prop}{H:Hp}{vs:List V}(h:IsAll K F H [] vs):vs=[]:=by unfold IsAll at h;exact h
section
variable{X:Cx}{pins:List ↑y}{σ:St}{H:Hp}{s:Shared}{F:Addr->Prop}
theorem eh:∀{ts:List T}{vs:List V}{us:List Value},ts.all Zt=true->IsAll X.K F H ts vs->zL vs us->∃ss,StrsAre us ss|[],vs,us,_,i,r=>by have:=m6 i;subst this;cases r;exact⟨[],.nil⟩|t::ts,vs,us,h,i,r=>by unfold IsAll at i;obtain⟨v,w,rfl,i1,i2⟩:=i;cases r with|cons r1 r2=>rw[List.all_cons,Bool.and_eq_true]at h;obtain⟨ss,hs⟩:=eh h.2 i2 r2;cases t<;>simp only[Zt,Bool.false_eq_true,false_and]at h;case str z=>unfold Is at i1;subst i1;obtain⟨tk,rfl⟩:=r1;exact⟨z::ss,.cons z tk hs⟩
theorem Gp{prog:Program}{w:World}{A:Around}{E:Value->Shared->Prop}{s:Shared}{a b:T}{x y:V}{u v:Value}{K:W.Frag}{C:Bool->Shared->Prop}(ha:Zt a=true)(hb:Zt b=true)(ia:Is K F H a x)(ib:Is K F H b y)(ra:L2.RelV x u)(rb:L2.RelV y v)(h:C (l9 a b) s):wpAny ↑n A (keyLt' oneType' u v) C E s:=by cases a<;>simp only[Zt,Bool.false_eq_true]at ha;case str a=>cases b<;>simp only[Zt,Bool.false_eq_true]at hb;case str b=>
   unfold Is at ia ib;subst ia ib;obtain⟨t,rfl⟩:=ra;obtain⟨t',rfl⟩:=rb;refine kas_lt_str ?_;have:l9 (.str a) (.str b)=decide (a.cps.toList<b.cps.toList):=by
    unfold l9 jM;refine decide_eq_decide.mpr ⟨λh=>?_,λh=>?_⟩
    ·rcases List.cons_lt_cons_iff.mp h with h|⟨_,h⟩;·exact h
     ·exact absurd h ↑T
    ·exact List.cons_lt_cons_iff.mpr (.inl h)
   rw[<-this];exact h
theorem lb:∀(xs:List Value)(i:Nat),Q fin s->KatLex prog w A b fin Q (xs.zip xs) i s|[],i,h=>h|x::xs,i,h=>by rw[List.zip_cons_cons];exact kat_cons (SeqAt.EqAt.same x _ _ _ _ (kat_yes (lb xs (i+1) h)))
theorem pF{K:W.Frag}{a1 a2:Str}{ar:List T}{vs:List V}{us:List Value}(i:IsAll K F H (.str a1::.str a2::ar) vs)(r:zL vs us):∃t1 t2 ur,us=.str a1 t1::.str a2 t2::ur:=by unfold IsAll at i;obtain⟨v1,w1,rfl,i1,i2⟩:=i;unfold IsAll at i2;obtain⟨v2,w2,rfl,i3,i4⟩:=i2;unfold Is at i1 i3;subst i1 i3;cases r with|cons r1 r2=>cases r2 with|cons r3 r4=>obtain⟨t1,rfl⟩:=r1;obtain⟨t2,rfl⟩:=r3;exact⟨t1,t2,_,rfl⟩
theorem Gq:l9 (.tup (.str a1::.str a2::ar)) (.tup (.str b1::.str b2::br))=if(a1==b1)=true then decide (a2.cps.toList<b2.cps.toList)else decide (a1.cps.toList<b1.cps.toList):=by
 have ext:∀{x y:Str},x.cps.toList=y.cps.toList->x=y:=by intro x y h;cases x;cases y;simp only[Str.mk.injEq];exact Array.toList_inj.mp h
 unfold l9 jM;by_cases e:a1=b1
 ·subst e;rw[if_pos ↑T];refine decide_eq_decide.mpr ⟨λh=>?_,λh=>?_⟩
  ·rcases List.cons_lt_cons_iff.mp h with h|⟨_,h⟩;·exact absurd h (List.lt_irrefl _)
   ·rcases List.cons_lt_cons_iff.mp h with h|⟨_,h⟩;·exact h
    ·exact absurd h ↑T
  ·exact List.cons_lt_cons_iff.mpr (.inr ⟨rfl,List.cons_lt_cons_iff.mpr (.inl h)⟩)
 ·rw[if_neg (by simpa using e)];refine decide_eq_decide.mpr ⟨λh=>?_,λh=>?_⟩
  ·rcases List.cons_lt_cons_iff.mp h with h|⟨h,_⟩;·exact h
   ·exact absurd (ext h) e
  ·exact List.cons_lt_cons_iff.mpr (.inl h)
theorem Yn(hp:IsTup s.heap p (List.toArray (.str a1 t1::.str a2 t2::ur)))(hq:IsTup s.heap q (List.toArray (.str b1 t3::.str b2 t4::wr)))(hd:jM (.tup (.str a1::.str a2::ar))≠jM (.tup (.str b1::.str b2::br))\/p=q)(h:C (l9 (.tup (.str a1::.str a2::ar)) (.tup (.str b1::.str b2::br))) s):wpAny ↑n A (keyLt' (tuples' true) (.ref p) (.ref q)) C E s:=by
 obtain⟨o1,e1,c1,n1,d1⟩:=id hp;obtain⟨o2,e2,c2,n2,d2⟩:=id hq;refine kat_lt e1 d1 e2 d2 ?_;rcases hd with hd|hd
 ·rw[Gq]at h;show KatLex prog w A true _ C ((Value.str a1 t1,Value.str b1 t3)::(Value.str a2 t2,Value.str b2 t4)::ur.zip wr) 0 s;refine kat_cons (SeqAt.EqAt.str_str a1 t1 b1 t3 _ _ _ _ ?_);by_cases x1:(a1==b1)=true
  ·rw[x1];rw[if_pos x1]at h;refine kat_yes (kat_cons (SeqAt.EqAt.str_str a2 t2 b2 t4 _ _ _ _ ?_));have x2:(a2==b2)=false:=by cases z:a2==b2 with|false=>rfl|true=>
     exfalso;refine hd ?_;have z1:a1=b1:=by simpa using x1
     have z2:a2=b2:=by simpa using z
     rw[z1,z2];rfl
   rw[x2];exact kat_no (kat_one _ _ (PyProof.Rows.lt_str h))
  ·have x1':(a1==b1)=false:=by simpa using x1
   rw[x1'];rw[if_neg x1]at h;exact kat_no (oneLt_str h)
 ·subst hd;rw[e1]at e2;cases e2;rw[d1]at d2;have:Value.str a1 t1::Value.str a2 t2::ur=Value.str b1 t3::Value.str b2 t4::wr:=by have:=d2;injection this with this _;simpa using this
  rw[<-this];refine lb _ 0 ?_;have hirr:l9 (.tup (.str a1::.str a2::ar)) (.tup (.str b1::.str b2::br))=false:=by injection this with g1 g2;injection g1 with g1 _;injection g2 with g2 _;injection g2 with g2 _;subst g1 g2;unfold l9 jM;exact decide_eq_false (List.lt_irrefl _)
  rw[hirr]at h;have:decide ((Value.str a1 t1::Value.str a2 t2::ur).toArray.size<(Value.str a1 t1::Value.str a2 t2::ur).toArray.size)=false:=decide_eq_false (Nat.lt_irrefl _);rw[this];exact h
theorem uv{K:W.Frag}{ts:List T}{vs:List V}(h:IsAll K F H ts vs):∀{is:List Nat},(∀i∈is,i<ts.length)->IsAll K F H (is.map λi=>(ts[i]?).getD .non) (is.map λi=>(vs[i]?).getD .non)
 |[],_=>IsAll.nil|i::is,hi=>by
  have h0:=hi i List.mem_cons_self;obtain⟨v,hv,q⟩:=h.get (i:=i) (t:=ts[i]) (by simp[h0]);refine IsAll.cons ?_ (uv h λj hj=>hi j (List.mem_cons_of_mem _ hj));show Is K F H ((ts[i]?).getD T.non) ((vs[i]?).getD V.non);rw[hv];have:ts[i]?=some ts[i]:=by simp[h0]
  rw[this];exact q
theorem m7(h:zL vs us):∀{is:List Nat},(∀i∈is,i<vs.length)->zL (is.map λi=>(vs[i]?).getD .non) (is.map λi=>us.getD i Value.none)
 |[],_=>.nil|i::is,hi=>by
  have h0:=hi i List.mem_cons_self;obtain⟨u,hu,q⟩:=h.get (i:=i) (x:=vs[i]) (by simp[h0]);refine .cons ?_ (m7 h λj hj=>hi j (List.mem_cons_of_mem _ hj));have e1:vs[i]?=some vs[i]:=by simp[h0]
  have e2:us.getD i Value.none=u:=by rw[List.getD_eq_getElem?_getD,hu];rfl
  show L2.RelV ((vs[i]?).getD V.non) (us.getD i Value.none);rw[e1,e2];exact q
theorem lV(h:zL vs us)(hi:i<us.length):∃v,vs[i]?=some v/\L2.RelV v (us.getD i Value.none):=by have hl:=h.length;obtain⟨u,hu,q⟩:=h.get (i:=i) (x:=vs[i]'↑a) ↑T;refine⟨vs[i]'↑a,by simp,?_⟩;rw[List.getD_eq_getElem?_getD,hu];exact q
theorem uV(h:dW t=true):∃a b r,t=.tup (.str a::.str b::r):=by
 unfold dW at h;split at h;·rename_i a b r;exact⟨a,b,r,rfl⟩
 ·cases h
theorem em(I:zu X pins σ H s){h':Heap}(kp:∀b o,s.heap.get? b=some o->h'.get? b=some o):∀{ts:List T}{vs:List V}{us:List Value},ts.all dW=true->IsAll X.K F H ts vs->zL vs us->∃fs,KatTups h' us fs/\fs.length=us.length/\∀v∈fs,∃z t,v=.str z t|[],vs,us,_,i,r=>by have:=m6 i;subst this;cases r;exact⟨[],trivial,rfl,λv h=>by cases h⟩|t::ts,vs,us,h,i,r=>by unfold IsAll at i;obtain⟨v,w,rfl,i1,i2⟩:=i;cases r with|cons r1 r2=>rw[List.all_cons,Bool.and_eq_true]at h;obtain⟨fs,hf,hl,hs⟩:=em I kp h.2 i2 r2;obtain⟨a,b,ar,rfl⟩:=uV h.1;unfold Is at i1;obtain⟨p,ps,rfl,g1,g2⟩:=i1;cases r1;obtain⟨its,rv,pl,_⟩:=I.tuple g1;obtain⟨t1,t2,ur,rfl⟩:=pF g2 rv;obtain⟨o,e,c,n,d⟩:=pl;exact⟨.str a t1::fs,KatTups.cons (kp _ _ e) c d ↑T hf,by rw[List.length_cons,List.length_cons,hl],λv hv=>by
   rcases List.mem_cons.mp hv with rfl|hv;·exact⟨a,t1,rfl⟩
   ·exact hs v hv⟩
theorem cP{ts us:List T}{l:Addr}{vs:List V}{its:List Value}{o:Obj}{n:Nat}{Ty:String}{Q:VK}{E:Value->Shared->Prop}(I:zu X pins σ H s)(d:dN F H)(ia:IsAll X.K F H ts vs)(r:zL vs its)(ho:s.heap.get? l=some o)(hc:o.cls=.type Ty)(hd:o.data=.seq its.toArray n)(hT:Ty="list"\/Ty="tuple")(e:sortS ts=some us)(q:∀v F' H',xN F H F' H'->kL X.K ↑aH F' H' v (true,.lst us)->Q v H'):wpAny ↑b X.A (call (.builtin "sorted") [.ref l]) ↑aK E s:=by
 unfold sortS at e;split at e
 ·rename_i hcnd;obtain⟨h64,hk,nd⟩:=hcnd;cases e;have l1:=ia.len;have l2:=r.length;have T0:=Uq nd;have hlen:its.length=ts.length:=by omega
  have fin:∀qa:Array Nat,Pm qa its.length->Up (m5 ts) qa its.length->EP X pins σ Q (.ref ↑w) {s with heap:=sortedAll s.heap its (List.toArray (qa.toList.map λi=>its.getD i Value.none))}:=by
   intro qa hq hu;rw[hlen]at hq hu;have hb:∀i∈qa.toList,i<ts.length:=λi hi=>List.mem_range.mp (hq.perm.mem_iff.mp hi);have e1:=VG nd hq hu;obtain⟨ep,hep⟩:=sortedAll_at s.heap its (List.toArray (qa.toList.map λi=>its.getD i Value.none));have hfresh:H ↑w=none:=I.hok.fresh (Nat.le_succ _);have hz:(qa.toList.map λi=>(vs[i]?).getD .non).length<=sizeLine:=by rw[List.length_map,Array.length_toList,hq.size,sizeLine_eq];omega
   refine⟨.ref ↑w,jm H ↑w (.lst (qa.toList.map λi=>(vs[i]?).getD .non)),I.laid (λb ob e=>sortedAll_old e) (Nat.le_succ _) ?_,rfl,?_⟩;·exact⟨hz,_,ep,m7 r (λi hi=>by have:=hb i hi;omega),hep⟩
   ·have:=uv ia hb;rw[e1]at this;exact bY d this hfresh q
  rcases hk with hk|hk
  ·refine cO (κ:=oneType') ho hc hd hT ↑a (by rw[hlen];exact T0) (λh2 h' kp=>⟨λQ' hQ=>?_,λi j C hi hj hC=>?_⟩) fin;·obtain⟨ss,hs⟩:=eh hk ia r;match its,h2,hs with|v₁::v₂::rest,_,hs=>rw[keyKind_strs hs];exact wpAny_pure hQ
   ·obtain⟨vi,hvi,ri⟩:=lV r hi;obtain⟨vj,hvj,rj⟩:=lV r hj;have bi:i<ts.length:=by omega
    have bj:j<ts.length:=by omega
    obtain⟨vi',hvi',qi⟩:=ia.get (i:=i) (t:=ts[i]) (by simp[bi]);obtain⟨vj',hvj',qj⟩:=ia.get (i:=j) (t:=ts[j]) (by simp[bj]);rw[hvi]at hvi';cases hvi';rw[hvj]at hvj';cases hvj';have hall:=List.all_eq_true.mp hk;refine Gp (hall _ (List.getElem_mem bi)) (hall _ (List.getElem_mem bj)) qi qj ri rj ?_;have:m5 ts i j=l9 ts[i] ts[j]:=by
     unfold m5;have c1:ts[i]?=some ts[i]:=by simp[bi]
     have c2:ts[j]?=some ts[j]:=by simp[bj]
     rw[c1,c2]
    rw[<-this];exact hC
  ·refine cO (κ:=tuples' true) ho hc hd hT ↑a (by rw[hlen];exact T0) (λh2 h' kp=>⟨λQ' hQ=>?_,λi j C hi hj hC=>?_⟩) fin
   ·obtain⟨fs,hf,hfl,hfs⟩:=em I kp hk ia r;refine kat_kind (T:=.type "str") hf ↑a (λv hv=>?_) ↑aa ?_;·obtain⟨z,t,rfl⟩:=hfs v hv;exact Looks.now
    ·have:(Value.type "str"!=Value.type "tuple")=true:=by decide+kernel
     rw[this];exact hQ
   ·obtain⟨vi,hvi,ri⟩:=lV r hi;obtain⟨vj,hvj,rj⟩:=lV r hj;have bi:i<ts.length:=by omega
    have bj:j<ts.length:=by omega
    obtain⟨vi',hvi',qi⟩:=ia.get (i:=i) (t:=ts[i]) (by simp[bi]);obtain⟨vj',hvj',qj⟩:=ia.get (i:=j) (t:=ts[j]) (by simp[bj]);rw[hvi]at hvi';cases hvi';rw[hvj]at hvj';cases hvj';have hall:=List.all_eq_true.mp hk;have this:m5 ts i j=l9 ts[i] ts[j]:=by
     unfold m5;have c1:ts[i]?=some ts[i]:=by simp[bi]
     have c2:ts[j]?=some ts[j]:=by simp[bj]
     rw[c1,c2]
    rw[this]at hC;have hd:jM ts[i]≠jM ts[j]\/vi=vj:=by
     by_cases hij:i=j;·subst hij;rw[hvi]at hvj;exact .inr (Option.some.inj hvj)
     ·refine .inl λe=>hij ?_;have h1:(ts.map jM)[i]?=some (jM ts[i]):=by rw[List.getElem?_map];simp[bi]
      have h2:(ts.map jM)[j]?=some (jM ts[j]):=by rw[List.getElem?_map];simp[bj]
      rw[<-e]at h2;exact(List.getElem?_inj (by simpa using bi) nd).mp (h1.trans h2.symm)
    obtain⟨a1,a2,ar,ea⟩:=uV (hall _ (List.getElem_mem bi));obtain⟨b1,b2,br,eb⟩:=uV (hall _ (List.getElem_mem bj));rw[ea]at qi hC hd;rw[eb]at qj hC hd;unfold Is at qi qj;obtain⟨p,ps,rfl,g1,g2⟩:=qi;obtain⟨p',ps',rfl,g3,g4⟩:=qj;have e1:its.getD i Value.none=.ref p:=ri;have e2:its.getD j Value.none=.ref p':=rj;rw[e1,e2];obtain⟨i1,rv1,pl1,_⟩:=I.tuple g1;obtain⟨i2,rv2,pl2,_⟩:=I.tuple g3;obtain⟨t1,t2,ur,rfl⟩:=pF g2 rv1;obtain⟨t3,t4,wr,rfl⟩:=pF g4 rv2;have up:∀{c:Addr}{xs:Array Value},IsTup s.heap c xs->IsTup h' c xs:=λ⟨o,e,r⟩=>⟨o,kp _ _ e,r⟩;exact Yn (up pl1) (up pl2) (hd.imp id λz=>by injection z) hC
 ·cases e
end
def qk:vo X (.builtin "sorted") (t8 X.K x9):=by intro pins s σ H xs us Q I r h;obtain⟨F,ts,rv,d,ia,e,q⟩:=h;match ts,e with|[.lst ts],e=>simp only[x9,Option.map_eq_some_iff]at e;obtain⟨ss,es,rfl⟩:=e;obtain⟨v,rfl,i⟩:=ut ia;obtain⟨u,rfl,ru⟩:=gh r;unfold Is at i;obtain⟨a,vs,rfl,g1,g2⟩:=i;cases ru;obtain⟨its,r',pl,hz⟩:=I.list g1.sq;obtain⟨o,ho,hc,n,hd⟩:=pl.isList;exact cP I d g2 r' ho hc hd (.inl rfl) es q|[.tup ts],e=>simp only[x9,Option.map_eq_some_iff]at e;obtain⟨ss,es,rfl⟩:=e;obtain⟨v,rfl,i⟩:=ut ia;obtain⟨u,rfl,ru⟩:=gh r;unfold Is at i;obtain⟨a,vs,rfl,g1,g2⟩:=i;cases ru;obtain⟨its,r',pl,hz⟩:=I.tuple g1;obtain⟨o,ho,hc,n,hd⟩:=pl;exact cP I d g2 r' ho hc hd (.inr rfl) es q
end L3
namespace L3
open PySem PySem.Spec PyProof.Rows L2
def uw:∀(names:List (Str×NameKind))(acc:List (Str×Addr)),(∀y,(y,NameKind.free)∈names->∃c,env.cells.lookup y=some c)->∃cl,(forIn names acc λ(x:Str×NameKind)(cs:List (Str×Addr))=>(if(x.2==NameKind.free)=true then do let a<-cellOf env x.1;pure (ForInStep.yield ((x.1,a)::cs))else pure (ForInStep.yield cs):Sem (ForInStep (List (Str×Addr)))))=pure cl/\(∀y c,cl.lookup y=some c->acc.lookup y=some c\/env.cells.lookup y=some c)/\(∀y,((y,NameKind.free)∈names\/∃c,acc.lookup y=some c)->∃c,cl.lookup y=some c)
 |[],acc,h=>⟨acc,by rw[List.forIn_nil],λy c e=>.inl e,λy z=>by
  rcases z with z|z;·cases z
  ·exact z⟩|(n,k)::r,acc,h=>by
  rw[List.forIn_cons];by_cases hk:(k==NameKind.free)=true
  ·have hk':k=NameKind.free:=by simpa using hk
   subst hk';obtain⟨c,hc⟩:=h n List.mem_cons_self;obtain⟨cl,e,h1,h2⟩:=uw r ((n,c)::acc) λy hy=>h y (List.mem_cons_of_mem _ hy);refine⟨cl,?_,λy d ed=>?_,λy z=>?_⟩
   ·have e2:cellOf env n=pure c:=by unfold cellOf;rw[hc]
    simp only[hk,if_true,e2,pure_bind];exact e
   ·rcases h1 y d ed with z|z
    ·rw[List.lookup_cons]at z
     cases hy:y==n with|true=>
      rw[hy]at z;have:y=n:=by simpa using hy
      subst this;cases z;exact .inr hc|false=>rw[hy]at z;exact .inl z
    ·exact .inr z
   ·refine h2 y ?_;rcases z with z|⟨d,z⟩
    ·rcases List.mem_cons.mp z with z|z
     ·have:y=n:=by injection z
      subst this;exact .inr ⟨c,by rw[List.lookup_cons];simp⟩
     ·exact .inl z
    ·rw[List.lookup_cons];cases hy:y==n with|true=>exact .inr ⟨c,rfl⟩|false=>exact .inr ⟨d,z⟩
  ·obtain⟨cl,e,h1,h2⟩:=uw r acc λy hy=>h y (List.mem_cons_of_mem _ hy);refine⟨cl,?_,h1,λy z=>h2 y ?_⟩;·simp only[hk,if_false,pure_bind];exact e
   ·rcases z with z|z
    ·rcases List.mem_cons.mp z with z|z
     ·have:k=NameKind.free:=by injection z with _ z;exact z.symm
      subst this;exact absurd ↑T hk
     ·exact .inl z
    ·exact .inr z
def J8(h:∀y,(y,NameKind.free)∈scope.names->∃c,env.cells.lookup y=some c):∃cl,closureFor scope env=pure cl/\(∀y c,cl.lookup y=some c->env.cells.lookup y=some c)/\∀y,(y,NameKind.free)∈scope.names->∃c,cl.lookup y=some c:=by
 obtain⟨cl,e,h1,h2⟩:=uw (env:=env) scope.names [] h;refine⟨cl,?_,λy c ec=>?_,λy hy=>h2 y (.inl hy)⟩;·unfold closureFor;show(forIn scope.names ([]:List (Str×Addr)) (λ(x:Str×NameKind)(cs:List (Str×Addr))=>(match x with|(name,kind)=>if(kind==NameKind.free)=true then do let a<-cellOf env name;pure (ForInStep.yield ((name,a)::cs))else pure (ForInStep.yield cs):Sem (ForInStep (List (Str×Addr)))))>>=λr=>pure r)=pure cl;have e':(forIn scope.names ([]:List (Str×Addr)) λ(x:Str×NameKind)(cs:List (Str×Addr))=>(match x with|(name,kind)=>if(kind==NameKind.free)=true then do let a<-cellOf env name;pure (ForInStep.yield ((name,a)::cs))else pure (ForInStep.yield cs):Sem (ForInStep (List (Str×Addr)))))=pure cl:=e;rw[e',pure_bind]
 ·rcases h1 y c ec with z|z;·cases z
  ·exact z
structure jp(N:List Str)(fsc scope:Scope)(x:Str)(caps:List Str)(slots:List Nat):Prop where
 kind:scope.kind=.function
 fkind:fsc.kind=.function
 nocell:∀y∈scope.names,y.2≠.cell
 names:∀y∈scope.names,y.2=.local->scope.names.lookup y.1=some .local
 hx:scope.names.lookup x=some .local
 free:∀y∈scope.names,y.2=.free->fsc.names.lookup y.1=some .cell
 cap:∀y∈caps,scope.names.lookup y=some .free/\fsc.names.lookup y=some .cell
 nd:(x::caps).Nodup
 len:slots.length=caps.length
 slot:slots.map (λk=>N[k]?)=caps.map some
def vE{l:List (Str×NameKind)}{y:Str}{k:NameKind}(h:l.lookup y=some k):(y,k)∈l:=PySem.mem_of_lookup h
def qd{env:Env}:∀{names:List (Str×NameKind)}{y:Str}{k:NameKind},(names.map λ(n,k)=>if(k==NameKind.free&&env.scope.kind==.function&&env.kindOf n==some .cell)=true then(n,NameKind.cell)else(n,k)).lookup y=some k->∃k',names.lookup y=some k'/\(k=k'\/(k'=.free/\k=.cell))
 |[],y,k,h=>by simp at h|(n,q)::r,y,k,h=>by
  rw[List.map_cons,List.lookup_cons]at h;rw[List.lookup_cons];by_cases hc:(q==NameKind.free&&env.scope.kind==.function&&env.kindOf n==some .cell)=true;·simp only[hc,if_true]at h;cases hy:y==n with|true=>rw[hy]at h;cases h;simp only[Bool.and_eq_true]at hc;exact⟨q,rfl,.inr ⟨by simpa using hc.1.1,rfl⟩⟩|false=>rw[hy]at h;exact qd h
  ·simp only[hc,Bool.false_eq_true,if_false]at h;cases hy:y==n with|true=>rw[hy]at h;cases h;exact⟨q,rfl,.inl rfl⟩|false=>rw[hy]at h;exact qd h
def uW{env:Env}(hk:env.scope.kind=.function):∀{names:List (Str×NameKind)}{y:Str},names.lookup y=some .free->env.kindOf y=some .cell->(names.map λ(n,k)=>if(k==NameKind.free&&env.scope.kind==.function&&env.kindOf n==some .cell)=true then(n,NameKind.cell)else(n,k)).lookup y=some .cell
 |[],y,h,_=>by simp at h|(n,q)::r,y,h,hc=>by
  rw[List.map_cons,List.lookup_cons];rw[List.lookup_cons]at h
  cases hy:y==n with|true=>
   rw[hy]at h;cases h;have:y=n:=by simpa using hy
   subst this;have hcc:(NameKind.free==NameKind.free&&env.scope.kind==.function&&env.kindOf y==some .cell)=true:=by rw[hk,hc];rfl
   simp only[hcc,if_true];rw[hy]|false=>
   rw[hy]at h;have ih:=uW hk h hc;by_cases hcc:(q==NameKind.free&&env.scope.kind==.function&&env.kindOf n==some .cell)=true;·simp only[hcc,if_true,hy];exact ih
   ·simp only[hcc,Bool.false_eq_true,if_false,hy];exact ih
def eu{X:Cx}{scope:Scope}{x:Str}{caps:List Str}{slots:List Nat}{L:Nat}(C:jp X.N X.env.scope scope x caps slots)(hc:X.env.cells=cellsFrom L X.env.scope.names []):∃cl,iJ X scope cl x caps slots:=by
 obtain⟨cl,e,h1,h2⟩:=J8 (scope:=scope) (env:=X.env) λy hy=>by rw[hc];exact iA (C.free _ hy rfl)
 refine⟨cl,C.kind,C.nocell,C.names,C.hx,e,h1,λy hy=>h2 y ?_,λj y hj=>?_,C.nd,C.len⟩
 ·rcases hy with hy|hy
  ·obtain⟨k',e1,e2|⟨e2,_⟩⟩:=qd hy;·subst e2;exact absurd rfl (C.nocell _ (vE e1))
   ·subst e2;exact vE e1
  ·obtain⟨k',e1,e2|⟨e2,_⟩⟩:=qd hy;·subst e2;exact vE e1
   ·subst e2;exact vE e1
 ·have hl:=C.len;have hjl:j<caps.length:=(List.getElem?_eq_some_iff.mp hj).1;have hs:=congrArg (λl=>l[j]?) C.slot;simp only[List.getElem?_map,hj,Option.map_some]at hs;cases hk:slots[j]? with|none=>rw[hk]at hs;cases hs|some k=>rw[hk]at hs;obtain⟨q1,q2⟩:=C.cap y (List.mem_of_getElem? hj);exact⟨k,rfl,by injection hs,uW C.fkind q1 q2,q2⟩
section
variable{X:Cx}{scope:Scope}{x:Str}{caps:List Str}{slots:List Nat}{iter elt:Expr}{ifs:List Expr}{px pos:Pos}{it:J3}{mt:MT}{me:ME}{L:Nat}
theorem qP(hc:X.calm=true)(C:jp X.N X.env.scope scope x caps slots)(hcl:X.env.cells=cellsFrom L X.env.scope.names [])(hi:a9 X (.Name x px) iter it)(ht:∀cl C ex pn s₀ H₀,oz ↑f ifs mt)(he:∀cl C ex pn s₀ H₀,jK ↑f elt me)(hs:∀v,foldedSetIterable iter X.env v=pure v:=by intro _;rfl)(hg:∀it v,letOwnedTupleGo (.Name x px) it v=pure ():=by intro _ _;rfl):jK X ↑s (zW it mt me slots):=by obtain⟨cl,S⟩:=eu C hcl;exact M5 hc S hi (ht cl) (he cl) hs hg
theorem Yo(hg:Gl X y)(h:∃t,X.mg y=some (.str z t))(hd:(y==↑t)=false:=by decide):jK X (.Name y pos) (mC (.str z)):=⟨_,Vc hg h hd,l7 λ_ _=>kO⟩
theorem Gr(hg:Gl X y)(h:∃t,X.mg y=some (.int z t))(hd:(y==↑t)=false:=by decide):jK X (.Name y pos) (mC (.int z)):=⟨_,Vd hg h hd,l7 λ_ _=>xm⟩
theorem M7(hg:Gl X y)(hm:X.mg y=none)(hv:bootBuiltins y=some (.type n))(hn:y≠"__name__":=by decide)(hd:(y==↑t)=false:=by decide):jK X (.Name y pos) (mC (.ty n)):=⟨_,QG (v:=.ty n) hg hm hv rfl hn hd,l7 λ_ _=>by unfold Is;rfl⟩
def M8(K:W.Frag)(mg:Str->Option Value)(y:Str)(zs:List Str):Prop:=∃a o its n,mg y=some (.ref a)/\K.lookup a=some o/\o.cls=.type "tuple"/\o.data=.seq its n/\its.size<=sizeLine/\zL (zs.map V.str) its.toList
theorem Yp{K:W.Frag}{F:Addr->Prop}{H:Hp}:∀(zs:List Str),IsAll K F H (zs.map T.str) (zs.map V.str)|[]=>IsAll.nil|z::zs=>IsAll.cons kO (Yp zs)
theorem Gs(hg:Gl X y)(h:M8 X.K X.mg y zs)(hd:(y==↑t)=false:=by decide):jK X (.Name y pos) (mC (.tup (zs.map T.str))):=by obtain⟨a,o,its,n,hm,hl,hc,hdt,hz,hv⟩:=h;refine⟨_,gH (v:=.ref a) hg hm rfl hd,l7 λF H=>?_⟩;unfold Is;exact⟨a,_,rfl,.inr ⟨o,its,n,hl,hc,hdt,hz,hv⟩,Yp zs⟩
end
def VH(hr:xV k A):A.units+41<cLine:=Nat.lt_of_le_of_lt (Nat.add_le_add_left (by decide:41<=64) _) hr.units
def eA(hr:xV k A):A.units+40<cLine:=Nat.lt_of_le_of_lt (Nat.add_le_add_left (by decide:40<=64) _) hr.units
def dX(hr:xV k A):A.units+1<cLine:=Nat.lt_of_le_of_lt (Nat.add_le_add_left (by decide:1<=64) _) hr.units
abbrev LA:=List T->En->Option En
def IA(X:Cx)(g:Ug)(tg:LA):Prop:=∀(B:Bs)(F:Addr->Prop)(H:Hp)(σ:St)(env env':En)(vs:List V)(ts:List T)(Q:St->Hp->Prop),jb X.K B F H σ env->IsAll X.K F H ts vs->tg ts env=some env'->(∀σ',jb X.K B F H σ' env'->Q σ' H)->g vs σ H Q
def Gu(X:Cx)(es:List Expr)(tg:LA):Prop:=∃g,LN X es g/\IA X g tg
def nP:LA:=λts env=>if ts=[]then some env else none
def xy(g:MG)(gs:LA):LA:=λts env=>match ts with|t::ts=>(g t env).bind λe1=>gs ts e1|[]=>none
def nQ(n:Nat)(gs:LA):MG:=λt env=>match t with|.tup ts=>if ts.length=n then gs ts env else none|_=>none
def qX:Gu X [] nP:=by
 refine⟨_,JU,?_⟩;intro B F H σ env env' vs ts Q R ia h q;unfold nP at h;split at h;·rename_i hts;subst hts;cases h;exact⟨m6 ia,q σ R⟩
 ·cases h
def zT(h1:M2 X e g)(h2:Gu X es gs)(hs:(assignEach (e::es) X.env).map (·.2)=assign e X.env::(assignEach es X.env).map (·.2):=by rfl):Gu X (e::es) (xy g gs):=by obtain⟨t1,p1,s1⟩:=h1;obtain⟨t2,p2,s2⟩:=h2;refine⟨_,im p1 p2 hs,?_⟩;intro B F H σ env env' vs ts Q R ia h q;unfold xy at h;cases ts with|nil=>cases h|cons t ts=>dsimp only at h;cases hg:g t env with|none=>rw[hg]at h;cases h|some e1=>rw[hg]at h;unfold IsAll at ia;obtain⟨v,r,rfl,i1,i2⟩:=ia;exact⟨v,r,rfl,s1 B F H σ env e1 v t _ R i1 hg λσ1 R1=>s2 B F H σ1 e1 env' r ts Q R1 i2 h q⟩
def qY(hc:X.calm=true)(h:Gu X es gs)(hn:(assignEach es X.env).length=n:=by rfl)(hst:(assignEach es X.env).findIdx? (·.1)=none:=by rfl):M2 X (.Tuple es k pos) (nQ n gs):=by obtain⟨t,p,s⟩:=h;refine⟨_,WS hc p hn hst,?_⟩;intro B F H σ env env' v t Q R iv h q;unfold nQ at h;cases t<;>simp only[reduceCtorEq]at h;case tup ts=>
  split at h;·rename_i hl;unfold Is at iv;obtain⟨a,vs,rfl,g1,g2⟩:=iv;exact⟨a,vs,rfl,g1,by rw[<-g2.len];exact hl,s B F H σ env env' vs ts Q R g2 h q⟩
  ·cases h
def M9(m n:ME):ME:=λenv=>match m env with|.bad=>n env|r=>r
end L3
namespace L2
open PySem PySem.Spec PyProof.Rows
def zu.dropC(I:zu X pins σ H s)(f:uI X pins H C)(hsb:Heap.SameBut C s.heap h'):zu X pins σ H {s with heap:=h'}:=by
 have neC:∀b u,H b=some u->b≠C:=λb u e z=>by rw[z,f.1]at e;cases e
 refine I.call' (s':={s with heap:=h'}) (ch:=[C]) rfl ?_ ?_ I.bare λb hb=>?_;·have nm:∀b,b∉[C]->b≠C:=λb n z=>n (by rw[z];exact List.mem_singleton.mpr rfl);exact⟨λb o e n hb hx=>hsb.extBut b o (nm b hx) e,λb o e n hb hx=>⟨o.slots,hsb.extBut b o (nm b hx) e⟩,λb o e n hx=>n,λb o e hx=>⟨o,hsb.extBut b o (nm b hx) e⟩,λ_ _ q=>q,λ_ _ _ q=>q,λ_ ps q=>⟨#[],by rw[Array.append_empty];exact q⟩⟩
 ·exactλb u e=>(I.hok b u e).stay (λc v hc q=>hsb.extBut c v (hc.elim (λz=>by rw[z];exact neC b u e) λz=>neC c _ z) q) (λ_ q=>q) λ_ _ q=>q
 ·have:b=C:=List.mem_singleton.mp hb;subst this;exact⟨f.2.2.2.1,f.2.1,f.2.2.2.2.1,f.2.2.2.2.2⟩
def Gv(hN:X.N.Nodup)(hi':X.N[i]?=some y)(hy:tm X.env.scope y)(hc:X.calm=true)(S:iJ X scope cl x caps slots)(hi:PI X (.Name x px) iter wi)(ht:∀C ex pn s₀ H₀,WD ↑f ifs tt)(he:∀C ex pn s₀ H₀,PE ↑f elt te)(hsw:swapsWith ↑s (some (.Name y py)) spos.line X.env=pure true)(hs:∀v,foldedSetIterable iter X.env v=pure v)(hg:∀it v,letOwnedTupleGo (.Name x px) it v=pure ())(hf:X.fn y=true\/X.env.scope.names.lookup y=some .local):PS X (.Assign [.Name y py] ↑s spos) (tJ (Y8 wi tt te slots) (gf i)):=by intro pins s σ H D I h;rw[exec_Assign_Name_used _ _ _ _ hsw];refine wpAny_bind (wpAny_standAt (wpAny_bind ?_));show wpAny _ X.A (do let _<-comprehension ↑s scope X.env _ (newList []) false (eval iter X.env) (some (assign (.Name y py) X.env))) _ _ s;refine wpAny_bind (wpAny_mono (cM (use:=some (assign (.Name y py) X.env)) (PQ:=λ_ s'=>∃σ' H',zu X pins σ' H' s'/\D.nx σ' H') I h (λDa C H5 s6 m hn f inv q=>?_) hc S hi ht he hs hg) (λ_ s' hq=>wpAny_pure (wpAny_pure hq)) λ_ _ e=>e);show wpAny _ X.A (assign (.Name y py) X.env (.ref Da)) _ _ s6;have I6:zu X pins σ H5 s6:=inv s6.heap (Heap.SameBut.refl _ _);obtain⟨o,es,ep,ho,hd,hr⟩:=hn;have I6':=I6.pinned (fp:=[C]) (λb hb=>by rw[List.mem_singleton.mp hb];exact f) (λb hb=>by rw[List.mem_singleton.mp hb];exact⟨o,ho,λv z=>by rw[hd]at z;cases z⟩);have pg:PG X (.Name y py) (gf i):=uH hN hi' hy hf;refine wpAny_mono (pg _ s6 _ H5 (.ref Da) (.ref Da) D.nx I6' rfl q) (λ_ s8 h8=>?_) λ_ _ z=>z;obtain⟨σ8,H8,I8,q8⟩:=h8;have hp:=I8.pin (C,o) (List.mem_append_right _ (List.mem_append_right _ (vg (List.mem_singleton.mpr rfl) ho)));exact⟨m,⟨o,es,ep,hp.1,hd,hr⟩,λh' hsb=>⟨σ8,H8,I8.unpinned.dropC ⟨hp.2.1,f.2⟩ hsb,q8⟩⟩
end L2
namespace L3
open PySem PySem.Spec PyProof.Rows L2
section
variable{X:Cx}{scope:Scope}{x:Str}{caps:List Str}{slots:List Nat}{iter elt:Expr}{ifs:List Expr}{px pos:Pos}{it:J3}{mt:MT}{me:ME}{L:Nat}
theorem VI(hN:X.N.Nodup)(hi':X.N[i]?=some y)(hy:tm X.env.scope y)(hc:X.calm=true)(C:jp X.N X.env.scope scope x caps slots)(hcl:X.env.cells=cellsFrom L X.env.scope.names [])(hi:a9 X (.Name x px) iter it)(ht:∀cl C ex pn s₀ H₀,oz ↑f ifs mt)(he:∀cl C ex pn s₀ H₀,jK ↑f elt me)(hsw:swapsWith ↑s (some (.Name y py)) spos.line X.env=pure true:=by rfl)(hs:∀v,foldedSetIterable iter X.env v=pure v:=by intro _;rfl)(hg:∀it v,letOwnedTupleGo (.Name x px) it v=pure ():=by intro _ _;rfl)(hf:X.fn y=true\/X.env.scope.names.lookup y=some .local:=by first|exact .inl rfl|exact .inr rfl|assumption):bZ X (.Assign [.Name y py] ↑s spos) (zn i (zW it mt me slots)):=by
 obtain⟨cl,S⟩:=eu C hcl;obtain⟨wi,pi,si⟩:=hi;obtain⟨tt,ht⟩:=Vz (ht cl);obtain⟨te,he⟩:=Vy (he cl);have s:=oA (slots:=slots) si (ht 0 [] [] X.s₀ X.H₀).2 (he 0 [] [] X.s₀ X.H₀).2;refine⟨_,Gv (i:=i) hN hi' hy hc S pi (λC ex pn s₀ H₀=>(ht C ex pn s₀ H₀).1) (λC ex pn s₀ H₀=>(he C ex pn s₀ H₀).1) hsw hs hg hf,?_⟩;intro B F H σ env D R w;unfold zn at w;refine s.run R (λr env' e v F' H' R' i' old _=>?_) (λx e ev F' H' R' i pins s' I=>?_) λe=>?_;·rw[e]at w;exact w F' H' _ (R'.put i i' (λa q=>j6 R.fr q) old)
 ·rw[e]at w;exact w ev F' H' σ R' i pins s' I
 ·rw[e]at w;exact w
end
def kD(val:Nat->Str)(i:Nat):List Str:=((List.range i).map val).foldl step_dedup []
theorem m8(val:Nat->Str)(i:Nat):kD val (i+1)=step_dedup (kD val i) (val i):=by unfold kD;rw[List.range_succ,List.map_append,List.foldl_append];rfl
theorem ae(val:Nat->Str):∀i,(kD val i).length<=i
 |0=>Nat.le_refl _|i+1=>by
  rw[m8];unfold step_dedup;have ih:=ae val i;split;·omega
  ·rw[List.length_append,List.length_singleton];omega
theorem XL(σ:List Str)(v k:Str):(step_dedup σ v).any (·==k)=(σ.any (·==k)||decide (k=v)):=by
 unfold step_dedup;by_cases h:σ.any (·==v)=true
 ·rw[if_pos h];by_cases e:k=v;·subst e;rw[h];simp
  ·simp[e]
 ·rw[if_neg h,List.any_append];by_cases e:k=v;·subst e;simp
  ·have hb:(v==k)=false:=by simpa[beq_iff_eq]using(λh':v=k=>e h'.symm)
   simp[hb,e]
theorem XM(σ:List Str)(v:Str):(step_dedup σ v).length=if σ.any (·==v)then σ.length else σ.length+1:=by unfold step_dedup;split<;>simp
def jT(led:Bool):Obj:={cls:=.type "set",dict:=none,data:=.set #[] 0 (.fresh 0 0 led)}
theorem sub_list_set:isSubtype (.type "list") (.type "set")=pure false:=F.sub_list_set
theorem sub_list_frozenset:isSubtype (.type "list") (.type "frozenset")=pure false:=F.sub_list_frozenset
theorem dY:isSubtype (.type "tuple") (.type "set")=pure false:=by rw[isSubtype_type];kernel_rfl
theorem pO:isSubtype (.type "tuple") (.type "frozenset")=pure false:=by rw[isSubtype_type];kernel_rfl
section
variable{prog:Program}{w:World}{A:Around}{R:Result->Shared->Prop}{I:Addr}{fp wr:List Addr}{G:Array GenState->Array GenState->Prop}{n:Nat}{P:Nat->Value->Prop}{St:Nat->Shared->Prop}
theorem oF(W:WalksS prog w A.in1 I fp wr G n P St)(S:Addr)(hSf:S∉fp)(val:Nat->Str)(hval:∀i v,P i v->∃t,v=.str (val i) t)(hb:n+1<scanBound):∀(k i:Nat)(s:Shared),n-i=k->i<=n->St i s->s.heap.SetOf (strKind prog w) S (λk'=>(kD val i).any (·==k')) (kD val i).length->
   (∀s',Moved (S::wr) G s s'->s'.heap.SetOf (strKind prog w) S (λk'=>(kD val n).any (·==k')) (kD val n).length->R (.ok (.ret .none)) s')->codeAny ↑n A (.builtin "set.update.loop" ⟨[.ref S,.ref I],[]⟩) R s:=by have hSw:S∉wr:=λh=>hSf (W.sub _ h);have hsub:∀b∈wr,b∈S::wr:=λb hb=>List.mem_cons_of_mem _ hb;intro k;induction k with|zero=>
  intro i s hk hi hst hS hR;have hin:i=n:=by omega
  subst hin;refine codeAny_builtin PyProof.Rows.F.entry_set_update_loop ?_;rw[Around.under_plainId PyProof.Rows.F.plain_set_update_loop _];show wpAny _ A.in1 (pyNext (.ref I)>>=_) _ _ s;refine wpAny_bind (W.done s _ _ hst λs' hm=>?_);show wpAny _ A.in1 (ret Value.none) _ _ s';exact wpAny_pure (hR s' (hm.mono hsub) (by obtain⟨o,es,ep,t,ho,rest⟩:=hS;exact⟨o,es,ep,t,hm.heap S _ hSw ho,rest⟩))|succ k ih=>
  intro i s hk hi hst hS hR;have hlt:i<n:=by omega
  refine codeAny_builtin PyProof.Rows.F.entry_set_update_loop ?_;rw[Around.under_plainId PyProof.Rows.F.plain_set_update_loop _];show wpAny _ A.in1 (pyNext (.ref I)>>=_) _ _ s;refine wpAny_bind (W.item i s _ _ hlt hst λv s' hP hst' hm=>?_);obtain⟨t,rfl⟩:=hval i v hP;have hS':s'.heap.SetOf (strKind prog w) S (λk'=>(kD val i).any (·==k')) (kD val i).length:=by obtain⟨o,es,ep,tb,ho,rest⟩:=hS;exact⟨o,es,ep,tb,hm.heap S _ hSw ho,rest⟩
  show wpAny _ A.in1 (holding [Value.str (val i) t] (setAdd S (.str (val i) t))>>=_) _ _ s';refine wpAny_bind (wpAny_holding ?_);unfold setAdd;refine wpAny_holding ?_;refine wpAny_bind ((strKind prog w).pyHash (k:=val i) (strKind_is _ _ _ _) ?_);have hroom:(kD val i).length+1<scanBound:=by have:=ae val i;omega
  refine wpAny_setAddHashed_of (knd:=strKind prog w) (s:={s' with toks:=s'.toks+1}) (strKind_is _ _ _ _) rfl hS' hroom λh' hsb hS2=>?_;have hSi:h'.SetOf (strKind prog w) S (λk'=>(kD val (i+1)).any (·==k')) (kD val (i+1)).length:=SetOf_congr hS2 (λk'=>by rw[m8,XL]) (by rw[m8,XM]);refine wpAny_pure ⟨plainId_quiet PyProof.Rows.F.plain_set_update_loop _,ih (i+1) _ ↑a hlt (W.frame _ s' _ _ hst' (Nat.le_succ _) λb hb o e=>?_) hSi λs'' hm'' hS''=>?_⟩;·rw[hsb.2 b (λh:b=S=>hSf (by rw[<-h];exact hb))];exact e
  ·refine hR s'' (Moved.trans W.gtrans ((hm.mono hsub).then_heap (Nat.le_succ _) λb o hb e=>?_) hm'') hS'';rw[hsb.2 b (λh:b=S=>hb (by rw[h];exact List.mem_cons_self))];exact e
end
section
variable{prog:Program}{w:World}{A:Around}{E:Value->Shared->Prop}{s:Shared}
set_option maxHeartbeats 3200000 in theorem dZ(hh:A.handled=none)(hl:s.heap.IsList l items)(hi:∀(i:Nat)(v:Value),items[i]?=some v->∃t,v=.str (val i) t)(hb:items.size+1<scanBound)(h:∀(h':Heap)(tk:Nat),h'.SetOf (strKind prog w) s.heap.objs.size (λk'=>(kD val items.size).any (·==k')) (kD val items.size).length->(∀b o,b<s.heap.objs.size->s.heap.get? b=some o->h'.get? b=some o)->Q ↑ak {s with heap:=h',toks:=tk}):wpAny ↑n A (call (.type "set") [.ref l]) Q E s:=by
 obtain⟨c,tl,hmro⟩:=F.called_set.mro;have hmade:=F.called_set.made;have hsub:=F.called_set.sub;refine wpAny_call (codeAny_of_tree ?_);show wpAny _ _ (callAny (.type "set") _) _ _ _;refine wpAny_pure ⟨Code.quiet_builtin _ ↑aa,codeAny_builtin F.entry_type_call ?_⟩;rw[Around.under_plain (weight_type_call_type "set" [.ref l] []) rfl];have h1:=F.called_set.notType;have h2:=F.called_set.canCreate;have hct:=F.typeCall_set_1 (.ref l);repeat(any_goals(first|assumption|wp_step))
 refine codeAny_mono (code_set_new_1 (.ref l) (E:=E) (Q₁:=λobj s₁=>∃led:Bool,obj=.ref s.heap.objs.size/\s₁={s with heap:=s.heap.push (jT led)}) λled=>⟨led,rfl,rfl⟩) λr s₁ hr=>?_;cases r with|error e=>exact hr|ok fl=>cases fl with
  |ret obj=>
   obtain⟨led,rfl,rfl⟩:=hr;have hS:(s.heap.push (jT led)).get? s.heap.objs.size=some (jT led):=Heap.get?_push_size _ rfl;have hT:Shared.TypeIs {s with heap:=s.heap.push (jT led)} ↑ak "set":=⟨_,hS,rfl⟩;have hli:=F.called_set.init.lookup;have hbi:=F.called_set.init.bind ↑ak;repeat(any_goals(first|assumption|wp_step))
   refine codeAny_mono (codeAny_call_builtin (R:=wants (λr s₂=>r=.none/\∃h' tk,s₂={s with heap:=h',toks:=tk}/\h'.SetOf (strKind prog w) s.heap.objs.size (λk'=>(kD val items.size).any (·==k')) (kD val items.size).length/\(∀b o,b<s.heap.objs.size->s.heap.get? b=some o->h'.get? b=some o)) E) F.called_set.init.plain F.entry_set_init (check_set_init_1 hT ?_)) λr₂ s₂ hr₂=>?_
   ·obtain⟨ol,hol,hcl,nl,hdl⟩:=hl;obtain⟨ocls,odict,odata,oslots⟩:=ol;simp only at hcl hdl;subst hcl;subst hdl;have hol':(s.heap.push (jT led)).get? l=some {cls:=.type "list",dict:=odict,data:=.seq items nl,slots:=oslots}:=Heap.get?_push_of_some _ hol;have hsls:=sub_list_set;have hslf:=sub_list_frozenset;have hne:(Value.type "list"==Value.type "dict")=false:=by decide
    have hl1:(s.heap.push (jT led)).IsList l items:=⟨_,hol',rfl,nl,rfl⟩;unfold Builtin.«set.__init__»noKeywords Builtin.Frozenset.updateFrom;generalize hPI:pyIter=PI;wp_walk;subst hPI;refine wpAny_pyIter_list hl1 ?_;refine wpAny_bind (wpAny_runValue ?_);have hlS:l<s.heap.objs.size:=Heap.lt_size hol;have hh3:A.in1.in1.in1.handled=none:=by simp[hh]
    have hneI:l≠(s.heap.push (jT led)).objs.size:=by rw[Heap.size_push];exact Nat.ne_of_lt (Nat.lt_succ_of_lt hlS)
    have hSf:s.heap.objs.size∉[(s.heap.push (jT led)).objs.size,l]:=by rw[Heap.size_push];simp only[List.mem_cons,List.mem_singleton,List.not_mem_nil,or_false,not_or];exact⟨Nat.ne_of_lt (Nat.lt_succ_self _),Nat.ne_of_gt hlS⟩
    refine oF ((Walks.list hh3 _ l hneI items).toS) s.heap.objs.size hSf val hi hb (items.size-0) 0 _ ↑a ↑aV ⟨⟨_,Heap.get?_push_size _ rfl,rfl,rfl⟩,⟨_,Heap.get?_push_of_some _ hol',rfl,nl,rfl⟩⟩ ?hS0 ?hR;case hS0=>have hget:((s.heap.push (jT led)).push {cls:=.type "list_iterator",data:=.fields #[.ref l,.int 0 0]}).get? s.heap.objs.size=some (jT led):=Heap.get?_push_of_some _ hS;exact PyProof.Rows.SetOf_congr ((PyProof.Rows.setObjOf_fresh (knd:=strKind prog w) led).setOf hget (by unfold scanBound;omega)) (λ_=>rfl) rfl
    case hR=>
     intro s' hm hS';obtain⟨h',g',d',tk',os'⟩:=s';have eg:g'=s.gens:=hm.gens;have ed:d'=s.drawn:=hm.drawn;have eo:os'=s.os:=hm.os;subst eg;subst ed;subst eo;show wpAny _ _ _ _ _ _;refine wpAny_pure ?_;show wpAny _ _ (ret Value.none) _ _ _;refine wpAny_pure ⟨rfl,h',tk',rfl,hS',λb o hb e=>?_⟩;have hb1:b≠s.heap.objs.size:=Nat.ne_of_lt hb;have hb2:b≠(s.heap.push (jT led)).objs.size:=by rw[Heap.size_push];exact Nat.ne_of_lt (Nat.lt_succ_of_lt hb)
     exact hm.heap b o (by simp only[List.mem_cons,List.mem_singleton,List.not_mem_nil,or_false,not_or];exact⟨hb1,hb2⟩) (Heap.get?_push_of_some _ (Heap.get?_push_of_some _ e))
   ·cases r₂ with|error e=>exact hr₂|ok fl₂=>
     cases fl₂ with|ret r=>
      obtain⟨rfl,h',tk,rfl,hS',hk'⟩:=hr₂;repeat(any_goals(first|assumption|wp_step))
      exact h _ _ hS' hk'|_=>exact hr₂.elim
  |_=>exact hr.elim
set_option maxHeartbeats 3200000 in theorem eB(hh:A.handled=none)(hl:s.heap.IsTuple l items)(hi:∀(i:Nat)(v:Value),items[i]?=some v->∃t,v=.str (val i) t)(hb:items.size+1<scanBound)(h:∀(h':Heap)(tk:Nat),h'.SetOf (strKind prog w) s.heap.objs.size (λk'=>(kD val items.size).any (·==k')) (kD val items.size).length->(∀b o,b<s.heap.objs.size->s.heap.get? b=some o->h'.get? b=some o)->Q ↑ak {s with heap:=h',toks:=tk}):wpAny ↑n A (call (.type "set") [.ref l]) Q E s:=by
 obtain⟨c,tl,hmro⟩:=F.called_set.mro;have hmade:=F.called_set.made;have hsub:=F.called_set.sub;refine wpAny_call (codeAny_of_tree ?_);show wpAny _ _ (callAny (.type "set") _) _ _ _;refine wpAny_pure ⟨Code.quiet_builtin _ ↑aa,codeAny_builtin F.entry_type_call ?_⟩;rw[Around.under_plain (weight_type_call_type "set" [.ref l] []) rfl];have h1:=F.called_set.notType;have h2:=F.called_set.canCreate;have hct:=F.typeCall_set_1 (.ref l);repeat(any_goals(first|assumption|wp_step))
 refine codeAny_mono (code_set_new_1 (.ref l) (E:=E) (Q₁:=λobj s₁=>∃led:Bool,obj=.ref s.heap.objs.size/\s₁={s with heap:=s.heap.push (jT led)}) λled=>⟨led,rfl,rfl⟩) λr s₁ hr=>?_;cases r with|error e=>exact hr|ok fl=>cases fl with
  |ret obj=>
   obtain⟨led,rfl,rfl⟩:=hr;have hS:(s.heap.push (jT led)).get? s.heap.objs.size=some (jT led):=Heap.get?_push_size _ rfl;have hT:Shared.TypeIs {s with heap:=s.heap.push (jT led)} ↑ak "set":=⟨_,hS,rfl⟩;have hli:=F.called_set.init.lookup;have hbi:=F.called_set.init.bind ↑ak;repeat(any_goals(first|assumption|wp_step))
   refine codeAny_mono (codeAny_call_builtin (R:=wants (λr s₂=>r=.none/\∃h' tk,s₂={s with heap:=h',toks:=tk}/\h'.SetOf (strKind prog w) s.heap.objs.size (λk'=>(kD val items.size).any (·==k')) (kD val items.size).length/\(∀b o,b<s.heap.objs.size->s.heap.get? b=some o->h'.get? b=some o)) E) F.called_set.init.plain F.entry_set_init (check_set_init_1 hT ?_)) λr₂ s₂ hr₂=>?_
   ·obtain⟨ol,hol,hcl,nl,hdl⟩:=hl;obtain⟨ocls,odict,odata,oslots⟩:=ol;simp only at hcl hdl;subst hcl;subst hdl;have hol':(s.heap.push (jT led)).get? l=some {cls:=.type "tuple",dict:=odict,data:=.seq items nl,slots:=oslots}:=Heap.get?_push_of_some _ hol;have hsls:=dY;have hslf:=pO;have hne:(Value.type "tuple"==Value.type "dict")=false:=by decide
    have hl1:(s.heap.push (jT led)).IsTuple l items:=⟨_,hol',rfl,nl,rfl⟩;unfold Builtin.«set.__init__»noKeywords Builtin.Frozenset.updateFrom;generalize hPI:pyIter=PI;wp_walk;subst hPI;refine wpAny_pyIter_tuple hl1 ?_;refine wpAny_bind (wpAny_runValue ?_);have hlS:l<s.heap.objs.size:=Heap.lt_size hol;have hh3:A.in1.in1.in1.handled=none:=by simp[hh]
    have hneI:l≠(s.heap.push (jT led)).objs.size:=by rw[Heap.size_push];exact Nat.ne_of_lt (Nat.lt_succ_of_lt hlS)
    have hSf:s.heap.objs.size∉[(s.heap.push (jT led)).objs.size,l]:=by rw[Heap.size_push];simp only[List.mem_cons,List.mem_singleton,List.not_mem_nil,or_false,not_or];exact⟨Nat.ne_of_lt (Nat.lt_succ_self _),Nat.ne_of_gt hlS⟩
    refine oF ((Walks.tuple hh3 _ l hneI items).toS) s.heap.objs.size hSf val hi hb (items.size-0) 0 _ ↑a ↑aV ⟨⟨_,Heap.get?_push_size _ rfl,rfl,rfl⟩,⟨_,Heap.get?_push_of_some _ hol',rfl,nl,rfl⟩⟩ ?hS0 ?hR;case hS0=>have hget:((s.heap.push (jT led)).push {cls:=.type "tuple_iterator",data:=.fields #[.ref l,.int 0 0]}).get? s.heap.objs.size=some (jT led):=Heap.get?_push_of_some _ hS;exact PyProof.Rows.SetOf_congr ((PyProof.Rows.setObjOf_fresh (knd:=strKind prog w) led).setOf hget (by unfold scanBound;omega)) (λ_=>rfl) rfl
    case hR=>
     intro s' hm hS';obtain⟨h',g',d',tk',os'⟩:=s';have eg:g'=s.gens:=hm.gens;have ed:d'=s.drawn:=hm.drawn;have eo:os'=s.os:=hm.os;subst eg;subst ed;subst eo;show wpAny _ _ _ _ _ _;refine wpAny_pure ?_;show wpAny _ _ (ret Value.none) _ _ _;refine wpAny_pure ⟨rfl,h',tk',rfl,hS',λb o hb e=>?_⟩;have hb1:b≠s.heap.objs.size:=Nat.ne_of_lt hb;have hb2:b≠(s.heap.push (jT led)).objs.size:=by rw[Heap.size_push];exact Nat.ne_of_lt (Nat.lt_succ_of_lt hb)
     exact hm.heap b o (by simp only[List.mem_cons,List.mem_singleton,List.not_mem_nil,or_false,not_or];exact⟨hb1,hb2⟩) (Heap.get?_push_of_some _ (Heap.get?_push_of_some _ e))
   ·cases r₂ with|error e=>exact hr₂|ok fl₂=>
     cases fl₂ with|ret r=>
      obtain⟨rfl,h',tk,rfl,hS',hk'⟩:=hr₂;repeat(any_goals(first|assumption|wp_step))
      exact h _ _ hS' hk'|_=>exact hr₂.elim
  |_=>exact hr.elim
end
def pZ(zs:List Str):List Str:=zs.foldl step_dedup []
def XN(zs:List Str):kD (λi=>zs.getD i "") zs.length=pZ zs:=by
 unfold kD pZ;congr 1;apply List.ext_getElem;·simp
 ·intro i h1 h2;simp at h1;simp[h1]
def xG:List T->Option (List Str)|[]=>some []|.str z::ts=>(xG ts).map λr=>z::r|_::_=>none
def af:T->Option Nat|.lst ts=>(xG ts).bind λzs=>if zs.length+1<scanBound then some (pZ zs).length else none|.tup ts=>(xG ts).bind λzs=>if zs.length+1<scanBound then some (pZ zs).length else none|_=>none
def m9{K:W.Frag}{F:Addr->Prop}{H:Hp}:∀{ts:List T}{zs:List Str}{vs:List V},xG ts=some zs->IsAll K F H ts vs->vs=zs.map V.str|[],zs,vs,h,ia=>by unfold xG at h;cases h;exact m6 ia|t::ts,zs,vs,h,ia=>by unfold xG at h;cases t<;>simp only[reduceCtorEq]at h;case str z=>cases hr:xG ts with|none=>rw[hr]at h;cases h|some r=>rw[hr]at h;cases h;unfold IsAll at ia;obtain⟨v,us,rfl,i1,i2⟩:=ia;unfold Is at i1;rw[i1,m9 hr i2];rfl
def Gw(K:W.Frag)(te:TE):TE:=λσ H Q=>te σ H λv H1=>∃a zs,v=.ref a/\(nO K H1 a (zs.map V.str)\/lw K H1 a (zs.map V.str))/\zs.length+1<scanBound/\Q (.int (pZ zs).length) H1
def VJ{zs:List Str}{us:List Value}(r:zL (zs.map V.str) us):∀(i:Nat)(v:Value),us.toArray[i]?=some v->∃t,v=.str (zs.getD i "") t:=by
 intro i v h;have hl:=r.length;simp at h;have hi:i<us.length:=(List.getElem?_eq_some_iff.mp h).1;have hz:i<zs.length:=by rw[List.length_map]at hl;omega
 obtain⟨u,e1,e2⟩:=r.get (i:=i) (x:=V.str zs[i]) (by simp[hz]);rw[h]at e1;cases e1;obtain⟨t,e⟩:=e2;exact⟨t,by rw[e];simp[hz]⟩
def XO(hc:X.calm=true)(hgl:Gl X "len")(hml:X.mg "len"=none)(hgs:Gl X "set")(hms:X.mg "set"=none)(h:PE X e te)(h1:starEach [.Call (.Name "set" q) [e] [] p1] X.env=[(false,eval (.Call (.Name "set" q) [e] [] p1) X.env)]:=by rfl)(h2:starEach [e] X.env=[↑M]:=by rfl):PE X (.Call (.Name "len" p) [.Call (.Name "set" q) [e] [] p1] [] p2) (Gw X.K te):=by
 intro pins s σ H Q I hw;have hd:X.A.handled=none:=I.ok.hd hc;refine wpAny_Call_Name_kw (qo I hgl hml PySem.boot_len ?_);refine PyProof.Rows.callWith_builtin1 ?_;rw[h1];show wpAny _ _ (spliced ((false,eval (.Call (.Name "set" q) [e] [] p1) X.env)::[])) _ _ s;refine Calls.spliced_cons ?_;refine wpAny_Call_Name_kw (qo I hgs hms (show bootBuiltins "set"=some (.type "set")by rfl) ?_);refine PyProof.Rows.callWith_type1 ?_ (he:=by rw[h2];rfl);rw[h2];show wpAny _ _ (spliced (↑M::[])) _ _ s;refine Calls.spliced_cons (jQ (h pins s σ H _ I hw) λu s1⟨x,H1,I1,r1,q1⟩=>?_);obtain⟨a,zs,rfl,sq,hb,hq⟩:=q1;cases r1;rw[spliced];refine wpAny_pure ?_;have fin:∀(h':Heap)(tk:Nat),h'.SetOf (strKind X.prog X.w) s1.heap.objs.size (λk'=>(kD (λi=>zs.getD i "") zs.length).any (·==k')) (kD (λi=>zs.getD i "") zs.length).length->(∀b o,b<s1.heap.objs.size->s1.heap.get? b=some o->h'.get? b=some o)->wpAny ↑b X.A (spliced []) (λvs s₂=>wpAny ↑b X.A (call (.builtin "len") (Value.ref s1.heap.objs.size::vs)) ↑aK X.xe s₂) X.xe {s1 with heap:=h',toks:=tk}:=by
  intro h' tk hS kp;rw[spliced];refine wpAny_pure ?_;have I2:zu X pins σ H1 {s1 with heap:=h',toks:=tk}:=I1.kept λb o e=>kp b o ↑aQ e;obtain⟨o,es,ep,t,ho,hex,hdt,hel,hmem,hlt,hf,hn⟩:=hS;have hle:(kD (λi=>zs.getD i "") zs.length).length<=zs.length:=ae _ _;have hsz:(es.size:Int)<2^63:=by unfold scanBound at hb;omega
  refine call_len_set ho hex hdt hf hsz ⟨.int (pZ zs).length,H1,I2.tok _,⟨tk+1,?_⟩,hq⟩;rw[hn,XN]
 rcases sq with sq|sq
 ·obtain⟨its,r',pl,hz⟩:=I1.list sq;have hl:its.length=zs.length:=by have:=r'.length;rw[List.length_map]at this;omega
  have hsz:its.toArray.size=zs.length:=by simp[hl]
  refine dZ hd pl.isList (VJ r') (by rw[hsz];exact hb) λh' tk hS kp=>?_;rw[hsz]at hS;exact fin h' tk hS kp
 ·obtain⟨its,r',pl,hz⟩:=I1.tuple sq;have hl:its.length=zs.length:=by have:=r'.length;rw[List.length_map]at this;omega
  have hsz:its.toArray.size=zs.length:=by simp[hl]
  refine eB hd pl (VJ r') (by rw[hsz];exact hb) λh' tk hS kp=>?_;rw[hsz]at hS;exact fin h' tk hS kp
def uX(m:ME):ME:=λenv=>(m env).bind λr=>match af r.2 with|some n=>.ok ↑aF|none=>.bad
def VL(hc:X.calm=true)(hgl:Gl X "len")(hml:X.mg "len"=none)(hgs:Gl X "set")(hms:X.mg "set"=none)(h:jK X e m)(h1:starEach [.Call (.Name "set" q) [e] [] p1] X.env=[(false,eval (.Call (.Name "set" q) [e] [] p1) X.env)]:=by rfl)(h2:starEach [e] X.env=[↑M]:=by rfl):jK X (.Call (.Name "len" p) [.Call (.Name "set" q) [e] [] p1] [] p2) (uX m):=by obtain⟨te,pe,se⟩:=h;refine⟨_,XO hc hgl hml hgs hms pe h1 h2,?_⟩;intro F H σ env Q R nb ok ex;unfold uX at nb ok ex;refine se.val R ↑d (λr e1 v F1 H1 x1 i1=>?_) λx z=>ex x ↑E;rw[e1,bind_ok]at nb ok;obtain⟨o,t⟩:=r;dsimp only at nb ok i1;cases hn:af t with|none=>rw[hn]at nb;exact absurd rfl nb|some n=>
  rw[hn]at ok;cases t<;>simp only[af,reduceCtorEq]at hn;case lst ts=>cases hz:xG ts with|none=>rw[hz]at hn;cases hn|some zs=>
    rw[hz]at hn;dsimp only[Option.bind]at hn;split at hn;·rename_i hb;cases hn;unfold Is at i1;obtain⟨a,vs,rfl,g1,g2⟩:=i1;rw[m9 hz g2]at g1;exact⟨a,zs,rfl,.inl g1.sq,hb,ok _ rfl _ F1 H1 x1 (jD xm)⟩
    ·cases hn
  case tup ts=>cases hz:xG ts with|none=>rw[hz]at hn;cases hn|some zs=>
    rw[hz]at hn;dsimp only[Option.bind]at hn;split at hn;·rename_i hb;cases hn;unfold Is at i1;obtain⟨a,vs,rfl,g1,g2⟩:=i1;rw[m9 hz g2]at g1;exact⟨a,zs,rfl,.inr g1,hb,ok _ rfl _ F1 H1 x1 (jD xm)⟩
    ·cases hn
end L3
namespace L2
open PySem PySem.Spec PyProof.Rows
def Ds(K:W.Frag)(a:Addr):It:=⟨λi H=>∃xs x,nO K H a xs/\xs[i]?=some x,λi H v H'=>∃T y,H T=none/\v=.ref T/\H'=jm H T (.tup [.int i,y])/\∀xs,nO K H a xs->xs[i]?=some y,λi H=>∃xs,nO K H a xs/\xs.length<=i⟩
def zu.turnT{h':Heap}{tk:Nat}{ch:List Addr}{T:Addr}{xs:List V}{its:List Value}(I:zu X pins σ H s)(hf:∀b∈ch,uI X pins H b)(k:∀b o,b∉ch->s.heap.get? b=some o->h'.get? b=some o)(hT:s.heap.objs.size<=T)(hz:xs.length<=sizeLine)(r:zL xs its)(ht:IsTup h' T its.toArray):zu X pins σ (jm H T (.tup xs)) {s with heap:=h',toks:=tk}:=by
 have hn:=I.hok.fresh hT;have neT:∀b o,s.heap.get? b=some o->b≠T:=λb o e z=>absurd ↑aQ (Nat.not_lt.mpr (by rw[z];exact hT));have nch:∀b u,H b=some u->b∉ch:=λb u e z=>by rw[(hf b z).1]at e;cases e
 refine I.call' rfl ⟨λb o e n hb hx=>k b o hx e,λb o e n hb hx=>⟨o.slots,k b o hx e⟩,λb o e n hx=>by rw[zh (neT b o e)];exact n,λb o e hx=>⟨o,k b o hx e⟩,λb ys q=>by rw[zh (zC q hn)];exact q,λb o u q=>by rw[zh (zC q hn)];exact q,λb ps q=>⟨#[],by rw[zh (zC q hn),Array.append_empty];exact q⟩⟩ (λb u e=>?_) I.bare λb hb=>⟨(hf b hb).2.2.2.1,(hf b hb).2.1,(hf b hb).2.2.2.2.1,(hf b hb).2.2.2.2.2⟩;by_cases hb:b=T;·subst hb;rw[zF]at e;cases e;exact⟨hz,its,r,ht⟩
 ·rw[zh hb]at e;refine(I.hok b u e).stay (λc v hc q=>k c v ?_ q) (λc q=>by rw[zh (zC q hn)];exact q) λc xs q=>by rw[zh (zC q hn)];exact q
  rcases hc with rfl|hc;·exact nch _ _ e
  ·exact nch _ _ hc
def XQ{P:Program}{w:World}{K:W.Frag}{elts:List Expr}{k:Nat}{tp:Pos}(a e it:Addr)(hei:e≠it):Zx P w K (.Tuple elts k tp) (Ds K a) [e,it] e (λi h=>(∃old,IsEnum h e it (i:Int) old)/\h.IsListIter it a i)where
 mem:=by simp
 obj:=λi h st b hb=>by
  obtain⟨⟨old,he⟩,hi⟩:=st;rcases List.mem_cons.mp hb with rfl|hb;·exact⟨_,he,λv z=>by have z':Data.fields _=Data.cell v:=z;cases z'⟩
  ·have e:b=it:=by simpa using hb
   subst e;obtain⟨o,e,c,d⟩:=hi;exact⟨o,e,λv z=>by rw[d]at z;cases z⟩
 keep:=λi h h' st k=>by obtain⟨⟨old,he⟩,hi⟩:=st;exact⟨⟨old,k e ↑T _ he⟩,hi.at λo q=>k it ↑T o q⟩
 item:=by
  intro X hP hw hK hc i pins s σ H E I hf st hg;subst hP hw hK;obtain⟨xs,x,hq,hx⟩:=hg;obtain⟨its,rv,p,hz⟩:=I.list hq;obtain⟨u,hu,ru⟩:=rv.get hx;obtain⟨⟨old,he⟩,hi⟩:=st;refine wpAny_pyNext_enum_item he hi p.isList (by simpa using hu) hei λh' ho hi' hT hsz hk=>?_;have I1:zu X pins σ (jm H s.heap.objs.size (.tup [.int i,x])) {s with heap:=h',toks:=s.toks+1}:=I.turnT hf (λb o hb q=>hk b o (λz=>hb (by simp[z])) (λz=>hb (by simp[z])) q) ↑e (by show 2<=sizeLine;decide) (.cons ⟨_,rfl⟩ (.cons ru .nil)) ⟨_,hT,rfl,_,rfl⟩;have ne1:e≠s.heap.objs.size:=Nat.ne_of_lt (Heap.lt_size he);have ne2:it≠s.heap.objs.size:=by obtain⟨o,q,_⟩:=hi;exact Nat.ne_of_lt (Heap.lt_size q)
  refine⟨_,rfl,wpAny_letOwnedTupleGo_enum ho λh2 he2 hs2=>?_⟩;obtain⟨f0,f1,f2,f3,f4,f5⟩:=hf e ↑T;refine⟨.ref s.heap.objs.size,_,I1.turned (λb o hb q=>(hs2.2 b hb).trans q) (by rw[zh ne1];exact f0) f1 f3 f4 f5,rfl,⟨_,x,I.hok.fresh ↑e,rfl,rfl,λys hy=>by rw[I.list_inj hy hq];exact hx⟩,⟨⟨u,by simpa using he2⟩,hi'.at λo q=>(hs2.2 it hei.symm).trans q⟩,λb hb=>?_⟩;rcases List.mem_cons.mp hb with rfl|hb;·rw[zh ne1];exact f0
  ·have e':b=it:=by simpa using hb
   subst e';rw[zh ne2];exact(hf b ↑T).1
 done:=by intro X hP hw hK hc i pins s σ H E I hf st hg;subst hP hw hK;obtain⟨xs,hq,hx⟩:=hg;obtain⟨its,rv,p,hz⟩:=I.list hq;obtain⟨f0,f1,f2,f3,f4,f5⟩:=hf it ↑T;obtain⟨⟨old,he⟩,hi⟩:=st;have hl:=rv.length;exact wpAny_pyNext_enum_end (I.ok.hd hc) he hi p.isList ↑aO λh' eb=>⟨rfl,I.turned (λb o hb e=>eb b o hb e) f0 f1 f3 f4 f5⟩
 self:=λ_ _ _ _ _ st h=>by obtain⟨⟨old,he⟩,_⟩:=st;exact wpAny_pyIter_enum he h
def VM(K:W.Frag)(tl:TE):TI:=λσ H R=>tl σ H λx H1=>∃a,x=.ref a/\(∃xs,nO K H1 a xs)/\R (Ds K a) H1
def Gx{elts:List Expr}{k:Nat}{tp p pos:Pos}{l:Expr}{tl:TE}(hg:Gl X "enumerate")(hm:X.mg "enumerate"=none)(hl:PE X l tl)(hs:starEach [l] X.env=[(false,eval l X.env)]:=by rfl):PI X (.Tuple elts k tp) (.Call (.Name "enumerate" p) [l] [] pos) (VM X.K tl):=by
 intro pins s σ H R I h;refine wpAny_Call_Name_kw (qo I hg hm bR ?_);refine PyProof.Rows.callWith_type1 ?_ (he:=by rw[hs];rfl);rw[hs];show wpAny _ _ (spliced ((false,eval l X.env)::[])) _ _ s;refine Calls.spliced_cons (jQ (hl pins s σ H _ I h) λu s1⟨x,H1,I1,r1,q1⟩=>?_);obtain⟨a,rfl,⟨xs,hq⟩,q⟩:=q1;cases r1;rw[spliced];refine wpAny_pure ?_;obtain⟨its,rv,pl,hz⟩:=I1.list hq;refine call_enumerate_list pl.isList λh' he hi hsz kp=>wpAny_pyIter_enum he ?_;have I2:zu X pins σ H1 {s1 with heap:=h'}:=I1.kept kp;refine⟨s1.heap.objs.size+1,[s1.heap.objs.size+1,s1.heap.objs.size],_,_,H1,rfl,I2,XQ a (s1.heap.objs.size+1) s1.heap.objs.size (Nat.ne_of_gt (Nat.lt_succ_self _)),⟨⟨.none,he⟩,hi⟩,λb hb=>?_,q⟩;have hb':s1.heap.objs.size<=b:=by
  rcases List.mem_cons.mp hb with rfl|hb;·exact Nat.le_succ _
  ·have e:b=s1.heap.objs.size:=by simpa using hb
   exact Nat.le_of_eq e.symm
 exact I1.fpOk hb' (I1.hok.fresh hb')
end L2
namespace L3
open PySem PySem.Spec PyProof.Rows L2
def Ur(f:Str):List Str->List T->Option T|g::fs,t::ts=>if f==g then some t else Ur f fs ts|_,_=>none
def oG{K:W.Frag}{F:Addr->Prop}{H:Hp}{f:Str}{t:T}:∀{fvs:List (Str×V)}{fs:List Str}{ts:List T},fvs.map (·.1)=fs->IsAll K F H ts (fvs.map (·.2))->Ur f fs ts=some t->∃v,fvs.lookup f=some v/\Is K F H t v|[],fs,ts,e,_,h=>by subst e;cases ts<;>(simp[Ur]at h)|(g,v)::r,fs,ts,e,ia,h=>by subst e;cases ts with|nil=>simp[Ur]at h|cons u us=>rw[List.map_cons]at ia h;unfold IsAll at ia;obtain⟨v',r',e1,i1,i2⟩:=ia;injection e1 with e1 e2;subst e1 e2;rw[List.lookup_cons];unfold Ur at h;dsimp only at h;cases hb:f==g with|true=>rw[hb,if_pos rfl]at h;cases h;exact⟨v,rfl,i1⟩|false=>rw[hb,if_neg Bool.false_ne_true]at h;exact oG rfl i2 h
def ld:∀{fvs:List (Str×V)},f∉fvs.map (·.1)->fvs.lookup f=none
 |[],_=>rfl|(g,v)::r,h=>by
  rw[List.map_cons,List.mem_cons,not_or]at h;rw[List.lookup_cons];have:(f==g)=false:=by simpa using h.1
  rw[this];exact ld h.2
def J9(cs:List Addr)(f:Str)(m:ME):ME:=λenv=>(m env).bind λr=>match r.2 with|.obj C fs ts=>if C∈cs then Y9 ((Ur f fs ts).map λt=>↑P)else .bad|_=>.bad
def Us{cs:List Addr}(hc:∀C∈cs,lz X.K C/\xA X.K C f)(h:jK X e me)(hb:attributeBase e f X.env (eval e X.env)=eval e X.env:=by rfl):jK X (.Attribute e f pos) (J9 cs f me):=by
 obtain⟨te,pe,se⟩:=h;refine⟨_,ZG pe hb,?_⟩;intro F H σ env Q R nb ok ex;unfold J9 at nb ok ex;refine se.val R ↑d (λr e1 v F1 H1 x1 i1=>?_) λx z=>ex x ↑E;rw[e1,bind_ok]at nb ok;obtain⟨b,t⟩:=r;dsimp only at nb ok i1;cases t<;>dsimp only at nb ok<;>try(exact absurd rfl nb)
 case obj C fs ts=>
  split at nb;·rename_i hC;rw[if_pos hC]at ok;cases hl:Ur f fs ts with|none=>rw[hl]at nb;exact absurd rfl nb|some t=>rw[hl]at ok;unfold Is at i1;obtain⟨a,dx,fvs,rfl,fa,hH,hk,ia⟩:=i1;obtain⟨v,lv,iv⟩:=oG hk ia hl;exact⟨a,C,dx,fvs,v,rfl,hH,(hc C hC).1,(hc C hC).2,lv,ok _ rfl v F1 H1 x1 (jD iv)⟩
  ·exact absurd rfl nb
def Ja(X:Cx)(C:Addr)(m:Str)(sp:Sp)(ta:TE)(t:TA):TE:=λσ H Q=>ta σ H λx H1=>∃a dx fs,x=.ref a/\H1 a=some (.ins C dx fs)/\fs.lookup m=none/\t σ H1 λvs H2=>∃E,sp (x::vs) H2 Q E/\∀e oa H',E e oa H'->∀pins s',zu X pins σ H' s'->X.xe e s'
def IB(he:PE X o ta)(c:lz X.K C)(hm:bK X.K C m fa)(Fn:qc X.prog X.w X.K X.mg X.base (lU X.prog X.w) k fa fd ps sp)(hr:xV k X.A)(hb:f6 X.K fd ps [])(ha:PA X (e::es) t)(hst:starEach (e::es) X.env=↑M::starEach es X.env:=by rfl)(hpl:(backTo pos ↑aL).any (·.1)=false:=by rfl)(ht:eval (.Call (.Attribute o m apos) (e::es) [] pos) X.env=(do
   let ov<-eval o X.env
   standAt apos.atName let(f,first)<-holding [ov] (getMethod ov m pl)callWith pos f first (backTo pos (starEach (e::es) X.env)) (backToKw pos (keywordEach [] X.env))):=by rfl):PE X (.Call (.Attribute o m apos) (e::es) [] pos) (Ja X C m sp ta t):=by intro pins s σ H Q I h;refine W.methodCall_KW (jQ (he pins s σ H _ I h) λu s1⟨x,H1,I1,rx,a,dx,fs,ex,ea,l,q⟩=>?_) ht;subst ex;obtain rfl:u=Value.ref a:=rx;refine iq I1 ea c hm l ?_;refine W.callWith_K I.ok.mod.kin hm.kp (jQ (ha pos pins s1 σ H1 _ I1 q) λus s2⟨vs,H2,I2,r,E,q2,hx⟩=>⟨I2.kIn,?_⟩) hst hpl;exact a7 (vs:=.ref a::vs) Fn hr hb I2 (.cons rfl r) q2 λe oa H' z s' I'=>hx e oa H' z pins s' I'
def XR(he:PE X o ta)(c:lz X.K C)(hm:bK X.K C m fa)(Fn:qc X.prog X.w X.K X.mg X.base (lU X.prog X.w) k fa fd ps sp)(hr:xV k X.A)(hb:f6 X.K fd ps [])(ht:eval (.Call (.Attribute o m apos) [] [] pos) X.env=(do
   let ov<-eval o X.env
   standAt apos.atName let(f,first)<-holding [ov] (getMethod ov m pl)callWith pos f first (backTo pos (starEach [] X.env)) (backToKw pos (keywordEach [] X.env))):=by rfl):PE X (.Call (.Attribute o m apos) [] [] pos) (Ja X C m sp ta QP):=by intro pins s σ H Q I h;refine W.methodCall_KW (jQ (he pins s σ H _ I h) λu s1⟨x,H1,I1,rx,a,dx,fs,ex,ea,l,E,q,hx⟩=>?_) ht;subst ex;obtain rfl:u=Value.ref a:=rx;refine iq I1 ea c hm l ?_;exact W.callWith_K0 I1.kIn hm.kp (a7 (vs:=[.ref a]) Fn hr hb I1 (.cons rfl .nil) q λe oa H' z s' I'=>hx e oa H' z pins s' I')
def oH(P:Program)(w:World)(K:W.Frag)(mg:Str->Option Value)(base:Heap)(k:Nat)(C:Addr)(m:Str)(ps:List Str)(f:MF):Prop:=∃fa fd,qc P w K mg base (lU P w) k fa fd ps (pX K f)/\bK K C m fa/\lz K C/\f6 K fd ps []
def f9(C:Addr)(m:Str)(f:MF)(mo:ME)(ma:MA):ME:=λenv=>(mo env).bind λr=>match r.2 with|.obj C' fs ts=>if C'=C/\m∉fs then(ma env).bind λrs=>f ((false,r.2)::rs)else .bad|_=>.bad
def XS{C:Addr}{f:MF}{ta:TE}{t:TA}(so:wq X ta mo)(sa:ZW X t ma):wq X (Ja X C m (pX X.K f) ta t) (f9 C m f mo ma):=by
 intro F H σ env Q R nb ok ex;unfold f9 at nb ok ex;refine so.val R ↑d (λr e1 v F0 H0 x0 i0=>?_) λx z=>ex x ↑E;rw[e1,bind_ok]at nb ok ex;obtain⟨b,t0⟩:=r;dsimp only at nb ok ex i0;cases t0<;>dsimp only at nb ok ex<;>try(exact absurd rfl nb)
 case obj C' fs ts=>
  split at nb
  ·rename_i hC;rw[if_pos hC]at ok ex;obtain⟨rfl,hm⟩:=hC;have i0':=i0;unfold Is at i0';obtain⟨a,dx,fvs,rfl,fa,hH,hk,ia⟩:=i0';refine⟨a,dx,fvs,rfl,hH,ld (by rw[hk];exact hm),?_⟩;refine sa F0 H0 σ env _ (R.mono x0) ↑d (λrs e2 vs F1 H1 x01 i1=>?_) λx z=>(ex x ↑E).mono x0;rw[e2,bind_ok]at nb ok ex;have x1:=x0.trans x01;have i1':wv X.K ↑aH F1 H1 vs rs:=i1.any λa z=>jv x0.same z;have i2:wv X.K ↑aH F1 H1 (.ref a::vs) ((false,.obj C' fs ts)::rs):=⟨jD (i0.mono x01.kept),i1',λz=>by cases z⟩;have toExt:∀{F':Addr->Prop}{H':Hp},lE ⟨hI (.ref a::vs) ((false,.obj C' fs ts)::rs),H1,F1⟩ F' H'->xN F H F' H':=by
    intro F' H' fr;refine⟨λa o h=>fr.keep a o (x1.same a o h) λz=>?_,λa h=>fr.sub a (x1.sub a h),λa h=>?_,fr.dom⟩;·rw[(wY i2 z).2.1]at h;cases h
    ·rcases fr.new a h with h|h|h;·exact x1.new a h
     ·exact .inr (jv x1.same h)
     ·exact .inr (wY i2 h).2.1
   refine⟨λev oa H'=>oa=none/\∃F' x,f ((false,.obj C' fs ts)::rs)=.exc x/\xN F H F' H'/\Qx X.K F' H' ev x,⟨F1,_,x1.dom,i2.any λ_ _=>trivial,nb,λr er v F' H' rr=>?_,λx ex' ev F' H' fr ix=>⟨rfl,F',x,ex',toExt fr,ix⟩⟩,λev oa H'⟨_,F',x,e',xt,ix⟩pins s' I=>ex x e' ev F' H' xt ix pins s' I⟩;refine ok r er v F' H' (toExt rr.fr) ?_;have i:=rr.val;unfold kL at i⊢;split
   ·rename_i ho;rw[if_pos ho]at i;obtain⟨a',e,nf,fr,o⟩:=i;refine⟨a',e,nf,?_,o⟩;rcases fr with fr|fr;·exact jv x1.same fr
    ·exact(wY i2 fr).2.1
   ·rename_i ho;rw[if_neg ho]at i;exact i
  ·exact absurd rfl nb
def ag{k:Nat}{C:Addr}{ps:List Str}{f:MF}{pl:Sem Bool}(M:oH X.prog X.w X.K X.mg X.base k C m ps f)(hr:xV k X.A)(ho:jK X o mo)(ht:eval (.Call (.Attribute o m apos) [] [] pos) X.env=(do
   let ov<-eval o X.env
   standAt apos.atName let(f,first)<-holding [ov] (getMethod ov m pl)callWith pos f first (backTo pos (starEach [] X.env)) (backToKw pos (keywordEach [] X.env))):=by rfl):jK X (.Call (.Attribute o m apos) [] [] pos) (f9 C m f mo z5):=by obtain⟨fa,fd,Fn,hm,hc,hb⟩:=M;obtain⟨to,po,so⟩:=ho;exact⟨_,XR po hc hm Fn hr hb ht,XS so λF H σ env Q R nb ok ex=>ok [] rfl [] F H (.refl R.dom) trivial⟩
def wv.mono{K:W.Frag}{fr F F':Addr->Prop}{H H':Hp}(x:xN F H F' H'):∀{vs:List V}{rs:List RV},wv K fr F H vs rs->wv K fr F' H' vs rs
 |[],[],_=>trivial|[],_::_,h=>h.elim|_::_,[],h=>h.elim|v::vs,r::rs,h=>by
  refine⟨?_,wv.mono x h.2.1,h.2.2⟩;have i:=h.1;unfold kL at i⊢;split
  ·rename_i ho;rw[if_pos ho]at i;obtain⟨a,e,nf,f,o⟩:=i;refine⟨a,e,λz=>?_,f,o.mono x.kept λo q=>x.same a o q⟩;rcases x.new a z with z|z;·exact nf z
   ·exact o.there z
  ·rename_i ho;rw[if_neg ho]at i;exact i.mono x.kept
abbrev MN:=List RV->gl T
def Yq(K:W.Frag)(g:MN):Sp:=λvs H Q E=>∃F rs,dN F H/\wv K (λ_=>True) F H vs rs/\g rs≠.bad/\(∀t,g rs=.ok t->∀a F' H',vs[0]?=some (.ref a)->lE ⟨hI vs rs,H,F⟩ F' H'->¬F' a->vw K F' H' a t->Q .non H')/\(∀x,g rs=.exc x->∀ev F' H',lE ⟨hI vs rs,H,F⟩ F' H'->Qx K F' H' ev x->E ev none H')
def oI(P:Program)(w:World)(K:W.Frag)(mg:Str->Option Value)(base:Heap)(k:Nat)(C:Addr)(x:Str)(ps:List Str)(g:MN):Prop:=∃fa fd,qc P w K mg base (lU P w) k fa fd ps (Yq K g)/\Mk K C fa/\mg x=some (.ref C)/\f6 K fd ps []
def fD(C:Addr)(g:MN)(ma:MA):ME:=λenv=>(ma env).bind λrs=>(g ((true,.obj C [] [])::rs)).bind λt=>.ok ↑P
def VN(X:Cx)(C:Addr)(sp:Sp)(t:TA):TE:=λσ H Q=>t σ H λvs H1=>∀x dx,H1 x=none->H1 dx=none->dx≠x->∃E,sp (.ref x::vs) (jm (jm H1 dx (.own x)) x (.ins C dx [])) (λv H2=>v=.non/\Q (.ref x) H2) E/\∀e oa H',E e oa H'->∀pins s',zu X pins σ H' s'->X.xe e s'
def XT(M:Mk X.K C fa)(F:qc X.prog X.w X.K X.mg X.base (lU X.prog X.w) k fa fd ps sp)(hr:xV (k+1) X.A)(hb:f6 X.K fd ps [])(I:zu X pins σ H s)(r:zL vs us)(h:∀x dx,H x=none->H dx=none->dx≠x->∃E,sp (.ref x::vs) (jm (jm H dx (.own x)) x (.ins C dx [])) (λv H2=>v=.non/\Q (.ref x) H2) E/\∀e oa H',E e oa H'->∀pins s',zu X pins σ H' s'->X.xe e s'):wpAny ↑b X.A (call (.ref C) us) ↑aK X.xe s:=by
 obtain⟨E,hq,hx⟩:=h ↑w s.heap.objs.size (I.hok.fresh (Nat.le_succ _)) (I.hok.fresh ↑e) (Nat.ne_of_lt (Nat.lt_succ_self _));have I2:=zu.made (C:=C) I;have r2:zL (V.ref ↑w::vs) (Value.ref ↑w::us):=.cons rfl r;have hl:(Value.ref ↑w::us).length=ps.length:=by have e:=r2.length;rw[F.len _ _ _ _ hq]at e;exact e.symm
 refine wpAny_call (WY I.kIn M.makes M.init (beq_iff_eq.mp M.fn) (codeAny_mono (F.run _ X.stack _ _ ⟨Value.ref ↑w::us,[]⟩ (Value.ref ↑w::us) _ _ E (hr.make C us []) (I2.env0.make C us []) (by have:=hb _ (Value.ref ↑w::us) I2.kIn (by simpa using hl);simpa using this) r2 hq) λr s' hq'=>?_));cases r with|error e=>obtain⟨H',oa,ho,hg,hu,hok,he⟩:=hq';exact hx e oa H' he pins s' (I2.call' ho hu hok hg λb z=>absurd z ↑T)|ok fl=>cases fl with|ret u=>obtain⟨v,H',I3,rv,ev,q3⟩:=I2.after hq';subst ev;exact⟨rv,⟨V.ref ↑w,H',I3,rfl,q3⟩⟩|next=>exact False.elim hq'|brk=>exact False.elim hq'|cont=>exact False.elim hq'
def VO(M:Mk X.K C fa)(F:qc X.prog X.w X.K X.mg X.base (lU X.prog X.w) k fa fd ps sp)(hr:xV (k+1) X.A)(hg:Gl X x)(hm:X.mg x=some (.ref C))(hb:f6 X.K fd ps [])(ha:PA X (e::es) t)(hdb:(x==↑t)=false:=by decide)(he:starEach (e::es) X.env=↑M::starEach es X.env:=by rfl)(hpl:(backTo pos ↑aL).any (·.1)=false:=by rfl):PE X ↑al (VN X C sp t):=by intro pins s σ H Q I h;refine wpAny_Call_Name_kw (bF I hg hm ?_ hdb);refine W.callWith_K I.ok.mod.kin M.kp (jQ (ha pos pins s σ H _ I h) λus s1⟨vs,H1,I1,r,q⟩=>⟨I1.kIn,?_⟩) he hpl;exact XT M F hr hb I1 r q
def XU(sa:ZW X t ma):wq X (VN X C (Yq X.K g) t) (fD C g ma):=by
 intro F H σ env Q R nb ok ex;unfold fD at nb ok ex;refine sa F H σ env _ R ↑d (λrs e1 vs F1 H1 x1 i1=>?_) λx z=>ex x ↑E;rw[e1,bind_ok]at nb ok ex;intro a dx ha hd hne;have ea:xN F1 H1 F1 (jm H1 dx (.own a)):=xN.alloc x1.dom hd;have hna:jm H1 dx (.own a) a=none:=by rw[zh (Ne.symm hne)];exact ha
 have eb:xN F1 (jm H1 dx (.own a)) F1 (jm (jm H1 dx (.own a)) a (.ins C dx [])):=xN.alloc ea.dom hna;have x2:=ea.trans eb;have x12:=x1.trans x2;have nF:¬F1 a:=λf=>x1.dom a f ha;have own:∀{i:Nat}{r:RV},rs[i]?=some r->r.1=true->vs[i]?=some (V.ref a)->False:=by intro i r er ho hv;exact(wY i1 ⟨i,r,er,ho,hv⟩).2.2 ha
 have i2:wv X.K ↑aH F1 (jm (jm H1 dx (.own a)) a (.ins C dx [])) (.ref a::vs) ((true,.obj C [] [])::rs):=by refine⟨?_,i1.mono x2,λ_ j r er ho hv=>own er ho hv⟩;unfold kL;rw[if_pos rfl];exact⟨a,rfl,nF,jv x1.same ha,dx,[],zF,rfl,IsAll.nil⟩
 have toExt:∀{F':Addr->Prop}{H':Hp},lE ⟨hI (.ref a::vs) ((true,.obj C [] [])::rs),jm (jm H1 dx (.own a)) a (.ins C dx []),F1⟩ F' H'->xN F H F' H':=by
  intro F' H' fr;refine⟨λb o h=>fr.keep b o (x12.same b o h) λz=>?_,λb h=>fr.sub b (x1.sub b h),λb h=>?_,fr.dom⟩;·rw[(wY i2 z).2.1]at h;cases h
  ·rcases fr.new b h with h|h|h;·exact x1.new b h
   ·exact .inr (jv x12.same h)
   ·exact .inr (wY i2 h).2.1
 refine⟨λev oa H'=>oa=none/\∃F' x,g ((true,.obj C [] [])::rs)=.exc x/\xN F H F' H'/\Qx X.K F' H' ev x,⟨F1,_,x2.dom,i2.any λ_ _=>trivial,λz=>by rw[z]at nb;exact nb rfl,λt et a' F' H' hv fr nf' w=>?_,λx ex' ev F' H' fr ix=>⟨rfl,F',x,ex',toExt fr,ix⟩⟩,λev oa H'⟨_,F',x,e',xt,ix⟩pins s' I=>ex x (by rw[e'];rfl) ev F' H' xt ix pins s' I⟩;have hv:V.ref a=V.ref a':=by simpa using hv
 cases hv;refine⟨rfl,ok ↑P (by rw[et];rfl) (.ref a) (λb=>F' b\/b=a) H' ((toExt fr).freeze (jv x1.same ha) w.there) (jD (w.is (λb h=>.inl h) (.inr rfl)))⟩
def VP(M:oI X.prog X.w X.K X.mg X.base k C x ps g)(hr:xV (k+1) X.A)(hg:Gl X x)(ha:Zs X (e::es) ma)(hdb:(x==↑t)=false:=by decide)(he:starEach (e::es) X.env=↑M::starEach es X.env:=by rfl)(hpl:(backTo pos ↑aL).any (·.1)=false:=by rfl):jK X ↑al (fD C g ma):=by obtain⟨fa,fd,F,hM,hm,hb⟩:=M;obtain⟨ta,pa,sa⟩:=ha;exact⟨_,VO hM F hr hg hm hb pa hdb he hpl,XU sa⟩
def jG(M:T)(ts:List T)(i:Nat)(t:T)(d:Option RV):En:=[none,some (false,.lst ts),some (false,M),some (false,.int i),some ↑P,d]
def ql(M:T)(tw tc:MT)(mk mv:ME)(ts:List T)(i:Nat)(t:T)(st:T×T):gl (T×T):=(tw (jG M ts i t none)).bind λb=>match tc (jG M ts i t (some (false,if b=true then st.2 else st.1)))with
 |.ok false=>(mv (jG M ts i t none)).bind λv=>(mk (jG M ts i t none)).bind λk=>match iR k.2,(if b=true then st.2 else st.1)with|some key,.dct ks us=>if ks.length<sizeLine then .ok (if b=true then(st.1,uQ ks us key v.2)else(uQ ks us key v.2,st.2))else .bad|_,_=>.bad
 |_=>.bad
def w4(M:T)(tw tc:MT)(mk mv:ME)(ts:List T):Nat->List T->T×T->gl (T×T)|_,[],st=>.ok st|i,t::r,st=>(ql M tw tc mk mv ts i t st).bind λst'=>w4 M tw tc mk mv ts (i+1) r st'
mutual def j5:T->List Str|.str x=>[x]|.tup ts=>strsL ts|_=>[]def strsL:List T->List Str|[]=>[]|t::ts=>j5 t++strsL ts end
open Classical in def wg(memo:List Str->Mo)(C0:Addr)(f1 f2:Str)(tw tc:MT)(mk mv:ME):MN:=λrs=>match rs with|[(true,.obj C [] []),(_,.lst ts)]=>if C=C0/\(strsL ts).length<sizeLine then(match w4 (.mem 0 (memo (strsL ts) 0)) tw tc mk mv ts 0 ts (.dct [] [],.dct [] [])with|.ok st=>if∀m,w4 (.mem m (memo (strsL ts) m)) tw tc mk mv ts 0 ts (.dct [] [],.dct [] [])=.ok st then .ok (.obj C [f1,f2] [st.1,st.2])else .bad|_=>.bad)else .bad|_=>.bad
structure jf(K:W.Frag)(B:Bs)(f1 f2:Str)(C a l dk df dx:Addr)(ts:List T)(d1 d2:T)(F:Addr->Prop)(H:Hp):Prop where
 fr:lE B F H
 nA:¬F a
 nk:¬F dk
 nf:¬F df
 ne:dk≠df
 ins:H a=some (.ins C dx [(f1,.ref dk),(f2,.ref df)])bk:B.H dk=none
 bf:B.H df=none
 w1:vw K F H dk d1
 w2:vw K F H df d2
 s1:∃ks us,d1=.dct ks us
 s2:∃ks us,d2=.dct ks us
 pl:Is K F H (.lst ts) (.ref l)
section
variable{K:W.Frag}{B:Bs}{f1 f2:Str}{C a l dk df dx:Addr}{ts:List T}{d1 d2:T}{F F':Addr->Prop}{H H':Hp}
theorem jf.ext(p:jf K B f1 f2 C a l dk df dx ts d1 d2 F H)(x:xN F H F' H'):jf K B f1 f2 C a l dk df dx ts d1 d2 F' H':=by
 have old:∀b,¬F b->H b≠none->¬F' b:=λb n h z=>by
  rcases x.new b z with z|z;·exact n z
  ·exact h z
 exact⟨p.fr.ext x,old a p.nA (by rw[p.ins];intro z;cases z),old dk p.nk p.w1.there,old df p.nf p.w2.there,p.ne,x.same _ _ p.ins,p.bk,p.bf,p.w1.mono x.kept λo q=>x.same _ _ q,p.w2.mono x.kept λo q=>x.same _ _ q,p.s1,p.s2,p.pl.mono x.kept⟩
theorem jf.put1(p:jf K B f1 f2 C a l dk df dx ts d1 d2 F H)(e:d1=.dct ks us)(h:H dk=some (.dK kvs))(hk:kvs.map (·.1)=ks)(i:IsAll K F H us (kvs.map (·.2)))(iv:Is K F H t v):jf K B f1 f2 C a l dk df dx ts (uQ ks us k t) d2 F (jm H dk (.dK (ka kvs k v))):=by
 have kp:gk F F H (jm H dk (.dK (ka kvs k v))):=wT p.nk h (.inr (.inl ⟨_,rfl⟩));have na:a≠dk:=ij p.ins h (by intro z;cases z);refine⟨⟨λb f=>?_,p.fr.sub,p.fr.new,λb o hb hm=>?_,p.fr.f0⟩,p.nA,p.nk,p.nf,p.ne,by rw[zh na];exact p.ins,p.bk,p.bf,ot hk i iv kp zF,p.w2.mono kp λo q=>by rw[zh (Ne.symm p.ne)];exact q,?_,p.s2,p.pl.mono kp⟩
 ·have:b≠dk:=by rintro rfl;exact p.nk f
  rw[zh this];exact p.fr.dom b f
 ·have:b≠dk:=by rintro rfl;rw[p.bk]at hb;cases hb
  rw[zh this];exact p.fr.keep b o hb hm
 ·unfold uQ;split;·exact⟨_,_,rfl⟩
  ·exact⟨_,_,rfl⟩
theorem jf.put2(p:jf K B f1 f2 C a l dk df dx ts d1 d2 F H)(e:d2=.dct ks us)(h:H df=some (.dK kvs))(hk:kvs.map (·.1)=ks)(i:IsAll K F H us (kvs.map (·.2)))(iv:Is K F H t v):jf K B f1 f2 C a l dk df dx ts d1 (uQ ks us k t) F (jm H df (.dK (ka kvs k v))):=by
 have kp:gk F F H (jm H df (.dK (ka kvs k v))):=wT p.nf h (.inr (.inl ⟨_,rfl⟩));have na:a≠df:=ij p.ins h (by intro z;cases z);refine⟨⟨λb f=>?_,p.fr.sub,p.fr.new,λb o hb hm=>?_,p.fr.f0⟩,p.nA,p.nk,p.nf,p.ne,by rw[zh na];exact p.ins,p.bk,p.bf,p.w1.mono kp λo q=>by rw[zh p.ne];exact q,ot hk i iv kp zF,p.s1,?_,p.pl.mono kp⟩
 ·have:b≠df:=by rintro rfl;exact p.nf f
  rw[zh this];exact p.fr.dom b f
 ·have:b≠df:=by rintro rfl;rw[p.bf]at hb;cases hb
  rw[zh this];exact p.fr.keep b o hb hm
 ·unfold uQ;split;·exact⟨_,_,rfl⟩
  ·exact⟨_,_,rfl⟩
theorem Ma(h:Is K F H t v)(e:iR t=some k):v=kV k:=Gj (fr:=λ_=>True) (jD h) e
theorem xN.less(nb:¬F b)(hb:H b≠none)(x:xN (λc=>F c\/c=b) H F' H'):xN F H (λc=>F' c/\c≠b) H':=by
 refine⟨x.same,λc h=>⟨x.sub c (.inl h),λz=>nb (z▸h)⟩,λc h=>?_,λc h=>x.dom c h.1⟩;rcases x.new c h.1 with(z|z)|z;·exact .inl z
 ·exact absurd z h.2
 ·exact .inr z
theorem gL(dm:dN F H)(pl:Is K F H (.lst ts) (.ref l))(pm:Is K F H M (.ref mm))(iy:Is K F H t y)(s1:σ[1]?=some (some (.ref l)))(sm:σ[2]?=some (some (.ref mm)))(s2:σ[3]?=some (some (.int i)))(s3:σ[4]?=some (some y))(hd:∀r,d=some r->∃v,σ[5]?=some (some v)/\Is K F H r.2 v):ky K F H σ (jG M ts i t d):=by refine⟨dm,λj r h=>?_⟩;unfold jG at h;match j,h with|0,h=>simp at h|1,h=>simp at h;subst h;exact⟨_,s1,pl⟩|2,h=>simp at h;subst h;exact⟨_,sm,pm⟩|3,h=>simp at h;subst h;exact⟨_,s2,xm⟩|4,h=>simp at h;subst h;exact⟨_,s3,iy⟩|5,h=>simp at h;exact hd r h|n+6,h=>simp at h
end
def Mb{f1 f2:Str}{x y:V}(hf:f1≠f2):List.lookup f2 [(f1,x),(f2,y)]=some y:=by
 have h:(f2==f1)=false:=by simpa using Ne.symm hf
 rw[List.lookup_cons,h,List.lookup_cons,beq_self_eq_true]
def Mc{f1 f2:Str}{x y:V}:List.lookup f1 [(f1,x),(f2,y)]=some x:=by rw[List.lookup_cons,beq_self_eq_true]
section
variable{X:Cx}{f1 f2:Str}{cw cc ek ev:Expr}{tw tc:MT}{mk mv:ME}{C:Addr}{rs:List Stmt}{p1 p2 p3 p4 p5 p6 p7 p8 p9 q1 q2 q3 q4 q5 q6 q7 q8 q9 r1 r2 r3 r4 r5 r6 r7 r8 r9 s1 s2 s3:Pos}{kt:Nat}
theorem eC{α β:Type}{m:gl α}{f:α->gl β}{r:β}(h:m.bind f=.ok r):∃a,m=.ok a/\f a=.ok r:=by cases m with|ok a=>exact⟨a,rfl,h⟩|exc x=>cases h|bad=>cases h
theorem VQ{M:T}{tw tc:MT}{mk mv:ME}{ts:List T}{i:Nat}{t d1 d2:T}{st':T×T}(hstep:ql M tw tc mk mv ts i t (d1,d2)=.ok st'):∃b rv rk key ks us,tw (jG M ts i t none)=.ok b/\tc (jG M ts i t (some (false,if b=true then d2 else d1)))=.ok false/\mv (jG M ts i t none)=.ok rv/\mk (jG M ts i t none)=.ok rk/\iR rk.2=some key/\(if b=true then d2 else d1)=.dct ks us/\ks.length<sizeLine/\(if b=true then(d1,uQ ks us key rv.2)else(uQ ks us key rv.2,d2))=st':=by
 obtain⟨b2,hb,h⟩:=eC (show(tw _).bind _=_ from hstep);have h:(match tc (jG M ts i t (some (false,if b2=true then d2 else d1)))with
  |.ok false=>(mv (jG M ts i t none)).bind λv=>(mk (jG M ts i t none)).bind λk=>match iR k.2,(if b2=true then d2 else d1)with|some key,.dct ks us=>if ks.length<sizeLine then gl.ok (if b2=true then(d1,uQ ks us key v.2)else(uQ ks us key v.2,d2))else .bad|_,_=>.bad
  |_=>.bad)=.ok st':=h;split at h
 ·rename_i hcc;obtain⟨rv,hmv,h⟩:=eC h;obtain⟨rk,hmk,h⟩:=eC h;split at h
  ·rename_i hkey hd;split at h;·rename_i hl;exact⟨b2,rv,rk,_,_,_,hb,hcc,hmv,hmk,hkey,hd,hl,gl.ok.inj h⟩
   ·cases h
  ·cases h
 ·cases h
theorem wv.two{K:W.Frag}{fr F:Addr->Prop}{H:Hp}{r1 r2:RV}{vs:List V}(h:wv K fr F H vs [r1,r2]):∃va vl,vs=[va,vl]:=by cases vs with|nil=>exact h.elim|cons a t=>cases t with|nil=>exact h.2.1.elim|cons b u=>cases u with|nil=>exact⟨a,b,rfl⟩|cons c x=>exact h.2.1.2.1.elim
theorem Gy{memo:List Str->Mo}{C0:Addr}{f1 f2:Str}{tw tc:MT}{mk mv:ME}{rs:List RV}(nb:wg memo C0 f1 f2 tw tc mk mv rs≠.bad):∃b ts fin,rs=[(true,.obj C0 [] []),(b,.lst ts)]/\(strsL ts).length<sizeLine/\(∀m,w4 (.mem m (memo (strsL ts) m)) tw tc mk mv ts 0 ts (.dct [] [],.dct [] [])=.ok fin)/\wg memo C0 f1 f2 tw tc mk mv rs=.ok (.obj C0 [f1,f2] [fin.1,fin.2]):=by
 unfold wg at nb⊢;split at nb
 ·split at nb
  ·rename_i hC;obtain⟨rfl,hz⟩:=hC;split at nb
   ·rename_i st hst;split at nb;·rename_i hm;exact⟨_,_,st,rfl,hz,hm,by rw[if_pos ⟨rfl,hz⟩];exact if_pos hm⟩
    ·exact absurd rfl nb
   ·exact absurd rfl nb
  ·exact absurd rfl nb
 ·exact absurd rfl nb
theorem VR{K:W.Frag}{f:Str}{u:TS}{D:tD}{σ:St}{H:Hp}{a C dx:Addr}{fs:List (Str×V)}(h0:σ[0]?=some (some (.ref a)))(hi:H a=some (.ins C dx fs))(cl:lz K C)(n:xA K C f)(hl:fs.length<1000)(k:∀p,H p=none->a≠p->u D σ (jm (jm H p (.dK [])) a (.ins C dx (kM f (.ref p) fs)))):ly (QO K (k8 0) bP f) u D σ H:=λp hp=>have hap:a≠p:=zC hi hp;⟨.ref a,h0,a,C,dx,fs,rfl,by rw[zh hap];exact hi,cl,n,hl,k p hp hap⟩
section
variable{M:T}{B:Bs}{a l mm dk df dx:Addr}{ts:List T}{d1 d2 t d:T}{F:Addr->Prop}{H:Hp}{tw' tc':TT}{tk' tv':TE}{i:Nat}{y:V}{D:tD}{o2 o3 o4:Option V}{st' fin:T×T}
theorem oJ(sc:kN X tc' tc)(sk:wq X tk' mk)(sv:wq X tv' mv)(P4:jf X.K B f1 f2 C a l dk df dx ts d1 d2 F H)(pm4:Is X.K F H M (.ref mm))(iy4:Is X.K F H t y)(hcc:tc (jG M ts i t (some (false,d)))=.ok false)(hmv:mv (jG M ts i t none)=.ok rv)(hmk:mk (jG M ts i t none)=.ok rk)(hkey:iR rk.2=some key)(ntd:¬F td)(wtd:vw X.K F H td d)(put:∀F6 H6 v,jf X.K B f1 f2 C a l dk df dx ts d1 d2 F6 H6->Is X.K F6 H6 M (.ref mm)->Is X.K F6 H6 rv.2 v->∃kvs,H6 td=some (.dK kvs)/\kvs.length<sizeLine/\D.nx [some (.ref a),some (.ref l),some (.ref mm),some (.int i),some y,some (.ref td)] (jm H6 td (.dK (ka kvs key v)))):ly (WP tc' nR tH) (tR (k8 5) tk' tv') D [some (.ref a),some (.ref l),some (.ref mm),some (.int i),some y,some (.ref td)] H:=by
 have kz:gk F (λc=>F c\/c=td) H H:=⟨λ_ h=>.inl h,λ_ _ _ h=>h,λ_ _ h _ _=>h⟩;refine sc (λc=>F c\/c=td) H _ (jG M ts i t (some (false,d))) _ (gL (λc h=>?_) (P4.pl.mono kz) (pm4.mono kz) (iy4.mono kz) rfl rfl rfl rfl λr z=>?_) (by rw[hcc];intro z;cases z) (λb' eb F5 H5 x5=>?_) λx z=>by rw[hcc]at z;cases z
 ·rcases h with h|rfl;·exact P4.fr.dom c h
  ·exact wtd.there
 ·cases z;exact⟨_,rfl,wtd.is (λ_ h=>.inl h) (.inr rfl)⟩
 rw[hcc]at eb;cases eb;rw[if_neg Bool.false_ne_true];have x5':=x5.less ntd wtd.there;have P5:=P4.ext x5';have iy5:=iy4.mono x5'.kept;have pm5:=pm4.mono x5'.kept;refine sv.val (env:=jG M ts i t none) (gL P5.fr.dom P5.pl pm5 iy5 rfl rfl rfl rfl λr z=>by cases z) (by rw[hmv];intro z;cases z) (λr er v F6 H6 x6 i6=>?_) λx z=>by rw[hmv]at z;cases z
 rw[hmv]at er;cases er;have P6:=P5.ext x6;have iy6:=iy5.mono x6.kept;have pm6:=pm5.mono x6.kept;refine⟨.ref td,rfl,?_⟩;refine sk.val (env:=jG M ts i t none) (gL P6.fr.dom P6.pl pm6 iy6 rfl rfl rfl rfl λr z=>by cases z) (by rw[hmk];intro z;cases z) (λr er kv F7 H7 x7 i7=>?_) λx z=>by rw[hmk]at z;cases z
 rw[hmk]at er;cases er;obtain⟨kvs,hkv,hlen',P8⟩:=put F7 H7 v (P6.ext x7) (pm6.mono x7.kept) (i6.mono x7.kept);refine⟨td,_,rfl,?_,P8⟩;rw[Ma i7 hkey];exact Xv.k hkv hlen'
theorem VS(sw:kN X tw' tw)(sc:kN X tc' tc)(sk:wq X tk' mk)(sv:wq X tv' mv)(cl:lz X.K C)(n1:xA X.K C f1)(n2:xA X.K C f2)(hf:f1≠f2)(P3:jf X.K B f1 f2 C a l dk df dx ts d1 d2 F H)(pm:Is X.K F H M (.ref mm))(iy:Is X.K F H t y)(hstep:ql M tw tc mk mv ts i t (d1,d2)=.ok st')(nx:∀F' H' o4,jf X.K B f1 f2 C a l dk df dx ts st'.1 st'.2 F' H'->Is X.K F' H' M (.ref mm)->D.nx [some (.ref a),some (.ref l),some (.ref mm),some (.int i),some y,o4] H'):ly (tJ (HE tw' (ZF X.K (k8 0) f2) (ZF X.K (k8 0) f1)) (gf 5)) (ly (WP tc' nR tH) (tR (k8 5) tk' tv')) D [some (.ref a),some (.ref l),some (.ref mm),some (.int i),some y,o4] H:=by
 obtain⟨b2,rv,rk,key,ks,us,hb,hcc,hmv,hmk,hkey,hd,hlen,rfl⟩:=VQ hstep;refine sw F H _ (jG M ts i t none) _ (gL P3.fr.dom P3.pl pm iy rfl rfl rfl rfl λr z=>by cases z) (by rw[hb];intro z;cases z) (λb' eb F4 H4 x4=>?_) λx z=>by rw[hb]at z;cases z
 rw[hb]at eb;cases eb;have P4:=P3.ext x4;have iy4:=iy.mono x4.kept;have pm4:=pm.mono x4.kept;cases b2 with|true=>rw[if_pos rfl]at hd hcc nx⊢;subst hd;refine⟨.ref a,rfl,a,C,dx,_,.ref df,rfl,P4.ins,cl,n2,Mb hf,?_⟩;refine oJ sc sk sv P4 pm4 iy4 hcc hmv hmk hkey P4.nf P4.w2 λF6 H6 v P6 pm6 iv=>?_;obtain⟨kvs,hkv,hks,iw⟩:=P6.w2;exact⟨kvs,hkv,by rw[<-hks,List.length_map]at hlen;exact hlen,nx F6 _ _ (P6.put2 rfl hkv hks iw iv) (pm6.mono (wT P6.nf hkv (.inr (.inl ⟨_,rfl⟩))))⟩|false=>rw[if_neg Bool.false_ne_true]at hd hcc nx⊢;subst hd;refine⟨.ref a,rfl,a,C,dx,_,.ref dk,rfl,P4.ins,cl,n1,Mc,?_⟩;refine oJ sc sk sv P4 pm4 iy4 hcc hmv hmk hkey P4.nk P4.w1 λF6 H6 v P6 pm6 iv=>?_;obtain⟨kvs,hkv,hks,iw⟩:=P6.w1;exact⟨kvs,hkv,by rw[<-hks,List.length_map]at hlen;exact hlen,nx F6 _ _ (P6.put1 rfl hkv hks iw iv) (pm6.mono (wT P6.nk hkv (.inr (.inl ⟨_,rfl⟩))))⟩
theorem VT(P:jf X.K B f1 f2 C a l dk df dx ts d1 d2 F H):∃us,G5 X.K F H l us/\IsAll X.K F H ts us:=by have:=P.pl;unfold Is at this;obtain⟨a',us,e,g1,g2⟩:=this;cases e;exact⟨us,g1,g2⟩
theorem VU(sw:kN X tw' tw)(sc:kN X tc' tc)(sk:wq X tk' mk)(sv:wq X tv' mv)(cl:lz X.K C)(n1:xA X.K C f1)(n2:xA X.K C f2)(hf:f1≠f2)(P0:jf X.K B f1 f2 C a l dk df dx ts (.dct [] []) (.dct [] []) F H)(pm0:Is X.K F H M (.ref mm))(hfin:w4 M tw tc mk mv ts 0 ts (.dct [] [],.dct [] [])=.ok fin)(nx:∀F' H' σ,jf X.K B f1 f2 C a l dk df dx ts fin.1 fin.2 F' H'->D.nx σ H'):Nj (VM X.K (k8 1)) (Nc X.K 2 (tI (gf 3) (tI (gf 4) Nb))) (ly (tJ (HE tw' (ZF X.K (k8 0) f2) (ZF X.K (k8 0) f1)) (gf 5)) (ly (WP tc' nR tH) (tR (k8 5) tk' tv'))) D [some (.ref a),some (.ref l),some (.ref mm),none,none,none] H:=by
 obtain⟨us0,hus0,_⟩:=VT P0;refine⟨.ref l,rfl,l,rfl,⟨us0,hus0.sq⟩,?_⟩;refine⟨λi m σ H=>m=ts.length-i/\i<=ts.length/\∃F d1 d2 o2 o3 o4,σ=[some (.ref a),some (.ref l),some (.ref mm),o2,o3,o4]/\jf X.K B f1 f2 C a l dk df dx ts d1 d2 F H/\Is X.K F H M (.ref mm)/\w4 M tw tc mk mv ts i (ts.drop i) (d1,d2)=.ok fin,⟨ts.length,by simp,Nat.zero_le _,F,_,_,none,none,none,rfl,P0,pm0,by simpa using hfin⟩,?_⟩;rintro i m σ H2⟨rfl,hi,F2,d1,d2,o2,o3,o4,rfl,P2,pm2,hrun⟩;obtain⟨us,hus,ius⟩:=VT P2;by_cases hlt:i<ts.length;·refine .inr ⟨⟨us,us[i]'(by rw[<-ius.len];exact hlt),hus.sq,by simp⟩,λσ H=>∃F d1 d2 o2 o3 o4,σ=[some (.ref a),some (.ref l),some (.ref mm),o2,o3,o4]/\jf X.K B f1 f2 C a l dk df dx ts d1 d2 F H/\Is X.K F H M (.ref mm)/\w4 M tw tc mk mv ts (i+1) (ts.drop (i+1)) (d1,d2)=.ok fin,λσ' H' n=>⟨ts.length-(i+1),by omega,rfl,hlt,n⟩,?_⟩;rintro x H3⟨tu,y,htu,rfl,rfl,hy⟩;have hyi:=hy us hus.sq;obtain⟨y',hy',iy0⟩:=ius.get (i:=i) (t:=ts[i]) (by simp[hlt]);rw[hyi]at hy';cases hy';have xa:xN F2 H2 F2 (jm H2 tu (.tup [.int i,y])):=xN.alloc P2.fr.dom htu;refine⟨tu,[.int i,y],rfl,.inl (.inl zF),rfl,.int i,[y],rfl,y,[],rfl,rfl,?_⟩;have hdr:ts.drop i=ts[i]::ts.drop (i+1):=List.drop_eq_getElem_cons hlt;rw[hdr,w4]at hrun;cases hstep:ql M tw tc mk mv ts i ts[i] (d1,d2)with|bad=>rw[hstep]at hrun;cases hrun|exc x=>rw[hstep]at hrun;cases hrun|ok st'=>rw[hstep,bind_ok]at hrun;exact VS sw sc sk sv cl n1 n2 hf (P2.ext xa) (pm2.mono xa.kept) (iy0.mono xa.kept) hstep λF' H' o4 P pm=>⟨F',st'.1,st'.2,_,_,_,rfl,P,pm,hrun⟩
 ·have hli:i=ts.length:=by omega
  subst hli;rw[List.drop_length,w4]at hrun;have hfin2:(d1,d2)=fin:=by injection hrun
  subst hfin2;exact .inl ⟨⟨us,hus.sq,by rw[ius.len];exact Nat.le_refl _⟩,nx F2 H2 _ P2⟩
end
def Jb(memo:List Str->Mo):TE:=λ_ H Q=>∃ks:List Str,ks.length<sizeLine/\∀p,H p=none->Q (.ref p) (jm H p (.ext (memo ks p)))
theorem XV{memo:List Str->Mo}{tw' tc':TT}{tk' tv':TE}{b:Bool}{ts:List T}{fin:T×T}{F:Addr->Prop}{H:Hp}{va vl:V}{Q:VK}(sw:kN X tw' tw)(sc:kN X tc' tc)(sk:wq X tk' mk)(sv:wq X tv' mv)(cl:lz X.K C)(n1:xA X.K C f1)(n2:xA X.K C f2)(hf:f1≠f2)(hN:X.N=[("self":Str),("pieces":Str),("looked":Str),("at":Str),("piece":Str),("told":Str)])(dm:dN F H)(ir:wv X.K (λ_=>True) F H [va,vl] [(true,.obj C [] []),(b,.lst ts)])(hz:(strsL ts).length<sizeLine)(hfin:∀m,w4 (.mem m (memo (strsL ts) m)) tw tc mk mv ts 0 ts (.dct [] [],.dct [] [])=.ok fin)(ok:∀a F' H',[va,vl][0]?=some (.ref a)->lE ⟨hI [va,vl] [(true,.obj C [] []),(b,.lst ts)],H,F⟩ F' H'->¬F' a->vw X.K F' H' a (.obj C [f1,f2] [fin.1,fin.2])->Q .non H'):ly (QO X.K (k8 0) bP f1) (ly (QO X.K (k8 0) bP f2) (ly (tJ (Jb memo) (gf 2)) (Nj (VM X.K (k8 1)) (Nc X.K 2 (tI (gf 3) (tI (gf 4) Nb))) (ly (tJ (HE tw' (ZF X.K (k8 0) f2) (ZF X.K (k8 0) f1)) (gf 5)) (ly (WP tc' nR tH) (tR (k8 5) tk' tv')))))) {nx:=λ_ H'=>Q .non H',rt:=Q} (start X.N [va,vl]) H:=by
 have ir0:=ir;obtain⟨ia,⟨il,_,_⟩,sep⟩:=ir;obtain⟨a,rfl,nFa,_,hHa,wa⟩:=ia.there rfl;obtain⟨dx,fvs,hins,hk0,_⟩:=wa;have hfv:fvs=[]:=by simpa using hk0
 subst hfv--the list,frozen
 have hfz:∃F0:Addr->Prop,∃l,vl=.ref l/\(∀c,F c->F0 c)/\(∀c,F0 c->F c\/(c=l/\b=true/\H c≠none))/\¬F0 a/\Is X.K F0 H (.lst ts) (.ref l):=by cases b with|false=>have il:=il.is;obtain⟨l,us,e,_⟩:=(show∃a vs,vl=.ref a/\_ by unfold Is at il;exact il);subst e;exact⟨F,l,rfl,λ_ h=>h,λ_ h=>.inl h,nFa,il⟩|true=>
   obtain⟨l,rfl,nFl,_,hHl,wl⟩:=il.there rfl;refine⟨λc=>F c\/c=l,l,rfl,λ_ h=>.inl h,λc h=>?_,λz=>?_,wl.is (λ_ h=>.inl h) (.inr rfl)⟩
   ·rcases h with h|rfl;·exact .inl h
    ·exact .inr ⟨rfl,rfl,hHl⟩
   ·rcases z with z|rfl;·exact nFa z
    ·exact sep rfl 0 (true,.lst ts) rfl rfl rfl
 obtain⟨F0,l,rfl,sub0,new0,nF0a,il0⟩:=hfz;have dm0:dN F0 H:=λc h=>by
  rcases new0 c h with h|h;·exact dm c h
  ·exact h.2.2
 generalize hB:(⟨hI [V.ref a,V.ref l] [(true,T.obj C [] []),(b,T.lst ts)],H,F⟩:Bs)=B at ok;have fr0:lE B F0 H:=by
  subst hB;refine⟨dm0,λc h=>sub0 c h,λc h=>?_,λc o h _=>h,λc f z=>?_⟩
  ·rcases new0 c h with h|⟨rfl,hb,_⟩;·exact .inl h
   ·exact .inr (.inr ⟨1,(b,T.lst ts),rfl,hb,rfl⟩)
  ·exact(wY ir0 z).1 f
 have bH:B.H=H:=by rw[<-hB]
 have hMa:B.M a:=by rw[<-hB];exact⟨0,(true,T.obj C [] []),rfl,rfl,rfl⟩
 have hst:start X.N [V.ref a,V.ref l]=[some (.ref a),some (.ref l),none,none,none,none]:=by rw[hN];rfl
 rw[hst];refine VR rfl hins cl n1 ↑v λdk hdk hak=>?_;refine VR rfl zF cl n2 (by simp[kM]) λdf hdf hadf=>?_;have hkf:dk≠df:=by rintro rfl;rw[zh (Ne.symm hak),zF]at hdf;cases hdf
 have hdf0:H df=none:=by rw[zh (Ne.symm hadf),zh (Ne.symm hkf)]at hdf;exact hdf--the loop
 have P0:jf X.K B f1 f2 C a l dk df dx ts (.dct [] []) (.dct [] []) F0 (jm (jm (jm (jm H dk (.dK [])) a (.ins C dx (kM f1 (.ref dk) []))) df (.dK [])) a (.ins C dx (kM f2 (.ref df) (kM f1 (.ref dk) [])))):=by
  have nk:¬F0 dk:=λz=>dm0 dk z hdk;have nf:¬F0 df:=λz=>dm0 df z hdf0;have kp:gk F0 F0 H (jm (jm (jm (jm H dk (.dK [])) a (.ins C dx (kM f1 (.ref dk) []))) df (.dK [])) a (.ins C dx (kM f2 (.ref df) (kM f1 (.ref dk) [])))):=by
   refine⟨λ_ h=>h,λc o f h=>?_,λc o h h1 h2=>?_⟩
   ·have n1:c≠a:=by rintro rfl;exact nF0a f
    have n2:c≠dk:=by rintro rfl;exact nk f
    have n3:c≠df:=by rintro rfl;exact nf f
    rw[zh n1,zh n3,zh n1,zh n2];exact h
   ·have n1:c≠a:=by rintro rfl;rw[hins]at h;cases h;exact h2.2 _ _ _ rfl
    rw[zh n1,zh (zC h hdf0),zh n1,zh (zC h hdk)];exact h
  refine⟨⟨λc f=>?_,fr0.sub,fr0.new,λc o h hm=>?_,fr0.f0⟩,nF0a,nk,nf,hkf,?_,by rw[bH];exact hdk,by rw[bH];exact hdf0,⟨[],?_,rfl,IsAll.nil⟩,⟨[],?_,rfl,IsAll.nil⟩,⟨_,_,rfl⟩,⟨_,_,rfl⟩,il0.mono kp⟩;·cases hc0:H c with|none=>exact absurd hc0 (dm0 c f)|some o=>rw[kp.fz c o f hc0];intro z;cases z
  ·rw[bH]at h;have n1:c≠a:=by rintro rfl;exact hm hMa
   rw[zh n1,zh (zC h hdf0),zh n1,zh (zC h hdk)];exact h
  ·rw[zF];simp[kM,hf]
  ·rw[zh (Ne.symm hak),zh hkf,zh (Ne.symm hak),zF]
  ·rw[zh (Ne.symm hadf),zF]
 refine⟨strsL ts,hz,λmm hmm=>?_⟩;refine VU sw sc sk sv cl n1 n2 hf (P0.ext (xN.alloc P0.fr.dom hmm)) (by unfold Is;exact⟨rfl,zF⟩) (hfin mm) λF2 H2 σ P2=>?_;refine ok a (λc=>(F2 c\/c=dk)\/c=df) H2 rfl ⟨λc h=>?_,λc h=>.inl (.inl (P2.fr.sub c h)),λc h=>?_,P2.fr.keep,P2.fr.f0⟩ (λz=>?_) ⟨dx,_,P2.ins,rfl,IsAll.cons (P2.w1.is (λc h=>.inl (.inl h)) (.inl (.inr rfl))) (IsAll.cons (P2.w2.is (λc h=>.inl (.inl h)) (.inr rfl)) IsAll.nil)⟩
 ·rcases h with(h|rfl)|rfl;·exact P2.fr.dom c h
  ·exact P2.w1.there
  ·exact P2.w2.there
 ·rcases h with(h|rfl)|rfl;·exact P2.fr.new c h
  ·exact .inr (.inl P2.bk)
  ·exact .inr (.inl P2.bf)
 ·rcases z with(z|rfl)|rfl;·exact P2.nA z
  ·obtain⟨ks,us,e⟩:=P2.s1;have w:=P2.w1;rw[e]at w;obtain⟨kvs,hw,_⟩:=w;rw[P2.ins]at hw;cases hw
  ·obtain⟨ks,us,e⟩:=P2.s2;have w:=P2.w2;rw[e]at w;obtain⟨kvs,hw,_⟩:=w;rw[P2.ins]at hw;cases hw
theorem XW(nd:X.N.Nodup)(hN:X.N=[("self":Str),("pieces":Str),("looked":Str),("at":Str),("piece":Str),("told":Str)])(hc:X.calm=true)(hu:X.A.units+1<cLine)(hp:PassesOwn ↑b X.A X.env X.xe)(cl:lz X.K C)(n1:xA X.K C f1)(n2:xA X.K C f2)(hf:f1≠f2)(hg:Gl X "enumerate")(hm:X.mg "enumerate"=none)(v0:WB X.env.scope "self")(v1:WB X.env.scope "pieces")(v4:WB X.env.scope "told")(lm:tm X.env.scope "looked")(l2:tm X.env.scope "at")(l3:tm X.env.scope "piece")(l4:tm X.env.scope "told")(fnm:X.fn "looked"=true\/X.env.scope.names.lookup ("looked":Str)=some NameKind.local)(fn2:X.fn "at"=true\/X.env.scope.names.lookup ("at":Str)=some NameKind.local)(fn3:X.fn "piece"=true\/X.env.scope.names.lookup ("piece":Str)=some NameKind.local)(fn4:X.fn "told"=true\/X.env.scope.names.lookup ("told":Str)=some NameKind.local)(hmo:∀p:Pos,PE X (.Dict [] [] p) (Jb memo))(hw:o9 X cw tw)(hcc:o9 X cc tc)(hk:jK X ek mk)(hv:jK X ev mv)(hs1:swapsWith (.Dict [] [] p1) (some (.Attribute (.Name "self" p2) f1 p3)) p4.line X.env=pure false:=by rfl)(hs2:swapsWith (.Dict [] [] q1) (some (.Attribute (.Name "self" q2) f2 q3)) q4.line X.env=pure false:=by rfl)(hb1:attributeBase (.Name "self" r1) f2 X.env (eval (.Name "self" r1) X.env)=eval (.Name "self" r1) X.env:=by rfl)(hb2:attributeBase (.Name "self" r3) f1 X.env (eval (.Name "self" r3) X.env)=eval (.Name "self" r3) X.env:=by rfl)(hs3:swapsWith (.IfExp cw (.Attribute (.Name "self" r1) f2 r2) (.Attribute (.Name "self" r3) f1 r4) r5) (some (.Name "told" r6)) r7.line X.env=pure false:=by rfl)(hs4:swapsWith ev (some (.Subscript (.Name "told" p7) ek p8)) p9.line X.env=pure false:=by rfl)(hsm:swapsWith (.Dict [] [] s1) (some (.Name "looked" s2)) s3.line X.env=pure false:=by rfl)(hst:starEach [.Name "pieces" q5] X.env=[(false,eval (.Name "pieces" q5) X.env)]:=by rfl)(ha:(assignEach [.Name "at" q7,.Name "piece" q8] X.env).map (·.2)=assign (.Name "at" q7) X.env::(assignEach [.Name "piece" q8] X.env).map (·.2):=by rfl)(ha2:(assignEach [.Name "piece" q8] X.env).map (·.2)=assign (.Name "piece" q8) X.env::(assignEach [] X.env).map (·.2):=by rfl)(ha3:(assignEach [.Name "at" q7,.Name "piece" q8] X.env).length=2:=by rfl)(ha4:(assignEach [.Name "at" q7,.Name "piece" q8] X.env).findIdx? (·.1)=none:=by rfl)(hfs:∀x,foldedSetIterable (.Call (.Name "enumerate" q6) [.Name "pieces" q5] [] q9) X.env x=pure x:=by intro _;rfl):∃t,tE X [.Assign [.Attribute (.Name "self" p2) f1 p3] (.Dict [] [] p1) p4,.Assign [.Attribute (.Name "self" q2) f2 q3] (.Dict [] [] q1) q4,.Assign [.Name "looked" s2] (.Dict [] [] s1) s3,.For (.Tuple [.Name "at" q7,.Name "piece" q8] kt p5) (.Call (.Name "enumerate" q6) [.Name "pieces" q5] [] q9) [.Assign [.Name "told" r6] (.IfExp cw (.Attribute (.Name "self" r1) f2 r2) (.Attribute (.Name "self" r3) f1 r4) r5) r7,.If cc rs [] r8,.Assign [.Subscript (.Name "told" p7) ek p8] ev p9] [] p6] t/\∀vs H Q E,Yq X.K (wg memo C f1 f2 tw tc mk mv) vs H Q E->t {nx:=λ_ H'=>Q .non H',rt:=Q} (start X.N vs) H:=by obtain⟨tw',pw,sw⟩:=hw;obtain⟨tc',pc,sc⟩:=hcc;obtain⟨tk',pk,sk⟩:=hk;obtain⟨tv',pv',sv⟩:=hv;have pself:∀{p:Pos},PE X (.Name "self" p) (k8 0):=λ{p}=>gG (by rw[hN];rfl) v0;have ppieces:∀{p:Pos},PE X (.Name "pieces" p) (k8 1):=λ{p}=>gG (by rw[hN];rfl) v1;have ptold:∀{p:Pos},PE X (.Name "told" p) (k8 5):=λ{p}=>gG (by rw[hN];rfl) v4;refine⟨_,qp (WZ pself tT hs1) (qp (WZ pself tT hs2) (qp (Zw (i:=2) nd (by rw[hN];rfl) lm (hmo _) hsm fnm) (uG (WU hp hc (Gx hg hm ppieces hst) (WS hc (im (uH (i:=3) nd (by rw[hN];rfl) l2 fn2) (im (uH (i:=4) nd (by rw[hN];rfl) l3 fn3) JU ha2) ha) ha3 ha4) (qp (Zw (i:=5) nd (by rw[hN];rfl) l4 (tG pw (ZG pself hb1) (ZG pself hb2)) hs3 fn4) (qp (WQ pc Xl bG) (uG (Y3 hu ptold pk pv' hs4)))) hfs)))),?_⟩;intro vs H Q E h;obtain⟨F,args,dm,ir,nb,ok,hexc⟩:=h;obtain⟨b,ts,fin,rfl,hz,hfin,hok⟩:=Gy nb;obtain⟨va,vl,rfl⟩:=wv.two ir;exact XV sw sc sk sv cl n1 n2 hf hN dm ir hz hfin (ok _ hok)
end
section
variable{P:Program}{w:World}{K:W.Frag}{mg:Str->Option Value}{base:Heap}
theorem oI.ok{C:Addr}{x qual:Str}{st:Stmt}{N ps:List Str}{k:Nat}{g:MN}(F:∃f fd,Zq K "__init__" qual st f fd/\Mk K C f)(hx:mg x=some (.ref C))(S:ze N ps (za st))(hl:∀rs,g rs≠.bad->rs.length=ps.length)(hb:∀(kV doc pm:Value)(an:Option Addr)(cdv ct:Value)(us:List Value),us.length=ps.length->bindArgs (W.fnOf "__init__" qual (xB st) (ju st) (za st) .none kV doc pm an cdv ct) ⟨us,[]⟩=pure (ps.zip us))(hbody:∀(f:Addr)(cdv:Value)(A:Around)(outer:List Env)(s:Shared)(H:Hp)(E:XK),xV k (A.deeper (envOfC qual (za st) s.heap.objs.size f cdv))->∃t,tE (lA (lU P w) P w K mg base N qual (za st) f cdv A outer s H E) (ju st) t/\∀vs H Q E,Yq K g vs H Q E->t {nx:=λ_ H'=>Q .non H',rt:=Q} (start N vs) H):oI P w K mg base (k+1) C x ps g:=by
 obtain⟨f,fd,F,hm⟩:=F;refine⟨f,fd,?_,hm,hx,F.binds hb⟩;obtain⟨oc,od,kV,doc,pm,an,cdv,ct,osl,rfl,lk,hcd⟩:=F.ex;refine tN lk hcd S (λvs H Q E h=>?_) λA outer s H vs Q E hr hsp=>?_;·obtain⟨F,rs,d,ir,nb,_⟩:=h;rw[ir.len];exact hl rs nb
 ·obtain⟨t,p,h⟩:=hbody f cdv A outer s H E hr;exact⟨t,p,h vs H Q E hsp⟩
end
def ah{memo:List Str->Mo}{C:Addr}{f1 f2:Str}{tw tc:MT}{mk mv:ME}{ps:List Str}(h:ps.length=2):∀rs,wg memo C f1 f2 tw tc mk mv rs≠.bad->rs.length=ps.length:=by
 intro rs nb;unfold wg at nb;split at nb;·rw[h];rfl
 ·exact absurd rfl nb
def ke(g:Str->Bool)(ks:List Str)(kvs:List (Key×V)):Prop:=ks.length<sizeLine/\(kvs.map (·.1)).Nodup/\∀p∈kvs,∃x,x∈ks/\p=(Sum.inr x,V.bl (g x))
def memoP(P:Program)(w:World)(g:Str->Bool)(ks:List Str):Mo:=λa h=>∃kvs,ke g ks kvs/\jg P w (λ_=>none) h a (.dK kvs)
def VV[DecidableEq α]:∀{l m:List α},l.Nodup->(∀x∈l,x∈m)->l.length<=m.length|[],m,_,_=>Nat.zero_le _|a::l,m,nd,h=>by have nd:=List.nodup_cons.mp nd;have ha:=h a List.mem_cons_self;have hl:=VV nd.2 λx hx=>(List.mem_erase_of_ne (by rintro rfl;exact nd.1 hx)).mpr (h x ↑av);rw[List.length_erase_of_mem ha]at hl;have:=List.length_pos_of_mem ha;rw[List.length_cons];omega
def ke.len(m:ke g ks kvs):kvs.length<sizeLine:=by
 have:=VV m.2.1 λy hy=>by obtain⟨p,hp,rfl⟩:=List.mem_map.mp hy;obtain⟨x,hx,rfl⟩:=m.2.2 p hp;exact List.mem_map.mpr ⟨x,hx,rfl⟩
 rw[List.length_map,List.length_map]at this;exact Nat.lt_of_le_of_lt this m.1
def ke.val(m:ke g ks kvs)(h:jY kvs (.inr x)=some v):v=.bl (g x):=by unfold jY at h;obtain⟨p,hp,rfl⟩:=Option.map_eq_some_iff.mp h;have h2:=List.find?_some hp;obtain⟨y,hy,rfl⟩:=m.2.2 p (List.mem_of_find?_eq_some hp);have h2:(Sum.inr y:Key)=.inr x:=of_decide_eq_true h2;cases h2;rfl
def ke.put(m:ke g ks kvs)(hx:x∈ks)(h:jY kvs (.inr x)=none):ke g ks (ka kvs (.inr x) (.bl (g x))):=by
 rw[V6 _ h];refine⟨m.1,?_,λp hp=>?_⟩
 ·rw[List.map_append];refine List.nodup_append.mpr ⟨m.2.1,by simp,λy hy z hz=>?_⟩;have:z=.inr x:=by simpa using hz
  rw[this];intro e;exact V9 h (e▸hy)
 ·rcases List.mem_append.mp hp with hp|hp;·exact m.2.2 p hp
  ·exact⟨x,hx,by simpa using hp⟩
def oK(m:ke g ks kvs)(o:jg P w (λ_=>none) h a (.dK kvs))(H':Hp):jg P w H' h a (.ext (memoP P w g ks a)):=by
 refine⟨⟨kvs,m,o⟩,?_,λh1 h2⟨kvs,m,o⟩k=>⟨kvs,m,o.stay (λb u hb q=>?_) (λ_ z=>by cases z) λ_ _ z=>by cases z⟩⟩;·obtain⟨_,_,_,_,ob,_,_,e,_⟩:=o;exact⟨ob,e⟩
 ·rcases hb with rfl|hb;·exact k u q
  ·cases hb
def oM(ok:pN P w H h)(e:H a=some o)(h1:∀b,o≠.own b)(h2:∀xs,o≠.tup xs)(new:∀H',jg P w H' h a u):pN P w (jm H a u) h:=λb q hq=>by
 by_cases hb:b=a;·subst hb;rw[zF]at hq;cases hq;exact new _
 ·rw[zh hb]at hq;refine(ok b q hq).stay (λ_ _ _ z=>z) (λc z=>?_) λc xs z=>?_;·rw[zh (by rintro rfl;rw[e]at z;cases z;exact h1 _ rfl)];exact z
  ·rw[zh (by rintro rfl;rw[e]at z;cases z;exact h2 _ rfl)];exact z
def qc.memo{K:W.Frag}{mg:Str->Option Value}{base:Heap}{k:Nat}{f:Addr}{fd:FuncData}{ps:List Str}{spO sp:Sp}(F:qc P w K mg base (lU P w) k f fd ps spO)(len:∀vs H Q E,sp vs H Q E->vs.length=ps.length)(hs:∀vs H Q E,sp vs H Q E->∃a ks,H a=some (.ext (memoP P w g ks a))/\∀kvs,ke g ks kvs->spO vs (jm H a (.dK kvs)) (λv H'=>∃kvs',ke g ks kvs'/\H' a=some (.dK kvs')/\Q v (jm H' a (.ext (memoP P w g ks a)))) (λ_ _ _=>False)):qc P w K mg base (lU P w) k f fd ps sp:=by
 refine⟨len,λA outer s H args us vs Q E hr e0 hb hv h=>?_⟩;obtain⟨a,ks,ha,hk⟩:=hs vs H Q E h;obtain⟨⟨kvs,m,ok⟩,_,_⟩:=(show jg P w H s.heap a (.ext (memoP P w g ks a))from e0.hok a _ ha);have nn:∀b,H b=none->b≠a:=λb n z=>by rw[z,ha]at n;cases n
 have up:∀b,H b=none->jm H a (.dK kvs) b=none:=λb n=>by rw[zh (nn b n)];exact n
 have e1:tM P w K mg base A outer s (jm H a (.dK kvs)):=⟨e0.frames,e0.mod,λb o q=>⟨(e0.bs b o q).1,up b (e0.bs b o q).2⟩,e0.bsz,e0.funs,λb q=>up b (e0.frf b q),(by rw[zh (ij e0.tab ha (by intro z;cases z))];exact e0.tab),oM e0.hok ha (λ_ z=>by cases z) (λ_ z=>by cases z) (λ_=>ok),e0.bare⟩;refine codeAny_mono (F.run A outer s _ args us vs _ _ hr e1 hb hv (hk kvs m)) λr s' hq=>?_;cases r with|error e=>obtain⟨_,_,_,_,_,_,z⟩:=hq;exact z.elim|ok fl=>cases fl with|next=>exact False.elim hq|brk=>exact False.elim hq|cont=>exact False.elim hq|ret u=>
   obtain⟨v,H',os,br,un,hok,rv,kvs',m',h',q⟩:=hq;refine⟨v,_,os,br,⟨λb o q n hc hx=>un.keep b o q (up b n) hc hx,λb o q n hc hx=>un.slot b o q (up b n) hc hx,λb o q n hx=>?_,un.there,λb xs q=>?_,λb o u q=>?_,λb xs q=>?_⟩,oM hok h' (λ_ z=>by cases z) (λ_ z=>by cases z) (oK m' (hok a _ h')),rv,q⟩;·rw[zh (nn b n)];exact un.free b o q (up b n) hx
   ·have hb:=ij q ha (by intro z;cases z);rw[zh hb];exact un.tups b xs (by rw[zh hb];exact q)
   ·have hb:=ij q ha (by intro z;cases z);rw[zh hb];exact un.frzs b o u (by rw[zh hb];exact q)
   ·have hb:=ij q ha (by intro z;cases z);rw[zh hb];exact un.tbls b xs (by rw[zh hb];exact q)
def VW(hm:memo=memoP X.prog X.w g)(pos:Pos):PE X (.Dict [] [] pos) (Jb memo):=λpins s σ H Q I h=>by subst hm;obtain⟨ks,hl,h⟩:=h;exact wpAny_Dict_empty ⟨.ref s.heap.objs.size,_,I.laid (λ_ _ q=>Heap.get?_push_of_some _ q) ↑e (oK (kvs:=[]) ⟨hl,List.nodup_nil,λp hp=>nomatch hp⟩ (tS s.heap I.big) _),rfl,h _ (I.hok.fresh ↑e)⟩
open Classical in def cQ(memo:List Str->Mo)(f:MF):MF:=λrs=>match rs with|[(_,.mem m o),(_,.str x)]=>if∃ks,o=memo ks m/\x∈ks then(match f [(false,.str x)]with|.ok (false,.bl b)=>.ok (false,.bl b)|_=>.bad)else .bad|_=>.bad
def gOf(f:MF)(x:Str):Bool:=match f [(false,.str x)]with|.ok (_,.bl b)=>b|_=>false
def oO(nb:cQ memo f rs≠.bad):∃b1 b2 m ks x b,rs=[(b1,.mem m (memo ks m)),(b2,.str x)]/\x∈ks/\f [(false,.str x)]=.ok (false,.bl b)/\cQ memo f rs=.ok (false,.bl b):=by
 unfold cQ at nb⊢;split at nb
 ·split at nb
  ·rename_i hc;obtain⟨ks,rfl,hx⟩:=hc;split at nb;·rename_i b hb;exact⟨_,_,_,ks,_,b,rfl,hx,hb,by rw[if_pos ⟨ks,rfl,hx⟩]⟩
   ·exact absurd rfl nb
  ·exact absurd rfl nb
 ·exact absurd rfl nb
def IC(g:Str->Bool)(f:MF):Sp:=λvs H Q _=>∃a x kvs ks,vs=[.ref a,.str x]/\H a=some (.dK kvs)/\ke g ks kvs/\x∈ks/\f [(false,.str x)]=.ok (false,.bl (g x))/\∀H' kvs',ke g ks kvs'->H' a=some (.dK kvs')->(∀c o,c≠a->H c=some o->H' c=some o)->Q (.bl (g x)) H'
def XX(C:x8 X.prog X.w X.K X.mg X.base k "is_kind" ["text"] f)(hr:xV k X.A)(hu:X.A.units+1<cLine)(hN:X.N=[("looked":Str),("text":Str)])(hg:Gl X "is_kind")(v0:WB X.env.scope "looked")(v1:WB X.env.scope "text")(hbm:behindInMarks .NotIn (.Name "looked" p2)=false:=by first|rfl|with_unfolding_all rfl)(hsw:swapsWith (.Call (.Name "is_kind" p7) [.Name "text" p8] [] p9) (some (.Subscript (.Name "looked" p4) (.Name "text" p5) p6)) p10.line X.env=pure false:=by rfl)(he:starEach [.Name "text" p8] X.env=(false,eval (.Name "text" p8) X.env)::starEach [] X.env:=by rfl)(hpl:(backTo p9 (starEach [] X.env)).any (·.1)=false:=by rfl)(hns:V7 (.Name "text" p13):=by first|rfl|exact(λ_ _=>rfl)):∃t,tE X [.If (.Compare (.Name "text" p1) [.NotIn] [.Name "looked" p2] p3) [.Assign [.Subscript (.Name "looked" p4) (.Name "text" p5) p6] (.Call (.Name "is_kind" p7) [.Name "text" p8] [] p9) p10] [] p11,.Return (some (.Subscript (.Name "looked" p12) (.Name "text" p13) p14)) p15] t/\∀vs H Q E,IC g f vs H Q E->t {nx:=λ_ H'=>Q .non H',rt:=Q} (start X.N vs) H:=by obtain⟨fa,fd,F,hm,hk,hb⟩:=C;have pl:∀{p:Pos},PE X (.Name "looked" p) (k8 0):=λ{p}=>gG (by rw[hN];rfl) v0;have pt:∀{p:Pos},PE X (.Name "text" p) (k8 1):=λ{p}=>gG (by rw[hN];rfl) v1;refine⟨_,qp (WQ (WN (Xx hu pt pl) hbm) (uG (Y3 hu pl pt (ow F hr hg hm hk hb (xY pt k9 he)) hsw)) bG) (uG (Zv (QZ hu pl pt hns))),?_⟩;rintro vs H Q E⟨a,x,kvs,ks,rfl,ha,m,hx,hf,q⟩;rw[show start X.N [.ref a,.str x]=[some (.ref a),some (.str x)]from by rw[hN];rfl];refine⟨.str x,rfl,.ref a,rfl,a,jY kvs (.inr x),rfl,uM.k (k:=.inr x) ha,?_⟩;cases hv:jY kvs (.inr x)with|some v=>refine⟨_,rfl,?_⟩;refine⟨.ref a,rfl,.str x,rfl,a,v,rfl,hv▸uM.k (k:=.inr x) ha,?_⟩;rw[m.val hv];exact q H kvs m ha λc o _ h=>h|none=>
  refine⟨_,rfl,?_⟩;refine⟨.str x,rfl,λ_ _ _=>False,⟨λ_=>False,[(false,.str x)],λ_ h=>h.elim,⟨jD kO,trivial,λz=>by cases z⟩,(by rw[hf];intro z;cases z),λr er v F' H1 rr=>?_,λx ex=>by rw[hf]at ex;cases ex⟩,λ_ _ _ z=>z.elim⟩;rw[hf]at er;cases er;have hvv:=rr.val.is;unfold Is at hvv;subst hvv;have kp:∀c o,H c=some o->H1 c=some o:=λc o h=>rr.fr.keep c o h λ⟨i,r,e,ho,_⟩=>by cases i with|zero=>simp at e;subst e;cases ho|succ i=>simp at e
  refine⟨.ref a,rfl,.str x,rfl,a,_,rfl,Xv.k (k:=.inr x) (kp _ _ ha) m.len,?_⟩;have hd:=uM.k (k:=.inr x) (zF (H:=H1) (a:=a) (o:=.dK (ka kvs (.inr x) (.bl (g x)))));rw[V5,if_pos rfl]at hd;exact⟨.ref a,rfl,.str x,rfl,a,_,rfl,hd,q _ _ (m.put hx hv) zF λc o hc h=>by rw[zh hc];exact kp c o h⟩
section
variable{P:Program}{w:World}{K:W.Frag}{mg:Str->Option Value}{base:Heap}
theorem Gz{memo:List Str->Mo}{f:MF}{x:Str}{st:Stmt}{N ps:List Str}{k:Nat}(hm:memo=memoP P w (gOf f))(hps:ps.length=2)(F:zM K mg x st)(S:ze N ps (za st))(hb:∀(kV doc pm:Value)(an:Option Addr)(cdv ct:Value)(us:List Value),us.length=ps.length->bindArgs (W.fnOf x x (xB st) (ju st) (za st) .none kV doc pm an cdv ct) ⟨us,[]⟩=pure (ps.zip us))(hbody:∀(fa:Addr)(cdv:Value)(A:Around)(outer:List Env)(s:Shared)(H:Hp)(E:XK),xV k (A.deeper (envOfC x (za st) s.heap.objs.size fa cdv))->∃t,tE (lA (lU P w) P w K mg base N x (za st) fa cdv A outer s H E) (ju st) t/\∀vs H Q E,IC (gOf f) f vs H Q E->t {nx:=λ_ H'=>Q .non H',rt:=Q} (start N vs) H):x8 P w K mg base (k+1) x ps (cQ memo f):=by
 subst hm;obtain⟨fa,fd,F,e⟩:=F;refine⟨fa,fd,?_,e,F.kp,F.binds hb⟩;obtain⟨oc,od,kV,doc,pm,an,cdv,ct,osl,rfl,lk,hcd⟩:=F.ex;refine qc.memo (g:=gOf f) (spO:=IC (gOf f) f) (tN lk hcd S (λvs H Q E h=>?_) λA outer s H vs Q E hr hsp=>?_) (λvs H Q E h=>?_) λvs H Q E h=>?_;·obtain⟨a,x,kvs,ks,rfl,_⟩:=h;exact hps.symm
 ·obtain⟨t,p,h⟩:=hbody fa cdv A outer s H E hr;exact⟨t,p,h vs H Q E hsp⟩
 ·obtain⟨Fz,rs,d,ir,nb,_⟩:=h;obtain⟨_,_,_,_,_,_,rfl,_⟩:=oO nb;rw[ir.len,hps];rfl
 ·obtain⟨Fz,rs,d,ir,nb,ok,_⟩:=h;obtain⟨b1,b2,a,ks,x,b,rfl,hx,hf,hok⟩:=oO nb;obtain⟨v1,v2,rfl⟩:=wv.two ir;have f0:=λc(fc:Fz c)z=>(wY ir z).1 fc;obtain⟨i1,⟨i2,_,_⟩,_⟩:=ir;have i1:Is K Fz H (.mem a (memoP P w (gOf f) ks a)) v1:=by cases b1 with|false=>exact i1.is|true=>obtain⟨_,_,_,_,_,z⟩:=i1.there rfl;exact z.elim
  have i2:Is K Fz H (.str x) v2:=by cases b2 with|false=>exact i2.is|true=>obtain⟨_,_,_,_,_,z⟩:=i2.there rfl;exact z.elim
  unfold Is at i1 i2;obtain⟨rfl,ha⟩:=i1;subst i2;have hgb:gOf f x=b:=by unfold gOf;rw[hf]
  subst hgb;refine⟨a,ks,ha,λkvs m=>⟨a,x,kvs,ks,rfl,zF,m,hx,hf,λH' kvs' m' h' kp=>⟨kvs',m',h',ok _ hok _ Fz _ ⟨⟨λc fc=>?_,λ_ h=>h,λ_ h=>.inl h,λc o hc _=>?_,f0⟩,jD jZ⟩⟩⟩⟩
  ·by_cases e:c=a;·subst e;rw[zF];intro z;cases z
   ·cases hc:H c with|none=>exact absurd hc (d c fc)|some o=>rw[zh e,kp c o e (by rw[zh e];exact hc)];intro z;cases z
  ·by_cases e:c=a;·subst e;rw[zF,<-ha];exact hc
   ·rw[zh e];exact kp c o e (by rw[zh e];exact hc)
end
def GA(a b:String):Bool:=a==b||(a=="bool"&&b=="int")
def Md:List String:=["bool","int","str","tuple","list","dict"]
def GB{K:W.Frag}{t:T}{a b:String}(ha:ox t=some a)(hb:b∈Md):W.kitOne K (.type a) (.type b)=some (GA a b):=by cases t<;>simp only[ox,Option.some.injEq,reduceCtorEq]at ha<;>subst ha<;>simp only[Md,List.mem_cons,List.not_mem_nil,or_false]at hb<;>rcases hb with rfl|rfl|rfl|rfl|rfl|rfl<;>first|rfl|decide|(unfold W.kitOne W.kitCls;rfl)|(unfold W.kitOne W.kitCls;simp;decide+kernel)
def VX:List T->Option RV
 |[t,.ty n]=>match ox t with|some m=>if n∈Md then some (false,.bl (GA m n))else none|none=>none
 |_=>none
def GC:vo X (.builtin "isinstance") (t8 X.K VX):=by intro pins s σ H xs us Q I r h;obtain⟨F,ts,rv,d,ia,e,q⟩:=h;match ts,e with|[t,.ty n],e=>obtain⟨v,w,rfl,g1,g2⟩:=J1 ia;unfold Is at g2;subst g2;simp only[VX]at e;cases hm:ox t with|none=>rw[hm]at e;cases e|some m=>
  rw[hm]at e;dsimp only at e;split at e<;>cases e;rename_i hn;have qt:Q (.bl (GA m n)) H:=xE d jZ q rfl;obtain⟨u,u2,rfl,ru,ru2⟩:=WW r;cases ru2;have kt:=GB (K:=X.K) hm hn;have fin:uJ X.K H v (.type m)->wpAny ↑b X.A (call (.builtin "isinstance") [u,.type n]) ↑aK X.xe s:=λht=>cz I ru ht kt λtk=>⟨.bl (GA m n),H,I.tok _,rfl,qt⟩;cases t<;>unfold Is at g1<;>simp only[ox,Option.some.injEq,reduceCtorEq]at hm<;>subst hm;case non=>subst g1;exact fin .non
  case bl=>subst g1;exact fin (.bl _)
  case int=>subst g1;exact fin (.int _)
  case str=>subst g1;exact fin (.str _)
  case lst ts=>obtain⟨a,vs,rfl,g,g2⟩:=g1;cases ru;obtain⟨its,rr,pl,hz⟩:=I.list g.sq;obtain⟨o,ho,hc,n',hd⟩:=pl.isList;exact W.kia_one W.kitx_list I.kIn ⟨o,ho,hc⟩ kt (λz=>nomatch z) λtk=>⟨.bl _,H,I.tok _,rfl,qt⟩
  case tup ts=>obtain⟨a,vs,rfl,g,g2⟩:=g1;cases ru;obtain⟨its,rr,pl,hz⟩:=I.tuple g;obtain⟨o,ho,hc,_⟩:=pl;exact W.kia_one W.kitx_tuple I.kIn ⟨o,ho,hc⟩ kt (λz=>nomatch z) λtk=>⟨.bl _,H,I.tok _,rfl,qt⟩
def EO(K:W.Frag):Sp:=λvs H Q _=>∃a,∃ns:List Int,vs=[.ref a]/\nO K H a (ns.map V.int)/\ns.length<=63/\∀H',Q (.bl true) H'
def Yr{K:W.Frag}{F:Addr->Prop}{H:Hp}:∀(ns:List Int),IsAll K F H (ns.map T.int) (ns.map V.int)|[]=>IsAll.nil|_::ns=>IsAll.cons xm (Yr ns)
section
variable{P:Program}{w:World}{K:W.Frag}{mg:Str->Option Value}{base:Heap}
theorem Zq.ok3{x:Str}{st:Stmt}{f:Addr}{fd:FuncData}{N ps:List Str}{k:Nat}{mb:MS}(F:Zq K x x st f fd)(S:ze N ps (za st))(hbody:∀(cdv:Value)(A:Around)(outer:List Env)(s:Shared)(H:Hp)(E:XK),xV k (A.deeper (envOfC x (za st) s.heap.objs.size f cdv))->nZ (lA (lU P w) P w K mg base N x (za st) f cdv A outer s H E) (ju st) mb):qc P w K mg base (lU P w) (k+1) f fd ps (pX K (zR N.length ps.length mb)):=by obtain⟨oc,od,kV,doc,pm,an,cdv,ct,osl,rfl,lk,hcd⟩:=F.ex;exact tN lk hcd S (λvs H Q E h=>M3 h) λA outer s H vs Q E hr hsp=>Vx hsp (hbody cdv A outer s H E hr)
theorem Me(F:qc P w K mg base (lU P w) k f fd [x] (pX K m))(h:∀ns:List Int,ns.length<=63->m [↑au]=.ok ↑h):qc P w K mg base (lU P w) k f fd [x] (EO K):=by
 refine F.imp λvs H Q E⟨a,ns,hv,hS,hl,q⟩=>?_;subst hv;have hm:=h ns hl;have fin:∀F:Addr->Prop,dN F H->G5 K F H a (ns.map V.int)->pX K m [.ref a] H Q E:=by
  intro F d fz;refine⟨F,[↑au],d,⟨jD ?_,trivial,λz=>by cases z⟩,(by rw[hm];intro z;cases z),λr er v F' H' rr=>?_,λx ex=>(by rw[hm]at ex;cases ex)⟩;·unfold Is;exact⟨a,_,rfl,fz,Yr ns⟩
  ·rw[hm]at er;cases er;have:=rr.val.is;unfold Is at this;rw[this];exact q H'
 rcases hS with(hS|hS)|hS;·exact fin (λb=>b=a) (λb hb=>by rw[hb,hS];intro z;cases z) (.inl ⟨rfl,hS⟩)
 ·exact fin (λ_=>False) (λb hb=>hb.elim) (.inr (.inl hS))
 ·exact fin (λ_=>False) (λb hb=>hb.elim) (.inr (.inr hS))
end
def ID{l:W.OpenLaw}{q:Program}{loose:List Str}{XP:(Str->Option Value)->Heap->Prop}{YP:World->Heap->Prop}{d:DefRec}{K:Params->W.Frag}{x:Str}{k:Nat}{st:Stmt}(hn:l.most=some 63)(hdf:d.params.defaults=[])(hdn:d.name="law")(hr:xV k callerA)(hY:∀(w:World)(h:Heap),YP w h->(K w.params).In h)(hYT:∀(w:World)(h:Heap),YP w h->h.get? tabP=some {cls:=.none,data:=.fields #[]}){c₀:Addr}(hYC:∀(w:World)(h:Heap),YP w h->W.CodeHd h c₀ tabP)(hYN:∀w:World,W.noTabs (K w.params)=true)(hb:∀(kV doc pm:Value)(an:Option Addr)(cdv ct:Value)(u:Value),bindArgs (W.fnOf "law" "law" (xB st) (ju st) (za st) .none kV doc pm an cdv ct) ⟨[u],[]⟩=pure [(x,u)])(F:∀(w:World)(mg:Str->Option Value)(h:Heap),(K w.params).In h->h.Ns mainGlobals mg->zM (K w.params) mg "law" st/\∀(f:Addr)(fd:FuncData),Zq (K w.params) "law" "law" st f fd->∀base:Heap,qc l.prog w (K w.params) mg base (lU l.prog w) k f fd [x] (EO (K w.params))):W.WalkO q loose XP YP l.row.toRowW d [] (λf vs=>PySem.call f vs):=by
 refine L2.walk_of (x:=x) (CX:=λw=>lU l.prog w) (sp:=λw=>EO (K w.params)) hn ↑v hdf hr hY hYT hYC hYN ?_ (λw H a ns hl _ hS=>⟨a,ns,rfl,hS,hl,λ_=>rfl⟩) λw H s e s' z=>by obtain⟨_,_,_,_,_,_,z⟩:=z;exact z
 intro w mg fa h KX G hmg;obtain⟨⟨f,fd,Fl,e⟩,T⟩:=F w mg h KX G;rw[hdn,e]at hmg;cases hmg;refine⟨fd,λs u=>?_,λbase _ _=>T _ fd Fl base⟩;obtain⟨oc,od,kV,doc,pm,an,cdv,ct,osl,rfl,lk,hcd⟩:=Fl.ex;exact .of_eq (hb kV doc pm an cdv ct u)
structure HK(K:W.Frag)(C:Addr):Prop where
 ha:W.findIn K (.ref C) "__class__"=some (some ↑aM)hn:W.specialIn K ↑aM "__get__"=some (some (.builtin "getset_descriptor.__get__"))htk:W.takesIn K ↑aM=some true
 hm:W.mroIn K C (.type "object")=some true
def VY(K:W.Frag)(C C0:Addr)(b:Bool):Prop:=lz K C/\HK K C/\W.kitOne K (.ref C) (.ref C0)=some b
def VZ{K:W.Frag}{C:Addr}:W.kitOne K (.ref C) (.ref C)=some true:=by unfold W.kitOne;rw[if_pos (beq_self_eq_true _)]
def Mf{K:W.Frag}{C C0:Addr}{b:Bool}(d:C≠C0)(h1:W.isClsIn K C0=true)(h2:W.typeIn K (.ref C0)=some (.type "type"))(h3:W.subIn K (.ref C) (.ref C0)=some b):W.kitOne K (.ref C) (.ref C0)=some b:=by
 unfold W.kitOne W.kitCls;have h1:(W.clsIn K C0).isSome=true:=h1;have ne:¬((Value.ref C==Value.ref C0)=true):=λz=>by have:=eq_of_beq z;injection this with e;exact d e
 rw[if_neg ne];dsimp only;rw[h1,h2,if_pos (by rw[beq_self_eq_true];rfl)];exact h3
def Ut(C:Addr):List (Addr×Bool)->Option Bool|[]=>none|p::r=>if p.1=C then some p.2 else Ut C r
def Ys:∀{l:List (Addr×Bool)},Ut C l=some b->(C,b)∈l
 |[],h=>by cases h|p::r,h=>by
  rw[Ut]at h;split at h;·rename_i e;cases h;rw[<-e];exact List.mem_cons_self
  ·exact List.mem_cons_of_mem _ (Ys h)
def cR(tab:List (Addr×Bool))(m:ME):ME:=λenv=>(m env).bind λr=>match r.2 with|.obj C _ _=>(match Ut C tab with|some b=>.ok (false,.bl b)|none=>.bad)|_=>.bad
def Io(C0:Addr)(tab:List (Addr×Bool)):List V->Hp->VK->Prop:=λxs H Q=>∃a C dx fs b,xs=[.ref a,.ref C0]/\H a=some (.ins C dx fs)/\Ut C tab=some b/\Q (.bl b) H
def GD(ht:∀p∈tab,VY X.K p.1 C0 p.2):vo X (.builtin "isinstance") (Io C0 tab):=by intro pins s σ H xs us Q I r h;obtain⟨a,C,dx,fs,b,rfl,hH,hl,q⟩:=h;obtain⟨u,u2,rfl,ru,ru2⟩:=WW r;obtain rfl:u=Value.ref a:=ru;obtain rfl:u2=Value.ref C0:=ru2;obtain⟨c,i,kt⟩:=ht _ (Ys hl);exact cz (x:=.ref a) I rfl (.ins hH c i.ha i.hn i.htk i.hm) kt λtk=>⟨.bl b,H,I.tok _,rfl,q⟩
def Mg(hg:Gl X "isinstance")(hm:X.mg "isinstance"=none)(gx:Gl X x)(hx:X.mg x=some (.ref C0))(ht:∀p∈tab,VY X.K p.1 C0 p.2)(h:jK X e m)(hd:(x==↑t)=false:=by decide)(hs:starEach (e::[.Name x p2]) X.env=↑M::starEach [.Name x p2] X.env:=by rfl)(hs2:starEach [.Name x p2] X.env=(false,eval (.Name x p2) X.env)::starEach [] X.env:=by rfl)(hpl:(backTo pos (starEach [.Name x p2] X.env)).any (·.1)=false:=by rfl):jK X (.Call (.Name "isinstance" p) [e,.Name x p2] [] pos) (cR tab m):=by
 obtain⟨t,pe,se⟩:=h;refine⟨_,tO (GD ht) hg hm pT (xY pe (xY (gH (v:=.ref C0) gx hx rfl hd) k9 hs2) hs) (he:=hs) (hpl:=hpl),?_⟩;intro F H σ env Q R nb ok ex;unfold cR at nb ok ex;refine se.val R ↑d (λr e1 v F1 H1 x1 i1=>?_) λx z=>ex x ↑E;rw[e1,bind_ok]at nb ok;obtain⟨bb,t0⟩:=r;dsimp only at nb ok i1;cases t0<;>dsimp only at nb ok<;>try(exact absurd rfl nb)
 case obj C fs ts=>cases hl:Ut C tab with|none=>rw[hl]at nb;exact absurd rfl nb|some b=>rw[hl]at ok;unfold Is at i1;obtain⟨a,dx,fvs,rfl,f,hH,_,_⟩:=i1;exact⟨a,C,dx,fvs,b,rfl,hH,hl,ok _ rfl _ F1 H1 x1 (jD jZ)⟩
structure IE(K:W.Frag)(C:Addr)(m:Str)(f:Addr):Prop where
 sg:W.specialIn K (.ref C) "__getattribute__"=some (some (.builtin "type.__getattribute__"))rd:W.readsIn K C (.type "type")=true
 fc:W.findCls K (.ref C) (.type "type") m=some (.val (.ref f))kp:W.keepIn K (.ref f)=true
def ze.of{N ps:List Str}{sc:Scope}(h:ze N ps sc:=by exact⟨rfl,rfl,rfl,by decide+kernel,rfl,by decide+kernel,by decide+kernel⟩):ze N ps sc:=h
def jp.of{N:List Str}{fsc scope:Scope}{x:Str}{caps:List Str}{slots:List Nat}(h:jp N fsc scope x caps slots:=by exact⟨rfl,rfl,by decide+kernel,by decide+kernel,rfl,by decide+kernel,by decide+kernel,by decide+kernel,rfl,rfl⟩):jp N fsc scope x caps slots:=h
def zp(hN:X.N.Nodup)(h:jK X e m)(hi:X.N[i]?=some x:=by rfl)(hx:tm X.env.scope x:=by first|exact Or.inl rfl|exact Or.inr rfl)(hs:swapsWith e (some (.Name x pos')) pos.line X.env=pure false:=by rfl)(hf:X.fn x=true\/X.env.scope.names.lookup x=some .local:=by first|exact .inl rfl|exact .inr rfl|assumption):bZ X (.Assign [.Name x pos'] e pos) (zn i m):=Iy hN hi hx h hs hf
def Jc{op:Operator}{f:T->T->Option RV}(ho:NZ X op f)(hN:X.N.Nodup)(h:jK X e m)(hi:X.N[i]?=some x:=by rfl)(hx:tm X.env.scope x:=by first|exact Or.inl rfl|exact Or.inr rfl)(hf:X.fn x=true\/X.env.scope.names.lookup x=some .local:=by first|exact .inl rfl|exact .inr rfl|assumption):bZ X (.AugAssign (.Name x pos') op e pos) (dS i f m):=Iz ho hN hi hx h hf
def zy(hN:X.N.Nodup)(hi:X.N[i]?=some x:=by rfl)(hx:tm X.env.scope x:=by first|exact Or.inl rfl|exact Or.inr rfl)(hf:X.fn x=true\/X.env.scope.names.lookup x=some .local:=by first|exact .inl rfl|exact .inr rfl|assumption):M2 X (.Name x pos) (gN i):=Gk hN hi hx hf
def d4(c1 c2 c3 c4:Addr)(m:Str)(f1 f2 f3 f4:MF)(mo:ME)(ma:MA):ME:=M9 (M9 (M9 (f9 c1 m f1 mo ma) (f9 c2 m f2 mo ma)) (f9 c3 m f3 mo ma)) (f9 c4 m f4 mo ma)
def IF{P:List Value->Prop}(h:P []):∀us:List Value,us.length=0->P us:=λus e=>by cases us with|nil=>exact h|cons a r=>cases e
def vH{P:List Value->Prop}(h:∀a,P [a]):∀us:List Value,us.length=1->P us:=λus e=>by cases us with|nil=>cases e|cons a r=>exact IF (P:=λr=>P (a::r)) (h a) r (Nat.succ.inj e)
def qC{P:List Value->Prop}(h:∀a b,P [a,b]):∀us:List Value,us.length=2->P us:=λus e=>by cases us with|nil=>cases e|cons a r=>exact vH (P:=λr=>P (a::r)) (h a) r (Nat.succ.inj e)
def cS{P:List Value->Prop}(h:∀a b c,P [a,b,c]):∀us:List Value,us.length=3->P us:=λus e=>by cases us with|nil=>cases e|cons a r=>exact qC (P:=λr=>P (a::r)) (h a) r (Nat.succ.inj e)
def Yt{P:List Value->Prop}(h:∀a b c d,P [a,b,c,d]):∀us:List Value,us.length=4->P us:=λus e=>by cases us with|nil=>cases e|cons a r=>exact cS (P:=λr=>P (a::r)) (h a) r (Nat.succ.inj e)
def IG{P:List Value->Prop}(h:∀a b c d e,P [a,b,c,d,e]):∀us:List Value,us.length=5->P us:=λus e=>by cases us with|nil=>cases e|cons a r=>exact Yt (P:=λr=>P (a::r)) (h a) r (Nat.succ.inj e)
def IH{P:List Value->Prop}(h:∀a b c d e f,P [a,b,c,d,e,f]):∀us:List Value,us.length=6->P us:=λus e=>by cases us with|nil=>cases e|cons a r=>exact IG (P:=λr=>P (a::r)) (h a) r (Nat.succ.inj e)
section
variable{K:W.Frag}{h:Heap}{mg:Str->Option Value}{f C C0:Addr}{oc kV dc pm cd ct:Value}{od an:Option Addr}{sl:Array (Option Value)}{x q:Str}{st:Stmt}{t:Tok}{b:Bool}
theorem lG(X:K.In h)(G:h.Ns mainGlobals mg)(g:W.nsIn K mainGlobals x=some none:=by(try dsimp only);k_is):mg x=none:=W.mg_none_of X G g
theorem EQ(X:K.In h)(G:h.Ns mainGlobals mg)(g:W.nsIn K mainGlobals x=some (some v):=by(try dsimp only);k_is):mg x=some v:=W.mg_of X G g
theorem zE(X:K.In h)(G:h.Ns mainGlobals mg)(g:W.nsIn K mainGlobals x=some (some (.ref f)):=by(try dsimp only);k_is)(l:K.lookup f=some ⟨oc,od,.func (W.fnOf x x (xB st) (ju st) (za st) .none kV dc pm an cd ct),sl⟩:=by(try dsimp only);k_is)(c:W.codeIn K cd x=true:=by(try dsimp only);k_is)(k:W.keepIn K (.ref f)=true:=by(try dsimp only);k_is):zM K mg x st:=⟨_,_,iE l c k,W.mg_of X G g⟩
theorem Uu(X:K.In h)(G:h.Ns mainGlobals mg)(g:W.nsIn K mainGlobals x=some (some (.str s t)):=by(try dsimp only);k_is):∃t,mg x=some (.str s t):=⟨_,W.mg_of X G g⟩
theorem II(X:K.In h)(G:h.Ns mainGlobals mg)(g:W.nsIn K mainGlobals x=some (some (.int i t)):=by(try dsimp only);k_is):∃t,mg x=some (.int i t):=⟨_,W.mg_of X G g⟩
theorem IJ(X:K.In h)(G:h.Ns mainGlobals mg)(g:W.nsIn K mainGlobals x=some (some (.ref f)):=by(try dsimp only);k_is)(l:K.lookup f=some ⟨.type "tuple",od,.seq #[.str s1 t1,.str s2 t2] n,sl⟩:=by(try dsimp only);k_is):M8 K mg x [s1,s2]:=⟨_,_,_,_,W.mg_of X G g,l,rfl,rfl,(by show 2<=sizeLine;decide),(.cons ⟨_,rfl⟩ (.cons ⟨_,rfl⟩ .nil))⟩
theorem GE(i:W.findIn K (.ref C) "__init__"=some (some (.ref f)):=by(try dsimp only);k_is)(l:K.lookup f=some ⟨oc,od,.func (W.fnOf "__init__" q (xB st) (ju st) (za st) .none kV dc pm an cd ct),sl⟩:=by(try dsimp only);k_is)(c:W.codeIn K cd q=true:=by(try dsimp only);k_is)(k:W.keepIn K (.ref f)=true:=by(try dsimp only);k_is)(m:W.makesIn K C=true:=by(try dsimp only);k_is)(n:W.isFn K (.ref f)=true:=by(try dsimp only);k_is)(p:W.keepIn K (.ref C)=true:=by(try dsimp only);k_is):∃f fd,Zq K "__init__" q st f fd/\Mk K C f:=⟨_,_,iE l c k,m,i,n,p⟩
theorem HL(i:W.findIn K (.ref C) x=some (some (.ref f)):=by(try dsimp only);k_is)(l:K.lookup f=some ⟨oc,od,.func (W.fnOf x q (xB st) (ju st) (za st) .none kV dc pm an cd ct),sl⟩:=by(try dsimp only);k_is)(c:W.codeIn K cd q=true:=by(try dsimp only);k_is)(k:W.keepIn K (.ref f)=true:=by(try dsimp only);k_is)(n:W.isFn K (.ref f)=true:=by(try dsimp only);k_is):∃f fd,Zq K x q st f fd/\bK K C x f:=⟨_,_,iE l c k,i,n,k⟩
theorem base_of(i:W.findCls K (.ref C) (.type "type") "__init__"=some (.val (.ref f)):=by(try dsimp only);k_is)(l:K.lookup f=some ⟨oc,od,.func (W.fnOf "__init__" q (xB st) (ju st) (za st) .none kV dc pm an cd ct),sl⟩:=by(try dsimp only);k_is)(c:W.codeIn K cd q=true:=by(try dsimp only);k_is)(k:W.keepIn K (.ref f)=true:=by(try dsimp only);k_is)(s:W.specialIn K (.ref C) "__getattribute__"=some (some (.builtin "type.__getattribute__")):=by(try dsimp only);k_is)(r:W.readsIn K C (.type "type")=true:=by(try dsimp only);k_is):∃f fd,Zq K "__init__" q st f fd/\IE K C "__init__" f:=⟨_,_,iE l c k,s,r,i,k⟩
theorem ai(a:W.plainGet K C Str.empty=true:=by(try dsimp only);k_is)(b:W.hasDictIn K C=true:=by(try dsimp only);k_is)(c:W.plainOver K C=true:=by(try dsimp only);k_is)(d:W.findIn K (.ref C) "__setattr__"=some (some (.builtin "object.__setattr__")):=by(try dsimp only);k_is):lz K C:=⟨a,b,c,d⟩
theorem Jd(a:W.findIn K (.ref C) "__class__"=some (some ↑aM):=by(try dsimp only);k_is)(b:W.specialIn K ↑aM "__get__"=some (some (.builtin "getset_descriptor.__get__")):=by(try dsimp only);k_is)(c:W.takesIn K ↑aM=some true:=by(try dsimp only);k_is)(d:W.mroIn K C (.type "object")=some true:=by(try dsimp only);k_is):HK K C:=⟨a,b,c,d⟩
theorem Uv(i:W.findIn K (.ref C) x=some none:=by(try dsimp only);k_is):xA K C x:=i
theorem GF(c:lz K C:=by exact ai)(i:HK K C:=by exact Jd):VY K C C true:=⟨c,i,VZ⟩
theorem HM(c:lz K C:=by exact ai)(i:HK K C:=by exact Jd)(d:C≠C0:=by dsimp only;decide)(a:W.isClsIn K C0=true:=by(try dsimp only);k_is)(e:W.typeIn K (.ref C0)=some (.type "type"):=by(try dsimp only);k_is)(s:W.subIn K (.ref C) (.ref C0)=some b:=by(try dsimp only);k_is):VY K C C0 b:=⟨c,i,Mf d a e s⟩
end
structure M0(X:Cx)(o:Expr)(m:Str)(apos:Pos)(cpos:Pos):Prop where
 base:attributeBase o m X.env (eval o X.env)=eval o X.env
 few:((backTo cpos (starEach [] X.env)).all (λx=>!x.1)&&(backToKw cpos (keywordEach [] X.env)).all (λx=>x.1.isSome)&&decide (([]:List Expr).length+([]:List Keyword).length+(if([]:List Keyword).isEmpty then 0 else 1)<30))=true
 line:(apos.endLine==cpos.line)=true
 trees:backTo cpos (starEach [] X.env)=[]
def IK(td:TE):TE:=λσ H Q=>td σ H λx H1=>∃a kvs,x=.ref a/\Rd H1 a (.dK kvs)/\∀p,H1 p=none->Q (.ref p) (jm H1 p (.lst (kvs.map (·.2))))
def Yu:∀{kvs:List (Key×V)}{vs:List (Key×Value)},KV kvs vs->zL (kvs.map (·.2)) (vs.map (·.2))|_,_,.nil=>.nil|_,_,.cons r t=>.cons r.2 (Yu t)
def oP(hc:X.calm=true)(hg:Gl X "list")(hm:X.mg "list"=none)(ho:PE X o td)(m:M0 X o "values" apos cpos)(hs:starEach [.Call (.Attribute o "values" apos) [] [] cpos] X.env=[(false,eval (.Call (.Attribute o "values" apos) [] [] cpos) X.env)]:=by rfl):PE X (.Call (.Name "list" p) [.Call (.Attribute o "values" apos) [] [] cpos] [] pos) (IK td):=by intro pins s σ H Q I h;refine wpAny_Call_Name_kw (qo I hg hm lT ?_);refine PyProof.Rows.callWith_type1 ?_;rw[hs];show wpAny _ _ (spliced ((false,eval (.Call (.Attribute o "values" apos) [] [] cpos) X.env)::[])) _ _ s;refine Calls.spliced_cons ?_;refine wpAny_Call_method m.base m.few m.line PySem.F.plainAttrs_dict PySem.F.slot_dict_values PySem.F.type_dict_values (jQ (ho pins s σ H _ I h) λu s1⟨x,H1,I1,rx,a,kvs,ex,d,q1⟩=>?_);subst ex;obtain rfl:u=Value.ref a:=rx;obtain⟨t1,t2,_⟩:=NJ I1 (.inl ⟨kvs,d⟩);refine⟨t1,t2,?_⟩;rw[m.trees];obtain⟨hz,hS,vs,r,dd⟩:=iC I1.hok d;refine Calls.callWith_builtin rfl (PyProof.Rows.evalArgs_none ?_);refine call_meetsIn PySem.F.slot_dict_values dd.typeIs PySem.F.entry_dict_values (PySem.F.args_dict_values_1 _) (meets_dict_values (jC X.prog X.w) a hS) ⟨⟨vs,dd⟩,?_⟩;have I2:zu X pins σ H1 {s1 with heap:=s1.heap.push {cls:=.type "dict_values",data:=.fields #[.ref a]}}:=I1.kept λb ob q=>Heap.get?_push_of_some _ q;obtain⟨ep,hat⟩:=dd.dictAt;rw[spliced];refine wpAny_pure ?_;refine W.kdl_call (W.kdl_values) (I2.ok.hd hc) ⟨⟨_,Heap.get?_push_size _ rfl,rfl,rfl⟩,hat.push _⟩ (by rw[<-r.length];exact hz) λh' tk acc c hk hD hacc=>?_;have hf:=I2.hok.fresh ↑e;refine⟨.ref _,jm H1 _ (.lst (kvs.map (·.2))),I2.laid hk ↑e ?_,rfl,q1 _ hf⟩;refine⟨by rw[List.length_map];exact hz,acc.toList,c,?_,by simpa using hD⟩;have e:=W.kdl_vals_eq acc.toList (by rw[Array.length_toList];exact hacc.1) λj v e=>hacc.2 j v (by rw[<-Array.getElem?_toList];exact e);rw[e];exact Yu r
def eD(md:ME):ME:=λenv=>(md env).bind λd=>match d.2 with|.dct _ ts=>.ok (true,.lst ts)|_=>.bad
def eE(hc:X.calm=true)(hg:Gl X "list")(hm:X.mg "list"=none)(ho:jK X o md)(m:M0 X o "values" apos cpos:=by exact⟨rfl,rfl,rfl,rfl⟩)(hs:starEach [.Call (.Attribute o "values" apos) [] [] cpos] X.env=[(false,eval (.Call (.Attribute o "values" apos) [] [] cpos) X.env)]:=by rfl):jK X (.Call (.Name "list" p) [.Call (.Attribute o "values" apos) [] [] cpos] [] pos) (eD md):=by
 obtain⟨td,pd,sd⟩:=ho;refine⟨_,oP hc hg hm pd m hs,?_⟩;intro F H σ env Q R nb ok ex;unfold eD at nb ok ex;refine sd.val R ↑d (λr1 e1 v1 F1 H1 x1 i1=>?_) λx z=>ex x ↑E;rw[e1,bind_ok]at nb ok;obtain⟨b,t⟩:=r1;dsimp only at nb ok i1;cases t<;>try exact absurd rfl nb
 case dct ks ts=>
  unfold Is at i1;obtain⟨a,kvs,rfl,_,hH,_,ia⟩:=i1;refine⟨a,kvs,rfl,hH,λp hp=>bY x1.dom ia hp λv F' H' x i=>ok _ rfl v F' H' (x1.trans x) ?_⟩;have i:∃a,v=.ref a/\¬F' a/\H1 a=none/\vw X.K F' H' a (.lst ts):=by simpa[kL]using i
  obtain⟨c,e,nf,fr,w⟩:=i;unfold kL;rw[if_pos rfl];exact⟨c,e,nf,jv x1.same fr,w⟩
end L3
namespace L3
open PySem PySem.Spec PyProof.Rows PySem.W L2
def Zu(h:Heap)(v:Value)(z:Value×Value):Prop:=∃q rest,v=.ref q/\IsTup h q (List.toArray (z.1::z.2::rest))/\rest.length+2<=sizeLine
def lH(h:Heap)(k:Value)(z:Value×Value):Prop:=∃p,k=.ref p/\IsTup h p (List.toArray [z.1,z.2])
def Zu.keeps(x:Zu h v z)(k:∀b o,h.get? b=some o->h'.get? b=some o):Zu h' v z:=let⟨q,r,e,⟨o,ho,c⟩,l⟩:=x;⟨q,r,e,⟨o,k _ _ ho,c⟩,l⟩
section
variable{prog:Program}{w:World}{A:Around}{E:Value->Shared->Prop}{s:Shared}
theorem K0(hk:env.scope.kind=.function)(hl:env.kindOf y=some .local)(hn:s.heap.Ns env.locals m)(hm:m y=some v)(h2:Zu s.heap v z)(h:∀k h' tk,(∀b o,s.heap.get? b=some o->h'.get? b=some o)->lH h' k z->Q k {s with heap:=h',toks:=tk})(hd:(y==↑t)=false):wpAny ↑n A (eval (.Subscript (.Name y p1) (.Slice none (some (.Constant (.int 2) j p2)) none p3) p4) env) Q E s:=by
 obtain⟨q,rest,rfl,hq,hz⟩:=h2;refine Subscript_ (wpAny_Name (wpAny_loadName_local hk hl hn hm ?_) hd);refine wpAny_Slice ?_;rw[evalPart_none];refine wpAny_pure ?_;rw[evalPart_some];refine wpAny_Constant_int ?_;try rw[evalPart_none]
 refine wpAny_pure ?_;have kp:∀(ob:Obj)b o,s.heap.get? b=some o->(s.heap.push ob).get? b=some o:=λob b o e=>Heap.get?_push_of_some _ e;have up:∀ob,IsTup (s.heap.push ob) q (List.toArray (z.1::z.2::rest)):=λob=>let⟨o,ho,c⟩:=hq;⟨o,kp ob _ _ ho,c⟩;refine tail_any (up _).typeIs slot_tuple_getitem.lookup ?_ (by with_unfolding_all rfl);have hsz:(List.toArray (z.1::z.2::rest)).size=rest.length+2:=by simp
 by_cases hr:rest=[];·subst hr;refine HT.getItem_tuple_whole (up _) (Heap.IsSliceOf.new ..) .none (.int 2 _) ⟨rfl,rfl⟩ ?_;exact h _ _ _ (kp _) ⟨q,rfl,up _⟩
 ·have hl0:0<rest.length:=List.length_pos_iff.mpr hr;have e1:HT.sIx (List.toArray (z.1::z.2::rest)).size 0 none=0:=rfl;have e2:HT.sIx (List.toArray (z.1::z.2::rest)).size (List.toArray (z.1::z.2::rest)).size (some 2)=2:=by rw[hsz];simp[HT.sIx]
  refine HT.getItem_tuple_cut (up _) (Heap.IsSliceOf.new ..) .none (.int 2 _) (by rw[e1,e2,hsz];omega) ?_ (by rw[hsz];exact hz);rw[e1,e2];refine h _ _ _ (λb o e=>Heap.get?_push_of_some _ (kp _ b o e)) ⟨_,rfl,⟨_,Heap.get?_push_size _ rfl,rfl,0,by simp⟩⟩
theorem K1(hroom:A.depth<recursionLimit)(ho:s.heap.get? f=some (kla_obj "<lambda>" qual params (.Subscript (.Name y p1) (.Slice none (some (.Constant (.int 2) j p2)) none p3) p4) scope [] pm c' ctv))(hcd:s.heap.CodeRec (.ref c') qual)(lim:s.heap.NoLimit)(h2:Zu s.heap v z)(hbind:∀v,bindArgs (kla_fn "<lambda>" qual params (.Subscript (.Name y p1) (.Slice none (some (.Constant (.int 2) j p2)) none p3) p4) scope [] pm (.ref c') ctv) ⟨[v],[]⟩=pure [(y,v)])(hloc:scope.names.lookup y=some .local)(hk:scope.kind=.function)(hco:scope.isCoroutine=false)(hgen:scope.isGenerator=false)(hcell:∀x∈scope.names,x.2≠.cell)(hd:(y==↑t)=false)(h:∀k h' tk,(∀b o,s.heap.get? b=some o->h'.get? b=some o)->lH h' k z->Q k {s with heap:=h',toks:=tk}):wpAny ↑n A (call (.ref f) [v]) Q E s:=by
 refine wpAny_call (kla_callFunE hroom ho rfl hco hgen rfl hcd ?_);rw[hbind];refine wpAny_pure (wpAny_newFunctionEnv hcell (λx hx=>?_) (λh₁ hns hsb=>⟨lim.fresh _ hsb,?_⟩) hk)
 ·have:x=(y,v):=by simpa using hx
  rw[this];exact hloc
 ·have hk₁:∀b o,s.heap.get? b=some o->h₁.get? b=some o:=λb o e=>hsb.extBut b o (Nat.ne_of_lt ↑aQ) (Heap.get?_push_of_some _ e);refine kla_codeExpr (K0 hk hloc hns ↑T (h2.keeps hk₁) (λk h' tk kp hk2=>?_) hd);exact h k h' tk (λb o e=>kp b o (hk₁ b o e)) hk2
theorem cT(hb:∀x z ks e h' tk(R:ForInStep PUnit->Shared->Prop),ks.length<64->Zu h0 x z->(∀b o,b≠kS->h0.get? b=some o->h'.get? b=some o)->h'.get? kS=some (seqObj "list" (List.toArray ks) e)->(∀k h'' tk' e',(∀b o,b≠kS->h'.get? b=some o->h''.get? b=some o)->h''.get? kS=some (seqObj "list" (List.toArray (ks++[k])) e')->lH h'' k z->R (.yield ⟨⟩) {s with heap:=h'',toks:=tk'})->wpAny ↑n A (body x ⟨⟩) R E {s with heap:=h',toks:=tk}):∀(r:List Value)(zs zd:List (Value×Value))(ks:List Value)(e:Nat)(h':Heap)(tk:Nat),ks.length+r.length<64->Paired (Zu h0) r zs->Paired (lH h') ks zd->(∀b o,b≠kS->h0.get? b=some o->h'.get? b=some o)->h'.get? kS=some (seqObj "list" (List.toArray ks) e)->(∀ks' e' h'' tk',Paired (lH h'') ks' (zd++zs)->(∀b o,b≠kS->h0.get? b=some o->h''.get? b=some o)->h''.get? kS=some (seqObj "list" (List.toArray ks') e')->Q ⟨⟩ {s with heap:=h'',toks:=tk'})->wpAny ↑n A (forIn r PUnit.unit body) Q E {s with heap:=h',toks:=tk}|[],zs,zd,ks,e,h',tk,hl,hp,hd,hk,hg,q=>by cases hp;rw[List.forIn_nil];rw[List.append_nil]at q;exact wpAny_pure (q ks e h' tk hd hk hg)|x::r,zs,zd,ks,e,h',tk,hl,hp,hd,hk,hg,q=>by cases hp with|@cons _ z _ zs h2 hp=>
  rw[List.length_cons]at hl;rw[List.forIn_cons];refine wpAny_bind (hb x z ks e h' tk _ ↑a h2 hk hg λk h'' tk' e' kp hg' hk2=>?_);have ne:∀{p:Addr}{xs:Array Value},IsTup h' p xs->p≠kS:=λ⟨o,ho,hc,_⟩z=>by rw[z,hg]at ho;cases ho;exact absurd (show Value.type "list"=Value.type "tuple"from hc) (by intro z;injection z with z;exact absurd z ↑v)
  refine cT hb r zs (zd++[z]) (ks++[k]) e' h'' tk' (by rw[List.length_append,List.length_singleton];omega) hp ?_ (λb o hb' e=>kp b o hb' (hk b o hb' e)) hg' (by rw[List.append_assoc];exact q);have one:∀{ks:List Value}{zd:List (Value×Value)},Paired (lH h') ks zd->Paired (lH h'') (ks++[k]) (zd++[z]):=λ{ks zd}h=>by induction h with|nil=>exact .cons hk2 .nil|cons a _ ih=>obtain⟨p,rfl,t⟩:=a;have:=ne t;obtain⟨o,ho,c⟩:=t;exact .cons ⟨p,rfl,o,kp _ _ this ho,c⟩ ih
  exact one hd
theorem K2{kS a:Addr}{st:SortSt}{out ks:List Value}{e e1:Nat}{P:PySem.Fin->Shared->Prop}(hout:(arrOf st).map (·.2)=List.toArray out)(hz:out.length<64)(hkz:ks.length<64)(hf:failedOf st=none)(hk:s.heap.get? kS=some (seqObj "list" (List.toArray ks) e))(ha:s.heap.get? a=some (seqObj "list" #[] e1))(hne:a≠kS)(h:∀h' c,(∀b o,b≠kS->b≠a->s.heap.get? b=some o->h'.get? b=some o)->h'.get? a=some (seqObj "list" (List.toArray out) c)->P (.done (.ret .none)) {s with heap:=h'}):wpAny ↑n A (ksk_tail a false e1 (.ref kS) st) P E s:=by
 have s1:=Heap.SameBut.update s.heap kS ↑p;have ha1:(s.heap.update kS ↑p).get? a=some (seqObj "list" #[] e1):=(s1.2 a hne).trans ha;obtain⟨c2,hc2⟩:∃c2,((s.heap.update kS ↑p).update a (Obj.mapSeq λ_=>List.toArray out)).get? a=some (seqObj "list" (List.toArray out) c2):=⟨_,get?_update_seq ha1 λ_=>List.toArray out⟩;have hsz:(List.toArray out).size=out.length:=by rw[List.size_toArray]
 unfold ksk_tail;try dsimp only
 rw[hout];refine wpAny_bind (listUpdate_at hk rfl ?_ (by rw[List.size_toArray,sizeLine_eq];omega) ↑aV);refine wpAny_bind (wpAny_letGo ?_);refine wpAny_bind (seqEpoch_at ha1 rfl ?_);refine wpAny_bind (listUpdate_at ha1 rfl ?_ ↑aV (Nat.le_trans (Nat.le_of_eq hsz) (by rw[sizeLine_eq];omega)));rw[hf];simp only[bne_self_eq_false,Bool.false_eq_true,if_false];refine wpAny_pure (h _ c2 (λb o h1 h2 e=>?_) hc2);rw[Heap.get?_update_ne _ _ _ _ h2,Heap.get?_update_ne _ _ _ _ h1];exact e
theorem qE:∀{l:List α}{m:List β},Paired R l m->l.length=m.length|_,_,.nil=>rfl|_,_,.cons _ h=>by rw[List.length_cons,List.length_cons,qE h]
theorem IL{κ:SortKind}{lt:Nat->Nat->Bool}{kS a:Addr}{vs ks:List Value}{e e1:Nat}{P:PySem.Fin->Shared->Prop}(hl:ks.length=vs.length)(h64:vs.length<64)(T:TO lt vs.length)(hk:s.heap.get? kS=some (seqObj "list" (List.toArray ks) e))(ha:s.heap.get? a=some (seqObj "list" #[] e1))(hne:a≠kS)(hq:2<=vs.length->(∀Q:SortKind->Shared->Prop,Q κ s->wpAny ↑n A (keyKind' (List.toArray ks)) Q (λ_ _=>False) s)/\∀i j(C:Bool->Shared->Prop),i<vs.length->j<vs.length->C (lt i j) s->wpAny ↑n A (keyLt' κ (ks.getD i Value.none) (ks.getD j Value.none)) C (λ_ _=>False) s)(h:∀q:Array Nat,Pm q vs.length->Up lt q vs.length->∀h' c,(∀b o,b≠kS->b≠a->s.heap.get? b=some o->h'.get? b=some o)->h'.get? a=some (seqObj "list" ↑aJ c)->P (.done (.ret .none)) {s with heap:=h'}):wpAny ↑n A (ksk_end a false vs.toArray e1 (.ref kS) (List.toArray ks)) P E s:=by
 unfold ksk_end;try dsimp only
 rw[if_neg Bool.false_ne_true];try rw[if_neg Bool.false_ne_true]
 have hsz:vs.toArray.size=vs.length:=by simp
 by_cases h2:vs.toArray.size<2
 ·rw[if_pos h2,if_pos h2];try refine wpAny_bind (wpAny_pure ?_)
  rw[StateT.run_pure];refine wpAny_bind (wpAny_pure ?_);dsimp only;have hlen:vs.length<2:=by omega
  refine K2 ?_ ↑aO ↑a rfl hk ha hne (h (List.toArray (List.range vs.length)) ⟨by simp,by simp⟩ λi j hij hj=>by omega);refine kat_snds hl ?_;have e:=kas_range ((List.toArray ks).zip vs.toArray);rw[show((List.toArray ks).zip vs.toArray).size=vs.length by simp[hl]]at e;exact e.symm
 ·rw[if_neg h2,if_neg h2];have h2':2<=vs.length:=by omega
  obtain⟨kk,kl⟩:=hq h2';refine wpAny_bind (wpAny_mono (kk (λκ' s'=>κ'=κ/\s'=s) ⟨rfl,rfl⟩) (λκ' s0 hκ=>?_) λ_ _ x=>x.elim);obtain⟨rfl,rfl⟩:=hκ;obtain⟨q,hq1,hq2,hq3⟩:=Yj T ↑a;refine wpAny_bind (wpAny_mono (kat_run (G:=λp s'=>p=q/\s'=s0) (Q:=λst' s'=>arrOf st'=q.map (kas_item ((List.toArray ks).zip vs.toArray))/\failedOf st'=none/\s'=s0) hl h2' h64 (λp' st' s' a1 a2 a3 a4=>by obtain⟨rfl,rfl⟩:=a4;exact⟨a2,a3,rfl⟩) (ee (λi j C hi hj hC=>kl i j C hi hj hC) (kas_sort vs.length) (Yl T ↑a) ⟨hq1,rfl⟩)) ?_ λ_ _ e=>e);rintro⟨⟨⟩,st'⟩s'⟨har,hf,rfl⟩;dsimp only;exact K2 (kat_snds hl har) (by rw[List.length_map,Array.length_toList,hq2.size];exact h64) ↑a hf hk ha hne (h q hq2 hq3)
theorem Mh(ho:s.heap.get? a=some (seqObj "list" vs.toArray n))(h64:vs.length<64)(T:TO lt vs.length)(hz:Paired (Zu s.heap) vs zs)(hcall:∀x z h' tk(Q:Value->Shared->Prop)(E:Value->Shared->Prop),(∀b o,b≠a->s.heap.get? b=some o->h'.get? b=some o)->Zu h' x z->(∀k h'' tk',(∀b o,h'.get? b=some o->h''.get? b=some o)->lH h'' k z->Q k {s with heap:=h'',toks:=tk'})->wpAny ↑n A (call (.ref f) [x]) Q E {s with heap:=h',toks:=tk})(hq:2<=vs.length->∀ks h' tk,Paired (lH h') ks zs->(∀Q:SortKind->Shared->Prop,Q κ {s with heap:=h',toks:=tk}->wpAny ↑n A (keyKind' (List.toArray ks)) Q (λ_ _=>False) {s with heap:=h',toks:=tk})/\∀i j(C:Bool->Shared->Prop),i<vs.length->j<vs.length->C (lt i j) {s with heap:=h',toks:=tk}->wpAny ↑n A (keyLt' κ (ks.getD i Value.none) (ks.getD j Value.none)) C (λ_ _=>False) {s with heap:=h',toks:=tk})(h:∀q:Array Nat,Pm q vs.length->Up lt q vs.length->∀h' tk c,(∀b o,b≠a->s.heap.get? b=some o->h'.get? b=some o)->h'.get? a=some (seqObj "list" ↑aJ c)->P (.done (.ret .none)) {s with heap:=h',toks:=tk}):wpAny ↑n A (ksk_tree a (.ref f) false) P E s:=by
 have ha:a<s.heap.objs.size:=Heap.lt_size ho;unfold ksk_tree;refine wpAny_bind (listItems_at ho rfl ?_);refine wpAny_bind (listUpdate_at ho rfl ?_ (by rw[List.size_toArray,sizeLine_eq];omega) ↑aV);obtain⟨e1,ho1⟩:∃e1,(s.heap.update a ↑p).get? a=some (seqObj "list" #[] e1):=⟨_,get?_update_seq ho (λ_=>#[])⟩;refine wpAny_bind (seqEpoch_at ho1 rfl ?_);refine wpAny_bind (wpAny_newTuple ?_ (by show vs.length<=_;rw[sizeLine_eq];omega));refine wpAny_bind (wpAny_newList ?_ ↑aV);refine wpAny_holding ?_;have hkS:((s.heap.update a ↑p).push ↑R).objs.size=s.heap.objs.size+1:=by rw[size_push',Heap.size_update]
 show wpAny ↑n A (ksk_rest a (.ref f) false vs.toArray e1 (.ref ((s.heap.update a ↑p).push ↑R).objs.size)) P E {s with heap:=((s.heap.update a ↑p).push ↑R).push ↑C};have hgk:(((s.heap.update a ↑p).push ↑R).push ↑C).get? ↑w=some (seqObj "list" (List.toArray []) 0):=by rw[<-hkS];exact Heap.get?_push_size _ rfl
 have hga:(((s.heap.update a ↑p).push ↑R).push ↑C).get? a=some (seqObj "list" #[] e1):=Heap.get?_push_of_some _ (Heap.get?_push_of_some _ ho1);have kp0:∀b o,b≠a->s.heap.get? b=some o->(((s.heap.update a ↑p).push ↑R).push ↑C).get? b=some o:=λb o hb e=>Heap.get?_push_of_some _ (Heap.get?_push_of_some _ (by rw[Heap.get?_update_ne _ _ _ _ hb];exact e));rw[hkS];generalize hH0:((s.heap.update a ↑p).push ↑R).push ↑C=H0 at hgk hga kp0⊢;have hne:a≠s.heap.objs.size+1:=Nat.ne_of_lt (Nat.lt_succ_of_lt ha);generalize hKS:s.heap.objs.size+1=kS at hgk hne⊢;have lt_kS:∀b o,s.heap.get? b=some o->b≠kS:=λb o e=>by rw[<-hKS];exact Nat.ne_of_lt (Nat.lt_succ_of_lt ↑aQ)
 have two0:∀{h':Heap}{x:Value}{z:Value×Value},Zu s.heap x z->(∀b o,b≠a->s.heap.get? b=some o->h'.get? b=some o)->Zu h' x z:=λ{h' x z}⟨q,r,e,⟨o,ho',c⟩,l⟩k=>⟨q,r,e,⟨o,k _ _ (λz=>by rw[z,ho]at ho';cases ho';exact absurd (show Value.type "list"=Value.type "tuple"from c.1) (by intro z;injection z with z;exact absurd z ↑v)) ho',c⟩,l⟩;have hz0:Paired (Zu H0) vs zs:=Paired.mapP hz λx z t=>two0 t kp0;unfold ksk_rest;refine wpAny_bind (wpAny_rule ?_);first|rw[List.forIn_toArray]|(rw[<-Array.forIn_toList];simp only[List.toList_toArray])|rw[<-Array.forIn_toList]
 refine wpAny_bind (cT (λx z ks e h' tk R hl64 h2 kp hg r=>?_) vs zs [] [] 0 H0 s.toks (by simpa using h64) hz0 .nil (λb o _ e=>e) hgk λks' e' h'' tk' pk kp hg=>?_)
 ·have t2:Zu h' x z:=by obtain⟨q,rr,e,⟨o,ho',c⟩,l⟩:=h2;refine⟨q,rr,e,⟨o,kp _ _ (λz=>?_) ho',c⟩,l⟩;rw[z,hgk]at ho';cases ho';exact absurd (show Value.type "list"=Value.type "tuple"from c.1) (by intro z;injection z with z;exact absurd z ↑v)
  refine wpAny_bind (wpAny_attempt (hcall x z h' tk _ _ (λb o hb e=>kp b o (lt_kS b o e) (kp0 b o hb e)) t2 λk h'' tk' kp' hk2=>?_));have hg':=kp' _ _ hg;have ea:(List.toArray ks).push k=List.toArray (ks++[k]):=by simp
  obtain⟨c2,hc2⟩:∃c2,(h''.update kS (Obj.mapSeq (·.push k))).get? kS=some (seqObj "list" (List.toArray (ks++[k])) c2):=⟨_,by rw[<-ea];exact get?_update_seq hg' (·.push k)⟩;try dsimp only
  refine wpAny_bind (listUpdate_at hg' rfl ?_ (by rw[List.size_toArray,sizeLine_eq];omega) (Nat.le_trans (Nat.le_of_eq (Array.size_push ..)) (by rw[List.size_toArray,sizeLine_eq];omega)));refine wpAny_pure (r k _ tk' c2 (λb o hb e=>by rw[Heap.get?_update_ne _ _ _ _ hb];exact kp' _ _ e) hc2 ?_);obtain⟨p,rfl,o,ho',c⟩:=hk2;refine⟨p,rfl,o,?_,c⟩;rw[Heap.get?_update_ne _ _ _ _ (λz=>?_)];·exact ho'
  ·rw[z,hg']at ho';cases ho';exact absurd (show Value.type "list"=Value.type "tuple"from c.1) (by intro z;injection z with z;exact absurd z ↑v)
 ·rw[List.nil_append]at pk;try dsimp only
  refine wpAny_bind (listItems_at hg rfl ?_);refine IL ((qE pk).trans (qE hz).symm) h64 T hg (kp a _ hne hga) hne (λh2=>hq h2 ks' h'' tk' pk) λq hq1 hq2 h3 c k3 hga3=>?_;exact h q hq1 hq2 h3 tk' c (λb o hb e=>k3 b o (lt_kS b o e) hb (kp b o (lt_kS b o e) (kp0 b o hb e))) hga3
theorem K3(ho:s.heap.get? l=some o)(hc:o.cls=.type "list")(hd:o.data=.seq vs.toArray n)(h64:vs.length<64)(T:TO lt vs.length)(hz:Paired (Zu s.heap) vs zs)(hcall:∀x z h' tk(Q:Value->Shared->Prop)(E:Value->Shared->Prop),(∀b o,s.heap.get? b=some o->h'.get? b=some o)->Zu h' x z->(∀k h'' tk',(∀b o,h'.get? b=some o->h''.get? b=some o)->lH h'' k z->Q k {s with heap:=h'',toks:=tk'})->wpAny ↑n A.in1.in1 (call (.ref f) [x]) Q E {s with heap:=h',toks:=tk})(hq:2<=vs.length->∀ks h' tk,Paired (lH h') ks zs->(∀Q:SortKind->Shared->Prop,Q κ {s with heap:=h',toks:=tk}->wpAny ↑n A.in1.in1 (keyKind' (List.toArray ks)) Q (λ_ _=>False) {s with heap:=h',toks:=tk})/\∀i j(C:Bool->Shared->Prop),i<vs.length->j<vs.length->C (lt i j) {s with heap:=h',toks:=tk}->wpAny ↑n A.in1.in1 (keyLt' κ (ks.getD i Value.none) (ks.getD j Value.none)) C (λ_ _=>False) {s with heap:=h',toks:=tk})(h:∀q:Array Nat,Pm q vs.length->Up lt q vs.length->∀h' tk c,(∀b o,s.heap.get? b=some o->h'.get? b=some o)->h'.get? ↑w=some (seqObj "list" ↑aJ c)->Q (.ref ↑w) {s with heap:=h',toks:=tk}):wpAny ↑n A (call (.builtin "sorted") [.ref l] [(Str.ofString "key",.ref f)]) Q E s:=by
 refine call_function_entry_kw kind_sorted plain_sorted entry_sorted (ksk_s1 _ _) ?_;unfold Builtin.«sorted»;refine wpAny_bind (wpAny_pure ?_);refine wpAny_bind (l8 ho hc hd (.inl rfl) ?_ (by rw[sizeLine_eq];omega));refine wpAny_bind (wpAny_newList ?_ (by rw[sizeLine_eq];omega));have hsz:((s.heap.push ↑C).update s.heap.objs.size ↑aB).objs.size=s.heap.objs.size+1:=by rw[Heap.size_update,size_push']
 have hoL:(((s.heap.push ↑C).update s.heap.objs.size ↑aB).push (seqObj "list" vs.toArray 0)).get? ↑w=some (seqObj "list" vs.toArray 0):=by rw[<-hsz];exact Heap.get?_push_size _ rfl
 have keep:∀b o,s.heap.get? b=some o->(((s.heap.push ↑C).update s.heap.objs.size ↑aB).push (seqObj "list" vs.toArray 0)).get? b=some o:=λb o q=>by have hlt:b<s.heap.objs.size:=Heap.lt_size q;rw[Heap.get?_push_ne _ _ _ (by rw[hsz];exact Nat.ne_of_lt (Nat.lt_succ_of_lt hlt)),Heap.get?_update_ne _ _ _ _ (Nat.ne_of_lt hlt),Heap.get?_push_ne _ _ _ (Nat.ne_of_lt hlt)];exact q
 have nel:∀b o,s.heap.get? b=some o->b≠s.heap.objs.size+1:=λb o e=>Nat.ne_of_lt (Nat.lt_succ_of_lt ↑aQ);show wpAny _ _ _ _ _ {s with heap:=((s.heap.push ↑C).update s.heap.objs.size ↑aB).push (seqObj "list" vs.toArray 0)};rw[hsz];refine wpAny_bind (wpAny_holding (wpAny_call_entry_kw slot_list_sort ⟨_,hoL,rfl⟩ entry_list_sort ?body (ksk_l1 _ _)));case body=>show wpAny ↑n A.in1.in1 (Builtin.«list.sort» ⟨[.ref ↑w],[(Str.ofString "key",.ref f)]⟩) _ _ _;rw[ksk_t1];refine Mh (κ:=κ) hoL h64 T (Paired.mapP hz λx z t=>t.keeps keep) (λx z h' tk Q E k t c=>hcall x z h' tk Q E (λb o e=>k b o (nel b o e) (keep b o e)) t c) (λh2 ks h' tk pk=>hq h2 ks h' tk pk) λq hq1 hq2 h' tk c k hga=>⟨_,rfl,?_⟩;exact wpAny_pure ⟨_,rfl,h q hq1 hq2 h' tk c (λb o e=>k b o (nel b o e) (keep b o e)) hga⟩
end
def mf:List T->Option RV|[.lst ts]=>if ts.all dW=true then(sortS ts).map λus=>(true,.lst us)else none|_=>none
def mj:∀{l:List α}{m:List β},Paired R l m->∀{i:Nat}{x:α},l[i]?=some x->∃y,m[i]?=some y/\R x y|_,_,.nil,i,x,h=>by simp at h|_,_,.cons r t,i,x,h=>by cases i with|zero=>simp at h;subst h;exact⟨_,by simp,r⟩|succ i=>obtain⟨y,e,q⟩:=mj t (by simpa using h);exact⟨y,by simpa using e,q⟩
def ux:∀{l:List α}{m:List β},Paired R l m->∀{i:Nat}{y:β},m[i]?=some y->∃x,l[i]?=some x/\R x y|_,_,.nil,i,x,h=>by simp at h|_,_,.cons r t,i,x,h=>by cases i with|zero=>simp at h;subst h;exact⟨_,by simp,r⟩|succ i=>obtain⟨y,e,q⟩:=ux t (by simpa using h);exact⟨y,by simpa using e,q⟩
def TZ(t:T)(z:Value×Value):Prop:=∃a b r t1 t2,t=.tup (.str a::.str b::r)/\z=(.str a t1,.str b t2)
def K4(I:zu X pins σ H s):∀{ts:List T}{vs:List V}{us:List Value},ts.all dW=true->IsAll X.K F H ts vs->zL vs us->∃zs,Paired (Zu s.heap) us zs/\Paired TZ ts zs|[],vs,us,_,i,r=>by have:=m6 i;subst this;cases r;exact⟨[],.nil,.nil⟩|t::ts,vs,us,h,i,r=>by unfold IsAll at i;obtain⟨v,w,rfl,i1,i2⟩:=i;cases r with|cons r1 r2=>rw[List.all_cons,Bool.and_eq_true]at h;obtain⟨zs,h1,h2⟩:=K4 I h.2 i2 r2;obtain⟨a,b,ar,rfl⟩:=uV h.1;unfold Is at i1;obtain⟨p,ps,rfl,g1,g2⟩:=i1;cases r1;obtain⟨its,rv,pl,hz⟩:=I.tuple g1;have hl:=rv.length;obtain⟨t1,t2,ur,rfl⟩:=pF g2 rv;refine⟨(.str a t1,.str b t2)::zs,.cons ⟨p,ur,rfl,pl,?_⟩ h1,.cons ⟨a,b,ar,t1,t2,rfl,rfl⟩ h2⟩;rw[hl]at hz;simpa using hz
def Yv:∀{ks:List Value}{zs:List (Value×Value)}{ts:List T},Paired (lH h') ks zs->Paired TZ ts zs->∃fs,KatTups h' ks fs/\fs.length=ks.length/\∀v∈fs,∃z t,v=.str z t|_,_,_,.nil,_=>⟨[],trivial,rfl,λv h=>by cases h⟩|_,_,_,.cons r t,.cons r' t'=>by obtain⟨fs,hf,hl,hs⟩:=Yv t t';obtain⟨p,rfl,o,e,c,n,d⟩:=r;obtain⟨a,b,ar,t1,t2,rfl,rfl⟩:=r';exact⟨.str a t1::fs,KatTups.cons e c d ↑T hf,by rw[List.length_cons,List.length_cons,hl],λv hv=>by
   rcases List.mem_cons.mp hv with rfl|hv;·exact⟨a,t1,rfl⟩
   ·exact hs v hv⟩
def Je(l:List Value)(h:TriplesOk l)(hn:codeAmong pos (l++[rawInt a,rawInt b,c])=some cv):codeAmong pos l=some cv\/cv=c:=by fun_induction TriplesOk l with
 |case1=>
  simp only[List.nil_append,rawInt,codeAmong]at hn;split at hn;·exact .inr (Option.some.inj hn).symm
  ·cases hn|case2 a t b u x rest ih=>
  simp only[List.cons_append,codeAmong]at hn⊢;split at hn;·rename_i hc;rw[if_pos hc];exact .inl hn
  ·rename_i hc;rw[if_neg hc];exact ih h hn|case3 l h1 h2=>exact h.elim
def GG{h':Heap}{c':Addr}{ps:Array Value}{pos:Pos}{fo:Obj}{tk:Nat}(I:zu X pins σ H s)(ht:TriplesOk ps.toList)(hf:∀pos cv,codeAmong pos ps.toList=some cv->∃c o vs t,cv=.ref c/\H c=some (.own tabP)/\s.heap.get? c=some o/\o.data=.fields vs/\vs[1]?=some (.str pM t))(hx:Heap.ExtBut tabP s.heap h')(hge:s.heap.objs.size<=c')(hrec:h'.CodeRec (.ref c') pM)(htb:h'.get? tabP=some (tabObj (ps++#[rawInt pos.line,rawInt pos.col,.ref c']))):zu X pins σ (jm H c' (.own tabP)) {s with heap:=h'.push fo,toks:=tk}:=by
 have hn:H c'=none:=I.hok.fresh hge;have nT:∀b,H b=none->b≠tabP:=λb n z=>by rw[z,I.tab]at n;cases n
 have kp:∀b o,b≠tabP->s.heap.get? b=some o->(h'.push fo).get? b=some o:=λb o hb e=>Heap.get?_push_of_some _ (hx b o hb e);have lc:∀b o,s.heap.get? b=some o->b≠c':=λb o e=>Nat.ne_of_lt (Nat.lt_of_lt_of_le ↑aQ hge);obtain⟨c2,oc,vs,t,e2,hoc,hd,hv⟩:=hrec;cases e2;refine I.un ⟨λb o e n _ _=>kp b o (nT b n) e,λb o e n _ _=>⟨o.slots,kp b o (nT b n) e⟩,λb o e n _=>by rw[zh (lc b o e)];exact n,λb o e _=>?_,λb xs q=>by rw[zh (zC q hn)];exact q,λb o u q=>by rw[zh (zC q hn)];exact q,λb q1 q=>⟨#[],by rw[zh (zC q hn),q];simp⟩⟩ λb u q=>?_
 ·by_cases hb:b=tabP;·subst hb;exact⟨_,Heap.get?_push_of_some _ htb⟩
  ·exact⟨o,kp b o hb e⟩
 ·by_cases hb:b=c';·subst hb;rw[zF]at q;cases q;exact⟨oc,Heap.get?_push_of_some _ hoc⟩
  ·rw[zh hb]at q;by_cases hb2:b=tabP
   ·subst hb2;rw[I.tab]at q;cases q;show jg _ _ _ _ _ (.frz _ (.tab pM));refine⟨λz=>(by cases z),_,Heap.get?_push_of_some _ htb,?_,λpos' cv z=>?_⟩;·rw[Array.toList_append];exact TriplesOk_snoc _ _ _ _ ht
    ·rw[Array.toList_append]at z;rcases Je _ ht z with z|rfl;·obtain⟨c3,o3,v3,t3,rfl,g1,g2,g3⟩:=hf pos' cv z;exact⟨c3,o3,v3,t3,rfl,by rw[zh (zC g1 hn)];exact g1,kp c3 o3 (λz=>by rw[z,I.tab]at g1;cases g1) g2,g3⟩
     ·exact⟨c',oc,vs,t,rfl,zF,Heap.get?_push_of_some _ hoc,hd,hv⟩
   ·refine(I.hok b u q).stay (λc v hc r=>kp c v ?_ r) (λc r=>by rw[zh (zC r hn)];exact r) λc xs r=>by rw[zh (zC r hn)];exact r
    rcases hc with rfl|hc;·exact hb2
    ·intro z;rw[z,I.tab]at hc;cases hc
abbrev oQ(y:Str)(p1 p2 p3 p4:Pos)(j:Nat):Expr:=.Subscript (.Name y p1) (.Slice none (some (.Constant (.int 2) j p2)) none p3) p4
def cU(hroom:X.A.depth<recursionLimit)(I:zu X pins σ H2 s2)(hs:∀a o,H a=some o->H2 a=some o)(ho:s2.heap.get? f=some (kla_obj "<lambda>" pM params (oQ y p1 p2 p3 p4 j) scope [] pm c' ctv))(hcd:s2.heap.CodeRec (.ref c') pM)(hbind:∀c v,bindArgs (kla_fn "<lambda>" pM params (oQ y p1 p2 p3 p4 j) scope [] pm c ctv) ⟨[v],[]⟩=pure [(y,v)])(hloc:scope.names.lookup y=some .local)(hk:scope.kind=.function)(hco:scope.isCoroutine=false)(hgen:scope.isGenerator=false)(hcell:∀x∈scope.names,x.2≠.cell)(hd:(y==↑t)=false)(r:zL xs us)(h:t8 X.K mf xs H Q):wpAny ↑b X.A (call (.builtin "sorted") us [(Str.ofString "key",.ref f)]) ↑aK X.xe s2:=by
 obtain⟨F,ts,rv,d,ia,e,q⟩:=h;have d2:dN F H2:=λa fa=>by have:=d a fa;cases hh:H a with|none=>exact absurd hh this|some o=>rw[hs a o hh];intro z;cases z
 have x2:xN F H F H2:=⟨hs,λ_ h=>h,λ_ h=>.inl h,d2⟩;have ia:=ia.mono x2.kept;match ts,e with
 |[.lst ts],e=>
  have e:(if ts.all dW=true then(sortS ts).map λus=>(true,T.lst us)else none)=some rv:=e;by_cases hP:ts.all dW=true
  ·rw[if_pos hP]at e;simp only[Option.map_eq_some_iff]at e;obtain⟨ss,es,rfl⟩:=e;obtain⟨v,rfl,i⟩:=ut ia;obtain⟨u,rfl,ru⟩:=gh r;unfold Is at i;obtain⟨a,vs,rfl,g1,g2⟩:=i;cases ru;obtain⟨its,r',pl,hz⟩:=I.list g1.sq;obtain⟨o,hol,hc,n,hdt⟩:=pl.isList;unfold sortS at es;split at es
   ·rename_i hcnd;obtain⟨h64,_,nd⟩:=hcnd;cases es;have l1:=g2.len;have l2:=r'.length;have T0:=Uq nd;have hlen:its.length=ts.length:=by omega
    obtain⟨zs,tw,tz⟩:=K4 I hP g2 r';refine K3 (κ:=tuples' true) hol hc hdt ↑a (by rw[hlen];exact T0) tw (λx z h' tk Q E k t c=>?_) (λh2 ks h' tk pk=>⟨λQ' hQ=>?_,λi j C hi hj hC=>?_⟩) λqa hq hu h' tk c k hga=>?_;·exact K1 hroom (k _ _ ho) (let⟨c2,oc,v2,t2,e1,e2,e3⟩:=hcd;⟨c2,oc,v2,t2,e1,k _ _ e2,e3⟩) (I.nolimit.keeps k) t (hbind _) hloc hk hco hgen hcell hd λk' h'' tk' kp hk2=>c k' h'' tk' kp hk2
    ·obtain⟨fs,hf,hfl,hfs⟩:=Yv pk tz;refine kat_kind (T:=.type "str") hf (by rw[hfl,qE pk,<-qE tw];omega) (λv hv=>?_) ↑aa ?_;·obtain⟨z,t,rfl⟩:=hfs v hv;exact Looks.now
     ·have:(Value.type "str"!=Value.type "tuple")=true:=by decide+kernel
      rw[this];exact hQ
    ·have bi:i<ts.length:=by omega
     have bj:j<ts.length:=by omega
     have ci:ts[i]?=some ts[i]:=by simp[bi]
     have cj:ts[j]?=some ts[j]:=by simp[bj]
     obtain⟨zi,ezi,a1,b1,r1,t1,t2,ei,rfl⟩:=mj tz ci;obtain⟨zj,ezj,a2,b2,r2,t3,t4,ej,rfl⟩:=mj tz cj;obtain⟨ki,eki,p,rfl,hp⟩:=ux pk ezi;obtain⟨kj,ekj,p',rfl,hp'⟩:=ux pk ezj;have this:m5 ts i j=l9 ts[i] ts[j]:=by unfold m5;rw[ci,cj]
     rw[this,ei,ej]at hC;rw[List.getD_eq_getElem?_getD,List.getD_eq_getElem?_getD,eki,ekj];refine Yn hp hp' ?_ hC;by_cases hij:i=j;·subst hij;rw[eki]at ekj;exact .inr (by injection(Option.some.inj ekj))
     ·refine .inl λe=>hij ?_;have h1:(ts.map jM)[i]?=some (jM ts[i]):=by rw[List.getElem?_map,ci];rfl
      have h2:(ts.map jM)[j]?=some (jM ts[j]):=by rw[List.getElem?_map,cj];rfl
      rw[ej,<-e,<-ei]at h2;exact(List.getElem?_inj (by simpa using bi) nd).mp (h1.trans h2.symm)
    ·rw[hlen]at hq hu;have hb:∀i∈qa.toList,i<ts.length:=λi hi=>List.mem_range.mp (hq.perm.mem_iff.mp hi);have e1:=VG nd hq hu;have hfresh:H2 (s2.heap.objs.size+1)=none:=I.hok.fresh (Nat.le_succ _);have hz:(qa.toList.map λi=>(vs[i]?).getD .non).length<=sizeLine:=by rw[List.length_map,Array.length_toList,hq.size,sizeLine_eq];omega
     refine⟨.ref (s2.heap.objs.size+1),jm H2 (s2.heap.objs.size+1) (.lst (qa.toList.map λi=>(vs[i]?).getD .non)),I.laid k (Nat.le_succ _) ?_,rfl,?_⟩;·exact⟨hz,_,c,m7 r' (λi hi=>by have:=hb i hi;omega),hga⟩
     ·have:=uv g2 hb;rw[e1]at this;exact bY d2 this hfresh λv F' H' x i=>q v F' H' (x2.trans x) (kB x2 i)
   ·cases es
  ·rw[if_neg hP]at e;cases e
def K5{e:Expr}{t:TA}{p pos kp lp:Pos}{y:Str}{params:Arguments}{scope:Scope}{p1 p2 p3 p4:Pos}{j:Nat}{c:Addr}(hroom:X.A.depth<recursionLimit)(hg:Gl X "sorted")(hm:X.mg "sorted"=none)(ha:PA X [e] t)(hcode:X.env.code=.ref c)(hC:codeHdIn X.K c tabP=true)(hq:X.env.qual++"<lambda>"=pM)(hdef:defaultsOf params X.env=([],[]))(hcl:closureFor scope X.env=pure [])(hbind:∀pm ctv c v,bindArgs (kla_fn "<lambda>" pM params (oQ y p1 p2 p3 p4 j) scope [] pm c ctv) ⟨[v],[]⟩=pure [(y,v)])(hloc:scope.names.lookup y=some .local)(hk:scope.kind=.function)(hco:scope.isCoroutine=false)(hgen:scope.isGenerator=false)(hcell:∀x∈scope.names,x.2≠.cell)(hd:(y==↑t)=false)(he:backTo pos (starEach [e] X.env)=↑M::backTo pos (starEach [] X.env):=by rfl)(hpl:(backTo pos (starEach [e] X.env)).any (·.1)=false:=by rfl):PE X (.Call (.Name "sorted" p) [e] [⟨some "key",.Lambda params (oQ y p1 p2 p3 p4 j) scope lp,kp⟩] pos) (HF (t8 X.K mf) t):=by
 intro pins s σ H Q I h;refine wpAny_Call_Name_kw (qo I hg hm (show bootBuiltins "sorted"=some (.builtin "sorted")from rfl) ?_);refine callWith_kw (jQ (ha pos pins s σ H _ I h) λus s1⟨vs,H1,I1,r1,q1⟩=>?_) he hpl;refine kws_cons (kla_eval hdef ?_);rw[hq];obtain⟨ps,et,ht,hf⟩:jg X.prog X.w H1 s1.heap tabP (.tab pM):=(show jg X.prog X.w H1 s1.heap tabP (.frz _ (.tab pM))from I1.hok tabP tf I1.tab).2;have C:=codeHd_of_K I1.kIn hC;have G:=I1.mod.glob.keeps I1.bk;obtain⟨bm,ob,b1,b2,b3,b4,b5,b6⟩:=I1.mod.bmain;have hgP:mainGlobals≠tabP:=λz=>by obtain⟨o,es,ep,e1,e2,_⟩:=G;rw[z,et]at e1;cases e1;cases e2
 have nb1:bm≠mainGlobals:=λz=>by obtain⟨o,es,ep,e1,e2,_⟩:=I1.mod.glob;rw[z,e1]at b3;cases b3;rw[e2]at b6;cases b6
 have nb2:bm≠tabP:=λz=>by have e1:=I1.bk _ _ b3;rw[z,et]at e1;cases e1;cases b6
 have B:s1.heap.BuiltinsAt X.mg tabP:=⟨bm,ob,b1,b2,nb1,nb2,I1.bk _ _ b3,b4,b5,b6⟩;cases hc:codeAmong lp ps.toList with|none=>refine kla_makeFunction hcl I1.ok.glob G hcode C et ht hc hgP B λc' ctv h' tk hx hge hlt hrec htb=>kws_nil ?_;have I2:=GG (tk:=tk) (fo:=kla_obj "<lambda>" pM params (oQ y p1 p2 p3 p4 j) scope [] ((X.mg "__name__").getD .none) c' ctv) I1 ht hf hx hge hrec htb;exact cU hroom I2 (λa o q=>by rw[zh (zC q (I1.hok.fresh hge))];exact q) (Heap.get?_push_size _ rfl) (let⟨c2,oc,v2,t2,e1,e2,e3⟩:=hrec;⟨c2,oc,v2,t2,e1,Heap.get?_push_of_some _ e2,e3⟩) (hbind _ _) hloc hk hco hgen hcell hd r1 q1|some cv=>obtain⟨c',o',v',t',rfl,g1,g2,g3,g4⟩:=hf lp cv hc;refine kla_makeFunctionHit hcl I1.ok.glob G hcode C et ht hc B λctv h' tk hk' hsz=>kws_nil ?_;have kp:∀b o,s1.heap.get? b=some o->(h'.push (kla_obj "<lambda>" pM params (oQ y p1 p2 p3 p4 j) scope [] ((X.mg "__name__").getD .none) c' ctv)).get? b=some o:=λb o e=>Heap.get?_push_of_some _ (hk' b o e);exact cU hroom (I1.kept kp) (λa o q=>q) (Heap.get?_push_size _ rfl) ⟨c',o',v',t',rfl,kp _ _ g2,g3,g4⟩ (hbind _ _) hloc hk hco hgen hcell hd r1 q1
def GH(hroom:X.A.depth<recursionLimit)(hg:Gl X "sorted")(hm:X.mg "sorted"=none)(ha:Zs X [e] ma)(hcode:X.env.code=.ref c)(hC:codeHdIn X.K c tabP=true)(hq:X.env.qual++"<lambda>"=pM:=by rfl)(hdef:defaultsOf params X.env=([],[]):=by rfl)(hcl:closureFor scope X.env=pure []:=by rfl)(hbind:∀pm ctv c v,bindArgs (kla_fn "<lambda>" pM params (oQ y p1 p2 p3 p4 j) scope [] pm c ctv) ⟨[v],[]⟩=pure [(y,v)]:=by intros;rfl)(hloc:scope.names.lookup y=some .local:=by rfl)(hk:scope.kind=.function:=by rfl)(hco:scope.isCoroutine=false:=by rfl)(hgen:scope.isGenerator=false:=by rfl)(hcell:∀x∈scope.names,x.2≠.cell:=by decide+kernel)(hd:(y==↑t)=false:=by decide+kernel)(he:backTo pos (starEach [e] X.env)=↑M::backTo pos (starEach [] X.env):=by rfl)(hpl:(backTo pos (starEach [e] X.env)).any (·.1)=false:=by rfl):jK X (.Call (.Name "sorted" p) [e] [⟨some "key",.Lambda params (oQ y p1 p2 p3 p4 j) scope lp,kp⟩] pos) (zl mf ma):=by obtain⟨ta,pa,sa⟩:=ha;exact⟨_,K5 hroom hg hm pa hcode hC hq hdef hcl hbind hloc hk hco hgen hcell hd he hpl,ZX sa⟩
section
variable{P:Program}{w:World}{K:W.Frag}{mg:Str->Option Value}{base:Heap}
def GI(K:W.Frag)(x qual:Str)(st:Stmt)(f:Addr)(fd:FuncData)(c:Addr):Prop:=Zq K x qual st f fd/\codeHdIn K c tabP=true/\∃(oc:Value)(od:Option Addr)(kV doc pm:Value)(an:Option Addr)(ct:Value)(osl:Array (Option Value)),fd=W.fnOf x qual (xB st) (ju st) (za st) .none kV doc pm an (.ref c) ct/\K.lookup f=some ⟨oc,od,.func fd,osl⟩/\W.codeIn K (.ref c) qual=true
theorem oH.okT{C:Addr}{x qual:Str}{st:Stmt}{N ps:List Str}{k:Nat}{mb:MS}(F:∃f fd c,GI K x qual st f fd c/\bK K C x f)(hc:lz K C)(S:ze N ps (za st))(hb:∀(kV doc pm:Value)(an:Option Addr)(cdv ct:Value)(us:List Value),us.length=ps.length->bindArgs ↑aU ⟨us,[]⟩=pure (ps.zip us))(hbody:∀(f:Addr)(cd:Addr)(A:Around)(outer:List Env)(s:Shared)(H:Hp)(E:XK),codeHdIn K cd tabP=true->xV k (A.deeper (envOfC qual (za st) s.heap.objs.size f (.ref cd)))->nZ (lA (lU P w) P w K mg base N qual (za st) f (.ref cd) A outer s H E) (ju st) mb):oH P w K mg base (k+1) C x ps (zR N.length ps.length mb):=by obtain⟨f,fd,cd,⟨F,hC,oc,od,kV,doc,pm,an,ct,osl,rfl,lk,hcd⟩,hm⟩:=F;refine⟨f,_,?_,hm,hc,F.binds hb⟩;exact tN lk hcd S (λvs H Q E h=>M3 h) λA outer s H vs Q E hr hsp=>Vx hsp (hbody f cd A outer s H E hC hr)
theorem K6{f C cc:Addr}{oc kV dc pm ct:Value}{od an:Option Addr}{sl:Array (Option Value)}{x q:Str}{st:Stmt}(i:W.findIn K (.ref C) x=some (some (.ref f)):=by(try dsimp only);k_is)(l:K.lookup f=some ⟨oc,od,.func (W.fnOf x q (xB st) (ju st) (za st) .none kV dc pm an (.ref cc) ct),sl⟩:=by(try dsimp only);k_is)(c:W.codeIn K (.ref cc) q=true:=by(try dsimp only);k_is)(k:W.keepIn K (.ref f)=true:=by(try dsimp only);k_is)(n:W.isFn K (.ref f)=true:=by(try dsimp only);k_is)(h:codeHdIn K cc tabP=true:=by(try dsimp only);k_is):∃f fd c,GI K x q st f fd c/\bK K C x f:=⟨_,_,_,⟨iE l c k,h,_,_,_,_,_,_,_,_,rfl,l,c⟩,i,n,k⟩
end
end L3
namespace L3
open PySem PySem.Spec PyProof.Rows L2
def eF(ok:T->Bool)(f:List T->Option RV)(mo:ME)(ma:MA):ME:=λenv=>(mo env).bind λx=>if ok x.2=true then(ma env).bind λrs=>Y9 (f (x.2::rs.map (·.2)))else .bad
section
variable{X:Cx}{o e:Expr}{es:List Expr}{mo:ME}{ma:MA}{name:Str}{apos cpos:Pos}{Ty id:String}{f:List T->Option RV}{ok:T->Bool}
theorem oR(pa:PlainAttrs Ty)(slot:Slot Ty name id)(hty:typeOf (.builtin id)=pure (.type "method_descriptor"))(hm:NA X id (λx xs=>t8 X.K f (x::xs)))(hT:∀(F:Addr->Prop)(H:Hp)(t:T)(x:V),ok t=true->Is X.K F H t x->Lz X.K Ty x H)(ho:jK X o mo)(ha:Zs X (e::es) ma)(hbase:attributeBase o name X.env (eval o X.env)=eval o X.env:=by rfl)(hfew:↑aE=true:=by rfl)(hline:(apos.endLine==cpos.line)=true:=by rfl)(hs:starEach (e::es) X.env=↑M::starEach es X.env:=by rfl)(hplain:(backTo cpos ↑aL).any (·.1)=false:=by rfl):jK X (.Call (.Attribute o name apos) (e::es) [] cpos) (eF ok f mo ma):=by
 obtain⟨to,po,so⟩:=ho;obtain⟨ta,pa',sa⟩:=ha;refine⟨_,fv pa slot hty hm po pa' hbase hfew hline hs hplain,?_⟩;intro F H σ env Q R nb ok' ex;unfold eF at nb ok' ex;refine so.val R ↑d (λr e1 v F0 H0 x0 i0=>?_) λx z=>ex x ↑E;rw[e1,bind_ok]at nb ok' ex;by_cases hk:ok r.2=true;·rw[if_pos hk]at nb ok' ex;refine⟨hT F0 H0 r.2 v hk i0,?_⟩;refine sa F0 H0 σ env _ (R.mono x0) ↑d (λrs e2 vs F1 H1 x1 i1=>?_) λx z=>(ex x ↑E).mono x0;rw[e2,bind_ok]at nb ok';obtain⟨F2,x2,s2,i2⟩:=i1.frz x1;cases h:f (r.2::rs.map (·.2))with|none=>rw[h]at nb;exact absurd rfl nb|some rv=>rw[h]at ok';exact⟨F2,_,rv,x2.dom,IsAll.cons (i0.mono x2.kept) i2,h,λv F' H' x i=>ok' rv rfl v F' H' ((x0.trans x2).trans x) (kB (x0.trans x2) i)⟩
 ·rw[if_neg hk]at nb;exact absurd rfl nb
end
def oS:T->Bool|.str _=>true|_=>false
def ER:T->Bool|.lst _=>true|_=>false
def Mi{K:W.Frag}(F:Addr->Prop)(H:Hp)(t:T)(x:V)(h:oS t=true)(i:Is K F H t x):Lz K "str" x H:=by cases t<;>first|(unfold Is at i;subst i;exact rfl)|cases h
def DZ{K:W.Frag}(F:Addr->Prop)(H:Hp)(t:T)(x:V)(h:ER t=true)(i:Is K F H t x):Lz K "list" x H:=by cases t<;>first|(unfold Is at i;obtain⟨a,vs,rfl,g1,g2⟩:=i;exact .inl ⟨rfl,vs,g1.sq⟩)|cases h
def kE:List T->Option RV
 |[.str x,.lst ts]=>match xG ts with|some ys=>if(ys.map (·.length)).sum+ys.length<=1048576/\x.length<=16 then some (false,.str (Str.join x ys))else none|none=>none
 |_=>none
section
def mn{K:W.Frag}{F:Addr->Prop}{H:Hp}:∀{ts:List T}{ys:List Str}{vs:List V}{us:List Value},xG ts=some ys->IsAll K F H ts vs->zL vs us->∃l:List (Str×Tok),us=strValues l/\l.map (·.1)=ys|[],ys,vs,us,h,i,r=>by have:=m6 i;subst this;cases r;cases h;exact⟨[],rfl,rfl⟩|t::ts,ys,vs,us,h,i,r=>by unfold IsAll at i;obtain⟨v,w,rfl,i1,i2⟩:=i;cases r with|cons r1 r2=>
  cases t<;>try(cases h;done)
  case str z=>simp only[xG,Option.map_eq_some_iff]at h;obtain⟨zs,h,rfl⟩:=h;obtain⟨l,rfl,rfl⟩:=mn h i2 r2;unfold Is at i1;subst i1;obtain⟨t,rfl⟩:=r1;exact⟨(z,t)::l,rfl,rfl⟩
def uY:NA X "str.join" (λx xs=>t8 X.K kE (x::xs)):=by intro pins s σ H x xs v us Q I rx r h;obtain⟨F,ts,rv,d,ia,e,q⟩:=h;match ts,e with|[.str y,.lst ts],e=>obtain⟨v1,v2,ev,g1,g2⟩:=J1 ia;injection ev with e1 e2;subst e1 e2;unfold Is at g1 g2;subst g1;obtain⟨a,vs,rfl,f1,f2⟩:=g2;obtain⟨t,rfl⟩:=rx;obtain⟨u,rfl,ru⟩:=gh r;cases ru;obtain⟨its,r',pl,hz⟩:=I.list f1.sq;simp only[kE]at e;cases hs:xG ts with|none=>rw[hs]at e;cases e|some ys=>
   rw[hs]at e;dsimp only at e;split at e;·rename_i hw;cases e;obtain⟨l,rfl,hl⟩:=mn hs f2 r';refine SC.join pl.isList hl (joinOk_of_weight hw.1 hw.2) λt' k=>?_;rw[show Txt.join y ys=Str.join y ys from StrLaws.glued_eq_join y ys];exact⟨.str _,H,I.kept λb o e=>e,⟨t',rfl⟩,xE d kO q rfl⟩
   ·cases e
def gp(c:Nat):List Nat->List (List Nat)|[]=>[[]]|a::l=>if a=c then[]::gp c l else match gp c l with|p::r=>(a::p)::r|[]=>[[a]]
def eG:∀{p:List Nat}(l:List Nat),c∉p->gp c (p++c::l)=p::gp c l|[],l,_=>by simp[gp]|a::p,l,h=>by have ha:a≠c:=λz=>h (z▸List.mem_cons_self);have ih:=eG l λz=>h (List.mem_cons_of_mem _ z);rw[List.cons_append,gp,if_neg ha,ih]
def cV:∀{p:List Nat},c∉p->gp c p=[p]|[],_=>rfl|a::p,h=>by have ha:a≠c:=λz=>h (z▸List.mem_cons_self);have ih:=cV λz=>h (List.mem_cons_of_mem _ z);unfold gp;rw[if_neg ha,ih]
def uy(c:Nat):∀(ps:List Str),ps≠[]->(∀p∈ps,c∉p.cps.toList)->gp c (Str.join ⟨#[c]⟩ ps).cps.toList=ps.map λp=>p.cps.toList
 |[],h,_=>absurd rfl h|[p],_,h=>cV (h p List.mem_cons_self)|p::q::r,_,h=>by
  have ih:=uy c (q::r) ↑T λx hx=>h x ↑av;have e:(Str.join ⟨#[c]⟩ (p::q::r)).cps.toList=p.cps.toList++c::(Str.join ⟨#[c]⟩ (q::r)).cps.toList:=by show((p++(⟨#[c]⟩:Str))++Str.join ⟨#[c]⟩ (q::r)).cps.toList=_;rw[PySem.Str.cps_append,PySem.Str.cps_append];simp
  rw[e,eG _ (h p List.mem_cons_self),ih];rfl
def K7(x y:Str):Txt.split x y≠[]:=by
 unfold Txt.split;split;·simp
 ·split;·simp
  ·rw[StrLaws.partsBetween_eq];obtain⟨p,r,e⟩:=StrLaws.partsFrom_ne x y.length 0 (Builtin.Str.occurrences x y 0 x.length (x.length+1));rw[e];simp
def XY(x:Str)(c:Nat):Txt.split x ⟨#[c]⟩=(gp c x.cps.toList).map λl=>(⟨l.toArray⟩:Str):=by
 have h:=uy c (Txt.split x ⟨#[c]⟩) (K7 _ _) (StrLaws.split_free x c);rw[StrLaws.join_split]at h;rw[h,List.map_map];conv=>lhs;rw[<-List.map_id (Txt.split x ⟨#[c]⟩)]
 apply List.map_congr_left;intro p _;simp
def fE:List T->Option RV
 |[.str x,.str y]=>match y.cps.toList with|[c]=>if x.length+2<=sizeLine then some (true,.lst ((gp c x.cps.toList).map λl=>T.str ⟨l.toArray⟩))else none|_=>none
 |_=>none
open Builtin Builtin.Str in def XZ(z0:(z.length==0)=false)(sz:x.length+2<=sizeLine)(q:∀l k,l.map (·.1)=Txt.split x z->Q ↑ak {s with heap:=s.heap.push {cls:=.type "list",data:=.seq (strValues l).toArray},toks:=k}):wpAny ↑n A (call (.builtin "str.split") [.str x tx,.str z tz]) Q E s:=by
 have WC:(partsBetween x (occurrences x z 0 x.length (x.length+1)) z.length).length<=sizeLine:=by have:=StrLaws.occ_length_le x z 0 x.length (x.length+1);rw[length_partsBetween];omega
 cases c1:(decide (x.length<z.length)||decide (strKind x<strKind z))with|true=>exact call_meets F.slot_str_split (typeIs_str _ _ _) F.entry_str_split (F.args_str_split_2 _ _) (meets_str_split_cannot_occur x z tx tz c1) (q [(x,tx)] s.toks (if_pos c1).symm)|false=>cases c2:(occurrences x z 0 x.length (x.length+1)).isEmpty with|true=>exact call_meets F.slot_str_split (typeIs_str _ _ _) F.entry_str_split (F.args_str_split_2 _ _) (meets_str_split_not_found x z tx tz c1 z0 c2) (q [(x,tx)] s.toks ((if_neg (ne_true_of_eq_false c1)).trans (if_pos c2)).symm)|false=>refine call_meets F.slot_str_split (typeIs_str _ _ _) F.entry_str_split (F.args_str_split_2 _ _) (meets_str_split_sep x z tx tz c1 z0 c2 ↑a WC) ?_;have e:=strsFrom_eq s.toks (partsBetween x (occurrences x z 0 x.length (x.length+1)) z.length);have q':=q (numbered s.toks (partsBetween x (occurrences x z 0 x.length (x.length+1)) z.length));rw[<-e]at q';exact q' _ ((numbered_texts _ _).trans ((if_neg (ne_true_of_eq_false c1)).trans (if_neg (ne_true_of_eq_false c2))).symm)
def eI{K:W.Frag}{F:Addr->Prop}{H:Hp}:∀l:List (Str×Tok),IsAll K F H (l.map λp=>T.str p.1) (l.map λp=>V.str p.1)/\zL (l.map λp=>V.str p.1) (strValues l)|[]=>⟨IsAll.nil,.nil⟩|p::l=>⟨IsAll.cons kO (eI l).1,.cons ⟨p.2,rfl⟩ (eI (K:=K) (F:=F) (H:=H) l).2⟩
def oT:NA X "str.split" (λx xs=>t8 X.K fE (x::xs)):=by intro pins s σ H x xs v us Q I rx r h;obtain⟨F,ts,rv,d,ia,e,q⟩:=h;match ts,e with
 |[.str y,.str z],e=>
  obtain⟨v1,v2,ev,g1,g2⟩:=J1 ia;injection ev with e1 e2;subst e1 e2;unfold Is at g1 g2;subst g1 g2;obtain⟨t,rfl⟩:=rx;obtain⟨u,rfl,ru⟩:=gh r;obtain⟨t2,rfl⟩:=ru;simp only[fE]at e;split at e
  ·rename_i c hc;have hz:z=⟨#[c]⟩:=by obtain⟨z⟩:=z;have:z=#[c]:=Array.toList_inj.mp hc;rw[this]
   subst hz;split at e
   ·rename_i hw;cases e;have hw2:=split_weight y ⟨#[c]⟩ (show 1<=(#[c]:Array Nat).size by simp);refine XZ ↑B hw λl k el=>?_;have hf:H s.heap.objs.size=none:=I.hok.fresh ↑e;have ha:=eI (K:=X.K) (F:=F) (H:=H) l;have hl:(l.map λp=>V.str p.1).length<=sizeLine:=by rw[<-el,List.length_map]at hw2;rw[List.length_map];omega
    have ht:(gp c y.cps.toList).map (λl=>T.str ⟨l.toArray⟩)=l.map λp=>T.str p.1:=by have:=congrArg (List.map T.str) (el.trans (XY y c));rw[List.map_map,List.map_map]at this;exact this.symm
    refine⟨.ref s.heap.objs.size,jm H s.heap.objs.size (.lst (l.map λp=>V.str p.1)),I.laid (λb o e=>Heap.get?_push_of_some _ e) ↑e ?_,rfl,?_⟩;·exact⟨hl,strValues l,0,ha.2,Heap.get?_push_size _ rfl⟩
    ·rw[ht]at q;exact bY d ha.1 hf q
   ·cases e
  ·cases e
end
open PySem.SeqAt PySem.MeetsSeq PySem.MeetsSeq2 PySem.MeetsSeq3 PySem.SeqRoads2 in def eJ(l:Addr)(items:Array Value)(n:Nat)(dd:Option Addr)(sl:Array (Option Value))(x:Value)(e:Value->Bool)(i j:Nat)(t:Tok)(hj:j<items.size)(hij:i<=j)(hsmall:(j:Int)<2^63-1)(hit:e items[j]=true)(hno:∀m(hm:m<items.size),i<=m->m<j->e items[m]=false):Meets (Builtin.«list.index» ⟨[.ref l,x,.int (i:Int) t],[]⟩) (λA R s=>s.heap.get? l=some {cls:=.type "list",dict:=dd,data:=.seq items n,slots:=sl}/\(∀y,y∈items->EqAt A.in1 s y x (e y))/\R (.ok (.ret (.int j s.toks))) {s with toks:=s.toks+1}):=by
 intro prog w A R s h;obtain⟨hp,g,d,tk,os⟩:=s;obtain⟨hl,he,h⟩:=h;wp_walk using wpAny_loadPart' hl;have b1:((λq:Int=>if q<0 then max 0 (q+(items.size:Int))else q) ((some (i:Int)).getD 0))=((i:Nat):Int):=if_neg (Int.not_lt.mpr (Int.natCast_nonneg i));have b2:((λq:Int=>if q<0 then max 0 (q+(items.size:Int))else q) ((none:Option Int).getD (2^63-1)))=2^63-1:=by simp
 rw[b1,b2];refine⟨plainId_quiet plain_index_loop _,codeAny_builtin entry_index_loop ?_⟩;rw[Around.under_plainId plain_index_loop _];exact index_loopAt l items n dd sl x e (2^63-1) j hj hsmall hit _ i rfl hij hno prog w A R _ ⟨hl,he,h⟩
def K8(z:Str)(ys:List Str)(i:Nat):Option Nat:=((ys.drop i).findIdx? λy=>y==z).map (i+·)
def mq:List T->Option RV
 |[.lst ts,.str z,.int i]=>match xG ts with|some ys=>if 0<=i then(K8 z ys i.toNat).map λj=>(false,.int (j:Nat))else none|none=>none
 |_=>none
def K9:NA X "list.index" (λx xs=>t8 X.K mq (x::xs)):=by intro pins s σ H x xs v us Q I rx r h;obtain⟨F,ts,rv,d,ia,e,q⟩:=h;match ts,e with|[.lst ts,.str z,.int i],e=>unfold IsAll at ia;obtain⟨v1,ws,ev,g1,ia⟩:=ia;injection ev with e1 e2;subst e1 e2;obtain⟨v2,v3,rfl,g2,g3⟩:=J1 ia;unfold Is at g1 g2 g3;subst g2 g3;obtain⟨a,vs,rfl,f1,f2⟩:=g1;cases rx;cases r with|cons r1 r2=>obtain⟨u,rfl,ru⟩:=gh r2;obtain⟨t1,rfl⟩:=r1;obtain⟨t2,rfl⟩:=ru;obtain⟨its,r',pl,hz⟩:=I.list f1.sq;simp only[mq]at e;cases hs:xG ts with|none=>rw[hs]at e;cases e|some ys=>
   rw[hs]at e;dsimp only at e;split at e
   ·rename_i h0;simp only[K8,Option.map_eq_some_iff]at e;obtain⟨j,⟨k,hk,rfl⟩,rfl⟩:=e;obtain⟨l,rfl,rfl⟩:=mn hs f2 r';obtain⟨hlt,hit,hno⟩:=List.findIdx?_eq_some_iff_getElem.mp hk;rw[List.length_drop,List.length_map]at hlt;obtain⟨o,n,ho,hc,hd,hdt⟩:=pl;have e1:∀(m:Nat)(hm:m<(strValues l).toArray.size),(strValues l).toArray[m]=.str ((l.map (·.1))[m]'(by simpa[strValues]using hm)) ((l[m]'(by simpa[strValues]using hm)).2):=λm hm=>by simp[strValues]
    have hsz:(strValues l).toArray.size=l.length:=by simp[strValues]
    have hvl:l.length<=sizeLine:=by have a1:=r'.length;rw[show(strValues l).length=l.length by simp[strValues]]at a1;omega
    have hi:((i.toNat:Nat):Int)=i:=Int.toNat_of_nonneg h0;rw[<-hi];refine call_meets PySem.F.slot_list_index ?_ PySem.F.entry_list_index (PySem.F.args_list_index_3 _ _ _) (eJ a (strValues l).toArray n none o.slots (.str z t1) (λv=>match v with|.str y _=>y==z|_=>false) i.toNat (i.toNat+k) t2 (by rw[hsz];omega) (Nat.le_add_right _ _) ?_ ?_ ?_) ⟨?_,?_,?_⟩;·exact(ZM (x:=.ref a) I rfl (Or.inl ⟨rfl,vs,f1.sq⟩)).1
    ·have:=sizeLine_eq;omega
    ·rw[e1];rw[List.getElem_drop]at hit;exact hit
    ·intro m hm h1 h2;rw[e1];have:=hno (m-i.toNat) ↑a;rw[List.getElem_drop]at this;simp only[show i.toNat+(m-i.toNat)=m by omega]at this;simpa using this
    ·rw[ho,<-hc,<-hd,<-hdt]
    ·intro y hy;obtain⟨p,_,rfl⟩:=List.mem_map.mp (show y∈strValues l by simpa using hy);exact SeqAt.EqAt.str_str _ _ _ _
    ·exact⟨.int _,H,I.kept λb o e=>e,⟨s.toks,rfl⟩,xE d xm q rfl⟩
   ·cases e
structure qQ(P:Program)(w:World)(K:W.Frag)(mg:Str->Option Value)(y:Str)(a:Addr)(kvs:List (Key×V))(tab:List (Str×T)):Prop where
 mg:mg y=some (.ref a)sys:(a==sysModules)=false
 obj:∃o es ep vs,K.lookup a=some o/\o.ExactDict/\o.data=.dict es ep/\KeysOf (jC P w) es/\Pairs (jC P w) es.toList vs/\(vs.map (·.1)).Nodup/\KV kvs vs
 rel:∀(F:Addr->Prop)(H:Hp)(z:Str),(∀t,tab.lookup z=some t->∃v,jY kvs (.inr z)=some v/\Is K F H t v)/\(tab.lookup z=none->jY kvs (.inr z)=none)
def qQ.of(D:qQ X.prog X.w X.K X.mg y a kvs tab)(I:zu X pins σ H s):∃vs,KV kvs vs/\s.heap.DictOf (jC X.prog X.w) a vs:=by obtain⟨o,es,ep,vs,h1,h2,h3,h4,h5,h6,h7⟩:=D.obj;exact⟨vs,h7,o,es,ep,I.kIn a o h1,h2,h3,h4,h5,h6⟩
def IM(kvs:List (Key×V))(ty:TE):TE:=λσ H Q=>ty σ H λu H1=>∃k v,u=kV k/\jY kvs k=some v/\Q v H1
def Mj(b:Bool)(kvs:List (Key×V))(ty:TE):TE:=λσ H Q=>ty σ H λu H1=>∃k,u=kV k/\Q (.bl ((jY kvs k).isSome==b)) H1
def GJ(D:qQ X.prog X.w X.K X.mg y a kvs tab)(hg:Gl X y)(hi:PE X i ty)(hs:V7 i)(hd:(y==↑t)=false):PE X (.Subscript (.Name y p) i pos) (IM kvs ty):=by intro pins s σ H Q I h;refine Y2 PySem.F.slot_dict_getitem.lookup hs (jQ (gH (v:=.ref a) hg D.mg rfl hd pins s σ H (λx H1=>x=.ref a/\H1=H) I ⟨rfl,rfl⟩) λu s1⟨x,H1,I1,rx,ex,eH⟩=>?_);subst ex eH;obtain rfl:u=Value.ref a:=rx;refine jQ (hi pins s1 σ H1 _ I1 h) λiv s2⟨z,H2,I2,rz,k,v,ez,ev,q⟩=>?_;subst ez;obtain⟨vs,rel,dd⟩:=D.of I2;obtain⟨w',hw,rw'⟩:=fu.some_of (by rw[<-ev];exact rel.val k);exact⟨dd.typeIs,wpAny_getItem_of (l0 rz) dd.mapOf hw ⟨v,H2,I2.tok _,rw',q⟩⟩
def Ml(D:qQ X.prog X.w X.K X.mg y a kvs tab)(hg:Gl X y)(hi:PE X i ty)(hd:(y==↑t)=false):PC X .In i (.Name y p) (Mj true kvs ty):=by intro pins s σ H Q I h;refine jQ (hi pins s σ H _ I h) λiv s2⟨z,H2,I2,rz,k,ez,q⟩=>?_;refine jQ (gH (v:=.ref a) hg D.mg rfl hd pins s2 σ H2 (λx H1=>x=.ref a/\H1=H2) I2 ⟨rfl,rfl⟩) λu s1⟨x,H1,I1,rx,ex,eH⟩=>?_;subst ex eH ez;obtain rfl:u=Value.ref a:=rx;obtain⟨vs,rel,dd⟩:=D.of I1;refine wpAny_in_of (l0 rz) D.sys dd.mapOf ?_;rw[<-(rel.val k).isSome_eq];exact⟨.bl _,H1,I1.tok _,by rw[beq_true];rfl,q⟩
def GK(D:qQ X.prog X.w X.K X.mg y a kvs tab)(hg:Gl X y)(hi:PE X i ty)(hd:(y==↑t)=false):PC X .NotIn i (.Name y p) (Mj false kvs ty):=by intro pins s σ H Q I h;refine jQ (hi pins s σ H _ I h) λiv s2⟨z,H2,I2,rz,k,ez,q⟩=>?_;refine jQ (gH (v:=.ref a) hg D.mg rfl hd pins s2 σ H2 (λx H1=>x=.ref a/\H1=H2) I2 ⟨rfl,rfl⟩) λu s1⟨x,H1,I1,rx,ex,eH⟩=>?_;subst ex eH ez;obtain rfl:u=Value.ref a:=rx;obtain⟨vs,rel,dd⟩:=D.of I1;refine wpAny_notIn_of (l0 rz) D.sys dd.mapOf ?_;rw[<-(rel.val k).isSome_eq];exact⟨.bl _,H1,I1.tok _,by rw[beq_false];rfl,q⟩
def k7(tab:List (Str×T))(mi:ME):ME:=λenv=>(mi env).bind λk=>match k.2 with|.str z=>Y9 ((tab.lookup z).map λt=>↑P)|_=>.bad
def gM(b:Bool)(tab:List (Str×T))(mi:ME):ME:=λenv=>(mi env).bind λk=>match k.2 with|.str z=>.ok (false,.bl ((tab.lookup z).isSome==b))|_=>.bad
def eK(D:∃a kvs,qQ X.prog X.w X.K X.mg y a kvs tab)(hg:Gl X y)(hi:jK X i mi)(hs:V7 i:=by intro _ _;rfl)(hd:(y==↑t)=false:=by decide):jK X (.Subscript (.Name y p) i pos) (k7 tab mi):=by
 obtain⟨a,kvs,D⟩:=D;obtain⟨ti,pi,si⟩:=hi;refine⟨_,GJ D hg pi hs hd,?_⟩;intro F H σ env Q R nb ok ex;unfold k7 at nb ok ex;refine si.val R ↑d (λr1 e1 v1 F1 H1 x1 i1=>?_) λx z=>ex x ↑E;rw[e1,bind_ok]at nb ok;obtain⟨b,t⟩:=r1;dsimp only at nb ok i1;cases t<;>dsimp only at nb ok<;>try(exact absurd rfl nb)
 case str z=>unfold Is at i1;subst i1;cases hl:tab.lookup z with|none=>rw[hl]at nb;exact absurd rfl nb|some t=>rw[hl]at ok;obtain⟨v,hv,iv⟩:=(D.rel F1 H1 z).1 t hl;exact⟨.inr z,v,rfl,hv,ok _ rfl v F1 H1 x1 (jD iv)⟩
def Yw(D:qQ X.prog X.w X.K X.mg y a kvs tab)(si:wq X ty mi):wq X (Mj b kvs ty) (gM b tab mi):=by
 intro F H σ env Q R nb ok ex;unfold gM at nb ok ex;refine si.val R ↑d (λr1 e1 v1 F1 H1 x1 i1=>?_) λx z=>ex x ↑E;rw[e1,bind_ok]at nb ok;obtain⟨b',t⟩:=r1;dsimp only at nb ok i1;cases t<;>dsimp only at nb ok<;>try(exact absurd rfl nb)
 case str z=>
  unfold Is at i1;subst i1;refine⟨.inr z,rfl,?_⟩;have e:(jY kvs (.inr z)).isSome=(tab.lookup z).isSome:=by cases hl:tab.lookup z with|none=>rw[(D.rel F1 H1 z).2 hl];rfl|some t=>obtain⟨v,hv,_⟩:=(D.rel F1 H1 z).1 t hl;rw[hv];rfl
  rw[e];exact ok _ rfl _ F1 H1 x1 (jD jZ)
def Uw(D:∃a kvs,qQ X.prog X.w X.K X.mg y a kvs tab)(hg:Gl X y)(hi:jK X i mi)(hd:(y==↑t)=false:=by decide):jK X (.Compare i [.In] [.Name y p] pos) (gM true tab mi):=by obtain⟨a,kvs,D⟩:=D;obtain⟨ti,pi,si⟩:=hi;exact⟨_,N1 (Ml D hg pi hd) rfl,Yw D si⟩
def aj(D:∃a kvs,qQ X.prog X.w X.K X.mg y a kvs tab)(hg:Gl X y)(hi:jK X i mi)(hd:(y==↑t)=false:=by decide):o9 X (.Compare i [.NotIn] [.Name y p] pos) (zX (gM false tab mi)):=by obtain⟨a,kvs,D⟩:=D;obtain⟨ti,pi,si⟩:=hi;exact⟨_,WN (GK D hg pi hd) rfl,oe (Yw D si)⟩
end L3
namespace L2
open PySem PySem.Spec PyProof.Rows
def Cx.noX(X:Cx):Cx:={X with xe:=λ_ _=>False}
def Cx.Ok.noX{X:Cx}(ok:X.Ok):X.noX.Ok:={ok with}
def Cx.Ok.ofNoX{X:Cx}(ok:X.noX.Ok):X.Ok:={ok with}
def zu.noX{X:Cx}{pins:List ↑y}{σ:St}{H:Hp}{s:Shared}(I:zu X pins σ H s):zu X.noX pins σ H s:={I with ok:=I.ok.noX}
def zu.ofNoX{X:Cx}{pins:List ↑y}{σ:St}{H:Hp}{s:Shared}(I:zu X.noX pins σ H s):zu X pins σ H s:={I with ok:=Cx.Ok.ofNoX I.ok}
def Mm(hb:tE X.noX body t):PS X (.Try body (h0::hs) [] [] pos) t:=by intro pins s σ H D I h;refine wpAny_Try_except (wpAny_mono (hb pins s σ H D I.noX h) (λf s1 q=>?_) λ_ _ z=>z.elim);cases f with|next=>obtain⟨σ',H',I',q⟩:=q;exact wpAny_execs_nil ⟨σ',H',I'.ofNoX,q⟩|brk=>obtain⟨σ',H',I',q⟩:=q;exact⟨σ',H',I'.ofNoX,q⟩|cont=>obtain⟨σ',H',I',q⟩:=q;exact⟨σ',H',I'.ofNoX,q⟩|ret v=>obtain⟨x,σ',H',I',r,q⟩:=q;exact⟨x,σ',H',I'.ofNoX,r,q⟩
end L2
namespace L3
open PySem PySem.Spec PyProof.Rows L2
def pW.noX:∀{o:Gf},pW X B D o->pW X.noX B D o|.nx _,w=>w|.bk _,w=>w|.ct _,w=>w|.rt _,w=>w|.exc _ _,_=>λ_ _ _ _ _ i=>(i:False).elim|.bad,w=>w
def IN(hb:nZ X.noX body m):bZ X (.Try body (h0::hs) [] [] pos) m:=by obtain⟨t,p,s⟩:=hb;exact⟨t,Mm p,λB F H σ env D R w=>s B F H σ env D R w.noX⟩
end L3
namespace L2
open PySem PySem.Spec PyProof.Rows
def Mn(lo c:Int)(n:Nat):It:=⟨λi _=>i<n,λi H x H'=>H'=H/\x=.int (lo+i*c),λi _=>n<=i⟩
def oU{P:Program}{w:World}{K:W.Frag}{tg:Expr}(it:Addr)(lo c:Int)(n:Nat):Zx P w K tg (Mn lo c n) [it] it (λi h=>IsRangeIter h it (lo+(i:Nat)*c) ((n:Int)-(i:Nat)) c)where
 mem:=by simp
 obj:=λi h st b hb=>by
  have e:b=it:=by simpa using hb
  subst e;exact⟨_,st,λv z=>by have z':Data.fields _=Data.cell v:=z;cases z'⟩
 keep:=λi h h' st k=>k it ↑T _ st;item:=by intro X hP hw hK hc i pins s σ H E I hf st hg;subst hP hw hK;obtain⟨f0,f1,f2,f3,f4,f5⟩:=hf it ↑T;have W:=Walks.range (prog:=X.prog) (w:=X.w) (I.ok.hd hc) it lo c n;refine W.item i s _ _ hg st λv h' tk hv st' kk=>?_;obtain⟨t,rfl⟩:=hv;have I1:zu X pins σ H {s with heap:=h',toks:=tk}:=I.turned (λb o hb e=>kk b o (by simpa using hb) e) f0 f1 f3 f4 f5;exact⟨_,rfl,tK st' rfl rfl ↑v ⟨.int (lo+i*c),H,I1,⟨t,rfl⟩,⟨rfl,rfl⟩,st',λb hb=>(hf b hb).1⟩⟩
 done:=by intro X hP hw hK hc i pins s σ H E I hf st hg;subst hP hw hK;obtain⟨f0,f1,f2,f3,f4,f5⟩:=hf it ↑T;exact wpAny_pyNext_range_end (I.ok.hd hc) st (by have:n<=i:=hg;omega) λh' eb=>⟨rfl,I.turned (λb o hb e=>eb b o hb e) f0 f1 f3 f4 f5⟩
 self:=λ_ _ _ _ _ st h=>wpAny_pyIter_rangeiter st h
def IP(ta:TA):TI:=λσ H R=>ta σ H λvs H1=>∃a b c:Int,vs=[.int a,.int b,.int c]/\(0<=a/\a<2^30/\0<=b/\b<2^30/\0<c/\c<2^30)/\R (Mn a c (Builtin.Range.rangeSize a b c).toNat) H1
def Yx(h:0<c):0<=Builtin.Range.rangeSize a b c:=by
 unfold Builtin.Range.rangeSize;rw[if_pos h];split;·have:0<=(b-a-1)/c:=Int.ediv_nonneg ↑a ↑a;omega
 ·exact Int.le_refl _
def GL(h1:0<=a)(h2:0<=b)(h:0<c):Builtin.Range.rangeSize a b c<=b:=by
 unfold Builtin.Range.rangeSize;rw[if_pos h];split;·have:(b-a-1)/c<=b-a-1:=Int.ediv_le_self _ ↑a;omega
 ·exact h2
def W0(hg:Gl X "range")(hm:X.mg "range"=none)(ha:PA X [a,b,c] ta)(hs:starEach [a,b,c] X.env=[(false,eval a X.env),(false,eval b X.env),(false,eval c X.env)]:=by rfl)(hs2:starEach [b,c] X.env=[(false,eval b X.env),(false,eval c X.env)]:=by rfl):PI X tg (.Call (.Name "range" p) [a,b,c] [] pos) (IP ta):=by intro pins s σ H R I h;refine Call_ (qo I hg hm boot_range (PyProof.Rows.callWith_type1 (jQ (ha pos pins s σ H _ I h) λus s1⟨vs,H1,I1,r1,q1⟩=>?_) (by rw[hs,hs2]) (by rw[hs2];rfl)));obtain⟨i,j,k,e,⟨b1,b2,b3,b4,b5,b6⟩,q⟩:=q1;subst e;cases r1 with|cons x1 r1=>cases r1 with|cons x2 r1=>cases r1 with|cons x3 r1=>
    cases r1;obtain⟨t1,rfl⟩:=x1;obtain⟨t2,rfl⟩:=x2;obtain⟨t3,rfl⟩:=x3;refine call_range_3 ↑a ?_ (.inl (PyProof.noPylong_small ↑a));have I2:zu X pins σ H1 {s1 with heap:=s1.heap.push {cls:=.type "range",data:=.fields #[.int i t1,.int j t2,.int k t3]},toks:=s1.toks}:=I1.kept λb o e=>Heap.get?_push_of_some _ e;refine wpAny_pyIter_range (IsRange.new ..) ?_ ?_;·unfold Builtin.Range.small;have n0:=Yx (a:=i) (b:=j) b5;have n1:=GL b1 b3 b5;rw[if_pos b5];simp only[Builtin.Range.rangeFitsLong,Bool.and_eq_true,Bool.or_eq_true,decide_eq_true_eq,beq_iff_eq];omega
    ·refine⟨_,[_],_,_,H1,rfl,I2.kept λb o e=>Heap.get?_push_of_some _ e,oU _ i k (Builtin.Range.rangeSize i j k).toNat,?_,λb hb=>?_,q⟩
     ·have e1:i+((0:Nat):Int)*k=i:=by simp
      have e2:(((Builtin.Range.rangeSize i j k).toNat:Nat):Int)-((0:Nat):Int)=Builtin.Range.rangeSize i j k:=by have:=Yx (a:=i) (b:=j) b5;omega
      show IsRangeIter _ _ (i+((0:Nat):Int)*k) ((((Builtin.Range.rangeSize i j k).toNat:Nat):Int)-((0:Nat):Int)) k;rw[e1,e2];exact Heap.get?_push_size _ rfl
     ·have e:=List.mem_singleton.mp hb;subst e;exact I2.fpOk ↑e (I2.hok.fresh ↑e)
end L2
namespace L3
open PySem PySem.Spec PyProof.Rows L2
def oV(a b c:Int):List T:=(List.range (if a<b then((b-a-1)/c+1).toNat else 0)).map λ(i:Nat)=>T.int (a+i*c)
def mw(m:MA):J3:=λenv=>(m env).bind λrs=>match rs.map Prod.snd with|[.int a,.int b,.int c]=>if 0<=a/\a<2^30/\0<=b/\b<2^30/\0<c/\c<2^30 then .ok (oV a b c)else .bad|_=>.bad
def oW{K:W.Frag}{F:Addr->Prop}{H:Hp}{a b c:Int}(h:0<c):gK K F H (Mn a c (Builtin.Range.rangeSize a b c).toNat) (oV a b c):=by
 intro F2 H2 k i;have hn:(Builtin.Range.rangeSize a b c).toNat=if a<b then((b-a-1)/c+1).toNat else 0:=by unfold Builtin.Range.rangeSize;rw[if_pos h];split<;>rfl
 have hl:(oV a b c).length=(Builtin.Range.rangeSize a b c).toNat:=by rw[hn];simp[oV]
 rw[hl];refine⟨λhi=>⟨hi,λx H3 y=>⟨y.1,.int (a+i*c),?_,?_⟩⟩,λhi=>hi⟩;·rw[hn]at hi;simp[oV,hi]
 ·rw[y.2];exact xm
def W1(hg:Gl X "range")(hm:X.mg "range"=none)(ha:Zs X [a,b,c] ma)(hs:starEach [a,b,c] X.env=[(false,eval a X.env),(false,eval b X.env),(false,eval c X.env)]:=by rfl)(hs2:starEach [b,c] X.env=[(false,eval b X.env),(false,eval c X.env)]:=by rfl):a9 X tg (.Call (.Name "range" p) [a,b,c] [] pos) (mw ma):=by
 obtain⟨ta,pa,sa⟩:=ha;refine⟨_,W0 hg hm pa hs hs2,?_⟩;intro F H σ env R RE nb ok ex;unfold mw at nb ok ex;refine sa F H σ env _ RE ↑d (λrs e1 vs F1 H1 x1 i1=>?_) λx z=>ex x ↑E;rw[e1,bind_ok]at nb ok;obtain⟨F2,x2,_,i2⟩:=i1.frz x1;split at nb
 ·rename_i a b c hj;rw[hj]at i2 ok;dsimp only at ok;split at nb;·rename_i hb;rw[if_pos hb]at ok;unfold IsAll at i2;obtain⟨v,ws,rfl,g,i2⟩:=i2;obtain⟨v',w,rfl,g',g''⟩:=J1 i2;unfold Is at g g' g'';exact⟨a,b,c,by rw[g,g',g''],hb,ok _ rfl _ F2 H1 x2 (oW hb.2.2.2.2.1)⟩
  ·exact absurd rfl nb
 ·exact absurd rfl nb
end L3
namespace L2
open PySem PySem.Spec PyProof.Rows
def Jf(J:Nat->Shared->Prop)(one:∀k s,J k s->wpAny (model P w) A (pyNext itv) (λr s1=>match r with|none=>Z (.ok .next) s1|some v=>wpAny (model P w) A (letOwnedTupleGo tg itv v) (λ_ s2=>wpAny (model P w) A (assign tg env v) (λ_ s3=>wpAny (model P w) A (forIn ifs true λc r=>if r=true then do let ok<-isTrue c env (eval c env);pure (ForInStep.yield ok)else pure (ForInStep.yield r)) (λok s4=>if ok=true then wpAny (model P w) A (eval elt env) (λy s5=>wpAny (model P w) A (call (.builtin "list.append") [acc,y]) (λ_ s6=>∃m,m<k/\J m s6) ↑ar s5) ↑ar s4 else∃m,m<k/\J m s4) ↑ar s3) ↑ar s2) ↑ar s1) ↑ar s)(k:Nat)(h:J k s):codeAny (model P w) A (.compLoop ↑aD 0 itv acc env) Z s:=by refine codeAny_loop rfl J (λk s hJ=>?_) k h;show wpAny (model P w) A ((compTurn ↑aD 0 itv acc env).onRaise λx=>do noteFrame x env;theTreesLotGoes x) _ _ s;apply wpAny_noted;rw[compTurn_list];refine wpAny_bind (wpAny_standAt (wpAny_bind (wpAny_mono (one k s hJ) (λr s1 g1=>?_) λ_ _ z=>z)));cases r with|none=>exact wpAny_pure g1|some v=>refine wpAny_bind (wpAny_mono g1 (λ_ s2 g2=>?_) λ_ _ z=>z);refine wpAny_bind (wpAny_mono g2 (λ_ s3 g3=>wpAny_bind (wpAny_mono g3 (λok s4 g4=>?_) λ_ _ z=>z)) λ_ _ z=>z);cases ok with|false=>exact wpAny_pure ⟨rfl,g4⟩|true=>exact wpAny_bind (wpAny_bind (wpAny_mono g4 (λy s5 g5=>wpAny_bind (wpAny_mono g5 (λ_ s6 g6=>wpAny_pure (wpAny_pure ⟨rfl,g6⟩)) λ_ _ z=>z)) λ_ _ z=>z))
structure Jg(X:Cx)(scope:Scope)(cl:List (Str×Addr))(xs caps:List Str)(slots:List Nat):Prop where
 kind:scope.kind=.function
 nocell:∀y∈scope.names,y.2≠.cell
 names:∀y∈scope.names,y.2=.local->scope.names.lookup y.1=some .local
 clos:closureFor scope X.env=pure cl
 sub:∀y c,cl.lookup y=some c->X.env.cells.lookup y=some c
 has:∀y,((relabel scope X.env).names.lookup y=some .cell\/(relabel scope X.env).names.lookup y=some .free)->∃c,cl.lookup y=some c
 cap:∀(j:Nat)(y:Str),caps[j]?=some y->∃k:Nat,slots[j]?=some k/\X.N[k]?=some y/\(relabel scope X.env).names.lookup y=some .cell/\X.env.scope.names.lookup y=some .cell
 nd:(xs++caps).Nodup
 len:slots.length=caps.length
def Jh(wi:TI)(g:TG)(tt:TT)(te:TE)(n:Nat)(slots:List Nat):TE:=λσ H Q=>wi σ H λJ H1=>∀D,H1 D=none->∃W:Nat->Nat->List V->St->Hp->Prop,(∃m,W 0 m [] (List.replicate n none++qu σ slots) (jm H1 D (.lst [])))/\∀i m ys τ H,W i m ys τ H->H D=some (.lst ys)/\((J.stop i H/\Q (.ref D) H)\/(J.go i H/\∀v H',J.yld i H v H'->g v τ H' λτ' H1=>tt τ' H1 λb H2=>if b=true then te τ' H2 λy H3=>H3 D=some (.lst ys)/\ys.length<sizeLine/\∃m',m'<m/\W (i+1) m' (ys++[y]) τ' (jm H3 D (.lst (ys++[y])))else∃m',m'<m/\W (i+1) m' ys τ' H2))
def Ji(I:zu X pins σ H s)(h:Jh wi g tt te xs.length slots σ H Q)(fin:∀D C H5 s6 m,s6.heap.Ns C m->uI X pins H5 C->(∀h',Heap.SameBut C s6.heap h'->zu X pins σ H5 {s6 with heap:=h'})->Q (.ref D) H5->compPost ↑b X.A X.xe use PQ (.ref D) C (.ok .next) s6)(hc:X.calm=true)(S:Jg X scope cl xs caps slots)(hi:PI X tg iter wi)(pg:∀C ex pn s₀ H₀,PG ↑L tg g)(ht:∀C ex pn s₀ H₀,WD ↑L ifs tt)(he:∀C ex pn s₀ H₀,PE ↑L elt te)(hs:∀v,foldedSetIterable iter X.env v=pure v:=by intro _;rfl):wpAny ↑b X.A (comprehension ↑aD scope X.env cpos (newList []) false (eval iter X.env) use) PQ X.xe s:=by
 refine wpAny_comprehension_free rfl hs S.clos S.kind S.names (jQ (hi pins s σ H _ I h) λv s1 h1=>jQ h1 λitv s2 h2=>?_);obtain⟨it,fp,tn,J,H1,e,I2,T,st2,f2,q⟩:=h2;subst e--the new list,at D;then the block's map,at C
 obtain⟨W,⟨m0,w0⟩,turn⟩:=q s2.heap.objs.size (I2.hok.fresh ↑e);refine wpAny_newObj_type ?_ (show(0:Nat)<=sizeLine from Nat.zero_le _);have I3:zu X pins σ (jm H1 s2.heap.objs.size (.lst [])) {s2 with heap:=s2.heap.push {cls:=.type "list",data:=.seq ([]:List Value).toArray}}:=I2.lnew .nil ↑aV;have f3:∀b∈fp,uI X pins (jm H1 s2.heap.objs.size (.lst [])) b:=λb hb=>by obtain⟨f0,fr⟩:=f2 b hb;obtain⟨o,ho,_⟩:=T.obj _ _ st2 b hb;exact⟨by rw[zh (Nat.ne_of_lt (Heap.lt_size ho))];exact f0,fr⟩
 have st3:tn 0 (s2.heap.push {cls:=.type "list",data:=.seq ([]:List Value).toArray}):=T.keep _ _ _ st2 λb _ o e=>Heap.get?_push_of_some _ e;generalize hD:s2.heap.objs.size=D at I3 turn w0 f3⊢;generalize hs3:({s2 with heap:=s2.heap.push {cls:=.type "list",data:=.seq ([]:List Value).toArray}}:Shared)=s3 at I3⊢;have st3:tn 0 s3.heap:=by rw[<-hs3];exact st3
 generalize hH3:jm H1 D (.lst [])=H3 at I3 w0 f3;refine wpAny_newFunctionEnv S.nocell (by intro y hy;simp at hy) (λh4 hns4 hsb4=>?_) S.kind;generalize hC:s3.heap.objs.size=C at hns4 hsb4⊢;have neC:∀b o,s3.heap.get? b=some o->b≠C:=λb o e=>by rw[<-hC];exact Nat.ne_of_lt ↑aQ
 have old:∀b o,s3.heap.get? b=some o->h4.get? b=some o:=λb o e=>hsb4.extBut b o (neC b o e) (Heap.get?_push_of_some _ e);have fpo:∀b∈fp,∃o,s3.heap.get? b=some o:=λb hb=>let⟨o,ho,_⟩:=T.obj _ _ st3 b hb;⟨o,ho⟩;have nst:∀b∈fp,b∉JS X.stack:=λb hb z=>(List.mem_cons.mp (I3.stkSub b z)).elim (f3 b hb).2.1 (f3 b hb).2.2.1;have ok:(zr X scope cl C (xs++caps) fp (X.pn++pins) s3 H3).Ok:=
  {mod:=I3.ok.mod
   kind:=S.kind
   glob:=I3.ok.glob
   blt:=I3.ok.blt
   above:=by rw[<-hC];exact Nat.le_refl _
   inj:=λy z c h1 h2=>I3.ok.inj y z c (S.sub y c h1) (S.sub z c h2)
   has:=λy hy=>S.has y hy
   cab:=λy c h=>nomatch(show false=true from h)
   hd:=I3.ok.hd
   frames:=I3.ok.frames
   stk:=.inl rfl
   exf:=λb hb=>⟨let⟨o,ho⟩:=fpo b hb;neC b o ho,λy c e=>(f3 b hb).2.2.2.2.1 y c (S.sub y c e)⟩
   bs:=λb o e=>I3.bs b o e
   bsz:=Nat.le_trans I3.ok.bsz I3.sz
   noex:=λb o e hb=>by
    rcases(f3 b hb).2.2.2.1 with z|z;·exact I3.ok.noex b o e z
    ·exact absurd (Nat.lt_of_lt_of_le (Heap.lt_size (I3.ok.bs b o e).1) z) (Nat.lt_irrefl _)
   exfs:=nst
   funs:=I3.stack
   frf:=I3.stkFree
   tab:=I3.tab};have I4:∀tk,zu ↑ac [] (List.replicate xs.length none++qu σ slots) H3 {s3 with heap:=h4,toks:=tk}:=λtk=>by
  refine⟨ok,rfl,I3.bare,Un.kept old,⟨_,hns4,λi y v h1 h2 h3=>?_⟩,λy c e=>?_,by show H3 C=none;rw[<-hC];exact I3.hok.fresh ↑e,λy c e=>I3.freeC y c (S.sub y c e),λp hp=>?_,I3.hok.kept old,?_⟩
  ·have hlt:¬i<xs.length:=λz=>by rw[List.getElem?_append_left (by simpa using z),List.getElem?_replicate,if_pos z]at h2;cases h2
   obtain⟨i,rfl⟩:∃j,i=xs.length+j:=⟨i-xs.length,by omega⟩;have h1:(xs++caps)[xs.length+i]?=some y:=h1;rw[List.getElem?_append_right ↑a,Nat.add_sub_cancel_left]at h1;rw[List.getElem?_append_right (by rw[List.length_replicate];omega),List.length_replicate,Nat.add_sub_cancel_left]at h2;obtain⟨k,hk,hN,hr,hcl⟩:=S.cap i y h1;have h2:(slots.map λk=>(σ[k]?).getD none)[i]?=some (some v):=h2;rw[List.getElem?_map,hk]at h2;have h2:(σ[k]?).getD none=some v:=Option.some.inj h2;have h2:σ[k]?=some (some v):=by cases e:σ[k]? with|none=>rw[e]at h2;cases h2|some o=>rw[e]at h2;have:o=some v:=h2;rw[this]
   obtain⟨m,hn,hl⟩:=I3.loc;obtain⟨u,r,l⟩:=hl k y v hN h2 (.inr (.inl hcl));refine⟨u,r,.inr ⟨.inl hr,?_⟩⟩;rcases l with⟨z,_⟩|⟨_,c,e1,⟨o,ho,hd⟩⟩;·have z:X.env.scope.names.lookup y=some .local:=z;rw[hcl]at z;cases z
   ·obtain⟨c',e2⟩:=S.has y (.inl hr);have e3:=S.sub y c' e2;rw[e1]at e3;cases e3;exact⟨c,e2,o,old _ _ ho,hd⟩
  ·obtain⟨v,o,ho,hd⟩:=I3.cell y c (S.sub y c e);exact⟨v,o,old _ _ ho,hd⟩
  ·have hp:p∈(X.pn++pins)++[]:=hp;have hp:p∈X.pn++pins:=by simpa using hp
   obtain⟨e,n,ne,nf,d⟩:=I3.pin p hp;exact⟨old _ _ e,n,neC _ _ e,λz=>(List.mem_cons.mp (I3.stkSub _ z)).elim ne nf,d⟩
  ·show(List.replicate xs.length none++qu σ slots).length=(xs++caps).length;unfold qu;rw[List.length_append,List.length_append,List.length_map,List.length_replicate,S.len]
 have stat:∀{H':Hp},(∀b∈fp,H' b=none)->∀b∈fp,uI ↑ac [] H' b:=λhn b hb=>⟨hn b hb,(ok.exf b hb).1,nst b hb,.inl hb,(ok.exf b hb).2,λp hp=>(f3 b hb).2.2.2.2.2 p (by have hp:p∈(X.pn++pins)++[]:=hp;simpa using hp)⟩;have loop:∀tk,codeAny ↑b X.A (.compLoop ↑aD 0 (.ref it) (.ref D) (compEnvC scope cl C X.env)) (compPost ↑b X.A X.xe use PQ (.ref D) C) {s3 with heap:=h4,toks:=tk}:=by
  intro tk;refine Jf (λn s'=>∃i ys τ H',zu ↑ac [] τ H' s'/\tn i s'.heap/\(∀b∈fp,H' b=none)/\W i n ys τ H') ?_ m0 ⟨0,[],_,H3,I4 tk,T.keep _ _ _ st3 λb _ o e=>old b o e,λb hb=>(f3 b hb).1,w0⟩;rintro n s5⟨i,ys,τ,H5,I5,st5,fr5,w5⟩;obtain⟨hDl,stop|⟨go,step⟩⟩:=turn i n ys τ H5 w5
  ·obtain⟨stop,qD⟩:=stop;refine wpAny_mono (T.done ↑ac rfl rfl rfl hc i [] s5 _ H5 (λ_ _=>False) I5 (stat fr5) st5 stop) (λr s6 hr6=>?_) λ_ _ z=>z.elim;obtain⟨hr,I6⟩:=hr6;subst hr;obtain⟨m,hn,_⟩:=I6.loc;refine fin D C H5 s6 m hn (I3.fpOk (by rw[<-hC];exact Nat.le_refl _) I6.free) (λh' hsb=>?_) qD;have neC':∀c v,H5 c=some v->c≠C:=λc v e z=>by have:=I6.free;have:H5 C=none:=this;rw[z,this]at e;cases e
   refine I3.call' I6.os ?_ ?_ I6.bare λb hb=>⟨(f3 b hb).2.2.2.1,(f3 b hb).2.1,(f3 b hb).2.2.2.2.1,(f3 b hb).2.2.2.2.2⟩;·have u:=I6.base;exact⟨λb o e n hb hx=>hsb.extBut b o (neC b o e) (u.keep b o e n hb hx),λb o e n hb hx=>let⟨sl,q⟩:=u.slot b o e n hb hx;⟨sl,hsb.extBut b _ (neC b o e) q⟩,u.free,λb o e hx=>let⟨o',q⟩:=u.there b o e hx;⟨o',hsb.extBut b _ (neC b o e) q⟩,u.tups,u.frzs,u.tbls⟩
   ·exactλb u e=>(I6.hok b u e).stay (λc v hc q=>hsb.extBut c v (hc.elim (λz=>by rw[z];exact neC' b u e) λz=>neC' c _ z) q) (λ_ q=>q) λ_ _ q=>q
  ·refine wpAny_mono (T.item ↑ac rfl rfl rfl hc i [] s5 _ H5 (λ_ _=>False) I5 (stat fr5) st5 go) (λr s6 hr6=>?_) λ_ _ z=>z.elim;obtain⟨u,hr,h6⟩:=hr6;subst hr;refine wpAny_mono h6 (λ_ s7 h7=>?_) λ_ _ z=>z.elim;obtain⟨v,H7,I7,r7,y7,st7,fr7⟩:=h7;have I7':=I7.pinned (stat fr7) (T.obj _ _ st7);refine wpAny_mono (pg C fp (X.pn++pins) s3 H3 _ s7 _ H7 v u _ I7' r7 (step v H7 y7)) (λ_ s8 h8=>?_) λ_ _ z=>z.elim;obtain⟨σ8,H8,I8,q8⟩:=h8;refine wpAny_mono (ht C fp (X.pn++pins) s3 H3 _ s8 _ _ _ I8 q8) (λb s9 h9=>?_) λ_ _ z=>z.elim;obtain⟨H9,I9,q9⟩:=h9;have again:∀{o':St}{H':Hp}{s':Shared}{zs:List V}{m':Nat},zu ↑ac ([]++nS fp s7.heap) o' H' s'->m'<n->W (i+1) m' zs o' H'->∃m,m<n/\∃i ys o H',zu ↑ac [] o H' s'/\tn i s'.heap/\(∀b∈fp,H' b=none)/\W i m ys o H':=λ{o' H' s' zs m'}I' hm w'=>by refine⟨m',hm,i+1,zs,o',H',I'.unpinned,T.keep _ _ _ st7 λb hb o e=>(I'.pin (b,o) ↑Z).1,λb hb=>?_,w'⟩;obtain⟨o,e,d⟩:=T.obj _ _ st7 b hb;exact(I'.pin (b,o) ↑Z).2.1
   cases b with|false=>rw[if_neg Bool.false_ne_true]at q9⊢;obtain⟨m',hm,w'⟩:=q9;exact again I9 hm w'|true=>rw[if_pos rfl]at q9⊢;refine wpAny_mono (he C fp (X.pn++pins) s3 H3 _ s9 _ _ _ I9 q9) (λyv s10 h10=>?_) λ_ _ z=>z.elim;obtain⟨y,H10,I10,ry,hDy,hlt,m',hm,w'⟩:=h10;refine wpAny_mono (wp (X:=zr X scope cl C (xs++caps) fp (X.pn++pins) s3 H3) _ s10 _ H10 (.ref D) [y] (.ref D) [yv] (λ_ H'=>H'=jm H10 D (.lst (ys++[y]))) I10 rfl (.cons ry .nil) ⟨D,ys,y,rfl,rfl,hDy,hlt,rfl⟩) (λ_ s11 h11=>?_) λ_ _ z=>z.elim;obtain⟨_,H11,I11,_,e11⟩:=h11;subst e11;exact again I11 hm w'
 exact codeAny_compStart_list (loop _) (T.self X.A 0 _ _ _ (T.keep _ _ _ st3 λb _ o e=>old b o e) (loop _))
end L2
namespace L3
open PySem PySem.Spec PyProof.Rows L2
def Yy(K:W.Frag)(F:Addr->Prop)(H:Hp)(J:It)(ts:List T):Prop:=∀F2 H2,dN F2 H2->gk F F2 H H2->∀i:Nat,(i<ts.length->J.go i H2/\∀x H3,J.yld i H2 x H3->xN F2 H2 F2 H3/\∃t,ts[i]?=some t/\Is K F2 H3 t x)/\(ts.length<=i->J.stop i H2)
def gK.two{K:W.Frag}{F:Addr->Prop}{H:Hp}{J:It}{ts:List T}(y:gK K F H J ts):Yy K F H J ts:=λF2 H2 d k i=>by obtain⟨a,b⟩:=y F2 H2 k i;refine⟨λhi=>⟨(a hi).1,λx H3 z=>?_⟩,b⟩;obtain⟨rfl,r⟩:=(a hi).2 x H3 z;exact⟨.refl d,r⟩
def Ka(X:Cx)(wi:TI)(it:J3):Prop:=∀(F:Addr->Prop)(H:Hp)(σ:St)(env:En)(R:It->Hp->Prop),ky X.K F H σ env->it env≠.bad->(∀ts,it env=.ok ts->∀J F' H',xN F H F' H'->Yy X.K F' H' J ts->R J H')->(∀x,it env=.exc x->WE X F H σ x)->wi σ H R
def Ux(X:Cx)(tg iter:Expr)(it:J3):Prop:=∃wi,PI X tg iter wi/\Ka X wi it
def a9.two(h:a9 X tg iter it):Ux X tg iter it:=let⟨wi,p,s⟩:=h;⟨wi,p,λF H σ env R a b c d=>s F H σ env R a b (λts e J F' H' r y=>c ts e J F' H' r y.two) d⟩
def qF(mg:MG)(mt:MT)(me:ME):En->List T->gl (List T)|_,[]=>.ok []|env,t::ts=>match mg t env with|none=>.bad|some e1=>match mt (zJ e1)with|.ok true=>(match me (zJ e1)with|.ok r=>(match qF mg mt me (zJ e1) ts with|.ok rs=>.ok (r.2::rs)|_=>.bad)|_=>.bad)|.ok false=>qF mg mt me (zJ e1) ts|_=>.bad
def jU(it:J3)(mg:MG)(mt:MT)(me:ME)(n:Nat)(slots:List Nat):ME:=λenv=>(it env).bind λts=>if ts.length<=sizeLine then(match qF mg mt me (List.replicate n none++(kU env slots).map frz1) ts with|.ok rs=>.ok (true,.lst rs)|_=>.bad)else .bad
def W2(env:En):∀(i:Nat)(t:T),(zJ env)[i]?≠some (some (true,t)):=λi t h=>by obtain⟨u,e,_⟩:=oq h;cases e
def ky.stm{K:W.Frag}{F:Addr->Prop}{H:Hp}{σ:St}{env:En}(R:ky K F H σ env)(hl:env.length=σ.length)(hn:∀(i:Nat)(t:T),env[i]?≠some (some (true,t))):jb K ⟨λ_=>False,H,F⟩ F H σ env:=⟨⟨R.dom,λ_ h=>h,λ_ h=>.inl h,λ_ _ h _=>h,λ_ _ z=>z⟩,hl,λi t h=>R.vals i ↑P h,λi t h=>absurd h (hn i t),λi j t t' a h _ _ _=>absurd h (hn i t)⟩
section
variable{X:Cx}{scope:Scope}{cl:List (Str×Addr)}{xs caps:List Str}{slots:List Nat}{iter elt tg:Expr}{ifs:List Expr}{pos:Pos}{it:J3}{mg:MG}{mt:MT}{me:ME}
def ES(X:Cx)(scope:Scope)(cl:List (Str×Addr))(N:List Str)(ifs:List Expr)(m:MT):Prop:=∃t,∀C ex pn s₀ H₀,WD ↑G ifs t/\kN ↑G t m
def C1(X:Cx)(scope:Scope)(cl:List (Str×Addr))(N:List Str)(e:Expr)(m:ME):Prop:=∃t,∀C ex pn s₀ H₀,PE ↑G e t/\wq ↑G t m
def C2(X:Cx)(scope:Scope)(cl:List (Str×Addr))(N:List Str)(e:Expr)(m:MG):Prop:=∃g,∀C ex pn s₀ H₀,PG ↑G e g/\M1 ↑G g m
theorem Mq(h:∀C ex pn s₀ H₀,jK ↑G e m):C1 X scope cl N e m:=by
 refine⟨λσ H Q=>∀C ex pn s₀ H₀,∃t,PE ↑G e t/\t σ H Q,λC ex pn s₀ H₀=>⟨λpins s σ H Q I w=>?_,λF H σ env Q R nb ok exx C' ex' pn' s₀' H₀'=>?_⟩⟩;·obtain⟨t,p,w⟩:=w C ex pn s₀ H₀;exact p pins s σ H Q I w
 ·obtain⟨t,p,s⟩:=h C' ex' pn' s₀' H₀';exact⟨t,p,s F H σ env Q R nb ok λy z ev F' H' xt ix=>ix.elim⟩
theorem Mr(h:∀C ex pn s₀ H₀,oz ↑G ifs m):ES X scope cl N ifs m:=by
 refine⟨λσ H Q=>∀C ex pn s₀ H₀,∃t,WD ↑G ifs t/\t σ H Q,λC ex pn s₀ H₀=>⟨λpins s σ H Q I w=>?_,λF H σ env Q R nb ok exx C' ex' pn' s₀' H₀'=>?_⟩⟩;·obtain⟨t,p,w⟩:=w C ex pn s₀ H₀;exact p pins s σ H Q I w
 ·obtain⟨t,p,s⟩:=h C' ex' pn' s₀' H₀';exact⟨t,p,s F H σ env Q R nb ok λy z ev F' H' xt ix=>ix.elim⟩
theorem Ms(h:∀C ex pn s₀ H₀,M2 ↑G e m):C2 X scope cl N e m:=by
 refine⟨λv σ H Q=>∀C ex pn s₀ H₀,∃g,PG ↑G e g/\g v σ H Q,λC ex pn s₀ H₀=>⟨λpins s σ H v u Q I rv w=>?_,λB F H σ env env' v t Q R iv e q C' ex' pn' s₀' H₀'=>?_⟩⟩;·obtain⟨g,p,w⟩:=w C ex pn s₀ H₀;exact p pins s σ H v u Q I rv w
 ·obtain⟨g,p,s⟩:=h C' ex' pn' s₀' H₀';exact⟨g,p,s B F H σ env env' v t Q R iv e q⟩
theorem Kb{K:W.Frag}{F:Addr->Prop}{H:Hp}{σ:St}{env:En}{n:Nat}(R:ky K F H σ env):ky K F H (List.replicate n none++qu σ slots) (List.replicate n none++(kU env slots).map frz1):=by
 refine⟨R.dom,λi r h=>?_⟩;have hlt:¬i<n:=λz=>by rw[List.getElem?_append_left (by simpa using z),List.getElem?_replicate,if_pos z]at h;cases h
 obtain⟨i,rfl⟩:∃j,i=n+j:=⟨i-n,by omega⟩;rw[List.getElem?_append_right (by rw[List.length_replicate];omega),List.length_replicate,Nat.add_sub_cancel_left]at h;rw[List.getElem?_append_right (by rw[List.length_replicate];omega),List.length_replicate,Nat.add_sub_cancel_left];rw[List.getElem?_map]at h;unfold kU at h;rw[List.getElem?_map]at h;cases hk:slots[i]? with|none=>rw[hk]at h;cases h|some k=>rw[hk]at h;have h:frz1 ((env[k]?).getD none)=some r:=Option.some.inj h;cases e:env[k]? with|none=>rw[e]at h;cases h|some o=>rw[e]at h;cases o with|none=>cases h|some q=>obtain⟨b,t⟩:=q;cases h;obtain⟨w,sw,q⟩:=R.vals k (b,t) e;refine⟨w,?_,q⟩;unfold qu;rw[List.getElem?_map,hk];show some ((σ[k]?).getD none)=some (some w);rw[sw];rfl
theorem Kc:(List.replicate n none++(kU env slots).map frz1:En).length=(List.replicate n none++qu σ slots:St).length:=by simp[kU,qu]
theorem Ke:∀(i:Nat)(t:T),(List.replicate n none++(kU env slots).map frz1:En)[i]?≠some (some (true,t)):=λi t h=>by
 by_cases z:i<n;·rw[List.getElem?_append_left (by simpa using z),List.getElem?_replicate,if_pos z]at h;cases h
 ·rw[List.getElem?_append_right (by rw[List.length_replicate];omega),List.getElem?_map]at h;cases e:(kU env slots)[i-(List.replicate n (none:Option RV)).length]? with|none=>rw[e]at h;cases h|some o=>rw[e]at h;cases o with|none=>cases h|some q=>obtain⟨b,u⟩:=q;cases h
theorem W3{wi:TI}{g:TG}{tt:TT}{te:TE}(si:Ka X wi it)(sg:M1 (zr X scope cl 0 (xs++caps) [] [] X.s₀ X.H₀) g mg)(st:kN (zr X scope cl 0 (xs++caps) [] [] X.s₀ X.H₀) tt mt)(se:wq (zr X scope cl 0 (xs++caps) [] [] X.s₀ X.H₀) te me):wq X (Jh wi g tt te xs.length slots) (jU it mg mt me xs.length slots):=by
 intro F H σ env Q RE nb ok exx;unfold jU at nb ok exx;refine si F H σ env _ RE ↑d (λts e1 J F1 H1 x1 Y=>?_) λx z=>exx x ↑E;rw[e1,bind_ok]at nb ok;by_cases hl:ts.length<=sizeLine;·rw[if_pos hl]at nb ok;have R0:ky X.K F1 H1 (List.replicate xs.length none++qu σ slots) (List.replicate xs.length none++(kU env slots).map frz1):=Kb (RE.mono x1);have L0:=Kc (slots:=slots) (σ:=σ) (env:=env) (n:=xs.length);have N0:=Ke (slots:=slots) (env:=env) (n:=xs.length);generalize(List.replicate xs.length none++(kU env slots).map frz1:En)=env0 at R0 L0 N0 nb ok;cases hcl:qF mg mt me env0 ts with|bad=>rw[hcl]at nb;exact absurd rfl nb|exc y=>rw[hcl]at nb;exact absurd rfl nb|ok out=>
   rw[hcl]at ok;intro D hD;refine⟨λi m ys τ H=>m=ts.length-i/\i<=ts.length/\ys.length<=i/\H D=some (.lst ys)/\∃Fc us rest en,¬Fc D/\xN F1 H1 Fc H/\IsAll X.K Fc H us ys/\ky X.K Fc H τ en/\en.length=τ.length/\(∀(i:Nat)(t:T),en[i]?≠some (some (true,t)))/\qF mg mt me en (ts.drop i)=.ok rest/\us++rest=out,⟨ts.length,by simp,Nat.zero_le _,Nat.le_refl _,zF,F1,[],out,env0,λf=>x1.dom D f hD,xN.alloc x1.dom hD,IsAll.nil,R0.mono (xN.alloc x1.dom hD),L0,N0,by simpa using hcl,rfl⟩,?_⟩;rintro i m ys τ H2⟨rfl,hi,hyl,hHD,Fc,us,rest,en,nD,xc,iu,RC,LC,NC,hrest,hout⟩;refine⟨hHD,?_⟩;obtain⟨yg,ysp⟩:=Y Fc H2 RC.dom xc.kept i;by_cases hlt:i<ts.length
   ·obtain⟨go,yl⟩:=yg hlt;refine .inr ⟨go,λv H3 y=>?_⟩;obtain⟨xt,t,hti,iv⟩:=yl v H3 y;have hHD:=xt.same D _ hHD;have xc:=xc.trans xt;have iu:=iu.mono xt.kept;have RC:=RC.mono xt;have hd:ts.drop i=t::ts.drop (i+1):=by
     rw[List.drop_eq_getElem_cons hlt];have:ts[i]?=some ts[i]:=by simp[hlt]
     rw[this]at hti;cases hti;rfl
    rw[hd,qF]at hrest;cases hg:mg t en with|none=>rw[hg]at hrest;cases hrest|some e2=>
    rw[hg]at hrest;dsimp only at hrest;refine sg _ Fc H3 τ en e2 v t _ (RC.stm LC NC) iv hg λτ' R'=>?_;have RH:ky X.K Fc H3 τ' (zJ e2):=R'.hid;have LH:(zJ e2).length=τ'.length:=by unfold zJ;rw[List.length_map];exact R'.len
    have NH:=W2 e2;generalize zJ e2=en2 at RH LH NH hrest;have keepD:∀{F':Addr->Prop}{H':Hp},xN Fc H3 F' H'->¬F' D/\H' D=some (.lst ys):=by
     intro F' H' xt;refine⟨λf=>?_,xt.same D _ hHD⟩;rcases xt.new D f with f|f;·exact nD f
     ·rw[hHD]at f;cases f
    refine st Fc H3 _ _ _ RH (λz=>by rw[z]at hrest;cases hrest) (λb eb F4 H4 x4=>?_) λy z=>by rw[z]at hrest;cases hrest
    rw[eb]at hrest;cases b with|false=>rw[if_neg Bool.false_ne_true];dsimp only at hrest;obtain⟨n4,d4⟩:=keepD x4;exact⟨ts.length-(i+1),by omega,rfl,hlt,by omega,d4,F4,us,rest,en2,n4,xc.trans x4,iu.mono x4.kept,RH.mono x4,LH,NH,hrest,hout⟩|true=>
     rw[if_pos rfl];dsimp only at hrest;refine se.val (RH.mono x4) (λz=>by rw[z]at hrest;cases hrest) (λr er w F5 H5 x5 iw=>?_) λy z=>by rw[z]at hrest;cases hrest
     rw[er]at hrest;dsimp only at hrest;cases hcl2:qF mg mt me en2 (ts.drop (i+1))with|bad=>rw[hcl2]at hrest;cases hrest|exc y=>rw[hcl2]at hrest;cases hrest|ok rest2=>
      rw[hcl2]at hrest;have hr:r.2::rest2=rest:=by injection hrest
      obtain⟨n5,d5⟩:=keepD (x4.trans x5);have x15:=(xc.trans x4).trans x5;have ku:gk F5 F5 H5 (jm H5 D (.lst (ys++[w]))):=wT n5 d5 (.inl ⟨_,rfl⟩);have xu:xN F1 H1 F5 (jm H5 D (.lst (ys++[w]))):=by
       refine⟨λa o h=>?_,x15.sub,x15.new,λa f=>?_⟩;·rw[zh (zC h hD)];exact x15.same a o h
       ·have:a≠D:=by rintro rfl;exact n5 f
        rw[zh this];exact x15.dom a f
      have R5:ky X.K F5 H5 τ' en2:=(RH.mono x4).mono x5;refine⟨d5,by omega,ts.length-(i+1),by omega,rfl,hlt,by rw[List.length_append];simp;omega,zF,F5,us++[r.2],rest2,en2,n5,xu,?_,⟨xu.dom,λj q h=>?_⟩,LH,NH,hcl2,by rw[<-hout,<-hr];simp⟩;·exact((iu.mono (x4.trans x5).kept).append (IsAll.cons iw IsAll.nil)).mono ku
      ·obtain⟨v',s',i'⟩:=R5.vals j q h;exact⟨v',s',i'.mono ku⟩
   ·have hli:i=ts.length:=by omega
    subst hli;rw[List.drop_length,qF]at hrest;have hr:rest=[]:=by injection hrest with hrest;exact hrest.symm
    subst hr;rw[List.append_nil]at hout;subst hout;refine .inl ⟨ysp ↑e,?_⟩;refine ok _ rfl _ Fc H2 (x1.trans xc) ?_;unfold kL;rw[if_pos rfl];exact⟨D,rfl,nD,jv x1.same hD,ys,hHD,iu⟩
 ·rw[if_neg hl]at nb;exact absurd rfl nb
end
end L3
namespace L2
open PySem PySem.Spec PyProof.Rows
def iJ.more(S:iJ X scope cl x caps slots)(nd:(xs++caps).Nodup):Jg X scope cl xs caps slots:=⟨S.kind,S.nocell,S.names,S.clos,S.sub,S.has,S.cap,nd,S.len⟩
def Kf(hc:X.calm=true)(S:Jg X scope cl xs caps slots)(hi:PI X tg iter wi)(pg:∀C ex pn s₀ H₀,PG ↑L tg g)(ht:∀C ex pn s₀ H₀,WD ↑L ifs tt)(he:∀C ex pn s₀ H₀,PE ↑L elt te)(hs:∀v,foldedSetIterable iter X.env v=pure v):PE X ↑aD (Jh wi g tt te xs.length slots):=by intro pins s σ H Q I h;rw[eval_ListComp];exact Ji (use:=none) I h (λD C H5 s6 m hn f keep q=>⟨m,hn,λh' hsb=>⟨.ref D,H5,keep h' hsb,rfl,q⟩⟩) hc S hi pg ht he hs
end L2
namespace L3
open PySem PySem.Spec PyProof.Rows L2
section
variable{X:Cx}{L:Addr}{scope:Scope}{x:Str}{xs caps:List Str}{slots:List Nat}{iter elt tg:Expr}{ifs:List Expr}{pos:Pos}{it:J3}{mg:MG}{mt:MT}{me:ME}
theorem lW(hc:X.calm=true)(C:jp X.N X.env.scope scope x caps slots)(nd:(xs++caps).Nodup)(hcl:X.env.cells=cellsFrom L X.env.scope.names [])(hi:Ux X tg iter it)(hg:∀cl C ex pn s₀ H₀,M2 ↑L tg mg)(ht:∀cl C ex pn s₀ H₀,oz ↑L ifs mt)(he:∀cl C ex pn s₀ H₀,jK ↑L elt me)(hs:∀v,foldedSetIterable iter X.env v=pure v:=by intro _;rfl):jK X ↑aD (jU it mg mt me xs.length slots):=by obtain⟨cl,S⟩:=eu C hcl;obtain⟨wi,pi,si⟩:=hi;obtain⟨g,hg⟩:=Ms (hg cl);obtain⟨tt,ht⟩:=Mr (ht cl);obtain⟨te,he⟩:=Mq (he cl);exact⟨_,Kf hc (S.more nd) pi (λC ex pn s₀ H₀=>(hg C ex pn s₀ H₀).1) (λC ex pn s₀ H₀=>(ht C ex pn s₀ H₀).1) (λC ex pn s₀ H₀=>(he C ex pn s₀ H₀).1) hs,W3 si (hg 0 [] [] X.s₀ X.H₀).2 (ht 0 [] [] X.s₀ X.H₀).2 (he 0 [] [] X.s₀ X.H₀).2⟩
end
def Kg:List T->Option RV|[.bl b]=>some (false,.int (if b then 1 else 0))|_=>none
def Jj:vo X (.type "int") (t8 X.K Kg):=by intro pins s σ H xs us Q I r h;obtain⟨F,ts,rv,d,ia,e,q⟩:=h;match ts,e with|[.bl b],e=>cases e;obtain⟨v,rfl,g⟩:=ut ia;unfold Is at g;subst g;obtain⟨u,rfl,ru⟩:=gh r;cases ru;exact call_int_bool ⟨.int _,H,I.tok _,⟨s.toks,rfl⟩,xE d xm q rfl⟩
section
variable{P:Program}{w:World}{K:W.Frag}{h:Heap}{mg:Str->Option Value}{y:Str}{a:Addr}
abbrev ak:=Str×Tok×Value×V×T
theorem eL:∀rows:List ak,Pairs (jC P w) (rows.map λr=>(⟨US w (.inr r.1),.str r.1 r.2.1,r.2.2.1⟩:DictEntry)) (rows.map λr=>((.inr r.1:Key),r.2.2.1))|[]=>.nil|r::rows=>.cons (ft P w r.1 r.2.1) rfl (eL rows)
theorem Yz:∀{rows:List ak},(∀r∈rows,RelV r.2.2.2.1 r.2.2.1)->KV (rows.map λr=>((.inr r.1:Key),r.2.2.2.1)) (rows.map λr=>((.inr r.1:Key),r.2.2.1))|[],_=>.nil|r::rows,h=>.cons ⟨rfl,h r List.mem_cons_self⟩ (Yz λx hx=>h x ↑av)
theorem oX(z:Str):∀{rows:List ak},(∀r∈rows,Is K F H r.2.2.2.2 r.2.2.2.1)->(∀t,(rows.map λr=>(r.1,r.2.2.2.2)).lookup z=some t->∃v,jY (rows.map λr=>((.inr r.1:Key),r.2.2.2.1)) (.inr z)=some v/\Is K F H t v)/\((rows.map λr=>(r.1,r.2.2.2.2)).lookup z=none->jY (rows.map λr=>((.inr r.1:Key),r.2.2.2.1)) (.inr z)=none)
 |[],_=>⟨λt h=>(by cases h),λ_=>rfl⟩|r::rows,h=>by
  have ih:=oX z λx hx=>h x ↑av;by_cases e:z=r.1
  ·subst e;have e1:jY ((r::rows).map λr=>((.inr r.1:Key),r.2.2.2.1)) (.inr r.1)=some r.2.2.2.1:=by simp[jY]
   have e2:((r::rows).map λr=>(r.1,r.2.2.2.2)).lookup r.1=some r.2.2.2.2:=by simp
   rw[e1,e2];exact⟨λt ht=>(by cases ht;exact⟨_,rfl,h r List.mem_cons_self⟩),λz=>(by cases z)⟩
  ·have e1:jY ((r::rows).map λr=>((.inr r.1:Key),r.2.2.2.1)) (.inr z)=jY (rows.map λr=>((.inr r.1:Key),r.2.2.2.1)) (.inr z):=by have:¬(Sum.inr r.1:Key)=.inr z:=λq=>e (Sum.inr.inj q).symm;simp[jY,this]
   have e2:((r::rows).map λr=>(r.1,r.2.2.2.2)).lookup z=(rows.map λr=>(r.1,r.2.2.2.2)).lookup z:=by simp[List.lookup,beq_eq_false_iff_ne.mpr e]
   rw[e1,e2];exact ih
theorem YA(rows:List ak)(X:K.In h)(G:h.Ns mainGlobals mg)(g:W.nsIn K mainGlobals y=some (some (.ref a)))(l:K.lookup a=some ⟨.type "dict",none,.dict es ep,#[]⟩)(he:es.toList=rows.map λr=>(⟨US w (.inr r.1),.str r.1 r.2.1,r.2.2.1⟩:DictEntry))(hs:(a==sysModules)=false)(nd:(rows.map (·.1)).Nodup)(hr:∀r∈rows,RelV r.2.2.2.1 r.2.2.1)(hi:∀(F:Addr->Prop)(H:Hp),∀r∈rows,Is K F H r.2.2.2.2 r.2.2.2.1):∃a kvs,qQ P w K mg y a kvs (rows.map λr=>(r.1,r.2.2.2.2)):=by
 refine⟨a,_,W.mg_of X G g,hs,⟨_,es,ep,_,l,⟨rfl,rfl,rfl⟩,rfl,λe he'=>?_,?_,?_,Yz hr⟩,λF H z=>oX z (hi F H)⟩
 ·have:e∈es.toList:=by simpa using he'
  rw[he]at this;obtain⟨r,_,rfl⟩:=List.mem_map.mp this;exact⟨.inr r.1,ft P w r.1 r.2.1,rfl⟩
 ·rw[he];exact eL rows
 ·unfold List.Nodup at nd⊢;rw[List.pairwise_map]at nd;rw[List.map_map,List.pairwise_map];exact nd.imp λhab z=>hab (Sum.inr.inj z)
end
def uz(t u:T):Option RV:=match t with|.int _=>(match u with|.bl _=>some ↑aA|u=>ZU t u)|t=>ZU t u
def cW{X:Cx}:gF X (compareOp .Is) (rT X.K uz):=by
 intro pins s σ H x y v u Q I rx ry h;obtain⟨F,tx,ty,rv,d,ix,iy,e,q⟩:=h;have old:ZU tx ty=some rv->wpAny ↑b X.A (compareOp .Is v u) ↑aK X.xe s:=λe=>EH pins s σ H x y v u Q I rx ry ⟨F,tx,ty,rv,d,ix,iy,e,q⟩;cases tx;case int i=>
  cases ty;case bl b=>cases e;unfold Is at ix iy;subst ix iy;obtain⟨t,rfl⟩:=rx;cases ry;exact wpAny_is_plain rfl ⟨.bl false,H,I,rfl,xE d jZ q rfl⟩
  all_goals exact old e
 all_goals exact old e
def fG{Q:ak->Prop}:∀r∈([]:List ak),Q r:=λ_ h=>nomatch h
def jx{Q:ak->Prop}{r:ak}{rows:List ak}(h:Q r)(t:∀r∈rows,Q r):∀x∈r::rows,Q x:=λx hx=>(List.mem_cons.mp hx).elim (λe=>e▸h) (t x)
def HN{K:W.Frag}{F:Addr->Prop}{H:Hp}{p:Addr}{od:Option Addr}{a b:Bool}{n:Nat}{sl:Array (Option Value)}(l:K.lookup p=some ⟨.type "tuple",od,.seq #[.bool a,.bool b] n,sl⟩):Is K F H (.tup [.bl a,.bl b]) (.ref p):=by unfold Is;exact⟨p,[.bl a,.bl b],rfl,.inr ⟨_,_,_,l,rfl,rfl,by show 2<=sizeLine;decide,.cons rfl (.cons rfl .nil)⟩,IsAll.cons jZ (IsAll.cons jZ IsAll.nil)⟩
def c5(i:Nat)(m:ME):MS:=λenv=>match env[i]? with|some (some (true,.lst _))=>(match jR m env with|.ok (r,env')=>(match env'[i]? with|some (some (true,.lst ts))=>(match r with|(true,.lst us)=>if ts.length+us.length<=sizeLine then .nx (env'.set i (some (true,.lst (ts++us))))else .bad|_=>.bad)|_=>.bad)|.exc x=>.exc x env|.bad=>.bad)|_=>.bad
def Kh{i:Nat}{st:Stmt}(he:jK X e m)(hp:∀te,PE X e te->PS X st (JT (Ez X.K "list" JZ (k8 i) (V0 te QP)))):bZ X st (c5 i m):=by
 obtain⟨te,pe,se⟩:=he;refine⟨_,hp te pe,?_⟩;intro B F H σ env D R w;unfold c5 at w;split at w
 ·rename_i ts0 hi;obtain⟨a,s,nf,fr,vs,hH,iv⟩:=R.owns i _ hi;refine⟨.ref a,s,.inl ⟨rfl,vs,.inl (.inl hH)⟩,?_⟩;refine se.run R (λr env' er v F' H' R' iv' old kp=>?_) (λx er ev F' H' R' ix pins s' I=>?_) λer=>?_
  ·rw[er]at w;dsimp only at w;split at w
   ·rename_i ts' hi';split at w
    ·rename_i us;split at w;·rename_i hl;obtain⟨b,rfl,nfb,hb0,_,zs,hB,iz⟩:=iv'.there rfl;obtain⟨a',s',nf',fr',vs',hH',iv2⟩:=R'.owns i _ hi';rw[s]at s';cases s';refine⟨a,b,vs',zs,rfl,rfl,hH',hB,by rw[<-iv2.len,<-iz.len];exact hl,?_⟩;refine w F' _ σ (R'.mut hi' s ⟨vs'++zs,zF,?_⟩);exact(iv2.append iz).mono (wT nf' hH' (.inl ⟨_,rfl⟩))
     ·exact w.elim
    ·exact w.elim
   ·exact w.elim
  ·rw[er]at w;exact w ev F' H' σ R' ix pins s' I
  ·rw[er]at w;exact w
 ·exact w.elim
def xI(ha:jK X a ma)(hb:jK X b mb)(hu:X.A.units+1<cLine:=by exact dX hr)(hs:bM b:=by exactλ_ _=>rfl):jK X (.Subscript a b pos) (m2 zk ma mb):=gJ hu ha hb hs
def xT(ho:gF X (compareOp op) (rT X.K g))(ha:jK X a ma)(hb:jK X b mb)(hm:behindInMarks op b=false:=by exact qq _):o9 X (.Compare a [op] [b] pos) (zX (m2 g ma mb)):=kb ho xD ha hb hm
def xM(ho:gF X (compareOp op) (rT X.K g))(ha:jK X a ma)(hb:jK X b mb)(hm:behindInMarks op b=false:=by exact qq _):jK X (.Compare a [op] [b] pos) (m2 g ma mb):=Vg ho xD ha hb hm
def xO(ho:gF X (binaryOp o) (rT X.K g))(ha:jK X a ma)(hb:jK X b mb):jK X (.BinOp a o b pos) (m2 g ma mb):=Iu ho xD ha hb
def oE(hu:X.A.units+40<cLine:=by exact eA hr):gF X (compareOp .Eq) (rT X.K zG):=ZV hu
def oN(hu:X.A.units+40<cLine:=by exact eA hr):gF X (compareOp .NotEq) (rT X.K wS):=Gb hu
def xC(C:x8 X.prog X.w X.K X.mg X.base k x ps f)(ha:Zs X (e::es) mA)(hR:xV k X.A:=by exact hr.mono ↑a)(hg:Gl X x:=by rfl)(hdb:(x==↑t)=false:=by decide)(he:starEach (e::es) X.env=↑M::starEach es X.env:=by rfl)(hpl:(backTo pos ↑aL).any (·.1)=false:=by rfl):jK X ↑al (z9 f mA):=qA C hR hg ha hdb he hpl
end L3
set_option maxHeartbeats 4000000
namespace Law
open PySem L2 L3
def top(i:Nat):Stmt:=PySem.Challenge.pw_facestead_k11_faces_written.main.body.getD i (.Pass ⟨0,0,0,0⟩)
abbrev HP:Stmt:=top 0
abbrev cX:Stmt:=top 9
abbrev eM:Stmt:=top 10
abbrev uZ:Stmt:=top 11
abbrev n6:Stmt:=top 12
abbrev cY:Stmt:=top 13
abbrev cZ:Stmt:=top 14
abbrev fH:Stmt:=top 21
abbrev n8:Stmt:=top 22
abbrev qR:Stmt:=top 23
abbrev fI:Stmt:=top 24
abbrev fJ:Stmt:=top 25
abbrev fL:Stmt:=top 26
abbrev lf:Stmt:=top 27
abbrev u0:Stmt:=top 28
abbrev eN:Stmt:=top 29
abbrev eO:Stmt:=top 30
abbrev b0:Stmt:=top 31
abbrev eP:Stmt:=top 38
abbrev fO:Stmt:=top 39
abbrev fQ:Stmt:=top 40
abbrev gq:Stmt:=top 41
abbrev fb:Stmt:=top 42
abbrev mx:Stmt:=top 43
abbrev eQ:Stmt:=top 44
abbrev kn:Stmt:=top 45
abbrev u4:Stmt:=top 46
abbrev n9:Stmt:=top 47
abbrev wZ:Stmt:=top 48
abbrev ng:Stmt:=top 49
abbrev fU:Stmt:=top 50
abbrev lg:Stmt:=top 51
abbrev fV:Stmt:=top 53
abbrev u5:Stmt:=top 54
abbrev nh:Stmt:=top 55
abbrev ni:Stmt:=top 56
abbrev u6:Stmt:=top 57
abbrev qe:Stmt:=top 58
abbrev nj:Stmt:=top 59
abbrev eR:Stmt:=top 60
abbrev b7:Stmt:=top 61
abbrev oY:Stmt:=j0 (top 2) 0
abbrev WF:Stmt:=j0 (top 15) 0
abbrev Uy:Stmt:=j0 (top 15) 1
abbrev GM:Stmt:=j0 (top 15) 2
abbrev GN:Stmt:=j0 (top 15) 3
abbrev Ki:Stmt:=j0 (top 15) 4
abbrev Qy:Stmt:=j0 (top 15) 5
abbrev Uz:Stmt:=j0 (top 15) 6
abbrev GO:Stmt:=j0 (top 15) 7
abbrev UA:Stmt:=j0 (top 15) 8
abbrev UB:Stmt:=j0 (top 16) 0
abbrev YB:Stmt:=j0 (top 17) 0
abbrev Qz:Stmt:=j0 (top 17) 1
abbrev Kj:Stmt:=j0 (top 17) 2
abbrev Kk:Stmt:=j0 (top 17) 3
abbrev WG:Stmt:=j0 (top 17) 4
abbrev QA:Stmt:=j0 (top 17) 5
abbrev YC:Stmt:=j0 (top 18) 0
abbrev QB:Stmt:=j0 (top 18) 1
abbrev Kl:Stmt:=j0 (top 18) 2
abbrev W5:Stmt:=j0 (top 18) 3
abbrev Km:Stmt:=j0 (top 18) 4
abbrev QC:Stmt:=j0 (top 18) 5
abbrev kW:Stmt:=j0 (top 32) 0
abbrev qZ:Stmt:=j0 (top 32) 1
abbrev UC:Stmt:=j0 (top 32) 2
abbrev WH:Stmt:=j0 (top 32) 3
structure CA where
 FaceError:Addr
 NoFace:Addr
 NoText:Addr
 Kind:Addr
 Bare:Addr
 Record:Addr
 Choice:Addr
 Face:Addr
 memo:List Str->Mo
def gO:List (Str×T):=[("due",.bl true),("may",.bl false)]
def wW:List (Str×T):=[("ds",.tup [.bl true,.bl true]),("d",.tup [.bl true,.bl false]),("s",.tup [.bl false,.bl true]),("-",.tup [.bl false,.bl false])]
def ko:List (Str×T):=[("made",.bl true),("told",.bl false)]
def pG:List (Str×T):=[("shut",.bl true),("open",.bl false)]
theorem uA:ze ["text","start","signs","end"] ["text","start","signs"] (za cX):=ze.of
def W6:MS:=(zc (zn 3 (mV 1)) (zc (je (jO (zX (m2 gm (mV 3) ↑X)) (zX (m2 fw (m2 zk ↑m (mV 3)) (mV 2)))) (dS 3 uR ↑c) 100000) (xx 3)))
def pH:MF:=zR 4 3 W6
theorem lh:ze ["text","start","end"] ["text","start"] (za eM):=ze.of
def Jk:MS:=(zc (zn 2 (z9 pH (z3 ↑m (z3 (mV 1) (z3 (mC (.str "abcdefghijklmnopqrstuvwxyz")) z5))))) (zt (vA (zX (m2 Vm (m2 iP (mV 2) (mV 1)) (mC (.int 12)))) (mV 2) (mV 1))))
def xH:MF:=zR 3 2 Jk
theorem u7:ze ["text","start","end"] ["text","start"] (za uZ):=ze.of
def al:MS:=(zc (zn 2 (z9 pH (z3 ↑m (z3 (m2 zg (mV 1) ↑c) (z3 (mC (.str "0123456789")) z5))))) (zt (vA (zX (m2 om (mV 2) (m2 zg (mV 1) ↑c))) (mV 2) (mV 1))))
def vJ:MF:=zR 3 2 al
theorem kq:ze ["text","start","end","behind"] ["text","start"] (za n6):=ze.of
def am:MS:=(zc (zn 2 (mV 1)) (zc (je (zX (m2 zG ↑g (mC (.str ".")))) (zc (zn 3 (z9 xH (z3 ↑m (z3 (m2 zg (mV 2) ↑c) z5)))) (zc (jN (zX (m2 zG (mV 3) (m2 zg (mV 2) ↑c))) (xx 2) zq) (zn 2 (mV 3)))) 100000) (xx 2)))
def xJ:MF:=zR 4 2 am
theorem Jl:ze ["text"] ["text"] (za cY):=ze.of
def W7:MS:=(zt (jP (m2 wS ↑m (mC (.str ""))) (m2 zG (z9 xH (z3 ↑m (z3 ↑l z5))) ↑X)))
def xp:MF:=zR 1 1 W7
theorem wj:ze ["text","awaited","at","end"] ["text"] (za cZ):=ze.of
def W8:MS:=(zc (zn 1 (jo z5)) (zc (zn 2 ↑l) (je (km (mC (.bl true))) ↑a0 100000)))
def m_is_kind:MF:=zR 4 1 W8
theorem ao:ze ["names"] ["names"] (za fH):=ze.of
def fW:MS:=(zt (jP (zl uU (z3 (zW (jF ↑m) zK (z9 xp (z3 ↑m z5)) []) z5)) (m2 zG (uX ↑m) ↑X)))
def xz:MF:=zR 1 1 fW
theorem c7:ze ["looked","text"] ["looked","text"] (za n8):=ze.of
def jj(c:CA):MF:=cQ c.memo m_is_kind
theorem aq:ze ["looked","parts"] ["looked","parts"] (za qR):=ze.of
def fX(c:CA):MS:=(zt (jP (z9 xz (z3 (zW (jF (mV 1)) zK (m2 zk ↑m ↑l) []) z5)) (zl uU (z3 (zW (jF (mV 1)) zK (z9 (jj c) (z3 (mV 1) (z3 ↑ai z5))) [0]) z5))))
def xb(c:CA):MF:=zR 2 2 (fX c)
theorem lI:ze ["looked","title","made"] ["looked","title","made"] (za fI):=ze.of
def eS(c:CA):MS:=(zc (jN (w9 (zX (m2 fw (mV 1) (mC (.tup (List.map T.str ["num","word"]))))) (xk (km (z9 (jj c) (z3 ↑m ↑V))))) ↑ap zq) (zt (iU (z9 xp ↑V) (f8 (mV 2)))))
def jq(c:CA):MF:=zR 3 3 (eS c)
theorem lJ:ze ["made","due","sure"] ["made","due","sure"] (za fJ):=ze.of
def fY:MS:=(zc (jN (km ↑m) (zt (iU (mV 1) (f8 (mV 2)))) zq) (zt (f8 (mV 1))))
def wk:MF:=zR 3 3 fY
theorem au:ze ["looked","title","made","fields"] ["looked","title","made","fields"] (za fL):=ze.of
def oZ(c:CA):MS:=(zc (jN (w9 (xk (km (z9 (jq c) (z3 ↑m (z3 (mV 1) ↑az))))) (xk (km (z9 (xb c) (z3 ↑m (z3 (mV 3) z5)))))) ↑ap zq) (zt (zl uU (z3 (zW (jF (mV 3)) zK (z9 wk (z3 (mV 1) (z3 ↑ag (z3 ↑af z5)))) [2]) z5))))
def vp(c:CA):MF:=zR 4 4 (oZ c)
theorem aw:ze ["looked","title","made","forms"] ["looked","title","made","forms"] (za lf):=ze.of
def r0(c:CA):MS:=(zt (jP (z9 (jq c) (z3 ↑m (z3 (mV 1) ↑az))) (z9 (xb c) (z3 ↑m (z3 (mV 3) z5)))))
def vq(c:CA):MF:=zR 4 4 (r0 c)
theorem eT:ze ["looked","name","plain","places","back","faults"] ["looked","name","plain","places","back","faults"] (za u0):=ze.of
def c8(c:CA):MS:=(zc (jN (w9 (xk (km (z9 xp ↑V))) (xk (km (z9 (jj c) (z3 ↑m (z3 (mV 4) z5)))))) ↑ap zq) (zc (jN (w9 (zX (m2 gm (mV 2) ↑l)) (zX (m2 om (mV 2) (zl jA (z3 (mV 3) z5))))) ↑ap zq) (zt (jP (z9 (xb c) (z3 ↑m (z3 (mV 3) z5))) (z9 xz (z3 (mV 5) z5))))))
def xR(c:CA):MF:=zR 6 6 (c8 c)
theorem re:ze ["looked","piece"] ["looked","piece"] (za eN):=ze.of
def Jm(c:CA):MS:=(zc (jN (zX (m2 zG (m2 zk (mV 1) ↑l) ↑bb)) (zt (z9 (vp c) (z3 ↑m (z3 (m2 zk (mV 1) ↑c) (z3 (m2 zk (mV 1) ↑i) (z3 (m2 zk (mV 1) ↑k) z5)))))) zq) (zc (jN (zX (m2 zG (m2 zk (mV 1) ↑l) ↑bc)) (zt (z9 (vq c) (z3 ↑m (z3 (m2 zk (mV 1) ↑c) (z3 (m2 zk (mV 1) ↑i) (z3 (m2 zk (mV 1) ↑D) z5)))))) zq) (zt (z9 (xR c) ↑u))))
def vh(c:CA):MF:=zR 2 2 (Jm c)
theorem rf:ze ["parts"] ["parts"] (za eO):=ze.of
def uB:MS:=(zt (zl jS (z3 (zl x9 (z3 ↑m z5)) z5)))
def xi:MF:=zR 1 1 uB
theorem uC:ze ["piece","plain","places"] ["piece"] (za b0):=ze.of
def gr:MS:=(zc (jN (zX (m2 zG (m2 zk ↑m ↑l) ↑bb)) (zt (m2 zg (k5 ↑m zO (zx ↑k)) (jL (z3 (z9 xi (z3 ↑af z5)) z5)))) zq) (zc (jN (zX (m2 zG (m2 zk ↑m ↑l) ↑bc)) (zt (m2 zg (k5 ↑m zO (zx ↑D)) (jL (z3 (z9 xi (z3 (m2 zk ↑m ↑D) z5)) z5)))) zq) (zc (zn 1 ↑ag) (zc (zn 2 (m2 zg (k5 ↑af zO (zx (mV 1))) (z9 xi (z3 (k5 ↑af (zx (mV 1)) zO) z5)))) (zt (m2 zg (k5 ↑m zO (zx ↑k)) (jL (z3 (mV 2) (z3 (m2 zk ↑m ↑D) (z3 (z9 xi (z3 (m2 zk ↑m (mC (.int 5))) z5)) z5))))))))))
def xS:MF:=zR 3 1 gr
theorem li:ze ["due","sure","flags"] ["due","sure"] (za eP):=ze.of
def Jn:MS:=(zc (zn 2 (m2 zg (vA (km ↑m) (mC (.str "d")) (mC (.str ""))) (vA (km (mV 1)) (mC (.str "s")) (mC (.str ""))))) (zt (vA (zX (m2 wS (mV 2) (mC (.str "")))) (mV 2) (mC (.str "-")))))
def qG:MF:=zR 3 2 Jn
theorem jV:ze ["piece","words","name","kind","due","sure"] ["piece"] (za fO):=ze.of
def fZ:MS:=(zc (zn 1 (jo (z3 ↑bb (z3 ↑ai (z3 (vA (km ↑ag) (mC (.str "made")) (mC (.str "told"))) z5))))) (zc (xF (iZ ↑af) (nQ 4 (xy (gN 2) ↑a9)) (c5 1 (jo (z3 (mV 2) (z3 (mV 3) (z3 (z9 qG (z3 (mV 4) (z3 (mV 5) z5))) z5)))))) (xx 1)))
def vO:MF:=zR 6 1 fZ
theorem vc:ze ["piece","words","name","kind"] ["piece"] (za fQ):=ze.of
def pj:MS:=(zc (zn 1 (jo (z3 ↑bc (z3 ↑ai (z3 (vA (km ↑ag) (mC (.str "made")) (mC (.str "told"))) (z3 (vA (km ↑af) (mC (.str "shut")) (mC (.str "open"))) z5)))))) (zc (xF (iZ (m2 zk ↑m ↑D)) (nQ 2 (xy (gN 2) (xy (gN 3) nP))) (c5 1 (jo (z3 (mV 2) (z3 (mV 3) z5))))) (xx 1)))
def vQ:MF:=zR 4 1 pj
theorem xf:ze ["piece","words","name","kind","due"] ["piece"] (za gq):=ze.of
def gu:MS:=(zc (zn 1 (jo (z3 (mC (.str "function")) (z3 ↑ai (z3 (zl dU (z3 ↑ag z5)) (z3 (m2 zk ↑m ↑D) z5)))))) (zc (xF (iZ ↑af) (nQ 3 (xy (gN 2) (xy (gN 3) (xy (gN 4) nP)))) (c5 1 (jo (z3 (mV 2) (z3 (mV 3) (z3 (vA (km (mV 4)) (mC (.str "due")) (mC (.str "may"))) z5)))))) (zt (m2 zg (m2 zg (mV 1) (jo (z3 (mC (.str ":")) z5))) (zl uT (z3 (m2 zk ↑m (mC (.int 5))) z5))))))
def wx:MF:=zR 5 1 gu
theorem my:ze ["piece"] ["piece"] (za fb):=ze.of
def fe:MS:=(zc (jN (zX (m2 zG (m2 zk ↑m ↑l) ↑bb)) (zt (eF oS kE ↑a5 (z3 (z9 vO (z3 ↑m z5)) z5))) zq) (zc (jN (zX (m2 zG (m2 zk ↑m ↑l) ↑bc)) (zt (eF oS kE ↑a5 (z3 (z9 vQ (z3 ↑m z5)) z5))) zq) (zt (eF oS kE ↑a5 (z3 (z9 wx (z3 ↑m z5)) z5)))))
def jW:MF:=zR 1 1 fe
theorem pp:ze ["self","told"] ["self"] (za qZ):=ze.of
def c9(c:CA):MS:=(zc (zn 1 (m2 zg (eD (J9 [c.Face] "told_kinds" ↑m)) (eD (J9 [c.Face] "told_functions" ↑m)))) (zt (zl mf ↑V)))
def xU(c:CA):MF:=zR 2 1 (c9 c)
theorem Jo:ze ["face"] ["face"] (za mx):=ze.of
def b8(c:CA):MS:=(zt (eF oS kE (mC (.str "\n")) (z3 (zW (jF (f9 c.Face "pieces" (xU c) ↑m z5)) zK (z9 jW (z3 ↑m z5)) []) z5)))
def gv(c:CA):MF:=zR 1 1 (b8 c)
theorem W9:ze ["words","size"] ["words","size"] (za eQ):=ze.of
def rg:MS:=(zc (jN (zX (m2 wS (m2 zY ↑X (mV 1)) ↑l)) (zt (mC .non)) zq) (zt (zW (mw (z3 ↑l (z3 ↑X ↑V))) zK (zl jS (z3 (k5 (mV 1) (zx ↑m) (zx (m2 zg ↑m (mV 2)))) z5)) [0,1])))
def kF:MF:=zR 2 2 rg
theorem qH:ze ["words","fields","told"] ["words"] (za kn):=ze.of
def u8:MS:=(zc (zn 1 (z9 kF (z3 (k5 ↑m (zx ↑k) zO) (z3 ↑k z5)))) (zc (jN (w9 (zX (m2 gm ↑X ↑k)) (w9 (zX (m2 uz (mV 1) (mC .non))) (zX (gM false ko ↑ag)))) (zt (mC .non)) zq) (zc (jN (xk (km (zl uU (z3 (jU (jF (mV 1)) ↑ah zK (gM true wW (mV 2)) 3 []) z5)))) (zt (mC .non)) zq) (zc (zn 2 (zl jS (z3 (jU (jF (mV 1)) ↑ah zK (m2 zg (jL (z3 ↑m ↑V)) (k7 wW (mV 2))) 3 []) z5))) (zt (jL (z3 ↑bb (z3 ↑ai (z3 (k7 ko ↑ag) ↑az)))))))))
def kr:MF:=zR 3 1 u8
theorem pq:ze ["words","forms"] ["words"] (za u4):=ze.of
def u9:MS:=(zc (zn 1 (z9 kF (z3 (k5 ↑m (zx ↑D) zO) (z3 ↑i z5)))) (zc (jN (w9 (zX (m2 gm ↑X ↑D)) (w9 (zX (m2 uz (mV 1) (mC .non))) (w9 (zX (gM false ko ↑ag)) (zX (gM false pG ↑af))))) (zt (mC .non)) zq) (zt (jL (z3 ↑bc (z3 ↑ai (z3 (k7 ko ↑ag) (z3 (k7 pG ↑af) (z3 (zl jS ↑V) z5)))))))))
def kx:MF:=zR 2 1 u9
theorem ua:ze ["word","places","plain"] ["word","places"] (za n9):=ze.of
def np:MS:=(zc (xF (fy (z3 (m2 zg (zl jA ↑V) ↑c) z5)) (gN 2) (jN (zX (m2 zG ↑m (zl dU ↑az))) (xx 2) zq)) (zt (mC .non)))
def wy:MF:=zR 3 2 np
theorem xq:ze ["words","end","places","plain","told"] ["words"] (za wZ):=ze.of
def ff:MS:=(zc (jN (zX (m2 oo (mC (.str ":")) (k5 ↑m (zx ↑D) zO))) (zt (mC .non)) zq) (zc (zn 1 (eF ER mq ↑m (z3 (mC (.str ":")) (z3 ↑D z5)))) (zc (zn 2 (z9 kF (z3 (k5 ↑m (zx ↑D) (zx (mV 1))) (z3 ↑k z5)))) (zc (jN (w9 (zX (m2 uz (mV 2) (mC .non))) (xk (km (zl uU (z3 (jU (jF (mV 2)) ↑ah zK (gM true gO (mV 2)) 3 []) z5))))) (zt (mC .non)) zq) (zc (zn 3 (z9 wy (z3 ↑ag ↑az))) (zc (jN (zX (m2 uz (mV 3) (mC .non))) (zt (mC .non)) zq) (zc (zn 4 (zl jS (z3 (jU (jF (mV 2)) ↑ah zK (jL (z3 ↑m (z3 (mV 1) (z3 (k7 gO (mV 2)) z5)))) 3 []) z5))) (zt (jL (z3 (mC (.str "function")) (z3 ↑ai (z3 (mV 3) (z3 (mV 4) (z3 ↑af (z3 (zl jS (z3 (k5 ↑m (zx (m2 zg (mV 1) ↑c)) zO) z5)) z5)))))))))))))))
def vd:MF:=zR 5 1 ff
theorem ub:ze ["row","words"] ["row"] (za ng):=ze.of
def nt:MS:=(zc (zn 1 (eF oS fE ↑m (z3 ↑a5 z5))) (zc (jN (zX (m2 zG (m2 zk (mV 1) ↑l) ↑bb)) (zt (z9 kr ↑V)) zq) (zc (jN (zX (m2 zG (m2 zk (mV 1) ↑l) ↑bc)) (zt (z9 kx ↑V)) zq) (zc (jN (zX (m2 zG (m2 zk (mV 1) ↑l) (mC (.str "function")))) (zt (z9 vd ↑V)) zq) (zt (mC .non))))))
def qf:MF:=zR 2 1 nt
theorem gw:ze ["self","pieces","looked","at","piece","told"] ["self","pieces"] (za kW):=ze.of
def jz(c:CA):MN:=wg c.memo c.Face "told_kinds" "told_functions" (zX (m2 zG (m2 zk (mV 4) ↑l) (mC (.str "function")))) (w9 (zX (m2 fw (m2 zk (mV 4) ↑c) (mV 5))) (xk (km (z9 (vh c) (z3 (mV 2) (z3 (mV 4) z5)))))) (m2 zk (mV 4) ↑c) (z9 xS (z3 (mV 4) z5))
theorem lK:ze ["pieces","refusal"] ["pieces"] (za fU):=ze.of
def eU(c:CA):MS:=(zt (fD c.Face (jz c) (z3 ↑m z5)))
def vR(c:CA):MF:=zR 2 1 (eU c)
theorem wz:ze ["text","rows","pieces","row","piece","face"] ["text"] (za lg):=ze.of
def lj(c:CA):MS:=(zc (zn 1 (vA (zX (m2 wS ↑m (mC (.str "")))) (eF oS fE ↑m (z3 (mC (.str "\n")) z5)) (jo z5))) (zc (zn 2 (jo z5)) (zc (xF (lF 1) (gN 3) (zc (zn 4 (z9 qf (z3 (mV 3) z5))) (zc (jN (zX (m2 uz (mV 4) (mC .non))) NV zq) (kQ 2 (mV 4))))) (zc (zn 5 (z9 (vR c) ↑az)) (zc (jN (zX (m2 gm (zl jA ↑az) (zl jA ↑V))) NX zq) (xx 5))))))
def kG(c:CA):MF:=zR 6 1 (lj c)
theorem lL:ze ["_law_script","_law_k"] ["_law_script","_law_k"] (za fV):=ze.of
def qI:MS:=(zc (jN (zX (m2 gm (mV 1) ↑X)) (zt (m2 zk ↑m (mV 1))) zq) (zt ↑l))
def jr:MF:=zR 2 2 qI
theorem wm:ze ["_law_cell","_law_size","_law_found","_law_number","_law_k"] ["_law_cell","_law_size"] (za u5):=ze.of
def g7:MS:=(zc (zn 2 (jo z5)) (zc (zn 3 (m2 zY (m2 zg (m2 kP ↑m (mC (.int 48271))) (mC (.int 7919))) (mC (.int 2147483647)))) (zc (xF (fy ↑V) (gN 4) ↑Q) (xx 2))))
def jc:MF:=zR 5 2 g7
theorem jk:ze ["_law_number","_law_count","_law_some","_law_size","_law_at","_law_step","_law_found","_law_k","_law_sign","_law_tail"] ["_law_number","_law_count"] (za nh):=ze.of
def gP:MS:=(zc (zn 2 (mC (.str "abcdefghijklmnopqrstuvwxyz"))) (zc (zn 3 (m2 zg ↑c (m2 zY ↑m (mC (.int 12))))) (zc (zn 4 (m2 zY (m2 j7 ↑m (mC (.int 12))) (mV 3))) (zc (zn 5 (m2 zk (jo (z3 ↑c (z3 ↑k (z3 (mC (.int 25)) (z3 (mC (.int 7)) z5))))) (m2 zY (m2 j7 ↑m (mC (.int 200))) ↑D))) (zc (zn 6 (jo z5)) (zc (xF (fy ↑V) (gN 7) ↑aG) (xx 6)))))))
def jH:MF:=zR 10 2 gP
theorem ce:ze ["_law_name","_law_number","_law_made"] ["_law_name","_law_number","_law_made"] (za ni):=ze.of
def gQ:MS:=(zc (jN (w9 (km (mV 2)) (zX (m2 om (m2 zY (mV 1) ↑k) ↑l))) (xx 0) zq) (zt ↑aP))
def xg:MF:=zR 3 3 gQ
theorem wn:ze ["_law_xs","_law_names_here","_law_kinds","_law_made","_law_found","_law_k","_law_due","_law_sure"] ["_law_xs","_law_names_here","_law_kinds","_law_made"] (za u6):=ze.of
def g8:MS:=(zc (zn 4 (jo z5)) (zc (xF (fy (z3 (zl jA ↑V) z5)) (gN 5) ↑aS) (zt (zl jS (z3 (mV 4) z5)))))
def wX:MF:=zR 8 4 g8
theorem jl:ze ["_law_title_here","_law_cell","_law_kinds","_law_xs","_law_count","_law_names_here","_law_made","_law_parts","_law_places","_law_faults","_law_back"] ["_law_title_here","_law_cell","_law_kinds"] (za qe):=ze.of
def gR:MS:=(zc (zn 3 (z9 jc (z3 (mV 1) (z3 (mC (.int 16)) z5)))) (zc (zn 4 (m2 zk (jo (z3 ↑l (z3 ↑c (z3 ↑i (z3 ↑k (z3 ↑i (z3 (mC (.int 12)) z5))))))) (m2 zY (m2 zk (mV 3) ↑l) (mC (.int 6))))) (zc (zn 5 (z9 jH (z3 (m2 zk (mV 3) ↑c) (z3 (mV 4) z5)))) (zc (zn 6 (m2 zG (m2 zY (m2 zk (mV 3) ↑i) ↑i) ↑l)) (zc (jN (zX (m2 zG (m2 zY (m2 zk (mV 3) ↑k) ↑k) ↑l)) (zt (jL (z3 ↑bb (z3 (z9 xg ↑U) (z3 (mV 6) (z3 (z9 wX (z3 (k5 (mV 3) (zx ↑D) zO) (z3 (mV 5) (z3 (mV 2) (z3 (mV 6) z5))))) z5)))))) zq) (zc (zn 7 (zW (kR (z3 (mV 4) z5)) zK (jL (z3 (m2 zk (mV 1) ↑m) (z3 (m2 zk (mV 2) (m2 zY (m2 j7 (m2 zk (mV 3) (m2 zg ↑D ↑m)) ↑D) (zl jA ↑az))) z5))) [5,2,3])) (zc (jN (zX (m2 zG (m2 zY (m2 zk (mV 3) ↑k) ↑k) ↑c)) (zt (jL (z3 ↑bc (z3 (z9 xg ↑U) ↑aq)))) zq) (zc (zn 8 (zW (kR (z3 (mV 4) z5)) zK (m2 zg (m2 zk (mV 1) ↑m) (jL (z3 (m2 zG (m2 zY (m2 zk (mV 2) (m2 zg ↑D ↑m)) ↑i) ↑l) z5))) [7,3])) (zc (zn 9 (zl jS (z3 (z9 jH (z3 (m2 zk (mV 3) ↑i) (z3 (m2 zY (m2 j7 (m2 zk (mV 3) ↑k) (mC (.int 6))) ↑D) z5))) z5))) (zc (zn 10 (m2 zk (mV 2) (m2 zY (m2 j7 (m2 zk (mV 3) ↑c) ↑k) (zl jA ↑az)))) (zt (jL (z3 (mC (.str "function")) (z3 ↑m (z3 (m2 zY (m2 j7 (m2 zk (mV 3) ↑i) ↑i) (m2 zg (mV 4) ↑c)) (z3 (zl jS (z3 (mV 8) z5)) (z3 (mV 10) (z3 (mV 9) z5))))))))))))))))))
def jI:MF:=zR 11 3 gR
theorem cg:ze ["_law_due","_law_sure"] ["_law_due","_law_sure"] (za nj):=ze.of
def ax:MS:=(zc (jN (jO (km ↑m) (km (mV 1))) (zt (mC (.str "ds"))) zq) (zc (jN (km ↑m) (zt (mC (.str "d"))) zq) (zc (jN (km (mV 1)) (zt (mC (.str "s"))) zq) (zt (mC (.str "-"))))))
def vU:MF:=zR 2 2 ax
theorem zD:ze ["_law_piece_here","_law_made","_law_row_here","_law_name","_law_kind","_law_due","_law_sure","_law_places","_law_fault"] ["_law_piece_here"] (za eR):=ze.of
def eV:MS:=(zc (zn 1 (m2 zk (jo (z3 (mC (.str "told")) (z3 (mC (.str "made")) z5))) (zl Kg (z3 (m2 uz ↑ag (mC (.bl true))) z5)))) (zc (jN (zX (m2 zG (m2 zk ↑m ↑l) ↑bb)) (zc (zn 2 (m2 zg (m2 zg (m2 zg (mC (.str "record ")) ↑ai) ↑a5) (mV 1))) (zc (xF (iZ (zl x9 (z3 ↑af z5))) (nQ 4 (xy (gN 3) (xy (gN 4) (xy (gN 5) (xy (gN 6) nP))))) (zn 2 (m2 zg (m2 zg (m2 zg (m2 zg (m2 zg (m2 zg (mV 2) ↑a5) (mV 3)) ↑a5) (mV 4)) ↑a5) (z9 vU (z3 (mV 5) (z3 (mV 6) z5)))))) (xx 2))) zq) (zc (jN (zX (m2 zG (m2 zk ↑m ↑l) ↑bc)) (zc (zn 2 (m2 zg (m2 zg (m2 zg (m2 zg (mC (.str "choice ")) ↑ai) ↑a5) (mV 1)) (m2 zk (jo (z3 (mC (.str " open")) (z3 (mC (.str " shut")) z5))) (zl Kg (z3 ↑af z5))))) (zc (xF (iZ (zl x9 (z3 (m2 zk ↑m ↑D) z5))) (nQ 2 (xy (gN 3) (xy (gN 4) nP))) (zn 2 (m2 zg (m2 zg (m2 zg (m2 zg (mV 2) ↑a5) (mV 3)) ↑a5) (mV 4)))) (xx 2))) zq) (zc (zn 2 (m2 zg (m2 zg (m2 zg (m2 zg (m2 zg (mC (.str "function ")) ↑ai) ↑a5) (zl dU (z3 ↑ag z5))) ↑a5) (m2 zk ↑m ↑D))) (zc (zn 7 (zl uT (z3 (k5 ↑af zO (zx ↑ag)) z5))) (zc (zn 7 (m2 zg (mV 7) (zl x9 (z3 (k5 ↑af (zx ↑ag) zO) z5)))) (zc (xF (lF 7) (nQ 3 ↑a9) (zn 2 (m2 zg (m2 zg (m2 zg (m2 zg (m2 zg (mV 2) ↑a5) (mV 3)) ↑a5) (mV 4)) (m2 zk (jo (z3 (mC (.str " may")) (z3 (mC (.str " due")) z5))) (zl Kg (z3 (mV 5) z5)))))) (zc (zn 2 (m2 zg (mV 2) (mC (.str " :")))) (zc (xF (iZ (zl x9 (z3 (m2 zk ↑m (mC (.int 5))) z5))) (gN 8) (zn 2 (m2 zg (m2 zg (mV 2) ↑a5) (mV 8)))) (xx 2))))))))))
def vm:MF:=zR 9 1 eV
theorem kX:ze ["_law_script","_law_titles","_law_kinds","_law_pieces","_law_face","_law_due","_law_word","_law_names_here","_law_name","_law_piece_here","_law_found","_law_read"] ["_law_script"] (za b7):=ze.of
def UD(c:CA):MS:=(zc (zn 1 (z9 jH (z3 (m2 zk (z9 jc (z3 (z9 jr (z3 ↑m (z3 ↑l z5))) (z3 ↑c z5))) ↑l) (z3 (mC (.int 13)) z5)))) (zc (zn 2 (m2 zg (jo (z3 (mC (.str "num")) (z3 (mC (.str "word")) (z3 (mC (.str "zz")) (z3 (mC (.str "#3")) (z3 (mC (.str "(num&word)")) (z3 (mC (.str "zz.ok")) z5))))))) (k5 (mV 1) zO (zx ↑D)))) (zc (zn 3 (zW (fB (z3 ↑c (z3 (zl Gm (z3 ↑X (z3 (mC (.int 13)) z5))) z5))) zK (z9 jI (z3 (m2 zk (mV 2) ↑m) (z3 (m2 zk (mV 3) ↑m) ↑V))) [2,1,0])) (zc (jN (jO (zX (m2 wS (mV 3) (jo z5))) (jO (zX (m2 wS (m2 zk (m2 zk (mV 3) ↑l) ↑l) (mC (.str "function")))) (zX (m2 fw (m2 zk (m2 zk (mV 3) ↑l) ↑c) (mV 1))))) (kQ 3 (jL (z3 (mC (.str "function")) (z3 (m2 zk (m2 zk (mV 3) ↑l) ↑c) (z3 ↑l (z3 (jL z5) (z3 (m2 zk (m2 zk (mV 3) ↑l) ↑c) (z3 (jL (z3 (mC (.str "e")) z5)) z5)))))))) zq) (zc (zn 4 (fD c.Face (jz c) (z3 (zl uT (z3 (mV 3) z5)) z5))) (zc (zn 5 (jo z5)) (zc (xF (iZ (jo (z3 ↑bc (z3 (mC (.str "function")) (z3 ↑bb z5))))) (gN 6) (zc (zn 7 (zl x9 (z3 (zW (jF (mV 3)) (zX (m2 zG (m2 zk ↑m ↑l) (mV 1))) ↑ai [6]) z5))) (xF (lF 7) (gN 8) (xF (lF 3) (gN 9) (jN (jO (zX (m2 zG (m2 zk (mV 9) ↑l) (mV 6))) (zX (m2 zG (m2 zk (mV 9) ↑c) (mV 8)))) (kQ 5 (z9 vm (z3 (mV 9) z5))) zq))))) (zc (zn 10 (z9 (gv c) (z3 (mV 4) z5))) (zc (jN (w9 (xk (km (zl VX (z3 (mV 10) (z3 (mC (.ty "str")) z5))))) (zX (m2 wS (mV 10) (eF oS kE (mC (.str "\n")) (z3 (mV 5) z5))))) ↑ap zq) (zc (zn 11 (z9 (kG c) (z3 (mV 10) z5))) (zt (jP (cR [(c.Face,true)] (mV 11)) (jP (m2 zG (f9 c.Face "pieces" (xU c) (mV 11) z5) (f9 c.Face "pieces" (xU c) (mV 4) z5)) (m2 zG (z9 (gv c) (z3 (mV 11) z5)) (mV 10)))))))))))))))
def UE(c:CA):MF:=zR 12 1 (UD c)
structure Txt(P:Program)(w:World)(K:W.Frag)(mg:Str->Option Value)(c:CA):Prop where
 yA:c.memo=memoP P w (gOf m_is_kind)yB:mg "all"=none
 yC:mg "enumerate"=none
 yD:mg "int"=none
 yE:mg "isinstance"=none
 yF:mg "len"=none
 yG:mg "list"=none
 yH:mg "min"=none
 yI:mg "range"=none
 yJ:mg "set"=none
 yK:mg "sorted"=none
 yL:mg "str"=none
 yM:mg "tuple"=none
 yN:∃t,mg "FIGURES"=some (.str "0123456789" t)yO:M8 K mg "GIVEN_KINDS" ["num","word"]yP:∃t,mg "LETTERS"=some (.str "abcdefghijklmnopqrstuvwxyz" t)yQ:∃t,mg "LONGEST_NAME"=some (.int 12 t)yR:∃a kvs,qQ P w K mg "DUE" a kvs gO
 yS:∃a kvs,qQ P w K mg "FLAGS" a kvs wW
 yT:∃a kvs,qQ P w K mg "MADE" a kvs ko
 yU:∃a kvs,qQ P w K mg "SHUT" a kvs pG
 yV:zM K mg "run_end" cX
 yW:zM K mg "name_end" eM
 yX:zM K mg "number_end" uZ
 yY:zM K mg "points_end" n6
 yZ:zM K mg "is_name" cY
 y0:zM K mg "is_kind" cZ
 y4:zM K mg "are_names" fH
 y6:zM K mg "tells_kind" n8
 y8:zM K mg "are_parts" qR
 y9:zM K mg "is_told_kind" fI
 ya:zM K mg "may_be_field" fJ
 yb:zM K mg "is_record" fL
 yc:zM K mg "is_choice" lf
 yd:zM K mg "is_function" u0
 ye:zM K mg "is_piece" eN
 yf:zM K mg "by_names" eO
 yh:zM K mg "settled" b0
 yi:zM K mg "flags_of" eP
 yj:zM K mg "record_words" fO
 yk:zM K mg "choice_words" fQ
 ym:zM K mg "function_words" gq
 yn:zM K mg "written_piece" fb
 yo:zM K mg "written" mx
 yp:zM K mg "parted" eQ
 yq:zM K mg "read_record" kn
 yr:zM K mg "read_choice" u4
 yt:zM K mg "read_plain" n9
 yu:zM K mg "read_function" wZ
 yw:zM K mg "read_piece" ng
 yx:zM K mg "face_of_rows" fU
 yy:zM K mg "read_face" lg
 yz:zM K mg "_law_cell_at" fV
 wA:zM K mg "_law_stream" u5
 wB:zM K mg "_law_names" nh
 wC:zM K mg "_law_title" ni
 wD:zM K mg "_law_fields" u6
 wE:zM K mg "_law_piece" qe
 wF:zM K mg "_law_flags" nj
 wG:zM K mg "_law_row" eR
 wH:zM K mg "law" b7
 wI:mg "Face"=some (.ref c.Face)wJ:lz K c.Face
 wK:∃f fd,Zq K "__init__" "Face.__init__" kW f fd/\Mk K c.Face f
 wL:∃f fd cc,GI K "pieces" "Face.pieces" qZ f fd cc/\bK K c.Face "pieces" f
 wM:xA K c.Face "told_functions"wN:xA K c.Face "told_kinds"wO:VY K c.Face c.Face true
section
variable{P:Program}{w:World}{K:W.Frag}{mg:Str->Option Value}{base:Heap}{c:CA}(T:Txt P w K mg c)
include T
theorem eW:x8 P w K mg base 1 "run_end" ["text","start","signs"] pH:=zM.ok3 T.yV uA (λ_ _ _ _ _ _=>cS λ_ _ _=>rfl) λ_ _ _ _ _ _ _ hr=>(z8 (zp (i:=3) uA.nd (qv 1)) (z8 (uP 100000 PassesOwn.leaving (ui (xT XC (qv 3) ↑ab) (uN (kb (Gc (VH hr)) xD (xI (qv 0) (qv 3)) (qv 2) (by with_unfolding_all rfl)))).pt (zf (Jc a6 (i:=3) uA.nd z7))) (zf (kc 3))))
theorem pr:x8 P w K mg base 2 "name_end" ["text","start"] xH:=zM.ok3 T.yW lh ↑H λ_ _ _ _ _ _ _ hr=>(z8 (zp (i:=2) lh.nd (xC (eW T) (z4 (qv 0) (z4 (qv 1) (z4 (Yo ↑B T.yP) z6))))) (zf (zH (vD (xT EG (xO Vl (qv 2) (qv 1)) (Gr ↑B T.yQ)) (qv 2) (qv 1)))))
theorem ck:x8 P w K mg base 2 "number_end" ["text","start"] vJ:=zM.ok3 T.yX u7 ↑H λ_ _ _ _ _ _ _ hr=>(z8 (zp (i:=2) u7.nd (xC (eW T) (z4 (qv 0) (z4 (xO zB (qv 1) z7) (z4 (Yo ↑B T.yN) z6))))) (zf (zH (vD (xT NT (qv 2) (xO zB (qv 1) z7)) (qv 2) (qv 1)))))
theorem uc:x8 P w K mg base 3 "points_end" ["text","start"] xJ:=zM.ok3 T.yY kq ↑H λ_ _ _ _ _ _ _ hr=>(z8 (zp (i:=2) kq.nd (qv 1)) (z8 (uP 100000 PassesOwn.leaving (xT oE (jw (qv 0) (j3 (qv 2)) (j3 (xO zB (qv 2) z7))) zo) (z8 (zp (i:=3) kq.nd (xC (pr T) (z4 (qv 0) (z4 (xO zB (qv 2) z7) z6)))) (z8 (xw (xT oE (qv 3) (xO zB (qv 2) z7)) (zf (kc 2)) zN) (zf (zp (i:=2) kq.nd (qv 3)))))) (zf (kc 2))))
theorem uD:x8 P w K mg base 3 "is_name" ["text"] xp:=zM.ok3 T.yZ Jl ↑x λ_ _ _ _ _ _ _ hr=>(zf (zH (uO (xM oN (qv 0) zo) (fx (xM oE (xC (pr T) (z4 (qv 0) (z4 z7 z6))) ↑ab)))))
theorem Jp:x8 P w K mg base 4 "is_kind" ["text"] m_is_kind:=zM.ok3 T.y0 wj ↑x λ_ _ _ _ _ _ _ hr=>(z8 (zp (i:=1) wj.nd (we z6)) (z8 (zp (i:=2) wj.nd z7) (zf (uP 100000 PassesOwn.leaving (zV bW (λ_=>rfl)) (z8 (uP 100000 PassesOwn.leaving (xT oE (jw (qv 0) (j3 (qv 2)) (j3 (xO zB (qv 2) z7))) zo) (z8 (iX (i:=1) zo (λte pe=>vv (fv PySem.F.plainAttrs_list PySem.F.slot_list_append PySem.F.type_list_append wp (pv 1) (xY pe k9)))) (zf (Jc a6 (i:=2) wj.nd z7)))) (z8 (zp (i:=3) wj.nd (vD (xT oE (jw (qv 0) (j3 (qv 2)) (j3 (xO zB (qv 2) z7))) zo) (xC (ck T) (z4 (qv 0) (z4 (qv 2) z6))) (xC (pr T) (z4 (qv 0) (z4 (qv 2) z6))))) (z8 (xw (xT oE (qv 3) (qv 2)) (zf (zH bW)) zN) (z8 (zp (i:=2) wj.nd (xC (uc T) (z4 (qv 0) (z4 (qv 3) z6)))) (z8 (uP 100000 PassesOwn.leaving (ui (zV (qv 1) (λ_=>rfl)) (ui (xT oE (xI (qv 1) (Vs z7)) zo) (uN (xT oE (jw (qv 0) (j3 (qv 2)) (j3 (xO zB (qv 2) z7))) zo)))).pt (z8 (NY (i:=1) (vv (NE PySem.F.plainAttrs_list PySem.F.slot_list_pop PySem.F.type_list_pop NF (pv 1)))) (zf (zp (i:=2) wj.nd (xC (uc T) (z4 (qv 0) (z4 (xO zB (qv 2) z7) z6))))))) (z8 (xw (qW (zV (qv 1) (λ_=>rfl))) (zf (zH (xM oE (qv 2) ↑ab))) zN) (z8 (xw (qN (xT oN (xI (qv 1) (Vs z7)) zo) (qx (xT oN (jw (qv 0) (j3 (qv 2)) (j3 (xO zB (qv 2) z7))) zo))).pt (zf (zH bW)) zN) (z8 (Gi (i:=1) (Vs z7) zo (λtk te pk pe=>Nf pe (Nd (pv 1) pk V3))) (zf (Jc a6 (i:=2) wj.nd z7))))))))))))))
theorem nu:x8 P w K mg base 4 "are_names" ["names"] xz:=zM.ok3 T.y4 ao ↑x λ_ _ _ _ _ _ _ hr=>(zf (zH (uO (zP (hU rfl) ↑B T.yB iF (z4 (qP rfl (jp.of:jp ["names"] (za fH) _ "name" [] []) rfl (pY (qv 0)) ↑W (λcl C ex pn s₀ H₀=>(xC (uD T) (z4 (qv 0) z6))) (L:=0)) z6)) (fx (xM oE (VL rfl ↑B T.yF ↑B T.yJ (qv 0)) ↑ab)))))
theorem g9:x8 P w K mg base 5 "tells_kind" ["looked","text"] (jj c):=Gz T.yA rfl T.y6 c7 ↑H λf cdv A outer s H E hr=>XX (Jp T) (hr.mono ↑a) (dX hr) rfl ↑B (by first|exact Or.inl rfl|exact Or.inr (Or.inl rfl)|exact Or.inr (Or.inr rfl)) (by first|exact Or.inl rfl|exact Or.inr (Or.inl rfl)|exact Or.inr (Or.inr rfl))
theorem gS:x8 P w K mg base 6 "are_parts" ["looked","parts"] (xb c):=zM.ok3 T.y8 aq ↑H λ_ _ _ _ _ _ _ hr=>(zf (zH (uO (xC (nu T) (z4 (qP rfl (jp.of:jp ["looked","parts"] (za qR) _ "part" [] []) rfl (pY (qv 1)) ↑W (λcl C ex pn s₀ H₀=>↑o)) z6)) (fx (zP (hU rfl) ↑B T.yB iF (z4 (qP rfl (jp.of:jp ["looked","parts"] (za qR) _ "part" ["looked"] [0]) rfl (pY (qv 1)) ↑W (λcl C ex pn s₀ H₀=>(xC (g9 T) (z4 (qv 1) (z4 ↑o z6))))) z6))))))
theorem fg:x8 P w K mg base 6 "is_told_kind" ["looked","title","made"] (jq c):=zM.ok3 T.y9 lI (λ_ _ _ _ _ _=>cS λ_ _ _=>rfl) λ_ _ _ _ _ _ _ hr=>(z8 (xw (qN (kb (Gc (VH hr)) xD (qv 1) (Gs ↑B T.yO) (by with_unfolding_all rfl)) (qx (qW (zV (xC (g9 T) (z4 (qv 0) (z4 (qv 1) z6))) (λ_=>rfl))))).pt (zf (zH bW)) zN) (zf (zH (NU (xC (uD T) (z4 (qv 1) z6)) (fx (Yc (qv 2)))))))
theorem lM:x8 P w K mg base 1 "may_be_field" ["made","due","sure"] wk:=zM.ok3 T.ya lJ (λ_ _ _ _ _ _=>cS λ_ _ _=>rfl) λ_ _ _ _ _ _ _ hr=>(z8 (xw (zV (qv 0) (λ_=>rfl)) (zf (zH (NU (qv 1) (fx (Yc (qv 2)))))) zN) (zf (zH (Yc (qv 1)))))
theorem ay:x8 P w K mg base 7 "is_record" ["looked","title","made","fields"] (vp c):=zM.ok3 T.yb au (λ_ _ _ _ _ _=>Yt λ_ _ _ _=>rfl) λ_ _ _ _ _ _ _ hr=>(z8 (xw (qN (qW (zV (xC (fg T) (z4 (qv 0) (z4 (qv 1) (z4 (qv 2) z6)))) (λ_=>rfl))) (qx (qW (zV (xC (gS T) (z4 (qv 0) (z4 (qv 3) z6))) (λ_=>rfl))))).pt (zf (zH bW)) zN) (zf (zH (zP (hU rfl) ↑B T.yB iF (z4 (qP rfl (jp.of:jp ["looked","title","made","fields"] (za fL) _ "field" ["made"] [2]) rfl (pY (qv 3)) ↑W (λcl C ex pn s₀ H₀=>(xC (lM T) (z4 (qv 1) (z4 ↑o (z4 ↑o z6)))))) z6)))))
theorem az:x8 P w K mg base 7 "is_choice" ["looked","title","made","forms"] (vq c):=zM.ok3 T.yc aw (λ_ _ _ _ _ _=>Yt λ_ _ _ _=>rfl) λ_ _ _ _ _ _ _ hr=>(zf (zH (uO (xC (fg T) (z4 (qv 0) (z4 (qv 1) (z4 (qv 2) z6)))) (fx (xC (gS T) (z4 (qv 0) (z4 (qv 3) z6)))))))
theorem eX:x8 P w K mg base 7 "is_function" ["looked","name","plain","places","back","faults"] (xR c):=zM.ok3 T.yd eT (λ_ _ _ _ _ _=>IH λ_ _ _ _ _ _=>rfl) λ_ _ _ _ _ _ _ hr=>(z8 (xw (qN (qW (zV (xC (uD T) (z4 (qv 1) z6)) (λ_=>rfl))) (qx (qW (zV (xC (g9 T) (z4 (qv 0) (z4 (qv 4) z6))) (λ_=>rfl))))).pt (zf (zH bW)) zN) (z8 (xw (qN (xT XC (qv 2) z7) (qx (xT NT (qv 2) (zP xX ↑B T.yF xW (z4 (qv 3) z6))))).pt (zf (zH bW)) zN) (zf (zH (uO (xC (gS T) (z4 (qv 0) (z4 (qv 3) z6))) (fx (xC (nu T) (z4 (qv 5) z6))))))))
theorem rh:x8 P w K mg base 8 "is_piece" ["looked","piece"] (vh c):=zM.ok3 T.ye re ↑H λ_ _ _ _ _ _ _ hr=>(z8 (xw (xT oE (xI (qv 1) z7) zo) (zf (zH (xC (ay T) (z4 (qv 0) (z4 (xI (qv 1) z7) (z4 (xI (qv 1) z7) (z4 (xI (qv 1) z7) z6))))))) zN) (z8 (xw (xT oE (xI (qv 1) z7) zo) (zf (zH (xC (az T) (z4 (qv 0) (z4 (xI (qv 1) z7) (z4 (xI (qv 1) z7) (z4 (xI (qv 1) z7) z6))))))) zN) (zf (zH (xC (eX T) (z4 (qv 0) (z4 (xI (qv 1) z7) (z4 (xI (qv 1) z7) (z4 (xI (qv 1) z7) (z4 (xI (qv 1) z7) (z4 (xI (qv 1) z7) z6)))))))))))
theorem qS:x8 P w K mg base 1 "by_names" ["parts"] xi:=zM.ok3 T.yf rf ↑x λ_ _ _ _ _ _ _ hr=>(zf (zH (jd wU ↑B T.yM wR (z4 (zP qk ↑B T.yK qg (z4 (qv 0) z6)) z6))))
theorem Jq:x8 P w K mg base 2 "settled" ["piece"] xS:=zM.ok3 T.yh uC ↑x λ_ _ _ _ _ _ _ hr=>(z8 (xw (xT oE ↑o zo) (zf (zH (xO zB (jw (qv 0) wu (j3 z7)) (kC (z4 (xC (qS T) (z4 ↑o z6)) z6))))) zN) (z8 (xw (xT oE ↑o zo) (zf (zH (xO zB (jw (qv 0) wu (j3 z7)) (kC (z4 (xC (qS T) (z4 ↑o z6)) z6))))) zN) (z8 (zp (i:=1) uC.nd ↑o) (z8 (zp (i:=2) uC.nd (xO zB (jw ↑o wu (j3 (qv 1))) (xC (qS T) (z4 (jw ↑o (j3 (qv 1)) wu) z6)))) (zf (zH (xO zB (jw (qv 0) wu (j3 z7)) (kC (z4 (qv 2) (z4 ↑o (z4 (xC (qS T) (z4 ↑o z6)) z6)))))))))))
theorem rl:x8 P w K mg base 1 "flags_of" ["due","sure"] qG:=zM.ok3 T.yi li ↑H λ_ _ _ _ _ _ _ hr=>(z8 (zp (i:=2) li.nd (xO zB (vD (zV (qv 0) (λ_=>rfl)) zo zo) (vD (zV (qv 1) (λ_=>rfl)) zo zo))) (zf (zH (vD (xT oN (qv 2) zo) (qv 2) zo))))
theorem lN:x8 P w K mg base 2 "record_words" ["piece"] vO:=zM.ok3 T.yj jV ↑x λ_ _ _ _ _ _ _ hr=>(z8 (zp (i:=1) jV.nd (we (z4 zo (z4 ↑o (z4 (vD (zV ↑o (λ_=>rfl)) zo zo) z6))))) (z8 (qz PassesOwn.leaving rfl (J0 ↑o) (qY rfl (zT (zy (i:=2) jV.nd) (zT (zy (i:=3) jV.nd) (zT (zy (i:=4) jV.nd) (zT (zy (i:=5) jV.nd) qX))))) (zf (Kh (i:=1) (we (z4 (qv 2) (z4 (qv 3) (z4 (xC (rl T) (z4 (qv 4) (z4 (qv 5) z6))) z6)))) ↑ay))) (zf (kc 1))))
theorem lO:x8 P w K mg base 1 "choice_words" ["piece"] vQ:=zM.ok3 T.yk vc ↑x λ_ _ _ _ _ _ _ hr=>(z8 (zp (i:=1) vc.nd (we (z4 zo (z4 ↑o (z4 (vD (zV ↑o (λ_=>rfl)) zo zo) (z4 (vD (zV ↑o (λ_=>rfl)) zo zo) z6)))))) (z8 (qz PassesOwn.leaving rfl (J0 ↑o) (qY rfl (zT (zy (i:=2) vc.nd) (zT (zy (i:=3) vc.nd) qX))) (zf (Kh (i:=1) (we (z4 (qv 2) (z4 (qv 3) z6))) ↑ay))) (zf (kc 1))))
theorem nv:x8 P w K mg base 1 "function_words" ["piece"] wx:=zM.ok3 T.ym xf ↑x λ_ _ _ _ _ _ _ hr=>(z8 (zp (i:=1) xf.nd (we (z4 zo (z4 ↑o (z4 (jd J2 ↑B T.yL bQ (z4 ↑o z6)) (z4 ↑o z6)))))) (z8 (qz PassesOwn.leaving rfl (J0 ↑o) (qY rfl (zT (zy (i:=2) xf.nd) (zT (zy (i:=3) xf.nd) (zT (zy (i:=4) xf.nd) qX)))) (zf (Kh (i:=1) (we (z4 (qv 2) (z4 (qv 3) (z4 (vD (zV (qv 4) (λ_=>rfl)) zo zo) z6)))) ↑ay))) (zf (zH (xO zB (xO zB (qv 1) (we (z4 zo z6))) (jd a8 ↑B T.yG lT (z4 ↑o z6)))))))
theorem mz:x8 P w K mg base 3 "written_piece" ["piece"] jW:=zM.ok3 T.yn my ↑x λ_ _ _ _ _ _ _ hr=>(z8 (xw (xT oE ↑o zo) (zf (zH (oR PySem.F.plainAttrs_str PySem.F.slot_str_join PySem.F.type_str_join uY Mi zo (z4 (xC (lN T) (z4 (qv 0) z6)) z6)))) zN) (z8 (xw (xT oE ↑o zo) (zf (zH (oR PySem.F.plainAttrs_str PySem.F.slot_str_join PySem.F.type_str_join uY Mi zo (z4 (xC (lO T) (z4 (qv 0) z6)) z6)))) zN) (zf (zH (oR PySem.F.plainAttrs_str PySem.F.slot_str_join PySem.F.type_str_join uY Mi zo (z4 (xC (nv T) (z4 (qv 0) z6)) z6))))))
theorem qJ{C:Addr}(F:∃f fd c,GI K "pieces" "Face.pieces" qZ f fd c/\bK K C "pieces" f)(hc:lz K C):oH P w K mg base 1 C "pieces" ["self"] (xU c):=oH.okT F hc pp ↑x λ_ _ _ _ _ _ _ hC hr=>(z8 (zp (i:=1) pp.nd (xO zB (eE rfl ↑B T.yG (Us (λC h=>(List.mem_cons.mp h).elim (λe=>e▸⟨T.wJ,T.wN⟩) λh=>nomatch h) (qv 0))) (eE rfl ↑B T.yG (Us (λC h=>(List.mem_cons.mp h).elim (λe=>e▸⟨T.wJ,T.wM⟩) λh=>nomatch h) (qv 0))))) (zf (zH (GH hr.depth ↑B T.yK (z4 (qv 1) z6) rfl hC))))
theorem eY:x8 P w K mg base 4 "written" ["face"] (gv c):=zM.ok3 T.yo Jo ↑x λ_ _ _ _ _ _ _ hr=>(zf (zH (oR PySem.F.plainAttrs_str PySem.F.slot_str_join PySem.F.type_str_join uY Mi zo (z4 (qP rfl (jp.of:jp ["face"] (za mx) _ "piece" [] []) rfl (pY (ag (qJ T T.wL T.wJ) (hr.mono ↑a) (qv 0))) ↑W (λcl C ex pn s₀ H₀=>(xC (mz T) (z4 (qv 0) z6))) (L:=0)) z6))))
theorem mB:x8 P w K mg base 1 "parted" ["words","size"] kF:=zM.ok3 T.yp W9 ↑H λ_ _ _ _ _ _ _ hr=>(z8 (xw (xT oN (xO w8 ↑ab (qv 1)) z7) (zf (zH qM)) zN) (zf (zH (qP rfl (jp.of:jp ["words","size"] (za eQ) _ "at" ["words","size"] [0,1]) rfl (W1 ↑B T.yI (z4 z7 (z4 ↑ab (z4 (qv 1) z6)))) ↑W (λcl C ex pn s₀ H₀=>(jd wU ↑B T.yM wR (z4 (jw (qv 1) (j3 (qv 0)) (j3 (xO zB (qv 0) (qv 2)))) z6)))))))
theorem eZ:x8 P w K mg base 2 "read_record" ["words"] kr:=zM.ok3 T.yq qH ↑x λ_ _ _ _ _ _ _ hr=>(z8 (zp (i:=1) qH.nd (xC (mB T) (z4 (jw (qv 0) (j3 z7) wu) (z4 z7 z6)))) (z8 (xw (qN (xT XC ↑ab z7) (qN (xT cW (qv 1) qM) (qx (aj (by exact T.yT) ↑B ↑o)))).pt (zf (zH qM)) zN) (z8 (xw (qW (zV (zP (hU rfl) ↑B T.yB iF (z4 (lW (xs:=["name","kind","flags"]) rfl (jp.of:jp ["words","fields","told"] (za kn) _ "name" [] []) ↑aa rfl (pY (qv 1)).two (λcl C ex pn s₀ H₀=>(qY rfl (zT (zy (i:=0) (show List.Nodup (["name","kind","flags"]:List Str)by decide+kernel)) ↑a7))) ↑W (λcl C ex pn s₀ H₀=>(Uw (by exact T.yS) ↑B (qv 2))) (L:=0)) z6)) (λ_=>rfl))) (zf (zH qM)) zN) (z8 (zp (i:=2) qH.nd (jd wU ↑B T.yM wR (z4 (lW (xs:=["name","kind","flags"]) rfl (jp.of:jp ["words","fields","told"] (za kn) _ "name" [] []) ↑aa rfl (pY (qv 1)).two (λcl C ex pn s₀ H₀=>(qY rfl (zT (zy (i:=0) (show List.Nodup (["name","kind","flags"]:List Str)by decide+kernel)) ↑a7))) ↑W (λcl C ex pn s₀ H₀=>(xO zB (kC (z4 (qv 0) (z4 (qv 1) z6))) (eK (by exact T.yS) ↑B (qv 2)))) (L:=0)) z6))) (zf (zH (kC (z4 zo (z4 ↑o (z4 (eK (by exact T.yT) ↑B ↑o) (z4 (qv 2) z6)))))))))))
theorem d0:x8 P w K mg base 2 "read_choice" ["words"] kx:=zM.ok3 T.yr pq ↑x λ_ _ _ _ _ _ _ hr=>(z8 (zp (i:=1) pq.nd (xC (mB T) (z4 (jw (qv 0) (j3 z7) wu) (z4 z7 z6)))) (z8 (xw (qN (xT XC ↑ab z7) (qN (xT cW (qv 1) qM) (qN (aj (by exact T.yT) ↑B ↑o) (qx (aj (by exact T.yU) ↑B ↑o))))).pt (zf (zH qM)) zN) (zf (zH (kC (z4 zo (z4 ↑o (z4 (eK (by exact T.yT) ↑B ↑o) (z4 (eK (by exact T.yU) ↑B ↑o) (z4 (jd wU ↑B T.yM wR (z4 (qv 1) z6)) z6))))))))))
theorem cm:x8 P w K mg base 1 "read_plain" ["word","places"] wy:=zM.ok3 T.yt ua ↑H λ_ _ _ _ _ _ _ hr=>(z8 (qz PassesOwn.leaving rfl (uS ↑B T.yI (z4 (xO zB (zP xX ↑B T.yF xW (z4 (qv 1) z6)) z7) z6)) (zy (i:=2) ua.nd) (zf (xw (xT oE (qv 0) (jd J2 ↑B T.yL bQ (z4 (qv 2) z6))) (zf (kc 2)) zN))) (zf (zH qM)))
theorem mD:x8 P w K mg base 2 "read_function" ["words"] vd:=zM.ok3 T.yu xq ↑x λ_ _ _ _ _ _ _ hr=>(z8 (xw (kb (Iv (VH hr)) xD zo (jw (qv 0) (j3 z7) wu) (by with_unfolding_all rfl)) (zf (zH qM)) zN) (z8 (zp (i:=1) xq.nd (oR PySem.F.plainAttrs_list PySem.F.slot_list_index PySem.F.type_list_index K9 DZ (qv 0) (z4 zo (z4 z7 z6)))) (z8 (zp (i:=2) xq.nd (xC (mB T) (z4 (jw (qv 0) (j3 z7) (j3 (qv 1))) (z4 z7 z6)))) (z8 (xw (qN (xT cW (qv 2) qM) (qx (qW (zV (zP (hU rfl) ↑B T.yB iF (z4 (lW (xs:=["name","kind","due"]) rfl (jp.of:jp ["words","end","places","plain","told"] (za wZ) _ "name" [] []) ↑aa rfl (pY (qv 2)).two (λcl C ex pn s₀ H₀=>(qY rfl (zT (zy (i:=0) (show List.Nodup (["name","kind","due"]:List Str)by decide+kernel)) ↑a8))) ↑W (λcl C ex pn s₀ H₀=>(Uw (by exact T.yR) ↑B (qv 2))) (L:=0)) z6)) (λ_=>rfl))))).pt (zf (zH qM)) zN) (z8 (zp (i:=3) xq.nd (xC (cm T) (z4 ↑o (z4 (qv 2) z6)))) (z8 (xw (xT cW (qv 3) qM) (zf (zH qM)) zN) (z8 (zp (i:=4) xq.nd (jd wU ↑B T.yM wR (z4 (lW (xs:=["name","kind","due"]) rfl (jp.of:jp ["words","end","places","plain","told"] (za wZ) _ "name" [] []) ↑aa rfl (pY (qv 2)).two (λcl C ex pn s₀ H₀=>(qY rfl (zT (zy (i:=0) (show List.Nodup (["name","kind","due"]:List Str)by decide+kernel)) ↑a8))) ↑W (λcl C ex pn s₀ H₀=>(kC (z4 (qv 0) (z4 (qv 1) (z4 (eK (by exact T.yR) ↑B (qv 2)) z6))))) (L:=0)) z6))) (zf (zH (kC (z4 zo (z4 ↑o (z4 (qv 3) (z4 (qv 4) (z4 ↑o (z4 (jd wU ↑B T.yM wR (z4 (jw (qv 0) (j3 (xO zB (qv 1) z7)) wu) z6)) z6))))))))))))))))
theorem cn:x8 P w K mg base 3 "read_piece" ["row"] qf:=zM.ok3 T.yw ub ↑x λ_ _ _ _ _ _ _ hr=>(z8 (zp (i:=1) ub.nd (oR PySem.F.plainAttrs_str PySem.F.slot_str_split PySem.F.type_str_split oT Mi (qv 0) (z4 zo z6))) (z8 (xw (xT oE (xI (qv 1) z7) zo) (zf (zH (xC (eZ T) (z4 (qv 1) z6)))) zN) (z8 (xw (xT oE (xI (qv 1) z7) zo) (zf (zH (xC (d0 T) (z4 (qv 1) z6)))) zN) (z8 (xw (xT oE (xI (qv 1) z7) zo) (zf (zH (xC (mD T) (z4 (qv 1) z6)))) zN) (zf (zH qM))))))
theorem gy(F:∃f fd,Zq K "__init__" "Face.__init__" kW f fd/\Mk K c.Face f)(hx:mg "Face"=some (.ref c.Face))(hc:lz K c.Face):oI P w K mg base 9 c.Face "Face" ["self","pieces"] (jz c):=oI.ok F hx gw (ah rfl) ↑H λf cdv A outer s H E hr=>XW gw.nd rfl rfl (dX hr) PassesOwn.leaving hc T.wN T.wM ↑v ↑B T.yC (by first|exact Or.inl rfl|exact Or.inr (Or.inl rfl)|exact Or.inr (Or.inr rfl)) (by first|exact Or.inl rfl|exact Or.inr (Or.inl rfl)|exact Or.inr (Or.inr rfl)) (by first|exact Or.inl rfl|exact Or.inr (Or.inl rfl)|exact Or.inr (Or.inr rfl)) (by first|exact Or.inl rfl|exact Or.inr rfl) (by first|exact Or.inl rfl|exact Or.inr rfl) (by first|exact Or.inl rfl|exact Or.inr rfl) (by first|exact Or.inl rfl|exact Or.inr rfl) (by first|exact Or.inl rfl|exact Or.inr rfl) (by first|exact Or.inl rfl|exact Or.inr rfl) (by first|exact Or.inl rfl|exact Or.inr rfl) (by first|exact Or.inl rfl|exact Or.inr rfl) (VW T.yA) (kb (ZV (eA hr)) xD (gJ (dX hr) (qv 4) z7 (λ_ _=>rfl)) zo (qq _)) (qN (kb (Gc (VH hr)) xD (gJ (dX hr) (qv 4) z7 (λ_ _=>rfl)) (qv 5) (by with_unfolding_all rfl)) (qx (qW (zV (qA (rh T) (hr.mono ↑a) ↑B (z4 (qv 2) (z4 (qv 4) z6))) (λ_=>rfl))))).pt (gJ (dX hr) (qv 4) z7 (λ_ _=>rfl)) (qA (Jq T) (hr.mono ↑a) ↑B (z4 (qv 4) z6))
theorem lP:x8 P w K mg base 11 "face_of_rows" ["pieces"] (vR c):=zM.ok3 T.yx lK ↑x λ_ _ _ _ _ _ _ hr=>(zf (IN (zf (zH (VP (gy T T.wK T.wI T.wJ) (hr.mono ↑a) ↑B (z4 (qv 0) z6))))))
theorem aA:x8 P w K mg base 12 "read_face" ["text"] (kG c):=zM.ok3 T.yy wz ↑x λ_ _ _ _ _ _ _ hr=>(z8 (zp (i:=1) wz.nd (vD (xT oN (qv 0) zo) (oR PySem.F.plainAttrs_str PySem.F.slot_str_split PySem.F.type_str_split oT Mi (qv 0) (z4 zo z6)) (we z6))) (z8 (zp (i:=2) wz.nd (we z6)) (z8 (qz PassesOwn.leaving rfl (Yf 1) (zy (i:=3) wz.nd) (z8 (zp (i:=4) wz.nd (xC (cn T) (z4 (qv 3) z6))) (z8 (xw (xT cW (qv 4) qM) (zf Gg) zN) (zf (iX (i:=2) (qv 4) (λte pe=>vv (fv PySem.F.plainAttrs_list PySem.F.slot_list_append PySem.F.type_list_append wp (pv 2) (xY pe k9)))))))) (z8 (zp (i:=5) wz.nd (xC (lP T) (z4 (qv 2) z6))) (z8 (xw (xT XC (zP xX ↑B T.yF xW (z4 (qv 2) z6)) (zP xX ↑B T.yF xW (z4 (qv 1) z6))) (zf Gh) zN) (zf (kc 5)))))))
theorem lQ:x8 P w K mg base 1 "_law_cell_at" ["_law_script","_law_k"] jr:=zM.ok3 T.yz lL ↑H λ_ _ _ _ _ _ _ hr=>(z8 (xw (xT XC (qv 1) ↑ab) (zf (zH (xI (qv 0) (qv 1)))) zN) (zf (zH z7)))
theorem pz:x8 P w K mg base 1 "_law_stream" ["_law_cell","_law_size"] jc:=zM.ok3 T.wA wm ↑H λ_ _ _ _ _ _ _ hr=>(z8 (zp (i:=2) wm.nd (we z6)) (z8 (zp (i:=3) wm.nd (xO w8 (xO zB (xO oj (qv 0) z7) z7) z7)) (z8 (qz PassesOwn.leaving rfl (uS ↑B T.yI (z4 (qv 1) z6)) (zy (i:=4) wm.nd) (z8 (zp (i:=3) wm.nd (xO w8 (xO zB (xO zB (xO oj (qv 3) (xO zB (xO qb (qv 3) z7) z7)) (qv 4)) z7) z7)) (zf (iX (i:=2) (qv 3) (λte pe=>vv (fv PySem.F.plainAttrs_list PySem.F.slot_list_append PySem.F.type_list_append wp (pv 2) (xY pe k9))))))) (zf (kc 2)))))
theorem ga:x8 P w K mg base 1 "_law_names" ["_law_number","_law_count"] jH:=zM.ok3 T.wB jk ↑H λ_ _ _ _ _ _ _ hr=>(z8 (zp (i:=2) jk.nd zo) (z8 (zp (i:=3) jk.nd (xO zB z7 (xO w8 (qv 0) z7))) (z8 (zp (i:=4) jk.nd (xO w8 (xO qb (qv 0) z7) (qv 3))) (z8 (zp (i:=5) jk.nd (xI (we (z4 z7 (z4 z7 (z4 z7 (z4 z7 z6))))) (xO w8 (xO qb (qv 0) z7) z7))) (z8 (zp (i:=6) jk.nd (we z6)) (z8 (qz PassesOwn.leaving rfl (uS ↑B T.yI (z4 (qv 1) z6)) (zy (i:=7) jk.nd) (z8 (zp (i:=8) jk.nd (xI (qv 2) (xO w8 (xO zB (xO qb (qv 0) z7) (xO oj (qv 7) (qv 5))) z7))) (z8 (zp (i:=9) jk.nd (xO qb (xO Vl (xO Vl (qv 3) (qv 4)) z7) (xO zB z7 (xO w8 (xO zB (xO qb (qv 0) z7) (qv 7)) z7)))) (zf (iX (i:=6) (xO zB (xO zB (xO oj zo (qv 4)) (qv 8)) (xO oj zo (qv 9))) (λte pe=>vv (fv PySem.F.plainAttrs_list PySem.F.slot_list_append PySem.F.type_list_append wp (pv 6) (xY pe k9)))))))) (zf (kc 6))))))))
theorem ud:x8 P w K mg base 1 "_law_title" ["_law_name","_law_number","_law_made"] xg:=zM.ok3 T.wC ce (λ_ _ _ _ _ _=>cS λ_ _ _=>rfl) λ_ _ _ _ _ _ _ hr=>(z8 (xw (qN (zV (qv 2) (λ_=>rfl)) (qx (xT NT (xO w8 (qv 1) z7) z7))).pt (zf (kc 0)) zN) (zf (zH (xI (we (z4 (xO zB zo (qv 0)) (z4 (xO zB (xO zB zo (qv 0)) zo) (z4 (xO zB (xO zB (qv 0) zo) (qv 0)) z6)))) (xO w8 (xO qb (qv 1) z7) z7)))))
theorem d6:x8 P w K mg base 1 "_law_fields" ["_law_xs","_law_names_here","_law_kinds","_law_made"] wX:=zM.ok3 T.wD wn (λ_ _ _ _ _ _=>Yt λ_ _ _ _=>rfl) λ_ _ _ _ _ _ _ hr=>(z8 (zp (i:=4) wn.nd (we z6)) (z8 (qz PassesOwn.leaving rfl (uS ↑B T.yI (z4 (zP xX ↑B T.yF xW (z4 (qv 1) z6)) z6)) (zy (i:=5) wn.nd) (z8 (zp (i:=6) wn.nd (uO (qv 3) (fx (xM oE (xO w8 (xI (qv 0) (qv 5)) z7) z7)))) (z8 (zp (i:=7) wn.nd (uO (xM oE (xO w8 (xO qb (xI (qv 0) (qv 5)) z7) z7) z7) (fx (NU (qv 6) (fx (Yc (qv 3))))))) (zf (iX (i:=4) (kC (z4 (xI (qv 1) (qv 5)) (z4 (xI (qv 2) (xO w8 (xO qb (xI (qv 0) (qv 5)) z7) (zP xX ↑B T.yF xW (z4 (qv 2) z6)))) (z4 (qv 6) (z4 (qv 7) z6))))) (λte pe=>vv (fv PySem.F.plainAttrs_list PySem.F.slot_list_append PySem.F.type_list_append wp (pv 4) (xY pe k9)))))))) (zf (zH (jd wU ↑B T.yM wR (z4 (qv 4) z6))))))
theorem cp:x8 P w K mg base 2 "_law_piece" ["_law_title_here","_law_cell","_law_kinds"] jI:=zM.ok3 T.wE jl (λ_ _ _ _ _ _=>cS λ_ _ _=>rfl) λ_ _ _ _ _ _ _ hr=>(z8 (zp (i:=3) jl.nd (xC (pz T) (z4 (qv 1) (z4 z7 z6)))) (z8 (zp (i:=4) jl.nd (xI (we (z4 z7 (z4 z7 (z4 z7 (z4 z7 (z4 z7 (z4 z7 z6))))))) (xO w8 (xI (qv 3) z7) z7))) (z8 (zp (i:=5) jl.nd (xC (ga T) (z4 (xI (qv 3) z7) (z4 (qv 4) z6)))) (z8 (zp (i:=6) jl.nd (xM oE (xO w8 (xI (qv 3) z7) z7) z7)) (z8 (xw (xT oE (xO w8 (xI (qv 3) z7) z7) z7) (zf (zH (kC (z4 zo (z4 (xC (ud T) (z4 (qv 0) (z4 (xO qb (xI (qv 3) z7) z7) (z4 (qv 6) z6)))) (z4 (qv 6) (z4 (xC (d6 T) (z4 (jw (qv 3) (j3 z7) wu) (z4 (qv 5) (z4 (qv 2) (z4 (qv 6) z6))))) z6))))))) zN) (z8 (zp (i:=7) jl.nd (qP rfl (jp.of:jp ["_law_title_here","_law_cell","_law_kinds","_law_xs","_law_count","_law_names_here","_law_made","_law_parts","_law_places","_law_faults","_law_back"] (za qe) _ "_law_k" ["_law_names_here","_law_kinds","_law_xs"] [5,2,3]) rfl (cN ↑B T.yI (z4 (qv 4) z6)) ↑W (λcl C ex pn s₀ H₀=>(kC (z4 (xI (qv 1) (qv 0)) (z4 (xI (qv 2) (xO w8 (xO qb (xI (qv 3) (xO zB z7 (qv 0))) z7) (zP xX ↑B T.yF xW (z4 (qv 2) z6)))) z6)))))) (z8 (xw (xT oE (xO w8 (xI (qv 3) z7) z7) z7) (zf (zH (kC (z4 zo (z4 (xC (ud T) (z4 (qv 0) (z4 (xO qb (xI (qv 3) z7) z7) (z4 (qv 6) z6)))) (z4 (qv 6) (z4 (xM oE (xO w8 (xO qb (xI (qv 3) z7) z7) z7) z7) (z4 (jd wU ↑B T.yM wR (z4 (qv 7) z6)) z6)))))))) zN) (z8 (VI (i:=8) jl.nd rfl (by first|exact .inl rfl|exact .inr rfl) rfl (jp.of:jp ["_law_title_here","_law_cell","_law_kinds","_law_xs","_law_count","_law_names_here","_law_made","_law_parts","_law_places","_law_faults","_law_back"] (za qe) _ "_law_k" ["_law_parts","_law_xs"] [7,3]) rfl (cN ↑B T.yI (z4 (qv 4) z6)) ↑W (λcl C ex pn s₀ H₀=>(xO zB (xI (qv 1) (qv 0)) (kC (z4 (xM oE (xO w8 (xI (qv 2) (xO zB z7 (qv 0))) z7) z7) z6))))) (z8 (zp (i:=9) jl.nd (jd wU ↑B T.yM wR (z4 (xC (ga T) (z4 (xI (qv 3) z7) (z4 (xO w8 (xO qb (xI (qv 3) z7) z7) z7) z6))) z6))) (z8 (zp (i:=10) jl.nd (xI (qv 2) (xO w8 (xO qb (xI (qv 3) z7) z7) (zP xX ↑B T.yF xW (z4 (qv 2) z6))))) (zf (zH (kC (z4 zo (z4 (qv 0) (z4 (xO w8 (xO qb (xI (qv 3) z7) z7) (xO zB (qv 4) z7)) (z4 (jd wU ↑B T.yM wR (z4 (qv 8) z6)) (z4 (qv 10) (z4 (qv 9) z6)))))))))))))))))))
theorem cq:x8 P w K mg base 1 "_law_flags" ["_law_due","_law_sure"] vU:=zM.ok3 T.wF cg ↑H λ_ _ _ _ _ _ _ hr=>(z8 (xw (ui (zV (qv 0) (λ_=>rfl)) (uN (zV (qv 1) (λ_=>rfl)))).pt (zf (zH zo)) zN) (z8 (xw (zV (qv 0) (λ_=>rfl)) (zf (zH zo)) zN) (z8 (xw (zV (qv 1) (λ_=>rfl)) (zf (zH zo)) zN) (zf (zH zo)))))
theorem rm:x8 P w K mg base 2 "_law_row" ["_law_piece_here"] vm:=zM.ok3 T.wG zD ↑x λ_ _ _ _ _ _ _ hr=>(z8 (zp (i:=1) zD.nd (xI (we (z4 zo (z4 zo z6))) (jd Jj ↑B T.yD ZO (z4 (xM cW ↑o bW) z6)))) (z8 (xw (xT oE ↑o zo) (z8 (zp (i:=2) zD.nd (xO zB (xO zB (xO zB zo ↑o) zo) (qv 1))) (z8 (qz PassesOwn.leaving rfl (J0 (zP qk ↑B T.yK qg (z4 ↑o z6))) (qY rfl (zT (zy (i:=3) zD.nd) (zT (zy (i:=4) zD.nd) (zT (zy (i:=5) zD.nd) (zT (zy (i:=6) zD.nd) qX))))) (zf (zp (i:=2) zD.nd (xO zB (xO zB (xO zB (xO zB (xO zB (xO zB (qv 2) zo) (qv 3)) zo) (qv 4)) zo) (xC (cq T) (z4 (qv 5) (z4 (qv 6) z6))))))) (zf (kc 2)))) zN) (z8 (xw (xT oE ↑o zo) (z8 (zp (i:=2) zD.nd (xO zB (xO zB (xO zB (xO zB zo ↑o) zo) (qv 1)) (xI (we (z4 zo (z4 zo z6))) (jd Jj ↑B T.yD ZO (z4 ↑o z6))))) (z8 (qz PassesOwn.leaving rfl (J0 (zP qk ↑B T.yK qg (z4 ↑o z6))) (qY rfl (zT (zy (i:=3) zD.nd) (zT (zy (i:=4) zD.nd) qX))) (zf (zp (i:=2) zD.nd (xO zB (xO zB (xO zB (xO zB (qv 2) zo) (qv 3)) zo) (qv 4))))) (zf (kc 2)))) zN) (z8 (zp (i:=2) zD.nd (xO zB (xO zB (xO zB (xO zB (xO zB zo ↑o) zo) (jd J2 ↑B T.yL bQ (z4 ↑o z6))) zo) ↑o)) (z8 (zp (i:=7) zD.nd (jd a8 ↑B T.yG lT (z4 (jw ↑o wu (j3 ↑o)) z6))) (z8 (zp (i:=7) zD.nd (xO zB (qv 7) (zP qk ↑B T.yK qg (z4 (jw ↑o (j3 ↑o) wu) z6)))) (z8 (qz PassesOwn.leaving rfl (Yf 7) (qY rfl (zT (zy (i:=3) zD.nd) (zT (zy (i:=4) zD.nd) (zT (zy (i:=5) zD.nd) qX)))) (zf (zp (i:=2) zD.nd (xO zB (xO zB (xO zB (xO zB (xO zB (qv 2) zo) (qv 3)) zo) (qv 4)) (xI (we (z4 zo (z4 zo z6))) (jd Jj ↑B T.yD ZO (z4 (qv 5) z6))))))) (z8 (zp (i:=2) zD.nd (xO zB (qv 2) zo)) (z8 (qz PassesOwn.leaving rfl (J0 (zP qk ↑B T.yK qg (z4 ↑o z6))) (zy (i:=8) zD.nd) (zf (zp (i:=2) zD.nd (xO zB (xO zB (qv 2) zo) (qv 8))))) (zf (kc 2)))))))))))
theorem Mt{f:Addr}{fd:FuncData}(Fl:Zq K "law" "law" b7 f fd):qc P w K mg base (lU P w) 13 f fd ["_law_script"] (pX K (UE c)):=Zq.ok3 Fl kX λcdv A outer s H E hr=>(z8 (zp (i:=1) kX.nd (qA (ga T) (hr.mono ↑a) ↑B (z4 (gJ (dX hr) (qA (pz T) (hr.mono ↑a) ↑B (z4 (qA (lQ T) (hr.mono ↑a) ↑B (z4 (qv 0) (z4 z7 z6))) (z4 z7 z6))) z7 (λ_ _=>rfl)) (z4 z7 z6)))) (z8 (zp (i:=2) kX.nd (Iu zB xD (we (z4 zo (z4 zo (z4 zo (z4 zo (z4 zo (z4 zo z6))))))) (jw (qv 1) wu (j3 z7)))) (z8 (VI (i:=3) kX.nd rfl (by first|exact .inl rfl|exact .inr rfl) rfl (jp.of:jp ["_law_script","_law_titles","_law_kinds","_law_pieces","_law_face","_law_due","_law_word","_law_names_here","_law_name","_law_piece_here","_law_found","_law_read"] (za b7) _ "_law_k" ["_law_kinds","_law_titles","_law_script"] [2,1,0]) rfl (XI ↑B T.yI (z4 z7 (z4 (zP (M4 rfl) ↑B T.yH NN (z4 ↑ab (z4 z7 z6))) z6))) ↑W (λcl C ex pn s₀ H₀=>(qA (cp T) (hr.mono ↑a) ↑B (z4 (gJ (dX hr) (qv 2) (qv 0) (λ_ _=>rfl)) (z4 (gJ (dX hr) (qv 3) (qv 0) (λ_ _=>rfl)) (z4 (qv 1) z6)))))) (z8 (xw (ui (kb (Gb (eA hr)) xD (qv 3) (we z6) (qq _)) (ui (kb (Gb (eA hr)) xD ↑aX zo (qq _)) (uN (kb (Gc (VH hr)) xD ↑aX (qv 1) (by with_unfolding_all rfl))))).pt (zf (iX (i:=3) (kC (z4 zo (z4 ↑aX (z4 z7 (z4 (kC z6) (z4 ↑aX (z4 (kC (z4 zo z6)) z6))))))) (λte pe=>vv (fv PySem.F.plainAttrs_list PySem.F.slot_list_append PySem.F.type_list_append wp (pv 3) (xY pe k9))))) zN) (z8 (zp (i:=4) kX.nd (VP (gy T T.wK T.wI T.wJ) (hr.mono ↑a) ↑B (z4 (jd a8 ↑B T.yG lT (z4 (qv 3) z6)) z6))) (z8 (zp (i:=5) kX.nd (we z6)) (z8 (qz PassesOwn.leaving rfl (J0 (we (z4 zo (z4 zo (z4 zo z6))))) (zy (i:=6) kX.nd) (z8 (zp (i:=7) kX.nd (zP qk ↑B T.yK qg (z4 (qP rfl (jp.of:jp ["_law_script","_law_titles","_law_kinds","_law_pieces","_law_face","_law_due","_law_word","_law_names_here","_law_name","_law_piece_here","_law_found","_law_read"] (za b7) _ "_law_piece_here" ["_law_word"] [6]) rfl (pY (qv 3)) (λcl C ex pn s₀ H₀=>(Gn (kb (ZV (eA hr)) xD (gJ (dX hr) (qv 0) z7 (λ_ _=>rfl)) (qv 1) (qq _)))) (λcl C ex pn s₀ H₀=>(gJ (dX hr) (qv 0) z7 (λ_ _=>rfl)))) z6))) (zf (qz PassesOwn.leaving rfl (Yf 7) (zy (i:=8) kX.nd) (zf (qz PassesOwn.leaving rfl (Yf 3) (zy (i:=9) kX.nd) (zf (xw (ui (kb (ZV (eA hr)) xD (gJ (dX hr) (qv 9) z7 (λ_ _=>rfl)) (qv 6) (qq _)) (uN (kb (ZV (eA hr)) xD (gJ (dX hr) (qv 9) z7 (λ_ _=>rfl)) (qv 8) (qq _)))).pt (zf (iX (i:=5) (qA (rm T) (hr.mono ↑a) ↑B (z4 (qv 9) z6)) (λte pe=>vv (fv PySem.F.plainAttrs_list PySem.F.slot_list_append PySem.F.type_list_append wp (pv 5) (xY pe k9))))) zN)))))))) (z8 (zp (i:=10) kX.nd (qA (eY T) (hr.mono ↑a) ↑B (z4 (qv 4) z6))) (z8 (xw (qN (qW (zV (zP GC ↑B T.yE pT (z4 (qv 10) (z4 (M7 ↑B T.yL bQ) z6))) (λ_=>rfl))) (qx (kb (Gb (eA hr)) xD (qv 10) (oR PySem.F.plainAttrs_str PySem.F.slot_str_join PySem.F.type_str_join uY Mi zo (z4 (qv 5) z6)) (qq _)))).pt (zf (zH bW)) zN) (z8 (zp (i:=11) kX.nd (qA (aA T) (hr.mono ↑a) ↑B (z4 (qv 10) z6))) (zf (zH (uO (Mg ↑B T.yE ↑B T.wI (by intro p h;simp only[List.mem_cons,List.not_mem_nil,or_false]at h;rcases h with rfl;exact T.wO) (qv 11)) (uO (Vg (ZV (eA hr)) xD (ag (qJ T T.wL T.wJ) (hr.mono ↑a) (qv 11)) (ag (qJ T T.wL T.wJ) (hr.mono ↑a) (qv 4)) (qq _)) (fx (Vg (ZV (eA hr)) xD (qA (eY T) (hr.mono ↑a) ↑B (z4 (qv 11) z6)) (qv 10) (qq _)))))))))))))))))
end
def kY(h:xl t env=.ok true):jN t a b env=a env:=by unfold jN;rw[h];rfl
def zS(h:xl t env=.ok false):jN t a zq env=.nx env:=by unfold jN;rw[h];rfl
def zb(h:a e=.nx e'):zc a b e=b e':=by unfold zc;rw[h]
def gb(h:a e=.rt r):zc a b e=.rt r:=by unfold zc;rw[h]
def kf(h:xl t env=.ok true)(g:a env=.rt r):zc (jN t a zq) c env=.rt r:=gb ((kY h).trans g)
def vC(h:a env=.ok r)(g:m env=.ok rs):z3 a m env=.ok (r::rs):=by unfold z3;rw[h,bind_ok,g];rfl
def v2(h:a env=.ok (p,x))(g:b env=.ok (q,y))(k:f x y=some r):m2 f a b env=.ok r:=by unfold m2;rw[h,bind_ok,g,bind_ok];show Y9 (f x y)=_;rw[k];rfl
def vF(h:m env=.ok rs)(g:f rs=.ok r):z9 f m env=.ok r:=by unfold z9;rw[h];exact g
def vK(h:m env=.ok rs)(g:f (rs.map (·.2))=some r):zl f m env=.ok r:=by unfold zl;rw[h,bind_ok,g];rfl
def vL(h:m env=.ok rs)(e:rs.map (·.2)=ts)(hl:Nat.ble rs.length 100=true):jo m env=.ok (true,.lst ts):=by unfold jo;rw[h,bind_ok,if_pos (Nat.le_trans (Nat.le_of_ble_eq_true hl) ↑v),e]
def vV(h:env[i]?=some (some (b,t))):mV i env=.ok ↑P:=by unfold mV;rw[h]
def vT(h:m env=.ok (p,.bl b)):zX m env=.ok b:=by unfold zX;rw[h];rfl
def av(h:a env=.ok (p,.bl true))(g:b env=.ok r):jP a b env=.ok r:=by unfold jP;rw[h];exact g
def b9(h:a env=.ok x)(g:b env=.ok y):jO a b env=.ok (x&&y):=by
 unfold jO;rw[h,bind_ok];cases x;·rfl
 ·exact g
def vS(a:m env=.ok (p,x))(b:ml env=.ok l)(c:mh env=.ok h)(d:dR x l h=some r):k5 m ml mh env=.ok r:=by unfold k5;rw[a,bind_ok,b,bind_ok,c,bind_ok,d];rfl
def vP(h:m env=.ok rs)(e:rs.map (·.2)=ts)(hl:Nat.ble rs.length 100=true):jL m env=.ok (false,.tup ts):=by unfold jL;rw[h,bind_ok,if_pos (Nat.le_trans (Nat.le_of_ble_eq_true hl) ↑v),e]
def vG(h:m env=.ok (p,.str z))(g:tab.lookup z=some t):k7 tab m env=.ok ↑P:=by unfold k7;rw[h];show Y9 ((tab.lookup z).map _)=_;rw[g];rfl
def vI(h:m env=.ok (p,.str z))(g:tab.lookup z=some t):gM b tab m env=.ok (false,.bl (true==b)):=by unfold gM;rw[h];show gl.ok (false,T.bl ((tab.lookup z).isSome==b))=_;rw[g];rfl
def pP(h:a env=.ok false)(g:b env=x):w9 a b env=x:=by unfold w9;rw[h];exact g
def rn(h:m env=.ok (p,.bl true)):xk (km m) env=.ok false:=by unfold xk km;rw[h];rfl
def vB(h:a env=.ok r)(g:m env=.bad):z3 a m env=.bad:=by unfold z3;rw[h,bind_ok,g];rfl
def ET(h:m env=.bad):jL m env=.bad:=by unfold jL;rw[h];rfl
def vM(h:mo env=.ok (p,x))(hk:ok x=true)(g:m env=.ok rs)(k:f (x::rs.map (·.2))=some r):eF ok f mo m env=.ok r:=by unfold eF;rw[h,bind_ok,if_pos hk,g,bind_ok,k];rfl
def vN(h:m env=.ok (p,.int i)):zx m env=.ok (some i):=by unfold zx;rw[h];rfl
def HQ(h:a env=.bad):zl f (z3 a m) env=.bad:=by unfold zl z3;rw[h];rfl
def Dt(h:m env=.bad):z9 f m env=.bad:=by unfold z9;rw[h];rfl
def xh(h:m (zJ env)=.ok b):xl m env=.ok b:=by unfold xl;rw[h]
def zZ(hl:rs.length=k)(h:mb (qB n rs)=.rt r):zR n k mb rs=.ok r:=by unfold zR;rw[if_pos hl,h];rfl
def zw(h:m (zJ env)=.ok r):zn i m env=.nx (env.set i (some r)):=by unfold zn jR;rw[h]
def j9(h:m (zJ env)=.ok r):zt m env=.rt r:=by unfold zt jR;rw[h]
def Kn(h:a env=.ok false):jO a b env=.ok false:=by unfold jO;rw[h];rfl
def nw(h:xl t env=.ok false):je t b (n+1) env=.nx env:=by unfold je;rw[h];rfl
def rp(h:xl t env=.ok true)(g:b env=.nx e):je t b (n+1) env=je t b n e:=by
 conv=>lhs;unfold je
 rw[h];dsimp only;rw[if_pos rfl,g]
def Ko(h:xl t env=.ok true)(g:b env=.rt r):je t b (n+1) env=.rt r:=by
 conv=>lhs;unfold je
 rw[h];dsimp only;rw[if_pos rfl,g]
def IQ(h:xl t env=.ok true)(g:b env=.nx e):zc (je t b (n+1)) c env=zc (je t b n) c e:=by unfold zc;rw[rp h g]
def Mu(h:m env=.ok true):vA m a b env=a env:=by unfold vA;rw[h];rfl
def Mv(h:m env=.ok false):vA m a b env=b env:=by unfold vA;rw[h];rfl
def YD(h:z.length<=sizeLine):jA [.str z]=some (false,.int (z.length:Int)):=if_pos h
def Mw(h:decide (i<j)=b):gm (.int i) (.int j)=some (false,.bl b):=by rw[<-h];rfl
def aC(h:env[i]?=some (some (true,.lst ts)))(hm:m (zJ env)=.ok r)(hl:ts.length<sizeLine):kQ i m env=.nx (env.set i (some (true,.lst (ts++[r.2])))):=by unfold kQ jR;rw[h,hm];dsimp only;rw[h];dsimp only;rw[if_pos hl]
def j8(hH:m (zJ env)=.bad)(hE:m env=.ok b):xl m env=.ok b:=by unfold xl;rw[hH,hE]
def ve(hE:m env=.ok r)(hH:m (zJ env)=.bad):zt m env=.rt r:=by unfold zt jR;rw[hH,hE]
def IR(h:mV i env=.ok (false,.lst ts))(e:ts.isEmpty=b):km (mV i) env=.ok (!b):=by unfold km;rw[h,<-e];rfl
def Mx(h:env[i]?=some (some (true,.lst ts)))(e:ts.isEmpty=false):iY i env=.nx (env.set i (some (true,.lst ts.dropLast))):=by unfold iY;rw[h];dsimp only;rw[if_neg λz=>by rw[z]at e;cases e]
def IS(h:a env=.ok true):w9 a b env=.ok true:=by unfold w9;rw[h];rfl
def UF(h:m (zJ env)=.ok r):jR m env=.ok (r,env):=by unfold jR;rw[h]
def Kp(hv:jR mv env=.ok (r,env))(hi:env[i]?=some (some (true,.lst ts)))(hk:mk (zJ env)=.ok (p,.int k))(hx:JW ts.length k=some j):m3 i mk mv env=.nx (env.set i (some (true,.lst (ts.set j r.2)))):=by unfold m3;rw[hv];dsimp only;rw[hi];dsimp only;rw[UF hk];dsimp only;rw[hi];dsimp only;rw[hx]
def YE(h:env[i]?=some (some (true,.lst ts)))(hH:m (zJ env)=.bad)(hE:m env=.ok r)(hc:L3.clean env r=true)(hl:ts.length<sizeLine):kQ i m env=.nx (env.set i (some (true,.lst (ts++[r.2])))):=by unfold kQ jR L3.settle;rw[h,hH,hE];dsimp only;rw[if_pos hc,h];dsimp only;rw[if_pos hl]
def jB(h1:ZY r=true)(h2:XD r=true)(h3:XE r=true):L3.clean env r=true:=by unfold L3.clean;simp[h1,h2,h3]
def qT(a:Int)(h:0<b):zY (.int a) (.int b)=some (false,.int (a%b)):=if_pos h
def YF(h:gg a b):j7 (.int a) (.int b)=some (false,.int (a/b)):=if_pos h
def EU(h:a env=.bad):z3 a m env=.bad:=by unfold z3;rw[h];rfl
def Du(h:a env=.ok r)(g:b env=.bad):m2 f a b env=.bad:=by unfold m2;rw[h,bind_ok,g];rfl
def Dv(h:a env=.ok (p,.bl x))(g:b env=.ok (false,.bl y)):jP a b env=.ok (false,.bl (x&&y)):=by
 unfold jP;rw[h];cases x;·rfl
 ·exact g
def Dw(h:a env=.ok (p,.bl x))(g:b env=.ok (false,.bl y)):iU a b env=.ok (false,.bl (x||y)):=by
 unfold iU;rw[h];cases x;·exact g
 ·rfl
def Dx(h:a env=.ok (p,.bl x)):f8 a env=.ok (false,.bl (!x)):=by unfold f8;rw[h];rfl
def IT(h:decide (i<=j)=b):Vm (.int i) (.int j)=some (false,.bl b):=by rw[<-h];rfl
def Kq(h:decide (j<i)=b):om (.int i) (.int j)=some (false,.bl b):=by rw[<-h];rfl
def EV(h:a env=.ok (p,.bl false)):jP a b env=.ok ↑aA:=by unfold jP;rw[h];rfl
def ba(l:List α)(e:Nat):dM l (e:Int)=l[e]?:=by cases h:l[e]? with|some v=>exact QV h|none=>
  have hl:l.length<=e:=by simpa using h
  have e1:JW l.length (e:Int)=none:=by unfold JW;rw[if_pos ↑a,if_neg ↑a]
  unfold dM;rw[e1];rfl
def My(c:Nat)(z:Str):fw (.str ⟨#[c]⟩) (.str z)=some (false,.bl (decide (c∈z.cps.toList))):=by show Option.map _ (some (!(Builtin.Str.occurrences z ⟨#[c]⟩ 0 z.length 1).isEmpty))=_;rw[StrLaws.found_one];rfl
def aD(z sg:Str)(s:Int)(hz:z.length<=sizeLine):∀(n e fuel:Nat),z.length-e=n->e<=z.length->n<fuel->je (jO (zX (m2 gm (mV 3) ↑X)) (zX (m2 fw (m2 zk ↑m (mV 3)) (mV 2)))) (dS 3 uR ↑c) fuel [some ↑j,some (false,.int s),some (false,.str sg),some (false,.int e)]=
  .nx [some ↑j,some (false,.int s),some (false,.str sg),some (false,.int (Fs.runEnd z.cps.toList e sg.cps.toList))]:=by intro n;induction n with|zero=>
  intro e fuel hn he hf;obtain⟨f,rfl⟩:∃f,fuel=f+1:=⟨fuel-1,by omega⟩;have hl:¬((e:Int)<(z.length:Int)):=by omega
  rw[Fs.runEnd_out (by show z.cps.size<=e;have:z.length=z.cps.size:=rfl;omega)];exact nw (xh (Kn (vT (v2 rfl (vK ↑q (YD hz)) (Mw (decide_eq_false hl))))))|succ n ih=>
  intro e fuel hn he hf;obtain⟨f,rfl⟩:∃f,fuel=f+1:=⟨fuel-1,by omega⟩;have hl:(e:Int)<(z.length:Int):=by omega
  have hlt:e<z.cps.toList.length:=by have:z.length=z.cps.size:=rfl;simp;omega
  obtain⟨c,hget⟩:∃c,z.cps.toList[e]?=some c:=⟨z.cps.toList[e],List.getElem?_eq_getElem hlt⟩;have hx:zk (.str z) (.int (e:Int))=some (false,.str ⟨#[c]⟩):=by show(if z.length<=sizeLine then(dM z.cps.toList (e:Int)).map _ else none)=_;rw[if_pos hz,ba,hget];rfl
  have ht:xl (jO (zX (m2 gm (mV 3) ↑X)) (zX (m2 fw (m2 zk ↑m (mV 3)) (mV 2)))) [some ↑j,some (false,.int s),some (false,.str sg),some (false,.int (e:Int))]=.ok (true&&decide (c∈sg.cps.toList)):=xh (b9 (vT (v2 rfl (vK ↑q (YD hz)) (Mw (decide_eq_true hl)))) (vT (v2 (v2 rfl rfl hx) rfl (My c sg))));by_cases hm:c∈sg.cps.toList;·rw[<-Fs.runEnd_go hget hm,<-ih (e+1) f ↑a ↑a ↑a];rw[decide_eq_true hm]at ht;exact rp ht rfl
  ·rw[Fs.runEnd_stop hget hm];rw[decide_eq_false hm]at ht;exact nw ht
def d7(z sg:Str)(s:Nat)(hz:z.length<=sizeLine)(h2:z.length<99999)(hs:s<=z.length):pH [↑j,(false,.int s),(false,.str sg)]=.ok (false,.int (Fs.runEnd z.cps.toList s sg.cps.toList)):=by have h:=aD z sg s hz (z.length-s) s 100000 rfl hs ↑a;exact zZ rfl ((zb (zw rfl)).trans (zb h))
def d8:("abcdefghijklmnopqrstuvwxyz":Str).cps.toList=Fs.letters:=by decide+kernel
def Jr:("0123456789":Str).cps.toList=Fs.figures:=by decide+kernel
def IU:(".":Str)=⟨#[46]⟩:=by decide+kernel
def EW:("(":Str)=⟨#[40]⟩:=by decide+kernel
def Mz:(")":Str)=⟨#[41]⟩:=by decide+kernel
def Kr:("&":Str)=⟨#[38]⟩:=by decide+kernel
def Ks:("#":Str)=⟨#[35]⟩:=by decide+kernel
def vW(i j:Int):zG (.int i) (.int j)=some (false,.bl (decide (i=j))):=by simp[zG,fk,ZS];exact Bool.eq_iff_iff.mpr ↑T
def qK(x y:Str):zG (.str x) (.str y)=some (false,.bl (decide (x=y))):=by simp[zG,fk,ZS];exact Bool.eq_iff_iff.mpr ↑T
def gT(x y:Str):wS (.str x) (.str y)=some (false,.bl (!decide (x=y))):=by simp[wS,fk,ZS];exact Bool.eq_iff_iff.mpr ↑T
def wt(h:mV i env=.ok ↑P)(hx:zk t (.int 0)=some ↑S)(hb:decide (w=v)=b):zX (m2 zG (m2 zk (mV i) ↑l) (mC (.str v))) env=.ok b:=by rw[<-hb];exact vT (v2 (v2 h rfl hx) rfl (qK w v))
def MB{z y:Str}{e c:Nat}(hy:y=⟨#[c]⟩):zG (.str (lD z (some (e:Int)) (some ((e:Int)+1)))) (.str y)=some (false,.bl (decide (z.cps.toList[e]?=some c))):=by rw[qK,<-Y7 (z:=z) (e:=e) hy];congr 3;exact decide_eq_decide.mpr ⟨λh=>by rw[h],λh=>by injection h⟩
def EX:ME:=k5 ↑m (zx (mV 2)) (zx (m2 zg (mV 2) ↑c))
def Kt(hz:z.length<=sizeLine)(h0:mV 0 env=.ok ↑j)(h2:mV 2 env=.ok (false,.int (e:Int))):EX env=.ok (false,.str (lD z (some (e:Int)) (some ((e:Int)+1)))):=vS h0 (vN h2) (vN (v2 h2 rfl rfl)) (if_pos hz)
def rq{z y:Str}{c:Nat}(hy:y=⟨#[c]⟩)(hz:z.length<=sizeLine){e:Nat}{env:En}(h0:mV 0 env=.ok ↑j)(h2:mV 2 env=.ok (false,.int (e:Int))):zX (m2 zG ↑g (mC (.str y))) env=.ok (decide (z.cps.toList[e]?=some c)):=vT (v2 (Kt hz h0 h2) rfl (MB hy))
def pA(z:Str)(s:Nat)(hz:z.length<=sizeLine)(h2:z.length<99999)(hs:s<=z.length):xH [↑j,(false,.int s)]=.ok (false,.int (Fs.nameEnd z.cps.toList s)):=by
 have h:=d7 z "abcdefghijklmnopqrstuvwxyz" s hz h2 hs;rw[d8]at h;have hge:=Fs.runEnd_ge z.cps.toList s Fs.letters;unfold Fs.nameEnd;by_cases h12:Fs.runEnd z.cps.toList s Fs.letters-s<=12
 ·have hi:(Fs.runEnd z.cps.toList s Fs.letters:Int)-(s:Int)<=12:=by omega
  rw[if_pos h12];exact zZ rfl ((zb (zw (vF (vC rfl ↑aR) h))).trans (j9 ((Mu (vT (v2 (v2 rfl rfl rfl) rfl (IT (decide_eq_true hi))))).trans rfl)))
 ·have hi:¬((Fs.runEnd z.cps.toList s Fs.letters:Int)-(s:Int)<=12):=by omega
  rw[if_neg h12];exact zZ rfl ((zb (zw (vF (vC rfl ↑aR) h))).trans (j9 ((Mv (vT (v2 (v2 rfl rfl rfl) rfl (IT (decide_eq_false hi))))).trans rfl)))
def cr(z:Str)(s:Nat)(hz:z.length<=sizeLine)(h2:z.length<99999)(hs:s+1<=z.length):vJ [↑j,(false,.int s)]=.ok (false,.int (Fs.numberEnd z.cps.toList s)):=by
 have h:=d7 z "0123456789" (s+1) hz h2 hs;rw[Jr]at h;have hc:((s+1:Nat):Int)=(s:Int)+1:=by omega
 rw[hc]at h;unfold Fs.numberEnd;by_cases h12:s+1<Fs.runEnd z.cps.toList (s+1) Fs.figures
 ·have hi:(s:Int)+1<(Fs.runEnd z.cps.toList (s+1) Fs.figures:Int):=by omega
  rw[if_pos h12];exact zZ rfl ((zb (zw (vF (vC rfl (vC (v2 rfl rfl rfl) ↑q)) h))).trans (j9 ((Mu (vT (v2 rfl (v2 rfl rfl rfl) (Kq (decide_eq_true hi))))).trans rfl)))
 ·have hi:¬((s:Int)+1<(Fs.runEnd z.cps.toList (s+1) Fs.figures:Int)):=by omega
  rw[if_neg h12];exact zZ rfl ((zb (zw (vF (vC rfl (vC (v2 rfl rfl rfl) ↑q)) h))).trans (j9 ((Mv (vT (v2 rfl (v2 rfl rfl rfl) (Kq (decide_eq_false hi))))).trans rfl)))
def uE(z:Str)(hz:z.length<=sizeLine)(h2:z.length<99999):xp [↑j]=.ok (false,.bl (Fs.isName z.cps.toList)):=by
 have h:=pA z 0 hz h2 ↑aV;have hl:z.cps.toList.length=z.length:=by simp[Str.length]
 have he:(z="")↔z.cps.toList=[]:=by
  constructor;·rintro rfl;decide+kernel
  ·intro h;obtain⟨cps⟩:=z;simp at h;subst h;decide+kernel
 have hn:(decide (z.cps.toList=[]))=decide (z=""):=decide_eq_decide.mpr he.symm;unfold Fs.isName;rw[hl,hn];have h:xH [↑j,(false,.int 0)]=.ok (false,.int (Fs.nameEnd z.cps.toList 0)):=h;by_cases h0:z="";·have n0:=gT z "";rw[decide_eq_true h0]at n0;rw[decide_eq_true h0];exact zZ rfl (j9 (EV (v2 rfl rfl n0)))
 ·have n0:=gT z "";rw[decide_eq_false h0]at n0;rw[decide_eq_false h0];have e:=vW (Fs.nameEnd z.cps.toList 0:Int) (z.length:Int);rw[show decide ((Fs.nameEnd z.cps.toList 0:Int)=(z.length:Int))=decide (Fs.nameEnd z.cps.toList 0=z.length)from decide_eq_decide.mpr ↑a]at e;exact zZ rfl (j9 (av (v2 rfl rfl n0) (v2 (vF ↑aR h) (vK ↑q (YD hz)) e)))
def jt(z:Str):z.cps.toList.length=z.length:=by simp[Str.length]
def rA(z:Str)(s:Int)(hz:z.length<=sizeLine)(hz2:z.length<99999):∀(n e fuel:Nat)(v:Option RV),zQ v=v->z.length-e<=n->e<=z.length->n<fuel->zc (je (zX (m2 zG ↑g (mC (.str ".")))) (zc (zn 3 (z9 xH (z3 ↑m (z3 (m2 zg (mV 2) ↑c) z5)))) (zc (jN (zX (m2 zG (mV 3) (m2 zg (mV 2) ↑c))) (xx 2) zq) (zn 2 (mV 3)))) fuel) (xx 2) [some ↑j,some (false,.int s),some (false,.int e),v]=.rt (false,.int (Fs.pointsEnd z.cps.toList e)):=by
 have ht:∀(e:Nat)(v:Option RV),xl (zX (m2 zG ↑g (mC (.str ".")))) [some ↑j,some (false,.int s),some (false,.int e),v]=.ok (decide (z.cps.toList[e]?=some 46)):=λe v=>xh (rq IU hz rfl rfl);intro n
 induction n with|zero=>
  intro e fuel v hv hn he hf;obtain⟨f,rfl⟩:∃f,fuel=f+1:=⟨fuel-1,by omega⟩;have h:¬z.cps.toList[e]?=some 46:=λh=>by have:=(List.getElem?_eq_some_iff.mp h).1;rw[jt]at this;omega
  have ht:=ht e v;rw[decide_eq_false h]at ht;rw[Fs.pe_no h];exact zb (nw ht)|succ n ih=>
  intro e fuel v hv hn he hf;obtain⟨f,rfl⟩:∃f,fuel=f+1:=⟨fuel-1,by omega⟩;have ht:=ht e v;by_cases h:z.cps.toList[e]?=some 46
  ·have hl:e<z.length:=by have:=(List.getElem?_eq_some_iff.mp h).1;rwa[jt]at this
   rw[decide_eq_true h]at ht;have hne:=pA z (e+1) hz hz2 hl;have hc:((e+1:Nat):Int)=(e:Int)+1:=by omega
   rw[hc]at hne;have hq:=vW (Fs.nameEnd z.cps.toList (e+1):Int) ((e:Int)+1);by_cases h2:e+1<Fs.nameEnd z.cps.toList (e+1);·have h3:=Fs.nameEnd_lt h2;rw[jt]at h3;rw[decide_eq_false ↑a]at hq;rw[Fs.pe_go h h2,<-ih (Fs.nameEnd z.cps.toList (e+1)) f (some (false,.int (Fs.nameEnd z.cps.toList (e+1)))) rfl ↑a h3.2 ↑a];exact IQ ht ((zb (zw (vF (vC rfl (vC (v2 rfl rfl rfl) rfl)) hne))).trans ((zb (zS (xh (vT (v2 rfl (v2 rfl rfl rfl) hq))))).trans (zw rfl)))
   ·have hi:(Fs.nameEnd z.cps.toList (e+1):Int)=(e:Int)+1:=by have:=Fs.nameEnd_ge z.cps.toList (e+1);omega
    rw[decide_eq_true hi]at hq;rw[Fs.pe_bad h h2];exact gb (Ko ht ((zb (zw (vF (vC rfl (vC (v2 rfl rfl rfl) rfl)) hne))).trans (kf (xh (vT (v2 rfl (v2 rfl rfl rfl) hq))) rfl)))
  ·rw[decide_eq_false h]at ht;rw[Fs.pe_no h];exact zb (nw ht)
def ue(z:Str)(s:Nat)(hz:z.length<=sizeLine)(h2:z.length<99999)(hs:s<=z.length):xJ [↑j,(false,.int s)]=.ok (false,.int (Fs.pointsEnd z.cps.toList s)):=by have h:=rA z s hz h2 (z.length-s) s 100000 none rfl ↑e hs ↑a;exact zZ rfl ((zb (zw rfl)).trans h)
def fm(st:List Nat):List T:=st.reverse.map λc=>T.str ⟨#[c]⟩
def gz(st:List Nat)(c:Nat):fm st++[T.str ⟨#[c]⟩]=fm (c::st):=by simp[fm]
def gU(st:List Nat):(fm st).length=st.length:=by simp[fm]
def Ku(st:List Nat)(c:Nat):(fm (c::st)).dropLast=fm st:=by rw[<-gz,List.dropLast_concat]
def rB(n:Nat):JW (n+1) (-1)=some n:=by unfold JW;simp;omega
def MC(st:List Nat)(c:Nat):dM (fm (c::st)) (-1)=some (T.str ⟨#[c]⟩):=by unfold dM;rw[gU,List.length_cons,rB];show(fm (c::st))[st.length]?=_;rw[<-gz,List.getElem?_append_right (by rw[gU];exact Nat.le_refl _),gU];simp
def aE(st:List Nat)(c:Nat):zk (.lst (fm (c::st))) (.int (-1))=some (false,.str ⟨#[c]⟩):=by show(dM (fm (c::st)) (-1)).map _=_;rw[MC];rfl
def GP(st:List Nat)(c d:Nat):(fm (c::st)).set st.length (T.str ⟨#[d]⟩)=fm (d::st):=by rw[<-gz,<-gz,List.set_append_right _ _ (by rw[gU];exact Nat.le_refl _),gU];simp
def aF(st:List Nat)(c:Nat):(fm (c::st)).isEmpty=false:=by rw[<-gz];cases fm st<;>rfl
def GQ(hy:y=⟨#[d]⟩):zG (.str ⟨#[c]⟩) (.str y)=some (false,.bl (decide (c=d))):=by rw[qK];subst hy;congr 3;exact decide_eq_decide.mpr ⟨λh=>by injection h with h;simpa using h,λh=>by rw[h]⟩
def GR(hy:y=⟨#[d]⟩):wS (.str ⟨#[c]⟩) (.str y)=some (false,.bl (!decide (c=d))):=by rw[gT];subst hy;congr 4;exact decide_eq_decide.mpr ⟨λh=>by injection h with h;simpa using h,λh=>by rw[h]⟩
def MD{z y:Str}{e c:Nat}(hy:y=⟨#[c]⟩):wS (.str (lD z (some (e:Int)) (some ((e:Int)+1)))) (.str y)=some (false,.bl (!decide (z.cps.toList[e]?=some c))):=by rw[gT,<-Y7 (z:=z) (e:=e) hy];congr 4;exact decide_eq_decide.mpr ⟨λh=>by rw[h],λh=>by injection h⟩
def Wa(z:Str)(hz:z.length<sizeLine):∀(n b fuel:Nat)(st:List Nat)(v:Option RV),zQ v=v->(∀t∈st,t=38\/t=41)->z.length-b<=n->b<=z.length->st.length<=b->n<fuel->∃(b':Nat)(tt:List Nat),je (zX (m2 zG ↑g (mC (.str "(")))) (zc (kQ 1 (mC (.str "&"))) (dS 2 uR ↑c)) fuel [some ↑j,some (true,.lst (fm st)),some (false,.int b),v]=.nx [some ↑j,some (true,.lst (fm tt)),some (false,.int b'),v]/\¬z.cps.toList[b']?=some 40/\b<=b'/\b'<=z.length/\tt.length<=b'/\(∀t∈tt,t=38\/t=41)/\Fs.ans z.cps.toList tt b'=Fs.ans z.cps.toList st b:=by
 have hz':z.length<=sizeLine:=Nat.le_of_lt hz;have ht:∀(b:Nat)(st:List Nat)(v:Option RV),xl (zX (m2 zG ↑g (mC (.str "(")))) [some ↑j,some (true,.lst (fm st)),some (false,.int b),v]=.ok (decide (z.cps.toList[b]?=some 40)):=λb st v=>xh (rq EW hz' rfl rfl);intro n
 induction n with|zero=>
  intro b fuel st v hv hst hn hb hl hf;obtain⟨f,rfl⟩:∃f,fuel=f+1:=⟨fuel-1,by omega⟩;have h:¬z.cps.toList[b]?=some 40:=λh=>by have:=(List.getElem?_eq_some_iff.mp h).1;rw[jt]at this;omega
  have ht:=ht b st v;rw[decide_eq_false h]at ht;exact⟨b,st,nw ht,h,Nat.le_refl _,hb,hl,hst,rfl⟩|succ n ih=>
  intro b fuel st v hv hst hn hb hl hf;obtain⟨f,rfl⟩:∃f,fuel=f+1:=⟨fuel-1,by omega⟩;have ht:=ht b st v;by_cases h:z.cps.toList[b]?=some 40
  ·have hbl:b<z.length:=by have:=(List.getElem?_eq_some_iff.mp h).1;rwa[jt]at this
   rw[decide_eq_true h]at ht;obtain⟨b',tt,e,h1,h2,h3,h4,h5,h6⟩:=ih (b+1) f (38::st) v hv (λt ht=>by
    rcases List.mem_cons.mp ht with rfl|ht;·exact .inl rfl
    ·exact hst t ht) ↑a hbl (by rw[List.length_cons];omega) ↑a;refine⟨b',tt,?_,h1,by omega,h3,h4,h5,by rw[h6,<-Fs.ans_open h]⟩;have hsl:st.length<sizeLine:=by omega
   rw[<-e,<-gz,<-Kr];exact rp ht ((zb (aC (r:=(false,.str "&")) rfl rfl (by rw[gU];exact hsl))).trans rfl)
  ·rw[decide_eq_false h]at ht;exact⟨b,st,nw ht,h,Nat.le_refl _,hb,hl,hst,rfl⟩
def MH(cs:List Nat)(uu:List Nat)(c:Nat):Bool:=match uu with|[]=>false|t::_=>decide (t=41)&&decide (cs[c]?=some 41)
def Js(z:Str)(hz:z.length<=sizeLine)(hz2:z.length<99999):∀(n c fuel:Nat)(uu:List Nat)(v:Option RV),zQ v=v->(∀t∈uu,t=38\/t=41)->uu.length<=n->c<=z.length->n<fuel->∃(c':Nat)(ww:List Nat),je ↑O (zc (iY 1) (zn 2 (z9 xJ (z3 ↑m (z3 (m2 zg (mV 2) ↑c) z5))))) fuel [some ↑j,some (true,.lst (fm uu)),some ↑r,v]=.nx [some ↑j,some (true,.lst (fm ww)),some (false,.int c'),v]/\MH z.cps.toList ww c'=false/\c<=c'/\c'<=z.length/\ww.length<=uu.length/\(∀t∈ww,t=38\/t=41)/\Fs.contP z.cps.toList ww c'=Fs.contP z.cps.toList uu c:=by have no:∀(t:MT)(c:Nat)(uu:List Nat)(v:Option RV)(x:Bool),jO (km (mV 1)) t [some ↑j,some (true,.lst (fm uu)),some ↑r,v]=.ok x->xl (jO (km (mV 1)) t) [some ↑j,some (true,.lst (fm uu)),some ↑r,v]=.ok x:=λt c uu v x h=>j8 rfl h;have ht:∀(c t:Nat)(uu:List Nat)(v:Option RV),xl ↑O [some ↑j,some (true,.lst (fm (t::uu))),some ↑r,v]=.ok (decide (t=41)&&decide (z.cps.toList[c]?=some 41)):=λc t uu v=>no _ _ _ _ _ (b9 (x:=true) (IR rfl (aF uu t)) (b9 (vT (v2 (v2 rfl rfl (aE uu t)) rfl (GQ Mz))) (rq Mz hz rfl rfl)));intro n;induction n with|zero=>intro c fuel uu v hv hu hn hc hf;obtain⟨f,rfl⟩:∃f,fuel=f+1:=⟨fuel-1,by omega⟩;have:uu=[]:=List.length_eq_zero_iff.mp (Nat.le_zero.mp hn);subst this;exact⟨c,[],nw (no _ _ _ _ _ (Kn rfl)),rfl,Nat.le_refl _,hc,Nat.le_refl _,hu,rfl⟩|succ n ih=>intro c fuel uu v hv hu hn hc hf;obtain⟨f,rfl⟩:∃f,fuel=f+1:=⟨fuel-1,by omega⟩;cases uu with|nil=>exact⟨c,[],nw (no _ _ _ _ _ (Kn rfl)),rfl,Nat.le_refl _,hc,Nat.le_refl _,hu,rfl⟩|cons t uu=>
   have ht:=ht c t uu v;by_cases h:t=41/\z.cps.toList[c]?=some 41
   ·obtain⟨rfl,h⟩:=h;have hcl:c<z.length:=by have:=(List.getElem?_eq_some_iff.mp h).1;rwa[jt]at this
    rw[decide_eq_true h]at ht;have hpe:=ue z (c+1) hz hz2 hcl;have hcc:((c+1:Nat):Int)=(c:Int)+1:=by omega
    rw[hcc]at hpe;have hge:=Fs.pointsEnd_ge z.cps.toList _ (c+1) ↑e;rw[jt]at hge;obtain⟨c',ww,e,h1,h2,h3,h4,h5,h6⟩:=ih (Fs.pointsEnd z.cps.toList (c+1)) f uu v hv (λt ht=>hu t (List.mem_cons_of_mem _ ht)) (by rw[List.length_cons]at hn;omega) (hge.2 hcl) ↑a;refine⟨c',ww,?_,h1,by omega,h3,by rw[List.length_cons];omega,h5,by rw[h6,<-Fs.contP_close h]⟩;rw[<-e,<-Ku uu 41];exact rp ht ((zb (Mx rfl (aF uu 41))).trans (zw (vF (vC rfl (vC (v2 rfl rfl rfl) rfl)) hpe)))
   ·rw[<-Bool.decide_and,decide_eq_false h]at ht;exact⟨c,t::uu,nw ht,(Bool.decide_and _ _).symm.trans (decide_eq_false h),Nat.le_refl _,hc,Nat.le_refl _,hu,rfl⟩
def ny:MS:=↑a0
def bc(z:Str)(hz:z.length<sizeLine)(hz2:z.length<99999)(a:Nat)(st:List Nat)(v:Option RV)(hv:zQ v=v)(hst:∀t∈st,t=38\/t=41)(ha:a<=z.length)(hsl:st.length<=a):ny [some ↑j,some (true,.lst (fm st)),some (false,.int a),v]=.rt (false,.bl (Fs.ans z.cps.toList st a))\/∃(c:Nat)(rest:List Nat)(v':Option RV),ny [some ↑j,some (true,.lst (fm st)),some (false,.int a),v]=.nx [some ↑j,some (true,.lst (fm (41::rest))),some (false,.int ((c+1:Nat):Int)),v']/\zQ v'=v'/\a<=c/\c<z.length/\rest.length<c/\(∀t∈41::rest,t=38\/t=41)/\Fs.ans z.cps.toList (41::rest) (c+1)=Fs.ans z.cps.toList st a:=by
 have hz':z.length<=sizeLine:=Nat.le_of_lt hz;unfold ny;obtain⟨b,tt,e1,h40,hab,hb,htl,htt,hans⟩:=Wa z hz (z.length-a) a 100000 st v hv hst ↑e ha hsl ↑a;rw[zb e1,<-hans,Fs.ans_head h40];have hhe:=Fs.headEnd_le z.cps.toList b;rw[jt]at hhe--end=..
 have e2:zn 3 (vA (zX (m2 zG ↑g (mC (.str "#")))) (z9 vJ (z3 ↑m ↑az)) (z9 xH (z3 ↑m ↑az))) [some ↑j,some (true,.lst (fm tt)),some (false,.int b),v]=.nx [some ↑j,some (true,.lst (fm tt)),some (false,.int b),some (false,.int ↑aw)]:=by
  unfold Fs.headEnd;by_cases h:z.cps.toList[b]?=some 35
  ·have hbl:b<z.length:=by have:=(List.getElem?_eq_some_iff.mp h).1;rwa[jt]at this
   have:=cr z b hz' hz2 hbl;rw[if_pos h];have hc:=rq Ks hz' (e:=b) (env:=zJ [some ↑j,some (true,.lst (fm tt)),some (false,.int b),v]) rfl rfl;rw[decide_eq_true h]at hc;exact zw ((Mu hc).trans (vF ↑aR this))
  ·have:=pA z b hz' hz2 hb;rw[if_neg h];have hc:=rq Ks hz' (e:=b) (env:=zJ [some ↑j,some (true,.lst (fm tt)),some (false,.int b),v]) rfl rfl;rw[decide_eq_false h]at hc;exact zw ((Mv hc).trans (vF ↑aR this))
 rw[zb e2];by_cases h3:Fs.headEnd z.cps.toList b=b;·have hq:=vW (Fs.headEnd z.cps.toList b:Int) (b:Int);rw[decide_eq_true ↑a]at hq;rw[if_pos h3];exact .inl (kf (xh (vT (v2 rfl rfl hq))) (j9 rfl))
 have hq:=vW (Fs.headEnd z.cps.toList b:Int) (b:Int);rw[decide_eq_false ↑a]at hq;have hn3:xl (zX (m2 zG (mV 3) (mV 2))) [some ↑j,some (true,.lst (fm tt)),some (false,.int b),some (false,.int ↑aw)]=.ok false:=xh (vT (v2 rfl rfl hq));rw[if_neg h3,zb (zS hn3)]--at=points_end(text,end)
 have hpe:=ue z ↑aw hz' hz2 (hhe.2 hb);have hge:=Fs.pointsEnd_ge z.cps.toList _ ↑aw ↑e;rw[jt]at hge;rw[zb (e':=[some ↑j,some (true,.lst (fm tt)),some (false,.int (Fs.pointsEnd z.cps.toList ↑aw)),some (false,.int ↑aw)]) (zw (vF ↑aR hpe))];obtain⟨c,uu,e3,hcl,hcc,hc,hul,huu,hcp⟩:=Js z hz' hz2 tt.length (Fs.pointsEnd z.cps.toList ↑aw) 100000 tt (some (false,.int ↑aw)) rfl htt ↑e (hge.2 (hhe.2 hb)) ↑a;rw[zb e3,<-hcp];cases uu with|nil=>refine .inl ?_;have hq:=vW (c:Int) (z.length:Int);rw[show decide ((c:Int)=(z.length:Int))=decide (c=z.length)from decide_eq_decide.mpr ↑a]at hq;rw[Fs.contP_nil,jt];exact kf (j8 rfl rfl) (j9 (v2 rfl (vK ↑q (YD hz')) hq))|cons t uu=>
  have he:xl (xk (km (mV 1))) [some ↑j,some (true,.lst (fm (t::uu))),some ↑r,some (false,.int ↑aw)]=.ok false:=j8 rfl (by unfold xk;rw[IR rfl (aF uu t)];rfl);rw[zb (zS he)];have hT:∀x y:Bool,decide (t=38)=!x->decide (z.cps.toList[c]?=some 38)=!y->xl (w9 (zX (m2 wS (m2 zk (mV 1) (iV ↑c)) (mC (.str "&")))) (zX (m2 wS ↑g (mC (.str "&"))))) [some ↑j,some (true,.lst (fm (t::uu))),some ↑r,some (false,.int ↑aw)]=.ok (x||y):=λx y hx hy=>by
   have n1:=GR (c:=t) Kr;have n2:=MD (z:=z) (e:=c) Kr;rw[hx,Bool.not_not]at n1;rw[hy,Bool.not_not]at n2;refine j8 rfl ?_;cases x;·exact pP (vT (v2 (v2 rfl rfl (aE uu t)) rfl n1)) (vT (v2 (Kt hz' rfl rfl) rfl n2))
   ·exact IS (vT (v2 (v2 rfl rfl (aE uu t)) rfl n1))
  have htop:t=38\/t=41:=huu t List.mem_cons_self;by_cases ht:t=38
  ·subst ht;by_cases h38:z.cps.toList[c]?=some 38
   ·have hclt:c<z.length:=by have:=(List.getElem?_eq_some_iff.mp h38).1;rwa[jt]at this
    refine .inr ⟨c,uu,some (false,.int ↑aw),?_,rfl,by omega,hclt,by rw[List.length_cons]at hul;omega,λt ht=>?_,by rw[Fs.contP_amp h38]⟩;·rw[zb (zS (hT false false rfl (decide_eq_true h38))),<-GP uu 38 41,<-Mz];exact(zb (Kp (ts:=fm (38::uu)) (r:=(false,.str ")")) (k:=-1) (UF rfl) rfl rfl (by rw[gU];exact rB _))).trans rfl
    ·rcases List.mem_cons.mp ht with rfl|ht;·exact .inr rfl
     ·exact huu t (List.mem_cons_of_mem _ ht)
   ·refine .inl ?_;rw[Fs.contP_no (.inr ⟨rfl,h38⟩)];exact kf (hT false true rfl (decide_eq_false h38)) (j9 rfl)
  ·have ht41:t=41:=htop.resolve_left ht;subst ht41;have h41:¬z.cps.toList[c]?=some 41:=by intro h;have hcl:decide (z.cps.toList[c]?=some 41)=false:=hcl;rw[decide_eq_true h]at hcl;cases hcl
   refine .inl ?_;rw[Fs.contP_no (.inl ⟨rfl,h41⟩)];cases hy:decide (z.cps.toList[c]?=some 38);·exact kf (hT true true rfl hy) (j9 rfl)
   ·exact kf (hT true false rfl hy) (j9 rfl)
def Wb(z:Str)(hz:z.length<sizeLine)(hz2:z.length<99999):∀(n a fuel:Nat)(st:List Nat)(v:Option RV),zQ v=v->(∀t∈st,t=38\/t=41)->z.length-a<=n->a<=z.length->st.length<=a->n<fuel->je (km (mC (.bl true))) ny fuel [some ↑j,some (true,.lst (fm st)),some (false,.int a),v]=.rt (false,.bl (Fs.ans z.cps.toList st a)):=by intro n;induction n with
 |zero=>
  intro a fuel st v hv hst hn ha hl hf;obtain⟨f,rfl⟩:∃f,fuel=f+1:=⟨fuel-1,by omega⟩;rcases bc z hz hz2 a st v hv hst ha hl with e|⟨c,rest,v',e,hv',hac,hc,hr,hrs,hans⟩;·exact Ko rfl e
  ·omega|succ n ih=>
  intro a fuel st v hv hst hn ha hl hf;obtain⟨f,rfl⟩:∃f,fuel=f+1:=⟨fuel-1,by omega⟩;rcases bc z hz hz2 a st v hv hst ha hl with e|⟨c,rest,v',e,hv',hac,hc,hr,hrs,hans⟩;·exact Ko rfl e
  ·rw[<-hans,<-ih (c+1) f (41::rest) v' hv' hrs ↑a hc (by rw[List.length_cons];omega) ↑a];exact rp rfl e
def d9(z:Str)(hz:z.length<sizeLine)(hz2:z.length<99999):m_is_kind [↑j]=.ok (false,.bl (Fs.isKind z.cps.toList)):=by have h:=Wb z hz hz2 z.length 0 100000 [] none rfl (λt ht=>by cases ht) ↑a ↑aV ↑e ↑a;rw[<-Fs.isKind_ans]at h;exact zZ rfl ((zb (zw (vL (rs:=[]) rfl rfl rfl))).trans ((zb (zw rfl)).trans h))
def GS(ns:List Int)(k:Nat):jr [↑au,(false,.int k)]=.ok (false,.int (ns.getD k 0)):=by
 by_cases h:k<ns.length
 ·have hi:(k:Int)<(ns.length:Int):=by omega
  simp[jr,zR,qB,qI,zc,jN,xl,zJ,zQ,zX,m2,mV,zl,z3,z5,jA,gm,hi,zt,jR,zk,ba,h,Yg]
 ·have hi:¬((k:Int)<(ns.length:Int)):=by omega
  simp[jr,zR,qB,qI,zc,jN,xl,zJ,zQ,zX,m2,mV,zl,z3,z5,jA,gm,hi,zt,jR,zq,mC,h,Yg]
def WI(x:Int)(k:Nat):Int:=(x*(x/1009+69621)+k+1)%2147483647
def mE:Nat->Nat->Int->List Int|0,_,_=>[]|n+1,k,x=>WI x k::mE n (k+1) (WI x k)
def Jt(x:Int)(k:Nat):0<=WI x k/\WI x k<2147483647:=by unfold WI;omega
def rC:∀(n k:Nat)(x:Int),(mE n k x).length=n|0,_,_=>rfl|n+1,k,x=>by rw[mE,List.length_cons,rC n]
def YG:∀(n k:Nat)(x:Int),∀y∈mE n k x,0<=y/\y<2147483647
 |0,_,_,y,h=>by cases h|n+1,k,x,y,h=>by
  rw[mE]at h;rcases List.mem_cons.mp h with rfl|h;·exact Jt x k
  ·exact YG n _ _ y h
def big:1000<sizeLine:=by decide
def rD(c:Int)(sz:Int):∀(n k:Nat)(x:Int)(pre:List Int)(v:Option RV),zQ v=v->0<=x->x<2147483647->pre.length+n<1000->∃e3 e4,xP (gN 4) ↑Q ((List.range' k n).map λ(i:Nat)=>T.int (i:Int)) [some ↑r,some (false,.int sz),some (true,.lst (pre.map T.int)),some ↑an,v]=.nx [some ↑r,some (false,.int sz),some (true,.lst ((pre++mE n k x).map T.int)),e3,e4]:=by intro n;induction n with|zero=>intro k x pre v hv h0 h1 hl;exact⟨_,_,by simp[xP,mE];exact⟨rfl,rfl⟩⟩|succ n ih=>
  intro k x pre v hv h0 h1 hl;obtain⟨e3,e4,e⟩:=ih (k+1) (WI x k) (pre++[WI x k]) (some (false,.int k)) rfl (Jt x k).1 (Jt x k).2 ↑aO;refine⟨e3,e4,?_⟩;have ha:pre++[WI x k]++mE n (k+1) (WI x k)=pre++WI x k::mE n (k+1) (WI x k):=by simp
  rw[ha]at e;rw[mE];have hm:dP x (x/1009+69621):=.inl ⟨by omega,by omega⟩;have hd:gg x 1009:=⟨by omega,by omega⟩;have hs:pre.length<sizeLine:=by have:=big;omega
  have hb:(0:Int)<2147483647:=by omega
  rw[<-e];rw[List.range'_succ,List.map_cons,xP];simp[gN,zc,zn,jR,zJ,zQ,hv,m2,zY,zg,kP,j7,mV,mC,hm,hd,kQ,hs,WI]
def Ju(n:Nat):gn 0 n=(List.range' 0 n).map λ(i:Nat)=>T.int (i:Int):=by unfold gn;rw[List.range_eq_range'];simp
def de(c:Int)(n:Nat):List Int:=mE n 0 ((c*48271+7919)%2147483647)
def GT{m:MA}{env:En}{n:Nat}(h:ou m env=.ok [.int n])(hj:(n:Int)<2^62):fy m env=.ok (gn 0 n,env):=by unfold fy;rw[h];show(if-(2^62)<=(n:Int)/\(n:Int)<2^62 then _ else _)=_;rw[if_pos ⟨by omega,hj⟩,Int.toNat_natCast]
def lX{m:MA}{tg:MG}{mb:MS}{env:En}{n:Nat}(h:ou m env=.ok [.int n])(hj:(n:Int)<2^62):xF (fy m) tg mb env=xP tg mb ((List.range' 0 n).map λ(i:Nat)=>T.int (i:Int)) env:=by unfold xF;rw[GT h hj,<-Ju]
def Wc(c x:Int)(n:Nat)(hn:n<900)(h0:0<=x)(h1:x<2147483647):∃e3 e4,xF (fy ↑V) (gN 4) ↑Q [some ↑r,some ↑aF,some (true,.lst []),some ↑an,none]=.nx [some ↑r,some ↑aF,some (true,.lst ((mE n 0 x).map T.int)),e3,e4]:=by obtain⟨e3,e4,e⟩:=rD c n n 0 x [] none rfl h0 h1 ↑aO;refine⟨e3,e4,?_⟩;rw[lX (n:=n) (by simp[ou,zJ,zQ,z3,z5,mV]) ↑a];simp only[List.map_nil,List.nil_append]at e;exact e
def bd(c:Int)(n:Nat)(hn:n<900):jc [↑r,↑aF]=.ok (true,.lst ((de c n).map T.int)):=by
 have hm:dP c 48271:=.inr ⟨by omega,by omega⟩;unfold de;have h0:0<=(c*48271+7919)%2147483647:=by omega
 have h1:(c*48271+7919)%2147483647<2147483647:=by omega
 have s2:zn 3 (m2 zY (m2 zg (m2 kP ↑m (mC (.int 48271))) (mC (.int 7919))) (mC (.int 2147483647))) [some ↑r,some ↑aF,some (true,.lst []),none,none]=.nx [some ↑r,some ↑aF,some (true,.lst []),some (false,.int ((c*48271+7919)%2147483647)),none]:=by simp[zn,jR,zJ,zQ,m2,zY,zg,kP,mV,mC,hm]
 generalize(c*48271+7919)%2147483647=x at*;obtain⟨e3,e4,e⟩:=Wc c x n hn h0 h1;have hb:g7 [some ↑r,some ↑aF,none,none,none]=.rt (true,.lst ((mE n 0 x).map T.int)):=by unfold g7;rw[zb (e':=[some ↑r,some ↑aF,some (true,.lst []),none,none]) (by simp[zn,jR,zJ,zQ,jo,z5])];rw[zb s2,zb e];unfold xx;dsimp only[List.getElem?_cons_succ,List.getElem?_cons_zero]
 exact zZ rfl hb
def YH:∀(n:Nat)(a:Array Nat),((List.replicate n #[113]).foldl (·++·) a).toList=a.toList++List.replicate n 113|0,a=>by simp|n+1,a=>by rw[List.replicate_succ,List.foldl_cons,YH n,List.replicate_succ];simp
def rE(n:Nat):(Txt.mul "q" (n:Int)).cps.toList=List.replicate n 113:=by
 have hq:("q":Str)=⟨#[113]⟩:=by decide+kernel
 rw[hq];unfold Txt.mul;by_cases h0:(n:Int)<1
 ·have:n=0:=by omega
  subst this;rw[if_pos h0];decide+kernel
 ·rw[if_neg h0];by_cases h1:n=1;·subst h1;rw[if_pos ↑v];rfl
  ·have hb:¬(((n:Int)==1||(⟨#[113]⟩:Str).length==0)=true):=by
    have:¬((n:Int)=1):=by omega
    simp[this,Str.length]
   rw[if_neg hb];show((List.replicate (n:Int).toNat #[113]).foldl (·++·) #[]).toList=_;rw[YH,Int.toNat_natCast];simp
def jJ(x y:Str):(x++y).cps.toList=x.cps.toList++y.cps.toList:=by show(x.cps++y.cps).toList=_;simp
def aG{x y:Str}(h:x.cps.toList=y.cps.toList):x=y:=by obtain⟨a⟩:=x;obtain⟨b⟩:=y;congr 1;exact Array.toList_inj.mp h
def YI{x:Str}{n:Nat}(h:x.length*n<=16777216)(h2:n<=16777216):kP (.str x) (.int (n:Int))=some (false,.str (Txt.mul x (n:Int))):=by show(if-(2^63)<=(n:Int)/\(n:Int)<=16777216/\x.length*(n:Int).toNat<=16777216 then _ else _)=_;rw[if_pos ⟨by omega,by omega,by rw[Int.toNat_natCast];exact h⟩]
def add_str(h:x.length+y.length<=1000):zg (.str x) (.str y)=some (false,.str (x++y)):=by show(if x.length+y.length<=sizeLine then _ else _)=_;rw[if_pos (by have:=big;omega)]
def xr(x:Nat):Nat:=1+x%12
def uf(x:Nat):Nat:=x/12%xr x
def vX(x:Nat):Nat:=[1,3,25,7].getD (x/200%4) 1
def qL(x k:Nat):Nat:=97+(x/800+k*vX x)%26
def fh(x k:Nat):Nat:=(xr x-uf x-1)/(1+(x/3200+k)%3)
def pQ(x k:Nat):List Nat:=List.replicate (uf x) 113++qL x k::List.replicate (fh x k) 113
def nm(x k:Nat):Str:=⟨(pQ x k).toArray⟩
def Jv(x:Nat):uf x<xr x:=Nat.mod_lt _ (by unfold xr;omega)
def rF(x k:Nat):fh x k<=xr x-uf x-1:=Nat.div_le_self _ _
def We(i:Nat)(h:i<26):zk (.str "abcdefghijklmnopqrstuvwxyz") (.int (i:Int))=some (false,.str ⟨#[97+i]⟩):=by
 have hl:("abcdefghijklmnopqrstuvwxyz":Str).length<=sizeLine:=by decide+kernel
 unfold zk;simp only[hl,if_true,ba,d8];have:Fs.letters[i]?=some (97+i):=by revert i;decide
 rw[this];rfl
def a1(x k st:Nat):((x:Int)/800+(k:Int)*(st:Int))%26=(((x/800+k*st)%26:Nat):Int):=by simp
def a3(x k:Nat):1+((x:Int)/3200+(k:Int))%3=((1+(x/3200+k)%3:Nat):Int):=by simp
def a4(a b:Nat):(a:Int)/(b:Int)=((a/b:Nat):Int):=by simp
def d1(x:Nat):gg (x:Int) 800:=⟨by omega,by omega⟩
def d3(y:Int)(x k:Nat):gg y (1+((x:Int)/3200+(k:Int))%3):=⟨by omega,by omega⟩
def EY(x k c st z a:Int)(pre:List T)(v8 v9:Option RV)(sg:Str)(hv8:zQ v8=v8)(hv9:zQ v9=v9)(hd1:gg x 800)(hm:dP k st)(y:Str)(hla:zk (.str y) (.int ((x/800+k*st)%26))=some (false,.str sg)):(zn 8 (m2 zk (mV 2) (m2 zY (m2 zg (m2 j7 ↑m (mC (.int 800))) (m2 kP (mV 7) (mV 5))) (mC (.int 26))))) [some ↑an,some ↑r,some ↑I,some (false,.int z),some (false,.int a),some (false,.int st),some (true,.lst pre),some (false,.int k),v8,v9]=.nx [some ↑an,some ↑r,some ↑I,some (false,.int z),some (false,.int a),some (false,.int st),some (true,.lst pre),some (false,.int k),some (false,.str sg),v9]:=by simp[zn,jR,zJ,zQ,hv8,hv9,m2,mV,mC,j7,zY,kP,zg,hd1,hm,hla]
def EZ(x k c st z a:Int)(pre:List T)(v8 v9:Option RV)(sg:Str)(hv8:zQ v8=v8)(hv9:zQ v9=v9)(hd1:gg x 3200)(y:Str)(hd3:gg (z-a-1) (1+(x/3200+k)%3)):↑am [some ↑an,some ↑r,some ↑I,some (false,.int z),some (false,.int a),some (false,.int st),some (true,.lst pre),some (false,.int k),v8,v9]=.nx [some ↑an,some ↑r,some ↑I,some (false,.int z),some (false,.int a),some (false,.int st),some (true,.lst pre),some (false,.int k),v8,some (false,.int ((z-a-1)/(1+(x/3200+k)%3)))]:=by simp[zn,jR,zJ,zQ,hv8,hv9,m2,mV,mC,j7,zY,iP,zg,hd1,hd3]
def D0(x k c st z a t:Int)(pre:List T)(sg y u1 u2 u3 q:Str)(h1:kP (.str q) (.int a)=some (false,.str u1))(h2:zg (.str u1) (.str sg)=some (false,.str u2))(h3:kP (.str q) (.int t)=some (false,.str u3))(r:Str)(h4:zg (.str u2) (.str u3)=some (false,.str r))(hs:pre.length<sizeLine):(kQ 6 (m2 zg (m2 zg (m2 kP (mC (.str q)) (mV 4)) (mV 8)) (m2 kP (mC (.str q)) (mV 9)))) [some ↑an,some ↑r,some ↑I,some (false,.int z),some (false,.int a),some (false,.int st),some (true,.lst pre),some (false,.int k),some (false,.str sg),some (false,.int t)]=.nx [some ↑an,some ↑r,some ↑I,some (false,.int z),some (false,.int a),some (false,.int st),some (true,.lst (pre++[.str r])),some (false,.int k),some (false,.str sg),some (false,.int t)]:=by simp[kQ,jR,zJ,zQ,m2,mV,mC,h1,h2,h3,h4,hs]
def mF:MS:=↑aG
def Jw(x k:Nat)(c:Int)(pre:List T)(v7 v8 v9:Option RV)(hv7:zQ v7=v7)(hv8:zQ v8=v8)(hv9:zQ v9=v9)(hk:k<1000)(hp:pre.length<1000):mF [some ↑an,some ↑r,some ↑aT,some (false,.int (xr x)),some (false,.int (uf x)),some (false,.int (vX x)),some (true,.lst pre),some (false,.int k),v8,v9]=.nx [some ↑an,some ↑r,some ↑aT,some (false,.int (xr x)),some (false,.int (uf x)),some (false,.int (vX x)),some (true,.lst (pre++[.str (nm x k)])),some (false,.int k),some (false,.str ⟨#[qL x k]⟩),some (false,.int (fh x k))]:=by
 have h2:((xr x:Int)-(uf x:Int)-1)=((xr x-uf x-1:Nat):Int):=by have:=Jv x;omega
 have h4:((xr x:Int)-(uf x:Int)-1)/(1+((x:Int)/3200+(k:Int))%3)=(fh x k:Int):=by rw[h2,a3,a4];rfl
 have hm:dP (k:Int) (vX x:Int):=.inl ⟨by omega,by omega⟩;have hs:pre.length<sizeLine:=by have:=big;omega
 have hz:xr x<=12:=by unfold xr;omega
 have ha:=Jv x;have ht:=rF x k;have hq:("q":Str).length=1:=by decide+kernel
 have hq1:kP (.str "q") (.int (uf x))=some (false,.str (Txt.mul "q" (uf x:Int))):=YI (by rw[hq];omega) ↑a;have hq2:kP (.str "q") (.int (fh x k))=some (false,.str (Txt.mul "q" (fh x k:Int))):=YI (by rw[hq];omega) ↑a;have hl1:(Txt.mul "q" (uf x:Int)).length=uf x:=by rw[<-jt,rE,List.length_replicate]
 have hl2:(Txt.mul "q" (fh x k:Int)).length=fh x k:=by rw[<-jt,rE,List.length_replicate]
 have hl3:(⟨#[qL x k]⟩:Str).length=1:=rfl;have hl4:(Txt.mul "q" (uf x:Int)++⟨#[qL x k]⟩).length=uf x+1:=by rw[<-jt,jJ,rE,List.length_append,List.length_replicate];rfl
 have hc1:zg (.str (Txt.mul "q" (uf x:Int))) (.str ⟨#[qL x k]⟩)=some (false,.str (Txt.mul "q" (uf x:Int)++⟨#[qL x k]⟩)):=add_str (by rw[hl1,hl3];omega);have hnm:Txt.mul "q" (uf x:Int)++⟨#[qL x k]⟩++Txt.mul "q" (fh x k:Int)=nm x k:=by apply aG;rw[jJ,jJ,rE,rE];simp[nm,pQ]
 have hc2:zg (.str (Txt.mul "q" (uf x:Int)++⟨#[qL x k]⟩)) (.str (Txt.mul "q" (fh x k:Int)))=some (false,.str (nm x k)):=by rw[add_str (by rw[hl4,hl2];omega),hnm]
 have hla:=We ((x/800+k*vX x)%26) (Nat.mod_lt _ ↑a);rw[<-a1]at hla;have t1:=EY x k c (vX x) (xr x) (uf x) pre v8 v9 _ hv8 hv9 (d1 x) hm _ hla;have t2:=EZ x k c (vX x) (xr x) (uf x) pre (some (false,.str ⟨#[97+(x/800+k*vX x)%26]⟩)) v9 ⟨#[qL x k]⟩ rfl hv9 ⟨by omega,by omega⟩ "abcdefghijklmnopqrstuvwxyz" (d3 _ x k);rw[h4]at t2;have t3:=D0 x k c (vX x) (xr x) (uf x) (fh x k) pre ⟨#[qL x k]⟩ "abcdefghijklmnopqrstuvwxyz" _ _ _ "q" hq1 hc1 hq2 (nm x k) hc2 hs;unfold mF;rw[zb t1,zb t2];exact t3
def jy(h1:tg t env=some e1)(h2:mb e1=.nx e2):xP tg mb (t::ts) env=xP tg mb ts e2:=by rw[xP,h1];dsimp only;rw[h2]
def YJ(h:env.set i (some ↑P)=e1):gN i t env=some e1:=by unfold gN;rw[h]
def gc(x:Nat)(k n:Nat):List T:=(List.range' k n).map λ(i:Nat)=>T.str (nm x i)
def Jx(x:Nat)(c:Int):∀(n k:Nat)(pre:List T)(v7 v8 v9:Option RV),zQ v7=v7->zQ v8=v8->zQ v9=v9->k+n<1000->pre.length+n<1000->∃e7 e8 e9,xP (gN 7) mF ((List.range' k n).map λ(i:Nat)=>T.int (i:Int)) [some ↑an,some ↑r,some ↑aT,some (false,.int (xr x)),some (false,.int (uf x)),some (false,.int (vX x)),some (true,.lst pre),v7,v8,v9]=.nx [some ↑an,some ↑r,some ↑aT,some (false,.int (xr x)),some (false,.int (uf x)),some (false,.int (vX x)),some (true,.lst (pre++gc x k n)),e7,e8,e9]:=by intro n;induction n with|zero=>intro k pre v7 v8 v9 _ _ _ _ _;refine⟨v7,v8,v9,?_⟩;simp[xP,gc]|succ n ih=>
  intro k pre v7 v8 v9 h7 h8 h9 hk hp;obtain⟨e7,e8,e9,e⟩:=ih (k+1) (pre++[.str (nm x k)]) (some (false,.int k)) (some (false,.str ⟨#[qL x k]⟩)) (some (false,.int (fh x k))) rfl rfl rfl ↑a ↑aO;refine⟨e7,e8,e9,?_⟩;have ha:pre++gc x k (n+1)=pre++[.str (nm x k)]++gc x (k+1) n:=by unfold gc;rw[List.range'_succ];simp
  rw[ha,<-e,List.range'_succ,List.map_cons];have t:=Jw x k c pre none v8 v9 rfl h8 h9 ↑a ↑a;exact jy (YJ rfl) t
def GU(i:Nat)(h:i<4):zk (.lst [.int 1,.int 3,.int 25,.int 7]) (.int (i:Int))=some (false,.int (([1,3,25,7].getD i 1:Nat):Int)):=by show Option.map (λt=>↑P) (dM _ (i:Int))=_;rw[ba];match i,h with|0,_=>rfl|1,_=>rfl|2,_=>rfl|3,_=>rfl
def D1(x c:Int)(y:Str):zn 3 (m2 zg ↑c (m2 zY ↑m (mC (.int 12)))) [some ↑an,some ↑r,some ↑I,none,none,none,none,none,none,none]=.nx [some ↑an,some ↑r,some ↑I,some (false,.int (1+x%12)),none,none,none,none,none,none]:=by simp[zn,jR,zJ,zQ,m2,mV,mC,zY,zg]
def D2(x c z:Int)(y:Str)(hz:0<z):zn 4 (m2 zY (m2 j7 ↑m (mC (.int 12))) (mV 3)) [some ↑an,some ↑r,some ↑I,some (false,.int z),none,none,none,none,none,none]=.nx [some ↑an,some ↑r,some ↑I,some (false,.int z),some (false,.int (x/12%z)),none,none,none,none,none]:=by have hd:gg x 12:=⟨by omega,by omega⟩;simp[zn,jR,zJ,zQ,m2,mV,mC,zY,j7,hd,hz]
def D3(x c z a st:Int)(y:Str)(h:zk (.lst [.int 1,.int 3,.int 25,.int 7]) (.int (x/200%4))=some (false,.int st)):zn 5 (m2 zk (jo (z3 ↑c (z3 ↑k (z3 (mC (.int 25)) (z3 (mC (.int 7)) z5))))) (m2 zY (m2 j7 ↑m (mC (.int 200))) ↑D)) [some ↑an,some ↑r,some ↑I,some (false,.int z),some (false,.int a),none,none,none,none,none]=.nx [some ↑an,some ↑r,some ↑I,some (false,.int z),some (false,.int a),some (false,.int st),none,none,none,none]:=by
 have hd:gg x 200:=⟨by omega,by omega⟩;have hs:4<=sizeLine:=by decide
 simp[zn,jR,zJ,zQ,m2,mV,mC,zY,j7,hd,jo,z3,z5,hs,h]
def D4(x c z a st:Int)(y:Str):zn 6 (jo z5) [some ↑an,some ↑r,some ↑I,some (false,.int z),some (false,.int a),some (false,.int st),none,none,none,none]=.nx [some ↑an,some ↑r,some ↑I,some (false,.int z),some (false,.int a),some (false,.int st),some (true,.lst []),none,none,none]:=by simp[zn,jR,zJ,zQ,jo,z5]
def dg(x n:Nat)(hn:n<900):jH [↑an,↑aF]=.ok (true,.lst (gc x 0 n)):=by
 obtain⟨e7,e8,e9,e⟩:=Jx x n n 0 [] none none none rfl rfl rfl ↑a ↑aO;have t1:=D1 x n "abcdefghijklmnopqrstuvwxyz";have hz:(1+(x:Int)%12)=(xr x:Int):=by unfold xr;simp
 rw[hz]at t1;have t2:=D2 x n (xr x) "abcdefghijklmnopqrstuvwxyz" (by unfold xr;omega);have ha:(x:Int)/12%(xr x:Int)=(uf x:Int):=by unfold uf;simp
 rw[ha]at t2;have hi:=GU (x/200%4) (Nat.mod_lt _ ↑a);have hi2:((x/200%4:Nat):Int)=(x:Int)/200%4:=by simp
 rw[hi2]at hi;have t3:=D3 x n (xr x) (uf x) (vX x) "abcdefghijklmnopqrstuvwxyz" hi;have t4:=D4 x n (xr x) (uf x) (vX x) "abcdefghijklmnopqrstuvwxyz";have hb:gP [some ↑an,some ↑aF,none,none,none,none,none,none,none,none]=.rt (true,.lst (gc x 0 n)):=by unfold gP;rw[zb (e':=[some ↑an,some ↑aF,some ↑aT,none,none,none,none,none,none,none]) (by simp[zn,jR,zJ,zQ,mC])];rw[zb t1,zb t2,zb t3,zb t4];rw[zb (e':=[some ↑an,some ↑aF,some ↑aT,some (false,.int (xr x)),some (false,.int (uf x)),some (false,.int (vX x)),some (true,.lst (gc x 0 n)),e7,e8,e9]) (by rw[lX (n:=n) (by simp[ou,zJ,zQ,z3,z5,mV]) ↑a];exact e)];unfold xx;dsimp only[List.getElem?_cons_succ,List.getElem?_cons_zero]
 exact zZ rfl hb
end Law
namespace Fs
def takeWhile_pre:∀{l r:List Nat},(∀c∈l,p c=true)->(∀c,r.head?=some c->p c=false)->(l++r).takeWhile p=l
 |[],r,_,hr=>by cases r with|nil=>rfl|cons c r=>rw[List.nil_append,List.takeWhile_cons,hr c rfl];rfl
 |c::l,r,hl,hr=>by rw[List.cons_append,List.takeWhile_cons,hl c List.mem_cons_self,if_pos rfl,takeWhile_pre (λd hd=>hl d (List.mem_cons_of_mem _ hd)) hr]
def bg(hl:∀c∈l,c∈ss)(hp:∀c,post.head?=some c->¬c∈ss):runEnd (pre++l++post) pre.length ss=pre.length+l.length:=by unfold runEnd uh;rw[List.append_assoc,List.drop_left,takeWhile_pre (λc hc=>by simpa using hl c hc) (λc hc=>by simpa using hp c hc)]
def gV(hl:∀c∈l,c∈letters)(hn:l.length<=12)(hp:∀c,post.head?=some c->¬c∈letters):nameEnd (pre++l++post) pre.length=pre.length+l.length:=by unfold nameEnd;rw[bg hl hp,if_pos ↑a]
def get_at:(pre++c::l)[pre.length]?=some c:=by simp
def aH(h:cs.length<=e):iG cs e=some e:=nW (by rw[List.getElem?_eq_none h];simp)
def Jy(hl:∀c∈l,c∈letters)(h0:0<l.length)(hn:l.length<=12)(hp:∀c,post.head?=some c->¬c∈letters/\c≠46):K (pre++l++post) pre.length=some (pre.length+l.length):=by
 have hne:=gV (pre:=pre) (post:=post) hl hn (λc hc=>(hp c hc).1);obtain⟨c,l',rfl⟩:∃c l',l=c::l':=by cases l with|nil=>simp at h0|cons c l'=>exact⟨c,l',rfl⟩
 have hc:(pre++c::l'++post)[pre.length]?=some c:=by rw[List.append_assoc,List.cons_append];exact get_at
 have hcl:=hl c List.mem_cons_self;have h40:c≠40:=by rintro rfl;revert hcl;decide
 have h35:c≠35:=by rintro rfl;revert hcl;decide
 rw[XB];unfold base;rw[hc,if_neg (by simpa using h40),if_neg (by simpa using h35)];unfold Y4;rw[hne,if_neg (by rw[List.length_cons];omega)];show iG _ _=_;apply nW;have:pre.length+(c::l').length=(pre++c::l').length:=by simp
 rw[this];cases post with|nil=>simp|cons d r=>rw[get_at];intro z;exact(hp d rfl).2 (by injection z)
def isKind_name(hl:∀c∈l,c∈letters)(h0:0<l.length)(hn:l.length<=12):isKind l=true:=by unfold isKind;have:=Jy (pre:=[]) (post:=[]) hl h0 hn (λc hc=>by cases hc);simp at this;simp[this]
def isKind_hash(hl:∀c∈l,c∈letters)(h0:0<l.length)(hn:l.length<=12):isKind ([35,51,46]++l)=true:=by unfold isKind;have hne:=gV (pre:=[35,51,46]) (post:=[]) hl hn (λc hc=>by cases hc);rw[List.append_nil]at hne;have hr:runEnd ([35,51,46]++l) 1 figures=2:=bg (pre:=[35]) (l:=[51]) (post:=46::l) ↑v (by intro c hc;cases hc;decide);rw[decide_eq_true_eq,XB];unfold base G1;have g0:([35,51,46]++l)[0]?=some 35:=rfl;have hr':runEnd ([35,51,46]++l) (0+1) figures=2:=hr;rw[g0,if_neg ↑v,if_pos rfl,hr',if_neg ↑v];show iG _ 2=_;have h46:([35,51,46]++l)[2]?=some 46:=rfl;have hne':nameEnd ([35,51,46]++l) 3=3+l.length:=hne;rw[bS h46 (by rw[hne'];omega),hne',aH ↑aO];simp;omega
def isKind_dot(hl:∀c∈l,c∈letters)(h0:0<l.length)(hn:l.length<=12):isKind (l++[46]++l)=true:=by
 unfold isKind;have hn1:=gV (pre:=[]) (post:=46::l) hl hn (λc hc=>by cases hc;decide);have hn2:=gV (pre:=l++[46]) (post:=[]) hl hn (λc hc=>by cases hc);rw[List.append_nil]at hn2;simp only[List.nil_append,List.length_nil,Nat.zero_add]at hn1;have e:l++46::l=l++[46]++l:=by simp
 rw[e]at hn1;have hl2:(l++[46]).length=l.length+1:=by simp
 rw[hl2]at hn2;obtain⟨c,l',hcl⟩:∃c l',l=c::l':=by cases l with|nil=>simp at h0|cons c l'=>exact⟨c,l',rfl⟩
 have hc0:(l++[46]++l)[0]?=some c:=by rw[hcl];rfl
 have hcm:=hl c (by rw[hcl];exact List.mem_cons_self);have h40:c≠40:=by rintro rfl;revert hcm;decide
 have h35:c≠35:=by rintro rfl;revert hcm;decide
 rw[decide_eq_true_eq,XB];unfold base Y4;rw[hc0,if_neg (by simpa using h40),if_neg (by simpa using h35),hn1,if_neg ↑a];show iG _ l.length=_;have h46:(l++[46]++l)[l.length]?=some 46:=by rw[<-e];exact get_at
 rw[bS h46 (by rw[hn2];omega),hn2,aH ↑aO];simp;omega
def isKind_and(hl:∀c∈l,c∈letters)(h0:0<l.length)(hn:l.length<=12):isKind ([40]++l++[38,110,117,109,41])=true:=by
 unfold isKind;have k1:=Jy (pre:=[40]) (post:=[38,110,117,109,41]) hl h0 hn (λc hc=>by cases hc;decide);have k2:=Jy (pre:=[40]++l++[38]) (l:=[110,117,109]) (post:=[41]) ↑v ↑v ↑v (λc hc=>by cases hc;decide);have e:[40]++l++[38]++[110,117,109]++[41]=[40]++l++[38,110,117,109,41]:=by simp
 rw[e]at k2;have hl1:([40]++l++[38]).length=l.length+2:=by simp
 rw[hl1]at k2;have k1':K ([40]++l++[38,110,117,109,41]) 1=some (1+l.length):=k1;have hlen:([40]++l++[38,110,117,109,41]).length=l.length+6:=by simp
 have g1:([40]++l++[38,110,117,109,41])[1+l.length]?=some 38:=by
  have:1+l.length=([40]++l).length:=by simp;omega
  rw[this];exact get_at
 have g2:([40]++l++[38,110,117,109,41])[l.length+5]?=some 41:=by
  have e2:[40]++l++[38,110,117,109,41]=([40]++l++[38,110,117,109])++41::[]:=by simp
  have:l.length+5=([40]++l++[38,110,117,109]).length:=by simp
  rw[this,e2];exact get_at
 rw[decide_eq_true_eq,XB];unfold base;rw[if_pos ↑B];show bT _ (match K _ 1 with|none=>none|some j=>_)=_;rw[k1'];dsimp only;rw[if_pos g1];have e3:1+l.length+1=l.length+2:=by omega
 rw[e3,k2];dsimp only;have e4:l.length+2+[110,117,109].length=l.length+5:=rfl;rw[e4,if_pos g2];show iG _ (l.length+5+1)=_;rw[aH (by rw[hlen];omega),hlen]
end Fs
namespace Law
open PySem L2 L3
def wo(x k:Nat):(nm x k).cps.toList=pQ x k:=by simp[nm]
def Kv(x:Nat):xr x<=12:=by unfold xr;omega
def vf(x k:Nat):0<(pQ x k).length/\(pQ x k).length<=12:=by have h1:=Jv x;have h2:=rF x k;have h3:=Kv x;unfold pQ;simp;omega
def qU(x k:Nat):∀c∈pQ x k,c∈Fs.letters:=by
 intro c hc;unfold pQ at hc;rw[List.mem_append,List.mem_cons]at hc;have hq:113∈Fs.letters:=by decide
 have hs:∀i,i<26->97+i∈Fs.letters:=by decide
 rcases hc with hc|rfl|hc;·rw[(List.mem_replicate.mp hc).2];exact hq
 ·exact hs _ (Nat.mod_lt _ ↑a)
 ·rw[(List.mem_replicate.mp hc).2];exact hq
def bh(x k:Nat):Fs.isName (pQ x k)=true:=by rw[Fs.isName_due];have h:=vf x k;have h2:=qU x k;simp only[Bool.and_eq_true,decide_eq_true_eq,List.all_eq_true];exact⟨⟨h.1,by omega⟩,λc hc=>h2 c hc⟩
def Jz(hj:j<26)(hk:k<26)(h:pQ x j=pQ x k):j=k:=by
 have g:∀i,(pQ x i)[uf x]?=some (qL x i):=by
  intro i;unfold pQ;have:uf x=(List.replicate (uf x) 113).length:=by simp
  conv=>lhs;arg 2;rw[this]
  exact Fs.get_at
 have h2:=g j;rw[h,g k]at h2;have h3:qL x k=qL x j:=by injection h2
 unfold qL at h3;have hst:vX x=1\/vX x=3\/vX x=25\/vX x=7:=by unfold vX;have:x/200%4<4:=Nat.mod_lt _ ↑a;generalize x/200%4=i at this;match i,this with|0,_=>exact .inl rfl|1,_=>exact .inr (.inl rfl)|2,_=>exact .inr (.inr (.inl rfl))|3,_=>exact .inr (.inr (.inr rfl))
 generalize x/800=a at h3;rcases hst with h|h|h|h<;>rw[h]at h3<;>omega
def WJ(ts:List T)(i:Nat):zk (.lst ts) (.int (i:Int))=ts[i]?.map λt=>↑P:=by show Option.map (λt=>↑P) (dM ts (i:Int))=_;rw[ba]
def jh(ts:List T)(i:Nat):zk (.tup ts) (.int (i:Int))=ts[i]?.map λt=>↑P:=by show Option.map (λt=>↑P) (dM ts (i:Int))=_;rw[ba]
def kg(l:List Nat)(n:Nat)(made:Bool):List Nat:=if made=true\/0<n%3 then l else match n/3%3 with|0=>[35,51,46]++l|1=>[40]++l++[38,110,117,109,41]|_=>l++[46]++l
def GV:("#3.":Str).cps.toList=[35,51,46]:=by decide+kernel
def D5:("(":Str).cps.toList=[40]:=by decide+kernel
def IV:("&num)":Str).cps.toList=[38,110,117,109,41]:=by decide+kernel
def IW:(".":Str).cps.toList=[46]:=by decide+kernel
def aI{y:Str}{l:List Nat}(h:y.cps.toList=l):y=⟨l.toArray⟩:=aG (by rw[h])
def rG(y:Str)(n:Nat)(made:Bool)(hy:y.length<=100):xg [↑I,↑aF,↑Y]=.ok (false,.str ⟨(kg y.cps.toList n made).toArray⟩):=by
 have l1:("#3.":Str).length=3:=by decide+kernel
 have l2:("(":Str).length=1:=by decide+kernel
 have l3:("&num)":Str).length=5:=by decide+kernel
 have l4:(".":Str).length=1:=by decide+kernel
 have lc:∀a b:Str,(a++b).length=a.length+b.length:=λa b=>by rw[<-jt,jJ,List.length_append,jt,jt]
 have a1:zg (.str "#3.") (.str y)=some (false,.str ("#3."++y)):=add_str ↑a;have a2:zg (.str "(") (.str y)=some (false,.str ("("++y)):=add_str ↑a;have a3:zg (.str ("("++y)) (.str "&num)")=some (false,.str ("("++y++"&num)")):=add_str (by rw[lc];omega);have a4:zg (.str y) (.str ".")=some (false,.str (y++".")):=add_str ↑a;have a5:zg (.str (y++".")) (.str y)=some (false,.str (y++"."++y)):=add_str (by rw[lc];omega);have hm:(n:Int)%3=((n%3:Nat):Int):=by simp
 have hself:y=⟨y.cps.toList.toArray⟩:=aI rfl;apply zZ rfl;show gQ [some ↑I,some ↑aF,some ↑Y]=_;unfold gQ kg;by_cases h:made=true\/0<n%3;·rw[if_pos h,<-hself];apply gb;cases made with|true=>exact kY (xh (IS rfl))|false=>
   have h':(0:Int)<(n:Int)%3:=by rcases h with h|h;(cases h);omega
   exact kY (xh (pP rfl (vT (v2 (v2 rfl rfl (qT _ ↑v)) rfl (Kq (decide_eq_true h'))))))
 ·rw[if_neg h];have hmd:made=false:=by cases made with|true=>exact absurd (.inl rfl) h|false=>rfl
  subst hmd;have h':¬((0:Int)<(n:Int)%3):=by intro q;exact h (.inr ↑a)
  rw[zb (e':=[some ↑I,some ↑aF,some ↑aA]) (zS (xh (pP rfl (vT (v2 (v2 rfl rfl (qT _ ↑v)) rfl (Kq (decide_eq_false h')))))))];have hd:gg (n:Int) 3:=⟨by omega,by omega⟩;have hi:n/3%3<3:=Nat.mod_lt _ ↑a;have hic:(n:Int)/3%3=((n/3%3:Nat):Int):=by simp
  have hs:3<=sizeLine:=by decide
  have fin:∀r:Str,zk (.lst [.str ("#3."++y),.str ("("++y++"&num)"),.str (y++"."++y)]) (.int ((n/3%3:Nat):Int))=some (false,.str r)->zt ↑aP [some ↑I,some ↑aF,some ↑aA]=.rt (false,.str r):=by intro r hr;rw[<-hic]at hr;exact j9 (v2 (vL (vC (v2 rfl rfl a1) (vC (v2 (v2 rfl rfl a2) rfl a3) (vC (v2 (v2 rfl rfl a4) rfl a5) rfl))) rfl rfl) (v2 (v2 rfl rfl (YF hd)) rfl (qT _ ↑v)) hr)
  generalize n/3%3=i at hi fin;match i,hi with|0,_=>rw[fin ("#3."++y) (by rw[WJ];rfl)];rw[aI (y:="#3."++y) (by rw[jJ,GV])];rfl|1,_=>rw[fin ("("++y++"&num)") (by rw[WJ];rfl)];rw[aI (y:="("++y++"&num)") (by rw[jJ,jJ,D5,IV])];rfl|2,_=>rw[fin (y++"."++y) (by rw[WJ];rfl)];rw[aI (y:=y++"."++y) (by rw[jJ,jJ,IW])];rfl
def iT(xs:List Nat):List T:=xs.map λ(x:Nat)=>T.int (x:Int)
def sT(ys:List Str):List T:=ys.map T.str
def rH(xs:List Nat)(i:Nat):zk (.lst (iT xs)) (.int (i:Int))=xs[i]?.map λx=>(false,T.int (x:Int)):=by rw[WJ];unfold iT;rw[List.getElem?_map];cases xs[i]?<;>rfl
def dh(ys:List Str)(i:Nat):zk (.lst (sT ys)) (.int (i:Int))=ys[i]?.map λy=>(false,T.str y):=by rw[WJ];unfold sT;rw[List.getElem?_map];cases ys[i]?<;>rfl
def lR(made:Bool)(x:Nat):Bool:=made&&decide (x%2=0)
def ll(made:Bool)(x:Nat):Bool:=decide (x/2%2=0)&&(lR made x||!made)
def rJ(made:Bool)(x:Nat)(y kd:Str):T:=.tup [.str y,.str kd,.bl (lR made x),.bl (ll made x)]
def uF:MS:=↑aS
def rK:L3.clean E (false,.bl q)=true:=by simp[L3.clean,ZY,Zr,XD,ZQ,XE,ZR]
def aJ(h:m (zJ E)=.ok r):zn i m E=.nx (E.set i (some r)):=by unfold zn jR;rw[h]
def pB(g:m (zJ E)=.bad)(h:m E=.ok r)(c:L3.clean E r=true):zn i m E=.nx (E.set i (some r)):=by unfold zn jR;rw[g,h];simp only[L3.settle,c,if_true]
section
variable{E:En}{b made du:Bool}{xs:List Nat}{k x:Nat}(h0:E[0]?=some (some (b,.lst (iT xs))))(h3:E[3]?=some (some ↑Y))(h5:E[5]?=some (some (false,.int k)))(x1:zk (.lst (iT xs)) (.int (k:Int))=some (false,.int (x:Int)))
include h0 h3 h5 x1
theorem Kw:jP (mV 3) (m2 zG (m2 zY (m2 zk ↑m (mV 5)) ↑i) ↑l) E=.ok (false,.bl (lR made x)):=by have e2:decide ((x:Int)%2=0)=decide (x%2=0):=decide_eq_decide.mpr ↑a;have:=vW ((x:Int)%2) 0;rw[e2]at this;exact Dv (vV h3) (v2 (v2 (v2 (vV h0) (vV h5) x1) rfl (qT _ ↑v)) rfl this)
theorem Kx(h6:E[6]?=some (some (false,.bl du))):jP (m2 zG (m2 zY (m2 j7 (m2 zk ↑m (mV 5)) ↑i) ↑i) ↑l) (iU (mV 6) (f8 (mV 3))) E=.ok (false,.bl (decide (x/2%2=0)&&(du||!made))):=by have e3:decide ((x:Int)/2%2=0)=decide (x/2%2=0):=decide_eq_decide.mpr ↑a;have d2:gg (x:Int) 2:=⟨by omega,by omega⟩;have:=vW ((x:Int)/2%2) 0;rw[e3]at this;exact Dv (v2 (v2 (v2 (v2 (vV h0) (vV h5) x1) rfl (YF d2)) rfl (qT _ ↑v)) rfl this) (Dw (vV h6) (Dx (vV h3)))
end
def rL(b:Bool)(xs:List Nat)(ns ks:List Str)(made:Bool)(k x:Nat)(y kd:Str)(pre:List T)(v6 v7:Option RV)(h6:zQ v6=v6)(h7:zQ v7=v7)(hx:xs[k]?=some x)(hy:ns[k]?=some y)(hk:ks[x/4%ks.length]?=some kd)(hl:0<ks.length)(hp:pre.length<1000):uF [some (b,.lst (iT xs)),some (false,.lst (sT ns)),some ↑A,some ↑Y,some (true,.lst pre),some (false,.int k),v6,v7]=.nx [some (b,.lst (iT xs)),some (false,.lst (sT ns)),some ↑A,some ↑Y,some (true,.lst (pre++[rJ made x y kd])),some (false,.int k),some (false,.bl (lR made x)),some (false,.bl (ll made x))]:=by
 have d4:gg (x:Int) 4:=⟨by omega,by omega⟩;have hs:pre.length<sizeLine:=by have:=big;omega
 have h4:4<=sizeLine:=by decide
 have x1:zk (.lst (iT xs)) (.int (k:Int))=some (false,.int (x:Int)):=by rw[rH,hx];rfl
 have y1:zk (.lst (sT ns)) (.int (k:Int))=some ↑I:=by rw[dh,hy];rfl
 have hlk:(sT ks).length=ks.length:=by simp[sT]
 have hic:(x:Int)/4%(ks.length:Int)=((x/4%ks.length:Nat):Int):=by simp
 have k1:zk (.lst (sT ks)) (.int ((x:Int)/4%(ks.length:Int)))=some ↑aN:=by rw[hic,dh,hk];rfl
 have hl':(0:Int)<(ks.length:Int):=by omega
 unfold uF;rw[zb (e':=[some (b,.lst (iT xs)),some (false,.lst (sT ns)),some ↑A,some ↑Y,some (true,.lst pre),some (false,.int k),some (false,.bl (lR made x)),v7]) (by cases b with|false=>exact aJ (Kw rfl rfl rfl x1)|true=>cases made with|false=>exact aJ rfl|true=>exact pB rfl (Kw rfl rfl rfl x1) rK)];rw[zb (e':=[some (b,.lst (iT xs)),some (false,.lst (sT ns)),some ↑A,some ↑Y,some (true,.lst pre),some (false,.int k),some (false,.bl (lR made x)),some (false,.bl (ll made x))]) (by cases b with|false=>exact aJ (Kx rfl rfl rfl x1 rfl)|true=>exact pB rfl (Kx rfl rfl rfl x1 rfl) rK)];have l1:jA [.lst (sT ks)]=some (false,.int (ks.length:Int)):=by rw[<-hlk];rfl
 have val:∀E:En,mV 0 E=.ok (false,.lst (iT xs))->mV 1 E=.ok (false,.lst (sT ns))->mV 2 E=.ok ↑A->mV 5 E=.ok (false,.int k)->mV 6 E=.ok (false,.bl (lR made x))->mV 7 E=.ok (false,.bl (ll made x))->jL ↑ad E=.ok (false,rJ made x y kd):=λE h0 h1 h2 h5 h6 h7=>vP (vC (v2 h1 h5 y1) (vC (v2 h2 (v2 (v2 (v2 h0 h5 x1) rfl (YF d4)) (vK (vC h2 rfl) l1) (qT _ hl')) k1) (vC h6 (vC h7 rfl)))) rfl rfl;cases b;·exact aC (r:=(false,rJ made x y kd)) rfl (val _ rfl rfl rfl rfl rfl rfl) hs
 ·exact YE (r:=(false,rJ made x y kd)) rfl (ET (vB (v2 rfl rfl y1) (EU (Du rfl rfl)))) (val _ rfl rfl rfl rfl rfl rfl) (jB rfl rfl rfl) hs
def nz(ks:List Str)(x:Nat):Str:=ks.getD (x/4%ks.length) ""
def vY(made:Bool)(xs:List Nat)(ns ks:List Str)(k n:Nat):List T:=(List.range' k n).map λ(i:Nat)=>rJ made (xs.getD i 0) (ns.getD i "") (nz ks (xs.getD i 0))
def getD_some{α:Type}{l:List α}{i:Nat}{d:α}(h:i<l.length):l[i]?=some (l.getD i d):=by rw[List.getD_eq_getElem?_getD,List.getElem?_eq_getElem h];rfl
def aK(ks:List Str)(x:Nat)(h:0<ks.length):ks[x/4%ks.length]?=some (nz ks x):=getD_some (Nat.mod_lt _ h)
def rM(b:Bool)(xs:List Nat)(ns ks:List Str)(made:Bool)(hx:ns.length<=xs.length)(hl:0<ks.length):∀(n k:Nat)(pre:List T)(v5 v6 v7:Option RV),zQ v6=v6->zQ v7=v7->k+n<=ns.length->pre.length+n<1000->∃e5 e6 e7,xP (gN 5) uF ((List.range' k n).map λ(i:Nat)=>T.int (i:Int)) [some (b,.lst (iT xs)),some (false,.lst (sT ns)),some ↑A,some ↑Y,some (true,.lst pre),v5,v6,v7]=.nx [some (b,.lst (iT xs)),some (false,.lst (sT ns)),some ↑A,some ↑Y,some (true,.lst (pre++vY made xs ns ks k n)),e5,e6,e7]:=by intro n;induction n with|zero=>intro k pre v5 v6 v7 _ _ _ _;refine⟨v5,v6,v7,?_⟩;rw[show vY made xs ns ks k 0=[]from rfl,List.append_nil];rfl|succ n ih=>
  intro k pre v5 v6 v7 h6 h7 hk hp;obtain⟨e5,e6,e7,e⟩:=ih (k+1) (pre++[rJ made (xs.getD k 0) (ns.getD k "") (nz ks (xs.getD k 0))]) (some (false,.int k)) (some (false,.bl (lR made (xs.getD k 0)))) (some (false,.bl (ll made (xs.getD k 0)))) rfl rfl ↑a ↑aO;refine⟨e5,e6,e7,?_⟩;have ha:pre++vY made xs ns ks k (n+1)=pre++[rJ made (xs.getD k 0) (ns.getD k "") (nz ks (xs.getD k 0))]++vY made xs ns ks (k+1) n:=by unfold vY;rw[List.range'_succ,List.map_cons,List.append_assoc];rfl
  rw[ha,<-e,List.range'_succ,List.map_cons];exact jy (YJ rfl) (rL b xs ns ks made k (xs.getD k 0) (ns.getD k "") (nz ks (xs.getD k 0)) pre v6 v7 h6 h7 (getD_some ↑a) (getD_some ↑a) (aK ks _ hl) hl ↑a)
def Wf(b:Bool)(xs:List Nat)(ns ks:List Str)(made:Bool)(hx:ns.length<=xs.length)(hl:0<ks.length)(hn:ns.length<900):wX [(b,.lst (iT xs)),(false,.lst (sT ns)),↑A,↑Y]=.ok (false,.tup (vY made xs ns ks 0 ns.length)):=by
 obtain⟨e5,e6,e7,e⟩:=rM b xs ns ks made hx hl ns.length 0 [] none none none rfl rfl ↑a ↑aO;have hlen:(vY made xs ns ks 0 ns.length).length=ns.length:=by simp[vY]
 have hsl:(sT ns).length=ns.length:=by simp[sT]
 have hb:g8 [some (b,.lst (iT xs)),some (false,.lst (sT ns)),some ↑A,some ↑Y,none,none,none,none]=.rt (false,.tup (vY made xs ns ks 0 ns.length)):=by unfold g8;rw[zb (e':=[some (b,.lst (iT xs)),some (false,.lst (sT ns)),some ↑A,some ↑Y,some (true,.lst []),none,none,none]) (by cases b<;>exact zw (vL (rs:=[]) rfl rfl rfl))];rw[zb (e':=[some (b,.lst (iT xs)),some (false,.lst (sT ns)),some ↑A,some ↑Y,some (true,.lst (vY made xs ns ks 0 ns.length)),e5,e6,e7]) (by rw[lX (n:=ns.length) (by rw[<-hsl];cases b<;>rfl) ↑a];exact e)];generalize vY made xs ns ks 0 ns.length=ts;cases b<;>exact ve (vK ↑q rfl) rfl
 exact zZ rfl hb
def mG:∀(n k:Nat),(∀i,k<=i->i<k+n->∃b,me (some (false,.int (i:Int))::caps)=.ok (b,g i))->xZ zK me caps ((List.range' k n).map λ(i:Nat)=>T.int (i:Int))=.ok ((List.range' k n).map g)|0,k,h=>rfl|n+1,k,h=>by obtain⟨b,hb⟩:=h k ↑e ↑a;have ih:=mG n (k+1) (λi h1 h2=>h i ↑a ↑a);rw[List.range'_succ,List.map_cons,List.map_cons,xZ];show(match me (some (false,.int (k:Int))::caps)with|.ok r=>_|_=>_)=_;rw[hb];dsimp only;rw[ih]
def bn(h:me (some ↑P::caps)=.bad):xZ zK me caps (t::ts)=.bad:=by rw[xZ];simp[zK,h]
def rN{m:MA}{env:En}{n:Nat}{b:Bool}(h:m env=.ok [(b,.int n)])(hj:(n:Int)<2^62):kR m env=.ok (gn 0 n):=by unfold kR;rw[h,bind_ok];show(if-(2^62)<=(n:Int)/\(n:Int)<2^62 then _ else _)=_;rw[if_pos ⟨by omega,hj⟩,Int.toNat_natCast]
def YK(n:Nat):(gn 0 n).length=n:=by simp[gn]
def lY(h:m env=.ok [(b,.int n)])(hj:n<900)(hg:∀i,i<n->∃b,me (some (false,.int (i:Int))::kU env slots)=.ok (b,g i)):zW (kR m) zK me slots env=.ok (true,.lst ((List.range' 0 n).map g)):=by unfold zW;rw[rN h ↑a,bind_ok,YK,if_pos (by have:=big;omega),Ju,mG n 0 (λi _ h2=>hg i ↑a)]
def rO{m:MA}{me:ME}{env:En}{slots:List Nat}{n:Nat}{b:Bool}(h:m env=.ok [(b,.int n)])(hj:n<900)(h0:0<n)(hg:me (some (false,.int ((0:Nat):Int))::kU env slots)=.bad):zW (kR m) zK me slots env=.bad:=by unfold zW;rw[rN h ↑a,bind_ok,YK,if_pos (by have:=big;omega),Ju];obtain⟨n',rfl⟩:∃n',n=n'+1:=⟨n-1,by omega⟩;rw[List.range'_succ,List.map_cons,bn hg]
def lZ(h:∀i,Zr (g i)=true/\ZQ (g i)=true/\ZR (g i)=true):∀l:List Nat,noLs (l.map g)=true/\noDs (l.map g)=true/\noOs (l.map g)=true|[]=>⟨rfl,rfl,rfl⟩|i::l=>by have ih:=lZ h l;have hi:=h i;simp[noLs,noDs,noOs,ih,hi]
def Wg(xs:List Nat)(ns ks:List Str)(i:Nat):T:=.tup [.str (ns.getD i ""),.str (nz ks (xs.getD (4+i) 0))]
def lq(x:Nat):Bool:=decide (x%2=0)
def GW(xs:List Nat)(ns ks:List Str)(i:Nat):T:=.tup [.str (ns.getD i ""),.str (nz ks (xs.getD (4+i) 0)),.bl (lq (xs.getD (4+i) 0))]
def mH(c:Int)(n:Nat):List Nat:=(de c n).map Int.toNat
def zI(x n:Nat):List Str:=(List.range' 0 n).map (nm x)
def YL(c:Int)(n:Nat):(de c n).map T.int=iT (mH c n):=by unfold iT mH;rw[List.map_map];apply List.map_congr_left;intro y hy;have:=YG _ _ _ y hy;show T.int y=T.int ((y.toNat:Nat):Int);rw[Int.toNat_of_nonneg this.1]
def rP(c:Int)(n:Nat):(mH c n).length=n:=by unfold mH de;rw[List.length_map,rC]
def di(x n:Nat):gc x 0 n=sT (zI x n):=by unfold gc sT zI;rw[List.map_map];rfl
def wP(x n:Nat):(zI x n).length=n:=by simp[zI]
def aL(ys:List Str):noLs (sT ys)=true/\noDs (sT ys)=true/\noOs (sT ys)=true:=by unfold sT;induction ys with|nil=>exact⟨rfl,rfl,rfl⟩|cons y ys ih=>exact ih
def kH(x:Nat):Nat:=[0,1,2,3,2,12].getD (x%6) 0
def MJ(x:Nat):zk (.lst [.int 0,.int 1,.int 2,.int 3,.int 2,.int 12]) (.int ((x:Int)%6))=some (false,.int (kH x:Int)):=by
 have h:x%6<6:=Nat.mod_lt _ ↑a;have hc:(x:Int)%6=((x%6:Nat):Int):=by simp
 unfold kH;rw[hc,WJ];generalize x%6=i at h;match i,h with|0,_=>rfl|1,_=>rfl|2,_=>rfl|3,_=>rfl|4,_=>rfl|5,_=>rfl
def bU(x:Nat):kH x<=12:=by have h:x%6<6:=Nat.mod_lt _ ↑a;unfold kH;generalize x%6=i at h;match i,h with|0,_=>decide|1,_=>decide|2,_=>decide|3,_=>decide|4,_=>decide|5,_=>decide
section
variable(t:Str)(c:Int)(ks:List Str)(xs:List Nat)(hx:xs.length=16)
include hx
theorem C3:zn 4 (m2 zk (jo (z3 ↑l (z3 ↑c (z3 ↑i (z3 ↑k (z3 ↑i (z3 (mC (.int 12)) z5))))))) (m2 zY (m2 zk (mV 3) ↑l) (mC (.int 6)))) [some (false,.str t),some ↑r,some ↑A,some (true,.lst (iT xs)),none,none,none,none,none,none,none]=.nx [some (false,.str t),some ↑r,some ↑A,some (true,.lst (iT xs)),some (false,.int (kH (xs.getD 0 0))),none,none,none,none,none,none]:=by
 have x0:zk (.lst (iT xs)) (.int 0)=some (false,.int (xs.getD 0 0:Nat)):=by have:=rH xs 0;rw[getD_some (d:=0) ↑a]at this;exact this
 have h6:6<=sizeLine:=by decide
 have hc:=MJ (xs.getD 0 0);generalize xs.getD 0 0=y at x0 hc;exact pB rfl (v2 (vL (vC rfl (vC rfl (vC rfl (vC rfl ↑aR)))) rfl rfl) (v2 (v2 rfl rfl x0) rfl (qT _ ↑v)) hc) (jB rfl rfl rfl)
theorem C4(n:Nat)(hn:n<900):zn 5 (z9 jH (z3 (m2 zk (mV 3) ↑c) (z3 (mV 4) z5))) [some (false,.str t),some ↑r,some ↑A,some (true,.lst (iT xs)),some ↑aF,none,none,none,none,none,none]=.nx [some (false,.str t),some ↑r,some ↑A,some (true,.lst (iT xs)),some ↑aF,some (true,.lst (sT (zI (xs.getD 1 0) n))),none,none,none,none,none]:=by
 have x1:zk (.lst (iT xs)) (.int 1)=some (false,.int (xs.getD 1 0:Nat)):=by have:=rH xs 1;rw[getD_some (d:=0) ↑a]at this;exact this
 have hnm:=dg (xs.getD 1 0) n hn;rw[di]at hnm;have hno:=aL (zI (xs.getD 1 0) n);generalize xs.getD 1 0=y at x1 hnm hno;exact pB rfl (vF (vC (v2 rfl rfl x1) ↑q) hnm) (jB hno.1 hno.2.1 hno.2.2)
theorem C5(n:Nat)(ns:List Str):zn 6 (m2 zG (m2 zY (m2 zk (mV 3) ↑i) ↑i) ↑l) [some (false,.str t),some ↑r,some ↑A,some (true,.lst (iT xs)),some ↑aF,some (true,.lst (sT ns)),none,none,none,none,none]=.nx [some (false,.str t),some ↑r,some ↑A,some (true,.lst (iT xs)),some ↑aF,some (true,.lst (sT ns)),some (false,.bl ↑aj),none,none,none,none]:=by
 have x2:zk (.lst (iT xs)) (.int 2)=some (false,.int (xs.getD 2 0:Nat)):=by have:=rH xs 2;rw[getD_some (d:=0) ↑a]at this;exact this
 generalize xs.getD 2 0=y at x2;have e:decide ((y:Int)%2=0)=lq y:=decide_eq_decide.mpr ↑a;have q:=vW ((y:Int)%2) 0;rw[e]at q;exact pB rfl (v2 (v2 (v2 rfl rfl x2) rfl (qT _ ↑v)) rfl q) (jB rfl rfl rfl)
end
def nB(ts:List T)(k:Nat):qw ts (some (k:Int)) none=ts.drop k:=by
 unfold qw;rw[HT.sIx_none,HT.sIx_nat];by_cases h:k<=ts.length;·rw[Nat.min_eq_left h,List.take_of_length_le ↑T]
 ·rw[Nat.min_eq_right ↑a,List.drop_eq_nil_of_le ↑e,List.drop_eq_nil_of_le ↑a];simp
def dj(ts:List T)(k:Nat):qw ts none (some (k:Int))=ts.take k:=by
 unfold qw;rw[HT.sIx_none,HT.sIx_nat];by_cases h:k<=ts.length;·rw[Nat.min_eq_left h];simp
 ·rw[Nat.min_eq_right ↑a];simp;rw[List.take_of_length_le ↑a]
def GX(xs:List Nat)(k:Nat):(iT xs).drop k=iT (xs.drop k):=by unfold iT;rw[List.map_drop]
def Ky(made:Bool)(xs:List Nat)(ns ks:List Str)(k n:Nat):noLs (vY made xs ns ks k n)=true/\noDs (vY made xs ns ks k n)=true/\noOs (vY made xs ns ks k n)=true:=by unfold vY;exact lZ (g:=λi=>rJ made (xs.getD i 0) (ns.getD i "") (nz ks (xs.getD i 0))) (λi=>⟨rfl,rfl,rfl⟩) _
def fj(t:Str)(n:Nat)(made:Bool):Str:=⟨(kg t.cps.toList n made).toArray⟩
def MK(t:Str)(xs:List Nat)(ns ks:List Str):T:=.tup [.str "record",.str (fj t (xs.getD 2 0/2) ↑aj),.bl ↑aj,.tup (vY ↑aj (xs.drop 4) ns ks 0 ns.length)]
def E6(t:Str)(c:Int)(ks:List Str)(xs:List Nat)(n:Nat)(ns:List Str):En:=[some (false,.str t),some ↑r,some ↑A,some (true,.lst (iT xs)),some ↑aF,some (true,.lst (sT ns)),some (false,.bl ↑aj),none,none,none,none]
def Kz(xs:List Nat)(i:Nat)(h:i<xs.length):zk (.lst (iT xs)) (.int (i:Int))=some (false,.int (xs.getD i 0:Nat)):=by have:=rH xs i;rw[getD_some (d:=0) h]at this;exact this
def ML(fT fF:MF)(t tl:Str)(c y2 y3 q2:Int)(ks ns:List Str)(L cut:List T)(n:Int)(md:Bool)(fl:List T)(x2:zk (.lst L) (.int 2)=some (false,.int y2))(x3:zk (.lst L) (.int 3)=some (false,.int y3))(hd:j7 (.int y2) (.int 2)=some (false,.int q2))(e3:y3%3=0)(hti:fT [(false,.str t),(false,.int q2),(false,.bl md)]=.ok (false,.str tl))(hcut:dR (.lst L) (some 4) none=some (true,.lst cut))(hf:fF [(true,.lst cut),(false,.lst (sT ns)),↑A,(false,.bl md)]=.ok (false,.tup fl))(hno:noLs fl=true/\noDs fl=true/\noOs fl=true)(rc:Str):jN (zX (m2 zG (m2 zY (m2 zk (mV 3) ↑k) ↑k) ↑l)) (zt (jL (z3 (mC (.str rc)) (z3 (z9 fT ↑U) (z3 (mV 6) (z3 (z9 fF (z3 (k5 (mV 3) (zx ↑D) zO) (z3 (mV 5) (z3 (mV 2) (z3 (mV 6) z5))))) z5)))))) zq [some (false,.str t),some ↑r,some ↑A,some (true,.lst L),some ↑aF,some (true,.lst (sT ns)),some (false,.bl md),none,none,none,none]=.rt (false,.tup [.str rc,.str tl,.bl md,.tup fl]):=by
 have h4:4<=sizeLine:=by decide
 have q1:=vW (y3%3) 0;rw[decide_eq_true e3]at q1;refine(kY (j8 rfl (vT (v2 (v2 (v2 rfl rfl x3) rfl (qT _ ↑v)) rfl q1)))).trans ?_;exact ve (vP (vC rfl (vC (vF (vC rfl (vC (v2 (v2 rfl rfl x2) rfl hd) ↑q)) hti) (vC rfl (vC (vF (vC (vS rfl rfl rfl hcut) (vC rfl ↑aR)) hf) rfl)))) rfl rfl) rfl
def IX(y:Nat):j7 (.int (y:Int)) (.int 2)=some (false,.int ((y/2:Nat):Int)):=by
 have hd:gg (y:Int) 2:=⟨by omega,by omega⟩;have:((y/2:Nat):Int)=(y:Int)/2:=by simp
 rw[this];simp[j7,hd]
def IY(t:Str)(c:Int)(ks:List Str)(xs:List Nat)(hx:xs.length=16)(n:Nat)(ns:List Str)(hns:ns.length<=12)(hks:0<ks.length)(ht:t.length<=100)(h3:xs.getD 3 0%3=0):jN (zX (m2 zG (m2 zY (m2 zk (mV 3) ↑k) ↑k) ↑l)) (zt (jL (z3 ↑bb (z3 (z9 xg ↑U) (z3 (mV 6) (z3 (z9 wX (z3 (k5 (mV 3) (zx ↑D) zO) (z3 (mV 5) (z3 (mV 2) (z3 (mV 6) z5))))) z5)))))) zq (E6 t c ks xs n ns)=.rt (false,MK t xs ns ks):=by
 have hf:=Wf true (xs.drop 4) ns ks ↑aj (by rw[List.length_drop];omega) hks ↑a;rw[<-GX]at hf;have hcut:dR (.lst (iT xs)) (some 4) none=some (true,.lst ((iT xs).drop 4)):=by show some (true,T.lst (qw (iT xs) (some ((4:Nat):Int)) none))=_;rw[nB]
 exact ML xg wX t (fj t (xs.getD 2 0/2) ↑aj) c (xs.getD 2 0:Nat) (xs.getD 3 0:Nat) _ ks ns (iT xs) _ n ↑aj _ (Kz xs 2 ↑a) (Kz xs 3 ↑a) (IX _) ↑a (rG t (xs.getD 2 0/2) ↑aj ht) hcut hf (Ky _ _ _ _ _ _) "record"
def xv(hE:m env=.ok r)(hH:m (zJ env)=.bad\/m (zJ env)=.ok r)(hcl:L3.clean env r=true):zn i m env=.nx (env.set i (some r)):=by
 unfold zn jR;rcases hH with h|h;·rw[h,hE];dsimp only;unfold L3.settle;rw[if_pos hcl]
 ·rw[h]
def IZ(q t:Int)(h:¬q%3=t)(b:MS)(env:En)(L:List T)(h3:env[3]?=some (some (true,.lst L)))(x3:zk (.lst L) (.int 3)=some (false,.int q)):jN (zX (m2 zG (m2 zY (m2 zk (mV 3) ↑k) ↑k) (mC (.int t)))) b zq env=.nx env:=by
 have hh:(zJ env)[3]?=some none:=by unfold zJ;rw[List.getElem?_map,h3];rfl
 have q:=vW (q%3) t;rw[decide_eq_false h]at q;have e:mV 3 (zJ env)=.bad:=by unfold mV;rw[hh]
 exact zS (j8 (by unfold zX m2;rw[e];rfl) (vT (v2 (v2 (v2 (vV h3) rfl x3) rfl (qT _ ↑v)) rfl q)))
def JA:ME:=jL (z3 (m2 zk (mV 1) ↑m) (z3 (m2 zk (mV 2) (m2 zY (m2 j7 (m2 zk (mV 3) (m2 zg ↑D ↑m)) ↑D) (zl jA ↑az))) z5))
def GY(xs:List Nat)(ns ks:List Str)(i:Nat)(b1 b2 b3:Bool)(hi:i<ns.length)(hx:4+i<xs.length)(hl:0<ks.length):JA [some (false,.int (i:Int)),some (b1,.lst (sT ns)),some (b2,.lst (sT ks)),some (b3,.lst (iT xs))]=.ok (false,Wg xs ns ks i):=by
 have y1:zk (.lst (sT ns)) (.int (i:Int))=some (false,.str (ns.getD i "")):=by rw[dh,getD_some (d:=("":Str)) hi];rfl
 have x1:zk (.lst (iT xs)) (.int (4+(i:Int)))=some (false,.int (xs.getD (4+i) 0:Nat)):=by
  have:=Kz xs (4+i) hx;have e:((4+i:Nat):Int)=4+(i:Int):=by omega
  rw[e]at this;exact this
 unfold Wg;generalize xs.getD (4+i) 0=y at*;generalize ns.getD i ""=z at*;have hlk:(sT ks).length=ks.length:=by simp[sT]
 have d4:gg (y:Int) 4:=⟨by omega,by omega⟩;have hic:(y:Int)/4%(ks.length:Int)=((y/4%ks.length:Nat):Int):=by simp
 have k1:zk (.lst (sT ks)) (.int ((y:Int)/4%(ks.length:Int)))=some (false,.str (nz ks y)):=by rw[hic,dh,aK ks y hl];rfl
 have hl':(0:Int)<(ks.length:Int):=by omega
 have h2:2<=sizeLine:=by decide
 have l1:jA [.lst (sT ks)]=some (false,.int (ks.length:Int)):=by rw[<-hlk];rfl
 exact vP (vC (v2 rfl rfl y1) (vC (v2 rfl (v2 (v2 (v2 rfl (v2 rfl rfl rfl) x1) rfl (YF d4)) (vK ↑q l1) (qT _ hl')) k1) rfl)) rfl rfl
def vZ(xs:List Nat)(ns ks:List Str)(n:Nat):List T:=(List.range' 0 n).map (Wg xs ns ks)
def bo(xs:List Nat)(ns ks:List Str)(n:Nat):noLs (vZ xs ns ks n)=true/\noDs (vZ xs ns ks n)=true/\noOs (vZ xs ns ks n)=true:=lZ (g:=Wg xs ns ks) (λi=>⟨rfl,rfl,rfl⟩) _
def C6(t:Str)(c:Int)(ks:List Str)(xs:List Nat)(hx:xs.length=16)(n:Nat)(ns:List Str)(hn:n=ns.length)(hns:ns.length<=12)(hks:0<ks.length):zn 7 (zW (kR (z3 (mV 4) z5)) zK JA [5,2,3]) (E6 t c ks xs n ns)=.nx ((E6 t c ks xs n ns).set 7 (some (true,.lst (vZ xs ns ks n)))):=by
 have hE:zW (kR (z3 (mV 4) z5)) zK JA [5,2,3] (E6 t c ks xs n ns)=.ok (true,.lst (vZ xs ns ks n)):=lY (b:=false) rfl ↑a (λi hi=>⟨false,by have:=GY xs ns ks i true false true ↑a ↑a hks;exact this⟩);refine xv hE ?_ ?_
 ·by_cases h0:0<n;·left;refine rO (n:=n) (b:=false) rfl ↑a h0 ?_;rfl
  ·right;have:n=0:=by omega
   subst this;refine lY (n:=0) (b:=false) rfl ↑a (λi hi=>by omega)
 ·have hno:=bo xs ns ks n;exact jB hno.1 hno.2.1 hno.2.2
def MM(fT:MF)(t tl rc:Str)(c y2 y3 q2 q18:Int)(ks ns:List Str)(L ps:List T)(n:Int)(md ev:Bool)(x2:zk (.lst L) (.int 2)=some (false,.int y2))(x3:zk (.lst L) (.int 3)=some (false,.int y3))(hd:j7 (.int y2) (.int 2)=some (false,.int q2))(hd18:j7 (.int y2) (.int 18)=some (false,.int q18))(e3:y3%3=1)(hti:fT [(false,.str t),(false,.int q2),(false,.bl md)]=.ok (false,.str tl))(hev:decide (q18%2=0)=ev)(hno:noLs ps=true/\noDs ps=true/\noOs ps=true):jN (zX (m2 zG (m2 zY (m2 zk (mV 3) ↑k) ↑k) ↑c)) (zt (jL (z3 (mC (.str rc)) (z3 (z9 fT ↑U) ↑aq)))) zq [some (false,.str t),some ↑r,some ↑A,some (true,.lst L),some ↑aF,some (true,.lst (sT ns)),some (false,.bl md),some (true,.lst ps),none,none,none]=.rt (false,.tup [.str rc,.str tl,.bl md,.bl ev,.tup ps]):=by
 have h5:5<=sizeLine:=by decide
 have q1:=vW (y3%3) 1;rw[decide_eq_true e3]at q1;have q2:=vW (q18%2) 0;rw[hev]at q2;refine(kY (j8 rfl (vT (v2 (v2 (v2 rfl rfl x3) rfl (qT _ ↑v)) rfl q1)))).trans ?_;exact ve (vP (vC rfl (vC (vF (vC rfl (vC (v2 (v2 rfl rfl x2) rfl hd) ↑q)) hti) (vC rfl (vC (v2 (v2 (v2 (v2 rfl rfl x2) rfl hd18) rfl (qT _ ↑v)) rfl q2) (vC (vK ↑q rfl) rfl))))) rfl rfl) rfl
def Ha(y:Nat):j7 (.int (y:Int)) (.int 18)=some (false,.int ((y/18:Nat):Int)):=by
 have hd:gg (y:Int) 18:=⟨by omega,by omega⟩;have:((y/18:Nat):Int)=(y:Int)/18:=by simp
 rw[this];simp[j7,hd]
def MP(t:Str)(xs:List Nat)(ns ks:List Str)(n:Nat):T:=.tup [.str "choice",.str (fj t (xs.getD 2 0/2) ↑aj),.bl ↑aj,.bl (lq (xs.getD 2 0/18)),.tup (vZ xs ns ks n)]
def E7(t:Str)(c:Int)(ks:List Str)(xs:List Nat)(n:Nat)(ns:List Str):En:=(E6 t c ks xs n ns).set 7 (some (true,.lst (vZ xs ns ks n)))
def Hb(t:Str)(c:Int)(ks:List Str)(xs:List Nat)(hx:xs.length=16)(n:Nat)(ns:List Str)(ht:t.length<=100)(h3:xs.getD 3 0%3=1):jN (zX (m2 zG (m2 zY (m2 zk (mV 3) ↑k) ↑k) ↑c)) (zt (jL (z3 ↑bc (z3 (z9 xg ↑U) ↑aq)))) zq (E7 t c ks xs n ns)=.rt (false,MP t xs ns ks n):=MM xg t (fj t (xs.getD 2 0/2) ↑aj) "choice" c (xs.getD 2 0:Nat) (xs.getD 3 0:Nat) _ _ ks ns (iT xs) (vZ xs ns ks n) n ↑aj (lq (xs.getD 2 0/18)) (Kz xs 2 ↑a) (Kz xs 3 ↑a) (IX _) (Ha _) ↑a (rG t (xs.getD 2 0/2) ↑aj ht) (decide_eq_decide.mpr ↑a) (bo _ _ _ _)
def aM:ME:=m2 zg (m2 zk (mV 1) ↑m) (jL (z3 (m2 zG (m2 zY (m2 zk (mV 2) (m2 zg ↑D ↑m)) ↑i) ↑l) z5))
def pI(h:ts.length+us.length<=sizeLine):zg (.tup ts) (.tup us)=some (false,.tup (ts++us)):=by show(if ts.length+us.length<=sizeLine then some (false,T.tup (ts++us))else none)=_;rw[if_pos h]
def add_int(i j:Int):zg (.int i) (.int j)=some (false,.int (i+j)):=rfl
def KA(xs:List Nat)(ns ks:List Str)(n i:Nat)(b1 b3:Bool)(hi:i<n)(hx:4+i<xs.length):aM [some (false,.int (i:Int)),some (b1,.lst (vZ xs ns ks n)),some (b3,.lst (iT xs))]=.ok (false,GW xs ns ks i):=by
 have y1:zk (.lst (vZ xs ns ks n)) (.int (i:Int))=some (false,Wg xs ns ks i):=by rw[WJ];unfold vZ;rw[List.getElem?_map,List.getElem?_range' hi];simp
 have x1:zk (.lst (iT xs)) (.int (4+(i:Int)))=some (false,.int (xs.getD (4+i) 0:Nat)):=by
  have:=Kz xs (4+i) hx;have e:((4+i:Nat):Int)=4+(i:Int):=by omega
  rw[e]at this;exact this
 have e:∀y:Nat,decide ((y:Int)%2=0)=lq y:=λy=>decide_eq_decide.mpr ↑a;have h1:1<=sizeLine:=by decide
 have h3:3<=sizeLine:=by decide
 unfold GW;unfold Wg at y1;generalize xs.getD (4+i) 0=y at*;generalize ns.getD i ""=z at*;generalize nz ks y=kd at*;have ha:∀b,zg (.tup [.str z,.str kd]) (.tup [.bl b])=some (false,.tup [.str z,.str kd,.bl b]):=λb=>pI (ts:=[.str z,.str kd]) (us:=[.bl b]) h3;have q:=vW ((y:Int)%2) 0;rw[e]at q;exact v2 (v2 rfl rfl y1) (vP (vC (v2 (v2 (v2 rfl (v2 rfl rfl rfl) x1) rfl (qT _ ↑v)) rfl q) rfl) rfl rfl) (ha _)
def w6(xs:List Nat)(ns ks:List Str)(n:Nat):List T:=(List.range' 0 n).map (GW xs ns ks)
def JB(xs:List Nat)(ns ks:List Str)(n:Nat):noLs (w6 xs ns ks n)=true/\noDs (w6 xs ns ks n)=true/\noOs (w6 xs ns ks n)=true:=lZ (g:=GW xs ns ks) (λi=>⟨rfl,rfl,rfl⟩) _
def C7(t:Str)(c:Int)(ks:List Str)(xs:List Nat)(hx:xs.length=16)(n:Nat)(ns:List Str)(hn:n<=12):zn 8 (zW (kR (z3 (mV 4) z5)) zK aM [7,3]) (E7 t c ks xs n ns)=.nx ((E7 t c ks xs n ns).set 8 (some (true,.lst (w6 xs ns ks n)))):=by
 have hE:zW (kR (z3 (mV 4) z5)) zK aM [7,3] (E7 t c ks xs n ns)=.ok (true,.lst (w6 xs ns ks n)):=lY (b:=false) rfl ↑a (λi hi=>⟨false,by have:=KA xs ns ks n i true true hi ↑a;exact this⟩);refine xv hE ?_ ?_
 ·by_cases h0:0<n;·left;refine rO (n:=n) (b:=false) rfl ↑a h0 ?_;rfl
  ·right;have:n=0:=by omega
   subst this;refine lY (n:=0) (b:=false) rfl ↑a (λi hi=>by omega)
 ·have hno:=JB xs ns ks n;exact jB hno.1 hno.2.1 hno.2.2
def E8(t:Str)(c:Int)(ks:List Str)(xs:List Nat)(n:Nat)(ns:List Str):En:=(E7 t c ks xs n ns).set 8 (some (true,.lst (w6 xs ns ks n)))
def MQ(y:Nat)(d:Nat)(h0:0<d)(h1:d<1000):j7 (.int (y:Int)) (.int (d:Int))=some (false,.int ((y/d:Nat):Int)):=by
 have hd:gg (y:Int) (d:Int):=⟨by omega,by omega⟩;have:((y/d:Nat):Int)=(y:Int)/(d:Int):=by simp
 rw[this];simp[j7,hd]
def GZ(y:Nat)(d:Nat)(h0:0<d):zY (.int (y:Int)) (.int (d:Int))=some (false,.int ((y%d:Nat):Int)):=by
 have h0':(0:Int)<(d:Int):=by omega
 have:((y%d:Nat):Int)=(y:Int)%(d:Int):=by simp
 rw[this];show(if 0<(d:Int)then some (false,T.int ((y:Int)%(d:Int)))else none)=_;rw[if_pos h0']
def D6(f:MF)(env:En)(L fs:List T)(y2 y3 q r:Int)(h3:env[3]?=some (some (true,.lst L)))(x2:zk (.lst L) (.int 2)=some (false,.int y2))(x3:zk (.lst L) (.int 3)=some (false,.int y3))(hd:j7 (.int y3) (.int 6)=some (false,.int q))(hm:zY (.int q) (.int 4)=some (false,.int r))(hf:f [(false,.int y2),(false,.int r)]=.ok (true,.lst fs))(hno:noLs fs=true/\noDs fs=true/\noOs fs=true):zn 9 (zl jS (z3 (z9 f (z3 (m2 zk (mV 3) ↑i) (z3 (m2 zY (m2 j7 (m2 zk (mV 3) ↑k) (mC (.int 6))) ↑D) z5))) z5)) env=.nx (env.set 9 (some (false,.tup fs))):=by
 have hh:(zJ env)[3]?=some none:=by unfold zJ;rw[List.getElem?_map,h3];rfl
 refine xv ?_ (.inl ?_) ?_;·exact vK (vC (vF (vC (v2 (vV h3) rfl x2) (vC (v2 (v2 (v2 (vV h3) rfl x3) rfl hd) rfl hm) rfl)) hf) rfl) rfl
 ·exact HQ (Dt (EU (by unfold m2 mV;rw[hh];rfl)))
 ·exact jB hno.1 hno.2.1 hno.2.2
def Hc(env:En)(L ksT:List T)(y1 q r:Int)(kd:Str)(h2:env[2]?=some (some (false,.lst ksT)))(h3:env[3]?=some (some (true,.lst L)))(x1:zk (.lst L) (.int 1)=some (false,.int y1))(hd:j7 (.int y1) (.int 3)=some (false,.int q))(hm:zY (.int q) (.int ksT.length)=some (false,.int r))(hk:zk (.lst ksT) (.int r)=some ↑aN):zn 10 (m2 zk (mV 2) (m2 zY (m2 j7 (m2 zk (mV 3) ↑c) ↑k) (zl jA ↑az))) env=.nx (env.set 10 (some ↑aN)):=by
 have hh:(zJ env)[3]?=some none:=by unfold zJ;rw[List.getElem?_map,h3];rfl
 have hh2:(zJ env)[2]?=some (some (false,.lst ksT)):=by unfold zJ;rw[List.getElem?_map,h2];rfl
 refine xv ?_ (.inl ?_) ?_;·exact v2 (vV h2) (v2 (v2 (v2 (vV h3) rfl x1) rfl hd) (vK (vC (vV h2) rfl) rfl) hm) hk
 ·exact Du (vV hh2) (by unfold m2 mV;rw[hh];rfl)
 ·exact jB rfl rfl rfl
def MR(env:En)(L pl fs:List T)(t kd rc:Str)(y2 q n r:Int)(h0:env[0]?=some (some (false,.str t)))(h3:env[3]?=some (some (true,.lst L)))(h4:env[4]?=some (some ↑aF))(h8:env[8]?=some (some (true,.lst pl)))(h9:env[9]?=some (some (false,.tup fs)))(h10:env[10]?=some (some ↑aN))(x2:zk (.lst L) (.int 2)=some (false,.int y2))(hd:j7 (.int y2) (.int 2)=some (false,.int q))(hm:zY (.int q) (.int (n+1))=some (false,.int r)):zt (jL (z3 (mC (.str rc)) (z3 ↑m (z3 (m2 zY (m2 j7 (m2 zk (mV 3) ↑i) ↑i) (m2 zg (mV 4) ↑c)) (z3 (zl jS (z3 (mV 8) z5)) (z3 (mV 10) (z3 (mV 9) z5))))))) env=.rt (false,.tup [.str rc,.str t,.int r,.tup pl,.str kd,.tup fs]):=by
 have hh:(zJ env)[3]?=some none:=by unfold zJ;rw[List.getElem?_map,h3];rfl
 have hh0:(zJ env)[0]?=some (some (false,.str t)):=by unfold zJ;rw[List.getElem?_map,h0];rfl
 have h6:6<=sizeLine:=by decide
 refine ve ?_ ?_;·exact vP (vC rfl (vC (vV h0) (vC (v2 (v2 (v2 (vV h3) rfl x2) rfl hd) (v2 (vV h4) rfl (add_int _ _)) hm) (vC (vK (vC (vV h8) rfl) rfl) (vC (vV h10) (vC (vV h9) rfl)))))) rfl rfl
 ·exact ET (vB rfl (vB (vV hh0) (EU (by unfold m2 mV;rw[hh];rfl))))
def MU(t:Str)(xs:List Nat)(ns ks:List Str)(n:Nat):T:=.tup [.str "function",.str t,.int ((xs.getD 2 0/2%(n+1):Nat):Int),.tup (w6 xs ns ks n),.str (ks.getD (xs.getD 1 0/3%ks.length) ""),.tup (sT (zI (xs.getD 2 0) (xs.getD 3 0/6%4)))]
def dl(t:Str)(c:Int)(ks:List Str):T:=let xs:=mH c 16;let n:=kH (xs.getD 0 0);let ns:=zI (xs.getD 1 0) n;if xs.getD 3 0%3=0 then MK t xs ns ks else if xs.getD 3 0%3=1 then MP t xs ns ks n else MU t xs ns ks n
def KB(t:Str)(c:Int)(ks:List Str)(xs:List Nat)(hx:xs.length=16)(ht:t.length<=100)(hks:0<ks.length)(hst:jc [↑r,(false,.int 16)]=.ok (true,.lst (iT xs))):gR [some (false,.str t),some ↑r,some ↑A,none,none,none,none,none,none,none,none]=.rt (false,if xs.getD 3 0%3=0 then MK t xs (zI (xs.getD 1 0) (kH (xs.getD 0 0))) ks else if xs.getD 3 0%3=1 then MP t xs (zI (xs.getD 1 0) (kH (xs.getD 0 0))) ks (kH (xs.getD 0 0))else MU t xs (zI (xs.getD 1 0) (kH (xs.getD 0 0))) ks (kH (xs.getD 0 0))):=by
 have hcn:=bU (xs.getD 0 0);have hnl:=wP (xs.getD 1 0) (kH (xs.getD 0 0));have s3:zn 3 (z9 jc (z3 (mV 1) (z3 (mC (.int 16)) z5))) [some (false,.str t),some ↑r,some ↑A,none,none,none,none,none,none,none,none]=.nx [some (false,.str t),some ↑r,some ↑A,some (true,.lst (iT xs)),none,none,none,none,none,none,none]:=by generalize jc=f at hst;exact zw (vF ↑aR hst)
 unfold gR;rw[zb s3,zb (C3 t c ks xs hx),zb (C4 t c ks xs hx (kH (xs.getD 0 0)) ↑a),zb (C5 t c ks xs hx (kH (xs.getD 0 0)) (zI (xs.getD 1 0) (kH (xs.getD 0 0))))];generalize kH (xs.getD 0 0)=n at*;generalize zI (xs.getD 1 0) n=ns at*;by_cases h0:xs.getD 3 0%3=0;·rw[if_pos h0];exact gb (IY t c ks xs hx n ns ↑a hks ht h0)
 rw[if_neg h0];have x3:=Kz xs 3 ↑a;refine(zb (IZ ((xs.getD 3 0:Nat):Int) 0 ↑a _ (E6 t c ks xs n ns) (iT xs) rfl x3)).trans ?_;refine(zb (C6 t c ks xs hx n ns hnl.symm ↑a hks)).trans ?_;by_cases h1:xs.getD 3 0%3=1;·rw[if_pos h1];exact gb (Hb t c ks xs hx n ns ht h1)
 rw[if_neg h1];refine(zb (IZ ((xs.getD 3 0:Nat):Int) 1 ↑a _ (E7 t c ks xs n ns) (iT xs) rfl x3)).trans ?_;refine(zb (C7 t c ks xs hx n ns ↑a)).trans ?_;have hf:=dg (xs.getD 2 0) (xs.getD 3 0/6%4) ↑a;rw[di]at hf;have hlk:(sT ks).length=ks.length:=by simp[sT]
 have hm10:zY (.int ((xs.getD 1 0/3:Nat):Int)) (.int ((sT ks).length:Int))=some (false,.int ((xs.getD 1 0/3%ks.length:Nat):Int)):=by rw[hlk];exact GZ _ _ hks
 have hk10:zk (.lst (sT ks)) (.int ((xs.getD 1 0/3%ks.length:Nat):Int))=some (false,.str (ks.getD (xs.getD 1 0/3%ks.length) "")):=by rw[dh,getD_some (d:=("":Str)) (Nat.mod_lt _ hks)];rfl
 have hmf:zY (.int ((xs.getD 2 0/2:Nat):Int)) (.int ((n:Int)+1))=some (false,.int ((xs.getD 2 0/2%(n+1):Nat):Int)):=GZ (xs.getD 2 0/2) (n+1) ↑a;refine(zb (D6 jH (E8 t c ks xs n ns) (iT xs) _ _ _ _ _ rfl (Kz xs 2 ↑a) x3 (MQ (xs.getD 3 0) 6 ↑a ↑a) (GZ (xs.getD 3 0/6) 4 ↑a) hf (aL _))).trans ?_;refine(zb (Hc _ (iT xs) (sT ks) _ _ _ _ rfl rfl (Kz xs 1 ↑a) (MQ (xs.getD 1 0) 3 ↑a ↑a) hm10 hk10)).trans ?_;exact MR _ (iT xs) (w6 xs ns ks n) (sT (zI (xs.getD 2 0) (xs.getD 3 0/6%4))) t (ks.getD (xs.getD 1 0/3%ks.length) "") "function" _ _ n _ rfl rfl rfl rfl rfl rfl (Kz xs 2 ↑a) (MQ (xs.getD 2 0) 2 ↑a ↑a) hmf
def KC(t:Str)(c:Int)(ks:List Str)(ht:t.length<=100)(hks:0<ks.length):jI [(false,.str t),↑r,↑A]=.ok (false,dl t c ks):=by have hst:=bd c 16 ↑a;rw[YL]at hst;exact zZ rfl (KB t c ks (mH c 16) (rP c 16) ht hks hst)
end Law
namespace Law
open PySem L2 L3 PyProof.Rows
def rQ:∀(ys acc:List Str),(acc++ys).Nodup->ys.foldl step_dedup acc=acc++ys
 |[],acc,_=>by simp|y::ys,acc,h=>by
  have hn:¬(acc.any (·==y)=true):=by
   intro z;obtain⟨a,ha,e⟩:=List.any_eq_true.mp z;have e:a=y:=by simpa using e
   subst e;rw[List.nodup_append]at h;exact h.2.2 a ha a List.mem_cons_self rfl
  rw[List.foldl_cons];have:step_dedup acc y=acc++[y]:=by unfold step_dedup;rw[if_neg hn]
  rw[this,rQ ys (acc++[y]) (by simpa using h)];simp
def lr(h:ys.Nodup):pZ ys=ys:=by have:=rQ ys [] (by simpa using h);simpa[pZ]using this
def gA:∀ys:List Str,xG (sT ys)=some ys|[]=>rfl|y::ys=>by show(xG (sT ys)).map _=_;rw[gA ys];rfl
def xj(ys:List Str):(sT ys).length=ys.length:=by simp[sT]
def gW:∀(ts:List T),(∀t∈ts,∃b,me (some ↑P::caps)=.ok (b,.bl true))->xZ zK me caps ts=.ok (List.replicate ts.length (.bl true))|[],_=>rfl|t::ts,h=>by obtain⟨b,hb⟩:=h t List.mem_cons_self;rw[xZ];simp only[zK];rw[hb];dsimp only;rw[gW ts λu hu=>h u ↑z];rfl
def bp:∀n:Nat,allB (List.replicate n (.bl true))=some (List.replicate n true)|0=>rfl|n+1=>by rw[List.replicate_succ];show(L3.allB (List.replicate n (.bl true))).map _=_;rw[bp n];rfl
def nC(n:Nat):uU [.lst (List.replicate n (.bl true))]=some ↑h:=by show(L3.allB _).map _=_;rw[bp];simp
def rR(t:T)(ts:List T):Prop:=t=.lst ts\/t=.tup ts
def bq(h:rR t ts):qy t=some ts:=by rcases h with rfl|rfl<;>rfl
def dn(f:MF)(env:En)(b:Bool)(t:T)(ys:List Str)(hr:rR t (sT ys))(h0:env[0]?=some (some (b,t)))(hf:∀y∈ys,f [↑I]=.ok ↑h)(hl:ys.length<900)(hn:ys.Nodup):jP (zl uU (z3 (zW (jF ↑m) zK (z9 f (z3 ↑m z5)) []) z5)) (m2 zG (uX ↑m) ↑X) env=.ok ↑h:=by
 have hc:zW (jF ↑m) zK (z9 f (z3 ↑m z5)) [] env=.ok (true,.lst (List.replicate (sT ys).length (.bl true))):=by
  unfold zW jF;have hit:(mV 0 env).bind (λr=>Y9 (qy r.2))=.ok (sT ys):=by simp[mV,h0,bq hr]
  rw[hit,bind_ok,if_pos (by rw[xj];have:=big;omega),gW (sT ys) λu hu=>by obtain⟨y,hy,rfl⟩:=List.mem_map.mp hu;exact⟨false,by simp[z9,z3,z5,mV,hf y hy]⟩]
 have hs:af t=some ys.length:=by
  rcases hr with rfl|rfl;·show(xG (sT ys)).bind _=_;rw[gA];show(if ys.length+1<scanBound then some (pZ ys).length else none)=_;rw[if_pos (by unfold scanBound;omega),lr hn]
  ·show(xG (sT ys)).bind _=_;rw[gA];show(if ys.length+1<scanBound then some (pZ ys).length else none)=_;rw[if_pos (by unfold scanBound;omega),lr hn]
 have hle:jA [t]=some (false,.int ys.length):=by rcases hr with rfl|rfl<;>(show some (false,T.int ((sT ys).length:Int))=_;rw[xj])
 have ha:=nC (sT ys).length;simp[jP,zl,z3,z5,hc,ha,m2,uX,mV,h0,hs,hle,vW]
def kI(hE:m env=.ok r)(hH:zJ env=env):zt m env=.rt r:=by unfold zt jR;rw[hH,hE]
def nE(b:Bool)(t:T)(ys:List Str)(hr:rR t (sT ys))(hf:∀y∈ys,xp [↑I]=.ok ↑h)(hl:ys.length<900)(hn:ys.Nodup):xz [(b,t)]=.ok ↑h:=by
 have hb:fW [some (b,t)]=.rt ↑h:=by unfold fW;generalize xp=f at hf;have hE:=dn f [some (b,t)] b t ys hr rfl hf hl hn;cases b with|false=>exact kI hE rfl|true=>exact ve hE (by simp[zJ,zQ,jP,zl,z3,zW,jF,mV])
 exact zZ rfl hb
def nG(x n:Nat):∀y∈zI x n,xp [↑I]=.ok ↑h:=by
 intro y hy;obtain⟨k,_,rfl⟩:=List.mem_map.mp hy;have hl:(nm x k).length<=12:=by rw[<-jt,wo];exact(vf x k).2
 rw[uE (nm x k) (by have:=big;omega) ↑a,wo,bh]
def rS(x n:Nat)(h:n<=26):(zI x n).Nodup:=by
 unfold zI;rw[List.Nodup,List.pairwise_map];refine List.Pairwise.imp_of_mem ?_ (List.nodup_range' (step:=1));intro a b ha hb hab e;have ha':a<26:=by have:=List.mem_range'_1.mp ha;omega
 have hb':b<26:=by have:=List.mem_range'_1.mp hb;omega
 refine hab (Jz (x:=x) ha' hb' ?_);rw[<-wo,<-wo,e]
end Law
namespace Law
open PySem L2 L3
def pC(P:List (Str×Str×List T)):List T:=P.map λp=>.tup (.str p.1::.str p.2.1::p.2.2)
def C8(y kd:Str)(r:List T):zk (.tup (.str y::.str kd::r)) (.int 0)=some ↑I:=by have:=jh (.str y::.str kd::r) 0;exact this
def C9(y kd:Str)(r:List T):zk (.tup (.str y::.str kd::r)) (.int 1)=some ↑aN:=by have:=jh (.str y::.str kd::r) 1;exact this
def YM:∀(ts:List T),(∀t∈ts,∃b,me (some ↑P::caps)=.ok (b,g t))->xZ zK me caps ts=.ok (ts.map g)|[],_=>rfl|t::ts,h=>by obtain⟨b,hb⟩:=h t List.mem_cons_self;rw[xZ];simp only[zK];rw[hb];dsimp only;rw[YM ts λu hu=>h u ↑z];rfl
def MV:T->T|.tup (y::_)=>y|t=>t
def P1(P:List (Str×Str×List T)):(pC P).map MV=sT (P.map (·.1)):=by unfold pC sT;rw[List.map_map,List.map_map];rfl
def dq(c:CA)(m:Addr)(ks:List Str)(x:Str)(hx:x∈ks)(h:m_is_kind [(false,.str x)]=.ok ↑h):jj c [(false,.mem m (c.memo ks m)),(false,.str x)]=.ok ↑h:=by unfold jj cQ;dsimp only;rw[if_pos ⟨ks,rfl,hx⟩,h]
def dr(f g:MF)(env:En)(b:Bool)(M t:T)(P:List (Str×Str×List T))(hr:rR t (pC P))(hM:env[0]?=some (some (false,M)))(h0:env[1]?=some (some (b,t)))(hf:f [(true,.lst (sT (P.map (·.1))))]=.ok ↑h)(hg:∀p∈P,g [(false,M),(false,.str p.2.1)]=.ok ↑h)(hl:P.length<900):jP (z9 f (z3 (zW (jF (mV 1)) zK (m2 zk ↑m ↑l) []) z5)) (zl uU (z3 (zW (jF (mV 1)) zK (z9 g (z3 (mV 1) (z3 ↑ai z5))) [0]) z5)) env=.ok ↑h:=by
 have hlen:(pC P).length=P.length:=by simp[pC]
 have hit:jF (mV 1) env=.ok (pC P):=by unfold jF;simp[mV,h0,bq hr]
 have c1:zW (jF (mV 1)) zK (m2 zk ↑m ↑l) [] env=.ok (true,.lst (sT (P.map (·.1)))):=by unfold zW;rw[hit,bind_ok,if_pos (by rw[hlen];have:=big;omega),YM (g:=MV) (pC P) λu hu=>by obtain⟨p,hp,rfl⟩:=List.mem_map.mp hu;exact⟨false,by simp[m2,mV,mC,C8,MV]⟩,P1]
 have c2:zW (jF (mV 1)) zK (z9 g (z3 (mV 1) (z3 ↑ai z5))) [0] env=.ok (true,.lst (List.replicate (pC P).length (.bl true))):=by unfold zW;rw[hit,bind_ok,if_pos (by rw[hlen];have:=big;omega),gW (pC P) λu hu=>by obtain⟨p,hp,rfl⟩:=List.mem_map.mp hu;exact⟨false,by simp[z9,z3,z5,m2,mV,mC,kU,hM,C9,hg p hp]⟩]
 have ha:=nC (pC P).length;simp[jP,z9,zl,z3,z5,c1,c2,hf,ha]
def aN(c:CA)(M t:T)(P:List (Str×Str×List T))(hr:rR t (pC P))(hf:xz [(true,.lst (sT (P.map (·.1))))]=.ok ↑h)(hg:∀p∈P,jj c [(false,M),(false,.str p.2.1)]=.ok ↑h)(hl:P.length<900):xb c [(false,M),↑P]=.ok ↑h:=by
 have hb:fX c [some (false,M),some ↑P]=.rt ↑h:=by unfold fX;generalize xz=f at hf;generalize jj c=g at hg;exact kI (dr f g [some (false,M),some ↑P] false M t P hr rfl rfl hf hg hl) rfl
 exact zZ rfl hb
def P7(h:List.replicate a 113++s::List.replicate b 113=c::d::r)(hc:c≠113)(hd:d≠113):False:=by cases a with
 |zero=>simp at h;cases b with|zero=>simp at h|succ b=>rw[List.replicate_succ]at h;have:=h.2;injection this with e1 e2;exact hd e1.symm
 |succ a=>rw[List.replicate_succ,List.cons_append]at h;injection h with e1 e2;exact hc e1.symm
def YN(x k n:Nat)(made:Bool)(hc:c≠113)(hd:d≠113)(h1:c≠35)(h2:c≠40)(h3:¬46∈c::d::r):kg (pQ x k) n made≠c::d::r:=by
 intro h;unfold kg at h;split at h;·exact P7 h hc hd
 ·split at h;·injection h with e _;exact h1 e.symm
  ·injection h with e _;exact h2 e.symm
  ·rw[<-h]at h3;exact h3 ↑T
def rV(x k n:Nat)(made:Bool):Fs.isKind (kg (pQ x k) n made)=true:=by
 have hl:=qU x k;have hn:=vf x k;unfold kg;split;·exact Fs.isKind_name hl hn.1 hn.2
 ·split;·exact Fs.isKind_hash hl hn.1 hn.2
  ·exact Fs.isKind_and hl hn.1 hn.2
  ·exact Fs.isKind_dot hl hn.1 hn.2
def dt(x k n:Nat):kg (pQ x k) n true=pQ x k:=by unfold kg;rw[if_pos (.inl rfl)]
def YO(x k n:Nat)(made:Bool):(kg (pQ x k) n made).length<=30:=by
 have hn:=vf x k;unfold kg;split;·omega
 ·split<;>simp<;>omega
def MW(z a b:Str):fw (.str z) (.tup [.str a,.str b])=some (false,.bl (decide (a=z)||decide (b=z))):=by
 have e:∀x y:Str,fk 40 (.str x) (.str y)=some (decide (x=y)):=λx y=>by simp[fk,ZS];exact Bool.eq_iff_iff.mpr ↑T
 show Option.map _ (vz (.str z) [.str a,.str b])=_;simp[vz,e]
def Wh(f g:MF)(M:T)(z:Str)(made:Bool)(h1:("num":Str)≠z)(h2:("word":Str)≠z)(hk:g [(false,M),↑j]=.ok ↑h)(nb:Bool)(hn:f [↑j]=.ok (false,.bl nb))(ho:nb=true\/made=false):(zc (jN (w9 (zX (m2 fw (mV 1) (mC (.tup (List.map T.str ["num","word"]))))) (xk (km (z9 g (z3 ↑m ↑V))))) ↑ap zq) (zt (iU (z9 f ↑V) (f8 (mV 2))))) [some (false,M),some ↑j,some ↑Y]=.rt ↑h:=by
 have hi:=MW z "num" "word";rw[decide_eq_false h1,decide_eq_false h2]at hi;have hi':fw (.str z) (.tup [.str "num",.str "word"])=some ↑aA:=hi;refine(zb (zS (xh (pP (vT (v2 rfl rfl hi')) (rn (vF ↑aR hk)))))).trans (j9 ?_);rw[Dw (vF ↑q hn) (Dx rfl)];rcases ho with rfl|rfl;·rfl
 ·cases nb<;>rfl
def P9(c:CA)(m:Addr)(ks:List Str)(x k n:Nat)(made:Bool)(hx:(⟨(kg (pQ x k) n made).toArray⟩:Str)∈ks):jq c [(false,.mem m (c.memo ks m)),(false,.str ⟨(kg (pQ x k) n made).toArray⟩),↑Y]=.ok ↑h:=by
 have hlen:=YO x k n made;have hk:=rV x k n made;have hcps:(⟨(kg (pQ x k) n made).toArray⟩:Str).cps.toList=kg (pQ x k) n made:=by simp
 have hzl:(⟨(kg (pQ x k) n made).toArray⟩:Str).length<=30:=by rw[<-jt,hcps];exact hlen
 have c1:("num":Str).cps.toList=[110,117,109]:=by decide+kernel
 have c2:("word":Str).cps.toList=[119,111,114,100]:=by decide+kernel
 have n1:("num":Str)≠⟨(kg (pQ x k) n made).toArray⟩:=λe=>YN x k n made (c:=110) (d:=117) (r:=[109]) ↑v ↑v ↑v ↑v ↑v (by rw[<-hcps,<-e,c1]);have n2:("word":Str)≠⟨(kg (pQ x k) n made).toArray⟩:=λe=>YN x k n made (c:=119) (d:=111) (r:=[114,100]) ↑v ↑v ↑v ↑v ↑v (by rw[<-hcps,<-e,c2]);have k1:=d9 ⟨(kg (pQ x k) n made).toArray⟩ (by have:=big;omega) ↑a;have k2:=uE ⟨(kg (pQ x k) n made).toArray⟩ (by have:=big;omega) ↑a;rw[hcps]at k1 k2;rw[hk]at k1;have ho:Fs.isName (kg (pQ x k) n made)=true\/made=false:=by cases made with|false=>exact .inr rfl|true=>left;rw[dt];exact bh x k
 exact zZ rfl (Wh xp (jj c) _ _ made n1 n2 (dq c m ks _ hx k1) _ k2 ho)
def MX(made due sure:Bool)(h:if made=true then due=true\/sure=false else due=false):wk [↑Y,(false,.bl due),(false,.bl sure)]=.ok ↑h:=by cases made<;>cases due<;>cases sure<;>simp at h<;>simp[wk,zR,qB,fY,zc,jN,xl,zJ,zQ,km,mV,Vp,zt,jR,iU,f8,zq,Yg]
def D7(made:Bool)(x:Nat):if made=true then lR made x=true\/ll made x=false else lR made x=false:=by unfold ll lR;cases made<;>simp;omega
def Pa(made:Bool)(xs:List Nat)(ns ks:List Str)(k n:Nat):List (Str×Str×List T):=(List.range' k n).map λ(i:Nat)=>(ns.getD i "",nz ks (xs.getD i 0),[.bl (lR made (xs.getD i 0)),.bl (ll made (xs.getD i 0))])
def rW(made:Bool)(xs:List Nat)(ns ks:List Str)(k n:Nat):vY made xs ns ks k n=pC (Pa made xs ns ks k n):=by unfold vY pC Pa;rw[List.map_map];rfl
def Pb(xs:List Nat)(ns ks:List Str)(n:Nat):List (Str×Str×List T):=(List.range' 0 n).map λ(i:Nat)=>(ns.getD i "",nz ks (xs.getD (4+i) 0),[])
def bt(xs:List Nat)(ns ks:List Str)(n:Nat):vZ xs ns ks n=pC (Pb xs ns ks n):=by unfold vZ pC Pb;rw[List.map_map];rfl
def Pc(xs:List Nat)(ns ks:List Str)(n:Nat):List (Str×Str×List T):=(List.range' 0 n).map λ(i:Nat)=>(ns.getD i "",nz ks (xs.getD (4+i) 0),[.bl (lq (xs.getD (4+i) 0))])
def dv(xs:List Nat)(ns ks:List Str)(n:Nat):w6 xs ns ks n=pC (Pc xs ns ks n):=by unfold w6 pC Pc;rw[List.map_map];rfl
def dw(ns:List Str):(List.range' 0 ns.length).map (λi=>ns.getD i "")=ns:=by
 apply List.ext_getElem;·simp
 ·intro i h1 h2;simp at h1⊢;simp[h1]
def KD(fT fP fM:MF)(M:T)(z:Str)(made:Bool)(P:List (Str×Str×List T))(hT:fT [(false,M),↑j,↑Y]=.ok ↑h)(hP:fP [(false,M),(false,.tup (pC P))]=.ok ↑h)(hl:P.length<900)(hM:∀p∈P,∃d s,p.2.2=[.bl d,.bl s]/\fM [↑Y,(false,.bl d),(false,.bl s)]=.ok ↑h):(zc (jN (w9 (xk (km (z9 fT (z3 ↑m (z3 (mV 1) ↑az))))) (xk (km (z9 fP (z3 ↑m (z3 (mV 3) z5)))))) ↑ap zq) (zt (zl uU (z3 (zW (jF (mV 3)) zK (z9 fM (z3 (mV 1) (z3 ↑ag (z3 ↑af z5)))) [2]) z5)))) [some (false,M),some ↑j,some ↑Y,some (false,.tup (pC P))]=.rt ↑h:=by
 have hlen:(pC P).length=P.length:=by simp[pC]
 have c2:zW (jF (mV 3)) zK (z9 fM (z3 (mV 1) (z3 ↑ag (z3 ↑af z5)))) [2] [some (false,M),some ↑j,some ↑Y,some (false,.tup (pC P))]=.ok (true,.lst (List.replicate (pC P).length (.bl true))):=by unfold zW;have hit:jF (mV 3) [some (false,M),some ↑j,some ↑Y,some (false,.tup (pC P))]=.ok (pC P):=rfl;rw[hit,bind_ok,if_pos (by rw[hlen];have:=big;omega),gW (pC P) λu hu=>by
   obtain⟨p,hp,rfl⟩:=List.mem_map.mp hu;obtain⟨d,s,e,hm⟩:=hM p hp;refine⟨false,?_⟩;have i2:zk (.tup (.str p.1::.str p.2.1::p.2.2)) (.int 2)=some (false,.bl d):=by rw[e];exact jh [.str p.1,.str p.2.1,.bl d,.bl s] 2
   have i3:zk (.tup (.str p.1::.str p.2.1::p.2.2)) (.int 3)=some (false,.bl s):=by rw[e];exact jh [.str p.1,.str p.2.1,.bl d,.bl s] 3
   exact vF (vC rfl (vC (v2 rfl rfl i2) (vC (v2 rfl rfl i3) rfl))) hm]
 have ha:=nC (pC P).length;rw[zb (e':=[some (false,M),some ↑j,some ↑Y,some (false,.tup (pC P))]) (zS (xh (pP (rn (vF (vC rfl ↑aR) hT)) (rn (vF ↑aR hP)))))];exact kI (vK (vC c2 rfl) ha) rfl
def KF(fT fP:MF)(M:T)(z:Str)(made:Bool)(p:T)(hT:fT [(false,M),↑j,↑Y]=.ok ↑h)(hP:fP [(false,M),(false,p)]=.ok ↑h):zt (jP (z9 fT (z3 ↑m (z3 (mV 1) ↑az))) (z9 fP (z3 ↑m (z3 (mV 3) z5)))) [some (false,M),some ↑j,some ↑Y,some (false,p)]=.rt ↑h:=by exact j9 (av (vF (vC rfl ↑aR) hT) (vF ↑aR hP))
def KG(fN fK fP fA:MF)(M:T)(z kd:Str)(pl:Int)(ps fs:List T)(hN:fN [↑j]=.ok ↑h)(hK:fK [(false,M),↑aN]=.ok ↑h)(h0:0<=pl)(h1:pl<=ps.length)(hP:fP [(false,M),(false,.tup ps)]=.ok ↑h)(hA:fA [(false,.tup fs)]=.ok ↑h):(zc (jN (w9 (xk (km (z9 fN ↑V))) (xk (km (z9 fK (z3 ↑m (z3 (mV 4) z5)))))) ↑ap zq) (zc (jN (w9 (zX (m2 gm (mV 2) ↑l)) (zX (m2 om (mV 2) (zl jA (z3 (mV 3) z5))))) ↑ap zq) (zt (jP (z9 fP (z3 ↑m (z3 (mV 3) z5))) (z9 fA (z3 (mV 5) z5)))))) [some (false,M),some ↑j,some (false,.int pl),some (false,.tup ps),some ↑aN,some (false,.tup fs)]=.rt ↑h:=by
 have a0:¬pl<0:=by omega
 have a1:¬((ps.length:Int)<pl):=by omega
 rw[zb (e':=[some (false,M),some ↑j,some (false,.int pl),some (false,.tup ps),some ↑aN,some (false,.tup fs)]) (zS (xh (pP (rn (vF ↑q hN)) (rn (vF ↑aR hK)))))];rw[zb (e':=[some (false,M),some ↑j,some (false,.int pl),some (false,.tup ps),some ↑aN,some (false,.tup fs)]) (zS (xh (pP (vT (v2 rfl rfl (Mw (decide_eq_false a0)))) (vT (v2 rfl (vK ↑q rfl) (Kq (decide_eq_false a1)))))))];exact j9 (av (vF ↑aR hP) (vF ↑q hA))
def KH(ks:List Str):Prop:=0<ks.length/\∀kd∈ks,m_is_kind [↑aN]=.ok ↑h
def KI{ks:List Str}(h:KH ks)(x:Nat):m_is_kind [(false,.str (nz ks x))]=.ok ↑h:=h.2 _ (List.mem_of_getElem? (aK ks x h.1))
def bu(c:CA)(m:Addr)(mk:List Str)(x k n:Nat)(made:Bool)(hx:fj (nm x k) n made∈mk):jq c [(false,.mem m (c.memo mk m)),(false,.str (fj (nm x k) n made)),↑Y]=.ok ↑h:=by unfold fj at hx⊢;rw[wo]at hx⊢;exact P9 c m mk x k n made hx
def rX(made:Bool)(xs:List Nat)(y n:Nat)(ks:List Str):(Pa made xs (zI y n) ks 0 n).map (·.1)=zI y n:=by unfold Pa;rw[List.map_map];have:=dw (zI y n);rw[wP]at this;exact this
def rY(xs:List Nat)(y n:Nat)(ks:List Str):(Pb xs (zI y n) ks n).map (·.1)=zI y n:=by unfold Pb;rw[List.map_map];have:=dw (zI y n);rw[wP]at this;exact this
def rZ(xs:List Nat)(y n:Nat)(ks:List Str):(Pc xs (zI y n) ks n).map (·.1)=zI y n:=by unfold Pc;rw[List.map_map];have:=dw (zI y n);rw[wP]at this;exact this
def KJ:¬("choice":Str)="record":=by decide+kernel
def KK:¬("function":Str)="record":=by decide+kernel
def KL:¬("function":Str)="choice":=by decide+kernel
def Wi(fR fC fF:MF)(M:T)(w wr wc:Str)(a b p:T)(ts:List T)(hw:w=wr)(h:fR [(false,M),(false,a),(false,b),(false,p)]=.ok ↑h):↑K [some (false,M),some (false,.tup (.str w::a::b::p::ts))]=.rt ↑h:=by have i0:zk (.tup (.str w::a::b::p::ts)) (.int 0)=some ↑S:=jh _ 0;have i1:zk (.tup (.str w::a::b::p::ts)) (.int 1)=some (false,a):=jh _ 1;have i2:zk (.tup (.str w::a::b::p::ts)) (.int 2)=some (false,b):=jh _ 2;have i3:zk (.tup (.str w::a::b::p::ts)) (.int 3)=some (false,p):=jh _ 3;apply gb;subst hw;exact(kY (xh (wt rfl i0 (decide_eq_true rfl)))).trans (j9 (vF (vC rfl (vC (v2 rfl rfl i1) (vC (v2 rfl rfl i2) (vC (v2 rfl rfl i3) rfl)))) h))
def Wj(fR fC fF:MF)(M:T)(w wr wc:Str)(a b s p:T)(ts:List T)(hw:¬w=wr)(hc:w=wc)(h:fC [(false,M),(false,a),(false,b),(false,p)]=.ok ↑h):↑K [some (false,M),some (false,.tup (.str w::a::b::s::p::ts))]=.rt ↑h:=by have i0:zk (.tup (.str w::a::b::s::p::ts)) (.int 0)=some ↑S:=jh _ 0;have i1:zk (.tup (.str w::a::b::s::p::ts)) (.int 1)=some (false,a):=jh _ 1;have i2:zk (.tup (.str w::a::b::s::p::ts)) (.int 2)=some (false,b):=jh _ 2;have i4:zk (.tup (.str w::a::b::s::p::ts)) (.int 4)=some (false,p):=jh _ 4;rw[zb (e':=[some (false,M),some (false,.tup (.str w::a::b::s::p::ts))]) (zS (xh (wt rfl i0 (decide_eq_false hw))))];apply gb;subst hc;exact(kY (xh (wt rfl i0 (decide_eq_true rfl)))).trans (j9 (vF (vC rfl (vC (v2 rfl rfl i1) (vC (v2 rfl rfl i2) (vC (v2 rfl rfl i4) rfl)))) h))
def Wk(fR fC fF:MF)(M:T)(w wr wc:Str)(a b p k f:T)(ts:List T)(hw:¬w=wr)(hc:¬w=wc)(h:fF [(false,M),(false,a),(false,b),(false,p),(false,k),(false,f)]=.ok ↑h):↑K [some (false,M),some (false,.tup ↑aZ)]=.rt ↑h:=by have i0:zk (.tup ↑aZ) (.int 0)=some ↑S:=jh _ 0;have i1:zk (.tup ↑aZ) (.int 1)=some (false,a):=jh _ 1;have i2:zk (.tup ↑aZ) (.int 2)=some (false,b):=jh _ 2;have i3:zk (.tup ↑aZ) (.int 3)=some (false,p):=jh _ 3;have i4:zk (.tup ↑aZ) (.int 4)=some (false,k):=jh _ 4;have i5:zk (.tup ↑aZ) (.int 5)=some (false,f):=jh _ 5;rw[zb (e':=[some (false,M),some (false,.tup ↑aZ)]) (zS (xh (wt rfl i0 (decide_eq_false hw))))];rw[zb (e':=[some (false,M),some (false,.tup ↑aZ)]) (zS (xh (wt rfl i0 (decide_eq_false hc))))];exact j9 (vF (vC rfl (vC (v2 rfl rfl i1) (vC (v2 rfl rfl i2) (vC (v2 rfl rfl i3) (vC (v2 rfl rfl i4) (vC (v2 rfl rfl i5) rfl)))))) h)
def YQ:∀{ts:List T},T.tup us∈ts->x∈strsL us->x∈strsL ts
 |t::ts,h,hx=>by
  unfold strsL;rcases List.mem_cons.mp h with rfl|h;·exact List.mem_append_left _ (by unfold j5;exact hx)
  ·exact List.mem_append_right _ (YQ h hx)
def gX(x:Nat):List Str:=(["num","word","zz","#3","(num&word)","zz.ok"]:List Str)++zI x 4
def aO(z:Str)(hl:z.length<=100)(h:Fs.isKind z.cps.toList=true):m_is_kind [↑j]=.ok ↑h:=by rw[d9 z (by have:=big;omega) ↑a,h]
def Pd(x:Nat):KH (gX x):=by
 refine⟨by simp[gX],λkd hkd=>?_⟩;unfold gX at hkd;rcases List.mem_append.mp hkd with h|h;·simp only[List.mem_cons,List.not_mem_nil,or_false]at h;rcases h with rfl|rfl|rfl|rfl|rfl|rfl<;>exact aO _ ↑aa ↑aa
 ·obtain⟨k,_,rfl⟩:=List.mem_map.mp h;have hz:(nm x k).length<=12:=by rw[<-jt,wo];exact(vf x k).2
  refine aO _ ↑a ?_;rw[wo];exact Fs.isKind_name (qU x k) (vf x k).1 (vf x k).2
def KM(hl:ys.length<64)(hn:ys.Nodup):sortS (sT ys)=some (zA (sT ys)):=by
 unfold sortS;rw[if_pos];refine⟨by simpa[sT]using hl,.inl ?_,?_⟩;·rw[List.all_eq_true];intro t ht;obtain⟨p,_,rfl⟩:=List.mem_map.mp ht;rfl
 ·unfold sT;rw[List.map_map,List.Nodup,List.pairwise_map];refine List.Pairwise.imp ?_ hn;intro a b hab e;have e:[a.cps.toList]=[b.cps.toList]:=e;injection e with e1 _;exact hab (aG e1)
def qV(h:sortS ts=some us):xi [(b,.tup ts)]=.ok (false,.tup us):=by
 have hs:x9 [.tup ts]=some (true,.lst us):=by show(sortS ts).map _=_;rw[h];rfl
 have hb:uB [some (b,.tup ts)]=.rt (false,.tup us):=by
  unfold uB;have hE:zl jS (z3 (zl x9 (z3 ↑m z5)) z5) [some (b,.tup ts)]=.ok (false,.tup us):=by simp[zl,z3,z5,mV,hs,jS]
  cases b with|false=>exact kI hE rfl|true=>exact ve hE (by simp[zJ,zQ,zl,z3,mV])
 exact zZ rfl hb
def Hd(a b c:T)(r:List T):dR (.tup (a::b::c::r)) none (some 3)=some (false,.tup [a,b,c]):=by show some (false,T.tup (qw (a::b::c::r) none (some ((3:Nat):Int))))=_;rw[dj];rfl
def D8(a b c d:T)(r:List T):dR (.tup (a::b::c::d::r)) none (some 4)=some (false,.tup [a,b,c,d]):=by show some (false,T.tup (qw (a::b::c::d::r) none (some ((4:Nat):Int))))=_;rw[dj];rfl
def gY(f:MF)(wr wc:Str):MS:=(zc (jN (zX (m2 zG (m2 zk ↑m ↑l) (mC (.str wr)))) (zt (m2 zg (k5 ↑m zO (zx ↑k)) (jL (z3 (z9 f (z3 ↑af z5)) z5)))) zq) (zc (jN (zX (m2 zG (m2 zk ↑m ↑l) (mC (.str wc)))) (zt (m2 zg (k5 ↑m zO (zx ↑D)) (jL (z3 (z9 f (z3 (m2 zk ↑m ↑D) z5)) z5)))) zq) (zc (zn 1 ↑ag) (zc (zn 2 (m2 zg (k5 ↑af zO (zx (mV 1))) (z9 f (z3 (k5 ↑af (zx (mV 1)) zO) z5)))) (zt (m2 zg (k5 ↑m zO (zx ↑k)) (jL (z3 (mV 2) (z3 (m2 zk ↑m ↑D) (z3 (z9 f (z3 (m2 zk ↑m (mC (.int 5))) z5)) z5))))))))))
def gZ:gr=gY xi "record" "choice":=rfl
def Pe(f:MF)(w wc:Str)(a b p u:T)(h:f [(false,p)]=.ok (false,u)):gY f w wc [some (false,.tup [.str w,a,b,p]),none,none]=.rt (false,.tup [.str w,a,b,u]):=by
 have i0:zk (.tup [.str w,a,b,p]) (.int 0)=some ↑S:=jh _ 0;have i3:zk (.tup [.str w,a,b,p]) (.int 3)=some (false,p):=jh _ 3;have c3:=Hd (.str w) a b [p];have h1:1<=sizeLine:=by decide
 have ad:zg (.tup [.str w,a,b]) (.tup [u])=some (false,.tup [.str w,a,b,u]):=pI (ts:=[.str w,a,b]) (us:=[u]) (by have:=big;simp;omega);unfold gY;apply gb;exact(kY (xh (wt rfl i0 (decide_eq_true rfl)))).trans (j9 (v2 (vS rfl rfl rfl c3) (vP (vC (vF (vC (v2 rfl rfl i3) rfl) h) rfl) rfl rfl) ad))
def Pf(f:MF)(w wr:Str)(a b s p u:T)(hw:¬w=wr)(h:f [(false,p)]=.ok (false,u)):gY f wr w [some (false,.tup [.str w,a,b,s,p]),none,none]=.rt (false,.tup [.str w,a,b,s,u]):=by
 have i0:zk (.tup [.str w,a,b,s,p]) (.int 0)=some ↑S:=jh _ 0;have i4:zk (.tup [.str w,a,b,s,p]) (.int 4)=some (false,p):=jh _ 4;have c4:=D8 (.str w) a b s [p];have h1:1<=sizeLine:=by decide
 have ad:zg (.tup [.str w,a,b,s]) (.tup [u])=some (false,.tup [.str w,a,b,s,u]):=pI (ts:=[.str w,a,b,s]) (us:=[u]) (by have:=big;simp;omega);unfold gY;rw[zb (e':=[some (false,.tup [.str w,a,b,s,p]),none,none]) (zS (xh (wt rfl i0 (decide_eq_false hw))))];apply gb;exact(kY (xh (wt rfl i0 (decide_eq_true rfl)))).trans (j9 (v2 (vS rfl rfl rfl c4) (vP (vC (vF (vC (v2 rfl rfl i4) rfl) h) rfl) rfl rfl) ad))
def Pg(f:MF)(w wr wc:Str)(a k:T)(pl:Nat)(ps us fs vs:List T)(hw:¬w=wr)(hc:¬w=wc)(h1:f [(false,.tup (ps.drop pl))]=.ok (false,.tup us))(h2:f [(false,.tup fs)]=.ok (false,.tup vs))(hl:ps.length+us.length<1000):gY f wr wc [some ↑aI,none,none]=.rt (false,.tup [.str w,a,.int (pl:Int),.tup (ps.take pl++us),k,.tup vs]):=by
 have i0:zk ↑aY (.int 0)=some ↑S:=jh _ 0;have i2:zk ↑aY (.int 2)=some (false,.int pl):=jh _ 2;have i3:zk ↑aY (.int 3)=some (false,.tup ps):=jh _ 3;have i4:zk ↑aY (.int 4)=some (false,k):=jh _ 4;have i5:zk ↑aY (.int 5)=some (false,.tup fs):=jh _ 5;have c3:=Hd (.str w) a (.int (pl:Int)) [.tup ps,k,.tup fs];have ct:dR (.tup ps) none (some (pl:Int))=some (false,.tup (ps.take pl)):=by show some (false,T.tup (qw ps none (some (pl:Int))))=_;rw[dj]
 have cf:dR (.tup ps) (some (pl:Int)) none=some (false,.tup (ps.drop pl)):=by show some (false,T.tup (qw ps (some (pl:Int)) none))=_;rw[nB]
 have a1:zg (.tup (ps.take pl)) (.tup us)=some (false,.tup (ps.take pl++us)):=pI (by have:=big;have:=List.length_take_le pl ps;have:=List.length_take_le' pl ps;omega);generalize hq:ps.take pl++us=qs at a1;have a2:zg (.tup [.str w,a,.int (pl:Int)]) (.tup [.tup qs,k,.tup vs])=some (false,.tup [.str w,a,.int (pl:Int),.tup qs,k,.tup vs]):=pI (ts:=[.str w,a,.int (pl:Int)]) (us:=[.tup qs,k,.tup vs]) (by have:=big;simp;omega);have h3:3<=sizeLine:=by decide
 unfold gY;rw[zb (e':=[some ↑aI,none,none]) (zS (xh (wt rfl i0 (decide_eq_false hw))))];rw[zb (e':=[some ↑aI,none,none]) (zS (xh (wt rfl i0 (decide_eq_false hc))))];rw[zb (e':=[some ↑aI,some (false,.int pl),none]) (zw (v2 rfl rfl i2))];rw[zb (e':=[some ↑aI,some (false,.int pl),some (false,.tup qs)]) (zw (v2 (vS (v2 rfl rfl i3) rfl (vN rfl) ct) (vF (vC (vS (v2 rfl rfl i3) (vN rfl) rfl cf) rfl) h1) a1))];exact j9 (v2 (vS rfl rfl rfl c3) (vP (vC rfl (vC (v2 rfl rfl i4) (vC (vF (vC (v2 rfl rfl i5) rfl) h2) rfl))) rfl rfl) a2)
def Wl(t:T):Prop:=(∃x,t=.str x)\/(∃i,t=.int i)\/∃b,t=.bl b
def kZ:Nat->T->Prop|0,t=>Wl t|n+1,t=>Wl t\/∃ts,t=.tup ts/\∀u∈ts,kZ n u
def mI(h:Wl t):∀n,kZ n t|0=>h|_+1=>.inl h
def kJ(n:Nat)(x:Str):kZ n (.str x):=mI (.inl ⟨x,rfl⟩) n
def KN(n:Nat)(i:Int):kZ n (.int i):=mI (.inr (.inl ⟨i,rfl⟩)) n
def aP(n:Nat)(b:Bool):kZ n (.bl b):=mI (.inr (.inr ⟨b,rfl⟩)) n
def kK(h:∀u∈ts,kZ n u):kZ (n+1) (.tup ts):=.inr ⟨ts,rfl,h⟩
def YR(h:Wl t)(m:Nat):fk m t t=some true:=by rcases h with⟨x,rfl⟩|⟨i,rfl⟩|⟨b,rfl⟩<;>cases m<;>simp[fk,ZS]
def dy:∀{ts:List T},(∀u∈ts,f u u=some true)->ZT f ts ts=some true|[],_=>rfl|t::ts,h=>by rw[ZT,h t List.mem_cons_self];dsimp only;rw[dy λu hu=>h u ↑z];rfl
def YS:∀(n m:Nat)(t:T),kZ n t->n<=m->fk m t t=some true
 |0,m,t,h,_=>YR h m|n+1,m,t,h,hm=>by
  rcases h with h|⟨ts,rfl,h⟩;·exact YR h m
  ·obtain⟨m,rfl⟩:∃m',m=m'+1:=⟨m-1,by omega⟩;simp only[fk];rw[dy λu hu=>YS n m u (h u hu) ↑a];simp
def aQ:∀{ts:List T},(∀u∈ts,Zr u=true/\ZQ u=true/\ZR u=true)->noLs ts=true/\noDs ts=true/\noOs ts=true|[],_=>⟨rfl,rfl,rfl⟩|t::ts,h=>by have ih:=aQ λu hu=>h u ↑z;have hi:=h t List.mem_cons_self;simp[noLs,noDs,noOs,ih,hi]
def i8:∀(n:Nat)(t:T),kZ n t->Zr t=true/\ZQ t=true/\ZR t=true
 |0,t,h=>by rcases h with⟨x,rfl⟩|⟨i,rfl⟩|⟨b,rfl⟩<;>simp[Zr,ZQ,ZR]|n+1,t,h=>by
  rcases h with h|⟨ts,rfl,h⟩;·rcases h with⟨x,rfl⟩|⟨i,rfl⟩|⟨b,rfl⟩<;>simp[Zr,ZQ,ZR]
  ·have:=aQ λu hu=>i8 n u (h u hu);simpa[Zr,ZQ,ZR]using this
def gB(h:∀u∈ts,kZ n u):noLs ts=true/\noDs ts=true/\noOs ts=true:=aQ λu hu=>i8 n u (h u hu)
def Wm(h:∀u∈ts,kZ 1 u):kZ 3 (.tup [.str a,.str b,.bl m,.tup ts]):=by
 refine kK λu hu=>?_;simp only[List.mem_cons,List.not_mem_nil,or_false]at hu;rcases hu with rfl|rfl|rfl|rfl;·exact kJ _ _
 ·exact kJ _ _
 ·exact aP _ _
 ·exact kK h
def Wn(h:∀u∈ts,kZ 1 u):kZ 3 (.tup [.str a,.str b,.bl m,.bl s,.tup ts]):=by
 refine kK λu hu=>?_;simp only[List.mem_cons,List.not_mem_nil,or_false]at hu;rcases hu with rfl|rfl|rfl|rfl|rfl;·exact kJ _ _
 ·exact kJ _ _
 ·exact aP _ _
 ·exact aP _ _
 ·exact kK h
def KO(h:∀u∈ts,kZ 1 u)(g:∀u∈fs,kZ 1 u):kZ 3 (.tup [.str a,.str b,.int i,.tup ts,.str k,.tup fs]):=by
 refine kK λu hu=>?_;simp only[List.mem_cons,List.not_mem_nil,or_false]at hu;rcases hu with rfl|rfl|rfl|rfl|rfl|rfl;·exact kJ _ _
 ·exact kJ _ _
 ·exact KN _ _
 ·exact kK h
 ·exact kJ _ _
 ·exact kK g
def nH(b:Bool):Wl (.bl b):=.inr (.inr ⟨b,rfl⟩)
def Z0(h:sortS ts=some us):xS [(false,.tup [.str "record",.str z,.bl m,.tup ts])]=.ok (false,.tup [.str "record",.str z,.bl m,.tup us]):=by refine zZ (n:=3) (k:=1) (mb:=gr) rfl ?_;rw[gZ];exact Pe xi "record" "choice" _ _ _ _ (qV h)
def Z1(h:sortS ts=some us):xS [(false,.tup [.str "choice",.str z,.bl m,.bl s,.tup ts])]=.ok (false,.tup [.str "choice",.str z,.bl m,.bl s,.tup us]):=by refine zZ (n:=3) (k:=1) (mb:=gr) rfl ?_;rw[gZ];exact Pf xi "choice" "record" _ _ _ _ _ KJ (qV h)
def Z2{z k:Str}{pl:Nat}{ps fs us vs:List T}(h1:sortS (ps.drop pl)=some us)(h2:sortS fs=some vs)(hl:ps.length+us.length<1000):xS [(false,.tup [.str "function",.str z,.int (pl:Int),.tup ps,.str k,.tup fs])]=.ok (false,.tup [.str "function",.str z,.int (pl:Int),.tup (ps.take pl++us),.str k,.tup vs]):=by refine zZ (n:=3) (k:=1) (mb:=gr) rfl ?_;rw[gZ];exact Pg xi "function" "record" "choice" _ _ pl ps us fs vs KK KL (qV h1) (qV h2) hl
def D9:("record":Str)≠"function":=by decide+kernel
def Db:("choice":Str)≠"function":=by decide+kernel
def core(L:List Nat):List Nat:=(L.dropWhile λc=>decide (c<97)).takeWhile λc=>decide (97<=c)
def KP{l r:List Nat}(hl:∀c∈l,97<=c)(h0:0<l.length):(l++r).dropWhile (λc=>decide (c<97))=l++r:=by cases l with|nil=>simp at h0|cons c l=>
  have:¬c<97:=by have:=hl c List.mem_cons_self;omega
  rw[List.cons_append,List.dropWhile_cons,if_neg (by simpa using this)]
def dz{l r:List Nat}(hl:∀c∈l,97<=c)(h0:0<l.length)(hr:∀c,r.head?=some c->c<97):core (l++r)=l:=by unfold core;rw[KP hl h0];exact Fs.takeWhile_pre (λc hc=>by simpa using hl c hc) λc hc=>by simpa using hr c hc
def pJ(h:c<97):core (c::L)=core L:=by unfold core;rw[List.dropWhile_cons,if_pos (by simpa using h)]
def Z3(n:Nat)(m:Bool)(hl:∀c∈l,97<=c)(h0:0<l.length):core (kg l n m)=l:=by
 have hA:core l=l:=by have:=dz (r:=[]) hl h0 (λc h=>by simp at h);rwa[List.append_nil]at this
 unfold kg;split;·exact hA
 ·split;·show core (35::51::46::l)=l;rw[pJ ↑v,pJ ↑v,pJ ↑v,hA]
  ·show core (40::(l++[38,110,117,109,41]))=l;rw[pJ ↑v];exact dz hl h0 λc h=>by simp at h;omega
  ·rw[List.append_assoc];exact dz hl h0 λc h=>by simp at h;omega
def aR(x k:Nat):∀c∈pQ x k,97<=c:=λc hc=>(show∀c∈Fs.letters,97<=c by decide) c (qU x k c hc)
def Z4(hj:j<26)(hk:k<26)(h:fj (nm x j) n m=fj (nm x k) n' m'):j=k:=by
 unfold fj at h;have h:kg (pQ x j) n m=kg (pQ x k) n' m':=by have:=congrArg (λs:Str=>s.cps.toList) h;simpa[wo]using this
 have e:=congrArg core h;rw[Z3 n m (aR x j) (vf x j).1,Z3 n' m' (aR x k) (vf x k).1]at e;exact Jz hj hk e
def He(hj:j<26)(hk:k<26)(h:nm x j=nm x k):j=k:=by refine Jz (x:=x) hj hk ?_;rw[<-wo,<-wo,h]
def bv:∀(ks:List Key)(us:List T)(x:Key),x∉ks->nY ks us x=none|[],us,x,_=>by cases us<;>rfl|k::ks,[],x,_=>rfl|k::ks,u::us,x,h=>by have hk:¬k=x:=λe=>h (by rw[e];exact List.mem_cons_self);rw[nY,if_neg hk,bv ks us x λz=>h (List.mem_cons_of_mem _ z)]
def KQ(h:k∉ks):uQ ks us k t=.dct (ks++[k]) (us++[t]):=by unfold uQ;rw[if_neg];intro z;rw[List.any_eq_true]at z;obtain⟨y,hy,e⟩:=z;exact h ((of_decide_eq_true e)▸hy)
def HR(wf:Str):MT:=zX (m2 zG (m2 zk (mV 4) ↑l) (mC (.str wf)))
def HS(fP:MF):MT:=w9 (zX (m2 fw (m2 zk (mV 4) ↑c) (mV 5))) (xk (km (z9 fP (z3 (mV 2) (z3 (mV 4) z5)))))
def HU:ME:=m2 zk (mV 4) ↑c
def HV(fS:MF):ME:=z9 fS (z3 (mV 4) z5)
def Z5(M:T)(fP fS:MF)(wf w z:Str)(r ts:List T)(i:Nat)(d1 d2 v:T)(ks:List Key)(us:List T)(b:Bool)(hb:decide (w=wf)=b)(hd:(if b=true then d2 else d1)=.dct ks us)(hn:Sum.inr z∉ks)(hl:ks.length<sizeLine)(hP:fP [(false,M),(false,.tup (.str w::.str z::r))]=.ok ↑h)(hS:fS [(false,.tup (.str w::.str z::r))]=.ok (false,v)):ql M (HR wf) (HS fP) HU (HV fS) ts i (.tup (.str w::.str z::r)) (d1,d2)=.ok (if b=true then(d1,.dct (ks++[.inr z]) (us++[v]))else(.dct (ks++[.inr z]) (us++[v]),d2)):=by
 have i0:zk (.tup (.str w::.str z::r)) (.int 0)=some ↑S:=jh _ 0;have i1:zk (.tup (.str w::.str z::r)) (.int 1)=some ↑j:=jh _ 1;have hi:fw (.str z) (.dct ks us)=some ↑aA:=by show some (false,T.bl (nY ks us (Sum.inr z)).isSome)=_;rw[bv ks us _ hn];rfl
 have e1:∀d,HR wf (jG M ts i (.tup (.str w::.str z::r)) d)=.ok b:=λd=>by exact wt rfl i0 hb
 have e2:HS fP (jG M ts i (.tup (.str w::.str z::r)) (some (false,.dct ks us)))=.ok false:=by exact pP (vT (v2 (v2 rfl rfl i1) rfl hi)) (rn (vF ↑aR hP))
 have e3:HU (jG M ts i (.tup (.str w::.str z::r)) none)=.ok ↑j:=by exact v2 rfl rfl i1
 have e4:HV fS (jG M ts i (.tup (.str w::.str z::r)) none)=.ok (false,v):=by exact vF ↑q hS
 unfold ql;rw[e1,bind_ok];dsimp only;rw[hd,e2];dsimp only;rw[e4,bind_ok,e3,bind_ok];show(if ks.length<sizeLine then _ else _)=_;rw[if_pos hl,KQ hn]
def Ph{ts us:List T}(h:ts.length+us.length<=sizeLine):zg (.lst ts) (.lst us)=some (true,.lst (ts++us)):=by show(if ts.length+us.length<=sizeLine then some (true,T.lst (ts++us))else none)=_;rw[if_pos h]
def dA(ys zs:List Str):sT (ys++zs)=sT ys++sT zs:=by unfold sT;rw[List.map_append]
def bw(n:Nat):gn 1 n=(List.range' 1 n).map λ(i:Nat)=>T.int (i:Int):=by unfold gn;rw[List.range_eq_range',show(List.range' 1 n)=(List.range' 0 n).map (1+·)by rw[List.map_add_range']];rw[List.map_map];apply List.map_congr_left;intro i _;simp
def Z6{m:MA}{env:En}{n:Nat}{b b':Bool}(h:m env=.ok [(b,.int 1),(b',.int (n:Int))])(hj:(n:Int)<2^62):fB m env=.ok (gn 1 (n-1)):=by
 unfold fB;rw[h,bind_ok];show(if(-(2^62)<=(1:Int)/\(1:Int)<2^62)/\-(2^62)<=(n:Int)/\(n:Int)<2^62 then _ else _)=_;rw[if_pos ⟨⟨by decide,by decide⟩,by omega,hj⟩];have:((n:Int)-1).toNat=n-1:=by omega
 rw[this]
def Z7{m:MA}{me:ME}{env:En}{slots:List Nat}{n:Nat}{b b':Bool}{g:Nat->T}(h:m env=.ok [(b,.int 1),(b',.int (n:Int))])(hj:n<900)(hg:∀i,1<=i->i<1+(n-1)->∃b,me (some (false,.int (i:Int))::kU env slots)=.ok (b,g i)):zW (fB m) zK me slots env=.ok (true,.lst ((List.range' 1 (n-1)).map g)):=by
 unfold zW;have hl:(gn 1 (n-1)).length<=sizeLine:=by have:=big;simp[gn];omega
 rw[Z6 h ↑a,bind_ok,if_pos hl,bw,mG (n-1) 1 hg]
def Wo{m:MA}{me:ME}{env:En}{slots:List Nat}{n:Nat}{b b':Bool}(h:m env=.ok [(b,.int 1),(b',.int (n:Int))])(hj:n<900)(h0:0<n-1)(hg:me (some (false,.int ((1:Nat):Int))::kU env slots)=.bad):zW (fB m) zK me slots env=.bad:=by
 unfold zW;have hl:(gn 1 (n-1)).length<=sizeLine:=by have:=big;simp[gn];omega
 rw[Z6 h ↑a,bind_ok,if_pos hl,bw];obtain⟨n',e⟩:∃n',n-1=n'+1:=⟨n-1-1,by omega⟩;rw[e,List.range'_succ,List.map_cons,bn hg]
def Hf:ME:=m2 zg (jo (z3 (mC (.str "num")) (z3 (mC (.str "word")) (z3 (mC (.str "zz")) (z3 (mC (.str "#3")) (z3 (mC (.str "(num&word)")) (z3 (mC (.str "zz.ok")) z5))))))) (k5 (mV 1) zO (zx ↑D))
def HW:List Str:=["num","word","zz","#3","(num&word)","zz.ok"]
def MY(x:Nat):zg (.lst (sT HW)) (.lst (sT (zI x 4)))=some (true,.lst (sT (gX x))):=by have:sT (gX x)=sT HW++sT (zI x 4):=dA HW (zI x 4);rw[this];exact Ph (by have:=big;rw[xj,xj,wP];simp[HW];omega)
def HX(f:MF):ME:=z9 f (z3 (m2 zk (mV 2) ↑m) (z3 (m2 zk (mV 3) ↑m) ↑V))
def Hg(f:MF)(ks ts:List T)(L:List T)(i:Int)(a b c:Bool)(t:Str)(cell:Int)(v:T)(d:Bool)(h1:zk (.lst ts) (.int i)=some (false,.str t))(h2:zk (.lst L) (.int i)=some (false,.int cell))(h3:f [(false,.str t),(false,.int cell),(false,.lst ks)]=.ok (d,v)):HX f [some (false,.int i),some (a,.lst ks),some (b,.lst ts),some (c,.lst L)]=.ok (d,v):=by simp[HX,z9,z3,z5,m2,mV,h1,h2,h3]
def MZ:MA:=z3 ↑c (z3 (zl Gm (z3 ↑X (z3 (mC (.int 13)) z5))) z5)
def KR(L:List T)(b:Bool)(r:List (Option RV)):MZ (some (b,.lst L)::r)=.ok [(false,.int 1),(false,.int ((min L.length 13:Nat):Int))]:=by
 have e:(if(13:Int)<(L.length:Int)then(13:Int)else(L.length:Int))=((min L.length 13:Nat):Int):=by split<;>omega
 simp[MZ,z3,z5,mC,zl,mV,jA,Gm];simpa using e
def Dy(x:Nat)(ns:List Int)(ks:List Str)(n:Nat):List T:=(List.range' 1 (n-1)).map λi=>dl (nm x i) (ns.getD i 0) ks
def bx(h:l9 a b=true)(g:l9 b a=true):False:=by unfold l9 at h g;exact List.lt_asymm (of_decide_eq_true h) (of_decide_eq_true g)
def dB(h:l9 a a=true):False:=bx h h
def mJ:∀{l m:List T},l.Pairwise (λa b=>l9 a b=true)->m.Pairwise (λa b=>l9 a b=true)->(∀x,x∈l↔x∈m)->l=m
 |[],[],_,_,_=>rfl|[],b::m,_,_,h=>absurd ((h b).mpr List.mem_cons_self) ↑T|a::l,[],_,_,h=>absurd ((h a).mp List.mem_cons_self) ↑T|a::l,b::m,h1,h2,h=>by
  obtain⟨a1,a2⟩:=List.pairwise_cons.mp h1;obtain⟨b1,b2⟩:=List.pairwise_cons.mp h2;have hab:a=b:=by
   rcases List.mem_cons.mp ((h a).mp List.mem_cons_self)with z|z;·exact z
   ·rcases List.mem_cons.mp ((h b).mpr List.mem_cons_self)with y|y;·exact y.symm
    ·exact(bx (a1 b y) (b1 a z)).elim
  subst hab;rw[mJ a2 b2 λx=>?_];constructor
  ·intro hx;rcases List.mem_cons.mp ((h x).mp ↑av)with z|z;·subst z;exact(dB (a1 x hx)).elim
   ·exact z
  ·intro hx;rcases List.mem_cons.mp ((h x).mpr ↑av)with z|z;·subst z;exact(dB (b1 x hx)).elim
   ·exact z
def qm:x∈zA l↔x∈l:=(zU l).mem_iff
def mK(h1:(l.map jM).Nodup)(h2:(m.map jM).Nodup)(h:∀x,x∈l↔x∈m):zA l=zA m:=mJ (xQ h1) (xQ h2) λx=>by rw[qm,qm];exact h x
def lu:∀{l:List β}{xs:List α},l.Perm (xs.map f)->∃ys:List α,ys.Perm xs/\ys.map f=l
 |[],xs,h=>by have:=h.nil_eq;cases xs with|nil=>exact⟨[],.refl _,rfl⟩|cons a r=>cases this
 |b::l,xs,h=>by
  obtain⟨x,hx,rfl⟩:=List.mem_map.mp (h.mem_iff.mp List.mem_cons_self);obtain⟨s,t,rfl⟩:=List.append_of_mem hx;have h2:l.Perm ((s++t).map f):=by refine List.Perm.cons_inv (h.trans ?_);rw[List.map_append,List.map_cons,List.map_append];exact List.perm_middle
  obtain⟨ys,p,rfl⟩:=lu h2;exact⟨x::ys,(p.cons x).trans List.perm_middle.symm,rfl⟩
inductive D where|rc(z:Str)(m:Bool)(ps:List T)|ch(z:Str)(m s:Bool)(ps:List T)|fn(z:Str)(qs ps:List T)(kd:Str)(fs:List T)
namespace D
def t:D->T|rc z m ps=>.tup [.str "record",.str z,.bl m,.tup ps]|ch z m s ps=>.tup [.str "choice",.str z,.bl m,.bl s,.tup ps]|fn z qs ps kd fs=>.tup [.str "function",.str z,.int (qs.length:Nat),.tup (qs++ps),.str kd,.tup fs]
def w:D->Str|rc ..=>"record"|ch ..=>"choice"|fn ..=>"function"
def z:D->Str|rc z ..=>z|ch z ..=>z|fn z ..=>z
def isF:D->Bool|fn ..=>true|_=>false
def on(f:List T->List T):D->D|rc z m ps=>rc z m (f ps)|ch z m s ps=>ch z m s (f ps)|fn z qs ps kd fs=>fn z qs (f ps) kd (f fs)
def st:D->D:=on zA
def tr:D->D:=on List.reverse
end D
def Nm(y:Str):Prop:=xp [↑I]=.ok ↑h
def Kd(y:Str):Prop:=m_is_kind [↑I]=.ok ↑h
def HY(z:Str)(m:Bool):Prop:=∀(c:CA)(ma:Addr)(mk:List Str),z∈mk->jq c [(false,.mem ma (c.memo mk ma)),↑j,(false,.bl m)]=.ok ↑h
def k6:T->Str|.tup (.str y::_)=>y|.str y=>y|_=>""
def vn(R:List T->Prop)(t:T):Prop:=∃y kd r,t=.tup (.str y::.str kd::r)/\Nm y/\Kd kd/\R r
def fq(Q:T->Prop)(ts:List T):Prop:=ts.length<=12/\(ts.map k6).Nodup/\∀t∈ts,Q t
def Wp(t:T):Prop:=∃y,t=.str y/\Nm y
def RF(m:Bool)(r:List T):Prop:=∃d s:Bool,r=[.bl d,.bl s]/\if m=true then d=true\/s=false else d=false
def RP(r:List T):Prop:=∃b:Bool,r=[.bl b]
def R0(r:List T):Prop:=r=[]
def D.ok:D->Prop|.rc z m ps=>HY z m/\fq (vn (RF m)) ps|.ch z m s ps=>HY z m/\fq (vn R0) ps|.fn z qs ps kd fs=>Nm z/\Kd kd/\fq (vn RP) (qs++ps)/\fq Wp fs
def fq.perm(p:us.Perm ts)(h:fq Q ts):fq Q us:=⟨by rw[p.length_eq];exact h.1,(p.map k6).nodup_iff.mpr h.2.1,λt ht=>h.2.2 t (p.mem_iff.mp ht)⟩
def D.ok_on(hf:∀l,(f l).Perm l):∀{d:D},d.ok->(d.on f).ok|.rc z m ps,h=>⟨h.1,h.2.perm (hf _)⟩|.ch z m s ps,h=>⟨h.1,h.2.perm (hf _)⟩|.fn z qs ps kd fs,h=>⟨h.1,h.2.1,h.2.2.1.perm ((List.Perm.refl _).append (hf _)),h.2.2.2.perm (hf _)⟩
def Hh(f:List T->List T)(d:D):(d.on f).w=d.w:=by cases d<;>rfl
def Pj(f:List T->List T)(d:D):(d.on f).z=d.z:=by cases d<;>rfl
def Hi(f:List T->List T)(d:D):(d.on f).isF=d.isF:=by cases d<;>rfl
def Pk(h:k6 t≠k6 u)(ht:Zt t=true\/dW t=true)(hu:Zt u=true\/dW u=true):jM t≠jM u:=by
 have e:∀{x y:Str},x.cps.toList=y.cps.toList->x=y:=λ{x y}h=>by
  obtain⟨x⟩:=x;obtain⟨y⟩:=y;have:x=y:=by simpa using h
  rw[this]
 have f1:∀{t:T},Zt t=true\/dW t=true->∃r,jM t=(k6 t).cps.toList::r:=λ{t}h=>by
  rcases h with h|h;·cases t<;>first|exact⟨[],rfl⟩|cases h
  ·unfold dW at h;split at h;·exact⟨_,rfl⟩
   ·cases h
 intro z;obtain⟨r,e1⟩:=f1 ht;obtain⟨r',e2⟩:=f1 hu;rw[e1,e2]at z;exact h (e (List.cons.inj z).1)
def dC(h:vn R t):Zt t=true\/dW t=true:=by obtain⟨y,kd,r,rfl,_⟩:=h;exact .inr rfl
def Pl(h:Wp t):Zt t=true\/dW t=true:=by obtain⟨y,rfl,_⟩:=h;exact .inl rfl
def fq.keys(hq:∀t,Q t->Zt t=true\/dW t=true)(h:fq Q ts):(ts.map jM).Nodup:=by obtain⟨_,h2,h3⟩:=h;unfold List.Nodup at h2⊢;rw[List.pairwise_map]at h2⊢;refine h2.imp_of_mem λha hb hab=>?_;exact Pk hab (hq _ (h3 _ ha)) (hq _ (h3 _ hb))
def fq.sub(h:fq Q (qs++ps)):fq Q ps:=by obtain⟨h1,h2,h3⟩:=h;rw[List.length_append]at h1;rw[List.map_append]at h2;exact⟨by omega,(List.nodup_append.mp h2).2.1,λt ht=>h3 t (List.mem_append_right _ ht)⟩
def fq.sort(hq:∀t,Q t->Zt t=true\/dW t=true)(h:fq Q ts)(p:us.Perm ts):zA us=zA ts:=mK ((p.map jM).nodup_iff.mpr (h.keys hq)) (h.keys hq) λx=>p.mem_iff
def UG(hf:∀l,(f l).Perm l):∀{d:D},d.ok->(d.on f).st=d.st|.rc z m ps,h=>by show D.rc z m _=D.rc z m _;rw[h.2.sort (λ_=>dC) (hf ps)]|.ch z m s ps,h=>by show D.ch z m s _=D.ch z m s _;rw[h.2.sort (λ_=>dC) (hf ps)]|.fn z qs ps kd fs,h=>by show D.fn z qs _ kd _=D.fn z qs _ kd _;rw[h.2.2.1.sub.sort (λ_=>dC) (hf ps),h.2.2.2.sort (λ_=>Pl) (hf fs)]
def UH{d:D}(h:d.ok):d.st.ok:=D.ok_on zU h
def YT(d:D):jM d.t=[d.w.cps.toList,d.z.cps.toList]:=by cases d<;>rfl
def Hj(d:D):dW d.t=true:=by cases d<;>rfl
def ji(ds:List D):Prop:=ds.Pairwise λd e=>d.isF=e.isF->d.z≠e.z
def ji.perm(p:es.Perm ds)(h:ji ds):ji es:=(p.pairwise_iff λ{x y}h e=>(h e.symm).symm).mpr h
def KS{d e:D}(h:d.w=e.w):d.isF=e.isF:=by
 have a:("record":Str)≠"function":=by decide+kernel
 have b:("choice":Str)≠"function":=by decide+kernel
 cases d<;>cases e<;>first|rfl|exact absurd h a|exact absurd h b|exact absurd h.symm a|exact absurd h.symm b
def nI{x y:Str}(h:x.cps.toList=y.cps.toList):x=y:=by
 obtain⟨x⟩:=x;obtain⟨y⟩:=y;have:x=y:=by simpa using h
 rw[this]
def ji.keys{ds:List D}(h:ji ds):((ds.map D.t).map jM).Nodup:=by unfold List.Nodup;rw[List.map_map,List.pairwise_map];refine List.Pairwise.imp (λ{d e}hde z=>?_) h;have z:jM d.t=jM e.t:=z;rw[YT,YT]at z;have z1:=(List.cons.inj z).1;have z2:=(List.cons.inj (List.cons.inj z).2).1;exact hde (KS (nI z1)) (nI z2)
def ji.on(f:List T->List T)(h:ji ds):ji (ds.map (D.on f)):=by unfold ji;rw[List.pairwise_map];refine List.Pairwise.imp (λ{d e}hde z=>?_) h;rw[Hi,Hi]at z;rw[Pj,Pj];exact hde z
def told(ds:List D):List T:=zA (ds.map λd=>d.st.t)
def gC(h:ji ds):((ds.map λd=>d.st.t).map jM).Nodup:=by rw[show(ds.map λd=>d.st.t)=(ds.map (D.on zA)).map D.t by rw[List.map_map];rfl];exact(h.on zA).keys
def KU(h:ji ds)(g:ji es)(hm:∀x,(∃d∈ds,d.st.t=x)↔∃d∈es,d.st.t=x):told ds=told es:=mK (gC h) (gC g) λx=>by rw[List.mem_map,List.mem_map];exact hm x
end Law
namespace Law
open PySem L2 L3
def L1:T->Str×Str×List T|.tup (.str y::.str kd::r)=>(y,kd,r)|_=>("","",[])
def JC:∀{ts:List T},(∀t∈ts,vn R t)->pC (ts.map L1)=ts|[],_=>rfl|t::ts,h=>by obtain⟨y,kd,r,e,_⟩:=h t List.mem_cons_self;have ih:=JC λu hu=>h u ↑z;subst e;unfold pC at ih⊢;rw[List.map_cons,List.map_cons,ih];rfl
def KW:∀{ts:List T},(∀t∈ts,vn R t)->(ts.map L1).map (·.1)=ts.map k6|[],_=>rfl|t::ts,h=>by obtain⟨y,kd,r,e,_⟩:=h t List.mem_cons_self;have ih:=KW λu hu=>h u ↑z;subst e;rw[List.map_cons,List.map_cons,List.map_cons,ih];rfl
def aS(h:∀t∈ts,vn R t)(hp:p∈ts.map L1):Nm p.1/\Kd p.2.1/\R p.2.2/\p.2.1∈strsL ts:=by obtain⟨t,ht,rfl⟩:=List.mem_map.mp hp;obtain⟨y,kd,r,e,h1,h2,h3⟩:=h t ht;subst e;refine⟨h1,h2,h3,YQ ht ?_⟩;unfold strsL;unfold strsL;exact List.mem_append_right _ (List.mem_append_left _ (by simp[j5,L1]))
def mL(c:CA)(m:Addr)(mk:List Str)(h:fq (vn R) ts)(hx:∀z∈strsL ts,z∈mk):xb c [(false,.mem m (c.memo mk m)),(false,.tup ts)]=.ok ↑h:=by
 obtain⟨h1,h2,h3⟩:=h;have hp:=JC h3;refine aN c _ _ (ts.map L1) (.inr (by rw[hp])) ?_ ?_ (by rw[List.length_map];omega);·refine nE true _ ((ts.map L1).map (·.1)) (.inl rfl) ?_ (by rw[List.length_map,List.length_map];omega) (by rw[KW h3];exact h2);intro y hy;obtain⟨p,hp,rfl⟩:=List.mem_map.mp hy;exact(aS h3 hp).1
 ·intro p hp;exact dq c m mk _ (hx _ (aS h3 hp).2.2.2) (aS h3 hp).2.1
def YU:∀{ts:List T},(∀t∈ts,Wp t)->sT (ts.map k6)=ts|[],_=>rfl|t::ts,h=>by obtain⟨y,e,_⟩:=h t List.mem_cons_self;have ih:=YU λu hu=>h u ↑z;subst e;unfold sT at ih⊢;rw[List.map_cons,List.map_cons,ih];rfl
def Wq(h:fq Wp ts):xz [(false,.tup ts)]=.ok ↑h:=by obtain⟨h1,h2,h3⟩:=h;have e:=YU h3;refine nE false _ (ts.map k6) (.inr (by rw[e])) ?_ (by rw[List.length_map];omega) h2;intro y hy;obtain⟨t,ht,rfl⟩:=List.mem_map.mp hy;obtain⟨y,rfl,hn⟩:=h3 t ht;exact hn
def L4(c:CA)(m:Addr)(mk:List Str)(z:Str)(md:Bool)(ps:List T)(hz:z∈mk)(hT:HY z md)(h:fq (vn (RF md)) ps)(hx:∀z∈strsL ps,z∈mk):vp c [(false,.mem m (c.memo mk m)),↑j,(false,.bl md),(false,.tup ps)]=.ok ↑h:=by have hP:=mL c m mk h hx;have e:=JC h.2.2;rw[<-e]at hP⊢;refine zZ rfl ?_;refine KD (jq c) (xb c) wk _ z md (ps.map L1) (hT c m mk hz) hP (by rw[List.length_map];have:=h.1;omega) ?_;intro p hp;obtain⟨d,s,e,h⟩:=(aS h.2.2 hp).2.2.1;exact⟨d,s,e,MX md d s h⟩
def L5(c:CA)(m:Addr)(mk:List Str)(z:Str)(md:Bool)(ps:List T)(hz:z∈mk)(hT:HY z md)(h:fq (vn R0) ps)(hx:∀z∈strsL ps,z∈mk):vq c [(false,.mem m (c.memo mk m)),↑j,(false,.bl md),(false,.tup ps)]=.ok ↑h:=zZ rfl (KF (jq c) (xb c) _ z md _ (hT c m mk hz) (mL c m mk h hx))
def L6(c:CA)(m:Addr)(mk:List Str)(z kd:Str)(qs ps fs:List T)(hn:Nm z)(hk:Kd kd)(hkd:kd∈mk)(h:fq (vn RP) (qs++ps))(hx:∀z∈strsL (qs++ps),z∈mk)(g:fq Wp fs):xR c [(false,.mem m (c.memo mk m)),↑j,(false,.int (qs.length:Nat)),(false,.tup (qs++ps)),↑aN,(false,.tup fs)]=.ok ↑h:=zZ rfl (KG xp (jj c) (xb c) xz _ z kd (qs.length:Nat) _ _ hn (dq c m mk kd hkd hk) ↑a (by rw[List.length_append];omega) (mL c m mk h hx) (Wq g))
def JD(c:CA)(m:Addr)(mk:List Str):∀{d:D},d.ok->(∀z∈j5 d.t,z∈mk)->vh c [(false,.mem m (c.memo mk m)),(false,d.t)]=.ok ↑h|.rc z md ps,h,hx=>by have hz:z∈mk:=hx z (by simp[D.t,j5,strsL]);have hp:∀y∈strsL ps,y∈mk:=λy hy=>hx y (by simp[D.t,j5,strsL,hy]);exact zZ rfl (Wi (vp c) (vq c) (xR c) _ "record" "record" "choice" _ _ _ [] rfl (L4 c m mk z md ps hz h.1 h.2 hp))|.ch z md s ps,h,hx=>by have hz:z∈mk:=hx z (by simp[D.t,j5,strsL]);have hp:∀y∈strsL ps,y∈mk:=λy hy=>hx y (by simp[D.t,j5,strsL,hy]);exact zZ rfl (Wj (vp c) (vq c) (xR c) _ "choice" "record" "choice" _ _ _ _ [] KJ rfl (L5 c m mk z md ps hz h.1 h.2 hp))|.fn z qs ps kd fs,h,hx=>by have hz:kd∈mk:=hx kd (by simp[D.t,j5,strsL]);have hp:∀y∈strsL (qs++ps),y∈mk:=λy hy=>hx y (by simp[D.t,j5,strsL,hy]);exact zZ rfl (Wk (vp c) (vq c) (xR c) _ "function" "record" "choice" _ _ _ _ _ [] KK KL (L6 c m mk z kd qs ps fs h.1 h.2.1 hz h.2.2.1 hp h.2.2.2))
def fq.sortS(h:fq Q ts)(hq:(∀t,Q t->Zt t=true)\/∀t,Q t->dW t=true):sortS ts=some (zA ts):=by have hk:=h.keys λt ht=>hq.elim (λf=>.inl (f t ht)) λf=>.inr (f t ht);unfold L3.sortS;rw[if_pos ⟨by have:=h.1;omega,hq.elim (λf=>.inl (List.all_eq_true.mpr λt ht=>f t (h.2.2 t ht))) (λf=>.inr (List.all_eq_true.mpr λt ht=>f t (h.2.2 t ht))),hk⟩]
def mM:∀t,vn R t->dW t=true:=λt h=>by obtain⟨y,kd,r,rfl,_⟩:=h;rfl
def UI:∀t,Wp t->Zt t=true:=λt h=>by obtain⟨y,rfl,_⟩:=h;rfl
def mN(l:List T):(zA l).length=l.length:=(zU l).length_eq
def Wr:∀{d:D},d.ok->xS [(false,d.t)]=.ok (false,d.st.t)|.rc z md ps,h=>Z0 (h.2.sortS (.inr mM))|.ch z md s ps,h=>Z1 (h.2.sortS (.inr mM))|.fn z qs ps kd fs,h=>by have h1:=h.2.2.1.sub.sortS (.inr mM);have h2:=h.2.2.2.sortS (.inl UI);have hl:=h.2.2.1.1;rw[List.length_append]at hl;have:=Z2 (z:=z) (k:=kd) (ps:=qs++ps) (by rw[List.drop_left];exact h1) h2 (by rw[List.length_append,mN];omega);rw[List.take_left]at this;exact this
def aT(d:D):∃r,d.t=.tup (.str d.w::.str d.z::r):=by cases d<;>exact⟨_,rfl⟩
def UJ(d:D):decide (d.w="function")=d.isF:=by
 cases d;·exact decide_eq_false D9
 ·exact decide_eq_false Db
 ·exact decide_eq_true rfl
def KY(ds:List D)(b:Bool):List Key:=(ds.filter λd=>d.isF==b).map λd=>Sum.inr d.z
def i9(ds:List D)(b:Bool):List T:=(ds.filter λd=>d.isF==b).map λd=>d.st.t
def mO(c:CA)(mk:List Str)(ts:List T)(M:T)(hM:∃m,M=.mem m (c.memo mk m)):∀(ds:List D)(i:Nat)(k1 k2:List Key)(u1 u2:List T),(∀d∈ds,d.ok/\∀z∈j5 d.t,z∈mk)->ji ds->(∀d∈ds,d.isF=false->Sum.inr d.z∉k1)->(∀d∈ds,d.isF=true->Sum.inr d.z∉k2)->k1.length+ds.length<1000->k2.length+ds.length<1000->w4 M (HR "function") (HS (vh c)) HU (HV xS) ts i ↑ax (.dct k1 u1,.dct k2 u2)=.ok (.dct (k1++KY ds false) (u1++i9 ds false),.dct (k2++KY ds true) (u2++i9 ds true))
 |[],i,k1,k2,u1,u2,_,_,_,_,_,_=>by simp[KY,i9,w4]|d::ds,i,k1,k2,u1,u2,ho,ha,h1,h2,l1,l2=>by
  obtain⟨m,rfl⟩:=hM;obtain⟨ok,hz⟩:=ho d List.mem_cons_self;obtain⟨a1,a2⟩:=List.pairwise_cons.mp ha;have hP:=JD c m mk ok hz;have hS:=Wr ok;obtain⟨r,e⟩:=aT d;have hw:=UJ d;have o':∀e∈ds,e.ok/\∀z∈j5 e.t,z∈mk:=λe he=>ho e (List.mem_cons_of_mem _ he);rw[List.length_cons]at l1 l2;rw[List.map_cons,w4];rw[e]at hP hS⊢
  cases hF:d.isF with|false=>
   rw[hF]at hw;have hn:=h1 d List.mem_cons_self hF;rw[Z5 (.mem m (c.memo mk m)) (vh c) xS "function" d.w d.z r ts i (.dct k1 u1) (.dct k2 u2) d.st.t k1 u1 false hw rfl hn (by have:=big;omega) hP hS,bind_ok,if_neg Bool.false_ne_true];rw[mO c mk ts _ ⟨m,rfl⟩ ds (i+1) (k1++[Sum.inr d.z]) k2 (u1++[d.st.t]) u2 o' a2 (λe he hf z=>?_) (λe he hf=>h2 e (List.mem_cons_of_mem _ he) hf) (by rw[List.length_append];simp;omega) ↑a];·simp[KY,i9,hF]
   ·rcases List.mem_append.mp z with z|z;·exact h1 e (List.mem_cons_of_mem _ he) hf z
    ·have:e.z=d.z:=by simpa using z
     exact a1 e he (by rw[hF,hf]) this.symm|true=>
   rw[hF]at hw;have hn:=h2 d List.mem_cons_self hF;rw[Z5 (.mem m (c.memo mk m)) (vh c) xS "function" d.w d.z r ts i (.dct k1 u1) (.dct k2 u2) d.st.t k2 u2 true hw rfl hn (by have:=big;omega) hP hS,bind_ok,if_pos rfl];rw[mO c mk ts _ ⟨m,rfl⟩ ds (i+1) k1 (k2++[Sum.inr d.z]) u1 (u2++[d.st.t]) o' a2 (λe he hf=>h1 e (List.mem_cons_of_mem _ he) hf) (λe he hf z=>?_) ↑a (by rw[List.length_append];simp;omega)];·simp[KY,i9,hF]
   ·rcases List.mem_append.mp z with z|z;·exact h2 e (List.mem_cons_of_mem _ he) hf z
    ·have:e.z=d.z:=by simpa using z
     exact a1 e he (by rw[hF,hf]) this.symm
def JE(h:ts.length+us.length<=sizeLine):zg (.lst ts) (.lst us)=some (true,.lst (ts++us)):=by show(if ts.length+us.length<=sizeLine then some (true,T.lst (ts++us))else none)=_;rw[if_pos h]
def Hk:(("told_functions":Str)=="told_kinds")=false:=by decide+kernel
def Pn(C:Addr)(f1 f2:Str)(hf:(f2==f1)=false)(k1 k2:List Key)(u1 u2 us:List T)(ha:zg (.lst u1) (.lst u2)=some (true,.lst us))(ss:List T)(hs:mf [.lst us]=some (true,.lst ss)):zc (zn 1 (m2 zg (eD (J9 [C] f1 ↑m)) (eD (J9 [C] f2 ↑m)))) (zt (zl mf ↑V)) [some (false,.obj C [f1,f2] [.dct k1 u1,.dct k2 u2]),none]=.rt (true,.lst ss):=by
 rw[zb (e':=[some (false,.obj C [f1,f2] [.dct k1 u1,.dct k2 u2]),some (true,.lst us)])];·exact ve (by simp[zl,z3,z5,mV,hs]) (by simp[zJ,zQ,zl,z3,z5,mV])
 ·simp[zn,jR,zJ,zQ,m2,eD,J9,mV,Ur,hf,ha]
def bz(ds:List D):(ds.filter (λd=>d.isF==false)++ds.filter (λd=>d.isF==true)).Perm ds:=by
 have:=List.filter_append_perm (λd:D=>d.isF==false) ds;have e:ds.filter (λd=>d.isF==true)=ds.filter (λd=>!(d.isF==false)):=by apply List.filter_congr;intro d _;cases d.isF<;>rfl
 rw[e];exact this
def KZ(h:ji ds):zA (i9 ds false++i9 ds true)=told ds:=by have p:=(bz ds).map λd=>d.st.t;rw[List.map_append]at p;exact mK ((p.map jM).nodup_iff.mpr (gC h)) (gC h) λx=>p.mem_iff
def Q0(c:CA)(h:ji ds)(hl:ds.length<=13)(k1 k2:List Key):xU c [(false,.obj c.Face ["told_kinds","told_functions"] [.dct k1 (i9 ds false),.dct k2 (i9 ds true)])]=.ok (true,.lst (told ds)):=by
 have p:=(bz ds).map λd=>d.st.t;rw[List.map_append]at p;have pl:(i9 ds false++i9 ds true).length=ds.length:=(p.length_eq).trans (List.length_map _);have hP:(i9 ds false++i9 ds true).all dW=true:=List.all_eq_true.mpr λx hx=>by obtain⟨d,_,rfl⟩:=List.mem_map.mp (p.mem_iff.mp hx);exact Hj _
 have hk:((i9 ds false++i9 ds true).map jM).Nodup:=(p.map jM).nodup_iff.mpr (gC h);refine zZ rfl ?_;refine Pn c.Face "told_kinds" "told_functions" Hk k1 k2 _ _ _ (JE (by have:=big;rw[List.length_append]at pl;omega)) (told ds) ?_;show(if(i9 ds false++i9 ds true).all dW=true then(sortS (i9 ds false++i9 ds true)).map λus=>(true,T.lst us)else none)=_;rw[if_pos hP];unfold L3.sortS;rw[if_pos ⟨by omega,.inr hP,hk⟩,KZ h];rfl
def L7(c:CA):jz c=wg c.memo c.Face "told_kinds" "told_functions" (HR "function") (HS (vh c)) HU (HV xS):=rfl
def Q1{memo:List Str->Mo}{C:Addr}{f1 f2:Str}{tw tc:MT}{mk mv:ME}{ts:List T}{d1 d2:T}{env:En}{b:Bool}{i:Nat}(h4:env[i]?=some (some (b,.lst ts)))(hz:(strsL ts).length<sizeLine)(h:∀m,w4 (.mem m (memo (strsL ts) m)) tw tc mk mv ts 0 ts (.dct [] [],.dct [] [])=.ok (d1,d2)):fD C (wg memo C f1 f2 tw tc mk mv) (z3 (mV i) z5) env=.ok (false,.obj C [f1,f2] [d1,d2]):=by
 have ha:z3 (mV i) z5 env=.ok [(false,.lst ts)]:=by simp[z3,z5,mV,h4]
 unfold fD;rw[ha,bind_ok];have hT:wg memo C f1 f2 tw tc mk mv [(true,.obj C [] []),(false,.lst ts)]=.ok (.obj C [f1,f2] [d1,d2]):=by unfold wg;dsimp only;rw[if_pos ⟨rfl,hz⟩,h 0];dsimp only;rw[if_pos h]
 rw[hT,bind_ok]
def Q2:∀{ts:List T},t∈ts->x∈j5 t->x∈strsL ts
 |u::ts,h,hx=>by
  unfold strsL;rcases List.mem_cons.mp h with rfl|h;·exact List.mem_append_left _ hx
  ·exact List.mem_append_right _ (Q2 h hx)
def L8(c:CA)(ok:∀d∈ds,d.ok)(h:ji ds)(hl:ds.length<=13)(hz:(strsL ↑ax).length<sizeLine)(hi:env[i]?=some (some (b,.lst ↑ax))):fD c.Face (jz c) (z3 (mV i) z5) env=.ok (false,.obj c.Face ["told_kinds","told_functions"] [.dct (KY ds false) (i9 ds false),.dct (KY ds true) (i9 ds true)]):=by rw[L7];refine Q1 hi hz λm=>?_;have:=mO c (strsL ↑ax) ↑ax (.mem m (c.memo (strsL ↑ax) m)) ⟨m,rfl⟩ ds 0 [] [] [] [] (λd hd=>⟨ok d hd,λz hz=>Q2 (List.mem_map_of_mem hd) hz⟩) h (λ_ _ _ z=>nomatch z) (λ_ _ _ z=>nomatch z) ↑aO ↑aO;exact this
def aU(hn:n<=12)(h1:P.map (·.1)=zI y n)(h2:∀p∈P,Kd p.2.1/\R p.2.2):fq (vn R) (pC P):=by
 have hl:P.length=n:=by have:=congrArg List.length h1;rwa[List.length_map,wP]at this
 refine⟨by unfold pC;rw[List.length_map];omega,?_,λt ht=>?_⟩
 ·have:(pC P).map k6=zI y n:=by rw[<-h1];unfold pC;rw[List.map_map];rfl
  rw[this];exact rS y n ↑a
 ·obtain⟨p,hp,rfl⟩:=List.mem_map.mp ht;refine⟨p.1,p.2.1,p.2.2,rfl,nG y n _ ?_,h2 p hp⟩;rw[<-h1];exact List.mem_map_of_mem hp
def L9(y n:Nat)(hn:n<=12):fq Wp (sT (zI y n)):=by
 refine⟨by rw[xj,wP];omega,?_,λt ht=>?_⟩
 ·have:(sT (zI y n)).map k6=zI y n:=by unfold sT;rw[List.map_map];exact List.map_id _
  rw[this];exact rS y n ↑a
 ·obtain⟨z,hz,rfl⟩:=List.mem_map.mp ht;exact⟨z,rfl,nG y n z hz⟩
def Ws(t:Str)(c:Int)(ks:List Str):D:=let xs:=mH c 16;let n:=kH (xs.getD 0 0);let ns:=zI (xs.getD 1 0) n;if xs.getD 3 0%3=0 then .rc (fj t (xs.getD 2 0/2) ↑aj) ↑aj (vY ↑aj (xs.drop 4) ns ks 0 ns.length)else if xs.getD 3 0%3=1 then .ch (fj t (xs.getD 2 0/2) ↑aj) ↑aj (lq (xs.getD 2 0/18)) (vZ xs ns ks n)else .fn t ((w6 xs ns ks n).take (xs.getD 2 0/2%(n+1))) ((w6 xs ns ks n).drop (xs.getD 2 0/2%(n+1))) (ks.getD (xs.getD 1 0/3%ks.length) "") (sT (zI (xs.getD 2 0) (xs.getD 3 0/6%4)))
def Hl(t:Str)(c:Int)(ks:List Str):(Ws t c ks).t=dl t c ks:=by
 unfold Ws dl;dsimp only;split;·rfl
 ·split;·rfl
  ·have hl:∀a b d n,(w6 a b d n).length=n:=λa b d n=>by simp[w6]
   unfold MU D.t;dsimp only;rw[List.take_append_drop,List.length_take,hl,Nat.min_eq_left (Nat.lt_succ_iff.mp (Nat.mod_lt _ (Nat.succ_pos _)))]
def La(h:KH ks)(i:Nat):Kd (ks.getD (i%ks.length) ""):=by have hi:i%ks.length<ks.length:=Nat.mod_lt _ h.1;refine h.2 _ ?_;rw[List.getD_eq_getElem?_getD,List.getElem?_eq_getElem hi];exact List.getElem_mem hi
def Lb(x k:Nat)(c:Int)(ks:List Str)(h:KH ks):(Ws (nm x k) c ks).ok:=by
 have hc:=bU ((mH c 16).getD 0 0);unfold Ws;dsimp only;split;·refine⟨λc0 ma mk hz=>bu c0 ma mk x k _ _ hz,?_⟩;rw[wP,rW];refine aU hc (rX _ _ _ _ _) λp hp=>?_;obtain⟨i,_,rfl⟩:=List.mem_map.mp hp;exact⟨KI h _,_,_,rfl,D7 _ _⟩
 ·split;·refine⟨λc0 ma mk hz=>bu c0 ma mk x k _ _ hz,?_⟩;rw[bt];refine aU hc (rY _ _ _ _) λp hp=>?_;obtain⟨i,_,rfl⟩:=List.mem_map.mp hp;exact⟨KI h _,rfl⟩
  ·refine⟨nG x (k+1) _ (List.mem_map.mpr ⟨k,by simp[List.mem_range'],rfl⟩),La h _,?_,L9 _ _ ↑a⟩;rw[List.take_append_drop,dv];refine aU hc (rZ _ _ _ _) λp hp=>?_;obtain⟨i,_,rfl⟩:=List.mem_map.mp hp;exact⟨KI h _,_,rfl⟩
def Z8(t:Str)(c:Int)(ks:List Str):((Ws t c ks).isF=true/\(Ws t c ks).z=t)\/((Ws t c ks).isF=false/\∃n made,(Ws t c ks).z=fj t n made):=by
 unfold Ws;dsimp only;split;·exact .inr ⟨rfl,_,_,rfl⟩
 ·split;·exact .inr ⟨rfl,_,_,rfl⟩
  ·exact .inl ⟨rfl,rfl⟩
def pD(x:Nat)(ns:List Int)(ks:List Str)(n:Nat):List D:=(List.range' 1 (n-1)).map λi=>Ws (nm x i) (ns.getD i 0) ks
def Po(x:Nat)(ns:List Int)(ks:List Str)(n:Nat)(h:KH ks):∀d∈pD x ns ks n,d.ok:=by intro d hd;obtain⟨i,_,rfl⟩:=List.mem_map.mp hd;exact Lb x i _ ks h
def Z9(x:Nat)(ns:List Int)(ks:List Str)(n:Nat):(pD x ns ks n).length=n-1:=by simp[pD]
def dD(x:Nat)(ns:List Int)(ks:List Str)(n:Nat)(hn:n<=13):ji (pD x ns ks n):=by
 unfold ji pD;rw[List.pairwise_map];have:(List.range' 1 (n-1)).Pairwise (λa b=>a<b):=List.pairwise_lt_range';refine this.imp_of_mem λ{i j}hi hj hij hF hz=>?_;have hi:i<26:=by have:=List.mem_range'_1.mp hi;omega
 have hj:j<26:=by have:=List.mem_range'_1.mp hj;omega
 rcases Z8 (nm x i) (ns.getD i 0) ks with⟨a,b⟩|⟨a,n1,m1,b⟩
 ·rcases Z8 (nm x j) (ns.getD j 0) ks with⟨a',b'⟩|⟨a',_⟩;·rw[b,b']at hz;have:=He hi hj hz;omega
  ·rw[a,a']at hF;cases hF
 ·rcases Z8 (nm x j) (ns.getD j 0) ks with⟨a',_⟩|⟨a',n2,m2,b'⟩;·rw[a,a']at hF;cases hF
  ·rw[b,b']at hz;have:=Z4 hi hj hz;omega
def nJ:∀{ts:List T},(∀t∈ts,(j5 t).length<=n)->(strsL ts).length<=n*ts.length|[],_=>by simp[strsL]|t::ts,h=>by have h1:=h t List.mem_cons_self;have h2:=nJ λu hu=>h u ↑z;unfold strsL;rw[List.length_append,List.length_cons,Nat.mul_succ];omega
def dE(hR:∀r,R r->strsL r=[])(h:fq (vn R) ts):(strsL ts).length<=24:=by
 have:=nJ (n:=2) λt ht=>by obtain⟨y,kd,r,rfl,_,_,hr⟩:=h.2.2 t ht;simp[j5,strsL,hR r hr]
 have:=h.1;omega
def Q3(h:fq Wp ts):(strsL ts).length<=12:=by
 have:=nJ (n:=1) λt ht=>by obtain⟨y,rfl,_⟩:=h.2.2 t ht;simp[j5]
 have:=h.1;omega
def Pp(m:Bool):∀r,RF m r->strsL r=[]:=λr h=>by obtain⟨d,s,rfl,_⟩:=h;rfl
def Pq:∀r,RP r->strsL r=[]:=λr h=>by obtain⟨d,rfl⟩:=h;rfl
def Pr:∀r,R0 r->strsL r=[]:=λr h=>by rw[show r=[]from h];rfl
def Ps:∀{d:D},d.ok->(j5 d.t).length<=100|.rc z m ps,h=>by have:=dE (Pp m) h.2;simp only[D.t,j5,strsL,List.length_append,List.length_cons,List.length_nil];omega|.ch z m s ps,h=>by have:=dE Pr h.2;simp only[D.t,j5,strsL,List.length_append,List.length_cons,List.length_nil];omega|.fn z qs ps kd fs,h=>by have:=dE Pq h.2.2.1;have:=Q3 h.2.2.2;simp only[D.t,j5,strsL,List.length_append,List.length_cons,List.length_nil];omega
def Q4{ds:List D}(ok:∀d∈ds,d.ok)(hl:ds.length<=13):(strsL ↑ax).length<sizeLine:=by
 have:=nJ (ts:=ds.map D.t) λt ht=>by obtain⟨d,hd,rfl⟩:=List.mem_map.mp ht;exact Ps (ok d hd)
 rw[List.length_map]at this;have h2:2000<sizeLine:=by decide
 omega
def gD(hR:∀r,R r->∀u∈r,Wl u)(h:fq (vn R) ts):∀t∈ts,kZ 1 t:=by
 intro t ht;obtain⟨y,kd,r,rfl,_,_,hr⟩:=h.2.2 t ht;refine kK λu hu=>?_;rcases List.mem_cons.mp hu with rfl|hu;·exact .inl ⟨y,rfl⟩
 rcases List.mem_cons.mp hu with rfl|hu;·exact .inl ⟨kd,rfl⟩
 ·exact hR r hr u hu
def Q5(h:fq Wp ts):∀t∈ts,kZ 1 t:=λt ht=>by obtain⟨y,rfl,_⟩:=h.2.2 t ht;exact kJ 1 y
def nK:∀{d:D},d.ok->kZ 3 d.t|.rc z m ps,h=>Wm (gD (λr hr u hu=>by obtain⟨d,s,rfl,_⟩:=hr;simp at hu;rcases hu with rfl|rfl<;>exact nH _) h.2)|.ch z m s ps,h=>Wn (gD (λr hr u hu=>by rw[show r=[]from hr]at hu;cases hu) h.2)|.fn z qs ps kd fs,h=>KO (gD (λr hr u hu=>by obtain⟨d,rfl⟩:=hr;simp at hu;rw[hu];exact nH _) h.2.2.1) (Q5 h.2.2.2)
structure G0(ds es:List D):Prop where
 ok:∀d∈es,d.ok
 ap:ji es
 len:es.length=ds.length
 told:told es=told ds
def Pt(f:List T->List T)(hf:∀l,(f l).Perm l)(ok:∀d∈ds,d.ok)(hA:ji ds)(p:es.Perm (ds.map (D.on f))):G0 ds es:=by
 have hA':ji es:=(hA.on f).perm p;refine⟨λd hd=>?_,hA',by rw[p.length_eq,List.length_map],KU hA' hA λx=>?_⟩;·obtain⟨e,he,rfl⟩:=List.mem_map.mp (p.mem_iff.mp hd);exact D.ok_on hf (ok e he)
 ·constructor;·rintro⟨d,hd,rfl⟩;obtain⟨e,he,rfl⟩:=List.mem_map.mp (p.mem_iff.mp hd);exact⟨e,he,by rw[UG hf (ok e he)]⟩
  ·rintro⟨e,he,rfl⟩;exact⟨e.on f,p.mem_iff.mpr (List.mem_map_of_mem he),by rw[UG hf (ok e he)]⟩
def Wt(ok:∀d∈ds,d.ok):∀t∈told ds,kZ 3 t:=by intro t ht;obtain⟨d,hd,rfl⟩:=List.mem_map.mp (qm.mp ht);exact nK (UH (ok d hd))
def Za(ok:∀d∈ds,d.ok)(b:Bool):∀t∈i9 ds b,kZ 3 t:=by intro t ht;obtain⟨d,hd,rfl⟩:=List.mem_map.mp ht;exact nK (UH (ok d (List.mem_filter.mp hd).1))
def Pu{ds:List D}(ok:∀d∈ds,d.ok):∀t∈ds.map D.t,kZ 3 t:=by intro t ht;obtain⟨d,hd,rfl⟩:=List.mem_map.mp ht;exact nK (ok d hd)
def Pv(h:∀u∈ts,kZ 3 u):fk 40 (.lst ts) (.lst ts)=some true:=by show(if ts.length=ts.length then ZT (fk 39) ts ts else some false)=_;rw[if_pos rfl];exact dy λu hu=>YS 3 39 u (h u hu) ↑v
def Q6(h:∀u∈ts,kZ 3 u):zG (.lst ts) (.lst ts)=some ↑h:=by unfold zG;rw[Pv h];rfl
def YV(h:zQ e=e):iW e=false/\uj e=false/\uk e=false:=by cases e with|none=>exact⟨rfl,rfl,rfl⟩|some r=>obtain⟨b,t⟩:=r;cases b with|true=>cases h|false=>exact⟨rfl,rfl,rfl⟩
def Wu(h1:noLs u1=true)(h2:noLs u2=true)(hD:env.any uj=false)(hO:env.any uk=false):L3.clean env (false,.obj C fs [.dct k1 u1,.dct k2 u2])=true:=by simp[L3.clean,hD,hO,ZY,Zr,noLs,h1,h2]
def pR(c:CA)(es:List D):T:=.obj c.Face ["told_kinds","told_functions"] [.dct (KY es false) (i9 es false),.dct (KY es true) (i9 es true)]
def Dz(c:CA)(i:Nat):ME:=fD c.Face (jz c) (z3 (mV i) z5)
def UK(c:CA)(m:ME):ME:=f9 c.Face "pieces" (xU c) m z5
def Q7(c:CA)(ok:∀d∈es,d.ok)(h:ji es)(hl:es.length<=13)(hi:env[i]?=some (some (b,.lst (es.map D.t)))):Dz c i env=.ok (false,pR c es):=L8 c ok h hl (Q4 ok hl) hi
def Hm:("pieces":Str)∉(["told_kinds","told_functions"]:List Str):=by decide+kernel
def JF(c:CA)(h:ji es)(hl:es.length<=13)(hm:m env=.ok (b,pR c es)):UK c m env=.ok (true,.lst (told es)):=by have:=Q0 c h hl (KY es false) (KY es true);unfold UK f9;rw[hm,bind_ok];unfold pR;dsimp only;rw[if_pos ⟨rfl,Hm⟩];exact this
def YW(c:CA)(ok:∀d∈es,d.ok)(hD:env.any uj=false)(hO:env.any uk=false):L3.clean env (false,pR c es)=true:=Wu (gB (Za ok false)).1 (gB (Za ok true)).1 hD hO
def Zb(d:D):zk d.t (.int 0)=some (false,.str d.w):=by obtain⟨r,e⟩:=aT d;rw[e];exact jh _ 0
def YX(d:D):zk d.t (.int 1)=some (false,.str d.z):=by obtain⟨r,e⟩:=aT d;rw[e];exact jh _ 1
def WK(d s:Bool):Str:=if d then(if s then"ds"else"d")else if s then"s"else"-"
def pK(m:Bool):Str:=if m then"made"else"told"
def QD(m:Bool):Str:=if m then"shut"else"open"
def Pw(m:Bool):Str:=if m then"due"else"may"
def wd:T->List Str|.tup [.str y,.str kd,.bl d,.bl s]=>[y,kd,WK d s]|.tup [.str y,.str kd,.bl b]=>[y,kd,Pw b]|.tup [.str y,.str kd]=>[y,kd]|_=>[]
def wQ(n:Nat):Str:=(toString (n:Int):String)
def zm:D->List Str|.rc z m ps=>"record"::z::pK m::ps.flatMap wd|.ch z m s ps=>"choice"::z::pK m::QD s::ps.flatMap wd|.fn z qs ps kd fs=>"function"::z::wQ qs.length::kd::((qs++ps).flatMap wd++(":":Str)::fs.map k6)
def Ca(a b:T):zk (.lst [a,b]) (.int 0)=some (false,a):=WJ _ 0
def Cb(a b:T):zk (.lst [a,b]) (.int 1)=some (false,b):=WJ _ 1
def Cc:4<=sizeLine:=by decide
def Q8{a b:List Str}(h:a.length+b.length<1000):zg (.lst (sT a)) (.lst (sT b))=some (true,.lst (sT (a++b))):=by
 have e:sT (a++b)=sT a++sT b:=by unfold sT;rw[List.map_append]
 rw[e];exact JE (by rw[xj,xj];have:=big;omega)
def Wd(z:Str):Prop:=z.length<=40/\∀c∈z.cps.toList,c≠32/\c≠10/\c≠58
def D.wds(d:D):Prop:=∀z∈j5 d.t,Wd z
def vt:∀{ts:List T},z∈strsL ts↔∃t∈ts,z∈j5 t|[]=>by simp[strsL]|t::ts=>by unfold strsL;rw[List.mem_append,vt (ts:=ts)];simp
def pL(p:us.Perm ts):z∈strsL us↔z∈strsL ts:=by rw[vt,vt];exact⟨λ⟨t,h,g⟩=>⟨t,p.mem_iff.mp h,g⟩,λ⟨t,h,g⟩=>⟨t,p.mem_iff.mpr h,g⟩⟩
def D.wds_on(hf:∀l,(f l).Perm l):∀{d:D},d.wds->(d.on f).wds|.rc z m ps,h=>λx hx=>h x (by simp only[D.on,D.t,j5,strsL,List.mem_append,pL (hf ps)]at hx⊢;exact hx)|.ch z m s ps,h=>λx hx=>h x (by simp only[D.on,D.t,j5,strsL,List.mem_append,pL (hf ps)]at hx⊢;exact hx)|.fn z qs ps kd fs,h=>λx hx=>h x (by simp only[D.on,D.t,j5,strsL,List.mem_append,pL ((List.Perm.refl qs).append (hf ps)),pL (hf fs)]at hx⊢;exact hx)
def Lc(d s:Bool):Wd (WK d s):=by cases d<;>cases s<;>exact⟨by decide+kernel,by decide+kernel⟩
def Ld(d:Bool):Wd (Pw d):=by cases d<;>exact⟨by decide+kernel,by decide+kernel⟩
def Q9(d:Bool):Wd (pK d):=by cases d<;>exact⟨by decide+kernel,by decide+kernel⟩
def Le(d:Bool):Wd (QD d):=by cases d<;>exact⟨by decide+kernel,by decide+kernel⟩
def Px:∀n:Nat,n<=12->Wd (wQ n):=by
 intro n hn;have:∀i:Fin 13,(wQ i.1).length<=40/\∀c∈(wQ i.1).cps.toList,c≠32/\c≠10/\c≠58:=by decide+kernel
 exact this ⟨n,by omega⟩
def UL:Wd "choice":=⟨by decide+kernel,by decide+kernel⟩
def Qa:Wd "function":=⟨by decide+kernel,by decide+kernel⟩
def UM:Wd "record":=⟨by decide+kernel,by decide+kernel⟩
def Py:∀c∈(":":Str).cps.toList,c≠32/\c≠10:=by decide+kernel
def ic(hR:∀r,R r->r=[]\/(∃b:Bool,r=[.bl b])\/∃d s:Bool,r=[.bl d,.bl s])(h:∀t∈ts,vn R t)(hs:∀z∈strsL ts,Wd z):∀w∈ts.flatMap wd,Wd w:=by
 intro w hw;obtain⟨t,ht,hw⟩:=List.mem_flatMap.mp hw;obtain⟨y,kd,r,rfl,_,_,hr⟩:=h t ht;have hy:Wd y:=hs y (vt.mpr ⟨_,ht,by simp[j5,strsL]⟩);have hk:Wd kd:=hs kd (vt.mpr ⟨_,ht,by simp[j5,strsL]⟩);have e2:w∈[y,kd]->Wd w:=λh=>(List.mem_cons.mp h).elim (λe=>e▸hy) λh=>List.mem_singleton.mp h▸hk;have e3:∀{f:Str},Wd f->w∈[y,kd]++[f]->Wd w:=λhf h=>(List.mem_append.mp h).elim e2 λh=>List.mem_singleton.mp h▸hf;rcases hR r hr with rfl|⟨b,rfl⟩|⟨d,s,rfl⟩;·exact e2 hw
 ·exact e3 (Ld b) hw
 ·exact e3 (Lc d s) hw
def mP(hR:∀r,R r->r=[]\/(∃b:Bool,r=[.bl b])\/∃d s:Bool,r=[.bl d,.bl s]):∀{ts:List T},(∀t∈ts,vn R t)->(ts.flatMap wd).length<=3*ts.length
 |[],_=>by simp|t::ts,h=>by
  have ih:=mP hR (ts:=ts) λu hu=>h u ↑z;obtain⟨y,kd,r,rfl,_,_,hr⟩:=h t List.mem_cons_self;rw[List.flatMap_cons,List.length_append,List.length_cons];generalize(ts.flatMap wd).length=n at ih;rcases hR r hr with rfl|⟨b,rfl⟩|⟨d,s,rfl⟩;·show 2+n<=_;omega
  ·show 3+n<=_;omega
  ·show 3+n<=_;omega
def DA:∀r,RF m r->r=[]\/(∃b:Bool,r=[.bl b])\/∃d s:Bool,r=[.bl d,.bl s]:=λr⟨d,s,h,_⟩=>.inr (.inr ⟨d,s,h⟩)
def Hn:∀r,RP r->r=[]\/(∃b:Bool,r=[.bl b])\/∃d s:Bool,r=[.bl d,.bl s]:=λr h=>.inr (.inl h)
def DB:∀r,R0 r->r=[]\/(∃b:Bool,r=[.bl b])\/∃d s:Bool,r=[.bl d,.bl s]:=λr h=>.inl h
def Lf(h:∀t∈ts,Wp t)(hs:∀z∈strsL ts,Wd z):∀w∈ts.map k6,Wd w:=by intro w hw;obtain⟨t,ht,rfl⟩:=List.mem_map.mp hw;obtain⟨y,rfl,_⟩:=h t ht;exact hs y (vt.mpr ⟨_,ht,by simp[j5]⟩)
def dF:∀{d:D},d.ok->d.wds->(∀w∈zm d,Wd w\/w=":")/\(zm d).length<=60
 |.rc z m ps,h,hw=>by
  have hz:Wd z:=hw z (by simp[D.t,j5,strsL]);have hp:=ic DA h.2.2.2 λy hy=>hw y (by simp[D.t,j5,strsL,hy]);have hl:=mP DA h.2.2.2;have:=h.2.1;refine⟨λw hm=>.inl ?_,by simp only[zm,List.length_cons];omega⟩;simp only[zm,List.mem_cons]at hm;rcases hm with rfl|rfl|rfl|hm;·exact UM
  ·exact hz
  ·exact Q9 m
  ·exact hp w hm|.ch z m s ps,h,hw=>by
  have hz:Wd z:=hw z (by simp[D.t,j5,strsL]);have hp:=ic DB h.2.2.2 λy hy=>hw y (by simp[D.t,j5,strsL,hy]);have hl:=mP DB h.2.2.2;have:=h.2.1;refine⟨λw hm=>.inl ?_,by simp only[zm,List.length_cons];omega⟩;simp only[zm,List.mem_cons]at hm;rcases hm with rfl|rfl|rfl|rfl|hm;·exact UL
  ·exact hz
  ·exact Q9 m
  ·exact Le s
  ·exact hp w hm|.fn z qs ps kd fs,h,hw=>by
  have hz:Wd z:=hw z (by simp[D.t,j5,strsL]);have hk:Wd kd:=hw kd (by simp[D.t,j5,strsL]);have hp:=ic Hn h.2.2.1.2.2 λy hy=>hw y (by simp[D.t,j5,strsL,hy]);have hl:=mP Hn h.2.2.1.2.2;have hf:=Lf h.2.2.2.2.2 λy hy=>hw y (by simp[D.t,j5,strsL,hy]);have a1:=h.2.2.1.1;have a2:=h.2.2.2.1;have a3:qs.length<=12:=by rw[List.length_append]at a1;omega
  refine⟨λw hm=>?_,by simp only[zm,List.length_cons,List.length_append,List.length_map]at*;omega⟩;simp only[zm,List.mem_cons,List.mem_append]at hm;rcases hm with rfl|rfl|rfl|rfl|hm|rfl|hm;·exact .inl Qa
  ·exact .inl hz
  ·exact .inl (Px _ a3)
  ·exact .inl hk
  ·exact .inl (hp w hm)
  ·exact .inr rfl
  ·exact .inl (hf w hm)
def JG:∀{ws:List Str},(∀w∈ws,w.length<=40)->(ws.map (·.length)).sum<=40*ws.length|[],_=>by simp|w::ws,h=>by have h1:=h w List.mem_cons_self;have h2:=JG (ws:=ws) λx hx=>h x ↑av;simp only[List.map_cons,List.sum_cons,List.length_cons];omega
def YY{x:Str}{ws:List Str}{B:Nat}(hx:x.length<=16)(h:(ws.map (·.length)).sum+ws.length<=1048576):kE [.str x,.lst (sT ws)]=some (false,.str (Str.join x ws)):=by unfold kE;dsimp only;rw[gA];dsimp only;rw[if_pos ⟨h,hx⟩]
def JH{d:D}(h:d.ok)(g:d.wds):kE [.str " ",.lst (sT (zm d))]=some (false,.str (Str.join " " (zm d))):=by
 obtain⟨h1,h2⟩:=dF h g;have:=JG (ws:=zm d) λw hw=>by
  rcases h1 w hw with z|rfl;·exact z.1
  ·decide+kernel
 exact YY (B:=0) ↑aa ↑a
def UN(w:Str):MT:=zX (m2 zG (m2 zk ↑m ↑l) (mC (.str w)))
def Ho(h:m (zJ env)=.ok (b,.lst ts)):iZ m env=.ok (ts,env):=by unfold iZ jR;rw[h];rfl
def ie{d:D}{w:Str}(h:d.w=w)(r:List (Option RV)):xl (UN w) (some (false,d.t)::r)=.ok true:=by have i0:=Zb d;simp[xl,UN,zJ,zQ,zX,m2,mV,mC,i0,qK,h]
def mQ{d:D}{w:Str}(h:¬d.w=w)(r:List (Option RV)):xl (UN w) (some (false,d.t)::r)=.ok false:=by have i0:=Zb d;simp[xl,UN,zJ,zQ,zX,m2,mV,mC,i0,qK,h]
def aV(n:Nat)(h:n<=12):dU [.int ((n:Nat):Int)]=some (false,.str (wQ n)):=by
 have:∀i:Fin 13,(((i.1:Nat):Int).natAbs.log2<1920):=by decide+kernel
 show(if((n:Nat):Int).natAbs.log2<1920 then some (false,T.str (toString ((n:Nat):Int):String))else none)=_;rw[if_pos (this ⟨n,by omega⟩)];rfl
def Lg(h:∀t∈ts,Wp t):ts=sT (ts.map k6):=(YU h).symm
def UO(n d k:Nat):HT.sIx n d (some (k:Int))=min k n:=by show(if((k:Nat):Int)<0 then(((k:Nat):Int)+(n:Int)).toNat else min ((k:Nat):Int).toNat n)=_;rw[if_neg ↑a];simp
def Zc(ts:List T)(a b:Nat)(h:b<=ts.length)(hab:a<=b):qw ts (some (a:Int)) (some (b:Int))=(ts.drop a).take (b-a):=by unfold qw;rw[UO,UO,Nat.min_eq_left (show a<=ts.length by omega),Nat.min_eq_left h]
def UP:∀{ls:List (List Str)}{i:Nat}{l:List Str},(∀l∈ls,l.length=k)->ls[i]?=some l->(ls.flatten.drop (i*k)).take k=l
 |[],i,l,_,h=>by simp at h|m::ls,0,l,hl,h=>by
  have e:m=l:=by simpa using h
  subst e;have:=hl m List.mem_cons_self;rw[List.flatten_cons,Nat.zero_mul,List.drop_zero,<-this,List.take_left]|m::ls,i+1,l,hl,h=>by have:=hl m List.mem_cons_self;have ih:=UP (ls:=ls) (i:=i) (λx hx=>hl x ↑av) (by simpa using h);rw[List.flatten_cons,Nat.succ_mul,show i*k+k=m.length+i*k by omega,<-List.drop_drop,List.drop_left];exact ih
def dG:∀{ls:List (List Str)},(∀l∈ls,l.length=k)->ls.flatten.length=ls.length*k|[],_=>by simp|m::ls,h=>by rw[List.flatten_cons,List.length_append,dG λl hl=>h l (List.mem_cons_of_mem _ hl),h m List.mem_cons_self,List.length_cons,Nat.succ_mul,Nat.add_comm]
def Zd:∀is:List Nat,(∀i∈is,∃b,me (some (false,f i)::caps)=.ok (b,g i))->xZ zK me caps (is.map f)=.ok (is.map g)|[],_=>rfl|i::is,h=>by obtain⟨b,hi⟩:=h i List.mem_cons_self;have ih:=Zd is λj hj=>h j (List.mem_cons_of_mem _ hj);rw[List.map_cons,List.map_cons];unfold xZ;rw[hi,ih];rfl
def Dc:ME:=zl jS (z3 (k5 (mV 1) (zx ↑m) (zx (m2 zg ↑m (mV 2)))) z5)
def Lh:MA:=z3 ↑l (z3 ↑X ↑V)
def Ze:rg=zc (jN (zX (m2 wS (m2 zY ↑X (mV 1)) ↑l)) (zt (mC .non)) zq) (zt (zW (mw Lh) zK Dc [0,1])):=rfl
def Li(k n:Nat)(hk:0<k):oV 0 ((n*k:Nat):Int) (k:Int)=(List.range n).map λ(i:Nat)=>T.int (0+(i:Int)*(k:Int)):=by
 have:(if(0:Int)<((n*k:Nat):Int)then((((n*k:Nat):Int)-0-1)/(k:Int)+1).toNat else 0)=n:=by cases n with|zero=>simp|succ n=>
   have e1:(0:Int)<(((n+1)*k:Nat):Int):=by have:0<(n+1)*k:=Nat.mul_pos (Nat.succ_pos _) hk;omega
   rw[if_pos e1];have e2:((((n+1)*k:Nat):Int)-0-1)/(k:Int)=n:=by
    have e3:(((n+1)*k:Nat):Int)-0-1=((n*k+(k-1):Nat):Int):=by have:(n+1)*k=n*k+k:=Nat.succ_mul n k;omega
    rw[e3];have:(n*k+(k-1))/k=n:=by rw[Nat.add_comm,Nat.add_mul_div_right _ _ hk,Nat.div_eq_of_lt ↑a];omega
    rw[<-Int.natCast_ediv,this]
   rw[e2];omega
 unfold oV;rw[this]
def mR(k:Nat)(h0:0<k)(h1:k<10)(ls:List (List Str))(hl:∀l∈ls,l.length=k)(hn:ls.length<=12):kF [(true,.lst (sT ls.flatten)),(false,.int (k:Int))]=.ok (true,.lst (ls.map λl=>.tup (sT l))):=by
 refine zZ rfl ?_;rw[Ze];show zc _ _ [some (true,.lst (sT ls.flatten)),some (false,.int (k:Int))]=_;have hL:jA [.lst (sT ls.flatten)]=some (false,.int ((ls.length*k:Nat):Int)):=by show some (false,T.int ((sT ls.flatten).length:Nat))=_;rw[xj,dG hl]
 have hm:zY (.int ((ls.length*k:Nat):Int)) (.int (k:Int))=some (false,.int 0):=by rw[GZ _ k h0,Nat.mul_mod_left];rfl
 have hz:wS (.int 0) (.int 0)=some ↑aA:=rfl;have hb:ls.length*k<=12*10:=Nat.mul_le_mul hn ↑a;rw[zb (e':=[some (true,.lst (sT ls.flatten)),some (false,.int (k:Int))])]
 ·refine ve ?_ ?_
  ·unfold zW;have hr:mw Lh [some (true,.lst (sT ls.flatten)),some (false,.int (k:Int))]=.ok ((List.range ls.length).map λ(i:Nat)=>T.int (0+(i:Int)*(k:Int))):=by have ha:Lh [some (true,.lst (sT ls.flatten)),some (false,.int (k:Int))]=.ok [(false,.int 0),(false,.int ((ls.length*k:Nat):Int)),(false,.int (k:Int))]:=vC rfl (vC (vK ↑q hL) ↑q);unfold mw;rw[ha,bind_ok];show(if(0:Int)<=0/\(0:Int)<2^30/\0<=((ls.length*k:Nat):Int)/\((ls.length*k:Nat):Int)<2^30/\0<(k:Int)/\(k:Int)<2^30 then gl.ok (oV 0 ((ls.length*k:Nat):Int) (k:Int))else .bad)=_;rw[if_pos ↑a,Li k ls.length h0]
   rw[hr,bind_ok,if_pos (by rw[List.length_map,List.length_range];have:=big;omega)];rw[Zd (g:=λi=>T.tup (sT (ls.getD i []))) (List.range ls.length) λi hi=>?_]
   ·have:(List.range ls.length).map (λi=>T.tup (sT (ls.getD i [])))=ls.map λl=>T.tup (sT l):=by
     apply List.ext_getElem?;intro j;rw[List.getElem?_map,List.getElem?_map];by_cases hj:j<ls.length;·rw[List.getElem?_range hj,List.getElem?_eq_getElem hj];simp[List.getD_eq_getElem?_getD,List.getElem?_eq_getElem hj]
     ·rw[List.getElem?_eq_none ↑aO,List.getElem?_eq_none ↑a];rfl
    rw[this]
   ·have hi:=List.mem_range.mp hi;refine⟨false,?_⟩;have hik:i*k+k<=ls.length*k:=by have:(i+1)*k<=ls.length*k:=Nat.mul_le_mul_right k hi;rwa[Nat.succ_mul]at this
    have hs:dR (.lst (sT ls.flatten)) (some ((i*k:Nat):Int)) (some ((i*k+k:Nat):Int))=some (true,.lst (sT (ls.getD i []))):=by show some (true,T.lst (qw (sT ls.flatten) (some ((i*k:Nat):Int)) (some ((i*k+k:Nat):Int))))=_;rw[Zc _ _ _ (by rw[xj,dG hl];exact hik) ↑a,show i*k+k-i*k=k by omega];unfold sT;rw[<-List.map_drop,<-List.map_take,UP hl (List.getElem?_eq_getElem hi),List.getD_eq_getElem?_getD,List.getElem?_eq_getElem hi];rfl
    have e1:(0:Int)+(i:Int)*(k:Int)=((i*k:Nat):Int):=by rw[Int.zero_add,Int.natCast_mul]
    have e2:zg (.int ((i*k:Nat):Int)) (.int (k:Int))=some (false,.int ((i*k+k:Nat):Int)):=by rw[add_int,Int.natCast_add]
    rw[e1];exact vK (vC (vS rfl rfl (vN (v2 rfl rfl e2)) hs) rfl) rfl
  ·rfl
 ·refine zS (j8 ?_ ?_);·rfl
  ·exact vT (v2 (v2 (vK ↑q hL) rfl hm) rfl hz)
def nL(x:Str):∀ws:List Str,(Str.join x ws).length<=(ws.map (·.length)).sum+ws.length*x.length
 |[]=>Nat.zero_le _|[w]=>by show w.length<=_;simp|w::v::ws=>by
  have ih:=nL x (v::ws);have e:(Str.join x (w::v::ws)).length=w.length+x.length+(Str.join x (v::ws)).length:=by show((w++x)++Str.join x (v::ws)).length=_;rw[<-jt,jJ,jJ,List.length_append,List.length_append,jt,jt,jt]
  rw[e];simp only[List.map_cons,List.sum_cons,List.length_cons,Nat.succ_mul]at ih⊢;omega
def Pz:(" ":Str)=⟨#[32]⟩:=by decide+kernel
def Lj:("\n":Str)=⟨#[10]⟩:=by decide+kernel
def Zf(hy:y=⟨#[c]⟩)(hn:ws≠[])(hf:∀w∈ws,c∉w.cps.toList)(hs:(ws.map (·.length)).sum+ws.length<=100000):fE [.str (Str.join y ws),.str y]=some (true,.lst (sT ws)):=by
 subst hy;have hl:=nL ⟨#[c]⟩ ws;have h1:(⟨#[c]⟩:Str).length=1:=rfl;rw[h1,Nat.mul_one]at hl;have hb:100002<=sizeLine:=by decide
 have hc:=uy c ws hn hf;show(if(Str.join ⟨#[c]⟩ ws).length+2<=sizeLine then some (true,T.lst ((gp c (Str.join ⟨#[c]⟩ ws).cps.toList).map λl=>T.str ⟨l.toArray⟩))else none)=_;rw[if_pos ↑a,hc,List.map_map];rfl
def Qb:∀(ts:List T)(e0 e1 e2:Option RV),(∀t∈ts,∃a b c k,g t=.tup [a,b,c]/\me [some (false,a),some (false,b),some (false,c)]=.ok (k,f t))->qF ↑ah zK me [e0,e1,e2] (ts.map g)=.ok (ts.map f)|[],_,_,_,_=>rfl|t::ts,e0,e1,e2,h=>by obtain⟨a,b,c,k,e,hm⟩:=h _ List.mem_cons_self;have ih:=Qb ts (some (false,a)) (some (false,b)) (some (false,c)) λu hu=>h u ↑z;rw[List.map_cons,e];show(match me [some (false,a),some (false,b),some (false,c)]with|.ok r=>(match qF ↑ah zK me [some (false,a),some (false,b),some (false,c)] (ts.map g)with|.ok rs=>gl.ok (r.2::rs)|_=>.bad)|_=>.bad)=_;rw[hm,ih];rfl
def HZ{me:ME}{f g:T->T}{env:En}{b:Bool}{ts P:List T}(hP:ts.map g=P)(i:Nat)(hi:env[i]?=some (some (b,.lst P)))(hl:P.length<900)(h:∀t∈ts,∃a b c k,g t=.tup [a,b,c]/\me [some (false,a),some (false,b),some (false,c)]=.ok (k,f t)):jU (jF (mV i)) ↑ah zK me 3 [] env=.ok (true,.lst (ts.map f)):=by
 unfold jU;have:jF (mV i) env=.ok P:=by unfold jF;rw[vV hi];rfl
 rw[this,bind_ok,if_pos (by have:=big;omega)];have:=Qb ts none none none h;rw[hP]at this;show(match qF _ zK me [none,none,none] P with|.ok rs=>gl.ok (true,T.lst rs)|_=>.bad)=_;rw[this]
def aW{me:ME}{mg:MG}{mt:MT}{env:En}(i:Nat)(hi:env[i]?=some none):jU (jF (mV i)) mg mt me 3 [] env=.bad:=by unfold jU jF mV;rw[hi];rfl
def Qc{ts:List T}:uU [.lst (ts.map λ_=>T.bl true)]=some ↑h:=by rw[List.map_const'];exact nC ts.length
def JI{R:List T->Prop}{ts:List T}:(ts.map wd).map (λl=>T.tup (sT l))=ts.map λt=>T.tup (sT (wd t)):=by rw[List.map_map];rfl
def aX(ts:List T):ts.flatMap wd=(ts.map wd).flatten:=by rw[List.flatMap_def]
def YZ(m:Bool):ko.lookup (pK m)=some (.bl m):=by cases m<;>rfl
def PB(m:Bool):pG.lookup (QD m)=some (.bl m):=by cases m<;>rfl
def Qd(m:Bool):gO.lookup (Pw m)=some (.bl m):=by cases m<;>rfl
def Zg(d s:Bool):wW.lookup (WK d s)=some (.tup [.bl d,.bl s]):=by cases d<;>cases s<;>rfl
def Cd:ME:=z9 kF (z3 (k5 ↑m (zx ↑k) zO) (z3 ↑k z5))
def DC:MT:=w9 (zX (m2 gm ↑X ↑k)) (w9 (zX (m2 uz (mV 1) (mC .non))) (zX (gM false ko ↑ag)))
def g3:MG:=nQ 3 (xy (gN 0) (xy (gN 1) (xy (gN 2) nP)))
def Dd:MT:=xk (km (zl uU (z3 (jU (jF (mV 1)) g3 zK (gM true wW (mV 2)) 3 []) z5)))
def Ce:ME:=zl jS (z3 (jU (jF (mV 1)) g3 zK (m2 zg (jL (z3 ↑m ↑V)) (k7 wW (mV 2))) 3 []) z5)
def Cf(w:Str):ME:=jL (z3 (mC (.str w)) (z3 ↑ai (z3 (k7 ko ↑ag) ↑az)))
def PD:u8=zc (zn 1 Cd) (zc (jN DC (zt (mC .non)) zq) (zc (jN Dd (zt (mC .non)) zq) (zc (zn 2 Ce) (zt (Cf "record"))))):=rfl
def Qe{a:Nat}{b:Int}(h:b<=a):gm (.int (a:Int)) (.int b)=some ↑aA:=by show some (false,T.bl (decide ((a:Int)<b)))=_;rw[decide_eq_false ↑a]
def nM(ws:List Str)(i:Nat):zk (.lst (sT ws)) (.int (i:Int))=ws[i]?.map λy=>(false,T.str y):=dh ws i
def ig(ws:List Str)(k:Nat):dR (.lst (sT ws)) (some (k:Int)) none=some (true,.lst (sT (ws.drop k))):=by show some (true,T.lst (qw (sT ws) (some (k:Int)) none))=_;rw[nB];unfold sT;rw[List.map_drop]
def Qf{m:Bool}{t:T}(h:vn (RF m) t):∃y kd d s,t=.tup [.str y,.str kd,.bl d,.bl s]:=by obtain⟨y,kd,r,rfl,_,_,d,s,rfl,_⟩:=h;exact⟨y,kd,d,s,rfl⟩
def PF(z:Str)(m:Bool)(ps:List T)(h:fq (vn (RF m)) ps):kr [(false,.lst (sT (zm (.rc z m ps))))]=.ok (false,(D.rc z m ps).t):=by
 refine zZ rfl ?_;rw[PD];show zc _ _ [some (false,.lst (sT (zm (.rc z m ps)))),none,none]=_;have i1:zk (.lst (sT (zm (.rc z m ps)))) (.int 1)=some ↑j:=nM _ 1;have i2:zk (.lst (sT (zm (.rc z m ps)))) (.int 2)=some (false,.str (pK m)):=nM _ 2;have s3:dR (.lst (sT (zm (.rc z m ps)))) (some 3) none=some (true,.lst (sT (ps.map wd).flatten)):=by rw[<-aX];exact ig (zm (.rc z m ps)) 3
 have hl:jA [.lst (sT (zm (.rc z m ps)))]=some (false,.int ((3+(ps.flatMap wd).length:Nat):Int)):=by show some (false,T.int (((sT (zm (.rc z m ps))).length:Nat):Int))=_;rw[xj];simp only[zm,List.length_cons];rw[Nat.add_comm 3]
 have hlt:=Qe (a:=3+(ps.flatMap wd).length) (b:=3) ↑a;have hk:∀l∈ps.map wd,l.length=3:=λl hl=>by obtain⟨t,ht,rfl⟩:=List.mem_map.mp hl;obtain⟨y,kd,d,s,rfl⟩:=Qf (h.2.2 t ht);rfl
 have hp:=mR 3 ↑a ↑a (ps.map wd) hk (by rw[List.length_map];exact h.1);rw[JI (R:=R0)]at hp;have hm:=YZ m;have nf:=gB (gD (λr hr u hu=>by obtain⟨d,s,rfl,_⟩:=hr;simp at hu;rcases hu with rfl|rfl<;>exact nH _) h);have hPl:(ps.map λt=>T.tup (sT (wd t))).length<900:=by rw[List.length_map];have:=h.1;omega
 generalize((3+(ps.flatMap wd).length:Nat):Int)=N at hl hlt;generalize hW:sT (zm (.rc z m ps))=W at*;generalize hP:(ps.map λt=>T.tup (sT (wd t)))=P at*;rw[zb (e':=[some ↑a4,some (true,.lst P),none]) (zw (vF (vC (vS rfl rfl rfl s3) ↑q) hp))];have r2:xl DC [some ↑a4,some (true,.lst P),none]=.ok false:=j8 (pP (vT (v2 (vK ↑q hl) rfl hlt)) rfl) (pP (vT (v2 (vK ↑q hl) rfl hlt)) (pP rfl (vT (vI (v2 rfl rfl i2) hm))));rw[zb (zS r2)];have c3:jU (jF (mV 1)) g3 zK (gM true wW (mV 2)) 3 [] [some ↑a4,some (true,.lst P),none]=.ok (true,.lst (ps.map λ_=>.bl true)):=HZ hP 1 rfl hPl λt ht=>by obtain⟨y,kd,d,s,rfl⟩:=Qf (h.2.2 t ht);exact⟨_,_,_,false,rfl,vI rfl (Zg d s)⟩
 have b3:jU (jF (mV 1)) g3 zK (gM true wW (mV 2)) 3 [] (zJ [some ↑a4,some (true,.lst P),none])=.bad:=aW 1 rfl;have ha:=Qc (ts:=ps);have r3:xl Dd [some ↑a4,some (true,.lst P),none]=.ok false:=j8 (by unfold Dd xk km;rw[HQ b3];rfl) (rn (vK (vC c3 rfl) ha));rw[zb (zS r3)];have c4:jU (jF (mV 1)) g3 zK (m2 zg (jL (z3 ↑m ↑V)) (k7 wW (mV 2))) 3 [] [some ↑a4,some (true,.lst P),none]=.ok (true,.lst ps):=by refine(HZ (f:=id) hP 1 rfl hPl λt ht=>?_).trans (by rw[List.map_id]);obtain⟨y,kd,d,s,rfl⟩:=Qf (h.2.2 t ht);exact⟨_,_,_,false,rfl,v2 (vP ↑aR rfl rfl) (vG rfl (Zg d s)) (pI (us:=[.bl d,.bl s]) Cc)⟩
 have b4:jU (jF (mV 1)) g3 zK (m2 zg (jL (z3 ↑m ↑V)) (k7 wW (mV 2))) 3 [] (zJ [some ↑a4,some (true,.lst P),none])=.bad:=aW 1 rfl;rw[zb (e':=[some ↑a4,some (true,.lst P),some (false,.tup ps)]) (xv (r:=(false,.tup ps)) (vK (vC c4 rfl) rfl) (.inl (HQ b4)) (jB nf.1 nf.2.1 nf.2.2))];refine j9 ?_;exact vP (vC rfl (vC (v2 rfl rfl i1) (vC (vG (v2 rfl rfl i2) hm) ↑q))) rfl rfl
def Cg:ME:=z9 kF (z3 (k5 ↑m (zx ↑D) zO) (z3 ↑i z5))
def DD:MT:=w9 (zX (m2 gm ↑X ↑D)) (w9 (zX (m2 uz (mV 1) (mC .non))) (w9 (zX (gM false ko ↑ag)) (zX (gM false pG ↑af))))
def Ch(w:Str):ME:=jL (z3 (mC (.str w)) (z3 ↑ai (z3 (k7 ko ↑ag) (z3 (k7 pG ↑af) (z3 (zl jS ↑V) z5)))))
def PH:u9=zc (zn 1 Cg) (zc (jN DD (zt (mC .non)) zq) (zt (Ch "choice"))):=rfl
def PJ(z:Str)(m s:Bool)(ps:List T)(h:fq (vn R0) ps):kx [(false,.lst (sT (zm (.ch z m s ps))))]=.ok (false,(D.ch z m s ps).t):=by
 refine zZ rfl ?_;rw[PH];show zc _ _ [some (false,.lst (sT (zm (.ch z m s ps)))),none]=_;have i1:zk (.lst (sT (zm (.ch z m s ps)))) (.int 1)=some ↑j:=nM _ 1;have i2:zk (.lst (sT (zm (.ch z m s ps)))) (.int 2)=some (false,.str (pK m)):=nM _ 2;have i3:zk (.lst (sT (zm (.ch z m s ps)))) (.int 3)=some (false,.str (QD s)):=nM _ 3;have s3:dR (.lst (sT (zm (.ch z m s ps)))) (some 4) none=some (true,.lst (sT (ps.map wd).flatten)):=by rw[<-aX];exact ig (zm (.ch z m s ps)) 4
 have hl:jA [.lst (sT (zm (.ch z m s ps)))]=some (false,.int ((4+(ps.flatMap wd).length:Nat):Int)):=by show some (false,T.int (((sT (zm (.ch z m s ps))).length:Nat):Int))=_;rw[xj];simp only[zm,List.length_cons];rw[Nat.add_comm 4]
 have hlt:=Qe (a:=4+(ps.flatMap wd).length) (b:=4) ↑a;have pf:∀t∈ps,∃y kd,t=.tup [.str y,.str kd]:=λt ht=>by obtain⟨y,kd,r,rfl,_,_,hr⟩:=h.2.2 t ht;obtain rfl:r=[]:=hr;exact⟨y,kd,rfl⟩
 have hk:∀l∈ps.map wd,l.length=2:=λl hl=>by obtain⟨t,ht,rfl⟩:=List.mem_map.mp hl;obtain⟨y,kd,rfl⟩:=pf t ht;rfl
 have hp:=mR 2 ↑a ↑a (ps.map wd) hk (by rw[List.length_map];exact h.1);rw[JI (R:=R0)]at hp;have hP:(ps.map λt=>T.tup (sT (wd t)))=ps:=by
  conv=>rhs;rw[<-List.map_id ps]
  apply List.map_congr_left;intro t ht;obtain⟨y,kd,rfl⟩:=pf t ht;rfl
 rw[hP]at hp;have hm:=YZ m;have hsh:=PB s;generalize((4+(ps.flatMap wd).length:Nat):Int)=N at hl hlt;generalize hW:sT (zm (.ch z m s ps))=W at*;rw[zb (e':=[some ↑a4,some (true,.lst ps)]) (zw (vF (vC (vS rfl rfl rfl s3) ↑q) hp))];have r2:xl DD [some ↑a4,some (true,.lst ps)]=.ok false:=j8 (pP (vT (v2 (vK ↑q hl) rfl hlt)) rfl) (pP (vT (v2 (vK ↑q hl) rfl hlt)) (pP rfl (pP (vT (vI (v2 rfl rfl i2) hm)) (vT (vI (v2 rfl rfl i3) hsh)))));rw[zb (zS r2)];exact ve (vP (vC rfl (vC (v2 rfl rfl i1) (vC (vG (v2 rfl rfl i2) hm) (vC (vG (v2 rfl rfl i3) hsh) (vC (vK ↑q rfl) rfl))))) rfl rfl) (ET (vB rfl (vB (v2 rfl rfl i1) (vB (vG (v2 rfl rfl i2) hm) (vB (vG (v2 rfl rfl i3) hsh) rfl)))))
def PK(hi:i<=12)(hj:j<=12)(h:wQ i=wQ j):i=j:=by
 have:∀a b:Fin 13,wQ a.1=wQ b.1->a=b:=by decide+kernel
 have:=this ⟨i,by omega⟩ ⟨j,by omega⟩ h;exact Fin.mk.inj this
def Lk:MS:=jN (zX (m2 zG ↑m (zl dU ↑az))) (xx 2) zq
def PL:np=zc (xF (fy (z3 (m2 zg (zl jA ↑V) ↑c) z5)) (gN 2) Lk) (zt (mC .non)):=rfl
def X0(p:Nat)(hp:p<=12)(P:T):∀(m k:Nat)(e2:Option RV),k<=p->p<k+m->k+m<=13->xP (gN 2) Lk ((List.range' k m).map λ(i:Nat)=>T.int (i:Int)) [some (false,.str (wQ p)),some (false,P),e2]=.rt (false,.int (p:Int))
 |0,k,e2,h1,h2,_=>absurd h2 ↑a|m+1,k,e2,h1,h2,h3=>by
  have hs:=aV k ↑a;rw[List.range'_succ,List.map_cons];have hb:∀q:Bool,q=decide (wQ p=wQ k)->xl (zX (m2 zG ↑m (zl dU ↑az))) [some (false,.str (wQ p)),some (false,P),some (false,.int (k:Int))]=.ok q:=λq hq=>by subst hq;simp only[xl,zJ,zQ,List.map_cons,List.map_nil,zX,m2,mV,zl,z3,z5,bind_ok,List.getElem?_cons_zero,List.getElem?_cons_succ,hs,ofO_some,qK]
  by_cases hk:k=p
  ·subst hk;have:=hb true ↑T;unfold xP;show(match Lk [some (false,.str (wQ k)),some (false,P),some (false,.int (k:Int))]with|.nx e2=>xP (gN 2) Lk _ e2|.ct e2=>xP (gN 2) Lk _ e2|.bk e2=>.nx e2|o=>o)=_;have e:Lk [some (false,.str (wQ k)),some (false,P),some (false,.int (k:Int))]=.rt (false,.int (k:Int)):=by unfold Lk;rw[kY this];rfl
   rw[e]
  ·have hne:¬wQ p=wQ k:=λe=>hk (PK hp ↑a e).symm;have:=hb false (decide_eq_false hne).symm;rw[jy (YJ rfl) (e2:=[some (false,.str (wQ p)),some (false,P),some (false,.int (k:Int))])];·exact X0 p hp P m (k+1) _ ↑a ↑a ↑a
   ·exact zS this
def cu(p:Nat)(P:List T)(hp:p<=P.length)(hl:P.length<=12):wy [(false,.str (wQ p)),(false,.lst P)]=.ok (false,.int (p:Int)):=by
 refine zZ rfl ?_;rw[PL];show zc _ _ [some (false,.str (wQ p)),some (false,.lst P),none]=_;refine gb ?_;rw[lX];·exact X0 p ↑a _ (P.length+1) 0 none ↑aV ↑a ↑a
 ·have e:zg (.int ((P.length:Nat):Int)) (.int 1)=some (false,.int ((P.length+1:Nat):Int)):=by rw[add_int];rfl
  have l:jA [.lst P]=some (false,.int ((P.length:Nat):Int)):=rfl;simp only[ou,zJ,zQ,List.map_cons,List.map_nil,z3,z5,m2,zl,mV,mC,bind_ok,List.getElem?_cons_zero,List.getElem?_cons_succ,l,ofO_some,e]
 ·omega
def PM(x y:Str):fk 40 (.str x) (.str y)=some (decide (x=y)):=by have h:=qK x y;unfold zG at h;cases e:fk 40 (.str x) (.str y)with|none=>rw[e]at h;cases h|some b=>rw[e]at h;have h:some (false,T.bl b)=some (false,T.bl (decide (x=y))):=h;injection h with h;injection h with _ h;injection h with h;rw[h]
def Zh(x:Str):∀ws:List Str,vz (.str x) (sT ws)=some (decide (x∈ws))
 |[]=>by simp[sT,vz]|w::ws=>by
  have ih:=Zh x ws;show(match fk 40 (.str w) (.str x)with|none=>none|some a=>match vz (.str x) (sT ws)with|none=>none|some b=>some (a||b))=_;rw[PM,ih];by_cases h:x=w;·subst h;simp
  ·have:¬w=x:=λe=>h e.symm;simp[h,this]
def dH:∀{A B:List Str},(∀a∈A,a≠z)->(A++z::B).findIdx? (·==z)=some A.length|[],B,_=>by simp[List.findIdx?_cons]|a::A,B,h=>by have ih:=dH (A:=A) (B:=B) λx hx=>h x ↑av;have ha:(a==z)=false:=beq_eq_false_iff_ne.mpr (h a List.mem_cons_self);rw[List.cons_append,List.findIdx?_cons,ha];simp[ih]
def Hq(h:Wd w):w≠":":=by intro e;subst e;exact(h.2 58 ↑aa).2.2 rfl
def DE(w:Str):MT:=zX (m2 oo (mC (.str w)) (k5 ↑m (zx ↑D) zO))
def Ci(w:Str):ME:=eF ER mq ↑m (z3 (mC (.str w)) (z3 ↑D z5))
def Cj:ME:=z9 kF (z3 (k5 ↑m (zx ↑D) (zx (mV 1))) (z3 ↑k z5))
def DF:MT:=w9 (zX (m2 uz (mV 2) (mC .non))) (xk (km (zl uU (z3 (jU (jF (mV 2)) g3 zK (gM true gO (mV 2)) 3 []) z5))))
def De(f:MF):ME:=z9 f (z3 ↑ag ↑az)
def DG:MT:=zX (m2 uz (mV 3) (mC .non))
def Ck:ME:=zl jS (z3 (jU (jF (mV 2)) g3 zK (jL (z3 ↑m (z3 (mV 1) (z3 (k7 gO (mV 2)) z5)))) 3 []) z5)
def Cl(w:Str):ME:=jL (z3 (mC (.str w)) (z3 ↑ai (z3 (mV 3) (z3 (mV 4) (z3 ↑af (z3 (zl jS (z3 (k5 ↑m (zx (m2 zg (mV 1) ↑c)) zO) z5)) z5))))))
def PN:ff=zc (jN (DE ":") (zt (mC .non)) zq) (zc (zn 1 (Ci ":")) (zc (zn 2 Cj) (zc (jN DF (zt (mC .non)) zq) (zc (zn 3 (De wy)) (zc (jN DG (zt (mC .non)) zq) (zc (zn 4 Ck) (zt (Cl "function")))))))):=rfl
def PP(f:MF)(o1 o3 o4:Option RV)(i2:zk (.lst W) (.int 2)=some ↑S)(h:f [↑S,(false,.lst P)]=.ok r):De f [some ↑a4,o1,some (true,.lst P),o3,o4]=.ok r:=by exact vF (vC (v2 rfl rfl i2) ↑q) h
def PR(f:MF)(o1 o3 o4:Option RV)(i2:zk (.lst W) (.int 2)=some ↑S):De f (zJ [some ↑a4,o1,some (true,.lst P),o3,o4])=.bad:=by exact Dt (vB (v2 rfl rfl i2) rfl)
def PU(z:Str)(qs ps:List T)(kd:Str)(fs:List T)(h:(D.fn z qs ps kd fs).ok)(g:(D.fn z qs ps kd fs).wds):vd [(false,.lst ↑ae)]=.ok (false,(D.fn z qs ps kd fs).t):=by
 refine zZ rfl ?_;rw[PN];show zc _ _ [some (false,.lst ↑ae),none,none,none,none]=_;have hr:=h.2.2.1;have hff:=h.2.2.2;have i1:zk (.lst ↑ae) (.int 1)=some ↑j:=nM _ 1;have i2:zk (.lst ↑ae) (.int 2)=some (false,.str (wQ qs.length)):=nM _ 2;have i3:zk (.lst ↑ae) (.int 3)=some ↑aN:=nM _ 3;have hA:∀w∈(qs++ps).flatMap wd,w≠":":=λw hw=>Hq (ic Hn hr.2.2 (λy hy=>g y (by simp[D.t,j5,strsL,hy])) w hw);have hd:(zm (.fn z qs ps kd fs)).drop 4=(qs++ps).flatMap wd++(":":Str)::fs.map k6:=rfl;have s4:dR (.lst ↑ae) (some 4) none=some (true,.lst (sT ((qs++ps).flatMap wd++(":":Str)::fs.map k6))):=by rw[<-hd];exact ig _ 4
 have hin:oo (.str ":") (.lst (sT ((qs++ps).flatMap wd++(":":Str)::fs.map k6)))=some ↑aA:=by show(vz (.str ":") (sT ((qs++ps).flatMap wd++(":":Str)::fs.map k6))).map _=_;rw[Zh,decide_eq_true ↑T];rfl
 have hix:mq [.lst ↑ae,.str ":",.int 4]=some (false,.int ((4+((qs++ps).flatMap wd).length:Nat):Int)):=by unfold mq;dsimp only;rw[gA];dsimp only;rw[if_pos ↑a];unfold K8;rw[show((4:Int).toNat)=4 from rfl,hd,dH hA];rfl
 have hlw:=mP Hn hr.2.2;have hl12:=hr.1;have e4:((4+((qs++ps).flatMap wd).length:Nat))<=(sT (zm (.fn z qs ps kd fs))).length:=by rw[xj];simp only[zm,List.length_cons,List.length_append,List.length_map];omega
 have s5:dR (.lst ↑ae) (some 4) (some ((4+((qs++ps).flatMap wd).length:Nat):Int))=some (true,.lst (sT ((qs++ps).map wd).flatten)):=by show some (true,T.lst (qw ↑ae (some ((4:Nat):Int)) (some ((4+((qs++ps).flatMap wd).length:Nat):Int))))=_;rw[Zc _ 4 _ e4 ↑a,show 4+((qs++ps).flatMap wd).length-4=((qs++ps).flatMap wd).length by omega,<-aX];unfold sT;rw[<-List.map_drop,hd,<-List.map_take,List.take_left]
 have s6:dR (.lst ↑ae) (some ((4+((qs++ps).flatMap wd).length+1:Nat):Int)) none=some (true,.lst fs):=by
  rw[ig];have:(zm (.fn z qs ps kd fs)).drop (4+((qs++ps).flatMap wd).length+1)=fs.map k6:=by rw[Nat.add_assoc,<-List.drop_drop,hd,<-List.drop_drop,List.drop_left];rfl
  rw[this,YU hff.2.2]
 have a1:zg (.int ((4+((qs++ps).flatMap wd).length:Nat):Int)) (.int 1)=some (false,.int ((4+((qs++ps).flatMap wd).length+1:Nat):Int)):=by rw[add_int];rfl
 have pf:∀t∈qs++ps,∃y kd b,t=.tup [.str y,.str kd,.bl b]:=λt ht=>by obtain⟨y,kd,r,rfl,_,_,b,rfl⟩:=hr.2.2 t ht;exact⟨y,kd,b,rfl⟩
 have hk:∀l∈(qs++ps).map wd,l.length=3:=λl hl=>by obtain⟨t,ht,rfl⟩:=List.mem_map.mp hl;obtain⟨y,kd,b,rfl⟩:=pf t ht;rfl
 have hp:=mR 3 ↑a ↑a ((qs++ps).map wd) hk (by rw[List.length_map];exact hr.1);rw[JI (R:=R0)]at hp;have nf:=gB (gD (λr hr u hu=>by obtain⟨d,rfl⟩:=hr;simp at hu;rw[hu];exact nH _) hr);have hPn:((qs++ps).map λt=>T.tup (sT (wd t))).length=(qs++ps).length:=List.length_map _;have hpl:=cu qs.length ((qs++ps).map λt=>T.tup (sT (wd t))) (by rw[hPn,List.length_append];omega) (by rw[hPn];exact hr.1);generalize((4+((qs++ps).flatMap wd).length+1:Nat):Int)=N2 at a1 s6;generalize((4+((qs++ps).flatMap wd).length:Nat):Int)=N at hix s5 a1;generalize hW:sT (zm (.fn z qs ps kd fs))=W at*;generalize sT ((qs++ps).flatMap wd++(":":Str)::fs.map k6)=W4 at s4 hin;generalize hP:((qs++ps).map λt=>T.tup (sT (wd t)))=P at*;have hPl:P.length<900:=by rw[hPn];omega
 generalize wQ qs.length=NW at i2 hpl;generalize sT ((qs++ps).map wd).flatten=A5 at s5 hp;rw[zb (zS (t:=DE ":") (xh (vT (v2 rfl (vS rfl rfl rfl s4) hin))))];rw[zb (e':=[some ↑a4,some (false,.int N),none,none,none]) (zw (vM rfl rfl ↑aR hix))];rw[zb (e':=[some ↑a4,some (false,.int N),some (true,.lst P),none,none]) (zw (vF (vC (vS rfl rfl rfl s5) ↑q) hp))];have c3:jU (jF (mV 2)) g3 zK (gM true gO (mV 2)) 3 [] [some ↑a4,some (false,.int N),some (true,.lst P),none,none]=.ok (true,.lst ((qs++ps).map λ_=>.bl true)):=HZ hP 2 rfl hPl λt ht=>by obtain⟨y,kd,b,rfl⟩:=pf t ht;exact⟨_,_,_,false,rfl,vI rfl (Qd b)⟩
 have ha:=Qc (ts:=qs++ps);rw[zb (zS (t:=DF) (j8 rfl (pP rfl (rn (vK (vC c3 rfl) ha)))))];rw[zb (e':=[some ↑a4,some (false,.int N),some (true,.lst P),some (false,.int (qs.length:Nat)),none]) (xv (PP wy _ _ _ i2 hpl) (.inl (PR wy _ _ _ i2)) (jB rfl rfl rfl))];rw[zb (zS (t:=DG) (xh rfl))];have c6:jU (jF (mV 2)) g3 zK (jL (z3 ↑m (z3 (mV 1) (z3 (k7 gO (mV 2)) z5)))) 3 [] [some ↑a4,some (false,.int N),some (true,.lst P),some (false,.int (qs.length:Nat)),none]=.ok (true,.lst (qs++ps)):=by refine(HZ (f:=id) hP 2 rfl hPl λt ht=>?_).trans (by rw[List.map_id]);obtain⟨y,kd,b,rfl⟩:=pf t ht;exact⟨_,_,_,false,rfl,vP (vC rfl (vC rfl (vC (vG rfl (Qd b)) rfl))) rfl rfl⟩
 have b6:jU (jF (mV 2)) g3 zK (jL (z3 ↑m (z3 (mV 1) (z3 (k7 gO (mV 2)) z5)))) 3 [] (zJ [some ↑a4,some (false,.int N),some (true,.lst P),some (false,.int (qs.length:Nat)),none])=.bad:=aW 2 rfl;rw[zb (e':=[some ↑a4,some (false,.int N),some (true,.lst P),some (false,.int (qs.length:Nat)),some (false,.tup (qs++ps))]) (xv (r:=(false,.tup (qs++ps))) (vK (vC c6 rfl) rfl) (.inl (HQ b6)) (jB nf.1 nf.2.1 nf.2.2))];refine j9 ?_;exact vP (vC rfl (vC (v2 rfl rfl i1) (vC rfl (vC rfl (vC (v2 rfl rfl i3) (vC (vK (vC (vS rfl (vN (v2 rfl rfl a1)) rfl s6) rfl) rfl) rfl)))))) rfl rfl
def gd(h:f e=false)(g:l.any f=false):(e::l).any f=false:=by rw[List.any_cons,h,g];rfl
def PV(h:xl t env=.ok false):jN t a zq env=.nx env:=zS h
def bA:∀{ws:List Str},(∀w∈ws,c∉w.cps.toList)->c∉x.cps.toList->c∉(Str.join x ws).cps.toList
 |[],_,_=>by simp[Str.join,Str.empty]|[w],h,_=>h w List.mem_cons_self|w::v::ws,h,hx=>by
  have ih:=bA (ws:=v::ws) (λu hu=>h u ↑z) hx;show c∉((w++x)++Str.join x (v::ws)).cps.toList;rw[jJ,jJ];intro z;rcases List.mem_append.mp z with z|z
  ·rcases List.mem_append.mp z with z|z;·exact h w List.mem_cons_self z
   ·exact hx z
  ·exact ih z
def j4(d:D):Str:=Str.join " " (zm d)
def Zi(d:D):∃a b r,zm d=d.w::a::b::r:=by cases d<;>exact⟨_,_,_,rfl⟩
def dI(h:d.ok)(g:d.wds)(hc:c=32\/c=10):∀w∈zm d,c∉w.cps.toList:=by
 intro w hw hm;rcases(dF h g).1 w hw with z|rfl
 ·have:=z.2 c hm;rcases hc with rfl|rfl;·exact this.1 rfl
  ·exact this.2.1 rfl
 ·have:=Py c hm;rcases hc with rfl|rfl;·exact this.1 rfl
  ·exact this.2 rfl
def mS(h:d.ok)(g:d.wds):((zm d).map (·.length)).sum+(zm d).length<=2460:=by
 obtain⟨h1,h2⟩:=dF h g;have:=JG (ws:=zm d) λw hw=>by
  rcases h1 w hw with z|rfl;·exact z.1
  ·decide+kernel
 omega
def X1(h:d.ok)(g:d.wds):(j4 d).length<=2460:=by
 have h1:=mS h g;have h2:=nL " " (zm d);have h3:(" ":Str).length=1:=by decide+kernel
 rw[h3,Nat.mul_one]at h2;exact Nat.le_trans h2 h1
def IC:ME:=eF oS fE ↑m (z3 ↑a5 z5)
def E0(w:Str):MT:=zX (m2 zG (m2 zk (mV 1) ↑l) (mC (.str w)))
def E1(f:MF):MS:=zt (z9 f ↑V)
def Qg:nt=zc (zn 1 IC) (zc (jN (E0 "record") (E1 kr) zq) (zc (jN (E0 "choice") (E1 kx) zq) (zc (jN (E0 "function") (E1 vd) zq) (zt (mC .non))))):=rfl
def JJ(w v:Str)(W:List T)(o0:Option RV)(h:zk (.lst W) (.int 0)=some (false,.str v)):xl (E0 w) [o0,some (true,.lst W)]=.ok (decide (v=w)):=j8 rfl (vT (v2 (v2 rfl rfl h) rfl (qK _ _)))
def Qh(f:MF)(W:List T)(o0:Option RV)(r:T)(h:f [↑a4]=.ok (false,r)):E1 f [o0,some (true,.lst W)]=.rt (false,r):=ve (vF ↑q h) rfl
def Ll(h:d.ok)(g:d.wds):qf [(false,.str (j4 d))]=.ok (false,d.t):=by
 refine zZ rfl ?_;rw[Qg];show zc _ _ [some (false,.str (j4 d)),none]=_;obtain⟨a,b,r,hw⟩:=Zi d;have hs:fE [.str (j4 d),.str " "]=some (true,.lst (sT (zm d))):=Zf Pz (by rw[hw];simp) (dI h g (.inl rfl)) (by have:=mS h g;omega);have i0:zk (.lst (sT (zm d))) (.int 0)=some (false,.str d.w):=by rw[hw];exact nM _ 0
 rw[zb (e':=[some (false,.str (j4 d)),some (true,.lst (sT (zm d)))]) (zw (by generalize sT (zm d)=W at hs;exact vM rfl rfl ↑q hs))];have q1:=JJ "record" d.w _ (some (false,.str (j4 d))) i0;have q2:=JJ "choice" d.w _ (some (false,.str (j4 d))) i0;have q3:=JJ "function" d.w _ (some (false,.str (j4 d))) i0;cases d with|rc z m ps=>rw[decide_eq_true (show(D.rc z m ps).w="record"from rfl)]at q1;exact kf q1 (Qh _ _ _ _ (PF z m ps h.2))|ch z m s ps=>rw[decide_eq_false (show¬(D.ch z m s ps).w="record"from KJ)]at q1;rw[decide_eq_true (show(D.ch z m s ps).w="choice"from rfl)]at q2;rw[zb (zS q1)];exact kf q2 (Qh _ _ _ _ (PJ z m s ps h.2))|fn z qs ps kd fs=>rw[decide_eq_false (show¬(D.fn z qs ps kd fs).w="record"from KK)]at q1;rw[decide_eq_false (show¬(D.fn z qs ps kd fs).w="choice"from KL)]at q2;rw[decide_eq_true (show(D.fn z qs ps kd fs).w="function"from rfl)]at q3;rw[zb (zS q1),zb (zS q2)];exact kf q3 (Qh _ _ _ _ (PU z qs ps kd fs h g))
def E2:ME:=vA (zX (m2 wS ↑m (mC (.str "")))) (eF oS fE ↑m (z3 (mC (.str "\n")) z5)) (jo z5)
def LB:MS:=zc (zn 4 (z9 qf (z3 (mV 3) z5))) (zc (jN (zX (m2 uz (mV 4) (mC .non))) NV zq) (kQ 2 (mV 4)))
def Cm(c:CA):ME:=z9 (vR c) ↑az
def Cn:MT:=zX (m2 gm (zl jA ↑az) (zl jA ↑V))
def Qi(c:CA):lj c=zc (zn 1 E2) (zc (zn 2 (jo z5)) (zc (xF (lF 1) (gN 3) LB) (zc (zn 5 (Cm c)) (zc (jN Cn NX zq) (xx 5))))):=rfl
def X2(o0 o1 e5:Option RV):∀(es:List D)(acc:List T)(e3 e4:Option RV),(∀d∈es,d.ok/\d.wds)->acc.length+es.length<900->zQ e3=e3->zQ e4=e4->∃a b,(zQ a=a/\zQ b=b)/\xP (gN 3) LB (es.map λd=>T.str (j4 d)) [o0,o1,some (true,.lst acc),e3,e4,e5]=.nx [o0,o1,some (true,.lst (acc++es.map D.t)),a,b,e5]
 |[],acc,e3,e4,_,_,v3,v4=>⟨e3,e4,⟨v3,v4⟩,by show _=Gf.nx [o0,o1,some (true,.lst (acc++[])),e3,e4,e5];rw[List.append_nil];rfl⟩|d::es,acc,e3,e4,h,hl,v3,v4=>by
  rw[List.length_cons]at hl;obtain⟨hok,hwd⟩:=h d List.mem_cons_self;have hr:=Ll hok hwd;have nf:=i8 3 _ (nK hok);obtain⟨a,b,v,ih⟩:=X2 o0 o1 e5 es (acc++[d.t]) (some (false,.str (j4 d))) (some (false,d.t)) (λe he=>h e (List.mem_cons_of_mem _ he)) ↑aO rfl rfl;refine⟨a,b,v,?_⟩;obtain⟨q,e⟩:=aT d;have hno:uz d.t .non=some ↑aA:=by rw[e];rfl
  rw[List.map_cons,jy (YJ rfl)];·rw[ih];simp
  ·show LB [o0,o1,some (true,.lst acc),some (false,.str (j4 d)),e4,e5]=_;unfold LB;rw[zb (e':=[o0,o1,some (true,.lst acc),some (false,.str (j4 d)),some (false,d.t),e5]) (zw (vF ↑q hr))];rw[zb (zS (xh (vT (v2 rfl rfl hno))))];exact aC (r:=(false,d.t)) rfl rfl (by have:=big;omega)
def PX(h:∀d∈es,d.ok/\d.wds)(hn:es≠[]):¬Str.join "\n" (es.map j4)="":=by intro e;cases es with|nil=>exact hn rfl|cons d es=>
  obtain⟨hok,hwd⟩:=h d List.mem_cons_self;obtain⟨a,b,r,hw⟩:=Zi d;have h1:(j4 d).length<=(Str.join "\n" ((d::es).map j4)).length:=by cases es with|nil=>exact Nat.le_refl _|cons e' es=>show _<=((j4 d++"\n")++Str.join "\n" ((e'::es).map j4)).length;rw[<-jt,<-jt,jJ,jJ,List.length_append,List.length_append];omega
  have h2:0<(j4 d).length:=by
   unfold j4;rw[hw];show 0<((d.w++" ")++Str.join " " (a::b::r)).length;rw[<-jt,jJ,jJ,List.length_append,List.length_append];have:(" ":Str).cps.toList.length=1:=by decide+kernel
   omega
  rw[e]at h1;have h3:("":Str).length=0:=by decide+kernel
  omega
def Zj(c:CA)(h:∀d∈es,d.ok/\d.wds)(hA:ji es)(hl:es.length<=13):kG c [↑a1]=.ok (false,pR c es):=by
 refine zZ rfl ?_;rw[Qi];show zc _ _ [some ↑a1,none,none,none,none,none]=_;have ok:∀d∈es,d.ok:=λd hd=>(h d hd).1;have hsz:(((es.map j4).map (·.length)).sum+(es.map j4).length)<=100000:=by
  have:∀{l:List Str},(∀w∈l,w.length<=2460)->(l.map (·.length)).sum<=2460*l.length:=by intro l;induction l with|nil=>intro _;simp|cons w l ih=>intro hh;have h1:=hh w List.mem_cons_self;have h2:=ih λx hx=>hh x ↑av;simp only[List.map_cons,List.sum_cons,List.length_cons];omega
  have:=this (l:=es.map j4) λw hw=>by obtain⟨d,hd,rfl⟩:=List.mem_map.mp hw;exact X1 (h d hd).1 (h d hd).2
  rw[List.length_map]at this⊢;omega
 have hfree:∀w∈es.map j4,10∉w.cps.toList:=λw hw=>by obtain⟨d,hd,rfl⟩:=List.mem_map.mp hw;exact bA (dI (h d hd).1 (h d hd).2 (.inr rfl)) ↑aa
 have hs1:E2 [some ↑a1,none,none,none,none,none]=.ok (true,.lst (sT (es.map j4))):=by
  have h0:0<=sizeLine:=by decide
  by_cases hn:es=[]
  ·subst hn;have e:(Str.join "\n" (([]:List D).map j4))="":=by decide+kernel
   rw[e];simp[E2,vA,zX,m2,mV,mC,gT,jo,z5,h0,sT]
  ·have hne:=PX h hn;have hsp:=Zf Lj (ws:=es.map j4) (by simpa using hn) hfree hsz;generalize sT (es.map j4)=Z at hsp;generalize Str.join "\n" (es.map j4)=X at hsp hne;simp[E2,vA,zX,m2,mV,mC,gT,hne,eF,oS,z3,z5,hsp]
 have h0:0<=sizeLine:=by decide
 generalize Str.join "\n" (es.map j4)=X at hs1;rw[zb (zw hs1)];rw[zb (e':=[some (false,.str X),some (true,.lst (sT (es.map j4))),some (true,.lst []),none,none,none]) (zw (vL (rs:=[]) rfl rfl rfl))];obtain⟨a,b,⟨va,vb⟩,hL⟩:=X2 (some (false,.str X)) (some (false,.lst (sT (es.map j4)))) none es [] none none h ↑aO rfl rfl;have hit:sT (es.map j4)=es.map λd=>T.str (j4 d):=by unfold sT;rw[List.map_map];rfl
 rw[zb (e':=[some (false,.str X),some (false,.lst (sT (es.map j4))),some (true,.lst (es.map D.t)),a,b,none])];rotate_left
 ·have:xF (lF 1) (gN 3) LB [some (false,.str X),some (true,.lst (sT (es.map j4))),some (true,.lst []),none,none,none]=xP (gN 3) LB (sT (es.map j4)) [some (false,.str X),some (false,.lst (sT (es.map j4))),some (true,.lst []),none,none,none]:=rfl;rw[this];conv=>lhs;arg 3;rw[hit]
  rw[hL];rfl
 have hfr:vR c [(false,.lst (es.map D.t))]=.ok (false,pR c es):=by refine zZ rfl ?_;exact kI (Q7 c ok hA hl (i:=0) rfl) rfl
 obtain⟨_,ca,da⟩:=YV va;obtain⟨_,cb,db⟩:=YV vb;rw[zb];rotate_left
 ·refine xv (vF ↑q hfr) (.inl rfl) (YW c ok ?_ ?_);·exact gd rfl (gd rfl (gd rfl (gd ca (gd cb rfl))))
  ·exact gd rfl (gd rfl (gd rfl (gd da (gd db rfl))))
 have l1:jA [.lst (es.map D.t)]=some (false,.int ((es.length:Nat):Int)):=by show some (false,T.int (((es.map D.t).length:Nat):Int))=_;rw[List.length_map]
 have l2:jA [.lst (sT (es.map j4))]=some (false,.int ((es.length:Nat):Int)):=by show some (false,T.int (((sT (es.map j4)).length:Nat):Int))=_;rw[xj,List.length_map]
 have l3:gm (.int ((es.length:Nat):Int)) (.int ((es.length:Nat):Int))=some ↑aA:=Qe ↑a;rw[zb (e':=[some (false,.str X),some (false,.lst (sT (es.map j4))),some (true,.lst (es.map D.t)),a,b,some (false,pR c es)])];·rfl
 ·refine PV (j8 ?_ ?_);·rfl
  ·generalize sT (es.map j4)=Z at l2;generalize es.map D.t=Y at l1;generalize((es.length:Nat):Int)=N at l1 l2 l3;exact vT (v2 (vK ↑q l1) (vK ↑q l2) l3)
def JK(h:env[i]?=some (some (true,.lst ts)))(hm:m (zJ env)=.ok (true,.lst us))(hl:ts.length+us.length<=sizeLine):c5 i m env=.nx (env.set i (some (true,.lst (ts++us)))):=by unfold c5 jR;rw[h,hm];dsimp only;rw[h];dsimp only;rw[if_pos hl]
def Lm(h:m (zJ env)=.ok (b,.tup ts)):iZ m env=.ok (ts,env):=by unfold iZ jR;rw[h];rfl
def JL(h:m (zJ env)=.ok (b,.tup ts))(g:xP tg mb ts env=o):xF (iZ m) tg mb env=o:=by unfold xF;rw[Lm h];exact g
def ii(h:m (zJ env)=.ok (b,.lst ts))(g:xP tg mb ts env=o):xF (iZ m) tg mb env=o:=by unfold xF;rw[Ho h];exact g
def Wv(w1 w2 w0 w3:Str)(d s:Bool)(x:Str)(hx:(if d then w1 else w0)++(if s then w2 else w0)=x)(hl:∀a b:Bool,(if a then w1 else w0).length+(if b then w2 else w0).length<=sizeLine):zc (zn 2 (m2 zg (vA (km ↑m) (mC (.str w1)) (mC (.str w0))) (vA (km (mV 1)) (mC (.str w2)) (mC (.str w0))))) (zt (vA (zX (m2 wS (mV 2) (mC (.str w0)))) (mV 2) (mC (.str w3)))) [some (false,.bl d),some (false,.bl s),none]=.rt (false,.str (if x=w0 then w3 else x)):=by
 have hl:=hl d s;rw[zb (e':=[some (false,.bl d),some (false,.bl s),some (false,.str x)])]
 ·refine kI ?_ rfl;have q:zX (m2 wS (mV 2) (mC (.str w0))) [some (false,.bl d),some (false,.bl s),some (false,.str x)]=.ok (!decide (x=w0)):=by unfold zX;rw[v2 rfl rfl (gT x w0)];rfl
  unfold vA;rw[q];by_cases e:x=w0;·rw[if_pos e,decide_eq_true e];rfl
  ·rw[if_neg e,decide_eq_false e];rfl
 ·subst hx;refine zw ?_;refine v2 (q:=false) (x:=.str (if d then w1 else w0)) (y:=.str (if s then w2 else w0)) (by cases d<;>rfl) (by cases s<;>rfl) ?_;show(if _<=sizeLine then _ else _)=_;rw[if_pos hl]
def Qj(d s:Bool):qG [(false,.bl d),(false,.bl s)]=.ok (false,.str (WK d s)):=by
 refine zZ rfl ?_;have h1:=Wv "d" "s" "" "-" d s _ rfl (by intro a b;cases a<;>cases b<;>decide+kernel);have h2:(if((if d then("d":Str)else"")++(if s then("s":Str)else""))=""then("-":Str)else((if d then("d":Str)else"")++(if s then("s":Str)else"")))=WK d s:=by cases d<;>cases s<;>decide+kernel
 rw[h2]at h1;exact h1
def DH(f:MF):MS:=c5 1 (jo (z3 (mV 2) (z3 (mV 3) (z3 (z9 f (z3 (mV 4) (z3 (mV 5) z5))) z5))))
def DI:MS:=c5 1 (jo (z3 (mV 2) (z3 (mV 3) z5)))
def DJ(w1 w0:Str):MS:=c5 1 (jo (z3 (mV 2) (z3 (mV 3) (z3 (vA (km (mV 4)) (mC (.str w1)) (mC (.str w0))) z5))))
section
variable(o0:Option RV)
theorem X3(f:MF)(hf:∀d s:Bool,f [(false,.bl d),(false,.bl s)]=.ok (false,.str (WK d s)))(md:Bool):∀(ts:List T)(W:List Str)(e2 e3 e4 e5:Option RV),(∀t∈ts,vn (RF md) t)->W.length+3*ts.length<900->∃a b c d,xP (nQ 4 (xy (gN 2) ↑a9)) (DH f) ts [o0,some (true,.lst (sT W)),e2,e3,e4,e5]=.nx [o0,some (true,.lst (sT (W++ts.flatMap wd))),a,b,c,d]
 |[],W,e2,e3,e4,e5,_,_=>⟨e2,e3,e4,e5,by rw[List.flatMap_nil,List.append_nil];rfl⟩|t::ts,W,e2,e3,e4,e5,hp,hl=>by
  rw[List.length_cons]at hl;obtain⟨y,kd,r,rfl,_,_,dd,ss,rfl,_⟩:=hp t List.mem_cons_self;obtain⟨a,b,c,d,ih⟩:=X3 f hf md ts (W++[y,kd,WK dd ss]) (some ↑I) (some ↑aN) (some (false,.bl dd)) (some (false,.bl ss)) (λu hu=>hp u ↑z) ↑aO;refine⟨a,b,c,d,?_⟩;rw[jy];·rw[ih,List.append_assoc];rfl
  ·rfl
  ·rw[dA];exact JK rfl (vL (vC rfl (vC rfl (vC (vF ↑aR (hf dd ss)) rfl))) rfl rfl) (by rw[xj,xj];have:=big;simp;omega)
theorem X4:∀(ts:List T)(W:List Str)(e2 e3:Option RV),(∀t∈ts,vn R0 t)->W.length+3*ts.length<900->∃a b,xP (nQ 2 (xy (gN 2) (xy (gN 3) nP))) DI ts [o0,some (true,.lst (sT W)),e2,e3]=.nx [o0,some (true,.lst (sT (W++ts.flatMap wd))),a,b]
 |[],W,e2,e3,_,_=>⟨e2,e3,by rw[List.flatMap_nil,List.append_nil];rfl⟩|t::ts,W,e2,e3,hp,hl=>by
  rw[List.length_cons]at hl;obtain⟨y,kd,r,rfl,_,_,hr⟩:=hp t List.mem_cons_self;obtain rfl:r=[]:=hr;obtain⟨a,b,ih⟩:=X4 ts (W++[y,kd]) (some ↑I) (some ↑aN) (λu hu=>hp u ↑z) ↑aO;refine⟨a,b,?_⟩;rw[jy];·rw[ih,List.append_assoc];rfl
  ·rfl
  ·rw[dA];exact JK rfl (vL ↑aR rfl rfl) (by rw[xj,xj];have:=big;simp;omega)
theorem X5:∀(ts:List T)(W:List Str)(e2 e3 e4:Option RV),(∀t∈ts,vn RP t)->W.length+3*ts.length<900->∃a b c,xP (nQ 3 (xy (gN 2) (xy (gN 3) (xy (gN 4) nP)))) (DJ "due" "may") ts [o0,some (true,.lst (sT W)),e2,e3,e4]=.nx [o0,some (true,.lst (sT (W++ts.flatMap wd))),a,b,c]
 |[],W,e2,e3,e4,_,_=>⟨e2,e3,e4,by rw[List.flatMap_nil,List.append_nil];rfl⟩|t::ts,W,e2,e3,e4,hp,hl=>by
  rw[List.length_cons]at hl;obtain⟨y,kd,r,rfl,_,_,bb,rfl⟩:=hp t List.mem_cons_self;obtain⟨a,b,c,ih⟩:=X5 ts (W++[y,kd,Pw bb]) (some ↑I) (some ↑aN) (some (false,.bl bb)) (λu hu=>hp u ↑z) ↑aO;refine⟨a,b,c,?_⟩;rw[jy];·rw[ih,List.append_assoc];rfl
  ·rfl
  ·rw[dA];exact JK rfl (vL (vC rfl (vC rfl (vC (r:=(false,.str (Pw bb))) (by cases bb<;>rfl) rfl))) rfl rfl) (by rw[xj,xj];have:=big;simp;omega)
end
def Hr(i:Int)(w1 w0:Str):ME:=vA (km (m2 zk ↑m (mC (.int i)))) (mC (.str w1)) (mC (.str w0))
def Ln(h:zk t (.int i)=some (false,.bl b))(h0:mV 0 env=.ok ↑P)(hw:(if b then w1 else w0)=w:=by rfl):Hr i w1 w0 env=.ok ↑S:=by have:m2 zk ↑m (mC (.int i)) env=.ok (false,.bl b):=v2 h0 rfl h;subst hw;unfold Hr vA km;rw[this];cases b<;>rfl
def dO(i:Int):ME:=m2 zk ↑m (mC (.int i))
def PY:fZ=zc (zn 1 (jo (z3 ↑bb (z3 (dO 1) (z3 (Hr 2 "made" "told") z5))))) (zc (xF (iZ (dO 3)) (nQ 4 (xy (gN 2) ↑a9)) (DH qG)) (xx 1)):=rfl
def PZ:pj=zc (zn 1 (jo (z3 ↑bc (z3 (dO 1) (z3 (Hr 2 "made" "told") (z3 (Hr 3 "shut" "open") z5)))))) (zc (xF (iZ (dO 4)) (nQ 2 (xy (gN 2) (xy (gN 3) nP))) DI) (xx 1)):=rfl
def Co(w:Str):ME:=m2 zg (m2 zg (mV 1) (jo (z3 (mC (.str w)) z5))) (zl uT (z3 (dO 5) z5))
def U0:gu=zc (zn 1 (jo (z3 (mC (.str "function")) (z3 (dO 1) (z3 (zl dU (z3 (dO 2) z5)) (z3 (dO 4) z5)))))) (zc (xF (iZ (dO 3)) (nQ 3 (xy (gN 2) (xy (gN 3) (xy (gN 4) nP)))) (DJ "due" "may")) (zt (Co ":"))):=rfl
def Qk(z:Str)(m:Bool)(ps:List T)(h:fq (vn (RF m)) ps):vO [(false,(D.rc z m ps).t)]=.ok (true,.lst (sT (zm (.rc z m ps)))):=by
 refine zZ rfl ?_;rw[PY];show zc _ _ [some (false,(D.rc z m ps).t),none,none,none,none,none]=_;have i1:zk (D.rc z m ps).t (.int 1)=some ↑j:=jh _ 1;have i2:zk (D.rc z m ps).t (.int 2)=some (false,.bl m):=jh _ 2;have i3:zk (D.rc z m ps).t (.int 3)=some (false,.tup ps):=jh _ 3;generalize(D.rc z m ps).t=t at i1 i2 i3;obtain⟨a,b,c,d,hL⟩:=X3 (some ↑P) qG Qj m ps ["record",z,pK m] none none none none h.2.2 (by have:=h.1;simp;omega);rw[zb]
 ·rw[zb (e':=[some ↑P,some (true,.lst (sT (("record":Str)::z::pK m::ps.flatMap wd))),a,b,c,d])];·rfl
  ·exact JL (v2 rfl rfl i3) hL
 ·refine zw ?_;exact vL (vC rfl (vC (v2 rfl rfl i1) (vC (Ln i2 rfl) rfl))) rfl rfl
def Ql(z:Str)(m s:Bool)(ps:List T)(h:fq (vn R0) ps):vQ [(false,(D.ch z m s ps).t)]=.ok (true,.lst (sT (zm (.ch z m s ps)))):=by
 refine zZ rfl ?_;rw[PZ];show zc _ _ [some (false,(D.ch z m s ps).t),none,none,none]=_;have i1:zk (D.ch z m s ps).t (.int 1)=some ↑j:=jh _ 1;have i2:zk (D.ch z m s ps).t (.int 2)=some (false,.bl m):=jh _ 2;have i3:zk (D.ch z m s ps).t (.int 3)=some (false,.bl s):=jh _ 3;have i4:zk (D.ch z m s ps).t (.int 4)=some (false,.tup ps):=jh _ 4;generalize(D.ch z m s ps).t=t at i1 i2 i3 i4;obtain⟨a,b,hL⟩:=X4 (some ↑P) ps ["choice",z,pK m,QD s] none none h.2.2 (by have:=h.1;simp;omega);rw[zb]
 ·rw[zb (e':=[some ↑P,some (true,.lst (sT (("choice":Str)::z::pK m::QD s::ps.flatMap wd))),a,b])];·rfl
  ·exact JL (v2 rfl rfl i4) hL
 ·refine zw ?_;exact vL (vC rfl (vC (v2 rfl rfl i1) (vC (Ln i2 rfl) (vC (Ln i3 rfl) rfl)))) rfl rfl
def Qm(z:Str)(qs ps:List T)(kd:Str)(fs:List T)(h:(D.fn z qs ps kd fs).ok):wx [(false,(D.fn z qs ps kd fs).t)]=.ok (true,.lst ↑ae):=by
 refine zZ rfl ?_;rw[U0];show zc _ _ [some (false,(D.fn z qs ps kd fs).t),none,none,none,none]=_;have a1:=h.2.2.1.1;have a2:=h.2.2.2.1;have a3:qs.length<=12:=by rw[List.length_append]at a1;omega
 have i1:zk (D.fn z qs ps kd fs).t (.int 1)=some ↑j:=jh _ 1;have i2:zk (D.fn z qs ps kd fs).t (.int 2)=some (false,.int (qs.length:Nat)):=jh _ 2;have i3:zk (D.fn z qs ps kd fs).t (.int 3)=some (false,.tup (qs++ps)):=jh _ 3;have i4:zk (D.fn z qs ps kd fs).t (.int 4)=some ↑aN:=jh _ 4;have i5:zk (D.fn z qs ps kd fs).t (.int 5)=some (false,.tup fs):=jh _ 5;generalize(D.fn z qs ps kd fs).t=t at i1 i2 i3 i4 i5;have hn:=aV qs.length a3;have hw:=mP Hn h.2.2.1.2.2;obtain⟨a,b,c,hL⟩:=X5 (some ↑P) (qs++ps) ["function",z,wQ qs.length,kd] none none none h.2.2.1.2.2 (by simp only[List.length_cons,List.length_nil];omega);rw[zb]
 ·rw[zb (e':=[some ↑P,some (true,.lst (sT ((["function",z,wQ qs.length,kd]:List Str)++(qs++ps).flatMap wd))),a,b,c])]
  ·have e:=Lg h.2.2.2.2.2;have h1:zg (.lst (sT ((["function",z,wQ qs.length,kd]:List Str)++(qs++ps).flatMap wd))) (.lst (sT [":"]))=some (true,.lst (sT ((["function",z,wQ qs.length,kd]:List Str)++(qs++ps).flatMap wd++[(":":Str)]))):=Q8 (by simp only[List.length_append,List.length_cons,List.length_nil]at*;omega);have h2:zg (.lst (sT ((["function",z,wQ qs.length,kd]:List Str)++(qs++ps).flatMap wd++[(":":Str)]))) (.lst fs)=some (true,.lst ↑ae):=by rw[show T.lst fs=T.lst (sT (fs.map k6))from congrArg T.lst e,Q8 (by simp only[List.length_append,List.length_cons,List.length_nil,List.length_map]at*;omega)];simp[zm]
   generalize sT ((["function",z,wQ qs.length,kd]:List Str)++(qs++ps).flatMap wd)=Y at h1;generalize sT ((["function",z,wQ qs.length,kd]:List Str)++(qs++ps).flatMap wd++[(":":Str)])=Z at h1 h2;have h1:zg (.lst Y) (.lst [.str ":"])=some (true,.lst Z):=h1;exact ve (v2 (v2 rfl (vL ↑q rfl rfl) h1) (vK (vC (v2 rfl rfl i5) rfl) rfl) h2) rfl
  ·exact JL (v2 rfl rfl i3) hL
 ·refine zw ?_;exact vL (vC rfl (vC (v2 rfl rfl i1) (vC (vK (vC (v2 rfl rfl i2) rfl) hn) (vC (v2 rfl rfl i4) rfl)))) rfl rfl
def jE(f:MF):ME:=eF oS kE ↑a5 (z3 (z9 f (z3 ↑m z5)) z5)
def U1:fe=zc (jN (UN "record") (zt (jE vO)) zq) (zc (jN (UN "choice") (zt (jE vQ)) zq) (zt (jE wx))):=rfl
def JM(f:MF)(t:T)(W:List T)(x:Str)(hf:f [↑P]=.ok (true,.lst W))(hj:kE [.str " ",.lst W]=some (false,.str x)):zt (jE f) [some ↑P]=.rt (false,.str x):=kI (by simp[jE,eF,mC,oS,z3,z5,z9,mV,hf,hj]) rfl
def Ww(h:d.ok)(g:d.wds):jW [(false,d.t)]=.ok (false,.str (j4 d)):=by refine zZ rfl ?_;rw[U1];show zc _ _ [some (false,d.t)]=_;have hj:=JH h g;cases d with|rc z m ps=>exact kf (ie (d:=.rc z m ps) rfl _) (JM _ _ _ _ (Qk z m ps h.2) hj)|ch z m s ps=>rw[zb (zS (mQ (d:=.ch z m s ps) KJ _))];exact kf (ie (d:=.ch z m s ps) rfl _) (JM _ _ _ _ (Ql z m s ps h.2) hj)|fn z qs ps kd fs=>rw[zb (zS (mQ (d:=.fn z qs ps kd fs) KK _)),zb (zS (mQ (d:=.fn z qs ps kd fs) KL _))];exact JM _ _ _ _ (Qm z qs ps kd fs h) hj
def Qn:∀{l:List Str},(∀w∈l,w.length<=b)->(l.map (·.length)).sum<=b*l.length|[],_=>by simp|w::l,hh=>by have h1:=hh w List.mem_cons_self;have h2:=Qn (l:=l) λx hx=>hh x ↑av;simp only[List.map_cons,List.sum_cons,List.length_cons,Nat.mul_add];omega
def bB{es:List D}(h:∀d∈es,d.ok/\d.wds)(hl:es.length<=13):kE [.str "\n",.lst (sT (es.map j4))]=some ↑a1:=by
 refine YY (B:=0) ↑aa ?_;have:=Qn (l:=es.map j4) λw hw=>by obtain⟨d,hd,rfl⟩:=List.mem_map.mp hw;exact X1 (h d hd).1 (h d hd).2
 rw[List.length_map]at this⊢;omega
structure Df(ds es:List D):Prop where
 same:G0 ds es
 okw:∀d∈es,d.ok/\d.wds
 tell:es.map D.t=told ds
 perm:es.Perm (ds.map D.st)
def Qo(h:∀d∈ds,d.ok/\d.wds)(hA:ji ds):∃es,Df ds es:=by
 have e:(ds.map λd=>d.st.t)=(ds.map (D.on zA)).map D.t:=by rw[List.map_map];rfl
 have p:(told ds).Perm ((ds.map (D.on zA)).map D.t):=by rw[<-e];exact zU _
 obtain⟨es,p,e⟩:=lu p;have s:=Pt zA zU (λd hd=>(h d hd).1) hA p;refine⟨es,s,λd hd=>⟨s.ok d hd,?_⟩,e,p⟩;obtain⟨d',hd',rfl⟩:=List.mem_map.mp (p.mem_iff.mp hd);exact D.wds_on zU (h d' hd').2
def Dg(m:ME)(f:MF):ME:=eF oS kE (mC (.str "\n")) (z3 (zW (jF m) zK (z9 f (z3 ↑m z5)) []) z5)
def U2(c:CA):b8 c=zt (Dg (UK c ↑m) jW):=rfl
def X6(f:MF)(caps:En):∀es:List D,(∀d∈es,f [(false,d.t)]=.ok (false,.str (j4 d)))->xZ zK (z9 f (z3 ↑m z5)) caps (es.map D.t)=.ok (es.map λd=>.str (j4 d))
 |[],_=>rfl|d::es,h=>by
  have ih:=X6 f caps es λe he=>h e (List.mem_cons_of_mem _ he);have hd:=h d List.mem_cons_self;have hm:z9 f (z3 ↑m z5) (some (false,d.t)::caps)=.ok (false,.str (j4 d)):=by simp[z9,z3,z5,mV,hd]
  show(match gl.ok true with|.ok true=>(match z9 f (z3 ↑m z5) (some (false,d.t)::caps)with|.ok r=>(match xZ zK (z9 f (z3 ↑m z5)) caps (es.map D.t)with|.ok rs=>gl.ok (r.2::rs)|_=>.bad)|_=>.bad)|.ok false=>xZ zK (z9 f (z3 ↑m z5)) caps (es.map D.t)|_=>.bad)=_;rw[hm,ih];rfl
def Lo{m:ME}{env:En}{b:Bool}{es:List D}(hm:m env=.ok (b,.lst (es.map D.t)))(h:∀d∈es,d.ok/\d.wds)(hl:es.length<=13):Dg m jW env=.ok ↑a1:=by
 have hc:=X6 jW (kU env []) es λd hd=>Ww (h d hd).1 (h d hd).2;have hj:=bB h hl;have e:(es.map λd=>T.str (j4 d))=sT (es.map j4):=by unfold sT;rw[List.map_map];rfl
 have hn:(es.map D.t).length<=sizeLine:=by rw[List.length_map];have:=big;omega
 rw[e]at hc;generalize sT (es.map j4)=Z at hc hj;generalize es.map D.t=Y at hm hc hn;have hi:jF m env=.ok Y:=by simp[jF,hm,qy]
 simp[Dg,eF,mC,oS,z3,z5,zW,hi,hn,hc,hj]
def nN(c:CA){ds es:List D}(o:Df ds es)(hA:ji ds)(hl:ds.length<=13)(b:Bool):gv c [(b,pR c ds)]=.ok ↑a1:=by
 refine zZ rfl ?_;rw[U2];have hp:∀b,UK c ↑m [some (b,pR c ds)]=.ok (true,.lst (es.map D.t)):=λb=>by rw[o.tell];exact JF c hA hl rfl
 have hv:=Lo (hp b) o.okw (by rw[o.same.len];exact hl);cases b with|false=>exact kI hv rfl|true=>exact ve hv rfl
def wl(W:List Str):Nat:=(W.map (·.length)).sum+W.length
def jn(W:List Str):Str:=Str.join " " W
def kh(a b:List Str):wl (a++b)=wl a+wl b:=by unfold wl;rw[List.map_append,List.sum_append,List.length_append];omega
def JN(W:List Str):(jn W).length<=wl W:=by
 have h:=nL " " W;have e:(" ":Str).length=1:=by decide+kernel
 rw[e,Nat.mul_one]at h;exact h
def bC(a b c:Str):a++b++c=a++(b++c):=nI (by simp only[jJ,List.append_assoc])
def aY(y:Str):∀W:List Str,W≠[]->jn W++" "++y=jn (W++[y])|[],h=>absurd rfl h|[w],_=>rfl|w::v::ws,_=>by have ih:=aY y (v::ws) (List.cons_ne_nil _ _);show(w++" ")++jn (v::ws)++" "++y=(w++" ")++jn ((v::ws)++[y]);rw[<-ih];simp only[bC]
def X7(a b:Str):(a++b).length=a.length+b.length:=by rw[<-jt,jJ,List.length_append,jt,jt]
def aZ(h:a.length+b.length<=9000):zg (.str a) (.str b)=some (false,.str (a++b)):=by
 have:9000<=sizeLine:=by decide
 show(if a.length+b.length<=sizeLine then some (false,T.str (a++b))else none)=_;rw[if_pos ↑a]
def Hs(h:wl W<=5000):zg (.str (jn W)) (.str " ")=some (false,.str (jn W++" ")):=by
 have:=JN W;have e:(" ":Str).length=1:=by decide+kernel
 exact aZ ↑a
def Qp(y:Str):wl [y]=y.length+1:=rfl
def Ht(hn:W≠[])(h:wl (W++[y])<=5000):zg (.str (jn W++" ")) (.str y)=some (false,.str (jn (W++[y]))):=by
 rw[<-aY y W hn];rw[kh,Qp]at h;have:=JN W;have e:(" ":Str).length=1:=by decide+kernel
 exact aZ (by rw[X7];omega)
def Dh{W:List Str}{y s:Str}(hs:s=" "++y)(hn:W≠[])(h:wl (W++[y])<=5000):zg (.str (jn W)) (.str s)=some (false,.str (jn (W++[y]))):=by
 rw[<-aY y W hn,hs,bC];rw[kh,Qp]at h;have:=JN W;have e:(" ":Str).length=1:=by decide+kernel
 exact aZ (by rw[X7];omega)
def k4(W:List Str)(y:Str):W++[y]≠[]:=List.append_ne_nil_of_right_ne_nil _ (List.cons_ne_nil _ _)
def aB(m:ME)(w:Str):ME:=m2 zg m (mC (.str w))
def DK(f:MF):MS:=zn 2 (m2 zg (aB (m2 zg (aB (m2 zg (aB (mV 2) " ") (mV 3)) " ") (mV 4)) " ") (z9 f (z3 (mV 5) (z3 (mV 6) z5))))
def DL:MS:=zn 2 (m2 zg (aB (m2 zg (aB (mV 2) " ") (mV 3)) " ") (mV 4))
def U3(w0 w1:Str)(m:ME):ME:=m2 zk (jo (z3 (mC (.str w0)) (z3 (mC (.str w1)) z5))) (zl Kg (z3 m z5))
def DM(w0 w1:Str):MS:=zn 2 (m2 zg (m2 zg (aB (m2 zg (aB (mV 2) " ") (mV 3)) " ") (mV 4)) (U3 w0 w1 (mV 5)))
def DN:MS:=zn 2 (m2 zg (aB (mV 2) " ") (mV 8))
def WL(hm:m env=.ok (false,.str (jn W)))(hy:n env=.ok ↑I)(hn:W≠[])(h:wl (W++[y])<=5000):m2 zg (aB m " ") n env=.ok (false,.str (jn (W++[y]))):=by exact v2 (v2 hm rfl (Hs (by rw[kh]at h;omega))) hy (Ht hn h)
def Di{m n:ME}{env:En}{W:List Str}{y s:Str}(hs:s=" "++y)(hm:m env=.ok (false,.str (jn W)))(hy:n env=.ok (false,.str s))(hn:W≠[])(h:wl (W++[y])<=5000):m2 zg m n env=.ok (false,.str (jn (W++[y]))):=by exact v2 hm hy (Dh hs hn h)
def dJ(h:m env=.ok (false,.bl b)):U3 w0 w1 m env=.ok (false,.str (if b then w1 else w0)):=by
 refine v2 (vL ↑aR rfl rfl) (vK (vC h rfl) rfl) ?_;cases b;·exact Ca _ _
 ·exact Cb _ _
def Hu(b:Bool):(if b then(" due":Str)else" may")=" "++Pw b:=by cases b<;>decide+kernel
def Hv(b:Bool):(if b then(" shut":Str)else" open")=" "++QD b:=by cases b<;>decide+kernel
section
variable(o0 o1 o7 o8:Option RV)
theorem X8(f:MF)(hf:∀d s:Bool,f [(false,.bl d),(false,.bl s)]=.ok (false,.str (WK d s)))(md:Bool):∀(ts:List T)(W:List Str)(e3 e4 e5 e6:Option RV),(∀t∈ts,vn (RF md) t)->W≠[]->wl (W++ts.flatMap wd)<=5000->∃a b c d,xP (nQ 4 (xy (gN 3) (xy (gN 4) (xy (gN 5) (xy (gN 6) nP))))) (DK f) ts [o0,o1,some (false,.str (jn W)),e3,e4,e5,e6,o7,o8]=.nx [o0,o1,some (false,.str (jn (W++ts.flatMap wd))),a,b,c,d,o7,o8]
 |[],W,e3,e4,e5,e6,_,_,_=>⟨e3,e4,e5,e6,by rw[List.flatMap_nil,List.append_nil];rfl⟩|t::ts,W,e3,e4,e5,e6,hp,hn,hl=>by
  obtain⟨y,kd,r,rfl,_,_,dd,ss,rfl,_⟩:=hp t List.mem_cons_self;have e:W++(T.tup [.str y,.str kd,.bl dd,.bl ss]::ts).flatMap wd=(((W++[y])++[kd])++[WK dd ss])++ts.flatMap wd:=by rw[List.append_assoc,List.append_assoc,List.append_assoc];rfl
  rw[e]at hl⊢;obtain⟨a,b,c,d,ih⟩:=X8 f hf md ts (((W++[y])++[kd])++[WK dd ss]) (some ↑I) (some ↑aN) (some (false,.bl dd)) (some (false,.bl ss)) (λu hu=>hp u ↑z) (k4 _ _) hl;refine⟨a,b,c,d,?_⟩;rw[jy];·exact ih
  ·rfl
  ·rw[kh]at hl;have l3:wl (((W++[y])++[kd])++[WK dd ss])<=5000:=by omega
   have l2:wl ((W++[y])++[kd])<=5000:=by rw[kh]at l3;omega
   have l1:wl (W++[y])<=5000:=by rw[kh]at l2;omega
   exact zw (WL (WL (WL rfl rfl hn l1) rfl (k4 _ _) l2) (vF ↑aR (hf dd ss)) (k4 _ _) l3)
theorem X9(o5 o6:Option RV):∀(ts:List T)(W:List Str)(e3 e4:Option RV),(∀t∈ts,vn R0 t)->W≠[]->wl (W++ts.flatMap wd)<=5000->∃a b,xP (nQ 2 (xy (gN 3) (xy (gN 4) nP))) DL ts [o0,o1,some (false,.str (jn W)),e3,e4,o5,o6,o7,o8]=.nx [o0,o1,some (false,.str (jn (W++ts.flatMap wd))),a,b,o5,o6,o7,o8]
 |[],W,e3,e4,_,_,_=>⟨e3,e4,by rw[List.flatMap_nil,List.append_nil];rfl⟩|t::ts,W,e3,e4,hp,hn,hl=>by
  obtain⟨y,kd,r,rfl,_,_,hr⟩:=hp t List.mem_cons_self;obtain rfl:r=[]:=hr;have e:W++(T.tup [.str y,.str kd]::ts).flatMap wd=((W++[y])++[kd])++ts.flatMap wd:=by rw[List.append_assoc,List.append_assoc];rfl
  rw[e]at hl⊢;obtain⟨a,b,ih⟩:=X9 o5 o6 ts ((W++[y])++[kd]) (some ↑I) (some ↑aN) (λu hu=>hp u ↑z) (k4 _ _) hl;refine⟨a,b,?_⟩;rw[jy];·exact ih
  ·rfl
  ·rw[kh]at hl;have l2:wl ((W++[y])++[kd])<=5000:=by omega
   have l1:wl (W++[y])<=5000:=by rw[kh]at l2;omega
   exact zw (WL (WL rfl rfl hn l1) rfl (k4 _ _) l2)
theorem Xa(o6:Option RV):∀(ts:List T)(W:List Str)(e3 e4 e5:Option RV),(∀t∈ts,vn RP t)->W≠[]->wl (W++ts.flatMap wd)<=5000->∃a b c,xP (nQ 3 ↑a9) (DM " may" " due") ts [o0,o1,some (false,.str (jn W)),e3,e4,e5,o6,o7,o8]=.nx [o0,o1,some (false,.str (jn (W++ts.flatMap wd))),a,b,c,o6,o7,o8]
 |[],W,e3,e4,e5,_,_,_=>⟨e3,e4,e5,by rw[List.flatMap_nil,List.append_nil];rfl⟩|t::ts,W,e3,e4,e5,hp,hn,hl=>by
  obtain⟨y,kd,r,rfl,_,_,bb,rfl⟩:=hp t List.mem_cons_self;have e:W++(T.tup [.str y,.str kd,.bl bb]::ts).flatMap wd=(((W++[y])++[kd])++[Pw bb])++ts.flatMap wd:=by rw[List.append_assoc,List.append_assoc,List.append_assoc];rfl
  rw[e]at hl⊢;obtain⟨a,b,c,ih⟩:=Xa o6 ts (((W++[y])++[kd])++[Pw bb]) (some ↑I) (some ↑aN) (some (false,.bl bb)) (λu hu=>hp u ↑z) (k4 _ _) hl;refine⟨a,b,c,?_⟩;rw[jy];·exact ih
  ·rfl
  ·rw[kh]at hl;have l3:wl (((W++[y])++[kd])++[Pw bb])<=5000:=by omega
   have l2:wl ((W++[y])++[kd])<=5000:=by rw[kh]at l3;omega
   have l1:wl (W++[y])<=5000:=by rw[kh]at l2;omega
   exact zw (Di (Hu bb) (WL (WL rfl rfl hn l1) rfl (k4 _ _) l2) (dJ rfl) (k4 _ _) l3)
theorem Xb(o3 o4 o5 o6:Option RV):∀(ts:List T)(W:List Str)(e8:Option RV),(∀t∈ts,Wp t)->W≠[]->wl (W++ts.map k6)<=5000->∃a,xP (gN 8) DN ts [o0,o1,some (false,.str (jn W)),o3,o4,o5,o6,o7,e8]=.nx [o0,o1,some (false,.str (jn (W++ts.map k6))),o3,o4,o5,o6,o7,a]
 |[],W,e8,_,_,_=>⟨e8,by rw[List.map_nil,List.append_nil];rfl⟩|t::ts,W,e8,hp,hn,hl=>by
  obtain⟨y,rfl,_⟩:=hp t List.mem_cons_self;have e:W++(T.str y::ts).map k6=(W++[y])++ts.map k6:=by rw[List.append_assoc];rfl
  rw[e]at hl⊢;obtain⟨a,ih⟩:=Xb o3 o4 o5 o6 ts (W++[y]) (some ↑I) (λu hu=>hp u ↑z) (k4 _ _) hl;refine⟨a,?_⟩;rw[jy];·exact ih
  ·rfl
  ·rw[kh]at hl;exact zw (WL rfl rfl hn ↑a)
end
def Wx(d s:Bool):vU [(false,.bl d),(false,.bl s)]=.ok (false,.str (WK d s)):=by refine zZ rfl ?_;cases d<;>cases s<;>rfl
def E3(i:Int):ME:=zl x9 (z3 (dO i) z5)
def DO(w0 w1:Str):ME:=U3 w0 w1 (m2 uz (dO 2) (mC (.bl true)))
def hd3(w:Str):ME:=m2 zg (aB (m2 zg (mC (.str w)) (dO 1)) " ") (mV 1)
def Cp(w:Str):ME:=m2 zg (aB (m2 zg (aB (m2 zg (mC (.str w)) (dO 1)) " ") (zl dU (z3 (dO 2) z5))) " ") (dO 4)
def Dj:ME:=zl uT (z3 (k5 (dO 3) zO (zx (dO 2))) z5)
def Dk:ME:=m2 zg (mV 7) (zl x9 (z3 (k5 (dO 3) (zx (dO 2)) zO) z5))
def dL:eV=zc (zn 1 (DO "told" "made")) (zc (jN (UN "record") (zc (zn 2 (hd3 "record ")) (zc (xF (iZ (E3 3)) (nQ 4 (xy (gN 3) (xy (gN 4) (xy (gN 5) (xy (gN 6) nP))))) (DK vU)) (xx 2))) zq) (zc (jN (UN "choice") (zc (zn 2 (m2 zg (hd3 "choice ") (U3 " open" " shut" (dO 3)))) (zc (xF (iZ (E3 4)) (nQ 2 (xy (gN 3) (xy (gN 4) nP))) DL) (xx 2))) zq) (zc (zn 2 (Cp "function ")) (zc (zn 7 Dj) (zc (zn 7 Dk) (zc (xF (lF 7) (nQ 3 ↑a9) (DM " may" " due")) (zc (zn 2 (aB (mV 2) " :")) (zc (xF (iZ (E3 5)) (gN 8) DN) (xx 2))))))))):=rfl
def t5{w s z:Str}{env:En}{m:ME}(hs:s=w++" ")(hm:m env=.ok ↑j)(h:wl [w,z]<=5000):m2 zg (mC (.str s)) m env=.ok (false,.str (jn [w,z])):=by have h2:=Ht (W:=[w]) (y:=z) ↑T h;have e:(s:Str)=jn [w]++" ":=hs;rw[<-e]at h2;have h2:zg (.str s) (.str z)=some (false,.str (jn [w,z])):=h2;exact v2 rfl hm h2
def Dl(t x:T)(b:Bool)(h:zk t (.int 2)=some (false,x))(hb:uz x (.bl true)=some (false,.bl b))(r:List (Option RV)):DO "told" "made" (some ↑P::r)=.ok (false,.str (pK b)):=by exact dJ (w0:="told") (w1:="made") (v2 (v2 rfl rfl h) rfl hb)
def fi(h:wl (a++b)<=5000):wl a<=5000:=by rw[kh]at h;omega
def t6(h:zk t (.int i)=some (false,.tup ps))(hs:sortS ps=some us)(r:List (Option RV)):E3 i (some ↑P::r)=.ok (true,.lst us):=by
 have:x9 [.tup ps]=some (true,.lst us):=by show(sortS ps).map _=_;rw[hs];rfl
 exact vK (vC (v2 rfl rfl h) rfl) this
def Qq{d:D}(h:d.ok)(g:d.wds):wl (zm d.st)<=5000:=by have:=mS (D.ok_on zU h) (D.wds_on zU g);show wl (zm (d.on zA))<=5000;unfold wl;omega
def Lp(z:Str)(m:Bool)(ps:List T)(h:(D.rc z m ps).ok)(g:(D.rc z m ps).wds):vm [(false,(D.rc z m ps).t)]=.ok (false,.str (j4 (D.rc z m ps).st)):=by
 refine zZ rfl ?_;rw[dL];show zc _ _ [some (false,(D.rc z m ps).t),none,none,none,none,none,none,none,none]=_;have hp:fq (vn (RF m)) (zA ps):=h.2.perm (zU ps);have hl:wl (([("record":Str),z]++[pK m])++(zA ps).flatMap wd)<=5000:=Qq h g;have i1:zk (D.rc z m ps).t (.int 1)=some ↑j:=jh _ 1;have i3:zk (D.rc z m ps).t (.int 3)=some (false,.tup ps):=jh _ 3;have hs:=h.2.sortS (.inr mM);rw[zb (zw (Dl _ (.bl m) m (jh _ 2) (by cases m<;>rfl) _))];obtain⟨a,b,c,d,hL⟩:=X8 (some (false,(D.rc z m ps).t)) (some (false,.str (pK m))) none none vU Wx m (zA ps) _ none none none none hp.2.2 (List.cons_ne_nil _ _) hl;refine kf (ie (d:=.rc z m ps) rfl _) ?_;rw[zb (e':=[some (false,(D.rc z m ps).t),some (false,.str (pK m)),some (false,.str (jn ([("record":Str),z]++[pK m]))),none,none,none,none,none,none])]
 ·rw[zb (e':=[some (false,(D.rc z m ps).t),some (false,.str (pK m)),some (false,.str (jn (([("record":Str),z]++[pK m])++(zA ps).flatMap wd))),a,b,c,d,none,none])];·rfl
  ·exact ii (t6 i3 hs _) hL
 ·have l1:=fi hl;exact zw (WL (t5 ↑aa (v2 rfl rfl i1) (fi l1)) rfl (List.cons_ne_nil _ _) l1)
def Lq(z:Str)(m s:Bool)(ps:List T)(h:(D.ch z m s ps).ok)(g:(D.ch z m s ps).wds):vm [(false,(D.ch z m s ps).t)]=.ok (false,.str (j4 (D.ch z m s ps).st)):=by
 refine zZ rfl ?_;rw[dL];show zc _ _ [some (false,(D.ch z m s ps).t),none,none,none,none,none,none,none,none]=_;have hp:fq (vn R0) (zA ps):=h.2.perm (zU ps);have hl:wl ((([("choice":Str),z]++[pK m])++[QD s])++(zA ps).flatMap wd)<=5000:=Qq h g;have i1:zk (D.ch z m s ps).t (.int 1)=some ↑j:=jh _ 1;have i3:zk (D.ch z m s ps).t (.int 3)=some (false,.bl s):=jh _ 3;have i4:zk (D.ch z m s ps).t (.int 4)=some (false,.tup ps):=jh _ 4;have hs:=h.2.sortS (.inr mM);rw[zb (e':=[some (false,(D.ch z m s ps).t),some (false,.str (pK m)),none,none,none,none,none,none,none]) (zw (Dl _ (.bl m) m (jh _ 2) (by cases m<;>rfl) _))];rw[zb (zS (mQ (d:=.ch z m s ps) KJ _))];obtain⟨a,b,hL⟩:=X9 (some (false,(D.ch z m s ps).t)) (some (false,.str (pK m))) none none none none (zA ps) _ none none hp.2.2 (List.cons_ne_nil _ _) hl;refine kf (ie (d:=.ch z m s ps) rfl _) ?_;rw[zb (e':=[some (false,(D.ch z m s ps).t),some (false,.str (pK m)),some (false,.str (jn (([("choice":Str),z]++[pK m])++[QD s]))),none,none,none,none,none,none])]
 ·rw[zb (e':=[some (false,(D.ch z m s ps).t),some (false,.str (pK m)),some (false,.str (jn ((([("choice":Str),z]++[pK m])++[QD s])++(zA ps).flatMap wd))),a,b,none,none,none,none])];·rfl
  ·exact ii (t6 i4 hs _) hL
 ·have l1:=fi hl;exact zw (Di (Hv s) (WL (t5 ↑aa (v2 rfl rfl i1) (fi (fi l1))) rfl (List.cons_ne_nil _ _) (fi l1)) (dJ (v2 rfl rfl i3)) (List.cons_ne_nil _ _) l1)
def Lr(z:Str)(qs ps:List T)(kd:Str)(fs:List T)(h:(D.fn z qs ps kd fs).ok)(g:(D.fn z qs ps kd fs).wds):vm [(false,(D.fn z qs ps kd fs).t)]=.ok (false,.str (j4 (D.fn z qs ps kd fs).st)):=by
 refine zZ rfl ?_;rw[dL];show zc _ _ [some (false,(D.fn z qs ps kd fs).t),none,none,none,none,none,none,none,none]=_;have h1:=h.2.2.1.1;rw[List.length_append]at h1;have hp:fq (vn RP) (qs++zA ps):=h.2.2.1.perm ((List.Perm.refl _).append (zU ps));have hf:fq Wp (zA fs):=h.2.2.2.perm (zU fs);have hl0:=Qq h g;have ew:zm (D.fn z qs ps kd fs).st=(((([("function":Str),z]++[wQ qs.length])++[kd])++(qs++zA ps).flatMap wd)++[(":":Str)])++(zA fs).map k6:=by show zm (.fn z qs (zA ps) kd (zA fs))=_;simp[zm]
 rw[ew]at hl0;have hl1:=fi hl0;have hl:=fi hl1;have i1:zk (D.fn z qs ps kd fs).t (.int 1)=some ↑j:=jh _ 1;have i2:zk (D.fn z qs ps kd fs).t (.int 2)=some (false,.int (qs.length:Nat)):=jh _ 2;have i3:zk (D.fn z qs ps kd fs).t (.int 3)=some (false,.tup (qs++ps)):=jh _ 3;have i4:zk (D.fn z qs ps kd fs).t (.int 4)=some ↑aN:=jh _ 4;have i5:zk (D.fn z qs ps kd fs).t (.int 5)=some (false,.tup fs):=jh _ 5;have c1:dR (.tup (qs++ps)) none (some ((qs.length:Nat):Int))=some (false,.tup qs):=by show some (false,T.tup (qw (qs++ps) none (some ((qs.length:Nat):Int))))=_;rw[dj,List.take_left]
 have c2:dR (.tup (qs++ps)) (some ((qs.length:Nat):Int)) none=some (false,.tup ps):=by show some (false,T.tup (qw (qs++ps) (some ((qs.length:Nat):Int)) none))=_;rw[nB,List.drop_left]
 have sn:=aV qs.length ↑a;have nq:=gB (gD (λr hr u hu=>by obtain⟨d,rfl⟩:=hr;simp at hu;rw[hu];exact nH _) hp);have hs:x9 [.tup ps]=some (true,.lst (zA ps)):=by show(sortS ps).map _=_;rw[h.2.2.1.sub.sortS (.inr mM)];rfl
 have hs2:=h.2.2.2.sortS (.inl UI);have hadd:zg (.lst qs) (.lst (zA ps))=some (true,.lst (qs++zA ps)):=JE (by rw[mN];have:=big;omega);have nr:=mQ (d:=.fn z qs ps kd fs) (w:="record") KK;have nc:=mQ (d:=.fn z qs ps kd fs) (w:="choice") KL;show _=Gf.rt (false,.str (jn (zm (D.fn z qs ps kd fs).st)));rw[ew];generalize(D.fn z qs ps kd fs).t=t at*;rw[zb (e':=[some ↑P,some (false,.str (pK false)),none,none,none,none,none,none,none]) (zw (Dl _ _ false i2 rfl _))];rw[zb (zS (nr _)),zb (zS (nc _))];have lk:=fi hl;rw[zb (e':=[some ↑P,some (false,.str (pK false)),some (false,.str (jn (([("function":Str),z]++[wQ qs.length])++[kd]))),none,none,none,none,none,none]) (zw (WL (WL (t5 ↑aa (v2 rfl rfl i1) (fi (fi lk))) (vK (vC (v2 rfl rfl i2) rfl) sn) (List.cons_ne_nil _ _) (fi lk)) (v2 rfl rfl i4) (k4 _ _) lk))];generalize hJ:jn (([("function":Str),z]++[wQ qs.length])++[kd])=J;have hp1:Dj (zJ [some ↑P,some (false,.str (pK false)),some (false,.str J),none,none,none,none,none,none])=.ok (true,.lst qs):=by simp[Dj,zJ,zQ,zl,z3,z5,k5,dO,m2,mV,mC,zO,zx,i2,i3,c1,uT]
 rw[zb (zw hp1)];have hp2:Dk [some ↑P,some (false,.str (pK false)),some (false,.str J),none,none,none,none,some (true,.lst qs),none]=.ok (true,.lst (qs++zA ps)):=by simp[Dk,dO,m2,mV,zl,z3,z5,k5,mC,zO,zx,i2,i3,c2,hs,hadd]
 rw[zb (e':=[some ↑P,some (false,.str (pK false)),some (false,.str J),none,none,none,none,some (true,.lst (qs++zA ps)),none]) (xv hp2 (.inl rfl) (jB nq.1 nq.2.1 nq.2.2))];subst hJ;obtain⟨a,b,c,hL⟩:=Xa (some ↑P) (some (false,.str (pK false))) (some (false,.lst (qs++zA ps))) none none (qs++zA ps) _ none none none hp.2.2 (List.cons_ne_nil _ _) hl;rw[zb (e':=[some ↑P,some (false,.str (pK false)),some (false,.str (jn ((([("function":Str),z]++[wQ qs.length])++[kd])++(qs++zA ps).flatMap wd))),a,b,c,none,some (false,.lst (qs++zA ps)),none])];rotate_left;·exact hL
 clear hL;generalize hW:((([("function":Str),z]++[wQ qs.length])++[kd])++(qs++zA ps).flatMap wd)=W at*;have hn:W≠[]:=by rw[<-hW];simp
 rw[zb (e':=[some ↑P,some (false,.str (pK false)),some (false,.str (jn (W++[(":":Str)]))),a,b,c,none,some (false,.lst (qs++zA ps)),none]) (zw (Di (W:=W) (y:=":") ↑aa rfl rfl hn hl1))];obtain⟨e,hE⟩:=Xb (some ↑P) (some (false,.str (pK false))) (some (false,.lst (qs++zA ps))) a b c none (zA fs) _ none hf.2.2 (k4 _ _) hl0;rw[zb (e':=[some ↑P,some (false,.str (pK false)),some (false,.str (jn (W++[(":":Str)]++(zA fs).map k6))),a,b,c,none,some (false,.lst (qs++zA ps)),e])];·rfl
 ·exact ii (t6 i5 hs2 _) hE
def Hw:∀{d:D},d.ok->d.wds->vm [(false,d.t)]=.ok (false,.str (j4 d.st))|.rc z m ps,h,g=>Lp z m ps h g|.ch z m s ps,h,g=>Lq z m s ps h g|.fn z qs ps kd fs,h,g=>Lr z qs ps kd fs h g
def Hx{d e:D}(h:d.t=e.t):d=e:=by
 cases d<;>cases e;case rc.rc=>cases h;rfl
 case ch.ch=>cases h;rfl
 case fn.fn z qs ps kd fs z' qs' ps' kd' fs'=>
  simp only[D.t,T.tup.injEq,List.cons.injEq,T.str.injEq,T.int.injEq,and_true,true_and]at h;obtain⟨h1,h2,h3,h4,h5⟩:=h;have h2:qs.length=qs'.length:=by omega
  obtain⟨rfl,rfl⟩:=List.append_inj h3 h2;rw[h1,h4,h5]
 all_goals exact absurd (congrArg List.length (T.tup.inj h)) ↑T
def mT:∀{l m:List D},l.map D.t=m.map D.t->l=m|[],[],_=>rfl|[],_::_,h=>by cases h|_::_,[],h=>by cases h|d::l,e::m,h=>by rw[List.map_cons,List.map_cons]at h;rw[Hx (List.cons.inj h).1,mT (List.cons.inj h).2]
def mU(ds:List D)(w:Str):List Str:=(ds.filter λd=>decide (d.w=w)).map D.z
def JO(ds:List D)(w:Str):List Str:=(zA (sT (mU ds w))).map k6
def pE(ds:List D)(w n:Str):List D:=ds.filter λd=>decide (d.w=w)&&decide (d.z=n)
def JP(ds:List D)(w:Str):List D:=(JO ds w).flatMap (pE ds w)
def Zk(ds:List D)(ws:List Str):List D:=ws.flatMap (JP ds)
def U4(p:us.Perm (sT ys)):us=sT (us.map k6):=by unfold sT;rw[List.map_map];refine(List.map_id us).symm.trans (List.map_congr_left λu hu=>?_);obtain⟨y,_,rfl⟩:=List.mem_map.mp (p.mem_iff.mp hu);rfl
def UQ(ds:List D)(w:Str):zA (sT (mU ds w))=sT (JO ds w):=U4 (zU _)
def Ls:n∈JO ds w↔∃d∈ds,d.w=w/\d.z=n:=by
 unfold JO;rw[List.mem_map];constructor;·rintro⟨t,ht,rfl⟩;rw[qm]at ht;obtain⟨y,hy,rfl⟩:=List.mem_map.mp ht;obtain⟨d,hd,rfl⟩:=List.mem_map.mp hy;obtain⟨h1,h2⟩:=List.mem_filter.mp hd;exact⟨d,h1,of_decide_eq_true h2,rfl⟩
 ·rintro⟨d,hd,hw,rfl⟩;exact⟨.str d.z,qm.mpr (List.mem_map.mpr ⟨d.z,List.mem_map.mpr ⟨d,List.mem_filter.mpr ⟨hd,decide_eq_true hw⟩,rfl⟩,rfl⟩),rfl⟩
def gE:d∈pE ds w n↔d∈ds/\d.w=w/\d.z=n:=by unfold pE;rw[List.mem_filter,Bool.and_eq_true,decide_eq_true_eq,decide_eq_true_eq]
def bD(h:ji ds)(w:Str):(mU ds w).Nodup:=by unfold mU List.Nodup;rw[List.pairwise_map];refine List.Pairwise.imp_of_mem (λ{d e}hd he hde=>?_) (List.Pairwise.filter _ h);have a:=of_decide_eq_true (List.mem_filter.mp hd).2;have b:=of_decide_eq_true (List.mem_filter.mp he).2;exact hde (KS (a.trans b.symm))
def U5(h:ys.Nodup):((sT ys).map jM).Nodup:=by unfold sT List.Nodup;rw[List.map_map,List.pairwise_map];refine List.Pairwise.imp (λ{a b}hab z=>hab (nI ?_)) h;exact(List.cons.inj z).1
def Wy(h:ji ds)(w:Str):(JO ds w).Pairwise λa b=>a.cps.toList<b.cps.toList:=by
 have hs:=xQ (U5 (bD h w));rw[UQ]at hs;unfold sT at hs;rw[List.pairwise_map]at hs;refine List.Pairwise.imp (λ{a b}hab=>?_) hs;have hab:[a.cps.toList]<[b.cps.toList]:=of_decide_eq_true hab;rw[List.cons_lt_cons_iff]at hab;rcases hab with z|⟨_,z⟩;·exact z
 ·exact absurd z (List.lt_irrefl _)
def Hy{d e:D}(h:d.w.cps.toList<e.w.cps.toList\/d.w=e.w/\d.z.cps.toList<e.z.cps.toList):l9 d.st.t e.st.t=true:=by
 refine decide_eq_true ?_;rw[YT,YT];show[(d.on zA).w.cps.toList,(d.on zA).z.cps.toList]<[(e.on zA).w.cps.toList,(e.on zA).z.cps.toList];rw[Hh,Hh,Pj,Pj,List.cons_lt_cons_iff,List.cons_lt_cons_iff];rcases h with h|⟨h,g⟩;·exact .inl h
 ·exact .inr ⟨by rw[h],.inl g⟩
def w3:List Str:=["choice","function","record"]
def Hz:w3.Pairwise λa b=>a.cps.toList<b.cps.toList:=by
 refine .cons (λb hb=>?_) (.cons (λb hb=>?_) (.cons (λb hb=>?_) .nil));·simp only[List.mem_cons,List.not_mem_nil,or_false]at hb;rcases hb with rfl|rfl<;>decide+kernel
 ·simp only[List.mem_cons,List.not_mem_nil,or_false]at hb;subst hb;decide+kernel
 ·cases hb
def Dm(d:D):d.w∈w3:=by cases d<;>simp[w3,D.w]
def Zl:d∈Zk ds w3↔d∈ds:=by
 unfold Zk JP;simp only[List.mem_flatMap,gE];constructor;·rintro⟨w,_,n,_,h,_⟩;exact h
 ·intro h;exact⟨d.w,Dm d,d.z,Ls.mpr ⟨d,h,rfl,rfl⟩,h,rfl,rfl⟩
def Zm{ds:List D}(h:ji ds):((Zk ds w3).map λd=>d.st.t).Pairwise λa b=>l9 a b=true:=by
 rw[List.pairwise_map];unfold Zk;rw[List.pairwise_flatMap];refine⟨λw _=>?_,List.Pairwise.imp (λ{a b}hab x hx y hy=>?_) Hz⟩
 ·unfold JP;rw[List.pairwise_flatMap];refine⟨λn _=>?_,List.Pairwise.imp (λ{a b}hab x hx y hy=>?_) (Wy h w)⟩;·refine List.Pairwise.imp_of_mem (λ{d e}hd he hde=>?_) (List.Pairwise.filter _ h);have a:=gE.mp hd;have b:=gE.mp he;exact absurd (a.2.2.trans b.2.2.symm) (hde (KS (a.2.1.trans b.2.1.symm)))
  ·have hx:=(gE.mp hx).2;have hy:=(gE.mp hy).2;exact Hy (.inr ⟨hx.1.trans hy.1.symm,by rw[hx.2,hy.2];exact hab⟩)
 ·unfold JP at hx hy;simp only[List.mem_flatMap,gE]at hx hy;obtain⟨_,_,_,hx,_⟩:=hx;obtain⟨_,_,_,hy,_⟩:=hy;exact Hy (.inl (by rw[hx,hy];exact hab))
def U6(o:Df ds es)(hA:ji ds):es.map j4=(Zk ds w3).map λd=>j4 d.st:=by
 have e:es.map D.t=((Zk ds w3).map D.st).map D.t:=by rw[o.tell,List.map_map];refine mJ (xQ (gC hA)) (Zm hA) λx=>?_;unfold told;rw[qm,List.mem_map,List.mem_map];exact⟨λ⟨d,hd,e⟩=>⟨d,Zl.mpr hd,e⟩,λ⟨d,hd,e⟩=>⟨d,Zl.mp hd,e⟩⟩
 rw[mT e,List.map_map];rfl
def Wz(i j:Nat)(k:Int):MT:=zX (m2 zG (m2 zk (mV i) (mC (.int k))) (mV j))
def lB:MS:=jN (jO (Wz 9 6 0) (Wz 9 8 1)) (kQ 5 (z9 vm (z3 (mV 9) z5))) zq
def E4:ME:=zl x9 (z3 (zW (jF (mV 3)) (Wz 0 1 0) ↑ai [6]) z5)
def oB:MS:=zc (zn 7 E4) (xF (lF 7) (gN 8) (xF (lF 3) (gN 9) lB))
def Qr(l:List D):List Str:=l.map λd=>j4 d.st
section
variable(o0 o1 o2 o4 o10 o11:Option RV)
theorem Qs(hi:mV i env=.ok ↑P)(hj:mV j env=.ok ↑I)(h:zk t (.int k)=some (false,.str x)):Wz i j k env=.ok (decide (x=y)):=by unfold Wz zX;rw[v2 (v2 hi rfl h) hj (qK x y)];rfl
theorem Xc(w n:Str)(o3 o7:Option RV):∀(ds:List D)(A:List Str)(e9:Option RV),(∀d∈ds,d.ok/\d.wds)->A.length+ds.length<1000->∃e,xP (gN 9) lB ↑ax [o0,o1,o2,o3,o4,some (true,.lst (sT A)),some ↑S,o7,some (false,.str n),e9,o10,o11]=.nx [o0,o1,o2,o3,o4,some (true,.lst (sT (A++Qr (pE ds w n)))),some ↑S,o7,some (false,.str n),e,o10,o11]
 |[],A,e9,_,_=>⟨e9,by show _=Gf.nx [_,_,_,_,_,some (true,.lst (sT (A++[]))),_,_,_,_,_,_];rw[List.append_nil];rfl⟩|d::ds,A,e9,h,hl=>by
  rw[List.length_cons]at hl;have hd:=h d List.mem_cons_self;have h0:=Zb d;have h1:=YX d;have hr:=Hw hd.1 hd.2;obtain⟨B,hB,e,ih⟩:∃B,B=(if d.w=w/\d.z=n then A++[j4 d.st]else A)/\∃e,xP (gN 9) lB ↑ax [o0,o1,o2,o3,o4,some (true,.lst (sT B)),some ↑S,o7,some (false,.str n),some (false,d.t),o10,o11]=.nx [o0,o1,o2,o3,o4,some (true,.lst (sT (B++Qr (pE ds w n)))),some ↑S,o7,some (false,.str n),e,o10,o11]:=⟨_,rfl,Xc w n o3 o7 ds _ _ (λe he=>h e (List.mem_cons_of_mem _ he)) (by split<;>(try rw[List.length_append,List.length_singleton])<;>omega)⟩;refine⟨e,?_⟩;rw[List.map_cons,jy (e1:=[o0,o1,o2,o3,o4,some (true,.lst (sT A)),some ↑S,o7,some (false,.str n),some (false,d.t),o10,o11])]
  ·rw[ih];unfold pE;by_cases g:d.w=w/\d.z=n;·rw[hB,if_pos g,List.append_assoc,List.filter_cons_of_pos (by rw[<-Bool.decide_and];exact decide_eq_true g)];rfl
   ·rw[hB,if_neg g,List.filter_cons_of_neg (by rw[<-Bool.decide_and,decide_eq_false g];exact Bool.false_ne_true)]
  ·rfl
  ·generalize d.t=t at h0 h1 hr;have ht:xl (jO (Wz 9 6 0) (Wz 9 8 1)) [o0,o1,o2,o3,o4,some (true,.lst (sT A)),some ↑S,o7,some (false,.str n),some ↑P,o10,o11]=.ok (decide (d.w=w)&&decide (d.z=n)):=xh (b9 (Qs rfl rfl h0) (Qs rfl rfl h1));rw[<-Bool.decide_and]at ht;by_cases g:d.w=w/\d.z=n;·rw[hB,if_pos g];rw[decide_eq_true g]at ht;unfold lB;rw[kY ht,aC rfl (vF ↑q hr) (by rw[xj];have:=big;omega),dA];rfl
   ·rw[hB,if_neg g];rw[decide_eq_false g]at ht;exact zS ht
theorem Zn(ds:List D)(hd:∀d∈ds,d.ok/\d.wds)(hs:ds.length<=13)(w:Str)(o7:Option RV):∀(ns:List Str)(A:List Str)(b:Bool)(e8 e9:Option RV),A.length+13*ns.length<900->∃b' e8' e9',xP (gN 8) (xF (lF 3) (gN 9) lB) (sT ns) [o0,o1,o2,some (b,.lst ↑ax),o4,some (true,.lst (sT A)),some ↑S,o7,e8,e9,o10,o11]=.nx [o0,o1,o2,some (b',.lst ↑ax),o4,some (true,.lst (sT (A++Qr (ns.flatMap (pE ds w))))),some ↑S,o7,e8',e9',o10,o11]
 |[],A,b,e8,e9,_=>⟨b,e8,e9,by show _=Gf.nx [_,_,_,_,_,some (true,.lst (sT (A++[]))),_,_,_,_,_,_];rw[List.append_nil];rfl⟩|n::ns,A,b,e8,e9,hl=>by
  rw[List.length_cons]at hl;obtain⟨e,h1⟩:=Xc o0 o1 o2 o4 o10 o11 w n (some (false,.lst ↑ax)) o7 ds A e9 hd ↑a;have hp:(pE ds w n).length<=13:=Nat.le_trans (List.length_filter_le _ _) hs;obtain⟨b',e8',e9',h2⟩:=Zn ds hd hs w o7 ns (A++Qr (pE ds w n)) false (some (false,.str n)) e (by simp[Qr];omega);refine⟨b',e8',e9',?_⟩;show xP _ _ (T.str n::sT ns) _=_;rw[jy];·rw[h2,List.append_assoc,List.flatMap_cons];unfold Qr;rw[List.map_append]
  ·rfl
  ·exact h1
theorem Xd(w:Str):∀ds:List D,xZ (Wz 0 1 0) ↑ai [some ↑S] ↑ax=.ok (sT (mU ds w))
 |[]=>rfl|d::ds=>by
  have ih:=Xd w ds;have h0:=Zb d;have h1:=YX d;have hm:m2 zk ↑m ↑c [some (false,d.t),some ↑S]=.ok (false,.str d.z):=v2 rfl rfl h1;have ht:Wz 0 1 0 [some (false,d.t),some ↑S]=.ok (decide (d.w=w)):=Qs rfl rfl h0;show(match Wz 0 1 0 [some (false,d.t),some ↑S]with|.ok true=>(match m2 zk ↑m ↑c [some (false,d.t),some ↑S]with|.ok r=>(match xZ (Wz 0 1 0) ↑ai [some ↑S] ↑ax with|.ok rs=>gl.ok (r.2::rs)|_=>.bad)|_=>.bad)|.ok false=>xZ (Wz 0 1 0) ↑ai [some ↑S] ↑ax|_=>.bad)=_;rw[ht,hm,ih];by_cases g:d.w=w;·unfold mU;rw[decide_eq_true g,List.filter_cons_of_pos (p:=λd:D=>decide (d.w=w)) (decide_eq_true g)];rfl
  ·unfold mU;rw[decide_eq_false g,List.filter_cons_of_neg (by rw[decide_eq_false g];exact Bool.false_ne_true)]
theorem Xe(hA:ji ds)(hs:ds.length<=13)(w:Str)(env:En)(b:Bool)(h3:env[3]?=some (some (b,.lst ↑ax)))(h6:env[6]?=some (some ↑S)):E4 env=.ok (true,.lst (sT (JO ds w))):=by
 have hc:=Xd w ds;have hl:(mU ds w).length<64:=by unfold mU;rw[List.length_map];have:=List.length_filter_le (λd:D=>decide (d.w=w)) ds;omega
 have hq:x9 [.lst (sT (mU ds w))]=some (true,.lst (sT (JO ds w))):=by show(sortS (sT (mU ds w))).map _=_;rw[KM hl (bD hA w),UQ];rfl
 have hn:(ds.map D.t).length<=sizeLine:=by rw[List.length_map];have:=big;omega
 have hi:jF (mV 3) env=.ok ↑ax:=by simp[jF,mV,h3,qy]
 have hk:kU env [6]=[some ↑S]:=by simp[kU,h6]
 generalize ds.map D.t=Y at hc hn hi;have hm:zW (jF (mV 3)) (Wz 0 1 0) ↑ai [6] env=.ok (true,.lst (sT (mU ds w))):=by unfold zW;rw[hi,bind_ok,if_pos hn,hk,hc]
 exact vK (vC hm rfl) hq
theorem U7(h3:env[3]?=some none):E4 env=.bad:=by simp[E4,zl,z3,zW,jF,mV,h3]
theorem Zo(ds:List D)(hd:∀d∈ds,d.ok/\d.wds)(hA:ji ds)(hs:ds.length<=13):∀(ws:List Str)(A:List Str)(b:Bool)(e6 e7 e8 e9:Option RV),A.length+200*ws.length<900->∃b' e6' e7' e8' e9',xP (gN 6) oB (sT ws) [o0,o1,o2,some (b,.lst ↑ax),o4,some (true,.lst (sT A)),e6,e7,e8,e9,o10,o11]=.nx [o0,o1,o2,some (b',.lst ↑ax),o4,some (true,.lst (sT (A++Qr (Zk ds ws)))),e6',e7',e8',e9',o10,o11]
 |[],A,b,e6,e7,e8,e9,_=>⟨b,e6,e7,e8,e9,by show _=Gf.nx [_,_,_,_,_,some (true,.lst (sT (A++[]))),_,_,_,_,_,_];rw[List.append_nil];rfl⟩|w::ws,A,b,e6,e7,e8,e9,hl=>by
  rw[List.length_cons]at hl;have ln:(JO ds w).length<=13:=by unfold JO mU;rw[List.length_map,mN,xj,List.length_map];exact Nat.le_trans (List.length_filter_le _ _) hs
  have lo:(Qr (JP ds w)).length<=13*13:=by
   have:∀l:List Str,(l.flatMap (pE ds w)).length<=13*l.length:=by intro l;induction l with|nil=>simp|cons n l ih=>have:(pE ds w n).length<=13:=Nat.le_trans (List.length_filter_le _ _) hs;simp only[List.flatMap_cons,List.length_append,List.length_cons];omega
   have:=this (JO ds w);unfold Qr JP;rw[List.length_map];omega
  obtain⟨b1,e81,e91,h1⟩:=Zn o0 o1 o2 o4 o10 o11 ds hd hs w (some (false,.lst (sT (JO ds w)))) (JO ds w) A b e8 e9 ↑a;obtain⟨b',e6',e7',e8',e9',h2⟩:=Zo ds hd hA hs ws (A++Qr (JP ds w)) b1 (some ↑S) (some (false,.lst (sT (JO ds w)))) e81 e91 (by rw[List.length_append];omega);refine⟨b',e6',e7',e8',e9',?_⟩;show xP _ _ (T.str w::sT ws) _=_;rw[jy];·rw[h2,List.append_assoc];unfold Qr Zk;rw[List.flatMap_cons,List.map_append]
  ·rfl
  ·unfold oB;have hc:=aL (JO ds w);rw[zb (e':=[o0,o1,o2,some (b,.lst ↑ax),o4,some (true,.lst (sT A)),some ↑S,some (true,.lst (sT (JO ds w))),e8,e9,o10,o11])];·exact h1
   ·cases b with|true=>exact xv (Xe hA hs w _ true rfl rfl) (.inl (U7 rfl)) (jB hc.1 hc.2.1 hc.2.2)|false=>exact zw (Xe hA hs w _ false rfl rfl)
end
def Xf(x k:Nat):Wd (nm x k):=by refine⟨by rw[<-jt,wo];have:=(vf x k).2;omega,λc hc=>?_⟩;rw[wo]at hc;have:=aR x k c hc;omega
def Qt(x k n:Nat)(made:Bool):Wd (fj (nm x k) n made):=by
 have e:(fj (nm x k) n made).cps.toList=kg (pQ x k) n made:=by unfold fj;rw[wo]
 refine⟨by rw[<-jt,e];have:=YO x k n made;omega,λc hc=>?_⟩;rw[e]at hc;have hl:∀c∈pQ x k,c≠32/\c≠10/\c≠58:=λc h=>by have:=aR x k c h;omega
 unfold kg at hc;split at hc;·exact hl c hc
 ·have f1:∀c∈[35,51,46],c≠32/\c≠10/\c≠58:=by decide
  have f2:∀c∈[40],c≠32/\c≠10/\c≠58:=by decide
  have f3:∀c∈[38,110,117,109,41],c≠32/\c≠10/\c≠58:=by decide
  have f4:∀c∈[46],c≠32/\c≠10/\c≠58:=by decide
  split at hc<;>simp only[List.mem_append]at hc;·exact hc.elim (f1 c) (hl c)
  ·exact hc.elim (λh=>h.elim (f2 c) (hl c)) (f3 c)
  ·exact hc.elim (λh=>h.elim (hl c) (f4 c)) (hl c)
def Lu:∀k∈(["num","word","zz","#3","(num&word)","zz.ok"]:List Str),Wd k:=by
 have:∀k∈(["num","word","zz","#3","(num&word)","zz.ok"]:List Str),k.length<=40/\∀c∈k.cps.toList,c≠32/\c≠10/\c≠58:=by decide+kernel
 exact this
def HA(x:Nat):∀k∈gX x,Wd k:=λk hk=>by
 rcases List.mem_append.mp hk with h|h;·exact Lu k h
 ·obtain⟨i,_,rfl⟩:=List.mem_map.mp h;exact Xf x i
def Qu(h:z∈zI y n):Wd z:=by obtain⟨i,_,rfl⟩:=List.mem_map.mp h;exact Xf y i
def t7{ks:List Str}(h:0<ks.length)(i:Nat):ks.getD (i%ks.length) ""∈ks:=by have hi:i%ks.length<ks.length:=Nat.mod_lt _ h;rw[List.getD_eq_getElem?_getD,List.getElem?_eq_getElem hi];exact List.getElem_mem hi
def JQ{P:List (Str×Str×List T)}{y n:Nat}{ks:List Str}(h1:P.map (·.1)=zI y n)(hk:∀k∈ks,Wd k)(h2:∀p∈P,p.2.1∈ks/\strsL p.2.2=[]):∀z∈strsL (pC P),Wd z:=by
 intro z hz;obtain⟨t,ht,hz⟩:=vt.mp hz;obtain⟨p,hp,rfl⟩:=List.mem_map.mp ht;have h3:=(h2 p hp).2;simp[j5,strsL,h3]at hz;rcases hz with rfl|rfl;·exact Qu (y:=y) (n:=n) (by rw[<-h1];exact List.mem_map_of_mem hp)
 ·exact hk _ (h2 p hp).1
def HB(h:∀y∈ys,Wd y):∀z∈strsL (sT ys),Wd z:=by intro z hz;obtain⟨t,ht,hz⟩:=vt.mp hz;obtain⟨y,hy,rfl⟩:=List.mem_map.mp ht;simp[j5]at hz;rw[hz];exact h y hy
def U8(x k:Nat)(c:Int)(ks:List Str)(h0:0<ks.length)(hk:∀k∈ks,Wd k):(Ws (nm x k) c ks).wds:=by
 unfold Ws D.wds;dsimp only;split
 ·intro z hz;rw[wP,rW]at hz;simp only[D.t,j5,strsL,List.mem_append,List.mem_singleton,List.not_mem_nil,or_false,false_or]at hz;rcases hz with rfl|rfl|hz;·exact UM
  ·exact Qt x k _ _
  ·refine JQ (rX _ _ _ _ _) hk (λp hp=>?_) z hz;obtain⟨i,_,rfl⟩:=List.mem_map.mp hp;exact⟨t7 h0 _,rfl⟩
 ·split
  ·intro z hz;rw[bt]at hz;simp only[D.t,j5,strsL,List.mem_append,List.mem_singleton,List.not_mem_nil,or_false,false_or]at hz;rcases hz with rfl|rfl|hz;·exact UL
   ·exact Qt x k _ _
   ·refine JQ (rY _ _ _ _) hk (λp hp=>?_) z hz;obtain⟨i,_,rfl⟩:=List.mem_map.mp hp;exact⟨t7 h0 _,rfl⟩
  ·intro z hz;simp only[D.t]at hz;rw[List.take_append_drop,dv]at hz;simp only[j5,strsL,List.mem_append,List.mem_singleton,List.not_mem_nil,or_false,false_or]at hz;rcases hz with rfl|rfl|hz|rfl|hz;·exact Qa
   ·exact Xf x k
   ·refine JQ (rZ _ _ _ _) hk (λp hp=>?_) z hz;obtain⟨i,_,rfl⟩:=List.mem_map.mp hp;exact⟨t7 h0 _,rfl⟩
   ·exact hk _ (t7 h0 _)
   ·exact HB (λy hy=>Qu hy) z hz
def UR(z:Str):D:=.fn z [] [] z [.str "e"]
def Lv(x i:Nat):nm x i=fj (nm x i) 0 true:=nI (by unfold fj;rw[wo];exact(dt x i 0).symm)
def Do:Nm "e":=by have h:=uE "e" ↑aa ↑aa;rw[show Fs.isName ("e":Str).cps.toList=true by decide+kernel]at h;exact h
def Lw(x i:Nat):(UR (nm x i)).ok/\(UR (nm x i)).wds:=by
 have hn:Nm (nm x i):=nG x (i+1) _ (List.mem_map.mpr ⟨i,by simp[List.mem_range'],rfl⟩);have hk:Kd (nm x i):=by refine aO _ (by rw[<-jt,wo];have:=(vf x i).2;omega) ?_;rw[wo,<-dt x i 0];exact rV x i 0 true
 refine⟨⟨hn,hk,⟨Nat.zero_le _,List.nodup_nil,λt ht=>by cases ht⟩,⟨by simp,by simp,λt ht=>?_⟩⟩,λz hz=>?_⟩
 ·obtain rfl:t=.str "e":=by simpa using ht
  exact⟨_,rfl,Do⟩
 ·simp[UR,D.t,j5,strsL]at hz;rcases hz with rfl|rfl|rfl;·exact Qa
  ·exact Xf x i
  ·exact⟨by decide+kernel,by decide+kernel⟩
def WA(hn:n<=13)(hi:i<13)(e:pD x ns ks n=d::r)(hF:d.isF=false)(hz:d.z=nm x i):ji (pD x ns ks n++[UR d.z]):=by
 unfold ji;rw[List.pairwise_append];refine⟨dD x ns ks n hn,List.pairwise_singleton _ _,λa ha b hb hab z=>?_⟩;obtain rfl:b=UR d.z:=by simpa using hb
 have z:a.z=d.z:=z;have hab:a.isF=true:=hab;have h0:0<n-1:=by rw[<-Z9 x ns ks n,e];exact Nat.succ_pos _
 have hd:d=Ws (nm x 1) (ns.getD 1 0) ks:=by
  have h1:(pD x ns ks n)[0]?=some d:=by rw[e];rfl
  unfold pD at h1;rw[List.getElem?_map,List.getElem?_range' h0]at h1;exact(Option.some.inj h1).symm
 obtain⟨j,hj,rfl⟩:=List.mem_map.mp ha;have hj:=List.mem_range'_1.mp hj;rcases Z8 (nm x j) (ns.getD j 0) ks with⟨_,q⟩|⟨q,_⟩
 ·rcases Z8 (nm x 1) (ns.getD 1 0) ks with⟨p,_⟩|⟨_,n1,m1,p⟩;·rw[hd,p]at hF;cases hF
  ·rw[q,hd,p,Lv]at z;have:=Z4 ↑a ↑a z;subst this;rw[hd,hab]at hF;cases hF
 ·rw[q]at hab;cases hab
def HC(z:Str):∀ys:List Str,fw (.str z) (.lst (sT ys))=some (false,.bl (decide (z∈ys))):=by
 intro ys;have:vz (.str z) (sT ys)=some (decide (z∈ys)):=by induction ys with|nil=>rfl|cons y ys ih=>
   have e:fk 40 (.str y) (.str z)=some (decide (y=z)):=by have h:=qK y z;unfold zG at h;cases g:fk 40 (.str y) (.str z)with|none=>rw[g]at h;cases h|some k=>rw[g]at h;cases h;rfl
   have d:(decide (y=z)||decide (z∈ys))=decide (z∈y::ys):=by rw[<-Bool.decide_or];exact decide_eq_decide.mpr ⟨λh=>h.elim (λh=>h▸List.mem_cons_self) (List.mem_cons_of_mem _),λh=>(List.mem_cons.mp h).imp Eq.symm id⟩
   show vz (.str z) (T.str y::sT ys)=_;unfold vz;rw[e,ih];dsimp only;rw[d]
 show(vz (.str z) (sT ys)).map _=_;rw[this];rfl
def E5(fN fS fC:MF):ME:=z9 fN (z3 (m2 zk (z9 fS (z3 (z9 fC (z3 ↑m (z3 ↑l z5))) (z3 ↑c z5))) ↑l) (z3 (mC (.int 13)) z5))
def Lx(fN fS fC:MF)(L S N:T)(c x:Int)(r:List (Option RV))(b b':Bool)(h1:fC [(false,L),(false,.int 0)]=.ok ↑r)(h2:fS [↑r,(false,.int 1)]=.ok (b,S))(h3:zk S (.int 0)=some ↑an)(h4:fN [↑an,(false,.int 13)]=.ok (b',N)):E5 fN fS fC (some (false,L)::r)=.ok (b',N):=by simp[E5,z9,z3,z5,m2,mV,mC,h1,h2,h3,h4]
def U9(ns:List Int)(r:List (Option RV)):∃x:Nat,E5 jH jc jr (some ↑au::r)=.ok (true,.lst (sT (zI x 13))):=by
 have h1:jr [↑au,(false,.int 0)]=.ok (false,.int (ns.getD 0 0)):=GS ns 0;have h2:jc [(false,.int (ns.getD 0 0)),(false,.int 1)]=.ok (true,.lst (iT (mH (ns.getD 0 0) 1))):=by rw[<-YL];exact bd (ns.getD 0 0) 1 ↑a
 have h3:zk (.lst (iT (mH (ns.getD 0 0) 1))) (.int 0)=some (false,.int ((mH (ns.getD 0 0) 1).getD 0 0:Nat)):=Kz (mH (ns.getD 0 0) 1) 0 (by rw[rP];omega);refine⟨(mH (ns.getD 0 0) 1).getD 0 0,Lx _ _ _ _ _ _ _ _ r _ _ h1 h2 h3 ?_⟩;rw[<-di];exact dg _ 13 ↑a
def Ua(x:Nat):dR (.lst (sT (zI x 13))) none (some 4)=some (true,.lst (sT (zI x 4))):=by show some (true,T.lst (qw (sT (zI x 13)) none (some ((4:Nat):Int))))=_;rw[dj];unfold sT;rw[<-List.map_take,show(zI x 13).take 4=zI x 4 from rfl]
def Ub(x:Nat)(o0:Option RV)(b:Bool)(r:List (Option RV)):Hf (o0::some (b,.lst (sT (zI x 13)))::r)=.ok (true,.lst (sT (gX x))):=by
 have h6:6<=sizeLine:=by decide
 have a:=MY x;have c:=Ua x;generalize gX x=ks at a;generalize sT (zI x 4)=q at a c;have a:zg (.lst [.str "num",.str "word",.str "zz",.str "#3",.str "(num&word)",.str "zz.ok"]) (.lst q)=some (true,.lst (sT ks)):=a;simp[Hf,m2,jo,z3,z5,mC,h6,k5,mV,zO,zx,c,a]
def Uc(o0:Option RV)(r:List (Option RV)):Hf (o0::none::r)=.bad:=by
 have h6:6<=sizeLine:=by decide
 simp[Hf,m2,jo,z3,z5,mC,h6,k5,mV]
def E9(f:MF):ME:=zW (fB MZ) zK (HX f) [2,1,0]
def Xg(x:Nat)(ns:List Int)(ks:List Str)(n:Nat):Dy x ns ks n=(pD x ns ks n).map D.t:=by unfold Dy pD;rw[List.map_map];apply List.map_congr_left;intro i _;exact(Hl _ _ _).symm
def Ud(x:Nat)(ns:List Int)(ks:List Str)(hks:0<ks.length)(b c:Bool)(r:List (Option RV)):E9 jI (some (c,.lst (ns.map T.int))::some (b,.lst (sT (zI x 13)))::some (b,.lst (sT ks))::r)=.ok (true,.lst ((pD x ns ks (min ns.length 13)).map D.t)):=by
 have hm:=KR (ns.map T.int) c (some (b,.lst (sT (zI x 13)))::some (b,.lst (sT ks))::r);rw[List.length_map]at hm;rw[<-Xg];refine Z7 hm ↑a λi h1 h2=>⟨false,?_⟩;have hi:i<ns.length:=by omega
 have hi14:i<13:=by omega
 have y1:zk (.lst (sT (zI x 13))) (.int (i:Int))=some (false,.str (nm x i)):=by rw[dh];unfold zI;rw[List.getElem?_map,List.getElem?_range' ↑a];simp
 have y2:zk (.lst (ns.map T.int)) (.int (i:Int))=some (false,.int (ns.getD i 0)):=by rw[WJ,List.getElem?_map,getD_some hi];rfl
 have hl:(nm x i).length<=12:=by rw[<-jt,wo];exact(vf x i).2
 exact Hg jI (sT ks) (sT (zI x 13)) (ns.map T.int) i b b c _ _ _ false y1 y2 (KC (nm x i) (ns.getD i 0) ks ↑a hks)
def JR(x:Nat)(ns:List Int)(ks:List Str)(r:List (Option RV)):E9 jI (some ↑au::none::none::r)=.bad\/E9 jI (some ↑au::none::none::r)=.ok (true,.lst ((pD x ns ks (min ns.length 13)).map D.t)):=by
 have hm:=KR (ns.map T.int) false (none::none::r);rw[List.length_map]at hm;by_cases h:0<min ns.length 13-1;·left;refine Wo hm ↑a h ?_;rfl
 ·right;rw[<-Xg];exact Z7 (me:=HX jI) (slots:=[2,1,0]) (g:=λi=>dl (nm x i) (ns.getD i 0) ks) hm ↑a λi h1 h2=>by omega
def p0(k:Int):ME:=m2 zk (m2 zk (mV 3) ↑l) (mC (.int k))
def LD(w:Str):MT:=jO (zX (m2 wS (mV 3) (jo z5))) (jO (zX (m2 wS (p0 0) (mC (.str w)))) (zX (m2 fw (p0 1) (mV 1))))
def Ea(w e:Str):ME:=jL (z3 (mC (.str w)) (z3 (p0 1) (z3 ↑l (z3 (jL z5) (z3 (p0 1) (z3 (jL (z3 (mC (.str e)) z5)) z5))))))
def Eb(c:CA):ME:=fD c.Face (jz c) (z3 (zl uT (z3 (mV 3) z5)) z5)
def Ec(c:CA)(i:Nat):ME:=z9 (gv c) (z3 (mV i) z5)
def DP(x:Str)(y:String):MT:=w9 (xk (km (zl VX (z3 (mV 10) (z3 (mC (.ty y)) z5))))) (zX (m2 wS (mV 10) (eF oS kE (mC (.str x)) (z3 (mV 5) z5))))
def Dp(c:CA):ME:=jP (cR [(c.Face,true)] (mV 11)) (jP (m2 zG (UK c (mV 11)) (UK c (mV 4))) (m2 zG (Ec c 11) (mV 10)))
def DQ:ME:=jo (z3 ↑bc (z3 (mC (.str "function")) (z3 ↑bb z5)))
def Qv(c:CA):UD c=zc (zn 1 (E5 jH jc jr)) (zc (zn 2 Hf) (zc (zn 3 (E9 jI)) (zc (jN (LD "function") (kQ 3 (Ea "function" "e")) zq) ↑a3))):=rfl
def Ue(c:CA)(ok:∀d∈ds,d.ok)(hA:ji ds)(hl:ds.length<=13)(h3:env[3]?=some (some (b,.lst ↑ax))):Eb c env=.ok (false,pR c ds):=by
 rw[<-Q7 c ok hA hl (env:=[some (true,.lst ↑ax)]) (i:=0) rfl];have e1:z3 (zl uT (z3 (mV 3) z5)) z5 env=.ok [(true,.lst ↑ax)]:=by exact vC (vK (vC (vV h3) rfl) rfl) rfl
 have e2:z3 ↑m z5 [some (true,.lst ↑ax)]=.ok [(false,.lst ↑ax)]:=rfl;unfold Eb Dz fD;rw[e1,e2,bind_ok,bind_ok];rfl
def Ly(hw:w="function")(h1:env[1]?=some (some (true,.lst (sT (zI x 13)))))(h3:env[3]?=some (some (true,.lst ↑ax))):xl (LD w) env=.ok true/\(∃d r i,ds=d::r/\d.isF=false/\i<13/\d.z=nm x i)\/xl (LD w) env=.ok false:=by
 have hb:LD w (zJ env)=.bad:=by
  have:(zJ env)[3]?=some none:=by unfold zJ;rw[List.getElem?_map,h3];rfl
  unfold LD jO zX m2 mV;rw[this];rfl
 have k0:∀{b:Bool},wS (.lst ↑ax) (.lst [])=some (false,.bl b)->zX (m2 wS (mV 3) (jo z5)) env=.ok b:=λ{b}h=>vT (v2 (vV h3) (vL (rs:=[]) rfl rfl rfl) h);cases ds with|nil=>refine .inr (j8 hb ?_);unfold LD jO;rw[k0 rfl];rfl|cons d r=>
  have a0:zk (.lst ((d::r).map D.t)) (.int 0)=some (false,d.t):=WJ _ 0;have k1:zX (m2 wS (p0 0) (mC (.str w))) env=.ok (!d.isF):=by rw[<-UJ,<-hw];exact vT (v2 (v2 (v2 (vV h3) rfl a0) rfl (Zb d)) rfl (gT d.w w))
  have k2:zX (m2 fw (p0 1) (mV 1)) env=.ok (decide (d.z∈zI x 13)):=vT (v2 (v2 (v2 (vV h3) rfl a0) rfl (YX d)) (vV h1) (HC d.z (zI x 13)));have k3:=j8 hb (b9 (k0 rfl) (b9 k1 k2));by_cases k:d.isF=false/\d.z∈zI x 13;·rw[k.1,decide_eq_true k.2]at k3;obtain⟨i,hi,e⟩:=List.mem_map.mp k.2;exact .inl ⟨k3,d,r,i,rfl,k.1,by have:=List.mem_range'_1.mp hi;omega,e.symm⟩
  ·right;rw[k3];cases g:d.isF with|true=>rfl|false=>rw[decide_eq_false λz=>k ⟨g,z⟩];rfl
def Uf(h3:env[3]?=some (some (b,.lst ((d::r).map D.t)))):Ea "function" "e" env=.ok (false,(UR d.z).t):=by have a0:zk (.lst ((d::r).map D.t)) (.int 0)=some (false,d.t):=WJ _ 0;have b1:=YX d;have hp:p0 1 env=.ok (false,.str d.z):=v2 (v2 (vV h3) rfl a0) rfl b1;unfold Ea jL;rw[vC rfl (vC hp (vC rfl (vC rfl (vC hp ↑q))))];rfl
def Zp(okw:∀d∈ds,d.ok/\d.wds)(hA:ji ds)(hl:ds.length<=13)(L:T)(tt kk:List T):↑a3 [some (false,L),some (true,.lst tt),some (true,.lst kk),some (true,.lst ↑ax),none,none,none,none,none,none,none,none]=.rt ↑h:=by
 have ok:∀d∈ds,d.ok:=λd hd=>(okw d hd).1;have s0:0<=sizeLine:=by decide
 obtain⟨es,o⟩:=Qo okw hA;obtain⟨es2,o2⟩:=Qo o.okw o.same.ap;have e2:es2=es:=mT (by rw[o2.tell,o.same.told,o.tell]);subst e2;have hle:es2.length<=13:=by rw[o.same.len];exact hl
 have hj:=bB o.okw hle;have hw:=nN c o hA hl false;have hw2:=nN c o2 o.same.ap hle false;have hf:=Zj c o.okw o.same.ap hle;have hall:=U6 o hA;rw[zb (xv (Ue c ok hA hl rfl) (.inl rfl) (YW c ok rfl rfl))];rw[zb (zw (vL (rs:=[]) rfl rfl rfl))];obtain⟨b,e6,e7,e8,e9,hL⟩:=Zo (some (false,L)) (some (true,.lst tt)) (some (true,.lst kk)) (some (false,pR c ds)) none none ds okw hA hl w3 [] true none none none none ↑v;rw[zb (e':=[some (false,L),some (true,.lst tt),some (true,.lst kk),some (b,.lst ↑ax),some (false,pR c ds),some (true,.lst (sT (es2.map j4))),e6,e7,e8,e9,none,none])];rotate_left;·rw[hall];exact ii (vL (vC rfl ↑aR) rfl rfl) hL
 clear hL hall;generalize hX:Str.join "\n" (es2.map j4)=X at hj hw hw2 hf;generalize sT (es2.map j4)=Z at hj;rw[zb (e':=[some (false,L),some (true,.lst tt),some (true,.lst kk),some (b,.lst ↑ax),some (false,pR c ds),some (true,.lst Z),e6,e7,e8,e9,some (false,.str X),none]) (zw (vF ↑q hw))];have hi:VX [.str X,.ty "str"]=some ↑h:=rfl;rw[zb (zS (j8 ?_ ?_))]
 ·rw[zb (zw (vF ↑q hf))];refine j9 ?_;have key:∀env:En,env[11]?=some (some (false,pR c es2))->env[4]?=some (some (false,pR c ds))->env[10]?=some (some (false,.str X))->Dp c env=.ok ↑h:=λenv h11 h4 h10=>by
   have n:=Q6 (Wt ok);have p:UK c (mV 11) env=.ok (true,.lst (told ds)):=by rw[<-o.same.told];exact JF c o.same.ap hle (vV h11)
   have q:UK c (mV 4) env=.ok (true,.lst (told ds)):=JF c hA hl (vV h4);have i:cR [(c.Face,true)] (mV 11) env=.ok ↑h:=by have:mV 11 env=.ok (false,pR c es2):=vV h11;unfold cR;rw[this,bind_ok];show(match Ut c.Face [(c.Face,true)]with|some b=>gl.ok (false,T.bl b)|none=>.bad)=_;rw[Ut,if_pos rfl]
   have r:Ec c 11 env=.ok (false,.str X):=vF (vC (vV h11) rfl) hw2;have v:mV 10 env=.ok (false,.str X):=vV h10;have e:=qK X X;rw[decide_eq_true rfl]at e;exact av i (av (v2 p q n) (v2 r v e))
  exact key _ rfl rfl rfl
 ·rfl
 ·have e:=gT X X;rw[decide_eq_true rfl]at e;show(zX (m2 wS (mV 10) (eF oS kE (mC (.str "\n")) (z3 (mV 5) z5))) _)=_;unfold zX;rw[v2 (q:=false) (x:=.str X) (y:=.str X) rfl (by unfold eF;show Y9 (kE [.str "\n",.lst Z])=_;rw[hj];rfl) e];rfl
def Qw(ns:List Int)(hns:ns.length<=63):UE c [↑au]=.ok ↑h:=by
 refine zZ rfl ?_;rw[Qv];show zc _ _ [some ↑au,none,none,none,none,none,none,none,none,none,none,none]=_;obtain⟨x,hx⟩:=U9 ns (zJ [none,none,none,none,none,none,none,none,none,none,none]);have hks:=Pd x;have ok:=Po x ns (gX x) (min ns.length 13) hks;have okw:∀d∈pD x ns (gX x) (min ns.length 13),d.ok/\d.wds:=λd hd=>⟨ok d hd,by obtain⟨i,_,rfl⟩:=List.mem_map.mp hd;exact U8 _ i _ _ hks.1 (HA _)⟩;have hA:=dD x ns (gX x) (min ns.length 13) ↑a;have hl:(pD x ns (gX x) (min ns.length 13)).length<=12:=by rw[Z9];omega
 have hB:=λ{i:Nat}{d:D}{r:List D}=>WA (x:=x) (ns:=ns) (ks:=gX x) (n:=min ns.length 13) (i:=i) (d:=d) (r:=r) ↑a;have n2:=aL (gX x);have n3:=gB (Pu ok);rw[zb (zw hx)];rw[zb (e':=[some ↑au,some (true,.lst (sT (zI x 13))),some (true,.lst (sT (gX x))),none,none,none,none,none,none,none,none,none]) (xv (Ub x _ true _) (.inl (Uc _ _)) (jB n2.1 n2.2.1 n2.2.2))];rw[zb (e':=[some ↑au,some (true,.lst (sT (zI x 13))),some (true,.lst (sT (gX x))),some (true,.lst ((pD x ns (gX x) (min ns.length 13)).map D.t)),none,none,none,none,none,none,none,none]) (xv (Ud x ns _ hks.1 true false _) (JR x ns _ _) (jB n3.1 n3.2.1 n3.2.2))];generalize sT (gX x)=kk;generalize pD x ns (gX x) (min ns.length 13)=ds at*;generalize T.lst (ns.map T.int)=L;rcases Ly (ds:=ds) (x:=x) (env:=[some (false,L),some (true,.lst (sT (zI x 13))),some (true,.lst kk),some (true,.lst ↑ax),none,none,none,none,none,none,none,none]) rfl rfl rfl with⟨h,d,r,i,e,hF,hi,hz⟩|h
 ·have hB:=hB hi e hF hz;have hm:Ea "function" "e" [some (false,L),some (true,.lst (sT (zI x 13))),some (true,.lst kk),some (true,.lst ↑ax),none,none,none,none,none,none,none,none]=.ok (false,(UR d.z).t):=Uf (by rw[<-e];rfl);have hx:=Lw x i;rw[<-hz]at hx;have nf:=i8 3 _ (nK hx.1);rw[zb (e':=[some (false,L),some (true,.lst (sT (zI x 13))),some (true,.lst kk),some (true,.lst ((ds++[UR d.z]).map D.t)),none,none,none,none,none,none,none,none])]
  ·refine Zp (λa ha=>?_) hB (by rw[List.length_append,List.length_singleton];omega) L _ kk;rcases List.mem_append.mp ha with g|g;·exact okw a g
   ·rw[List.mem_singleton.mp g];exact hx
  ·rw[kY h,YE rfl rfl hm (jB nf.1 nf.2.1 nf.2.2) (by rw[List.length_map];have:=big;omega),List.map_append];rfl
 ·rw[zb (zS h)];exact Zp okw hA ↑a L _ kk
theorem walk{l:W.OpenLaw}{q:Program}{loose:List Str}{XP:(Str->Option Value)->Heap->Prop}{YP:World->Heap->Prop}{d:DefRec}{K:Params->W.Frag}(hn:l.most=some 63)(hdf:d.params.defaults=[])(hdn:d.name="law")(hY:∀(w:World)(h:Heap),YP w h->(K w.params).In h)(hYT:∀(w:World)(h:Heap),YP w h->h.get? tabP=some {cls:=.none,data:=.fields #[]}){c₀:Addr}(hYC:∀(w:World)(h:Heap),YP w h->W.CodeHd h c₀ tabP)(hYN:∀w:World,W.noTabs (K w.params)=true)(F:∀(w:World)(mg:Str->Option Value)(h:Heap),(K w.params).In h->h.Ns mainGlobals mg->∃c,Txt l.prog w (K w.params) mg c):W.WalkO q loose XP YP l.row.toRowW d [] (λf vs=>PySem.call f vs):=ID (x:="_law_script") (k:=13) (st:=b7) hn hdf hdn ⟨rfl,by decide,by decide⟩ hY hYT hYC hYN (λ_ _ _ _ _ _ _=>rfl) λw mg h KX G=>by obtain⟨c,T⟩:=F w mg h KX G;exact⟨T.wH,λf fd Fl base=>Me (Mt T Fl) (Qw)⟩
end Law
open PySem PySem.W PyProof.Rows L3
namespace PySem.W.Fast
def tw9150234243595115833:=0
def tw9766031886644189642:=0
def tw791889310917054241:=0
def tw2354359876293984323:=0
def tw7593141081865064375:=0
def tw12031761978638038287:=0
def tw13670421003762600242:=0
def tw16923545753870385412:=0
def tw12059395268617378274:=0
def tw8906152042785011223:=0
def tw6351461887044071016:=0
def tw17548245460055528191:=0
def tw8771152112404651426:=0
def tw8358719941639043993:=0
def tw10279019815827400316:=0
def tw5774181786740538851:=0
def tw16980094189477930763:=0
def tw725707652220869034:=0
def tw13188099613103889456:=0
def tw11585926436105772363:=0
def tw16789268410330992385:=0
def tw12961515344673819024:=0
def tw1512007556440799117:=0
def tw10895959356253697904:=0
def tw852683824801316653:=0
def tw4324035661488283107:=0
def tw13034660360785132543:=0
def tw10923975432279854403:=0
def tw11952173151523551691:=0
def tw17378136541481341699:=0
def tw3260285245277721150:=0
def tw17903595053988154870:=0
def tw4995044642535819512:=0
def tw11920938766985724721:=0
def tw7669441284879210958:=0
def tw8725125861045246223:=0
def tw5508416539575440514:=0
def tw3801489777684663367:=0
def tw8313897947470551787:=0
def tw5527834804669145621:=0
def tw2026205500285133492:=0
def tw17958091626893437647:=0
def tw17065412257417615917:=0
def tw1486435163348676520:=0
def tw12281301246445855172:=0
def tw15494960370316858516:=0
def tw13688803683469476797:=0
def tw9360810746008623746:=0
def tw5856344991016512767:=0
def tw2381308933017022220:=0
def tw14893678449729574500:=0
def tw16954473119169576146:=0
def tw3425292860534715133:=0
def tw3722620528965813438:=0
def tw1774898000240094063:=0
def tw2377595740223155922:=0
def tw1022869662532091169:=0
def tw6627485214416195928:=0
def tw14457481805818170600:=0
def tw13756129192242567367:=0
def tw8510833700227393678:=0
def tw8812487038912285672:=0
def tw11233080668181167852:=0
def tw5700654972377648074:=0
def tw10548827534037260639:=0
def tw538048694326077948:=0
def tw11822517027075987351:=0
def tw15835827869497236311:=0
def tw17937008003343608830:=0
def tw1101561861585912456:=0
def tw807962533205827092:=0
def tw14749380759235367204:=0
def tw16881965004546497610:=0
def tw14039165220849296365:=0
def tw6800832123247843532:=0
def tw6875835931864076959:=0
def tw14626648621900603442:=0
def tw16844149233317400001:=0
def tw5921959490375339302:=0
def tw13203529273779005572:=0
def tw10844710836842517067:=0
def tw5975598975040314419:=0
def tw16425075289682008494:=0
def tw329908235031467400:=0
def tw4545669974569147040:=0
def tw11295598684010314891:=0
def tw10356021908042475368:=0
def tw8861585678928117857:=0
def tw14527702183558034048:=0
def tw10279381725511936302:=0
def tw11257082962637522298:=0
def tw2744927587228524510:=0
def tw3601055172765909108:=0
def tw15198667882926720164:=0
def tw12064158528602653785:=0
def tw870696918771711671:=0
def tw7854001483157686036:=0
def tw16598424967146757706:=0
def tw15985192113224865529:=0
def tw3842778268116243310:=0
def tw11961469463968341148:=0
def tw2763912860490453143:=0
def tw327408566081403583:=0
def tw17473899098756159437:=0
def tw12745102599818589390:=0
def tw9477723453824358027:=0
def tw2776840370290652398:=0
def tw90899986297952025:=0
def tw8502917269371812442:=0
def tw13684281229161818838:=0
def tw14327744857236006632:=0
def tw4209355051425135934:=0
def tw8542905860154628617:=0
def tw2376897826730300822:=0
def tw1512194157235501139:=0
def tw11907918376267135233:=0
def tw5230508258231620959:=0
def tw3735177126602579061:=0
def tw520422937967595812:=0
def tw8744328008153179751:=0
def tw11299474254502058481:=0
def tw6532621137091414534:=0
def tw1756280085879378611:=0
def tw8625960151925007990:=0
def tw14325824830249969869:=0
def tw7112539948445337388:=0
def tw3286755515075422702:=0
def tw281291664863069564:=0
def tw11281343443858614197:=0
def tw17159616403171457305:=0
def tw5322077010708654797:=0
def tw15326134582285028528:=0
def tw5900884299467707268:=0
def tw2183115770063593549:=0
def tw122654018979167262:=0
def tw14728919349955997325:=0
def tw17276787427155135330:=0
def tw10062042586008349201:=0
def tw10586858776991968621:=0
def tw15794680684845017798:=0
def tw1093329347893044594:=0
def tw15941788411763367067:=0
def tw515556449985341866:=0
def tw6666237863298499568:=0
def tw14713823485900696518:=0
def tw7863893304110552677:=0
def tw7997672881686030330:=0
def tw8995341321900479517:=0
def tw15924702348176122739:=0
def tw14097833944004760968:=0
end PySem.W.Fast
set_option maxRecDepth 100000 in
set_option maxHeartbeats 0 in
theorem PySem.Challenge.cw_facestead_k11_faces_written_holds : PySem.Challenge.rw_facestead_k11_faces_written.Holds := by
 w_on;o_law;k_head;(case hw=>w_witness2)
 k_fill
 refine Law.walk (l:=PySem.Challenge.rw_facestead_k11_faces_written) rfl rfl rfl (λw h Y=>W.km_in_of Y) (λw h Y=>W.km_tabs_of Y L2.tabP (List.mem_singleton.mpr rfl)) (c₀:=399) (λw h Y=>W.codeHd_of_K (W.km_in_of Y) (by kernel_rfl)) (λw=>by kernel_rfl) ?F
 case F =>
  intro w mg h KX G;exact ⟨⟨0,0,0,0,0,0,0,_,L3.memoP _ w (L3.gOf Law.m_is_kind)⟩,⟨rfl,lG KX G,lG KX G,lG KX G,lG KX G,lG KX G,lG KX G,lG KX G,lG KX G,lG KX G,lG KX G,lG KX G,lG KX G,Uu KX G,IJ KX G,Uu KX G,II KX G,YA [("due",_,.bool true,.bl true,.bl true),("may",_,.bool false,.bl false,.bl false)] KX G (by (try dsimp only);k_is) (by (try dsimp only);k_is) (by rfl) (by decide) (by decide +kernel) (jx rfl (jx rfl fG)) (λF H=>(jx jZ (jx jZ fG))),YA [("ds",_,.ref _,.ref _,.tup [.bl true,.bl true]),("d",_,.ref _,.ref _,.tup [.bl true,.bl false]),("s",_,.ref _,.ref _,.tup [.bl false,.bl true]),("-",_,.ref _,.ref _,.tup [.bl false,.bl false])] KX G (by (try dsimp only);k_is) (by (try dsimp only);k_is) (by rfl) (by decide) (by decide +kernel) (jx rfl (jx rfl (jx rfl (jx rfl fG)))) (λF H=>(jx (HN (by (try dsimp only);k_is)) (jx (HN (by (try dsimp only);k_is)) (jx (HN (by (try dsimp only);k_is)) (jx (HN (by (try dsimp only);k_is)) fG))))),YA [("made",_,.bool true,.bl true,.bl true),("told",_,.bool false,.bl false,.bl false)] KX G (by (try dsimp only);k_is) (by (try dsimp only);k_is) (by rfl) (by decide) (by decide +kernel) (jx rfl (jx rfl fG)) (λF H=>(jx jZ (jx jZ fG))),YA [("shut",_,.bool true,.bl true,.bl true),("open",_,.bool false,.bl false,.bl false)] KX G (by (try dsimp only);k_is) (by (try dsimp only);k_is) (by rfl) (by decide) (by decide +kernel) (jx rfl (jx rfl fG)) (λF H=>(jx jZ (jx jZ fG))),zE KX G,zE KX G,zE KX G,zE KX G,zE KX G,zE KX G,zE KX G,zE KX G,zE KX G,zE KX G,zE KX G,zE KX G,zE KX G,zE KX G,zE KX G,zE KX G,zE KX G,zE KX G,zE KX G,zE KX G,zE KX G,zE KX G,zE KX G,zE KX G,zE KX G,zE KX G,zE KX G,zE KX G,zE KX G,zE KX G,zE KX G,zE KX G,zE KX G,zE KX G,zE KX G,zE KX G,zE KX G,zE KX G,zE KX G,zE KX G,EQ KX G,ai,GE,K6 (h:=by kernel_rfl),Uv,Uv,GF (ai) (Jd)⟩⟩
