import PyProof.Rows.All
import Wide.All
import OpenK.AllK
import Wide.FinOn
import PyProof.EqAt
import PyProof.EqKinds
import PyProof.TupleCall
import KE.LcSums
import KE.KSortTup
import PyProof.NeKinds
import PyProof.Rows.SetFrom
import PyProof.WalksEnum
import KE.KLam
import KE.KRevSl
import KE.KDictList
import PyProof.StrLawsTight
import PyProof.Conv_int_bool
import PyProof.DictItems
import KE.KPairComp
import KE.KItemsList
import PyProof.TupleOfSeq
import PyProof.Rows.Range3
import KE.KDictOf
import Lean
import KE.KTryMore
import PyProof.ExcArgsOwn
import PyProof.ExcBaseAll.ValueError
import PyProof.ExcClass2
import PyProof.ExcInit
import PyProof.InstStore
import PyProof.Rows.StrJoinMade
import PyProof.RulesDel
import PyProof.RulesTry
import PyProof.StationsW
import PyProof.ZipIter
import PyProof.AttrMissHeap
import PySem.Challenge.RW_facestead_k24_gets_and_takes
set_option compiler.extract_closed false
set_option hygiene false
local macro_rules|`(↑a)=>`(s.heap.objs.size)|`(↑b)=>`(s1.heap.objs.size)|`(↑c)=>`(ts.length)|`(↑d)=>`(h1.objs.size)|`(↑e)=>`(xs.length)|`(↑f)=>`(items.size)|`(↑g)=>`(vs.length)|`(↑h)=>`(us.length)|`(↑i)=>`(vs.toArray)|`(↑j)=>`(X.s₀.heap.objs.size)|`(↑k)=>`(its.toArray.size)|`(↑l)=>`(ps.length)|`(↑m)=>`(λz=>by rw[z]at nb;exact nb rfl)|`(↑n)=>`(q_ X.prog X.w)|`(↑o)=>`(by decide)|`(↑p)=>`(by omega)|`(↑q)=>`(zq X scope cl C (x::caps) ex pn s₀ H₀)|`(↑r)=>`(λ_ _ _ _ _ _=>x9 λ_ _=>rfl)|`(↑s)=>`(zq X scope cl C (xs++caps) ex pn s₀ H₀)|`(↑t)=>`(mC (.int 0))|`(↑u)=>`(mC (.int 1))|`(↑v)=>`(vf rfl)|`(↑w)=>`(q_ prog w)|`(↑x)=>`(("__debug__":Str))|`(↑y)=>`(z9 (mV 0) (z9 (m2 zx (mV 1) ↑u) (z9 (m2 zx (mV 1) (mC (.int 2))) (z9 (m2 zx (mV 1) (mC (.int 3))) (z9 (m2 zx (mV 1) (mC (.int 4))) (z9 (m2 zx (mV 1) (mC (.int 5))) zh))))))|`(↑z)=>`(vC rfl (vC rfl rfl))|`(↑A)=>`((a_,.bl e_))|`(↑B)=>`(.ListComp Ss [⟨.Name x px,Sd,Sl,0⟩] scope pos)|`(↑C)=>`(λ_ _ _ _ _ _=>qN λ_ _ _=>rfl)|`(↑D)=>`(by rw[z];rfl)|`(↑E)=>`(b_ (a_,.int (k:Int)))|`(↑F)=>`(mV 0)|`(↑G)=>`(by simp)|`(↑H)=>`(mC (.int 2))|`(↑I)=>`(.ListComp Ss [⟨tg,Sd,Sl,0⟩] scope pos)|`(↑J)=>`(by decide+kernel)|`(↑K)=>`(zn (jU (jl (m2 zZ (m2 zx (mV 1) ↑t) (mC (.str wc)))) (zA (zk fC (z9 ↑F (z9 (m2 zx (mV 1) ↑u) (z9 (m2 zx (mV 1) ↑H) (z9 (m2 zx (mV 1) (mC (.int 4))) zh)))))) zD) (zA (zk fF ↑y)))|`(↑L)=>`(by rfl)|`(↑M)=>`(S.map λq=>.int (q.2:Int))|`(↑N)=>`(.frz o (.dK kvs))
local macro_rules|`(↑O)=>`(qI ts R C F)|`(↑P)=>`(oE W ks x n S L i [fv (.str y),fv (.str kd),fv th,fv (.str w)])|`(↑Q)=>`(zq X scope cl 0 (xs++caps) [] [] X.s₀ X.H₀)|`(↑R)=>`(mC (.int 3))|`(↑S)=>`((a_,.lst (sT ks)))|`(↑T)=>`((a_,.int (n:Int)))|`(↑U)=>`(mO 2 (kb (gN 0) (kb (gN 1) mN)))|`(↑V)=>`(mV 1)|`(↑W)=>`(zq X scope cl C N ex pn s₀ H₀)|`(↑X)=>`(zO (zO H1 (↑d+1) (.ext (aw (↑d+1) C ↑d))) (↑d+1) (.ext (m3 (↑d+1) C ↑d d)))|`(↑Y)=>`(zq X scope cl C (x::caps) fp (X.pn++pins) s3 H3)|`(↑Z)=>`((a_,.lst (sT ts)))|`(↑aa)=>`(.ref C)|`(↑ab)=>`(zn (jU (jl (m2 zZ (m2 zx ↑V ↑t) (mC (.str wr)))) (zA (zk fR (z9 ↑F (z9 (m2 zx ↑V ↑u) (z9 (m2 zx ↑V ↑H) (z9 (m2 zx ↑V ↑R) zh)))))) zD) ↑K)|`(↑ac)=>`(.builtin "object.__class__")|`(↑ad)=>`(O0 nm q C N bs bm hdct sn sub ab col dd k0 k1 k2 k3 k5 newId)|`(↑ae)=>`((a_,x_ e X.env))|`(↑af)=>`(λ_ _ _ _ _ _=>gZ λ_=>rfl)|`(↑ag)=>`(zq X scope cl C (xs++caps) fp (X.pn++pins) s3 H3)|`(↑ah)=>`(λ_ _ _ _ _ _=>jd)
set_option hygiene true
set_option Elab.async false
open Bool renaming false->a_,true->e_,false_ne_true->sM,and_eq_true->y_,false_eq_true->AQ,and_false->OE,eq_iff_iff->R7
open Option renaming some->b_,none->f_,map_eq_some_iff->sJ,map_some->Fx,isSome_map->RJ,isSome_iff_exists->RM,getD_none->S5
open PySem renaming wpAny_bind->c_,Value->g_,Addr->h_,wpAny_pure->i_,sizeLine->j_,Shared->l_,wpAny->o_,starEach->p_,model->q_,Program->sN,wpAny_mono->sQ,compareOp->sX,World->sY,foldedSetIterable->u_,mainGlobals->v_,Heap->w_,eval->x_,bootBuiltins->A0,Expr->A1,Stmt->A2,Around->A3,wpAny_field->Ab,wpAny_holding->Ah,wpAny_Call_Name_kw->Ai,letOwnedTupleGo->AB,wpAny_truthy_bool->AI,wpAny_newObj_type->AJ,assignEach->AM,backTo->AT,behindInMarks->AY,attributeBase->AZ,swapsWith->BA,wpAny_callSpecial?_slot->BC,wpAny_standAt->BG,codeAny_builtin->BK,Builtin->BL,NameKind->BM,wpAny_call_entry->BN,binaryOp->BU,wpAny_seqItems->BX,wpAny_loadPart_at->BZ,sysModules->B',mem_of_lookup->F9,codeAny_mono->Fd,sizeLine_eq->Fe,scanBound->Fi,cLine->Fk,wpAny_setField_rec->Fq,IsPair->Fv,wpAny_passesOwn->Fw,FuncData->Fy,Scope->FI,wpAny_getItem_str_slice->FP,sliceBounds->FT,keywordEach->FU,codeAny->FX,tupleKind_room_in1->FY,assign->J',wpAny_pyIter_list->L_,wpAny_setField->N_,codeAny_call_builtin->N',excClassObj->O0,holding->O2,wpAny_typeOf->O4,wpAny_isSubtype_exc->O9,bindArgs->Of,spliced->Om,wpAny_execs_nil->On,wpAny_call->Oo,cellsFrom->Oq,setFlight->Ot,getItem->OD,wpAny_Call_method->OG,plainObj_wpAny_Assign_Attribute->OI,builtinsNs->OK,rawInt->OL,noteFrame->ON,wpAny_onRaise->OQ,wpAny_attempt->OR,subscripted->OT,backToKw->OU,wpAny_updateSeq_pair->OW,Paired->OX,codeAny_of_tree->O_,post_val_or_str->P_,wpAny_loadPart'->Q_,IsZip->Rb,standAt->Re,call_meetsIn->Rh,PassesOwn->Rk,getMethod->Rl,pyNext->RL,comprehension->RQ,wpAny_comprehension_free->RR,plainId_quiet->RU,tupleKind->R_,GenState->S1,DictEntry->S2,noFill_tuple_add->S3
open PySem.W renaming Frag->d_,fnOf->A9,kia_one->Ar,findIn->As,keepIn->AC,kas_sort->AR,emptyDict->AX,kitOne->BV,instObj->C_,nsIn->FD,findIn->FF,mg_of->FH,codeIn->FL,callWith_K->G_,plainGet->O3,hasDictIn->Oz,hideAll_none->OS,plainGet_of->R9,isFn->Rf,lookIn->Ro,CodeHd->Rr,noTabs->Rs,methodObj->RA,plainOver->RB,specialIn->RD,kitx_list->RG
open PySem.Heap renaming get?_push_of_some->f',lt_size->n_,get?_push_size->sf,size_push->At,get?_update_other->Az,SameBut->Bx,get?_update_self->Fr,get?_push_ne->FB,size_update->FN,get?_update_ne->O8
open List renaming length_map->j',mem_cons_of_mem->k_,mem_cons_self->m_,length_append->sj,size_toArray->sr,mem_append_right->sy,length_cons->sA,mem_cons->sB,mem_singleton->sC,map_cons->sG,mem_map->sH,getElem?_map->sI,map_append->sL,replicate->sO,getElem?_eq_some_iff->sP,mem_append->sS,getElem?_eq_getElem->s_,range->t_,mem_append_left->A4,not_mem_nil->A7,map_map->Aa,append_nil->Ac,lookup_cons->Ad,nodup_append->Af,pairwise_map->Ag,length_replicate->Ao,mem_map_of_mem->Aq,getElem?_append_right->Au,mem_of_getElem?->Av,getElem?_append_left->Aw,drop_eq_getElem_cons->Ax,getElem?_set_self->Ay,length_set->AD,length_singleton->AG,cons_lt_cons_iff->AH,getElem?_set_ne->AL,getD_eq_getElem?_getD->AS,toArray->AU,mem_of_find?_eq_some->AV,length_take->BB,all_eq_true->BD,getElem_mem->BE,Nodup->BJ,any_eq_true->BO,mem_range->BT,getElem?_replicate->BY,append_assoc->B_,nodup_cons->D',length_nil->E_,lookup->Ff,drop_length->Fh,contains_cons->Fp,pairwise_iff_getElem->Fu,mem_of_mem_take->FE,eq_nil_of_length_eq_zero->FW,take_of_length_le->F_,filter_eq_nil_iff->I_,find?_cons->J_,take_sublist->L',length_filter_lt_length_iff_exists->M_,length->M',range'_succ->O5,map_congr_left->Oa,filter_eq_self->Oe,all_cons->Oi,pairwise_cons->Op,getElem?_cons_succ->Ou,range'->Ov,filter_cons_of_pos->Ow,filter_cons_of_neg->Ox,isEmpty_map->OP,mem_filter->OY,of_mem_zip->OZ,filterMap_cons->R8,map_nil->Rg,mem_filterMap->Rn,nodup_nil->Rw,filter_append->Ry,getElem?_inj->RK,any_cons->RN,length_drop->S4,zipIdx_cons->Sa
open Nat renaming le_refl->r_,ne_of_lt->su,lt_of_lt_of_le->sR,zero_le->A5,le_trans->A6,lt_succ_of_lt->BI,lt_irrefl->BQ,ne_of_gt->Fb,lt_succ_self->FJ,add_sub_cancel_left->FS,le_succ->FV,lt_of_le_of_lt->G',le_of_ble_eq_true->K_,le_of_eq->OA,mod_lt->OO,add_le_add_left->Ra
open PySem.Value renaming ref->sE,none->sZ,str->Bz,type->Fj,builtin->RO
open Option.some renaming inj->sF,injEq->AK
open PySem.SeqAt renaming RcNeAt->sK,EqAt->sU,RcAt->sV
open PySem.PassesOwn renaming leaving->sW
open PySem.F renaming plainAttrs_list->z_,slot_list_append->Ak,type_list_append->Al,called_set->AA,slot_dict_get->Fs,plainAttrs_dict->FM,slot_dict_items->FR,slot_dict_getitem->O7,args_tuple_add_2->Og,slot_dict_itemiterator_iter->Oj,slot_list_getattribute->Ol,entry_tuple_add->Os,slot_tuple_add->OC,entry_dict_get->OF,slot_zip_next->R6,excAttr_ValueError->Ru,args_dict_items_1->Rz,entry_dict_items->RX,slot_list_extend->RY,type_list_extend->RZ,args_dict_get_2->S6,type_dict_items->S9
open PySem.Builtin.SmallTypes renaming nextOf->A8,ownedTupleIsFree->Bw,ownedTupleHandOut->Od
open Or renaming inr->Ae,inl->AW
open PySem.NameKind renaming free->Aj
open PyProof.Rows renaming callWith_type1->Am,slot_tuple_getitem->An,seqObj->BW,step_dedup->FG,slot_tupleiter_next->Oc,subscriptTail->Oh,IsTup->Oy,envOfC->OB,callWith_builtin1->OM,AllBare->Rc,setObjOf_fresh->Rj,evalArgs_none->Rx,listUpdate_at->RT,SetOf_congr->RW
open Sum renaming inr->Ap
open Ne renaming symm->AE
open PySem.Obj renaming mapSeq->AF,mapFields->Fg,data_mapFields->Fo,isFreed_of_fields->OJ
open PySem.Calls renaming spliced_cons->AN,callWith_builtin->BH,evalArgs_plain->OV,Name_function_global->Rm,spliced_nil->RI
open False renaming elim->AO
open PySem.Builtin.Tuple renaming tupleExact->A_,tupleItemsOf->Rq
open ForInStep renaming yield->By
open PySem.Builtin.Str renaming strSliceIndices->BF,occurrences->S7
open Array renaming append_empty->BP,length_toList->F8,getElem?_eq_some_iff->Rt,getD->Rv
open PySem.Builtin.List renaming listTooLong->BR,listExtendWith->Ri
open Sum.inr renaming inj->BS
open True renaming intro->D_
open PyProof.Rows.F renaming plain_set_update_loop->Fa,entry_set_update_loop->Ob
open PySem.Builtin.Slice renaming slicePlaces->Ft,sliceAdjust->O6,sliceApplied->Rp
open Int renaming toNat_natCast->FA
open PySem.Around renaming under_plainId->FC,in1_units->FQ
open PySem.Code renaming quiet_builtin->FZ
open List.Nodup renaming sublist->H_
open List.Perm renaming refl->O1
open Nat.succ renaming inj->OH
open Prod renaming snd->S8
set_option bootstrap.genMatcherCode false
noncomputable section
set_option linter.all false
set_option maxRecDepth 100000
namespace L2
open PySem PySem.Spec PyProof.Rows
abbrev Key:=Sum Int Str
def aU:Key->g_->Bool|.inl k,v=>g_.isInt k v|.inr x,v=>g_.isStrOf x v
def GQ(w:sY):Key->Int|.inl k=>hashInt k|.inr x=>hashStr w x
def jD:∀{k:Key}{v:g_},aU k v=e_->(∃i t,k=Sum.inl i/\v=g_.int i t)\/(∃x t,k=Ap x/\v=Bz x t)|.inl i,v,h=>by obtain⟨t,e⟩:=g_.isInt_shape (k:=i) (v:=v) h;exact .inl ⟨i,t,rfl,e⟩|.inr x,v,h=>by obtain⟨t,e⟩:=g_.isStrOf_shape (x:=x) (v:=v) h;exact .inr ⟨x,t,rfl,e⟩
def WF(i:Int)(t:Tok):aU (.inl i) (.int i t)=e_:=by simp[aU,g_.isInt]
def WG(x:Str)(t:Tok):aU (.inr x) (.str x t)=e_:=by simp[aU,g_.isStrOf]
def NK(a b:Int):decide ((Sum.inl a:Key)=Sum.inl b)=(a==b):=by
 by_cases e:a=b;·subst e;simp
 ·have h:¬(Sum.inl a:Key)=Sum.inl b:=λq=>e (Sum.inl.inj q);rw[decide_eq_false h];exact(beq_eq_false_iff_ne.mpr e).symm
def NL(a b:Str):decide ((Ap a:Key)=Ap b)=decide (a=b):=by
 by_cases e:a=b;·subst e;simp
 ·have h:¬(Ap a:Key)=Ap b:=λq=>e (BS q);rw[decide_eq_false h,decide_eq_false e]
def NM(a:Int)(b:Str):decide ((Sum.inl a:Key)=Ap b)=a_:=decide_eq_false (λq=>nomatch q)
def NN(a:Str)(b:Int):decide ((Ap a:Key)=Sum.inl b)=a_:=decide_eq_false (λq=>nomatch q)
def zP(prog:sN)(w:sY):PySem.KeyKind prog w Key where
 is:=aU;hash:=GQ w;inj:=λv a b ha hb=>by
  rcases jD ha with⟨i,t,rfl,rfl⟩|⟨x,t,rfl,rfl⟩
  ·rcases jD hb with⟨j,u,rfl,e⟩|⟨y,u,rfl,e⟩;·injection e with e1 _;rw[e1]
   ·exact nomatch e
  ·rcases jD hb with⟨j,u,rfl,e⟩|⟨y,u,rfl,e⟩;·exact nomatch e
   ·injection e with e1 _;rw[e1]
 byValue:=λk v h=>by rcases jD h with⟨i,t,rfl,rfl⟩|⟨x,t,rfl,rfl⟩<;>rfl
 pyHash:=λhv h=>by
  rcases jD hv with⟨i,t,rfl,rfl⟩|⟨x,t,rfl,rfl⟩;·exact wpAny_pyHash_int h
  ·exact wpAny_pyHash_str h
 eqBool:=λhu hv h=>by
  rcases jD hu with⟨i,t,rfl,rfl⟩|⟨x,t,rfl,rfl⟩
  ·rcases jD hv with⟨j,u,rfl,rfl⟩|⟨y,u,rfl,rfl⟩;·rw[NK]at h;exact wpAny_eqBool_int h
   ·rw[NM]at h;exact sU.int_str i t y u _ _ _ _ h
  ·rcases jD hv with⟨j,u,rfl,rfl⟩|⟨y,u,rfl,rfl⟩;·rw[NN]at h;exact sU.str_int x t j u _ _ _ _ h
   ·rw[NL]at h;exact wpAny_eqBool_str h
 «strs»:=λk x t v h=>by
  rcases jD h with⟨i,u,rfl,e⟩|⟨y,u,rfl,e⟩;·exact nomatch e
  ·injection e with e1 _;subst e1;cases v<;>rfl
def Zq(prog:sN)(w:sY)(i:Int)(t:Tok):(zP prog w).is (.inl i) (.int i t)=e_:=WF i t
def gQ(prog:sN)(w:sY)(x:Str)(t:Tok):(zP prog w).is (.inr x) (.str x t)=e_:=WG x t
inductive V where|non|bl(b:Bool)|int(i:Int)|str(x:Str)|byt(b:Array UInt8)|flt(b:UInt64)|ref(a:h_)|ty(n:String)deriving DecidableEq
def RelV:V->g_->Prop|.non,u=>u=sZ|.bl b,u=>u=g_.bool b|.int i,u=>∃t,u=g_.int i t|.str x,u=>∃t,u=Bz x t|.byt b,u=>∃t,u=g_.bytes b t|.flt b,u=>∃t,u=g_.float b t|.ref a,u=>u=sE a|.ty n,u=>u=Fj n
abbrev zQ:List V->List g_->Prop:=OX RelV
def zQ.length(r:zQ xs us):↑e=↑h:=Paired.length r
def zQ.get:∀{xs:List V}{us:List g_}{i:Nat}{x:V},zQ xs us->xs[i]?=b_ x->∃u,us[i]?=b_ u/\RelV x u|_,_,_,_,.nil,e=>by simp at e|_,_,0,_,.cons r _,e=>by simp at e;subst e;exact⟨_,rfl,r⟩|_,_,i+1,x,.cons _ t,e=>by obtain⟨u,h1,h2⟩:=zQ.get (i:=i) (x:=x) t (by simpa using e);exact⟨u,by simpa using h1,h2⟩
def zQ.set(r:RelV x u):∀{xs:List V}{us:List g_}(i:Nat),zQ xs us->zQ (xs.set i x) (us.set i u)|_,_,_,.nil=>.nil|_,_,0,.cons _ t=>.cons r t|_,_,i+1,.cons q t=>.cons q (zQ.set r i t)
def zQ.append:∀{xs ys:List V}{us ws:List g_},zQ xs us->zQ ys ws->zQ (xs++ys) (us++ws)|_,_,_,_,.nil,s=>s|_,_,_,_,.cons r t,s=>.cons r (zQ.append t s)
def zQ.take:∀{xs:List V}{us:List g_}(n:Nat),zQ xs us->zQ (xs.take n) (us.take n)|_,_,0,_=>.nil|_,_,_+1,.nil=>.nil|_,_,n+1,.cons r t=>.cons r (zQ.take n t)
def zQ.drop:∀{xs:List V}{us:List g_}(n:Nat),zQ xs us->zQ (xs.drop n) (us.drop n)|_,_,0,r=>r|_,_,_+1,.nil=>.nil|_,_,n+1,.cons _ t=>zQ.drop n t
def pf:Option V->Option g_->Prop|some v,b_ u=>RelV v u|none,f_=>True|_,_=>False
def KV{κ:Type}:List (κ×V)->List (κ×g_)->Prop:=OX λ(p:κ×V)(q:κ×g_)=>p.1=q.1/\RelV p.2 q.2
def kV:Key->V|.inl i=>.int i|.inr x=>.str x
inductive HO where|lst(xs:List V)|tup(xs:List V)|dK(kvs:List (Key×V))|dT(kvs:List (List Key×V))|set(S:Int->Bool)(n:Nat)|ins(C dx:h_)(fs:List (Str×V))|own(x:h_)|xd(fs:List (Str×V))|met(f x:h_)|rng(lo hi:Int)|frz(o:Obj)(u:HO)|tbl(ps:Array g_)|tab(q:Str)|xob(C d:h_)|ext(φ:w_->Prop)
abbrev Hp:=h_->Option HO
def HO.isTab:HO->Bool|.tab _=>e_|_=>a_
def IF:Str:="Face.pieces.<locals>.<lambda>"
def tabP:h_:=526
def Yl:HO:=.frz {cls:=.none,data:=.plain} (.tab IF)
def zO(H:Hp)(a:h_)(o:HO):Hp:=λb=>if b=a then b_ o else H b
def zm:zO H a o a=b_ o:=by unfold zO;rw[if_pos rfl]
def zg(h:b≠a):zO H a o b=H b:=by unfold zO;rw[if_neg h]
def lr{H:Hp}{a b:h_}{o u:HO}(h:H a=b_ o)(h':H b=b_ u)(d:o≠u):a≠b:=by intro e;subst e;rw[h]at h';exact d (sF h')
def zM{H:Hp}{a b:h_}{o:HO}(h:H a=b_ o)(h':H b=f_):a≠b:=by intro e;subst e;rw[h]at h';cases h'
section
variable(P:sN)(w:sY)
def jw(H:Hp)(h:w_)(a:h_):HO->Prop|.lst xs=>↑e<=j_/\∃(its:List g_)(n:Nat),zQ xs its/\h.get? a=b_ {cls:=.type "list",data:=.seq its.toArray n}|.tup xs=>↑e<=j_/\∃its:List g_,zQ xs its/\Oy h a its.toArray|.dK kvs=>kvs.length<=j_/\(a==B')=a_/\∃vs,KV kvs vs/\h.DictOf (zP P w) a vs|.dT kvs=>kvs.length<=j_/\(a==B')=a_/\∃xs:List (List Key×h_×g_),OX (λ(p:List Key×V)(q:List Key×h_×g_)=>p.1=q.1/\H q.2.1=b_ (.tup (p.1.map kV))/\RelV p.2 q.2.2) kvs xs/\∃o es ep,h.get? a=b_ o/\o.ExactDict/\o.data=.dict es ep/\es.toList=xs.map (entryOfKey (R_ (zP P w)))/\(xs.map (·.1)).Nodup|.set S n=>h.SetOf (intKind P w) a S n|.ins C dx fs=>H dx=b_ (.own a)/\fs.length<=1000/\dx≠a/\h.get? a=b_ (C_ C dx)/\∃mA,h.Ns1 dx mA/\(∀f,pf (fs.lookup f) (mA f))/\PySem.Within mA (fs.map (·.1))|.own _=>∃o,h.get? a=b_ o|.xd fs=>∃mA,h.Ns1 a mA/\∀f,pf (fs.lookup f) (mA f)|.rng lo hi=>∃t u v,h.get? a=b_ {cls:=.type "range",data:=.fields #[.int lo t,.int hi u,.int 1 v]}|.frz o u=>(u.isTab=a_->h.get? a=b_ o)/\jw H h a u|.tab q=>∃ps,h.get? a=b_ {cls:=.none,data:=.fields ps}/\TriplesOk ps.toList/\∀pos cv,codeAmong pos ps.toList=b_ cv->∃c o vs t,cv=.ref c/\H c=b_ (.own a)/\h.get? c=b_ o/\o.data=.fields vs/\vs[1]?=b_ (.str q t)|.tbl ps=>h.get? a=b_ {cls:=.none,data:=.fields ps}|.met f x=>h.get? a=b_ (RA (.ref f) (.ref x))|.xob C d=>∃oe vs,h.get? a=b_ oe/\oe.cls=.ref C/\oe.dict=b_ d/\oe.data=.fields vs/\1<vs.size|.ext φ=>φ h/\(∃o,h.get? a=b_ o)/\∀h1 h2:w_,φ h1->(∀o,h1.get? a=b_ o->h2.get? a=b_ o)->φ h2
def uA(H:Hp)(h:w_):Prop:=∀a o,H a=b_ o->jw P w H h a o
end
section
variable{P:sN}{w:sY}{H H':Hp}{h h':w_}{a:h_}{o:HO}
theorem jw.lt(x:jw P w H h a o):a<h.objs.size:=by induction o with|lst xs=>obtain⟨_,_,_,_,e⟩:=x;exact n_ e|tup xs=>obtain⟨_,_,_,p⟩:=x;exact p.lt|dK kvs=>obtain⟨_,_,_,_,o,_,_,e,_⟩:=x;exact n_ e|dT kvs=>obtain⟨_,_,_,_,o,_,_,e,_⟩:=x;exact n_ e|set S n=>obtain⟨o,_,_,_,e,_⟩:=x;exact n_ e|ins C dx fs=>obtain⟨_,_,_,e,_⟩:=x;exact n_ e|own y=>obtain⟨_,e⟩:=x;exact n_ e|xd fs=>obtain⟨_,⟨_,_,_,e,_⟩,_⟩:=x;exact n_ e|rng lo hi=>obtain⟨_,_,_,e⟩:=x;exact n_ e|frz ob u ih=>exact ih x.2|tab q=>obtain⟨_,e,_⟩:=x;exact n_ e|tbl ps=>exact n_ (show h.get? a=b_ _ from x)|met f y=>exact n_ (show h.get? a=b_ _ from x)|xob C d=>obtain⟨_,_,e,_⟩:=x;exact n_ e|ext φ=>obtain⟨_,⟨_,e⟩,_⟩:=x;exact n_ e
theorem OX.mapP:∀{l₁:List α}{l₂:List β},OX F l₁ l₂->(∀a b,F a b->G a b)->OX G l₁ l₂|_,_,.nil,_=>.nil|_,_,.cons r t,f=>.cons (f _ _ r) (OX.mapP t f)
theorem jw.stay(x:jw P w H h a o)(k:∀b u,(b=a\/H b=b_ (.own a))->h.get? b=b_ u->h'.get? b=b_ u)(ho:∀b,H b=b_ (.own a)->H' b=b_ (.own a))(ht:∀b xs,H b=b_ (.tup xs)->H' b=b_ (.tup xs)):jw P w H' h' a o:=by induction o with|lst xs=>obtain⟨z,its,n,r,e⟩:=x;exact⟨z,its,n,r,k _ _ (.inl rfl) e⟩|tup xs=>obtain⟨z,its,r,ob,e,c⟩:=x;exact⟨z,its,r,ob,k _ _ (.inl rfl) e,c⟩|dK kvs=>obtain⟨z,y,vs,r,ob,es,ep,e,c⟩:=x;exact⟨z,y,vs,r,ob,es,ep,k _ _ (.inl rfl) e,c⟩|dT kvs=>obtain⟨z,y,xs,r,ob,es,ep,e,c⟩:=x;exact⟨z,y,xs,OX.mapP r λp q z=>⟨z.1,ht _ _ z.2.1,z.2.2⟩,ob,es,ep,k _ _ (.inl rfl) e,c⟩|set S n=>obtain⟨ob,es,ep,t,e,c⟩:=x;exact⟨ob,es,ep,t,k _ _ (.inl rfl) e,c⟩|ins C dx fs=>obtain⟨d,z,ne,e,mA,⟨od,es,ep,e2,c⟩,r⟩:=x;exact⟨ho _ d,z,ne,k _ _ (.inl rfl) e,mA,⟨od,es,ep,k _ _ (.inr d) e2,c⟩,r⟩|own y=>obtain⟨ob,e⟩:=x;exact⟨ob,k _ _ (.inl rfl) e⟩|xd fs=>obtain⟨mA,⟨od,es,ep,e,c⟩,r⟩:=x;exact⟨mA,⟨od,es,ep,k _ _ (.inl rfl) e,c⟩,r⟩|rng lo hi=>obtain⟨t,u,v,e⟩:=x;exact⟨t,u,v,k _ _ (.inl rfl) e⟩|frz ob u ih=>obtain⟨e,q⟩:=x;exact⟨λz=>k _ _ (.inl rfl) (e z),ih q⟩|tab q=>obtain⟨ps,e,t,f⟩:=x;exact⟨ps,k _ _ (.inl rfl) e,t,λpos cv z=>let⟨c,o,vs,tt,h1,h2,h3,h4⟩:=f pos cv z;⟨c,o,vs,tt,h1,ho _ h2,k _ _ (.inr h2) h3,h4⟩⟩|tbl ps=>have e:h.get? a=b_ {cls:=.none,data:=.fields ps}:=x;show h'.get? a=b_ {cls:=.none,data:=.fields ps};exact k a _ (.inl rfl) e|met f y=>have e:h.get? a=b_ (RA (.ref f) (.ref y)):=x;show h'.get? a=b_ (RA (.ref f) (.ref y));exact k a _ (.inl rfl) e|xob C d=>obtain⟨oe,vs,e,c⟩:=x;exact⟨oe,vs,k _ _ (.inl rfl) e,c⟩|ext φ=>obtain⟨p,⟨o,e⟩,st⟩:=x;exact⟨st _ _ p λo q=>k _ _ (.inl rfl) q,⟨o,k _ _ (.inl rfl) e⟩,st⟩
theorem uA.lt(x:uA P w H h)(e:H a=b_ o):a<h.objs.size:=(x a o e).lt
theorem uA.fresh(x:uA P w H h)(e:h.objs.size<=a):H a=f_:=by cases q:H a with|none=>rfl|some u=>exact absurd (sR (x.lt q) e) (BQ _)
theorem uA.kept(x:uA P w H h)(k:∀b u,h.get? b=b_ u->h'.get? b=b_ u):uA P w H h':=λa o e=>(x a o e).stay (λb u _ q=>k b u q) (λ_ q=>q) λ_ _ q=>q
theorem uA.laid(x:uA P w H h)(k:∀b u,h.get? b=b_ u->h'.get? b=b_ u)(hp:h.objs.size<=a)(new:jw P w (zO H a o) h' a o):uA P w (zO H a o) h':=λb u e=>by
 have hn:=x.fresh hp;by_cases hb:b=a;·subst hb;rw[zm]at e;cases e;exact new
 ·rw[zg hb]at e;exact(x b u e).stay (λc v _ q=>k c v q) (λc q=>by rw[zg (zM q hn)];exact q) λc xs q=>by rw[zg (zM q hn)];exact q
end
def Rd(H:Hp)(a:h_)(u:HO):Prop:=H a=b_ u\/∃o,H a=b_ (.frz o u)
def Rd.ok(r:Rd H a u)(x:uA P w H h):jw P w H h a u:=by
 rcases r with r|⟨o,r⟩;·exact x a u r
 ·obtain⟨_,q⟩:=x a _ r;exact q
def IG:Option HO->Prop|some (.lst _)=>True|some (.dK _)=>True|some (.dT _)=>True|some (.set _ _)=>True|some (.ins _ _ _)=>True|some (.ext _)=>True|_=>False
section
variable{P:sN}{w:sY}{H:Hp}{h h':w_}{x e:h_}{o':HO}
theorem uA.write(ok:uA P w H h)(mu:IG (H x))(he:e=x\/H e=b_ (.own x))(k:∀b u,b≠e->h.get? b=b_ u->h'.get? b=b_ u)(ύ:∃u,h'.get? e=b_ u)(new:jw P w (zO H x o') h' x o'):uA P w (zO H x o') h':=λb u q=>by
 have ϡ:∀c y,H c=b_ (.own y)->c≠x:=λc y r z=>by subst z;rw[r]at mu;exact mu
 have ntup:∀c xs,H c=b_ (.tup xs)->c≠x:=λc xs r z=>by subst z;rw[r]at mu;exact mu
 by_cases hb:b=x;·subst hb;rw[zm]at q;cases q;exact new
 ·rw[zg hb]at q;by_cases Tn:b=e
  ·have q':H b=b_ (.own x):=by
    rcases he with z|z;·exact absurd (Tn.trans z) hb
    ·rw[Tn];exact z
   rw[q]at q';cases q';obtain⟨v,hv⟩:=ύ;exact⟨v,by rw[Tn];exact hv⟩
  ·refine(ok b u q).stay (λc v hc r=>k c v ?_ r) (λc r=>by rw[zg (ϡ c b r)];exact r) λc xs r=>by rw[zg (ntup c xs r)];exact r
   rcases hc with rfl|hc;·exact Tn
   ·rintro rfl;rcases he with z|z;·exact ϡ c b hc z
    ·rw[hc]at z;cases z;exact hb rfl
end
structure Un(fs ex:List h_)(H H':Hp)(h h':w_):Prop where
 keep:∀b o,h.get? b=b_ o->H b=f_->b∉fs->b∉ex->h'.get? b=b_ o
 slot:∀b o,h.get? b=b_ o->H b=f_->b∈fs->b∉ex->∃sl,h'.get? b=b_ {o with slots:=sl}free:∀b o,h.get? b=b_ o->H b=f_->b∉ex->H' b=f_
 there:∀b o,h.get? b=b_ o->b∉ex->∃o',h'.get? b=b_ o'
 tups:∀b xs,H b=b_ (.tup xs)->H' b=b_ (.tup xs)frzs:∀b o u,H b=b_ (.frz o u)->H' b=b_ (.frz o u)tbls:∀b ps,H b=b_ (.tbl ps)->∃more,H' b=b_ (.tbl (ps++more))
section
variable{fs fs' ex Tb:List h_}{H H1 H2:Hp}{h h1 h2 h':w_}{a x e:h_}{o:HO}
theorem Un.any(u:Un fs ex H H1 h h1)(q:h.get? b=b_ ob)(n:H b=f_)(hx:b∉ex):∃sl,h1.get? b=b_ {ob with slots:=sl}:=by
 by_cases hb:b∈fs;·exact u.slot b ob q n hb hx
 ·exact⟨ob.slots,u.keep b ob q n hb hx⟩
theorem Un.kept(k:∀b u,h.get? b=b_ u->h'.get? b=b_ u):Un fs ex H H h h':=⟨λb ob q _ _ _=>k b ob q,λb ob q _ _ _=>⟨ob.slots,k b ob q⟩,λ_ _ _ n _=>n,λb ob q _=>⟨ob,k b ob q⟩,λ_ _ q=>q,λ_ _ _ q=>q,λ_ ps q=>⟨#[],by rw[q];simp⟩⟩
theorem Un.refl:Un fs ex H H h h:=Un.kept λ_ _ q=>q
theorem Un.laid(k:∀b u,h.get? b=b_ u->h'.get? b=b_ u)(hp:h.objs.size<=a)(hn:H a=f_):Un fs ex H (zO H a o) h h' where
 keep:=λb u q _ _ _=>k b u q;slot:=λb u q _ _ _=>⟨u.slots,k b u q⟩;free:=λb u q n _=>by rw[zg (su (sR (n_ q) hp))];exact n
 there:=λb u q _=>⟨u,k b u q⟩;tups:=λb xs q=>by rw[zg (zM q hn)];exact q
 frzs:=λb u xs q=>by rw[zg (zM q hn)];exact q
 tbls:=λb ps q=>⟨#[],by rw[zg (zM q hn),q];simp⟩
theorem Un.write(mu:IG (H x))(he:e=x\/H e=b_ (.own x))(k:∀b u,b≠e->h.get? b=b_ u->h'.get? b=b_ u)(ύ:∃u,h'.get? e=b_ u):Un fs ex H (zO H x o) h h':=by
 have hx:∀b,H b=f_->b≠x:=λb n z=>by subst z;rw[n]at mu;exact mu
 have hb:∀b,H b=f_->b≠e:=λb n z=>by
  subst z;rcases he with r|r;·exact hx b n r
  ·rw[n]at r;cases r
 have hm:∀b u,H b=b_ u->¬IG (b_ u)->b≠x:=λb u q nm z=>by subst z;rw[q]at mu;exact nm mu
 refine⟨λb u q n _ _=>k b u (hb b n) q,λb u q n _ _=>⟨u.slots,k b u (hb b n) q⟩,λb u q n _=>by rw[zg (hx b n)];exact n,λb u q _=>?_,λb xs q=>by rw[zg (hm b _ q λz=>z)];exact q,λb u xs q=>by rw[zg (hm b _ q λz=>z)];exact q,λb ps q=>⟨#[],by rw[zg (hm b _ q λz=>z),q];simp⟩⟩;by_cases Tn:b=e;·subst Tn;exact ύ
 ·exact⟨u,k b u Tn q⟩
end
def ED(h:w_)(H:Hp):List h_:=(t_ h.objs.size).filter λa=>(H a).isSome
def oC(h:w_)(H:Hp):w_:=W.hideAll h (ED h H)
def WH(h:w_)(H:Hp):(oC h H).objs.size=h.objs.size:=W.hideAll_size _ _
def K2(e:h.get? b=b_ o)(n:H b=f_):(oC h H).get? b=b_ o:=W.hideAll_get _ e λhm=>by have q:(H b).isSome=e_:=(OY.mp hm).2;rw[n]at q;simp at q
def GR(e:(oC h H).get? b=b_ o):h.get? b=b_ o/\H b=f_:=by have e':h.get? b=b_ o:=W.of_hideAll (ED h H) e;refine⟨e',?_⟩;cases q:H b with|none=>rfl|some x=>have hm:b∈ED h H:=OY.mpr ⟨BT.mpr (n_ e'),by simp[q]⟩;have z:(oC h H).get? b=f_:=OS (ED h H) hm;rw[z]at e;cases e
def GS(g h:w_)(L:h_):List (h_×Obj):=(t_ h.objs.size).filterMap λa=>if a=L\/(g.get? a).isSome=e_ then f_ else(h.get? a).map λo=>(a,o)
def rest(g h:w_)(L d:h_):List (h_×Obj):=(GS g h L).filter λp=>decide (p.1≠d)
structure Mod(K:d_)(mg:Str->Option g_)(base:w_):Prop where
 kin:K.In base
 glob:base.Ns v_ mg
 blt:∃mb,base.Ns OK mb/\∀x:Str,x≠"__name__"->mb x=A0 x
 nolimit:base.NoLimit
 bmain:∃bm ob,mg "__builtins__"=b_ (.ref bm)/\bm≠OK/\base.get? bm=b_ ob/\ob.cls=.type "module"/\ob.dict=b_ OK/\ob.data=.plain
structure Cx where
 prog:sN
 w:sY
 K:d_
 mg:Str->Option g_
 base:w_
 A:A3
 N:List Str
 s₀:l_
 H₀:Hp
 env:Env
 outer:List Env
 stack:List Env
 ex:List h_
 fn:Str->Bool
 calm:Bool
 pn:List (h_×Obj)xe:g_->l_->Prop
def dE(l:List Env):List h_:=l.filterMap (·.frame)
abbrev Cx.fs(X:Cx):List h_:=dE X.outer
def Yd(sc:FI)(x:Str):Prop:=sc.names.lookup x=b_ .local\/sc.names.lookup x=b_ .cell\/sc.names.lookup x=b_ .free
def aV(sc:FI)(x:Str):Prop:=sc.names.lookup x=b_ .local\/sc.names.lookup x=b_ .cell
def D6(env:Env)(h:w_)(m:Str->Option g_)(x:Str)(u:g_):Prop:=(env.kindOf x=b_ .local/\m x=b_ u)\/((env.kindOf x=b_ .cell\/env.kindOf x=b_ .free)/\∃c,env.cells.lookup x=b_ c/\h.IsCell c (b_ u))
structure Cx.Ok(X:Cx):Prop where
 mod:Mod X.K X.mg X.base
 kind:X.env.scope.kind=.function
 glob:X.env.globals=v_
 blt:X.env.builtins=OK
 above:↑j<=X.env.locals
 inj:∀x y c,X.env.cells.lookup x=b_ c->X.env.cells.lookup y=b_ c->x=y
 has:∀x,(X.env.kindOf x=b_ .cell\/X.env.kindOf x=b_ .free)->∃c,X.env.cells.lookup x=b_ c
 cab:∀x c,X.fn x=e_->X.env.cells.lookup x=b_ c->↑j<=c
 hd:X.calm=e_->X.A.handled=f_
 frames:X.A.frames=b_ X.stack
 stk:X.stack=X.outer\/(X.stack=X.env::X.outer/\X.env.frame=b_ X.env.locals)exf:∀b∈X.ex,b≠X.env.locals/\∀x c,X.env.cells.lookup x=b_ c->c≠b
 bs:∀b o,X.base.get? b=b_ o->X.s₀.heap.get? b=b_ o/\X.H₀ b=f_
 bsz:X.base.objs.size<=↑j
 noex:∀b o,X.base.get? b=b_ o->b∉X.ex
 exfs:∀b∈X.ex,b∉X.fs
 funs:X.s₀.heap.FunFrames X.base X.outer
 frf:∀b∈X.fs,X.H₀ b=f_
 tab:X.H₀ tabP=b_ Yl
structure zu(X:Cx)(pins:List (h_×Obj))(σ:List (Option V))(H:Hp)(s:l_):Prop where
 ok:X.Ok
 os:s.os=X.s₀.os
 bare:Rc s.gens
 base:Un X.fs X.ex X.H₀ H X.s₀.heap s.heap
 loc:∃m,s.heap.Ns X.env.locals m/\∀(i:Nat)(x:Str)(v:V),X.N[i]?=b_ x->σ[i]?=b_ (b_ v)->Yd X.env.scope x->∃u,RelV v u/\D6 X.env s.heap m x u
 cell:∀x c,X.env.cells.lookup x=b_ c->∃v,s.heap.IsCell c v
 free:H X.env.locals=f_
 freeC:∀x c,X.env.cells.lookup x=b_ c->H c=f_
 pin:∀p∈X.pn++pins,s.heap.get? p.1=b_ p.2/\H p.1=f_/\p.1≠X.env.locals/\p.1∉X.fs/\∀v,p.2.data≠.cell v
 hok:uA X.prog X.w H s.heap
 len:σ.length=X.N.length
section
variable{X:Cx}{pins:List (h_×Obj)}{σ:List (Option V)}{H H':Hp}{s:l_}{h':w_}
theorem Cx.Ok.nofr(ok:X.Ok)(e:X.base.get? b=b_ o):b∉X.fs:=λhb=>by have:=(ok.funs.mem hb).1;rw[e]at this;cases this
theorem zu.bs(I:zu X pins σ H s):∀b o,X.base.get? b=b_ o->s.heap.get? b=b_ o/\H b=f_:=λb o e=>⟨I.base.keep b o (I.ok.bs b o e).1 (I.ok.bs b o e).2 (I.ok.nofr e) (I.ok.noex b o e),I.base.free b o (I.ok.bs b o e).1 (I.ok.bs b o e).2 (I.ok.noex b o e)⟩
theorem zu.tab(I:zu X pins σ H s):H tabP=b_ Yl:=I.base.frzs _ _ _ I.ok.tab
theorem zu.bk(I:zu X pins σ H s):∀b o,X.base.get? b=b_ o->s.heap.get? b=b_ o:=λb o e=>(I.bs b o e).1
theorem zu.mod(I:zu X pins σ H s):Mod X.K X.mg X.base:=I.ok.mod
theorem zu.kIn(I:zu X pins σ H s):X.K.In s.heap:=I.ok.mod.kin.keeps I.bk
theorem zu.lt(I:zu X pins σ H s):X.env.locals<↑a:=let⟨_,hn,_⟩:=I.loc;hn.lt
theorem zu.sz(I:zu X pins σ H s):↑j<=↑a:=A6 I.ok.above (Nat.le_of_lt I.lt)
theorem zu.nofs(I:zu X pins σ H s)(h:↑a<=a):a∉X.fs:=λhb=>by obtain⟨_,o,ho,_⟩:=I.ok.funs.mem hb;exact absurd (sR (n_ ho) (A6 I.sz h)) (BQ _)
theorem zu.cne(I:zu X pins σ H s):∀x c,X.env.cells.lookup x=b_ c->c≠X.env.locals:=λx c e z=>by obtain⟨v,o,ho,hd⟩:=I.cell x c e;obtain⟨m,⟨o',es,ep,SS,hd',_⟩,_⟩:=I.loc;rw[z,SS]at ho;cases ho;rw[hd']at hd;cases hd
theorem zu.funs(I:zu X pins σ H s):s.heap.FunFrames X.base X.outer:=by
 have all:∀(l:List Env),(∀b∈dE l,b∈X.fs)->X.s₀.heap.FunFrames X.base l->s.heap.FunFrames X.base l:=by intro l;induction l with|nil=>intro _ _;trivial|cons env r ih=>intro hs hl;obtain⟨hk,⟨L,o,hf,hn,ho,hd⟩,hr⟩:=hl;have hL:L∈X.fs:=hs L (by unfold dE;rw[R8,hf];exact m_);obtain⟨sl,e⟩:=I.base.slot L o ho (I.ok.frf L hL) hL λz=>I.ok.exfs L z hL;exact⟨hk,⟨L,_,hf,hn,e,hd⟩,ih (λb hb=>hs b (by unfold dE;rw[R8,hf];exact k_ _ hb)) hr⟩
 exact all X.outer (λ_ hb=>hb) I.ok.funs
theorem zu.stack(I:zu X pins σ H s):s.heap.FunFrames X.base X.stack:=by
 rcases I.ok.stk with e|⟨e,hf⟩;·rw[e];exact I.funs
 ·rw[e];obtain⟨m,hn,_⟩:=I.loc;refine .cons (by rw[I.ok.kind];decide) hf hn ?_ I.funs;exact w_.get?_none_of_le (A6 I.ok.bsz I.ok.above)
theorem zu.stkSub(I:zu X pins σ H s):∀b∈dE X.stack,b∈X.env.locals::X.fs:=λb hb=>by
 rcases I.ok.stk with e|⟨e,hf⟩;·rw[e]at hb;exact k_ _ hb
 ·rw[e]at hb;unfold dE at hb;rw[R8,hf]at hb;exact hb
theorem zu.stkFree(I:zu X pins σ H s):∀b∈dE X.stack,H b=f_:=λb hb=>by
 rcases sB.mp (I.stkSub b hb)with e|hb;·rw[e];exact I.free
 ·obtain⟨_,o,ho,_⟩:=I.ok.funs.mem hb;exact I.base.free b o ho (I.ok.frf b hb) λz=>I.ok.exfs b z hb
theorem zu.step{g':Array S1}{t':Nat}{d':Drawn}{ch:List h_}(I:zu X pins σ H s)(TW:∀b∈ch,(b∈X.ex\/↑j<=b)/\b≠X.env.locals/\(∀x c,X.env.cells.lookup x=b_ c->c≠b)/\∀p∈X.pn++pins,p.1≠b)(keep:∀b o,b≠X.env.locals->b∉X.fs->b∉ch->s.heap.get? b=b_ o->H b=f_->h'.get? b=b_ o)(slot:∀b o,b≠X.env.locals->b∈X.fs->b∉ch->s.heap.get? b=b_ o->H b=f_->∃sl,h'.get? b=b_ {o with slots:=sl})(free:∀b o,b∉ch->s.heap.get? b=b_ o->H b=f_->H' b=f_)(there:∀b o,b∉ch->s.heap.get? b=b_ o->∃o',h'.get? b=b_ o')(tups:∀b xs,H b=b_ (.tup xs)->H' b=b_ (.tup xs))(frzs:∀b o u,H b=b_ (.frz o u)->H' b=b_ (.frz o u))(tbls:∀b ps,H b=b_ (.tbl ps)->∃more,H' b=b_ (.tbl (ps++more)))(ns:∀m,s.heap.Ns X.env.locals m->h'.Ns X.env.locals m)(hok:uA X.prog X.w H' h')(hg:Rc g'):zu X pins σ H' {s with heap:=h',gens:=g',drawn:=d',toks:=t'}:=by
 have neL:∀b o,X.s₀.heap.get? b=b_ o->b≠X.env.locals:=λb o e=>su (sR (n_ e) I.ok.above);have SW:∀b o,X.s₀.heap.get? b=b_ o->b∉X.ex->b∉ch:=λb o e hx hb=>by
  rcases(TW b hb).1 with z|z;·exact hx z
  ·exact absurd (sR (n_ e) z) (BQ _)
 have Θ:∀x c,X.env.cells.lookup x=b_ c->∀v,s.heap.IsCell c v->h'.IsCell c v:=λx c e v⟨o,ho,hd⟩=>by
  have TB:c∉ch:=λz=>(TW c z).2.2.1 x c e rfl;by_cases hc:c∈X.fs;·obtain⟨sl,q⟩:=slot c o (I.cne x c e) hc TB ho (I.freeC x c e);exact⟨_,q,hd⟩
  ·exact⟨o,keep c o (I.cne x c e) hc TB ho (I.freeC x c e),hd⟩
 refine⟨I.ok,I.os,hg,⟨λb o e n hb hx=>?_,λb o e n hb hx=>?_,λb o e n hx=>?_,λb o e hx=>?_,λb xs e=>tups b xs (I.base.tups b xs e),λb o xs e=>frzs b o xs (I.base.frzs b o xs e),λb ps e=>?_⟩,?_,λx c e=>?_,?_,λx c e=>?_,λp hp=>?_,hok,I.len⟩;·exact keep b o (neL b o e) hb (SW b o e hx) (I.base.keep b o e n hb hx) (I.base.free b o e n hx)
 ·obtain⟨sl,e1⟩:=I.base.slot b o e n hb hx;obtain⟨sl',e2⟩:=slot b _ (neL b o e) hb (SW b o e hx) e1 (I.base.free b o e n hx);exact⟨sl',e2⟩
 ·obtain⟨o',e1⟩:=I.base.there b o e hx;exact free b o' (SW b o e hx) e1 (I.base.free b o e n hx)
 ·obtain⟨o',e1⟩:=I.base.there b o e hx;exact there b o' (SW b o e hx) e1
 ·obtain⟨m1,e1⟩:=I.base.tbls b ps e;obtain⟨m2,e2⟩:=tbls b _ e1;exact⟨m1++m2,by rw[e2,Array.append_assoc]⟩
 ·obtain⟨m,hn,hl⟩:=I.loc;refine⟨m,ns m hn,λi x v e1 e2 e3=>?_⟩;obtain⟨u,r,l⟩:=hl i x v e1 e2 e3;refine⟨u,r,?_⟩;rcases l with l|⟨k,c,e,z⟩;·exact .inl l
  ·exact .inr ⟨k,c,e,Θ x c e _ z⟩
 ·obtain⟨v,z⟩:=I.cell x c e;exact⟨v,Θ x c e v z⟩
 ·obtain⟨m,⟨o,_,_,ho,_⟩,_⟩:=I.loc;exact free _ o (λz=>(TW _ z).2.1 rfl) ho I.free
 ·obtain⟨v,o,ho,hd⟩:=I.cell x c e;exact free c o (λz=>(TW c z).2.2.1 x c e rfl) ho (I.freeC x c e)
 ·obtain⟨e,n,ne,nf,d⟩:=I.pin p hp;have TB:p.1∉ch:=λz=>(TW p.1 z).2.2.2 p hp rfl;exact⟨keep p.1 p.2 ne nf TB e n,free p.1 p.2 TB e n,ne,nf,d⟩
theorem zu.un{t':Nat}(I:zu X pins σ H s)(u:Un X.fs [] H H' s.heap h')(hok:uA X.prog X.w H' h'):zu X pins σ H' {s with heap:=h',toks:=t'}:=by obtain⟨m,⟨o,es,ep,ho,r⟩,_⟩:=id I.loc;obtain⟨sl,hL⟩:=u.any ho I.free ↑G;exact I.step (g':=s.gens) (d':=s.drawn) (ch:=[]) (λ_ z=>nomatch z) (λb o _ hb _ e n=>u.keep b o e n hb ↑G) (λb o _ hb _ e n=>u.slot b o e n hb ↑G) (λb o _ e n=>u.free b o e n ↑G) (λb o _ e=>u.there b o e ↑G) u.tups u.frzs u.tbls (λm' hm=>by obtain⟨o',es',ep',SS,r'⟩:=hm;rw[ho]at SS;cases SS;exact⟨_,es',ep',hL,r'⟩) hok I.bare
theorem zu.call{g':Array S1}{t':Nat}{d':Drawn}{ch:List h_}(I:zu X pins σ H s)(u:Un (dE X.stack) ch H H' s.heap h')(hok:uA X.prog X.w H' h')(hg:Rc g')(TW:∀b∈ch,(b∈X.ex\/↑j<=b)/\b≠X.env.locals/\(∀x c,X.env.cells.lookup x=b_ c->c≠b)/\∀p∈X.pn++pins,p.1≠b):zu X pins σ H' {s with heap:=h',gens:=g',drawn:=d',toks:=t'}:=by obtain⟨m,⟨o,es,ep,ho,r⟩,_⟩:=id I.loc;obtain⟨sl,hL⟩:=u.any ho I.free λz=>(TW _ z).2.1 rfl;exact I.step (ch:=ch) TW (λb o hL hb hc e n=>u.keep b o e n (λz=>(sB.mp (I.stkSub b z)).elim hL hb) hc) (λb o _ _ hc e n=>u.any e n hc) (λb o hc e n=>u.free b o e n hc) (λb o hc e=>u.there b o e hc) u.tups u.frzs u.tbls (λm' hm=>by obtain⟨o',es',ep',SS,r'⟩:=hm;rw[ho]at SS;cases SS;exact⟨_,es',ep',hL,r'⟩) hok hg
theorem zu.turned{t':Nat}{it:h_}(I:zu X pins σ H s)(k:∀b o,b≠it->s.heap.get? b=b_ o->h'.get? b=b_ o)(hn:H it=f_)(hL:it≠X.env.locals)(h1:it∈X.ex\/↑j<=it)(h2:∀x c,X.env.cells.lookup x=b_ c->c≠it)(h3:∀p∈X.pn++pins,p.1≠it):zu X pins σ H {s with heap:=h',toks:=t'}:=by
 have nit:∀b u,H b=b_ u->b≠it:=λb u e z=>by rw[z,hn]at e;cases e
 refine I.step (g':=s.gens) (d':=s.drawn) (ch:=[it]) (λb hb=>?_) (λb o _ _ hc e _=>k b o (λz=>hc (by simp[z])) e) (λb o _ _ hc e _=>⟨o.slots,k b o (λz=>hc (by simp[z])) e⟩) (λ_ _ _ _ n=>n) (λb o hc e=>⟨o,k b o (λz=>hc (by simp[z])) e⟩) (λ_ _ e=>e) (λ_ _ _ e=>e) (λb ps e=>⟨#[],by rw[e];simp⟩) (λm hm=>?_) (λb u e=>?_) I.bare
 ·have e:b=it:=by simpa using hb
  subst e;exact⟨h1,hL,h2,h3⟩
 ·obtain⟨o,es,ep,ho,r⟩:=hm;exact⟨o,es,ep,k _ o (AE hL) ho,r⟩
 ·refine(I.hok b u e).stay (λc v hc q=>k c v ?_ q) (λ_ q=>q) λ_ _ q=>q;rcases hc with z|z;·rw[z];exact nit b u e
  ·exact nit c _ z
theorem zu.tok(I:zu X pins σ H s)(t:Nat):zu X pins σ H {s with toks:=t}:=I.un (h':=s.heap) (t':=t) Un.refl I.hok
theorem zu.kept(I:zu X pins σ H s)(k:∀b u,s.heap.get? b=b_ u->h'.get? b=b_ u):zu X pins σ H {s with heap:=h',toks:=t'}:=I.un (Un.kept k) (I.hok.kept k)
theorem zu.laid(I:zu X pins σ H s)(k:∀b u,s.heap.get? b=b_ u->h'.get? b=b_ u)(hp:↑a<=a)(new:jw X.prog X.w (zO H a o) h' a o):zu X pins σ (zO H a o) {s with heap:=h',toks:=t'}:=I.un (Un.laid k hp (I.hok.fresh hp)) (I.hok.laid k hp new)
theorem zu.write(I:zu X pins σ H s)(mu:IG (H x))(he:e=x\/H e=b_ (.own x))(k:∀b u,b≠e->s.heap.get? b=b_ u->h'.get? b=b_ u)(ύ:∃u,h'.get? e=b_ u)(new:jw X.prog X.w (zO H x o) h' x o):zu X pins σ (zO H x o) {s with heap:=h',toks:=t'}:=I.un (Un.write mu he k ύ) (I.hok.write mu he k ύ new)
theorem zu.pins_of(I:zu X pins σ H s)(h:∀p∈pins',s.heap.get? p.1=b_ p.2/\H p.1=f_/\p.1≠X.env.locals/\p.1∉X.fs/\∀v,p.2.data≠.cell v):zu X pins' σ H s:=⟨I.ok,I.os,I.bare,I.base,I.loc,I.cell,I.free,I.freeC,λp hp=>(sS.mp hp).elim (λz=>I.pin p (A4 _ z)) (h p),I.hok,I.len⟩
theorem dU{N:List Str}(hN:N.Nodup){i j:Nat}{x:Str}(a:N[i]?=b_ x)(b:N[j]?=b_ x):i=j:=by obtain⟨h1,e1⟩:=sP.mp a;obtain⟨h2,e2⟩:=sP.mp b;exact(List.getElem_inj hN).mp (e1.trans e2.symm)
theorem WI{M:Model}{A:A3}{E:g_->l_->Prop}{i:Nat}{x:Str}{v:V}{u:g_}{Q:Unit->l_->Prop}(I:zu X pins σ H s)(hN:X.N.Nodup)(hi:X.N[i]?=b_ x)(hx:aV X.env.scope x)(r:RelV v u)(h:∀s',zu X pins (σ.set i (b_ v)) H s'->(∃a,Bx a s.heap s'.heap/\(a=X.env.locals\/X.env.cells.lookup x=b_ a))->Q () s')(hf:X.fn x=e_\/X.env.scope.names.lookup x=b_ .local:=by first|exact .inl rfl|exact .inr rfl|assumption):o_ M A (storeName X.env x u) Q E s:=by
 obtain⟨m,hn,hl⟩:=id I.loc;have Tz:(X.env.scope.kind==.class||(X.env.scope.kind==.module&&X.env.locals !=X.env.globals))=a_:=by rw[I.ok.kind];rfl
 have X_:i<σ.length:=by rw[I.len];exact(sP.mp hi).1
 have cne:=I.cne;have T2:∀{a:h_}{h':w_},(∃o,s.heap.get? a=b_ o/\H a=f_)->Bx a s.heap h'->uA X.prog X.w H h':=λ{a h'}ha hs b ob e=>by
  obtain⟨_,_,hfree⟩:=ha;refine(I.hok b ob e).stay (λc w' hc q=>(hs.2 c ?_).trans q) (λ_ q=>q) λ_ _ q=>q;rintro rfl;rcases hc with rfl|hc;·rw[hfree]at e;cases e
  ·rw[hfree]at hc;cases hc
 rcases hx with hk|hk
 ·refine wpAny_storeName_local hk hn (λh' Ξ hs=>?_) Tz;obtain⟨oL,_,_,Ϥ,_⟩:=id hn;refine h _ ⟨I.ok,I.os,I.bare,⟨λb o e n hb hx=>?_,λb o e n hb hx=>?_,I.base.free,λb o e hx=>?_,I.base.tups,I.base.frzs,I.base.tbls⟩,⟨_,Ξ,λj y v' e1 e2 e3=>?_⟩,λy c e=>?_,I.free,I.freeC,λp hp=>?_,T2 ⟨oL,Ϥ,I.free⟩ hs,by simpa using I.len⟩ ⟨_,hs,.inl rfl⟩;·exact(hs.2 b (su (sR (n_ e) I.ok.above))).trans (I.base.keep b o e n hb hx)
  ·obtain⟨sl,e1⟩:=I.base.slot b o e n hb hx;exact⟨sl,(hs.2 b (su (sR (n_ e) I.ok.above))).trans e1⟩
  ·obtain⟨o',e1⟩:=I.base.there b o e hx;exact⟨o',(hs.2 b (su (sR (n_ e) I.ok.above))).trans e1⟩
  ·by_cases hj:j=i;·subst hj;rw[hi]at e1;cases e1;rw[Ay X_]at e2;cases e2;exact⟨u,r,.inl ⟨hk,by simp⟩⟩
   ·rw[AL (AE hj)]at e2;obtain⟨u',r',q⟩:=hl j y v' e1 e2 e3;refine⟨u',r',?_⟩;rcases q with⟨k,e⟩|⟨k,c,e,z⟩;·refine .inl ⟨k,?_⟩;have:y≠x:=λe=>hj (dU hN e1 (e▸hi));simp[this,e]
    ·exact .inr ⟨k,c,e,z.sameBut hs (cne y c e)⟩
  ·obtain⟨w',z⟩:=I.cell y c e;exact⟨w',z.sameBut hs (cne y c e)⟩
  ·obtain⟨e,n,ne,nf,d⟩:=I.pin p hp;exact⟨(hs.2 p.1 ne).trans e,n,ne,nf,d⟩
 ·have hfn:X.fn x=e_:=by
   rcases hf with z|z;·exact z
   ·rw[z]at hk;cases hk
  obtain⟨c,hc⟩:=I.ok.has x (.inl hk);obtain⟨w',z⟩:=I.cell x c hc;refine wpAny_storeName_cell I.ok.kind hk hc z (λh' hc' hs=>?_);obtain⟨oc,hoc,hocd⟩:=id z;refine h {s with heap:=h'} ⟨I.ok,I.os,I.bare,⟨λb o e n hb hx=>?_,λb o e n hb hx=>?_,I.base.free,λb o e hx=>?_,I.base.tups,I.base.frzs,I.base.tbls⟩,⟨m,hn.sameBut hs (AE (cne x c hc)),λj y v' e1 e2 e3=>?_⟩,λy c' e=>?_,I.free,I.freeC,λp hp=>?_,T2 ⟨oc,hoc,I.freeC x c hc⟩ hs,by simpa using I.len⟩ ⟨c,hs,.inr hc⟩;·exact(hs.2 b (su (sR (n_ e) (I.ok.cab x c hfn hc)))).trans (I.base.keep b o e n hb hx)
  ·obtain⟨sl,e1⟩:=I.base.slot b o e n hb hx;exact⟨sl,(hs.2 b (su (sR (n_ e) (I.ok.cab x c hfn hc)))).trans e1⟩
  ·obtain⟨o',e1⟩:=I.base.there b o e hx;exact⟨o',(hs.2 b (su (sR (n_ e) (I.ok.cab x c hfn hc)))).trans e1⟩
  ·by_cases hj:j=i;·subst hj;rw[hi]at e1;cases e1;rw[Ay X_]at e2;cases e2;exact⟨u,r,.inr ⟨.inl hk,c,hc,hc'⟩⟩
   ·rw[AL (AE hj)]at e2;obtain⟨u',r',q⟩:=hl j y v' e1 e2 e3;refine⟨u',r',?_⟩;rcases q with q|⟨k,c',e,z'⟩;·exact .inl q
    ·refine .inr ⟨k,c',e,z'.sameBut hs ?_⟩;rintro rfl;exact hj (dU hN e1 (I.ok.inj _ _ _ e hc▸hi))
  ·by_cases SZ:c'=c;·subst SZ;exact⟨_,hc'⟩
   ·obtain⟨w2,z2⟩:=I.cell y c' e;exact⟨w2,z2.sameBut hs SZ⟩
  ·obtain⟨e,n,ne,nf,d⟩:=I.pin p hp;refine⟨(hs.2 p.1 ?_).trans e,n,ne,nf,d⟩;intro q;rw[q,hoc]at e;have q':oc=p.2:=sF e;exact d w' (by rw[<-q'];exact hocd)
theorem uC(I:zu X pins σ H s)(hN:X.N.Nodup)(hi:X.N[i]?=b_ x)(hx:aV X.env.scope x)(r:RelV v u)(h:∀s',zu X pins (σ.set i (b_ v)) H s'->Q () s')(hf:X.fn x=e_\/X.env.scope.names.lookup x=b_ .local:=by first|exact .inl rfl|exact .inr rfl|assumption):o_ M A (storeName X.env x u) Q E s:=WI I hN hi hx r (λs' I' _=>h s' I') hf
theorem zu.call'(I:zu X pins σ H s)(ho:s'.os=s.os)(u:Un (dE X.stack) ch H H' s.heap s'.heap)(hok:uA X.prog X.w H' s'.heap)(hg:Rc s'.gens)(TW:∀b∈ch,(b∈X.ex\/↑j<=b)/\b≠X.env.locals/\(∀x c,X.env.cells.lookup x=b_ c->c≠b)/\∀p∈X.pn++pins,p.1≠b):zu X pins σ H' s':=by obtain⟨h',g',d',t',o'⟩:=s';have e:o'=s.os:=ho;subst e;exact I.call (g':=g') (t':=t') (d':=d') u hok hg TW
end
abbrev XK:=g_->Option h_->Hp->Prop
abbrev St:=List (Option V)
abbrev VK:=V->Hp->Prop
abbrev TE:=St->Hp->VK->Prop
abbrev TT:=St->Hp->(Bool->Hp->Prop)->Prop
abbrev TA:=St->Hp->(List V->Hp->Prop)->Prop
structure nQ where
 nx:St->Hp->Prop
 rt:VK
 bk:St->Hp->Prop:=λ_ _=>False
 ct:St->Hp->Prop:=λ_ _=>False
abbrev TS:=nQ->St->Hp->Prop
def EP(X:Cx)(pins:List (h_×Obj))(σ:St)(Q:VK)(u:g_)(s':l_):Prop:=∃v H',zu X pins σ H' s'/\RelV v u/\Q v H'
def TP(X:Cx)(pins:List (h_×Obj))(σ:St)(Q:Bool->Hp->Prop)(b:Bool)(s':l_):Prop:=∃H',zu X pins σ H' s'/\Q b H'
def AP(X:Cx)(pins:List (h_×Obj))(σ:St)(Q:List V->Hp->Prop)(us:List g_)(s':l_):Prop:=∃vs H',zu X pins σ H' s'/\zQ vs us/\Q vs H'
def SP(X:Cx)(pins:List (h_×Obj))(D:nQ)(f:Flow)(s':l_):Prop:=match f with|.next=>∃σ' H',zu X pins σ' H' s'/\D.nx σ' H'|.brk=>∃σ' H',zu X pins σ' H' s'/\D.bk σ' H'|.cont=>∃σ' H',zu X pins σ' H' s'/\D.ct σ' H'|.ret u=>∃v σ' H',zu X pins σ' H' s'/\RelV v u/\D.rt v H'
def PE(X:Cx)(e:A1)(t:TE):Prop:=∀(pins:List (h_×Obj))(s:l_)(σ:St)(H:Hp)(Q:VK),zu X pins σ H s->t σ H Q->o_ ↑n X.A (x_ e X.env) (EP X pins σ Q) X.xe s
def PT(X:Cx)(e:A1)(t:TT):Prop:=∀(pins:List (h_×Obj))(s:l_)(σ:St)(H:Hp)(Q:Bool->Hp->Prop),zu X pins σ H s->t σ H Q->o_ ↑n X.A (isTrue e X.env (x_ e X.env)) (TP X pins σ Q) X.xe s
def PW(X:Cx)(e:A1)(t:TT):Prop:=∀(SU:Sem g_)(pins:List (h_×Obj))(s:l_)(σ:St)(H:Hp)(Q:Bool->Hp->Prop),zu X pins σ H s->t σ H Q->o_ ↑n X.A (isTrue e X.env SU) (TP X pins σ Q) X.xe s
def PW.pt(h:PW X e t):PT X e t:=h _
def PA(X:Cx)(es:List A1)(t:TA):Prop:=∀(pos:Pos)(pins:List (h_×Obj))(s:l_)(σ:St)(H:Hp)(Q:List V->Hp->Prop),zu X pins σ H s->t σ H Q->o_ ↑n X.A (Om (AT pos (p_ es X.env))) (AP X pins σ Q) X.xe s
def PS(X:Cx)(st:A2)(t:TS):Prop:=∀(pins:List (h_×Obj))(s:l_)(σ:St)(H:Hp)(D:nQ),zu X pins σ H s->t D σ H->o_ ↑n X.A (exec st X.env) (SP X pins D) X.xe s
def oF(X:Cx)(st:List A2)(t:TS):Prop:=∀(pins:List (h_×Obj))(s:l_)(σ:St)(H:Hp)(D:nQ),zu X pins σ H s->t D σ H->o_ ↑n X.A (execs st X.env) (SP X pins D) X.xe s
def jk(h:o_ M A t Q E s)(hQ:∀a s,Q a s->Q' a s):o_ M A t Q' E s:=sQ h hQ λ_ _ x=>x
section
variable{X:Cx}
theorem Bu{a b:A1}{ta tb:TE}(ha:PE X a ta)(hb:PE X b tb){pins:List (h_×Obj)}{s:l_}{σ:St}{H:Hp}{R:V->V->Hp->Prop}(I:zu X pins σ H s)(h:ta σ H λx H1=>tb σ H1 λy H2=>R x y H2){α:Type}{Q:α->l_->Prop}{f:g_->g_->Sem α}(hf:∀v u s2 x y H2,zu X pins σ H2 s2->RelV x v->RelV y u->R x y H2->o_ ↑n X.A (f v u) Q X.xe s2):o_ ↑n X.A (x_ a X.env) (λv s₁=>o_ ↑n X.A (x_ b X.env) (λu s₂=>o_ ↑n X.A (f v u) Q X.xe s₂) X.xe s₁) X.xe s:=by refine jk (ha pins s σ H _ I h) λv s1⟨x,H1,I1,r1,q1⟩=>?_;refine jk (hb pins s1 σ H1 _ I1 q1) λu s2⟨y,H2,I2,r2,q2⟩=>?_;exact hf v u s2 x y H2 I2 r1 r2 q2
def xJ(i:Nat):TE:=λσ H Q=>∃v,σ[i]?=b_ (b_ v)/\Q v H
def tC(v:V):TE:=λ_ H Q=>Q v H
theorem gv(hN:X.N[i]?=b_ x)(hv:Yd X.env.scope x)(hd:(x==↑x)=a_:=by decide)(Sz:(x==("__classdict__":Str))=a_:=by decide):PE X (.Name x pos) (xJ i):=by
 intro pins s σ H Q I h;obtain⟨v,e,h⟩:=h;obtain⟨m,hn,hl⟩:=I.loc;obtain⟨u,r,l⟩:=hl i x v hN e hv;have fin:EP X pins σ Q u s:=⟨v,H,I,r,h⟩;rcases l with⟨hk,hm⟩|⟨hk,c,hc,hcell⟩;·exact wpAny_Name (wpAny_loadName_local I.ok.kind hk hn hm fin) hd
 ·rcases hk with hk|hk;·exact wpAny_Name (wpAny_loadName_cell I.ok.kind hk hc hcell fin) hd
  ·exact wpAny_Name (wpAny_loadName_free I.ok.kind hk hc hcell fin Sz) hd
theorem NO{i j pos}:PE X (.Constant (.int i) j pos) (tC (.int i)):=λ_ _ _ H _ I h=>wpAny_Constant_int ⟨.int i,H,I.tok _,⟨_,rfl⟩,h⟩
theorem II{b j pos}:PE X (.Constant (.bool b) j pos) (tC (.bl b)):=λ_ _ _ H _ I h=>Constant_bool ⟨.bl b,H,I,rfl,h⟩
theorem NP{j pos}:PE X (.Constant .none j pos) (tC .non):=λ_ _ _ H _ I h=>Constant_none ⟨.non,H,I,rfl,h⟩
theorem NQ{x j pos}:PE X (.Constant (.str x) j pos) (tC (.str x)):=λ_ _ _ H _ I h=>Calls.Constant_str ⟨.str x,H,I.tok _,⟨_,rfl⟩,h⟩
def Gl(X:Cx)(x:Str):Prop:=X.env.kindOf x=b_ .globalImplicit
theorem ls(I:zu X pins σ H s)(hg:Gl X x)(hm:X.mg x=b_ u)(h:Q u s)(hd:(x==↑x)=a_:=by decide):o_ ↑n X.A (x_ (.Name x pos) X.env) Q E s:=Rm I.ok.kind hg (Calls.loadGlobal_global (by rw[I.ok.glob];exact I.mod.glob.keeps I.bk) hm h) hd
theorem fu(I:zu X pins σ H s)(hg:Gl X x)(hm:X.mg x=f_)(hv:A0 x=b_ u)(h:Q u s)(hn:x≠"__name__":=by decide)(hd:(x==↑x)=a_:=by decide):o_ ↑n X.A (x_ (.Name x pos) X.env) Q E s:=by obtain⟨mb,h1,h2⟩:=I.mod.blt;exact Rm I.ok.kind hg (Calls.loadGlobal_builtin (by rw[I.ok.glob];exact I.mod.glob.keeps I.bk) hm (by rw[I.ok.blt];exact h1.keeps I.bk) ((h2 x hn).trans hv) h) hd
theorem gR(hg:Gl X x)(hm:X.mg x=b_ u)(r:RelV v u)(hd:(x==↑x)=a_:=by decide):PE X (.Name x pos) (tC v):=λ_ _ _ H _ I h=>ls I hg hm ⟨v,H,I,r,h⟩ hd
theorem XD(hg:Gl X x)(hm:X.mg x=f_)(hv:A0 x=b_ u)(r:RelV v u)(hn:x≠"__name__":=by decide)(hd:(x==↑x)=a_:=by decide):PE X (.Name x pos) (tC v):=λ_ _ _ H _ I h=>fu I hg hm hv ⟨v,H,I,r,h⟩ hn hd
variable{a b:A1}{ta tb:TE}{pos:Pos}
def PC(X:Cx)(op:CmpOp)(a b:A1)(t:TE):Prop:=∀(pins:List (h_×Obj))(s:l_)(σ:St)(H:Hp)(Q:VK),zu X pins σ H s->t σ H Q->o_ ↑n X.A (x_ a X.env) (λv s₁=>o_ ↑n X.A (x_ b X.env) (λu s₂=>o_ ↑n X.A (sX op v u) (EP X pins σ Q) X.xe s₂) X.xe s₁) X.xe s
theorem K3(b:A1)(h:op≠.In)(h2:op≠.NotIn):AY op b=a_:=by
 have e1:(op==CmpOp.In)=a_:=by cases op<;>first|rfl|exact absurd rfl h
 have e2:(op==CmpOp.NotIn)=a_:=by cases op<;>first|rfl|exact absurd rfl h2
 cases b<;>simp[AY,e1,e2]
def tB(t:TE):TT:=λσ H Q=>t σ H λx H1=>∃c,x=.bl c/\Q c H1
theorem NR(h:PC X op a b t)(h1:AY op b=a_:=by first|exact K3 _ ↑o ↑o|rfl):PT X (.Compare a [op] [b] pos) (tB t):=by intro pins s σ H Q I hw;refine wpAny_isTrue_Compare1 (jk (h pins s σ H _ I hw) λv s1 h1=>jk h1 λu s2 h2=>jk h2 λc s3⟨x,H1,I1,r1,q1⟩=>?_) h1;obtain⟨d,rfl,q⟩:=q1;cases r1;exact AI ⟨H1,I1,q⟩
variable{tA tB':TT}{rest:List A1}
def IJ(t u:TT):TT:=λσ H Q=>t σ H λc H1=>if c=e_ then u σ H1 Q else Q a_ H1
def Cs(t u:TT):TT:=λσ H Q=>t σ H λc H1=>if c=e_ then Q e_ H1 else u σ H1 Q
def IK(t:TT):TT:=λσ H Q=>t σ H λc H1=>Q (!c) H1
theorem GT(ha:PT X a tA):PW X (.BoolOp .And [a] pos) tA:=by intro wh pins s σ H Q I h;refine isTrue_and (jk (ha pins s σ H Q I h) λc s1 e=>?_);cases c with|true=>exact isTrue_and_nil e|false=>exact e
theorem NS(ha:PT X a tA):PW X (.BoolOp .Or [a] pos) tA:=by intro wh pins s σ H Q I h;refine isTrue_or (jk (ha pins s σ H Q I h) λc s1 e=>?_);cases c with|false=>exact isTrue_or_nil e|true=>exact e
theorem NT(ha:PT X a tA)(hb:PW X (.BoolOp .And (b::rest) pos) tB'):PW X (.BoolOp .And (a::b::rest) pos) (IJ tA tB'):=by intro wh pins s σ H Q I h;refine isTrue_and (jk (ha pins s σ H _ I h) λc s1⟨H1,I1,q1⟩=>?_);cases c with|true=>exact hb wh pins s1 σ H1 Q I1 q1|false=>exact⟨H1,I1,q1⟩
theorem IL(ha:PT X a tA)(hb:PW X (.BoolOp .Or (b::rest) pos) tB'):PW X (.BoolOp .Or (a::b::rest) pos) (Cs tA tB'):=by intro wh pins s σ H Q I h;refine isTrue_or (jk (ha pins s σ H _ I h) λc s1⟨H1,I1,q1⟩=>?_);cases c with|true=>exact⟨H1,I1,q1⟩|false=>exact hb wh pins s1 σ H1 Q I1 q1
theorem NU(ha:PT X a tA):PT X (.UnaryOp .Not a pos) (IK tA):=by intro pins s σ H Q I h;exact isTrue_not (ha pins s σ H (λc H1=>Q (!c) H1) I h)
def IM(ta tb:TE):TE:=λσ H Q=>ta σ H λx H1=>∃c,x=.bl c/\if c=e_ then tb σ H1 Q else Q (.bl a_) H1
def D7(ta tb:TE):TE:=λσ H Q=>ta σ H λx H1=>∃c,x=.bl c/\if c=e_ then Q (.bl e_) H1 else tb σ H1 Q
def IN(ta:TE):TE:=λσ H Q=>ta σ H λx H1=>∃c,x=.bl c/\Q (.bl (!c)) H1
theorem NV{op}(h:PE X a t):PE X (.BoolOp op [a] pos) t:=λpins s σ H Q I hw=>BoolOp_one (h pins s σ H Q I hw)
theorem NW(ha:PE X a ta)(hb:PE X (.BoolOp .And (b::rest) pos) tb):PE X (.BoolOp .And (a::b::rest) pos) (IM ta tb):=by intro pins s σ H Q I h;refine BoolOp_and (jk (ha pins s σ H _ I h) λv s1⟨x,H1,I1,r1,q1⟩=>?_);obtain⟨c,rfl,q1⟩:=q1;cases r1;refine AI ?_;cases c with|true=>exact hb pins s1 σ H1 Q I1 q1|false=>exact⟨.bl a_,H1,I1,rfl,q1⟩
theorem IP(ha:PE X a ta)(hb:PE X (.BoolOp .Or (b::rest) pos) tb):PE X (.BoolOp .Or (a::b::rest) pos) (D7 ta tb):=by intro pins s σ H Q I h;refine BoolOp_or (jk (ha pins s σ H _ I h) λv s1⟨x,H1,I1,r1,q1⟩=>?_);obtain⟨c,rfl,q1⟩:=q1;cases r1;refine AI ?_;cases c with|false=>exact hb pins s1 σ H1 Q I1 q1|true=>exact⟨.bl e_,H1,I1,rfl,q1⟩
theorem NX(ha:PE X a ta):PE X (.UnaryOp .Not a pos) (IN ta):=by intro pins s σ H Q I h;refine UnaryOp_ (jk (ha pins s σ H _ I h) λv s1⟨x,H1,I1,r1,q1⟩=>?_);obtain⟨c,rfl,q1⟩:=q1;cases r1;exact not_of (AI ⟨.bl (!c),H1,I1,rfl,q1⟩)
def EE(t:TT)(ta tb:TE):TE:=λσ H Q=>t σ H λc H1=>if c=e_ then ta σ H1 Q else tb σ H1 Q
theorem Zr(hc:PT X c tA)(ha:PE X a ta)(hb:PE X b tb):PE X (.IfExp c a b pos) (EE tA ta tb):=by intro pins s σ H Q I h;refine wpAny_IfExp (jk (hc pins s σ H _ I h) λd s1⟨H1,I1,q1⟩=>?_);cases d with|true=>exact ha pins s1 σ H1 Q I1 q1|false=>exact hb pins s1 σ H1 Q I1 q1
end
def lu(K:d_)(H:Hp)(a:h_)(xs:List V):Prop:=Rd H a (.lst xs)\/∃(o:Obj)(its:Array g_)(n:Nat),K.lookup a=b_ o/\o.cls=.type "list"/\o.dict=f_/\o.data=.seq its n/\its.size<=j_/\zQ xs its.toList
def lq(K:d_)(H:Hp)(a:h_)(xs:List V):Prop:=Rd H a (.tup xs)\/∃(o:Obj)(its:Array g_)(n:Nat),K.lookup a=b_ o/\o.cls=.type "tuple"/\o.data=.seq its n/\its.size<=j_/\zQ xs its.toList
def D8:g_->Option V|.none=>b_ .non|.bool b=>b_ (.bl b)|.int i _=>b_ (.int i)|.str x _=>b_ (.str x)|.bytes b _=>b_ (.byt b)|.float b _=>b_ (.flt b)|.ref a=>b_ (.ref a)|.type n=>b_ (.ty n)|_=>f_
def RelV.abs(r:RelV x u):D8 u=b_ x:=by cases x with|non=>cases r;rfl|bl _=>cases r;rfl|int _=>obtain⟨t,rfl⟩:=r;rfl|str _=>obtain⟨t,rfl⟩:=r;rfl|byt _=>obtain⟨t,rfl⟩:=r;rfl|flt _=>obtain⟨t,rfl⟩:=r;rfl|ref _=>cases r;rfl|ty _=>cases r;rfl
def RelV.inj(r:RelV x u)(q:RelV y u):x=y:=sF (r.abs.symm.trans q.abs)
def zQ.inj:∀{xs ys:List V}{us:List g_},zQ xs us->zQ ys us->xs=ys|_,_,_,.nil,.nil=>rfl|_,_,_,.cons r t,.cons r' t'=>by rw[r.inj r',zQ.inj t t']
section
variable{X:Cx}{pins:List (h_×Obj)}{σ:St}{H:Hp}{s:l_}{a:h_}{xs ys:List V}
theorem zu.list(I:zu X pins σ H s)(h:lu X.K H a xs):∃its:List g_,zQ xs its/\PlainL s.heap a its.toArray/\↑e<=j_:=by
 rcases h with h|⟨o,its,n,hk,hc,hd,hs,hz,r⟩;·obtain⟨z,its,n,r,e⟩:=h.ok I.hok;exact⟨its,r,⟨_,n,e,rfl,rfl,rfl⟩,z⟩
 ·refine⟨its.toList,r,⟨o,n,I.kIn a o hk,hc,hd,by simpa using hs⟩,?_⟩;have e:=r.length;simp only[F8]at e;omega
theorem zu.tuple(I:zu X pins σ H s)(h:lq X.K H a xs):∃its:List g_,zQ xs its/\Oy s.heap a its.toArray/\↑e<=j_:=by
 rcases h with h|⟨o,its,n,hk,hc,hs,hz,r⟩;·obtain⟨z,its,r,p⟩:=h.ok I.hok;exact⟨its,r,p,z⟩
 ·refine⟨its.toList,r,⟨o,I.kIn a o hk,hc,n,by simpa using hs⟩,?_⟩;have e:=r.length;simp only[F8]at e;omega
theorem zu.list_inj(I:zu X pins σ H s)(h:lu X.K H a xs)(h':lu X.K H a ys):xs=ys:=by
 obtain⟨its,r,⟨o,n,e,_,_,d⟩,_⟩:=I.list h;obtain⟨its',r',⟨o',n',e',_,_,d'⟩,_⟩:=I.list h';rw[e]at e';cases e';rw[d]at d';injection d' with d1 _;have:its=its':=by simpa using congrArg Array.toList d1
 subst this;exact r.inj r'
theorem zu.tuple_inj(I:zu X pins σ H s)(h:lq X.K H a xs)(h':lq X.K H a ys):xs=ys:=by
 obtain⟨its,r,⟨o,e,_,n,d⟩,_⟩:=I.tuple h;obtain⟨its',r',⟨o',e',_,n',d'⟩,_⟩:=I.tuple h';rw[e]at e';cases e';rw[d]at d';injection d' with d1 _;have:its=its':=by simpa using congrArg Array.toList d1
 subst this;exact r.inj r'
end
section
variable{X:Cx}{st:A2}{rest:List A2}{t u:TS}{e:A1}{te:TE}{pos:Pos}
def Zs:TS:=λD σ H=>D.nx σ H
def d9(t u:TS):TS:=λD σ H=>t {D with nx:=u D} σ H
theorem dG:oF X [] Zs:=λ_ _ σ H _ I h=>On ⟨σ,H,I,h⟩
theorem kf(h1:PS X st t)(h2:oF X rest u):oF X (st::rest) (d9 t u):=by intro pins s σ H D I h;refine wpAny_execs_cons (jk (h1 pins s σ H {D with nx:=u D} I h) λf s1 q=>?_);cases f with|next=>obtain⟨σ',H',I',q⟩:=q;exact h2 pins s1 σ' H' D I' q|ret v=>exact q|brk=>exact q|cont=>exact q
theorem pL(h1:PS X st t):oF X [st] t:=by intro pins s σ H D I h;refine wpAny_execs_cons (jk (h1 pins s σ H D I h) λf s1 q=>?_);cases f with|next=>exact On q|ret v=>exact q|brk=>exact q|cont=>exact q
theorem zu.quiet(I:zu X pins σ H s):interactive X.env=a_:=by simp[interactive,I.ok.kind]
def Zt(te:TE):TS:=λD σ H=>te σ H λ_ H1=>D.nx σ H1
theorem ky(he:PE X e te)(hs:BA e f_ pos.line X.env=pure a_:=by rfl):PS X (.Expr e pos) (Zt te):=by intro pins s σ H D I h;exact wpAny_Expr_any (jk (he pins s σ H _ I h) λv s1⟨x,H1,I1,r1,q1⟩=>⟨σ,H1,I1,q1⟩) I.quiet hs
def IQ(te:TE):TS:=λD σ H=>te σ H D.rt
theorem oG(he:PE X e te):PS X (.Return (b_ e) pos) (IQ te):=by intro pins s σ H D I h;exact wpAny_Return_some (jk (he pins s σ H _ I h) λv s1⟨x,H1,I1,r1,q1⟩=>⟨x,σ,H1,I1,r1,q1⟩)
def K4(c:TT)(t u:TS):TS:=λD σ H=>c σ H λb H1=>if b=e_ then t D σ H1 else u D σ H1
theorem K5(hc:PT X c tc)(ha:oF X a t)(hb:oF X b u):PS X (.If c a b pos) (K4 tc t u):=by intro pins s σ H D I h;refine wpAny_If (jk (hc pins s σ H _ I h) λd s1⟨H1,I1,q1⟩=>?_);cases d with|true=>exact ha pins s1 σ H1 D I1 q1|false=>exact hb pins s1 σ H1 D I1 q1
def dW:TS:=λ_ _ _=>False
theorem WJ:oF X sts dW:=λ_ _ _ _ _ _ h=>h.elim
end
abbrev TG:=V->St->Hp->(St->Hp->Prop)->Prop
abbrev Iz:=List V->St->Hp->(St->Hp->Prop)->Prop
def PG(X:Cx)(ο:A1)(t:TG):Prop:=∀(pins:List (h_×Obj))(s:l_)(σ:St)(H:Hp)(v:V)(u:g_)(Q:St->Hp->Prop),zu X pins σ H s->RelV v u->t v σ H Q->o_ ↑n X.A (J' ο X.env u) (λ_ s'=>∃σ' H',zu X pins σ' H' s'/\Q σ' H') X.xe s
def IR(X:Cx)(ts:List A1)(t:Iz):Prop:=∀(pins:List (h_×Obj))(s:l_)(σ:St)(H:Hp)(vs:List V)(us:List g_)(Q:St->Hp->Prop),zu X pins σ H s->zQ vs us->t vs σ H Q->o_ ↑n X.A (assignInOrder ((AM ts X.env).map (·.2)) us) (λ_ s'=>∃σ' H',zu X pins σ' H' s'/\Q σ' H') X.xe s
abbrev IS:=V->V->V->Hp->(Hp->Prop)->Prop
def IT(X:Cx)(t:IS):Prop:=∀(pins:List (h_×Obj))(s:l_)(σ:St)(H:Hp)(o i v:V)(ov iv u:g_)(Q:Hp->Prop),zu X pins σ H s->RelV o ov->RelV i iv->RelV v u->t o i v H Q->o_ ↑n X.A (setItem ov iv u) (λ_ s'=>∃H',zu X pins σ H' s'/\Q H') X.xe s
abbrev Ct:=V->V->Hp->VK->Prop
def Cu(X:Cx)(op:Operator)(t:Ct):Prop:=∀(pins:List (h_×Obj))(s:l_)(σ:St)(H:Hp)(x y:V)(v u:g_)(Q:VK),zu X pins σ H s->RelV x v->RelV y u->t x y H Q->o_ ↑n X.A (inplaceOp op v u) (EP X pins σ Q) X.xe s
section
variable{X:Cx}{pos:Pos}
def qJ(i:Nat):TG:=λv σ H Q=>Q (σ.set i (b_ v)) H
theorem pM(hN:X.N.Nodup)(hi:X.N[i]?=b_ x)(hx:aV X.env.scope x)(hf:X.fn x=e_\/X.env.scope.names.lookup x=b_ .local:=by first|exact .inl rfl|exact .inr rfl|assumption):PG X (.Name x pos) (qJ i):=by intro pins s σ H v u Q I r h;exact wpAny_assign_Name (uC I hN hi hx r (λs' I'=>⟨_,H,I',h⟩) hf)
def NY:Iz:=λvs σ H Q=>vs=[]/\Q σ H
def Zu(t:TG)(u:Iz):Iz:=λvs σ H Q=>∃v r,vs=v::r/\t v σ H λσ' H'=>u r σ' H' Q
theorem XE:IR X [] NY:=by intro pins s σ H vs us Q I r h;obtain⟨e,h⟩:=h;subst e;cases r;exact assignInOrder_nil ⟨σ,H,I,h⟩
theorem dX(h1:PG X e t)(h2:IR X es u)(hs:(AM (e::es) X.env).map (·.2)=J' e X.env::(AM es X.env).map (·.2):=by rfl):IR X (e::es) (Zu t u):=by intro pins s σ H vs us Q I r h;obtain⟨v,vr,e1,h⟩:=h;subst e1;cases r with|cons r rr=>rw[hs];refine assignInOrder_cons (jk (h1 pins s σ H _ _ _ I r h) λ_ s1⟨σ1,H1,I1,q1⟩=>?_);exact h2 pins s1 σ1 H1 _ _ Q I1 rr q1
def NZ(K:d_)(n:Nat)(t:Iz):TG:=λv σ H Q=>∃a xs,v=.ref a/\lq K H a xs/\↑e=n/\t xs σ H Q
theorem K6(hc:X.calm=e_)(h:IR X es t)(hn:(AM es X.env).length=n:=by rfl)(Sx:(AM es X.env).findIdx? (·.1)=f_:=by rfl):PG X (.Tuple es k pos) (NZ X.K n t):=by intro pins s σ H v u Q I r hw;obtain⟨a,xs,e1,hq,hl,hw⟩:=hw;subst e1;cases r;obtain⟨its,rv,ht,hz⟩:=I.tuple hq;refine assign_Tuple_tuple (I.ok.hd hc) ht (by simp[hn,<-hl,rv.length]) Sx λh' hx=>?_;have I1:zu X pins σ H {s with heap:=h'}:=I.kept (t':=s.toks) λb o e=>hx b o (su (n_ e)) e;exact h pins _ σ H xs _ Q I1 (by simpa using rv) hw
def IU(to ti:TE)(t:IS):TG:=λv σ H Q=>to σ H λo H1=>ti σ H1 λi H2=>t o i v H2 λH3=>Q σ H3
theorem Ym(ho:PE X o to)(hi:PE X i ti)(hs:IT X t)(ha:∀v,J' (.Subscript o i pos) X.env v=(do
   let ov<-O2 [v] (x_ o X.env)let iv<-O2 [v,ov] (x_ i X.env)Re pos
   O2 [v,ov,iv] (setItem ov iv v)release [v,ov,iv] []):=by intro _;rfl):PG X (.Subscript o i pos) (IU to ti t):=by intro pins s σ H v u Q I r h;rw[ha];refine c_ (Ah (jk (ho pins s σ H _ I h) λov s1⟨x,H1,I1,r1,q1⟩=>?_));refine c_ (Ah (jk (hi pins s1 σ H1 _ I1 q1) λiv s2⟨y,H2,I2,r2,q2⟩=>?_));refine c_ (BG (c_ (Ah (jk (hs pins s2 σ H2 x y v ov iv u _ I2 r1 r2 r q2) λ_ s3⟨H3,I3,q3⟩=>?_))));exact wpAny_release ⟨σ,H3,I3,q3⟩
def oH(te:TE)(g:TG):TS:=λD σ H=>te σ H λx H1=>g x σ H1 D.nx
theorem dY(he:PE X e te)(hg:PG X tg g)(hs:swapsWithSole [tg] e pos.line X.env=pure a_:=by rfl)(hw:swappedStores [tg] e X.env=pure f_:=by rfl)(h1:(AM [tg] X.env).map (·.2)=[J' tg X.env]:=by rfl):PS X (.Assign [tg] e pos) (oH te g):=by intro pins s σ H D I h;refine wpAny_Assign_stores (jk (he pins s σ H _ I h) λv s1⟨x,H1,I1,r1,q1⟩=>?_) hs hw;rw[h1];exact jk (hg pins s1 σ H1 x v _ I1 r1 q1) λ_ s2 q=>q
theorem Yn(hN:X.N.Nodup)(hi:X.N[i]?=b_ x)(hx:aV X.env.scope x)(he:PE X e te)(hs:BA e (b_ (.Name x SA)) pos.line X.env=pure a_:=by rfl)(hf:X.fn x=e_\/X.env.scope.names.lookup x=b_ .local:=by first|exact .inl rfl|exact .inr rfl|assumption):PS X (.Assign [.Name x SA] e pos) (oH te (qJ i)):=by intro pins s σ H D I h;refine wpAny_Assign_Name (jk (he pins s σ H _ I h) λv s1⟨y,H1,I1,r1,q1⟩=>?_) hs;exact uC I1 hN hi hx r1 (λs2 I2=>⟨_,H1,I2,q1⟩) hf
def D9(i:Nat)(te:TE)(ti:Ct):TS:=λD σ H=>∃x,σ[i]?=b_ (b_ x)/\te σ H λy H1=>ti x y H1 λz H2=>D.nx (σ.set i (b_ z)) H2
theorem M5(hN:X.N.Nodup)(hi:X.N[i]?=b_ x)(hx:aV X.env.scope x)(he:PE X e te)(ho:Cu X op ti)(hf:X.fn x=e_\/X.env.scope.names.lookup x=b_ .local:=by first|exact .inl rfl|exact .inr rfl|assumption):PS X (.AugAssign (.Name x SA) op e pos) (D9 i te ti):=by
 intro pins s σ H D I h;obtain⟨v,e1,h⟩:=h;obtain⟨m,hn,hl⟩:=I.loc;have vis:Yd X.env.scope x:=by rcases hx with k|k;exact .inl k;exact .inr (.inl k)
 obtain⟨u,r,l⟩:=hl i x v hi e1 vis;refine wpAny_AugAssign_Name ?_;have go:o_ ↑n X.A (x_ e X.env) (λw s₂=>o_ ↑n X.A (inplaceOp op u w) (λr s₃=>o_ ↑n X.A (storeName X.env x r) (λ_=>SP X pins D .next) X.xe s₃) X.xe s₂) X.xe s:=by refine jk (he pins s σ H _ I h) λw s1⟨y,H1,I1,r1,q1⟩=>?_;refine jk (ho pins s1 σ H1 v y u w _ I1 r r1 q1) λz s2⟨zv,H2,I2,r2,q2⟩=>?_;exact uC I2 hN hi hx r2 (λs3 I3=>⟨_,H2,I3,q2⟩) hf
 rcases l with⟨hk,hm⟩|⟨hk,c,hc,hcell⟩;·exact wpAny_loadName_local I.ok.kind hk hn hm go
 ·rcases hk with hk|hk;·exact wpAny_loadName_cell I.ok.kind hk hc hcell go
  ·rcases hx with k|k;·have:X.env.scope.names.lookup x=b_ .free:=hk;rw[k]at this;cases this
   ·have:X.env.scope.names.lookup x=b_ .free:=hk;rw[k]at this;cases this
end
section
variable{X:Cx}{pos:Pos}
def M6(c:TT)(tb:TS):TS:=λD σ H=>∃W:Nat->St->Hp->Prop,(∃m,W m σ H)/\∀m σ H,W m σ H->c σ H λb H1=>if b=e_ then∃N:St->Hp->Prop,(∀σ' H',N σ' H'->∃m',m'<m/\W m' σ' H')/\tb {D with nx:=N,ct:=N,bk:=D.nx} σ H1 else D.nx σ H1
theorem K7(hp:Rk ↑n X.A X.env X.xe)(hc:PT X c tc)(hb:oF X body tb):PS X (.While c body [] pos) (M6 tc tb):=by intro pins s σ H D I h;obtain⟨W,⟨m0,w0⟩,turn⟩:=h;refine wpAny_While (codeAny_whileLoop (λn s'=>∃σ' H',zu X pins σ' H' s'/\W n σ' H') ?_ m0 ⟨σ,H,I,w0⟩);rintro n s1⟨σ1,H1,I1,w1⟩;refine Fw hp (jk (hc pins s1 σ1 H1 _ I1 (turn n σ1 H1 w1)) λb s2⟨H2,I2,q2⟩=>?_);cases b with
 |true=>obtain⟨N,hN,q2⟩:=q2;rw[if_pos rfl];refine Fw hp (jk (hb pins s2 σ1 H2 _ I2 q2) λf s3 q3=>?_);cases f with|next=>obtain⟨σ3,H3,I3,n3⟩:=q3;obtain⟨m',hm,w3⟩:=hN σ3 H3 n3;exact⟨m',hm,σ3,H3,I3,w3⟩|cont=>obtain⟨σ3,H3,I3,n3⟩:=q3;obtain⟨m',hm,w3⟩:=hN σ3 H3 n3;exact⟨m',hm,σ3,H3,I3,w3⟩|brk=>exact q3|ret v=>exact q3
 |false=>rw[if_neg sM];exact On ⟨σ1,H2,I2,q2⟩
end
structure It where
 go:Nat->Hp->Prop
 yld:Nat->Hp->V->Hp->Prop
 stop:Nat->Hp->Prop
def uD(X:Cx)(pins:List (h_×Obj))(H:Hp)(b:h_):Prop:=H b=f_/\b≠X.env.locals/\b∉X.fs/\(b∈X.ex\/↑j<=b)/\(∀x c,X.env.cells.lookup x=b_ c->c≠b)/\∀p∈X.pn++pins,p.1≠b
def zu.fpOk(I:zu X pins σ H s)(hb:↑a<=b)(hn:H' b=f_):uD X pins H' b:=by
 refine⟨hn,Fb (sR I.lt hb),I.nofs hb,.inr (A6 I.sz hb),λx c e z=>?_,λp hp z=>?_⟩;·obtain⟨v,q⟩:=I.cell x c e;exact absurd (sR q.lt (by rw[z];exact hb)) (BQ _)
 ·exact absurd (sR (n_ (I.pin p hp).1) (by rw[z];exact hb)) (BQ _)
structure Zv(P:sN)(w:sY)(K:d_)(tg:A1)(J:It)(fp:List h_)(it:h_)(tn:Nat->w_->Prop):Prop where
 mem:it∈fp
 obj:∀i h,tn i h->∀b∈fp,∃o,h.get? b=b_ o/\∀v,o.data≠.cell v
 keep:∀i h h',tn i h->(∀b∈fp,∀o,h.get? b=b_ o->h'.get? b=b_ o)->tn i h'
 item:∀(X:Cx),X.prog=P->X.w=w->X.K=K->X.calm=e_->∀(i:Nat)(pins:List (h_×Obj))(s:l_)(σ:St)(H:Hp)(E:g_->l_->Prop),zu X pins σ H s->(∀b∈fp,uD X pins H b)->tn i s.heap->J.go i H->o_ (q_ P w) X.A (RL (.ref it)) (λr s1=>∃u,r=b_ u/\o_ (q_ P w) X.A (AB tg (.ref it) u) (λ_ s2=>∃x H',zu X pins σ H' s2/\RelV x u/\J.yld i H x H'/\tn (i+1) s2.heap/\∀b∈fp,H' b=f_) E s1) E s
 done:∀(X:Cx),X.prog=P->X.w=w->X.K=K->X.calm=e_->∀(i:Nat)(pins:List (h_×Obj))(s:l_)(σ:St)(H:Hp)(E:g_->l_->Prop),zu X pins σ H s->(∀b∈fp,uD X pins H b)->tn i s.heap->J.stop i H->o_ (q_ P w) X.A (RL (.ref it)) (λr s1=>r=f_/\zu X pins σ H s1) E s
 self:∀(A:A3)(i:Nat)(s:l_)(Q:g_->l_->Prop)(E:g_->l_->Prop),tn i s.heap->Q (.ref it) s->o_ (q_ P w) A (pyIter (.ref it)) Q E s
abbrev TI:=St->Hp->(It->Hp->Prop)->Prop
def Db(X:Cx)(pins:List (h_×Obj))(σ:St)(tg:A1)(R:It->Hp->Prop)(Ρ:g_)(s2:l_):Prop:=∃(it:h_)(fp:List h_)(tn:Nat->w_->Prop)(J:It)(H':Hp),Ρ=.ref it/\zu X pins σ H' s2/\Zv X.prog X.w X.K tg J fp it tn/\tn 0 s2.heap/\(∀b∈fp,uD X pins H' b)/\R J H'
def PI(X:Cx)(tg Sd:A1)(wi:TI):Prop:=∀(pins:List (h_×Obj))(s:l_)(σ:St)(H:Hp)(R:It->Hp->Prop),zu X pins σ H s->wi σ H R->o_ ↑n X.A (x_ Sd X.env) (λv s1=>o_ ↑n X.A (pyIter v) (Db X pins σ tg R) X.xe s1) X.xe s
def XF(ho:s.heap.get? it=b_ o)(hc:o.cls=.type n)(hd:o.data=.fields vs)(hn:["enumerate","zip","dict_itemiterator","dict_reverseitemiterator","odict_iterator","itertools.zip_longest","itertools.pairwise"].contains n=a_)(hQ:Q () s):o_ M A (AB tg (.ref it) u) Q E s:=by unfold AB;cases tg<;>first|exact i_ hQ|(cases u<;>first|exact i_ hQ|(refine c_ (wpAny_load ho ?_);rw[hc,hd];show o_ M A (if(["enumerate","zip","dict_itemiterator","dict_reverseitemiterator","odict_iterator","itertools.zip_longest","itertools.pairwise"].contains n&&vs[0]?==b_ (OL _))=e_ then _ else _) Q E s;rw[if_neg (by intro h;rw[hn,Bool.false_and]at h;cases h)];exact i_ hQ))
def Dc(K:d_)(a:h_):It:=⟨λi H=>∃xs x,lu K H a xs/\xs[i]?=b_ x,λi H x H'=>H'=H/\∀xs,lu K H a xs->xs[i]?=b_ x,λi H=>∃xs,lu K H a xs/\↑e<=i⟩
def Dd(K:d_)(a:h_):It:=⟨λi H=>∃xs x,lq K H a xs/\xs[i]?=b_ x,λi H x H'=>H'=H/\∀xs,lq K H a xs->xs[i]?=b_ x,λi H=>∃xs,lq K H a xs/\↑e<=i⟩
def EF(lo:Int)(n:Nat):It:=⟨λi _=>i<n,λi H x H'=>H'=H/\x=.int (lo+i),λi _=>n<=i⟩
def WK{P:sN}{w:sY}{K:d_}{tg:A1}(a it:h_):Zv P w K tg (Dc K a) [it] it (λi h=>h.IsListIter it a i)where
 mem:=by simp
 obj:=λi h st b hb=>by
  have e:b=it:=by simpa using hb
  subst e;obtain⟨o,e,c,d⟩:=st;exact⟨o,e,λv z=>by rw[d]at z;cases z⟩
 keep:=λi h h' st k=>st.at λo e=>k it ↑G o e;item:=by intro X hP hw hK hc i pins s σ H E I hf st hg;subst hP hw hK;obtain⟨xs,x,hq,hx⟩:=hg;obtain⟨its,rv,p,hz⟩:=I.list hq;obtain⟨u,hu,ru⟩:=rv.get hx;obtain⟨f0,f1,f2,f3,f4,f5⟩:=hf it ↑G;refine wpAny_pyNext_list_item st p.isList (x:=u) (by simpa using hu) λh' st' sb=>?_;have I1:zu X pins σ H {s with heap:=h'}:=I.turned (t':=s.toks) (λb o hb e=>(sb.2 b hb).trans e) f0 f1 f3 f4 f5;obtain⟨o,e,c,d⟩:=id st';exact⟨u,rfl,XF (s:={s with heap:=h'}) e c d ↑o ⟨x,H,I1,ru,⟨rfl,λys hy=>by rw[I.list_inj hy hq];exact hx⟩,st',λb hb=>(hf b hb).1⟩⟩
 done:=by intro X hP hw hK hc i pins s σ H E I hf st hg;subst hP hw hK;obtain⟨xs,hq,hx⟩:=hg;obtain⟨its,rv,p,hz⟩:=I.list hq;obtain⟨f0,f1,f2,f3,f4,f5⟩:=hf it ↑G;have hl:=rv.length;exact wpAny_pyNext_list_end (I.ok.hd hc) st p.isList (by simp;omega) λh' eb=>⟨rfl,I.turned (t':=s.toks) (λb o hb e=>eb b o hb e) f0 f1 f3 f4 f5⟩
 self:=λ_ _ _ _ _ st h=>wpAny_pyIter_listiter st h
def Yo{P:sN}{w:sY}{K:d_}{tg:A1}(a it:h_):Zv P w K tg (Dd K a) [it] it (λi h=>h.IsTupleIter it a i)where
 mem:=by simp
 obj:=λi h st b hb=>by
  have e:b=it:=by simpa using hb
  subst e;obtain⟨o,e,c,d⟩:=st;exact⟨o,e,λv z=>by rw[d]at z;cases z⟩
 keep:=λi h h' st k=>st.at λo e=>k it ↑G o e;item:=by intro X hP hw hK hc i pins s σ H E I hf st hg;subst hP hw hK;obtain⟨xs,x,hq,hx⟩:=hg;obtain⟨its,rv,p,hz⟩:=I.tuple hq;obtain⟨u,hu,ru⟩:=rv.get hx;obtain⟨f0,f1,f2,f3,f4,f5⟩:=hf it ↑G;refine wpAny_pyNext_tuple_item st (show s.heap.IsTuple a its.toArray from p) (x:=u) (by simpa using hu) λh' st' sb=>?_;have I1:zu X pins σ H {s with heap:=h'}:=I.turned (t':=s.toks) (λb o hb e=>(sb.2 b hb).trans e) f0 f1 f3 f4 f5;obtain⟨o,e,c,d⟩:=id st';exact⟨u,rfl,XF (s:={s with heap:=h'}) e c d ↑o ⟨x,H,I1,ru,⟨rfl,λys hy=>by rw[I.tuple_inj hy hq];exact hx⟩,st',λb hb=>(hf b hb).1⟩⟩
 done:=by intro X hP hw hK hc i pins s σ H E I hf st hg;subst hP hw hK;obtain⟨xs,hq,hx⟩:=hg;obtain⟨its,rv,p,hz⟩:=I.tuple hq;obtain⟨f0,f1,f2,f3,f4,f5⟩:=hf it ↑G;have hl:=rv.length;exact wpAny_pyNext_tuple_end (I.ok.hd hc) st (show s.heap.IsTuple a its.toArray from p) (by simp;omega) λh' eb=>⟨rfl,I.turned (t':=s.toks) (λb o hb e=>eb b o hb e) f0 f1 f3 f4 f5⟩
 self:=λ_ _ _ _ _ st h=>wpAny_pyIter_tupleiter st h
def Yp{P:sN}{w:sY}{K:d_}{tg:A1}(it:h_)(lo:Int)(n:Nat):Zv P w K tg (EF lo n) [it] it (λi h=>IsRangeIter h it (lo+(i:Nat)*1) ((n:Int)-(i:Nat)) 1)where
 mem:=by simp
 obj:=λi h st b hb=>by
  have e:b=it:=by simpa using hb
  subst e;exact⟨_,st,λv z=>by have z':Data.fields _=Data.cell v:=z;cases z'⟩
 keep:=λi h h' st k=>k it ↑G _ st;item:=by intro X hP hw hK hc i pins s σ H E I hf st hg;subst hP hw hK;obtain⟨f0,f1,f2,f3,f4,f5⟩:=hf it ↑G;have W:=Walks.range (prog:=X.prog) (w:=X.w) (I.ok.hd hc) it lo 1 n;refine W.item i s _ _ hg st λv h' tk hv st' kk=>?_;obtain⟨t,rfl⟩:=hv;have I1:zu X pins σ H {s with heap:=h',toks:=tk}:=I.turned (λb o hb e=>kk b o (by simpa using hb) e) f0 f1 f3 f4 f5;refine⟨_,rfl,XF (s:={s with heap:=h',toks:=tk}) (n:="range_iterator") st' rfl rfl ↑o ⟨.int (lo+i),H,I1,⟨t,?_⟩,⟨rfl,rfl⟩,st',λb hb=>(hf b hb).1⟩⟩;rw[Int.mul_one]
 done:=by intro X hP hw hK hc i pins s σ H E I hf st hg;subst hP hw hK;obtain⟨f0,f1,f2,f3,f4,f5⟩:=hf it ↑G;exact wpAny_pyNext_range_end (I.ok.hd hc) st (by have:n<=i:=hg;omega) λh' eb=>⟨rfl,I.turned (t':=s.toks) (λb o hb e=>eb b o hb e) f0 f1 f3 f4 f5⟩
 self:=λ_ _ _ _ _ st h=>wpAny_pyIter_rangeiter st h
section
variable{X:Cx}{tg:A1}
def N3(K:d_)(tl:TE):TI:=λσ H R=>tl σ H λx H1=>∃a,x=.ref a/\(∃xs,lu K H1 a xs)/\R (Dc K a) H1
def IV(K:d_)(tl:TE):TI:=λσ H R=>tl σ H λx H1=>∃a,x=.ref a/\(∃xs,lq K H1 a xs)/\R (Dd K a) H1
theorem GU{l:A1}{tl:TE}(hl:PE X l tl):PI X tg l (N3 X.K tl):=by
 intro pins s σ H R I h;refine jk (hl pins s σ H _ I h) λv s1⟨x,H1,I1,r1,q1⟩=>?_;obtain⟨a,e,⟨xs,hq⟩,q⟩:=q1;subst e;cases r1;obtain⟨its,rv,p,hz⟩:=I1.list hq;refine L_ p.isList ?_;refine⟨↑b,[↑b],_,_,H1,rfl,I1.kept (t':=s1.toks) λb o e=>f' _ e,WK a _,⟨_,sf _ rfl,rfl,rfl⟩,λb hb=>?_,q⟩;have e:b=↑b:=by simpa using hb
 subst e;exact I1.fpOk (r_ _) (I1.hok.fresh (r_ _))
theorem M7{l:A1}{tl:TE}(hl:PE X l tl):PI X tg l (IV X.K tl):=by
 intro pins s σ H R I h;refine jk (hl pins s σ H _ I h) λv s1⟨x,H1,I1,r1,q1⟩=>?_;obtain⟨a,e,⟨xs,hq⟩,q⟩:=q1;subst e;cases r1;obtain⟨its,rv,p,hz⟩:=I1.tuple hq;refine wpAny_pyIter_tuple (show s1.heap.IsTuple a its.toArray from p) ?_;refine⟨↑b,[↑b],_,_,H1,rfl,I1.kept (t':=s1.toks) λb o e=>f' _ e,Yo a _,⟨_,sf _ rfl,rfl,rfl⟩,λb hb=>?_,q⟩;have e:b=↑b:=by simpa using hb
 subst e;exact I1.fpOk (r_ _) (I1.hok.fresh (r_ _))
theorem K8{pins:List (h_×Obj)}{σ:St}{H:Hp}{s:l_}{R:It->Hp->Prop}{E:g_->l_->Prop}{lo hi:Int}{t u v:Tok}{tk:Nat}(I:zu X pins σ H s)(h1:-(2^62)<=lo)(h2:lo<2^62)(h3:-(2^62)<=hi)(h4:hi<2^62)(q:R (EF lo (hi-lo).toNat) H):o_ ↑n X.A (pyIter (.ref ↑a)) (Db X pins σ tg R) E {s with heap:=s.heap.push {cls:=.type "range",data:=.fields #[.int lo t,.int hi u,.int 1 v]},toks:=tk}:=by
 refine wpAny_pyIter_range (IsRange.new ..) (small_one h1 h2 h3 h4) ?_;have I1:zu X pins σ H {s with heap:=s.heap.push {cls:=.type "range",data:=.fields #[.int lo t,.int hi u,.int 1 v]},toks:=tk}:=I.kept λb o e=>f' _ e;refine⟨(s.heap.push {cls:=.type "range",data:=.fields #[.int lo t,.int hi u,.int 1 v]}).objs.size,[(s.heap.push {cls:=.type "range",data:=.fields #[.int lo t,.int hi u,.int 1 v]}).objs.size],_,_,H,rfl,I1.kept (t':=tk) λb o e=>f' _ e,Yp _ lo (hi-lo).toNat,?_,λb hb=>?_,q⟩
 ·have e1:lo+((0:Nat):Int)*1=lo:=by simp
  have e2:(((hi-lo).toNat:Nat):Int)-((0:Nat):Int)=BL.Range.rangeSize lo hi 1:=by rw[rangeSize_one];split<;>omega
  show IsRangeIter _ _ (lo+((0:Nat):Int)*1) ((((hi-lo).toNat:Nat):Int)-((0:Nat):Int)) 1;rw[e1,e2];exact sf _ rfl
 ·have e:b=(s.heap.push {cls:=.type "range",data:=.fields #[.int lo t,.int hi u,.int 1 v]}).objs.size:=by simpa using hb
  subst e;exact I1.fpOk (r_ _) (I1.hok.fresh (r_ _))
def IW(ta:TA):TI:=λσ H R=>ta σ H λvs H1=>∃j:Int,vs=[.int j]/\-(2^62)<=j/\j<2^62/\R (EF 0 j.toNat) H1
theorem aW{a:A1}{ta:TA}{p pos:Pos}(hg:Gl X "range")(hm:X.mg "range"=f_)(ha:PA X [a] ta)(hs:p_ [a] X.env=[(a_,x_ a X.env)]:=by rfl):PI X tg (.Call (.Name "range" p) [a] [] pos) (IW ta):=by intro pins s σ H R I h;refine Call_ (fu I hg hm boot_range (Am (jk (ha pos pins s σ H _ I h) λus s1⟨vs,H1,I1,r1,q1⟩=>?_) hs rfl));obtain⟨j,e,q1,q2,q⟩:=q1;subst e;cases r1 with|cons r rr=>cases rr;obtain⟨t,rfl⟩:=r;exact call_range_1 (K8 I1 ↑p ↑p q1 q2 (by simpa using q))
def M8(wi:TI)(g:TG)(tb:TS):TS:=λD σ H=>wi σ H λJ H1=>∃W:Nat->Nat->St->Hp->Prop,(∃m,W 0 m σ H1)/\∀i m σ H,W i m σ H->(J.stop i H/\D.nx σ H)\/(J.go i H/\∃N:St->Hp->Prop,(∀σ' H',N σ' H'->∃m',m'<m/\W (i+1) m' σ' H')/\∀x H',J.yld i H x H'->g x σ H' λσ2 H2=>tb {D with nx:=N,ct:=N,bk:=D.nx} σ2 H2)
def iF(fp:List h_)(h:w_):List (h_×Obj):=fp.filterMap λb=>(h.get? b).map λo=>(b,o)
theorem xU(hb:b∈fp)(e:h.get? b=b_ o):(b,o)∈iF fp h:=Rn.mpr ⟨b,hb,by rw[e];rfl⟩
theorem WL(hp:p∈iF fp h):p.1∈fp/\h.get? p.1=b_ p.2:=by obtain⟨b,hb,e⟩:=Rn.mp hp;cases q:h.get? b with|none=>rw[q]at e;cases e|some o=>rw[q]at e;have e':(b,o)=p:=sF e;subst e';exact⟨hb,q⟩
theorem zu.pinned(I:zu X pins σ H s)(hf:∀b∈fp,uD X pins H b)(ho:∀b∈fp,∃o,s.heap.get? b=b_ o/\∀v,o.data≠.cell v):zu X (pins++iF fp s.heap) σ H s:=I.pins_of λp hp=>(sS.mp hp).elim (λz=>I.pin p (sy _ z)) λz=>by obtain⟨hb,e⟩:=WL z;obtain⟨f0,f1,f2,_⟩:=hf p.1 hb;obtain⟨o,e',d⟩:=ho p.1 hb;rw[e]at e';cases e';exact⟨e,f0,f1,f2,d⟩
theorem zu.unpinned(I:zu X (pins++pl) σ H s):zu X pins σ H s:=I.pins_of λp hp=>I.pin p (sy _ (A4 _ hp))
theorem oI(hp:Rk ↑n X.A X.env X.xe)(hc:X.calm=e_)(hi:PI X tg Sd wi)(hg:PG X tg g)(hb:oF X body tb)(hs:∀x,u_ Sd X.env x=pure x:=by intro _;rfl):PS X (.For tg Sd body [] pos) (M8 wi g tb):=by
 intro pins s σ H D I h;refine wpAny_For (jk (hi pins s σ H _ I h) λv s1 h1=>jk h1 λΡ s2 h2=>?_) hs;obtain⟨it,fp,tn,J,H2,e,I2,T,st2,f2,W,⟨m0,w0⟩,turn⟩:=h2;subst e--what stays e_ of the iterator's objects through the loop
 have SR:∀{H':Hp},(∀b∈fp,H' b=f_)->∀b∈fp,uD X pins H' b:=λhn b hb=>⟨hn b hb,(f2 b hb).2⟩;refine codeAny_forLoop_any (λn s'=>∃i σ' H',zu X pins σ' H' s'/\tn i s'.heap/\(∀b∈fp,H' b=f_)/\W i n σ' H') ?_ m0 ⟨0,σ,H2,I2,st2,λb hb=>(f2 b hb).1,w0⟩;rintro n s3⟨i,σ3,H3,I3,Ti,fr3,w3⟩;rcases turn i n σ3 H3 w3 with⟨stop,qn⟩|⟨go,N,hN,step⟩;·refine Fw hp (jk (T.done X rfl rfl rfl hc i pins s3 σ3 H3 X.xe I3 (SR fr3) Ti stop) λr s4⟨hr,I4⟩=>?_);subst hr;exact On ⟨σ3,H3,I4,qn⟩
 ·refine Fw hp (jk (T.item X rfl rfl rfl hc i pins s3 σ3 H3 X.xe I3 (SR fr3) Ti go) λr s4⟨u,hr,h4⟩=>?_);subst hr;refine Fw hp (jk h4 λ_ s5⟨x,H5,I5,r5,y5,st5,fr5⟩=>?_);have I5':=I5.pinned (SR fr5) (T.obj _ _ st5);refine Fw hp (jk (hg _ s5 σ3 H5 x u _ I5' r5 (step x H5 y5)) λ_ s6⟨σ6,H6,I6,q6⟩=>?_);refine Fw hp (jk (hb _ s6 σ6 H6 _ I6 q6) λf s7 q7=>?_);have again:∀{σ7:St}{H7:Hp},zu X (pins++iF fp s5.heap) σ7 H7 s7->N σ7 H7->∃m,m<n/\∃i σ' H',zu X pins σ' H' s7/\tn i s7.heap/\(∀b∈fp,H' b=f_)/\W i m σ' H':=λ{σ7 H7}I7 n7=>by obtain⟨m',hm,w7⟩:=hN σ7 H7 n7;refine⟨m',hm,i+1,σ7,H7,I7.unpinned,T.keep _ _ _ st5 λb hb o e=>(I7.pin (b,o) (sy _ (sy _ (xU hb e)))).1,λb hb=>?_,w7⟩;obtain⟨o,e,d⟩:=T.obj _ _ st5 b hb;exact(I7.pin (b,o) (sy _ (sy _ (xU hb e)))).2.1
  cases f with|next=>obtain⟨σ7,H7,I7,n7⟩:=q7;exact again I7 n7|cont=>obtain⟨σ7,H7,I7,n7⟩:=q7;exact again I7 n7|brk=>obtain⟨σ7,H7,I7,q7⟩:=q7;exact⟨σ7,H7,I7.unpinned,q7⟩|ret v=>obtain⟨x7,σ7,H7,I7,r7,q7⟩:=q7;exact⟨x7,σ7,H7,I7.unpinned,r7,q7⟩
end
abbrev R2:=V->V->Hp->VK->Prop
def qR(X:Cx)(f:g_->g_->Sem g_)(r:R2):Prop:=∀(pins:List (h_×Obj))(s:l_)(σ:St)(H:Hp)(x y:V)(v u:g_)(Q:VK),zu X pins σ H s->RelV x v->RelV y u->r x y H Q->o_ ↑n X.A (f v u) (EP X pins σ Q) X.xe s
def De(X:Cx)(f:g_->Sem g_)(r:V->Hp->VK->Prop):Prop:=∀(pins:List (h_×Obj))(s:l_)(σ:St)(H:Hp)(x:V)(v:g_)(Q:VK),zu X pins σ H s->RelV x v->r x H Q->o_ ↑n X.A (f v) (EP X pins σ Q) X.xe s
def gw(X:Cx)(f:g_)(r:List V->Hp->VK->Prop):Prop:=∀(pins:List (h_×Obj))(s:l_)(σ:St)(H:Hp)(xs:List V)(us:List g_)(Q:VK),zu X pins σ H s->zQ xs us->r xs H Q->o_ ↑n X.A (call f us) (EP X pins σ Q) X.xe s
def Df(X:Cx)(r:V->Hp->(Bool->Hp->Prop)->Prop):Prop:=∀(pins:List (h_×Obj))(s:l_)(σ:St)(H:Hp)(x:V)(v:g_)(Q:Bool->Hp->Prop),zu X pins σ H s->RelV x v->r x H Q->o_ ↑n X.A (truthy v) (TP X pins σ Q) X.xe s
def IX(r:R2)(ta tb:TE):TE:=λσ H Q=>ta σ H λx H1=>tb σ H1 λy H2=>r x y H2 Q
def B4(r:V->Hp->VK->Prop)(ta:TE):TE:=λσ H Q=>ta σ H λx H1=>r x H1 Q
def rI(C:Int->Int->Prop)(g:Int->Int->V):R2:=λx y H Q=>∃i j,x=.int i/\y=.int j/\C i j/\Q (g i j) H
def M9(g:Int->Int->V):R2:=λx y H Q=>∃i j,x=.int i/\y=.int j/\Q (g i j) H
def rU(g:Int->V):V->Hp->VK->Prop:=λx H Q=>∃i,x=.int i/\Q (g i) H
section
variable{X:Cx}{a b c:A1}{ta tb tc:TE}{pos:Pos}
theorem Ma(ha:PE X a ta)(hb:PE X b tb){pins:List (h_×Obj)}{s:l_}{σ:St}{H:Hp}{R:V->V->Hp->Prop}(I:zu X pins σ H s)(h:ta σ H λx H1=>tb σ H1 λy H2=>R x y H2){Q:g_->l_->Prop}{f:g_->g_->Sem g_}(hf:∀v u s2 x y H2,zu X pins σ H2 s2->RelV x v->RelV y u->R x y H2->o_ ↑n X.A (f v u) Q X.xe s2):o_ ↑n X.A (x_ a X.env) (λv s₁=>o_ ↑n X.A (x_ b X.env) (λu s₂=>o_ ↑n X.A (f v u) Q X.xe s₂) X.xe s₁) X.xe s:=by refine jk (ha pins s σ H _ I h) λv s1⟨x,H1,I1,r1,q1⟩=>?_;refine jk (hb pins s1 σ H1 _ I1 q1) λu s2⟨y,H2,I2,r2,q2⟩=>?_;exact hf v u s2 x y H2 I2 r1 r2 q2
theorem IY{op:Operator}{r:R2}(ho:qR X (BU op) r)(ha:PE X a ta)(hb:PE X b tb):PE X (.BinOp a op b pos) (IX r ta tb):=by intro pins s σ H Q I h;exact wpAny_BinOp (Ma ha hb I h λv u s2 x y H2 I2 rx ry q=>ho pins s2 σ H2 x y v u Q I2 rx ry q)
theorem IZ(ho:De X (unaryOp op) r)(ha:PE X a ta):PE X (.UnaryOp op a pos) (B4 r ta):=by intro pins s σ H Q I h;exact UnaryOp_ (jk (ha pins s σ H _ I h) λv s1⟨x,H1,I1,r1,q1⟩=>ho pins s1 σ H1 x v Q I1 r1 q1)
theorem Dg{f:g_->g_->Sem g_}{C:Int->Int->Prop}{g:Int->Int->Int}(rule:∀(i j:Int)(t u:Tok)(s:l_)(Q:g_->l_->Prop)(E:g_->l_->Prop),C i j->Q (.int (g i j) s.toks) {s with toks:=s.toks+1}->o_ ↑n X.A (f (.int i t) (.int j u)) Q E s):qR X f (rI C λi j=>.int (g i j)):=by intro pins s σ H x y v u Q I rx ry h;obtain⟨i,j,rfl,rfl,hc,q⟩:=h;obtain⟨t,rfl⟩:=rx;obtain⟨t',rfl⟩:=ry;exact rule i j t t' s _ _ hc ⟨.int (g i j),H,I.tok _,⟨_,rfl⟩,q⟩
theorem Ha{f:g_->g_->Sem g_}{g:Int->Int->Int}(rule:∀(i j:Int)(t u:Tok)(s:l_)(Q:g_->l_->Prop)(E:g_->l_->Prop),Q (.int (g i j) s.toks) {s with toks:=s.toks+1}->o_ ↑n X.A (f (.int i t) (.int j u)) Q E s):qR X f (M9 λi j=>.int (g i j)):=by intro pins s σ H x y v u Q I rx ry h;obtain⟨i,j,rfl,rfl,q⟩:=h;obtain⟨t,rfl⟩:=rx;obtain⟨t',rfl⟩:=ry;exact rule i j t t' s _ _ ⟨.int (g i j),H,I.tok _,⟨_,rfl⟩,q⟩
theorem Mb{f:g_->g_->Sem g_}{g:Int->Int->Bool}(rule:∀(i j:Int)(t u:Tok)(s:l_)(Q:g_->l_->Prop)(E:g_->l_->Prop),Q (.bool (g i j)) s->o_ ↑n X.A (f (.int i t) (.int j u)) Q E s):qR X f (M9 λi j=>.bl (g i j)):=by intro pins s σ H x y v u Q I rx ry h;obtain⟨i,j,rfl,rfl,q⟩:=h;obtain⟨t,rfl⟩:=rx;obtain⟨t',rfl⟩:=ry;exact rule i j t t' s _ _ ⟨.bl (g i j),H,I,rfl,q⟩
def K9(i j:Int):Prop:=0<j/\j<1073741824
def Hb(i j:Int):Prop:=0<=j/\j<=1000000/\i.natAbs<2^64
def WM(i j:Int):Prop:=(-(2^64)<i/\i<2^64)\/(-(2^64)<j/\j<2^64)
theorem WM.ok(h:WM i j):IntMulOk i j:=by
 rcases h with⟨h1,h2⟩|⟨h1,h2⟩;·exact .of_left (intBits_le_64 h1 h2)
 ·exact .of_right (intBits_le_64 h1 h2)
theorem Mc:qR X (BU .Add) (M9 λi j=>.int (i+j)):=Ha λ_ _ _ _ _ _ _ q=>add_int q
theorem Md:qR X (BU .Sub) (M9 λi j=>.int (i-j)):=Ha λ_ _ _ _ _ _ _ q=>sub_int q
theorem Me:qR X (BU .Mult) (rI WM λi j=>.int (i*j)):=Dg λ_ _ _ _ _ _ _ hc q=>mul_int q hc.ok
theorem GV:qR X (BU .FloorDiv) (rI K9 λi j=>.int (i/j)):=Dg λi j _ _ _ _ _ hc q=>by have h1:(0:Int)<j:=hc.1;have h2:j<1073741824:=hc.2;exact floordiv_int ↑p (by rw[Int.fdiv_eq_ediv_of_nonneg i ↑p];exact q) (.inl (PyProof.noPylong_small ↑p))
theorem Mf:qR X (BU .Mod) (rI (λ_ j=>0<j) λi j=>.int (i%j)):=Dg λi j _ _ _ _ _ hc q=>by have h1:(0:Int)<j:=hc;exact mod_int' ↑p (by rw[Int.fmod_eq_emod_of_nonneg i ↑p];exact q)
theorem B5{f:g_->Sem g_}{g:Int->Int}(rule:∀(i:Int)(t:Tok)(s:l_)(Q:g_->l_->Prop)(E:g_->l_->Prop),Q (.int (g i) s.toks) {s with toks:=s.toks+1}->o_ ↑n X.A (f (.int i t)) Q E s):De X f (rU λi=>.int (g i)):=by intro pins s σ H x v Q I rx h;obtain⟨i,rfl,q⟩:=h;obtain⟨t,rfl⟩:=rx;exact rule i t s _ _ ⟨.int (g i),H,I.tok _,⟨_,rfl⟩,q⟩
theorem Mg:De X (unaryOp .USub) (rU λi=>.int (-i)):=B5 λ_ _ _ _ _ q=>neg_int q
end
section
variable{X:Cx}{a b c:A1}{ta tb tc:TE}{pos:Pos}
theorem dZ(I:zu X pins σ H s)(q:Q (.bl k) H)(e:k=k'):EP X pins σ Q (.bool k') s:=by subst e;exact⟨.bl k,H,I,rfl,q⟩
theorem Hc:qR X (sX .Lt) (M9 λi j=>.bl (decide (i<j))):=Mb λ_ _ _ _ _ _ _ q=>lt_int q
theorem Hd:qR X (sX .LtE) (M9 λi j=>.bl (decide (i<=j))):=Mb λ_ _ _ _ _ _ _ q=>le_int q
theorem He:qR X (sX .Gt) (M9 λi j=>.bl (decide (j<i))):=Mb λ_ _ _ _ _ _ _ q=>gt_int q
theorem WN:qR X (sX .Lt) (λx y H Q=>∃i j,x=.str i/\y=.str j/\Q (.bl (decide (i.cps.toList<j.cps.toList))) H):=by intro pins s σ H x y v u Q I rx ry h;obtain⟨i,j,rfl,rfl,q⟩:=h;obtain⟨t,rfl⟩:=rx;obtain⟨t',rfl⟩:=ry;exact lt_str (dZ I q rfl)
theorem Mh:qR X (sX .Is) (λx y H Q=>y=.non/\Q (.bl (decide (x=.non))) H):=by intro pins s σ H x y v u Q I rx ry h;obtain⟨rfl,q⟩:=h;cases ry;refine is_none_gen (dZ I q ?_);cases x<;>first|(cases rx;rfl)|(obtain⟨t,rfl⟩:=rx;rfl)
theorem GW:qR X (sX .IsNot) (λx y H Q=>y=.non/\Q (.bl (!decide (x=.non))) H):=by intro pins s σ H x y v u Q I rx ry h;obtain⟨rfl,q⟩:=h;cases ry;refine isnot_none_gen (dZ I q ?_);cases x<;>first|(cases rx;rfl)|(obtain⟨t,rfl⟩:=rx;rfl)
theorem c6(b:A1)(h:op≠.In:=by decide)(h2:op≠.NotIn:=by decide):AY op b=a_:=by
 have e1:(op==CmpOp.In)=a_:=by cases op<;>first|rfl|exact absurd rfl h
 have e2:(op==CmpOp.NotIn)=a_:=by cases op<;>first|rfl|exact absurd rfl h2
 cases b<;>simp[AY,e1,e2]
theorem GX{op:CmpOp}{r:R2}(ho:qR X (sX op) r)(ha:PE X a ta)(hb:PE X b tb)(hm:AY op b=a_):PE X (.Compare a [op] [b] pos) (IX r ta tb):=by intro pins s σ H Q I h;exact wpAny_Compare1 (Ma ha hb I h λv u s2 x y H2 I2 rx ry q=>ho pins s2 σ H2 x y v u Q I2 rx ry q) hm
def Ka(t:TE):TT:=λσ H Q=>t σ H λx H'=>∃k,x=.bl k/\Q k H'
theorem GY(ho:qR X (sX op) r)(ha:PE X a ta)(hb:PE X b tb)(hm:AY op b=a_):PT X (.Compare a [op] [b] pos) (Ka (IX r ta tb)):=by intro pins s σ H Q I h;refine wpAny_isTrue_Compare1 (jk (ha pins s σ H _ I h) λv s1⟨x,H1,I1,r1,q1⟩=>jk (hb pins s1 σ H1 _ I1 q1) λu s2⟨y,H2,I2,r2,q2⟩=>jk (ho pins s2 σ H2 x y v u _ I2 r1 r2 q2) λc s3⟨z,H3,I3,r3,k,e,q3⟩=>?_) hm;subst e;cases r3;exact AI ⟨H3,I3,q3⟩
def Yq(r r':R2)(ta tb tc:TE):TE:=λσ H Q=>ta σ H λx H1=>tb σ H1 λy H2=>r x y H2 λz H3=>∃k,z=.bl k/\(if k=e_ then tc σ H3 λw' H4=>r' y w' H4 Q else Q (.bl a_) H3)
theorem Kb(ho:qR X (sX op) r)(SS:qR X (sX op') r')(ha:PE X a ta)(hb:PE X b tb)(hc:PE X c tc)(hm:lastMarks [op,op'] [b,c]=a_:=by with_unfolding_all rfl):PE X (.Compare a [op,op'] [b,c] pos) (Yq r r' ta tb tc):=by intro pins s σ H Q I h;refine Compare_chain (jk (ha pins s σ H _ I h) λv s1⟨x,H1,I1,r1,q1⟩=>chain_link (jk (hb pins s1 σ H1 _ I1 q1) λu s2⟨y,H2,I2,r2,q2⟩=>jk (ho pins s2 σ H2 x y v u _ I2 r1 r2 q2) λd s3⟨z,H3,I3,r3,k,e,q3⟩=>?_)) hm;subst e;cases r3;refine AI ?_;cases k with|false=>exact ite_ff ⟨.bl a_,H3,I3,rfl,q3⟩|true=>exact ite_tt (chain_last (jk (hc pins s3 σ H3 _ I3 q3) λw' s4⟨z',H4,I4,r4,q4⟩=>SS pins s4 σ H4 y z' u w' Q I4 r2 r4 q4))
theorem Kc(ho:qR X (sX op) r)(SS:qR X (sX op') r')(ha:PE X a ta)(hb:PE X b tb)(hc:PE X c tc)(hm:lastMarks [op,op'] [b,c]=a_:=by with_unfolding_all rfl):PT X (.Compare a [op,op'] [b,c] pos) (Ka (Yq r r' ta tb tc)):=by intro pins s σ H Q I h;refine isTrue_chain (jk (ha pins s σ H _ I h) λv s1⟨x,H1,I1,r1,q1⟩=>test_link (jk (hb pins s1 σ H1 _ I1 q1) λu s2⟨y,H2,I2,r2,q2⟩=>jk (ho pins s2 σ H2 x y v u _ I2 r1 r2 q2) λd s3⟨z,H3,I3,r3,k,e,q3⟩=>?_)) hm;subst e;cases r3;refine AI ?_;cases k with|false=>obtain⟨k',e',q'⟩:=q3;cases e';exact ite_ff ⟨H3,I3,q'⟩|true=>refine ite_tt (test_last (jk (hc pins s3 σ H3 _ I3 q3) λw' s4⟨z',H4,I4,r4,q4⟩=>jk (SS pins s4 σ H4 y z' u w' _ I4 r2 r4 q4) λd' s5⟨z2,H5,I5,r5,k2,e2,q5⟩=>?_));subst e2;cases r5;exact AI ⟨H5,I5,q5⟩
def Mi(K:d_)(x:V)(H:Hp)(k:Bool):Prop:=match x with|.non=>k=a_|.bl b=>k=b|.int i=>k=(i !=0)|.str y=>y.length<=j_/\k=((y.length:Int)!=0)|.byt y=>y.size<=j_/\k=((y.size:Int)!=0)|.ref p=>(∃xs,lu K H p xs/\k=!xs.isEmpty)\/(∃xs,lq K H p xs/\k=!xs.isEmpty)\/∃kvs,H p=b_ (.dK kvs)/\k=!kvs.isEmpty|_=>False
theorem Yr(r:KV kvs vs):(!vs.isEmpty)=!kvs.isEmpty:=by cases r<;>rfl
theorem c9(r:zQ xs its):(!its.toArray.isEmpty)=!xs.isEmpty:=by cases r<;>simp
theorem mH:(j_:Nat)<2^63:=by rw[Fe];decide
theorem Mj:Df X (λx H Q=>∃k,Mi X.K x H k/\Q k H):=by intro pins s σ H x v Q I rx h;obtain⟨k,e,q⟩:=h;have hl:=mH;have hs:j_=16777216:=Fe;cases x with|non=>cases rx;have e':k=a_:=e;subst e';exact truthy_none ⟨H,I,q⟩|bl b=>cases rx;have e':k=b:=e;subst e';exact AI ⟨H,I,q⟩|int i=>obtain⟨t,rfl⟩:=rx;have e':k=(i !=0):=e;subst e';exact PySem.P.truthy_int ⟨H,I,q⟩|str y=>obtain⟨t,rfl⟩:=rx;obtain⟨hy,e'⟩:y.length<=j_/\k=((y.length:Int)!=0):=e;subst e';exact PySem.P.truthy_str ↑p ⟨H,I.tok _,q⟩|byt y=>obtain⟨t,rfl⟩:=rx;obtain⟨hy,e'⟩:y.size<=j_/\k=((y.size:Int)!=0):=e;subst e';exact W.truthy_bytes ↑p ⟨H,I.tok _,q⟩|ref p=>
  cases rx;have e':(∃xs,lu X.K H p xs/\k=!xs.isEmpty)\/(∃xs,lq X.K H p xs/\k=!xs.isEmpty)\/∃kvs,H p=b_ (.dK kvs)/\k=!kvs.isEmpty:=e;rcases e' with⟨xs,hx,e'⟩|⟨xs,hx,e'⟩|⟨kvs,hx,e'⟩;·subst e';obtain⟨its,r,pl,hz⟩:=I.list hx;have hlen:=r.length;exact wpAny_truthy_list pl.isList (by simp only[sr];omega) ⟨H,I.tok _,by rw[c9 r];exact q⟩
  ·subst e';obtain⟨its,r,pl,hz⟩:=I.tuple hx;have hlen:=r.length;exact truthy_tuple pl (by simp only[sr];omega) ⟨H,I.tok _,by rw[c9 r];exact q⟩
  ·subst e';obtain⟨hz,hS,vs,r,m⟩:kvs.length<=j_/\(p==B')=a_/\∃vs,KV kvs vs/\s.heap.DictOf (zP X.prog X.w) p vs:=I.hok p _ hx;have hlen:kvs.length=↑g:=Paired.length r;exact wpAny_truthy_dict hS m ↑p ⟨H,I.tok _,by rw[Yr r];exact q⟩|_=>exact(show False from e).elim
theorem Ke(ha:PE X a ta)(he:∀SU,isTrue a X.env SU=(do let v<-SU;Re a.pos;O2 [v] (truthy v))):PT X a (λσ H Q=>ta σ H λx H'=>∃k,Mi X.K x H' k/\Q k H'):=by intro pins s σ H Q I h;exact isTrue_plain (jk (ha pins s σ H _ I h) λv s1⟨x,H1,I1,r1,q1⟩=>Mj pins s1 σ H1 x v Q I1 r1 q1) (he _)
theorem Ys:qR X (BU .Add) (λx y H Q=>∃i j,x=.str i/\y=.str j/\i.length+j.length<=j_/\Q (.str (i++j)) H):=by intro pins s σ H x y v u Q I rx ry h;obtain⟨i,j,rfl,rfl,hz,q⟩:=h;obtain⟨t,rfl⟩:=rx;obtain⟨t',rfl⟩:=ry;exact add_str (λt' tk=>⟨.str (i++j),H,I.tok _,⟨_,rfl⟩,q⟩) hz
theorem el(r:zQ [x] us):∃u,us=[u]/\RelV x u:=by cases r with|cons r1 r2=>cases r2;exact⟨_,rfl,r1⟩
theorem N4(r:zQ [x,y] us):∃u w',us=[u,w']/\RelV x u/\RelV y w':=by cases r with|cons r1 r2=>cases r2 with|cons r3 r4=>cases r4;exact⟨_,_,rfl,r1,r3⟩
theorem oJ:gw X (.type "str") (λxs H Q=>∃i,xs=[.int i]/\i.natAbs.log2<1920/\Q (.str (toString i)) H):=by intro pins s σ H xs us Q I r h;obtain⟨i,rfl,hz,q⟩:=h;obtain⟨u,rfl,t,rfl⟩:=el r;exact PySem.P.str_of_int hz ⟨.str _,H,I.tok _,⟨_,rfl⟩,q⟩
end
structure Yt(h:w_)(x dx C:h_)(mA:Str->Option g_):Prop where
 obj:h.get? x=b_ (C_ C dx)ns:h.Ns1 dx mA
 ne:dx≠x
def aX{h:w_}{dx:h_}{mA:Str->Option g_}(n:h.Ns1 dx mA):∃od,h.get? dx=b_ od/\∀name,Ro name od=b_ (mA name):=by
 obtain⟨o,es,ep,ho,hd,hk,_,hm⟩:=n;refine⟨o,ho,λname=>?_⟩;have e:=hm name;unfold nsFind findBy at e;rw[<-Array.find?_toList]at e;unfold Ro;rw[hd];dsimp only;split;·rename_i y q;rw[q]at e;exact congrArg b_ e
 ·rename_i q;rw[q]at e;have a:es.toList.any (·.refKey)=a_:=by rw[List.any_eq_false];intro y hy;obtain⟨z,t,SI⟩:=hk y (Array.mem_toList_iff.mp hy);simp[S2.refKey,SI]
  have a':¬es.toList.any (·.refKey)=e_:=by rw[a];exact sM
  rw[if_neg a'];exact congrArg b_ e
def Yt.look(I:Yt h x dx C mA):∃od,W.InstAt h x (C_ C dx) C (b_ od)/\∀name,Ro name od=b_ (mA name):=let⟨od,ho,hl⟩:=aX I.ns;⟨od,⟨I.obj,rfl,rfl,ho⟩,hl⟩
section
variable{prog:sN}{w:sY}{A:A3}{E:g_->l_->Prop}{s:l_}{K:d_}{x dx C f:h_}{mA:Str->Option g_}{name:Str}{v:g_}
theorem pN(X:K.In s.heap)(I:Yt s.heap x dx C mA)(hg:O3 K C name=e_)(hh:Oz K C=e_)(ha:As K ↑aa name=b_ f_)(hv:mA name=b_ v)(hv':W.handedIn v=e_)(h:Q v {s with toks:=s.toks+1}):o_ ↑w A (getAttr (.ref x) name Δ) Q E s:=by obtain⟨od,J,hl⟩:=I.look;exact W.get_value X J (R9 hg).1 (W.findObj_own hh ha rfl (by rw[hl,hv])) hv' h
theorem Kf(X:K.In s.heap)(I:Yt s.heap x dx C mA)(hg:O3 K C name=e_)(hf:As K ↑aa name=b_ (b_ (.ref f)))(ht:Rf K (.ref f)=e_)(hv:mA name=f_)(h:Q (.ref f,[.ref x]) s):o_ ↑w A (Rl (.ref x) name pl) Q E s:=by obtain⟨od,J,hl⟩:=I.look;exact W.method_fn X J (R9 hg).1 (R9 hg).2 hf (beq_iff_eq.mp ht) (by show(Ro name od).map (·.isSome)=b_ a_;rw[hl,hv];rfl) h
theorem GZ(X:K.In s.heap)(I:Yt s.heap x dx C mA)(hs:As K ↑aa "__setattr__"=b_ (b_ (.builtin "object.__setattr__")))(hp:RB K C=e_)(ht:W.takerIn K C name=b_ f_)(hh:Oz K C=e_)(hw:PySem.Within mA ns)(hsz:ns.length<=j_)(h:∀h',Yt h' x dx C (λy=>if y=name then b_ v else mA y)->Bx dx s.heap h'->Q () {s with heap:=h',toks:=s.toks+2}):o_ ↑w A (setAttr (.ref x) name v) Q E s:=by obtain⟨od,J,hl⟩:=I.look;refine W.set_plain X J hs (W.osa_open (s:={s with toks:=s.toks+1}) (r:=f_) X J hp ht λb=>?_);obtain⟨cd,hc,hd'⟩:=W.any_some hh;have hx:s.heap.get? x=b_ ⟨.ref C,b_ dx,.plain,#[]⟩:=I.obj;refine c_ (i_ (c_ (c_ (wpAny_loadPart hx (c_ (W.Looks.here (s:={s with toks:=s.toks+1}) (W.looks_clsIn X hc) ?_))))));rw[hd'];refine i_ (a:=b_ dx) (c_ (i_ (c_ ?_)));refine wpAny_nsSet1 (s:={s with toks:=s.toks+1}) I.ns λh' ω T9=>?_;obtain⟨oD,esD,epD,hoD,hdD,hcD⟩:=ω.count (PySem.Within.cons name v hw);refine c_ (wpAny_lookBehind hoD (by rw[hdD];exact pastItsLine_dict (A6 hcD (by rw[sA];omega))) ?_);exact i_ (h _ ⟨(T9.2 _ (AE I.ne)).trans I.obj,ω,I.ne⟩ T9)
theorem Kg(X:K.In s.heap)(hm:W.makesIn K C=e_)(hi:As K ↑aa "__init__"=b_ (b_ (.ref f)))(hf:W.typeIn K (.ref f)=b_ (.type "function"))(h:FX ↑w (A.under (.builtin "type.__call__" ⟨.ref C::vs,kw⟩)) (.call (.ref f) ⟨.ref (↑a+1)::vs,kw⟩) (W.InitBack (↑a+1) R) {s with heap:=(s.heap.push AX).push (C_ C ↑a)}):FX ↑w A (.call ↑aa ⟨vs,kw⟩) R s:=by obtain⟨hh,g,d,t,os⟩:=s;exact W.make_core (W.makes_of X hm) (W.looks_findIn X hi) (λself=>W.bind_fn X self hf) (.inl rfl) h
end
def qh(f:Str)(v:V):List (Str×V)->List (Str×V)|[]=>[(f,v)]|(g,x)::r=>if g=f then(g,v)::r else(g,x)::qh f v r
theorem em(f g:Str)(v:V):∀fs:List (Str×V),(qh f v fs).lookup g=if g=f then b_ v else fs.lookup g
 |[]=>by
  show Ff g [(f,v)]=_;by_cases h:g=f;·have hb:(g==f)=e_:=beq_iff_eq.mpr h;simp only[Ff,hb,if_pos h]
  ·have hb:(g==f)=a_:=beq_eq_false_iff_ne.mpr h;simp only[Ff,hb,if_neg h]|(k,x)::r=>by
  have ih:=em f g v r;rw[show qh f v ((k,x)::r)=(if k=f then(k,v)::r else(k,x)::qh f v r)from rfl];by_cases hk:k=f
  ·rw[if_pos hk];by_cases h:g=k;·have hb:(g==k)=e_:=beq_iff_eq.mpr h;simp only[Ff,hb,if_pos (h.trans hk)]
   ·have hb:(g==k)=a_:=beq_eq_false_iff_ne.mpr h;simp only[Ff,hb,if_neg (λe:g=f=>h (e.trans hk.symm))]
  ·rw[if_neg hk];by_cases h:g=k;·have hb:(g==k)=e_:=beq_iff_eq.mpr h;simp only[Ff,hb,if_neg (λe:g=f=>hk (h.symm.trans e))]
   ·have hb:(g==k)=a_:=beq_eq_false_iff_ne.mpr h;simp only[Ff,hb];exact ih
theorem iG(f:Str)(v:V):∀fs:List (Str×V),f∈(qh f v fs).map (·.1)/\∀g,g∈fs.map (·.1)->g∈(qh f v fs).map (·.1)
 |[]=>⟨by simp[qh],λg h=>by simp at h⟩|(k,x)::r=>by
  obtain⟨i1,i2⟩:=iG f v r;rw[show qh f v ((k,x)::r)=(if k=f then(k,v)::r else(k,x)::qh f v r)from rfl];by_cases hk:k=f;·rw[if_pos hk];subst hk;exact⟨by simp,λg h=>by simpa using h⟩
  ·rw[if_neg hk];refine⟨?_,λg h=>?_⟩;·rw[sG];exact k_ _ i1
   ·rw[sG]at h⊢;rcases sB.mp h with e|e;·exact sB.mpr (.inl e)
    ·exact k_ _ (i2 g e)
theorem eu(f:Str)(v:V):∀fs:List (Str×V),(qh f v fs).length<=fs.length+1
 |[]=>by simp[qh]|(k,x)::r=>by
  have ih:=eu f v r;rw[show qh f v ((k,x)::r)=(if k=f then(k,v)::r else(k,x)::qh f v r)from rfl];by_cases hk:k=f;·rw[if_pos hk,sA,sA];omega
  ·rw[if_neg hk,sA,sA];omega
def pf.some_of(r:pf (b_ v) o):∃u,o=b_ u/\RelV v u:=by cases o with|none=>exact(show False from r).elim|some u=>exact⟨u,rfl,r⟩
def pf.none_of(r:pf f_ o):o=f_:=by cases o with|none=>rfl|some u=>exact(show False from r).elim
def aY(r:RelV v u):W.handedIn u=e_:=by cases v with|non=>cases(show u=sZ from r);rfl|bl b=>cases(show u=g_.bool b from r);rfl|int i=>obtain⟨t,e⟩:=(show∃t,u=g_.int i t from r);cases e;rfl|str x=>obtain⟨t,e⟩:=(show∃t,u=Bz x t from r);cases e;rfl|byt b=>obtain⟨t,e⟩:=(show∃t,u=g_.bytes b t from r);cases e;rfl|flt b=>obtain⟨t,e⟩:=(show∃t,u=g_.float b t from r);cases e;rfl|ref a=>cases(show u=sE a from r);rfl|ty n=>cases(show u=Fj n from r);rfl
section
variable{P:sN}{w:sY}{H H':Hp}{h h':w_}{a C dx:h_}{fs fs':List (Str×V)}
theorem dH(hok:uA P w H h)(e:H a=b_ (.ins C dx fs)):∃mA,Yt h a dx C mA/\(∀f,pf (fs.lookup f) (mA f))/\PySem.Within mA (fs.map (·.1))/\fs.length<=1000/\H dx=b_ (.own a):=by obtain⟨d,z,ne,ob,mA,n,r,q⟩:=(show jw P w H h a (.ins C dx fs)from hok a _ e);exact⟨mA,⟨ob,n,ne⟩,r,q,z,d⟩
end
structure uB(K:d_)(C:h_):Prop where
 pg:O3 K C Str.empty=e_
 hd:Oz K C=e_
 po:RB K C=e_
 sa:As K ↑aa "__setattr__"=b_ (b_ (.builtin "object.__setattr__"))
def uB.get{K:d_}{C:h_}(c:uB K C)(f:Str):O3 K C f=e_:=c.pg
def zS(K:d_)(C:h_)(f:Str):Prop:=As K ↑aa f=b_ f_
def zS.taker{K:d_}{C:h_}{f:Str}(n:zS K C f):W.takerIn K C f=b_ f_:=by unfold W.takerIn;rw[show As K ↑aa f=b_ f_ from n];rfl
structure fw(K:d_)(C:h_)(m:Str)(f:h_):Prop where
 at_:As K ↑aa m=b_ (b_ (.ref f))fn:Rf K (.ref f)=e_
 kp:AC K (.ref f)=e_
section
variable{X:Cx}{pins:List (h_×Obj)}{σ:St}{H:Hp}{s:l_}{a C dx:h_}{fs:List (Str×V)}{f:Str}{v:V}{A:A3}{E:g_->l_->Prop}
theorem Yu(I:zu X pins σ H s)(e:H a=b_ (.ins C dx fs))(c:uB X.K C)(n:zS X.K C f)(l:fs.lookup f=b_ v)(h:∀u s',zu X pins σ H s'->RelV v u->Q u s'):o_ ↑n A (getAttr (.ref a) f b) Q E s:=by obtain⟨mA,O,r,_,_,_⟩:=dH I.hok e;obtain⟨u,hu,ru⟩:=pf.some_of (v:=v) (o:=mA f) (by rw[<-l];exact r f);exact pN I.kIn O (c.get f) c.hd n hu (aY ru) (h u _ (I.tok _) ru)
theorem Yv(I:zu X pins σ H s)(e:H a=b_ (.ins C dx fs))(c:uB X.K C)(k:fw X.K C m g)(l:fs.lookup m=f_)(h:Q (.ref g,[.ref a]) s):o_ ↑n A (Rl (.ref a) m pl) Q E s:=by obtain⟨mA,O,r,_,_,_⟩:=dH I.hok e;have hn:mA m=f_:=pf.none_of (by rw[<-l];exact r m);exact Kf I.kIn O (c.get m) k.at_ k.fn hn h
theorem Yw(I:zu X pins σ H s)(e:H a=b_ (.ins C dx fs))(c:uB X.K C)(n:zS X.K C f)(hl:fs.length<1000)(ry:RelV y u)(h:∀s',zu X pins σ (zO H a (.ins C dx (qh f y fs))) s'->Q () s'):o_ ↑n A (setAttr (.ref a) f u) Q E s:=by
 obtain⟨mA,O,r,wi,_,ho⟩:=dH I.hok e;have hz:(fs.map (·.1)).length<=j_:=by rw[j',Fe];omega
 refine GZ I.kIn O c.sa c.po n.taker c.hd wi hz λh' O' sb=>h _ ?_;have hd:∃o,h'.get? dx=b_ o:=let⟨o,_,_,e',_⟩:=O'.ns;⟨o,e'⟩;refine I.write (x:=a) (e:=dx) (by rw[e];exact D_) (.inr ho) (λb q hb z=>(sb.2 b hb).trans z) hd ?_;refine⟨by rw[zg O.ne];exact ho,?_,O.ne,O'.obj,_,O'.ns,λg=>?_,λg hg=>?_⟩;·have:=eu f y fs;omega
 ·show pf ((qh f y fs).lookup g) (if g=f then b_ u else mA g);rw[em];by_cases q:g=f;·rw[if_pos q,if_pos q];exact ry
  ·rw[if_neg q,if_neg q];exact r g
 ·by_cases q:g=f;·rw[q];exact(iG f y fs).1
  ·refine(iG f y fs).2 g (wi g λz=>hg ?_);show(if g=f then b_ u else mA g)=f_;rw[if_neg q];exact z
theorem zu.made(I:zu X pins σ H s):zu X pins σ (zO (zO H ↑a (.own (↑a+1))) (↑a+1) (.ins C ↑a [])) {s with heap:=(s.heap.push AX).push (C_ C ↑a)}:=by
 have e1:(s.heap.push AX).get? ↑a=b_ AX:=sf s.heap rfl;have e2:((s.heap.push AX).push (C_ C ↑a)).get? (↑a+1)=b_ (C_ C ↑a):=by have:=sf (s.heap.push AX) (o:=C_ C ↑a) rfl;rwa[At]at this
 have e3:(s.heap.push AX).Ns ↑a (λ_=>f_):=⟨AX,#[],_,e1,rfl,(λe he=>absurd he ↑G),λ_=>rfl⟩;have I1:=I.laid (a:=↑a) (o:=.own (↑a+1)) (h':=s.heap.push AX) (t':=s.toks) (λb u q=>f' _ q) (r_ _) ⟨_,e1⟩;refine I1.laid (a:=↑a+1) (o:=.ins C ↑a []) (t':=s.toks) (λb u q=>f' _ q) (OA (At _ _)) ?_;have ne:↑a≠↑a+1:=su (FJ _);refine⟨by rw[zg ne,zm],A5 _,ne,e2,λ_=>f_,(w_.Ns1.of_empty e3).at λo q=>f' _ q,λ_=>D_,λy hy=>absurd rfl hy⟩
theorem XG(hb:AZ e f env (x_ e env)=x_ e env)(h:o_ ↑w A (x_ e env) (λo s₁=>o_ ↑w A (getAttr o f e_) Q E s₁) E s):o_ ↑w A (x_ (.Attribute e f pos) env) Q E s:=Attribute_any_ h (by rw[arm_eval_Attribute,hb])
end
def Yx(K:d_)(ta:TE)(f:Str):TE:=λσ H Q=>ta σ H λx H1=>∃a C dx fs v,x=.ref a/\H1 a=b_ (.ins C dx fs)/\uB K C/\zS K C f/\fs.lookup f=b_ v/\Q v H1
def P1(K:d_)(ta tv:TE)(f:Str):TS:=λD σ H=>tv σ H λy H1=>ta σ H1 λx H2=>∃a C dx fs,x=.ref a/\H2 a=b_ (.ins C dx fs)/\uB K C/\zS K C f/\fs.length<1000/\D.nx σ (zO H2 a (.ins C dx (qh f y fs)))
section
variable{X:Cx}{o e value:A1}{f:Str}{pos SA tpos:Pos}{ta tv:TE}
theorem Yy(he:PE X e ta)(hb:AZ e f X.env (x_ e X.env)=x_ e X.env):PE X (.Attribute e f pos) (Yx X.K ta f):=by intro pins s σ H Q I h;refine XG hb (jk (he pins s σ H _ I h) λu s1⟨x,H1,I1,rx,a,C,dx,fs,v,ex,ea,c,n,l,q⟩=>?_);subst ex;obtain rfl:u=sE a:=rx;exact Yu I1 ea c n l λu' s2 I2 ru=>⟨v,H1,I2,ru,q⟩
theorem Yz(ha:PE X o ta)(hv:PE X value tv)(hs:BA value (b_ (.Attribute o f SA)) pos.line X.env=pure a_):PS X (.Assign [.Attribute o f SA] value pos) (P1 X.K ta tv f):=by intro pins s σ H D I h;refine OI (jk (hv pins s σ H _ I h) λu s1⟨y,H1,I1,ry,q⟩=>jk (ha pins s1 σ H1 _ I1 q) λov s2⟨x,H2,I2,rx,a,C,dx,fs,ex,ea,c,n,l,q2⟩=>?_) hs;subst ex;obtain rfl:ov=sE a:=rx;exact Yw I2 ea c n l ry λs3 I3=>⟨σ,_,I3,q2⟩
end
section
variable{X:Cx}{pins:List (h_×Obj)}{σ:St}{H:Hp}{s:l_}{A:A3}{E:g_->l_->Prop}{Q:g_->l_->Prop}{c:g_}{b:Bool}
inductive iH(K:d_)(H:Hp):V->g_->Prop where|non:iH K H .non (.type "NoneType")|bl(x:Bool):iH K H (.bl x) (.type "bool")|int(i:Int):iH K H (.int i) (.type "int")|str(x:Str):iH K H (.str x) (.type "str")|flt(x:UInt64):iH K H (.flt x) (.type "float")|lst{a:h_}{xs:List V}(e:H a=b_ (.lst xs)):iH K H (.ref a) (.type "list")|frz{a:h_}{o:Obj}{xs:List V}(e:H a=b_ (.frz o (.lst xs))):iH K H (.ref a) (.type "list")|tup{a:h_}{xs:List V}(e:H a=b_ (.tup xs)):iH K H (.ref a) (.type "tuple")|dK{a:h_}{kvs:List (Key×V)}(e:H a=b_ (.dK kvs)):iH K H (.ref a) (.type "dict")|dT{a:h_}{kvs:List (List Key×V)}(e:H a=b_ (.dT kvs)):iH K H (.ref a) (.type "dict")|ins{a C dx:h_}{fs:List (Str×V)}(e:H a=b_ (.ins C dx fs))(cl:uB K C)(ha:As K ↑aa "__class__"=b_ (b_ ↑ac))(hn:RD K ↑ac "__get__"=b_ (b_ (.builtin "getset_descriptor.__get__")))(htk:W.takesIn K ↑ac=b_ e_)(hm:W.mroIn K C (.type "object")=b_ e_):iH K H (.ref a) ↑aa
theorem WP(I:zu X pins σ H s)(rx:RelV x u)(ty:iH X.K H x t)(e:BV X.K t c=b_ b)(h:∀tk,Q (.bool b) {s with toks:=tk}):o_ ↑n A (call (.builtin "isinstance") [u,c]) Q E s:=by cases ty with|non=>cases(show u=sZ from rx);exact Ar W.kitx_none I.kIn D_ e (λz=>nomatch z) h|bl y=>cases(show u=g_.bool y from rx);exact Ar W.kitx_bool I.kIn D_ e (λz=>nomatch z) h|int i=>obtain⟨t,q⟩:=(show∃t,u=g_.int i t from rx);cases q;exact Ar W.kitx_int I.kIn D_ e (λz=>nomatch z) h|str y=>obtain⟨t,q⟩:=(show∃t,u=Bz y t from rx);cases q;exact Ar W.kitx_str I.kIn D_ e (λz=>nomatch z) h|flt y=>obtain⟨t,q⟩:=(show∃t,u=g_.float y t from rx);cases q;exact Ar W.kitx_float I.kIn D_ e (λz=>nomatch z) h|@lst a xs ea=>cases(show u=sE a from rx);obtain⟨_,_,n,_,h1⟩:=(show jw X.prog X.w H s.heap a (.lst xs)from I.hok a _ ea);exact Ar RG I.kIn ⟨_,h1,rfl⟩ e (λz=>nomatch z) h|@frz a ob xs ea=>cases(show u=sE a from rx);obtain⟨_,_,_,n,_,h1⟩:=(show jw X.prog X.w H s.heap a (.frz ob (.lst xs))from I.hok a _ ea);exact Ar RG I.kIn ⟨_,h1,rfl⟩ e (λz=>nomatch z) h|@tup a xs ea=>cases(show u=sE a from rx);obtain⟨_,_,_,p⟩:=(show jw X.prog X.w H s.heap a (.tup xs)from I.hok a _ ea);obtain⟨o,h1,h2,_⟩:=p;exact Ar W.kitx_tuple I.kIn ⟨o,h1,h2⟩ e (λz=>nomatch z) h|@dK a kvs ea=>cases(show u=sE a from rx);obtain⟨_,_,vs,_,p⟩:=(show jw X.prog X.w H s.heap a (.dK kvs)from I.hok a _ ea);obtain⟨o,es,ep,h1,h2,_⟩:=p;exact Ar W.kitx_dict I.kIn ⟨o,h1,h2.1⟩ e (λz=>nomatch z) h|@dT a kvs ea=>cases(show u=sE a from rx);obtain⟨_,_,xs,_,o,es,ep,h1,h2,_⟩:=(show jw X.prog X.w H s.heap a (.dT kvs)from I.hok a _ ea);exact Ar W.kitx_dict I.kIn ⟨o,h1,h2.1⟩ e (λz=>nomatch z) h|@ins a C dx fs ea cl ha hn htk hm=>cases(show u=sE a from rx);obtain⟨mA,O,_⟩:=dH I.hok ea;obtain⟨od,J,_⟩:=O.look;exact Ar (W.kitx_own (cl.get _) cl.hd ha hn htk hm) I.kIn J e (λz=>nomatch z) h
end
structure jT(k:Nat)(A:A3):Prop where
 hd:A.handled=f_
 dp:A.depth+3*k+5<recursionLimit
 un:A.units+16*k+200<Fk
def jT.mono(r:jT k A)(h:j<=k):jT j A:=⟨r.hd,by have:=r.dp;omega,by have:=r.un;omega⟩
def jT.deeper(r:jT (k+1) A)(env:Env):jT k (A.deeper env):=⟨r.hd,by have:=r.dp;show A.depth+1+3*k+5<_;omega,by have:=r.un;show A.units+3+16*k+200<_;omega⟩
def YA{A:A3}{C:h_}{us:List g_}{kw:List (Str×g_)}:(A.under (.builtin "type.__call__" ⟨.ref C::us,kw⟩)).depth=A.depth+1:=by first|rfl|simp[A3.under,Code.weight,Code.isCreation,Code.isGuard,Code.isCaller,Code.frames,Code.isFrame,guardIds]
def YB{A:A3}{C:h_}{us:List g_}{kw:List (Str×g_)}:(A.under (.builtin "type.__call__" ⟨.ref C::us,kw⟩)).units=A.units+1:=by first|rfl|simp[A3.under,Code.cUnits,Code.frames,Code.isFrame]
def jT.make(r:jT (k+1) A)(C:h_)(us:List g_)(kw:List (Str×g_)):jT k (A.under (.builtin "type.__call__" ⟨.ref C::us,kw⟩)):=⟨r.hd,by have:=r.dp;rw[YA];omega,by have:=r.un;rw[YB];omega⟩
def jT.depth(r:jT k A):A.depth<recursionLimit:=by have:=r.dp;omega
def jT.units(r:jT k A):A.units+64<Fk:=by have:=r.un;omega
def P7:TA:=λ_ H Q=>Q [] H
def XH(ta:TE)(tr:TA):TA:=λσ H Q=>ta σ H λx H1=>tr σ H1 λxs H2=>Q (x::xs) H2
section
variable{X:Cx}{e:A1}{es:List A1}{te:TE}{t:TA}{pos:Pos}
theorem kC:PA X [] P7:=λ_ _ _ _ H Q I h=>RI ⟨[],H,I,.nil,h⟩
theorem jY(ha:PE X e te)(hr:PA X es t)(hs:p_ (e::es) X.env=↑ae::p_ es X.env:=by rfl):PA X (e::es) (XH te t):=by intro pos pins s σ H Q I h;rw[hs];show o_ _ _ (Om (↑ae::AT pos (p_ es X.env))) _ _ s;refine AN (jk (ha pins s σ H _ I h) λu s1⟨x,H1,I1,r1,q1⟩=>?_);exact jk (hr pos pins s1 σ H1 _ I1 q1) λus s2⟨xs,H2,I2,r2,q2⟩=>⟨x::xs,H2,I2,.cons r1 r2,q2⟩
def Dh(t:TA):TE:=λσ H Q=>t σ H λxs H1=>↑e<=j_/\∀p,H1 p=f_->Q (.ref p) (zO H1 p (.tup xs))
def Di(t:TA):TE:=λσ H Q=>t σ H λxs H1=>↑e<=j_/\∀p,H1 p=f_->Q (.ref p) (zO H1 p (.lst xs))
theorem Ml{x1}(h:PA X es t):PE X (.Tuple es x1 pos) (Dh t):=by intro pins s σ H Q I hq;refine wpAny_Tuple_spliced (jk (h pos pins s σ H _ I hq) λus s1⟨xs,H1,I1,r,z,q⟩=>⟨by rw[<-r.length];exact z,?_⟩);have hf:H1 ↑b=f_:=I1.hok.fresh (r_ _);refine⟨.ref ↑b,zO H1 ↑b (.tup xs),I1.laid (t':=s1.toks) (λb u e=>f' _ e) (r_ _) ?_,rfl,q _ hf⟩;exact⟨z,us,r,⟨_,sf _ rfl,rfl,_,rfl⟩⟩
theorem Mm(h:PA X es t):PE X (.List es pos) (Di t):=by intro pins s σ H Q I hq;refine wpAny_List_spliced (jk (h pos pins s σ H _ I hq) λus s1⟨xs,H1,I1,r,z,q⟩=>⟨by rw[<-r.length];exact z,?_⟩);have hf:H1 ↑b=f_:=I1.hok.fresh (r_ _);refine⟨.ref ↑b,zO H1 ↑b (.lst xs),I1.laid (t':=s1.toks) (λb u e=>f' _ e) (r_ _) ?_,rfl,q _ hf⟩;exact⟨z,us,0,r,sf _ rfl⟩
end
abbrev Sp:=List V->Hp->VK->XK->Prop
abbrev VT:=List Env->Hp->l_->XK->g_->l_->Prop
structure Zw(P:sN)(w:sY)(K:d_)(mg:Str->Option g_)(base:w_)(A:A3)(outer:List Env)(s:l_)(H:Hp):Prop where
 frames:A.frames=b_ outer
 mod:Mod K mg base
 bs:∀b o,base.get? b=b_ o->s.heap.get? b=b_ o/\H b=f_
 bsz:base.objs.size<=↑a
 funs:s.heap.FunFrames base outer
 frf:∀b∈dE outer,H b=f_
 tab:H tabP=b_ Yl
 hok:uA P w H s.heap
 bare:Rc s.gens
def CE(outer:List Env)(P:sN)(w:sY)(H:Hp)(s:l_)(Q:VK)(u:g_)(s':l_):Prop:=∃v H',s'.os=s.os/\Rc s'.gens/\Un (dE outer) [] H H' s.heap s'.heap/\uA P w H' s'.heap/\RelV v u/\Q v H'
def CR(CX:VT)(outer:List Env)(P:sN)(w:sY)(H:Hp)(s:l_)(Q:VK)(E:XK)(r:Result)(s':l_):Prop:=match r with|.ok (.ret u)=>CE outer P w H s Q u s'|.ok _=>False|.error e=>CX outer H s E e s'
structure kg(P:sN)(w:sY)(K:d_)(mg:Str->Option g_)(base:w_)(CX:VT)(k:Nat)(f:h_)(fd:Fy)(ps:List Str)(sp:Sp):Prop where
 len:∀vs H Q E,sp vs H Q E->↑g=↑l
 run:∀(A:A3)(outer:List Env)(s:l_)(H:Hp)(args:Args)(us:List g_)(vs:List V)(Q:VK)(E:XK),jT k A->Zw P w K mg base A outer s H->BindsTo s fd args (ps.zip us)->zQ vs us->sp vs H Q E->FX (q_ P w) A (.call (.ref f) args) (CR CX outer P w H s Q E) s
def kg.mono{P:sN}{w:sY}{K:d_}{mg:Str->Option g_}{base:w_}{CX:VT}{j k:Nat}{f:h_}{fd:Fy}{ps:List Str}{sp:Sp}(F:kg P w K mg base CX j f fd ps sp)(h:j<=k):kg P w K mg base CX k f fd ps sp:=⟨F.len,λA outer s H args us vs Q E hr=>F.run A outer s H args us vs Q E (hr.mono h)⟩
def kg.imp{P:sN}{w:sY}{K:d_}{mg:Str->Option g_}{base:w_}{CX:VT}{k:Nat}{f:h_}{fd:Fy}{ps:List Str}{sp sp':Sp}(F:kg P w K mg base CX k f fd ps sp)(h:∀vs H Q E,sp' vs H Q E->sp vs H Q E):kg P w K mg base CX k f fd ps sp':=⟨λvs H Q E q=>F.len vs H Q E (h _ _ _ _ q),λA outer s H args us vs Q E hr he hb hv hs=>F.run A outer s H args us vs Q E hr he hb hv (h _ _ _ _ hs)⟩
def Zw.make{P:sN}{w:sY}{K:d_}{mg:Str->Option g_}{base:w_}{A:A3}{outer:List Env}{s:l_}{H:Hp}(e:Zw P w K mg base A outer s H)(C:h_)(us:List g_)(kw:List (Str×g_)):Zw P w K mg base (A.under (.builtin "type.__call__" ⟨.ref C::us,kw⟩)) outer s H:=⟨by first|exact e.frames|(simpa[A3.under,Code.envs,Code.isFrame,pushEnvs]using e.frames),e.mod,e.bs,e.bsz,e.funs,e.frf,e.tab,e.hok,e.bare⟩
section
variable{X:Cx}{pins:List (h_×Obj)}{σ:St}{H:Hp}{s s':l_}
theorem zu.env0(I:zu X pins σ H s):Zw X.prog X.w X.K X.mg X.base X.A X.stack s H:=⟨I.ok.frames,I.ok.mod,I.bs,A6 I.ok.bsz I.sz,I.stack,I.stkFree,I.tab,I.hok,I.bare⟩
theorem zu.after(I:zu X pins σ H s)(h:CE X.stack X.prog X.w H s Q u s'):EP X pins σ Q u s':=by obtain⟨v,H',os,bare,un,hok,r,q⟩:=h;obtain⟨hh,g,d,t,os'⟩:=s';obtain rfl:os'=s.os:=os;exact⟨v,H',I.call (h':=hh) (g':=g) (d':=d) (t':=t) (ch:=[]) un hok bare (λb z=>absurd z ↑G),r,q⟩
end
def gc(K:d_)(fd:Fy)(ps:List Str)(ds:List g_):Prop:=∀(s:l_)(us:List g_),K.In s.heap->(us++ds).length=↑l->BindsTo s fd ⟨us,[]⟩ (ps.zip (us++ds))
def gc.all{K:d_}{fd:Fy}{ps:List Str}(h:∀us:List g_,↑h=↑l->Of fd ⟨us,[]⟩=pure (ps.zip us)):gc K fd ps []:=λs us _ hl=>by rw[Ac]at hl⊢;exact .of_eq (h us hl)
section
variable{X:Cx}{CX:VT}{k:Nat}{f C:h_}{fd:Fy}{ps:List Str}{sp:Sp}{dvs:List V}{ds:List g_}{E:XK}{x m:Str}{p pos Sf:Pos}{e o:A1}{es:List A1}{ta:TE}{t:TA}
structure Mk(K:d_)(C f:h_):Prop where
 makes:W.makesIn K C=e_
 init:As K ↑aa "__init__"=b_ (b_ (.ref f))fn:Rf K (.ref f)=e_
 kp:AC K ↑aa=e_
end
structure zd(N P:List Str)(sc:FI):Prop where
 kind:sc.kind=.function
 co:sc.isCoroutine=a_
 gen:sc.isGenerator=a_
 nd:N.Nodup
 pre:N.take P.length=P
 par:∀x∈P,sc.names.lookup x=b_ .local\/sc.names.lookup x=b_ .cell
 nofree:∀y∈sc.names,y.2≠.free
theorem aZ{kindOf:Str->Option BM}{x:Str}:∀{binds:List (Str×g_)}{m:Str->Option g_},(∀v,(x,v)∉binds)->bindL kindOf binds m x=m x
 |[],_,_=>rfl|(n,v)::r,m,h=>by
  unfold bindL;rw[aZ λw hw=>h w (k_ _ hw)];split
  ·have:x≠n:=by rintro rfl;exact h v m_
   simp[this]
  ·rfl
theorem t6{kindOf:Str->Option BM}{x:Str}:∀{binds:List (Str×g_)}{m:Str->Option g_},(∀v,(x,v)∉binds)->bindC kindOf binds m x=m x
 |[],_,_=>rfl|(n,v)::r,m,h=>by
  unfold bindC;rw[t6 λw hw=>h w (k_ _ hw)];split;·rfl
  ·have:x≠n:=by rintro rfl;exact h v m_
   simp[this]
theorem t7{kindOf:Str->Option BM}{x:Str}{v:g_}:∀{P:List Str}{vs:List g_}{i:Nat}{m:Str->Option g_},P.Nodup->P[i]?=b_ x->vs[i]?=b_ v->kindOf x=b_ .local->bindL kindOf (P.zip vs) m x=b_ v|[],_,_,_,_,h,_,_=>by simp at h|_::_,[],_,_,_,_,h,_=>by simp at h|p::P,w::vs,0,m,nd,h1,h2,hk=>by simp at h1 h2;subst h1;subst h2;show bindL kindOf ((p,w)::P.zip vs) m p=_;unfold bindL;rw[aZ λv hv=>(D'.mp nd).1 (OZ hv).1,if_pos hk];simp|p::P,w::vs,i+1,m,nd,h1,h2,hk=>by show bindL kindOf ((p,w)::P.zip vs) m x=_;unfold bindL;exact t7 (i:=i) (D'.mp nd).2 (by simpa using h1) (by simpa using h2) hk
theorem t8{kindOf:Str->Option BM}{x:Str}{v:g_}:∀{P:List Str}{vs:List g_}{i:Nat}{m:Str->Option g_},P.Nodup->P[i]?=b_ x->vs[i]?=b_ v->kindOf x≠b_ .local->bindC kindOf (P.zip vs) m x=b_ v|[],_,_,_,_,h,_,_=>by simp at h|_::_,[],_,_,_,_,h,_=>by simp at h|p::P,w::vs,0,m,nd,h1,h2,hk=>by simp at h1 h2;subst h1;subst h2;show bindC kindOf ((p,w)::P.zip vs) m p=_;unfold bindC;rw[t6 λv hv=>(D'.mp nd).1 (OZ hv).1,if_neg hk];simp|p::P,w::vs,i+1,m,nd,h1,h2,hk=>by show bindC kindOf ((p,w)::P.zip vs) m x=_;unfold bindC;exact t8 (i:=i) (D'.mp nd).2 (by simpa using h1) (by simpa using h2) hk
def start(N:List Str)(vs:List V):St:=vs.map b_++sO (N.length-↑g) f_
def lw(CX:VT)(P:sN)(w:sY)(K:d_)(mg:Str->Option g_)(base:w_)(N:List Str)(Se:Str)(scope:FI)(f:h_)(cd:g_)(A:A3)(outer:List Env)(s:l_)(H:Hp)(E:XK):Cx where prog:=P;w:=w;K:=K;mg:=mg;base:=base;A:=A.deeper (OB Se scope ↑a f cd);N:=N;s₀:=s;H₀:=H;env:=OB Se scope ↑a f cd;outer:=outer;stack:=OB Se scope ↑a f cd::outer;ex:=[];calm:=e_;fn:=λ_=>e_;pn:=[];xe:=λe s'=>o_ (q_ P w) (A.deeper (OB Se scope ↑a f cd)) (leaving (OB Se scope ↑a f cd) e) (λ_ ϯ=>CX outer H s E e ϯ) (λe' ϯ=>CX outer H s E e' ϯ) s'
def cb{sc:FI}{n:Nat}{x:Str}(h:sc.names.lookup x=b_ .cell):∃c,(Oq n sc.names []).lookup x=b_ c:=by have q:=W.cellsFrom_some sc.names n [] (.inl h);exact RM.mp q
def WQ{CX:VT}{P:sN}{w:sY}{K:d_}{mg:Str->Option g_}{base:w_}{N ps:List Str}{Se:Str}{scope:FI}{f:h_}{cd:g_}{A:A3}{outer:List Env}{s s1:l_}{H:Hp}{E:XK}{us:List g_}{vs:List V}(S:zd N ps scope)(hd:A.handled=f_)(e0:Zw P w K mg base A outer s H)(hl:↑g=↑l)(r:zQ vs us)(x:InCallC s ↑a (bindL (OB Se scope ↑a f cd).kindOf (ps.zip us) λ_=>f_) (Oq (↑a+1) scope.names []) (bindC (OB Se scope ↑a f cd).kindOf (ps.zip us) λ_=>f_) s1):zu (lw CX P w K mg base N Se scope f cd A outer s H E) [] (start N vs) H s1:=by
 have hpl:↑l<=N.length:=by have:=congrArg M' S.pre;rw[BB]at this;omega
 obtain⟨h1,tk,rfl,hk⟩:=x.done;have Ϩ:∀b:h_,b∉(lw CX P w K mg base N Se scope f cd A outer s H E).ex:=λb z=>absurd (show b∈([]:List h_)from z) ↑G;refine⟨⟨e0.mod,S.kind,rfl,rfl,r_ _,λy z c h1 h2=>?_,λy hy=>?_,λy c _ h=>?_,λ_=>hd,A3.frames_deeper e0.frames,.inr ⟨rfl,rfl⟩,λb z=>absurd z (Ϩ b),e0.bs,e0.bsz,λb _ _=>Ϩ b,λb z=>absurd z (Ϩ b),e0.funs,e0.frf,e0.tab⟩,rfl,e0.bare,Un.kept hk,⟨_,x.toInCall.ns,λi y v h1 h2 h3=>?_⟩,λy c h=>⟨_,x.cell y c h⟩,e0.hok.fresh (r_ _),λy c h=>?_,λp hp=>absurd (show p∈([]:List (h_×Obj))from hp) ↑G,e0.hok.kept hk,?_⟩;·exact name_of_addr x.apart (F9 h1) (F9 h2)
 ·have hy:scope.names.lookup y=b_ .cell\/scope.names.lookup y=b_ .free:=hy;rcases hy with hy|hy;·exact cb hy
  ·exact absurd rfl (S.nofree _ (F9 hy))
 ·exact Nat.le_of_lt (x.above y c (F9 h))
 ·have hi:i<↑g:=by
   unfold start at h2;by_cases hi:i<↑g;·exact hi
   ·rw[Au (by simpa using hi)]at h2;rw[BY]at h2;split at h2<;>cases h2
  have ha:vs[i]?=b_ v:=by unfold start at h2;rw[Aw (by simpa using hi),sI]at h2;cases e:vs[i]? with|none=>rw[e]at h2;cases h2|some a=>rw[e]at h2;cases h2;rfl
  obtain⟨u,hu,rv⟩:=r.get ha;have hp:ps[i]?=b_ y:=by rw[<-S.pre,List.getElem?_take_of_lt ↑p];exact h1
  have ndP:ps.Nodup:=by rw[<-S.pre];exact S.nd.sublist (L' _ _)
  refine⟨u,rv,?_⟩;rcases S.par y (Av hp)with k|k;·exact .inl ⟨k,t7 ndP hp hu k⟩
  ·obtain⟨c,e⟩:=cb (n:=↑a+1) k;refine .inr ⟨.inl k,c,e,?_⟩;have q:=x.cell y c e;rw[t8 ndP hp hu (by show scope.names.lookup y≠_;rw[k];decide)]at q;exact q
 ·exact e0.hok.fresh (Nat.le_of_lt (x.above y c (F9 h)))
 ·unfold start;show _=N.length;rw[sj,j',Ao];omega
def cg{CX:VT}{P:sN}{w:sY}{K:d_}{mg:Str->Option g_}{base:w_}{k:Nat}{f:h_}{name Se:Str}{params:Arguments}{body:List A2}{scope:FI}{dV kV Sq pm Sg ct oc:g_}{an od:Option h_}{T1:Array (Option g_)}{N ps:List Str}{sp:Sp}(lk:K.lookup f=b_ ⟨oc,od,.func (A9 name Se params body scope dV kV Sq pm an Sg ct),T1⟩)(Sz:FL K Sg Se=e_)(S:zd N ps scope)(len:∀vs H Q E,sp vs H Q E->↑g=↑l)(Sn:∀(A:A3)(outer:List Env)(s:l_)(H:Hp)(vs:List V)(Q:VK)(E:XK),jT k (A.deeper (OB Se scope ↑a f Sg))->sp vs H Q E->∃t,oF (lw CX P w K mg base N Se scope f Sg A outer s H E) body t/\t {nx:=λ_ H'=>Q .non H',rt:=Q} (start N vs) H):kg P w K mg base CX (k+1) f (A9 name Se params body scope dV kV Sq pm an Sg ct) ps sp:=by
 refine⟨len,λA outer s H args us vs Q E hr e0 hb r S_=>?_⟩;have hl:=len _ _ _ _ S_;have KX:K.In s.heap:=e0.mod.kin.keeps λb o e=>(e0.bs b o e).1;have lim:s.heap.NoLimit:=e0.mod.nolimit.keeps λb o e=>(e0.bs b o e).1;have Ϟ:∀y∈ps.zip us,scope.names.lookup y.1=b_ .local\/(scope.names.lookup y.1=b_ .cell/\((Oq (↑a+1) scope.names []).lookup y.1).isSome=e_):=λ⟨n,v⟩hy=>by
  rcases S.par n (OZ hy).1 with q|q;·exact .inl q
  ·exact .inr ⟨q,W.cellsFrom_some _ _ _ (.inl q)⟩
 refine codeAny_call_function hr.depth (KX _ _ lk) rfl S.co S.gen rfl (W.codeRec_of KX Sz) (hb _ _ _ _ ?_);refine wpAny_newFunctionEnv_cells S.kind Ϟ λenv he s1 x=>?_;subst he;refine⟨lim.keeps x.toInCall.keep,codeAny_func ?_⟩;obtain⟨t,ht,hq⟩:=Sn A outer s H vs Q E (hr.deeper _) S_;have I:zu (lw CX P w K mg base N Se scope f Sg A outer s H E) [] (start N vs) H s1:=WQ S hr.hd e0 hl r x;refine sQ (ht [] s1 (start N vs) H _ I hq) (λfl s' hs=>?_) λe s' hs=>hs;have fin:∀{σ':St}{H':Hp}{v:V}{u:g_},zu (lw CX P w K mg base N Se scope f Sg A outer s H E) [] σ' H' s'->RelV v u->Q v H'->CE outer P w H s Q u s':=λ{σ' H' v u}J rv q=>⟨v,H',J.os,J.bare,J.base,J.hok,rv,q⟩;cases fl with|ret u=>obtain⟨v,σ',H',J,rv,q⟩:=hs;exact fin J rv q|next=>obtain⟨σ',H',J,q⟩:=hs;exact fin (v:=V.non) (u:=sZ) J rfl q|brk=>obtain⟨_,_,_,q⟩:=hs;exact AO q|cont=>obtain⟨_,_,_,q⟩:=hs;exact AO q
section
variable{X:Cx}{x:Str}{p pos:Pos}{e:A1}{es:List A1}{t:TA}{id T:String}{r:List V->Hp->VK->Prop}
def Dj(r:List V->Hp->VK->Prop)(t:TA):TE:=λσ H Q=>t σ H λvs H1=>r vs H1 Q
theorem Zx(hc:gw X (.builtin id) r)(hg:Gl X x)(hm:X.mg x=f_)(hv:A0 x=b_ (.builtin id))(ha:PA X (e::es) t)(hn:x≠"__name__":=by decide)(SG:(x==↑x)=a_:=by decide)(he:p_ (e::es) X.env=↑ae::p_ es X.env:=by rfl)(hpl:(AT pos (p_ es X.env)).any (·.1)=a_:=by rfl):PE X (.Call (.Name x p) (e::es) [] pos) (Dj r t):=by intro pins s σ H Q I h;refine Ai (fu I hg hm hv ?_ hn SG);exact OM (jk (ha pos pins s σ H _ I h) λus s1⟨vs,H1,I1,r1,q1⟩=>hc pins s1 σ H1 vs us Q I1 r1 q1) he hpl
theorem WR(hc:gw X (.type T) r)(hg:Gl X x)(hm:X.mg x=f_)(hv:A0 x=b_ (.type T))(ha:PA X (e::es) t)(hn:x≠"__name__":=by decide)(SG:(x==↑x)=a_:=by decide)(he:p_ (e::es) X.env=↑ae::p_ es X.env:=by rfl)(hpl:(AT pos (p_ es X.env)).any (·.1)=a_:=by rfl):PE X (.Call (.Name x p) (e::es) [] pos) (Dj r t):=by intro pins s σ H Q I h;refine Ai (fu I hg hm hv ?_ hn SG);exact Am (jk (ha pos pins s σ H _ I h) λus s1⟨vs,H1,I1,r1,q1⟩=>hc pins s1 σ H1 vs us Q I1 r1 q1) he hpl
end
end L2
namespace HT
open PySem PyProof.Rows
section
variable{prog:sN}{w:sY}{A:A3}{E:g_->l_->Prop}{s:l_}
theorem cat_tup(ht:Oy s.heap t ↑i)(hb:Oy s.heap b ws.toArray)(hv:vs≠[])(h1:ws=[]->Q (.ref t) s)(h2:ws≠[]->Q (.ref ↑a) {s with heap:=s.heap.push {cls:=.type "tuple",data:=.seq (vs++ws).toArray}})(hsz:↑g+ws.length<=j_):o_ ↑w A (BU .Add (.ref t) (.ref b)) Q E s:=by
 obtain⟨⟨cls,dd,data,sl⟩,ho,hc,n,hd⟩:=id ht;obtain⟨⟨cls2,dd2,data2,sl2⟩,ho2,Tq,n2,Tm⟩:=id hb;simp only at hc hd Tq Tm;subst hc hd Tq Tm;have e:↑i++ws.toArray=(vs++ws).toArray:=by simp
 by_cases hw:ws=[];·exact concat_meets ⟨_,ho,rfl⟩ ⟨_,ho2,rfl⟩ S3 seq_tuple_add OC Os (Og _ _) (tuple_addW1 t b ↑i ws.toArray n n2 dd dd2 sl sl2 (by simpa using hv) (by simp[hw])) ⟨ho,ho2,h1 hw⟩
 ·refine concat_meets ⟨_,ho,rfl⟩ ⟨_,ho2,rfl⟩ S3 seq_tuple_add OC Os (Og _ _) (tuple_addW2 t b ↑i ws.toArray n n2 dd dd2 sl sl2 (by simpa using hv) (by simpa using hw) (by rw[sr,sr];exact hsz)) ⟨ho,ho2,?_⟩;rw[e];exact h2 hw
def sIx(n d:Nat):Option Int->Nat|none=>d|some v=>if v<0 then(v+(n:Int)).toNat else min v.toNat n
theorem sIx_none(n d:Nat):sIx n d f_=d:=rfl
theorem sIx_nat(n d k:Nat):sIx n d (b_ (k:Int))=min k n:=by show(if(k:Int)<0 then((k:Int)+(n:Int)).toNat else min (k:Int).toNat n)=min k n;rw[if_neg ↑p,FA]
theorem sIx_le(n d:Nat)(hd:d<=n)(o:Option Int):sIx n d o<=n:=by cases o with|none=>exact hd|some v=>
  show(if v<0 then(v+(n:Int)).toNat else min v.toNat n)<=n;by_cases hv:v<0;·rw[if_pos hv];omega
  ·rw[if_neg hv];exact Nat.min_le_right _ _
theorem XI(v:Int)(n d:Nat):(if v<0 then max (v+(n:Int)) 0 else min v (n:Int))=((sIx n d (b_ v):Nat):Int):=by
 show(if v<0 then max (v+(n:Int)) 0 else min v (n:Int))=(((if v<0 then(v+(n:Int)).toNat else min v.toNat n):Nat):Int);by_cases hv:v<0;·simp only[if_pos hv];omega
 ·simp only[if_neg hv];omega
theorem YC(lo hi:Option Int)(n:Nat):O6 lo hi 1 (n:Int)=(((sIx n 0 lo:Nat):Int),((sIx n n hi:Nat):Int)):=by
 have h1:¬((1:Int)<0):=by omega
 unfold O6;simp only[h1,if_false];refine Prod.ext ?_ ?_;·cases lo with|none=>rfl|some v=>exact XI v n 0
 ·cases hi with|none=>rfl|some v=>exact XI v n n
theorem YD(i j:Nat):Ft (i:Int) (j:Int) 1=j-i:=by
 unfold Ft;have h1:(1:Int)>0:=by omega
 simp only[h1,if_true,Int.ediv_one];split<;>omega
theorem ci(p:IsPart v o)(h:Q o s):o_ ↑w A (BL.Slice.slicePartIndex v) Q E s:=by cases p with|none=>exact slicePart_none h|int i t=>exact slicePart_int h
theorem pj{sl:h_}{vl vu:g_}{lo hi:Option Int}{n:Nat}{Q:Int×Int×Nat->l_->Prop}(hs:s.heap.IsSliceOf sl vl vu .none)(pl:IsPart vl lo)(pu:IsPart vu hi)(h:Q (((sIx n 0 lo:Nat):Int),1,sIx n n hi-sIx n 0 lo) s):o_ ↑w A (Rp (.ref sl) (pure (n:Int))) Q E s:=by obtain⟨os,hos,Z_,hds⟩:=id hs;unfold Rp BL.Slice.sliceFields;refine c_ (c_ (Ab hos hds (x:=vl) rfl (c_ (Ab hos hds (x:=vu) rfl (c_ (Ab hos hds (x:=.none) rfl (i_ ?_)))))));refine c_ (slicePart_none ?_);show o_ _ _ (if((1:Int)==0)=e_ then _ else _) _ _ s;rw[if_neg ↑o];refine c_ (ci pl (c_ (ci pu (c_ (i_ ?_)))));show o_ _ _ (match O6 lo hi 1 (n:Int)with|(lo,hi)=>pure (lo,(1:Int),Ft lo hi 1)) _ _ s;rw[YC lo hi n];show o_ _ _ (pure (((sIx n 0 lo:Nat):Int),(1:Int),Ft ((sIx n 0 lo:Nat):Int) ((sIx n n hi:Nat):Int) 1)) _ _ s;rw[YD];exact i_ h
theorem Kh(xs:Array g_)(i k:Nat):((t_ k).filterMap λ(m:Nat)=>xs[((i:Int)+(m:Int)*1).toNat]?).toArray=((xs.toList.drop i).take k).toArray:=by
 have e:(λ(m:Nat)=>xs[((i:Int)+(m:Int)*1).toNat]?)=λm=>xs[i+m]?:=by
  funext m;have:((i:Int)+(m:Int)*1).toNat=i+m:=by omega
  rw[this]
 rw[e];have:=pick_run xs i k;rw[List.filterMap_map]at this;have e2:((λx=>xs[x]?)∘λx=>i+x)=λm=>xs[i+m]?:=rfl;rw[e2]at this;rw[this]
theorem getItem_tuple_cut{t sl:h_}{items:Array g_}{vl vu:g_}{lo hi:Option Int}{Q:g_->l_->Prop}(ht:Oy s.heap t items)(hs:s.heap.IsSliceOf sl vl vu .none)(pl:IsPart vl lo)(pu:IsPart vu hi)(hw:¬(sIx ↑f 0 lo=0/\sIx ↑f ↑f hi=↑f))(h:Q (.ref ↑a) {s with heap:=s.heap.push {cls:=.type "tuple",data:=.seq ((items.toList.drop (sIx ↑f 0 lo)).take (sIx ↑f ↑f hi-sIx ↑f 0 lo)).toArray}})(hsz:↑f<=j_):o_ ↑w A (OD (.ref t) (.ref sl)) Q E s:=by
 have Tk:sizeOk (.seq ((items.toList.drop (sIx ↑f 0 lo)).take (sIx ↑f ↑f hi-sIx ↑f 0 lo)).toArray):=by show((items.toList.drop (sIx ↑f 0 lo)).take (sIx ↑f ↑f hi-sIx ↑f 0 lo)).toArray.size<=j_;rw[sr,BB,S4,F8];omega
 have hj:sIx ↑f ↑f hi<=↑f:=sIx_le _ _ (r_ _) hi;obtain⟨os,hos,Z_,hds⟩:=id hs;have ξ:s.TypeIs (.ref sl) "slice":=⟨os,hos,Z_⟩;unfold OD;try with_reducible refine Ah ?_
 first|refine c_ (i_ ?_)|skip
 refine c_ (wpAny_sequenceKey ht.typeIs ↑o ?_);refine c_ (BC (name:=Str.ofString "__getitem__") ht.typeIs An (BN An ht.typeIs entry_tuple_getitem ?_ (args_tuple_getitem _ _)));show o_ _ _ (Rq (.ref t)>>=_) _ _ s;refine c_ (tupleItemsOf_ ht ?_);refine c_ (O4 ξ ?_);rw[if_pos ↑o];refine c_ (pj hs pl pu ?_);have ϐ:¬((((sIx ↑f 0 lo:Nat):Int)==0&&(1:Int)==1&&(sIx ↑f ↑f hi-sIx ↑f 0 lo)==↑f)=e_):=by intro q;rw[y_,y_]at q;have q1:((sIx ↑f 0 lo:Nat):Int)=0:=eq_of_beq q.1.1;have q2:sIx ↑f ↑f hi-sIx ↑f 0 lo=↑f:=eq_of_beq q.2;exact hw ⟨by omega,by omega⟩
 show o_ _ _ (if(((sIx ↑f 0 lo:Nat):Int)==0&&(1:Int)==1&&(sIx ↑f ↑f hi-sIx ↑f 0 lo)==↑f)=e_ then _ else _) _ _ s;rw[if_neg ϐ,Kh];first|exact c_ (m:=A_ _) (AJ (i_ ⟨_,rfl,i_ h⟩) Tk)|exact c_ (m:=A_ _) (AJ (c_ (i_ (i_ ⟨_,rfl,i_ h⟩))) Tk)|exact c_ (c_ (m:=A_ _) (AJ (i_ (i_ ⟨_,rfl,i_ h⟩)) Tk))|exact c_ (c_ (m:=A_ _) (AJ (i_ ⟨_,rfl,i_ h⟩) Tk))
end
end HT
namespace L2
open PySem PySem.Spec PyProof.Rows
abbrev TO:=St->Hp->(Option Int->Hp->Prop)->Prop
def PO(X:Cx)(e:Option A1)(t:TO):Prop:=∀(pins:List (h_×Obj))(s:l_)(σ:St)(H:Hp)(Q:Option Int->Hp->Prop),zu X pins σ H s->t σ H Q->o_ ↑n X.A (evalPart e X.env) (λu s'=>∃o H',zu X pins σ H' s'/\IsPart u o/\Q o H') X.xe s
def P9:TO:=λ_ H Q=>Q f_ H
def Hf(t:TE):TO:=λσ H Q=>t σ H λx H1=>∃i,x=.int i/\Q (b_ i) H1
section
variable{X:Cx}{e:A1}{te:TE}{lo hi:Option A1}{tl th:TO}{pos p2:Pos}
theorem Pa:PO X f_ P9:=by intro pins s σ H Q I h;rw[evalPart_none];exact i_ ⟨f_,H,I,.none,h⟩
theorem Pb(h:PE X e te):PO X (b_ e) (Hf te):=by intro pins s σ H Q I hw;rw[evalPart_some];refine jk (h pins s σ H _ I hw) λu s1⟨x,H1,I1,r1,q1⟩=>?_;obtain⟨i,rfl,q⟩:=q1;obtain⟨t,rfl⟩:=r1;exact⟨b_ i,H1,I1,.int i t,q⟩
def Hg(X:Cx)(r:V->Option Int->Option Int->Hp->VK->Prop):Prop:=∀(pins:List (h_×Obj))(s:l_)(σ:St)(H:Hp)(x:V)(v vl vu:g_)(lo hi:Option Int)(sl:h_)(Q:VK),zu X pins σ H s->RelV x v->s.heap.IsSliceOf sl vl vu .none->IsPart vl lo->IsPart vu hi->r x lo hi H Q->∃T id,typeLookup (.type T) "__getitem__"=pure (b_ (.builtin id))/\s.TypeIs v T/\o_ ↑n X.A (OD v (.ref sl)) (EP X pins σ Q) X.xe s
def B6(r:V->Option Int->Option Int->Hp->VK->Prop)(te:TE)(tl th:TO):TE:=λσ H Q=>te σ H λx H1=>tl σ H1 λl H2=>th σ H2 λu H3=>r x l u H3 Q
theorem Ki(hr:Hg X r)(he:PE X e te)(hl:PO X lo tl)(hu:PO X hi th):PE X (.Subscript e (.Slice lo hi f_ p2) pos) (B6 r te tl th):=by intro pins s σ H Q I h;refine Subscript_ (jk (he pins s σ H _ I h) λv s1⟨x,H1,I1,r1,q1⟩=>?_);refine wpAny_Slice (jk (hl pins s1 σ H1 _ I1 q1) λvl s2⟨l,H2,I2,pl,q2⟩=>jk (hu pins s2 σ H2 _ I2 q2) λvu s3⟨u,H3,I3,pu,q3⟩=>?_);rw[evalPart_none];refine i_ ?_;have I4:zu X pins σ H3 {s3 with heap:=s3.heap.push {cls:=.type "slice",data:=.fields #[vl,vu,.none]}}:=I3.kept (t':=s3.toks) λb ob q=>f' _ q;obtain⟨T,id,hT,ht,hg⟩:=hr pins {s3 with heap:=s3.heap.push {cls:=.type "slice",data:=.fields #[vl,vu,.none]}} σ H3 x v vl vu l u s3.heap.objs.size Q I4 r1 (w_.IsSliceOf.new ..) pl pu q3;show o_ ↑n X.A (Oh e (.Slice lo hi f_ p2) v (.ref s3.heap.objs.size)) (EP X pins σ Q) X.xe {s3 with heap:=s3.heap.push {cls:=.type "slice",data:=.fields #[vl,vu,.none]}};exact tail_any (ops:=[.ref s3.heap.objs.size,v]) ht hT hg (by with_unfolding_all rfl)
def Zy(xs:List V)(lo hi:Option Int):List V:=(xs.drop (HT.sIx ↑e 0 lo)).take (HT.sIx ↑e ↑e hi-HT.sIx ↑e 0 lo)
theorem eA(xs:List V)(lo hi:Option Int):(Zy xs lo hi).length<=↑e:=by unfold Zy;rw[BB,S4];omega
def Dk(K:d_):V->Option Int->Option Int->Hp->VK->Prop:=λx lo hi H Q=>∃a xs,x=.ref a/\lq K H a xs/\¬(HT.sIx ↑e 0 lo=0/\HT.sIx ↑e ↑e hi=↑e)/\∀p,H p=f_->Q (.ref p) (zO H p (.tup (Zy xs lo hi)))
theorem Mn:Hg X (Dk X.K):=by
 intro pins s σ H x v vl vu lo hi sl Q I rx hs pl pu h;obtain⟨a,xs,rfl,hx,hw,q⟩:=h;cases rx;obtain⟨its,r,ht,hz⟩:=I.tuple hx;have hlen:↑k=↑e:=by rw[sr];exact r.length.symm
 refine⟨"tuple",_,An.lookup,ht.typeIs,?_⟩;refine HT.getItem_tuple_cut ht hs pl pu (by rw[hlen];exact hw) ?_ (by rw[hlen];exact hz);rw[hlen];refine⟨.ref ↑a,_,I.laid (t':=s.toks) (o:=.tup (Zy xs lo hi)) (λb ob q=>f' _ q) (r_ _) ?_,rfl,q _ (I.hok.fresh (r_ _))⟩;exact⟨A6 (eA xs lo hi) hz,_,(r.drop (HT.sIx ↑e 0 lo)).take (HT.sIx ↑e ↑e hi-HT.sIx ↑e 0 lo),Oy.new _ _⟩
def Hh(K:d_):R2:=λx y H Q=>∃a b xs ys,x=.ref a/\y=.ref b/\lq K H a xs/\lq K H b ys/\xs≠[]/\↑e+ys.length<=j_/\(ys=[]->Q (.ref a) H)/\(ys≠[]->∀p,H p=f_->Q (.ref p) (zO H p (.tup (xs++ys))))
theorem zQ.nil_iff(r:zQ xs us):us=[]↔xs=[]:=by cases r with|nil=>simp|cons _ _=>simp
theorem Pc:qR X (BU .Add) (Hh X.K):=by intro pins s σ H x y v u Q I rx ry h;obtain⟨a,b,xs,ys,rfl,rfl,ha,hb,hx,hz,q1,q2⟩:=h;cases rx;cases ry;obtain⟨its,r1,p1,_⟩:=I.tuple ha;obtain⟨its2,r2,p2,_⟩:=I.tuple hb;refine HT.cat_tup p1 p2 (λz=>hx (r1.nil_iff.mp z)) (λz=>⟨.ref a,H,I,rfl,q1 (r2.nil_iff.mp z)⟩) (λz=>?_) (by rw[<-r1.length,<-r2.length];exact hz);refine⟨.ref ↑a,_,I.laid (t':=s.toks) (o:=.tup (xs++ys)) (λb ob q=>f' _ q) (r_ _) ?_,rfl,q2 (λw=>z (r2.nil_iff.mpr w)) _ (I.hok.fresh (r_ _))⟩;exact⟨by rw[sj];exact hz,_,r1.append r2,Oy.new _ _⟩
end
def XJ(n:Nat)(i:Int):Option Nat:=if 0<=i then(if i<n then b_ i.toNat else f_)else if-(n:Int)<=i then b_ (i+n).toNat else f_
def oK{α:Type}(xs:List α)(i:Int):Option α:=(XJ ↑e i).bind λj=>xs[j]?
def XL(h:XJ n i=b_ j):seqIndex? i n=b_ j/\j<n/\-(n:Int)<=i/\i<n:=by
 unfold XJ at h;by_cases h0:0<=i
 ·rw[if_pos h0]at h;by_cases h1:i<n;·rw[if_pos h1]at h;have e:i.toNat=j:=sF h;exact⟨by rw[seqIndex_of h0 h1,e],by omega,by omega,h1⟩
  ·rw[if_neg h1]at h;cases h
 ·rw[if_neg h0]at h;by_cases h1:-(n:Int)<=i;·rw[if_pos h1]at h;have e:(i+n).toNat=j:=sF h;exact⟨by rw[seqIndex_neg ↑p h1,e],by omega,h1,by omega⟩
  ·rw[if_neg h1]at h;cases h
def oM(h:oK xs i=b_ v):∃j,seqIndex? i ↑e=b_ j/\xs[j]?=b_ v/\j<↑e/\-(↑e:Int)<=i/\i<↑e:=by unfold oK at h;cases e:XJ ↑e i with|none=>rw[e]at h;cases h|some j=>rw[e]at h;obtain⟨h1,h2,h3,h4⟩:=XL e;exact⟨j,h1,h,h2,h3,h4⟩
def Pd{α:Type}{xs:List α}{j:Nat}{v:α}(h:xs[j]?=b_ v):oK xs (j:Int)=b_ v:=by
 have hj:j<↑e:=(sP.mp h).1;have e:XJ ↑e (j:Int)=b_ j:=by unfold XJ;rw[if_pos ↑p,if_pos ↑p];simp
 unfold oK;rw[e];exact h
def oO(b:A1):Prop:=∀o i,OT b a_ o i=operate [o,i] (OD o i)
def Hi(X:Cx)(r:R2):Prop:=∀(value slice:A1)(pins:List (h_×Obj))(s:l_)(σ:St)(H:Hp)(x y:V)(v u:g_)(Q:VK),zu X pins σ H s->RelV x v->RelV y u->r x y H Q->OT slice a_ v u=operate [v,u] (OD v u)->o_ ↑n X.A (Oh value slice v u) (EP X pins σ Q) X.xe s
def Dl(X:Cx)(id:String)(r:V->List V->Hp->VK->Prop):Prop:=∀(pins:List (h_×Obj))(s:l_)(σ:St)(H:Hp)(x:V)(xs:List V)(v:g_)(us:List g_)(Q:VK),zu X pins σ H s->RelV x v->zQ xs us->r x xs H Q->o_ ↑n X.A (call (.builtin id) (v::us)) (EP X pins σ Q) X.xe s
section
variable{X:Cx}{a b:A1}{ta tb:TE}{pos:Pos}
theorem Hj(hr:Hi X r)(ha:PE X a ta)(hb:PE X b tb)(hs:oO b):PE X (.Subscript a b pos) (IX r ta tb):=by intro pins s σ H Q I h;exact Subscript_ (Ma ha hb I h λv u s2 x y H2 I2 rx ry q=>hr a b pins s2 σ H2 x y v u Q I2 rx ry q (hs _ _))
def Dm(K:d_):R2:=λx y H Q=>∃p xs i v,x=.ref p/\y=.int i/\lu K H p xs/\oK xs i=b_ v/\Q v H
def Dn(K:d_):R2:=λx y H Q=>∃p xs i v,x=.ref p/\y=.int i/\lq K H p xs/\oK xs i=b_ v/\Q v H
def Do:R2:=λx y H Q=>∃z i c,x=.str z/\y=.int i/\z.length<=j_/\oK z.cps.toList i=b_ c/\Q (.str ⟨#[c]⟩) H
theorem Pe:Hi X (Dm X.K):=by
 intro value slice pins s σ H x y v u Q I rx ry h hs;obtain⟨p,xs,i,z,rfl,rfl,hq,he,q⟩:=h;cases rx;obtain⟨t,rfl⟩:=ry;obtain⟨its,r,pl,hz⟩:=I.list hq;obtain⟨j,h1,h2,h3,h4,h5⟩:=oM he;obtain⟨w,ew,Td⟩:=r.get h2;have hl:=r.length;have hn:=mH;have fin:EP X pins σ Q w s:=⟨z,H,I,Td,q⟩;by_cases h0:0<=i
 ·have hj:i.toNat=j:=by rw[seqIndex_of h0 h5]at h1;exact sF h1
  exact item_listR pl.isList h0 ↑p (by rw[hj];simpa using ew) fin hs
 ·have hj:(i+(↑k:Int)).toNat=j:=by rw[seqIndex_neg ↑p h4]at h1;rw[sr,<-hl];exact sF h1
  exact subscriptTail_builtinR (x:=w) pl.isList.typeIs slot_list_getitem.lookup (wpAny_getItem_list_neg (Q:=λr s'=>r=w/\EP X pins σ Q r s') pl.isList ↑p (by rw[sr]<;>omega) ↑p (by rw[hj];simpa using ew) ⟨rfl,fin⟩) hs
theorem Mq:Hi X (Dn X.K):=by intro value slice pins s σ H x y v u Q I rx ry h hs;obtain⟨p,xs,i,z,rfl,rfl,hq,he,q⟩:=h;cases rx;obtain⟨t,rfl⟩:=ry;obtain⟨its,r,pl,hz⟩:=I.tuple hq;obtain⟨j,h1,h2,h3,h4,h5⟩:=oM he;obtain⟨w,ew,Td⟩:=r.get h2;have hl:=r.length;have hn:=mH;have fin:EP X pins σ Q w s:=⟨z,H,I,Td,q⟩;exact subscriptTail_builtinR (x:=w) pl.typeIs slot_tuple_getitem.lookup (getItem_tuple (j:=j) (Q:=λr s'=>r=w/\EP X pins σ Q r s') pl ↑p ↑p (by rw[sr,<-hl];exact h1) (by simpa using ew) ⟨rfl,fin⟩) hs
theorem Mr:Hi X Do:=by
 intro value slice pins s σ H x y v u Q I rx ry h hs;obtain⟨z,i,c,rfl,rfl,hz,he,q⟩:=h;obtain⟨t,rfl⟩:=rx;obtain⟨t',rfl⟩:=ry;obtain⟨j,h1,h2,h3,h4,h5⟩:=oM he;have hl:z.cps.toList.length=z.length:=by simp[Str.length]
 rw[hl]at h1 h4 h5;have hn:=mH;exact tail_any (typeIs_str s z t) slot_str_getitem.lookup (getItem_str (c:=c) (by have e1:decide (i< -(2^63:Int))=a_:=decide_eq_false ↑p;have e2:decide (i>=2^63)=a_:=decide_eq_false ↑p;rw[e1,e2,Bool.or_false]) (by rw[h1];simpa using h2) ⟨.str ⟨#[c]⟩,H,I.tok _,⟨_,rfl⟩,q⟩) hs
theorem YE(its:List g_)(n j:Nat)(u:g_):AF (·.setIfInBounds j u) {cls:=.type "list",data:=.seq its.toArray n}={cls:=.type "list",data:=.seq (its.set j u).toArray n}:=by simp[AF]
theorem zu.lst(I:zu X pins σ H s)(h:H p=b_ (.lst xs)):∃(its:List g_)(n:Nat),zQ xs its/\s.heap.get? p=b_ {cls:=.type "list",data:=.seq its.toArray n}/\↑e<=j_:=by obtain⟨z,its,n,r,e⟩:=I.hok p _ h;exact⟨its,n,r,e,z⟩
theorem zu.lstUpd{pins:List (h_×Obj)}{σ:St}{H:Hp}{s:l_}{p:h_}{xs ys:List V}{its its':List g_}{n n':Nat}{f:Obj->Obj}(I:zu X pins σ H s)(h:H p=b_ (.lst xs))(ho:s.heap.get? p=b_ {cls:=.type "list",data:=.seq its.toArray n})(hf:f {cls:=.type "list",data:=.seq its.toArray n}={cls:=.type "list",data:=.seq its'.toArray n'})(r:zQ ys its')(hz:ys.length<=j_)(t:Nat):zu X pins σ (zO H p (.lst ys)) {s with heap:=s.heap.update p f,toks:=t}:=by
 have e:(s.heap.update p f).get? p=b_ {cls:=.type "list",data:=.seq its'.toArray n'}:=by rw[Fr f ho (by rw[hf]<;>rfl),hf]
 refine I.write (x:=p) (e:=p) (by rw[h];trivial) (.inl rfl) (λb u hb q=>(Az _ _ (AE hb)).trans q) ⟨_,e⟩ ?_;exact⟨hz,its',n',r,e⟩
def N5:V->V->V->Hp->(Hp->Prop)->Prop:=λo i v H Q=>∃p xs k j,o=.ref p/\i=.int k/\H p=b_ (.lst xs)/\XJ ↑e k=b_ j/\Q (zO H p (.lst (xs.set j v)))
theorem cj:IT X N5:=by
 intro pins s σ H o i v ov iv u Q I ro ri rv h;obtain⟨p,xs,k,j,rfl,rfl,hp,hj,q⟩:=h;cases ro;obtain⟨t,rfl⟩:=ri;obtain⟨its,n,r,ho,hz⟩:=I.lst hp;obtain⟨h1,h2,h3,h4⟩:=XL hj;have hl:=r.length;have hn:=mH;have I':zu X pins σ (zO H p (.lst (xs.set j v))) {s with heap:=s.heap.update p (AF (·.setIfInBounds j u))}:=I.lstUpd hp ho (YE its n j u) (r.set rv j) (by rw[AD];exact hz) s.toks;by_cases h0:0<=k
 ·have hk:k.toNat=j:=by rw[seqIndex_of h0 h4]at h1;exact sF h1
  exact W.ki_setAt ho h0 ↑p (by rw[sr,<-hl];exact h4) (by rw[hk];exact⟨_,I',q⟩)
 ·have hk:(k+(↑k:Int)).toNat=j:=by rw[seqIndex_neg ↑p h3]at h1;rw[sr,<-hl];exact sF h1
  exact W.ki_setBack ho ↑p (by rw[sr,<-hl];exact h3) ↑p (by rw[hk];exact⟨_,I',q⟩)
theorem oP(lo hi:Option Int)(n:Nat):(FT lo hi f_ n).1=((HT.sIx n 0 lo:Nat):Int)/\(FT lo hi f_ n).2.1=((HT.sIx n n hi:Nat):Int)/\(FT lo hi f_ n).2.2=1:=by
 refine⟨?_,?_,rfl⟩;·cases lo with|none=>simp[FT,HT.sIx]|some i=>
   simp only[FT,HT.sIx,S5,show(1:Int)>0 by decide,if_true];by_cases h:i<0;·simp only[h,if_true]<;>omega
   ·simp only[h,if_false]<;>omega
 ·cases hi with|none=>simp[FT,HT.sIx]|some i=>
   simp only[FT,HT.sIx,S5,show(1:Int)>0 by decide,if_true];by_cases h:i<0;·simp only[h,if_true]<;>omega
   ·simp only[h,if_false]<;>omega
theorem au(its:List g_)(lo hi:Option Int):slicePick its.toArray lo hi f_=((its.drop (HT.sIx its.length 0 lo)).take (HT.sIx its.length its.length hi-HT.sIx its.length 0 lo)).toArray:=by obtain⟨h1,h2,h3⟩:=oP lo hi ↑k;unfold slicePick;rw[h1,h2,h3];simp only[sliceRange_one,pick_run,sr]<;>rfl
def Dp(K:d_):V->Option Int->Option Int->Hp->VK->Prop:=λx lo hi H Q=>∃a xs,x=.ref a/\lu K H a xs/\∀p,H p=f_->Q (.ref p) (zO H p (.lst (Zy xs lo hi)))
theorem Pf:Hg X (Dp X.K):=by intro pins s σ H x v vl vu lo hi sl Q I rx hs pl pu h;obtain⟨a,xs,rfl,hx,q⟩:=h;cases rx;obtain⟨its,r,ht,hz⟩:=I.list hx;have hlen:=r.length;refine⟨"list",_,slot_list_getitem.lookup,ht.isList.typeIs,?_⟩;refine wpAny_getItem_list_slice ht.isList hs pl pu .none ↑G ?_ (by rw[sr]<;>omega);rw[au,<-hlen];refine⟨.ref ↑a,_,I.laid (t':=s.toks) (o:=.lst (Zy xs lo hi)) (λb ob q=>f' _ q) (r_ _) ?_,rfl,q _ (I.hok.fresh (r_ _))⟩;exact⟨A6 (eA xs lo hi) hz,_,0,(r.drop (HT.sIx ↑e 0 lo)).take (HT.sIx ↑e ↑e hi-HT.sIx ↑e 0 lo),sf _ rfl⟩
theorem ly:gw X (.builtin "len") (λxs H Q=>∃p ys,xs=[.ref p]/\(lu X.K H p ys\/lq X.K H p ys)/\Q (.int ys.length) H):=by
 intro pins s σ H xs us Q I r h;obtain⟨p,ys,rfl,hq,q⟩:=h;obtain⟨u,rfl,rx⟩:=el r;cases rx;have hn:=mH;rcases hq with hq|hq;·obtain⟨its,r',pl,hz⟩:=I.list hq;have hlen:=r'.length;exact Calls.call_len_list pl.isList (by simp only[sr]<;>omega) ⟨.int ys.length,H,I.tok _,⟨s.toks+1,by rw[sr,hlen]⟩,q⟩
 ·obtain⟨its,r',pl,hz⟩:=I.tuple hq;have hlen:=r'.length;exact len_tuple pl (by simp only[sr]<;>omega) ⟨.int ys.length,H,I.tok _,⟨s.toks+1,by rw[sr,hlen]⟩,q⟩
theorem oQ:gw X (.builtin "len") (λxs H Q=>∃z,xs=[.str z]/\z.length<=j_/\Q (.int z.length) H):=by intro pins s σ H xs us Q I r h;obtain⟨z,rfl,hz,q⟩:=h;obtain⟨u,rfl,t,rfl⟩:=el r;have hn:=mH;exact len_str ↑p ⟨.int z.length,H,I.tok _,⟨_,rfl⟩,q⟩
theorem nX:gw X (.type "tuple") (λxs H Q=>∃p ys,xs=[.ref p]/\((lu X.K H p ys/\∀l,H l=f_->Q (.ref l) (zO H l (.tup ys)))\/(lq X.K H p ys/\Q (.ref p) H))):=by
 intro pins s σ H xs us Q I r h;obtain⟨p,ys,rfl,h⟩:=h;obtain⟨u,rfl,rx⟩:=el r;cases rx;rcases h with⟨hq,q⟩|⟨hq,q⟩;·obtain⟨its,r',pl,hz⟩:=I.list hq;have hlen:=r'.length;refine call_tuple_list pl.isList (λh' kp=>?_) (by simp only[sr]<;>omega);have I1:zu X pins σ H {s with heap:=h'}:=I.kept (t':=s.toks) kp;have I2:zu X pins σ (zO H h'.objs.size (.tup ys)) {s with heap:=h'.push {cls:=.type "tuple",data:=.seq its.toArray}}:=I1.laid (t':=s.toks) (λb o e=>f' _ e) (r_ _) (show jw X.prog X.w _ _ _ (.tup ys)from⟨hz,its,r',Oy.new _ _⟩);exact⟨.ref h'.objs.size,_,I2,rfl,q _ (I1.hok.fresh (r_ _))⟩
 ·obtain⟨its,r',pl,hz⟩:=I.tuple hq;exact call_tuple_same pl ⟨.ref p,H,I,rfl,q⟩
def Dq(K:d_)(T:String)(x:V)(H:Hp):Prop:=match x with|.str _=>T="str"|.int _=>T="int"|.ref p=>(T="list"/\∃xs,lu K H p xs)\/(T="tuple"/\∃o,K.lookup p=b_ o/\o.cls=.type "tuple"/\o.dict=f_)\/(T="dict"/\((∃kvs,H p=b_ (.dK kvs))\/∃kvs,H p=b_ (.dT kvs)))\/(T="set"/\∃S n,H p=b_ (.set S n))|_=>False
theorem Kj(I:zu X pins σ H s)(r:RelV x v)(ty:Dq X.K T x H):
  s.TypeIs v T/\∀a,v=.ref a->∃ob,s.heap.get? a=b_ ob/\ob.dict=f_:=by cases x with|str z=>obtain⟨t,rfl⟩:=r;cases(show T="str"from ty);exact⟨typeIs_str s z t,λ_ e=>nomatch e⟩|int i=>obtain⟨t,rfl⟩:=r;cases(show T="int"from ty);exact⟨typeIs_int s i t,λ_ e=>nomatch e⟩|ref p=>
  cases r;rcases ty with⟨rfl,xs,hq⟩|⟨rfl,o,hk,hc,hd⟩|⟨rfl,hk⟩|⟨rfl,S,n,hk⟩;·obtain⟨its,_,pl,_⟩:=I.list hq;refine⟨pl.isList.typeIs,λa e=>?_⟩;cases e;obtain⟨o,n,e,c,hd,_⟩:=pl;exact⟨o,e,hd⟩
  ·refine⟨⟨o,I.kIn p o hk,hc⟩,λa e=>?_⟩;cases e;exact⟨o,I.kIn _ o hk,hd⟩
  ·have z:∃o,s.heap.get? p=b_ o/\o.ExactDict:=by
    rcases hk with⟨kvs,hk⟩|⟨kvs,hk⟩;·obtain⟨_,_,_,_,o,_,_,e,ex,_⟩:=I.hok p _ hk;exact⟨o,e,ex⟩
    ·obtain⟨_,_,_,_,o,_,_,e,ex,_⟩:=I.hok p _ hk;exact⟨o,e,ex⟩
   obtain⟨o,e,ex⟩:=z;refine⟨⟨o,e,ex.1⟩,λa e2=>?_⟩;cases e2;exact⟨o,e,ex.2.1⟩
  ·obtain⟨o,_,_,_,e,ex,_⟩:=I.hok p _ hk;refine⟨⟨o,e,ex.1⟩,λa e2=>?_⟩;cases e2;exact⟨o,e,ex.2.1⟩|_=>exact AO ty
def Hk(K:d_)(T:String)(r:V->List V->Hp->VK->Prop)(to:TE):TE:=λσ H Q=>to σ H λx H1=>Dq K T x H1/\r x [] H1 Q
def EG(K:d_)(T:String)(r:V->List V->Hp->VK->Prop)(to:TE)(t:TA):TE:=λσ H Q=>to σ H λx H1=>Dq K T x H1/\t σ H1 λxs H2=>r x xs H2 Q
variable{o e:A1}{es:List A1}{to:TE}{t:TA}{name:Str}{Sf cpos:Pos}{T id:String}{r:V->List V->Hp->VK->Prop}
theorem Ms(pa:PlainAttrs T)(slot:Slot T name id)(V_:typeOf (.builtin id)=pure (.type "method_descriptor"))(hm:Dl X id r)(ho:PE X o to)(SE:AZ o name X.env (x_ o X.env)=x_ o X.env:=by rfl)(TD:(Sf.endLine==cpos.line)=e_:=by rfl):PE X (.Call (.Attribute o name Sf) [] [] cpos) (Hk X.K T r to):=by intro pins s σ H Q I h;refine wpAny_Call_method0_late SE TD (jk (ho pins s σ H _ I h) λv s1⟨x,H1,I1,r1,ty,q1⟩=>?_);obtain⟨h1,h2⟩:=Kj I1 r1 ty;exact⟨T,id,pa,slot,V_,h1,h2,BH rfl (PySem.evalArgs_none (hm pins s1 σ H1 x [] v [] Q I1 r1 .nil q1))⟩
theorem nY(pa:PlainAttrs T)(slot:Slot T name id)(V_:typeOf (.builtin id)=pure (.type "method_descriptor"))(hm:Dl X id r)(ho:PE X o to)(ha:PA X (e::es) t)(SE:AZ o name X.env (x_ o X.env)=x_ o X.env:=by rfl)(hfew:((AT cpos (p_ (e::es) X.env)).all (λx=>!x.1)&&(OU cpos (FU [] X.env)).all (λx=>x.1.isSome)&&decide ((e::es).length+([]:List Keyword).length+(if([]:List Keyword).isEmpty then 0 else 1)<30))=e_:=by rfl)(TD:(Sf.endLine==cpos.line)=e_:=by rfl)(hs:p_ (e::es) X.env=↑ae::p_ es X.env:=by rfl)(hplain:(AT cpos (p_ es X.env)).any (·.1)=a_:=by rfl):PE X (.Call (.Attribute o name Sf) (e::es) [] cpos) (EG X.K T r to t):=by intro pins s σ H Q I h;refine wpAny_Call_method_late SE hfew TD rfl (jk (ho pins s σ H _ I h) λv s1⟨x,H1,I1,r1,ty,q1⟩=>?_);obtain⟨h1,h2⟩:=Kj I1 r1 ty;refine⟨T,id,pa,slot,V_,h1,h2,?_⟩;have hA:=ha cpos pins s1 σ H1 _ I1 q1;rw[hs]at hA⊢;refine BH (by show(a_||(AT cpos (p_ es X.env)).any (·.1))=a_;rw[hplain]<;>rfl) (OV ?_);exact jk hA λus s2⟨vs,H2,I2,r2,q2⟩=>hm pins s2 σ H2 x vs v us Q I2 r1 r2 q2/-xs.append(e),list.index on a module's tuple..are Dl facts of 06m-/
end
def EH(X:Cx)(id:String)(r:V->List V->Hp->VK->Prop):Prop:=∀(pins:List (h_×Obj))(s:l_)(σ:St)(H:Hp)(x:V)(xs:List V)(v:g_)(us:List g_)(Q:VK),zu X pins σ H s->RelV x v->zQ xs us->r x xs H Q->o_ ↑n X.A (call (.builtin id) (v::us)) (EP X pins σ Q) X.xe s
def zQ.one:∀{x:V}{us:List g_},zQ [x] us->∃u,us=[u]/\RelV x u|_,_,.cons r .nil=>⟨_,rfl,r⟩
def zQ.zero:∀{us:List g_},zQ [] us->us=[]|_,.nil=>rfl
def zQ.dropLast(h:zQ xs us):zQ xs.dropLast us.dropLast:=by induction h with|nil=>exact .nil|cons r t ih=>cases t with|nil=>exact .nil|cons q t'=>exact .cons r ih
def YF(l:List α):l.eraseIdx (l.length-1)=l.dropLast:=by induction l with|nil=>rfl|cons a r ih=>cases r with|nil=>rfl|cons b r=>
   have e:(a::b::r).length-1=((b::r).length-1)+1:=by have h1:(a::b::r).length=r.length+2:=rfl;have h2:(b::r).length=r.length+1:=rfl;omega
   rw[e,List.eraseIdx_cons_succ,ih];all_goals rfl
section
variable{X:Cx}{pins:List (h_×Obj)}{σ:St}{H:Hp}{s:l_}{l b:h_}{xs ys zs:List V}
theorem zu.lset{its its':List g_}{n:Nat}{f:Array g_->Array g_}{t':Nat}(I:zu X pins σ H s)(hH:H l=b_ (.lst xs))(e:s.heap.get? l=b_ {cls:=.type "list",data:=.seq its.toArray n})(hf:f its.toArray=its'.toArray)(hv:zQ ys its')(hz:ys.length<=j_):zu X pins σ (zO H l (.lst ys)) {s with heap:=s.heap.update l (AF f),toks:=t'}:=by have q:=PySem.IsL.update e f;rw[hf]at q;refine I.write (x:=l) (e:=l) (by rw[hH];exact trivial) (.inl rfl) (λb' u hb hu=>(Az s.heap (AF f) (AE hb)).trans hu) ⟨_,q⟩ ?_;exact⟨hz,its',_,hv,q⟩
theorem zu.lnew(I:zu X pins σ H s)(hv:zQ ys its)(hz:ys.length<=j_):zu X pins σ (zO H ↑a (.lst ys)) {s with heap:=s.heap.push {cls:=.type "list",data:=.seq its.toArray},toks:=t'}:=I.laid (λ_ _ q=>f' _ q) (r_ _) ⟨hz,its,0,hv,sf _ rfl⟩
theorem zu.fresh(I:zu X pins σ H s):H ↑a=f_:=I.hok.fresh (r_ _)
theorem zu.lstM(I:zu X pins σ H s)(hH:H l=b_ (.lst xs)):↑e<=j_/\∃(its:List g_)(n:Nat),zQ xs its/\↑e=its.length/\s.heap.get? l=b_ {cls:=.type "list",data:=.seq its.toArray n}:=by obtain⟨z,its,n,r,e⟩:=I.hok l _ hH;exact⟨z,its,n,r,r.length,e⟩
theorem Zz(h:n<=j_):BR n=a_:=by unfold BR;exact decide_eq_false ↑p
end
section
variable{X:Cx}
def XM:V->List V->Hp->VK->Prop:=λx vs H Q=>∃l xs y,x=.ref l/\vs=[y]/\H l=b_ (.lst xs)/\↑e<j_/\Q .non (zO H l (.lst (xs++[y])))
theorem xE:EH X "list.append" XM:=by intro pins s σ H x vs v us Q I rx rv h;obtain⟨l,xs,y,rfl,rfl,hH,hz,q⟩:=h;cases rx;obtain⟨u,rfl,ru⟩:=rv.one;obtain⟨z,its,n,r,hl,e⟩:=I.lstM hH;refine call_meets F.slot_list_append ⟨_,e,rfl⟩ F.entry_list_append (F.args_list_append_2 _ _) (PySem.list_append l its.toArray n u (by rw[sr];omega)) ⟨e,?_⟩;refine⟨.non,_,I.lset (its':=its++[u]) hH e ↑G (r.append (.cons ru .nil)) ?_,rfl,q⟩;rw[sj,AG];omega
def XN:V->List V->Hp->VK->Prop:=λx vs H Q=>∃l b xs zs,x=.ref l/\vs=[.ref b]/\H l=b_ (.lst xs)/\H b=b_ (.lst zs)/\↑e+zs.length<=j_/\Q .non (zO H l (.lst (xs++zs)))
theorem WS:EH X "list.extend" XN:=by
 intro pins s σ H x vs v us Q I rx rv h;obtain⟨l,b,xs,zs,rfl,rfl,hH,hB,hz,q⟩:=h;cases rx;obtain⟨u,rfl,ru⟩:=rv.one;cases ru;obtain⟨z,its,n,r,hl,e⟩:=I.lstM hH;obtain⟨z2,its2,n2,r2,hl2,e2⟩:=I.lstM hB;have hsz:↑k+its2.toArray.size<=j_:=by rw[sr,sr];omega
 have TK:¬(!its.toArray.isEmpty&&BR (↑k+its2.toArray.size))=e_:=by rw[Zz hsz,OE];exact sM
 refine call_meets F.slot_list_extend ⟨_,e,rfl⟩ F.entry_list_extend (F.args_list_extend_2 _ _) (AutoSeq1.list_extend_list_list_0 l its.toArray n b its2.toArray n2 TK (by rw[sr];omega) ↑p) ⟨e,e2,?_⟩;refine⟨.non,_,I.lset (its':=its++its2) hH e ↑G (r.append r2) ?_,rfl,q⟩;rw[sj];omega
def Hl:V->List V->Hp->VK->Prop:=λx vs H Q=>∃l xs y,x=.ref l/\vs=[]/\H l=b_ (.lst xs)/\xs[↑e-1]?=b_ y/\Q y (zO H l (.lst xs.dropLast))
theorem Mt:EH X "list.pop" Hl:=by
 intro pins s σ H x vs v us Q I rx rv h;obtain⟨l,xs,y,rfl,rfl,hH,hy,q⟩:=h;cases rx;have hus:=rv.zero;subst hus;obtain⟨z,its,n,r,hl,e⟩:=I.lstM hH;obtain⟨u,hu,ru⟩:=r.get hy;have hy':its.toArray[↑k-1]?=b_ u:=by show its.toArray[its.length-1]?=b_ u;rw[<-Array.getElem?_toList,<-hl];exact hu
 refine call_meets F.slot_list_pop ⟨_,e,rfl⟩ F.entry_list_pop (F.args_list_pop_1 _) (MeetsSeq.list_pop_last l its.toArray n u hy' (by rw[sr];omega)) ⟨e,?_⟩;refine⟨y,_,I.lset (its':=its.dropLast) hH e ?_ r.dropLast ?_,ru,q⟩;·show its.toArray.eraseIdxIfInBounds (↑k-1)=its.dropLast.toArray;rw[sr,List.eraseIdxIfInBounds_toArray,YF]
 ·rw[List.length_dropLast];omega
end
section
variable{prog:sN}{w:sY}{A:A3}{E:g_->l_->Prop}{s:l_}
theorem Mu{a c n:Nat}(hac:a<=c)(hc:c<=n):FT (b_ (a:Int)) (b_ (c:Int)) f_ n=((a:Int),(c:Int),1):=by
 simp only[FT,S5];have h1:¬((a:Int)<0):=by omega
 have h2:¬((c:Int)<0):=by omega
 simp only[h1,h2,if_false,show(1:Int)>0 by decide,if_true];congr 1;·omega
 ·congr 1;omega
end
section
variable{κ:Type}[DecidableEq κ]
def jH(kvs:List (κ×V))(k:κ):Option V:=(kvs.find? λkv=>decide (kv.1=k)).map (·.2)
def k7(kvs:List (κ×V))(k:κ)(v:V):List (κ×V):=if(kvs.any λkv=>decide (kv.1=k))=e_ then kvs.map (λkv=>if kv.1=k then(kv.1,v)else kv)else kvs++[(k,v)]
theorem xv{p:κ×V}{r:List (κ×V)}{k:κ}(e:p.1=k):jH (p::r) k=b_ p.2:=by simp[jH,J_,e]
theorem xw{p:κ×V}{r:List (κ×V)}{k:κ}(e:¬p.1=k):jH (p::r) k=jH r k:=by simp[jH,J_,e]
theorem pp(k:κ):∀kvs:List (κ×V),(kvs.any λkv=>decide (kv.1=k))=(jH kvs k).isSome
 |[]=>rfl|p::r=>by
  rw[RN];by_cases e:p.1=k;·simp only[xv e,decide_eq_true e,Bool.true_or,Option.isSome_some]
  ·rw[xw e,decide_eq_false e,Bool.false_or];exact pp k r
theorem ZA(k j:κ)(y:V):∀kvs:List (κ×V),jH (kvs.map λkv=>if kv.1=k then(kv.1,y)else kv) j=(jH kvs j).map λx=>if j=k then y else x
 |[]=>rfl|p::r=>by
  have ih:=ZA k j y r;rw[sG];by_cases h:p.1=k
  ·rw[if_pos h];by_cases e:p.1=j;·rw[xv (p:=(p.1,y)) e,xv e,Fx,if_pos (e.symm.trans h)]
   ·rw[xw (p:=(p.1,y)) e,xw e,ih]
  ·rw[if_neg h];by_cases e:p.1=j;·rw[xv (p:=p) e,xv e,Fx,if_neg (λz=>h (e.trans z))]
   ·rw[xw (p:=p) e,xw e,ih]
theorem t9(k j:κ)(y:V):∀kvs:List (κ×V),jH kvs k=f_->jH (kvs++[(k,y)]) j=if j=k then b_ y else jH kvs j
 |[],_=>by
  by_cases e:k=j;·rw[if_pos e.symm];exact xv (p:=(k,y)) e
  ·rw[if_neg (λz=>e z.symm)];exact xw (p:=(k,y)) e|p::r,hn=>by
  rw[List.cons_append];have hk:¬p.1=k:=λz=>by rw[xv z]at hn;cases hn
  rw[xw hk]at hn;have ih:=t9 k j y r hn;by_cases e:p.1=j;·rw[xv e,xv e,if_neg (λz=>hk (e.trans z))]
  ·rw[xw e,xw e,ih]
theorem Kk(kvs:List (κ×V))(k j:κ)(y:V):jH (k7 kvs k y) j=if j=k then b_ y else jH kvs j:=by
 unfold k7;by_cases a:(kvs.any λkv=>decide (kv.1=k))=e_
 ·rw[if_pos a,ZA];rw[pp]at a;by_cases e:j=k;·obtain⟨x,hx⟩:=RM.mp a;rw[if_pos e,e,hx,Fx,if_pos rfl]
  ·rw[if_neg e];cases jH kvs j with|none=>rfl|some x=>rw[Fx,if_neg e]
 ·rw[if_neg a];refine t9 k j y kvs ?_;rw[pp]at a;cases q:jH kvs k with|none=>rfl|some x=>rw[q]at a;exact(a rfl).elim
theorem uE(kvs:List (κ×V))(k:κ)(v:V):(k7 kvs k v).length<=kvs.length+1:=by
 unfold k7;split;·rw[j'];omega
 ·rw[sj,sA,E_];omega
theorem Kl{kvs:List (κ×V)}{k:κ}(v:V)(h:jH kvs k=f_):k7 kvs k v=kvs++[(k,v)]:=by unfold k7;rw[pp,h];exact if_neg ↑o
theorem pf.isSome_eq(r:pf o u):o.isSome=u.isSome:=by cases o with
 |none=>cases u with|none=>rfl|some _=>exact(show False from r).elim
 |some _=>cases u with|none=>exact(show False from r).elim|some _=>rfl
theorem pf.getD(r:pf o u)(rd:RelV d d'):RelV (o.getD d) (u.getD d'):=by cases o with
 |none=>cases u with|none=>exact rd|some _=>exact(show False from r).elim
 |some _=>cases u with|none=>exact(show False from r).elim|some _=>exact r
theorem KV.val{kvs:List (κ×V)}{vs:List (κ×g_)}(r:KV kvs vs)(k:κ):pf (jH kvs k) (valueAt vs k):=by unfold KV at r;induction r with|nil=>exact D_|@cons p q ps qs h t ih=>
  obtain⟨h1,h2⟩:=h;by_cases e:p.1=k
  ·have e':q.1=k:=h1.symm.trans e;have b:valueAt (q::qs) k=b_ q.2:=by simp[valueAt,J_,e']
   rw[xv e,b];exact h2
  ·have e':¬q.1=k:=λz=>e (h1.trans z);have b:valueAt (q::qs) k=valueAt qs k:=by simp[valueAt,J_,e']
   rw[xw e,b];exact ih
theorem KV.any(r:KV kvs vs)(k:κ):(kvs.any λkv=>decide (kv.1=k))=vs.any λkv=>decide (kv.1=k):=by unfold KV at r;induction r with|nil=>rfl|cons h t ih=>rw[RN,RN,ih,h.1]
theorem KV.repl(r:KV kvs vs)(k:κ)(ry:RelV y u):KV (kvs.map λkv=>if kv.1=k then(kv.1,y)else kv) (vs.map λkv=>if kv.1=k then(kv.1,u)else kv):=by unfold KV at r⊢;induction r with|nil=>exact .nil|@cons p q ps qs h t ih=>
  rw[sG,sG];refine .cons ?_ ih;obtain⟨h1,h2⟩:=h;by_cases e:p.1=k;·rw[if_pos e,if_pos (h1.symm.trans e)];exact⟨h1,ry⟩
  ·rw[if_neg e,if_neg (λz=>e (h1.trans z))];exact⟨h1,h2⟩
theorem KV.put(r:KV kvs vs)(k:κ)(ry:RelV y u):KV (k7 kvs k y) (stored vs k u):=by
 unfold k7 stored;rw[r.any k];by_cases e:(vs.any λkv=>decide (kv.1=k))=e_;·rw[if_pos e,if_pos e];exact r.repl k ry
 ·rw[if_neg e,if_neg e];exact OX.snoc r ⟨rfl,ry⟩
theorem KV.length(r:KV kvs vs):kvs.length=↑g:=Paired.length r
end
def lz(r:RelV (kV k) u):(zP P w).is k u=e_:=by cases k with|inl i=>obtain⟨t,e⟩:=(show∃t,u=g_.int i t from r);subst e;exact Zq P w i t|inr x=>obtain⟨t,e⟩:=(show∃t,u=Bz x t from r);subst e;exact gQ P w x t
theorem tf:∀{ks:List Key}{us:List g_},zQ (ks.map kV) us->ItemsAre (zP P w) ks us|[],_,r=>by rw[Rg]at r;cases r;exact .nil|k::ks,_,r=>by rw[sG]at r;cases r with|cons h t=>exact .cons (lz h) (tf t)
abbrev KT(H:Hp):List (List Key×V)->List (List Key×h_×g_)->Prop:=OX λp q=>p.1=q.1/\H q.2.1=b_ (.tup (p.1.map kV))/\RelV p.2 q.2.2
def KT.val{H:Hp}{kvs:List (List Key×V)}{xs:List (List Key×h_×g_)}(r:KT H kvs xs)(k:List Key):pf (jH kvs k) ((atKey xs k).map (·.2)):=by induction r with|nil=>exact D_|@cons p q ps qs h t ih=>
  obtain⟨h1,_,h2⟩:=h;by_cases e:p.1=k
  ·have e':q.1=k:=h1.symm.trans e;have b:atKey (q::qs) k=b_ q.2:=by simp[atKey,J_,e']
   rw[xv e,b];exact h2
  ·have e':¬q.1=k:=λz=>e (h1.trans z);have b:atKey (q::qs) k=atKey qs k:=by simp[atKey,J_,e']
   rw[xw e,b];exact ih
def KT.repl(r:KT H kvs xs)(k:List Key)(ry:RelV y u):KT H (kvs.map λkv=>if kv.1=k then(kv.1,y)else kv) (xs.map (putAt k u)):=by induction r with|nil=>exact .nil|@cons p q ps qs h t ih=>
  rw[sG,sG];refine .cons ?_ ih;obtain⟨h1,h2,h3⟩:=h;unfold putAt;by_cases e:p.1=k;·rw[if_pos e,if_pos (h1.symm.trans e)];exact⟨h1,h2,ry⟩
  ·rw[if_neg e,if_neg (λz=>e (h1.trans z))];exact⟨h1,h2,h3⟩
def KT.put(r:KT H kvs xs)(k:List Key)(hb:H b=b_ (.tup (k.map kV)))(ry:RelV y u):KT H (k7 kvs k y) (storedH xs k b u):=by
 have e:(kvs.any λkv=>decide (kv.1=k))=(atKey xs k).isSome:=by rw[pp,(r.val k).isSome_eq,RJ]
 unfold k7 storedH;rw[e];by_cases q:(atKey xs k).isSome=e_;·rw[if_pos q,if_pos q];exact r.repl k ry
 ·rw[if_neg q,if_neg q];exact OX.snoc r ⟨rfl,hb,ry⟩
def KT.keeps(r:KT H kvs xs)(ht:∀b ys,H b=b_ (.tup ys)->H' b=b_ (.tup ys)):KT H' kvs xs:=OX.mapP r λ_ _ z=>⟨z.1,ht _ _ z.2.1,z.2.2⟩
section
variable{P:sN}{w:sY}{H:Hp}{h:w_}{a:h_}
theorem N6(ok:uA P w H h)(e:Rd H a u):jw P w H h a u:=e.ok ok
theorem lA(ok:uA P w H h)(e:Rd H a (.dK kvs)):kvs.length<=j_/\(a==B')=a_/\∃vs,KV kvs vs/\h.DictOf (zP P w) a vs:=show jw P w H h a (.dK kvs)from N6 ok e
theorem Hm(ok:uA P w H h)(e:H a=b_ (.dK kvs)):kvs.length<=j_/\(a==B')=a_/\∃vs,KV kvs vs/\h.DictOf (zP P w) a vs:=lA ok (.inl e)
theorem iI(ok:uA P w H h)(e:H a=b_ (.tup (ks.map kV))):(R_ (zP P w)).is h ks a:=by obtain⟨_,its,r,o,h1,h2,n,h3⟩:=(show jw P w H h a (.tup (ks.map kV))from ok a _ e);exact⟨o,its.toArray,n,h1,h2,h3,by simpa using tf r⟩
theorem cm(ok:uA P w H h)(e:Rd H a (.dT kvs)):kvs.length<=j_/\(a==B')=a_/\∃xs,KT H kvs xs/\h.DictOfH (R_ (zP P w)) a xs:=by
 obtain⟨z,y,xs,r,o,es,ep,h1,h2,h3,h4,h5⟩:=(show jw P w H h a (.dT kvs)from N6 ok e);refine⟨z,y,xs,r,o,es,ep,h1,h2,h3,h4,λx hx=>?_,h5⟩;have all:∀{l:List (List Key×V)}{m:List (List Key×h_×g_)},KT H l m->∀x∈m,(R_ (zP P w)).is h x.1 x.2.1:=by intro l m q;induction q with|nil=>intro x hx;exact nomatch hx|@cons p q ps qs hq t ih=>
   intro x hx;rcases sB.mp hx with e|hx;·subst e;exact iI ok (by rw[<-hq.1];exact hq.2.1)
   ·exact ih x hx
 exact all r x hx
theorem Hn(ok:uA P w H h)(e:H a=b_ (.dT kvs)):kvs.length<=j_/\(a==B')=a_/\∃xs,KT H kvs xs/\h.DictOfH (R_ (zP P w)) a xs:=cm ok (.inl e)
end
def nR(H:Hp)(a:h_)(y:V)(r:Option V):Prop:=(∃kvs k,Rd H a (.dK kvs)/\y=kV k/\r=jH kvs k)\/∃kvs k b,Rd H a (.dT kvs)/\y=.ref b/\H b=b_ (.tup (k.map kV))/\r=jH kvs k
def YG(H:Hp)(a:h_)(y v:V)(H':Hp):Prop:=(∃kvs k,H a=b_ (.dK kvs)/\y=kV k/\kvs.length<j_/\H'=zO H a (.dK (k7 kvs k v)))\/∃kvs k b,H a=b_ (.dT kvs)/\y=.ref b/\H b=b_ (.tup (k.map kV))/\kvs.length<j_/\H'=zO H a (.dT (k7 kvs k v))
theorem nR.k{H:Hp}{a:h_}{kvs:List (Key×V)}{k:Key}(e:H a=b_ (.dK kvs)):nR H a (kV k) (jH kvs k):=.inl ⟨kvs,k,.inl e,rfl,rfl⟩
theorem YG.k{H:Hp}{a:h_}{kvs:List (Key×V)}{k:Key}{v:V}(e:H a=b_ (.dK kvs))(hl:kvs.length<j_):YG H a (kV k) v (zO H a (.dK (k7 kvs k v))):=.inl ⟨kvs,k,e,rfl,hl,rfl⟩
section
variable{X:Cx}{pins:List (h_×Obj)}{σ:St}{H:Hp}{s:l_}{a:h_}{y v:V}{u r:g_}{o:Option V}{A:A3}{E:g_->l_->Prop}
theorem zu.big(I:zu X pins σ H s):B'<↑a:=by have h:v_<↑a:=(I.mod.glob.keeps I.bk).lt;exact Nat.lt_trans ↑o h
theorem tm(hu:A.units+1<Fk)(I:zu X pins σ H s)(g:nR H a y (b_ v))(ry:RelV y u)(h:∀w' s',zu X pins σ H s'->RelV v w'->Q w' s'):o_ ↑n A (OD (.ref a) u) Q E s:=by
 rcases g with⟨kvs,k,e,ey,l⟩|⟨kvs,k,b,e,ey,eb,l⟩;·subst ey;obtain⟨z,hd,vs,rel,dd⟩:=lA I.hok e;obtain⟨w',hw,Td⟩:=pf.some_of (v:=v) (o:=valueAt vs k) (by rw[l];exact rel.val k);exact wpAny_getItem_of (lz ry) dd.mapOf hw (h w' _ (I.tok _) Td)
 ·subst ey;cases(show u=sE b from ry);obtain⟨z,hd,xs,rel,dd⟩:=cm I.hok e;obtain⟨w',hw,Td⟩:=pf.some_of (v:=v) (o:=(atKey xs k).map (·.2)) (by rw[l];exact rel.val k);obtain⟨p,hp,hp2⟩:=sJ.mp hw;refine wpAny_getItem_heap (FY hu) (iI I.hok eb) dd hp ?_;rw[hp2];exact h w' _ (I.tok _) Td
theorem Dr(hu:A.units+1<Fk)(I:zu X pins σ H s)(g:nR H a y o)(ry:RelV y u)(h:∀s',zu X pins σ H s'->Q (.bool o.isSome) s'):o_ ↑n A (sX .In u (.ref a)) Q E s:=by
 rcases g with⟨kvs,k,e,ey,l⟩|⟨kvs,k,b,e,ey,eb,l⟩;·subst ey;obtain⟨z,hd,vs,rel,dd⟩:=lA I.hok e;refine wpAny_in_of (lz ry) hd dd.mapOf ?_;rw[<-(rel.val k).isSome_eq,<-l];exact h _ (I.tok _)
 ·subst ey;cases(show u=sE b from ry);obtain⟨z,hd,xs,rel,dd⟩:=cm I.hok e;refine wpAny_in_heap (FY hu) (iI I.hok eb) hd dd ?_;have q:=(rel.val k).isSome_eq;rw[RJ]at q;rw[<-q,<-l];exact h _ (I.tok _)
theorem XO(hu:A.units+1<Fk)(I:zu X pins σ H s)(g:nR H a y o)(ry:RelV y u)(h:∀s',zu X pins σ H s'->Q (.bool (!o.isSome)) s'):o_ ↑n A (sX .NotIn u (.ref a)) Q E s:=by
 rcases g with⟨kvs,k,e,ey,l⟩|⟨kvs,k,b,e,ey,eb,l⟩;·subst ey;obtain⟨z,hd,vs,rel,dd⟩:=lA I.hok e;refine wpAny_notIn_of (lz ry) hd dd.mapOf ?_;rw[<-(rel.val k).isSome_eq,<-l];exact h _ (I.tok _)
 ·subst ey;cases(show u=sE b from ry);obtain⟨z,hd,xs,rel,dd⟩:=cm I.hok e;refine wpAny_notIn_heap (FY hu) (iI I.hok eb) hd dd ?_;have q:=(rel.val k).isSome_eq;rw[RJ]at q;rw[<-q,<-l];exact h _ (I.tok _)
theorem XQ(I:zu X pins σ H s)(mu:IG (H a))(hs:Bx a s.heap h')(he:∃q,h'.get? a=b_ q)(new:jw X.prog X.w (zO H a ob) h' a ob):zu X pins σ (zO H a ob) {s with heap:=h',toks:=t'}:=I.write (x:=a) (e:=a) mu (.inl rfl) (λb q hb z=>(hs.2 b hb).trans z) he new
theorem Km(z:kvs.length<=j_)(hd:(a==B')=a_)(rel:KV kvs vs)(dd:h'.DictOf (zP P w) a vs):jw P w H' h' a (.dK kvs):=⟨z,hd,vs,rel,dd⟩
theorem WT(hu:A.units+1<Fk)(I:zu X pins σ H s)(g:YG H a y v H')(ry:RelV y u)(rv:RelV v r)(h:∀s',zu X pins σ H' s'->Q () s'):o_ ↑n A (setItem (.ref a) u r) Q E s:=by
 rcases g with⟨kvs,k,e,ey,l,eH⟩|⟨kvs,k,b,e,ey,eb,l,eH⟩
 ·subst ey eH;obtain⟨z,hd,vs,rel,dd⟩:=Hm I.hok e;have hz:↑g<=j_:=by rw[<-rel.length];exact z
  have hl:(k7 kvs k v).length<=j_:=by have:=uE kvs k v;omega
  refine wpAny_setItem_pairs (hsz:=hz) (lz ry) dd λh' dd' hs=>h _ ?_;have he:∃q,h'.get? a=b_ q:=let⟨q,_,_,hq,_⟩:=dd';⟨q,hq⟩;exact XQ I (by rw[e];exact D_) hs he (Km hl hd (rel.put k rv) dd')
 ·subst ey eH;cases(show u=sE b from ry);obtain⟨z,hd,xs,rel,dd⟩:=Hn I.hok e;have hz:↑e<=j_:=by rw[<-Paired.length rel];exact z
  have hl:(k7 kvs k v).length<=j_:=by have:=uE kvs k v;omega
  refine wpAny_setItem_heap (hsz:=hz) (FY hu) (iI I.hok eb) dd λh' dd' hs=>h _ ?_;obtain⟨q,es,ep,hq,h2,h3,h4,_,h5⟩:=dd';refine XQ I (by rw[e];exact D_) hs ⟨q,hq⟩ ⟨hl,hd,_,(rel.put k eb rv).keeps λc ys ec=>?_,q,es,ep,hq,h2,h3,h4,h5⟩;rw[zg (lr ec e (λz=>nomatch z))];exact ec
end
def Kn(i:A1):Prop:=∀ov iv,OT i a_ ov iv=operate [ov,iv] (OD ov iv)
def XR{prog:sN}{w:sY}{A:A3}{E:g_->l_->Prop}{s:l_}{env:Env}{value slice:A1}{pos:Pos}{T id:String}{Q:g_->l_->Prop}(hl:typeLookup (.type T) "__getitem__"=pure (b_ (.builtin id)))(hs:Kn slice)(h:o_ ↑w A (x_ value env) (λo s₁=>o_ ↑w A (x_ slice env) (λi s₂=>s₂.TypeIs o T/\o_ ↑w A (OD o i) Q E s₂) E s₁) E s):o_ ↑w A (x_ (.Subscript value slice pos) env) Q E s:=by
 refine Subscript_ (sQ h (λo s₁ h₁=>sQ h₁ (λi s₂ h₂=>?_) λ_ _ x=>x) λ_ _ x=>x);obtain⟨hT,h₂⟩:=h₂;unfold Oh;refine c_ ?_;rw[getitemInPython_of_ne hT.not_modules];refine c_ (wpAny_specialOf hT hl ?_);have fin:o_ ↑w A (OT slice a_ o i) (λr s₃=>o_ ↑w A (letTemporaryGo value o r>>=λ_=>pure r) Q E s₃) E s₂:=by rw[hs o i];exact wpAny_operating (sQ h₂ (λr s₃ h₃=>c_ (wpAny_letTemporaryGo (i_ h₃))) λ_ _ x=>x)
 first|exact i_ (c_ fin)|exact c_ (i_ (c_ fin))|exact c_ fin
def eB(I:zu X pins σ H s)(g:nR H a y o):s.TypeIs (.ref a) "dict":=by
 rcases g with⟨kvs,k,e,_,_⟩|⟨kvs,k,b,e,_,_,_⟩;·obtain⟨_,_,vs,_,dd⟩:=lA I.hok e;exact dd.typeIs
 ·obtain⟨_,_,xs,_,dd⟩:=cm I.hok e;exact dd.typeIs
def Ho(td ty:TE):TE:=λσ H Q=>td σ H λx H1=>ty σ H1 λy H2=>∃a v,x=.ref a/\nR H2 a y (b_ v)/\Q v H2
def Pg(ty td:TE):TE:=λσ H Q=>ty σ H λy H1=>td σ H1 λx H2=>∃a o,x=.ref a/\nR H2 a y o/\Q (.bl (!o.isSome)) H2
def tq(td ty tv:TE):TS:=λD σ H=>tv σ H λv H1=>td σ H1 λx H2=>ty σ H2 λy H3=>∃a H4,x=.ref a/\YG H3 a y v H4/\D.nx σ H4
section
variable{X:Cx}{o i e value:A1}{pos SA tpos:Pos}{td ty tv:TE}
theorem Ph(hu:X.A.units+1<Fk)(ho:PE X o td)(hi:PE X i ty)(hs:Kn i):PE X (.Subscript o i pos) (Ho td ty):=by intro pins s σ H Q I h;refine XR O7.lookup hs (jk (ho pins s σ H _ I h) λu s1⟨x,H1,I1,rx,q1⟩=>jk (hi pins s1 σ H1 _ I1 q1) λiv s2⟨y,H2,I2,ry,a,v,ex,g,q2⟩=>?_);subst ex;obtain rfl:u=sE a:=rx;exact⟨eB I2 g,tm hu I2 g ry λw' s3 I3 Td=>⟨v,H2,I3,Td,q2⟩⟩
theorem WU(hu:X.A.units+1<Fk)(hi:PE X i ty)(ho:PE X o td):PC X .NotIn i o (Pg ty td):=by intro pins s σ H Q I h;refine jk (hi pins s σ H _ I h) λiv s1⟨y,H1,I1,ry,q1⟩=>jk (ho pins s1 σ H1 _ I1 q1) λu s2⟨x,H2,I2,rx,a,ov,ex,g,q2⟩=>?_;subst ex;obtain rfl:u=sE a:=rx;exact XO hu I2 g ry λs3 I3=>⟨.bl (!ov.isSome),H2,I3,rfl,q2⟩
theorem pO(hu:X.A.units+1<Fk)(ho:PE X o td)(hi:PE X i ty)(hv:PE X value tv)(hs:BA value (b_ (.Subscript o i SA)) pos.line X.env=pure a_):PS X (.Assign [.Subscript o i SA] value pos) (tq td ty tv):=by intro pins s σ H D I h;refine wpAny_Assign_Subscript (jk (hv pins s σ H _ I h) λr s1⟨v,H1,I1,rv,q1⟩=>jk (ho pins s1 σ H1 _ I1 q1) λu s2⟨x,H2,I2,rx,q2⟩=>jk (hi pins s2 σ H2 _ I2 q2) λiv s3⟨y,H3,I3,ry,a,H4,ex,g,q3⟩=>?_) hs;subst ex;obtain rfl:u=sE a:=rx;exact WT hu I3 g ry rv λs4 I4=>⟨σ,H4,I4,q3⟩
end
def ZB(h:w_)(hb:B'<h.objs.size):jw P w H (h.push {cls:=.type "dict",data:=.dict #[]}) h.objs.size (.dK []):=⟨A5 _,beq_eq_false_iff_ne.mpr (AE (su hb)),[],.nil,w_.DictOf.new h⟩
def oR:TE:=λ_ H Q=>∀p,H p=f_->Q (.ref p) (zO H p (.dK []))
section
variable{X:Cx}{pos:Pos}
theorem cp:PE X (.Dict [] [] pos) oR:=λpins s σ H Q I h=>wpAny_Dict_empty ⟨.ref ↑a,_,I.laid (a:=↑a) (o:=.dK []) (t':=s.toks) (λ_ _ q=>f' _ q) (r_ _) (ZB s.heap I.big),rfl,h _ (I.hok.fresh (r_ _))⟩
end
def uF(kvs more:List (Key×V)):List (Key×V):=more.foldl (λSk kv=>k7 Sk kv.1 kv.2) kvs
def KV.merge:∀{more:List (Key×V)}{rs:List (Key×g_)}{kvs:List (Key×V)}{vs:List (Key×g_)},KV more rs->KV kvs vs->KV (uF kvs more) (merged vs rs):=by intro more rs kvs vs r;unfold KV at r;induction r generalizing kvs vs with|nil=>intro q;exact q|@cons p q ps qs h t ih=>
  intro r0;have e:KV (k7 kvs p.1 p.2) (stored vs q.1 q.2):=by have:=r0.put p.1 h.2;rw[<-h.1];exact this
  exact ih e
theorem nZ:∀(more kvs:List (Key×V)),(uF kvs more).length<=kvs.length+more.length|[],kvs=>by show kvs.length<=kvs.length+0;omega|p::r,kvs=>by have h1:=nZ r (k7 kvs p.1 p.2);have h2:=uE kvs p.1 p.2;show(uF (k7 kvs p.1 p.2) r).length<=_;rw[sA];omega
structure M1(X:Cx)(o:A1)(m:Str)(Sf:Pos)(e:A1)(cpos:Pos):Prop where
 base:AZ o m X.env (x_ o X.env)=x_ o X.env
 few:((AT cpos (p_ [e] X.env)).all (λx=>!x.1)&&(OU cpos (FU [] X.env)).all (λx=>x.1.isSome)&&decide (([e]:List A1).length+([]:List Keyword).length+(if([]:List Keyword).isEmpty then 0 else 1)<30))=e_
 line:(Sf.endLine==cpos.line)=e_
 trees:AT cpos (p_ [e] X.env)=[↑ae]
structure M2(X:Cx)(o:A1)(m:Str)(Sf:Pos)(e f:A1)(cpos:Pos):Prop where
 base:AZ o m X.env (x_ o X.env)=x_ o X.env
 few:((AT cpos (p_ [e,f] X.env)).all (λx=>!x.1)&&(OU cpos (FU [] X.env)).all (λx=>x.1.isSome)&&decide (([e,f]:List A1).length+([]:List Keyword).length+(if([]:List Keyword).isEmpty then 0 else 1)<30))=e_
 line:(Sf.endLine==cpos.line)=e_
 trees:AT cpos (p_ [e,f] X.env)=[↑ae,(a_,x_ f X.env)]
def Cv(H:Hp)(a:h_):Prop:=(∃kvs,Rd H a (.dK kvs))\/∃kvs,Rd H a (.dT kvs)
def YH(I:zu X pins σ H s)(d:Cv H a):s.TypeIs (.ref a) "dict"/\(∀b,sE a=.ref b->∃ob,s.heap.get? b=b_ ob/\ob.dict=f_)/\(a==B')=a_:=by
 rcases d with⟨kvs,e⟩|⟨kvs,e⟩;·obtain⟨_,hd,vs,_,dd⟩:=lA I.hok e;refine⟨dd.typeIs,λb q=>?_,hd⟩;cases q;obtain⟨ob,_,_,h1,h2,_⟩:=dd;exact⟨ob,h1,h2.2.1⟩
 ·obtain⟨_,hd,xs,_,dd⟩:=cm I.hok e;refine⟨dd.typeIs,λb q=>?_,hd⟩;cases q;obtain⟨ob,_,_,h1,h2,_⟩:=dd;exact⟨ob,h1,h2.2.1⟩
section
variable{X:Cx}{pins:List (h_×Obj)}{σ:St}{H:Hp}{s:l_}{a:h_}{y d:V}{u r:g_}{o:Option V}{A:A3}{E:g_->l_->Prop}
theorem Mv(hu:A.units+1<Fk)(I:zu X pins σ H s)(g:nR H a y o)(ry:RelV y u)(h:∀w' s',zu X pins σ H s'->RelV (o.getD .non) w'->Q w' s'):o_ ↑n A (call (.builtin "dict.get") [.ref a,u]) Q E s:=by
 rcases g with⟨kvs,k,e,ey,l⟩|⟨kvs,k,b,e,ey,eb,l⟩;·subst ey;obtain⟨z,hd,vs,rel,dd⟩:=lA I.hok e;refine Rh Fs dd.typeIs OF (S6 _ _) (meets_dict_get (zP X.prog X.w) a (lz ry) hd) ⟨_,dd.mapOf,h _ _ (I.tok _) ?_⟩;rw[l];exact(rel.val k).getD rfl
 ·subst ey;cases(show u=sE b from ry);obtain⟨z,hd,xs,rel,dd⟩:=cm I.hok e;refine Rh Fs dd.typeIs OF (S6 _ _) (meetsH_dict_get (R_ (zP X.prog X.w)) a b hd) ⟨FY hu,k,xs,iI I.hok eb,dd,h _ _ (I.tok _) ?_⟩;rw[l];exact(rel.val k).getD rfl
end
def Mw(td ty:TE):TE:=λσ H Q=>td σ H λx H1=>∃a,x=.ref a/\Cv H1 a/\ty σ H1 λy H2=>∃o,nR H2 a y o/\Q (o.getD .non) H2
section
variable{X:Cx}{o e f:A1}{Sf cpos:Pos}{td ty tx:TE}
theorem Ko(hu:X.A.units+1<Fk)(ho:PE X o td)(he:PE X e ty)(m:M1 X o "get" Sf e cpos):PE X (.Call (.Attribute o "get" Sf) [e] [] cpos) (Mw td ty):=by intro pins s σ H Q I h;refine OG m.base m.few m.line FM Fs PySem.F.type_dict_get (jk (ho pins s σ H _ I h) λu s1⟨x,H1,I1,rx,a,ex,d,q1⟩=>?_);subst ex;obtain rfl:u=sE a:=rx;obtain⟨t1,t2,_⟩:=YH I1 d;refine⟨t1,t2,?_⟩;rw[m.trees];refine BH rfl (OV (AN (jk (he pins s1 σ H1 _ I1 q1) λiv s2⟨y,H2,I2,ry,ov,g,q2⟩=>RI ?_)));exact Mv hu I2 g ry λw' s3 I3 Td=>⟨_,H2,I3,Td,q2⟩
end
end L2
namespace Att
open PySem PySem.W PySem.Calls PyProof.Rows
def da:∀(ns:List Int)(vs:List g_),WellAll P h vs (ns.map WData.int)->IntsAre vs ns:=by intro ns;induction ns with|nil=>intro vs w;rw[Rg]at w;cases w;exact .nil|cons n ns ih=>intro vs w;rw[sG]at w;cases w with|cons a b=>cases a;exact .cons _ _ (ih _ b)
def WV{l:OpenLaw}{n:Nat}(hn:l.most=b_ n){P:Params}{h:w_}{args:List WData}{vals:List g_}(Α:l.row.toRowW.claim.pre args=e_)(hwl:WellAll P h vals args):∃a vs ns,vals=[sE a]/\args=[WData.list (ns.map WData.int)]/\h.get? a=b_ {cls:=.type "list",data:=.seq ↑i}/\IntsAre vs ns/\ns.length<=n:=by
 have hsh:WShape.hasAll [] args [.list .int]=e_:=(pre_splitW Α).1;have hc:l.pre.holds [] {args:=args}=e_:=(pre_splitW Α).2;obtain⟨d,r,rfl,h1,h2⟩:=hasAllW_cons hsh;obtain rfl:=hasAllW_nil h2;obtain⟨xs,rfl,h3⟩:=hasW_list h1;obtain⟨ns,rfl⟩:=items_int h3;have hlen:ns.length<=n:=by
  unfold OpenLaw.pre at hc;have h4:(WTm.not (.lt (.lit (.int (n:Int))) (.len (.arg 0)))).holds [] {args:=[.list (ns.map .int)]}=e_:=by have h4:=(holds_andW hc).1;rw[hn]at h4;exact h4
  have h5:=condW_of h4 (w_not (w_lt w_lit (w_len_list (w_arg rfl))));rw[j']at h5;refine Nat.le_of_not_lt λq=>?_;have q':(n:Int)<((ns.length:Nat):Int):=by omega
  first|(rw[decide_eq_true q']at h5;exact absurd h5 ↑o)|(simp at h5;omega)
 cases hwl with|cons w1 w2=>cases w2;cases w1 with|list ho hall=>exact⟨_,_,ns,rfl,rfl,ho,da ns _ hall,hlen⟩
def WW(l:OpenLaw)(args:List WData):l.row.toRowW.claim.post args (.bool e_) args=e_:=postW_of (r:=l.row.toRowW) (X:=(e_==e_)) (show WShape.has [] (.bool e_) .bool=e_ by first|rfl|decide|simp[WShape.has,WShape.arms,WShape.armsAll]) (show(WTm.eq .res (.lit (.bool e_))).value [] {args:=args,res:=b_ (.bool e_),after:=args}=b_ (.bool (e_==e_))from w_eq_bool (w_res rfl) w_lit) rfl
def attach_call{l:OpenLaw}{n:Nat}{q:sN}{SJ:List Str}{XP:(Str->Option g_)->w_->Prop}{YP:sY->w_->Prop}{d:DefRec}(hn:l.most=b_ n)(Tp:d.params.defaults=[])(call:∀(w:sY)(s₀ s₁:l_)(mg mb:Str->Option g_)(fa:h_)(o:Obj)(pm cd Sq:g_)(a:h_)(vs:List g_)(ns:List Int),Ground q SJ [] XP w s₀ mg mb s₁.heap->YP w s₁.heap->s₁.heap.get? fa=b_ o->o.data=.func (docDef d.name d.params d.body d.scope pm cd Sq)->s₁.heap.CodeRec cd d.name->mg d.name=b_ (.ref fa)->s₁.heap.get? a=b_ {cls:=.type "list",data:=.seq ↑i}->IntsAre vs ns->ns.length<=n->s₁.gens=#[]->FX (q_ l.prog w) callerA (.call (.ref fa) ⟨[.ref a],[]⟩) (λr s'=>r=.ok (.ret (.bool e_))/\OldK s₁.heap s'.heap/\s'.os=s₁.os/\Rc s'.gens) s₁):WalkO q SJ XP YP l.row.toRowW d [] (λf vs=>PySem.call f vs):=by intro w s₀ s₁ mg mb G Y fa o pm cd Sq dV kV ho hd Sz hD Λ hg args vals as Α hlay hrd hwl hlo;obtain rfl:dV=.none:=Dflts.none hD Tp;obtain rfl:kV=.none:=Dflts.noKw hD;obtain⟨a,vs,ns,rfl,rfl,η,TN,hlen⟩:=WV hn Α hwl;refine enter_call (Fd (call w s₀ s₁ mg mb fa o pm cd Sq a vs ns G Y ho (fd_plain hd) Sz Λ η TN hlen hg) λr s' hq=>?_);obtain⟨rfl,h2,h3,h4⟩:=hq;exact⟨.inl ⟨.bool e_,.bool e_,[],rfl,λ_=>rfl,.bool e_,WW l _,λ_=>⟨List.Pairwise.nil,λ_ hm=>(nomatch hm)⟩⟩,h2,h3,h4⟩
section
variable{prog:sN}{w:sY}{A:A3}{E:g_->l_->Prop}{s:l_}{K:Frag}
def Ds(h:w_)(L d:h_):List (h_×Obj):=(t_ h.objs.size).filterMap λa=>if a=L\/a=d then f_ else(h.get? a).map λo=>(a,o)
end
end Att
namespace L2
open PySem PySem.Spec PyProof.Rows
theorem tD:∀{vs:List g_}{ns:List Int},IntsAre vs ns->zQ (ns.map V.int) vs|_,_,.nil=>.nil|_,_,.cons n t h=>.cons ⟨t,rfl⟩ (tD h)
def Mx(H:Hp):Prop:=∀b,H b=f_\/b=tabP\/∃o xs,H b=b_ (.frz o (.lst xs))
def Kp{P:sN}{w:sY}{K:d_}{mg mb:Str->Option g_}{CX:VT}{k:Nat}{fa a:h_}{fd:Fy}{x:Str}{sp:Sp}{s₁:l_}{vs:List g_}{ns:List Int}{c₀:h_}(KX:K.In s₁.heap)(hT:s₁.heap.get? tabP=b_ {cls:=.none,data:=.fields #[]})(hC:Rr s₁.heap c₀ tabP)(hKT:Rs K=e_)(hbm:∃bm ob,mg "__builtins__"=b_ (.ref bm)/\bm≠OK/\s₁.heap.get? bm=b_ ob/\ob.cls=.type "module"/\ob.dict=b_ OK/\ob.data=.plain)(ς:s₁.heap.Ns v_ mg)(hb:s₁.heap.Ns OK mb)(hbb:∀x:Str,x≠"__name__"->mb x=A0 x)(hlim:s₁.heap.NoLimit)(hg:s₁.gens=#[])(ha:s₁.heap.get? a=b_ {cls:=.type "list",data:=.seq ↑i})(hi:IntsAre vs ns)(hl:ns.length<=j_)(hr:jT k callerA)(F:∀base:w_,K.In base->base.Ns v_ mg->kg P w K mg base CX k fa fd [x] sp)(Ϯ:∀(s:l_)(u:g_),BindsTo s fd ⟨[u],[]⟩ [(x,u)])(S_:∀H:Hp,Mx H->lu K H a (ns.map V.int)->sp [.ref a] H (λv _=>v=.bl e_) λ_ _ _=>False)(hCX:∀H e s',CX [] H s₁ (λ_ _ _=>False) e s'->False):FX (q_ P w) callerA (.call (.ref fa) ⟨[.ref a],[]⟩) (λr s'=>r=.ok (.ret (.bool e_))/\OldK s₁.heap s'.heap/\s'.os=s₁.os/\Rc s'.gens) s₁:=by
 have rv:=tD hi;have lenV:=hi.length--from an abstract heap in which nothing but the script may be T2
 have core:∀H:Hp,Mx H->lu K H a (ns.map V.int)->uA P w H s₁.heap->H tabP=b_ Yl->(∀b,H b≠f_->b=a\/b=tabP)->(H a≠f_->K.lookup a=f_)->FX (q_ P w) callerA (.call (.ref fa) ⟨[.ref a],[]⟩) (λr s'=>r=.ok (.ret (.bool e_))/\OldK s₁.heap s'.heap/\s'.os=s₁.os/\Rc s'.gens) s₁:=by
  intro H hO hS hok hTb hA hK;have kT:K.lookup tabP=f_:=by cases e:K.lookup tabP with|none=>rfl|some o=>have e1:=KX _ _ e;rw[hT]at e1;cases e1;have:=BD.mp hKT _ (W.mem_of_lookupK e);cases this
  have base_of:∀{b:h_}{o:Obj},s₁.heap.get? b=b_ o->H b=f_->(oC s₁.heap H).get? b=b_ o:=λe n=>K2 e n;have Ϩ:∀{b:h_}{o:Obj}{es:Array S2}{ep:Nat},s₁.heap.get? b=b_ o->o.data=.dict es ep->H b=f_:=λ{b o es ep}e d=>by cases q:H b with|none=>rfl|some u=>
    rcases hA b (by rw[q];simp)with e'|e';·subst e';rw[ha]at e;cases e;have d':Data.seq ↑i _=Data.dict es ep:=d;cases d'
    ·subst e';rw[hT]at e;cases e;have d':Data.fields #[]=Data.dict es ep:=d;cases d'
  have nsK:∀{b:h_}{m:Str->Option g_},s₁.heap.Ns b m->(oC s₁.heap H).Ns b m:=λ{b m}⟨o,es,ep,e,d,r⟩=>⟨o,es,ep,base_of e (Ϩ e d),d,r⟩;have hKb:K.In (oC s₁.heap H):=λb o e=>base_of (KX b o e) (by cases q:H b with|none=>rfl|some u=>
    rcases hA b (by rw[q];simp)with e'|e';·subst e';rw[hK (by rw[q];simp)]at e;cases e
    ·subst e';rw[kT]at e;cases e);have hM:Mod K mg (oC s₁.heap H):=⟨hKb,nsK ς,⟨mb,nsK hb,hbb⟩,let⟨mc,h1,h2⟩:=hlim;⟨mc,nsK h1,h2⟩,by obtain⟨bm,ob,b1,b2,b3,b4,b5,b6⟩:=hbm;refine⟨bm,ob,b1,b2,base_of b3 ?_,b4,b5,b6⟩;cases q:H bm with|none=>rfl|some u=>
    rcases hA bm (by rw[q];simp)with e'|e';·subst e';rw[ha]at b3;cases b3;cases b6
    ·subst e';rw[hT]at b3;cases b3;cases b6⟩;have e0:Zw P w K mg (oC s₁.heap H) callerA [] s₁ H:=⟨rfl,hM,λb o e=>GR e,OA (WH _ _),trivial,λb hb=>absurd (show b∈([]:List h_)from hb) ↑G,hTb,hok,.of_eq hg⟩;refine Fd ((F _ hKb (nsK ς)).run callerA [] s₁ H ⟨[.ref a],[]⟩ [.ref a] [.ref a] _ _ hr e0 (Ϯ s₁ (.ref a)) (.cons rfl .nil) (S_ H hO hS)) λr s' h=>?_;cases r with|error e=>exact(hCX H e s' h).elim|ok fl=>cases fl with|next=>exact AO h|brk=>exact AO h|cont=>exact AO h|ret u=>
    obtain⟨v,H',os,bare,un,hok',r',q⟩:=h;have q':v=.bl e_:=q;subst q';obtain rfl:u=g_.bool e_:=r';have hk:∀b o,b≠tabP->s₁.heap.get? b=b_ o->s'.heap.get? b=b_ o:=λb o θ e=>?_;refine⟨rfl,⟨λb o e=>?_,λb o e=>?_⟩,os,bare⟩
    ·by_cases θ:b=tabP;·subst θ;rw[hT]at e;cases e;obtain⟨ps,e2,_⟩:=(hok' _ _ (un.frzs _ _ _ hTb)).2;exact .inr (.inl ⟨let⟨o,vs,_,_,_,_,_,_,_,e1,e2,e3,e4,_⟩:=hC;⟨_,o,vs,e1,e2,e3,e4⟩,rfl,#[],ps,rfl,by rw[Array.empty_append];exact e2⟩)
     ·exact .inl (hk b o θ e)
    ·by_cases θ:b=tabP;·subst θ;obtain⟨ps,e2,_⟩:=(hok' _ _ (un.frzs _ _ _ hTb)).2;exact⟨_,e2⟩
     ·exact⟨o,hk b o θ e⟩
    cases q:H b with|none=>exact un.keep b o e q (by intro z;exact absurd (show b∈([]:List h_)from z) ↑G) ↑G|some u=>
     rcases hO b with z|z|⟨ob,xs,z⟩;·rw[q]at z;cases z
     ·exact absurd z θ
     ·have z2:=un.frzs b ob _ z;obtain⟨e1,_⟩:=hok b _ z;obtain⟨e2,_⟩:=hok' b _ z2;have e1:=e1 rfl;rw[e]at e1;cases e1;exact e2 rfl
 have tne:a≠tabP:=λz=>by rw[z,hT]at ha;cases ha
 have tok:∀H:Hp,jw P w H s₁.heap tabP Yl:=λH=>by show jw P w H s₁.heap tabP (.frz _ (.tab IF));exact⟨λz=>(by cases z),#[],hT,trivial,λpos cv z=>(by cases z)⟩
 cases hk:K.lookup a with|some o=>--the script is one of the module's own objects
  have e:=KX a o hk;rw[ha]at e;cases e;refine core (λb=>if b=tabP then b_ Yl else f_) (λb=>?_) (.inr ⟨_,↑i,_,hk,rfl,rfl,rfl,by rw[sr,lenV];exact hl,by simpa using rv⟩) (λb u z=>?_) (if_pos rfl) (λb z=>?_) λz=>absurd (if_neg tne) z
  ·by_cases hb:b=tabP;·exact .inr (.inl hb)
   ·exact .inl (if_neg hb)
  ·by_cases hb:b=tabP;·have z':=(if_pos hb).symm.trans z;cases z';subst hb;exact tok _
   ·have z':=(if_neg hb).symm.trans z;cases z'
  ·by_cases hb:b=tabP;·exact .inr hb
   ·exact absurd (if_neg hb) z|none=>
  refine core (λb=>if b=a then b_ (.frz {cls:=.type "list",data:=.seq ↑i} (.lst (ns.map V.int)))else if b=tabP then b_ Yl else f_) (λb=>?_) (.inl (.inr ⟨{cls:=.type "list",data:=.seq ↑i},if_pos rfl⟩)) (λb u z=>?_) ((if_neg tne.symm).trans (if_pos rfl)) (λb z=>?_) λ_=>hk
  ·by_cases hb:b=a;·exact .inr (.inr ⟨_,_,if_pos hb⟩)
   ·by_cases Tc:b=tabP;·exact .inr (.inl Tc)
    ·exact .inl ((if_neg hb).trans (if_neg Tc))
  ·by_cases hb:b=a;·have z':=(if_pos hb).symm.trans z;cases z';subst hb;exact⟨λ_=>ha,by rw[j'];exact hl,vs,_,rv,ha⟩
   ·by_cases Tc:b=tabP;·have z':=((if_neg hb).trans (if_pos Tc)).symm.trans z;cases z';subst Tc;exact tok _
    ·have z':=((if_neg hb).trans (if_neg Tc)).symm.trans z;cases z'
  ·by_cases hb:b=a;·exact .inl hb
   ·by_cases Tc:b=tabP;·exact .inr Tc
    ·exact absurd ((if_neg hb).trans (if_neg Tc)) z
abbrev Bv{K:d_}{h:w_}(_:K.In h):d_:=K
def walk_of{l:W.OpenLaw}{n k:Nat}{q:sN}{SJ:List Str}{XP:(Str->Option g_)->w_->Prop}{YP:sY->w_->Prop}{d:DefRec}{K:Params->d_}{CX:sY->VT}{sp:sY->Sp}{x:Str}(hn:l.most=b_ n)(ω:n<=j_)(Tp:d.params.defaults=[])(hr:jT k callerA)(hY:∀(w:sY)(h:w_),YP w h->(K w.params).In h)(ϖ:∀(w:sY)(h:w_),YP w h->h.get? tabP=b_ {cls:=.none,data:=.fields #[]}){c₀:h_}(ϗ:∀(w:sY)(h:w_),YP w h->Rr h c₀ tabP)(Ϡ:∀w:sY,Rs (K w.params)=e_)(F:∀(w:sY)(mg:Str->Option g_)(fa:h_)(h:w_),(K w.params).In h->h.Ns v_ mg->mg d.name=b_ (.ref fa)->∃fd:Fy,(∀(s:l_)(u:g_),BindsTo s fd ⟨[u],[]⟩ [(x,u)])/\∀base:w_,(K w.params).In base->base.Ns v_ mg->kg l.prog w (K w.params) mg base (CX w) k fa fd [x] (sp w))(S_:∀(w:sY)(H:Hp)(a:h_)(ns:List Int),ns.length<=n->Mx H->lu (K w.params) H a (ns.map V.int)->sp w [.ref a] H (λv _=>v=.bl e_) λ_ _ _=>False)(hCX:∀(w:sY)(H:Hp)(s:l_)(e:g_)(s':l_),CX w [] H s (λ_ _ _=>False) e s'->False):W.WalkO q SJ XP YP l.row.toRowW d [] (λf vs=>PySem.call f vs):=by refine Att.attach_call hn Tp λw s₀ s₁ mg mb fa o pm cd Sq a vs ns G Y ho hd Sz Λ η TN hlen hg=>?_;have KX:=hY w _ Y;obtain⟨fd,hb,hF⟩:=F w mg fa _ KX G.T.g Λ;exact Kp KX (ϖ w _ Y) (ϗ w _ Y) (Ϡ w) G.T.bmain G.T.g G.T.b G.T.builtins G.T.nolimit hg η TN (A6 hlen ω) hr hF hb (λH hO hS=>S_ w H a ns hlen hO hS) λH e s'=>hCX w H s₁ e s'
def kO(s:A2)(j:Nat):A2:=match s with|.ClassDef _ _ _ body _ _ _ _ _ _ _=>body.getD j (.Pass ⟨0,0,0,0⟩)|_=>.Pass ⟨0,0,0,0⟩
def jQ(s:A2):Arguments:=match s with|.FunctionDef _ a _ _ _ _ _ _ _ _=>a|_=>{posonlyargs:=[],args:=[],vararg:=f_,kwonlyargs:=[],kw_defaults:=[],kwarg:=f_,defaults:=[]}
def j4(s:A2):List A2:=match s with|.FunctionDef _ _ b _ _ _ _ _ _ _=>b|_=>[]
def za(s:A2):FI:=match s with|.FunctionDef _ _ _ _ _ _ sc _ _ _=>sc|_=>{kind:=.function,names:=[],isGenerator:=a_,isCoroutine:=a_}
structure fx(K:d_)(x Se:Str)(st:A2)(f:h_)(fd:Fy):Prop where
 ex:∃(oc:g_)(od:Option h_)(kV Sq pm:g_)(an:Option h_)(Sg ct:g_)(T1:Array (Option g_)),fd=A9 x Se (jQ st) (j4 st) (za st) .none kV Sq pm an Sg ct/\K.lookup f=b_ ⟨oc,od,.func fd,T1⟩/\FL K Sg Se=e_
 kp:AC K (.ref f)=e_
section
variable{P:sN}{w:sY}{K:d_}{mg:Str->Option g_}{base:w_}
theorem fx.binds{x Se:Str}{st:A2}{f:h_}{fd:Fy}{ps:List Str}(F:fx K x Se st f fd)(h:∀(kV Sq pm:g_)(an:Option h_)(Sg ct:g_)(us:List g_),↑h=↑l->Of (A9 x Se (jQ st) (j4 st) (za st) .none kV Sq pm an Sg ct) ⟨us,[]⟩=pure (ps.zip us)):gc K fd ps []:=by obtain⟨oc,od,kV,Sq,pm,an,Sg,ct,T1,rfl,lk,Sz⟩:=F.ex;exact .all (h kV Sq pm an Sg ct)
theorem cq{x Se:Str}{st:A2}{f:h_}{oc:g_}{od an:Option h_}{T1:Array (Option g_)}{kV Sq pm Sg ct:g_}(l:K.lookup f=b_ ⟨oc,od,.func (A9 x Se (jQ st) (j4 st) (za st) .none kV Sq pm an Sg ct),T1⟩)(c:FL K Sg Se=e_)(k:AC K (.ref f)=e_):fx K x Se st f (A9 x Se (jQ st) (j4 st) (za st) .none kV Sq pm an Sg ct):=⟨⟨oc,od,kV,Sq,pm,an,Sg,ct,T1,rfl,l,c⟩,k⟩
end
section
variable{X:Cx}
theorem pv(i:Nat)(hN:X.N[i]?=b_ x:=by rfl)(hv:Yd X.env.scope x:=by first|exact AW rfl|exact Ae (AW rfl)|exact Ae (Ae rfl))(hd:(x==↑x)=a_:=by decide)(Sz:(x==("__classdict__":Str))=a_:=by decide):PE X (.Name x pos) (xJ i):=gv hN hv hd Sz
end
section
variable{κ:Type}[DecidableEq κ]
theorem Kq{kvs:List (κ×V)}{k:κ}(h:jH kvs k=f_):¬k∈kvs.map (·.1):=by intro m;obtain⟨p,hp,e⟩:=sH.mp m;have q:(kvs.any λkv=>decide (kv.1=k))=e_:=BO.mpr ⟨p,hp,decide_eq_true e⟩;rw[pp,h]at q;exact absurd q ↑G
end
section
variable{M:Model}{A:A3}{E:g_->l_->Prop}{s:l_}
def N7(base:w_)(l:List Env)(e:h_)(oe:Obj)(h h':w_):Prop:=base.StaysIn h'/\h'.FunFrames base l/\(∃T oT ts,h'.get? e=b_ (Fg (·.setIfInBounds 1 (sE T)) oe)/\h.objs.size<=T/\h'.get? T=b_ oT/\oT.data=.fields ts/\ts[3]?=b_ .none)/\h.UpToSlots h'
theorem tE(hfr:A.frames=b_ (env::outer))(hl:s.heap.FunFrames base (env::outer))(hf:env.frame=b_ L)(he:s.heap.get? e=b_ oe)(hkb:base.StaysIn s.heap)(ϑ:base.get? e=f_)(hd:oe.data=.fields vs)(hsz:1<vs.size)(h:∀h',N7 base (env::outer) e oe s.heap h'->Q () {s with heap:=h'}):o_ M A (do let a<-frameOf env;let pl<-entryPlaceOf L hadNext;let b<-EntryCells.newEntry head a .none (OL L) .none pl;setField (.ref e) 1 b) (λ_ s'=>o_ M A (Ot (.ref e) f_) Q E s') E s:=by
 have hene:e∉(env::outer).filterMap (·.frame):=λhm=>by obtain⟨_,o,ho,Tl⟩:=hl.mem hm;rw[he]at ho;injection ho with ho;subst ho;exact Tl vs hd
 refine c_ (wpAny_frameOf_fun hfr hl hf λh₁ T8=>?_);refine c_ (wpAny_entryPlaceOf λpl hpl=>?_);unfold EntryCells.newEntry newFields;refine c_ (AJ ?_ (hpl.sizeOk5 _ _ _ _ _));have Ι:h₁.get? e=b_ oe:=(T8.2.1 e hene).trans he;have Ϣ:base.StaysIn h₁:=λb o TL=>(T8.2.1 b λhm=>by rw[(hl.mem hm).1]at TL;cases TL).trans (hkb b o TL);have he₂:=f' (h:=h₁) {cls:=.type "traceback",dict:=f_,data:=.fields ([head,.ref L,.none,OL L,.none]++(if pl.isEmpty then sO 6 sZ else pl)).toArray} Ι;refine N_ he₂ hd hsz ?_;have hTe:h₁.objs.size≠e:=Fb (n_ Ι);have hd₃:=Fo hd (·.setIfInBounds 1 (sE h₁.objs.size));have he₃:=Fr (Fg (·.setIfInBounds 1 (sE h₁.objs.size))) he₂ (OJ hd₃);have hT₃:=(Az (h₁.push {cls:=.type "traceback",dict:=f_,data:=.fields ([head,.ref L,.none,OL L,.none]++(if pl.isEmpty then sO 6 sZ else pl)).toArray}) (Fg (·.setIfInBounds 1 (sE h₁.objs.size))) (AE hTe)).trans (sf h₁ rfl);unfold Ot;refine c_ (Ab he₃ hd₃ (x:=.ref h₁.objs.size) (by simp[hsz]) ?_);rw[if_pos (show(sE h₁.objs.size !=sZ)=e_ from by simp)];refine N_ hT₃ rfl (by simp only[sr,sj,sA,E_]<;>omega) (h _ ?_);have keep:∀b o,b≠e->h₁.get? b=b_ o->(((h₁.push {cls:=.type "traceback",dict:=f_,data:=.fields ([head,.ref L,.none,OL L,.none]++(if pl.isEmpty then sO 6 sZ else pl)).toArray}).update e (Fg (·.setIfInBounds 1 (sE h₁.objs.size)))).update h₁.objs.size (Fg (·.setIfInBounds 3 ((f_:Option h_).elim sZ λf=>OL f)))).get? b=b_ o:=λb o Tn hb=>by have hbT:h₁.objs.size≠b:=Fb (n_ hb);rw[Az _ _ hbT,Az _ _ (AE Tn)];exact f' _ hb
 have Sv:∀b o,s.heap.get? b=b_ o->(∀vs,o.data≠.fields vs)->b≠e:=λb o hb Tl q=>by rw[q,he]at hb;injection hb with hb;subst hb;exact Tl vs hd
 refine⟨λb o TL=>keep b o (λq=>by rw[q,ϑ]at TL;cases TL) (Ϣ b o TL),hl.of_keeps λb o hb Tl=>?_,?_,λb o hb Tl=>?_⟩;·obtain⟨sl,hs⟩:=T8.2.2 b o hb;exact⟨_,keep b _ (Sv b o hb Tl) hs,rfl⟩
 ·refine⟨h₁.objs.size,_,_,?_,?_,Fr _ hT₃ (OJ (Fo rfl _)),Fo rfl _,by first|(simp;done)|(rcases hpl with rfl|⟨_,_,_,_,_,_,_,rfl⟩<;>simp)⟩;·rw[Az _ _ hTe];exact he₃
  ·exact OA T8.1.symm
 ·obtain⟨sl,hs⟩:=T8.2.2 b o hb;exact⟨sl,keep b _ (Sv b o hb Tl) hs⟩
def FlyN(ps:List (h_×Obj))(n:Nat)(H:Hp)(ev:g_)(h:w_):Prop:=∃e oe vs,ev=.ref e/\n<=e/\h.get? e=b_ oe/\oe.data=.fields vs/\1<vs.size/\(vs[1]?=b_ .none\/∃T oT ts,n<=T/\H T=f_/\T≠e/\(∀p∈ps,p.1≠T)/\vs[1]?=b_ (.ref T)/\h.get? T=b_ oT/\oT.data=.fields ts/\ts[3]?=b_ .none)
theorem My(hfr:A.frames=b_ (env::outer))(hl:s.heap.FunFrames base (env::outer))(hf:env.frame=b_ L)(he:s.heap.get? e=b_ oe)(hkb:base.StaysIn s.heap)(ϑ:base.get? e=f_)(hd:oe.data=.fields vs)(hsz:1<vs.size)(h1:vs[1]?=b_ .none\/∃T oT ts,base.get? T=f_/\T≠e/\vs[1]?=b_ (.ref T)/\s.heap.get? T=b_ oT/\oT.data=.fields ts/\ts[3]?=b_ .none)(h:∀h' hm,(hm.objs.size=↑a/\s.heap.UpToSlots hm)->N7 base (env::outer) e oe hm h'->Q () {s with heap:=h'}):o_ M A (ON (.ref e) env) (λ_ s'=>o_ M A (Ot (.ref e) f_) Q E s') E s:=by
 rcases h1 with h1|⟨T,oT,ts,hnT,hTe,h1,hT,hdT,h3⟩;·unfold ON;simp only[hf];refine c_ (Ab he hd h1 ?_);rw[if_neg ↑o];exact tE hfr hl hf he hkb ϑ hd hsz λh' x=>h h' s.heap ⟨rfl,.refl _⟩ x
 ·unfold ON;simp only[hf];refine c_ (Ab he hd h1 ?_);rw[if_pos (show(sE T !=sZ)=e_ from by simp)];refine c_ (Ab hT hdT h3 ?_);rw[if_neg (show¬((sZ==OL L)=e_)from by simp[OL])];refine c_ (N_ hT hdT (Rt.mp h3).1 ?_);have SC:∀b,b≠T->(s.heap.update T (Fg (·.setIfInBounds 3 sZ))).get? b=s.heap.get? b:=λb hb=>Az _ _ (AE hb);have Sv:∀b o,s.heap.get? b=b_ o->(∀vs,o.data≠.fields vs)->b≠T:=λb o hb Tl q=>by rw[q,hT]at hb;injection hb with hb;subst hb;exact Tl ts hdT
  exact tE hfr (hl.of_keeps λb o hb Tl=>⟨o,(SC b (Sv b o hb Tl)).trans hb,rfl⟩) hf ((SC e (AE hTe)).trans he) (λb o TL=>(SC b λq=>by rw[q,hnT]at TL;cases TL).trans (hkb b o TL)) ϑ hd hsz λh' x=>h h' _ ⟨FN ..,λb o hb Tl=>⟨o.slots,(SC b (Sv b o hb Tl)).trans hb⟩⟩ x
end
def ZC(I:zu X pins σ H s)(Sx:X.stack=X.env::X.outer)(hfm:X.env.frame=b_ X.env.locals)(hx:H e=b_ (.xob C d))(ώ:FlyN (X.pn++pins) ↑j H (.ref e) s.heap)(h:∀h',zu X pins σ H {s with heap:=h'}->FlyN (X.pn++pins) ↑j H (.ref e) h'->Q () {s with heap:=h'}):o_ ↑n X.A (ON (.ref e) X.env) (λ_ s'=>o_ ↑n X.A (Ot (.ref e) f_) Q E s') E s:=by
 obtain⟨e',oe,vs,ee,TX,he,hd,hsz,hT⟩:=ώ;cases ee;have hfr:X.A.frames=b_ (X.env::X.outer):=by rw[<-Sx];exact I.ok.frames
 have hFF:s.heap.FunFrames X.base (X.env::X.outer):=by rw[<-Sx];exact I.stack
 have μ:∀{b:h_},b∈dE X.stack↔b∈(X.env::X.outer).filterMap (·.frame):=by rw[Sx];exact Iff.rfl
 have main:∀Ts:List h_,(∀T∈Ts,H T=f_/\↑j<=T/\T≠e/\(∀p∈X.pn++pins,p.1≠T)/\∃oT ts,s.heap.get? T=b_ oT/\oT.data=.fields ts)->(vs[1]?=b_ .none\/∃T oT ts,T∈Ts/\T≠e/\vs[1]?=b_ (.ref T)/\s.heap.get? T=b_ oT/\oT.data=.fields ts/\ts[3]?=b_ .none)->o_ ↑n X.A (ON (.ref e) X.env) (λ_ s'=>o_ ↑n X.A (Ot (.ref e) f_) Q E s') E s:=by
  intro Ts ξ h1;have hide:∀{b:h_}{o:Obj},s.heap.get? b=b_ o->b∉dE X.stack->b≠e->b∉Ts->(W.hideAll s.heap (dE X.stack++e::Ts)).get? b=b_ o:=λq n1 n2 n3=>W.hideAll_get _ q (by simp[n1,n2,n3]);have hTf:∀T∈Ts,T∉dE X.stack:=λT m z=>by obtain⟨_,_,_,_,oT,ts,q,dt⟩:=ξ T m;obtain⟨_,o,ho,nf⟩:=hFF.mem (μ.mp z);rw[q]at ho;cases ho;exact nf ts dt
  refine My (base:=W.hideAll s.heap (dE X.stack++e::Ts)) hfr (W.funFrames_hide hFF λen ϑ a ha=>A4 _ (μ.mpr (Rn.mpr ⟨en,ϑ,ha⟩))) hfm he (λb o q=>W.of_hideAll _ q) (OS _ ↑G) hd hsz ?_ λh' hm hhm hL=>?_;·exact h1.imp id λ⟨T,oT,ts,m,r⟩=>⟨T,oT,ts,OS _ (by simp[m]),r⟩
  ·obtain⟨stay,ff,⟨T',oT,ts,Ω,Ϗ,gT,dT,t3⟩,up⟩:=hL;have Ϗ:↑a<=T':=by rw[<-hhm.1];exact Ϗ
   have kp:∀{b:h_}{o:Obj},s.heap.get? b=b_ o->b∉dE X.stack->b≠e->b∉Ts->h'.get? b=b_ o:=λq n1 n2 n3=>stay _ _ (hide q n1 n2 n3);have slt:∀{b:h_}{o:Obj},s.heap.get? b=b_ o->b∈dE X.stack->∃sl,h'.get? b=b_ {o with slots:=sl}:=λ{b o}q m=>by obtain⟨_,o',ho,nf⟩:=hFF.mem (μ.mp m);rw[q]at ho;cases ho;exact(hhm.2.trans up) b o q nf
   have hex:e∉dE X.stack:=λz=>by rw[I.stkFree e z]at hx;cases hx
   have hd':=Fo hd (·.setIfInBounds 1 (sE T'));have ϟ:(Fg (·.setIfInBounds 1 (sE T')) oe).dict=oe.dict:=by unfold Fg;split<;>rfl
   have un:Un (dE X.stack) Ts H H s.heap h':=⟨λb o q n hb hc=>kp q hb (λz=>by rw[z,hx]at n;cases n) hc,λb o q n hb hc=>slt q hb,λb o q n _=>n,λb o q hc=>by
     by_cases hb:b∈dE X.stack;·obtain⟨sl,q'⟩:=slt q hb;exact⟨_,q'⟩
     ·by_cases Tn:b=e;·subst Tn;exact⟨_,Ω⟩
      ·exact⟨o,kp q hb Tn hc⟩,λb xs q=>q,λb o u q=>q,λb ps q=>⟨#[],by rw[BP];exact q⟩⟩;have hok:uA X.prog X.w H h':=λa o q=>by
    by_cases ha:a=e;·subst ha;rw[hx]at q;cases q;obtain⟨oe0,vs0,q0,c0,d0,f0,z0⟩:=I.hok _ _ hx;rw[he]at q0;cases q0;exact⟨_,_,Ω,by rw[Obj.cls_mapFields];exact c0,ϟ.trans d0,hd',by simpa using hsz⟩
    ·refine(I.hok a o q).stay (λb u hb r=>?_) (λ_ r=>r) λ_ _ r=>r;have tr:H b≠f_:=by rcases hb with rfl|hb;(rw[q];intro z;cases z);(rw[hb];intro z;cases z)
     refine kp r (λz=>tr (I.stkFree b z)) (λz=>?_) λz=>tr (ξ b z).1;rcases hb with rfl|hb;·exact ha z
     ·rw[z,hx]at hb;cases hb
   have J:zu X pins σ H {s with heap:=h'}:=by
    refine I.call (h':=h') (g':=s.gens) (d':=s.drawn) (t':=s.toks) (ch:=Ts) un hok I.bare λb hb=>?_;obtain⟨n,z,ne,np,oT,ts,q,dt⟩:=ξ b hb;refine⟨.inr z,?_,λx c ec zz=>?_,np⟩;·rintro rfl;obtain⟨m,⟨o,es,ep,ho,dd,_⟩,_⟩:=I.loc;rw[q]at ho;cases ho;rw[dt]at dd;cases dd
    ·subst zz;obtain⟨v,o,ho,dd⟩:=I.cell x c ec;rw[q]at ho;cases ho;rw[dt]at dd;cases dd
   refine h h' J ⟨e,_,_,rfl,TX,Ω,hd',by simpa using hsz,.inr ⟨T',oT,ts,A6 I.sz Ϗ,I.hok.fresh Ϗ,Fb (sR (n_ he) Ϗ),λp hp=>su (sR (n_ (I.pin p hp).1) Ϗ),by simp[hsz],gT,dT,t3⟩⟩
 rcases hT with h1|⟨T,oT,ts,z,n,ne,np,h1,q,dt,t3⟩;·exact main [] (λT m=>nomatch m) (.inl h1)
 ·exact main [T] (λT' m=>by rw[sC.mp m];exact⟨n,z,ne,np,oT,ts,q,dt⟩) (.inr ⟨T,oT,ts,sC.mpr rfl,ne,h1,q,dt,t3⟩)
end L2
namespace L2
open PySem PySem.Spec PyProof.Rows PySem.W
open PySem.Builtin.ObjectAttr
def passes_ve(self:g_):refuseLoop self "__setattr__" [.type "ValueError",.type "Exception",.type "BaseException",.type "object"]=pure ():=by kernel_rfl
section
variable{prog:sN}{w:sY}{K:Frag}{A:A3}{R:Result->l_->Prop}{s:l_}{x C:h_}
theorem Pj(X:K.In s.heap)(I:InstAt s.heap x ox C od)(hc:clsIn K C=b_ cd)(hp:refuseLoop (.ref x) "__setattr__" cd.mro=pure ())(ϔ:cd.mro.contains (.type "object")=e_)(ht:takerIn K C name=b_ f_)(h:∀b,o_ ↑w A.in1 (storeInOwnDict (.ref x) ↑aa (.str name tk) name v b) (λfin s'=>match fin with|.done f=>R (.ok f) s'|.again c'=>c'.quiet=e_/\FX ↑w A c' R s') (λe s'=>R (.error e) s') s):FX ↑w A (.call (.builtin "object.__setattr__") ⟨[.ref x,.str name tk,v],[]⟩) R s:=by
 have SF:=PySem.F.store_object;have ne:cd.mro.isEmpty=a_:=by cases q:cd.mro with|nil=>rw[q]at ϔ;cases ϔ|cons _ _=>rfl
 have sub:Looks ↑w s.heap (isInstance (.ref x) (.type "object")) e_:=I.type.andThen (looks_mroIn X (by unfold mroIn;rw[hc,Option.bind_some,if_neg (by rw[ne];decide),ϔ]));refine N' SF.slot.plain SF.entry (@check_slot ↑w _ _ s "object.__setattr__" "object" "__setattr__" (.ref x) [.str name tk,v] [] _ SF.kind SF.split sub (SF.args (.ref x) (.str name tk) v) ?_);obtain⟨attr,ha,hr⟩:=Option.bind_eq_some_iff.mp ht;have hm:Looks ↑w s.heap (mroOf ↑aa) cd.mro:=(looks_clsIn X hc).andThen .now;have L3:Looks ↑w s.heap (storeTaker? attr) f_:=by cases attr with|none=>exact .now|some a=>
   obtain⟨b,hb,hbb⟩:=sJ.mp hr;refine(looks_takesIn X hb).andThen ?_;cases b;·exact .now
   ·cases hbb
 rw[osa_eq,refuse_eq];refine c_ (c_ (I.type.here (c_ (hm.here ?_))));rw[hp];refine i_ (c_ (I.type.here (c_ ((looks_findIn X ha).here (c_ (L3.here ?_))))));exact h _
theorem ZD(X:K.In s.heap)(hx:s.heap.get? x=b_ ox)(So:ox.cls=.ref C)(ϐ:notCls ox=e_)(π:ox.dict=f_)(hc:clsIn K C=b_ cd)(hh:cd.hasDict=e_)(hs:FF K ↑aa "__setattr__"=b_ (b_ (.builtin "object.__setattr__")))(hp:refuseLoop (.ref x) "__setattr__" cd.mro=pure ())(ϔ:cd.mro.contains (.type "object")=e_)(ht:takerIn K C name=b_ f_)(hq:∀h' tk,h'.get? x=b_ {ox with dict:=b_ ↑a}->h'.Ns1 ↑a (λy=>if y=name then b_ v else f_)->(∀b o,b≠x->s.heap.get? b=b_ o->h'.get? b=b_ o)->Q () {s with heap:=h',toks:=tk}):o_ ↑w A (setAttr (.ref x) name v) Q E s:=by
 have I:InstAt s.heap x ox C f_:=⟨hx,So,ϐ,by rw[π];trivial⟩;refine set_plain X I hs (Pj (s:={s with toks:=s.toks+1}) X I hc hp ϔ ht λb=>?_);obtain⟨oc,odi,oda,T1⟩:=ox;dsimp only at So π;subst So π;have hxs:x≠↑a:=su (n_ hx);refine c_ (i_ (c_ (c_ (wpAny_loadPart hx (c_ ((looks_clsIn (M:=q_ prog w) (h:=({s with toks:=s.toks+1}:l_).heap) X hc).here ?_))))));rw[hh];dsimp only;rw[if_neg ↑o,if_neg (by simp[typeHasDict])];have Tz:∀c,oda≠.cls c:=λc z=>by subst z;cases ϐ
 have Ν:(s.heap.push {cls:=.type "dict",data:=.dict #[]}).get? x=b_ ⟨.ref C,f_,oda,T1⟩:=f' _ hx;split;·exact absurd rfl (Tz _)
 ·refine c_ (wpAny_alloc' ?_);refine c_ (wpAny_update' Ν ?_);refine i_ ?_;have hgd:((s.heap.push {cls:=.type "dict",data:=.dict #[]}).update x λo=>{cls:=o.cls,dict:=b_ ↑a,data:=o.data,slots:=o.slots}).get? ↑a=b_ {cls:=.type "dict",data:=.dict #[]}:=(O8 _ _ _ _ hxs.symm).trans (w_.get?_push_at rfl rfl);have hnd:((s.heap.push {cls:=.type "dict",data:=.dict #[]}).update x λo=>{cls:=o.cls,dict:=b_ ↑a,data:=o.data,slots:=o.slots}).Ns ↑a (λ_=>f_):=⟨_,#[],_,hgd,rfl,λe he=>absurd he ↑G,λ_=>rfl⟩;show o_ _ _ (storeInDict ↑a (.str name s.toks) name v) _ _ _;unfold storeInDict newKeyGuard;refine c_ (i_ (c_ (wpAny_nsSet1 (w_.Ns1.of_empty hnd) λh' Ξ hs'=>?_)));obtain⟨oD,esD,epD,hoD,hdD,hcD⟩:=Ξ.count (Within.cons name v Within.nil);refine c_ (wpAny_lookBehind hoD (by rw[hdD];exact pastItsLine_dict (A6 hcD (by rw[sA,E_,Fe];omega))) ?_);refine i_ ?_;refine hq h' _ ?_ Ξ λb ob hbx hb=>?_;·refine(hs'.2 x hxs).trans (Fr _ Ν ?_);have hfr:=(w_.get?_some_iff.mp hx).2;cases oda<;>first|rfl|exact hfr
  ·exact(hs'.2 b (su (n_ hb))).trans ((O8 _ _ _ _ hbx).trans (f' _ hb))
end
end L2
namespace L2
open PySem PySem.Spec PySem.W
section
variable{M:Model}{A:A3}{E:g_->l_->Prop}{h:w_}{g:Array S1}{d:Drawn}{t:Nat}{os:OsState}
variable{nm q:Str}{C N:h_}{bs bm χ:List g_}{hdct:Bool}{sn:List Str}{sub:List g_}{ab:Bool}{col:Option Bool}{dd:Option h_}{k0 k1 k2 k3 k5:Option g_}{B newId SH:String}
theorem YI(F:ExcBaseFacts B newId SH χ)(hB:bm.contains (.type B)=e_){rest:List g_}{Q:Unit->l_->Prop}(hC:h.get? C=b_ ↑ad)(hq:Q () ⟨h,g,d,t,os⟩):o_ M A (checkBuiltinCall newId ⟨.ref C::rest,[]⟩) Q E ⟨h,g,d,t,os⟩:=by
 have ϓ:(sE C::bm).contains (.type B)=e_:=by rw[Fp,hB,Bool.or_true]
 have hstar:=F.noStar;simp only[checkBuiltinCall,F.newKind,F.newSplit,F.newRow];repeat(first|refine BZ hC ?_|(refine O9 hC ?_;rw[ϓ])|refine wpAny_staticBase_exc hC ?_|refine wpAny_madeBy_exc hC ?_|simp only[bne_self_eq_false,AQ,if_false]|wp_step)
 exact hq
end
section
variable{prog:sN}{w:sY}{A:A3}{R:Result->l_->Prop}{h:w_}{g:Array S1}{d:Drawn}{t:Nat}{os:OsState}
variable{nm q:Str}{C N:h_}{bs bm χ:List g_}{hdct:Bool}{sn:List Str}{sub:List g_}{ab:Bool}{col:Option Bool}{dd:Option h_}{k0 k1 k2 k3 k5:Option g_}{B newId SH:String}
theorem Kr(F:ExcBaseFacts B newId SH χ)(hB:bm.contains (.type B)=e_)(hA:bm.contains (.type "AttributeError")=a_)(hN:bm.contains (.type "NameError")=a_){rest:List g_}(hC:h.get? C=b_ ↑ad)(hq:R (.ok (.ret (.ref (h.objs.size+1)))) ⟨(h.push {cls:=.type "tuple",data:=.seq rest.toArray}).push {cls:=.ref C,data:=.fields #[.ref h.objs.size,.none,.none,.none,.bool a_,.none]},g,d,t,os⟩)(Sb:rest.length<=j_):FX ↑w A (.builtin newId ⟨.ref C::rest,[]⟩) R ⟨h,g,d,t,os⟩:=by
 have hends:=F.ends;have hcB:(sE C::bm).contains (.type B)=e_:=by rw[Fp,hB,Bool.or_true]
 have hcA:(sE C::bm).contains (.type "AttributeError")=a_:=by rw[Fp,hA];rfl
 have hcN:(sE C::bm).contains (.type "NameError")=a_:=by rw[Fp,hN];rfl
 refine codeAny_builtinAt F.entry ?_;unfold BL.«BaseException.__new__»;refine wpAt_bind ?_;show wpAt _ _ _ (stack>>=_) _ _ _;refine wpAt_bind (wpAt_stack λp below=>wpAt_of_wpAny ?_);wp_walk;refine wpAt_of_wpAny ?_;rw[F.owner];repeat(first|with_reducible refine wpAny_madeHere_exc F.canon hC ?_|with_reducible refine BZ hC ?_|(with_reducible refine O9 hC ?_;first|rw[hcB]|rw[hcA]|rw[hcN])|wp_step)
 show R _ _;rw[At];exact hq
end
section
variable{prog:sN}{w:sY}{K:Frag}{A:A3}{E:g_->l_->Prop}{h:w_}{g:Array S1}{d:Drawn}{t:Nat}{os:OsState}
variable{nm q:Str}{C N:h_}{bs bm χ:List g_}{hdct:Bool}{sn:List Str}{sub:List g_}{ab:Bool}{col:Option Bool}{dd:Option h_}{k0 k1 k2 k3 k5:Option g_}{B newId SH:String}
theorem YJ(F:ExcBaseFacts B newId SH χ)(X:K.In h)(hB:bm.contains (.type B)=e_)(hA:bm.contains (.type "AttributeError")=a_)(hN:bm.contains (.type "NameError")=a_){rest:List g_}{fI:h_}{Q:Fin->l_->Prop}(hC:h.get? C=b_ ↑ad)(hi:FF K ↑aa "__init__"=b_ (b_ (.ref fI)))(hf:typeIn K (.ref fI)=b_ (.type "function"))(hq:∀h',(∀b o,h.get? b=b_ o->h'.get? b=b_ o)->h'.get? (h.objs.size+1)=b_ {cls:=.ref C,data:=.fields #[.ref h.objs.size,.none,.none,.none,.bool a_,.none]}->o_ ↑w A (call (.ref fI) (.ref (h.objs.size+1)::rest)) (λr s'=>r=.none/\Q (.done (.ret (.ref (h.objs.size+1)))) s') E ⟨h',g,d,t,os⟩)(Sb:rest.length<=j_):o_ ↑w A (BL.«type.__call__» ⟨.ref C::rest,[]⟩) Q E ⟨h,g,d,t,os⟩:=by
 repeat(first|with_reducible refine BZ hC ?_|with_reducible refine wpAny_madeBy_exc hC ?_|wp_step)
 refine codeAny_call_builtin_code (FZ _ F.quiet) (YI F hB hC ?_);refine Kr F hB hA hN hC ?_ Sb;show o_ _ _ _ _ _ _;have hC₁:=f' {cls:=.ref C,data:=.fields #[.ref h.objs.size,.none,.none,.none,.bool a_,.none]} (f' {cls:=.type "tuple",data:=.seq rest.toArray} hC);have hget:((h.push {cls:=.type "tuple",data:=.seq rest.toArray}).push {cls:=.ref C,data:=.fields #[.ref h.objs.size,.none,.none,.none,.bool a_,.none]}).get? (h.objs.size+1)=b_ {cls:=.ref C,data:=.fields #[.ref h.objs.size,.none,.none,.none,.bool a_,.none]}:=by heap_get
 have X₁:K.In ((h.push {cls:=.type "tuple",data:=.seq rest.toArray}).push {cls:=.ref C,data:=.fields #[.ref h.objs.size,.none,.none,.none,.bool a_,.none]}):=X.keeps λb o e=>f' _ (f' _ e);have hcC:(sE C::bm).contains ↑aa=e_:=by simp
 unfold isInstance;repeat(first|with_reducible refine BZ hget ?_|(with_reducible refine O9 hC₁ ?_;rw[hcC])|wp_step)
 show o_ _ _ (typeLookup ↑aa _) _ _ _;refine looks_findIn X₁ hi _ _ _ _ (λ_ _ e=>e) ?_;refine Ah (c_ (bind_fn X₁ _ hf _ _ _ _ (λ_ _ e=>e) ?_));refine c_ (sQ (hq _ (λb o hb=>f' _ (f' _ hb)) hget) (λr s' hr=>?_) λ_ _ x=>x);obtain⟨rfl,hQ⟩:=hr;wp_walk;exact hQ
theorem WX(F:ExcBaseFacts B newId SH χ)(X:K.In h)(hB:bm.contains (.type B)=e_)(hA:bm.contains (.type "AttributeError")=a_)(hN:bm.contains (.type "NameError")=a_){rest:List g_}{fI:h_}{Q:g_->l_->Prop}(hC:h.get? C=b_ ↑ad)(hi:FF K ↑aa "__init__"=b_ (b_ (.ref fI)))(hf:typeIn K (.ref fI)=b_ (.type "function"))(hq:∀h',(∀b o,h.get? b=b_ o->h'.get? b=b_ o)->h'.get? (h.objs.size+1)=b_ {cls:=.ref C,data:=.fields #[.ref h.objs.size,.none,.none,.none,.bool a_,.none]}->o_ ↑w (A.under (.builtin "type.__call__" ⟨.ref C::rest,[]⟩)) (call (.ref fI) (.ref (h.objs.size+1)::rest)) (λr s'=>r=.none/\Q (.ref (h.objs.size+1)) s') E ⟨h',g,d,t,os⟩)(Sb:rest.length<=j_):o_ ↑w A (call ↑aa rest) Q E ⟨h,g,d,t,os⟩:=by
 have f1:=tc_lookup;have f2:=tc_bind ↑aa;have hT:(⟨h,g,d,t,os⟩:l_).TypeIs ↑aa "type":=⟨_,hC,rfl⟩;refine Oo (O_ ?_);show o_ _ _ (callAny ↑aa _) _ _ _;repeat(any_goals(first|assumption|with_reducible refine BZ hC ?_|wp_step))
 refine⟨rfl,?_⟩;refine codeAny_call_builtin_at (FZ _ ↑J) entry_typeCall (wpAny_check_type_call_sub hC (YJ F X hB hA hN hC hi hf (λh' k he=>?_) Sb));exact hq h' k he
end
end L2
namespace L2
open PySem PySem.Spec PyProof.Rows PySem.W
structure WY(K:Frag)(C fI:h_):Prop where
 obj:∃nm q N bs bm sn sub ab col dd k0 k1 k2 k3 k5,K.lookup C=b_ (O0 nm q C N bs bm e_ sn sub ab col dd k0 k1 k2 k3 k5 "ValueError.__new__")/\bm.contains (.type "ValueError")=e_/\bm.contains (.type "AttributeError")=a_/\bm.contains (.type "NameError")=a_/\bm.contains (.type "BaseException")=e_/\bm.contains (.type "object")=e_/\∀self,refuseLoop self "__setattr__" bm=pure ()init:FF K ↑aa "__init__"=b_ (b_ (.ref fI))fn:typeIn K (.ref fI)=b_ (.type "function")sa:FF K ↑aa "__setattr__"=b_ (b_ (.builtin "object.__setattr__"))ta:takerIn K C "at"=b_ f_
 keep:keepIn K ↑aa=e_
def aw(e C t:h_)(h:w_):Prop:=h.get? e=b_ {cls:=.ref C,data:=.fields #[.ref t,.none,.none,.none,.bool a_,.none]}
def m3(e C t d:h_)(h:w_):Prop:=h.get? e=b_ {cls:=.ref C,dict:=b_ d,data:=.fields #[.ref t,.none,.none,.none,.bool a_,.none]}
section
variable{X:Cx}{pins:List (h_×Obj)}{σ:St}{H:Hp}{s:l_}{A:A3}{E:g_->l_->Prop}
theorem Mz(I:zu X pins σ H s)(hx:H e=b_ (.ext (aw e C t)))(XC:WY X.K C fI)(rv:RelV v u)(h:∀s' d,H d=f_->d≠e->zu X pins σ (zO (zO H e (.ext (m3 e C t d))) d (.xd [("at",v)])) s'->Q () s'):o_ ↑n A (setAttr (.ref e) "at" u) Q E s:=by
 obtain⟨nm,q,N,bs,bm,sn,sub,ab,col,dd,k0,k1,k2,k3,k5,lk,b1,b2,b3,b4,b5,b6⟩:=XC.obj;obtain⟨he,_⟩:=I.hok _ _ hx;have he:s.heap.get? e=b_ {cls:=.ref C,data:=.fields #[.ref t,.none,.none,.none,.bool a_,.none]}:=he;have hc:clsIn X.K C=b_ {name:=nm,bases:=bs,mro:=.ref C::bm,ns:=N,qualname:=q,hasDict:=e_,slotNames:=sn,subclasses:=sub,abstract:=ab,collection:=col,hasDel:=a_}:=by unfold clsIn;rw[lk]
 refine ZD I.kIn he rfl rfl rfl hc rfl XC.sa (by rw[refuseLoop_ref];exact b6 _) (by show(sE C::bm).contains _=e_;rw[Fp,b5,Bool.or_true]) XC.ta λh' tk g1 g2 kp=>?_;have hn:H ↑a=f_:=I.hok.fresh (r_ _);have ne:↑a≠e:=Fb (n_ he);have lt:∀b o,s.heap.get? b=b_ o->b≠↑a:=λb o q=>su (n_ q);have up:∀b o,H b=b_ o->b≠e->zO (zO H e (.ext (m3 e C t ↑a))) ↑a (.xd [("at",v)]) b=b_ o:=λb o q hb=>by rw[zg (zM q hn),zg hb];exact q
 have te:∀b o,H b=b_ o->(∀φ,o≠.ext φ)->b≠e:=λb o q z w=>by rw[w,hx]at q;cases q;exact z _ rfl
 refine h _ ↑a hn ne (I.un (t':=tk) ⟨λb o q n _ _=>kp b o (λz=>by rw[z,hx]at n;cases n) q,λb o q n _ _=>⟨o.slots,kp b o (λz=>by rw[z,hx]at n;cases n) q⟩,λb o q n _=>?_,λb o q _=>?_,λb xs q=>up b _ q (te b _ q λ_ z=>by cases z),λb o u q=>up b _ q (te b _ q λ_ z=>by cases z),λb ps q=>⟨#[],by rw[BP];exact up b _ q (te b _ q λ_ z=>by cases z)⟩⟩ λa o q=>?_);·rw[zg (lt b o q),zg (λz=>by rw[z,hx]at n;cases n)];exact n
 ·by_cases hb:b=e;·subst hb;exact⟨_,g1⟩
  ·exact⟨o,kp b o hb q⟩
 ·by_cases ha:a=↑a
  ·subst ha;rw[zm]at q;cases q;refine⟨_,g2,λf=>?_⟩;by_cases hf:f="at";·subst hf;rw[List.lookup_cons_self,if_pos rfl];exact rv
   ·have:(f==("at":Str))=a_:=beq_eq_false_iff_ne.mpr hf;rw[if_neg hf,Ad,this];exact D_
  ·rw[zg ha]at q;by_cases hae:a=e;·subst hae;rw[zm]at q;cases q;exact⟨g1,⟨_,g1⟩,λh1 h2 z k=>k _ z⟩
   ·rw[zg hae]at q;refine(I.hok a o q).stay (λb u hb r=>kp b u ?_ r) (λb r=>up b _ r (te b _ r λ_ z=>by cases z)) λb xs r=>up b _ r (te b _ r λ_ z=>by cases z);rcases hb with rfl|hb;·exact hae
    ·exact te b _ hb λ_ z=>by cases z
end
section
variable{M:Model}{A:A3}{E:g_->l_->Prop}{s:l_}{env:Env}
variable{nm q:Str}{C N:h_}{bs bm:List g_}{hdct:Bool}{sn:List Str}{sub:List g_}{ab:Bool}{col:Option Bool}{dd:Option h_}{k0 k1 k2 k3 k5:Option g_}{newId:String}
theorem mI(SE:bm.contains (.type "BaseException")=e_)(hh:A.handled=f_)(h:o_ M A x (λv s₁=>∃e t d,v=.ref e/\s₁.heap.get? C=b_ ↑ad/\s₁.heap.get? e=b_ {cls:=.ref C,dict:=b_ d,data:=.fields #[.ref t,.none,.none,.none,.bool a_,.none]}/\E (.ref e) s₁) E s):o_ M A (raiseStmt env (b_ x) f_) Q E s:=by
 have hcB:(sE C::bm).contains (.type "BaseException")=e_:=by rw[Fp,SE,Bool.or_true]
 unfold raiseStmt;refine c_ (sQ h (λv s₁ h₁=>?_) λ_ _ x=>x);obtain⟨e,t,d,rfl,hC,he,hE⟩:=h₁;obtain⟨hp,g,d,tk,os⟩:=s₁;repeat(first|with_reducible refine BZ he ?_|with_reducible refine BZ hC ?_|(with_reducible refine O9 hC ?_;rw[hcB])|wp_step)
 exact wpAny_raiseNew_none hh hE
theorem MB(SE:bm.contains (.type "BaseException")=e_)(hh:A.handled=f_)(h:o_ M A (x_ x env) (λv s₁=>∃e t d,v=.ref e/\s₁.heap.get? C=b_ ↑ad/\s₁.heap.get? e=b_ {cls:=.ref C,dict:=b_ d,data:=.fields #[.ref t,.none,.none,.none,.bool a_,.none]}/\E (.ref e) s₁) E s):o_ M A (exec (.Raise (b_ x) f_ pos) env) Q E s:=by rw[arm_exec_Raise];first|exact c_ (BG (mI SE hh (c_ (sQ h (λv s₁ h₁=>c_ (BG (i_ h₁))) λ_ _ x=>x))))|(simp only[evalOpt,Option.map];exact c_ (BG (mI SE hh (c_ (sQ h (λv s₁ h₁=>c_ (BG (i_ h₁))) λ_ _ x=>x)))))|(show o_ M A (do Re pos;raiseStmt env (b_ (do let v<-x_ x env;Re pos;pure v)) f_) Q E s;exact c_ (BG (mI SE hh (c_ (sQ h (λv s₁ h₁=>c_ (BG (i_ h₁))) λ_ _ x=>x)))))
end
def MC(K:Frag)(fI:h_):Sp:=λvs H Q _=>∃e C t v,vs=[.ref e,v]/\H e=b_ (.ext (aw e C t))/\WY K C fI/\∀d,H d=f_->d≠e->Q .non (zO (zO H e (.ext (m3 e C t d))) d (.xd [("at",v)]))
def B7(K:Frag)(fI:h_):TS:=λD σ H=>∃e C t v,σ[0]?=b_ (b_ (.ref e))/\σ[1]?=b_ (b_ v)/\H e=b_ (.ext (aw e C t))/\WY K C fI/\∀d,H d=f_->d≠e->D.nx σ (zO (zO H e (.ext (m3 e C t d))) d (.xd [("at",v)]))
def Hq(hx:PE X (.Name x p1) (xJ 0))(hy:PE X (.Name y p2) (xJ 1))(hs:BA (.Name y p2) (b_ (.Attribute (.Name x p1) "at" p3)) pos.line X.env=pure a_):PS X (.Assign [.Attribute (.Name x p1) "at" p3] (.Name y p2) pos) (B7 X.K fI):=by intro pins s σ H D I h;obtain⟨e,C,t,v,h0,h1,V',XC,q⟩:=h;refine OI (jk (hy pins s σ H (λw H1=>w=v/\H1=H) I ⟨v,h1,rfl,rfl⟩) λu s1⟨y',H1,I1,ry,e1,e2⟩=>jk (hx pins s1 σ H1 (λw H2=>w=.ref e/\H2=H1) I1 ⟨_,h0,rfl,rfl⟩) λov s2⟨x',H2,I2,rx,e3,e4⟩=>?_) hs;subst e1 e2 e3 e4;obtain rfl:ov=sE e:=rx;exact Mz I2 V' XC ry λs' d n ne I3=>⟨σ,_,I3,q d n ne⟩
section
variable{P:sN}{w:sY}{K:Frag}{mg:Str->Option g_}{base:w_}{CX:VT}
theorem Pk{Se:Str}{st:A2}{f:h_}{fd:Fy}{x y:Str}{p1 p2 p3 pos:Pos}(F:fx K "__init__" Se st f fd)(S:zd [x,y] [x,y] (za st))(hbd:j4 st=[.Assign [.Attribute (.Name x p1) "at" p3] (.Name y p2) pos])(hd1:(x==↑x)=a_)(Tm:(y==↑x)=a_)(hc1:(x==("__classdict__":Str))=a_)(Tq:(y==("__classdict__":Str))=a_)(v1:Yd (za st) x)(v2:Yd (za st) y):kg P w K mg base CX 1 f fd [x,y] (MC K f):=by obtain⟨oc,od,kV,Sq,pm,an,Sg,ct,T1,rfl,lk,Sz⟩:=F.ex;refine cg lk Sz S (λvs H Q E⟨e,C,t,v,h,_⟩=>by rw[h];rfl) λA outer s H vs Q E hr S_=>?_;obtain⟨e,C,t,v,rfl,hx,XC,q⟩:=S_;rw[hbd];refine⟨_,pL (Hq (fI:=f) (gv rfl v1 hd1 hc1) (gv rfl v2 Tm Tq) rfl),e,C,t,v,rfl,rfl,hx,XC,q⟩
end
def db(X:Cx)(ev:g_)(pins:List (h_×Obj))(σ:St)(H:Hp)(s:l_):Prop:=zu X pins σ H s/\FlyN (X.pn++pins) ↑j H ev s.heap
def MD(X:Cx)(C:h_)(t:TA):TS:=λ_ σ H=>t σ H λvs H1=>∃v,vs=[v]/\∀e d,H1 e=f_->H1 d=f_->d≠e->∀pins s',db X (.ref e) pins σ (zO (zO H1 e (.xob C d)) d (.xd [("at",v)])) s'->X.xe (.ref e) s'
def Ks(XC:WY X.K C fI)(F:kg X.prog X.w X.K X.mg X.base CX k fI fd [a,b] (MC X.K fI))(hr:jT (k+1) X.A)(hg:Gl X x)(hm:X.mg x=b_ ↑aa)(hb:gc X.K fd [a,b] [])(hx:∀outer H s e s',¬CX outer H s (λ_ _ _=>False) e s')(ha:PA X [arg] t)(SG:(x==↑x)=a_:=by decide)(he:p_ [arg] X.env=[(a_,x_ arg X.env)]:=by rfl):PS X (.Raise (b_ (.Call (.Name x p) [arg] [] pos)) f_ pos2) (MD X C t):=by intro pins s σ H D I h;obtain⟨nm,q,N,bs,bm,sn,sub,ab,col,dd,k0,k1,k2,k3,k5,lk,b1,b2,b3,b4,b5,b6⟩:=XC.obj;refine MB (C:=C) (nm:=nm) (q:=q) (N:=N) (bs:=bs) (bm:=bm) (hdct:=e_) (sn:=sn) (sub:=sub) (ab:=ab) (col:=col) (dd:=dd) (k0:=k0) (k1:=k1) (k2:=k2) (k3:=k3) (k5:=k5) (newId:="ValueError.__new__") b4 hr.hd ?_;refine Ai (ls I hg hm ?_ SG);refine callWith_K (h₀:=X.base) I.ok.mod.kin XC.keep (jk (ha pos pins s σ H _ I h) λus s1⟨vs,H1,I1,r,v,ev,q⟩=>⟨I1.kIn,?_⟩) (by rw[he];rfl) rfl;subst ev;obtain⟨u,rfl,ru⟩:=el r;obtain⟨h1,g1,d1,t1,os1⟩:=s1;refine WX PySem.F.excBase_ValueError (K:=X.K) I1.kIn b1 b2 b3 (I1.kIn C _ lk) XC.init XC.fn (λh' kp hge=>?_) (by show 1<=j_;decide);have I2:zu X pins σ (zO H1 (↑d+1) (.ext (aw (↑d+1) C ↑d))) ⟨h',g1,d1,t1,os1⟩:=I1.laid (t':=t1) (a:=↑d+1) kp (FV _) ⟨hge,⟨_,hge⟩,λ_ _ z k=>k _ z⟩;have n1:H1 (↑d+1)=f_:=I1.hok.fresh (FV _);refine Oo (Fd (F.run _ X.stack _ _ ⟨[.ref (↑d+1),u],[]⟩ [.ref (↑d+1),u] [.ref (↑d+1),v] (λv' H3=>v'=.non/\∃d,zO H1 (↑d+1) (.ext (aw (↑d+1) C ↑d)) d=f_/\d≠↑d+1/\H3=zO ↑X d (.xd [("at",v)])) (λ_ _ _=>False) (hr.make C [u] []) (I2.env0.make C [u] []) (hb _ [.ref (↑d+1),u] I2.kIn rfl) (.cons rfl (.cons ru .nil)) ⟨↑d+1,C,↑d,v,rfl,zm,XC,λd n ne=>⟨rfl,d,n,ne,rfl⟩⟩) λr s' TF=>?_);cases r with|error e=>exact(hx _ _ _ _ _ TF).elim|ok fl=>cases fl with|next=>exact AO TF|brk=>exact AO TF|cont=>exact AO TF|ret u'=>
   obtain⟨v',H3,I3,rv,ev,d,nd,ne,rfl⟩:=I2.after TF;subst ev;refine⟨rv,?_⟩;have nd1:H1 d=f_:=by rw[zg ne]at nd;exact nd
   have o3:=(I3.hok (↑d+1) (.ext (m3 (↑d+1) C ↑d d)) (by rw[zg ne.symm,zm])).1;refine⟨_,_,d,rfl,I3.kIn C _ lk,o3,q (↑d+1) d n1 nd1 ne pins s' ⟨?_,_,_,_,rfl,A6 I1.sz (FV _),o3,rfl,by show 1<6;decide,.inl rfl⟩⟩;have te:∀b o,zO ↑X d (.xd [("at",v)]) b=b_ o->b≠↑d+1->zO (zO H1 (↑d+1) (.xob C d)) d (.xd [("at",v)]) b=b_ o:=λb o z hb=>by
    by_cases hd:b=d;·subst hd;rw[zm]at z⊢;exact z
    ·rw[zg hd,zg hb,zg hb]at z;rw[zg hd,zg hb];exact z
   have tn:∀b,zO ↑X d (.xd [("at",v)]) b=f_->zO (zO H1 (↑d+1) (.xob C d)) d (.xd [("at",v)]) b=f_:=λb z=>by
    by_cases hd:b=d;·subst hd;rw[zm]at z;cases z
    ·by_cases hb:b=↑d+1;·subst hb;rw[zg hd,zm]at z;cases z
     ·rw[zg hd,zg hb,zg hb]at z;rw[zg hd,zg hb];exact z
   have nx:∀b o,zO ↑X d (.xd [("at",v)]) b=b_ o->(∀φ,o≠.ext φ)->b≠↑d+1:=λb o z w hb=>by subst hb;rw[zg ne.symm,zm]at z;cases z;exact w _ rfl
   have J:=I3.un (t':=s'.toks) (h':=s'.heap) (H':=zO (zO H1 (↑d+1) (.xob C d)) d (.xd [("at",v)])) ⟨λb o z _ _ _=>z,λb o z _ _ _=>⟨o.slots,z⟩,λb o _ n _=>tn b n,λb o z _=>⟨o,z⟩,λb xs z=>te b _ z (nx b _ z λ_ w=>by cases w),λb o u z=>te b _ z (nx b _ z λ_ w=>by cases w),λb ps z=>⟨#[],by rw[BP];exact te b _ z (nx b _ z λ_ w=>by cases w)⟩⟩ λa o z=>by
    by_cases ha:a=↑d+1;·subst ha;rw[zg ne.symm,zm]at z;cases z;exact⟨_,_,o3,rfl,rfl,rfl,by show 1<6;decide⟩
    ·have z':zO ↑X d (.xd [("at",v)]) a=b_ o:=by
      by_cases hd:a=d;·subst hd;rw[zm]at z⊢;exact z
      ·rw[zg hd,zg ha]at z;rw[zg hd,zg ha,zg ha];exact z
     exact(I3.hok a o z').stay (λb u _ w=>w) (λb w=>te b _ w (nx b _ w λ_ w=>by cases w)) λb xs w=>te b _ w (nx b _ w λ_ w=>by cases w)
   exact J
def cu(I:zu X pins σ H s)(ώ:FlyN (X.pn++pins) ↑j H (.ref e) s.heap)(h:∀h',zu X pins σ H {s with heap:=h'}->Q () {s with heap:=h'}):o_ ↑n A (Ot (.ref e) f_) Q E s:=by
 obtain⟨e',oe,vs,ee,TX,he,hd,hsz,hT⟩:=ώ;cases ee;unfold Ot;rcases hT with h1|⟨T,oT,ts,z,n,ne,np,h1,q,dt,t3⟩;·refine c_ (Ab he hd h1 ?_);rw[if_neg ↑o];exact i_ (h s.heap I)
 ·refine c_ (Ab he hd h1 ?_);rw[if_pos (show(sE T !=sZ)=e_ from by simp)];refine N_ q dt (Rt.mp t3).1 (h _ ?_);have SC:∀b,b≠T->(s.heap.update T (Fg (·.setIfInBounds 3 ((f_:Option h_).elim sZ λf=>OL f)))).get? b=s.heap.get? b:=λb hb=>Az _ _ (AE hb);refine I.call (g':=s.gens) (d':=s.drawn) (t':=s.toks) (ch:=[T]) ⟨λb o w _ _ hc=>(SC b λz=>hc (by simp[z])).trans w,λb o w _ _ hc=>⟨o.slots,(SC b λz=>hc (by simp[z])).trans w⟩,λb o _ n _=>n,λb o w hc=>⟨o,(SC b λz=>hc (by simp[z])).trans w⟩,λb xs w=>w,λb o u w=>w,λb ps w=>⟨#[],by rw[BP];exact w⟩⟩ (λa o w=>(I.hok a o w).stay (λb u hb r=>(SC b λz=>?_).trans r) (λ_ r=>r) λ_ _ r=>r) I.bare λb hb=>?_
  ·rcases hb with rfl|hb;·rw[z,n]at w;cases w
   ·rw[z,n]at hb;cases hb
  ·obtain rfl:=sC.mp hb;refine⟨.inr z,?_,λx c ec zz=>?_,np⟩;·rintro rfl;obtain⟨m,⟨o,es,ep,ho,dd,_⟩,_⟩:=I.loc;rw[q]at ho;cases ho;rw[dt]at dd;cases dd
   ·subst zz;obtain⟨v,o,ho,dd⟩:=I.cell x c ec;rw[q]at ho;cases ho;rw[dt]at dd;cases dd
def Cx.hdl(X:Cx)(ev:g_):Cx:={X with A:=X.A.mark (b_ ev),calm:=a_,xe:=λ_ _=>False}
def Cx.wx(X:Cx)(ps:List (h_×Obj))(E:g_->l_->Prop):Cx:={X with pn:=X.pn++ps,xe:=E}
def zu.hdl(ev:g_)(I:zu X pins σ H s):zu (X.hdl ev) pins σ H s:={I with ok:={I.ok with hd:=λz=>(by cases z),frames:=I.ok.frames}}
def zu.ofHdl(hd:X.calm=e_->X.A.handled=f_)(I:zu (X.hdl ev) pins σ H s):zu X pins σ H s:={I with ok:={I.ok with hd:=hd,frames:=I.ok.frames}}
def zu.wx(I:zu X ps σ H s):zu (X.wx ps E) [] σ H s:={I with ok:={I.ok with},pin:=λp hp=>I.pin p (by simpa[Cx.wx]using hp)}
def zu.ofWx(I:zu (X.wx ps E) pins σ H s):zu X ps σ H s:={I with ok:={I.ok with},pin:=λp hp=>I.pin p (A4 _ hp)}
def WZ(I:zu X pins σ H s)(hN:X.N.Nodup)(hi:X.N[i]?=b_ x)(hk:X.env.scope.names.lookup x=b_ .local)(hv:σ[i]?=b_ (b_ v))(h:∀s',zu X pins (σ.set i f_) H s'->Q () s'):o_ M A (unbindName X.env x) Q E s:=by
 obtain⟨m,hn,hl⟩:=id I.loc;have Tz:(X.env.scope.kind==.class||(X.env.scope.kind==.module&&X.env.locals !=X.env.globals))=a_:=by rw[I.ok.kind];rfl
 have cne:=I.cne;obtain⟨u,r,lk⟩:=hl i x v hi hv (.inl hk);have hmx:m x=b_ u:=by
  rcases lk with⟨_,e⟩|⟨k,_⟩;·exact e
  ·have k:X.env.scope.names.lookup x=b_ .cell\/X.env.scope.names.lookup x=b_ .free:=k;rw[hk]at k;rcases k with k|k<;>cases k
 obtain⟨oL,_,_,Ϥ,_⟩:=id hn;refine wpAny_unbindName_local hk hn hmx Tz λh' u' Ξ hs=>h _ ⟨I.ok,I.os,I.bare,⟨λb o e n hb hx=>?_,λb o e n hb hx=>?_,I.base.free,λb o e hx=>?_,I.base.tups,I.base.frzs,I.base.tbls⟩,⟨_,Ξ,λj y v' e1 e2 e3=>?_⟩,λy c e=>?_,I.free,I.freeC,λp hp=>?_,λb ob e=>?_,by simpa using I.len⟩;·exact(hs.2 b (su (sR (n_ e) I.ok.above))).trans (I.base.keep b o e n hb hx)
 ·obtain⟨sl,e1⟩:=I.base.slot b o e n hb hx;exact⟨sl,(hs.2 b (su (sR (n_ e) I.ok.above))).trans e1⟩
 ·obtain⟨o',e1⟩:=I.base.there b o e hx;exact⟨o',(hs.2 b (su (sR (n_ e) I.ok.above))).trans e1⟩
 ·have hj:j≠i:=λz=>by subst z;have X_:j<σ.length:=(sP.mp hv).1;rw[Ay X_]at e2;cases e2
  rw[AL (AE hj)]at e2;obtain⟨u',r',q⟩:=hl j y v' e1 e2 e3;refine⟨u',r',?_⟩;rcases q with⟨k,e⟩|⟨k,c,e,z⟩;·refine .inl ⟨k,?_⟩;have:y≠x:=λe=>hj (dU hN e1 (e▸hi));simp[this,e]
  ·exact .inr ⟨k,c,e,z.sameBut hs (cne y c e)⟩
 ·obtain⟨w',z⟩:=I.cell y c e;exact⟨w',z.sameBut hs (cne y c e)⟩
 ·obtain⟨e,n,ne,nf,d⟩:=I.pin p hp;exact⟨(hs.2 p.1 ne).trans e,n,ne,nf,d⟩
 ·refine(I.hok b ob e).stay (λc w' hc q=>(hs.2 c ?_).trans q) (λ_ q=>q) λ_ _ q=>q;rintro rfl;rcases hc with rfl|hc;·rw[I.free]at e;cases e
  ·rw[I.free]at hc;cases hc
def Pl(nm:Option Nat)(σ:St):St:=match nm with|none=>σ|some i=>σ.set i f_
def nQ.beh(D:nQ)(nm:Option Nat):nQ:=⟨λσ H=>D.nx (Pl nm σ) H,D.rt,λσ H=>D.bk (Pl nm σ) H,λσ H=>D.ct (Pl nm σ) H⟩
def N8(nm:Option Nat)(v:V)(σ:St):St:=match nm with|none=>σ|some i=>σ.set i (b_ v)
def MH(X:Cx):Option Str->Option Nat->Prop|none,f_=>True|some n,b_ i=>X.N.Nodup/\X.N[i]?=b_ n/\X.env.scope.names.lookup n=b_ .local|_,_=>False
def nI(I:zu X pins σ H s)(hn:MH X (b_ n) (b_ i))(h:∀s',zu X pins (σ.set i f_) H s'->Q () s'):o_ ↑n A (do bindName X.env n .none;unbindBehindTheSuite X.env n pos) Q E s:=by
 obtain⟨nd,hi,hk⟩:=hn;refine c_ ?_;unfold bindName;refine c_ (wpAny_point (c_ (uC I nd hi (.inl hk) (v:=.non) (u:=.none) rfl (λs1 I1=>wpAny_point ?_) (.inr hk))));unfold unbindBehindTheSuite;refine OQ ?_;have hl:i<σ.length:=by rw[I.len];exact(sP.mp hi).1
 refine sQ (WZ (M:=q_ X.prog X.w) (A:=A) (E:=λ_ _=>False) I1 nd hi hk (Ay hl) λs' I'=>?_) (λ_ _ z=>z) λ_ _ z=>z.elim;rw[List.set_set]at I';exact h s' I'
section
variable{prog:sN}{w:sY}{A:A3}{s:l_}{env:Env}{R:Result->l_->Prop}
theorem MJ(h:o_ ↑w A (Ot e f_) (λ_ s₁=>o_ ↑w A (bindName env n e) (λ_ s₂=>o_ ↑w A (execs (b₀::body) env) (λf s₃=>R (.ok f) s₃) (λ_ _=>False) s₂) (λ_ _=>False) s₁) (λ_ _=>False) s):FX ↑w A (.handlers e [.ExceptHandler f_ (b_ n) (b₀::body) pos] env) R s:=by refine O_ ?_;show o_ _ A (do return Fin.done (<-(handleWith e env [.ExceptHandler f_ (b_ n) (b₀::body) pos]).onRaise (λx=>do ON x env;theTreesLotGoes x))) _ _ s;refine c_ (wpAny_noted ?_);unfold handleWith;refine c_ (BG (c_ (sQ h (λ_ s₁ h₁=>c_ (sQ h₁ (λ_ s₂ h₂=>c_ (OR (sQ h₂ (λf s₃ h₃=>?_) λ_ _ z=>z.elim))) λ_ _ z=>z.elim)) λ_ _ z=>z.elim)));exact i_ (i_ h₃)
end
def SP.beh(hd:X.calm=e_->X.A.handled=f_)(h:SP (X.hdl ev) pins (D.beh f_) f s):SP X pins D f s:=by cases f with|next=>obtain⟨σ',H',I',q⟩:=h;exact⟨σ',H',I'.ofHdl hd,q⟩|brk=>obtain⟨σ',H',I',q⟩:=h;exact⟨σ',H',I'.ofHdl hd,q⟩|cont=>obtain⟨σ',H',I',q⟩:=h;exact⟨σ',H',I'.ofHdl hd,q⟩|ret v=>obtain⟨x,σ',H',I',r,q⟩:=h;exact⟨x,σ',H',I'.ofHdl hd,r,q⟩
def V0(I:zu X pins σ H s)(hx:H e=b_ (.xob C d))(ϣ:H d=b_ (.xd fs))(ώ:FlyN (X.pn++pins) ↑j H (.ref e) s.heap)(hg:Gl X cn)(hm:X.mg cn=b_ (.ref C2))(hc:exmOne X.K ↑aa (.ref C2)=b_ e_)(hn:MH X nmS nm)(SG:(cn==↑x)=a_)(hb:oF (X.hdl (.ref e)) (b0::bs) t)(h:t (D.beh nm) (N8 nm (.ref e) σ) H):o_ ↑n X.A (handleBy (.ref e) X.env [.ExceptHandler (b_ (.Name cn p)) nmS (b0::bs) pos]) (SP X pins D) X.xe s:=by
 have IH:=I.hdl (.ref e);obtain⟨oe,vs,he,So,hdi,hda,_⟩:=I.hok _ _ hx;have hod:∃od,s.heap.get? d=b_ od:=by obtain⟨_,⟨o,_,_,q,_⟩,_⟩:=I.hok _ _ ϣ;exact⟨o,q⟩
 obtain⟨od,hod⟩:=hod;have IA:InstAt s.heap e oe C (b_ od):=⟨he,So,by unfold notCls;rw[hda],by rw[hdi];exact hod⟩;refine wpAny_handleBy_cons (codeAny_handlers_test (ls (X:=X.hdl (.ref e)) IH hg hm ?_ SG)) (by intro z;cases z);refine(exm_one (M:=q_ X.prog X.w) I.kIn IA.type hc).here ?_;show FX _ _ _ _ s;match nmS,nm,hn,h with|none,f_,_,h=>refine codeAny_handlers_suite (cu I ώ λh' I'=>?_);exact sQ (hb pins _ σ H (D.beh f_) (I'.hdl (.ref e)) h) (λf s2 q=>SP.beh I.ok.hd q) λ_ _ z=>z.elim|some n,b_ i,hn,h=>obtain⟨nd,hi,hk⟩:=id hn;refine MJ (cu I ώ λh' I'=>?_);unfold bindName;refine c_ (Ah (wpAny_point (c_ (uC I' nd hi (.inl hk) (v:=.ref e) (u:=.ref e) rfl (λs1 I1=>wpAny_point ?_) (.inr hk)))));refine sQ (hb pins _ _ H (D.beh (b_ i)) (I1.hdl (.ref e)) h) (λf s2 q=>?_) λ_ _ z=>z.elim;cases f with|next=>obtain⟨σ',H',I2,q⟩:=q;exact nI (I2.ofHdl I.ok.hd) hn λs3 I3=>⟨_,H',I3,q⟩|brk=>obtain⟨σ',H',I2,q⟩:=q;exact nI (I2.ofHdl I.ok.hd) hn λs3 I3=>⟨_,H',I3,q⟩|cont=>obtain⟨σ',H',I2,q⟩:=q;exact nI (I2.ofHdl I.ok.hd) hn λs3 I3=>⟨_,H',I3,q⟩|ret v=>obtain⟨x,σ',H',I2,r,q⟩:=q;exact nI (I2.ofHdl I.ok.hd) hn λs3 I3=>⟨x,_,H',I3,r,q⟩
def XS(X:Cx)(pins:List (h_×Obj))(D:nQ)(hs:List ExceptHandler):g_->l_->Prop:=λev s1=>o_ ↑n X.A (ON ev X.env) (λ_ s2=>o_ ↑n X.A (Ot ev f_) (λ_ s3=>o_ ↑n X.A (handleBy ev X.env hs) (SP X pins D) X.xe s3) X.xe s2) X.xe s1
def Dt(X:Cx)(body:List A2)(hs:List ExceptHandler):TS:=λD σ H=>∀pins,∃t,oF (X.wx pins (XS X pins D hs)) body t/\t D σ H
def Pn:PS X (.Try body (h0::hs) [] [] pos) (Dt X body (h0::hs)):=by
 intro pins s σ H D I h;obtain⟨t,p,h⟩:=h pins;refine wpAny_Try_except (sQ (p [] s σ H D I.wx h) (λf s1 q=>?_) λev s1 z=>?_);·cases f with|next=>obtain⟨σ',H',I',q⟩:=q;exact On ⟨σ',H',I'.ofWx,q⟩|brk=>obtain⟨σ',H',I',q⟩:=q;exact⟨σ',H',I'.ofWx,q⟩|cont=>obtain⟨σ',H',I',q⟩:=q;exact⟨σ',H',I'.ofWx,q⟩|ret v=>obtain⟨x,σ',H',I',r,q⟩:=q;exact⟨x,σ',H',I'.ofWx,r,q⟩
 ·exact z
section
variable{prog:sN}{w:sY}{A:A3}{E:g_->l_->Prop}{s:l_}{K:Frag}{x C:h_}{ox:Obj}{od:Option Obj}{name:Str}{Δ:Bool}{Q:g_->l_->Prop}
theorem Kt:splitId "BaseException.__getattribute__"=b_ ("BaseException","__getattribute__"):=by decide+kernel
theorem Po:builtinKind "BaseException.__getattribute__"=b_ .slot:=by decide+kernel
theorem Hr:(RO "BaseException.__getattribute__"==RO "object.__getattribute__")=a_:=by decide+kernel
theorem tF{tk:Tok}{fill:Bool}(X:K.In s.heap)(I:InstAt s.heap x ox C od)(ϭ:FF K ↑aa "__getattribute__"=b_ (b_ (.builtin "BaseException.__getattribute__")))(ϧ:FF K ↑aa "__getattr__"=b_ f_)(hb:mroIn K C (.type "BaseException")=b_ e_)(h:o_ ↑w A.in1 (BL.«object.__getattribute__» ⟨[.ref x,.str name tk],[]⟩) (λfin s'=>match fin with|.done (.ret v)=>o_ ↑w A (handedOut v) Q E s'|_=>False) (λ_ _=>False) s):o_ ↑w A (getAttrBy (.ref x) (.str name tk) fill Δ) Q E s:=by obtain⟨hp,g,d,t,os⟩:=s;have L0:=I.type (M:=q_ prog w);have L1:=looks_findIn (M:=q_ prog w) X ϭ;have LH:Looks ↑w hp (hookBefore ↑aa) f_:=looks_hook X (by rw[if_pos ↑L];exact ϧ);have LS:Looks ↑w hp (isInstance (.ref x) (.type "BaseException")) e_:=L0.andThen (looks_mroIn X hb);have fb:=Ru.ga.bind (.ref x);unfold getAttrBy;refine Ah (c_ (L0.at (c_ (L1.at ?_))));dsimp only;rw[Hr,OE,if_neg ↑o];unfold getAttrByItsOwn;refine c_ (LH.at (c_ (OR (Ah ?_))));unfold callGetattribute;rw[show(Δ&&onTheHeap (RO "BaseException.__getattribute__"))=a_ from OE _,if_neg ↑o];unfold boundAndCalled;rw[fb];refine c_ (i_ ?_);show o_ _ _ (call (.builtin "BaseException.__getattribute__") [.ref x,.str name tk]) _ _ _;refine Oo ?_;refine N' Ru.ga.plain PySem.F.entry_bexc_ga ?_;refine@check_slot ↑w _ _ ⟨hp,g,d,t,os⟩ "BaseException.__getattribute__" "BaseException" "__getattribute__" (.ref x) [.str name tk] [] _ Po Kt LS (PySem.F.args_bexc_ga (.ref x) (.str name tk)) ?_;refine sQ h (λfin s' z=>?_) λ_ _ z=>z.elim;rcases fin with(_|_|_|_)|_<;>first|exact z|exact z.elim
theorem YK{v:g_}(X:K.In s.heap)(I:InstAt s.heap x ox C od)(ϭ:FF K ↑aa "__getattribute__"=b_ (b_ (.builtin "BaseException.__getattribute__")))(ϧ:FF K ↑aa "__getattr__"=b_ f_)(hb:mroIn K C (.type "BaseException")=b_ e_)(hf:findObj K C od name=b_ (.value v))(hh:handedIn v=e_)(h:Q v {s with toks:=s.toks+1}):o_ ↑w A (getAttr (.ref x) name Δ) Q E s:=by obtain⟨hp,g,d,t,os⟩:=s;have L0:=I.type (M:=q_ prog w);have LF:=looks_find (M:=q_ prog w) X I hf;unfold getAttr;refine c_ (wpAny_mkText (tF X I ϭ ϧ hb ?_));unfold BL.«object.__getattribute__»;refine c_ (i_ (c_ (i_ (c_ (L0.at (c_ (LF.at ?_)))))));refine i_ ?_;show o_ _ _ (handedOut v) _ _ _;rw[handedOut_of hh];exact i_ h
theorem YL{oD:Obj}{Q:Option g_->l_->Prop}(hdct:hasDictIn K C=e_)(ϭ:FF K ↑aa "__getattribute__"=b_ (b_ (.builtin "BaseException.__getattribute__")))(ϧ:FF K ↑aa "__getattr__"=b_ f_)(hb:mroIn K C (.type "BaseException")=b_ e_)(ha:FF K ↑aa "__class__"=b_ (b_ ↑ac))(hn:specialIn K ↑ac "__get__"=b_ (b_ (.builtin "getset_descriptor.__get__")))(htk:takesIn K ↑ac=b_ e_)(hm:mroIn K C (.type "object")=b_ e_)(X:K.In s.heap)(I:InstAt s.heap x ox C (b_ oD))(h:Q (b_ ↑aa) {s with toks:=s.toks+1}):o_ ↑w A (getAttr? (.ref x) "__class__") Q E s:=by obtain⟨hp,g,d,t,os⟩:=s;have hf:findObj K C (b_ oD) "__class__"=b_ (.bind (.builtin "getset_descriptor.__get__") ↑ac):=findObj_data (by obtain⟨cd,hc,_⟩:=any_some hdct;rw[hc];rfl) ha hn htk;have LF:=looks_find (M:=q_ prog w) X I hf;have L0:=I.type (M:=q_ prog w);unfold getAttr? getAttrBy?;refine c_ (wpAny_mkText (c_ (OR (tF X I ϭ ϧ hb ?_))));unfold BL.«object.__getattribute__»;refine c_ (i_ (c_ (i_ (c_ (L0.at (c_ (LF.at ?_)))))));show o_ _ _ (O2 [_] (call _ [_,.ref x,.ref C])>>=ret) _ _ _;refine c_ (Ah (Oo (class_get (s:=⟨hp,g,d,t+1,os⟩) (ox:=ox) (od:=b_ oD) X I hm ?_)));refine i_ ?_;exact i_ (i_ h)
end
structure N9(K:Frag)(C:h_):Prop where
 hd:hasDictIn K C=e_
 ga:FF K ↑aa "__getattribute__"=b_ (b_ (.builtin "BaseException.__getattribute__"))gt:FF K ↑aa "__getattr__"=b_ f_
 bx:mroIn K C (.type "BaseException")=b_ e_
 at_:FF K ↑aa "at"=b_ f_
 cl:FF K ↑aa "__class__"=b_ (b_ ↑ac)ns:specialIn K ↑ac "__get__"=b_ (b_ (.builtin "getset_descriptor.__get__"))tk:takesIn K ↑ac=b_ e_
 ob:mroIn K C (.type "object")=b_ e_
def Ku{K:Frag}{x D:h_}{ox oD:Obj}(R:N9 K D):KitX K (.ref x) (.ref D) (λh=>InstAt h x ox D (b_ oD))where
 ty:=λ_ _ _ I=>I.type;it:=λ_ _ X _=>by
  obtain⟨cdD,hcD,_⟩:=any_some R.hd;unfold clsIn at hcD;split at hcD;·rename_i c' d' cd' sl' ho;intro A' Q' E' s' k q;unfold isType loadHead;exact c_ (wpAny_loadPart (k _ _ (X _ _ ho)) (i_ q))
  ·cases hcD
 ne:=λh tp dd its n sl X htp=>by
  obtain⟨cdD,hcD,_⟩:=any_some R.hd;refine Bool.eq_false_iff.mpr λq=>?_;have e:D=tp:=sE.inj (beq_iff_eq.mp q);subst e;unfold clsIn at hcD;split at hcD;·rename_i c' d' cd' sl' ho;have z:=(X _ _ ho).symm.trans htp;cases z
  ·cases hcD
 ca:=λX I k=>YL R.hd R.ga R.gt R.bx R.cl R.ns R.tk R.ob X I k
section
variable{X:Cx}{pins:List (h_×Obj)}{σ:St}{H:Hp}{s:l_}{A:A3}{E:g_->l_->Prop}{e C d:h_}{fs:List (Str×V)}
theorem Kv(I:zu X pins σ H s)(hx:H e=b_ (.xob C d))(ϣ:H d=b_ (.xd fs)):∃oe od,InstAt s.heap e oe C (b_ od)/\∀f v,fs.lookup f=b_ v->∃u,RelV v u/\lookIn f od=b_ (b_ u):=by obtain⟨oe,vs,he,So,hdi,hda,_⟩:=I.hok _ _ hx;obtain⟨mA,ς,hr⟩:=I.hok _ _ ϣ;obtain⟨od,ho,hl⟩:=aX ς;refine⟨oe,od,⟨he,So,by unfold notCls;rw[hda],by rw[hdi];exact ho⟩,λf v hf=>?_⟩;obtain⟨u,hu,ru⟩:=pf.some_of (v:=v) (o:=mA f) (by rw[<-hf];exact hr f);exact⟨u,ru,by rw[hl,hu]⟩
def Du(K:Frag)(ta:TE):TE:=λσ H Q=>ta σ H λx H1=>∃e C d fs v,x=.ref e/\H1 e=b_ (.xob C d)/\H1 d=b_ (.xd fs)/\N9 K C/\fs.lookup ("at":Str)=b_ v/\Q v H1
theorem MK{ex:A1}{pos:Pos}{ta:TE}(he:PE X ex ta)(hb:AZ ex "at" X.env (x_ ex X.env)=x_ ex X.env):PE X (.Attribute ex "at" pos) (Du X.K ta):=by intro pins s σ H Q I h;refine XG hb (jk (he pins s σ H _ I h) λo s1⟨x,H1,I1,r,e,C,d,fs,v,ex,h1,h2,R,hl,q⟩=>?_);subst ex;obtain rfl:o=sE e:=r;obtain⟨oe,od,IA,hlk⟩:=Kv I1 h1 h2;obtain⟨u,ru,hu⟩:=hlk _ _ hl;exact YK I1.kIn IA R.ga R.gt R.bx (findObj_own R.hd R.at_ rfl hu) (aY ru) ⟨v,H1,I1.tok _,ru,q⟩
theorem ML(I:zu X pins σ H s)(hx:H e=b_ (.xob C d))(ϣ:H d=b_ (.xd fs))(R:N9 X.K C)(k:kitOne X.K ↑aa c=b_ b)(h:∀tk,Q (.bool b) {s with toks:=tk}):o_ ↑n A (call (.builtin "isinstance") [.ref e,c]) Q E s:=by obtain⟨oe,od,IA,_⟩:=Kv I hx ϣ;exact kia_one (Ku R) I.kIn IA k (λz=>nomatch z) h
end
end L2
namespace L2
open PySem PySem.Spec PyProof.Rows
def Kw{α:Type}(xs:List α)(lo hi:Option Int):List α:=(xs.drop (HT.sIx ↑e 0 lo)).take (HT.sIx ↑e ↑e hi-HT.sIx ↑e 0 lo)
def Kx(z:Str)(lo hi:Option Int):Str:=⟨(Kw z.cps.toList lo hi).toArray⟩
def ZE(n:Nat)(d:Int):Option Int->Int|none=>d|some i=>max 0 (min (if i<0 then i+(n:Int)else i) (n:Int))
def ZF(n d:Nat)(hd:d<=n)(o:Option Int):ZE n d o=((HT.sIx n d o:Nat):Int):=by cases o with|none=>rfl|some i=>simp only[ZE,HT.sIx];split<;>omega
def eC(lo hi:Option Int)(n:Nat):BF lo hi 1 n=(t_ (HT.sIx n n hi-HT.sIx n 0 lo)).map (λk=>HT.sIx n 0 lo+k):=by
 have e:BF lo hi 1 n=sliceRange (ZE n ((0:Nat):Int) lo) (ZE n (n:Int) hi) 1:=by unfold BF;cases lo<;>cases hi<;>simp[ZE]
 rw[e,ZF n 0 (A5 _),ZF n n (r_ _)];unfold sliceRange;simp only[show(1:Int)>0 by decide,if_true];by_cases h:((HT.sIx n 0 lo:Nat):Int)<((HT.sIx n n hi:Nat):Int)
 ·have e3:((((HT.sIx n n hi:Nat):Int)-((HT.sIx n 0 lo:Nat):Int)+1-1)/1).toNat=HT.sIx n n hi-HT.sIx n 0 lo:=by rw[Int.ediv_one];omega
  simp only[h,if_true,e3];refine Oa λk _=>?_;omega
 ·have e4:HT.sIx n n hi-HT.sIx n 0 lo=0:=by omega
  simp[h,e4]
def Ky(z:Str)(lo hi:Option Int):Txt.slice z lo hi=Kx z lo hi:=by
 have hn:z.cps.toList.length=z.length:=by simp[Str.length]
 have a1:=HT.sIx_le z.length 0 (A5 _) lo;have a2:=HT.sIx_le z.length z.length (r_ _) hi;have pk:((BF lo hi 1 z.length).filterMap (z.cps[·]?))=Kw z.cps.toList lo hi:=by
  rw[eC];unfold Kw;rw[hn];by_cases h:HT.sIx z.length 0 lo<=HT.sIx z.length z.length hi;·have:=StrLaws.picks z.cps.toList (HT.sIx z.length z.length hi-HT.sIx z.length 0 lo) (HT.sIx z.length 0 lo) (by rw[hn];omega);simpa using this
  ·have e4:HT.sIx z.length z.length hi-HT.sIx z.length 0 lo=0:=by omega
   simp[e4]
 unfold Txt.slice;split
 ·rename_i h;rw[y_]at h;have h2:(BF lo hi 1 z.length).length=z.length:=by simpa using h.2
  rw[eC,j',List.length_range]at h2;have b1:HT.sIx z.length 0 lo=0\/z.length=0:=by omega
  have:Kw z.cps.toList lo hi=z.cps.toList:=by
   unfold Kw;rw[hn];rcases b1 with b1|b1
   ·have b2:HT.sIx z.length z.length hi=z.length:=by omega
    rw[b1,b2,List.drop_zero];exact F_ (by rw[hn];omega)
   ·have:z.cps.toList=[]:=FW (by rw[hn];exact b1);rw[this];simp
  unfold Kx;rw[this]
 ·rw[pk];rfl
def Dv:V->Option Int->Option Int->Hp->VK->Prop:=λx lo hi H Q=>∃z,x=.str z/\z.length<=j_/\Q (.str (Kx z lo hi)) H
def MM:Hg X Dv:=by intro pins s σ H x v vl vu lo hi sl Q I rx hs pl pu h;obtain⟨z,rfl,hz,q⟩:=h;obtain⟨t,rfl⟩:=rx;refine⟨"str",_,F.slot_str_getitem.lookup,typeIs_str _ _ _,?_⟩;have fin:∀t' k,EP X pins σ Q (.str (Txt.slice z lo hi) t') {s with toks:=k}:=λt' k=>⟨.str (Kx z lo hi),H,I.tok _,⟨t',by rw[Ky]⟩,q⟩;have hsz:(Txt.slice z lo hi).length<=j_:=A6 (Txt.slice_le z _ _) hz;cases pl with
 |none=>cases pu with|none=>exact FP (l:=f_) (u:=f_) (st:=f_) hs rfl (P_ ⟨hsz,fin⟩)|int j tj=>exact FP (l:=f_) (u:=b_ (j,tj)) (st:=f_) hs rfl (P_ ⟨hsz,fin⟩)
 |int i ti=>cases pu with|none=>exact FP (l:=b_ (i,ti)) (u:=f_) (st:=f_) hs rfl (P_ ⟨hsz,fin⟩)|int j tj=>exact FP (l:=b_ (i,ti)) (u:=b_ (j,tj)) (st:=f_) hs rfl (P_ ⟨hsz,fin⟩)
def EI(z:Str):It:=⟨λi _=>i<z.length,λi H x H'=>H'=H/\∃c,z.cps[i]?=b_ c/\x=.str ⟨#[c]⟩,λi _=>z.length<=i⟩
def Kz{P:sN}{w:sY}{K:d_}{tg:A1}(z:Str)(t:Tok)(it:h_)(ty:String)(V_:ty="str_ascii_iterator"\/ty="str_iterator"):Zv P w K tg (EI z) [it] it (λi h=>h.IsStrIter it ty z t i)where
 mem:=by simp
 obj:=λi h st b hb=>by
  have e:b=it:=by simpa using hb
  subst e;obtain⟨o,e,c,d⟩:=st;exact⟨o,e,λv z=>by rw[d]at z;cases z⟩
 keep:=λi h h' st k=>by obtain⟨o,e,r⟩:=st;exact⟨o,k it ↑G o e,r⟩
 item:=by
  intro X hP hw hK hc i pins s σ H E I hf st hg;subst hP hw hK;obtain⟨f0,f1,f2,f3,f4,f5⟩:=hf it ↑G;have hg:i<z.cps.size:=hg;have fin:∀h',h'.IsStrIter it ty z t (i+1)->Bx it s.heap h'->∃u,(b_ (.str ⟨#[z.cps[i]]⟩ s.toks):Option g_)=b_ u/\o_ ↑n X.A (AB tg (.ref it) u) (λ_ s2=>∃x H',zu X pins σ H' s2/\RelV x u/\(EI z).yld i H x H'/\s2.heap.IsStrIter it ty z t (i+1)/\∀b∈[it],H' b=f_) E {s with heap:=h',toks:=s.toks+1}:=by intro h' st' sb;have I1:zu X pins σ H {s with heap:=h',toks:=s.toks+1}:=I.turned (λb o hb e=>(sb.2 b hb).trans e) f0 f1 f3 f4 f5;obtain⟨o,e,c,d⟩:=id st';refine⟨_,rfl,XF (s:={s with heap:=h',toks:=s.toks+1}) e c d (by rcases V_ with rfl|rfl<;>decide) ⟨.str ⟨#[z.cps[i]]⟩,H,I1,⟨_,rfl⟩,⟨rfl,z.cps[i],by simp[hg],rfl⟩,st',λb hb=>(hf b hb).1⟩⟩
  rcases V_ with rfl|rfl;·exact wpAny_pyNext_ascii_item st (c:=z.cps[i]) (by simp[hg]) fin
  ·exact wpAny_pyNext_wide_item st (c:=z.cps[i]) (by simp[hg]) fin
 done:=by
  intro X hP hw hK hc i pins s σ H E I hf st hg;subst hP hw hK;obtain⟨f0,f1,f2,f3,f4,f5⟩:=hf it ↑G;have hg:z.cps.size<=i:=hg;rcases V_ with rfl|rfl;·exact wpAny_pyNext_ascii_end (I.ok.hd hc) st (by simp[hg]) λh' eb=>⟨rfl,I.turned (t':=s.toks) (λb o hb e=>eb b o hb e) f0 f1 f3 f4 f5⟩
  ·exact wpAny_pyNext_wide_end (I.ok.hd hc) st (by simp[hg]) λh' eb=>⟨rfl,I.turned (t':=s.toks) (λb o hb e=>eb b o hb e) f0 f1 f3 f4 f5⟩
 self:=λ_ _ _ _ _ st h=>by
  rcases V_ with rfl|rfl;·exact wpAny_pyIter_striter_ascii st h
  ·exact wpAny_pyIter_striter_wide st h
def Hs(tl:TE):TI:=λσ H R=>tl σ H λx H1=>∃z,x=.str z/\R (EI z) H1
def MP{l:A1}{tl:TE}(hl:PE X l tl):PI X tg l (Hs tl):=by
 intro pins s σ H R I h;refine jk (hl pins s σ H _ I h) λv s1⟨x,H1,I1,r1,q1⟩=>?_;obtain⟨z,e,q⟩:=q1;subst e;obtain⟨t,rfl⟩:=r1;have fin:∀ty,ty="str_ascii_iterator"\/ty="str_iterator"->Db X pins σ tg R (.ref ↑b) {s1 with heap:=s1.heap.push {cls:=.type ty,data:=.fields #[.str z t,.int 0 0]}}:=by
  intro ty V_;refine⟨↑b,[↑b],_,_,H1,rfl,I1.kept (t':=s1.toks) λb o e=>f' _ e,Kz z t _ ty V_,⟨_,sf _ rfl,rfl,rfl⟩,λb hb=>?_,q⟩;have e:b=↑b:=by simpa using hb
  subst e;exact I1.fpOk (r_ _) (I1.hok.fresh (r_ _))
 cases ha:z.cps.all (·<128);·exact wpAny_pyIter_wide ha (fin _ (.inr rfl))
 ·exact wpAny_pyIter_ascii ha (fin _ (.inl rfl))
def zH(K:d_)(mg:Str->Option g_)(x:Str)(st:A2):Prop:=∃f fd,fx K x x st f fd/\mg x=b_ (.ref f)
def KA(hg:Gl X x)(h:∃t,X.mg x=b_ (.str z t))(hd:(x==↑x)=a_:=by decide):PE X (.Name x pos) (tC (.str z)):=by obtain⟨t,h⟩:=h;exact gR hg h ⟨t,rfl⟩ hd
def KB(hg:Gl X x)(h:∃t,X.mg x=b_ (.int z t))(hd:(x==↑x)=a_:=by decide):PE X (.Name x pos) (tC (.int z)):=by obtain⟨t,h⟩:=h;exact gR hg h ⟨t,rfl⟩ hd
def MQ:A0 "len"=b_ (.builtin "len"):=by decide+kernel
def j0:A0 "isinstance"=b_ (.builtin "isinstance"):=by decide+kernel
def V1:A0 "sorted"=b_ (.builtin "sorted"):=by decide+kernel
def fy:A0 "all"=b_ (.builtin "all"):=by decide+kernel
def oS:A0 "bool"=b_ (.type "bool"):=by decide+kernel
def KC:A0 "int"=b_ (.type "int"):=by decide+kernel
def YM:A0 "str"=b_ (.type "str"):=by decide+kernel
def XT:A0 "list"=b_ (.type "list"):=by decide+kernel
def kP:A0 "tuple"=b_ (.type "tuple"):=by decide+kernel
def oU:A0 "enumerate"=b_ (.type "enumerate"):=by decide+kernel
def zq(X:Cx)(scope:FI)(cl:List (Str×h_))(C:h_)(N:List Str)(ex:List h_)(pn:List (h_×Obj))(s₀:l_)(H₀:Hp):Cx:={X with env:=compEnvC scope cl C X.env,N:=N,s₀:=s₀,H₀:=H₀,outer:=X.stack,ex:=ex,fn:=λ_=>a_,pn:=pn,xe:=λ_ _=>False}
structure cx(X:Cx)(scope:FI)(cl:List (Str×h_))(x:Str)(caps:List Str)(slots:List Nat):Prop where
 kind:scope.kind=.function
 nocell:∀y∈scope.names,y.2≠.cell
 names:∀y∈scope.names,y.2=.local->scope.names.lookup y.1=b_ .local
 hx:scope.names.lookup x=b_ .local
 clos:closureFor scope X.env=pure cl
 sub:∀y c,cl.lookup y=b_ c->X.env.cells.lookup y=b_ c
 has:∀y,((relabel scope X.env).names.lookup y=b_ .cell\/(relabel scope X.env).names.lookup y=b_ .free)->∃c,cl.lookup y=b_ c
 cap:∀(j:Nat)(y:Str),caps[j]?=b_ y->∃k:Nat,slots[j]?=b_ k/\X.N[k]?=b_ y/\(relabel scope X.env).names.lookup y=b_ .cell/\X.env.scope.names.lookup y=b_ .cell
 nd:(x::caps).Nodup
 len:slots.length=caps.length
def gi(σ:St)(slots:List Nat):St:=slots.map λk=>(σ[k]?).getD f_
def XU(wi:TI)(tt:TT)(te:TE)(slots:List Nat):TE:=λσ H Q=>wi σ H λJ H1=>∀D,H1 D=f_->∃W:Nat->Nat->List V->Hp->Prop,(∃m,W 0 m [] (zO H1 D (.lst [])))/\∀i m ys H,W i m ys H->H D=b_ (.lst ys)/\((J.stop i H/\Q (.ref D) H)\/(J.go i H/\∀v H',J.yld i H v H'->tt (b_ v::gi σ slots) H' λb H2=>if b=e_ then te (b_ v::gi σ slots) H2 λy H3=>H3 D=b_ (.lst ys)/\ys.length<j_/\∃m',m'<m/\W (i+1) m' (ys++[y]) (zO H3 D (.lst (ys++[y])))else∃m',m'<m/\W (i+1) m' ys H2))
def V2(X:Cx)(Sl:List A1)(t:TT):Prop:=∀(pins:List (h_×Obj))(s:l_)(σ:St)(H:Hp)(Q:Bool->Hp->Prop),zu X pins σ H s->t σ H Q->o_ ↑n X.A (forIn Sl e_ λc r=>if r=e_ then do let ok<-isTrue c X.env (x_ c X.env);pure (By ok)else pure (By r)) (TP X pins σ Q) X.xe s
def Ht:TT:=λ_ H Q=>Q e_ H
def KF:V2 X [] Ht:=λ_ _ _ H _ I h=>wpAny_tests_nil ⟨H,I,h⟩
def Pp(h:PT X c t):V2 X [c] t:=λpins s σ H Q I hw=>wpAny_tests_one (h pins s σ H Q I hw)
def tG(I:zu X pins σ H s)(h:XU wi tt te slots σ H Q)(fin:∀D C H5 s6 m,s6.heap.Ns C m->uD X pins H5 C->(∀h',Bx C s6.heap h'->zu X pins σ H5 {s6 with heap:=h'})->Q (.ref D) H5->compPost ↑n X.A X.xe use PQ (.ref D) C (.ok .next) s6)(hc:X.calm=e_)(S:cx X scope cl x caps slots)(hi:PI X (.Name x px) Sd wi)(ht:∀C ex pn s₀ H₀,V2 ↑q Sl tt)(he:∀C ex pn s₀ H₀,PE ↑q Ss te)(hs:∀v,u_ Sd X.env v=pure v:=by intro _;rfl)(hg:∀it v,AB (.Name x px) it v=pure ():=by intro _ _;rfl):o_ ↑n X.A (RQ ↑B scope X.env cpos (newList []) a_ (x_ Sd X.env) use) PQ X.xe s:=by
 refine RR rfl hs S.clos S.kind S.names (jk (hi pins s σ H _ I h) λv s1 h1=>jk h1 λΡ s2 h2=>?_);obtain⟨it,fp,tn,J,H1,e,I2,T,st2,f2,q⟩:=h2;subst e--the new list,at D;then the block's map,at C
 obtain⟨W,⟨m0,w0⟩,turn⟩:=q s2.heap.objs.size (I2.hok.fresh (r_ _));refine AJ ?_ (show(0:Nat)<=j_ from A5 _);have I3:zu X pins σ (zO H1 s2.heap.objs.size (.lst [])) {s2 with heap:=s2.heap.push {cls:=.type "list",data:=.seq ([]:List g_).toArray}}:=I2.lnew .nil (A5 _);have f3:∀b∈fp,uD X pins (zO H1 s2.heap.objs.size (.lst [])) b:=λb hb=>by obtain⟨f0,fr⟩:=f2 b hb;obtain⟨o,ho,_⟩:=T.obj _ _ st2 b hb;exact⟨by rw[zg (su (n_ ho))];exact f0,fr⟩
 have Ti:tn 0 (s2.heap.push {cls:=.type "list",data:=.seq ([]:List g_).toArray}):=T.keep _ _ _ st2 λb _ o e=>f' _ e;generalize hD:s2.heap.objs.size=D at I3 turn w0 f3⊢;generalize Ϛ:({s2 with heap:=s2.heap.push {cls:=.type "list",data:=.seq ([]:List g_).toArray}}:l_)=s3 at I3⊢;have Ti:tn 0 s3.heap:=by rw[<-Ϛ];exact Ti
 generalize hH3:zO H1 D (.lst [])=H3 at I3 w0 f3;refine wpAny_newFunctionEnv S.nocell (by intro y hy;simp at hy) (λh4 Tw Tr=>?_) S.kind;generalize hC:s3.heap.objs.size=C at Tw Tr⊢;have SW:∀b o,s3.heap.get? b=b_ o->b≠C:=λb o e=>by rw[<-hC];exact su (n_ e)
 have Sh:∀b o,s3.heap.get? b=b_ o->h4.get? b=b_ o:=λb o e=>Tr.extBut b o (SW b o e) (f' _ e);have fpo:∀b∈fp,∃o,s3.heap.get? b=b_ o:=λb hb=>let⟨o,ho,_⟩:=T.obj _ _ Ti b hb;⟨o,ho⟩;have Ϧ:∀b∈fp,b∉dE X.stack:=λb hb z=>(sB.mp (I3.stkSub b z)).elim (f3 b hb).2.1 (f3 b hb).2.2.1;have lx:(relabel scope X.env).names.lookup x=b_ .local:=lookup_relabel_local S.hx;have ok:(zq X scope cl C (x::caps) fp (X.pn++pins) s3 H3).Ok:=
  {mod:=I3.ok.mod
   kind:=S.kind
   glob:=I3.ok.glob
   blt:=I3.ok.blt
   above:=by rw[<-hC];exact r_ _
   inj:=λy z c h1 h2=>I3.ok.inj y z c (S.sub y c h1) (S.sub z c h2)
   has:=λy hy=>S.has y hy
   cab:=λy c h=>nomatch(show a_=e_ from h)
   hd:=I3.ok.hd
   frames:=I3.ok.frames
   stk:=.inl rfl
   exf:=λb hb=>⟨let⟨o,ho⟩:=fpo b hb;SW b o ho,λy c e=>(f3 b hb).2.2.2.2.1 y c (S.sub y c e)⟩
   bs:=λb o e=>I3.bs b o e
   bsz:=A6 I3.ok.bsz I3.sz
   noex:=λb o e hb=>by
    rcases(f3 b hb).2.2.2.1 with z|z;·exact I3.ok.noex b o e z
    ·exact absurd (sR (n_ (I3.ok.bs b o e).1) z) (BQ _)
   exfs:=Ϧ
   funs:=I3.stack
   frf:=I3.stkFree
   tab:=I3.tab};have I4:∀tk,zu ↑Y [] (f_::gi σ slots) H3 {s3 with heap:=h4,toks:=tk}:=λtk=>by
  refine⟨ok,rfl,I3.bare,Un.kept Sh,⟨_,Tw,λi y v h1 h2 h3=>?_⟩,λy c e=>?_,by show H3 C=f_;rw[<-hC];exact I3.hok.fresh (r_ _),λy c e=>I3.freeC y c (S.sub y c e),λp hp=>?_,I3.hok.kept Sh,?_⟩;·cases i with|zero=>cases h2|succ i=>
    have h1:caps[i]?=b_ y:=h1;have h2:(gi σ slots)[i]?=b_ (b_ v):=h2;obtain⟨k,hk,hN,hr,So⟩:=S.cap i y h1;have h2:(slots.map λk=>(σ[k]?).getD f_)[i]?=b_ (b_ v):=h2;rw[sI,hk]at h2;have h2:(σ[k]?).getD f_=b_ v:=sF h2;have h2:σ[k]?=b_ (b_ v):=by cases e:σ[k]? with|none=>rw[e]at h2;cases h2|some o=>rw[e]at h2;have:o=b_ v:=h2;rw[this]
    obtain⟨m,hn,hl⟩:=I3.loc;obtain⟨u,r,l⟩:=hl k y v hN h2 (.inr (.inl So));refine⟨u,r,.inr ⟨.inl hr,?_⟩⟩;rcases l with⟨z,_⟩|⟨_,c,e1,⟨o,ho,hd⟩⟩;·have z:X.env.scope.names.lookup y=b_ .local:=z;rw[So]at z;cases z
    ·obtain⟨c',e2⟩:=S.has y (.inl hr);have e3:=S.sub y c' e2;rw[e1]at e3;cases e3;exact⟨c,e2,o,Sh _ _ ho,hd⟩
  ·obtain⟨v,o,ho,hd⟩:=I3.cell y c (S.sub y c e);exact⟨v,o,Sh _ _ ho,hd⟩
  ·have hp:p∈(X.pn++pins)++[]:=hp;have hp:p∈X.pn++pins:=by simpa using hp
   obtain⟨e,n,ne,nf,d⟩:=I3.pin p hp;exact⟨Sh _ _ e,n,SW _ _ e,λz=>(sB.mp (I3.stkSub _ z)).elim ne nf,d⟩
  ·show(f_::gi σ slots).length=(x::caps).length;unfold gi;rw[sA,sA,j',S.len]
 have SR:∀{H':Hp},(∀b∈fp,H' b=f_)->∀b∈fp,uD ↑Y [] H' b:=λhn b hb=>⟨hn b hb,(ok.exf b hb).1,Ϧ b hb,.inl hb,(ok.exf b hb).2,λp hp=>(f3 b hb).2.2.2.2.2 p (by have hp:p∈(X.pn++pins)++[]:=hp;simpa using hp)⟩;have loop:∀tk,FX ↑n X.A (.compLoop ↑B 0 (.ref it) (.ref D) (compEnvC scope cl C X.env)) (compPost ↑n X.A X.xe use PQ (.ref D) C) {s3 with heap:=h4,toks:=tk}:=by
  intro tk;refine codeAny_compLoop_tests (λn s'=>∃i ys o H',zu ↑Y [] (o::gi σ slots) H' s'/\tn i s'.heap/\(∀b∈fp,H' b=f_)/\W i n ys H') ?_ m0 ⟨0,[],f_,H3,I4 tk,T.keep _ _ _ Ti λb _ o e=>Sh b o e,λb hb=>(f3 b hb).1,w0⟩ (hg _);rintro n s5⟨i,ys,o,H5,I5,st5,fr5,w5⟩;obtain⟨hDl,stop|⟨go,step⟩⟩:=turn i n ys H5 w5
  ·obtain⟨stop,qD⟩:=stop;refine sQ (T.done ↑Y rfl rfl rfl hc i [] s5 _ H5 (λ_ _=>False) I5 (SR fr5) st5 stop) (λr s6 Ψ=>?_) λ_ _ z=>z.elim;obtain⟨hr,I6⟩:=Ψ;subst hr;obtain⟨m,hn,_⟩:=I6.loc;refine fin D C H5 s6 m hn (I3.fpOk (by rw[<-hC];exact r_ _) I6.free) (λh' SN=>?_) qD;have Tx:∀c v,H5 c=b_ v->c≠C:=λc v e z=>by have:=I6.free;have:H5 C=f_:=this;rw[z,this]at e;cases e
   refine I3.call' I6.os ?_ ?_ I6.bare λb hb=>⟨(f3 b hb).2.2.2.1,(f3 b hb).2.1,(f3 b hb).2.2.2.2.1,(f3 b hb).2.2.2.2.2⟩;·have u:=I6.base;exact⟨λb o e n hb hx=>SN.extBut b o (SW b o e) (u.keep b o e n hb hx),λb o e n hb hx=>let⟨sl,q⟩:=u.slot b o e n hb hx;⟨sl,SN.extBut b _ (SW b o e) q⟩,u.free,λb o e hx=>let⟨o',q⟩:=u.there b o e hx;⟨o',SN.extBut b _ (SW b o e) q⟩,u.tups,u.frzs,u.tbls⟩
   ·exactλb u e=>(I6.hok b u e).stay (λc v hc q=>SN.extBut c v (hc.elim (λz=>by rw[z];exact Tx b u e) λz=>Tx c _ z) q) (λ_ q=>q) λ_ _ q=>q
  ·refine sQ (T.item ↑Y rfl rfl rfl hc i [] s5 _ H5 (λ_ _=>False) I5 (SR fr5) st5 go) (λr s6 Ψ=>?_) λ_ _ z=>z.elim;obtain⟨u,hr,h6⟩:=Ψ;subst hr;show o_ ↑n X.A (J' (.Name x px) (compEnvC scope cl C X.env) u) _ _ s6;have e6:J' (.Name x px) (compEnvC scope cl C X.env) u=(AB (.Name x px) (.ref it) u>>=λ_=>J' (.Name x px) (compEnvC scope cl C X.env) u):=by rw[hg];rfl
   rw[e6];refine c_ (sQ h6 (λ_ s7 h7=>?_) λ_ _ z=>z.elim);obtain⟨v,H7,I7,r7,y7,st7,fr7⟩:=h7;have I7':=I7.pinned (SR fr7) (T.obj _ _ st7);have pg:PG ↑Y (.Name x px) (qJ 0):=pM S.nd rfl (.inl lx) (.inr lx);refine sQ (pg _ s7 _ H7 v u (λσ8 H8=>σ8=b_ v::gi σ slots/\H8=H7) I7' r7 ⟨rfl,rfl⟩) (λ_ s8 h8=>?_) λ_ _ z=>z.elim;obtain⟨σ8,H8,I8,e8,e9⟩:=h8;rw[e8,e9]at I8;refine sQ (ht C fp (X.pn++pins) s3 H3 _ s8 _ _ _ I8 (step v H7 y7)) (λb s9 h9=>?_) λ_ _ z=>z.elim;obtain⟨H9,I9,q9⟩:=h9;have again:∀{o':Option V}{H':Hp}{s':l_}{zs:List V}{m':Nat},zu ↑Y ([]++iF fp s7.heap) (o'::gi σ slots) H' s'->m'<n->W (i+1) m' zs H'->∃m,m<n/\∃i ys o H',zu ↑Y [] (o::gi σ slots) H' s'/\tn i s'.heap/\(∀b∈fp,H' b=f_)/\W i m ys H':=λ{o' H' s' zs m'}I' hm w'=>by refine⟨m',hm,i+1,zs,o',H',I'.unpinned,T.keep _ _ _ st7 λb hb o e=>(I'.pin (b,o) (sy _ (sy _ (xU hb e)))).1,λb hb=>?_,w'⟩;obtain⟨o,e,d⟩:=T.obj _ _ st7 b hb;exact(I'.pin (b,o) (sy _ (sy _ (xU hb e)))).2.1
   cases b with|false=>rw[if_neg sM]at q9⊢;obtain⟨m',hm,w'⟩:=q9;exact again I9 hm w'|true=>rw[if_pos rfl]at q9⊢;refine sQ (he C fp (X.pn++pins) s3 H3 _ s9 _ _ _ I9 q9) (λyv s10 h10=>?_) λ_ _ z=>z.elim;obtain⟨y,H10,I10,ry,hDy,Si,m',hm,w'⟩:=h10;refine sQ (xE (X:=zq X scope cl C (x::caps) fp (X.pn++pins) s3 H3) _ s10 _ H10 (.ref D) [y] (.ref D) [yv] (λ_ H'=>H'=zO H10 D (.lst (ys++[y]))) I10 rfl (.cons ry .nil) ⟨D,ys,y,rfl,rfl,hDy,Si,rfl⟩) (λ_ s11 h11=>?_) λ_ _ z=>z.elim;obtain⟨_,H11,I11,_,e11⟩:=h11;subst e11;exact again I11 hm w'
 exact codeAny_compStart_list (loop _) (T.self X.A 0 _ _ _ (T.keep _ _ _ Ti λb _ o e=>Sh b o e) (loop _))
def Pq(hc:X.calm=e_)(S:cx X scope cl x caps slots)(hi:PI X (.Name x px) Sd wi)(ht:∀C ex pn s₀ H₀,V2 ↑q Sl tt)(he:∀C ex pn s₀ H₀,PE ↑q Ss te)(hs:∀v,u_ Sd X.env v=pure v:=by intro _;rfl)(hg:∀it v,AB (.Name x px) it v=pure ():=by intro _ _;rfl):PE X ↑B (XU wi tt te slots):=by intro pins s σ H Q I h;rw[eval_ListComp];exact tG I h (λD C H5 s6 m hn f keep q=>⟨m,hn,λh' SN=>⟨.ref D,H5,keep h' SN,rfl,q⟩⟩) hc S hi ht he hs hg
end L2
namespace L3
open PySem PySem.Spec PyProof.Rows L2
abbrev Mp:=w_->Prop
abbrev Mo:=h_->Mp
inductive T where|non|bl(b:Bool)|int(i:Int)|str(x:Str)|ty(n:String)|tup(ts:List T)|lst(ts:List T)|dct(ks:List Key)(ts:List T)|obj(C:h_)(fs:List Str)(ts:List T)|mem(m:h_)(o:Mp)|lam|exn(C:h_)(t:T)
def Hu(K:d_)(H:Hp)(a:h_)(vs:List V):Prop:=(∃o,H a=b_ (.frz o (.lst vs)))\/∃(o:Obj)(its:Array g_)(n:Nat),K.lookup a=b_ o/\o.cls=.type "list"/\o.dict=f_/\o.data=.seq its n/\its.size<=j_/\zQ vs its.toList
def YN(K:d_)(F:h_->Prop)(H:Hp)(a:h_)(vs:List V):Prop:=(F a/\H a=b_ (.lst vs))\/Hu K H a vs
def YN.sq{K:d_}{F:h_->Prop}{H:Hp}{a:h_}{vs:List V}(h:YN K F H a vs):lu K H a vs:=by
 rcases h with⟨_,h⟩|h|h;·exact .inl (.inl h)
 ·exact .inl (.inr h)
 ·exact .inr h
mutual def Is(K:d_)(F:h_->Prop)(H:Hp):T->V->Prop|.non,v=>v=.non|.bl b,v=>v=.bl b|.int i,v=>v=.int i|.str x,v=>v=.str x|.ty n,v=>v=.ty n|.tup ts,v=>∃a vs,v=.ref a/\lq K H a vs/\IsAll K F H ts vs|.lst ts,v=>∃a vs,v=.ref a/\YN K F H a vs/\IsAll K F H ts vs|.dct ks ts,v=>∃a kvs,v=.ref a/\F a/\Rd H a (.dK kvs)/\kvs.map (·.1)=ks/\IsAll K F H ts (kvs.map (·.2))|.obj C fs ts,v=>∃a dx SV,v=.ref a/\F a/\H a=b_ (.ins C dx SV)/\SV.map (·.1)=fs/\IsAll K F H ts (SV.map (·.2))|.mem m o,v=>v=.ref m/\H m=b_ (.ext o)|.lam,v=>∃a,v=.ref a/\H a=b_ (.own tabP)|.exn C t,v=>∃e d w,v=.ref e/\H e=b_ (.xob C d)/\H d=b_ (.xd [("at",w)])/\Is K F H t w def IsAll(K:d_)(F:h_->Prop)(H:Hp):List T->List V->Prop|[],vs=>vs=[]|t::ts,vs=>∃v r,vs=v::r/\Is K F H t v/\IsAll K F H ts r end
section
variable{K:d_}{F F':h_->Prop}{H H':Hp}
theorem cy(h:lq K H a vs)(s:∀b o,H b=b_ o->(∀xs,o≠.lst xs)->((∀xs,o≠.dK xs)/\∀C d xs,o≠.ins C d xs)->H' b=b_ o):lq K H' a vs:=by
 rcases h with(h|⟨o,h⟩)|h;·exact .inl (.inl (s _ _ h (by intro xs z;cases z) ⟨(by intro xs z;cases z),by intro _ _ xs z;cases z⟩))
 ·exact .inl (.inr ⟨o,s _ _ h (by intro xs z;cases z) ⟨(by intro xs z;cases z),by intro _ _ xs z;cases z⟩⟩)
 ·exact .inr h
structure gx(F F':h_->Prop)(H H':Hp):Prop where
 sub:∀a,F a->F' a
 fz:∀a o,F a->H a=b_ o->H' a=b_ o
 rest:∀a o,H a=b_ o->(∀xs,o≠.lst xs)->((∀xs,o≠.dK xs)/\∀C d xs,o≠.ins C d xs)->H' a=b_ o
theorem YN.mono(k:gx F F' H H')(h:YN K F H a vs):YN K F' H' a vs:=by
 rcases h with⟨f,h⟩|⟨o,h⟩|h;·exact .inl ⟨k.sub _ f,k.fz _ _ f h⟩
 ·exact .inr (.inl ⟨o,k.rest _ _ h (by intro xs z;cases z) ⟨(by intro xs z;cases z),by intro _ _ xs z;cases z⟩⟩)
 ·exact .inr (.inr h)
mutual theorem Is.mono(k:gx F F' H H'):∀{t:T}{v:V},Is K F H t v->Is K F' H' t v|.non,v,h=>by unfold Is at h⊢;exact h|.bl b,v,h=>by unfold Is at h⊢;exact h|.int i,v,h=>by unfold Is at h⊢;exact h|.str x,v,h=>by unfold Is at h⊢;exact h|.ty n,v,h=>by unfold Is at h⊢;exact h|.tup ts,v,h=>by unfold Is at h⊢;obtain⟨a,vs,e,h,r⟩:=h;exact⟨a,vs,e,cy h k.rest,IsAll.mono k r⟩|.lst ts,v,h=>by unfold Is at h⊢;obtain⟨a,vs,e,h,r⟩:=h;exact⟨a,vs,e,h.mono k,IsAll.mono k r⟩|.dct ks ts,v,h=>by unfold Is at h⊢;obtain⟨a,kvs,e,f,h,d,r⟩:=h;exact⟨a,kvs,e,k.sub _ f,h.elim (λh=>.inl (k.fz _ _ f h)) λ⟨o,h⟩=>.inr ⟨o,k.fz _ _ f h⟩,d,IsAll.mono k r⟩|.obj C fs ts,v,h=>by unfold Is at h⊢;obtain⟨a,dx,kvs,e,f,h,d,r⟩:=h;exact⟨a,dx,kvs,e,k.sub _ f,k.fz _ _ f h,d,IsAll.mono k r⟩|.mem m o,v,h=>by unfold Is at h⊢;exact⟨h.1,k.rest _ _ h.2 (by intro xs z;cases z) ⟨(by intro xs z;cases z),by intro _ _ xs z;cases z⟩⟩|.lam,v,h=>by unfold Is at h⊢;exact h.imp λa h=>⟨h.1,k.rest _ _ h.2 (by intro xs z;cases z) ⟨(by intro xs z;cases z),by intro _ _ xs z;cases z⟩⟩|.exn C t,v,h=>by unfold Is at h⊢;obtain⟨e,d,w,ev,h1,h2,h3⟩:=h;exact⟨e,d,w,ev,k.rest _ _ h1 (by intro xs z;cases z) ⟨(by intro xs z;cases z),by intro _ _ xs z;cases z⟩,k.rest _ _ h2 (by intro xs z;cases z) ⟨(by intro xs z;cases z),by intro _ _ xs z;cases z⟩,Is.mono k h3⟩theorem IsAll.mono(k:gx F F' H H'):∀{ts:List T}{vs:List V},IsAll K F H ts vs->IsAll K F' H' ts vs|[],vs,h=>by unfold IsAll at h⊢;exact h|t::ts,vs,h=>by unfold IsAll at h⊢;obtain⟨v,r,e,h1,h2⟩:=h;exact⟨v,r,e,Is.mono k h1,IsAll.mono k h2⟩end
end
mutual def Ye:T->Bool|.lst _=>a_|.tup ts=>noLs ts|.dct _ ts=>noLs ts|.obj _ _ ts=>noLs ts|.exn _ t=>Ye t|_=>e_ def noLs:List T->Bool|[]=>e_|t::ts=>Ye t&&noLs ts end
mutual def Yf:T->Bool|.dct _ _=>a_|.tup ts=>noDs ts|.lst ts=>noDs ts|.obj _ _ ts=>noDs ts|.exn _ t=>Yf t|_=>e_ def noDs:List T->Bool|[]=>e_|t::ts=>Yf t&&noDs ts end
mutual def Yg:T->Bool|.obj _ _ _=>a_|.tup ts=>noOs ts|.lst ts=>noOs ts|.dct _ ts=>noOs ts|.exn _ t=>Yg t|_=>e_ def noOs:List T->Bool|[]=>e_|t::ts=>Yg t&&noOs ts end
section
variable{K:d_}{F F':h_->Prop}{H:Hp}
structure oV(F F':h_->Prop)(H:Hp)(l d o:Bool):Prop where
 lst:∀a xs,F a->H a=b_ (.lst xs)->l=a_->F' a
 dct:∀a xs,F a->H a=b_ (.dK xs)->d=a_->F' a
 ins:∀a C dx xs,F a->H a=b_ (.ins C dx xs)->o=a_->F' a
 frz:∀a ob u,F a->H a=b_ (.frz ob u)->F' a
mutual theorem Is.clean(c:oV F F' H l d o):∀{t:T}{v:V},(l=e_->Ye t=e_)->(d=e_->Yf t=e_)->(o=e_->Yg t=e_)->Is K F H t v->Is K F' H t v
 |.non,v,_,_,_,h=>by unfold Is at h⊢;exact h|.bl b,v,_,_,_,h=>by unfold Is at h⊢;exact h|.int i,v,_,_,_,h=>by unfold Is at h⊢;exact h|.str x,v,_,_,_,h=>by unfold Is at h⊢;exact h|.ty n,v,_,_,_,h=>by unfold Is at h⊢;exact h|.mem m o,v,_,_,_,h=>by unfold Is at h⊢;exact h|.lam,v,_,_,_,h=>by unfold Is at h⊢;exact h|.exn C t,v,hl,hd,ho,h=>by unfold Is at h⊢;obtain⟨e,d,w,ev,h1,h2,h3⟩:=h;exact⟨e,d,w,ev,h1,h2,Is.clean c (λz=>by simpa[Ye]using hl z) (λz=>by simpa[Yf]using hd z) (λz=>by simpa[Yg]using ho z) h3⟩|.tup ts,v,hl,hd,ho,h=>by unfold Is at h⊢;obtain⟨a,vs,e,h,r⟩:=h;exact⟨a,vs,e,h,IsAll.clean c (λz=>by simpa[Ye]using hl z) (λz=>by simpa[Yf]using hd z) (λz=>by simpa[Yg]using ho z) r⟩|.lst ts,v,hl,hd,ho,h=>by
  unfold Is at h⊢;obtain⟨a,vs,e,h,r⟩:=h;have hl0:l=a_:=by cases l with|false=>rfl|true=>simp[Ye]at hl
  refine⟨a,vs,e,?_,IsAll.clean c (λz=>by rw[hl0]at z;cases z) (λz=>by simpa[Yf]using hd z) (λz=>by simpa[Yg]using ho z) r⟩;rcases h with⟨f,h⟩|h;·exact .inl ⟨c.lst a vs f h hl0,h⟩
  ·exact .inr h|.dct ks ts,v,hl,hd,ho,h=>by
  unfold Is at h⊢;obtain⟨a,kvs,e,f,h,q,r⟩:=h;have hd0:d=a_:=by cases d with|false=>rfl|true=>simp[Yf]at hd
  exact⟨a,kvs,e,h.elim (λh=>c.dct a kvs f h hd0) (λ⟨_,h⟩=>c.frz a _ _ f h),h,q,IsAll.clean c (λz=>by simpa[Ye]using hl z) (λz=>by rw[hd0]at z;cases z) (λz=>by simpa[Yg]using ho z) r⟩|.obj C fs ts,v,hl,hd,ho,h=>by
  unfold Is at h⊢;obtain⟨a,dx,kvs,e,f,h,q,r⟩:=h;have ho0:o=a_:=by cases o with|false=>rfl|true=>simp[Yg]at ho
  exact⟨a,dx,kvs,e,c.ins a _ _ _ f h ho0,h,q,IsAll.clean c (λz=>by simpa[Ye]using hl z) (λz=>by simpa[Yf]using hd z) (λz=>by rw[ho0]at z;cases z) r⟩theorem IsAll.clean(c:oV F F' H l d o):∀{ts:List T}{vs:List V},(l=e_->noLs ts=e_)->(d=e_->noDs ts=e_)->(o=e_->noOs ts=e_)->IsAll K F H ts vs->IsAll K F' H ts vs
 |[],vs,_,_,_,h=>by unfold IsAll at h⊢;exact h|t::ts,vs,hl,hd,ho,h=>by
  unfold IsAll at h⊢;obtain⟨v,r,e,h1,h2⟩:=h;have hl':l=e_->Ye t=e_/\noLs ts=e_:=λz=>by simpa[noLs]using hl z
  have hd':d=e_->Yf t=e_/\noDs ts=e_:=λz=>by simpa[noDs]using hd z
  have SS:o=e_->Yg t=e_/\noOs ts=e_:=λz=>by simpa[noOs]using ho z
  exact⟨v,r,e,Is.clean c (λz=>(hl' z).1) (λz=>(hd' z).1) (λz=>(SS z).1) h1,IsAll.clean c (λz=>(hl' z).2) (λz=>(hd' z).2) (λz=>(SS z).2) h2⟩end
end
section
variable{K:d_}{F:h_->Prop}{H:Hp}
theorem IsAll.len:∀{ts:List T}{vs:List V},IsAll K F H ts vs->↑c=↑g|[],vs,h=>by unfold IsAll at h;rw[h];rfl|t::ts,vs,h=>by unfold IsAll at h;obtain⟨v,r,e,h1,h2⟩:=h;rw[e,sA,sA,IsAll.len h2]
theorem IsAll.get:∀{ts:List T}{vs:List V}{i:Nat}{t:T},IsAll K F H ts vs->ts[i]?=b_ t->∃v,vs[i]?=b_ v/\Is K F H t v|[],vs,i,t,h,e=>by simp at e|u::ts,vs,i,t,h,e=>by unfold IsAll at h;obtain⟨v,r,e',h1,h2⟩:=h;subst e';cases i with|zero=>simp at e;subst e;exact⟨v,by simp,h1⟩|succ i=>obtain⟨w,hw,q⟩:=IsAll.get h2 (by simpa using e);exact⟨w,by simpa using hw,q⟩
theorem IsAll.nil:IsAll K F H [] []:=by unfold IsAll;rfl
theorem IsAll.cons(h:Is K F H t v)(r:IsAll K F H ts vs):IsAll K F H (t::ts) (v::vs):=by unfold IsAll;exact⟨v,vs,rfl,h,r⟩
theorem IsAll.append:∀{ts us:List T}{vs ws:List V},IsAll K F H ts vs->IsAll K F H us ws->IsAll K F H (ts++us) (vs++ws)|[],us,vs,ws,h,g=>by unfold IsAll at h;subst h;exact g|t::ts,us,vs,ws,h,g=>by unfold IsAll at h;obtain⟨v,r,e,h1,h2⟩:=h;subst e;exact IsAll.cons h1 (IsAll.append h2 g)
theorem IsAll.take:∀{ts:List T}{vs:List V}(n:Nat),IsAll K F H ts vs->IsAll K F H (ts.take n) (vs.take n)|ts,vs,0,h=>by simpa using IsAll.nil|[],vs,n+1,h=>by unfold IsAll at h;subst h;simpa using IsAll.nil|t::ts,vs,n+1,h=>by unfold IsAll at h;obtain⟨v,r,e,h1,h2⟩:=h;subst e;exact IsAll.cons h1 (IsAll.take n h2)
theorem IsAll.drop:∀{ts:List T}{vs:List V}(n:Nat),IsAll K F H ts vs->IsAll K F H (ts.drop n) (vs.drop n)|ts,vs,0,h=>by simpa using h|[],vs,n+1,h=>by unfold IsAll at h;subst h;simpa using IsAll.nil|t::ts,vs,n+1,h=>by unfold IsAll at h;obtain⟨v,r,e,h1,h2⟩:=h;subst e;exact IsAll.drop n h2
theorem IsAll.set:∀{ts:List T}{vs:List V}{t:T}{v:V}(n:Nat),IsAll K F H ts vs->Is K F H t v->IsAll K F H (ts.set n t) (vs.set n v)|[],vs,_,_,n,h,_=>by unfold IsAll at h;subst h;simpa using IsAll.nil|t::ts,vs,_,_,0,h,g=>by unfold IsAll at h;obtain⟨v,r,e,h1,h2⟩:=h;subst e;exact IsAll.cons g h2|t::ts,vs,_,_,n+1,h,g=>by unfold IsAll at h;obtain⟨v,r,e,h1,h2⟩:=h;subst e;exact IsAll.cons h1 (IsAll.set n h2 g)
end
abbrev St:=L2.St
structure Ex where
 C:h_
 at_:T
inductive gd(α:Type)where|ok(a:α)|exc(x:Ex)|bad
def gd.bind{α β:Type}(r:gd α)(f:α->gd β):gd β:=match r with|.ok a=>f a|.exc x=>.exc x|.bad=>.bad
@[simp]theorem bind_ok{α β:Type}(a:α)(f:α->gd β):(gd.ok a).bind f=f a:=rfl
@[simp]theorem bind_exc{α β:Type}(x:Ex)(f:α->gd β):(gd.exc x:gd α).bind f=.exc x:=rfl
@[simp]theorem bind_bad{α β:Type}(f:α->gd β):(gd.bad:gd α).bind f=.bad:=rfl
def Yh{α:Type}:Option α->gd α|some a=>.ok a|none=>.bad
@[simp]theorem ofO_some{α:Type}(a:α):Yh (b_ a)=.ok a:=rfl
@[simp]theorem ofO_none{α:Type}:Yh (f_:Option α)=.bad:=rfl
abbrev RV:=Bool×T
abbrev En:=List (Option RV)
abbrev ME:=En->gd RV
abbrev MT:=En->gd Bool
abbrev MA:=En->gd (List RV)
structure jB(F:h_->Prop)(H:Hp)(F':h_->Prop)(H':Hp):Prop where
 same:∀a o,H a=b_ o->H' a=b_ o
 sub:∀a,F a->F' a
 new:∀a,F' a->F a\/H a=f_
 dom:∀a,F' a->H' a≠f_
def aq(F:h_->Prop)(H:Hp):Prop:=∀a,F a->H a≠f_
section
variable{F F1 F2:h_->Prop}{H H1 H2:Hp}
theorem jB.refl(d:aq F H):jB F H F H:=⟨λ_ _ h=>h,λ_ h=>h,λ_ h=>.inl h,d⟩
theorem j8(e:∀a o,H a=b_ o->H1 a=b_ o)(h:H1 a=f_):H a=f_:=by cases q:H a with|none=>rfl|some o=>rw[e a o q]at h;cases h
theorem jB.trans(e:jB F H F1 H1)(f:jB F1 H1 F2 H2):jB F H F2 H2:=⟨λa o h=>f.same a o (e.same a o h),λa h=>f.sub a (e.sub a h),λa h=>by
  rcases f.new a h with h|h;·exact e.new a h
  ·exact .inr (j8 e.same h),f.dom⟩
theorem jB.kept(e:jB F H F1 H1):gx F F1 H H1:=⟨e.sub,λa o _ h=>e.same a o h,λa o h _ _=>e.same a o h⟩
theorem jB.alloc(d:aq F H)(hp:H p=f_):jB F H F (zO H p o):=⟨λa u h=>by rw[zg (zM h hp)];exact h,λ_ h=>h,λ_ h=>.inl h,λa h=>by
  have:=d a h;by_cases e:a=p;·subst e;exact absurd hp this
  ·rw[zg e];exact this⟩
theorem jB.freeze(e:jB F H F1 H1)(hf:H a=f_)(h1:H1 a≠f_):jB F H (λb=>F1 b\/b=a) H1:=⟨e.same,λb h=>.inl (e.sub b h),λb h=>by
  rcases h with h|rfl;·exact e.new b h
  ·exact .inr hf,λb h=>by
  rcases h with h|rfl;·exact e.dom b h
  ·exact h1⟩
end
def kh(K:d_)(F:h_->Prop)(H:Hp)(a:h_):T->Prop|.lst ts=>∃vs,H a=b_ (.lst vs)/\IsAll K F H ts vs|.dct ks ts=>∃kvs,H a=b_ (.dK kvs)/\kvs.map (·.1)=ks/\IsAll K F H ts (kvs.map (·.2))|.obj C fs ts=>∃dx SV,H a=b_ (.ins C dx SV)/\SV.map (·.1)=fs/\IsAll K F H ts (SV.map (·.2))|_=>False
def kN(K:d_)(fr:h_->Prop)(F:h_->Prop)(H:Hp)(v:V)(r:RV):Prop:=if r.1=e_ then∃a,v=.ref a/\¬F a/\fr a/\kh K F H a r.2 else Is K F H r.2 v
def kh.mono{K:d_}{F F':h_->Prop}{H H':Hp}{a:h_}{t:T}(k:gx F F' H H')(s:∀o,H a=b_ o->H' a=b_ o)(h:kh K F H a t):kh K F' H' a t:=by cases t with|lst ts=>obtain⟨vs,e,r⟩:=h;exact⟨vs,s _ e,r.mono k⟩|dct ks ts=>obtain⟨vs,e,d,r⟩:=h;exact⟨vs,s _ e,d,r.mono k⟩|obj C fs ts=>obtain⟨dx,vs,e,d,r⟩:=h;exact⟨dx,vs,s _ e,d,r.mono k⟩|_=>exact h.elim
def kh.there{K:d_}{F:h_->Prop}{H:Hp}{a:h_}{t:T}(h:kh K F H a t):H a≠f_:=by cases t with|lst ts=>obtain⟨vs,e,r⟩:=h;rw[e];intro z;cases z|dct ks ts=>obtain⟨vs,e,r⟩:=h;rw[e];intro z;cases z|obj C fs ts=>obtain⟨dx,vs,e,r⟩:=h;rw[e];intro z;cases z|_=>exact h.elim
def kh.is{K:d_}{F F':h_->Prop}{H:Hp}{a:h_}{t:T}(h:kh K F H a t)(s:∀b,F b->F' b)(ha:F' a):Is K F' H t (.ref a):=by have k:gx F F' H H:=⟨s,λ_ _ _ h=>h,λ_ _ h _ _=>h⟩;cases t with|lst ts=>obtain⟨vs,e,r⟩:=h;unfold Is;exact⟨a,vs,rfl,.inl ⟨ha,e⟩,r.mono k⟩|dct ks ts=>obtain⟨vs,e,d,r⟩:=h;unfold Is;exact⟨a,vs,rfl,ha,.inl e,d,r.mono k⟩|obj C fs ts=>obtain⟨dx,vs,e,d,r⟩:=h;unfold Is;exact⟨a,dx,vs,rfl,ha,e,d,r.mono k⟩|_=>exact h.elim
def kN.is{K:d_}{fr F:h_->Prop}{H:Hp}{v:V}{t:T}(h:kN K fr F H v (a_,t)):Is K F H t v:=by simpa[kN]using h
def jj{K:d_}{fr F:h_->Prop}{H:Hp}{v:V}{t:T}(h:Is K F H t v):kN K fr F H v (a_,t):=by simpa[kN]using h
def kN.frz{K:d_}{F F1:h_->Prop}{H H1:Hp}{v:V}{r:RV}(e:jB F H F1 H1)(h:kN K (λa=>H a=f_) F1 H1 v r):∃F2,jB F H F2 H1/\(∀a,F1 a->F2 a)/\Is K F2 H1 r.2 v:=by obtain⟨o,t⟩:=r;cases o with|false=>exact⟨F1,e,λ_ h=>h,h.is⟩|true=>
  have h:∃a,v=.ref a/\¬F1 a/\H a=f_/\kh K F1 H1 a t:=by simpa[kN]using h
  obtain⟨a,rfl,nf,fr,o⟩:=h;exact⟨_,e.freeze fr o.there,λb h=>.inl h,o.is (λb h=>.inl h) (.inr rfl)⟩
def KG(K:d_)(F:h_->Prop)(H:Hp)(ev:g_)(x:Ex):Prop:=∃e,ev=.ref e/\Is K F H (.exn x.C x.at_) (.ref e)
structure xV(K:d_)(F:h_->Prop)(H:Hp)(σ:St)(env:En):Prop where
 dom:aq F H
 vals:∀(i:Nat)(r:RV),env[i]?=b_ (b_ r)->∃v,σ[i]?=b_ (b_ v)/\Is K F H r.2 v
def xV.mono{K:d_}{F F':h_->Prop}{H H':Hp}{σ:St}{env:En}(r:xV K F H σ env)(e:jB F H F' H'):xV K F' H' σ env:=⟨e.dom,λi t h=>let⟨v,h1,h2⟩:=r.vals i t h;⟨v,h1,h2.mono e.kept⟩⟩
def XV(X:Cx)(F:h_->Prop)(H:Hp)(σ:St)(x:Ex):Prop:=∀ev F' H',jB F H F' H'->KG X.K F' H' ev x->∀pins s',db X ev pins σ H' s'->X.xe ev s'
def XV.mono(h:XV X F H σ x)(e:jB F H F1 H1):XV X F1 H1 σ x:=λev F' H' e' i pins s' I=>h ev F' H' (e.trans e') i pins s' I
def xW(X:Cx)(t:TE)(m:ME):Prop:=∀(F:h_->Prop)(H:Hp)(σ:St)(env:En)(Q:VK),xV X.K F H σ env->m env≠.bad->(∀r,m env=.ok r->∀v F' H',jB F H F' H'->kN X.K (λa=>H a=f_) F' H' v r->Q v H')->(∀x,m env=.exc x->XV X F H σ x)->t σ H Q
def fD(X:Cx)(t:TT)(m:MT):Prop:=∀(F:h_->Prop)(H:Hp)(σ:St)(env:En)(Q:Bool->Hp->Prop),xV X.K F H σ env->m env≠.bad->(∀b,m env=.ok b->∀F' H',jB F H F' H'->Q b H')->(∀x,m env=.exc x->XV X F H σ x)->t σ H Q
def eD(X:Cx)(t:TE)(m:ME):Prop:=∀(F:h_->Prop)(H:Hp)(σ:St)(env:En)(Q:VK),xV X.K F H σ env->m env≠.bad->(∀r,m env=.ok r->∀v F' H',jB F H F' H'->kN X.K (λa=>H a=f_) F' H' v r->Q v H')->(∀x,m env=.exc x->False)->t σ H Q
def tH(X:Cx)(t:TT)(m:MT):Prop:=∀(F:h_->Prop)(H:Hp)(σ:St)(env:En)(Q:Bool->Hp->Prop),xV X.K F H σ env->m env≠.bad->(∀b,m env=.ok b->∀F' H',jB F H F' H'->Q b H')->(∀x,m env=.exc x->False)->t σ H Q
def xW.val(h:xW X t m)(R:xV X.K F H σ env)(nb:m env≠.bad)(ok:∀r,m env=.ok r->∀v F' H',jB F H F' H'->Is X.K F' H' r.2 v->Q v H')(ex:∀x,m env=.exc x->XV X F H σ x):t σ H Q:=h F H σ env Q R nb (λr e v F' H' x i=>let⟨F2,e2,_,i2⟩:=i.frz x;ok r e v F2 H' e2 i2) ex
def eD.val(h:eD X t m)(R:xV X.K F H σ env)(nb:m env≠.bad)(ok:∀r,m env=.ok r->∀v F' H',jB F H F' H'->Is X.K F' H' r.2 v->Q v H')(ex:∀x,m env=.exc x->False):t σ H Q:=h F H σ env Q R nb (λr e v F' H' x i=>let⟨F2,e2,_,i2⟩:=i.frz x;ok r e v F2 H' e2 i2) ex
def jb(X:Cx)(e:A1)(m:ME):Prop:=∃t,PE X e t/\xW X t m
def ZG(X:Cx)(e:A1)(m:MT):Prop:=∃t,PT X e t/\fD X t m
def mC(t:T):ME:=λ_=>.ok (a_,t)
def mV(i:Nat):ME:=λenv=>match env[i]? with|some (b_ r)=>.ok (a_,r.2)|_=>.bad
section
variable{X:Cx}{e a b c:A1}{pos:Pos}{ma mb mc:ME}{ta tb tc:TE}
theorem eE(h:∀F H,Is X.K F H t v):xW X (tC v) (mC t):=by intro F H σ env Q R nb ok ex;exact ok _ rfl v F H (.refl R.dom) (jj (h F H))
theorem ze{i j}:jb X (.Constant (.int i) j pos) (mC (.int i)):=⟨_,NO,eE λ_ _=>by unfold Is;rfl⟩
theorem uG{i j}:jb X (.Constant (.bool i) j pos) (mC (.bl i)):=⟨_,II,eE λ_ _=>by unfold Is;rfl⟩
theorem jS{j}:jb X (.Constant .none j pos) (mC .non):=⟨_,NP,eE λ_ _=>by unfold Is;rfl⟩
theorem zE{i j}:jb X (.Constant (.str i) j pos) (mC (.str i)):=⟨_,NQ,eE λ_ _=>by unfold Is;rfl⟩
theorem Pr(i:Nat):xW X (xJ i) (mV i):=by intro F H σ env Q R nb ok ex;unfold mV at nb ok;cases h:env[i]? with|none=>rw[h]at nb;exact absurd rfl nb|some o=>cases o with|none=>rw[h]at nb;exact absurd rfl nb|some r=>rw[h]at ok;obtain⟨v,e,q⟩:=R.vals i r h;exact⟨v,e,ok _ rfl v F H (.refl R.dom) (jj q)⟩
theorem qv(i:Nat)(hN:X.N[i]?=b_ x:=by rfl)(hv:Yd X.env.scope x:=by first|exact AW rfl|exact Ae (AW rfl)|exact Ae (Ae rfl))(hd:(x==↑x)=a_:=by decide)(Sz:(x==("__classdict__":Str))=a_:=by decide):jb X (.Name x pos) (mV i):=⟨_,gv hN hv hd Sz,Pr i⟩
def Hv(K:d_)(r:R2)(f:T->T->Option RV):Prop:=∀(F:h_->Prop)(H:Hp)(x y:V)(tx ty:T)(Q:VK)(rv:RV),aq F H->Is K F H tx x->Is K F H ty y->f tx ty=b_ rv->(∀v F' H',jB F H F' H'->kN K (λa=>H a=f_) F' H' v rv->Q v H')->r x y H Q
def m2(f:T->T->Option RV)(ma mb:ME):ME:=λenv=>(ma env).bind λx=>(mb env).bind λy=>Yh (f x.2 y.2)
theorem oW(hr:Hv X.K r f)(ha:xW X ta ma)(hb:xW X tb mb):xW X (IX r ta tb) (m2 f ma mb):=by intro F H σ env Q R nb ok ex;unfold m2 at nb ok ex;refine ha.val R ↑m (λr1 e1 v1 F1 H1 x1 i1=>?_) λx z=>ex x ↑D;rw[e1]at nb ok ex;refine hb.val (R.mono x1) (λz=>by rw[bind_ok,z]at nb;exact nb rfl) (λr2 e2 v2 F2 H2 x2 i2=>?_) λx z=>(ex x (by rw[bind_ok,z];rfl)).mono x1;rw[bind_ok,e2,bind_ok]at nb ok;cases h:f r1.2 r2.2 with|none=>rw[h]at nb;exact absurd rfl nb|some rv=>
  rw[h]at ok;refine hr F2 H2 v1 v2 _ _ Q rv x2.dom (i1.mono x2.kept) i2 h λv F' H' x i=>ok rv rfl v F' H' ((x1.trans x2).trans x) ?_;unfold kN at i⊢;split;·rename_i ho;rw[if_pos ho]at i;obtain⟨a,e,nf,fr,o⟩:=i;exact⟨a,e,nf,j8 (x1.trans x2).same fr,o⟩
  ·rename_i ho;rw[if_neg ho]at i;exact i
theorem Ps(ho:qR X (BU op) r)(hr:Hv X.K r f)(ha:jb X a ma)(hb:jb X b mb):jb X (.BinOp a op b pos) (m2 f ma mb):=by obtain⟨ta,pa,sa⟩:=ha;obtain⟨tb,pb,sb⟩:=hb;exact⟨_,IY ho pa pb,oW hr sa sb⟩
theorem ZH(ho:qR X (sX op) r)(hr:Hv X.K r f)(ha:jb X a ma)(hb:jb X b mb)(hm:AY op b=a_):jb X (.Compare a [op] [b] pos) (m2 f ma mb):=by obtain⟨ta,pa,sa⟩:=ha;obtain⟨tb,pb,sb⟩:=hb;exact⟨_,GX ho pa pb hm,oW hr sa sb⟩
def jl(m:ME):MT:=λenv=>(m env).bind λx=>match x.2 with|.bl b=>.ok b|_=>.bad
theorem ZI(h:xW X t m):fD X (Ka t) (jl m):=by intro F H σ env Q R nb ok ex;unfold jl at nb ok ex;refine h.val R ↑m (λr1 e1 v1 F1 H1 x1 i1=>?_) λx z=>ex x ↑D;rw[e1,bind_ok]at nb ok;obtain⟨o,t⟩:=r1;cases t with|bl k=>unfold Is at i1;exact⟨k,i1,ok k rfl F1 H1 x1⟩|_=>exact absurd rfl nb
theorem pP(ho:qR X (sX op) r)(hr:Hv X.K r f)(ha:jb X a ma)(hb:jb X b mb)(hm:AY op b=a_):ZG X (.Compare a [op] [b] pos) (jl (m2 f ma mb)):=by obtain⟨ta,pa,sa⟩:=ha;obtain⟨tb,pb,sb⟩:=hb;exact⟨_,GY ho pa pb hm,ZI (oW hr sa sb)⟩
end
def XW(t u:T):Option Bool:=match t with
 |.non=>match u with|.non=>b_ e_|.bl _=>b_ a_|.int _=>b_ a_|.str _=>b_ a_|.tup _=>b_ a_|.lst _=>b_ a_|_=>f_
 |.bl a=>match u with|.non=>b_ a_|.bl b=>b_ (a==b)|.int b=>b_ ((if a then 1 else 0)==b)|.str _=>b_ a_|.tup _=>b_ a_|.lst _=>b_ a_|_=>f_
 |.int a=>match u with|.non=>b_ a_|.bl b=>b_ (a==(if b then 1 else 0))|.int b=>b_ (a==b)|.str _=>b_ a_|.tup _=>b_ a_|.lst _=>b_ a_|_=>f_
 |.str a=>match u with|.non=>b_ a_|.bl _=>b_ a_|.int _=>b_ a_|.str b=>b_ (a==b)|.tup _=>b_ a_|.lst _=>b_ a_|_=>f_
 |.tup _=>match u with|.non=>b_ a_|.bl _=>b_ a_|.int _=>b_ a_|.str _=>b_ a_|.lst _=>b_ a_|_=>f_
 |.lst _=>match u with|.non=>b_ a_|.bl _=>b_ a_|.int _=>b_ a_|.str _=>b_ a_|.tup _=>b_ a_|_=>f_
 |_=>f_
def VU(f:T->T->Option Bool):List T->List T->Option Bool|[],_=>b_ e_|_::_,[]=>b_ e_|t::ts,u::us=>match f t u with|none=>f_|some a=>match VU f ts us with|none=>f_|some b=>b_ (a&&b)
def de:Nat->T->T->Option Bool|0,t,u=>XW t u|n+1,t,u=>match t,u with|.tup ts,.tup us=>(VU (de n) ts us).map λb=>b&&↑c==↑h|.lst ts,.lst us=>if ↑c=↑h then VU (de n) ts us else b_ a_|t,u=>XW t u
def cz:∀{ts us:List T}{b:Bool},VU f ts us=b_ b->∃e:Nat->Bool,(∀(j:Nat)(t u:T),ts[j]?=b_ t->us[j]?=b_ u->f t u=b_ (e j))/\(t_ (min ↑c ↑h)).all e=b|[],us,b,h=>⟨λ_=>e_,λj t u h1 _=>by simp at h1,by simp[VU]at h;simp[h]⟩|t::ts,[],b,h=>⟨λ_=>e_,λj t u _ h1=>by simp at h1,by simp[VU]at h;simp[h]⟩|t::ts,u::us,b,h=>by rw[VU]at h;cases h1:f t u with|none=>rw[h1]at h;cases h|some a=>rw[h1]at h;cases h2:VU f ts us with|none=>rw[h2]at h;cases h|some c=>
    rw[h2]at h;simp only[AK]at h;obtain⟨e,he,hb⟩:=cz h2;refine⟨λj=>match j with|0=>a|j+1=>e j,λj t' u' g1 g2=>?_,?_⟩;·cases j with|zero=>simp at g1 g2;subst g1;subst g2;exact h1|succ j=>exact he j t' u' (by simpa using g1) (by simpa using g2)
    ·have:min (t::ts).length (u::us).length=min ↑c ↑h+1:=by simp only[sA];omega
     rw[this,List.range_succ_eq_map,Oi,List.all_map];show(a&&(t_ (min ↑c ↑h)).all e)=b;rw[hb,h]
def ZJ:∀{t:T}{b:Bool},XW t t=b_ b->b=e_:=by intro t b h;cases t<;>simp[XW]at h<;>simp_all
def cA(hf:∀t b,f t t=b_ b->b=e_):∀{ts:List T}{b:Bool},VU f ts ts=b_ b->b=e_|[],b,h=>by simp[VU]at h;exact h|t::ts,b,h=>by rw[VU]at h;cases h1:f t t with|none=>rw[h1]at h;cases h|some a=>rw[h1]at h;cases h2:VU f ts ts with|none=>rw[h2]at h;cases h|some c=>rw[h2]at h;have:=hf t a h1;have:=cA hf h2;simp_all
def cB:∀{n:Nat}{t:T}{b:Bool},de n t t=b_ b->b=e_|0,t,b,h=>ZJ h|n+1,t,b,h=>by cases t with|tup ts=>simp only[de,sJ]at h;obtain⟨c,h1,h2⟩:=h;have:=cA (λt b=>cB) h1;simp_all|lst ts=>simp only[de,if_true]at h;exact cA (λt b=>cB) h|_=>exact ZJ (by simpa[de]using h)
section
variable{X:Cx}{pins:List (h_×Obj)}{σ:St}{H:Hp}{s:l_}{F:h_->Prop}
def B8:g_->V|.bool b=>.bl b|.int i _=>.int i|.str x _=>.str x|.bytes b _=>.byt b|.float b _=>.flt b|.ref a=>.ref a|.type n=>.ty n|_=>.non
theorem XX(h:L2.RelV v u):B8 u=v:=by cases v<;>first|(obtain⟨_,rfl⟩:=h;rfl)|(cases h;rfl)
theorem ZK(h:L2.RelV v u)(h':L2.RelV v' u):v=v':=(XX h).symm.trans (XX h')
theorem cC:∀{vs T3:List V}{us:List g_},zQ vs us->zQ T3 us->vs=T3|_,_,_,.nil,.nil=>rfl|_,_,_,.cons r t,.cons r' t'=>by rw[ZK r r',cC t t']
theorem Pt(I:zu X pins σ H s)(h:lq X.K H a vs)(h':lq X.K H a T3):vs=T3:=by
 obtain⟨its,r,pl,hz⟩:=I.tuple h;obtain⟨its',r',pl',hz'⟩:=I.tuple h';obtain⟨o,e,c,n,d⟩:=pl;obtain⟨o',e',c',n',d'⟩:=pl';rw[e]at e';cases e';rw[d]at d';have:its=its':=by injection d' with d' _;simpa using d'
 subst this;exact cC r r'
theorem Pu(I:zu X pins σ H s)(h:lu X.K H a vs)(h':lu X.K H a T3):vs=T3:=by
 obtain⟨its,r,pl,hz⟩:=I.list h;obtain⟨its',r',pl',hz'⟩:=I.list h';obtain⟨o,e,c,n,d⟩:=pl.isList;obtain⟨o',e',c',n',d'⟩:=pl'.isList;rw[e]at e';cases e';rw[d]at d';have:its=its':=by injection d' with d' _;simpa using d'
 subst this;exact cC r r'
theorem ZL(I:zu X pins σ H s)(h:lu X.K H a vs)(h':lq X.K H a T3):False:=by obtain⟨its,r,pl,hz⟩:=I.list h;obtain⟨its',r',pl',hz'⟩:=I.tuple h';exact SeqAt.ne_of_list_tuple pl.isList pl' rfl
theorem qK(r:zQ xs its)(h:j<↑k):∃x,xs[j]?=b_ x/\L2.RelV x its.toArray[j]:=by
 have hl:=r.length;have h':j<its.length:=by simpa using h
 have hx:j<↑e:=by omega
 obtain⟨u,hu,q⟩:=r.get (i:=j) (x:=xs[j]) (by simp[hx]);refine⟨xs[j],by simp[hx],?_⟩;have:its[j]?=b_ its[j]:=by simp[h']
 rw[this]at hu;cases hu;simpa using q
theorem KH(I:zu X pins σ H s)(hu:A.units<Fk)(h:XW t u=b_ b)(it:Is X.K F H t x)(iu:Is X.K F H u y)(rx:L2.RelV x vx)(ry:L2.RelV y vy):sV A s vx vy b/\(sU A s vx vy b):=by
 cases t<;>try(simp only[XW,reduceCtorEq]at h;done)
 all_goals(cases u<;>simp only[XW,AK,reduceCtorEq]at h<;>unfold Is at it iu)
 case non.non=>subst it iu h;cases rx;cases ry;exact⟨sV.none_none,sU.same _⟩
 case non.bl=>subst it iu h;cases rx;cases ry;exact⟨sV.none_bool _,sU.none_bool _⟩
 case non.int=>subst it iu h;cases rx;obtain⟨t',rfl⟩:=ry;exact⟨sV.none_int _ _,sU.none_int _ _⟩
 case non.str=>subst it iu h;cases rx;obtain⟨t',rfl⟩:=ry;exact⟨sV.none_str _ _,sU.none_str _ _⟩
 case bl.non=>subst it iu h;cases rx;cases ry;exact⟨sV.bool_none _,sU.bool_none _⟩
 case bl.bl=>subst it iu h;cases rx;cases ry;exact⟨sV.bool_bool _ _,sU.bool_bool _ _⟩
 case bl.int=>subst it iu h;cases rx;obtain⟨t',rfl⟩:=ry;exact⟨sV.bool_int _ _ _,sU.bool_int _ _ _⟩
 case bl.str=>subst it iu h;cases rx;obtain⟨t',rfl⟩:=ry;exact⟨sV.bool_str _ _ _,sU.bool_str _ _ _⟩
 case int.non=>subst it iu h;obtain⟨t',rfl⟩:=rx;cases ry;exact⟨sV.int_none _ _,sU.int_none _ _⟩
 case int.bl=>subst it iu h;obtain⟨t',rfl⟩:=rx;cases ry;exact⟨sV.int_bool _ _ _,sU.int_bool _ _ _⟩
 case int.int=>subst it iu h;obtain⟨t',rfl⟩:=rx;obtain⟨t',rfl⟩:=ry;exact⟨sV.int_int _ _ _ _,sU.int_int _ _ _ _⟩
 case int.str=>subst it iu h;obtain⟨t',rfl⟩:=rx;obtain⟨t',rfl⟩:=ry;exact⟨sV.int_str _ _ _ _,sU.int_str _ _ _ _⟩
 case str.non=>subst it iu h;obtain⟨t',rfl⟩:=rx;cases ry;exact⟨sV.str_none _ _,sU.str_none _ _⟩
 case str.bl=>subst it iu h;obtain⟨t',rfl⟩:=rx;cases ry;exact⟨sV.str_bool _ _ _,sU.str_bool _ _ _⟩
 case str.int=>subst it iu h;obtain⟨t',rfl⟩:=rx;obtain⟨t',rfl⟩:=ry;exact⟨sV.str_int _ _ _ _,sU.str_int _ _ _ _⟩
 case str.str=>subst it iu h;obtain⟨t',rfl⟩:=rx;obtain⟨t',rfl⟩:=ry;exact⟨sV.str_str _ _ _ _,SeqAt.EqAt.str_str _ _ _ _⟩
 case tup.lst=>obtain⟨a,vs,rfl,h1,_⟩:=it;obtain⟨b,ws,rfl,h2,_⟩:=iu;subst h;cases rx;cases ry;obtain⟨_,_,p1,_⟩:=I.tuple h1;obtain⟨_,_,p2,_⟩:=I.list h2.sq;exact⟨sV.tuple_list p1 p2.isList hu,sU.tuple_list p1 p2.isList hu⟩
 case lst.tup=>obtain⟨a,vs,rfl,h1,_⟩:=it;obtain⟨b,ws,rfl,h2,_⟩:=iu;subst h;cases rx;cases ry;obtain⟨_,_,p1,_⟩:=I.list h1.sq;obtain⟨_,_,p2,_⟩:=I.tuple h2;exact⟨sV.list_tuple p1.isList p2 hu,sU.list_tuple p1.isList p2 hu⟩
 case tup.non=>obtain⟨a,vs,rfl,h1,_⟩:=it;subst iu h;cases rx;cases ry;obtain⟨_,_,p1,_⟩:=I.tuple h1;exact⟨sV.tuple_none p1 hu,sU.tuple_none p1 hu⟩
 case tup.bl=>obtain⟨a,vs,rfl,h1,_⟩:=it;subst iu h;cases rx;cases ry;obtain⟨_,_,p1,_⟩:=I.tuple h1;exact⟨sV.tuple_bool _ p1 hu,sU.tuple_bool _ p1 hu⟩
 case tup.int=>obtain⟨a,vs,rfl,h1,_⟩:=it;subst iu h;cases rx;obtain⟨t',rfl⟩:=ry;obtain⟨_,_,p1,_⟩:=I.tuple h1;exact⟨sV.tuple_int _ _ p1 hu,sU.tuple_int _ _ p1 hu⟩
 case tup.str=>obtain⟨a,vs,rfl,h1,_⟩:=it;subst iu h;cases rx;obtain⟨t',rfl⟩:=ry;obtain⟨_,_,p1,_⟩:=I.tuple h1;exact⟨sV.tuple_str _ _ p1 hu,sU.tuple_str _ _ p1 hu⟩
 case lst.non=>obtain⟨a,vs,rfl,h1,_⟩:=it;subst iu h;cases rx;cases ry;obtain⟨_,_,p1,_⟩:=I.list h1.sq;exact⟨sV.list_none p1.isList hu,sU.list_none p1.isList hu⟩
 case lst.bl=>obtain⟨a,vs,rfl,h1,_⟩:=it;subst iu h;cases rx;cases ry;obtain⟨_,_,p1,_⟩:=I.list h1.sq;exact⟨sV.list_bool _ p1.isList hu,sU.list_bool _ p1.isList hu⟩
 case lst.int=>obtain⟨a,vs,rfl,h1,_⟩:=it;subst iu h;cases rx;obtain⟨t',rfl⟩:=ry;obtain⟨_,_,p1,_⟩:=I.list h1.sq;exact⟨sV.list_int _ _ p1.isList hu,sU.list_int _ _ p1.isList hu⟩
 case lst.str=>obtain⟨a,vs,rfl,h1,_⟩:=it;subst iu h;cases rx;obtain⟨t',rfl⟩:=ry;obtain⟨_,_,p1,_⟩:=I.list h1.sq;exact⟨sV.list_str _ _ p1.isList hu,sU.list_str _ _ p1.isList hu⟩
 case non.tup=>obtain⟨a,vs,rfl,h1,_⟩:=iu;subst it h;cases rx;cases ry;obtain⟨_,_,p1,_⟩:=I.tuple h1;exact⟨sV.none_tuple p1 hu,sU.none_tuple p1 hu⟩
 case bl.tup=>obtain⟨a,vs,rfl,h1,_⟩:=iu;subst it h;cases rx;cases ry;obtain⟨_,_,p1,_⟩:=I.tuple h1;exact⟨sV.bool_tuple _ p1 hu,sU.bool_tuple _ p1 hu⟩
 case int.tup=>obtain⟨a,vs,rfl,h1,_⟩:=iu;subst it h;cases ry;obtain⟨t',rfl⟩:=rx;obtain⟨_,_,p1,_⟩:=I.tuple h1;exact⟨sV.int_tuple _ _ p1 hu,sU.int_tuple _ _ p1 hu⟩
 case str.tup=>obtain⟨a,vs,rfl,h1,_⟩:=iu;subst it h;cases ry;obtain⟨t',rfl⟩:=rx;obtain⟨_,_,p1,_⟩:=I.tuple h1;exact⟨sV.str_tuple _ _ p1 hu,sU.str_tuple _ _ p1 hu⟩
 case non.lst=>obtain⟨a,vs,rfl,h1,_⟩:=iu;subst it h;cases rx;cases ry;obtain⟨_,_,p1,_⟩:=I.list h1.sq;exact⟨sV.none_list p1.isList hu,sU.none_list p1.isList hu⟩
 case bl.lst=>obtain⟨a,vs,rfl,h1,_⟩:=iu;subst it h;cases rx;cases ry;obtain⟨_,_,p1,_⟩:=I.list h1.sq;exact⟨sV.bool_list _ p1.isList hu,sU.bool_list _ p1.isList hu⟩
 case int.lst=>obtain⟨a,vs,rfl,h1,_⟩:=iu;subst it h;cases ry;obtain⟨t',rfl⟩:=rx;obtain⟨_,_,p1,_⟩:=I.list h1.sq;exact⟨sV.int_list _ _ p1.isList hu,sU.int_list _ _ p1.isList hu⟩
 case str.lst=>obtain⟨a,vs,rfl,h1,_⟩:=iu;subst it h;cases ry;obtain⟨t',rfl⟩:=rx;obtain⟨_,_,p1,_⟩:=I.list h1.sq;exact⟨sV.str_list _ _ p1.isList hu,sU.str_list _ _ p1.isList hu⟩
def EJ:Option HO->Nat|some (.dK _)=>4|some (.frz _ (.dK _))=>4|some (.ins _ _ _)=>5|some (.ext _)=>6|some (.own _)=>7|some (.xob _ _)=>8|_=>0
def MR(H:Hp):V->Nat|.ref a=>EJ (H a)|_=>9
def Pv:T->Nat|.tup _=>0|.lst _=>0|.dct _ _=>4|.obj _ _ _=>5|.mem _ _=>6|.lam=>7|.exn _ _=>8|_=>9
theorem j5(I:zu X pins σ H s)(h:Is X.K F H t v):MR H v=Pv t:=by
 have kin:∀{a:h_}{o:Obj},X.K.lookup a=b_ o->MR H (.ref a)=0:=λh=>by show EJ _=_;rw[(I.bs _ _ (I.ok.mod.kin _ _ h)).2];rfl
 have at_:∀{a:h_}{o:HO}{n:Nat},H a=b_ o->EJ (b_ o)=n->MR H (.ref a)=n:=λh e=>by show EJ _=_;rw[h];exact e
 cases t<;>unfold Is at h;case tup ts=>
  obtain⟨a,vs,rfl,(h|⟨o,h⟩)|⟨o,its,n,h,_⟩,_⟩:=h;·exact at_ h rfl
  ·exact at_ h rfl
  ·exact kin h
 case lst ts=>
  obtain⟨a,vs,rfl,⟨_,h⟩|⟨o,h⟩|⟨o,its,n,h,_⟩,_⟩:=h;·exact at_ h rfl
  ·exact at_ h rfl
  ·exact kin h
 case dct ks ts=>obtain⟨a,kvs,rfl,_,h|⟨o,h⟩,_⟩:=h<;>exact at_ h rfl
 case obj C fs ts=>obtain⟨a,dx,kvs,rfl,_,h,_⟩:=h;exact at_ h rfl
 case mem m o=>obtain⟨rfl,h⟩:=h;exact at_ h rfl
 case lam=>obtain⟨a,rfl,h⟩:=h;exact at_ h rfl
 case exn=>obtain⟨a,_,_,rfl,h,_⟩:=h;exact at_ h rfl
 all_goals(rw[h];rfl)
theorem YO(h:Rd H a (.dK x))(g:Rd H a (.dK y)):x=y:=by rcases h with h|⟨o,h⟩<;>rcases g with g|⟨o',g⟩<;>rw[h]at g<;>cases g<;>rfl
def Dw:T->V|.bl b=>.bl b|.int i=>.int i|.str x=>.str x|.ty n=>.ty n|_=>.non
theorem m4(e:Pv t=9)(h:Is X.K F H t v):v=Dw t:=by cases t<;>first|(unfold Is at h;exact h)|cases e
theorem cD(e:Pv t=9)(g:Pv u=9)(h:Dw t=Dw u):t=u:=by cases t<;>first|(cases e;done)|(cases u<;>first|(cases g;done)|(cases h;rfl)|(cases h;done))
mutual theorem Is.inj(I:zu X pins σ H s):∀{t u:T}{v:V},Is X.K F H t v->Is X.K F H u v->t=u
 |.tup ts,u,v,h,g=>by
  have hc:=(j5 I h).symm.trans (j5 I g);unfold Is at h;obtain⟨a,vs,rfl,h1,h2⟩:=h;cases u<;>first|(cases hc;done)|unfold Is at g
  case tup us=>obtain⟨b,ws,e,g1,g2⟩:=g;cases e;have:=Pt I h1 g1;subst this;rw[IsAll.inj I h2 g2]
  case lst us=>obtain⟨b,ws,e,g1,g2⟩:=g;cases e;exact(ZL I g1.sq h1).elim|.lst ts,u,v,h,g=>by
  have hc:=(j5 I h).symm.trans (j5 I g);unfold Is at h;obtain⟨a,vs,rfl,h1,h2⟩:=h;cases u<;>first|(cases hc;done)|unfold Is at g
  case tup us=>obtain⟨b,ws,e,g1,g2⟩:=g;cases e;exact(ZL I h1.sq g1).elim
  case lst us=>obtain⟨b,ws,e,g1,g2⟩:=g;cases e;have:=Pu I h1.sq g1.sq;subst this;rw[IsAll.inj I h2 g2]|.dct ks ts,u,v,h,g=>by
  have hc:=(j5 I h).symm.trans (j5 I g);unfold Is at h;obtain⟨a,vs,rfl,_,h1,h2,h3⟩:=h;cases u<;>first|(cases hc;done)|unfold Is at g
  obtain⟨b,ws,e,_,g1,g2,g3⟩:=g;cases e;cases YO h1 g1;rw[IsAll.inj I h3 g3,<-h2,<-g2]|.obj C fs ts,u,v,h,g=>by
  have hc:=(j5 I h).symm.trans (j5 I g);unfold Is at h;obtain⟨a,dx,vs,rfl,_,h1,h2,h3⟩:=h;cases u<;>first|(cases hc;done)|unfold Is at g
  obtain⟨b,dx',ws,e,_,g1,g2,g3⟩:=g;cases e;rw[h1]at g1;cases g1;rw[IsAll.inj I h3 g3,<-h2,<-g2]|.mem m o,u,v,h,g=>by
  have hc:=(j5 I h).symm.trans (j5 I g);unfold Is at h;obtain⟨rfl,h1⟩:=h;cases u<;>first|(cases hc;done)|unfold Is at g
  obtain⟨e,g1⟩:=g;cases e;rw[h1]at g1;cases g1;rfl|.lam,u,v,h,g=>by have hc:=(j5 I h).symm.trans (j5 I g);cases u<;>first|(cases hc;done)|rfl
 |.exn C t,u,v,h,g=>by
  have hc:=(j5 I h).symm.trans (j5 I g);unfold Is at h;obtain⟨e,d,w,rfl,h1,h2,h3⟩:=h;cases u<;>first|(cases hc;done)|unfold Is at g
  obtain⟨e',d',w',z,g1,g2,g3⟩:=g;cases z;rw[h1]at g1;cases g1;rw[h2]at g2;cases g2;rw[Is.inj I h3 g3]|.non,u,v,h,g=>cD rfl ((j5 I g).symm.trans (j5 I h)) ((m4 rfl h).symm.trans (m4 ((j5 I g).symm.trans (j5 I h)) g))|.bl b,u,v,h,g=>cD rfl ((j5 I g).symm.trans (j5 I h)) ((m4 rfl h).symm.trans (m4 ((j5 I g).symm.trans (j5 I h)) g))|.int i,u,v,h,g=>cD rfl ((j5 I g).symm.trans (j5 I h)) ((m4 rfl h).symm.trans (m4 ((j5 I g).symm.trans (j5 I h)) g))|.str x,u,v,h,g=>cD rfl ((j5 I g).symm.trans (j5 I h)) ((m4 rfl h).symm.trans (m4 ((j5 I g).symm.trans (j5 I h)) g))|.ty n,u,v,h,g=>cD rfl ((j5 I g).symm.trans (j5 I h)) ((m4 rfl h).symm.trans (m4 ((j5 I g).symm.trans (j5 I h)) g))theorem IsAll.inj(I:zu X pins σ H s):∀{ts us:List T}{vs:List V},IsAll X.K F H ts vs->IsAll X.K F H us vs->ts=us
 |[],us,vs,h,g=>by unfold IsAll at h;subst h;cases us with|nil=>rfl|cons u us=>unfold IsAll at g;obtain⟨_,_,e,_⟩:=g;cases e
 |t::ts,us,vs,h,g=>by unfold IsAll at h;obtain⟨v,r,rfl,h1,h2⟩:=h;cases us with|nil=>unfold IsAll at g;cases g|cons u us=>unfold IsAll at g;obtain⟨_,_,e,g1,g2⟩:=g;cases e;rw[Is.inj I h1 g1,IsAll.inj I h2 g2]end
def iJ(I:zu X pins σ H s):∀{n:Nat}{t u:T}{x y:V}{vx vy:g_}{b:Bool}{A:A3},A.units+n<Fk->de n t u=b_ b->Is X.K F H t x->Is X.K F H u y->L2.RelV x vx->L2.RelV y vy->sV A s vx vy b/\sU A s vx vy b
 |0,t,u,x,y,vx,vy,b,A,hu,h,it,iu,rx,ry=>KH I ↑p h it iu rx ry|n+1,t,u,x,y,vx,vy,b,A,hu,h,it,iu,rx,ry=>by
  have two:∀{a c:h_}{k:Bool},x=.ref a->y=.ref c->(a=c->k=e_)->sV A s (.ref a) (.ref c) k->sV A s (.ref a) (.ref c) k/\sU A s (.ref a) (.ref c) k:=by
   intro a c k _ _ hk r;refine⟨r,?_⟩;by_cases e:a=c;·rw[hk e,e];exact sU.same _
   ·exact .of_refs e r
  have same:x=y->b=e_:=λe=>by subst e;have:=it.inj I iu;subst this;exact cB h
  cases t<;>cases u<;>try(exact KH I ↑p (by simpa[de]using h) it iu rx ry)
  case tup.tup ts us=>
   simp only[de,sJ]at h;obtain⟨c,h1,h2⟩:=h;unfold Is at it iu;obtain⟨a,vs,rfl,g1,g2⟩:=it;obtain⟨d,ws,rfl,g3,g4⟩:=iu;cases rx;cases ry;obtain⟨its,r1,p1,_⟩:=I.tuple g1;obtain⟨its',r2,p2,_⟩:=I.tuple g3;obtain⟨e,he,hb⟩:=cz h1;refine two rfl rfl (λz=>same (by rw[z])) ?_;have l1:=g2.len;have l2:=g4.len;have l3:=r1.length;have l4:=r2.length;have:=sV.tuples (A:=A) p1 p2 ↑p λj j1 j2=>by
    obtain⟨v1,hv1,q1⟩:=qK r1 j1;obtain⟨v2,hv2,q2⟩:=qK r2 j2;have j1':j<its.length:=by simpa using j1
    have j2':j<its'.length:=by simpa using j2
    have TQ:j<↑c:=by omega
    have Tv:j<↑h:=by omega
    obtain⟨w1,hw1,i1⟩:=g2.get (i:=j) (t:=ts[j]) (by simp[TQ]);obtain⟨w2,hw2,i2⟩:=g4.get (i:=j) (t:=us[j]) (by simp[Tv]);rw[hv1]at hw1;cases hw1;rw[hv2]at hw2;cases hw2;exact(iJ I (by rw[FQ];omega) (he j ts[j] us[j] (by simp[TQ]) (by simp[Tv])) i1 i2 q1 q2).2
   have e1:↑k=↑c:=by simp;omega
   have e2:its'.toArray.size=↑h:=by simp;omega
   rw[e1,e2,hb]at this;rw[<-h2];exact this
  case lst.lst ts us=>
   simp only[de]at h;unfold Is at it iu;obtain⟨a,vs,rfl,g1,g2⟩:=it;obtain⟨d,ws,rfl,g3,g4⟩:=iu;cases rx;cases ry;obtain⟨its,r1,p1,_⟩:=I.list g1.sq;obtain⟨its',r2,p2,_⟩:=I.list g3.sq;refine two rfl rfl (λz=>same (by rw[z])) ?_;have l1:=g2.len;have l2:=g4.len;have l3:=r1.length;have l4:=r2.length;have e1:↑k=↑c:=by simp;omega
   have e2:its'.toArray.size=↑h:=by simp;omega
   by_cases hl:↑c=↑h
   ·rw[if_pos hl]at h;obtain⟨e,he,hb⟩:=cz h;have:=sV.lists (A:=A) p1.isList p2.isList ↑p ↑p λj j1 j2=>by
     obtain⟨v1,hv1,q1⟩:=qK r1 j1;obtain⟨v2,hv2,q2⟩:=qK r2 j2;have j1':j<its.length:=by simpa using j1
     have j2':j<its'.length:=by simpa using j2
     have TQ:j<↑c:=by omega
     have Tv:j<↑h:=by omega
     obtain⟨w1,hw1,i1⟩:=g2.get (i:=j) (t:=ts[j]) (by simp[TQ]);obtain⟨w2,hw2,i2⟩:=g4.get (i:=j) (t:=us[j]) (by simp[Tv]);rw[hv1]at hw1;cases hw1;rw[hv2]at hw2;cases hw2;exact(iJ I (A:=A.in1) (by rw[FQ];omega) (he j ts[j] us[j] (by simp[TQ]) (by simp[Tv])) i1 i2 q1 q2).2
    rw[e1]at this;have e3:min ↑c ↑h=↑c:=by omega
    rw[e3]at hb;rw[hb]at this;exact this
   ·rw[if_neg hl]at h;cases h;exact sV.lists_lengths p1.isList p2.isList (by rw[e1,e2];simpa using hl) ↑p
def KI(I:zu X pins σ H s)(hu:A.units<Fk)(h:XW t u=b_ b)(it:Is X.K F H t x)(iu:Is X.K F H u y)(rx:L2.RelV x vx)(ry:L2.RelV y vy):sK A s vx vy (!b):=by
 cases t<;>try(simp only[XW,reduceCtorEq]at h;done)
 all_goals(cases u<;>simp only[XW,AK,reduceCtorEq]at h<;>unfold Is at it iu)
 case non.non=>subst it iu h;cases rx;cases ry;exact(sK.none_none)
 case non.bl=>subst it iu h;cases rx;cases ry;exact(sK.none_bool _)
 case non.int=>subst it iu h;cases rx;obtain⟨t',rfl⟩:=ry;exact(sK.none_int _ _)
 case non.str=>subst it iu h;cases rx;obtain⟨t',rfl⟩:=ry;exact(sK.none_str _ _)
 case bl.non=>subst it iu h;cases rx;cases ry;exact(sK.bool_none _)
 case bl.bl=>subst it iu h;cases rx;cases ry;exact(sK.bool_bool _ _)
 case bl.int=>subst it iu h;cases rx;obtain⟨t',rfl⟩:=ry;exact(sK.bool_int _ _ _)
 case bl.str=>subst it iu h;cases rx;obtain⟨t',rfl⟩:=ry;exact(sK.bool_str _ _ _)
 case int.non=>subst it iu h;obtain⟨t',rfl⟩:=rx;cases ry;exact(sK.int_none _ _)
 case int.bl=>subst it iu h;obtain⟨t',rfl⟩:=rx;cases ry;exact(sK.int_bool _ _ _)
 case int.int=>subst it iu h;obtain⟨t',rfl⟩:=rx;obtain⟨t',rfl⟩:=ry;exact(sK.int_int _ _ _ _)
 case int.str=>subst it iu h;obtain⟨t',rfl⟩:=rx;obtain⟨t',rfl⟩:=ry;exact(sK.int_str _ _ _ _)
 case str.non=>subst it iu h;obtain⟨t',rfl⟩:=rx;cases ry;exact(sK.str_none _ _)
 case str.bl=>subst it iu h;obtain⟨t',rfl⟩:=rx;cases ry;exact(sK.str_bool _ _ _)
 case str.int=>subst it iu h;obtain⟨t',rfl⟩:=rx;obtain⟨t',rfl⟩:=ry;exact(sK.str_int _ _ _ _)
 case str.str=>subst it iu h;obtain⟨t',rfl⟩:=rx;obtain⟨t',rfl⟩:=ry;exact(sK.str_str _ _ _ _)
 case tup.lst=>obtain⟨a,vs,rfl,h1,_⟩:=it;obtain⟨b,ws,rfl,h2,_⟩:=iu;subst h;cases rx;cases ry;obtain⟨_,_,p1,_⟩:=I.tuple h1;obtain⟨_,_,p2,_⟩:=I.list h2.sq;exact(sK.tuple_list p1 p2.isList hu)
 case lst.tup=>obtain⟨a,vs,rfl,h1,_⟩:=it;obtain⟨b,ws,rfl,h2,_⟩:=iu;subst h;cases rx;cases ry;obtain⟨_,_,p1,_⟩:=I.list h1.sq;obtain⟨_,_,p2,_⟩:=I.tuple h2;exact(sK.list_tuple p1.isList p2 hu)
 case tup.non=>obtain⟨a,vs,rfl,h1,_⟩:=it;subst iu h;cases rx;cases ry;obtain⟨_,_,p1,_⟩:=I.tuple h1;exact(sK.tuple_none p1 hu)
 case tup.bl=>obtain⟨a,vs,rfl,h1,_⟩:=it;subst iu h;cases rx;cases ry;obtain⟨_,_,p1,_⟩:=I.tuple h1;exact(sK.tuple_bool _ p1 hu)
 case tup.int=>obtain⟨a,vs,rfl,h1,_⟩:=it;subst iu h;cases rx;obtain⟨t',rfl⟩:=ry;obtain⟨_,_,p1,_⟩:=I.tuple h1;exact(sK.tuple_int _ _ p1 hu)
 case tup.str=>obtain⟨a,vs,rfl,h1,_⟩:=it;subst iu h;cases rx;obtain⟨t',rfl⟩:=ry;obtain⟨_,_,p1,_⟩:=I.tuple h1;exact(sK.tuple_str _ _ p1 hu)
 case lst.non=>obtain⟨a,vs,rfl,h1,_⟩:=it;subst iu h;cases rx;cases ry;obtain⟨_,_,p1,_⟩:=I.list h1.sq;exact(sK.list_none p1.isList hu)
 case lst.bl=>obtain⟨a,vs,rfl,h1,_⟩:=it;subst iu h;cases rx;cases ry;obtain⟨_,_,p1,_⟩:=I.list h1.sq;exact(sK.list_bool _ p1.isList hu)
 case lst.int=>obtain⟨a,vs,rfl,h1,_⟩:=it;subst iu h;cases rx;obtain⟨t',rfl⟩:=ry;obtain⟨_,_,p1,_⟩:=I.list h1.sq;exact(sK.list_int _ _ p1.isList hu)
 case lst.str=>obtain⟨a,vs,rfl,h1,_⟩:=it;subst iu h;cases rx;obtain⟨t',rfl⟩:=ry;obtain⟨_,_,p1,_⟩:=I.list h1.sq;exact(sK.list_str _ _ p1.isList hu)
 case non.tup=>obtain⟨a,vs,rfl,h1,_⟩:=iu;subst it h;cases rx;cases ry;obtain⟨_,_,p1,_⟩:=I.tuple h1;exact(sK.none_tuple p1 hu)
 case bl.tup=>obtain⟨a,vs,rfl,h1,_⟩:=iu;subst it h;cases rx;cases ry;obtain⟨_,_,p1,_⟩:=I.tuple h1;exact(sK.bool_tuple _ p1 hu)
 case int.tup=>obtain⟨a,vs,rfl,h1,_⟩:=iu;subst it h;cases ry;obtain⟨t',rfl⟩:=rx;obtain⟨_,_,p1,_⟩:=I.tuple h1;exact(sK.int_tuple _ _ p1 hu)
 case str.tup=>obtain⟨a,vs,rfl,h1,_⟩:=iu;subst it h;cases ry;obtain⟨t',rfl⟩:=rx;obtain⟨_,_,p1,_⟩:=I.tuple h1;exact(sK.str_tuple _ _ p1 hu)
 case non.lst=>obtain⟨a,vs,rfl,h1,_⟩:=iu;subst it h;cases rx;cases ry;obtain⟨_,_,p1,_⟩:=I.list h1.sq;exact(sK.none_list p1.isList hu)
 case bl.lst=>obtain⟨a,vs,rfl,h1,_⟩:=iu;subst it h;cases rx;cases ry;obtain⟨_,_,p1,_⟩:=I.list h1.sq;exact(sK.bool_list _ p1.isList hu)
 case int.lst=>obtain⟨a,vs,rfl,h1,_⟩:=iu;subst it h;cases ry;obtain⟨t',rfl⟩:=rx;obtain⟨_,_,p1,_⟩:=I.list h1.sq;exact(sK.int_list _ _ p1.isList hu)
 case str.lst=>obtain⟨a,vs,rfl,h1,_⟩:=iu;subst it h;cases ry;obtain⟨t',rfl⟩:=rx;obtain⟨_,_,p1,_⟩:=I.list h1.sq;exact(sK.str_list _ _ p1.isList hu)
def MU(I:zu X pins σ H s):∀{n:Nat}{t u:T}{x y:V}{vx vy:g_}{b:Bool}{A:A3},A.units+n<Fk->de n t u=b_ b->Is X.K F H t x->Is X.K F H u y->L2.RelV x vx->L2.RelV y vy->sK A s vx vy (!b)
 |0,t,u,x,y,vx,vy,b,A,hu,h,it,iu,rx,ry=>KI I ↑p h it iu rx ry|n+1,t,u,x,y,vx,vy,b,A,hu,h,it,iu,rx,ry=>by
  cases t<;>cases u<;>try(exact KI I ↑p (by simpa[de]using h) it iu rx ry)
  case tup.tup ts us=>
   simp only[de,sJ]at h;obtain⟨c,h1,h2⟩:=h;unfold Is at it iu;obtain⟨a,vs,rfl,g1,g2⟩:=it;obtain⟨d,ws,rfl,g3,g4⟩:=iu;cases rx;cases ry;obtain⟨its,r1,p1,_⟩:=I.tuple g1;obtain⟨its',r2,p2,_⟩:=I.tuple g3;obtain⟨e,he,hb⟩:=cz h1;have l1:=g2.len;have l2:=g4.len;have l3:=r1.length;have l4:=r2.length;have:=sK.tuples (A:=A) (e:=e) p1 p2 ↑p λj j1 j2=>by
    obtain⟨v1,hv1,q1⟩:=qK r1 j1;obtain⟨v2,hv2,q2⟩:=qK r2 j2;have j1':j<its.length:=by simpa using j1
    have j2':j<its'.length:=by simpa using j2
    have TQ:j<↑c:=by omega
    have Tv:j<↑h:=by omega
    obtain⟨w1,hw1,i1⟩:=g2.get (i:=j) (t:=ts[j]) (by simp[TQ]);obtain⟨w2,hw2,i2⟩:=g4.get (i:=j) (t:=us[j]) (by simp[Tv]);rw[hv1]at hw1;cases hw1;rw[hv2]at hw2;cases hw2;exact(iJ I (A:=A.in1) (by rw[FQ];omega) (he j ts[j] us[j] (by simp[TQ]) (by simp[Tv])) i1 i2 q1 q2).2
   have e1:↑k=↑c:=by simp;omega
   have e2:its'.toArray.size=↑h:=by simp;omega
   rw[e1,e2,hb]at this;rw[<-h2];exact this
  case lst.lst ts us=>
   simp only[de]at h;unfold Is at it iu;obtain⟨a,vs,rfl,g1,g2⟩:=it;obtain⟨d,ws,rfl,g3,g4⟩:=iu;cases rx;cases ry;obtain⟨its,r1,p1,_⟩:=I.list g1.sq;obtain⟨its',r2,p2,_⟩:=I.list g3.sq;have l1:=g2.len;have l2:=g4.len;have l3:=r1.length;have l4:=r2.length;have e1:↑k=↑c:=by simp;omega
   have e2:its'.toArray.size=↑h:=by simp;omega
   by_cases hl:↑c=↑h
   ·rw[if_pos hl]at h;obtain⟨e,he,hb⟩:=cz h;have:=sK.lists (A:=A) (e:=e) p1.isList p2.isList ↑p ↑p λj j1 j2=>by
     obtain⟨v1,hv1,q1⟩:=qK r1 j1;obtain⟨v2,hv2,q2⟩:=qK r2 j2;have j1':j<its.length:=by simpa using j1
     have j2':j<its'.length:=by simpa using j2
     have TQ:j<↑c:=by omega
     have Tv:j<↑h:=by omega
     obtain⟨w1,hw1,i1⟩:=g2.get (i:=j) (t:=ts[j]) (by simp[TQ]);obtain⟨w2,hw2,i2⟩:=g4.get (i:=j) (t:=us[j]) (by simp[Tv]);rw[hv1]at hw1;cases hw1;rw[hv2]at hw2;cases hw2;exact(iJ I (A:=A.in1) (by rw[FQ];omega) (he j ts[j] us[j] (by simp[TQ]) (by simp[Tv])) i1 i2 q1 q2).2
    rw[e1]at this;have e3:min ↑c ↑h=↑c:=by omega
    rw[e3]at hb;rw[hb]at this;exact this
   ·rw[if_neg hl]at h;cases h;exact sK.lists_lengths p1.isList p2.isList (by rw[e1,e2];simpa using hl) ↑p
end
def rT(K:d_)(f:T->T->Option RV):R2:=λx y H Q=>∃F tx ty rv,aq F H/\Is K F H tx x/\Is K F H ty y/\f tx ty=b_ rv/\∀v F' H',jB F H F' H'->kN K (λa=>H a=f_) F' H' v rv->Q v H'
def xn{K:d_}{f:T->T->Option RV}:Hv K (rT K f) f:=λF H x y tx ty Q rv d ix iy e q=>⟨F,tx,ty,rv,d,ix,iy,e,q⟩
def Pw(K:d_)(f:List T->Option RV):List V->Hp->VK->Prop:=λvs H Q=>∃F ts rv,aq F H/\IsAll K F H ts vs/\f ts=b_ rv/\∀v F' H',jB F H F' H'->kN K (λa=>H a=f_) F' H' v rv->Q v H'
def Px{K:d_}{Q:VK}{ts:List T}{vs:List V}{p:h_}(d:aq F H)(i:IsAll K F H ts vs)(hp:H p=f_)(q:∀v F' H',jB F H F' H'->kN K (λa=>H a=f_) F' H' v (e_,.lst ts)->Q v H'):Q (.ref p) (zO H p (.lst vs)):=by have x:=jB.alloc d (o:=.lst vs) hp;refine q _ F _ x ?_;unfold kN;rw[if_pos rfl];exact⟨p,rfl,λf=>d p f hp,hp,vs,zm,i.mono x.kept⟩
def Py{K:d_}{Q:VK}{ts:List T}{vs:List V}{p:h_}(d:aq F H)(i:IsAll K F H ts vs)(hp:H p=f_)(q:∀v F' H',jB F H F' H'->kN K (λa=>H a=f_) F' H' v (a_,.tup ts)->Q v H'):Q (.ref p) (zO H p (.tup vs)):=by have x:=jB.alloc d (o:=.tup vs) hp;refine q _ F _ x (jj ?_);unfold Is;exact⟨p,vs,rfl,.inl (.inl zm),i.mono x.kept⟩
def xK{K:d_}{Q:VK}{t:T}{v:V}{rv:RV}(d:aq F H)(i:Is K F H t v)(q:∀v F' H',jB F H F' H'->kN K (λa=>H a=f_) F' H' v rv->Q v H')(e:rv=(a_,t)):Q v H:=by subst e;exact q v F H (.refl d) (jj i)
def xL{K:d_}{i:Int}:Is K F H (.int i) (.int i):=by unfold Is;rfl
def xX{K:d_}{i:Bool}:Is K F H (.bl i) (.bl i):=by unfold Is;rfl
def gy{K:d_}{i:Str}:Is K F H (.str i) (.str i):=by unfold Is;rfl
def KJ{K:d_}:Is K F H .non .non:=by unfold Is;rfl
def zT(t u:T):Option RV:=match t with
 |.int i=>match u with|.int j=>b_ (a_,.int (i+j))|_=>f_
 |.str x=>match u with|.str y=>if x.length+y.length<=j_ then b_ (a_,.str (x++y))else f_|_=>f_
 |.lst ts=>match u with|.lst us=>if ↑c+↑h<=j_ then b_ (e_,.lst (ts++us))else f_|_=>f_
 |.tup ts=>match u with|.tup us=>if ↑c+↑h<=j_ then b_ (a_,.tup (ts++us))else f_|_=>f_
 |_=>f_
def YQ(t u:T):Option RV:=match t with
 |.int i=>match u with|.int j=>b_ (a_,.int (i-j))|_=>f_
 |_=>f_
instance(i j:Int):Decidable (WM i j):=by unfold WM;infer_instance
instance(i j:Int):Decidable (K9 i j):=by unfold K9;infer_instance
def ZM(t u:T):Option RV:=match t with
 |.int i=>match u with|.int j=>if WM i j then b_ (a_,.int (i*j))else f_|_=>f_
 |.str x=>match u with|.int n=>if-(2^63)<=n/\n<=16777216/\x.length*n.toNat<=16777216 then b_ (a_,.str (Txt.mul x n))else f_|_=>f_
 |_=>f_
def gj(t u:T):Option RV:=match t with
 |.int i=>match u with|.int j=>if K9 i j then b_ (a_,.int (i/j))else f_|_=>f_
 |_=>f_
def jZ(t u:T):Option RV:=match t with
 |.int i=>match u with|.int j=>if 0<j then b_ (a_,.int (i%j))else f_|_=>f_
 |_=>f_
def KK{prog:sN}{w:sY}{A:A3}{E:g_->l_->Prop}{s:l_}{t b:h_}{vs ws:List g_}{Q:g_->l_->Prop}(ht:Oy s.heap t ↑i)(hb:Oy s.heap b ws.toArray)(hv:vs=[])(h1:Q (.ref b) s):o_ ↑w A (BU .Add (.ref t) (.ref b)) Q E s:=by obtain⟨⟨cls,dd,data,sl⟩,ho,hc,n,hd⟩:=id ht;obtain⟨⟨cls2,dd2,data2,sl2⟩,ho2,Tq,n2,Tm⟩:=id hb;simp only at hc hd Tq Tm;subst hc hd Tq Tm;exact concat_meets ⟨_,ho,rfl⟩ ⟨_,ho2,rfl⟩ S3 seq_tuple_add OC Os (Og _ _) (tuple_addW0 t b ↑i ws.toArray n n2 dd dd2 sl sl2 (by simp[hv])) ⟨ho,ho2,h1⟩
def KL(hl:s.heap.IsList l xs)(hb:s.heap.IsList b ys)(hsz:xs.size+ys.size<=j_)(h:Q (.ref ↑a) {s with heap:=s.heap.push {cls:=.type "list",data:=.seq (xs++ys)}}):o_ ↑w A (BU .Add (.ref l) (.ref b)) Q E s:=by obtain⟨⟨cls,dd,data,sl⟩,ho,hc,n,hd⟩:=id hl;obtain⟨⟨cls2,dd2,data2,sl2⟩,ho2,Tq,n2,Tm⟩:=id hb;simp only at hc hd Tq Tm;subst hc hd Tq Tm;exact concat_meets ⟨_,ho,rfl⟩ ⟨_,ho2,rfl⟩ noFill_list_add seq_list_add PySem.F.slot_list_add PySem.F.entry_list_add (PySem.F.args_list_add_2 _ _) (list_addW l b xs ys n n2 dd dd2 sl sl2 hsz) ⟨ho,ho2,h⟩
def je:qR X (BU .Add) (rT X.K zT):=by
 intro pins s σ H x y v u Q I rx ry h;obtain⟨F,tx,ty,rv,d,ix,iy,e,q⟩:=h;cases tx<;>try(simp only[zT,reduceCtorEq]at e;done)
 all_goals(cases ty<;>simp only[zT,reduceCtorEq]at e)
 case int.int i j=>unfold Is at ix iy;subst ix iy;cases e;exact Mc pins s σ H _ _ v u Q I rx ry ⟨i,j,rfl,rfl,xK d xL q rfl⟩
 case str.str i j=>unfold Is at ix iy;subst ix iy;split at e<;>cases e;rename_i hl;exact Ys pins s σ H _ _ v u Q I rx ry ⟨i,j,rfl,rfl,hl,xK d gy q rfl⟩
 case lst.lst ts us=>
  split at e<;>cases e;rename_i hl;unfold Is at ix iy;obtain⟨l,vs,rfl,g1,g2⟩:=ix;obtain⟨b,ws,rfl,g3,g4⟩:=iy;cases rx;cases ry;obtain⟨its,r,p1,z⟩:=I.list g1.sq;obtain⟨its2,r2,p2,z2⟩:=I.list g3.sq;have l1:=g2.len;have l2:=g4.len;have l3:=r.length;have l4:=r2.length;have ea:its.toArray++its2.toArray=(its++its2).toArray:=by simp
  refine KL p1.isList p2.isList (by rw[sr,sr];omega) ?_;rw[ea];exact⟨.ref _,_,I.lnew (r.append r2) (by rw[sj];omega),rfl,Px d (g2.append g4) I.fresh q⟩
 case tup.tup ts us=>
  split at e<;>cases e;rename_i hl;have ix':=ix;have iy':=iy;unfold Is at ix iy;obtain⟨l,vs,rfl,g1,g2⟩:=ix;obtain⟨b,ws,rfl,g3,g4⟩:=iy;have l1:=g2.len;have l2:=g4.len;by_cases hv:vs=[];·subst hv;cases rx;cases ry;obtain⟨its,r1,p1,_⟩:=I.tuple g1;obtain⟨its2,r2,p2,_⟩:=I.tuple g3;refine KK p1 p2 (r1.nil_iff.mpr rfl) ⟨.ref b,H,I,rfl,?_⟩;have:ts=[]:=FW (by rw[l1];rfl);subst this;exact xK d iy' q rfl
  ·refine Pc pins s σ H _ _ v u Q I rx ry ⟨l,b,vs,ws,rfl,rfl,g1,g3,hv,by omega,λz=>?_,λz p hp=>Py d (g2.append g4) hp q⟩;subst z;have:us=[]:=FW (by rw[l2];rfl);subst this;exact xK d ix' q (by rw[Ac])
def KM:qR X (BU .Sub) (rT X.K YQ):=by
 intro pins s σ H x y v u Q I rx ry h;obtain⟨F,tx,ty,rv,d,ix,iy,e,q⟩:=h;cases tx<;>try(simp only[YQ,reduceCtorEq]at e;done)
 all_goals(cases ty<;>simp only[YQ,reduceCtorEq]at e)
 case int.int i j=>unfold Is at ix iy;subst ix iy;cases e;exact Md pins s σ H _ _ v u Q I rx ry ⟨i,j,rfl,rfl,xK d xL q rfl⟩
def KN:qR X (BU .Mult) (rT X.K ZM):=by
 intro pins s σ H x y v u Q I rx ry h;obtain⟨F,tx,ty,rv,d,ix,iy,e,q⟩:=h;cases tx<;>try(simp only[ZM,reduceCtorEq]at e;done)
 all_goals(cases ty<;>simp only[ZM,reduceCtorEq]at e)
 case int.int i j=>unfold Is at ix iy;subst ix iy;split at e<;>cases e;rename_i hc;exact Me pins s σ H _ _ v u Q I rx ry ⟨i,j,rfl,rfl,hc,xK d xL q rfl⟩
 case str.int i j=>unfold Is at ix iy;subst ix iy;split at e<;>cases e;rename_i hc;obtain⟨t,rfl⟩:=rx;obtain⟨t',rfl⟩:=ry;refine SB.mul (mulOk_of i.length j.toNat (r_ _) ↑p hc.1 ↑p hc.2.2) λt' k=>⟨.str (Txt.mul i j),H,I.tok _,⟨t',rfl⟩,xK d gy q rfl⟩
def xx:qR X (BU .FloorDiv) (rT X.K gj):=by
 intro pins s σ H x y v u Q I rx ry h;obtain⟨F,tx,ty,rv,d,ix,iy,e,q⟩:=h;cases tx<;>try(simp only[gj,reduceCtorEq]at e;done)
 all_goals(cases ty<;>simp only[gj,reduceCtorEq]at e)
 case int.int i j=>unfold Is at ix iy;subst ix iy;split at e<;>cases e;rename_i hc;exact GV pins s σ H _ _ v u Q I rx ry ⟨i,j,rfl,rfl,hc,xK d xL q rfl⟩
def jo:qR X (BU .Mod) (rT X.K jZ):=by
 intro pins s σ H x y v u Q I rx ry h;obtain⟨F,tx,ty,rv,d,ix,iy,e,q⟩:=h;cases tx<;>try(simp only[jZ,reduceCtorEq]at e;done)
 all_goals(cases ty<;>simp only[jZ,reduceCtorEq]at e)
 case int.int i j=>unfold Is at ix iy;subst ix iy;split at e<;>cases e;rename_i hc;exact Mf pins s σ H _ _ v u Q I rx ry ⟨i,j,rfl,rfl,hc,xK d xL q rfl⟩
def zZ(a b:T):Option RV:=(de 40 a b).map λk=>(a_,.bl k)
def fG(a b:T):Option RV:=(de 40 a b).map λk=>(a_,.bl (!k))
def uH(t u:T):Option RV:=match t with
 |.int i=>match u with|.int j=>b_ (a_,.bl (decide (i<j)))|_=>f_
 |.str i=>match u with|.str j=>b_ (a_,.bl (decide (i.cps.toList<j.cps.toList)))|_=>f_
 |_=>f_
def ax(t u:T):Option RV:=match t with
 |.int i=>match u with|.int j=>b_ (a_,.bl (decide (i<=j)))|_=>f_
 |.str i=>match u with|.str j=>b_ (a_,.bl (!decide (j.cps.toList<i.cps.toList)))|_=>f_
 |_=>f_
def mJ(t u:T):Option RV:=match t with
 |.int i=>match u with|.int j=>b_ (a_,.bl (decide (j<i)))|_=>f_
 |.str i=>match u with|.str j=>b_ (a_,.bl (decide (j.cps.toList<i.cps.toList)))|_=>f_
 |_=>f_
def YR:T->T->Option RV|.bl a,.bl b=>b_ (a_,.bl (a==b))|.non,.non=>b_ ↑A|.tup _,.non=>b_ (a_,.bl a_)|.lst _,.non=>b_ (a_,.bl a_)|.dct _ _,.non=>b_ (a_,.bl a_)|.obj _ _ _,.non=>b_ (a_,.bl a_)|.str _,.non=>b_ (a_,.bl a_)|.int _,.non=>b_ (a_,.bl a_)|.bl _,.non=>b_ (a_,.bl a_)|_,_=>f_
def tI(t u:T):Option RV:=match u with
 |.non=>match t with|.non=>b_ (a_,.bl a_)|.tup _=>b_ ↑A|.lst _=>b_ ↑A|.dct _ _=>b_ ↑A|.obj _ _ _=>b_ ↑A|.str _=>b_ ↑A|.int _=>b_ ↑A|.bl _=>b_ ↑A|_=>f_
 |_=>f_
def Hw(hu:X.A.units+40<Fk):qR X (sX .Eq) (rT X.K zZ):=by intro pins s σ H x y v u Q I rx ry h;obtain⟨F,tx,ty,rv,d,ix,iy,e,q⟩:=h;simp only[zZ,sJ]at e;obtain⟨k,e,rfl⟩:=e;exact EqBoolInt.of_rc (iJ I hu e ix iy rx ry).1 ⟨.bl k,H,I,rfl,xK d xX q rfl⟩
def Hx(hu:X.A.units+40<Fk):qR X (sX .NotEq) (rT X.K fG):=by intro pins s σ H x y v u Q I rx ry h;obtain⟨F,tx,ty,rv,d,ix,iy,e,q⟩:=h;simp only[fG,sJ]at e;obtain⟨k,e,rfl⟩:=e;exact(MU I hu e ix iy rx ry) _ _ _ _ ⟨.bl (!k),H,I,rfl,xK d xX q rfl⟩
def oX:qR X (sX .Lt) (rT X.K uH):=by
 intro pins s σ H x y v u Q I rx ry h;obtain⟨F,tx,ty,rv,d,ix,iy,e,q⟩:=h;cases tx<;>try(simp only[uH,reduceCtorEq]at e;done)
 all_goals(cases ty<;>simp only[uH,reduceCtorEq]at e)
 case int.int i j=>unfold Is at ix iy;subst ix iy;cases e;exact Hc pins s σ H _ _ v u Q I rx ry ⟨i,j,rfl,rfl,xK d xX q rfl⟩
 case str.str i j=>unfold Is at ix iy;subst ix iy;cases e;exact WN pins s σ H _ _ v u Q I rx ry ⟨i,j,rfl,rfl,xK d xX q rfl⟩
def Pz:qR X (sX .LtE) (rT X.K ax):=by
 intro pins s σ H x y v u Q I rx ry h;obtain⟨F,tx,ty,rv,d,ix,iy,e,q⟩:=h;cases tx<;>try(simp only[ax,reduceCtorEq]at e;done)
 all_goals(cases ty<;>simp only[ax,reduceCtorEq]at e)
 case int.int i j=>unfold Is at ix iy;subst ix iy;cases e;exact Hd pins s σ H _ _ v u Q I rx ry ⟨i,j,rfl,rfl,xK d xX q rfl⟩
 case str.str i j=>unfold Is at ix iy;subst ix iy;cases e;obtain⟨t,rfl⟩:=rx;obtain⟨t',rfl⟩:=ry;exact PySem.P.le_str (dZ I (xK d xX q rfl) rfl)
def ZN:qR X (sX .Gt) (rT X.K mJ):=by
 intro pins s σ H x y v u Q I rx ry h;obtain⟨F,tx,ty,rv,d,ix,iy,e,q⟩:=h;cases tx<;>try(simp only[mJ,reduceCtorEq]at e;done)
 all_goals(cases ty<;>simp only[mJ,reduceCtorEq]at e)
 case int.int i j=>unfold Is at ix iy;subst ix iy;cases e;exact He pins s σ H _ _ v u Q I rx ry ⟨i,j,rfl,rfl,xK d xX q rfl⟩
 case str.str i j=>unfold Is at ix iy;subst ix iy;cases e;obtain⟨t,rfl⟩:=rx;obtain⟨t',rfl⟩:=ry;exact PySem.P.gt_str (dZ I (xK d xX q rfl) rfl)
def Dx:qR X (sX .Is) (rT X.K YR):=by
 intro pins s σ H x y v u Q I rx ry h;obtain⟨F,tx,ty,rv,d,ix,iy,e,q⟩:=h;cases ty;case bl b=>cases tx<;>simp only[YR,reduceCtorEq]at e;case bl a=>unfold Is at ix iy;subst ix iy;cases e;cases rx;cases ry;refine wpAny_is_plain rfl ⟨.bl (a==b),H,I,?_,xK d xX q rfl⟩;cases a<;>cases b<;>rfl
 case non=>
  unfold Is at iy;subst iy;refine Mh pins s σ H _ _ v u Q I rx ry ⟨rfl,?_⟩;have:(x=.non↔tx=.non):=by cases tx<;>unfold Is at ix<;>first|(subst ix;simp;done)|(obtain⟨a,_,rfl,_⟩:=ix;simp;done)|(obtain⟨a,_,_,rfl,_⟩:=ix;simp;done)|(obtain⟨a,rfl,_⟩:=ix;simp;done)|(obtain⟨rfl,_⟩:=ix;simp;done)
  cases tx<;>simp only[YR,reduceCtorEq]at e<;>cases e<;>simp only[this,reduceCtorEq]<;>exact xK d xX q ↑G
 all_goals(cases tx<;>simp only[YR,reduceCtorEq]at e)
def Hy:qR X (sX .IsNot) (rT X.K tI):=by
 intro pins s σ H x y v u Q I rx ry h;obtain⟨F,tx,ty,rv,d,ix,iy,e,q⟩:=h;cases ty;case non=>
  unfold Is at iy;subst iy;refine GW pins s σ H _ _ v u Q I rx ry ⟨rfl,?_⟩;have:(x=.non↔tx=.non):=by cases tx<;>unfold Is at ix<;>first|(subst ix;simp;done)|(obtain⟨a,_,rfl,_⟩:=ix;simp;done)|(obtain⟨a,_,_,rfl,_⟩:=ix;simp;done)|(obtain⟨a,rfl,_⟩:=ix;simp;done)|(obtain⟨rfl,_⟩:=ix;simp;done)
  cases tx<;>simp only[tI,reduceCtorEq]at e<;>cases e<;>simp only[this,reduceCtorEq]<;>exact xK d xX q ↑G
 all_goals(cases tx<;>simp only[tI,reduceCtorEq]at e)
end L3
namespace HT
open PySem PySem.Spec PyProof.Rows L2
def getItem_tuple_whole{prog:sN}{w:sY}{A:A3}{E:g_->l_->Prop}{s:l_}{t sl:h_}{items:Array g_}{vl vu:g_}{lo hi:Option Int}{Q:g_->l_->Prop}(ht:Oy s.heap t items)(hs:s.heap.IsSliceOf sl vl vu .none)(pl:IsPart vl lo)(pu:IsPart vu hi)(hw:sIx ↑f 0 lo=0/\sIx ↑f ↑f hi=↑f)(h:Q (.ref t) s):o_ ↑w A (OD (.ref t) (.ref sl)) Q E s:=by
 obtain⟨os,hos,Z_,hds⟩:=id hs;have ξ:s.TypeIs (.ref sl) "slice":=⟨os,hos,Z_⟩;unfold OD;try with_reducible refine Ah ?_
 first|refine c_ (i_ ?_)|skip
 refine c_ (wpAny_sequenceKey ht.typeIs ↑o ?_);refine c_ (BC ht.typeIs An (BN An ht.typeIs entry_tuple_getitem ?_ (args_tuple_getitem _ _)));show o_ _ _ (Rq (.ref t)>>=_) _ _ s;refine c_ (tupleItemsOf_ ht ?_);refine c_ (O4 ξ ?_);rw[if_pos ↑o];refine c_ (pj hs pl pu ?_);have hyes:(((sIx ↑f 0 lo:Nat):Int)==0&&(1:Int)==1&&(sIx ↑f ↑f hi-sIx ↑f 0 lo)==↑f)=e_:=by rw[hw.1,hw.2];simp
 show o_ _ _ (if(((sIx ↑f 0 lo:Nat):Int)==0&&(1:Int)==1&&(sIx ↑f ↑f hi-sIx ↑f 0 lo)==↑f)=e_ then _ else _) _ _ s;rw[if_pos hyes];unfold BL.Tuple.tupleIsExact;refine c_ (c_ (O4 ht.typeIs ?_));refine i_ ?_;rw[if_pos ↑o];exact c_ (wpAny_rule (i_ ⟨_,rfl,i_ h⟩))
end HT
namespace L3
open PySem PySem.Spec PyProof.Rows L2
section
variable{K:d_}{F:h_->Prop}{H:Hp}
theorem IsAll.at(h:IsAll K F H ts vs)(e:oK ts i=b_ t):∃v,oK vs i=b_ v/\Is K F H t v:=by unfold oK at e⊢;rw[<-h.len];cases hj:XJ ↑c i with|none=>rw[hj]at e;cases e|some j=>rw[hj]at e;have e:ts[j]?=b_ t:=e;obtain⟨v,hv,q⟩:=h.get e;exact⟨v,hv,q⟩
def xY:List Key->List T->Key->Option T|k::ks,t::ts,x=>if k=x then b_ t else xY ks ts x|_,_,_=>f_
theorem lB:∀{ks:List Key}{ts:List T}{kvs:List (Key×V)}(x:Key),kvs.map (·.1)=ks->IsAll K F H ts (kvs.map (·.2))->(∀t,xY ks ts x=b_ t->∃v,jH kvs x=b_ v/\Is K F H t v)/\(xY ks ts x=f_->jH kvs x=f_)
 |[],ts,[],x,_,_=>⟨λt h=>by cases ts<;>simp[xY]at h,λ_=>rfl⟩|[],ts,kv::kvs,x,h,_=>by simp at h|k::ks,ts,[],x,h,_=>by simp at h|k::ks,[],kv::kvs,x,h,g=>by unfold IsAll at g;simp at g|k::ks,t::ts,kv::kvs,x,h,g=>by
  simp only[sG,List.cons.injEq]at h;obtain⟨h1,h2⟩:=h;rw[sG]at g;unfold IsAll at g;obtain⟨v,r,e,g1,g2⟩:=g;cases e;have ih:=lB x h2 g2;unfold xY;by_cases hk:k=x;·rw[if_pos hk,xv (h1.trans hk)];exact⟨λt' e=>by cases e;exact⟨_,rfl,g1⟩,λz=>by cases z⟩
  ·rw[if_neg hk,xw (λz=>hk (h1.symm.trans z))];exact ih
end
def uI(x:T):List T->Option Bool|[]=>b_ a_|t::ts=>match de 40 t x with|none=>f_|some a=>match uI x ts with|none=>f_|some b=>b_ (a||b)
def lC:T->Option Key|.int i=>b_ (.inl i)|.str x=>b_ (.inr x)|_=>f_
def PB:T->T->Option Bool|.str x,.str y=>b_ (!(S7 y x 0 y.length 1).isEmpty)|x,.lst ts=>uI x ts|x,.tup ts=>uI x ts|x,.dct ks ts=>(lC x).map λk=>(xY ks ts k).isSome|_,_=>f_
def uJ(a b:T):Option RV:=(PB a b).map λk=>(a_,.bl k)
def tJ(a b:T):Option RV:=(PB a b).map λk=>(a_,.bl (!k))
section
variable{X:Cx}
open Classical in def ug(X:Cx)(F:h_->Prop)(H:Hp)(t:T)(u:g_):Bool:=decide (∃(y:V)(ty:T),L2.RelV y u/\Is X.K F H ty y/\de 40 ty t=b_ e_)
open Classical in theorem KO(I:zu X pins σ H s)(r:L2.RelV y u)(i:Is X.K F H ty y)(e:de 40 ty t=b_ a):ug X F H t u=a:=by unfold ug;cases a with|true=>exact decide_eq_true ⟨y,ty,r,i,e⟩|false=>refine decide_eq_false λ⟨y',ty',r',i',e'⟩=>?_;have:=ZK r r';subst this;have:=i.inj I i';subst this;rw[e]at e';cases e'
theorem cF(I:zu X pins σ H s)(hu:A.units+40<Fk)(it:Is X.K F H t x)(rx:L2.RelV x vx):∀{ts:List T}{vs:List V}{us:List g_}{b:Bool},uI t ts=b_ b->IsAll X.K F H ts vs->zQ vs us->(∀u,u∈us->sU A s u vx (ug X F H t u))/\us.any (ug X F H t)=b
 |[],vs,us,b,h,i,r=>by
  unfold IsAll at i;subst i;cases r;simp[uI]at h;refine⟨?_,?_⟩;·intro u hu;cases hu
  ·rw[h];rfl|ty::ts,vs,us,b,h,i,r=>by unfold IsAll at i;obtain⟨v,vr,rfl,i1,i2⟩:=i;cases r with|cons r1 r2=>rename_i u us;rw[uI]at h;cases h1:de 40 ty t with|none=>rw[h1]at h;cases h|some a=>rw[h1]at h;cases h2:uI t ts with|none=>rw[h2]at h;cases h|some c=>
    rw[h2]at h;simp only[AK]at h;obtain⟨he,hb⟩:=cF I hu it rx h2 i2 r2;have q:=(iJ I hu h1 i1 it r1 rx).2;have ea:=KO I r1 i1 h1;refine⟨?_,?_⟩
    ·intro z hz;rcases sB.mp hz with h'|h';·subst h';rw[ea];exact q
     ·exact he z h'
    ·rw[RN,ea,hb,h]
theorem KQ(hu:X.A.units+41<Fk)(I:zu X pins σ H s)(ix:Is X.K F H tx x)(iy:Is X.K F H ty y)(rx:L2.RelV x v)(ry:L2.RelV y u)(e:PB tx ty=b_ b)(ho:op=.In\/op=.NotIn)(q:∀s',zu X pins σ H s'->Q (.bool (if op=.In then b else !b)) s'):o_ ↑n X.A (sX op v u) Q E s:=by
 have seqL:∀{ts:List T},ty=.lst ts->uI tx ts=b_ b->o_ ↑n X.A (sX op v u) Q E s:=by
  intro ts hy ha;subst hy;unfold Is at iy;obtain⟨p,vs,rfl,g1,g2⟩:=iy;cases ry;obtain⟨its,r,pl,hz⟩:=I.list g1.sq;obtain⟨he,hb⟩:=cF I (by rw[FQ];omega) ix rx ha g2 r;rcases ho with rfl|rfl
  ·refine SeqAt.in_listAt _ pl.isList (λw hw=>he w (by simpa using hw)) ?_;have:its.toArray.any (ug X F H tx)=its.any (ug X F H tx):=by simp
   rw[this,hb];exact q s I
  ·refine SeqAt.notIn_listAt _ pl.isList (λw hw=>he w (by simpa using hw)) ?_;have:its.toArray.any (ug X F H tx)=its.any (ug X F H tx):=by simp
   rw[this,hb];exact q s I
 have seqT:∀{ts:List T},ty=.tup ts->uI tx ts=b_ b->o_ ↑n X.A (sX op v u) Q E s:=by
  intro ts hy ha;subst hy;unfold Is at iy;obtain⟨p,vs,rfl,g1,g2⟩:=iy;cases ry;obtain⟨its,r,pl,hz⟩:=I.tuple g1;obtain⟨he,hb⟩:=cF I (by rw[FQ];omega) ix rx ha g2 r;rcases ho with rfl|rfl
  ·refine SeqAt.in_tupleAt _ pl (λw hw=>he w (by simpa using hw)) ?_;have:its.toArray.any (ug X F H tx)=its.any (ug X F H tx):=by simp
   rw[this,hb];exact q s I
  ·refine SeqAt.notIn_tupleAt _ pl (λw hw=>he w (by simpa using hw)) ?_;have:its.toArray.any (ug X F H tx)=its.any (ug X F H tx):=by simp
   rw[this,hb];exact q s I
 have dct:∀{ks:List Key}{ts:List T}{k:Key},ty=.dct ks ts->x=kV k->(xY ks ts k).isSome=b->o_ ↑n X.A (sX op v u) Q E s:=by
  intro ks ts k hy hx hb;subst hy hx;unfold Is at iy;obtain⟨p,kvs,rfl,f,g1,g2,g3⟩:=iy;cases ry;have⟨d1,d2⟩:=lB k g2 g3;have:(jH kvs k).isSome=b:=by rw[<-hb];cases hd:xY ks ts k with|none=>rw[d2 hd];rfl|some t=>obtain⟨v',hv,_⟩:=d1 t hd;rw[hv];rfl
  rcases ho with rfl|rfl;·refine Dr ↑p I (.inl ⟨kvs,k,g1,rfl,rfl⟩:nR H p (kV k) (jH kvs k)) rx λs' I'=>?_;rw[this];exact q s' I'
  ·refine XO ↑p I (.inl ⟨kvs,k,g1,rfl,rfl⟩:nR H p (kV k) (jH kvs k)) rx λs' I'=>?_;rw[this];exact q s' I'
 cases ty<;>try(cases tx<;>simp[PB]at e;done)
 case str y'=>cases tx<;>simp only[PB,AK,reduceCtorEq]at e;case str x'=>
   unfold Is at ix iy;subst ix iy;obtain⟨t,rfl⟩:=rx;obtain⟨t',rfl⟩:=ry;rcases ho with rfl|rfl;·refine in_str ?_;have:=q s I;rw[if_pos rfl,<-e]at this;exact this
   ·refine notIn_str ?_;have:=q s I;rw[if_neg ↑o,<-e]at this;exact this
 case lst ts=>exact seqL rfl (by cases tx<;>simpa[PB]using e)
 case tup ts=>exact seqT rfl (by cases tx<;>simpa[PB]using e)
 case dct ks ts=>
  cases tx<;>simp[PB,lC]at e;case int i=>unfold Is at ix;exact dct (k:=.inl i) rfl ix e
  case str i=>unfold Is at ix;exact dct (k:=.inr i) rfl ix e
theorem YS(hu:X.A.units+41<Fk):qR X (sX .In) (rT X.K uJ):=by intro pins s σ H x y v u Q I rx ry h;obtain⟨F,tx,ty,rv,d,ix,iy,e,q⟩:=h;simp only[uJ,sJ]at e;obtain⟨k,e,rfl⟩:=e;exact KQ hu I ix iy rx ry e (.inl rfl) λs' I'=>⟨.bl k,H,I',rfl,xK d xX q rfl⟩
theorem Na(hu:X.A.units+41<Fk):qR X (sX .NotIn) (rT X.K tJ):=by intro pins s σ H x y v u Q I rx ry h;obtain⟨F,tx,ty,rv,d,ix,iy,e,q⟩:=h;simp only[tJ,sJ]at e;obtain⟨k,e,rfl⟩:=e;exact KQ hu I ix iy rx ry e (.inr rfl) λs' I'=>⟨.bl (!k),H,I',rfl,xK d xX q rfl⟩
def zx:T->T->Option RV
 |.lst ts,.int i=>(oK ts i).map λt=>(a_,t)|.tup ts,.int i=>(oK ts i).map λt=>(a_,t)|.str z,.int i=>if z.length<=j_ then(oK z.cps.toList i).map λc=>(a_,.str ⟨#[c]⟩)else f_|.dct ks ts,y=>match lC y with|none=>f_|some k=>(xY ks ts k).map λt=>(a_,t)
 |_,_=>f_
theorem Hz{prog:sN}{w:sY}{A:A3}{E:g_->l_->Prop}{s:l_}{value slice:A1}{o i:g_}{T id:String}{Q:g_->l_->Prop}(hl:typeLookup (.type T) "__getitem__"=pure (b_ (.builtin id)))(hs:OT slice a_ o i=operate [o,i] (OD o i))(hT:s.TypeIs o T)(h:o_ ↑w A (OD o i) Q E s):o_ ↑w A (Oh value slice o i) Q E s:=by
 unfold Oh;refine c_ ?_;rw[getitemInPython_of_ne hT.not_modules];refine c_ (wpAny_specialOf hT hl ?_);have fin:o_ ↑w A (OT slice a_ o i) (λr s₃=>o_ ↑w A (letTemporaryGo value o r>>=λ_=>pure r) Q E s₃) E s:=by rw[hs];exact wpAny_operating (sQ h (λr s₃ h₃=>c_ (wpAny_letTemporaryGo (i_ h₃))) λ_ _ x=>x)
 first|exact i_ (c_ fin)|exact c_ (i_ (c_ fin))|exact c_ fin
theorem Dy(hu:X.A.units+1<Fk):Hi X (rT X.K zx):=by
 intro value slice pins s σ H x y v u Q I rx ry h hs;obtain⟨F,tx,ty,rv,d,ix,iy,e,q⟩:=h;cases tx<;>simp only[zx,reduceCtorEq]at e;case lst ts=>cases ty<;>simp only[reduceCtorEq]at e;case int i=>simp only[sJ]at e;obtain⟨t,e,rfl⟩:=e;unfold Is at ix iy;obtain⟨p,vs,rfl,g1,g2⟩:=ix;obtain⟨z,hz,iz⟩:=g2.at e;exact Pe value slice pins s σ H _ _ v u Q I rx ry ⟨p,vs,i,z,rfl,iy,g1.sq,hz,xK d iz q rfl⟩ hs
 case tup ts=>cases ty<;>simp only[reduceCtorEq]at e;case int i=>simp only[sJ]at e;obtain⟨t,e,rfl⟩:=e;unfold Is at ix iy;obtain⟨p,vs,rfl,g1,g2⟩:=ix;obtain⟨z,hz,iz⟩:=g2.at e;exact Mq value slice pins s σ H _ _ v u Q I rx ry ⟨p,vs,i,z,rfl,iy,g1,hz,xK d iz q rfl⟩ hs
 case str z=>cases ty<;>simp only[reduceCtorEq]at e;case int i=>
   split at e;·rename_i hl;simp only[sJ]at e;obtain⟨t,e,rfl⟩:=e;unfold Is at ix iy;exact Mr value slice pins s σ H _ _ v u Q I rx ry ⟨z,i,t,ix,iy,hl,e,xK d gy q rfl⟩ hs
   ·cases e
 case dct ks ts=>
  have Sj:∀k,y=kV k->∀t,xY ks ts k=b_ t->rv=(a_,t)->o_ ↑n X.A (Oh value slice v u) (EP X pins σ Q) X.xe s:=by
   intro k hy t ht hrv;unfold Is at ix;obtain⟨p,kvs,rfl,f,g1,g2,g3⟩:=ix;cases rx;subst hy;obtain⟨w,hw,iw⟩:=(lB k g2 g3).1 t ht;have g:nR H p (kV k) (b_ w):=by rw[<-hw];exact .inl ⟨kvs,k,g1,rfl,rfl⟩
   exact Hz O7.lookup hs (eB I g) (tm hu I g ry λw' s3 I3 Td=>⟨w,H,I3,Td,xK d iw q hrv⟩)
  cases ty<;>simp only[lC,reduceCtorEq]at e;case int i=>simp only[sJ]at e;obtain⟨t,e,rfl⟩:=e;unfold Is at iy;exact Sj (.inl i) iy t e rfl
  case str i=>simp only[sJ]at e;obtain⟨t,e,rfl⟩:=e;unfold Is at iy;exact Sj (.inr i) iy t e rfl
def uu(ts:List T)(lo hi:Option Int):List T:=(ts.drop (HT.sIx ↑c 0 lo)).take (HT.sIx ↑c ↑c hi-HT.sIx ↑c 0 lo)
def VV:T->Option Int->Option Int->Option RV|.lst ts,lo,hi=>b_ (e_,.lst (uu ts lo hi))|.tup ts,lo,hi=>b_ (a_,.tup (uu ts lo hi))|.str z,lo,hi=>if z.length<=j_ then b_ (a_,.str (Kx z lo hi))else f_|_,_,_=>f_
theorem XY{K:d_}{F:h_->Prop}{H:Hp}{ts:List T}{vs:List V}{lo hi:Option Int}(h:IsAll K F H ts vs):IsAll K F H (uu ts lo hi) (Zy vs lo hi):=by unfold uu Zy;rw[h.len];exact(h.drop _).take _
def B9(K:d_)(f:T->Option Int->Option Int->Option RV):V->Option Int->Option Int->Hp->VK->Prop:=λx lo hi H Q=>∃F tx rv,aq F H/\Is K F H tx x/\f tx lo hi=b_ rv/\∀v F' H',jB F H F' H'->kN K (λa=>H a=f_) F' H' v rv->Q v H'
theorem Dz:Hg X (B9 X.K VV):=by
 intro pins s σ H x v vl vu lo hi sl Q I rx hs pl pu h;obtain⟨F,tx,rv,d,ix,e,q⟩:=h;cases tx<;>simp only[VV,reduceCtorEq]at e;case lst ts=>cases e;unfold Is at ix;obtain⟨p,vs,rfl,g1,g2⟩:=ix;exact Pf pins s σ H _ v vl vu lo hi sl Q I rx hs pl pu ⟨p,vs,rfl,g1.sq,λl hl=>Px d (XY g2) hl q⟩
 case tup ts=>
  cases e;have ix':=ix;unfold Is at ix;obtain⟨p,vs,rfl,g1,g2⟩:=ix;by_cases hw:HT.sIx ↑g 0 lo=0/\HT.sIx ↑g ↑g hi=↑g
  ·cases rx;obtain⟨its,r,ht,hz⟩:=I.tuple g1;have hlen:↑k=↑g:=by rw[sr];exact r.length.symm
   refine⟨"tuple",_,An.lookup,ht.typeIs,HT.getItem_tuple_whole ht hs pl pu (by rw[hlen];exact hw) ⟨.ref p,H,I,rfl,xK d ix' q ?_⟩⟩;have:uu ts lo hi=ts:=by unfold uu;rw[g2.len,hw.1,hw.2,List.drop_zero];exact F_ (by rw[g2.len];omega)
   rw[this]
  ·exact Mn pins s σ H _ v vl vu lo hi sl Q I rx hs pl pu ⟨p,vs,rfl,g1,hw,λl hl=>Py d (XY g2) hl q⟩
 case str z=>split at e<;>cases e;rename_i hl;unfold Is at ix;exact MM pins s σ H _ v vl vu lo hi sl Q I rx hs pl pu ⟨z,ix,hl,xK d gy q rfl⟩
end
def KR:T->Option Bool|.non=>b_ a_|.bl b=>b_ b|.int i=>b_ (i !=0)|.str y=>if y.length<=j_ then b_ ((y.length:Int)!=0)else f_|.lst ts=>b_ (!ts.isEmpty)|.tup ts=>b_ (!ts.isEmpty)|_=>f_
def PD{K:d_}{F:h_->Prop}{H:Hp}{t:T}{x:V}{b:Bool}(h:KR t=b_ b)(i:Is K F H t x):Mi K x H b:=by
 cases t<;>simp only[KR,AK,reduceCtorEq]at h<;>unfold Is at i;case non=>subst i h;rfl
 case bl=>subst i h;rfl
 case int=>subst i h;rfl
 case str y=>
  split at h;·rename_i hl;subst i;exact⟨hl,(sF h).symm⟩
  ·cases h
 case lst ts=>obtain⟨a,vs,rfl,g1,g2⟩:=i;refine .inl ⟨vs,g1.sq,?_⟩;have:=g2.len;rw[<-h];cases ts<;>cases vs<;>simp at this⊢
 case tup ts=>obtain⟨a,vs,rfl,g1,g2⟩:=i;refine .inr (.inl ⟨vs,g1,?_⟩);have:=g2.len;rw[<-h];cases ts<;>cases vs<;>simp at this⊢
section
variable{X:Cx}{a b c e:A1}{pos:Pos}{ma mb mc:ME}{ta tb tc:TE}{rest:List A1}
def fH(m:ME):MT:=λenv=>(m env).bind λx=>Yh (KR x.2)
theorem zY(ha:jb X a ma)(he:∀SU,isTrue a X.env SU=(do let v<-SU;Re a.pos;O2 [v] (truthy v))):ZG X a (fH ma):=by obtain⟨ta,pa,sa⟩:=ha;refine⟨_,Ke pa he,?_⟩;intro F H σ env Q R nb ok ex;unfold fH at nb ok ex;refine sa.val R ↑m (λr1 e1 v1 F1 H1 x1 i1=>?_) λx z=>ex x ↑D;rw[e1,bind_ok]at nb ok;cases h:KR r1.2 with|none=>rw[h]at nb;exact absurd rfl nb|some k=>rw[h]at ok;exact⟨k,PD h i1,ok k rfl F1 H1 x1⟩
def jx(m:MT):MT:=λenv=>(m env).bind λx=>.ok (!x)
def gS(m n:MT):MT:=λenv=>(m env).bind λx=>if x=e_ then n env else .ok a_
def qS(m n:MT):MT:=λenv=>(m env).bind λx=>if x=e_ then .ok e_ else n env
theorem KS(h:fD X t m):fD X (IK t) (jx m):=by intro F H σ env Q R nb ok ex;unfold jx at nb ok ex;refine h F H σ env _ R ↑m (λk e F' H' x=>?_) λx z=>ex x ↑D;rw[e,bind_ok]at ok;exact ok _ rfl F' H' x
theorem KU(h:fD X t m)(g:fD X u n):fD X (IJ t u) (gS m n):=by intro F H σ env Q R nb ok ex;unfold gS at nb ok ex;refine h F H σ env _ R ↑m (λk e F1 H1 x1=>?_) λx z=>ex x ↑D;rw[e,bind_ok]at nb ok ex;cases k with|true=>rw[if_pos rfl]at nb ok ex⊢;exact g F1 H1 σ env Q (R.mono x1) nb (λk e F' H' x=>ok k e F' H' (x1.trans x)) λx z=>(ex x z).mono x1|false=>rw[if_neg sM]at ok⊢;exact ok _ rfl F1 H1 x1
theorem PF(h:fD X t m)(g:fD X u n):fD X (Cs t u) (qS m n):=by intro F H σ env Q R nb ok ex;unfold qS at nb ok ex;refine h F H σ env _ R ↑m (λk e F1 H1 x1=>?_) λx z=>ex x ↑D;rw[e,bind_ok]at nb ok ex;cases k with|false=>rw[if_neg sM]at nb ok ex⊢;exact g F1 H1 σ env Q (R.mono x1) nb (λk e F' H' x=>ok k e F' H' (x1.trans x)) λx z=>(ex x z).mono x1|true=>rw[if_pos rfl]at ok⊢;exact ok _ rfl F1 H1 x1
def Nb(X:Cx)(e:A1)(m:MT):Prop:=∃t,PW X e t/\fD X t m
theorem Nb.pt(h:Nb X e m):ZG X e m:=let⟨t,p,s⟩:=h;⟨t,p.pt,s⟩
theorem lD(h:ZG X a m):Nb X (.BoolOp .And [a] pos) m:=let⟨t,p,s⟩:=h;⟨t,GT p,s⟩
theorem gz(h:ZG X a m):Nb X (.BoolOp .Or [a] pos) m:=let⟨t,p,s⟩:=h;⟨t,NS p,s⟩
theorem iK(h:ZG X a m)(g:Nb X (.BoolOp .And (b::rest) pos) n):Nb X (.BoolOp .And (a::b::rest) pos) (gS m n):=by obtain⟨t,p,s⟩:=h;obtain⟨u,p',s'⟩:=g;exact⟨_,NT p p',KU s s'⟩
theorem uK(h:ZG X a m)(g:Nb X (.BoolOp .Or (b::rest) pos) n):Nb X (.BoolOp .Or (a::b::rest) pos) (qS m n):=by obtain⟨t,p,s⟩:=h;obtain⟨u,p',s'⟩:=g;exact⟨_,IL p p',PF s s'⟩
theorem kc(h:ZG X a m):ZG X (.UnaryOp .Not a pos) (jx m):=let⟨t,p,s⟩:=h;⟨_,NU p,KS s⟩
def x8(ma mb:ME):ME:=λenv=>(ma env).bind λx=>match x.2 with|.bl k=>if k=e_ then mb env else .ok (a_,.bl a_)|_=>.bad
def oY(ma mb:ME):ME:=λenv=>(ma env).bind λx=>match x.2 with|.bl k=>if k=e_ then .ok (a_,.bl e_)else mb env|_=>.bad
def uh(ma:ME):ME:=λenv=>(ma env).bind λx=>match x.2 with|.bl k=>.ok (a_,.bl (!k))|_=>.bad
theorem gA{K:d_}{F F1 F':h_->Prop}{H H1 H':Hp}{v:V}{r:RV}(x:jB F H F1 H1)(i:kN K (λa=>H1 a=f_) F' H' v r):kN K (λa=>H a=f_) F' H' v r:=by
 unfold kN at i⊢;split;·rename_i ho;rw[if_pos ho]at i;obtain⟨a,e,nf,fr,o⟩:=i;exact⟨a,e,nf,j8 x.same fr,o⟩
 ·rename_i ho;rw[if_neg ho]at i;exact i
theorem xW.next(h:xW X t m)(R:xV X.K F H σ env)(x1:jB F H F1 H1)(nb:m env≠.bad)(ok:∀r,m env=.ok r->∀v F' H',jB F H F' H'->kN X.K (λa=>H a=f_) F' H' v r->Q v H')(ex:∀x,m env=.exc x->XV X F H σ x):t σ H1 Q:=h F1 H1 σ env Q (R.mono x1) nb (λr e v F' H' x i=>ok r e v F' H' (x1.trans x) (gA x1 i)) λx z=>(ex x z).mono x1
theorem qL{op}(h:jb X a m):jb X (.BoolOp op [a] pos) m:=let⟨t,p,s⟩:=h;⟨t,NV p,s⟩
theorem gf(ha:jb X a ma)(hb:jb X (.BoolOp .And (b::rest) pos) mb):jb X (.BoolOp .And (a::b::rest) pos) (x8 ma mb):=by obtain⟨ta,pa,sa⟩:=ha;obtain⟨tb,pb,sb⟩:=hb;refine⟨_,NW pa pb,?_⟩;intro F H σ env Q R nb ok ex;unfold x8 at nb ok ex;refine sa.val R ↑m (λr1 e1 v1 F1 H1 x1 i1=>?_) λx z=>ex x ↑D;rw[e1,bind_ok]at nb ok ex;obtain⟨o,t⟩:=r1;cases t with
 |bl k=>unfold Is at i1;refine⟨k,i1,?_⟩;cases k with|true=>rw[if_pos rfl];exact sb.next R x1 nb ok ex|false=>rw[if_neg sM];exact ok _ rfl _ F1 H1 x1 (jj xX)
 |_=>exact absurd rfl nb
theorem MV(ha:jb X a ma)(hb:jb X (.BoolOp .Or (b::rest) pos) mb):jb X (.BoolOp .Or (a::b::rest) pos) (oY ma mb):=by obtain⟨ta,pa,sa⟩:=ha;obtain⟨tb,pb,sb⟩:=hb;refine⟨_,IP pa pb,?_⟩;intro F H σ env Q R nb ok ex;unfold oY at nb ok ex;refine sa.val R ↑m (λr1 e1 v1 F1 H1 x1 i1=>?_) λx z=>ex x ↑D;rw[e1,bind_ok]at nb ok ex;obtain⟨o,t⟩:=r1;cases t with
 |bl k=>unfold Is at i1;refine⟨k,i1,?_⟩;cases k with|false=>rw[if_neg sM];exact sb.next R x1 nb ok ex|true=>rw[if_pos rfl];exact ok _ rfl _ F1 H1 x1 (jj xX)
 |_=>exact absurd rfl nb
theorem tK(ha:jb X a ma):jb X (.UnaryOp .Not a pos) (uh ma):=by obtain⟨ta,pa,sa⟩:=ha;refine⟨_,NX pa,?_⟩;intro F H σ env Q R nb ok ex;unfold uh at nb ok ex;refine sa.val R ↑m (λr1 e1 v1 F1 H1 x1 i1=>?_) λx z=>ex x ↑D;rw[e1,bind_ok]at nb ok ex;obtain⟨o,t⟩:=r1;cases t with|bl k=>unfold Is at i1;exact⟨k,i1,ok _ rfl _ F1 H1 x1 (jj xX)⟩|_=>exact absurd rfl nb
def KW(ma:ME):ME:=λenv=>(ma env).bind λx=>match x.2 with|.int i=>.ok (a_,.int (-i))|_=>.bad
theorem KY(ha:jb X a ma):jb X (.UnaryOp .USub a pos) (KW ma):=by obtain⟨ta,pa,sa⟩:=ha;refine⟨_,IZ Mg pa,?_⟩;intro F H σ env Q R nb ok ex;unfold KW at nb ok ex;refine sa.val R ↑m (λr1 e1 v1 F1 H1 x1 i1=>?_) λx z=>ex x ↑D;rw[e1,bind_ok]at nb ok ex;obtain⟨o,t⟩:=r1;cases t with|int k=>unfold Is at i1;exact⟨k,i1,ok _ rfl _ F1 H1 x1 (jj xL)⟩|_=>exact absurd rfl nb
def lF(m:MT)(ma mb:ME):ME:=λenv=>(m env).bind λk=>if k=e_ then ma env else mb env
theorem pQ(hc:ZG X c m)(ha:jb X a ma)(hb:jb X b mb):jb X (.IfExp c a b pos) (lF m ma mb):=by obtain⟨t,p,s⟩:=hc;obtain⟨ta,pa,sa⟩:=ha;obtain⟨tb,pb,sb⟩:=hb;refine⟨_,Zr p pa pb,?_⟩;intro F H σ env Q R nb ok ex;unfold lF at nb ok ex;refine s F H σ env _ R ↑m (λk e F1 H1 x1=>?_) λx z=>ex x ↑D;rw[e,bind_ok]at nb ok ex;cases k with|true=>rw[if_pos rfl]at nb ok ex⊢;exact sa.next R x1 nb ok ex|false=>rw[if_neg sM]at nb ok ex⊢;exact sb.next R x1 nb ok ex
theorem V3(hu:X.A.units+1<Fk)(ha:jb X a ma)(hb:jb X b mb)(hs:oO b):jb X (.Subscript a b pos) (m2 zx ma mb):=by obtain⟨ta,pa,sa⟩:=ha;obtain⟨tb,pb,sb⟩:=hb;exact⟨_,Hj (Dy hu) pa pb hs,oW xn sa sb⟩
abbrev MO:=En->gd (Option Int)
def DA(X:Cx)(t:TO)(m:MO):Prop:=∀(F:h_->Prop)(H:Hp)(σ:St)(env:En)(Q:Option Int->Hp->Prop),xV X.K F H σ env->m env≠.bad->(∀b,m env=.ok b->∀F' H',jB F H F' H'->Q b H')->(∀x,m env=.exc x->XV X F H σ x)->t σ H Q
def EK(X:Cx)(e:Option A1)(m:MO):Prop:=∃t,PO X e t/\DA X t m
def xh:MO:=λ_=>.ok f_
def jI(m:ME):MO:=λenv=>(m env).bind λx=>match x.2 with|.int i=>.ok (b_ i)|_=>.bad
theorem gU:EK X f_ xh:=⟨_,Pa,λF H σ env Q R nb ok ex=>ok f_ rfl F H (.refl R.dom)⟩
theorem jy(ha:jb X a ma):EK X (b_ a) (jI ma):=by obtain⟨ta,pa,sa⟩:=ha;refine⟨_,Pb pa,?_⟩;intro F H σ env Q R nb ok ex;unfold jI at nb ok ex;refine sa.val R ↑m (λr1 e1 v1 F1 H1 x1 i1=>?_) λx z=>ex x ↑D;rw[e1,bind_ok]at nb ok ex;obtain⟨o,t⟩:=r1;cases t with|int k=>unfold Is at i1;exact⟨k,i1,ok _ rfl F1 H1 x1⟩|_=>exact absurd rfl nb
def dg(ma:ME)(ml mh:MO):ME:=λenv=>(ma env).bind λx=>(ml env).bind λl=>(mh env).bind λh=>Yh (VV x.2 l h)
theorem xQ{lo hi:Option A1}{ml mh:MO}{p2:Pos}(ha:jb X a ma)(hl:EK X lo ml)(hh:EK X hi mh):jb X (.Subscript a (.Slice lo hi f_ p2) pos) (dg ma ml mh):=by obtain⟨ta,pa,sa⟩:=ha;obtain⟨tl,pl,sl⟩:=hl;obtain⟨th,ph,sh⟩:=hh;refine⟨_,Ki Dz pa pl ph,?_⟩;intro F H σ env Q R nb ok ex;unfold dg at nb ok ex;refine sa.val R ↑m (λr1 e1 v1 F1 H1 x1 i1=>?_) λx z=>ex x ↑D;rw[e1,bind_ok]at nb ok ex;refine sl F1 H1 σ env _ (R.mono x1) ↑m (λl e2 F2 H2 x2=>?_) λx z=>(ex x ↑D).mono x1;rw[e2,bind_ok]at nb ok ex;refine sh F2 H2 σ env _ ((R.mono x1).mono x2) ↑m (λh e3 F3 H3 x3=>?_) λx z=>(ex x ↑D).mono (x1.trans x2);rw[e3,bind_ok]at nb ok ex;cases h:VV r1.2 l h with|none=>rw[h]at nb;exact absurd rfl nb|some rv=>rw[h]at ok;have x13:=(x1.trans x2).trans x3;exact⟨F3,r1.2,rv,x3.dom,i1.mono (x2.trans x3).kept,h,λv F' H' x i=>ok rv rfl v F' H' (x13.trans x) (gA x13 i)⟩
end
def xZ(K:d_)(fr F:h_->Prop)(H:Hp):List V->List RV->Prop|[],[]=>True|v::vs,r::rs=>kN K fr F H v r/\xZ K fr F H vs rs/\(r.1=e_->∀(i:Nat)(r':RV),rs[i]?=b_ r'->r'.1=e_->vs[i]?≠b_ v)|_,_=>False
def kN.there{K:d_}{fr F:h_->Prop}{H:Hp}{v:V}{r:RV}(h:kN K fr F H v r)(o:r.1=e_):∃a,v=.ref a/\¬F a/\fr a/\H a≠f_/\kh K F H a r.2:=by unfold kN at h;rw[if_pos o]at h;obtain⟨a,e,nf,f,w⟩:=h;exact⟨a,e,nf,f,w.there,w⟩
def kN.mono{K:d_}{fr F F1:h_->Prop}{H H1:Hp}{v:V}{r:RV}(x:jB F H F1 H1)(h:kN K fr F H v r):kN K fr F1 H1 v r:=by
 unfold kN at h⊢;split
 ·rename_i o;rw[if_pos o]at h;obtain⟨a,e,nf,f,w⟩:=h;refine⟨a,e,λz=>?_,f,w.mono x.kept λo q=>x.same a o q⟩;rcases x.new a z with z|z;·exact nf z
  ·exact w.there z
 ·rename_i o;rw[if_neg o]at h;exact h.mono x.kept
def xZ.frz{K:d_}{F F1:h_->Prop}{H H1:Hp}:∀{vs:List V}{rs:List RV},jB F H F1 H1->xZ K (λa=>H a=f_) F1 H1 vs rs->∃F2,jB F H F2 H1/\(∀a,F1 a->F2 a)/\IsAll K F2 H1 (rs.map (·.2)) vs
 |[],[],x,_=>⟨F1,x,λ_ h=>h,IsAll.nil⟩|[],_::_,_,h=>h.elim|_::_,[],_,h=>h.elim|v::vs,r::rs,x,h=>by
  obtain⟨h1,h2,_⟩:=h;obtain⟨F2,x2,s2,i2⟩:=xZ.frz x h2;by_cases o:r.1=e_;·obtain⟨a,rfl,nf,fr,th,w⟩:=h1.there o;refine⟨λb=>F2 b\/b=a,x2.freeze fr th,λb q=>.inl (s2 b q),IsAll.cons ?_ (i2.mono ⟨λb q=>.inl q,λ_ _ _ q=>q,λ_ _ q _ _=>q⟩)⟩;exact w.is (λb q=>.inl (s2 b q)) (.inr rfl)
  ·obtain⟨o',t⟩:=r;cases o' with|true=>exact absurd rfl o|false=>exact⟨F2,x2,s2,IsAll.cons (h1.is.mono ⟨s2,λ_ _ _ q=>q,λ_ _ q _ _=>q⟩) i2⟩
def YT(X:Cx)(t:TA)(m:MA):Prop:=∀(F:h_->Prop)(H:Hp)(σ:St)(env:En)(Q:List V->Hp->Prop),xV X.K F H σ env->m env≠.bad->(∀rs,m env=.ok rs->∀vs F' H',jB F H F' H'->xZ X.K (λa=>H a=f_) F' H' vs rs->Q vs H')->(∀x,m env=.exc x->XV X F H σ x)->t σ H Q
def Yi(X:Cx)(es:List A1)(m:MA):Prop:=∃t,PA X es t/\YT X t m
def zh:MA:=λ_=>.ok []
def z9(me:ME)(ma:MA):MA:=λenv=>(me env).bind λx=>(ma env).bind λxs=>.ok (x::xs)
def zb:Yi X [] zh:=⟨_,kC,λF H σ env Q R nb ok ex=>ok [] rfl [] F H (.refl R.dom) trivial⟩
def z3(he:jb X e me)(ha:Yi X es ma)(hs:p_ (e::es) X.env=↑ae::p_ es X.env:=by rfl):Yi X (e::es) (z9 me ma):=by
 obtain⟨te,pe,se⟩:=he;obtain⟨ta,pa,sa⟩:=ha;refine⟨_,jY pe pa hs,?_⟩;intro F H σ env Q R nb ok ex;unfold z9 at nb ok ex;refine se F H σ env _ R ↑m (λr1 e1 v1 F1 H1 x1 i1=>?_) λx z=>ex x ↑D;rw[e1,bind_ok]at nb ok ex;refine sa F1 H1 σ env _ (R.mono x1) ↑m (λrs e2 vs F2 H2 x2 i2=>?_) λx z=>(ex x ↑D).mono x1;rw[e2,bind_ok]at ok;have back:∀{vs:List V}{rs:List RV},xZ X.K (λa=>H1 a=f_) F2 H2 vs rs->xZ X.K (λa=>H a=f_) F2 H2 vs rs/\∀(i:Nat)(r':RV)(a:h_),rs[i]?=b_ r'->r'.1=e_->vs[i]?=b_ (.ref a)->H1 a=f_:=by intro vs;induction vs with
  |nil=>intro rs h;cases rs with|nil=>exact⟨trivial,λi r' a h=>by simp at h⟩|cons _ _=>exact h.elim
  |cons v vs ih=>intro rs h;cases rs with|nil=>exact h.elim|cons r rs=>obtain⟨h1,h2,h3⟩:=h;obtain⟨g1,g2⟩:=ih h2;refine⟨⟨gA x1 h1,g1,h3⟩,λi r' a hr ho hv=>?_⟩;cases i with|zero=>simp at hr hv;subst hr hv;obtain⟨b,e,_,f,_⟩:=h1.there ho;cases e;exact f|succ i=>exact g2 i r' a (by simpa using hr) ho (by simpa using hv)
 obtain⟨b1,b2⟩:=back i2;refine ok _ rfl (v1::vs) F2 H2 (x1.trans x2) ⟨i1.mono x2,b1,λho i r' hr SS hv=>?_⟩;obtain⟨a,rfl,_,_,th,_⟩:=i1.there ho;exact th (b2 i r' a hr SS hv)
def jJ(ma:MA):ME:=λenv=>(ma env).bind λrs=>if rs.length<=j_ then .ok (a_,.tup (rs.map (·.2)))else .bad
def ki(ma:MA):ME:=λenv=>(ma env).bind λrs=>if rs.length<=j_ then .ok (e_,.lst (rs.map (·.2)))else .bad
def xZ.len{K:d_}{fr F:h_->Prop}{H:Hp}:∀{vs:List V}{rs:List RV},xZ K fr F H vs rs->↑g=rs.length|[],[],_=>rfl|[],_::_,h=>h.elim|_::_,[],h=>h.elim|_::vs,_::rs,h=>by rw[sA,sA,xZ.len h.2.1]
def jK{x1}(h:Yi X es ma):jb X (.Tuple es x1 pos) (jJ ma):=by
 obtain⟨ta,pa,sa⟩:=h;refine⟨_,Ml pa,?_⟩;intro F H σ env Q R nb ok ex;unfold jJ at nb ok ex;refine sa F H σ env _ R ↑m (λrs e1 vs F1 H1 x1 i1=>?_) λx z=>ex x ↑D;rw[e1,bind_ok]at nb ok ex;obtain⟨F2,x2,s2,i2⟩:=i1.frz x1;by_cases hl:rs.length<=j_;·rw[if_pos hl]at ok;refine⟨by rw[i1.len];exact hl,λp hp=>?_⟩;exact Py x2.dom i2 hp λv F' H' x i=>ok _ rfl v F' H' (x2.trans x) (gA x2 i)
 ·rw[if_neg hl]at nb;exact absurd rfl nb
def xk(h:Yi X es ma):jb X (.List es pos) (ki ma):=by
 obtain⟨ta,pa,sa⟩:=h;refine⟨_,Mm pa,?_⟩;intro F H σ env Q R nb ok ex;unfold ki at nb ok ex;refine sa F H σ env _ R ↑m (λrs e1 vs F1 H1 x1 i1=>?_) λx z=>ex x ↑D;rw[e1,bind_ok]at nb ok ex;obtain⟨F2,x2,s2,i2⟩:=i1.frz x1;by_cases hl:rs.length<=j_;·rw[if_pos hl]at ok;refine⟨by rw[i1.len];exact hl,λp hp=>?_⟩;exact Px x2.dom i2 hp λv F' H' x i=>ok _ rfl v F' H' (x2.trans x) (gA x2 i)
 ·rw[if_neg hl]at nb;exact absurd rfl nb
def zC(f:List T->Option RV)(ma:MA):ME:=λenv=>(ma env).bind λrs=>Yh (f (rs.map (·.2)))
def KZ{f:List T->Option RV}{t:TA}(sa:YT X t ma):xW X (Dj (Pw X.K f) t) (zC f ma):=by intro F H σ env Q R nb ok ex;unfold zC at nb ok ex;refine sa F H σ env _ R ↑m (λrs e1 vs F1 H1 x1 i1=>?_) λx z=>ex x ↑D;rw[e1,bind_ok]at nb ok ex;obtain⟨F2,x2,s2,i2⟩:=i1.frz x1;cases h:f (rs.map (·.2))with|none=>rw[h]at nb;exact absurd rfl nb|some rv=>rw[h]at ok;exact⟨F2,_,rv,x2.dom,i2,h,λv F' H' x i=>ok rv rfl v F' H' (x2.trans x) (gA x2 i)⟩
def jf{id:String}{f:List T->Option RV}(hc:gw X (.builtin id) (Pw X.K f))(hg:Gl X x)(hm:X.mg x=f_)(hv:A0 x=b_ (.builtin id))(ha:Yi X (e::es) ma)(hn:x≠"__name__":=by decide)(SG:(x==↑x)=a_:=by decide)(he:p_ (e::es) X.env=↑ae::p_ es X.env:=by rfl)(hpl:(AT pos (p_ es X.env)).any (·.1)=a_:=by rfl):jb X (.Call (.Name x p) (e::es) [] pos) (zC f ma):=by obtain⟨ta,pa,sa⟩:=ha;exact⟨_,Zx hc hg hm hv pa hn SG he hpl,KZ sa⟩
def gB{id:String}{f:List T->Option RV}(hc:gw X (.type id) (Pw X.K f))(hg:Gl X x)(hm:X.mg x=f_)(hv:A0 x=b_ (.type id))(ha:Yi X (e::es) ma)(hn:x≠"__name__":=by decide)(SG:(x==↑x)=a_:=by decide)(he:p_ (e::es) X.env=↑ae::p_ es X.env:=by rfl)(hpl:(AT pos (p_ es X.env)).any (·.1)=a_:=by rfl):jb X (.Call (.Name x p) (e::es) [] pos) (zC f ma):=by obtain⟨ta,pa,sa⟩:=ha;exact⟨_,WR hc hg hm hv pa hn SG he hpl,KZ sa⟩
structure Bs where
 M:h_->Prop
 H:Hp
 F:h_->Prop
structure m5(B:Bs)(F:h_->Prop)(H:Hp):Prop where
 dom:aq F H
 sub:∀a,B.F a->F a
 new:∀a,F a->B.F a\/B.H a=f_\/B.M a
 keep:∀a o,B.H a=b_ o->¬B.M a->H a=b_ o
 f0:∀a,B.F a->¬B.M a
structure zN(K:d_)(B:Bs)(F:h_->Prop)(H:Hp)(σ:St)(env:En):Prop where
 fr:m5 B F H
 len:env.length=σ.length
 vals:∀(i:Nat)(t:T),env[i]?=b_ (b_ (a_,t))->∃v,σ[i]?=b_ (b_ v)/\Is K F H t v
 owns:∀(i:Nat)(t:T),env[i]?=b_ (b_ (e_,t))->∃a,σ[i]?=b_ (b_ (.ref a))/\¬F a/\(B.H a=f_\/B.M a)/\kh K F H a t
 sep:∀(i j:Nat)(t t':T)(a:h_),env[i]?=b_ (b_ (e_,t))->env[j]?=b_ (b_ (e_,t'))->σ[i]?=b_ (b_ (.ref a))->σ[j]?=b_ (b_ (.ref a))->i=j
structure ZO(K:d_)(B:Bs)(F:h_->Prop)(H:Hp)(v:V)(r:RV):Prop where
 fr:m5 B F H
 val:kN K (λa=>B.H a=f_\/B.M a) F H v r
def ui:Option RV->Option RV|some (e_,_)=>f_|o=>o
def hide(env:En):En:=env.map ui
def frz1:Option RV->Option RV|some (_,t)=>b_ (a_,t)|none=>f_
def Q0(env:En):En:=env.map frz1
def oZ:Option RV->Bool|some (e_,.lst _)=>e_|_=>a_
def re:Option RV->Bool|some (e_,.dct _ _)=>e_|_=>a_
def rg:Option RV->Bool|some (e_,.obj _ _ _)=>e_|_=>a_
def ZP:RV->Bool|(e_,.lst ts)=>noLs ts|(e_,.dct _ ts)=>noLs ts|(e_,.obj _ _ ts)=>noLs ts|(_,t)=>Ye t
def ZQ:RV->Bool|(e_,.lst ts)=>noDs ts|(e_,.dct _ ts)=>noDs ts|(e_,.obj _ _ ts)=>noDs ts|(_,t)=>Yf t
def ZR:RV->Bool|(e_,.lst ts)=>noOs ts|(e_,.dct _ ts)=>noOs ts|(e_,.obj _ _ ts)=>noOs ts|(_,t)=>Yg t
def Nc(h:ZP (a_,t)=e_):Ye (.exn C t)=e_:=by rw[Ye];cases t<;>exact h
def Nd(h:ZQ (a_,t)=e_):Yf (.exn C t)=e_:=by rw[Yf];cases t<;>exact h
def Nf(h:ZR (a_,t)=e_):Yg (.exn C t)=e_:=by rw[Yg];cases t<;>exact h
def clean(env:En)(r:RV):Bool:=(!env.any oZ||ZP r)&&(!env.any re||ZQ r)&&(!env.any rg||ZR r)
def mK(hc:clean env r=e_):(env.any oZ=e_->ZP r=e_)/\(env.any re=e_->ZQ r=e_)/\(env.any rg=e_->ZR r=e_):=by unfold clean at hc;simp only[y_,Bool.or_eq_true,Bool.not_eq_true']at hc;exact⟨λz=>by rcases hc.1.1 with q|q;(rw[z]at q;cases q);exact q,λz=>by rcases hc.1.2 with q|q;(rw[z]at q;cases q);exact q,λz=>by rcases hc.2 with q|q;(rw[z]at q;cases q);exact q⟩
def settle(env:En)(r:RV):En:=if clean env r=e_ then env else Q0 env
def jR(m:ME)(env:En):gd (RV×En):=match m (hide env)with|.ok r=>.ok (r,env)|.exc x=>.exc x|.bad=>match m env with|.ok r=>.ok (r,settle env r)|.exc x=>if clean env (a_,x.at_)=e_ then .exc x else .bad|.bad=>.bad
section
variable{K:d_}{B:Bs}{F F':h_->Prop}{H H':Hp}{σ:St}{env:En}{v:V}{r:RV}
theorem pN{f:Option RV->Option RV}{i:Nat}{o:Option RV}(h:(env.map f)[i]?=b_ o):∃o',env[i]?=b_ o'/\f o'=o:=by rw[sI]at h;cases e:env[i]? with|none=>rw[e]at h;cases h|some o'=>rw[e]at h;exact⟨o',rfl,sF h⟩
theorem ZS{i:Nat}{r:RV}(h:(hide env)[i]?=b_ (b_ r)):∃t,r=(a_,t)/\env[i]?=b_ (b_ (a_,t)):=by obtain⟨o,e,q⟩:=pN h;cases o with|none=>cases q|some r'=>obtain⟨b,t⟩:=r';cases b with|true=>cases q|false=>cases q;exact⟨t,rfl,e⟩
theorem zK(f:m5 B F H)(h:H a=f_):B.H a=f_\/B.M a:=by cases e:B.H a with|none=>exact .inl rfl|some o=>
  by_cases hm:B.M a;·exact .inr hm
  ·rw[f.keep a o e hm]at h;cases h
theorem m5.ext(f:m5 B F H)(x:jB F H F' H'):m5 B F' H':=by
 refine⟨x.dom,λa h=>x.sub a (f.sub a h),λa h=>?_,λa o h hm=>x.same a o (f.keep a o h hm),f.f0⟩;rcases x.new a h with h|h;·exact f.new a h
 ·exact .inr (zK f h)
theorem zN.hid(R:zN K B F H σ env):xV K F H σ (hide env):=⟨R.fr.dom,λi r h=>by obtain⟨t,rfl,e⟩:=ZS h;exact R.vals i t e⟩
def XZ(σ:St)(env:En)(a:h_):Prop:=∃(i:Nat)(t:T),env[i]?=b_ (b_ (e_,t))/\σ[i]?=b_ (b_ (V.ref a))
theorem zN.own_not(R:zN K B F H σ env)(h:XZ σ env a):¬F a/\H a≠f_/\(B.H a=f_\/B.M a):=by obtain⟨i,t,e,s⟩:=h;obtain⟨b,s',nf,fr,o⟩:=R.owns i t e;rw[s]at s';cases s';exact⟨nf,o.there,fr⟩
theorem zN.opn(R:zN K B F H σ env):xV K (λa=>F a\/XZ σ env a) H σ env:=⟨λa h=>by
  rcases h with h|h;·exact R.fr.dom a h
  ·exact(R.own_not h).2.1,λi r h=>by obtain⟨b,t⟩:=r;cases b with|false=>obtain⟨v,s,q⟩:=R.vals i t h;exact⟨v,s,q.mono ⟨λa h=>.inl h,λ_ _ _ h=>h,λ_ _ h _ _=>h⟩⟩|true=>obtain⟨a,s,nf,fr,o⟩:=R.owns i t h;exact⟨.ref a,s,o.is (λb h=>.inl h) (.inr ⟨i,t,h,s⟩)⟩⟩
theorem zN.ext(R:zN K B F H σ env)(x:jB F H F' H'):zN K B F' H' σ env:=⟨R.fr.ext x,R.len,λi t h=>let⟨v,s,q⟩:=R.vals i t h;⟨v,s,q.mono x.kept⟩,λi t h=>by
  obtain⟨a,s,nf,fr,o⟩:=R.owns i t h;refine⟨a,s,λz=>?_,fr,o.mono x.kept λo q=>x.same a o q⟩;rcases x.new a z with z|z;·exact nf z
  ·exact o.there z,R.sep⟩
theorem zN.closed(R:zN K B F H σ env)(x:jB (λa=>F a\/XZ σ env a) H F' H'):zN K B (λa=>F' a/\¬XZ σ env a) H' σ env/\jB F H (λa=>F' a/\¬XZ σ env a) H':=by
 have e:jB F H (λa=>F' a/\¬XZ σ env a) H':=⟨x.same,λa h=>⟨x.sub a (.inl h),λz=>(R.own_not z).1 h⟩,λa h=>by
  rcases x.new a h.1 with(z|z)|z;·exact .inl z
  ·exact absurd z h.2
  ·exact .inr z,λa h=>x.dom a h.1⟩;exact⟨R.ext e,e⟩
theorem zN.cleans(R:zN K B F H σ env)(x:jB (λa=>F a\/XZ σ env a) H F' H'):oV F' (λa=>F' a/\¬XZ σ env a) H' (env.any oZ) (env.any re) (env.any rg):=by
 have own:∀a,XZ σ env a->(∃xs,H' a=b_ (.lst xs)/\env.any oZ=e_)\/(∃xs,H' a=b_ (.dK xs)/\env.any re=e_)\/∃C dx xs,H' a=b_ (.ins C dx xs)/\env.any rg=e_:=by intro a⟨i,t,e,s⟩;obtain⟨b,s',nf,fr,o⟩:=R.owns i t e;rw[s]at s';cases s';cases t with|lst ts=>obtain⟨vs,h,_⟩:=o;exact .inl ⟨vs,x.same _ _ h,BO.mpr ⟨_,Av e,rfl⟩⟩|dct ks ts=>obtain⟨vs,h,_⟩:=o;exact .inr (.inl ⟨vs,x.same _ _ h,BO.mpr ⟨_,Av e,rfl⟩⟩)|obj C fs ts=>obtain⟨dx,vs,h,_⟩:=o;exact .inr (.inr ⟨_,_,vs,x.same _ _ h,BO.mpr ⟨_,Av e,rfl⟩⟩)|_=>exact o.elim
 refine⟨λa xs f h l=>⟨f,λz=>?_⟩,λa xs f h l=>⟨f,λz=>?_⟩,λa C dx xs f h l=>⟨f,λz=>?_⟩,λa ob u f h=>⟨f,λz=>?_⟩⟩
 ·rcases own a z with⟨ys,h',l'⟩|⟨ys,h',_⟩|⟨_,_,ys,h',_⟩;·rw[l]at l';cases l'
  ·rw[h]at h';cases h'
  ·rw[h]at h';cases h'
 ·rcases own a z with⟨ys,h',_⟩|⟨ys,h',l'⟩|⟨_,_,ys,h',_⟩;·rw[h]at h';cases h'
  ·rw[l]at l';cases l'
  ·rw[h]at h';cases h'
 ·rcases own a z with⟨ys,h',_⟩|⟨ys,h',_⟩|⟨_,_,ys,h',l'⟩;·rw[h]at h';cases h'
  ·rw[h]at h';cases h'
  ·rw[l]at l';cases l'
 ·rcases own a z with⟨ys,h',_⟩|⟨ys,h',_⟩|⟨_,_,ys,h',_⟩<;>(rw[h]at h';cases h')
theorem V4(c:oV F F' H l d o)(hs:∀a,F' a->F a)(hl:l=e_->ZP r=e_)(hd:d=e_->ZQ r=e_)(ho:o=e_->ZR r=e_)(i:kN K fr F H v r):kN K fr F' H v r:=by obtain⟨b,t⟩:=r;unfold kN at i⊢;cases b with|false=>simp only[AQ,if_false]at i⊢;exact Is.clean c (λz=>by have:=hl z;cases t<;>simpa[ZP]using this) (λz=>by have:=hd z;cases t<;>simpa[ZQ]using this) (λz=>by have:=ho z;cases t<;>simpa[ZR]using this) i|true=>simp only[if_true]at i⊢;obtain⟨a,e,nf,f,o⟩:=i;refine⟨a,e,λz=>nf (hs a z),f,?_⟩;cases t with|lst ts=>obtain⟨vs,h,q⟩:=o;exact⟨vs,h,IsAll.clean c (λz=>hl z) (λz=>hd z) (λz=>ho z) q⟩|dct ks ts=>obtain⟨vs,h,k,q⟩:=o;exact⟨vs,h,k,IsAll.clean c (λz=>hl z) (λz=>hd z) (λz=>ho z) q⟩|obj C fs ts=>obtain⟨dx,vs,h,k,q⟩:=o;exact⟨dx,vs,h,k,IsAll.clean c (λz=>hl z) (λz=>hd z) (λz=>ho z) q⟩|_=>exact o.elim
theorem zN.frozen(R:zN K B F H σ env)(x:jB (λa=>F a\/XZ σ env a) H F' H'):zN K B F' H' σ (Q0 env):=by
 have fr:m5 B F' H':=⟨x.dom,λa h=>x.sub a (.inl (R.fr.sub a h)),λa h=>by
  rcases x.new a h with(z|z)|z;·exact R.fr.new a z
  ·exact .inr (R.own_not z).2.2
  ·exact .inr (zK R.fr z),λa o h hm=>x.same a o (R.fr.keep a o h hm),R.fr.f0⟩;refine⟨fr,by unfold Q0;rw[j'];exact R.len,λi t h=>?_,λi t h=>?_,λi j t t' a h=>?_⟩;·obtain⟨o,e,q⟩:=pN h;cases o with|none=>cases q|some r'=>
   obtain⟨b,t'⟩:=r';have:t'=t:=by cases b<;>(cases q;rfl)
   subst this;obtain⟨v,s,iv⟩:=R.opn.vals i _ e;exact⟨v,s,iv.mono x.kept⟩
 ·obtain⟨o,e,q⟩:=pN h;cases o with|none=>cases q|some r'=>obtain⟨b,t'⟩:=r';cases q
 ·obtain⟨o,e,q⟩:=pN h;cases o with|none=>cases q|some r'=>obtain⟨b,t'⟩:=r';cases q
theorem Q3{a:h_}(h:XZ σ (Q0 env) a):False:=by obtain⟨i,t,e,_⟩:=h;obtain⟨o,_,q⟩:=pN e;cases o with|none=>cases q|some r'=>obtain⟨b,t'⟩:=r';cases q
end
inductive V5 where|nx(env:En)|rt(r:RV)|bk(env:En)|ct(env:En)|exc(x:Ex)(env:En)|bad
abbrev MS:=En->V5
def Ng:V5->V5|.exc _ _=>.bad|o=>o
def gg(X:Cx)(B:Bs)(D:nQ):V5->Prop|.nx env=>∀F H σ,zN X.K B F H σ env->D.nx σ H|.bk env=>∀F H σ,zN X.K B F H σ env->D.bk σ H|.ct env=>∀F H σ,zN X.K B F H σ env->D.ct σ H|.rt r=>∀v F H,ZO X.K B F H v r->D.rt v H|.exc x env=>∀ev F H σ,zN X.K B F H σ env->KG X.K F H ev x->∀pins s',db X ev pins σ H s'->X.xe ev s'|.bad=>False
def PH(X:Cx)(t:TS)(m:MS):Prop:=∀(B:Bs)(F:h_->Prop)(H:Hp)(σ:St)(env:En)(D:nQ),zN X.K B F H σ env->gg X B D (m env)->t D σ H
def eF(X:Cx)(st:A2)(m:MS):Prop:=∃t,PS X st t/\PH X t m
def uL(X:Cx)(st:List A2)(m:MS):Prop:=∃t,oF X st t/\PH X t m
def xW.run(h:xW X t m)(R:zN X.K B F H σ env)(ok:∀r Sc,jR m env=.ok (r,Sc)->∀v F' H',zN X.K B F' H' σ Sc->kN X.K (λa=>H a=f_) F' H' v r->(∀a,XZ σ Sc a->H a≠f_)->gx F F' H H'->Q v H')(ex:∀x,jR m env=.exc x->∀ev F' H',zN X.K B F' H' σ env->KG X.K F' H' ev x->∀pins s',db X ev pins σ H' s'->X.xe ev s')(nb:jR m env≠.bad):t σ H Q:=by unfold jR at ok ex nb;cases hm:m (hide env)with
 |ok r=>rw[hm]at ok;exact h F H σ (hide env) Q R.hid (by rw[hm];intro z;cases z) (λr' e v F' H' x i=>by rw[hm]at e;cases e;exact ok r env rfl v F' H' (R.ext x) i (λa z=>(R.own_not z).2.1) x.kept) λx z=>by rw[hm]at z;cases z|exc x=>rw[hm]at ex;exact h F H σ (hide env) Q R.hid (by rw[hm];intro z;cases z) (λr' e=>by rw[hm]at e;cases e) λx' z ev F' H' e i pins s' I=>by rw[hm]at z;cases z;exact ex x rfl ev F' H' (R.ext e) i pins s' I
 |bad=>rw[hm]at ok ex nb;dsimp only at ok ex nb;cases hm2:m env with|bad=>rw[hm2]at nb;exact absurd rfl nb|ok r=>
   rw[hm2]at ok;dsimp only at ok;refine h _ H σ env Q R.opn (by rw[hm2];intro z;cases z) (λr' e v F' H' x i=>?_) λx z=>by rw[hm2]at z;cases z
   rw[hm2]at e;cases e;by_cases hc:clean env r=e_
   ·have es:settle env r=env:=by unfold settle;rw[if_pos hc]
    rw[es]at ok;have hc':=mK hc;obtain⟨R',e'⟩:=R.closed x;exact ok r env rfl v _ H' R' (V4 (R.cleans x) (λa z=>z.1) hc'.1 hc'.2.1 hc'.2.2 i) (λa z=>(R.own_not z).2.1) e'.kept
   ·have es:settle env r=Q0 env:=by unfold settle;rw[if_neg hc]
    rw[es]at ok;exact ok r _ rfl v F' H' (R.frozen x) i (λa z=>(Q3 z).elim) ⟨λa h=>x.sub a (.inl h),λa o _ h=>x.same a o h,λa o h _ _=>x.same a o h⟩|exc x=>
   rw[hm2]at ex nb;dsimp only at ex nb;by_cases hc:clean env (a_,x.at_)=e_;·rw[if_pos hc]at ex;refine h _ H σ env Q R.opn (by rw[hm2];intro z;cases z) (λr' e=>by rw[hm2]at e;cases e) λx' z ev F' H' e i pins s' I=>?_;rw[hm2]at z;cases z;have hc':=mK hc;obtain⟨R',e'⟩:=R.closed e;exact ex x rfl ev _ H' R' (i.imp λe0 q=>⟨q.1,Is.clean (R.cleans e) (λz=>Nc (hc'.1 z)) (λz=>Nd (hc'.2.1 z)) (λz=>Nf (hc'.2.2 z)) q.2⟩) pins s' I
   ·rw[if_neg hc]at nb;exact absurd rfl nb
section
variable{K:d_}{B:Bs}{F F':h_->Prop}{H H':Hp}{σ:St}{env:En}{v:V}{r:RV}
theorem jL{α:Type}{l:List α}{i j:Nat}{a b:α}(h:(l.set i a)[j]?=b_ b):(j=i/\i<l.length/\b=a)\/(j≠i/\l[j]?=b_ b):=by
 by_cases e:j=i;·subst e;have hl:j<(l.set j a).length:=(sP.mp h).1;rw[AD]at hl;rw[Ay hl]at h;exact .inl ⟨rfl,hl,(sF h).symm⟩
 ·rw[AL (AE e)]at h;exact .inr ⟨e,h⟩
theorem zN.put(R:zN K B F' H' σ env)(i:Nat)(h:kN K (λa=>H a=f_) F' H' v r)(hb:∀a,H a=f_->B.H a=f_\/B.M a)(Sh:∀a,XZ σ env a->H a≠f_):zN K B F' H' (σ.set i (b_ v)) (env.set i (b_ r)):=by
 have hs:∀j,j≠i->(σ.set i (b_ v))[j]?=σ[j]?:=λj hj=>AL (AE hj);have Tg:i<env.length->(σ.set i (b_ v))[i]?=b_ (b_ v):=λhi=>Ay (by rw[<-R.len];exact hi);refine⟨R.fr,by rw[AD,AD];exact R.len,λj t e=>?_,λj t e=>?_,λj k t t' a e1 e2 s1 s2=>?_⟩
 ·rcases jL e with⟨rfl,hl,er⟩|⟨hj,e⟩;·refine⟨v,Tg hl,?_⟩;have er:=(sF er).symm;subst er;exact h.is
  ·rw[hs j hj];exact R.vals j t e
 ·rcases jL e with⟨rfl,hl,er⟩|⟨hj,e⟩;·have er:=(sF er).symm;subst er;obtain⟨a,rfl,nf,fr,th,w⟩:=h.there rfl;exact⟨a,Tg hl,nf,hb a fr,w⟩
  ·rw[hs j hj];exact R.owns j t e
 ·rcases jL e1 with⟨rfl,hl,er⟩|⟨hj,ϋ⟩
  ·have er:=(sF er).symm;subst er;obtain⟨b,rfl,nf,fr,th,w⟩:=h.there rfl;rw[Tg hl]at s1;cases s1;rcases jL e2 with⟨rfl,_,_⟩|⟨hk,e2⟩;·rfl
   ·rw[hs k hk]at s2;exact absurd fr (Sh _ ⟨k,t',e2,s2⟩)
  ·rw[hs j hj]at s1;rcases jL e2 with⟨rfl,hl,er⟩|⟨hk,e2⟩;·have er:=(sF er).symm;subst er;obtain⟨b,rfl,nf,fr,th,w⟩:=h.there rfl;rw[Tg hl]at s2;cases s2;exact absurd fr (Sh _ ⟨j,t,ϋ,s1⟩)
   ·rw[hs k hk]at s2;exact R.sep j k t t' a ϋ e2 s1 s2
end
def zF(i:Nat)(m:ME):MS:=λenv=>match jR m env with|.ok (r,Sc)=>.nx (Sc.set i (b_ r))|.exc x=>.exc x env|.bad=>.bad
def zA(m:ME):MS:=λenv=>match jR m env with|.ok (r,_)=>.rt r|.exc x=>.exc x env|.bad=>.bad
def zD:MS:=λenv=>.nx env
def pq(i:Nat):MS:=λenv=>match env[i]? with|some (b_ r)=>.rt r|_=>.bad
def zn(a b:MS):MS:=λenv=>match a env with|.nx Sc=>b Sc|o=>o
section
variable{X:Cx}{e:A1}{st:A2}{rest:List A2}{m:ME}{ms mr:MS}{pos:Pos}
theorem zI:uL X [] zD:=⟨_,dG,λB F H σ env D R w=>w F H σ R⟩
theorem zj(h:eF X st ms):uL X [st] ms:=let⟨t,p,s⟩:=h;⟨t,pL p,s⟩
theorem zc(h:eF X st ms)(g:uL X rest mr):uL X (st::rest) (zn ms mr):=by obtain⟨t,p,s⟩:=h;obtain⟨u,p',s'⟩:=g;refine⟨_,kf p p',?_⟩;intro B F H σ env D R w;refine s B F H σ env _ R ?_;unfold zn at w;cases ho:ms env with|nx Sc=>rw[ho]at w;exactλF' H' σ' R'=>s' B F' H' σ' Sc D R' w|rt r=>rw[ho]at w;exact w|bk Sc=>rw[ho]at w;exact w|ct Sc=>rw[ho]at w;exact w|exc x Sc=>rw[ho]at w;exact w|bad=>rw[ho]at w;exact w
theorem zy(h:jb X e m):eF X (.Return (b_ e) pos) (zA m):=by
 obtain⟨t,p,s⟩:=h;refine⟨_,oG p,?_⟩;intro B F H σ env D R w;unfold zA at w;refine s.run R (λr Sc e v F' H' R' i _ _=>?_) (λx e ev F' H' R' i pins s' I=>?_) λe=>?_
 ·rw[e]at w;refine w v F' H' ⟨R'.fr,?_⟩;unfold kN at i⊢;split;·rename_i ho;rw[if_pos ho]at i;obtain⟨a,e,nf,fr,o⟩:=i;exact⟨a,e,nf,zK R.fr fr,o⟩
  ·rename_i ho;rw[if_neg ho]at i;exact i
 ·rw[e]at w;exact w ev F' H' σ R' i pins s' I
 ·rw[e]at w;exact w
theorem pR(i:Nat)(hN:X.N[i]?=b_ x:=by rfl)(hv:Yd X.env.scope x:=by first|exact AW rfl|exact Ae (AW rfl)|exact Ae (Ae rfl))(hd:(x==↑x)=a_:=by decide)(Sz:(x==("__classdict__":Str))=a_:=by decide):eF X (.Return (b_ (.Name x p2)) pos) (pq i):=by refine⟨_,oG (gv hN hv hd Sz),?_⟩;intro B F H σ env D R w;unfold pq at w;cases he:env[i]? with|none=>rw[he]at w;exact w.elim|some o=>cases o with|none=>rw[he]at w;exact w.elim|some r=>rw[he]at w;obtain⟨b,t⟩:=r;cases b with|false=>obtain⟨v,s,q⟩:=R.vals i t he;exact⟨v,s,w v F H ⟨R.fr,jj q⟩⟩|true=>obtain⟨a,s,nf,fr,o⟩:=R.owns i t he;refine⟨.ref a,s,w _ F H ⟨R.fr,?_⟩⟩;unfold kN;rw[if_pos rfl];exact⟨a,rfl,nf,fr,o⟩
theorem HA(hN:X.N.Nodup)(hi:X.N[i]?=b_ x)(hx:aV X.env.scope x)(h:jb X e m)(hs:BA e (b_ (.Name x SA)) pos.line X.env=pure a_:=by rfl)(hf:X.fn x=e_\/X.env.scope.names.lookup x=b_ .local:=by first|exact .inl rfl|exact .inr rfl|assumption):eF X (.Assign [.Name x SA] e pos) (zF i m):=by
 obtain⟨t,p,s⟩:=h;refine⟨_,Yn (i:=i) hN hi hx p hs hf,?_⟩;intro B F H σ env D R w;unfold zF at w;refine s.run R (λr Sc e v F' H' R' i' Sh _=>?_) (λx e ev F' H' R' i pins s' I=>?_) λe=>?_;·rw[e]at w;exact w F' H' _ (R'.put i i' (λa q=>zK R.fr q) Sh)
 ·rw[e]at w;exact w ev F' H' σ R' i pins s' I
 ·rw[e]at w;exact w
def xz(m:MT)(env:En):gd Bool:=match m (hide env)with
 |.bad=>match m env with|.exc x=>if clean env (a_,x.at_)=e_ then .exc x else .bad|o=>o
 |o=>o
theorem fD.run{t:TT}{m:MT}(h:fD X t m){B:Bs}{F:h_->Prop}{H:Hp}{σ:St}{env:En}{Q:Bool->Hp->Prop}(R:zN X.K B F H σ env)(ok:∀b,xz m env=.ok b->∀F' H',zN X.K B F' H' σ env->Q b H')(ex:∀x,xz m env=.exc x->∀ev F' H',zN X.K B F' H' σ env->KG X.K F' H' ev x->∀pins s',db X ev pins σ H' s'->X.xe ev s')(nb:xz m env≠.bad):t σ H Q:=by unfold xz at ok ex nb;cases hm:m (hide env)with|ok b=>rw[hm]at ok;exact h F H σ (hide env) Q R.hid (by rw[hm];intro z;cases z) (λr' e F' H' x=>by rw[hm]at e;cases e;exact ok b rfl F' H' (R.ext x)) λx z=>by rw[hm]at z;cases z|exc x=>rw[hm]at ex;exact h F H σ (hide env) Q R.hid (by rw[hm];intro z;cases z) (λr' e=>by rw[hm]at e;cases e) λx' z ev F' H' e i pins s' I=>by rw[hm]at z;cases z;exact ex x rfl ev F' H' (R.ext e) i pins s' I|bad=>rw[hm]at ok ex nb;dsimp only at ok ex nb;cases hm2:m env with|bad=>rw[hm2]at nb;exact absurd rfl nb|ok b=>rw[hm2]at ok;exact h _ H σ env Q R.opn (by rw[hm2];intro z;cases z) (λr' e F' H' x=>by rw[hm2]at e;cases e;exact ok b rfl _ H' (R.closed x).1) λx z=>by rw[hm2]at z;cases z|exc x=>
   rw[hm2]at ex nb;dsimp only at ex nb;by_cases hc:clean env (a_,x.at_)=e_;·rw[if_pos hc]at ex;refine h _ H σ env Q R.opn (by rw[hm2];intro z;cases z) (λr' e=>by rw[hm2]at e;cases e) λx' z ev F' H' e i pins s' I=>?_;rw[hm2]at z;cases z;have hc':=mK hc;obtain⟨R',e'⟩:=R.closed e;exact ex x rfl ev _ H' R' (i.imp λe0 q=>⟨q.1,Is.clean (R.cleans e) (λz=>Nc (hc'.1 z)) (λz=>Nd (hc'.2.1 z)) (λz=>Nf (hc'.2.2 z)) q.2⟩) pins s' I
   ·rw[if_neg hc]at nb;exact absurd rfl nb
def jU(c:MT)(a b:MS):MS:=λenv=>match xz c env with|.ok k=>if k=e_ then a env else b env|.exc x=>.exc x env|.bad=>.bad
theorem jp{c:A1}{a b:List A2}{mc:MT}{m1 m2:MS}(hc:ZG X c mc)(ha:uL X a m1)(hb:uL X b m2):eF X (.If c a b pos) (jU mc m1 m2):=by
 obtain⟨tc,pc,sc⟩:=hc;obtain⟨t1,p1,s1⟩:=ha;obtain⟨t2,p2,s2⟩:=hb;refine⟨_,K5 pc p1 p2,?_⟩;intro B F H σ env D R w;unfold jU at w;refine sc.run R (λk e F' H' R'=>?_) (λx e ev F' H' R' i pins s' I=>?_) λe=>?_;·rw[e]at w;cases k with|true=>rw[if_pos rfl];exact s1 B F' H' σ env D R' w|false=>rw[if_neg sM];exact s2 B F' H' σ env D R' w
 ·rw[e]at w;exact w ev F' H' σ R' i pins s' I
 ·rw[e]at w;exact w
def qm(c:MT)(b:MS):Nat->MS|0=>λ_=>.bad|n+1=>λenv=>match xz c env with|.ok k=>if k=e_ then(match b env with|.nx Sc=>qm c b n Sc|.ct Sc=>qm c b n Sc|.bk Sc=>.nx Sc|o=>o)else .nx env|.exc x=>.exc x env|.bad=>.bad
theorem lG(n:Nat)(hp:Rk ↑n X.A X.env X.xe)(hc:ZG X c mc)(hb:uL X body mb):eF X (.While c body [] pos) (qm mc mb n):=by obtain⟨tc,pc,sc⟩:=hc;obtain⟨tb,pb,sb⟩:=hb;refine⟨_,K7 hp pc pb,?_⟩;intro B F H σ env D R w;refine⟨λk σ H=>∃F env,zN X.K B F H σ env/\gg X B D (qm mc mb k env),⟨n,F,env,R,w⟩,?_⟩;rintro k σ H⟨F,env,R,w⟩;cases k with|zero=>exact w.elim|succ k=>
  unfold qm at w;refine sc.run R (λc e F' H' R'=>?_) (λx e ev F' H' R' i pins s' I=>?_) λe=>?_;·rw[e]at w;cases c with|false=>rw[if_neg sM];exact w F' H' σ R'|true=>rw[if_pos rfl];refine⟨λσ' H'=>∃F env,zN X.K B F H' σ' env/\gg X B D (qm mc mb k env),λσ' H' q=>⟨k,FJ _,q⟩,?_⟩;refine sb B F' H' σ env _ R' ?_;have w:gg X B D (match mb env with|.nx Sc=>qm mc mb k Sc|.ct Sc=>qm mc mb k Sc|.bk Sc=>.nx Sc|o=>o):=w;cases ho:mb env with|nx Sc=>rw[ho]at w;exactλF2 H2 σ2 R2=>⟨F2,Sc,R2,w⟩|ct Sc=>rw[ho]at w;exactλF2 H2 σ2 R2=>⟨F2,Sc,R2,w⟩|bk Sc=>rw[ho]at w;exact w|rt r=>rw[ho]at w;exact w|exc x Sc=>rw[ho]at w;exact w|bad=>rw[ho]at w;exact w
  ·rw[e]at w;exact w ev F' H' σ R' i pins s' I
  ·rw[e]at w;exact w
end
section
variable{K:d_}{B:Bs}{F F':h_->Prop}{H H':Hp}{σ:St}{env:En}{v:V}{r:RV}
theorem zN.mut(R:zN K B F H σ env)(e:env[i]?=b_ (b_ (e_,t)))(s:σ[i]?=b_ (b_ (.ref a)))(w:kh K F (zO H a o) a t'):zN K B F (zO H a o) σ (env.set i (b_ (e_,t'))):=by
 obtain⟨b,s',nf,fr,w0⟩:=R.owns i t e;rw[s]at s';cases s';have hi:i<env.length:=(sP.mp e).1;have ne:∀b,F b->b≠a:=λb f z=>nf (z▸f);have k:gx F F H (zO H a o):=by
  refine⟨λ_ h=>h,λb u f h=>by rw[zg (ne b f)];exact h,λb u h h1 h2=>?_⟩;have:b≠a:=by rintro rfl;cases t with|lst ts=>obtain⟨vs,q,_⟩:=w0;rw[h]at q;exact h1 vs (sF q)|dct ks ts=>obtain⟨vs,q,_⟩:=w0;rw[h]at q;exact h2.1 vs (sF q)|obj C fs ts=>obtain⟨dx,vs,q,_⟩:=w0;rw[h]at q;exact h2.2 C dx vs (sF q)|_=>exact w0.elim
  rw[zg this];exact h
 refine⟨⟨λb f=>?_,R.fr.sub,R.fr.new,λb u h hm=>?_,R.fr.f0⟩,by rw[AD];exact R.len,λj u h=>?_,λj u h=>?_,λj l u u' c e1 e2 s1 s2=>?_⟩;·rw[zg (ne b f)];exact R.fr.dom b f
 ·have:b≠a:=by
   rintro rfl;rcases fr with fr|fr;·rw[h]at fr;cases fr
   ·exact hm fr
  rw[zg this];exact R.fr.keep b u h hm
 ·rcases jL h with⟨rfl,_,z⟩|⟨hj,h⟩;·cases z
  ·obtain⟨x,sx,q⟩:=R.vals j u h;exact⟨x,sx,q.mono k⟩
 ·rcases jL h with⟨rfl,_,z⟩|⟨hj,h⟩
  ·have z:=sF z;have:u=t':=by injection z
   subst this;exact⟨a,s,nf,fr,w⟩
  ·obtain⟨b,sb,nfb,frb,wb⟩:=R.owns j u h;refine⟨b,sb,nfb,frb,wb.mono k λq hq=>?_⟩;have:b≠a:=by rintro rfl;exact hj (R.sep j i u t b h e sb s)
   rw[zg this];exact hq
 ·have ϋ:∃t,env[j]?=b_ (b_ (e_,t)):=by
   rcases jL e1 with⟨rfl,_,_⟩|⟨_,h⟩;·exact⟨t,e⟩
   ·exact⟨u,h⟩
  have Z':∃t,env[l]?=b_ (b_ (e_,t)):=by
   rcases jL e2 with⟨rfl,_,_⟩|⟨_,h⟩;·exact⟨t,e⟩
   ·exact⟨u',h⟩
  obtain⟨_,ϋ⟩:=ϋ;obtain⟨_,Z'⟩:=Z';exact R.sep j l _ _ c ϋ Z' s1 s2
theorem zN.freeze(R:zN K B F' H' σ env)(h:kN K (λa=>H a=f_) F' H' v r)(hb:∀a,H a=f_->B.H a=f_\/B.M a)(Sh:∀a,XZ σ env a->H a≠f_):∃F2,zN K B F2 H' σ env/\Is K F2 H' r.2 v/\∀a,F' a->F2 a:=by
 by_cases o:r.1=e_
 ·obtain⟨a,rfl,nf,fr,th,w⟩:=h.there o;have k:gx F' (λb=>F' b\/b=a) H' H':=⟨λb f=>.inl f,λ_ _ _ h=>h,λ_ _ h _ _=>h⟩;refine⟨λb=>F' b\/b=a,⟨⟨λb f=>?_,λb f=>.inl (R.fr.sub b f),λb f=>?_,R.fr.keep,R.fr.f0⟩,R.len,λj u q=>?_,λj u q=>?_,R.sep⟩,w.is (λb f=>.inl f) (.inr rfl),λb f=>.inl f⟩
  ·rcases f with f|rfl;·exact R.fr.dom b f
   ·exact th
  ·rcases f with f|rfl;·exact R.fr.new b f
   ·exact .inr (hb b fr)
  ·obtain⟨x,sx,q⟩:=R.vals j u q;exact⟨x,sx,q.mono k⟩
  ·obtain⟨b,sb,nfb,frb,wb⟩:=R.owns j u q;refine⟨b,sb,λz=>?_,frb,wb.mono k λ_ h=>h⟩;rcases z with z|rfl;·exact nfb z
   ·exact Sh b ⟨j,u,q,sb⟩ fr
 ·obtain⟨b,t⟩:=r;cases b with|true=>exact absurd rfl o|false=>exact⟨F',R,h.is,λ_ f=>f⟩
end
def nS(i:Nat)(m:ME):MS:=λenv=>match env[i]? with|some (b_ (e_,.lst _))=>(match jR m env with|.ok (r,Sc)=>(match Sc[i]? with|some (b_ (e_,.lst ts))=>if ↑c<j_ then .nx (Sc.set i (b_ (e_,.lst (ts++[r.2]))))else .bad|_=>.bad)|.exc x=>.exc x env|.bad=>.bad)|_=>.bad
def xi(nf:¬F a)(h:H a=b_ o)(ho:(∃xs,o=.lst xs)\/(∃xs,o=.dK xs)\/∃C d xs,o=.ins C d xs):gx F F H (zO H a u):=by
 refine⟨λ_ h=>h,λb q f h=>?_,λb q hq h1 h2=>?_⟩
 ·have:b≠a:=by rintro rfl;exact nf f
  rw[zg this];exact h
 ·have:b≠a:=by
   rintro rfl;rw[hq]at h;cases h;rcases ho with⟨xs,rfl⟩|⟨xs,rfl⟩|⟨C,d,xs,rfl⟩;·exact h1 xs rfl
   ·exact h2.1 xs rfl
   ·exact h2.2 C d xs rfl
  rw[zg this];exact hq
section
variable{X:Cx}{e ek:A1}{m mk mv:ME}{pos:Pos}
theorem eG{i:Nat}{st:A2}(he:jb X e m)(hp:∀te,PE X e te->PS X st (Zt (EG X.K "list" XM (xJ i) (XH te P7)))):eF X st (nS i m):=by
 obtain⟨te,pe,se⟩:=he;refine⟨_,hp te pe,?_⟩;intro B F H σ env D R w;unfold nS at w;split at w
 ·rename_i υ hi;obtain⟨a,s,nf,fr,vs,hH,iv⟩:=R.owns i _ hi;refine⟨.ref a,s,.inl ⟨rfl,vs,.inl (.inl hH)⟩,?_⟩;refine se.run R (λr Sc er v F' H' R' iv' Sh kp=>?_) (λx er ev F' H' R' ix pins s' I=>?_) λer=>?_
  ·rw[er]at w;dsimp only at w;split at w
   ·rename_i ts' Sr;split at w;·rename_i hl;obtain⟨F2,R2,i2,_⟩:=R'.freeze iv' (λa q=>zK R.fr q) Sh;obtain⟨a',s',TY,γ,T3,hH',iv2⟩:=R2.owns i _ Sr;rw[s]at s';cases s';refine⟨a,T3,v,rfl,rfl,hH',by rw[<-iv2.len];exact hl,?_⟩;refine w F2 _ σ (R2.mut Sr s ⟨T3++[v],zm,?_⟩);exact(iv2.append (IsAll.cons i2 IsAll.nil)).mono (xi TY hH' (.inl ⟨_,rfl⟩))
    ·exact w.elim
   ·exact w.elim
  ·rw[er]at w;exact w ev F' H' σ R' ix pins s' I
  ·rw[er]at w;exact w
 ·exact w.elim
def Q4(i:Nat):MS:=λenv=>match env[i]? with|some (b_ (e_,.lst ts))=>if ts=[]then .bad else .nx (env.set i (b_ (e_,.lst ts.dropLast)))|_=>.bad
instance(ts:List T):Decidable (ts=[]):=by cases ts with|nil=>exact .isTrue rfl|cons _ _=>exact .isFalse (by intro z;cases z)
theorem IsAll.dropLast{K:d_}{F:h_->Prop}{H:Hp}{ts:List T}{vs:List V}(h:IsAll K F H ts vs):IsAll K F H ts.dropLast vs.dropLast:=by rw[List.dropLast_eq_take,List.dropLast_eq_take,<-h.len];exact h.take _
theorem MW{i:Nat}{st:A2}(hp:PS X st (Zt (Hk X.K "list" Hl (xJ i)))):eF X st (Q4 i):=by
 refine⟨_,hp,?_⟩;intro B F H σ env D R w;unfold Q4 at w;split at w
 ·rename_i υ hi;obtain⟨a,s,nf,fr,vs,hH,iv⟩:=R.owns i _ hi;split at w;·exact w.elim
  ·rename_i TX;have hl:=iv.len;have hv:0<↑g:=by cases υ with|nil=>exact absurd rfl TX|cons _ _=>rw[<-hl];simp
   refine⟨.ref a,s,.inl ⟨rfl,vs,.inl (.inl hH)⟩,a,vs,vs[↑g-1],rfl,rfl,hH,by simp[hv],w F _ σ (R.mut hi s ⟨vs.dropLast,zm,?_⟩)⟩;exact iv.dropLast.mono (xi nf hH (.inl ⟨_,rfl⟩))
 ·exact w.elim
def gC(i:Nat)(mk mv:ME):MS:=λenv=>match jR mv env with|.ok (r,Sy)=>(match Sy[i]? with|some (b_ (e_,.lst _))=>(match jR mk Sy with|.ok (k,Sm)=>(match Sm[i]?,k.2 with|some (b_ (e_,.lst ts)),.int k=>(match XJ ↑c k with|some j=>.nx (Sm.set i (b_ (e_,.lst (ts.set j r.2))))|none=>.bad)|_,_=>.bad)|.exc x=>.exc x Sy|.bad=>.bad)|_=>.bad)|.exc x=>.exc x env|.bad=>.bad
theorem rh{i:Nat}{st:A2}(hk:jb X ek mk)(hv:jb X e mv)(hp:∀tk te,PE X ek tk->PE X e te->PS X st (oH te (IU (xJ i) tk N5))):eF X st (gC i mk mv):=by
 obtain⟨tk,pk,sk⟩:=hk;obtain⟨te,pe,se⟩:=hv;refine⟨_,hp tk te pk pe,?_⟩;intro B F H σ env D R w;unfold gC at w;refine se.run R (λr Sy er v F1 H1 R1 iv1 ζ kp1=>?_) (λx er ev F' H' R' ix pins s' I=>?_) λer=>?_
 ·rw[er]at w;dsimp only at w;obtain⟨F2,R2,i2,_⟩:=R1.freeze iv1 (λa q=>zK R.fr q) ζ;split at w
  ·rename_i υ hi;obtain⟨a,s,nf,fr,vs,hH,iv⟩:=R2.owns i _ hi;refine⟨.ref a,s,?_⟩;refine sk.run R2 (λk Sm er2 vk F3 H3 R3 iv3 old3 kp3=>?_) (λx er ev F' H' R' ix pins s' I=>?_) λer=>?_
   ·rw[er2]at w;dsimp only at w;split at w
    ·rename_i x1 ts kk Sr To;split at w
     ·rename_i j hj;obtain⟨a',s',TY,γ,T3,hH',iv2⟩:=R3.owns i _ Sr;rw[s]at s';cases s';obtain⟨bk,S'⟩:=k;dsimp only at To;subst To;have:vk=.int kk:=by cases bk with|false=>have:=iv3.is;unfold Is at this;exact this|true=>obtain⟨_,_,_,_,_,w'⟩:=iv3.there rfl;exact w'.elim
      refine⟨a,T3,kk,j,rfl,this,hH',by rw[<-iv2.len];exact hj,?_⟩;refine w F3 _ σ (R3.mut Sr s ⟨T3.set j v,zm,?_⟩);exact(iv2.set j (i2.mono kp3)).mono (xi TY hH' (.inl ⟨_,rfl⟩))
     ·exact w.elim
    ·exact w.elim
   ·rw[er]at w;exact w ev F' H' σ R' ix pins s' I
   ·rw[er]at w;exact w
  ·exact w.elim
 ·rw[er]at w;exact w ev F' H' σ R' ix pins s' I
 ·rw[er]at w;exact w
def W0(k:Key)(t:T):List Key->List T->List T|x::ks,u::ts=>(if x=k then t else u)::W0 k t ks ts|_,_=>[]
def uM(ks:List Key)(ts:List T)(k:Key)(t:T):T:=if ks.any (λx=>decide (x=k))=e_ then .dct ks (W0 k t ks ts)else .dct (ks++[k]) (ts++[t])
theorem cG{K:d_}{F:h_->Prop}{H H':Hp}{a:h_}{ks:List Key}{ts:List T}{kvs:List (Key×V)}{k:Key}{t:T}{v:V}(hk:kvs.map (·.1)=ks)(i:IsAll K F H ts (kvs.map (·.2)))(iv:Is K F H t v)(kp:gx F F H H')(hH:H' a=b_ (.dK (k7 kvs k v))):kh K F H' a (uM ks ts k t):=by
 unfold uM;have TM:ks.any (λx=>decide (x=k))=kvs.any λkv=>decide (kv.1=k):=by rw[<-hk,List.any_map];rfl
 by_cases h:ks.any (λx=>decide (x=k))=e_
 ·rw[if_pos h];rw[TM]at h;have e:k7 kvs k v=kvs.map λkv=>if kv.1=k then(kv.1,v)else kv:=by unfold k7;rw[if_pos h]
  refine⟨_,hH,?_,?_⟩;·rw[e,<-hk,Aa];refine Oa λkv _=>?_;show(if kv.1=k then(kv.1,v)else kv).1=kv.1;split<;>rfl
  ·rw[e];have:∀{kvs:List (Key×V)}{ks:List Key}{ts:List T},kvs.map (·.1)=ks->IsAll K F H ts (kvs.map (·.2))->IsAll K F H (W0 k t ks ts) ((kvs.map λkv=>if kv.1=k then(kv.1,v)else kv).map (·.2)):=by intro kvs;induction kvs with
    |nil=>intro ks ts hk i;subst hk;cases ts with|nil=>exact IsAll.nil|cons _ _=>unfold IsAll at i;obtain⟨_,_,z,_⟩:=i;cases z
    |cons kv kvs ih=>intro ks ts hk i;subst hk;cases ts with|nil=>unfold IsAll at i;cases i|cons u ts=>
      unfold IsAll at i;obtain⟨v',r,z,i1,i2⟩:=i;cases z;show IsAll K F H ((if kv.1=k then t else u)::W0 k t (kvs.map (·.1)) ts) ((if kv.1=k then(kv.1,v)else kv).2::_);refine IsAll.cons ?_ (ih rfl i2);split;·exact iv
      ·exact i1
   exact(this hk i).mono kp
 ·rw[if_neg h];rw[TM]at h;have e:k7 kvs k v=kvs++[(k,v)]:=by unfold k7;rw[if_neg h]
  refine⟨_,hH,by rw[e,sL,hk];rfl,?_⟩;rw[e,sL];exact(i.append (IsAll.cons iv IsAll.nil)).mono kp
def uj(i:Nat)(mk mv:ME):MS:=λenv=>match jR mv env with|.ok (r,Sy)=>(match Sy[i]? with|some (b_ (e_,.dct _ _))=>(match jR mk Sy with|.ok (k,Sm)=>(match Sm[i]?,lC k.2 with|some (b_ (e_,.dct ks ts)),b_ k=>if ks.length<j_ then .nx (Sm.set i (b_ (e_,uM ks ts k r.2)))else .bad|_,_=>.bad)|.exc x=>.exc x Sy|.bad=>.bad)|_=>.bad)|.exc x=>.exc x env|.bad=>.bad
theorem W1{K:d_}{fr F:h_->Prop}{H:Hp}{v:V}{r:RV}{k:Key}(h:kN K fr F H v r)(e:lC r.2=b_ k):v=kV k:=by obtain⟨b,t⟩:=r;cases b with
 |true=>obtain⟨_,_,_,_,_,w⟩:=h.there rfl;cases t<;>first|exact w.elim|cases e
 |false=>
  have h:=h.is;cases t<;>simp only[lC,reduceCtorEq,AK]at e;case int i=>subst e;unfold Is at h;exact h
  case str i=>subst e;unfold Is at h;exact h
theorem cH{i:Nat}{st:A2}(hk:jb X ek mk)(hv:jb X e mv)(hp:∀tk te,PE X ek tk->PE X e te->PS X st (tq (xJ i) tk te)):eF X st (uj i mk mv):=by
 obtain⟨tk,pk,sk⟩:=hk;obtain⟨te,pe,se⟩:=hv;refine⟨_,hp tk te pk pe,?_⟩;intro B F H σ env D R w;unfold uj at w;refine se.run R (λr Sy er v F1 H1 R1 iv1 ζ kp1=>?_) (λx er ev F' H' R' ix pins s' I=>?_) λer=>?_
 ·rw[er]at w;dsimp only at w;obtain⟨F2,R2,i2,_⟩:=R1.freeze iv1 (λa q=>zK R.fr q) ζ;split at w
  ·rename_i ks0 υ hi;obtain⟨a,s,nf,fr,vs,hH,hk0,iv⟩:=R2.owns i _ hi;refine⟨.ref a,s,?_⟩;refine sk.run R2 (λk Sm er2 vk F3 H3 R3 iv3 old3 kp3=>?_) (λx er ev F' H' R' ix pins s' I=>?_) λer=>?_
   ·rw[er2]at w;dsimp only at w;split at w
    ·rename_i x1 x2 ks ts kk Sr To;split at w
     ·rename_i hl;obtain⟨a',s',TY,γ,kvs,hH',hks,iv2⟩:=R3.owns i _ Sr;rw[s]at s';cases s';have hv:=W1 iv3 To;subst hv;have hlen:kvs.length<j_:=by rw[<-hks,j']at hl;exact hl
      refine⟨a,_,rfl,YG.k hH' hlen,?_⟩;exact w F3 _ σ (R3.mut Sr s (cG hks iv2 (i2.mono kp3) (xi TY hH' (.inr (.inl ⟨_,rfl⟩))) zm))
     ·exact w.elim
    ·exact w.elim
   ·rw[er]at w;exact w ev F' H' σ R' ix pins s' I
   ·rw[er]at w;exact w
  ·exact w.elim
 ·rw[er]at w;exact w ev F' H' σ R' ix pins s' I
 ·rw[er]at w;exact w
def uN:ME:=λ_=>.ok (e_,.dct [] [])
theorem cI:jb X (.Dict [] [] pos) uN:=by refine⟨_,cp,?_⟩;intro F H σ env Q R nb ok ex;intro p hp;have x:=jB.alloc R.dom (o:=.dK []) hp;refine ok _ rfl _ F _ x ?_;unfold kN;rw[if_pos rfl];exact⟨p,rfl,λf=>R.dom p f hp,hp,[],zm,rfl,IsAll.nil⟩
def V6(i:Nat)(f:T->T->Option RV)(m:ME):MS:=λenv=>match env[i]? with|some (b_ (a_,t))=>(match jR m env with|.ok (r,Sc)=>(match f t r.2 with|some (a_,u)=>.nx (Sc.set i (b_ (a_,u)))|_=>.bad)|.exc x=>.exc x env|.bad=>.bad)|_=>.bad
def MX(X:Cx)(op:Operator)(f:T->T->Option RV):Prop:=Cu X op λx y H Q=>∃F tx ty u,aq F H/\Is X.K F H tx x/\Is X.K F H ty y/\f tx ty=b_ (a_,u)/\∀v F' H',jB F H F' H'->Is X.K F' H' u v->Q v H'
end
def ZT:T->T->Option RV|.int i,.int j=>b_ (a_,.int (i+j))|.str x,.str y=>if x.length+y.length<=j_ then b_ (a_,.str (x++y))else f_|_,_=>f_
def rm:MX X .Add ZT:=by
 intro pins s σ H x y v u Q I rx ry h;obtain⟨F,tx,ty,w,d,ix,iy,e,q⟩:=h;cases tx<;>cases ty<;>simp only[ZT,reduceCtorEq]at e;case int.int i j=>unfold Is at ix iy;subst ix iy;cases e;obtain⟨t,rfl⟩:=rx;obtain⟨t',rfl⟩:=ry;exact iadd_int ⟨.int _,H,I.tok _,⟨_,rfl⟩,q _ F H (.refl d) xL⟩
 case str.str i j=>unfold Is at ix iy;subst ix iy;split at e<;>cases e;rename_i hl;obtain⟨t,rfl⟩:=rx;obtain⟨t',rfl⟩:=ry;exact iadd_str (λt' tk=>⟨.str _,H,I.tok _,⟨_,rfl⟩,q _ F H (.refl d) gy⟩) hl
def HB(ho:MX X op f)(hN:X.N.Nodup)(hi:X.N[i]?=b_ x)(hx:aV X.env.scope x)(h:jb X e m)(hf:X.fn x=e_\/X.env.scope.names.lookup x=b_ .local:=by first|exact .inl rfl|exact .inr rfl|assumption):eF X (.AugAssign (.Name x SA) op e pos) (V6 i f m):=by
 obtain⟨te,pe,se⟩:=h;refine⟨_,M5 hN hi hx pe ho hf,?_⟩;intro B F H σ env D R w;unfold V6 at w;split at w
 ·rename_i t Sr;obtain⟨v0,s0,q0⟩:=R.vals i t Sr;refine⟨v0,s0,?_⟩;refine se.run R (λr Sc er v F' H' R' iv' Sh kp=>?_) (λx er ev F' H' R' ix pins s' I=>?_) λer=>?_
  ·rw[er]at w;dsimp only at w;split at w;·rename_i u hu;obtain⟨F2,R2,i2,s2⟩:=R'.freeze iv' (λa q=>zK R.fr q) Sh;have q1:Is X.K F2 H' t v0:=(q0.mono kp).mono ⟨s2,λ_ _ _ h=>h,λ_ _ h _ _=>h⟩;refine⟨F2,t,r.2,u,R2.fr.dom,q1,i2,hu,λv' F3 H3 x3 i3=>?_⟩;have R3:=R2.ext x3;exact w F3 H3 _ (R3.put i (jj i3) (λa q=>zK R3.fr q) λa z=>(R3.own_not z).2.1)
   ·exact w.elim
  ·rw[er]at w;exact w ev F' H' σ R' ix pins s' I
  ·rw[er]at w;exact w
 ·exact w.elim
def uO:T->Option (List T)|.lst ts=>b_ ts|.tup ts=>b_ ts|.str z=>b_ (z.cps.toList.map λc=>.str ⟨#[c]⟩)|_=>f_
def uP(K:d_)(F:h_->Prop)(H:Hp)(J:It)(ts:List T):Prop:=∀F2 H2,gx F F2 H H2->∀i:Nat,(i<↑c->J.go i H2/\∀x H3,J.yld i H2 x H3->H3=H2/\∃t,ts[i]?=b_ t/\Is K F2 H2 t x)/\(↑c<=i->J.stop i H2)
abbrev MI:=En->gd (List T×En)
def DB(X:Cx)(wi:TI)(it:MI):Prop:=∀(B:Bs)(F:h_->Prop)(H:Hp)(σ:St)(env:En)(R:It->Hp->Prop),zN X.K B F H σ env->it env≠.bad->(∀ts Sc,it env=.ok (ts,Sc)->∀J F' H',zN X.K B F' H' σ Sc->uP X.K F' H' J ts->R J H')->(∀x,it env=.exc x->∀ev F' H',zN X.K B F' H' σ env->KG X.K F' H' ev x->∀pins s',db X ev pins σ H' s'->X.xe ev s')->wi σ H R
def DC(X:Cx)(tg Sd:A1)(it:MI):Prop:=∃wi,PI X tg Sd wi/\DB X wi it
def DD(K:d_)(tl:TE):TI:=λσ H R=>N3 K tl σ H R\/IV K tl σ H R\/Hs tl σ H R
def Q5(h:PE X e tl):PI X tg e (DD X.K tl):=by
 intro pins s σ H R I w;rcases w with w|w|w;·exact GU h pins s σ H R I w
 ·exact M7 h pins s σ H R I w
 ·exact MP h pins s σ H R I w
def cJ{K:d_}{F:h_->Prop}{H:Hp}{a:h_}{vs:List V}{ts:List T}(g1:lq K H a vs)(g2:IsAll K F H ts vs):uP K F H (Dd K a) ts:=by intro F2 H2 k i;have h1:=cy g1 k.rest;have h2:=g2.mono k;have hl:=h2.len;refine⟨λhi=>⟨⟨vs,vs[i],h1,by simp[<-hl,hi]⟩,λx H3 y=>⟨y.1,?_⟩⟩,λhi=>⟨vs,h1,by omega⟩⟩;have hx:=y.2 vs h1;obtain⟨v,hv,iv⟩:=h2.get (i:=i) (t:=ts[i]) (by simp[hi]);rw[hx]at hv;cases hv;exact⟨ts[i],by simp[hi],iv⟩
def cK{K:d_}{F:h_->Prop}{H:Hp}{z:Str}:uP K F H (EI z) (z.cps.toList.map λc=>.str ⟨#[c]⟩):=by
 intro F2 H2 k i;have hl:(z.cps.toList.map λc=>T.str ⟨#[c]⟩).length=z.length:=by simp[Str.length]
 rw[hl];refine⟨λhi=>⟨hi,λx H3 y=>?_⟩,λhi=>hi⟩;obtain⟨e,c,hc,rfl⟩:=y;refine⟨e,.str ⟨#[c]⟩,?_,gy⟩;rw[sI];have:z.cps.toList[i]?=b_ c:=by simpa using hc
 rw[this];rfl
def YU(m:ME):MI:=λenv=>match jR m env with|.ok (r,Sc)=>(match uO r.2 with|some ts=>.ok (ts,Sc)|none=>.bad)|.exc x=>.exc x|.bad=>.bad
def PJ(h:jb X e m):DC X tg e (YU m):=by obtain⟨tl,pl,sl⟩:=h;refine⟨_,Q5 pl,?_⟩;intro B F H σ env R RS nb ok ex;unfold YU at nb ok ex;cases hr:jR m env with|bad=>rw[hr]at nb;exact absurd rfl nb|exc x=>rw[hr]at ex;refine .inl (sl.run RS (λr Sc er=>by rw[hr]at er;cases er) (λx' er ev F' H' R' i pins s' I=>?_) (by rw[hr];intro z;cases z));rw[hr]at er;cases er;exact ex x rfl ev F' H' R' i pins s' I|ok q=>
  obtain⟨r,Sc⟩:=q;rw[hr]at nb ok;dsimp only at nb ok;have noex:∀x,jR m env=.exc x->False:=λx z=>by rw[hr]at z;cases z
  have ν:jR m env≠.bad:=by rw[hr];intro z;cases z
  cases hi:uO r.2 with|none=>rw[hi]at nb;exact absurd rfl nb|some ts=>
   rw[hi]at ok;obtain⟨o,t⟩:=r;dsimp only at hi;cases t<;>simp only[uO,reduceCtorEq,AK]at hi;case lst us=>subst hi;refine .inl (sl.run RS (λr Sy er v F' H' R' iv Sh kp=>?_) (λx er=>(noex x er).elim) ν);rw[hr]at er;cases er;obtain⟨F2,R2,i2,_⟩:=R'.freeze iv (λa q=>zK RS.fr q) Sh;have i2':=i2;unfold Is at i2;obtain⟨a,vs,rfl,g1,g2⟩:=i2;refine⟨a,rfl,⟨vs,g1.sq⟩,ok _ _ rfl _ F2 H' R2 ?_⟩;intro F3 H3 k i;have h1:=g1.mono k;have h2:=g2.mono k;have hl:=h2.len;refine⟨λhi=>⟨⟨vs,vs[i],h1.sq,by simp[<-hl,hi]⟩,λx H4 y=>⟨y.1,?_⟩⟩,λhi=>⟨vs,h1.sq,by omega⟩⟩;have hx:=y.2 vs h1.sq;obtain⟨v,hv,iv⟩:=h2.get (i:=i) (t:=us[i]) (by simp[hi]);rw[hx]at hv;cases hv;exact⟨us[i],by simp[hi],iv⟩
   case tup us=>subst hi;refine .inr (.inl (sl.run RS (λr Sy er v F' H' R' iv Sh kp=>?_) (λx er=>(noex x er).elim) ν));rw[hr]at er;cases er;obtain⟨F2,R2,i2,_⟩:=R'.freeze iv (λa q=>zK RS.fr q) Sh;unfold Is at i2;obtain⟨a,vs,rfl,g1,g2⟩:=i2;exact⟨a,rfl,⟨vs,g1⟩,ok _ _ rfl _ F2 H' R2 (cJ g1 g2)⟩
   case str z=>subst hi;refine .inr (.inr (sl.run RS (λr Sy er v F' H' R' iv Sh kp=>?_) (λx er=>(noex x er).elim) ν));rw[hr]at er;cases er;obtain⟨F2,R2,i2,_⟩:=R'.freeze iv (λa q=>zK RS.fr q) Sh;unfold Is at i2;exact⟨z,i2,ok _ _ rfl _ F2 H' R2 cK⟩
def zN.frz1{K:d_}{B:Bs}{F:h_->Prop}{H:Hp}{σ:St}{env:En}(R:zN K B F H σ env){i:Nat}{r:RV}(e:env[i]?=b_ (b_ r)):∃F2 v,zN K B F2 H σ (env.set i (b_ (a_,r.2)))/\σ[i]?=b_ (b_ v)/\Is K F2 H r.2 v:=by
 obtain⟨b,t⟩:=r;have hi:i<env.length:=(sP.mp e).1
 cases b with|false=>
  obtain⟨v,s,q⟩:=R.vals i t e;refine⟨F,v,?_,s,q⟩;have:env.set i (b_ (a_,t))=env:=by
   apply List.ext_getElem?;intro j;by_cases hj:j=i;·subst hj;rw[Ay hi,e]
   ·rw[AL (AE hj)]
  rw[this];exact R|true=>
  obtain⟨a,s,nf,fr,w⟩:=R.owns i t e;have k:gx F (λb=>F b\/b=a) H H:=⟨λb f=>.inl f,λ_ _ _ h=>h,λ_ _ h _ _=>h⟩;refine⟨λb=>F b\/b=a,.ref a,⟨⟨λb f=>?_,λb f=>.inl (R.fr.sub b f),λb f=>?_,R.fr.keep,R.fr.f0⟩,by rw[AD];exact R.len,λj u h=>?_,λj u h=>?_,λj l u u' c e1 e2 s1 s2=>?_⟩,s,w.is (λb f=>.inl f) (.inr rfl)⟩
  ·rcases f with f|rfl;·exact R.fr.dom b f
   ·exact w.there
  ·rcases f with f|rfl;·exact R.fr.new b f
   ·exact .inr fr
  ·rcases jL h with⟨rfl,_,z⟩|⟨hj,h⟩
   ·have:u=t:=by have:=sF z;injection this
    subst this;exact⟨.ref a,s,w.is (λb f=>.inl f) (.inr rfl)⟩
   ·obtain⟨x,sx,q⟩:=R.vals j u h;exact⟨x,sx,q.mono k⟩
  ·rcases jL h with⟨rfl,_,z⟩|⟨hj,h⟩;·cases z
   ·obtain⟨b,sb,nfb,frb,wb⟩:=R.owns j u h;refine⟨b,sb,λz=>?_,frb,wb.mono k λ_ h=>h⟩;rcases z with z|rfl;·exact nfb z
    ·exact hj (R.sep j i u t b h e sb s)
  ·rcases jL e1 with⟨rfl,_,z⟩|⟨hj,h1⟩;·cases z
   ·rcases jL e2 with⟨rfl,_,z⟩|⟨hl,h2⟩;·cases z
    ·exact R.sep j l u u' c h1 h2 s1 s2
def mL(lo:Int)(n:Nat):List T:=(t_ n).map λ(i:Nat)=>.int (lo+i)
def cL{K:d_}{F:h_->Prop}{H:Hp}{lo:Int}{n:Nat}:uP K F H (EF lo n) (mL lo n):=by
 intro F2 H2 k i;have hl:(mL lo n).length=n:=by simp[mL]
 rw[hl];refine⟨λhi=>⟨hi,λx H3 y=>⟨y.1,.int (lo+i),?_,?_⟩⟩,λhi=>hi⟩;·simp[mL,hi]
 ·rw[y.2];exact xL
def YV(m:MA)(env:En):gd (List T):=match m (hide env)with|.ok rs=>.ok (rs.map (·.2))|.exc x=>.exc x|.bad=>match m env with|.ok rs=>.ok (rs.map (·.2))|.exc x=>if clean env (a_,x.at_)=e_ then .exc x else .bad|.bad=>.bad
def YT.run{t:TA}{m:MA}(h:YT X t m){B:Bs}{F:h_->Prop}{H:Hp}{σ:St}{env:En}{Q:List V->Hp->Prop}(R:zN X.K B F H σ env)(js:List Int)(hj:YV m env=.ok (js.map T.int))(ok:∀F' H',zN X.K B F' H' σ env->Q (js.map V.int) H'):t σ H Q:=by
 have allInts:∀{F:h_->Prop}{H:Hp}{js:List Int}{vs:List V},IsAll X.K F H (js.map T.int) vs->vs=js.map V.int:=by intro F H js;induction js with|nil=>intro vs h;unfold IsAll at h;exact h|cons j js ih=>intro vs h;rw[sG]at h;unfold IsAll at h;obtain⟨v,r,rfl,h1,h2⟩:=h;unfold Is at h1;rw[h1,ih h2];rfl
 unfold YV at hj;cases hm:m (hide env)with|ok rs=>
  rw[hm]at hj;have hj:rs.map (·.2)=js.map T.int:=by injection hj
  refine h F H σ (hide env) Q R.hid (by rw[hm];intro z;cases z) (λr' e vs F' H' x i=>?_) λx z=>by rw[hm]at z;cases z
  rw[hm]at e;cases e;obtain⟨F2,x2,_,i2⟩:=i.frz x;rw[hj]at i2;rw[allInts i2];exact ok F2 H' (R.ext x2)|exc x=>rw[hm]at hj;cases hj|bad=>rw[hm]at hj;dsimp only at hj;cases hm2:m env with|bad=>rw[hm2]at hj;cases hj|exc x=>rw[hm2]at hj;dsimp only at hj;split at hj<;>cases hj|ok rs=>
   rw[hm2]at hj;have hj:rs.map (·.2)=js.map T.int:=by injection hj
   refine h _ H σ env Q R.opn (by rw[hm2];intro z;cases z) (λr' e vs F' H' x i=>?_) λx z=>by rw[hm2]at z;cases z
   rw[hm2]at e;cases e;obtain⟨F2,x2,_,i2⟩:=i.frz x;rw[hj]at i2;rw[allInts i2];exact ok _ H' (R.closed x2).1
def gD(m:MA):MI:=λenv=>match YV m env with|.ok [.int j]=>if-(2^62)<=j/\j<2^62 then .ok (mL 0 j.toNat,env)else .bad|_=>.bad
def uQ(hg:Gl X "range")(hm:X.mg "range"=f_)(ha:Yi X [a] ma)(hs:p_ [a] X.env=[(a_,x_ a X.env)]:=by rfl):DC X tg (.Call (.Name "range" p) [a] [] pos) (gD ma):=by
 obtain⟨ta,pa,sa⟩:=ha;refine⟨_,aW hg hm pa hs,?_⟩;intro B F H σ env R RS nb ok ex;unfold gD at nb ok ex;split at nb
 ·rename_i j hj;split at nb;·rename_i hb;rw[hj]at ok;dsimp only at ok;rw[if_pos hb]at ok;exact sa.run RS [j] hj λF' H' R'=>⟨j,rfl,hb.1,hb.2,ok _ _ rfl _ F' H' R' cL⟩
  ·exact absurd rfl nb
 ·exact absurd rfl nb
abbrev MG:=T->En->Option En
def V7(X:Cx)(g:TG)(tg:MG):Prop:=∀(B:Bs)(F:h_->Prop)(H:Hp)(σ:St)(env Sc:En)(v:V)(t:T)(Q:St->Hp->Prop),zN X.K B F H σ env->Is X.K F H t v->tg t env=b_ Sc->(∀σ',zN X.K B F H σ' Sc->Q σ' H)->g v σ H Q
def VW(X:Cx)(e:A1)(tg:MG):Prop:=∃g,PG X e g/\V7 X g tg
def gN(i:Nat):MG:=λt env=>b_ (env.set i (b_ (a_,t)))
def PK(hN:X.N.Nodup)(hi:X.N[i]?=b_ x)(hx:aV X.env.scope x)(hf:X.fn x=e_\/X.env.scope.names.lookup x=b_ .local:=by first|exact .inl rfl|exact .inr rfl|assumption):VW X (.Name x pos) (gN i):=by refine⟨_,pM hN hi hx hf,?_⟩;intro B F H σ env Sc v t Q R iv e q;cases e;exact q _ (R.put i (jj iv) (λa q=>zK R.fr q) λa z=>(R.own_not z).2.1)
def jv(tg:MG)(mb:MS):List T->MS|[],env=>.nx env|t::ts,env=>match tg t env with|none=>.bad|some e1=>match mb e1 with|.nx e2=>jv tg mb ts e2|.ct e2=>jv tg mb ts e2|.bk e2=>.nx e2|o=>o
def kj(it:MI)(tg:MG)(mb:MS):MS:=λenv=>match it env with|.ok (ts,Sc)=>jv tg mb ts Sc|.exc x=>.exc x env|.bad=>.bad
def Bs.at_(B:Bs)(F:h_->Prop)(H:Hp):Bs:=⟨λa=>¬F a/\((∃xs,H a=b_ (.lst xs))\/(∃xs,H a=b_ (.dK xs))\/∃C d xs,H a=b_ (.ins C d xs))/\(B.H a=f_\/B.M a),H,F⟩
section
variable{K:d_}{B:Bs}{F F1:h_->Prop}{H H1:Hp}{σ:St}{env:En}{v:V}{r:RV}
theorem zN.rebase(R:zN K B F H σ env):zN K (B.at_ F H) F H σ env:=⟨⟨R.fr.dom,λ_ h=>h,λ_ h=>.inl h,λ_ _ h _=>h,λa f m=>m.1 f⟩,R.len,R.vals,λi t e=>by obtain⟨a,s,nf,fr,w⟩:=R.owns i t e;refine⟨a,s,nf,.inr ⟨nf,?_,fr⟩,w⟩;cases t with|lst ts=>obtain⟨vs,q,_⟩:=w;exact .inl ⟨vs,q⟩|dct ks ts=>obtain⟨vs,q,_⟩:=w;exact .inr (.inl ⟨vs,q⟩)|obj C fs ts=>obtain⟨dx,vs,q,_⟩:=w;exact .inr (.inr ⟨_,dx,vs,q⟩)|_=>exact w.elim,R.sep⟩
theorem m5.unbase(f1:m5 B F1 H1)(f:m5 (B.at_ F1 H1) F H):m5 B F H:=by
 refine⟨f.dom,λa h=>f.sub a (f1.sub a h),λa h=>?_,λa o h hm=>f.keep a o (f1.keep a o h hm) λz=>?_,f1.f0⟩
 ·rcases f.new a h with h|h|h;·exact f1.new a h
  ·exact .inr (zK f1 h)
  ·exact .inr h.2.2
 ·rcases z.2.2 with z|z;·rw[h]at z;cases z
  ·exact hm z
theorem cM(f1:m5 B F1 H1)(h:(B.at_ F1 H1).H a=f_\/(B.at_ F1 H1).M a):B.H a=f_\/B.M a:=by
 rcases h with h|h;·exact zK f1 h
 ·exact h.2.2
theorem zN.unbase(f1:m5 B F1 H1)(R:zN K (B.at_ F1 H1) F H σ env):zN K B F H σ env:=⟨f1.unbase R.fr,R.len,R.vals,λi t e=>let⟨a,s,nf,fr,w⟩:=R.owns i t e;⟨a,s,nf,cM f1 fr,w⟩,R.sep⟩
theorem ZO.unbase(f1:m5 B F1 H1)(R:ZO K (B.at_ F1 H1) F H v r):ZO K B F H v r:=by
 refine⟨f1.unbase R.fr,?_⟩;have i:=R.val;unfold kN at i⊢;split;·rename_i ho;rw[if_pos ho]at i;obtain⟨a,e,nf,fr,o⟩:=i;exact⟨a,e,nf,cM f1 fr,o⟩
 ·rename_i ho;rw[if_neg ho]at i;exact i
theorem m5.kept(f:m5 (B.at_ F1 H1) F H):gx F1 F H1 H:=⟨f.sub,λa o h e=>f.keep a o e λz=>z.1 h,λa o e h1 h2=>f.keep a o e λz=>by
  rcases z.2.1 with⟨xs,q⟩|⟨xs,q⟩|⟨C,d,xs,q⟩;·rw[e]at q;exact h1 xs (sF q)
  ·rw[e]at q;exact h2.1 xs (sF q)
  ·rw[e]at q;exact h2.2 C d xs (sF q)⟩
end
def lH(hp:Rk ↑n X.A X.env X.xe)(hc:X.calm=e_)(hi:DC X tg Sd it)(hg:VW X tg g)(hb:uL X body mb)(hs:∀x,u_ Sd X.env x=pure x:=by intro _;rfl):eF X (.For tg Sd body [] pos) (kj it g mb):=by
 obtain⟨wi,pi,si⟩:=hi;obtain⟨ϝ,pg,sg⟩:=hg;obtain⟨tb,pb,sb⟩:=hb;refine⟨_,oI hp hc pi pg pb hs,?_⟩;intro B F H σ env D R w;unfold kj at w;refine si B F H σ env _ R (λz=>by rw[z]at w;exact w) (λts Sc e J F1 H1 R1 Y=>?_) λx e ev F' H' R' i pins s' I=>by rw[e]at w;exact w ev F' H' σ R' i pins s' I
 rw[e]at w;dsimp only at w;have f1:=R1.fr;refine⟨λi m σ H=>m=↑c-i/\i<=↑c/\∃F env,zN X.K (B.at_ F1 H1) F H σ env/\gg X B D (jv g mb (ts.drop i) env),⟨↑c,by simp,A5 _,F1,Sc,R1.rebase,by simpa using w⟩,?_⟩;rintro i m σ2 H2⟨rfl,hi,F2,Sm,R2,w2⟩;obtain⟨yg,ys⟩:=Y F2 H2 R2.fr.kept i;by_cases Si:i<↑c
 ·obtain⟨go,yl⟩:=yg Si;refine .inr ⟨go,λσ' H'=>∃F env,zN X.K (B.at_ F1 H1) F H' σ' env/\gg X B D (jv g mb (ts.drop (i+1)) env),λσ' H'⟨F',e',R',w'⟩=>⟨↑c-(i+1),by omega,rfl,Si,F',e',R',w'⟩,λx H3 y=>?_⟩;obtain⟨rfl,t,ht,it⟩:=yl x H3 y;have hd:ts.drop i=t::ts.drop (i+1):=by
   rw[Ax Si];have:ts[i]?=b_ ts[i]:=by simp[Si]
   rw[this]at ht;cases ht;rfl
  rw[hd]at w2;have w2:gg X B D (match g t Sm with|none=>.bad|some e1=>match mb e1 with|.nx e2=>jv g mb (ts.drop (i+1)) e2|.ct e2=>jv g mb (ts.drop (i+1)) e2|.bk e2=>.nx e2|o=>o):=w2;cases hg:g t Sm with|none=>rw[hg]at w2;exact w2.elim|some e1=>rw[hg]at w2;dsimp only at w2;refine sg _ F2 H3 σ2 Sm e1 x t _ R2 it hg λσ3 R3=>?_;refine sb _ F2 H3 σ3 e1 _ R3 ?_;cases ho:mb e1 with|nx e2=>rw[ho]at w2;exactλF4 H4 σ4 R4=>⟨F4,e2,R4,w2⟩|ct e2=>rw[ho]at w2;exactλF4 H4 σ4 R4=>⟨F4,e2,R4,w2⟩|bk e2=>rw[ho]at w2;exactλF4 H4 σ4 R4=>w2 F4 H4 σ4 (R4.unbase f1)|rt r=>rw[ho]at w2;exactλv F4 H4 R4=>w2 v F4 H4 (R4.unbase f1)|exc x e2=>rw[ho]at w2;exactλev F4 H4 σ4 R4=>w2 ev F4 H4 σ4 (R4.unbase f1)|bad=>rw[ho]at w2;exact w2.elim
 ·have hl:i=↑c:=by omega
  subst hl;rw[Fh]at w2;exact .inl ⟨ys (r_ _),w2 F2 H2 σ2 (R2.unbase f1)⟩
def _root_.L2.FlyN.up(f:FlyN [] n H ev h)(hm:m<=n)(hp:∀p∈ps,p.1<n):FlyN ps m H ev h:=by obtain⟨e,oe,vs,a,b,c,d,g,r⟩:=f;exact⟨e,oe,vs,a,A6 hm b,c,d,g,r.imp id λ⟨T,oT,ts,q1,q2,q3,_,q4⟩=>⟨T,oT,ts,A6 hm q1,q2,q3,λp z=>su (sR (hp p z) q1),q4⟩⟩
def _root_.L2.FlyN.dn(f:FlyN ps n H ev h):FlyN [] n H ev h:=by obtain⟨e,oe,vs,a,b,c,d,g,r⟩:=f;exact⟨e,oe,vs,a,b,c,d,g,r.imp id λ⟨T,oT,ts,q1,q2,q3,_,q4⟩=>⟨T,oT,ts,q1,q2,q3,(λ_ z=>nomatch z),q4⟩⟩
def lI(P:sN)(w:sY):VT:=λouter H s E e s'=>∃H' oa,s'.os=s.os/\Rc s'.gens/\Un (dE outer) [] H H' s.heap s'.heap/\uA P w H' s'.heap/\FlyN [] ↑a H' e s'.heap/\E e oa H'
def dI(F:kg X.prog X.w X.K X.mg X.base (lI X.prog X.w) k f fd ps sp)(hr:jT k X.A)(hb:gc X.K fd ps [])(I:zu X pins σ H s)(r:zQ vs us)(h:sp vs H Q E)(hx:∀e oa H',E e oa H'->∀s',db X e pins σ H' s'->X.xe e s'):o_ ↑n X.A (call (.ref f) us) (EP X pins σ Q) X.xe s:=by
 have hl:↑h=↑l:=by rw[<-r.length];exact F.len _ _ _ _ h
 refine Oo (Fd (F.run X.A X.stack s H ⟨us,[]⟩ us vs Q E hr I.env0 (by have:=hb s us I.kIn (by simpa using hl);simpa using this) r h) λr s' hq=>?_);cases r with|error e=>obtain⟨H',oa,ho,hg,hu,hok,fl,he⟩:=hq;exact hx e oa H' he s' ⟨I.call' ho hu hok hg λb z=>absurd z ↑G,fl.up I.sz λp hp=>n_ (I.pin p hp).1⟩|ok fl=>cases fl with|ret u=>exact I.after hq|next=>exact AO hq|brk=>exact AO hq|cont=>exact AO hq
def rn(X:Cx)(sp:Sp)(t:TA):TE:=λσ H Q=>t σ H λvs H1=>∃E,sp vs H1 Q E/\∀e oa H',E e oa H'->∀pins s',db X e pins σ H' s'->X.xe e s'
def ZU(F:kg X.prog X.w X.K X.mg X.base (lI X.prog X.w) k f fd ps sp)(hr:jT k X.A)(hg:Gl X x)(hm:X.mg x=b_ (.ref f))(hk:AC X.K (.ref f)=e_)(hb:gc X.K fd ps [])(ha:PA X (e::es) t)(SG:(x==↑x)=a_:=by decide)(he:p_ (e::es) X.env=↑ae::p_ es X.env:=by rfl)(hpl:(AT pos (p_ es X.env)).any (·.1)=a_:=by rfl):PE X (.Call (.Name x p) (e::es) [] pos) (rn X sp t):=by intro pins s σ H Q I h;refine Ai (ls I hg hm ?_ SG);refine G_ I.ok.mod.kin hk (jk (ha pos pins s σ H _ I h) λus s1⟨vs,H1,I1,r,E,q,hx⟩=>⟨I1.kIn,?_⟩) he hpl;exact dI F hr hb I1 r q λe oa H' z s' I'=>hx e oa H' z pins s' I'
abbrev MF:=List RV->gd RV
def cN(vs:List V)(rs:List RV)(a:h_):Prop:=∃(i:Nat)(r:RV),rs[i]?=b_ r/\r.1=e_/\vs[i]?=b_ (V.ref a)
def m6(K:d_)(f:MF):Sp:=λvs H Q E=>∃F rs,aq F H/\xZ K (λ_=>True) F H vs rs/\f rs≠.bad/\(∀r,f rs=.ok r->∀v F' H',ZO K ⟨cN vs rs,H,F⟩ F' H' v r->Q v H')/\(∀x,f rs=.exc x->∀ev F' H',m5 ⟨cN vs rs,H,F⟩ F' H'->KG K F' H' ev x->E ev f_ H')
def jc(P:sN)(w:sY)(K:d_)(mg:Str->Option g_)(base:w_)(k:Nat)(x:Str)(ps:List Str)(f:MF):Prop:=∃fa fd,kg P w K mg base (lI P w) k fa fd ps (m6 K f)/\mg x=b_ (.ref fa)/\AC K (.ref fa)=e_/\gc K fd ps []
def jc.mono{P:sN}{w:sY}{K:d_}{mg:Str->Option g_}{base:w_}{j k:Nat}{x:Str}{ps:List Str}{f:MF}(F:jc P w K mg base j x ps f)(h:j<=k):jc P w K mg base k x ps f:=by obtain⟨fa,fd,F,r⟩:=F;exact⟨fa,fd,F.mono h,r⟩
def zk(f:MF)(ma:MA):ME:=λenv=>(ma env).bind f
def xZ.at{K:d_}{fr F:h_->Prop}{H:Hp}:∀{vs:List V}{rs:List RV}{i:Nat}{r:RV},xZ K fr F H vs rs->rs[i]?=b_ r->∃v,vs[i]?=b_ v/\kN K fr F H v r|[],[],i,r,_,h=>by simp at h|[],_::_,_,_,h,_=>h.elim|_::_,[],_,_,h,_=>h.elim|v::vs,q::rs,i,r,h,e=>by cases i with|zero=>simp at e;subst e;exact⟨v,by simp,h.1⟩|succ i=>obtain⟨w,hw,q⟩:=xZ.at h.2.1 (by simpa using e);exact⟨w,by simpa using hw,q⟩
def xZ.any{K:d_}{fr γ F:h_->Prop}{H:Hp}(hf:∀a,fr a->γ a):∀{vs:List V}{rs:List RV},xZ K fr F H vs rs->xZ K γ F H vs rs
 |[],[],_=>trivial|[],_::_,h=>h.elim|_::_,[],h=>h.elim|v::vs,r::rs,h=>by
  refine⟨?_,xZ.any hf h.2.1,h.2.2⟩;have i:=h.1;unfold kN at i⊢;split;·rename_i ho;rw[if_pos ho]at i;obtain⟨a,e,nf,f,o⟩:=i;exact⟨a,e,nf,hf a f,o⟩
  ·rename_i ho;rw[if_neg ho]at i;exact i
def k8{K:d_}{fr F:h_->Prop}{H:Hp}{vs:List V}{rs:List RV}{a:h_}(h:xZ K fr F H vs rs)(o:cN vs rs a):¬F a/\fr a/\H a≠f_:=by obtain⟨i,r,e,ho,hv⟩:=o;obtain⟨v,hv',ir⟩:=h.at e;rw[hv]at hv';cases hv';obtain⟨b,eb,nf,f,th,_⟩:=ir.there ho;cases eb;exact⟨nf,f,th⟩
def tL(sa:YT X t ma):xW X (rn X (m6 X.K f) t) (zk f ma):=by
 intro F H σ env Q R nb ok ex;unfold zk at nb ok ex;refine sa F H σ env _ R ↑m (λrs e1 vs F1 H1 x1 i1=>?_) λx z=>ex x ↑D;rw[e1,bind_ok]at nb ok ex--from the callee's frame to ours
 have SK:∀{F':h_->Prop}{H':Hp},m5 ⟨cN vs rs,H1,F1⟩ F' H'->jB F H F' H':=by
  intro F' H' fr;refine⟨λa o h=>fr.keep a o (x1.same a o h) λz=>?_,λa h=>fr.sub a (x1.sub a h),λa h=>?_,fr.dom⟩;·rw[(k8 i1 z).2.1]at h;cases h
  ·rcases fr.new a h with h|h|h;·exact x1.new a h
   ·exact .inr (j8 x1.same h)
   ·exact .inr (k8 i1 h).2.1
 refine⟨λev oa H'=>oa=f_/\∃F' x,f rs=.exc x/\jB F H F' H'/\KG X.K F' H' ev x,⟨F1,rs,x1.dom,i1.any λ_ _=>trivial,nb,λr er v F' H' rr=>?_,λx Tb ev F' H' fr ix=>⟨rfl,F',x,Tb,SK fr,ix⟩⟩,λev oa H'⟨_,F',x,e',xt,ix⟩pins s' I=>ex x e' ev F' H' xt ix pins s' I⟩;refine ok r er v F' H' (SK rr.fr) ?_;have i:=rr.val;unfold kN at i⊢;split
 ·rename_i ho;rw[if_pos ho]at i;obtain⟨a,e,nf,fr,o⟩:=i;refine⟨a,e,nf,?_,o⟩;rcases fr with fr|fr;·exact j8 x1.same fr
  ·exact(k8 i1 fr).2.1
 ·rename_i ho;rw[if_neg ho]at i;exact i
def qT(C:jc X.prog X.w X.K X.mg X.base k x ps f)(hr:jT k X.A)(hg:Gl X x)(ha:Yi X (e::es) ma)(SG:(x==↑x)=a_:=by decide)(he:p_ (e::es) X.env=↑ae::p_ es X.env:=by rfl)(hpl:(AT pos (p_ es X.env)).any (·.1)=a_:=by rfl):jb X (.Call (.Name x p) (e::es) [] pos) (zk f ma):=by obtain⟨fa,fd,F,hm,hk,hb⟩:=C;obtain⟨ta,pa,sa⟩:=ha;exact⟨_,ZU F hr hg hm hk hb pa SG he hpl,tL sa⟩
def kQ(n:Nat)(rs:List RV):En:=rs.map b_++sO (n-rs.length) f_
def W2:V5->gd RV|.nx _=>.ok (a_,.non)|.rt r=>.ok r|.exc x _=>.exc x|_=>.bad
def zG(n k:Nat)(mb:MS):MF:=λrs=>if rs.length=k then W2 (mb (kQ n rs))else .bad
def V8{K:d_}{F:h_->Prop}{H:Hp}{N:List Str}{vs:List V}{rs:List RV}(d:aq F H)(h:xZ K (λ_=>True) F H vs rs):zN K ⟨cN vs rs,H,F⟩ F H (start N vs) (kQ N.length rs):=by
 have hl:=h.len;have he:∀{i:Nat}{r:RV},(kQ N.length rs)[i]?=b_ (b_ r)->rs[i]?=b_ r:=by
  intro i r e;unfold kQ at e;by_cases hi:i<rs.length;·rw[Aw (by simpa using hi),sI]at e;cases q:rs[i]? with|none=>rw[q]at e;cases e|some r'=>rw[q]at e;cases e;rfl
  ·rw[Au (by simpa using hi),BY]at e;split at e<;>cases e
 have hs:∀{i:Nat}{v:V},vs[i]?=b_ v->(start N vs)[i]?=b_ (b_ v):=by intro i v e;unfold L2.start;have hi:i<↑g:=(sP.mp e).1;rw[Aw (by simpa using hi),sI,e];rfl
 have sepG:∀{vs:List V}{rs:List RV},xZ K (λ_=>True) F H vs rs->∀(i j:Nat)(r r':RV)(v:V),rs[i]?=b_ r->rs[j]?=b_ r'->r.1=e_->r'.1=e_->vs[i]?=b_ v->vs[j]?=b_ v->i=j:=by intro vs;induction vs with|nil=>intro rs h i j r r' v _ _ _ _ e;simp at e|cons w vs ih=>intro rs h i j r r' v e1 e2 o1 o2 s1 s2;cases rs with|nil=>exact h.elim|cons q rs=>cases i with
    |zero=>cases j with|zero=>rfl|succ j=>simp at e1 s1;subst e1 s1;exact absurd (by simpa using s2) (h.2.2 o1 j r' (by simpa using e2) o2)
    |succ i=>cases j with|zero=>simp at e2 s2;subst e2 s2;exact absurd (by simpa using s1) (h.2.2 o2 i r (by simpa using e1) o1)|succ j=>rw[ih h.2.1 i j r r' v (by simpa using e1) (by simpa using e2) o1 o2 (by simpa using s1) (by simpa using s2)]
 refine⟨⟨d,λ_ h=>h,λ_ h=>.inl h,λ_ _ h _=>h,λa f m=>(k8 h m).1 f⟩,?_,λi t e=>?_,λi t e=>?_,λi j t t' a e1 e2 s1 s2=>?_⟩;·unfold L2.start kQ;simp[hl]
 ·obtain⟨v,hv,ir⟩:=h.at (he e);exact⟨v,hs hv,ir.is⟩
 ·obtain⟨v,hv,ir⟩:=h.at (he e);obtain⟨a,rfl,nf,_,_,w⟩:=ir.there rfl;exact⟨a,hs hv,nf,.inr ⟨i,_,he e,rfl,hv⟩,w⟩
 ·obtain⟨v,hv,ir⟩:=h.at (he e1);obtain⟨v',hv',ir'⟩:=h.at (he e2);rw[hs hv]at s1;rw[hs hv']at s2;have s1:v=.ref a:=by injection s1 with s1;injection s1
  have s2:v'=.ref a:=by injection s2 with s2;injection s2
  subst s1;subst s2;exact sepG h i j _ _ _ (he e1) (he e2) rfl rfl hv hv'
section
variable{P:sN}{w:sY}{K:d_}{mg:Str->Option g_}{base:w_}
theorem Q6(h:m6 K (zG N.length n mb) vs H Q E)(hb:uL (lw (lI P w) P w K mg base N x sc f Sg A outer s H E) body mb):∃t,oF (lw (lI P w) P w K mg base N x sc f Sg A outer s H E) body t/\t {nx:=λ_ H'=>Q .non H',rt:=Q} (start N vs) H:=by
 obtain⟨F,rs,d,ir,nb,ok,ex⟩:=h;obtain⟨t,p,sm⟩:=hb;refine⟨t,p,?_⟩;unfold zG at nb ok ex;by_cases hl:rs.length=n;·rw[if_pos hl]at nb ok ex;refine sm _ F H (start N vs) (kQ N.length rs) _ (V8 d ir) ?_;cases ho:mb (kQ N.length rs)with|nx env=>rw[ho]at ok;exactλF' H' σ R=>ok _ rfl .non F' H' ⟨R.fr,jj KJ⟩|rt r=>rw[ho]at ok;exactλv F' H' R=>ok _ rfl v F' H' R|bk env=>rw[ho]at nb;exact absurd rfl nb|ct env=>rw[ho]at nb;exact absurd rfl nb|exc x env=>rw[ho]at ex;intro ev F' H' σ R ix pins s'⟨I,fl⟩;obtain⟨e0,rfl,i0⟩:=id ix;unfold Is at i0;obtain⟨e1,d1,w1,ee,h1,_⟩:=i0;cases ee;exact c_ (ZC I rfl rfl h1 fl λh' J fl'=>⟨H',f_,J.os,J.bare,J.base,J.hok,fl'.dn,ex x rfl _ F' H' R.fr ix⟩)|bad=>rw[ho]at nb;exact absurd rfl nb
 ·rw[if_neg hl]at nb;exact absurd rfl nb
theorem MY(h:m6 K (zG n m mb) vs H Q E):↑g=m:=by
 obtain⟨F,rs,d,ir,nb,_⟩:=h;unfold zG at nb;by_cases hl:rs.length=m;·rw[<-hl];exact ir.len
 ·rw[if_neg hl]at nb;exact absurd rfl nb
theorem zH.ok3{x:Str}{st:A2}{N ps:List Str}{k:Nat}{mb:MS}(F:zH K mg x st)(S:zd N ps (za st))(hb:∀(kV Sq pm:g_)(an:Option h_)(Sg ct:g_)(us:List g_),↑h=↑l->Of (A9 x x (jQ st) (j4 st) (za st) .none kV Sq pm an Sg ct) ⟨us,[]⟩=pure (ps.zip us))(Sn:∀(f:h_)(Sg:g_)(A:A3)(outer:List Env)(s:l_)(H:Hp)(E:XK),jT k (A.deeper (OB x (za st) ↑a f Sg))->uL (lw (lI P w) P w K mg base N x (za st) f Sg A outer s H E) (j4 st) mb):jc P w K mg base (k+1) x ps (zG N.length ↑l mb):=by obtain⟨f,fd,F,e⟩:=F;refine⟨f,fd,?_,e,F.kp,F.binds hb⟩;obtain⟨oc,od,kV,Sq,pm,an,Sg,ct,T1,rfl,lk,Sz⟩:=F.ex;exact cg lk Sz S (λvs H Q E h=>MY h) λA outer s H vs Q E hr S_=>Q6 S_ (Sn f Sg A outer s H E hr)
end
def cO{K:d_}{F:h_->Prop}{H:Hp}{t:T}{vs:List V}(h:IsAll K F H [t] vs):∃v,vs=[v]/\Is K F H t v:=by unfold IsAll at h;obtain⟨v,r,rfl,h1,h2⟩:=h;unfold IsAll at h2;subst h2;exact⟨v,rfl,h1⟩
def MZ{K:d_}{F:h_->Prop}{H:Hp}{t u:T}{vs:List V}(h:IsAll K F H [t,u] vs):∃v w,vs=[v,w]/\Is K F H t v/\Is K F H u w:=by unfold IsAll at h;obtain⟨v,r,rfl,h1,h2⟩:=h;obtain⟨w,rfl,h3⟩:=cO h2;exact⟨v,w,rfl,h1,h3⟩
def xP:List T->Option RV|[.lst ts]=>b_ (a_,.int ↑c)|[.tup ts]=>b_ (a_,.int ↑c)|[.str z]=>if z.length<=j_ then b_ (a_,.int z.length)else f_|_=>f_
def Cw:List T->Option RV|[.lst ts]=>b_ (e_,.lst ts)|[.tup ts]=>b_ (e_,.lst ts)|_=>f_
def pS:List T->Option RV|[.lst ts]=>b_ (a_,.tup ts)|[.tup ts]=>b_ (a_,.tup ts)|_=>f_
def PL:List T->Option RV|[.int i]=>if i.natAbs.log2<1920 then b_ (a_,.str (toString i))else f_|_=>f_
def ZV:T->Option String|.non=>b_ "NoneType"|.bl _=>b_ "bool"|.int _=>b_ "int"|.str _=>b_ "str"|.tup _=>b_ "tuple"|.lst _=>b_ "list"|_=>f_
def allB:List T->Option (List Bool)|[]=>b_ []|.bl b::ts=>(allB ts).map (b::·)|_=>f_
def uv:List T->Option RV|[.lst ts]=>(allB ts).map λbs=>(a_,.bl (bs.all id))|_=>f_
def L4:gw X (.builtin "len") (Pw X.K xP):=by intro pins s σ H xs us Q I r h;obtain⟨F,ts,rv,d,ia,e,q⟩:=h;match ts,e with|[.lst ts],e=>cases e;obtain⟨v,rfl,i⟩:=cO ia;unfold Is at i;obtain⟨a,vs,rfl,g1,g2⟩:=i;exact ly pins s σ H _ us Q I r ⟨a,vs,rfl,.inl g1.sq,by rw[<-g2.len];exact xK d xL q rfl⟩|[.tup ts],e=>cases e;obtain⟨v,rfl,i⟩:=cO ia;unfold Is at i;obtain⟨a,vs,rfl,g1,g2⟩:=i;exact ly pins s σ H _ us Q I r ⟨a,vs,rfl,.inr g1,by rw[<-g2.len];exact xK d xL q rfl⟩|[.str z],e=>obtain⟨v,rfl,i⟩:=cO ia;unfold Is at i;subst i;simp only[xP]at e;split at e<;>cases e;rename_i hl;exact oQ pins s σ H _ us Q I r ⟨z,rfl,hl,xK d xL q rfl⟩
def pA:gw X (.type "tuple") (Pw X.K pS):=by intro pins s σ H xs us Q I r h;obtain⟨F,ts,rv,d,ia,e,q⟩:=h;match ts,e with|[.lst ts],e=>cases e;obtain⟨v,rfl,i⟩:=cO ia;unfold Is at i;obtain⟨a,vs,rfl,g1,g2⟩:=i;exact nX pins s σ H _ us Q I r ⟨a,vs,rfl,.inl ⟨g1.sq,λl hl=>Py d g2 hl q⟩⟩|[.tup ts],e=>cases e;obtain⟨v,rfl,i⟩:=cO ia;have i':=i;unfold Is at i;obtain⟨a,vs,rfl,g1,g2⟩:=i;exact nX pins s σ H _ us Q I r ⟨a,vs,rfl,.inr ⟨g1,xK d i' q rfl⟩⟩
def L5:gw X (.type "str") (Pw X.K PL):=by intro pins s σ H xs us Q I r h;obtain⟨F,ts,rv,d,ia,e,q⟩:=h;match ts,e with|[.int i],e=>obtain⟨v,rfl,g⟩:=cO ia;unfold Is at g;subst g;simp only[PL]at e;split at e<;>cases e;rename_i hl;exact oJ pins s σ H _ us Q I r ⟨i,rfl,hl,xK d gy q rfl⟩
def ZW{K:d_}{F:h_->Prop}{H:Hp}:∀{ts:List T}{bs:List Bool}{vs:List V}{us:List g_},allB ts=b_ bs->IsAll K F H ts vs->zQ vs us->us=bs.map g_.bool|[],bs,vs,us,h,i,r=>by unfold IsAll at i;subst i;cases r;simp[allB]at h;subst h;rfl|t::ts,bs,vs,us,h,i,r=>by unfold IsAll at i;obtain⟨v,w,rfl,i1,i2⟩:=i;cases r with|cons r1 r2=>cases t<;>simp only[allB,reduceCtorEq,sJ]at h;case bl b=>obtain⟨bs',h,rfl⟩:=h;unfold Is at i1;subst i1;cases r1;rw[ZW h i2 r2];rfl
def W3:∀(bs:List Bool),((t_ bs.length).all λi=>(bs[i]?).getD e_)=bs.all id|[]=>rfl|b::bs=>by rw[sA,List.range_succ_eq_map,Oi,List.all_map,Oi];have:=W3 bs;simp only[List.getElem?_cons_zero,Option.getD_some,id];congr 1
def fJ(hc:X.calm=e_):gw X (.builtin "all") (Pw X.K uv):=by intro pins s σ H xs us Q I r h;obtain⟨F,ts,rv,d,ia,e,q⟩:=h;match ts,e with
 |[.lst ts],e=>
  simp only[uv,sJ]at e;obtain⟨bs,eb,rfl⟩:=e;obtain⟨v,rfl,i⟩:=cO ia;obtain⟨u,rfl,ru⟩:=el r;unfold Is at i;obtain⟨a,vs,rfl,g1,g2⟩:=i;cases ru;obtain⟨its,r',pl,hz⟩:=I.list g1.sq;have hb:=ZW eb g2 r';have hl:=pl.isList;have Si:a<↑a:=by obtain⟨_,e,_⟩:=hl;exact n_ e
  refine call_all_walk (L_ hl ?_);refine⟨↑a,[↑a,a],[↑a],↑k,_,_,λi=>(bs[i]?).getD e_,rfl,Walks.list (A:=X.A.in1) (I.ok.hd hc) _ a (su Si) its.toArray,⟨⟨_,sf _ rfl,rfl,rfl⟩,hl.push _⟩,λi v s' Q' E' hP hQ=>?_,λh' tk hk=>?_⟩
  ·have hv:its[i]?=b_ v:=by simpa using hP
   rw[hb,sI]at hv;cases hbi:bs[i]? with|none=>rw[hbi]at hv;cases hv|some b=>rw[hbi]at hv;cases hv;simp only[hbi,Option.getD_some]at hQ;exact AI hQ
  ·have e2:((t_ ↑k).all λi=>(bs[i]?).getD e_)=bs.all id:=by
    have:↑k=bs.length:=by rw[hb];simp
    rw[this];exact W3 bs
   rw[e2];exact⟨.bl (bs.all id),H,I.kept (LSm.kept_iter hk),rfl,xK d xX q rfl⟩
abbrev rp:=En->gd (List T)
def Nh(X:Cx)(wi:TI)(it:rp):Prop:=∀(F:h_->Prop)(H:Hp)(σ:St)(env:En)(R:It->Hp->Prop),xV X.K F H σ env->it env≠.bad->(∀ts,it env=.ok ts->∀J F' H',jB F H F' H'->uP X.K F' H' J ts->R J H')->(∀x,it env=.exc x->XV X F H σ x)->wi σ H R
def YW(X:Cx)(tg Sd:A1)(it:rp):Prop:=∃wi,PI X tg Sd wi/\Nh X wi it
def xA(m:ME):rp:=λenv=>(m env).bind λr=>Yh (uO r.2)
def YX{K:d_}{F:h_->Prop}{H:Hp}{a:h_}{vs:List V}{ts:List T}(g1:YN K F H a vs)(g2:IsAll K F H ts vs):uP K F H (Dc K a) ts:=by intro F2 H2 k i;have h1:=(g1.mono k).sq;have h2:=g2.mono k;have hl:=h2.len;refine⟨λhi=>⟨⟨vs,vs[i],h1,by simp[<-hl,hi]⟩,λx H3 y=>⟨y.1,?_⟩⟩,λhi=>⟨vs,h1,by omega⟩⟩;have hx:=y.2 vs h1;obtain⟨v,hv,iv⟩:=h2.get (i:=i) (t:=ts[i]) (by simp[hi]);rw[hx]at hv;cases hv;exact⟨ts[i],by simp[hi],iv⟩
def qk(h:jb X e m):YW X tg e (xA m):=by obtain⟨tl,pl,sl⟩:=h;refine⟨_,Q5 pl,?_⟩;intro F H σ env R RE nb ok ex;unfold xA at nb ok ex;cases hr:m env with|bad=>rw[hr]at nb;exact absurd rfl nb|exc x=>rw[hr]at ex;exact .inl (sl.val RE (by rw[hr];intro z;cases z) (λr er=>by rw[hr]at er;cases er) λx' z=>by rw[hr]at z;cases z;exact ex x rfl)|ok r=>
  rw[hr,bind_ok]at nb ok;have ν:m env≠.bad:=by rw[hr];intro z;cases z
  have noex:∀x,m env=.exc x->XV X F H σ x:=λx z=>by rw[hr]at z;cases z
  obtain⟨o,t⟩:=r;dsimp only at nb ok;cases t<;>simp only[uO,ofO_none,ofO_some]at nb ok<;>try(exact absurd rfl nb)
  case lst us=>refine .inl (sl.val RE ν (λr er v F1 H1 x1 i1=>?_) noex);rw[hr]at er;cases er;unfold Is at i1;obtain⟨a,vs,rfl,g1,g2⟩:=i1;exact⟨a,rfl,⟨vs,g1.sq⟩,ok _ rfl _ F1 H1 x1 (YX g1 g2)⟩
  case tup us=>refine .inr (.inl (sl.val RE ν (λr er v F1 H1 x1 i1=>?_) noex));rw[hr]at er;cases er;unfold Is at i1;obtain⟨a,vs,rfl,g1,g2⟩:=i1;exact⟨a,rfl,⟨vs,g1⟩,ok _ rfl _ F1 H1 x1 (cJ g1 g2)⟩
  case str z=>refine .inr (.inr (sl.val RE ν (λr er v F1 H1 x1 i1=>?_) noex));rw[hr]at er;cases er;unfold Is at i1;exact⟨z,i1,ok _ rfl _ F1 H1 x1 cK⟩
def cP(m:MA):rp:=λenv=>(m env).bind λrs=>match rs.map S8 with|[.int j]=>if-(2^62)<=j/\j<2^62 then .ok (mL 0 j.toNat)else .bad|_=>.bad
def V9(hg:Gl X "range")(hm:X.mg "range"=f_)(ha:Yi X [a] ma)(hs:p_ [a] X.env=[(a_,x_ a X.env)]:=by rfl):YW X tg (.Call (.Name "range" p) [a] [] pos) (cP ma):=by
 obtain⟨ta,pa,sa⟩:=ha;refine⟨_,aW hg hm pa hs,?_⟩;intro F H σ env R RE nb ok ex;unfold cP at nb ok ex;refine sa F H σ env _ RE ↑m (λrs e1 vs F1 H1 x1 i1=>?_) λx z=>ex x ↑D;rw[e1,bind_ok]at nb ok;obtain⟨F2,x2,_,i2⟩:=i1.frz x1;split at nb
 ·rename_i j hj;rw[hj]at i2 ok;dsimp only at ok;split at nb;·rename_i hb;rw[if_pos hb]at ok;obtain⟨v,rfl,g⟩:=cO i2;unfold Is at g;exact⟨j,by rw[g],hb.1,hb.2,ok _ rfl _ F2 H1 x2 cL⟩
  ·exact absurd rfl nb
 ·exact absurd rfl nb
def gO(env:En)(slots:List Nat):En:=slots.map λk=>(env[k]?).getD f_
def ql(mt:MT)(me:ME)(caps:En):List T->gd (List T)|[]=>.ok []|t::ts=>match mt (b_ (a_,t)::caps)with|.ok e_=>(match me (b_ (a_,t)::caps)with|.ok r=>(match ql mt me caps ts with|.ok rs=>.ok (r.2::rs)|_=>.bad)|_=>.bad)|.ok a_=>ql mt me caps ts|_=>.bad
def jq(it:rp)(mt:MT)(me:ME)(slots:List Nat):ME:=λenv=>(it env).bind λts=>if ↑c<=j_ then(match ql mt me (gO env slots) ts with|.ok rs=>.ok (e_,.lst rs)|_=>.bad)else .bad
def j6:MT:=λ_=>.ok e_
def ay(X:Cx)(Sl:List A1)(m:MT):Prop:=∃t,V2 X Sl t/\fD X t m
def jd:ay X [] j6:=⟨_,KF,λF H σ env Q R nb ok ex=>ok e_ rfl F H (.refl R.dom)⟩
def nJ(h:ZG X c m):ay X [c] m:=let⟨t,p,s⟩:=h;⟨t,Pp p,s⟩
section
variable{X:Cx}{scope:FI}{cl:List (Str×h_)}{x:Str}{caps:List Str}{slots:List Nat}{Sd Ss:A1}{Sl:List A1}{px pos:Pos}{it:rp}{mt:MT}{me:ME}
def DE(X:Cx)(scope:FI)(cl:List (Str×h_))(x:Str)(caps:List Str)(Sl:List A1)(m:MT):Prop:=∃t,∀C ex pn s₀ H₀,V2 ↑q Sl t/\tH ↑q t m
def Ba(X:Cx)(scope:FI)(cl:List (Str×h_))(x:Str)(caps:List Str)(e:A1)(m:ME):Prop:=∃t,∀C ex pn s₀ H₀,PE ↑q e t/\eD ↑q t m
theorem Q7(h:∀C ex pn s₀ H₀,jb ↑q e m):Ba X scope cl x caps e m:=by
 refine⟨λσ H Q=>∀C ex pn s₀ H₀,∃t,PE ↑q e t/\t σ H Q,λC ex pn s₀ H₀=>⟨λpins s σ H Q I w=>?_,λF H σ env Q R nb ok T6 C' Tb pn' s₀' H₀'=>?_⟩⟩;·obtain⟨t,p,w⟩:=w C ex pn s₀ H₀;exact p pins s σ H Q I w
 ·obtain⟨t,p,s⟩:=h C' Tb pn' s₀' H₀';exact⟨t,p,s F H σ env Q R nb ok λy z=>(T6 y z).elim⟩
theorem Q8(h:∀C ex pn s₀ H₀,ay ↑q Sl m):DE X scope cl x caps Sl m:=by
 refine⟨λσ H Q=>∀C ex pn s₀ H₀,∃t,V2 ↑q Sl t/\t σ H Q,λC ex pn s₀ H₀=>⟨λpins s σ H Q I w=>?_,λF H σ env Q R nb ok T6 C' Tb pn' s₀' H₀'=>?_⟩⟩;·obtain⟨t,p,w⟩:=w C ex pn s₀ H₀;exact p pins s σ H Q I w
 ·obtain⟨t,p,s⟩:=h C' Tb pn' s₀' H₀';exact⟨t,p,s F H σ env Q R nb ok λy z=>(T6 y z).elim⟩
theorem Q9{K:d_}{F:h_->Prop}{H:Hp}{σ:St}{env:En}{v:V}{t:T}(R:xV K F H σ env)(iv:Is K F H t v):xV K F H (b_ v::gi σ slots) (b_ (a_,t)::gO env slots):=by refine⟨R.dom,λi r h=>?_⟩;cases i with|zero=>simp at h;subst h;exact⟨v,rfl,iv⟩|succ i=>
  have h:(gO env slots)[i]?=b_ (b_ r):=by simpa using h
  unfold gO at h;rw[sI]at h;cases hk:slots[i]? with|none=>rw[hk]at h;cases h|some k=>
   rw[hk]at h;have h:(env[k]?).getD f_=b_ r:=sF h;have he:env[k]?=b_ (b_ r):=by cases e:env[k]? with|none=>rw[e]at h;cases h|some o=>rw[e]at h;have:o=b_ r:=h;rw[this]
   obtain⟨w,sw,q⟩:=R.vals k r he;refine⟨w,?_,q⟩;show(gi σ slots)[i]?=b_ (b_ w);unfold gi;rw[sI,hk];show b_ ((σ[k]?).getD f_)=b_ (b_ w);rw[sw];rfl
theorem ZX(si:Nh X wi it)(st:tH (zq X scope cl 0 (x::caps) [] [] X.s₀ X.H₀) tt mt)(se:eD (zq X scope cl 0 (x::caps) [] [] X.s₀ X.H₀) te me):xW X (XU wi tt te slots) (jq it mt me slots):=by
 intro F H σ env Q RE nb ok T6;unfold jq at nb ok T6;refine si F H σ env _ RE ↑m (λts e1 J F1 H1 x1 Y=>?_) λx z=>T6 x ↑D;rw[e1,bind_ok]at nb ok;by_cases hl:↑c<=j_;·rw[if_pos hl]at nb ok;cases So:ql mt me (gO env slots) ts with|bad=>rw[So]at nb;exact absurd rfl nb|exc y=>rw[So]at nb;exact absurd rfl nb|ok out=>
   rw[So]at ok;intro D hD;refine⟨λi m ys H=>m=↑c-i/\i<=↑c/\ys.length<=i/\H D=b_ (.lst ys)/\∃Fc us rest,¬Fc D/\jB F1 H1 Fc H/\IsAll X.K Fc H us ys/\ql mt me (gO env slots) (ts.drop i)=.ok rest/\us++rest=out,⟨↑c,by simp,A5 _,r_ _,zm,F1,[],out,λf=>x1.dom D f hD,jB.alloc x1.dom hD,IsAll.nil,by simpa using So,rfl⟩,?_⟩;rintro i m ys H2⟨rfl,hi,hyl,hHD,Fc,us,rest,nD,xc,iu,Sb,hout⟩;refine⟨hHD,?_⟩;obtain⟨yg,ysp⟩:=Y Fc H2 xc.kept i;by_cases Si:i<↑c
   ·obtain⟨go,yl⟩:=yg Si;refine .inr ⟨go,λv H3 y=>?_⟩;obtain⟨rfl,t,hti,iv⟩:=yl v H3 y;have hd:ts.drop i=t::ts.drop (i+1):=by
     rw[Ax Si];have:ts[i]?=b_ ts[i]:=by simp[Si]
     rw[this]at hti;cases hti;rfl
    rw[hd,ql]at Sb;have RE2:xV X.K Fc H3 σ env:=(RE.mono x1).mono xc;have RC:xV X.K Fc H3 (b_ v::gi σ slots) (b_ (a_,t)::gO env slots):=Q9 RE2 iv;have SM:∀{F':h_->Prop}{H':Hp},jB Fc H3 F' H'->¬F' D/\H' D=b_ (.lst ys):=by
     intro F' H' xt;refine⟨λf=>?_,xt.same D _ hHD⟩;rcases xt.new D f with f|f;·exact nD f
     ·rw[hHD]at f;cases f
    refine st Fc H3 _ _ _ RC (λz=>by rw[z]at Sb;cases Sb) (λb eb F4 H4 x4=>?_) λy z=>by rw[z]at Sb;cases Sb
    rw[eb]at Sb;cases b with|false=>rw[if_neg sM];dsimp only at Sb;obtain⟨n4,d4⟩:=SM x4;exact⟨↑c-(i+1),by omega,rfl,Si,by omega,d4,F4,us,rest,n4,xc.trans x4,iu.mono x4.kept,Sb,hout⟩|true=>
     rw[if_pos rfl];dsimp only at Sb;refine se.val (RC.mono x4) (λz=>by rw[z]at Sb;cases Sb) (λr er w F5 H5 x5 iw=>?_) λy z=>by rw[z]at Sb;cases Sb
     rw[er]at Sb;dsimp only at Sb;cases hcl2:ql mt me (gO env slots) (ts.drop (i+1))with|bad=>rw[hcl2]at Sb;cases Sb|exc y=>rw[hcl2]at Sb;cases Sb|ok rest2=>
      rw[hcl2]at Sb;have hr:r.2::rest2=rest:=by injection Sb
      obtain⟨n5,d5⟩:=SM (x4.trans x5);have x15:=(xc.trans x4).trans x5;refine⟨d5,by omega,↑c-(i+1),by omega,rfl,Si,by rw[sj];simp;omega,zm,F5,us++[r.2],rest2,n5,?_,?_,hcl2,by rw[<-hout,<-hr];simp⟩
      ·refine⟨λa o h=>?_,x15.sub,x15.new,λa f=>?_⟩;·rw[zg (zM h hD)];exact x15.same a o h
       ·have:a≠D:=by rintro rfl;exact n5 f
        rw[zg this];exact x15.dom a f
      ·exact((iu.mono (x4.trans x5).kept).append (IsAll.cons iw IsAll.nil)).mono (xi n5 d5 (.inl ⟨_,rfl⟩))
   ·have hli:i=↑c:=by omega
    subst hli;rw[Fh,ql]at Sb;have hr:rest=[]:=by injection Sb with Sb;exact Sb.symm
    subst hr;rw[Ac]at hout;subst hout;refine .inl ⟨ysp (r_ _),ok _ rfl _ Fc H2 (x1.trans xc) ?_⟩;unfold kN;rw[if_pos rfl];exact⟨D,rfl,nD,j8 x1.same hD,ys,hHD,iu⟩
 ·rw[if_neg hl]at nb;exact absurd rfl nb
theorem L6(hc:X.calm=e_)(S:cx X scope cl x caps slots)(hi:YW X (.Name x px) Sd it)(ht:∀C ex pn s₀ H₀,ay ↑q Sl mt)(he:∀C ex pn s₀ H₀,jb ↑q Ss me)(hs:∀v,u_ Sd X.env v=pure v:=by intro _;rfl)(hg:∀it v,AB (.Name x px) it v=pure ():=by intro _ _;rfl):jb X ↑B (jq it mt me slots):=by obtain⟨wi,pi,si⟩:=hi;obtain⟨tt,ht⟩:=Q8 ht;obtain⟨te,he⟩:=Q7 he;exact⟨_,Pq hc S pi (λC ex pn s₀ H₀=>(ht C ex pn s₀ H₀).1) (λC ex pn s₀ H₀=>(he C ex pn s₀ H₀).1) hs hg,ZX si (ht 0 [] [] X.s₀ X.H₀).2 (he 0 [] [] X.s₀ X.H₀).2⟩
end
end L3
namespace L3
open PySem PySem.W PyProof.Rows
def pB(lt:Nat->Nat->Bool){α:Type}:KasT α->α|.ret a=>a|.ask i j k=>pB lt (k (lt i j))
structure TO(lt:Nat->Nat->Bool)(n:Nat):Prop where
 asym:∀i j,i<n->j<n->lt i j=e_->lt j i=a_
 trans:∀i j k,i<n->j<n->k<n->lt i j=e_->lt j k=e_->lt i k=e_
 total:∀i j,i<n->j<n->i≠j->lt i j=e_\/lt j i=e_
structure Pm(p:Array Nat)(n:Nat):Prop where
 size:p.size=n
 perm:p.toList.Perm (t_ n)
def Pm.lt(h:Pm p n)(hi:i<n):p.getD i 0<n:=by
 have hs:i<p.size:=by rw[h.size];exact hi
 have:p[i]∈p.toList:=by simp
 have:=(h.perm.mem_iff).mp this;simp only[Rv,hs,dite_true];exact BT.mp this
def Pm.inj(h:Pm p n)(hi:i<n)(hj:j<n)(e:p.getD i 0=p.getD j 0):i=j:=by
 have Sr:i<p.size:=by rw[h.size];exact hi
 have hj':j<p.size:=by rw[h.size];exact hj
 have nd:p.toList.Nodup:=h.perm.nodup_iff.mpr List.nodup_range;simp only[Rv,Sr,hj',dite_true]at e;have h1:p.toList[i]?=b_ p[i]:=by simp[Sr]
 have h2:p.toList[j]?=b_ p[j]:=by simp[hj']
 have e:p[i]=p[j]:=e;rw[e]at h1;exact(RK (by simpa using Sr) nd).mp (h1.trans h2.symm)
def Up(lt:Nat->Nat->Bool)(p:Array Nat)(m:Nat):Prop:=∀i j,i<j->j<m->lt (p.getD i 0) (p.getD j 0)=e_
def L7(lt:Nat->Nat->Bool)(n:Nat){α:Type}:KasT α->Prop|.ret _=>True|.ask i j k=>i<n/\j<n/\L7 lt n (k (lt i j))
def ZY(hc:∀i j(C:Bool->l_->Prop),i<n->j<n->C (lt i j) s->cmp i j C s):∀(t:KasT α),L7 lt n t->Q (pB lt t) s->t.kasWp cmp Q s|.ret a,_,h=>h|.ask i j k,r,h=>hc i j _ r.1 r.2.1 (ZY hc (k (lt i j)) r.2.2 h)
def eI(lt:Nat->Nat->Bool)(n:Nat){α:Type}:KasT α->Option α|.ret a=>b_ a|.ask i j k=>if i<n/\j<n then eI lt n (k (lt i j))else f_
theorem ZZ{lt:Nat->Nat->Bool}{n:Nat}{α:Type}{a:α}:∀{t:KasT α},eI lt n t=b_ a->L7 lt n t/\pB lt t=a
 |.ret a,h=>⟨trivial,sF h⟩|.ask i j k,h=>by
  unfold eI at h;split at h;·rename_i hc;obtain⟨h1,h2⟩:=ZZ h;exact⟨⟨hc.1,hc.2,h1⟩,h2⟩
  ·cases h
theorem eJ{lt lt':Nat->Nat->Bool}{n:Nat}{α:Type}(h:∀i j,i<n->j<n->lt i j=lt' i j):∀t:KasT α,eI lt n t=eI lt' n t
 |.ret a=>rfl|.ask i j k=>by
  unfold eI;split;·rename_i hc;rw[h i j hc.1 hc.2];exact eJ h _
  ·rfl
def W4(n:Nat):Nat->List (List Nat)|0=>[[]]|k+1=>(W4 n k).flatMap λr=>(t_ n).map λx=>x::r
theorem tM:∀{r:List Nat},(∀x∈r,x<n)->r∈W4 n r.length|[],_=>sC.mpr rfl|x::r,h=>List.mem_flatMap.mpr ⟨r,tM λy hy=>h y (k_ _ hy),sH.mpr ⟨x,BT.mpr (h x m_),rfl⟩⟩
def HC(r:List Nat)(i j:Nat):Bool:=Nat.blt (r.getD i 0) (r.getD j 0)
def EL(r:List Nat):List Nat->Bool|[]=>e_|i::q=>q.all (λj=>!HC r j i)&&EL r q
def HD(n:Nat)(r:List Nat):Bool:=match eI (HC r) n (AR n)with|some q=>q.toList.isPerm (t_ n)&&EL r q.toList|none=>a_
def PM:∀n<6,(W4 n n).all (HD n)=e_:=by decide+kernel
theorem Qa:∀{q:List Nat},EL r q=e_->q.Pairwise λi j=>HC r j i=a_|[],_=>.nil|i::q,h=>by unfold EL at h;rw[y_,BD]at h;exact .cons (λj hj=>by simpa using h.1 j hj) (Qa h.2)
structure WO(lt:Nat->Nat->Bool)(n:Nat):Prop where
 irr:∀i,i<n->lt i i=a_
 trans:∀i j k,i<n->j<n->k<n->lt i j=e_->lt j k=e_->lt i k=e_
 neg:∀i j k,i<n->j<n->k<n->lt i j=a_->lt j k=a_->lt i k=a_
def J0(lt:Nat->Nat->Bool)(n i:Nat):Nat:=((t_ n).filter λk=>lt k i).length
def PN{lt:Nat->Nat->Bool}(W:WO lt n)(hi:i<n):J0 lt n i<n:=by have:=(M_ (l:=t_ n) (p:=λk=>lt k i)).mpr ⟨i,BT.mpr hi,by rw[W.irr i hi];decide⟩;simpa[J0]using this
def Qb{lt:Nat->Nat->Bool}(W:WO lt n)(hi:i<n)(hj:j<n):lt i j=Nat.blt (J0 lt n i) (J0 lt n j):=by
 have sub:∀{a b},(∀k,k<n->lt k a=e_->lt k b=e_)->(t_ n).filter (λk=>lt k a)=((t_ n).filter λk=>lt k b).filter λk=>lt k a:=λ{a b}h=>by rw[List.filter_filter];refine List.filter_congr λk hk=>?_;cases g:lt k a with|false=>rfl|true=>rw[h k (BT.mp hk) g];rfl
 cases e:lt i j with|true=>symm;rw[Nat.blt_eq];unfold J0;rw[sub λk hk g=>W.trans _ _ _ hk hi hj g e];exact M_.mpr ⟨i,OY.mpr ⟨BT.mpr hi,e⟩,by rw[W.irr i hi];decide⟩|false=>symm;refine Bool.eq_false_iff.mpr λg=>?_;rw[Nat.blt_eq]at g;have:=List.length_filter_le (λk=>lt k j) ((t_ n).filter λk=>lt k i);rw[<-sub λk hk q=>by cases z:lt k i with|true=>rfl|false=>rw[W.neg _ _ _ hk hi hj z e]at q;cases q]at this;exact absurd g (Nat.not_lt.mpr this)
def HE{lt:Nat->Nat->Bool}{n:Nat}(W:WO lt n)(h5:n<=5):L7 lt n (AR n)/\Pm (pB lt (AR n)) n/\(pB lt (AR n)).toList.Pairwise λi j=>i<n->j<n->lt j i=a_:=by
 have hm:((t_ n).map (J0 lt n))∈W4 n n:=by
  have:=tM (n:=n) (r:=(t_ n).map (J0 lt n)) λx hx=>by obtain⟨k,hk,rfl⟩:=sH.mp hx;exact PN W (BT.mp hk)
  simpa using this
 have hc:=BD.mp (PM n ↑p) _ hm;have Si:∀i j,i<n->j<n->HC ((t_ n).map (J0 lt n)) i j=lt i j:=λi j hi hj=>by rw[Qb W hi hj];unfold HC;simp[hi,hj]
 unfold HD at hc;rw[eJ Si]at hc;cases hk:eI lt n (AR n)with|none=>rw[hk]at hc;cases hc|some q=>rw[hk,y_]at hc;obtain⟨h1,h2⟩:=ZZ hk;rw[h2];have hp:=List.isPerm_iff.mp hc.1;refine⟨h1,⟨by simpa using hp.length_eq,hp⟩,(Qa hc.2).imp λg hi hj=>?_⟩;rw[Si _ _ hj hi]at g;exact g
def HF{lt:Nat->Nat->Bool}{n:Nat}(T:TO lt n)(h5:n<=5):L7 lt n (AR n)/\Pm (pB lt (AR n)) n/\Up lt (pB lt (AR n)) n:=by
 have irr:∀i,i<n->lt i i=a_:=λi hi=>by cases e:lt i i with|false=>rfl|true=>exact(T.asym i i hi hi e).symm.trans e|>.symm
 obtain⟨h1,h2,h3⟩:=HE (lt:=lt) ⟨irr,T.trans,λi j k hi hj hk a b=>by
  by_cases e:i=j;·rw[e];exact b
  ·cases c:lt i k with|false=>rfl|true=>rw[T.trans j i k hj hi hk ((T.total i j hi hj e).resolve_left (by rw[a];decide)) c]at b;cases b⟩ h5;refine⟨h1,h2,λi j U_ hj=>?_⟩;have Sr:i<n:=by omega
 have a:i<(pB lt (AR n)).size:=by rw[h2.size];exact Sr
 have b:j<(pB lt (AR n)).size:=by rw[h2.size];exact hj
 have e:=Fu.mp h3 i j (by simpa using a) (by simpa using b) U_;have ga:(pB lt (AR n)).getD i 0=(pB lt (AR n))[i]:=by simp[Rv,a]
 have gb:(pB lt (AR n)).getD j 0=(pB lt (AR n))[j]:=by simp[Rv,b]
 have la:=h2.lt Sr;have lb:=h2.lt hj;have ne:(pB lt (AR n)).getD i 0≠(pB lt (AR n)).getD j 0:=λz=>by have:=h2.inj Sr hj z;omega
 refine(T.total _ _ la lb ne).resolve_right λz=>?_;rw[ga,gb]at z;simp only[Array.getElem_toList]at e;rw[e (by rw[<-ga];exact h2.lt Sr) (by rw[<-gb];exact h2.lt hj)]at z;cases z
end L3
namespace L3
open PySem PySem.Spec PyProof.Rows PySem.W
def J1{l:h_}{vs:List g_}{o:Obj}{n:Nat}{T:String}{Q:List g_->l_->Prop}(ho:s.heap.get? l=b_ o)(hc:o.cls=.type T)(hd:o.data=.seq ↑i n)(hT:T="list"\/T="tuple")(h:Q vs {s with heap:=(s.heap.push (BW "list" #[] 0)).update ↑a (AF (·++↑i))})(hsz:↑g<=j_):o_ ↑w A (collect (.ref l)) Q E s:=by
 unfold collect;refine c_ (wpAny_runValue (BK entry_proto_collect' ?_));show o_ _ _ (do again (.builtin "list.__iadd__" ⟨[<-newList [],.ref l],[]⟩)) _ _ s;refine c_ (wpAny_newList (i_ ⟨FZ _ ↑J,BK entry_list_iadd' ?_⟩) (A5 _));show o_ _ _ (Ri (.ref ↑a) (.ref l) (.ref ↑a)) _ _ {s with heap:=s.heap.push (BW "list" #[] 0)};unfold Ri;have SS:(s.heap.push (BW "list" #[] 0)).get? l=b_ o:=f' _ ho;refine c_ (O4 ⟨o,SS,hc⟩ ?_);have e1:(Fj "list"==Fj "list")=e_:=by decide+kernel
 have e2:(Fj "tuple"==Fj "tuple")=e_:=by decide+kernel
 rw[if_pos (by rcases hT with rfl|rfl;(rw[e1];simp);(rw[e2];simp))];refine c_ (listItems_at SS hd ?_);refine c_ (listItems_at (sf _ rfl) rfl ?_);rw[if_neg ↑G];refine c_ (RT (sf _ rfl) rfl ?_ (A5 _) (by show(#[]++↑i).size<=j_+1;simp only[Array.size_append,sr,E_];omega));refine i_ ?_;show o_ ↑w A (do let o<-load ↑a match o.data with|.seq xs _=>pure xs.toList|_=>unsupported "internal:collect") Q E {s with heap:=(s.heap.push (BW "list" #[] 0)).update ↑a (AF (·++↑i))};refine c_ (wpAny_load (get?_update_seq (sf _ rfl) _) ?_);show o_ _ _ (pure ((#[]:Array g_)++↑i).toList) Q E _;rw[show((#[]:Array g_)++↑i).toList=vs by simp];exact i_ h
def Va{U:Array Nat->Prop}(ho:s.heap.get? a=b_ (BW "list" ↑i n))(ϊ:↑g<64)(S0:↑g<2->U (AU (t_ ↑g)))(S:2<=↑g->L7 lt ↑g (AR ↑g)/\Pm (pB lt (AR ↑g)) ↑g/\U (pB lt (AR ↑g)))(hk:2<=↑g->∀h',(∀b o,b≠a->s.heap.get? b=b_ o->h'.get? b=b_ o)->(∀(Q:SortKind->l_->Prop),Q κ {s with heap:=h'}->o_ ↑w A (keyKind' ↑i) Q (λ_ _=>False) {s with heap:=h'})/\∀i j(C:Bool->l_->Prop),i<↑g->j<↑g->C (lt i j) {s with heap:=h'}->o_ ↑w A (keyLt' κ (vs.getD i sZ) (vs.getD j sZ)) C (λ_ _=>False) {s with heap:=h'})(h:∀q:Array Nat,Pm q ↑g->U q->P (.done (.ret .none)) {s with heap:=sortedHeap s.heap a vs (AU (q.toList.map λi=>vs.getD i sZ))}):o_ ↑w A (BL.«list.sort» ⟨[.ref a],[]⟩) P E s:=by
 rw[list_sort_plain];have ha:a<↑a:=n_ ho;refine c_ (listItems_at ho rfl ?_);refine c_ (RT ho rfl ?_ (by rw[sr,Fe];omega) (A5 _));obtain⟨e1,ψ⟩:∃e1,(s.heap.update a (AF λ_=>(#[]:Array g_))).get? a=b_ (BW "list" #[] e1):=⟨_,get?_update_seq ho (λ_=>#[])⟩;refine c_ (seqEpoch_at ψ rfl ?_);refine c_ (wpAny_newTuple ?_ (by show ↑g<=_;rw[Fe];omega));refine c_ (wpAny_newList ?_ (A5 _));refine Ah ?_;have ho6:(((s.heap.update a (AF λ_=>(#[]:Array g_))).push (BW "tuple" ↑i 0)).push (BW "list" #[] 0)).get? a=b_ (BW "list" #[] e1):=by rw[FB _ _ _ (by rw[size_push',FN];exact su (BI ha)),FB _ _ _ (by rw[FN];exact su ha)];exact ψ
 show o_ ↑w A _ P E {s with heap:=((s.heap.update a (AF λ_=>(#[]:Array g_))).push (BW "tuple" ↑i 0)).push (BW "list" #[] 0)};dsimp only;have hsz:vs.toArray.size=↑g:=by simp
 by_cases h2:vs.toArray.size<2
 ·rw[if_pos h2,if_pos h2];refine c_ (i_ ?_);rw[StateT.run_pure];refine c_ (i_ ?_);dsimp only;refine c_ (seqEpoch_at ho6 rfl ?_);have hlen:↑g<2:=by omega
  have e2:(arrOf (SortSt.mk' general' (vs.toArray.zip ↑i) #[] 7 f_)).map (·.2)=AU ((AU (t_ ↑g)).toList.map λi=>vs.getD i sZ):=by refine kat_snds rfl ?_;have e:=kas_range (vs.toArray.zip ↑i);rw[show(vs.toArray.zip ↑i).size=↑g by simp]at e;exact e.symm
  have Z':Array.map (·.2) (vs.toArray.zip ↑i)=AU ((AU (t_ ↑g)).toList.map λi=>vs.getD i sZ):=e2;refine c_ (RT ho6 rfl ?_ (A5 _) (by show(Array.map (·.2) (arrOf (SortSt.mk' general' (vs.toArray.zip ↑i) #[] 7 f_))).size<=_;rw[e2,sr,j'];simp;rw[Fe];omega));simp only[bne_self_eq_false,AQ,if_false];refine i_ ?_;have:=h (AU (t_ ↑g)) ⟨by simp,by simp⟩ (S0 hlen);rw[<-Z']at this;exact this
 ·rw[if_neg h2,if_neg h2];have h2':2<=↑g:=by omega
  obtain⟨kk,kl⟩:=hk h2' _ (λb o hb e=>by have Si:b<↑a:=n_ e;show(((s.heap.update a (AF λ_=>(#[]:Array g_))).push (BW "tuple" ↑i 0)).push (BW "list" #[] 0)).get? b=b_ o;rw[FB _ _ _ (by rw[size_push',FN];exact su (BI Si)),FB _ _ _ (by rw[FN];exact su Si),O8 _ _ _ _ hb];exact e);refine c_ (sQ (kk (λκ' s'=>κ'=κ/\s'={s with heap:=((s.heap.update a (AF λ_=>(#[]:Array g_))).push (BW "tuple" ↑i 0)).push (BW "list" #[] 0)}) ⟨rfl,rfl⟩) (λκ' s0 hκ=>?_) λ_ _ x=>x.elim);obtain⟨rfl,rfl⟩:=hκ;obtain⟨hin,TJ,hq3⟩:=S h2';generalize X':pB lt (AR ↑g)=q at TJ hq3;refine c_ (sQ (kat_run (G:=λp s'=>p=q/\s'={s with heap:=((s.heap.update a (AF λ_=>(#[]:Array g_))).push (BW "tuple" ↑i 0)).push (BW "list" #[] 0)}) (Q:=λst' s'=>arrOf st'=q.map (kas_item (vs.toArray.zip ↑i))/\failedOf st'=f_/\s'={s with heap:=((s.heap.update a (AF λ_=>(#[]:Array g_))).push (BW "tuple" ↑i 0)).push (BW "list" #[] 0)}) rfl h2' ϊ (λp' st' s' a1 a2 a3 a4=>by obtain⟨rfl,rfl⟩:=a4;exact⟨a2,a3,rfl⟩) (ZY (λi j C hi hj hC=>kl i j C hi hj hC) (AR ↑g) hin ⟨X',rfl⟩)) ?_ λ_ _ e=>e);rintro⟨⟨⟩,st'⟩s'⟨har,hf,rfl⟩;dsimp only;have hout:=kat_snds rfl har;have hsz3:(AU (q.toList.map λi=>vs.getD i sZ)).size=↑g:=by rw[sr,j',F8,TJ.size]
  rw[hout];refine c_ (seqEpoch_at ho6 rfl ?_);refine c_ (RT ho6 rfl ?_ (A5 _) (A6 (OA hsz3) (by rw[Fe];omega)));rw[hf];simp only[bne_self_eq_false,AQ,if_false];exact i_ (h q TJ hq3)
def tN{U:Array Nat->Prop}{κ:SortKind}{lt:Nat->Nat->Bool}{l:h_}{vs:List g_}{o:Obj}{n:Nat}{Ty:String}{Q:g_->l_->Prop}(ho:s.heap.get? l=b_ o)(hc:o.cls=.type Ty)(hd:o.data=.seq ↑i n)(hT:Ty="list"\/Ty="tuple")(ϊ:↑g<64)(S0:↑g<2->U (AU (t_ ↑g)))(S:2<=↑g->L7 lt ↑g (AR ↑g)/\Pm (pB lt (AR ↑g)) ↑g/\U (pB lt (AR ↑g)))(hk:2<=↑g->∀h',(∀b o,s.heap.get? b=b_ o->h'.get? b=b_ o)->(∀(Q:SortKind->l_->Prop),Q κ {s with heap:=h'}->o_ ↑w A.in1.in1 (keyKind' ↑i) Q (λ_ _=>False) {s with heap:=h'})/\∀i j(C:Bool->l_->Prop),i<↑g->j<↑g->C (lt i j) {s with heap:=h'}->o_ ↑w A.in1.in1 (keyLt' κ (vs.getD i sZ) (vs.getD j sZ)) C (λ_ _=>False) {s with heap:=h'})(h:∀q:Array Nat,Pm q ↑g->U q->Q (.ref (↑a+1)) {s with heap:=sortedAll s.heap vs (AU (q.toList.map λi=>vs.getD i sZ))}):o_ ↑w A (call (.builtin "sorted") [.ref l]) Q E s:=by
 refine Calls.call_function_entry kind_sorted plain_sorted entry_sorted (args_sorted1 _) ?_;unfold BL.«sorted»;refine c_ (i_ ?_);refine c_ (J1 ho hc hd hT ?_ (by rw[Fe];omega));refine c_ (wpAny_newList ?_ (by rw[Fe];omega));have hsz:((s.heap.push (BW "list" #[] 0)).update ↑a (AF (·++↑i))).objs.size=↑a+1:=by rw[FN,size_push']
 have Ϥ:(((s.heap.push (BW "list" #[] 0)).update ↑a (AF (·++↑i))).push (BW "list" ↑i 0)).get? (↑a+1)=b_ (BW "list" ↑i 0):=by rw[<-hsz];exact sf _ rfl
 have keep:∀b o,s.heap.get? b=b_ o->(((s.heap.push (BW "list" #[] 0)).update ↑a (AF (·++↑i))).push (BW "list" ↑i 0)).get? b=b_ o:=λb o q=>by have Si:b<↑a:=n_ q;rw[FB _ _ _ (by rw[hsz];exact su (BI Si)),O8 _ _ _ _ (su Si),FB _ _ _ (su Si)];exact q
 show o_ _ _ _ _ _ {s with heap:=((s.heap.push (BW "list" #[] 0)).update ↑a (AF (·++↑i))).push (BW "list" ↑i 0)};rw[hsz];refine c_ (Ah (BN slot_list_sort ⟨_,Ϥ,rfl⟩ entry_list_sort (Va (κ:=κ) (U:=U) Ϥ ϊ S0 S (λh2 h' kp=>?_) λq X' TJ=>⟨_,rfl,?_⟩) (args_list_sort _)));·exact hk h2 h' λb o e=>kp b o (su (BI (n_ e))) (keep b o e)
 ·exact i_ ⟨_,rfl,h q X' TJ⟩
end L3
namespace L3
open PySem PySem.Spec PyProof.Rows PySem.W L2
def kD:T->List (List Nat)|.str z=>[z.cps.toList]|.tup (.str a::.str b::_)=>[a.cps.toList,b.cps.toList]|_=>[]
def Vb:T->Bool|.str _=>e_|_=>a_
def Qc:T->Bool|.tup (.str _::.str _::_)=>e_|_=>a_
def J2(a b:T):Bool:=decide (kD a<kD b)
def cQ(t:T):List T->List T|[]=>[t]|u::us=>if J2 u t=e_ then u::cQ t us else t::u::us
def qo:List T->List T|[]=>[]|t::ts=>cQ t (qo ts)
def sortS(ts:List T):Option (List T):=if ↑c<=5/\(ts.all Vb=e_\/ts.all Qc=e_)/\(ts.map kD).Nodup then b_ (qo ts)else f_
def nK:List T->Option RV|[.lst ts]=>(sortS ts).map λus=>(e_,.lst us)|[.tup ts]=>(sortS ts).map λus=>(e_,.lst us)|_=>f_
def iM(t:T):∀us:List T,(cQ t us).Perm (t::us)
 |[]=>O1 _|u::us=>by
  unfold cQ;split;·exact((iM t us).cons u).trans (List.Perm.swap t u us)
  ·exact O1 _
def gV:∀ts:List T,(qo ts).Perm ts|[]=>O1 _|t::ts=>(iM t (qo ts)).trans ((gV ts).cons t)
def W5{a b:List (List Nat)}(h:¬a<b)(g:¬b<a):a=b:=List.le_antisymm (List.not_lt.mp g) (List.not_lt.mp h)
def eK{t:T}:∀{us:List T},us.Pairwise (λa b=>J2 a b=e_)->(∀u∈us,kD u≠kD t)->(cQ t us).Pairwise (λa b=>J2 a b=e_)
 |[],_,_=>by unfold cQ;simp|u::us,h,hn=>by
  unfold cQ;have hp:=Op.mp h;split
  ·rename_i hl;refine Op.mpr ⟨λx hx=>?_,eK hp.2 λv hv=>hn v (k_ _ hv)⟩;rcases sB.mp ((iM t us).mem_iff.mp hx)with rfl|hx;·exact hl
   ·exact hp.1 x hx
  ·rename_i hl;have htu:J2 t u=e_:=by unfold J2 at hl⊢;refine decide_eq_true ?_;refine Classical.byContradiction λz=>?_;exact hn u m_ (W5 (by simpa using hl) z)
   refine Op.mpr ⟨λx hx=>?_,h⟩;rcases sB.mp hx with rfl|hx;·exact htu
   ·have h1:=of_decide_eq_true htu;have h2:=of_decide_eq_true (hp.1 x hx);exact decide_eq_true (List.lt_trans h1 h2)
def m7:∀{ts:List T},(ts.map kD).Nodup->(qo ts).Pairwise (λa b=>J2 a b=e_)|[],_=>List.Pairwise.nil|t::ts,h=>by rw[sG]at h;have hn:=D'.mp h;refine eK (m7 hn.2) λu hu e=>hn.1 ?_;rw[<-e];exact sH.mpr ⟨u,(gV ts).mem_iff.mp hu,rfl⟩
def iN(ts:List T)(i j:Nat):Bool:=match ts[i]?,ts[j]? with|some a,b_ b=>J2 a b|_,_=>a_
def HG{ts:List T}(h:(ts.map kD).Nodup):TO (iN ts) ↑c:=by
 refine⟨λi j hi hj e=>?_,λi j k hi hj hk e1 e2=>?_,λi j hi hj U_=>?_⟩;·unfold iN at e⊢;obtain⟨a,ha⟩:∃a,ts[i]?=b_ a:=⟨ts[i],by simp[hi]⟩;obtain⟨b,hb⟩:∃b,ts[j]?=b_ b:=⟨ts[j],by simp[hj]⟩;rw[ha,hb]at e⊢;exact decide_eq_false (List.lt_asymm (of_decide_eq_true e))
 ·unfold iN at e1 e2⊢;obtain⟨a,ha⟩:∃a,ts[i]?=b_ a:=⟨ts[i],by simp[hi]⟩;obtain⟨b,hb⟩:∃b,ts[j]?=b_ b:=⟨ts[j],by simp[hj]⟩;obtain⟨c,hc⟩:∃c,ts[k]?=b_ c:=⟨ts[k],by simp[hk]⟩;rw[ha,hb]at e1;rw[hb,hc]at e2;rw[ha,hc];exact decide_eq_true (List.lt_trans (of_decide_eq_true e1) (of_decide_eq_true e2))
 ·unfold iN;obtain⟨a,ha⟩:∃a,ts[i]?=b_ a:=⟨ts[i],by simp[hi]⟩;obtain⟨b,hb⟩:∃b,ts[j]?=b_ b:=⟨ts[j],by simp[hj]⟩;rw[ha,hb];have TX:kD a≠kD b:=λe=>by
   have h1:(ts.map kD)[i]?=b_ (kD a):=by rw[sI,ha];rfl
   have h2:(ts.map kD)[j]?=b_ (kD b):=by rw[sI,hb];rfl
   rw[<-e]at h2;exact U_ ((RK (by simpa using hi) h).mp (h1.trans h2.symm))
  by_cases hl:kD a<kD b;·exact .inl (decide_eq_true hl)
  ·refine .inr (decide_eq_true ?_);exact Classical.byContradiction λz=>TX (W5 hl z)
def L8(h:(ts.map kD).Nodup)(hq:Pm q ↑c)(u:Up (iN ts) q ↑c):q.toList.map (λi=>(ts[i]?).getD .non)=qo ts:=by
 have hp:(q.toList.map (λi=>(ts[i]?).getD .non)).Perm ts:=by
  have h1:(q.toList.map (λi=>(ts[i]?).getD .non)).Perm ((t_ ↑c).map (λi=>(ts[i]?).getD .non)):=hq.perm.map _;have h2:(t_ ↑c).map (λi=>(ts[i]?).getD .non)=ts:=by
   apply List.ext_getElem?;intro i;rw[sI];by_cases hi:i<↑c;·simp[hi]
   ·simp[hi]
  rw[h2]at h1;exact h1
 refine List.Perm.eq_of_pairwise (λa b _ _ h1 h2=>?_) ?_ (m7 h) (hp.trans (gV ts).symm);·exact absurd (of_decide_eq_true h2) (List.lt_asymm (of_decide_eq_true h1))
 ·rw[Fu];intro i j hi hj U_;rw[j',F8,hq.size]at hi hj;have e:=u i j U_ hj;have Sr:i<q.size:=by rw[hq.size];exact hi
  have hj':j<q.size:=by rw[hq.size];exact hj
  have g1:q.getD i 0=q[i]:=by simp[Rv,Sr]
  have g2:q.getD j 0=q[j]:=by simp[Rv,hj']
  rw[g1,g2]at e;have b1:q[i]<↑c:=by rw[<-g1];exact hq.lt hi
  have b2:q[j]<↑c:=by rw[<-g2];exact hq.lt hj
  simp only[List.getElem_map,Array.getElem_toList];unfold iN at e;have c1:ts[q[i]]?=b_ ts[q[i]]:=by simp[b1]
  have c2:ts[q[j]]?=b_ ts[q[j]]:=by simp[b2]
  rw[c1,c2]at e⊢;exact e
def rq{K:d_}{F:h_->Prop}{H:Hp}{vs:List V}(h:IsAll K F H [] vs):vs=[]:=by unfold IsAll at h;exact h
section
variable{X:Cx}{pins:List (h_×Obj)}{σ:St}{H:Hp}{s:l_}{F:h_->Prop}
theorem cR:∀{ts:List T}{vs:List V}{us:List g_},ts.all Vb=e_->IsAll X.K F H ts vs->zQ vs us->∃ss,StrsAre us ss|[],vs,us,_,i,r=>by have:=rq i;subst this;cases r;exact⟨[],.nil⟩|t::ts,vs,us,h,i,r=>by unfold IsAll at i;obtain⟨v,w,rfl,i1,i2⟩:=i;cases r with|cons r1 r2=>rw[Oi,y_]at h;obtain⟨ss,hs⟩:=cR h.2 i2 r2;cases t<;>simp only[Vb,AQ,false_and]at h;case str z=>unfold Is at i1;subst i1;obtain⟨tk,rfl⟩:=r1;exact⟨z::ss,.cons z tk hs⟩
theorem PP{prog:sN}{w:sY}{A:A3}{E:g_->l_->Prop}{s:l_}{a b:T}{x y:V}{u v:g_}{K:d_}{C:Bool->l_->Prop}(ha:Vb a=e_)(hb:Vb b=e_)(ia:Is K F H a x)(ib:Is K F H b y)(ra:L2.RelV x u)(rb:L2.RelV y v)(h:C (J2 a b) s):o_ ↑w A (keyLt' oneType' u v) C E s:=by cases a<;>simp only[Vb,AQ]at ha;case str a=>cases b<;>simp only[Vb,AQ]at hb;case str b=>
   unfold Is at ia ib;subst ia ib;obtain⟨t,rfl⟩:=ra;obtain⟨t',rfl⟩:=rb;refine kas_lt_str ?_;have:J2 (.str a) (.str b)=decide (a.cps.toList<b.cps.toList):=by
    unfold J2 kD;refine decide_eq_decide.mpr ⟨λh=>?_,λh=>?_⟩
    ·rcases AH.mp h with h|⟨_,h⟩;·exact h
     ·exact absurd h ↑G
    ·exact AH.mpr (.inl h)
   rw[<-this];exact h
theorem eL:∀(xs:List g_)(i:Nat),Q fin s->KatLex prog w A b fin Q (xs.zip xs) i s|[],i,h=>h|x::xs,i,h=>by rw[List.zip_cons_cons];exact kat_cons (sU.same x _ _ _ _ (kat_yes (eL xs (i+1) h)))
theorem iO{K:d_}{a1 a2:Str}{ar:List T}{vs:List V}{us:List g_}(i:IsAll K F H (.str a1::.str a2::ar) vs)(r:zQ vs us):∃t1 t2 ur,us=.str a1 t1::.str a2 t2::ur:=by unfold IsAll at i;obtain⟨v1,w1,rfl,i1,i2⟩:=i;unfold IsAll at i2;obtain⟨v2,w2,rfl,i3,i4⟩:=i2;unfold Is at i1 i3;subst i1 i3;cases r with|cons r1 r2=>cases r2 with|cons r3 r4=>obtain⟨t1,rfl⟩:=r1;obtain⟨t2,rfl⟩:=r3;exact⟨t1,t2,_,rfl⟩
theorem PR:J2 (.tup (.str a1::.str a2::ar)) (.tup (.str b1::.str b2::br))=if(a1==b1)=e_ then decide (a2.cps.toList<b2.cps.toList)else decide (a1.cps.toList<b1.cps.toList):=by
 have ext:∀{x y:Str},x.cps.toList=y.cps.toList->x=y:=by intro x y h;cases x;cases y;simp only[Str.mk.injEq];exact Array.toList_inj.mp h
 unfold J2 kD;by_cases e:a1=b1
 ·subst e;rw[if_pos ↑G];refine decide_eq_decide.mpr ⟨λh=>?_,λh=>?_⟩
  ·rcases AH.mp h with h|⟨_,h⟩;·exact absurd h (List.lt_irrefl _)
   ·rcases AH.mp h with h|⟨_,h⟩;·exact h
    ·exact absurd h ↑G
  ·exact AH.mpr (.inr ⟨rfl,AH.mpr (.inl h)⟩)
 ·rw[if_neg (by simpa using e)];refine decide_eq_decide.mpr ⟨λh=>?_,λh=>?_⟩
  ·rcases AH.mp h with h|⟨h,_⟩;·exact h
   ·exact absurd (ext h) e
  ·exact AH.mpr (.inl h)
theorem PU(hp:Oy s.heap p (AU (.str a1 t1::.str a2 t2::ur)))(hq:Oy s.heap q (AU (.str b1 t3::.str b2 t4::wr)))(hd:kD (.tup (.str a1::.str a2::ar))≠kD (.tup (.str b1::.str b2::br))\/p=q)(h:C (J2 (.tup (.str a1::.str a2::ar)) (.tup (.str b1::.str b2::br))) s):o_ ↑w A (keyLt' (tuples' e_) (.ref p) (.ref q)) C E s:=by
 obtain⟨o1,e1,c1,n1,d1⟩:=id hp;obtain⟨o2,e2,c2,n2,d2⟩:=id hq;refine kat_lt e1 d1 e2 d2 ?_;rcases hd with hd|hd
 ·rw[PR]at h;show KatLex prog w A e_ _ C ((Bz a1 t1,Bz b1 t3)::(Bz a2 t2,Bz b2 t4)::ur.zip wr) 0 s;refine kat_cons (SeqAt.EqAt.str_str a1 t1 b1 t3 _ _ _ _ ?_);by_cases x1:(a1==b1)=e_
  ·rw[x1];rw[if_pos x1]at h;refine kat_yes (kat_cons (SeqAt.EqAt.str_str a2 t2 b2 t4 _ _ _ _ ?_));have x2:(a2==b2)=a_:=by cases z:a2==b2 with|false=>rfl|true=>
     exfalso;refine hd ?_;have z1:a1=b1:=by simpa using x1
     have z2:a2=b2:=by simpa using z
     rw[z1,z2];rfl
   rw[x2];exact kat_no (kat_one _ _ (PyProof.Rows.lt_str h))
  ·have x1':(a1==b1)=a_:=by simpa using x1
   rw[x1'];rw[if_neg x1]at h;exact kat_no (oneLt_str h)
 ·subst hd;rw[e1]at e2;cases e2;rw[d1]at d2;have:Bz a1 t1::Bz a2 t2::ur=Bz b1 t3::Bz b2 t4::wr:=by have:=d2;injection this with this _;simpa using this
  rw[<-this];refine eL _ 0 ?_;have hirr:J2 (.tup (.str a1::.str a2::ar)) (.tup (.str b1::.str b2::br))=a_:=by injection this with g1 g2;injection g1 with g1 _;injection g2 with g2 _;injection g2 with g2 _;subst g1 g2;unfold J2 kD;exact decide_eq_false (List.lt_irrefl _)
  rw[hirr]at h;have:decide ((Bz a1 t1::Bz a2 t2::ur).toArray.size<(Bz a1 t1::Bz a2 t2::ur).toArray.size)=a_:=decide_eq_false (BQ _);rw[this];exact h
theorem cS{K:d_}{ts:List T}{vs:List V}(h:IsAll K F H ts vs):∀{is:List Nat},(∀i∈is,i<↑c)->IsAll K F H (is.map λi=>(ts[i]?).getD .non) (is.map λi=>(vs[i]?).getD .non)
 |[],_=>IsAll.nil|i::is,hi=>by
  have h0:=hi i m_;obtain⟨v,hv,q⟩:=h.get (i:=i) (t:=ts[i]) (by simp[h0]);refine IsAll.cons ?_ (cS h λj hj=>hi j (k_ _ hj));show Is K F H ((ts[i]?).getD T.non) ((vs[i]?).getD V.non);rw[hv];have:ts[i]?=b_ ts[i]:=by simp[h0]
  rw[this];exact q
theorem tO(h:zQ vs us):∀{is:List Nat},(∀i∈is,i<↑g)->zQ (is.map λi=>(vs[i]?).getD .non) (is.map λi=>us.getD i sZ)
 |[],_=>.nil|i::is,hi=>by
  have h0:=hi i m_;obtain⟨u,hu,q⟩:=h.get (i:=i) (x:=vs[i]) (by simp[h0]);refine .cons ?_ (tO h λj hj=>hi j (k_ _ hj));have e1:vs[i]?=b_ vs[i]:=by simp[h0]
  have e2:us.getD i sZ=u:=by rw[AS,hu];rfl
  show L2.RelV ((vs[i]?).getD V.non) (us.getD i sZ);rw[e1,e2];exact q
theorem dJ(h:zQ vs us)(hi:i<↑h):∃v,vs[i]?=b_ v/\L2.RelV v (us.getD i sZ):=by have hl:=h.length;obtain⟨u,hu,q⟩:=h.get (i:=i) (x:=vs[i]'↑p) ↑G;refine⟨vs[i]'↑p,by simp,?_⟩;rw[AS,hu];exact q
theorem cT(h:Qc t=e_):∃a b r,t=.tup (.str a::.str b::r):=by
 unfold Qc at h;split at h;·rename_i a b r;exact⟨a,b,r,rfl⟩
 ·cases h
theorem cU(I:zu X pins σ H s){h':w_}(kp:∀b o,s.heap.get? b=b_ o->h'.get? b=b_ o):∀{ts:List T}{vs:List V}{us:List g_},ts.all Qc=e_->IsAll X.K F H ts vs->zQ vs us->∃fs,KatTups h' us fs/\fs.length=↑h/\∀v∈fs,∃z t,v=.str z t|[],vs,us,_,i,r=>by have:=rq i;subst this;cases r;exact⟨[],trivial,rfl,λv h=>by cases h⟩|t::ts,vs,us,h,i,r=>by unfold IsAll at i;obtain⟨v,w,rfl,i1,i2⟩:=i;cases r with|cons r1 r2=>rw[Oi,y_]at h;obtain⟨fs,hf,hl,hs⟩:=cU I kp h.2 i2 r2;obtain⟨a,b,ar,rfl⟩:=cT h.1;unfold Is at i1;obtain⟨p,ps,rfl,g1,g2⟩:=i1;cases r1;obtain⟨its,rv,pl,_⟩:=I.tuple g1;obtain⟨t1,t2,ur,rfl⟩:=iO g2 rv;obtain⟨o,e,c,n,d⟩:=pl;exact⟨.str a t1::fs,KatTups.cons (kp _ _ e) c d ↑G hf,by rw[sA,sA,hl],λv hv=>by
   rcases sB.mp hv with rfl|hv;·exact⟨a,t1,rfl⟩
   ·exact hs v hv⟩
theorem tP{ts us:List T}{l:h_}{vs:List V}{its:List g_}{o:Obj}{n:Nat}{Ty:String}{Q:VK}{E:g_->l_->Prop}(I:zu X pins σ H s)(d:aq F H)(ia:IsAll X.K F H ts vs)(r:zQ vs its)(ho:s.heap.get? l=b_ o)(hc:o.cls=.type Ty)(hd:o.data=.seq its.toArray n)(hT:Ty="list"\/Ty="tuple")(e:sortS ts=b_ us)(q:∀v F' H',jB F H F' H'->kN X.K (λa=>H a=f_) F' H' v (e_,.lst us)->Q v H'):o_ ↑n X.A (call (.builtin "sorted") [.ref l]) (EP X pins σ Q) E s:=by
 unfold sortS at e;split at e
 ·rename_i hcnd;obtain⟨ϊ,hk,nd⟩:=hcnd;cases e;have l1:=ia.len;have l2:=r.length;have T0:=HG nd;have hlen:its.length=↑c:=by omega
  have fin:∀qa:Array Nat,Pm qa its.length->Up (iN ts) qa its.length->EP X pins σ Q (.ref (↑a+1)) {s with heap:=sortedAll s.heap its (AU (qa.toList.map λi=>its.getD i sZ))}:=by
   intro qa hq hu;rw[hlen]at hq hu;have hb:∀i∈qa.toList,i<↑c:=λi hi=>BT.mp (hq.perm.mem_iff.mp hi);have e1:=L8 nd hq hu;obtain⟨ep,hep⟩:=sortedAll_at s.heap its (AU (qa.toList.map λi=>its.getD i sZ));have ι:H (↑a+1)=f_:=I.hok.fresh (FV _);have hz:(qa.toList.map λi=>(vs[i]?).getD .non).length<=j_:=by rw[j',F8,hq.size,Fe];omega
   refine⟨.ref (↑a+1),zO H (↑a+1) (.lst (qa.toList.map λi=>(vs[i]?).getD .non)),I.laid (λb ob e=>sortedAll_old e) (FV _) ?_,rfl,?_⟩;·exact⟨hz,_,ep,tO r (λi hi=>by have:=hb i hi;omega),hep⟩
   ·have:=cS ia hb;rw[e1]at this;exact Px d this ι q
  rcases hk with hk|hk
  ·refine tN (U:=λq=>Up (iN ts) q its.length) (κ:=oneType') ho hc hd hT ↑p (λh2 i j _ _=>by omega) (λ_=>by rw[hlen];exact HF T0 ϊ) (λh2 h' kp=>⟨λQ' hQ=>?_,λi j C hi hj hC=>?_⟩) fin;·obtain⟨ss,hs⟩:=cR hk ia r;match its,h2,hs with|v₁::v₂::rest,_,hs=>rw[keyKind_strs hs];exact i_ hQ
   ·obtain⟨vi,hvi,ri⟩:=dJ r hi;obtain⟨vj,hvj,rj⟩:=dJ r hj;have bi:i<↑c:=by omega
    have bj:j<↑c:=by omega
    obtain⟨vi',hvi',qi⟩:=ia.get (i:=i) (t:=ts[i]) (by simp[bi]);obtain⟨vj',hvj',qj⟩:=ia.get (i:=j) (t:=ts[j]) (by simp[bj]);rw[hvi]at hvi';cases hvi';rw[hvj]at hvj';cases hvj';have hall:=BD.mp hk;refine PP (hall _ (BE bi)) (hall _ (BE bj)) qi qj ri rj ?_;have:iN ts i j=J2 ts[i] ts[j]:=by
     unfold iN;have c1:ts[i]?=b_ ts[i]:=by simp[bi]
     have c2:ts[j]?=b_ ts[j]:=by simp[bj]
     rw[c1,c2]
    rw[<-this];exact hC
  ·refine tN (U:=λq=>Up (iN ts) q its.length) (κ:=tuples' e_) ho hc hd hT ↑p (λh2 i j _ _=>by omega) (λ_=>by rw[hlen];exact HF T0 ϊ) (λh2 h' kp=>⟨λQ' hQ=>?_,λi j C hi hj hC=>?_⟩) fin
   ·obtain⟨fs,hf,hfl,Β⟩:=cU I kp hk ia r;refine kat_kind (T:=.type "str") hf ↑p (λv hv=>?_) ↑J ?_;·obtain⟨z,t,rfl⟩:=Β v hv;exact Looks.now
    ·have:(Fj "str"!=Fj "tuple")=e_:=by decide+kernel
     rw[this];exact hQ
   ·obtain⟨vi,hvi,ri⟩:=dJ r hi;obtain⟨vj,hvj,rj⟩:=dJ r hj;have bi:i<↑c:=by omega
    have bj:j<↑c:=by omega
    obtain⟨vi',hvi',qi⟩:=ia.get (i:=i) (t:=ts[i]) (by simp[bi]);obtain⟨vj',hvj',qj⟩:=ia.get (i:=j) (t:=ts[j]) (by simp[bj]);rw[hvi]at hvi';cases hvi';rw[hvj]at hvj';cases hvj';have hall:=BD.mp hk;have this:iN ts i j=J2 ts[i] ts[j]:=by
     unfold iN;have c1:ts[i]?=b_ ts[i]:=by simp[bi]
     have c2:ts[j]?=b_ ts[j]:=by simp[bj]
     rw[c1,c2]
    rw[this]at hC;have hd:kD ts[i]≠kD ts[j]\/vi=vj:=by
     by_cases U_:i=j;·subst U_;rw[hvi]at hvj;exact .inr (sF hvj)
     ·refine .inl λe=>U_ ?_;have h1:(ts.map kD)[i]?=b_ (kD ts[i]):=by rw[sI];simp[bi]
      have h2:(ts.map kD)[j]?=b_ (kD ts[j]):=by rw[sI];simp[bj]
      rw[<-e]at h2;exact(RK (by simpa using bi) nd).mp (h1.trans h2.symm)
    obtain⟨a1,a2,ar,ea⟩:=cT (hall _ (BE bi));obtain⟨b1,b2,br,eb⟩:=cT (hall _ (BE bj));rw[ea]at qi hC hd;rw[eb]at qj hC hd;unfold Is at qi qj;obtain⟨p,ps,rfl,g1,g2⟩:=qi;obtain⟨p',ps',rfl,g3,g4⟩:=qj;have e1:its.getD i sZ=.ref p:=ri;have e2:its.getD j sZ=.ref p':=rj;rw[e1,e2];obtain⟨i1,rv1,pl1,_⟩:=I.tuple g1;obtain⟨i2,rv2,pl2,_⟩:=I.tuple g3;obtain⟨t1,t2,ur,rfl⟩:=iO g2 rv1;obtain⟨t3,t4,wr,rfl⟩:=iO g4 rv2;have up:∀{c:h_}{xs:Array g_},Oy s.heap c xs->Oy h' c xs:=λ⟨o,e,r⟩=>⟨o,kp _ _ e,r⟩;exact PU (up pl1) (up pl2) (hd.imp id λz=>by injection z) hC
 ·cases e
end
def Vc:gw X (.builtin "sorted") (Pw X.K nK):=by intro pins s σ H xs us Q I r h;obtain⟨F,ts,rv,d,ia,e,q⟩:=h;match ts,e with|[.lst ts],e=>simp only[nK,sJ]at e;obtain⟨ss,es,rfl⟩:=e;obtain⟨v,rfl,i⟩:=cO ia;obtain⟨u,rfl,ru⟩:=el r;unfold Is at i;obtain⟨a,vs,rfl,g1,g2⟩:=i;cases ru;obtain⟨its,r',pl,hz⟩:=I.list g1.sq;obtain⟨o,ho,hc,n,hd⟩:=pl.isList;exact tP I d g2 r' ho hc hd (.inl rfl) es q|[.tup ts],e=>simp only[nK,sJ]at e;obtain⟨ss,es,rfl⟩:=e;obtain⟨v,rfl,i⟩:=cO ia;obtain⟨u,rfl,ru⟩:=el r;unfold Is at i;obtain⟨a,vs,rfl,g1,g2⟩:=i;cases ru;obtain⟨its,r',pl,hz⟩:=I.tuple g1;obtain⟨o,ho,hc,n,hd⟩:=pl;exact tP I d g2 r' ho hc hd (.inr rfl) es q
end L3
namespace L3
open PySem PySem.Spec PyProof.Rows L2
def mM:∀(names:List (Str×BM))(Sk:List (Str×h_)),(∀y,(y,Aj)∈names->∃c,env.cells.lookup y=b_ c)->∃cl,(forIn names Sk λ(x:Str×BM)(cs:List (Str×h_))=>(if(x.2==Aj)=e_ then do let a<-cellOf env x.1;pure (By ((x.1,a)::cs))else pure (By cs):Sem (ForInStep (List (Str×h_)))))=pure cl/\(∀y c,cl.lookup y=b_ c->Sk.lookup y=b_ c\/env.cells.lookup y=b_ c)/\(∀y,((y,Aj)∈names\/∃c,Sk.lookup y=b_ c)->∃c,cl.lookup y=b_ c)
 |[],Sk,h=>⟨Sk,by rw[List.forIn_nil],λy c e=>.inl e,λy z=>by
  rcases z with z|z;·cases z
  ·exact z⟩|(n,k)::r,Sk,h=>by
  rw[List.forIn_cons];by_cases hk:(k==Aj)=e_
  ·have To:k=Aj:=by simpa using hk
   subst To;obtain⟨c,hc⟩:=h n m_;obtain⟨cl,e,h1,h2⟩:=mM r ((n,c)::Sk) λy hy=>h y (k_ _ hy);refine⟨cl,?_,λy d ed=>?_,λy z=>?_⟩
   ·have e2:cellOf env n=pure c:=by unfold cellOf;rw[hc]
    simp only[hk,if_true,e2,pure_bind];exact e
   ·rcases h1 y d ed with z|z
    ·rw[Ad]at z;cases hy:y==n with|true=>
      rw[hy]at z;have:y=n:=by simpa using hy
      subst this;cases z;exact .inr hc|false=>rw[hy]at z;exact .inl z
    ·exact .inr z
   ·refine h2 y ?_;rcases z with z|⟨d,z⟩
    ·rcases sB.mp z with z|z
     ·have:y=n:=by injection z
      subst this;exact .inr ⟨c,by rw[Ad];simp⟩
     ·exact .inl z
    ·rw[Ad];cases hy:y==n with|true=>exact .inr ⟨c,rfl⟩|false=>exact .inr ⟨d,z⟩
  ·obtain⟨cl,e,h1,h2⟩:=mM r Sk λy hy=>h y (k_ _ hy);refine⟨cl,?_,h1,λy z=>h2 y ?_⟩;·simp only[hk,if_false,pure_bind];exact e
   ·rcases z with z|z
    ·rcases sB.mp z with z|z
     ·have:k=Aj:=by injection z with _ z;exact z.symm
      subst this;exact absurd ↑G hk
     ·exact .inl z
    ·exact .inr z
def YY(h:∀y,(y,Aj)∈scope.names->∃c,env.cells.lookup y=b_ c):∃cl,closureFor scope env=pure cl/\(∀y c,cl.lookup y=b_ c->env.cells.lookup y=b_ c)/\∀y,(y,Aj)∈scope.names->∃c,cl.lookup y=b_ c:=by
 obtain⟨cl,e,h1,h2⟩:=mM (env:=env) scope.names [] h;refine⟨cl,?_,λy c ec=>?_,λy hy=>h2 y (.inl hy)⟩;·unfold closureFor;show(forIn scope.names ([]:List (Str×h_)) (λ(x:Str×BM)(cs:List (Str×h_))=>(match x with|(name,kind)=>if(kind==Aj)=e_ then do let a<-cellOf env name;pure (By ((name,a)::cs))else pure (By cs):Sem (ForInStep (List (Str×h_)))))>>=λr=>pure r)=pure cl;have e':(forIn scope.names ([]:List (Str×h_)) λ(x:Str×BM)(cs:List (Str×h_))=>(match x with|(name,kind)=>if(kind==Aj)=e_ then do let a<-cellOf env name;pure (By ((name,a)::cs))else pure (By cs):Sem (ForInStep (List (Str×h_)))))=pure cl:=e;rw[e',pure_bind]
 ·rcases h1 y c ec with z|z;·cases z
  ·exact z
structure zL(N:List Str)(ϒ scope:FI)(x:Str)(caps:List Str)(slots:List Nat):Prop where
 kind:scope.kind=.function
 fkind:ϒ.kind=.function
 nocell:∀y∈scope.names,y.2≠.cell
 names:∀y∈scope.names,y.2=.local->scope.names.lookup y.1=b_ .local
 hx:scope.names.lookup x=b_ .local
 free:∀y∈scope.names,y.2=.free->ϒ.names.lookup y.1=b_ .cell
 cap:∀y∈caps,scope.names.lookup y=b_ .free/\ϒ.names.lookup y=b_ .cell
 nd:(x::caps).Nodup
 len:slots.length=caps.length
 slot:slots.map (λk=>N[k]?)=caps.map b_
def kR{l:List (Str×BM)}{y:Str}{k:BM}(h:l.lookup y=b_ k):(y,k)∈l:=F9 h
def gk{env:Env}:∀{names:List (Str×BM)}{y:Str}{k:BM},(names.map λ(n,k)=>if(k==Aj&&env.scope.kind==.function&&env.kindOf n==b_ .cell)=e_ then(n,BM.cell)else(n,k)).lookup y=b_ k->∃k',names.lookup y=b_ k'/\(k=k'\/(k'=.free/\k=.cell))
 |[],y,k,h=>by simp at h|(n,q)::r,y,k,h=>by
  rw[sG,Ad]at h;rw[Ad];by_cases hc:(q==Aj&&env.scope.kind==.function&&env.kindOf n==b_ .cell)=e_;·simp only[hc,if_true]at h;cases hy:y==n with|true=>rw[hy]at h;cases h;simp only[y_]at hc;exact⟨q,rfl,.inr ⟨by simpa using hc.1.1,rfl⟩⟩|false=>rw[hy]at h;exact gk h
  ·simp only[hc,AQ,if_false]at h;cases hy:y==n with|true=>rw[hy]at h;cases h;exact⟨q,rfl,.inl rfl⟩|false=>rw[hy]at h;exact gk h
def lJ{env:Env}(hk:env.scope.kind=.function):∀{names:List (Str×BM)}{y:Str},names.lookup y=b_ .free->env.kindOf y=b_ .cell->(names.map λ(n,k)=>if(k==Aj&&env.scope.kind==.function&&env.kindOf n==b_ .cell)=e_ then(n,BM.cell)else(n,k)).lookup y=b_ .cell
 |[],y,h,_=>by simp at h|(n,q)::r,y,h,hc=>by
  rw[sG,Ad];rw[Ad]at h
  cases hy:y==n with|true=>
   rw[hy]at h;cases h;have:y=n:=by simpa using hy
   subst this;have SZ:(Aj==Aj&&env.scope.kind==.function&&env.kindOf y==b_ .cell)=e_:=by rw[hk,hc];rfl
   simp only[SZ,if_true];rw[hy]|false=>
   rw[hy]at h;have ih:=lJ hk h hc;by_cases SZ:(q==Aj&&env.scope.kind==.function&&env.kindOf n==b_ .cell)=e_;·simp only[SZ,if_true,hy];exact ih
   ·simp only[SZ,AQ,if_false,hy];exact ih
def uR{X:Cx}{scope:FI}{x:Str}{caps:List Str}{slots:List Nat}{L:Nat}(C:zL X.N X.env.scope scope x caps slots)(hc:X.env.cells=Oq L X.env.scope.names []):∃cl,cx X scope cl x caps slots:=by
 obtain⟨cl,e,h1,h2⟩:=YY (scope:=scope) (env:=X.env) λy hy=>by rw[hc];exact cb (C.free _ hy rfl)
 refine⟨cl,C.kind,C.nocell,C.names,C.hx,e,h1,λy hy=>h2 y ?_,λj y hj=>?_,C.nd,C.len⟩
 ·rcases hy with hy|hy
  ·obtain⟨k',e1,e2|⟨e2,_⟩⟩:=gk hy;·subst e2;exact absurd rfl (C.nocell _ (kR e1))
   ·subst e2;exact kR e1
  ·obtain⟨k',e1,e2|⟨e2,_⟩⟩:=gk hy;·subst e2;exact kR e1
   ·subst e2;exact kR e1
 ·have hl:=C.len;have hjl:j<caps.length:=(sP.mp hj).1;have hs:=congrArg (λl=>l[j]?) C.slot;simp only[sI,hj,Fx]at hs;cases hk:slots[j]? with|none=>rw[hk]at hs;cases hs|some k=>rw[hk]at hs;obtain⟨q1,q2⟩:=C.cap y (Av hj);exact⟨k,rfl,by injection hs,lJ C.fkind q1 q2,q2⟩
section
variable{X:Cx}{scope:FI}{x:Str}{caps:List Str}{slots:List Nat}{Sd Ss:A1}{Sl:List A1}{px pos:Pos}{it:rp}{mt:MT}{me:ME}{L:Nat}
theorem qy(hc:X.calm=e_)(C:zL X.N X.env.scope scope x caps slots)(So:X.env.cells=Oq L X.env.scope.names [])(hi:YW X (.Name x px) Sd it)(ht:∀cl C ex pn s₀ H₀,ay ↑q Sl mt)(he:∀cl C ex pn s₀ H₀,jb ↑q Ss me)(hs:∀v,u_ Sd X.env v=pure v:=by intro _;rfl)(hg:∀it v,AB (.Name x px) it v=pure ():=by intro _ _;rfl):jb X ↑B (jq it mt me slots):=by obtain⟨cl,S⟩:=uR C So;exact L6 hc S hi (ht cl) (he cl) hs hg
def qp(f g:T->T->Option RV)(ma mb mc:ME):ME:=λenv=>(ma env).bind λx=>(mb env).bind λy=>(Yh (f x.2 y.2)).bind λz=>match z.2 with|.bl k=>if k=e_ then(mc env).bind λu=>Yh (g y.2 u.2)else .ok (a_,.bl a_)|_=>.bad
theorem tQ(sa:xW X ta ma)(sb:xW X tb mb)(sc:xW X tc mc):xW X (Yq (rT X.K f) (rT X.K g) ta tb tc) (qp f g ma mb mc):=by intro F H σ env Q R nb ok ex;unfold qp at nb ok ex;refine sa.val R ↑m (λr1 e1 v1 F1 H1 x1 i1=>?_) λx z=>ex x ↑D;rw[e1,bind_ok]at nb ok ex;refine sb.val (R.mono x1) ↑m (λr2 e2 v2 F2 H2 x2 i2=>?_) λx z=>(ex x ↑D).mono x1;rw[e2,bind_ok]at nb ok ex;cases h:f r1.2 r2.2 with|none=>rw[h]at nb;exact absurd rfl nb|some rv=>rw[h,ofO_some,bind_ok]at nb ok ex;refine⟨F2,_,_,rv,x2.dom,i1.mono x2.kept,i2,h,λv F3 H3 x3 i3=>?_⟩;obtain⟨F3',x3',s3,i3'⟩:=i3.frz x3;obtain⟨b,t⟩:=rv;dsimp only at nb ok ex i3';cases t with
  |bl k=>unfold Is at i3';refine⟨k,i3',?_⟩;have x13:=(x1.trans x2).trans x3';cases k with|false=>rw[if_neg sM];exact ok _ rfl _ F3' H3 x13 (jj xX)|true=>rw[if_pos rfl];dsimp only at nb ok ex;rw[if_pos rfl]at nb ok ex;refine sc.val (R.mono x13) ↑m (λr4 e4 v4 F4 H4 x4 i4=>?_) λx z=>(ex x ↑D).mono x13;rw[e4,bind_ok]at nb ok;cases h2:g r2.2 r4.2 with|none=>rw[h2]at nb;exact absurd rfl nb|some rw2=>rw[h2]at ok;have x14:=x13.trans x4;exact⟨F4,_,_,rw2,x4.dom,i2.mono (x3'.trans x4).kept,i4,h2,λv F' H' x i=>ok _ rfl v F' H' (x14.trans x) (gA x14 i)⟩
  |_=>exact absurd rfl nb
theorem PV(ho:qR X (sX op) (rT X.K f))(SS:qR X (sX op') (rT X.K g))(ha:jb X a ma)(hb:jb X b mb)(hc:jb X c mc)(hm:lastMarks [op,op'] [b,c]=a_:=by with_unfolding_all rfl):jb X (.Compare a [op,op'] [b,c] pos) (qp f g ma mb mc):=by obtain⟨ta,pa,sa⟩:=ha;obtain⟨tb,pb,sb⟩:=hb;obtain⟨tc,pc,sc⟩:=hc;exact⟨_,Kb ho SS pa pb pc hm,tQ sa sb sc⟩
theorem J3(ho:qR X (sX op) (rT X.K f))(SS:qR X (sX op') (rT X.K g))(ha:jb X a ma)(hb:jb X b mb)(hc:jb X c mc)(hm:lastMarks [op,op'] [b,c]=a_:=by with_unfolding_all rfl):ZG X (.Compare a [op,op'] [b,c] pos) (jl (qp f g ma mb mc)):=by obtain⟨ta,pa,sa⟩:=ha;obtain⟨tb,pb,sb⟩:=hb;obtain⟨tc,pc,sc⟩:=hc;exact⟨_,Kc ho SS pa pb pc hm,ZI (tQ sa sb sc)⟩
theorem W6(hg:Gl X y)(h:∃t,X.mg y=b_ (.str z t))(hd:(y==↑x)=a_:=by decide):jb X (.Name y pos) (mC (.str z)):=⟨_,KA hg h hd,eE λ_ _=>gy⟩
theorem PX(hg:Gl X y)(h:∃t,X.mg y=b_ (.int z t))(hd:(y==↑x)=a_:=by decide):jb X (.Name y pos) (mC (.int z)):=⟨_,KB hg h hd,eE λ_ _=>xL⟩
theorem gF(hg:Gl X y)(hm:X.mg y=f_)(hv:A0 y=b_ (.type n))(hn:y≠"__name__":=by decide)(hd:(y==↑x)=a_:=by decide):jb X (.Name y pos) (mC (.ty n)):=⟨_,XD (v:=.ty n) hg hm hv rfl hn hd,eE λ_ _=>by unfold Is;rfl⟩
def L9(K:d_)(mg:Str->Option g_)(y:Str)(zs:List Str):Prop:=∃a o its n,mg y=b_ (.ref a)/\K.lookup a=b_ o/\o.cls=.type "tuple"/\o.data=.seq its n/\its.size<=j_/\zQ (zs.map V.str) its.toList
theorem W7{K:d_}{F:h_->Prop}{H:Hp}:∀(zs:List Str),IsAll K F H (zs.map T.str) (zs.map V.str)|[]=>IsAll.nil|z::zs=>IsAll.cons gy (W7 zs)
theorem PY(hg:Gl X y)(h:L9 X.K X.mg y zs)(hd:(y==↑x)=a_:=by decide):jb X (.Name y pos) (mC (.tup (zs.map T.str))):=by obtain⟨a,o,its,n,hm,hl,hc,hdt,hz,hv⟩:=h;refine⟨_,gR (v:=.ref a) hg hm rfl hd,eE λF H=>?_⟩;unfold Is;exact⟨a,_,rfl,.inr ⟨o,its,n,hl,hc,hdt,hz,hv⟩,W7 zs⟩
end
def rA(hr:jT k A):A.units+41<Fk:=G' (Ra (by decide:41<=64) _) hr.units
def PZ(hr:jT k A):A.units+40<Fk:=G' (Ra (by decide:40<=64) _) hr.units
def Zo(hr:jT k A):A.units+1<Fk:=G' (Ra (by decide:1<=64) _) hr.units
abbrev IB:=List T->En->Option En
def HH(X:Cx)(g:Iz)(tg:IB):Prop:=∀(B:Bs)(F:h_->Prop)(H:Hp)(σ:St)(env Sc:En)(vs:List V)(ts:List T)(Q:St->Hp->Prop),zN X.K B F H σ env->IsAll X.K F H ts vs->tg ts env=b_ Sc->(∀σ',zN X.K B F H σ' Sc->Q σ' H)->g vs σ H Q
def U0(X:Cx)(es:List A1)(tg:IB):Prop:=∃g,IR X es g/\HH X g tg
def mN:IB:=λts env=>if ts=[]then b_ env else f_
def kb(g:MG)(gs:IB):IB:=λts env=>match ts with|t::ts=>(g t env).bind λe1=>gs ts e1|[]=>f_
def mO(n:Nat)(gs:IB):MG:=λt env=>match t with|.tup ts=>if ↑c=n then gs ts env else f_|_=>f_
def jM:U0 X [] mN:=by
 refine⟨_,XE,?_⟩;intro B F H σ env Sc vs ts Q R ia h q;unfold mN at h;split at h;·rename_i hts;subst hts;cases h;exact⟨rq ia,q σ R⟩
 ·cases h
def zw(h1:VW X e g)(h2:U0 X es gs)(hs:(AM (e::es) X.env).map (·.2)=J' e X.env::(AM es X.env).map (·.2):=by rfl):U0 X (e::es) (kb g gs):=by obtain⟨t1,p1,s1⟩:=h1;obtain⟨t2,p2,s2⟩:=h2;refine⟨_,dX p1 p2 hs,?_⟩;intro B F H σ env Sc vs ts Q R ia h q;unfold kb at h;cases ts with|nil=>cases h|cons t ts=>dsimp only at h;cases hg:g t env with|none=>rw[hg]at h;cases h|some e1=>rw[hg]at h;unfold IsAll at ia;obtain⟨v,r,rfl,i1,i2⟩:=ia;exact⟨v,r,rfl,s1 B F H σ env e1 v t _ R i1 hg λσ1 R1=>s2 B F H σ1 e1 Sc r ts Q R1 i2 h q⟩
def jN(hc:X.calm=e_)(h:U0 X es gs)(hn:(AM es X.env).length=n:=by rfl)(Sx:(AM es X.env).findIdx? (·.1)=f_:=by rfl):VW X (.Tuple es k pos) (mO n gs):=by obtain⟨t,p,s⟩:=h;refine⟨_,K6 hc p hn Sx,?_⟩;intro B F H σ env Sc v t Q R iv h q;unfold mO at h;cases t<;>simp only[reduceCtorEq]at h;case tup ts=>
  split at h;·rename_i hl;unfold Is at iv;obtain⟨a,vs,rfl,g1,g2⟩:=iv;exact⟨a,vs,rfl,g1,by rw[<-g2.len];exact hl,s B F H σ env Sc vs ts Q R g2 h q⟩
  ·cases h
def gX(m:ME)(g:MG):MS:=λenv=>match jR m env with|.ok (r,Sc)=>(match g r.2 Sc with|some e1=>.nx e1|none=>.bad)|.exc x=>.exc x env|.bad=>.bad
def cV(he:jb X e m)(hg:VW X tg g)(hs:swapsWithSole [tg] e pos.line X.env=pure a_:=by rfl)(hw:swappedStores [tg] e X.env=pure f_:=by rfl)(h1:(AM [tg] X.env).map (·.2)=[J' tg X.env]:=by rfl):eF X (.Assign [tg] e pos) (gX m g):=by
 obtain⟨te,pe,se⟩:=he;obtain⟨t,p,s⟩:=hg;refine⟨_,dY pe p hs hw h1,?_⟩;intro B F H σ env D R w;unfold gX at w;refine se.run R (λr Sc er v F' H' R' iv Sh kp=>?_) (λx er ev F' H' R' ix pins s' I=>?_) λer=>?_
 ·rw[er]at w;dsimp only at w;obtain⟨F2,R2,i2,_⟩:=R'.freeze iv (λa q=>zK R.fr q) Sh;split at w;·rename_i e1 he1;exact s B F2 H' σ Sc e1 v r.2 _ R2 i2 he1 λσ' R3=>w F2 H' σ' R3
  ·exact w.elim
 ·rw[er]at w;exact w ev F' H' σ R' ix pins s' I
 ·rw[er]at w;exact w
def rB(m n:ME):ME:=λenv=>match m env with|.bad=>n env|r=>r
def Qd(h:jb X e m)(g:jb X e n):jb X e (rB m n):=by
 obtain⟨t,p,s⟩:=h;obtain⟨u,p',s'⟩:=g;refine⟨λσ H Q=>t σ H Q\/u σ H Q,λpins sh σ H Q I w=>?_,λF H σ env Q R nb ok ex=>?_⟩
 ·rcases w with w|w;·exact p pins sh σ H Q I w
  ·exact p' pins sh σ H Q I w
 ·unfold rB at nb ok ex;cases hm:m env with|bad=>rw[hm]at nb ok ex;exact .inr (s' F H σ env Q R nb ok ex)|ok r=>rw[hm]at ok;exact .inl (s F H σ env Q R (by rw[hm];intro z;cases z) (λr' e=>by rw[hm]at e;cases e;exact ok r rfl) λx z=>by rw[hm]at z;cases z)|exc x=>rw[hm]at ex;exact .inl (s F H σ env Q R (by rw[hm];intro z;cases z) (λr' e=>by rw[hm]at e;cases e) λx' z=>by rw[hm]at z;cases z;exact ex x rfl)
end L3
namespace L2
open PySem PySem.Spec PyProof.Rows
def zu.dropC(I:zu X pins σ H s)(f:uD X pins H C)(SN:Bx C s.heap h'):zu X pins σ H {s with heap:=h'}:=by
 have SW:∀b u,H b=b_ u->b≠C:=λb u e z=>by rw[z,f.1]at e;cases e
 refine I.call' (s':={s with heap:=h'}) (ch:=[C]) rfl ?_ ?_ I.bare λb hb=>?_;·have nm:∀b,b∉[C]->b≠C:=λb n z=>n (by rw[z];exact sC.mpr rfl);exact⟨λb o e n hb hx=>SN.extBut b o (nm b hx) e,λb o e n hb hx=>⟨o.slots,SN.extBut b o (nm b hx) e⟩,λb o e n hx=>n,λb o e hx=>⟨o,SN.extBut b o (nm b hx) e⟩,λ_ _ q=>q,λ_ _ _ q=>q,λ_ ps q=>⟨#[],by rw[BP];exact q⟩⟩
 ·exactλb u e=>(I.hok b u e).stay (λc v hc q=>SN.extBut c v (hc.elim (λz=>by rw[z];exact SW b u e) λz=>SW c _ z) q) (λ_ q=>q) λ_ _ q=>q
 ·have:b=C:=sC.mp hb;subst this;exact⟨f.2.2.2.1,f.2.1,f.2.2.2.2.1,f.2.2.2.2.2⟩
def U1(hN:X.N.Nodup)(Sr:X.N[i]?=b_ y)(hy:aV X.env.scope y)(hc:X.calm=e_)(S:cx X scope cl x caps slots)(hi:PI X (.Name x px) Sd wi)(ht:∀C ex pn s₀ H₀,V2 ↑q Sl tt)(he:∀C ex pn s₀ H₀,PE ↑q Ss te)(Y':BA ↑B (b_ (.Name y py)) spos.line X.env=pure e_)(hs:∀v,u_ Sd X.env v=pure v)(hg:∀it v,AB (.Name x px) it v=pure ())(hf:X.fn y=e_\/X.env.scope.names.lookup y=b_ .local):PS X (.Assign [.Name y py] ↑B spos) (oH (XU wi tt te slots) (qJ i)):=by intro pins s σ H D I h;rw[exec_Assign_Name_used _ _ _ _ Y'];refine c_ (BG (c_ ?_));show o_ _ X.A (do let _<-RQ ↑B scope X.env _ (newList []) a_ (x_ Sd X.env) (b_ (J' (.Name y py) X.env))) _ _ s;refine c_ (sQ (tG (use:=b_ (J' (.Name y py) X.env)) (PQ:=λ_ s'=>∃σ' H',zu X pins σ' H' s'/\D.nx σ' H') I h (λDa C H5 s6 m hn f inv q=>?_) hc S hi ht he hs hg) (λ_ s' hq=>i_ (i_ hq)) λ_ _ e=>e);show o_ _ X.A (J' (.Name y py) X.env (.ref Da)) _ _ s6;have I6:zu X pins σ H5 s6:=inv s6.heap (Bx.refl _ _);obtain⟨o,es,ep,ho,hd,hr⟩:=hn;have I6':=I6.pinned (fp:=[C]) (λb hb=>by rw[sC.mp hb];exact f) (λb hb=>by rw[sC.mp hb];exact⟨o,ho,λv z=>by rw[hd]at z;cases z⟩);have pg:PG X (.Name y py) (qJ i):=pM hN Sr hy hf;refine sQ (pg _ s6 _ H5 (.ref Da) (.ref Da) D.nx I6' rfl q) (λ_ s8 h8=>?_) λ_ _ z=>z;obtain⟨σ8,H8,I8,q8⟩:=h8;have hp:=I8.pin (C,o) (sy _ (sy _ (xU (sC.mpr rfl) ho)));exact⟨m,⟨o,es,ep,hp.1,hd,hr⟩,λh' SN=>⟨σ8,H8,I8.unpinned.dropC ⟨hp.2.1,f.2⟩ SN,q8⟩⟩
end L2
namespace L3
open PySem PySem.Spec PyProof.Rows L2
section
variable{X:Cx}{scope:FI}{x:Str}{caps:List Str}{slots:List Nat}{Sd Ss:A1}{Sl:List A1}{px pos:Pos}{it:rp}{mt:MT}{me:ME}{L:Nat}
theorem YZ(hN:X.N.Nodup)(Sr:X.N[i]?=b_ y)(hy:aV X.env.scope y)(hc:X.calm=e_)(C:zL X.N X.env.scope scope x caps slots)(So:X.env.cells=Oq L X.env.scope.names [])(hi:YW X (.Name x px) Sd it)(ht:∀cl C ex pn s₀ H₀,ay ↑q Sl mt)(he:∀cl C ex pn s₀ H₀,jb ↑q Ss me)(Y':BA ↑B (b_ (.Name y py)) spos.line X.env=pure e_:=by rfl)(hs:∀v,u_ Sd X.env v=pure v:=by intro _;rfl)(hg:∀it v,AB (.Name x px) it v=pure ():=by intro _ _;rfl)(hf:X.fn y=e_\/X.env.scope.names.lookup y=b_ .local:=by first|exact .inl rfl|exact .inr rfl|assumption):eF X (.Assign [.Name y py] ↑B spos) (zF i (jq it mt me slots)):=by
 obtain⟨cl,S⟩:=uR C So;obtain⟨wi,pi,si⟩:=hi;obtain⟨tt,ht⟩:=Q8 (ht cl);obtain⟨te,he⟩:=Q7 (he cl);have s:=ZX (slots:=slots) si (ht 0 [] [] X.s₀ X.H₀).2 (he 0 [] [] X.s₀ X.H₀).2;refine⟨_,U1 (i:=i) hN Sr hy hc S pi (λC ex pn s₀ H₀=>(ht C ex pn s₀ H₀).1) (λC ex pn s₀ H₀=>(he C ex pn s₀ H₀).1) Y' hs hg hf,?_⟩;intro B F H σ env D R w;unfold zF at w;refine s.run R (λr Sc e v F' H' R' i' Sh _=>?_) (λx e ev F' H' R' i pins s' I=>?_) λe=>?_;·rw[e]at w;exact w F' H' _ (R'.put i i' (λa q=>zK R.fr q) Sh)
 ·rw[e]at w;exact w ev F' H' σ R' i pins s' I
 ·rw[e]at w;exact w
end
def qM(val:Nat->Str)(i:Nat):List Str:=((t_ i).map val).foldl FG []
def iP(val:Nat->Str)(i:Nat):qM val (i+1)=FG (qM val i) (val i):=by unfold qM;rw[List.range_succ,sL,List.foldl_append];rfl
theorem rC(val:Nat->Str):∀i,(qM val i).length<=i
 |0=>r_ _|i+1=>by
  rw[iP];unfold FG;have ih:=rC val i;split;·omega
  ·rw[sj,AG];omega
def Vd(σ:List Str)(v k:Str):(FG σ v).any (·==k)=(σ.any (·==k)||decide (k=v)):=by
 unfold FG;by_cases h:σ.any (·==v)=e_
 ·rw[if_pos h];by_cases e:k=v;·subst e;rw[h];simp
  ·simp[e]
 ·rw[if_neg h,List.any_append];by_cases e:k=v;·subst e;simp
  ·have hb:(v==k)=a_:=by simpa[beq_iff_eq]using(λh':v=k=>e h'.symm)
   simp[hb,e]
def Ve(σ:List Str)(v:Str):(FG σ v).length=if σ.any (·==v)then σ.length else σ.length+1:=by unfold FG;split<;>simp
def jV(Sw:Bool):Obj:={cls:=.type "set",dict:=f_,data:=.set #[] 0 (.fresh 0 0 Sw)}
def sub_list_set:isSubtype (.type "list") (.type "set")=pure a_:=F.sub_list_set
def sub_list_frozenset:isSubtype (.type "list") (.type "frozenset")=pure a_:=F.sub_list_frozenset
def az:isSubtype (.type "tuple") (.type "set")=pure a_:=by rw[isSubtype_type];kernel_rfl
def nT:isSubtype (.type "tuple") (.type "frozenset")=pure a_:=by rw[isSubtype_type];kernel_rfl
section
variable{prog:sN}{w:sY}{A:A3}{R:Result->l_->Prop}{I:h_}{fp wr:List h_}{G:Array S1->Array S1->Prop}{n:Nat}{P:Nat->g_->Prop}{St:Nat->l_->Prop}
theorem J4(W:WalksS prog w A.in1 I fp wr G n P St)(S:h_)(ό:S∉fp)(val:Nat->Str)(hval:∀i v,P i v->∃t,v=.str (val i) t)(hb:n+1<Fi):∀(k i:Nat)(s:l_),n-i=k->i<=n->St i s->s.heap.SetOf (strKind prog w) S (λk'=>(qM val i).any (·==k')) (qM val i).length->(∀s',Moved (S::wr) G s s'->s'.heap.SetOf (strKind prog w) S (λk'=>(qM val n).any (·==k')) (qM val n).length->R (.ok (.ret .none)) s')->
   FX ↑w A (.builtin "set.update.loop" ⟨[.ref S,.ref I],[]⟩) R s:=by have hSw:S∉wr:=λh=>ό (W.sub _ h);have hsub:∀b∈wr,b∈S::wr:=λb hb=>k_ _ hb;intro k;induction k with|zero=>
  intro i s hk hi Sx hS hR;have hin:i=n:=by omega
  subst hin;refine BK Ob ?_;rw[FC Fa _];show o_ _ A.in1 (RL (.ref I)>>=_) _ _ s;refine c_ (W.done s _ _ Sx λs' hm=>?_);show o_ _ A.in1 (ret sZ) _ _ s';exact i_ (hR s' (hm.mono hsub) (by obtain⟨o,es,ep,t,ho,rest⟩:=hS;exact⟨o,es,ep,t,hm.heap S _ hSw ho,rest⟩))|succ k ih=>
  intro i s hk hi Sx hS hR;have Si:i<n:=by omega
  refine BK Ob ?_;rw[FC Fa _];show o_ _ A.in1 (RL (.ref I)>>=_) _ _ s;refine c_ (W.item i s _ _ Si Sx λv s' hP hst' hm=>?_);obtain⟨t,rfl⟩:=hval i v hP;have Ζ:s'.heap.SetOf (strKind prog w) S (λk'=>(qM val i).any (·==k')) (qM val i).length:=by obtain⟨o,es,ep,tb,ho,rest⟩:=hS;exact⟨o,es,ep,tb,hm.heap S _ hSw ho,rest⟩
  show o_ _ A.in1 (O2 [Bz (val i) t] (setAdd S (.str (val i) t))>>=_) _ _ s';refine c_ (Ah ?_);unfold setAdd;refine Ah ?_;refine c_ ((strKind prog w).pyHash (k:=val i) (strKind_is _ _ _ _) ?_);have ϰ:(qM val i).length+1<Fi:=by have:=rC val i;omega
  refine wpAny_setAddHashed_of (knd:=strKind prog w) (s:={s' with toks:=s'.toks+1}) (strKind_is _ _ _ _) rfl Ζ ϰ λh' SN hS2=>?_;have hSi:h'.SetOf (strKind prog w) S (λk'=>(qM val (i+1)).any (·==k')) (qM val (i+1)).length:=SetOf_congr hS2 (λk'=>by rw[iP,Vd]) (by rw[iP,Ve]);refine i_ ⟨RU Fa _,ih (i+1) _ ↑p Si (W.frame _ s' _ _ hst' (FV _) λb hb o e=>?_) hSi λϯ hm'' hS''=>?_⟩;·rw[SN.2 b (λh:b=S=>ό (by rw[<-h];exact hb))];exact e
  ·refine hR ϯ (Moved.trans W.gtrans ((hm.mono hsub).then_heap (FV _) λb o hb e=>?_) hm'') hS'';rw[SN.2 b (λh:b=S=>hb (by rw[h];exact m_))];exact e
end
section
variable{prog:sN}{w:sY}{A:A3}{E:g_->l_->Prop}{s:l_}
set_option maxHeartbeats 3200000 in theorem aA(hh:A.handled=f_)(hl:s.heap.IsList l items)(hi:∀(i:Nat)(v:g_),items[i]?=b_ v->∃t,v=.str (val i) t)(hb:↑f+1<Fi)(h:∀(h':w_)(tk:Nat),h'.SetOf (strKind prog w) ↑a (λk'=>(qM val ↑f).any (·==k')) (qM val ↑f).length->(∀b o,b<↑a->s.heap.get? b=b_ o->h'.get? b=b_ o)->Q (.ref ↑a) {s with heap:=h',toks:=tk}):o_ ↑w A (call (.type "set") [.ref l]) Q E s:=by
 obtain⟨c,tl,hmro⟩:=AA.mro;have hmade:=AA.made;have hsub:=AA.sub;refine Oo (O_ ?_);show o_ _ _ (callAny (.type "set") _) _ _ _;refine i_ ⟨FZ _ ↑J,BK F.entry_type_call ?_⟩;rw[A3.under_plain (weight_type_call_type "set" [.ref l] []) rfl];have h1:=AA.notType;have h2:=AA.canCreate;have hct:=F.typeCall_set_1 (.ref l);repeat(any_goals(first|assumption|wp_step))
 refine Fd (code_set_new_1 (.ref l) (E:=E) (Q₁:=λobj s₁=>∃Sw:Bool,obj=.ref ↑a/\s₁={s with heap:=s.heap.push (jV Sw)}) λSw=>⟨Sw,rfl,rfl⟩) λr s₁ hr=>?_;cases r with|error e=>exact hr|ok fl=>cases fl with
  |ret obj=>
   obtain⟨Sw,rfl,rfl⟩:=hr;have hS:(s.heap.push (jV Sw)).get? ↑a=b_ (jV Sw):=sf _ rfl;have hT:Shared.TypeIs {s with heap:=s.heap.push (jV Sw)} (.ref ↑a) "set":=⟨_,hS,rfl⟩;have hli:=AA.init.lookup;have hbi:=AA.init.bind (.ref ↑a);repeat(any_goals(first|assumption|wp_step))
   refine Fd (N' (R:=wants (λr s₂=>r=.none/\∃h' tk,s₂={s with heap:=h',toks:=tk}/\h'.SetOf (strKind prog w) ↑a (λk'=>(qM val ↑f).any (·==k')) (qM val ↑f).length/\(∀b o,b<↑a->s.heap.get? b=b_ o->h'.get? b=b_ o)) E) AA.init.plain F.entry_set_init (check_set_init_1 hT ?_)) λr₂ s₂ SO=>?_
   ·obtain⟨ol,hol,So,nl,hdl⟩:=hl;obtain⟨ocls,odict,odata,oslots⟩:=ol;simp only at So hdl;subst So;subst hdl;have Tt:(s.heap.push (jV Sw)).get? l=b_ {cls:=.type "list",dict:=odict,data:=.seq items nl,slots:=oslots}:=f' _ hol;have hsls:=sub_list_set;have hslf:=sub_list_frozenset;have TX:(Fj "list"==Fj "dict")=a_:=by decide
    have Ta:(s.heap.push (jV Sw)).IsList l items:=⟨_,Tt,rfl,nl,rfl⟩;unfold BL.«set.__init__»noKeywords Builtin.Frozenset.updateFrom;generalize hPI:pyIter=PI;wp_walk;subst hPI;refine L_ Ta ?_;refine c_ (wpAny_runValue ?_);have ϛ:l<↑a:=n_ hol;have hh3:A.in1.in1.in1.handled=f_:=by simp[hh]
    have ρ:l≠(s.heap.push (jV Sw)).objs.size:=by rw[At];exact su (BI ϛ)
    have ό:↑a∉[(s.heap.push (jV Sw)).objs.size,l]:=by rw[At];simp only[sB,sC,A7,or_false,not_or];exact⟨su (FJ _),Fb ϛ⟩
    refine J4 ((Walks.list hh3 _ l ρ items).toS) ↑a ό val hi hb (↑f-0) 0 _ ↑p (A5 _) ⟨⟨_,sf _ rfl,rfl,rfl⟩,⟨_,f' _ Tt,rfl,nl,rfl⟩⟩ ?hS0 ?hR;case hS0=>have hget:((s.heap.push (jV Sw)).push {cls:=.type "list_iterator",data:=.fields #[.ref l,.int 0 0]}).get? ↑a=b_ (jV Sw):=f' _ hS;exact RW ((Rj (knd:=strKind prog w) Sw).setOf hget (by unfold Fi;omega)) (λ_=>rfl) rfl
    case hR=>
     intro s' hm Ζ;obtain⟨h',g',d',S',os'⟩:=s';have eg:g'=s.gens:=hm.gens;have ed:d'=s.drawn:=hm.drawn;have eo:os'=s.os:=hm.os;subst eg;subst ed;subst eo;show o_ _ _ _ _ _ _;refine i_ ?_;show o_ _ _ (ret sZ) _ _ _;refine i_ ⟨rfl,h',S',rfl,Ζ,λb o hb e=>?_⟩;have ϫ:b≠↑a:=su hb;have Tc:b≠(s.heap.push (jV Sw)).objs.size:=by rw[At];exact su (BI hb)
     exact hm.heap b o (by simp only[sB,sC,A7,or_false,not_or];exact⟨ϫ,Tc⟩) (f' _ (f' _ e))
   ·cases r₂ with|error e=>exact SO|ok fl₂=>
     cases fl₂ with|ret r=>
      obtain⟨rfl,h',tk,rfl,Ζ,To⟩:=SO;repeat(any_goals(first|assumption|wp_step))
      exact h _ _ Ζ To|_=>exact SO.elim
  |_=>exact hr.elim
set_option maxHeartbeats 3200000 in theorem cW(hh:A.handled=f_)(hl:s.heap.IsTuple l items)(hi:∀(i:Nat)(v:g_),items[i]?=b_ v->∃t,v=.str (val i) t)(hb:↑f+1<Fi)(h:∀(h':w_)(tk:Nat),h'.SetOf (strKind prog w) ↑a (λk'=>(qM val ↑f).any (·==k')) (qM val ↑f).length->(∀b o,b<↑a->s.heap.get? b=b_ o->h'.get? b=b_ o)->Q (.ref ↑a) {s with heap:=h',toks:=tk}):o_ ↑w A (call (.type "set") [.ref l]) Q E s:=by
 obtain⟨c,tl,hmro⟩:=AA.mro;have hmade:=AA.made;have hsub:=AA.sub;refine Oo (O_ ?_);show o_ _ _ (callAny (.type "set") _) _ _ _;refine i_ ⟨FZ _ ↑J,BK F.entry_type_call ?_⟩;rw[A3.under_plain (weight_type_call_type "set" [.ref l] []) rfl];have h1:=AA.notType;have h2:=AA.canCreate;have hct:=F.typeCall_set_1 (.ref l);repeat(any_goals(first|assumption|wp_step))
 refine Fd (code_set_new_1 (.ref l) (E:=E) (Q₁:=λobj s₁=>∃Sw:Bool,obj=.ref ↑a/\s₁={s with heap:=s.heap.push (jV Sw)}) λSw=>⟨Sw,rfl,rfl⟩) λr s₁ hr=>?_;cases r with|error e=>exact hr|ok fl=>cases fl with
  |ret obj=>
   obtain⟨Sw,rfl,rfl⟩:=hr;have hS:(s.heap.push (jV Sw)).get? ↑a=b_ (jV Sw):=sf _ rfl;have hT:Shared.TypeIs {s with heap:=s.heap.push (jV Sw)} (.ref ↑a) "set":=⟨_,hS,rfl⟩;have hli:=AA.init.lookup;have hbi:=AA.init.bind (.ref ↑a);repeat(any_goals(first|assumption|wp_step))
   refine Fd (N' (R:=wants (λr s₂=>r=.none/\∃h' tk,s₂={s with heap:=h',toks:=tk}/\h'.SetOf (strKind prog w) ↑a (λk'=>(qM val ↑f).any (·==k')) (qM val ↑f).length/\(∀b o,b<↑a->s.heap.get? b=b_ o->h'.get? b=b_ o)) E) AA.init.plain F.entry_set_init (check_set_init_1 hT ?_)) λr₂ s₂ SO=>?_
   ·obtain⟨ol,hol,So,nl,hdl⟩:=hl;obtain⟨ocls,odict,odata,oslots⟩:=ol;simp only at So hdl;subst So;subst hdl;have Tt:(s.heap.push (jV Sw)).get? l=b_ {cls:=.type "tuple",dict:=odict,data:=.seq items nl,slots:=oslots}:=f' _ hol;have hsls:=az;have hslf:=nT;have TX:(Fj "tuple"==Fj "dict")=a_:=by decide
    have Ta:(s.heap.push (jV Sw)).IsTuple l items:=⟨_,Tt,rfl,nl,rfl⟩;unfold BL.«set.__init__»noKeywords Builtin.Frozenset.updateFrom;generalize hPI:pyIter=PI;wp_walk;subst hPI;refine wpAny_pyIter_tuple Ta ?_;refine c_ (wpAny_runValue ?_);have ϛ:l<↑a:=n_ hol;have hh3:A.in1.in1.in1.handled=f_:=by simp[hh]
    have ρ:l≠(s.heap.push (jV Sw)).objs.size:=by rw[At];exact su (BI ϛ)
    have ό:↑a∉[(s.heap.push (jV Sw)).objs.size,l]:=by rw[At];simp only[sB,sC,A7,or_false,not_or];exact⟨su (FJ _),Fb ϛ⟩
    refine J4 ((Walks.tuple hh3 _ l ρ items).toS) ↑a ό val hi hb (↑f-0) 0 _ ↑p (A5 _) ⟨⟨_,sf _ rfl,rfl,rfl⟩,⟨_,f' _ Tt,rfl,nl,rfl⟩⟩ ?hS0 ?hR;case hS0=>have hget:((s.heap.push (jV Sw)).push {cls:=.type "tuple_iterator",data:=.fields #[.ref l,.int 0 0]}).get? ↑a=b_ (jV Sw):=f' _ hS;exact RW ((Rj (knd:=strKind prog w) Sw).setOf hget (by unfold Fi;omega)) (λ_=>rfl) rfl
    case hR=>
     intro s' hm Ζ;obtain⟨h',g',d',S',os'⟩:=s';have eg:g'=s.gens:=hm.gens;have ed:d'=s.drawn:=hm.drawn;have eo:os'=s.os:=hm.os;subst eg;subst ed;subst eo;show o_ _ _ _ _ _ _;refine i_ ?_;show o_ _ _ (ret sZ) _ _ _;refine i_ ⟨rfl,h',S',rfl,Ζ,λb o hb e=>?_⟩;have ϫ:b≠↑a:=su hb;have Tc:b≠(s.heap.push (jV Sw)).objs.size:=by rw[At];exact su (BI hb)
     exact hm.heap b o (by simp only[sB,sC,A7,or_false,not_or];exact⟨ϫ,Tc⟩) (f' _ (f' _ e))
   ·cases r₂ with|error e=>exact SO|ok fl₂=>
     cases fl₂ with|ret r=>
      obtain⟨rfl,h',tk,rfl,Ζ,To⟩:=SO;repeat(any_goals(first|assumption|wp_step))
      exact h _ _ Ζ To|_=>exact SO.elim
  |_=>exact hr.elim
end
def m8(zs:List Str):List Str:=zs.foldl FG []
def Vf(zs:List Str):qM (λi=>zs.getD i "") zs.length=m8 zs:=by
 unfold qM m8;congr 1;apply List.ext_getElem;·simp
 ·intro i h1 h2;simp at h1;simp[h1]
def qq:List T->Option (List Str)|[]=>b_ []|.str z::ts=>(qq ts).map λr=>z::r|_::_=>f_
def rD:T->Option Nat|.lst ts=>(qq ts).bind λzs=>if zs.length+1<Fi then b_ (m8 zs).length else f_|.tup ts=>(qq ts).bind λzs=>if zs.length+1<Fi then b_ (m8 zs).length else f_|_=>f_
def iQ{K:d_}{F:h_->Prop}{H:Hp}:∀{ts:List T}{zs:List Str}{vs:List V},qq ts=b_ zs->IsAll K F H ts vs->vs=zs.map V.str|[],zs,vs,h,ia=>by unfold qq at h;cases h;exact rq ia|t::ts,zs,vs,h,ia=>by unfold qq at h;cases t<;>simp only[reduceCtorEq]at h;case str z=>cases hr:qq ts with|none=>rw[hr]at h;cases h|some r=>rw[hr]at h;cases h;unfold IsAll at ia;obtain⟨v,us,rfl,i1,i2⟩:=ia;unfold Is at i1;rw[i1,iQ hr i2];rfl
def U2(K:d_)(te:TE):TE:=λσ H Q=>te σ H λv H1=>∃a zs,v=.ref a/\(lu K H1 a (zs.map V.str)\/lq K H1 a (zs.map V.str))/\zs.length+1<Fi/\Q (.int (m8 zs).length) H1
def Qe{zs:List Str}{us:List g_}(r:zQ (zs.map V.str) us):∀(i:Nat)(v:g_),us.toArray[i]?=b_ v->∃t,v=.str (zs.getD i "") t:=by
 intro i v h;have hl:=r.length;simp at h;have hi:i<↑h:=(sP.mp h).1;have hz:i<zs.length:=by rw[j']at hl;omega
 obtain⟨u,e1,e2⟩:=r.get (i:=i) (x:=V.str zs[i]) (by simp[hz]);rw[h]at e1;cases e1;obtain⟨t,e⟩:=e2;exact⟨t,by rw[e];simp[hz]⟩
def Vg(hc:X.calm=e_)(hgl:Gl X "len")(hml:X.mg "len"=f_)(hgs:Gl X "set")(hms:X.mg "set"=f_)(h:PE X e te)(h1:p_ [.Call (.Name "set" q) [e] [] p1] X.env=[(a_,x_ (.Call (.Name "set" q) [e] [] p1) X.env)]:=by rfl)(h2:p_ [e] X.env=[↑ae]:=by rfl):PE X (.Call (.Name "len" p) [.Call (.Name "set" q) [e] [] p1] [] p2) (U2 X.K te):=by
 intro pins s σ H Q I hw;have hd:X.A.handled=f_:=I.ok.hd hc;refine Ai (fu I hgl hml PySem.boot_len ?_);refine OM ?_;rw[h1];show o_ _ _ (Om ((a_,x_ (.Call (.Name "set" q) [e] [] p1) X.env)::[])) _ _ s;refine AN ?_;refine Ai (fu I hgs hms (show A0 "set"=b_ (.type "set")by rfl) ?_);refine Am ?_ (he:=by rw[h2];rfl);rw[h2];show o_ _ _ (Om (↑ae::[])) _ _ s;refine AN (jk (h pins s σ H _ I hw) λu s1⟨x,H1,I1,r1,q1⟩=>?_);obtain⟨a,zs,rfl,sq,hb,hq⟩:=q1;cases r1;rw[Om];refine i_ ?_;have fin:∀(h':w_)(tk:Nat),h'.SetOf (strKind X.prog X.w) ↑b (λk'=>(qM (λi=>zs.getD i "") zs.length).any (·==k')) (qM (λi=>zs.getD i "") zs.length).length->(∀b o,b<↑b->s1.heap.get? b=b_ o->h'.get? b=b_ o)->o_ ↑n X.A (Om []) (λvs s₂=>o_ ↑n X.A (call (.builtin "len") (sE ↑b::vs)) (EP X pins σ Q) X.xe s₂) X.xe {s1 with heap:=h',toks:=tk}:=by
  intro h' tk hS kp;rw[Om];refine i_ ?_;have I2:zu X pins σ H1 {s1 with heap:=h',toks:=tk}:=I1.kept λb o e=>kp b o (n_ e) e;obtain⟨o,es,ep,t,ho,hex,hdt,hel,hmem,Si,hf,hn⟩:=hS;have hle:(qM (λi=>zs.getD i "") zs.length).length<=zs.length:=rC _ _;have hsz:(es.size:Int)<2^63:=by unfold Fi at hb;omega
  refine call_len_set ho hex hdt hf hsz ⟨.int (m8 zs).length,H1,I2.tok _,⟨tk+1,?_⟩,hq⟩;rw[hn,Vf]
 rcases sq with sq|sq
 ·obtain⟨its,r',pl,hz⟩:=I1.list sq;have hl:its.length=zs.length:=by have:=r'.length;rw[j']at this;omega
  have hsz:↑k=zs.length:=by simp[hl]
  refine aA hd pl.isList (Qe r') (by rw[hsz];exact hb) λh' tk hS kp=>?_;rw[hsz]at hS;exact fin h' tk hS kp
 ·obtain⟨its,r',pl,hz⟩:=I1.tuple sq;have hl:its.length=zs.length:=by have:=r'.length;rw[j']at this;omega
  have hsz:↑k=zs.length:=by simp[hl]
  refine cW hd pl (Qe r') (by rw[hsz];exact hb) λh' tk hS kp=>?_;rw[hsz]at hS;exact fin h' tk hS kp
def nL(m:ME):ME:=λenv=>(m env).bind λr=>match rD r.2 with|some n=>.ok (a_,.int n)|none=>.bad
def J5(hc:X.calm=e_)(hgl:Gl X "len")(hml:X.mg "len"=f_)(hgs:Gl X "set")(hms:X.mg "set"=f_)(h:jb X e m)(h1:p_ [.Call (.Name "set" q) [e] [] p1] X.env=[(a_,x_ (.Call (.Name "set" q) [e] [] p1) X.env)]:=by rfl)(h2:p_ [e] X.env=[↑ae]:=by rfl):jb X (.Call (.Name "len" p) [.Call (.Name "set" q) [e] [] p1] [] p2) (nL m):=by obtain⟨te,pe,se⟩:=h;refine⟨_,Vg hc hgl hml hgs hms pe h1 h2,?_⟩;intro F H σ env Q R nb ok ex;unfold nL at nb ok ex;refine se.val R ↑m (λr e1 v F1 H1 x1 i1=>?_) λx z=>ex x ↑D;rw[e1,bind_ok]at nb ok;obtain⟨o,t⟩:=r;dsimp only at nb ok i1;cases hn:rD t with|none=>rw[hn]at nb;exact absurd rfl nb|some n=>
  rw[hn]at ok;cases t<;>simp only[rD,reduceCtorEq]at hn;case lst ts=>cases hz:qq ts with|none=>rw[hz]at hn;cases hn|some zs=>
    rw[hz]at hn;dsimp only[Option.bind]at hn;split at hn;·rename_i hb;cases hn;unfold Is at i1;obtain⟨a,vs,rfl,g1,g2⟩:=i1;rw[iQ hz g2]at g1;exact⟨a,zs,rfl,.inl g1.sq,hb,ok _ rfl _ F1 H1 x1 (jj xL)⟩
    ·cases hn
  case tup ts=>cases hz:qq ts with|none=>rw[hz]at hn;cases hn|some zs=>
    rw[hz]at hn;dsimp only[Option.bind]at hn;split at hn;·rename_i hb;cases hn;unfold Is at i1;obtain⟨a,vs,rfl,g1,g2⟩:=i1;rw[iQ hz g2]at g1;exact⟨a,zs,rfl,.inr g1,hb,ok _ rfl _ F1 H1 x1 (jj xL)⟩
    ·cases hn
end L3
namespace L2
open PySem PySem.Spec PyProof.Rows
def DF(K:d_)(a:h_):It:=⟨λi H=>∃xs x,lu K H a xs/\xs[i]?=b_ x,λi H v H'=>∃T y,H T=f_/\v=.ref T/\H'=zO H T (.tup [.int i,y])/\∀xs,lu K H a xs->xs[i]?=b_ y,λi H=>∃xs,lu K H a xs/\↑e<=i⟩
def zu.turnT{h':w_}{tk:Nat}{ch:List h_}{T:h_}{xs:List V}{its:List g_}(I:zu X pins σ H s)(hf:∀b∈ch,uD X pins H b)(k:∀b o,b∉ch->s.heap.get? b=b_ o->h'.get? b=b_ o)(hT:↑a<=T)(hz:↑e<=j_)(r:zQ xs its)(ht:Oy h' T its.toArray):zu X pins σ (zO H T (.tup xs)) {s with heap:=h',toks:=tk}:=by
 have hn:=I.hok.fresh hT;have neT:∀b o,s.heap.get? b=b_ o->b≠T:=λb o e z=>absurd (n_ e) (Nat.not_lt.mpr (by rw[z];exact hT));have TB:∀b u,H b=b_ u->b∉ch:=λb u e z=>by rw[(hf b z).1]at e;cases e
 refine I.call' rfl ⟨λb o e n hb hx=>k b o hx e,λb o e n hb hx=>⟨o.slots,k b o hx e⟩,λb o e n hx=>by rw[zg (neT b o e)];exact n,λb o e hx=>⟨o,k b o hx e⟩,λb ys q=>by rw[zg (zM q hn)];exact q,λb o u q=>by rw[zg (zM q hn)];exact q,λb ps q=>⟨#[],by rw[zg (zM q hn),BP];exact q⟩⟩ (λb u e=>?_) I.bare λb hb=>⟨(hf b hb).2.2.2.1,(hf b hb).2.1,(hf b hb).2.2.2.2.1,(hf b hb).2.2.2.2.2⟩;by_cases hb:b=T;·subst hb;rw[zm]at e;cases e;exact⟨hz,its,r,ht⟩
 ·rw[zg hb]at e;refine(I.hok b u e).stay (λc v hc q=>k c v ?_ q) (λc q=>by rw[zg (zM q hn)];exact q) λc xs q=>by rw[zg (zM q hn)];exact q
  rcases hc with rfl|hc;·exact TB _ _ e
  ·exact TB _ _ hc
def Vh{P:sN}{w:sY}{K:d_}{Su:List A1}{k:Nat}{tp:Pos}(a e it:h_)(hei:e≠it):Zv P w K (.Tuple Su k tp) (DF K a) [e,it] e (λi h=>(∃Sh,IsEnum h e it (i:Int) Sh)/\h.IsListIter it a i)where
 mem:=by simp
 obj:=λi h st b hb=>by
  obtain⟨⟨Sh,he⟩,hi⟩:=st;rcases sB.mp hb with rfl|hb;·exact⟨_,he,λv z=>by have z':Data.fields _=Data.cell v:=z;cases z'⟩
  ·have e:b=it:=by simpa using hb
   subst e;obtain⟨o,e,c,d⟩:=hi;exact⟨o,e,λv z=>by rw[d]at z;cases z⟩
 keep:=λi h h' st k=>by obtain⟨⟨Sh,he⟩,hi⟩:=st;exact⟨⟨Sh,k e ↑G _ he⟩,hi.at λo q=>k it ↑G o q⟩
 item:=by
  intro X hP hw hK hc i pins s σ H E I hf st hg;subst hP hw hK;obtain⟨xs,x,hq,hx⟩:=hg;obtain⟨its,rv,p,hz⟩:=I.list hq;obtain⟨u,hu,ru⟩:=rv.get hx;obtain⟨⟨Sh,he⟩,hi⟩:=st;refine wpAny_pyNext_enum_item he hi p.isList (by simpa using hu) hei λh' ho Sr hT hsz hk=>?_;have I1:zu X pins σ (zO H ↑a (.tup [.int i,x])) {s with heap:=h',toks:=s.toks+1}:=I.turnT hf (λb o hb q=>hk b o (λz=>hb (by simp[z])) (λz=>hb (by simp[z])) q) (r_ _) (by show 2<=j_;decide) (.cons ⟨_,rfl⟩ (.cons ru .nil)) ⟨_,hT,rfl,_,rfl⟩;have ϥ:e≠↑a:=su (n_ he);have ne2:it≠↑a:=by obtain⟨o,q,_⟩:=hi;exact su (n_ q)
  refine⟨_,rfl,wpAny_letOwnedTupleGo_enum ho λh2 he2 T9=>?_⟩;obtain⟨f0,f1,f2,f3,f4,f5⟩:=hf e ↑G;refine⟨.ref ↑a,_,I1.turned (λb o hb q=>(T9.2 b hb).trans q) (by rw[zg ϥ];exact f0) f1 f3 f4 f5,rfl,⟨_,x,I.hok.fresh (r_ _),rfl,rfl,λys hy=>by rw[I.list_inj hy hq];exact hx⟩,⟨⟨u,by simpa using he2⟩,Sr.at λo q=>(T9.2 it hei.symm).trans q⟩,λb hb=>?_⟩;rcases sB.mp hb with rfl|hb;·rw[zg ϥ];exact f0
  ·have e':b=it:=by simpa using hb
   subst e';rw[zg ne2];exact(hf b ↑G).1
 done:=by intro X hP hw hK hc i pins s σ H E I hf st hg;subst hP hw hK;obtain⟨xs,hq,hx⟩:=hg;obtain⟨its,rv,p,hz⟩:=I.list hq;obtain⟨f0,f1,f2,f3,f4,f5⟩:=hf it ↑G;obtain⟨⟨Sh,he⟩,hi⟩:=st;have hl:=rv.length;exact wpAny_pyNext_enum_end (I.ok.hd hc) he hi p.isList (by simp;omega) λh' eb=>⟨rfl,I.turned (λb o hb e=>eb b o hb e) f0 f1 f3 f4 f5⟩
 self:=λ_ _ _ _ _ st h=>by obtain⟨⟨Sh,he⟩,_⟩:=st;exact wpAny_pyIter_enum he h
def Qf(K:d_)(tl:TE):TI:=λσ H R=>tl σ H λx H1=>∃a,x=.ref a/\(∃xs,lu K H1 a xs)/\R (DF K a) H1
def dL{Su:List A1}{k:Nat}{tp p pos:Pos}{l:A1}{tl:TE}(hg:Gl X "enumerate")(hm:X.mg "enumerate"=f_)(hl:PE X l tl)(hs:p_ [l] X.env=[(a_,x_ l X.env)]:=by rfl):PI X (.Tuple Su k tp) (.Call (.Name "enumerate" p) [l] [] pos) (Qf X.K tl):=by
 intro pins s σ H R I h;refine Ai (fu I hg hm oU ?_);refine Am ?_ (he:=by rw[hs];rfl);rw[hs];show o_ _ _ (Om ((a_,x_ l X.env)::[])) _ _ s;refine AN (jk (hl pins s σ H _ I h) λu s1⟨x,H1,I1,r1,q1⟩=>?_);obtain⟨a,rfl,⟨xs,hq⟩,q⟩:=q1;cases r1;rw[Om];refine i_ ?_;obtain⟨its,rv,pl,hz⟩:=I1.list hq;refine call_enumerate_list pl.isList λh' he hi hsz kp=>wpAny_pyIter_enum he ?_;have I2:zu X pins σ H1 {s1 with heap:=h'}:=I1.kept kp;refine⟨↑b+1,[↑b+1,↑b],_,_,H1,rfl,I2,Vh a (↑b+1) ↑b (Fb (FJ _)),⟨⟨.none,he⟩,hi⟩,λb hb=>?_,q⟩;have Ϫ:↑b<=b:=by
  rcases sB.mp hb with rfl|hb;·exact FV _
  ·have e:b=↑b:=by simpa using hb
   exact OA e.symm
 exact I1.fpOk Ϫ (I1.hok.fresh Ϫ)
end L2
namespace L3
open PySem PySem.Spec PyProof.Rows L2
def Ni(f:Str):List Str->List T->Option T|g::fs,t::ts=>if f==g then b_ t else Ni f fs ts|_,_=>f_
def J6{K:d_}{F:h_->Prop}{H:Hp}{f:Str}{t:T}:∀{SV:List (Str×V)}{fs:List Str}{ts:List T},SV.map (·.1)=fs->IsAll K F H ts (SV.map (·.2))->Ni f fs ts=b_ t->∃v,SV.lookup f=b_ v/\Is K F H t v|[],fs,ts,e,_,h=>by subst e;cases ts<;>(simp[Ni]at h)|(g,v)::r,fs,ts,e,ia,h=>by subst e;cases ts with|nil=>simp[Ni]at h|cons u us=>rw[sG]at ia h;unfold IsAll at ia;obtain⟨v',r',e1,i1,i2⟩:=ia;injection e1 with e1 e2;subst e1 e2;rw[Ad];unfold Ni at h;dsimp only at h;cases hb:f==g with|true=>rw[hb,if_pos rfl]at h;cases h;exact⟨v,rfl,i1⟩|false=>rw[hb,if_neg sM]at h;exact J6 rfl i2 h
def eM:∀{SV:List (Str×V)},f∉SV.map (·.1)->SV.lookup f=f_
 |[],_=>rfl|(g,v)::r,h=>by
  rw[sG,sB,not_or]at h;rw[Ad];have:(f==g)=a_:=by simpa using h.1
  rw[this];exact eM h.2
def mP(cs:List h_)(f:Str)(m:ME):ME:=λenv=>(m env).bind λr=>match r.2 with|.obj C fs ts=>if C∈cs then Yh ((Ni f fs ts).map λt=>(a_,t))else .bad|_=>.bad
def W8{cs:List h_}(hc:∀C∈cs,uB X.K C/\zS X.K C f)(h:jb X e me)(hb:AZ e f X.env (x_ e X.env)=x_ e X.env:=by rfl):jb X (.Attribute e f pos) (mP cs f me):=by
 obtain⟨te,pe,se⟩:=h;refine⟨_,Yy pe hb,?_⟩;intro F H σ env Q R nb ok ex;unfold mP at nb ok ex;refine se.val R ↑m (λr e1 v F1 H1 x1 i1=>?_) λx z=>ex x ↑D;rw[e1,bind_ok]at nb ok;obtain⟨b,t⟩:=r;dsimp only at nb ok i1;cases t<;>dsimp only at nb ok<;>try(exact absurd rfl nb)
 case obj C fs ts=>
  split at nb;·rename_i hC;rw[if_pos hC]at ok;cases hl:Ni f fs ts with|none=>rw[hl]at nb;exact absurd rfl nb|some t=>rw[hl]at ok;unfold Is at i1;obtain⟨a,dx,SV,rfl,fa,hH,hk,ia⟩:=i1;obtain⟨v,lv,iv⟩:=J6 hk ia hl;exact⟨a,C,dx,SV,v,rfl,hH,(hc C hC).1,(hc C hC).2,lv,ok _ rfl v F1 H1 x1 (jj iv)⟩
  ·exact absurd rfl nb
def Qg(X:Cx)(C:h_)(m:Str)(sp:Sp)(ta:TE)(t:TA):TE:=λσ H Q=>ta σ H λx H1=>∃a dx fs,x=.ref a/\H1 a=b_ (.ins C dx fs)/\fs.lookup m=f_/\t σ H1 λvs H2=>∃E,sp (x::vs) H2 Q E/\∀e oa H',E e oa H'->∀pins s',db X e pins σ H' s'->X.xe e s'
def Qh(he:PE X o ta)(c:uB X.K C)(hm:fw X.K C m fa)(Fn:kg X.prog X.w X.K X.mg X.base (lI X.prog X.w) k fa fd ps sp)(hr:jT k X.A)(hb:gc X.K fd ps [])(ha:PA X (e::es) t)(Sx:p_ (e::es) X.env=↑ae::p_ es X.env:=by rfl)(hpl:(AT pos (p_ es X.env)).any (·.1)=a_:=by rfl)(ht:x_ (.Call (.Attribute o m Sf) (e::es) [] pos) X.env=(do
   let ov<-x_ o X.env
   Re Sf.atName let(f,first)<-O2 [ov] (Rl ov m pl)callWith pos f first (AT pos (p_ (e::es) X.env)) (OU pos (FU [] X.env))):=by rfl):PE X (.Call (.Attribute o m Sf) (e::es) [] pos) (Qg X C m sp ta t):=by intro pins s σ H Q I h;refine W.methodCall_KW (jk (he pins s σ H _ I h) λu s1⟨x,H1,I1,rx,a,dx,fs,ex,ea,l,q⟩=>?_) ht;subst ex;obtain rfl:u=sE a:=rx;refine Yv I1 ea c hm l ?_;refine G_ I.ok.mod.kin hm.kp (jk (ha pos pins s1 σ H1 _ I1 q) λus s2⟨vs,H2,I2,r,E,q2,hx⟩=>⟨I2.kIn,?_⟩) Sx hpl;exact dI (vs:=.ref a::vs) Fn hr hb I2 (.cons rfl r) q2 λe oa H' z s' I'=>hx e oa H' z pins s' I'
def kS(P:sN)(w:sY)(K:d_)(mg:Str->Option g_)(base:w_)(k:Nat)(C:h_)(m:Str)(ps:List Str)(f:MF):Prop:=∃fa fd,kg P w K mg base (lI P w) k fa fd ps (m6 K f)/\fw K C m fa/\uB K C/\gc K fd ps []
def kU(C:h_)(m:Str)(f:MF)(mo:ME)(ma:MA):ME:=λenv=>(mo env).bind λr=>match r.2 with|.obj C' fs ts=>if C'=C/\m∉fs then(ma env).bind λrs=>f ((a_,r.2)::rs)else .bad|_=>.bad
def Vi{C:h_}{f:MF}{ta:TE}{t:TA}(so:xW X ta mo)(sa:YT X t ma):xW X (Qg X C m (m6 X.K f) ta t) (kU C m f mo ma):=by
 intro F H σ env Q R nb ok ex;unfold kU at nb ok ex;refine so.val R ↑m (λr e1 v F0 H0 x0 i0=>?_) λx z=>ex x ↑D;rw[e1,bind_ok]at nb ok ex;obtain⟨b,t0⟩:=r;dsimp only at nb ok ex i0;cases t0<;>dsimp only at nb ok ex<;>try(exact absurd rfl nb)
 case obj C' fs ts=>
  split at nb
  ·rename_i hC;rw[if_pos hC]at ok ex;obtain⟨rfl,hm⟩:=hC;have i0':=i0;unfold Is at i0';obtain⟨a,dx,SV,rfl,fa,hH,hk,ia⟩:=i0';refine⟨a,dx,SV,rfl,hH,eM (by rw[hk];exact hm),?_⟩;refine sa F0 H0 σ env _ (R.mono x0) ↑m (λrs e2 vs F1 H1 x01 i1=>?_) λx z=>(ex x ↑D).mono x0;rw[e2,bind_ok]at nb ok ex;have x1:=x0.trans x01;have i1':xZ X.K (λa=>H a=f_) F1 H1 vs rs:=i1.any λa z=>j8 x0.same z;have i2:xZ X.K (λa=>H a=f_) F1 H1 (.ref a::vs) ((a_,.obj C' fs ts)::rs):=⟨jj (i0.mono x01.kept),i1',λz=>by cases z⟩;have SK:∀{F':h_->Prop}{H':Hp},m5 ⟨cN (.ref a::vs) ((a_,.obj C' fs ts)::rs),H1,F1⟩ F' H'->jB F H F' H':=by
    intro F' H' fr;refine⟨λa o h=>fr.keep a o (x1.same a o h) λz=>?_,λa h=>fr.sub a (x1.sub a h),λa h=>?_,fr.dom⟩;·rw[(k8 i2 z).2.1]at h;cases h
    ·rcases fr.new a h with h|h|h;·exact x1.new a h
     ·exact .inr (j8 x1.same h)
     ·exact .inr (k8 i2 h).2.1
   refine⟨λev oa H'=>oa=f_/\∃F' x,f ((a_,.obj C' fs ts)::rs)=.exc x/\jB F H F' H'/\KG X.K F' H' ev x,⟨F1,_,x1.dom,i2.any λ_ _=>trivial,nb,λr er v F' H' rr=>?_,λx Tb ev F' H' fr ix=>⟨rfl,F',x,Tb,SK fr,ix⟩⟩,λev oa H'⟨_,F',x,e',xt,ix⟩pins s' I=>ex x e' ev F' H' xt ix pins s' I⟩;refine ok r er v F' H' (SK rr.fr) ?_;have i:=rr.val;unfold kN at i⊢;split
   ·rename_i ho;rw[if_pos ho]at i;obtain⟨a',e,nf,fr,o⟩:=i;refine⟨a',e,nf,?_,o⟩;rcases fr with fr|fr;·exact j8 x1.same fr
    ·exact(k8 i2 fr).2.1
   ·rename_i ho;rw[if_neg ho]at i;exact i
  ·exact absurd rfl nb
def pT{k:Nat}{C:h_}{ps:List Str}{f:MF}{pl:Sem Bool}(M:kS X.prog X.w X.K X.mg X.base k C m ps f)(hr:jT k X.A)(ho:jb X o mo)(ha:Yi X (e::es) ma)(Sx:p_ (e::es) X.env=↑ae::p_ es X.env:=by rfl)(hpl:(AT pos (p_ es X.env)).any (·.1)=a_:=by rfl)(ht:x_ (.Call (.Attribute o m Sf) (e::es) [] pos) X.env=(do
   let ov<-x_ o X.env
   Re Sf.atName let(f,first)<-O2 [ov] (Rl ov m pl)callWith pos f first (AT pos (p_ (e::es) X.env)) (OU pos (FU [] X.env))):=by rfl):jb X (.Call (.Attribute o m Sf) (e::es) [] pos) (kU C m f mo ma):=by obtain⟨fa,fd,Fn,hm,hc,hb⟩:=M;obtain⟨to,po,so⟩:=ho;obtain⟨ta,pa,sa⟩:=ha;exact⟨_,Qh po hc hm Fn hr hb pa Sx hpl ht,Vi so sa⟩
section
variable{P:sN}{w:sY}{K:d_}{mg:Str->Option g_}{base:w_}
theorem kS.ok{C:h_}{x Se:Str}{st:A2}{N ps:List Str}{k:Nat}{mb:MS}(F:∃f fd,fx K x Se st f fd/\fw K C x f)(hc:uB K C)(S:zd N ps (za st))(hb:∀(kV Sq pm:g_)(an:Option h_)(Sg ct:g_)(us:List g_),↑h=↑l->Of (A9 x Se (jQ st) (j4 st) (za st) .none kV Sq pm an Sg ct) ⟨us,[]⟩=pure (ps.zip us))(Sn:∀(f:h_)(Sg:g_)(A:A3)(outer:List Env)(s:l_)(H:Hp)(E:XK),jT k (A.deeper (OB Se (za st) ↑a f Sg))->uL (lw (lI P w) P w K mg base N Se (za st) f Sg A outer s H E) (j4 st) mb):kS P w K mg base (k+1) C x ps (zG N.length ↑l mb):=by obtain⟨f,fd,F,hm⟩:=F;refine⟨f,fd,?_,hm,hc,F.binds hb⟩;obtain⟨oc,od,kV,Sq,pm,an,Sg,ct,T1,rfl,lk,Sz⟩:=F.ex;exact cg lk Sz S (λvs H Q E h=>MY h) λA outer s H vs Q E hr S_=>Q6 S_ (Sn f Sg A outer s H E hr)
end
def xZ.mono{K:d_}{fr F F':h_->Prop}{H H':Hp}(x:jB F H F' H'):∀{vs:List V}{rs:List RV},xZ K fr F H vs rs->xZ K fr F' H' vs rs
 |[],[],_=>trivial|[],_::_,h=>h.elim|_::_,[],h=>h.elim|v::vs,r::rs,h=>by
  refine⟨?_,xZ.mono x h.2.1,h.2.2⟩;have i:=h.1;unfold kN at i⊢;split
  ·rename_i ho;rw[if_pos ho]at i;obtain⟨a,e,nf,f,o⟩:=i;refine⟨a,e,λz=>?_,f,o.mono x.kept λo q=>x.same a o q⟩;rcases x.new a z with z|z;·exact nf z
   ·exact o.there z
  ·rename_i ho;rw[if_neg ho]at i;exact i.mono x.kept
abbrev MN:=List RV->gd T
def W9(K:d_)(g:MN):Sp:=λvs H Q E=>∃F rs,aq F H/\xZ K (λ_=>True) F H vs rs/\g rs≠.bad/\(∀t,g rs=.ok t->∀a F' H',vs[0]?=b_ (.ref a)->m5 ⟨cN vs rs,H,F⟩ F' H'->¬F' a->kh K F' H' a t->Q .non H')/\(∀x,g rs=.exc x->∀ev F' H',m5 ⟨cN vs rs,H,F⟩ F' H'->KG K F' H' ev x->E ev f_ H')
def gY(P:sN)(w:sY)(K:d_)(mg:Str->Option g_)(base:w_)(k:Nat)(C:h_)(x:Str)(ps:List Str)(g:MN):Prop:=∃fa fd,kg P w K mg base (lI P w) k fa fd ps (W9 K g)/\Mk K C fa/\mg x=b_ ↑aa/\gc K fd ps []
def gh(C:h_)(g:MN)(ma:MA):ME:=λenv=>(ma env).bind λrs=>(g ((e_,.obj C [] [])::rs)).bind λt=>.ok (a_,t)
def Qi(X:Cx)(C:h_)(sp:Sp)(t:TA):TE:=λσ H Q=>t σ H λvs H1=>∀x dx,H1 x=f_->H1 dx=f_->dx≠x->∃E,sp (.ref x::vs) (zO (zO H1 dx (.own x)) x (.ins C dx [])) (λv H2=>v=.non/\Q (.ref x) H2) E/\∀e oa H',E e oa H'->∀pins s',db X e pins σ H' s'->X.xe e s'
def Vj(M:Mk X.K C fa)(F:kg X.prog X.w X.K X.mg X.base (lI X.prog X.w) k fa fd ps sp)(hr:jT (k+1) X.A)(hb:gc X.K fd ps [])(I:zu X pins σ H s)(r:zQ vs us)(h:∀x dx,H x=f_->H dx=f_->dx≠x->∃E,sp (.ref x::vs) (zO (zO H dx (.own x)) x (.ins C dx [])) (λv H2=>v=.non/\Q (.ref x) H2) E/\∀e oa H',E e oa H'->∀pins s',db X e pins σ H' s'->X.xe e s'):o_ ↑n X.A (call ↑aa us) (EP X pins σ Q) X.xe s:=by
 obtain⟨E,hq,hx⟩:=h (↑a+1) ↑a (I.hok.fresh (FV _)) (I.hok.fresh (r_ _)) (su (FJ _));have I2:=zu.made (C:=C) I;have r2:zQ (V.ref (↑a+1)::vs) (sE (↑a+1)::us):=.cons rfl r;have hl:(sE (↑a+1)::us).length=↑l:=by have e:=r2.length;rw[F.len _ _ _ _ hq]at e;exact e.symm
 refine Oo (Kg I.kIn M.makes M.init (beq_iff_eq.mp M.fn) (Fd (F.run _ X.stack _ _ ⟨sE (↑a+1)::us,[]⟩ (sE (↑a+1)::us) _ _ E (hr.make C us []) (I2.env0.make C us []) (by have:=hb _ (sE (↑a+1)::us) I2.kIn (by simpa using hl);simpa using this) r2 hq) λr s' TF=>?_));cases r with|error e=>obtain⟨H',oa,ho,hg,hu,hok,fl,he⟩:=TF;exact hx e oa H' he pins s' ⟨I2.call' ho hu hok hg λb z=>absurd z ↑G,fl.up I2.sz λp hp=>n_ (I2.pin p hp).1⟩|ok fl=>cases fl with|ret u=>obtain⟨v,H',I3,rv,ev,q3⟩:=I2.after TF;subst ev;exact⟨rv,⟨V.ref (↑a+1),H',I3,rfl,q3⟩⟩|next=>exact AO TF|brk=>exact AO TF|cont=>exact AO TF
def Qj(M:Mk X.K C fa)(F:kg X.prog X.w X.K X.mg X.base (lI X.prog X.w) k fa fd ps sp)(hr:jT (k+1) X.A)(hg:Gl X x)(hm:X.mg x=b_ ↑aa)(hb:gc X.K fd ps [])(ha:PA X (e::es) t)(SG:(x==↑x)=a_:=by decide)(he:p_ (e::es) X.env=↑ae::p_ es X.env:=by rfl)(hpl:(AT pos (p_ es X.env)).any (·.1)=a_:=by rfl):PE X (.Call (.Name x p) (e::es) [] pos) (Qi X C sp t):=by intro pins s σ H Q I h;refine Ai (ls I hg hm ?_ SG);refine G_ I.ok.mod.kin M.kp (jk (ha pos pins s σ H _ I h) λus s1⟨vs,H1,I1,r,q⟩=>⟨I1.kIn,?_⟩) he hpl;exact Vj M F hr hb I1 r q
def Vk(sa:YT X t ma):xW X (Qi X C (W9 X.K g) t) (gh C g ma):=by
 intro F H σ env Q R nb ok ex;unfold gh at nb ok ex;refine sa F H σ env _ R ↑m (λrs e1 vs F1 H1 x1 i1=>?_) λx z=>ex x ↑D;rw[e1,bind_ok]at nb ok ex;intro a dx ha hd TX;have ea:jB F1 H1 F1 (zO H1 dx (.own a)):=jB.alloc x1.dom hd;have hna:zO H1 dx (.own a) a=f_:=by rw[zg (AE TX)];exact ha
 have eb:jB F1 (zO H1 dx (.own a)) F1 (zO (zO H1 dx (.own a)) a (.ins C dx [])):=jB.alloc ea.dom hna;have x2:=ea.trans eb;have x12:=x1.trans x2;have nF:¬F1 a:=λf=>x1.dom a f ha;have own:∀{i:Nat}{r:RV},rs[i]?=b_ r->r.1=e_->vs[i]?=b_ (V.ref a)->False:=by intro i r er ho hv;exact(k8 i1 ⟨i,r,er,ho,hv⟩).2.2 ha
 have i2:xZ X.K (λa=>H a=f_) F1 (zO (zO H1 dx (.own a)) a (.ins C dx [])) (.ref a::vs) ((e_,.obj C [] [])::rs):=by refine⟨?_,i1.mono x2,λ_ j r er ho hv=>own er ho hv⟩;unfold kN;rw[if_pos rfl];exact⟨a,rfl,nF,j8 x1.same ha,dx,[],zm,rfl,IsAll.nil⟩
 have SK:∀{F':h_->Prop}{H':Hp},m5 ⟨cN (.ref a::vs) ((e_,.obj C [] [])::rs),zO (zO H1 dx (.own a)) a (.ins C dx []),F1⟩ F' H'->jB F H F' H':=by
  intro F' H' fr;refine⟨λb o h=>fr.keep b o (x12.same b o h) λz=>?_,λb h=>fr.sub b (x1.sub b h),λb h=>?_,fr.dom⟩;·rw[(k8 i2 z).2.1]at h;cases h
  ·rcases fr.new b h with h|h|h;·exact x1.new b h
   ·exact .inr (j8 x12.same h)
   ·exact .inr (k8 i2 h).2.1
 refine⟨λev oa H'=>oa=f_/\∃F' x,g ((e_,.obj C [] [])::rs)=.exc x/\jB F H F' H'/\KG X.K F' H' ev x,⟨F1,_,x2.dom,i2.any λ_ _=>trivial,λz=>by rw[z]at nb;exact nb rfl,λt et a' F' H' hv fr TY w=>?_,λx Tb ev F' H' fr ix=>⟨rfl,F',x,Tb,SK fr,ix⟩⟩,λev oa H'⟨_,F',x,e',xt,ix⟩pins s' I=>ex x (by rw[e'];rfl) ev F' H' xt ix pins s' I⟩;have hv:V.ref a=V.ref a':=by simpa using hv
 cases hv;refine⟨rfl,ok (a_,t) (by rw[et];rfl) (.ref a) (λb=>F' b\/b=a) H' ((SK fr).freeze (j8 x1.same ha) w.there) (jj (w.is (λb h=>.inl h) (.inr rfl)))⟩
def rF(M:gY X.prog X.w X.K X.mg X.base k C x ps g)(hr:jT (k+1) X.A)(hg:Gl X x)(ha:Yi X (e::es) ma)(SG:(x==↑x)=a_:=by decide)(he:p_ (e::es) X.env=↑ae::p_ es X.env:=by rfl)(hpl:(AT pos (p_ es X.env)).any (·.1)=a_:=by rfl):jb X (.Call (.Name x p) (e::es) [] pos) (gh C g ma):=by obtain⟨fa,fd,F,hM,hm,hb⟩:=M;obtain⟨ta,pa,sa⟩:=ha;exact⟨_,Qj hM F hr hg hm hb pa SG he hpl,Vk sa⟩
def jC(M:T)(ts:List T)(i:Nat)(t:T)(d:Option RV):En:=[f_,b_ (a_,.lst ts),b_ (a_,M),b_ (a_,.int i),b_ (a_,t),d]
def gq(M:T)(tw tc:MT)(mk mv:ME)(ts:List T)(i:Nat)(t:T)(st:T×T):gd (T×T):=(tw (jC M ts i t f_)).bind λb=>match tc (jC M ts i t (b_ (a_,if b=e_ then st.2 else st.1)))with
 |.ok a_=>(mv (jC M ts i t f_)).bind λv=>(mk (jC M ts i t f_)).bind λk=>match lC k.2,(if b=e_ then st.2 else st.1)with|some Sj,.dct ks us=>if ks.length<j_ then .ok (if b=e_ then(st.1,uM ks us Sj v.2)else(uM ks us Sj v.2,st.2))else .bad|_,_=>.bad
 |_=>.bad
def xR(M:T)(tw tc:MT)(mk mv:ME)(ts:List T):Nat->List T->T×T->gd (T×T)|_,[],st=>.ok st|i,t::r,st=>(gq M tw tc mk mv ts i t st).bind λst'=>xR M tw tc mk mv ts (i+1) r st'
mutual def kH:T->List Str|.str x=>[x]|.tup ts=>strsL ts|_=>[]def strsL:List T->List Str|[]=>[]|t::ts=>kH t++strsL ts end
open Classical in def vg(memo:List Str->Mo)(C0:h_)(f1 f2:Str)(tw tc:MT)(mk mv:ME):MN:=λrs=>match rs with|[(e_,.obj C [] []),(_,.lst ts)]=>if C=C0/\(strsL ts).length<j_ then(match xR (.mem 0 (memo (strsL ts) 0)) tw tc mk mv ts 0 ts (.dct [] [],.dct [] [])with|.ok st=>if∀m,xR (.mem m (memo (strsL ts) m)) tw tc mk mv ts 0 ts (.dct [] [],.dct [] [])=.ok st then .ok (.obj C [f1,f2] [st.1,st.2])else .bad|_=>.bad)else .bad|_=>.bad
structure jg(K:d_)(B:Bs)(f1 f2:Str)(C a l dk df dx:h_)(ts:List T)(d1 d2:T)(F:h_->Prop)(H:Hp):Prop where
 fr:m5 B F H
 nA:¬F a
 nk:¬F dk
 nf:¬F df
 ne:dk≠df
 ins:H a=b_ (.ins C dx [(f1,.ref dk),(f2,.ref df)])bk:B.H dk=f_
 bf:B.H df=f_
 w1:kh K F H dk d1
 w2:kh K F H df d2
 s1:∃ks us,d1=.dct ks us
 s2:∃ks us,d2=.dct ks us
 pl:Is K F H (.lst ts) (.ref l)
section
variable{K:d_}{B:Bs}{f1 f2:Str}{C a l dk df dx:h_}{ts:List T}{d1 d2:T}{F F':h_->Prop}{H H':Hp}
theorem jg.ext(p:jg K B f1 f2 C a l dk df dx ts d1 d2 F H)(x:jB F H F' H'):jg K B f1 f2 C a l dk df dx ts d1 d2 F' H':=by
 have Sh:∀b,¬F b->H b≠f_->¬F' b:=λb n h z=>by
  rcases x.new b z with z|z;·exact n z
  ·exact h z
 exact⟨p.fr.ext x,Sh a p.nA (by rw[p.ins];intro z;cases z),Sh dk p.nk p.w1.there,Sh df p.nf p.w2.there,p.ne,x.same _ _ p.ins,p.bk,p.bf,p.w1.mono x.kept λo q=>x.same _ _ q,p.w2.mono x.kept λo q=>x.same _ _ q,p.s1,p.s2,p.pl.mono x.kept⟩
theorem jg.put1(p:jg K B f1 f2 C a l dk df dx ts d1 d2 F H)(e:d1=.dct ks us)(h:H dk=b_ (.dK kvs))(hk:kvs.map (·.1)=ks)(i:IsAll K F H us (kvs.map (·.2)))(iv:Is K F H t v):jg K B f1 f2 C a l dk df dx ts (uM ks us k t) d2 F (zO H dk (.dK (k7 kvs k v))):=by
 have kp:gx F F H (zO H dk (.dK (k7 kvs k v))):=xi p.nk h (.inr (.inl ⟨_,rfl⟩));have na:a≠dk:=lr p.ins h (by intro z;cases z);refine⟨⟨λb f=>?_,p.fr.sub,p.fr.new,λb o hb hm=>?_,p.fr.f0⟩,p.nA,p.nk,p.nf,p.ne,by rw[zg na];exact p.ins,p.bk,p.bf,cG hk i iv kp zm,p.w2.mono kp λo q=>by rw[zg (AE p.ne)];exact q,?_,p.s2,p.pl.mono kp⟩
 ·have:b≠dk:=by rintro rfl;exact p.nk f
  rw[zg this];exact p.fr.dom b f
 ·have:b≠dk:=by rintro rfl;rw[p.bk]at hb;cases hb
  rw[zg this];exact p.fr.keep b o hb hm
 ·unfold uM;split;·exact⟨_,_,rfl⟩
  ·exact⟨_,_,rfl⟩
theorem jg.put2(p:jg K B f1 f2 C a l dk df dx ts d1 d2 F H)(e:d2=.dct ks us)(h:H df=b_ (.dK kvs))(hk:kvs.map (·.1)=ks)(i:IsAll K F H us (kvs.map (·.2)))(iv:Is K F H t v):jg K B f1 f2 C a l dk df dx ts d1 (uM ks us k t) F (zO H df (.dK (k7 kvs k v))):=by
 have kp:gx F F H (zO H df (.dK (k7 kvs k v))):=xi p.nf h (.inr (.inl ⟨_,rfl⟩));have na:a≠df:=lr p.ins h (by intro z;cases z);refine⟨⟨λb f=>?_,p.fr.sub,p.fr.new,λb o hb hm=>?_,p.fr.f0⟩,p.nA,p.nk,p.nf,p.ne,by rw[zg na];exact p.ins,p.bk,p.bf,p.w1.mono kp λo q=>by rw[zg p.ne];exact q,cG hk i iv kp zm,p.s1,?_,p.pl.mono kp⟩
 ·have:b≠df:=by rintro rfl;exact p.nf f
  rw[zg this];exact p.fr.dom b f
 ·have:b≠df:=by rintro rfl;rw[p.bf]at hb;cases hb
  rw[zg this];exact p.fr.keep b o hb hm
 ·unfold uM;split;·exact⟨_,_,rfl⟩
  ·exact⟨_,_,rfl⟩
theorem Qk(h:Is K F H t v)(e:lC t=b_ k):v=kV k:=W1 (fr:=λ_=>True) (jj h) e
theorem jB.less(nb:¬F b)(hb:H b≠f_)(x:jB (λc=>F c\/c=b) H F' H'):jB F H (λc=>F' c/\c≠b) H':=by
 refine⟨x.same,λc h=>⟨x.sub c (.inl h),λz=>nb (z▸h)⟩,λc h=>?_,λc h=>x.dom c h.1⟩;rcases x.new c h.1 with(z|z)|z;·exact .inl z
 ·exact absurd z h.2
 ·exact .inr z
theorem pU(dm:aq F H)(pl:Is K F H (.lst ts) (.ref l))(pm:Is K F H M (.ref mm))(iy:Is K F H t y)(s1:σ[1]?=b_ (b_ (.ref l)))(sm:σ[2]?=b_ (b_ (.ref mm)))(s2:σ[3]?=b_ (b_ (.int i)))(s3:σ[4]?=b_ (b_ y))(hd:∀r,d=b_ r->∃v,σ[5]?=b_ (b_ v)/\Is K F H r.2 v):xV K F H σ (jC M ts i t d):=by refine⟨dm,λj r h=>?_⟩;unfold jC at h;match j,h with|0,h=>simp at h|1,h=>simp at h;subst h;exact⟨_,s1,pl⟩|2,h=>simp at h;subst h;exact⟨_,sm,pm⟩|3,h=>simp at h;subst h;exact⟨_,s2,xL⟩|4,h=>simp at h;subst h;exact⟨_,s3,iy⟩|5,h=>simp at h;exact hd r h|n+6,h=>simp at h
end
def La{f1 f2:Str}{x y:V}(hf:f1≠f2):Ff f2 [(f1,x),(f2,y)]=b_ y:=by
 have h:(f2==f1)=a_:=by simpa using AE hf
 rw[Ad,h,Ad,beq_self_eq_true]
def Lb{f1 f2:Str}{x y:V}:Ff f1 [(f1,x),(f2,y)]=b_ x:=by rw[Ad,beq_self_eq_true]
section
variable{X:Cx}{f1 f2:Str}{cw cc ek ev:A1}{tw tc:MT}{mk mv:ME}{C:h_}{rs:List A2}{p1 p2 p3 p4 p5 p6 p7 p8 p9 q1 q2 q3 q4 q5 q6 q7 q8 q9 r1 r2 r3 r4 r5 r6 r7 r8 r9 s1 s2 s3:Pos}{kt:Nat}
theorem cX{α β:Type}{m:gd α}{f:α->gd β}{r:β}(h:m.bind f=.ok r):∃a,m=.ok a/\f a=.ok r:=by cases m with|ok a=>exact⟨a,rfl,h⟩|exc x=>cases h|bad=>cases h
theorem Ql{M:T}{tw tc:MT}{mk mv:ME}{ts:List T}{i:Nat}{t d1 d2:T}{st':T×T}(SL:gq M tw tc mk mv ts i t (d1,d2)=.ok st'):∃b rv rk Sj ks us,tw (jC M ts i t f_)=.ok b/\tc (jC M ts i t (b_ (a_,if b=e_ then d2 else d1)))=.ok a_/\mv (jC M ts i t f_)=.ok rv/\mk (jC M ts i t f_)=.ok rk/\lC rk.2=b_ Sj/\(if b=e_ then d2 else d1)=.dct ks us/\ks.length<j_/\(if b=e_ then(d1,uM ks us Sj rv.2)else(uM ks us Sj rv.2,d2))=st':=by
 obtain⟨b2,hb,h⟩:=cX (show(tw _).bind _=_ from SL);have h:(match tc (jC M ts i t (b_ (a_,if b2=e_ then d2 else d1)))with
  |.ok a_=>(mv (jC M ts i t f_)).bind λv=>(mk (jC M ts i t f_)).bind λk=>match lC k.2,(if b2=e_ then d2 else d1)with|some Sj,.dct ks us=>if ks.length<j_ then gd.ok (if b2=e_ then(d1,uM ks us Sj v.2)else(uM ks us Sj v.2,d2))else .bad|_,_=>.bad
  |_=>.bad)=.ok st':=h;split at h
 ·rename_i SZ;obtain⟨rv,Τ,h⟩:=cX h;obtain⟨rk,Κ,h⟩:=cX h;split at h
  ·rename_i SI hd;split at h;·rename_i hl;exact⟨b2,rv,rk,_,_,_,hb,SZ,Τ,Κ,SI,hd,hl,gd.ok.inj h⟩
   ·cases h
  ·cases h
 ·cases h
theorem xZ.two{K:d_}{fr F:h_->Prop}{H:Hp}{r1 r2:RV}{vs:List V}(h:xZ K fr F H vs [r1,r2]):∃va vl,vs=[va,vl]:=by cases vs with|nil=>exact h.elim|cons a t=>cases t with|nil=>exact h.2.1.elim|cons b u=>cases u with|nil=>exact⟨a,b,rfl⟩|cons c x=>exact h.2.1.2.1.elim
theorem U3{memo:List Str->Mo}{C0:h_}{f1 f2:Str}{tw tc:MT}{mk mv:ME}{rs:List RV}(nb:vg memo C0 f1 f2 tw tc mk mv rs≠.bad):∃b ts fin,rs=[(e_,.obj C0 [] []),(b,.lst ts)]/\(strsL ts).length<j_/\(∀m,xR (.mem m (memo (strsL ts) m)) tw tc mk mv ts 0 ts (.dct [] [],.dct [] [])=.ok fin)/\vg memo C0 f1 f2 tw tc mk mv rs=.ok (.obj C0 [f1,f2] [fin.1,fin.2]):=by
 unfold vg at nb⊢;split at nb
 ·split at nb
  ·rename_i hC;obtain⟨rfl,hz⟩:=hC;split at nb
   ·rename_i st Sx;split at nb;·rename_i hm;exact⟨_,_,st,rfl,hz,hm,by rw[if_pos ⟨rfl,hz⟩];exact if_pos hm⟩
    ·exact absurd rfl nb
   ·exact absurd rfl nb
  ·exact absurd rfl nb
 ·exact absurd rfl nb
theorem Qm{K:d_}{f:Str}{u:TS}{D:nQ}{σ:St}{H:Hp}{a C dx:h_}{fs:List (Str×V)}(h0:σ[0]?=b_ (b_ (.ref a)))(hi:H a=b_ (.ins C dx fs))(cl:uB K C)(n:zS K C f)(hl:fs.length<1000)(k:∀p,H p=f_->a≠p->u D σ (zO (zO H p (.dK [])) a (.ins C dx (qh f (.ref p) fs)))):d9 (P1 K (xJ 0) oR f) u D σ H:=λp hp=>have hap:a≠p:=zM hi hp;⟨.ref a,h0,a,C,dx,fs,rfl,by rw[zg hap];exact hi,cl,n,hl,k p hp hap⟩
section
variable{M:T}{B:Bs}{a l mm dk df dx:h_}{ts:List T}{d1 d2 t d:T}{F:h_->Prop}{H:Hp}{Μ TZ:TT}{S' TV:TE}{i:Nat}{y:V}{D:nQ}{o2 o3 o4:Option V}{st' fin:T×T}
theorem J7(sc:fD X TZ tc)(sk:xW X S' mk)(sv:xW X TV mv)(P4:jg X.K B f1 f2 C a l dk df dx ts d1 d2 F H)(pm4:Is X.K F H M (.ref mm))(iy4:Is X.K F H t y)(SZ:tc (jC M ts i t (b_ (a_,d)))=.ok a_)(Τ:mv (jC M ts i t f_)=.ok rv)(Κ:mk (jC M ts i t f_)=.ok rk)(SI:lC rk.2=b_ Sj)(ntd:¬F td)(wtd:kh X.K F H td d)(put:∀F6 H6 v,jg X.K B f1 f2 C a l dk df dx ts d1 d2 F6 H6->Is X.K F6 H6 M (.ref mm)->Is X.K F6 H6 rv.2 v->∃kvs,H6 td=b_ (.dK kvs)/\kvs.length<j_/\D.nx [b_ (.ref a),b_ (.ref l),b_ (.ref mm),b_ (.int i),b_ y,b_ (.ref td)] (zO H6 td (.dK (k7 kvs Sj v)))):d9 (K4 TZ dW Zs) (tq (xJ 5) S' TV) D [b_ (.ref a),b_ (.ref l),b_ (.ref mm),b_ (.int i),b_ y,b_ (.ref td)] H:=by
 have kz:gx F (λc=>F c\/c=td) H H:=⟨λ_ h=>.inl h,λ_ _ _ h=>h,λ_ _ h _ _=>h⟩;refine sc (λc=>F c\/c=td) H _ (jC M ts i t (b_ (a_,d))) _ (pU (λc h=>?_) (P4.pl.mono kz) (pm4.mono kz) (iy4.mono kz) rfl rfl rfl rfl λr z=>?_) (by rw[SZ];intro z;cases z) (λb' eb F5 H5 x5=>?_) λx z=>by rw[SZ]at z;cases z
 ·rcases h with h|rfl;·exact P4.fr.dom c h
  ·exact wtd.there
 ·cases z;exact⟨_,rfl,wtd.is (λ_ h=>.inl h) (.inr rfl)⟩
 rw[SZ]at eb;cases eb;rw[if_neg sM];have x5':=x5.less ntd wtd.there;have P5:=P4.ext x5';have iy5:=iy4.mono x5'.kept;have pm5:=pm4.mono x5'.kept;refine sv.val (env:=jC M ts i t f_) (pU P5.fr.dom P5.pl pm5 iy5 rfl rfl rfl rfl λr z=>by cases z) (by rw[Τ];intro z;cases z) (λr er v F6 H6 x6 i6=>?_) λx z=>by rw[Τ]at z;cases z
 rw[Τ]at er;cases er;have P6:=P5.ext x6;have iy6:=iy5.mono x6.kept;have pm6:=pm5.mono x6.kept;refine⟨.ref td,rfl,?_⟩;refine sk.val (env:=jC M ts i t f_) (pU P6.fr.dom P6.pl pm6 iy6 rfl rfl rfl rfl λr z=>by cases z) (by rw[Κ];intro z;cases z) (λr er kv F7 H7 x7 i7=>?_) λx z=>by rw[Κ]at z;cases z
 rw[Κ]at er;cases er;obtain⟨kvs,hkv,hlen',P8⟩:=put F7 H7 v (P6.ext x7) (pm6.mono x7.kept) (i6.mono x7.kept);refine⟨td,_,rfl,?_,P8⟩;rw[Qk i7 SI];exact YG.k hkv hlen'
theorem Qn(sw:fD X Μ tw)(sc:fD X TZ tc)(sk:xW X S' mk)(sv:xW X TV mv)(cl:uB X.K C)(n1:zS X.K C f1)(n2:zS X.K C f2)(hf:f1≠f2)(P3:jg X.K B f1 f2 C a l dk df dx ts d1 d2 F H)(pm:Is X.K F H M (.ref mm))(iy:Is X.K F H t y)(SL:gq M tw tc mk mv ts i t (d1,d2)=.ok st')(nx:∀F' H' o4,jg X.K B f1 f2 C a l dk df dx ts st'.1 st'.2 F' H'->Is X.K F' H' M (.ref mm)->D.nx [b_ (.ref a),b_ (.ref l),b_ (.ref mm),b_ (.int i),b_ y,o4] H'):d9 (oH (EE Μ (Yx X.K (xJ 0) f2) (Yx X.K (xJ 0) f1)) (qJ 5)) (d9 (K4 TZ dW Zs) (tq (xJ 5) S' TV)) D [b_ (.ref a),b_ (.ref l),b_ (.ref mm),b_ (.int i),b_ y,o4] H:=by
 obtain⟨b2,rv,rk,Sj,ks,us,hb,SZ,Τ,Κ,SI,hd,hlen,rfl⟩:=Ql SL;refine sw F H _ (jC M ts i t f_) _ (pU P3.fr.dom P3.pl pm iy rfl rfl rfl rfl λr z=>by cases z) (by rw[hb];intro z;cases z) (λb' eb F4 H4 x4=>?_) λx z=>by rw[hb]at z;cases z
 rw[hb]at eb;cases eb;have P4:=P3.ext x4;have iy4:=iy.mono x4.kept;have pm4:=pm.mono x4.kept;cases b2 with|true=>rw[if_pos rfl]at hd SZ nx⊢;subst hd;refine⟨.ref a,rfl,a,C,dx,_,.ref df,rfl,P4.ins,cl,n2,La hf,?_⟩;refine J7 sc sk sv P4 pm4 iy4 SZ Τ Κ SI P4.nf P4.w2 λF6 H6 v P6 pm6 iv=>?_;obtain⟨kvs,hkv,hks,iw⟩:=P6.w2;exact⟨kvs,hkv,by rw[<-hks,j']at hlen;exact hlen,nx F6 _ _ (P6.put2 rfl hkv hks iw iv) (pm6.mono (xi P6.nf hkv (.inr (.inl ⟨_,rfl⟩))))⟩|false=>rw[if_neg sM]at hd SZ nx⊢;subst hd;refine⟨.ref a,rfl,a,C,dx,_,.ref dk,rfl,P4.ins,cl,n1,Lb,?_⟩;refine J7 sc sk sv P4 pm4 iy4 SZ Τ Κ SI P4.nk P4.w1 λF6 H6 v P6 pm6 iv=>?_;obtain⟨kvs,hkv,hks,iw⟩:=P6.w1;exact⟨kvs,hkv,by rw[<-hks,j']at hlen;exact hlen,nx F6 _ _ (P6.put1 rfl hkv hks iw iv) (pm6.mono (xi P6.nk hkv (.inr (.inl ⟨_,rfl⟩))))⟩
theorem Qo(P:jg X.K B f1 f2 C a l dk df dx ts d1 d2 F H):∃us,YN X.K F H l us/\IsAll X.K F H ts us:=by have:=P.pl;unfold Is at this;obtain⟨a',us,e,g1,g2⟩:=this;cases e;exact⟨us,g1,g2⟩
theorem Qp(sw:fD X Μ tw)(sc:fD X TZ tc)(sk:xW X S' mk)(sv:xW X TV mv)(cl:uB X.K C)(n1:zS X.K C f1)(n2:zS X.K C f2)(hf:f1≠f2)(P0:jg X.K B f1 f2 C a l dk df dx ts (.dct [] []) (.dct [] []) F H)(pm0:Is X.K F H M (.ref mm))(TC:xR M tw tc mk mv ts 0 ts (.dct [] [],.dct [] [])=.ok fin)(nx:∀F' H' σ,jg X.K B f1 f2 C a l dk df dx ts fin.1 fin.2 F' H'->D.nx σ H'):M8 (Qf X.K (xJ 1)) (NZ X.K 2 (Zu (qJ 3) (Zu (qJ 4) NY))) (d9 (oH (EE Μ (Yx X.K (xJ 0) f2) (Yx X.K (xJ 0) f1)) (qJ 5)) (d9 (K4 TZ dW Zs) (tq (xJ 5) S' TV))) D [b_ (.ref a),b_ (.ref l),b_ (.ref mm),f_,f_,f_] H:=by
 obtain⟨us0,hus0,_⟩:=Qo P0;refine⟨.ref l,rfl,l,rfl,⟨us0,hus0.sq⟩,?_⟩;refine⟨λi m σ H=>m=↑c-i/\i<=↑c/\∃F d1 d2 o2 o3 o4,σ=[b_ (.ref a),b_ (.ref l),b_ (.ref mm),o2,o3,o4]/\jg X.K B f1 f2 C a l dk df dx ts d1 d2 F H/\Is X.K F H M (.ref mm)/\xR M tw tc mk mv ts i (ts.drop i) (d1,d2)=.ok fin,⟨↑c,by simp,A5 _,F,_,_,f_,f_,f_,rfl,P0,pm0,by simpa using TC⟩,?_⟩;rintro i m σ H2⟨rfl,hi,F2,d1,d2,o2,o3,o4,rfl,P2,pm2,hrun⟩;obtain⟨us,hus,ius⟩:=Qo P2;by_cases Si:i<↑c;·refine .inr ⟨⟨us,us[i]'(by rw[<-ius.len];exact Si),hus.sq,by simp⟩,λσ H=>∃F d1 d2 o2 o3 o4,σ=[b_ (.ref a),b_ (.ref l),b_ (.ref mm),o2,o3,o4]/\jg X.K B f1 f2 C a l dk df dx ts d1 d2 F H/\Is X.K F H M (.ref mm)/\xR M tw tc mk mv ts (i+1) (ts.drop (i+1)) (d1,d2)=.ok fin,λσ' H' n=>⟨↑c-(i+1),by omega,rfl,Si,n⟩,?_⟩;rintro x H3⟨tu,y,htu,rfl,rfl,hy⟩;have hyi:=hy us hus.sq;obtain⟨y',hy',iy0⟩:=ius.get (i:=i) (t:=ts[i]) (by simp[Si]);rw[hyi]at hy';cases hy';have xa:jB F2 H2 F2 (zO H2 tu (.tup [.int i,y])):=jB.alloc P2.fr.dom htu;refine⟨tu,[.int i,y],rfl,.inl (.inl zm),rfl,.int i,[y],rfl,y,[],rfl,rfl,?_⟩;have hdr:ts.drop i=ts[i]::ts.drop (i+1):=Ax Si;rw[hdr,xR]at hrun;cases SL:gq M tw tc mk mv ts i ts[i] (d1,d2)with|bad=>rw[SL]at hrun;cases hrun|exc x=>rw[SL]at hrun;cases hrun|ok st'=>rw[SL,bind_ok]at hrun;exact Qn sw sc sk sv cl n1 n2 hf (P2.ext xa) (pm2.mono xa.kept) (iy0.mono xa.kept) SL λF' H' o4 P pm=>⟨F',st'.1,st'.2,_,_,_,rfl,P,pm,hrun⟩
 ·have hli:i=↑c:=by omega
  subst hli;rw[Fh,xR]at hrun;have Ϙ:(d1,d2)=fin:=by injection hrun
  subst Ϙ;exact .inl ⟨⟨us,hus.sq,by rw[ius.len];exact r_ _⟩,nx F2 H2 _ P2⟩
end
def X0(memo:List Str->Mo):TE:=λ_ H Q=>∃ks:List Str,ks.length<j_/\∀p,H p=f_->Q (.ref p) (zO H p (.ext (memo ks p)))
theorem Vl{memo:List Str->Mo}{Μ TZ:TT}{S' TV:TE}{b:Bool}{ts:List T}{fin:T×T}{F:h_->Prop}{H:Hp}{va vl:V}{Q:VK}(sw:fD X Μ tw)(sc:fD X TZ tc)(sk:xW X S' mk)(sv:xW X TV mv)(cl:uB X.K C)(n1:zS X.K C f1)(n2:zS X.K C f2)(hf:f1≠f2)(hN:X.N=[("self":Str),("pieces":Str),("looked":Str),("at":Str),("piece":Str),("told":Str)])(dm:aq F H)(ir:xZ X.K (λ_=>True) F H [va,vl] [(e_,.obj C [] []),(b,.lst ts)])(hz:(strsL ts).length<j_)(TC:∀m,xR (.mem m (memo (strsL ts) m)) tw tc mk mv ts 0 ts (.dct [] [],.dct [] [])=.ok fin)(ok:∀a F' H',[va,vl][0]?=b_ (.ref a)->m5 ⟨cN [va,vl] [(e_,.obj C [] []),(b,.lst ts)],H,F⟩ F' H'->¬F' a->kh X.K F' H' a (.obj C [f1,f2] [fin.1,fin.2])->Q .non H'):d9 (P1 X.K (xJ 0) oR f1) (d9 (P1 X.K (xJ 0) oR f2) (d9 (oH (X0 memo) (qJ 2)) (M8 (Qf X.K (xJ 1)) (NZ X.K 2 (Zu (qJ 3) (Zu (qJ 4) NY))) (d9 (oH (EE Μ (Yx X.K (xJ 0) f2) (Yx X.K (xJ 0) f1)) (qJ 5)) (d9 (K4 TZ dW Zs) (tq (xJ 5) S' TV)))))) {nx:=λ_ H'=>Q .non H',rt:=Q} (start X.N [va,vl]) H:=by
 have ir0:=ir;obtain⟨ia,⟨il,_,_⟩,sep⟩:=ir;obtain⟨a,rfl,nFa,_,hHa,wa⟩:=ia.there rfl;obtain⟨dx,SV,hins,hk0,_⟩:=wa;have hfv:SV=[]:=by simpa using hk0
 subst hfv--the list,frozen
 have hfz:∃F0:h_->Prop,∃l,vl=.ref l/\(∀c,F c->F0 c)/\(∀c,F0 c->F c\/(c=l/\b=e_/\H c≠f_))/\¬F0 a/\Is X.K F0 H (.lst ts) (.ref l):=by cases b with|false=>have il:=il.is;obtain⟨l,us,e,_⟩:=(show∃a vs,vl=.ref a/\_ by unfold Is at il;exact il);subst e;exact⟨F,l,rfl,λ_ h=>h,λ_ h=>.inl h,nFa,il⟩|true=>
   obtain⟨l,rfl,nFl,_,hHl,wl⟩:=il.there rfl;refine⟨λc=>F c\/c=l,l,rfl,λ_ h=>.inl h,λc h=>?_,λz=>?_,wl.is (λ_ h=>.inl h) (.inr rfl)⟩
   ·rcases h with h|rfl;·exact .inl h
    ·exact .inr ⟨rfl,rfl,hHl⟩
   ·rcases z with z|rfl;·exact nFa z
    ·exact sep rfl 0 (e_,.lst ts) rfl rfl rfl
 obtain⟨F0,l,rfl,sub0,new0,nF0a,il0⟩:=hfz;have dm0:aq F0 H:=λc h=>by
  rcases new0 c h with h|h;·exact dm c h
  ·exact h.2.2
 generalize hB:(⟨cN [V.ref a,V.ref l] [(e_,T.obj C [] []),(b,T.lst ts)],H,F⟩:Bs)=B at ok;have fr0:m5 B F0 H:=by
  subst hB;refine⟨dm0,λc h=>sub0 c h,λc h=>?_,λc o h _=>h,λc f z=>?_⟩
  ·rcases new0 c h with h|⟨rfl,hb,_⟩;·exact .inl h
   ·exact .inr (.inr ⟨1,(b,T.lst ts),rfl,hb,rfl⟩)
  ·exact(k8 ir0 z).1 f
 have bH:B.H=H:=by rw[<-hB]
 have hMa:B.M a:=by rw[<-hB];exact⟨0,(e_,T.obj C [] []),rfl,rfl,rfl⟩
 have Sx:start X.N [V.ref a,V.ref l]=[b_ (.ref a),b_ (.ref l),f_,f_,f_,f_]:=by rw[hN];rfl
 rw[Sx];refine Qm rfl hins cl n1 ↑o λdk hdk hak=>?_;refine Qm rfl zm cl n2 (by simp[qh]) λdf Tp Ϭ=>?_;have hkf:dk≠df:=by rintro rfl;rw[zg (AE hak),zm]at Tp;cases Tp
 have W':H df=f_:=by rw[zg (AE Ϭ),zg (AE hkf)]at Tp;exact Tp--the loop
 have P0:jg X.K B f1 f2 C a l dk df dx ts (.dct [] []) (.dct [] []) F0 (zO (zO (zO (zO H dk (.dK [])) a (.ins C dx (qh f1 (.ref dk) []))) df (.dK [])) a (.ins C dx (qh f2 (.ref df) (qh f1 (.ref dk) [])))):=by
  have nk:¬F0 dk:=λz=>dm0 dk z hdk;have nf:¬F0 df:=λz=>dm0 df z W';have kp:gx F0 F0 H (zO (zO (zO (zO H dk (.dK [])) a (.ins C dx (qh f1 (.ref dk) []))) df (.dK [])) a (.ins C dx (qh f2 (.ref df) (qh f1 (.ref dk) [])))):=by
   refine⟨λ_ h=>h,λc o f h=>?_,λc o h h1 h2=>?_⟩
   ·have n1:c≠a:=by rintro rfl;exact nF0a f
    have n2:c≠dk:=by rintro rfl;exact nk f
    have n3:c≠df:=by rintro rfl;exact nf f
    rw[zg n1,zg n3,zg n1,zg n2];exact h
   ·have n1:c≠a:=by rintro rfl;rw[hins]at h;cases h;exact h2.2 _ _ _ rfl
    rw[zg n1,zg (zM h W'),zg n1,zg (zM h hdk)];exact h
  refine⟨⟨λc f=>?_,fr0.sub,fr0.new,λc o h hm=>?_,fr0.f0⟩,nF0a,nk,nf,hkf,?_,by rw[bH];exact hdk,by rw[bH];exact W',⟨[],?_,rfl,IsAll.nil⟩,⟨[],?_,rfl,IsAll.nil⟩,⟨_,_,rfl⟩,⟨_,_,rfl⟩,il0.mono kp⟩;·cases hc0:H c with|none=>exact absurd hc0 (dm0 c f)|some o=>rw[kp.fz c o f hc0];intro z;cases z
  ·rw[bH]at h;have n1:c≠a:=by rintro rfl;exact hm hMa
   rw[zg n1,zg (zM h W'),zg n1,zg (zM h hdk)];exact h
  ·rw[zm];simp[qh,hf]
  ·rw[zg (AE hak),zg hkf,zg (AE hak),zm]
  ·rw[zg (AE Ϭ),zm]
 refine⟨strsL ts,hz,λmm hmm=>?_⟩;refine Qp sw sc sk sv cl n1 n2 hf (P0.ext (jB.alloc P0.fr.dom hmm)) (by unfold Is;exact⟨rfl,zm⟩) (TC mm) λF2 H2 σ P2=>?_;refine ok a (λc=>(F2 c\/c=dk)\/c=df) H2 rfl ⟨λc h=>?_,λc h=>.inl (.inl (P2.fr.sub c h)),λc h=>?_,P2.fr.keep,P2.fr.f0⟩ (λz=>?_) ⟨dx,_,P2.ins,rfl,IsAll.cons (P2.w1.is (λc h=>.inl (.inl h)) (.inl (.inr rfl))) (IsAll.cons (P2.w2.is (λc h=>.inl (.inl h)) (.inr rfl)) IsAll.nil)⟩
 ·rcases h with(h|rfl)|rfl;·exact P2.fr.dom c h
  ·exact P2.w1.there
  ·exact P2.w2.there
 ·rcases h with(h|rfl)|rfl;·exact P2.fr.new c h
  ·exact .inr (.inl P2.bk)
  ·exact .inr (.inl P2.bf)
 ·rcases z with(z|rfl)|rfl;·exact P2.nA z
  ·obtain⟨ks,us,e⟩:=P2.s1;have w:=P2.w1;rw[e]at w;obtain⟨kvs,hw,_⟩:=w;rw[P2.ins]at hw;cases hw
  ·obtain⟨ks,us,e⟩:=P2.s2;have w:=P2.w2;rw[e]at w;obtain⟨kvs,hw,_⟩:=w;rw[P2.ins]at hw;cases hw
theorem Vm(nd:X.N.Nodup)(hN:X.N=[("self":Str),("pieces":Str),("looked":Str),("at":Str),("piece":Str),("told":Str)])(hc:X.calm=e_)(hu:X.A.units+1<Fk)(hp:Rk ↑n X.A X.env X.xe)(cl:uB X.K C)(n1:zS X.K C f1)(n2:zS X.K C f2)(hf:f1≠f2)(hg:Gl X "enumerate")(hm:X.mg "enumerate"=f_)(v0:Yd X.env.scope "self")(v1:Yd X.env.scope "pieces")(v4:Yd X.env.scope "told")(lm:aV X.env.scope "looked")(l2:aV X.env.scope "at")(l3:aV X.env.scope "piece")(l4:aV X.env.scope "told")(fnm:X.fn "looked"=e_\/X.env.scope.names.lookup ("looked":Str)=b_ BM.local)(fn2:X.fn "at"=e_\/X.env.scope.names.lookup ("at":Str)=b_ BM.local)(fn3:X.fn "piece"=e_\/X.env.scope.names.lookup ("piece":Str)=b_ BM.local)(fn4:X.fn "told"=e_\/X.env.scope.names.lookup ("told":Str)=b_ BM.local)(hmo:∀p:Pos,PE X (.Dict [] [] p) (X0 memo))(hw:ZG X cw tw)(SZ:ZG X cc tc)(hk:jb X ek mk)(hv:jb X ev mv)(hs1:BA (.Dict [] [] p1) (b_ (.Attribute (.Name "self" p2) f1 p3)) p4.line X.env=pure a_:=by rfl)(T9:BA (.Dict [] [] q1) (b_ (.Attribute (.Name "self" q2) f2 q3)) q4.line X.env=pure a_:=by rfl)(ϫ:AZ (.Name "self" r1) f2 X.env (x_ (.Name "self" r1) X.env)=x_ (.Name "self" r1) X.env:=by rfl)(Tc:AZ (.Name "self" r3) f1 X.env (x_ (.Name "self" r3) X.env)=x_ (.Name "self" r3) X.env:=by rfl)(Ϛ:BA (.IfExp cw (.Attribute (.Name "self" r1) f2 r2) (.Attribute (.Name "self" r3) f1 r4) r5) (b_ (.Name "told" r6)) r7.line X.env=pure a_:=by rfl)(hs4:BA ev (b_ (.Subscript (.Name "told" p7) ek p8)) p9.line X.env=pure a_:=by rfl)(hsm:BA (.Dict [] [] s1) (b_ (.Name "looked" s2)) s3.line X.env=pure a_:=by rfl)(Sx:p_ [.Name "pieces" q5] X.env=[(a_,x_ (.Name "pieces" q5) X.env)]:=by rfl)(ha:(AM [.Name "at" q7,.Name "piece" q8] X.env).map (·.2)=J' (.Name "at" q7) X.env::(AM [.Name "piece" q8] X.env).map (·.2):=by rfl)(ha2:(AM [.Name "piece" q8] X.env).map (·.2)=J' (.Name "piece" q8) X.env::(AM [] X.env).map (·.2):=by rfl)(ha3:(AM [.Name "at" q7,.Name "piece" q8] X.env).length=2:=by rfl)(ha4:(AM [.Name "at" q7,.Name "piece" q8] X.env).findIdx? (·.1)=f_:=by rfl)(Β:∀x,u_ (.Call (.Name "enumerate" q6) [.Name "pieces" q5] [] q9) X.env x=pure x:=by intro _;rfl):∃t,oF X [.Assign [.Attribute (.Name "self" p2) f1 p3] (.Dict [] [] p1) p4,.Assign [.Attribute (.Name "self" q2) f2 q3] (.Dict [] [] q1) q4,.Assign [.Name "looked" s2] (.Dict [] [] s1) s3,.For (.Tuple [.Name "at" q7,.Name "piece" q8] kt p5) (.Call (.Name "enumerate" q6) [.Name "pieces" q5] [] q9) [.Assign [.Name "told" r6] (.IfExp cw (.Attribute (.Name "self" r1) f2 r2) (.Attribute (.Name "self" r3) f1 r4) r5) r7,.If cc rs [] r8,.Assign [.Subscript (.Name "told" p7) ek p8] ev p9] [] p6] t/\∀vs H Q E,W9 X.K (vg memo C f1 f2 tw tc mk mv) vs H Q E->t {nx:=λ_ H'=>Q .non H',rt:=Q} (start X.N vs) H:=by obtain⟨Μ,pw,sw⟩:=hw;obtain⟨TZ,pc,sc⟩:=SZ;obtain⟨S',pk,sk⟩:=hk;obtain⟨TV,pv',sv⟩:=hv;have Th:∀{p:Pos},PE X (.Name "self" p) (xJ 0):=λ{p}=>gv (by rw[hN];rfl) v0;have W_:∀{p:Pos},PE X (.Name "pieces" p) (xJ 1):=λ{p}=>gv (by rw[hN];rfl) v1;have ϙ:∀{p:Pos},PE X (.Name "told" p) (xJ 5):=λ{p}=>gv (by rw[hN];rfl) v4;refine⟨_,kf (Yz Th cp hs1) (kf (Yz Th cp T9) (kf (Yn (i:=2) nd (by rw[hN];rfl) lm (hmo _) hsm fnm) (pL (oI hp hc (dL hg hm W_ Sx) (K6 hc (dX (pM (i:=3) nd (by rw[hN];rfl) l2 fn2) (dX (pM (i:=4) nd (by rw[hN];rfl) l3 fn3) XE ha2) ha) ha3 ha4) (kf (Yn (i:=5) nd (by rw[hN];rfl) l4 (Zr pw (Yy Th ϫ) (Yy Th Tc)) Ϛ fn4) (kf (K5 pc WJ dG) (pL (pO hu ϙ pk pv' hs4)))) Β)))),?_⟩;intro vs H Q E h;obtain⟨F,args,dm,ir,nb,ok,hexc⟩:=h;obtain⟨b,ts,fin,rfl,hz,TC,hok⟩:=U3 nb;obtain⟨va,vl,rfl⟩:=xZ.two ir;exact Vl sw sc sk sv cl n1 n2 hf hN dm ir hz TC (ok _ hok)
end
section
variable{P:sN}{w:sY}{K:d_}{mg:Str->Option g_}{base:w_}
theorem gY.ok{C:h_}{x Se:Str}{st:A2}{N ps:List Str}{k:Nat}{g:MN}(F:∃f fd,fx K "__init__" Se st f fd/\Mk K C f)(hx:mg x=b_ ↑aa)(S:zd N ps (za st))(hl:∀rs,g rs≠.bad->rs.length=↑l)(hb:∀(kV Sq pm:g_)(an:Option h_)(Sg ct:g_)(us:List g_),↑h=↑l->Of (A9 "__init__" Se (jQ st) (j4 st) (za st) .none kV Sq pm an Sg ct) ⟨us,[]⟩=pure (ps.zip us))(Sn:∀(f:h_)(Sg:g_)(A:A3)(outer:List Env)(s:l_)(H:Hp)(E:XK),jT k (A.deeper (OB Se (za st) ↑a f Sg))->∃t,oF (lw (lI P w) P w K mg base N Se (za st) f Sg A outer s H E) (j4 st) t/\∀vs H Q E,W9 K g vs H Q E->t {nx:=λ_ H'=>Q .non H',rt:=Q} (start N vs) H):gY P w K mg base (k+1) C x ps g:=by
 obtain⟨f,fd,F,hm⟩:=F;refine⟨f,fd,?_,hm,hx,F.binds hb⟩;obtain⟨oc,od,kV,Sq,pm,an,Sg,ct,T1,rfl,lk,Sz⟩:=F.ex;refine cg lk Sz S (λvs H Q E h=>?_) λA outer s H vs Q E hr S_=>?_;·obtain⟨F,rs,d,ir,nb,_⟩:=h;rw[ir.len];exact hl rs nb
 ·obtain⟨t,p,h⟩:=Sn f Sg A outer s H E hr;exact⟨t,p,h vs H Q E S_⟩
end
def rG{memo:List Str->Mo}{C:h_}{f1 f2:Str}{tw tc:MT}{mk mv:ME}{ps:List Str}(h:↑l=2):∀rs,vg memo C f1 f2 tw tc mk mv rs≠.bad->rs.length=↑l:=by
 intro rs nb;unfold vg at nb;split at nb;·rw[h];rfl
 ·exact absurd rfl nb
def Nj(d k:T):Option RV:=match d with|.dct ks ts=>(lC k).map λk=>(a_,(xY ks ts k).getD .non)|_=>f_
def eN(md mk:ME):ME:=λenv=>(md env).bind λd=>match d.2 with|.dct _ _=>(mk env).bind λk=>Yh (Nj d.2 k.2)|_=>.bad
def X1(hu:X.A.units+1<Fk)(ho:jb X o md)(he:jb X e mk)(m:M1 X o "get" Sf e cpos:=by exact⟨rfl,rfl,rfl,rfl⟩):jb X (.Call (.Attribute o "get" Sf) [e] [] cpos) (eN md mk):=by
 obtain⟨td,pd,sd⟩:=ho;obtain⟨tk,pk,sk⟩:=he;refine⟨_,Ko hu pd pk m,?_⟩;intro F H σ env Q R nb ok ex;unfold eN at nb ok ex;refine sd.val R ↑m (λr1 e1 v1 F1 H1 x1 i1=>?_) λx z=>ex x ↑D;rw[e1,bind_ok]at nb ok ex;obtain⟨b,d⟩:=r1;dsimp only at nb ok ex i1;cases d<;>dsimp only at nb ok ex<;>try(exact absurd rfl nb)
 case dct ks ts=>have i1':=i1;unfold Is at i1';obtain⟨a,kvs,rfl,fa,hH,hks,ia⟩:=i1';refine⟨a,rfl,.inl ⟨kvs,hH⟩,?_⟩;refine sk.val (R.mono x1) ↑m (λr2 e2 v2 F2 H2 x2 i2=>?_) λx z=>(ex x ↑D).mono x1;rw[e2,bind_ok]at nb ok;unfold Nj at nb ok;dsimp only at nb ok;cases hk:lC r2.2 with|none=>rw[hk]at nb;exact absurd rfl nb|some Sj=>rw[hk]at ok;have i1'':=i1.mono x2.kept;unfold Is at i1'';obtain⟨a',SX,e',_,hH',hks',ia'⟩:=i1'';cases e';have hv:=Qk i2 hk;subst hv;have⟨g1,g2⟩:=lB Sj hks' ia';refine⟨_,.inl ⟨SX,Sj,hH',rfl,rfl⟩,ok _ rfl _ F2 H2 (x1.trans x2) (jj ?_)⟩;cases hd:xY ks ts Sj with|none=>rw[g2 hd];exact KJ|some t=>obtain⟨v,hv,iv⟩:=g1 t hd;rw[hv];exact iv
def qr(g:Str->Bool)(ks:List Str)(kvs:List (Key×V)):Prop:=ks.length<j_/\(kvs.map (·.1)).Nodup/\∀p∈kvs,∃x,x∈ks/\p=(Ap x,V.bl (g x))
def memoP(P:sN)(w:sY)(g:Str->Bool)(ks:List Str):Mo:=λa h=>∃kvs,qr g ks kvs/\jw P w (λ_=>f_) h a (.dK kvs)
def Qq[DecidableEq α]:∀{l m:List α},l.Nodup->(∀x∈l,x∈m)->l.length<=m.length|[],m,_,_=>A5 _|a::l,m,nd,h=>by have nd:=D'.mp nd;have ha:=h a m_;have hl:=Qq nd.2 λx hx=>(List.mem_erase_of_ne (by rintro rfl;exact nd.1 hx)).mpr (h x (k_ _ hx));rw[List.length_erase_of_mem ha]at hl;have:=List.length_pos_of_mem ha;rw[sA];omega
def qr.len(m:qr g ks kvs):kvs.length<j_:=by
 have:=Qq m.2.1 λy hy=>by obtain⟨p,hp,rfl⟩:=sH.mp hy;obtain⟨x,hx,rfl⟩:=m.2.2 p hp;exact sH.mpr ⟨x,hx,rfl⟩
 rw[j',j']at this;exact G' this m.1
def qr.val(m:qr g ks kvs)(h:jH kvs (.inr x)=b_ v):v=.bl (g x):=by unfold jH at h;obtain⟨p,hp,rfl⟩:=sJ.mp h;have h2:=List.find?_some hp;obtain⟨y,hy,rfl⟩:=m.2.2 p (AV hp);have h2:(Ap y:Key)=.inr x:=of_decide_eq_true h2;cases h2;rfl
def qr.put(m:qr g ks kvs)(hx:x∈ks)(h:jH kvs (.inr x)=f_):qr g ks (k7 kvs (.inr x) (.bl (g x))):=by
 rw[Kl _ h];refine⟨m.1,?_,λp hp=>?_⟩
 ·rw[sL];refine Af.mpr ⟨m.2.1,by simp,λy hy z hz=>?_⟩;have:z=.inr x:=by simpa using hz
  rw[this];intro e;exact Kq h (e▸hy)
 ·rcases sS.mp hp with hp|hp;·exact m.2.2 p hp
  ·exact⟨x,hx,by simpa using hp⟩
def J8(m:qr g ks kvs)(o:jw P w (λ_=>f_) h a (.dK kvs))(H':Hp):jw P w H' h a (.ext (memoP P w g ks a)):=by
 refine⟨⟨kvs,m,o⟩,?_,λh1 h2⟨kvs,m,o⟩k=>⟨kvs,m,o.stay (λb u hb q=>?_) (λ_ z=>by cases z) λ_ _ z=>by cases z⟩⟩;·obtain⟨_,_,_,_,ob,_,_,e,_⟩:=o;exact⟨ob,e⟩
 ·rcases hb with rfl|hb;·exact k u q
  ·cases hb
def lK(ok:uA P w H h)(e:H a=b_ o)(h1:∀b,o≠.own b)(h2:∀xs,o≠.tup xs)(new:∀H',jw P w H' h a u):uA P w (zO H a u) h:=λb q hq=>by
 by_cases hb:b=a;·subst hb;rw[zm]at hq;cases hq;exact new _
 ·rw[zg hb]at hq;refine(ok b q hq).stay (λ_ _ _ z=>z) (λc z=>?_) λc xs z=>?_;·rw[zg (by rintro rfl;rw[e]at z;cases z;exact h1 _ rfl)];exact z
  ·rw[zg (by rintro rfl;rw[e]at z;cases z;exact h2 _ rfl)];exact z
def kg.memo{K:d_}{mg:Str->Option g_}{base:w_}{k:Nat}{f:h_}{fd:Fy}{ps:List Str}{spO sp:Sp}(F:kg P w K mg base (lI P w) k f fd ps spO)(len:∀vs H Q E,sp vs H Q E->↑g=↑l)(hs:∀vs H Q E,sp vs H Q E->∃a ks,H a=b_ (.ext (memoP P w g ks a))/\∀kvs,qr g ks kvs->spO vs (zO H a (.dK kvs)) (λv H'=>∃SX,qr g ks SX/\H' a=b_ (.dK SX)/\Q v (zO H' a (.ext (memoP P w g ks a)))) (λ_ _ _=>False)):kg P w K mg base (lI P w) k f fd ps sp:=by
 refine⟨len,λA outer s H args us vs Q E hr e0 hb hv h=>?_⟩;obtain⟨a,ks,ha,hk⟩:=hs vs H Q E h;obtain⟨⟨kvs,m,ok⟩,_,_⟩:=(show jw P w H s.heap a (.ext (memoP P w g ks a))from e0.hok a _ ha);have nn:∀b,H b=f_->b≠a:=λb n z=>by rw[z,ha]at n;cases n
 have up:∀b,H b=f_->zO H a (.dK kvs) b=f_:=λb n=>by rw[zg (nn b n)];exact n
 have e1:Zw P w K mg base A outer s (zO H a (.dK kvs)):=⟨e0.frames,e0.mod,λb o q=>⟨(e0.bs b o q).1,up b (e0.bs b o q).2⟩,e0.bsz,e0.funs,λb q=>up b (e0.frf b q),(by rw[zg (lr e0.tab ha (by intro z;cases z))];exact e0.tab),lK e0.hok ha (λ_ z=>by cases z) (λ_ z=>by cases z) (λ_=>ok),e0.bare⟩;refine Fd (F.run A outer s _ args us vs _ _ hr e1 hb hv (hk kvs m)) λr s' hq=>?_;cases r with|error e=>obtain⟨_,_,_,_,_,_,_,z⟩:=hq;exact z.elim|ok fl=>cases fl with|next=>exact AO hq|brk=>exact AO hq|cont=>exact AO hq|ret u=>
   obtain⟨v,H',os,br,un,hok,rv,SX,m',h',q⟩:=hq;refine⟨v,_,os,br,⟨λb o q n hc hx=>un.keep b o q (up b n) hc hx,λb o q n hc hx=>un.slot b o q (up b n) hc hx,λb o q n hx=>?_,un.there,λb xs q=>?_,λb o u q=>?_,λb xs q=>?_⟩,lK hok h' (λ_ z=>by cases z) (λ_ z=>by cases z) (J8 m' (hok a _ h')),rv,q⟩;·rw[zg (nn b n)];exact un.free b o q (up b n) hx
   ·have hb:=lr q ha (by intro z;cases z);rw[zg hb];exact un.tups b xs (by rw[zg hb];exact q)
   ·have hb:=lr q ha (by intro z;cases z);rw[zg hb];exact un.frzs b o u (by rw[zg hb];exact q)
   ·have hb:=lr q ha (by intro z;cases z);rw[zg hb];exact un.tbls b xs (by rw[zg hb];exact q)
def Qr(hm:memo=memoP X.prog X.w g)(pos:Pos):PE X (.Dict [] [] pos) (X0 memo):=λpins s σ H Q I h=>by subst hm;obtain⟨ks,hl,h⟩:=h;exact wpAny_Dict_empty ⟨.ref ↑a,_,I.laid (λ_ _ q=>f' _ q) (r_ _) (J8 (kvs:=[]) ⟨hl,Rw,λp hp=>nomatch hp⟩ (ZB s.heap I.big) _),rfl,h _ (I.hok.fresh (r_ _))⟩
open Classical in def tR(memo:List Str->Mo)(f:MF):MF:=λrs=>match rs with|[(_,.mem m o),(_,.str x)]=>if∃ks,o=memo ks m/\x∈ks then(match f [(a_,.str x)]with|.ok (a_,.bl b)=>.ok (a_,.bl b)|_=>.bad)else .bad|_=>.bad
def gOf(f:MF)(x:Str):Bool:=match f [(a_,.str x)]with|.ok (_,.bl b)=>b|_=>a_
def J9(nb:tR memo f rs≠.bad):∃b1 b2 m ks x b,rs=[(b1,.mem m (memo ks m)),(b2,.str x)]/\x∈ks/\f [(a_,.str x)]=.ok (a_,.bl b)/\tR memo f rs=.ok (a_,.bl b):=by
 unfold tR at nb⊢;split at nb
 ·split at nb
  ·rename_i hc;obtain⟨ks,rfl,hx⟩:=hc;split at nb;·rename_i b hb;exact⟨_,_,_,ks,_,b,rfl,hx,hb,by rw[if_pos ⟨ks,rfl,hx⟩]⟩
   ·exact absurd rfl nb
  ·exact absurd rfl nb
 ·exact absurd rfl nb
def DG(g:Str->Bool)(f:MF):Sp:=λvs H Q _=>∃a x kvs ks,vs=[.ref a,.str x]/\H a=b_ (.dK kvs)/\qr g ks kvs/\x∈ks/\f [(a_,.str x)]=.ok (a_,.bl (g x))/\∀H' SX,qr g ks SX->H' a=b_ (.dK SX)->(∀c o,c≠a->H c=b_ o->H' c=b_ o)->Q (.bl (g x)) H'
def Vn(C:jc X.prog X.w X.K X.mg X.base k "is_kind" ["text"] f)(hr:jT k X.A)(hu:X.A.units+1<Fk)(hN:X.N=[("looked":Str),("text":Str)])(hg:Gl X "is_kind")(v0:Yd X.env.scope "looked")(v1:Yd X.env.scope "text")(hbm:AY .NotIn (.Name "looked" p2)=a_:=by first|rfl|with_unfolding_all rfl)(Y':BA (.Call (.Name "is_kind" p7) [.Name "text" p8] [] p9) (b_ (.Subscript (.Name "looked" p4) (.Name "text" p5) p6)) p10.line X.env=pure a_:=by rfl)(he:p_ [.Name "text" p8] X.env=(a_,x_ (.Name "text" p8) X.env)::p_ [] X.env:=by rfl)(hpl:(AT p9 (p_ [] X.env)).any (·.1)=a_:=by rfl)(ς:Kn (.Name "text" p13):=by first|rfl|exact(λ_ _=>rfl)):∃t,oF X [.If (.Compare (.Name "text" p1) [.NotIn] [.Name "looked" p2] p3) [.Assign [.Subscript (.Name "looked" p4) (.Name "text" p5) p6] (.Call (.Name "is_kind" p7) [.Name "text" p8] [] p9) p10] [] p11,.Return (b_ (.Subscript (.Name "looked" p12) (.Name "text" p13) p14)) p15] t/\∀vs H Q E,DG g f vs H Q E->t {nx:=λ_ H'=>Q .non H',rt:=Q} (start X.N vs) H:=by obtain⟨fa,fd,F,hm,hk,hb⟩:=C;have pl:∀{p:Pos},PE X (.Name "looked" p) (xJ 0):=λ{p}=>gv (by rw[hN];rfl) v0;have pt:∀{p:Pos},PE X (.Name "text" p) (xJ 1):=λ{p}=>gv (by rw[hN];rfl) v1;refine⟨_,kf (K5 (NR (WU hu pt pl) hbm) (pL (pO hu pl pt (ZU F hr hg hm hk hb (jY pt kC he)) Y')) dG) (pL (oG (Ph hu pl pt ς))),?_⟩;rintro vs H Q E⟨a,x,kvs,ks,rfl,ha,m,hx,hf,q⟩;rw[show start X.N [.ref a,.str x]=[b_ (.ref a),b_ (.str x)]from by rw[hN];rfl];refine⟨.str x,rfl,.ref a,rfl,a,jH kvs (.inr x),rfl,nR.k (k:=.inr x) ha,?_⟩;cases hv:jH kvs (.inr x)with|some v=>refine⟨_,rfl,?_⟩;refine⟨.ref a,rfl,.str x,rfl,a,v,rfl,hv▸nR.k (k:=.inr x) ha,?_⟩;rw[m.val hv];exact q H kvs m ha λc o _ h=>h|none=>
  refine⟨_,rfl,?_⟩;refine⟨.str x,rfl,λ_ _ _=>False,⟨λ_=>False,[(a_,.str x)],λ_ h=>h.elim,⟨jj gy,trivial,λz=>by cases z⟩,(by rw[hf];intro z;cases z),λr er v F' H1 rr=>?_,λx ex=>by rw[hf]at ex;cases ex⟩,λ_ _ _ z=>z.elim⟩;rw[hf]at er;cases er;have hvv:=rr.val.is;unfold Is at hvv;subst hvv;have kp:∀c o,H c=b_ o->H1 c=b_ o:=λc o h=>rr.fr.keep c o h λ⟨i,r,e,ho,_⟩=>by cases i with|zero=>simp at e;subst e;cases ho|succ i=>simp at e
  refine⟨.ref a,rfl,.str x,rfl,a,_,rfl,YG.k (k:=.inr x) (kp _ _ ha) m.len,?_⟩;have hd:=nR.k (k:=.inr x) (zm (H:=H1) (a:=a) (o:=.dK (k7 kvs (.inr x) (.bl (g x)))));rw[Kk,if_pos rfl]at hd;exact⟨.ref a,rfl,.str x,rfl,a,_,rfl,hd,q _ _ (m.put hx hv) zm λc o hc h=>by rw[zg hc];exact kp c o h⟩
section
variable{P:sN}{w:sY}{K:d_}{mg:Str->Option g_}{base:w_}
theorem U4{memo:List Str->Mo}{f:MF}{x:Str}{st:A2}{N ps:List Str}{k:Nat}(hm:memo=memoP P w (gOf f))(hps:↑l=2)(F:zH K mg x st)(S:zd N ps (za st))(hb:∀(kV Sq pm:g_)(an:Option h_)(Sg ct:g_)(us:List g_),↑h=↑l->Of (A9 x x (jQ st) (j4 st) (za st) .none kV Sq pm an Sg ct) ⟨us,[]⟩=pure (ps.zip us))(Sn:∀(fa:h_)(Sg:g_)(A:A3)(outer:List Env)(s:l_)(H:Hp)(E:XK),jT k (A.deeper (OB x (za st) ↑a fa Sg))->∃t,oF (lw (lI P w) P w K mg base N x (za st) fa Sg A outer s H E) (j4 st) t/\∀vs H Q E,DG (gOf f) f vs H Q E->t {nx:=λ_ H'=>Q .non H',rt:=Q} (start N vs) H):jc P w K mg base (k+1) x ps (tR memo f):=by
 subst hm;obtain⟨fa,fd,F,e⟩:=F;refine⟨fa,fd,?_,e,F.kp,F.binds hb⟩;obtain⟨oc,od,kV,Sq,pm,an,Sg,ct,T1,rfl,lk,Sz⟩:=F.ex;refine kg.memo (g:=gOf f) (spO:=DG (gOf f) f) (cg lk Sz S (λvs H Q E h=>?_) λA outer s H vs Q E hr S_=>?_) (λvs H Q E h=>?_) λvs H Q E h=>?_;·obtain⟨a,x,kvs,ks,rfl,_⟩:=h;exact hps.symm
 ·obtain⟨t,p,h⟩:=Sn fa Sg A outer s H E hr;exact⟨t,p,h vs H Q E S_⟩
 ·obtain⟨Fz,rs,d,ir,nb,_⟩:=h;obtain⟨_,_,_,_,_,_,rfl,_⟩:=J9 nb;rw[ir.len,hps];rfl
 ·obtain⟨Fz,rs,d,ir,nb,ok,_⟩:=h;obtain⟨b1,b2,a,ks,x,b,rfl,hx,hf,hok⟩:=J9 nb;obtain⟨v1,v2,rfl⟩:=xZ.two ir;have f0:=λc(fc:Fz c)z=>(k8 ir z).1 fc;obtain⟨i1,⟨i2,_,_⟩,_⟩:=ir;have i1:Is K Fz H (.mem a (memoP P w (gOf f) ks a)) v1:=by cases b1 with|false=>exact i1.is|true=>obtain⟨_,_,_,_,_,z⟩:=i1.there rfl;exact z.elim
  have i2:Is K Fz H (.str x) v2:=by cases b2 with|false=>exact i2.is|true=>obtain⟨_,_,_,_,_,z⟩:=i2.there rfl;exact z.elim
  unfold Is at i1 i2;obtain⟨rfl,ha⟩:=i1;subst i2;have hgb:gOf f x=b:=by unfold gOf;rw[hf]
  subst hgb;refine⟨a,ks,ha,λkvs m=>⟨a,x,kvs,ks,rfl,zm,m,hx,hf,λH' SX m' h' kp=>⟨SX,m',h',ok _ hok _ Fz _ ⟨⟨λc fc=>?_,λ_ h=>h,λ_ h=>.inl h,λc o hc _=>?_,f0⟩,jj xX⟩⟩⟩⟩
  ·by_cases e:c=a;·subst e;rw[zm];intro z;cases z
   ·cases hc:H c with|none=>exact absurd hc (d c fc)|some o=>rw[zg e,kp c o e (by rw[zg e];exact hc)];intro z;cases z
  ·by_cases e:c=a;·subst e;rw[zm,<-ha];exact hc
   ·rw[zg e];exact kp c o e (by rw[zg e];exact hc)
end
def U5(a b:String):Bool:=a==b||(a=="bool"&&b=="int")
def Lc:List String:=["bool","int","str","tuple","list","dict"]
def U6{K:d_}{t:T}{a b:String}(ha:ZV t=b_ a)(hb:b∈Lc):BV K (.type a) (.type b)=b_ (U5 a b):=by cases t<;>simp only[ZV,AK,reduceCtorEq]at ha<;>subst ha<;>simp only[Lc,sB,A7,or_false]at hb<;>rcases hb with rfl|rfl|rfl|rfl|rfl|rfl<;>first|rfl|decide|(unfold BV W.kitCls;rfl)|(unfold BV W.kitCls;simp;decide+kernel)
def uw:List T->Option RV
 |[t,.ty n]=>match ZV t with|some m=>if n∈Lc then b_ (a_,.bl (U5 m n))else f_|none=>f_
 |_=>f_
def kW:gw X (.builtin "isinstance") (Pw X.K uw):=by intro pins s σ H xs us Q I r h;obtain⟨F,ts,rv,d,ia,e,q⟩:=h;match ts,e with|[t,.ty n],e=>obtain⟨v,w,rfl,g1,g2⟩:=MZ ia;unfold Is at g2;subst g2;simp only[uw]at e;cases hm:ZV t with|none=>rw[hm]at e;cases e|some m=>
  rw[hm]at e;dsimp only at e;split at e<;>cases e;rename_i hn;have qt:Q (.bl (U5 m n)) H:=xK d xX q rfl;obtain⟨u,u2,rfl,ru,ru2⟩:=N4 r;cases ru2;have kt:=U6 (K:=X.K) hm hn;have fin:iH X.K H v (.type m)->o_ ↑n X.A (call (.builtin "isinstance") [u,.type n]) (EP X pins σ Q) X.xe s:=λht=>WP I ru ht kt λtk=>⟨.bl (U5 m n),H,I.tok _,rfl,qt⟩;cases t<;>unfold Is at g1<;>simp only[ZV,AK,reduceCtorEq]at hm<;>subst hm;case non=>subst g1;exact fin .non
  case bl=>subst g1;exact fin (.bl _)
  case int=>subst g1;exact fin (.int _)
  case str=>subst g1;exact fin (.str _)
  case lst ts=>obtain⟨a,vs,rfl,g,g2⟩:=g1;cases ru;obtain⟨its,rr,pl,hz⟩:=I.list g.sq;obtain⟨o,ho,hc,n',hd⟩:=pl.isList;exact Ar RG I.kIn ⟨o,ho,hc⟩ kt (λz=>nomatch z) λtk=>⟨.bl _,H,I.tok _,rfl,qt⟩
  case tup ts=>obtain⟨a,vs,rfl,g,g2⟩:=g1;cases ru;obtain⟨its,rr,pl,hz⟩:=I.tuple g;obtain⟨o,ho,hc,_⟩:=pl;exact Ar W.kitx_tuple I.kIn ⟨o,ho,hc⟩ kt (λz=>nomatch z) λtk=>⟨.bl _,H,I.tok _,rfl,qt⟩
def DH(K:d_):Sp:=λvs H Q _=>∃a,∃ns:List Int,vs=[.ref a]/\lu K H a (ns.map V.int)/\ns.length<=63/\∀H',Q (.bl e_) H'
def Wa{K:d_}{F:h_->Prop}{H:Hp}:∀(ns:List Int),IsAll K F H (ns.map T.int) (ns.map V.int)|[]=>IsAll.nil|_::ns=>IsAll.cons xL (Wa ns)
section
variable{P:sN}{w:sY}{K:d_}{mg:Str->Option g_}{base:w_}
theorem fx.ok3{x:Str}{st:A2}{f:h_}{fd:Fy}{N ps:List Str}{k:Nat}{mb:MS}(F:fx K x x st f fd)(S:zd N ps (za st))(Sn:∀(Sg:g_)(A:A3)(outer:List Env)(s:l_)(H:Hp)(E:XK),jT k (A.deeper (OB x (za st) ↑a f Sg))->uL (lw (lI P w) P w K mg base N x (za st) f Sg A outer s H E) (j4 st) mb):kg P w K mg base (lI P w) (k+1) f fd ps (m6 K (zG N.length ↑l mb)):=by obtain⟨oc,od,kV,Sq,pm,an,Sg,ct,T1,rfl,lk,Sz⟩:=F.ex;exact cg lk Sz S (λvs H Q E h=>MY h) λA outer s H vs Q E hr S_=>Q6 S_ (Sn Sg A outer s H E hr)
theorem Ld(F:kg P w K mg base (lI P w) k f fd [x] (m6 K m))(h:∀ns:List Int,ns.length<=63->m [(a_,.lst (ns.map T.int))]=.ok ↑A):kg P w K mg base (lI P w) k f fd [x] (DH K):=by
 refine F.imp λvs H Q E⟨a,ns,hv,hS,hl,q⟩=>?_;subst hv;have hm:=h ns hl;have fin:∀F:h_->Prop,aq F H->YN K F H a (ns.map V.int)->m6 K m [.ref a] H Q E:=by
  intro F d fz;refine⟨F,[(a_,.lst (ns.map T.int))],d,⟨jj ?_,trivial,λz=>by cases z⟩,(by rw[hm];intro z;cases z),λr er v F' H' rr=>?_,λx ex=>(by rw[hm]at ex;cases ex)⟩;·unfold Is;exact⟨a,_,rfl,fz,Wa ns⟩
  ·rw[hm]at er;cases er;have:=rr.val.is;unfold Is at this;rw[this];exact q H'
 rcases hS with(hS|hS)|hS;·exact fin (λb=>b=a) (λb hb=>by rw[hb,hS];intro z;cases z) (.inl ⟨rfl,hS⟩)
 ·exact fin (λ_=>False) (λb hb=>hb.elim) (.inr (.inl hS))
 ·exact fin (λ_=>False) (λb hb=>hb.elim) (.inr (.inr hS))
end
def HI{l:W.OpenLaw}{q:sN}{SJ:List Str}{XP:(Str->Option g_)->w_->Prop}{YP:sY->w_->Prop}{d:DefRec}{K:Params->d_}{x:Str}{k:Nat}{st:A2}(hn:l.most=b_ 63)(Tp:d.params.defaults=[])(π:d.name="law")(hr:jT k callerA)(hY:∀(w:sY)(h:w_),YP w h->(K w.params).In h)(ϖ:∀(w:sY)(h:w_),YP w h->h.get? tabP=b_ {cls:=.none,data:=.fields #[]}){c₀:h_}(ϗ:∀(w:sY)(h:w_),YP w h->Rr h c₀ tabP)(Ϡ:∀w:sY,Rs (K w.params)=e_)(hb:∀(kV Sq pm:g_)(an:Option h_)(Sg ct:g_)(u:g_),Of (A9 "law" "law" (jQ st) (j4 st) (za st) .none kV Sq pm an Sg ct) ⟨[u],[]⟩=pure [(x,u)])(F:∀(w:sY)(mg:Str->Option g_)(h:w_),(K w.params).In h->h.Ns v_ mg->zH (K w.params) mg "law" st/\∀(f:h_)(fd:Fy),fx (K w.params) "law" "law" st f fd->∀base:w_,kg l.prog w (K w.params) mg base (lI l.prog w) k f fd [x] (DH (K w.params))):W.WalkO q SJ XP YP l.row.toRowW d [] (λf vs=>PySem.call f vs):=by
 refine L2.walk_of (x:=x) (CX:=λw=>lI l.prog w) (sp:=λw=>DH (K w.params)) hn ↑o Tp hr hY ϖ ϗ Ϡ ?_ (λw H a ns hl _ hS=>⟨a,ns,rfl,hS,hl,λ_=>rfl⟩) λw H s e s' z=>by obtain⟨_,_,_,_,_,_,_,z⟩:=z;exact z
 intro w mg fa h KX G Λ;obtain⟨⟨f,fd,Fl,e⟩,T⟩:=F w mg h KX G;rw[π,e]at Λ;cases Λ;refine⟨fd,λs u=>?_,λbase _ _=>T _ fd Fl base⟩;obtain⟨oc,od,kV,Sq,pm,an,Sg,ct,T1,rfl,lk,Sz⟩:=Fl.ex;exact .of_eq (hb kV Sq pm an Sg ct u)
def Qs{K:d_}{C C0:h_}{b:Bool}(d:C≠C0)(h1:W.isClsIn K C0=e_)(h2:W.typeIn K (.ref C0)=b_ (.type "type"))(h3:W.subIn K ↑aa (.ref C0)=b_ b):BV K ↑aa (.ref C0)=b_ b:=by
 unfold BV W.kitCls;have h1:(W.clsIn K C0).isSome=e_:=h1;have ne:¬((sE C==sE C0)=e_):=λz=>by have:=eq_of_beq z;injection this with e;exact d e
 rw[if_neg ne];dsimp only;rw[h1,h2,if_pos (by rw[beq_self_eq_true];rfl)];exact h3
def Le(C:h_):List (h_×Bool)->Option Bool|[]=>f_|p::r=>if p.1=C then b_ p.2 else Le C r
def Wb:∀{l:List (h_×Bool)},Le C l=b_ b->(C,b)∈l
 |[],h=>by cases h|p::r,h=>by
  rw[Le]at h;split at h;·rename_i e;cases h;rw[<-e];exact m_
  ·exact k_ _ (Wb h)
def Ja:∀{fs:List (Str×V)},f∉fs.map (·.1)->qh f v fs=fs++[(f,v)]|[],_=>rfl|(k,x)::r,h=>by have hk:¬k=f:=λe=>h (by rw[e];simp);have hr:f∉r.map (·.1):=λz=>h (by simp only[sG];exact k_ _ z);rw[show qh f v ((k,x)::r)=(if k=f then(k,v)::r else(k,x)::qh f v r)from rfl,if_neg hk,Ja hr];rfl
def vh(X:Cx)(sts:List A2)(SD:List (Str×Nat)):Prop:=∃t,oF X sts t/\∀(D:nQ)(σ:St)(H:Hp)(a C dx:h_)(SY:List (Str×V))(vs:List V),σ[0]?=b_ (b_ (.ref a))->H a=b_ (.ins C dx SY)->uB X.K C->(∀p∈SD,zS X.K C p.1)->SY.length+SD.length<900->SD.length=↑g->(∀(j:Nat)(p:Str×Nat)(v:V),SD[j]?=b_ p->vs[j]?=b_ v->σ[p.2]?=b_ (b_ v))->(SY.map (·.1)++SD.map (·.1)).Nodup->(∀H':Hp,H' a=b_ (.ins C dx (SY++(SD.map (·.1)).zip vs))->(∀b,b≠a->H' b=H b)->D.nx σ H')->t D σ H
section
variable{X:Cx}{SD:List (Str×Nat)}{rest:List A2}{f:Str}{i:Nat}{o value:A1}{p' pos:Pos}
theorem vh.nil:vh X [] []:=⟨_,dG,λD σ H a C dx SY vs s0 ha cl hn hl hlen hv nd fin=>by
 have:vs=[]:=by cases vs with|nil=>rfl|cons _ _=>simp at hlen
 subst this;exact fin H (by simpa using ha) λb _=>rfl⟩
theorem vh.fld(h0:PE X o (xJ 0))(hi:PE X value (xJ i))(r:vh X rest SD)(hs:BA value (b_ (.Attribute o f p')) pos.line X.env=pure a_:=by rfl):vh X (.Assign [.Attribute o f p'] value pos::rest) ((f,i)::SD):=by obtain⟨t,p,h⟩:=r;refine⟨_,kf (Yz h0 hi hs) p,λD σ H a C dx SY vs s0 ha cl hn hl hlen hv nd fin=>?_⟩;cases vs with|nil=>simp at hlen|cons v vs=>
  have hf:f∉SY.map (·.1):=λz=>by have:=(Af.mp nd).2.2 f z f ↑G;exact this rfl
  refine⟨v,hv 0 (f,i) v rfl rfl,.ref a,s0,a,C,dx,SY,rfl,ha,cl,hn (f,i) m_,(by simp at hl;omega),?_⟩;rw[Ja hf];refine h D σ _ a C dx (SY++[(f,v)]) vs s0 zm cl (λq hq=>hn q (k_ _ hq)) (by simp at hl⊢;omega) (by simpa using hlen) (λj q w h1 h2=>hv (j+1) q w (by simpa using h1) (by simpa using h2)) (by simpa using nd) λH' h1 h2=>fin H' (by simpa using h1) λb hb=>by rw[h2 b hb,zg hb]
end
structure Jb(K:d_)(C:h_)(m:Str)(f:h_):Prop where
 sg:RD K ↑aa "__getattribute__"=b_ (b_ (.builtin "type.__getattribute__"))rd:W.readsIn K C (.type "type")=e_
 fc:W.findCls K ↑aa (.type "type") m=b_ (.val (.ref f))kp:AC K (.ref f)=e_
def Lf(K:d_)(f:Str):Sp:=λvs H Q _=>∃a C dx SY v,vs=[.ref a,v]/\H a=b_ (.ins C dx SY)/\uB K C/\zS K C f/\SY.length<899/\f∉SY.map (·.1)/\(SY.map (·.1)).Nodup/\∀H':Hp,H' a=b_ (.ins C dx (SY++[(f,v)]))->(∀b,b≠a->H' b=H b)->Q .non H'
def Qt{pl:Sem Bool}(c:Jb X.K C m fa)(F:kg X.prog X.w X.K X.mg X.base (lI X.prog X.w) k fa fd ps sp)(hr:jT k X.A)(hg:Gl X x)(hm:X.mg x=b_ ↑aa)(hb:gc X.K fd ps [])(ha:PA X (e::es) t)(SG:(x==↑x)=a_:=by decide)(Sx:p_ (e::es) X.env=↑ae::p_ es X.env:=by rfl)(hpl:(AT pos (p_ es X.env)).any (·.1)=a_:=by rfl)(ht:x_ (.Call (.Attribute (.Name x p) m Sf) (e::es) [] pos) X.env=(do
   let ov<-x_ (.Name x p) X.env
   Re Sf.atName let(f,first)<-O2 [ov] (Rl ov m pl)callWith pos f first (AT pos (p_ (e::es) X.env)) (OU pos (FU [] X.env))):=by rfl):PE X (.Call (.Attribute (.Name x p) m Sf) (e::es) [] pos) (rn X sp t):=by intro pins s σ H Q I h;refine W.methodCall_KW (pl:=pl) (jk (gR (v:=.ref C) hg hm rfl SG pins s σ H (λv H1=>v=.ref C/\H1=H) I ⟨rfl,rfl⟩) λu s1⟨v,H1,I1,rx,ev,eH⟩=>?_) ht;subst ev;subst eH;obtain rfl:u=sE C:=rx;refine W.method_cls I1.kIn c.sg (W.cls_value I1.kIn c.rd c.fc rfl ?_);refine G_ (first:=[]) (h₀:=X.base) I.ok.mod.kin c.kp (jk (ha pos pins _ σ H1 _ (I1.tok _) h) λus s2⟨vs,H2,I2,r,E,q,hx⟩=>⟨I2.kIn,?_⟩) Sx hpl;exact dI F hr hb I2 r q λe oa H' z s' I'=>hx e oa H' z pins s' I'
def Jc(P:sN)(w:sY)(K:d_)(mg:Str->Option g_)(base:w_)(k:Nat)(C:h_)(m:Str)(ps:List Str)(f:Str):Prop:=∃fa fd,kg P w K mg base (lI P w) k fa fd ps (Lf K f)/\Jb K C m fa/\gc K fd ps []
def vh.base{pl:Sem Bool}{f:Str}{i:Nat}{SD:List (Str×Nat)}{rest:List A2}{a1 a2:A1}(B:Jc X.prog X.w X.K X.mg X.base k C m ps f)(hr:jT k X.A)(hg:Gl X x)(hm:X.mg x=b_ ↑aa)(h0:PE X a1 (xJ 0))(hi:PE X a2 (xJ i))(r:vh X rest SD)(SG:(x==↑x)=a_:=by decide)(Sx:p_ [a1,a2] X.env=(a_,x_ a1 X.env)::p_ [a2] X.env:=by rfl)(hst2:p_ [a2] X.env=(a_,x_ a2 X.env)::p_ [] X.env:=by rfl)(hpl:(AT pos (p_ [a2] X.env)).any (·.1)=a_:=by rfl)(ht:x_ (.Call (.Attribute (.Name x p) m Sf) [a1,a2] [] pos) X.env=(do
   let ov<-x_ (.Name x p) X.env
   Re Sf.atName let(f,first)<-O2 [ov] (Rl ov m pl)callWith pos f first (AT pos (p_ [a1,a2] X.env)) (OU pos (FU [] X.env))):=by rfl):vh X (.Expr (.Call (.Attribute (.Name x p) m Sf) [a1,a2] [] pos) epos::rest) ((f,i)::SD):=by obtain⟨fa,fd,F,c,hb⟩:=B;obtain⟨t,pr,h⟩:=r;refine⟨_,kf (ky (Qt (pl:=pl) c F hr hg hm hb (jY h0 (jY hi kC hst2) Sx) SG Sx hpl ht)) pr,λD σ H a C dx SY vs s0 ha cl hn hl hlen hv nd fin=>?_⟩;cases vs with|nil=>simp at hlen|cons v vs=>
  have hf:f∉SY.map (·.1):=λz=>by have:=(Af.mp nd).2.2 f z f ↑G;exact this rfl
  refine⟨.ref a,s0,v,hv 0 (f,i) v rfl rfl,λ_ _ _=>False,⟨a,C,dx,SY,v,rfl,ha,cl,hn (f,i) m_,(by simp at hl;omega),hf,(Af.mp nd).1,λH1 h1 h2=>?_⟩,λ_ _ _ z=>z.elim⟩;refine h D σ H1 a C dx (SY++[(f,v)]) vs s0 h1 cl (λq hq=>hn q (k_ _ hq)) (by simp at hl⊢;omega) (by simpa using hlen) (λj q w h1 h2=>hv (j+1) q w (by simpa using h1) (by simpa using h2)) (by simpa using nd) λH' h3 h4=>fin H' (by simpa using h3) λb hb=>by rw[h4 b hb,h2 b hb]
section
variable{P:sN}{w:sY}{K:d_}{mg:Str->Option g_}{base:w_}
theorem Jc.ok{C:h_}{x Se f:Str}{st:A2}{N:List Str}{s1 s2:Str}{k:Nat}(F:∃fa fd,fx K x Se st fa fd/\Jb K C x fa)(S:zd N [s1,s2] (za st))(hb:∀(kV Sq pm:g_)(an:Option h_)(Sg ct:g_)(us:List g_),↑h=[s1,s2].length->Of (A9 x Se (jQ st) (j4 st) (za st) .none kV Sq pm an Sg ct) ⟨us,[]⟩=pure ([s1,s2].zip us))(Sn:∀(fa:h_)(Sg:g_)(A:A3)(outer:List Env)(s:l_)(H:Hp)(E:XK),jT k (A.deeper (OB Se (za st) ↑a fa Sg))->vh (lw (lI P w) P w K mg base N Se (za st) fa Sg A outer s H E) (j4 st) [(f,1)]):Jc P w K mg base (k+1) C x [s1,s2] f:=by
 obtain⟨fa,fd,F,c⟩:=F;refine⟨fa,fd,?_,c,F.binds hb⟩;obtain⟨oc,od,kV,Sq,pm,an,Sg,ct,T1,rfl,lk,Sz⟩:=F.ex;refine cg lk Sz S (λvs H Q E h=>?_) λA outer s H vs Q E hr S_=>?_;·obtain⟨_,_,_,_,_,rfl,_⟩:=h;rfl
 ·obtain⟨t,p,h⟩:=Sn fa Sg A outer s H E hr;refine⟨t,p,?_⟩;obtain⟨a,C,dx,SY,v,rfl,ha,cl,hn,hl,hf,hnd,q⟩:=S_;refine h _ (start N [.ref a,v]) H a C dx SY [v] rfl ha cl (λp hp=>?_) (by simp;omega) rfl (λj p w h1 h2=>?_) ?_ λH' h1 h2=>q H' h1 h2
  ·have:p=(f,1):=by simpa using hp
   rw[this];exact hn
  ·cases j with|zero=>cases h1;cases h2;rfl|succ j=>simp at h1
  ·refine Af.mpr ⟨hnd,by simp,λy hy z hz e=>hf ?_⟩;have:z=f:=by simpa using hz
   rw[<-this,<-e];exact hy
def iR(C:h_)(n:Nat)(SD:List (Str×Nat)):MN:=λrs=>match rs with|(e_,.obj C' [] [])::args=>if C'=C/\args.length+1=n/\args.all (λr=>!r.1)=e_ then .ok (.obj C (SD.map (·.1)) (SD.map λp=>((args[p.2-1]?).map S8).getD .non))else .bad|_=>.bad
theorem cY:∀{vs:List V}{rs:List RV},xZ K fr F H vs rs->rs.all (λr=>!r.1)=e_->IsAll K F H (rs.map S8) vs
 |[],[],_,_=>IsAll.nil|[],_::_,h,_=>h.elim|_::_,[],h,_=>h.elim|v::vs,(b,t)::rs,h,hb=>by
  rw[Oi,y_]at hb;have hb0:b=a_:=by simpa using hb.1
  subst hb0;exact IsAll.cons h.1.is (cY h.2.1 hb.2)
theorem gY.attrs{C:h_}{x Se:Str}{st:A2}{N ps:List Str}{k:Nat}{SD:List (Str×Nat)}(Fm:∃f fd,fx K "__init__" Se st f fd/\Mk K C f)(hx:mg x=b_ ↑aa)(hc:uB K C)(hn:∀p∈SD,zS K C p.1)(nd:(SD.map (·.1)).Nodup)(hs:∀p∈SD,1<=p.2/\p.2<↑l)(hlf:SD.length<100)(S:zd N ps (za st))(hb:∀(kV Sq pm:g_)(an:Option h_)(Sg ct:g_)(us:List g_),↑h=↑l->Of (A9 "__init__" Se (jQ st) (j4 st) (za st) .none kV Sq pm an Sg ct) ⟨us,[]⟩=pure (ps.zip us))(Sn:∀(f:h_)(Sg:g_)(A:A3)(outer:List Env)(s:l_)(H:Hp)(E:XK),jT k (A.deeper (OB Se (za st) ↑a f Sg))->vh (lw (lI P w) P w K mg base N Se (za st) f Sg A outer s H E) (j4 st) SD):gY P w K mg base (k+1) C x ps (iR C ↑l SD):=by
 refine gY.ok Fm hx S (λrs nb=>?_) hb λf Sg A outer s H E hr=>?_
 ·unfold iR at nb;split at nb
  ·split at nb;·rename_i h;rw[sA];exact h.2.1
   ·exact absurd rfl nb
  ·exact absurd rfl nb
 ·obtain⟨t,p,h⟩:=Sn f Sg A outer s H E hr;refine⟨t,p,λvs H Q E⟨F,rs,dm,ir,nb,ok,ex⟩=>?_⟩;have ir0:=ir;match rs,ir,nb with
  |(e_,.obj C' [] [])::args,ir,nb=>
   have Ο:C'=C/\args.length+1=↑l/\args.all (λr=>!r.1)=e_:=by
    by_cases hq:C'=C/\args.length+1=↑l/\args.all (λr=>!r.1)=e_;·exact hq
    ·exact absurd (by show(if _ then _ else _)=_;rw[if_neg hq]) nb
   have hg:iR C ↑l SD ((e_,.obj C' [] [])::args)=.ok (.obj C (SD.map (·.1)) (SD.map λp=>((args[p.2-1]?).map S8).getD .non)):=by show(if _ then _ else _)=_;rw[if_pos Ο]
   obtain⟨rfl,hlen,hall⟩:=Ο;match vs,ir with
   |va::vargs,ir=>
    obtain⟨ia,iargs,_⟩:=ir;obtain⟨a,rfl,nFa,_,hHa,wa⟩:=ia.there rfl;obtain⟨dx,SV,hins,hk0,_⟩:=wa;have hfv:SV=[]:=by simpa using hk0
    subst hfv;have iall:=cY iargs hall;have hvl:vargs.length=args.length:=iargs.len;refine h _ (start N (.ref a::vargs)) H a C' dx [] (SD.map λp=>(vargs[p.2-1]?).getD .non) rfl hins hc hn (by simpa using(by omega:SD.length<900)) ↑G (λj q v h1 h2=>?_) (by simpa using nd) λH' h1 h2=>?_
    ·have hq:q∈SD:=Av h1;obtain⟨X',TJ⟩:=hs q hq;rw[sI,h1]at h2;have h2:(vargs[q.2-1]?).getD .non=v:=by simpa using h2
     obtain⟨m,hm⟩:∃m,q.2=m+1:=⟨q.2-1,by omega⟩;have e1:q.2-1=m:=by omega
     have Si:m<vargs.length:=by omega
     rw[e1,s_ Si]at h2;have h2:vargs[m]=v:=h2;unfold L2.start;rw[Aw (by simp;omega),sI,hm,Ou,s_ Si,<-h2];rfl
    ·have kp:gx F F H H':=by
      refine⟨λ_ h=>h,λb o f hb=>?_,λb o hb hn1 ω=>?_⟩;·rw[h2 b (by rintro rfl;exact nFa f)];exact hb
      ·rw[h2 b (by rintro rfl;rw[hins]at hb;cases hb;exact ω.2 _ _ _ rfl)];exact hb
     refine ok _ hg a F H' rfl ⟨λb f=>?_,λb f=>f,λb f=>.inl f,λb o hb hm=>?_,λb f z=>(k8 ir0 z).1 f⟩ nFa ⟨dx,_,h1,?_,?_⟩;·rw[h2 b (by rintro rfl;exact nFa f)];exact dm b f
     ·rw[h2 b (by rintro rfl;exact hm ⟨0,(e_,.obj C' [] []),rfl,rfl,rfl⟩)];exact hb
     ·rw[List.nil_append];simp[List.map_fst_zip]
     ·rw[List.nil_append,List.map_snd_zip ↑G];have:∀l:List (Str×Nat),(∀p∈l,1<=p.2/\p.2<↑l)->IsAll K F H' (l.map λp=>((args[p.2-1]?).map S8).getD .non) (l.map λp=>(vargs[p.2-1]?).getD .non):=by intro l;induction l with|nil=>intro _;exact IsAll.nil|cons q l ih=>
        intro hl;have hq:=hl q m_;refine IsAll.cons ?_ (ih λr hr=>hl r (k_ _ hr));have Si:q.2-1<args.length:=by omega
        obtain⟨v,hv,iv⟩:=iall.get (i:=q.2-1) (t:=(args[q.2-1]).2) (by rw[sI,s_ Si];rfl);show Is K F H' (((args[q.2-1]?).map S8).getD .non) ((vargs[q.2-1]?).getD .non);rw[s_ Si,hv];exact iv.mono kp
      exact this SD hs
end
def zd.of{N ps:List Str}{sc:FI}(h:zd N ps sc:=by exact⟨rfl,rfl,rfl,by decide+kernel,rfl,by decide+kernel,by decide+kernel⟩):zd N ps sc:=h
def zL.of{N:List Str}{ϒ scope:FI}{x:Str}{caps:List Str}{slots:List Nat}(h:zL N ϒ scope x caps slots:=by exact⟨rfl,rfl,by decide+kernel,by decide+kernel,rfl,by decide+kernel,by decide+kernel,by decide+kernel,rfl,rfl⟩):zL N ϒ scope x caps slots:=h
def zt(hN:X.N.Nodup)(h:jb X e m)(hi:X.N[i]?=b_ x:=by rfl)(hx:aV X.env.scope x:=by first|exact AW rfl|exact Ae rfl)(hs:BA e (b_ (.Name x SA)) pos.line X.env=pure a_:=by rfl)(hf:X.fn x=e_\/X.env.scope.names.lookup x=b_ .local:=by first|exact .inl rfl|exact .inr rfl|assumption):eF X (.Assign [.Name x SA] e pos) (zF i m):=HA hN hi hx h hs hf
def X2{op:Operator}{f:T->T->Option RV}(ho:MX X op f)(hN:X.N.Nodup)(h:jb X e m)(hi:X.N[i]?=b_ x:=by rfl)(hx:aV X.env.scope x:=by first|exact AW rfl|exact Ae rfl)(hf:X.fn x=e_\/X.env.scope.names.lookup x=b_ .local:=by first|exact .inl rfl|exact .inr rfl|assumption):eF X (.AugAssign (.Name x SA) op e pos) (V6 i f m):=HB ho hN hi hx h hf
def zo(hN:X.N.Nodup)(hi:X.N[i]?=b_ x:=by rfl)(hx:aV X.env.scope x:=by first|exact AW rfl|exact Ae rfl)(hf:X.fn x=e_\/X.env.scope.names.lookup x=b_ .local:=by first|exact .inl rfl|exact .inr rfl|assumption):VW X (.Name x pos) (gN i):=PK hN hi hx hf
def d4(c1 c2 c3 c4:h_)(m:Str)(f1 f2 f3 f4:MF)(mo:ME)(ma:MA):ME:=rB (rB (rB (kU c1 m f1 mo ma) (kU c2 m f2 mo ma)) (kU c3 m f3 mo ma)) (kU c4 m f4 mo ma)
def Qu{k k1 k2 k3 k4:Nat}{c1 c2 c3 c4:h_}{p1 p2 p3 p4:List Str}{f1 f2 f3 f4:MF}{pl:Sem Bool}(M1:kS X.prog X.w X.K X.mg X.base k1 c1 n p1 f1)(M2:kS X.prog X.w X.K X.mg X.base k2 c2 n p2 f2)(M3:kS X.prog X.w X.K X.mg X.base k3 c3 n p3 f3)(M4:kS X.prog X.w X.K X.mg X.base k4 c4 n p4 f4)(hr:jT k X.A)(ho:jb X o mo)(ha:Yi X (e::es) ma)(h1:k1<=k:=by omega)(h2:k2<=k:=by omega)(h3:k3<=k:=by omega)(h4:k4<=k:=by omega)(Sx:p_ (e::es) X.env=↑ae::p_ es X.env:=by rfl)(hpl:(AT pos (p_ es X.env)).any (·.1)=a_:=by rfl)(ht:x_ (.Call (.Attribute o n Sf) (e::es) [] pos) X.env=(do
   let ov<-x_ o X.env
   Re Sf.atName let(f,first)<-O2 [ov] (Rl ov n pl)callWith pos f first (AT pos (p_ (e::es) X.env)) (OU pos (FU [] X.env))):=by rfl):jb X (.Call (.Attribute o n Sf) (e::es) [] pos) (d4 c1 c2 c3 c4 n f1 f2 f3 f4 mo ma):=Qd (Qd (Qd (pT M1 (hr.mono h1) ho ha Sx hpl ht) (pT M2 (hr.mono h2) ho ha Sx hpl ht)) (pT M3 (hr.mono h3) ho ha Sx hpl ht)) (pT M4 (hr.mono h4) ho ha Sx hpl ht)
def HJ{P:List g_->Prop}(h:P []):∀us:List g_,↑h=0->P us:=λus e=>by cases us with|nil=>exact h|cons a r=>cases e
def gZ{P:List g_->Prop}(h:∀a,P [a]):∀us:List g_,↑h=1->P us:=λus e=>by cases us with|nil=>cases e|cons a r=>exact HJ (P:=λr=>P (a::r)) (h a) r (OH e)
def x9{P:List g_->Prop}(h:∀a b,P [a,b]):∀us:List g_,↑h=2->P us:=λus e=>by cases us with|nil=>cases e|cons a r=>exact gZ (P:=λr=>P (a::r)) (h a) r (OH e)
def qN{P:List g_->Prop}(h:∀a b c,P [a,b,c]):∀us:List g_,↑h=3->P us:=λus e=>by cases us with|nil=>cases e|cons a r=>exact x9 (P:=λr=>P (a::r)) (h a) r (OH e)
def Wc{P:List g_->Prop}(h:∀a b c d,P [a,b,c,d]):∀us:List g_,↑h=4->P us:=λus e=>by cases us with|nil=>cases e|cons a r=>exact qN (P:=λr=>P (a::r)) (h a) r (OH e)
def Nk{P:List g_->Prop}(h:∀a b c d e,P [a,b,c,d,e]):∀us:List g_,↑h=5->P us:=λus e=>by cases us with|nil=>cases e|cons a r=>exact Wc (P:=λr=>P (a::r)) (h a) r (OH e)
def HK{P:List g_->Prop}(h:∀a b c d e f,P [a,b,c,d,e,f]):∀us:List g_,↑h=6->P us:=λus e=>by cases us with|nil=>cases e|cons a r=>exact Nk (P:=λr=>P (a::r)) (h a) r (OH e)
section
variable{K:d_}{h:w_}{mg:Str->Option g_}{f C C0:h_}{oc kV dc pm cd ct:g_}{od an:Option h_}{sl:Array (Option g_)}{x q:Str}{st:A2}{t:Tok}{b:Bool}
theorem mQ(X:K.In h)(G:h.Ns v_ mg)(g:FD K v_ x=b_ f_:=by(try dsimp only);k_is):mg x=f_:=W.mg_none_of X G g
theorem Jd(X:K.In h)(G:h.Ns v_ mg)(g:FD K v_ x=b_ (b_ v):=by(try dsimp only);k_is):mg x=b_ v:=FH X G g
theorem zB(X:K.In h)(G:h.Ns v_ mg)(g:FD K v_ x=b_ (b_ (.ref f)):=by(try dsimp only);k_is)(l:K.lookup f=b_ ⟨oc,od,.func (A9 x x (jQ st) (j4 st) (za st) .none kV dc pm an cd ct),sl⟩:=by(try dsimp only);k_is)(c:FL K cd x=e_:=by(try dsimp only);k_is)(k:AC K (.ref f)=e_:=by(try dsimp only);k_is):zH K mg x st:=⟨_,_,cq l c k,FH X G g⟩
theorem Nl(X:K.In h)(G:h.Ns v_ mg)(g:FD K v_ x=b_ (b_ (.str s t)):=by(try dsimp only);k_is):∃t,mg x=b_ (.str s t):=⟨_,FH X G g⟩
theorem HL(X:K.In h)(G:h.Ns v_ mg)(g:FD K v_ x=b_ (b_ (.int i t)):=by(try dsimp only);k_is):∃t,mg x=b_ (.int i t):=⟨_,FH X G g⟩
theorem HM(X:K.In h)(G:h.Ns v_ mg)(g:FD K v_ x=b_ (b_ (.ref f)):=by(try dsimp only);k_is)(l:K.lookup f=b_ ⟨.type "tuple",od,.seq #[.str s1 t1,.str s2 t2] n,sl⟩:=by(try dsimp only);k_is):L9 K mg x [s1,s2]:=⟨_,_,_,_,FH X G g,l,rfl,rfl,(by show 2<=j_;decide),(.cons ⟨_,rfl⟩ (.cons ⟨_,rfl⟩ .nil))⟩
theorem dM(i:As K ↑aa "__init__"=b_ (b_ (.ref f)):=by(try dsimp only);k_is)(l:K.lookup f=b_ ⟨oc,od,.func (A9 "__init__" q (jQ st) (j4 st) (za st) .none kV dc pm an cd ct),sl⟩:=by(try dsimp only);k_is)(c:FL K cd q=e_:=by(try dsimp only);k_is)(k:AC K (.ref f)=e_:=by(try dsimp only);k_is)(m:W.makesIn K C=e_:=by(try dsimp only);k_is)(n:Rf K (.ref f)=e_:=by(try dsimp only);k_is)(p:AC K ↑aa=e_:=by(try dsimp only);k_is):∃f fd,fx K "__init__" q st f fd/\Mk K C f:=⟨_,_,cq l c k,m,i,n,p⟩
theorem xo(i:As K ↑aa x=b_ (b_ (.ref f)):=by(try dsimp only);k_is)(l:K.lookup f=b_ ⟨oc,od,.func (A9 x q (jQ st) (j4 st) (za st) .none kV dc pm an cd ct),sl⟩:=by(try dsimp only);k_is)(c:FL K cd q=e_:=by(try dsimp only);k_is)(k:AC K (.ref f)=e_:=by(try dsimp only);k_is)(n:Rf K (.ref f)=e_:=by(try dsimp only);k_is):∃f fd,fx K x q st f fd/\fw K C x f:=⟨_,_,cq l c k,i,n,k⟩
theorem base_of(i:W.findCls K ↑aa (.type "type") "__init__"=b_ (.val (.ref f)):=by(try dsimp only);k_is)(l:K.lookup f=b_ ⟨oc,od,.func (A9 "__init__" q (jQ st) (j4 st) (za st) .none kV dc pm an cd ct),sl⟩:=by(try dsimp only);k_is)(c:FL K cd q=e_:=by(try dsimp only);k_is)(k:AC K (.ref f)=e_:=by(try dsimp only);k_is)(s:RD K ↑aa "__getattribute__"=b_ (b_ (.builtin "type.__getattribute__")):=by(try dsimp only);k_is)(r:W.readsIn K C (.type "type")=e_:=by(try dsimp only);k_is):∃f fd,fx K "__init__" q st f fd/\Jb K C "__init__" f:=⟨_,_,cq l c k,s,r,i,k⟩
theorem cZ(a:O3 K C Str.empty=e_:=by(try dsimp only);k_is)(b:Oz K C=e_:=by(try dsimp only);k_is)(c:RB K C=e_:=by(try dsimp only);k_is)(d:As K ↑aa "__setattr__"=b_ (b_ (.builtin "object.__setattr__")):=by(try dsimp only);k_is):uB K C:=⟨a,b,c,d⟩
theorem m9(i:As K ↑aa x=b_ f_:=by(try dsimp only);k_is):zS K C x:=i
end
structure M0(X:Cx)(o:A1)(m:Str)(Sf:Pos)(cpos:Pos):Prop where
 base:AZ o m X.env (x_ o X.env)=x_ o X.env
 few:((AT cpos (p_ [] X.env)).all (λx=>!x.1)&&(OU cpos (FU [] X.env)).all (λx=>x.1.isSome)&&decide (([]:List A1).length+([]:List Keyword).length+(if([]:List Keyword).isEmpty then 0 else 1)<30))=e_
 line:(Sf.endLine==cpos.line)=e_
 trees:AT cpos (p_ [] X.env)=[]
def Qv(a:h_)(o:Obj):It:=⟨λi H=>∃kvs k y,H a=b_ ↑N/\kvs[i]?=b_ (k,y),λi H v H'=>∃T k y,H T=f_/\v=.ref T/\H'=zO H T (.tup [kV k,y])/\∀kvs,H a=b_ ↑N->kvs[i]?=b_ (k,y),λi H=>∃kvs,H a=b_ ↑N/\kvs.length<=i⟩
theorem Qw:∀{kvs:List (Key×V)}{vs:List (Key×g_)}{i:Nat}{k:Key}{y:V},KV kvs vs->kvs[i]?=b_ (k,y)->∃u,vs[i]?=b_ (k,u)/\RelV y u|_,_,_,_,_,.nil,h=>by simp at h|_,_,0,k,y,.cons (b:=q) r t,h=>by simp at h;obtain⟨k',u⟩:=q;subst h;obtain⟨e,ru⟩:=r;cases e;exact⟨u,by simp,ru⟩|_,_,i+1,k,y,.cons r t,h=>by obtain⟨u,h1,h2⟩:=Qw (i:=i) t (by simpa using h);exact⟨u,by simpa using h1,h2⟩
def Qx(h:(zP P w).is k u=e_):RelV (kV k) u:=by
 rcases jD h with⟨i,t,rfl,rfl⟩|⟨x,t,rfl,rfl⟩;·exact⟨t,rfl⟩
 ·exact⟨t,rfl⟩
def Qy(hd:o.data=.dict es ep)(x:jw P w H h a ↑N):∃vs,KV kvs vs/\h.DictAt (zP P w) a vs ep/\↑g=es.size:=by obtain⟨hget,hz,hS,vs,r,o',es',ep',h1,h2,h3,h4,h5,h6⟩:=x;have hget:=hget rfl;rw[hget]at h1;cases h1;rw[hd]at h3;cases h3;exact⟨vs,r,⟨_,_,hget,h2,hd,h4,h5,h6⟩,by rw[<-h5.length];simp⟩
section
variable{Su:List A1}{k:Nat}{tp:Pos}
theorem b8{P:sN}{w:sY}{K:d_}(a it:h_)(o:Obj){es:Array S2}{ep:Nat}(hd:o.data=.dict es ep):Zv P w K (.Tuple Su k tp) (Qv a o) [it] it (λi h=>∃ok ov,IsItemIter h it a i es.size ep ok ov)where
 mem:=by simp
 obj:=λi h st b hb=>by
  obtain⟨ok,ov,he⟩:=st;have e:b=it:=by simpa using hb
  subst e;exact⟨_,he,λv z=>by have z':Data.fields _=Data.cell v:=z;cases z'⟩
 keep:=λi h h' st k=>by obtain⟨ok,ov,he⟩:=st;exact⟨ok,ov,k it ↑G _ he⟩
 item:=by
  intro X hP hw hK hc i pins s σ H E I hf st hg;subst hP hw hK;obtain⟨kvs,k,y,hq,hx⟩:=hg;obtain⟨vs,r,ε,hl⟩:=Qy hd (I.hok a _ hq);obtain⟨u,hu,ru⟩:=Qw r hx;obtain⟨ok,ov,hi⟩:=st;rw[<-hl]at hi;refine wpAny_pyNext_items_item hi ε hu λSj h' SI ho hT hsz hk=>?_;have I1:zu X pins σ (zO H ↑a (.tup [kV k,y])) {s with heap:=h',toks:=s.toks}:=I.turnT (ch:=[it]) (its:=[Sj,u]) hf (λb o hb q=>hk b o (λz=>hb (by simp[z])) q) (r_ _) (by show 2<=j_;decide) (.cons (Qx SI) (.cons ru .nil)) ⟨_,hT,rfl,_,rfl⟩;have ϥ:it≠↑a:=su (n_ hi);refine⟨_,rfl,wpAny_letOwnedTupleGo_items ho λh2 he2 T9=>?_⟩;obtain⟨f0,f1,f2,f3,f4,f5⟩:=hf it ↑G;refine⟨.ref ↑a,_,I1.turned (t':=s.toks) (it:=it) (λb o hb q=>(T9.2 b hb).trans q) (by rw[zg ϥ];exact f0) f1 f3 f4 f5,rfl,⟨_,k,y,I.hok.fresh (r_ _),rfl,rfl,λys hy=>by rw[hq]at hy;cases hy;exact hx⟩,⟨Sj,u,by rw[<-hl];exact he2⟩,λb hb=>?_⟩;have e':b=it:=by simpa using hb
  subst e';rw[zg ϥ];exact f0
 done:=by intro X hP hw hK hc i pins s σ H E I hf st hg;subst hP hw hK;obtain⟨kvs,hq,hx⟩:=hg;obtain⟨vs,r,ε,hl⟩:=Qy hd (I.hok a _ hq);obtain⟨f0,f1,f2,f3,f4,f5⟩:=hf it ↑G;obtain⟨ok,ov,hi⟩:=st;rw[<-hl]at hi;have hlen:=r.length;exact wpAny_pyNext_items_end (I.ok.hd hc) hi ε (List.getElem?_eq_none ↑p) λh' eb=>⟨rfl,I.turned (t':=s.toks) (λb o hb e=>eb b o hb e) f0 f1 f3 f4 f5⟩
 self:=λA i s Q E st h=>by obtain⟨ok,ov,he⟩:=st;have hT:s.TypeIs (.ref it) "dict_itemiterator":=⟨_,he,rfl⟩;refine wpAny_pyIter_slot hT Oj (BN Oj hT W.kcp_entry ?_ (PySem.F.args_dict_itemiterator_iter_1 _));show o_ _ _ (ret (.ref it)) _ _ s;exact i_ ⟨_,rfl,"dict_itemiterator",_,hT,PySem.F.slot_dict_itemiterator_next.lookup,h⟩
theorem X3(I:zu X pins σ H s)(e:H a=b_ (.dK kvs))(ho:s.heap.get? a=b_ o):zu X pins σ (zO H a ↑N) s:=I.un (h':=s.heap) (t':=s.toks) (Un.write (by rw[e];exact D_) (.inl rfl) (λ_ _ _ q=>q) ⟨o,ho⟩) (lK I.hok e (λ_ z=>by cases z) (λ_ z=>by cases z) λ_=>⟨λ_=>ho,I.hok a _ e⟩)
def Qz(X:Cx)(td:TE):TI:=λσ H R=>td σ H λx H1=>∃a kvs,x=.ref a/\((H1 a=b_ (.dK kvs)/\∀o,(∀o' u,X.H₀ a≠b_ (.frz o' u))->R (Qv a o) (zO H1 a ↑N))\/∃o,H1 a=b_ ↑N/\R (Qv a o) H1)
theorem Je{X:Cx}{o:A1}{td:TE}{Sf cpos:Pos}(ho:PE X o td)(m:M0 X o "items" Sf cpos):PI X (.Tuple Su k tp) (.Call (.Attribute o "items" Sf) [] [] cpos) (Qz X td):=by
 intro pins s σ H R I h;refine OG m.base m.few m.line FM FR S9 (jk (ho pins s σ H _ I h) λu s1⟨x,H1,I1,rx,a,kvs,ex,q1⟩=>?_);subst ex;obtain rfl:u=sE a:=rx;have d:Rd H1 a (.dK kvs):=q1.elim (λh=>.inl h.1) λ⟨o,h,_⟩=>.inr ⟨o,h⟩;obtain⟨t1,t2,_⟩:=YH I1 (.inl ⟨kvs,d⟩);refine⟨t1,t2,?_⟩;rw[m.trees];obtain⟨hz,hS,vs,r,dd⟩:=lA I1.hok d;refine BH rfl (Rx ?_);refine Rh FR dd.typeIs RX (Rz _) (meets_dict_items (zP X.prog X.w) a hS) ⟨⟨vs,dd⟩,?_⟩;obtain⟨ob,es,ep,h1,h2,h3,h4,h5,h6⟩:=dd;have I2:zu X pins σ H1 {s1 with heap:=s1.heap.push {cls:=.type "dict_items",data:=.fields #[.ref a]}}:=I1.kept (t':=s1.toks) λb ob q=>f' _ q;have ε:({s1 with heap:=s1.heap.push {cls:=.type "dict_items",data:=.fields #[.ref a]}}:l_).heap.DictAt (zP X.prog X.w) a vs ep:=⟨ob,es,f' _ h1,h2,h3,h4,h5,h6⟩;have hl:↑g=es.size:=by rw[<-h5.length];simp
 refine wpAny_pyIter_items (knd:=zP X.prog X.w) ⟨_,sf _ rfl,rfl,rfl⟩ ε ?_;have hf:=I2.hok.fresh (r_ _);have I3:=I2.kept (t':=s1.toks) (h':=(s1.heap.push {cls:=.type "dict_items",data:=.fields #[.ref a]}).push {cls:=.type "dict_itemiterator",data:=.fields #[.none,.bool a_,.ref a,.int 0 0,.int ↑g 0,.int ep 0,.none,.none]}) λb ob q=>f' _ q;have ha:((s1.heap.push {cls:=.type "dict_items",data:=.fields #[.ref a]}).push {cls:=.type "dict_itemiterator",data:=.fields #[.none,.bool a_,.ref a,.int 0 0,.int ↑g 0,.int ep 0,.none,.none]}).get? a=b_ ob:=f' _ (f' _ h1);rcases q1 with⟨d,q1⟩|⟨ob',d,q1⟩
 ·have I4:=X3 I3 d ha;refine⟨_,[_],_,Qv a ob,_,rfl,I4,b8 a _ ob h3,⟨.none,.none,by rw[<-hl];exact sf _ rfl⟩,λb hb=>?_,q1 ob λo' u z=>by rw[I1.base.frzs _ _ _ z]at d;cases d⟩;have e:b=(s1.heap.push {cls:=.type "dict_items",data:=.fields #[.ref a]}).objs.size:=by simpa using hb
  subst e;exact I2.fpOk (r_ _) (by rw[zg (AE (zM d hf))];exact hf)
 ·have e:=(I1.hok a _ d).1 rfl;rw[h1]at e;cases e;refine⟨_,[_],_,Qv a ob,_,rfl,I3,b8 a _ ob h3,⟨.none,.none,by rw[<-hl];exact sf _ rfl⟩,λb hb=>?_,q1⟩;have e:b=(s1.heap.push {cls:=.type "dict_items",data:=.fields #[.ref a]}).objs.size:=by simpa using hb
  subst e;exact I2.fpOk (r_ _) hf
end
def uS(I:zu X pins σ H s)(e:H a=b_ ↑N)(h0:∀o' u,X.H₀ a≠b_ (.frz o' u)):zu X pins σ (zO H a (.dK kvs)) s:=by
 have nn:∀b,H b=f_->b≠a:=λb n z=>by rw[z,e]at n;cases n
 have up:∀b,H b=f_->zO H a (.dK kvs) b=f_:=λb n=>by rw[zg (nn b n)];exact n
 refine⟨I.ok,I.os,I.bare,⟨I.base.keep,I.base.slot,λb ob q n hx=>up b (I.base.free b ob q n hx),I.base.there,λb xs q=>?_,λb ob u q=>?_,λb ps q=>?_⟩,I.loc,I.cell,up _ I.free,λx c q=>up _ (I.freeC x c q),λp hp=>let⟨h1,h2,h3⟩:=I.pin p hp;⟨h1,up _ h2,h3⟩,lK I.hok e (λ_ z=>by cases z) (λ_ z=>by cases z) λ_=>(I.hok a _ e).2,I.len⟩;·have:=I.base.tups b xs q;rw[zg (lr this e (by intro z;cases z))];exact this
 ·have:=I.base.frzs b ob u q;rw[zg (by rintro rfl;exact h0 _ _ q)];exact this
 ·obtain⟨more,m⟩:=I.base.tbls b ps q;exact⟨more,by rw[zg (lr m e (by intro z;cases z))];exact m⟩
def X4(X:Cx)(Q:Hp->Prop)(H:Hp):Prop:=Q H\/∃a o kvs,H a=b_ ↑N/\(∀o' u,X.H₀ a≠b_ (.frz o' u))/\Q (zO H a (.dK kvs))
def Nn(X:Cx)(D:nQ):nQ:={nx:=λσ=>X4 X (D.nx σ),bk:=λσ=>X4 X (D.bk σ),ct:=λσ=>X4 X (D.ct σ),rt:=λv=>X4 X (D.rt v)}
def U7{X:Cx}{st:A2}{t:TS}(h:PS X st t):PS X st (λD σ H=>t (Nn X D) σ H):=λpins s σ H D I w=>jk (h pins s σ H (Nn X D) I w) λf s' q=>by
  cases f with|next=>
   obtain⟨σ',H',I',q|⟨a,o,kvs,e,h0,q⟩⟩:=q;·exact⟨σ',_,I',q⟩
   ·exact⟨σ',_,uS I' e h0,q⟩|brk=>
   obtain⟨σ',H',I',q|⟨a,o,kvs,e,h0,q⟩⟩:=q;·exact⟨σ',_,I',q⟩
   ·exact⟨σ',_,uS I' e h0,q⟩|cont=>
   obtain⟨σ',H',I',q|⟨a,o,kvs,e,h0,q⟩⟩:=q;·exact⟨σ',_,I',q⟩
   ·exact⟨σ',_,uS I' e h0,q⟩|ret u=>
   obtain⟨v,σ',H',I',r,q|⟨a,o,kvs,e,h0,q⟩⟩:=q;·exact⟨v,σ',_,I',r,q⟩
   ·exact⟨v,σ',_,uS I' e h0,r,q⟩
structure No(H H':Hp):Prop where
 oth:∀b o,H b=b_ o->(∀kvs,o≠.dK kvs)->(∀ob kvs,o≠.frz ob (.dK kvs))->H' b=b_ o
 dct:∀b kvs,Rd H b (.dK kvs)->Rd H' b (.dK kvs)
section
variable{K:d_}{F:h_->Prop}{H H':Hp}
theorem U8(w:No H H')(h:lq K H a vs):lq K H' a vs:=by
 rcases h with(h|⟨o,h⟩)|h;·exact .inl (.inl (w.oth _ _ h (λ_ z=>by cases z) λ_ _ z=>by cases z))
 ·exact .inl (.inr ⟨o,w.oth _ _ h (λ_ z=>by cases z) λ_ _ z=>by cases z⟩)
 ·exact .inr h
theorem U9(w:No H H')(h:YN K F H a vs):YN K F H' a vs:=by
 rcases h with⟨f,h⟩|⟨o,h⟩|h;·exact .inl ⟨f,w.oth _ _ h (λ_ z=>by cases z) λ_ _ z=>by cases z⟩
 ·exact .inr (.inl ⟨o,w.oth _ _ h (λ_ z=>by cases z) λ_ _ z=>by cases z⟩)
 ·exact .inr (.inr h)
mutual theorem Is.swp(w:No H H'):∀{t:T}{v:V},Is K F H t v->Is K F H' t v|.non,v,h=>by unfold Is at h⊢;exact h|.bl b,v,h=>by unfold Is at h⊢;exact h|.int i,v,h=>by unfold Is at h⊢;exact h|.str x,v,h=>by unfold Is at h⊢;exact h|.ty n,v,h=>by unfold Is at h⊢;exact h|.tup ts,v,h=>by unfold Is at h⊢;obtain⟨a,vs,e,h,r⟩:=h;exact⟨a,vs,e,U8 w h,IsAll.swp w r⟩|.lst ts,v,h=>by unfold Is at h⊢;obtain⟨a,vs,e,h,r⟩:=h;exact⟨a,vs,e,U9 w h,IsAll.swp w r⟩|.dct ks ts,v,h=>by unfold Is at h⊢;obtain⟨a,kvs,e,f,h,d,r⟩:=h;exact⟨a,kvs,e,f,w.dct _ _ h,d,IsAll.swp w r⟩|.obj C fs ts,v,h=>by unfold Is at h⊢;obtain⟨a,dx,kvs,e,f,h,d,r⟩:=h;exact⟨a,dx,kvs,e,f,w.oth _ _ h (λ_ z=>by cases z) (λ_ _ z=>by cases z),d,IsAll.swp w r⟩|.mem m o,v,h=>by unfold Is at h⊢;exact⟨h.1,w.oth _ _ h.2 (λ_ z=>by cases z) λ_ _ z=>by cases z⟩|.exn C t,v,h=>by unfold Is at h⊢;obtain⟨e,d,x,ev,h1,h2,h3⟩:=h;exact⟨e,d,x,ev,w.oth _ _ h1 (λ_ z=>by cases z) (λ_ _ z=>by cases z),w.oth _ _ h2 (λ_ z=>by cases z) (λ_ _ z=>by cases z),Is.swp w h3⟩|.lam,v,h=>by unfold Is at h⊢;exact h.imp λa h=>⟨h.1,w.oth _ _ h.2 (λ_ z=>by cases z) λ_ _ z=>by cases z⟩theorem IsAll.swp(w:No H H'):∀{ts:List T}{vs:List V},IsAll K F H ts vs->IsAll K F H' ts vs|[],vs,h=>by unfold IsAll at h⊢;exact h|t::ts,vs,h=>by unfold IsAll at h⊢;obtain⟨v,r,e,h1,h2⟩:=h;exact⟨v,r,e,Is.swp w h1,IsAll.swp w h2⟩end
def mR(e:H a=b_ (.dK kvs)):No H (zO H a ↑N):=by
 refine⟨λb ob q h1 h2=>?_,λb ks q=>?_⟩;·rw[zg (by rintro rfl;rw[e]at q;cases q;exact h1 _ rfl)];exact q
 ·by_cases hb:b=a;·subst hb;cases YO q (.inl e);exact .inr ⟨o,zm⟩
  ·rcases q with q|⟨o',q⟩;·exact .inl (by rw[zg hb];exact q)
   ·exact .inr ⟨o',by rw[zg hb];exact q⟩
def b9(e:H a=b_ ↑N):No H (zO H a (.dK kvs)):=by
 refine⟨λb ob q h1 h2=>?_,λb ks q=>?_⟩;·rw[zg (by rintro rfl;rw[e]at q;cases q;exact h2 _ _ rfl)];exact q
 ·by_cases hb:b=a;·subst hb;cases YO q (.inr ⟨o,e⟩);exact .inl zm
  ·rcases q with q|⟨o',q⟩;·exact .inl (by rw[zg hb];exact q)
   ·exact .inr ⟨o',by rw[zg hb];exact q⟩
def kh.swp(w:No H (zO H a u))(hb:b≠a)(h:kh K F H b t):kh K F (zO H a u) b t:=by cases t with|lst ts=>obtain⟨vs,e,r⟩:=h;exact⟨vs,by rw[zg hb];exact e,r.swp w⟩|dct ks ts=>obtain⟨vs,e,d,r⟩:=h;exact⟨vs,by rw[zg hb];exact e,d,r.swp w⟩|obj C fs ts=>obtain⟨dx,vs,e,d,r⟩:=h;exact⟨dx,vs,by rw[zg hb];exact e,d,r.swp w⟩|_=>exact h.elim
end
def Bs.fz(B:Bs)(a:h_)(u:HO):Bs:=⟨B.M,λb=>if b=a then(B.H a).map λ_=>u else B.H b,B.F⟩
def lL:(Bs.fz B a u).H b=f_↔B.H b=f_:=by
 unfold Bs.fz;dsimp only;by_cases h:b=a;·subst h;rw[if_pos rfl,Option.map_eq_none_iff]
 ·rw[if_neg h]
section
variable{K:d_}{B:Bs}{F:h_->Prop}{H:Hp}{σ:St}{env:En}{a:h_}{kvs:List (Key×V)}{o:Obj}{v:V}{r:RV}
theorem m5.fz(f:m5 B F H)(e:H a=b_ (.dK kvs)):m5 (Bs.fz B a ↑N) F (zO H a ↑N):=by
 refine⟨λb h=>?_,f.sub,λb h=>?_,λb ob h hm=>?_,f.f0⟩
 ·by_cases hb:b=a;·subst hb;rw[zm];intro z;cases z
  ·rw[zg hb];exact f.dom b h
 ·rcases f.new b h with h|h|h;·exact .inl h
  ·exact .inr (.inl (lL.mpr h))
  ·exact .inr (.inr h)
 ·by_cases hb:b=a;·subst hb;unfold Bs.fz at h;dsimp only at h;rw[if_pos rfl,sJ]at h;obtain⟨_,_,rfl⟩:=h;exact zm
  ·unfold Bs.fz at h;dsimp only at h;rw[if_neg hb]at h;rw[zg hb];exact f.keep b ob h hm
theorem zN.fz(R:zN K B F H σ env)(fa:F a)(e:H a=b_ (.dK kvs)):zN K (Bs.fz B a ↑N) F (zO H a ↑N) σ env:=by have w:=mR (o:=o) e;refine⟨R.fr.fz e,R.len,λi t h=>let⟨v,s,q⟩:=R.vals i t h;⟨v,s,q.swp w⟩,λi t h=>?_,R.sep⟩;obtain⟨b,s,nf,fr,ow⟩:=R.owns i t h;exact⟨b,s,nf,fr.imp lL.mpr id,ow.swp w (by rintro rfl;exact nf fa)⟩
theorem m5.tz(f:m5 (Bs.fz B a ↑N) F H)(hB:∀u,B.H a=b_ u->¬B.M a->u=.dK kvs):m5 B F (zO H a (.dK kvs)):=by
 refine⟨λb h=>?_,f.sub,λb h=>?_,λb ob h hm=>?_,f.f0⟩
 ·by_cases hb:b=a;·subst hb;rw[zm];intro z;cases z
  ·rw[zg hb];exact f.dom b h
 ·rcases f.new b h with h|h|h;·exact .inl h
  ·exact .inr (.inl (lL.mp h))
  ·exact .inr (.inr h)
 ·by_cases hb:b=a;·subst hb;rw[zm,hB ob h hm]
  ·rw[zg hb];refine f.keep b ob ?_ hm;unfold Bs.fz;dsimp only;rw[if_neg hb];exact h
theorem zN.tz(R:zN K (Bs.fz B a ↑N) F H σ env)(fa:F a)(e:H a=b_ ↑N)(hB:∀u,B.H a=b_ u->¬B.M a->u=.dK kvs):zN K B F (zO H a (.dK kvs)) σ env:=by have w:=b9 e;refine⟨R.fr.tz hB,R.len,λi t h=>let⟨v,s,q⟩:=R.vals i t h;⟨v,s,q.swp w⟩,λi t h=>?_,R.sep⟩;obtain⟨b,s,nf,fr,ow⟩:=R.owns i t h;exact⟨b,s,nf,fr.imp lL.mp id,ow.swp w (by rintro rfl;exact nf fa)⟩
theorem ZO.tz(R:ZO K (Bs.fz B a ↑N) F H v r)(fa:F a)(e:H a=b_ ↑N)(hB:∀u,B.H a=b_ u->¬B.M a->u=.dK kvs):ZO K B F (zO H a (.dK kvs)) v r:=by
 have w:=b9 e;refine⟨R.fr.tz hB,?_⟩;have i:=R.val;unfold kN at i⊢;split;·rename_i ho;rw[if_pos ho]at i;obtain⟨b,e1,nf,fr,ow⟩:=i;exact⟨b,e1,nf,fr.imp lL.mp id,ow.swp w (by rintro rfl;exact nf fa)⟩
 ·rename_i ho;rw[if_neg ho]at i;exact i.swp w
end
def kT:Key->T|.inl i=>.int i|.inr x=>.str x
def QA{K:d_}{F:h_->Prop}{H:Hp}:∀{k:Key},Is K F H (kT k) (kV k)|.inl _=>xL|.inr _=>gy
def xS(ks:List Key)(ts:List T):List T:=(ks.zip ts).map λp=>.tup [kT p.1,p.2]
def Jf{K:d_}{F:h_->Prop}{H:Hp}{kvs:List (Key×V)}{ts:List T}{i:Nat}{k:Key}{y:V}(ia:IsAll K F H ts (kvs.map (·.2)))(h:kvs[i]?=b_ (k,y)):∃t,(xS (kvs.map (·.1)) ts)[i]?=b_ (.tup [kT k,t])/\Is K F H t y:=by
 have hl:=ia.len;have hi:i<kvs.length:=(sP.mp h).1;have hi2:i<↑c:=by rw[hl,j'];exact hi
 obtain⟨v,hv,iv⟩:=ia.get (i:=i) (t:=ts[i]) (by simp[hi2]);rw[sI,h]at hv;cases hv;refine⟨ts[i],?_,iv⟩;unfold xS;have hz:((kvs.map (·.1)).zip ts)[i]?=b_ (k,ts[i]):=List.getElem?_zip_eq_some.mpr ⟨by rw[sI,h];rfl,by simp[hi2]⟩;rw[sI,hz];rfl
def tS{kvs:List (Key×V)}{ts:List T}(h:↑c=(kvs.map (·.2)).length):(xS (kvs.map (·.1)) ts).length=kvs.length:=by unfold xS;rw[j',List.length_zip,j',h,j',Nat.min_self]
def ba(m:ME)(tg:MG)(mb:MS):MS:=λenv=>match jR m env with|.ok (r,Sc)=>(match r.2 with|.dct ks ts=>Ng (jv tg mb (xS ks ts) Sc)|_=>.bad)|.exc x=>.exc x env|.bad=>.bad
section
variable{X:Cx}{g:MG}{mb:MS}{ϝ:TG}{tb:TS}{B:Bs}{F1:h_->Prop}{H1:Hp}{σ:St}{env:En}{D:nQ}{a:h_}{ob:Obj}{kvs:List (Key×V)}{ts:List T}
theorem bg(sg:V7 X ϝ g)(sb:PH X tb mb)(R1:zN X.K B F1 H1 σ env)(fa:F1 a)(e:H1 a=b_ (.frz ob (.dK kvs)))(ia:IsAll X.K F1 H1 ts (kvs.map (·.2)))(w:gg X (B.at_ F1 H1) D (jv g mb (xS (kvs.map (·.1)) ts) env)):∃W:Nat->Nat->St->Hp->Prop,(∃m,W 0 m σ H1)/\∀i m σ H,W i m σ H->((Qv a ob).stop i H/\D.nx σ H)\/((Qv a ob).go i H/\∃N:St->Hp->Prop,(∀σ' H',N σ' H'->∃m',m'<m/\W (i+1) m' σ' H')/\∀x H',(Qv a ob).yld i H x H'->ϝ x σ H' λσ2 H2=>tb {D with nx:=N,ct:=N,bk:=D.nx} σ2 H2):=by
 have hlen:=tS (kvs:=kvs) ia.len;generalize hps:xS (kvs.map (·.1)) ts=ps at w hlen;refine⟨λi m σ H=>m=↑l-i/\i<=↑l/\∃F env,zN X.K (B.at_ F1 H1) F H σ env/\gg X (B.at_ F1 H1) D (jv g mb (ps.drop i) env),⟨↑l,by simp,A5 _,F1,env,R1.rebase,by simpa using w⟩,?_⟩;rintro i m σ2 H2⟨rfl,hi,F2,Sm,R2,w2⟩;have kp:=R2.fr.kept;have e2:=kp.fz _ _ fa e;have ia2:=ia.mono kp;by_cases Si:i<↑l
 ·have hk:i<kvs.length:=by omega
  refine .inr ⟨⟨kvs,kvs[i].1,kvs[i].2,e2,by simp[hk]⟩,λσ' H'=>∃F env,zN X.K (B.at_ F1 H1) F H' σ' env/\gg X (B.at_ F1 H1) D (jv g mb (ps.drop (i+1)) env),λσ' H'⟨F',e',R',w'⟩=>⟨↑l-(i+1),by omega,rfl,Si,F',e',R',w'⟩,λx H3 y=>?_⟩;obtain⟨T0,k,v,hT,rfl,rfl,hy⟩:=y;have hx:=hy kvs e2;obtain⟨t,ht,it⟩:=Jf ia2 hx;rw[hps]at ht;have hd:ps.drop i=.tup [kT k,t]::ps.drop (i+1):=by
   rw[Ax Si];have:ps[i]?=b_ ps[i]:=by simp[Si]
   rw[this]at ht;rw[sF ht]
  rw[hd]at w2;have xa:jB F2 H2 F2 (zO H2 T0 (.tup [kV k,v])):=jB.alloc R2.fr.dom hT;have R3:=R2.ext xa;have itT:Is X.K F2 (zO H2 T0 (.tup [kV k,v])) (.tup [kT k,t]) (.ref T0):=by unfold Is;exact⟨T0,_,rfl,.inl (.inl zm),IsAll.cons QA (IsAll.cons (it.mono xa.kept) IsAll.nil)⟩
  have w2:gg X (B.at_ F1 H1) D (match g (.tup [kT k,t]) Sm with|none=>.bad|some e1=>match mb e1 with|.nx e2=>jv g mb (ps.drop (i+1)) e2|.ct e2=>jv g mb (ps.drop (i+1)) e2|.bk e2=>.nx e2|o=>o):=w2;cases hg:g (.tup [kT k,t]) Sm with|none=>rw[hg]at w2;exact w2.elim|some e1=>rw[hg]at w2;dsimp only at w2;refine sg _ F2 _ σ2 Sm e1 _ _ _ R3 itT hg λσ3 R4=>?_;refine sb _ F2 _ σ3 e1 _ R4 ?_;cases ho:mb e1 with|nx e2=>rw[ho]at w2;exactλF4 H4 σ4 R4=>⟨F4,e2,R4,w2⟩|ct e2=>rw[ho]at w2;exactλF4 H4 σ4 R4=>⟨F4,e2,R4,w2⟩|bk e2=>rw[ho]at w2;exact w2|rt r=>rw[ho]at w2;exact w2|exc x e2=>rw[ho]at w2;exact w2|bad=>rw[ho]at w2;exact w2.elim
 ·have hl:i=↑l:=by omega
  subst hl;rw[Fh]at w2;exact .inl ⟨⟨kvs,e2,by omega⟩,w2 F2 H2 σ2 R2⟩
theorem X5(hp:Rk ↑n X.A X.env X.xe)(hc:X.calm=e_)(ho:jb X o m)(hg:VW X (.Tuple Su k tp) g)(hb:uL X body mb)(M:M0 X o "items" Sf cpos:=by exact⟨rfl,rfl,rfl,rfl⟩)(hs:∀x,u_ (.Call (.Attribute o "items" Sf) [] [] cpos) X.env x=pure x:=by intro _;rfl):eF X (.For (.Tuple Su k tp) (.Call (.Attribute o "items" Sf) [] [] cpos) body [] pos) (ba m g mb):=by obtain⟨td,pd,sd⟩:=ho;obtain⟨ϝ,pg,sg⟩:=hg;obtain⟨tb,pb,sb⟩:=hb;refine⟨_,U7 (oI hp hc (Je pd M) pg pb hs),?_⟩;intro B F H σ env D R w;unfold ba at w;cases hr:jR m env with|bad=>rw[hr]at w;exact w.elim|exc x=>rw[hr]at w;refine sd.run R (λr Sc er=>by rw[hr]at er;cases er) (λx' er ev F' H' R' i pins s' I=>?_) (by rw[hr];intro z;cases z);rw[hr]at er;cases er;exact w ev F' H' σ R' i pins s' I|ok q=>
  obtain⟨r,Sc⟩:=q;rw[hr]at w;dsimp only at w;obtain⟨b,t⟩:=r;dsimp only at w;cases t<;>try exact w.elim
  rename_i ks ts;dsimp only at w;refine sd.run R (λr Sy er v F' H' R' iv Sh kp=>?_) (λx er=>by rw[hr]at er;cases er) (by rw[hr];intro z;cases z);rw[hr]at er;cases er;obtain⟨F2,R2,i2,_⟩:=R'.freeze iv (λa q=>zK R.fr q) Sh;unfold Is at i2;obtain⟨a,kvs,rfl,fa,rd,rfl,ia⟩:=i2;refine⟨a,kvs,rfl,?_⟩;rcases rd with e|⟨ob,e⟩
  ·refine .inl ⟨e,λob h0=>?_⟩;have hB:∀u,B.H a=b_ u->¬B.M a->u=.dK kvs:=λu h hm=>by have:=R2.fr.keep a u h hm;rw[e]at this;cases this;rfl
   have R3:=R2.fz (o:=ob) fa e;refine bg sg sb R3 fa zm (ia.swp (mR e)) ?_;have Sj:∀{F4:h_->Prop}{H4:Hp},m5 ((Bs.fz B a (.frz ob (.dK kvs))).at_ F2 (zO H' a (.frz ob (.dK kvs)))) F4 H4->F4 a/\H4 a=b_ (.frz ob (.dK kvs)):=λf=>⟨f.sub a fa,f.kept.fz a _ fa zm⟩;generalize jv g mb (xS (kvs.map (·.1)) ts) Sc=out at w;cases out with|nx Sm=>exactλF4 H4 σ4 R4=>.inr ⟨a,ob,kvs,(Sj R4.fr).2,h0,w F4 _ σ4 ((R4.unbase R3.fr).tz (Sj R4.fr).1 (Sj R4.fr).2 hB)⟩|bk Sm=>exactλF4 H4 σ4 R4=>.inr ⟨a,ob,kvs,(Sj R4.fr).2,h0,w F4 _ σ4 ((R4.unbase R3.fr).tz (Sj R4.fr).1 (Sj R4.fr).2 hB)⟩|ct Sm=>exactλF4 H4 σ4 R4=>.inr ⟨a,ob,kvs,(Sj R4.fr).2,h0,w F4 _ σ4 ((R4.unbase R3.fr).tz (Sj R4.fr).1 (Sj R4.fr).2 hB)⟩|rt r=>exactλv F4 H4 R4=>.inr ⟨a,ob,kvs,(Sj R4.fr).2,h0,w v F4 _ ((R4.unbase R3.fr).tz (Sj R4.fr).1 (Sj R4.fr).2 hB)⟩|exc x Sm=>exact w.elim|bad=>exact w
  ·refine .inr ⟨ob,e,bg sg sb R2 fa e ia ?_⟩;generalize jv g mb (xS (kvs.map (·.1)) ts) Sc=out at w;cases out with|nx Sm=>exactλF4 H4 σ4 R4=>.inl (w F4 _ σ4 (R4.unbase R2.fr))|bk Sm=>exactλF4 H4 σ4 R4=>.inl (w F4 _ σ4 (R4.unbase R2.fr))|ct Sm=>exactλF4 H4 σ4 R4=>.inl (w F4 _ σ4 (R4.unbase R2.fr))|rt r=>exactλv F4 H4 R4=>.inl (w v F4 _ (R4.unbase R2.fr))|exc x Sm=>exact w.elim|bad=>exact w
end
section
variable{X:Cx}{pos p p1 p2:Pos}
theorem Bb(hN:X.N.Nodup)(hi:X.N[i]?=b_ x:=by rfl)(hx:aV X.env.scope x:=by first|exact AW rfl|exact Ae rfl)(hf:X.fn x=e_\/X.env.scope.names.lookup x=b_ .local:=by first|exact .inl rfl|exact .inr rfl|assumption):PG X (.Name x pos) (qJ i):=pM hN hi hx hf
end
open PySem.SeqAt PySem.MeetsSeq PySem.MeetsSeq2 PySem.MeetsSeq3 PySem.SeqRoads2 in def QB(l:h_)(items:Array g_)(n:Nat)(dd:Option h_)(sl:Array (Option g_))(x:g_)(e:g_->Bool)(i j:Nat)(t:Tok)(hj:j<↑f)(U_:i<=j)(Υ:(j:Int)<2^63-1)(T5:e items[j]=e_)(ϐ:∀m(hm:m<↑f),i<=m->m<j->e items[m]=a_):Meets (BL.«list.index» ⟨[.ref l,x,.int (i:Int) t],[]⟩) (λA R s=>s.heap.get? l=b_ {cls:=.type "list",dict:=dd,data:=.seq items n,slots:=sl}/\(∀y,y∈items->EqAt A.in1 s y x (e y))/\R (.ok (.ret (.int j s.toks))) {s with toks:=s.toks+1}):=by
 intro prog w A R s h;obtain⟨hp,g,d,tk,os⟩:=s;obtain⟨hl,he,h⟩:=h;wp_walk using Q_ hl;have b1:((λq:Int=>if q<0 then max 0 (q+(↑f:Int))else q) ((b_ (i:Int)).getD 0))=((i:Nat):Int):=if_neg (Int.not_lt.mpr (Int.natCast_nonneg i));have b2:((λq:Int=>if q<0 then max 0 (q+(↑f:Int))else q) ((f_:Option Int).getD (2^63-1)))=2^63-1:=by simp
 rw[b1,b2];refine⟨RU plain_index_loop _,BK entry_index_loop ?_⟩;rw[FC plain_index_loop _];exact index_loopAt l items n dd sl x e (2^63-1) j hj Υ T5 _ i rfl U_ ϐ prog w A R _ ⟨hl,he,h⟩
structure bh(P:sN)(w:sY)(K:d_)(mg:Str->Option g_)(y:Str)(a:h_)(kvs:List (Key×V))(tab:List (Str×T)):Prop where
 mg:mg y=b_ (.ref a)sys:(a==B')=a_
 obj:∃o es ep vs,K.lookup a=b_ o/\o.ExactDict/\o.data=.dict es ep/\KeysOf (zP P w) es/\Pairs (zP P w) es.toList vs/\(vs.map (·.1)).Nodup/\KV kvs vs
 rel:∀(F:h_->Prop)(H:Hp)(z:Str),(∀t,tab.lookup z=b_ t->∃v,jH kvs (.inr z)=b_ v/\Is K F H t v)/\(tab.lookup z=f_->jH kvs (.inr z)=f_)
def bh.of(D:bh X.prog X.w X.K X.mg y a kvs tab)(I:zu X pins σ H s):∃vs,KV kvs vs/\s.heap.DictOf (zP X.prog X.w) a vs:=by obtain⟨o,es,ep,vs,h1,h2,h3,h4,h5,h6,h7⟩:=D.obj;exact⟨vs,h7,o,es,ep,I.kIn a o h1,h2,h3,h4,h5,h6⟩
def HN(kvs:List (Key×V))(ty:TE):TE:=λσ H Q=>ty σ H λu H1=>∃k v,u=kV k/\jH kvs k=b_ v/\Q v H1
section
variable{P:sN}{w:sY}{K:d_}{mg:Str->Option g_}{base:w_}
def QC:MF:=λ_=>.bad
theorem jc.never{x:Str}{st:A2}{ps:List Str}{k:Nat}(F:zH K mg x st)(hb:∀(kV Sq pm:g_)(an:Option h_)(Sg ct:g_)(us:List g_),↑h=↑l->Of (A9 x x (jQ st) (j4 st) (za st) .none kV Sq pm an Sg ct) ⟨us,[]⟩=pure (ps.zip us)):jc P w K mg base k x ps QC:=by
 obtain⟨f,fd,F,e⟩:=F;refine⟨f,fd,⟨λvs H Q E h=>?_,λA outer s H args us vs Q E _ _ _ _ h=>?_⟩,e,F.kp,F.binds hb⟩;·obtain⟨_,_,_,_,nb,_⟩:=h;exact absurd rfl nb
 ·obtain⟨_,_,_,_,nb,_⟩:=h;exact absurd rfl nb
end
end L3
namespace L2
open PySem PySem.Spec PyProof.Rows
def X6(J:Nat->l_->Prop)(one:∀k s,J k s->o_ (q_ P w) A (RL Ρ) (λr s1=>match r with|none=>Z (.ok .next) s1|some v=>o_ (q_ P w) A (AB tg Ρ v) (λ_ s2=>o_ (q_ P w) A (J' tg env v) (λ_ s3=>o_ (q_ P w) A (forIn Sl e_ λc r=>if r=e_ then do let ok<-isTrue c env (x_ c env);pure (By ok)else pure (By r)) (λok s4=>if ok=e_ then o_ (q_ P w) A (x_ Ss env) (λy s5=>o_ (q_ P w) A (call (.builtin "list.append") [Sk,y]) (λ_ s6=>∃m,m<k/\J m s6) (notedBy (q_ P w) A env λe z=>Z (.error e) z) s5) (notedBy (q_ P w) A env λe z=>Z (.error e) z) s4 else∃m,m<k/\J m s4) (notedBy (q_ P w) A env λe z=>Z (.error e) z) s3) (notedBy (q_ P w) A env λe z=>Z (.error e) z) s2) (notedBy (q_ P w) A env λe z=>Z (.error e) z) s1) (notedBy (q_ P w) A env λe z=>Z (.error e) z) s)(k:Nat)(h:J k s):FX (q_ P w) A (.compLoop ↑I 0 Ρ Sk env) Z s:=by refine codeAny_loop rfl J (λk s hJ=>?_) k h;show o_ (q_ P w) A ((compTurn ↑I 0 Ρ Sk env).onRaise λx=>do ON x env;theTreesLotGoes x) _ _ s;apply wpAny_noted;rw[compTurn_list];refine c_ (BG (c_ (sQ (one k s hJ) (λr s1 g1=>?_) λ_ _ z=>z)));cases r with|none=>exact i_ g1|some v=>refine c_ (sQ g1 (λ_ s2 g2=>?_) λ_ _ z=>z);refine c_ (sQ g2 (λ_ s3 g3=>c_ (sQ g3 (λok s4 g4=>?_) λ_ _ z=>z)) λ_ _ z=>z);cases ok with|false=>exact i_ ⟨rfl,g4⟩|true=>exact c_ (c_ (sQ g4 (λy s5 g5=>c_ (sQ g5 (λ_ s6 g6=>i_ (i_ ⟨rfl,g6⟩)) λ_ _ z=>z)) λ_ _ z=>z))
structure rH(X:Cx)(scope:FI)(cl:List (Str×h_))(xs caps:List Str)(slots:List Nat):Prop where
 kind:scope.kind=.function
 nocell:∀y∈scope.names,y.2≠.cell
 names:∀y∈scope.names,y.2=.local->scope.names.lookup y.1=b_ .local
 clos:closureFor scope X.env=pure cl
 sub:∀y c,cl.lookup y=b_ c->X.env.cells.lookup y=b_ c
 has:∀y,((relabel scope X.env).names.lookup y=b_ .cell\/(relabel scope X.env).names.lookup y=b_ .free)->∃c,cl.lookup y=b_ c
 cap:∀(j:Nat)(y:Str),caps[j]?=b_ y->∃k:Nat,slots[j]?=b_ k/\X.N[k]?=b_ y/\(relabel scope X.env).names.lookup y=b_ .cell/\X.env.scope.names.lookup y=b_ .cell
 nd:(xs++caps).Nodup
 len:slots.length=caps.length
def iS(wi:TI)(g:TG)(tt:TT)(te:TE)(n:Nat)(slots:List Nat):TE:=λσ H Q=>wi σ H λJ H1=>∀D,H1 D=f_->∃W:Nat->Nat->List V->St->Hp->Prop,(∃m,W 0 m [] (sO n f_++gi σ slots) (zO H1 D (.lst [])))/\∀i m ys τ H,W i m ys τ H->H D=b_ (.lst ys)/\((J.stop i H/\Q (.ref D) H)\/(J.go i H/\∀v H',J.yld i H v H'->g v τ H' λτ' H1=>tt τ' H1 λb H2=>if b=e_ then te τ' H2 λy H3=>H3 D=b_ (.lst ys)/\ys.length<j_/\∃m',m'<m/\W (i+1) m' (ys++[y]) τ' (zO H3 D (.lst (ys++[y])))else∃m',m'<m/\W (i+1) m' ys τ' H2))
def bn(I:zu X pins σ H s)(h:iS wi g tt te ↑e slots σ H Q)(fin:∀D C H5 s6 m,s6.heap.Ns C m->uD X pins H5 C->(∀h',Bx C s6.heap h'->zu X pins σ H5 {s6 with heap:=h'})->Q (.ref D) H5->compPost ↑n X.A X.xe use PQ (.ref D) C (.ok .next) s6)(hc:X.calm=e_)(S:rH X scope cl xs caps slots)(hi:PI X tg Sd wi)(pg:∀C ex pn s₀ H₀,PG ↑s tg g)(ht:∀C ex pn s₀ H₀,V2 ↑s Sl tt)(he:∀C ex pn s₀ H₀,PE ↑s Ss te)(hs:∀v,u_ Sd X.env v=pure v:=by intro _;rfl):o_ ↑n X.A (RQ ↑I scope X.env cpos (newList []) a_ (x_ Sd X.env) use) PQ X.xe s:=by
 refine RR rfl hs S.clos S.kind S.names (jk (hi pins s σ H _ I h) λv s1 h1=>jk h1 λΡ s2 h2=>?_);obtain⟨it,fp,tn,J,H1,e,I2,T,st2,f2,q⟩:=h2;subst e--the new list,at D;then the block's map,at C
 obtain⟨W,⟨m0,w0⟩,turn⟩:=q s2.heap.objs.size (I2.hok.fresh (r_ _));refine AJ ?_ (show(0:Nat)<=j_ from A5 _);have I3:zu X pins σ (zO H1 s2.heap.objs.size (.lst [])) {s2 with heap:=s2.heap.push {cls:=.type "list",data:=.seq ([]:List g_).toArray}}:=I2.lnew .nil (A5 _);have f3:∀b∈fp,uD X pins (zO H1 s2.heap.objs.size (.lst [])) b:=λb hb=>by obtain⟨f0,fr⟩:=f2 b hb;obtain⟨o,ho,_⟩:=T.obj _ _ st2 b hb;exact⟨by rw[zg (su (n_ ho))];exact f0,fr⟩
 have Ti:tn 0 (s2.heap.push {cls:=.type "list",data:=.seq ([]:List g_).toArray}):=T.keep _ _ _ st2 λb _ o e=>f' _ e;generalize hD:s2.heap.objs.size=D at I3 turn w0 f3⊢;generalize Ϛ:({s2 with heap:=s2.heap.push {cls:=.type "list",data:=.seq ([]:List g_).toArray}}:l_)=s3 at I3⊢;have Ti:tn 0 s3.heap:=by rw[<-Ϛ];exact Ti
 generalize hH3:zO H1 D (.lst [])=H3 at I3 w0 f3;refine wpAny_newFunctionEnv S.nocell (by intro y hy;simp at hy) (λh4 Tw Tr=>?_) S.kind;generalize hC:s3.heap.objs.size=C at Tw Tr⊢;have SW:∀b o,s3.heap.get? b=b_ o->b≠C:=λb o e=>by rw[<-hC];exact su (n_ e)
 have Sh:∀b o,s3.heap.get? b=b_ o->h4.get? b=b_ o:=λb o e=>Tr.extBut b o (SW b o e) (f' _ e);have fpo:∀b∈fp,∃o,s3.heap.get? b=b_ o:=λb hb=>let⟨o,ho,_⟩:=T.obj _ _ Ti b hb;⟨o,ho⟩;have Ϧ:∀b∈fp,b∉dE X.stack:=λb hb z=>(sB.mp (I3.stkSub b z)).elim (f3 b hb).2.1 (f3 b hb).2.2.1;have ok:(zq X scope cl C (xs++caps) fp (X.pn++pins) s3 H3).Ok:=
  {mod:=I3.ok.mod
   kind:=S.kind
   glob:=I3.ok.glob
   blt:=I3.ok.blt
   above:=by rw[<-hC];exact r_ _
   inj:=λy z c h1 h2=>I3.ok.inj y z c (S.sub y c h1) (S.sub z c h2)
   has:=λy hy=>S.has y hy
   cab:=λy c h=>nomatch(show a_=e_ from h)
   hd:=I3.ok.hd
   frames:=I3.ok.frames
   stk:=.inl rfl
   exf:=λb hb=>⟨let⟨o,ho⟩:=fpo b hb;SW b o ho,λy c e=>(f3 b hb).2.2.2.2.1 y c (S.sub y c e)⟩
   bs:=λb o e=>I3.bs b o e
   bsz:=A6 I3.ok.bsz I3.sz
   noex:=λb o e hb=>by
    rcases(f3 b hb).2.2.2.1 with z|z;·exact I3.ok.noex b o e z
    ·exact absurd (sR (n_ (I3.ok.bs b o e).1) z) (BQ _)
   exfs:=Ϧ
   funs:=I3.stack
   frf:=I3.stkFree
   tab:=I3.tab};have I4:∀tk,zu ↑ag [] (sO ↑e f_++gi σ slots) H3 {s3 with heap:=h4,toks:=tk}:=λtk=>by
  refine⟨ok,rfl,I3.bare,Un.kept Sh,⟨_,Tw,λi y v h1 h2 h3=>?_⟩,λy c e=>?_,by show H3 C=f_;rw[<-hC];exact I3.hok.fresh (r_ _),λy c e=>I3.freeC y c (S.sub y c e),λp hp=>?_,I3.hok.kept Sh,?_⟩
  ·have Si:¬i<↑e:=λz=>by rw[Aw (by simpa using z),BY,if_pos z]at h2;cases h2
   obtain⟨i,rfl⟩:∃j,i=↑e+j:=⟨i-↑e,by omega⟩;have h1:(xs++caps)[↑e+i]?=b_ y:=h1;rw[Au ↑p,FS]at h1;rw[Au (by rw[Ao];omega),Ao,FS]at h2;obtain⟨k,hk,hN,hr,So⟩:=S.cap i y h1;have h2:(slots.map λk=>(σ[k]?).getD f_)[i]?=b_ (b_ v):=h2;rw[sI,hk]at h2;have h2:(σ[k]?).getD f_=b_ v:=sF h2;have h2:σ[k]?=b_ (b_ v):=by cases e:σ[k]? with|none=>rw[e]at h2;cases h2|some o=>rw[e]at h2;have:o=b_ v:=h2;rw[this]
   obtain⟨m,hn,hl⟩:=I3.loc;obtain⟨u,r,l⟩:=hl k y v hN h2 (.inr (.inl So));refine⟨u,r,.inr ⟨.inl hr,?_⟩⟩;rcases l with⟨z,_⟩|⟨_,c,e1,⟨o,ho,hd⟩⟩;·have z:X.env.scope.names.lookup y=b_ .local:=z;rw[So]at z;cases z
   ·obtain⟨c',e2⟩:=S.has y (.inl hr);have e3:=S.sub y c' e2;rw[e1]at e3;cases e3;exact⟨c,e2,o,Sh _ _ ho,hd⟩
  ·obtain⟨v,o,ho,hd⟩:=I3.cell y c (S.sub y c e);exact⟨v,o,Sh _ _ ho,hd⟩
  ·have hp:p∈(X.pn++pins)++[]:=hp;have hp:p∈X.pn++pins:=by simpa using hp
   obtain⟨e,n,ne,nf,d⟩:=I3.pin p hp;exact⟨Sh _ _ e,n,SW _ _ e,λz=>(sB.mp (I3.stkSub _ z)).elim ne nf,d⟩
  ·show(sO ↑e f_++gi σ slots).length=(xs++caps).length;unfold gi;rw[sj,sj,j',Ao,S.len]
 have SR:∀{H':Hp},(∀b∈fp,H' b=f_)->∀b∈fp,uD ↑ag [] H' b:=λhn b hb=>⟨hn b hb,(ok.exf b hb).1,Ϧ b hb,.inl hb,(ok.exf b hb).2,λp hp=>(f3 b hb).2.2.2.2.2 p (by have hp:p∈(X.pn++pins)++[]:=hp;simpa using hp)⟩;have loop:∀tk,FX ↑n X.A (.compLoop ↑I 0 (.ref it) (.ref D) (compEnvC scope cl C X.env)) (compPost ↑n X.A X.xe use PQ (.ref D) C) {s3 with heap:=h4,toks:=tk}:=by
  intro tk;refine X6 (λn s'=>∃i ys τ H',zu ↑ag [] τ H' s'/\tn i s'.heap/\(∀b∈fp,H' b=f_)/\W i n ys τ H') ?_ m0 ⟨0,[],_,H3,I4 tk,T.keep _ _ _ Ti λb _ o e=>Sh b o e,λb hb=>(f3 b hb).1,w0⟩;rintro n s5⟨i,ys,τ,H5,I5,st5,fr5,w5⟩;obtain⟨hDl,stop|⟨go,step⟩⟩:=turn i n ys τ H5 w5
  ·obtain⟨stop,qD⟩:=stop;refine sQ (T.done ↑ag rfl rfl rfl hc i [] s5 _ H5 (λ_ _=>False) I5 (SR fr5) st5 stop) (λr s6 Ψ=>?_) λ_ _ z=>z.elim;obtain⟨hr,I6⟩:=Ψ;subst hr;obtain⟨m,hn,_⟩:=I6.loc;refine fin D C H5 s6 m hn (I3.fpOk (by rw[<-hC];exact r_ _) I6.free) (λh' SN=>?_) qD;have Tx:∀c v,H5 c=b_ v->c≠C:=λc v e z=>by have:=I6.free;have:H5 C=f_:=this;rw[z,this]at e;cases e
   refine I3.call' I6.os ?_ ?_ I6.bare λb hb=>⟨(f3 b hb).2.2.2.1,(f3 b hb).2.1,(f3 b hb).2.2.2.2.1,(f3 b hb).2.2.2.2.2⟩;·have u:=I6.base;exact⟨λb o e n hb hx=>SN.extBut b o (SW b o e) (u.keep b o e n hb hx),λb o e n hb hx=>let⟨sl,q⟩:=u.slot b o e n hb hx;⟨sl,SN.extBut b _ (SW b o e) q⟩,u.free,λb o e hx=>let⟨o',q⟩:=u.there b o e hx;⟨o',SN.extBut b _ (SW b o e) q⟩,u.tups,u.frzs,u.tbls⟩
   ·exactλb u e=>(I6.hok b u e).stay (λc v hc q=>SN.extBut c v (hc.elim (λz=>by rw[z];exact Tx b u e) λz=>Tx c _ z) q) (λ_ q=>q) λ_ _ q=>q
  ·refine sQ (T.item ↑ag rfl rfl rfl hc i [] s5 _ H5 (λ_ _=>False) I5 (SR fr5) st5 go) (λr s6 Ψ=>?_) λ_ _ z=>z.elim;obtain⟨u,hr,h6⟩:=Ψ;subst hr;refine sQ h6 (λ_ s7 h7=>?_) λ_ _ z=>z.elim;obtain⟨v,H7,I7,r7,y7,st7,fr7⟩:=h7;have I7':=I7.pinned (SR fr7) (T.obj _ _ st7);refine sQ (pg C fp (X.pn++pins) s3 H3 _ s7 _ H7 v u _ I7' r7 (step v H7 y7)) (λ_ s8 h8=>?_) λ_ _ z=>z.elim;obtain⟨σ8,H8,I8,q8⟩:=h8;refine sQ (ht C fp (X.pn++pins) s3 H3 _ s8 _ _ _ I8 q8) (λb s9 h9=>?_) λ_ _ z=>z.elim;obtain⟨H9,I9,q9⟩:=h9;have again:∀{o':St}{H':Hp}{s':l_}{zs:List V}{m':Nat},zu ↑ag ([]++iF fp s7.heap) o' H' s'->m'<n->W (i+1) m' zs o' H'->∃m,m<n/\∃i ys o H',zu ↑ag [] o H' s'/\tn i s'.heap/\(∀b∈fp,H' b=f_)/\W i m ys o H':=λ{o' H' s' zs m'}I' hm w'=>by refine⟨m',hm,i+1,zs,o',H',I'.unpinned,T.keep _ _ _ st7 λb hb o e=>(I'.pin (b,o) (sy _ (sy _ (xU hb e)))).1,λb hb=>?_,w'⟩;obtain⟨o,e,d⟩:=T.obj _ _ st7 b hb;exact(I'.pin (b,o) (sy _ (sy _ (xU hb e)))).2.1
   cases b with|false=>rw[if_neg sM]at q9⊢;obtain⟨m',hm,w'⟩:=q9;exact again I9 hm w'|true=>rw[if_pos rfl]at q9⊢;refine sQ (he C fp (X.pn++pins) s3 H3 _ s9 _ _ _ I9 q9) (λyv s10 h10=>?_) λ_ _ z=>z.elim;obtain⟨y,H10,I10,ry,hDy,Si,m',hm,w'⟩:=h10;refine sQ (xE (X:=zq X scope cl C (xs++caps) fp (X.pn++pins) s3 H3) _ s10 _ H10 (.ref D) [y] (.ref D) [yv] (λ_ H'=>H'=zO H10 D (.lst (ys++[y]))) I10 rfl (.cons ry .nil) ⟨D,ys,y,rfl,rfl,hDy,Si,rfl⟩) (λ_ s11 h11=>?_) λ_ _ z=>z.elim;obtain⟨_,H11,I11,_,e11⟩:=h11;subst e11;exact again I11 hm w'
 exact codeAny_compStart_list (loop _) (T.self X.A 0 _ _ _ (T.keep _ _ _ Ti λb _ o e=>Sh b o e) (loop _))
end L2
namespace L3
open PySem PySem.Spec PyProof.Rows L2
def pV(K:d_)(F:h_->Prop)(H:Hp)(J:It)(ts:List T):Prop:=∀F2 H2,aq F2 H2->gx F F2 H H2->∀i:Nat,(i<↑c->J.go i H2/\∀x H3,J.yld i H2 x H3->jB F2 H2 F2 H3/\∃t,ts[i]?=b_ t/\Is K F2 H3 t x)/\(↑c<=i->J.stop i H2)
def uP.two{K:d_}{F:h_->Prop}{H:Hp}{J:It}{ts:List T}(y:uP K F H J ts):pV K F H J ts:=λF2 H2 d k i=>by obtain⟨a,b⟩:=y F2 H2 k i;refine⟨λhi=>⟨(a hi).1,λx H3 z=>?_⟩,b⟩;obtain⟨rfl,r⟩:=(a hi).2 x H3 z;exact⟨.refl d,r⟩
def HP(X:Cx)(wi:TI)(it:MI):Prop:=∀(B:Bs)(F:h_->Prop)(H:Hp)(σ:St)(env:En)(R:It->Hp->Prop),zN X.K B F H σ env->it env≠.bad->(∀ts Sc,it env=.ok (ts,Sc)->∀J F' H',zN X.K B F' H' σ Sc->pV X.K F' H' J ts->R J H')->(∀x,it env=.exc x->∀ev F' H',zN X.K B F' H' σ env->KG X.K F' H' ev x->∀pins s',db X ev pins σ H' s'->X.xe ev s')->wi σ H R
def Lg(X:Cx)(tg Sd:A1)(it:MI):Prop:=∃wi,PI X tg Sd wi/\HP X wi it
def QD(X:Cx)(wi:TI)(it:rp):Prop:=∀(F:h_->Prop)(H:Hp)(σ:St)(env:En)(R:It->Hp->Prop),xV X.K F H σ env->it env≠.bad->(∀ts,it env=.ok ts->∀J F' H',jB F H F' H'->pV X.K F' H' J ts->R J H')->(∀x,it env=.exc x->XV X F H σ x)->wi σ H R
def Jg(X:Cx)(tg Sd:A1)(it:rp):Prop:=∃wi,PI X tg Sd wi/\QD X wi it
def YW.two(h:YW X tg Sd it):Jg X tg Sd it:=let⟨wi,p,s⟩:=h;⟨wi,p,λF H σ env R a b c d=>s F H σ env R a b (λts e J F' H' r y=>c ts e J F' H' r y.two) d⟩
def QE(hp:Rk ↑n X.A X.env X.xe)(hc:X.calm=e_)(hi:Lg X tg Sd it)(hg:VW X tg g)(hb:uL X body mb)(hs:∀x,u_ Sd X.env x=pure x:=by intro _;rfl):eF X (.For tg Sd body [] pos) (kj it g mb):=by
 obtain⟨wi,pi,si⟩:=hi;obtain⟨ϝ,pg,sg⟩:=hg;obtain⟨tb,pb,sb⟩:=hb;refine⟨_,oI hp hc pi pg pb hs,?_⟩;intro B F H σ env D R w;unfold kj at w;refine si B F H σ env _ R (λz=>by rw[z]at w;exact w) (λts Sc e J F1 H1 R1 Y=>?_) λx e ev F' H' R' i pins s' I=>by rw[e]at w;exact w ev F' H' σ R' i pins s' I
 rw[e]at w;dsimp only at w;have f1:=R1.fr;refine⟨λi m σ H=>m=↑c-i/\i<=↑c/\∃F env,zN X.K (B.at_ F1 H1) F H σ env/\gg X B D (jv g mb (ts.drop i) env),⟨↑c,by simp,A5 _,F1,Sc,R1.rebase,by simpa using w⟩,?_⟩;rintro i m σ2 H2⟨rfl,hi,F2,Sm,R2,w2⟩;obtain⟨yg,ys⟩:=Y F2 H2 R2.fr.dom R2.fr.kept i;by_cases Si:i<↑c
 ·obtain⟨go,yl⟩:=yg Si;refine .inr ⟨go,λσ' H'=>∃F env,zN X.K (B.at_ F1 H1) F H' σ' env/\gg X B D (jv g mb (ts.drop (i+1)) env),λσ' H'⟨F',e',R',w'⟩=>⟨↑c-(i+1),by omega,rfl,Si,F',e',R',w'⟩,λx H3 y=>?_⟩;obtain⟨xt,t,ht,it⟩:=yl x H3 y;have R2:=R2.ext xt;have hd:ts.drop i=t::ts.drop (i+1):=by
   rw[Ax Si];have:ts[i]?=b_ ts[i]:=by simp[Si]
   rw[this]at ht;cases ht;rfl
  rw[hd,jv]at w2;cases hg:g t Sm with|none=>rw[hg]at w2;exact w2.elim|some e1=>rw[hg]at w2;dsimp only at w2;refine sg _ F2 H3 σ2 Sm e1 x t _ R2 it hg λσ3 R3=>?_;refine sb _ F2 H3 σ3 e1 _ R3 ?_;cases ho:mb e1 with|nx e2=>rw[ho]at w2;exactλF4 H4 σ4 R4=>⟨F4,e2,R4,w2⟩|ct e2=>rw[ho]at w2;exactλF4 H4 σ4 R4=>⟨F4,e2,R4,w2⟩|bk e2=>rw[ho]at w2;exactλF4 H4 σ4 R4=>w2 F4 H4 σ4 (R4.unbase f1)|rt r=>rw[ho]at w2;exactλv F4 H4 R4=>w2 v F4 H4 (R4.unbase f1)|exc x e2=>rw[ho]at w2;exactλev F4 H4 σ4 R4=>w2 ev F4 H4 σ4 (R4.unbase f1)|bad=>rw[ho]at w2;exact w2.elim
 ·have hl:i=↑c:=by omega
  subst hl;rw[Fh]at w2;exact .inl ⟨ys (r_ _),w2 F2 H2 σ2 (R2.unbase f1)⟩
def xf(mg:MG)(mt:MT)(me:ME):En->List T->gd (List T)|_,[]=>.ok []|env,t::ts=>match mg t env with|none=>.bad|some e1=>match mt (hide e1)with|.ok e_=>(match me (hide e1)with|.ok r=>(match xf mg mt me (hide e1) ts with|.ok rs=>.ok (r.2::rs)|_=>.bad)|_=>.bad)|.ok a_=>xf mg mt me (hide e1) ts|_=>.bad
def j9(it:rp)(mg:MG)(mt:MT)(me:ME)(n:Nat)(slots:List Nat):ME:=λenv=>(it env).bind λts=>if ↑c<=j_ then(match xf mg mt me (sO n f_++(gO env slots).map frz1) ts with|.ok rs=>.ok (e_,.lst rs)|_=>.bad)else .bad
def tT(env:En):∀(i:Nat)(t:T),(hide env)[i]?≠b_ (b_ (e_,t)):=λi t h=>by obtain⟨u,e,_⟩:=ZS h;cases e
def xV.stm{K:d_}{F:h_->Prop}{H:Hp}{σ:St}{env:En}(R:xV K F H σ env)(hl:env.length=σ.length)(hn:∀(i:Nat)(t:T),env[i]?≠b_ (b_ (e_,t))):zN K ⟨λ_=>False,H,F⟩ F H σ env:=⟨⟨R.dom,λ_ h=>h,λ_ h=>.inl h,λ_ _ h _=>h,λ_ _ z=>z⟩,hl,λi t h=>R.vals i (a_,t) h,λi t h=>absurd h (hn i t),λi j t t' a h _ _ _=>absurd h (hn i t)⟩
section
variable{X:Cx}{scope:FI}{cl:List (Str×h_)}{xs caps:List Str}{slots:List Nat}{Sd Ss tg:A1}{Sl:List A1}{pos:Pos}{it:rp}{mg:MG}{mt:MT}{me:ME}
def DI(X:Cx)(scope:FI)(cl:List (Str×h_))(N:List Str)(Sl:List A1)(m:MT):Prop:=∃t,∀C ex pn s₀ H₀,V2 ↑W Sl t/\tH ↑W t m
def Bc(X:Cx)(scope:FI)(cl:List (Str×h_))(N:List Str)(e:A1)(m:ME):Prop:=∃t,∀C ex pn s₀ H₀,PE ↑W e t/\eD ↑W t m
def Bd(X:Cx)(scope:FI)(cl:List (Str×h_))(N:List Str)(e:A1)(m:MG):Prop:=∃g,∀C ex pn s₀ H₀,PG ↑W e g/\V7 ↑W g m
theorem X7(h:∀C ex pn s₀ H₀,jb ↑W e m):Bc X scope cl N e m:=by
 refine⟨λσ H Q=>∀C ex pn s₀ H₀,∃t,PE ↑W e t/\t σ H Q,λC ex pn s₀ H₀=>⟨λpins s σ H Q I w=>?_,λF H σ env Q R nb ok T6 C' Tb pn' s₀' H₀'=>?_⟩⟩;·obtain⟨t,p,w⟩:=w C ex pn s₀ H₀;exact p pins s σ H Q I w
 ·obtain⟨t,p,s⟩:=h C' Tb pn' s₀' H₀';exact⟨t,p,s F H σ env Q R nb ok λy z=>(T6 y z).elim⟩
theorem X8(h:∀C ex pn s₀ H₀,ay ↑W Sl m):DI X scope cl N Sl m:=by
 refine⟨λσ H Q=>∀C ex pn s₀ H₀,∃t,V2 ↑W Sl t/\t σ H Q,λC ex pn s₀ H₀=>⟨λpins s σ H Q I w=>?_,λF H σ env Q R nb ok T6 C' Tb pn' s₀' H₀'=>?_⟩⟩;·obtain⟨t,p,w⟩:=w C ex pn s₀ H₀;exact p pins s σ H Q I w
 ·obtain⟨t,p,s⟩:=h C' Tb pn' s₀' H₀';exact⟨t,p,s F H σ env Q R nb ok λy z=>(T6 y z).elim⟩
theorem X9(h:∀C ex pn s₀ H₀,VW ↑W e m):Bd X scope cl N e m:=by
 refine⟨λv σ H Q=>∀C ex pn s₀ H₀,∃g,PG ↑W e g/\g v σ H Q,λC ex pn s₀ H₀=>⟨λpins s σ H v u Q I rv w=>?_,λB F H σ env Sc v t Q R iv e q C' Tb pn' s₀' H₀'=>?_⟩⟩;·obtain⟨g,p,w⟩:=w C ex pn s₀ H₀;exact p pins s σ H v u Q I rv w
 ·obtain⟨g,p,s⟩:=h C' Tb pn' s₀' H₀';exact⟨g,p,s B F H σ env Sc v t Q R iv e q⟩
theorem Jh{K:d_}{F:h_->Prop}{H:Hp}{σ:St}{env:En}{n:Nat}(R:xV K F H σ env):xV K F H (sO n f_++gi σ slots) (sO n f_++(gO env slots).map frz1):=by
 refine⟨R.dom,λi r h=>?_⟩;have Si:¬i<n:=λz=>by rw[Aw (by simpa using z),BY,if_pos z]at h;cases h
 obtain⟨i,rfl⟩:∃j,i=n+j:=⟨i-n,by omega⟩;rw[Au (by rw[Ao];omega),Ao,FS]at h;rw[Au (by rw[Ao];omega),Ao,FS];rw[sI]at h;unfold gO at h;rw[sI]at h;cases hk:slots[i]? with|none=>rw[hk]at h;cases h|some k=>rw[hk]at h;have h:frz1 ((env[k]?).getD f_)=b_ r:=sF h;cases e:env[k]? with|none=>rw[e]at h;cases h|some o=>rw[e]at h;cases o with|none=>cases h|some q=>obtain⟨b,t⟩:=q;cases h;obtain⟨w,sw,q⟩:=R.vals k (b,t) e;refine⟨w,?_,q⟩;unfold gi;rw[sI,hk];show b_ ((σ[k]?).getD f_)=b_ (b_ w);rw[sw];rfl
theorem Ji:(sO n f_++(gO env slots).map frz1:En).length=(sO n f_++gi σ slots:St).length:=by simp[gO,gi]
theorem Jj:∀(i:Nat)(t:T),(sO n f_++(gO env slots).map frz1:En)[i]?≠b_ (b_ (e_,t)):=λi t h=>by
 by_cases z:i<n;·rw[Aw (by simpa using z),BY,if_pos z]at h;cases h
 ·rw[Au (by rw[Ao];omega),sI]at h;cases e:(gO env slots)[i-(sO n (f_:Option RV)).length]? with|none=>rw[e]at h;cases h|some o=>rw[e]at h;cases o with|none=>cases h|some q=>obtain⟨b,u⟩:=q;cases h
theorem tU(si:QD X wi it)(sg:V7 ↑Q g mg)(st:tH ↑Q tt mt)(se:eD ↑Q te me):xW X (iS wi g tt te ↑e slots) (j9 it mg mt me ↑e slots):=by
 intro F H σ env Q RE nb ok T6;unfold j9 at nb ok T6;refine si F H σ env _ RE ↑m (λts e1 J F1 H1 x1 Y=>?_) λx z=>T6 x ↑D;rw[e1,bind_ok]at nb ok;by_cases hl:↑c<=j_;·rw[if_pos hl]at nb ok;have R0:xV X.K F1 H1 (sO ↑e f_++gi σ slots) (sO ↑e f_++(gO env slots).map frz1):=Jh (RE.mono x1);have L0:=Ji (slots:=slots) (σ:=σ) (env:=env) (n:=↑e);have N0:=Jj (slots:=slots) (env:=env) (n:=↑e);generalize(sO ↑e f_++(gO env slots).map frz1:En)=env0 at R0 L0 N0 nb ok;cases So:xf mg mt me env0 ts with|bad=>rw[So]at nb;exact absurd rfl nb|exc y=>rw[So]at nb;exact absurd rfl nb|ok out=>
   rw[So]at ok;intro D hD;refine⟨λi m ys τ H=>m=↑c-i/\i<=↑c/\ys.length<=i/\H D=b_ (.lst ys)/\∃Fc us rest en,¬Fc D/\jB F1 H1 Fc H/\IsAll X.K Fc H us ys/\xV X.K Fc H τ en/\en.length=τ.length/\(∀(i:Nat)(t:T),en[i]?≠b_ (b_ (e_,t)))/\xf mg mt me en (ts.drop i)=.ok rest/\us++rest=out,⟨↑c,by simp,A5 _,r_ _,zm,F1,[],out,env0,λf=>x1.dom D f hD,jB.alloc x1.dom hD,IsAll.nil,R0.mono (jB.alloc x1.dom hD),L0,N0,by simpa using So,rfl⟩,?_⟩;rintro i m ys τ H2⟨rfl,hi,hyl,hHD,Fc,us,rest,en,nD,xc,iu,RC,LC,NC,Sb,hout⟩;refine⟨hHD,?_⟩;obtain⟨yg,ysp⟩:=Y Fc H2 RC.dom xc.kept i;by_cases Si:i<↑c
   ·obtain⟨go,yl⟩:=yg Si;refine .inr ⟨go,λv H3 y=>?_⟩;obtain⟨xt,t,hti,iv⟩:=yl v H3 y;have hHD:=xt.same D _ hHD;have xc:=xc.trans xt;have iu:=iu.mono xt.kept;have RC:=RC.mono xt;have hd:ts.drop i=t::ts.drop (i+1):=by
     rw[Ax Si];have:ts[i]?=b_ ts[i]:=by simp[Si]
     rw[this]at hti;cases hti;rfl
    rw[hd,xf]at Sb;cases hg:mg t en with|none=>rw[hg]at Sb;cases Sb|some e2=>
    rw[hg]at Sb;dsimp only at Sb;refine sg _ Fc H3 τ en e2 v t _ (RC.stm LC NC) iv hg λτ' R'=>?_;have RH:xV X.K Fc H3 τ' (hide e2):=R'.hid;have LH:(hide e2).length=τ'.length:=by unfold hide;rw[j'];exact R'.len
    have NH:=tT e2;generalize hide e2=en2 at RH LH NH Sb;have SM:∀{F':h_->Prop}{H':Hp},jB Fc H3 F' H'->¬F' D/\H' D=b_ (.lst ys):=by
     intro F' H' xt;refine⟨λf=>?_,xt.same D _ hHD⟩;rcases xt.new D f with f|f;·exact nD f
     ·rw[hHD]at f;cases f
    refine st Fc H3 _ _ _ RH (λz=>by rw[z]at Sb;cases Sb) (λb eb F4 H4 x4=>?_) λy z=>by rw[z]at Sb;cases Sb
    rw[eb]at Sb;cases b with|false=>rw[if_neg sM];dsimp only at Sb;obtain⟨n4,d4⟩:=SM x4;exact⟨↑c-(i+1),by omega,rfl,Si,by omega,d4,F4,us,rest,en2,n4,xc.trans x4,iu.mono x4.kept,RH.mono x4,LH,NH,Sb,hout⟩|true=>
     rw[if_pos rfl];dsimp only at Sb;refine se.val (RH.mono x4) (λz=>by rw[z]at Sb;cases Sb) (λr er w F5 H5 x5 iw=>?_) λy z=>by rw[z]at Sb;cases Sb
     rw[er]at Sb;dsimp only at Sb;cases hcl2:xf mg mt me en2 (ts.drop (i+1))with|bad=>rw[hcl2]at Sb;cases Sb|exc y=>rw[hcl2]at Sb;cases Sb|ok rest2=>
      rw[hcl2]at Sb;have hr:r.2::rest2=rest:=by injection Sb
      obtain⟨n5,d5⟩:=SM (x4.trans x5);have x15:=(xc.trans x4).trans x5;have ku:gx F5 F5 H5 (zO H5 D (.lst (ys++[w]))):=xi n5 d5 (.inl ⟨_,rfl⟩);have xu:jB F1 H1 F5 (zO H5 D (.lst (ys++[w]))):=by
       refine⟨λa o h=>?_,x15.sub,x15.new,λa f=>?_⟩;·rw[zg (zM h hD)];exact x15.same a o h
       ·have:a≠D:=by rintro rfl;exact n5 f
        rw[zg this];exact x15.dom a f
      have R5:xV X.K F5 H5 τ' en2:=(RH.mono x4).mono x5;refine⟨d5,by omega,↑c-(i+1),by omega,rfl,Si,by rw[sj];simp;omega,zm,F5,us++[r.2],rest2,en2,n5,xu,?_,⟨xu.dom,λj q h=>?_⟩,LH,NH,hcl2,by rw[<-hout,<-hr];simp⟩;·exact((iu.mono (x4.trans x5).kept).append (IsAll.cons iw IsAll.nil)).mono ku
      ·obtain⟨v',s',i'⟩:=R5.vals j q h;exact⟨v',s',i'.mono ku⟩
   ·have hli:i=↑c:=by omega
    subst hli;rw[Fh,xf]at Sb;have hr:rest=[]:=by injection Sb with Sb;exact Sb.symm
    subst hr;rw[Ac]at hout;subst hout;refine .inl ⟨ysp (r_ _),?_⟩;refine ok _ rfl _ Fc H2 (x1.trans xc) ?_;unfold kN;rw[if_pos rfl];exact⟨D,rfl,nD,j8 x1.same hD,ys,hHD,iu⟩
 ·rw[if_neg hl]at nb;exact absurd rfl nb
end
end L3
namespace L2
open PySem PySem.Spec PyProof.Rows
def cx.more(S:cx X scope cl x caps slots)(nd:(xs++caps).Nodup):rH X scope cl xs caps slots:=⟨S.kind,S.nocell,S.names,S.clos,S.sub,S.has,S.cap,nd,S.len⟩
def Jk(hc:X.calm=e_)(S:rH X scope cl xs caps slots)(hi:PI X tg Sd wi)(pg:∀C ex pn s₀ H₀,PG ↑s tg g)(ht:∀C ex pn s₀ H₀,V2 ↑s Sl tt)(he:∀C ex pn s₀ H₀,PE ↑s Ss te)(hs:∀v,u_ Sd X.env v=pure v):PE X ↑I (iS wi g tt te ↑e slots):=by intro pins s σ H Q I h;rw[eval_ListComp];exact bn (use:=f_) I h (λD C H5 s6 m hn f keep q=>⟨m,hn,λh' SN=>⟨.ref D,H5,keep h' SN,rfl,q⟩⟩) hc S hi pg ht he hs
def QF(hN:X.N.Nodup)(Sr:X.N[i]?=b_ y)(hy:aV X.env.scope y)(hc:X.calm=e_)(S:rH X scope cl xs caps slots)(hi:PI X tg Sd wi)(pg:∀C ex pn s₀ H₀,PG ↑s tg g)(ht:∀C ex pn s₀ H₀,V2 ↑s Sl tt)(he:∀C ex pn s₀ H₀,PE ↑s Ss te)(Y':BA ↑I (b_ (.Name y py)) spos.line X.env=pure e_)(hs:∀v,u_ Sd X.env v=pure v)(hf:X.fn y=e_\/X.env.scope.names.lookup y=b_ .local):PS X (.Assign [.Name y py] ↑I spos) (oH (iS wi g tt te ↑e slots) (qJ i)):=by intro pins s σ H D I h;rw[exec_Assign_Name_used _ _ _ _ Y'];refine c_ (BG (c_ ?_));show o_ _ X.A (do let _<-RQ ↑I scope X.env _ (newList []) a_ (x_ Sd X.env) (b_ (J' (.Name y py) X.env))) _ _ s;refine c_ (sQ (bn (use:=b_ (J' (.Name y py) X.env)) (PQ:=λ_ s'=>∃σ' H',zu X pins σ' H' s'/\D.nx σ' H') I h (λDa C H5 s6 m hn f inv q=>?_) hc S hi pg ht he hs) (λ_ s' hq=>i_ (i_ hq)) λ_ _ e=>e);show o_ _ X.A (J' (.Name y py) X.env (.ref Da)) _ _ s6;have I6:zu X pins σ H5 s6:=inv s6.heap (Bx.refl _ _);obtain⟨o,es,ep,ho,hd,hr⟩:=hn;have I6':=I6.pinned (fp:=[C]) (λb hb=>by rw[sC.mp hb];exact f) (λb hb=>by rw[sC.mp hb];exact⟨o,ho,λv z=>by rw[hd]at z;cases z⟩);have pg:PG X (.Name y py) (qJ i):=pM hN Sr hy hf;refine sQ (pg _ s6 _ H5 (.ref Da) (.ref Da) D.nx I6' rfl q) (λ_ s8 h8=>?_) λ_ _ z=>z;obtain⟨σ8,H8,I8,q8⟩:=h8;have hp:=I8.pin (C,o) (sy _ (sy _ (xU (sC.mpr rfl) ho)));exact⟨m,⟨o,es,ep,hp.1,hd,hr⟩,λh' SN=>⟨σ8,H8,I8.unpinned.dropC ⟨hp.2.1,f.2⟩ SN,q8⟩⟩
end L2
namespace L3
open PySem PySem.Spec PyProof.Rows L2
section
variable{X:Cx}{L:h_}{scope:FI}{x:Str}{xs caps:List Str}{slots:List Nat}{Sd Ss tg:A1}{Sl:List A1}{pos:Pos}{it:rp}{mg:MG}{mt:MT}{me:ME}
theorem pW(hc:X.calm=e_)(C:zL X.N X.env.scope scope x caps slots)(nd:(xs++caps).Nodup)(So:X.env.cells=Oq L X.env.scope.names [])(hi:Jg X tg Sd it)(hg:∀cl C ex pn s₀ H₀,VW ↑s tg mg)(ht:∀cl C ex pn s₀ H₀,ay ↑s Sl mt)(he:∀cl C ex pn s₀ H₀,jb ↑s Ss me)(hs:∀v,u_ Sd X.env v=pure v:=by intro _;rfl):jb X ↑I (j9 it mg mt me ↑e slots):=by obtain⟨cl,S⟩:=uR C So;obtain⟨wi,pi,si⟩:=hi;obtain⟨g,hg⟩:=X9 (hg cl);obtain⟨tt,ht⟩:=X8 (ht cl);obtain⟨te,he⟩:=X7 (he cl);exact⟨_,Jk hc (S.more nd) pi (λC ex pn s₀ H₀=>(hg C ex pn s₀ H₀).1) (λC ex pn s₀ H₀=>(ht C ex pn s₀ H₀).1) (λC ex pn s₀ H₀=>(he C ex pn s₀ H₀).1) hs,tU si (hg 0 [] [] X.s₀ X.H₀).2 (ht 0 [] [] X.s₀ X.H₀).2 (he 0 [] [] X.s₀ X.H₀).2⟩
theorem rJ(hN:X.N.Nodup)(Sr:X.N[i]?=b_ y)(hy:aV X.env.scope y)(hc:X.calm=e_)(C:zL X.N X.env.scope scope x caps slots)(nd:(xs++caps).Nodup)(So:X.env.cells=Oq L X.env.scope.names [])(hi:Jg X tg Sd it)(hg:∀cl C ex pn s₀ H₀,VW ↑s tg mg)(ht:∀cl C ex pn s₀ H₀,ay ↑s Sl mt)(he:∀cl C ex pn s₀ H₀,jb ↑s Ss me)(Y':BA ↑I (b_ (.Name y py)) spos.line X.env=pure e_:=by rfl)(hs:∀v,u_ Sd X.env v=pure v:=by intro _;rfl)(hf:X.fn y=e_\/X.env.scope.names.lookup y=b_ .local:=by first|exact .inl rfl|exact .inr rfl|assumption):eF X (.Assign [.Name y py] ↑I spos) (zF i (j9 it mg mt me ↑e slots)):=by
 obtain⟨cl,S⟩:=uR C So;obtain⟨wi,pi,si⟩:=hi;obtain⟨g,hg⟩:=X9 (hg cl);obtain⟨tt,ht⟩:=X8 (ht cl);obtain⟨te,he⟩:=X7 (he cl);have s:=tU (slots:=slots) (xs:=xs) (caps:=caps) si (hg 0 [] [] X.s₀ X.H₀).2 (ht 0 [] [] X.s₀ X.H₀).2 (he 0 [] [] X.s₀ X.H₀).2;refine⟨_,QF (i:=i) hN Sr hy hc (S.more nd) pi (λC ex pn s₀ H₀=>(hg C ex pn s₀ H₀).1) (λC ex pn s₀ H₀=>(ht C ex pn s₀ H₀).1) (λC ex pn s₀ H₀=>(he C ex pn s₀ H₀).1) Y' hs hf,?_⟩;intro B F H σ env D R w;unfold zF at w;refine s.run R (λr Sc e v F' H' R' i' Sh _=>?_) (λx e ev F' H' R' i pins s' I=>?_) λe=>?_;·rw[e]at w;exact w F' H' _ (R'.put i i' (λa q=>zK R.fr q) Sh)
 ·rw[e]at w;exact w ev F' H' σ R' i pins s' I
 ·rw[e]at w;exact w
end
section
variable{P:sN}{w:sY}{K:d_}{h:w_}{mg:Str->Option g_}{y:Str}{a:h_}
abbrev aB:=Str×Tok×g_×V×T
theorem mS:∀rows:List aB,Pairs (zP P w) (rows.map λr=>(⟨GQ w (.inr r.1),.str r.1 r.2.1,r.2.2.1⟩:S2)) (rows.map λr=>((.inr r.1:Key),r.2.2.1))|[]=>.nil|r::rows=>.cons (gQ P w r.1 r.2.1) rfl (mS rows)
theorem rK:∀{rows:List aB},(∀r∈rows,RelV r.2.2.2.1 r.2.2.1)->KV (rows.map λr=>((.inr r.1:Key),r.2.2.2.1)) (rows.map λr=>((.inr r.1:Key),r.2.2.1))|[],_=>.nil|r::rows,h=>.cons ⟨rfl,h r m_⟩ (rK λx hx=>h x (k_ _ hx))
theorem Jl(z:Str):∀{rows:List aB},(∀r∈rows,Is K F H r.2.2.2.2 r.2.2.2.1)->(∀t,(rows.map λr=>(r.1,r.2.2.2.2)).lookup z=b_ t->∃v,jH (rows.map λr=>((.inr r.1:Key),r.2.2.2.1)) (.inr z)=b_ v/\Is K F H t v)/\((rows.map λr=>(r.1,r.2.2.2.2)).lookup z=f_->jH (rows.map λr=>((.inr r.1:Key),r.2.2.2.1)) (.inr z)=f_)
 |[],_=>⟨λt h=>(by cases h),λ_=>rfl⟩|r::rows,h=>by
  have ih:=Jl z λx hx=>h x (k_ _ hx);by_cases e:z=r.1
  ·subst e;have e1:jH ((r::rows).map λr=>((.inr r.1:Key),r.2.2.2.1)) (.inr r.1)=b_ r.2.2.2.1:=by simp[jH]
   have e2:((r::rows).map λr=>(r.1,r.2.2.2.2)).lookup r.1=b_ r.2.2.2.2:=by simp
   rw[e1,e2];exact⟨λt ht=>(by cases ht;exact⟨_,rfl,h r m_⟩),λz=>(by cases z)⟩
  ·have e1:jH ((r::rows).map λr=>((.inr r.1:Key),r.2.2.2.1)) (.inr z)=jH (rows.map λr=>((.inr r.1:Key),r.2.2.2.1)) (.inr z):=by have:¬(Ap r.1:Key)=.inr z:=λq=>e (BS q).symm;simp[jH,this]
   have e2:((r::rows).map λr=>(r.1,r.2.2.2.2)).lookup z=(rows.map λr=>(r.1,r.2.2.2.2)).lookup z:=by simp[Ff,beq_eq_false_iff_ne.mpr e]
   rw[e1,e2];exact ih
theorem Np(rows:List aB)(X:K.In h)(G:h.Ns v_ mg)(g:FD K v_ y=b_ (b_ (.ref a)))(l:K.lookup a=b_ ⟨.type "dict",f_,.dict es ep,#[]⟩)(he:es.toList=rows.map λr=>(⟨GQ w (.inr r.1),.str r.1 r.2.1,r.2.2.1⟩:S2))(hs:(a==B')=a_)(nd:(rows.map (·.1)).Nodup)(hr:∀r∈rows,RelV r.2.2.2.1 r.2.2.1)(hi:∀(F:h_->Prop)(H:Hp),∀r∈rows,Is K F H r.2.2.2.2 r.2.2.2.1):∃a kvs,bh P w K mg y a kvs (rows.map λr=>(r.1,r.2.2.2.2)):=by
 refine⟨a,_,FH X G g,hs,⟨_,es,ep,_,l,⟨rfl,rfl,rfl⟩,rfl,λe Ω=>?_,?_,?_,rK hr⟩,λF H z=>Jl z (hi F H)⟩
 ·have:e∈es.toList:=by simpa using Ω
  rw[he]at this;obtain⟨r,_,rfl⟩:=sH.mp this;exact⟨.inr r.1,gQ P w r.1 r.2.1,rfl⟩
 ·rw[he];exact mS rows
 ·unfold BJ at nd⊢;rw[Ag]at nd;rw[Aa,Ag];exact nd.imp λTU z=>TU (BS z)
end
def dh(t u:T):Option RV:=match t with|.int _=>(match u with|.bl _=>b_ (a_,.bl a_)|u=>YR t u)|t=>YR t u
def eO{X:Cx}:qR X (sX .Is) (rT X.K dh):=by
 intro pins s σ H x y v u Q I rx ry h;obtain⟨F,tx,ty,rv,d,ix,iy,e,q⟩:=h;have Sh:YR tx ty=b_ rv->o_ ↑n X.A (sX .Is v u) (EP X pins σ Q) X.xe s:=λe=>Dx pins s σ H x y v u Q I rx ry ⟨F,tx,ty,rv,d,ix,iy,e,q⟩;cases tx;case int i=>
  cases ty;case bl b=>cases e;unfold Is at ix iy;subst ix iy;obtain⟨t,rfl⟩:=rx;cases ry;exact wpAny_is_plain rfl ⟨.bl a_,H,I,rfl,xK d xX q rfl⟩
  all_goals exact Sh e
 all_goals exact Sh e
def rL{Q:aB->Prop}:∀r∈([]:List aB),Q r:=λ_ h=>nomatch h
def jz{Q:aB->Prop}{r:aB}{rows:List aB}(h:Q r)(t:∀r∈rows,Q r):∀x∈r::rows,Q x:=λx hx=>(sB.mp hx).elim (λe=>e▸h) (t x)
def Lh(i:Nat)(m:ME):MS:=λenv=>match env[i]? with|some (b_ (e_,.lst _))=>(match jR m env with|.ok (r,Sc)=>(match Sc[i]? with|some (b_ (e_,.lst ts))=>(match r with|(e_,.lst us)=>if ↑c+↑h<=j_ then .nx (Sc.set i (b_ (e_,.lst (ts++us))))else .bad|_=>.bad)|_=>.bad)|.exc x=>.exc x env|.bad=>.bad)|_=>.bad
def HQ{i:Nat}{st:A2}(he:jb X e m)(hp:∀te,PE X e te->PS X st (Zt (EG X.K "list" XN (xJ i) (XH te P7)))):eF X st (Lh i m):=by
 obtain⟨te,pe,se⟩:=he;refine⟨_,hp te pe,?_⟩;intro B F H σ env D R w;unfold Lh at w;split at w
 ·rename_i υ hi;obtain⟨a,s,nf,fr,vs,hH,iv⟩:=R.owns i _ hi;refine⟨.ref a,s,.inl ⟨rfl,vs,.inl (.inl hH)⟩,?_⟩;refine se.run R (λr Sc er v F' H' R' iv' Sh kp=>?_) (λx er ev F' H' R' ix pins s' I=>?_) λer=>?_
  ·rw[er]at w;dsimp only at w;split at w
   ·rename_i ts' Sr;split at w
    ·rename_i us;split at w;·rename_i hl;obtain⟨b,rfl,nfb,hb0,_,zs,hB,iz⟩:=iv'.there rfl;obtain⟨a',s',TY,γ,T3,hH',iv2⟩:=R'.owns i _ Sr;rw[s]at s';cases s';refine⟨a,b,T3,zs,rfl,rfl,hH',hB,by rw[<-iv2.len,<-iz.len];exact hl,?_⟩;refine w F' _ σ (R'.mut Sr s ⟨T3++zs,zm,?_⟩);exact(iv2.append iz).mono (xi TY hH' (.inl ⟨_,rfl⟩))
     ·exact w.elim
    ·exact w.elim
   ·exact w.elim
  ·rw[er]at w;exact w ev F' H' σ R' ix pins s' I
  ·rw[er]at w;exact w
 ·exact w.elim
instance(i j:Int):Decidable (Hb i j):=by unfold Hb;infer_instance
def Wd(t u:T):Option RV:=match t with|.bl a=>(match u with|.bl b=>b_ (a_,.bl (a !=b))|u=>tI t u)|t=>tI t u
def Cy(i j:Nat):MS:=λenv=>match env[i]? with|some (b_ (e_,.lst ts))=>(match env[j]? with|some (b_ (e_,.lst us))=>if i≠j/\↑c+↑h<=j_ then .nx (env.set i (b_ (e_,.lst (ts++us))))else .bad|_=>.bad)|_=>.bad
def fh(m:ME):rp:=λenv=>(m env).bind λr=>match r.2 with|.dct ks ts=>.ok (xS ks ts)|_=>.bad
def Jm(m:ME):ME:=λenv=>(m env).bind λr=>match r.2 with|.dct ks ts=>.ok (a_,.tup (xS ks ts))|_=>.bad
def HR(i:Nat)(mb:MS):MS:=λenv=>match mb env with|.nx e=>(match e[i]? with|some (b_ (_,t))=>.nx (e.set i (b_ (a_,t)))|_=>.nx e)|o=>o
section
variable{X:Cx}
theorem DJ{i:Nat}{st:A2}{mb:MS}(h:eF X st mb):eF X st (HR i mb):=by
 obtain⟨t,p,s⟩:=h;refine⟨t,p,λB F H σ env D R w=>s B F H σ env D R ?_⟩;unfold HR at w
 cases e:mb env with|nx e1=>
  rw[e]at w;dsimp only at w;intro F' H' σ' R';split at w;·rename_i b t g;obtain⟨F2,v,R2,_⟩:=R'.frz1 g;exact w F2 H' σ' R2
  ·exact w F' H' σ' R'|_=>rw[e]at w;exact w
theorem Xa:qR X (sX .IsNot) (rT X.K Wd):=by
 intro pins s σ H x y v u Q I rx ry h;obtain⟨F,tx,ty,rv,d,ix,iy,e,q⟩:=h;have Sh:tI tx ty=b_ rv->o_ ↑n X.A (sX .IsNot v u) (EP X pins σ Q) X.xe s:=λe=>Hy pins s σ H x y v u Q I rx ry ⟨F,tx,ty,rv,d,ix,iy,e,q⟩;cases tx;case bl a=>
  cases ty;case bl b=>cases e;unfold Is at ix iy;subst ix iy;cases rx;cases ry;refine wpAny_isNot_plain rfl ⟨.bl (a !=b),H,I,?_,xK d xX q rfl⟩;cases a<;>cases b<;>rfl
  all_goals exact Sh e
 all_goals exact Sh e
end
section
variable{X:Cx}{scope:FI}{cl:List (Str×h_)}{xs caps:List Str}{slots:List Nat}{Sd Ss tg:A1}{Sl:List A1}{pos:Pos}{it:rp}{mg:MG}{mt:MT}{me:ME}
theorem lM(si:∀R:It->Hp->Prop,it env≠.bad->(∀ts,it env=.ok ts->∀J F' H',jB F H F' H'->pV X.K F' H' J ts->R J H')->(∀x,it env=.exc x->XV X F H σ x)->wi σ H R)(sg:V7 ↑Q g mg)(st:tH ↑Q tt mt)(se:eD ↑Q te me)(RE:xV X.K F H σ env)(nb:j9 it mg mt me ↑e slots env≠.bad)(ok:∀r,j9 it mg mt me ↑e slots env=.ok r->∀v F' H',jB F H F' H'->kN X.K (λa=>H a=f_) F' H' v r->Q v H')(T6:∀x,j9 it mg mt me ↑e slots env=.exc x->XV X F H σ x):iS wi g tt te ↑e slots σ H Q:=by
 unfold j9 at nb ok T6;refine si _ ↑m (λts e1 J F1 H1 x1 Y=>?_) λx z=>T6 x ↑D;rw[e1,bind_ok]at nb ok;by_cases hl:↑c<=j_;·rw[if_pos hl]at nb ok;have R0:xV X.K F1 H1 (sO ↑e f_++gi σ slots) (sO ↑e f_++(gO env slots).map frz1):=Jh (RE.mono x1);have L0:=Ji (slots:=slots) (σ:=σ) (env:=env) (n:=↑e);have N0:=Jj (slots:=slots) (env:=env) (n:=↑e);generalize(sO ↑e f_++(gO env slots).map frz1:En)=env0 at R0 L0 N0 nb ok;cases So:xf mg mt me env0 ts with|bad=>rw[So]at nb;exact absurd rfl nb|exc y=>rw[So]at nb;exact absurd rfl nb|ok out=>
   rw[So]at ok;intro D hD;refine⟨λi m ys τ H=>m=↑c-i/\i<=↑c/\ys.length<=i/\H D=b_ (.lst ys)/\∃Fc us rest en,¬Fc D/\jB F1 H1 Fc H/\IsAll X.K Fc H us ys/\xV X.K Fc H τ en/\en.length=τ.length/\(∀(i:Nat)(t:T),en[i]?≠b_ (b_ (e_,t)))/\xf mg mt me en (ts.drop i)=.ok rest/\us++rest=out,⟨↑c,by simp,A5 _,r_ _,zm,F1,[],out,env0,λf=>x1.dom D f hD,jB.alloc x1.dom hD,IsAll.nil,R0.mono (jB.alloc x1.dom hD),L0,N0,by simpa using So,rfl⟩,?_⟩;rintro i m ys τ H2⟨rfl,hi,hyl,hHD,Fc,us,rest,en,nD,xc,iu,RC,LC,NC,Sb,hout⟩;refine⟨hHD,?_⟩;obtain⟨yg,ysp⟩:=Y Fc H2 RC.dom xc.kept i;by_cases Si:i<↑c
   ·obtain⟨go,yl⟩:=yg Si;refine .inr ⟨go,λv H3 y=>?_⟩;obtain⟨xt,t,hti,iv⟩:=yl v H3 y;have hHD:=xt.same D _ hHD;have xc:=xc.trans xt;have iu:=iu.mono xt.kept;have RC:=RC.mono xt;have hd:ts.drop i=t::ts.drop (i+1):=by
     rw[Ax Si];have:ts[i]?=b_ ts[i]:=by simp[Si]
     rw[this]at hti;cases hti;rfl
    rw[hd,xf]at Sb;cases hg:mg t en with|none=>rw[hg]at Sb;cases Sb|some e2=>
    rw[hg]at Sb;dsimp only at Sb;refine sg _ Fc H3 τ en e2 v t _ (RC.stm LC NC) iv hg λτ' R'=>?_;have RH:xV X.K Fc H3 τ' (hide e2):=R'.hid;have LH:(hide e2).length=τ'.length:=by unfold hide;rw[j'];exact R'.len
    have NH:=tT e2;generalize hide e2=en2 at RH LH NH Sb;have SM:∀{F':h_->Prop}{H':Hp},jB Fc H3 F' H'->¬F' D/\H' D=b_ (.lst ys):=by
     intro F' H' xt;refine⟨λf=>?_,xt.same D _ hHD⟩;rcases xt.new D f with f|f;·exact nD f
     ·rw[hHD]at f;cases f
    refine st Fc H3 _ _ _ RH (λz=>by rw[z]at Sb;cases Sb) (λb eb F4 H4 x4=>?_) λy z=>by rw[z]at Sb;cases Sb
    rw[eb]at Sb;cases b with|false=>rw[if_neg sM];dsimp only at Sb;obtain⟨n4,d4⟩:=SM x4;exact⟨↑c-(i+1),by omega,rfl,Si,by omega,d4,F4,us,rest,en2,n4,xc.trans x4,iu.mono x4.kept,RH.mono x4,LH,NH,Sb,hout⟩|true=>
     rw[if_pos rfl];dsimp only at Sb;refine se.val (RH.mono x4) (λz=>by rw[z]at Sb;cases Sb) (λr er w F5 H5 x5 iw=>?_) λy z=>by rw[z]at Sb;cases Sb
     rw[er]at Sb;dsimp only at Sb;cases hcl2:xf mg mt me en2 (ts.drop (i+1))with|bad=>rw[hcl2]at Sb;cases Sb|exc y=>rw[hcl2]at Sb;cases Sb|ok rest2=>
      rw[hcl2]at Sb;have hr:r.2::rest2=rest:=by injection Sb
      obtain⟨n5,d5⟩:=SM (x4.trans x5);have x15:=(xc.trans x4).trans x5;have ku:gx F5 F5 H5 (zO H5 D (.lst (ys++[w]))):=xi n5 d5 (.inl ⟨_,rfl⟩);have xu:jB F1 H1 F5 (zO H5 D (.lst (ys++[w]))):=by
       refine⟨λa o h=>?_,x15.sub,x15.new,λa f=>?_⟩;·rw[zg (zM h hD)];exact x15.same a o h
       ·have:a≠D:=by rintro rfl;exact n5 f
        rw[zg this];exact x15.dom a f
      have R5:xV X.K F5 H5 τ' en2:=(RH.mono x4).mono x5;refine⟨d5,by omega,↑c-(i+1),by omega,rfl,Si,by rw[sj];simp;omega,zm,F5,us++[r.2],rest2,en2,n5,xu,?_,⟨xu.dom,λj q h=>?_⟩,LH,NH,hcl2,by rw[<-hout,<-hr];simp⟩;·exact((iu.mono (x4.trans x5).kept).append (IsAll.cons iw IsAll.nil)).mono ku
      ·obtain⟨v',s',i'⟩:=R5.vals j q h;exact⟨v',s',i'.mono ku⟩
   ·have hli:i=↑c:=by omega
    subst hli;rw[Fh,xf]at Sb;have hr:rest=[]:=by injection Sb with Sb;exact Sb.symm
    subst hr;rw[Ac]at hout;subst hout;refine .inl ⟨ysp (r_ _),?_⟩;refine ok _ rfl _ Fc H2 (x1.trans xc) ?_;unfold kN;rw[if_pos rfl];exact⟨D,rfl,nD,j8 x1.same hD,ys,hHD,iu⟩
 ·rw[if_neg hl]at nb;exact absurd rfl nb
end
def Nq(X:Cx)(t:TE):TE:=λσ H Q=>t σ H λv=>X4 X (Q v)
def Ua(p:PE X e t):PE X e (Nq X t):=by
 intro pins s σ H Q I h;refine jk (p pins s σ H _ I h) λu s1 q=>?_;obtain⟨x,H1,I1,rx,q|⟨a,o,kvs,e,h0,q⟩⟩:=q;·exact⟨x,H1,I1,rx,q⟩
 ·exact⟨x,_,uS I1 e h0,rx,q⟩
def lN{K:d_}{F:h_->Prop}{H:Hp}{a:h_}{o:Obj}{kvs:List (Key×V)}{ts:List T}(fa:F a)(e:H a=b_ ↑N)(ia:IsAll K F H ts (kvs.map (·.2))):pV K F H (Qv a o) (xS (kvs.map (·.1)) ts):=by
 intro F2 H2 d kp i;have hlen:=tS (kvs:=kvs) ia.len;have e2:=kp.fz _ _ fa e;have ia2:=ia.mono kp;refine⟨λhi=>?_,λhi=>⟨kvs,e2,by omega⟩⟩;have hk:i<kvs.length:=by omega
 refine⟨⟨kvs,kvs[i].1,kvs[i].2,e2,by simp[hk]⟩,λx H3 y=>?_⟩;obtain⟨T0,k,v,hT,rfl,rfl,hy⟩:=y;have hx:=hy kvs e2;obtain⟨t,ht,it⟩:=Jf ia2 hx;have xa:jB F2 H2 F2 (zO H2 T0 (.tup [kV k,v])):=jB.alloc d hT;refine⟨xa,_,ht,?_⟩;unfold Is;exact⟨T0,_,rfl,.inl (.inl zm),IsAll.cons QA (IsAll.cons (it.mono xa.kept) IsAll.nil)⟩
section
variable{X:Cx}{scope:FI}{cl:List (Str×h_)}{xs caps:List Str}{slots:List Nat}{m:ME}{mg:MG}{mt:MT}{me:ME}{g:TG}{tt:TT}{te td:TE}
theorem Vo(sd:xW X td m)(sg:V7 ↑Q g mg)(st:tH ↑Q tt mt)(se:eD ↑Q te me):xW X (Nq X (iS (Qz X td) g tt te ↑e slots)) (j9 (fh m) mg mt me ↑e slots):=by
 intro F H σ env Q RE nb ok T6;have mi:∀{r:gd RV},m env=r->fh m env=r.bind λr=>match r.2 with|.dct ks ts=>.ok (xS ks ts)|_=>.bad:=λe=>by subst e;rfl
 refine sd.val RE (λz=>?_) (λr1 e1 v1 F1 H1 x1 i1=>?_) λx z=>T6 x (by unfold j9;rw[mi z];rfl);·unfold j9 at nb;rw[mi z]at nb;exact nb rfl
 obtain⟨b,t⟩:=r1;have e1:=mi e1;have bad:fh m env=.bad->False:=λz=>by unfold j9 at nb;rw[z]at nb;exact nb rfl
 cases t with|dct ks ts=>
  have e1:fh m env=.ok (xS ks ts):=e1;unfold Is at i1;obtain⟨a,kvs,rfl,fa,rd,rfl,ia⟩:=i1;refine⟨a,kvs,rfl,?_⟩;have R1:=RE.mono x1;have nx:∀x,j9 (fh m) mg mt me ↑e slots env≠.exc x:=λx z=>by
   unfold j9 at z;rw[e1,bind_ok]at z;split at z;·split at z<;>cases z
   ·cases z
  rcases rd with e|⟨o,e⟩
  ·refine .inl ⟨e,λo h0=>?_⟩;have sw:No H1 (zO H1 a ↑N):=mR e;have dm:aq F1 (zO H1 a ↑N):=λb f=>by
    by_cases z:b=a;·rw[z,zm];intro q;cases q
    ·rw[zg z];exact x1.dom b f
   have R2:xV X.K F1 (zO H1 a ↑N) σ env:=⟨dm,λi r h=>let⟨v,s,iv⟩:=R1.vals i r h;⟨v,s,iv.swp sw⟩⟩;have Y:=lN (K:=X.K) (F:=F1) fa (zm:zO H1 a ↑N a=_) (ia.swp sw);refine lM (wi:=λσ H R=>R (Qv a o) H) (F:=F1) (H:=zO H1 a ↑N) (Q:=λv=>X4 X (Q v)) (λR _ k _=>k _ e1 _ F1 _ (jB.refl dm) Y) sg st se R2 nb (λr hr v F2 H2 x2 iv=>?_) (λx z=>(nx x z).elim)
   ·have ea:H2 a=b_ ↑N:=x2.same a _ zm;refine .inr ⟨a,o,kvs,ea,h0,ok r hr v F2 _ ⟨λb ob h=>?_,λb f=>x2.sub b (x1.sub b f),λb f=>?_,λb f=>?_⟩ ?_⟩
    ·have h1:=x1.same b ob h;by_cases z:b=a;·subst z;rw[e]at h1;rw[zm];exact h1
     ·rw[zg z];exact x2.same b ob (by rw[zg z];exact h1)
    ·rcases x2.new b f with f|f;·exact x1.new b f
     ·right;by_cases z:b=a;·rw[z,zm]at f;cases f
      ·rw[zg z]at f;exact j8 x1.same f
    ·by_cases z:b=a;·rw[z,zm];intro q;cases q
     ·rw[zg z];exact x2.dom b f
    ·have w:=b9 ea;unfold kN at iv⊢;split
     ·rename_i ho;rw[if_pos ho]at iv;obtain⟨b,e1,nf,fr,ow⟩:=iv;refine⟨b,e1,nf,?_,ow.swp w (by rintro rfl;exact nf (x2.sub _ fa))⟩;by_cases z:b=a;·rw[z,zm]at fr;cases fr
      ·rw[zg z]at fr;exact j8 x1.same fr
     ·rename_i ho;rw[if_neg ho]at iv;exact iv.swp w
  ·refine .inr ⟨o,e,?_⟩;have Y:=lN (K:=X.K) (F:=F1) fa e ia;refine lM (wi:=λσ H R=>R (Qv a o) H) (F:=F1) (H:=H1) (Q:=λv=>X4 X (Q v)) (λR _ k _=>k _ e1 _ F1 _ (jB.refl x1.dom) Y) sg st se R1 nb (λr hr v F2 H2 x2 iv=>?_) (λx z=>(nx x z).elim);refine .inl (ok r hr v F2 H2 (x1.trans x2) ?_);unfold kN at iv⊢;split;·rename_i ho;rw[if_pos ho]at iv;obtain⟨b,e1,nf,fr,ow⟩:=iv;exact⟨b,e1,nf,j8 x1.same fr,ow⟩
   ·rename_i ho;rw[if_neg ho]at iv;exact iv|_=>exact(bad e1).elim
end
section
variable{X:Cx}{L:h_}{scope:FI}{x:Str}{xs caps:List Str}{slots:List Nat}{Ss o:A1}{Su Sl:List A1}{n:Nat}{pos tp Sf cpos:Pos}{m:ME}{mg:MG}{mt:MT}{me:ME}
theorem rM(hc:X.calm=e_)(C:zL X.N X.env.scope scope x caps slots)(nd:(xs++caps).Nodup)(So:X.env.cells=Oq L X.env.scope.names [])(ho:jb X o m)(hg:∀cl C ex pn s₀ H₀,VW ↑s (.Tuple Su n tp) mg)(ht:∀cl C ex pn s₀ H₀,ay ↑s Sl mt)(he:∀cl C ex pn s₀ H₀,jb ↑s Ss me)(M:M0 X o "items" Sf cpos:=by exact⟨rfl,rfl,rfl,rfl⟩)(hs:∀v,u_ (.Call (.Attribute o "items" Sf) [] [] cpos) X.env v=pure v:=by intro _;rfl):jb X (.ListComp Ss [⟨.Tuple Su n tp,.Call (.Attribute o "items" Sf) [] [] cpos,Sl,0⟩] scope pos) (j9 (fh m) mg mt me ↑e slots):=by obtain⟨cl,S⟩:=uR C So;obtain⟨td,pd,sd⟩:=ho;obtain⟨g,hg⟩:=X9 (hg cl);obtain⟨tt,ht⟩:=X8 (ht cl);obtain⟨te,he⟩:=X7 (he cl);exact⟨_,Ua (Jk hc (S.more nd) (Je pd M) (λC ex pn s₀ H₀=>(hg C ex pn s₀ H₀).1) (λC ex pn s₀ H₀=>(ht C ex pn s₀ H₀).1) (λC ex pn s₀ H₀=>(he C ex pn s₀ H₀).1) hs),Vo sd (hg 0 [] [] X.s₀ X.H₀).2 (ht 0 [] [] X.s₀ X.H₀).2 (he 0 [] [] X.s₀ X.H₀).2⟩
end
end L3
namespace PySem
open Sem(wp)
open AutoSeq1(wpAny_loadPart')
def nU{prog:sN}{w:sY}{K:Type}[DecidableEq K]{knd:KeyKind prog w K}(r d:h_)(kvs:List (K×g_))(ep:Nat)(hn:kvs.length<=j_):MeetsIn prog w (BL.«tuple.__new__» ⟨[.type "tuple",.ref r],[]⟩) (λA R s=>A.handled=f_/\s.heap.IsItemsView r d/\s.heap.DictAt knd d kvs ep/\∀(h':w_)(tk:Nat)(as:List h_),(∀b o,s.heap.get? b=b_ o->h'.get? b=b_ o)->as.length=kvs.length->W.KdxG knd kvs ↑a h' as->R (.ok (.ret (.ref h'.objs.size))) {s with heap:=h'.push {cls:=.type "tuple",data:=.seq (as.map sE).toArray},toks:=tk}):=.of_wp λA R s h=>by obtain⟨hp,g,d',tk0,os⟩:=s;obtain⟨hh,hv,hm,h⟩:=h;have hv':=hv;obtain⟨o,ho,hc,hd⟩:=hv';have hsub:=sub_tuple_self;have hinit:=init_tuple_lookup;have hmh:=madeHere_tuple;have hT:Shared.TypeIs ⟨hp,g,d',tk0,os⟩ (.ref r) "dict_items":=⟨o,ho,hc⟩;wp_walk using Q_ ho,O4 hT,W.kdx_collect (A:=A.in1) (knd:=knd) hh hv hm hn;intro h' tk as hk hl hG;show o_ _ _ (A_ (as.map sE).toArray>>=λv=>ret v) _ _ _;unfold A_;refine c_ (AJ ?_ (by show(as.map sE).toArray.size<=j_;simp;omega));exact i_ ⟨_,rfl,h h' tk as hk hl hG⟩
end PySem
namespace L3
open PySem PySem.Spec PyProof.Rows L2
def HS(td:TE):TE:=λσ H Q=>td σ H λx H1=>∃a kvs,x=.ref a/\Rd H1 a (.dK kvs)/\∀(as:List h_)(p:h_)(H2:Hp),(∀b o,H1 b=b_ o->H2 b=b_ o)->as.length=kvs.length->(∀(j:Nat)(b:h_)(k:Key)(y:V),as[j]?=b_ b->kvs[j]?=b_ (k,y)->H2 b=b_ (.tup [kV k,y]))->H2 p=b_ (.tup (as.map V.ref))->Q (.ref p) H2
def Ub(x:uA P w H h)(k:∀b u,h.get? b=b_ u->h'.get? b=b_ u)(hH:∀b,b<h.objs.size->H' b=H b):Un fs ex H H' h h':=by
 have Sh:∀b o,H b=b_ o->H' b=b_ o:=λb o e=>by rw[hH b (Nat.lt_of_not_le λz=>by rw[x.fresh z]at e;cases e)];exact e
 exact⟨λb u q _ _ _=>k b u q,λb u q _ _ _=>⟨u.slots,k b u q⟩,λb u q n _=>by rw[hH b (n_ q)];exact n,λb u q _=>⟨u,k b u q⟩,λb xs q=>Sh b _ q,λb u xs q=>Sh b _ q,λb ps q=>⟨#[],by rw[Sh b _ q];simp⟩⟩
theorem tV:∀as:List h_,zQ (as.map V.ref) (as.map sE)|[]=>.nil|_::as=>.cons rfl (tV as)
section
variable{X:Cx}{o:A1}{td:TE}{p pos Sf cpos:Pos}
theorem Jn(hc:X.calm=e_)(hg:Gl X "tuple")(hm:X.mg "tuple"=f_)(ho:PE X o td)(m:M0 X o "items" Sf cpos)(hs:p_ [.Call (.Attribute o "items" Sf) [] [] cpos] X.env=[(a_,x_ (.Call (.Attribute o "items" Sf) [] [] cpos) X.env)]:=by rfl):PE X (.Call (.Name "tuple" p) [.Call (.Attribute o "items" Sf) [] [] cpos] [] pos) (HS td):=by
 intro pins s σ H Q I h;refine Ai (fu I hg hm kP ?_);refine Am ?_ (he:=by rw[hs];rfl) (hplain:=rfl);rw[hs];show o_ _ _ (Om ((a_,x_ (.Call (.Attribute o "items" Sf) [] [] cpos) X.env)::[])) _ _ s;refine AN ?_;refine OG m.base m.few m.line FM FR S9 (jk (ho pins s σ H _ I h) λu s1⟨x,H1,I1,rx,a,kvs,ex,d,q1⟩=>?_);subst ex;obtain rfl:u=sE a:=rx;obtain⟨t1,t2,_⟩:=YH I1 (.inl ⟨kvs,d⟩);refine⟨t1,t2,?_⟩;rw[m.trees];obtain⟨hz,hS,vs,r,dd⟩:=lA I1.hok d;refine BH rfl (Rx ?_);refine Rh FR dd.typeIs RX (Rz _) (meets_dict_items (zP X.prog X.w) a hS) ⟨⟨vs,dd⟩,?_⟩;have I2:zu X pins σ H1 {s1 with heap:=s1.heap.push {cls:=.type "dict_items",data:=.fields #[.ref a]}}:=I1.kept (t':=s1.toks) λb ob q=>f' _ q;obtain⟨ep,ε⟩:=dd.dictAt;have hlen:↑g=kvs.length:=by rw[<-r.length]
 rw[Om];refine i_ ?_;refine callType_newIn PySem.F.called_tuple ↑o (PySem.F.typeCall_tuple_1 _) (PySem.F.newCall_tuple_1 _) (λobj=>PySem.F.args_object_init_2 obj _) PySem.F.entry_tuple_new (nU (knd:=zP X.prog X.w) ↑b a vs ep ↑p) ⟨I2.ok.hd hc,⟨_,sf _ rfl,rfl,rfl⟩,ε.push _,λh' tk as hk hl hG=>⟨⟨_,sf _ rfl,rfl⟩,?_⟩⟩;have n0:(s1.heap.push {cls:=.type "dict_items",data:=.fields #[.ref a]}).objs.size=↑b+1:=by simp[w_.push]
 have hle:↑b<h'.objs.size:=n_ (hk _ _ (sf _ rfl));have keep:∀b ob,(s1.heap.push {cls:=.type "dict_items",data:=.fields #[.ref a]}).get? b=b_ ob->(h'.push {cls:=.type "tuple",data:=.seq (as.map sE).toArray}).get? b=b_ ob:=λb ob q=>f' _ (hk b ob q);have asz:∀j b,as[j]?=b_ b->↑b+1<=b/\b<h'.objs.size:=λj b e=>by obtain⟨Sj,k,x,_,_,hb⟩:=hG.pairs j b e;have this:↑b+1<b:=G' (OA n0.symm) (hG.above b (Av e));exact⟨Nat.le_of_lt this,n_ hb⟩
 have uni:∀i j b,as[i]?=b_ b->as[j]?=b_ b->i=j:=λi j b h1 h2=>by
  obtain⟨l1,e1⟩:=sP.mp h1;obtain⟨l2,e2⟩:=sP.mp h2;rcases Nat.lt_trichotomy i j with z|z|z;·have:=Fu.mp hG.rise i j l1 l2 z;rw[e1,e2]at this;exact absurd this (BQ _)
  ·exact z
  ·have:=Fu.mp hG.rise j i l2 l1 z;rw[e1,e2]at this;exact absurd this (BQ _)
 obtain⟨H2,hH2⟩:∃H2:Hp,∀b,H2 b=if b<↑b+1 then H1 b else if b=h'.objs.size then b_ (.tup (as.map V.ref))else open Classical in if h:∃q:Key×V,∃j:Nat,as[j]?=b_ b/\kvs[j]?=b_ q then b_ (.tup [kV h.choose.1,h.choose.2])else f_:=⟨_,λ_=>rfl⟩;have f0:∀b,b<↑b+1->H2 b=H1 b:=λb z=>by rw[hH2,if_pos z]
 have f1:∀b ob,H1 b=b_ ob->H2 b=b_ ob:=λb ob e=>by rw[f0 b (Nat.lt_of_not_le λz=>by rw[I2.hok.fresh (by rw[n0];exact z)]at e;cases e)];exact e
 have f2:∀(j:Nat)(b:h_)(k:Key)(y:V),as[j]?=b_ b->kvs[j]?=b_ (k,y)->H2 b=b_ (.tup [kV k,y]):=λj b k y e1 e2=>by have z:=asz j b e1;have hx:∃q:Key×V,∃j:Nat,as[j]?=b_ b/\kvs[j]?=b_ q:=⟨(k,y),j,e1,e2⟩;have z1:¬b<↑b+1:=Nat.not_lt.mpr z.1;have z2:¬b=h'.objs.size:=su z.2;rw[hH2,if_neg z1,if_neg z2,dif_pos hx];obtain⟨i,h1,h2⟩:=hx.choose_spec;rw[uni i j b h1 e1,e2]at h2;rw[<-sF h2]
 have f3:H2 h'.objs.size=b_ (.tup (as.map V.ref)):=by rw[hH2,if_neg (Nat.not_lt.mpr hle),if_pos rfl]
 have hok:uA X.prog X.w H2 (h'.push {cls:=.type "tuple",data:=.seq (as.map sE).toArray}):=λb ob e=>by
  by_cases z:b<↑b+1;·rw[f0 b z]at e;exact(I2.hok b ob e).stay (λc v _ q=>keep c v q) (λc q=>f1 c _ q) λc xs q=>f1 c _ q
  ·by_cases zp:b=h'.objs.size;·subst zp;rw[f3]at e;cases e;exact⟨by rw[j'];omega,as.map sE,tV as,_,sf _ rfl,rfl,_,rfl⟩
   ·rw[hH2,if_neg z,if_neg zp]at e;split at e;·rename_i hx;obtain⟨j,h1,h2⟩:=hx.choose_spec;cases e;obtain⟨Sj,k,x,g1,g2,g3⟩:=hG.pairs j b h1;generalize hx.choose=q at h2;obtain⟨k',y⟩:=q;obtain⟨u,g4,ry⟩:=Qw r h2;rw[g1]at g4;cases g4;exact⟨(show 2<=j_ by decide),[Sj,x],.cons (Qx g2) (.cons ry .nil),_,f' _ g3,rfl,_,rfl⟩
    ·cases e
 exact⟨.ref h'.objs.size,H2,I2.un (t':=tk) (Ub I2.hok keep λb z=>f0 b (by rw[n0]at z;exact z)) hok,rfl,q1 as h'.objs.size H2 f1 ↑p f2 f3⟩
end
theorem tW{K:d_}{F:h_->Prop}{H:Hp}:∀{kvs:List (Key×V)}{ts:List T}{as:List h_},IsAll K F H ts (kvs.map (·.2))->as.length=kvs.length->(∀(j:Nat)(b:h_)(k:Key)(y:V),as[j]?=b_ b->kvs[j]?=b_ (k,y)->H b=b_ (.tup [kV k,y]))->IsAll K F H (xS (kvs.map (·.1)) ts) (as.map V.ref)
 |[],[],[],_,_,_=>IsAll.nil|[],_::_,_,ia,_,_=>by have:=ia.len;cases this|[],[],_::_,_,hl,_=>by cases hl|_::_,[],_,ia,_,_=>by have:=ia.len;cases this|_::_,_::_,[],_,hl,_=>by cases hl|(k,y)::kvs,t::ts,b::as,ia,hl,h=>by
  obtain⟨i1,i2⟩:Is K F H t y/\IsAll K F H ts (kvs.map (·.2)):=by unfold IsAll at ia;obtain⟨v,r,e,h1,h2⟩:=ia;cases e;exact⟨h1,h2⟩
  refine IsAll.cons ?_ (tW i2 (by simpa using hl) λj b k y e1 e2=>h (j+1) b k y e1 e2);unfold Is;exact⟨b,_,rfl,.inl (.inl (h 0 b k y rfl rfl)),IsAll.cons QA (IsAll.cons i1 IsAll.nil)⟩
section
variable{X:Cx}{o:A1}{md:ME}{p pos Sf cpos:Pos}
theorem Xb(hc:X.calm=e_)(hg:Gl X "tuple")(hm:X.mg "tuple"=f_)(ho:jb X o md)(m:M0 X o "items" Sf cpos:=by exact⟨rfl,rfl,rfl,rfl⟩)(hs:p_ [.Call (.Attribute o "items" Sf) [] [] cpos] X.env=[(a_,x_ (.Call (.Attribute o "items" Sf) [] [] cpos) X.env)]:=by rfl):jb X (.Call (.Name "tuple" p) [.Call (.Attribute o "items" Sf) [] [] cpos] [] pos) (Jm md):=by obtain⟨td,pd,sd⟩:=ho;refine⟨_,Jn hc hg hm pd m hs,?_⟩;intro F H σ env Q R nb ok ex;unfold Jm at nb ok ex;refine sd.val R ↑m (λr1 e1 v1 F1 H1 x1 i1=>?_) λx z=>ex x ↑D;rw[e1,bind_ok]at nb ok;obtain⟨b,t⟩:=r1;cases t with|dct ks ts=>unfold Is at i1;obtain⟨a,kvs,rfl,fa,rd,rfl,ia⟩:=i1;refine⟨a,kvs,rfl,rd,λas p H2 h1 hl h2 h3=>?_⟩;have x2:jB F1 H1 F1 H2:=⟨h1,λ_ f=>f,λ_ f=>.inl f,λb f=>by cases e:H1 b with|none=>exact absurd e (x1.dom b f)|some ob=>rw[h1 b ob e];intro z;cases z⟩;refine ok _ rfl _ F1 H2 (x1.trans x2) ?_;unfold kN;rw[if_neg sM];unfold Is;exact⟨p,_,rfl,.inl (.inl h3),tW (ia.mono x2.kept) hl h2⟩|_=>exact absurd rfl nb
end
end L3
namespace L3
open PySem PySem.Spec PyProof.Rows PySem.W L2
def km:Nat->List T->List T|_,[]=>[]|n,t::ts=>.tup [.int n,t]::km (n+1) ts
theorem tX:∀(n:Nat)(ts:List T),(km n ts).length=↑c|_,[]=>rfl|n,t::ts=>congrArg (·+1) (tX (n+1) ts)
theorem Jo:∀(n:Nat)(ts:List T)(i:Nat),(km n ts)[i]?=ts[i]?.map λt=>.tup [.int ((n+i:Nat):Int),t]|_,[],i=>by simp[km]|n,t::ts,0=>by simp[km]|n,t::ts,i+1=>by rw[km,Ou,Ou,Jo (n+1) ts i];simp only[Nat.add_assoc,Nat.add_comm 1 i]
def uT{K:d_}{F:h_->Prop}{H:Hp}{a:h_}{vs:List V}{ts:List T}(g1:YN K F H a vs)(g2:IsAll K F H ts vs):pV K F H (DF K a) (km 0 ts):=by intro F2 H2 d k i;have h1:=g1.mono k;have h2:=g2.mono k;have hl:=h2.len;rw[tX];refine⟨λhi=>⟨⟨vs,vs[i],h1.sq,by simp[<-hl,hi]⟩,λx H3 y=>?_⟩,λhi=>⟨vs,h1.sq,by omega⟩⟩;obtain⟨p,z,hp,rfl,rfl,hx⟩:=y;obtain⟨v,hv,iv⟩:=h2.get (i:=i) (t:=ts[i]) (by simp[hi]);rw[hx vs h1.sq]at hv;cases hv;have x:=jB.alloc d (o:=.tup [.int i,z]) hp;refine⟨x,_,by rw[Jo,s_ hi];rfl,?_⟩;unfold Is;exact⟨p,_,rfl,.inl (.inl zm),IsAll.cons (by rw[Nat.zero_add];exact xL) (IsAll.cons (iv.mono x.kept) IsAll.nil)⟩
def Jp(m:ME):MI:=λenv=>match jR m env with|.ok (r,Sc)=>(match r.2 with|.lst ts=>.ok (km 0 ts,Sc)|_=>.bad)|.exc x=>.exc x|.bad=>.bad
def Li(hg:Gl X "enumerate")(hm:X.mg "enumerate"=f_)(h:jb X l m)(hs:p_ [l] X.env=[(a_,x_ l X.env)]:=by rfl):Lg X (.Tuple Su k tp) (.Call (.Name "enumerate" p) [l] [] pos) (Jp m):=by
 obtain⟨tl,pl,sl⟩:=h;refine⟨_,dL hg hm pl hs,?_⟩;intro B F H σ env R RS nb ok ex;unfold Jp at nb ok ex;refine sl.run RS (λr Sy er v F' H' R' iv Sh kp=>?_) (λx er=>by rw[er]at ex;exact ex x rfl) (λer=>by rw[er]at nb;exact nb rfl);rw[er]at nb ok;dsimp only at nb ok;obtain⟨F2,R2,i2,_⟩:=R'.freeze iv (λa q=>zK RS.fr q) Sh;obtain⟨o,t⟩:=r;cases t<;>try exact absurd rfl nb
 case lst us=>unfold Is at i2;obtain⟨a,vs,rfl,g1,g2⟩:=i2;exact⟨a,rfl,⟨vs,g1.sq⟩,ok _ _ rfl _ F2 H' R2 (uT g1 g2)⟩
def uU(m:ME):rp:=λenv=>(m env).bind λr=>match r.2 with|.lst ts=>.ok (km 0 ts)|_=>.bad
def We(hg:Gl X "enumerate")(hm:X.mg "enumerate"=f_)(h:jb X l m)(hs:p_ [l] X.env=[(a_,x_ l X.env)]:=by rfl):Jg X (.Tuple Su k tp) (.Call (.Name "enumerate" p) [l] [] pos) (uU m):=by
 obtain⟨tl,pl,sl⟩:=h;refine⟨_,dL hg hm pl hs,?_⟩;intro F H σ env R RE nb ok ex;unfold uU at nb ok ex;refine sl.val RE ↑m (λr1 e1 v1 F1 H1 x1 i1=>?_) λx z=>ex x ↑D;rw[e1,bind_ok]at nb ok;obtain⟨o,t⟩:=r1;dsimp only at nb ok i1;cases t<;>try exact absurd rfl nb
 case lst us=>unfold Is at i1;obtain⟨a,vs,rfl,g1,g2⟩:=i1;exact⟨a,rfl,⟨vs,g1.sq⟩,ok _ rfl _ F1 H1 x1 (uT g1 g2)⟩
structure Wf(P:sN)(w:sY)(K:d_)(mg:Str->Option g_)(y:Str)(a:h_)(kvs:List (Key×V))(tab:List (Str×Str)):Prop where
 at_:mg y=b_ (.ref a)obj:∃o es ep vs,K.lookup a=b_ o/\o.ExactDict/\o.data=.dict es ep/\KeysOf (zP P w) es/\Pairs (zP P w) es.toList vs/\(vs.map (·.1)).Nodup/\KV kvs vs
 rel:∀z x,tab.lookup z=b_ x->∃fa,mg x=b_ (.ref fa)/\jH kvs (.inr z)=b_ (.ref fa)
def Uc(D:Wf X.prog X.w X.K X.mg y a kvs tab)(hg:Gl X y)(hi:PE X i ty)(hs:Kn i)(hd:(y==↑x)=a_):PE X (.Subscript (.Name y p) i pos) (HN kvs ty):=by intro pins s σ H Q I h;refine XR O7.lookup hs (jk (gR (v:=.ref a) hg D.at_ rfl hd pins s σ H (λx H1=>x=.ref a/\H1=H) I ⟨rfl,rfl⟩) λu s1⟨x,H1,I1,rx,ex,eH⟩=>?_);subst ex eH;obtain rfl:u=sE a:=rx;refine jk (hi pins s1 σ H1 _ I1 h) λiv s2⟨z,H2,I2,rz,k,v,ez,ev,q⟩=>?_;subst ez;obtain⟨o,es,ep,vs,h1,h2,h3,h4,h5,h6,rel⟩:=D.obj;have dd:s2.heap.DictOf (zP X.prog X.w) a vs:=⟨o,es,ep,I2.kIn a o h1,h2,h3,h4,h5,h6⟩;obtain⟨w',hw,Td⟩:=pf.some_of (by rw[<-ev];exact rel.val k);exact⟨dd.typeIs,wpAny_getItem_of (lz rz) dd.mapOf hw ⟨v,H2,I2.tok _,Td,q⟩⟩
def Lj(X:Cx)(j n:Nat)(t:TA):TE:=λσ H Q=>∃fa k fd ps sp,(σ.length=X.N.length->σ[j]?=b_ (b_ (.ref fa)))/\kg X.prog X.w X.K X.mg X.base (lI X.prog X.w) k fa fd ps sp/\k<=n/\AC X.K (.ref fa)=e_/\gc X.K fd ps []/\rn X sp t σ H Q
def QG(hr:jT n X.A)(hx:PE X (.Name x p) (xJ j))(ha:PA X (e::es) t)(he:p_ (e::es) X.env=↑ae::p_ es X.env:=by rfl)(hpl:(AT pos (p_ es X.env)).any (·.1)=a_:=by rfl):PE X (.Call (.Name x p) (e::es) [] pos) (Lj X j n t):=by intro pins s σ H Q I h;obtain⟨fa,k,fd,ps,sp,hσ,F,hk,kp,hb,h⟩:=h;refine Ai (jk (hx pins s σ H (λv H'=>v=.ref fa/\H'=H) I ⟨_,hσ I.len,rfl,rfl⟩) λu s0⟨v,H0,I0,r0,ev,eH⟩=>?_);subst ev eH;obtain rfl:u=sE fa:=r0;refine G_ I0.ok.mod.kin kp (jk (ha pos pins s0 σ H0 _ I0 h) λus s1⟨vs,H1,I1,r,E,q,hx⟩=>⟨I1.kIn,?_⟩) he hpl;exact dI F (hr.mono hk) hb I1 r q λe oa H' z s' I'=>hx e oa H' z pins s' I'
def zN.skip{K:d_}{B:Bs}{F:h_->Prop}{H:Hp}{σ:St}{env:En}(R:zN K B F H σ env)(j:Nat)(v:V):zN K B F H (σ.set j (b_ v)) (env.set j f_):=by
 have hs:∀{i:Nat}{r:RV},(env.set j f_)[i]?=b_ (b_ r)->env[i]?=b_ (b_ r)/\(σ.set j (b_ v))[i]?=σ[i]?:=λ{i r}h=>by
  rcases jL h with⟨_,_,z⟩|⟨hj,h⟩;·cases z
  ·exact⟨h,AL (AE hj)⟩
 refine⟨R.fr,by rw[AD,AD];exact R.len,λi t h=>?_,λi t h=>?_,λi k t t' a h g s1 s2=>?_⟩;·rw[(hs h).2];exact R.vals i t (hs h).1
 ·rw[(hs h).2];exact R.owns i t (hs h).1
 ·rw[(hs h).2]at s1;rw[(hs g).2]at s2;exact R.sep i k t t' a (hs h).1 (hs g).1 s1 s2
def bo(z:Str):List (Str×MF)->Option MF|[]=>f_|r::rs=>if z=r.1 then b_ r.2 else bo z rs
def rN(j:Nat)(tab:List (Str×MF))(mk:ME)(ma:MA):MS:=λenv=>match jR mk env with|.ok (r,Sc)=>(match r.2 with|.str z=>(match bo z tab with|some f=>zA (zk f ma) (Sc.set j f_)|none=>.bad)|_=>.bad)|.exc x=>.exc x env|.bad=>.bad
def Ud(s:xW X t m):PH X (IQ t) (zA m):=by
 intro B F H σ env D R w;unfold zA at w;refine s.run R (λr Sc e v F' H' R' i _ _=>?_) (λx e ev F' H' R' i pins s' I=>?_) λe=>?_
 ·rw[e]at w;refine w v F' H' ⟨R'.fr,?_⟩;unfold kN at i⊢;split;·rename_i ho;rw[if_pos ho]at i;obtain⟨a,e,nf,fr,o⟩:=i;exact⟨a,e,nf,zK R.fr fr,o⟩
  ·rename_i ho;rw[if_neg ho]at i;exact i
 ·rw[e]at w;exact w ev F' H' σ R' i pins s' I
 ·rw[e]at w;exact w
def QH(X:Cx)(n:Nat)(fs:List (Str×Str)):List (Str×MF)->Prop|[]=>True|r::rs=>(∃x ps k,fs.lookup r.1=b_ x/\jc X.prog X.w X.K X.mg X.base k x ps r.2/\k<=n)/\QH X n fs rs
theorem Jq:∀{rs:List (Str×MF)},QH X n fs rs->bo z rs=b_ f->∃x ps k,fs.lookup z=b_ x/\jc X.prog X.w X.K X.mg X.base k x ps f/\k<=n
 |[],_,h=>by cases h|r::rs,g,h=>by
  unfold bo at h;split at h;·rename_i e;cases h;rw[e];exact g.1
  ·exact Jq g.2 h
def Lk(j:Nat)(D:∃a kvs,Wf X.prog X.w X.K X.mg y a kvs fs)(hr:jT n X.A)(hF:QH X n fs tab)(hg:Gl X y)(hi:jb X i mk)(hp:PG X (.Name x p1) (qJ j))(hx:PE X (.Name x p2) (xJ j))(ha:Yi X (e::es) ma)(hj:X.N[j]?=b_ x:=by rfl)(hs:Kn i:=by intro _ _;rfl)(hd:(y==↑x)=a_:=by decide)(he:p_ (e::es) X.env=↑ae::p_ es X.env:=by rfl)(hpl:(AT pos2 (p_ es X.env)).any (·.1)=a_:=by rfl)(hs1:swapsWithSole [.Name x p1] (.Subscript (.Name y p) i pos) p3.line X.env=pure a_:=by rfl)(hw:swappedStores [.Name x p1] (.Subscript (.Name y p) i pos) X.env=pure f_:=by rfl)(h1:(AM [.Name x p1] X.env).map (·.2)=[J' (.Name x p1) X.env]:=by rfl):uL X [.Assign [.Name x p1] (.Subscript (.Name y p) i pos) p3,.Return (b_ (.Call (.Name x p2) (e::es) [] pos2)) pos3] (rN j tab mk ma):=by
 obtain⟨a,kvs,D⟩:=D;obtain⟨ti,pi,si⟩:=hi;obtain⟨ta,pa,sa⟩:=ha;refine⟨_,kf (dY (Uc D hg pi hs hd) hp hs1 hw h1) (pL (oG (QG hr hx pa he hpl))),?_⟩;intro B F H σ env E R w;unfold rN at w;refine si.run R (λr Sc er v F' H' R' iv' Sh kp=>?_) (λx er ev F' H' R' ix pins s' I=>?_) λer=>?_
 ·rw[er]at w;obtain⟨o,t⟩:=r;dsimp only at w;cases t<;>try exact w.elim
  case str z=>dsimp only at w;cases o with|true=>obtain⟨_,_,_,_,_,z⟩:=iv'.there rfl;exact z.elim|false=>have iv':=iv'.is;unfold Is at iv';subst iv';cases hf:bo z tab with|none=>rw[hf]at w;exact w.elim|some f=>rw[hf]at w;dsimp only at w;obtain⟨nm,ps,k,Β,⟨fa,fd,FK,hm,hkp,hb⟩,hk⟩:=Jq hF hf;obtain⟨fa',hm',hv⟩:=D.rel z nm Β;rw[hm]at hm';cases hm';refine⟨.inr z,.ref fa,rfl,hv,?_⟩;exact⟨fa,k,fd,ps,_,λhl=>Ay (by rw[AD]at hl;rw[hl];exact(sP.mp hj).1),FK,hk,hkp,hb,Ud (tL sa) B F' H' _ _ E (R'.skip j _) w⟩
 ·rw[er]at w;exact w ev F' H' σ R' ix pins s' I
 ·rw[er]at w;exact w
abbrev Jr:=Str×Tok×h_×Str
def Ll{Q:Jr->Prop}:∀r∈([]:List Jr),Q r:=λ_ h=>nomatch h
def kX{Q:Jr->Prop}{r:Jr}{rows:List Jr}(h:Q r)(t:∀r∈rows,Q r):∀x∈r::rows,Q x:=λx hx=>(sB.mp hx).elim (λe=>e▸h) (t x)
def HU(r:Jr):aB:=(r.1,r.2.1,.ref r.2.2.1,.ref r.2.2.1,.non)
theorem QI{mg:Str->Option g_}(z x:Str):∀{rows:List Jr},(∀r∈rows,mg r.2.2.2=b_ (.ref r.2.2.1))->(rows.map λr=>(r.1,r.2.2.2)).lookup z=b_ x->∃fa,mg x=b_ (.ref fa)/\jH ((rows.map HU).map λr=>((.inr r.1:Key),r.2.2.2.1)) (.inr z)=b_ (.ref fa)
 |[],_,h=>by cases h|r::rows,g,h=>by
  by_cases e:z=r.1;·subst e;rw[sG,List.lookup_cons_self]at h;cases h;exact⟨_,g r m_,by simp[jH,HU]⟩
  ·have e2:((r::rows).map λr=>(r.1,r.2.2.2)).lookup z=(rows.map λr=>(r.1,r.2.2.2)).lookup z:=by simp[Ff,beq_eq_false_iff_ne.mpr e]
   rw[e2]at h;obtain⟨fa,h1,h2⟩:=QI z x (λq hq=>g q (k_ _ hq)) h;have:¬(Ap r.1:Key)=.inr z:=λq=>e (BS q).symm;exact⟨fa,h1,by rw[<-h2];simp[jH,HU,this]⟩
def HV{P:sN}{w:sY}{K:d_}{h:w_}{mg:Str->Option g_}{y:Str}{a:h_}(rows:List Jr)(X:K.In h)(G:h.Ns v_ mg)(g:FD K v_ y=b_ (b_ (.ref a)))(l:K.lookup a=b_ ⟨.type "dict",f_,.dict es ep,#[]⟩)(he:es.toList=(rows.map HU).map λr=>(⟨GQ w (.inr r.1),.str r.1 r.2.1,r.2.2.1⟩:S2))(nd:(rows.map (·.1)).Nodup)(hr:∀r∈rows,FD K v_ r.2.2.2=b_ (b_ (.ref r.2.2.1))):∃a kvs,Wf P w K mg y a kvs (rows.map λr=>(r.1,r.2.2.2)):=by
 refine⟨a,_,FH X G g,⟨_,es,ep,_,l,⟨rfl,rfl,rfl⟩,rfl,λe Ω=>?_,?_,?_,rK (rows:=rows.map HU) λr hr=>?_⟩,λz x=>QI z x λr q=>FH X G (hr r q)⟩
 ·have:e∈es.toList:=by simpa using Ω
  rw[he]at this;obtain⟨r,_,rfl⟩:=sH.mp this;exact⟨.inr r.1,gQ P w r.1 r.2.1,rfl⟩
 ·rw[he];exact mS _
 ·unfold BJ at nd⊢;rw[Ag]at nd;rw[Aa,Ag,Ag];exact nd.imp λTU z=>TU (BS z)
 ·obtain⟨q,_,rfl⟩:=sH.mp hr;rfl
end L3
namespace L3
open PySem PySem.Spec PyProof.Rows L2
def xI(ha:jb X a ma)(hb:jb X b mb)(hu:X.A.units+1<Fk:=by exact Zo hr)(hs:oO b:=by exactλ_ _=>rfl):jb X (.Subscript a b pos) (m2 zx ma mb):=V3 hu ha hb hs
def xT(ho:qR X (sX op) (rT X.K g))(ha:jb X a ma)(hb:jb X b mb)(hm:AY op b=a_:=by exact c6 _):ZG X (.Compare a [op] [b] pos) (jl (m2 g ma mb)):=pP ho xn ha hb hm
def xM(ho:qR X (sX op) (rT X.K g))(ha:jb X a ma)(hb:jb X b mb)(hm:AY op b=a_:=by exact c6 _):jb X (.Compare a [op] [b] pos) (m2 g ma mb):=ZH ho xn ha hb hm
def xO(ho:qR X (BU o) (rT X.K g))(ha:jb X a ma)(hb:jb X b mb):jb X (.BinOp a o b pos) (m2 g ma mb):=Ps ho xn ha hb
def oE(hu:X.A.units+40<Fk:=by exact PZ hr):qR X (sX .Eq) (rT X.K zZ):=Hw hu
def oN(hu:X.A.units+40<Fk:=by exact PZ hr):qR X (sX .NotEq) (rT X.K fG):=Hx hu
def xC(C:jc X.prog X.w X.K X.mg X.base k x ps f)(ha:Yi X (e::es) mA)(hR:jT k X.A:=by exact hr.mono ↑p)(hg:Gl X x:=by rfl)(SG:(x==↑x)=a_:=by decide)(he:p_ (e::es) X.env=↑ae::p_ es X.env:=by rfl)(hpl:(AT pos (p_ es X.env)).any (·.1)=a_:=by rfl):jb X (.Call (.Name x p) (e::es) [] pos) (zk f mA):=qT C hR hg ha SG he hpl
end L3
namespace L3
open PySem PySem.Spec PyProof.Rows L2 PySem.W
def Lm(P:sN)(w:sY)(K:Frag)(mg:Str->Option g_)(base:w_)(x:Str)(C:h_):Prop:=∃fI fd a b,WY K C fI/\kg P w K mg base (lI P w) 1 fI fd [a,b] (MC K fI)/\mg x=b_ ↑aa/\gc K fd [a,b] []
def bq(C:h_)(m:ME):MS:=λenv=>match jR m env with|.ok (r,Sc)=>(match r.1 with|false=>.exc ⟨C,r.2⟩ Sc|true=>.bad)|.exc x=>.exc x env|.bad=>.bad
def Ue(hC:Lm X.prog X.w X.K X.mg X.base x C)(hr:jT 2 X.A)(hg:Gl X x)(h:jb X arg m)(SG:(x==↑x)=a_:=by decide)(he:p_ [arg] X.env=[(a_,x_ arg X.env)]:=by rfl):eF X (.Raise (b_ (.Call (.Name x p) [arg] [] pos)) f_ pos2) (bq C m):=by obtain⟨fI,fd,a,b,XC,F,hm,hb⟩:=hC;obtain⟨t,pe,se⟩:=h;refine⟨_,Ks XC F hr hg hm hb (λouter H s e s'⟨_,_,_,_,_,_,_,z⟩=>z) (jY pe kC he) SG he,?_⟩;intro B F H σ env D R w;unfold bq at w;cases hq:jR m env with|bad=>rw[hq]at w;exact w.elim|exc x0=>rw[hq]at w;refine se.run R (λr Sc er=>by rw[hq]at er;cases er) (λx' er ev F' H' R' i pins s' I=>?_) (by rw[hq];intro z;cases z);rw[hq]at er;cases er;exact w ev F' H' σ R' i pins s' I|ok q=>obtain⟨⟨o,t0⟩,Sc⟩:=q;rw[hq]at w;dsimp only at w;cases o with|true=>exact w.elim|false=>refine se.run R (λr Sy er v F' H' R' iv Sh kp=>?_) (λx er=>by rw[hq]at er;cases er) (by rw[hq];intro z;cases z);rw[hq]at er;cases er;refine⟨v,rfl,λe d n1 n2 ne pins s' I=>?_⟩;have x1:jB F' H' F' (zO H' e (.xob C d)):=jB.alloc R'.fr.dom n1;have x2:jB F' (zO H' e (.xob C d)) F' (zO (zO H' e (.xob C d)) d (.xd [("at",v)])):=jB.alloc x1.dom (by rw[zg ne];exact n2);have x:=x1.trans x2;refine w _ F' _ σ (R'.ext x) ⟨e,rfl,?_⟩ pins s' I;unfold Is;exact⟨e,d,v,rfl,by rw[zg ne.symm,zm],zm,iv.is.mono x.kept⟩
def zN.unset{K:Frag}{B:Bs}{F:h_->Prop}{H:Hp}{σ:St}{env:En}(R:zN K B F H σ env)(i:Nat):zN K B F H (σ.set i f_) (env.set i f_):=by
 have hs:∀j,j≠i->(σ.set i f_)[j]?=σ[j]?:=λj hj=>AL (AE hj);have no:∀{j:Nat}{r:RV},(env.set i f_)[j]?=b_ (b_ r)->j≠i/\env[j]?=b_ (b_ r):=λe=>by
  rcases jL e with⟨rfl,hl,er⟩|⟨hj,e⟩;·cases er
  ·exact⟨hj,e⟩
 refine⟨R.fr,by rw[AD,AD];exact R.len,λj t e=>?_,λj t e=>?_,λj k t t' a e1 e2 s1 s2=>?_⟩;·rw[hs j (no e).1];exact R.vals j t (no e).2
 ·rw[hs j (no e).1];exact R.owns j t (no e).2
 ·rw[hs j (no e1).1]at s1;rw[hs k (no e2).1]at s2;exact R.sep j k t t' a (no e1).2 (no e2).2 s1 s2
def bindE(nm:Option Nat)(t:T)(env:En):En:=match nm with|none=>env|some i=>env.set i (b_ (a_,t))
def finE(nm:Option Nat)(env:En):En:=match nm with|none=>env|some i=>env.set i f_
def Uf(nm:Option Nat):V5->V5|.nx e=>.nx (finE nm e)|.bk e=>.bk (finE nm e)|.ct e=>.ct (finE nm e)|.rt r=>.rt r|_=>.bad
def bt(tab:List h_)(nm:Option Nat)(mb mh:MS):MS:=λenv=>match mb env with|.exc x Sc=>if x.C∈tab then Uf nm (mh (bindE nm (.exn x.C x.at_) Sc))else .bad|o=>o
theorem zN.bindE{K:Frag}{B:Bs}{F:h_->Prop}{H:Hp}{σ:St}{env:En}{t:T}{v:V}(nm:Option Nat)(R:zN K B F H σ env)(h:Is K F H t v):zN K B F H (N8 nm v σ) (bindE nm t env):=by cases nm with|none=>exact R|some i=>exact R.put (H:=H) i (jj h) (λa q=>zK R.fr q) λa z=>(R.own_not z).2.1
theorem zN.finE{K:Frag}{B:Bs}{F:h_->Prop}{H:Hp}{σ:St}{env:En}(nm:Option Nat)(R:zN K B F H σ env):zN K B F H (Pl nm σ) (finE nm env):=by cases nm with|none=>exact R|some i=>exact R.unset i
def gg.fin:∀{o:V5},gg X B D (Uf nm o)->gg (X.hdl ev) B (D.beh nm) o|.nx _,w=>λF H σ R=>w F H _ (R.finE nm)|.bk _,w=>λF H σ R=>w F H _ (R.finE nm)|.ct _,w=>λF H σ R=>w F H _ (R.finE nm)|.rt _,w=>w|.exc _ _,w=>w.elim|.bad,w=>w.elim
def _root_.L2.FlyN.sub(f:FlyN ps n H ev h)(s:∀p∈qs,p∈ps):FlyN qs n H ev h:=by obtain⟨e,oe,vs,a,b,c,d,g,r⟩:=f;exact⟨e,oe,vs,a,b,c,d,g,r.imp id λ⟨T,oT,ts,q1,q2,q3,q5,q4⟩=>⟨T,oT,ts,q1,q2,q3,λp z=>q5 p (s p z),q4⟩⟩
def Ln(Sx:X.stack=X.env::X.outer)(hfm:X.env.frame=b_ X.env.locals)(hg:Gl X cn)(hm:X.mg cn=b_ (.ref C2))(ht:∀C∈tab,exmOne X.K ↑aa (.ref C2)=b_ e_)(hn:MH X nmS nm)(hb:∀ps E,uL (X.wx ps E) body mb)(hh:∀ev,uL (X.hdl ev) (b0::bs) mh)(SG:(cn==↑x)=a_:=by decide):eF X (.Try body [.ExceptHandler (b_ (.Name cn p)) nmS (b0::bs) pos] [] [] pos2) (bt tab nm mb mh):=by refine⟨_,Pn,?_⟩;intro B F H σ env D R w pins;obtain⟨t,pb,sb⟩:=hb pins (XS X pins D [.ExceptHandler (b_ (.Name cn p)) nmS (b0::bs) pos]);refine⟨t,pb,sb B F H σ env D R ?_⟩;unfold bt at w;cases ho:mb env with|nx e=>rw[ho]at w;exact w|bk e=>rw[ho]at w;exact w|ct e=>rw[ho]at w;exact w|rt r=>rw[ho]at w;exact w|bad=>rw[ho]at w;exact w|exc x Sc=>
  rw[ho]at w;dsimp only at w;by_cases hC:x.C∈tab;·rw[if_pos hC]at w;intro ev F1 H1 σ1 R1 ix pins' s'⟨I,fl⟩;obtain⟨e,rfl,i0⟩:=ix;have i1:=i0;unfold Is at i1;obtain⟨e1,d,v,ee,h1,h2,h3⟩:=i1;cases ee;unfold XS;refine ZC (X:=X.wx pins (XS X pins D [.ExceptHandler (b_ (.Name cn p)) nmS (b0::bs) pos])) I Sx hfm h1 fl λh' J fl'=>?_;obtain⟨th,ph,sh⟩:=hh (.ref e);refine V0 J.ofWx h1 h2 (fl'.sub λq z=>?_) hg hm (ht _ hC) hn SG ph (sh B F1 H1 _ _ _ (R1.bindE nm i0) w.fin);exact A4 _ z
  ·rw[if_neg hC]at w;exact w.elim
def QJ(tab:List h_)(m:ME):ME:=λenv=>(m env).bind λr=>match r.2 with|.exn C t=>if C∈tab then .ok (a_,t)else .bad|_=>.bad
def HW(ht:∀C∈tab,N9 X.K C)(h:jb X e m)(hb:AZ e "at" X.env (x_ e X.env)=x_ e X.env:=by rfl):jb X (.Attribute e "at" pos) (QJ tab m):=by
 obtain⟨t,pe,se⟩:=h;refine⟨_,MK pe hb,?_⟩;intro F H σ env Q R nb ok ex;unfold QJ at nb ok ex;refine se.val R ↑m (λr e1 v F1 H1 x1 i1=>?_) λx z=>ex x ↑D;rw[e1,bind_ok]at nb ok;obtain⟨bb,t0⟩:=r;dsimp only at nb ok i1;cases t0<;>dsimp only at nb ok<;>try(exact absurd rfl nb)
 case exn C t1=>
  by_cases hC:C∈tab;·rw[if_pos hC]at ok;unfold Is at i1;obtain⟨e,d,v1,rfl,h1,h2,h3⟩:=i1;exact⟨e,C,d,_,v1,rfl,h1,h2,ht C hC,rfl,ok _ rfl _ F1 H1 x1 (jj h3)⟩
  ·rw[if_neg hC]at nb;exact absurd rfl nb
def Xc(tab:List (h_×Bool))(m:ME):ME:=λenv=>(m env).bind λr=>match r.2 with|.exn C _=>(match Le C tab with|some b=>.ok (a_,.bl b)|none=>.bad)|_=>.bad
def DK(c:V)(tab:List (h_×Bool)):List V->Hp->VK->Prop:=λxs H Q=>∃e C d fs b,xs=[.ref e,c]/\H e=b_ (.xob C d)/\H d=b_ (.xd fs)/\Le C tab=b_ b/\Q (.bl b) H
def Lo(rc:∀u,RelV c u->u=c')(ht:∀p∈tab,N9 X.K p.1/\kitOne X.K (.ref p.1) c'=b_ p.2):gw X (.builtin "isinstance") (DK c tab):=by intro pins s σ H xs us Q I r h;obtain⟨e,C,d,fs,b,rfl,h1,h2,hl,q⟩:=h;obtain⟨u,u2,rfl,ru,ru2⟩:=N4 r;obtain rfl:u=sE e:=ru;rw[rc u2 ru2];obtain⟨R,k⟩:=ht _ (Wb hl);exact ML I h1 h2 R k λtk=>⟨.bl b,H,I.tok _,rfl,q⟩
def QK(hg:Gl X "isinstance")(hm:X.mg "isinstance"=f_)(pc:PE X (.Name x p2) (tC c))(rc:∀u,RelV c u->u=c')(ht:∀p∈tab,N9 X.K p.1/\kitOne X.K (.ref p.1) c'=b_ p.2)(h:jb X e m)(hs:p_ (e::[.Name x p2]) X.env=↑ae::p_ [.Name x p2] X.env:=by rfl)(T9:p_ [.Name x p2] X.env=(a_,x_ (.Name x p2) X.env)::p_ [] X.env:=by rfl)(hpl:(AT pos (p_ [.Name x p2] X.env)).any (·.1)=a_:=by rfl):jb X (.Call (.Name "isinstance" p) [e,.Name x p2] [] pos) (Xc tab m):=by
 obtain⟨t,pe,se⟩:=h;refine⟨_,Zx (Lo rc ht) hg hm j0 (jY pe (jY pc kC T9) hs) (he:=hs) (hpl:=hpl),?_⟩;intro F H σ env Q R nb ok ex;unfold Xc at nb ok ex;refine se.val R ↑m (λr e1 v F1 H1 x1 i1=>?_) λx z=>ex x ↑D;rw[e1,bind_ok]at nb ok;obtain⟨bb,t0⟩:=r;dsimp only at nb ok i1;cases t0<;>dsimp only at nb ok<;>try(exact absurd rfl nb)
 case exn C t1=>cases hl:Le C tab with|none=>rw[hl]at nb;exact absurd rfl nb|some b=>rw[hl]at ok;unfold Is at i1;obtain⟨e,d,v1,rfl,h1,h2,h3⟩:=i1;exact⟨e,C,d,_,b,rfl,h1,h2,hl,ok _ rfl _ F1 H1 x1 (jj xX)⟩
def Lp(kvs:List (Key×V))(ty tx:TE):TE:=λσ H Q=>ty σ H λu H1=>tx σ H1 λz H2=>∃k,u=kV k/\Q ((jH kvs k).getD z) H2
def QL(D:bh X.prog X.w X.K X.mg y a kvs tab)(hg:Gl X y)(he:PE X e ty)(hf:PE X f tx)(m:M2 X (.Name y p) "get" Sf e f cpos)(hd:(y==↑x)=a_):PE X (.Call (.Attribute (.Name y p) "get" Sf) [e,f] [] cpos) (Lp kvs ty tx):=by intro pins s σ H Q I h;refine OG m.base m.few m.line FM Fs PySem.F.type_dict_get (jk (gR (v:=.ref a) hg D.mg rfl hd pins s σ H (λx H1=>x=.ref a/\H1=H) I ⟨rfl,rfl⟩) λu s1⟨x,H1,I1,rx,ex,eH⟩=>?_);subst ex eH;obtain rfl:u=sE a:=rx;obtain⟨vs,rel,dd⟩:=D.of I1;refine⟨dd.typeIs,λb q=>by cases q;obtain⟨ob,_,_,h1,h2,_⟩:=dd;exact⟨ob,h1,h2.2.1⟩,?_⟩;rw[m.trees];refine BH rfl (OV (AN (jk (he pins s1 σ H1 _ I1 h) λiv s2⟨y,H2,I2,ry,q2⟩=>AN (jk (hf pins s2 σ H2 _ I2 q2) λfv s3⟨z,H3,I3,rz,k,ek,q3⟩=>RI ?_))));subst ek;obtain⟨vs,rel,dd⟩:=D.of I3;exact Rh Fs dd.typeIs OF (PySem.F.args_dict_get_3 _ _ _) (meets_dict_get_default (zP X.prog X.w) a (lz ry) D.sys fv) ⟨_,dd.mapOf,_,H3,I3.tok _,(rel.val k).getD rz,q3⟩
def rO(tab:List (Str×T))(mi mz:ME):ME:=λenv=>(mi env).bind λk=>(mz env).bind λz=>match k.2 with|.str x=>.ok (a_,(tab.lookup x).getD z.2)|_=>.bad
def Wg(D:∃a kvs,bh X.prog X.w X.K X.mg y a kvs tab)(hg:Gl X y)(he:jb X e mi)(hf:jb X f mz)(m:M2 X (.Name y p) "get" Sf e f cpos:=by exact⟨rfl,rfl,rfl,rfl⟩)(hd:(y==↑x)=a_:=by decide):jb X (.Call (.Attribute (.Name y p) "get" Sf) [e,f] [] cpos) (rO tab mi mz):=by
 obtain⟨a,kvs,D⟩:=D;obtain⟨ti,pi,si⟩:=he;obtain⟨tz,pz,sz⟩:=hf;refine⟨_,QL D hg pi pz m hd,?_⟩;intro F H σ env Q R nb ok ex;unfold rO at nb ok ex;refine si.val R ↑m (λr1 e1 v1 F1 H1 x1 i1=>?_) λx z=>ex x ↑D;rw[e1,bind_ok]at nb ok ex;refine sz.val (R.mono x1) ↑m (λr2 e2 v2 F2 H2 x2 i2=>?_) λx z=>(ex x ↑D).mono x1;rw[e2,bind_ok]at nb ok;obtain⟨b,t⟩:=r1;dsimp only at nb ok i1;cases t<;>dsimp only at nb ok<;>try(exact absurd rfl nb)
 case str z=>unfold Is at i1;subst i1;refine⟨.inr z,rfl,ok _ rfl _ F2 H2 (x1.trans x2) (jj ?_)⟩;have:=D.rel F2 H2 z;cases hl:tab.lookup z with|none=>rw[this.2 hl];exact i2|some t=>obtain⟨v,hv,iv⟩:=this.1 t hl;rw[hv];exact iv
def Vp{K:Frag}{F:h_->Prop}{H:Hp}{p:h_}{od:Option h_}{a:Int}{ta:Tok}{n:Nat}{sl:Array (Option g_)}(l:K.lookup p=b_ ⟨.type "tuple",od,.seq #[.int a ta] n,sl⟩):Is K F H (.tup [.int a]) (.ref p):=by unfold Is;exact⟨p,[.int a],rfl,.inr ⟨_,_,_,l,rfl,rfl,by show 1<=j_;decide,.cons ⟨_,rfl⟩ .nil⟩,IsAll.cons (by unfold Is;rfl) IsAll.nil⟩
def Ug{K:Frag}{F:h_->Prop}{H:Hp}{p:h_}{od:Option h_}{a b:Int}{ta tb:Tok}{n:Nat}{sl:Array (Option g_)}(l:K.lookup p=b_ ⟨.type "tuple",od,.seq #[.int a ta,.int b tb] n,sl⟩):Is K F H (.tup [.int a,.int b]) (.ref p):=by unfold Is;exact⟨p,[.int a,.int b],rfl,.inr ⟨_,_,_,l,rfl,rfl,by show 2<=j_;decide,.cons ⟨_,rfl⟩ (.cons ⟨_,rfl⟩ .nil)⟩,IsAll.cons (by unfold Is;rfl) (IsAll.cons (by unfold Is;rfl) IsAll.nil)⟩
def Vq(K:Frag)(mg:Str->Option g_)(x Se:Str)(st:A2)(C:h_):Prop:=∃fI fd,WY K C fI/\fx K "__init__" Se st fI fd/\mg x=b_ ↑aa
def Vq.ok{P:sN}{w:sY}{K:Frag}{mg:Str->Option g_}{base:w_}{x Se a b:Str}{st:A2}{C:h_}{p1 p2 p3 pos:Pos}(h:Vq K mg x Se st C)(S:zd [a,b] [a,b] (za st))(hbd:j4 st=[.Assign [.Attribute (.Name a p1) "at" p3] (.Name b p2) pos])(hb:∀(kV Sq pm:g_)(an:Option h_)(Sg ct:g_)(us:List g_),↑h=[a,b].length->Of (A9 "__init__" Se (jQ st) (j4 st) (za st) .none kV Sq pm an Sg ct) ⟨us,[]⟩=pure ([a,b].zip us))(hd1:(a==↑x)=a_:=by decide)(Tm:(b==↑x)=a_:=by decide)(hc1:(a==("__classdict__":Str))=a_:=by decide)(Tq:(b==("__classdict__":Str))=a_:=by decide)(v1:Yd (za st) a:=by first|exact AW rfl|exact Ae (AW rfl)|exact Ae (Ae rfl))(v2:Yd (za st) b:=by first|exact AW rfl|exact Ae (AW rfl)|exact Ae (Ae rfl)):Lm P w K mg base x C:=by obtain⟨fI,fd,XC,F,hm⟩:=h;exact⟨fI,fd,a,b,XC,Pk F S hbd hd1 Tm hc1 Tq v1 v2,hm,F.binds hb⟩
end L3
namespace L2
open PySem PySem.Spec PyProof.Rows
def EM(b:Bool):String:=if b then"list_iterator"else"tuple_iterator"
def dN(h:w_)(b:Bool)(it l:h_)(i:Nat):Prop:=∃o,h.get? it=b_ o/\o.cls=.type (EM b)/\o.data=.fields #[.ref l,.int i 0]
def aC(h:w_)(b:Bool)(l:h_)(xs:Array g_):Prop:=∃o,h.get? l=b_ o/\o.cls=.type (if b then"list"else"tuple")/\∃n,o.data=.seq xs n
def dN.at(x:dN h b it l i)(k:∀o,h.get? it=b_ o->h'.get? it=b_ o):dN h' b it l i:=let⟨o,e,r⟩:=x;⟨o,k o e,r⟩
def aC.at(x:aC h b l xs)(k:∀o,h.get? l=b_ o->h'.get? l=b_ o):aC h' b l xs:=let⟨o,e,r⟩:=x;⟨o,k o e,r⟩
section
variable{prog:sN}{w:sY}{A:A3}{E:g_->l_->Prop}{s:l_}{b b1 b2:Bool}{z TI TO i1 i2 l1 l2 it l:h_}{k k1 k2:Nat}{xs ys:Array g_}{x y u v:g_}
theorem Nr(hl:aC s.heap b l xs)(hQ:Q (.ref ↑a) {s with heap:=s.heap.push {cls:=.type (EM b),data:=.fields #[.ref l,.int 0 0]}}):o_ ↑w A (pyIter (.ref l)) Q E s:=by
 cases b;·exact iter_tuple hl hQ
 ·exact L_ hl hQ
theorem QM(T5:dN s.heap b it l k)(hl:aC s.heap b l xs)(hx:xs[k]?=b_ x)(hQ:∀h',dN h' b it l (k+1)->Bx it s.heap h'->Q x {s with heap:=h'}):o_ ↑w A (A8 (.ref it)) Q E s:=by
 cases b;·obtain⟨o,ho,hc,hd⟩:=T5;obtain⟨p,hp,_,n,hs⟩:=hl;have ty:s.TypeIs (.ref it) "tuple_iterator":=⟨o,ho,hc⟩;unfold A8;refine c_ (BC (name:=Str.ofString "__next__") ty Oc (BN Oc ty entry_tupleiter_next ?_ (args_tupleiter_next _)));refine c_ (m:=field (.ref it) 0) (Ab ho hd (x:=.ref l) rfl ?_);refine c_ (m:=field (.ref it) 1) (Ab ho hd (x:=.int k 0) rfl (c_ (m:=seqItems? (.ref l)) (BX hp hs ?_)));simp only[FA,hx];exact c_ (N_ ho hd ↑G (i_ ⟨x,rfl,i_ (hQ _ ⟨_,Fr _ ho (OJ (Fo hd _)),(Obj.cls_mapFields ..).trans hc,by rw[Fo hd];simp[OL]⟩ (Bx.update ..))⟩))
 ·exact wpAny_nextOf_list_item T5 hl hx hQ
theorem HX(hh:A.handled=f_)(T5:dN s.heap b it l k)(hl:aC s.heap b l xs)(hx:xs[k]?=f_)(hE:∀h' e,w_.ExtBut it s.heap h'->(∃o,h'.get? e=b_ o/\o.cls=.type "StopIteration")->E (.ref e) {s with heap:=h'}):o_ ↑w A (A8 (.ref it)) Q E s:=by
 cases b
 ·obtain⟨o,ho,hc,hd⟩:=T5;obtain⟨p,hp,_,n,hs⟩:=hl;have ty:s.TypeIs (.ref it) "tuple_iterator":=⟨o,ho,hc⟩;unfold A8;refine c_ (BC (name:=Str.ofString "__next__") ty Oc (BN Oc ty entry_tupleiter_next ?_ (args_tupleiter_next _)));refine c_ (m:=field (.ref it) 0) (Ab ho hd (x:=.ref l) rfl ?_);refine c_ (m:=field (.ref it) 1) (Ab ho hd (x:=.int k 0) rfl (c_ (m:=seqItems? (.ref l)) (BX hp hs ?_)));simp only[FA,hx];refine c_ (wpAny_rule (c_ (N_ ho hd ↑G (c_ (m:=newExc (.type "StopIteration") []) ?_))));simp only[newExc,newTuple];refine c_ (AJ (c_ (m:=firstArgMember _ _) (wpAny_of_eq (a:=sZ) (by first|rfl|(simp only[firstArgMember];rfl)) (AJ ?_ (by size_fits)))) (by size_fits));simp only[raiseNew];refine c_ (wpAny_handled ?_);first|rw[show A.in1.handled=f_ from hh]|rw[hh]
  exact c_ (i_ (wpAny_throw (hE _ _ (((Bx.update ..).extBut.push _).push _) ⟨_,sf _ rfl,rfl⟩)))
 ·exact wpAny_nextOf_list_end hh T5 hl hx hE
theorem Vr{Q:g_->l_->Prop}(D:ZipApart z TI TO i1 i2 l1 l2)(hz:Rb s.heap z TI TO .none)(T4:Fv s.heap TI (.ref i1) (.ref i2))(T7:Fv s.heap TO u v)(h1:dN s.heap b1 i1 l1 k1)(h2:dN s.heap b2 i2 l2 k2)(Ta:aC s.heap b1 l1 xs)(hl2:aC s.heap b2 l2 ys)(hx:xs[k1]?=b_ x)(hy:ys[k2]?=b_ y)(hQ:∀h',Rb h' z TI TO (OL ↑a)->Fv h' TO x y->dN h' b1 i1 l1 (k1+1)->dN h' b2 i2 l2 (k2+1)->Fv h' ↑a x y->h'.objs.size=↑a+1->(∀c o,c∉[z,TO,i1,i2]->s.heap.get? c=b_ o->h'.get? c=b_ o)->Q (.ref ↑a) {s with heap:=h'}):o_ ↑w A (BL.«zip.__next__» ⟨[.ref z],[]⟩) (λfin s'=>∃v,fin=.done (.ret v)/\Q v s') E s:=by
 refine c_ (m:=field (.ref z) 2) (Ab hz rfl (x:=.bool a_) rfl ?_);refine c_ (m:=field (.ref z) 3) (Ab hz rfl (x:=.ref TI) rfl (c_ (BX T4 rfl ?_)));refine c_ (m:=Bw (.ref z)) ?_;unfold Bw;refine c_ (Ab hz rfl (x:=.none) rfl (i_ ?_));simp only[if_true];refine c_ (wpAny_rule (c_ (Ab hz rfl (x:=.ref TO) rfl (c_ (Fq hz ↑G λg1 z1 e1=>?_)))));replace z1:Rb g1 z TI TO .ellipsis:=z1;refine c_ ?_;simp only[Sa,List.zipIdx_nil,List.forIn_cons,List.forIn_nil];refine c_ (c_ (OQ ?_));refine c_ (m:=A8 (.ref i1)) (QM (h1.at λo e=>e1.extBut _ _ D.i1z e) (Ta.at λo e=>e1.extBut _ _ D.l1z e) hx λg2 a2 e2=>i_ ?_);have t2:Fv g2 TO u v:=e2.extBut _ _ D.TOi1 (e1.extBut _ _ D.TOz T7);refine c_ (BX t2 rfl (c_ (OW t2 λg3 t3 e3=>?_)));replace t3:Fv g3 TO x v:=t3;refine c_ (wpAny_letGo (i_ (c_ (c_ (OQ ?_)))));refine c_ (m:=A8 (.ref i2)) (QM (h2.at λo e=>e3.extBut _ _ D.TOi2.symm (e2.extBut _ _ D.i12.symm (e1.extBut _ _ D.i2z e))) (hl2.at λo e=>e3.extBut _ _ D.l2TO (e2.extBut _ _ D.l2i1 (e1.extBut _ _ D.l2z e))) hy λg4 a4 e4=>i_ ?_);have t4:Fv g4 TO x v:=e4.extBut _ _ D.TOi2 t3;refine c_ (BX t4 rfl (c_ (OW t4 λg5 t5 e5=>?_)));replace t5:Fv g5 TO x y:=t5;refine c_ (wpAny_letGo (i_ (i_ (c_ (BX t5 rfl (c_ (wpAny_newTuple ?_)))))));have hsz:g5.objs.size=↑a:=by rw[e5.1,e4.1,e3.1,e2.1,e1.1]
 have z5:Rb g5 z TI TO .ellipsis:=e5.extBut _ _ D.TOz.symm (e4.extBut _ _ D.i2z.symm (e3.extBut _ _ D.TOz.symm (e2.extBut _ _ D.i1z.symm z1)));have k5:∀c o,c∉[z,TO,i1,i2]->s.heap.get? c=b_ o->g5.get? c=b_ o:=λc o hc e=>by simp only[sB,A7,or_false,not_or]at hc;exact e5.extBut _ _ hc.2.1 (e4.extBut _ _ hc.2.2.2 (e3.extBut _ _ hc.2.1 (e2.extBut _ _ hc.2.2.1 (e1.extBut _ _ hc.1 e))))
 have a5:dN g5 b1 i1 l1 (k1+1):=a2.at λo e=>e5.extBut _ _ D.TOi1.symm (e4.extBut _ _ D.i12 (e3.extBut _ _ D.TOi1.symm e));have c5:dN g5 b2 i2 l2 (k2+1):=a4.at λo e=>e5.extBut _ _ D.TOi2.symm e;have zl:z<g5.objs.size:=n_ z5;refine c_ (m:=Od (.ref z) (.ref g5.objs.size)) ?_;unfold Od;have z6:Rb (g5.push {cls:=.type "tuple",data:=.seq #[x,y]}) z TI TO .ellipsis:=f' _ z5;refine c_ (Fq z6 ↑G λg7 z7 e7=>?_);replace z7:Rb g7 z TI TO (OL g5.objs.size):=z7;refine Fq z7 ↑G λg8 z8 e8=>?_;replace z8:Rb g8 z TI TO (OL g5.objs.size):=z8;have up:∀c o,c≠z->g5.get? c=b_ o->g8.get? c=b_ o:=λc o c1 e=>e8.extBut _ _ c1 (e7.extBut _ _ c1 (f' _ e));have p8:Fv g8 g5.objs.size x y:=e8.extBut _ _ (Fb zl) (e7.extBut _ _ (Fb zl) (sf _ rfl));have s8:g8.objs.size=g5.objs.size+1:=by rw[e8.1,e7.1,At]
 rw[hsz]at z8 p8 s8;refine i_ ⟨_,rfl,?_⟩;show Q (.ref g5.objs.size) _;rw[hsz];exact hQ g8 z8 (up _ _ D.TOz t5) (a5.at λo e=>up _ o D.i1z e) (c5.at λo e=>up _ o D.i2z e) p8 s8 λc o hc e=>up c o (λq=>hc (by simp[q])) (k5 c o hc e)
theorem QN(hh:A.handled=f_)(D:ZipApart z TI TO i1 i2 l1 l2)(hz:Rb s.heap z TI TO .none)(T4:Fv s.heap TI (.ref i1) (.ref i2))(T7:Fv s.heap TO u v)(h1:dN s.heap b1 i1 l1 k1)(h2:dN s.heap b2 i2 l2 k2)(Ta:aC s.heap b1 l1 xs)(hl2:aC s.heap b2 l2 ys)(δ:xs[k1]?=f_\/ys[k2]?=f_)(hE:∀h' e,(∀c o,c∉[z,TO,i1,i2]->s.heap.get? c=b_ o->h'.get? c=b_ o)->(∃o,h'.get? e=b_ o/\o.cls=.type "StopIteration")->E (.ref e) {s with heap:=h'}):o_ ↑w A (BL.«zip.__next__» ⟨[.ref z],[]⟩) Q E s:=by
 refine c_ (m:=field (.ref z) 2) (Ab hz rfl (x:=.bool a_) rfl ?_);refine c_ (m:=field (.ref z) 3) (Ab hz rfl (x:=.ref TI) rfl (c_ (BX T4 rfl ?_)));refine c_ (m:=Bw (.ref z)) ?_;unfold Bw;refine c_ (Ab hz rfl (x:=.none) rfl (i_ ?_));simp only[if_true];refine c_ (wpAny_rule (c_ (Ab hz rfl (x:=.ref TO) rfl (c_ (Fq hz ↑G λg1 z1 e1=>?_)))));replace z1:Rb g1 z TI TO .ellipsis:=z1;refine c_ ?_;simp only[Sa,List.zipIdx_nil,List.forIn_cons,List.forIn_nil];refine c_ (c_ (OQ ?_));have nc:∀{c:h_},c∉[z,TO,i1,i2]->c≠z/\c≠TO/\c≠i1/\c≠i2:=λh=>by simpa only[sB,A7,or_false,not_or]using h
 have nz:∀{g:w_}{e:h_}{o:Obj},Rb g z TI TO .ellipsis->g.get? e=b_ o->o.cls=.type "StopIteration"->e≠z:=λa b c q=>by subst q;rw[a]at b;cases b;simp at c
 cases hx:xs[k1]? with|none=>refine c_ (m:=A8 (.ref i1)) (HX hh (h1.at λo e=>e1.extBut _ _ D.i1z e) (Ta.at λo e=>e1.extBut _ _ D.l1z e) hx λg2 e e2⟨oe,he,ce⟩=>?_);have z2:Rb g2 z TI TO .ellipsis:=e2 _ _ D.i1z.symm z1;exact Fq z2 ↑G λg3 _ e3=>hE g3 e (λc o hc q=>e3.extBut _ _ (nc hc).1 (e2 _ _ (nc hc).2.2.1 (e1.extBut _ _ (nc hc).1 q))) ⟨oe,e3.extBut _ _ (nz z2 he ce) he,ce⟩|some x=>have hy:ys[k2]?=f_:=δ.resolve_left (by rw[hx];exactλq=>by cases q);refine c_ (m:=A8 (.ref i1)) (QM (h1.at λo e=>e1.extBut _ _ D.i1z e) (Ta.at λo e=>e1.extBut _ _ D.l1z e) hx λg2 a2 e2=>i_ ?_);have t2:Fv g2 TO u v:=e2.extBut _ _ D.TOi1 (e1.extBut _ _ D.TOz T7);refine c_ (BX t2 rfl (c_ (OW t2 λg3 t3 e3=>?_)));refine c_ (wpAny_letGo (i_ (c_ (c_ (OQ ?_)))));refine c_ (m:=A8 (.ref i2)) (HX hh (h2.at λo e=>e3.extBut _ _ D.TOi2.symm (e2.extBut _ _ D.i12.symm (e1.extBut _ _ D.i2z e))) (hl2.at λo e=>e3.extBut _ _ D.l2TO (e2.extBut _ _ D.l2i1 (e1.extBut _ _ D.l2z e))) hy λg4 e e4⟨oe,he,ce⟩=>?_);have z4:Rb g4 z TI TO .ellipsis:=e4 _ _ D.i2z.symm (e3.extBut _ _ D.TOz.symm (e2.extBut _ _ D.i1z.symm z1));exact Fq z4 ↑G λg5 _ e5=>hE g5 e (λc o hc q=>e5.extBut _ _ (nc hc).1 (e4 _ _ (nc hc).2.2.2 (e3.extBut _ _ (nc hc).2.1 (e2.extBut _ _ (nc hc).2.2.1 (e1.extBut _ _ (nc hc).1 q))))) ⟨oe,e5.extBut _ _ (nz z4 he ce) he,ce⟩
theorem Js(D:ZipApart z TI TO i1 i2 l1 l2)(hz:Rb s.heap z TI TO .none)(T4:Fv s.heap TI (.ref i1) (.ref i2))(T7:Fv s.heap TO u v)(h1:dN s.heap b1 i1 l1 k1)(h2:dN s.heap b2 i2 l2 k2)(Ta:aC s.heap b1 l1 xs)(hl2:aC s.heap b2 l2 ys)(hx:xs[k1]?=b_ x)(hy:ys[k2]?=b_ y)(hQ:∀h',Rb h' z TI TO (OL ↑a)->Fv h' TO x y->dN h' b1 i1 l1 (k1+1)->dN h' b2 i2 l2 (k2+1)->Fv h' ↑a x y->h'.objs.size=↑a+1->(∀c o,c∉[z,TO,i1,i2]->s.heap.get? c=b_ o->h'.get? c=b_ o)->Q (b_ (.ref ↑a)) {s with heap:=h'}):o_ ↑w A (RL (.ref z)) Q E s:=by have hT:s.TypeIs (.ref z) "zip":=⟨_,hz,rfl⟩;unfold RL;exact c_ (OR (BC (name:=Str.ofString "__next__") hT R6 (BN R6 hT F.entry_zip_next (Vr D hz T4 T7 h1 h2 Ta hl2 hx hy λh' a1 a2 a3 a4 a5 a6 a7=>i_ (hQ h' a1 a2 a3 a4 a5 a6 a7)) (F.args_zip_next_1 _))))
theorem Jt(hh:A.handled=f_)(D:ZipApart z TI TO i1 i2 l1 l2)(hz:Rb s.heap z TI TO .none)(T4:Fv s.heap TI (.ref i1) (.ref i2))(T7:Fv s.heap TO u v)(h1:dN s.heap b1 i1 l1 k1)(h2:dN s.heap b2 i2 l2 k2)(Ta:aC s.heap b1 l1 xs)(hl2:aC s.heap b2 l2 ys)(δ:xs[k1]?=f_\/ys[k2]?=f_)(hQ:∀h',(∀c o,c∉[z,TO,i1,i2]->s.heap.get? c=b_ o->h'.get? c=b_ o)->Q f_ {s with heap:=h'}):o_ ↑w A (RL (.ref z)) Q E s:=by have hT:s.TypeIs (.ref z) "zip":=⟨_,hz,rfl⟩;unfold RL;exact c_ (OR (BC (name:=Str.ofString "__next__") hT R6 (BN R6 hT F.entry_zip_next (QN hh D hz T4 T7 h1 h2 Ta hl2 δ λh' e hk⟨o,ho,hc⟩=>c_ (wpAny_isInstance (T:="StopIteration") (b:=e_) ⟨o,ho,hc⟩ isSubtype_stop (i_ (hQ _ hk)))) (F.args_zip_next_1 _))))
def HY(h:w_)(b:Bool)(l:h_):w_:=h.push {cls:=.type (EM b),data:=.fields #[.ref l,.int 0 0]}
def EN(h:w_)(b1 b2:Bool)(l1 l2:h_):w_:=HY (HY h b1 l1) b2 l2
def EO(h:w_)(b1 b2:Bool)(l1 l2:h_):w_:=(EN h b1 b2 l1 l2).push {cls:=.type "tuple",data:=.seq #[.ref h.objs.size,.ref (HY h b1 l1).objs.size]}
def EQ(h:w_)(b1 b2:Bool)(l1 l2:h_):w_:=(EO h b1 b2 l1 l2).push {cls:=.type "tuple",data:=.seq #[.none,.none]}
def IC(h:w_)(b1 b2:Bool)(l1 l2:h_):w_:=(EQ h b1 b2 l1 l2).push {cls:=.type "zip",data:=.fields #[.none,.bool a_,.bool a_,.ref (EN h b1 b2 l1 l2).objs.size,.ref (EO h b1 b2 l1 l2).objs.size]}
theorem DL(b1 b2:Bool)(l1 l2:h_)(xs ys:Array g_):Meets (BL.«zip.__new__» ⟨[.type "zip",.ref l1,.ref l2],[]⟩) (λ_ R s=>aC s.heap b1 l1 xs/\aC s.heap b2 l2 ys/\R (.ok (.ret (.ref (EQ s.heap b1 b2 l1 l2).objs.size))) {s with heap:=IC s.heap b1 b2 l1 l2}):=.of_wp λprog w A R s h=>by obtain⟨hp,g,d,tk,os⟩:=s;obtain⟨Ta,hl2,h⟩:=h;have hsub:=sub_zip;have hL1:aC (l_.heap ⟨hp,g,d,tk,os⟩) b1 l1 xs:=Ta;have hL2:aC (l_.heap ⟨hp.push {cls:=.type (EM b1),data:=.fields #[.ref l1,.int 0 0]},g,d,tk,os⟩) b2 l2 ys:=hl2.at λo e=>f' _ e;wp_walk using Nr hL1,Nr hL2;exact⟨_,rfl,h⟩
theorem Vs(Ta:aC s.heap b1 l1 xs)(hl2:aC s.heap b2 l2 ys)(h:∀h',Rb h' (↑a+4) (↑a+2) (↑a+3) .none->Fv h' (↑a+2) (.ref ↑a) (.ref (↑a+1))->Fv h' (↑a+3) .none .none->dN h' b1 ↑a l1 0->dN h' b2 (↑a+1) l2 0->(∀c o,s.heap.get? c=b_ o->h'.get? c=b_ o)->Q (.ref (↑a+4)) {s with heap:=h'}):o_ ↑w A (call (.type "zip") [.ref l1,.ref l2]) Q E s:=by refine callType_new F.called_zip ↑o (F.typeCall_zip_2 _ _) (F.newCall_zip_2 _ _) (λobj=>F.args_object_init_3 obj _ _) F.entry_zip_new (DL b1 b2 l1 l2 xs ys) ⟨Ta,hl2,?_⟩;have q1:(HY s.heap b1 l1).objs.size=↑a+1:=At ..;have q2:(EN s.heap b1 b2 l1 l2).objs.size=↑a+2:=(At ..).trans (by rw[q1]);have q3:(EO s.heap b1 b2 l1 l2).objs.size=↑a+3:=(At ..).trans (by rw[q2]);have q4:(EQ s.heap b1 b2 l1 l2).objs.size=↑a+4:=(At ..).trans (by rw[q3]);have g5:(IC s.heap b1 b2 l1 l2).get? (EQ s.heap b1 b2 l1 l2).objs.size=b_ _:=sf _ rfl;have g4:(IC s.heap b1 b2 l1 l2).get? (EO s.heap b1 b2 l1 l2).objs.size=b_ _:=f' _ (sf _ rfl);have g3:(IC s.heap b1 b2 l1 l2).get? (EN s.heap b1 b2 l1 l2).objs.size=b_ _:=f' _ (f' _ (sf _ rfl));have g2:(IC s.heap b1 b2 l1 l2).get? (HY s.heap b1 l1).objs.size=b_ _:=f' _ (f' _ (f' _ (sf _ rfl)));have g1:(IC s.heap b1 b2 l1 l2).get? ↑a=b_ _:=f' _ (f' _ (f' _ (f' _ (sf _ rfl))));show _/\_;rw[q2,q3,q4]at g5;rw[q1,q2]at g3;rw[q3]at g4;rw[q1]at g2;rw[q4];exact⟨⟨_,g5,rfl⟩,h _ g5 g3 g4 ⟨_,g1,rfl,rfl⟩ ⟨_,g2,rfl,rfl⟩ λc o x=>f' _ (f' _ (f' _ (f' _ (f' _ x))))⟩
end
def VX(b:Bool)(K:d_)(H:Hp)(a:h_)(xs:List V):Prop:=if b then lu K H a xs else lq K H a xs
def DM(K:d_)(b1 b2:Bool)(l1 l2:h_):It:=⟨λi H=>∃xs ys x y,VX b1 K H l1 xs/\VX b2 K H l2 ys/\xs[i]?=b_ x/\ys[i]?=b_ y,λi H v H'=>∃T x y,H T=f_/\v=.ref T/\H'=zO H T (.tup [x,y])/\(∀xs,VX b1 K H l1 xs->xs[i]?=b_ x)/\∀ys,VX b2 K H l2 ys->ys[i]?=b_ y,λi H=>∃xs ys,VX b1 K H l1 xs/\VX b2 K H l2 ys/\(↑e<=i\/ys.length<=i)⟩
section
variable{X:Cx}{pins:List (h_×Obj)}{σ:St}{H:Hp}{s:l_}{a:h_}{xs ys:List V}{b:Bool}
theorem zu.sqB(I:zu X pins σ H s)(h:VX b X.K H a xs):∃its:List g_,zQ xs its/\aC s.heap b a its.toArray:=by
 cases b;·obtain⟨its,r,p,_⟩:=I.tuple h;exact⟨its,r,p⟩
 ·obtain⟨its,r,p,_⟩:=I.list h;exact⟨its,r,p.isList⟩
theorem zu.sqB_inj(I:zu X pins σ H s)(h:VX b X.K H a xs)(h':VX b X.K H a ys):xs=ys:=by
 cases b;·exact I.tuple_inj h h'
 ·exact I.list_inj h h'
theorem zu.turns{h':w_}{tk:Nat}{ch:List h_}(I:zu X pins σ H s)(hf:∀b∈ch,uD X pins H b)(k:∀b o,b∉ch->s.heap.get? b=b_ o->h'.get? b=b_ o):zu X pins σ H {s with heap:=h',toks:=tk}:=by
 have TB:∀b u,H b=b_ u->b∉ch:=λb u e z=>by rw[(hf b z).1]at e;cases e
 refine I.call' rfl ⟨λb o e n hb hx=>k b o hx e,λb o e n hb hx=>⟨o.slots,k b o hx e⟩,λb o e n hx=>n,λb o e hx=>⟨o,k b o hx e⟩,λb ys q=>q,λb o u q=>q,λb ps q=>⟨#[],by rw[BP];exact q⟩⟩ (λb u e=>?_) I.bare λb hb=>⟨(hf b hb).2.2.2.1,(hf b hb).2.1,(hf b hb).2.2.2.2.1,(hf b hb).2.2.2.2.2⟩;refine(I.hok b u e).stay (λc v hc q=>k c v ?_ q) (λc q=>q) λc xs q=>q;rcases hc with rfl|hc;·exact TB _ _ e
 ·exact TB _ _ hc
end
def QO{P:sN}{w:sY}{K:d_}{Su:List A1}{k:Nat}{tp:Pos}(b1 b2:Bool)(z TI TO i1 i2 l1 l2:h_)(D:ZipApart z TI TO i1 i2 l1 l2):Zv P w K (.Tuple Su k tp) (DM K b1 b2 l1 l2) [z,TI,TO,i1,i2] z (λi h=>Rb h z TI TO .none/\Fv h TI (.ref i1) (.ref i2)/\(∃a b,Fv h TO a b)/\dN h b1 i1 l1 i/\dN h b2 i2 l2 i)where
 mem:=by simp
 obj:=λi h⟨hz,T4,⟨u,v,T7⟩,⟨o1,e1,_,d1⟩,⟨o2,e2,_,d2⟩⟩b hb=>by
  simp only[sB,A7,or_false]at hb;rcases hb with rfl|rfl|rfl|rfl|rfl;·exact⟨_,hz,λv q=>by have q':Data.fields _=Data.cell v:=q;cases q'⟩
  ·exact⟨_,T4,λv q=>by have q':Data.seq _ _=Data.cell v:=q;cases q'⟩
  ·exact⟨_,T7,λv q=>by have q':Data.seq _ _=Data.cell v:=q;cases q'⟩
  ·exact⟨_,e1,λv q=>by rw[d1]at q;cases q⟩
  ·exact⟨_,e2,λv q=>by rw[d2]at q;cases q⟩
 keep:=λi h h'⟨hz,T4,⟨u,v,T7⟩,h1,h2⟩k=>⟨k z ↑G _ hz,k TI ↑G _ T4,⟨u,v,k TO ↑G _ T7⟩,h1.at λo q=>k i1 ↑G o q,h2.at λo q=>k i2 ↑G o q⟩;item:=by
  intro X hP hw hK hc i pins s σ H E I hf st hg;subst hP hw hK;obtain⟨xs,ys,x,y,X',TJ,hx,hy⟩:=hg;obtain⟨its1,rv1,p1⟩:=I.sqB X';obtain⟨its2,rv2,p2⟩:=I.sqB TJ;obtain⟨u1,Zo,ru1⟩:=rv1.get hx;obtain⟨u2,hu2,ru2⟩:=rv2.get hy;obtain⟨hz,T4,⟨ou,ov,T7⟩,h1,h2⟩:=st;have Β:∀b∈[z,TO,i1,i2],uD X pins H b:=λb hb=>hf b (by simp only[sB,A7,or_false]at hb⊢;rcases hb with q|q|q|q<;>simp[q]);refine Js D hz T4 T7 h1 h2 p1 p2 (by simpa using Zo) (by simpa using hu2) λh' a1 a2 a3 a4 a5 a6 hk=>?_;have I1:zu X pins σ (zO H ↑a (.tup [x,y])) {s with heap:=h'}:=I.turnT (tk:=s.toks) Β hk (r_ _) (by show 2<=j_;decide) (.cons ru1 (.cons ru2 .nil)) ⟨_,a5,rfl,_,rfl⟩;have ne:∀b o,s.heap.get? b=b_ o->b≠↑a:=λb o q=>su (n_ q);have hTI':Fv h' TI (.ref i1) (.ref i2):=hk _ _ (by simp only[sB,A7,or_false,not_or];exact⟨D.TIz,D.TITO,D.TIi1,D.TIi2⟩) T4;refine⟨_,rfl,wpAny_letOwnedTupleGo_zip a1 λg2 z2 e2=>?_⟩;obtain⟨f0,f1,f2,f3,f4,f5⟩:=hf z ↑G;refine⟨.ref ↑a,_,I1.turned (t':=s.toks) (λb o hb q=>(e2.2 b hb).trans q) (by rw[zg (ne _ _ hz)];exact f0) f1 f3 f4 f5,rfl,⟨_,x,y,I.hok.fresh (r_ _),rfl,rfl,λzs q=>by rw[I.sqB_inj q X'];exact hx,λzs q=>by rw[I.sqB_inj q TJ];exact hy⟩,⟨z2,e2.extBut _ _ D.TIz hTI',⟨_,_,e2.extBut _ _ D.TOz a2⟩,a3.at λo q=>e2.extBut _ _ D.i1z q,a4.at λo q=>e2.extBut _ _ D.i2z q⟩,λb hb=>?_⟩;rw[zg];·exact(hf b hb).1
  ·simp only[sB,A7,or_false]at hb;rcases hb with rfl|rfl|rfl|rfl|rfl;·exact ne _ _ hz
   ·exact ne _ _ T4
   ·exact ne _ _ T7
   ·obtain⟨o,q,_⟩:=h1;exact ne _ _ q
   ·obtain⟨o,q,_⟩:=h2;exact ne _ _ q
 done:=by intro X hP hw hK hc i pins s σ H E I hf st hg;subst hP hw hK;obtain⟨xs,ys,X',TJ,hx⟩:=hg;obtain⟨its1,rv1,p1⟩:=I.sqB X';obtain⟨its2,rv2,p2⟩:=I.sqB TJ;obtain⟨hz,T4,⟨ou,ov,T7⟩,h1,h2⟩:=st;have e1:=rv1.length;have e2:=rv2.length;have Β:∀b∈[z,TO,i1,i2],uD X pins H b:=λb hb=>hf b (by simp only[sB,A7,or_false]at hb⊢;rcases hb with q|q|q|q<;>simp[q]);exact Jt (I.ok.hd hc) D hz T4 T7 h1 h2 p1 p2 (hx.imp (λq=>by simp;omega) λq=>by simp;omega) λh' hk=>⟨rfl,I.turns (tk:=s.toks) Β hk⟩
 self:=λ_ _ _ _ _ st h=>wpAny_pyIter_zip st.1 h
def Be{n u v:Nat}(h1:u<n)(h2:v<n):ZipApart (n+4) (n+2) (n+3) n (n+1) u v:=by constructor<;>(intro q;have q:(_:Nat)=(_:Nat):=q;omega)
def Bf(h:b=n+4\/b=n+2\/b=n+3\/b=n\/b=n+1):n<=b:=by omega
def DN(K:d_)(ta:TA):TI:=λσ H R=>ta σ H λvs H1=>∃a c b1 b2,vs=[.ref a,.ref c]/\(∃xs,VX b1 K H1 a xs)/\(∃ys,VX b2 K H1 c ys)/\R (DM K b1 b2 a c) H1
def Lq{Su:List A1}{k:Nat}{tp p pos:Pos}{a b:A1}{ta:TA}(hg:Gl X "zip")(hm:X.mg "zip"=f_)(ha:PA X [a,b] ta)(hs:p_ [a,b] X.env=[(a_,x_ a X.env),(a_,x_ b X.env)]:=by rfl)(T9:p_ [b] X.env=[(a_,x_ b X.env)]:=by rfl):PI X (.Tuple Su k tp) (.Call (.Name "zip" p) [a,b] [] pos) (DN X.K ta):=by intro pins s σ H R I h;refine Call_ (fu I hg hm (show A0 "zip"=b_ (.type "zip")from rfl) (Am (jk (ha pos pins s σ H _ I h) λus s1⟨vs,H1,I1,r1,q1⟩=>?_) (by rw[hs,T9]) (by rw[T9];rfl)));obtain⟨u,v,b1,b2,e,⟨xs,hx⟩,⟨ys,hy⟩,q⟩:=q1;subst e;cases r1 with|cons r rr=>cases rr with|cons r' rr=>
   cases rr;cases r;cases r';obtain⟨its1,_,p1⟩:=I1.sqB hx;obtain⟨its2,_,p2⟩:=I1.sqB hy;have l1:u<↑b:=by obtain⟨o,q,_⟩:=p1;exact n_ q
   have l2:v<↑b:=by obtain⟨o,q,_⟩:=p2;exact n_ q
   refine Vs p1 p2 λh' hz T4 T7 a1 a2 kp=>wpAny_pyIter_zip hz ?_;have I2:zu X pins σ H1 {s1 with heap:=h'}:=I1.kept kp;refine⟨↑b+4,[↑b+4,↑b+2,↑b+3,↑b,↑b+1],_,_,H1,rfl,I2,QO b1 b2 (↑b+4) (↑b+2) (↑b+3) ↑b (↑b+1) u v (Be l1 l2),⟨hz,T4,⟨_,_,T7⟩,a1,a2⟩,λb hb=>?_,q⟩;have Ϫ:↑b<=b:=by simp only[sB,A7,or_false]at hb;exact Bf hb
   exact I1.fpOk Ϫ (I1.hok.fresh Ϫ)
end L2
namespace L3
open PySem PySem.Spec PyProof.Rows PySem.W L2
def Ju:List T->List T->List T|t::ts,u::us=>.tup [t,u]::Ju ts us|_,_=>[]
theorem Jv:∀ts us:List T,(Ju ts us).length=min ↑c ↑h|[],us=>by simp[Ju]|t::ts,[]=>by simp[Ju]|t::ts,u::us=>by rw[Ju,sA,Jv ts us,sA,sA];omega
theorem Wh:∀(ts us:List T)(i:Nat)(t u:T),ts[i]?=b_ t->us[i]?=b_ u->(Ju ts us)[i]?=b_ (.tup [t,u])|[],us,i,t,u,h,_=>by simp at h|t::ts,[],i,t',u,_,h=>by simp at h|t::ts,u::us,0,t',u',h,h'=>by cases h;cases h';rfl|t::ts,u::us,i+1,t',u',h,h'=>Wh ts us i t' u' h h'
def Nt(b:Bool)(K:d_)(F:h_->Prop)(H:Hp)(a:h_)(vs:List V):Prop:=if b then YN K F H a vs else lq K H a vs
def Nt.sq{K:d_}{F:h_->Prop}{H:Hp}{a:h_}{vs:List V}:∀{b:Bool},Nt b K F H a vs->VX b K H a vs|true,h=>YN.sq h|false,h=>h
def Nt.mono{K:d_}{F F':h_->Prop}{H H':Hp}{a:h_}{vs:List V}(k:gx F F' H H'):∀{b:Bool},Nt b K F H a vs->Nt b K F' H' a vs|true,h=>YN.mono k h|false,h=>cy h k.rest
def Xd{K:d_}{F:h_->Prop}{H:Hp}{a c:h_}{b1 b2:Bool}{vs ws:List V}{ts us:List T}(g1:Nt b1 K F H a vs)(g2:IsAll K F H ts vs)(g3:Nt b2 K F H c ws)(g4:IsAll K F H us ws):pV K F H (DM K b1 b2 a c) (Ju ts us):=by
 intro F2 H2 d k i;have h1:=(g1.mono k).sq;have h2:=g2.mono k;have h3:=(g3.mono k).sq;have h4:=g4.mono k;have e1:=h2.len;have e2:=h4.len;rw[Jv];refine⟨λhi=>?_,λhi=>⟨vs,ws,h1,h3,by omega⟩⟩;have i1:i<↑c:=by omega
 have i2:i<↑h:=by omega
 obtain⟨v,hv,iv⟩:=h2.get (i:=i) (t:=ts[i]) (by simp[i1]);obtain⟨w,hw,iw⟩:=h4.get (i:=i) (t:=us[i]) (by simp[i2]);refine⟨⟨vs,ws,v,w,h1,h3,hv,hw⟩,λx H3 y=>?_⟩;obtain⟨p,x1,y1,hp,rfl,rfl,hx,hy⟩:=y;have:=hx vs h1;rw[hv]at this;cases this;have:=hy ws h3;rw[hw]at this;cases this;have x:=jB.alloc d (o:=.tup [v,w]) hp;refine⟨x,_,Wh ts us i ts[i] us[i] (by simp[i1]) (by simp[i2]),?_⟩;unfold Is;exact⟨p,_,rfl,.inl (.inl zm),IsAll.cons (iv.mono x.kept) (IsAll.cons (iw.mono x.kept) IsAll.nil)⟩
def seqT:T->Option (List T)|.lst ts=>b_ ts|.tup ts=>b_ ts|_=>f_
def Wi{K:d_}{F:h_->Prop}{H:Hp}{t:T}{ts:List T}{v:V}(e:seqT t=b_ ts)(h:Is K F H t v):∃b a vs,v=.ref a/\Nt b K F H a vs/\IsAll K F H ts vs:=by
 cases t<;>first|cases e|skip
 ·unfold Is at h;obtain⟨a,vs,q,g,r⟩:=h;first|exact⟨e_,a,vs,q,g,r⟩|exact⟨a_,a,vs,q,g,r⟩
 ·unfold Is at h;obtain⟨a,vs,q,g,r⟩:=h;first|exact⟨e_,a,vs,q,g,r⟩|exact⟨a_,a,vs,q,g,r⟩
def Wj(m:MA):rp:=λenv=>(m env).bind λrs=>match rs.map S8 with|[t,u]=>(match seqT t,seqT u with|some ts,b_ us=>.ok (Ju ts us)|_,_=>.bad)|_=>.bad
def QP{Su:List A1}{k:Nat}{tp:Pos}(hg:Gl X "zip")(hm:X.mg "zip"=f_)(ha:Yi X [a,b] ma)(hs:p_ [a,b] X.env=[(a_,x_ a X.env),(a_,x_ b X.env)]:=by rfl)(T9:p_ [b] X.env=[(a_,x_ b X.env)]:=by rfl):Jg X (.Tuple Su k tp) (.Call (.Name "zip" p) [a,b] [] pos) (Wj ma):=by
 obtain⟨ta,pa,sa⟩:=ha;refine⟨_,Lq hg hm pa hs T9,?_⟩;intro F H σ env R RE nb ok ex;unfold Wj at nb ok ex;refine sa F H σ env _ RE ↑m (λrs e1 vs F1 H1 x1 i1=>?_) λx z=>ex x ↑D;rw[e1,bind_ok]at nb ok;obtain⟨F2,x2,_,i2⟩:=i1.frz x1;split at nb
 ·rename_i t u hj;rw[hj]at i2 ok;dsimp only at ok;split at nb;·rename_i ts us h1 h2;rw[h1,h2]at ok;obtain⟨v,w,rfl,g,g'⟩:=MZ i2;obtain⟨b1,a1,vs1,rfl,f1,r1⟩:=Wi h1 g;obtain⟨b2,a2,vs2,rfl,f2,r2⟩:=Wi h2 g';exact⟨a1,a2,b1,b2,rfl,⟨_,f1.sq⟩,⟨_,f2.sq⟩,ok _ rfl _ F2 H1 x2 (Xd f1 r1 f2 r2)⟩
  ·exact absurd rfl nb
 ·exact absurd rfl nb
end L3
namespace L2
open PySem PySem.Spec PyProof.Rows
section
variable{prog:sN}{w:sY}{A:A3}{E:g_->l_->Prop}{s:l_}{a d it l:h_}{items:Array g_}
theorem Vt:typeLookup (.type "list") "keys"=pure f_:=am_miss_of_fast ↑J
theorem Lr(hx:s.heap.get? a=b_ o)(hc:o.cls=.type "list")(TH:o.data=.seq items n)(hd:o.dict=f_)(hA:A.handled=f_)(h:∀h' tk,(∀b o,s.heap.get? b=b_ o->h'.get? b=b_ o)->Q f_ {s with heap:=h',toks:=tk}):o_ ↑w A (getAttr? (.ref a) "keys") Q E s:=by
 obtain⟨c,dct,dat,sl⟩:=o;simp only at hc TH hd;subst hc TH hd;obtain⟨hp,g,dd,tk,os⟩:=s;have hT:∀S',(⟨hp,g,dd,S',os⟩:l_).TypeIs (.ref a) "list":=λ_=>⟨_,hx,rfl⟩;have f1:=sub_AttributeError;have f3:=Ol.lookup;have f4:=Ol.bind (.ref a);have f5:=am_list_getattr_none;unfold getAttr? getAttrBy? getAttrBy;repeat(any_goals(first|assumption|exact hT _|((with_reducible show o_ _ _ (call (RO "list.__getattribute__") _ _) _ _ _);refine call_meets Ol (hT _) am_entry_list_getattribute (F.args_list_getattribute_2 _ _) (meets_getattribute_miss_list a items n sl "keys" _ Vt ↑J) ⟨hx,hA,λh' S' e V'=>?_⟩)|wp_step))
 obtain⟨t',u',he⟩:=V'.there;show o_ _ _ (getattributeRaised _ _ _ _ _ _ _) _ _ _;unfold getattributeRaised;repeat(any_goals(first|assumption|wp_step))
 exact h _ _ V'.keeps
theorem tY:entryFor table "dict.update.loop"=b_ BL.«dict.update.loop»:=entryFor_of_tree (by kernel_rfl)
theorem nM:plainId "dict.update.loop"=e_:=by decide+kernel
variable{K:Type}[DecidableEq K]{knd:KeyKind prog w K}{R:Result->l_->Prop}
theorem tZ(hh:A.in1.handled=f_)(ld:l≠d)(li:l≠it)(di:d≠it):∀(rest:List (K×g_))(i:Nat)(n:Int)(u:Tok)(done:List (K×g_))(s:l_),i+rest.length=↑f->s.heap.IsListIter it l i->s.heap.IsList l items->(∀j kv,rest[j]?=b_ kv->∃t Sj,items[i+j]?=b_ (.ref t)/\Oy s.heap t #[Sj,kv.2]/\knd.is kv.1 Sj=e_/\t≠d/\t≠it)->s.heap.DictOf knd d done->done.length+rest.length<=j_->(∀h' tk,h'.DictOf knd d (merged done rest)->(∀b o,b≠d->b≠it->s.heap.get? b=b_ o->h'.get? b=b_ o)->R (.ok (.ret .none)) {s with heap:=h',toks:=tk})->FX ↑w A (.builtin "dict.update.loop" ⟨[.ref d,.ref it,.int n u,.none],[]⟩) R s
 |[],i,n,u,done,s,hi,T5,hl,_,hD,_,hR=>by refine BK tY ?_;rw[FC nM _];show o_ _ A.in1 (RL (.ref it)>>=_) _ _ s;refine c_ (wpAny_pyNext_list_end hh T5 hl (by simp at hi⊢;omega) λh' eb=>?_);exact i_ (hR h' s.toks (hD.extBut eb di) λb o _ hb e=>eb b o hb e)|kv::rest,i,n,u,done,s,hi,T5,hl,hp,hD,hz,hR=>by
  obtain⟨t,Sj,hx,ht,hk,td,ti⟩:=hp 0 kv rfl;refine BK tY ?_;rw[FC nM _];show o_ _ A.in1 (RL (.ref it)>>=_) _ _ s;refine c_ (wpAny_pyNext_list_item T5 hl hx λh1 hit1 e1=>?_);have ht1:Oy h1 t #[Sj,kv.2]:=ht.extBut e1.extBut ti;obtain⟨ot,hot,hct,nt,hdt⟩:=id ht1;show o_ _ A.in1 (O2 [sE t] _>>=_) _ _ _;refine c_ (Ah ?_);have hT:Shared.TypeIs {s with heap:=h1} (.ref t) "tuple":=⟨_,hot,hct⟩;refine c_ (wpAny_tryCatch ?_);unfold BL.Dict.pairItems;refine c_ (O4 hT ?_);rw[if_pos ↑o];refine c_ (BX hot hdt (i_ ?_));show o_ _ A.in1 (O2 [Sj,kv.2] (dictSet d Sj kv.2)) _ _ _;refine Ah (wpAny_dictSet_pairs hk (hD.extBut e1.extBut di) (λh2 hD2 e2=>?_) (by have:done.length+(rest.length+1)<=j_:=hz;omega));refine i_ ⟨RU nM _,?_⟩;refine tZ hh ld li di rest (i+1) _ _ (stored done kv.1 kv.2) _ (by simp at hi;omega) (hit1.extBut e2.extBut (AE di)) ((hl.extBut e1.extBut li).extBut e2.extBut ld) (λj kv' hj=>?_) hD2 ?_ λh' tk hD' kp=>hR h' tk hD' λb o bd bi e=>kp b o bd bi (e2.extBut _ _ bd (e1.extBut _ _ bi e));·obtain⟨t',key',V',ht',To,td',ti'⟩:=hp (j+1) kv' hj;exact⟨t',key',by rw[show i+1+j=i+(j+1)by omega];exact V',(ht'.extBut e1.extBut ti').extBut e2.extBut td',To,td',ti'⟩
  ·have h1:=stored_length_le done kv.1 kv.2;have:done.length+(rest.length+1)<=j_:=hz;omega
theorem Xe{o:Obj}{n:Nat}{rest:List (K×g_)}{Q:g_->l_->Prop}(hh:A.handled=f_)(ho:s.heap.get? l=b_ o)(hc:o.cls=.type "list")(TH:o.data=.seq items n)(hd:o.dict=f_)(hi:rest.length=↑f)(hz:rest.length<=j_)(hp:∀(j:Nat)(kv:K×g_),rest[j]?=b_ kv->∃t Sj,items[j]?=b_ (.ref t)/\Oy s.heap t #[Sj,kv.2]/\knd.is kv.1 Sj=e_)(h:∀h' tk,h'.DictOf knd ↑a (merged [] rest)->(∀b o,b<↑a->s.heap.get? b=b_ o->h'.get? b=b_ o)->Q (.ref ↑a) {s with heap:=h',toks:=tk}):o_ ↑w A (call (.type "dict") [.ref l]) Q E s:=by
 refine callType_codes (Q₁:=λobj s₁=>obj=.ref ↑a/\s₁={s with heap:=s.heap.push {cls:=.type "dict",data:=.dict #[]}}) F.kt_called_dict (F.kt_typeCall_dict_1 _) F.entry_dict_init (kt_code_dict_new _ ⟨rfl,rfl⟩) ?_;rintro obj s₁⟨rfl,rfl⟩;have Φ:(s.heap.push {cls:=.type "dict",data:=.dict #[]}).DictOf knd ↑a []:=w_.DictOf.new s.heap;have hl:l<↑a:=n_ ho;have ψ:(s.heap.push {cls:=.type "dict",data:=.dict #[]}).get? l=b_ o:=f' _ ho;refine⟨Φ.typeIs,F.args_dict_init_2 _ _,?_⟩;unfold BL.«dict.__init__»BL.Dict.selfAndRest;refine c_ (c_ (wpAny_notOrdered_dict Φ.typeIs ?_));refine i_ ?_;show o_ _ _ (Builtin.Dict.updateFrom "dict.__init__" ↑a (.ref l) [] .none) _ _ _;unfold Builtin.Dict.updateFrom;refine c_ (O4 (T:="list") ⟨_,ψ,hc⟩ ?_);rw[if_pos ↑o];refine c_ (Lr (s:={s with heap:=s.heap.push {cls:=.type "dict",data:=.dict #[]}}) ψ hc TH hd (by simp[hh]) λh1 tk k1=>?_);have hD1:h1.DictOf knd ↑a []:=by obtain⟨q,es,ep,e,r⟩:=Φ;exact⟨q,es,ep,k1 _ _ e,r⟩
 have hL1:h1.IsList l items:=⟨o,k1 _ _ ψ,hc,n,TH⟩;have hsz:↑a<↑d:=by obtain⟨q,_,_,e,_⟩:=hD1;exact n_ e
 refine c_ (wpAny_rule (c_ (L_ (s:={s with heap:=h1,toks:=tk}) hL1 ?_)));have up:∀b q,s.heap.get? b=b_ q->(h1.push {cls:=.type "list_iterator",data:=.fields #[.ref l,.int 0 0]}).get? b=b_ q:=λb q e=>f' _ (k1 _ _ (f' _ e));refine i_ ⟨RU nM _,?_⟩;refine tZ (by simp[hh]) (su hl) (su (Nat.lt_trans hl hsz)) (su hsz) rest 0 _ _ [] _ ↑p ⟨_,sf _ rfl,rfl,rfl⟩ (hL1.push _) (λj kv hj=>?_) (hD1.push _) (by simpa using hz) λh' S' hD' kp=>⟨rfl,h h' S' hD' λb q hb e=>kp b q (su hb) (su (Nat.lt_trans hb hsz)) (up b q e)⟩;obtain⟨t,Sj,hx,ht,hk⟩:=hp j kv hj;have tl:=ht.lt;exact⟨t,Sj,by rw[Nat.zero_add];exact hx,ht.keeps up,hk,su tl,su (Nat.lt_trans tl hsz)⟩
end
def Ls(K:d_)(H:Hp)(xs:List V)(kvs:List (Key×V)):Prop:=OX (λ(x:V)(kv:Key×V)=>∃t,x=.ref t/\lq K H t [kV kv.1,kv.2]) xs kvs
theorem QQ(I:zu X pins σ H s):∀{xs:List V}{kvs:List (Key×V)}{its:List g_},Ls X.K H xs kvs->zQ xs its->∃rest:List (Key×g_),KV kvs rest/\rest.length=its.length/\∀(j:Nat)(kv:Key×g_),rest[j]?=b_ kv->∃t Sj,its[j]?=b_ (.ref t)/\Oy s.heap t #[Sj,kv.2]/\(zP X.prog X.w).is kv.1 Sj=e_|_,_,_,.nil,.nil=>⟨[],.nil,rfl,λj kv h=>by simp at h⟩|_,_,_,.cons ⟨t,e,q⟩ p,.cons r v=>by subst e;cases r;obtain⟨its2,r2,tp,_⟩:=I.tuple q;cases r2 with|cons a1 r3=>cases r3 with|cons a2 r4=>cases r4;obtain⟨rest,k,l,f⟩:=QQ I p v;refine⟨(_,_)::rest,.cons ⟨rfl,a2⟩ k,congrArg (·+1) l,λj kv h=>?_⟩;cases j with|zero=>cases h;exact⟨t,_,rfl,tp,lz a1⟩|succ j=>exact f j kv h
def DO(K:d_)(td:TE):TE:=λσ H Q=>td σ H λx H1=>∃a xs kvs,x=.ref a/\lu K H1 a xs/\Ls K H1 xs kvs/\∀p,H1 p=f_->Q (.ref p) (zO H1 p (.dK (uF [] kvs)))
def Lu(Tu:X.calm=e_)(hg:Gl X "dict")(hm:X.mg "dict"=f_)(he:PE X e td)(hs:p_ [e] X.env=[↑ae]:=by rfl):PE X (.Call (.Name "dict" p) [e] [] pos) (DO X.K td):=by intro pins s σ H Q I h;refine Ai (fu I hg hm (show A0 "dict"=b_ (.type "dict")from rfl) ?_);refine Am ?_ (he:=by rw[hs];rfl);rw[hs];show o_ _ _ (Om (↑ae::[])) _ _ s;refine AN (jk (he pins s σ H _ I h) λu s1⟨x,H1,I1,r1,q1⟩=>?_);obtain⟨a,xs,kvs,rfl,hq,hp,q⟩:=q1;obtain rfl:u=sE a:=r1;rw[Om];refine i_ ?_;obtain⟨its,rv,⟨o,n,e1,e2,e3,e4⟩,hz⟩:=I1.list hq;obtain⟨rest,rk,rl,rf⟩:=QQ I1 hp rv;have l1:=rv.length;refine Xe (I1.ok.hd Tu) e1 e2 e4 e3 (by simpa using rl) ↑p (λj kv hj=>by simpa using rf j kv hj) λh' tk dd kp=>?_;have hf:=I1.hok.fresh (r_ ↑b);refine⟨.ref ↑b,zO H1 ↑b (.dK (uF [] kvs)),I1.laid (t':=tk) (λb o q=>kp b o (n_ q) q) (r_ _) ?_,rfl,q _ hf⟩;refine Km ?_ (beq_eq_false_iff_ne.mpr (AE (su I1.big))) (rk.merge .nil) dd;have h1:=nZ kvs [];have h2:=rk.length;rw[E_]at h1;omega
end L2
namespace L3
open PySem PySem.Spec PyProof.Rows PySem.W L2
def iT:List T->Option (List (Str×T))|[]=>b_ []|.tup [.str k,u]::ts=>(iT ts).map ((k,u)::·)|_=>f_
theorem Jw{K:d_}{F:h_->Prop}{H:Hp}:∀{ts:List T}{ps:List (Str×T)}{vs:List V},iT ts=b_ ps->IsAll K F H ts vs->∃kvs:List (Key×V),kvs.map (·.1)=ps.map (λp=>.inr p.1)/\IsAll K F H (ps.map (·.2)) (kvs.map (·.2))/\Ls K H vs kvs
 |[],ps,vs,e,h=>by cases e;cases vs with|nil=>exact⟨[],rfl,IsAll.nil,.nil⟩|cons _ _=>simp[IsAll]at h
 |t::ts,ps,vs,e,h=>by
  unfold iT at e;split at e;·rename_i e';cases e'
  ·rename_i k u ts' e';cases e';cases hq:iT ts with|none=>rw[hq]at e;cases e|some qs=>rw[hq]at e;cases e;unfold IsAll at h;obtain⟨v,r,rfl,hi,hr⟩:=h;obtain⟨kvs,k1,k2,k3⟩:=Jw hq hr;unfold Is at hi;obtain⟨a,vs,rfl,g,ha⟩:=hi;obtain⟨x,y,rfl,hx,hy⟩:=MZ ha;unfold Is at hx;subst hx;exact⟨(.inr k,y)::kvs,congrArg (Ap k::·) k1,IsAll.cons hy k2,.cons ⟨a,rfl,g⟩ k3⟩
  ·cases e
def Xf(kvs:List (Key×V))(k:Key)(v:V)(h:k∉kvs.map (·.1)):k7 kvs k v=kvs++[(k,v)]:=by unfold k7;rw[if_neg];intro q;obtain⟨x,hx,e⟩:=BO.mp q;exact h (sH.mpr ⟨x,hx,of_decide_eq_true e⟩)
theorem eP:∀(more kvs:List (Key×V)),((kvs++more).map (·.1)).Nodup->uF kvs more=kvs++more
 |[],kvs,_=>by rw[Ac];rfl|p::more,kvs,h=>by
  have h1:p.1∉kvs.map (·.1):=λq=>by rw[sL,Af]at h;exact h.2.2 _ q _ (sH.mpr ⟨p,m_,rfl⟩) rfl
  show uF (k7 kvs p.1 p.2) more=_;rw[Xf kvs p.1 p.2 h1,eP more (kvs++[(p.1,p.2)]) (by simpa using h)];simp
def Vu{ps:List (Str×T)}(h:(ps.map (·.1)).Nodup):(ps.map λp=>(Ap p.1:Key)).Nodup:=by unfold BJ at h⊢;rw[Ag]at h⊢;exact h.imp λn e=>n (BS e)
def Lv(md:ME):ME:=λenv=>(md env).bind λd=>match d.2 with|.lst ts=>(match iT ts with|some ps=>if(ps.map (·.1)).Nodup then .ok (e_,.dct (ps.map λp=>.inr p.1) (ps.map (·.2)))else .bad|none=>.bad)|_=>.bad
def HZ{e:A1}{md:ME}{p pos:Pos}(Tu:X.calm=e_)(hg:Gl X "dict")(hm:X.mg "dict"=f_)(h:jb X e md)(hs:p_ [e] X.env=[↑ae]:=by rfl):jb X (.Call (.Name "dict" p) [e] [] pos) (Lv md):=by
 obtain⟨td,pd,sd⟩:=h;refine⟨_,Lu Tu hg hm pd hs,?_⟩;intro F H σ env Q R nb ok ex;unfold Lv at nb ok ex;refine sd.val R ↑m (λr1 e1 v1 F1 H1 x1 i1=>?_) λx z=>ex x ↑D;rw[e1,bind_ok]at nb ok;obtain⟨b,t⟩:=r1;dsimp only at nb ok i1;cases t<;>try exact absurd rfl nb
 case lst ts=>dsimp only at nb ok;cases hq:iT ts with|none=>rw[hq]at nb;exact absurd rfl nb|some ps=>
   rw[hq]at nb ok;dsimp only at nb ok;by_cases hn:(ps.map (·.1)).Nodup
   ·rw[if_pos hn]at ok;unfold Is at i1;obtain⟨a,vs,rfl,g,ia⟩:=i1;obtain⟨kvs,k1,k2,k3⟩:=Jw hq ia;have hk:(kvs.map (·.1)).Nodup:=by rw[k1];exact Vu hn
    have Λ:uF [] kvs=kvs:=eP kvs [] hk;refine⟨a,vs,kvs,rfl,g.sq,k3,λp hp=>?_⟩;rw[Λ];have x:=jB.alloc x1.dom (o:=.dK kvs) hp;refine ok _ rfl _ F1 _ (x1.trans x) ?_;unfold kN;rw[if_pos rfl];exact⟨p,rfl,λf=>x1.dom p f hp,j8 x1.same hp,kvs,zm,k1,k2.mono x.kept⟩
   ·rw[if_neg hn]at nb;exact absurd rfl nb
end L3
namespace L2
open PySem PySem.Spec PyProof.Rows
def Xg(l:h_)(items:Array g_)(n:Nat)(b:h_)(SQ:Array g_)(n2:Nat)(dc:Option h_)(sl:Array (Option g_))(h0:¬(!items.isEmpty&&BR (↑f+SQ.size))=e_)(h1:↑f<=j_)(h2:↑f+SQ.size<=j_+1):Meets (BL.«list.extend» ⟨[.ref l,.ref b],[]⟩) (λ_ R s=>s.heap.get? l=b_ {cls:=.type "list",dict:=f_,data:=.seq items n,slots:=#[]}/\s.heap.get? b=b_ {cls:=.type "tuple",dict:=dc,data:=.seq SQ n2,slots:=sl}/\R (.ok (.ret sZ)) {s with heap:=s.heap.update l (AF λx=>x++SQ),toks:=s.toks}):=.of_wp λprog w A R s h=>by
  obtain⟨hp,g,d,tk,os⟩:=s;obtain⟨hl,hb,h⟩:=h;have f2:=sub_tuple_tuple;have f3:=sub_list_list;have f4:=sub_tuple_list;have f5:=sub_list_tuple;have hz':(items++SQ).size<=j_+1:=by rw[Array.size_append];exact h2
  wp_walk using(wpAny_updateSeq hl rfl (hz:=h1) (_hz':=hz')),Q_ hl,Q_ hb;exact⟨_,rfl,h⟩
def Nu(K:d_):V->List V->Hp->VK->Prop:=λx vs H Q=>∃l b xs zs,x=.ref l/\vs=[.ref b]/\H l=b_ (.lst xs)/\lq K H b zs/\↑e+zs.length<=j_/\Q .non (zO H l (.lst (xs++zs)))
def Uh:EH X "list.extend" (Nu X.K):=by
 intro pins s σ H x vs v us Q I rx rv h;obtain⟨l,b,xs,zs,rfl,rfl,hH,hB,hz,q⟩:=h;cases rx;obtain⟨u,rfl,ru⟩:=rv.one;cases ru;obtain⟨z,its,n,r,hl,e⟩:=I.lstM hH;obtain⟨its2,r2,⟨o,e2,c2,n2,d2⟩,_⟩:=I.tuple hB;obtain⟨oc,od,odt,T1⟩:=o;simp only at c2 d2;subst c2 d2;have hl2:=r2.length;have hsz:↑k+its2.toArray.size<=j_:=by rw[sr,sr];omega
 have TK:¬(!its.toArray.isEmpty&&BR (↑k+its2.toArray.size))=e_:=by rw[Zz hsz,OE];exact sM
 refine call_meets F.slot_list_extend ⟨_,e,rfl⟩ F.entry_list_extend (F.args_list_extend_2 _ _) (Xg l its.toArray n b its2.toArray n2 od T1 TK (by rw[sr];omega) ↑p) ⟨e,e2,?_⟩;refine⟨.non,_,I.lset (its':=its++its2) hH e ↑G (r.append r2) ?_,rfl,q⟩;rw[sj];omega
end L2
namespace L3
open PySem PySem.Spec PyProof.Rows L2
def QR(i:Nat)(m:ME):MS:=λenv=>match env[i]? with|some (b_ (e_,.lst _))=>(match jR m env with|.ok (r,Sc)=>(match Sc[i]? with|some (b_ (e_,.lst ts))=>(match r with|(_,.tup us)=>if ↑c+↑h<=j_ then .nx (Sc.set i (b_ (e_,.lst (ts++us))))else .bad|_=>.bad)|_=>.bad)|.exc x=>.exc x env|.bad=>.bad)|_=>.bad
def Lw{i:Nat}{st:A2}(he:jb X e m)(hp:∀te,PE X e te->PS X st (Zt (EG X.K "list" (Nu X.K) (xJ i) (XH te P7)))):eF X st (QR i m):=by
 obtain⟨te,pe,se⟩:=he;refine⟨_,hp te pe,?_⟩;intro B F H σ env D R w;unfold QR at w;split at w
 ·rename_i υ hi;obtain⟨a,s,nf,fr,vs,hH,iv⟩:=R.owns i _ hi;refine⟨.ref a,s,.inl ⟨rfl,vs,.inl (.inl hH)⟩,?_⟩;refine se.run R (λr Sc er v F' H' R' iv' Sh kp=>?_) (λx er ev F' H' R' ix pins s' I=>?_) λer=>?_
  ·rw[er]at w;dsimp only at w;split at w
   ·rename_i ts' Sr;split at w
    ·rename_i bb us;split at w;·rename_i hl;obtain⟨F2,R2,i2,s2⟩:=R'.freeze iv' (λa q=>zK R.fr q) Sh;unfold Is at i2;obtain⟨b,zs,rfl,hB,iz⟩:=i2;obtain⟨a',s',TY,γ,T3,hH',iv2⟩:=R2.owns i _ Sr;rw[s]at s';cases s';refine⟨a,b,T3,zs,rfl,rfl,hH',hB,by rw[<-iv2.len,<-iz.len];exact hl,?_⟩;refine w F2 _ σ (R2.mut Sr s ⟨T3++zs,zm,?_⟩);exact(iv2.append iz).mono (xi TY hH' (.inl ⟨_,rfl⟩))
     ·exact w.elim
    ·exact w.elim
   ·exact w.elim
  ·rw[er]at w;exact w ev F' H' σ R' ix pins s' I
  ·rw[er]at w;exact w
 ·exact w.elim
end L3
namespace L3
open PySem PySem.Spec PyProof.Rows PySem.W L2
def Xh(i:Nat):MI:=λenv=>match env[i]? with|some (b_ (_,.lst ts))=>.ok (km 0 ts,env.set i (b_ (a_,.lst ts)))|_=>.bad
def Ui(i:Nat)(hg:Gl X "enumerate")(hm:X.mg "enumerate"=f_)(hs:p_ [.Name x p'] X.env=[(a_,x_ (.Name x p') X.env)]:=by rfl)(hN:X.N[i]?=b_ x:=by rfl)(hv:Yd X.env.scope x:=by first|exact AW rfl|exact Ae (AW rfl)|exact Ae (Ae rfl))(hd:(x==↑x)=a_:=by decide)(Sz:(x==("__classdict__":Str))=a_:=by decide):Lg X (.Tuple Su k tp) (.Call (.Name "enumerate" p) [.Name x p'] [] pos) (Xh i):=by
 refine⟨_,dL hg hm (gv hN hv hd Sz) hs,?_⟩;intro B F H σ env R RS nb ok ex;unfold Xh at nb ok ex;split at nb;·rename_i b us he;rw[he]at ok;obtain⟨F2,v,R2,s,i2⟩:=RS.frz1 he;unfold Is at i2;obtain⟨a,vs,rfl,g1,g2⟩:=i2;exact⟨.ref a,s,a,rfl,⟨vs,g1.sq⟩,ok _ _ rfl _ F2 H R2 (uT g1 g2)⟩
 ·exact absurd rfl nb
end L3
namespace L3
open PySem PySem.Spec PyProof.Rows L2 PySem.W
section
variable{K:Frag}{h:w_}{mg:Str->Option g_}{f C C0 N:h_}{oc kV dc pm cd ct:g_}{od an:Option h_}{sl:Array (Option g_)}{x q nm qn:Str}{st:A2}{bs bm sub:List g_}{sn:List Str}{ab:Bool}{col:Option Bool}{dd:Option h_}{k0 k1 k2 k3 k5:Option g_}
theorem Uj(X:K.In h)(G:h.Ns v_ mg)(g:nsIn K v_ x=b_ (b_ ↑aa):=by(try dsimp only);k_is)(l:K.lookup C=b_ (O0 nm qn C N bs bm e_ sn sub ab col dd k0 k1 k2 k3 k5 "ValueError.__new__"):=by(try dsimp only);k_is)(b1:bm.contains (.type "ValueError")=e_:=by decide+kernel)(b2:bm.contains (.type "AttributeError")=a_:=by decide+kernel)(b3:bm.contains (.type "NameError")=a_:=by decide+kernel)(b4:bm.contains (.type "BaseException")=e_:=by decide+kernel)(b5:bm.contains (.type "object")=e_:=by decide+kernel)(b6:∀self,refuseLoop self "__setattr__" bm=pure ():=by intro self;simp only[refuseLoop_ref];exact L2.passes_ve self)(i:FF K ↑aa "__init__"=b_ (b_ (.ref f)):=by(try dsimp only);k_is)(fn:typeIn K (.ref f)=b_ (.type "function"):=by(try dsimp only);k_is)(sa:FF K ↑aa "__setattr__"=b_ (b_ (.builtin "object.__setattr__")):=by(try dsimp only);k_is)(ta:takerIn K C "at"=b_ f_:=by(try dsimp only);k_is)(kp:keepIn K ↑aa=e_:=by(try dsimp only);k_is)(lf:K.lookup f=b_ ⟨oc,od,.func (A9 "__init__" q (jQ st) (j4 st) (za st) .none kV dc pm an cd ct),sl⟩:=by(try dsimp only);k_is)(c:codeIn K cd q=e_:=by(try dsimp only);k_is)(k:keepIn K (.ref f)=e_:=by(try dsimp only);k_is):Vq K mg x q st C:=⟨_,_,⟨⟨_,_,_,_,_,_,_,_,_,_,_,_,_,_,_,l,b1,b2,b3,b4,b5,b6⟩,i,fn,sa,ta,kp⟩,cq lf c k,mg_of X G g⟩
theorem Lx(hd:hasDictIn K C=e_:=by(try dsimp only);k_is)(ga:FF K ↑aa "__getattribute__"=b_ (b_ (.builtin "BaseException.__getattribute__")):=by(try dsimp only);k_is)(gt:FF K ↑aa "__getattr__"=b_ f_:=by(try dsimp only);k_is)(bx:mroIn K C (.type "BaseException")=b_ e_:=by(try dsimp only);k_is)(a:FF K ↑aa "at"=b_ f_:=by(try dsimp only);k_is)(cl:FF K ↑aa "__class__"=b_ (b_ ↑ac):=by(try dsimp only);k_is)(ns:specialIn K ↑ac "__get__"=b_ (b_ (.builtin "getset_descriptor.__get__")):=by(try dsimp only);k_is)(tk:takesIn K ↑ac=b_ e_:=by(try dsimp only);k_is)(ob:mroIn K C (.type "object")=b_ e_:=by(try dsimp only);k_is):N9 K C:=⟨hd,ga,gt,bx,a,cl,ns,tk,ob⟩
theorem Ly(h0:subIn K (.ref C0) (.type "BaseException")=b_ e_:=by(try dsimp only);k_is)(h1:isClsIn K C0=e_:=by(try dsimp only);k_is)(h2:typeIn K (.ref C0)=b_ (.type "type"):=by(try dsimp only);k_is)(h3:subIn K ↑aa (.ref C0)=b_ e_:=by(try dsimp only);k_is):exmOne K ↑aa (.ref C0)=b_ e_:=by unfold exmOne kitCls;have h1:(clsIn K C0).isSome=e_:=h1;rw[h0,if_pos (by rw[beq_self_eq_true])];dsimp only;rw[h1,h2,if_pos (by rw[beq_self_eq_true];rfl)];exact h3
theorem Uk(h1:kitMeta n=e_:=by decide+kernel)(h3:subIn K ↑aa (.type n)=b_ e_:=by(try dsimp only);k_is):kitOne K ↑aa (.type n)=b_ e_:=by unfold kitOne kitCls;rw[if_neg (λz=>by cases(eq_of_beq z))];dsimp only;rw[if_pos h1];exact h3
end
end L3
namespace L3
open PySem PySem.Spec PyProof.Rows L2
def Ul{p:α->Prop}(x:p a):∀C∈[a],p C:=λ_ h=>sC.mp h▸x
def DP{p:α->Prop}(x:p a)(y:p b):∀C∈[a,b],p C:=λC h=>(sB.mp h).elim (λe=>e▸x) (Ul y C)
def Cz{p:α->Prop}(x:p a)(y:p b)(z:p c):∀C∈[a,b,c],p C:=λC h=>(sB.mp h).elim (λe=>e▸x) (DP y z C)
def Bg{p:α->Prop}(x:p a)(y:p b)(z:p c)(u:p d):∀C∈[a,b,c,d],p C:=λC h=>(sB.mp h).elim (λe=>e▸x) (Cz y z u C)
def xN(ha:jb X e ma)(hg:Gl X "len":=by rfl)(hm:X.mg "len"=f_:=by exact T.yI)(he:p_ [e] X.env=[↑ae]:=by rfl)(hpl:(AT pos (p_ [] X.env)).any (·.1)=a_:=by rfl):jb X (.Call (.Name "len" p) [e] [] pos) (zC xP (z9 ma zh)):=jf L4 hg hm MQ (z3 ha zb he) ↑o ↑o he hpl
end L3
set_option maxHeartbeats 4000000
namespace Law
open PySem L2 L3
def top(i:Nat):A2:=PySem.Challenge.pw_facestead_k24_gets_and_takes.main.body.getD i (.Pass ⟨0,0,0,0⟩)
abbrev fL:A2:=top 7
abbrev mT:A2:=top 8
abbrev kn:A2:=top 9
abbrev Xi:A2:=top 11
abbrev gl:A2:=top 12
abbrev rP:A2:=top 13
abbrev bu:A2:=top 14
abbrev eQ:A2:=top 15
abbrev vm:A2:=top 18
abbrev uV:A2:=top 19
abbrev lO:A2:=top 20
abbrev bv:A2:=top 23
abbrev lP:A2:=top 24
abbrev eR:A2:=top 25
abbrev bw:A2:=top 28
abbrev bz:A2:=top 29
abbrev o5:A2:=top 34
abbrev bA:A2:=top 35
abbrev lQ:A2:=top 36
abbrev lR:A2:=top 37
abbrev og:A2:=top 38
abbrev oh:A2:=top 39
abbrev uW:A2:=top 46
abbrev lS:A2:=top 47
abbrev fi:A2:=top 48
abbrev uX:A2:=top 49
abbrev uY:A2:=top 50
abbrev uZ:A2:=top 51
abbrev eS:A2:=top 52
abbrev mf:A2:=top 53
abbrev bB:A2:=top 54
abbrev bC:A2:=top 55
abbrev oi:A2:=top 56
abbrev n6:A2:=top 59
abbrev pX:A2:=top 60
abbrev lT:A2:=top 61
abbrev mj:A2:=top 62
abbrev fO:A2:=top 63
abbrev eT:A2:=top 64
abbrev mn:A2:=top 65
abbrev mq:A2:=top 66
abbrev uk:A2:=top 67
abbrev lU:A2:=top 68
abbrev fQ:A2:=top 69
abbrev n8:A2:=top 70
abbrev n9:A2:=top 71
abbrev gm:A2:=top 72
abbrev mU:A2:=top 73
abbrev mW:A2:=top 74
abbrev Jx:A2:=top 75
abbrev vn:A2:=kO (top 1) 0
abbrev kA:A2:=kO (top 40) 0
abbrev kY:A2:=kO (top 40) 3
abbrev vp:A2:=kO (top 40) 4
abbrev kZ:A2:=kO (top 42) 0
abbrev gG:A2:=kO (top 42) 3
abbrev qb:A2:=kO (top 43) 0
abbrev qu:A2:=kO (top 43) 3
abbrev qU:A2:=kO (top 57) 0
abbrev ng:A2:=kO (top 57) 2
abbrev qV:A2:=kO (top 57) 3
def ER:BJ (["name","thing"]:List Str):=by decide+kernel
def CB:BJ (["name","later"]:List Str):=by decide+kernel
def CC:BJ (["place","thing"]:List Str):=by decide+kernel
def DQ:BJ (["name","kind","due"]:List Str):=by decide+kernel
def CD:BJ (["name","thing","kinds","place_kinds"]:List Str):=by decide+kernel
def DR:BJ (["name","kind","due","names"]:List Str):=by decide+kernel
def CF:BJ (["fault","thing","back","piece","kinds"]:List Str):=by decide+kernel
def ES:BJ (["_law_name","_law_field"]:List Str):=by decide+kernel
def CG:BJ (["_law_k","_law_one","_law_kind_here"]:List Str):=by decide+kernel
def CH:BJ (["_law_name","_law_load"]:List Str):=by decide+kernel
def E0:BJ (["_law_k","_law_kind_here","_law_world_here"]:List Str):=by decide+kernel
structure CA where
 FaceError:h_
 NoFace:h_
 NoClient:h_
 Kind:h_
 Bare:h_
 Record:h_
 Choice:h_
 Face:h_
 memo:List Str->Mo
def QS:List (Str×Str):=[("num","num_kind"),("word","word_kind"),("plus","plus_kind"),("glue","glue_kind"),("call","call_kind"),("make","make_kind"),("form","form_kind"),("get","get_kind"),("getor","getor_kind"),("take","take_kind"),("sort","sort_kind")]
def eU:List (Str×T):=[("call",.tup [.int 3,.int 4]),("make",.tup [.int 2]),("sort",.tup [.int 2])]
def lV:List (Str×T):=[("plus",.tup [.int 1]),("glue",.tup [.int 1]),("form",.tup [.int 3]),("get",.tup [.int 1]),("getor",.tup [.int 1,.int 3]),("take",.tup [.int 1,.int 3]),("sort",.tup [.int 1,.int 3])]
def bD:zd ["row"] ["row"] (za fL):=zd.of
def aD:MS:=(zA (jq (xA (rO eU (m2 zx ↑F ↑t) (jJ zh))) j6 (m2 zx ↑V ↑F) [0]))
def qz:MF:=zG 1 1 aD
def Jy:zd ["part"] ["part"] (za mT):=zd.of
def Xj:MS:=(zA (j9 (xA ↑F) ↑U j6 ↑F 2 []))
def mX:MF:=zG 1 1 Xj
def gH:zd ["row","things","part"] ["row"] (za kn):=zd.of
def aE:MS:=(zn (zF 1 (jq (xA (rO lV (m2 zx ↑F ↑t) (jJ zh))) j6 (m2 zx ↑V ↑F) [0])) (zn (jU (jl (m2 zZ (m2 zx ↑F ↑t) (mC (.str "call")))) (QR 1 (m2 zx ↑F ↑H)) zD) (zn (kj (YU (zk qz (z9 ↑F zh))) (gN 2) (Lh 1 (j9 (xA (mV 2)) ↑U j6 ↑V 2 []))) (zA (jq (xA ↑V) (jl (m2 Wd ↑F (mC .non))) ↑F [])))))
def qA:MF:=zG 3 1 aE
def Um:zd ["names"] ["names"] (za Xi):=zd.of
def Lz:MS:=(zA (zC uv (z9 (j9 (Wj (z9 ↑F (z9 (dg ↑F (jI ↑u) xh) zh))) ↑U j6 (m2 uH ↑F ↑V) 2 []) zh)))
def QT:MF:=zG 1 1 Lz
def aF:zd ["row","ahead"] ["row","ahead"] (za gl):=zd.of
def lW:MS:=(zn (jU (jx (fH (zC uv (z9 (jq (xA (zk qA (z9 ↑F zh))) j6 (qp ax uH ↑t ↑F ↑V) [1]) zh)))) (zA (mC (.bl a_))) zD) (zA (zC uv (z9 (jq (xA (zk qz (z9 ↑F zh))) j6 (zk QT (z9 (zk mX (z9 ↑F zh)) zh)) []) zh))))
def xp:MF:=zG 2 2 lW
def iU:zd ["self","name"] ["self","name"] (za qV):=zd.of
def dj(c:CA):MS:=(zA (eN (mP [c.Face] "told_functions" ↑F) ↑V))
def xB(c:CA):MF:=zG 2 2 (dj c)
def bE:zd ["face","row","places","by_place"] ["face","row"] (za rP):=zd.of
def Uo(c:CA):MS:=(zn (zF 2 (m2 zx (kU c.Face "function" (xB c) ↑F (z9 (m2 zx ↑V ↑u) zh)) ↑R)) (zn (zF 3 (j9 (Wj (z9 (mV 2) (z9 (m2 zx ↑V ↑H) zh))) ↑U j6 (jJ (z9 (m2 zx ↑F ↑t) (z9 ↑V zh))) 2 [])) (zA (m2 zT (zC pS (z9 (mV 3) zh)) (zC pS (z9 (m2 zx ↑V ↑R) zh))))))
def rQ(c:CA):MF:=zG 4 2 (Uo c)
def Jz:zd ["face","kinds","row"] ["face","kinds","row"] (za bu):=zd.of
def Xk:MS:=(zA (mC (.str "num")))
def bF:MF:=zG 3 3 Xk
def rR:zd ["face","kinds","row"] ["face","kinds","row"] (za eQ):=zd.of
def JA:MS:=(zA (mC (.str "word")))
def eV:MF:=zG 3 3 JA
def qW:zd ["places","pairs","kinds","names","place_kinds"] ["places","pairs","kinds"] (za vm):=zd.of
def bG:MS:=(zn (zF 3 (zk mX (z9 ↑V zh))) (zn (jU (jl (m2 fG (nL (mV 3)) (zC xP (z9 (mV 3) zh)))) (zA (mC (.bl a_))) zD) (zn (zF 4 (Lv (j9 (xA ↑F) (mO 3 (kb (gN 0) (kb (gN 1) (kb (gN 2) mN)))) j6 (jJ (z9 ↑F (z9 ↑V zh))) 3 []))) (zn (jU (jx (fH (zC uv (z9 (j9 (xA ↑V) ↑U j6 (m2 zZ (eN (mV 3) ↑F) (m2 zx (mV 2) ↑V)) 2 [2,4]) zh)))) (zA (mC (.bl a_))) zD) (zA (zC uv (z9 (j9 (xA ↑F) (mO 3 (kb (gN 0) (kb (gN 1) (kb (gN 2) mN)))) (fH (mV 2)) (m2 uJ ↑F (mV 3)) 3 [3]) zh)))))))
def nh:MF:=zG 5 3 bG
def pY:zd ["face","kinds","row","piece","back"] ["face","kinds","row"] (za uV):=zd.of
def JB(c:CA):MS:=(zn (zF 3 (kU c.Face "function" (xB c) ↑F (z9 (m2 zx (mV 2) ↑u) zh))) (zn (jU (qS (jl (m2 dh (mV 3) (mC .non))) (jl (m2 mJ (zC xP (z9 (m2 zx (mV 2) ↑H) zh)) (m2 zx (mV 3) ↑H)))) (zA (mC .non)) zD) (zn (zF 4 (m2 zx (mV 3) (mC (.int 4)))) (zn (jU (jx (fH (zk nh (z9 (m2 zx (mV 3) ↑R) (z9 (zk (rQ c) (z9 ↑F (z9 (mV 2) zh))) (z9 ↑V zh)))))) (zA (mC .non)) zD) (zn (jU (jx (fH (zC uv (z9 (j9 (xA (m2 zx (mV 2) (mC (.int 4)))) ↑U j6 (x8 (m2 uJ ↑F (m2 zx (mV 3) (mC (.int 5)))) (m2 zZ (m2 zx (mV 4) ↑V) (mV 2))) 2 [4,3,1]) zh)))) (zA (mC .non)) zD) (pq 4))))))
def ni(c:CA):MF:=zG 5 3 (JB c)
def aG:zd ["self","name"] ["self","name"] (za kY):=zd.of
def rS(c:CA):MS:=(zA (mC .non))
def jm(c:CA):MF:=zG 2 2 (rS c)
def ul:zd ["self","name","part"] ["self","name"] (za gG):=zd.of
def qc(c:CA):MS:=(zn (kj (YU (mP [c.Record,c.Choice] "parts" ↑F)) (gN 2) (jU (jl (m2 zZ (m2 zx (mV 2) ↑t) ↑V)) (zA (dg (mV 2) (jI ↑u) xh)) zD)) (zA (mC .non)))
def vq(c:CA):MF:=zG 3 2 (qc c)
def mw:zd ["kind","name","field"] ["kind","name"] (za lO):=zd.of
def rV(c:CA):MS:=(zn (zF 2 (d4 c.Kind c.Bare c.Record c.Choice "field" (jm c) (jm c) (vq c) (jm c) ↑F (z9 ↑V zh))) (zA (lF (jl (m2 dh (mV 2) (mC .non))) (mC .non) (m2 zx (mV 2) ↑t))))
def pZ(c:CA):MF:=zG 3 2 (rV c)
def mY:zd ["text","start","signs","end"] ["text","start","signs"] (za o5):=zd.of
def Vv:MS:=(zn (zF 3 ↑V) (zn (qm (gS (jl (m2 uH (mV 3) (zC xP (z9 ↑F zh)))) (jl (m2 uJ (m2 zx ↑F (mV 3)) (mV 2)))) (V6 3 ZT ↑u) 100000) (pq 3)))
def iV:MF:=zG 4 3 Vv
def eW:zd ["text","start","end"] ["text","start"] (za bA):=zd.of
def Xl:MS:=(zn (zF 2 (zk iV (z9 ↑F (z9 ↑V (z9 (mC (.str "abcdefghijklmnopqrstuvwxyz")) zh))))) (zA (lF (jl (m2 ax (m2 YQ (mV 2) ↑V) (mC (.int 12)))) (mV 2) ↑V)))
def u0:MF:=zG 3 2 Xl
def Xm:zd ["text"] ["text"] (za og):=zd.of
def Vw:MS:=(zA (x8 (m2 fG ↑F (mC (.str ""))) (m2 zZ (zk u0 (z9 ↑F (z9 ↑t zh))) (zC xP (z9 ↑F zh)))))
def jF:MF:=zG 1 1 Vw
def rW:zd ["names"] ["names"] (za uW):=zd.of
def nj:MS:=(zA (x8 (zC uv (z9 (jq (xA ↑F) j6 (zk jF (z9 ↑F zh)) []) zh)) (m2 zZ (nL ↑F) (zC xP (z9 ↑F zh)))))
def xl:MF:=zG 1 1 nj
def mx:zd ["text","start","end"] ["text","start"] (za lQ):=zd.of
def rX:MS:=(zn (zF 2 (zk iV (z9 ↑F (z9 (m2 zT ↑V ↑u) (z9 (mC (.str "0123456789")) zh))))) (zA (lF (jl (m2 mJ (mV 2) (m2 zT ↑V ↑u))) (mV 2) ↑V)))
def lX:MF:=zG 3 2 rX
def qB:zd ["text","start","end","behind"] ["text","start"] (za lR):=zd.of
def rY:MS:=(zn (zF 2 ↑V) (zn (qm (jl (m2 zZ (dg ↑F (jI (mV 2)) (jI (m2 zT (mV 2) ↑u))) (mC (.str ".")))) (zn (zF 3 (zk u0 (z9 ↑F (z9 (m2 zT (mV 2) ↑u) zh)))) (zn (jU (jl (m2 zZ (mV 3) (m2 zT (mV 2) ↑u))) (pq 2) zD) (zF 2 (mV 3)))) 100000) (pq 2)))
def u3:MF:=zG 4 2 rY
def vt:zd ["text","awaited","at","end"] ["text"] (za oh):=zd.of
def Vx:MS:=(zn (zF 1 (ki zh)) (zn (zF 2 ↑t) (qm (fH (mC (.bl e_))) (zn (qm (jl (m2 zZ (dg ↑F (jI (mV 2)) (jI (m2 zT (mV 2) ↑u))) (mC (.str "(")))) (zn (nS 1 (mC (.str "&"))) (V6 2 ZT ↑u)) 100000) (zn (zF 3 (lF (jl (m2 zZ (dg ↑F (jI (mV 2)) (jI (m2 zT (mV 2) ↑u))) (mC (.str "#")))) (zk lX (z9 ↑F (z9 (mV 2) zh))) (zk u0 (z9 ↑F (z9 (mV 2) zh))))) (zn (jU (jl (m2 zZ (mV 3) (mV 2))) (zA (mC (.bl a_))) zD) (zn (zF 2 (zk u3 (z9 ↑F (z9 (mV 3) zh)))) (zn (qm (gS (fH ↑V) (gS (jl (m2 zZ (m2 zx ↑V (KW ↑u)) (mC (.str ")")))) (jl (m2 zZ (dg ↑F (jI (mV 2)) (jI (m2 zT (mV 2) ↑u))) (mC (.str ")")))))) (zn (Q4 1) (zF 2 (zk u3 (z9 ↑F (z9 (m2 zT (mV 2) ↑u) zh))))) 100000) (zn (jU (jx (fH ↑V)) (zA (m2 zZ (mV 2) (zC xP (z9 ↑F zh)))) zD) (zn (jU (qS (jl (m2 fG (m2 zx ↑V (KW ↑u)) (mC (.str "&")))) (jl (m2 fG (dg ↑F (jI (mV 2)) (jI (m2 zT (mV 2) ↑u))) (mC (.str "&"))))) (zA (mC (.bl a_))) zD) (zn (gC 1 (KW ↑u) (mC (.str ")"))) (V6 2 ZT ↑u))))))))) 100000)))
def m_is_kind:MF:=zG 4 1 Vx
def aH:zd ["looked","text"] ["looked","text"] (za lS):=zd.of
def jn(c:CA):MF:=tR c.memo m_is_kind
def rZ:zd ["looked","parts"] ["looked","parts"] (za fi):=zd.of
def nq(c:CA):MS:=(zA (x8 (zk xl (z9 (jq (xA ↑V) j6 (m2 zx ↑F ↑t) []) zh)) (zC uv (z9 (jq (xA ↑V) j6 (zk (jn c) (z9 ↑V (z9 (m2 zx ↑F ↑u) zh))) [0]) zh))))
def xb(c:CA):MF:=zG 2 2 (nq c)
def dl:zd ["looked","title","made"] ["looked","title","made"] (za uX):=zd.of
def nr(c:CA):MS:=(zn (jU (qS (jl (m2 uJ ↑V (mC (.tup (List.map T.str ["num","word"]))))) (jx (fH (zk (jn c) (z9 ↑F (z9 ↑V zh)))))) (zA (mC (.bl a_))) zD) (zA (oY (zk jF (z9 ↑V zh)) (uh (mV 2)))))
def xj(c:CA):MF:=zG 3 3 (nr c)
def Z0:zd ["looked","title","made","forms"] ["looked","title","made","forms"] (za eS):=zd.of
def eX(c:CA):MS:=(zA (x8 (zk (xj c) (z9 ↑F (z9 ↑V (z9 (mV 2) zh)))) (zk (xb c) (z9 ↑F (z9 (mV 3) zh)))))
def kI(c:CA):MF:=zG 4 4 (eX c)
def bI:zd ["looked","name","plain","places","back","faults"] ["looked","name","plain","places","back","faults"] (za mf):=zd.of
def my(c:CA):MS:=(zn (jU (qS (jx (fH (zk jF (z9 ↑V zh)))) (jx (fH (zk (jn c) (z9 ↑F (z9 (mV 4) zh)))))) (zA (mC (.bl a_))) zD) (zn (jU (qS (jl (m2 uH (mV 2) ↑t)) (jl (m2 mJ (mV 2) (zC xP (z9 (mV 3) zh))))) (zA (mC (.bl a_))) zD) (zA (x8 (zk (xb c) (z9 ↑F (z9 (mV 3) zh))) (zk xl (z9 (mV 5) zh))))))
def xF(c:CA):MF:=zG 6 6 (my c)
def dq:zd ["made","due","sure"] ["made","due","sure"] (za uY):=zd.of
def nu:MS:=(zn (jU (fH ↑F) (zA (oY ↑V (uh (mV 2)))) zD) (zA (uh ↑V)))
def vv:MF:=zG 3 3 nu
def Z1:zd ["looked","title","made","fields"] ["looked","title","made","fields"] (za uZ):=zd.of
def eY(c:CA):MS:=(zn (jU (qS (jx (fH (zk (xj c) (z9 ↑F (z9 ↑V (z9 (mV 2) zh)))))) (jx (fH (zk (xb c) (z9 ↑F (z9 (mV 3) zh)))))) (zA (mC (.bl a_))) zD) (zA (zC uv (z9 (jq (xA (mV 3)) j6 (zk vv (z9 ↑V (z9 (m2 zx ↑F ↑H) (z9 (m2 zx ↑F ↑R) zh)))) [2]) zh))))
def kJ(c:CA):MF:=zG 4 4 (eY c)
def JC:zd ["looked","piece"] ["looked","piece"] (za bB):=zd.of
def u4(c:CA):MS:=(zn (jU (jl (m2 zZ (m2 zx ↑V ↑t) (mC (.str "record")))) (zA (zk (kJ c) (z9 ↑F (z9 (m2 zx ↑V ↑u) (z9 (m2 zx ↑V ↑H) (z9 (m2 zx ↑V ↑R) zh)))))) zD) (zn (jU (jl (m2 zZ (m2 zx ↑V ↑t) (mC (.str "choice")))) (zA (zk (kI c) (z9 ↑F (z9 (m2 zx ↑V ↑u) (z9 (m2 zx ↑V ↑H) (z9 (m2 zx ↑V (mC (.int 4))) zh)))))) zD) (zA (zk (xF c) ↑y))))
def kF(c:CA):MF:=zG 2 2 (u4 c)
def JD:zd ["parts"] ["parts"] (za bC):=zd.of
def mZ:MS:=(zA (zC pS (z9 (zC nK (z9 ↑F zh)) zh)))
def xg:MF:=zG 1 1 mZ
def l0:zd ["piece","plain","places"] ["piece"] (za oi):=zd.of
def pC:MS:=(zn (jU (jl (m2 zZ (m2 zx ↑F ↑t) (mC (.str "record")))) (zA (m2 zT (dg ↑F xh (jI ↑R)) (jJ (z9 (zk xg (z9 (m2 zx ↑F ↑R) zh)) zh)))) zD) (zn (jU (jl (m2 zZ (m2 zx ↑F ↑t) (mC (.str "choice")))) (zA (m2 zT (dg ↑F xh (jI (mC (.int 4)))) (jJ (z9 (zk xg (z9 (m2 zx ↑F (mC (.int 4))) zh)) zh)))) zD) (zn (zF 1 (m2 zx ↑F ↑H)) (zn (zF 2 (m2 zT (dg (m2 zx ↑F ↑R) xh (jI ↑V)) (zk xg (z9 (dg (m2 zx ↑F ↑R) (jI ↑V) xh) zh)))) (zA (m2 zT (dg ↑F xh (jI ↑R)) (jJ (z9 (mV 2) (z9 (m2 zx ↑F (mC (.int 4))) (z9 (zk xg (z9 (m2 zx ↑F (mC (.int 5))) zh)) zh))))))))))
def xG:MF:=zG 3 1 pC
def pD:zd ["self","pieces","looked","at","piece","told"] ["self","pieces"] (za qU):=zd.of
def jW(c:CA):MN:=vg c.memo c.Face "told_kinds" "told_functions" (jl (m2 zZ (m2 zx (mV 4) ↑t) (mC (.str "function")))) (qS (jl (m2 uJ (m2 zx (mV 4) ↑u) (mV 5))) (jx (fH (zk (kF c) (z9 (mV 2) (z9 (mV 4) zh)))))) (m2 zx (mV 4) ↑u) (zk xG (z9 (mV 4) zh))
def ux:zd ["self","at"] ["self","at"] (za vn):=zd.of
def pF:zd ["self","title"] ["self","title"] (za kA):=zd.of
def um(c:CA)(C:h_):MN:=iR C 2 [("title",1)]
def l5:zd ["self","title","made","parts"] ["self","title","made","parts"] (za kZ):=zd.of
def fj(c:CA)(C:h_):MN:=iR C 4 [("title",1),("made",2),("parts",3)]
def l6:zd ["self","title","made","closed","parts"] ["self","title","made","closed","parts"] (za qb):=zd.of
def fk(c:CA)(C:h_):MN:=iR C 5 [("title",1),("made",2),("closed",3),("parts",4)]
def lY:zd ["self","title","piece"] ["self","title"] (za ng):=zd.of
def JE(c:CA):MS:=(zn (zF 2 (eN (mP [c.Face] "told_kinds" ↑F) ↑V)) (zn (jU (jl (m2 dh (mV 2) (mC .non))) (zA (gh c.Bare (um c c.Bare) (z9 ↑V zh))) zD) (zn (jU (jl (m2 zZ (m2 zx (mV 2) ↑t) (mC (.str "record")))) (zA (gh c.Record (fj c c.Record) (z9 ↑V (z9 (m2 zx (mV 2) ↑H) (z9 (m2 zx (mV 2) ↑R) zh))))) zD) (zA (gh c.Choice (fk c c.Choice) (z9 ↑V (z9 (m2 zx (mV 2) ↑H) (z9 (m2 zx (mV 2) ↑R) (z9 (m2 zx (mV 2) (mC (.int 4))) zh)))))))))
def xm(c:CA):MF:=zG 3 2 (JE c)
def fm:zd ["self","form","part"] ["self","form"] (za qu):=zd.of
def k9(c:CA):MS:=(zn (kj (YU (mP [c.Record,c.Choice] "parts" ↑F)) (gN 2) (jU (jl (m2 zZ (m2 zx (mV 2) ↑t) ↑V)) (zA (m2 zx (mV 2) ↑u)) zD)) (zA (mC .non)))
def ka(c:CA):MF:=zG 3 2 (k9 c)
def dr:zd ["self","form"] ["self","form"] (za vp):=zd.of
def bJ(c:CA):MS:=(zA (mC .non))
def jO(c:CA):MF:=zG 2 2 (bJ c)
def eZ:zd ["face","kinds","row","field"] ["face","kinds","row"] (za bv):=zd.of
def Xn(c:CA):MS:=(zn (zF 3 (d4 c.Kind c.Bare c.Record c.Choice "field" (jm c) (jm c) (vq c) (jm c) (kU c.Face "kind" (xm c) ↑F (z9 (m2 zx ↑V (m2 zx (mV 2) ↑u)) zh)) (z9 (m2 zx (mV 2) ↑H) zh))) (zA (lF (gS (jl (m2 Wd (mV 3) (mC .non))) (fH (m2 zx (mV 3) ↑H))) (m2 zx (mV 3) ↑t) (mC .non))))
def l7(c:CA):MF:=zG 4 3 (Xn c)
def mB:zd ["face","kinds","row","told"] ["face","kinds","row"] (za lP):=zd.of
def Z2(c:CA):MS:=(zn (zF 3 (zk (pZ c) (z9 (kU c.Face "kind" (xm c) ↑F (z9 (m2 zx ↑V (m2 zx (mV 2) ↑u)) zh)) (z9 (m2 zx (mV 2) ↑H) zh)))) (zA (lF (jl (m2 zZ (mV 3) (m2 zx ↑V (m2 zx (mV 2) ↑R)))) (mV 3) (mC .non))))
def u5(c:CA):MF:=zG 4 3 (Z2 c)
def lZ:zd ["face","kinds","row","carried"] ["face","kinds","row"] (za eR):=zd.of
def JF(c:CA):MS:=(zn (zF 3 (d4 c.Kind c.Bare c.Record c.Choice "carried" (jO c) (jO c) (jO c) (ka c) (kU c.Face "kind" (xm c) ↑F (z9 (m2 zx ↑V (m2 zx (mV 2) ↑u)) zh)) (z9 (m2 zx (mV 2) ↑H) zh))) (zA (lF (jl (m2 zZ (mV 3) (m2 zx ↑V (m2 zx (mV 2) ↑R)))) (mV 3) (mC .non))))
def nv(c:CA):MF:=zG 4 3 (JF c)
def d3:zd ["face","kinds","row","look"] ["face","kinds","row"] (za bw):=zd.of
def LA(c:CA):List (Str×MF):=[("num",bF),("word",eV),("call",ni c),("get",l7 c),("getor",u5 c),("take",nv c)]
def CI:MT:=jx (fH (zk xp (z9 (mV 2) (z9 (zC xP (z9 ↑V zh)) zh))))
def l8(c:CA):MS:=zn (jU CI (zA (mC .non)) zD) (rN 3 (LA c) (m2 zx (mV 2) ↑t) (z9 ↑F (z9 ↑V (z9 (mV 2) zh))))
def jh(c:CA):MF:=zG 4 3 (l8 c)
def qO:zd ["face","client","kinds","at","row","kind"] ["face","client"] (za bz):=zd.of
def CJ(c:CA):ME:=zk (jh c) (z9 ↑F (z9 (mV 2) (z9 (mV 4) zh)))
def VY(c:CA):MS:=zn (zF 5 (CJ c)) (zn (jU (jl (m2 dh (mV 5) (mC .non))) (bq c.NoClient (mV 3)) zD) (nS 2 (mV 5)))
def Uq:MG:=mO 2 (kb (gN 3) (kb (gN 4) mN))
def qw(c:CA):MS:=zn (zF 2 (ki zh)) (zn (kj (Jp ↑V) Uq (VY c)) (pq 2))
def u6(c:CA):MF:=zG 6 2 (qw c)
def du:zd ["_law_script","_law_k"] ["_law_script","_law_k"] (za n6):=zd.of
def gI:MS:=(zn (jU (jl (m2 uH ↑V (zC xP (z9 ↑F zh)))) (zA (m2 zx ↑F ↑V)) zD) (zA ↑t))
def vw:MF:=zG 2 2 gI
def aI:zd ["_law_found","_law_due_here"] ["_law_found","_law_due_here"] (za pX):=zd.of
def gn(r:MF):MS:=(zn (jU (jl (m2 dh ↑V (mC .non))) (zA (m2 dh ↑F (mC .non))) zD) (zn (jU (fH (zC uw (z9 ↑V (z9 (mC (.ty "bool")) zh)))) (zA (x8 (zC uw (z9 ↑F (z9 (mC (.ty "bool")) zh))) (m2 zZ ↑F ↑V))) zD) (zn (jU (fH (zC uw (z9 ↑V (z9 (mC (.ty "int")) zh)))) (zA (x8 (zC uw (z9 ↑F (z9 (mC (.ty "int")) zh))) (x8 (uh (zC uw (z9 ↑F (z9 (mC (.ty "bool")) zh)))) (m2 zZ ↑F ↑V)))) zD) (zn (jU (fH (zC uw (z9 ↑V (z9 (mC (.ty "str")) zh)))) (zA (x8 (zC uw (z9 ↑F (z9 (mC (.ty "str")) zh))) (m2 zZ ↑F ↑V))) zD) (zn (jU (qS (jl (m2 fG (zC uw (z9 ↑V (z9 (mC (.ty "tuple")) zh))) (zC uw (z9 ↑F (z9 (mC (.ty "tuple")) zh))))) (jl (m2 fG (zC uw (z9 ↑V (z9 (mC (.ty "list")) zh))) (zC uw (z9 ↑F (z9 (mC (.ty "list")) zh)))))) (zA (mC (.bl a_))) zD) (zn (jU (jl (m2 fG (zC xP (z9 ↑F zh)) (zC xP (z9 ↑V zh)))) (zA (mC (.bl a_))) zD) (zA (zC uv (z9 (jq (cP (z9 (zC xP (z9 ↑V zh)) zh)) j6 (zk r (z9 (m2 zx ↑V ↑F) (z9 (m2 zx (mV 2) ↑F) zh))) [0,1]) zh)))))))))
def jr:Nat->MF|0=>QC|n+1=>zG 2 2 (gn (jr n))
def xq:MF:=jr 8
def mD:zd ["_law_cell","_law_k","_law_number"] ["_law_cell","_law_k"] (za lT):=zd.of
def i8:MS:=(zn (zF 2 (m2 jZ (m2 ZM (m2 zT (m2 zT ↑F (m2 ZM (mC (.int 7919)) ↑V)) ↑u) (mC (.int 48271))) (mC (.int 2147483647)))) (zA (m2 jZ (m2 ZM (mV 2) (m2 zT (m2 gj (mV 2) (mC (.int 1009))) (mC (.int 69621)))) (mC (.int 2147483647)))))
def qd:MF:=zG 3 2 i8
def jt:zd ["_law_face","_law_client","_law_found","_law_at","_law_plain","e"] ["_law_face","_law_client"] (za mj):=zd.of
def CK(c:CA):ME:=zk (u6 c) (z9 ↑F (z9 ↑V zh))
def CL(C:h_):MS:=zn (zF 3 (QJ [C] (mV 5))) (zF 4 (x8 (Xc [(C,e_)] (mV 5)) (x8 (Xc [(C,e_)] (mV 5)) (uh (Xc [(C,a_)] (mV 5))))))
def Bh:ME:=jJ (z9 (mV 2) (z9 (mV 3) (z9 (mV 4) zh)))
def ko(c:CA):MS:=zn (zF 2 (mC .non)) (zn (zF 3 (mC .non)) (zn (zF 4 (mC (.bl e_))) (zn (bt [c.NoClient] (b_ 5) (zF 2 (CK c)) (CL c.NoClient)) (zA Bh))))
def qC(c:CA):MF:=zG 6 2 (ko c)
def vz:zd ["_law_cell","_law_x","_law_head","_law_tail","_law_found"] ["_law_cell"] (za fO):=zd.of
def DS:ME:=jq (xA (mC (.str "cdefg"))) j6 (m2 zT (m2 zT (mV 2) ↑F) ↑V) [3,2]
def DT:ME:=m2 zT (mC (.str "#")) (zC PL (z9 (m2 jZ (m2 gj ↑V (mC (.int 48))) (mC (.int 100))) zh))
def DU:ME:=m2 zT (m2 zT (mC (.str "(")) (m2 zx (mV 4) ↑t)) (mC (.str "&word)"))
def LB(k:Int):MT:=jl (m2 zZ (m2 jZ (m2 gj ↑V (mC (.int 16))) ↑R) (mC (.int k)))
def ET(a b c d:Str)(m:ME):ME:=m2 zx (ki (z9 (mC (.str a)) (z9 (mC (.str b)) (z9 (mC (.str c)) (z9 (mC (.str d)) zh))))) m
def fU:MS:=zn (zF 1 (zk qd (z9 ↑F (z9 ↑t zh)))) (zn (zF 2 (ET "" "a" "zz" "mor" (m2 jZ ↑V (mC (.int 4))))) (zn (zF 3 (ET "" "b" "xy" "k" (m2 jZ (m2 gj ↑V (mC (.int 4))) (mC (.int 4))))) (zn (zF 4 DS) (zn (jU (LB 0) (gC 4 ↑R DT) zD) (zn (jU (LB 1) (gC 4 ↑R DU) zD) (pq 4))))))
def qE:MF:=zG 5 1 fU
def Z3:zd ["_law_titles_here","_law_x"] ["_law_titles_here","_law_x"] (za eT):=zd.of
def d6:MS:=(zA (m2 zx (m2 zT (ki (z9 (mC (.str "num")) (z9 (mC (.str "word")) zh))) ↑F) (m2 jZ ↑V (m2 zT ↑H (zC xP (z9 ↑F zh))))))
def kK:MF:=zG 2 2 d6
def ju:zd ["_law_titles_here","_law_at","_law_cell","_law_x","_law_made","_law_fields","_law_k","_law_y","_law_due_here","_law_sure"] ["_law_titles_here","_law_at","_law_cell"] (za mn):=zd.of
def CM:ME:=x8 (mV 4) (m2 zZ (m2 jZ (mV 7) ↑H) ↑u)
def CN:ME:=x8 (m2 mJ (m2 jZ (m2 gj (mV 7) ↑H) ↑R) ↑t) (oY (mV 8) (uh (mV 4)))
def n3(a b c:Str)(m:ME):ME:=m2 zx (ki (z9 (mC (.str a)) (z9 (mC (.str b)) (z9 (mC (.str c)) zh)))) m
def CO:ME:=jJ (z9 (zk kK (z9 ↑F (z9 (m2 gj (mV 7) (mC (.int 6))) zh))) (z9 (mV 8) (z9 (mV 9) zh)))
def E1:MS:=zn (zF 7 (zk qd (z9 (mV 2) (z9 (m2 zT ↑H (mV 6)) zh)))) (zn (zF 8 CM) (zn (zF 9 CN) (uj 5 (n3 "left" "q" "zeal" (mV 6)) CO)))
def LD(k:Nat):ME:=x8 (m2 mJ (m2 jZ (mV k) ↑R) ↑t) (m2 tJ (m2 zx (m2 zx ↑F ↑V) ↑t) (mC (.str "#(")))
def JG(i:Nat)(m:ME):ME:=zk qd (z9 (mV i) (z9 m zh))
def oj(i:Nat)(a b:Int):ME:=m2 jZ (m2 gj (mV i) (mC (.int a))) (mC (.int b))
def fV:MS:=zn (zF 3 (JG 2 ↑u)) (zn (zF 4 (LD 3)) (zn (zF 5 uN) (zn (kj (gD (z9 (oj 3 3 4) zh)) (gN 6) E1) (zA (jJ (z9 (mV 4) (z9 (mV 5) zh)))))))
def kq:MF:=zG 10 3 fV
def qe:zd ["_law_titles_here","_law_at","_law_cell","_law_x","_law_forms","_law_k"] ["_law_titles_here","_law_at","_law_cell"] (za mq):=zd.of
def CP:ME:=zk kK (z9 ↑F (z9 (JG 2 (m2 zT ↑H (mV 5))) zh))
def DV:MS:=uj 4 (n3 "no" "okay" "z" (mV 5)) CP
def fW:MS:=zn (zF 3 (JG 2 ↑u)) (zn (zF 4 uN) (zn (kj (gD (z9 (oj 3 6 4) zh)) (gN 5) DV) (zA (jJ (z9 (LD 3) (z9 (m2 zZ (oj 3 3 2) ↑t) (z9 (mV 4) zh)))))))
def kx:MF:=zG 6 3 fW
def jG:zd ["_law_titles_here","_law_cell","_law_x","_law_places","_law_k","_law_y","_law_faults"] ["_law_titles_here","_law_cell"] (za uk):=zd.of
def CQ:ME:=jJ (z9 (n3 "at" "by" "of" (m2 jZ (m2 zT (mV 4) (m2 gj (mV 2) (mC (.int 4)))) ↑R)) (z9 (zk kK (z9 ↑F (z9 (mV 5) zh))) (z9 (m2 zZ (oj 5 8 3) ↑t) zh)))
def EU:MS:=zn (zF 5 (JG 1 (m2 zT ↑H (mV 4)))) (nS 3 CQ)
def CS:ME:=dg (ki (z9 (mC (.str "gone")) (z9 (mC (.str "late")) zh))) (jI (oj 2 12 3)) xh
def Bi:ME:=m2 jZ (m2 gj (mV 2) (mC (.int 36))) (m2 zT (zC xP (z9 (mV 3) zh)) ↑u)
def Bj:ME:=zk kK (z9 ↑F (z9 (m2 gj (mV 2) (mC (.int 144))) zh))
def qX:MS:=zn (zF 2 (JG 1 ↑u)) (zn (zF 3 (ki zh)) (zn (kj (gD (z9 (m2 jZ (mV 2) (mC (.int 4))) zh)) (gN 4) EU) (zn (zF 6 CS) (zA (jJ (z9 Bi (z9 (mV 3) (z9 Bj (z9 (mV 6) zh)))))))))
def kB:MF:=zG 7 2 qX
def jE:zd ["_law_cell","_law_titles_here","_law_records","_law_choices","_law_functions","_law_k","_law_x"] ["_law_cell"] (za lU):=zd.of
def wT(k:Int):MT:=jl (m2 uH (m2 jZ (mV 6) (mC (.int 5))) (mC (.int k)))
def QU:ME:=m2 zx ↑V (mV 5)
def Vy(f:MF):ME:=zk f (z9 ↑V (z9 (mV 5) (z9 (mV 6) zh)))
def ID:MS:=zn (zF 6 (JG 0 (m2 zT ↑R (mV 5)))) (jU (wT 2) (uj 2 QU (Vy kq)) (jU (wT 4) (uj 3 QU (Vy kx)) zD))
def DW:MS:=uj 4 (n3 "ask" "give" "take" (mV 5)) (zk kB (z9 ↑V (z9 (JG 0 (m2 zT (mC (.int 8)) (mV 5))) zh)))
def u7:MS:=zn (HR 1 (zF 1 (zk qE (z9 ↑F zh)))) (zn (zF 2 uN) (zn (zF 3 uN) (zn (zF 4 uN) (zn (kj (gD (z9 (mC (.int 4)) zh)) (gN 5) ID) (zn (kj (gD (z9 (m2 jZ (JG 0 (mC (.int 7))) (mC (.int 4))) zh)) (gN 5) DW) (zA (jJ (z9 ↑V (z9 (mV 2) (z9 (mV 3) (z9 (mV 4) zh)))))))))))
def u8:MF:=zG 7 1 u7
def zU:zd ["_law_world_here","_law_titles_here","_law_records","_law_choices","_law_functions","_law_found","_law_title","_law_part","_law_name"] ["_law_world_here"] (za fQ):=zd.of
def DX:ME:=jJ (z9 (mC (.str "record")) (z9 (mV 6) (z9 (m2 zx (mV 7) ↑t) (z9 (zC pS (z9 (j9 (fh (m2 zx (mV 7) ↑u)) ↑U j6 (m2 zT (jJ (z9 ↑F zh)) ↑V) 2 []) zh)) zh))))
def DY:ME:=jJ (z9 (mC (.str "choice")) (z9 (mV 6) (z9 (m2 zx (mV 7) ↑t) (z9 (m2 zx (mV 7) ↑u) (z9 (Jm (m2 zx (mV 7) ↑H)) zh)))))
def DZ:ME:=jJ (z9 (mC (.str "function")) (z9 (mV 8) (z9 (m2 zx (mV 7) ↑t) (z9 (zC pS (z9 (m2 zx (mV 7) ↑u) zh)) (z9 (m2 zx (mV 7) ↑H) (z9 (zC pS (z9 (m2 zx (mV 7) ↑R) zh)) zh))))))
def fX:MS:=zn (gX ↑F (mO 4 (kb (gN 1) (kb (gN 2) (kb (gN 3) (kb (gN 4) mN)))))) (zn (zF 5 (ki zh)) (zn (ba (mV 2) (mO 2 (kb (gN 6) (kb (gN 7) mN))) (nS 5 DX)) (zn (ba (mV 3) (mO 2 (kb (gN 6) (kb (gN 7) mN))) (nS 5 DY)) (zn (ba (mV 4) (mO 2 (kb (gN 8) (kb (gN 7) mN))) (nS 5 DZ)) (pq 5)))))
def fY:MF:=zG 9 1 fX
def jA:zd ["_law_titles_here","_law_pieces_here","_law_client","_law_kinds","_law_k","_law_kind_here","_law_name"] ["_law_titles_here"] (za n8):=zd.of
def bK:MS:=(zn (zF 1 (ki zh)) (zn (zF 2 (ki zh)) (zn (zF 3 (m2 zT (ki (z9 (mC (.str "num")) (z9 (mC (.str "word")) zh))) ↑F)) (zn (kj (Xh 3) (mO 2 (kb (gN 4) (kb (gN 5) mN))) (zn (zF 6 (m2 zT (mC (.str "f")) (m2 zx (mC (.str "abcdefgh")) (mV 4)))) (zn (nS 1 (jJ (z9 (mC (.str "function")) (z9 (mV 6) (z9 ↑t (z9 (jJ zh) (z9 (mV 5) (z9 (jJ zh) zh)))))))) (nS 2 (jJ (z9 (mC (.str "call")) (z9 (mV 6) (z9 (jJ zh) (z9 (jJ zh) (z9 (jJ zh) zh)))))))))) (zA (jJ (z9 ↑V (z9 (mV 2) (z9 (mV 3) zh)))))))))
def gJ:MF:=zG 7 1 bK
def i9:zd ["_law_kinds","_law_kind_here","_law_x","_law_alike_here"] ["_law_kinds","_law_kind_here","_law_x"] (za n9):=zd.of
def JH:MS:=(zn (zF 3 (j9 (uU ↑F) ↑U (jl (m2 zZ ↑V (mV 2))) ↑F 2 [1])) (zn (jU (qS (jl (m2 zZ (m2 jZ (mV 2) (mC (.int 17))) ↑t)) (jl (m2 zZ (mV 3) (ki zh)))) (zA (m2 YQ (m2 jZ (m2 gj (mV 2) (mC (.int 17))) (m2 zT (zC xP (z9 ↑F zh)) ↑H)) ↑u)) zD) (zA (m2 zx (mV 3) (m2 jZ (m2 gj (mV 2) (mC (.int 17))) (zC xP (z9 (mV 3) zh)))))))
def nw:MF:=zG 4 3 JH
def aJ:zd ["_law_world_here","_law_kind_here"] ["_law_world_here","_law_kind_here"] (za gm):=zd.of
def Z4:MS:=(zn (jU (jl (m2 uJ ↑V (m2 zx ↑F ↑u))) (zA (j9 (fh (m2 zx (m2 zx (m2 zx ↑F ↑u) ↑V) ↑u)) ↑U j6 (jJ (z9 ↑F (z9 (m2 zx ↑V ↑t) (z9 (m2 zx ↑V ↑H) zh)))) 2 [])) zD) (zn (jU (jl (m2 uJ ↑V (m2 zx ↑F ↑H))) (zA (j9 (fh (m2 zx (m2 zx (m2 zx ↑F ↑H) ↑V) ↑H)) ↑U j6 (jJ (z9 ↑F (z9 ↑V (z9 (mC .non) zh)))) 2 [])) zD) (zA (ki zh))))
def xr:MF:=zG 2 2 Z4
def j7:zd ["_law_world_here","_law_kinds","_law_cell","_law_x","_law_some_here","_law_one","_law_parts_here","_law_name","_law_kind_here","_law_sure","_law_word"] ["_law_world_here","_law_kinds","_law_cell"] (za mU):=zd.of
def g2:MG:=mO 2 (kb (gN 0) (kb (gN 1) mN))
def Bk:ME:=j9 (uU ↑V) g2 (jl (m2 fG (zk xr (z9 (mV 2) (z9 ↑V zh))) (ki zh))) ↑F 2 [0]
def C3:MT:=gS (jl (m2 fG (mV 4) (ki zh))) (jl (m2 mJ (oj 3 9 8) ↑t))
def C4:MS:=zn (zF 5 (m2 zx (mV 4) (m2 jZ (m2 gj (mV 3) (mC (.int 72))) (zC xP (z9 (mV 4) zh))))) (zF 6 (zk xr (z9 ↑F (z9 (m2 zx ↑V (mV 5)) zh))))
def Bl:ME:=ki (z9 (jJ (z9 (mC (.str "left")) (z9 (mC (.str "num")) (z9 (mC (.bl e_)) zh)))) zh)
def CT:ME:=m2 zx (mV 6) (m2 jZ (m2 gj (mV 3) (mC (.int 700))) (zC xP (z9 (mV 6) zh)))
def CU:MG:=mO 3 (kb (gN 7) (kb (gN 8) (kb (gN 9) mN)))
def C5:MS:=jU (jl (m2 mJ (oj 3 15000 6) ↑t)) (zn (zF 10 (m2 zx (ki (z9 (mC (.str "get")) (z9 (mC (.str "getor")) zh))) (oj 3 5000 2))) (jU (jl (m2 dh (mV 9) (mC .non))) (zF 10 (mC (.str "take"))) zD)) zD
def C6:MS:=jU (jl (m2 zZ (oj 3 90000 9) ↑t)) (zF 7 (ET "left" "okay" "rest" "z" (oj 3 810000 4))) zD
def C7:MS:=zn (jU (jl (m2 zZ (mV 10) (mC (.str "get")))) (zA (jJ (z9 (mC (.str "get")) (z9 (mV 5) (z9 (mV 7) zh))))) zD) (zA (jJ (z9 (mV 10) (z9 (mV 5) (z9 (mV 7) (z9 (zk nw (z9 ↑V (z9 (mV 8) (z9 (JG 2 (mC (.int 31))) zh)))) zh))))))
def bL:MS:=zn (zF 3 (JG 2 (mC (.int 30)))) (zn (zF 4 Bk) (zn (zF 5 (m2 YQ (m2 jZ (mV 3) (m2 zT (zC xP (z9 ↑V zh)) ↑H)) ↑u)) (zn (zF 6 Bl) (zn (jU C3 C4 zD) (zn (gX CT CU) (zn (zF 10 (n3 "get" "getor" "take" (oj 3 5000 3))) (zn C5 (zn C6 C7))))))))
def u9:MF:=zG 11 3 bL
def qP:zd ["_law_world_here","_law_kinds","_law_row_here","_law_parts_here","_law_name","_law_kind_here","_law_sure"] ["_law_world_here","_law_kinds","_law_row_here"] (za mW):=zd.of
def CV:ME:=jq (xA (zk xr (z9 ↑F (z9 (m2 zx ↑V (m2 zx (mV 2) ↑u)) zh)))) (jl (m2 zZ (m2 zx ↑F ↑t) (m2 zx ↑V ↑H))) ↑F [2]
def CW:MT:=qS (jl (m2 zZ (mV 3) (ki zh))) (jl (m2 fG (m2 zZ (m2 zx (mV 2) ↑t) (mC (.str "take"))) (m2 dh (m2 zx (m2 zx (mV 3) ↑t) ↑H) (mC .non))))
def EV(i:Int):ME:=qp ax uH ↑t (m2 zx (mV 2) (mC (.int i))) (zC xP (z9 ↑V zh))
def C8:MS:=zn (jU (fH (mV 6)) (pq 5) zD) (zA (mC .non))
def EW:MS:=zn (jU (gS (jl (EV 3)) (jl (m2 zZ (m2 zx ↑V (m2 zx (mV 2) ↑R)) (mV 5)))) (pq 5) zD) (zA (mC .non))
def Bm:MG:=mO 3 (kb (gN 4) (kb (gN 5) (kb (gN 6) mN)))
def ua:MS:=zn (jU (jx (jl (EV 1))) (zA (mC .non)) zD) (zn (zF 3 CV) (zn (jU CW (zA (mC .non)) zD) (zn (gX (m2 zx (mV 3) ↑t) Bm) (zn (jU (jl (m2 zZ (m2 zx (mV 2) ↑t) (mC (.str "get")))) C8 zD) EW))))
def jP:MF:=zG 7 3 ua
def qY:zd ["_law_script","_law_world_here","_law_springs_here","_law_client","_law_kinds","_law_face","_law_cell","_law_row_here","_law_due_here","_law_found","_law_at","_law_plain"] ["_law_script"] (za Jx):=zd.of
def gW:MG:=mO 3 (kb (gN 9) (kb (gN 10) (kb (gN 11) mN)))
def C9(c:CA):ME:=zk (qC c) (z9 (mV 5) (z9 (m2 zT (mV 3) (ki (z9 (mV 7) zh))) zh))
def Ca(c:CA):MS:=zn (zF 7 (zk u9 (z9 ↑V (z9 (mV 4) (z9 (mV 6) zh))))) (zn (zF 8 (zk jP (z9 ↑V (z9 (mV 4) (z9 (mV 7) zh))))) (zn (gX (C9 c) gW) (jU (jl (m2 Wd (mV 8) (mC .non))) (jU (jx (fH (zk xq (z9 (mV 9) (z9 (m2 zT (mV 4) (ki (z9 (mV 8) zh))) zh))))) (zA (mC (.bl a_))) zD) (jU (qS (jx (fH (zk xq (z9 (mV 10) (z9 (zC xP (z9 (mV 4) zh)) zh))))) (jx (fH (mV 11)))) (zA (mC (.bl a_))) zD))))
def CY:ME:=m2 zT (jq (xA (zk fY (z9 ↑V zh))) (jl (m2 fG (m2 zx ↑F ↑t) (mC (.str "function")))) ↑F []) (mV 2)
def Nv(c:CA):MS:=zn (zF 1 (zk u8 (z9 (zk vw (z9 ↑F (z9 ↑t zh))) zh))) (zn (gX (zk gJ (z9 (m2 zx ↑V ↑t) zh)) (mO 3 (kb (gN 2) (kb (gN 3) (kb (gN 4) mN))))) (zn (zF 5 (gh c.Face (jW c) (z9 CY zh))) (zn (kj (YU (dg ↑F (jI ↑u) (jI (mC (.int 15))))) (gN 6) (Ca c)) (zA (mC (.bl e_))))))
def Nw(c:CA):MF:=zG 12 1 (Nv c)
structure Txt(P:sN)(w:sY)(K:d_)(mg:Str->Option g_)(c:CA):Prop where
 yA:c.memo=memoP P w (gOf m_is_kind)yB:mg "ValueError"=f_
 yC:mg "all"=f_
 yD:mg "bool"=f_
 yE:mg "dict"=f_
 yF:mg "enumerate"=f_
 yG:mg "int"=f_
 yH:mg "isinstance"=f_
 yI:mg "len"=f_
 yJ:mg "list"=f_
 yK:mg "range"=f_
 yL:mg "set"=f_
 yM:mg "sorted"=f_
 yN:mg "str"=f_
 yO:mg "tuple"=f_
 yP:mg "zip"=f_
 yQ:∃t,mg "FIGURES"=b_ (.str "0123456789" t)yR:L9 K mg "GIVEN_KINDS" ["num","word"]yS:∃t,mg "LETTERS"=b_ (.str "abcdefghijklmnopqrstuvwxyz" t)yT:∃t,mg "LONGEST_NAME"=b_ (.int 12 t)yU:∃a kvs,bh P w K mg "NAMED_AT" a kvs eU
 yV:∃a kvs,bh P w K mg "THINGS_AT" a kvs lV
 yW:∃a kvs,Wf P w K mg "LOOKS" a kvs QS
 yX:zH K mg "named_parts" fL
 yY:zH K mg "names_of" mT
 yZ:zH K mg "used_things" kn
 y0:zH K mg "rise" Xi
 y2:zH K mg "is_in_form" gl
 y3:zH K mg "bound" rP
 y4:zH K mg "num_kind" bu
 y6:zH K mg "word_kind" eQ
 y8:zH K mg "may_be_bound" vm
 y9:zH K mg "call_kind" uV
 ya:zH K mg "field_kind" lO
 yb:zH K mg "get_kind" bv
 yc:zH K mg "getor_kind" lP
 yd:zH K mg "take_kind" eR
 ye:zH K mg "row_kind" bw
 yf:zH K mg "kinds_of" bz
 yh:zH K mg "run_end" o5
 yi:zH K mg "name_end" bA
 yj:zH K mg "number_end" lQ
 yk:zH K mg "points_end" lR
 ym:zH K mg "is_name" og
 yn:zH K mg "is_kind" oh
 yo:zH K mg "are_names" uW
 yp:zH K mg "tells_kind" lS
 yq:zH K mg "are_parts" fi
 yr:zH K mg "is_told_kind" uX
 yt:zH K mg "may_be_field" uY
 yu:zH K mg "is_record" uZ
 yw:zH K mg "is_choice" eS
 yx:zH K mg "is_function" mf
 yy:zH K mg "is_piece" bB
 yz:zH K mg "by_names" bC
 wA:zH K mg "settled" oi
 wB:zH K mg "_law_cell_at" n6
 wC:zH K mg "_law_alike" pX
 wD:zH K mg "_law_mixed" lT
 wF:zH K mg "_law_looked" mj
 wG:zH K mg "_law_titles" fO
 wH:zH K mg "_law_kind" eT
 wI:zH K mg "_law_record" mn
 wJ:zH K mg "_law_choice" mq
 wK:zH K mg "_law_function" uk
 wL:zH K mg "_law_world" lU
 wM:zH K mg "_law_pieces" fQ
 wN:zH K mg "_law_springs" n8
 wO:zH K mg "_law_some" n9
 wP:zH K mg "_law_parts" gm
 wQ:zH K mg "_law_row" mU
 wR:zH K mg "_law_due" mW
 wS:zH K mg "law" Jx
 wU:mg "Bare"=b_ (.ref c.Bare)wV:uB K c.Bare
 wW:mg "Choice"=b_ (.ref c.Choice)wX:uB K c.Choice
 wY:mg "Face"=b_ (.ref c.Face)wZ:uB K c.Face
 w4:mg "Kind"=b_ (.ref c.Kind)w6:uB K c.Kind
 w8:mg "Record"=b_ (.ref c.Record)w9:uB K c.Record
 wd:∃f fd,fx K "__init__" "Kind.__init__" kA f fd/\Mk K c.Bare f
 we:∃f fd,fx K "__init__" "Choice.__init__" qb f fd/\Mk K c.Choice f
 wg:∃f fd,fx K "__init__" "Face.__init__" qU f fd/\Mk K c.Face f
 wj:∃f fd,fx K "__init__" "Record.__init__" kZ f fd/\Mk K c.Record f
 wk:∃f fd,fx K "carried" "Kind.carried" vp f fd/\fw K c.Bare "carried" f
 wm:∃f fd,fx K "field" "Kind.field" kY f fd/\fw K c.Bare "field" f
 wn:∃f fd,fx K "carried" "Choice.carried" qu f fd/\fw K c.Choice "carried" f
 wo:∃f fd,fx K "field" "Kind.field" kY f fd/\fw K c.Choice "field" f
 wq:∃f fd,fx K "function" "Face.function" qV f fd/\fw K c.Face "function" f
 wu:∃f fd,fx K "kind" "Face.kind" ng f fd/\fw K c.Face "kind" f
 wv:∃f fd,fx K "carried" "Kind.carried" vp f fd/\fw K c.Kind "carried" f
 ww:∃f fd,fx K "field" "Kind.field" kY f fd/\fw K c.Kind "field" f
 wy:∃f fd,fx K "carried" "Kind.carried" vp f fd/\fw K c.Record "carried" f
 wz:∃f fd,fx K "field" "Record.field" gG f fd/\fw K c.Record "field" f
 vA:zS K c.Bare "title"vD:zS K c.Choice "closed"vE:zS K c.Choice "made"vG:zS K c.Choice "parts"vH:zS K c.Choice "title"vI:zS K c.Face "told_functions"vJ:zS K c.Face "told_kinds"vM:zS K c.Record "made"vO:zS K c.Record "parts"vQ:zS K c.Record "title"vR:∃f fd,fx K "__init__" "Kind.__init__" kA f fd/\Jb K c.Kind "__init__" f
 vU:c.Bare≠c.Choice
 vW:c.Bare≠c.Kind
 vX:c.Bare≠c.Record
 vY:c.Choice≠c.Kind
 vZ:c.Choice≠c.Record
 v3:c.Kind≠c.Record
 v5:mg "FaceError"=b_ (.ref c.FaceError)v6:mg "NoClient"=b_ (.ref c.NoClient)v7:mg "NoFace"=b_ (.ref c.NoFace)v8:Vq K mg "NoClient" "FaceError.__init__" vn c.NoClient
 v9:N9 K c.NoClient
 vb:W.exmOne K (.ref c.NoClient) (.ref c.NoClient)=b_ e_
 vc:BV K (.ref c.NoClient) (.ref c.FaceError)=b_ e_
 vd:BV K (.ref c.NoClient) (.ref c.NoFace)=b_ a_
 ve:BV K (.ref c.NoClient) (.type "ValueError")=b_ e_
section
variable{P:sN}{w:sY}{K:d_}{mg:Str->Option g_}{base:w_}{c:CA}(T:Txt P w K mg c)
include T
theorem ny:jc P w K mg base 1 "named_parts" ["row"] qz:=zH.ok3 T.yX bD ↑af λ_ _ _ _ _ _ _ hr=>(zj (zy (qy rfl (zL.of:zL ["row"] (za fL) _ "at" ["row"] [0]) rfl (qk (Wg T.yU ↑L (xI (qv 0) ze) (jK zb))) ↑ah (λ_ _ _ _ _ _=>(xI (qv 1) (qv 0))))))
theorem d7:jc P w K mg base 1 "names_of" ["part"] mX:=zH.ok3 T.yY Jy ↑af λ_ _ _ _ _ _ _ hr=>(zj (zy (pW (xs:=["name","thing"]) rfl (zL.of:zL ["part"] (za mT) _ "name" [] []) ↑J rfl (qk (qv 0)).two (λ_ _ _ _ _ _=>(jN rfl (zw (zo (i:=0) ER) (zw (zo (i:=1) ER) jM)))) ↑ah (λ_ _ _ _ _ _=>(qv 0)) (L:=0))))
theorem bM:jc P w K mg base 2 "used_things" ["row"] qA:=zH.ok3 T.yZ gH ↑af λ_ _ _ _ _ _ _ hr=>(zc (YZ (i:=1) gH.nd rfl (by first|exact .inl rfl|exact .inr rfl) rfl (zL.of:zL ["row","things","part"] (za kn) _ "at" ["row"] [0]) rfl (qk (Wg T.yV ↑L (xI (qv 0) ze) (jK zb))) ↑ah (λ_ _ _ _ _ _=>(xI (qv 1) (qv 0)))) (zc (jp (xT oE (xI (qv 0) ze) zE) (zj (Lw (i:=1) (xI (qv 0) ze) (λte pe=>ky (nY z_ RY RZ Uh (pv 1) (jY pe kC))))) zI) (zc (lH sW rfl (PJ (xC (ny T) (z3 (qv 0) zb))) (zo (i:=2) gH.nd) (zj (HQ (i:=1) (pW (xs:=["name","thing"]) rfl (zL.of:zL ["row","things","part"] (za kn) _ "name" [] []) ↑J rfl (qk (qv 2)).two (λ_ _ _ _ _ _=>(jN rfl (zw (zo (i:=0) ER) (zw (zo (i:=1) ER) jM)))) ↑ah (λ_ _ _ _ _ _=>(qv 1))) (λte pe=>ky (nY z_ RY RZ WS (pv 1) (jY pe kC)))))) (zj (zy (qy rfl (zL.of:zL ["row","things","part"] (za kn) _ "thing" [] []) rfl (qk (qv 1)) (λ_ _ _ _ _ _=>(nJ (xT Xa (qv 0) jS))) (λ_ _ _ _ _ _=>(qv 0))))))))
theorem Ur:jc P w K mg base 1 "rise" ["names"] QT:=zH.ok3 T.y0 Um ↑af λ_ _ _ _ _ _ _ hr=>(zj (zy (jf (fJ rfl) ↑L T.yC fy (z3 (pW (xs:=["name","later"]) rfl (zL.of:zL ["names"] (za Xi) _ "name" [] []) ↑J rfl (QP ↑L T.yP (z3 (qv 0) (z3 (xQ (qv 0) (jy ze) gU) zb))) (λ_ _ _ _ _ _=>(jN rfl (zw (zo (i:=0) CB) (zw (zo (i:=1) CB) jM)))) ↑ah (λ_ _ _ _ _ _=>(xM oX (qv 0) (qv 1))) (L:=0)) zb))))
theorem aK:jc P w K mg base 3 "is_in_form" ["row","ahead"] xp:=zH.ok3 T.y2 aF ↑r λ_ _ _ _ _ _ _ hr=>(zc (jp (kc (zY (jf (fJ rfl) ↑L T.yC fy (z3 (qy rfl (zL.of:zL ["row","ahead"] (za gl) _ "thing" ["ahead"] [1]) rfl (qk (xC (bM T) (z3 (qv 0) zb))) ↑ah (λ_ _ _ _ _ _=>(PV Pz oX ze (qv 0) (qv 1)))) zb)) (λ_=>rfl))) (zj (zy uG)) zI) (zj (zy (jf (fJ rfl) ↑L T.yC fy (z3 (qy rfl (zL.of:zL ["row","ahead"] (za gl) _ "part" [] []) rfl (qk (xC (ny T) (z3 (qv 0) zb))) ↑ah (λ_ _ _ _ _ _=>(xC (Ur T) (z3 (xC (d7 T) (z3 (qv 0) zb)) zb)))) zb)))))
theorem pG{C:h_}(F:∃f fd,fx K "function" "Face.function" qV f fd/\fw K C "function" f)(hc:uB K C):kS P w K mg base 1 C "function" ["self","name"] (xB c):=kS.ok F hc iU ↑r λ_ _ _ _ _ _ _ hr=>(zj (zy (X1 (Zo hr) (W8 (Ul ⟨T.wZ,T.vI⟩) (qv 0)) (qv 1))))
theorem QV:jc P w K mg base 2 "bound" ["face","row"] (rQ c):=zH.ok3 T.y3 bE ↑r λ_ _ _ _ _ _ _ hr=>(zc (zt (i:=2) bE.nd (xI (pT (pG T T.wq T.wZ) (hr.mono ↑p) (qv 0) (z3 (xI (qv 1) ze) zb)) ze)) (zc (rJ (i:=3) bE.nd rfl (by first|exact .inl rfl|exact .inr rfl) (xs:=["place","thing"]) rfl (zL.of:zL ["face","row","places","by_place"] (za rP) _ "place" [] []) ↑J rfl (QP ↑L T.yP (z3 (qv 2) (z3 (xI (qv 1) ze) zb))) (λ_ _ _ _ _ _=>(jN rfl (zw (zo (i:=0) CC) (zw (zo (i:=1) CC) jM)))) ↑ah (λ_ _ _ _ _ _=>(jK (z3 (xI (qv 0) ze) (z3 (qv 1) zb)))) (L:=0)) (zj (zy (xO je (gB pA ↑L T.yO kP (z3 (qv 3) zb)) (gB pA ↑L T.yO kP (z3 (xI (qv 1) ze) zb)))))))
theorem JI:jc P w K mg base 1 "num_kind" ["face","kinds","row"] bF:=zH.ok3 T.y4 Jz ↑C λ_ _ _ _ _ _ _ hr=>(zj (zy zE))
theorem Z5:jc P w K mg base 1 "word_kind" ["face","kinds","row"] eV:=zH.ok3 T.y6 rR ↑C λ_ _ _ _ _ _ _ hr=>(zj (zy zE))
theorem dv:jc P w K mg base 2 "may_be_bound" ["places","pairs","kinds"] nh:=zH.ok3 T.y8 qW ↑C λ_ _ _ _ _ _ _ hr=>(zc (zt (i:=3) qW.nd (xC (d7 T) (z3 (qv 1) zb))) (zc (jp (xT oN (J5 rfl ↑L T.yI ↑L T.yL (qv 3)) (xN (qv 3))) (zj (zy uG)) zI) (zc (zt (i:=4) qW.nd (HZ rfl ↑L T.yE (pW (xs:=["name","kind","due"]) rfl (zL.of:zL ["places","pairs","kinds","names","place_kinds"] (za vm) _ "name" [] []) ↑J rfl (qk (qv 0)).two (λ_ _ _ _ _ _=>(jN rfl (zw (zo (i:=0) DQ) (zw (zo (i:=1) DQ) (zw (zo (i:=2) DQ) jM))))) ↑ah (λ_ _ _ _ _ _=>(jK (z3 (qv 0) (z3 (qv 1) zb))))))) (zc (jp (kc (zY (jf (fJ rfl) ↑L T.yC fy (z3 (pW (xs:=["name","thing"]) rfl (zL.of:zL ["places","pairs","kinds","names","place_kinds"] (za vm) _ "name" ["kinds","place_kinds"] [2,4]) ↑J rfl (qk (qv 1)).two (λ_ _ _ _ _ _=>(jN rfl (zw (zo (i:=0) CD) (zw (zo (i:=1) CD) jM)))) ↑ah (λ_ _ _ _ _ _=>(xM oE (X1 (Zo hr) (qv 3) (qv 0)) (xI (qv 2) (qv 1))))) zb)) (λ_=>rfl))) (zj (zy uG)) zI) (zj (zy (jf (fJ rfl) ↑L T.yC fy (z3 (pW (xs:=["name","kind","due"]) rfl (zL.of:zL ["places","pairs","kinds","names","place_kinds"] (za vm) _ "name" ["names"] [3]) ↑J rfl (qk (qv 0)).two (λ_ _ _ _ _ _=>(jN rfl (zw (zo (i:=0) DR) (zw (zo (i:=1) DR) (zw (zo (i:=2) DR) jM))))) (λ_ _ _ _ _ _=>(nJ (zY (qv 2) (λ_=>rfl)))) (λ_ _ _ _ _ _=>(ZH (YS (rA hr)) xn (qv 0) (qv 3) (by with_unfolding_all rfl)))) zb))))))))
theorem Z6:jc P w K mg base 3 "call_kind" ["face","kinds","row"] (ni c):=zH.ok3 T.y9 pY ↑C λ_ _ _ _ _ _ _ hr=>(zc (zt (i:=3) pY.nd (pT (pG T T.wq T.wZ) (hr.mono ↑p) (qv 0) (z3 (xI (qv 2) ze) zb))) (zc (jp (uK (xT eO (qv 3) jS) (gz (xT ZN (xN (xI (qv 2) ze)) (xI (qv 3) ze)))).pt (zj (zy jS)) zI) (zc (zt (i:=4) pY.nd (xI (qv 3) ze)) (zc (jp (kc (zY (xC (dv T) (z3 (xI (qv 3) ze) (z3 (xC (QV T) (z3 (qv 0) (z3 (qv 2) zb))) (z3 (qv 1) zb)))) (λ_=>rfl))) (zj (zy jS)) zI) (zc (jp (kc (zY (jf (fJ rfl) ↑L T.yC fy (z3 (pW (xs:=["fault","thing"]) rfl (zL.of:zL ["face","kinds","row","piece","back"] (za uV) _ "fault" ["back","piece","kinds"] [4,3,1]) ↑J rfl (qk (xI (qv 2) ze)).two (λ_ _ _ _ _ _=>(jN rfl (zw (zo (i:=0) CF) (zw (zo (i:=1) CF) jM)))) ↑ah (λ_ _ _ _ _ _=>(gf (ZH (YS (rA hr)) xn (qv 0) (xI (qv 3) ze) (by with_unfolding_all rfl)) (qL (xM oE (xI (qv 4) (qv 1)) (qv 2)))))) zb)) (λ_=>rfl))) (zj (zy jS)) zI) (zj (pR 4)))))))
theorem xH{C:h_}(F:∃f fd,fx K "field" "Kind.field" kY f fd/\fw K C "field" f)(hc:uB K C):kS P w K mg base 1 C "field" ["self","name"] (jm c):=kS.ok F hc aG ↑r λ_ _ _ _ _ _ _ hr=>(zj (zy jS))
theorem uo{C:h_}(F:∃f fd,fx K "field" "Record.field" gG f fd/\fw K C "field" f)(hc:uB K C):kS P w K mg base 1 C "field" ["self","name"] (vq c):=kS.ok F hc ul ↑r λ_ _ _ _ _ _ _ hr=>(zc (lH sW rfl (PJ (W8 (DP ⟨T.w9,T.vO⟩ ⟨T.wX,T.vG⟩) (qv 0))) (zo (i:=2) ul.nd) (zj (jp (xT oE (xI (qv 2) ze) (qv 1)) (zj (zy (xQ (qv 2) (jy ze) gU))) zI))) (zj (zy jS)))
theorem aL:jc P w K mg base 2 "field_kind" ["kind","name"] (pZ c):=zH.ok3 T.ya mw ↑r λ_ _ _ _ _ _ _ hr=>(zc (zt (i:=2) mw.nd (Qu (xH T T.ww T.w6) (xH T T.wm T.wV) (uo T T.wz T.w9) (xH T T.wo T.wX) hr (qv 0) (z3 (qv 1) zb))) (zj (zy (pQ (xT eO (qv 2) jS) jS (xI (qv 2) ze)))))
theorem bN:jc P w K mg base 1 "run_end" ["text","start","signs"] iV:=zH.ok3 T.yh mY ↑C λ_ _ _ _ _ _ _ hr=>(zc (zt (i:=3) mY.nd (qv 1)) (zc (lG 100000 sW (iK (xT oX (qv 3) (xN (qv 0))) (lD (pP (YS (rA hr)) xn (xI (qv 0) (qv 3)) (qv 2) (by with_unfolding_all rfl)))).pt (zj (X2 rm (i:=3) mY.nd ze))) (zj (pR 3))))
theorem nB:jc P w K mg base 2 "name_end" ["text","start"] u0:=zH.ok3 T.yi eW ↑r λ_ _ _ _ _ _ _ hr=>(zc (zt (i:=2) eW.nd (xC (bN T) (z3 (qv 0) (z3 (qv 1) (z3 (W6 ↑L T.yS) zb))))) (zj (zy (pQ (xT Pz (xO KM (qv 2) (qv 1)) (PX ↑L T.yT)) (qv 2) (qv 1)))))
theorem l9:jc P w K mg base 3 "is_name" ["text"] jF:=zH.ok3 T.ym Xm ↑af λ_ _ _ _ _ _ _ hr=>(zj (zy (gf (xM oN (qv 0) zE) (qL (xM oE (xC (nB T) (z3 (qv 0) (z3 ze zb))) (xN (qv 0)))))))
theorem ic:jc P w K mg base 4 "are_names" ["names"] xl:=zH.ok3 T.yo rW ↑af λ_ _ _ _ _ _ _ hr=>(zj (zy (gf (jf (fJ rfl) ↑L T.yC fy (z3 (qy rfl (zL.of:zL ["names"] (za uW) _ "name" [] []) rfl (qk (qv 0)) ↑ah (λ_ _ _ _ _ _=>(xC (l9 T) (z3 (qv 0) zb))) (L:=0)) zb)) (qL (xM oE (J5 rfl ↑L T.yI ↑L T.yL (qv 0)) (xN (qv 0)))))))
theorem aM:jc P w K mg base 2 "number_end" ["text","start"] lX:=zH.ok3 T.yj mx ↑r λ_ _ _ _ _ _ _ hr=>(zc (zt (i:=2) mx.nd (xC (bN T) (z3 (qv 0) (z3 (xO je (qv 1) ze) (z3 (W6 ↑L T.yQ) zb))))) (zj (zy (pQ (xT ZN (qv 2) (xO je (qv 1) ze)) (qv 2) (qv 1)))))
theorem mE:jc P w K mg base 3 "points_end" ["text","start"] u3:=zH.ok3 T.yk qB ↑r λ_ _ _ _ _ _ _ hr=>(zc (zt (i:=2) qB.nd (qv 1)) (zc (lG 100000 sW (xT oE (xQ (qv 0) (jy (qv 2)) (jy (xO je (qv 2) ze))) zE) (zc (zt (i:=3) qB.nd (xC (nB T) (z3 (qv 0) (z3 (xO je (qv 2) ze) zb)))) (zc (jp (xT oE (qv 3) (xO je (qv 2) ze)) (zj (pR 2)) zI) (zj (zt (i:=2) qB.nd (qv 3)))))) (zj (pR 2))))
theorem Xo:jc P w K mg base 4 "is_kind" ["text"] m_is_kind:=zH.ok3 T.yn vt ↑af λ_ _ _ _ _ _ _ hr=>(zc (zt (i:=1) vt.nd (xk zb)) (zc (zt (i:=2) vt.nd ze) (zj (lG 100000 sW (zY uG (λ_=>rfl)) (zc (lG 100000 sW (xT oE (xQ (qv 0) (jy (qv 2)) (jy (xO je (qv 2) ze))) zE) (zc (eG (i:=1) zE (λte pe=>ky (nY z_ Ak Al xE (pv 1) (jY pe kC)))) (zj (X2 rm (i:=2) vt.nd ze)))) (zc (zt (i:=3) vt.nd (pQ (xT oE (xQ (qv 0) (jy (qv 2)) (jy (xO je (qv 2) ze))) zE) (xC (aM T) (z3 (qv 0) (z3 (qv 2) zb))) (xC (nB T) (z3 (qv 0) (z3 (qv 2) zb))))) (zc (jp (xT oE (qv 3) (qv 2)) (zj (zy uG)) zI) (zc (zt (i:=2) vt.nd (xC (mE T) (z3 (qv 0) (z3 (qv 3) zb)))) (zc (lG 100000 sW (iK (zY (qv 1) (λ_=>rfl)) (iK (xT oE (xI (qv 1) (KY ze)) zE) (lD (xT oE (xQ (qv 0) (jy (qv 2)) (jy (xO je (qv 2) ze))) zE)))).pt (zc (MW (i:=1) (ky (Ms z_ PySem.F.slot_list_pop PySem.F.type_list_pop Mt (pv 1)))) (zj (zt (i:=2) vt.nd (xC (mE T) (z3 (qv 0) (z3 (xO je (qv 2) ze) zb))))))) (zc (jp (kc (zY (qv 1) (λ_=>rfl))) (zj (zy (xM oE (qv 2) (xN (qv 0))))) zI) (zc (jp (uK (xT oN (xI (qv 1) (KY ze)) zE) (gz (xT oN (xQ (qv 0) (jy (qv 2)) (jy (xO je (qv 2) ze))) zE))).pt (zj (zy uG)) zI) (zc (rh (i:=1) (KY ze) zE (λtk te pk pe=>dY pe (Ym (pv 1) pk cj))) (zj (X2 rm (i:=2) vt.nd ze))))))))))))))
theorem fZ:jc P w K mg base 5 "tells_kind" ["looked","text"] (jn c):=U4 T.yA rfl T.yp aH ↑r λf Sg A outer s H E hr=>Vn (Xo T) (hr.mono ↑p) (Zo hr) rfl ↑L (by first|exact AW rfl|exact Ae (AW rfl)|exact Ae (Ae rfl)) (by first|exact AW rfl|exact Ae (AW rfl)|exact Ae (Ae rfl))
theorem ub:jc P w K mg base 6 "are_parts" ["looked","parts"] (xb c):=zH.ok3 T.yq rZ ↑r λ_ _ _ _ _ _ _ hr=>(zj (zy (gf (xC (ic T) (z3 (qy rfl (zL.of:zL ["looked","parts"] (za fi) _ "part" [] []) rfl (qk (qv 1)) ↑ah (λ_ _ _ _ _ _=>(xI (qv 0) ze))) zb)) (qL (jf (fJ rfl) ↑L T.yC fy (z3 (qy rfl (zL.of:zL ["looked","parts"] (za fi) _ "part" ["looked"] [0]) rfl (qk (qv 1)) ↑ah (λ_ _ _ _ _ _=>(xC (fZ T) (z3 (qv 1) (z3 (xI (qv 0) ze) zb))))) zb))))))
theorem uq:jc P w K mg base 6 "is_told_kind" ["looked","title","made"] (xj c):=zH.ok3 T.yr dl ↑C λ_ _ _ _ _ _ _ hr=>(zc (jp (uK (pP (YS (rA hr)) xn (qv 1) (PY ↑L T.yR) (by with_unfolding_all rfl)) (gz (kc (zY (xC (fZ T) (z3 (qv 0) (z3 (qv 1) zb))) (λ_=>rfl))))).pt (zj (zy uG)) zI) (zj (zy (MV (xC (l9 T) (z3 (qv 1) zb)) (qL (tK (qv 2)))))))
theorem Z7:jc P w K mg base 7 "is_choice" ["looked","title","made","forms"] (kI c):=zH.ok3 T.yw Z0 (λ_ _ _ _ _ _=>Wc λ_ _ _ _=>rfl) λ_ _ _ _ _ _ _ hr=>(zj (zy (gf (xC (uq T) (z3 (qv 0) (z3 (qv 1) (z3 (qv 2) zb)))) (qL (xC (ub T) (z3 (qv 0) (z3 (qv 3) zb)))))))
theorem bO:jc P w K mg base 7 "is_function" ["looked","name","plain","places","back","faults"] (xF c):=zH.ok3 T.yx bI (λ_ _ _ _ _ _=>HK λ_ _ _ _ _ _=>rfl) λ_ _ _ _ _ _ _ hr=>(zc (jp (uK (kc (zY (xC (l9 T) (z3 (qv 1) zb)) (λ_=>rfl))) (gz (kc (zY (xC (fZ T) (z3 (qv 0) (z3 (qv 4) zb))) (λ_=>rfl))))).pt (zj (zy uG)) zI) (zc (jp (uK (xT oX (qv 2) ze) (gz (xT ZN (qv 2) (xN (qv 3))))).pt (zj (zy uG)) zI) (zj (zy (gf (xC (ub T) (z3 (qv 0) (z3 (qv 3) zb))) (qL (xC (ic T) (z3 (qv 5) zb))))))))
theorem dw:jc P w K mg base 1 "may_be_field" ["made","due","sure"] vv:=zH.ok3 T.yt dq ↑C λ_ _ _ _ _ _ _ hr=>(zc (jp (zY (qv 0) (λ_=>rfl)) (zj (zy (MV (qv 1) (qL (tK (qv 2)))))) zI) (zj (zy (tK (qv 1)))))
theorem Z8:jc P w K mg base 7 "is_record" ["looked","title","made","fields"] (kJ c):=zH.ok3 T.yu Z1 (λ_ _ _ _ _ _=>Wc λ_ _ _ _=>rfl) λ_ _ _ _ _ _ _ hr=>(zc (jp (uK (kc (zY (xC (uq T) (z3 (qv 0) (z3 (qv 1) (z3 (qv 2) zb)))) (λ_=>rfl))) (gz (kc (zY (xC (ub T) (z3 (qv 0) (z3 (qv 3) zb))) (λ_=>rfl))))).pt (zj (zy uG)) zI) (zj (zy (jf (fJ rfl) ↑L T.yC fy (z3 (qy rfl (zL.of:zL ["looked","title","made","fields"] (za uZ) _ "field" ["made"] [2]) rfl (qk (qv 3)) ↑ah (λ_ _ _ _ _ _=>(xC (dw T) (z3 (qv 1) (z3 (xI (qv 0) ze) (z3 (xI (qv 0) ze) zb)))))) zb)))))
theorem JJ:jc P w K mg base 8 "is_piece" ["looked","piece"] (kF c):=zH.ok3 T.yy JC ↑r λ_ _ _ _ _ _ _ hr=>(zc (jp (xT oE (xI (qv 1) ze) zE) (zj (zy (xC (Z8 T) (z3 (qv 0) (z3 (xI (qv 1) ze) (z3 (xI (qv 1) ze) (z3 (xI (qv 1) ze) zb))))))) zI) (zc (jp (xT oE (xI (qv 1) ze) zE) (zj (zy (xC (Z7 T) (z3 (qv 0) (z3 (xI (qv 1) ze) (z3 (xI (qv 1) ze) (z3 (xI (qv 1) ze) zb))))))) zI) (zj (zy (xC (bO T) (z3 (qv 0) (z3 (xI (qv 1) ze) (z3 (xI (qv 1) ze) (z3 (xI (qv 1) ze) (z3 (xI (qv 1) ze) (z3 (xI (qv 1) ze) zb)))))))))))
theorem fo:jc P w K mg base 1 "by_names" ["parts"] xg:=zH.ok3 T.yz JD ↑af λ_ _ _ _ _ _ _ hr=>(zj (zy (gB pA ↑L T.yO kP (z3 (jf Vc ↑L T.yM V1 (z3 (qv 0) zb)) zb))))
theorem Xp:jc P w K mg base 2 "settled" ["piece"] xG:=zH.ok3 T.wA l0 ↑af λ_ _ _ _ _ _ _ hr=>(zc (jp (xT oE (xI (qv 0) ze) zE) (zj (zy (xO je (xQ (qv 0) gU (jy ze)) (jK (z3 (xC (fo T) (z3 (xI (qv 0) ze) zb)) zb))))) zI) (zc (jp (xT oE (xI (qv 0) ze) zE) (zj (zy (xO je (xQ (qv 0) gU (jy ze)) (jK (z3 (xC (fo T) (z3 (xI (qv 0) ze) zb)) zb))))) zI) (zc (zt (i:=1) l0.nd (xI (qv 0) ze)) (zc (zt (i:=2) l0.nd (xO je (xQ (xI (qv 0) ze) gU (jy (qv 1))) (xC (fo T) (z3 (xQ (xI (qv 0) ze) (jy (qv 1)) gU) zb)))) (zj (zy (xO je (xQ (qv 0) gU (jy ze)) (jK (z3 (qv 2) (z3 (xI (qv 0) ze) (z3 (xC (fo T) (z3 (xI (qv 0) ze) zb)) zb)))))))))))
theorem iW(F:∃f fd,fx K "__init__" "Face.__init__" qU f fd/\Mk K c.Face f)(hx:mg "Face"=b_ (.ref c.Face))(hc:uB K c.Face):gY P w K mg base 9 c.Face "Face" ["self","pieces"] (jW c):=gY.ok F hx pD (rG rfl) ↑r λf Sg A outer s H E hr=>Vm pD.nd rfl rfl (Zo hr) sW hc T.vJ T.vI ↑o ↑L T.yF (by first|exact AW rfl|exact Ae (AW rfl)|exact Ae (Ae rfl)) (by first|exact AW rfl|exact Ae (AW rfl)|exact Ae (Ae rfl)) (by first|exact AW rfl|exact Ae (AW rfl)|exact Ae (Ae rfl)) (by first|exact AW rfl|exact Ae rfl) (by first|exact AW rfl|exact Ae rfl) (by first|exact AW rfl|exact Ae rfl) (by first|exact AW rfl|exact Ae rfl) (by first|exact AW rfl|exact Ae rfl) (by first|exact AW rfl|exact Ae rfl) (by first|exact AW rfl|exact Ae rfl) (by first|exact AW rfl|exact Ae rfl) (Qr T.yA) (pP (Hw (PZ hr)) xn (V3 (Zo hr) (qv 4) ze (λ_ _=>rfl)) zE (c6 _)) (uK (pP (YS (rA hr)) xn (V3 (Zo hr) (qv 4) ze (λ_ _=>rfl)) (qv 5) (by with_unfolding_all rfl)) (gz (kc (zY (qT (JJ T) (hr.mono ↑p) ↑L (z3 (qv 2) (z3 (qv 4) zb))) (λ_=>rfl))))).pt (V3 (Zo hr) (qv 4) ze (λ_ _=>rfl)) (qT (Xp T) (hr.mono ↑p) ↑L (z3 (qv 4) zb))
theorem dy{x:Str}{C:h_}(h:Vq K mg x "FaceError.__init__" vn C):Lm P w K mg base x C:=Vq.ok h ux rfl ↑r
theorem iX{C:h_}{x:Str}(F:∃f fd,fx K "__init__" "Kind.__init__" kA f fd/\Mk K C f)(hx:mg x=b_ ↑aa)(hc:uB K C)(n0:zS K C "title"):gY P w K mg base 1 C x ["self","title"] (um c C):=gY.attrs F hx hc (Ul n0) ↑J ↑o ↑o pF ↑r λ_ _ _ _ _ _ _ hr=>(vh.fld (pv 0) (pv 1) vh.nil)
theorem pH:Jc P w K mg base 1 c.Kind "__init__" ["self","title"] "title":=Jc.ok T.vR pF ↑r λ_ _ _ _ _ _ _ hr=>(vh.fld (pv 0) (pv 1) vh.nil)
theorem lc{C:h_}{x:Str}(F:∃f fd,fx K "__init__" "Record.__init__" kZ f fd/\Mk K C f)(hx:mg x=b_ ↑aa)(hc:uB K C)(n0:zS K C "title")(n1:zS K C "made")(n2:zS K C "parts"):gY P w K mg base 2 C x ["self","title","made","parts"] (fj c C):=gY.attrs F hx hc (Cz n0 n1 n2) ↑J ↑o ↑o l5 (λ_ _ _ _ _ _=>Wc λ_ _ _ _=>rfl) λ_ _ _ _ _ _ _ hr=>(vh.base (pH T) (hr.mono ↑p) ↑L T.w4 (pv 0) (pv 1) (vh.fld (pv 0) (pv 2) (vh.fld (pv 0) (pv 3) vh.nil)))
theorem lg{C:h_}{x:Str}(F:∃f fd,fx K "__init__" "Choice.__init__" qb f fd/\Mk K C f)(hx:mg x=b_ ↑aa)(hc:uB K C)(n0:zS K C "title")(n1:zS K C "made")(n2:zS K C "closed")(n3:zS K C "parts"):gY P w K mg base 2 C x ["self","title","made","closed","parts"] (fk c C):=gY.attrs F hx hc (Bg n0 n1 n2 n3) ↑J ↑o ↑o l6 (λ_ _ _ _ _ _=>Nk λ_ _ _ _ _=>rfl) λ_ _ _ _ _ _ _ hr=>(vh.base (pH T) (hr.mono ↑p) ↑L T.w4 (pv 0) (pv 1) (vh.fld (pv 0) (pv 2) (vh.fld (pv 0) (pv 3) (vh.fld (pv 0) (pv 4) vh.nil))))
theorem uc{C:h_}(F:∃f fd,fx K "kind" "Face.kind" ng f fd/\fw K C "kind" f)(hc:uB K C):kS P w K mg base 4 C "kind" ["self","title"] (xm c):=kS.ok F hc lY ↑r λ_ _ _ _ _ _ _ hr=>(zc (zt (i:=2) lY.nd (X1 (Zo hr) (W8 (Ul ⟨T.wZ,T.vJ⟩) (qv 0)) (qv 1))) (zc (jp (xT eO (qv 2) jS) (zj (zy (rF (iX T T.wd T.wU T.wV T.vA) (hr.mono ↑p) ↑L (z3 (qv 1) zb)))) zI) (zc (jp (xT oE (xI (qv 2) ze) zE) (zj (zy (rF (lc T T.wj T.w8 T.w9 T.vQ T.vM T.vO) (hr.mono ↑p) ↑L (z3 (qv 1) (z3 (xI (qv 2) ze) (z3 (xI (qv 2) ze) zb)))))) zI) (zj (zy (rF (lg T T.we T.wW T.wX T.vH T.vE T.vD T.vG) (hr.mono ↑p) ↑L (z3 (qv 1) (z3 (xI (qv 2) ze) (z3 (xI (qv 2) ze) (z3 (xI (qv 2) ze) zb))))))))))
theorem ie{C:h_}(F:∃f fd,fx K "carried" "Choice.carried" qu f fd/\fw K C "carried" f)(hc:uB K C):kS P w K mg base 1 C "carried" ["self","form"] (ka c):=kS.ok F hc fm ↑r λ_ _ _ _ _ _ _ hr=>(zc (lH sW rfl (PJ (W8 (DP ⟨T.w9,T.vO⟩ ⟨T.wX,T.vG⟩) (qv 0))) (zo (i:=2) fm.nd) (zj (jp (xT oE (xI (qv 2) ze) (qv 1)) (zj (zy (xI (qv 2) ze))) zI))) (zj (zy jS)))
theorem qZ{C:h_}(F:∃f fd,fx K "carried" "Kind.carried" vp f fd/\fw K C "carried" f)(hc:uB K C):kS P w K mg base 1 C "carried" ["self","form"] (jO c):=kS.ok F hc dr ↑r λ_ _ _ _ _ _ _ hr=>(zj (zy jS))
theorem JK:jc P w K mg base 5 "get_kind" ["face","kinds","row"] (l7 c):=zH.ok3 T.yb eZ ↑C λ_ _ _ _ _ _ _ hr=>(zc (zt (i:=3) eZ.nd (Qu (xH T T.ww T.w6) (xH T T.wm T.wV) (uo T T.wz T.w9) (xH T T.wo T.wX) hr (pT (uc T T.wu T.wZ) (hr.mono ↑p) (qv 0) (z3 (xI (qv 1) (xI (qv 2) ze)) zb)) (z3 (xI (qv 2) ze) zb))) (zj (zy (pQ (iK (xT Xa (qv 3) jS) (lD (zY (xI (qv 3) ze) (λ_=>rfl)))).pt (xI (qv 3) ze) jS))))
theorem aN:jc P w K mg base 5 "getor_kind" ["face","kinds","row"] (u5 c):=zH.ok3 T.yc mB ↑C λ_ _ _ _ _ _ _ hr=>(zc (zt (i:=3) mB.nd (xC (aL T) (z3 (pT (uc T T.wu T.wZ) (hr.mono ↑p) (qv 0) (z3 (xI (qv 1) (xI (qv 2) ze)) zb)) (z3 (xI (qv 2) ze) zb)))) (zj (zy (pQ (xT oE (qv 3) (xI (qv 1) (xI (qv 2) ze))) (qv 3) jS))))
theorem Z9:jc P w K mg base 5 "take_kind" ["face","kinds","row"] (nv c):=zH.ok3 T.yd lZ ↑C λ_ _ _ _ _ _ _ hr=>(zc (zt (i:=3) lZ.nd (Qu (qZ T T.wv T.w6) (qZ T T.wk T.wV) (qZ T T.wy T.w9) (ie T T.wn T.wX) hr (pT (uc T T.wu T.wZ) (hr.mono ↑p) (qv 0) (z3 (xI (qv 1) (xI (qv 2) ze)) zb)) (z3 (xI (qv 2) ze) zb))) (zj (zy (pQ (xT oE (qv 3) (xI (qv 1) (xI (qv 2) ze))) (qv 3) jS))))
theorem JL:jc P w K mg base 6 "row_kind" ["face","kinds","row"] (jh c):=zH.ok3 T.ye d3 ↑C λ_ _ _ _ _ _ _ hr=>(zc (jp (kc (zY (xC (aK T) (z3 (qv 2) (z3 (xN (qv 1)) zb))) (λ_=>rfl))) (zj (zy jS)) zI) (Lk (n:=5) 3 (by exact T.yW) (hr.mono ↑p) ⟨⟨_,_,_,rfl,JI T,by decide⟩,⟨⟨_,_,_,rfl,Z5 T,by decide⟩,⟨⟨_,_,_,rfl,Z6 T,by decide⟩,⟨⟨_,_,_,rfl,JK T,by decide⟩,⟨⟨_,_,_,rfl,aN T,by decide⟩,⟨⟨_,_,_,rfl,Z9 T,by decide⟩,trivial⟩⟩⟩⟩⟩⟩ ↑L (xI (qv 2) ze) (Bb (i:=3) d3.nd) (pv 3) (z3 (qv 0) (z3 (qv 1) (z3 (qv 2) zb)))))
theorem JM:jc P w K mg base 7 "kinds_of" ["face","client"] (u6 c):=zH.ok3 T.yf qO ↑r λ_ _ _ _ _ _ _ hr=>(zc (zt (i:=2) qO.nd (xk zb)) (zc (QE sW rfl (Li ↑L T.yF (qv 1)) (jN rfl (zw (zo (i:=3) qO.nd) (zw (zo (i:=4) qO.nd) jM))) (zc (zt (i:=5) qO.nd (xC (JL T) (z3 (qv 0) (z3 (qv 2) (z3 (qv 4) zb))))) (zc (jp (xT eO (qv 5) jS) (zj (Ue (dy T T.v8) (hr.mono ↑p) ↑L (qv 3))) zI) (zj (eG (i:=2) (qv 5) (λte pe=>ky (nY z_ Ak Al xE (pv 2) (jY pe kC)))))))) (zj (pR 2))))
theorem dz:jc P w K mg base 1 "_law_cell_at" ["_law_script","_law_k"] vw:=zH.ok3 T.wB du ↑r λ_ _ _ _ _ _ _ hr=>(zc (jp (xT oX (qv 1) (xN (qv 0))) (zj (zy (xI (qv 0) (qv 1)))) zI) (zj (zy ze)))
theorem ut:∀n:Nat,jc P w K mg base (n+1) "_law_alike" ["_law_found","_law_due_here"] (jr n)|0=>jc.never T.wC ↑r|n+1=>(zH.ok3 (k:=n+1) T.wC aI ↑r λ_ _ _ _ _ _ _ hr=>(zc (jp (xT eO (qv 1) jS) (zj (zy (xM eO (qv 0) jS))) zI) (zc (jp (zY (jf kW ↑L T.yH j0 (z3 (qv 1) (z3 (gF ↑L T.yD oS) zb))) (λ_=>rfl)) (zj (zy (gf (jf kW ↑L T.yH j0 (z3 (qv 0) (z3 (gF ↑L T.yD oS) zb))) (qL (xM oE (qv 0) (qv 1)))))) zI) (zc (jp (zY (jf kW ↑L T.yH j0 (z3 (qv 1) (z3 (gF ↑L T.yG KC) zb))) (λ_=>rfl)) (zj (zy (gf (jf kW ↑L T.yH j0 (z3 (qv 0) (z3 (gF ↑L T.yG KC) zb))) (gf (tK (jf kW ↑L T.yH j0 (z3 (qv 0) (z3 (gF ↑L T.yD oS) zb)))) (qL (xM oE (qv 0) (qv 1))))))) zI) (zc (jp (zY (jf kW ↑L T.yH j0 (z3 (qv 1) (z3 (gF ↑L T.yN YM) zb))) (λ_=>rfl)) (zj (zy (gf (jf kW ↑L T.yH j0 (z3 (qv 0) (z3 (gF ↑L T.yN YM) zb))) (qL (xM oE (qv 0) (qv 1)))))) zI) (zc (jp (uK (xT oN (jf kW ↑L T.yH j0 (z3 (qv 1) (z3 (gF ↑L T.yO kP) zb))) (jf kW ↑L T.yH j0 (z3 (qv 0) (z3 (gF ↑L T.yO kP) zb)))) (gz (xT oN (jf kW ↑L T.yH j0 (z3 (qv 1) (z3 (gF ↑L T.yJ XT) zb))) (jf kW ↑L T.yH j0 (z3 (qv 0) (z3 (gF ↑L T.yJ XT) zb)))))).pt (zj (zy uG)) zI) (zc (jp (xT oN (xN (qv 0)) (xN (qv 1))) (zj (zy uG)) zI) (zj (zy (jf (fJ rfl) ↑L T.yC fy (z3 (qy rfl (zL.of:zL ["_law_found","_law_due_here"] (za pX) _ "_law_k" ["_law_found","_law_due_here"] [0,1]) rfl (V9 ↑L T.yK (z3 (xN (qv 1)) zb)) ↑ah (λ_ _ _ _ _ _=>(xC (ut n) (z3 (xI (qv 1) (qv 0)) (z3 (xI (qv 2) (qv 0)) zb))))) zb))))))))))).mono ↑p
theorem mF:jc P w K mg base 9 "_law_alike" ["_law_found","_law_due_here"] xq:=ut T 8
theorem j3:jc P w K mg base 1 "_law_mixed" ["_law_cell","_law_k"] qd:=zH.ok3 T.wD mD ↑r λ_ _ _ _ _ _ _ hr=>(zc (zt (i:=2) mD.nd (xO jo (xO KN (xO je (xO je (qv 0) (xO KN ze (qv 1))) ze) ze) ze)) (zj (zy (xO jo (xO KN (qv 2) (xO je (xO xx (qv 2) ze) ze)) ze))))
theorem bP:jc P w K mg base 8 "_law_looked" ["_law_face","_law_client"] (qC c):=zH.ok3 T.wF jt ↑r λ_ _ _ _ _ _ _ hr=>(zc (zt (i:=2) jt.nd jS) (zc (zt (i:=3) jt.nd jS) (zc (zt (i:=4) jt.nd uG) (zc (Ln rfl rfl ↑L T.v6 (Ul T.vb) ⟨jt.nd,rfl,rfl⟩ (λ_ _=>(zj (zt (i:=2) jt.nd (xC (JM T) (z3 (qv 0) (z3 (qv 1) zb)))))) λ_=>(zc (zt (i:=3) jt.nd (HW (Ul T.v9) (qv 5))) (zj (zt (i:=4) jt.nd (gf (QK ↑L T.yH (gR (v:=.ref c.FaceError) ↑L T.v5 rfl) (λ_ h=>h) (Ul ⟨T.v9,T.vc⟩) (qv 5)) (gf (QK ↑L T.yH (XD (v:=.ty "ValueError") ↑L T.yB (u:=.type "ValueError") ↑J rfl) (λ_ h=>h) (Ul ⟨T.v9,T.ve⟩) (qv 5)) (qL (tK (QK ↑L T.yH (gR (v:=.ref c.NoFace) ↑L T.v7 rfl) (λ_ h=>h) (Ul ⟨T.v9,T.vd⟩) (qv 5)))))))))) (zj (zy (jK (z3 (qv 2) (z3 (qv 3) (z3 (qv 4) zb))))))))))
theorem bQ:jc P w K mg base 2 "_law_titles" ["_law_cell"] qE:=zH.ok3 T.wG vz ↑af λ_ _ _ _ _ _ _ hr=>(zc (zt (i:=1) vz.nd (xC (j3 T) (z3 (qv 0) (z3 ze zb)))) (zc (zt (i:=2) vz.nd (xI (xk (z3 zE (z3 zE (z3 zE (z3 zE zb))))) (xO jo (qv 1) ze))) (zc (zt (i:=3) vz.nd (xI (xk (z3 zE (z3 zE (z3 zE (z3 zE zb))))) (xO jo (xO xx (qv 1) ze) ze))) (zc (YZ (i:=4) vz.nd rfl (by first|exact .inl rfl|exact .inr rfl) rfl (zL.of:zL ["_law_cell","_law_x","_law_head","_law_tail","_law_found"] (za fO) _ "_law_sign" ["_law_tail","_law_head"] [3,2]) rfl (qk zE) ↑ah (λ_ _ _ _ _ _=>(xO je (xO je (qv 2) (qv 0)) (qv 1)))) (zc (jp (xT oE (xO jo (xO xx (qv 1) ze) ze) ze) (zj (rh (i:=4) ze (xO je zE (gB L5 ↑L T.yN YM (z3 (xO jo (xO xx (qv 1) ze) ze) zb))) (λtk te pk pe=>dY pe (Ym (pv 4) pk cj)))) zI) (zc (jp (xT oE (xO jo (xO xx (qv 1) ze) ze) ze) (zj (rh (i:=4) ze (xO je (xO je zE (xI (qv 4) ze)) zE) (λtk te pk pe=>dY pe (Ym (pv 4) pk cj)))) zI) (zj (pR 4))))))))
theorem gp:jc P w K mg base 1 "_law_kind" ["_law_titles_here","_law_x"] kK:=zH.ok3 T.wH Z3 ↑r λ_ _ _ _ _ _ _ hr=>(zj (zy (xI (xO je (xk (z3 zE (z3 zE zb))) (qv 0)) (xO jo (qv 1) (xO je ze (xN (qv 0)))))))
theorem bR:jc P w K mg base 2 "_law_record" ["_law_titles_here","_law_at","_law_cell"] kq:=zH.ok3 T.wI ju ↑C λ_ _ _ _ _ _ _ hr=>(zc (zt (i:=3) ju.nd (xC (j3 T) (z3 (qv 2) (z3 ze zb)))) (zc (zt (i:=4) ju.nd (gf (xM ZN (xO jo (qv 3) ze) ze) (qL (ZH (Na (rA hr)) xn (xI (xI (qv 0) (qv 1)) ze) zE (by with_unfolding_all rfl))))) (zc (zt (i:=5) ju.nd cI) (zc (lH sW rfl (uQ ↑L T.yK (z3 (xO jo (xO xx (qv 3) ze) ze) zb)) (zo (i:=6) ju.nd) (zc (zt (i:=7) ju.nd (xC (j3 T) (z3 (qv 2) (z3 (xO je ze (qv 6)) zb)))) (zc (zt (i:=8) ju.nd (gf (qv 4) (qL (xM oE (xO jo (qv 7) ze) ze)))) (zc (zt (i:=9) ju.nd (gf (xM ZN (xO jo (xO xx (qv 7) ze) ze) ze) (qL (MV (qv 8) (qL (tK (qv 4))))))) (zj (cH (i:=5) (xI (xk (z3 zE (z3 zE (z3 zE zb)))) (qv 6)) (jK (z3 (xC (gp T) (z3 (qv 0) (z3 (xO xx (qv 7) ze) zb))) (z3 (qv 8) (z3 (qv 9) zb)))) (λtk te pk pe=>pO (Zo hr) (pv 5) pk pe rfl))))))) (zj (zy (jK (z3 (qv 4) (z3 (qv 5) zb)))))))))
theorem bS:jc P w K mg base 2 "_law_choice" ["_law_titles_here","_law_at","_law_cell"] kx:=zH.ok3 T.wJ qe ↑C λ_ _ _ _ _ _ _ hr=>(zc (zt (i:=3) qe.nd (xC (j3 T) (z3 (qv 2) (z3 ze zb)))) (zc (zt (i:=4) qe.nd cI) (zc (lH sW rfl (uQ ↑L T.yK (z3 (xO jo (xO xx (qv 3) ze) ze) zb)) (zo (i:=5) qe.nd) (zj (cH (i:=4) (xI (xk (z3 zE (z3 zE (z3 zE zb)))) (qv 5)) (xC (gp T) (z3 (qv 0) (z3 (xC (j3 T) (z3 (qv 2) (z3 (xO je ze (qv 5)) zb))) zb))) (λtk te pk pe=>pO (Zo hr) (pv 4) pk pe rfl)))) (zj (zy (jK (z3 (gf (xM ZN (xO jo (qv 3) ze) ze) (qL (ZH (Na (rA hr)) xn (xI (xI (qv 0) (qv 1)) ze) zE (by with_unfolding_all rfl)))) (z3 (xM oE (xO jo (xO xx (qv 3) ze) ze) ze) (z3 (qv 4) zb)))))))))
theorem iY:jc P w K mg base 2 "_law_function" ["_law_titles_here","_law_cell"] kB:=zH.ok3 T.wK jG ↑r λ_ _ _ _ _ _ _ hr=>(zc (zt (i:=2) jG.nd (xC (j3 T) (z3 (qv 1) (z3 ze zb)))) (zc (zt (i:=3) jG.nd (xk zb)) (zc (lH sW rfl (uQ ↑L T.yK (z3 (xO jo (qv 2) ze) zb)) (zo (i:=4) jG.nd) (zc (zt (i:=5) jG.nd (xC (j3 T) (z3 (qv 1) (z3 (xO je ze (qv 4)) zb)))) (zj (eG (i:=3) (jK (z3 (xI (xk (z3 zE (z3 zE (z3 zE zb)))) (xO jo (xO je (qv 4) (xO xx (qv 2) ze)) ze)) (z3 (xC (gp T) (z3 (qv 0) (z3 (qv 5) zb))) (z3 (xM oE (xO jo (xO xx (qv 5) ze) ze) ze) zb)))) (λte pe=>ky (nY z_ Ak Al xE (pv 3) (jY pe kC))))))) (zc (zt (i:=6) jG.nd (xQ (xk (z3 zE (z3 zE zb))) (jy (xO jo (xO xx (qv 2) ze) ze)) gU)) (zj (zy (jK (z3 (xO jo (xO xx (qv 2) ze) (xO je (xN (qv 3)) ze)) (z3 (qv 3) (z3 (xC (gp T) (z3 (qv 0) (z3 (xO xx (qv 2) ze) zb))) (z3 (qv 6) zb)))))))))))
theorem aO:jc P w K mg base 3 "_law_world" ["_law_cell"] u8:=zH.ok3 T.wL jE ↑af λ_ _ _ _ _ _ _ hr=>(zc (DJ (i:=1) (zt (i:=1) jE.nd (xC (bQ T) (z3 (qv 0) zb)))) (zc (zt (i:=2) jE.nd cI) (zc (zt (i:=3) jE.nd cI) (zc (zt (i:=4) jE.nd cI) (zc (lH sW rfl (uQ ↑L T.yK (z3 ze zb)) (zo (i:=5) jE.nd) (zc (zt (i:=6) jE.nd (xC (j3 T) (z3 (qv 0) (z3 (xO je ze (qv 5)) zb)))) (zj (jp (xT oX (xO jo (qv 6) ze) ze) (zj (cH (i:=2) (xI (qv 1) (qv 5)) (xC (bR T) (z3 (qv 1) (z3 (qv 5) (z3 (qv 6) zb)))) (λtk te pk pe=>pO (Zo hr) (pv 2) pk pe rfl))) (zj (jp (xT oX (xO jo (qv 6) ze) ze) (zj (cH (i:=3) (xI (qv 1) (qv 5)) (xC (bS T) (z3 (qv 1) (z3 (qv 5) (z3 (qv 6) zb)))) (λtk te pk pe=>pO (Zo hr) (pv 3) pk pe rfl))) zI)))))) (zc (lH sW rfl (uQ ↑L T.yK (z3 (xO jo (xC (j3 T) (z3 (qv 0) (z3 ze zb))) ze) zb)) (zo (i:=5) jE.nd) (zj (cH (i:=4) (xI (xk (z3 zE (z3 zE (z3 zE zb)))) (qv 5)) (xC (iY T) (z3 (qv 1) (z3 (xC (j3 T) (z3 (qv 0) (z3 (xO je ze (qv 5)) zb))) zb))) (λtk te pk pe=>pO (Zo hr) (pv 4) pk pe rfl)))) (zj (zy (jK (z3 (qv 1) (z3 (qv 2) (z3 (qv 3) (z3 (qv 4) zb)))))))))))))
theorem bT:jc P w K mg base 1 "_law_pieces" ["_law_world_here"] fY:=zH.ok3 T.wM zU ↑af λ_ _ _ _ _ _ _ hr=>(zc (cV (qv 0) (jN rfl (zw (zo (i:=1) zU.nd) (zw (zo (i:=2) zU.nd) (zw (zo (i:=3) zU.nd) (zw (zo (i:=4) zU.nd) jM)))))) (zc (zt (i:=5) zU.nd (xk zb)) (zc (X5 sW rfl (qv 2) (jN rfl (zw (zo (i:=6) zU.nd) (zw (zo (i:=7) zU.nd) jM))) (zj (eG (i:=5) (jK (z3 zE (z3 (qv 6) (z3 (xI (qv 7) ze) (z3 (gB pA ↑L T.yO kP (z3 (rM (xs:=["_law_name","_law_field"]) rfl (zL.of:zL ["_law_world_here","_law_titles_here","_law_records","_law_choices","_law_functions","_law_found","_law_title","_law_part","_law_name"] (za fQ) _ "_law_name" [] []) ↑J rfl (xI (qv 7) ze) (λ_ _ _ _ _ _=>(jN rfl (zw (zo (i:=0) ES) (zw (zo (i:=1) ES) jM)))) ↑ah (λ_ _ _ _ _ _=>(xO je (jK (z3 (qv 0) zb)) (qv 1))) (L:=0)) zb)) zb))))) (λte pe=>ky (nY z_ Ak Al xE (pv 5) (jY pe kC)))))) (zc (X5 sW rfl (qv 3) (jN rfl (zw (zo (i:=6) zU.nd) (zw (zo (i:=7) zU.nd) jM))) (zj (eG (i:=5) (jK (z3 zE (z3 (qv 6) (z3 (xI (qv 7) ze) (z3 (xI (qv 7) ze) (z3 (Xb rfl ↑L T.yO (xI (qv 7) ze)) zb)))))) (λte pe=>ky (nY z_ Ak Al xE (pv 5) (jY pe kC)))))) (zc (X5 sW rfl (qv 4) (jN rfl (zw (zo (i:=8) zU.nd) (zw (zo (i:=7) zU.nd) jM))) (zj (eG (i:=5) (jK (z3 zE (z3 (qv 8) (z3 (xI (qv 7) ze) (z3 (gB pA ↑L T.yO kP (z3 (xI (qv 7) ze) zb)) (z3 (xI (qv 7) ze) (z3 (gB pA ↑L T.yO kP (z3 (xI (qv 7) ze) zb)) zb))))))) (λte pe=>ky (nY z_ Ak Al xE (pv 5) (jY pe kC)))))) (zj (pR 5)))))))
theorem dA:jc P w K mg base 1 "_law_springs" ["_law_titles_here"] gJ:=zH.ok3 T.wN jA ↑af λ_ _ _ _ _ _ _ hr=>(zc (zt (i:=1) jA.nd (xk zb)) (zc (zt (i:=2) jA.nd (xk zb)) (zc (zt (i:=3) jA.nd (xO je (xk (z3 zE (z3 zE zb))) (qv 0))) (zc (QE sW rfl (Ui 3 ↑L T.yF) (jN rfl (zw (zo (i:=4) jA.nd) (zw (zo (i:=5) jA.nd) jM))) (zc (zt (i:=6) jA.nd (xO je zE (xI zE (qv 4)))) (zc (eG (i:=1) (jK (z3 zE (z3 (qv 6) (z3 ze (z3 (jK zb) (z3 (qv 5) (z3 (jK zb) zb))))))) (λte pe=>ky (nY z_ Ak Al xE (pv 1) (jY pe kC)))) (zj (eG (i:=2) (jK (z3 zE (z3 (qv 6) (z3 (jK zb) (z3 (jK zb) (z3 (jK zb) zb)))))) (λte pe=>ky (nY z_ Ak Al xE (pv 2) (jY pe kC)))))))) (zj (zy (jK (z3 (qv 1) (z3 (qv 2) (z3 (qv 3) zb))))))))))
theorem Za:jc P w K mg base 1 "_law_some" ["_law_kinds","_law_kind_here","_law_x"] nw:=zH.ok3 T.wO i9 ↑C λ_ _ _ _ _ _ _ hr=>(zc (rJ (i:=3) i9.nd rfl (by first|exact .inl rfl|exact .inr rfl) (xs:=["_law_k","_law_one"]) rfl (zL.of:zL ["_law_kinds","_law_kind_here","_law_x","_law_alike_here"] (za n9) _ "_law_k" ["_law_kind_here"] [1]) ↑J rfl (We ↑L T.yF (qv 0)) (λ_ _ _ _ _ _=>(jN rfl (zw (zo (i:=0) CG) (zw (zo (i:=1) CG) jM)))) (λ_ _ _ _ _ _=>(nJ (xT oE (qv 1) (qv 2)))) (λ_ _ _ _ _ _=>(qv 0))) (zc (jp (uK (xT oE (xO jo (qv 2) ze) ze) (gz (xT oE (qv 3) (xk zb)))).pt (zj (zy (xO KM (xO jo (xO xx (qv 2) ze) (xO je (xN (qv 0)) ze)) ze))) zI) (zj (zy (xI (qv 3) (xO jo (xO xx (qv 2) ze) (xN (qv 3))))))))
theorem p0:jc P w K mg base 1 "_law_parts" ["_law_world_here","_law_kind_here"] xr:=zH.ok3 T.wP aJ ↑r λ_ _ _ _ _ _ _ hr=>(zc (jp (pP (YS (rA hr)) xn (qv 1) (xI (qv 0) ze) (by with_unfolding_all rfl)) (zj (zy (rM (xs:=["_law_name","_law_field"]) rfl (zL.of:zL ["_law_world_here","_law_kind_here"] (za gm) _ "_law_name" [] []) ↑J rfl (xI (xI (xI (qv 0) ze) (qv 1)) ze) (λ_ _ _ _ _ _=>(jN rfl (zw (zo (i:=0) ES) (zw (zo (i:=1) ES) jM)))) ↑ah (λ_ _ _ _ _ _=>(jK (z3 (qv 0) (z3 (xI (qv 1) ze) (z3 (xI (qv 1) ze) zb))))) (L:=0)))) zI) (zc (jp (pP (YS (rA hr)) xn (qv 1) (xI (qv 0) ze) (by with_unfolding_all rfl)) (zj (zy (rM (xs:=["_law_name","_law_load"]) rfl (zL.of:zL ["_law_world_here","_law_kind_here"] (za gm) _ "_law_name" [] []) ↑J rfl (xI (xI (xI (qv 0) ze) (qv 1)) ze) (λ_ _ _ _ _ _=>(jN rfl (zw (zo (i:=0) CH) (zw (zo (i:=1) CH) jM)))) ↑ah (λ_ _ _ _ _ _=>(jK (z3 (qv 0) (z3 (qv 1) (z3 jS zb))))) (L:=0)))) zI) (zj (zy (xk zb)))))
theorem JN:jc P w K mg base 2 "_law_row" ["_law_world_here","_law_kinds","_law_cell"] u9:=zH.ok3 T.wQ j7 ↑C λ_ _ _ _ _ _ _ hr=>(zc (zt (i:=3) j7.nd (xC (j3 T) (z3 (qv 2) (z3 ze zb)))) (zc (rJ (i:=4) j7.nd rfl (by first|exact .inl rfl|exact .inr rfl) (xs:=["_law_k","_law_kind_here"]) rfl (zL.of:zL ["_law_world_here","_law_kinds","_law_cell","_law_x","_law_some_here","_law_one","_law_parts_here","_law_name","_law_kind_here","_law_sure","_law_word"] (za mU) _ "_law_k" ["_law_world_here"] [0]) ↑J rfl (We ↑L T.yF (qv 1)) (λ_ _ _ _ _ _=>(jN rfl (zw (zo (i:=0) E0) (zw (zo (i:=1) E0) jM)))) (λ_ _ _ _ _ _=>(nJ (xT oN (xC (p0 T) (z3 (qv 2) (z3 (qv 1) zb))) (xk zb)))) (λ_ _ _ _ _ _=>(qv 0))) (zc (zt (i:=5) j7.nd (xO KM (xO jo (qv 3) (xO je (xN (qv 1)) ze)) ze)) (zc (zt (i:=6) j7.nd (xk (z3 (jK (z3 zE (z3 zE (z3 uG zb)))) zb))) (zc (jp (iK (xT oN (qv 4) (xk zb)) (lD (xT ZN (xO jo (xO xx (qv 3) ze) ze) ze))).pt (zc (zt (i:=5) j7.nd (xI (qv 4) (xO jo (xO xx (qv 3) ze) (xN (qv 4))))) (zj (zt (i:=6) j7.nd (xC (p0 T) (z3 (qv 0) (z3 (xI (qv 1) (qv 5)) zb)))))) zI) (zc (cV (xI (qv 6) (xO jo (xO xx (qv 3) ze) (xN (qv 6)))) (jN rfl (zw (zo (i:=7) j7.nd) (zw (zo (i:=8) j7.nd) (zw (zo (i:=9) j7.nd) jM))))) (zc (zt (i:=10) j7.nd (xI (xk (z3 zE (z3 zE (z3 zE zb)))) (xO jo (xO xx (qv 3) ze) ze))) (zc (jp (xT ZN (xO jo (xO xx (qv 3) ze) ze) ze) (zc (zt (i:=10) j7.nd (xI (xk (z3 zE (z3 zE zb))) (xO jo (xO xx (qv 3) ze) ze))) (zj (jp (xT eO (qv 9) jS) (zj (zt (i:=10) j7.nd zE)) zI))) zI) (zc (jp (xT oE (xO jo (xO xx (qv 3) ze) ze) ze) (zj (zt (i:=7) j7.nd (xI (xk (z3 zE (z3 zE (z3 zE (z3 zE zb))))) (xO jo (xO xx (qv 3) ze) ze)))) zI) (zc (jp (xT oE (qv 10) zE) (zj (zy (jK (z3 zE (z3 (qv 5) (z3 (qv 7) zb)))))) zI) (zj (zy (jK (z3 (qv 10) (z3 (qv 5) (z3 (qv 7) (z3 (xC (Za T) (z3 (qv 1) (z3 (qv 8) (z3 (xC (j3 T) (z3 (qv 2) (z3 ze zb))) zb)))) zb)))))))))))))))))
theorem JO:jc P w K mg base 2 "_law_due" ["_law_world_here","_law_kinds","_law_row_here"] jP:=zH.ok3 T.wR qP ↑C λ_ _ _ _ _ _ _ hr=>(zc (jp (kc (J3 Pz oX ze (xI (qv 2) ze) (xN (qv 1)))) (zj (zy jS)) zI) (zc (YZ (i:=3) qP.nd rfl (by first|exact .inl rfl|exact .inr rfl) rfl (zL.of:zL ["_law_world_here","_law_kinds","_law_row_here","_law_parts_here","_law_name","_law_kind_here","_law_sure"] (za mW) _ "_law_part" ["_law_row_here"] [2]) rfl (qk (xC (p0 T) (z3 (qv 0) (z3 (xI (qv 1) (xI (qv 2) ze)) zb)))) (λ_ _ _ _ _ _=>(nJ (xT oE (xI (qv 0) ze) (xI (qv 1) ze)))) (λ_ _ _ _ _ _=>(qv 0))) (zc (jp (uK (xT oE (qv 3) (xk zb)) (gz (xT oN (xM oE (xI (qv 2) ze) zE) (xM eO (xI (xI (qv 3) ze) ze) jS)))).pt (zj (zy jS)) zI) (zc (cV (xI (qv 3) ze) (jN rfl (zw (zo (i:=4) qP.nd) (zw (zo (i:=5) qP.nd) (zw (zo (i:=6) qP.nd) jM))))) (zc (jp (xT oE (xI (qv 2) ze) zE) (zc (jp (zY (qv 6) (λ_=>rfl)) (zj (pR 5)) zI) (zj (zy jS))) zI) (zc (jp (iK (J3 Pz oX ze (xI (qv 2) ze) (xN (qv 1))) (lD (xT oE (xI (qv 1) (xI (qv 2) ze)) (qv 5)))).pt (zj (pR 5)) zI) (zj (zy jS))))))))
theorem LE{f:h_}{fd:Fy}(Fl:fx K "law" "law" Jx f fd):kg P w K mg base (lI P w) 11 f fd ["_law_script"] (m6 K (Nw c)):=fx.ok3 Fl qY λSg A outer s H E hr=>(zc (zt (i:=1) qY.nd (qT (aO T) (hr.mono ↑p) ↑L (z3 (qT (dz T) (hr.mono ↑p) ↑L (z3 (qv 0) (z3 ze zb))) zb))) (zc (cV (qT (dA T) (hr.mono ↑p) ↑L (z3 (V3 (Zo hr) (qv 1) ze (λ_ _=>rfl)) zb)) (jN rfl (zw (zo (i:=2) qY.nd) (zw (zo (i:=3) qY.nd) (zw (zo (i:=4) qY.nd) jM))))) (zc (zt (i:=5) qY.nd (rF (iW T T.wg T.wY T.wZ) (hr.mono ↑p) ↑L (z3 (Ps je xn (qy rfl (zL.of:zL ["_law_script","_law_world_here","_law_springs_here","_law_client","_law_kinds","_law_face","_law_cell","_law_row_here","_law_due_here","_law_found","_law_at","_law_plain"] (za Jx) _ "_law_piece" [] []) rfl (qk (qT (bT T) (hr.mono ↑p) ↑L (z3 (qv 1) zb))) (λ_ _ _ _ _ _=>(nJ (pP (Hx (PZ hr)) xn (V3 (Zo hr) (qv 0) ze (λ_ _=>rfl)) zE (c6 _)))) (λ_ _ _ _ _ _=>(qv 0)) (L:=0)) (qv 2)) zb))) (zc (lH sW rfl (PJ (xQ (qv 0) (jy ze) (jy ze))) (zo (i:=6) qY.nd) (zc (zt (i:=7) qY.nd (qT (JN T) (hr.mono ↑p) ↑L (z3 (qv 1) (z3 (qv 4) (z3 (qv 6) zb))))) (zc (zt (i:=8) qY.nd (qT (JO T) (hr.mono ↑p) ↑L (z3 (qv 1) (z3 (qv 4) (z3 (qv 7) zb))))) (zc (cV (qT (bP T) (hr.mono ↑p) ↑L (z3 (qv 5) (z3 (Ps je xn (qv 3) (xk (z3 (qv 7) zb))) zb))) (jN rfl (zw (zo (i:=9) qY.nd) (zw (zo (i:=10) qY.nd) (zw (zo (i:=11) qY.nd) jM))))) (zj (jp (pP Xa xn (qv 8) jS (c6 _)) (zj (jp (kc (zY (qT (mF T) (hr.mono ↑p) ↑L (z3 (qv 9) (z3 (Ps je xn (qv 4) (xk (z3 (qv 8) zb))) zb))) (λ_=>rfl))) (zj (zy uG)) zI)) (zj (jp (uK (kc (zY (qT (mF T) (hr.mono ↑p) ↑L (z3 (qv 10) (z3 (xN (qv 4)) zb))) (λ_=>rfl))) (gz (kc (zY (qv 11) (λ_=>rfl))))).pt (zj (zy uG)) zI)))))))) (zj (zy uG))))))
end
def k6(h:xz t env=.ok e_):jU t a b env=a env:=by unfold jU;rw[h];rfl
def zJ(h:xz t env=.ok a_):jU t a zD env=.nx env:=by unfold jU;rw[h];rfl
def zi(h:a e=.nx e'):zn a b e=b e':=by unfold zn;rw[h]
def nC(h:a e=.rt r):zn a b e=.rt r:=by unfold zn;rw[h]
def kG(h:xz t env=.ok e_)(g:a env=.rt r):zn (jU t a zD) c env=.rt r:=nC ((k6 h).trans g)
def vC(h:a env=.ok r)(g:m env=.ok rs):z9 a m env=.ok (r::rs):=by unfold z9;rw[h,bind_ok,g];rfl
def v2(h:a env=.ok (p,x))(g:b env=.ok (q,y))(k:f x y=b_ r):m2 f a b env=.ok r:=by unfold m2;rw[h,bind_ok,g,bind_ok];show Yh (f x y)=_;rw[k];rfl
def vF(h:m env=.ok rs)(g:f rs=.ok r):zk f m env=.ok r:=by unfold zk;rw[h];exact g
def vK(h:m env=.ok rs)(g:f (rs.map (·.2))=b_ r):zC f m env=.ok r:=by unfold zC;rw[h,bind_ok,g];rfl
def vL(h:m env=.ok rs)(e:rs.map (·.2)=ts)(hl:Nat.ble rs.length 100=e_):ki m env=.ok (e_,.lst ts):=by unfold ki;rw[h,bind_ok,if_pos (A6 (K_ hl) ↑o),e]
def vV(h:env[i]?=b_ (b_ (b,t))):mV i env=.ok (a_,t):=by unfold mV;rw[h]
def vT(h:m env=.ok (p,.bl b)):jl m env=.ok b:=by unfold jl;rw[h];rfl
def av(h:a env=.ok (p,.bl e_))(g:b env=.ok r):x8 a b env=.ok r:=by unfold x8;rw[h];exact g
def Wk(h:a env=.ok x)(g:b env=.ok y):gS a b env=.ok (x&&y):=by
 unfold gS;rw[h,bind_ok];cases x;·rfl
 ·exact g
def vS(a:m env=.ok (p,x))(b:ml env=.ok l)(c:mh env=.ok h)(d:VV x l h=b_ r):dg m ml mh env=.ok r:=by unfold dg;rw[a,bind_ok,b,bind_ok,c,bind_ok,d];rfl
def vP(h:m env=.ok rs)(e:rs.map (·.2)=ts)(hl:Nat.ble rs.length 100=e_):jJ m env=.ok (a_,.tup ts):=by unfold jJ;rw[h,bind_ok,if_pos (A6 (K_ hl) ↑o),e]
def aP(h:a env=.ok a_)(g:b env=x):qS a b env=x:=by unfold qS;rw[h];exact g
def Zb(h:m env=.ok (p,.bl e_)):jx (fH m) env=.ok a_:=by unfold jx fH;rw[h];rfl
def vB(h:a env=.ok r)(g:m env=.bad):z9 a m env=.bad:=by unfold z9;rw[h,bind_ok,g];rfl
def CZ(h:m env=.bad):jJ m env=.bad:=by unfold jJ;rw[h];rfl
def vN(h:m env=.ok (p,.int i)):jI m env=.ok (b_ i):=by unfold jI;rw[h];rfl
def zR(h:m (hide env)=.ok b):xz m env=.ok b:=by unfold xz;rw[h]
def zX(hl:rs.length=k)(h:mb (kQ n rs)=.rt r):zG n k mb rs=.ok r:=by unfold zG;rw[if_pos hl,h];rfl
def zr(h:m (hide env)=.ok r):zF i m env=.nx (env.set i (b_ r)):=by unfold zF jR;rw[h]
def zV(h:m (hide env)=.ok r):zA m env=.rt r:=by unfold zA jR;rw[h]
def Nx(h:a env=.ok a_):gS a b env=.ok a_:=by unfold gS;rw[h];rfl
def LG(h:m env=.ok e_):lF m a b env=a env:=by unfold lF;rw[h];rfl
def QW(h:m env=.ok a_):lF m a b env=b env:=by unfold lF;rw[h];rfl
def E2(h:decide (i<j)=b):uH (.int i) (.int j)=b_ (a_,.bl b):=by rw[<-h];rfl
def bU(h:env[i]?=b_ (b_ (e_,.lst ts)))(hm:m (hide env)=.ok r)(hl:↑c<j_):nS i m env=.nx (env.set i (b_ (e_,.lst (ts++[r.2])))):=by unfold nS jR;rw[h,hm];dsimp only;rw[h];dsimp only;rw[if_pos hl]
def kL(hH:m (hide env)=.bad)(hE:m env=.ok b):xz m env=.ok b:=by unfold xz;rw[hH,hE]
def qF(hE:m env=.ok r)(hH:m (hide env)=.bad):zA m env=.rt r:=by unfold zA jR;rw[hH,hE]
def E3(h:a env=.ok e_):qS a b env=.ok e_:=by unfold qS;rw[h];rfl
def pI(h:m (hide env)=.ok r):jR m env=.ok (r,env):=by unfold jR;rw[h]
def JP(hv:jR mv env=.ok (r,env))(hi:env[i]?=b_ (b_ (e_,.lst ts)))(hk:mk (hide env)=.ok (p,.int k))(hx:XJ ↑c k=b_ j):gC i mk mv env=.nx (env.set i (b_ (e_,.lst (ts.set j r.2)))):=by unfold gC;rw[hv];dsimp only;rw[hi];dsimp only;rw[pI hk];dsimp only;rw[hi];dsimp only;rw[hx]
def gK(h1:ZP r=e_)(h2:ZQ r=e_)(h3:ZR r=e_):L3.clean env r=e_:=by unfold L3.clean;simp[h1,h2,h3]
def Ny(a:Int)(h:0<b):jZ (.int a) (.int b)=b_ (a_,.int (a%b)):=if_pos h
def Bn(h:a env=.bad):z9 a m env=.bad:=by unfold z9;rw[h];rfl
def Bo(h:a env=.ok r)(g:b env=.bad):m2 f a b env=.bad:=by unfold m2;rw[h,bind_ok,g];rfl
def Cb(h:a env=.ok (p,.bl x))(g:b env=.ok (a_,.bl y)):x8 a b env=.ok (a_,.bl (x&&y)):=by
 unfold x8;rw[h];cases x;·rfl
 ·exact g
def B0(h:a env=.ok (p,.bl x))(g:b env=.ok (a_,.bl y)):oY a b env=.ok (a_,.bl (x||y)):=by
 unfold oY;rw[h];cases x;·exact g
 ·rfl
def EX(h:a env=.ok (p,.bl x)):uh a env=.ok (a_,.bl (!x)):=by unfold uh;rw[h];rfl
def E4(h:decide (i<=j)=b):ax (.int i) (.int j)=b_ (a_,.bl b):=by rw[<-h];rfl
def Cc(h:decide (j<i)=b):mJ (.int i) (.int j)=b_ (a_,.bl b):=by rw[<-h];rfl
def QX(l:List α)(e:Nat):oK l (e:Int)=l[e]?:=by cases h:l[e]? with|some v=>exact Pd h|none=>
  have hl:l.length<=e:=by simpa using h
  have e1:XJ l.length (e:Int)=f_:=by unfold XJ;rw[if_pos ↑p,if_neg ↑p]
  unfold oK;rw[e1];rfl
def LI(c:Nat)(z:Str):uJ (.str ⟨#[c]⟩) (.str z)=b_ (a_,.bl (decide (c∈z.cps.toList))):=by show Option.map _ (b_ (!(S7 z ⟨#[c]⟩ 0 z.length 1).isEmpty))=_;rw[StrLaws.found_one];rfl
def Zc(i j:Int):zZ (.int i) (.int j)=b_ (a_,.bl (decide (i=j))):=by simp[zZ,de,XW];exact R7.mpr ↑G
def qf(x y:Str):zZ (.str x) (.str y)=b_ (a_,.bl (decide (x=y))):=by simp[zZ,de,XW];exact R7.mpr ↑G
def LJ(x y:Str):fG (.str x) (.str y)=b_ (a_,.bl (!decide (x=y))):=by simp[fG,de,XW];exact R7.mpr ↑G
def wt(h:mV i env=.ok (a_,t))(hx:zx t (.int 0)=b_ (a_,.str w))(hb:decide (w=v)=b):jl (m2 zZ (m2 zx (mV i) ↑t) (mC (.str v))) env=.ok b:=by rw[<-hb];exact vT (v2 (v2 h rfl hx) rfl (qf w v))
def mG(z:Str):z.cps.toList.length=z.length:=by simp[Str.length]
def Us(ns:List Int)(k:Nat):vw [(a_,.lst (ns.map T.int)),(a_,.int k)]=.ok (a_,.int (ns.getD k 0)):=by
 by_cases h:k<ns.length
 ·have hi:(k:Int)<(ns.length:Int):=by omega
  simp[vw,zG,kQ,gI,zn,jU,xz,hide,ui,jl,m2,mV,zC,z9,zh,xP,uH,hi,zA,jR,zx,QX,h,W2]
 ·have hi:¬((k:Int)<(ns.length:Int)):=by omega
  simp[vw,zG,kQ,gI,zn,jU,xz,hide,ui,jl,m2,mV,zC,z9,zh,xP,uH,hi,zA,jR,zD,mC,h,W2]
def big:1000<j_:=by decide
def LK(n:Nat):mL 0 n=(Ov 0 n).map λ(i:Nat)=>T.int (i:Int):=by unfold mL;rw[List.range_eq_range'];simp
def Ut{m:MA}{env:En}{n:Nat}(h:YV m env=.ok [.int n])(hj:(n:Int)<2^62):gD m env=.ok (mL 0 n,env):=by unfold gD;rw[h];show(if-(2^62)<=(n:Int)/\(n:Int)<2^62 then _ else _)=_;rw[if_pos ⟨by omega,hj⟩,FA]
def ig{m:MA}{tg:MG}{mb:MS}{env:En}{n:Nat}(h:YV m env=.ok [.int n])(hj:(n:Int)<2^62):kj (gD m) tg mb env=jv tg mb ((Ov 0 n).map λ(i:Nat)=>T.int (i:Int)) env:=by unfold kj;rw[Ut h hj,<-LK]
def dO(x y:Str):(x++y).cps.toList=x.cps.toList++y.cps.toList:=by show(x.cps++y.cps).toList=_;simp
def add_str(h:x.length+y.length<=1000):zT (.str x) (.str y)=b_ (a_,.str (x++y)):=by show(if x.length+y.length<=j_ then _ else _)=_;rw[if_pos (by have:=big;omega)]
def jX(h1:tg t env=b_ e1)(h2:mb e1=.nx e2):jv tg mb (t::ts) env=jv tg mb ts e2:=by rw[jv,h1];dsimp only;rw[h2]
def Wl(h:env.set i (b_ (a_,t))=e1):gN i t env=b_ e1:=by unfold gN;rw[h]
def EY(ts:List T)(i:Nat):zx (.lst ts) (.int (i:Int))=ts[i]?.map λt=>(a_,t):=by show Option.map (λt=>(a_,t)) (oK ts (i:Int))=_;rw[QX]
def zW(ts:List T)(i:Nat):zx (.tup ts) (.int (i:Int))=ts[i]?.map λt=>(a_,t):=by show Option.map (λt=>(a_,t)) (oK ts (i:Int))=_;rw[QX]
def sT(ys:List Str):List T:=ys.map T.str
def bV(ys:List Str)(i:Nat):zx (.lst (sT ys)) (.int (i:Int))=ys[i]?.map λy=>(a_,T.str y):=by rw[EY];unfold sT;rw[sI];cases ys[i]?<;>rfl
def getD_some{α:Type}{l:List α}{i:Nat}{d:α}(h:i<l.length):l[i]?=b_ (l.getD i d):=by rw[AS,s_ h];rfl
def QY{m:MA}{env:En}{n:Nat}{b:Bool}(h:m env=.ok [(b,.int n)])(hj:(n:Int)<2^62):cP m env=.ok (mL 0 n):=by unfold cP;rw[h,bind_ok];show(if-(2^62)<=(n:Int)/\(n:Int)<2^62 then _ else _)=_;rw[if_pos ⟨by omega,hj⟩,FA]
def Uu(n:Nat):(mL 0 n).length=n:=by simp[mL]
def LL(ys:List Str):noLs (sT ys)=e_/\noDs (sT ys)=e_/\noOs (sT ys)=e_:=by unfold sT;induction ys with|nil=>exact⟨rfl,rfl,rfl⟩|cons y ys ih=>exact ih
def bW(ts:List T)(k:Nat):uu ts (b_ (k:Int)) f_=ts.drop k:=by
 unfold uu;rw[HT.sIx_none,HT.sIx_nat];by_cases h:k<=↑c;·rw[Nat.min_eq_left h,F_ ↑G]
 ·rw[Nat.min_eq_right ↑p,List.drop_eq_nil_of_le (r_ _),List.drop_eq_nil_of_le ↑p];simp
def Xq(ts:List T)(k:Nat):uu ts f_ (b_ (k:Int))=ts.take k:=by
 unfold uu;rw[HT.sIx_none,HT.sIx_nat];by_cases h:k<=↑c;·rw[Nat.min_eq_left h];simp
 ·rw[Nat.min_eq_right ↑p];simp;rw[F_ ↑p]
def bX(hE:m env=.ok r)(hH:m (hide env)=.bad\/m (hide env)=.ok r)(So:L3.clean env r=e_):zF i m env=.nx (env.set i (b_ r)):=by
 unfold zF jR;rcases hH with h|h;·rw[h,hE];dsimp only;unfold L3.settle;rw[if_pos So]
 ·rw[h]
def ii(h:↑c+↑h<=j_):zT (.tup ts) (.tup us)=b_ (a_,.tup (ts++us)):=by show(if ↑c+↑h<=j_ then b_ (a_,T.tup (ts++us))else f_)=_;rw[if_pos h]
def add_int(i j:Int):zT (.int i) (.int j)=b_ (a_,.int (i+j)):=rfl
def ij(y:Nat)(d:Nat)(h0:0<d)(h1:d<1000):gj (.int (y:Int)) (.int (d:Int))=b_ (a_,.int ((y/d:Nat):Int)):=by
 have hd:K9 (y:Int) (d:Int):=⟨by omega,by omega⟩;have:((y/d:Nat):Int)=(y:Int)/(d:Int):=by simp
 rw[this];simp[gj,hd]
def gP(y:Nat)(d:Nat)(h0:0<d):jZ (.int (y:Int)) (.int (d:Int))=b_ (a_,.int ((y%d:Nat):Int)):=by
 have h0':(0:Int)<(d:Int):=by omega
 have:((y%d:Nat):Int)=(y:Int)%(d:Int):=by simp
 rw[this];show(if 0<(d:Int)then b_ (a_,T.int ((y:Int)%(d:Int)))else f_)=_;rw[if_pos h0']
end Law
namespace Law
open PySem L2 L3 PyProof.Rows
theorem JQ:∀(ys Sk:List Str),(Sk++ys).Nodup->ys.foldl FG Sk=Sk++ys
 |[],Sk,_=>by simp|y::ys,Sk,h=>by
  have hn:¬(Sk.any (·==y)=e_):=by
   intro z;obtain⟨a,ha,e⟩:=BO.mp z;have e:a=y:=by simpa using e
   subst e;rw[Af]at h;exact h.2.2 a ha a m_ rfl
  rw[List.foldl_cons];have:FG Sk y=Sk++[y]:=by unfold FG;rw[if_neg hn]
  rw[this,JQ ys (Sk++[y]) (by simpa using h)];simp
def d8(h:ys.Nodup):m8 ys=ys:=by have:=JQ ys [] (by simpa using h);simpa[m8]using this
theorem iZ:∀ys:List Str,qq (sT ys)=b_ ys|[]=>rfl|y::ys=>by show(qq (sT ys)).map _=_;rw[iZ ys];rfl
def nE(ys:List Str):(sT ys).length=ys.length:=by simp[sT]
theorem gL:∀(ts:List T),(∀t∈ts,∃b,me (b_ (a_,t)::caps)=.ok (b,.bl e_))->ql j6 me caps ts=.ok (sO ↑c (.bl e_))|[],_=>rfl|t::ts,h=>by obtain⟨b,hb⟩:=h t m_;rw[ql];simp only[j6];rw[hb];dsimp only;rw[gL ts λu hu=>h u (k_ _ hu)];rfl
theorem om:∀n:Nat,allB (sO n (.bl e_))=b_ (sO n e_)|0=>rfl|n+1=>by rw[List.replicate_succ];show(L3.allB (sO n (.bl e_))).map _=_;rw[om n];rfl
def ik(n:Nat):uv [.lst (sO n (.bl e_))]=b_ ↑A:=by show(L3.allB _).map _=_;rw[om];simp
def JR(t:T)(ts:List T):Prop:=t=.lst ts\/t=.tup ts
def oo(h:JR t ts):uO t=b_ ts:=by rcases h with rfl|rfl<;>rfl
def bY(f:MF)(env:En)(b:Bool)(t:T)(ys:List Str)(hr:JR t (sT ys))(h0:env[0]?=b_ (b_ (b,t)))(hf:∀y∈ys,f [(a_,.str y)]=.ok ↑A)(hl:ys.length<900)(hn:ys.Nodup):x8 (zC uv (z9 (jq (xA ↑F) j6 (zk f (z9 ↑F zh)) []) zh)) (m2 zZ (nL ↑F) (zC xP (z9 ↑F zh))) env=.ok ↑A:=by
 have hc:jq (xA ↑F) j6 (zk f (z9 ↑F zh)) [] env=.ok (e_,.lst (sO (sT ys).length (.bl e_))):=by
  unfold jq xA;have T5:(mV 0 env).bind (λr=>Yh (uO r.2))=.ok (sT ys):=by simp[mV,h0,oo hr]
  rw[T5,bind_ok,if_pos (by rw[nE];have:=big;omega),gL (sT ys) λu hu=>by obtain⟨y,hy,rfl⟩:=sH.mp hu;exact⟨a_,by simp[zk,z9,zh,mV,hf y hy]⟩]
 have hs:rD t=b_ ys.length:=by
  rcases hr with rfl|rfl;·show(qq (sT ys)).bind _=_;rw[iZ];show(if ys.length+1<Fi then b_ (m8 ys).length else f_)=_;rw[if_pos (by unfold Fi;omega),d8 hn]
  ·show(qq (sT ys)).bind _=_;rw[iZ];show(if ys.length+1<Fi then b_ (m8 ys).length else f_)=_;rw[if_pos (by unfold Fi;omega),d8 hn]
 have hle:xP [t]=b_ (a_,.int ys.length):=by rcases hr with rfl|rfl<;>(show b_ (a_,T.int ((sT ys).length:Int))=_;rw[nE])
 have ha:=ik (sT ys).length;simp[x8,zC,z9,zh,hc,ha,m2,nL,mV,h0,hs,hle,Zc]
def im(hE:m env=.ok r)(hH:hide env=env):zA m env=.rt r:=by unfold zA jR;rw[hH,hE]
def ip(b:Bool)(t:T)(ys:List Str)(hr:JR t (sT ys))(hf:∀y∈ys,jF [(a_,.str y)]=.ok ↑A)(hl:ys.length<900)(hn:ys.Nodup):xl [(b,t)]=.ok ↑A:=by
 have hb:nj [b_ (b,t)]=.rt ↑A:=by unfold nj;generalize jF=f at hf;have hE:=bY f [b_ (b,t)] b t ys hr rfl hf hl hn;cases b with|false=>exact im hE rfl|true=>exact qF hE (by simp[hide,ui,x8,zC,z9,jq,xA,mV])
 exact zX rfl hb
end Law
namespace Law
open PySem L2 L3
def qx(P:List (Str×Str×List T)):List T:=P.map λp=>.tup (.str p.1::.str p.2.1::p.2.2)
def Cd(y kd:Str)(r:List T):zx (.tup (.str y::.str kd::r)) (.int 0)=b_ (a_,.str y):=by have:=zW (.str y::.str kd::r) 0;exact this
def B1(y kd:Str)(r:List T):zx (.tup (.str y::.str kd::r)) (.int 1)=b_ (a_,.str kd):=by have:=zW (.str y::.str kd::r) 1;exact this
theorem Wm:∀(ts:List T),(∀t∈ts,∃b,me (b_ (a_,t)::caps)=.ok (b,g t))->ql j6 me caps ts=.ok (ts.map g)|[],_=>rfl|t::ts,h=>by obtain⟨b,hb⟩:=h t m_;rw[ql];simp only[j6];rw[hb];dsimp only;rw[Wm ts λu hu=>h u (k_ _ hu)];rfl
def LM:T->T|.tup (y::_)=>y|t=>t
def Uv(P:List (Str×Str×List T)):(qx P).map LM=sT (P.map (·.1)):=by unfold qx sT;rw[Aa,Aa];rfl
def bZ(c:CA)(m:h_)(ks:List Str)(x:Str)(hx:x∈ks)(h:m_is_kind [(a_,.str x)]=.ok ↑A):jn c [(a_,.mem m (c.memo ks m)),(a_,.str x)]=.ok ↑A:=by unfold jn tR;dsimp only;rw[if_pos ⟨ks,rfl,hx⟩,h]
def a8(f g:MF)(env:En)(b:Bool)(M t:T)(P:List (Str×Str×List T))(hr:JR t (qx P))(hM:env[0]?=b_ (b_ (a_,M)))(h0:env[1]?=b_ (b_ (b,t)))(hf:f [(e_,.lst (sT (P.map (·.1))))]=.ok ↑A)(hg:∀p∈P,g [(a_,M),(a_,.str p.2.1)]=.ok ↑A)(hl:P.length<900):x8 (zk f (z9 (jq (xA ↑V) j6 (m2 zx ↑F ↑t) []) zh)) (zC uv (z9 (jq (xA ↑V) j6 (zk g (z9 ↑V (z9 (m2 zx ↑F ↑u) zh))) [0]) zh)) env=.ok ↑A:=by
 have hlen:(qx P).length=P.length:=by simp[qx]
 have T5:xA ↑V env=.ok (qx P):=by unfold xA;simp[mV,h0,oo hr]
 have c1:jq (xA ↑V) j6 (m2 zx ↑F ↑t) [] env=.ok (e_,.lst (sT (P.map (·.1)))):=by unfold jq;rw[T5,bind_ok,if_pos (by rw[hlen];have:=big;omega),Wm (g:=LM) (qx P) λu hu=>by obtain⟨p,hp,rfl⟩:=sH.mp hu;exact⟨a_,by simp[m2,mV,mC,Cd,LM]⟩,Uv]
 have c2:jq (xA ↑V) j6 (zk g (z9 ↑V (z9 (m2 zx ↑F ↑u) zh))) [0] env=.ok (e_,.lst (sO (qx P).length (.bl e_))):=by unfold jq;rw[T5,bind_ok,if_pos (by rw[hlen];have:=big;omega),gL (qx P) λu hu=>by obtain⟨p,hp,rfl⟩:=sH.mp hu;exact⟨a_,by simp[zk,z9,zh,m2,mV,mC,gO,hM,B1,hg p hp]⟩]
 have ha:=ik (qx P).length;simp[x8,zk,zC,z9,zh,c1,c2,hf,ha]
def Zd(c:CA)(M t:T)(P:List (Str×Str×List T))(hr:JR t (qx P))(hf:xl [(e_,.lst (sT (P.map (·.1))))]=.ok ↑A)(hg:∀p∈P,jn c [(a_,M),(a_,.str p.2.1)]=.ok ↑A)(hl:P.length<900):xb c [(a_,M),(a_,t)]=.ok ↑A:=by
 have hb:nq c [b_ (a_,M),b_ (a_,t)]=.rt ↑A:=by unfold nq;generalize xl=f at hf;generalize jn c=g at hg;exact im (a8 f g [b_ (a_,M),b_ (a_,t)] a_ M t P hr rfl rfl hf hg hl) rfl
 exact zX rfl hb
def LN(z a b:Str):uJ (.str z) (.tup [.str a,.str b])=b_ (a_,.bl (decide (a=z)||decide (b=z))):=by
 have e:∀x y:Str,de 40 (.str x) (.str y)=b_ (decide (x=y)):=λx y=>by simp[de,XW];exact R7.mpr ↑G
 show Option.map _ (uI (.str z) [.str a,.str b])=_;simp[uI,e]
def Vz(f g:MF)(M:T)(z:Str)(made:Bool)(h1:("num":Str)≠z)(h2:("word":Str)≠z)(hk:g [(a_,M),(a_,.str z)]=.ok ↑A)(nb:Bool)(hn:f [(a_,.str z)]=.ok (a_,.bl nb))(ho:nb=e_\/made=a_):(zn (jU (qS (jl (m2 uJ ↑V (mC (.tup (List.map T.str ["num","word"]))))) (jx (fH (zk g (z9 ↑F (z9 ↑V zh)))))) (zA (mC (.bl a_))) zD) (zA (oY (zk f (z9 ↑V zh)) (uh (mV 2))))) [b_ (a_,M),b_ (a_,.str z),b_ (a_,.bl made)]=.rt ↑A:=by
 have hi:=LN z "num" "word";rw[decide_eq_false h1,decide_eq_false h2]at hi;have Sr:uJ (.str z) (.tup [.str "num",.str "word"])=b_ (a_,.bl a_):=hi;refine(zi (zJ (zR (aP (vT (v2 rfl rfl Sr)) (Zb (vF ↑z hk)))))).trans (zV ?_);rw[B0 (vF (vC rfl rfl) hn) (EX rfl)];rcases ho with rfl|rfl;·rfl
 ·cases nb<;>rfl
def LO(made due Χ:Bool)(h:if made=e_ then due=e_\/Χ=a_ else due=a_):vv [(a_,.bl made),(a_,.bl due),(a_,.bl Χ)]=.ok ↑A:=by cases made<;>cases due<;>cases Χ<;>simp at h<;>simp[vv,zG,kQ,nu,zn,jU,xz,hide,ui,fH,mV,KR,zA,jR,oY,uh,zD,W2]
def QZ(fT fP fM:MF)(M:T)(z:Str)(made:Bool)(P:List (Str×Str×List T))(hT:fT [(a_,M),(a_,.str z),(a_,.bl made)]=.ok ↑A)(hP:fP [(a_,M),(a_,.tup (qx P))]=.ok ↑A)(hl:P.length<900)(hM:∀p∈P,∃d s,p.2.2=[.bl d,.bl s]/\fM [(a_,.bl made),(a_,.bl d),(a_,.bl s)]=.ok ↑A):(zn (jU (qS (jx (fH (zk fT (z9 ↑F (z9 ↑V (z9 (mV 2) zh)))))) (jx (fH (zk fP (z9 ↑F (z9 (mV 3) zh)))))) (zA (mC (.bl a_))) zD) (zA (zC uv (z9 (jq (xA (mV 3)) j6 (zk fM (z9 ↑V (z9 (m2 zx ↑F ↑H) (z9 (m2 zx ↑F ↑R) zh)))) [2]) zh)))) [b_ (a_,M),b_ (a_,.str z),b_ (a_,.bl made),b_ (a_,.tup (qx P))]=.rt ↑A:=by
 have hlen:(qx P).length=P.length:=by simp[qx]
 have c2:jq (xA (mV 3)) j6 (zk fM (z9 ↑V (z9 (m2 zx ↑F ↑H) (z9 (m2 zx ↑F ↑R) zh)))) [2] [b_ (a_,M),b_ (a_,.str z),b_ (a_,.bl made),b_ (a_,.tup (qx P))]=.ok (e_,.lst (sO (qx P).length (.bl e_))):=by unfold jq;have T5:xA (mV 3) [b_ (a_,M),b_ (a_,.str z),b_ (a_,.bl made),b_ (a_,.tup (qx P))]=.ok (qx P):=rfl;rw[T5,bind_ok,if_pos (by rw[hlen];have:=big;omega),gL (qx P) λu hu=>by
   obtain⟨p,hp,rfl⟩:=sH.mp hu;obtain⟨d,s,e,hm⟩:=hM p hp;refine⟨a_,?_⟩;have i2:zx (.tup (.str p.1::.str p.2.1::p.2.2)) (.int 2)=b_ (a_,.bl d):=by rw[e];exact zW [.str p.1,.str p.2.1,.bl d,.bl s] 2
   have i3:zx (.tup (.str p.1::.str p.2.1::p.2.2)) (.int 3)=b_ (a_,.bl s):=by rw[e];exact zW [.str p.1,.str p.2.1,.bl d,.bl s] 3
   exact vF (vC rfl (vC (v2 rfl rfl i2) (vC (v2 rfl rfl i3) rfl))) hm]
 have ha:=ik (qx P).length;rw[zi (e':=[b_ (a_,M),b_ (a_,.str z),b_ (a_,.bl made),b_ (a_,.tup (qx P))]) (zJ (zR (aP (Zb (vF (vC rfl ↑z) hT)) (Zb (vF ↑z hP)))))];exact im (vK (vC c2 rfl) ha) rfl
def G0(fT fP:MF)(M:T)(z:Str)(made:Bool)(p:T)(hT:fT [(a_,M),(a_,.str z),(a_,.bl made)]=.ok ↑A)(hP:fP [(a_,M),(a_,p)]=.ok ↑A):zA (x8 (zk fT (z9 ↑F (z9 ↑V (z9 (mV 2) zh)))) (zk fP (z9 ↑F (z9 (mV 3) zh)))) [b_ (a_,M),b_ (a_,.str z),b_ (a_,.bl made),b_ (a_,p)]=.rt ↑A:=by exact zV (av (vF (vC rfl ↑z) hT) (vF ↑z hP))
def G1(fN fK fP fA:MF)(M:T)(z kd:Str)(pl:Int)(ps fs:List T)(hN:fN [(a_,.str z)]=.ok ↑A)(hK:fK [(a_,M),(a_,.str kd)]=.ok ↑A)(h0:0<=pl)(h1:pl<=↑l)(hP:fP [(a_,M),(a_,.tup ps)]=.ok ↑A)(hA:fA [(a_,.tup fs)]=.ok ↑A):(zn (jU (qS (jx (fH (zk fN (z9 ↑V zh)))) (jx (fH (zk fK (z9 ↑F (z9 (mV 4) zh)))))) (zA (mC (.bl a_))) zD) (zn (jU (qS (jl (m2 uH (mV 2) ↑t)) (jl (m2 mJ (mV 2) (zC xP (z9 (mV 3) zh))))) (zA (mC (.bl a_))) zD) (zA (x8 (zk fP (z9 ↑F (z9 (mV 3) zh))) (zk fA (z9 (mV 5) zh)))))) [b_ (a_,M),b_ (a_,.str z),b_ (a_,.int pl),b_ (a_,.tup ps),b_ (a_,.str kd),b_ (a_,.tup fs)]=.rt ↑A:=by
 have a0:¬pl<0:=by omega
 have a1:¬((↑l:Int)<pl):=by omega
 rw[zi (e':=[b_ (a_,M),b_ (a_,.str z),b_ (a_,.int pl),b_ (a_,.tup ps),b_ (a_,.str kd),b_ (a_,.tup fs)]) (zJ (zR (aP (Zb (vF (vC rfl rfl) hN)) (Zb (vF ↑z hK)))))];rw[zi (e':=[b_ (a_,M),b_ (a_,.str z),b_ (a_,.int pl),b_ (a_,.tup ps),b_ (a_,.str kd),b_ (a_,.tup fs)]) (zJ (zR (aP (vT (v2 rfl rfl (E2 (decide_eq_false a0)))) (vT (v2 rfl (vK (vC rfl rfl) rfl) (Cc (decide_eq_false a1)))))))];exact zV (av (vF ↑z hP) (vF (vC rfl rfl) hA))
def E5:¬("choice":Str)="record":=by decide+kernel
def E6:¬("function":Str)="record":=by decide+kernel
def E7:¬("function":Str)="choice":=by decide+kernel
def VA(fR fC fF:MF)(M:T)(w wr wc:Str)(a b p:T)(ts:List T)(hw:w=wr)(h:fR [(a_,M),(a_,a),(a_,b),(a_,p)]=.ok ↑A):↑ab [b_ (a_,M),b_ (a_,.tup (.str w::a::b::p::ts))]=.rt ↑A:=by have i0:zx (.tup (.str w::a::b::p::ts)) (.int 0)=b_ (a_,.str w):=zW _ 0;have i1:zx (.tup (.str w::a::b::p::ts)) (.int 1)=b_ (a_,a):=zW _ 1;have i2:zx (.tup (.str w::a::b::p::ts)) (.int 2)=b_ (a_,b):=zW _ 2;have i3:zx (.tup (.str w::a::b::p::ts)) (.int 3)=b_ (a_,p):=zW _ 3;apply nC;subst hw;exact(k6 (zR (wt rfl i0 (decide_eq_true rfl)))).trans (zV (vF (vC rfl (vC (v2 rfl rfl i1) (vC (v2 rfl rfl i2) (vC (v2 rfl rfl i3) rfl)))) h))
def VB(fR fC fF:MF)(M:T)(w wr wc:Str)(a b s p:T)(ts:List T)(hw:¬w=wr)(hc:w=wc)(h:fC [(a_,M),(a_,a),(a_,b),(a_,p)]=.ok ↑A):↑ab [b_ (a_,M),b_ (a_,.tup (.str w::a::b::s::p::ts))]=.rt ↑A:=by have i0:zx (.tup (.str w::a::b::s::p::ts)) (.int 0)=b_ (a_,.str w):=zW _ 0;have i1:zx (.tup (.str w::a::b::s::p::ts)) (.int 1)=b_ (a_,a):=zW _ 1;have i2:zx (.tup (.str w::a::b::s::p::ts)) (.int 2)=b_ (a_,b):=zW _ 2;have i4:zx (.tup (.str w::a::b::s::p::ts)) (.int 4)=b_ (a_,p):=zW _ 4;rw[zi (e':=[b_ (a_,M),b_ (a_,.tup (.str w::a::b::s::p::ts))]) (zJ (zR (wt rfl i0 (decide_eq_false hw))))];apply nC;subst hc;exact(k6 (zR (wt rfl i0 (decide_eq_true rfl)))).trans (zV (vF (vC rfl (vC (v2 rfl rfl i1) (vC (v2 rfl rfl i2) (vC (v2 rfl rfl i4) rfl)))) h))
def VC(fR fC fF:MF)(M:T)(w wr wc:Str)(a b p k f:T)(ts:List T)(hw:¬w=wr)(hc:¬w=wc)(h:fF [(a_,M),(a_,a),(a_,b),(a_,p),(a_,k),(a_,f)]=.ok ↑A):↑ab [b_ (a_,M),b_ (a_,.tup (.str w::a::b::p::k::f::ts))]=.rt ↑A:=by have i0:zx (.tup (.str w::a::b::p::k::f::ts)) (.int 0)=b_ (a_,.str w):=zW _ 0;have i1:zx (.tup (.str w::a::b::p::k::f::ts)) (.int 1)=b_ (a_,a):=zW _ 1;have i2:zx (.tup (.str w::a::b::p::k::f::ts)) (.int 2)=b_ (a_,b):=zW _ 2;have i3:zx (.tup (.str w::a::b::p::k::f::ts)) (.int 3)=b_ (a_,p):=zW _ 3;have i4:zx (.tup (.str w::a::b::p::k::f::ts)) (.int 4)=b_ (a_,k):=zW _ 4;have i5:zx (.tup (.str w::a::b::p::k::f::ts)) (.int 5)=b_ (a_,f):=zW _ 5;rw[zi (e':=[b_ (a_,M),b_ (a_,.tup (.str w::a::b::p::k::f::ts))]) (zJ (zR (wt rfl i0 (decide_eq_false hw))))];rw[zi (e':=[b_ (a_,M),b_ (a_,.tup (.str w::a::b::p::k::f::ts))]) (zJ (zR (wt rfl i0 (decide_eq_false hc))))];exact zV (vF (vC rfl (vC (v2 rfl rfl i1) (vC (v2 rfl rfl i2) (vC (v2 rfl rfl i3) (vC (v2 rfl rfl i4) (vC (v2 rfl rfl i5) rfl)))))) h)
theorem Wn:∀{ts:List T},T.tup us∈ts->x∈strsL us->x∈strsL ts
 |t::ts,h,hx=>by
  unfold strsL;rcases sB.mp h with rfl|h;·exact A4 _ (by unfold kH;exact hx)
  ·exact sy _ (Wn h hx)
def fq(h:sortS ts=b_ us):xg [(b,.tup ts)]=.ok (a_,.tup us):=by
 have hs:nK [.tup ts]=b_ (e_,.lst us):=by show(sortS ts).map _=_;rw[h];rfl
 have hb:mZ [b_ (b,.tup ts)]=.rt (a_,.tup us):=by
  unfold mZ;have hE:zC pS (z9 (zC nK (z9 ↑F zh)) zh) [b_ (b,.tup ts)]=.ok (a_,.tup us):=by simp[zC,z9,zh,mV,hs,pS]
  cases b with|false=>exact im hE rfl|true=>exact qF hE (by simp[hide,ui,zC,z9,mV])
 exact zX rfl hb
def E8(a b c:T)(r:List T):VV (.tup (a::b::c::r)) f_ (b_ 3)=b_ (a_,.tup [a,b,c]):=by show b_ (a_,T.tup (uu (a::b::c::r) f_ (b_ ((3:Nat):Int))))=_;rw[Xq];rfl
def Ce(a b c d:T)(r:List T):VV (.tup (a::b::c::d::r)) f_ (b_ 4)=b_ (a_,.tup [a,b,c,d]):=by show b_ (a_,T.tup (uu (a::b::c::d::r) f_ (b_ ((4:Nat):Int))))=_;rw[Xq];rfl
def ud(f:MF)(wr wc:Str):MS:=(zn (jU (jl (m2 zZ (m2 zx ↑F ↑t) (mC (.str wr)))) (zA (m2 zT (dg ↑F xh (jI ↑R)) (jJ (z9 (zk f (z9 (m2 zx ↑F ↑R) zh)) zh)))) zD) (zn (jU (jl (m2 zZ (m2 zx ↑F ↑t) (mC (.str wc)))) (zA (m2 zT (dg ↑F xh (jI (mC (.int 4)))) (jJ (z9 (zk f (z9 (m2 zx ↑F (mC (.int 4))) zh)) zh)))) zD) (zn (zF 1 (m2 zx ↑F ↑H)) (zn (zF 2 (m2 zT (dg (m2 zx ↑F ↑R) xh (jI ↑V)) (zk f (z9 (dg (m2 zx ↑F ↑R) (jI ↑V) xh) zh)))) (zA (m2 zT (dg ↑F xh (jI ↑R)) (jJ (z9 (mV 2) (z9 (m2 zx ↑F (mC (.int 4))) (z9 (zk f (z9 (m2 zx ↑F (mC (.int 5))) zh)) zh))))))))))
def ue:pC=ud xg "record" "choice":=rfl
def Uw(f:MF)(w wc:Str)(a b p u:T)(h:f [(a_,p)]=.ok (a_,u)):ud f w wc [b_ (a_,.tup [.str w,a,b,p]),f_,f_]=.rt (a_,.tup [.str w,a,b,u]):=by
 have i0:zx (.tup [.str w,a,b,p]) (.int 0)=b_ (a_,.str w):=zW _ 0;have i3:zx (.tup [.str w,a,b,p]) (.int 3)=b_ (a_,p):=zW _ 3;have c3:=E8 (.str w) a b [p];have h1:1<=j_:=by decide
 have ad:zT (.tup [.str w,a,b]) (.tup [u])=b_ (a_,.tup [.str w,a,b,u]):=ii (ts:=[.str w,a,b]) (us:=[u]) (by have:=big;simp;omega);unfold ud;apply nC;exact(k6 (zR (wt rfl i0 (decide_eq_true rfl)))).trans (zV (v2 (vS rfl rfl rfl c3) (vP (vC (vF (vC (v2 rfl rfl i3) rfl) h) rfl) rfl rfl) ad))
def Ux(f:MF)(w wr:Str)(a b s p u:T)(hw:¬w=wr)(h:f [(a_,p)]=.ok (a_,u)):ud f wr w [b_ (a_,.tup [.str w,a,b,s,p]),f_,f_]=.rt (a_,.tup [.str w,a,b,s,u]):=by
 have i0:zx (.tup [.str w,a,b,s,p]) (.int 0)=b_ (a_,.str w):=zW _ 0;have i4:zx (.tup [.str w,a,b,s,p]) (.int 4)=b_ (a_,p):=zW _ 4;have c4:=Ce (.str w) a b s [p];have h1:1<=j_:=by decide
 have ad:zT (.tup [.str w,a,b,s]) (.tup [u])=b_ (a_,.tup [.str w,a,b,s,u]):=ii (ts:=[.str w,a,b,s]) (us:=[u]) (by have:=big;simp;omega);unfold ud;rw[zi (e':=[b_ (a_,.tup [.str w,a,b,s,p]),f_,f_]) (zJ (zR (wt rfl i0 (decide_eq_false hw))))];apply nC;exact(k6 (zR (wt rfl i0 (decide_eq_true rfl)))).trans (zV (v2 (vS rfl rfl rfl c4) (vP (vC (vF (vC (v2 rfl rfl i4) rfl) h) rfl) rfl rfl) ad))
def Uy(f:MF)(w wr wc:Str)(a k:T)(pl:Nat)(ps us fs vs:List T)(hw:¬w=wr)(hc:¬w=wc)(h1:f [(a_,.tup (ps.drop pl))]=.ok (a_,.tup us))(h2:f [(a_,.tup fs)]=.ok (a_,.tup vs))(hl:↑l+↑h<1000):ud f wr wc [b_ (a_,.tup [.str w,a,.int (pl:Int),.tup ps,k,.tup fs]),f_,f_]=.rt (a_,.tup [.str w,a,.int (pl:Int),.tup (ps.take pl++us),k,.tup vs]):=by
 have i0:zx (.tup [.str w,a,.int (pl:Int),.tup ps,k,.tup fs]) (.int 0)=b_ (a_,.str w):=zW _ 0;have i2:zx (.tup [.str w,a,.int (pl:Int),.tup ps,k,.tup fs]) (.int 2)=b_ (a_,.int pl):=zW _ 2;have i3:zx (.tup [.str w,a,.int (pl:Int),.tup ps,k,.tup fs]) (.int 3)=b_ (a_,.tup ps):=zW _ 3;have i4:zx (.tup [.str w,a,.int (pl:Int),.tup ps,k,.tup fs]) (.int 4)=b_ (a_,k):=zW _ 4;have i5:zx (.tup [.str w,a,.int (pl:Int),.tup ps,k,.tup fs]) (.int 5)=b_ (a_,.tup fs):=zW _ 5;have c3:=E8 (.str w) a (.int (pl:Int)) [.tup ps,k,.tup fs];have ct:VV (.tup ps) f_ (b_ (pl:Int))=b_ (a_,.tup (ps.take pl)):=by show b_ (a_,T.tup (uu ps f_ (b_ (pl:Int))))=_;rw[Xq]
 have cf:VV (.tup ps) (b_ (pl:Int)) f_=b_ (a_,.tup (ps.drop pl)):=by show b_ (a_,T.tup (uu ps (b_ (pl:Int)) f_))=_;rw[bW]
 have a1:zT (.tup (ps.take pl)) (.tup us)=b_ (a_,.tup (ps.take pl++us)):=ii (by have:=big;have:=List.length_take_le pl ps;have:=List.length_take_le' pl ps;omega);generalize hq:ps.take pl++us=qs at a1;have a2:zT (.tup [.str w,a,.int (pl:Int)]) (.tup [.tup qs,k,.tup vs])=b_ (a_,.tup [.str w,a,.int (pl:Int),.tup qs,k,.tup vs]):=ii (ts:=[.str w,a,.int (pl:Int)]) (us:=[.tup qs,k,.tup vs]) (by have:=big;simp;omega);have h3:3<=j_:=by decide
 unfold ud;rw[zi (e':=[b_ (a_,.tup [.str w,a,.int (pl:Int),.tup ps,k,.tup fs]),f_,f_]) (zJ (zR (wt rfl i0 (decide_eq_false hw))))];rw[zi (e':=[b_ (a_,.tup [.str w,a,.int (pl:Int),.tup ps,k,.tup fs]),f_,f_]) (zJ (zR (wt rfl i0 (decide_eq_false hc))))];rw[zi (e':=[b_ (a_,.tup [.str w,a,.int (pl:Int),.tup ps,k,.tup fs]),b_ (a_,.int pl),f_]) (zr (v2 rfl rfl i2))];rw[zi (e':=[b_ (a_,.tup [.str w,a,.int (pl:Int),.tup ps,k,.tup fs]),b_ (a_,.int pl),b_ (a_,.tup qs)]) (zr (v2 (vS (v2 rfl rfl i3) rfl (vN rfl) ct) (vF (vC (vS (v2 rfl rfl i3) (vN rfl) rfl cf) rfl) h1) a1))];exact zV (v2 (vS rfl rfl rfl c3) (vP (vC rfl (vC (v2 rfl rfl i4) (vC (vF (vC (v2 rfl rfl i5) rfl) h2) rfl))) rfl rfl) a2)
def JS(h:sortS ts=b_ us):xG [(a_,.tup [.str "record",.str z,.bl m,.tup ts])]=.ok (a_,.tup [.str "record",.str z,.bl m,.tup us]):=by refine zX (n:=3) (k:=1) (mb:=pC) rfl ?_;rw[ue];exact Uw xg "record" "choice" _ _ _ _ (fq h)
def JT(h:sortS ts=b_ us):xG [(a_,.tup [.str "choice",.str z,.bl m,.bl s,.tup ts])]=.ok (a_,.tup [.str "choice",.str z,.bl m,.bl s,.tup us]):=by refine zX (n:=3) (k:=1) (mb:=pC) rfl ?_;rw[ue];exact Ux xg "choice" "record" _ _ _ _ _ E5 (fq h)
def JU{z k:Str}{pl:Nat}{ps fs us vs:List T}(h1:sortS (ps.drop pl)=b_ us)(h2:sortS fs=b_ vs)(hl:↑l+↑h<1000):xG [(a_,.tup [.str "function",.str z,.int (pl:Int),.tup ps,.str k,.tup fs])]=.ok (a_,.tup [.str "function",.str z,.int (pl:Int),.tup (ps.take pl++us),.str k,.tup vs]):=by refine zX (n:=3) (k:=1) (mb:=pC) rfl ?_;rw[ue];exact Uy xg "function" "record" "choice" _ _ pl ps us fs vs E6 E7 (fq h1) (fq h2) hl
def Cf:("record":Str)≠"function":=by decide+kernel
def Cg:("choice":Str)≠"function":=by decide+kernel
def core(L:List Nat):List Nat:=(L.dropWhile λc=>decide (c<97)).takeWhile λc=>decide (97<=c)
theorem oq:∀(ks:List Key)(us:List T)(x:Key),x∉ks->xY ks us x=f_|[],us,x,_=>by cases us<;>rfl|k::ks,[],x,_=>rfl|k::ks,u::us,x,h=>by have hk:¬k=x:=λe=>h (by rw[e];exact m_);rw[xY,if_neg hk,oq ks us x λz=>h (k_ _ z)]
def G2(h:k∉ks):uM ks us k t=.dct (ks++[k]) (us++[t]):=by unfold uM;rw[if_neg];intro z;rw[BO]at z;obtain⟨y,hy,e⟩:=z;exact h ((of_decide_eq_true e)▸hy)
def EZ(wf:Str):MT:=jl (m2 zZ (m2 zx (mV 4) ↑t) (mC (.str wf)))
def D0(fP:MF):MT:=qS (jl (m2 uJ (m2 zx (mV 4) ↑u) (mV 5))) (jx (fH (zk fP (z9 (mV 2) (z9 (mV 4) zh)))))
def D1:ME:=m2 zx (mV 4) ↑u
def D2(fS:MF):ME:=zk fS (z9 (mV 4) zh)
def JV(M:T)(fP fS:MF)(wf w z:Str)(r ts:List T)(i:Nat)(d1 d2 v:T)(ks:List Key)(us:List T)(b:Bool)(hb:decide (w=wf)=b)(hd:(if b=e_ then d2 else d1)=.dct ks us)(hn:Ap z∉ks)(hl:ks.length<j_)(hP:fP [(a_,M),(a_,.tup (.str w::.str z::r))]=.ok ↑A)(hS:fS [(a_,.tup (.str w::.str z::r))]=.ok (a_,v)):gq M (EZ wf) (D0 fP) D1 (D2 fS) ts i (.tup (.str w::.str z::r)) (d1,d2)=.ok (if b=e_ then(d1,.dct (ks++[.inr z]) (us++[v]))else(.dct (ks++[.inr z]) (us++[v]),d2)):=by
 have i0:zx (.tup (.str w::.str z::r)) (.int 0)=b_ (a_,.str w):=zW _ 0;have i1:zx (.tup (.str w::.str z::r)) (.int 1)=b_ (a_,.str z):=zW _ 1;have hi:uJ (.str z) (.dct ks us)=b_ (a_,.bl a_):=by show b_ (a_,T.bl (xY ks us (Ap z)).isSome)=_;rw[oq ks us _ hn];rfl
 have e1:∀d,EZ wf (jC M ts i (.tup (.str w::.str z::r)) d)=.ok b:=λd=>by exact wt rfl i0 hb
 have e2:D0 fP (jC M ts i (.tup (.str w::.str z::r)) (b_ (a_,.dct ks us)))=.ok a_:=by exact aP (vT (v2 (v2 rfl rfl i1) rfl hi)) (Zb (vF ↑z hP))
 have e3:D1 (jC M ts i (.tup (.str w::.str z::r)) f_)=.ok (a_,.str z):=by exact v2 rfl rfl i1
 have e4:D2 fS (jC M ts i (.tup (.str w::.str z::r)) f_)=.ok (a_,v):=by exact vF (vC rfl rfl) hS
 unfold gq;rw[e1,bind_ok];dsimp only;rw[hd,e2];dsimp only;rw[e4,bind_ok,e3,bind_ok];show(if ks.length<j_ then _ else _)=_;rw[if_pos hl,G2 hn]
inductive D where|rc(z:Str)(m:Bool)(ps:List T)|ch(z:Str)(m s:Bool)(ps:List T)|fn(z:Str)(qs ps:List T)(kd:Str)(fs:List T)
namespace D
def t:D->T|rc z m ps=>.tup [.str "record",.str z,.bl m,.tup ps]|ch z m s ps=>.tup [.str "choice",.str z,.bl m,.bl s,.tup ps]|fn z qs ps kd fs=>.tup [.str "function",.str z,.int (qs.length:Nat),.tup (qs++ps),.str kd,.tup fs]
def w:D->Str|rc ..=>"record"|ch ..=>"choice"|fn ..=>"function"
def z:D->Str|rc z ..=>z|ch z ..=>z|fn z ..=>z
def isF:D->Bool|fn ..=>e_|_=>a_
def on(f:List T->List T):D->D|rc z m ps=>rc z m (f ps)|ch z m s ps=>ch z m s (f ps)|fn z qs ps kd fs=>fn z qs (f ps) kd (f fs)
def st:D->D:=on qo
end D
def Nm(y:Str):Prop:=jF [(a_,.str y)]=.ok ↑A
def Kd(y:Str):Prop:=m_is_kind [(a_,.str y)]=.ok ↑A
def E9(z:Str)(m:Bool):Prop:=∀(c:CA)(ma:h_)(mk:List Str),z∈mk->xj c [(a_,.mem ma (c.memo mk ma)),(a_,.str z),(a_,.bl m)]=.ok ↑A
def hI:T->Str|.tup (.str y::_)=>y|.str y=>y|_=>""
def dB(R:List T->Prop)(t:T):Prop:=∃y kd r,t=.tup (.str y::.str kd::r)/\Nm y/\Kd kd/\R r
def Ze(Q:T->Prop)(ts:List T):Prop:=↑c<=5/\(ts.map hI).Nodup/\∀t∈ts,Q t
def IE(t:T):Prop:=∃y,t=.str y/\Nm y
def RF(m:Bool)(r:List T):Prop:=∃d s:Bool,r=[.bl d,.bl s]/\if m=e_ then d=e_\/s=a_ else d=a_
def RP(r:List T):Prop:=∃b:Bool,r=[.bl b]
def R0(r:List T):Prop:=r=[]
def D.ok:D->Prop|.rc z m ps=>E9 z m/\Ze (dB (RF m)) ps|.ch z m s ps=>E9 z m/\Ze (dB R0) ps|.fn z qs ps kd fs=>Nm z/\Kd kd/\Ze (dB RP) (qs++ps)/\Ze IE fs
def Uz(h:hI t≠hI u)(ht:Vb t=e_\/Qc t=e_)(hu:Vb u=e_\/Qc u=e_):kD t≠kD u:=by
 have e:∀{x y:Str},x.cps.toList=y.cps.toList->x=y:=λ{x y}h=>by
  obtain⟨x⟩:=x;obtain⟨y⟩:=y;have:x=y:=by simpa using h
  rw[this]
 have f1:∀{t:T},Vb t=e_\/Qc t=e_->∃r,kD t=(hI t).cps.toList::r:=λ{t}h=>by
  rcases h with h|h;·cases t<;>first|exact⟨[],rfl⟩|cases h
  ·unfold Qc at h;split at h;·exact⟨_,rfl⟩
   ·cases h
 intro z;obtain⟨r,e1⟩:=f1 ht;obtain⟨r',e2⟩:=f1 hu;rw[e1,e2]at z;exact h (e (List.cons.inj z).1)
def Ze.keys(hq:∀t,Q t->Vb t=e_\/Qc t=e_)(h:Ze Q ts):(ts.map kD).Nodup:=by obtain⟨_,h2,h3⟩:=h;unfold BJ at h2⊢;rw[Ag]at h2⊢;refine h2.imp_of_mem λha hb TU=>?_;exact Uz TU (hq _ (h3 _ ha)) (hq _ (h3 _ hb))
def Ze.sub(h:Ze Q (qs++ps)):Ze Q ps:=by obtain⟨h1,h2,h3⟩:=h;rw[sj]at h1;rw[sL]at h2;exact⟨by omega,(Af.mp h2).2.1,λt ht=>h3 t (sy _ ht)⟩
def a9(ds:List D):Prop:=ds.Pairwise λd e=>d.isF=e.isF->d.z≠e.z
end Law
namespace Law
open PySem L2 L3
def Wo:T->Str×Str×List T|.tup (.str y::.str kd::r)=>(y,kd,r)|_=>("","",[])
theorem Xr:∀{ts:List T},(∀t∈ts,dB R t)->qx (ts.map Wo)=ts|[],_=>rfl|t::ts,h=>by obtain⟨y,kd,r,e,_⟩:=h t m_;have ih:=Xr (ts:=ts) λu hu=>h u (k_ _ hu);subst e;unfold qx at ih⊢;rw[sG,sG,ih];rfl
theorem G3:∀{ts:List T},(∀t∈ts,dB R t)->(ts.map Wo).map (·.1)=ts.map hI|[],_=>rfl|t::ts,h=>by obtain⟨y,kd,r,e,_⟩:=h t m_;have ih:=G3 (ts:=ts) λu hu=>h u (k_ _ hu);subst e;rw[sG,sG,sG,ih];rfl
def Zf(h:∀t∈ts,dB R t)(hp:p∈ts.map Wo):Nm p.1/\Kd p.2.1/\R p.2.2/\p.2.1∈strsL ts:=by obtain⟨t,ht,rfl⟩:=sH.mp hp;obtain⟨y,kd,r,e,h1,h2,h3⟩:=h t ht;subst e;refine⟨h1,h2,h3,Wn ht ?_⟩;unfold strsL;unfold strsL;exact sy _ (A4 _ (by simp[kH,Wo]))
def hV(c:CA)(m:h_)(mk:List Str)(h:Ze (dB R) ts)(hx:∀z∈strsL ts,z∈mk):xb c [(a_,.mem m (c.memo mk m)),(a_,.tup ts)]=.ok ↑A:=by
 obtain⟨h1,h2,h3⟩:=h;have hp:=Xr h3;refine Zd c _ _ (ts.map Wo) (.inr (by rw[hp])) ?_ ?_ (by rw[j'];omega);·refine ip e_ _ ((ts.map Wo).map (·.1)) (.inl rfl) ?_ (by rw[j',j'];omega) (by rw[G3 h3];exact h2);intro y hy;obtain⟨p,hp,rfl⟩:=sH.mp hy;exact(Zf h3 hp).1
 ·intro p hp;exact bZ c m mk _ (hx _ (Zf h3 hp).2.2.2) (Zf h3 hp).2.1
theorem Nz:∀{ts:List T},(∀t∈ts,IE t)->sT (ts.map hI)=ts|[],_=>rfl|t::ts,h=>by obtain⟨y,e,_⟩:=h t m_;have ih:=Nz (ts:=ts) λu hu=>h u (k_ _ hu);subst e;unfold sT at ih⊢;rw[sG,sG,ih];rfl
def VD(h:Ze IE ts):xl [(a_,.tup ts)]=.ok ↑A:=by obtain⟨h1,h2,h3⟩:=h;have e:=Nz h3;refine ip a_ _ (ts.map hI) (.inr (by rw[e])) ?_ (by rw[j'];omega) h2;intro y hy;obtain⟨t,ht,rfl⟩:=sH.mp hy;obtain⟨y,rfl,hn⟩:=h3 t ht;exact hn
def LP(c:CA)(m:h_)(mk:List Str)(z:Str)(md:Bool)(ps:List T)(hz:z∈mk)(hT:E9 z md)(h:Ze (dB (RF md)) ps)(hx:∀z∈strsL ps,z∈mk):kJ c [(a_,.mem m (c.memo mk m)),(a_,.str z),(a_,.bl md),(a_,.tup ps)]=.ok ↑A:=by have hP:=hV c m mk h hx;have e:=Xr h.2.2;rw[<-e]at hP⊢;refine zX (n:=4) (k:=4) (mb:=eY c) rfl ?_;refine QZ (xj c) (xb c) vv _ z md (ps.map Wo) (hT c m mk hz) hP (by rw[j'];have:=h.1;omega) ?_;intro p hp;obtain⟨d,s,e,h⟩:=(Zf h.2.2 hp).2.2.1;exact⟨d,s,e,LO md d s h⟩
def LQ(c:CA)(m:h_)(mk:List Str)(z:Str)(md:Bool)(ps:List T)(hz:z∈mk)(hT:E9 z md)(h:Ze (dB R0) ps)(hx:∀z∈strsL ps,z∈mk):kI c [(a_,.mem m (c.memo mk m)),(a_,.str z),(a_,.bl md),(a_,.tup ps)]=.ok ↑A:=zX (n:=4) (k:=4) (mb:=eX c) rfl (G0 (xj c) (xb c) _ z md _ (hT c m mk hz) (hV c m mk h hx))
def LR(c:CA)(m:h_)(mk:List Str)(z kd:Str)(qs ps fs:List T)(hn:Nm z)(hk:Kd kd)(Η:kd∈mk)(h:Ze (dB RP) (qs++ps))(hx:∀z∈strsL (qs++ps),z∈mk)(g:Ze IE fs):xF c [(a_,.mem m (c.memo mk m)),(a_,.str z),(a_,.int (qs.length:Nat)),(a_,.tup (qs++ps)),(a_,.str kd),(a_,.tup fs)]=.ok ↑A:=zX (n:=6) (k:=6) (mb:=my c) rfl (G1 jF (jn c) (xb c) xl _ z kd (qs.length:Nat) _ _ hn (bZ c m mk kd Η hk) ↑p (by rw[sj];omega) (hV c m mk h hx) (VD g))
def Xs(c:CA)(m:h_)(mk:List Str):∀{d:D},d.ok->(∀z∈kH d.t,z∈mk)->kF c [(a_,.mem m (c.memo mk m)),(a_,d.t)]=.ok ↑A|.rc z md ps,h,hx=>by have hz:z∈mk:=hx z (by simp[D.t,kH,strsL]);have hp:∀y∈strsL ps,y∈mk:=λy hy=>hx y (by simp[D.t,kH,strsL,hy]);exact zX (n:=2) (k:=2) (mb:=u4 c) rfl (VA (kJ c) (kI c) (xF c) _ "record" "record" "choice" _ _ _ [] rfl (LP c m mk z md ps hz h.1 h.2 hp))|.ch z md s ps,h,hx=>by have hz:z∈mk:=hx z (by simp[D.t,kH,strsL]);have hp:∀y∈strsL ps,y∈mk:=λy hy=>hx y (by simp[D.t,kH,strsL,hy]);exact zX (n:=2) (k:=2) (mb:=u4 c) rfl (VB (kJ c) (kI c) (xF c) _ "choice" "record" "choice" _ _ _ _ [] E5 rfl (LQ c m mk z md ps hz h.1 h.2 hp))|.fn z qs ps kd fs,h,hx=>by have hz:kd∈mk:=hx kd (by simp[D.t,kH,strsL]);have hp:∀y∈strsL (qs++ps),y∈mk:=λy hy=>hx y (by simp[D.t,kH,strsL,hy]);exact zX (n:=2) (k:=2) (mb:=u4 c) rfl (VC (kJ c) (kI c) (xF c) _ "function" "record" "choice" _ _ _ _ _ [] E6 E7 (LR c m mk z kd qs ps fs h.1 h.2.1 hz h.2.2.1 hp h.2.2.2))
theorem Ze.sortS(h:Ze Q ts)(hq:(∀t,Q t->Vb t=e_)\/∀t,Q t->Qc t=e_):sortS ts=b_ (qo ts):=by have hk:=h.keys λt ht=>hq.elim (λf=>.inl (f t ht)) λf=>.inr (f t ht);unfold L3.sortS;rw[if_pos ⟨by have:=h.1;omega,hq.elim (λf=>.inl (BD.mpr λt ht=>f t (h.2.2 t ht))) (λf=>.inr (BD.mpr λt ht=>f t (h.2.2 t ht))),hk⟩]
def Xt:∀t,dB R t->Qc t=e_:=λt h=>by obtain⟨y,kd,r,rfl,_⟩:=h;rfl
def Ea:∀t,IE t->Vb t=e_:=λt h=>by obtain⟨y,rfl,_⟩:=h;rfl
def VE(l:List T):(qo l).length=l.length:=(gV l).length_eq
def VF:∀{d:D},d.ok->xG [(a_,d.t)]=.ok (a_,d.st.t)|.rc z md ps,h=>JS (h.2.sortS (.inr Xt))|.ch z md s ps,h=>JT (h.2.sortS (.inr Xt))|.fn z qs ps kd fs,h=>by have h1:=h.2.2.1.sub.sortS (.inr Xt);have h2:=h.2.2.2.sortS (.inl Ea);have hl:=h.2.2.1.1;rw[sj]at hl;have:=JU (z:=z) (k:=kd) (pl:=qs.length) (ps:=qs++ps) (fs:=fs) (us:=qo ps) (vs:=qo fs) (by rw[List.drop_left];exact h1) h2 (by rw[sj,VE];omega);rw[List.take_left]at this;exact this
def G4(d:D):∃r,d.t=.tup (.str d.w::.str d.z::r):=by cases d<;>exact⟨_,rfl⟩
def NA(d:D):decide (d.w="function")=d.isF:=by
 cases d;·exact decide_eq_false Cf
 ·exact decide_eq_false Cg
 ·exact decide_eq_true rfl
def Yj(ds:List D)(b:Bool):List Key:=(ds.filter λd=>d.isF==b).map λd=>Ap d.z
def Yk(ds:List D)(b:Bool):List T:=(ds.filter λd=>d.isF==b).map λd=>d.st.t
theorem hW(c:CA)(mk:List Str)(ts:List T)(M:T)(hM:∃m,M=.mem m (c.memo mk m)):∀(ds:List D)(i:Nat)(k1 k2:List Key)(u1 u2:List T),(∀d∈ds,d.ok/\∀z∈kH d.t,z∈mk)->a9 ds->(∀d∈ds,d.isF=a_->Ap d.z∉k1)->(∀d∈ds,d.isF=e_->Ap d.z∉k2)->k1.length+ds.length<1000->k2.length+ds.length<1000->xR M (EZ "function") (D0 (kF c)) D1 (D2 xG) ts i (ds.map D.t) (.dct k1 u1,.dct k2 u2)=.ok (.dct (k1++Yj ds a_) (u1++Yk ds a_),.dct (k2++Yj ds e_) (u2++Yk ds e_))
 |[],i,k1,k2,u1,u2,_,_,_,_,_,_=>by simp[Yj,Yk,xR]|d::ds,i,k1,k2,u1,u2,ho,ha,h1,h2,l1,l2=>by
  obtain⟨m,rfl⟩:=hM;obtain⟨ok,hz⟩:=ho d m_;obtain⟨a1,a2⟩:=Op.mp ha;have hP:=Xs c m mk ok hz;have hS:=VF ok;obtain⟨r,e⟩:=G4 d;have hw:=NA d;have o':∀e∈ds,e.ok/\∀z∈kH e.t,z∈mk:=λe he=>ho e (k_ _ he);rw[sA]at l1 l2;rw[sG,xR];rw[e]at hP hS⊢
  cases hF:d.isF with|false=>
   rw[hF]at hw;have hn:=h1 d m_ hF;rw[JV (.mem m (c.memo mk m)) (kF c) xG "function" d.w d.z r ts i (.dct k1 u1) (.dct k2 u2) d.st.t k1 u1 a_ hw rfl hn (by have:=big;omega) hP hS,bind_ok,if_neg sM];rw[hW c mk ts _ ⟨m,rfl⟩ ds (i+1) (k1++[Ap d.z]) k2 (u1++[d.st.t]) u2 o' a2 (λe he hf z=>?_) (λe he hf=>h2 e (k_ _ he) hf) (by rw[sj];simp;omega) ↑p];·simp[Yj,Yk,hF]
   ·rcases sS.mp z with z|z;·exact h1 e (k_ _ he) hf z
    ·have:e.z=d.z:=by simpa using z
     exact a1 e he (by rw[hF,hf]) this.symm|true=>
   rw[hF]at hw;have hn:=h2 d m_ hF;rw[JV (.mem m (c.memo mk m)) (kF c) xG "function" d.w d.z r ts i (.dct k1 u1) (.dct k2 u2) d.st.t k2 u2 e_ hw rfl hn (by have:=big;omega) hP hS,bind_ok,if_pos rfl];rw[hW c mk ts _ ⟨m,rfl⟩ ds (i+1) k1 (k2++[Ap d.z]) u1 (u2++[d.st.t]) o' a2 (λe he hf=>h1 e (k_ _ he) hf) (λe he hf z=>?_) ↑p (by rw[sj];simp;omega)];·simp[Yj,Yk,hF]
   ·rcases sS.mp z with z|z;·exact h2 e (k_ _ he) hf z
    ·have:e.z=d.z:=by simpa using z
     exact a1 e he (by rw[hF,hf]) this.symm
def Zg(h:↑c+↑h<=j_):zT (.lst ts) (.lst us)=b_ (e_,.lst (ts++us)):=by show(if ↑c+↑h<=j_ then b_ (e_,T.lst (ts++us))else f_)=_;rw[if_pos h]
def LT(c:CA):jW c=vg c.memo c.Face "told_kinds" "told_functions" (EZ "function") (D0 (kF c)) D1 (D2 xG):=rfl
def G5{memo:List Str->Mo}{C:h_}{f1 f2:Str}{tw tc:MT}{mk mv:ME}{ts:List T}{d1 d2:T}{env:En}{b:Bool}{i:Nat}(h4:env[i]?=b_ (b_ (b,.lst ts)))(hz:(strsL ts).length<j_)(h:∀m,xR (.mem m (memo (strsL ts) m)) tw tc mk mv ts 0 ts (.dct [] [],.dct [] [])=.ok (d1,d2)):gh C (vg memo C f1 f2 tw tc mk mv) (z9 (mV i) zh) env=.ok (a_,.obj C [f1,f2] [d1,d2]):=by
 have ha:z9 (mV i) zh env=.ok [(a_,.lst ts)]:=by simp[z9,zh,mV,h4]
 unfold gh;rw[ha,bind_ok];have hT:vg memo C f1 f2 tw tc mk mv [(e_,.obj C [] []),(a_,.lst ts)]=.ok (.obj C [f1,f2] [d1,d2]):=by unfold vg;dsimp only;rw[if_pos ⟨rfl,hz⟩,h 0];dsimp only;rw[if_pos h]
 rw[hT,bind_ok]
theorem G6:∀{ts:List T},t∈ts->x∈kH t->x∈strsL ts
 |u::ts,h,hx=>by
  unfold strsL;rcases sB.mp h with rfl|h;·exact A4 _ hx
  ·exact sy _ (G6 h hx)
def LU(c:CA)(ok:∀d∈ds,d.ok)(h:a9 ds)(hl:ds.length<=13)(hz:(strsL (ds.map D.t)).length<j_)(hi:env[i]?=b_ (b_ (b,.lst (ds.map D.t)))):gh c.Face (jW c) (z9 (mV i) zh) env=.ok (a_,.obj c.Face ["told_kinds","told_functions"] [.dct (Yj ds a_) (Yk ds a_),.dct (Yj ds e_) (Yk ds e_)]):=by rw[LT];refine G5 hi hz λm=>?_;have:=hW c (strsL (ds.map D.t)) (ds.map D.t) (.mem m (c.memo (strsL (ds.map D.t)) m)) ⟨m,rfl⟩ ds 0 [] [] [] [] (λd hd=>⟨ok d hd,λz hz=>G6 (Aq hd) hz⟩) h (λ_ _ _ z=>nomatch z) (λ_ _ _ z=>nomatch z) (by simp;omega) (by simp;omega);exact this
def Eb(h:m (hide env)=.ok (b,.lst ts)):YU m env=.ok (ts,env):=by unfold YU jR;rw[h];rfl
def UA(h:m (hide env)=.ok (b,.lst ts))(g:jv tg mb ts env=o):kj (YU m) tg mb env=o:=by unfold kj;rw[Eb h];exact g
def NB(b:Int)(h:-(2^64)<a/\a<2^64):ZM (.int a) (.int b)=b_ (a_,.int (a*b)):=if_pos (.inl h)
def Ec(a:Int)(h:-(2^64)<b/\b<2^64):ZM (.int a) (.int b)=b_ (a_,.int (a*b)):=if_pos (.inr h)
def Ed(a:Int)(h:0<b/\b<1073741824):gj (.int a) (.int b)=b_ (a_,.int (a/b)):=if_pos h
def xD(c k:Int):∃n:Nat,qd [(a_,.int c),(a_,.int k)]=.ok ↑T:=by
 have h0:=Int.emod_nonneg ((c+7919*k+1)*48271) (b:=2147483647) ↑o;have h1:=Int.emod_lt_of_pos ((c+7919*k+1)*48271) (b:=2147483647) ↑o;have q:∀x:Int,0<=x%2147483647:=λx=>Int.emod_nonneg x ↑o;generalize hn:(c+7919*k+1)*48271%2147483647=n at h0 h1;obtain⟨m,hm⟩:=Int.eq_ofNat_of_zero_le (q (n*(n/1009+69621)));refine⟨m,zX (n:=3) (k:=2) (mb:=i8) rfl ?_⟩;show zn _ _ [b_ (a_,.int c),b_ (a_,.int k),f_]=_;have a1:jZ (.int ((c+7919*k+1)*48271)) (.int 2147483647)=b_ (a_,.int n):=by rw[<-hn];exact Ny _ ↑o
 have a2:jZ (.int (n*(n/1009+69621))) (.int 2147483647)=b_ (a_,.int (m:Int)):=by rw[<-hm];exact Ny _ ↑o
 rw[zi (zr (v2 (v2 (v2 (v2 rfl (v2 rfl rfl (NB k ↑o)) rfl) rfl rfl) rfl (Ec _ ↑o)) rfl a1))];exact zV (v2 (v2 rfl (v2 (v2 rfl rfl (Ed n ↑o)) rfl rfl) (NB _ ↑p)) rfl a2)
def Ee(r:gd RV):Option Bool:=match r with|.ok (a_,.bl c)=>b_ c|_=>f_
def Xu(h:Ee r=b_ b):r=.ok (a_,.bl b):=by
 unfold Ee at h;split at h;·cases h;rfl
 ·cases h
structure qg(ts:List Str):Prop where
 len:↑c=5
 kind:∀z∈ts,Kd z
 short:∀z∈ts,z.length<=40
 ne:∀z∈ts,∃c r,z.cps.toList=c::r/\(c≠35->c≠40->Nm z)nam:∀z∈ts,∃b,jF [(a_,.str z)]=.ok (a_,.bl b)told:∀z∈ts,z≠"num"/\z≠"word"nodup:ts.Nodup
def nV(ts:List Str):List Str:="num"::"word"::ts
def dP(h:qg ts)(b:Bool)(x:Nat):∃z:Str,z∈nV ts/\kK [(b,.lst (sT ts)),(a_,.int (x:Int))]=.ok (a_,.str z):=by
 have hl:(nV ts).length=7:=congrArg (·+2) h.len;have hi:x%7<(nV ts).length:=by rw[hl];exact OO _ ↑o
 refine⟨(nV ts)[x%7],BE hi,zX (n:=2) (k:=2) (mb:=d6) rfl ?_⟩;have e1:zT (.lst [.str "num",.str "word"]) (.lst (sT ts))=b_ (e_,.lst (sT (nV ts))):=Zg (by rw[nE,h.len];decide);have e2:xP [.lst (sT ts)]=b_ (a_,.int 5):=by show b_ (a_,T.int (((sT ts).length:Nat):Int))=_;rw[nE,h.len];rfl
 have e3:jZ (.int (x:Int)) (.int 7)=b_ (a_,.int ((x%7:Nat):Int)):=gP x 7 ↑o;have e4:zx (.lst (sT (nV ts))) (.int ((x%7:Nat):Int))=b_ (a_,.str (nV ts)[x%7]):=by rw[bV,s_ hi];rfl
 have Sj:∀env:En,mV 0 env=.ok ↑Z->mV 1 env=.ok (a_,.int (x:Int))->m2 zx (m2 zT (ki (z9 (mC (.str "num")) (z9 (mC (.str "word")) zh))) ↑F) (m2 jZ ↑V (m2 zT ↑H (zC xP (z9 ↑F zh)))) env=.ok (a_,.str (nV ts)[x%7]):=λenv h0 h1=>v2 (v2 (vL ↑z rfl rfl) h0 e1) (v2 h1 (v2 rfl (vK (vC h0 rfl) e2) rfl) e3) e4;cases b with|false=>exact zV (Sj _ rfl rfl)|true=>exact qF (Sj _ rfl rfl) rfl
def hds:List Str:=["","a","zz","mor"]
def Ef:List Str:=["","b","xy","k"]
def aQ(a b:Str):List Str:=[a++"c"++b,a++"d"++b,a++"e"++b,a++"f"++b,a++"g"++b]
def hsh(n:Nat):Str:="#"++((toString (n:Int):String):Str)
def Eg(a b:Str):Str:="("++(a++"c"++b)++"&word)"
def LV(z:Str):Bool:=Ee (m_is_kind [(a_,.str z)])==b_ e_&&decide (z.length<=40)&&(match z.cps.toList,Ee (jF [(a_,.str z)])with|c::_,b_ b=>b||decide (c=35)||decide (c=40)|_,_=>a_)&&decide (z≠"num")&&decide (z≠"word")
def Zh:∀a∈hds,∀b∈Ef,(aQ a b).all LV=e_/\(aQ a b).Nodup:=by decide+kernel
def G7:∀n:Fin 100,LV (hsh n.1)=e_/\∀a∈hds,∀b∈Ef,((aQ a b).set 3 (hsh n.1)).Nodup:=by decide+kernel
def G8:∀a∈hds,∀b∈Ef,LV (Eg a b)=e_/\((aQ a b).set 3 (Eg a b)).Nodup:=by decide+kernel
def G9:∀a∈hds,a.length<=3:=by decide+kernel
def Ga:∀a∈Ef,a.length<=3:=by decide+kernel
def Wp(hl:↑c=5)(h:∀z∈ts,LV z=e_)(hn:ts.Nodup):qg ts:=by
 have q:∀z∈ts,Kd z/\z.length<=40/\(∃c r b,z.cps.toList=c::r/\jF [(a_,.str z)]=.ok (a_,.bl b)/\(c≠35->c≠40->b=e_))/\z≠"num"/\z≠"word":=λz hz=>by
  have:=h z hz;unfold LV at this;rw[y_,y_,y_,y_]at this;obtain⟨⟨⟨⟨h1,h2⟩,h3⟩,h4⟩,h5⟩:=this;refine⟨Xu (beq_iff_eq.mp h1),of_decide_eq_true h2,?_,of_decide_eq_true h4,of_decide_eq_true h5⟩;split at h3;·rename_i c r b e1 e2;refine⟨c,r,b,e1,Xu e2,λn1 n2=>?_⟩;rw[decide_eq_false n1,decide_eq_false n2,Bool.or_false,Bool.or_false]at h3;exact h3
  ·cases h3
 refine⟨hl,λz hz=>(q z hz).1,λz hz=>(q z hz).2.1,λz hz=>?_,λz hz=>?_,λz hz=>(q z hz).2.2.2,hn⟩;all_goals obtain⟨c,r,b,e,g,k⟩:=(q z hz).2.2.1
 ·exact⟨c,r,e,λn1 n2=>g.trans (by rw[k n1 n2])⟩
 ·exact⟨b,g⟩
def JW{ts:List Str}{z:Str}(hl:↑c=5)(h:ts.all LV=e_)(hz:LV z=e_)(hn:(ts.set 3 z).Nodup):qg (ts.set 3 z):=Wp (by rw[AD,hl]) (λy hy=>(List.mem_or_eq_of_mem_set hy).elim (BD.mp h y) λe=>e▸hz) hn
def ND(h:m (hide env)=.bad)(g:m env=.ok r)(c:L3.clean env r=e_):jR m env=.ok (r,env):=by unfold jR L3.settle;rw[h,g];dsimp only;rw[if_pos c]
theorem Wq:∀ts:List T,(∀t∈ts,∃b,me (b_ (a_,t)::caps)=.ok (b,g t))->ql j6 me caps ts=.ok (ts.map g)|[],_=>rfl|t::ts,h=>by obtain⟨b,e⟩:=h t m_;have ih:=Wq ts λu hu=>h u (k_ _ hu);show(match me (b_ (a_,t)::caps)with|.ok r=>(match ql j6 me caps ts with|.ok rs=>gd.ok (r.2::rs)|_=>.bad)|_=>.bad)=_;rw[e,ih];rfl
def Xv(h:m env=.ok (a_,.int ((i%4:Nat):Int))):∃z∈[a,b,c,d],ET a b c d m env=.ok (a_,.str z):=by have hi:i%4<([a,b,c,d]:List Str).length:=OO _ ↑o;refine⟨[a,b,c,d][i%4],BE hi,v2 (vL (vC rfl (vC rfl ↑z)) rfl rfl) h ?_⟩;show zx (.lst (sT [a,b,c,d])) _=_;rw[bV,s_ hi];rfl
def Bp:("cdefg":Str).cps.toList=[99,100,101,102,103]:=by decide+kernel
def UB(ha:a.length<=3)(hb:b.length<=3)(o0 o1:Option RV)(r:List (Option RV)):DS (o0::o1::b_ (a_,.str a)::b_ (a_,.str b)::r)=.ok (e_,.lst (sT (aQ a b))):=by
 have e:xA (mC (.str "cdefg")) (o0::o1::b_ (a_,.str a)::b_ (a_,.str b)::r)=.ok ([99,100,101,102,103].map λc=>T.str ⟨#[c]⟩):=by show gd.ok (("cdefg":Str).cps.toList.map λc=>T.str ⟨#[c]⟩)=_;rw[Bp]
 unfold DS jq;rw[e,bind_ok,if_pos ↑o];show(match ql j6 (m2 zT (m2 zT (mV 2) ↑F) ↑V) [b_ (a_,.str b),b_ (a_,.str a)] ([99,100,101,102,103].map λc=>T.str ⟨#[c]⟩)with|.ok rs=>gd.ok (e_,T.lst rs)|_=>.bad)=_;rw[Wq (g:=λt=>match t with|.str s=>.str (a++s++b)|_=>.non)]
 ·have k:([99,100,101,102,103].map λc=>(⟨#[c]⟩:Str))=(["c","d","e","f","g"]:List Str):=by decide+kernel
  show gd.ok (e_,T.lst (([99,100,101,102,103].map λc=>(⟨#[c]⟩:Str)).map λs=>T.str (a++s++b)))=_;rw[k];rfl
 ·intro t ht;obtain⟨c,_,rfl⟩:=sH.mp ht;have l1:(⟨#[c]⟩:Str).length=1:=rfl;have l2:(a++(⟨#[c]⟩:Str)).length=a.length+1:=by rw[<-mG,dO,sj,mG,mG,l1]
  exact⟨a_,v2 (v2 rfl rfl (add_str ↑p)) rfl (add_str ↑p)⟩
def Wr{k:Nat}{n:Nat}{env:En}(h:(hide env)[1]?=b_ (b_ ↑T)):xz (LB (k:Int)) env=.ok (decide (n/16%3=k)):=by refine zR (vT (p:=a_) (v2 (v2 (v2 (vV h) rfl (ij n 16 ↑o ↑o)) rfl (gP _ 3 ↑o)) rfl ?_));rw[Zc];congr 3;exact decide_eq_decide.mpr ↑p
def VG(c:Int):∃ts,qg ts/\qE [(a_,.int c)]=.ok (e_,.lst (sT ts)):=by
 obtain⟨n,hn⟩:=xD c 0;have m1:jZ (.int (n:Int)) (.int 4)=b_ (a_,.int ((n%4:Nat):Int)):=gP n 4 ↑o;have d1:gj (.int (n:Int)) (.int 4)=b_ (a_,.int ((n/4:Nat):Int)):=ij n 4 ↑o ↑o;have m2':jZ (.int ((n/4:Nat):Int)) (.int 4)=b_ (a_,.int ((n/4%4:Nat):Int)):=gP (n/4) 4 ↑o;obtain⟨a,ha,pa⟩:=Xv (a:="") (b:="a") (c:="zz") (d:="mor") (env:=[b_ (a_,.int c),b_ ↑T,f_,f_,f_]) (m:=m2 jZ ↑V (mC (.int 4))) (i:=n) (v2 rfl rfl m1);obtain⟨b,hb,pb⟩:=Xv (a:="") (b:="b") (c:="xy") (d:="k") (env:=[b_ (a_,.int c),b_ ↑T,b_ (a_,.str a),f_,f_]) (m:=m2 jZ (m2 gj ↑V (mC (.int 4))) (mC (.int 4))) (i:=n/4) (v2 (v2 rfl rfl d1) rfl m2');have ha:a∈hds:=ha;have hb:b∈Ef:=hb;have la:=G9 a ha;have lb:=Ga b hb;have hl:(sT (aQ a b)).length=5:=rfl;have run:∀ts,(zn (jU (LB 0) (gC 4 ↑R DT) zD) (zn (jU (LB 1) (gC 4 ↑R DU) zD) (pq 4))) [b_ (a_,.int c),b_ ↑T,b_ (a_,.str a),b_ (a_,.str b),b_ (e_,.lst (sT (aQ a b)))]=.rt (e_,.lst (sT ts))->qE [(a_,.int c)]=.ok (e_,.lst (sT ts)):=λts h=>by refine zX (n:=5) (k:=1) (mb:=fU) rfl ?_;unfold fU;show zn _ _ [b_ (a_,.int c),f_,f_,f_,f_]=_;rw[zi (zr (vF ↑z hn))];show zn _ _ [b_ (a_,.int c),b_ ↑T,f_,f_,f_]=_;rw[zi (zr pa)];show zn _ _ [b_ (a_,.int c),b_ ↑T,b_ (a_,.str a),f_,f_]=_;rw[zi (zr pb)];show zn _ _ [b_ (a_,.int c),b_ ↑T,b_ (a_,.str a),b_ (a_,.str b),f_]=_;rw[zi (zr (UB la lb _ _ _))];exact h
 have t0:xz (LB 0) [b_ (a_,.int c),b_ ↑T,b_ (a_,.str a),b_ (a_,.str b),b_ (e_,.lst (sT (aQ a b)))]=.ok (decide (n/16%3=0)):=Wr (k:=0) (n:=n) rfl;have t1:∀ys,xz (LB 1) [b_ (a_,.int c),b_ ↑T,b_ (a_,.str a),b_ (a_,.str b),b_ (e_,.lst ys)]=.ok (decide (n/16%3=1)):=λys=>Wr (k:=1) (n:=n) rfl;have back:∀z:Str,(sT (aQ a b)).set 3 (.str z)=sT ((aQ a b).set 3 z):=λz=>rfl;by_cases g0:n/16%3=0
 ·rw[decide_eq_true g0]at t0;have q:n/48%100<100:=OO _ ↑o;refine⟨(aQ a b).set 3 (hsh (n/48%100)),JW rfl (Zh a ha b hb).1 (G7 ⟨_,q⟩).1 ((G7 ⟨_,q⟩).2 a ha b hb),run _ ?_⟩;have s1:PL [.int ((n/48%100:Nat):Int)]=b_ (a_,.str (toString ((n/48%100:Nat):Int):String)):=by
   have:∀i:Fin 100,(((i.1:Nat):Int).natAbs.log2<1920):=by decide+kernel
   show(if _ then _ else _)=_;rw[if_pos (this ⟨_,q⟩)]
  have s2:zT (.str "#") (.str (toString ((n/48%100:Nat):Int):String))=b_ (a_,.str (hsh (n/48%100))):=by
   refine add_str ?_;have:∀i:Fin 100,("#":Str).length+((toString ((i.1:Nat):Int):String):Str).length<=1000:=by decide+kernel
   exact this ⟨_,q⟩
  have hS:gC 4 ↑R DT [b_ (a_,.int c),b_ ↑T,b_ (a_,.str a),b_ (a_,.str b),b_ (e_,.lst (sT (aQ a b)))]=.nx [b_ (a_,.int c),b_ ↑T,b_ (a_,.str a),b_ (a_,.str b),b_ (e_,.lst ((sT (aQ a b)).set 3 (.str (hsh (n/48%100)))))]:=JP (pI (r:=(a_,.str (hsh (n/48%100)))) (v2 rfl (vK (vC (v2 (v2 rfl rfl (ij n 48 ↑o ↑o)) rfl (gP _ 100 ↑o)) rfl) s1) s2)) rfl rfl (j:=3) rfl;rw[zi ((k6 t0).trans hS)];have t1:=t1 ((sT (aQ a b)).set 3 (.str (hsh (n/48%100))));rw[decide_eq_false ↑p]at t1;rw[zi (zJ t1)];rfl
 ·rw[decide_eq_false g0]at t0;by_cases g1:n/16%3=1
  ·refine⟨(aQ a b).set 3 (Eg a b),JW rfl (Zh a ha b hb).1 (G8 a ha b hb).1 (G8 a ha b hb).2,run _ ?_⟩;rw[zi (zJ t0)];have t1:=t1 (sT (aQ a b));rw[decide_eq_true g1]at t1;have la2:(a++"c"++b).length=a.length+1+b.length:=by rw[<-mG,dO,dO,sj,sj,mG,mG,mG];rfl
   have l3:("("++(a++"c"++b)).length=1+(a.length+1+b.length):=by rw[<-mG,dO,sj,mG,mG,la2];rfl
   have w5:("&word)":Str).length=6:=by decide+kernel
   have w1:("(":Str).length=1:=by decide+kernel
   have i0:zx (.lst (sT (aQ a b))) (.int 0)=b_ (a_,.str (a++"c"++b)):=rfl;have hS:gC 4 ↑R DU [b_ (a_,.int c),b_ ↑T,b_ (a_,.str a),b_ (a_,.str b),b_ (e_,.lst (sT (aQ a b)))]=.nx [b_ (a_,.int c),b_ ↑T,b_ (a_,.str a),b_ (a_,.str b),b_ (e_,.lst ((sT (aQ a b)).set 3 (.str (Eg a b))))]:=JP (ND (r:=(a_,.str (Eg a b))) rfl (v2 (v2 rfl (v2 rfl rfl i0) (add_str ↑p)) rfl (add_str ↑p)) (gK rfl rfl rfl)) rfl rfl (j:=3) rfl;rw[zi ((k6 t1).trans hS)];rfl
  ·refine⟨aQ a b,Wp rfl (BD.mp (Zh a ha b hb).1) (Zh a ha b hb).2,run _ ?_⟩;rw[zi (zJ t0)];have t1:=t1 (sT (aQ a b));rw[decide_eq_false g1]at t1;rw[zi (zJ t1)];rfl
def D3(n:Nat):mJ (.int (n:Int)) (.int 0)=b_ (a_,.bl (decide (0<n))):=by show b_ (a_,T.bl (decide ((0:Int)<(n:Int))))=_;congr 3;exact decide_eq_decide.mpr ↑p
def LW(n k:Nat):zZ (.int (n:Int)) (.int (k:Int))=b_ (a_,.bl (decide (n=k))):=by rw[Zc];congr 3;exact decide_eq_decide.mpr ↑p
def iq(hv:jR mv env=.ok (r,env))(hi:env[i]?=b_ (b_ (e_,.dct ks ts)))(hk:mk (hide env)=.ok (p,.str y))(hy:Ap y∉ks)(hl:ks.length<900):uj i mk mv env=.nx (env.set i (b_ (e_,.dct (ks++[Ap y]) (ts++[r.2])))):=by unfold uj;rw[hv];dsimp only;rw[hi];dsimp only;rw[pI hk];dsimp only;rw[hi];show(if ks.length<j_ then V5.nx (env.set i (b_ (e_,uM ks ts (Ap y) r.2)))else .bad)=_;rw[if_pos (by have:=big;omega)];unfold uM;rw[if_neg];intro z;obtain⟨x,hx,e⟩:=BO.mp z;exact hy (of_decide_eq_true e▸hx)
def aa{ts:List Str}(h:qg ts){i n:Nat}(hi:i<5){env:En}{b:Bool}{k3:Nat}(h0:env[0]?=b_ (b_ (b,.lst (sT ts))))(h1:env[1]?=b_ (b_ (a_,.int (i:Int))))(h3:env[k3]?=b_ (b_ ↑T)):∃md:Bool,x8 (m2 mJ (m2 jZ (mV k3) ↑R) ↑t) (m2 tJ (m2 zx (m2 zx ↑F ↑V) ↑t) (mC (.str "#("))) env=.ok (a_,.bl md)/\(md=e_->Nm (ts.getD i "")):=by
 have Sr:i<↑c:=by rw[h.len];exact hi
 have e1:zx (.lst (sT ts)) (.int (i:Int))=b_ (a_,.str (ts.getD i "")):=by rw[bV,getD_some (d:=("":Str)) Sr];rfl
 have hm:ts.getD i ""∈ts:=by rw[AS,s_ Sr];exact BE Sr
 obtain⟨c,r,e,g⟩:=h.ne _ hm;have hs:=h.short _ hm;generalize ts.getD i ""=z at*;have e2:zx (.str z) (.int 0)=b_ (a_,.str ⟨#[c]⟩):=by
  show(if z.length<=j_ then(oK z.cps.toList 0).map λc=>(a_,T.str ⟨#[c]⟩)else f_)=_;rw[if_pos (A6 hs ↑o),e];have:XJ (c::r).length 0=b_ 0:=by simp[XJ]
  unfold oK;rw[this];rfl
 have hc:("#(":Str).cps.toList=[35,40]:=by decide+kernel
 have e3:tJ (.str ⟨#[c]⟩) (.str "#(")=b_ (a_,.bl (!decide (c∈("#(":Str).cps.toList))):=by have:=LI c "#(";unfold uJ at this;unfold tJ;cases q:PB (.str ⟨#[c]⟩) (.str "#(")with|none=>rw[q]at this;cases this|some k=>rw[q]at this;cases this;rfl
 refine⟨_,Cb (v2 (v2 (vV h3) rfl (gP n 3 ↑o)) rfl (D3 _)) (v2 (v2 (v2 (vV h0) (vV h1) e1) rfl e2) rfl e3),λq=>?_⟩;rw[y_]at q;have q:=q.2;rw[hc]at q;have q:¬c∈[35,40]:=of_decide_eq_true (by rw[decide_not];exact q);exact g (λz=>q (by rw[z];decide)) (λz=>q (by rw[z];decide))
def VH(ts:List Str)(md:Bool)(q:Str×List T):Prop:=∃kd d s,q.2=[.str kd,.bl d,.bl s]/\kd∈nV ts/\if md=e_ then d=e_\/s=a_ else d=a_
def aR{α:Type}(Q:List (Str×α)):List Key:=Q.map λq=>Ap q.1
def VZ(Q:List (Str×List T)):List T:=Q.map λq=>.tup q.2
def K0:List Str:=["left","q","zeal"]
def Zi(hi:i<3)(h:m env=.ok (a_,.int (i:Int))):n3 a b c m env=.ok (a_,.str (([a,b,c]:List Str).getD i "")):=by refine v2 (vL (vC rfl ↑z) rfl rfl) h ?_;show zx (.lst (sT [a,b,c])) _=_;rw[bV,getD_some (d:=("":Str)) (by exact hi)];rfl
def pJ{l:List Str}{k:Nat}(h:k<l.length):l.take k++[l.getD k ""]=l.take (k+1):=by rw[List.take_add_one,getD_some (d:=("":Str)) h];rfl
def ft{l:List Str}(n:l.Nodup){k:Nat}(h:k<l.length):l.getD k ""∉l.take k:=by have e:l.take (k+1)=l.take k++[l.getD k ""]:=(pJ h).symm;have:=H_ (L' (k+1) l) n;rw[e]at this;intro z;exact(Af.mp this).2.2 _ z _ (sC.mpr rfl) rfl
def hX:K0.Nodup:=by decide+kernel
def Gb{ts:List Str}(h:qg ts)(at_ c n:Int)(md:Bool)(k:Nat)(hk:k<3)(Q:List (Str×List T))(hQ:Q.map (·.1)=K0.take k)(hF:∀q∈Q,VH ts md q)(e7 e8 e9:Option RV):∃Q' Γ ϩ e9',Q'.map (·.1)=K0.take (k+1)/\(∀q∈Q',VH ts md q)/\E1 [b_ ↑Z,b_ (a_,.int at_),b_ (a_,.int c),b_ (a_,.int n),b_ (a_,.bl md),b_ (e_,.dct (aR Q) (VZ Q)),b_ (a_,.int (k:Int)),e7,e8,e9]=.nx [b_ ↑Z,b_ (a_,.int at_),b_ (a_,.int c),b_ (a_,.int n),b_ (a_,.bl md),b_ (e_,.dct (aR Q') (VZ Q')),b_ (a_,.int (k:Int)),Γ,ϩ,e9']:=by
 obtain⟨y,hy⟩:=xD c (2+(k:Int));have m2':jZ (.int (y:Int)) (.int 2)=b_ (a_,.int ((y%2:Nat):Int)):=gP y 2 ↑o;obtain⟨kd,Η,hkk⟩:=dP h a_ (y/6);refine⟨Q++[(K0.getD k "",[.str kd,.bl (md&&decide (y%2=1)),.bl (decide (0<y/2%3)&&((md&&decide (y%2=1))||!md))])],b_ (a_,.int (y:Int)),b_ (a_,.bl (md&&decide (y%2=1))),b_ (a_,.bl (decide (0<y/2%3)&&((md&&decide (y%2=1))||!md))),?_,λq hq=>?_,?_⟩;·rw[sL,hQ];exact pJ hk
 ·rcases sS.mp hq with z|z;·exact hF q z
  ·rw[sC.mp z];refine⟨kd,_,_,rfl,Η,?_⟩;cases md;·rfl
   ·by_cases g:y%2=1;·exact .inl (by rw[decide_eq_true g];rfl)
    ·exact .inr (by rw[decide_eq_false g];exact OE _)
 ·unfold E1;rw[zi (zr (vF (vC rfl (vC (v2 rfl rfl rfl) rfl)) hy))];show zn _ _ [b_ ↑Z,b_ (a_,.int at_),b_ (a_,.int c),b_ (a_,.int n),b_ (a_,.bl md),b_ (e_,.dct (aR Q) (VZ Q)),b_ (a_,.int (k:Int)),b_ (a_,.int (y:Int)),e8,e9]=_;rw[zi (a:=zF 8 CM) (zr (Cb rfl (v2 (v2 rfl rfl m2') rfl (LW (y%2) 1))))];show zn _ _ [b_ ↑Z,b_ (a_,.int at_),b_ (a_,.int c),b_ (a_,.int n),b_ (a_,.bl md),b_ (e_,.dct (aR Q) (VZ Q)),b_ (a_,.int (k:Int)),b_ (a_,.int (y:Int)),b_ (a_,.bl (md&&decide (y%2=1))),e9]=_;rw[zi (a:=zF 9 CN) (zr (Cb (v2 (v2 (v2 rfl rfl (ij y 2 ↑o ↑o)) rfl (gP _ 3 ↑o)) rfl (D3 _)) (B0 rfl (EX rfl))))];show uj _ _ _ [b_ ↑Z,b_ (a_,.int at_),b_ (a_,.int c),b_ (a_,.int n),b_ (a_,.bl md),b_ (e_,.dct (aR Q) (VZ Q)),b_ (a_,.int (k:Int)),b_ (a_,.int (y:Int)),b_ (a_,.bl (md&&decide (y%2=1))),b_ (a_,.bl (decide (0<y/2%3)&&((md&&decide (y%2=1))||!md)))]=_;refine(iq (mv:=CO) (y:=K0.getD k "") (pI (vP (vC (vF (vC rfl (vC (v2 rfl rfl (ij y 6 ↑o ↑o)) rfl)) hkk) ↑z) rfl rfl)) rfl (Zi hk rfl) ?_ ?_).trans ?_;·intro z;obtain⟨q,hq,e⟩:=sH.mp z;have e:q.1=K0.getD k "":=BS e;refine ft hX hk ?_;rw[<-hQ,<-e];exact Aq hq
  ·have:=congrArg M' hQ;rw[j',BB]at this;unfold aR;rw[j'];omega
  ·simp only[aR,VZ,sL,sG,Rg];rfl
def rE(ts:List Str)(at_ c n:Int)(md:Bool)(Q:List (Str×List T))(e6 e7 e8 e9:Option RV):En:=[b_ ↑Z,b_ (a_,.int at_),b_ (a_,.int c),b_ (a_,.int n),b_ (a_,.bl md),b_ (e_,.dct (aR Q) (VZ Q)),e6,e7,e8,e9]
theorem JX(h:qg ts)(at_ c n:Int)(md:Bool):∀(m k:Nat)(Q:List (Str×List T))(e6 e7 e8 e9:Option RV),k+m<=3->Q.map (·.1)=K0.take k->(∀q∈Q,VH ts md q)->∃Q' Ε Γ ϩ e9',Q'.map (·.1)=K0.take (k+m)/\(∀q∈Q',VH ts md q)/\jv (gN 6) E1 ((Ov k m).map λ(i:Nat)=>T.int (i:Int)) (rE ts at_ c n md Q e6 e7 e8 e9)=.nx (rE ts at_ c n md Q' Ε Γ ϩ e9')|0,k,Q,e6,e7,e8,e9,_,hQ,hF=>⟨Q,e6,e7,e8,e9,hQ,hF,rfl⟩|m+1,k,Q,e6,e7,e8,e9,hl,hQ,hF=>by obtain⟨Q1,f7,f8,f9,hQ1,hF1,ht⟩:=Gb h at_ c n md k ↑p Q hQ hF e7 e8 e9;obtain⟨Q2,g6,g7,g8,g9,hQ2,hF2,ih⟩:=JX h at_ c n md m (k+1) Q1 ↑E f7 f8 f9 ↑p hQ1 hF1;refine⟨Q2,g6,g7,g8,g9,by rw[hQ2];congr 1;omega,hF2,?_⟩;rw[O5,sG,jX (e1:=rE ts at_ c n md Q ↑E e7 e8 e9) (e2:=rE ts at_ c n md Q1 ↑E f7 f8 f9) rfl ht];exact ih
def hZ{i:Nat}{env:En}{n a b:Nat}(h:env[i]?=b_ (b_ ↑T))(ha:0<a/\a<1000)(hb:0<b):oj i (a:Int) (b:Int) env=.ok (a_,.int ((n/a%b:Nat):Int)):=v2 (v2 (vV h) rfl (ij n a ha.1 ha.2)) rfl (gP _ b hb)
def nG(h:m (hide env)=.ok (b,t)):YV (z9 m zh) env=.ok [t]:=by unfold YV;rw[vC h (rfl:zh (hide env)=.ok [])];rfl
structure JY(ts:List Str)(z:Str)(md:Bool)(Q:List (Str×List T)):Prop where
 names:∃n,Q.map (·.1)=K0.take n
 flds:∀q∈Q,VH ts md q
 made:md=e_->Nm z
def VI(h:qg ts)(hi:i<5)(c:Int):∃md Q,JY ts (ts.getD i "") md Q/\kq [↑Z,(a_,.int (i:Int)),(a_,.int c)]=.ok (a_,.tup [.bl md,.dct (aR Q) (VZ Q)]):=by
 obtain⟨n,hn⟩:=xD c 1;obtain⟨md,hm,hN⟩:=aa h hi (n:=n) (env:=[b_ ↑Z,b_ (a_,.int (i:Int)),b_ (a_,.int c),b_ ↑T,f_,f_,f_,f_,f_,f_]) (k3:=3) rfl rfl rfl;have q4:n/3%4<=3:=by omega
 obtain⟨Q,e6,e7,e8,e9,hQ,hF,hL⟩:=JX h (i:Int) c (n:Int) md (n/3%4) 0 [] f_ f_ f_ f_ ↑p rfl (λq hq=>by cases hq);refine⟨md,Q,⟨⟨_,hQ⟩,hF,hN⟩,zX (n:=10) (k:=3) (mb:=fV) rfl ?_⟩;unfold fV;show zn _ _ [b_ ↑Z,b_ (a_,.int (i:Int)),b_ (a_,.int c),f_,f_,f_,f_,f_,f_,f_]=_;rw[zi (a:=zF 3 (JG 2 ↑u)) (zr (vF ↑z hn))];show zn _ _ [b_ ↑Z,b_ (a_,.int (i:Int)),b_ (a_,.int c),b_ ↑T,f_,f_,f_,f_,f_,f_]=_;rw[zi (a:=zF 4 (LD 3)) (zr (env:=[b_ ↑Z,b_ (a_,.int (i:Int)),b_ (a_,.int c),b_ ↑T,f_,f_,f_,f_,f_,f_]) hm)];rw[zi (a:=zF 5 uN) (zr (r:=(e_,.dct [] [])) rfl)];show zn _ _ (rE ts (i:Int) c (n:Int) md [] f_ f_ f_ f_)=_;rw[zi (a:=kj (gD (z9 (oj 3 3 4) zh)) (gN 6) E1) ((ig (n:=n/3%4) (nG (hZ (a:=3) (b:=4) rfl ↑o ↑o)) ↑p).trans hL)];exact qF (vP ↑z rfl rfl) rfl
def LX(Q:List (Str×Str)):List T:=Q.map λq=>.str q.2
def Gc:List Str:=["no","okay","z"]
def ef:Gc.Nodup:=by decide+kernel
def cE(ts:List Str)(at_ c n:Int)(Q:List (Str×Str))(e5:Option RV):En:=[b_ ↑Z,b_ (a_,.int at_),b_ (a_,.int c),b_ (a_,.int n),b_ (e_,.dct (aR Q) (LX Q)),e5]
theorem JZ(h:qg ts)(at_ c n:Int):∀(m k:Nat)(Q:List (Str×Str))(e5:Option RV),k+m<=3->Q.map (·.1)=Gc.take k->(∀q∈Q,q.2∈nV ts)->∃Q' T_,Q'.map (·.1)=Gc.take (k+m)/\(∀q∈Q',q.2∈nV ts)/\jv (gN 5) DV ((Ov k m).map λ(i:Nat)=>T.int (i:Int)) (cE ts at_ c n Q e5)=.nx (cE ts at_ c n Q' T_)
 |0,k,Q,e5,_,hQ,hF=>⟨Q,e5,hQ,hF,rfl⟩|m+1,k,Q,e5,hl,hQ,hF=>by
  have hk:k<3:=by omega
  obtain⟨y,hy⟩:=xD c (2+(k:Int));obtain⟨kd,Η,hkk⟩:=dP h a_ y;obtain⟨Q2,g5,hQ2,hF2,ih⟩:=JZ h at_ c n m (k+1) (Q++[(Gc.getD k "",kd)]) ↑E ↑p (by rw[sL,hQ];exact pJ hk) (λq hq=>by
   rcases sS.mp hq with z|z;·exact hF q z
   ·rw[sC.mp z];exact Η);refine⟨Q2,g5,by rw[hQ2];congr 1;omega,hF2,?_⟩;rw[O5,sG,jX (e1:=cE ts at_ c n Q ↑E) (e2:=cE ts at_ c n (Q++[(Gc.getD k "",kd)]) ↑E) rfl];·exact ih
  ·refine(iq (mv:=CP) (y:=Gc.getD k "") (pI (vF (vC rfl (vC (vF (vC rfl (vC (v2 rfl rfl rfl) rfl)) hy) rfl)) hkk)) rfl (Zi hk rfl) ?_ ?_).trans ?_;·intro z;obtain⟨q,hq,e⟩:=sH.mp z;have e:q.1=Gc.getD k "":=BS e;refine ft ef hk ?_;rw[<-hQ,<-e];exact Aq hq
   ·have:=congrArg M' hQ;rw[j',BB]at this;unfold aR;rw[j'];omega
   ·unfold cE aR LX;rw[sL,sL];rfl
structure Gd(ts:List Str)(z:Str)(md:Bool)(Q:List (Str×Str)):Prop where
 names:∃n,Q.map (·.1)=Gc.take n
 forms:∀q∈Q,q.2∈nV ts
 made:md=e_->Nm z
def VJ(h:qg ts)(hi:i<5)(c:Int):∃md sh Q,Gd ts (ts.getD i "") md Q/\kx [↑Z,(a_,.int (i:Int)),(a_,.int c)]=.ok (a_,.tup [.bl md,.bl sh,.dct (aR Q) (LX Q)]):=by
 obtain⟨n,hn⟩:=xD c 1;have q4:n/6%4<=3:=by omega
 obtain⟨Q,e5,hQ,hF,hL⟩:=JZ h (i:Int) c (n:Int) (n/6%4) 0 [] f_ ↑p rfl (λq hq=>by cases hq);obtain⟨md,hm,hN⟩:=aa h hi (n:=n) (env:=cE ts (i:Int) c (n:Int) Q e5) (k3:=3) rfl rfl rfl;obtain⟨md',hm',_⟩:=aa h hi (n:=n) (env:=hide (cE ts (i:Int) c (n:Int) Q e5)) (k3:=3) rfl rfl rfl;refine⟨md,decide (n/3%2=0),Q,⟨⟨_,hQ⟩,hF,hN⟩,zX (n:=6) (k:=3) (mb:=fW) rfl ?_⟩;unfold fW;show zn _ _ [b_ ↑Z,b_ (a_,.int (i:Int)),b_ (a_,.int c),f_,f_,f_]=_;rw[zi (a:=zF 3 (JG 2 ↑u)) (zr (vF ↑z hn))];rw[zi (a:=zF 4 uN) (zr (r:=(e_,.dct [] [])) rfl)];show zn _ _ (cE ts (i:Int) c (n:Int) [] f_)=_;rw[zi (a:=kj (gD (z9 (oj 3 6 4) zh)) (gN 5) DV) ((ig (n:=n/6%4) (nG (hZ (a:=6) (b:=4) rfl ↑o ↑o)) ↑p).trans hL)];exact qF (vP (vC hm (vC (v2 (hZ (a:=3) (b:=2) rfl ↑o ↑o) rfl (LW _ 0)) (vC rfl rfl))) rfl rfl) (CZ (vB hm' (vB (v2 (hZ (a:=3) (b:=2) rfl ↑o ↑o) rfl (LW _ 0)) rfl)))
def D4:List Str:=["at","by","of"]
def ac:List Str:=["gone","late"]
def Ch(ts:List Str)(t:T):Prop:=∃y kd b,t=.tup [.str y,.str kd,.bl b]/\y∈D4/\kd∈nV ts
structure Y0(ts:List Str)(pl:Nat)(ps:List T)(kd:Str)(fs:List Str):Prop where
 few:pl<=↑l
 len:↑l<=3
 nodup:(ps.map hI).Nodup
 parts:∀t∈ps,Ch ts t
 back:kd∈nV ts
 faults:∃j,fs=ac.drop j
def Ge{l:List Str}{i:Nat}(h:i<l.length):l.getD i ""∈l:=by rw[AS,s_ h];exact BE h
def fE(ts:List Str)(c n:Int)(ps:List T)(e4 e5:Option RV):En:=[b_ ↑Z,b_ (a_,.int c),b_ (a_,.int n),b_ (e_,.lst ps),e4,e5,f_]
def GL(q i:Nat):Str:=D4.getD ((i+q)%3) ""
theorem Y1{ts:List Str}(h:qg ts)(c:Int)(n:Nat):∀(m k:Nat)(ps:List T)(e4 e5:Option RV),k+m<=3->ps.map hI=(t_ k).map (GL (n/4))->(∀t∈ps,Ch ts t)->∃ps' e4' T_,ps'.map hI=(t_ (k+m)).map (GL (n/4))/\(∀t∈ps',Ch ts t)/\jv (gN 4) EU ((Ov k m).map λ(i:Nat)=>T.int (i:Int)) (fE ts c n ps e4 e5)=.nx (fE ts c n ps' e4' T_)
 |0,k,ps,e4,e5,_,hp,hF=>⟨ps,e4,e5,hp,hF,rfl⟩|m+1,k,ps,e4,e5,hl,hp,hF=>by
  obtain⟨y,hy⟩:=xD c (2+(k:Int));obtain⟨kd,Η,hkk⟩:=dP h a_ y;have hm:(k+n/4)%3<3:=OO _ ↑o;have a1:zT (.int (k:Int)) (.int ((n/4:Nat):Int))=b_ (a_,.int ((k+n/4:Nat):Int)):=by rw[add_int,Int.natCast_add]
  have lp:↑l=k:=by have:=congrArg M' hp;simpa using this
  obtain⟨ps2,g4,g5,hp2,hF2,ih⟩:=Y1 h c n m (k+1) (ps++[.tup [.str (GL (n/4) k),.str kd,.bl (decide (y/8%3=0))]]) ↑E (b_ (a_,.int (y:Int))) ↑p (by rw[sL,hp,List.range_succ,sL];rfl) (λt ht=>by
   rcases sS.mp ht with z|z;·exact hF t z
   ·rw[sC.mp z];exact⟨_,kd,_,rfl,Ge hm,Η⟩);refine⟨ps2,g4,g5,by rw[hp2];congr 2;omega,hF2,?_⟩;rw[O5,sG,jX (e1:=fE ts c n ps ↑E e5) (e2:=fE ts c n (ps++[.tup [.str (GL (n/4) k),.str kd,.bl (decide (y/8%3=0))]]) ↑E (b_ (a_,.int (y:Int)))) rfl];·exact ih
  ·unfold EU;rw[zi (a:=zF 5 (JG 1 (m2 zT ↑H (mV 4)))) (zr (env:=fE ts c n ps ↑E e5) (vF (vC rfl (vC (v2 rfl rfl rfl) rfl)) hy))];exact bU (m:=CQ) (ts:=ps) (r:=(a_,.tup [.str (GL (n/4) k),.str kd,.bl (decide (y/8%3=0))])) rfl (vP (vC (Zi hm (v2 (v2 rfl (v2 rfl rfl (ij n 4 ↑o ↑o)) a1) rfl (gP _ 3 ↑o))) (vC (vF ↑z hkk) (vC (v2 (hZ (n:=y) (a:=8) (b:=3) rfl ↑o ↑o) rfl (LW _ 0)) rfl))) rfl rfl) (by rw[lp];have:=big;omega)
def VL(q:Nat)(h:m<=3):((t_ m).map (GL q)).Nodup:=by
 have k:∀r:Fin 3,∀m:Fin 4,((t_ m.1).map (GL r.1)).Nodup:=by decide+kernel
 have e:GL q=GL (q%3):=by funext i;unfold GL;congr 1;omega
 rw[e];exact k ⟨q%3,OO _ ↑o⟩ ⟨m,by omega⟩
def Y2(h:qg ts)(c:Int):∃pl ps kd fs,Y0 ts pl ps kd fs/\kB [↑Z,(a_,.int c)]=.ok (a_,.tup [.int ((pl:Nat):Int),.lst ps,.str kd,.lst (sT fs)]):=by
 obtain⟨n,hn⟩:=xD c 1;have q4:n%4<=3:=by omega
 obtain⟨ps,e4,e5,hp,hF,hL⟩:=Y1 h c n (n%4) 0 [] f_ f_ ↑p rfl (λq hq=>by cases hq);obtain⟨kd,Η,hkk⟩:=dP h a_ (n/144);have lp:↑l=n%4:=by have:=congrArg M' hp;simpa using this
 have lt:n/36%(↑l+1)<=↑l:=Nat.lt_succ_iff.mp (OO _ (Nat.succ_pos _));refine⟨n/36%(↑l+1),ps,kd,ac.drop (n/12%3),⟨lt,by omega,by rw[hp];exact VL _ ↑p,hF,Η,⟨_,rfl⟩⟩,zX (n:=7) (k:=2) (mb:=qX) rfl ?_⟩;unfold qX;show zn _ _ [b_ ↑Z,b_ (a_,.int c),f_,f_,f_,f_,f_]=_;rw[zi (a:=zF 2 (JG 1 ↑u)) (zr (vF ↑z hn))];rw[zi (a:=zF 3 (ki zh)) (zr (r:=(e_,.lst [])) (vL (rs:=[]) rfl rfl rfl))];show zn _ _ (fE ts c n [] f_ f_)=_;rw[zi (a:=kj (gD (z9 (m2 jZ (mV 2) (mC (.int 4))) zh)) (gN 4) EU) ((ig (n:=n%4) (nG (v2 rfl rfl (gP n 4 ↑o))) ↑p).trans hL)];have s1:VV (.lst (sT ac)) (b_ ((n/12%3:Nat):Int)) f_=b_ (e_,.lst (sT (ac.drop (n/12%3)))):=by show b_ (e_,T.lst (uu (sT ac) (b_ ((n/12%3:Nat):Int)) f_))=_;rw[bW];unfold sT;rw[List.map_drop]
 have hs:CS (hide (fE ts c n ps e4 e5))=.ok (e_,.lst (sT (ac.drop (n/12%3)))):=vS (p:=e_) (x:=.lst (sT ac)) (vL ↑z rfl rfl) (vN (hZ (n:=n) (a:=12) (b:=3) rfl ↑o ↑o)) rfl s1;rw[zi (zr hs)];have l1:xP [.lst ps]=b_ (a_,.int (↑l:Int)):=rfl;have a1:zT (.int (↑l:Int)) (.int 1)=b_ (a_,.int ((↑l+1:Nat):Int)):=by rw[add_int];rfl
 exact qF (vP (vC (v2 (v2 rfl rfl (ij n 36 ↑o ↑o)) (v2 (vK (vC rfl rfl) l1) rfl a1) (gP _ _ (Nat.succ_pos _))) (vC rfl (vC (vF (vC rfl (vC (v2 rfl rfl (ij n 144 ↑o ↑o)) rfl)) hkk) (vC rfl rfl)))) rfl rfl) (CZ (Bn (Bo (v2 rfl rfl (ij n 36 ↑o ↑o)) rfl)))
structure qG where
 z:Str
 md:Bool
 Q:List (Str×List T)
structure qH where
 z:Str
 md:Bool
 sh:Bool
 Q:List (Str×Str)
structure uy where
 z:Str
 pl:Nat
 ps:List T
 kd:Str
 fs:List Str
def qG.v(r:qG):T:=.tup [.bl r.md,.dct (aR r.Q) (VZ r.Q)]
def qH.v(r:qH):T:=.tup [.bl r.md,.bl r.sh,.dct (aR r.Q) (LX r.Q)]
def uy.v(r:uy):T:=.tup [.int (r.pl:Int),.lst r.ps,.str r.kd,.lst (sT r.fs)]
def GM(R:List qG):List Key:=R.map λr=>Ap r.z
def GN(R:List qH):List Key:=R.map λr=>Ap r.z
def GO(R:List uy):List Key:=R.map λr=>Ap r.z
structure ji(ts:List Str)(k:Nat)(R:List qG)(C:List qH):Prop where
 recs:∀r∈R,JY ts r.z r.md r.Q
 chos:∀r∈C,Gd ts r.z r.md r.Q
 sub:∀z∈R.map qG.z++C.map qH.z,z∈ts.take k
 nodup:(R.map qG.z++C.map qH.z).Nodup
def wE(c:Int)(ts:List Str)(R:List qG)(C:List qH)(F:List uy)(e5 e6:Option RV):En:=[b_ (a_,.int c),b_ ↑Z,b_ (e_,.dct (GM R) (R.map qG.v)),b_ (e_,.dct (GN C) (C.map qH.v)),b_ (e_,.dct (GO F) (F.map uy.v)),e5,e6]
def Ws(h:xz t env=.ok a_):jU t a b env=b env:=by unfold jU;rw[h];rfl
def Gf{k n:Nat}{env:En}(h:(hide env)[6]?=b_ (b_ ↑T)):xz (wT (k:Int)) env=.ok (decide (n%5<k)):=by refine zR (vT (p:=a_) (v2 (v2 (vV h) rfl (gP n 5 ↑o)) rfl ?_));show b_ (a_,T.bl (decide (((n%5:Nat):Int)<(k:Int))))=_;congr 3;exact decide_eq_decide.mpr ↑p
def nN{ts:List Str}{k:Nat}{z:Str}(h:z∈ts.take k):z∈ts.take (k+1):=by rw[List.take_add_one];exact A4 _ h
def oy{ts:List Str}{k:Nat}(h:k<↑c):ts.getD k ""∈ts.take (k+1):=by rw[<-pJ h];exact sy _ (sC.mpr rfl)
def Xw{ts:List Str}(h:qg ts)(c:Int)(k:Nat)(hk:k<4)(R:List qG)(C:List qH)(F:List uy)(o:ji ts k R C)(hl:R.length+C.length<=k)(e6:Option RV):∃R' C' Ε,ji ts (k+1) R' C'/\R'.length+C'.length<=k+1/\ID (wE c ts R C F ↑E e6)=.nx (wE c ts R' C' F ↑E Ε):=by
 have hk5:k<↑c:=by rw[h.len];omega
 obtain⟨n,hn⟩:=xD c (3+(k:Int));have SI:∀R C e,QU (hide (wE c ts R C F ↑E e))=.ok (a_,.str (ts.getD k "")):=λR C e=>v2 rfl rfl (by rw[bV,getD_some (d:=("":Str)) hk5];rfl);have nt:=ft h.nodup hk5;have hnr:ts.getD k ""∉R.map qG.z:=λz=>nt (o.sub _ (A4 _ z));have hnc:ts.getD k ""∉C.map qH.z:=λz=>nt (o.sub _ (sy _ z));have step:ID (wE c ts R C F ↑E e6)=jU (wT 2) (uj 2 QU (Vy kq)) (jU (wT 4) (uj 3 QU (Vy kx)) zD) (wE c ts R C F ↑E (b_ ↑T)):=by unfold ID;rw[zi (a:=zF 6 (JG 0 (m2 zT ↑R (mV 5)))) (zr (env:=wE c ts R C F ↑E e6) (vF (vC rfl (vC (v2 rfl rfl rfl) rfl)) hn))];rfl
 have t2:xz (wT 2) (wE c ts R C F ↑E (b_ ↑T))=.ok (decide (n%5<2)):=Gf (k:=2) rfl;have t4:xz (wT 4) (wE c ts R C F ↑E (b_ ↑T))=.ok (decide (n%5<4)):=Gf (k:=4) rfl;by_cases g2:n%5<2
 ·rw[decide_eq_true g2]at t2;obtain⟨md,Q,hr,he⟩:=VI h (i:=k) ↑p (n:Int);refine⟨R++[⟨ts.getD k "",md,Q⟩],C,b_ ↑T,⟨λr hm=>?_,o.chos,λz hz=>?_,?_⟩,by rw[sj,AG];omega,?_⟩
  ·rcases sS.mp hm with q|q;·exact o.recs r q
   ·rw[sC.mp q];exact hr
  ·rw[sL,B_,sS,sS]at hz;rcases hz with q|q|q;·exact nN (o.sub z (A4 _ q))
   ·rw[sC.mp q];exact oy hk5
   ·exact nN (o.sub z (sy _ q))
  ·rw[sL,B_,Af];have q:=Af.mp o.nodup;refine⟨q.1,?_,λa ha b hb=>?_⟩;·refine D'.mpr ⟨hnc,q.2.1⟩
   ·rcases sB.mp hb with rfl|hb;·exactλe=>hnr (by rw[e]at ha;exact ha)
    ·exact q.2.2 a ha b hb
  ·rw[step,k6 t2];refine(iq (mv:=Vy kq) (y:=ts.getD k "") (r:=(a_,qG.v ⟨ts.getD k "",md,Q⟩)) (pI (vF (vC rfl ↑z) he)) rfl (SI R C _) (λz=>?_) ?_).trans ?_;·obtain⟨r,hr,e⟩:=sH.mp z;exact hnr (sH.mpr ⟨r,hr,BS e⟩)
   ·unfold GM;rw[j'];omega
   ·unfold wE GM;rw[sL,sL];rfl
 ·rw[decide_eq_false g2]at t2;by_cases g4:n%5<4
  ·rw[decide_eq_true g4]at t4;obtain⟨md,sh,Q,hr,he⟩:=VJ h (i:=k) ↑p (n:Int);refine⟨R,C++[⟨ts.getD k "",md,sh,Q⟩],b_ ↑T,⟨o.recs,λr hm=>?_,λz hz=>?_,?_⟩,by rw[sj,AG];omega,?_⟩
   ·rcases sS.mp hm with q|q;·exact o.chos r q
    ·rw[sC.mp q];exact hr
   ·rw[sL,<-B_,sS]at hz;rcases hz with q|q;·exact nN (o.sub z q)
    ·rw[sC.mp q];exact oy hk5
   ·rw[sL,<-B_,Af];refine⟨o.nodup,by simp,λa ha b hb=>?_⟩;rw[sC.mp hb];exactλe=>nt (o.sub _ (by rw[e]at ha;exact ha))
   ·rw[step,Ws t2,k6 t4];refine(iq (mv:=Vy kx) (y:=ts.getD k "") (r:=(a_,qH.v ⟨ts.getD k "",md,sh,Q⟩)) (pI (vF (vC rfl ↑z) he)) rfl (SI R C _) (λz=>?_) ?_).trans ?_;·obtain⟨r,hr,e⟩:=sH.mp z;exact hnc (sH.mpr ⟨r,hr,BS e⟩)
    ·unfold GN;rw[j'];omega
    ·unfold wE GN;rw[sL,sL];rfl
  ·rw[decide_eq_false g4]at t4;refine⟨R,C,b_ ↑T,⟨o.recs,o.chos,λz hz=>nN (o.sub z hz),o.nodup⟩,by omega,?_⟩;rw[step,Ws t2,Ws t4];rfl
theorem ae(h:qg ts)(c:Int)(F:List uy):∀(m k:Nat)(R:List qG)(C:List qH)(e5 e6:Option RV),k+m<=4->ji ts k R C->R.length+C.length<=k->∃R' C' T_ Ε,ji ts (k+m) R' C'/\R'.length+C'.length<=k+m/\jv (gN 5) ID ((Ov k m).map λ(i:Nat)=>T.int (i:Int)) (wE c ts R C F e5 e6)=.nx (wE c ts R' C' F T_ Ε)|0,k,R,C,e5,e6,_,o,hl=>⟨R,C,e5,e6,o,hl,rfl⟩|m+1,k,R,C,e5,e6,hk,o,hl=>by obtain⟨R1,C1,f6,o1,l1,ht⟩:=Xw h c k ↑p R C F o hl e6;obtain⟨R2,C2,g5,g6,o2,l2,ih⟩:=ae h c F m (k+1) R1 C1 ↑E f6 ↑p o1 l1;refine⟨R2,C2,g5,g6,by rw[show k+(m+1)=k+1+m by omega];exact o2,by omega,?_⟩;rw[O5,sG,jX (e1:=wE c ts R C F ↑E e6) (e2:=wE c ts R1 C1 F ↑E f6) rfl ht];exact ih
def GP:List Str:=["ask","give","take"]
def oz:GP.Nodup:=by decide+kernel
structure oA(ts:List Str)(k:Nat)(F:List uy):Prop where
 names:F.map uy.z=GP.take k
 all:∀r∈F,Y0 ts r.pl r.ps r.kd r.fs
theorem Y3(h:qg ts)(c:Int)(R:List qG)(C:List qH):∀(m k:Nat)(F:List uy)(e5 e6:Option RV),k+m<=3->oA ts k F->∃F' T_,oA ts (k+m) F'/\jv (gN 5) DW ((Ov k m).map λ(i:Nat)=>T.int (i:Int)) (wE c ts R C F e5 e6)=.nx (wE c ts R C F' T_ e6)
 |0,k,F,e5,e6,_,o=>⟨F,e5,o,rfl⟩|m+1,k,F,e5,e6,hk,o=>by
  have hk3:k<3:=by omega
  obtain⟨y,hy⟩:=xD c (8+(k:Int));obtain⟨pl,ps,kd,fs,of,hf⟩:=Y2 h (y:Int);obtain⟨F2,g5,o2,ih⟩:=Y3 h c R C m (k+1) (F++[⟨GP.getD k "",pl,ps,kd,fs⟩]) ↑E e6 ↑p ⟨by rw[sL,o.names];exact pJ hk3,λr hr=>by
   rcases sS.mp hr with q|q;·exact o.all r q
   ·rw[sC.mp q];exact of⟩;refine⟨F2,g5,by rw[show k+(m+1)=k+1+m by omega];exact o2,?_⟩;have ln:F.length=k:=by have:=congrArg M' o.names;rw[j',BB]at this;have:GP.length=3:=rfl;omega
  rw[O5,sG,jX (e1:=wE c ts R C F ↑E e6) (e2:=wE c ts R C (F++[⟨GP.getD k "",pl,ps,kd,fs⟩]) ↑E e6) rfl];·exact ih
  ·refine(iq (mv:=zk kB (z9 ↑V (z9 (JG 0 (m2 zT (mC (.int 8)) (mV 5))) zh))) (y:=GP.getD k "") (r:=(a_,uy.v ⟨GP.getD k "",pl,ps,kd,fs⟩)) (pI (vF (vC rfl (vC (vF (vC rfl (vC (v2 rfl rfl rfl) rfl)) hy) rfl)) hf)) rfl (Zi hk3 rfl) (λz=>?_) ?_).trans ?_;·obtain⟨r,hr,e⟩:=sH.mp z;refine ft oz hk3 ?_;rw[<-o.names,<-BS e];exact Aq hr
   ·unfold GO;rw[j'];omega
   ·unfold wE GO;rw[sL,sL];rfl
def Eh(h:mb env=.nx e)(g:e[i]?=b_ (b_ (b,t))):HR i mb env=.nx (e.set i (b_ (a_,t))):=by unfold HR;rw[h];dsimp only;rw[g]
def qI(ts:List Str)(R:List qG)(C:List qH)(F:List uy):T:=.tup [.lst (sT ts),.dct (GM R) (R.map qG.v),.dct (GN C) (C.map qH.v),.dct (GO F) (F.map uy.v)]
def Gg(c:Int):∃ts R C F m,qg ts/\ji ts 4 R C/\R.length+C.length<=4/\m<=3/\oA ts m F/\u8 [(a_,.int c)]=.ok (a_,qI ts R C F):=by
 obtain⟨ts,h,ht⟩:=VG c;obtain⟨n,hn⟩:=xD c 7;obtain⟨R,C,e5,e6,o,hl,hL⟩:=ae h c [] 4 0 [] [] f_ f_ ↑p ⟨λr hr=>(by cases hr),λr hr=>(by cases hr),λz hz=>(by cases hz),Rw⟩ (r_ _);have hq:n%4<=3:=by omega
 obtain⟨F,T_,of,hL2⟩:=Y3 h c R C (n%4) 0 [] e5 e6 ↑p ⟨rfl,λr hr=>(by cases hr)⟩;rw[Nat.zero_add]at o hl of;refine⟨ts,R,C,F,n%4,h,o,hl,hq,of,zX (n:=7) (k:=1) (mb:=u7) rfl ?_⟩;unfold u7;show zn _ _ [b_ (a_,.int c),f_,f_,f_,f_,f_,f_]=_;rw[zi (Eh (zr (vF (vC rfl rfl) ht)) rfl)];rw[zi (a:=zF 2 uN) (zr (r:=(e_,.dct [] [])) rfl)];rw[zi (a:=zF 3 uN) (zr (r:=(e_,.dct [] [])) rfl)];rw[zi (a:=zF 4 uN) (zr (r:=(e_,.dct [] [])) rfl)];show zn _ _ (wE c ts [] [] [] f_ f_)=_;rw[zi (a:=kj (gD (z9 (mC (.int 4)) zh)) (gN 5) ID) ((ig (n:=4) (nG rfl) ↑o).trans hL)];rw[zi (a:=kj (gD (z9 (m2 jZ (JG 0 (mC (.int 7))) (mC (.int 4))) zh)) (gN 5) DW) ((ig (n:=n%4) (nG (v2 (vF ↑z hn) rfl (gP n 4 ↑o))) ↑p).trans hL2)];exact qF (vP (vC rfl (vC rfl ↑z)) rfl rfl) rfl
def qG.d(r:qG):D:=.rc r.z r.md (r.Q.map λq=>.tup (.str q.1::q.2))
def qH.d(r:qH):D:=.ch r.z r.md r.sh (r.Q.map λq=>.tup [.str q.1,.str q.2])
def uy.d(r:uy):D:=.fn r.z (r.ps.take r.pl) (r.ps.drop r.pl) r.kd (sT r.fs)
theorem qQ(z:α->Str)(v:α->T):∀l:List α,xS (l.map λr=>Ap (z r)) (l.map v)=l.map λr=>.tup [.str (z r),v r]|[]=>rfl|r::l=>by show T.tup [.str (z r),v r]::xS (l.map λr=>Ap (z r)) (l.map v)=_;rw[qQ z v l];rfl
def pE(W:T)(o1 o2 o3 o4:Option RV)(Sk:List T)(e6 e7 e8:Option RV):En:=[b_ (a_,W),o1,o2,o3,o4,b_ (e_,.lst Sk),e6,e7,e8]
theorem af:∀(Q:List (Str×List T))(e0 e1:Option RV),(∀q∈Q,q.2.length<=3)->xf ↑U j6 (m2 zT (jJ (z9 ↑F zh)) ↑V) [e0,e1] (Q.map λ(q:Str×List T)=>T.tup [.str q.1,.tup q.2])=.ok (Q.map λq=>.tup (.str q.1::q.2))|[],_,_,_=>rfl|q::Q,e0,e1,h=>by have ih:=af Q (b_ (a_,.str q.1)) (b_ (a_,.tup q.2)) λp hp=>h p (k_ _ hp);have ha:zT (.tup [.str q.1]) (.tup q.2)=b_ (a_,.tup (.str q.1::q.2)):=ii (ts:=[.str q.1]) (by have:=h q m_;have:=big;simp;omega);have hm:m2 zT (jJ (z9 ↑F zh)) ↑V [b_ (a_,.str q.1),b_ (a_,.tup q.2)]=.ok (a_,.tup (.str q.1::q.2)):=v2 (vP (ts:=[.str q.1]) (vC rfl rfl) rfl rfl) rfl ha;show(match m2 zT (jJ (z9 ↑F zh)) ↑V [b_ (a_,.str q.1),b_ (a_,.tup q.2)]with|.ok r=>(match xf ↑U j6 (m2 zT (jJ (z9 ↑F zh)) ↑V) [b_ (a_,.str q.1),b_ (a_,.tup q.2)] (Q.map λ(q:Str×List T)=>T.tup [.str q.1,.tup q.2])with|.ok rs=>gd.ok (r.2::rs)|_=>.bad)|_=>.bad)=_;rw[hm,ih];rfl
def LY(h:VH ts md q):q.2.length<=3:=by obtain⟨kd,d,s,e,_⟩:=h;rw[e];exact r_ _
def gM{α:Type}{Q:List (Str×α)}{l:List Str}{n:Nat}(h:Q.map (·.1)=l.take n)(hl:l.length<=3):Q.length<=3:=by have:=congrArg M' h;rw[j',BB]at this;omega
def UC{ts:List Str}{r:qG}(h:JY ts r.z r.md r.Q){env:En}(h6:mV 6 env=.ok (a_,.str r.z))(h7:mV 7 env=.ok (a_,r.v)):DX env=.ok (a_,r.d.t):=by
 have i0:zx r.v (.int 0)=b_ (a_,.bl r.md):=zW _ 0;have i1:zx r.v (.int 1)=b_ (a_,.dct (aR r.Q) (VZ r.Q)):=zW _ 1;have hp:xS (aR r.Q) (VZ r.Q)=r.Q.map λq=>.tup [.str q.1,.tup q.2]:=qQ (λq:Str×List T=>q.1) (λq=>.tup q.2) r.Q;obtain⟨n,hn⟩:=h.names;have hl:=gM hn ↑o;have hc:j9 (fh (m2 zx (mV 7) ↑u)) ↑U j6 (m2 zT (jJ (z9 ↑F zh)) ↑V) 2 [] env=.ok (e_,.lst (r.Q.map λq=>.tup (.str q.1::q.2))):=by
  have hi:fh (m2 zx (mV 7) ↑u) env=.ok (r.Q.map λq=>.tup [.str q.1,.tup q.2]):=by unfold fh;rw[v2 h7 rfl i1];show gd.ok (xS (aR r.Q) (VZ r.Q))=_;rw[hp]
  unfold j9;rw[hi,bind_ok,if_pos (by rw[j'];have:=big;omega)];show(match xf _ j6 _ [f_,f_] _ with|.ok rs=>gd.ok (e_,T.lst rs)|_=>.bad)=_;rw[af r.Q f_ f_ λq hq=>LY (h.flds q hq)]
 exact vP (vC rfl (vC h6 (vC (v2 h7 rfl i0) (vC (vK (vC hc rfl) rfl) rfl)))) rfl rfl
def UD{r:qH}{env:En}(h6:mV 6 env=.ok (a_,.str r.z))(h7:mV 7 env=.ok (a_,r.v)):DY env=.ok (a_,r.d.t):=by
 have i0:zx r.v (.int 0)=b_ (a_,.bl r.md):=zW _ 0;have i1:zx r.v (.int 1)=b_ (a_,.bl r.sh):=zW _ 1;have i2:zx r.v (.int 2)=b_ (a_,.dct (aR r.Q) (LX r.Q)):=zW _ 2;have hp:xS (aR r.Q) (LX r.Q)=r.Q.map λq=>.tup [.str q.1,.str q.2]:=qQ (λq:Str×Str=>q.1) (λq=>.str q.2) r.Q;have ht:Jm (m2 zx (mV 7) ↑H) env=.ok (a_,.tup (r.Q.map λq=>.tup [.str q.1,.str q.2])):=by unfold Jm;rw[v2 h7 rfl i2];show gd.ok (a_,T.tup (xS (aR r.Q) (LX r.Q)))=_;rw[hp]
 exact vP (vC rfl (vC h6 (vC (v2 h7 rfl i0) (vC (v2 h7 rfl i1) (vC ht rfl))))) rfl rfl
def UE{ts:List Str}{r:uy}(h:Y0 ts r.pl r.ps r.kd r.fs){env:En}(h8:mV 8 env=.ok (a_,.str r.z))(h7:mV 7 env=.ok (a_,r.v)):DZ env=.ok (a_,r.d.t):=by
 have i0:zx r.v (.int 0)=b_ (a_,.int (r.pl:Int)):=zW _ 0;have i1:zx r.v (.int 1)=b_ (a_,.lst r.ps):=zW _ 1;have i2:zx r.v (.int 2)=b_ (a_,.str r.kd):=zW _ 2;have i3:zx r.v (.int 3)=b_ (a_,.lst (sT r.fs)):=zW _ 3;have e:r.d.t=.tup [.str "function",.str r.z,.int (r.pl:Int),.tup r.ps,.str r.kd,.tup (sT r.fs)]:=by show T.tup [.str "function",.str r.z,.int ((r.ps.take r.pl).length:Nat),.tup (r.ps.take r.pl++r.ps.drop r.pl),.str r.kd,.tup (sT r.fs)]=_;rw[List.take_append_drop,BB,Nat.min_eq_left h.few]
 rw[e];exact vP (vC rfl (vC h8 (vC (v2 h7 rfl i0) (vC (vK (vC (v2 h7 rfl i1) rfl) rfl) (vC (v2 h7 rfl i2) (vC (vK (vC (v2 h7 rfl i3) rfl) rfl) rfl)))))) rfl rfl
theorem Wt(W:T)(o1 o2 o3 o4:Option RV):∀(R:List qG)(Sk:List T)(e6 e7 e8:Option RV),(∀r∈R,JY ts r.z r.md r.Q)->Sk.length+R.length<900->∃Ε Γ,jv (mO 2 (kb (gN 6) (kb (gN 7) mN))) (nS 5 DX) (R.map λr=>.tup [.str r.z,r.v]) (pE W o1 o2 o3 o4 Sk e6 e7 e8)=.nx (pE W o1 o2 o3 o4 (Sk++R.map λr=>r.d.t) Ε Γ e8)
 |[],Sk,e6,e7,e8,_,_=>⟨e6,e7,by show _=V5.nx (pE W o1 o2 o3 o4 (Sk++[]) e6 e7 e8);rw[Ac];rfl⟩|r::R,Sk,e6,e7,e8,h,hl=>by
  rw[sA]at hl;obtain⟨f6,f7,ih⟩:=Wt W o1 o2 o3 o4 R (Sk++[r.d.t]) (b_ (a_,.str r.z)) (b_ (a_,r.v)) e8 (λq hq=>h q (k_ _ hq)) (by rw[sj,AG];omega);refine⟨f6,f7,?_⟩;rw[sG,jX (e1:=pE W o1 o2 o3 o4 Sk (b_ (a_,.str r.z)) (b_ (a_,r.v)) e8) (e2:=pE W o1 o2 o3 o4 (Sk++[r.d.t]) (b_ (a_,.str r.z)) (b_ (a_,r.v)) e8) rfl,ih,B_];·rfl
  ·exact bU (ts:=Sk) rfl (UC (h r m_) rfl rfl) (by have:=big;omega)
theorem Wu(W:T)(o1 o2 o3 o4:Option RV):∀(R:List qH)(Sk:List T)(e6 e7 e8:Option RV),Sk.length+R.length<900->∃Ε Γ,jv (mO 2 (kb (gN 6) (kb (gN 7) mN))) (nS 5 DY) (R.map λr=>.tup [.str r.z,r.v]) (pE W o1 o2 o3 o4 Sk e6 e7 e8)=.nx (pE W o1 o2 o3 o4 (Sk++R.map λr=>r.d.t) Ε Γ e8)
 |[],Sk,e6,e7,e8,_=>⟨e6,e7,by show _=V5.nx (pE W o1 o2 o3 o4 (Sk++[]) e6 e7 e8);rw[Ac];rfl⟩|r::R,Sk,e6,e7,e8,hl=>by
  rw[sA]at hl;obtain⟨f6,f7,ih⟩:=Wu W o1 o2 o3 o4 R (Sk++[r.d.t]) (b_ (a_,.str r.z)) (b_ (a_,r.v)) e8 (by rw[sj,AG];omega);refine⟨f6,f7,?_⟩;rw[sG,jX (e1:=pE W o1 o2 o3 o4 Sk (b_ (a_,.str r.z)) (b_ (a_,r.v)) e8) (e2:=pE W o1 o2 o3 o4 (Sk++[r.d.t]) (b_ (a_,.str r.z)) (b_ (a_,r.v)) e8) rfl,ih,B_];·rfl
  ·exact bU (ts:=Sk) rfl (UD rfl rfl) (by have:=big;omega)
theorem Wv(W:T)(o1 o2 o3 o4:Option RV):∀(R:List uy)(Sk:List T)(e6 e7 e8:Option RV),(∀r∈R,Y0 ts r.pl r.ps r.kd r.fs)->Sk.length+R.length<900->∃Γ ϩ,jv (mO 2 (kb (gN 8) (kb (gN 7) mN))) (nS 5 DZ) (R.map λr=>.tup [.str r.z,r.v]) (pE W o1 o2 o3 o4 Sk e6 e7 e8)=.nx (pE W o1 o2 o3 o4 (Sk++R.map λr=>r.d.t) e6 Γ ϩ)
 |[],Sk,e6,e7,e8,_,_=>⟨e7,e8,by show _=V5.nx (pE W o1 o2 o3 o4 (Sk++[]) e6 e7 e8);rw[Ac];rfl⟩|r::R,Sk,e6,e7,e8,h,hl=>by
  rw[sA]at hl;obtain⟨f7,f8,ih⟩:=Wv W o1 o2 o3 o4 R (Sk++[r.d.t]) e6 (b_ (a_,r.v)) (b_ (a_,.str r.z)) (λq hq=>h q (k_ _ hq)) (by rw[sj,AG];omega);refine⟨f7,f8,?_⟩;rw[sG,jX (e1:=pE W o1 o2 o3 o4 Sk e6 (b_ (a_,r.v)) (b_ (a_,.str r.z))) (e2:=pE W o1 o2 o3 o4 (Sk++[r.d.t]) e6 (b_ (a_,r.v)) (b_ (a_,.str r.z))) rfl,ih,B_];·rfl
  ·exact bU (ts:=Sk) rfl (UE (h r m_) rfl rfl) (by have:=big;omega)
def Zj(h:m (hide env)=.ok (b,.dct ks ts))(e:xS ks ts=ps)(g:jv tg mb ps env=.nx o):ba m tg mb env=.nx o:=by unfold ba;rw[pI h];show Ng (jv tg mb (xS ks ts) env)=_;rw[e,g];rfl
def Gh(R:List qG)(C:List qH)(F:List uy):List D:=R.map qG.d++C.map qH.d++F.map uy.d
def VM(o:ji ts 4 R C)(hl:R.length+C.length<=4)(of:oA ts m F)(hf:F.length<=3):fY [(a_,qI ts R C F)]=.ok (e_,.lst ((Gh R C F).map D.t)):=by refine zX (n:=9) (k:=1) (mb:=fX) rfl ?_;unfold fX;show zn _ _ [b_ (a_,qI ts R C F),f_,f_,f_,f_,f_,f_,f_,f_]=_;refine(zi (e':=[b_ (a_,qI ts R C F),b_ ↑Z,b_ (a_,.dct (GM R) (R.map qG.v)),b_ (a_,.dct (GN C) (C.map qH.v)),b_ (a_,.dct (GO F) (F.map uy.v)),f_,f_,f_,f_]) rfl).trans ?_;rw[zi (a:=zF 5 (ki zh)) (zr (r:=(e_,.lst [])) (vL (rs:=[]) rfl rfl rfl))];show zn _ _ (pE ↑O (b_ ↑Z) (b_ (a_,.dct (GM R) (R.map qG.v))) (b_ (a_,.dct (GN C) (C.map qH.v))) (b_ (a_,.dct (GO F) (F.map uy.v))) [] f_ f_ f_)=_;obtain⟨a6,a7,h1⟩:=Wt ↑O (b_ ↑Z) (b_ (a_,.dct (GM R) (R.map qG.v))) (b_ (a_,.dct (GN C) (C.map qH.v))) (b_ (a_,.dct (GO F) (F.map uy.v))) R [] f_ f_ f_ o.recs (by simp;omega);refine(zi (Zj rfl (qQ qG.z qG.v R) h1)).trans ?_;obtain⟨b6,b7,h2⟩:=Wu ↑O (b_ ↑Z) (b_ (a_,.dct (GM R) (R.map qG.v))) (b_ (a_,.dct (GN C) (C.map qH.v))) (b_ (a_,.dct (GO F) (F.map uy.v))) C ([]++R.map λr=>r.d.t) a6 a7 f_ (by simp;omega);refine(zi (Zj rfl (qQ qH.z qH.v C) h2)).trans ?_;obtain⟨c7,c8,h3⟩:=Wv ↑O (b_ ↑Z) (b_ (a_,.dct (GM R) (R.map qG.v))) (b_ (a_,.dct (GN C) (C.map qH.v))) (b_ (a_,.dct (GO F) (F.map uy.v))) F (([]++R.map λr=>r.d.t)++C.map λr=>r.d.t) b6 b7 f_ of.all (by simp;omega);refine(zi (Zj rfl (qQ uy.z uy.v F) h3)).trans ?_;show V5.rt _=_;unfold Gh;rw[sL,sL,Aa,Aa,Aa];rfl
theorem iA:∀{ts:List T},(∀t∈ts,(kH t).length<=n)->(strsL ts).length<=n*↑c|[],_=>by simp[strsL]|t::ts,h=>by have h1:=h t m_;have h2:=iA (ts:=ts) λu hu=>h u (k_ _ hu);unfold strsL;rw[sj,sA,Nat.mul_succ];omega
def ag(hR:∀r,R r->strsL r=[])(h:Ze (dB R) ts):(strsL ts).length<=24:=by
 have:=iA (n:=2) (ts:=ts) λt ht=>by obtain⟨y,kd,r,rfl,_,_,hr⟩:=h.2.2 t ht;simp[kH,strsL,hR r hr]
 have:=h.1;omega
def Gi(h:Ze IE ts):(strsL ts).length<=12:=by
 have:=iA (n:=1) (ts:=ts) λt ht=>by obtain⟨y,rfl,_⟩:=h.2.2 t ht;simp[kH]
 have:=h.1;omega
def UF(m:Bool):∀r,RF m r->strsL r=[]:=λr h=>by obtain⟨d,s,rfl,_⟩:=h;rfl
def UG:∀r,RP r->strsL r=[]:=λr h=>by obtain⟨d,rfl⟩:=h;rfl
def UH:∀r,R0 r->strsL r=[]:=λr h=>by rw[show r=[]from h];rfl
def UI:∀{d:D},d.ok->(kH d.t).length<=100|.rc z m ps,h=>by have:=ag (UF m) h.2;simp only[D.t,kH,strsL,sj,sA,E_];omega|.ch z m s ps,h=>by have:=ag UH h.2;simp only[D.t,kH,strsL,sj,sA,E_];omega|.fn z qs ps kd fs,h=>by have:=ag UG h.2.2.1;have:=Gi h.2.2.2;simp only[D.t,kH,strsL,sj,sA,E_];omega
def Gj{ds:List D}(ok:∀d∈ds,d.ok)(hl:ds.length<=13):(strsL (ds.map D.t)).length<j_:=by
 have:=iA (n:=100) (ts:=ds.map D.t) λt ht=>by obtain⟨d,hd,rfl⟩:=sH.mp ht;exact UI (ok d hd)
 rw[j']at this;have h2:2000<j_:=by decide
 omega
def LZ:∀z∈K0++Gc++D4++ac++GP,Ee (jF [(a_,.str z)])=b_ e_:=by decide+kernel
def ah(h:z∈K0++Gc++D4++ac++GP):Nm z:=Xu (LZ z h)
def Y4(h:qg ts)(hz:z∈nV ts):Kd z:=by
 rcases sB.mp hz with rfl|hz;·unfold Kd;kernel_rfl
 ·rcases sB.mp hz with rfl|hz;·unfold Kd;kernel_rfl
  ·exact h.kind z hz
def Gk(h:qg ts)(hz:z∈ts)(hm:md=e_->Nm z):E9 z md:=by
 intro c ma mk hx;obtain⟨b,hn⟩:=h.nam z hz;have ho:b=e_\/md=a_:=by cases md with|false=>exact .inr rfl|true=>have:=hm rfl;unfold Nm at this;rw[hn]at this;cases this;exact .inl rfl
 exact zX (n:=3) (k:=3) (mb:=nr c) rfl (Vz jF (jn c) _ z md (h.told z hz).1.symm (h.told z hz).2.symm (bZ c ma mk z hx (h.kind z hz)) _ hn ho)
def lh{l m:List Str}{n:Nat}(h:l=m.take n)(hm:m.Nodup):l.Nodup:=by rw[h];exact H_ (L' n m) hm
def Ei{ts:List Str}(h:qg ts){r:qG}(hz:r.z∈ts)(o:JY ts r.z r.md r.Q):r.d.ok:=by
 obtain⟨n,hn⟩:=o.names;refine⟨Gk h hz o.made,?_,?_,λt ht=>?_⟩;·rw[j'];have:=gM hn ↑o;omega
 ·rw[Aa];exact lh (show r.Q.map (hI∘λq=>T.tup (.str q.1::q.2))=_ from hn) hX
 ·obtain⟨q,hq,rfl⟩:=sH.mp ht;obtain⟨kd,d,s,e,hk,hr⟩:=o.flds q hq;refine⟨q.1,kd,[.bl d,.bl s],by rw[e],ah ?_,Y4 h hk,d,s,rfl,hr⟩;have:q.1∈K0.take n:=hn▸Aq hq;have:=FE this;simp only[sS];exact .inl (.inl (.inl (.inl this)))
def Ej{ts:List Str}(h:qg ts){r:qH}(hz:r.z∈ts)(o:Gd ts r.z r.md r.Q):r.d.ok:=by
 obtain⟨n,hn⟩:=o.names;refine⟨Gk h hz o.made,?_,?_,λt ht=>?_⟩;·rw[j'];have:=gM hn ↑o;omega
 ·rw[Aa];exact lh (show r.Q.map (hI∘λq=>T.tup [.str q.1,.str q.2])=_ from hn) ef
 ·obtain⟨q,hq,rfl⟩:=sH.mp ht;refine⟨q.1,q.2,[],rfl,ah ?_,Y4 h (o.forms q hq),rfl⟩;have:q.1∈Gc.take n:=hn▸Aq hq;have:=FE this;simp only[sS];exact .inl (.inl (.inl (.inr this)))
def VN:ac.Nodup:=by decide+kernel
def Ek{ts:List Str}(h:qg ts){r:uy}(hz:r.z∈GP)(o:Y0 ts r.pl r.ps r.kd r.fs):r.d.ok:=by
 refine⟨ah (sy _ hz),Y4 h o.back,?_,?_⟩;·rw[List.take_append_drop];refine⟨by have:=o.len;omega,o.nodup,λt ht=>?_⟩;obtain⟨y,kd,b,rfl,hy,hk⟩:=o.parts t ht;refine⟨y,kd,[.bl b],rfl,ah ?_,Y4 h hk,b,rfl⟩;simp only[sS];exact .inl (.inl (.inr hy))
 ·obtain⟨j,e⟩:=o.faults;rw[e];refine⟨?_,?_,λt ht=>?_⟩;·rw[nE,S4];have:ac.length=2:=rfl;omega
  ·unfold sT;rw[Aa,show(hI∘T.str)=id from rfl,List.map_id];exact H_ (List.drop_sublist j _) VN
  ·obtain⟨y,hy,rfl⟩:=sH.mp ht;refine⟨y,rfl,ah ?_⟩;have:=List.mem_of_mem_drop hy;simp only[sS];exact .inl (.inr this)
def Ci{ts:List Str}(h:qg ts){R:List qG}{C:List qH}{F:List uy}{m:Nat}(o:ji ts 4 R C)(of:oA ts m F):∀d∈Gh R C F,d.ok:=by
 intro d hd;rcases sS.mp hd with hd|hd
 ·rcases sS.mp hd with hd|hd;·obtain⟨r,hr,rfl⟩:=sH.mp hd;exact Ei h (FE (o.sub _ (A4 _ (Aq hr)))) (o.recs r hr)
  ·obtain⟨r,hr,rfl⟩:=sH.mp hd;exact Ej h (FE (o.sub _ (sy _ (Aq hr)))) (o.chos r hr)
 ·obtain⟨r,hr,rfl⟩:=sH.mp hd;refine Ek h (FE (i:=m) ?_) (of.all r hr);rw[<-of.names];exact Aq hr
def UJ{ts:List Str}{R:List qG}{C:List qH}{F:List uy}{m:Nat}(o:ji ts 4 R C)(of:oA ts m F):a9 (Gh R C F):=by
 have e:(R.map qG.d++C.map qH.d).map D.z=R.map qG.z++C.map qH.z:=by rw[sL,Aa,Aa];rfl
 have k1:(R.map qG.d++C.map qH.d).Pairwise λd e=>d.z≠e.z:=by have:=o.nodup;rw[<-e]at this;exact Ag.mp this
 have k2:(F.map uy.d).Pairwise λd e=>d.z≠e.z:=by have:(F.map uy.z).Nodup:=lh of.names oz;rw[Ag];exact Ag.mp this
 unfold a9 Gh;rw[List.pairwise_append];have q:∀{d e:D},d.z≠e.z->d.isF=e.isF->d.z≠e.z:=λh _=>h;refine⟨k1.imp q,k2.imp q,λa ha b hb TU=>?_⟩;obtain⟨r,_,rfl⟩:=sH.mp hb;rcases sS.mp ha with ha|ha<;>(obtain⟨q,_,rfl⟩:=sH.mp ha;cases TU)
abbrev fv(t:T):Option RV:=b_ (a_,t)
def vf(h:env[i]?=b_ (b_ (a_,t))):mV i env=.ok (a_,t):=vV h
def vo(h:env[i]?=b_ (b_ (e_,t))):mV i env=.ok (a_,t):=vV h
theorem El{α:Type}{mt:MT}{me:ME}{cs:En}(Z_:hide cs=cs)(f a b g:α->T)(t:α->Bool)(hf:∀x,f x=.tup [a x,b x]):∀(l:List α),(∀x∈l,mt (fv (a x)::fv (b x)::cs)=.ok (t x))->(∀x∈l,t x=e_->∃p,me (fv (a x)::fv (b x)::cs)=.ok (p,g x))->∀o0 o1,xf g2 mt me (o0::o1::cs) (l.map f)=.ok ((l.filter t).map g)
 |[],_,_,_,_=>rfl|x::l,ht,hg,o0,o1=>by
  have ih:=El Z_ f a b g t hf l (λy hy=>ht y (k_ _ hy)) (λy hy=>hg y (k_ _ hy)) (fv (a x)) (fv (b x));have e:hide (fv (a x)::fv (b x)::cs)=fv (a x)::fv (b x)::cs:=by show fv (a x)::fv (b x)::hide cs=_;rw[Z_]
  have un:xf g2 mt me (o0::o1::cs) ((x::l).map f)=(match mt (hide (fv (a x)::fv (b x)::cs))with|.ok e_=>(match me (hide (fv (a x)::fv (b x)::cs))with|.ok r=>(match xf g2 mt me (hide (fv (a x)::fv (b x)::cs)) (l.map f)with|.ok rs=>.ok (r.2::rs)|_=>.bad)|_=>.bad)|.ok a_=>xf g2 mt me (hide (fv (a x)::fv (b x)::cs)) (l.map f)|_=>.bad):=by rw[sG,hf x];rfl
  rw[un,e,ht x m_];cases h:t x with|true=>obtain⟨p,q⟩:=hg x m_ h;dsimp only;rw[q,ih,Ow h];rfl|false=>dsimp only;rw[ih,Ox (by rw[h];decide)]
theorem c1{α:Type}{mt:MT}{me:ME}{cs:En}(f g:α->T)(t:α->Bool):∀(l:List α),(∀x∈l,mt (fv (f x)::cs)=.ok (t x))->(∀x∈l,t x=e_->∃p,me (fv (f x)::cs)=.ok (p,g x))->ql mt me cs (l.map f)=.ok ((l.filter t).map g)|[],_,_=>rfl|x::l,ht,hg=>by have ih:=c1 f g t l (λy hy=>ht y (k_ _ hy)) (λy hy=>hg y (k_ _ hy));rw[sG];unfold ql;rw[ht x m_];cases h:t x with|true=>obtain⟨p,q⟩:=hg x m_ h;dsimp only;rw[q,ih,Ow h];rfl|false=>dsimp only;rw[ih,Ox (by rw[h];decide)]
def lj(l:List α):l.filter (λ_=>e_)=l:=Oe.mpr λ_ _=>rfl
def all_map(p:α->Bool)(l:List α):uv [.lst (l.map λx=>T.bl (p x))]=b_ (a_,.bl (l.all p)):=by
 have h:∀l:List α,allB (l.map λx=>T.bl (p x))=b_ (l.map p):=λl=>by induction l with|nil=>rfl|cons x l ih=>show(allB (l.map λx=>T.bl (p x))).map (p x::·)=_;rw[ih];rfl
 show(allB (l.map λx=>T.bl (p x))).map _=_;rw[h,Fx,List.all_map];rfl
def dQ{it:rp}{mg:MG}{mt:MT}{me:ME}{n:Nat}{sl:List Nat}{env:En}{ts rs:List T}(h:it env=.ok ts)(hl:↑c<=900)(g:xf mg mt me (sO n f_++(gO env sl).map frz1) ts=.ok rs):j9 it mg mt me n sl env=.ok (e_,.lst rs):=by unfold j9;rw[h,bind_ok,if_pos (by have:=big;omega),g]
def pK{it:rp}{mt:MT}{me:ME}{sl:List Nat}{env:En}{ts rs:List T}(h:it env=.ok ts)(hl:↑c<=900)(g:ql mt me (gO env sl) ts=.ok rs):jq it mt me sl env=.ok (e_,.lst rs):=by unfold jq;rw[h,bind_ok,if_pos (by have:=big;omega),g]
def Ww(h:m env=.ok (b,.lst ts)):xA m env=.ok ts:=by unfold xA;rw[h];rfl
def dD(z:Str):T:=.tup [.str "call",.str z,.tup [],.tup [],.tup []]
def sD(z k:Str):D:=.fn z [] [] k []
def Xx:List Str:=["fa","fb","fc","fd","fe","ff","fg"]
def Xy(h:qg ts):gJ [↑Z]=.ok (a_,.tup [.lst (((Xx.zip (nV ts)).map λq=>sD q.1 q.2).map D.t),.lst (Xx.map dD),.lst (sT (nV ts))]):=by
 obtain⟨a,b,d,e,f,rfl⟩:∃a b d e f,ts=[a,b,d,e,f]:=by have:=h.len;match ts,this with|[a,b,d,e,f],_=>exact⟨a,b,d,e,f,rfl⟩
 kernel_rfl
def Cj(h:a env=.ok (p,x))(k:b env=.ok (q,y))(e:f x y=b_ (a_,.bl a_)):qp f g a b c env=.ok (a_,.bl a_):=by unfold qp;rw[h,bind_ok,k,bind_ok,e];rfl
def Ck(h:a env=.ok (p,x))(k:b env=.ok (q,y))(e:f x y=b_ ↑A)(l:c env=.ok (s,z))(d:g y z=b_ r):qp f g a b c env=.ok r:=by unfold qp;rw[h,bind_ok,k,bind_ok,e];show(if e_=e_ then((c env).bind λu=>Yh (g y u.2))else gd.ok (a_,T.bl a_))=_;rw[if_pos rfl,l,bind_ok,d];rfl
def dR(n x:Int):Bool:=decide (0<=x)&&decide (x<n)
def Gm(h:a env=.ok (p,.int 0))(k:b env=.ok (q,.int x))(l:c env=.ok (s,.int y)):qp ax uH a b c env=.ok (a_,.bl (dR y x)):=by
 unfold dR;by_cases h0:0<=x;·rw[decide_eq_true h0,Bool.true_and];exact Ck h k (E4 (decide_eq_true h0)) l (E2 rfl)
 ·rw[decide_eq_false h0,Bool.false_and];exact Cj h k (E4 (decide_eq_false h0))
def Ia(h:m env=.ok (p,.bl x)):jx (fH m) env=.ok (!x):=by unfold jx fH;rw[h];cases x<;>rfl
def iL(xs:List Int):List T:=xs.map T.int
def Gn(i:Int)(y:Str):T:=.tup [.str "get",.int i,.str y]
def aS(w:Str)(i:Int)(y:Str)(j:Int):T:=.tup [.str w,.int i,.str y,.int j]
def Wx(hu:qA [(a_,r)]=.ok (e_,.lst (iL xs)))(hn:qz [(a_,r)]=.ok (e_,.lst []))(hl:↑e<=100)(n:Int):xp [(a_,r),(a_,.int n)]=.ok (a_,.bl (xs.all (dR n))):=by refine zX rfl ?_;have hc:=c1 (mt:=j6) (me:=qp ax uH ↑t ↑F ↑V) (cs:=[fv (.int n)]) T.int (λx=>.bl (dR n x)) (λ_=>e_) xs (λ_ _=>rfl) (λx _ _=>⟨a_,Gm (a:=mC (.int 0)) rfl ↑v ↑v⟩);rw[lj]at hc;have hA:zC uv (z9 (jq (xA (zk qA (z9 ↑F zh))) j6 (qp ax uH ↑t ↑F ↑V) [1]) zh) [fv r,fv (.int n)]=.ok (a_,.bl (xs.all (dR n))):=vK (vC (pK (Ww (vF (vC ↑v rfl) hu)) (by unfold iL;rw[j'];omega) hc) rfl) (all_map _ _);have hT:=zR (env:=[fv r,fv (.int n)]) (Ia hA);unfold lW;cases hb:xs.all (dR n)with|false=>rw[hb]at hT;exact kG hT rfl|true=>rw[hb]at hT;refine(zi (zJ hT)).trans (zV ?_);exact vK (rs:=[(e_,.lst [])]) (vC (pK (Ww (vF (vC ↑v rfl) hn)) ↑o rfl) rfl) rfl
def Gp(i:Int)(y:Str)(n:Int):xp [(a_,Gn i y),(a_,.int n)]=.ok (a_,.bl (dR n i)):=(Wx (xs:=[i]) (by kernel_rfl) (by kernel_rfl) (K_ rfl) n).trans ↑G
def Ib{w:Str}(hw:w="getor"\/w="take")(i:Int)(y:Str)(j n:Int):xp [(a_,aS w i y j),(a_,.int n)]=.ok (a_,.bl (dR n i&&dR n j)):=by rcases hw with rfl|rfl<;>exact(Wx (xs:=[i,j]) (by kernel_rfl) (by kernel_rfl) (K_ rfl) n).trans ↑G
def Ic(z:Str)(n:Int):xp [(a_,dD z),(a_,.int n)]=.ok ↑A:=by kernel_rfl
def nH(ns:List Str):xP [.lst (sT ns)]=b_ (a_,.int (ns.length:Int)):=by show b_ (a_,T.int ((sT ns).length:Int))=_;rw[nE]
def ai(c:CA)(hf:xp [(a_,.tup (.str w::l)),(a_,.int (ks.length:Int))]=.ok (a_,.bl b))(hl:bo w (LA c)=b_ g)(hg:b=e_->g [(a_,f),↑S,(a_,.tup (.str w::l))]=.ok q)(hb:b=a_->q=(a_,.non)):jh c [(a_,f),↑S,(a_,.tup (.str w::l))]=.ok q:=by refine zX (n:=4) (k:=3) (mb:=l8 c) rfl ?_;unfold l8;have hT:xz CI [fv f,fv (.lst (sT ks)),fv (.tup (.str w::l)),f_]=.ok (!b):=zR (Ia (vF (vC ↑v (vC (vK (vC ↑v rfl) (nH ks)) rfl)) hf));cases b with|false=>rw[hb rfl];exact kG hT rfl|true=>refine(zi (zJ hT)).trans ?_;unfold rN;show(match jR (m2 zx (mV 2) ↑t) [fv f,fv (.lst (sT ks)),fv (.tup (.str w::l)),f_]with|_=>_)=_;rw[pI (v2 (y:=.int 0) ↑v rfl (zW (.str w::l) 0))];dsimp only;rw[hl];exact zV (vF (vC ↑v (vC ↑v (vC ↑v rfl))) (hg rfl))
def FO(c:CA)(K:List Key)(U:List T)(K':List Key)(U':List T):T:=.obj c.Face ["told_kinds","told_functions"] [.dct K U,.dct K' U']
section
variable{K K':List Key}{U U':List T}
theorem Ie(c:CA)(h:xY K' U' (.inr z)=b_ t):xB c [(a_,FO c K U K' U'),(a_,.str z)]=.ok (a_,t):=by refine zX rfl (zV ?_);unfold eN;rw[show mP [c.Face] "told_functions" ↑F (hide (kQ 2 [(a_,FO c K U K' U'),(a_,.str z)]))=.ok (a_,.dct K' U')from if_pos m_];show Yh (b_ (a_,(xY K' U' (.inr z)).getD .non))=_;rw[h];rfl
theorem xo(c:CA)(hm:m∉(["told_kinds","told_functions"]:List Str))(h:mo env=.ok (b,FO c K U K' U'))(g:ma env=.ok rs)(k:f ((a_,FO c K U K' U')::rs)=.ok r):kU c.Face m f mo ma env=.ok r:=by unfold kU;rw[h,bind_ok];show(if c.Face=c.Face/\¬m∈(["told_kinds","told_functions"]:List Str)then(ma env).bind λrs=>f ((a_,FO c K U K' U')::rs)else gd.bad)=_;rw[if_pos ⟨rfl,hm⟩,g];exact k
def Em(z k:Str):T:=.tup [.str "function",.str z,.int 0,.tup [],.str k,.tup []]
theorem NE(c:CA)(h:xY K' U' (.inr z)=b_ (Em z k))(h0:env[0]?=b_ (b_ (a_,FO c K U K' U')))(hi:env[i]?=b_ (b_ (a_,dD z))):kU c.Face "function" (xB c) ↑F (z9 (m2 zx (mV i) ↑u) zh) env=.ok (a_,Em z k):=xo c ↑J (vf h0) (vC (v2 (vf hi) rfl (zW _ 1)) rfl) (Ie c h)
theorem UK(c:CA)(h:xY K' U' (.inr z)=b_ (Em z k)):rQ c [(a_,FO c K U K' U'),(a_,dD z)]=.ok (a_,.tup []):=by refine zX rfl ?_;exact(zi (zr (v2 (NE c h rfl rfl) rfl (zW _ 3)))).trans rfl
theorem Ig(c:CA)(h:xY K' U' (.inr z)=b_ (Em z k))(ks:List Str):ni c [(a_,FO c K U K' U'),↑S,(a_,dD z)]=.ok (a_,.str k):=by refine zX rfl ?_;refine(zi (zr (NE c h rfl rfl))).trans ((zi (zJ (zR rfl))).trans ((zi (zr (v2 ↑v rfl (zW _ 4)))).trans ?_));refine(zi (zJ (zR (Ia (x:=e_) (vF (rs:=[(a_,.tup []),(a_,.tup []),↑S]) (vC (v2 ↑v rfl (zW _ 3)) (vC (vF (vC ↑v (vC ↑v rfl)) (UK c h)) (vC ↑v rfl))) rfl))))).trans ?_;exact(zi (zJ (zR rfl))).trans rfl
theorem Xz(c:CA)(h:xY K' U' (.inr z)=b_ (Em z k))(ks:List Str):jh c [(a_,FO c K U K' U'),↑S,(a_,dD z)]=.ok (a_,.str k):=ai c (Ic z _) rfl (λ_=>Ig c h ks) (λh=>nomatch h)
end
def Ih(i j:Int):fG (.int i) (.int j)=b_ (a_,.bl (!decide (i=j))):=by unfold fG;show b_ (a_,T.bl (!(i==j)))=_;rw[show(i==j)=decide (i=j)from rfl]
inductive Go(c:CA)(f:T):List Str->List T->List Str->Prop|nil(ks:List Str):Go c f ks [] ks|cons{ks TR:List Str}{r:T}{k:Str}{rs:List T}(h:jh c [(a_,f),↑S,(a_,r)]=.ok (a_,.str k))(g:Go c f (ks++[k]) rs TR):Go c f ks (r::rs) TR
def Go.snoc(g:Go c f ks rs TR)(h:jh c [(a_,f),(a_,.lst (sT TR)),(a_,r)]=.ok (a_,.str k)):Go c f ks (rs++[r]) (TR++[k]):=by induction g with|nil ks=>exact .cons h (.nil _)|cons h1 _ ih=>exact .cons h1 (ih h)
def kE(f L:T)(ks:List Str)(e3 e4 e5:Option RV):En:=[fv f,fv L,b_ (e_,.lst (sT ks)),e3,e4,e5]
def Gq(c:CA)(f L:T)(h:jh c [(a_,f),↑S,(a_,r)]=.ok (a_,q))(hq:Ye q=e_/\Yf q=e_/\Yg q=e_)(k:Int)(e5:Option RV):zF 5 (CJ c) (kE f L ks (fv (.int k)) (fv r) e5)=.nx (kE f L ks (fv (.int k)) (fv r) (fv q)):=bX (r:=(a_,q)) (vF (vC ↑v (vC (vo rfl) (vC ↑v rfl))) h) (.inl rfl) (gK hq.1 hq.2.1 hq.2.2)
def Eo(c:CA)(f L:T)(h:jh c [(a_,f),↑S,(a_,r)]=.ok (a_,.str b))(hl:ks.length<100)(k:Int)(e5:Option RV):VY c (kE f L ks (fv (.int k)) (fv r) e5)=.nx (kE f L (ks++[b]) (fv (.int k)) (fv r) (fv (.str b))):=by refine(zi (Gq c f L h ⟨rfl,rfl,rfl⟩ k e5)).trans ((zi (zJ (zR (vT (v2 (x:=.str b) (y:=.non) ↑v rfl rfl))))).trans ?_);refine(show nS 2 (mV 5) (kE f L ks (fv (.int k)) (fv r) (fv (.str b)))=_ from bU (ts:=sT ks) (r:=(a_,.str b)) rfl ↑v (by rw[nE];have:=big;omega)).trans ?_;unfold kE sT;rw[sL];rfl
def Ii(c:CA)(f L:T)(h:jh c [(a_,f),↑S,(a_,r)]=.ok (a_,.non))(k:Int)(e5:Option RV):VY c (kE f L ks (fv (.int k)) (fv r) e5)=.exc ⟨c.NoClient,.int k⟩ (kE f L ks (fv (.int k)) (fv r) (fv .non)):=by
 refine(zi (Gq c f L h ⟨rfl,rfl,rfl⟩ k e5)).trans ?_;have hr:jU (jl (m2 dh (mV 5) (mC .non))) (bq c.NoClient (mV 3)) zD (kE f L ks (fv (.int k)) (fv r) (fv .non))=.exc ⟨c.NoClient,.int k⟩ (kE f L ks (fv (.int k)) (fv r) (fv .non)):=by refine(k6 (zR (vT (v2 (x:=.non) (y:=.non) ↑v rfl rfl)))).trans ?_;unfold bq;rw[pI (r:=(a_,.int k)) ↑v]
 unfold zn;rw[hr]
def Wy(c:CA)(f L:T):∀{ks TR:List Str}{rs:List T},Go c f ks rs TR->ks.length+rs.length<100->∀(k:Nat)(e3 e4 e5:Option RV)(tl:List T),∃e3' e4' T_,jv Uq (VY c) (km k (rs++tl)) (kE f L ks e3 e4 e5)=jv Uq (VY c) (km (k+rs.length) tl) (kE f L TR e3' e4' T_):=by intro ks TR rs g;induction g with|nil ks=>exactλ_ k e3 e4 e5 tl=>⟨e3,e4,e5,rfl⟩|@cons ks TR r b rs h g ih=>intro hl k e3 e4 e5 tl;rw[sA]at hl;obtain⟨f3,f4,f5,ih⟩:=ih (by rw[sj,AG];omega) (k+1) (fv (.int (k:Int))) (fv r) (fv (.str b)) tl;refine⟨f3,f4,f5,?_⟩;rw[List.cons_append,km,jX (e1:=kE f L ks (fv (.int (k:Int))) (fv r) e5) rfl (Eo c f L h ↑p k e5),ih,sA,show k+1+rs.length=k+(rs.length+1)from by omega]
def Y5(c:CA)(f:T)(ts:List T)(h:zn (λenv=>jv Uq (VY c) (km 0 ts) env) (pq 2) (kE f (.lst ts) [] f_ f_ f_)=o):qw c (kQ 6 [(a_,f),(a_,.lst ts)])=o:=by
 unfold qw;refine(zi (e':=kE f (.lst ts) [] f_ f_ f_) (zr (r:=(e_,.lst [])) (vL (rs:=[]) rfl rfl rfl))).trans ?_;have he:kj (Jp ↑V) Uq (VY c) (kE f (.lst ts) [] f_ f_ f_)=jv Uq (VY c) (km 0 ts) (kE f (.lst ts) [] f_ f_ f_):=by unfold kj Jp;rw[pI (r:=(a_,.lst ts)) ↑v]
 rw[<-h];unfold zn;rw[he]
def Gr(c:CA)(f:T)(g:Go c f [] rs ks)(hl:rs.length<100):u6 c [(a_,f),(a_,.lst rs)]=.ok (e_,.lst (sT ks)):=by refine zX (n:=6) (k:=2) (mb:=qw c) rfl (Y5 c f _ ?_);obtain⟨e3,e4,e5,h⟩:=Wy c f (.lst rs) g (by simpa using hl) 0 f_ f_ f_ [];rw[Ac]at h;unfold zn;dsimp only;rw[h];rfl
def VO(c:CA)(f:T)(g:Go c f [] rs ks)(hl:rs.length<100)(hn:jh c [(a_,f),↑S,(a_,r)]=.ok (a_,.non)):u6 c [(a_,f),(a_,.lst (rs++[r]))]=.exc ⟨c.NoClient,.int (rs.length:Int)⟩:=by
 have hb:∃env,qw c (kQ 6 [(a_,f),(a_,.lst (rs++[r]))])=.exc ⟨c.NoClient,.int (rs.length:Int)⟩ env:=by
  obtain⟨e3,e4,e5,h⟩:=Wy c f (.lst (rs++[r])) g (by simpa using hl) 0 f_ f_ f_ [r];refine⟨kE f (.lst (rs++[r])) ks (fv (.int (rs.length:Int))) (fv r) (fv .non),Y5 c f _ ?_⟩;unfold zn;dsimp only;rw[h,Nat.zero_add,km];have:jv Uq (VY c) (T.tup [.int (rs.length:Int),r]::km (rs.length+1) []) (kE f (.lst (rs++[r])) ks e3 e4 e5)=.exc ⟨c.NoClient,.int (rs.length:Int)⟩ (kE f (.lst (rs++[r])) ks (fv (.int (rs.length:Int))) (fv r) (fv .non)):=by unfold jv;show(match VY c (kE f (.lst (rs++[r])) ks (fv (.int (rs.length:Int))) (fv r) e5)with|.nx e2=>jv Uq (VY c) (km (rs.length+1) []) e2|.ct e2=>jv Uq (VY c) (km (rs.length+1) []) e2|.bk e2=>.nx e2|o=>o)=_;rw[Ii c f _ hn]
  rw[this]
 obtain⟨env,hb⟩:=hb;show zG 6 2 (qw c) _=_;unfold zG;refine(if_pos rfl).trans ?_;rw[hb];rfl
def Ep{tab:List h_}{nm:Option Nat}{mb mh:MS}{env e:En}(h:mb env=.nx e):bt tab nm mb mh env=.nx e:=by unfold bt;rw[h]
def Er{tab:List h_}{nm:Option Nat}{mb mh:MS}{env e:En}{x:Ex}(h:mb env=.exc x e)(hx:x.C∈tab):bt tab nm mb mh env=Uf nm (mh (bindE nm (.exn x.C x.at_) e)):=by unfold bt;rw[h];exact if_pos hx
def Ij(h:m env=.ok (b,.exn C t)):QJ [C] m env=.ok (a_,t):=by unfold QJ;rw[h,bind_ok];exact if_pos m_
def Zk(h:m env=.ok (b,.exn C t)):Xc [(C,k)] m env=.ok (a_,.bl k):=by unfold Xc;rw[h,bind_ok];dsimp only;rw[show Le C [(C,k)]=b_ k from if_pos rfl]
def Bq(h:m env=.ok rs)(g:f rs=.exc x):zk f m env=.exc x:=by unfold zk;rw[h,bind_ok,g]
def UL(ks:List Str):ZP (e_,.lst (sT ks))=e_/\ZQ (e_,.lst (sT ks))=e_/\ZR (e_,.lst (sT ks))=e_:=LL ks
def Es(c:CA)(f:T){rs:List T}{ks:List Str}(g:Go c f [] rs ks)(hl:rs.length<100):qC c [(a_,f),(e_,.lst rs)]=.ok (a_,.tup [.lst (sT ks),.non,.bl e_]):=by refine zX (n:=6) (k:=2) (mb:=ko c) rfl ?_;unfold ko;refine(zi (zr rfl)).trans ((zi (zr rfl)).trans ((zi (zr rfl)).trans ?_));have q:=UL ks;refine(zi (e':=[fv f,b_ (e_,.lst rs),b_ (e_,.lst (sT ks)),fv .non,fv (.bl e_),f_]) (Ep (bX (vF (vC ↑v (vC (vo rfl) rfl)) (Gr c f g hl)) (.inl rfl) (gK q.1 q.2.1 q.2.2)))).trans ?_;exact qF (vP (vC (vo rfl) (vC ↑v (vC ↑v rfl))) rfl rfl) rfl
def Ik(h:m (hide env)=.bad)(g:m env=.exc x)(hc:L3.clean env (a_,x.at_)=e_):zF i m env=.exc x env:=by unfold zF jR;rw[h];dsimp only;rw[g];dsimp only;rw[if_pos hc]
def Il(c:CA)(f:T)(g:Go c f [] rs ks)(hl:rs.length<100)(hn:jh c [(a_,f),↑S,(a_,r)]=.ok (a_,.non)):qC c [(a_,f),(e_,.lst (rs++[r]))]=.ok (a_,.tup [.non,.int (rs.length:Int),.bl e_]):=by refine zX (n:=6) (k:=2) (mb:=ko c) rfl ?_;unfold ko;refine(zi (zr rfl)).trans ((zi (zr rfl)).trans ((zi (zr rfl)).trans ?_));have hk:=VO c f g hl hn;generalize(T.lst (rs++[r]))=L at hk;have hx:zF 2 (CK c) [fv f,b_ (e_,L),fv .non,fv .non,fv (.bl e_),f_]=.exc ⟨c.NoClient,.int (rs.length:Int)⟩ [fv f,b_ (e_,L),fv .non,fv .non,fv (.bl e_),f_]:=Ik rfl (Bq (vC ↑v (vC (vo rfl) rfl)) hk) (gK rfl rfl rfl);have hv:∀t:T,mV 5 (hide [fv f,b_ (e_,L),fv .non,fv t,fv (.bl e_),fv (.exn c.NoClient (.int (rs.length:Int)))])=.ok (a_,.exn c.NoClient (.int (rs.length:Int))):=λ_=>vf rfl;have hh:CL c.NoClient [fv f,b_ (e_,L),fv .non,fv .non,fv (.bl e_),fv (.exn c.NoClient (.int (rs.length:Int)))]=.nx [fv f,b_ (e_,L),fv .non,fv (.int (rs.length:Int)),fv (.bl e_),fv (.exn c.NoClient (.int (rs.length:Int)))]:=(zi (zr (Ij (hv _)))).trans (zr (r:=↑A) (av (Zk (hv _)) (av (Zk (hv _)) (EX (Zk (hv _))))));refine(zi (e':=[fv f,b_ (e_,L),fv .non,fv (.int (rs.length:Int)),fv (.bl e_),f_]) ((Er hx m_).trans (congrArg (Uf (b_ 5)) hh))).trans ?_;exact zV (vP (vC ↑v (vC ↑v (vC ↑v rfl))) rfl rfl)
def D5(i:Nat)(w:String):MT:=fH (zC uw (z9 (mV i) (z9 (mC (.ty w)) zh)))
def aj(h:(hide env)[i]?=b_ (b_ (a_,t)))(e:uw [t,.ty w]=b_ (a_,.bl b)):xz (D5 i w) env=.ok b:=by refine zR ?_;unfold D5 fH;rw[show zC uw _ _=_ from vK (rs:=[(a_,t),(a_,.ty w)]) (vC (vV h) (vC rfl rfl)) e];rfl
def UM(n:Nat)(s:Str):jr (n+1) [(a_,.str s),(a_,.str s)]=.ok ↑A:=by refine zX (n:=2) (k:=2) (mb:=gn (jr n)) rfl ?_;refine(zi (zJ (zR (vT (v2 rfl rfl rfl))))).trans ((zi (zJ (aj (i:=1) (w:="bool") rfl rfl))).trans ((zi (zJ (aj (i:=1) (w:="int") rfl rfl))).trans (kG (aj (i:=1) (w:="str") rfl rfl) (zV ?_))));exact av (vK ↑z rfl) (v2 rfl rfl ((qf s s).trans (by rw[decide_eq_true rfl])))
def UN(n:Nat)(i:Int):jr (n+1) [(a_,.int i),(a_,.int i)]=.ok ↑A:=by refine zX (n:=2) (k:=2) (mb:=gn (jr n)) rfl ?_;refine(zi (zJ (zR (vT (v2 rfl rfl rfl))))).trans ((zi (zJ (aj (i:=1) (w:="bool") rfl rfl))).trans (kG (aj (i:=1) (w:="int") rfl rfl) (zV ?_)));exact av (vK ↑z rfl) (av (EX (p:=a_) (x:=a_) (vK ↑z rfl)) (v2 rfl rfl ((Zc i i).trans (by rw[decide_eq_true rfl]))))
def UO:∀t∈mL 0 n,∃i:Nat,i<n/\t=.int (i:Int):=by intro t ht;unfold mL at ht;obtain⟨i,hi,rfl⟩:=sH.mp ht;exact⟨i,BT.mp hi,by simp⟩
def UP:xq [(a_,.int 7),(a_,.int 7)]=.ok ↑A:=UN 7 7
def UQ(ks:List Str)(hl:ks.length<100):xq [↑S,(e_,.lst (sT ks))]=.ok ↑A:=by
 show zG 2 2 (gn (jr 7)) [↑S,(e_,.lst (sT ks))]=_;refine zX rfl ?_;have is1:∀{w:String}{b:Bool},uw [.lst (sT ks),.ty w]=b_ (a_,.bl b)->xz (D5 1 w) [fv (.lst (sT ks)),b_ (e_,.lst (sT ks))]=.ok b:=λ{w b}e=>by refine kL rfl ?_;unfold D5 fH;rw[show zC uw _ _=_ from vK (rs:=[↑S,(a_,.ty w)]) (vC (vo rfl) (vC rfl rfl)) e];rfl
 refine(zi (zJ (kL rfl (vT (v2 (vo rfl) rfl rfl))))).trans ((zi (zJ (is1 rfl))).trans ((zi (zJ (is1 rfl))).trans ((zi (zJ (is1 rfl))).trans ((zi (zJ (kL rfl (aP (vT (v2 (vK (vC (vo rfl) (vC rfl rfl)) rfl) (vK (vC ↑v (vC rfl rfl)) rfl) rfl)) (vT (v2 (vK (vC (vo rfl) (vC rfl rfl)) rfl) (vK (vC ↑v (vC rfl rfl)) rfl) rfl)))))).trans ((zi (zJ (kL rfl (vT (v2 (vK (vC ↑v rfl) (nH ks)) (vK (vC (vo rfl) rfl) (nH ks)) ((Ih _ _).trans (by rw[decide_eq_true rfl];rfl))))))).trans (qF ?_ rfl))))));refine vK (rs:=[(e_,.lst (sO (mL 0 ks.length).length (.bl e_)))]) (vC ?_ rfl) (ik _);refine pK (QY (vC (vK (vC (vo rfl) rfl) (nH ks)) rfl) ↑p) (by rw[Uu];omega) (gL _ λx hm=>?_);obtain⟨i,hi,rfl⟩:=UO x hm;have hx:zx (.lst (sT ks)) (.int (i:Int))=b_ (a_,.str ks[i]):=by rw[bV,s_ hi];rfl
 exact⟨a_,vF (vC (v2 ↑v ↑v hx) (vC (v2 (vo rfl) ↑v hx) rfl)) (UM 6 _)⟩
def al(h:mo env=.ok (b,.obj C fs ts))(hm:m∉fs)(ha:ma env=.ok rs):kU C m f mo ma env=f ((a_,.obj C fs ts)::rs):=by unfold kU;rw[h,bind_ok];dsimp only;rw[if_pos ⟨rfl,hm⟩,ha,bind_ok]
def gr(h:mo env=.ok (b,.obj C' fs ts))(hc:C'≠C):kU C m f mo ma env=.bad:=by unfold kU;rw[h,bind_ok];dsimp only;rw[if_neg λz=>hc z.1]
def Gs(h:a env=.ok r):rB a b env=.ok r:=by unfold rB;rw[h]
def oB(h:a env=.bad):rB a b env=b env:=by unfold rB;rw[h]
structure eh(c:CA):Prop where
 bc:c.Bare≠c.Choice
 bk:c.Bare≠c.Kind
 br:c.Bare≠c.Record
 ck:c.Choice≠c.Kind
 cr:c.Choice≠c.Record
 kr:c.Kind≠c.Record
section
variable{c:CA}{m:Str}{fK fB fR fC:MF}{mo:ME}{ma:MA}{env:En}{b:Bool}{fs:List Str}{ts:List T}{rs:List RV}{r:RV}
theorem Et(D:eh c)(h:mo env=.ok (b,.obj c.Bare fs ts))(hm:m∉fs)(ha:ma env=.ok rs)(hf:fB ((a_,.obj c.Bare fs ts)::rs)=.ok r):d4 c.Kind c.Bare c.Record c.Choice m fK fB fR fC mo ma env=.ok r:=Gs (Gs ((oB (gr h D.bk)).trans ((al h hm ha).trans hf)))
theorem Eu(D:eh c)(h:mo env=.ok (b,.obj c.Record fs ts))(hm:m∉fs)(ha:ma env=.ok rs)(hf:fR ((a_,.obj c.Record fs ts)::rs)=.ok r):d4 c.Kind c.Bare c.Record c.Choice m fK fB fR fC mo ma env=.ok r:=Gs ((oB ((oB (gr h D.kr.symm)).trans (gr h D.br.symm))).trans ((al h hm ha).trans hf))
theorem Ev(D:eh c)(h:mo env=.ok (b,.obj c.Choice fs ts))(hm:m∉fs)(ha:ma env=.ok rs)(hf:fC ((a_,.obj c.Choice fs ts)::rs)=.ok r):d4 c.Kind c.Bare c.Record c.Choice m fK fB fR fC mo ma env=.ok r:=(oB ((oB ((oB (gr h D.ck)).trans (gr h D.bc.symm))).trans (gr h D.cr))).trans ((al h hm ha).trans hf)
end
def Ew(C:h_)(z:Str):T:=.obj C ["title"] [.str z]
def VP(c:CA)(z:Str)(made:Bool)(ps:List T):T:=.obj c.Record ["title","made","parts"] [.str z,.bl made,.tup ps]
def VQ(c:CA)(z:Str)(made Te:Bool)(ps:List T):T:=.obj c.Choice ["title","made","closed","parts"] [.str z,.bl made,.bl Te,.tup ps]
def Gu(h:m env=.ok (b,.obj C fs ts))(hc:C∈cs)(hl:Ni f fs ts=b_ t):mP cs f m env=.ok (a_,t):=by unfold mP;rw[h,bind_ok];dsimp only;rw[if_pos hc,hl];rfl
abbrev aT:=Str×Str×List T
def nW(p:aT):T:=.tup (.str p.1::.str p.2.1::p.2.2)
theorem Y6(p:aT):∀Q:List aT,∃R:List aT,cQ (nW p) (qx Q)=qx R/\R.Perm (p::Q)
 |[]=>⟨[p],rfl,O1 _⟩|q::Q=>by
  obtain⟨R,e,h⟩:=Y6 p Q;show∃R,cQ (nW p) (nW q::qx Q)=qx R/\_;rw[cQ];split;·exact⟨q::R,by rw[e];rfl,(h.cons q).trans (List.Perm.swap p q Q)⟩
  ·exact⟨p::q::Q,rfl,O1 _⟩
theorem ll:∀P:List aT,∃R:List aT,qo (qx P)=qx R/\R.Perm P|[]=>⟨[],rfl,O1 _⟩|p::P=>by obtain⟨R,e,h⟩:=ll P;obtain⟨R',e',h'⟩:=Y6 p R;refine⟨R',?_,h'.trans (h.cons p)⟩;show cQ (nW p) (qo (qx P))=_;rw[e,e']
def ja(y:Str):List aT->Option (Str×List T)|[]=>f_|p::r=>if p.1=y then b_ p.2 else ja y r
def Cl(a b:Str)(r:List T):VV (.tup (.str a::.str b::r)) (b_ 1) f_=b_ (a_,.tup (.str b::r)):=by show b_ (a_,T.tup (uu (.str a::.str b::r) (b_ ((1:Nat):Int)) f_))=_;rw[bW];rfl
def gu:MS:=jU (jl (m2 zZ (m2 zx (mV 2) ↑t) ↑V)) (zA (dg (mV 2) (jI ↑u) xh)) zD
def kM:MS:=jU (jl (m2 zZ (m2 zx (mV 2) ↑t) ↑V)) (zA (m2 zx (mV 2) ↑u)) zD
def Wz(h1:tg t env=b_ e1)(h2:mb e1=.rt r):jv tg mb (t::ts) env=.rt r:=by rw[jv,h1];dsimp only;rw[h2]
theorem am(o:T)(y:Str):∀(P:List aT)(e2:Option RV),∃Z',jv (gN 2) gu (qx P) [b_ (a_,o),b_ (a_,.str y),e2]=match ja y P with|some q=>.rt (a_,.tup (.str q.1::q.2))|none=>.nx [b_ (a_,o),b_ (a_,.str y),Z']
 |[],e2=>⟨e2,rfl⟩|p::P,e2=>by
  have i0:=Cd p.1 p.2.1 p.2.2;have c1:=Cl p.1 p.2.1 p.2.2;by_cases h:p.1=y;·subst h;refine⟨f_,?_⟩;rw[ja,if_pos rfl];show jv _ _ (nW p::qx P) _=_;refine Wz (Wl rfl) ?_;unfold nW;simp[gu,jU,xz,hide,ui,jl,m2,mV,mC,i0,qf,zA,jR,dg,jI,xh,c1]
  ·obtain⟨e',ih⟩:=am o y P (b_ (a_,nW p));refine⟨e',?_⟩;rw[ja,if_neg h];show jv _ _ (nW p::qx P) _=_;rw[jX (Wl rfl) (e2:=[b_ (a_,o),b_ (a_,.str y),b_ (a_,nW p)]) (by unfold nW;simp[gu,jU,xz,hide,ui,jl,m2,mV,mC,i0,qf,h,zD])];exact ih
theorem iB(o:T)(y:Str):∀(P:List aT)(e2:Option RV),∃Z',jv (gN 2) kM (qx P) [b_ (a_,o),b_ (a_,.str y),e2]=match ja y P with|some q=>.rt (a_,.str q.1)|none=>.nx [b_ (a_,o),b_ (a_,.str y),Z']
 |[],e2=>⟨e2,rfl⟩|p::P,e2=>by
  have i0:=Cd p.1 p.2.1 p.2.2;have i1:=B1 p.1 p.2.1 p.2.2;by_cases h:p.1=y;·subst h;refine⟨f_,?_⟩;rw[ja,if_pos rfl];show jv _ _ (nW p::qx P) _=_;refine Wz (Wl rfl) ?_;unfold nW;simp[kM,jU,xz,hide,ui,jl,m2,mV,mC,i0,qf,zA,jR,i1]
  ·obtain⟨e',ih⟩:=iB o y P (b_ (a_,nW p));refine⟨e',?_⟩;rw[ja,if_neg h];show jv _ _ (nW p::qx P) _=_;rw[jX (Wl rfl) (e2:=[b_ (a_,o),b_ (a_,.str y),b_ (a_,nW p)]) (by unfold nW;simp[kM,jU,xz,hide,ui,jl,m2,mV,mC,i0,qf,h,zD])];exact ih
def WA(hE:m env=.ok (b,t))(hH:hide env=env)(hi:uO t=b_ ts):YU m env=.ok (ts,env):=by unfold YU jR;rw[hH,hE];dsimp only;rw[hi]
section
variable(c:CA)(z:Str)(made Te:Bool)(P:List aT)(y:Str)
theorem Im:vq c [(a_,VP c z made (qx P)),(a_,.str y)]=.ok (a_,match ja y P with|some q=>.tup (.str q.1::q.2)|none=>.non):=by
 have hb:qc c=zn (kj (YU (mP [c.Record,c.Choice] "parts" ↑F)) (gN 2) gu) (zA (mC .non)):=rfl;refine zX (n:=3) (k:=2) (mb:=qc c) rfl ?_;show qc c [b_ (a_,VP c z made (qx P)),b_ (a_,.str y),f_]=_;rw[hb];obtain⟨e',h⟩:=am (VP c z made (qx P)) y P f_;have hf:kj (YU (mP [c.Record,c.Choice] "parts" ↑F)) (gN 2) gu [b_ (a_,VP c z made (qx P)),b_ (a_,.str y),f_]=jv (gN 2) gu (qx P) [b_ (a_,VP c z made (qx P)),b_ (a_,.str y),f_]:=by unfold kj;rw[WA (Gu (m:=mV 0) (b:=a_) rfl ↑G rfl) rfl rfl]
 cases hl:ja y P with|some q=>rw[hl]at h;exact nC (hf.trans h)|none=>rw[hl]at h;rw[zi (hf.trans h)];rfl
theorem Gv:ka c [(a_,VQ c z made Te (qx P)),(a_,.str y)]=.ok (a_,match ja y P with|some q=>.str q.1|none=>.non):=by
 have hb:k9 c=zn (kj (YU (mP [c.Record,c.Choice] "parts" ↑F)) (gN 2) kM) (zA (mC .non)):=rfl;refine zX (n:=3) (k:=2) (mb:=k9 c) rfl ?_;show k9 c [b_ (a_,VQ c z made Te (qx P)),b_ (a_,.str y),f_]=_;rw[hb];obtain⟨e',h⟩:=iB (VQ c z made Te (qx P)) y P f_;have hf:kj (YU (mP [c.Record,c.Choice] "parts" ↑F)) (gN 2) kM [b_ (a_,VQ c z made Te (qx P)),b_ (a_,.str y),f_]=jv (gN 2) kM (qx P) [b_ (a_,VQ c z made Te (qx P)),b_ (a_,.str y),f_]:=by unfold kj;rw[WA (Gu (m:=mV 0) (b:=a_) rfl ↑G rfl) rfl rfl]
 cases hl:ja y P with|some q=>rw[hl]at h;exact nC (hf.trans h)|none=>rw[hl]at h;rw[zi (hf.trans h)];rfl
end
abbrev KP:=Option (Bool×List aT)
def Zp(o:KP)(y:Str):T:=match o with|some (e_,P)=>(match ja y P with|some q=>.tup (.str q.1::q.2)|none=>.non)|_=>.non
def Y7(o:KP)(y:Str):T:=match o with|some (a_,P)=>(match ja y P with|some q=>.str q.1|none=>.non)|_=>.non
inductive KD(K:List Key)(U:List T)(z:Str):KP->Prop|bare(h:xY K U (.inr z)=f_):KD K U z f_|rc(z':Str)(m:Bool)(P P':List aT)(h:xY K U (.inr z)=b_ (.tup [.str "record",.str z',.bl m,.tup (qx P')]))(hl:∀y,ja y P'=ja y P):KD K U z (b_ (e_,P))|ch(z':Str)(m s:Bool)(P P':List aT)(h:xY K U (.inr z)=b_ (.tup [.str "choice",.str z',.bl m,.bl s,.tup (qx P')]))(hl:∀y,ja y P'=ja y P):KD K U z (b_ (a_,P))
theorem iC:∀{P:List aT},ja y P=b_ q->∃p∈P,p.1=y/\p.2=q
 |[],e=>by cases e|p::P,e=>by
  rw[ja]at e;by_cases hp:p.1=y;·rw[if_pos hp]at e;exact⟨p,m_,hp,sF e⟩
  ·rw[if_neg hp]at e;obtain⟨p',h1,h2⟩:=iC e;exact⟨p',k_ _ h1,h2⟩
section
variable{c:CA}{K K':List Key}{U U':List T}{z:Str}
theorem XA(h:(xY K U (.inr z)).getD .non=t):eN (mP [c.Face] "told_kinds" ↑F) ↑V (hide [fv (FO c K U K' U'),fv (.str z),f_])=.ok (a_,t):=by unfold eN;rw[show mP [c.Face] "told_kinds" ↑F (hide [fv (FO c K U K' U'),fv (.str z),f_])=.ok (a_,.dct K U)from if_pos m_];show Yh (b_ (a_,(xY K U (.inr z)).getD .non))=_;rw[h];rfl
theorem UR(h:xY K U (.inr z)=f_):xm c [(a_,FO c K U K' U'),(a_,.str z)]=.ok (a_,Ew c.Bare z):=by refine zX rfl ?_;refine(zi (zr (XA (by rw[h];try rfl)))).trans (kG (zR rfl) (zV ?_));unfold gh;rw[vC (r:=(a_,.str z)) rfl (rfl:zh _=.ok [])];show(if c.Bare=c.Bare/\_/\_ then _ else _:gd T).bind _=_;rw[if_pos ⟨rfl,rfl,rfl⟩];rfl
theorem Ey(h:xY K U (.inr z)=b_ (.tup [.str "record",.str z',.bl m,.tup ps])):xm c [(a_,FO c K U K' U'),(a_,.str z)]=.ok (a_,VP c z m ps):=by refine zX rfl ?_;refine(zi (zr (XA (by rw[h];try rfl)))).trans ((zi (zJ (zR rfl))).trans (kG (zR (vT (v2 (v2 ↑v rfl (zW _ 0)) rfl rfl))) (zV ?_)));unfold gh;rw[vC (r:=(a_,.str z)) ↑v (vC (v2 ↑v rfl (zW _ 2)) (vC (v2 ↑v rfl (zW _ 3)) (rfl:zh _=.ok [])))];show(if c.Record=c.Record/\_/\_ then _ else _:gd T).bind _=_;rw[if_pos ⟨rfl,rfl,rfl⟩];rfl
theorem Ez(h:xY K U (.inr z)=b_ (.tup [.str "choice",.str z',.bl m,.bl s,.tup ps])):xm c [(a_,FO c K U K' U'),(a_,.str z)]=.ok (a_,VQ c z m s ps):=by refine zX rfl ?_;refine(zi (zr (XA (by rw[h];try rfl)))).trans ((zi (zJ (zR rfl))).trans ((zi (zJ (zR (vT (v2 (v2 ↑v rfl (zW _ 0)) rfl rfl))))).trans (zV ?_)));unfold gh;rw[vC (r:=(a_,.str z)) ↑v (vC (v2 ↑v rfl (zW _ 2)) (vC (v2 ↑v rfl (zW _ 3)) (vC (v2 ↑v rfl (zW _ 4)) (rfl:zh _=.ok []))))];show(if c.Choice=c.Choice/\_/\_ then _ else _:gd T).bind _=_;rw[if_pos ⟨rfl,rfl,rfl⟩];rfl
noncomputable abbrev dF(c:CA)(mo:ME)(ma:MA):ME:=d4 c.Kind c.Bare c.Record c.Choice "field" (jm c) (jm c) (vq c) (jm c) mo ma
noncomputable abbrev dC(c:CA)(mo:ME)(ma:MA):ME:=d4 c.Kind c.Bare c.Record c.Choice "carried" (jO c) (jO c) (jO c) (ka c) mo ma
theorem B2:∀m∈(["field","carried"]:List Str),m∉(["title"]:List Str)/\m∉(["title","made","parts"]:List Str)/\m∉(["title","made","closed","parts"]:List Str):=by decide+kernel
theorem Zl(D:eh c)(h:KD K U z o):∃k,xm c [(a_,FO c K U K' U'),(a_,.str z)]=.ok (a_,k)/\∀{y:Str}{mo:ME}{ma:MA}{env:En}{b:Bool},mo env=.ok (b,k)->ma env=.ok [(a_,.str y)]->dF c mo ma env=.ok (a_,Zp o y)/\dC c mo ma env=.ok (a_,Y7 o y):=by have n1:=B2 "field" ↑G;have n2:=B2 "carried" ↑G;cases h with|bare h=>exact⟨_,UR h,λhm ha=>⟨Et D hm n1.1 ha rfl,Et D hm n2.1 ha rfl⟩⟩|rc z' m P P' h hl=>exact⟨_,Ey h,λ{y}_ _ _ _ hm ha=>⟨Eu D hm n1.2.1 ha (by unfold Zp;dsimp only;rw[<-hl y];exact Im c z m P' y),Eu D hm n2.2.1 ha rfl⟩⟩|ch z' m s P P' h hl=>exact⟨_,Ez h,λ{y}_ _ _ _ hm ha=>⟨Ev D hm n1.2.2 ha rfl,Ev D hm n2.2.2 ha (by unfold Y7;dsimp only;rw[<-hl y];exact Gv c z m s P' y)⟩⟩
def Y8(o:KP)(y:Str):T:=match Zp o y with|.tup [.str k,_,.bl e_]=>.str k|_=>.non
def WB(t:T)(z:Str):T:=match t with|.str k=>if k=z then .str k else .non|_=>.non
def Io(t:T):T:=match t with|.tup (k::_)=>k|_=>.non
theorem Y9{ks:List Str}{n:Nat}{z:Str}(h:ks[n]?=b_ z):zx (.lst (sT ks)) (.int (n:Int))=b_ (a_,.str z):=by rw[bV,h];rfl
theorem US(D:eh c){o:KP}(h:KD K U z o){ks:List Str}{n:Nat}(hn:ks[n]?=b_ z)(y:Str)(hb:∀P,o=b_ (e_,P)->∀p∈P,∃d s,p.2.2=[.bl d,.bl s]):l7 c [(a_,FO c K U K' U'),↑S,(a_,Gn (n:Int) y)]=.ok (a_,Y8 o y):=by
 obtain⟨k,hk,hd⟩:=Zl (c:=c) (K':=K') (U':=U') D h;refine zX rfl ?_;refine(zi (zr (hd (y:=y) (xo c ↑J ↑v (vC (v2 ↑v (v2 ↑v rfl (zW _ 1)) (Y9 hn)) rfl) hk) (vC (v2 ↑v rfl (zW _ 2)) rfl)).1)).trans (zV ?_);have hf:Zp o y=.non\/∃k d s,Zp o y=.tup [.str k,.bl d,.bl s]:=by match o,hb with|none,_=>exact .inl rfl|some (a_,P),_=>exact .inl rfl|some (e_,P),hb=>unfold Zp;dsimp only;cases e:ja y P with|none=>exact .inl rfl|some q=>obtain⟨p,hp,_,rfl⟩:=iC e;obtain⟨d,s,e⟩:=hb P rfl p hp;exact .inr ⟨p.2.1,d,s,by dsimp only;rw[e]⟩
 unfold Y8;rcases hf with e|⟨k,d,s,e⟩;·rw[e];exact QW (Nx rfl)
 ·rw[e];cases s with|false=>exact QW (Wk (x:=e_) (y:=a_) (vT (v2 ↑v rfl rfl)) rfl)|true=>exact(LG (Wk (x:=e_) (y:=e_) (vT (v2 ↑v rfl rfl)) rfl)).trans (v2 ↑v rfl (zW _ 0))
theorem NF(ht:t=.non\/∃k,t=.str k)(x:Str)(h:env[i]?=b_ (b_ (a_,t)))(hm:m env=.ok (a_,.str x)):lF (jl (m2 zZ (mV i) m)) (mV i) (mC .non) env=.ok (a_,WB t x):=by
 rcases ht with rfl|⟨k,rfl⟩;·exact QW (vT (v2 (vf h) hm rfl))
 ·by_cases e:k=x;·rw[show WB (.str k) x=.str k from if_pos e];exact(LG (vT (v2 (vf h) hm ((qf _ _).trans (by rw[decide_eq_true e]))))).trans (vf h)
  ·rw[show WB (.str k) x=.non from if_neg e];exact QW (vT (v2 (vf h) hm ((qf _ _).trans (by rw[decide_eq_false e]))))
theorem NG(o:KP)(y:Str):Io (Zp o y)=.non\/∃k,Io (Zp o y)=.str k:=by
 unfold Zp;split
 ·split;·exact .inr ⟨_,rfl⟩
  ·exact .inl rfl
 ·exact .inl rfl
theorem Gw(o:KP)(y:Str):Y7 o y=.non\/∃k,Y7 o y=.str k:=by
 unfold Y7;split
 ·split;·exact .inr ⟨_,rfl⟩
  ·exact .inl rfl
 ·exact .inl rfl
theorem Ip(D:eh c)(hd:∀{y:Str}{mo:ME}{ma:MA}{env:En}{b:Bool},mo env=.ok (b,k)->ma env=.ok [(a_,.str y)]->dF c mo ma env=.ok (a_,Zp o y)/\dC c mo ma env=.ok (a_,Y7 o y)):pZ c [(a_,k),(a_,.str y)]=.ok (a_,Io (Zp o y)):=by
 refine zX rfl ?_;refine(zi (zr (hd (y:=y) ↑v (vC ↑v rfl)).1)).trans (zV ?_);have hf:Zp o y=.non\/∃k r,Zp o y=.tup (.str k::r):=by
  unfold Zp;split
  ·split;·exact .inr ⟨_,_,rfl⟩
   ·exact .inl rfl
  ·exact .inl rfl
 rcases hf with e|⟨k,r,e⟩;·rw[e];exact LG rfl
 ·rw[e];exact(QW (vT (v2 ↑v rfl rfl))).trans (v2 ↑v rfl (zW _ 0))
theorem VR(D:eh c){o:KP}(h:KD K U z o){ks:List Str}{n n':Nat}{x:Str}(hn:ks[n]?=b_ z)(hx:ks[n']?=b_ x)(y:Str):u5 c [(a_,FO c K U K' U'),↑S,(a_,aS "getor" (n:Int) y (n':Int))]=.ok (a_,WB (Io (Zp o y)) x):=by obtain⟨k,hk,hd⟩:=Zl (c:=c) (K':=K') (U':=U') D h;refine zX rfl ?_;refine(zi (zr (vF (vC (xo c ↑J ↑v (vC (v2 ↑v (v2 ↑v rfl (zW _ 1)) (Y9 hn)) rfl) hk) (vC (v2 ↑v rfl (zW _ 2)) rfl)) (Ip D hd)))).trans (zV ?_);refine NF (NG o y) x ?_ (v2 ↑v (v2 ↑v rfl (zW _ 3)) (Y9 hx));rcases NG o y with e|⟨k,e⟩<;>(rw[e];rfl)
theorem Gx(D:eh c){o:KP}(h:KD K U z o){ks:List Str}{n n':Nat}{x:Str}(hn:ks[n]?=b_ z)(hx:ks[n']?=b_ x)(y:Str):nv c [(a_,FO c K U K' U'),↑S,(a_,aS "take" (n:Int) y (n':Int))]=.ok (a_,WB (Y7 o y) x):=by obtain⟨k,hk,hd⟩:=Zl (c:=c) (K':=K') (U':=U') D h;refine zX rfl ?_;refine(zi (zr (hd (y:=y) (xo c ↑J ↑v (vC (v2 ↑v (v2 ↑v rfl (zW _ 1)) (Y9 hn)) rfl) hk) (vC (v2 ↑v rfl (zW _ 2)) rfl)).2)).trans (zV ?_);refine NF (Gw o y) x ?_ (v2 ↑v (v2 ↑v rfl (zW _ 3)) (Y9 hx));rcases Gw o y with e|⟨k,e⟩<;>(rw[e];rfl)
end
def Ya(r:qG):List aT:=r.Q.map λq=>Wo (.tup (.str q.1::q.2))
def Yb(r:qH):List aT:=r.Q.map λq=>(q.1,q.2,[])
def ke(R:List qG)(C:List qH)(z:Str):KP:=match R.find? λr=>r.z==z with|some r=>b_ (e_,Ya r)|none=>(C.find? λr=>r.z==z).map λr=>(a_,Yb r)
def iD(b:Bool)(p:aT):T:=.tup [.str p.1,.str p.2.1,if b then p.2.2.getD 1 .non else .non]
def K1(o:KP):List T:=match o with|some (b,P)=>P.map (iD b)|none=>[]
theorem nO(zf:α->Str)(v:α->T)(z:Str):∀l:List α,xY (l.map λr=>Ap (zf r)) (l.map v) (.inr z)=(l.find? λr=>zf r==z).map v
 |[]=>rfl|p::l=>by
  show(if(Ap (zf p):Key)=.inr z then b_ (v p)else xY (l.map λr=>Ap (zf r)) (l.map v) (.inr z))=_;by_cases e:zf p=z;·rw[if_pos (congrArg Ap e),List.find?_cons_of_pos (by simpa using e)];rfl
  ·rw[if_neg (λq=>e (BS q)),nO zf v z l,List.find?_cons_of_neg (by simpa using e)]
def UT(h:xY ks us (.inr z)=o):uJ (.str z) (.dct ks us)=b_ (a_,.bl o.isSome):=by rw[<-h];rfl
def EA(h:xY ks us (.inr z)=b_ t):zx (.dct ks us) (.str z)=b_ (a_,t):=by show(xY ks us (.inr z)).map _=_;rw[h];rfl
def Gy(h:m env=.ok (b,.dct ks us))(e:xS ks us=ts):fh m env=.ok ts:=by unfold fh;rw[h,bind_ok];exact congrArg gd.ok e
def ei(o:ji ts 4 R C)(z:Str):xr [(a_,qI ts R C F),(a_,.str z)]=.ok (e_,.lst (K1 (ke R C z))):=by refine zX rfl ?_;have hr:=nO qG.z qG.v z R;have hc:=nO qH.z qH.v z C;have w1:∀{i:Nat}{t:T},[T.lst (sT ts),.dct (GM R) (R.map qG.v),.dct (GN C) (C.map qH.v),.dct (GO F) (F.map uy.v)][i]?=b_ t->m2 zx ↑F (mC (.int (i:Int))) [fv ↑O,fv (.str z)]=.ok (a_,t):=λ{i t}h=>v2 ↑v rfl ((zW _ i).trans (by rw[h];rfl));cases e:R.find? λr=>r.z==z with
 |some r=>
  rw[e]at hr;refine kG (zR (vT (v2 ↑v (w1 (i:=1) rfl) (UT hr)))) (zV ?_);have hm:=AV e;have ho:=o.recs r hm;have hq:=El (mt:=j6) (me:=jJ (z9 ↑F (z9 (m2 zx ↑V ↑t) (z9 (m2 zx ↑V ↑H) zh)))) (cs:=[]) rfl (λq:Str×List T=>.tup [.str q.1,.tup q.2]) (λq=>.str q.1) (λq=>.tup q.2) (λq=>iD e_ (Wo (.tup (.str q.1::q.2)))) (λ_=>e_) (λ_=>rfl) r.Q (λ_ _=>rfl) (λq hq _=>by obtain⟨q1,q2⟩:=q;obtain⟨kd,d,s,e,_⟩:=ho.flds _ hq;change q2=_ at e;subst e;exact⟨a_,vP (vC ↑v (vC (v2 ↑v rfl (zW _ 0)) (vC (v2 ↑v rfl (zW _ 2)) rfl))) rfl rfl⟩) f_ f_;rw[lj]at hq;have hl:r.Q.length<=3:=by obtain⟨n,hn⟩:=ho.names;exact gM hn ↑o
  refine(dQ (Gy (v2 (v2 (w1 (i:=1) rfl) ↑v (EA hr)) rfl (zW _ 1)) (qQ Prod.fst (λq:Str×List T=>T.tup q.2) r.Q)) (by rw[j'];omega) hq).trans ?_;unfold ke K1 Ya;rw[e];dsimp only;rw[Aa]
  rfl|none=>rw[e]at hr;refine(zi (zJ (zR (vT (v2 ↑v (w1 (i:=1) rfl) (UT hr)))))).trans ?_;cases e':C.find? λr=>r.z==z with|some r=>
   rw[e']at hc;refine kG (zR (vT (v2 ↑v (w1 (i:=2) rfl) (UT hc)))) (zV ?_);have ho:=o.chos r (AV e');have hq:=El (mt:=j6) (me:=jJ (z9 ↑F (z9 ↑V (z9 (mC .non) zh)))) (cs:=[]) rfl (λq:Str×Str=>.tup [.str q.1,.str q.2]) (λq=>.str q.1) (λq=>.str q.2) (λq=>iD a_ (q.1,q.2,[])) (λ_=>e_) (λ_=>rfl) r.Q (λ_ _=>rfl) (λq hq _=>⟨a_,vP (vC ↑v (vC ↑v (vC rfl rfl))) rfl rfl⟩) f_ f_;rw[lj]at hq;have hl:r.Q.length<=3:=by obtain⟨n,hn⟩:=ho.names;exact gM hn ↑o
   refine(dQ (Gy (v2 (v2 (w1 (i:=2) rfl) ↑v (EA hc)) rfl (zW _ 2)) (qQ Prod.fst (λq:Str×Str=>T.str q.2) r.Q)) (by rw[j'];omega) hq).trans ?_;unfold ke K1 Yb;rw[e,e'];simp only[Fx,Aa];rfl|none=>rw[e']at hc;refine(zi (zJ (zR (vT (v2 ↑v (w1 (i:=2) rfl) (UT hc)))))).trans ?_;unfold ke K1;rw[e,e'];rfl
structure Cm(o:KP):Prop where
 nd:∀b P,o=b_ (b,P)->(P.map (·.1)).Nodup
 few:∀b P,o=b_ (b,P)->P.length<=3
 two:∀P,o=b_ (e_,P)->∀p∈P,∃d s,p.2.2=[.bl d,.bl s]
def Yc(o:ji ts 4 R C)(z:Str):Cm (ke R C z):=by unfold ke;cases e:R.find? λr=>r.z==z with
 |some r=>
  have ho:=o.recs r (AV e);obtain⟨n,hn⟩:=ho.names;have hu:∀q∈r.Q,∃kd d s,Wo (.tup (.str q.1::q.2))=(q.1,kd,[.bl d,.bl s]):=λq hq=>by obtain⟨kd,d,s,e,_⟩:=ho.flds q hq;exact⟨kd,d,s,by rw[e];rfl⟩
  refine⟨λb P h=>?_,λb P h=>?_,λP h p hp=>?_⟩;·cases h;unfold Ya;rw[Aa,Oa (g:=(·.1)) λq hq=>by obtain⟨_,_,_,e⟩:=hu q hq;show(Wo _).1=_;rw[e],hn];exact H_ (L' _ _) hX
  ·cases h;unfold Ya;rw[j'];exact gM hn ↑o
  ·cases h;obtain⟨q,hq,rfl⟩:=sH.mp hp;obtain⟨kd,d,s,e⟩:=hu q hq;exact⟨d,s,by rw[e]⟩
 |none=>cases e':C.find? λr=>r.z==z with|some r=>
   obtain⟨n,hn⟩:=(o.chos r (AV e')).names;refine⟨λb P h=>?_,λb P h=>?_,λP h p hp=>by cases h⟩;·cases h;unfold Yb;rw[Aa];show(r.Q.map (·.1)).Nodup;rw[hn];exact H_ (L' _ _) ef
   ·cases h;unfold Yb;rw[j'];exact gM hn ↑o|none=>exact⟨λb P h=>(by cases h),λb P h=>(by cases h),λP h p hp=>(by cases h)⟩
theorem nP:∀{P:List aT},(P.map (·.1)).Nodup->P.filter (λp=>decide (p.1=y))=match ja y P with|some q=>[(y,q)]|none=>[]
 |[],_=>rfl|p::P,h=>by
  rw[sG,D']at h;rw[ja];by_cases e:p.1=y;·rw[if_pos e,Ow (by simpa using e)];have:P.filter (λp=>decide (p.1=y))=[]:=I_.mpr λq hq hy=>h.1 (by rw[e,<-of_decide_eq_true hy];exact Aq hq);rw[this];subst e;rfl
  ·rw[if_neg e,Ox (by simpa using e),nP h.2]
def ao(p:P'.Perm P)(h:(P.map (·.1)).Nodup):ja y P'=ja y P:=by have h':(P'.map (·.1)).Nodup:=(p.map _).nodup_iff.mpr h;have e:=(p.filter λq=>decide (q.1=y));rw[nP h,nP h']at e;cases e1:ja y P' with
 |none=>rw[e1]at e;cases e2:ja y P with|none=>rfl|some q=>rw[e2]at e;exact absurd e.length_eq ↑G
 |some q'=>rw[e1]at e;cases e2:ja y P with|none=>rw[e2]at e;exact absurd e.length_eq ↑G|some q=>rw[e2]at e;have:=List.perm_singleton.mp e;injection this with a _;injection a with _ b;rw[b]
section
variable{ts:List Str}{R:List qG}{C:List qH}{F:List uy}{ks:List Str}
theorem Iq{m:ME}{env:En}{p x:Bool}(h:m env=.ok (p,.bl x)):jx (jl m) env=.ok (!x):=by unfold jx;rw[vT h];rfl
theorem Zm{l:List T}{i:Nat}{x:Int}{e3 e4 e5 e6:Option RV}(W:T)(h:l[i]?=b_ (.int x)):EV (i:Int) (fv W::fv (.lst (sT ks))::fv (.tup l)::[e3,e4,e5,e6])=.ok (a_,.bl (dR (ks.length:Int) x)):=Gm rfl (v2 ↑v rfl ((zW _ i).trans (by rw[h];rfl))) (vK (vC ↑v rfl) (nH ks))
theorem WC{l:List T}{x:Int}(W:T)(h:l[1]?=b_ (.int x))(hx:dR (ks.length:Int) x=a_):jP [(a_,W),↑S,(a_,.tup l)]=.ok (a_,.non):=by refine zX rfl ?_;unfold ua;exact kG (zR ((Iq (Zm (ks:=ks) W h)).trans (by rw[hx];rfl))) rfl
theorem Gz(o:ji ts 4 R C){l:List T}{n:Nat}{z y:Str}(h1:l[1]?=b_ (.int (n:Int)))(h2:l[2]?=b_ (.str y))(hn:ks[n]?=b_ z)(e3 e4 e5 e6:Option RV):CV [fv ↑O,fv (.lst (sT ks)),fv (.tup l),e3,e4,e5,e6]=.ok (e_,.lst (match ke R C z with|some (b,P)=>(match ja y P with|some q=>[iD b (y,q)]|none=>[])|none=>[])):=by have ok:=Yc o z;have hi:xA (zk xr (z9 ↑F (z9 (m2 zx ↑V (m2 zx (mV 2) ↑u)) zh))) [fv ↑O,fv (.lst (sT ks)),fv (.tup l),e3,e4,e5,e6]=.ok (K1 (ke R C z)):=Ww (vF (vC ↑v (vC (v2 ↑v (v2 ↑v rfl ((zW _ 1).trans (by rw[h1];rfl))) (Y9 hn)) rfl)) (ei o z));match e:ke R C z,ok,hi with|none,_,hi=>exact pK hi ↑o rfl|some (b,P),ok,hi=>have hc:=c1 (mt:=jl (m2 zZ (m2 zx ↑F ↑t) (m2 zx ↑V ↑H))) (me:=mV 0) (cs:=[fv (.tup l)]) (iD b) (iD b) (λp=>decide (p.1=y)) P (λp _=>vT (v2 (v2 ↑v rfl (zW _ 0)) (v2 ↑v rfl ((zW _ 2).trans (by rw[h2];rfl))) (qf _ _))) (λp _ _=>⟨a_,vf rfl⟩);rw[nP (ok.nd b P rfl)]at hc;refine(pK hi (by unfold K1;dsimp only;rw[j'];have:=ok.few b P rfl;omega) hc).trans ?_;dsimp only;cases ja y P<;>rfl
theorem iE(o:ji ts 4 R C){l:List T}{n:Nat}{z y:Str}(h1:l[1]?=b_ (.int (n:Int)))(h2:l[2]?=b_ (.str y))(hn:ks[n]?=b_ z)(hi:dR (ks.length:Int) (n:Int)=e_)(hz:∀b P q,ke R C z=b_ (b,P)->ja y P=b_ q->False):jP [(a_,qI ts R C F),↑S,(a_,.tup l)]=.ok (a_,.non):=by
 refine zX rfl ?_;unfold ua;have hf:=Gz (F:=F) o h1 h2 hn f_ f_ f_ f_;have e:(match ke R C z with|some (b,P)=>(match ja y P with|some q=>[iD b (y,q)]|none=>[])|none=>[])=([]:List T):=by cases hk:ke R C z with|none=>rfl|some bp=>obtain⟨b,P⟩:=bp;dsimp only;cases hl:ja y P with|none=>rfl|some q=>exact(hz b P q hk hl).elim
 rw[e]at hf;refine(zi (zJ (zR ((Iq (Zm (ks:=ks) _ h1)).trans (by rw[hi];rfl))))).trans ((zi (zr hf)).trans (kG (kL ?_ (E3 (vT (v2 (vo rfl) rfl rfl)))) rfl));rfl
end
def GA(h:m (hide env)=.ok r)(hg:g r.2 env=b_ e):gX m g env=.nx e:=by unfold gX;rw[pI h];dsimp only;rw[hg]
def NI(h:m (hide env)=.bad)(k:m env=.ok r)(c:L3.clean env r=e_)(hg:g r.2 env=b_ e):gX m g env=.nx e:=by unfold gX;rw[ND h k c];dsimp only;rw[hg]
section
variable{ts:List Str}{R:List qG}{C:List qH}{F:List uy}{ks:List Str}
theorem NJ(b:Bool)(p:aT)(h:b=e_->∃d s,p.2.2=[.bl d,.bl s]):(b=a_/\iD b p=.tup [.str p.1,.str p.2.1,.non])\/∃d s,b=e_/\p.2.2=[.bl d,.bl s]/\iD b p=.tup [.str p.1,.str p.2.1,.bl s]:=by cases b with|false=>exact .inl ⟨rfl,rfl⟩|true=>obtain⟨d,s,e⟩:=h rfl;exact .inr ⟨d,s,rfl,e,by unfold iD;rw[e];rfl⟩
theorem ap(o:ji ts 4 R C){l:List T}{w:Str}{n:Nat}{z y:Str}{b:Bool}{P:List aT}{q:Str×List T}{th:T}{tk:Bool}{A:T}(h0:l[0]?=b_ (.str w))(h1:l[1]?=b_ (.int (n:Int)))(h2:l[2]?=b_ (.str y))(hn:ks[n]?=b_ z)(hi:dR (ks.length:Int) (n:Int)=e_)(hk:ke R C z=b_ (b,P))(hq:ja y P=b_ q)(hp:iD b (y,q)=.tup [.str y,.str q.1,th])(ht:dh th .non=b_ (a_,.bl (!b)))(hnl:Ye th=e_/\Yf th=e_/\Yg th=e_)(hw:decide (w="take")=tk)(hA:tk=!b->zn (jU (jl (m2 zZ (m2 zx (mV 2) ↑t) (mC (.str "get")))) C8 zD) EW [fv ↑O,fv (.lst (sT ks)),fv (.tup l),b_ (e_,.lst [iD b (y,q)]),fv (.str y),fv (.str q.1),fv th]=.rt (a_,A))(hB:tk=b->A=.non):jP [(a_,qI ts R C F),↑S,(a_,.tup l)]=.ok (a_,A):=by
 refine zX rfl ?_;unfold ua;have hf:=Gz (F:=F) o h1 h2 hn f_ f_ f_ f_;rw[hk]at hf;dsimp only at hf;rw[hq]at hf;dsimp only at hf;refine(zi (zJ (zR ((Iq (Zm (ks:=ks) _ h1)).trans (by rw[hi];rfl))))).trans ((zi (zr hf)).trans ?_);rw[hp]at hA;rw[hp];have hT:xz CW [fv ↑O,fv (.lst (sT ks)),fv (.tup l),b_ (e_,.lst [.tup [.str y,.str q.1,th]]),f_,f_,f_]=.ok (tk !=!b):=by refine kL rfl (aP (vT (v2 (vo rfl) rfl rfl)) (vT (p:=a_) (v2 (v2 (v2 ↑v rfl ((zW _ 0).trans (by rw[h0];rfl))) rfl (qf _ _)) (v2 (v2 (v2 (vo rfl) rfl (EY _ 0)) rfl (zW _ 2)) rfl ht) ?_)));rw[hw];cases tk<;>cases b<;>rfl
 by_cases e:tk=!b
 ·rw[show(tk !=!b)=a_ by rw[e];cases b<;>rfl]at hT;refine(zi (zJ hT)).trans ((zi (NI (r:=(a_,.tup [.str y,.str q.1,th])) rfl (v2 (vo rfl) rfl (EY _ 0)) (gK ?_ ?_ ?_) rfl)).trans (hA e));·simp[ZP,Ye,noLs,hnl.1]
  ·simp[ZQ,Yf,noDs,hnl.2.1]
  ·simp[ZR,Yg,noOs,hnl.2.2]
 ·have:tk=b:=by cases tk<;>cases b<;>simp_all
  rw[show(tk !=!b)=e_ by rw[this];cases b<;>rfl]at hT;rw[hB this];exact kG hT rfl
theorem dS{n:Nat}{x:Int}(h:dR (n:Int) x=e_):∃k:Nat,x=(k:Int)/\k<n:=by unfold dR at h;rw[y_]at h;have h1:=of_decide_eq_true h.1;have h2:=of_decide_eq_true h.2;exact⟨x.toNat,by omega,by omega⟩
theorem Zn{n:Nat}(h:n<ks.length):∃z,ks[n]?=b_ z:=⟨_,s_ h⟩
variable{c:CA}{K K':List Key}{U U':List T}
theorem EB:decide (("get":Str)="take")=a_:=by decide+kernel
theorem Ir(D:eh c)(o:ji ts 4 R C)(hK:∀z∈ks,KD K U z (ke R C z))(i:Int)(y:Str):∃A,(A=.non\/∃k,A=.str k)/\jP [(a_,qI ts R C F),↑S,(a_,Gn i y)]=.ok (a_,A)/\jh c [(a_,FO c K U K' U'),↑S,(a_,Gn i y)]=.ok (a_,A):=by cases hi:dR (ks.length:Int) i with|false=>exact⟨.non,.inl rfl,WC _ rfl hi,ai c (b:=a_) ((Gp i y _).trans (by rw[hi])) rfl (λh=>nomatch h) λ_=>rfl⟩|true=>
  obtain⟨n,rfl,hn⟩:=dS hi;obtain⟨z,hz⟩:=Zn hn;have hd:=hK z (Av hz);have ok:=Yc o z;refine⟨Y8 (ke R C z) y,?_,?_,ai c (b:=e_) ((Gp (n:Int) y _).trans (by rw[hi])) rfl (λ_=>US D hd hz y ok.two) λh=>nomatch h⟩
  ·unfold Y8;split;·exact .inr ⟨_,rfl⟩
   ·exact .inl rfl
  ·match hk:ke R C z,ok with|none,_=>exact iE o rfl rfl hz hi (λb P q h _=>by rw[hk]at h;cases h)|some (b,P),ok=>cases hl:ja y P with|none=>rw[show Y8 (b_ (b,P)) y=.non by unfold Y8 Zp;cases b<;>(dsimp only;try rw[hl])];exact iE o rfl rfl hz hi (λb' P' q h h'=>by rw[hk]at h;cases h;rw[hl]at h';cases h')|some q=>
     obtain⟨p,hp,e1,rfl⟩:=iC hl;subst e1;rcases NJ b p (λe=>ok.two P (by rw[e]) p hp)with⟨rfl,e⟩|⟨d,s,rfl,e2,e⟩;·exact ap o (w:="get") (tk:=a_) rfl rfl rfl hz hi hk hl e rfl ⟨rfl,rfl,rfl⟩ EB (λh=>by cases h) (λ_=>rfl)
     ·rw[show Y8 (b_ (e_,P)) p.1=(if s then .str p.2.1 else .non)by unfold Y8 Zp;dsimp only;rw[hl];dsimp only;rw[e2];cases s<;>rfl];refine ap o (w:="get") (tk:=a_) rfl rfl rfl hz hi hk hl e rfl ⟨rfl,rfl,rfl⟩ EB (λ_=>?_) (λh=>by cases h);refine nC ((k6 (zR (vT (v2 (v2 ↑v rfl (zW _ 0)) rfl rfl)))).trans ?_);cases s<;>rfl
theorem Cn:∀w:Str,w="getor"\/w="take"->(w="get")=False:=λw h=>by rcases h with rfl|rfl<;>(apply propext;constructor<;>(intro h;revert h;decide+kernel))
theorem Iu{w y k:Str}{n j:Int}{W:T}{e3 e6:Option RV}{A:T}(hw:w="getor"\/w="take")(hA:dR (ks.length:Int) j=e_->∀n':Nat,j=(n':Int)->∀x,ks[n']?=b_ x->A=if k=x then .str k else .non)(hB:dR (ks.length:Int) j=a_->A=.non):zn (jU (jl (m2 zZ (m2 zx (mV 2) ↑t) (mC (.str "get")))) C8 zD) EW [fv W,fv (.lst (sT ks)),fv (aS w n y j),e3,fv (.str y),fv (.str k),e6]=.rt (a_,A):=by refine(zi (zJ (zR (vT (v2 (v2 ↑v rfl (zW _ 0)) rfl ((qf _ _).trans (by rw[decide_eq_false (by rw[Cn w hw];exact id)]))))))).trans ?_;unfold EW;have h3:=Zm (ks:=ks) (l:=[.str w,.int n,.str y,.int j]) (i:=3) (e3:=ui e3) (e4:=fv (.str y)) (e5:=fv (.str k)) (e6:=ui e6) W rfl;cases hi:dR (ks.length:Int) j with|false=>rw[hi]at h3;rw[hB hi];exact(zi (zJ (zR (Nx (vT h3))))).trans rfl|true=>
  rw[hi]at h3;obtain⟨n',rfl,hn⟩:=dS hi;obtain⟨x,hx⟩:=Zn hn;rw[hA hi n' rfl x hx];have h4:xz (gS (jl (EV 3)) (jl (m2 zZ (m2 zx ↑V (m2 zx (mV 2) ↑R)) (mV 5)))) [fv W,fv (.lst (sT ks)),fv (aS w n y (n':Int)),e3,fv (.str y),fv (.str k),e6]=.ok (e_&&decide (x=k)):=zR (Wk (vT h3) (vT (v2 (v2 ↑v (v2 ↑v rfl (zW _ 3)) (Y9 hx)) ↑v (qf _ _))));rw[Bool.true_and]at h4;by_cases e:k=x;·rw[decide_eq_true e.symm]at h4;rw[if_pos e];exact kG h4 rfl
  ·rw[decide_eq_false λh=>e h.symm]at h4;rw[if_neg e];exact(zi (zJ h4)).trans rfl
theorem Br:∀w:Str,w="getor"\/w="take"->decide (w="take")=!decide (w="getor"):=λw h=>by rcases h with rfl|rfl<;>decide+kernel
theorem GB(o:ji ts 4 R C){w z y:Str}{n:Nat}{j:Int}{A:T}(hw:w="getor"\/w="take")(hz:ks[n]?=b_ z)(hi:dR (ks.length:Int) (n:Int)=e_)(h1:∀P q,ke R C z=b_ (decide (w="getor"),P)->ja y P=b_ q->(dR (ks.length:Int) j=e_->∀n':Nat,j=(n':Int)->∀x,ks[n']?=b_ x->A=if q.1=x then .str q.1 else .non)/\(dR (ks.length:Int) j=a_->A=.non))(h2:(∀P q,ke R C z=b_ (decide (w="getor"),P)->ja y P=b_ q->False)->A=.non):jP [(a_,qI ts R C F),↑S,(a_,aS w (n:Int) y j)]=.ok (a_,A):=by have ok:=Yc o z;match hk:ke R C z,ok with|none,_=>rw[h2 λP q h _=>by rw[hk]at h;cases h];exact iE o rfl rfl hz hi (λb P q h _=>by rw[hk]at h;cases h)|some (b,P),ok=>cases hl:ja y P with|none=>rw[h2 λP' q h h'=>by rw[hk]at h;cases h;rw[hl]at h';cases h'];exact iE o rfl rfl hz hi (λb' P' q h h'=>by rw[hk]at h;cases h;rw[hl]at h';cases h')|some q=>
   obtain⟨p,hp,e1,rfl⟩:=iC hl;subst e1;have ht:=Br w hw;have Sj:∀th:T,iD b (p.1,p.2)=.tup [.str p.1,.str p.2.1,th]->dh th .non=b_ (a_,.bl (!b))->(Ye th=e_/\Yf th=e_/\Yg th=e_)->jP [(a_,qI ts R C F),↑S,(a_,aS w (n:Int) p.1 j)]=.ok (a_,A):=λth a1 a2 a3=>by
    refine ap o rfl rfl rfl hz hi hk hl a1 a2 a3 ht (λh=>?_) λh=>?_
    ·have hb:decide (w="getor")=b:=by rw[<-Bool.not_not (decide (w="getor")),h,Bool.not_not]
     obtain⟨g1,g2⟩:=h1 P p.2 (by rw[hb];exact hk) hl;exact Iu hw g1 g2
    ·refine h2 λP' q h' _=>?_;rw[hk]at h';injection h' with h';injection h' with h' _;rw[<-h']at h;cases b<;>cases h
   rcases NJ b p (λe=>ok.two P (by rw[e]) p hp)with⟨rfl,e⟩|⟨d,s,rfl,e2,e⟩;·exact Sj .non e rfl ⟨rfl,rfl,rfl⟩
   ·exact Sj (.bl s) e rfl ⟨rfl,rfl,rfl⟩
theorem Iv(D:eh c)(o:ji ts 4 R C)(hK:∀z∈ks,KD K U z (ke R C z)){w:Str}(hw:w="getor"\/w="take")(i:Int)(y:Str)(j:Int):∃A,(A=.non\/∃k,A=.str k)/\jP [(a_,qI ts R C F),↑S,(a_,aS w i y j)]=.ok (a_,A)/\jh c [(a_,FO c K U K' U'),↑S,(a_,aS w i y j)]=.ok (a_,A):=by
 have hg:∃g,bo w (LA c)=b_ g:=by rcases hw with rfl|rfl<;>exact⟨_,rfl⟩
 obtain⟨g,hg⟩:=hg;have hf:=Ib hw i y j (ks.length:Int);cases hi:dR (ks.length:Int) i with|false=>exact⟨.non,.inl rfl,WC _ rfl hi,ai c (b:=a_) (hf.trans (by rw[hi];rfl)) hg (λh=>nomatch h) λ_=>rfl⟩|true=>obtain⟨n,rfl,hn⟩:=dS hi;obtain⟨z,hz⟩:=Zn hn;rw[hi,Bool.true_and]at hf;cases hj:dR (ks.length:Int) j with|false=>rw[hj]at hf;exact⟨.non,.inl rfl,GB o hw hz hi (λP q _ _=>⟨λh=>(by rw[hj]at h;cases h),λ_=>rfl⟩) λ_=>rfl,ai c hf hg (λh=>nomatch h) λ_=>rfl⟩|true=>
   rw[hj]at hf;obtain⟨n',rfl,Ξ⟩:=dS hj;obtain⟨x,hx⟩:=Zn Ξ;have hd:=hK z (Av hz);have orO:∀t,WB t x=.non\/∃k,WB t x=.str k:=λt=>by
    unfold WB;split
    ·split;·exact .inr ⟨_,rfl⟩
     ·exact .inl rfl
    ·exact .inl rfl
   have V':∀m:Nat,((n':Int)=(m:Int))->∀v,ks[m]?=b_ v->v=x:=λm e v hv=>by
    have:n'=m:=by omega
    subst this;rw[hx]at hv;exact(sF hv).symm
   rcases hw with rfl|rfl
   ·refine⟨WB (Io (Zp (ke R C z) y)) x,orO _,GB o (.inl rfl) hz hi (λP q h1 h2=>⟨λ_ m e v hv=>?_,λh=>by rw[hj]at h;cases h⟩) (λh=>?_),ai c hf rfl (λ_=>VR D hd hz hx y) λh=>nomatch h⟩;·rw[V' m e v hv,h1];show WB (Io (match ja y P with|some q=>_|none=>_)) x=_;rw[h2];rfl
    ·match hk:ke R C z with|none=>rfl|some (a_,P)=>rfl|some (e_,P)=>show WB (Io (match ja y P with|some q=>_|none=>_)) x=_;cases hl:ja y P with|none=>rfl|some q=>exact(h P q hk hl).elim
   ·refine⟨WB (Y7 (ke R C z) y) x,orO _,GB o (.inr rfl) hz hi (λP q h1 h2=>⟨λ_ m e v hv=>?_,λh=>by rw[hj]at h;cases h⟩) (λh=>?_),ai c hf rfl (λ_=>Gx D hd hz hx y) λh=>nomatch h⟩;·rw[V' m e v hv,h1];show WB (match ja y P with|some q=>_|none=>_) x=_;rw[h2];rfl
    ·match hk:ke R C z with|none=>rfl|some (e_,P)=>rfl|some (a_,P)=>show WB (match ja y P with|some q=>_|none=>_) x=_;cases hl:ja y P with|none=>rfl|some q=>exact(h P q hk hl).elim
end
theorem GC:∀(ks:List Str)(k:Nat),km k (sT ks)=(ks.zipIdx k).map λq=>.tup [.int (q.2:Int),.str q.1]|[],_=>rfl|a::ks,k=>by show T.tup [.int (k:Int),.str a]::km (k+1) (sT ks)=_;rw[GC ks (k+1),Sa];rfl
def GD(h:m env=.ok (b,.lst (sT ks))):uU m env=.ok (ks.zipIdx.map λq=>.tup [.int (q.2:Int),.str q.1]):=by unfold uU;rw[h,bind_ok];exact congrArg gd.ok (GC ks 0)
def ej{i:Nat}{env:En}{n a b:Nat}(h:env[i]?=b_ (b_ ↑T))(ha:0<a/\a<1073741824)(hb:0<b):oj i (a:Int) (b:Int) env=.ok (a_,.int ((n/a%b:Nat):Int)):=v2 (v2 (vV h) rfl ((Ed _ ↑p).trans (by rw[Int.natCast_ediv]))) rfl (gP _ b hb)
def Iw(l:List T):zZ (.lst l) (.lst [])=b_ (a_,.bl l.isEmpty):=by cases l<;>rfl
def GE(l:List T):fG (.lst l) (.lst [])=b_ (a_,.bl (!l.isEmpty)):=by cases l<;>rfl
def GF(l:List T):xP [.lst l]=b_ (a_,.int (l.length:Int)):=rfl
def GG{α:Type}{S:List α}(f:α->T)(hS:S.isEmpty=a_)(k:Nat):∃s∈S,zx (.lst (S.map f)) (.int ((k%S.length:Nat):Int))=b_ (a_,f s):=by
 have h0:0<S.length:=by cases S with|nil=>cases hS|cons a l=>simp
 have hi:=OO k h0;refine⟨S[k%S.length],BE hi,?_⟩;rw[EY,sI,s_ hi];rfl
section
variable{ks:List Str}
theorem GH(hl:ks.length<=100)(kd:Str)(n:Nat):∃j:Int,nw [↑S,(a_,.str kd),↑T]=.ok (a_,.int j):=by
 have hc:=El (mt:=jl (m2 zZ ↑V (mV 2))) (me:=mV 0) (cs:=[fv (.str kd)]) rfl (λq:Str×Nat=>.tup [.int (q.2:Int),.str q.1]) (λq=>.int (q.2:Int)) (λq=>.str q.1) (λq=>.int (q.2:Int)) (λq=>decide (q.1=kd)) (λ_=>rfl) ks.zipIdx (λq _=>vT (v2 ↑v ↑v (qf _ _))) (λq _ _=>⟨a_,vf rfl⟩) f_ f_;generalize hS:ks.zipIdx.filter (λq=>decide (q.1=kd))=S at hc;have h3:=dQ (it:=uU ↑F) (n:=2) (sl:=[1]) (env:=[fv (.lst (sT ks)),fv (.str kd),fv (.int (n:Int)),f_]) (GD ↑v) (by rw[j',List.length_zipIdx];omega) hc;have e17:jl (m2 zZ (m2 jZ (mV 2) (mC (.int 17))) ↑t) [fv (.lst (sT ks)),fv (.str kd),fv (.int (n:Int)),f_]=.ok (decide (n%17=0)):=vT (v2 (v2 ↑v rfl (gP n 17 ↑o)) rfl (LW _ 0));have Ϝ:jl (m2 zZ (m2 jZ (mV 2) (mC (.int 17))) ↑t) [fv (.lst (sT ks)),fv (.str kd),fv (.int (n:Int)),b_ (e_,.lst ↑M)]=.ok (decide (n%17=0)):=vT (v2 (v2 ↑v rfl (gP n 17 ↑o)) rfl (LW _ 0));have ϕ:zA (m2 YQ (m2 jZ (m2 gj (mV 2) (mC (.int 17))) (m2 zT (zC xP (z9 ↑F zh)) ↑H)) ↑u) [fv (.lst (sT ks)),fv (.str kd),fv (.int (n:Int)),b_ (e_,.lst ↑M)]=.rt (a_,.int (((n/17%(ks.length+2):Nat):Int)-1)):=zV (v2 (v2 (v2 ↑v rfl (ij n 17 ↑o ↑o)) (v2 (vK (vC ↑v rfl) (nH ks)) rfl rfl) (gP _ (ks.length+2) ↑p)) rfl rfl);by_cases h17:n%17=0;·refine⟨_,zX rfl ((zi (zr h3)).trans (kG (zR (E3 (e17.trans (by rw[decide_eq_true h17])))) ϕ))⟩
 ·rw[decide_eq_false h17]at e17 Ϝ;have hT:xz (qS (jl (m2 zZ (m2 jZ (mV 2) (mC (.int 17))) ↑t)) (jl (m2 zZ (mV 3) (ki zh)))) [fv (.lst (sT ks)),fv (.str kd),fv (.int (n:Int)),b_ (e_,.lst ↑M)]=.ok (S.map λq=>T.int (q.2:Int)).isEmpty:=kL (aP e17 rfl) (aP Ϝ (vT (v2 (vo rfl) (vL rfl rfl rfl) (Iw _))));cases hE:S.isEmpty with|true=>rw[OP,hE]at hT;exact⟨_,zX rfl ((zi (zr h3)).trans (kG hT ϕ))⟩|false=>
   rw[OP,hE]at hT;obtain⟨s,_,hs⟩:=GG (λq:Str×Nat=>T.int (q.2:Int)) hE (n/17);have hs0:0<S.length:=by cases S with|nil=>cases hE|cons a l=>simp
   refine⟨_,zX rfl ((zi (zr h3)).trans ((zi (zJ hT)).trans (qF (v2 (vo rfl) (v2 (v2 ↑v rfl (ij n 17 ↑o ↑o)) (vK (vC (vo rfl) rfl) ((GF _).trans (by rw[j']))) (gP _ S.length hs0)) hs) rfl)))⟩
end
inductive WD:T->Prop|g(i:Int)(y:Str):WD (Gn i y)|t{w:Str}(hw:w="getor"\/w="take")(i:Int)(y:Str)(j:Int):WD (aS w i y j)
section
variable{ts:List Str}{R:List qG}{C:List qH}{F:List uy}{ks:List Str}
def oE(W:T)(ks:List Str)(x:Int)(n:Nat)(S L:List T)(i:Int)(r:List (Option RV)):En:=fv W::fv (.lst (sT ks))::fv (.int x)::fv (.int (n:Int))::b_ (e_,.lst S)::fv (.int i)::b_ (e_,.lst L)::r
theorem UU(hl:ks.length<=100)(W:T)(x i:Int)(n:Nat)(S L:List T){w y kd:Str}{th:T}(hw:w="get"\/w="getor"\/w="take"):∃r,WD r/\C7 ↑P=.rt (a_,r):=by
 unfold C7;by_cases e:w="get";·subst e;exact⟨_,.g i y,kG (zR (vT (v2 ↑v rfl rfl))) (zV (vP (vC rfl (vC ↑v (vC ↑v rfl))) rfl rfl))⟩
 ·have hw':w="getor"\/w="take":=hw.resolve_left e;obtain⟨m,hm⟩:=xD x 31;obtain⟨j,hj⟩:=GH hl kd m;refine⟨_,.t hw' i y j,(zi (zJ (zR (vT (v2 ↑v rfl ((qf _ _).trans (by rw[decide_eq_false e]))))))).trans (zV (vP (vC ↑v (vC ↑v (vC ↑v (vC (vF (vC ↑v (vC ↑v (vC (vF (vC ↑v (vC rfl rfl)) hm) rfl))) hj) rfl)))) rfl rfl))⟩
theorem UV(W:T)(x i:Int)(n:Nat)(S L:List T):∃y':Str,C6 ↑P=.nx (oE W ks x n S L i [fv (.str y'),fv (.str kd),fv th,fv (.str w)]):=by unfold C6;have h1:xz (jl (m2 zZ (oj 3 90000 9) ↑t)) ↑P=.ok (decide (n/90000%9=0)):=zR (vT (v2 (ej (a:=90000) (b:=9) rfl ↑o ↑o) rfl (LW _ 0)));cases e:decide (n/90000%9=0)with|false=>rw[e]at h1;exact⟨y,zJ h1⟩|true=>rw[e]at h1;obtain⟨y',_,hy⟩:=Xv (a:="left") (b:="okay") (c:="rest") (d:="z") (m:=oj 3 810000 4) (env:=hide ↑P) (i:=n/810000) (ej (a:=810000) (b:=4) rfl ↑o ↑o);exact⟨y',(k6 h1).trans (zr hy)⟩
theorem UW(W:T)(x i:Int)(n:Nat)(S L:List T){w y kd:Str}{th:T}(ht:th=.non\/∃s,th=.bl s)(hw:w="get"\/w="getor"\/w="take"):∃w':Str,(w'="get"\/w'="getor"\/w'="take")/\C5 ↑P=.nx (oE W ks x n S L i [fv (.str y),fv (.str kd),fv th,fv (.str w')]):=by unfold C5;have h1:xz (jl (m2 mJ (oj 3 15000 6) ↑t)) ↑P=.ok (decide (0<n/15000%6)):=zR (vT (v2 (ej (a:=15000) (b:=6) rfl ↑o ↑o) rfl (D3 _)));cases e:decide (0<n/15000%6)with|false=>rw[e]at h1;exact⟨w,hw,zJ h1⟩|true=>
  rw[e]at h1;obtain⟨v,hv,hx⟩:=GG (S:=(["get","getor"]:List Str)) T.str rfl (n/5000);have h2:zF 10 (m2 zx (ki (z9 (mC (.str "get")) (z9 (mC (.str "getor")) zh))) (oj 3 5000 2)) ↑P=.nx (oE W ks x n S L i [fv (.str y),fv (.str kd),fv th,fv (.str v)]):=zr (v2 (vL ↑z rfl rfl) (ej (a:=5000) (b:=2) rfl ↑o ↑o) hx);rcases ht with rfl|⟨s,rfl⟩;·exact⟨"take",.inr (.inr rfl),(k6 h1).trans ((zi h2).trans ((k6 (zR (vT (v2 ↑v rfl rfl)))).trans (zr rfl)))⟩
  ·refine⟨v,?_,(k6 h1).trans ((zi h2).trans (zJ (zR (vT (v2 ↑v rfl rfl)))))⟩;simp only[sB,A7,or_false]at hv;exact hv.imp id .inl
theorem UX(o:ji ts 4 R C){S:List (Str×Nat)}(hS:∀q∈S,ks[q.2]?=b_ q.1/\(K1 (ke R C q.1)).isEmpty=a_)(hE:S.isEmpty=a_)(x i:Int)(n:Nat)(L:List T):∃i':Int,∃b P,ke R C (ks.getD i'.toNat "")=b_ (b,P)/\P.isEmpty=a_/\C4 (oE ↑O ks x n ↑M L i [f_,f_,f_,f_])=.nx (oE ↑O ks x n ↑M (P.map (iD b)) i' [f_,f_,f_,f_]):=by
 obtain⟨s,hs,hx⟩:=GG (λq:Str×Nat=>T.int (q.2:Int)) hE (n/72);obtain⟨h1,h2⟩:=hS s hs;have hs0:0<S.length:=by cases S with|nil=>cases hE|cons a l=>simp
 have g5:zF 5 (m2 zx (mV 4) (m2 jZ (m2 gj (mV 3) (mC (.int 72))) (zC xP (z9 (mV 4) zh)))) (oE ↑O ks x n ↑M L i [f_,f_,f_,f_])=.nx (oE ↑O ks x n ↑M L (s.2:Int) [f_,f_,f_,f_]):=bX (v2 (vo rfl) (v2 (v2 ↑v rfl (ij n 72 ↑o ↑o)) (vK (vC (vo rfl) rfl) ((GF _).trans (by rw[j']))) (gP _ S.length hs0)) hx) (.inl rfl) (gK rfl rfl rfl);match hk:ke R C s.1,h2 with
 |none,h2=>cases h2|some (b,P),h2=>
  refine⟨(s.2:Int),b,P,?_,?_,(zi g5).trans ((zr (vF (vC ↑v (vC (v2 ↑v ↑v (Y9 h1)) rfl)) (ei o s.1))).trans ?_)⟩;·rw[FA,AS,h1];exact hk
  ·unfold K1 at h2;rw[OP]at h2;exact h2
  ·rw[hk];rfl
theorem UY(o:ji ts 4 R C)(hl:ks.length<=100)(x:Int):∃r,WD r/\u9 [(a_,qI ts R C F),↑S,(a_,.int x)]=.ok (a_,r):=by
 obtain⟨n,hn⟩:=xD x 30;have hc:=El (mt:=jl (m2 fG (zk xr (z9 (mV 2) (z9 ↑V zh))) (ki zh))) (me:=mV 0) (cs:=[fv ↑O]) rfl (λq:Str×Nat=>.tup [.int (q.2:Int),.str q.1]) (λq=>.int (q.2:Int)) (λq=>.str q.1) (λq=>.int (q.2:Int)) (λq=>!(K1 (ke R C q.1)).isEmpty) (λ_=>rfl) ks.zipIdx (λq _=>vT (v2 (vF (vC ↑v (vC ↑v rfl)) (ei o q.1)) (vL rfl rfl rfl) (GE _))) (λq _ _=>⟨a_,vf rfl⟩) f_ f_;have h4:=dQ (it:=uU ↑V) (n:=2) (sl:=[0]) (env:=[fv ↑O,fv (.lst (sT ks)),fv (.int x),fv (.int (n:Int)),f_,f_,f_,f_,f_,f_,f_]) (GD ↑v) (by rw[j',List.length_zipIdx];omega) hc;have hS:∀q∈ks.zipIdx.filter (λq=>!(K1 (ke R C q.1)).isEmpty),ks[q.2]?=b_ q.1/\(K1 (ke R C q.1)).isEmpty=a_:=λq hq=>by obtain⟨a,b⟩:=OY.mp hq;exact⟨List.mem_zipIdx_iff_getElem?.mp a,by simpa using b⟩
 generalize ks.zipIdx.filter (λq=>!(K1 (ke R C q.1)).isEmpty)=S at h4 hS;have Sj:∃(i':Int)(b:Bool)(P:List aT),(b=e_->∀p∈P,∃d s,p.2.2=[d,.bl s])/\P.isEmpty=a_/\jU C3 C4 zD (oE ↑O ks x n ↑M [iD e_ ("left","num",[.non,.bl e_])] (((n%(ks.length+2):Nat):Int)-1) [f_,f_,f_,f_])=.nx (oE ↑O ks x n ↑M (P.map (iD b)) i' [f_,f_,f_,f_]):=by have hT:xz C3 (oE ↑O ks x n ↑M [iD e_ ("left","num",[.non,.bl e_])] (((n%(ks.length+2):Nat):Int)-1) [f_,f_,f_,f_])=.ok (!(S.map λq=>T.int (q.2:Int)).isEmpty&&decide (0<n/9%8)):=kL rfl (Wk (vT (v2 (vo rfl) (vL rfl rfl rfl) (GE _))) (vT (v2 (ej (a:=9) (b:=8) rfl ↑o ↑o) rfl (D3 _))));rw[OP]at hT;cases hb:(!S.isEmpty&&decide (0<n/9%8))with|false=>rw[hb]at hT;refine⟨_,e_,[("left","num",[.non,.bl e_])],λ_ p hp=>?_,rfl,zJ hT⟩;rw[sC]at hp;subst hp;exact⟨_,_,rfl⟩|true=>rw[hb]at hT;rw[y_]at hb;obtain⟨i',b,P,h1,h2,h3⟩:=UX (F:=F) o hS (by simpa using hb.1) x (((n%(ks.length+2):Nat):Int)-1) n [iD e_ ("left","num",[.non,.bl e_])];refine⟨i',b,P,λe p hp=>?_,h2,(k6 hT).trans h3⟩;obtain⟨d,s,e'⟩:=(Yc o _).two P (by rw[h1,e]) p hp;exact⟨.bl d,s,e'⟩
 obtain⟨i',b,P,hp,hP,Sj⟩:=Sj;obtain⟨p,hm,hx⟩:=GG (iD b) hP (n/700);have hP0:0<P.length:=by cases P with|nil=>cases hP|cons a l=>simp
 have hth:∃th:T,(th=.non\/∃s,th=.bl s)/\iD b p=.tup [.str p.1,.str p.2.1,th]:=by cases b with|false=>exact⟨.non,.inl rfl,rfl⟩|true=>obtain⟨d,s,e⟩:=hp rfl p hm;exact⟨.bl s,.inr ⟨s,rfl⟩,by unfold iD;rw[e];rfl⟩
 obtain⟨th,ht,eth⟩:=hth;have g7:gX CT CU (oE ↑O ks x n ↑M (P.map (iD b)) i' [f_,f_,f_,f_])=.nx (oE ↑O ks x n ↑M (P.map (iD b)) i' [fv (.str p.1),fv (.str p.2.1),fv th,f_]):=by
  refine NI (r:=(a_,iD b p)) rfl (v2 (vo rfl) (v2 (v2 ↑v rfl (ij n 700 ↑o ↑o)) (vK (vC (vo rfl) rfl) ((GF _).trans (by rw[j']))) (gP _ P.length hP0)) hx) ?_ ?_;·rw[eth];rcases ht with rfl|⟨s,rfl⟩<;>exact gK rfl rfl rfl
  ·rw[eth];rfl
 have hw0:∃w0:Str,(w0="get"\/w0="getor"\/w0="take")/\zF 10 (n3 "get" "getor" "take" (oj 3 5000 3)) (oE ↑O ks x n ↑M (P.map (iD b)) i' [fv (.str p.1),fv (.str p.2.1),fv th,f_])=.nx (oE ↑O ks x n ↑M (P.map (iD b)) i' [fv (.str p.1),fv (.str p.2.1),fv th,fv (.str w0)]):=by obtain⟨v,hv,hx⟩:=GG (S:=(["get","getor","take"]:List Str)) T.str rfl (n/5000);refine⟨v,?_,zr (v2 (vL (vC rfl ↑z) rfl rfl) (ej (a:=5000) (b:=3) rfl ↑o ↑o) hx)⟩;simpa using hv
 obtain⟨w0,hw0,g10⟩:=hw0;obtain⟨w1,hw1,gW⟩:=UW (ks:=ks) ↑O x i' n ↑M (P.map (iD b)) (y:=p.1) (kd:=p.2.1) ht hw0;obtain⟨y1,gN⟩:=UV (ks:=ks) ↑O x i' n ↑M (P.map (iD b)) (w:=w1) (y:=p.1) (kd:=p.2.1) (th:=th);obtain⟨r,hr,gE⟩:=UU hl ↑O x i' n ↑M (P.map (iD b)) (y:=y1) (kd:=p.2.1) (th:=th) hw1;refine⟨r,hr,zX rfl ?_⟩;unfold bL;refine(zi (zr (vF (vC ↑v (vC rfl rfl)) hn))).trans ((zi (zr h4)).trans ((zi (zr (v2 (v2 ↑v (v2 (vK (vC ↑v rfl) (nH ks)) rfl rfl) (gP n (ks.length+2) ↑p)) rfl rfl))).trans ((zi (zr (vL (vC (vP (vC rfl ↑z) rfl rfl) rfl) rfl rfl))).trans ?_)));exact(zi Sj).trans ((zi g7).trans ((zi g10).trans ((zi gW).trans ((zi gN).trans gE))))
end
def VS(ts:List Str):List D:=(Xx.zip (nV ts)).map λq=>sD q.1 q.2
def uz(ts:List Str)(R:List qG)(C:List qH):List D:=(R.map qG.d++C.map qH.d)++VS ts
def uf(c:CA)(ds:List D):T:=FO c (Yj ds a_) (Yk ds a_) (Yj ds e_) (Yk ds e_)
section
variable{ts:List Str}{R:List qG}{C:List qH}{F:List uy}
theorem Ix(c:CA)(ok:∀d∈ds,d.ok)(hA:a9 ds)(hl:ds.length<=13)(h:m env=.ok (b,.lst (ds.map D.t))):gh c.Face (jW c) (z9 m zh) env=.ok (a_,uf c ds):=by rw[<-(show gh c.Face (jW c) (z9 ↑F zh) [b_ (e_,.lst (ds.map D.t))]=.ok (a_,uf c ds)from LU c ok hA hl (Gj ok hl) (b:=e_) (i:=0) rfl)];have ha:∀{m:ME}{env:En}{r:RV},m env=.ok r->z9 m zh env=.ok [r]:=λh=>vC h rfl;unfold gh;rw[ha h,ha (show mV 0 [b_ (e_,.lst (ds.map D.t))]=.ok (a_,.lst (ds.map D.t))from vo rfl)];rfl
theorem Co:∀z∈Xx,Nm z:=λz hz=>by simp only[Xx,sB,A7,or_false]at hz;rcases hz with rfl|rfl|rfl|rfl|rfl|rfl|rfl<;>(unfold Nm;kernel_rfl)
theorem GI(hd:d∈VS ts):∃z∈Xx,∃k∈nV ts,d=sD z k:=by obtain⟨q,hq,rfl⟩:=sH.mp hd;have:=OZ hq;exact⟨q.1,this.1,q.2,this.2,rfl⟩
theorem Cp(h:qg ts)(o:ji ts 4 R C):∀d∈uz ts R C,d.ok:=λd hd=>by
 rcases sS.mp hd with hd|hd;·exact Ci (F:=[]) (m:=0) h o ⟨rfl,λ_ z=>nomatch z⟩ d (by unfold Gh;rw[Rg,Ac];exact hd)
 ·obtain⟨z,hz,k,hk,rfl⟩:=GI hd;exact⟨Co z hz,Y4 h hk,⟨by decide,Rw,λ_ z=>nomatch z⟩,⟨by decide,Rw,λ_ z=>nomatch z⟩⟩
theorem Iy:Xx.Nodup:=by decide+kernel
theorem XB:∀{d:D},d∈VS ts->d.isF=e_:=λhd=>by obtain⟨z,_,k,_,rfl⟩:=GI hd;rfl
theorem UZ(h:qg ts)(o:ji ts 4 R C):a9 (uz ts R C):=by
 have h1:=UJ (F:=[]) (m:=0) (ts:=ts) o ⟨rfl,λ_ z=>nomatch z⟩;unfold Gh at h1;rw[Rg,Ac]at h1;unfold a9 uz;rw[List.pairwise_append];refine⟨h1,?_,λa ha b hb TU=>?_⟩
 ·have:((Xx.zip (nV ts)).map Prod.fst).Nodup:=by rw[List.map_fst_zip (by unfold nV;simp[h.len,Xx])];exact Iy
  unfold VS;rw[Ag];have q:∀{a b:Str×Str},a.1≠b.1->(sD a.1 a.2).isF=(sD b.1 b.2).isF->(sD a.1 a.2).z≠(sD b.1 b.2).z:=λh _=>h;exact(Ag.mp this).imp q
 ·rw[XB hb]at TU;rcases sS.mp ha with ha|ha<;>(obtain⟨q,_,rfl⟩:=sH.mp ha;cases TU)
theorem Cq:(R.map qG.d++C.map qH.d).filter (λd=>d.isF==a_)=R.map qG.d++C.map qH.d:=Oe.mpr λa ha=>by rcases sS.mp ha with ha|ha<;>(obtain⟨q,_,rfl⟩:=sH.mp ha;rfl)
theorem Bt:(uz ts R C).filter (λd=>d.isF==a_)=R.map qG.d++C.map qH.d:=by unfold uz;rw[Ry,Cq,I_.mpr λd hd=>by rw[XB hd];decide,Ac]
theorem B3:(uz ts R C).filter (λd=>d.isF==e_)=VS ts:=by
 have h1:(R.map qG.d++C.map qH.d).filter (λd=>d.isF==e_)=[]:=I_.mpr λa ha=>by rcases sS.mp ha with ha|ha<;>(obtain⟨q,_,rfl⟩:=sH.mp ha;exact sM)
 have h2:(VS ts).filter (λd=>d.isF==e_)=VS ts:=Oe.mpr λd hd=>by rw[XB hd];rfl
 unfold uz;rw[Ry,h1,h2,List.nil_append]
theorem EC(o:ji ts 4 R C)(z:Str):KD (Yj (uz ts R C) a_) (Yk (uz ts R C) a_) z (ke R C z):=by
 have hg:=nO D.z (λd=>d.st.t) z (R.map qG.d++C.map qH.d);have Y_:xY (Yj (uz ts R C) a_) (Yk (uz ts R C) a_) (.inr z)=((R.map qG.d++C.map qH.d).find? λd=>d.z==z).map λd=>d.st.t:=by unfold Yj Yk;rw[Bt];exact hg
 clear hg;rw[List.find?_append,List.find?_map,List.find?_map]at Y_;have ok:=Yc o z;unfold ke at ok⊢;have e1:(R.find? ((λd:D=>d.z==z)∘qG.d))=R.find? λr=>r.z==z:=rfl;have e2:(C.find? ((λd:D=>d.z==z)∘qH.d))=C.find? λr=>r.z==z:=rfl;rw[e1,e2]at Y_;cases hR:R.find? λr=>r.z==z with
 |some r=>
  rw[hR]at Y_ ok;have hp:qx (Ya r)=r.Q.map λq=>.tup (.str q.1::q.2):=by unfold Ya qx;rw[Aa];refine Oa λq hq=>?_;obtain⟨kd,d,s,e,_⟩:=(o.recs r (AV hR)).flds q hq;show T.tup (.str (Wo (.tup (.str q.1::q.2))).1::.str (Wo (.tup (.str q.1::q.2))).2.1::(Wo (.tup (.str q.1::q.2))).2.2)=_;rw[e];rfl
  obtain⟨P',e,p⟩:=ll (Ya r);refine .rc r.z r.md (Ya r) P' (Y_.trans ?_) λy=>ao p (ok.nd e_ _ rfl);rw[<-e,hp]
  rfl|none=>rw[hR]at Y_ ok;cases hC:C.find? λr=>r.z==z with|some r=>
   rw[hC]at Y_ ok;have hp:qx (Yb r)=r.Q.map λq=>.tup [.str q.1,.str q.2]:=by unfold Yb qx;rw[Aa];rfl
   obtain⟨P',e,p⟩:=ll (Yb r);refine .ch r.z r.md r.sh (Yb r) P' (Y_.trans ?_) λy=>ao p (ok.nd a_ _ rfl);rw[<-e,hp];rfl|none=>rw[hC]at Y_;exact .bare Y_
theorem Cr(c:CA)(h:qg ts)(K:List Key)(U:List T):Go c (FO c K U (Yj (uz ts R C) e_) (Yk (uz ts R C) e_)) [] (Xx.map dD) (nV ts):=by
 have hK:Yj (uz ts R C) e_=(VS ts).map λd=>Ap d.z:=by unfold Yj;rw[B3]
 have hU:Yk (uz ts R C) e_=(VS ts).map λd=>d.st.t:=by unfold Yk;rw[B3]
 rw[hK,hU];obtain⟨a,b,d,e,f,rfl⟩:∃a b d e f,ts=[a,b,d,e,f]:=by have:=h.len;match ts,this with|[a,b,d,e,f],_=>exact⟨a,b,d,e,f,rfl⟩
 exact .cons (Xz c (by kernel_rfl) []) (.cons (Xz c (by kernel_rfl) _) (.cons (Xz c (by kernel_rfl) _) (.cons (Xz c (by kernel_rfl) _) (.cons (Xz c (by kernel_rfl) _) (.cons (Xz c (by kernel_rfl) _) (.cons (Xz c (by kernel_rfl) _) (.nil _)))))))
end
section
variable{ts:List Str}{R:List qG}{C:List qH}{F:List uy}
def lE(S:T)(W:T)(ts:List Str)(f:T)(r:List (Option RV)):En:=fv S::fv W::fv (.lst ((VS ts).map D.t))::fv (.lst (Xx.map dD))::fv (.lst (sT (nV ts)))::fv f::r
theorem GJ(h:qg ts):(nV ts).length=7:=by unfold nV;rw[sA,sA,h.len]
theorem N1(c:CA)(D:eh c)(h:qg ts)(o:ji ts 4 R C)(S:T)(x:Int)(o7 o8 o9 Tj Tf:Option RV):∃r7 r8 r9 r10 r11,Ca c (lE S ↑O ts (uf c (uz ts R C)) [fv (.int x),o7,o8,o9,Tj,Tf])=.nx (lE S ↑O ts (uf c (uz ts R C)) [fv (.int x),r7,r8,r9,r10,r11]):=by
 obtain⟨r,hr,hv⟩:=UY (F:=F) o (show(nV ts).length<=100 by rw[GJ h];decide) x;have hs:∃A,(A=.non\/∃k,A=.str k)/\jP [(a_,qI ts R C F),(a_,.lst (sT (nV ts))),(a_,r)]=.ok (a_,A)/\jh c [(a_,uf c (uz ts R C)),(a_,.lst (sT (nV ts))),(a_,r)]=.ok (a_,A):=by cases hr with|g i y=>exact Ir D o (λz _=>EC o z) i y|t hw i y j=>exact Iv D o (λz _=>EC o z) hw i y j
 obtain⟨A,hA,hd,hk⟩:=hs;have g7:=Cr (R:=R) (C:=C) c h (Yj (uz ts R C) a_) (Yk (uz ts R C) a_);have ad:zT (.lst (Xx.map dD)) (.lst [r])=b_ (e_,.lst (Xx.map dD++[r])):=Zg (by show 7+1<=j_;decide);have la:∀{o8 o9 Tj Tf:Option RV},z9 (mV 5) (z9 (m2 zT (mV 3) (ki (z9 (mV 7) zh))) zh) (hide (lE S ↑O ts (uf c (uz ts R C)) [fv (.int x),fv r,o8,o9,Tj,Tf]))=.ok [(a_,uf c (uz ts R C)),(e_,.lst (Xx.map dD++[r]))]:=λ{_ _ _ _}=>vC ↑v (vC (v2 ↑v (vL (vC ↑v rfl) rfl rfl) ad) rfl);have s7:zF 7 (zk u9 (z9 ↑V (z9 (mV 4) (z9 (mV 6) zh)))) (lE S ↑O ts (uf c (uz ts R C)) [fv (.int x),o7,o8,o9,Tj,Tf])=.nx (lE S ↑O ts (uf c (uz ts R C)) [fv (.int x),fv r,o8,o9,Tj,Tf]):=zr (vF (vC ↑v (vC ↑v (vC ↑v rfl))) hv);have s8:zF 8 (zk jP (z9 ↑V (z9 (mV 4) (z9 (mV 7) zh)))) (lE S ↑O ts (uf c (uz ts R C)) [fv (.int x),fv r,o8,o9,Tj,Tf])=.nx (lE S ↑O ts (uf c (uz ts R C)) [fv (.int x),fv r,fv A,o9,Tj,Tf]):=zr (vF (vC ↑v (vC ↑v (vC ↑v rfl))) hd);have hkl:=GJ h;rcases hA with rfl|⟨k,rfl⟩;·have hx:xz (qS (jx (fH (zk xq (z9 (mV 10) (z9 (zC xP (z9 (mV 4) zh)) zh))))) (jx (fH (mV 11)))) (lE S ↑O ts (uf c (uz ts R C)) [fv (.int x),fv r,fv .non,fv .non,fv (.int 7),fv (.bl e_)])=.ok a_:=zR (aP (Zb (vF (vC ↑v (vC (vK (vC ↑v rfl) ((nH _).trans (by rw[hkl];rfl))) rfl)) UP)) (Zb ↑v));have s9:gX (C9 c) gW (lE S ↑O ts (uf c (uz ts R C)) [fv (.int x),fv r,fv .non,o9,Tj,Tf])=.nx (lE S ↑O ts (uf c (uz ts R C)) [fv (.int x),fv r,fv .non,fv .non,fv (.int 7),fv (.bl e_)]):=GA (vF la (Il c _ g7 ↑o hk)) rfl;exact⟨_,_,_,_,_,(zi s7).trans ((zi s8).trans ((zi s9).trans ((Ws (zR (vT (v2 ↑v rfl rfl)))).trans (zJ hx))))⟩
 ·have ak:zT (.lst (sT (nV ts))) (.lst [.str k])=b_ (e_,.lst (sT (nV ts++[k]))):=(Zg (by rw[nE,hkl];show 7+1<=j_;decide)).trans (by unfold sT;rw[sL];rfl);have s9:gX (C9 c) gW (lE S ↑O ts (uf c (uz ts R C)) [fv (.int x),fv r,fv (.str k),o9,Tj,Tf])=.nx (lE S ↑O ts (uf c (uz ts R C)) [fv (.int x),fv r,fv (.str k),fv (.lst (sT (nV ts++[k]))),fv .non,fv (.bl e_)]):=GA (vF la (Es c _ (g7.snoc hk) (show 8<100 by decide))) rfl;have hx:xz (jx (fH (zk xq (z9 (mV 9) (z9 (m2 zT (mV 4) (ki (z9 (mV 8) zh))) zh))))) (lE S ↑O ts (uf c (uz ts R C)) [fv (.int x),fv r,fv (.str k),fv (.lst (sT (nV ts++[k]))),fv .non,fv (.bl e_)])=.ok a_:=zR (Zb (vF (vC ↑v (vC (v2 ↑v (vL (vC ↑v rfl) rfl rfl) ak) rfl)) (UQ _ (by rw[sj,hkl];show 7+1<100;decide))));exact⟨_,_,_,_,_,(zi s7).trans ((zi s8).trans ((zi s9).trans ((k6 (zR (vT (v2 ↑v rfl rfl)))).trans (zJ hx))))⟩
theorem WE(c:CA)(D:eh c)(h:qg ts)(o:ji ts 4 R C)(S:T):∀(ns:List Int)(o6 o7 o8 o9 Tj Tf:Option RV),∃env,jv (gN 6) (Ca c) (ns.map T.int) (lE S ↑O ts (uf c (uz ts R C)) [o6,o7,o8,o9,Tj,Tf])=.nx env|[],o6,o7,o8,o9,Tj,Tf=>⟨_,rfl⟩|x::ns,o6,o7,o8,o9,Tj,Tf=>by obtain⟨r7,r8,r9,r10,r11,e⟩:=N1 (F:=F) c D h o S x o7 o8 o9 Tj Tf;obtain⟨env,ih⟩:=WE c D h o S ns (fv (.int x)) r7 r8 r9 r10 r11;refine⟨env,?_⟩;rw[sG,jX rfl e];exact ih
end
def N2(ns:List Int):∃cs:List Int,VV (.lst (ns.map T.int)) (b_ 1) (b_ 15)=b_ (e_,.lst (cs.map T.int)):=by refine⟨(ns.drop (HT.sIx ns.length 0 (b_ 1))).take (HT.sIx ns.length ns.length (b_ 15)-HT.sIx ns.length 0 (b_ 1)),?_⟩;show b_ (e_,T.lst (uu (ns.map T.int) (b_ 1) (b_ 15)))=_;unfold uu;rw[j',<-List.map_drop,<-List.map_take]
def GK(h1:c.Bare≠c.Choice)(h2:c.Bare≠c.Kind)(h3:c.Bare≠c.Record)(h4:c.Choice≠c.Kind)(h5:c.Choice≠c.Record)(h6:c.Kind≠c.Record)(ns:List Int)(ς:ns.length<=63):Nw c [(a_,.lst (ns.map T.int))]=.ok ↑A:=by
 have dd:eh c:=⟨h1,h2,h3,h4,h5,h6⟩;obtain⟨ts,R,C,F,m,h,o,hl,hm,of,hw⟩:=Gg (ns.getD 0 0);refine zX rfl ?_;unfold Nv;refine(zi (zr (vF (vC (vF (vC ↑v (vC rfl rfl)) (Us ns 0)) rfl) hw))).trans ?_;refine(zi (GA (vF (vC (v2 ↑v rfl (zW _ 0)) rfl) (Xy h)) rfl)).trans ?_;have hfl:F.length<=3:=by have:=congrArg M' of.names;rw[j',BB]at this;omega
 have hp:=VM o hl of hfl;have hc:=c1 (mt:=jl (m2 fG (m2 zx ↑F ↑t) (mC (.str "function")))) (me:=mV 0) (cs:=[]) D.t D.t (λd:D=>!d.isF) (Gh R C F) (λd _=>by obtain⟨r,e⟩:=G4 d;refine vT (p:=a_) (v2 (v2 ↑v rfl (by rw[e];exact zW _ 0)) rfl ((LJ _ _).trans ?_));rw[NA]) (λd _ _=>⟨a_,vf rfl⟩);have hf:(Gh R C F).filter (λd=>!d.isF)=R.map qG.d++C.map qH.d:=by
  unfold Gh;rw[Ry,Oe.mpr,I_.mpr,Ac];·intro a ha;obtain⟨q,_,rfl⟩:=sH.mp ha;exact sM
  ·intro a ha;rcases sS.mp ha with ha|ha<;>(obtain⟨q,_,rfl⟩:=sH.mp ha;rfl)
 rw[hf]at hc;have h7:(VS ts).length=7:=by unfold VS;rw[j',List.length_zip,GJ h];rfl
 have hpc:CY (hide [fv (.lst (ns.map T.int)),fv ↑O,fv (.lst ((VS ts).map D.t)),fv (.lst (Xx.map dD)),fv (.lst (sT (nV ts))),f_,f_,f_,f_,f_,f_,f_])=.ok (e_,.lst ((uz ts R C).map D.t)):=by
  refine v2 (pK (Ww (vF (vC ↑v rfl) hp)) (by unfold Gh;simp;omega) hc) ↑v ((Zg ?_).trans ?_);·have:=big;simp;omega
  ·unfold uz;simp only[sL]
 refine(zi (e':=lE (.lst (ns.map T.int)) ↑O ts (uf c (uz ts R C)) [f_,f_,f_,f_,f_,f_]) (zr (Ix c (Cp h o) (UZ h o) (by unfold uz;simp;omega) hpc))).trans ?_;obtain⟨cs,Z_⟩:=N2 ns;obtain⟨env,ho⟩:=WE (F:=F) c dd h o (.lst (ns.map T.int)) cs f_ f_ f_ f_ f_ f_;exact(zi (UA (vS ↑v rfl rfl Z_) ho)).trans (zV rfl)
def walk{l:W.OpenLaw}{q:sN}{SJ:List Str}{XP:(Str->Option g_)->w_->Prop}{YP:sY->w_->Prop}{d:DefRec}{K:Params->d_}(hn:l.most=b_ 63)(Tp:d.params.defaults=[])(π:d.name="law")(hY:∀(w:sY)(h:w_),YP w h->(K w.params).In h)(ϖ:∀(w:sY)(h:w_),YP w h->h.get? tabP=b_ {cls:=.none,data:=.fields #[]}){c₀:h_}(ϗ:∀(w:sY)(h:w_),YP w h->Rr h c₀ tabP)(Ϡ:∀w:sY,Rs (K w.params)=e_)(F:∀(w:sY)(mg:Str->Option g_)(h:w_),(K w.params).In h->h.Ns v_ mg->∃c,Txt l.prog w (K w.params) mg c):W.WalkO q SJ XP YP l.row.toRowW d [] (λf vs=>PySem.call f vs):=HI (x:="_law_script") (k:=11) (st:=Jx) hn Tp π ⟨rfl,by decide,by decide⟩ hY ϖ ϗ Ϡ (λ_ _ _ _ _ _ _=>rfl) λw mg h KX G=>by obtain⟨c,T⟩:=F w mg h KX G;exact⟨T.wS,λf fd Fl base=>Ld (LE T Fl) (GK T.vU T.vW T.vX T.vY T.vZ T.v3)⟩
end Law
open PySem PySem.W PyProof.Rows L3
namespace PySem.W.Fast
def tw3953924911919777910:=0
def tw10221532077849704851:=0
def tw4309717554464105807:=0
def tw14276917588459199313:=0
def tw5635278305779942107:=0
def tw5534665901603000224:=0
def tw2165706409914427118:=0
def tw18205477703038192347:=0
def tw6193434639852800935:=0
def tw4406341661954011993:=0
def tw6700205909955377535:=0
def tw5114746022049531648:=0
def tw18058807421519261876:=0
def tw915821110368155284:=0
def tw15023687732300716085:=0
def tw2553157363916182162:=0
def tw5630980069249043789:=0
def tw7723242728090370035:=0
def tw4423386536187329308:=0
def tw2706682626437532091:=0
def tw2884415678319242526:=0
def tw5642250364946819216:=0
def tw2381880735635855174:=0
def tw231756751151377216:=0
def tw12110540207428738866:=0
def tw3361034460547767187:=0
def tw1479577681862159685:=0
def tw16386153003789991665:=0
def tw5457148277627592018:=0
def tw9068198395863109450:=0
def tw13429048382876483591:=0
def tw11555647245335346113:=0
def tw13270218209100238988:=0
def tw5528795119255409718:=0
def tw6775973909807919005:=0
def tw15276418355788006334:=0
def tw8894043458245102612:=0
def tw12136710234447486750:=0
def tw18089082302988569122:=0
def tw2833447263081049429:=0
def tw6053865723100553375:=0
def tw10309946029518387684:=0
def tw16038755762883594145:=0
def tw2102428930885988990:=0
def tw3936947059060971173:=0
def tw843634308717890805:=0
def tw6012691405650904836:=0
def tw6591547755292989848:=0
def tw6280314865286581488:=0
def tw7955961966437382915:=0
def tw3355614454253995338:=0
def tw9537841337082489400:=0
def tw9241193254701749812:=0
def tw1786025340539888233:=0
def tw1333462085169583582:=0
def tw15061283136462978307:=0
def tw14532675140583722206:=0
def tw17919728403689683729:=0
def tw8667418448538187817:=0
def tw12960470239334182667:=0
def tw10449340147532002314:=0
def tw14561202244293662491:=0
def tw15575341913091697640:=0
def tw18149475313650131079:=0
def tw6904975552960942200:=0
def tw14748331590285391401:=0
def tw4216012570931703930:=0
def tw3562354810963802677:=0
def tw10194651237556179887:=0
def tw15005073946841974436:=0
def tw10861579523738787785:=0
def tw1552405384580860674:=0
def tw17621336934202837084:=0
def tw13518820332969062023:=0
def tw14751271224154670969:=0
def tw2939034085030585045:=0
def tw14102794951677405473:=0
def tw8057805976006990587:=0
def tw8855164185671270529:=0
def tw10889458377805056884:=0
def tw16613604080389272503:=0
def tw2999389350487845965:=0
def tw15500858353393029697:=0
def tw12101750325315654766:=0
def tw3381136449041210587:=0
def tw11682564670047891748:=0
def tw9333346345800310516:=0
def tw6032914949043285641:=0
def tw3183394885318207916:=0
def tw10349371373501072636:=0
def tw14192902457591196844:=0
def tw13151322793674214129:=0
def tw1585248884636438871:=0
def tw11111087534454482349:=0
def tw17537109711739607316:=0
def tw9630480233170205410:=0
def tw17560490246666240808:=0
def tw1969006051881646334:=0
def tw6165724770224275946:=0
def tw6492316039050815311:=0
def tw17417629420753991322:=0
def tw16067250627723474625:=0
def tw7233236519094951742:=0
def tw10425493112359794451:=0
def tw1329193507193222140:=0
def tw3381485066839855256:=0
def tw5252177604897572714:=0
def tw17786729999936535861:=0
def tw1099769991461264383:=0
def tw4244635772707489519:=0
def tw3566734175261922009:=0
def tw13883121785202435888:=0
def tw8202093015244680520:=0
def tw629522976330706654:=0
def tw12231828058996101636:=0
def tw14043851475161869221:=0
def tw9999221853572904032:=0
def tw17558225660518013271:=0
def tw8076414541553080588:=0
def tw11030138496062963815:=0
def tw13590324037668066037:=0
def tw2438307786321526623:=0
def tw17668972121031492352:=0
def tw17179408897074273017:=0
def tw8153695945569872714:=0
def tw16427124774484759808:=0
def tw9697144708785869054:=0
def tw14558900552550160166:=0
def tw17843168808163347424:=0
def tw7121264114546706722:=0
def tw7154342566991376630:=0
def tw748239480436370590:=0
def tw16343994462416155114:=0
def tw13098765563767970227:=0
def tw18017999725393705969:=0
def tw8208841378566168973:=0
def tw6628609313365742351:=0
def tw4708560428332592582:=0
def tw15712541419317579315:=0
def tw1376661731400690028:=0
def tw11126831004668394448:=0
def tw13752134201685094637:=0
def tw15062932768029468321:=0
def tw14085842564059106462:=0
def tw7363217507187337719:=0
def tw1267192574861428806:=0
def tw8160606283454208708:=0
def tw2874107895949839729:=0
def tw17240735545136971975:=0
def tw12585261545707038579:=0
def tw8542276564502015631:=0
def tw12304171191072607967:=0
def tw16426678854772721970:=0
def tw7136972873928403191:=0
def tw16567258664737179920:=0
def tw3749432243326208363:=0
def tw11580653151079234291:=0
def tw1754443020706744804:=0
def tw1460163402159277928:=0
def tw14911006343190789309:=0
def tw4676391604495649105:=0
def tw15470008759777091686:=0
def tw12338214954317996565:=0
def tw2934709784506885805:=0
def tw963315526190126043:=0
def tw4810706650263697032:=0
def tw2509996065730032452:=0
def tw10636838784345062348:=0
def tw13628626133852398496:=0
def tw3796794238593584608:=0
def tw9889651052201797619:=0
def tw9014099076958345874:=0
def tw8457973278243580150:=0
def tw2673618268474820029:=0
def tw6720863001075716185:=0
def tw10044391764182844074:=0
def tw1452477206709177002:=0
def tw4038868115295078390:=0
def tw7729782189278724107:=0
def tw13214949224985121846:=0
def tw15726476536860224102:=0
def tw6851269104291794127:=0
def tw10436945633805136987:=0
def tw18025528702838033453:=0
def tw14581207264483753576:=0
def tw13489864883095447440:=0
def tw17349133763335280974:=0
def tw1581995664863972236:=0
def tw7755716130704219071:=0
def tw500575211726453688:=0
def tw17677494106790618644:=0
def tw2394270103886595150:=0
def tw5704310581545175967:=0
def tw5570789312634500614:=0
def tw10022132876781382382:=0
def tw3944664499730698587:=0
def tw13864849864960684104:=0
def tw9891859171987574245:=0
def tw5830674359276560543:=0
def tw673213507092233383:=0
def tw10667547602578934254:=0
def tw7337671597249215994:=0
def tw13722534643895553021:=0
def tw17740835051968425074:=0
def tw10387845227520554878:=0
def tw7229164725678630225:=0
def tw17085521636007572695:=0
def tw2091004401275319054:=0
def tw9012302377460904914:=0
def tw10043302046368421056:=0
def tw18041130811053035814:=0
def tw10528388449742867185:=0
def tw15531903509318785653:=0
def tw17160392117604961402:=0
def tw18175053358038717750:=0
def tw10139885652380151840:=0
def tw1989148890558478191:=0
def tw1536114827384947324:=0
def tw4865036059408028522:=0
def tw701533791504555518:=0
def tw1864895131859722450:=0
def tw5254066870843323859:=0
def tw9651995275073409669:=0
def tw4719984869244820737:=0
def tw9818891351615403373:=0
def tw13884088697335015914:=0
def tw12686998952335172226:=0
def tw13725246736247585867:=0
def tw2633714765695296574:=0
def tw16568174531546367519:=0
def tw13937902958326649939:=0
def tw3308823610638837073:=0
def tw103472234340931216:=0
def tw9198855424669601543:=0
def tw2276985483546728851:=0
end PySem.W.Fast
set_option maxRecDepth 100000 in
set_option maxHeartbeats 0 in
theorem PySem.Challenge.cw_facestead_k24_gets_and_takes_holds : PySem.Challenge.rw_facestead_k24_gets_and_takes.Holds := by
 w_on;o_law;k_head;(case hw=>w_witness2)
 k_fill
 refine Law.walk (l:=PySem.Challenge.rw_facestead_k24_gets_and_takes) rfl rfl rfl (λw h Y=>W.km_in_of Y) (λw h Y=>W.km_tabs_of Y L2.tabP (List.mem_singleton.mpr rfl)) (c₀:=530) (λw h Y=>W.codeHd_of_K (W.km_in_of Y) (by kernel_rfl)) (λw=>by kernel_rfl) ?F
 case F =>
  intro w mg h KX G;exact ⟨⟨_,_,_,_,_,_,_,_,L3.memoP _ w (L3.gOf Law.m_is_kind)⟩,⟨rfl,mQ KX G,mQ KX G,mQ KX G,mQ KX G,mQ KX G,mQ KX G,mQ KX G,mQ KX G,mQ KX G,mQ KX G,mQ KX G,mQ KX G,mQ KX G,mQ KX G,mQ KX G,Nl KX G,HM KX G,Nl KX G,HL KX G,Np [("call",_,.ref _,.ref _,.tup [.int 3,.int 4]),("make",_,.ref _,.ref _,.tup [.int 2]),("sort",_,.ref _,.ref _,.tup [.int 2])] KX G (by (try dsimp only);k_is) (by (try dsimp only);k_is) (by rfl) (by decide) (by decide +kernel) (jz rfl (jz rfl (jz rfl rL))) (λF H=>(jz (Ug (by (try dsimp only);k_is)) (jz (Vp (by (try dsimp only);k_is)) (jz (Vp (by (try dsimp only);k_is)) rL)))),Np [("plus",_,.ref _,.ref _,.tup [.int 1]),("glue",_,.ref _,.ref _,.tup [.int 1]),("form",_,.ref _,.ref _,.tup [.int 3]),("get",_,.ref _,.ref _,.tup [.int 1]),("getor",_,.ref _,.ref _,.tup [.int 1,.int 3]),("take",_,.ref _,.ref _,.tup [.int 1,.int 3]),("sort",_,.ref _,.ref _,.tup [.int 1,.int 3])] KX G (by (try dsimp only);k_is) (by (try dsimp only);k_is) (by rfl) (by decide) (by decide +kernel) (jz rfl (jz rfl (jz rfl (jz rfl (jz rfl (jz rfl (jz rfl rL))))))) (λF H=>(jz (Vp (by (try dsimp only);k_is)) (jz (Vp (by (try dsimp only);k_is)) (jz (Vp (by (try dsimp only);k_is)) (jz (Vp (by (try dsimp only);k_is)) (jz (Ug (by (try dsimp only);k_is)) (jz (Ug (by (try dsimp only);k_is)) (jz (Ug (by (try dsimp only);k_is)) rL)))))))),HV [("num",_,_,"num_kind"),("word",_,_,"word_kind"),("plus",_,_,"plus_kind"),("glue",_,_,"glue_kind"),("call",_,_,"call_kind"),("make",_,_,"make_kind"),("form",_,_,"form_kind"),("get",_,_,"get_kind"),("getor",_,_,"getor_kind"),("take",_,_,"take_kind"),("sort",_,_,"sort_kind")] KX G (by (try dsimp only);k_is) (by (try dsimp only);k_is) (by rfl) (by decide +kernel) (kX (by (try dsimp only);k_is) (kX (by (try dsimp only);k_is) (kX (by (try dsimp only);k_is) (kX (by (try dsimp only);k_is) (kX (by (try dsimp only);k_is) (kX (by (try dsimp only);k_is) (kX (by (try dsimp only);k_is) (kX (by (try dsimp only);k_is) (kX (by (try dsimp only);k_is) (kX (by (try dsimp only);k_is) (kX (by (try dsimp only);k_is) Ll))))))))))),zB KX G,zB KX G,zB KX G,zB KX G,zB KX G,zB KX G,zB KX G,zB KX G,zB KX G,zB KX G,zB KX G,zB KX G,zB KX G,zB KX G,zB KX G,zB KX G,zB KX G,zB KX G,zB KX G,zB KX G,zB KX G,zB KX G,zB KX G,zB KX G,zB KX G,zB KX G,zB KX G,zB KX G,zB KX G,zB KX G,zB KX G,zB KX G,zB KX G,zB KX G,zB KX G,zB KX G,zB KX G,zB KX G,zB KX G,zB KX G,zB KX G,zB KX G,zB KX G,zB KX G,zB KX G,zB KX G,zB KX G,zB KX G,zB KX G,zB KX G,Jd KX G,cZ,Jd KX G,cZ,Jd KX G,cZ,Jd KX G,cZ,Jd KX G,cZ,dM,dM,dM,dM,xo,xo,xo,xo,xo,xo,xo,xo,xo,xo,m9,m9,m9,m9,m9,m9,m9,m9,m9,m9,base_of,(by dsimp only;decide),(by dsimp only;decide),(by dsimp only;decide),(by dsimp only;decide),(by dsimp only;decide),(by dsimp only;decide),Jd KX G,Jd KX G,Jd KX G,Uj KX G,Lx,Ly,Qs (by dsimp only;decide) (by (try dsimp only);k_is) (by (try dsimp only);k_is) (by (try dsimp only);k_is),Qs (by dsimp only;decide) (by (try dsimp only);k_is) (by (try dsimp only);k_is) (by (try dsimp only);k_is),Uk⟩⟩
