import PyProof.Rows.All
import Wide.All
import OpenK.AllK
import Wide.FinOn
import Lean
import PyProof.EqAt
import PyProof.EqKinds
import PyProof.TupleCall
import PyProof.CompUse
import PyProof.NeData
import PyProof.WalksEnum
import PyProof.EnumMake
import PyProof.ZipIter
import PyProof.Rows.EnumRows
import PyProof.Rows.FactsT2
import KE.KDictList
import PyProof.Rows.SortRuns
import PyProof.Rows.SortWalk
import KE.KSortTup
import PyProof.Rows.SortStr
import PyProof.ListRange
import PyProof.StrOps2
import PyProof.StrBlock2
import PyProof.AutoIntG3
import PyProof.ListMulRight
import PyProof.Rows.ListMulArg
import PyProof.Rows.CallKwBuiltin
import PyProof.Rows.StrMul
import KE.KMinBuiltin
import PyProof.TupleKey
import PyProof.SetKind
import PyProof.Rows.SetFrom
import PyProof.DictWalks
import KE.KRevIter
import PyProof.AutoSeq1
import PyProof.P3Eq
import PyProof.MeetsSeq3
import PyProof.FactsAll.list_2
import PyProof.FactsAll.tuple_2
import PyProof.Rows.RowHeap
import PyProof.FactsAll.list_3
import PySem.Challenge.RW_kinlook_k52_whole_least_with_hidden_step
open PySem renaming wpAny_bind->aw,Value->ae,wpAny_pure->bG,Shared->ax,Addr->ah,sizeLine->bq,starEach->b6,model->aS,wpAny->bP,Program->d5,PyData->eh,sizeLine_eq->iL,Around->fh,World->eJ,compareOp->iq,mainGlobals->kr,eval->df,cLine->eR,Heap->dy,bootBuiltins->ll,wpAny_newObj_type->sL,wpAny_holding->sM,wpAny_Call_Name_kw->AU,wpAny_setState_of->AV,sysModules->qA,binaryOp->om,wpAny_call_entry->B7,backTo->kQ,codeAny_builtin->B8,swapsWith->sN,attributeBase->AW,wpAny_mono->wc,rawInt->mS,Keyword->pS,tupleKind_room_in1->HZ,foldedSetIterable->Ic,wpAny_typeNameOfWhole_keyiter->Rn,wpAny_callSpecial?_slot->O7,wpAny_rule->AX,wpAny_setField_rec->ML,wpAny_passesOwn->Iq,plainId_quiet->E8,wpAny_truthy_bool->MQ,keywordEach->D2,wpAny_typeNameOf_keyiter->Ro,wpAny_askSetting->MR,tupleKind->B9,assignEach->D3,NameKind->AY,wpAny_dictEntries->O8,behindInMarks->MS,sliceBounds->Iy
open PySem.W renaming Frag->aC,nsIn->pT,kia_one->wd,mg_none_of->D4,fnOf->zt,mg_of->E9,keepIn->IA,kat_kind->MV,codeIn->MX,kitx_dict->Rp,kitx_list->Ut,instObj->Uu,OpenLaw->Uv
open List renaming mem_cons_of_mem->c9,mem_cons_self->cy,length_map->b9,mem_map->bT,mem_append->dP,mem_append_right->gu,getElem?_eq_some_iff->iN,mem_cons->eK,mem_append_left->i9,nodup_append->hX,getElem?_eq_getElem->kR,map_cons->fS,map_map->fF,size_toArray->iO,pairwise_map->iP,sublist_append_right->ng,length_append->kz,mem_of_getElem?->ly,nodup_cons->kA,getElem?_map->nh,mem_singleton->oo,pairwise_iff_getElem->xI,length_take->oq,length_cons->pd,mem_filter->ot,getElem?_eq_none->wm,drop_eq_getElem_cons->AZ,mem_range->ox,nodup_nil->oy,getElem?_append_right->Cb,map_append->qB,append_nil->sP,getElem_mem->wo,replicate_succ->A2,getElem?_append_left->Fc,take_add_one->zv,take_length->zC,flatten_cons->A3,append_assoc->A4,getD_eq_getElem?_getD->IB,length_singleton->Fh,ext_getElem?->D5,map_congr_left->Fm,sublist_append_left->MY,pairwise_append->IC,filter_eq_self->IE,nil_sublist->Fn,mem_iff_getElem?->MZ,all_cons->D6,any_cons->D7,length_drop->IG,not_mem_nil->IH,append_eq_nil_iff->O9,zip_cons_cons->M0,take_append_drop->O_,nodup_iff_pairwise_ne->Rq,length_filter_le->Pa,find?_cons->II,getElem?_set_ne->Pb,filterMap_cons->Pg,all_eq_true->Nc,eraseIdx_eq_take_drop_succ->Uw,length_eq_zero_iff->Rr,take_of_length_le->Rt,length_zip->Nn,dropLast_concat_getLast->Ux,mem_iff_getElem->Ru,mem_of_mem_take->Rv,length_eraseIdx->Rw,extract_eq_drop_take->Uy,pairwise_cons->Rx,getElem_idxOf->Ry,getLast_eq_getElem->Uz,getElem?_set_self->UA,length_pos_of_mem->UB,drop_of_length_le->UC,eraseIdxIfInBounds_toArray->ZC,cons_append->Rz,perm_append_comm->UD,map_fst_zip->RA,cons_ne_nil->RC,any_eq_true->RD,mem_flatten->RG,mem_of_mem_drop->UE,getElem?_mapIdx->UG,length_nil->RH,nil_append->RJ,mem_filterMap->UH,filterMap_map->UI,length_mapIdx->UJ,length_range->UK,map_take->RK,map_drop->RL,lookup_cons->UL,drop_length->UM,nodup_range->UN,all_map->RN
open PySem.Heap renaming get?_push_of_some->gi,lt_size->e9,get?_push_size->kB,get?_update_self->Fs,get?_update_other->Ph,size_update->IJ,get?_push_ne->Nw,get?_update_ne->UO
open Nat renaming le_refl->cw,zero_le->fI,ne_of_lt->gp,le_trans->iS,lt_of_lt_of_le->oz,le_of_lt->sQ,lt_succ_of_lt->xS,lt_irrefl->wq,mul_le_mul->zD,lt_of_le_of_lt->Pj,pow_succ->Ct,not_lt_zero->IL,le_succ->Fu,add_sub_of_le->Pk,zero_add->IQ,lt_or_ge->IU,mul_assoc->NC,ne_of_gt->ND,min_self->NF,lt_of_succ_lt->UQ,le_of_lt_succ->RP,lt_succ_of_le->RQ,add_comm->Pl,add_zero->Pm,mod_lt->NH,eq_zero_or_pos->UR,lt_trans->UT,le_of_eq->RT,mul_comm->RV,succ_pos->RW
open PyProof.Rows renaming wpS_bind->cf,arrOf->bE,wpS_pure->dc,Keyed->bX,SortSt->eB,kindOf->fN,pendingOf->lI,wpS_forRange->qE,SortKind->pV,failedOf->qS,wpS_mono->uj,seqObj->p9,wpS_modify->D8,size_push'->D9
open Bool renaming false_ne_true->kG,and_eq_true->mw,false_eq_true->sR,eq_iff_iff->sT,and_true->RX
open Array renaming getElem?_toList->n4,toList_push->qa,getElem?_eq_getElem->CB,length_toList->A5,getD_eq_getD_getElem?->IX,getElem?_eq_some_iff->NJ,eq_empty_of_size_eq_zero->Pn,getElem?_eq_none->NM,size_extract->IY,getElem?_extract->RZ,toArray_toList->R0,perm_iff_toList_perm->UU,append_assoc->R1,toList_inj->R3,toList_extract->UW,append_empty->UX
open Int renaming le_refl->qc,toNat_of_nonneg->CC,emod_lt_of_pos->CD,le_trans->zI,emod_nonneg->CF,le_of_lt->IZ,toNat_natCast->Pp,mul_nonneg->R4,lt_of_lt_of_le->ZD
open Option renaming map_eq_some_iff->I0,isSome_iff_exists->R5,map_some->Pq,isSome_map->UY
def bv:Lean.Syntax:=(Lean.Unhygienic.run `(tacticSeq|rfl)).raw
local macro_rules | `(command| def $i:declId $s:optDeclSig $v:declVal)=>`(command| noncomputable def $i:declId $s:optDeclSig $v:declVal)
local macro_rules | `(command| abbrev $i:declId $s:optDeclSig $v:declVal)=>`(command| noncomputable abbrev $i:declId $s:optDeclSig $v:declVal)
set_option compiler.extract_closed false
set_option hygiene false
local macro_rules
|`(tactic|walk_at"a")=>`(tactic|intro Hs H m x v As n y u Bs Qd Qv w rx ry h f)
|`(tactic|walk_at"b")=>`(tactic|intro pins s σ H x y v u Q I rx ry h)
|`(tactic|walk_at"c")=>`(tactic|refine Calls.spliced_cons (dk (he pins s σ H _ I h) λu s1 dv=>L2.g9 dv λx H1 I1 r1 q1=>Calls.spliced_nil ?_))
|`(tactic|walk_at"d")=>`(tactic|obtain⟨n1,n2,n3⟩:=hX.mp n)
|`(tactic|walk_at"e")=>`(tactic|intro Hs H m x v As Qd Qv w rx h f)
|`(tactic|walk_at"f")=>`(tactic|exact⟨[],⟨⟨_,#[],0,_,e,⟨rfl,rfl,rfl⟩,rfl,oM _,(by show 7<=8191;decide),rfl,rfl⟩,oy,λp hp=>nomatch hp⟩,λk=>by simp,(λp hp=>nomatch hp),cw _,λp hp=>IsTupleKey.ft (mN p hp) λo ho=>k _ _ ho⟩)
|`(tactic|walk_at"g")=>`(tactic|refine⟨Hs,ρ,ag,_,sr,h,λv H1 bI m x As g1 r1 f1 q1=>?_⟩)
|`(tactic|walk_at"h")=>`(tactic|rw[if_pos (by simpa using z)])
|`(tactic|walk_at"i")=>`(tactic|rw[if_neg (by simpa using z)])
|`(tactic|walk_at"j")=>`(tactic|exact⟨ks,⟨⟨o,es,ep,t,k _ _ (cw _) ho,r⟩,nd,λp hp=>IsTupleKey.ft (is p hp) λo ho=>k _ _ (sQ (lt p (m2 p hp))) ho⟩,m1,m2,m3,λp hp=>IsTupleKey.ft (m4 p hp) λo ho=>k _ _ (sQ (lt p hp)) ho⟩)
|`(tactic|walk_at"k")=>`(tactic|refine⟨Hs,ρ,ag,_,sr,h,λv H1 bI m1 x As1 g1 r1 f1 q1=>⟨bI,ρ,ag,_,sr.grow g1,q1,λu H2 aT fl d up g2 p2 q2=>⟨aT,ρ,ag,_,(sr.grow g1).grow g2,q2,λy H3 fP m3 yd Ov g3 r3 f3 q3=>?_⟩⟩⟩)
|`(tactic|walk_at"m")=>`(tactic|refine⟨v,As,B++t,by simpa using a,b,c,d.trans (ng _ _),λaT H2 d4 d2 g7 s2 r2 ne2 kN dj st=>?_⟩)
|`(tactic|walk_at"n")=>`(tactic|intro pins s σ H xs us Q I r h)
|`(tactic|walk_at"p")=>`(tactic|refine aw (sM (B7 slot_list_sort ⟨_,z0,rfl⟩ entry_list_sort (d9 z0 yy (hP vs hR) (λh2=>hk vs hR h2 _ _ _ old) (λh2=>C _ old) λout a1 a2=>⟨_,rfl,?_⟩) (args_list_sort _))))
|`(tactic|walk_at"r")=>`(tactic|rintro x hx ρ ⟨o,rfl⟩ N1 N2 n1 n2)
|`(tactic|walk_at"s")=>`(tactic|refine Calls.call_function_entry kind_sorted plain_sorted entry_sorted (args_sorted1 _) ?_)
|`(tactic|walk_at"t")=>`(tactic|refine aw (wpAny_attempt (O7 ty F.slot_dict_keyiterator_next (B7 F.slot_dict_keyiterator_next ty F.entry_dict_keyiterator_next ?_ (F.args_dict_keyiterator_next_1 _)))))
|`(tactic|walk_at"u")=>`(tactic|have hS:(s.heap.push { cls:=.type "list",data:=.seq ([]:List ae).toArray }).get? s.heap.objs.size=some { cls:=.type "list",data:=.seq ([]:List ae).toArray }:=kB _ rfl)
|`(tactic|walk_at"v")=>`(tactic|rw[show its.toArray.any (vj x)=its.any (vj x) by simp,PR r fs])
|`(tactic|walk_at"w")=>`(tactic|refine⟨Hs,ρ,ag,_,sr,h,λv H1 bI fl d up g1 p1 q1=>?_⟩)
|`(tactic|walk_at"x")=>`(tactic|obtain⟨⟨o,es,ep,t,ho,hex,hd,T,hM,hL,xo⟩,nd,is⟩:=S)
|`(tactic|walk_at"y")=>`(tactic|refine cf (wpS_lift (AX ⟨rfl,?_⟩)))
|`(tactic|walk_at"z")=>`(tactic|intro pins s σ H Q I h)
|`(tactic|walk_at"A")=>`(tactic|obtain⟨t,rfl⟩:=rx)
set_option hygiene true
def L2.g9{α β:Type _}{A B C:α->β->Prop}{G:Prop}(x:∃ a b,A a b/\B a b/\C a b)(k:∀ a b,A a b->B a b->C a b->G):G :=
 let ⟨a,b,p,q,r⟩:=x
 k a b p q r
set_option Elab.async false
set_option linter.all false
set_option maxHeartbeats 4000000
set_option maxRecDepth 100000
set_option linter.defProp false
section
open PySem PySem.Spec PyProof.Rows
set_option bootstrap.genMatcherCode false
set_option genSizeOf false
namespace L2
abbrev Key:=Sum Int Str
def FC:Key->ae->Bool
 |.inl k,v=>Value.isInt k v
 |.inr x,v=>Value.isStrOf x v
def de'(w:eJ):Key->Int
 |.inl k=>hashInt k
 |.inr x=>hashStr w x
theorem A6:∀ {k:Key} {v:ae},FC k v=true->(∃ i t,k=Sum.inl i/\v=Value.int i t)\/(∃ x t,k=Sum.inr x/\v=Value.str x t)
 |.inl i,v,h=>by obtain⟨t,e⟩:=Value.isInt_shape h;exact .inl ⟨i,t,rfl,e⟩
 |.inr x,v,h=>by obtain⟨t,e⟩:=Value.isStrOf_shape h;exact .inr ⟨x,t,rfl,e⟩
def UZ(i:Int)(t:Tok):FC (.inl i) (.int i t)=true:=by simp[FC,Value.isInt]
def U0(x:Str)(t:Tok):FC (.inr x) (.str x t)=true:=by simp[FC,Value.isStrOf]
def ZE(a b:Int):decide ((Sum.inl a:Key)=Sum.inl b)=(a == b):=by
 by_cases e:a=b
 ·subst e;simp
 ·have h:¬ (Sum.inl a:Key)=Sum.inl b:=λq=>e (Sum.inl.inj q);rw[decide_eq_false h];exact(beq_eq_false_iff_ne.mpr e).symm
def ZF(a b:Str):decide ((Sum.inr a:Key)=Sum.inr b)=decide (a=b):=by
 by_cases e:a=b
 ·subst e;simp
 ·have h:¬ (Sum.inr a:Key)=Sum.inr b:=λq=>e (Sum.inr.inj q);rw[decide_eq_false h,decide_eq_false e]
def df'(a:Int)(b:Str):decide ((Sum.inl a:Key)=Sum.inr b)=false:=decide_eq_false (λq=>nomatch q)
def dg'(a:Str)(b:Int):decide ((Sum.inr a:Key)=Sum.inl b)=false:=decide_eq_false (λq=>nomatch q)
def kC(prog:d5)(w:eJ):PySem.KeyKind prog w Key where
 is:=FC
 hash:=de' w
 inj:=λv a b ha hb=>by
  rcases A6 ha with⟨i,t,rfl,rfl⟩|⟨x,t,rfl,rfl⟩
  ·rcases A6 hb with⟨j,u,rfl,e⟩|⟨y,u,rfl,e⟩
   ·injection e with e1 _;rw[e1]
   ·exact nomatch e
  ·rcases A6 hb with⟨j,u,rfl,e⟩|⟨y,u,rfl,e⟩
   ·exact nomatch e
   ·injection e with e1 _;rw[e1]
 byValue:=λk v h=>by rcases A6 h with⟨i,t,rfl,rfl⟩|⟨x,t,rfl,rfl⟩<;>rfl
 pyHash:=λhv h=>by
  rcases A6 hv with⟨i,t,rfl,rfl⟩|⟨x,t,rfl,rfl⟩
  ·exact wpAny_pyHash_int h
  ·exact wpAny_pyHash_str h
 eqBool:=λhu hv h=>by
  rcases A6 hu with⟨i,t,rfl,rfl⟩|⟨x,t,rfl,rfl⟩
  ·rcases A6 hv with⟨j,u,rfl,rfl⟩|⟨y,u,rfl,rfl⟩
   ·rw[ZE] at h;exact wpAny_eqBool_int h
   ·rw[df'] at h;exact SeqAt.EqAt.int_str i t y u _ _ _ _ h
  ·rcases A6 hv with⟨j,u,rfl,rfl⟩|⟨y,u,rfl,rfl⟩
   ·rw[dg'] at h;exact SeqAt.EqAt.str_int x t j u _ _ _ _ h
   ·rw[ZF] at h;exact wpAny_eqBool_str h
 «strs» := λk x t v h=>by
  rcases A6 h with⟨i,u,rfl,e⟩|⟨y,u,rfl,e⟩
  ·exact nomatch e
  ·injection e with e1 _;subst e1;cases v<;>rfl
def ZG(prog:d5)(w:eJ)(k:Key)(v:ae):(kC prog w).is k v=FC k v:=rfl
def dh'(prog:d5)(w:eJ)(i:Int)(t:Tok):(kC prog w).is (.inl i) (.int i t)=true:=UZ i t
def di'(prog:d5)(w:eJ)(x:Str)(t:Tok):(kC prog w).is (.inr x) (.str x t)=true:=U0 x t
inductive V where
 |non|bl (b:Bool)|int (i:Int)|str (x:Str)|uk (b:Array UInt8)|Ee (b:UInt64)|ref (a:ah)|ty (n:String)
 deriving DecidableEq
set_option genInjectivity false
def RelV:V->ae->Prop
 |.non,u=>u=Value.none
 |.bl b,u=>u=Value.bool b
 |.int i,u=>∃ t,u=Value.int i t
 |.str x,u=>∃ t,u=Value.str x t
 |.uk b,u=>∃ t,u=Value.bytes b t
 |.Ee b,u=>∃ t,u=Value.float b t
 |.ref a,u=>u=Value.ref a
 |.ty n,u=>u=Value.type n
abbrev Vals:List V->List ae->Prop:=Paired RelV
def Vals.length(r:Vals xs us):xs.length=us.length:=Paired.length r
theorem Vals.get:∀ {xs:List V} {us:List ae} {i:Nat} {x:V},Vals xs us->xs[i]? = some x->∃ u,us[i]? = some u/\RelV x u
 |_,_,_,_,.nil,e=>by simp at e
 |_,_,0,_,.cons r _,e=>by simp at e;subst e;exact⟨_,rfl,r⟩
 |_,_,i+1,x,.cons _ t,e=>by obtain⟨u,h1,h2⟩:=Vals.get t (by simpa using e);exact⟨u,by simpa using h1,h2⟩
theorem Vals.set(r:RelV x u):∀ {xs:List V} {us:List ae} (i:Nat),Vals xs us->Vals (xs.set i x) (us.set i u)
 |_,_,_,.nil=>.nil
 |_,_,0,.cons _ t=>.cons r t
 |_,_,i+1,.cons q t=>.cons q (Vals.set r i t)
theorem Vals.append:∀ {xs ys:List V} {us ws:List ae},Vals xs us->Vals ys ws->Vals (xs++ys) (us++ws)
 |_,_,_,_,.nil,s=>s
 |_,_,_,_,.cons r t,s=>.cons r (Vals.append t s)
theorem Vals.take:∀ {xs:List V} {us:List ae} (n:Nat),Vals xs us->Vals (xs.take n) (us.take n)
 |_,_,0,_=>.nil
 |_,_,_+1,.nil=>.nil
 |_,_,n+1,.cons r t=>.cons r (Vals.take n t)
theorem Vals.drop:∀ {xs:List V} {us:List ae} (n:Nat),Vals xs us->Vals (xs.drop n) (us.drop n)
 |_,_,0,r=>r
 |_,_,_+1,.nil=>.nil
 |_,_,n+1,.cons _ t=>Vals.drop n t
def x3:Option V->Option ae->Prop
 |some v,some u=>RelV v u
 |none,none=>True
 |_,_=>False
def KV{κ:Type}:List (κ × V)->List (κ × ae)->Prop:=Paired λ(p:κ × V) (q:κ × ae)=>p.1=q.1/\RelV p.2 q.2
def kV:Key->V
 |.inl i=>.int i
 |.inr x=>.str x
inductive HO where
 |lst (xs:List V)
 |tup (xs:List V)
 |dK (kvs:List (Key × V))|dT (kvs:List (List Key × V))
 |set (S:Int->Bool) (n:Nat)
 |ins (C dx:ah) (fs:List (Str × V))
 |own (x:ah)
 |xd (fs:List (Str × V))
 |met (f x:ah)
 |EA (lo hi:Int)
 |qf (o:Obj) (u:HO)
 |Jn (ps:Array ae)
 |ext (φ:dy->Prop)
abbrev Hp:=ah->Option HO
def upd(H:Hp)(a:ah)(o:HO):Hp:=λb=>if b=a then some o else H b
def hG:upd H a o a=some o:=by unfold upd;rw[if_pos rfl]
def fq(h:b≠a):upd H a o b=H b:=by unfold upd;rw[if_neg h]
def ZH{H:Hp}{a b:ah}{o u:HO}(h:H a=some o)(h':H b=some u)(d:o≠u):a≠b:=by intro e;subst e;rw[h] at h';exact d (Option.some.inj h')
def wt{H:Hp}{a b:ah}{o:HO}(h:H a=some o)(h':H b=none):a≠b:=by intro e;subst e;rw[h] at h';cases h'
section
variable (P:d5)(w:eJ)
def kH(H:Hp)(h:dy)(a:ah):HO->Prop
 |.lst xs=>xs.length<=bq/\∃ (its:List ae) (n:Nat),Vals xs its/\h.get? a=some { cls:=.type "list",data:=.seq its.toArray n }
 |.tup xs=>xs.length<=bq/\∃ its:List ae,Vals xs its/\IsTup h a its.toArray
 |.dK kvs=>kvs.length<=bq/\(a == qA)=false/\∃ vs,KV kvs vs/\h.DictOf (kC P w) a vs
 |.dT kvs=>kvs.length<=bq/\(a == qA)=false/\∃ xs:List (List Key × ah × ae),
   Paired (λ(p:List Key × V) (q:List Key × ah × ae)=>p.1=q.1/\H q.2.1=some (.tup (p.1.map kV))/\RelV p.2 q.2.2) kvs xs /\
   ∃ o es ep,h.get? a=some o/\o.ExactDict/\o.data=.dict es ep/\es.toList=xs.map (entryOfKey (B9 (kC P w)))/\(xs.map (·.1)).Nodup
 |.set S n=>h.SetOf (intKind P w) a S n
 |.ins C dx fs=>H dx=some (.own a)/\fs.length<=1000/\dx≠a/\h.get? a=some (Uu C dx) /\
   ∃ mA,h.Ns1 dx mA/\(∀ f,x3 (fs.lookup f) (mA f))/\PySem.Within mA (fs.map (·.1))
 |.own _=>∃ o,h.get? a=some o
 |.xd fs=>∃ mA,h.Ns1 a mA/\∀ f,x3 (fs.lookup f) (mA f)
 |.EA lo hi=>∃ t u v,h.get? a=some { cls:=.type "range",data:=.fields #[.int lo t,.int hi u,.int 1 v] }
 |.qf o u=>h.get? a=some o/\kH H h a u
 |.Jn ps=>h.get? a=some { cls:=.none,data:=.fields ps }
 |.met f x=>h.get? a=some (PySem.W.methodObj (.ref f) (.ref x))
 |.ext φ=>φ h/\(∃ o,h.get? a=some o)/\∀ h1 h2:dy,φ h1->(∀ o,h1.get? a=some o->h2.get? a=some o)->φ h2
def ku(H:Hp)(h:dy):Prop:=∀ a o,H a=some o->kH P w H h a o
end
section
variable {P:d5}{w:eJ}{H H':Hp}{h h':dy}{a:ah}{o:HO}
def kH.lt(x:kH P w H h a o):a<h.objs.size:=by
 cases o with
 |lst xs=>obtain⟨_,_,_,_,e⟩:=x;exact e9 e
 |tup xs=>obtain⟨_,_,_,p⟩:=x;exact p.lt
 |dK kvs=>obtain⟨_,_,_,_,o,_,_,e,_⟩:=x;exact e9 e
 |dT kvs=>obtain⟨_,_,_,_,o,_,_,e,_⟩:=x;exact e9 e
 |set S n=>obtain⟨o,_,_,_,e,_⟩:=x;exact e9 e
 |ins C dx fs=>obtain⟨_,_,_,e,_⟩:=x;exact e9 e
 |own y=>obtain⟨_,e⟩:=x;exact e9 e
 |xd fs=>obtain⟨_,⟨_,_,_,e,_⟩,_⟩:=x;exact e9 e
 |EA lo hi=>obtain⟨_,_,_,e⟩:=x;exact e9 e
 |qf ob u=>obtain⟨e,_⟩:=x;exact e9 e
 |Jn ps=>exact e9 (x)
 |met f y=>exact e9 (x)
 |ext φ=>obtain⟨_,⟨_,e⟩,_⟩:=x;exact e9 e
theorem Paired.U4{α β:Type}{F G:α->β->Prop}:∀ {ZI:List α} {ZJ:List β},Paired F ZI ZJ->(∀ a b,F a b->G a b)->Paired G ZI ZJ
 |_,_,.nil,_=>.nil
 |_,_,.cons r t,f=>.cons (f _ _ r) (Paired.U4 t f)
def kH.ft(x:kH P w H h a o)(k:∀ b u,(b=a\/H b=some (.own a))->h.get? b=some u->h'.get? b=some u)(ho:∀ b,H b=some (.own a)->H' b=some (.own a)) (ht:∀ b xs,H b=some (.tup xs)->H' b=some (.tup xs)):kH P w H' h' a o:=by
 induction o with
 |lst xs=>obtain⟨z,its,n,r,e⟩:=x;exact⟨z,its,n,r,k _ _ (.inl rfl) e⟩
 |tup xs=>obtain⟨z,its,r,ob,e,c⟩:=x;exact⟨z,its,r,ob,k _ _ (.inl rfl) e,c⟩
 |dK kvs=>obtain⟨z,y,vs,r,ob,es,ep,e,c⟩:=x;exact⟨z,y,vs,r,ob,es,ep,k _ _ (.inl rfl) e,c⟩
 |dT kvs =>obtain⟨z,y,xs,r,ob,es,ep,e,c⟩:=x;exact⟨z,y,xs,Paired.U4 r λp q z=>⟨z.1,ht _ _ z.2.1,z.2.2⟩,ob,es,ep,k _ _ (.inl rfl) e,c⟩
 |set S n=>obtain⟨ob,es,ep,t,e,c⟩:=x;exact⟨ob,es,ep,t,k _ _ (.inl rfl) e,c⟩
 |ins C dx fs =>obtain⟨d,z,ne,e,mA,⟨od,es,ep,e2,c⟩,r⟩:=x;exact⟨ho _ d,z,ne,k _ _ (.inl rfl) e,mA,⟨od,es,ep,k _ _ (.inr d) e2,c⟩,r⟩
 |own y=>obtain⟨ob,e⟩:=x;exact⟨ob,k _ _ (.inl rfl) e⟩
 |xd fs=>obtain⟨mA,⟨od,es,ep,e,c⟩,r⟩:=x;exact⟨mA,⟨od,es,ep,k _ _ (.inl rfl) e,c⟩,r⟩
 |EA lo hi=>obtain⟨t,u,v,e⟩:=x;exact⟨t,u,v,k _ _ (.inl rfl) e⟩
 |qf ob u ih=>obtain⟨e,q⟩:=x;exact⟨k _ _ (.inl rfl) e,ih q⟩
 |Jn ps =>have e:h.get? a=some { cls:=.none,data:=.fields ps }:=x;exact k a _ (.inl rfl) e
 |met f y =>have e:h.get? a=some (PySem.W.methodObj (.ref f) (.ref y)):=x;exact k a _ (.inl rfl) e
 |ext φ=>obtain⟨p,⟨o,e⟩,st⟩:=x;exact⟨st _ _ p λo q=>k _ _ (.inl rfl) q,⟨o,k _ _ (.inl rfl) e⟩,st⟩
def ku.lt(x:ku P w H h)(e:H a=some o):a<h.objs.size:=(x a o e).lt
def ku.fresh(x:ku P w H h)(e:h.objs.size<=a):H a=none:=by
 cases q:H a with
 |none=>rfl
 |some u=>exact absurd (oz (x.lt q) e) (wq _)
def ku.kept(x:ku P w H h)(k:∀ b u,h.get? b=some u->h'.get? b=some u):ku P w H h':=λa o e =>
 (x a o e).ft (λb u _ q=>k b u q) (λ_ q=>q) λ_ _ q=>q
def ku.laid(x:ku P w H h)(k:∀ b u,h.get? b=some u->h'.get? b=some u)(hp:h.objs.size<=a)(new:kH P w (upd H a o) h' a o):ku P w (upd H a o) h':=λb u e=>by
 have hn:=x.fresh hp;by_cases hb:b=a
 ·subst hb;rw[hG] at e;cases e;exact new
 ·rw[fq hb] at e;exact(x b u e).ft (λc v _ q=>k c v q) (λc q=>by rw[fq (wt q hn)];exact q) λc xs q=>by rw[fq (wt q hn)];exact q
end
def Rd(H:Hp)(a:ah)(u:HO):Prop:=H a=some u\/∃ o,H a=some (.qf o u)
def Rd.ok{P:d5}(r:Rd H a u)(x:ku P w H h):kH P w H h a u:=by
 rcases r with r|⟨o,r⟩
 ·exact x a u r
 ·obtain⟨_,q⟩:=x a _ r;exact q
def Pt:Option HO->Prop
 |some (.lst _)=>True
 |some (.dK _)=>True
 |some (.dT _)=>True
 |some (.set _ _)=>True
 |some (.ins _ _ _)=>True
 |some (.ext _)=>True
 |_=>False
section
variable {P:d5}{w:eJ}{H:Hp}{h h':dy}{x e:ah}{o':HO}
def ku.write(ok:ku P w H h)(mu:Pt (H x))(he:e=x\/H e=some (.own x))(k:∀ b u,b≠e->h.get? b=some u->h'.get? b=some u)(NR:∃ u,h'.get? e=some u)(new:kH P w (upd H x o') h' x o'):ku P w (upd H x o') h':=λb u q=>by
 have ZK:∀ c y,H c=some (.own y)->c≠x:=λc y r z=>by subst z;rw[r] at mu;exact mu
 have dk':∀ c xs,H c=some (.tup xs)->c≠x:=λc xs r z=>by subst z;rw[r] at mu;exact mu
 by_cases hb:b=x
 ·subst hb;rw[hG] at q;cases q;exact new
 ·rw[fq hb] at q;by_cases JA:b=e
  ·have q':H b=some (.own x):=by
    rcases he with z|z
    ·exact absurd (JA.trans z) hb
    ·rw[JA];exact z
   rw[q] at q';cases q';obtain⟨v,hv⟩:=NR;exact⟨v,by rw[JA];exact hv⟩
  ·refine(ok b u q).ft (λc v hc r=>k c v ?_ r) (λc r=>by rw[fq (ZK c b r)];exact r) λc xs r=>by rw[fq (dk' c xs r)];exact r
   rcases hc with rfl|hc
   ·exact JA
   ·rintro rfl;rcases he with z|z
    ·exact ZK c b hc z
    ·rw[hc] at z;cases z;exact hb rfl
end
structure Un(fs ex:List ah)(H H':Hp)(h h':dy):Prop where
 keep:∀ b o,h.get? b=some o->H b=none->b∉fs->b∉ex->h'.get? b=some o
 slot:∀ b o,h.get? b=some o->H b=none->b∈fs->b∉ex->∃ sl,h'.get? b=some { o with slots:=sl }
 free:∀ b o,h.get? b=some o->H b=none->b∉ex->H' b=none
 there:∀ b o,h.get? b=some o->b∉ex->∃ o',h'.get? b=some o'
 k8:∀ b xs,H b=some (.tup xs)->H' b=some (.tup xs)
 EB:∀ b o u,H b=some (.qf o u)->H' b=some (.qf o u)
 FD:∀ b ps,H b=some (.Jn ps)->∃ more,H' b=some (.Jn (ps++more))
section
variable {fs ex:List ah}{H H1:Hp}{h h1 h':dy}{a x e:ah}{o:HO}
def Un.any(u:Un fs ex H H1 h h1)(q:h.get? b=some ob)(n:H b=none)(hx:b∉ex):∃ sl,h1.get? b=some { ob with slots:=sl }:=by
 by_cases hb:b∈fs
 ·exact u.slot b ob q n hb hx
 ·exact⟨ob.slots,u.keep b ob q n hb hx⟩
def Un.kept(k:∀ b u,h.get? b=some u->h'.get? b=some u):Un fs ex H H h h' :=
 ⟨λb ob q _ _ _=>k b ob q,λb ob q _ _ _=>⟨ob.slots,k b ob q⟩,λ_ _ _ n _=>n,λb ob q _=>⟨ob,k b ob q⟩,λ_ _ q=>q,λ_ _ _ q=>q,λ_ ps q=>⟨#[],by rw[q];simp⟩⟩
def Un.refl:Un fs ex H H h h:=Un.kept λ_ _ q=>q
def Un.laid(k:∀ b u,h.get? b=some u->h'.get? b=some u)(hp:h.objs.size<=a)(hn:H a=none):Un fs ex H (upd H a o) h h' where
 keep:=λb u q _ _ _=>k b u q
 slot:=λb u q _ _ _=>⟨u.slots,k b u q⟩
 free:=λb u q n _=>by rw[fq (gp (oz (e9 q) hp))];exact n
 there:=λb u q _=>⟨u,k b u q⟩
 k8:=λb xs q=>by rw[fq (wt q hn)];exact q
 EB:=λb u xs q=>by rw[fq (wt q hn)];exact q
 FD:=λb ps q=>⟨#[],by rw[fq (wt q hn),q];simp⟩
def Un.write(mu:Pt (H x))(he:e=x\/H e=some (.own x))(k:∀ b u,b≠e->h.get? b=some u->h'.get? b=some u)(NR:∃ u,h'.get? e=some u):Un fs ex H (upd H x o) h h':=by
 have hx:∀ b,H b=none->b≠x:=λb n z=>by subst z;rw[n] at mu;exact mu
 have hb:∀ b,H b=none->b≠e:=λb n z=>by
  subst z;rcases he with r|r
  ·exact hx b n r
  ·rw[n] at r;cases r
 have hm:∀ b u,H b=some u->¬ Pt (some u)->b≠x:=λb u q nm z=>by subst z;rw[q] at mu;exact nm mu
 refine⟨λb u q n _ _=>k b u (hb b n) q,λb u q n _ _=>⟨u.slots,k b u (hb b n) q⟩,λb u q n _=>by rw[fq (hx b n)];exact n,λb u q _=>?_,
  λb xs q=>by rw[fq (hm b _ q λz=>z)];exact q,λb u xs q=>by rw[fq (hm b _ q λz=>z)];exact q,λb ps q=>⟨#[],by rw[fq (hm b _ q λz=>z),q];simp⟩⟩
 by_cases JA:b=e
 ·subst JA;exact NR
 ·exact⟨u,k b u JA q⟩
end
def R6(h:dy)(H:Hp):List ah:=(List.range h.objs.size).filter λa=>(H a).isSome
def EC(h:dy)(H:Hp):dy:=PySem.W.hideAll h (R6 h H)
def dl'(h:dy)(H:Hp):(EC h H).objs.size=h.objs.size:=PySem.W.hideAll_size _ _
def dm'(e:h.get? b=some o)(n:H b=none):(EC h H).get? b=some o :=
 PySem.W.hideAll_get _ e λhm=>by have q:(H b).isSome=true:=(ot.mp hm).2;rw[n] at q;simp at q
def dq'(e:(EC h H).get? b=some o):h.get? b=some o/\H b=none:=by
 have e':h.get? b=some o:=PySem.W.of_hideAll (R6 h H) e;refine⟨e',?_⟩
 cases q:H b with
 |none=>rfl
 |some x =>have hm:b∈R6 h H:=ot.mpr ⟨ox.mpr (e9 e'),by simp[q]⟩;have z:(EC h H).get? b=none:=PySem.W.hideAll_none (R6 h H) hm;rw[z] at e;cases e
def dr'(g h:dy)(L:ah):List (ah × Obj):=(List.range h.objs.size).filterMap λa=>if a=L\/(g.get? a).isSome=true then none else (h.get? a).map λo=>(a,o)
def rest(g h:dy)(L d:ah):List (ah × Obj):=(dr' g h L).filter λp=>decide (p.1≠d)
structure Mod(K:aC)(mg:Str->Option ae)(base:dy):Prop where
 wx:K.In base
 glob:base.Ns kr mg
 blt:∃ mb,base.Ns builtinsNs mb/\∀ x:Str,x ≠ "__name__"->mb x=ll x
 nolimit:base.NoLimit
structure Cx where
 prog:d5
 w:eJ
 K:aC
 mg:Str->Option ae
 base:dy
 A:fh
 N:List Str
 kS:ax
 Pu:Hp
 env:Env
 outer:List Env
 stack:List Env
 ex:List ah
 fn:Str->Bool
 calm:Bool
 pn:List (ah × Obj)
 xe:ae->ax->Prop
def A7(l:List Env):List ah:=l.filterMap (·.frame)
abbrev Cx.fs(X:Cx):List ah:=A7 X.outer
def R7(sc:Scope)(x:Str):Prop:=sc.names.lookup x=some .local\/sc.names.lookup x=some .cell\/sc.names.lookup x=some .free
def Loc(sc:Scope)(x:Str):Prop:=sc.names.lookup x=some .local\/sc.names.lookup x=some .cell
def Look(env:Env)(h:dy)(m:Str->Option ae)(x:Str)(u:ae):Prop :=
 (env.kindOf x=some .local/\m x=some u)\/((env.kindOf x=some .cell\/env.kindOf x=some .free)/\∃ c,env.cells.lookup x=some c/\h.IsCell c (some u))
structure Cx.Ok(X:Cx):Prop where
 mod:Mod X.K X.mg X.base
 kind:X.env.scope.kind=.function
 glob:X.env.globals=kr
 blt:X.env.builtins=builtinsNs
 above:X.kS.heap.objs.size<=X.env.locals
 inj:∀ x y c,X.env.cells.lookup x=some c->X.env.cells.lookup y=some c->x=y
 has:∀ x,(X.env.kindOf x=some .cell\/X.env.kindOf x=some .free)->∃ c,X.env.cells.lookup x=some c
 Pw:∀ x c,X.fn x=true->X.env.cells.lookup x=some c->X.kS.heap.objs.size<=c
 hd:X.calm=true->X.A.handled=none
 frames:X.A.frames=some X.stack
 R8:X.stack=X.outer\/(X.stack=X.env :: X.outer/\X.env.frame=some X.env.locals)
 R9:∀ b∈X.ex,b≠X.env.locals/\∀ x c,X.env.cells.lookup x=some c->c≠b
 bs:∀ b o,X.base.get? b=some o->X.kS.heap.get? b=some o/\X.Pu b=none
 FE:X.base.objs.size<=X.kS.heap.objs.size
 Px:∀ b o,X.base.get? b=some o->b∉X.ex
 Py:∀ b∈X.ex,b∉X.fs
 A8:X.kS.heap.FunFrames X.base X.outer
 NS:∀ b∈X.fs,X.Pu b=none
structure Inv(X:Cx)(pins:List (ah × Obj))(σ:List (Option V))(H:Hp)(s:ax):Prop where
 ok:X.Ok
 os:s.os=X.kS.os
 bare:AllBare s.gens
 base:Un X.fs X.ex X.Pu H X.kS.heap s.heap
 loc:∃ m,s.heap.Ns X.env.locals m/\∀ (i:Nat) (x:Str) (v:V),X.N[i]? = some x->σ[i]? = some (some v)->R7 X.env.scope x->∃ u,RelV v u/\Look X.env s.heap m x u
 cell:∀ x c,X.env.cells.lookup x=some c->∃ v,s.heap.IsCell c v
 free:H X.env.locals=none
 A9:∀ x c,X.env.cells.lookup x=some c->H c=none
 pin:∀ p∈X.pn++pins,s.heap.get? p.1=some p.2/\H p.1=none/\p.1≠X.env.locals/\p.1∉X.fs/\∀ v,p.2.data≠.cell v
 b5:ku X.prog X.w H s.heap
 len:σ.length=X.N.length
section
variable {X:Cx}{pins:List (ah × Obj)}{σ:List (Option V)}{H H':Hp}{s:ax}{h':dy}
def Cx.Ok.ds'(ok:X.Ok)(e:X.base.get? b=some o):b∉X.fs:=λhb=>by have:=(ok.A8.mem hb).1;rw[e] at this;cases this
def Inv.bs(I:Inv X pins σ H s):∀ b o,X.base.get? b=some o->s.heap.get? b=some o/\H b=none:=λb o e =>
 ⟨I.base.keep b o (I.ok.bs b o e).1 (I.ok.bs b o e).2 (I.ok.ds' e) (I.ok.Px b o e),I.base.free b o (I.ok.bs b o e).1 (I.ok.bs b o e).2 (I.ok.Px b o e)⟩
def Inv.bk(I:Inv X pins σ H s):∀ b o,X.base.get? b=some o->s.heap.get? b=some o:=λb o e=>(I.bs b o e).1
def Inv.mod(I:Inv X pins σ H s):Mod X.K X.mg X.base:=I.ok.mod
def Inv.mz(I:Inv X pins σ H s):X.K.In s.heap:=I.ok.mod.wx.keeps I.bk
def Inv.lt(I:Inv X pins σ H s):X.env.locals<s.heap.objs.size:=let ⟨_,hn,_⟩:=I.loc;hn.lt
def Inv.sz(I:Inv X pins σ H s):X.kS.heap.objs.size<=s.heap.objs.size:=iS I.ok.above (sQ I.lt)
def Inv.dt'(I:Inv X pins σ H s)(h:s.heap.objs.size<=a):a∉X.fs:=λhb=>by obtain⟨_,o,ho,_⟩:=I.ok.A8.mem hb;exact absurd (oz (e9 ho) (iS I.sz h)) (wq _)
def Inv.JJ(I:Inv X pins σ H s):∀ x c,X.env.cells.lookup x=some c->c≠X.env.locals:=λx c e z=>by obtain⟨v,o,ho,hd⟩:=I.cell x c e;obtain⟨m,⟨o',es,ep,oB,U5,_⟩,_⟩:=I.loc;rw[z,oB] at ho;cases ho;rw[U5] at hd;cases hd
def Inv.A8(I:Inv X pins σ H s):s.heap.FunFrames X.base X.outer:=by
 have all:∀ l,(∀ b∈A7 l,b∈X.fs)->X.kS.heap.FunFrames X.base l->s.heap.FunFrames X.base l:=by
  intro l
  induction l with
  |nil=>intro _ _;trivial
  |cons env r ih =>intro hs hl;obtain⟨hk,⟨L,o,hf,hn,ho,hd⟩,hr⟩:=hl;have hL:L∈X.fs:=hs L (by unfold A7;rw[Pg,hf];exact cy);obtain⟨sl,e⟩:=I.base.slot L o ho (I.ok.NS L hL) hL λz=>I.ok.Py L z hL;exact⟨hk,⟨L,_,hf,hn,e,hd⟩,ih (λb hb=>hs b (by unfold A7;rw[Pg,hf];exact c9 _ hb)) hr⟩
 exact all X.outer (λ_ hb=>hb) I.ok.A8
def Inv.stack(I:Inv X pins σ H s):s.heap.FunFrames X.base X.stack:=by
 rcases I.ok.R8 with e|⟨e,hf⟩
 ·rw[e];exact I.A8
 ·rw[e];obtain⟨m,hn,_⟩:=I.loc;refine .cons (by rw[I.ok.kind];decide) hf hn ?_ I.A8;exact Heap.get?_none_of_le (iS I.ok.FE I.ok.above)
def Inv.U6(I:Inv X pins σ H s):∀ b∈A7 X.stack,b∈X.env.locals :: X.fs:=λb hb=>by
 rcases I.ok.R8 with e|⟨e,hf⟩
 ·rw[e] at hb;exact c9 _ hb
 ·rw[e] at hb;unfold A7 at hb;rw[Pg,hf] at hb;exact hb
def Inv.ZL(I:Inv X pins σ H s):∀ b∈A7 X.stack,H b=none:=λb hb=>by
 rcases eK.mp (I.U6 b hb) with e|hb
 ·rw[e];exact I.free
 ·obtain⟨_,o,ho,_⟩:=I.ok.A8.mem hb;exact I.base.free b o ho (I.ok.NS b hb) λz=>I.ok.Py b z hb
def Inv.step{g':Array GenState}{t':Nat}{d':Drawn}{ch:List ah}(I:Inv X pins σ H s)(zS:∀ b∈ch,(b∈X.ex\/X.kS.heap.objs.size<=b)/\b≠X.env.locals/\(∀ x c,X.env.cells.lookup x=some c->c≠b)/\∀ p∈X.pn++pins,p.1≠b)(keep:∀ b o,b≠X.env.locals->b∉X.fs->b∉ch->s.heap.get? b=some o->H b=none->h'.get? b=some o)(slot:∀ b o,b≠X.env.locals->b∈X.fs->b∉ch->s.heap.get? b=some o->H b=none->∃ sl,h'.get? b=some { o with slots:=sl }) (free:∀ b o,b∉ch->s.heap.get? b=some o->H b=none->H' b=none) (there:∀ b o,b∉ch->s.heap.get? b=some o->∃ o',h'.get? b=some o') (k8:∀ b xs,H b=some (.tup xs)->H' b=some (.tup xs)) (EB:∀ b o u,H b=some (.qf o u)->H' b=some (.qf o u)) (FD:∀ b ps,H b=some (.Jn ps)->∃ more,H' b=some (.Jn (ps++more))) (ns:∀ m,s.heap.Ns X.env.locals m->h'.Ns X.env.locals m) (b5:ku X.prog X.w H' h') (hg:AllBare g') :
  Inv X pins σ H' { s with heap:=h',gens:=g',drawn:=d',toks:=t' }:=by
 have ZM:∀ b o,X.kS.heap.get? b=some o->b≠X.env.locals:=λb o e=>gp (oz (e9 e) I.ok.above);have R_:∀ b o,X.kS.heap.get? b=some o->b∉X.ex->b∉ch:=λb o e hx hb=>by
  rcases (zS b hb).1 with z|z
  ·exact hx z
  ·exact absurd (oz (e9 e) z) (wq _)
 have cellK:∀ x c,X.env.cells.lookup x=some c->∀ v,s.heap.IsCell c v->h'.IsCell c v:=λx c e v eM=>by
  obtain⟨o,ho,hd⟩:=eM;have Pz:c∉ch:=λz=>(zS c z).2.2.1 x c e rfl;by_cases hc:c∈X.fs
  ·obtain⟨sl,q⟩:=slot c o (I.JJ x c e) hc Pz ho (I.A9 x c e);exact⟨_,q,hd⟩
  ·exact⟨o,keep c o (I.JJ x c e) hc Pz ho (I.A9 x c e),hd⟩
 refine⟨I.ok,I.os,hg,⟨λb o e n hb hx=>?_,λb o e n hb hx=>?_,λb o e n hx=>?_,λb o e hx=>?_,λb xs e=>k8 b xs (I.base.k8 b xs e),λb o xs e=>EB b o xs (I.base.EB b o xs e),λb ps e=>?_⟩,?_,λx c e=>?_,?_,λx c e=>?_,λp hp=>?_,b5,I.len⟩
 ·exact keep b o (ZM b o e) hb (R_ b o e hx) (I.base.keep b o e n hb hx) (I.base.free b o e n hx)
 ·obtain⟨sl,e1⟩:=I.base.slot b o e n hb hx;obtain⟨sl',e2⟩:=slot b _ (ZM b o e) hb (R_ b o e hx) e1 (I.base.free b o e n hx);exact⟨sl',e2⟩
 ·obtain⟨o',e1⟩:=I.base.there b o e hx;exact free b o' (R_ b o e hx) e1 (I.base.free b o e n hx)
 ·obtain⟨o',e1⟩:=I.base.there b o e hx;exact there b o' (R_ b o e hx) e1
 ·obtain⟨m1,e1⟩:=I.base.FD b ps e;obtain⟨m2,e2⟩:=FD b _ e1;exact⟨m1++m2,by rw[e2,R1]⟩
 ·obtain⟨m,hn,hl⟩:=I.loc;refine⟨m,ns m hn,λi x v e1 e2 e3=>?_⟩;obtain⟨u,r,l⟩:=hl i x v e1 e2 e3;refine⟨u,r,?_⟩;rcases l with l|⟨k,c,e,z⟩
  ·exact .inl l
  ·exact .inr ⟨k,c,e,cellK x c e _ z⟩
 ·obtain⟨v,z⟩:=I.cell x c e;exact⟨v,cellK x c e v z⟩
 ·obtain⟨m,⟨o,_,_,ho,_⟩,_⟩:=I.loc;exact free _ o (λz=>(zS _ z).2.1 rfl) ho I.free
 ·obtain⟨v,o,ho,hd⟩:=I.cell x c e;exact free c o (λz=>(zS c z).2.2.1 x c e rfl) ho (I.A9 x c e)
 ·obtain⟨e,n,ne,nf,d⟩:=I.pin p hp;have Pz:p.1∉ch:=λz=>(zS p.1 z).2.2.2 p hp rfl;exact⟨keep p.1 p.2 ne nf Pz e n,free p.1 p.2 Pz e n,ne,nf,d⟩
def Inv.un{t':Nat}(I:Inv X pins σ H s)(u:Un X.fs [] H H' s.heap h')(b5:ku X.prog X.w H' h'):Inv X pins σ H' { s with heap:=h',toks:=t' }:=by
 obtain⟨m,⟨o,es,ep,ho,r⟩,_⟩:=id I.loc;obtain⟨sl,hL⟩:=u.any ho I.free (by simp);exact I.step (ch:=[]) (λ_ z=>nomatch z) (λb o _ hb _ e n=>u.keep b o e n hb (by simp)) (λb o _ hb _ e n=>u.slot b o e n hb (by simp)) (λb o _ e n=>u.free b o e n (by simp)) (λb o _ e=>u.there b o e (by simp)) u.k8 u.EB u.FD (λm' hm=>by
  obtain⟨o',U7,PB,oB,r'⟩:=hm;rw[ho] at oB;cases oB;exact⟨_,U7,PB,hL,r'⟩) b5 I.bare
def Inv.call{g':Array GenState}{t':Nat}{d':Drawn}{ch:List ah}(I:Inv X pins σ H s)(u:Un (A7 X.stack) ch H H' s.heap h')(b5:ku X.prog X.w H' h')(hg:AllBare g')(zS:∀ b∈ch,(b∈X.ex\/X.kS.heap.objs.size<=b)/\b≠X.env.locals/\(∀ x c,X.env.cells.lookup x=some c->c≠b)/\∀ p∈X.pn++pins,p.1≠b) :
  Inv X pins σ H' { s with heap:=h',gens:=g',drawn:=d',toks:=t' }:=by
 obtain⟨m,⟨o,es,ep,ho,r⟩,_⟩:=id I.loc;obtain⟨sl,hL⟩:=u.any ho I.free λz=>(zS _ z).2.1 rfl;exact I.step zS (λb o hL hb hc e n=>u.keep b o e n (λz=>(eK.mp (I.U6 b z)).elim hL hb) hc) (λb o _ _ hc e n=>u.any e n hc) (λb o hc e n=>u.free b o e n hc) (λb o hc e=>u.there b o e hc) u.k8 u.EB u.FD (λm' hm=>by
  obtain⟨o',U7,PB,oB,r'⟩:=hm;rw[ho] at oB;cases oB;exact⟨_,U7,PB,hL,r'⟩) b5 hg
def Inv.turned{t':Nat}{it:ah}(I:Inv X pins σ H s)(k:∀ b o,b≠it->s.heap.get? b=some o->h'.get? b=some o)(hn:H it=none)(hL:it≠X.env.locals)(h1:it∈X.ex\/X.kS.heap.objs.size<=it) (h2:∀ x c,X.env.cells.lookup x=some c->c≠it) (h3:∀ p∈X.pn++pins,p.1≠it):Inv X pins σ H { s with heap:=h',toks:=t' }:=by
 have FG:∀ b u,H b=some u->b≠it:=λb u e z=>by rw[z,hn] at e;cases e
 refine I.step (ch:=[it]) (λb hb=>?_) (λb o _ _ hc e _=>k b o (λz=>hc (by simp[z])) e) (λb o _ _ hc e _=>⟨o.slots,k b o (λz=>hc (by simp[z])) e⟩) (λ_ _ _ _ n=>n) (λb o hc e=>⟨o,k b o (λz=>hc (by simp[z])) e⟩) (λ_ _ e=>e) (λ_ _ _ e=>e) (λb ps e=>⟨#[],by rw[e];simp⟩) (λm hm=>?_) (λb u e=>?_) I.bare
 ·have e:b=it:=by simpa using hb
  subst e;exact⟨h1,hL,h2,h3⟩
 ·obtain⟨o,es,ep,ho,r⟩:=hm;exact⟨o,es,ep,k _ o (Ne.symm hL) ho,r⟩
 ·refine(I.b5 b u e).ft (λc v hc q=>k c v ?_ q) (λ_ q=>q) λ_ _ q=>q;rcases hc with z|z
  ·rw[z];exact FG b u e
  ·exact FG c _ z
def Inv.tok(I:Inv X pins σ H s)(t:Nat):Inv X pins σ H { s with toks:=t }:=I.un Un.refl I.b5
def Inv.kept(I:Inv X pins σ H s)(k:∀ b u,s.heap.get? b=some u->h'.get? b=some u):Inv X pins σ H { s with heap:=h',toks:=t' }:=I.un (Un.kept k) (I.b5.kept k)
def Inv.laid(I:Inv X pins σ H s)(k:∀ b u,s.heap.get? b=some u->h'.get? b=some u)(hp:s.heap.objs.size<=a)(new:kH X.prog X.w (upd H a o) h' a o) :
  Inv X pins σ (upd H a o) { s with heap:=h',toks:=t' }:=I.un (Un.laid k hp (I.b5.fresh hp)) (I.b5.laid k hp new)
def Inv.write(I:Inv X pins σ H s)(mu:Pt (H x))(he:e=x\/H e=some (.own x))(k:∀ b u,b≠e->s.heap.get? b=some u->h'.get? b=some u)(NR:∃ u,h'.get? e=some u)(new:kH X.prog X.w (upd H x o) h' x o):Inv X pins σ (upd H x o) { s with heap:=h',toks:=t' }:=I.un (Un.write mu he k NR) (I.b5.write mu he k NR new)
def Inv.ZN(I:Inv X pins σ H s)(h:∀ p∈dv',s.heap.get? p.1=some p.2/\H p.1=none/\p.1≠X.env.locals/\p.1∉X.fs/\∀ v,p.2.data≠.cell v):Inv X dv' σ H s :=
 ⟨I.ok,I.os,I.bare,I.base,I.loc,I.cell,I.free,I.A9,λp hp=>(dP.mp hp).elim (λz=>I.pin p (i9 _ z)) (h p),I.b5,I.len⟩
def ZO{N:List Str}(hN:N.Nodup){i j:Nat}{x:Str}(a:N[i]? = some x)(b:N[j]? = some x):i=j:=by obtain⟨h1,e1⟩:=iN.mp a;obtain⟨h2,e2⟩:=iN.mp b;exact(List.getElem_inj hN).mp (e1.trans e2.symm)
def ZP{M:Model}{A:fh}{E:ae->ax->Prop}{i:Nat}{x:Str}{v:V}{u:ae}{Q:Unit->ax->Prop}(I:Inv X pins σ H s)(hN:X.N.Nodup)(hi:X.N[i]? = some x)(hx:Loc X.env.scope x)(r:RelV v u)(h:∀ s',Inv X pins (σ.set i (some v)) H s'->(∃ a,Heap.SameBut a s.heap s'.heap/\(a=X.env.locals\/X.env.cells.lookup x=some a))->Q () s') (hf:X.fn x=true\/X.env.scope.names.lookup x=some .local:=by first|exact .inl rfl|exact .inr rfl|assumption):bP M A (storeName X.env x u) Q E s:=by
 obtain⟨m,hn,hl⟩:=id I.loc;have dw':(X.env.scope.kind == .class || (X.env.scope.kind == .module && X.env.locals != X.env.globals))=false:=by rw[I.ok.kind];rfl
 have ZQ:i<σ.length:=by rw[I.len];exact(iN.mp hi).1
 have JJ:=I.JJ;have tracked:∀ {a:ah} {h':dy},(∃ o,s.heap.get? a=some o/\H a=none)->Heap.SameBut a s.heap h'->ku X.prog X.w H h':=λ{a h'} ha hs b ob e=>by
  obtain⟨_,_,ZR⟩:=ha;refine(I.b5 b ob e).ft (λc w' hc q=>(hs.2 c ?_).trans q) (λ_ q=>q) λ_ _ q=>q;rintro rfl;rcases hc with rfl|hc
  ·rw[ZR] at e;cases e
  ·rw[ZR] at hc;cases hc
 rcases hx with hk|hk
 ·refine wpAny_storeName_local hk hn (λh' U8 hs=>?_) dw';obtain⟨oL,_,_,z0,_⟩:=id hn;refine h _ ⟨I.ok,I.os,I.bare,⟨λb o e n hb hx=>?_,λb o e n hb hx=>?_,I.base.free,λb o e hx=>?_,I.base.k8,I.base.EB,I.base.FD⟩,⟨_,U8,λj y v' e1 e2 e3=>?_⟩,λy c e=>?_,I.free,I.A9,λp hp=>?_,tracked ⟨oL,z0,I.free⟩ hs,by simpa using I.len⟩ ⟨_,hs,.inl rfl⟩
  ·exact(hs.2 b (gp (oz (e9 e) I.ok.above))).trans (I.base.keep b o e n hb hx)
  ·obtain⟨sl,e1⟩:=I.base.slot b o e n hb hx;exact⟨sl,(hs.2 b (gp (oz (e9 e) I.ok.above))).trans e1⟩
  ·obtain⟨o',e1⟩:=I.base.there b o e hx;exact⟨o',(hs.2 b (gp (oz (e9 e) I.ok.above))).trans e1⟩
  ·by_cases hj:j=i
   ·subst hj;rw[hi] at e1;cases e1;rw[UA ZQ] at e2;cases e2;exact⟨u,r,.inl ⟨hk,by simp⟩⟩
   ·rw[Pb (Ne.symm hj)] at e2;obtain⟨u',r',q⟩:=hl j y v' e1 e2 e3;refine⟨u',r',?_⟩;rcases q with⟨k,e⟩|⟨k,c,e,z⟩
    ·refine .inl ⟨k,?_⟩;have:y≠x:=λe=>hj (ZO hN e1 (e ▸ hi));simp[this,e]
    ·exact .inr ⟨k,c,e,z.sameBut hs (JJ y c e)⟩
  ·obtain⟨w',z⟩:=I.cell y c e;exact⟨w',z.sameBut hs (JJ y c e)⟩
  ·obtain⟨e,n,ne,nf,d⟩:=I.pin p hp;exact⟨(hs.2 p.1 ne).trans e,n,ne,nf,d⟩
 ·have U9:X.fn x=true:=by
   rcases hf with z|z
   ·exact z
   ·rw[z] at hk;cases hk
  obtain⟨c,hc⟩:=I.ok.has x (.inl hk);obtain⟨w',z⟩:=I.cell x c hc;refine wpAny_storeName_cell I.ok.kind hk hc z (λh' tf hs=>?_);obtain⟨oc,Sb,dx'⟩:=id z;refine h { s with heap:=h' } ⟨I.ok,I.os,I.bare,⟨λb o e n hb hx=>?_,λb o e n hb hx=>?_,I.base.free,λb o e hx=>?_,I.base.k8,I.base.EB,I.base.FD⟩,⟨m,hn.sameBut hs (Ne.symm (JJ x c hc)),λj y v' e1 e2 e3=>?_⟩,λy c' e=>?_,I.free,I.A9,λp hp=>?_,tracked ⟨oc,Sb,I.A9 x c hc⟩ hs,by simpa using I.len⟩ ⟨c,hs,.inr hc⟩
  ·exact(hs.2 b (gp (oz (e9 e) (I.ok.Pw x c U9 hc)))).trans (I.base.keep b o e n hb hx)
  ·obtain⟨sl,e1⟩:=I.base.slot b o e n hb hx;exact⟨sl,(hs.2 b (gp (oz (e9 e) (I.ok.Pw x c U9 hc)))).trans e1⟩
  ·obtain⟨o',e1⟩:=I.base.there b o e hx;exact⟨o',(hs.2 b (gp (oz (e9 e) (I.ok.Pw x c U9 hc)))).trans e1⟩
  ·by_cases hj:j=i
   ·subst hj;rw[hi] at e1;cases e1;rw[UA ZQ] at e2;cases e2;exact⟨u,r,.inr ⟨.inl hk,c,hc,tf⟩⟩
   ·rw[Pb (Ne.symm hj)] at e2;obtain⟨u',r',q⟩:=hl j y v' e1 e2 e3;refine⟨u',r',?_⟩;rcases q with q|⟨k,c',e,z'⟩
    ·exact .inl q
    ·refine .inr ⟨k,c',e,z'.sameBut hs ?_⟩;rintro rfl;exact hj (ZO hN e1 (I.ok.inj _ _ _ e hc ▸ hi))
  ·by_cases Sd:c'=c
   ·subst Sd;exact⟨_,tf⟩
   ·obtain⟨w2,z2⟩:=I.cell y c' e;exact⟨w2,z2.sameBut hs Sd⟩
  ·obtain⟨e,n,ne,nf,d⟩:=I.pin p hp;refine⟨(hs.2 p.1 ?_).trans e,n,ne,nf,d⟩;intro q;rw[q,Sb] at e;have q':oc=p.2:=Option.some.inj e;exact d w' (by rw[<- q'];exact dx')
def ZS(I:Inv X pins σ H s)(hN:X.N.Nodup)(hi:X.N[i]? = some x)(hx:Loc X.env.scope x)(r:RelV v u)(h:∀ s',Inv X pins (σ.set i (some v)) H s'->Q () s') (hf:X.fn x=true\/X.env.scope.names.lookup x=some .local:=by first|exact .inl rfl|exact .inr rfl|assumption):bP M A (storeName X.env x u) Q E s :=
 ZP I hN hi hx r (λs' I' _=>h s' I') hf
def Inv.dy'(I:Inv X pins σ H s)(ho:s'.os=s.os)(u:Un (A7 X.stack) ch H H' s.heap s'.heap)(b5:ku X.prog X.w H' s'.heap)(hg:AllBare s'.gens)(zS:∀ b∈ch,(b∈X.ex\/X.kS.heap.objs.size<=b)/\b≠X.env.locals/\(∀ x c,X.env.cells.lookup x=some c->c≠b)/\∀ p∈X.pn++pins,p.1≠b):Inv X pins σ H' s':=by
 obtain⟨h',g',d',t',o'⟩:=s';have e:o'=s.os:=ho;subst e;exact I.call u b5 hg zS
end
abbrev XK:=ae->Option ah->Hp->Prop
abbrev St:=List (Option V)
abbrev VK:=V->Hp->Prop
abbrev TE:=St->Hp->VK->Prop
abbrev TT:=St->Hp->(Bool->Hp->Prop)->Prop
abbrev TA:=St->Hp->(List V->Hp->Prop)->Prop
structure Ends where
 nx:St->Hp->Prop
 rt:VK
 bk:St->Hp->Prop:=fun _ _=>False
 ct:St->Hp->Prop:=fun _ _=>False
abbrev TS:=Ends->St->Hp->Prop
def EP(X:Cx)(pins:List (ah × Obj))(σ:St)(Q:VK)(u:ae)(s':ax):Prop:=∃ v H',Inv X pins σ H' s'/\RelV v u/\Q v H'
def TP(X:Cx)(pins:List (ah × Obj))(σ:St)(Q:Bool->Hp->Prop)(b:Bool)(s':ax):Prop:=∃ H',Inv X pins σ H' s'/\Q b H'
def AP(X:Cx)(pins:List (ah × Obj))(σ:St)(Q:List V->Hp->Prop)(us:List ae)(s':ax):Prop:=∃ vs H',Inv X pins σ H' s'/\Vals vs us/\Q vs H'
def SP(X:Cx)(pins:List (ah × Obj))(D:Ends)(f:Flow)(s':ax):Prop :=
 match f with
 |.next=>∃ cv H',Inv X pins cv H' s'/\D.nx cv H'
 |.brk=>∃ cv H',Inv X pins cv H' s'/\D.bk cv H'
 |.cont=>∃ cv H',Inv X pins cv H' s'/\D.ct cv H'
 |.ret u=>∃ v cv H',Inv X pins cv H' s'/\RelV v u/\D.rt v H'
def PE(X:Cx)(e:Expr)(t:TE):Prop :=
 ∀ (pins:List (ah × Obj)) (s:ax) (σ:St) (H:Hp) (Q:VK),Inv X pins σ H s->t σ H Q->bP (aS X.prog X.w) X.A (df e X.env) (EP X pins σ Q) X.xe s
def PT(X:Cx)(e:Expr)(t:TT):Prop :=
 ∀ (pins:List (ah × Obj)) (s:ax) (σ:St) (H:Hp) (Q:Bool->Hp->Prop),Inv X pins σ H s->t σ H Q->bP (aS X.prog X.w) X.A (isTrue e X.env (df e X.env)) (TP X pins σ Q) X.xe s
def PW(X:Cx)(e:Expr)(t:TT):Prop :=
 ∀ (whole:Sem ae) (pins:List (ah × Obj)) (s:ax) (σ:St) (H:Hp) (Q:Bool->Hp->Prop),Inv X pins σ H s->t σ H Q->bP (aS X.prog X.w) X.A (isTrue e X.env whole) (TP X pins σ Q) X.xe s
def PA(X:Cx)(es:List Expr)(t:TA):Prop :=
 ∀ (pos:Pos) (pins:List (ah × Obj)) (s:ax) (σ:St) (H:Hp) (Q:List V->Hp->Prop),Inv X pins σ H s->t σ H Q->bP (aS X.prog X.w) X.A (spliced (kQ pos (b6 es X.env))) (AP X pins σ Q) X.xe s
def PS(X:Cx)(st:Stmt)(t:TS):Prop :=
 ∀ (pins:List (ah × Obj)) (s:ax) (σ:St) (H:Hp) (D:Ends),Inv X pins σ H s->t D σ H->bP (aS X.prog X.w) X.A (exec st X.env) (SP X pins D) X.xe s
def nv(X:Cx)(st:List Stmt)(t:TS):Prop :=
 ∀ (pins:List (ah × Obj)) (s:ax) (σ:St) (H:Hp) (D:Ends),Inv X pins σ H s->t D σ H->bP (aS X.prog X.w) X.A (execs st X.env) (SP X pins D) X.xe s
def dk{α:Type}{t:Sem α}{Q Q':α->ax->Prop}{M:Model}{A:fh}{E:ae->ax->Prop}{s:ax}(h:bP M A t Q E s)(hQ:∀ a s,Q a s->Q' a s):bP M A t Q' E s:=wc h hQ λ_ _ x=>x
section
variable {X:Cx}
def ED(i:Nat):TE:=λσ H Q=>∃ v,σ[i]? = some (some v)/\Q v H
def tC(v:V):TE:=λ_ H Q=>Q v H
def ZT (hN:X.N[i]? = some x) (hv:R7 X.env.scope x) (hd:(x == ("__debug__" : Str))=false:=by decide) (uS:(x == ("__classdict__" : Str))=false:=by decide):PE X (.Name x pos) (ED i):=by
 walk_at"z";obtain⟨v,e,h⟩:=h;obtain⟨m,hn,hl⟩:=I.loc;obtain⟨u,r,l⟩:=hl i x v hN e hv;have fin:EP X pins σ Q u s:=⟨v,H,I,r,h⟩
 rcases l with⟨hk,hm⟩|⟨hk,c,hc,ZU⟩
 ·exact wpAny_Name (wpAny_loadName_local I.ok.kind hk hn hm fin) hd
 ·rcases hk with hk|hk
  ·exact wpAny_Name (wpAny_loadName_cell I.ok.kind hk hc ZU fin) hd
  ·exact wpAny_Name (wpAny_loadName_free I.ok.kind hk hc ZU fin uS) hd
def dz'{i j pos}:PE X (.Constant (.int i) j pos) (tC (.int i)):=λ_ _ _ H _ I h=>wpAny_Constant_int ⟨.int i,H,I.tok _,⟨_,rfl⟩,h⟩
def dA'{b j pos}:PE X (.Constant (.bool b) j pos) (tC (.bl b)):=λ_ _ _ H _ I h=>Constant_bool ⟨.bl b,H,I,rfl,h⟩
def dB'{j pos}:PE X (.Constant .none j pos) (tC .non):=λ_ _ _ H _ I h=>Constant_none ⟨.non,H,I,rfl,h⟩
def dC'{x j pos}:PE X (.Constant (.str x) j pos) (tC (.str x)):=λ_ _ _ H _ I h=>Calls.Constant_str ⟨.str x,H,I.tok _,⟨_,rfl⟩,h⟩
def Gl(X:Cx)(x:Str):Prop:=X.env.kindOf x=some .globalImplicit
def ZV(I:Inv X pins σ H s)(hg:Gl X x)(hm:X.mg x=some u)(h:Q u s)(hd:(x == ("__debug__" : Str))=false:=by decide):bP (aS X.prog X.w) X.A (df (.Name x pos) X.env) Q E s :=
 Calls.Name_function_global I.ok.kind hg (Calls.loadGlobal_global (by rw[I.ok.glob];exact I.mod.glob.keeps I.bk) hm h) hd
def x5(I:Inv X pins σ H s)(hg:Gl X x)(hm:X.mg x=none)(hv:ll x=some u)(h:Q u s)(hn:x ≠ "__name__" := by decide) (hd:(x == ("__debug__" : Str))=false:=by decide):bP (aS X.prog X.w) X.A (df (.Name x pos) X.env) Q E s:=by
 obtain⟨mb,h1,h2⟩:=I.mod.blt;exact Calls.Name_function_global I.ok.kind hg (Calls.loadGlobal_builtin (by rw[I.ok.glob];exact I.mod.glob.keeps I.bk) hm (by rw[I.ok.blt];exact h1.keeps I.bk) ((h2 x hn).trans hv) h) hd
def ZW (hg:Gl X x) (hm:X.mg x=some u) (r:RelV v u) (hd:(x == ("__debug__" : Str))=false:=by decide):PE X (.Name x pos) (tC v) :=
 λ_ _ _ H _ I h=>ZV I hg hm ⟨v,H,I,r,h⟩ hd
def dD' (hg:Gl X x) (hm:X.mg x=none) (hv:ll x=some u) (r:RelV v u) (hn:x ≠ "__name__" := by decide) (hd:(x == ("__debug__" : Str))=false:=by decide):PE X (.Name x pos) (tC v) :=
 λ_ _ _ H _ I h=>x5 I hg hm hv ⟨v,H,I,r,h⟩ hn hd
variable {a b:Expr}{pos:Pos}
def tB(t:TE):TT:=λσ H Q=>t σ H λx H1=>∃ c,x=.bl c/\Q c H1
def dE'(h:PE X e t)(he:∀ whole,isTrue e X.env whole=(do let v <- whole;standAt e.pos;holding [v] (truthy v)):=by intro _;rfl):PT X e (tB t):=by intro pins s σ H Q I hw;refine isTrue_plain (dk (h pins s σ H _ I hw) λv s1 dv=>L2.g9 dv λx H1 I1 r1 q1=>?_) (he _);obtain⟨d,rfl,q⟩:=q1;cases r1;exact MQ ⟨H1,I1,q⟩
variable {tA Se:TT}{rest:List Expr}
def dF'(t u:TT):TT:=λσ H Q=>t σ H λc H1=>if c=true then u σ H1 Q else Q false H1
def tOr(t u:TT):TT:=λσ H Q=>t σ H λc H1=>if c=true then Q true H1 else u σ H1 Q
def dH'(t:TT):TT:=λσ H Q=>t σ H λc H1=>Q (!c) H1
def pw_and1(ha:PT X a tA):PW X (.BoolOp .And [a] pos) tA:=by
 intro wh pins s σ H Q I h;refine isTrue_and (dk (ha pins s σ H Q I h) λc s1 e=>?_)
 cases c with
 |true=>exact isTrue_and_nil e
 |false=>exact e
def pw_or1(ha:PT X a tA):PW X (.BoolOp .Or [a] pos) tA:=by
 intro wh pins s σ H Q I h;refine isTrue_or (dk (ha pins s σ H Q I h) λc s1 e=>?_)
 cases c with
 |false=>exact isTrue_or_nil e
 |true=>exact e
def pw_and(ha:PT X a tA)(hb:PW X (.BoolOp .And (b :: rest) pos) Se):PW X (.BoolOp .And (a :: b :: rest) pos) (dF' tA Se):=by
 intro wh pins s σ H Q I h;refine isTrue_and (dk (ha pins s σ H _ I h) λc s1 eM=>?_);obtain⟨H1,I1,q1⟩:=eM
 cases c with
 |true=>exact hb wh pins s1 σ H1 Q I1 q1
 |false=>exact⟨H1,I1,q1⟩
def pw_or(ha:PT X a tA)(hb:PW X (.BoolOp .Or (b :: rest) pos) Se):PW X (.BoolOp .Or (a :: b :: rest) pos) (tOr tA Se):=by
 intro wh pins s σ H Q I h;refine isTrue_or (dk (ha pins s σ H _ I h) λc s1 eM=>?_);obtain⟨H1,I1,q1⟩:=eM
 cases c with
 |true=>exact⟨H1,I1,q1⟩
 |false=>exact hb wh pins s1 σ H1 Q I1 q1
def dI'(ha:PT X a tA):PT X (.UnaryOp .Not a pos) (dH' tA):=by intro pins s σ H Q I h;exact isTrue_not (ha pins s σ H (λc H1=>Q (!c) H1) I h)
end
def fw(K:aC)(H:Hp)(a:ah)(xs:List V):Prop :=
 Rd H a (.lst xs) \/
  ∃ (o:Obj) (its:Array ae) (n:Nat),K.lookup a=some o/\o.cls=.type "list"/\o.dict=none/\o.data=.seq its n/\its.size<=bq/\Vals xs its.toList
def kU(K:aC)(H:Hp)(a:ah)(xs:List V):Prop :=
 Rd H a (.tup xs) \/
  ∃ (o:Obj) (its:Array ae) (n:Nat),K.lookup a=some o/\o.cls=.type "tuple"/\o.data=.seq its n/\its.size<=bq/\Vals xs its.toList
def dJ':ae->Option V
 |.none=>some .non
 |.bool b=>some (.bl b)
 |.int i _=>some (.int i)
 |.str x _=>some (.str x)
 |.bytes b _=>some (.uk b)
 |.float b _=>some (.Ee b)
 |.ref a=>some (.ref a)
 |.type n=>some (.ty n)
 |_=>none
def RelV.abs(r:RelV x u):dJ' u=some x:=by
 cases x with
 |non=>cases r;rfl
 |bl _=>cases r;rfl
 |int _=>obtain⟨t,rfl⟩:=r;rfl
 |str _=>obtain⟨t,rfl⟩:=r;rfl
 |uk _=>obtain⟨t,rfl⟩:=r;rfl
 |Ee _=>obtain⟨t,rfl⟩:=r;rfl
 |ref _=>cases r;rfl
 |ty _=>cases r;rfl
def RelV.inj(r:RelV x u)(q:RelV y u):x=y:=Option.some.inj (r.abs.symm.trans q.abs)
theorem Vals.inj:∀ {xs ys:List V} {us:List ae},Vals xs us->Vals ys us->xs=ys
 |_,_,_,.nil,.nil=>rfl
 |_,_,_,.cons r t,.cons r' t'=>by rw[r.inj r',Vals.inj t t']
section
variable {X:Cx}{pins:List (ah × Obj)}{σ:St}{H:Hp}{s:ax}{a:ah}{xs ys:List V}
def Inv.list(I:Inv X pins σ H s)(h:fw X.K H a xs):∃ its:List ae,Vals xs its/\PlainL s.heap a its.toArray/\xs.length<=bq:=by
 rcases h with h|⟨o,its,n,hk,hc,hd,hs,hz,r⟩
 ·obtain⟨z,its,n,r,e⟩:=h.ok I.b5;exact⟨its,r,⟨_,n,e,rfl,rfl,rfl⟩,z⟩
 ·refine⟨its.toList,r,⟨o,n,I.mz a o hk,hc,hd,by simpa using hs⟩,?_⟩;have e:=r.length;simp only[A5] at e;lia
def Inv.tuple(I:Inv X pins σ H s)(h:kU X.K H a xs):∃ its:List ae,Vals xs its/\IsTup s.heap a its.toArray/\xs.length<=bq:=by
 rcases h with h|⟨o,its,n,hk,hc,hs,hz,r⟩
 ·obtain⟨z,its,r,p⟩:=h.ok I.b5;exact⟨its,r,p,z⟩
 ·refine⟨its.toList,r,⟨o,I.mz a o hk,hc,n,by simpa using hs⟩,?_⟩;have e:=r.length;simp only[A5] at e;lia
def Inv.ZX(I:Inv X pins σ H s)(h:fw X.K H a xs)(h':fw X.K H a ys):xs=ys:=by
 obtain⟨its,r,⟨o,n,e,_,_,d⟩,_⟩:=I.list h;obtain⟨JY,r',⟨o',n',e',_,_,d'⟩,_⟩:=I.list h';rw[e] at e';cases e';rw[d] at d';injection d' with d1 _;have:its=JY:=by simpa using congrArg Array.toList d1
 subst this;exact r.inj r'
def Inv.dK'(I:Inv X pins σ H s)(h:kU X.K H a xs)(h':kU X.K H a ys):xs=ys:=by
 obtain⟨its,r,⟨o,e,_,n,d⟩,_⟩:=I.tuple h;obtain⟨JY,r',⟨o',e',_,n',d'⟩,_⟩:=I.tuple h';rw[e] at e';cases e';rw[d] at d';injection d' with d1 _;have:its=JY:=by simpa using congrArg Array.toList d1
 subst this;exact r.inj r'
end
abbrev Cx.wish(X:Cx)(E:ae->ax->Prop):Cx:={ X with xe:=E }
abbrev Cx.FH(X:Cx):Cx:=X.wish λ_ _=>False
def Cx.Ok.wish{X:Cx}(ok:X.Ok)(E:ae->ax->Prop):(X.wish E).Ok :=
 ⟨ok.mod,ok.kind,ok.glob,ok.blt,ok.above,ok.inj,ok.has,ok.Pw,ok.hd,ok.frames,ok.R8,ok.R9,ok.bs,ok.FE,ok.Px,ok.Py,ok.A8,ok.NS⟩
def Cx.Ok.FI{X:Cx}(ok:(X.wish E).Ok):X.Ok :=
 ⟨ok.mod,ok.kind,ok.glob,ok.blt,ok.above,ok.inj,ok.has,ok.Pw,ok.hd,ok.frames,ok.R8,ok.R9,ok.bs,ok.FE,ok.Px,ok.Py,ok.A8,ok.NS⟩
section
variable {X:Cx}{pins:List (ah × Obj)}{σ:St}{H:Hp}{s:ax}{E:ae->ax->Prop}
def Inv.wish(I:Inv X pins σ H s)(E:ae->ax->Prop):Inv (X.wish E) pins σ H s:=⟨I.ok.wish E,I.os,I.bare,I.base,I.loc,I.cell,I.free,I.A9,I.pin,I.b5,I.len⟩
def Inv.FI(I:Inv (X.wish E) pins σ H s):Inv X pins σ H s:=⟨I.ok.FI,I.os,I.bare,I.base,I.loc,I.cell,I.free,I.A9,I.pin,I.b5,I.len⟩
def SP.FI{D:Ends}(h:SP (X.wish E) pins D f s'):SP X pins D f s':=by
 cases f with
 |next=>obtain⟨cv,H',I,q⟩:=h;exact⟨cv,H',I.FI,q⟩
 |brk=>obtain⟨cv,H',I,q⟩:=h;exact⟨cv,H',I.FI,q⟩
 |cont=>obtain⟨cv,H',I,q⟩:=h;exact⟨cv,H',I.FI,q⟩
 |ret u=>obtain⟨v,cv,H',I,r,q⟩:=h;exact⟨v,cv,H',I.FI,r,q⟩
def nv.FH{st:List Stmt}(h:nv X.FH st t):nv X st t:=λpins s σ H D I hw =>
 wc (h pins s σ H D (I.wish _) hw) (λ_ _ q=>q.FI) λ_ _ z=>False.elim z
end
section
variable {X:Cx}{st:Stmt}{rest:List Stmt}{t u:TS}{e:Expr}{te:TE}{pos:Pos}
def dL':TS:=λD σ H=>D.nx σ H
def ZY(t u:TS):TS:=λD σ H=>t { D with nx:=u D } σ H
def dM':nv X [] dL':=λ_ _ σ H _ I h=>wpAny_execs_nil ⟨σ,H,I,h⟩
def ZZ(h1:PS X st t)(h2:nv X rest u):nv X (st :: rest) (ZY t u):=by
 intro pins s σ H D I h;refine wpAny_execs_cons (dk (h1 pins s σ H { D with nx:=u D } I h) λf s1 q=>?_)
 cases f with
 |next =>obtain⟨cv,H',I',q⟩:=q;exact h2 pins s1 cv H' D I' q
 |ret v=>exact q
 |brk=>exact q
 |cont=>exact q
def Z0(h1:PS X st t):nv X [st] t:=by
 intro pins s σ H D I h;refine wpAny_execs_cons (dk (h1 pins s σ H D I h) λf s1 q=>?_)
 cases f with
 |next=>exact wpAny_execs_nil q
 |ret v=>exact q
 |brk=>exact q
 |cont=>exact q
def Inv.quiet(I:Inv X pins σ H s):interactive X.env=false:=by simp[interactive,I.ok.kind]
def dN'(te:TE):TS:=λD σ H=>te σ H λ_ H1=>D.nx σ H1
def NV(he:PE X e te)(hs:autoParam (sN e none pos.line X.env=pure false) bv):PS X (.Expr e pos) (dN' te):=by intro pins s σ H D I h;exact wpAny_Expr_any (dk (he pins s σ H _ I h) λv s1 dv=>L2.g9 dv λx H1 I1 r1 q1=>⟨σ,H1,I1,q1⟩) I.quiet hs
def dO'(te:TE):TS:=λD σ H=>te σ H D.rt
def U_(he:PE X e te):PS X (.Return (some e) pos) (dO' te):=by intro pins s σ H D I h;exact wpAny_Return_some (dk (he pins s σ H _ I h) λv s1 dv=>L2.g9 dv λx H1 I1 r1 q1=>⟨x,σ,H1,I1,r1,q1⟩)
def dP'(c:TT)(t u:TS):TS:=λD σ H=>c σ H λb H1=>if b=true then t D σ H1 else u D σ H1
def dQ'(hc:PT X c tc)(ha:nv X a t)(hb:nv X b u):PS X (.If c a b pos) (dP' tc t u):=by
 intro pins s σ H D I h;refine wpAny_If (dk (hc pins s σ H _ I h) λd s1 eM=>?_);obtain⟨H1,I1,q1⟩:=eM
 cases d with
 |true=>exact ha pins s1 σ H1 D I1 q1
 |false=>exact hb pins s1 σ H1 D I1 q1
def dR':TS:=λ_ _ _=>False
def dS':nv X sts dR':=λ_ _ _ _ _ _ h=>h.elim
end
abbrev TG:=V->St->Hp->(St->Hp->Prop)->Prop
abbrev NW:=List V->St->Hp->(St->Hp->Prop)->Prop
def PG(X:Cx)(target:Expr)(t:TG):Prop :=
 ∀ (pins:List (ah × Obj)) (s:ax) (σ:St) (H:Hp) (v:V) (u:ae) (Q:St->Hp->Prop),Inv X pins σ H s->RelV v u->t v σ H Q ->
  bP (aS X.prog X.w) X.A (assign target X.env u) (λ_ s'=>∃ cv H',Inv X pins cv H' s'/\Q cv H') X.xe s
def CH(X:Cx)(ts:List Expr)(t:NW):Prop :=
 ∀ (pins:List (ah × Obj)) (s:ax) (σ:St) (H:Hp) (vs:List V) (us:List ae) (Q:St->Hp->Prop),Inv X pins σ H s->Vals vs us->t vs σ H Q ->
  bP (aS X.prog X.w) X.A (assignInOrder ((D3 ts X.env).map (·.2)) us) (λ_ s'=>∃ cv H',Inv X pins cv H' s'/\Q cv H') X.xe s
section
variable {X:Cx}{pos:Pos}
def Va(i:Nat):TG:=λv σ H Q=>Q (σ.set i (some v)) H
def dT'(hN:X.N.Nodup)(hi:X.N[i]? = some x)(hx:Loc X.env.scope x)(hf:X.fn x=true\/X.env.scope.names.lookup x=some .local:=by first|exact .inl rfl|exact .inr rfl|assumption):PG X (.Name x pos) (Va i):=by intro pins s σ H v u Q I r h;exact wpAny_assign_Name (ZS I hN hi hx r (λs' I'=>⟨_,H,I',h⟩) hf)
def dU':NW:=λvs σ H Q=>vs=[]/\Q σ H
def dV'(t:TG)(u:NW):NW:=λvs σ H Q=>∃ v r,vs=v :: r/\t v σ H λcv H'=>u r cv H' Q
def dW':CH X [] dU':=by intro pins s σ H vs us Q I r h;obtain⟨e,h⟩:=h;subst e;cases r;exact assignInOrder_nil ⟨σ,H,I,h⟩
def dX'(h1:PG X e t)(h2:CH X es u)(hs:autoParam ((D3 (e :: es) X.env).map (·.2)=assign e X.env :: (D3 es X.env).map (·.2)) bv):CH X (e :: es) (dV' t u):=by
 intro pins s σ H vs us Q I r h;obtain⟨v,vr,e1,h⟩:=h;subst e1
 cases r with
 |cons r rr =>rw[hs];refine assignInOrder_cons (dk (h1 pins s σ H _ _ _ I r h) λ_ s1 eM=>?_);obtain⟨NX,H1,I1,q1⟩:=eM;exact h2 pins s1 NX H1 _ _ Q I1 rr q1
def dY'(K:aC)(n:Nat)(t:NW):TG:=λv σ H Q=>∃ a xs,v=.ref a/\kU K H a xs/\xs.length=n/\t xs σ H Q
def dZ'(hc:X.calm=true)(h:CH X es t)(hn:autoParam ((D3 es X.env).length=n) bv) (lP:autoParam ((D3 es X.env).findIdx? (·.1)=none) bv):PG X (.Tuple es k pos) (dY' X.K n t):=by
 intro pins s σ H v u Q I r hw;obtain⟨a,xs,e1,hq,hl,hw⟩:=hw;subst e1;cases r;obtain⟨its,rv,ht,hz⟩:=I.tuple hq;refine assign_Tuple_tuple (I.ok.hd hc) ht (by simp[hn,<- hl,rv.length]) lP λh' hx=>?_;have I1:Inv X pins σ H { s with heap:=h' }:=I.kept λb o e=>hx b o (gp (e9 e)) e;exact h pins _ σ H xs _ Q I1 (by simpa using rv) hw
def Z1(te:TE)(g:TG):TS:=λD σ H=>te σ H λx H1=>g x σ H1 D.nx
def Vb(hN:X.N.Nodup)(hi:X.N[i]? = some x)(hx:Loc X.env.scope x)(he:PE X e te)(hs:autoParam (sN e (some (.Name x pos')) pos.line X.env=pure false) bv)(hf:X.fn x=true\/X.env.scope.names.lookup x=some .local:=by first|exact .inl rfl|exact .inr rfl|assumption) :
  PS X (.Assign [.Name x pos'] e pos) (Z1 te (Va i)):=by
 intro pins s σ H D I h;refine wpAny_Assign_Name (dk (he pins s σ H _ I h) λv s1 dv=>L2.g9 dv λy H1 I1 r1 q1=>?_) hs;exact ZS I1 hN hi hx r1 (λs2 I2=>⟨_,H1,I2,q1⟩) hf
def ea'(c:TT)(tb:TS):TS:=λD σ H=>∃ W:Nat->St->Hp->Prop,(∃ m,W m σ H)/\∀ m σ H,W m σ H ->
 c σ H λb H1=>if b=true then ∃ N:St->Hp->Prop,(∀ cv H',N cv H'->∃ m',m'<m/\W m' cv H')/\tb { D with nx:=N,ct:=N,bk:=D.nx } σ H1 else D.nx σ H1
def eb'(hp:PassesOwn (aS X.prog X.w) X.A X.env X.xe)(hc:PT X c tc)(hb:nv X body tb):PS X (.While c body [] pos) (ea' tc tb):=by
 intro pins s σ H D I h;obtain⟨W,⟨m0,w0⟩,turn⟩:=h;refine wpAny_While (codeAny_whileLoop (λn s'=>∃ cv H',Inv X pins cv H' s'/\W n cv H') ?_ m0 ⟨σ,H,I,w0⟩);rintro n s1 ⟨NX,H1,I1,w1⟩;refine Iq hp (dk (hc pins s1 NX H1 _ I1 (turn n NX H1 w1)) λb s2 eM=>?_);obtain⟨H2,I2,q2⟩:=eM
 cases b with
 |true =>
  obtain⟨N,hN,q2⟩:=q2;refine Iq hp (dk (hb pins s2 NX H2 _ I2 q2) λf s3 q3=>?_)
  cases f with
  |next =>obtain⟨ti,H3,I3,n3⟩:=q3;obtain⟨m',hm,w3⟩:=hN ti H3 n3;exact⟨m',hm,ti,H3,I3,w3⟩
  |cont =>obtain⟨ti,H3,I3,n3⟩:=q3;obtain⟨m',hm,w3⟩:=hN ti H3 n3;exact⟨m',hm,ti,H3,I3,w3⟩
  |brk=>exact q3
  |ret v=>exact q3
 |false =>exact wpAny_execs_nil ⟨NX,H2,I2,q2⟩
end
structure It where
 go:Nat->Hp->Prop
 pe:Nat->Hp->V->Hp->Prop
 stop:Nat->Hp->Prop
def x6(X:Cx)(pins:List (ah × Obj))(H:Hp)(b:ah):Prop :=
 H b=none/\b≠X.env.locals/\b∉X.fs/\(b∈X.ex\/X.kS.heap.objs.size<=b)/\(∀ x c,X.env.cells.lookup x=some c->c≠b)/\∀ p∈X.pn++pins,p.1≠b
def Inv.N0{X:Cx}(I:Inv X pins σ H s)(hb:s.heap.objs.size<=b)(hn:H' b=none):x6 X pins H' b:=by
 refine⟨hn,ND (oz I.lt hb),I.dt' hb,.inr (iS I.sz hb),λx c e z=>?_,λp hp z=>?_⟩
 ·obtain⟨v,q⟩:=I.cell x c e;exact absurd (oz q.lt (by rw[z];exact hb)) (wq _)
 ·exact absurd (oz (e9 (I.pin p hp).1) (by rw[z];exact hb)) (wq _)
structure Turn(P:d5)(w:eJ)(K:aC)(tg:Expr)(J:It)(fp:List ah)(it:ah)(tn:Nat->dy->Prop):Prop where
 mem:it∈fp
 obj:∀ i h,tn i h->∀ b∈fp,∃ o,h.get? b=some o/\∀ v,o.data≠.cell v
 keep:∀ i h h',tn i h->(∀ b∈fp,∀ o,h.get? b=some o->h'.get? b=some o)->tn i h'
 item:∀ (X:Cx),X.prog=P->X.w=w->X.K=K->X.calm=true->∀ (i:Nat) (pins:List (ah × Obj)) (s:ax) (σ:St) (H:Hp) (E:ae->ax->Prop),Inv X pins σ H s->(∀ b∈fp,x6 X pins H b)->tn i s.heap->J.go i H ->
  bP (aS P w) X.A (pyNext (.ref it)) (fun r s1=>∃ u,r=some u /\
   bP (aS P w) X.A (letOwnedTupleGo tg (.ref it) u) (fun _ s2=>∃ x H',Inv X pins σ H' s2/\RelV x u/\J.pe i H x H'/\tn (i+1) s2.heap/\∀ b∈fp,H' b=none) E s1) E s
 done:∀ (X:Cx),X.prog=P->X.w=w->X.K=K->X.calm=true->∀ (i:Nat) (pins:List (ah × Obj)) (s:ax) (σ:St) (H:Hp) (E:ae->ax->Prop),Inv X pins σ H s->(∀ b∈fp,x6 X pins H b)->tn i s.heap->J.stop i H ->
  bP (aS P w) X.A (pyNext (.ref it)) (fun r s1=>r=none/\Inv X pins σ H s1) E s
 self:∀ (A:fh) (i:Nat) (s:ax) (Q:ae->ax->Prop) (E:ae->ax->Prop),tn i s.heap->Q (.ref it) s->bP (aS P w) A (pyIter (.ref it)) Q E s
abbrev TI:=St->Hp->(It->Hp->Prop)->Prop
def Z2(X:Cx)(pins:List (ah × Obj))(σ:St)(tg:Expr)(R:It->Hp->Prop)(Vc:ae)(s2:ax):Prop :=
 ∃ (it:ah) (fp:List ah) (tn:Nat->dy->Prop) (J:It) (H':Hp),Vc=.ref it/\Inv X pins σ H' s2/\Turn X.prog X.w X.K tg J fp it tn/\tn 0 s2.heap/\(∀ b∈fp,x6 X pins H' b)/\R J H'
def PI(X:Cx)(tg iter:Expr)(wi:TI):Prop :=
 ∀ (pins:List (ah × Obj)) (s:ax) (σ:St) (H:Hp) (R:It->Hp->Prop),Inv X pins σ H s->wi σ H R ->
  bP (aS X.prog X.w) X.A (df iter X.env) (λv s1=>bP (aS X.prog X.w) X.A (pyIter v) (Z2 X pins σ tg R) X.xe s1) X.xe s
def Sf(ho:s.heap.get? it=some o)(hc:o.cls=.type n)(hd:o.data=.fields vs)(hn:["enumerate", "zip", "dict_itemiterator", "dict_reverseitemiterator", "odict_iterator", "itertools.zip_longest", "itertools.pairwise"].contains n=false) (hQ:Q () s):bP M A (letOwnedTupleGo tg (.ref it) u) Q E s:=by
 cases tg<;>first
  |exact bG hQ
  | (cases u<;>first
     |exact bG hQ
     | (refine aw (wpAny_load ho ?_)
        rw[hc,hd];show bP M A (if (["enumerate", "zip", "dict_itemiterator", "dict_reverseitemiterator", "odict_iterator", "itertools.zip_longest", "itertools.pairwise"].contains n && vs[0]? == some (mS _))=true then _ else _) Q E s;rw[if_neg (by intro h;rw[hn,Bool.false_and] at h;cases h)];exact bG hQ))
def Sg(K:aC)(a:ah):It :=
 ⟨λi H=>∃ xs x,fw K H a xs/\xs[i]? = some x,λi H x H'=>H'=H/\∀ xs,fw K H a xs->xs[i]? = some x,λi H=>∃ xs,fw K H a xs/\xs.length<=i⟩
def Vd(K:aC)(a:ah):It :=
 ⟨λi H=>∃ xs x,kU K H a xs/\xs[i]? = some x,λi H x H'=>H'=H/\∀ xs,kU K H a xs->xs[i]? = some x,λi H=>∃ xs,kU K H a xs/\xs.length<=i⟩
def N3(lo:Int)(n:Nat):It:=⟨λi _=>i<n,λi H x H'=>H'=H/\x=.int (lo+i),λi _=>n<=i⟩
def ec'{P:d5}{K:aC}(a it:ah):Turn P w K tg (Sg K a) [it] it (λi h=>h.IsListIter it a i) where
 mem:=by simp
 obj:=λi h st b hb=>by
  have e:b=it:=by simpa using hb
  subst e;obtain⟨o,e,c,d⟩:=st;exact⟨o,e,λv z=>by rw[d] at z;cases z⟩
 keep:=λi h h' st k=>st.at λo e=>k it (by simp) o e
 item:=by intro X hP hw hK hc i pins s σ H E I hf st hg;subst hP hw hK;obtain⟨xs,x,hq,hx⟩:=hg;obtain⟨its,rv,p,hz⟩:=I.list hq;obtain⟨u,hu,ru⟩:=rv.get hx;obtain⟨f0,f1,f2,f3,f4,f5⟩:=hf it (by simp);refine wpAny_pyNext_list_item st p.isList (x:=u) (by simpa using hu) λh' ai sb=>?_;have I1:Inv X pins σ H { s with heap:=h' }:=I.turned (t':=s.toks) (λb o hb e=>(sb.2 b hb).trans e) f0 f1 f3 f4 f5;obtain⟨o,e,c,d⟩:=id ai;exact⟨u,rfl,Sf (s:={ s with heap:=h' }) e c d (by decide) ⟨x,H,I1,ru,⟨rfl,λys hy=>by rw[I.ZX hy hq];exact hx⟩,ai,λb hb=>(hf b hb).1⟩⟩
 done:=by intro X hP hw hK hc i pins s σ H E I hf st hg;subst hP hw hK;obtain⟨xs,hq,hx⟩:=hg;obtain⟨its,rv,p,hz⟩:=I.list hq;obtain⟨f0,f1,f2,f3,f4,f5⟩:=hf it (by simp);have hl:=rv.length;exact wpAny_pyNext_list_end (I.ok.hd hc) st p.isList (by simp;lia) λh' eb=>⟨rfl,I.turned (t':=s.toks) (λb o hb e=>eb b o hb e) f0 f1 f3 f4 f5⟩
 self:=λ_ _ _ _ _ st h=>wpAny_pyIter_listiter st h
def ed'{P:d5}{K:aC}(a it:ah):Turn P w K tg (Vd K a) [it] it (λi h=>h.IsTupleIter it a i) where
 mem:=by simp
 obj:=λi h st b hb=>by
  have e:b=it:=by simpa using hb
  subst e;obtain⟨o,e,c,d⟩:=st;exact⟨o,e,λv z=>by rw[d] at z;cases z⟩
 keep:=λi h h' st k=>st.at λo e=>k it (by simp) o e
 item:=by intro X hP hw hK hc i pins s σ H E I hf st hg;subst hP hw hK;obtain⟨xs,x,hq,hx⟩:=hg;obtain⟨its,rv,p,hz⟩:=I.tuple hq;obtain⟨u,hu,ru⟩:=rv.get hx;obtain⟨f0,f1,f2,f3,f4,f5⟩:=hf it (by simp);refine wpAny_pyNext_tuple_item st (show s.heap.IsTuple a its.toArray from p) (x:=u) (by simpa using hu) λh' ai sb=>?_;have I1:Inv X pins σ H { s with heap:=h' }:=I.turned (t':=s.toks) (λb o hb e=>(sb.2 b hb).trans e) f0 f1 f3 f4 f5;obtain⟨o,e,c,d⟩:=id ai;exact⟨u,rfl,Sf (s:={ s with heap:=h' }) e c d (by decide) ⟨x,H,I1,ru,⟨rfl,λys hy=>by rw[I.dK' hy hq];exact hx⟩,ai,λb hb=>(hf b hb).1⟩⟩
 done:=by intro X hP hw hK hc i pins s σ H E I hf st hg;subst hP hw hK;obtain⟨xs,hq,hx⟩:=hg;obtain⟨its,rv,p,hz⟩:=I.tuple hq;obtain⟨f0,f1,f2,f3,f4,f5⟩:=hf it (by simp);have hl:=rv.length;exact wpAny_pyNext_tuple_end (I.ok.hd hc) st (show s.heap.IsTuple a its.toArray from p) (by simp;lia) λh' eb=>⟨rfl,I.turned (t':=s.toks) (λb o hb e=>eb b o hb e) f0 f1 f3 f4 f5⟩
 self:=λ_ _ _ _ _ st h=>wpAny_pyIter_tupleiter st h
def ee'{P:d5}{K:aC}(it:ah)(lo:Int)(n:Nat):Turn P w K tg (N3 lo n) [it] it (λi h=>IsRangeIter h it (lo+(i:Nat)*1) ((n:Int)-(i:Nat)) 1) where
 mem:=by simp
 obj:=λi h st b hb=>by
  have e:b=it:=by simpa using hb
  subst e;exact⟨_,st,λv z=>by
   have z':Data.fields _=Data.cell v:=z;cases z'⟩
 keep:=λi h h' st k=>k it (by simp) _ st
 item:=by intro X hP hw hK hc i pins s σ H E I hf st hg;subst hP hw hK;obtain⟨f0,f1,f2,f3,f4,f5⟩:=hf it (by simp);have W:=Walks.range (prog:=X.prog) (w:=X.w) (I.ok.hd hc) it lo 1 n;refine W.item i s _ _ hg st λv h' tk hv ai kk=>?_;obtain⟨t,rfl⟩:=hv;have I1:Inv X pins σ H { s with heap:=h',toks:=tk }:=I.turned (λb o hb e=>kk b o (by simpa using hb) e) f0 f1 f3 f4 f5;refine⟨_,rfl,Sf (s:={ s with heap:=h',toks:=tk }) (n := "range_iterator") ai rfl rfl (by decide) ⟨.int (lo+i),H,I1,⟨t,?_⟩,⟨rfl,rfl⟩,ai,λb hb=>(hf b hb).1⟩⟩;rw[Int.mul_one]
 done:=by intro X hP hw hK hc i pins s σ H E I hf st hg;subst hP hw hK;obtain⟨f0,f1,f2,f3,f4,f5⟩:=hf it (by simp);exact wpAny_pyNext_range_end (I.ok.hd hc) st (by have:n<=i:=hg;lia) λh' eb=>⟨rfl,I.turned (t':=s.toks) (λb o hb e=>eb b o hb e) f0 f1 f3 f4 f5⟩
 self:=λ_ _ _ _ _ st h=>wpAny_pyIter_rangeiter st h
section
variable {X:Cx}{tg:Expr}
def ef'(K:aC)(tl:TE):TI:=λσ H R=>tl σ H λx H1=>∃ a,x=.ref a/\(∃ xs,fw K H1 a xs)/\R (Sg K a) H1
def eg'(K:aC)(tl:TE):TI:=λσ H R=>tl σ H λx H1=>∃ a,x=.ref a/\(∃ xs,kU K H1 a xs)/\R (Vd K a) H1
def Z3(hl:PE X l tl):PI X tg l (ef' X.K tl):=by
 intro pins s σ H R I h;refine dk (hl pins s σ H _ I h) λv s1 dv=>L2.g9 dv λx H1 I1 r1 q1=>?_;obtain⟨a,e,⟨xs,hq⟩,q⟩:=q1;subst e;cases r1;obtain⟨its,rv,p,hz⟩:=I1.list hq;refine wpAny_pyIter_list p.isList ?_;refine⟨s1.heap.objs.size,[s1.heap.objs.size],_,_,H1,rfl,I1.kept λb o e=>gi _ e,ec' a _,⟨_,kB _ rfl,rfl,rfl⟩,λb hb=>?_,q⟩;have e:b=s1.heap.objs.size:=by simpa using hb
 subst e;exact I1.N0 (cw _) (I1.b5.fresh (cw _))
def eh'(hl:PE X l tl):PI X tg l (eg' X.K tl):=by
 intro pins s σ H R I h;refine dk (hl pins s σ H _ I h) λv s1 dv=>L2.g9 dv λx H1 I1 r1 q1=>?_;obtain⟨a,e,⟨xs,hq⟩,q⟩:=q1;subst e;cases r1;obtain⟨its,rv,p,hz⟩:=I1.tuple hq;refine wpAny_pyIter_tuple (p) ?_;refine⟨s1.heap.objs.size,[s1.heap.objs.size],_,_,H1,rfl,I1.kept λb o e=>gi _ e,ed' a _,⟨_,kB _ rfl,rfl,rfl⟩,λb hb=>?_,q⟩;have e:b=s1.heap.objs.size:=by simpa using hb
 subst e;exact I1.N0 (cw _) (I1.b5.fresh (cw _))
def ej'{R:It->Hp->Prop}{lo hi:Int}(I:Inv X pins σ H s)(h1:-(2 ^ 62)<=lo)(h2:lo<2 ^ 62)(h3:-(2 ^ 62)<=hi)(h4:hi<2 ^ 62)(q:R (N3 lo (hi-lo).toNat) H):bP (aS X.prog X.w) X.A (pyIter (.ref s.heap.objs.size)) (Z2 X pins σ tg R) E { s with heap:=s.heap.push { cls:=.type "range",data:=.fields #[.int lo t,.int hi u,.int 1 v] },toks:=tk }:=by
 refine wpAny_pyIter_range (IsRange.new ..) (small_one h1 h2 h3 h4) ?_;have I1:Inv X pins σ H { s with heap:=s.heap.push { cls:=.type "range",data:=.fields #[.int lo t,.int hi u,.int 1 v] },toks:=tk }:=I.kept λb o e=>gi _ e;refine⟨(s.heap.push { cls:=.type "range",data:=.fields #[.int lo t,.int hi u,.int 1 v] }).objs.size,[(s.heap.push { cls:=.type "range",data:=.fields #[.int lo t,.int hi u,.int 1 v] }).objs.size],_,_,H,rfl,
  I1.kept λb o e=>gi _ e,ee' _ lo (hi-lo).toNat,?_,λb hb=>?_,q⟩
 ·have e1:lo+((0:Nat):Int)*1=lo:=by simp
  have e2:(((hi-lo).toNat:Nat):Int)-((0:Nat):Int)=Builtin.Range.rangeSize lo hi 1:=by rw[rangeSize_one];split<;>lia
  rw[e1,e2];exact kB _ rfl
 ·have e:b=(s.heap.push { cls:=.type "range",data:=.fields #[.int lo t,.int hi u,.int 1 v] }).objs.size:=by simpa using hb
  subst e;exact I1.N0 (cw _) (I1.b5.fresh (cw _))
def ek'(ta:TA):TI:=λσ H R=>ta σ H λvs H1=>∃ j:Int,vs=[.int j]/\-(2 ^ 62)<=j/\j<2 ^ 62/\R (N3 0 j.toNat) H1
def el' (hg:Gl X "range") (hm:X.mg "range" = none) (ha:PA X [a] ta) (hs:autoParam (b6 [a] X.env=[(false,df a X.env)]) bv):PI X tg (.Call (.Name "range" p) [a] [] pos) (ek' ta):=by
 intro pins s σ H R I h;refine Call_ (x5 I hg hm boot_range (PyProof.Rows.callWith_type1 (dk (ha pos pins s σ H _ I h) λus s1 dv=>L2.g9 dv λvs H1 I1 r1 q1=>?_) hs rfl));obtain⟨j,e,q1,q2,q⟩:=q1;subst e
 cases r1 with
 |cons r rr =>cases rr;obtain⟨t,rfl⟩:=r;exact call_range_1 (ej' I1 (by lia) (by lia) q1 q2 (by simpa using q))
def em'(wi:TI)(g:TG)(tb:TS):TS:=λD σ H=>wi σ H λJ H1=>∃ W:Nat->Nat->St->Hp->Prop,(∃ m,W 0 m σ H1)/\∀ i m σ H,W i m σ H -> (J.stop i H/\D.nx σ H)\/(J.go i H/\∃ N:St->Hp->Prop,(∀ cv H',N cv H'->∃ m',m'<m/\W (i+1) m' cv H')/\∀ x H',J.pe i H x H'->g x σ H' λlS H2=>tb { D with nx:=N,ct:=N,bk:=D.nx } lS H2)
def PC(fp:List ah)(h:dy):List (ah × Obj):=fp.filterMap λb=>(h.get? b).map λo=>(b,o)
def Sh(hb:b∈fp)(e:h.get? b=some o):(b,o)∈PC fp h:=UH.mpr ⟨b,hb,by rw[e];rfl⟩
def en'(hp:p∈PC fp h):p.1∈fp/\h.get? p.1=some p.2:=by
 obtain⟨b,hb,e⟩:=UH.mp hp
 cases q:h.get? b with
 |none=>rw[q] at e;cases e
 |some o =>rw[q] at e;have e':(b,o)=p:=Option.some.inj e;subst e';exact⟨hb,q⟩
def Inv.pinned(I:Inv X pins σ H s)(hf:∀ b∈fp,x6 X pins H b)(ho:∀ b∈fp,∃ o,s.heap.get? b=some o/\∀ v,o.data≠.cell v):Inv X (pins++PC fp s.heap) σ H s :=
 I.ZN λp hp=>(dP.mp hp).elim (λz=>I.pin p (gu _ z)) λz=>by obtain⟨hb,e⟩:=en' z;obtain⟨f0,f1,f2,_⟩:=hf p.1 hb;obtain⟨o,e',d⟩:=ho p.1 hb;rw[e] at e';cases e';exact⟨e,f0,f1,f2,d⟩
def Inv.Si(I:Inv X (pins++pl) σ H s):Inv X pins σ H s:=I.ZN λp hp=>I.pin p (gu _ (i9 _ hp))
def eo'(hp:PassesOwn (aS X.prog X.w) X.A X.env X.xe)(hc:X.calm=true)(hi:PI X tg iter wi)(hg:PG X tg g)(hb:nv X body tb)(hs:∀ x,Ic iter X.env x=pure x:=by intro _;rfl):PS X (.For tg iter body [] pos) (em' wi g tb):=by
 intro pins s σ H D I h;refine wpAny_For (dk (hi pins s σ H _ I h) λv s1 h1=>dk h1 λVc s2 h2=>?_) hs;obtain⟨it,fp,tn,J,H2,e,I2,T,z5,f2,W,⟨m0,w0⟩,turn⟩:=h2;subst e
 -- what stays true of the iterator's objects through the loop
 have stat:∀ {H':Hp},(∀ b∈fp,H' b=none)->∀ b∈fp,x6 X pins H' b:=λhn b hb=>⟨hn b hb,(f2 b hb).2⟩
 refine codeAny_forLoop_any (λn s'=>∃ i cv H',Inv X pins cv H' s'/\tn i s'.heap/\(∀ b∈fp,H' b=none)/\W i n cv H') ?_ m0 ⟨0,σ,H2,I2,z5,λb hb=>(f2 b hb).1,w0⟩;rintro n s3 ⟨i,ti,H3,I3,An,Z4,w3⟩;rcases turn i n ti H3 w3 with⟨stop,qn⟩|⟨go,N,hN,step⟩
 ·refine Iq hp (dk (T.done X rfl rfl rfl hc i pins s3 ti H3 X.xe I3 (stat Z4) An stop) λr s4 eM=>?_);obtain⟨hr,I4⟩:=eM;subst hr;exact wpAny_execs_nil ⟨ti,H3,I4,qn⟩
 ·refine Iq hp (dk (T.item X rfl rfl rfl hc i pins s3 ti H3 X.xe I3 (stat Z4) An go) λr s4 eM=>?_);obtain⟨u,hr,h4⟩:=eM;subst hr;refine Iq hp (dk h4 λ_ s5 eM=>?_);obtain⟨x,H5,I5,r5,y5,Kb,Sj⟩:=eM;have I5':=I5.pinned (stat Sj) (T.obj _ _ Kb);refine Iq hp (dk (hg _ s5 ti H5 x u _ I5' r5 (step x H5 y5)) λ_ s6 eM=>?_);obtain⟨σ6,H6,I6,q6⟩:=eM;refine Iq hp (dk (hb _ s6 σ6 H6 _ I6 q6) λf s7 q7=>?_);have again:∀ {Bi:St} {H7:Hp},Inv X (pins++PC fp s5.heap) Bi H7 s7->N Bi H7->∃ m,m<n/\∃ i cv H',Inv X pins cv H' s7/\tn i s7.heap/\(∀ b∈fp,H' b=none)/\W i m cv H':=λ{Bi H7} I7 n7=>by obtain⟨m',hm,w7⟩:=hN Bi H7 n7;refine⟨m',hm,i+1,Bi,H7,I7.Si,T.keep _ _ _ Kb λb hb o e=>(I7.pin (b,o) (gu _ (gu _ (Sh hb e)))).1,λb hb=>?_,w7⟩;obtain⟨o,e,d⟩:=T.obj _ _ Kb b hb;exact(I7.pin (b,o) (gu _ (gu _ (Sh hb e)))).2.1
  cases f with
  |next=>obtain⟨Bi,H7,I7,n7⟩:=q7;exact again I7 n7
  |cont=>obtain⟨Bi,H7,I7,n7⟩:=q7;exact again I7 n7
  |brk=>obtain⟨Bi,H7,I7,q7⟩:=q7;exact⟨Bi,H7,I7.Si,q7⟩
  |ret v=>obtain⟨x7,Bi,H7,I7,r7,q7⟩:=q7;exact⟨x7,Bi,H7,I7.Si,r7,q7⟩
end
abbrev R2:=V->V->Hp->VK->Prop
def eS(X:Cx)(f:ae->ae->Sem ae)(r:R2):Prop :=
 ∀ (pins:List (ah × Obj)) (s:ax) (σ:St) (H:Hp) (x y:V) (v u:ae) (Q:VK),Inv X pins σ H s->RelV x v->RelV y u->r x y H Q ->
  bP (aS X.prog X.w) X.A (f v u) (EP X pins σ Q) X.xe s
def Sn(X:Cx)(f:ae->Sem ae)(r:V->Hp->VK->Prop):Prop :=
 ∀ (pins:List (ah × Obj)) (s:ax) (σ:St) (H:Hp) (x:V) (v:ae) (Q:VK),Inv X pins σ H s->RelV x v->r x H Q ->
  bP (aS X.prog X.w) X.A (f v) (EP X pins σ Q) X.xe s
def lT(X:Cx)(f:ae)(r:List V->Hp->VK->Prop):Prop :=
 ∀ (pins:List (ah × Obj)) (s:ax) (σ:St) (H:Hp) (xs:List V) (us:List ae) (Q:VK),Inv X pins σ H s->Vals xs us->r xs H Q ->
  bP (aS X.prog X.w) X.A (call f us) (EP X pins σ Q) X.xe s
def et'(X:Cx)(r:V->Hp->(Bool->Hp->Prop)->Prop):Prop :=
 ∀ (pins:List (ah × Obj)) (s:ax) (σ:St) (H:Hp) (x:V) (v:ae) (Q:Bool->Hp->Prop),Inv X pins σ H s->RelV x v->r x H Q ->
  bP (aS X.prog X.w) X.A (truthy v) (TP X pins σ Q) X.xe s
def PD(r:R2)(ta tb:TE):TE:=λσ H Q=>ta σ H λx H1=>tb σ H1 λy H2=>r x y H2 Q
def PF(r:V->Hp->VK->Prop)(ta:TE):TE:=λσ H Q=>ta σ H λx H1=>r x H1 Q
def rI(C:Int->Int->Prop)(g:Int->Int->V):R2:=λx y H Q=>∃ i j,x=.int i/\y=.int j/\C i j/\Q (g i j) H
def N4(g:Int->Int->V):R2:=λx y H Q=>∃ i j,x=.int i/\y=.int j/\Q (g i j) H
def rU(g:Int->V):V->Hp->VK->Prop:=λx H Q=>∃ i,x=.int i/\Q (g i) H
section
variable {X:Cx}{a b:Expr}{ta tb:TE}{pos:Pos}
def Ve(ha:PE X a ta)(hb:PE X b tb){pins:List (ah × Obj)}{s:ax}{σ:St}{H:Hp}{R:V->V->Hp->Prop}(I:Inv X pins σ H s)(h:ta σ H λx H1=>tb σ H1 λy H2=>R x y H2) {Q:ae->ax->Prop} {f:ae->ae->Sem ae}(hf:∀ v u s2 x y H2,Inv X pins σ H2 s2->RelV x v->RelV y u->R x y H2->bP (aS X.prog X.w) X.A (f v u) Q X.xe s2) :
  bP (aS X.prog X.w) X.A (df a X.env) (λv fT=>bP (aS X.prog X.w) X.A (df b X.env) (λu Ki=>bP (aS X.prog X.w) X.A (f v u) Q X.xe Ki) X.xe fT) X.xe s:=by
 refine dk (ha pins s σ H _ I h) λv s1 dv=>L2.g9 dv λx H1 I1 r1 q1=>?_;refine dk (hb pins s1 σ H1 _ I1 q1) λu s2 dv=>L2.g9 dv λy H2 I2 r2 q2=>?_;exact hf v u s2 x y H2 I2 r1 r2 q2
def eu'{op:Operator}{r:R2}(ho:eS X (om op) r)(ha:PE X a ta)(hb:PE X b tb):PE X (.BinOp a op b pos) (PD r ta tb):=by intro pins s σ H Q I h;exact wpAny_BinOp (Ve ha hb I h λv u s2 x y H2 I2 rx ry q=>ho pins s2 σ H2 x y v u Q I2 rx ry q)
def ev'(ho:Sn X (unaryOp op) r)(ha:PE X a ta):PE X (.UnaryOp op a pos) (PF r ta):=by intro pins s σ H Q I h;exact UnaryOp_ (dk (ha pins s σ H _ I h) λv s1 dv=>L2.g9 dv λx H1 I1 r1 q1=>ho pins s1 σ H1 x v Q I1 r1 q1)
def Vf{f:ae->ae->Sem ae}{C:Int->Int->Prop}{g:Int->Int->Int}(rule:∀ (i j:Int) (t u:Tok) (s:ax) (Q:ae->ax->Prop) (E:ae->ax->Prop),C i j->Q (.int (g i j) s.toks) { s with toks:=s.toks+1 }->bP (aS X.prog X.w) X.A (f (.int i t) (.int j u)) Q E s) :
  eS X f (rI C λi j=>.int (g i j)):=by
 walk_at"b";obtain⟨i,j,rfl,rfl,hc,q⟩:=h;walk_at"A";obtain⟨t',rfl⟩:=ry;exact rule i j t t' s _ _ hc ⟨.int (g i j),H,I.tok _,⟨_,rfl⟩,q⟩
def ew'{f:ae->ae->Sem ae}{g:Int->Int->Int}(rule:∀ (i j:Int) (t u:Tok) (s:ax) (Q:ae->ax->Prop) (E:ae->ax->Prop),Q (.int (g i j) s.toks) { s with toks:=s.toks+1 }->bP (aS X.prog X.w) X.A (f (.int i t) (.int j u)) Q E s) :
  eS X f (N4 λi j=>.int (g i j)):=by
 walk_at"b";obtain⟨i,j,rfl,rfl,q⟩:=h;walk_at"A";obtain⟨t',rfl⟩:=ry;exact rule i j t t' s _ _ ⟨.int (g i j),H,I.tok _,⟨_,rfl⟩,q⟩
def Vg{f:ae->ae->Sem ae}{g:Int->Int->Bool}(rule:∀ (i j:Int) (t u:Tok) (s:ax) (Q:ae->ax->Prop) (E:ae->ax->Prop),Q (.bool (g i j)) s->bP (aS X.prog X.w) X.A (f (.int i t) (.int j u)) Q E s) :
  eS X f (N4 λi j=>.bl (g i j)):=by
 walk_at"b";obtain⟨i,j,rfl,rfl,q⟩:=h;walk_at"A";obtain⟨t',rfl⟩:=ry;exact rule i j t t' s _ _ ⟨.bl (g i j),H,I,rfl,q⟩
def ex'(i j:Int):Prop:=0<j/\j<1073741824
def N9(i j:Int):Prop:=(-(2 ^ 64)<i/\i<2 ^ 64)\/(-(2 ^ 64)<j/\j<2 ^ 64)
def N9.ok(h:N9 i j):IntMulOk i j:=by
 rcases h with⟨h1,h2⟩|⟨h1,h2⟩
 ·exact .of_left (intBits_le_64 h1 h2)
 ·exact .of_right (intBits_le_64 h1 h2)
def ey':eS X (om .Add) (N4 λi j=>.int (i+j)):=ew' λ_ _ _ _ _ _ _ q=>add_int q
def ez':eS X (om .Mult) (rI N9 λi j=>.int (i*j)):=Vf λ_ _ _ _ _ _ _ hc q=>mul_int q hc.ok
def eA':eS X (om .FloorDiv) (rI ex' λi j=>.int (i / j)):=Vf λi j _ _ _ _ _ hc q=>by have h1:0<j:=hc.1;have h2:j<1073741824:=hc.2;exact floordiv_int (by lia) (by rw[Int.fdiv_eq_ediv_of_nonneg i (by lia)];exact q) (.inl (PyProof.noPylong_small (by lia)))
def eB':eS X (om .Mod) (rI (λ_ j=>0<j) λi j=>.int (i % j)):=Vf λi j _ _ _ _ _ hc q=>by exact mod_int' (by lia) (by rw[Int.fmod_eq_emod_of_nonneg i (by lia)];exact q)
def unI{f:ae->Sem ae}{g:Int->Int}(rule:∀ (i:Int) (t:Tok) (s:ax) (Q:ae->ax->Prop) (E:ae->ax->Prop),Q (.int (g i) s.toks) { s with toks:=s.toks+1 }->bP (aS X.prog X.w) X.A (f (.int i t)) Q E s) :
  Sn X f (rU λi=>.int (g i)):=by
 intro pins s σ H x v Q I rx h;obtain⟨i,rfl,q⟩:=h;walk_at"A";exact rule i t s _ _ ⟨.int (g i),H,I.tok _,⟨_,rfl⟩,q⟩
def eD':Sn X (unaryOp .USub) (rU λi=>.int (-i)):=unI λ_ _ _ _ _ q=>neg_int q
end
def Z5:V->V->Bool
 |.non,.non=>true|.non,.int _=>true|.int _,.non=>true|.non,.bl _=>true|.bl _,.non=>true|.non,.str _=>true|.str _,.non=>true
 |.int _,.int _=>true|.bl _,.bl _=>true|.str _,.str _=>true|.uk _,.uk _=>true
 |.int _,.str _=>true|.str _,.int _=>true|.bl _,.str _=>true|.str _,.bl _=>true
 |_,_=>false
def rEq:R2:=λx y H Q=>Z5 x y=true/\Q (.bl (decide (x=y))) H
def rNe:R2:=λx y H Q=>Z5 x y=true/\Q (.bl (!decide (x=y))) H
def Z6:decide (V.int i=V.int j)=(i == j):=by rw[sT];simp
def Z7:decide (V.bl i=V.bl j)=(i == j):=by rw[sT];simp
def Z8:decide (V.str i=V.str j)=(i == j):=by rw[sT];simp
def Z9:decide (V.uk i=V.uk j)=(i.toList == j.toList):=by rw[sT];cases i;cases j;simp
section
variable {X:Cx}{a b c:Expr}{ta tb tc:TE}{pos:Pos}
def i6(I:Inv X pins σ H s)(q:Q (.bl k) H)(e:k=k'):EP X pins σ Q (.bool k') s:=by subst e;exact⟨.bl k,H,I,rfl,q⟩
def eG':eS X (iq .Eq) rEq:=by
 walk_at"b";obtain⟨hs,q⟩:=h
 cases x with
 |non =>
  cases rx
  cases y with
  |non=>cases ry;exact PySem.EqNone.eq_none_none (i6 I q (by simp))
  |bl j=>cases ry;exact PySem.EqNone.eq_none_bool (i6 I q (by simp))
  |int j=>obtain⟨t',rfl⟩:=ry;exact PySem.EqNone.eq_none_int (i6 I q (by simp))
  |str j=>obtain⟨t',rfl⟩:=ry;exact PySem.EqNone.eq_none_str (i6 I q (by simp))
  |_=>exact absurd (hs) kG
 |bl i =>
  cases rx
  cases y with
  |non=>cases ry;exact PySem.EqNone.eq_bool_none (i6 I q (by simp))
  |bl j=>cases ry;exact eq_bool (i6 I q Z7)
  |str j=>obtain⟨t',rfl⟩:=ry;exact PySem.EqMixed.eq_bool_str (i6 I q (by simp))
  |_=>exact absurd (hs) kG
 |int i =>
  walk_at"A"
  cases y with
  |non=>cases ry;exact PySem.EqNone.eq_int_none (i6 I q (by simp))
  |int j=>obtain⟨t',rfl⟩:=ry;exact eq_int (i6 I q Z6)
  |str j=>obtain⟨t',rfl⟩:=ry;exact PySem.EqMixed.eq_int_str (i6 I q (by simp))
  |_=>exact absurd (hs) kG
 |str i =>
  walk_at"A"
  cases y with
  |non=>cases ry;exact PySem.EqNone.eq_str_none (i6 I q (by simp))
  |bl j=>cases ry;exact PySem.EqMixed.eq_str_bool (i6 I q (by simp))
  |int j=>obtain⟨t',rfl⟩:=ry;exact PySem.EqMixed.eq_str_int (i6 I q (by simp))
  |str j=>obtain⟨t',rfl⟩:=ry;exact eq_str (i6 I q Z8)
  |_=>exact absurd (hs) kG
 |uk i =>
  walk_at"A"
  cases y with
  |uk j=>obtain⟨t',rfl⟩:=ry;exact PySem.W.eq_bytes (i6 I q Z9)
  |_=>exact absurd (hs) kG
 |_=>cases y<;>exact absurd (hs) kG
def eH':eS X (iq .NotEq) rNe:=by
 walk_at"b";obtain⟨hs,q⟩:=h
 cases x with
 |non =>
  cases rx
  cases y with
  |non=>cases ry;exact PySem.EqNone.ne_none_none (i6 I q (by simp))
  |bl j=>cases ry;exact PySem.EqNone.ne_none_bool (i6 I q (by simp))
  |int j=>obtain⟨t',rfl⟩:=ry;exact PySem.EqNone.ne_none_int (i6 I q (by simp))
  |str j=>obtain⟨t',rfl⟩:=ry;exact PySem.EqNone.ne_none_str (i6 I q (by simp))
  |_=>exact absurd (hs) kG
 |bl i =>
  cases rx
  cases y with
  |non=>cases ry;exact PySem.EqNone.ne_bool_none (i6 I q (by simp))
  |bl j=>cases ry;exact ne_bool (i6 I q (congrArg not Z7))
  |str j=>obtain⟨t',rfl⟩:=ry;exact PySem.EqMixed.ne_bool_str (i6 I q (by simp))
  |_=>exact absurd (hs) kG
 |int i =>
  walk_at"A"
  cases y with
  |non=>cases ry;exact PySem.EqNone.ne_int_none (i6 I q (by simp))
  |int j=>obtain⟨t',rfl⟩:=ry;exact ne_int (i6 I q (congrArg not Z6))
  |str j=>obtain⟨t',rfl⟩:=ry;exact PySem.EqMixed.ne_int_str (i6 I q (by simp))
  |_=>exact absurd (hs) kG
 |str i =>
  walk_at"A"
  cases y with
  |non=>cases ry;exact PySem.EqNone.ne_str_none (i6 I q (by simp))
  |bl j=>cases ry;exact PySem.EqMixed.ne_str_bool (i6 I q (by simp))
  |int j=>obtain⟨t',rfl⟩:=ry;exact PySem.EqMixed.ne_str_int (i6 I q (by simp))
  |str j=>obtain⟨t',rfl⟩:=ry;exact ne_str (i6 I q (congrArg not Z8))
  |_=>exact absurd (hs) kG
 |uk i =>
  walk_at"A"
  cases y with
  |uk j=>obtain⟨t',rfl⟩:=ry;exact PySem.W.ne_bytes (i6 I q (congrArg not Z9))
  |_=>exact absurd (hs) kG
 |_=>cases y<;>exact absurd (hs) kG
def eI':eS X (iq .Lt) (N4 λi j=>.bl (decide (i<j))):=Vg λ_ _ _ _ _ _ _ q=>lt_int q
def eJ':eS X (iq .LtE) (N4 λi j=>.bl (decide (i<=j))):=Vg λ_ _ _ _ _ _ _ q=>le_int q
def eK':eS X (iq .Gt) (N4 λi j=>.bl (decide (j<i))):=Vg λ_ _ _ _ _ _ _ q=>gt_int q
def eL':eS X (iq .Lt) (λx y H Q=>∃ i j,x=.str i/\y=.str j/\Q (.bl (decide (i.cps.toList<j.cps.toList))) H):=by intro pins s σ H x y v u Q I rx ry h;obtain⟨i,j,rfl,rfl,q⟩:=h;obtain⟨t,rfl⟩:=rx;obtain⟨t',rfl⟩:=ry;exact lt_str (i6 I q rfl)
def eM':eS X (iq .In) (λx y H Q=>∃ i j,x=.str i/\y=.str j/\Q (.bl (!(Builtin.Str.occurrences j i 0 j.length 1).isEmpty)) H):=by intro pins s σ H x y v u Q I rx ry h;obtain⟨i,j,rfl,rfl,q⟩:=h;obtain⟨t,rfl⟩:=rx;obtain⟨t',rfl⟩:=ry;exact in_str (i6 I q rfl)
def Z_:eS X (iq .IsNot) (λx y H Q=>y=.non/\Q (.bl (!decide (x=.non))) H):=by
 walk_at"b";obtain⟨rfl,q⟩:=h;cases ry;refine isnot_none_gen (i6 I q ?_);cases x<;>first
  | (cases rx;rfl)
  | (obtain⟨t,rfl⟩:=rx;rfl)
def eN':eS X (iq .NotIn) (λx y H Q=>∃ i j,x=.str i/\y=.str j/\Q (.bl (!(!(Builtin.Str.occurrences j i 0 j.length 1).isEmpty))) H):=by intro pins s σ H x y v u Q I rx ry h;obtain⟨i,j,rfl,rfl,q⟩:=h;obtain⟨t,rfl⟩:=rx;obtain⟨t',rfl⟩:=ry;exact notIn_str (i6 I q rfl)
def eS.or(h:eS X f r)(h':eS X f r'):eS X f (λx y H Q=>r x y H Q\/r' x y H Q):=by
 intro pins s σ H x y v u Q I rx ry q;rcases q with q|q
 ·exact h pins s σ H x y v u Q I rx ry q
 ·exact h' pins s σ H x y v u Q I rx ry q
def aa'(b:Expr)(h:op≠.In:=by decide)(h2:op≠.NotIn:=by decide):MS op b=false:=by
 have e1:(op == CmpOp.In)=false:=by cases op<;>first|rfl|exact absurd rfl h
 have e2:(op == CmpOp.NotIn)=false:=by cases op<;>first|rfl|exact absurd rfl h2
 cases b<;>simp[MS,e1,e2]
def eO'{op:CmpOp}{r:R2}(ho:eS X (iq op) r)(ha:PE X a ta)(hb:PE X b tb)(hm:MS op b=false):PE X (.Compare a [op] [b] pos) (PD r ta tb):=by intro pins s σ H Q I h;exact wpAny_Compare1 (Ve ha hb I h λv u s2 x y H2 I2 rx ry q=>ho pins s2 σ H2 x y v u Q I2 rx ry q) hm
def Vh(t:TE):TT:=λσ H Q=>t σ H λx H'=>∃ k,x=.bl k/\Q k H'
def eP'(ho:eS X (iq op) r)(ha:PE X a ta)(hb:PE X b tb)(hm:MS op b=false):PT X (.Compare a [op] [b] pos) (Vh (PD r ta tb)):=by
 intro pins s σ H Q I h;refine wpAny_isTrue_Compare1 (dk (ha pins s σ H _ I h) λv s1 dv=>L2.g9 dv λx H1 I1 r1 q1=>dk (hb pins s1 σ H1 _ I1 q1) λu s2 dv=>L2.g9 dv λy H2 I2 r2 q2 =>
  dk (ho pins s2 σ H2 x y v u _ I2 r1 r2 q2) λc s3 ⟨z,H3,I3,r3,k,e,q3⟩=>?_) hm
 subst e;cases r3;exact MQ ⟨H3,I3,q3⟩
def ab'(r r':R2)(ta tb tc:TE):TE:=λσ H Q=>ta σ H λx H1=>tb σ H1 λy H2=>r x y H2 λz H3=>∃ k,z=.bl k /\ (if k=true then tc σ H3 λw' H4=>r' y w' H4 Q else Q (.bl false) H3)
def eQ'(ho:eS X (iq op) r)(oB:eS X (iq op') r')(ha:PE X a ta)(hb:PE X b tb)(hc:PE X c tc)(hm:lastMarks [op,op'] [b,c]=false:=by with_unfolding_all rfl):PT X (.Compare a [op,op'] [b,c] pos) (Vh (ab' r r' ta tb tc)):=by
 intro pins s σ H Q I h;refine isTrue_chain (dk (ha pins s σ H _ I h) λv s1 dv=>L2.g9 dv λx H1 I1 r1 q1=>test_link (dk (hb pins s1 σ H1 _ I1 q1) λu s2 dv=>L2.g9 dv λy H2 I2 r2 q2 =>
  dk (ho pins s2 σ H2 x y v u _ I2 r1 r2 q2) λd s3 ⟨z,H3,I3,r3,k,e,q3⟩=>?_)) hm
 subst e;cases r3;refine MQ ?_
 cases k with
 |false =>obtain⟨k',e',q'⟩:=q3;cases e';exact ite_ff ⟨H3,I3,q'⟩
 |true =>refine ite_tt (test_last (dk (hc pins s3 σ H3 _ I3 q3) λw' s4 ⟨z',H4,I4,r4,q4⟩=>dk (oB pins s4 σ H4 y z' u w' _ I4 r2 r4 q4) λd' s5 eM=>?_));obtain⟨z2,H5,I5,r5,k2,e2,q5⟩:=eM;subst e2;cases r5;exact MQ ⟨H5,I5,q5⟩
def Vi(K:aC)(x:V)(H:Hp)(k:Bool):Prop :=
 match x with
 |.non=>k=false
 |.bl b=>k=b
 |.int i=>k=(i != 0)
 |.str y=>y.length<=bq/\k=((y.length:Int) != 0)
 |.uk y=>y.size<=bq/\k=((y.size:Int) != 0)
 |.ref p=>(∃ xs,fw K H p xs/\k = !xs.isEmpty)\/(∃ xs,kU K H p xs/\k = !xs.isEmpty)\/∃ kvs,H p=some (.dK kvs)/\k = !kvs.isEmpty
 |_=>False
def eR'{κ:Type}{kvs:List (κ × V)}{vs:List (κ × ae)}(r:KV kvs vs):(!vs.isEmpty) = !kvs.isEmpty:=by cases r<;>rfl
def ac'(r:Vals xs its):(!its.toArray.isEmpty) = !xs.isEmpty:=by cases r<;>simp
def Vj:(bq:Nat)<2 ^ 63:=by rw[iL];decide
def eS':et' X (λx H Q=>∃ k,Vi X.K x H k/\Q k H):=by
 intro pins s σ H x v Q I rx h;obtain⟨k,e,q⟩:=h;have hs:bq=16777216:=iL
 cases x with
 |non =>cases rx;have e':k=false:=e;subst e';exact truthy_none ⟨H,I,q⟩
 |bl b =>cases rx;have e':k=b:=e;subst e';exact MQ ⟨H,I,q⟩
 |int i =>obtain⟨t,rfl⟩:=rx;have e':k=(i != 0):=e;subst e';exact PySem.P.truthy_int ⟨H,I,q⟩
 |str y =>obtain⟨t,rfl⟩:=rx;obtain⟨hy,e'⟩:y.length<=bq/\k=((y.length:Int) != 0):=e;subst e';exact PySem.P.truthy_str (by lia) ⟨H,I.tok _,q⟩
 |uk y =>obtain⟨t,rfl⟩:=rx;obtain⟨hy,e'⟩:y.size<=bq/\k=((y.size:Int) != 0):=e;subst e';exact PySem.W.truthy_bytes (by lia) ⟨H,I.tok _,q⟩
 |ref p =>
  cases rx;have e':(∃ xs,fw X.K H p xs/\k = !xs.isEmpty)\/(∃ xs,kU X.K H p xs/\k = !xs.isEmpty)\/∃ kvs,H p=some (.dK kvs)/\k = !kvs.isEmpty:=e;rcases e' with⟨xs,hx,e'⟩|⟨xs,hx,e'⟩|⟨kvs,hx,e'⟩
  ·subst e';obtain⟨its,r,pl,hz⟩:=I.list hx;have hlen:=r.length;exact wpAny_truthy_list pl.isList (by simp only[iO];lia) ⟨H,I.tok _,by rw[ac' r];exact q⟩
  ·subst e';obtain⟨its,r,pl,hz⟩:=I.tuple hx;have hlen:=r.length;exact truthy_tuple pl (by simp only[iO];lia) ⟨H,I.tok _,by rw[ac' r];exact q⟩
  ·subst e';obtain⟨hz,hS,vs,r,m⟩:kvs.length<=bq/\(p == qA)=false/\∃ vs,KV kvs vs/\s.heap.DictOf (kC X.prog X.w) p vs:=I.b5 p _ hx;have hlen:kvs.length=vs.length:=Paired.length r;exact wpAny_truthy_dict hS m (by lia) ⟨H,I.tok _,by rw[eR' r];exact q⟩
 |_=>exact(e).elim
def eT'(ha:PE X a ta)(he:∀ whole,isTrue a X.env whole=(do let v <- whole;standAt a.pos;holding [v] (truthy v))) :
  PT X a (λσ H Q=>ta σ H λx H'=>∃ k,Vi X.K x H' k/\Q k H'):=by
 walk_at"z";exact isTrue_plain (dk (ha pins s σ H _ I h) λv s1 dv=>L2.g9 dv λx H1 I1 r1 q1=>eS' pins s1 σ H1 x v Q I1 r1 q1) (he _)
def eU':eS X (om .Add) (λx y H Q=>∃ i j,x=.str i/\y=.str j/\i.length+j.length<=bq/\Q (.str (i++j)) H):=by intro pins s σ H x y v u Q I rx ry h;obtain⟨i,j,rfl,rfl,hz,q⟩:=h;obtain⟨t,rfl⟩:=rx;obtain⟨t',rfl⟩:=ry;exact add_str (λt' tk=>⟨.str (i++j),H,I.tok _,⟨_,rfl⟩,q⟩) hz
def vals1(r:Vals [x] us):∃ u,us=[u]/\RelV x u:=by
 cases r with
 |cons r1 r2=>cases r2;exact⟨_,rfl,r1⟩
def eV'(K:aC)(x:V)(H:Hp)(n:Nat):Prop :=
 match x with
 |.str y=>y.length<=bq/\n=y.length
 |.uk y=>y.size<=bq/\n=y.size
 |.ref p=>(∃ xs,fw K H p xs/\n=xs.length)\/∃ xs,kU K H p xs/\n=xs.length
 |_=>False
def Vk:lT X (.builtin "len") (λxs H Q=>∃ x n,xs=[x]/\eV' X.K x H n/\Q (.int n) H):=by
 walk_at"n";obtain⟨x,n,rfl,e,q⟩:=h;obtain⟨u,rfl,rx⟩:=vals1 r;have hs:bq=16777216:=iL
 cases x with
 |str y =>obtain⟨t,rfl⟩:=rx;obtain⟨hy,e'⟩:y.length<=bq/\n=y.length:=e;subst e';exact len_str (by lia) ⟨.int _,H,I.tok _,⟨_,rfl⟩,q⟩
 |uk y =>obtain⟨t,rfl⟩:=rx;obtain⟨hy,e'⟩:y.size<=bq/\n=y.size:=e;subst e';exact PySem.W.len_bytes (by lia) ⟨.int _,H,I.tok _,⟨_,rfl⟩,q⟩
 |ref p =>
  cases rx;have e':(∃ xs,fw X.K H p xs/\n=xs.length)\/∃ xs,kU X.K H p xs/\n=xs.length:=e;rcases e' with⟨xs,hx,e'⟩|⟨xs,hx,e'⟩
  ·subst e';obtain⟨its,r',pl,hz⟩:=I.list hx;have hlen:=r'.length;exact Calls.call_len_list pl.isList (by simp only[iO];lia) ⟨.int xs.length,H,I.tok _,⟨_,by simp only[iO];rw[hlen]⟩,q⟩
  ·subst e';obtain⟨its,r',pl,hz⟩:=I.tuple hx;have hlen:=r'.length;exact len_tuple pl (by simp only[iO];lia) ⟨.int xs.length,H,I.tok _,⟨_,by simp only[iO];rw[hlen]⟩,q⟩
 |_=>exact(e).elim
end
structure Vl(h:dy)(x dx C:ah)(mA:Str->Option ae):Prop where
 obj:h.get? x=some (Uu C dx)
 ns:h.Ns1 dx mA
 ne:dx≠x
def lookIn_ns{h:dy}{dx:ah}{mA:Str->Option ae}(n:h.Ns1 dx mA):∃ od,h.get? dx=some od/\∀ name,PySem.W.lookIn name od=some (mA name):=by
 obtain⟨o,es,ep,ho,hd,hk,_,hm⟩:=n;refine⟨o,ho,λname=>?_⟩;have e:=hm name;unfold nsFind findBy at e;rw[<- Array.find?_toList] at e;unfold PySem.W.lookIn;rw[hd];dsimp only;split
 ·rename_i y q;rw[q] at e;exact congrArg some e
 ·rename_i q;rw[q] at e;have a:es.toList.any (·.refKey)=false:=by rw[List.any_eq_false];intro y hy;obtain⟨z,t,eW'⟩:=hk y (Array.mem_toList_iff.mp hy);simp[DictEntry.refKey,eW']
  have a':¬ es.toList.any (·.refKey)=true:=by rw[a];exact kG
  rw[if_neg a'];exact congrArg some e
def Vl.look(I:Vl h x dx C mA):∃ od,PySem.W.InstAt h x (Uu C dx) C (some od)/\∀ name,PySem.W.lookIn name od=some (mA name) :=
 let ⟨od,ho,hl⟩:=lookIn_ns I.ns
 ⟨od,⟨I.obj,rfl,rfl,ho⟩,hl⟩
def x3.some_of(r:x3 (some v) o):∃ u,o=some u/\RelV v u:=by
 cases o with
 |none=>exact(r).elim
 |some u=>exact⟨u,rfl,r⟩
section
variable {P:d5}{w:eJ}{H:Hp}{h:dy}{a C dx:ah}{fs:List (Str × V)}
def Sq(b5:ku P w H h)(e:H a=some (.ins C dx fs)):∃ mA,Vl h a dx C mA/\(∀ f,x3 (fs.lookup f) (mA f))/\PySem.Within mA (fs.map (·.1))/\fs.length<=1000/\H dx=some (.own a):=by
 obtain⟨d,z,ne,ob,mA,n,r,q⟩:=(b5 a _ e)
 exact⟨mA,⟨ob,n,ne⟩,r,q,z,d⟩
end
structure Vm(K:aC)(C:ah):Prop where
 pg:PySem.W.plainGet K C Str.empty=true
 hd:PySem.W.hasDictIn K C=true
 po:PySem.W.plainOver K C=true
 sa:PySem.W.findIn K (.ref C) "__setattr__" = some (some (.builtin "object.__setattr__"))
def Vm.get{K:aC}(c:Vm K C)(f:Str):PySem.W.plainGet K C f=true:=c.pg
section
variable {X:Cx}{pins:List (ah × Obj)}{σ:St}{H:Hp}{s:ax}{A:fh}{E:ae->ax->Prop}{Q:ae->ax->Prop}{c:ae}{b:Bool}
inductive Ap(K:aC)(H:Hp):V->ae->Prop where
 |non:Ap K H .non (.type "NoneType")
 |bl (x:Bool):Ap K H (.bl x) (.type "bool")
 |int (i:Int):Ap K H (.int i) (.type "int")
 |str (x:Str):Ap K H (.str x) (.type "str")
 |Ee (x:UInt64):Ap K H (.Ee x) (.type "float")
 |lst {a:ah} {xs:List V} (e:H a=some (.lst xs)):Ap K H (.ref a) (.type "list")
 |qf {a:ah} {o:Obj} {xs:List V} (e:H a=some (.qf o (.lst xs))):Ap K H (.ref a) (.type "list")
 |tup {a:ah} {xs:List V} (e:H a=some (.tup xs)):Ap K H (.ref a) (.type "tuple")
 |dK {a:ah} {kvs:List (Key × V)} (e:H a=some (.dK kvs)):Ap K H (.ref a) (.type "dict")
 |dT {a:ah} {kvs:List (List Key × V)} (e:H a=some (.dT kvs)):Ap K H (.ref a) (.type "dict")
 |ins {a C dx:ah} {fs:List (Str × V)} (e:H a=some (.ins C dx fs)) (cl:Vm K C) (ha:PySem.W.findIn K (.ref C) "__class__" = some (some (.builtin "object.__class__")))
   (hn:PySem.W.specialIn K (.builtin "object.__class__") "__get__" = some (some (.builtin "getset_descriptor.__get__"))) (htk:PySem.W.takesIn K (.builtin "object.__class__")=some true)
   (hm:PySem.W.mroIn K C (.type "object")=some true):Ap K H (.ref a) (.ref C)
def PH(I:Inv X pins σ H s)(rx:RelV x u)(ty:Ap X.K H x t)(e:PySem.W.kitOne X.K t c=some b)(h:∀ tk,Q (.bool b) { s with toks:=tk }) :
  bP (aS X.prog X.w) A (call (.builtin "isinstance") [u,c]) Q E s:=by
 cases ty with
 |non=>cases (show u=Value.none from rx);exact wd PySem.W.kitx_none I.mz True.intro e (λz=>nomatch z) h
 |bl y=>cases (show u=Value.bool y from rx);exact wd PySem.W.kitx_bool I.mz True.intro e (λz=>nomatch z) h
 |int i=>obtain⟨t,q⟩:=(rx);cases q;exact wd PySem.W.kitx_int I.mz True.intro e (λz=>nomatch z) h
 |str y=>obtain⟨t,q⟩:=(show ∃ t,u=Value.str y t from rx);cases q;exact wd PySem.W.kitx_str I.mz True.intro e (λz=>nomatch z) h
 |Ee y=>obtain⟨t,q⟩:=(rx);cases q;exact wd PySem.W.kitx_float I.mz True.intro e (λz=>nomatch z) h
 |@lst a xs ea =>
  cases (show u=Value.ref a from rx);obtain⟨_,_,n,_,h1⟩:=(I.b5 a _ ea)
  exact wd Ut I.mz ⟨_,h1,rfl⟩ e (λz=>nomatch z) h
 |@qf a ob xs ea =>
  cases (show u=Value.ref a from rx);obtain⟨_,_,_,n,_,h1⟩:=(I.b5 a _ ea)
  exact wd Ut I.mz ⟨_,h1,rfl⟩ e (λz=>nomatch z) h
 |@tup a xs ea =>
  cases (show u=Value.ref a from rx);obtain⟨_,_,_,p⟩:=(I.b5 a _ ea)
  obtain⟨o,h1,h2,_⟩:=p;exact wd PySem.W.kitx_tuple I.mz ⟨o,h1,h2⟩ e (λz=>nomatch z) h
 |@dK a kvs ea =>
  cases (show u=Value.ref a from rx);obtain⟨_,_,vs,_,p⟩:=(I.b5 a _ ea)
  obtain⟨o,es,ep,h1,h2,_⟩:=p;exact wd Rp I.mz ⟨o,h1,h2.1⟩ e (λz=>nomatch z) h
 |@dT a kvs ea =>
  cases (show u=Value.ref a from rx);obtain⟨_,_,xs,_,o,es,ep,h1,h2,_⟩:=(I.b5 a _ ea)
  exact wd Rp I.mz ⟨o,h1,h2.1⟩ e (λz=>nomatch z) h
 |@ins a C dx fs ea cl ha hn htk hm =>cases (show u=Value.ref a from rx);obtain⟨mA,O,_⟩:=Sq I.b5 ea;obtain⟨od,J,_⟩:=O.look;exact wd (PySem.W.kitx_own (cl.get _) cl.hd ha hn htk hm) I.mz J e (λz=>nomatch z) h
end
structure ny(k:Nat)(A:fh):Prop where
 hd:A.handled=none
 dp:A.depth+3*k+5<recursionLimit
 un:A.units+16*k+200<eR
def ny.mono(r:ny k A)(h:j<=k):ny j A:=⟨r.hd,by have:=r.dp;lia,by have:=r.un;lia⟩
def ny.deeper(r:ny (k+1) A)(env:Env):ny k (A.deeper env) :=
 ⟨r.hd,by have:=r.dp;show A.depth+1+3*k+5<_;lia,by have:=r.un;show A.units+3+16*k+200<_;lia⟩
def ny.depth(r:ny k A):A.depth<recursionLimit:=by have:=r.dp;lia
def ny.units(r:ny k A):A.units+64<eR:=by have:=r.un;lia
def Vn:TA:=λ_ H Q=>Q [] H
def Vo(ta:TE)(tr:TA):TA:=λσ H Q=>ta σ H λx H1=>tr σ H1 λxs H2=>Q (x :: xs) H2
section
variable {X:Cx}{e:Expr}{es:List Expr}{te:TE}{t:TA}{pos:Pos}
def x8:PA X [] Vn:=λ_ _ _ _ H Q I h=>Calls.spliced_nil ⟨[],H,I,.nil,h⟩
def u0(ha:PE X e te)(hr:PA X es t)(hs:autoParam (b6 (e :: es) X.env=(false,df e X.env) :: b6 es X.env) bv):PA X (e :: es) (Vo te t):=by intro pos pins s σ H Q I h;rw[hs];refine Calls.spliced_cons (dk (ha pins s σ H _ I h) λu s1 dv=>L2.g9 dv λx H1 I1 r1 q1=>?_);exact dk (hr pos pins s1 σ H1 _ I1 q1) λus s2 dv=>L2.g9 dv λxs H2 I2 r2 q2=>⟨x :: xs,H2,I2,.cons r1 r2,q2⟩
def eX'(t:TA):TE:=λσ H Q=>t σ H λxs H1=>xs.length<=bq/\∀ p,H1 p=none->Q (.ref p) (upd H1 p (.tup xs))
def eY'(t:TA):TE:=λσ H Q=>t σ H λxs H1=>xs.length<=bq/\∀ p,H1 p=none->Q (.ref p) (upd H1 p (.lst xs))
def ae'{x1}(h:PA X es t):PE X (.Tuple es x1 pos) (eX' t):=by intro pins s σ H Q I hq;refine wpAny_Tuple_spliced (dk (h pos pins s σ H _ I hq) λus s1 ⟨xs,H1,I1,r,z,q⟩=>⟨by rw[<- r.length];exact z,?_⟩);have hf:H1 s1.heap.objs.size=none:=I1.b5.fresh (cw _);refine⟨.ref s1.heap.objs.size,upd H1 s1.heap.objs.size (.tup xs),I1.laid (λb u e=>gi _ e) (cw _) ?_,rfl,q _ hf⟩;exact⟨z,us,r,⟨_,kB _ rfl,rfl,_,rfl⟩⟩
def eZ'(h:PA X es t):PE X (.List es pos) (eY' t):=by intro pins s σ H Q I hq;refine wpAny_List_spliced (dk (h pos pins s σ H _ I hq) λus s1 ⟨xs,H1,I1,r,z,q⟩=>⟨by rw[<- r.length];exact z,?_⟩);have hf:H1 s1.heap.objs.size=none:=I1.b5.fresh (cw _);refine⟨.ref s1.heap.objs.size,upd H1 s1.heap.objs.size (.lst xs),I1.laid (λb u e=>gi _ e) (cw _) ?_,rfl,q _ hf⟩;exact⟨z,us,0,r,kB _ rfl⟩
end
abbrev Sp:=List V->Hp->VK->XK->Prop
abbrev FK:=List Env->Hp->ax->XK->ae->ax->Prop
structure Sr(P:d5)(w:eJ)(K:aC)(mg:Str->Option ae)(base:dy)(A:fh)(outer:List Env)(s:ax)(H:Hp):Prop where
 frames:A.frames=some outer
 mod:Mod K mg base
 bs:∀ b o,base.get? b=some o->s.heap.get? b=some o/\H b=none
 FE:base.objs.size<=s.heap.objs.size
 A8:s.heap.FunFrames base outer
 NS:∀ b∈A7 outer,H b=none
 b5:ku P w H s.heap
 bare:AllBare s.gens
def CE(outer:List Env)(P:d5)(w:eJ)(H:Hp)(s:ax)(Q:VK)(u:ae)(s':ax):Prop :=
 ∃ v H',s'.os=s.os/\AllBare s'.gens/\Un (A7 outer) [] H H' s.heap s'.heap/\ku P w H' s'.heap/\RelV v u/\Q v H'
def CR(CX:FK)(outer:List Env)(P:d5)(w:eJ)(H:Hp)(s:ax)(Q:VK)(E:XK)(r:Result)(s':ax):Prop :=
 match r with
 |.ok (.ret u)=>CE outer P w H s Q u s'
 |.ok _=>False
 |.error e=>CX outer H s E e s'
structure Au(P:d5)(w:eJ)(K:aC)(mg:Str->Option ae)(base:dy)(CX:FK)(k:Nat)(f:ah)(fd:FuncData)(ps:List Str)(sp:Sp):Prop where
 len:∀ vs H Q E,sp vs H Q E->vs.length=ps.length
 run:∀ (A:fh) (outer:List Env) (s:ax) (H:Hp) (args:Args) (us:List ae) (vs:List V) (Q:VK) (E:XK),ny k A->Sr P w K mg base A outer s H->BindsTo s fd args (ps.zip us)->Vals vs us->sp vs H Q E ->
  codeAny (aS P w) A (.call (.ref f) args) (CR CX outer P w H s Q E) s
section
variable {X:Cx}{pins:List (ah × Obj)}{σ:St}{H:Hp}{s s':ax}
def Inv.fa'(I:Inv X pins σ H s):Sr X.prog X.w X.K X.mg X.base X.A X.stack s H :=
 ⟨I.ok.frames,I.ok.mod,I.bs,iS I.ok.FE I.sz,I.stack,I.ZL,I.b5,I.bare⟩
def Inv.after(I:Inv X pins σ H s)(h:CE X.stack X.prog X.w H s Q u s'):EP X pins σ Q u s':=by obtain⟨v,H',os,bare,un,b5,r,q⟩:=h;obtain⟨hh,g,d,t,os'⟩:=s';obtain rfl:os'=s.os:=os;exact⟨v,H',I.call un b5 bare (λb z=>absurd z (by simp)),r,q⟩
end
def Vp(sp:Sp)(FL:List V)(E:XK)(t:TA):TE:=λσ H Q=>t σ H λvs H1=>sp (vs++FL) H1 Q E
def Binds(K:aC)(fd:FuncData)(ps:List Str)(ds:List ae):Prop :=
 ∀ (s:ax) (us:List ae),K.In s.heap->(us++ds).length=ps.length->BindsTo s fd ⟨us,[]⟩ (ps.zip (us++ds))
def Binds.all{K:aC}{ps:List Str}(h:∀ us:List ae,us.length=ps.length->bindArgs fd ⟨us,[]⟩=pure (ps.zip us)):Binds K fd ps []:=λs us _ hl=>by rw[sP] at hl ⊢;exact .of_eq (h us hl)
def Passes(CX:FK)(X:Cx)(E:XK):Prop:=∀ (pins:List (ah × Obj)) (σ:St) (H:Hp) (s:ax) (e:ae) (s':ax),Inv X pins σ H s->CX X.stack H s E e s'->X.xe e s'
section
variable {X:Cx}{CX:FK}{k:Nat}{f:ah}{fd:FuncData}{ps:List Str}{sp:Sp}{FL:List V}{ds:List ae}{E:XK}{x:Str}{p pos:Pos}{e:Expr}{es:List Expr}{t:TA}
def fd'(F:Au X.prog X.w X.K X.mg X.base CX k f fd ps sp)(hr:ny k X.A)(hb:Binds X.K fd ps ds)(hd:Vals FL ds)(hx:Passes CX X E)(I:Inv X pins σ H s) (r:Vals vs us) (h:sp (vs++FL) H Q E):bP (aS X.prog X.w) X.A (call (.ref f) us) (EP X pins σ Q) X.xe s:=by
 have r2:Vals (vs++FL) (us++ds):=r.append hd;have hl:(us++ds).length=ps.length:=by rw[<- r2.length];exact F.len _ _ _ _ h
 refine wpAny_call (codeAny_mono (F.run X.A X.stack s H ⟨us,[]⟩ (us++ds) (vs++FL) Q E hr I.fa' (hb s us I.mz hl) r2 h) λr s' hq=>?_)
 cases r with
 |error e=>exact hx pins σ H s e s' I hq
 |ok fl =>
  cases fl with
  |ret u=>exact I.after hq
  |next=>exact False.elim hq
  |brk=>exact False.elim hq
  |cont=>exact False.elim hq
def fe'(F:Au X.prog X.w X.K X.mg X.base CX k f fd ps sp)(hr:ny k X.A)(hg:Gl X x)(hm:X.mg x=some (.ref f))(hk:IA X.K (.ref f)=true)(hb:Binds X.K fd ps ds)(hd:Vals FL ds)(hx:Passes CX X E)(ha:PA X (e :: es) t) (tj:(x == ("__debug__" : Str))=false:=by decide) (he:autoParam (b6 (e :: es) X.env=(false,df e X.env) :: b6 es X.env) bv) (kX:autoParam ((kQ pos (b6 es X.env)).any (·.1)=false) bv) :
  PE X (.Call (.Name x p) (e :: es) [] pos) (Vp sp FL E t):=by
 walk_at"z";refine AU (ZV I hg hm ?_ tj);refine PySem.W.callWith_K I.ok.mod.wx hk (dk (ha pos pins s σ H _ I h) λus s1 dv=>L2.g9 dv λvs H1 I1 r q=>⟨I1.mz,?_⟩) he kX;exact fd' F hr hb hd hx I1 r q
end
structure PJ(N P:List Str)(sc:Scope):Prop where
 kind:sc.kind=.function
 co:sc.isCoroutine=false
 gen:sc.isGenerator=false
 nd:N.Nodup
 pre:N.take P.length=P
 par:∀ x∈P,sc.names.lookup x=some .local\/sc.names.lookup x=some .cell
 ff':∀ y∈sc.names,y.2≠.free
theorem af'{fN:Str->Option AY}:∀ {binds:List (Str × ae)} {m:Str->Option ae},(∀ v,(x,v)∉binds)->bindL fN binds m x=m x
 |[],_,_=>rfl
 | (n,v) :: r,m,h=>by
  unfold bindL;rw[af' λw hw=>h w (c9 _ hw)];split
  ·have:x≠n:=by rintro rfl;exact h v cy
   simp[this]
  ·rfl
theorem ag'{fN:Str->Option AY}:∀ {binds:List (Str × ae)} {m:Str->Option ae},(∀ v,(x,v)∉binds)->bindC fN binds m x=m x
 |[],_,_=>rfl
 | (n,v) :: r,m,h=>by
  unfold bindC;rw[ag' λw hw=>h w (c9 _ hw)];split
  ·rfl
  ·have:x≠n:=by rintro rfl;exact h v cy
   simp[this]
def ah'{fN:Str->Option AY}:∀ {P:List Str} {vs:List ae} {i:Nat} {m:Str->Option ae},P.Nodup->P[i]? = some x->vs[i]? = some v->fN x=some .local ->
  bindL fN (P.zip vs) m x=some v
 |[],_,_,_,_,h,_,_=>by simp at h
 |_ :: _,[],_,_,_,_,h,_=>by simp at h
 |p :: P,w :: vs,0,m,nd,h1,h2,hk=>by simp at h1 h2;subst h1;subst h2;show bindL fN ((p,w) :: P.zip vs) m p=_;unfold bindL;rw[af' λv hv=>(kA.mp nd).1 (List.of_mem_zip hv).1,if_pos hk];simp
 |p :: P,w :: vs,i+1,m,nd,h1,h2,hk=>by unfold bindL;exact ah' (kA.mp nd).2 (by simpa using h1) (by simpa using h2) hk
def ai'{fN:Str->Option AY}:∀ {P:List Str} {vs:List ae} {i:Nat} {m:Str->Option ae},P.Nodup->P[i]? = some x->vs[i]? = some v->fN x≠some .local ->
  bindC fN (P.zip vs) m x=some v
 |[],_,_,_,_,h,_,_=>by simp at h
 |_ :: _,[],_,_,_,_,h,_=>by simp at h
 |p :: P,w :: vs,0,m,nd,h1,h2,hk=>by simp at h1 h2;subst h1;subst h2;show bindC fN ((p,w) :: P.zip vs) m p=_;unfold bindC;rw[ag' λv hv=>(kA.mp nd).1 (List.of_mem_zip hv).1,if_neg hk];simp
 |p :: P,w :: vs,i+1,m,nd,h1,h2,hk=>by unfold bindC;exact ai' (kA.mp nd).2 (by simpa using h1) (by simpa using h2) hk
def start(N:List Str)(vs:List V):St:=vs.map some++List.replicate (N.length-vs.length) none
def CL(CX:FK)(P:d5)(w:eJ)(K:aC)(mg:Str->Option ae)(base:dy)(N:List Str)(qual:Str)(scope:Scope)(f:ah)(cd:ae)(A:fh)(outer:List Env)(s:ax)(H:Hp)(E:XK):Cx where
 prog:=P
 w:=w
 K:=K
 mg:=mg
 base:=base
 A:=A.deeper (envOfC qual scope s.heap.objs.size f cd)
 N:=N
 kS:=s
 Pu:=H
 env:=envOfC qual scope s.heap.objs.size f cd
 outer:=outer
 stack:=envOfC qual scope s.heap.objs.size f cd :: outer
 ex:=[]
 calm:=true
 fn:=λ_=>true
 pn:=[]
 xe:=λe s'=>bP (aS P w) (A.deeper (envOfC qual scope s.heap.objs.size f cd)) (leaving (envOfC qual scope s.heap.objs.size f cd) e) (λ_ FP=>CX outer H s E e FP) (λe' FP=>CX outer H s E e' FP) s'
def aj'{sc:Scope}{n:Nat}{x:Str}(h:sc.names.lookup x=some .cell):∃ c,(cellsFrom n sc.names []).lookup x=some c:=by have q:=PySem.W.cellsFrom_some sc.names n [] (.inl h);exact R5.mp q
def fg'{CX:FK}{P:d5}{w:eJ}{K:aC}{mg:Str->Option ae}{base:dy}{N ps:List Str}{qual:Str}{scope:Scope}{f:ah}{cd:ae}{A:fh}{outer:List Env}{s s1:ax}{H:Hp}{E:XK}{us:List ae}{vs:List V}(S:PJ N ps scope) (hd:A.handled=none) (e0:Sr P w K mg base A outer s H) (hl:vs.length=ps.length) (r:Vals vs us)(x:InCallC s s.heap.objs.size (bindL (envOfC qual scope s.heap.objs.size f cd).kindOf (ps.zip us) λ_=>none) (cellsFrom (s.heap.objs.size+1) scope.names []) (bindC (envOfC qual scope s.heap.objs.size f cd).kindOf (ps.zip us) λ_=>none) s1) :
  Inv (CL CX P w K mg base N qual scope f cd A outer s H E) [] (start N vs) H s1:=by
 have kX:ps.length<=N.length:=by have:=congrArg List.length S.pre;rw[oq] at this;lia
 obtain⟨h1,tk,rfl,hk⟩:=x.done;have PK:∀ b:ah,b∉(CL CX P w K mg base N qual scope f cd A outer s H E).ex:=λb z=>absurd (show b∈([]:List ah) from z) (by simp);refine⟨⟨e0.mod,S.kind,rfl,rfl,cw _,λy z c h1 h2=>?_,λy hy=>?_,λy c _ h=>?_,λ_=>hd,Around.frames_deeper e0.frames,.inr ⟨rfl,rfl⟩,λb z=>absurd z (PK b),e0.bs,e0.FE,λb _ _=>PK b,λb z=>absurd z (PK b),e0.A8,e0.NS⟩,
  rfl,e0.bare,Un.kept hk,⟨_,x.toInCall.ns,λi y v h1 h2 h3=>?_⟩,λy c h=>⟨_,x.cell y c h⟩,e0.b5.fresh (cw _),λy c h=>?_,λp hp=>absurd (show p∈([]:List (ah × Obj)) from hp) (by simp),e0.b5.kept hk,?_⟩
 ·exact name_of_addr x.apart (PySem.mem_of_lookup h1) (PySem.mem_of_lookup h2)
 ·have hy:scope.names.lookup y=some .cell\/scope.names.lookup y=some .free:=hy;rcases hy with hy|hy
  ·exact aj' hy
  ·exact absurd rfl (S.ff' _ (PySem.mem_of_lookup hy))
 ·exact sQ (x.above y c (PySem.mem_of_lookup h))
 ·have hi:i<vs.length:=by
   unfold start at h2;by_cases hi:i<vs.length
   ·exact hi
   ·rw[Cb (by simpa using hi)] at h2;rw[List.getElem?_replicate] at h2;split at h2<;>cases h2
  have ha:vs[i]? = some v:=by
   unfold start at h2;rw[Fc (by simpa using hi),nh] at h2
   cases e:vs[i]? with
   |none=>rw[e] at h2;cases h2
   |some a=>rw[e] at h2;cases h2;rfl
  obtain⟨u,hu,rv⟩:=r.get ha;have hp:ps[i]? = some y:=by rw[<- S.pre,List.getElem?_take_of_lt (by lia)];exact h1
  have ndP:ps.Nodup:=by rw[<- S.pre];exact S.nd.sublist (List.take_sublist _ _)
  refine⟨u,rv,?_⟩;rcases S.par y (ly hp) with k|k
  ·exact .inl ⟨k,ah' ndP hp hu k⟩
  ·obtain⟨c,e⟩:=aj' k;refine .inr ⟨.inl k,c,e,?_⟩;have q:=x.cell y c e;rw[ai' ndP hp hu (by show scope.names.lookup y≠_;rw[k];decide)] at q;exact q
 ·exact e0.b5.fresh (sQ (x.above y c (PySem.mem_of_lookup h)))
 ·unfold start;show _=N.length;rw[kz,b9,List.length_replicate];lia
def fh'{P:d5}{K:aC}{dV kV doc pm gv ct oc:ae}{N ps:List Str} (lk:K.lookup f=some ⟨oc,od,.func (zt name qual params body scope dV kV doc pm an gv ct),CM⟩) (uS:MX K gv qual=true) (S:PJ N ps scope)(len:∀ vs H Q E,sp vs H Q E->vs.length=ps.length)(PL:∀ (A:fh) (outer:List Env) (s:ax) (H:Hp) (vs:List V) (Q:VK) (E:XK),ny k (A.deeper (envOfC qual scope s.heap.objs.size f gv))->sp vs H Q E ->
   ∃ t,nv (CL CX P w K mg base N qual scope f gv A outer s H E) body t/\t { nx:=λ_ H'=>Q .non H',rt:=Q } (start N vs) H) :
  Au P w K mg base CX (k+1) f (zt name qual params body scope dV kV doc pm an gv ct) ps sp:=by
 refine⟨len,λA outer s H args us vs Q E hr e0 hb r FR=>?_⟩;have hl:=len _ _ _ _ FR;have KX:K.In s.heap:=e0.mod.wx.keeps λb o e=>(e0.bs b o e).1;have lim:s.heap.NoLimit:=e0.mod.nolimit.keeps λb o e=>(e0.bs b o e).1;have fi':∀ y∈ps.zip us,scope.names.lookup y.1=some .local\/(scope.names.lookup y.1=some .cell/\((cellsFrom (s.heap.objs.size+1) scope.names []).lookup y.1).isSome=true):=λ⟨n,v⟩ hy=>by
  rcases S.par n (List.of_mem_zip hy).1 with q|q
  ·exact .inl q
  ·exact .inr ⟨q,PySem.W.cellsFrom_some _ _ _ (.inl q)⟩
 refine codeAny_call_function hr.depth (KX _ _ lk) rfl S.co S.gen rfl (PySem.W.codeRec_of KX uS) (hb _ _ _ _ ?_);refine wpAny_newFunctionEnv_cells S.kind fi' λenv he s1 x=>?_;subst he;refine⟨lim.keeps x.toInCall.keep,codeAny_func ?_⟩;obtain⟨t,ht,hq⟩:=PL A outer s H vs Q E (hr.deeper _) FR;have I:Inv (CL CX P w K mg base N qual scope f gv A outer s H E) [] (start N vs) H s1:=fg' S hr.hd e0 hl r x;refine wc (ht [] s1 (start N vs) H _ I hq) (λfl s' hs=>?_) λe s' hs=>hs;have fin:∀ {cv:St} {H':Hp} {v:V} {u:ae},Inv (CL CX P w K mg base N qual scope f gv A outer s H E) [] cv H' s'->RelV v u->Q v H'->CE outer P w H s Q u s' :=
  λ{cv H' v u} J rv q=>⟨v,H',J.os,J.bare,J.base,J.b5,rv,q⟩
 cases fl with
 |ret u =>obtain⟨v,cv,H',J,rv,q⟩:=hs;exact fin J rv q
 |next =>obtain⟨cv,H',J,q⟩:=hs;exact fin (v:=V.non) J rfl q
 |brk =>obtain⟨_,_,_,q⟩:=hs;exact False.elim q
 |cont =>obtain⟨_,_,_,q⟩:=hs;exact False.elim q
section
variable {X:Cx}{x:Str}{p pos:Pos}{e:Expr}{es:List Expr}{t:TA}{id T:String}{r:List V->Hp->VK->Prop}
def Vq(r:List V->Hp->VK->Prop)(t:TA):TE:=λσ H Q=>t σ H λvs H1=>r vs H1 Q
def al' (hc:lT X (.builtin id) r) (hg:Gl X x) (hm:X.mg x=none) (hv:ll x=some (.builtin id)) (ha:PA X (e :: es) t) (hn:x ≠ "__name__" := by decide) (tj:(x == ("__debug__" : Str))=false:=by decide) (he:autoParam (b6 (e :: es) X.env=(false,df e X.env) :: b6 es X.env) bv) (kX:autoParam ((kQ pos (b6 es X.env)).any (·.1)=false) bv):PE X (.Call (.Name x p) (e :: es) [] pos) (Vq r t):=by
 walk_at"z";refine AU (x5 I hg hm hv ?_ hn tj);exact PyProof.Rows.callWith_builtin1 (dk (ha pos pins s σ H _ I h) λus s1 dv=>L2.g9 dv λvs H1 I1 r1 q1=>hc pins s1 σ H1 vs us Q I1 r1 q1) he kX
def fj' (hc:lT X (.type T) r) (hg:Gl X x) (hm:X.mg x=none) (hv:ll x=some (.type T)) (ha:PA X (e :: es) t) (hn:x ≠ "__name__" := by decide) (tj:(x == ("__debug__" : Str))=false:=by decide) (he:autoParam (b6 (e :: es) X.env=(false,df e X.env) :: b6 es X.env) bv) (kX:autoParam ((kQ pos (b6 es X.env)).any (·.1)=false) bv):PE X (.Call (.Name x p) (e :: es) [] pos) (Vq r t):=by
 walk_at"z";refine AU (x5 I hg hm hv ?_ hn tj);exact PyProof.Rows.callWith_type1 (dk (ha pos pins s σ H _ I h) λus s1 dv=>L2.g9 dv λvs H1 I1 r1 q1=>hc pins s1 σ H1 vs us Q I1 r1 q1) he kX
end
end L2
end
namespace HT
open PySem PyProof.Rows
section
open PySem.SeqAt
open PySem.AutoSeq1 (wpAny_loadPart')
open PySem.MeetsSeq PySem.MeetsSeq2 PySem.MeetsSeq3
end
section
variable {prog:d5}{w:eJ}{A:fh}{E:ae->ax->Prop}{s:ax}
def fk'(ht:IsTup s.heap t vs.toArray)(hb:IsTup s.heap b ws.toArray)(hv:vs≠[])(h1:ws=[]->Q (.ref t) s) (h2:ws≠[]->Q (.ref s.heap.objs.size) { s with heap:=s.heap.push { cls:=.type "tuple",data:=.seq (vs++ws).toArray } }) (f7:vs.length+ws.length<=bq):bP (aS prog w) A (om .Add (.ref t) (.ref b)) Q E s:=by
 obtain⟨⟨cls,dd,data,sl⟩,ho,hc,n,hd⟩:=id ht;obtain⟨⟨Vr,ve,data2,vi⟩,pf,EE,n2,hd2⟩:=id hb;subst hc hd EE hd2;have e:vs.toArray++ws.toArray=(vs++ws).toArray:=by simp
 by_cases hw:ws=[]
 ·exact concat_meets ⟨_,ho,rfl⟩ ⟨_,pf,rfl⟩ noFill_tuple_add seq_tuple_add PySem.F.slot_tuple_add PySem.F.entry_tuple_add (PySem.F.args_tuple_add_2 _ _) (tuple_addW1 t b vs.toArray ws.toArray n n2 dd ve sl vi (by simpa using hv) (by simp[hw])) ⟨ho,pf,h1 hw⟩
 ·refine concat_meets ⟨_,ho,rfl⟩ ⟨_,pf,rfl⟩ noFill_tuple_add seq_tuple_add PySem.F.slot_tuple_add PySem.F.entry_tuple_add (PySem.F.args_tuple_add_2 _ _) (tuple_addW2 t b vs.toArray ws.toArray n n2 dd ve sl vi (by simpa using hv) (by simpa using hw) (by rw[iO,iO];exact f7)) ⟨ho,pf,?_⟩
  rw[e];exact h2 hw
def cK(n d:Nat):Option Int->Nat
 |none=>d
 |some v=>if v<0 then (v+(n:Int)).toNat else min v.toNat n
def am'(v:Int)(n d:Nat):(if v<0 then max (v+(n:Int)) 0 else min v (n:Int))=((cK n d (some v):Nat):Int):=by
 show(if v<0 then max (v+n) 0 else min v n)=(((if v<0 then (v+n).toNat else min v.toNat n):Nat):Int)
 by_cases hv:v<0
 ·simp only[if_pos hv];lia
 ·simp only[if_neg hv];lia
def fm'(lo hi:Option Int)(n:Nat):Builtin.Slice.sliceAdjust lo hi 1 (n:Int)=(((cK n 0 lo:Nat):Int),((cK n n hi:Nat):Int)):=by
 refine Prod.ext ?_ ?_
 ·cases lo with
  |none=>rfl
  |some v=>exact am' v n 0
 ·cases hi with
  |none=>rfl
  |some v=>exact am' v n n
def fn'(i j:Nat):Builtin.Slice.slicePlaces (i:Int) (j:Int) 1=j-i:=by unfold Builtin.Slice.slicePlaces;split<;>lia
def an'(p:IsPart v o)(h:Q o s):bP (aS prog w) A (Builtin.Slice.slicePartIndex v) Q E s:=by
 cases p with
 |none=>exact slicePart_none h
 |int i t=>exact slicePart_int h
def fo'{sl:ah}{vl vu:ae}{lo hi:Option Int}{n:Nat}{Q:Int × Int × Nat->ax->Prop}(hs:s.heap.IsSliceOf sl vl vu .none)(pl:IsPart vl lo)(pu:IsPart vu hi)(h:Q (((cK n 0 lo:Nat):Int),1,cK n n hi-cK n 0 lo) s):bP (aS prog w) A (Builtin.Slice.sliceApplied (.ref sl) (pure (n:Int))) Q E s:=by
 obtain⟨os,PN,AA,Ss⟩:=id hs;refine aw (aw (wpAny_field PN Ss rfl (aw (wpAny_field PN Ss rfl (aw (wpAny_field PN Ss rfl (bG ?_)))))));refine aw (slicePart_none ?_);refine aw (an' pl (aw (an' pu (aw (bG ?_)))));show bP _ _ (match Builtin.Slice.sliceAdjust lo hi 1 n with|(lo,hi)=>pure (lo,(1:Int),Builtin.Slice.slicePlaces lo hi 1)) _ _ s;rw[fm' lo hi n];show bP _ _ (pure (((cK n 0 lo:Nat):Int),1,Builtin.Slice.slicePlaces ((cK n 0 lo:Nat):Int) ((cK n n hi:Nat):Int) 1)) _ _ s;rw[fn'];exact bG h
def fp'(xs:Array ae)(i k:Nat):((List.range k).filterMap λ(m:Nat)=>xs[((i:Int)+(m:Int)*1).toNat]?).toArray=((xs.toList.drop i).take k).toArray:=by
 have e:(λ(m:Nat)=>xs[(i+(m:Int)*1).toNat]?)=λm=>xs[i+m]? := by
  funext m;have:(i+(m:Int)*1).toNat=i+m:=by lia
  rw[this]
 rw[e];have:=pick_run xs i k;rw[UI] at this;have e2:((λx=>xs[x]?) ∘ λx=>i+x)=λm=>xs[i+m]? := rfl;rw[e2] at this;rw[this]
def fq'{lo hi:Option Int}(ht:IsTup s.heap t items)(hs:s.heap.IsSliceOf sl vl vu .none)(pl:IsPart vl lo)(pu:IsPart vu hi)(hw:¬ (cK items.size 0 lo=0/\cK items.size items.size hi=items.size))(h:Q (.ref s.heap.objs.size) { s with heap:=s.heap.push { cls:=.type "tuple",data:=.seq ((items.toList.drop (cK items.size 0 lo)).take (cK items.size items.size hi-cK items.size 0 lo)).toArray } }) (f7:items.size<=bq):bP (aS prog w) A (getItem (.ref t) (.ref sl)) Q E s:=by
 have Sv:sizeOk (.seq ((items.toList.drop (cK items.size 0 lo)).take (cK items.size items.size hi-cK items.size 0 lo)).toArray):=by show((items.toList.drop (cK items.size 0 lo)).take (cK items.size items.size hi-cK items.size 0 lo)).toArray.size<=bq;rw[iO,oq,IG,A5];lia
 obtain⟨os,PN,AA,Ss⟩:=id hs;have hTs:s.TypeIs (.ref sl) "slice" := ⟨os,PN,AA⟩
 unfold getItem;try with_reducible refine sM ?_
 first|refine aw (bG ?_)|skip
 refine aw (wpAny_sequenceKey ht.typeIs (by decide) ?_);refine aw (O7 ht.typeIs PyProof.Rows.slot_tuple_getitem (B7 PyProof.Rows.slot_tuple_getitem ht.typeIs entry_tuple_getitem ?_ (args_tuple_getitem _ _)))
 show bP _ _ (Builtin.Tuple.tupleItemsOf (.ref t) >>= _) _ _ s;refine aw (tupleItemsOf_ ht ?_);refine aw (wpAny_typeOf hTs ?_);refine aw (fo' hs pl pu ?_);have FT:¬ ((((cK items.size 0 lo:Nat):Int) == 0 && (1:Int) == 1 && (cK items.size items.size hi-cK items.size 0 lo) == items.size)=true):=by intro q;rw[mw,mw] at q;have q1:((cK items.size 0 lo:Nat):Int)=0:=eq_of_beq q.1.1;have q2:cK items.size items.size hi-cK items.size 0 lo=items.size:=eq_of_beq q.2;exact hw ⟨by lia,by lia⟩
 show bP _ _ (if (((cK items.size 0 lo:Nat):Int) == 0 && 1 == 1 && (cK items.size items.size hi-cK items.size 0 lo) == items.size)=true then _ else _) _ _ s;rw[if_neg FT,fp'];first
  |exact aw (sL (bG ⟨_,rfl,bG h⟩) Sv)
  |exact aw (sL (aw (bG (bG ⟨_,rfl,bG h⟩))) Sv)
  |exact aw (aw (sL (bG (bG ⟨_,rfl,bG h⟩)) Sv))
  |exact aw (aw (sL (bG ⟨_,rfl,bG h⟩) Sv))
end
end HT
section
open PySem PySem.Spec PyProof.Rows
namespace L2
abbrev TO:=St->Hp->(Option Int->Hp->Prop)->Prop
def PO(X:Cx)(e:Option Expr)(t:TO):Prop :=
 ∀ (pins:List (ah × Obj)) (s:ax) (σ:St) (H:Hp) (Q:Option Int->Hp->Prop),Inv X pins σ H s->t σ H Q ->
  bP (aS X.prog X.w) X.A (evalPart e X.env) (λu s'=>∃ o H',Inv X pins σ H' s'/\IsPart u o/\Q o H') X.xe s
def fs':TO:=λ_ H Q=>Q none H
def ft'(t:TE):TO:=λσ H Q=>t σ H λx H1=>∃ i,x=.int i/\Q (some i) H1
section
variable {X:Cx}{e:Expr}{te:TE}{lo hi:Option Expr}{tl th:TO}{pos p2:Pos}
def fu':PO X none fs':=by intro pins s σ H Q I h;exact bG ⟨none,H,I,.none,h⟩
def fv'(h:PE X e te):PO X (some e) (ft' te):=by intro pins s σ H Q I hw;refine dk (h pins s σ H _ I hw) λu s1 dv=>L2.g9 dv λx H1 I1 r1 q1=>?_;obtain⟨i,rfl,q⟩:=q1;obtain⟨t,rfl⟩:=r1;exact⟨some i,H1,I1,.int i t,q⟩
def Ob(X:Cx)(r:V->Option Int->Option Int->Hp->VK->Prop):Prop :=
 ∀ (pins:List (ah × Obj)) (s:ax) (σ:St) (H:Hp) (x:V) (v vl vu:ae) (lo hi:Option Int) (sl:ah) (Q:VK),Inv X pins σ H s->RelV x v->s.heap.IsSliceOf sl vl vu .none->IsPart vl lo->IsPart vu hi->r x lo hi H Q ->
  ∃ T id,typeLookup (.type T) "__getitem__" = pure (some (.builtin id))/\s.TypeIs v T/\bP (aS X.prog X.w) X.A (getItem v (.ref sl)) (EP X pins σ Q) X.xe s
def tSl(r:V->Option Int->Option Int->Hp->VK->Prop)(te:TE)(tl th:TO):TE:=λσ H Q=>te σ H λx H1=>tl σ H1 λl H2=>th σ H2 λu H3=>r x l u H3 Q
def fx'(hr:Ob X r)(he:PE X e te)(hl:PO X lo tl)(hu:PO X hi th):PE X (.Subscript e (.Slice lo hi none p2) pos) (tSl r te tl th):=by intro pins s σ H Q I h;refine Subscript_ (dk (he pins s σ H _ I h) λv s1 dv=>L2.g9 dv λx H1 I1 r1 q1=>?_);refine wpAny_Slice (dk (hl pins s1 σ H1 _ I1 q1) λvl s2 dv=>L2.g9 dv λl H2 I2 pl q2=>dk (hu pins s2 σ H2 _ I2 q2) λvu s3 dv=>L2.g9 dv λu H3 I3 pu q3=>?_);refine bG ?_;have I4:Inv X pins σ H3 { s3 with heap:=s3.heap.push { cls:=.type "slice",data:=.fields #[vl,vu,.none] } }:=I3.kept λb ob q=>gi _ q;obtain⟨T,id,hT,ht,hg⟩:=hr pins { s3 with heap:=s3.heap.push { cls:=.type "slice",data:=.fields #[vl,vu,.none] } } σ H3 x v vl vu l u s3.heap.objs.size Q I4 r1 (Heap.IsSliceOf.new ..) pl pu q3;exact tail_any ht hT hg (by with_unfolding_all rfl)
def Kj(xs:List V)(lo hi:Option Int):List V:=(xs.drop (HT.cK xs.length 0 lo)).take (HT.cK xs.length xs.length hi-HT.cK xs.length 0 lo)
def ao'(xs:List V)(lo hi:Option Int):(Kj xs lo hi).length<=xs.length:=by unfold Kj;rw[oq,IG];lia
def ap'(K:aC):V->Option Int->Option Int->Hp->VK->Prop:=λx lo hi H Q=>∃ a xs,x=.ref a/\kU K H a xs /\
 ¬ (HT.cK xs.length 0 lo=0/\HT.cK xs.length xs.length hi=xs.length)/\∀ p,H p=none->Q (.ref p) (upd H p (.tup (Kj xs lo hi)))
def fy':Ob X (ap' X.K):=by
 intro pins s σ H x v vl vu lo hi sl Q I rx hs pl pu h;obtain⟨a,xs,rfl,hx,hw,q⟩:=h;cases rx;obtain⟨its,r,ht,hz⟩:=I.tuple hx;have hlen:its.toArray.size=xs.length:=by rw[iO];exact r.length.symm
 refine⟨"tuple",_,PyProof.Rows.slot_tuple_getitem.lookup,ht.typeIs,?_⟩;refine HT.fq' ht hs pl pu (by rw[hlen];exact hw) ?_ (by rw[hlen];exact hz);rw[hlen];refine⟨.ref s.heap.objs.size,_,I.laid (λb ob q=>gi _ q) (cw _) ?_,rfl,q _ (I.b5.fresh (cw _))⟩;exact⟨iS (ao' xs lo hi) hz,_,(r.drop (HT.cK xs.length 0 lo)).take (HT.cK xs.length xs.length hi-HT.cK xs.length 0 lo),IsTup.new _ _⟩
def Vs(K:aC):R2:=λx y H Q=>∃ a b xs ys,x=.ref a/\y=.ref b/\kU K H a xs/\kU K H b ys/\xs≠[]/\xs.length+ys.length<=bq /\ (ys=[]->Q (.ref a) H)/\(ys≠[]->∀ p,H p=none->Q (.ref p) (upd H p (.tup (xs++ys))))
def Vals.Vt(r:Vals xs us):us=[]↔xs=[]:=by
 cases r with
 |nil=>simp
 |cons _ _=>simp
def fz':eS X (om .Add) (Vs X.K):=by intro pins s σ H x y v u Q I rx ry h;obtain⟨a,b,xs,ys,rfl,rfl,ha,hb,hx,hz,q1,q2⟩:=h;cases rx;cases ry;obtain⟨its,r1,p1,_⟩:=I.tuple ha;obtain⟨FU,r2,p2,_⟩:=I.tuple hb;refine HT.fk' p1 p2 (λz=>hx (r1.Vt.mp z)) (λz=>⟨.ref a,H,I,rfl,q1 (r2.Vt.mp z)⟩) (λz=>?_) (by rw[<- r1.length,<- r2.length];exact hz);refine⟨.ref s.heap.objs.size,_,I.laid (λb ob q=>gi _ q) (cw _) ?_,rfl,q2 (λw=>z (r2.Vt.mpr w)) _ (I.b5.fresh (cw _))⟩;exact⟨by rw[kz];exact hz,_,r1.append r2,IsTup.new _ _⟩
end
def oC(n:Nat)(i:Int):Option Nat:=if 0<=i then (if i<n then some i.toNat else none) else if -(n:Int)<=i then some (i+n).toNat else none
def gy{α:Type}(xs:List α)(i:Int):Option α:=(oC xs.length i).bind λj=>xs[j]?
def fA'(h:oC n i=some j):seqIndex? i n=some j/\j<n/\-(n:Int)<=i/\i<n:=by
 unfold oC at h;by_cases h0:0<=i
 ·rw[if_pos h0] at h;by_cases h1:i<n
  ·rw[if_pos h1] at h;have e:i.toNat=j:=Option.some.inj h;exact⟨by rw[seqIndex_of h0 h1,e],by lia,by lia,h1⟩
  ·rw[if_neg h1] at h;cases h
 ·rw[if_neg h0] at h;by_cases h1:-n<=i
  ·rw[if_pos h1] at h;have e:(i+n).toNat=j:=Option.some.inj h;exact⟨by rw[seqIndex_neg (by lia) h1,e],by lia,h1,by lia⟩
  ·rw[if_neg h1] at h;cases h
def Vu{α:Type}{xs:List α}{i:Int}{v:α}(h:gy xs i=some v):∃ j,seqIndex? i xs.length=some j/\xs[j]? = some v/\j<xs.length/\-(xs.length:Int)<=i/\i<xs.length:=by
 unfold gy at h
 cases e:oC xs.length i with
 |none=>rw[e] at h;cases h
 |some j =>rw[e] at h;obtain⟨h1,h2,h3,h4⟩:=fA' e;exact⟨j,h1,h,h2,h3,h4⟩
def PQ{α:Type}{xs:List α}{j:Nat}{v:α}(h:xs[j]? = some v):gy xs (j:Int)=some v:=by
 have hj:j<xs.length:=(iN.mp h).1;have e:oC xs.length j=some j:=by unfold oC;rw[if_pos (by lia),if_pos (by lia)];simp
 unfold gy;rw[e];exact h
def fB'{α:Type}(xs:List α)(v:α):gy (xs++[v]) (-1)=some v:=by
 have hl:(xs++[v]).length=xs.length+1:=by simp
 have e:oC (xs++[v]).length (-1)=some xs.length:=by unfold oC;rw[hl,if_neg (by decide),if_pos (by lia)];congr 1;lia
 unfold gy;rw[e];simp
def Sw(b:Expr):Prop:=∀ o i,subscripted b false o i=operate [o,i] (getItem o i)
def ya(X:Cx)(r:R2):Prop :=
 ∀ (value slice:Expr) (pins:List (ah × Obj)) (s:ax) (σ:St) (H:Hp) (x y:V) (v u:ae) (Q:VK),Inv X pins σ H s->RelV x v->RelV y u->r x y H Q ->
  subscripted slice false v u=operate [v,u] (getItem v u)->bP (aS X.prog X.w) X.A (subscriptTail value slice v u) (EP X pins σ Q) X.xe s
def Vv(X:Cx)(id:String)(r:V->List V->Hp->VK->Prop):Prop :=
 ∀ (pins:List (ah × Obj)) (s:ax) (σ:St) (H:Hp) (x:V) (xs:List V) (v:ae) (us:List ae) (Q:VK),Inv X pins σ H s->RelV x v->Vals xs us->r x xs H Q ->
  bP (aS X.prog X.w) X.A (call (.builtin id) (v :: us)) (EP X pins σ Q) X.xe s
section
variable {X:Cx}{a b:Expr}{ta tb:TE}{pos:Pos}
def ya.or(h:ya X r)(h':ya X r'):ya X (λx y H Q=>r x y H Q\/r' x y H Q):=by
 intro value slice pins s σ H x y v u Q I rx ry q hs;rcases q with q|q
 ·exact h value slice pins s σ H x y v u Q I rx ry q hs
 ·exact h' value slice pins s σ H x y v u Q I rx ry q hs
def Vw{r:R2}(hr:ya X r)(ha:PE X a ta)(hb:PE X b tb)(hs:Sw b):PE X (.Subscript a b pos) (PD r ta tb):=by intro pins s σ H Q I h;exact Subscript_ (Ve ha hb I h λv u s2 x y H2 I2 rx ry q=>hr a b pins s2 σ H2 x y v u Q I2 rx ry q (hs _ _))
def aq'(K:aC):R2:=λx y H Q=>∃ p xs i v,x=.ref p/\y=.int i/\fw K H p xs/\gy xs i=some v/\Q v H
def ar'(K:aC):R2:=λx y H Q=>∃ p xs i v,x=.ref p/\y=.int i/\kU K H p xs/\gy xs i=some v/\Q v H
def au':R2:=λx y H Q=>∃ z i c,x=.str z/\y=.int i/\z.length<=bq/\gy z.cps.toList i=some c/\Q (.str ⟨#[c]⟩) H
def fC':ya X (aq' X.K):=by
 intro value slice pins s σ H x y v u Q I rx ry h hs;obtain⟨p,xs,i,z,rfl,rfl,hq,he,q⟩:=h;cases rx;obtain⟨t,rfl⟩:=ry;obtain⟨its,r,pl,hz⟩:=I.list hq;obtain⟨j,h1,h2,h3,h4,h5⟩:=Vu he;obtain⟨w,ew,k5⟩:=r.get h2;have hl:=r.length;have hn:=Vj;have fin:EP X pins σ Q w s:=⟨z,H,I,k5,q⟩
 by_cases h0:0<=i
 ·have hj:i.toNat=j:=by rw[seqIndex_of h0 h5] at h1;exact Option.some.inj h1
  exact item_listR pl.isList h0 (by lia) (by rw[hj];simpa using ew) fin hs
 ·have hj:(i+its.toArray.size).toNat=j:=by rw[seqIndex_neg (by lia) h4] at h1;rw[iO,<- hl];exact Option.some.inj h1
  exact subscriptTail_builtinR pl.isList.typeIs slot_list_getitem.lookup (wpAny_getItem_list_neg pl.isList (by lia) (by rw[iO]<;>lia) (by lia) (by rw[hj];simpa using ew) ⟨rfl,fin⟩) hs
def fD':ya X (ar' X.K):=by
 intro value slice pins s σ H x y v u Q I rx ry h hs;obtain⟨p,xs,i,z,rfl,rfl,hq,he,q⟩:=h;cases rx;obtain⟨t,rfl⟩:=ry;obtain⟨its,r,pl,hz⟩:=I.tuple hq;obtain⟨j,h1,h2,h3,h4,h5⟩:=Vu he;obtain⟨w,ew,k5⟩:=r.get h2;have hl:=r.length;have hn:=Vj;have fin:EP X pins σ Q w s:=⟨z,H,I,k5,q⟩
 exact subscriptTail_builtinR pl.typeIs slot_tuple_getitem.lookup (getItem_tuple pl (by lia) (by lia) (by rw[iO,<- hl];exact h1) (by simpa using ew) ⟨rfl,fin⟩) hs
def fE':ya X au':=by
 intro value slice pins s σ H x y v u Q I rx ry h hs;obtain⟨z,i,c,rfl,rfl,hz,he,q⟩:=h;walk_at"A";obtain⟨t',rfl⟩:=ry;obtain⟨j,h1,h2,h3,h4,h5⟩:=Vu he;have hl:z.cps.toList.length=z.length:=by simp[Str.length]
 rw[hl] at h1 h4 h5;have hn:=Vj;exact tail_any (typeIs_str s z t) slot_str_getitem.lookup (getItem_str (by
  have e1:decide (i < -(2 ^ 63:Int))=false:=decide_eq_false (by lia);have e2:decide (i >= 2 ^ 63)=false:=decide_eq_false (by lia);rw[e1,e2,Bool.or_false]) (by rw[h1];simpa using h2) ⟨.str ⟨#[c]⟩,H,I.tok _,⟨_,rfl⟩,q⟩) hs
def rIx(K:aC):R2:=λx y H Q=>aq' K x y H Q\/ar' K x y H Q\/au' x y H Q
def fG':ya X (rIx X.K):=fC'.or (fD'.or fE')
def fH'(lo hi:Option Int)(n:Nat):(Iy lo hi none n).1=((HT.cK n 0 lo:Nat):Int)/\(Iy lo hi none n).2.1=((HT.cK n n hi:Nat):Int)/\(Iy lo hi none n).2.2=1:=by
 refine⟨?_,?_,rfl⟩
 ·cases lo with
  |none=>simp[Iy,HT.cK]
  |some i =>
   simp only[Iy,HT.cK,Option.getD_none,show 1>0 by decide,if_true];by_cases h:i<0
   ·simp only[h,if_true]<;>lia
   ·simp only[h,if_false]<;>lia
 ·cases hi with
  |none=>simp[Iy,HT.cK]
  |some i =>
   simp only[Iy,HT.cK,Option.getD_none,show 1>0 by decide,if_true];by_cases h:i<0
   ·simp only[h,if_true]<;>lia
   ·simp only[h,if_false]<;>lia
def fI'(its:List ae)(lo hi:Option Int):slicePick its.toArray lo hi none=((its.drop (HT.cK its.length 0 lo)).take (HT.cK its.length its.length hi-HT.cK its.length 0 lo)).toArray:=by obtain⟨h1,h2,h3⟩:=fH' lo hi its.toArray.size;unfold slicePick;rw[h1,h2,h3];simp only[sliceRange_one,pick_run,iO]<;>rfl
def fJ'(K:aC):V->Option Int->Option Int->Hp->VK->Prop:=λx lo hi H Q=>∃ a xs,x=.ref a/\fw K H a xs/\∀ p,H p=none->Q (.ref p) (upd H p (.lst (Kj xs lo hi)))
def fK':Ob X (fJ' X.K):=by intro pins s σ H x v vl vu lo hi sl Q I rx hs pl pu h;obtain⟨a,xs,rfl,hx,q⟩:=h;cases rx;obtain⟨its,r,ht,hz⟩:=I.list hx;have hlen:=r.length;refine⟨"list",_,slot_list_getitem.lookup,ht.isList.typeIs,?_⟩;refine wpAny_getItem_list_slice ht.isList hs pl pu .none (by simp) ?_ (by rw[iO]<;>lia);rw[fI',<- hlen];refine⟨.ref s.heap.objs.size,_,I.laid (λb ob q=>gi _ q) (cw _) ?_,rfl,q _ (I.b5.fresh (cw _))⟩;exact⟨iS (ao' xs lo hi) hz,_,0,(r.drop (HT.cK xs.length 0 lo)).take (HT.cK xs.length xs.length hi-HT.cK xs.length 0 lo),kB _ rfl⟩
def CY:V->Bool
 |.non=>true
 |.bl _=>true
 |.int _=>true
 |.str _=>true
 |_=>false
def EF:V->V->Bool
 |.non,.non=>true
 |.bl a,.bl b=>a == b
 |.bl a,.int b=>(if a then 1 else 0) == b
 |.int a,.bl b=>a == (if b then 1 else 0)
 |.int a,.int b=>a == b
 |.str a,.str b=>a == b
 |_,_=>false
def fL'(ry:RelV y u)(rx:RelV x v)(fy:CY y=true)(fx:CY x=true):SeqAt.EqAt A s u v (EF y x):=by
 cases y with
 |non =>
  cases ry
  cases x with
  |non=>cases rx;exact SeqAt.EqAt.same _
  |bl b=>cases rx;exact SeqAt.EqAt.none_bool b
  |int b=>obtain⟨t,rfl⟩:=rx;exact SeqAt.EqAt.none_int b t
  |str b=>obtain⟨t,rfl⟩:=rx;exact SeqAt.EqAt.none_str b t
  |_=>exact absurd (fx) kG
 |bl a =>
  cases ry
  cases x with
  |non=>cases rx;exact SeqAt.EqAt.bool_none a
  |bl b=>cases rx;exact SeqAt.EqAt.bool_bool a b
  |int b=>obtain⟨t,rfl⟩:=rx;exact SeqAt.EqAt.bool_int a b t
  |str b=>obtain⟨t,rfl⟩:=rx;exact SeqAt.EqAt.bool_str a b t
  |_=>exact absurd (fx) kG
 |int a =>
  obtain⟨t',rfl⟩:=ry
  cases x with
  |non=>cases rx;exact SeqAt.EqAt.int_none a t'
  |bl b=>cases rx;exact SeqAt.EqAt.int_bool a t' b
  |int b=>obtain⟨t,rfl⟩:=rx;exact SeqAt.EqAt.int_int a t' b t
  |str b=>obtain⟨t,rfl⟩:=rx;exact SeqAt.EqAt.int_str a t' b t
  |_=>exact absurd (fx) kG
 |str a =>
  obtain⟨t',rfl⟩:=ry
  cases x with
  |non=>cases rx;exact SeqAt.EqAt.str_none a t'
  |bl b=>cases rx;exact SeqAt.EqAt.str_bool a t' b
  |int b=>obtain⟨t,rfl⟩:=rx;exact SeqAt.EqAt.str_int a t' b t
  |str b=>obtain⟨t,rfl⟩:=rx;exact SeqAt.EqAt.str_str a t' b t
  |_=>exact absurd (fx) kG
 |_=>exact absurd (fy) kG
def vj(x:V)(u:ae):Bool:=match u with
 |.none=>EF .non x
 |.bool b=>EF (.bl b) x
 |.int i _=>EF (.int i) x
 |.str z _=>EF (.str z) x
 |_=>false
def av'(r:RelV y u)(f:CY y=true):vj x u=EF y x:=by
 cases y with
 |non=>cases r;rfl
 |bl b=>cases r;rfl
 |int i=>obtain⟨t,rfl⟩:=r;rfl
 |str z=>obtain⟨t,rfl⟩:=r;rfl
 |_=>exact absurd (f) kG
theorem PR:∀ {xs:List V} {us:List ae},Vals xs us->xs.all CY=true->us.any (vj x)=xs.any λy=>EF y x
 |_,_,.nil,_=>rfl
 |y :: xs,u :: us,.cons r t,f=>by rw[D6,mw] at f;rw[D7,D7,av' r f.1,PR t f.2]
theorem PX(rx:RelV x v)(fx:CY x=true):∀ {xs:List V} {us:List ae},Vals xs us->xs.all CY=true->∀ u∈us,SeqAt.EqAt A s u v (vj x u)
 |_,_,.nil,_=>λu hu=>by cases hu
 |y :: xs,u :: us,.cons r t,f=>λu' hu=>by
  rw[D6,mw] at f;rcases eK.mp hu with rfl|hu
  ·rw[av' r f.1];exact fL' r rx f.1 fx
  ·exact PX rx fx t f.2 u' hu
def Sy(x:V)(xs:List V):Bool:=xs.any λy=>EF y x
def PY(K:aC)(neg:Bool):R2:=λx y H Q=>∃ p xs,y=.ref p/\(fw K H p xs\/kU K H p xs)/\CY x=true/\xs.all CY=true/\Q (.bl (if neg then !Sy x xs else Sy x xs)) H
def fM':eS X (iq .In) (PY X.K false):=by
 walk_at"b";obtain⟨p,xs,rfl,hq,fx,fs,q⟩:=h;cases ry;rcases hq with hq|hq
 ·obtain⟨its,r,pl,hz⟩:=I.list hq;refine SeqAt.in_listAt (vj x) pl.isList (λw hw=>PX rx fx r fs w (by simpa using hw)) ⟨.bl _,H,I,rfl,?_⟩;walk_at"v";exact q
 ·obtain⟨its,r,pl,hz⟩:=I.tuple hq;refine SeqAt.in_tupleAt (vj x) pl (λw hw=>PX rx fx r fs w (by simpa using hw)) ⟨.bl _,H,I,rfl,?_⟩;walk_at"v";exact q
def fN':eS X (iq .NotIn) (PY X.K true):=by
 walk_at"b";obtain⟨p,xs,rfl,hq,fx,fs,q⟩:=h;cases ry;rcases hq with hq|hq
 ·obtain⟨its,r,pl,hz⟩:=I.list hq;refine SeqAt.notIn_listAt (vj x) pl.isList (λw hw=>PX rx fx r fs w (by simpa using hw)) ⟨.bl _,H,I,rfl,?_⟩;walk_at"v";exact q
 ·obtain⟨its,r,pl,hz⟩:=I.tuple hq;refine SeqAt.notIn_tupleAt (vj x) pl (λw hw=>PX rx fx r fs w (by simpa using hw)) ⟨.bl _,H,I,rfl,?_⟩;walk_at"v";exact q
def lT.or(h:lT X f r)(h':lT X f r'):lT X f (λxs H Q=>r xs H Q\/r' xs H Q):=by
 intro pins s σ H xs us Q I rs q;rcases q with q|q
 ·exact h pins s σ H xs us Q I rs q
 ·exact h' pins s σ H xs us Q I rs q
def fO':lT X (.type "list") (λxs H Q=>∃ p ys,xs=[.ref p]/\(fw X.K H p ys\/kU X.K H p ys)/\∀ l,H l=none->Q (.ref l) (upd H l (.lst ys))):=by
 walk_at"n";obtain⟨p,ys,rfl,hq,q⟩:=h;obtain⟨u,rfl,rx⟩:=vals1 r;cases rx;have fin:∀ its,Vals ys its->ys.length<=bq->∀ h' c',(∀ b o',s.heap.get? b=some o'->h'.get? b=some o') ->
   h'.get? s.heap.objs.size=some { cls:=.type "list",dict:=none,data:=.seq its.toArray c',slots:=#[] }->EP X pins σ Q (.ref s.heap.objs.size) { s with heap:=h' }:=λits r' hz h' c' kp e =>
  ⟨.ref s.heap.objs.size,_,I.laid kp (cw _) (show kH X.prog X.w _ h' _ (.lst ys) from⟨hz,its,c',r',e⟩),rfl,q _ (I.b5.fresh (cw _))⟩
 rcases hq with hq|hq
 ·obtain⟨its,r',pl,hz⟩:=I.list hq;have hlen:=r'.length;obtain⟨o,ho,hc,n,hd⟩:=pl.isList;exact call_list_seq p (.inl rfl) ho hc hd (λh' c' kp e=>fin its r' hz h' c' kp e) (by simp only[iO]<;>lia)
 ·obtain⟨its,r',pl,hz⟩:=I.tuple hq;have hlen:=r'.length;obtain⟨o,ho,hc,n,hd⟩:=pl;exact call_list_seq p (.inr rfl) ho hc hd (λh' c' kp e=>fin its r' hz h' c' kp e) (by simp only[iO]<;>lia)
def Sz(K:aC)(T:String)(x:V)(H:Hp):Prop:=match x with
 |.str _=>T = "str"
 |.int _=>T = "int"
 |.ref p=>(T = "list"/\∃ xs,fw K H p xs)\/(T = "tuple"/\∃ o,K.lookup p=some o/\o.cls=.type "tuple"/\o.dict=none) \/
   (T = "dict"/\((∃ kvs,H p=some (.dK kvs))\/∃ kvs,H p=some (.dT kvs)))\/(T = "set"/\∃ S n,H p=some (.set S n))
 |_=>False
def aw'{T:String}(I:Inv X pins σ H s)(r:RelV x v)(ty:Sz X.K T x H) :
  s.TypeIs v T/\∀ a,v=.ref a->∃ ob,s.heap.get? a=some ob/\ob.dict=none:=by
 cases x with
 |str z =>obtain⟨t,rfl⟩:=r;cases (ty);exact⟨typeIs_str s z t,λ_ e=>nomatch e⟩
 |int i =>obtain⟨t,rfl⟩:=r;cases (ty);exact⟨typeIs_int s i t,λ_ e=>nomatch e⟩
 |ref p =>
  cases r;rcases ty with⟨rfl,xs,hq⟩|⟨rfl,o,hk,hc,hd⟩|⟨rfl,hk⟩|⟨rfl,S,n,hk⟩
  ·obtain⟨its,_,pl,_⟩:=I.list hq;refine⟨pl.isList.typeIs,λa e=>?_⟩;cases e;obtain⟨o,n,e,c,hd,_⟩:=pl;exact⟨o,e,hd⟩
  ·refine⟨⟨o,I.mz p o hk,hc⟩,λa e=>?_⟩;cases e;exact⟨o,I.mz _ o hk,hd⟩
  ·have z:∃ o,s.heap.get? p=some o/\o.ExactDict:=by
    rcases hk with⟨kvs,hk⟩|⟨kvs,hk⟩
    ·obtain⟨_,_,_,_,o,_,_,e,ex,_⟩:=I.b5 p _ hk;exact⟨o,e,ex⟩
    ·obtain⟨_,_,_,_,o,_,_,e,ex,_⟩:=I.b5 p _ hk;exact⟨o,e,ex⟩
   obtain⟨o,e,ex⟩:=z;refine⟨⟨o,e,ex.1⟩,λa e2=>?_⟩;cases e2;exact⟨o,e,ex.2.1⟩
  ·obtain⟨o,_,_,_,e,ex,_⟩:=I.b5 p _ hk;refine⟨⟨o,e,ex.1⟩,λa e2=>?_⟩;cases e2;exact⟨o,e,ex.2.1⟩
 |_=>exact False.elim ty
def fP'(K:aC)(T:String)(r:V->List V->Hp->VK->Prop)(to:TE):TE:=λσ H Q=>to σ H λx H1=>Sz K T x H1/\r x [] H1 Q
def tBM(K:aC)(T:String)(r:V->List V->Hp->VK->Prop)(to:TE)(t:TA):TE:=λσ H Q=>to σ H λx H1=>Sz K T x H1/\t σ H1 λxs H2=>r x xs H2 Q
variable {o e:Expr}{es:List Expr}{to:TE}{t:TA}{name:Str}{apos fe:Pos}{T id:String}{r:V->List V->Hp->VK->Prop}
def fR' (pa:PlainAttrs T) (slot:Slot T name id) (FV:typeOf (.builtin id)=pure (.type "method_descriptor")) (hm:Vv X id r) (ho:PE X o to)(vk:autoParam (AW o name X.env (df o X.env)=df o X.env) bv) (hline:autoParam ((apos.endLine == fe.line)=true) bv):PE X (.Call (.Attribute o name apos) [] [] fe) (fP' X.K T r to):=by
 walk_at"z";refine wpAny_Call_method0_late vk hline (dk (ho pins s σ H _ I h) λv s1 eM=>?_);obtain⟨x,H1,I1,r1,ty,q1⟩:=eM;obtain⟨h1,h2⟩:=aw' I1 r1 ty;exact⟨T,id,pa,slot,FV,h1,h2,Calls.callWith_builtin rfl (PySem.evalArgs_none (hm pins s1 σ H1 x [] v [] Q I1 r1 .nil q1))⟩
def Oc (pa:PlainAttrs T) (slot:Slot T name id) (FV:typeOf (.builtin id)=pure (.type "method_descriptor")) (hm:Vv X id r) (ho:PE X o to) (ha:PA X (e :: es) t)(vk:autoParam (AW o name X.env (df o X.env)=df o X.env) bv) (vn:autoParam (((kQ fe (b6 (e :: es) X.env)).all (λx=>!x.1) && (backToKw fe (D2 [] X.env)).all (λx=>x.1.isSome)
   && decide ((e :: es).length+([]:List pS).length+(if ([]:List pS).isEmpty then 0 else 1)<30))=true) bv)
  (hline:autoParam ((apos.endLine == fe.line)=true) bv) (hs:autoParam (b6 (e :: es) X.env=(false,df e X.env) :: b6 es X.env) bv) (Bn:autoParam ((kQ fe (b6 es X.env)).any (·.1)=false) bv) :
  PE X (.Call (.Attribute o name apos) (e :: es) [] fe) (tBM X.K T r to t):=by
 walk_at"z";refine wpAny_Call_method_late vk vn hline rfl (dk (ho pins s σ H _ I h) λv s1 eM=>?_);obtain⟨x,H1,I1,r1,ty,q1⟩:=eM;obtain⟨h1,h2⟩:=aw' I1 r1 ty;refine⟨T,id,pa,slot,FV,h1,h2,?_⟩;have hA:=ha fe pins s1 σ H1 _ I1 q1;rw[hs] at hA ⊢;refine Calls.callWith_builtin (by show(false || (kQ fe (b6 es X.env)).any (·.1))=false;rw[Bn]<;>rfl) (Calls.evalArgs_plain ?_);exact dk hA λus s2 dv=>L2.g9 dv λvs H2 I2 r2 q2=>hm pins s2 σ H2 x vs v us Q I2 r1 r2 q2
end
def SD(X:Cx)(id:String)(r:V->List V->Hp->VK->Prop):Prop :=
 ∀ (pins:List (ah × Obj)) (s:ax) (σ:St) (H:Hp) (x:V) (xs:List V) (v:ae) (us:List ae) (Q:VK),Inv X pins σ H s->RelV x v->Vals xs us->r x xs H Q ->
  bP (aS X.prog X.w) X.A (call (.builtin id) (v :: us)) (EP X pins σ Q) X.xe s
def Vals.one{x:V}{us:List ae}(h:Vals [x] us):∃ u,us=[u]/\RelV x u:=by cases h;rename_i r h;cases h;exact⟨_,rfl,‹_›⟩
def Vals.two{x y:V}{us:List ae}(h:Vals [x,y] us):∃ u v,us=[u,v]/\RelV x u/\RelV y v:=by cases h;rename_i r h;cases h;rename_i q h;cases h;exact⟨_,_,rfl,‹_›,‹_›⟩
theorem Vals.zero:∀ {us:List ae},Vals [] us->us=[]
 |_,.nil=>rfl
def Vals.dropLast(h:Vals xs us):Vals xs.dropLast us.dropLast:=by
 induction h with
 |nil=>exact .nil
 |cons r t ih =>
  cases t with
  |nil=>exact .nil
  |cons q t'=>exact .cons r ih
theorem Vals.eraseIdx:∀ {xs:List V} {us:List ae} (i:Nat),Vals xs us->Vals (xs.eraseIdx i) (us.eraseIdx i)
 |_,_,_,.nil=>.nil
 |_,_,0,.cons _ t=>t
 |_,_,i+1,.cons r t=>.cons r (Vals.eraseIdx i t)
def fS'{α:Type}(l:List α):l.eraseIdx (l.length-1)=l.dropLast:=by
 induction l with
 |nil=>rfl
 |cons a r ih =>
  cases r with
  |nil=>rfl
  |cons b r =>
   have e:(a :: b :: r).length-1=((b :: r).length-1)+1:=by have h1:(a :: b :: r).length=r.length+2:=rfl;have h2:(b :: r).length=r.length+1:=rfl;lia
   rw[e,List.eraseIdx_cons_succ,ih];all_goals rfl
theorem ax'{α:Type}:∀ (l:List α) (i:Nat),(l.eraseIdx i).length<=l.length
 |[],_=>cw _
 |_ :: _,0=>Fu _
 |_ :: r,i+1=>Nat.succ_le_succ (ax' r i)
section
variable {X:Cx}{pins:List (ah × Obj)}{σ:St}{H:Hp}{s:ax}{l:ah}{xs ys:List V}
def Inv.SF{its JY:List ae}{n:Nat}{f:Array ae->Array ae}{t':Nat}(I:Inv X pins σ H s)(hH:H l=some (.lst xs))(e:s.heap.get? l=some { cls:=.type "list",data:=.seq its.toArray n }) (hf:f its.toArray=JY.toArray) (hv:Vals ys JY) (hz:ys.length<=bq) :
  Inv X pins σ (upd H l (.lst ys)) { s with heap:=s.heap.update l (Obj.mapSeq f),toks:=t' }:=by
 have q:=PySem.IsL.update e f;rw[hf] at q;refine I.write (by rw[hH];exact trivial) (.inl rfl) (λb' u hb hu=>(Ph s.heap (Obj.mapSeq f) (Ne.symm hb)).trans hu) ⟨_,q⟩ ?_;exact⟨hz,JY,_,hv,q⟩
def Inv.Vx(I:Inv X pins σ H s)(hv:Vals ys its)(hz:ys.length<=bq) :
  Inv X pins σ (upd H s.heap.objs.size (.lst ys)) { s with heap:=s.heap.push { cls:=.type "list",data:=.seq its.toArray },toks:=t' } :=
 I.laid (λ_ _ q=>gi _ q) (cw _) ⟨hz,its,0,hv,kB _ rfl⟩
def Inv.fresh(I:Inv X pins σ H s):H s.heap.objs.size=none:=I.b5.fresh (cw _)
def Inv.PZ (I:Inv X pins σ H s) (hH:H l=some (.lst xs)):xs.length<=bq/\∃ (its:List ae) (n:Nat),Vals xs its/\xs.length=its.length/\s.heap.get? l=some { cls:=.type "list",data:=.seq its.toArray n }:=by obtain⟨z,its,n,r,e⟩:=I.b5 l _ hH;exact⟨z,its,n,r,r.length,e⟩
def fT'(h:n<=bq):Builtin.List.listTooLong n=false:=by exact decide_eq_false (by lia)
end
section
variable {X:Cx}
def ay':V->List V->Hp->VK->Prop:=λx vs H Q=>∃ l xs y,x=.ref l/\vs=[y]/\H l=some (.lst xs)/\xs.length<bq/\Q .non (upd H l (.lst (xs++[y])))
def SG:SD X "list.append" ay':=by intro pins s σ H x vs v us Q I rx rv h;obtain⟨l,xs,y,rfl,rfl,hH,hz,q⟩:=h;cases rx;obtain⟨u,rfl,ru⟩:=rv.one;obtain⟨z,its,n,r,hl,e⟩:=I.PZ hH;refine call_meets F.slot_list_append ⟨_,e,rfl⟩ F.entry_list_append (F.args_list_append_2 _ _) (PySem.list_append l its.toArray n u (by rw[iO];lia)) ⟨e,?_⟩;refine⟨.non,_,I.SF hH e (by simp) (r.append (.cons ru .nil)) ?_,rfl,q⟩;rw[kz,Fh];lia
def fU':V->List V->Hp->VK->Prop:=λx vs H Q=>∃ l b xs zs,x=.ref l/\vs=[.ref b]/\H l=some (.lst xs)/\H b=some (.lst zs)/\xs.length+zs.length<=bq/\Q .non (upd H l (.lst (xs++zs)))
def fV':SD X "list.extend" fU':=by
 intro pins s σ H x vs v us Q I rx rv h;obtain⟨l,b,xs,zs,rfl,rfl,hH,hB,hz,q⟩:=h;cases rx;obtain⟨u,rfl,ru⟩:=rv.one;cases ru;obtain⟨z,its,n,r,hl,e⟩:=I.PZ hH;obtain⟨z2,FU,n2,r2,yb,e2⟩:=I.PZ hB;have f7:its.toArray.size+FU.toArray.size<=bq:=by rw[iO,iO];lia
 have fW':¬ (!its.toArray.isEmpty && Builtin.List.listTooLong (its.toArray.size+FU.toArray.size))=true:=by rw[fT' f7,Bool.and_false];exact kG
 refine call_meets F.slot_list_extend ⟨_,e,rfl⟩ F.entry_list_extend (F.args_list_extend_2 _ _) (AutoSeq1.list_extend_list_list_0 l its.toArray n b FU.toArray n2 fW' (by rw[iO];lia) (by lia)) ⟨e,e2,?_⟩
 refine⟨.non,_,I.SF hH e (by simp) (r.append r2) ?_,rfl,q⟩;rw[kz];lia
def fX':V->List V->Hp->VK->Prop:=λx vs H Q=>∃ l xs y,x=.ref l/\vs=[]/\H l=some (.lst xs)/\xs[xs.length-1]? = some y/\Q y (upd H l (.lst xs.dropLast))
def fY':SD X "list.pop" fX':=by
 intro pins s σ H x vs v us Q I rx rv h;obtain⟨l,xs,y,rfl,rfl,hH,hy,q⟩:=h;cases rx;have hus:=rv.zero;subst hus;obtain⟨z,its,n,r,hl,e⟩:=I.PZ hH;obtain⟨u,hu,ru⟩:=r.get hy;have Vy:its.toArray[its.toArray.size-1]? = some u:=by show its.toArray[its.length-1]? = some u;rw[<- n4,<- hl];exact hu
 refine call_meets F.slot_list_pop ⟨_,e,rfl⟩ F.entry_list_pop (F.args_list_pop_1 _) (MeetsSeq.list_pop_last l its.toArray n u Vy (by rw[iO];lia)) ⟨e,?_⟩;refine⟨y,_,I.SF hH e ?_ r.dropLast ?_,ru,q⟩
 ·show its.toArray.eraseIdxIfInBounds (its.toArray.size-1)=its.dropLast.toArray;rw[iO,ZC,fS']
 ·rw[List.length_dropLast];lia
def ga':V->List V->Hp->VK->Prop:=λx vs H Q=>∃ l xs i k y,x=.ref l/\vs=[.int i]/\H l=some (.lst xs)/\-(2 ^ 63)<=i/\i<2 ^ 63/\seqIndex? i xs.length=some k/\xs[k]? = some y/\Q y (upd H l (.lst (xs.eraseIdx k)))
def gb':SD X "list.pop" ga':=by
 intro pins s σ H x vs v us Q I rx rv h;obtain⟨l,xs,i,k,y,rfl,rfl,hH,h1,h2,hk,hy,q⟩:=h;cases rx;obtain⟨u,rfl,ru⟩:=rv.one;obtain⟨t,rfl⟩:=ru;obtain⟨z,its,n,r,hl,e⟩:=I.PZ hH;obtain⟨w,hw,k5⟩:=r.get hy;refine call_meets F.slot_list_pop ⟨_,e,rfl⟩ F.entry_list_pop (F.args_list_pop_2 _ _) (MeetsSeq.list_pop_at l its.toArray n i t k w (fitsIndex_both h1 h2) (by rw[iO,<- hl];exact hk) (by rw[<- n4];exact hw) (by rw[iO];lia)) ⟨e,?_⟩
 refine⟨y,_,I.SF hH e ?_ (r.eraseIdx k) ?_,k5,q⟩
 ·show its.toArray.eraseIdxIfInBounds k=(its.eraseIdx k).toArray;rw[ZC]
 ·have:=ax' xs k;lia
def len_rep{α:Type}(xs:List α)(k:Nat):(List.replicate k xs).flatten.length=k*xs.length:=by
 induction k with
 |zero=>simp
 |succ k ih=>rw[A2,A3,kz,ih,Nat.succ_mul,Pl]
end
section
set_option maxRecDepth 100000 in
end
section
variable {κ:Type}[DecidableEq κ]
def iA(kvs:List (κ × V))(k:κ):Option V:=(kvs.find? λkv=>decide (kv.1=k)).map (·.2)
def putK(kvs:List (κ × V))(k:κ)(v:V):List (κ × V) :=
 if (kvs.any λkv=>decide (kv.1=k))=true then kvs.map (λkv=>if kv.1=k then (kv.1,v) else kv) else kvs++[(k,v)]
def lV'(kvs:List (κ × V))(k:κ):List (κ × V):=kvs.filter λkv=>decide (kv.1≠k)
def yi{p:κ × V}{r:List (κ × V)}{k:κ}(e:p.1=k):iA (p :: r) k=some p.2:=by simp[iA,II,e]
def yk{p:κ × V}{r:List (κ × V)}{k:κ}(e:¬ p.1=k):iA (p :: r) k=iA r k:=by simp[iA,II,e]
theorem P0(k:κ):∀ kvs:List (κ × V),(kvs.any λkv=>decide (kv.1=k))=(iA kvs k).isSome
 |[]=>rfl
 |p :: r=>by
  rw[D7];by_cases e:p.1=k
  ·simp only[yi e,decide_eq_true e,Bool.true_or,Option.isSome_some]
  ·rw[yk e,decide_eq_false e,Bool.false_or];exact P0 k r
theorem az'(k j:κ)(y:V):∀ kvs:List (κ × V),iA (kvs.map λkv=>if kv.1=k then (kv.1,y) else kv) j=(iA kvs j).map λx=>if j=k then y else x
 |[]=>rfl
 |p :: r=>by
  have ih:=az' k j y r;rw[fS];by_cases h:p.1=k
  ·rw[if_pos h];by_cases e:p.1=j
   ·rw[yi (p:=(p.1,y)) e,yi e,Pq,if_pos (e.symm.trans h)]
   ·rw[yk (p:=(p.1,y)) e,yk e,ih]
  ·rw[if_neg h];by_cases e:p.1=j
   ·rw[yi e,yi e,Pq,if_neg (λz=>h (e.trans z))]
   ·rw[yk e,yk e,ih]
theorem aA'(k j:κ)(y:V):∀ kvs:List (κ × V),iA kvs k=none->iA (kvs++[(k,y)]) j=if j=k then some y else iA kvs j
 |[],_=>by
  by_cases e:k=j
  ·rw[if_pos e.symm];exact yi e
  ·rw[if_neg (λz=>e z.symm)];exact yk e
 |p :: r,hn=>by
  rw[Rz];have hk:¬ p.1=k:=λz=>by rw[yi z] at hn;cases hn
  rw[yk hk] at hn;have ih:=aA' k j y r hn;by_cases e:p.1=j
  ·rw[yi e,yi e,if_neg (λz=>hk (e.trans z))]
  ·rw[yk e,yk e,ih]
def gc'(kvs:List (κ × V))(k j:κ)(y:V):iA (putK kvs k y) j=if j=k then some y else iA kvs j:=by
 unfold putK;by_cases a:(kvs.any λkv=>decide (kv.1=k))=true
 ·rw[if_pos a,az'];rw[P0] at a;by_cases e:j=k
  ·obtain⟨x,hx⟩:=R5.mp a;rw[if_pos e,e,hx,Pq,if_pos rfl]
  ·rw[if_neg e]
   cases iA kvs j with
   |none=>rfl
   |some x=>rw[Pq,if_neg e]
 ·rw[if_neg a];refine aA' k j y kvs ?_;rw[P0] at a
  cases q:iA kvs k with
  |none=>rfl
  |some x=>rw[q] at a;exact(a rfl).elim
def SJ(kvs:List (κ × V))(k:κ)(v:V):(putK kvs k v).length<=kvs.length+1:=by
 unfold putK;split
 ·rw[b9];exact Nat.le_add_right _ _
 ·rw[kz,pd,RH];exact cw _
def x3.P1(r:x3 o u):o.isSome=u.isSome:=by
 cases o with
 |none=>cases u with
  |none=>rfl
  |some _=>exact(r).elim
 |some _=>cases u with
  |none=>exact(r).elim
  |some _=>rfl
def x3.getD(r:x3 o u)(rd:RelV d d'):RelV (o.getD d) (u.getD d'):=by
 cases o with
 |none=>cases u with
  |none=>exact rd
  |some _=>exact(r).elim
 |some _=>cases u with
  |none=>exact(r).elim
  |some _=>exact r
def KV.val{kvs:List (κ × V)}{vs:List (κ × ae)}(r:KV kvs vs)(k:κ):x3 (iA kvs k) (valueAt vs k):=by
 induction r with
 |nil=>exact True.intro
 |@cons p q ps qs h t ih =>
  obtain⟨h1,h2⟩:=h;by_cases e:p.1=k
  ·have e':q.1=k:=h1.symm.trans e;have b:valueAt (q :: qs) k=some q.2:=by simp[valueAt,II,e']
   rw[yi e,b];exact h2
  ·have e':¬ q.1=k:=λz=>e (h1.trans z);have b:valueAt (q :: qs) k=valueAt qs k:=by simp[valueAt,II,e']
   rw[yk e,b];exact ih
def KV.any(r:KV kvs vs)(k:κ):(kvs.any λkv=>decide (kv.1=k))=vs.any λkv=>decide (kv.1=k):=by
 induction r with
 |nil=>rfl
 |cons h t ih=>rw[D7,D7,ih,h.1]
def KV.repl(r:KV kvs vs)(k:κ)(ry:RelV y u) :
  KV (kvs.map λkv=>if kv.1=k then (kv.1,y) else kv) (vs.map λkv=>if kv.1=k then (kv.1,u) else kv):=by
 induction r with
 |nil=>exact .nil
 |@cons p q ps qs h t ih =>
  rw[fS,fS];refine .cons ?_ ih;obtain⟨h1,h2⟩:=h;by_cases e:p.1=k
  ·rw[if_pos e,if_pos (h1.symm.trans e)];exact⟨h1,ry⟩
  ·rw[if_neg e,if_neg (λz=>e (h1.trans z))];exact⟨h1,h2⟩
def KV.put(r:KV kvs vs)(k:κ)(ry:RelV y u):KV (putK kvs k y) (stored vs k u):=by
 unfold putK stored;rw[r.any k];by_cases e:(vs.any λkv=>decide (kv.1=k))=true
 ·rw[if_pos e,if_pos e];exact r.repl k ry
 ·rw[if_neg e,if_neg e];exact Paired.snoc r ⟨rfl,ry⟩
def KV.length(r:KV kvs vs):kvs.length=vs.length:=Paired.length r
end
def FX{P:d5}(r:RelV (kV k) u):(kC P w).is k u=true:=by
 cases k with
 |inl i=>obtain⟨t,e⟩:=(r);subst e;exact dh' P w i t
 |inr x=>obtain⟨t,e⟩:=(r);subst e;exact di' P w x t
theorem SK{P:d5}:∀ {ks:List Key} {us:List ae},Vals (ks.map kV) us->ItemsAre (kC P w) ks us
 |[],_,r=>by rw[List.map_nil] at r;cases r;exact .nil
 |k :: ks,_,r=>by
  cases r with
  |cons h t=>exact .cons (FX h) (SK t)
abbrev KT(H:Hp):List (List Key × V)->List (List Key × ah × ae)->Prop:=Paired λp q=>p.1=q.1/\H q.2.1=some (.tup (p.1.map kV))/\RelV p.2 q.2.2
def KT.val{H:Hp}{kvs:List (List Key × V)}{xs:List (List Key × ah × ae)}(r:KT H kvs xs)(k:List Key):x3 (iA kvs k) ((atKey xs k).map (·.2)):=by
 induction r with
 |nil=>exact True.intro
 |@cons p q ps qs h t ih =>
  obtain⟨h1,_,h2⟩:=h;by_cases e:p.1=k
  ·have e':q.1=k:=h1.symm.trans e;have b:atKey (q :: qs) k=some q.2:=by simp[atKey,II,e']
   rw[yi e,b];exact h2
  ·have e':¬ q.1=k:=λz=>e (h1.trans z);have b:atKey (q :: qs) k=atKey qs k:=by simp[atKey,II,e']
   rw[yk e,b];exact ih
def KT.repl(r:KT H kvs xs)(k:List Key)(ry:RelV y u) :
  KT H (kvs.map λkv=>if kv.1=k then (kv.1,y) else kv) (xs.map (putAt k u)):=by
 induction r with
 |nil=>exact .nil
 |@cons p q ps qs h t ih =>
  rw[fS,fS];refine .cons ?_ ih;obtain⟨h1,h2,h3⟩:=h;unfold putAt;by_cases e:p.1=k
  ·rw[if_pos e,if_pos (h1.symm.trans e)];exact⟨h1,h2,ry⟩
  ·rw[if_neg e,if_neg (λz=>e (h1.trans z))];exact⟨h1,h2,h3⟩
def KT.put(r:KT H kvs xs)(k:List Key)(hb:H b=some (.tup (k.map kV)))(ry:RelV y u) :
  KT H (putK kvs k y) (storedH xs k b u):=by
 have e:(kvs.any λkv=>decide (kv.1=k))=(atKey xs k).isSome:=by rw[P0,(r.val k).P1,UY]
 unfold putK storedH;rw[e];by_cases q:(atKey xs k).isSome=true
 ·rw[if_pos q,if_pos q];exact r.repl k ry
 ·rw[if_neg q,if_neg q];exact Paired.snoc r ⟨rfl,hb,ry⟩
def KT.keeps(r:KT H kvs xs)(ht:∀ b ys,H b=some (.tup ys)->H' b=some (.tup ys)):KT H' kvs xs :=
 Paired.U4 r λ_ _ z=>⟨z.1,ht _ _ z.2.1,z.2.2⟩
section
variable {P:d5}{w:eJ}{H:Hp}{h:dy}{a:ah}
def aB'(ok:ku P w H h)(e:Rd H a u):kH P w H h a u:=e.ok ok
def EG(ok:ku P w H h)(e:Rd H a (.dK kvs)):kvs.length<=bq/\(a == qA)=false/\∃ vs,KV kvs vs/\h.DictOf (kC P w) a vs :=
 show kH P w H h a (.dK kvs) from aB' ok e
def aC'(ok:ku P w H h)(e:H a=some (.dK kvs)):kvs.length<=bq/\(a == qA)=false/\∃ vs,KV kvs vs/\h.DictOf (kC P w) a vs:=EG ok (.inl e)
def FY(ok:ku P w H h)(e:H a=some (.tup (ks.map kV))):(B9 (kC P w)).is h ks a:=by
 obtain⟨_,its,r,o,h1,h2,n,h3⟩:=(ok a _ e)
 exact⟨o,its.toArray,n,h1,h2,h3,by simpa using SK r⟩
def GA(ok:ku P w H h)(e:Rd H a (.dT kvs)):kvs.length<=bq/\(a == qA)=false /\
  ∃ xs,KT H kvs xs/\h.DictOfH (B9 (kC P w)) a xs:=by
 obtain⟨z,y,xs,r,o,es,ep,h1,h2,h3,h4,h5⟩:=(aB' ok e)
 refine⟨z,y,xs,r,o,es,ep,h1,h2,h3,h4,λx hx=>?_,h5⟩;have all:∀ {l:List (List Key × V)} {m:List (List Key × ah × ae)},KT H l m->∀ x∈m,(B9 (kC P w)).is h x.1 x.2.1:=by
  intro l m q
  induction q with
  |nil=>intro x hx;exact nomatch hx
  |@cons p q ps qs hq t ih =>
   intro x hx;rcases eK.mp hx with e|hx
   ·subst e;exact FY ok (by rw[<- hq.1];exact hq.2.1)
   ·exact ih x hx
 exact all r x hx
def aD'(ok:ku P w H h)(e:H a=some (.dT kvs)):kvs.length<=bq/\(a == qA)=false /\
  ∃ xs,KT H kvs xs/\h.DictOfH (B9 (kC P w)) a xs:=GA ok (.inl e)
end
def k9(H:Hp)(a:ah)(y:V)(r:Option V):Prop :=
 (∃ kvs k,Rd H a (.dK kvs)/\y=kV k/\r=iA kvs k)\/∃ kvs k b,Rd H a (.dT kvs)/\y=.ref b/\H b=some (.tup (k.map kV))/\r=iA kvs k
def EH(H:Hp)(a:ah)(y v:V)(H':Hp):Prop :=
 (∃ kvs k,H a=some (.dK kvs)/\y=kV k/\kvs.length<bq/\H'=upd H a (.dK (putK kvs k v))) \/
 ∃ kvs k b,H a=some (.dT kvs)/\y=.ref b/\H b=some (.tup (k.map kV))/\kvs.length<bq/\H'=upd H a (.dT (putK kvs k v))
def k9.k{H:Hp}{a:ah}{kvs:List (Key × V)}{k:Key}(e:H a=some (.dK kvs)):k9 H a (kV k) (iA kvs k):=.inl ⟨kvs,k,.inl e,rfl,rfl⟩
def k9.t{H:Hp}{a b:ah}{kvs:List (List Key × V)}{k:List Key}(e:H a=some (.dT kvs))(eb:H b=some (.tup (k.map kV))):k9 H a (.ref b) (iA kvs k):=.inr ⟨kvs,k,b,.inl e,rfl,eb,rfl⟩
def EH.k{H:Hp}{a:ah}{kvs:List (Key × V)}{k:Key}{v:V}(e:H a=some (.dK kvs))(hl:kvs.length<bq):EH H a (kV k) v (upd H a (.dK (putK kvs k v))):=.inl ⟨kvs,k,e,rfl,hl,rfl⟩
def EH.t{H:Hp}{a b:ah}{kvs:List (List Key × V)}{k:List Key}{v:V}(e:H a=some (.dT kvs))(eb:H b=some (.tup (k.map kV)))(hl:kvs.length<bq) :
  EH H a (.ref b) v (upd H a (.dT (putK kvs k v))):=.inr ⟨kvs,k,b,e,rfl,eb,hl,rfl⟩
section
variable {X:Cx}{pins:List (ah × Obj)}{σ:St}{H:Hp}{s:ax}{a:ah}{y v:V}{u r:ae}{o:Option V}{A:fh}{E:ae->ax->Prop}
def Inv.big(I:Inv X pins σ H s):qA<s.heap.objs.size:=by have h:kr<s.heap.objs.size:=(I.mod.glob.keeps I.bk).lt;exact UT (by decide) h
def gd'(hu:A.units+1<eR)(I:Inv X pins σ H s)(g:k9 H a y (some v))(ry:RelV y u)(h:∀ w' s',Inv X pins σ H s'->RelV v w'->Q w' s') :
  bP (aS X.prog X.w) A (getItem (.ref a) u) Q E s:=by
 rcases g with⟨kvs,k,e,ey,l⟩|⟨kvs,k,b,e,ey,eb,l⟩
 ·subst ey;obtain⟨z,hd,vs,rel,dd⟩:=EG I.b5 e;obtain⟨w',hw,k5⟩:=x3.some_of (by rw[l];exact rel.val k);exact wpAny_getItem_of (FX ry) dd.mapOf hw (h w' _ (I.tok _) k5)
 ·subst ey;cases (ry);obtain⟨z,hd,xs,rel,dd⟩:=GA I.b5 e;obtain⟨w',hw,k5⟩:=x3.some_of (by rw[l];exact rel.val k);obtain⟨p,hp,hp2⟩:=I0.mp hw;refine wpAny_getItem_heap (HZ hu) (FY I.b5 eb) dd hp ?_;rw[hp2];exact h w' _ (I.tok _) k5
def gf'(hu:A.units+1<eR)(I:Inv X pins σ H s)(g:k9 H a y o)(ry:RelV y u)(h:∀ s',Inv X pins σ H s'->Q (.bool o.isSome) s') :
  bP (aS X.prog X.w) A (iq .In u (.ref a)) Q E s:=by
 rcases g with⟨kvs,k,e,ey,l⟩|⟨kvs,k,b,e,ey,eb,l⟩
 ·subst ey;obtain⟨z,hd,vs,rel,dd⟩:=EG I.b5 e;refine wpAny_in_of (FX ry) hd dd.mapOf ?_;rw[<- (rel.val k).P1,<- l];exact h _ (I.tok _)
 ·subst ey;cases (ry);obtain⟨z,hd,xs,rel,dd⟩:=GA I.b5 e;refine wpAny_in_heap (HZ hu) (FY I.b5 eb) hd dd ?_;have q:=(rel.val k).P1;rw[UY] at q;rw[<- q,<- l];exact h _ (I.tok _)
def gg'(hu:A.units+1<eR)(I:Inv X pins σ H s)(g:k9 H a y o)(ry:RelV y u)(h:∀ s',Inv X pins σ H s'->Q (.bool (!o.isSome)) s') :
  bP (aS X.prog X.w) A (iq .NotIn u (.ref a)) Q E s:=by
 rcases g with⟨kvs,k,e,ey,l⟩|⟨kvs,k,b,e,ey,eb,l⟩
 ·subst ey;obtain⟨z,hd,vs,rel,dd⟩:=EG I.b5 e;refine wpAny_notIn_of (FX ry) hd dd.mapOf ?_;rw[<- (rel.val k).P1,<- l];exact h _ (I.tok _)
 ·subst ey;cases (ry);obtain⟨z,hd,xs,rel,dd⟩:=GA I.b5 e;refine wpAny_notIn_heap (HZ hu) (FY I.b5 eb) hd dd ?_;have q:=(rel.val k).P1;rw[UY] at q;rw[<- q,<- l];exact h _ (I.tok _)
def SN(I:Inv X pins σ H s)(mu:Pt (H a))(hs:Heap.SameBut a s.heap h')(he:∃ q,h'.get? a=some q)(new:kH X.prog X.w (upd H a ob) h' a ob) :
  Inv X pins σ (upd H a ob) { s with heap:=h',toks:=t' } :=
 I.write mu (.inl rfl) (λb q hb z=>(hs.2 b hb).trans z) he new
def aE'{P:d5}(z:kvs.length<=bq)(hd:(a == qA)=false)(rel:KV kvs vs)(dd:h'.DictOf (kC P w) a vs) :
  kH P w H' h' a (.dK kvs):=⟨z,hd,vs,rel,dd⟩
def gh'(hu:A.units+1<eR)(I:Inv X pins σ H s)(g:EH H a y v H')(ry:RelV y u)(rv:RelV v r)(h:∀ s',Inv X pins σ H' s'->Q () s') :
  bP (aS X.prog X.w) A (setItem (.ref a) u r) Q E s:=by
 rcases g with⟨kvs,k,e,ey,l,eH⟩|⟨kvs,k,b,e,ey,eb,l,eH⟩
 ·subst ey eH;obtain⟨z,hd,vs,rel,dd⟩:=aC' I.b5 e;have hz:vs.length<=bq:=by rw[<- rel.length];exact z
  have hl:(putK kvs k v).length<=bq:=by have:=SJ kvs k v;lia
  refine wpAny_setItem_pairs (FX ry) dd λh' EI hs=>h _ ?_;have he:∃ q,h'.get? a=some q:=let ⟨q,_,_,hq,_⟩:=EI;⟨q,hq⟩
  exact SN I (by rw[e];exact True.intro) hs he (aE' hl hd (rel.put k rv) EI)
 ·subst ey eH;cases (ry);obtain⟨z,hd,xs,rel,dd⟩:=aD' I.b5 e;have hz:xs.length<=bq:=by rw[<- Paired.length rel];exact z
  have hl:(putK kvs k v).length<=bq:=by have:=SJ kvs k v;lia
  refine wpAny_setItem_heap (HZ hu) (FY I.b5 eb) dd λh' EI hs=>h _ ?_;obtain⟨q,es,ep,hq,h2,h3,h4,_,h5⟩:=EI;refine SN I (by rw[e];exact True.intro) hs ⟨q,hq⟩ ⟨hl,hd,_,(rel.put k eb rv).keeps λc ys ec=>?_,q,es,ep,hq,h2,h3,h4,h5⟩;rw[fq (ZH ec e (λz=>nomatch z))];exact ec
end
section
variable {X:Cx}{pins:List (ah × Obj)}{σ:St}{H:Hp}{s:ax}{a:ah}{kvs:List (Key × V)}{A:fh}{E:ae->ax->Prop}
def gi' (I:Inv X pins σ H s) (e:Rd H a (.dK kvs)) (h:∀ t s',Inv X pins σ H s'->Q (.int kvs.length t) s'):bP (aS X.prog X.w) A (call (.builtin "len") [.ref a]) Q E s:=by obtain⟨z,hd,vs,rel,dd⟩:=EG I.b5 e;refine call_len_dict hd dd (by rw[<- rel.length];rw[iL] at z;lia) ?_;rw[<- rel.length];exact h _ _ (I.tok _)
end
def gj' {X:Cx} (I:Inv X pins σ H s) (g:k9 H a y o):s.TypeIs (.ref a) "dict" := by
 rcases g with⟨kvs,k,e,_,_⟩|⟨kvs,k,b,e,_,_,_⟩
 ·obtain⟨_,_,vs,_,dd⟩:=EG I.b5 e;exact dd.typeIs
 ·obtain⟨_,_,xs,_,dd⟩:=GA I.b5 e;exact dd.typeIs
def gk'(td ty tv:TE):TS:=λD σ H=>tv σ H λv H1=>td σ H1 λx H2=>ty σ H2 λy H3=>∃ a H4,x=.ref a/\EH H3 a y v H4/\D.nx σ H4
section
variable {X:Cx}{o i value:Expr}{pos pos':Pos}{td ty tv:TE}
def aF'(hu:X.A.units+1<eR)(ho:PE X o td)(hi:PE X i ty)(hv:PE X value tv)(hs:sN value (some (.Subscript o i pos')) pos.line X.env=pure false) :
  PS X (.Assign [.Subscript o i pos'] value pos) (gk' td ty tv):=by
 intro pins s σ H D I h;refine wpAny_Assign_Subscript (dk (hv pins s σ H _ I h) λr s1 dv=>L2.g9 dv λv H1 I1 rv q1=>dk (ho pins s1 σ H1 _ I1 q1) λu s2 dv=>L2.g9 dv λx H2 I2 rx q2=>dk (hi pins s2 σ H2 _ I2 q2) λiv s3 eM=>?_) hs;obtain⟨y,H3,I3,ry,a,H4,ex,g,q3⟩:=eM;subst ex;obtain rfl:u=Value.ref a:=rx;exact gh' hu I3 g ry rv λs4 I4=>⟨σ,H4,I4,q3⟩
end
def gl' {P:d5} (h:dy) (hb:qA<h.objs.size):kH P w H (h.push { cls:=.type "dict",data:=.dict #[] }) h.objs.size (.dK []) :=
 ⟨fI _,beq_eq_false_iff_ne.mpr (Ne.symm (gp hb)),[],.nil,Heap.DictOf.new h⟩
def gm' {P:d5} (h:dy) (hb:qA<h.objs.size):kH P w H (h.push { cls:=.type "dict",data:=.dict #[] }) h.objs.size (.dT []) :=
 ⟨fI _,beq_eq_false_iff_ne.mpr (Ne.symm (gp hb)),[],.nil,_,#[],0,kB _ rfl,⟨rfl,rfl,rfl⟩,rfl,rfl,oy⟩
def gn':TE:=λ_ H Q=>∀ p,H p=none->Q (.ref p) (upd H p (.dT []))
section
variable {X:Cx}{pos:Pos}
def gp':PE X (.Dict [] [] pos) gn':=λpins s σ H Q I h =>
 wpAny_Dict_empty ⟨.ref s.heap.objs.size,_,I.laid (λ_ _ q=>gi _ q) (cw _) (gm' s.heap I.big),rfl,h _ (I.b5.fresh (cw _))⟩
end
def Vz:List (TE × TE)->St->Hp->(List (V × V)->Hp->Prop)->Prop
 |[],_,H,Q=>Q [] H
 | (tk,tv) :: r,σ,H,Q=>tk σ H λx H1=>tv σ H1 λy H2=>Vz r σ H2 λps H3=>Q ((x,y) :: ps) H3
abbrev VV:List (V × V)->List (ae × ae)->Prop:=Paired λp q=>RelV p.1 q.1/\RelV p.2 q.2
def SQ(X:Cx)(pos:Pos)(keys:List (Option Expr))(values:List Expr)(Kk:List (TE × TE)):Prop :=
 ∀ (pins:List (ah × Obj)) (s:ax) (σ:St) (H:Hp) (Q:List (V × V)->Hp->Prop),Inv X pins σ H s->Vz Kk σ H Q ->
  bP (aS X.prog X.w) X.A (evalPairs (pairTrees keys values X.env pos)) (λvs s'=>∃ ps H',Inv X pins σ H' s'/\VV ps vs/\Q ps H') X.xe s
def aG'{X:Cx}:SQ X pos [] [] []:=λpins s σ H Q I h=>pairTrees_nil_walk ⟨[],H,I,.nil,h⟩
def aH'{X:Cx}(hk:PE X k tk)(hv:PE X v tv)(hr:SQ X pos ks vs Kk) :
  SQ X pos (some k :: ks) (v :: vs) ((tk,tv) :: Kk):=λpins s σ H Q I h =>
 pairTrees_cons_walk (dk (hk pins s σ H _ I h) λu s1 dv=>L2.g9 dv λx H1 I1 rx q1=>dk (hv pins s1 σ H1 _ I1 q1) λw2 s2 dv=>L2.g9 dv λy H2 I2 ry q2 =>
  dk (hr pins s2 σ H2 _ I2 q2) λws s3 dv=>L2.g9 dv λps H3 I3 rel q3=>⟨(x,y) :: ps,H3,I3,.cons ⟨rx,ry⟩ rel,q3⟩)
def P4(kvs more:List (Key × V)):List (Key × V):=more.foldl (λacc kv=>putK acc kv.1 kv.2) kvs
def KV.merge:∀ {more:List (Key × V)} {rs:List (Key × ae)} {kvs:List (Key × V)} {vs:List (Key × ae)},KV more rs->KV kvs vs->KV (P4 kvs more) (merged vs rs):=by
 intro more rs kvs vs r
 induction r generalizing kvs vs with
 |nil=>intro q;exact q
 |@cons p q ps qs h t ih =>
  intro r0;have e:KV (putK kvs p.1 p.2) (stored vs q.1 q.2):=by have:=r0.put p.1 h.2;rw[<- h.1];exact this
  exact ih e
theorem aI':∀ (more kvs:List (Key × V)),(P4 kvs more).length<=kvs.length+more.length
 |[],kvs=>by show kvs.length<=kvs.length+0;lia
 |p :: r,kvs=>by have h1:=aI' r (putK kvs p.1 p.2);have h2:=SJ kvs p.1 p.2;show(P4 (putK kvs p.1 p.2) r).length<=_;rw[pd];lia
theorem aJ'{P:d5}:∀ {kvs:List (Key × V)} {ws:List (ae × ae)},VV (kvs.map λkv=>(kV kv.1,kv.2)) ws->∃ rs,Carries (kC P w) ws rs/\KV kvs rs
 |[],_,r=>by rw[List.map_nil] at r;cases r;exact⟨[],True.intro,.nil⟩
 |p :: kvs,_,r=>by
  cases r with
  |@cons a b as bs h t =>obtain⟨rs,c,q⟩:=aJ' t;obtain⟨b1,b2⟩:=b;exact⟨(p.1,b2) :: rs,⟨FX h.1,rfl,c⟩,.cons ⟨rfl,h.2⟩ q⟩
def gq'(Kk:List (TE × TE)):TE:=λσ H Q=>∀ p,H p=none->Vz Kk σ (upd H p (.dK [])) λps H2=>H2 p=some (.dK [])/\∃ kvs:List (Key × V),ps=kvs.map (λkv=>(kV kv.1,kv.2))/\kvs.length<=15/\Q (.ref p) (upd H2 p (.dK (P4 [] kvs)))
def aK'{X:Cx}(h:SQ X pos keys values Kk)(nE:keys.all (·.isSome)=true)(hl:keys.length=values.length)(h0:keys≠[])(h15:keys.length<=15):PE X (.Dict keys values pos) (gq' Kk):=by
 intro pins s σ H Q I q;have hn:=I.b5.fresh (cw s.heap.objs.size);have I1:=I.laid (t':=s.toks) (λ_ _ q=>gi _ q) (cw _) (gl' s.heap I.big);refine wpAny_Dict_walk (knd:=kC X.prog X.w) nE hl h0 h15 (dk (h pins _ σ _ _ I1 (q _ hn)) λws s2 eM=>?_);obtain⟨ps,H2,I2,rel,e,kvs,ep,lk,q2⟩:=eM;subst ep;obtain⟨rs,c,rk⟩:=aJ' (P:=X.prog) (w:=X.w) rel;obtain⟨z,hd,vs0,r0,dd⟩:=aC' I2.b5 e;cases r0;refine⟨rs,c,dd,λh' EI hs=>⟨.ref s.heap.objs.size,_,?_,rfl,q2⟩⟩;have hz:(P4 [] kvs).length<=bq:=by have h1:=aI' kvs [];rw[RH] at h1;rw[iL];lia
 have he:∃ q,h'.get? s.heap.objs.size=some q:=let ⟨q,_,_,hq,_⟩:=EI;⟨q,hq⟩
 exact SN I2 (by rw[e];exact True.intro) hs he (aE' hz hd (rk.merge .nil) EI)
structure M1(X:Cx)(o:Expr)(m:Str)(apos:Pos)(e:Expr)(fe:Pos):Prop where
 base:AW o m X.env (df o X.env)=df o X.env
 few:((kQ fe (b6 [e] X.env)).all (fun x=>!x.1) && (backToKw fe (D2 [] X.env)).all (fun x=>x.1.isSome)
  && decide (([e]:List Expr).length+([]:List pS).length+(if ([]:List pS).isEmpty then 0 else 1)<30))=true
 line:(apos.endLine == fe.line)=true
 trees:kQ fe (b6 [e] X.env)=[(false,df e X.env)]
structure M2(X:Cx)(o:Expr)(m:Str)(apos:Pos)(e f:Expr)(fe:Pos):Prop where
 base:AW o m X.env (df o X.env)=df o X.env
 few:((kQ fe (b6 [e,f] X.env)).all (fun x=>!x.1) && (backToKw fe (D2 [] X.env)).all (fun x=>x.1.isSome)
  && decide (([e,f]:List Expr).length+([]:List pS).length+(if ([]:List pS).isEmpty then 0 else 1)<30))=true
 line:(apos.endLine == fe.line)=true
 trees:kQ fe (b6 [e,f] X.env)=[(false,df e X.env),(false,df f X.env)]
def P5(H:Hp)(a:ah):Prop:=(∃ kvs,Rd H a (.dK kvs))\/∃ kvs,Rd H a (.dT kvs)
def VA{X:Cx}(I:Inv X pins σ H s)(d:P5 H a) :
  s.TypeIs (.ref a) "dict"/\(∀ b,Value.ref a=.ref b->∃ ob,s.heap.get? b=some ob/\ob.dict=none)/\(a == qA)=false:=by
 rcases d with⟨kvs,e⟩|⟨kvs,e⟩
 ·obtain⟨_,hd,vs,_,dd⟩:=EG I.b5 e;refine⟨dd.typeIs,λb q=>?_,hd⟩;cases q;obtain⟨ob,_,_,h1,h2,_⟩:=dd;exact⟨ob,h1,h2.2.1⟩
 ·obtain⟨_,hd,xs,_,dd⟩:=GA I.b5 e;refine⟨dd.typeIs,λb q=>?_,hd⟩;cases q;obtain⟨ob,_,_,h1,h2,_⟩:=dd;exact⟨ob,h1,h2.2.1⟩
section
variable {X:Cx}{pins:List (ah × Obj)}{σ:St}{H:Hp}{s:ax}{a:ah}{y d:V}{u r:ae}{o:Option V}{A:fh}{E:ae->ax->Prop}
def gt'(hu:A.units+1<eR)(I:Inv X pins σ H s)(g:k9 H a y o)(ry:RelV y u)(h:∀ w' s',Inv X pins σ H s'->RelV (o.getD .non) w'->Q w' s') :
  bP (aS X.prog X.w) A (call (.builtin "dict.get") [.ref a,u]) Q E s:=by
 rcases g with⟨kvs,k,e,ey,l⟩|⟨kvs,k,b,e,ey,eb,l⟩
 ·subst ey;obtain⟨z,hd,vs,rel,dd⟩:=EG I.b5 e;refine call_meetsIn PySem.F.slot_dict_get dd.typeIs PySem.F.entry_dict_get (PySem.F.args_dict_get_2 _ _) (meets_dict_get (kC X.prog X.w) a (FX ry) hd) ⟨_,dd.mapOf,h _ _ (I.tok _) ?_⟩;rw[l];exact(rel.val k).getD rfl
 ·subst ey;cases (ry);obtain⟨z,hd,xs,rel,dd⟩:=GA I.b5 e;refine call_meetsIn PySem.F.slot_dict_get dd.typeIs PySem.F.entry_dict_get (PySem.F.args_dict_get_2 _ _) (meetsH_dict_get (B9 (kC X.prog X.w)) a b hd) ⟨HZ hu,k,xs,FY I.b5 eb,dd,h _ _ (I.tok _) ?_⟩;rw[l];exact(rel.val k).getD rfl
def gu'(hu:A.units+1<eR)(I:Inv X pins σ H s)(g:k9 H a y o)(ry:RelV y u)(rd:RelV d r)(h:∀ w' s',Inv X pins σ H s'->RelV (o.getD d) w'->Q w' s') :
  bP (aS X.prog X.w) A (call (.builtin "dict.get") [.ref a,u,r]) Q E s:=by
 rcases g with⟨kvs,k,e,ey,l⟩|⟨kvs,k,b,e,ey,eb,l⟩
 ·subst ey;obtain⟨z,hd,vs,rel,dd⟩:=EG I.b5 e;refine call_meetsIn PySem.F.slot_dict_get dd.typeIs PySem.F.entry_dict_get (PySem.F.args_dict_get_3 _ _ _) (meets_dict_get_default (kC X.prog X.w) a (FX ry) hd r) ⟨_,dd.mapOf,h _ _ (I.tok _) ?_⟩;rw[l];exact(rel.val k).getD rd
 ·subst ey;cases (ry);obtain⟨z,hd,xs,rel,dd⟩:=GA I.b5 e;refine call_meetsIn PySem.F.slot_dict_get dd.typeIs PySem.F.entry_dict_get (PySem.F.args_dict_get_3 _ _ _) (meetsH_dict_get_default (B9 (kC X.prog X.w)) a b hd r) ⟨HZ hu,k,xs,FY I.b5 eb,dd,h _ _ (I.tok _) ?_⟩;rw[l];exact(rel.val k).getD rd
end
def gv'(td ty:TE):TE:=λσ H Q=>td σ H λx H1=>∃ a,x=.ref a/\P5 H1 a/\ty σ H1 λy H2=>∃ o,k9 H2 a y o/\Q (o.getD .non) H2
def aL'(td ty tx:TE):TE:=λσ H Q=>td σ H λx H1=>∃ a,x=.ref a/\P5 H1 a/\ty σ H1 λy H2=>tx σ H2 λz H3=>∃ o,k9 H3 a y o/\Q (o.getD z) H3
section
variable {X:Cx}{o e f:Expr}{apos fe:Pos}{td ty tx:TE}
def gw' (hu:X.A.units+1<eR) (ho:PE X o td) (he:PE X e ty) (m:M1 X o "get" apos e fe):PE X (.Call (.Attribute o "get" apos) [e] [] fe) (gv' td ty):=by intro pins s σ H Q I h;refine wpAny_Call_method m.base m.few m.line PySem.F.plainAttrs_dict PySem.F.slot_dict_get PySem.F.type_dict_get (dk (ho pins s σ H _ I h) λu s1 eM=>?_);obtain⟨x,H1,I1,rx,a,ex,d,q1⟩:=eM;subst ex;obtain rfl:u=Value.ref a:=rx;obtain⟨t1,t2,_⟩:=VA I1 d;refine⟨t1,t2,?_⟩;rw[m.trees];refine Calls.callWith_builtin rfl (Calls.evalArgs_plain (Calls.spliced_cons (dk (he pins s1 σ H1 _ I1 q1) λiv s2 ⟨y,H2,I2,ry,ov,g,q2⟩=>Calls.spliced_nil ?_)));exact gt' hu I2 g ry λw' s3 I3 k5=>⟨_,H2,I3,k5,q2⟩
def gx' (hu:X.A.units+1<eR) (ho:PE X o td) (he:PE X e ty) (hf:PE X f tx) (m:M2 X o "get" apos e f fe):PE X (.Call (.Attribute o "get" apos) [e,f] [] fe) (aL' td ty tx):=by
 intro pins s σ H Q I h;refine wpAny_Call_method m.base m.few m.line PySem.F.plainAttrs_dict PySem.F.slot_dict_get PySem.F.type_dict_get (dk (ho pins s σ H _ I h) λu s1 eM=>?_);obtain⟨x,H1,I1,rx,a,ex,d,q1⟩:=eM;subst ex;obtain rfl:u=Value.ref a:=rx;obtain⟨t1,t2,_⟩:=VA I1 d;refine⟨t1,t2,?_⟩;rw[m.trees];refine Calls.callWith_builtin rfl (Calls.evalArgs_plain (Calls.spliced_cons (dk (he pins s1 σ H1 _ I1 q1) λiv s2 dv=>L2.g9 dv λy H2 I2 ry q2 =>
  Calls.spliced_cons (dk (hf pins s2 σ H2 _ I2 q2) λfv s3 ⟨z,H3,I3,rz,ov,g,q3⟩=>Calls.spliced_nil ?_))))
 exact gu' hu I3 g ry rz λw' s4 I4 k5=>⟨_,H3,I4,k5,q3⟩
end
end L2
end
namespace Att
open PySem PySem.W PySem.Calls PyProof.Rows
def gy'{P:Params}:∀ (ns:List Int) (vs:List ae),WellAll P h vs (ns.map WData.int)->IntsAre vs ns:=by
 intro ns
 induction ns with
 |nil =>intro vs w;cases w;exact .nil
 |cons n ns ih =>
  intro vs w
  cases w with
  |cons a b =>cases a;exact .cons _ _ (ih _ b)
def gz'{l:OpenLaw}{n:Nat}(hn:l.most=some n){P:Params}{h:dy}{args:List WData}{vals:List ae}(GB:l.row.toRowW.claim.pre args=true) (w4:WellAll P h vals args) :
  ∃ a vs ns,vals=[Value.ref a]/\args=[WData.list (ns.map WData.int)]/\h.get? a=some { cls:=.type "list",data:=.seq vs.toArray }/\IntsAre vs ns/\ns.length<=n:=by
 have vt:WShape.hasAll [] args [.list .int]=true:=(pre_splitW GB).1;have hc:l.pre.holds [] { args:=args }=true:=(pre_splitW GB).2;obtain⟨d,r,rfl,h1,h2⟩:=hasAllW_cons vt;obtain rfl:=hasAllW_nil h2;obtain⟨xs,rfl,h3⟩:=hasW_list h1;obtain⟨ns,rfl⟩:=items_int h3;have hlen:ns.length<=n:=by
  have h4:(WTm.not (.lt (.lit (.int n)) (.len (.arg 0)))).holds [] { args:=[.list (ns.map .int)] }=true:=by have h4:=(holds_andW hc).1;rw[hn] at h4;exact h4
  have h5:=condW_of h4 (w_not (w_lt w_lit (w_len_list (w_arg rfl))));refine Nat.le_of_not_lt λq=>?_;first
   | (rw[decide_eq_true q'] at h5;exact absurd h5 (by decide))
   | (simp at h5;lia)
 cases w4 with
 |cons w1 w2 =>
  cases w2
  cases w1 with
  |list ho nE=>exact⟨_,_,ns,rfl,rfl,ho,gy' ns _ nE,hlen⟩
def gA'(l:OpenLaw)(args:List WData):l.row.toRowW.claim.post args (.bool true) args=true :=
 postW_of (by first|rfl|decide|simp[WShape.has,WShape.arms,WShape.armsAll]) (w_eq_bool (w_res rfl) w_lit) rfl
def gB'{l:OpenLaw}{n:Nat}{q:d5}{loose:List Str}{XP:(Str->Option ae)->dy->Prop}{YP:eJ->dy->Prop}{d:DefRec}(hn:l.most=some n) (P6:d.params.defaults=[])(call:∀ (w:eJ) (kS fT:ax) (mg mb:Str->Option ae) (fa:ah) (o:Obj) (pm cd doc:ae) (a:ah) (vs:List ae) (ns:List Int),
   Ground q loose [] XP w kS mg mb fT.heap->YP w fT.heap ->
   fT.heap.get? fa=some o->o.data=.func (docDef d.name d.params d.body d.scope pm cd doc)->fT.heap.CodeRec cd d.name->mg d.name=some (.ref fa) ->
   fT.heap.get? a=some { cls:=.type "list",data:=.seq vs.toArray }->IntsAre vs ns->ns.length<=n->fT.gens = #[] ->
   codeAny (aS l.prog w) callerA (.call (.ref fa) ⟨[.ref a],[]⟩) (λr s'=>r=.ok (.ret (.bool true))/\OldK fT.heap s'.heap/\s'.os=fT.os/\AllBare s'.gens) fT) :
  WalkO q loose XP YP l.row.toRowW d [] (λf vs=>PySem.call f vs):=by
 intro w kS fT mg mb G Y fa o pm cd doc dV kV ho hd uS hD P7 hg args vals as GB hlay hrd w4 GH;obtain rfl:dV=.none:=Dflts.none hD P6;obtain rfl:kV=.none:=Dflts.noKw hD;obtain⟨a,vs,ns,rfl,rfl,VB,hints,hlen⟩:=gz' hn GB w4;refine enter_call (codeAny_mono (call w kS fT mg mb fa o pm cd doc a vs ns G Y ho (fd_plain hd) uS P7 VB hints hlen hg) λr s' hq=>?_);obtain⟨rfl,h2,h3,h4⟩:=hq;exact⟨.inl ⟨.bool true,.bool true,[],rfl,λ_=>rfl,.bool true,gA' l _,λ_=>⟨List.Pairwise.nil,λ_ hm=>(nomatch hm)⟩⟩,h2,h3,h4⟩
end Att
section
open PySem PySem.Spec PyProof.Rows
namespace L2
theorem aN':∀ {vs:List ae} {ns:List Int},IntsAre vs ns->Vals (ns.map V.int) vs
 |_,_,.nil=>.nil
 |_,_,.cons n t h=>.cons ⟨t,rfl⟩ (aN' h)
def Only(H:Hp):Prop:=∀ b,H b=none\/∃ o xs,H b=some (.qf o (.lst xs))
def gC'{P:d5}{K:aC}(KX:K.In fT.heap) (hns:fT.heap.Ns kr mg) (hb:fT.heap.Ns builtinsNs mb) (VC:∀ x:Str,x ≠ "__name__"->mb x=ll x) (gD':fT.heap.NoLimit) (hg:fT.gens = #[])(ha:fT.heap.get? a=some { cls:=.type "list",data:=.seq vs.toArray }) (hi:IntsAre vs ns) (hl:ns.length<=bq) (hr:ny k callerA) (F:∀ base:dy,K.In base->base.Ns kr mg->Au P w K mg base CX k fa fd [x] sp) (gE':∀ (s:ax) (u:ae),BindsTo s fd ⟨[u],[]⟩ [(x,u)]) (FR:∀ H:Hp,Only H->fw K H a (ns.map V.int)->sp [.ref a] H (λv _=>v=.bl true) λ_ _ _=>False) (VD:∀ H e s',CX [] H fT (λ_ _ _=>False) e s'->False) :
  codeAny (aS P w) callerA (.call (.ref fa) ⟨[.ref a],[]⟩) (λr s'=>r=.ok (.ret (.bool true))/\OldK fT.heap s'.heap/\s'.os=fT.os/\AllBare s'.gens) fT:=by
 have rv:=aN' hi;have gF':=hi.length
 -- from an abstract heap in which nothing but the script may be tracked
 have core:∀ H:Hp,Only H->fw K H a (ns.map V.int)->ku P w H fT.heap->(∀ b,H b≠none->b=a)->(H a≠none->K.lookup a=none) ->
   codeAny (aS P w) callerA (.call (.ref fa) ⟨[.ref a],[]⟩) (λr s'=>r=.ok (.ret (.bool true))/\OldK fT.heap s'.heap/\s'.os=fT.os/\AllBare s'.gens) fT:=by
  intro H hO hS b5 hA hK;have aP':∀ {b:ah} {o:Obj},fT.heap.get? b=some o->H b=none->(EC fT.heap H).get? b=some o:=λe n=>dm' e n;have PK:∀ {b:ah} {o:Obj} {es:Array DictEntry} {ep:Nat},fT.heap.get? b=some o->o.data=.dict es ep->H b=none:=λ{b o es ep} e d=>by
   cases q:H b with
   |none=>rfl
   |some u =>have e':b=a:=hA b (by rw[q];simp);subst e';rw[ha] at e;cases e;have d':Data.seq vs.toArray _=Data.dict es ep:=d;cases d'
  have SV:∀ {b:ah} {m:Str->Option ae},fT.heap.Ns b m->(EC fT.heap H).Ns b m:=λ{b m} ⟨o,es,ep,e,d,r⟩=>⟨o,es,ep,aP' e (PK e d),d,r⟩
  have hKb:K.In (EC fT.heap H):=λb o e=>aP' (KX b o e) (by
   cases q:H b with
   |none=>rfl
   |some u =>
    have e':b=a:=hA b (by rw[q];simp);subst e';rw[hK (by rw[q];simp)] at e;cases e)
  have hM:Mod K mg (EC fT.heap H):=⟨hKb,SV hns,⟨mb,SV hb,VC⟩,let ⟨mc,h1,h2⟩:=gD';⟨mc,SV h1,h2⟩⟩
  have e0:Sr P w K mg (EC fT.heap H) callerA [] fT H:=⟨rfl,hM,λb o e=>dq' e,RT (dl' _ _),trivial,λb hb=>absurd (show b∈([]:List ah) from hb) (by simp),b5,.of_eq hg⟩
  refine codeAny_mono ((F _ hKb (SV hns)).run callerA [] fT H ⟨[.ref a],[]⟩ [.ref a] [.ref a] _ _ hr e0 (gE' fT (.ref a)) (.cons rfl .nil) (FR H hO hS)) λr s' h=>?_
  cases r with
  |error e=>exact(VD H e s' h).elim
  |ok fl =>
   cases fl with
   |next=>exact False.elim h
   |brk=>exact False.elim h
   |cont=>exact False.elim h
   |ret u =>
    obtain⟨v,H',os,bare,un,gG',r',q⟩:=h;have q':v=.bl true:=q;subst q';obtain rfl:u=Value.bool true:=r';refine⟨rfl,OldK.of_keep λb o e=>?_,os,bare⟩
    cases q:H b with
    |none=>exact un.keep b o e q (by intro z;exact absurd (show b∈([]:List ah) from z) (by simp)) (by simp)
    |some u =>
     rcases hO b with z|⟨ob,xs,z⟩
     ·rw[q] at z;cases z
     ·have z2:=un.EB b ob _ z;obtain⟨e1,_⟩:=b5 b _ z;obtain⟨e2,_⟩:=gG' b _ z2;rw[e] at e1;cases e1;exact e2
 cases hk:K.lookup a with
 |some o =>
  -- the script is one of the module's own objects
  have e:=KX a o hk;rw[ha] at e;cases e;refine core (λ_=>none) (λ_=>.inl rfl) (.inr ⟨_,vs.toArray,_,hk,rfl,rfl,rfl,by rw[iO,gF'];exact hl,by simpa using rv⟩) (λb u z=>by have z':none=some u:=z;cases z') (λb z=>absurd rfl z) λz=>absurd rfl z
 |none =>
  refine core (λb=>if b=a then some (.qf { cls:=.type "list",data:=.seq vs.toArray } (.lst (ns.map V.int))) else none) (λb=>?_) (.inl (.inr ⟨{ cls:=.type "list",data:=.seq vs.toArray },if_pos rfl⟩)) (λb u z=>?_) (λb z=>?_) λ_=>hk
  ·by_cases hb:b=a
   ·exact .inr ⟨_,_,if_pos hb⟩
   ·exact .inl (if_neg hb)
  ·by_cases hb:b=a
   ·have z':=(if_pos hb).symm.trans z;cases z';subst hb;exact⟨ha,by rw[b9];exact hl,vs,_,rv,ha⟩
   ·have z':=(if_neg hb).symm.trans z;cases z'
  ·by_cases hb:b=a
   ·exact hb
   ·exact absurd (if_neg hb) z
def gH'{l:Uv}{n k:Nat}{q:d5}{loose:List Str}{XP:(Str->Option ae)->dy->Prop}{YP:eJ->dy->Prop}{d:DefRec}{K:Params->aC}{CX:eJ->FK}{sp:eJ->Sp}{x:Str}(hn:l.most=some n) (Kx:n<=bq) (P6:d.params.defaults=[]) (hr:ny k callerA)(hY:∀ (w:eJ) (h:dy),YP w h->(K w.params).In h)(F:∀ (w:eJ) (mg:Str->Option ae) (fa:ah) (h:dy),(K w.params).In h->h.Ns kr mg->mg d.name=some (.ref fa) ->
   ∃ fd:FuncData,(∀ (s:ax) (u:ae),BindsTo s fd ⟨[u],[]⟩ [(x,u)]) /\
    ∀ base:dy,(K w.params).In base->base.Ns kr mg->Au l.prog w (K w.params) mg base (CX w) k fa fd [x] (sp w))
  (FR:∀ (w:eJ) (H:Hp) (a:ah) (ns:List Int),ns.length<=n->Only H->fw (K w.params) H a (ns.map V.int)->sp w [.ref a] H (λv _=>v=.bl true) λ_ _ _=>False)
  (VD:∀ (w:eJ) (H:Hp) (s:ax) (e:ae) (s':ax),CX w [] H s (λ_ _ _=>False) e s'->False) :
  PySem.W.WalkO q loose XP YP l.row.toRowW d [] (λf vs=>PySem.call f vs):=by
 refine Att.gB' hn P6 λw kS fT mg mb fa o pm cd doc a vs ns G Y ho hd uS P7 VB hints hlen hg=>?_;have KX:=hY w _ Y;obtain⟨fd,hb,hF⟩:=F w mg fa _ KX G.T.g P7;exact gC' KX G.T.g G.T.b G.T.builtins G.T.nolimit hg VB hints (iS hlen Kx) hr hF hb (λH hO hS=>FR w H a ns hlen hO hS) λH e s'=>VD w H fT e s'
def Dp(s:Stmt):Arguments:=match s with
 |.FunctionDef _ a _ _ _ _ _ _ _ _=>a
 |_=>{ posonlyargs:=[],args:=[],vararg:=none,kwonlyargs:=[],kw_defaults:=[],kwarg:=none,defaults:=[] }
def yn(s:Stmt):List Stmt:=match s with
 |.FunctionDef _ _ b _ _ _ _ _ _ _=>b
 |_=>[]
def mB(s:Stmt):Scope:=match s with
 |.FunctionDef _ _ _ _ _ _ sc _ _ _=>sc
 |_=>{ kind:=.function,names:=[],isGenerator:=false,isCoroutine:=false }
abbrev w9:FK:=λ_ _ _ _ _ _=>False
abbrev E0:XK:=λ_ _ _=>False
def gI'{X:Cx}:Passes w9 X E0:=λ_ _ _ _ _ _ _ h=>h.elim
structure Dx(K:aC)(x qual:Str)(st:Stmt)(f:ah)(fd:FuncData):Prop where
 ex:∃ (oc:ae) (od:Option ah) (kV doc pm:ae) (an:Option ah) (gv ct:ae) (CM:Array (Option ae)),
  fd=zt x qual (Dp st) (yn st) (mB st) .none kV doc pm an gv ct/\K.lookup f=some ⟨oc,od,.func fd,CM⟩/\MX K gv qual=true
 kp:IA K (.ref f)=true
section
variable {P:d5}{w:eJ}{K:aC}{mg:Str->Option ae}{base:dy}
def Dx.ok{st:Stmt}{N ps:List Str}(F:Dx K x qual st f fd)(S:PJ N ps (mB st))(len:∀ vs H Q E,sp vs H Q E->vs.length=ps.length)(PL:∀ (gv:ae) (A:fh) (outer:List Env) (s:ax) (H:Hp) (vs:List V) (Q:VK) (E:XK),ny k (A.deeper (envOfC qual (mB st) s.heap.objs.size f gv))->sp vs H Q E ->
   ∃ t,nv (CL w9 P w K mg base N qual (mB st) f gv A outer s H E).FH (yn st) t/\t { nx:=λ_ H'=>Q .non H',rt:=Q } (start N vs) H):Au P w K mg base w9 (k+1) f fd ps sp:=by
 obtain⟨oc,od,kV,doc,pm,an,gv,ct,CM,rfl,lk,uS⟩:=F.ex;refine fh' lk uS S len λA outer s H vs Q E hr FR=>?_;obtain⟨t,h,q⟩:=PL gv A outer s H vs Q E hr FR;exact⟨t,h.FH,q⟩
def Dx.binds{st:Stmt}{ps:List Str}(F:Dx K x qual st f fd)(h:∀ (kV doc pm:ae) (an:Option ah) (gv ct:ae) (us:List ae),us.length=ps.length->bindArgs (zt x qual (Dp st) (yn st) (mB st) .none kV doc pm an gv ct) ⟨us,[]⟩=pure (ps.zip us)):Binds K fd ps []:=by
 obtain⟨oc,od,kV,doc,pm,an,gv,ct,CM,rfl,lk,uS⟩:=F.ex;exact .all (h kV doc pm an gv ct)
def aR'{st:Stmt}{kV doc pm gv ct:ae}(l:K.lookup f=some ⟨oc,od,.func (zt x qual (Dp st) (yn st) (mB st) .none kV doc pm an gv ct),CM⟩)(c:MX K gv qual=true) (k:IA K (.ref f)=true):Dx K x qual st f (zt x qual (Dp st) (yn st) (mB st) .none kV doc pm an gv ct):=⟨⟨oc,od,kV,doc,pm,an,gv,ct,CM,rfl,l,c⟩,k⟩
end
section
variable {X:Cx}
def pv (i:Nat) (hN:autoParam (X.N[i]? = some x) bv) (hv:R7 X.env.scope x:=by first|exact Or.inl rfl|exact Or.inr (Or.inl rfl)|exact Or.inr (Or.inr rfl)) (hd:(x == ("__debug__" : Str))=false:=by decide) (uS:(x == ("__classdict__" : Str))=false:=by decide):PE X (.Name x pos) (ED i):=ZT hN hv hd uS
end
def bS(H H':Hp):Prop:=∀ b o,H b=some o->H' b=some o
def bS.refl(H:Hp):bS H H:=λ_ _ h=>h
def bS.trans(a:bS H H1)(b:bS H1 H2):bS H H2:=λc o h=>b c o (a c o h)
def bS.free(e:bS H H')(h:H' l=Option.none):H l=Option.none:=by
 cases q:H l with
 |none=>rfl
 |some o =>rw[e l o q] at h;cases h
def bS.seq{K:aC}(e:bS H H')(h:fw K H a xs):fw K H' a xs:=by
 rcases h with(h|⟨o,h⟩)|h
 ·exact .inl (.inl (e _ _ h))
 ·exact .inl (.inr ⟨o,e _ _ h⟩)
 ·exact .inr h
end L2
namespace L2
def vv(env:Env):List (Str × AY)->List (Str × ah)->List (Str × ah)
 |[],cs=>cs
 | (n,k) :: r,cs=>vv env r (if k == NameKind.free then (n,(env.cells.lookup n).getD 0) :: cs else cs)
def gf(env:Env):∀ (names:List (Str × AY)) (cs:List (Str × ah)),(∀ y∈names,y.2=.free->∃ c,env.cells.lookup y.1=some c) -> (forIn names cs λx r=>match x with
   | (name,kind)=>if (kind == NameKind.free)=true then do let a <- cellOf env name;pure (ForInStep.yield ((name,a) :: r)) else pure (ForInStep.yield r):Sem (List (Str × ah)))=pure (vv env names cs)
 |[],cs,_=>rfl
 | (n,k) :: r,cs,h=>by
  rw[List.forIn_cons];have ih:=gf env r;by_cases hk:k=.free
  ·subst hk;obtain⟨c,e⟩:=h (n,.free) cy rfl;have e2:cellOf env n=pure c:=by unfold cellOf;rw[e]
   have e3:vv env ((n,.free) :: r) cs=vv env r ((n,c) :: cs):=by show vv env r (if (NameKind.free == NameKind.free)=true then (n,(env.cells.lookup n).getD 0) :: cs else cs)=_;rw[e];rfl
   rw[e3,<- ih ((n,c) :: cs) λy hy=>h y (c9 _ hy)];simp only[beq_self_eq_true,if_true,e2];rfl
  ·have hb:(k == NameKind.free)=false:=by simpa using hk
   have e3:vv env ((n,k) :: r) cs=vv env r cs:=by show vv env r (if (k == NameKind.free)=true then _ else cs)=_;rw[hb];rfl
   rw[e3,<- ih cs λy hy=>h y (c9 _ hy)];simp only[hb,sR,if_false];rfl
def mL(h:∀ y∈scope.names,y.2=.free->∃ c,env.cells.lookup y.1=some c):closureFor scope env=pure (vv env scope.names []):=by have:=gf env scope.names [] h;rw[<- bind_pure (forIn scope.names [] _)] at this;exact this
theorem mH:∀ {names:List (Str × AY)} {cs:List (Str × ah)},(∀ y∈names,y.2=.free->∃ c,env.cells.lookup y.1=some c)->(∀ y d,cs.lookup y=some d->env.cells.lookup y=some d) -> (vv env names cs).lookup x=some c->env.cells.lookup x=some c
 |[],cs,_,h,e=>h x c e
 | (n,k) :: r,cs,hf,h,e=>by
  refine mH (λy hy=>hf y (c9 _ hy)) ?_ e;intro y d hd;by_cases hk:k=.free
  ·subst hk;obtain⟨c',e'⟩:=hf (n,.free) cy rfl;simp only[beq_self_eq_true,if_true,e',Option.getD_some,UL] at hd
   cases hb:y == n with
   |true=>rw[hb] at hd;have:y=n:=eq_of_beq hb;subst this;rw[e'];exact hd
   |false=>rw[hb] at hd;exact h y d hd
  ·have hb:(k == NameKind.free)=false:=by simpa using hk
   simp only[hb,sR,if_false] at hd;exact h y d hd
theorem j6:∀ {names:List (Str × AY)} {cs:List (Str × ah)},((x,NameKind.free)∈names\/∃ c,cs.lookup x=some c)->∃ c,(vv env names cs).lookup x=some c
 |[],cs,h=>by
  rcases h with h|h
  ·exact nomatch h
  ·exact h
 | (n,k) :: r,cs,h=>by
  refine j6 (names:=r) ?_;rcases h with h|⟨c,h⟩
  ·rcases eK.mp h with e|h
   ·cases e;refine .inr ⟨(env.cells.lookup x).getD 0,?_⟩;simp only[beq_self_eq_true,if_true,UL]
   ·exact .inl h
  ·refine .inr ?_;by_cases hk:(k == NameKind.free)=true
   ·simp only[hk,if_true,UL]
    cases hb:x == n with
    |true=>exact⟨_,rfl⟩
    |false=>exact⟨c,h⟩
   ·simp only[hk,if_false];exact⟨c,h⟩
def aO(X:Cx)(scope:Scope)(C:ah)(N:List Str)(fp:List ah)(iX:ax)(j3:Hp):Cx :=
 { X with N:=N,kS:=iX,Pu:=j3,env:=compEnvC scope (vv X.env scope.names []) C X.env,outer:=X.stack,stack:=X.stack,ex:=fp,fn:=λ_=>false,pn:=[],xe:=λ_ _=>False }
def DB(X:Cx)(ifs:List Expr)(t:TT):Prop :=
 ∀ (pins:List (ah × Obj)) (s:ax) (σ:St) (H:Hp) (Q:Bool->Hp->Prop),Inv X pins σ H s->t σ H Q ->
  bP (aS X.prog X.w) X.A (forIn ifs true λc r=>if r=true then do let ok <- isTrue c X.env (df c X.env);pure (ForInStep.yield ok) else pure (ForInStep.yield r)) (TP X pins σ Q) X.xe s
def gJ':TT:=λ_ H Q=>Q true H
def Df{X:Cx}:DB X [] gJ':=λ_ _ _ H _ I h=>wpAny_tests_nil ⟨H,I,h⟩
def Eg{X:Cx}(h:PT X c t):DB X [c] t:=λpins s σ H Q I hw=>wpAny_tests_one (h pins s σ H Q I hw)
def e_{R:Result->ax->Prop}(I:Nat->ax->Prop)(E:ae->ax->Prop)(turn:∀ n s,I n s->bP (aS prog w) A (pyNext it) (λr fT=>match r with
   |none=>R (.ok .next) fT
   |some v=>bP (aS prog w) A (letOwnedTupleGo target it v) (λ_ kS=>bP (aS prog w) A (assign target env v) (λ_ Ki =>
     bP (aS prog w) A (forIn ifs true λc r=>if r=true then do let ok <- isTrue c env (df c env);pure (ForInStep.yield ok) else pure (ForInStep.yield r)) (λok iX =>
      if ok=true then bP (aS prog w) A (df elt env) (λx aS' =>
       bP (aS prog w) A (call (.builtin "list.append") [acc,x]) (λ_ aT'=>∃ m,m<n/\I m aT') E aS') E iX
      else ∃ m,m<n/\I m iX) E Ki) E kS) E fT) E s)
  (hE:∀ e s',E e s'->notedBy (aS prog w) A env (λe s'=>R (.error e) s') e s')
  (n:Nat) (h:I n s) :
  codeAny (aS prog w) A (.compLoop (.ListComp elt [⟨target,iter,ifs,0⟩] scope pos) 0 it acc env) R s:=by
 refine codeAny_loop rfl I (λn s hI=>?_) n h;refine wpAny_noted ?_;refine wc ?_ (λ_ _ q=>q) hE;refine aw (wpAny_standAt (aw (wc (turn n s hI) (λr fT P8=>?_) λ_ _ h'=>h')))
 cases r with
 |none=>exact bG P8
 |some v =>
  refine aw (wc P8 (λ_ kS h₀=>?_) λ_ _ h'=>h');refine aw (wc h₀ (λ_ Ki gK'=>aw (wc gK' (λok iX aU'=>?_) λ_ _ h'=>h')) λ_ _ h'=>h')
  cases ok with
  |false=>exact bG ⟨rfl,aU'⟩
  |true =>exact aw (aw (wc aU' (λx aS' gL'=>aw (wc gL' (λ_ aT' gM'=>bG (bG ⟨rfl,gM'⟩)) λ_ _ h'=>h')) λ_ _ h'=>h'))
def pq(tn:Nat)(ix:List Nat)(σ:St):St:=List.replicate tn none++ix.map λj=>(σ[j]?).join
def Bl(wi:TI)(g:TG)(tc:TT)(te:TE)(tn:Nat)(ix:List Nat):TE:=λσ H Q=>wi σ H λJ H1=>∀ D,H1 D=none ->
 ∃ W:Nat->Nat->St->Hp->Prop,(∃ m,W 0 m (pq tn ix σ) (upd H1 D (.lst [])))/\∀ i m τ H,W i m τ H -> (J.stop i H/\Q (.ref D) H)\/(J.go i H/\∃ (N1:St->V->Hp->Prop) (N2:St->Hp->Prop), (∀ DC v H4,N1 DC v H4->∃ ys m',H4 D=some (.lst ys)/\ys.length<bq/\m'<m/\W (i+1) m' DC (upd H4 D (.lst (ys++[v])))) /\ (∀ DC H3,N2 DC H3->∃ m',m'<m/\W (i+1) m' DC H3) /\
   ∀ x H',J.pe i H x H'->g x τ H' λDC H2=>tc DC H2 λb H3=>if b=true then te DC H3 (N1 DC) else N2 DC H3)
section
variable {X:Cx}{tg iter elt:Expr}{ifs:List Expr}{scope:Scope}{pos:Pos}{wi:TI}{g:TG}{tc:TT}{te:TE}{tn cn:List Str}{ix:List Nat}
structure dU(X:Cx)(scope:Scope)(tn cn:List Str)(ix:List Nat):Prop where
 kind:scope.kind=.function
 gN':∀ y∈scope.names,y.2≠.cell
 free:∀ y∈scope.names,y.2=.free->X.env.scope.names.lookup y.1=some .cell\/X.env.scope.names.lookup y.1=some .free
 names:∀ y∈scope.names,y.2=.local->scope.names.lookup y.1=some .local
 len:ix.length=cn.length
 cap:∀ (k j:Nat),ix[k]? = some j->∃ y,cn[k]? = some y/\X.N[j]? = some y/\(X.env.scope.names.lookup y=some .cell\/X.env.scope.names.lookup y=some .free)/\(y,NameKind.free)∈scope.names /\
  ((relabel scope X.env).names.lookup y=some .cell\/(relabel scope X.env).names.lookup y=some .free)
 all:∀ x,(relabel scope X.env).names.lookup x=some .cell\/(relabel scope X.env).names.lookup x=some .free->(x,NameKind.free)∈scope.names
def vX(O:dU X scope tn cn ix)(I:Inv X pins σ H s)(hf:∀ b∈fp,x6 X pins H b)(VF:∀ b∈fp,b<s.heap.objs.size)(hC:s.heap.objs.size<=C) : (aO X scope C (tn++cn) fp s H).Ok:=by
 have mh:∀ y∈scope.names,y.2=.free->∃ c,X.env.cells.lookup y.1=some c:=λy hy hk=>I.ok.has y.1 (O.free y hy hk);have sub:∀ x c,(vv X.env scope.names []).lookup x=some c->X.env.cells.lookup x=some c:=λx c e=>mH mh (λy d h=>by simp at h) e;refine⟨I.ok.mod,O.kind,I.ok.glob,I.ok.blt,hC,λx y c h1 h2=>I.ok.inj x y c (sub x c h1) (sub y c h2),λx hx=>j6 (.inl (O.all x hx)),(λx c h _=>nomatch h),I.ok.hd,I.ok.frames,.inl rfl,λb hb=>⟨?_,λx c e=>?_⟩,
  I.bs,iS I.ok.FE I.sz,λb o e hb=>?_,λb hb=>?_,I.stack,I.ZL⟩
 ·exact gp (oz (VF b hb) hC)
 ·exact(hf b hb).2.2.2.2.1 x c (sub x c e)
 ·rcases (hf b hb).2.2.2.1 with z|z
  ·exact I.ok.Px b o e z
  ·exact absurd (oz (e9 e) (iS I.ok.FE z)) (wq _)
 ·intro hz;rcases eK.mp (I.U6 b hz) with e|e
  ·exact(hf b hb).2.1 e
  ·exact(hf b hb).2.2.1 e
def tR{P:ae->ax->Prop}(hc:X.calm=true)(hi:PI X tg iter wi)(O:dU X scope tn cn ix)(hg:∀ C fp iX j3,PG (aO X scope C (tn++cn) fp iX j3) tg g) (AA:∀ C fp iX j3,DB (aO X scope C (tn++cn) fp iX j3) ifs tc) (he:∀ C fp iX j3,PE (aO X scope C (tn++cn) fp iX j3) elt te)(hs:∀ x,Ic iter X.env x=pure x) (I:Inv X pins σ H s) (h:Bl wi g tc te tn.length ix σ H Q)(fin:∀ (C D:ah) (m:Str->Option ae) (H5:Hp) (s6:ax) (r:Flow),Inv X pins σ H5 s6->s6.heap.Ns C m->H5 C=none->x6 X pins H5 C->Q (.ref D) H5->compPost (aS X.prog X.w) X.A X.xe use P (.ref D) C (.ok r) s6) :
  bP (aS X.prog X.w) X.A (comprehension (.ListComp elt [⟨tg,iter,ifs,0⟩] scope pos) scope X.env lX' (newList []) false (df iter X.env) use) P X.xe s:=by
 have mh:∀ y∈scope.names,y.2=.free->∃ c,X.env.cells.lookup y.1=some c:=λy hy hk=>I.ok.has y.1 (O.free y hy hk);have sub:∀ x c,(vv X.env scope.names []).lookup x=some c->X.env.cells.lookup x=some c:=λx c e=>mH mh (λy d h=>by simp at h) e;refine wpAny_comprehension_free rfl hs (mL mh) O.kind O.names (dk (hi pins s σ H _ I h) λv s1 h1=>dk h1 λVc s2 h2=>?_);obtain⟨it,fp,SW,J,H2,e,I2,T,z5,f2,h2⟩:=h2;subst e;obtain⟨W,⟨m0,w0⟩,turn⟩:=h2 s2.heap.objs.size (I2.b5.fresh (cw _));refine sL ?_;have I3:Inv X pins σ (upd H2 s2.heap.objs.size (.lst [])) { s2 with heap:=s2.heap.push { cls:=.type "list",data:=.seq ([]:List ae).toArray } }:=I2.Vx .nil (fI _);generalize hD:s2.heap.objs.size=D at *
 generalize hs3:({ s2 with heap:=s2.heap.push { cls:=.type "list",data:=.seq ([]:List ae).toArray } }:ax)=s3 at *
 have k23:∀ b o,s2.heap.get? b=some o->s3.heap.get? b=some o:=λb o e=>by rw[<- hs3];exact gi _ e
 have f3:∀ b∈fp,x6 X pins (upd H2 D (.lst [])) b:=λb hb=>by obtain⟨f0,fr⟩:=f2 b hb;obtain⟨o,ho,_⟩:=T.obj _ _ z5 b hb;refine⟨?_,fr⟩;rw[fq (gp (by rw[<- hD];exact e9 ho))];exact f0
 have An:SW 0 s3.heap:=T.keep _ _ _ z5 λb hb o e=>k23 b o e;have lt3:∀ b∈fp,b<s3.heap.objs.size:=λb hb=>by obtain⟨o,ho,_⟩:=T.obj _ _ An b hb;exact e9 ho
 refine wpAny_newFunctionEnv O.gN' (by intro y hy;simp at hy) (λP8 gR' gS'=>?_) O.kind;have KG:∀ b o,s3.heap.get? b=some o->P8.get? b=some o:=λb o e=>gS'.extBut b o (gp (e9 e)) (gi _ e)
 -- the block's context
 have SX:=vX O I3 f3 lt3 (cw _);have I4:Inv (aO X scope s3.heap.objs.size (tn++cn) fp s3 (upd H2 D (.lst []))) [] (pq tn.length ix σ) (upd H2 D (.lst [])) { s3 with heap:=P8,toks:=s3.toks+([]:List (Str × ae)).length }:=by
  refine⟨SX,rfl,I3.bare,Un.kept KG,⟨_,gR',λi x v e1 e2 e3=>?_⟩,λx c e=>?_,I3.b5.fresh (cw _),λx c e=>I3.A9 x c (sub x c e),λp hp=>absurd hp (by simp[aO]),I3.b5.kept KG,?_⟩
  ·have kK:tn.length<=i:=by
    by_cases q:i<tn.length
    ·unfold pq at e2;rw[Fc (by simpa using q),List.getElem?_replicate] at e2;simp[q] at e2
    ·lia
   unfold pq at e2;rw[Cb (by simpa using kK),List.length_replicate,nh] at e2;have e1:(tn++cn)[i]? = some x:=e1;rw[Cb kK] at e1
   cases q:ix[i-tn.length]? with
   |none=>rw[q] at e2;cases e2
   |some j =>
    rw[q] at e2;obtain⟨y,c1,c2,c3,c4,c5⟩:=O.cap _ _ q;rw[c1] at e1;cases e1;have e2:σ[j]?.join=some v:=Option.some.inj e2;have ej:σ[j]? = some (some v):=by
     cases z:σ[j]? with
     |none=>rw[z] at e2;cases e2
     |some o=>rw[z] at e2;exact congrArg some e2
    obtain⟨m,hn,hl⟩:=I3.loc;obtain⟨u,r,l⟩:=hl j x v c2 ej (c3.elim (λz=>.inr (.inl z)) λz=>.inr (.inr z));refine⟨u,r,.inr ⟨c5,?_⟩⟩;rcases l with⟨hk,_⟩|⟨hk,c,Sd,hce⟩
    ·have hk:X.env.scope.names.lookup x=some .local:=hk;rcases c3 with z|z
     ·rw[z] at hk;cases hk
     ·rw[z] at hk;cases hk
    ·obtain⟨c',tf⟩:=j6 (Or.inl c4);have:=sub x c' tf;rw[Sd] at this;cases this;obtain⟨o,ho,hd⟩:=hce;exact⟨c,tf,o,KG _ _ ho,hd⟩
  ·obtain⟨v,o,ho,hd⟩:=I3.cell x c (sub x c e);exact⟨v,o,KG _ _ ho,hd⟩
  ·show(pq tn.length ix σ).length=(tn++cn).length;unfold pq;simp[O.len]
 -- from the block back to the body
 have back:∀ {τ:St} {H':Hp} {s':ax},Inv (aO X scope s3.heap.objs.size (tn++cn) fp s3 (upd H2 D (.lst []))) [] τ H' s'->Inv X pins σ H' s':=λ{τ H' s'} I' =>
  Inv.dy' I3 I'.os I'.base I'.b5 I'.bare λb hb=>by obtain⟨_,f1,_,f3',f4,f5⟩:=f3 b hb;exact⟨f3',f1,f4,f5⟩
 have VG:∀ {H':Hp},(∀ b∈fp,H' b=none)->∀ b∈fp,x6 (aO X scope s3.heap.objs.size (tn++cn) fp s3 (upd H2 D (.lst []))) [] H' b:=λhn b hb =>
  ⟨hn b hb,(SX.R9 b hb).1,SX.Py b hb,.inl hb,(SX.R9 b hb).2,λp hp=>absurd hp (by simp[aO])⟩
 have loop:∀ s4:ax,Inv (aO X scope s3.heap.objs.size (tn++cn) fp s3 (upd H2 D (.lst []))) [] (pq tn.length ix σ) (upd H2 D (.lst [])) s4->SW 0 s4.heap ->
   codeAny (aS X.prog X.w) X.A (.compLoop (.ListComp elt [⟨tg,iter,ifs,0⟩] scope pos) 0 (.ref it) (.ref D) (compEnvC scope (vv X.env scope.names []) s3.heap.objs.size X.env)) (compPost (aS X.prog X.w) X.A X.xe use P (.ref D) s3.heap.objs.size) s4:=by
  intro s4 I4 Bz;refine e_ (λn s'=>∃ i τ H',Inv (aO X scope s3.heap.objs.size (tn++cn) fp s3 (upd H2 D (.lst []))) [] τ H' s'/\SW i s'.heap/\(∀ b∈fp,H' b=none)/\W i n τ H') (λ_ _=>False) ?_ (λ_ _ z=>z.elim) m0 ⟨0,_,_,I4,Bz,λb hb=>(f3 b hb).1,w0⟩
  rintro n s5 ⟨i,τ,H5,I5,Kb,Sj,w5⟩;rcases turn i n τ H5 w5 with⟨stop,qn⟩|⟨go,N1,N2,hN1,KL,step⟩
  ·refine dk (T.done (aO X scope s3.heap.objs.size (tn++cn) fp s3 (upd H2 D (.lst []))) rfl rfl rfl hc i [] s5 τ H5 (λ_ _=>False) I5 (VG Sj) Kb stop) λr s6 eM=>?_;obtain⟨hr,I6⟩:=eM;subst hr;have J6:=back I6;obtain⟨m,hn,_⟩:=I6.loc;exact fin _ D m H5 s6 _ J6 hn I6.free (I3.N0 (cw _) I6.free) qn
  ·refine dk (T.item (aO X scope s3.heap.objs.size (tn++cn) fp s3 (upd H2 D (.lst []))) rfl rfl rfl hc i [] s5 τ H5 (λ_ _=>False) I5 (VG Sj) Kb go) λr s6 eM=>?_;obtain⟨u,hr,h6⟩:=eM;subst hr;refine dk h6 λ_ s7 eM=>?_;obtain⟨x,H7,I7,r7,y7,VH,fr7⟩:=eM;have I7':=I7.pinned (VG fr7) (T.obj _ _ VH);refine dk (hg _ _ _ _ _ s7 τ H7 x u _ I7' r7 (step x H7 y7)) λ_ s8 eM=>?_;obtain⟨Od,H8,I8,q8⟩:=eM;refine dk (AA _ _ _ _ _ s8 Od H8 _ I8 q8) λok s9 eM=>?_;obtain⟨H9,I9,q9⟩:=eM;have again:∀ {s':ax} {H':Hp} {m':Nat},Inv (aO X scope s3.heap.objs.size (tn++cn) fp s3 (upd H2 D (.lst []))) ([]++PC fp s7.heap) Od H' s'->m'<n->W (i+1) m' Od H' ->
     ∃ m,m<n/\∃ i τ H',Inv (aO X scope s3.heap.objs.size (tn++cn) fp s3 (upd H2 D (.lst []))) [] τ H' s'/\SW i s'.heap/\(∀ b∈fp,H' b=none)/\W i m τ H':=λ{s' H' m'} J hm w'=>by
    refine⟨m',hm,i+1,Od,H',J.Si,T.keep _ _ _ VH λb hb o e=>(J.pin (b,o) (gu _ (gu _ (Sh hb e)))).1,λb hb=>?_,w'⟩;obtain⟨o,e,d⟩:=T.obj _ _ VH b hb;exact(J.pin (b,o) (gu _ (gu _ (Sh hb e)))).2.1
   cases ok with
   |false =>obtain⟨m',hm,w'⟩:=KL _ _ q9;exact again I9 hm w'
   |true =>refine dk (he _ _ _ _ _ s9 Od H9 _ I9 q9) λx9 s10 dv=>L2.g9 dv λv10 H10 I10 r10 q10=>?_;obtain⟨ys,m',hH,hz,hm,w'⟩:=hN1 _ _ _ q10;refine dk (SG _ s10 Od H10 (.ref D) [v10] (.ref D) [x9] (λ_ H'=>H'=upd H10 D (.lst (ys++[v10]))) I10 rfl (.cons r10 .nil) ⟨D,ys,v10,rfl,rfl,hH,hz,rfl⟩) λ_ s11 dv=>L2.g9 dv λ_ H11 I11 _ q11=>?_;subst q11;exact again I11 hm w'
 exact codeAny_compStart_list (loop _ I4 (T.keep _ _ _ An λb hb o e=>KG b o e)) (T.self _ 0 _ _ _ (T.keep _ _ _ An λb hb o e=>KG b o e) (loop _ I4 (T.keep _ _ _ An λb hb o e=>KG b o e)))
def Ff(hc:X.calm=true)(hi:PI X tg iter wi)(O:dU X scope tn cn ix)(hg:∀ C fp iX j3,PG (aO X scope C (tn++cn) fp iX j3) tg g) (AA:∀ C fp iX j3,DB (aO X scope C (tn++cn) fp iX j3) ifs tc) (he:∀ C fp iX j3,PE (aO X scope C (tn++cn) fp iX j3) elt te)(hs:∀ x,Ic iter X.env x=pure x:=by intro _;rfl):PE X (.ListComp elt [⟨tg,iter,ifs,0⟩] scope pos) (Bl wi g tc te tn.length ix):=by
 walk_at"z";exact tR hc hi O hg AA he hs I h λC D m H5 s6 r J6 hn hf ⟨_,g1,_,g3,g4,g5⟩ qn=>⟨m,hn,λh' SY=>⟨.ref D,H5,J6.turned (λb o hb e=>SY.extBut b o hb e) hf g1 g3 g4 g5,rfl,qn⟩⟩
def uQ(hN:X.N.Nodup)(vw:X.N[i]? = some x)(hx:Loc X.env.scope x)(hc:X.calm=true)(hi:PI X tg iter wi)(O:dU X scope tn cn ix)(hg:∀ C fp iX j3,PG (aO X scope C (tn++cn) fp iX j3) tg g) (AA:∀ C fp iX j3,DB (aO X scope C (tn++cn) fp iX j3) ifs tc) (he:∀ C fp iX j3,PE (aO X scope C (tn++cn) fp iX j3) elt te)(VJ:sN (.ListComp elt [⟨tg,iter,ifs,0⟩] scope pos) (some (.Name x pos')) VL.line X.env=pure true)(hs:∀ x,Ic iter X.env x=pure x:=by intro _;rfl) (hf:X.fn x=true\/X.env.scope.names.lookup x=some .local:=by first|exact .inl rfl|exact .inr rfl|assumption) :
  PS X (.Assign [.Name x pos'] (.ListComp elt [⟨tg,iter,ifs,0⟩] scope pos) VL) (Z1 (Bl wi g tc te tn.length ix) (Va i)):=by
 intro pins s σ H D0 I h;rw[exec_Assign_Name_used _ _ _ _ VJ];refine aw (wpAny_standAt (aw ?_));show bP _ _ (do let _ <- comprehension (.ListComp elt [⟨tg,iter,ifs,0⟩] scope pos) scope X.env _ (newList []) false (df iter X.env) (some (assign (.Name x pos') X.env))) _ _ s;refine aw (wc (tR (use:=some (assign (.Name x pos') X.env)) (P:=λ_ s'=>SP X pins D0 .next s') hc hi O hg AA he hs I h λC D m H5 s6 r J6 hn GL ⟨_,g1,_,g3,g4,g5⟩ qn=>?_) (λ_ s' hq=>bG (bG hq)) λ_ _ e=>e);refine(show bP _ _ (assign (.Name x pos') X.env (.ref D)) _ _ s6 from wpAny_assign_Name (ZP J6 hN vw hx (v:=.ref D) rfl (λs7 I7 eM=>?_) hf));obtain⟨a,sb,ha⟩:=eM;have hCa:C≠a:=by
  rcases ha with rfl|ha
  ·exact g1
  ·exact Ne.symm (g4 _ a ha)
 refine⟨m,hn.sameBut sb hCa,λh' SY=>⟨_,H5,?_,qn⟩⟩;exact I7.turned (t':=s7.toks) (λb o hb e=>SY.extBut b o hb e) GL g1 g3 g4 g5
end
def Oe (a b:String):Bool:=a == b || (a == "bool" && b == "int")
def VM (b:String):Bool:=["str", "int", "bool", "list", "tuple", "dict"].contains b
def iJ (K:aC) (a b:String) (ha:a∈["NoneType", "bool", "int", "str", "list", "tuple", "dict"]) (hb:b∈["str", "int", "bool", "list", "tuple", "dict"]):PySem.W.kitOne K (.type a) (.type b)=some (Oe a b):=by simp only[eK,IH,or_false] at ha hb;rcases ha with rfl|rfl|rfl|rfl|rfl|rfl|rfl<;>rcases hb with rfl|rfl|rfl|rfl|rfl|rfl<;>kernel_rfl
section
variable {X:Cx}
def eS.imp(h:eS X f r)(hi:∀ x y H Q,r' x y H Q->r x y H Q):eS X f r' :=
 λpins s σ H x y v u Q I rx ry q=>h pins s σ H x y v u Q I rx ry (hi x y H Q q)
def Kr(K:aC):R2:=λx y H Q=>∃ l b xs zs,x=.ref l/\y=.ref b/\fw K H l xs/\fw K H b zs/\xs.length+zs.length<=bq/\∀ p,H p=none->Q (.ref p) (upd H p (.lst (xs++zs)))
def Fi:eS X (om .Add) (Kr X.K):=by
 walk_at"b";obtain⟨l,b,xs,zs,rfl,rfl,hH,hB,hz,q⟩:=h;cases rx;cases ry;obtain⟨its,r,pl,z⟩:=I.list hH;obtain⟨FU,r2,pl2,z2⟩:=I.list hB;have hl:=r.length;have yb:=r2.length;obtain⟨⟨cls,dd,data,sl⟩,ho,hc,n,hd⟩:=id pl.isList;obtain⟨⟨Vr,ve,data2,vi⟩,pf,EE,n2,hd2⟩:=id pl2.isList;subst hc hd EE hd2;have ea:its.toArray++FU.toArray=(its++FU).toArray:=by simp
 refine concat_meets ⟨_,ho,rfl⟩ ⟨_,pf,rfl⟩ noFill_list_add seq_list_add PySem.F.slot_list_add PySem.F.entry_list_add (PySem.F.args_list_add_2 _ _) (list_addW l b its.toArray FU.toArray n n2 dd ve sl vi (by simp only[iO];lia)) ⟨ho,pf,?_⟩;rw[ea];exact⟨.ref _,_,I.Vx (r.append r2) (by rw[kz];lia),rfl,q _ I.fresh⟩
def Ag(K:aC):R2:=λx y H Q=>match x,y with
 |.int i,.int j=>Q (.int (i+j)) H
 |.str i,.str j=>i.length+j.length<=bq/\Q (.str (i++j)) H
 |.ref a,.ref b=>∃ xs zs,fw K H a xs/\fw K H b zs/\xs.length+zs.length<=bq/\∀ p,H p=none->Q (.ref p) (upd H p (.lst (xs++zs)))
 |_,_=>False
def Eu:eS X (om .Add) (Ag X.K):=by
 refine(ey'.or (eU'.or Fi)).imp λx y H Q h=>?_;unfold Ag at h;split at h
 ·exact .inl ⟨_,_,rfl,rfl,h⟩
 ·exact .inr (.inl ⟨_,_,rfl,rfl,h.1,h.2⟩)
 ·obtain⟨xs,zs,h1,h2,h3,h4⟩:=h;exact .inr (.inr ⟨_,_,xs,zs,rfl,rfl,h1,h2,h3,h4⟩)
 ·exact h.elim
def Dz:R2:=λx y H Q=>match x,y with
 |.int i,.int j=>N9 i j/\Q (.int (i*j)) H
 |_,_=>False
def DP:eS X (om .Mult) Dz:=ez'.imp λx y H Q h=>by
 unfold Dz at h;split at h
 ·exact⟨_,_,rfl,rfl,h.1,h.2⟩
 ·exact h.elim
def Dk:R2:=λx y H Q=>match x,y with
 |.int i,.int j=>(0<j/\j<1073741824)/\Q (.int (i / j)) H
 |_,_=>False
def CT:eS X (om .FloorDiv) Dk:=eA'.imp λx y H Q h=>by
 unfold Dk at h;split at h
 ·exact⟨_,_,rfl,rfl,h.1,h.2⟩
 ·exact h.elim
def FQ:R2:=λx y H Q=>match x,y with
 |.int i,.int j=>0<j/\Q (.int (i % j)) H
 |_,_=>False
def El:eS X (om .Mod) FQ:=eB'.imp λx y H Q h=>by
 unfold FQ at h;split at h
 ·exact⟨_,_,rfl,rfl,h.1,h.2⟩
 ·exact h.elim
def tq(x y:Str):Bool:=decide (x.cps.toList<y.cps.toList)
def VN:R2:=λx y H Q=>match x,y with
 |.int i,.int j=>Q (.bl (decide (i<j))) H
 |.str i,.str j=>Q (.bl (tq i j)) H
 |_,_=>False
def BP:eS X (iq .Lt) VN:=(eI'.or eL').imp λx y H Q h=>by
 unfold VN at h;split at h
 ·exact .inl ⟨_,_,rfl,rfl,h⟩
 ·exact .inr ⟨_,_,rfl,rfl,h⟩
 ·exact h.elim
def yc:eS X (iq .LtE) (λx y H Q=>∃ i j,x=.str i/\y=.str j/\Q (.bl (!tq j i)) H):=by intro pins s σ H x y v u Q I rx ry h;obtain⟨i,j,rfl,rfl,q⟩:=h;obtain⟨t,rfl⟩:=rx;obtain⟨t',rfl⟩:=ry;exact PySem.P.le_str ⟨.bl _,H,I,rfl,q⟩
def VP:R2:=λx y H Q=>match x,y with
 |.int i,.int j=>Q (.bl (decide (i<=j))) H
 |.str i,.str j=>Q (.bl (!tq j i)) H
 |_,_=>False
def xJ:eS X (iq .LtE) VP:=(eJ'.or yc).imp λx y H Q h=>by
 unfold VP at h;split at h
 ·exact .inl ⟨_,_,rfl,rfl,h⟩
 ·exact .inr ⟨_,_,rfl,rfl,h⟩
 ·exact h.elim
def VQ:R2:=λx y H Q=>match x,y with
 |.int i,.int j=>Q (.bl (decide (j<i))) H
 |_,_=>False
def yq:eS X (iq .Gt) VQ:=eK'.imp λx y H Q h=>by
 unfold VQ at h;split at h
 ·exact⟨_,_,rfl,rfl,h⟩
 ·exact h.elim
def Inv.rd(I:Inv X pins σ H s)(e:Rd H a u):kH X.prog X.w H s.heap a u:=e.elim (I.b5 a _) λ⟨o,e⟩=>(I.b5 a _ e).2
def S0(K:aC):List V->Hp->VK->Prop:=λxs H Q=>match xs with
 |[.str y]=>y.length<=bq/\Q (.int y.length) H
 |[.ref p]=>(∃ ys,fw K H p ys/\Q (.int ys.length) H)\/(∃ ys,kU K H p ys/\Q (.int ys.length) H)\/∃ kvs,Rd H p (.dK kvs)/\Q (.int kvs.length) H
 |_=>False
def yW:lT X (.builtin "len") (S0 X.K):=by
 walk_at"n";unfold S0 at h;split at h
 ·exact Vk pins s σ H _ us Q I r ⟨_,_,rfl,⟨h.1,rfl⟩,h.2⟩
 ·rcases h with⟨ys,h1,h2⟩|⟨ys,h1,h2⟩|⟨kvs,h1,h2⟩
  ·exact Vk pins s σ H _ us Q I r ⟨_,_,rfl,.inl ⟨ys,h1,rfl⟩,h2⟩
  ·exact Vk pins s σ H _ us Q I r ⟨_,_,rfl,.inr ⟨ys,h1,rfl⟩,h2⟩
  ·obtain⟨u,rfl,ru⟩:=vals1 r;cases ru;exact gi' I h1 λt s' I'=>⟨.int kvs.length,H,I',⟨t,rfl⟩,h2⟩
 ·exact h.elim
def S4(K:aC):R2:=λx y H Q=>match x,y with
 |.ref p,.int i=>(∃ xs v,fw K H p xs/\gy xs i=some v/\Q v H)\/∃ xs v,kU K H p xs/\gy xs i=some v/\Q v H
 |.str z,.int i=>z.length<=bq/\∃ c,gy z.cps.toList i=some c/\Q (.str ⟨#[c]⟩) H
 |_,_=>False
def BK:ya X (S4 X.K):=by
 intro value slice pins s σ H x y v u Q I rx ry h hs;refine fG' value slice pins s σ H x y v u Q I rx ry ?_ hs;unfold S4 at h;split at h
 ·rcases h with⟨xs,w,h1,h2,h3⟩|⟨xs,w,h1,h2,h3⟩
  ·exact .inl ⟨_,xs,_,w,rfl,rfl,h1,h2,h3⟩
  ·exact .inr (.inl ⟨_,xs,_,w,rfl,rfl,h1,h2,h3⟩)
 ·obtain⟨h1,c,h2,h3⟩:=h;exact .inr (.inr ⟨_,_,c,rfl,rfl,h1,h2,h3⟩)
 ·exact h.elim
def vx(z:Str)(lo hi:Option Int):Str:=⟨((z.cps.toList.drop (HT.cK z.length 0 lo)).take (HT.cK z.length z.length hi-HT.cK z.length 0 lo)).toArray⟩
end
def wD(l:List Nat)(lo hi:Option Int)(h:((l.drop (HT.cK l.length 0 lo)).take (HT.cK l.length l.length hi-HT.cK l.length 0 lo)).length=l.length) : (l.drop (HT.cK l.length 0 lo)).take (HT.cK l.length l.length hi-HT.cK l.length 0 lo)=l:=by
 generalize HT.cK l.length 0 lo=a at *
 by_cases hl:l.length=0
 ·have:l=[]:=Rr.mp hl;subst this;simp
 ·rw[oq,IG] at h;have h1:a=0:=by lia
  subst h1;rw[List.drop_zero];exact Rt (by lia)
def xf(lo hi:Option Int)(n:Nat):Builtin.Str.strSliceIndices lo hi 1 n=(List.range (HT.cK n n hi-HT.cK n 0 lo)).map (HT.cK n 0 lo + ·):=by
 have e1:(match lo with|none=>0|some i=>max 0 (min (if i<0 then i+n else i) n))=((HT.cK n 0 lo:Nat):Int):=by
  cases lo with
  |none=>simp[HT.cK]
  |some i =>
   simp only[HT.cK];by_cases h:i<0
   ·simp only[h,if_true]<;>lia
   ·simp only[h,if_false]<;>lia
 have e2:(match hi with|none=>n|some i=>max 0 (min (if i<0 then i+n else i) n))=((HT.cK n n hi:Nat):Int):=by
  cases hi with
  |none=>simp[HT.cK]
  |some i =>
   simp only[HT.cK];by_cases h:i<0
   ·simp only[h,if_true]<;>lia
   ·simp only[h,if_false]<;>lia
 rw[<- sliceRange_one,<- e1,<- e2];cases lo<;>cases hi<;>rfl
section
variable {X:Cx}
def part_of(h:IsPart v o):∃ p:Option (Int × Tok),v=partValue p/\p.map (·.1)=o:=by
 cases h with
 |none=>exact⟨none,rfl,rfl⟩
 |int i t=>exact⟨some (i,t),rfl,rfl⟩
def VR(K:aC):V->Option Int->Option Int->Hp->VK->Prop:=λx lo hi H Q=>match x with
 |.str z=>z.length<=bq/\Q (.str (vx z lo hi)) H
 |.ref a=>∃ xs,fw K H a xs/\∀ p,H p=none->Q (.ref p) (upd H p (.lst (Kj xs lo hi)))
 |_=>False
def HR:Ob X (λx lo hi H Q=>∃ z,x=.str z/\z.length<=bq/\Q (.str (vx z lo hi)) H):=by
 intro pins s σ H x v vl vu lo hi sl Q I rx hs pl pu h;obtain⟨z,rfl,hz,q⟩:=h;walk_at"A";obtain⟨p1,rfl,e1⟩:=part_of pl;obtain⟨p2,rfl,e2⟩:=part_of pu;refine⟨"str",_,F.slot_str_getitem.lookup,typeIs_str s z t,wpAny_getItem_str_slice (st:=none) hs rfl ?_⟩;have hl:z.cps.toList.length=z.length:=by simp[Str.length]
 have ep:slicePicked z p1 p2 none=(List.range (HT.cK z.length z.length hi-HT.cK z.length 0 lo)).map (HT.cK z.length 0 lo + ·):=by unfold slicePicked;rw[e1,e2];exact xf lo hi z.length
 have ef:(slicePicked z p1 p2 none).filterMap (z.cps[·]?)=(z.cps.toList.drop (HT.cK z.length 0 lo)).take (HT.cK z.length z.length hi-HT.cK z.length 0 lo):=by rw[ep];exact pick_run z.cps _ _
 unfold sliceMade;split
 ·rename_i hc;have hw:(slicePicked z p1 p2 none).length=z.length:=by simpa using hc
  have:vx z lo hi=z:=by
   unfold vx;have e3:((z.cps.toList.drop (HT.cK z.cps.toList.length 0 lo)).take (HT.cK z.cps.toList.length z.cps.toList.length hi-HT.cK z.cps.toList.length 0 lo)).length=z.cps.toList.length:=by
    rw[hl,oq,IG,hl];rw[ep,b9,UK] at hw;have h1:HT.cK z.length z.length hi<=z.length:=by
     cases hi with
     |none=>simp[HT.cK]
     |some i=>simp only[HT.cK];split<;>lia
    lia
   have:=wD z.cps.toList lo hi e3;rw[hl] at this;rw[this]
  rw[this] at q;exact⟨.str z,H,I,⟨t,rfl⟩,q⟩
 ·rw[ef];exact⟨by
   show(vx z lo hi).length<=bq;unfold vx Str.length;simp only[iO,oq,IG,hl];lia,⟨.str (vx z lo hi),H,I.tok _,⟨_,rfl⟩,q⟩⟩
def GJ:Ob X (VR X.K):=by
 intro pins s σ H x v vl vu lo hi sl Q I rx hs pl pu h;unfold VR at h;split at h
 ·exact HR pins s σ H _ v vl vu lo hi sl Q I rx hs pl pu ⟨_,rfl,h.1,h.2⟩
 ·obtain⟨xs,h1,h2⟩:=h;exact fK' pins s σ H _ v vl vu lo hi sl Q I rx hs pl pu ⟨_,xs,rfl,h1,h2⟩
 ·exact h.elim
def P9(z:Str):It:=⟨λi _=>i<z.cps.size,λi H x H'=>H'=H/\∃ c,z.cps[i]? = some c/\x=.str ⟨#[c]⟩,λi _=>z.cps.size<=i⟩
def uL {P:d5} {K:aC} (FV:ty = "str_ascii_iterator"\/ty = "str_iterator") :
  Turn P w K tg (P9 z) [it] it (λi h=>h.IsStrIter it ty z t i/\i<=z.cps.size) where
 mem:=by simp
 obj:=λi h st b hb=>by
  have e:b=it:=by simpa using hb
  subst e;obtain⟨⟨o,e,c,d⟩,_⟩:=st;exact⟨o,e,λv z=>by rw[d] at z;cases z⟩
 keep:=λi h h' st k=>let ⟨⟨o,e,c,d⟩,l⟩:=st;⟨⟨o,k it (by simp) o e,c,d⟩,l⟩
 item:=by
  intro X hP hw hK hc i pins s σ H E I hf st hg;subst hP hw hK;obtain⟨f0,f1,f2,f3,f4,f5⟩:=hf it (by simp);obtain⟨st,_⟩:=st;have hg:i<z.cps.size:=hg;have W:Walks X.prog X.w X.A it [it] [it] z.cps.size (SignAt z) (λi h=>h.IsStrIter it ty z t i):=by
   rcases FV with rfl|rfl
   ·exact Walks.strAscii (I.ok.hd hc) it z t
   ·exact Walks.strWide (I.ok.hd hc) it z t
  refine W.item i s _ _ hg st λv h' tk hv ai kk=>?_;obtain⟨c,u,ec,rfl⟩:=hv;have I1:Inv X pins σ H { s with heap:=h',toks:=tk }:=I.turned (λb o hb e=>kk b o (by simpa using hb) e) f0 f1 f3 f4 f5;obtain⟨o,e,c',d⟩:=id ai;exact⟨_,rfl,Sf (s:={ s with heap:=h',toks:=tk }) e c' d (by rcases FV with rfl|rfl<;>decide) ⟨.str ⟨#[c]⟩,H,I1,⟨u,rfl⟩,⟨rfl,c,ec,rfl⟩,⟨ai,hg⟩,λb hb=>(hf b hb).1⟩⟩
 done:=by
  intro X hP hw hK hc i pins s σ H E I hf st hg;subst hP hw hK;obtain⟨f0,f1,f2,f3,f4,f5⟩:=hf it (by simp);obtain⟨st,hle⟩:=st;have hg:z.cps.size<=i:=hg;have e:i=z.cps.size:=Nat.le_antisymm hle hg;subst e;have W:Walks X.prog X.w X.A it [it] [it] z.cps.size (SignAt z) (λi h=>h.IsStrIter it ty z t i):=by
   rcases FV with rfl|rfl
   ·exact Walks.strAscii (I.ok.hd hc) it z t
   ·exact Walks.strWide (I.ok.hd hc) it z t
  exact W.done s _ _ st λh' tk kk=>⟨rfl,I.turned (λb o hb e=>kk b o (by simpa using hb) e) f0 f1 f3 f4 f5⟩
 self:=λA i s Q E st h=>by
  rcases FV with rfl|rfl
  ·exact wpAny_pyIter_striter_ascii st.1 h
  ·exact wpAny_pyIter_striter_wide st.1 h
def Gy(hl:PE X l tl):PI X tg l (λσ H R=>tl σ H λx H1=>∃ z,x=.str z/\R (P9 z) H1):=by
 intro pins s σ H R I h;refine dk (hl pins s σ H _ I h) λv s1 dv=>L2.g9 dv λx H1 I1 r1 q1=>?_;obtain⟨z,rfl,q⟩:=q1;obtain⟨t,rfl⟩:=r1;have fp:∀ b∈[s1.heap.objs.size],x6 X pins H1 b:=λb hb=>by
  have e:b=s1.heap.objs.size:=by simpa using hb
  subst e;exact I1.N0 (cw _) (I1.b5.fresh (cw _))
 cases ha:z.cps.all (· < 128)
 ·exact wpAny_pyIter_wide ha ⟨s1.heap.objs.size,[s1.heap.objs.size],_,_,H1,rfl,I1.kept λb o e=>gi _ e,uL (.inr rfl),⟨⟨_,kB _ rfl,rfl,rfl⟩,fI _⟩,fp,q⟩
 ·exact wpAny_pyIter_ascii ha ⟨s1.heap.objs.size,[s1.heap.objs.size],_,_,H1,rfl,I1.kept λb o e=>gi _ e,uL (.inl rfl),⟨⟨_,kB _ rfl,rfl,rfl⟩,fI _⟩,fp,q⟩
end
structure iQ(J:It)(its:List V)(cond:Hp->Prop):Prop where
 go:∀ i H,cond H->i<its.length->J.go i H
 pe:∀ i H x H',cond H->i<its.length->J.pe i H x H'->H'=H/\its[i]? = some x
 stop:∀ H,cond H->J.stop its.length H
def S5(z:Str):List V:=z.cps.toList.map λc=>.str ⟨#[c]⟩
def CQ(z:Str):iQ (P9 z) (S5 z) (λ_=>True) where
 go:=λi H _ h=>by simpa[S5,P9] using h
 pe:=λi H x H' _ _ h=>by obtain⟨rfl,c,e,rfl⟩:=h;refine⟨rfl,?_⟩;unfold S5;rw[nh,n4,e];rfl
 stop:=λH _=>by simp[S5,P9]
def Bf(K:aC)(a:ah)(xs:List V):iQ (Sg K a) xs (λH=>fw K H a xs) where
 go:=λi H h hi=>⟨xs,xs[i],h,by simp[hi]⟩
 pe:=λi H x H' h _ y=>⟨y.1,y.2 xs h⟩
 stop:=λH h=>⟨xs,h,cw _⟩
def Er(K:aC)(a:ah)(xs:List V):iQ (Vd K a) xs (λH=>kU K H a xs) where
 go:=λi H h hi=>⟨xs,xs[i],h,by simp[hi]⟩
 pe:=λi H x H' h _ y=>⟨y.1,y.2 xs h⟩
 stop:=λH h=>⟨xs,h,cw _⟩
def yR(lo:Int)(n:Nat):List V:=(List.range n).map λi=>.int (lo+(i:Nat))
def Fy(lo:Int)(n:Nat):iQ (N3 lo n) (yR lo n) (λ_=>True) where
 go:=λi H _ h=>by simpa[yR,N3] using h
 pe:=λi H x H' _ hi h=>by
  have hi:i<n:=by simpa[yR] using hi
  obtain⟨rfl,rfl⟩:=h;refine⟨rfl,?_⟩;simp[yR,hi]
 stop:=λH _=>by simp[yR,N3]
mutual
inductive Rep(K:aC)(H:Hp):eh->V->Prop
 |none:Rep K H .none .non
 |bool (b:Bool):Rep K H (.bool b) (.bl b)
 |int (i:Int):Rep K H (.int i) (.int i)
 |str (x:Str):Rep K H (.str x) (.str x)
 |list {a:ah} {vs:List V} {ds:List eh}:fw K H a vs->b4 K H ds vs->Rep K H (.list ds) (.ref a)
 |tuple {a:ah} {vs:List V} {ds:List eh}:kU K H a vs->b4 K H ds vs->Rep K H (.tuple ds) (.ref a)
inductive b4(K:aC)(H:Hp):List eh->List V->Prop
 |nil:b4 K H [] []
 |cons {d:eh} {v:V} {ds:List eh} {vs:List V}:Rep K H d v->b4 K H ds vs->b4 K H (d :: ds) (v :: vs)
end
section
variable {X:Cx}{pins:List (ah × Obj)}{σ:St}{H:Hp}{s:ax}
mutual
theorem Rep.reads(I:Inv X pins σ H s):∀ {d:eh} {v:V} {u:ae},Rep X.K H d v->RelV v u->∃ as,Reads s.heap u d as
 |_,_,_,.none,r=>by cases (r);exact⟨_,.none⟩
 |_,_,_,.bool b,r=>by cases (r);exact⟨_,.bool b⟩
 |_,_,_,.int i,r=>by obtain⟨t,e⟩:=r;subst e;exact⟨_,.int i t⟩
 |_,_,_,.str x,r=>by obtain⟨t,e⟩:=r;subst e;exact⟨_,.str x t⟩
 |_,_,_,.list h hs,r=>by cases r;obtain⟨its,rv,pl,_⟩:=I.list h;obtain⟨o,e,c,n,d⟩:=pl.isList;obtain⟨as,q⟩:=b4.reads I hs rv;exact⟨_,.list e c d q⟩
 |_,_,_,.tuple h hs,r=>by cases r;obtain⟨its,rv,⟨o,e,c,n,d⟩,_⟩:=I.tuple h;obtain⟨as,q⟩:=b4.reads I hs rv;exact⟨_,.tuple e c d q⟩
theorem b4.reads(I:Inv X pins σ H s):∀ {ds:List eh} {vs:List V} {us:List ae},b4 X.K H ds vs->Vals vs us->∃ as,ReadsAll s.heap us ds as
 |_,_,_,.nil,.nil=>⟨_,.nil⟩
 |_,_,_,.cons h hs,.cons r rs=>by obtain⟨as,q⟩:=Rep.reads I h r;obtain⟨bs,q'⟩:=b4.reads I hs rs;exact⟨_,.cons q q'⟩
end
def VS(K:aC):R2:=λx y H Q=>∃ d e,Rep K H d x/\Rep K H e y/\d.canLay0=true/\e.canLay0=true/\d.depth<=60/\Q (.bl (PyData.eqv d e)) H
def VW(K:aC):R2:=λx y H Q=>∃ d e,Rep K H d x/\Rep K H e y/\d.canLay0=true/\e.canLay0=true/\d.depth<=60/\Q (.bl (!PyData.eqv d e)) H
def IW(hu:X.A.units+64<eR):eS X (iq .Eq) (VS X.K):=by intro pins s σ H x y v u Q I rx ry h;obtain⟨d,e,h1,h2,h3,h4,h5,q⟩:=h;obtain⟨as,r1⟩:=h1.reads I rx;obtain⟨bs,r2⟩:=h2.reads I ry;exact PySem.SeqAt.rcAt_reads r1 r2 h3 h4 (by lia) X.prog X.w X.xe _ ⟨.bl _,H,I,rfl,q⟩
def HH(hu:X.A.units+64<eR):eS X (iq .NotEq) (VW X.K):=by intro pins s σ H x y v u Q I rx ry h;obtain⟨d,e,h1,h2,h3,h4,h5,q⟩:=h;obtain⟨as,r1⟩:=h1.reads I rx;obtain⟨bs,r2⟩:=h2.reads I ry;exact PySem.SeqAt.rcNeAt_reads r1 r2 h3 h4 (by lia) X.prog X.w X.xe _ ⟨.bl _,H,I,rfl,q⟩
def S6(K:aC):R2:=λx y H Q=>match x,y with
 |.int i,.int j=>Q (.bl (decide (i=j))) H
 |.str i,.str j=>Q (.bl (decide (i=j))) H
 |.bl i,.bl j=>Q (.bl (decide (i=j))) H
 |_,_=>VS K x y H Q
def Ig(hu:X.A.units+64<eR):eS X (iq .Eq) (S6 X.K):=(eG'.or (IW hu)).imp λx y H Q h=>by
 unfold S6 at h;split at h
 ·refine .inl ⟨rfl,?_⟩;simpa using h
 ·refine .inl ⟨rfl,?_⟩;simpa using h
 ·refine .inl ⟨rfl,?_⟩;simpa using h
 ·exact .inr h
def S7(K:aC):R2:=λx y H Q=>match x,y with
 |.int i,.int j=>Q (.bl (!decide (i=j))) H
 |.str i,.str j=>Q (.bl (!decide (i=j))) H
 |.bl i,.bl j=>Q (.bl (!decide (i=j))) H
 |_,_=>VW K x y H Q
def HX(hu:X.A.units+64<eR):eS X (iq .NotEq) (S7 X.K):=(eH'.or (HH hu)).imp λx y H Q h=>by
 unfold S7 at h;split at h
 ·refine .inl ⟨rfl,?_⟩;simpa using h
 ·refine .inl ⟨rfl,?_⟩;simpa using h
 ·refine .inl ⟨rfl,?_⟩;simpa using h
 ·exact .inr h
def S8(K:aC):List V->Hp->VK->Prop:=λxs H Q=>match xs with
 |[.ref a]=>∃ bs:List Bool,fw K H a (bs.map V.bl)/\Q (.bl (bs.all id)) H
 |_=>False
def xn (hc:X.calm=true):lT X (.builtin "all") (S8 X.K):=by
 walk_at"n";unfold S8 at h;split at h
 ·rename_i a;obtain⟨bs,e,q⟩:=h;obtain⟨u,rfl,ru⟩:=Vals.one r;cases ru;obtain⟨its,rv,pl,hz⟩:=I.list e;have hl:s.heap.IsList a its.toArray:=pl.isList;obtain⟨o,ho,Sb,n,KP⟩:=id hl;have hlen:=rv.length;rw[b9] at hlen;refine call_all_walk (wpAny_pyIter_list hl ?_);have gL:a≠s.heap.objs.size:=gp (e9 ho);have AB:X.A.in1.handled=none:=I.ok.hd hc;refine⟨s.heap.objs.size,_,_,_,_,_,λi=>bs.getD i true,rfl,Walks.list AB s.heap.objs.size a gL its.toArray,⟨⟨_,kB _ rfl,rfl,rfl⟩,⟨_,gi _ ho,Sb,n,KP⟩⟩,?_,λh' tk hk=>?_⟩
  ·intro i v s' Q' E' hv hq;have oD:its[i]? = some v:=by simpa using hv
   have hi:i<bs.length:=by have:=(iN.mp oD).1;lia
   obtain⟨w',e1,r1⟩:=rv.get (i:=i) (x:=V.bl bs[i]) (by simp[hi]);rw[oD] at e1;cases e1;cases (r1);have e2:bs.getD i true=bs[i]:=by simp[List.getD,hi]
   have hq:Q' (bs.getD i true) s':=hq;rw[e2] at hq;exact MQ hq
  ·have e3:((List.range its.toArray.size).all λi=>bs.getD i true)=bs.all id:=by
    rw[iO,<- hlen];apply sT.mpr;simp only[Nc,ox,id];constructor
    ·intro h b hb;obtain⟨i,hi,rfl⟩:=Ru.mp hb;have:=h i hi;simpa[List.getD,hi] using this
    ·intro h i hi;have:=h bs[i] (wo hi);simpa[List.getD,hi] using this
   rw[e3];exact⟨.bl (bs.all id),H,I.kept λb o e=>hk b o (by simp;exact gp (e9 e)) (gi _ e),rfl,q⟩
 ·exact h.elim
end
end L2
namespace L2
section
variable {X:Cx}{pins:List (ah × Obj)}{σ:St}{H:Hp}{s:ax}{h':dy}
def Inv.J7{t':Nat}{fp:List ah}(I:Inv X pins σ H s)(hf:∀ b∈fp,x6 X pins H b)(k:∀ b o,b∉fp->s.heap.get? b=some o->h'.get? b=some o):Inv X pins σ H { s with heap:=h',toks:=t' }:=by
 have FG:∀ b u,H b=some u->b∉fp:=λb u e z=>by rw[(hf b z).1] at e;cases e
 refine I.step (λb hb=>?_) (λb o _ _ hc e _=>k b o hc e) (λb o _ _ hc e _=>⟨o.slots,k b o hc e⟩) (λ_ _ _ _ n=>n) (λb o hc e=>⟨o,k b o hc e⟩) (λ_ _ e=>e) (λ_ _ _ e=>e) (λb ps e=>⟨#[],by rw[e];simp⟩) (λm hm=>?_) (λb u e=>?_) I.bare
 ·obtain⟨f0,f1,f2,f3,f4,f5⟩:=hf b hb;exact⟨f3,f1,f4,f5⟩
 ·obtain⟨o,es,ep,ho,r⟩:=hm;exact⟨o,es,ep,k _ o (λz=>(hf _ z).2.1 rfl) ho,r⟩
 ·refine(I.b5 b u e).ft (λc v hc q=>k c v ?_ q) (λ_ q=>q) λ_ _ q=>q;rcases hc with z|z
  ·rw[z];exact FG b u e
  ·exact FG c _ z
def Inv.hD'{t':Nat}{fp:List ah}{p:ah}{xs:List V}(I:Inv X pins σ H s)(hf:∀ b∈fp,x6 X pins H b)(k:∀ b o,b∉fp->s.heap.get? b=some o->h'.get? b=some o)(hp:s.heap.objs.size<=p)(new:kH X.prog X.w (upd H p (.tup xs)) h' p (.tup xs)):Inv X pins σ (upd H p (.tup xs)) { s with heap:=h',toks:=t' }:=by
 have hn:=I.b5.fresh hp;have FG:∀ b u,H b=some u->b∉fp:=λb u e z=>by rw[(hf b z).1] at e;cases e
 have lt:∀ b o,s.heap.get? b=some o->b≠p:=λb o e=>gp (oz (e9 e) hp);refine I.step (λb hb=>?_) (λb o _ _ hc e _=>k b o hc e) (λb o _ _ hc e _=>⟨o.slots,k b o hc e⟩) (λb o _ e n=>by rw[fq (lt b o e)];exact n) (λb o hc e=>⟨o,k b o hc e⟩) (λ_ _ e=>by rw[fq (wt e hn)];exact e) (λ_ _ _ e=>by rw[fq (wt e hn)];exact e) (λb ps e=>⟨#[],by rw[fq (wt e hn),e];simp⟩) (λm hm=>?_) (λb u e=>?_) I.bare
 ·obtain⟨f0,f1,f2,f3,f4,f5⟩:=hf b hb;exact⟨f3,f1,f4,f5⟩
 ·obtain⟨o,es,ep,ho,r⟩:=hm;exact⟨o,es,ep,k _ o (λz=>(hf _ z).2.1 rfl) ho,r⟩
 ·by_cases hb:b=p
  ·subst hb;rw[hG] at e;cases e;exact new
  ·rw[fq hb] at e;refine(I.b5 b u e).ft (λc v hc q=>k c v ?_ q) (λc q=>by rw[fq (wt q hn)];exact q) λc xs q=>by rw[fq (wt q hn)];exact q
   rcases hc with z|z
   ·rw[z];exact FG b u e
   ·exact FG c _ z
end
def VX(K:aC)(a:ah):It :=
 ⟨λi H=>∃ xs x,fw K H a xs/\xs[i]? = some x,λi H x H'=>∃ p v,x=.ref p/\H p=none/\H'=upd H p (.tup [.int i,v])/\∀ xs,fw K H a xs->xs[i]? = some v,λi H=>∃ xs,fw K H a xs/\xs.length<=i⟩
def BZ:(2:Nat)<=bq:=by rw[iL];decide
def wA{P:d5}{w:eJ}{K:aC}{elts:List Expr}{k:Nat}{pos:Pos}(a e it:ah)(hei:e≠it):Turn P w K (.Tuple elts k pos) (VX K a) [e,it] e (λi h=>(∃ old,IsEnum h e it i old)/\h.IsListIter it a i) where
 mem:=by simp
 obj:=λi h ⟨⟨old,he⟩,st⟩ b hb=>by
  rcases eK.mp hb with rfl|hb
  ·exact⟨_,he,λv z=>nomatch z⟩
  ·have e:b=it:=by simpa using hb
   subst e;obtain⟨o,e,c,d⟩:=st;exact⟨o,e,λv z=>by rw[d] at z;cases z⟩
 keep:=λi h h' ⟨⟨old,he⟩,st⟩ k=>⟨⟨old,k e (by simp) _ he⟩,st.at λo e=>k it (by simp) o e⟩
 item:=by
  intro X hP hw hK hc i pins s σ H E I hf st hg;subst hP hw hK;obtain⟨xs,x,hq,hx⟩:=hg;obtain⟨its,rv,p,hz⟩:=I.list hq;obtain⟨u,hu,ru⟩:=rv.get hx;obtain⟨⟨old,he⟩,hit⟩:=st;refine wpAny_pyNext_enum_item he hit p.isList (x:=u) (by simpa using hu) hei λh1 ho hE' hT f7 hk=>⟨_,rfl,?_⟩
  refine wpAny_letOwnedTupleGo_enum (s:={ s with heap:=h1,toks:=s.toks+1 }) ho λh2 P_ kc=>?_;have ke:∀ b o,b∉[e,it]->s.heap.get? b=some o->h2.get? b=some o:=λb o hb q=>(kc.2 b λz=>hb (by simp[z])).trans (hk b o (λz=>hb (by simp[z])) (λz=>hb (by simp[z])) q);have fi:e<s.heap.objs.size:=e9 he;have hT2:h2.get? s.heap.objs.size=some { cls:=.type "tuple",data:=.seq #[.int i s.toks,u] }:=(kc.2 _ (ND fi)).trans hT;have I1:Inv X pins σ (upd H s.heap.objs.size (.tup [.int i,x])) { s with heap:=h2,toks:=s.toks+1 } :=
   I.hD' hf ke (cw _) ⟨BZ,[.int i s.toks,u],.cons ⟨s.toks,rfl⟩ (.cons ru .nil),_,hT2,rfl,_,rfl⟩
  refine⟨.ref s.heap.objs.size,_,I1,rfl,⟨_,x,rfl,I.fresh,rfl,λys hy=>by rw[I.ZX hy hq];exact hx⟩,⟨⟨u,by simpa using P_⟩,hE'.at λo q=>(kc.2 it hei.symm).trans q⟩,λb hb=>?_⟩;rw[fq]
  ·exact(hf b hb).1
  ·rcases eK.mp hb with rfl|hb
   ·exact gp fi
   ·have e:b=it:=by simpa using hb
    subst e;obtain⟨o,q,_⟩:=hit;exact gp (e9 q)
 done:=by intro X hP hw hK hc i pins s σ H E I hf st hg;subst hP hw hK;obtain⟨xs,hq,hx⟩:=hg;obtain⟨its,rv,p,hz⟩:=I.list hq;obtain⟨⟨old,he⟩,hit⟩:=st;have hl:=rv.length;exact wpAny_pyNext_enum_end (I.ok.hd hc) he hit p.isList (by simp;lia) λh' eb=>⟨rfl,I.J7 (t':=s.toks) hf λb o hb q=>eb b o (λz=>hb (by simp[z])) q⟩
 self:=λ_ _ _ _ _ ⟨⟨old,he⟩,_⟩ h=>wpAny_pyIter_enum he h
def Ie(h:b∈[n+1,n]):n<=b:=by simp at h;lia
section
variable {X:Cx}
def Ju(K:aC)(ta:TA):TI:=λσ H R=>ta σ H λvs H1=>∃ a,vs=[.ref a]/\(∃ xs,fw K H1 a xs)/\R (VX K a) H1
def FZ (hg:Gl X "enumerate") (hm:X.mg "enumerate" = none) (ha:PA X [a] ta) (hs:autoParam (b6 [a] X.env=[(false,df a X.env)]) bv) :
  PI X (.Tuple elts k tp) (.Call (.Name "enumerate" p) [a] [] pos) (Ju X.K ta):=by
 intro pins s σ H R I h;refine Call_ (x5 I hg hm boot_enumerate (PyProof.Rows.callWith_type1 (dk (ha pos pins s σ H _ I h) λus s1 dv=>L2.g9 dv λvs H1 I1 r1 q1=>?_) hs rfl));obtain⟨l,e,⟨xs,hq⟩,q⟩:=q1;subst e
 cases r1 with
 |cons r rr =>cases rr;cases r;obtain⟨its,rv,pl,hz⟩:=I1.list hq;refine call_enumerate_list pl.isList λh2 he hit f7 hk=>?_;refine wpAny_pyIter_enum he ?_;refine⟨s1.heap.objs.size+1,[s1.heap.objs.size+1,s1.heap.objs.size],_,_,H1,rfl,I1.kept hk,wA l _ _ (Nat.succ_ne_self _),⟨⟨_,he⟩,hit⟩,λb hb=>?_,q⟩;have e:s1.heap.objs.size<=b:=Ie hb;exact I1.N0 e (I1.b5.fresh e)
end
def S9(sc:Scope)(names:List (Str × AY)):List (Str × AY):=names.map λy=>if (y.2 == NameKind.free && sc.kind == .function && sc.names.lookup y.1 == some .cell)=true then (y.1,NameKind.cell) else (y.1,y.2)
def Qa(o:Option AY):Bool:=o == some .cell || o == some .free
def Fw(sc scope:Scope)(N cn:List Str)(ix:List Nat):Bool :=
 scope.kind == .function && scope.names.all (λy=>y.2 != .cell) && scope.names.all (λy=>y.2 != .free || Qa (sc.names.lookup y.1)) && scope.names.all (λy=>y.2 != .local || scope.names.lookup y.1 == some .local) &&
 ix.length == cn.length && (List.range ix.length).all (λk=>match ix[k]?,cn[k]? with
  |some j,some y=>N[j]? == some y && Qa (sc.names.lookup y) && scope.names.contains (y,NameKind.free) && Qa ((S9 sc scope.names).lookup y)
  |_,_=>false) &&
 (S9 sc scope.names).all (λy=>!(y.2 == .cell || y.2 == .free) || scope.names.contains (y.1,NameKind.free))
def rD(h:Qa o=true):o=some .cell\/o=some .free:=by unfold Qa at h;simpa using h
def dU.of{X:Cx}(qV:X.env.scope=sc)(hN:X.N=N)(h:Fw sc scope N cn ix=true):dU X scope tn cn ix:=by
 unfold Fw at h;simp only[mw] at h;obtain⟨⟨⟨⟨⟨⟨h1,h2⟩,h3⟩,h4⟩,h5⟩,h6⟩,h7⟩:=h;rw[Nc] at h2 h3 h4 h6 h7;have erl:(relabel scope X.env).names=S9 sc scope.names:=by rw[<- qV];rfl
 refine⟨by simpa using h1,λy hy=>by simpa using h2 y hy,λy hy hk=>?_,λy hy hk=>?_,by simpa using h5,λk j hk=>?_,λx hx=>?_⟩
 ·have:=h3 y hy;rw[hk] at this;rw[qV];exact rD (by simpa using this)
 ·have:=h4 y hy;rw[hk] at this;simpa using this
 ·have h9:k<ix.length:=(iN.mp hk).1;have:=h6 k (ox.mpr h9);rw[hk] at this
  cases e:cn[k]? with
  |none=>rw[e] at this;cases this
  |some y =>rw[e] at this;simp only[mw] at this;obtain⟨⟨⟨a1,a2⟩,a3⟩,a4⟩:=this;refine⟨y,rfl,by rw[hN];simpa using a1,by rw[qV];exact rD a2,by simpa using a3,by rw[erl];exact rD a4⟩
 ·rw[erl] at hx;have mem:∃ k,(x,k)∈S9 sc scope.names/\(k=.cell\/k=.free):=by
   rcases hx with hx|hx
   ·exact⟨_,PySem.mem_of_lookup hx,.inl rfl⟩
   ·exact⟨_,PySem.mem_of_lookup hx,.inr rfl⟩
  obtain⟨k,hm,hk⟩:=mem;have:=h7 _ hm;rcases hk with rfl|rfl<;>simpa using this
def dU.by{X:Cx}(c:X.env.scope=sc/\X.N=N)(h:Fw sc scope N cn ix=true):dU X scope tn cn ix:=.of c.1 c.2 h
structure S_(P:d5)(w:eJ)(K:aC)(mg:Str->Option ae)(base:dy)(k:Nat)(x:Str)(ps:List Str)(sp:Sp):Prop where
 ex:∃ (g:ah) (fd:FuncData),mg x=some (.ref g)/\IA K (.ref g)=true/\Binds K fd ps []/\Au P w K mg base w9 k g fd ps sp
section
variable {X:Cx}{k:Nat}{x:Str}{ps:List Str}{sp:Sp}{p pos:Pos}{e:Expr}{es:List Expr}{t:TA}
def IV (C:S_ X.prog X.w X.K X.mg X.base k x ps sp) (hr:ny k X.A) (ha:PA X (e :: es) t) (hg:autoParam (Gl X x) bv) (tj:(x == ("__debug__" : Str))=false:=by decide) (he:autoParam (b6 (e :: es) X.env=(false,df e X.env) :: b6 es X.env) bv) (kX:autoParam ((kQ pos (b6 es X.env)).any (·.1)=false) bv):PE X (.Call (.Name x p) (e :: es) [] pos) (Vp sp [] E0 t):=by
 obtain⟨g,fd,hm,hk,hb,F⟩:=C.ex;exact fe' F hr hg hm hk hb .nil gI' ha tj he kX
end
def Dx.cal{P:d5}{K:aC}{st:Stmt}{ps:List Str}(F:Dx K x qual st f fd)(hm:mg x=some (.ref f))(G:Au P w K mg base w9 k f fd ps sp)(h:∀ (kV doc pm:ae) (an:Option ah) (gv ct:ae) (us:List ae),us.length=ps.length->bindArgs (zt x qual (Dp st) (yn st) (mB st) .none kV doc pm an gv ct) ⟨us,[]⟩=pure (ps.zip us)):S_ P w K mg base k x ps sp :=
 ⟨f,fd,hm,F.kp,F.binds h,G⟩
def Ta(mg:Str->Option ae)(x:Str)(z:Str):Prop:=∃ t,mg x=some (.str z t)
def Og(mg:Str->Option ae)(x:Str)(i:Int):Prop:=∃ t,mg x=some (.int i t)
def JG {X:Cx} (h:Ta X.mg x z) (hg:autoParam (Gl X x) bv) (hd:(x == ("__debug__" : Str))=false:=by decide):PE X (.Name x pos) (tC (.str z)):=by obtain⟨t,e⟩:=h;exact ZW hg e ⟨t,rfl⟩ hd
def Km {X:Cx} (h:Og X.mg x i) (hg:autoParam (Gl X x) bv) (hd:(x == ("__debug__" : Str))=false:=by decide):PE X (.Name x pos) (tC (.int i)):=by obtain⟨t,e⟩:=h;exact ZW hg e ⟨t,rfl⟩ hd
def Ih:ll "str" = some (.type "str"):=by decide +kernel
def jX:ll "list" = some (.type "list"):=by decide +kernel
def mR:ll "isinstance" = some (.builtin "isinstance"):=by decide +kernel
def Im:ll "all" = some (.builtin "all"):=by decide +kernel
def fL:ll "len" = some (.builtin "len"):=by decide +kernel
def Jz {X:Cx} {T:String} (hm:X.mg x=none) (hv:ll x=some (.type T)) (hg:autoParam (Gl X x) bv) (hn:x ≠ "__name__" := by decide) (hd:(x == ("__debug__" : Str))=false:=by decide):PE X (.Name x pos) (tC (.ty T)) :=
 dD' hg hm hv rfl hn hd
def DE(i j:Str):Bool:=!(Builtin.Str.occurrences j i 0 j.length 1).isEmpty
def Dw(c:Nat)(j:Str):DE ⟨#[c]⟩ j=decide (c∈j.cps.toList):=PySem.StrLaws.found_one j c
def KW(K:aC)(neg:Bool):R2:=λx y H Q=>match x,y with
 |.str i,.str j=>Q (.bl (if neg then !DE i j else DE i j)) H
 |_,.ref p=>(∃ o,k9 H p x o/\Q (.bl (if neg then !o.isSome else o.isSome)) H)\/PY K neg x y H Q
 |_,_=>False
def Hk{X:Cx}(hu:X.A.units+64<eR):eS X (iq .In) (KW X.K false):=by
 walk_at"b";unfold KW at h;split at h
 ·exact eM' pins s σ H _ _ v u Q I rx ry ⟨_,_,rfl,rfl,h⟩
 ·rcases h with⟨o,g,q⟩|h
  ·cases ry;exact gf' (by lia) I g rx λs3 I3=>⟨.bl o.isSome,H,I3,rfl,q⟩
  ·exact fM' pins s σ H _ _ v u Q I rx ry h
 ·exact h.elim
def wG{X:Cx}(hu:X.A.units+64<eR):eS X (iq .NotIn) (KW X.K true):=by
 walk_at"b";unfold KW at h;split at h
 ·exact eN' pins s σ H _ _ v u Q I rx ry ⟨_,_,rfl,rfl,h⟩
 ·rcases h with⟨o,g,q⟩|h
  ·cases ry;exact gg' (by lia) I g rx λs3 I3=>⟨.bl (!o.isSome),H,I3,rfl,q⟩
  ·exact fN' pins s σ H _ _ v u Q I rx ry h
 ·exact h.elim
def bS.upd(h:bS H H')(hp:H' p=none):bS H (upd H' p o):=λb u e=>by have e':=h b u e;rw[fq (wt e' hp)];exact e'
def bS.lst{K:aC}(e:bS H H')(h:fw K H a xs):fw K H' a xs:=e.seq h
def bS.tup{K:aC}(e:bS H H')(h:kU K H a xs):kU K H' a xs:=by
 rcases h with(h|⟨o,h⟩)|h
 ·exact .inl (.inl (e _ _ h))
 ·exact .inl (.inr ⟨o,e _ _ h⟩)
 ·exact .inr h
mutual
theorem Rep.same{K:aC}(s:bS H H'):∀ {d:eh} {v:V},Rep K H d v->Rep K H' d v
 |_,_,.none=>.none
 |_,_,.bool b=>.bool b
 |_,_,.int i=>.int i
 |_,_,.str x=>.str x
 |_,_,.list h hs=>.list (s.lst h) (b4.same s hs)
 |_,_,.tuple h hs=>.tuple (s.tup h) (b4.same s hs)
theorem b4.same{K:aC}(s:bS H H'):∀ {ds:List eh} {vs:List V},b4 K H ds vs->b4 K H' ds vs
 |_,_,.nil=>.nil
 |_,_,.cons h hs=>.cons (Rep.same s h) (b4.same s hs)
end
section
variable {X:Cx}{K:aC}
def kIx(hK:autoParam (X.K=K) bv):ya X (S4 K):=by subst hK;exact BK
def GN(hK:autoParam (X.K=K) bv)(hu:X.A.units+64<eR:=by assumption):eS X (iq .Eq) (S6 K):=by subst hK;exact Ig hu
def BD(hK:autoParam (X.K=K) bv)(hu:X.A.units+64<eR:=by assumption):eS X (iq .NotEq) (S7 K):=by subst hK;exact HX hu
def mz(hK:autoParam (X.K=K) bv)(hu:X.A.units+64<eR:=by assumption):eS X (iq .In) (KW K false):=by subst hK;exact Hk hu
def wJ(hK:autoParam (X.K=K) bv)(hu:X.A.units+64<eR:=by assumption):eS X (iq .NotIn) (KW K true):=by subst hK;exact wG hu
def hI' (hc:autoParam (X.calm=true) bv) (hK:autoParam (X.K=K) bv):lT X (.builtin "all") (S8 K):=by subst hK;exact xn hc
end
def NZ{α:Type}{a:α}{p:α->Prop}:(∃ v,a=v/\p v)↔p a:=⟨λ⟨_,e,h⟩=>e ▸ h,λh=>⟨a,rfl,h⟩⟩
abbrev VY:=Array DictEntry
def w_(h:dy)(d:ah)(es:VY)(ep:Nat):Prop:=∃ o,h.get? d=some o/\o.ExactDict/\o.data=.dict es ep
def w_.typ {s:ax} {d:ah} {es:VY} {ep:Nat} (x:w_ s.heap d es ep):s.TypeIs (.ref d) "dict" := let ⟨o,e,c,_⟩:=x;⟨o,e,c.1⟩
section
variable {prog:d5}{w:eJ}{A:fh}{E:ae->ax->Prop}{s:ax}{d it:ah}{es:VY}{ep i:Nat}
def Ao{Q:ae->ax->Prop}(lo:(d == qA)=false)(x:w_ s.heap d es ep)(q:Q (.ref s.heap.objs.size) { s with heap:=s.heap.push { cls:=.type "dict_keyiterator",data:=.fields #[.ref d,.int 0 0,.int es.size 0,.int ep 0] } }):bP (aS prog w) A (pyIter (.ref d)) Q E s:=by
 obtain⟨o,ho,hc,Tb⟩:=id x;refine wpAny_pyIter_slot x.typ F.slot_dict_iter (B7 F.slot_dict_iter x.typ F.entry_dict_iter ?_ (F.args_dict_iter_1 _));refine aw ?_;refine aw (wpAny_notOrdered_dict x.typ ?_);refine(bG ?_);refine(show bP _ _ (Builtin.Dict.showsAll d >>= _) _ _ s from ?_);unfold Builtin.Dict.showsAll;rw[if_neg (by rw[lo];decide)];refine aw (bG (aw (O8 ho Tb (aw (wpAny_dictEpoch ho Tb (aw (sL (bG ⟨_,rfl, "dict_keyiterator",_,⟨_,kB _ rfl,rfl⟩,F.slot_dict_keyiterator_next.lookup,?_⟩))))))));simpa[mS] using q
def Af(hit:s.heap.IsKeyIter it d i es.size ep)(x:w_ s.heap d es ep)(hx:i<es.size)(q:∀ h',h'.IsKeyIter it d (i+1) es.size ep->Heap.SameBut it s.heap h'->Q (some es[i].key) { s with heap:=h' }):bP (aS prog w) A (pyNext (.ref it)) Q E s:=by
 obtain⟨o,ho,hc,hd⟩:=id hit;obtain⟨od,KP,uS,Qb⟩:=id x;have ty:=hit.typeIs;walk_at"t";refine aw (bG (aw (aw ?_)));first|refine aw (Rn ty (bG ?_))|refine aw (Ro ty (bG ?_))
 refine aw (wpAny_fieldsOf ho hd ?_);refine(show bP _ _ (if (Value.ref d == Value.none)=true then _ else _) _ _ s from ?_);refine aw (bG (aw (O8 KP Qb ?_)));rw[if_neg (by intro h;simp at h)];refine aw (bG (aw (wpAny_dictEpoch KP Qb ?_)));rw[if_neg (by intro h;simp at h)];refine bG ?_;simp only[show ¬ (i<0) by lia,if_false,Pp,CB hx];refine aw ?_;first|refine aw (Rn ty (bG ?_))|refine aw (Ro ty (bG ?_))
 refine aw (wpAny_isOneOf_keyiter ty ?_);refine(show bP _ _ (setField (.ref it) 1 (mS (i+1)) >>= _) _ _ s from aw (wpAny_setField ho hd (by simp) ?_));have aY':(s.heap.update it (Obj.mapFields (·.setIfInBounds 1 (mS (i+1))))).IsKeyIter it d (i+1) es.size ep :=
  ⟨_,Fs _ ho (Obj.isFreed_of_fields (Obj.data_mapFields hd _)),(Obj.cls_mapFields ..).trans hc,by rw[Obj.data_mapFields hd];simp[mS]⟩
 refine aw (sM (aw (wpAny_isOneOf_keyiter aY'.typeIs ?_)));refine(bG (bG ⟨_,rfl,bG (q _ aY' (Heap.SameBut.update ..))⟩))
def Bd(hh:A.handled=none)(hit:s.heap.IsKeyIter it d es.size es.size ep)(x:w_ s.heap d es ep)(q:∀ h',Heap.ExtBut it s.heap h'->Q none { s with heap:=h' }) :
  bP (aS prog w) A (pyNext (.ref it)) Q E s:=by
 obtain⟨o,ho,hc,hd⟩:=id hit;obtain⟨od,KP,uS,Qb⟩:=id x;have ty:=hit.typeIs;walk_at"t";refine aw (bG (aw (aw ?_)));first|refine aw (Rn ty (bG ?_))|refine aw (Ro ty (bG ?_))
 refine aw (wpAny_fieldsOf ho hd ?_);refine(show bP _ _ (if (Value.ref d == Value.none)=true then _ else _) _ _ s from ?_);refine aw (bG (aw (O8 KP Qb ?_)));rw[if_neg (by intro h;simp at h)];refine aw (bG (aw (wpAny_dictEpoch KP Qb ?_)));rw[if_neg (by intro h;simp at h)];refine bG ?_;simp only[show ¬ (es.size<0) by lia,if_false,Pp,NM (cw es.size)];refine aw ?_;first|refine aw (Rn ty (bG ?_))|refine aw (Ro ty (bG ?_))
 refine(show bP _ _ (setField (.ref it) 0 .none >>= _) _ _ s from aw (wpAny_setField ho hd (by simp) ?_));refine(aw ?_);refine aw (sL ?_ (by size_fits));refine aw (wpAny_of_eq (by first|rfl|(simp only[firstArgMember];rfl)) (sL ?_ (by size_fits)));refine aw (wpAny_handled ?_);rw[show A.in1.handled=none from hh];refine aw (bG (wpAny_throw ?_));refine aw (wpAny_isInstance ⟨_,kB _ rfl,rfl⟩ isSubtype_stop ?_);exact bG (q _ (((Heap.SameBut.update ..).extBut.push _).push _))
def w_.at(x:w_ h d es ep)(e:∀ o,h.get? d=some o->h'.get? d=some o):w_ h' d es ep:=let ⟨o,ho,r⟩:=x;⟨o,e o ho,r⟩
def w_.lt(x:w_ h d es ep):d<h.objs.size:=let ⟨_,e,_⟩:=x;e9 e
def w6(hh:A.handled=none)(I:ah)(gL:d≠I):Walks prog w A I [I,d] [I] es.size (λi v=>∃ e,es[i]? = some e/\v=e.key) (λi h=>h.IsKeyIter I d i es.size ep/\w_ h d es ep) where
 sub:=λb hb=>by simp at hb;simp[hb]
 frame:=λ_ _ _ st hk=>⟨st.1.at λo e=>hk I (by simp) o e,st.2.at λo e=>hk d (by simp) o e⟩
 item:=λi s Q E hi st hQ=>Af st.1 st.2 hi λh' a b=>hQ _ h' s.toks ⟨es[i],by simp[hi],rfl⟩ ⟨a,st.2.at λo e=>b.extBut d o gL e⟩ λc o hb e=>b.extBut c o (λh=>hb (by simp[h])) e
 done:=λs Q E st hQ=>Bd hh st.1 st.2 λh' Tc=>hQ h' s.toks λb o hb e=>Tc b o (λh=>hb (by simp[h])) e
 self:=λ_ _ _ _ st hQ=>wpAny_pyIter_keyiter st.1 hQ
def Fv (lo:(d == qA)=false):PySem.W.KdlSrc prog w "dict" d d es.size (λi v=>∃ e,es[i]? = some e/\v=e.key) (λh=>w_ h d es ep) where
 type:=λ_ x=>x.typ
 there:=λ_ x=>⟨x.lt,x.lt⟩
 keep:=λ_ _ x hk=>x.at λo e=>hk d (.inl rfl) o e
 notList:=by decide
 notTuple:=by decide
 hint:=λ_ _ _ _ x hq=>PySem.W.kdl_hint_dict x.typ hq
 iter:=λ_ _ hh x=>⟨_,_,(λ_ _ hq=>Ao lo x hq),w6 hh _ (gp x.lt),⟨⟨_,kB _ rfl,rfl,rfl⟩,x.at λo e=>gi _ e⟩⟩
end
def Paired.n0{α β:Type}{R:α->β->Prop}{bs:List β}(h:Paired R [] bs):bs=[]:=by cases h;rfl
def Paired.c{α β:Type}{R:α->β->Prop}{a:α}{as:List α}{bs:List β}(h:Paired R (a :: as) bs):∃ b cs,bs=b :: cs/\R a b/\Paired R as cs:=by
 cases h with
 |cons r t=>exact⟨_,_,rfl,r,t⟩
def bB(H:Hp)(ys:List V)(ks:List (List Key)):Prop:=Paired (λ(v:V) (k:List Key)=>∃ b,v=.ref b/\H b=some (.tup (k.map kV))) ys ks
section
variable {X:Cx}
def sW:List V->Hp->VK->Prop:=λxs H Q=>match xs with
 |[.ref p]=>∃ kvs,Rd H p (.dT kvs)/\∀ ys l,bB H ys (kvs.map (·.1))->H l=none->Q (.ref l) (upd H l (.lst ys))
 |_=>False
def Du (h:Paired (λ(p:List Key × V) (q:List Key × ah × ae)=>p.1=q.1/\H q.2.1=some (.tup (p.1.map kV))/\RelV p.2 q.2.2) kvs xs) :
  bB H (xs.map λq=>.ref q.2.1) (kvs.map (·.1))/\Vals (xs.map λq=>.ref q.2.1) ((xs.map (entryOfKey (B9 (kC prog w)))).map (·.key)):=by
 induction h with
 |nil=>exact⟨.nil,.nil⟩
 |cons r t ih=>exact⟨.cons ⟨_,rfl,r.2.1⟩ ih.1,.cons rfl ih.2⟩
def vO (hc:X.calm=true):lT X (.type "list") sW:=by
 walk_at"n";unfold sW at h;split at h
 ·rename_i p;obtain⟨kvs,e,q⟩:=h;obtain⟨u,rfl,ru⟩:=Vals.one r;cases ru;obtain⟨z,y,ps,rel,o,es,ep,h1,h2,h3,h4,h5⟩:=(I.rd e)
  obtain⟨ta,va⟩:=Du rel;have hlen:es.size=kvs.length:=by have:=congrArg List.length h4;rw[A5,b9] at this;rw[this];exact rel.length.symm
  refine PySem.W.kdl_call (Fv y) (I.ok.hd hc) ⟨o,h1,h2,h3⟩ (by lia) λh' tk acc c kp eo GO=>?_;have hv:acc.toList=(ps.map (entryOfKey (B9 (kC X.prog X.w)))).map (·.key):=by
   apply D5;intro i;by_cases hi:i<es.size
   ·have k6:i<acc.size:=by rw[GO.1];exact hi
    obtain⟨en,e1,e2⟩:=GO.2 i acc[i] (by simp[k6]);rw[<- h4,nh,n4,n4,e1];simp[k6,e2]
   ·rw[<- h4,nh,n4,n4,NM (by rw[GO.1];lia),NM (by lia)];rfl
  refine⟨.ref s.heap.objs.size,_,I.laid kp (cw _) (show kH X.prog X.w _ h' _ (.lst (ps.map λq=>.ref q.2.1)) from⟨?_,acc.toList,c,?_,?_⟩),rfl,q _ _ ta (I.b5.fresh (cw _))⟩
  ·rw[b9,<- rel.length];exact z
  ·rw[hv];exact va
  ·rw[R0];exact eo
 ·exact h.elim
end
end L2
end
namespace vE
open PySem PyProof.Rows
def R(r:ae->Int)(xs:Array bX)(i:Nat):Int:=match xs[i]? with
 |some p=>r p.1
 |none=>0
def cJ(h:xs[i]? = ys[j]?):R r xs i=R r ys j:=by unfold R;rw[h]
def nI(prog:d5)(w:eJ)(A:fh)(s:ax)(κ:pV)(r:ae->Int)(P:ae->Prop):Prop :=
 ∀ x y,P x->P y->∀ (Q:Bool->ax->Prop) (E:ae->ax->Prop),Q (decide (r x<r y)) s->bP (aS prog w) A (keyLt' κ x y) Q E s
def AllP(P:ae->Prop)(xs:Array bX):Prop:=∀ p∈xs.toList,P p.1
def AllP.perm{P:ae->Prop}(h:AllP P xs)(hp:ys.Perm xs):AllP P ys:=λp hm=>h p ((UU.mp hp).mem_iff.mp hm)
def AllP.at{P:ae->Prop}{xs:Array bX}(h:AllP P xs){i:Nat}{p:bX}(e:xs[i]? = some p):P p.1:=h p (by
 obtain⟨hi,rfl⟩:=NJ.mp e;simp)
structure nK(lo hi:Nat)(st ai:eB):Prop where
 kind:fN ai=fN st
 failed:qS ai=qS st
 pend:lI ai=lI st
 perm:(bE ai).Perm (bE st)
 out:∀ k,k<lo\/hi<=k->(bE ai)[k]? = (bE st)[k]?
def nK.refl(lo hi:Nat)(st:eB):nK lo hi st st:=⟨rfl,rfl,rfl,Array.Perm.refl _,λ_ _=>rfl⟩
def nK.trans{lo hi:Nat}{a b c:eB}(h:nK lo hi a b)(g:nK lo hi b c):nK lo hi a c :=
 ⟨g.kind.trans h.kind,g.failed.trans h.failed,g.pend.trans h.pend,g.perm.trans h.perm,λk hk=>(g.out k hk).trans (h.out k hk)⟩
def nK.mono{lo hi K0 kK:Nat}{a b:eB}(h:nK lo hi a b)(h1:K0<=lo)(h2:hi<=kK):nK K0 kK a b :=
 ⟨h.kind,h.failed,h.pend,h.perm,λk hk=>h.out k (by lia)⟩
def nK.size{lo hi:Nat}{a b:eB}(h:nK lo hi a b):(bE b).size=(bE a).size:=h.perm.size_eq
def Up(r:ae->Int)(xs:Array bX)(lo hi:Nat):Prop:=∀ i j,lo<=i->i<=j->j<hi->R r xs i<=R r xs j
def Down(r:ae->Int)(xs:Array bX)(lo hi:Nat):Prop:=∀ i j,lo<=i->i<=j->j<hi->R r xs j<=R r xs i
def tX(hs:src<xs.size)(hd:d<=src)(k:Nat) :
  R r (bubble xs src d) k=if k=src-d then R r xs src else if src-d<k/\k<=src then R r xs (k-1) else R r xs k:=by
 have e:=getElem?_bubble hs d hd k;by_cases h1:k=src-d
 ·rw[if_pos h1] at e ⊢;exact cJ e
 ·rw[if_neg h1] at e ⊢;by_cases h2:src-d<k/\k<=src
  ·rw[if_pos h2] at e ⊢;exact cJ e
  ·rw[if_neg h2] at e ⊢;exact cJ e
def mQ(hj:j<=xs.size)(k:Nat) :
  R r (mirror xs i j ((j-i) / 2)) k=if i<=k/\k<j then R r xs (i+j-1-k) else R r xs k:=by
 have e:=getElem?_mirror_all (i:=i) hj k;by_cases h1:i<=k/\k<j
 ·rw[if_pos h1] at e ⊢;exact cJ e
 ·rw[if_neg h1] at e ⊢;exact cJ e
def bH(hj:j<=xs.size)(heq:∀ k,i<=k->k<j->R r xs k=R r xs (j-1))(k:Nat) :
  R r (mirror xs i j ((j-i) / 2)) k=R r xs k:=by
 rw[mQ hj];split
 ·rw[heq _ (by lia) (by lia),heq k (by lia) (by lia)]
 ·rfl
section
variable {prog:d5}{w:eJ}{A:fh}{E:ae->ax->Prop}{s:ax}{κ:pV}{r:ae->Int}{P:ae->Prop}
def p7{st:eB}{x y:bX}{Q:Option Bool->eB->Prop}(C:nI prog w A s κ r P)(hk:fN st=κ)(hx:P x.1)(hy:P y.1)(h:Q (some (decide (r x.1<r y.1))) st) :
  wpS (aS prog w) A E s (lt' x y) Q st:=by
 rw[lt'_eq];refine cf (wpS_get ?_);rw[hk];exact cf (wpS_lift (wpAny_attempt (C x.1 y.1 hx hy _ _ ⟨rfl,dc h⟩)))
def aF{xs:Array bX}{i:Nat}{Q:bX->eB->Prop}{st:eB}(hi:i<xs.size)(h:∀ p,xs[i]? = some p->Q p st):wpS (aS prog w) A E s (elem' xs i) Q st:=by rw[elem'_eq,getElem?_pos xs i hi];exact dc (h _ (getElem?_pos xs i hi))
def jw{st:eB}{i j:Nat}{Q:Option Bool->eB->Prop}(C:nI prog w A s κ r P)(hk:fN st=κ)(hP:AllP P (bE st))(hi:i<(bE st).size)(hj:j<(bE st).size)(h:Q (some (decide (R r (bE st) i<R r (bE st) j))) st):wpS (aS prog w) A E s (ltAt' i j) Q st:=by
 refine cf (wpS_get ?_);refine cf (aF hi λp ep=>cf (aF hj λq eq=>p7 C hk (hP.at ep) (hP.at eq) ?_));have e1:R r (bE st) i=r p.1:=by unfold R;rw[ep]
 have e2:R r (bE st) j=r q.1:=by unfold R;rw[eq]
 rw[<- e1,<- e2];exact h
def cV{st:eB}{i j:Nat}{Q:Unit->eB->Prop}(h:Q () (setArr st (mirror (bE st) i j ((j-i) / 2)))) :
  wpS (aS prog w) A E s (reverseSlice' i j) Q st:=by
 rw[reverseSlice'_eq];exact D8 h
def eX{st:eB}{i j:Nat}(hj:j<=(bE st).size):nK i j st (setArr st (mirror (bE st) i j ((j-i) / 2))) :=
 ⟨rfl,rfl,rfl,mirror_perm _ _ _ _,λk hk=>by
  have e:=getElem?_mirror_all (i:=i) hj k;rw[if_neg (by lia)] at e;exact e⟩
def vW{st:eB}{lo src d:Nat}(hs:src<(bE st).size)(hd:lo+d<=src):nK lo (src+1) st (setArr st (bubble (bE st) src d)) :=
 ⟨rfl,rfl,rfl,bubble_perm _ _ _,λk hk=>by
  have e:=getElem?_bubble hs d (by lia) k;rw[if_neg (by lia),if_neg (by lia)] at e;exact e⟩
def wpS_binarySort{st:eB}{lo n ok:Nat}{Q:Bool->eB->Prop}(C:nI prog w A s κ r P)(hk:fN st=κ)(hP:AllP P (bE st))(hn:lo+n<=(bE st).size)(b5:ok<=n)(hs:Up r (bE st) lo (lo+ok))(h:∀ ai,nK lo (lo+n) st ai->Up r (bE ai) lo (lo+n)->Q true ai):wpS (aS prog w) A E s (binarySort' lo n ok) Q st:=by
 refine cf (uj (qE (I:=λk c ai=>c=(none,())/\nK lo (lo+n) st ai/\Up r (bE ai) lo (lo+min k n)) (Q:=λc ai=>c=(none,())/\nK lo (lo+n) st ai/\Up r (bE ai) lo (lo+n)) ?step ?fin ?init) ?post)
 case post =>
  rintro c ai ⟨rfl,kD,gx⟩;exact dc (h ai kD gx)
 case init =>
  refine⟨rfl,.refl _ _ _,λi j hl kf hj=>?_⟩;by_cases h1:ok=0
  ·have:i=j:=by lia
   subst this;exact qc _
  ·exact hs i j hl kf (by lia)
 case fin =>
  rintro c ai ⟨hc,kD,gx⟩;refine⟨hc,kD,?_⟩;rwa[show min (max (max ok 1) n) n=n by lia] at gx
 case step =>
  rintro k c ai hak hkn ⟨rfl,kD,gx⟩;rw[show min k n=k by lia] at gx;have f7:=kD.size;have h9:fN ai=κ:=kD.kind.trans hk;have tF:=hP.perm kD.perm;refine cf (uj (qE (I:=λx c EJ=>EJ=ai/\∃ l r',c=(none,l,r')/\l<=r'/\r'<=k/\r'-l<=k-x /\ (∀ i,lo<=i->i<lo+l->R r (bE ai) i<=R r (bE ai) (lo+k))/\(∀ i,lo+r'<=i->i<lo+k->R r (bE ai) (lo+k)<R r (bE ai) i)) (Q:=λc EJ=>EJ=ai/\∃ l r',c=(none,l,r')/\l<=k /\ (∀ i,lo<=i->i<lo+l->R r (bE ai) i<=R r (bE ai) (lo+k))/\(∀ i,lo+l<=i->i<lo+k->R r (bE ai) (lo+k)<R r (bE ai) i)) ?hJ' ?hK' ?hL') ?hN')
  case hL'=>exact⟨rfl,0,k,rfl,by lia,by lia,by lia,λi _ hi=>by lia,λi h1 h2=>by lia⟩
  case hK' =>
   rintro c EJ ⟨rfl,l,r',rfl,hlr,BE,hm,GH,DF⟩;have:l=r':=by lia
   subst this;exact⟨rfl,l,l,rfl,BE,GH,DF⟩
  case hJ' =>
   rintro x c EJ _ hxk ⟨rfl,l,r',rfl,hlr,BE,hm,GH,DF⟩;dsimp only;by_cases rh:l >= r'
   ·rw[if_pos rh];have:l=r':=by lia
    subst this;exact dc ⟨rfl,l,l,rfl,BE,GH,DF⟩
   ·rw[if_neg rh];refine cf (jw C h9 tF (by lia) (by lia) ?_);by_cases yv:R r (bE EJ) (lo+k)<R r (bE EJ) (lo+(l+r') / 2)
    ·simp only[yv,decide_true,if_true];exact dc ⟨rfl,l,(l+r') / 2,rfl,by lia,by lia,by lia,GH,λi h1 h2=>ZD yv (gx _ _ (by lia) h1 h2)⟩
    ·simp only[yv,decide_false,sR,if_false];exact dc ⟨rfl,(l+r') / 2+1,r',rfl,by lia,by lia,by lia,λi h0 h1=>zI (gx i (lo+(l+r') / 2) h0 (by lia) (by lia)) (Int.not_lt.mp yv),DF⟩
  case hN' =>
   rintro c EJ ⟨rfl,l,r',rfl,hlk,GH,DF⟩;show wpS _ _ _ _ (do moveDown' (lo+k) (lo+l);pure (ForInStep.yield (none,()))) _ _;rw[moveDown'_eq];have VZ:lo+k<(bE EJ).size:=by lia
   refine cf (D8 (dc ⟨rfl,kD.trans ((vW VZ (by lia)).mono (cw _) (by lia)),?_⟩));intro i j hl kf hj;rw[tX VZ (by lia),tX VZ (by lia),show lo+k-(lo+k-(lo+l))=lo+l by lia]
   repeat' split
   all_goals first
    | (exfalso;lia)
    |exact qc _
    |exact GH _ (by lia) (by lia)
    |exact IZ (DF _ (by lia) (by lia))
    |exact gx _ _ (by lia) (by lia) (by lia)
end
def ascL(lo a nrem:Nat):StateT eB Sem AscSt :=
 forIn [a:nrem] ((none,a):AscSt) λ_ __s=>do
  let __x ← ltAt' (lo + __s.snd) (lo + __s.snd - 1)
  match __x with
  |some smaller=>if smaller=true then pure (ForInStep.done (none,__s.snd)) else pure (ForInStep.yield (none,__s.snd+1))
  |_=>pure (ForInStep.done (some none,__s.snd))
def wg(lo n nrem:Nat):StateT eB Sem (Option Nat):=do
 reverseSlice' lo (lo+n)
 let __s ← ascL lo n nrem
 match __s.fst with
 |some r=>pure r
 |none=>pure (some __s.snd)
def Gr(lo n nrem:Nat):StateT eB Sem DescSt :=
 forIn [n:nrem] ((none,n,0):DescSt) λ_ __s=>do
  let __x ← ltAt' (lo + __s.snd.fst) (lo + __s.snd.fst - 1)
  match __x with
  |some smaller =>
   if smaller=true then
    if __s.snd.snd>0 then do
     reverseSlice' (lo+__s.snd.fst-(__s.snd.snd+1)) (lo+__s.snd.fst)
     pure (ForInStep.yield (none,__s.snd.fst+1,0))
    else pure (ForInStep.yield (none,__s.snd.fst+1,0))
   else do
    let __x ← ltAt' (lo+__s.snd.fst - 1) (lo+__s.snd.fst)
    match __x with
    |some larger =>
     if larger=true then pure (ForInStep.done (none,__s.snd.fst,__s.snd.snd))
     else pure (ForInStep.yield (none,__s.snd.fst+1,__s.snd.snd+1))
    |_=>pure (ForInStep.done (some none,__s.snd.fst,__s.snd.snd))
  |_=>pure (ForInStep.done (some none,__s.snd.fst,__s.snd.snd))
def jR(lo n nrem:Nat):StateT eB Sem (Option Nat):=do
 liftM (rule "list.sort.descending-run")
 let __s ← Gr lo (n+1) nrem
 match __s.fst with
 |some r=>pure r
 |none =>
  if __s.snd.snd>0 then do
   reverseSlice' (lo+__s.snd.fst-(__s.snd.snd+1)) (lo+__s.snd.fst)
   wg lo __s.snd.fst nrem
  else wg lo __s.snd.fst nrem
def pJ(lo nrem:Nat):countRun' lo nrem=(do
  let __s ← ascL lo 1 nrem
  match __s.fst with
  |some r=>pure r
  |none =>
   if (__s.snd == nrem)=true then pure (some __s.snd)
   else if __s.snd>1 then do
    let __x ← ltAt' lo (lo+__s.snd - 1)
    match __x with
    |some aZ'=>if aZ'=true then pure (some __s.snd) else do
      reverseSlice' lo (lo+__s.snd)
      jR lo __s.snd nrem
    |_=>pure none
   else jR lo __s.snd nrem):=by
 rw[countRun'_eq];dsimp only;congr 1;funext __s;obtain⟨r,n⟩:=__s
 cases r with
 |some r=>rfl
 |none =>
  dsimp only;split
  ·rfl
  ·split
   ·congr 1;funext x
    cases x with
    |none=>rfl
    |some aZ' =>
     dsimp only;split
     ·rfl
     ·congr 1;funext _r
      (congr 1;funext _u;congr 1;congr 1;funext s2;obtain⟨r2,n2,q2⟩:=s2;cases r2 with
       |some r2=>rfl
       |none=>(dsimp only;split;(congr 1;funext _v;(congr 1;funext _w;congr 1;(funext s3;obtain⟨r3,n3⟩:=s3;cases r3<;>rfl)));(congr 1;funext _w;congr 1;(funext s3;obtain⟨r3,n3⟩:=s3;cases r3<;>rfl))))
   ·(congr 1;funext _u;congr 1;congr 1;funext s2;obtain⟨r2,n2,q2⟩:=s2;cases r2 with
     |some r2=>rfl
     |none=>(dsimp only;split;(congr 1;funext _v;(congr 1;funext _w;congr 1;(funext s3;obtain⟨r3,n3⟩:=s3;cases r3<;>rfl)));(congr 1;funext _w;congr 1;(funext s3;obtain⟨r3,n3⟩:=s3;cases r3<;>rfl))))
section
variable {prog:d5}{w:eJ}{A:fh}{E:ae->ax->Prop}{s:ax}{κ:pV}{r:ae->Int}{P:ae->Prop}
def uC{st:eB}{lo a nrem:Nat}{Q:AscSt->eB->Prop}(C:nI prog w A s κ r P)(hk:fN st=κ)(hP:AllP P (bE st))(hn:lo+nrem<=(bE st).size)(ha:1<=a)(han:a<=nrem)(hs:Up r (bE st) lo (lo+a))(h:∀ n,a<=n->n<=nrem->Up r (bE st) lo (lo+n)->(n=nrem\/R r (bE st) (lo+n)<R r (bE st) (lo+n-1))->Q (none,n) st) :
  wpS (aS prog w) A E s (ascL lo a nrem) Q st:=by
 refine qE (I:=λx c ai=>ai=st/\c=(none,x)/\Up r (bE st) lo (lo+x)) ?step ?fin ⟨rfl,rfl,hs⟩;case fin =>
  rintro c ai ⟨rfl,rfl,gx⟩;rw[show max a nrem=nrem by lia] at gx ⊢;exact h nrem han (cw _) gx (.inl rfl)
 case step =>
  rintro x c ai Qc hxn ⟨rfl,rfl,gx⟩;refine cf (jw C hk hP (by lia) (by lia) ?_);by_cases yv:R r (bE ai) (lo+x)<R r (bE ai) (lo+x-1)
  ·simp only[yv,decide_true,if_true];exact dc (h x Qc (by lia) gx (.inr yv))
  ·simp only[yv,decide_false,sR,if_false];refine dc ⟨rfl,rfl,λi j hl kf hj=>?_⟩;by_cases Qe:j<lo+x
   ·exact gx i j hl kf Qe
   ·have rL:j=lo+x:=by lia
    subst rL;by_cases kK:i=lo+x
    ·subst kK;exact qc _
    ·exact zI (gx i (lo+x-1) hl (by lia) (by lia)) (Int.not_lt.mp yv)
def lQ{st:eB}{lo n nrem:Nat}{Q:Option Nat->eB->Prop}(C:nI prog w A s κ r P)(hk:fN st=κ)(hP:AllP P (bE st))(hn:lo+nrem<=(bE st).size)(h1:1<=n)(EK:n<=nrem)(hs:Down r (bE st) lo (lo+n)) (h:∀ m ai,nK lo (lo+nrem) st ai->1<=m->m<=nrem->Up r (bE ai) lo (lo+m)->Q (some m) ai) :
  wpS (aS prog w) A E s (wg lo n nrem) Q st:=by
 have f7:lo+n<=(bE st).size:=by lia
 refine cf (cV ?_);have kD:=eX (i:=lo) f7;refine cf (uC C (kD.kind.trans hk) (hP.perm kD.perm) (by rw[kD.size];exact hn) h1 EK ?_ λm qh mE V0 _=>dc (h m _ (kD.mono (cw _) (by lia)) (by lia) mE V0));intro i j hl kf hj;rw[mQ f7,mQ f7,if_pos (by lia),if_pos (by lia)];exact hs _ _ (by lia) (by lia) (by lia)
def yF{st:eB}{lo n nrem:Nat}{Q:DescSt->eB->Prop}(C:nI prog w A s κ r P)(hk:fN st=κ)(hP:AllP P (bE st))(hn:lo+nrem<=(bE st).size)(h1:1<=n)(EK:n<=nrem)(hs:Down r (bE st) lo (lo+n))(h:∀ m tI ai,nK lo (lo+nrem) st ai->n<=m->m<=nrem->Down r (bE ai) lo (lo+m)->tI+1<=m->(∀ i,lo+m-(tI+1)<=i->i<lo+m->R r (bE ai) i=R r (bE ai) (lo+m-1))->Q (none,m,tI) ai) :
  wpS (aS prog w) A E s (Gr lo n nrem) Q st:=by
 refine qE (I:=λx c ai=>∃ tI,c=(none,x,tI)/\nK lo (lo+nrem) st ai/\Down r (bE ai) lo (lo+x)/\tI+1<=x /\ (∀ i,lo+x-(tI+1)<=i->i<lo+x->R r (bE ai) i=R r (bE ai) (lo+x-1))) ?step ?fin ⟨0,rfl,.refl _ _ _,hs,by lia,λi h1 h2=>by congr 1;lia⟩
 case fin =>
  rintro c ai ⟨tI,rfl,kD,gx,hq,he⟩;rw[show max n nrem=nrem by lia] at gx hq he ⊢;exact h nrem tI ai kD EK (cw _) gx hq he
 case step =>
  rintro x c ai Qc hxn ⟨tI,rfl,kD,gx,hq,he⟩;dsimp only;have hz:=kD.size;have f7:lo+x<=(bE ai).size:=by lia
  have h9:=kD.kind.trans hk;have tF:=hP.perm kD.perm;refine cf (jw C h9 tF (by lia) (by lia) ?_);by_cases yv:R r (bE ai) (lo+x)<R r (bE ai) (lo+x-1)
  ·simp only[yv,decide_true,if_true];have ba':∀ xs:Array bX,(∀ k,R r xs k=R r (bE ai) k)->Down r xs lo (lo+(x+1)):=by
    intro xs hkk i j hl kf hj;rw[hkk,hkk];by_cases Qe:j<lo+x
    ·exact gx i j hl kf Qe
    ·have rL:j=lo+x:=by lia
     subst rL;by_cases kK:i=lo+x
     ·subst kK;exact qc _
     ·exact zI (IZ yv) (gx i (lo+x-1) hl (by lia) (by lia))
   by_cases Qf:tI>0
   ·rw[if_pos Qf];refine cf (cV (dc ⟨0,rfl,kD.trans ((eX f7).mono (by lia) (by lia)),ba' _ (bH f7 he),by lia,λi h1 h2=>by congr 1;lia⟩))
   ·rw[if_neg Qf];exact dc ⟨0,rfl,kD,ba' _ (λ_=>rfl),by lia,λi h1 h2=>by congr 1;lia⟩
  ·simp only[yv,decide_false,sR,if_false];refine cf (jw C h9 tF (by lia) (by lia) ?_);by_cases bc':R r (bE ai) (lo+x-1)<R r (bE ai) (lo+x)
   ·simp only[bc',decide_true,if_true];exact dc (h x tI ai kD Qc (by lia) gx hq he)
   ·simp only[bc',decide_false,sR,if_false];have bd':R r (bE ai) (lo+x)=R r (bE ai) (lo+x-1):=by lia
    refine dc ⟨tI+1,rfl,kD,λi j hl kf hj=>?_,by lia,λi h1 h2=>?_⟩
    ·by_cases Qe:j<lo+x
     ·exact gx i j hl kf Qe
     ·have rL:j=lo+x:=by lia
      subst rL;by_cases kK:i=lo+x
      ·subst kK;exact qc _
      ·rw[bd'];exact gx i (lo+x-1) hl (by lia) (by lia)
    ·rw[show lo+(x+1)-1=lo+x by lia];by_cases AF:i=lo+x
     ·subst AF;rfl
     ·rw[bd'];exact he i (by lia) (by lia)
def gk{st:eB}{lo n nrem:Nat}{Q:Option Nat->eB->Prop}(C:nI prog w A s κ r P)(hk:fN st=κ)(hP:AllP P (bE st))(hn:lo+nrem<=(bE st).size)(EK:n+1<=nrem)(hs:Down r (bE st) lo (lo+(n+1))) (h:∀ m ai,nK lo (lo+nrem) st ai->1<=m->m<=nrem->Up r (bE ai) lo (lo+m)->Q (some m) ai) :
  wpS (aS prog w) A E s (jR lo n nrem) Q st:=by
 walk_at"y";refine cf (yF C hk hP hn (by lia) EK hs λm tI ai kD qh mE gx hq he=>?_);dsimp only;have hz:=kD.size;have f7:lo+m<=(bE ai).size:=by lia
 have h9:=kD.kind.trans hk;have tF:=hP.perm kD.perm;by_cases Qf:tI>0
 ·rw[if_pos Qf];have hW:=eX (i:=lo+m-(tI+1)) f7;refine cf (cV (lQ C (hW.kind.trans h9) (tF.perm hW.perm) (by rw[hW.size,hz];exact hn) (by lia) mE ?_ λm2 z5 Qg=>h m2 z5 ((kD.trans (hW.mono (by lia) (by lia))).trans Qg)));intro i j hl kf hj;rw[bH f7 he,bH f7 he];exact gx i j hl kf hj
 ·rw[if_neg Qf];exact lQ C h9 tF (by rw[hz];exact hn) (by lia) mE gx λm2 z5 Qg=>h m2 z5 (kD.trans Qg)
def wpS_countRun{st:eB}{lo nrem:Nat}{Q:Option Nat->eB->Prop}(C:nI prog w A s κ r P)(hk:fN st=κ)(hP:AllP P (bE st))(hn:lo+nrem<=(bE st).size)(h1:1<=nrem)(h:∀ m ai,nK lo (lo+nrem) st ai->1<=m->m<=nrem->Up r (bE ai) lo (lo+m)->Q (some m) ai) :
  wpS (aS prog w) A E s (countRun' lo nrem) Q st:=by
 rw[pJ];refine cf (uC C hk hP hn (cw 1) h1 (λi j hl kf hj=>by
  have:i=j:=by lia
  subst this;exact qc _) λn hn1 Kx mn hor=>?_)
 by_cases EK:n=nrem
 ·rw[if_pos (by simpa using EK)];exact dc (h n st (.refl _ _ _) hn1 Kx mn)
 ·rw[if_neg (by simpa using EK)];have fi:R r (bE st) (lo+n)<R r (bE st) (lo+n-1):=hor.resolve_left EK;by_cases hgt:n>1
  ·rw[if_pos hgt];refine cf (jw C hk hP (by lia) (by lia) ?_);by_cases bg':R r (bE st) lo<R r (bE st) (lo+n-1)
   ·simp only[bg',decide_true,if_true];exact dc (h n st (.refl _ _ _) hn1 Kx mn)
   ·simp only[bg',decide_false,sR,if_false];have f7:lo+n<=(bE st).size:=by lia
    have nE:∀ k,lo<=k->k<lo+n->R r (bE st) k=R r (bE st) (lo+n-1):=by intro k hl hk;have a1:=mn lo k (by lia) hl hk;have a2:=mn k (lo+n-1) hl (by lia) (by lia);lia
    have hW:=eX (i:=lo) f7;refine cf (cV (gk C (hW.kind.trans hk) (hP.perm hW.perm) (by rw[hW.size];exact hn) (by lia) ?_ λm2 z5 Qg=>h m2 z5 ((hW.mono (cw _) (by lia)).trans Qg)));intro i j hl kf hj;rw[bH f7 nE,bH f7 nE];by_cases hjn:j<lo+n
    ·rw[nE i hl (by lia),nE j (by lia) hjn];exact qc _
    ·have rL:j=lo+n:=by lia
     subst rL;by_cases kK:i=lo+n
     ·subst kK;exact qc _
     ·rw[nE i hl (by lia)];exact IZ fi
  ·rw[if_neg hgt];have hV':n=1:=by lia
   subst hV';refine gk C hk hP hn (by lia) ?_ h;intro i j hl kf hj;by_cases kK:i=j
   ·subst kK;exact qc _
   ·have vw:i=lo:=by lia
    have Oh:j=lo+1:=by lia
    subst vw;subst Oh;exact IZ fi
end
def Fe(left:Bool)(key:bX)(arr:Array bX)(base i:Nat):StateT eB Sem (Option Bool):=do
 let x ← elem' arr (base+i)
 if left then lt' x key else return (<- lt' key x).map (!·)
def jQ:Bool->bX->Array bX->Nat->Nat->Nat->StateT eB Sem (Option Nat):=sortPriv% PySem.Builtin.gallop
section
variable {prog:d5}{w:eJ}{A:fh}{E:ae->ax->Prop}{s:ax}{κ:pV}{r:ae->Int}{P:ae->Prop}
def gE(r:ae->Int)(left:Bool)(key:bX)(arr:Array bX)(base i:Nat):Bool :=
 if left then decide (R r arr (base+i)<r key.1) else !decide (r key.1<R r arr (base+i))
def dw{st:eB}{left:Bool}{key:bX}{arr:Array bX}{base i:Nat}{Q:Option Bool->eB->Prop}(C:nI prog w A s κ r P)(hk:fN st=κ)(hP:AllP P arr)(hy:P key.1)(hi:base+i<arr.size)(h:Q (some (gE r left key arr base i)) st):wpS (aS prog w) A E s (Fe left key arr base i) Q st:=by
 refine cf (aF hi λp ep=>?_);have e1:R r arr (base+i)=r p.1:=by unfold R;rw[ep]
 unfold gE at h;rw[e1] at h
 cases left with
 |true =>exact p7 C hk (hP.at ep) hy h
 |false =>exact cf (p7 C hk hy (hP.at ep) (dc h))
def zP(hu:Up r arr base (base+n))(kf:i<=j)(hj:j<n)(h:gE r left key arr base j=true):gE r left key arr base i=true:=by
 have q:=hu (base+i) (base+j) (by lia) (by lia) (by lia);unfold gE at h ⊢
 cases left with
 |true=>simp only[if_true,decide_eq_true_eq] at h ⊢;lia
 |false=>simp only[sR,if_false,Bool.not_eq_true',decide_eq_false_iff_not] at h ⊢;lia
def cF{st:eB}{left:Bool}{key:bX}{arr:Array bX}{base n hint:Nat}{Q:Option Nat->eB->Prop}(C:nI prog w A s κ r P)(hk:fN st=κ)(hP:AllP P arr)(hy:P key.1)(hn:base+n<=arr.size)(hh:hint<n)(hu:Up r arr base (base+n))(h:∀ k,k<=n->(∀ i,i<k->gE r left key arr base i=true)->(∀ i,k<=i->i<n->gE r left key arr base i=false)->Q (some k) st):wpS (aS prog w) A E s (jQ left key arr base n hint) Q st:=by
 have mono:∀ {i j},i<=j->j<n->gE r left key arr base j=true->gE r left key arr base i=true:=λa b c=>zP hu a b c;have Td:∀ {i j},i<=j->j<n->gE r left key arr base i=false->gE r left key arr base j=false:=λ{i j} a b c=>by
  cases q:gE r left key arr base j with
  |false=>rfl
  |true=>rw[mono a b q] at c;cases c
 refine cf (dw C hk hP hy (by lia) ?_);dsimp only
 cases q0:gE r left key arr base hint with
 |true =>
  refine cf (uj (qE (I:=λx c ai=>ai=st/\∃ lst gS,c=(none,lst,gS)/\lst<gS/\lst<n-hint/\x+1<=gS/\gE r left key arr base (hint+lst)=true) (Q:=λc ai=>ai=st/\∃ lst gS,c=(none,lst,gS)/\lst<gS/\lst<n-hint/\gE r left key arr base (hint+lst)=true/\(n-hint<=gS\/gE r left key arr base (hint+gS)=false)) ?step ?fin ?init) ?post)
  case init=>exact⟨rfl,0,1,rfl,by lia,by lia,by lia,q0⟩
  case fin =>
   rintro c ai ⟨rfl,lst,gS,rfl,h1,h2,h3,h4⟩;exact⟨rfl,lst,gS,rfl,h1,h2,h4,.inl (by lia)⟩
  case step =>
   rintro x c ai _ hx ⟨rfl,lst,gS,rfl,h1,h2,h3,h4⟩;dsimp only;by_cases rh:gS >= n-hint
   ·rw[if_pos rh];exact dc ⟨rfl,lst,gS,rfl,h1,h2,h4,.inl rh⟩
   ·rw[if_neg rh];refine cf (dw C hk hP hy (by lia) ?_)
    cases q:gE r left key arr base (hint+gS) with
    |true =>exact dc ⟨rfl,_,_,rfl,by lia,by lia,by lia,q⟩
    |false =>exact dc ⟨rfl,lst,gS,rfl,h1,h2,h4,.inr q⟩
  case post =>
   rintro c ai ⟨rfl,lst,gS,rfl,h1,h2,h4,h5⟩;generalize ai=st at *
   have hl:∀ i,i<hint+lst+1->gE r left key arr base i=true:=λi hi=>mono (by lia) (by lia) h4;have DF:∀ i,hint+min gS (n-hint)<=i->i<n->gE r left key arr base i=false:=λi hi aE=>by
    rcases h5 with h5|h5
    ·lia
    ·by_cases z:n-hint<=gS
     ·lia
     ·exact Td (by lia) aE h5
   have V1:hint+lst+1<=hint+min gS (n-hint):=by lia
   have V2:hint+min gS (n-hint)<=n:=by lia
   generalize hint+lst+1=lo at *
   generalize hint+min gS (n-hint)=hi at *
   refine cf (uj (qE (I:=λx c ai=>ai=st/\∃ l u,c=(none,l,u)/\l<=u/\u<=n/\u-l<=n-x/\(∀ i,i<l->gE r left key arr base i=true)/\(∀ i,u<=i->i<n->gE r left key arr base i=false)) (Q:=λc ai=>ai=st/\∃ l,c=(none,l,l)/\l<=n/\(∀ i,i<l->gE r left key arr base i=true)/\(∀ i,l<=i->i<n->gE r left key arr base i=false)) ?hW' ?hX' ?hY') ?postA)
   case hY'=>exact⟨rfl,lo,hi,rfl,V1,V2,by lia,hl,DF⟩
   case hX' =>
    rintro c ai ⟨rfl,l,u,rfl,h1,h2,h3,h4,h5⟩;have:l=u:=by lia
    subst this;exact⟨rfl,l,rfl,h2,h4,h5⟩
   case hW' =>
    rintro x c ai _ hx ⟨rfl,l,u,rfl,h1,h2,h3,h4,h5⟩;dsimp only;by_cases rh:l >= u
    ·rw[if_pos rh];have:l=u:=by lia
     subst this;exact dc ⟨rfl,l,rfl,h2,h4,h5⟩
    ·rw[if_neg rh];refine cf (dw C hk hP hy (by lia) ?_)
     cases q:gE r left key arr base (l+(u-l) / 2) with
     |true =>exact dc ⟨rfl,_,_,rfl,by lia,by lia,by lia,λi hi=>mono (by lia) (by lia) q,h5⟩
     |false =>exact dc ⟨rfl,_,_,rfl,by lia,by lia,by lia,h4,λi hi aE=>Td (by lia) aE q⟩
   case postA =>
    rintro c ai ⟨rfl,l,rfl,h2,h4,h5⟩;exact dc (h l h2 h4 h5)
 |false =>
  refine cf (uj (qE (I:=λx c ai=>ai=st/\∃ lst gS,c=(none,lst,gS)/\lst<gS/\lst<hint+1/\x+1<=gS/\gE r left key arr base (hint-lst)=false) (Q:=λc ai=>ai=st/\∃ lst gS,c=(none,lst,gS)/\lst<gS/\lst<hint+1/\gE r left key arr base (hint-lst)=false/\(hint+1<=gS\/gE r left key arr base (hint-gS)=true)) ?hZ' ?fin2 ?ic') ?ie')
  case ic'=>exact⟨rfl,0,1,rfl,by lia,by lia,by lia,q0⟩
  case fin2 =>
   rintro c ai ⟨rfl,lst,gS,rfl,h1,h2,h3,h4⟩;exact⟨rfl,lst,gS,rfl,h1,h2,h4,.inl (by lia)⟩
  case hZ' =>
   rintro x c ai _ hx ⟨rfl,lst,gS,rfl,h1,h2,h3,h4⟩;dsimp only;by_cases rh:gS >= hint+1
   ·rw[if_pos rh];exact dc ⟨rfl,lst,gS,rfl,h1,h2,h4,.inl rh⟩
   ·rw[if_neg rh];refine cf (dw C hk hP hy (by lia) ?_)
    cases q:gE r left key arr base (hint-gS) with
    |true =>exact dc ⟨rfl,lst,gS,rfl,h1,h2,h4,.inr q⟩
    |false =>exact dc ⟨rfl,_,_,rfl,by lia,by lia,by lia,q⟩
  case ie' =>
   rintro c ai ⟨rfl,lst,gS,rfl,h1,h2,h4,h5⟩;generalize ai=st at *
   have hl:∀ i,i<hint+1-min gS (hint+1)->gE r left key arr base i=true:=λi hi=>by
    rcases h5 with h5|h5
    ·lia
    ·by_cases z:hint+1<=gS
     ·lia
     ·exact mono (by lia) (by lia) h5
   have DF:∀ i,hint-lst<=i->i<n->gE r left key arr base i=false:=λi hi aE=>Td (by lia) aE h4;have V1:hint+1-min gS (hint+1)<=hint-lst:=by lia
   have V2:hint-lst<=n:=by lia
   generalize hint+1-min gS (hint+1)=lo at *
   generalize hint-lst=hi at *
   refine cf (uj (qE (I:=λx c ai=>ai=st/\∃ l u,c=(none,l,u)/\l<=u/\u<=n/\u-l<=n-x/\(∀ i,i<l->gE r left key arr base i=true)/\(∀ i,u<=i->i<n->gE r left key arr base i=false)) (Q:=λc ai=>ai=st/\∃ l,c=(none,l,l)/\l<=n/\(∀ i,i<l->gE r left key arr base i=true)/\(∀ i,l<=i->i<n->gE r left key arr base i=false)) ?ig' ?ih' ?ii') ?ij')
   case ii'=>exact⟨rfl,lo,hi,rfl,V1,V2,by lia,hl,DF⟩
   case ih' =>
    rintro c ai ⟨rfl,l,u,rfl,h1,h2,h3,h4,h5⟩;have:l=u:=by lia
    subst this;exact⟨rfl,l,rfl,h2,h4,h5⟩
   case ig' =>
    rintro x c ai _ hx ⟨rfl,l,u,rfl,h1,h2,h3,h4,h5⟩;dsimp only;by_cases rh:l >= u
    ·rw[if_pos rh];have:l=u:=by lia
     subst this;exact dc ⟨rfl,l,rfl,h2,h4,h5⟩
    ·rw[if_neg rh];refine cf (dw C hk hP hy (by lia) ?_)
     cases q:gE r left key arr base (l+(u-l) / 2) with
     |true =>exact dc ⟨rfl,_,_,rfl,by lia,by lia,by lia,λi hi=>mono (by lia) (by lia) q,h5⟩
     |false =>exact dc ⟨rfl,_,_,rfl,by lia,by lia,by lia,h4,λi hi aE=>Td (by lia) aE q⟩
   case ij' =>
    rintro c ai ⟨rfl,l,rfl,h2,h4,h5⟩;exact dc (h l h2 h4 h5)
end
abbrev Le(r:ae->Int)(x y:bX):Prop:=r x.1<=r y.1
def pj(e:xs[i]? = some p):R r xs i=r p.1:=by unfold R;rw[e]
def Hq(h:i<xs.size):R r xs i=r xs[i].1:=pj (getElem?_pos xs i h)
structure MI(r:ae->Int)(a b out:Array bX)(ia ib:Nat):Prop where
 ha:ia<=a.size
 hb:ib<=b.size
 perm:out.toList.Perm (a.toList.take ia++b.toList.take ib)
 up:out.toList.Pairwise (Le r)
 la:∀ x∈out.toList,∀ i,ia<=i->i<a.size->r x.1<=R r a i
 lb:∀ x∈out.toList,∀ j,ib<=j->j<b.size->r x.1<=R r b j
section
variable {r:ae->Int}{a b out:Array bX}{ia ib:Nat}
def lM{α:Type}{l:List α}{i:Nat}{x:α}(h:l[i]? = some x):l.take (i+1)=l.take i++[x]:=by rw[zv,h];rfl
def MI.qH(M:MI r a b out ia ib)(hA:Up r a 0 a.size)(hB:Up r b 0 b.size)(e:b[ib]? = some y)(hl:ia<a.size->R r b ib<=R r a ia):MI r a b (out.push y) ia (ib+1):=by
 have V3:ib<b.size:=(NJ.mp e).1;have ey:=pj (r:=r) e;refine⟨M.ha,V3,?_,?_,?_,?_⟩
 ·rw[qa,lM (by simpa using e),<- A4];exact M.perm.append_right _
 ·rw[qa,IC];refine⟨M.up,by simp,λx hx z hz=>?_⟩;have:z=y:=by simpa using hz
  subst this;show r x.1<=r z.1;rw[<- ey];exact M.lb x hx ib (cw _) V3
 ·intro x hx i hi Oi;rw[qa] at hx;rcases dP.mp hx with hx|hx
  ·exact M.la x hx i hi Oi
  ·have:x=y:=by simpa using hx
   subst this;rw[<- ey];exact zI (hl (by lia)) (hA ia i (fI _) hi Oi)
 ·intro x hx j hj Qh;rw[qa] at hx;rcases dP.mp hx with hx|hx
  ·exact M.lb x hx j (by lia) Qh
  ·have:x=y:=by simpa using hx
   subst this;rw[<- ey];exact hB ib j (fI _) (by lia) Qh
def MI.oR(M:MI r a b out ia ib)(hA:Up r a 0 a.size)(hB:Up r b 0 b.size)(e:a[ia]? = some y)(hl:ib<b.size->R r a ia<=R r b ib):MI r a b (out.push y) (ia+1) ib:=by
 have Oi:ia<a.size:=(NJ.mp e).1;have ey:=pj (r:=r) e;refine⟨Oi,M.hb,?_,?_,?_,?_⟩
 ·rw[qa,lM (by simpa using e),A4];refine(M.perm.append_right [y]).trans ?_;rw[A4];exact List.Perm.append_left _ UD
 ·rw[qa,IC];refine⟨M.up,by simp,λx hx z hz=>?_⟩;have:z=y:=by simpa using hz
  subst this;show r x.1<=r z.1;rw[<- ey];exact M.la x hx ia (cw _) Oi
 ·intro x hx i hi k6;rw[qa] at hx;rcases dP.mp hx with hx|hx
  ·exact M.la x hx i (by lia) k6
  ·have:x=y:=by simpa using hx
   subst this;rw[<- ey];exact hA ia i (fI _) (by lia) k6
 ·intro x hx j hj Qh;rw[qa] at hx;rcases dP.mp hx with hx|hx
  ·exact M.lb x hx j hj Qh
  ·have:x=y:=by simpa using hx
   subst this;rw[<- ey];exact zI (hl (by lia)) (hB ib j (fI _) hj Qh)
def dX{xs:Array bX}{i k:Nat}(h:i+k<xs.size):xs.extract i (i+(k+1))=(xs.extract i (i+k)).push xs[i+k]:=by apply R3.mp;rw[qa];simp only[UW,Uy];rw[show i+(k+1)-i=k+1 by lia,show i+k-i=k by lia,zv];congr 1;simp[h]
theorem MI.EL(hA:Up r a 0 a.size)(hB:Up r b 0 b.size):∀ (k:Nat) {out:Array bX} {ia:Nat},MI r a b out ia ib->ia+k<=a.size->(ib<b.size->∀ i,i<k->R r a (ia+i)<=R r b ib)->MI r a b (out++a.extract ia (ia+k)) (ia+k) ib
 |0,out,ia,M,h1,h2=>by have:a.extract ia (ia+0) = #[]:=Pn (by simp only[IY];lia);rw[this];simpa using M
 |k+1,out,ia,M,h1,h2=>by have q:=MI.EL hA hB k M (by exact sQ ‹_›) λhb i hi=>h2 hb i (by exact xS ‹_›);have e:a[ia+k]? = some a[ia+k]:=getElem?_pos a (ia+k) (by assumption);have z:=q.oR hA hB e λhb=>h2 hb k (by exact cw _);rw[dX (by assumption),Array.append_push];exact z
theorem MI.ER(hA:Up r a 0 a.size)(hB:Up r b 0 b.size):∀ (k:Nat) {out:Array bX} {ib:Nat},MI r a b out ia ib->ib+k<=b.size->(ia<a.size->∀ i,i<k->R r b (ib+i)<=R r a ia)->MI r a b (out++b.extract ib (ib+k)) ia (ib+k)
 |0,out,ib,M,h1,h2=>by have:b.extract ib (ib+0) = #[]:=Pn (by simp only[IY];lia);rw[this];simpa using M
 |k+1,out,ib,M,h1,h2=>by have q:=MI.ER hA hB k M (by exact sQ ‹_›) λha i hi=>h2 ha i (by exact xS ‹_›);have e:b[ib+k]? = some b[ib+k]:=getElem?_pos b (ib+k) (by assumption);have z:=q.qH hA hB e λha=>h2 ha k (by exact cw _);rw[dX (by assumption),Array.append_push];exact z
def bO(r:ae->Int)(a b out:Array bX):Prop:=out.toList.Perm (a.toList++b.toList)/\out.toList.Pairwise (Le r)
def MI.whole(M:MI r a b out a.size b.size):bO r a b out:=by refine⟨?_,M.up⟩;have h:=M.perm;rw[Rt (by simp),Rt (by simp)] at h;exact h
def MI.Ks(M:MI r a b out ia b.size)(hA:Up r a 0 a.size)(hB:Up r b 0 b.size):bO r a b (out++a.extract ia a.size++b.extract b.size b.size):=by
 have e:b.extract b.size b.size = #[]:=by simp
 rw[e,UX];have ha:=M.ha;have q:=MI.EL hA hB (a.size-ia) M (by lia) λhb=>absurd hb (wq _);rw[show ia+(a.size-ia)=a.size by exact Pk ‹_›] at q;exact q.whole
def MI.Kq(M:MI r a b out a.size ib)(hA:Up r a 0 a.size)(hB:Up r b 0 b.size):bO r a b (out++a.extract a.size a.size++b.extract ib b.size):=by
 have e:a.extract a.size a.size = #[]:=by simp
 rw[e,UX];have hb:=M.hb;have q:=MI.ER hA hB (b.size-ib) M (by lia) λha=>absurd ha (wq _);rw[show ib+(b.size-ib)=b.size by exact Pk ‹_›] at q;exact q.whole
def MI.Oj(M:MI r a b out ia ib)(hA:Up r a 0 a.size)(hB:Up r b 0 b.size)(e:ib=b.size):bO r a b (out++a.extract ia a.size++b.extract ib b.size):=by subst e;exact M.Ks hA hB
def MI.Ol(M:MI r a b out ia ib)(hA:Up r a 0 a.size)(hB:Up r b 0 b.size)(e:ia=a.size):bO r a b (out++a.extract ia a.size++b.extract ib b.size):=by subst e;exact M.Kq hA hB
def MI.JS(M:MI r a b out ia ib)(hA:Up r a 0 a.size)(hB:Up r b 0 b.size)(Oi:ia+1=a.size)(hg:∀ j,j<b.size->R r b j<=R r a ia):bO r a b (out++b.extract ib b.size++a.extract ia a.size):=by have hb:=M.hb;have q:=MI.ER hA hB (b.size-ib) M (by lia) λha i hi=>hg _ (by lia);rw[show ib+(b.size-ib)=b.size by exact Pk ‹_›] at q;have z:=MI.EL hA hB (a.size-ia) q (by lia) λhb=>absurd hb (wq _);rw[show ia+(a.size-ia)=a.size by lia] at z;exact z.whole
def MI.start(hA:Up r a 0 a.size)(hB:Up r b 0 b.size):MI r a b #[] 0 0:=⟨fI _,fI _,by simp,by simp,λx hx=>by simp at hx,λx hx=>by simp at hx⟩
end
def bj:Nat->StateT eB Sem Unit:=sortPriv% PySem.Builtin.setMinGallop
def tD:Array bX->Array bX->StateT eB Sem (Array bX):=sortPriv% PySem.Builtin.mergeLo
def tQ:Array bX->Array bX->StateT eB Sem (Array bX):=sortPriv% PySem.Builtin.mergeHi
def i_(g:Nat):bj g=modify λs=>SortSt.mk' (fN s) (bE s) (lI s) g (qS s):=rfl
def Mg(st ai:eB):Prop:=∃ g,ai=SortSt.mk' (fN st) (bE st) (lI st) g (qS st)
def Mg.refl(st:eB):Mg st st:=⟨gallopOf st,rfl⟩
def Mg.kind{st ai:eB}(h:Mg st ai):fN ai=fN st:=by obtain⟨g,rfl⟩:=h;rfl
def Mg.set{st ai:eB}(h:Mg st ai)(g:Nat):Mg st (SortSt.mk' (fN ai) (bE ai) (lI ai) g (qS ai)):=by obtain⟨g',rfl⟩:=h;exact⟨g,rfl⟩
section
variable {prog:d5}{w:eJ}{A:fh}{E:ae->ax->Prop}{s:ax}{r:ae->Int}
def gC{st:eB}{g:Nat}{Q:Unit->eB->Prop}(h:Q () (SortSt.mk' (fN st) (bE st) (lI st) g (qS st))):wpS (aS prog w) A E s (bj g) Q st:=by rw[i_];exact D8 h
def Av(h:gE r false key arr base i=true):R r arr (base+i)<=r key.1:=by unfold gE at h;simp only[sR,if_false,Bool.not_eq_true',decide_eq_false_iff_not] at h;lia
def wV(h:gE r false key arr base i=false):r key.1<R r arr (base+i):=by unfold gE at h;simp only[sR,if_false,Bool.not_eq_false',decide_eq_true_eq] at h;exact h
def Di(h:gE r true key arr base i=true):R r arr (base+i)<r key.1:=by unfold gE at h;simp only[if_true,decide_eq_true_eq] at h;exact h
def tZ(h:gE r true key arr base i=false):r key.1<=R r arr (base+i):=by unfold gE at h;simp only[if_true,decide_eq_false_iff_not] at h;lia
end
def Mg.trans{a b c:eB}(h:Mg a b)(g:Mg b c):Mg a c:=by obtain⟨x,rfl⟩:=h;obtain⟨y,rfl⟩:=g;exact⟨y,rfl⟩
def Ef{K G:Prop}(pk:K)(h:K->G):G:=h pk
abbrev SM:=StateT eB Sem
abbrev L1:=Option (Array bX) × Array bX × Nat × Nat × Nat
abbrev jI:=Option (Array bX) × Array bX × Nat × Nat × Nat × Nat
abbrev L3:=Option (Array bX) × Array bX × Nat × Nat × Nat × Nat × Nat
def GP(a b out:Array bX)(ia ib:Nat):Array bX:=out++a.extract ia a.size++b.extract ib b.size
def Qi(a b out:Array bX)(ia ib:Nat):Array bX:=out++b.extract ib b.size++a.extract ia a.size
def V4(a b:Array bX)(mg ac bc ia ib:Nat)(out:Array bX):SM (ForInStep L3):=elem' a ia >>= λp =>
 if (ia+1+1 == a.size)=true then pure (.done (some (Qi a b (out.push p) (ia+1) ib),out.push p,ia+1,ib,mg,ac,bc))
 else if (decide (ac<7) && decide (bc<7))=true then pure (.done (none,out.push p,ia+1,ib,mg,ac,bc)) else pure (.yield (none,out.push p,ia+1,ib,mg,ac,bc))
def K2(a b:Array bX)(mg ac bc ia ib:Nat)(out:Array bX):SM (ForInStep L3):=elem' a ia >>= λp=>jQ true p b ib (b.size-ib) 0 >>= λx=>match x with
 |some k=>if k>0 then
   if (ib+k == b.size)=true then pure (.done (some (GP a b (out++b.extract ib (ib+k)) ia (ib+k)),out++b.extract ib (ib+k),ia,ib+k,mg,ac,k))
   else V4 a b mg ac k ia (ib+k) (out++b.extract ib (ib+k))
  else V4 a b mg ac k ia ib out
 |_=>pure (.done (some (GP a b out ia ib),out,ia,ib,mg,ac,bc))
def lo1(a b:Array bX)(mg ac bc ia ib:Nat)(out:Array bX):SM (ForInStep L3):=elem' b ib >>= λp =>
 if (ib+1 == b.size)=true then pure (.done (some (GP a b (out.push p) ia (ib+1)),out.push p,ia,ib+1,mg,ac,bc)) else K2 a b mg ac bc ia (ib+1) (out.push p)
def V5(a b:Array bX)(mg ac bc ia ib:Nat)(out:Array bX):SM (ForInStep L3):=bj mg >>= λ_=>elem' b ib >>= λp=>jQ false p a ia (a.size-ia) 0 >>= λx=>match x with
 |some k=>if k>0 then
   if (ia+k+1 == a.size)=true then pure (.done (some (Qi a b (out++a.extract ia (ia+k)) (ia+k) ib),out++a.extract ia (ia+k),ia+k,ib,mg,k,bc))
   else if (ia+k == a.size)=true then pure (.done (some (GP a b (out++a.extract ia (ia+k)) (ia+k) ib),out++a.extract ia (ia+k),ia+k,ib,mg,k,bc))
   else lo1 a b mg k bc (ia+k) ib (out++a.extract ia (ia+k))
  else lo1 a b mg k bc ia ib out
 |_=>pure (.done (some (GP a b out ia ib),out,ia,ib,mg,ac,bc))
def loG(a b:Array bX)(_:Nat)(s:L3):SM (ForInStep L3) :=
 if s.2.2.2.2.1>1 then V5 a b (s.2.2.2.2.1-1) s.2.2.2.2.2.1 s.2.2.2.2.2.2 s.2.2.1 s.2.2.2.1 s.2.1 else V5 a b s.2.2.2.2.1 s.2.2.2.2.2.1 s.2.2.2.2.2.2 s.2.2.1 s.2.2.2.1 s.2.1
def loA(a b:Array bX)(mg bc ia ib:Nat)(out:Array bX):SM (ForInStep jI):=elem' b ib >>= λp =>
 if (ib+1 == b.size)=true then pure (.done (some (GP a b (out.push p) ia (ib+1)),out.push p,ia,ib+1,0,bc+1))
 else if bc+1 >= mg then pure (.done (none,out.push p,ia,ib+1,0,bc+1)) else pure (.yield (none,out.push p,ia,ib+1,0,bc+1))
def loB(a b:Array bX)(mg ac ia ib:Nat)(out:Array bX):SM (ForInStep jI):=elem' a ia >>= λp =>
 if (ia+1+1 == a.size)=true then pure (.done (some (Qi a b (out.push p) (ia+1) ib),out.push p,ia+1,ib,ac+1,0))
 else if ac+1 >= mg then pure (.done (none,out.push p,ia+1,ib,ac+1,0)) else pure (.yield (none,out.push p,ia+1,ib,ac+1,0))
def loI(a b:Array bX)(mg:Nat)(_:Nat)(s:jI):SM (ForInStep jI):=elem' b s.2.2.2.1 >>= λpb=>elem' a s.2.2.1 >>= λpa=>lt' pb pa >>= λx=>match x with
 |some w=>if w=true then loA a b mg s.2.2.2.2.2 s.2.2.1 s.2.2.2.1 s.2.1 else loB a b mg s.2.2.2.2.1 s.2.2.1 s.2.2.2.1 s.2.1
 |_=>pure (.done (some (GP a b s.2.1 s.2.2.1 s.2.2.2.1),s.2.1,s.2.2.1,s.2.2.2.1,s.2.2.2.2.1,s.2.2.2.2.2))
def loP (a b:Array bX) (mg:Nat) (t:jI):SM (ForInStep L1):=(liftM (rule "list.sort.gallop"):SM Unit) >>= λ_ =>
 forIn [:a.size+b.size] ((none,t.2.1,t.2.2.1,t.2.2.2.1,mg+1,t.2.2.2.2.1,t.2.2.2.2.2):L3) (loG a b) >>= λu=>match u.1 with
 |some r=>pure (.done (some r,u.2.1,u.2.2.1,u.2.2.2.1,u.2.2.2.2.1))
 |none=>bj (u.2.2.2.2.1+1) >>= λ_=>pure (.yield (none,u.2.1,u.2.2.1,u.2.2.2.1,u.2.2.2.2.1+1))
def loO(a b:Array bX)(_:Nat)(s:L1):SM (ForInStep L1):=forIn [:a.size+b.size] ((none,s.2.1,s.2.2.1,s.2.2.2.1,0,0):jI) (loI a b s.2.2.2.2) >>= λt=>match t.1 with
 |some r=>pure (.done (some r,t.2.1,t.2.2.1,t.2.2.2.1,s.2.2.2.2))
 |none=>loP a b s.2.2.2.2 t
def loM (a b:Array bX):SM (Array bX):=(liftM (rule "list.sort.merge-lo"):SM Unit) >>= λ_=>elem' b 0 >>= λy =>
 if (1 == b.size)=true then pure (GP a b #[y] 0 1)
 else if (0+1 == a.size)=true then pure (Qi a b #[y] 0 1)
 else get >>= λst=>forIn [:a.size+b.size] ((none,#[y],0,1,gallopOf st):L1) (loO a b) >>= λt=>match t.1 with
 |some r=>pure r
 |none=>(liftM (unsupported (α:=Array bX) "internal:list.sort.merge-bound"):SM (Array bX))
set_option smartUnfolding false in
def vN:tD=loM:=rfl
section
variable {prog:d5}{w:eJ}{A:fh}{E:ae->ax->Prop}{s:ax}{κ:pV}{r:ae->Int}{P:ae->Prop}{a b out:Array bX}{mg ac bc ia ib N:Nat}{st:eB}
structure MC(prog:d5)(w:eJ)(A:fh)(s:ax)(κ:pV)(r:ae->Int)(P:ae->Prop)(a b:Array bX):Prop where
 C:nI prog w A s κ r P
 pa:AllP P a
 pb:AllP P b
 hA:Up r a 0 a.size
 hB:Up r b 0 b.size
 hl:∀ i,i<a.size->R r b 0<=R r a i
 hg:∀ j,j<b.size->R r b j<=R r a (a.size-1)
def HS{β:Type}(r:ae->Int)(a b:Array bX)(c:Option (Array bX) × β):Prop:=∃ out rest,c=(some out,rest)/\bO r a b out
def LY(r:ae->Int)(a b:Array bX)(N:Nat)(c:L3):Prop:=∃ out ia ib mg ac bc,c=(none,out,ia,ib,mg,ac,bc)/\MI r a b out ia ib/\ia+1<a.size/\ib<b.size/\N<=ia+ib
def LI(r:ae->Int)(a b:Array bX)(N:Nat)(c:jI):Prop:=∃ out ia ib ac bc,c=(none,out,ia,ib,ac,bc)/\MI r a b out ia ib/\ia+1<a.size/\ib<b.size/\N<=ia+ib
def MC.last(c:MC prog w A s κ r P a b)(M:MI r a b out ia ib)(z:ia+1=a.size):bO r a b (Qi a b out ia ib):=M.JS c.hA c.hB z λj hj=>by have:=c.hg j hj;rwa[show a.size-1=ia by lia] at this
def Cy(c:MC prog w A s κ r P a b)(M:MI r a b out ia ib)(h1:ia+1<a.size)(lt:R r a ia<=R r b ib)(h2:ib<b.size)(hN:N<=ia+ib)(D:∀ c,HS r a b c->Q (.done c) st)(Y:∀ c,LY r a b N c->Q (.done c) st/\Q (.yield c) st):wpS (aS prog w) A E s (V4 a b mg ac bc ia ib out) Q st:=by
 refine cf (aF (by lia) λp e=>?_);have M2:=M.oR c.hA c.hB e λ_=>lt;by_cases z:ia+1+1=a.size
 ·walk_at"h";exact dc (D _ ⟨_,_,rfl,c.last M2 z⟩)
 ·walk_at"i";have y:=Y _ ⟨_,_,_,mg,ac,bc,rfl,M2,by lia,h2,by lia⟩;split
  ·exact dc y.1
  ·exact dc y.2
def Ii(c:MC prog w A s κ r P a b)(hk:fN st=κ)(M:MI r a b out ia ib)(h1:ia+1<a.size)(h2:ib<b.size)(hN:N<=ia+ib)(D:∀ c,HS r a b c->Q (.done c) st)(Y:∀ c,LY r a b N c->Q (.done c) st/\Q (.yield c) st):wpS (aS prog w) A E s (K2 a b mg ac bc ia ib out) Q st:=by
 refine cf (aF (by lia) λp e=>cf (cF c.C hk c.pb (c.pa.at e) (by lia) (by lia) (λi j u v w=>c.hB i j (by lia) v (by lia)) λl Om yb Oo=>?_));have ra:=pj (r:=r) e;dsimp only;have lt:ib+l<b.size->R r a ia<=R r b (ib+l):=λz=>by have:=tZ (Oo l (cw _) (by lia));lia
 by_cases l0:l>0
 ·have M5:=MI.ER c.hA c.hB l M (by lia) λ_ i hi=>by have:=Di (yb i hi);lia
  rw[if_pos l0];by_cases z:ib+l=b.size
  ·walk_at"h";exact dc (D _ ⟨_,_,rfl,M5.Oj c.hA c.hB z⟩)
  ·walk_at"i";exact Cy c M5 h1 (lt (by lia)) (by lia) (by lia) D Y
 ·rw[if_neg l0];obtain rfl:l=0:=by lia
  exact Cy c M h1 (lt h2) h2 hN D Y
def Ca(c:MC prog w A s κ r P a b)(hk:fN st=κ)(M:MI r a b out ia ib)(h1:ia+1<a.size)(lt:R r b ib<=R r a ia)(h2:ib<b.size)(hN:N<=ia+ib)(D:∀ c,HS r a b c->Q (.done c) st)(Y:∀ c,LY r a b N c->Q (.done c) st/\Q (.yield c) st):wpS (aS prog w) A E s (lo1 a b mg ac bc ia ib out) Q st:=by
 refine cf (aF h2 λp e=>?_);have M4:=M.qH c.hA c.hB e λ_=>lt;by_cases z:ib+1=b.size
 ·walk_at"h";exact dc (D _ ⟨_,_,rfl,M4.Oj c.hA c.hB z⟩)
 ·walk_at"i";exact Ii c hk M4 h1 (by lia) (by lia) D Y
def Hf(c:MC prog w A s κ r P a b)(hk:fN st=κ)(M:MI r a b out ia ib)(h1:ia+1<a.size)(h2:ib<b.size)(hN:N<=ia+ib)(D:∀ ai,Mg st ai->∀ c,HS r a b c->Q (.done c) ai)(Y:∀ ai,Mg st ai->∀ c,LY r a b N c->Q (.done c) ai/\Q (.yield c) ai):wpS (aS prog w) A E s (V5 a b mg ac bc ia ib out) Q st:=by
 have g:=(Mg.refl st).set mg;refine cf (gC ?_);refine cf (aF h2 λp e=>cf (cF c.C (g.kind.trans hk) c.pa (c.pb.at e) (by lia) (by lia) (λi j u v w=>c.hA i j (by lia) v (by lia)) λk hk1 xa Lc=>?_));have rb:=pj (r:=r) e;dsimp only;have lt:ia+k<a.size->R r b ib<=R r a (ia+k):=λz=>by have:=wV (Lc k (cw _) (by lia));lia
 by_cases k0:k>0
 ·have M3:=MI.EL c.hA c.hB k M (by lia) λ_ i hi=>by have:=Av (xa i hi);lia
  rw[if_pos k0];by_cases z:ia+k+1=a.size
  ·walk_at"h";exact dc (D _ g _ ⟨_,_,rfl,c.last M3 z⟩)
  ·walk_at"i";by_cases z2:ia+k=a.size
   ·rw[if_pos (by simpa using z2)];exact dc (D _ g _ ⟨_,_,rfl,M3.Ol c.hA c.hB z2⟩)
   ·rw[if_neg (by simpa using z2)];exact Ca c (g.kind.trans hk) M3 (by lia) (lt (by lia)) h2 (by lia) (D _ g) (Y _ g)
 ·rw[if_neg k0];obtain rfl:k=0:=by lia
  exact Ca c (g.kind.trans hk) M h1 (lt (by lia)) h2 hN (D _ g) (Y _ g)
def G7(c:MC prog w A s κ r P a b)(M:MI r a b out ia ib)(h1:ia+1<a.size)(lt:R r b ib<=R r a ia)(h2:ib<b.size)(hN:N<=ia+ib+1)(D:∀ c,HS r a b c->Q (.done c) st)(Y:∀ c,LI r a b N c->Q (.done c) st/\Q (.yield c) st):wpS (aS prog w) A E s (loA a b mg bc ia ib out) Q st:=by
 refine cf (aF h2 λp e=>?_);have M2:=M.qH c.hA c.hB e λ_=>lt;by_cases z:ib+1=b.size
 ·walk_at"h";exact dc (D _ ⟨_,_,rfl,M2.Oj c.hA c.hB z⟩)
 ·walk_at"i";have y:=Y _ ⟨_,_,_,0,bc+1,rfl,M2,h1,by lia,hN⟩;split
  ·exact dc y.1
  ·exact dc y.2
def Ho(c:MC prog w A s κ r P a b)(M:MI r a b out ia ib)(h1:ia+1<a.size)(lt:R r a ia<=R r b ib)(h2:ib<b.size)(hN:N<=ia+ib+1)(D:∀ c,HS r a b c->Q (.done c) st)(Y:∀ c,LI r a b N c->Q (.done c) st/\Q (.yield c) st):wpS (aS prog w) A E s (loB a b mg ac ia ib out) Q st:=by
 refine cf (aF (by lia) λp e=>?_);have M2:=M.oR c.hA c.hB e λ_=>lt;by_cases z:ia+1+1=a.size
 ·walk_at"h";exact dc (D _ ⟨_,_,rfl,c.last M2 z⟩)
 ·walk_at"i";have y:=Y _ ⟨_,_,_,ac+1,0,rfl,M2,by lia,h2,by lia⟩;split
  ·exact dc y.1
  ·exact dc y.2
def Il(c:MC prog w A s κ r P a b)(hk:fN st=κ)(M:MI r a b out ia ib)(h1:ia+1<a.size)(h2:ib<b.size)(hN:N<=ia+ib+1)(D:∀ c,HS r a b c->Q (.done c) st)(Y:∀ c,LI r a b N c->Q (.done c) st/\Q (.yield c) st):wpS (aS prog w) A E s (loI a b mg x (none,out,ia,ib,ac,bc)) Q st:=by
 refine cf (aF h2 λpb eb=>cf (aF (show ia<a.size by lia) λpa ea=>cf (p7 c.C hk (c.pb.at eb) (c.pa.at ea) ?_)));have rb:R r b ib=r pb.1:=pj eb;have ra:R r a ia=r pa.1:=pj ea;dsimp only;by_cases hw:r pb.1<r pa.1
 ·rw[if_pos (decide_eq_true hw)];exact G7 c M h1 (by lia) h2 hN D Y
 ·rw[if_neg (by simpa using hw)];exact Ho c M h1 (by lia) h2 hN D Y
def GR(c:MC prog w A s κ r P a b)(hk:fN st=κ)(M:MI r a b out ia ib)(h1:ia+1<a.size)(h2:ib<b.size)(hN:N<=ia+ib)(D:∀ ai,Mg st ai->∀ c,HS r a b c->Q (.done c) ai)(Y:∀ ai,Mg st ai->∀ out ia ib mg,MI r a b out ia ib->ia+1<a.size->ib<b.size->N<=ia+ib->Q (.yield (none,out,ia,ib,mg)) ai):wpS (aS prog w) A E s (loP a b mg (none,out,ia,ib,ac,bc)) Q st:=by
 walk_at"y";refine cf (uj (qE (I:=λ_ c ai=>Mg st ai/\LY r a b N c) (Q:=λc ai=>Mg st ai/\(HS r a b c\/LY r a b N c)) ?step ?fin ⟨.refl st,_,_,_,_,_,_,rfl,M,h1,h2,hN⟩) ?post);case fin =>
  rintro c ai ⟨hm,q⟩;exact⟨hm,.inr q⟩
 case step =>
  rintro y c1 EV _ _ ⟨hm,out,ia,ib,mg,ac,bc,rfl,M,h1,h2,hN⟩;unfold loG;split<;>exact Hf c (hm.kind.trans hk) M h1 h2 hN (λai g c q=>⟨hm.trans g,.inl q⟩) λai g c q=>⟨⟨hm.trans g,.inr q⟩,hm.trans g,q⟩
 case post =>
  rintro c ai ⟨hm,⟨o,rest,rfl,hM⟩|⟨out,ia,ib,mg,ac,bc,rfl,M,h1,h2,hN⟩⟩
  ·exact dc (D _ hm _ ⟨_,_,rfl,hM⟩)
  ·exact cf (gC (dc (Y _ (hm.set _) _ _ _ _ M h1 h2 hN)))
def Hl(c:MC prog w A s κ r P a b)(hk:fN st=κ)(M:MI r a b out ia ib)(h1:ia+1<a.size)(h2:ib<b.size)(hN:N<=ia+ib)(D:∀ ai,Mg st ai->∀ c,HS r a b c->Q (.done c) ai)(Y:∀ ai,Mg st ai->∀ out ia ib mg,MI r a b out ia ib->ia+1<a.size->ib<b.size->N+1<=ia+ib->Q (.yield (none,out,ia,ib,mg)) ai):wpS (aS prog w) A E s (loO a b x (none,out,ia,ib,mg)) Q st:=by
 refine cf (uj (qE (I:=λy c ai=>ai=st/\LI r a b (N+y) c) (Q:=λc ai=>ai=st/\(HS r a b c\/LI r a b (N+1) c)) ?step ?fin ⟨rfl,_,_,_,_,_,rfl,M,h1,h2,hN⟩) ?post);case fin =>
  rintro c ai ⟨rfl,o,ia',ib',ac,bc,rfl,M',q1,q2,q3⟩;exact⟨rfl,.inr ⟨_,_,_,_,_,rfl,M',q1,q2,by lia⟩⟩
 case step =>
  rintro y c1 EV _ hy ⟨rfl,o,ia',ib',ac,bc,rfl,M',q1,q2,q3⟩;exact Il (N:=N+y+1) c hk M' q1 q2 (by lia) (λc q=>⟨rfl,.inl q⟩) λc q=>by obtain⟨o,ia,ib,ac,bc,rfl,M,h1,h2,h3⟩:=q;exact⟨⟨rfl,.inr ⟨_,_,_,_,_,rfl,M,h1,h2,by lia⟩⟩,rfl,_,_,_,_,_,rfl,M,h1,h2,by lia⟩
 case post =>
  rintro c1 ai ⟨rfl,⟨o,rest,rfl,hM⟩|⟨o,ia,ib,ac,bc,rfl,M',q1,q2,q3⟩⟩
  ·exact dc (D _ (.refl _) _ ⟨_,_,rfl,hM⟩)
  ·exact GR c hk M' q1 q2 q3 D Y
def qQ{st:eB}{a b:Array bX}{Q:Array bX->eB->Prop}(C:nI prog w A s κ r P)(hk:fN st=κ)(V6:AllP P a)(V7:AllP P b)(hA:Up r a 0 a.size)(hB:Up r b 0 b.size)(na:1<=a.size)(nb:1<=b.size)(h0:R r b 0<=R r a 0) (hg:∀ j,j<b.size->R r b j<=R r a (a.size-1)) (h:∀ out ai,bO r a b out->Mg st ai->Q out ai):wpS (aS prog w) A E s (tD a b) Q st:=by
 have c:MC prog w A s κ r P a b:=⟨C,V6,V7,hA,hB,λi hi=>zI h0 (hA 0 i (cw _) (fI _) hi),hg⟩
 rw[vN];walk_at"y";refine cf (aF nb λy0 e0=>?_);have M1:MI r a b #[y0] 0 1:=(MI.start hA hB).qH hA hB e0 λ_=>h0;by_cases c1:1=b.size
 ·rw[if_pos (by simpa using c1)];exact dc (h _ _ (M1.Oj hA hB c1) (.refl st))
 ·rw[if_neg (by simpa using c1)];by_cases c2:0+1=a.size
  ·rw[if_pos (by simpa using c2)];exact dc (h _ _ (c.last M1 c2) (.refl st))
  ·rw[if_neg (by simpa using c2)];refine cf (wpS_get ?_);refine cf (uj (qE (I:=λx c ai=>Mg st ai/\∃ out ia ib mg,c=(none,out,ia,ib,mg)/\MI r a b out ia ib/\ia+1<a.size/\ib<b.size/\x+1<=ia+ib) (Q:=λc ai=>Mg st ai/\HS r a b c) ?step ?fin ⟨.refl st,_,_,_,_,rfl,M1,by lia,by lia,by lia⟩) ?post)
   case fin =>
    rintro c ai ⟨_,out,ia,ib,mg,rfl,M,h1,h2,h3⟩;lia
   case post =>
    rintro c ai ⟨hm,out,rest,rfl,hM⟩;exact dc (h out ai hM hm)
   case step =>
    rintro x c1 EV _ hx ⟨qh,out,ia,ib,mg,rfl,M,h1,h2,h3⟩;exact Hl c (qh.kind.trans hk) M h1 h2 h3 (λai g c q=>⟨qh.trans g,q⟩) λai g out ia ib mg M h1 h2 h3=>⟨qh.trans g,_,_,_,_,rfl,M,h1,h2,h3⟩
end
abbrev Ge(r:ae->Int)(x y:bX):Prop:=r y.1<=r x.1
structure MH(r:ae->Int)(a b out:Array bX)(na nb:Nat):Prop where
 ha:na<=a.size
 hb:nb<=b.size
 perm:out.toList.Perm (a.toList.drop na++b.toList.drop nb)
 down:out.toList.Pairwise (Ge r)
 ga:∀ x∈out.toList,∀ i,i<na->R r a i<=r x.1
 gb:∀ x∈out.toList,∀ j,j<nb->R r b j<=r x.1
section
variable {r:ae->Int}{a b out:Array bX}{na nb:Nat}
def qN{α:Type}{l:List α}{i:Nat}{x:α}(h0:0<i)(h:l[i-1]? = some x):l.drop (i-1)=x :: l.drop i:=by obtain⟨hi,e⟩:=iN.mp h;rw[AZ hi,e,show i-1+1=i by exact Nat.sub_add_cancel ‹_›]
def MH.oR(M:MH r a b out na nb)(hA:Up r a 0 a.size)(hB:Up r b 0 b.size)(h0:0<na)(e:a[na-1]? = some y)(hl:0<nb->R r b (nb-1)<=R r a (na-1)):MH r a b (out.push y) (na-1) nb:=by
 have ey:=pj (r:=r) e;have ha:=M.ha;have hb:=M.hb;refine⟨by lia,M.hb,?_,?_,?_,?_⟩
 ·rw[qa,qN h0 (by simpa using e)];exact(M.perm.append_right [y]).trans UD
 ·rw[qa,IC];refine⟨M.down,by simp,λx hx z hz=>?_⟩;have:z=y:=by simpa using hz
  subst this;show r z.1<=r x.1;rw[<- ey];exact M.ga x hx (na-1) (by lia)
 ·intro x hx i hi;rw[qa] at hx;rcases dP.mp hx with hx|hx
  ·exact M.ga x hx i (by lia)
  ·have:x=y:=by simpa using hx
   subst this;rw[<- ey];exact hA i (na-1) (fI _) (by lia) (by lia)
 ·intro x hx j hj;rw[qa] at hx;rcases dP.mp hx with hx|hx
  ·exact M.gb x hx j hj
  ·have:x=y:=by simpa using hx
   subst this;rw[<- ey];exact zI (hB j (nb-1) (fI _) (by lia) (by lia)) (hl (by lia))
def MH.qH(M:MH r a b out na nb)(hA:Up r a 0 a.size)(hB:Up r b 0 b.size)(h0:0<nb)(e:b[nb-1]? = some y)(hl:0<na->R r a (na-1)<=R r b (nb-1)):MH r a b (out.push y) na (nb-1):=by
 have ey:=pj (r:=r) e;have ha:=M.ha;have hb:=M.hb;refine⟨M.ha,by lia,?_,?_,?_,?_⟩
 ·rw[qa,qN h0 (by simpa using e)];refine(M.perm.append_right [y]).trans ?_;rw[A4];exact List.Perm.append_left _ UD
 ·rw[qa,IC];refine⟨M.down,by simp,λx hx z hz=>?_⟩;have:z=y:=by simpa using hz
  subst this;show r z.1<=r x.1;rw[<- ey];exact M.gb x hx (nb-1) (by lia)
 ·intro x hx i hi;rw[qa] at hx;rcases dP.mp hx with hx|hx
  ·exact M.ga x hx i hi
  ·have:x=y:=by simpa using hx
   subst this;rw[<- ey];exact zI (hA i (na-1) (fI _) (by lia) (by lia)) (hl (by lia))
 ·intro x hx j hj;rw[qa] at hx;rcases dP.mp hx with hx|hx
  ·exact M.gb x hx j (by lia)
  ·have:x=y:=by simpa using hx
   subst this;rw[<- ey];exact hB j (nb-1) (fI _) (by lia) (by lia)
def jD{xs:Array bX}{i n:Nat}(h:i<n)(hn:n<=xs.size):(xs.extract i n).reverse = #[xs[n-1]'(by lia)]++(xs.extract i (n-1)).reverse:=by
 obtain⟨k,rfl⟩:∃ k,n=i+(k+1):=⟨n-1-i,by lia⟩
 have e3:i+(k+1)-1=i+k:=by rfl
 simp only[e3];rw[dX (by assumption),Array.reverse_push]
theorem MH.EL(hA:Up r a 0 a.size)(hB:Up r b 0 b.size):∀ (k:Nat) {out:Array bX} {na p:Nat},MH r a b out na nb->p+k=na->(0<nb->∀ i,p<=i->i<na->R r b (nb-1)<=R r a i)->MH r a b (out++(a.extract p na).reverse) p nb
 |0,out,na,p,M,h1,h2=>by
  have:a.extract p na = #[]:=Pn (by simp only[IY];lia);have e:na=p:=by lia
  subst e;rw[this];simpa using M
 |k+1,out,na,p,M,h1,h2=>by have ha:=M.ha;have e:a[na-1]? = some (a[na-1]'(by lia)):=getElem?_pos a (na-1) (by lia);have q:=M.oR hA hB (by lia) e λhb=>h2 hb _ (by lia) (by lia);have z:=MH.EL hA hB k q (by lia) λhb i mr k6=>h2 hb i mr (by lia);rw[jD (by lia) ha,<- R1];simpa using z
theorem MH.ER(hA:Up r a 0 a.size)(hB:Up r b 0 b.size):∀ (k:Nat) {out:Array bX} {nb p:Nat},MH r a b out na nb->p+k=nb->(0<na->∀ i,p<=i->i<nb->R r a (na-1)<=R r b i)->MH r a b (out++(b.extract p nb).reverse) na p
 |0,out,nb,p,M,h1,h2=>by
  have:b.extract p nb = #[]:=Pn (by simp only[IY];lia);have e:nb=p:=by lia
  subst e;rw[this];simpa using M
 |k+1,out,nb,p,M,h1,h2=>by have hb:=M.hb;have e:b[nb-1]? = some (b[nb-1]'(by lia)):=getElem?_pos b (nb-1) (by lia);have q:=M.qH hA hB (by lia) e λha=>h2 ha _ (by lia) (by lia);have z:=MH.ER hA hB k q (by lia) λha i mr k6=>h2 ha i mr (by lia);rw[jD (by lia) hb,<- R1];simpa using z
def MH.whole(M:MH r a b out 0 0):bO r a b out.reverse:=by
 refine⟨?_,?_⟩
 ·have h:=M.perm;rw[Array.toList_reverse];exact(List.reverse_perm _).trans h
 ·rw[Array.toList_reverse,List.pairwise_reverse];exact M.down
def mJ(x y:Array bX):(x++y.reverse).reverse=y++x.reverse:=by apply R3.mp;simp
def MH.Ol(M:MH r a b out na nb)(hA:Up r a 0 a.size)(hB:Up r b 0 b.size)(e:na=0):bO r a b (a.extract 0 na++b.extract 0 nb++out.reverse):=by
 subst e;have z:=MH.ER hA hB nb (p:=0) M (by exact Pl ..) λha=>absurd ha (wq _);have q:=z.whole;rw[mJ] at q;have e2:a.extract 0 0 = #[]:=by simp
 rw[e2,Array.empty_append];exact q
def MH.Oj(M:MH r a b out na nb)(hA:Up r a 0 a.size)(hB:Up r b 0 b.size)(e:nb=0):bO r a b (a.extract 0 na++b.extract 0 nb++out.reverse):=by
 subst e;have z:=MH.EL hA hB na (p:=0) M (by exact Pl ..) λhb=>absurd hb (wq _);have q:=z.whole;rw[mJ] at q;have e2:b.extract 0 0 = #[]:=by simp
 rw[e2,UX];exact q
def MH.sX(M:MH r a b out na nb)(hA:Up r a 0 a.size)(hB:Up r b 0 b.size)(e:nb=1)(hl:∀ i,i<a.size->R r b 0<=R r a i):bO r a b (b.extract 0 nb++a.extract 0 na++out.reverse):=by subst e;have ha:=M.ha;have z:=MH.EL hA hB na (p:=0) M (by exact Pl ..) λ_ i _ hi=>hl i (by lia);have z2:=MH.ER hA hB 1 (p:=0) z (by exact Pl ..) λh=>absurd h (wq _);have q:=z2.whole;rw[mJ,mJ] at q;rw[R1];exact q
def MH.start:MH r a b #[] a.size b.size:=⟨cw _,cw _,by simp,by simp,λx hx=>by simp at hx,λx hx=>by simp at hx⟩
end
abbrev S1:=Option (Array bX) × Nat × Nat × Array bX × Nat
abbrev S2:=Option (Array bX) × Nat × Nat × Array bX × Nat × Nat
abbrev S3:=Option (Array bX) × Nat × Nat × Array bX × Nat × Nat × Nat
def GU(a b out:Array bX)(na nb:Nat):Array bX:=a.extract 0 na++b.extract 0 nb++out.reverse
def Te(a b out:Array bX)(na nb:Nat):Array bX:=b.extract 0 nb++a.extract 0 na++out.reverse
def V8(a b:Array bX)(mg ac bc na nb:Nat)(out:Array bX):SM (ForInStep S3):=elem' a (na-1) >>= λp =>
 if (na-1 == 0)=true then pure (.done (some (GU a b (out.push p) (na-1) nb),na-1,nb,out.push p,mg,ac,bc))
 else if (decide (ac<7) && decide (bc<7))=true then pure (.done (none,na-1,nb,out.push p,mg,ac,bc)) else pure (.yield (none,na-1,nb,out.push p,mg,ac,bc))
def k6(a b:Array bX)(mg ac bc na nb:Nat)(out:Array bX):SM (ForInStep S3):=elem' a (na-1) >>= λp=>jQ true p b 0 nb (nb-1) >>= λx=>match x with
 |some k=>if nb-k>0 then
   if (k == 1)=true then pure (.done (some (Te a b (out++(b.extract k nb).reverse) na k),na,k,out++(b.extract k nb).reverse,mg,ac,nb-k))
   else if (k == 0)=true then pure (.done (some (GU a b (out++(b.extract k nb).reverse) na k),na,k,out++(b.extract k nb).reverse,mg,ac,nb-k))
   else V8 a b mg ac (nb-k) na k (out++(b.extract k nb).reverse)
  else V8 a b mg ac (nb-k) na nb out
 |_=>pure (.done (some (GU a b out na nb),na,nb,out,mg,ac,bc))
def mr(a b:Array bX)(mg ac bc na nb:Nat)(out:Array bX):SM (ForInStep S3):=elem' b (nb-1) >>= λp =>
 if (nb-1 == 1)=true then pure (.done (some (Te a b (out.push p) na (nb-1)),na,nb-1,out.push p,mg,ac,bc)) else k6 a b mg ac bc na (nb-1) (out.push p)
def vw(a b:Array bX)(mg ac bc na nb:Nat)(out:Array bX):SM (ForInStep S3):=bj mg >>= λ_=>elem' b (nb-1) >>= λp=>jQ false p a 0 na (na-1) >>= λx=>match x with
 |some k=>if na-k>0 then
   if (k == 0)=true then pure (.done (some (GU a b (out++(a.extract k na).reverse) k nb),k,nb,out++(a.extract k na).reverse,mg,na-k,bc))
   else mr a b mg (na-k) bc k nb (out++(a.extract k na).reverse)
  else mr a b mg (na-k) bc na nb out
 |_=>pure (.done (some (GU a b out na nb),na,nb,out,mg,ac,bc))
def hiG(a b:Array bX)(_:Nat)(s:S3):SM (ForInStep S3) :=
 if s.2.2.2.2.1>1 then vw a b (s.2.2.2.2.1-1) s.2.2.2.2.2.1 s.2.2.2.2.2.2 s.2.1 s.2.2.1 s.2.2.2.1 else vw a b s.2.2.2.2.1 s.2.2.2.2.2.1 s.2.2.2.2.2.2 s.2.1 s.2.2.1 s.2.2.2.1
def hiA(a b:Array bX)(mg ac na nb:Nat)(out:Array bX):SM (ForInStep S2):=elem' a (na-1) >>= λp =>
 if (na-1 == 0)=true then pure (.done (some (GU a b (out.push p) (na-1) nb),na-1,nb,out.push p,ac+1,0))
 else if ac+1 >= mg then pure (.done (none,na-1,nb,out.push p,ac+1,0)) else pure (.yield (none,na-1,nb,out.push p,ac+1,0))
def hiB(a b:Array bX)(mg bc na nb:Nat)(out:Array bX):SM (ForInStep S2):=elem' b (nb-1) >>= λp =>
 if (nb-1 == 1)=true then pure (.done (some (Te a b (out.push p) na (nb-1)),na,nb-1,out.push p,0,bc+1))
 else if bc+1 >= mg then pure (.done (none,na,nb-1,out.push p,0,bc+1)) else pure (.yield (none,na,nb-1,out.push p,0,bc+1))
def hiI(a b:Array bX)(mg:Nat)(_:Nat)(s:S2):SM (ForInStep S2):=elem' b (s.2.2.1-1) >>= λpb=>elem' a (s.2.1-1) >>= λpa=>lt' pb pa >>= λx=>match x with
 |some w=>if w=true then hiA a b mg s.2.2.2.2.1 s.2.1 s.2.2.1 s.2.2.2.1 else hiB a b mg s.2.2.2.2.2 s.2.1 s.2.2.1 s.2.2.2.1
 |_=>pure (.done (some (GU a b s.2.2.2.1 s.2.1 s.2.2.1),s.2.1,s.2.2.1,s.2.2.2.1,s.2.2.2.2.1,s.2.2.2.2.2))
def hiP (a b:Array bX) (mg:Nat) (t:S2):SM (ForInStep S1):=(liftM (rule "list.sort.gallop"):SM Unit) >>= λ_ =>
 forIn [:a.size+b.size] ((none,t.2.1,t.2.2.1,t.2.2.2.1,mg+1,t.2.2.2.2.1,t.2.2.2.2.2):S3) (hiG a b) >>= λu=>match u.1 with
 |some r=>pure (.done (some r,u.2.1,u.2.2.1,u.2.2.2.1,u.2.2.2.2.1))
 |none=>bj (u.2.2.2.2.1+1) >>= λ_=>pure (.yield (none,u.2.1,u.2.2.1,u.2.2.2.1,u.2.2.2.2.1+1))
def hiO(a b:Array bX)(_:Nat)(s:S1):SM (ForInStep S1):=forIn [:a.size+b.size] ((none,s.2.1,s.2.2.1,s.2.2.2.1,0,0):S2) (hiI a b s.2.2.2.2) >>= λt=>match t.1 with
 |some r=>pure (.done (some r,t.2.1,t.2.2.1,t.2.2.2.1,s.2.2.2.2))
 |none=>hiP a b s.2.2.2.2 t
def hiM (a b:Array bX):SM (Array bX):=(liftM (rule "list.sort.merge-hi"):SM Unit) >>= λ_=>elem' a (a.size-1) >>= λy =>
 if (a.size-1 == 0)=true then pure (GU a b #[y] (a.size-1) b.size)
 else if (b.size == 1)=true then pure (Te a b #[y] (a.size-1) b.size)
 else get >>= λst=>forIn [:a.size+b.size] ((none,a.size-1,b.size,#[y],gallopOf st):S1) (hiO a b) >>= λt=>match t.1 with
 |some r=>pure r
 |none=>(liftM (unsupported (α:=Array bX) "internal:list.sort.merge-bound"):SM (Array bX))
set_option smartUnfolding false in
def uY:tQ=hiM:=rfl
section
variable {prog:d5}{w:eJ}{A:fh}{E:ae->ax->Prop}{s:ax}{κ:pV}{r:ae->Int}{P:ae->Prop}{a b out:Array bX}{mg ac bc na nb N:Nat}{st:eB}{Q:ForInStep S3->eB->Prop}
def HD(r:ae->Int)(a b:Array bX)(Q:ForInStep S3->eB->Prop)(st:eB):Prop:=∀ o rest,bO r a b o->Q (.done (some o,rest)) st
def HY(r:ae->Int)(a b:Array bX)(N:Nat)(Q:ForInStep S3->eB->Prop)(st:eB):Prop :=
 ∀ o na nb mg ac bc,MH r a b o na nb->1<=na->2<=nb->na+nb<=N->Q (.done (none,na,nb,o,mg,ac,bc)) st/\Q (.yield (none,na,nb,o,mg,ac,bc)) st
def CK(c:MC prog w A s κ r P a b)(M:MH r a b out na nb)(h1:0<na)(lt:R r b (nb-1)<=R r a (na-1))(h2:2<=nb)(hN:na+nb<=N)(D:HD r a b Q st)(Y:HY r a b N Q st):wpS (aS prog w) A E s (V8 a b mg ac bc na nb out) Q st:=by
 have ha:=M.ha;refine cf (aF (by lia) λp e=>?_);have M2:=M.oR c.hA c.hB h1 e λ_=>lt;by_cases z:na-1=0
 ·walk_at"h";exact dc (D _ _ (M2.Ol c.hA c.hB z))
 ·walk_at"i";have y:=Y _ _ _ mg ac bc M2 (by lia) h2 (by lia);split
  ·exact dc y.1
  ·exact dc y.2
def Jb(c:MC prog w A s κ r P a b)(hk:fN st=κ)(M:MH r a b out na nb)(h1:0<na)(h2:2<=nb)(hN:na+nb<=N)(D:HD r a b Q st)(Y:HY r a b N Q st):wpS (aS prog w) A E s (k6 a b mg ac bc na nb out) Q st:=by
 have ha:=M.ha;have hb:=M.hb;refine cf (aF (by lia) λp e=>cf (cF c.C hk c.pb (c.pa.at e) (by lia) (by lia) (λi j u v w=>c.hB i j u v (by lia)) λl Om yb Oo=>?_));have ra:=pj (r:=r) e;dsimp only;have lt:0<l->R r b (l-1)<=R r a (na-1):=λz=>by have:=Di (yb (l-1) (by exact Nat.sub_lt ‹_› Nat.one_pos));rw[IQ] at this;lia
 by_cases l0:nb-l>0
 ·have M5:=MH.ER c.hA c.hB (nb-l) (p:=l) M (by exact Pk ‹_›) λ_ i mr k6=>by have:=tZ (Oo i mr k6);rw[IQ] at this;lia
  rw[if_pos l0];by_cases z4:l=1
  ·rw[if_pos (by simpa using z4)];exact dc (D _ _ (M5.sX c.hA c.hB z4 c.hl))
  ·rw[if_neg (by simpa using z4)];by_cases z6:l=0
   ·rw[if_pos (by simpa using z6)];exact dc (D _ _ (M5.Oj c.hA c.hB z6))
   ·rw[if_neg (by simpa using z6)];exact CK c M5 h1 (lt (by lia)) (by lia) (by lia) D Y
 ·rw[if_neg l0];obtain rfl:l=nb:=by lia
  exact CK c M h1 (lt (by exact UQ ‹_›)) h2 hN D Y
def Br(c:MC prog w A s κ r P a b)(hk:fN st=κ)(M:MH r a b out na nb)(h1:0<na)(h2:2<=nb)(lt:R r a (na-1)<=R r b (nb-1))(hN:na+nb<=N)(D:HD r a b Q st)(Y:HY r a b N Q st):wpS (aS prog w) A E s (mr a b mg ac bc na nb out) Q st:=by
 have hb:=M.hb;refine cf (aF (by lia) λp e=>?_);have M4:=M.qH c.hA c.hB (by exact UQ ‹_›) e λ_=>lt;by_cases z:nb-1=1
 ·walk_at"h";exact dc (D _ _ (M4.sX c.hA c.hB z c.hl))
 ·walk_at"i";exact Jb c hk M4 h1 (by lia) (by lia) D Y
def I_(c:MC prog w A s κ r P a b)(hk:fN st=κ)(M:MH r a b out na nb)(h1:0<na)(h2:2<=nb)(hN:na+nb<=N)(D:∀ ai,Mg st ai->HD r a b Q ai)(Y:∀ ai,Mg st ai->HY r a b N Q ai):wpS (aS prog w) A E s (vw a b mg ac bc na nb out) Q st:=by
 have ha:=M.ha;have hb:=M.hb;have g:=(Mg.refl st).set mg;refine cf (gC ?_);refine cf (aF (by lia) λp e=>cf (cF c.C (g.kind.trans hk) c.pa (c.pb.at e) (by lia) (by exact Nat.sub_lt ‹_› Nat.one_pos) (λi j u v w=>c.hA i j u v (by lia)) λk hk1 xa Lc=>?_));have rb:=pj (r:=r) e;dsimp only;have lt:0<k->R r a (k-1)<=R r b (nb-1):=λz=>by have:=Av (xa (k-1) (by exact Nat.sub_lt ‹_› Nat.one_pos));rw[IQ] at this;lia
 by_cases k0:na-k>0
 ·have M3:=MH.EL c.hA c.hB (na-k) (p:=k) M (by exact Pk ‹_›) λ_ i mr k6=>by have:=wV (Lc i mr k6);rw[IQ] at this;lia
  rw[if_pos k0];by_cases z:k=0
  ·walk_at"h";exact dc (D _ g _ _ (M3.Ol c.hA c.hB z))
  ·walk_at"i";exact Br c (g.kind.trans hk) M3 (by lia) h2 (lt (by lia)) (by lia) (D _ g) (Y _ g)
 ·rw[if_neg k0];obtain rfl:k=na:=by lia
  exact Br c (g.kind.trans hk) M h1 h2 (lt h1) hN (D _ g) (Y _ g)
def HI(r:ae->Int)(a b:Array bX)(N:Nat)(c:S2):Prop:=∃ na nb out ac bc,c=(none,na,nb,out,ac,bc)/\MH r a b out na nb/\1<=na/\2<=nb/\na+nb<=N
def Hb{Q:ForInStep S2->eB->Prop}(c:MC prog w A s κ r P a b)(M:MH r a b out na nb)(h1:0<na)(lt:R r b (nb-1)<=R r a (na-1))(h2:2<=nb)(hN:na+nb<=N+1)(D:∀ c,HS r a b c->Q (.done c) st)(Y:∀ c,HI r a b N c->Q (.done c) st/\Q (.yield c) st):wpS (aS prog w) A E s (hiA a b mg ac na nb out) Q st:=by
 have ha:=M.ha;refine cf (aF (by lia) λp e=>?_);have M2:=M.oR c.hA c.hB h1 e λ_=>lt;by_cases z:na-1=0
 ·walk_at"h";exact dc (D _ ⟨_,_,rfl,M2.Ol c.hA c.hB z⟩)
 ·walk_at"i";have y:=Y _ ⟨_,_,_,ac+1,0,rfl,M2,by lia,h2,by lia⟩;split
  ·exact dc y.1
  ·exact dc y.2
def Hh{Q:ForInStep S2->eB->Prop}(c:MC prog w A s κ r P a b)(M:MH r a b out na nb)(h1:0<na)(lt:R r a (na-1)<=R r b (nb-1))(h2:2<=nb)(hN:na+nb<=N+1)(D:∀ c,HS r a b c->Q (.done c) st)(Y:∀ c,HI r a b N c->Q (.done c) st/\Q (.yield c) st):wpS (aS prog w) A E s (hiB a b mg bc na nb out) Q st:=by
 have hb:=M.hb;refine cf (aF (by lia) λp e=>?_);have M2:=M.qH c.hA c.hB (by exact UQ ‹_›) e λ_=>lt;by_cases z:nb-1=1
 ·walk_at"h";exact dc (D _ ⟨_,_,rfl,M2.sX c.hA c.hB z c.hl⟩)
 ·walk_at"i";have y:=Y _ ⟨_,_,_,0,bc+1,rfl,M2,h1,by lia,by lia⟩;split
  ·exact dc y.1
  ·exact dc y.2
def Ip{Q:ForInStep S2->eB->Prop}{x:Nat}(c:MC prog w A s κ r P a b)(hk:fN st=κ)(M:MH r a b out na nb)(h1:0<na)(h2:2<=nb)(hN:na+nb<=N+1)(D:∀ c,HS r a b c->Q (.done c) st)(Y:∀ c,HI r a b N c->Q (.done c) st/\Q (.yield c) st):wpS (aS prog w) A E s (hiI a b mg x (none,na,nb,out,ac,bc)) Q st:=by
 have ha:=M.ha;have hb:=M.hb;refine cf (aF (show nb-1<b.size by lia) λpb eb=>cf (aF (show na-1<a.size by lia) λpa ea=>cf (p7 c.C hk (c.pb.at eb) (c.pa.at ea) ?_)));have rb:R r b (nb-1)=r pb.1:=pj eb;have ra:R r a (na-1)=r pa.1:=pj ea;dsimp only;by_cases hw:r pb.1<r pa.1
 ·rw[if_pos (decide_eq_true hw)];exact Hb c M h1 (by lia) h2 hN D Y
 ·rw[if_neg (by simpa using hw)];exact Hh c M h1 (by lia) h2 hN D Y
def Gq{Q:ForInStep S1->eB->Prop}(c:MC prog w A s κ r P a b)(hk:fN st=κ)(M:MH r a b out na nb)(h1:0<na)(h2:2<=nb)(hN:na+nb<=N)(D:∀ ai,Mg st ai->∀ c,HS r a b c->Q (.done c) ai)(Y:∀ ai,Mg st ai->∀ out na nb mg,MH r a b out na nb->1<=na->2<=nb->na+nb<=N->Q (.yield (none,na,nb,out,mg)) ai):wpS (aS prog w) A E s (hiP a b mg (none,na,nb,out,ac,bc)) Q st:=by
 walk_at"y";refine cf (uj (qE (I:=λ_ c ai=>Mg st ai/\∃ na nb out mg ac bc,c=(none,na,nb,out,mg,ac,bc)/\MH r a b out na nb/\1<=na/\2<=nb/\na+nb<=N) (Q:=λc ai=>Mg st ai/\(HS r a b c\/∃ na nb out mg ac bc,c=(none,na,nb,out,mg,ac,bc)/\MH r a b out na nb/\1<=na/\2<=nb/\na+nb<=N)) ?step ?fin ⟨.refl st,_,_,_,_,_,_,rfl,M,h1,h2,hN⟩) ?post)
 case fin =>
  rintro c ai ⟨hm,q⟩;exact⟨hm,.inr q⟩
 case step =>
  rintro y c1 EV _ _ ⟨hm,na,nb,out,mg,ac,bc,rfl,M,h1,h2,hN⟩;unfold hiG;split<;>exact I_ c (hm.kind.trans hk) M h1 h2 hN (λai g o rest hM=>⟨hm.trans g,.inl ⟨o,rest,rfl,hM⟩⟩) λai g o na nb mg ac bc M h1 h2 hN=>⟨⟨hm.trans g,.inr ⟨_,_,_,_,_,_,rfl,M,h1,h2,hN⟩⟩,hm.trans g,_,_,_,_,_,_,rfl,M,h1,h2,hN⟩
 case post =>
  rintro c ai ⟨hm,⟨o,rest,rfl,hM⟩|⟨na,nb,out,mg,ac,bc,rfl,M,h1,h2,hN⟩⟩
  ·exact dc (D _ hm _ ⟨_,_,rfl,hM⟩)
  ·exact cf (gC (dc (Y _ (hm.set _) _ _ _ _ M h1 h2 hN)))
def Ht{Q:ForInStep S1->eB->Prop}{x:Nat}(c:MC prog w A s κ r P a b)(hk:fN st=κ)(M:MH r a b out na nb)(h1:0<na)(h2:2<=nb)(hN:na+nb<=N+1)(D:∀ ai,Mg st ai->∀ c,HS r a b c->Q (.done c) ai)(Y:∀ ai,Mg st ai->∀ out na nb mg,MH r a b out na nb->1<=na->2<=nb->na+nb<=N->Q (.yield (none,na,nb,out,mg)) ai):wpS (aS prog w) A E s (hiO a b x (none,na,nb,out,mg)) Q st:=by
 have hb:=M.hb;refine cf (uj (qE (I:=λy c ai=>ai=st/\HI r a b (N+1-y) c) (Q:=λc ai=>ai=st/\(HS r a b c\/HI r a b N c)) ?step ?fin ⟨rfl,_,_,_,_,_,rfl,M,h1,h2,hN⟩) ?post);case fin =>
  rintro c ai ⟨rfl,na',px,o,ac,bc,rfl,M',q1,q2,q3⟩;exact⟨rfl,.inr ⟨_,_,_,_,_,rfl,M',q1,q2,by lia⟩⟩
 case step =>
  rintro y c1 EV _ hy ⟨rfl,na',px,o,ac,bc,rfl,M',q1,q2,q3⟩;exact Ip (N:=N-y) c hk M' q1 q2 (by lia) (λc q=>⟨rfl,.inl q⟩) λc q=>by obtain⟨na,nb,o,ac,bc,rfl,M,h1,h2,h3⟩:=q;exact⟨⟨rfl,.inr ⟨_,_,_,_,_,rfl,M,h1,h2,by lia⟩⟩,rfl,_,_,_,_,_,rfl,M,h1,h2,by lia⟩
 case post =>
  rintro c1 ai ⟨rfl,⟨o,rest,rfl,hM⟩|⟨na,nb,o,ac,bc,rfl,M',q1,q2,q3⟩⟩
  ·exact dc (D _ (.refl _) _ ⟨_,_,rfl,hM⟩)
  ·exact Gq c hk M' q1 q2 q3 D Y
def sI{st:eB}{a b:Array bX}{Q:Array bX->eB->Prop}(C:nI prog w A s κ r P)(hk:fN st=κ)(V6:AllP P a)(V7:AllP P b)(hA:Up r a 0 a.size)(hB:Up r b 0 b.size)(na:1<=a.size)(nb:1<=b.size)(h0:R r b 0<=R r a 0) (hg:∀ j,j<b.size->R r b j<=R r a (a.size-1)) (h:∀ out ai,bO r a b out->Mg st ai->Q out ai):wpS (aS prog w) A E s (tQ a b) Q st:=by
 have c:MC prog w A s κ r P a b:=⟨C,V6,V7,hA,hB,λi hi=>zI h0 (hA 0 i (cw _) (fI _) hi),hg⟩
 rw[uY];walk_at"y";refine cf (aF (by lia) λy0 e0=>?_);have M1:MH r a b #[y0] (a.size-1) b.size:=MH.start.oR hA hB na e0 λ_=>hg _ (by lia);by_cases c1:a.size-1=0
 ·rw[if_pos (by simpa using c1)];exact dc (h _ _ (M1.Ol hA hB c1) (.refl st))
 ·rw[if_neg (by simpa using c1)];by_cases c2:b.size=1
  ·rw[if_pos (by simpa using c2)];exact dc (h _ _ (M1.sX hA hB c2 c.hl) (.refl st))
  ·rw[if_neg (by simpa using c2)];refine cf (wpS_get ?_);refine cf (uj (qE (I:=λx c ai=>Mg st ai/\∃ na nb out mg,c=(none,na,nb,out,mg)/\MH r a b out na nb/\1<=na/\2<=nb/\na+nb<=a.size+b.size-x) (Q:=λc ai=>Mg st ai/\HS r a b c) ?step ?fin ⟨.refl st,_,_,_,_,rfl,M1,by lia,by lia,by lia⟩) ?post)
   case fin =>
    rintro c ai ⟨_,na,nb,out,mg,rfl,M,h1,h2,h3⟩;lia
   case post =>
    rintro c ai ⟨hm,out,rest,rfl,hM⟩;exact dc (h out ai hM hm)
   case step =>
    rintro x c1 EV _ hx ⟨qh,na,nb,out,mg,rfl,M,h1,h2,h3⟩;exact Ht c (qh.kind.trans hk) M h1 h2 (by lia) (λai g c q=>⟨qh.trans g,q⟩) λai g out na nb mg M h1 h2 h3=>⟨qh.trans g,_,_,_,_,rfl,M,h1,h2,h3⟩
end
def wr(p:Nat)(m:List bX)(n:Nat)(xs:Array bX):Array bX:=(m.zipIdx n).foldl (λa (q:bX × Nat)=>a.setIfInBounds (p+q.2) q.1) xs
theorem wM(p:Nat):∀ (m:List bX) (n:Nat) (xs:Array bX),p+n+m.length<=xs.size->∀ k:Nat,(wr p m n xs)[k]? = if p+n<=k/\k<p+n+m.length then m[k-(p+n)]? else xs[k]?
 |[],n,xs,h,k=>by rw[if_neg (by simp only[RH];lia)];rfl
 |q :: m,n,xs,h,k=>by
  have ih:=wM p m (n+1) (xs.setIfInBounds (p+n) q) (by rw[Array.size_setIfInBounds];simp only[pd] at h;lia) k;have e:wr p (q :: m) n xs=wr p m (n+1) (xs.setIfInBounds (p+n) q):=by unfold wr;rw[List.zipIdx_cons,List.foldl_cons]
  simp only[pd] at h ⊢;rw[e,ih];by_cases h1:p+(n+1)<=k/\k<p+(n+1)+m.length
  ·rw[if_pos h1,if_pos (by lia),show k-(p+n)=(k-(p+(n+1)))+1 by lia,List.getElem?_cons_succ]
  ·rw[if_neg h1];by_cases h2:k=p+n
   ·subst h2;rw[if_pos (by lia),Nat.sub_self,List.getElem?_cons_zero,Array.getElem?_setIfInBounds_self_of_lt (by lia)]
   ·rw[if_neg (by lia),Array.getElem?_setIfInBounds_ne (by lia)]
def Fd(h:p+m.length<=xs.size):(wr p m 0 xs).toList=xs.toList.take p++m++xs.toList.drop (p+m.length):=by
 have hl:xs.toList.length=xs.size:=by simp
 apply D5;intro k;have e:=wM p m 0 xs h k;rw[Pm] at e;rw[n4,e];by_cases h1:k<p
 ·rw[if_neg (by lia),A4,Fc (by rw[oq];lia),List.getElem?_take_of_lt h1,n4]
 ·by_cases h2:k<p+m.length
  ·rw[if_pos (by lia),A4,Cb (by rw[oq];lia),oq,show min p xs.toList.length=p by lia,Fc (by lia)]
  ·rw[if_neg (by lia),A4,Cb (by rw[oq];lia),oq,show min p xs.toList.length=p by lia,Cb (by lia),List.getElem?_drop,
    show p+m.length+(k-p-m.length)=k by lia,n4]
def Gk{p q:Nat}{xs:Array bX}(h:p<=q)(h2:q<=xs.size):xs.toList=xs.toList.take p++(xs.extract p q).toList++xs.toList.drop q:=by
 rw[UW,Uy];have e1:xs.toList.take p++(xs.toList.drop p).take (q-p)=xs.toList.take q:=by rw[<- O_ p (xs.toList.take q),List.take_take,List.drop_take,Nat.min_eq_left h]
 rw[e1,O_]
def Ej{p q:Nat}{m:List bX}{xs:Array bX}(h:p<=q)(h2:q<=xs.size)(hm:m.Perm (xs.extract p q).toList):(wr p m 0 xs).Perm xs:=by
 have hl:m.length=q-p:=by rw[hm.length_eq];simp;lia
 rw[UU,Fd (by lia),show p+m.length=q by lia];have e:=Gk h h2;exact(List.Perm.append_right _ (List.Perm.append_left _ hm)).trans (by rw[<- e])
def Runs(r:ae->Int)(xs:Array bX):List (Nat × Nat × Nat)->Nat->Nat->Prop
 |[],a,b=>a=b
 | (s,n,_) :: rest,a,b=>s=a/\1<=n/\Up r xs s (s+n)/\Runs r xs rest (s+n) b
section
variable {r:ae->Int}{xs ys:Array bX}
theorem Runs.le:∀ {ps:List (Nat × Nat × Nat)} {a b:Nat},Runs r xs ps a b->a+ps.length<=b
 |[],a,b,h=>by simp only[Runs] at h;simp;lia
 | (s,n,p) :: rest,a,b,h=>by obtain⟨rfl,h1,_,h3⟩:=h;have:=Runs.le h3;simp only[pd];lia
theorem Runs.append:∀ {ps qs:List (Nat × Nat × Nat)} {a b:Nat},Runs r xs (ps++qs) a b↔∃ c,Runs r xs ps a c/\Runs r xs qs c b
 |[],qs,a,b=>by simp[Runs]
 | (s,n,p) :: rest,qs,a,b=>by
  constructor
  ·rintro⟨h1,h2,h3,h4⟩;obtain⟨c,h5,h6⟩:=Runs.append.mp h4;exact⟨c,⟨h1,h2,h3,h5⟩,h6⟩
  ·rintro⟨c,⟨h1,h2,h3,h5⟩,h6⟩;exact⟨h1,h2,h3,Runs.append.mpr ⟨c,h5,h6⟩⟩
def Up.congr(h:Up r xs a b)(e:∀ k,a<=k->k<b->ys[k]? = xs[k]?):Up r ys a b:=λi j h1 h2 h3=>by rw[cJ (e i h1 (by lia)),cJ (e j (by lia) h3)];exact h i j h1 h2 h3
theorem Runs.congr:∀ {ps:List (Nat × Nat × Nat)} {a b:Nat},Runs r xs ps a b->(∀ k,a<=k->k<b->ys[k]? = xs[k]?)->Runs r ys ps a b
 |[],a,b,h,_=>h
 | (s,n,p) :: rest,a,b,h,e=>by obtain⟨rfl,h1,h2,h3⟩:=h;have l:=h3.le;exact⟨rfl,h1,h2.congr λk u v=>e k u (by lia),Runs.congr h3 λk u v=>e k (by lia) v⟩
def Up.glue(h1:Up r xs a b)(h2:Up r xs b c)(h:∀ i j,a<=i->i<b->b<=j->j<c->R r xs i<=R r xs j):Up r xs a c:=λi j u v w=>by
 by_cases hj:j<b
 ·exact h1 i j u v hj
 ·by_cases hi:i<b
  ·exact h i j u hi (by lia) w
  ·exact h2 i j (by lia) v w
end
section
variable {prog:d5}{w:eJ}{A:fh}{E:ae->ax->Prop}{s:ax}{κ:pV}{r:ae->Int}{P:ae->Prop}
def AllP.extract(h:AllP P xs)(i j:Nat):AllP P (xs.extract i j):=λp hp=>h p (by
 rw[UW,Uy] at hp;exact UE (Rv hp))
def di(h:i+k<j)(hj:j<=xs.size):R r (xs.extract i j) k=R r xs (i+k):=by apply cJ;rw[RZ,if_pos (by lia)]
def Up.extract(h:Up r xs i j)(kf:i<=j)(hj:j<=xs.size):Up r (xs.extract i j) 0 (xs.extract i j).size:=λa b _ h2 h3=>by
 have e:(xs.extract i j).size=j-i:=by simp only[IY];lia
 rw[di (by lia) hj,di (by lia) hj];exact h _ _ (by lia) (by lia) (by lia)
def xx(hz:sa+na+nb<=xs.size)(hk:k<na)(hnb:px<=nb)(hA:Up r xs sa (sa+na))(hB:Up r xs (sa+na) (sa+na+nb))(lo1:∀ i,i<k->R r xs (sa+i)<=R r xs (sa+na)) (K2:R r xs (sa+na)<R r xs (sa+k)) (mr:∀ i,i<px->R r xs (sa+na+i)<R r xs (sa+na-1)) (k6:∀ i,px<=i->i<nb->R r xs (sa+na-1)<=R r xs (sa+na+i))(hm:bO r (xs.extract (sa+k) (sa+na)) (xs.extract (sa+na) (sa+na+px)) m) :
  Up r (wr (sa+k) m.toList 0 xs) sa (sa+na+nb)/\(wr (sa+k) m.toList 0 xs).Perm xs/\∀ j,j<sa\/sa+na+nb<=j->(wr (sa+k) m.toList 0 xs)[j]? = xs[j]? := by
 obtain⟨mp,mu⟩:=hm;have eab:(xs.extract (sa+k) (sa+na)).toList++(xs.extract (sa+na) (sa+na+px)).toList=(xs.extract (sa+k) (sa+na+px)).toList:=by rw[<- Array.toList_append,Array.extract_append_extract,show min (sa+k) (sa+na)=sa+k by lia,show max (sa+na) (sa+na+px)=sa+na+px by lia]
 rw[eab] at mp;have ml:m.toList.length=na+px-k:=by rw[mp.length_eq];simp;lia
 have hw:sa+k+m.toList.length<=xs.size:=by lia
 have get:=wM (sa+k) m.toList 0 xs (by lia);rw[Pm,ml] at get
 -- every merged item is one of the mf'
 have mem:∀ (j:Nat) p,m.toList[j]? = some p->∃ i,sa+k<=i/\i<sa+na+px/\r p.1=R r xs i:=λj p e=>by
  have hp:p∈(xs.extract (sa+k) (sa+na+px)).toList:=mp.mem_iff.mp (ly e);obtain⟨i,hi⟩:=List.getElem?_of_mem hp;rw[n4,RZ] at hi;split at hi
  ·exact⟨sa+k+i,by lia,by lia,(pj hi).symm⟩
  ·cases hi
 have low:∀ i,sa+k<=i->i<sa+na+px->R r xs (sa+na)<=R r xs i:=λi h1 h2=>by
  by_cases h3:i<sa+na
  ·exact zI (IZ K2) (hA (sa+k) i (by lia) h1 h3)
  ·exact hB (sa+na) i (cw _) (by lia) (by lia)
 have high:∀ i,sa+k<=i->i<sa+na+px->R r xs i<=R r xs (sa+na-1):=λi h1 h2=>by
  by_cases h3:i<sa+na
  ·exact hA i (sa+na-1) (by lia) (by lia) (by lia)
  ·have:=mr (i-(sa+na)) (by lia);rw[show sa+na+(i-(sa+na))=i by lia] at this;lia
 have Rin:∀ j,j<na+px-k->∃ i,sa+k<=i/\i<sa+na+px/\R r (wr (sa+k) m.toList 0 xs) (sa+k+j)=R r xs i:=λj hj=>by
  have e:=get (sa+k+j);rw[if_pos (by lia),show sa+k+j-(sa+k)=j by lia] at e;have rL:j<m.toList.length:=by lia
  obtain⟨i,h1,h2,h3⟩:=mem j m.toList[j] (kR rL);rw[kR rL] at e;exact⟨i,h1,h2,(pj e).trans h3⟩
 have Oq:∀ j,j<sa+k\/sa+na+px<=j->(wr (sa+k) m.toList 0 xs)[j]? = xs[j]? := λj hj=>by have e:=get j;rw[if_neg (by lia)] at e;exact e
 refine⟨?_,Ej (by lia) (by lia) mp,λj hj=>Oq j (by lia)⟩;have U1:Up r (wr (sa+k) m.toList 0 xs) sa (sa+k):=Up.congr (λi j h1 h2 h3=>hA i j h1 h2 (by lia)) λj h1 h2=>Oq j (.inl h2);have U2:Up r (wr (sa+k) m.toList 0 xs) (sa+k) (sa+na+px):=λi j h1 h2 h3=>by
  have ei:=get i;have ej:=get j;rw[if_pos (by lia)] at ei ej;have li:i-(sa+k)<m.toList.length:=by lia
  have lj:j-(sa+k)<m.toList.length:=by lia
  rw[kR li] at ei;rw[kR lj] at ej;rw[pj ei,pj ej];by_cases kf:i=j
  ·subst kf;exact qc _
  ·exact(xI.mp mu) _ _ li lj (by lia)
 have U3:Up r (wr (sa+k) m.toList 0 xs) (sa+na+px) (sa+na+nb):=Up.congr (λi j h1 h2 h3=>hB i j (by lia) h2 h3) λj h1 h2=>Oq j (.inr h1);refine(U1.glue U2 λi j h1 h2 h3 h4=>?_).glue U3 λi j h1 h2 h3 h4=>?_
 ·obtain⟨q,q1,q2,q3⟩:=Rin (j-(sa+k)) (by lia);rw[show sa+k+(j-(sa+k))=j by lia] at q3;rw[q3,cJ (Oq i (.inl h2))];have:=lo1 (i-sa) (by lia);rw[show sa+(i-sa)=i by lia] at this;exact zI this (low q q1 q2)
 ·have e2:=k6 (j-(sa+na)) (by lia) (by lia);rw[show sa+na+(j-(sa+na))=j by lia] at e2;rw[cJ (Oq j (.inr h3))];by_cases hi:i<sa+k
  ·rw[cJ (Oq i (.inl hi))];have:=lo1 (i-sa) (by lia);rw[show sa+(i-sa)=i by lia] at this;have:=low (sa+na-1) (by lia) (by lia);lia
  ·obtain⟨q,q1,q2,q3⟩:=Rin (i-(sa+k)) (by lia);rw[show sa+k+(i-(sa+k))=i by lia] at q3;rw[q3];exact zI (high q q1 q2) e2
structure St(r:ae->Int)(κ:pV)(gd:Array bX)(st:eB)(ps:List (Nat × Nat × Nat))(lo:Nat):Prop where
 kind:fN st=κ
 failed:qS st=none
 perm:(bE st).Perm gd
 pend:lI st=ps.toArray
 runs:Runs r (bE st) ps 0 lo
def St.size{gd:Array bX}{st:eB}{ps:List (Nat × Nat × Nat)}{lo:Nat}(h:St r κ gd st ps lo):(bE st).size=gd.size:=h.perm.size_eq
def zq{ps:List (Nat × Nat × Nat)}(h:i+1<ps.length):∃ pre x y post,ps=pre++x :: y :: post/\pre.length=i:=by refine⟨ps.take i,ps[i],ps[i+1],ps.drop (i+2),?_,by rw[oq];lia⟩;rw[<- AZ (by lia),<- AZ (by lia),O_]
def jH{st:eB}{gd:Array bX}{ps:List (Nat × Nat × Nat)}{lo i:Nat}{Q:Bool->eB->Prop}(C:nI prog w A s κ r P)(hP:AllP P gd)(H:St r κ gd st ps lo)(GH:lo<=gd.size)(hi:i+1<ps.length)(h:∀ ai kE,St r κ gd ai kE lo->kE.length+1=ps.length->kE≠[]->(∀ k,lo<=k->(bE ai)[k]? = (bE st)[k]?)->Q true ai):wpS (aS prog w) A E s (mergeAt' i) Q st:=by
 obtain⟨pre,⟨sa,na,pa⟩,⟨sb,nb,pb⟩,post,rfl,GB⟩:=zq hi;have hz:=H.size;have tF:AllP P (bE st):=hP.perm H.perm;obtain⟨c,hr1,V9⟩:=Runs.append.mp H.runs;obtain⟨rfl,n1,u1,rfl,n2,u2,hr3⟩:=V9;have le3:=hr3.le;have le1:=hr1.le
 -- the new pending list
 have ir':((lI st).setIfInBounds i (sa,na+nb,pa)).eraseIdxIfInBounds (i+1)=(pre++(sa,na+nb,pa) :: post).toArray:=by rw[H.pend];apply R3.mp;simp[<- GB,List.eraseIdx_append_of_length_le]
 have new:∀ xs g,xs.Perm (bE st)->(∀ j,j<sa\/sa+na+nb<=j->xs[j]? = (bE st)[j]?)->Up r xs sa (sa+(na+nb)) ->
   St r κ gd (SortSt.mk' (fN st) xs (pre++(sa,na+nb,pa) :: post).toArray g (qS st)) (pre++(sa,na+nb,pa) :: post) lo:=λxs g hp ho hu =>
  ⟨H.kind,H.failed,hp.trans H.perm,rfl,Runs.append.mpr ⟨sa,hr1.congr λk _ hk=>ho k (.inl hk),rfl,by lia,hu,by
   rw[show sa+(na+nb)=sa+na+nb by lia];exact hr3.congr λk hk _=>ho k (.inr hk)⟩⟩
 have len:(pre++(sa,na+nb,pa) :: post).length+1=(pre++(sa,na,pa) :: (sa+na,nb,pb) :: post).length:=by simp;lia
 have e0:(lI st)[i]? = some (sa,na,pa):=by rw[H.pend,<- GB];simp
 have e1:(lI st)[i+1]? = some (sa+na,nb,pb):=by rw[H.pend,<- GB];simp
 refine cf (wpS_get ?_);rw[e0,e1];refine cf (D8 ?_);rw[ir'];refine cf (aF (xs:=bE st) (by lia) λkb ekb=>cf (cF (arr:=bE st) C H.kind tF (tF.at ekb) (by lia) (by lia) u1 λk hk1 xa Lc=>?_));have rkb:=pj (r:=r) ekb;dsimp only;by_cases z:na-k=0
 ·walk_at"h";refine dc (h _ _ (new (bE st) (gallopOf st) (Array.Perm.refl _) (λ_ _=>rfl) ?_) len (by simp) λ_ _=>rfl);rw[show sa+(na+nb)=sa+na+nb by lia];refine u1.glue u2 λi j h1 h2 h3 h4=>?_;have:=Av (xa (i-sa) (by lia));rw[show sa+(i-sa)=i by lia] at this;have:=u2 (sa+na) j (cw _) h3 h4;lia
 ·walk_at"i";refine cf (aF (xs:=bE st) (by lia) λka eka=>cf (cF (arr:=bE st) C H.kind tF (tF.at eka) (by lia) (by lia) u2 λl Om yb Oo=>?_));have rka:=pj (r:=r) eka;rw[show sa+k+(na-k)-1=sa+na-1 by lia] at rka;dsimp only;by_cases z2:l=0
  ·rw[if_pos (by simpa using z2)];refine dc (h _ _ (new (bE st) (gallopOf st) (Array.Perm.refl _) (λ_ _=>rfl) ?_) len (by simp) λ_ _=>rfl);rw[show sa+(na+nb)=sa+na+nb by lia];refine u1.glue u2 λi j h1 h2 h3 h4=>?_;have:=tZ (Oo (j-(sa+na)) (by lia) (by lia));rw[show sa+na+(j-(sa+na))=j by lia] at this;have:=u1 i (sa+na-1) h1 (by lia) (by lia);lia
  ·rw[if_neg (by simpa using z2)];have lo1:∀ i,i<k->R r (bE st) (sa+i)<=R r (bE st) (sa+na):=λi hi=>by have:=Av (xa i hi);lia
   have K2:R r (bE st) (sa+na)<R r (bE st) (sa+k):=by have:=wV (Lc k (cw _) (by lia));lia
   have mr:∀ i,i<l->R r (bE st) (sa+na+i)<R r (bE st) (sa+na-1):=λi hi=>by have:=Di (yb i hi);lia
   have k6:∀ i,l<=i->i<nb->R r (bE st) (sa+na-1)<=R r (bE st) (sa+na+i):=λi h1 h2=>by have:=tZ (Oo i h1 h2);lia
   have sx:((bE st).extract (sa+k) (sa+na)).size=na-k:=by simp only[IY];lia
   have sy:((bE st).extract (sa+na) (sa+na+l)).size=l:=by simp only[IY];lia
   have ux:Up r ((bE st).extract (sa+k) (sa+na)) 0 ((bE st).extract (sa+k) (sa+na)).size:=Up.extract (λi j h1 h2 h3=>u1 i j (by lia) h2 h3) (by lia) (by lia);have uy:Up r ((bE st).extract (sa+na) (sa+na+l)) 0 ((bE st).extract (sa+na) (sa+na+l)).size:=Up.extract (λi j h1 h2 h3=>u2 i j h1 h2 (by lia)) (by lia) (by lia);have h00:R r ((bE st).extract (sa+na) (sa+na+l)) 0<=R r ((bE st).extract (sa+k) (sa+na)) 0:=by rw[di (by lia) (by lia),di (by lia) (by lia)];exact IZ K2
   have hgg:∀ j,j<((bE st).extract (sa+na) (sa+na+l)).size->R r ((bE st).extract (sa+na) (sa+na+l)) j<=R r ((bE st).extract (sa+k) (sa+na)) (((bE st).extract (sa+k) (sa+na)).size-1):=λj hj=>by rw[sx,di (by lia) (by lia),di (by lia) (by lia),show sa+k+(na-k-1)=sa+na-1 by lia];exact IZ (mr j (by lia))
   have fin:∀ out ai,bO r ((bE st).extract (sa+k) (sa+na)) ((bE st).extract (sa+na) (sa+na+l)) out->Mg (SortSt.mk' (fN st) (bE st) (pre++(sa,na+nb,pa) :: post).toArray (gallopOf st) (qS st)) ai ->
     Q true (SortSt.mk' (fN ai) (wr (sa+k) out.toList 0 (bE ai)) (lI ai) (gallopOf ai) (qS ai)):=λout ai hm hg=>by
    obtain⟨g,rfl⟩:=hg;obtain⟨m1,m2,m3⟩:=xx (by lia) (by lia) Om u1 u2 lo1 K2 mr k6 hm;exact h _ _ (new _ g m2 m3 (by rw[show sa+(na+nb)=sa+na+nb by lia];exact m1)) len (by simp) λk hk=>m3 k (.inr (by lia))
   have fin2:∀ out ai,bO r ((bE st).extract (sa+k) (sa+na)) ((bE st).extract (sa+na) (sa+na+l)) out->Mg (SortSt.mk' (fN st) (bE st) (pre++(sa,na+nb,pa) :: post).toArray (gallopOf st) (qS st)) ai ->
     qS ai=none:=λout ai _ hg=>by
    obtain⟨g,rfl⟩:=hg;exact H.failed
   by_cases z3:na-k<=l
   ·rw[if_pos z3];refine cf (qQ (a:=(bE st).extract (sa+k) (sa+na)) (b:=(bE st).extract (sa+na) (sa+na+l)) C H.kind (tF.extract _ _) (tF.extract _ _) ux uy (by lia) (by lia) h00 hgg λout ai hm hg=>?_);refine cf (D8 (cf (wpS_get ?_)));have f:=fin out ai hm hg;have f2:=fin2 out ai hm hg;refine dc ?_;show Q (qS ai).isNone _;rw[f2];exact f
   ·rw[if_neg z3];refine cf (sI (a:=(bE st).extract (sa+k) (sa+na)) (b:=(bE st).extract (sa+na) (sa+na+l)) C H.kind (tF.extract _ _) (tF.extract _ _) ux uy (by lia) (by lia) h00 hgg λout ai hm hg=>?_);refine cf (D8 (cf (wpS_get ?_)));have f:=fin out ai hm hg;have f2:=fin2 out ai hm hg;refine dc ?_;show Q (qS ai).isNone _;rw[f2];exact f
theorem Runs.modify(hf:∀ x,(f x).1=x.1/\(f x).2.1=x.2.1):∀ {ps:List (Nat × Nat × Nat)} {i a b:Nat},Runs r xs ps a b->Runs r xs (ps.modify i f) a b
 |[],_,_,_,h=>by simpa using h
 | (s,n,p) :: rest,0,a,b,h=>by obtain⟨h1,h2⟩:=hf (s,n,p);rw[List.modify_zero_cons];have e:f (s,n,p)=(s,n,(f (s,n,p)).2.2):=Prod.ext h1 (Prod.ext h2 rfl);rw[e];exact h
 | (s,n,p) :: rest,i+1,a,b,h=>by obtain⟨h1,h2,h3,h4⟩:=h;exact⟨h1,h2,h3,Runs.modify hf h4⟩
def St.win{gd:Array bX}{st ai:eB}{ps:List (Nat × Nat × Nat)}{lo hi:Nat}(H:St r κ gd st ps lo)(hw:nK lo hi st ai):St r κ gd ai ps lo :=
 ⟨hw.kind.trans H.kind,hw.failed.trans H.failed,hw.perm.trans H.perm,hw.pend.trans H.pend,H.runs.congr λk _ hk=>hw.out k (.inl hk)⟩
def wpS_sortRuns{st:eB}{Q:Unit->eB->Prop}(C:nI prog w A s κ r P)(hk:fN st=κ)(hP:AllP P (bE st))(hp:lI st = #[])(hf:qS st=none)(h:∀ ai,(bE ai).Perm (bE st)->qS ai=none->Up r (bE ai) 0 (bE st).size->Q () ai):wpS (aS prog w) A E s sortRuns' Q st:=by
 rw[sortRuns'_eq];refine cf (wpS_get ?_);generalize ha:bE st=gd at *
 have H0:St r κ gd st [] 0:=⟨hk,hf,by rw[ha],by rw[hp],rfl⟩
 refine cf (uj (qE (I:=λx c ai=>∃ ps lo,c=(none,lo)/\St r κ gd ai ps lo/\lo<=gd.size/\x<=lo) (Q:=λc ai=>∃ ps,c=(none,gd.size)/\St r κ gd ai ps gd.size) ?step ?fin ⟨[],0,rfl,H0,fI _,cw _⟩) ?post)
 case fin =>
  rintro c ai ⟨ps,lo,rfl,H,h1,h2⟩;have:lo=gd.size:=by lia
  subst this;exact⟨ps,rfl,H⟩
 case post =>
  rintro c ai ⟨ps,rfl,H⟩;have l0:=H.runs.le;refine cf (uj (qE (I:=λy c ai=>c=(none,())/\∃ kE,St r κ gd ai kE gd.size/\kE.length+y<=gd.size) (Q:=λc ai=>c=(none,())/\∃ kE,St r κ gd ai kE gd.size/\kE.length<=1) ?it' ?Tf ⟨rfl,ps,H,by lia⟩) ?iu')
  case Tf =>
   rintro c ai ⟨rfl,kE,H',hl⟩;exact⟨rfl,kE,H',by lia⟩
  case iu' =>
   rintro c ai ⟨rfl,kE,H',hl⟩;refine dc (h ai H'.perm H'.failed ?_);have q:=H'.runs
   match kE,hl,q with
   |[],_,q =>have q:0=gd.size:=q;intro i j _ _ hj;lia
   |[(s',n',p')],_,q =>obtain⟨rfl,_,hu,e⟩:=q;rw[<- e];exact hu
  case it' =>
   rintro y c EV _ hy ⟨rfl,kE,H',hl⟩;refine cf (wpS_get ?_);have ep:(lI EV).size=kE.length:=by rw[H'.pend];simp
   by_cases z:(lI EV).size<=1
   ·rw[if_pos z];exact dc ⟨rfl,kE,H',by lia⟩
   ·rw[if_neg z];exact cf (jH C hP H' (cw _) (by(repeat' split)<;>lia) λz5 ps2 H2 hlen _ _=>dc ⟨rfl,ps2,H2,by lia⟩)
 case step =>
  rintro x c EV _ hx ⟨ps,lo,rfl,H,h1,h2⟩;by_cases z:lo >= gd.size
  ·rw[if_pos z];have:lo=gd.size:=by lia
   subst this;exact dc ⟨ps,rfl,H⟩
  ·rw[if_neg z];have hz:=H.size;refine cf (wpS_countRun C H.kind (hP.perm H.perm) (by lia) (by lia) λm z5 hw qh mE hu=>?_);have H2:=H.win hw;dsimp only;refine Ef (K:=?K) ?pk λkey=>?main;case main =>
    by_cases z2:m<minRun' gd.size gd.size 0
    ·rw[if_pos z2];walk_at"y";refine cf (wpS_binarySort C H2.kind (hP.perm H2.perm) (by clear key;have:=H2.size;lia) (by clear key;lia) hu λAn hw3 V_=>?_);have H3:=H2.win hw3;have b1:1<=min (gd.size-lo) (minRun' gd.size gd.size 0):=by clear key;lia
     have b2:lo+min (gd.size-lo) (minRun' gd.size gd.size 0)<=gd.size:=by clear key;lia
     clear hw3;generalize min (gd.size-lo) (minRun' gd.size gd.size 0)=nn at *
     revert nn An;exact key
    ·rw[if_neg z2];exact key _ H2 _ hu qh (by lia)
   intro An H3 nn V_ b1 b2;refine cf (wpS_get ?_);have push:∀ ai kE,St r κ gd ai kE lo->Up r (bE ai) lo (lo+nn)->∃ ps K0,((none:Option Unit),lo+nn)=(none,K0)/\St r κ gd (setPending ai ((lI ai).push (lo,nn,0))) ps K0/\K0<=gd.size/\x+1<=K0:=λai kE G u =>
    ⟨kE++[(lo,nn,0)],lo+nn,rfl,⟨G.kind,G.failed,G.perm,by rw[G.pend];simp,Runs.append.mpr ⟨lo,G.runs,rfl,b1,u,rfl⟩⟩,b2,by lia⟩
   cases hb:(lI An).back? with
   |none =>exact cf (D8 (dc (push An ps H3 V_)))
   |some t =>
    obtain⟨s1,n1,p1⟩:=t;dsimp only;generalize power' gd.size (2*s1+n1) (2*s1+n1+n1+nn) gd.size=pw;refine cf (uj (qE (I:=λy c ai=>c=(none,())/\∃ kE,St r κ gd ai kE lo/\Up r (bE ai) lo (lo+nn))
     ?_ (λ_ _ q=>q) ⟨rfl,ps,H3,V_⟩) ?_)
    ·rintro y c Bz _ hy ⟨rfl,kE,H4,Qj⟩;refine cf (wpS_get ?_);have ep:(lI Bz).size=kE.length:=by rw[H4.pend];simp
     by_cases z3:(lI Bz).size>1
     ·rw[if_pos z3];have e4:(lI Bz)[(lI Bz).size-2]? = some ((lI Bz)[(lI Bz).size-2]'(by lia)):=getElem?_pos _ _ (by lia);rw[e4];generalize (lI Bz)[(lI Bz).size-2]'(by lia)=tt;obtain⟨t1,t2,iw'⟩:=tt;dsimp only;by_cases z4:iw'<=pw
      ·rw[if_pos z4];exact dc ⟨rfl,kE,H4,Qj⟩
      ·rw[if_neg z4];exact cf (jH C hP H4 h1 (by lia) λKb ps5 H5 hlen _ EW=>dc ⟨rfl,ps5,H5,Qj.congr λk hk _=>EW k hk⟩)
     ·rw[if_neg z3];exact dc ⟨rfl,kE,H4,Qj⟩
    ·rintro c Bz ⟨rfl,kE,H4,Qj⟩;refine cf (D8 (cf (D8 (dc ?_))));refine push _ (kE.modify (kE.length-1) λx=>(x.1,x.2.1,pw)) ⟨H4.kind,H4.failed,H4.perm,?_,Runs.modify (f:=λx=>(x.1,x.2.1,pw)) (λ_=>⟨rfl,rfl⟩) H4.runs⟩ Qj;rw[H4.pend];simp
def c7 (h:dy) (a:ah) (vs:List ae):dy:=((h.update a (Obj.mapSeq λ_=>#[])).push (p9 "tuple" vs.toArray 0)).push (p9 "list" #[] 0)
def fV(hb:b≠a)(fi:b<h.objs.size):(c7 h a vs).get? b=h.get? b:=by
 unfold c7;rw[Nw _ _ _ (by rw[D9,IJ];exact gp (xS fi)),
  Nw _ _ _ (by rw[IJ];exact gp fi),UO _ _ _ _ hb]
def rF(hp:xs.Perm (pairsOf vs))(hs:Up r xs 0 vs.length):(xs.map (·.2)).toList.Perm vs/\(xs.map (·.2)).toList.Pairwise λx y=>r x<=r y:=by
 have hl:xs.toList.Perm (vs.zip vs):=by rw[<- pairsOf_toList];exact UU.mp hp
 have Qk:∀ p,p∈xs.toList->p.1=p.2:=λp fz=>(mem_zip_self (hl.mem_iff.mp fz)).1;have e:(xs.map (·.2)).toList=xs.toList.map (·.1):=by rw[Array.toList_map];exact Fm λp fz=>(Qk p fz).symm
 have f7:xs.size=vs.length:=by rw[hp.size_eq,pairsOf_size]
 rw[e];refine⟨?_,?_⟩
 ·have h1:=hl.map (·.1);rwa[RA (cw _)] at h1
 ·rw[xI];intro i j hi hj kf;have kK:i<xs.size:=by simpa using hi
  have rL:j<xs.size:=by simpa using hj
  have h1:=hs i j (fI _) (sQ kf) (by lia);rw[Hq kK,Hq rL] at h1;simpa using h1
def d9 {F:PySem.Fin->ax->Prop} (ho:s.heap.get? a=some (p9 "list" vs.toArray n)) (f7:vs.length<=bq) (hP:∀ v∈vs,P v)(hk:2<=vs.length->∀ (Q:pV->ax->Prop),Q κ { s with heap:=c7 s.heap a vs }->bP (aS prog w) A (keyKind' vs.toArray) Q E { s with heap:=c7 s.heap a vs }) (C:2<=vs.length->nI prog w A { s with heap:=c7 s.heap a vs } κ r P) (h:∀ out:Array ae,out.toList.Perm vs->(out.toList.Pairwise λx y=>r x<=r y)->F (.done (.ret .none)) { s with heap:=sortedHeap s.heap a vs out }) :
  bP (aS prog w) A (Builtin.«list.sort» ⟨[.ref a],[]⟩) F E s:=by
 rw[list_sort_plain];have ha:a<s.heap.objs.size:=e9 ho;refine aw (listItems_at ho rfl ?_);refine aw (listUpdate_at ho rfl ?_ (by simpa using f7) (fI _));obtain⟨e1,xh⟩:∃ e1,(s.heap.update a (Obj.mapSeq λ_=>#[])).get? a=some (p9 "list" #[] e1):=⟨_,get?_update_seq ho (λ_=>#[])⟩
 refine aw (seqEpoch_at xh rfl ?_);refine aw (wpAny_newTuple ?_ (by simpa using f7));refine aw (wpAny_newList ?_ (fI _));refine sM ?_;have Tg:(c7 s.heap a vs).get? a=some (p9 "list" #[] e1):=by unfold c7;rw[Nw _ _ _ (by rw[D9,IJ];exact gp (xS ha)),Nw _ _ _ (by rw[IJ];exact gp ha)];exact xh
 have hvz:vs.toArray.size=vs.length:=by simp
 have fin:∀ ai:eB,(bE ai).Perm (pairsOf vs)->Up r (bE ai) 0 vs.length->F (.done (.ret .none)) { s with heap:=sortedHeap s.heap a vs ((bE ai).map (·.2)) }:=by intro ai hp hs;obtain⟨h1,h2⟩:=rF hp hs;exact h _ h1 h2
 by_cases h2:vs.toArray.size<2
 ·rw[if_pos h2,if_pos h2];refine aw (bG ?_);refine aw (bG ?_);refine aw (seqEpoch_at Tg rfl ?_);refine aw (listUpdate_at Tg rfl ?_ (fI _) (by rw[Array.size_map];show(pairsOf vs).size<=_;rw[pairsOf_size];lia));simp only[bne_self_eq_false,sR,if_false];refine bG (fin (SortSt.mk' general' (vs.toArray.zip vs.toArray) #[] 7 none) (Array.Perm.refl _) ?_);intro i j _ kf hj;have:i=j:=by lia
  subst this;exact qc _
 ·rw[if_neg h2,if_neg h2];refine aw (hk (by lia) _ ?_);refine aw (wc (wpS_sortRuns (Q:=λ_ ai=>(bE ai).Perm (pairsOf vs)/\qS ai=none/\Up r (bE ai) 0 vs.length) (C (by lia)) rfl (λp hp=>?_) rfl rfl λai a1 a2 a3=>⟨a1,a2,?_⟩) ?_ λ_ _ e=>e)
  ·have fz:p∈(pairsOf vs).toList:=hp;rw[pairsOf_toList] at fz;exact hP _ (mem_zip_self fz).2
  ·have e:(bE (SortSt.mk' κ (vs.toArray.zip vs.toArray) #[] 7 none)).size=vs.length:=pairsOf_size vs;rw[e] at a3;exact a3
  ·rintro⟨⟨⟩,ai⟩ s' ⟨rfl,hp,hf,hs⟩;refine aw (seqEpoch_at Tg rfl ?_);refine aw (listUpdate_at Tg rfl ?_ (fI _) (by refine iS (RT ((Array.size_map ..).trans (hp.size_eq.trans (pairsOf_size _)))) ?_;lia));rw[hf];simp only[bne_self_eq_false,sR,if_false];exact bG (fin ai hp hs)
def oA (h:dy) (vs:List ae):dy:=((h.push (p9 "list" #[] 0)).update h.objs.size (Obj.mapSeq (· ++ vs.toArray))).push (p9 "list" vs.toArray 0)
def jz(hb:h.get? b=some o):(c7 (oA h vs) (h.objs.size+1) vs).get? b=some o:=by
 have fi:b<h.objs.size:=e9 hb;have e:(oA h vs).get? b=some o:=by unfold oA;rw[Nw _ _ _ (by rw[IJ,D9];exact gp (xS fi)),UO _ _ _ _ (gp fi),Nw _ _ _ (gp fi)];exact hb
 rw[fV (gp (xS fi)) (e9 e)];exact e
def qt(hl:s.heap.IsList l vs.toArray)(f7:vs.length<=bq)(hP:∀ v∈vs,P v)(hk:2<=vs.length->∀ (A':fh) (E':ae->ax->Prop) (s':ax),(∀ b o,s.heap.get? b=some o->s'.heap.get? b=some o)->∀ (Q:pV->ax->Prop),Q κ s'->bP (aS prog w) A' (keyKind' vs.toArray) Q E' s')(C:2<=vs.length->∀ (s':ax),(∀ b o,s.heap.get? b=some o->s'.heap.get? b=some o)->nI prog w A.in1.in1 s' κ r P)(h:∀ (h':dy) (out:List ae) (n:Nat),out.Perm vs->(out.Pairwise λx y=>r x<=r y)->(∀ b o,s.heap.get? b=some o->h'.get? b=some o)->h'.get? (s.heap.objs.size+1)=some (p9 "list" out.toArray n)->Q (.ref (s.heap.objs.size+1)) { s with heap:=h' }) :
  bP (aS prog w) A (call (.builtin "sorted") [.ref l]) Q E s:=by
 walk_at"s";refine aw (bG ?_);refine aw (collect_list hl ?_ f7);refine aw (wpAny_newList ?_ (by simpa using f7));have bD':((s.heap.push (p9 "list" #[] 0)).update s.heap.objs.size (Obj.mapSeq (· ++ vs.toArray))).objs.size=s.heap.objs.size+1:=by rw[IJ,D9]
 have z0:(oA s.heap vs).get? (s.heap.objs.size+1)=some (p9 "list" vs.toArray 0):=by rw[<- bD'];exact kB _ rfl
 rw[bD'];refine aw (sM (B7 slot_list_sort ⟨_,z0,rfl⟩ entry_list_sort (d9 (r:=r) z0 f7 hP (λh2=>hk h2 _ _ _ λb o e=>jz e) (λh2=>?_) λout a1 a2=>⟨_,rfl,?_⟩) (args_list_sort _)))
 ·exact C h2 _ λb o e=>jz e
 ·obtain⟨n,e⟩:=sortedAll_at s.heap vs out;refine bG ⟨_,rfl,h (sortedAll s.heap vs out) out.toList n a1 a2 (λb o e=>sortedAll_old e) (by rw[R0];exact e)⟩
end
end vE
section
open PySem PySem.Spec PyProof.Rows
namespace L2
def k7:Key->Key->Bool
 |.inl i,.inl j=>decide (i<j)
 |.inr x,.inr y=>tq x y
 |_,_=>false
def fA:List Key->List Key->Bool
 |a :: as,b :: bs=>if a=b then fA as bs else k7 a b
 |_,_=>false
def oI:Key->Bool
 |.inl _=>true
 |.inr _=>false
def ic(k:List Key):List Bool:=k.map oI
def yS(x:Str):tq x x=false:=by unfold tq;simp[List.lt_irrefl]
def BV(h:tq x y=true)(g:tq y z=true):tq x z=true:=by
 unfold tq at *
 simp only[decide_eq_true_eq] at *
 exact List.lt_trans h g
def ym{x y:Str}(h:x.cps.toList=y.cps.toList):x=y:=by cases x;cases y;simp only at h;rw[R3.mp h]
def xX{x y:Str}(h:tq x y=false)(g:tq y x=false):x=y:=by
 unfold tq at *
 simp only[decide_eq_false_iff_not] at *
 apply ym;exact List.le_antisymm (List.not_lt.mp g) (List.not_lt.mp h)
def xV(a:Key):k7 a a=false:=by cases a with|inl i=>simp[k7]|inr x=>exact yS x
def Gv(h:k7 a b=true)(g:k7 b c=true):k7 a c=true:=by cases a<;>cases b<;>cases c<;>simp only[k7,decide_eq_true_eq] at *<;>first|lia|contradiction|exact BV h g
def CP(e:oI a=oI b)(h:k7 a b=false)(g:k7 b a=false):a=b:=by
 cases a<;>cases b<;>simp only[k7,oI,decide_eq_false_iff_not] at *
 ·congr 1;lia
 ·cases e
 ·cases e
 ·congr 1;exact xX h g
theorem cY:∀ a:List Key,fA a a=false
 |[]=>rfl
 |a :: as=>by unfold fA;rw[if_pos rfl];exact cY as
theorem jq:∀ {a b c:List Key},fA a b=true->fA b c=true->fA a c=true
 |[],_,_,h,_=>by simp[fA] at h
 |_ :: _,[],_,h,_=>by simp[fA] at h
 |_ :: _,_ :: _,[],_,g=>by simp[fA] at g
 |a :: as,b :: bs,c :: cs,h,g=>by
  unfold fA at h g ⊢;by_cases e1:a=b
  ·subst e1;rw[if_pos rfl] at h;by_cases e2:a=c
   ·subst e2;rw[if_pos rfl] at g ⊢;exact jq h g
   ·rw[if_neg e2] at g ⊢;exact g
  ·rw[if_neg e1] at h;by_cases e2:b=c
   ·subst e2;rw[if_neg e1];exact h
   ·rw[if_neg e2] at g;have t:=Gv h g;have ne:a≠c:=λe=>by subst e;rw[xV] at t;cases t
    rw[if_neg ne];exact t
theorem iB:∀ {a b:List Key},ic a=ic b->fA a b=false->fA b a=false->a=b
 |[],[],_,_,_=>rfl
 |[],_ :: _,e,_,_=>by simp[ic] at e
 |_ :: _,[],e,_,_=>by simp[ic] at e
 |a :: as,b :: bs,e,h,g=>by
  simp only[ic,fS,List.cons.injEq] at e;unfold fA at h g;by_cases e1:a=b
  ·subst e1;rw[if_pos rfl] at h g;rw[iB (e.2) h g]
  ·rw[if_neg e1] at h;rw[if_neg (Ne.symm e1)] at g;exact absurd (CP e.1 h g) e1
theorem count_le{α:Type}(p q:α->Bool):∀ (l:List α),(∀ x∈l,p x=true->q x=true)->l.countP p<=l.countP q
 |[],_=>cw _
 |x :: l,h=>by have ih:=count_le p q l λy hy=>h y (c9 _ hy);cases hp:p x<;>cases hq:q x<;>simp_all<;>lia
theorem oE{α:Type}(p q:α->Bool)(a:α)(ha:p a=false)(hb:q a=true):∀ (l:List α),a∈l->(∀ x∈l,p x=true->q x=true)->l.countP p<l.countP q
 |[],m,_=>by cases m
 |x :: l,m,h=>by
  rw[List.countP_cons,List.countP_cons];rcases eK.mp m with rfl|m
  ·have:=count_le p q l λy hy=>h y (c9 _ hy);rw[ha,hb];simp;lia
  ·have ih:=oE p q a ha hb l m λy hy=>h y (c9 _ hy);cases hp:p x<;>cases hq:q x<;>simp_all<;>lia
def EX(L:List (List Key))(k:List Key):Int:=(L.countP λj=>fA j k:Nat)
def j0(e:ic a=ic b)(ma:a∈L):decide (EX L a<EX L b)=fA a b:=by
 unfold EX
 cases h:fA a b with
 |true =>have:=oE (λj=>fA j a) (λj=>fA j b) a (cY a) h L ma λx _ hx=>jq hx h;exact decide_eq_true (by lia)
 |false =>
  apply decide_eq_false
  cases g:fA b a with
  |false=>rw[iB e h g];lia
  |true =>have:=count_le (λj=>fA j b) (λj=>fA j a) L λx _ hx=>jq hx g;lia
def Wa:V->Option Key
 |.int i=>some (.inl i)
 |.str x=>some (.inr x)
 |_=>none
def Jv(k:Key):Wa (kV k)=some k:=by cases k<;>rfl
theorem Cv:∀ k:List Key,(k.map kV).filterMap Wa=k
 |[]=>rfl
 |a :: as=>by rw[fS,Pg,Jv,Cv as]
def kI(H:Hp):ae->List Key
 |.ref b=>match H b with
  |some (.tup xs)=>xs.filterMap Wa
  |_=>[]
 |_=>[]
def aZ(h:H b=some (.tup (k.map kV))):kI H (.ref b)=k:=by simp only[kI,h];exact Cv k
section
variable {prog:d5}{w:eJ}{A:fh}{E:ae->ax->Prop}{s:ax}{Q:Bool->ax->Prop}
def HW(ru:RelV (kV a) u)(rv:RelV (kV b) v)(e:oI a=oI b)(q:Q (k7 a b) s):bP (aS prog w) A (oneLt' false u v) Q E s:=by
 refine PySem.W.kat_one u v ?_
 cases a with
 |inl i =>
  cases b with
  |inr x=>cases e
  |inl j =>obtain⟨t,rfl⟩:=ru;obtain⟨t',rfl⟩:=rv;exact lt_int q
 |inr x =>
  cases b with
  |inl j=>cases e
  |inr y =>obtain⟨t,rfl⟩:=ru;obtain⟨t',rfl⟩:=rv;exact PySem.P.lt_str q
def Hr(ru:RelV (kV a) u)(rv:RelV (kV b) v)(e:oI a=oI b)(q:Q (decide (a=b)) s):bP (aS prog w) A (eqBool u v) Q E s:=by
 cases a with
 |inl i =>
  cases b with
  |inr x=>cases e
  |inl j =>obtain⟨t,rfl⟩:=ru;obtain⟨t',rfl⟩:=rv;refine wpAny_eqBool_int ?_;rw[<- ZE];exact q
 |inr x =>
  cases b with
  |inl j=>cases e
  |inr y =>obtain⟨t,rfl⟩:=ru;obtain⟨t',rfl⟩:=rv;refine wpAny_eqBool_str ?_;rw[<- ZF];exact q
def zp(k m:List Key)(us vs:List ae)(i:Nat)(ha:Vals (k.map kV) us)(hb:Vals (m.map kV) vs)(e:ic k=ic m)(hf:fin=false)(q:Q (fA k m) s) :
  PySem.W.KatLex prog w A true fin Q (us.zip vs) i s:=by
 induction k generalizing m us vs i with
 |nil =>
  cases m with
  |cons b m=>simp[ic] at e
  |nil =>rw[Paired.n0 ha,Paired.n0 hb];subst hf;exact PySem.W.kat_nil q
 |cons a k ih =>
  cases m with
  |nil=>simp[ic] at e
  |cons b m =>
   obtain⟨u,us,rfl,ra,rk⟩:=Paired.c ha;obtain⟨v,vs,rfl,rb,rm⟩:=Paired.c hb;simp only[ic,fS,List.cons.injEq] at e;refine PySem.W.kat_cons (Hr ra rb e.1 (PySem.W.kat_go (λh=>PySem.W.kat_yes ?_) (λh=>PySem.W.kat_no ?_)))
   ·have h:=of_decide_eq_true h;subst h;unfold fA at q;rw[if_pos rfl] at q;exact ih m _ _ (i+1) rk rm e.2 q
   ·have h:=of_decide_eq_false h;unfold fA at q;rw[if_neg h] at q;by_cases h0:i=0
    ·subst h0
     cases a with
     |inr x =>
      cases b with
      |inl j=>cases e.1
      |inr y =>obtain⟨t,rfl⟩:=ra;obtain⟨t',rfl⟩:=rb;exact oneLt_str q
     |inl i =>
      cases b with
      |inr x=>cases e.1
      |inl j =>obtain⟨t,rfl⟩:=ra;obtain⟨t',rfl⟩:=rb;exact oneLt_int q
    ·rw[show(true && i == 0)=false by simp[h0]];exact HW ra rb e.1 q
end
section
variable {X:Cx}{pins:List (ah × Obj)}{σ:St}{H:Hp}{s:ax}
def Inv.tup(I:Inv X pins σ H s)(h:H b=some (.tup xs)):∃ its:List ae,Vals xs its/\IsTup s.heap b its.toArray:=(I.b5 b _ h).2
def mq(I:Inv X pins σ H s)(kp:∀ b o,s.heap.get? b=some o->s'.heap.get? b=some o) :
  vE.nI X.prog X.w A s' (tuples' true) (λv=>EX L (kI H v)) (λv=>∃ b k,v=.ref b/\H b=some (.tup (k.map kV))/\ic k=b0 :: sh/\k∈L):=by
 rintro x y ⟨b,k,rfl,hb,hk,mk⟩ ⟨c,m,rfl,hc,hm,mm⟩ Q E q;obtain⟨us,ru,o,e1,c1,n1,d1⟩:=I.tup hb;obtain⟨vs,rv,o',e2,c2,n2,d2⟩:=I.tup hc;have Wb:ic k=ic m:=hk.trans hm.symm;simp only[aZ hb,aZ hc] at q;rw[j0 Wb mk] at q;refine PySem.W.kat_lt (kp _ _ e1) d1 (kp _ _ e2) d2 (zp k m us vs 0 ru rv Wb ?_ q)
 ·have h1:=ru.length;have h2:=rv.length;have h3:k.length=m.length:=by have:=congrArg List.length Wb;simpa[ic] using this
  simp only[b9] at h1 h2;exact decide_eq_false (by simp only[iO];lia)
def kat_tups(I:Inv X pins σ H s){s':ax}(kp:∀ b o,s.heap.get? b=some o->s'.heap.get? b=some o){b0:Bool}{sh:List Bool}{ys:List V}{ks:List (List Key)}{vs:List ae}(ht:bB H ys ks)(hv:Vals ys vs)(hs:∀ k∈ks,ic k=b0 :: sh) :
  ∃ fs:List ae,PySem.W.KatTups s'.heap vs fs/\fs.length=vs.length/\∀ f∈fs,(b0=true->∃ i t,f=Value.int i t)/\(b0=false->∃ x t,f=Value.str x t):=by
 induction ys generalizing ks vs with
 |nil =>rw[Paired.n0 hv];exact⟨[],.nil,rfl,by simp⟩
 |cons y ys ih =>
  obtain⟨k,ks,rfl,⟨b,rfl,hb⟩,t⟩:=Paired.c ht;obtain⟨v,vs,rfl,rfl,rs⟩:=Paired.c hv;obtain⟨fs,f1,f2,f3⟩:=ih t rs λj hj=>hs j (c9 _ hj);have hk:=hs k cy;obtain⟨us,ru,o,e1,c1,n1,d1⟩:=I.tup hb
  cases k with
  |nil=>simp[ic] at hk
  |cons a k =>
   obtain⟨u,us,rfl,ra,rr⟩:=Paired.c ru;simp only[ic,fS,List.cons.injEq] at hk;refine⟨u :: fs,.cons (kp _ _ e1) c1 d1 rfl f1,by simp[f2],λf hf=>?_⟩;rcases eK.mp hf with rfl|hf
   ·cases a with
    |inr x =>obtain⟨tk,rfl⟩:=ra;exact⟨(λz=>by rw[<- hk.1] at z;cases z),λ_=>⟨_,_,rfl⟩⟩
    |inl i =>obtain⟨tk,rfl⟩:=ra;exact⟨λ_=>⟨_,_,rfl⟩,λz=>by rw[<- hk.1] at z;cases z⟩
   ·exact f3 f hf
end
def tH(K:aC):List V->Hp->VK->Prop:=λxs H Q=>match xs with
 |[.ref p]=>∃ ys ks sh,fw K H p ys/\bB H ys ks/\(∀ k∈ks,ic k=true :: sh) /\
   ∀ zs ms l,bB H zs ms->ms.Perm ks->(ms.Pairwise λa b=>fA b a=false)->H l=none->Q (.ref l) (upd H l (.lst zs))
 |_=>False
def bB.keys(h:bB H ys ks)(hv:Vals ys vs):vs.map (kI H)=ks/\∀ v∈vs,∃ b k,v=.ref b/\H b=some (.tup (k.map kV))/\k∈ks:=by
 induction ys generalizing ks vs with
 |nil=>rw[Paired.n0 hv,show ks=[] from Paired.n0 h];exact⟨rfl,by simp⟩
 |cons y ys ih =>
  obtain⟨k,ks,rfl,⟨b,rfl,g⟩,t⟩:=Paired.c h;obtain⟨v,vs,rfl,rfl,rs⟩:=Paired.c hv;obtain⟨e,m⟩:=ih t rs;refine⟨by rw[fS,aZ g,e],λv hv=>?_⟩;rcases eK.mp hv with rfl|hv
  ·exact⟨b,k,rfl,g,cy⟩
  ·obtain⟨b',k',e1,e2,e3⟩:=m v hv;exact⟨b',k',e1,e2,c9 _ e3⟩
def bB.of{H:Hp}{ks:List (List Key)}(vs:List ae)(h:∀ v∈vs,∃ b k,v=Value.ref b/\H b=some (.tup (k.map kV))/\k∈ks):∃ zs,bB H zs (vs.map (kI H))/\Vals zs vs:=by
 induction vs with
 |nil=>exact⟨[],.nil,.nil⟩
 |cons v vs ih =>obtain⟨zs,a,c⟩:=ih λu hu=>h u (c9 _ hu);obtain⟨b,k,rfl,e,_⟩:=h v cy;exact⟨.ref b :: zs,.cons ⟨b,rfl,by rw[aZ e];exact e⟩ a,.cons rfl c⟩
section
variable {X:Cx}
def vG:lT X (.builtin "sorted") (tH X.K):=by
 walk_at"n";unfold tH at h;split at h
 ·rename_i p;obtain⟨ys,ks,sh,hl,ht,hs,q⟩:=h;obtain⟨u,rfl,ru⟩:=Vals.one r;cases ru;obtain⟨vs,rv,pl,hz⟩:=I.list hl;obtain⟨ek,mem⟩:=ht.keys rv;have hlen:=rv.length;refine vE.qt (κ:=tuples' true) (P:=λv=>∃ b k,v=.ref b/\H b=some (.tup (k.map kV))/\ic k=true :: sh/\k∈ks) pl.isList (by lia) (λv hv=>?_) (λh2 A' E' s' kp Q' q'=>?_) (λh2 s' kp=>mq I kp) λh' out n pm pw kp eo=>?_
  ·obtain⟨b,k,e1,e2,e3⟩:=mem v hv;exact⟨b,k,e1,e2,hs k e3,e3⟩
  ·obtain⟨fs,f1,f2,f3⟩:=kat_tups I kp ht rv hs;refine MV (T:=.type "int") f1 (by lia) (λf hf=>?_) (by decide) q';obtain⟨i,t,rfl⟩:=(f3 f hf).1 rfl;exact .now
  ·obtain⟨zs,z1,z2⟩:=bB.of out λv hv=>mem v (pm.mem_iff.mp hv);have zl:=z2.length;have ol:=pm.length_eq;have Lv:(out.map (kI H)).Perm ks:=by rw[<- ek];exact pm.map _
   refine⟨.ref (s.heap.objs.size+1),_,I.laid kp (Fu _) (show kH X.prog X.w _ h' _ (.lst zs) from⟨by lia,out,n,z2,eo⟩),rfl,
    q zs _ _ z1 Lv ?_ (I.b5.fresh (Fu _))⟩
   rw[iP];refine pw.imp_of_mem λ{x y} mx my hle=>?_;obtain⟨b,k,rfl,hb,kk⟩:=mem x (pm.mem_iff.mp mx);obtain⟨c,m,rfl,hc,km⟩:=mem y (pm.mem_iff.mp my);rw[aZ hb,aZ hc] at *
   have:=j0 ((hs m km).trans (hs k kk).symm) km;rw[<- this];exact decide_eq_false (by lia)
 ·exact h.elim
end
end L2
end
namespace vE
open PySem PyProof.Rows
section
variable {prog:d5}{w:eJ}{A:fh}{E:ae->ax->Prop}{s:ax}{κ:pV}{r:ae->Int}{P:ae->Prop}
def qF{T:String}{r d:ah}{n:Nat}{P:Nat->ae->Prop}{OK:dy->Prop}{R:Result->ax->Prop}(K:PySem.W.KdlSrc prog w T r d n P OK)(hh:A.handled=none)(b5:OK s.heap)(hn:n<=bq)(hR:∀ h' tk acc c,(∀ b o,s.heap.get? b=some o->h'.get? b=some o)->h'.get? s.heap.objs.size=some { cls:=.type "list",data:=.seq acc c }->ItemsOf P acc n->R (.ok (.ret (.ref s.heap.objs.size))) { s with heap:=h',toks:=tk }) :
  codeAny (aS prog w) A (.builtin "proto.collect" ⟨[.ref r],[]⟩) R s:=by
 have hth:=K.there _ b5;walk_at"u";refine B8 F.entry_proto_collect ?_;refine aw (sL ?_);refine bG ⟨E8 F.plain_list_iadd _,B8 F.entry_list_iadd ?_⟩;exact PySem.W.kdl_extend K hh (K.keep _ _ b5 λb _ o e=>gi _ e) s.heap.objs.size (ND hth.1) (ND hth.2) _ 0 hS (λh' tk BF c' kp eo ia=>hR h' tk BF c' (λb o e=>kp b o (gp (e9 e)) (gi _ e)) eo ia) hn
def rE{T:String}{r d:ah}{n:Nat}{P:Nat->ae->Prop}{OK:dy->Prop}{Q:List ae->ax->Prop}(K:PySem.W.KdlSrc prog w T r d n P OK)(hh:A.handled=none)(b5:OK s.heap)(hn:n<=bq)(hQ:∀ h' tk acc,(∀ b o,s.heap.get? b=some o->h'.get? b=some o)->s.heap.objs.size<=h'.objs.size->ItemsOf P acc n->Q acc.toList { s with heap:=h',toks:=tk }):bP (aS prog w) A (collect (.ref r)) Q E s:=by
 exact aw (wpAny_runValue (qF K hh b5 hn λh' tk acc c kp eo ia=>aw (wpAny_load eo (bG (hQ h' tk acc kp (sQ (e9 eo)) ia)))))
def vK{R:List ae->Prop}(Wc:∀ (A':fh) (E':ae->ax->Prop) (Q':List ae->ax->Prop),A'.handled=A.handled->(∀ vs h1 tk,R vs->(∀ b o,s.heap.get? b=some o->h1.get? b=some o)->s.heap.objs.size<=h1.objs.size->Q' vs { s with heap:=h1,toks:=tk })->bP (aS prog w) A' (collect v) Q' E' s) (f7:∀ vs,R vs->vs.length<=bq) (hP:∀ vs,R vs->∀ v∈vs,P v) (hk:∀ vs,R vs->2<=vs.length->∀ (A':fh) (E':ae->ax->Prop) (s':ax),(∀ b o,s.heap.get? b=some o->s'.heap.get? b=some o)->∀ (Q:pV->ax->Prop),Q κ s'->bP (aS prog w) A' (keyKind' vs.toArray) Q E' s') (C:∀ (s':ax),(∀ b o,s.heap.get? b=some o->s'.heap.get? b=some o)->nI prog w A.in1.in1 s' κ r P) (h:∀ (vs:List ae) (h':dy) (a:ah) (out:List ae) (n tk:Nat),R vs->out.Perm vs->(out.Pairwise λx y=>r x<=r y)->(∀ b o,s.heap.get? b=some o->h'.get? b=some o)->s.heap.objs.size<=a->h'.get? a=some (p9 "list" out.toArray n)->Q (.ref a) { s with heap:=h',toks:=tk }) :
  bP (aS prog w) A (call (.builtin "sorted") [v]) Q E s:=by
 walk_at"s";refine aw (bG ?_);refine aw (Wc _ _ _ rfl λvs h1 tk hR kp hz=>?_);have yy:=f7 vs hR;refine aw (wpAny_newList ?_ (by simpa using yy));have z0:(h1.push (p9 "list" vs.toArray 0)).get? h1.objs.size=some (p9 "list" vs.toArray 0):=kB _ rfl;have old:∀ b o,s.heap.get? b=some o->(c7 (h1.push (p9 "list" vs.toArray 0)) h1.objs.size vs).get? b=some o:=λb o e=>by have fi:b<h1.objs.size:=e9 (kp b o e);rw[fV (gp fi) (by rw[D9];exact xS fi)];exact gi _ (kp b o e)
 walk_at"p"
 obtain⟨n,e⟩:=sortedHeap_at z0;refine bG ⟨_,rfl,h vs _ h1.objs.size out.toList n tk hR a1 a2 (λb o e=>?_) hz (by rw[R0];exact e)⟩;have fi:b<h1.objs.size:=e9 (kp b o e);rw[sortedHeap_old (gp fi) (by rw[D9];exact xS fi)];exact gi _ (kp b o e)
end
end vE
section
open PySem PySem.Spec PyProof.Rows
namespace L2
def iK:ae->List Key
 |.int i _=>[.inl i]
 |.str x _=>[.inr x]
 |_=>[]
def jF(h:RelV (kV k) v):iK v=[k]:=by
 cases k with
 |inl i=>obtain⟨t,rfl⟩:=h;rfl
 |inr x=>obtain⟨t,rfl⟩:=h;rfl
def rW:fA [a] [b]=k7 a b:=by
 unfold fA;by_cases e:a=b
 ·subst e;rw[if_pos rfl,xV];rfl
 ·rw[if_neg e]
def ud{prog:d5}{w:eJ}{A:fh}{s:ax}{b:Bool}{L:List Key} :
  vE.nI prog w A s oneType' (λv=>EX (L.map λk=>[k]) (iK v)) (λv=>∃ k,RelV (kV k) v/\oI k=b/\k∈L):=by
 rintro x y ⟨k,rk,ik,mk⟩ ⟨m,rm,im,mm⟩ Q E q;simp only[jF rk,jF rm] at q;rw[j0 (by simp[ic,ik,im]) (bT.mpr ⟨k,mk,rfl⟩),rW] at q
 cases k with
 |inl i =>
  cases m with
  |inr y=>rw[<- im] at ik;cases ik
  |inl j =>obtain⟨t,rfl⟩:=rk;obtain⟨u,rfl⟩:=rm;exact oneLt_int q
 |inr x =>
  cases m with
  |inl y=>rw[<- im] at ik;cases ik
  |inr j =>obtain⟨t,rfl⟩:=rk;obtain⟨u,rfl⟩:=rm;exact oneLt_str q
def ints_of{ks:List Key}{vs:List ae}(r:Vals (ks.map kV) vs)(h:∀ k∈ks,oI k=true):∃ ns,IntsAre vs ns:=by
 induction ks generalizing vs with
 |nil=>rw[Paired.n0 r];exact⟨[],.nil⟩
 |cons k ks ih =>
  obtain⟨v,vs,rfl,r,rs⟩:=Paired.c r;obtain⟨ns,q⟩:=ih rs λj hj=>h j (c9 _ hj);have:=h k cy
  cases k with
  |inr x=>cases this
  |inl i=>obtain⟨t,rfl⟩:=r;exact⟨_,.cons i t q⟩
def EY{ks:List Key}{vs:List ae}(r:Vals (ks.map kV) vs)(h:∀ k∈ks,oI k=false):∃ ns,StrsAre vs ns:=by
 induction ks generalizing vs with
 |nil=>rw[Paired.n0 r];exact⟨[],.nil⟩
 |cons k ks ih =>
  obtain⟨v,vs,rfl,r,rs⟩:=Paired.c r;obtain⟨ns,q⟩:=ih rs λj hj=>h j (c9 _ hj);have:=h k cy
  cases k with
  |inl x=>cases this
  |inr i=>obtain⟨t,rfl⟩:=r;exact⟨_,.cons i t q⟩
def pB{prog:d5}{w:eJ}{A:fh}{E:ae->ax->Prop}{s:ax}{b:Bool}{ks:List Key}{vs:List ae}(r:Vals (ks.map kV) vs)(h:∀ k∈ks,oI k=b)(h2:2<=vs.length){Q:pV->ax->Prop}(q:Q oneType' s) :
  bP (aS prog w) A (keyKind' vs.toArray) Q E s:=by
 match vs,h2 with
 |v1 :: v2 :: vs,_ =>
  cases b with
  |true=>obtain⟨ns,hI⟩:=ints_of r h;rw[keyKind_ints hI];exact bG q
  |false=>obtain⟨ns,hI⟩:=EY r h;rw[keyKind_strs hI];exact bG q
def mem_keys{ks:List Key}{vs:List ae}(r:Vals (ks.map kV) vs)(v:ae)(h:v∈vs):∃ k,RelV (kV k) v/\k∈ks:=by
 induction ks generalizing vs with
 |nil=>rw[Paired.n0 r] at h;cases h
 |cons k ks ih =>
  obtain⟨u,vs,rfl,r,rs⟩:=Paired.c r;rcases eK.mp h with rfl|h
  ·exact⟨k,r,cy⟩
  ·obtain⟨j,a,b⟩:=ih rs h;exact⟨j,a,c9 _ b⟩
def keys_map{ks:List Key}{vs:List ae}(r:Vals (ks.map kV) vs):vs.map iK=ks.map λk=>[k]:=by
 induction ks generalizing vs with
 |nil=>rw[Paired.n0 r];rfl
 |cons k ks ih =>obtain⟨u,vs,rfl,r,rs⟩:=Paired.c r;rw[fS,fS,jF r,ih rs]
def jM{ks:List Key}(vs:List ae)(h:∀ v∈vs,∃ k,RelV (kV k) v/\k∈ks):∃ ms:List Key,Vals (ms.map kV) vs:=by
 induction vs with
 |nil=>exact⟨[],.nil⟩
 |cons v vs ih =>obtain⟨ms,r⟩:=ih λu hu=>h u (c9 _ hu);obtain⟨k,rk,_⟩:=h v cy;exact⟨k :: ms,.cons rk r⟩
def p_:∀ {ms ks:List Key},(ms.map λk=>[k]).Perm (ks.map λk=>[k])->ms.Perm ks:=λ{ms ks} h=>by have:=h.map (λl:List Key=>l.head?);simp only[fF] at this;have e:∀ l:List Key,l.map ((λl:List Key=>l.head?) ∘ λk=>[k])=l.map some:=λl=>Fm λ_ _=>rfl;rw[e,e] at this;have:=this.filterMap id;simpa using this
section
variable {X:Cx}
def uz(K:aC):List V->Hp->VK->Prop:=λxs H Q=>match xs with
 |[.ref p]=>∃ ks b,(fw K H p (ks.map kV)\/∃ kvs,Rd H p (.dK kvs)/\ks=kvs.map (·.1))/\(∀ k∈ks,oI k=b) /\
   ∀ (ms:List Key) (l:ah),ms.Perm ks->(ms.Pairwise λa b=>k7 b a=false)->H l=none->Q (.ref l) (upd H l (.lst (ms.map kV)))
 |_=>False
def vD (hc:X.calm=true):lT X (.builtin "sorted") (uz X.K):=by
 walk_at"n";unfold uz at h;split at h
 ·rename_i p;obtain⟨ks,b,hl,hb,q⟩:=h;obtain⟨u,rfl,ru⟩:=Vals.one r;cases ru;have f7:ks.length<=bq:=by
   rcases hl with hl|⟨kvs,e,rfl⟩
   ·obtain⟨vs,rv,pl,hz⟩:=I.list hl;simpa using hz
   ·obtain⟨z,_⟩:=(I.rd e)
    simpa using z
  refine vE.vK (κ:=oneType') (P:=λv=>∃ k,RelV (kV k) v/\oI k=b/\k∈ks) (λA' E' Q' hA hQ=>?_) (λvs rv=>?_) (λvs rv v hv=>?_) (λvs rv h2 A' E' s' kp Q' q'=>pB rv hb h2 q') (λs' kp=>ud) λvs h' a out n tk rv pm pw kp ha eo=>?_
  ·rcases hl with hl|⟨kvs,e,rfl⟩
   ·obtain⟨vs,rv,pl,hz⟩:=I.list hl;refine collect_list pl.isList (hQ vs _ s.toks rv (λb o e=>?_) ?_) (by have:=rv.length;lia)
    ·rw[UO _ _ _ _ (gp (e9 e))];exact gi _ e
    ·rw[IJ,D9];exact Fu _
   ·obtain⟨z,y,vs,rel,dd⟩:=(I.rd e)
    obtain⟨ep,da⟩:=dd.dictAt;have hlen:vs.length=kvs.length:=rel.length.symm;refine vE.rE (PySem.W.kdl_dict y) (hA.trans (I.ok.hd hc)) da (by lia) λh' tk acc kp hz GO=>hQ _ h' tk ?_ kp hz;have go:∀ {l1:List (Key × V)} {l2:List (Key × ae)} ac,KV l1 l2->ac.length=l2.length->(∀ (i:Nat) v,ac[i]? = some v->∃ k x,l2[i]? = some (k,x)/\FC k v=true)->Vals ((l1.map (·.1)).map kV) ac:=by
     intro l1 l2 ac rl
     induction rl generalizing ac with
     |nil=>intro hl _;cases ac with
      |nil=>exact .nil
      |cons _ _=>cases hl
     |@cons p1 q1 l1 l2 r1 rs ih =>
      intro hl hi
      cases ac with
      |nil=>cases hl
      |cons v ac =>obtain⟨k,x,e1,e2⟩:=hi 0 v rfl;simp only[List.getElem?_cons_zero,Option.some.injEq] at e1;subst e1;refine .cons ?_ (ih ac (by simpa using hl) λi v h=>hi (i+1) v (by simpa using h));have r11:p1.1=k:=r1.1;show RelV (kV p1.1) v;rw[r11];rcases A6 e2 with⟨i,t,rfl,rfl⟩|⟨x,t,rfl,rfl⟩<;>exact⟨t,rfl⟩
    exact go acc.toList rel (by rw[A5];exact GO.1) λi v h=>GO.2 i v (by simpa using h)
  ·have:=rv.length;rw[b9] at this;lia
  ·obtain⟨k,rk,mk⟩:=mem_keys rv v hv;exact⟨k,rk,hb k mk,mk⟩
  ·obtain⟨ms,rm⟩:=jM out λv hv=>mem_keys rv v (pm.mem_iff.mp hv);have pk:ms.Perm ks:=p_ (by rw[<- keys_map rm,<- keys_map rv];exact pm.map _);refine⟨.ref a,_,I.laid kp ha (show kH X.prog X.w _ h' _ (.lst (ms.map kV)) from⟨by rw[b9,pk.length_eq];exact f7,out,n,rm,eo⟩),rfl,q ms _ pk ?_ (I.b5.fresh ha)⟩;have Ql:(out.map iK).Pairwise λx y=>EX (ks.map λk=>[k]) x<=EX (ks.map λk=>[k]) y:=iP.mpr pw;rw[keys_map rm,iP] at Ql;refine Ql.imp_of_mem λ{x y} mx my hle=>?_;have mx:=pk.mem_iff.mp mx;have my:=pk.mem_iff.mp my;rw[<- rW,<- j0 (L:=ks.map λk=>[k]) (by simp[ic,hb x mx,hb y my]) (bT.mpr ⟨y,my,rfl⟩)];exact decide_eq_false (by lia)
 ·exact h.elim
end
end L2
namespace L2.Q
set_option genInjectivity true
inductive D where
 |non|bl (b:Bool)|int (i:Int)|str (x:Str)
 |list (xs:List D)|tup (xs:List D)|dK (kvs:List (Key × D))|dT (kvs:List (List Key × D))
mutual
def D.flat:D->Bool
 |.list _=>false
 |.dK _=>false
 |.dT _=>false
 |.tup xs=>eP xs
 |_=>true
def eP:List D->Bool
 |[]=>true
 |x :: xs=>x.flat && eP xs
end
theorem j7:∀ {xs:List D},eP xs=true↔∀ x∈xs,x.flat=true
 |[]=>by simp[eP]
 |x :: xs=>by simp[eP,j7]
def d7:eP (xs++ys)=(eP xs && eP ys):=by
 induction xs with
 |nil=>simp[eP]
 |cons x xs ih=>simp[eP,ih,Bool.and_assoc]
def BG:Key->Bool
 |.inl _=>true
 |.inr x=>decide (x.length<=bq)
def Ti(kvs:List (Key × D)):Prop:=kvs.length<=bq/\∀ p∈kvs,BG p.1=true
def Tj(kvs:List (List Key × D)):Prop:=kvs.length<=bq/\∀ p∈kvs,p.1.length<=bq/\∀ k∈p.1,BG k=true
mutual
inductive Rep(K:aC)(H:Hp):D->V->Prop
 |non:Rep K H .non .non
 |bl (b:Bool):Rep K H (.bl b) (.bl b)
 |int (i:Int):Rep K H (.int i) (.int i)
 |str {x:Str}:x.length<=bq->Rep K H (.str x) (.str x)
 |list {a:ah} {vs:List V} {ds:List D}:vs.length<=bq->fw K H a vs->b4 K H ds vs->Rep K H (.list ds) (.ref a)
 |tup {a:ah} {vs:List V} {ds:List D}:vs.length<=bq->H a=some (.tup vs)->b4 K H ds vs->Rep K H (.tup ds) (.ref a)
 |dK {a:ah} {vs:List V} {kvs:List (Key × D)}:Ti kvs->Rd H a (.dK ((kvs.map (·.1)).zip vs))->b4 K H (kvs.map (·.2)) vs->Rep K H (.dK kvs) (.ref a)
 |dT {a:ah} {vs:List V} {kvs:List (List Key × D)}:Tj kvs->Rd H a (.dT ((kvs.map (·.1)).zip vs))->b4 K H (kvs.map (·.2)) vs->Rep K H (.dT kvs) (.ref a)
inductive b4(K:aC)(H:Hp):List D->List V->Prop
 |nil:b4 K H [] []
 |cons {d:D} {v:V} {ds:List D} {vs:List V}:Rep K H d v->b4 K H ds vs->b4 K H (d :: ds) (v :: vs)
end
def Rep.ind{K:aC}{H:Hp}{m1:D->V->Prop}{m2:List D->List V->Prop}(h0:m1 .non .non)(hb:∀ b,m1 (.bl b) (.bl b))(hi:∀ i,m1 (.int i) (.int i))(hs:∀ x,x.length<=bq->m1 (.str x) (.str x))(hl:∀ a vs ds,vs.length<=bq->fw K H a vs->b4 K H ds vs->m2 ds vs->m1 (.list ds) (.ref a)) (ht:∀ a vs ds,vs.length<=bq->H a=some (.tup vs)->b4 K H ds vs->m2 ds vs->m1 (.tup ds) (.ref a))(hk:∀ a vs kvs,Ti kvs->Rd H a (.dK ((kvs.map (·.1)).zip vs))->b4 K H (kvs.map (·.2)) vs->m2 (kvs.map (·.2)) vs->m1 (.dK kvs) (.ref a)) (hT:∀ a vs kvs,Tj kvs->Rd H a (.dT ((kvs.map (·.1)).zip vs))->b4 K H (kvs.map (·.2)) vs->m2 (kvs.map (·.2)) vs->m1 (.dT kvs) (.ref a))(hn:m2 [] []) (hc:∀ d v ds vs,Rep K H d v->b4 K H ds vs->m1 d v->m2 ds vs->m2 (d :: ds) (v :: vs)):(∀ {d v},Rep K H d v->m1 d v)/\∀ {ds vs},b4 K H ds vs->m2 ds vs :=
 ⟨λr=>Rep.rec h0 hb hi (λh=>hs _ h) (λz s r ih=>hl _ _ _ z s r ih) (λz s r ih=>ht _ _ _ z s r ih) (λz s r ih=>hk _ _ _ z s r ih) (λz s r ih=>hT _ _ _ z s r ih) hn (λr s a b=>hc _ _ _ _ r s a b) r,
  λr=>b4.rec h0 hb hi (λh=>hs _ h) (λz s r ih=>hl _ _ _ z s r ih) (λz s r ih=>ht _ _ _ z s r ih) (λz s r ih=>hk _ _ _ z s r ih) (λz s r ih=>hT _ _ _ z s r ih) hn (λr s a b=>hc _ _ _ _ r s a b) r⟩
def k9.k'(e:Rd H a (.dK kvs)):k9 H a (kV k) (iA kvs k):=.inl ⟨kvs,k,e,rfl,rfl⟩
def k9.t'(e:Rd H a (.dT kvs))(eb:H b=some (.tup (k.map kV))):k9 H a (.ref b) (iA kvs k):=.inr ⟨kvs,k,b,e,rfl,eb,rfl⟩
def bS.rd(s:bS H H')(h:Rd H a u):Rd H' a u:=h.imp (s _ _) λ⟨o,e⟩=>⟨o,s _ _ e⟩
def Rep.G6{K:aC}(s:bS H H'):(∀ {d:D} {v:V},Rep K H d v->Rep K H' d v)/\∀ {ds:List D} {vs:List V},b4 K H ds vs->b4 K H' ds vs :=
 Rep.ind .non .bl .int (λ_ h=>.str h) (λ_ _ _ z h _ ih=>.list z (s.lst h) ih) (λ_ _ _ z h _ ih=>.tup z (s _ _ h) ih) (λ_ _ _ kk h _ ih=>.dK kk (bS.rd s h) ih) (λ_ _ _ kk h _ ih=>.dT kk (bS.rd s h) ih) .nil λ_ _ _ _ _ _ a b=>.cons a b
def Rep.same{K:aC}(s:bS H H')(r:Rep K H d v):Rep K H' d v:=(Rep.G6 s).1 r
def b4.same{K:aC}(s:bS H H')(r:b4 K H ds vs):b4 K H' ds vs:=(Rep.G6 s).2 r
def b4.ind{K:aC}{H:Hp}{m:List D->List V->Prop}(hn:m [] [])(hc:∀ d v ds vs,Rep K H d v->b4 K H ds vs->m ds vs->m (d :: ds) (v :: vs)):∀ {ds vs},b4 K H ds vs->m ds vs :=
 λr=>(Rep.ind (m1:=λ_ _=>True) trivial (λ_=>trivial) (λ_=>trivial) (λ_ _=>trivial) (λ_ _ _ _ _ _ _=>trivial) (λ_ _ _ _ _ _ _=>trivial) (λ_ _ _ _ _ _ _=>trivial) (λ_ _ _ _ _ _ _=>trivial) hn λd v ds vs r s _ b=>hc d v ds vs r s b).2 r
def b4.length{K:aC}(r:b4 K H ds vs):ds.length=vs.length :=
 b4.ind (m:=λds vs=>ds.length=vs.length) rfl (λ_ _ _ _ _ _ ih=>by rw[pd,pd,ih]) r
def b4.append{K:aC}(r:b4 K H ds vs)(t:b4 K H es ws):b4 K H (ds++es) (vs++ws) :=
 b4.ind (m:=λds vs=>b4 K H (ds++es) (vs++ws)) t (λ_ _ _ _ h _ ih=>.cons h ih) r
def b4.get{K:aC}{H:Hp}{ds:List D}{vs:List V}{i:Nat}{d:D}(r:b4 K H ds vs)(e:ds[i]? = some d):∃ v,vs[i]? = some v/\Rep K H d v :=
 b4.ind (m:=λds vs=>∀ i d,ds[i]? = some d->∃ v,vs[i]? = some v/\Rep K H d v) (λi d e=>by simp at e) (λ_ _ _ _ h _ ih i d e=>by
  cases i with
  |zero=>simp at e;subst e;exact⟨_,rfl,h⟩
  |succ i =>
   obtain⟨v,e1,r⟩:=ih i d (by simpa using e);exact⟨v,by simpa using e1,r⟩) r i d e
def b4.Wd{K:aC}{H:Hp}{ds:List D}{vs:List V}{i:Nat}{v:V}(r:b4 K H ds vs)(e:vs[i]? = some v):∃ d,ds[i]? = some d/\Rep K H d v :=
 b4.ind (m:=λds vs=>∀ i v,vs[i]? = some v->∃ d,ds[i]? = some d/\Rep K H d v) (λi d e=>by simp at e) (λ_ _ _ _ h _ ih i d e=>by
  cases i with
  |zero=>simp at e;subst e;exact⟨_,rfl,h⟩
  |succ i =>
   obtain⟨v,e1,r⟩:=ih i d (by simpa using e);exact⟨v,by simpa using e1,r⟩) r i v e
def b4.drop{K:aC}(n:Nat)(r:b4 K H ds vs):b4 K H (ds.drop n) (vs.drop n) :=
 b4.ind (m:=λds vs=>∀ n,b4 K H (ds.drop n) (vs.drop n)) (λn=>by rw[List.drop_nil,List.drop_nil];exact .nil) (λ_ _ _ _ h hs ih n=>by
  cases n with
  |zero=>exact .cons h hs
  |succ n=>exact ih n) r n
def b4.n0{K:aC}(h:b4 K H [] vs):vs=[]:=by cases h;rfl
def b4.c{K:aC}(h:b4 K H (d :: ds) vs):∃ u us,vs=u :: us/\Rep K H d u/\b4 K H ds us:=by
 cases h with
 |cons r rs=>exact⟨_,_,rfl,r,rs⟩
def b4.take{K:aC}(n:Nat)(r:b4 K H ds vs):b4 K H (ds.take n) (vs.take n) :=
 b4.ind (m:=λds vs=>∀ n,b4 K H (ds.take n) (vs.take n)) (λn=>by rw[List.take_nil,List.take_nil];exact .nil) (λ_ _ _ _ h hs ih n=>by
  cases n with
  |zero=>exact .nil
  |succ n=>exact .cons h (ih n)) r n
mutual
inductive ck(K:aC)(Hs H:Hp)(fl:Bool):D->V->List ah->Prop
 |sh {d:D} {v:V}:(fl=true->d.flat=true)->Rep K Hs d v->ck K Hs H fl d v []
 |list {a:ah} {vs:List V} {ds:List D} {As:List ah}:vs.length<=bq->H a=some (.lst vs)->aA K Hs H fl ds vs As->ck K Hs H fl (.list ds) (.ref a) (a :: As)
 |tup {a:ah} {vs:List V} {ds:List D} {As:List ah}:vs.length<=bq->Hs a=some (.tup vs)->eP ds=false->aA K Hs H fl ds vs As->ck K Hs H fl (.tup ds) (.ref a) As
 |dK {a:ah} {vs:List V} {kvs:List (Key × D)} {As:List ah}:Ti kvs->H a=some (.dK ((kvs.map (·.1)).zip vs))->aA K Hs H fl (kvs.map (·.2)) vs As->ck K Hs H fl (.dK kvs) (.ref a) (a :: As)
 |dT {a:ah} {vs:List V} {kvs:List (List Key × D)} {As:List ah}:Tj kvs->H a=some (.dT ((kvs.map (·.1)).zip vs))->aA K Hs H fl (kvs.map (·.2)) vs As->ck K Hs H fl (.dT kvs) (.ref a) (a :: As)
inductive aA(K:aC)(Hs H:Hp)(fl:Bool):List D->List V->List ah->Prop
 |nil:aA K Hs H fl [] [] []
 |cons {d:D} {v:V} {ds:List D} {vs:List V} {As Bs:List ah}:ck K Hs H fl d v As->aA K Hs H fl ds vs Bs->aA K Hs H fl (d :: ds) (v :: vs) (As++Bs)
end
def Own(H:Hp)(a:ah):Prop:=∃ o,H a=some o/\∀ vs,o≠.tup vs
section
variable {K:aC}{Hs ay H H':Hp}{fl:Bool}
def Own.ne(h:Own H a):H a≠none:=by obtain⟨_,e,_⟩:=h;rw[e];exact λz=>nomatch z
def Own.Bx(h:Own H a):H a≠some (.tup vs):=by obtain⟨_,e,n⟩:=h;rw[e];exact λz=>n vs (Option.some.inj z)
def ck.ind{m1:D->V->List ah->Prop}{m2:List D->List V->List ah->Prop}(hs:∀ d v,(fl=true->d.flat=true)->Rep K Hs d v->m1 d v [])(hl:∀ a vs ds As,vs.length<=bq->H a=some (.lst vs)->aA K Hs H fl ds vs As->m2 ds vs As->m1 (.list ds) (.ref a) (a :: As)) (ht:∀ a vs ds As,vs.length<=bq->Hs a=some (.tup vs)->eP ds=false->aA K Hs H fl ds vs As->m2 ds vs As->m1 (.tup ds) (.ref a) As)(hk:∀ a vs kvs As,Ti kvs->H a=some (.dK ((kvs.map (·.1)).zip vs))->aA K Hs H fl (kvs.map (·.2)) vs As->m2 (kvs.map (·.2)) vs As->m1 (.dK kvs) (.ref a) (a :: As)) (hT:∀ a vs kvs As,Tj kvs->H a=some (.dT ((kvs.map (·.1)).zip vs))->aA K Hs H fl (kvs.map (·.2)) vs As->m2 (kvs.map (·.2)) vs As->m1 (.dT kvs) (.ref a) (a :: As))(hn:m2 [] [] []) (hc:∀ d v ds vs As Bs,ck K Hs H fl d v As->aA K Hs H fl ds vs Bs->m1 d v As->m2 ds vs Bs->m2 (d :: ds) (v :: vs) (As++Bs)):(∀ {d v As},ck K Hs H fl d v As->m1 d v As)/\∀ {ds vs As},aA K Hs H fl ds vs As->m2 ds vs As :=
 ⟨λr=>ck.rec (λf r=>hs _ _ f r) (λz s r ih=>hl _ _ _ _ z s r ih) (λz s n r ih=>ht _ _ _ _ z s n r ih) (λz s r ih=>hk _ _ _ _ z s r ih) (λz s r ih=>hT _ _ _ _ z s r ih) hn (λr s a b=>hc _ _ _ _ _ _ r s a b) r,
  λr=>aA.rec (λf r=>hs _ _ f r) (λz s r ih=>hl _ _ _ _ z s r ih) (λz s n r ih=>ht _ _ _ _ z s n r ih) (λz s r ih=>hk _ _ _ _ z s r ih) (λz s r ih=>hT _ _ _ _ z s r ih) hn (λr s a b=>hc _ _ _ _ _ _ r s a b) r⟩
def xi{a:ah}{p:Prop}(h:a∈([]:List ah)):p:=absurd h IH
def ck.bF':(∀ {d:D} {v:V} {As:List ah},ck K Hs H fl d v As->∀ a∈As,Own H a)/\∀ {ds:List D} {vs:List V} {As:List ah},aA K Hs H fl ds vs As->∀ a∈As,Own H a :=
 ck.ind (λ_ _ _ _ a h=>xi h) (λ_ _ _ _ _ e _ ih a h=>(eK.mp h).elim (λz=>z ▸ ⟨_,e,λ_ z=>nomatch z⟩) (ih a)) (λ_ _ _ _ _ _ _ _ ih=>ih) (λ_ _ _ _ _ e _ ih a h=>(eK.mp h).elim (λz=>z ▸ ⟨_,e,λ_ z=>nomatch z⟩) (ih a)) (λ_ _ _ _ _ e _ ih a h=>(eK.mp h).elim (λz=>z ▸ ⟨_,e,λ_ z=>nomatch z⟩) (ih a)) (λa h=>xi h) λ_ _ _ _ _ _ _ _ i1 i2 a h=>(dP.mp h).elim (i1 a) (i2 a)
def ck.own(r:ck K Hs H fl d v As):∀ a∈As,Own H a:=ck.bF'.1 r
def aA.own(r:aA K Hs H fl ds vs As):∀ a∈As,Own H a:=ck.bF'.2 r
def ck.Hv(s:bS Hs ay):(∀ {d:D} {v:V} {As:List ah},ck K Hs H fl d v As->(∀ a∈As,H' a=H a)->ck K ay H' fl d v As)/\∀ {ds:List D} {vs:List V} {As:List ah},aA K Hs H fl ds vs As->(∀ a∈As,H' a=H a)->aA K ay H' fl ds vs As :=
 ck.ind (λ_ _ f r _=>.sh f (r.same s)) (λ_ _ _ _ z e _ ih k=>.list z ((k _ cy).trans e) (ih λa h=>k a (c9 _ h))) (λ_ _ _ _ z e n _ ih k=>.tup z (s _ _ e) n (ih k)) (λ_ _ _ _ z e _ ih k=>.dK z ((k _ cy).trans e) (ih λa h=>k a (c9 _ h))) (λ_ _ _ _ z e _ ih k=>.dT z ((k _ cy).trans e) (ih λa h=>k a (c9 _ h))) (λ_=>.nil) λ_ _ _ _ _ _ _ _ i1 i2 k=>.cons (i1 λa h=>k a (i9 _ h)) (i2 λa h=>k a (gu _ h))
def ck.ft(s:bS Hs ay)(r:ck K Hs H fl d v As)(k:∀ a∈As,H' a=H a):ck K ay H' fl d v As:=(ck.Hv s).1 r k
def aA.ft(s:bS Hs ay)(r:aA K Hs H fl ds vs As)(k:∀ a∈As,H' a=H a):aA K ay H' fl ds vs As:=(ck.Hv s).2 r k
def ck.grow(s:bS Hs ay)(t:bS H H')(r:ck K Hs H fl d v As):ck K ay H' fl d v As :=
 r.ft s λa h=>by
  cases e:H a with
  |none=>exact absurd e (r.own a h).ne
  |some o=>exact t a o e
def aA.grow(s:bS Hs ay)(t:bS H H')(r:aA K Hs H fl ds vs As):aA K ay H' fl ds vs As :=
 r.ft s λa h=>by
  cases e:H a with
  |none=>exact absurd e (r.own a h).ne
  |some o=>exact t a o e
def ck.rep2{G:Hp}(s:bS Hs G):(∀ {d:D} {v:V} {As:List ah},ck K Hs H fl d v As->(∀ a∈As,G a=H a)->Rep K G d v)/\∀ {ds:List D} {vs:List V} {As:List ah},aA K Hs H fl ds vs As->(∀ a∈As,G a=H a)->b4 K G ds vs :=
 ck.ind (λ_ _ _ r _=>r.same s) (λ_ _ _ _ z e _ ih k=>.list z (.inl (.inl ((k _ cy).trans e))) (ih λa h=>k a (c9 _ h))) (λ_ _ _ _ z e n _ ih k=>.tup z (s _ _ e) (ih k)) (λ_ _ _ _ z e _ ih k=>.dK z (.inl ((k _ cy).trans e)) (ih λa h=>k a (c9 _ h))) (λ_ _ _ _ z e _ ih k=>.dT z (.inl ((k _ cy).trans e)) (ih λa h=>k a (c9 _ h))) (λ_=>.nil) λ_ _ _ _ _ _ _ _ i1 i2 k=>.cons (i1 λa h=>k a (i9 _ h)) (i2 λa h=>k a (gu _ h))
def ck.rep(s:bS Hs G)(r:ck K Hs H fl d v As)(k:∀ a∈As,G a=H a):Rep K G d v:=(ck.rep2 s).1 r k
def aA.reps(s:bS Hs G)(r:aA K Hs H fl ds vs As)(k:∀ a∈As,G a=H a):b4 K G ds vs:=(ck.rep2 s).2 r k
def Rep.wW(t:∀ a vs,H a=some (.tup vs)->G a=some (.tup vs)):(∀ {d:D} {v:V},Rep K H d v->d.flat=true->Rep K G d v)/\∀ {ds:List D} {vs:List V},b4 K H ds vs->eP ds=true->b4 K G ds vs :=
 Rep.ind (λ_=>.non) (λb _=>.bl b) (λi _=>.int i) (λ_ h _=>.str h) (λ_ _ _ _ _ _ _ f=>by simp[D.flat] at f) (λ_ _ _ z e _ ih f=>.tup z (t _ _ e) (ih (by simpa[D.flat] using f))) (λ_ _ _ _ _ _ _ f=>by simp[D.flat] at f) (λ_ _ _ _ _ _ _ f=>by simp[D.flat] at f) (λ_=>.nil) λ_ _ _ _ _ _ i1 i2 f=>by simp only[eP,mw] at f;exact .cons (i1 f.1) (i2 f.2)
def Rep.eN(t:∀ a vs,H a=some (.tup vs)->G a=some (.tup vs))(r:Rep K H d v)(f:d.flat=true):Rep K G d v:=(Rep.wW t).1 r f
def b4.eN(t:∀ a vs,H a=some (.tup vs)->G a=some (.tup vs))(r:b4 K H ds vs)(f:eP ds=true):b4 K G ds vs:=(Rep.wW t).2 r f
def b4.owned(r:b4 K Hs ds vs)(f:eP ds=true):aA K Hs H fl ds vs [] :=
 b4.ind (m:=λds vs=>eP ds=true->aA K Hs H fl ds vs []) (λ_=>.nil) (λ_ _ _ _ h _ ih f=>by
  simp only[eP,mw] at f;exact .cons (.sh (λ_=>f.1) h) (ih f.2)) r f
def b4.HN(r:b4 K Hs ds vs):aA K Hs H false ds vs [] :=
 b4.ind (m:=λds vs=>aA K Hs H false ds vs []) .nil (λ_ _ _ _ h _ ih=>.cons (.sh (λz=>Bool.noConfusion z) h) ih) r
def ck.bG':(∀ {d:D} {v:V} {As:List ah},ck K Hs H fl d v As->ck K Hs H false d v As)/\∀ {ds:List D} {vs:List V} {As:List ah},aA K Hs H fl ds vs As->aA K Hs H false ds vs As :=
 ck.ind (λ_ _ _ r=>.sh (λz=>Bool.noConfusion z) r) (λ_ _ _ _ z e _ ih=>.list z e ih) (λ_ _ _ _ z e n _ ih=>.tup z e n ih) (λ_ _ _ _ z e _ ih=>.dK z e ih) (λ_ _ _ _ z e _ ih=>.dT z e ih) .nil λ_ _ _ _ _ _ _ _ a b=>.cons a b
def ck.Tn(r:ck K Hs H fl d v As):ck K Hs H false d v As:=ck.bG'.1 r
def aA.Tn(r:aA K Hs H fl ds vs As):aA K Hs H false ds vs As:=ck.bG'.2 r
def ck.F_(t:∀ a vs,Hs a=some (.tup vs)->G a=some (.tup vs)):(∀ {d:D} {v:V} {As:List ah},ck K Hs H true d v As->ck K G H true d v As)/\∀ {ds:List D} {vs:List V} {As:List ah},aA K Hs H true ds vs As->aA K G H true ds vs As :=
 ck.ind (λ_ _ f r=>.sh f (r.eN t (f rfl))) (λ_ _ _ _ z e _ ih=>.list z e ih) (λ_ _ _ _ z e n _ ih=>.tup z (t _ _ e) n ih) (λ_ _ _ _ z e _ ih=>.dK z e ih) (λ_ _ _ _ z e _ ih=>.dT z e ih) .nil λ_ _ _ _ _ _ _ _ a b=>.cons a b
def ck.leaves(t:∀ a vs,Hs a=some (.tup vs)->G a=some (.tup vs))(r:ck K Hs H true d v As):ck K G H true d v As:=(ck.F_ t).1 r
def aA.ind{m:List D->List V->List ah->Prop}(hn:m [] [] [])(hc:∀ d v ds vs As Bs,ck K Hs H fl d v As->aA K Hs H fl ds vs Bs->m ds vs Bs->m (d :: ds) (v :: vs) (As++Bs)):∀ {ds vs As},aA K Hs H fl ds vs As->m ds vs As :=
 λr=>(ck.ind (m1:=λ_ _ _=>True) (λ_ _ _ _=>trivial) (λ_ _ _ _ _ _ _ _=>trivial) (λ_ _ _ _ _ _ _ _ _=>trivial) (λ_ _ _ _ _ _ _ _=>trivial) (λ_ _ _ _ _ _ _ _=>trivial) hn λd v ds vs As Bs r s _ b=>hc d v ds vs As Bs r s b).2 r
def aA.append(r:aA K Hs H fl ds vs As)(t:aA K Hs H fl es ws Bs):aA K Hs H fl (ds++es) (vs++ws) (As++Bs) :=
 aA.ind (m:=λds vs As=>aA K Hs H fl (ds++es) (vs++ws) (As++Bs)) t (λ_ _ _ _ _ _ h _ ih=>by
  rw[A4];exact .cons h ih) r
def aA.n0(h:aA K Hs H fl [] vs As):vs=[]/\As=[]:=by cases h;exact⟨rfl,rfl⟩
def aA.c(h:aA K Hs H fl (d :: ds) vs As):∃ u us A B,vs=u :: us/\As=A++B/\ck K Hs H fl d u A/\aA K Hs H fl ds us B:=by
 cases h with
 |cons r rs=>exact⟨_,_,_,_,rfl,rfl,r,rs⟩
def aA.length(r:aA K Hs H fl ds vs As):ds.length=vs.length :=
 aA.ind (m:=λds vs _=>ds.length=vs.length) rfl (λ_ _ _ _ _ _ _ _ ih=>by rw[pd,pd,ih]) r
end
def iz':HO->Prop
 |.dK _=>False
 |.dT _=>False
 |.qf _ _=>False
 |_=>True
def bH'(H H':Hp):Prop:=∀ a o,iz' o->H a=some o->H' a=some o
structure ObP where
 is:Hp->Hp->ah->List ah->Prop
 ft:∀ {Hs ay H H':Hp} {a:ah} {As:List ah},bH' Hs ay->(∀ b∈As,H' b=H b)->is Hs H a As->is ay H' a As
 own:∀ {Hs H:Hp} {a:ah} {As:List ah},is Hs H a As->∀ b∈As,Own H b
def sH(s:bS H H'):bH' H H':=λa o _ e=>s a o e
inductive Sl where
 |sh (d:D)|ow (fl:Bool) (d:D)|lk (a:ah) (fl:Bool) (d:D)
 |xc (a:ah)
 |ob (a:ah) (p:ObP)
abbrev Env:=List (Option Sl)
inductive SR(K:aC)(Hs H:Hp):Env->St->List ah->Prop
 |nil:SR K Hs H [] [] []
 |non {ρ:Env} {σ:St} {ag:List ah} {o:Option V}:SR K Hs H ρ σ ag->SR K Hs H (none :: ρ) (o :: σ) ag
 |sh {ρ:Env} {σ:St} {ag:List ah} {d:D} {v:V}:Rep K Hs d v->SR K Hs H ρ σ ag->SR K Hs H (some (.sh d) :: ρ) (some v :: σ) ag
 |xc {ρ:Env} {σ:St} {ag:List ah} {a:ah}:SR K Hs H ρ σ ag->SR K Hs H (some (.xc a) :: ρ) (some (.ref a) :: σ) ag
 |ow {ρ:Env} {σ:St} {ag As:List ah} {fl:Bool} {d:D} {v:V}:As≠[]->ck K Hs H fl d v As->SR K Hs H ρ σ ag->SR K Hs H (some (.ow fl d) :: ρ) (some v :: σ) (As++ag)
 |lk {ρ:Env} {σ:St} {ag As:List ah} {a:ah} {fl:Bool} {d:D}:As≠[]->ck K Hs H fl d (.ref a) As->SR K Hs H ρ σ ag->SR K Hs H (some (.lk a fl d) :: ρ) (some (.ref a) :: σ) (As++ag)
 |ob {ρ:Env} {σ:St} {ag As:List ah} {a:ah} {p:ObP}:p.is Hs H a As->SR K Hs H ρ σ ag->SR K Hs H (some (.ob a p) :: ρ) (some (.ref a) :: σ) (As++ag)
structure Wf(Hs H:Hp):Prop where
 sub:bS Hs H
 k8:∀ a vs,H a=some (.tup vs)->Hs a=some (.tup vs)
structure fm(K:aC)(Hs:Hp)(ρ:Env)(σ:St)(H:Hp)(ag:List ah):Prop where
 sr:SR K Hs H ρ σ ag
 wf:Wf Hs H
 rS:ag.Nodup
 own:∀ a∈ag,Hs a=none
structure fE(Hs H ay H':Hp):Prop where
 all:bS H H'
 sh:bS Hs ay
 wf:Wf ay H'
 new:∀ a,ay a≠none->Hs a≠none\/H a=none
section
variable {K:aC}{Hs H ay H' bJ' H'':Hp}
def fE.refl(w:Wf Hs H):fE Hs H Hs H:=⟨bS.refl _,bS.refl _,w,λ_ h=>.inl h⟩
def fE.trans(a:fE Hs H ay H')(b:fE ay H' bJ' H''):fE Hs H bJ' H'' :=
 ⟨a.all.trans b.all,a.sh.trans b.sh,b.wf,λc h=>by
  rcases b.new c h with h|h
  ·exact a.new c h
  ·exact .inr (a.all.free h)⟩
def fE.mn(g:fE Hs H ay H')(h:Hs a=none)(h':H a≠none):ay a=none:=by
 cases e:ay a with
 |none=>rfl
 |some o =>
  rcases g.new a (by rw[e];exact λz=>nomatch z) with z|z
  ·exact absurd h z
  ·exact absurd z h'
def SR.own{ρ:Env}{σ:St}{ag:List ah}(s:SR K Hs H ρ σ ag):∀ a∈ag,Own H a:=by
 induction s with
 |nil=>exact λa h=>xi h
 |non _ ih=>exact ih
 |sh _ _ ih=>exact ih
 |xc _ ih=>exact ih
 |ow _ r _ ih=>exact λa h=>(dP.mp h).elim (r.own a) (ih a)
 |lk _ r _ ih=>exact λa h=>(dP.mp h).elim (r.own a) (ih a)
 |@ob _ _ _ _ _ p r _ ih=>exact λa h=>(dP.mp h).elim (p.own r a) (ih a)
def SR.ft(s:bS Hs ay)(r:SR K Hs H ρ σ ag):(∀ a∈ag,H' a=H a)->SR K ay H' ρ σ ag:=by
 induction r with
 |nil=>exact λ_=>.nil
 |non _ ih=>exact λk=>.non (ih k)
 |sh h _ ih=>exact λk=>.sh (h.same s) (ih k)
 |xc _ ih=>exact λk=>.xc (ih k)
 |ow ne h _ ih=>exact λk=>.ow ne (h.ft s λa m=>k a (i9 _ m)) (ih λa m=>k a (gu _ m))
 |lk ne h _ ih=>exact λk=>.lk ne (h.ft s λa m=>k a (i9 _ m)) (ih λa m=>k a (gu _ m))
 |@ob _ _ _ _ _ p h _ ih=>exact λk=>.ob (p.ft (sH s) (λa m=>k a (i9 _ m)) h) (ih λa m=>k a (gu _ m))
def fm.grow(r:fm K Hs ρ σ H ag)(g:fE Hs H ay H'):fm K ay ρ σ H' ag :=
 ⟨r.sr.ft g.sh λa h=>by
  cases e:H a with
  |none=>exact absurd e (r.sr.own a h).ne
  |some o=>exact g.all a o e,g.wf,r.rS,λa h=>g.mn (r.own a h) (r.sr.own a h).ne⟩
def Ar(K:aC)(Hs H:Hp)(ag:List ah)(sl:Sl)(v:V):Prop:=match sl with
 |.sh d=>Rep K Hs d v
 |.ow fl d=>∃ As,As≠[]/\ck K Hs H fl d v As/\∀ a∈As,a∈ag
 |.lk a fl d=>∃ As,As≠[]/\ck K Hs H fl d v As/\v=.ref a/\∀ a∈As,a∈ag
 |.xc a=>v=.ref a
 |.ob a p=>v=.ref a/\∃ As,p.is Hs H a As/\∀ a∈As,a∈ag
def Ar.mono(h:Ar K Hs H ag sl v)(m:∀ a∈ag,a∈cS):Ar K Hs H cS sl v:=by
 cases sl with
 |sh d=>exact h
 |xc a=>exact h
 |ow fl d =>obtain⟨As,ne,r,q⟩:=h;exact⟨As,ne,r,λa ha=>m a (q a ha)⟩
 |lk a fl d =>obtain⟨As,ne,r,e,q⟩:=h;exact⟨As,ne,r,e,λa ha=>m a (q a ha)⟩
 |ob a p =>obtain⟨e,As,r,q⟩:=h;exact⟨e,As,r,λa ha=>m a (q a ha)⟩
def SR.get{ρ:Env}{σ:St}{ag:List ah}{i:Nat}{sl:Sl}(s:SR K Hs H ρ σ ag)(e:ρ[i]? = some (some sl)):∃ v,σ[i]? = some (some v)/\Ar K Hs H ag sl v:=by
 induction s generalizing i with
 |nil=>simp at e
 |non s ih =>
  cases i with
  |zero=>simp at e
  |succ i=>exact ih e
 |sh r s ih =>
  cases i with
  |zero=>simp at e;subst e;exact⟨_,rfl,r⟩
  |succ i=>exact ih e
 |xc s ih =>
  cases i with
  |zero=>simp at e;subst e;exact⟨_,rfl,rfl⟩
  |succ i=>exact ih e
 |ow ne r s ih =>
  cases i with
  |zero=>simp at e;subst e;exact⟨_,rfl,_,ne,r,λa m=>i9 _ m⟩
  |succ i =>obtain⟨v,e1,h⟩:=ih e;exact⟨v,e1,h.mono λa m=>gu _ m⟩
 |lk ne r s ih =>
  cases i with
  |zero=>simp at e;subst e;exact⟨_,rfl,_,ne,r,rfl,λa m=>i9 _ m⟩
  |succ i =>obtain⟨v,e1,h⟩:=ih e;exact⟨v,e1,h.mono λa m=>gu _ m⟩
 |ob r s ih =>
  cases i with
  |zero=>simp at e;subst e;exact⟨_,rfl,rfl,_,r,λa m=>i9 _ m⟩
  |succ i =>obtain⟨v,e1,h⟩:=ih e;exact⟨v,e1,h.mono λa m=>gu _ m⟩
end
inductive Md where
 |sh|ow (fl:Bool)|bo
def RM(K:aC)(Hs H:Hp):Md->D->V->List ah->Prop
 |.sh,d,v,As=>As=[]/\Rep K Hs d v
 |.ow fl,d,v,As=>ck K Hs H fl d v As/\As≠[]
 |.bo,d,v,As=>As=[]/\Rep K H d v
inductive BH(K:aC)(Hs H:Hp):List (Md × D)->List V->List ah->Prop
 |nil:BH K Hs H [] [] []
 |cons {m:Md} {d:D} {v:V} {ps:List (Md × D)} {vs:List V} {As Bs:List ah}:RM K Hs H m d v As->BH K Hs H ps vs Bs->BH K Hs H ((m,d) :: ps) (v :: vs) (As++Bs)
section
variable {K:aC}{Hs H ay H':Hp}
def RM.own{m:Md}{d:D}{v:V}{As:List ah}(r:RM K Hs H m d v As):∀ a∈As,Own H a:=by
 cases m with
 |sh=>obtain⟨rfl,_⟩:=r;exact λa h=>xi h
 |ow fl=>exact ck.own r.1
 |bo=>obtain⟨rfl,_⟩:=r;exact λa h=>xi h
def RM.grow(r:RM K Hs H m d v As)(g:fE Hs H ay H'):RM K ay H' m d v As:=by
 cases m with
 |sh=>exact⟨r.1,r.2.same g.sh⟩
 |ow fl=>exact⟨ck.grow g.sh g.all r.1,r.2⟩
 |bo=>exact⟨r.1,r.2.same g.all⟩
def RM.rep(w:Wf Hs H)(r:RM K Hs H m d v As):Rep K H d v:=by
 cases m with
 |sh=>exact r.2.same w.sub
 |ow fl=>exact ck.rep w.sub r.1 λ_ _=>rfl
 |bo=>exact r.2
def RM.flat(w:Wf Hs H)(r:RM K Hs H m d v As)(f:d.flat=true):Rep K Hs d v:=(r.rep w).eN w.k8 f
def BH.reps(w:Wf Hs H){ps:List (Md × D)}(r:BH K Hs H ps vs As):b4 K H (ps.map (·.2)) vs:=by
 induction r with
 |nil=>exact .nil
 |cons r _ ih=>exact .cons (r.rep w) ih
end
abbrev WE:=Env->(Md->D->Prop)->Prop
abbrev WT:=Env->(Bool->Prop)->Prop
abbrev WA:=Env->(List (Md × D)->Prop)->Prop
structure qU where
 nx:Env->Prop
 rt:Md->D->Prop
 bk:Env->Prop:=fun _=>False
 ct:Env->Prop:=fun _=>False
abbrev WS:=qU->Env->Prop
def cg(ay H:Hp)(As:List ah):Prop:=As.Nodup/\∀ a∈As,ay a=none/\H a=none
def mG(K:aC)(t:WE):TE:=λσ H Qv=>∃ Hs ρ ag Q,fm K Hs ρ σ H ag/\t ρ Q /\
 ∀ v H' ay m d As,fE Hs H ay H'->RM K ay H' m d v As->cg ay H As->Q m d->Qv v H'
def EZ(K:aC)(t:WT):TT:=λσ H Qv=>∃ Hs ρ ag Q,fm K Hs ρ σ H ag/\t ρ Q/\∀ b H' ay,fE Hs H ay H'->Q b->Qv b H'
def tpA(K:aC)(t:WA):TA:=λσ H Qv=>∃ Hs ρ ag Q,fm K Hs ρ σ H ag/\t ρ Q /\
 ∀ vs H' ay ps As,fE Hs H ay H'->BH K ay H' ps vs As->cg ay H As->Q ps->Qv vs H'
def DH(K:aC)(L:Str->Hp->Prop)(t:WS):TS:=λD σ H=>∃ Hs ρ ag E,fm K Hs ρ σ H ag/\t E ρ /\ (∀ cv H' ay cc cS,bS Hs ay->fm K ay cc cv H' cS->E.nx cc->D.nx cv H') /\ (∀ cv H' ay cc cS,bS Hs ay->fm K ay cc cv H' cS->E.bk cc->D.bk cv H') /\ (∀ cv H' ay cc cS,bS Hs ay->fm K ay cc cv H' cS->E.ct cc->D.ct cv H') /\ (∀ v H' ay m d As,bS Hs ay->Wf ay H'->RM K ay H' m d v As->As.Nodup->(∀ a∈As,ay a=none)->E.rt m d->D.rt v H') /\
 ∀ n H',bS Hs H'->E.rt (.ow false) (.str n)->L n H'
def mU{K:aC}{L:Str->Hp->Prop}{t:WS}{D:Ends}{σ:St}{H:Hp}{G:Prop}(x:DH K L t D σ H)(k:∀ Hs ρ ag E,fm K Hs ρ σ H ag->t E ρ -> (∀ cv H' ay cc cS,bS Hs ay->fm K ay cc cv H' cS->E.nx cc->D.nx cv H') -> (∀ cv H' ay cc cS,bS Hs ay->fm K ay cc cv H' cS->E.bk cc->D.bk cv H') -> (∀ cv H' ay cc cS,bS Hs ay->fm K ay cc cv H' cS->E.ct cc->D.ct cv H') -> (∀ v H' ay m d As,bS Hs ay->Wf ay H'->RM K ay H' m d v As->As.Nodup->(∀ a∈As,ay a=none)->E.rt m d->D.rt v H') -> (∀ n H',bS Hs H'->E.rt (.ow false) (.str n)->L n H')->G):G :=
 by
 obtain⟨Hs,ρ,ag,E,sr,h,k1,k2,k3,k4,kx⟩:=x;exact k Hs ρ ag E sr h k1 k2 k3 k4 kx
def cz{K:aC}{L:Str->Hp->Prop}{t:WS}{D:Ends}{σ:St}{H:Hp}{G:Prop}(x:DH K L t D σ H)(k:∀ Hs ρ ag E,fm K Hs ρ σ H ag->t E ρ -> (∀ cv H' ay cc cS,bS Hs ay->fm K ay cc cv H' cS->E.nx cc->D.nx cv H') -> (∀ cv H' ay cc cS,bS Hs ay->fm K ay cc cv H' cS->E.bk cc->D.bk cv H') -> (∀ cv H' ay cc cS,bS Hs ay->fm K ay cc cv H' cS->E.ct cc->D.ct cv H') -> (∀ v H' ay m d As,bS Hs ay->Wf ay H'->RM K ay H' m d v As->As.Nodup->(∀ a∈As,ay a=none)->E.rt m d->D.rt v H')->G):G :=
 mU x λHs ρ ag E sr h k1 k2 k3 k4 _=>k Hs ρ ag E sr h k1 k2 k3 k4
def kL{α β γ δ:Type _}{A B C:α->β->γ->δ->Prop}{G:Prop}(x:∃ a b c d,A a b c d/\B a b c d/\C a b c d)(k:∀ a b c d,A a b c d->B a b c d->C a b c d->G):G :=
 by
 obtain⟨a,b,c,d,p,q,r⟩:=x;exact k a b c d p q r
abbrev QE(X:Cx)(K:aC)(e:Expr)(t:WE):Prop:=PE X e (mG K t)
abbrev QT(X:Cx)(K:aC)(e:Expr)(t:WT):Prop:=PT X e (EZ K t)
abbrev QW(X:Cx)(K:aC)(e:Expr)(t:WT):Prop:=PW X e (EZ K t)
abbrev QA(X:Cx)(K:aC)(es:List Expr)(t:WA):Prop:=PA X es (tpA K t)
abbrev QS(X:Cx)(K:aC)(L:Str->Hp->Prop)(st:Stmt)(t:WS):Prop:=PS X st (DH K L t)
abbrev AG(X:Cx)(K:aC)(L:Str->Hp->Prop)(st:List Stmt)(t:WS):Prop:=nv X st (DH K L t)
abbrev L0:Str->Hp->Prop:=λ_ _=>True
end L2.Q
namespace L2.Q
structure Kt{α:Type}(f:α->Prop):Type where
def cE{α:Type}(a:α){f:α->Prop}(_:Kt f):Prop:=f a
mutual
def D.py:D->eh
 |.non=>.none
 |.bl b=>.bool b
 |.int i=>.int i
 |.str x=>.str x
 |.list xs=>.list (n5 xs)
 |.tup xs=>.tuple (n5 xs)
 |.dK _=>.none
 |.dT _=>.none
def n5:List D->List eh
 |[]=>[]
 |x :: xs=>x.py :: n5 xs
end
def dS:Nat->D->Bool
 |_,.non=>true
 |_,.bl _=>true
 |_,.int _=>true
 |_,.str x=>PyData.strOk x
 |n+1,.list xs=>xs.all (dS n)
 |n+1,.tup xs=>xs.all (dS n)
 |_,_=>false
def ja(x y:D):Bool:=PyData.eqv x.py y.py
def D.ty:D->String
 |.non => "NoneType"
 |.bl _ => "bool"
 |.int _ => "int"
 |.str _ => "str"
 |.list _ => "list"
 |.tup _ => "tuple"
 |.dK _ => "dict"
 |.dT _ => "dict"
def D.key1:D->Option Key
 |.int i=>some (.inl i)
 |.str x=>some (.inr x)
 |_=>none
def dW:List D->Option (List Key)
 |[]=>some []
 |x :: xs=>match x.key1,dW xs with
  |some k,some ks=>some (k :: ks)
  |_,_=>none
section
variable {κ:Type}[DecidableEq κ]{β:Type}
def dE(kvs:List (κ × β))(k:κ):Option β:=(kvs.find? λkv=>decide (kv.1=k)).map (·.2)
def gX(kvs:List (κ × β))(k:κ)(v:β):List (κ × β) :=
 if (kvs.any λkv=>decide (kv.1=k))=true then kvs.map (λkv=>if kv.1=k then (kv.1,v) else kv) else kvs++[(k,v)]
end
def Rep.Wg{K:aC}:(∀ {d:D} {v:V},Rep K H d v->∀ n,dS n d=true->L2.Rep K H d.py v)/\∀ {ds:List D} {vs:List V},b4 K H ds vs->∀ n,(∀ d∈ds,dS n d=true)->L2.b4 K H (n5 ds) vs :=
 Rep.ind (λ_ _=>.none) (λb _ _=>.bool b) (λi _ _=>.int i) (λ_ _ _ _=>.str _) (λ_ _ _ _ h _ ih n o=>by
   cases n with
   |zero=>simp[dS] at o
   |succ n=>exact .list h (ih n (by simpa[dS] using o)))
  (λ_ _ _ _ h _ ih n o=>by
   cases n with
   |zero=>simp[dS] at o
   |succ n=>exact .tuple (.inl (.inl h)) (ih n (by simpa[dS] using o)))
  (λ_ _ _ _ _ _ _ n o=>by cases n<;>simp[dS] at o) (λ_ _ _ _ _ _ _ n o=>by cases n<;>simp[dS] at o) (λ_ _=>.nil)
  λ_ _ _ _ _ _ i1 i2 n o=>.cons (i1 n (o _ cy)) (i2 n λd m=>o d (c9 _ m))
def Rep.l2{K:aC}(r:Rep K H d v)(o:dS n d=true):L2.Rep K H d.py v:=Rep.Wg.1 r n o
def xO(ih:∀ d,dS n d=true->d.py.canLay0=true/\d.py.depth<=n)(xs:List D)(h:∀ x∈xs,dS n x=true):PyData.canLayAll0 (n5 xs)=true/\PyData.depthAll (n5 xs)<=n:=by
 induction xs with
 |nil=>exact⟨rfl,fI _⟩
 |cons x xs Wh =>have h1:=ih x (h x cy);have h2:=Wh λy hy=>h y (c9 _ hy);simp only[n5,PyData.canLayAll0,PyData.depthAll,h1.1,h2.1,Bool.and_self,true_and];lia
def iG(n:Nat):∀ (d:D),dS n d=true->d.py.canLay0=true/\d.py.depth<=n:=by
 have st:∀ n x,dS n (.str x)=true->(D.str x).py.canLay0=true/\(D.str x).py.depth<=n:=λn x h=>by
  have h:PyData.strOk x=true:=by cases n<;>simpa[dS] using h
  exact⟨by simpa[D.py,PyData.canLay0] using h,fI _⟩
 induction n with
 |zero =>
  intro d h
  cases d with
  |str x=>exact st _ x h
  |non=>exact⟨rfl,fI _⟩
  |bl _=>exact⟨rfl,fI _⟩
  |int _=>exact⟨rfl,fI _⟩
  |_=>simp[dS] at h
 |succ n ih =>
  intro d h
  cases d with
  |str x=>exact st _ x h
  |non=>exact⟨rfl,fI _⟩
  |bl _=>exact⟨rfl,fI _⟩
  |int _=>exact⟨rfl,fI _⟩
  |list xs =>
   have h:∀ x∈xs,dS n x=true:=by simpa[dS] using h
   have:=xO ih xs h;simp only[D.py,PyData.canLay0,PyData.depth];exact⟨this.1,by lia⟩
  |tup xs =>
   have h:∀ x∈xs,dS n x=true:=by simpa[dS] using h
   have:=xO ih xs h;simp only[D.py,PyData.canLay0,PyData.depth];exact⟨this.1,by lia⟩
  |dK _=>simp[dS] at h
  |dT _=>simp[dS] at h
mutual
def D.nb:D->Bool
 |.bl _=>false
 |.list xs=>vF xs
 |.tup xs=>vF xs
 |.dK _=>false
 |.dT _=>false
 |_=>true
def vF:List D->Bool
 |[]=>true
 |x :: xs=>x.nb && vF xs
end
mutual
theorem jY:∀ (x y:D),x.nb=true->y.nb=true->(ja x y=true↔x=y)
 |.non,y,_,hy=>by cases y<;>simp_all [ja,D.py,PyData.eqv,D.nb]
 |.bl _,y,hx,_=>by simp[D.nb] at hx
 |.int i,y,_,hy=>by cases y<;>simp_all [ja,D.py,PyData.eqv,D.nb]
 |.str i,y,_,hy=>by cases y<;>simp_all [ja,D.py,PyData.eqv,D.nb]
 |.dK _,y,hx,_=>by simp[D.nb] at hx
 |.dT _,y,hx,_=>by simp[D.nb] at hx
 |.list xs,y,hx,hy=>by
  cases y with
  |list ys =>have:=nT xs ys (by simpa[D.nb] using hx) (by simpa[D.nb] using hy);simp only[ja,D.py,PyData.eqv,D.list.injEq];exact this
  |_=>simp_all [ja,D.py,PyData.eqv,D.nb]
 |.tup xs,y,hx,hy=>by
  cases y with
  |tup ys =>have:=nT xs ys (by simpa[D.nb] using hx) (by simpa[D.nb] using hy);simp only[ja,D.py,PyData.eqv,D.tup.injEq];exact this
  |_=>simp_all [ja,D.py,PyData.eqv,D.nb]
theorem nT:∀ (xs ys:List D),vF xs=true->vF ys=true->(PyData.eqvAll (n5 xs) (n5 ys)=true↔xs=ys)
 |[],[],_,_=>by simp[n5,PyData.eqvAll]
 |[],_ :: _,_,_=>by simp[n5,PyData.eqvAll]
 |_ :: _,[],_,_=>by simp[n5,PyData.eqvAll]
 |x :: xs,y :: ys,hx,hy=>by simp only[vF,mw] at hx hy;have h1:=jY x y hx.1 hy.1;have h2:=nT xs ys hx.2 hy.2;simp only[n5,PyData.eqvAll,mw,List.cons.injEq];exact and_congr h1 h2
end
section
variable {K:aC}{H:Hp}
def Rep.key(r:Rep K H d v)(h:d.key1=some k):v=kV k:=by cases r<;>simp[D.key1] at h<;>subst h<;>rfl
def b4.keys(r:b4 K H ds vs)(h:dW ds=some ks):vs=ks.map kV:=by
 induction ds generalizing vs ks with
 |nil=>simp[dW] at h;subst h;exact r.n0
 |cons d ds ih =>
  obtain⟨u,us,rfl,r,rs⟩:=r.c;unfold dW at h
  cases e1:d.key1 with
  |none=>rw[e1] at h;simp at h
  |some k =>
   cases e2:dW ds with
   |none=>rw[e1,e2] at h;simp at h
   |some dQ =>rw[e1,e2] at h;simp at h;subst h;rw[fS,r.key e1,ih rs e2]
def Rep.kg(r:Rep K H (.tup ds) v)(h:dW ds=some ks):∃ b,v=.ref b/\H b=some (.tup (ks.map kV)):=by
 cases r with
 |tup _ e rs=>exact⟨_,rfl,by rw[e,rs.keys h]⟩
end
section
variable {κ:Type}[DecidableEq κ]{K:aC}{H:Hp}
def zip_get{k:κ}{kvs:List (κ × D)}{vs:List V}(h:b4 K H (kvs.map (·.2)) vs):match dE kvs k with
  |some d=>∃ v,iA ((kvs.map (·.1)).zip vs) k=some v/\Rep K H d v
  |none=>iA ((kvs.map (·.1)).zip vs) k=none:=by
 induction kvs generalizing vs with
 |nil=>rfl
 |cons p kvs ih =>
  obtain⟨u,us,rfl,r,rs⟩:=b4.c h;by_cases e:p.1=k
  ·have e1:dE (p :: kvs) k=some p.2:=by simp[dE,e]
   rw[e1];exact⟨_,by simp only[fS,M0];exact yi e,r⟩
  ·have e1:dE (p :: kvs) k=dE kvs k:=by simp[dE,e]
   rw[e1];have:=ih rs;simp only[fS,M0,yk (p:=(p.1,_)) e];exact this
def E_{k:κ}{kvs:List (κ × D)}{vs:List V}(h:kvs.length=vs.length):((kvs.map (·.1)).zip vs).any (λkv=>decide (kv.1=k))=kvs.any λkv=>decide (kv.1=k):=by
 induction kvs generalizing vs with
 |nil=>rfl
 |cons p kvs ih =>
  cases vs with
  |nil=>simp at h
  |cons v vs =>simp only[fS,M0,D7];rw[ih (by simpa using h)]
end
section
variable {K:aC}{Hs H:Hp}
def Ot(w:Wf Hs H)(hp:H p=none)(ho:∀ vs,o≠.tup vs):fE Hs H Hs (upd H p o) :=
 ⟨(bS.refl H).upd hp,bS.refl _,⟨w.sub.upd hp,λa vs e=>by
  by_cases h:a=p
  ·subst h;rw[hG] at e;exact absurd (Option.some.inj e) (ho vs)
  ·rw[fq h] at e;exact w.k8 a vs e⟩,λ_ h=>.inl h⟩
def To(w:Wf Hs H)(hp:H p=none):fE Hs H (upd Hs p (.tup vs)) (upd H p (.tup vs)) :=
 ⟨(bS.refl H).upd hp,(bS.refl Hs).upd (w.sub.free hp),⟨λa o e=>by
  by_cases h:a=p
  ·subst h;rw[hG] at e ⊢;exact e
  ·rw[fq h] at e ⊢;exact w.sub a o e,λa vs e=>by
  by_cases h:a=p
  ·subst h;rw[hG] at e ⊢;exact e
  ·rw[fq h] at e ⊢;exact w.k8 a vs e⟩,λa h=>by
  by_cases e:a=p
  ·subst e;exact .inr hp
  ·rw[fq e] at h;exact .inl h⟩
def cg.nil:cg Hs H []:=⟨oy,λa h=>nomatch h⟩
def cg.of(s:bS H H')(f:cg Hs H' As):cg Hs H As:=⟨f.1,λa h=>⟨(f.2 a h).1,s.free (f.2 a h).2⟩⟩
abbrev Fin(K:aC)(Hs H:Hp)(Qd:Md->D->Prop)(Qv:VK):Prop:=∀ v H' ay m d As,fE Hs H ay H'->RM K ay H' m d v As->cg ay H As->Qd m d->Qv v H'
def Fin.after(f:Fin K Hs H Qd Qv)(g:fE Hs H ay H'):Fin K ay H' Qd Qv:=λv H2 aT m d As g2 r fr q=>f v H2 aT m d As (g.trans g2) r (fr.of g.all) q
def Fin.sh(f:Fin K Hs H Qd Qv)(w:Wf Hs H)(r:Rep K Hs d v)(q:Qd .sh d):Qv v H:=f v H Hs .sh d [] (fE.refl w) ⟨rfl,r⟩ cg.nil q
def Fin.flat(f:Fin K Hs H Qd Qv)(w:Wf Hs H)(r:Rep K H d v)(hf:d.flat=true)(q:Qd .sh d):Qv v H:=f.sh w (r.eN w.k8 hf) q
def Fin.bo(f:Fin K Hs H Qd Qv)(w:Wf Hs H)(r:Rep K H d v)(q:Qd .bo d):Qv v H:=f v H Hs .bo d [] (fE.refl w) ⟨rfl,r⟩ cg.nil q
def tJ(m:Md)(d:D):Md:=match m with
 |.sh=>.sh
 |_=>bif d.flat then .sh else .bo
def Fin.tJ(f:Fin K Hs H Qd Qv)(w:Wf Hs H)(r:Rep K H d v)(rs:m=.sh->Rep K Hs d v)(q:Qd (tJ m d) d):Qv v H:=by
 have o:Qd (bif d.flat then .sh else .bo) d->Qv v H:=λq=>by
  cases hf:d.flat with
  |true=>exact f.flat w r hf (by simpa[hf] using q)
  |false=>exact f.bo w r (by simpa[hf] using q)
 cases m with
 |sh=>exact f.sh w (rs rfl) q
 |_=>exact o q
def Fin.lst(f:Fin K Hs H Qd Qv)(w:Wf Hs H)(hz:ds.length<=bq)(r:b4 K H ds vs)(hf:eP ds=true)(q:Qd (.ow true) (.list ds)):∀ p,H p=none->Qv (.ref p) (upd H p (.lst vs)):=λp hp =>
 f _ _ Hs (.ow true) (.list ds) [p] (Ot w hp λ_ z=>nomatch z) ⟨.list (by rw[<- r.length];exact hz) hG ((r.eN w.k8 hf).owned hf),by simp⟩ ⟨by simp,λa h=>by
  obtain rfl:a=p:=by simpa using h
  exact⟨w.sub.free hp,hp⟩⟩ q
def Fin.Qm(f:Fin K Hs H Qd Qv)(w:Wf Hs H)(hz:ds.length<=bq)(r:b4 K Hs ds vs)(q:Qd (.ow false) (.list ds)):∀ p,H p=none->Qv (.ref p) (upd H p (.lst vs)):=λp hp =>
 f _ _ Hs (.ow false) (.list ds) [p] (Ot w hp λ_ z=>nomatch z) ⟨.list (by rw[<- r.length];exact hz) hG r.HN,by simp⟩ ⟨by simp,λa h=>by
  obtain rfl:a=p:=by simpa using h
  exact⟨w.sub.free hp,hp⟩⟩ q
def Fin.tup(f:Fin K Hs H Qd Qv)(w:Wf Hs H)(hz:ds.length<=bq)(r:b4 K H ds vs)(hf:eP ds=true)(q:Qd .sh (.tup ds)):∀ p,H p=none->Qv (.ref p) (upd H p (.tup vs)):=λp hp =>
 f _ _ (upd Hs p (.tup vs)) .sh (.tup ds) [] (To w hp) ⟨rfl,.tup (by rw[<- r.length];exact hz) hG ((r.eN w.k8 hf).same ((bS.refl Hs).upd (w.sub.free hp)))⟩ cg.nil q
end
section
variable {X:Cx}{K:aC}
def PE.imp(h:PE X e te)(i:∀ σ H Q,yA σ H Q->te σ H Q):PE X e yA:=λpins s σ H Q I q=>h pins s σ H Q I (i σ H Q q)
def PT.imp(h:PT X e te)(i:∀ σ H Q,yA σ H Q->te σ H Q):PT X e yA:=λpins s σ H Q I q=>h pins s σ H Q I (i σ H Q q)
def PW.imp(h:PW X e te)(i:∀ σ H Q,yA σ H Q->te σ H Q):PW X e yA:=λwh pins s σ H Q I q=>h wh pins s σ H Q I (i σ H Q q)
def PA.imp(h:PA X e te)(i:∀ σ H Q,yA σ H Q->te σ H Q):PA X e yA:=λp pins s σ H Q I q=>h p pins s σ H Q I (i σ H Q q)
def Tp:Option (Option Sl)->(Md->D->Prop)->Prop
 |some (some (.sh d)),Q=>Q .sh d
 |some (some (.ow _ d)),Q=>Q .bo d
 |some (some (.lk _ _ d)),Q=>Q .bo d
 |_,_=>False
def av(i:Nat):WE:=λρ Q=>Tp ρ[i]? Q
def J8(h:PE X e (ED i)):QE X K e (av i):=by
 refine PE.imp h λσ H Qv hx=>kL hx λHs ρ ag Q sr h f=>?_;unfold av at h
 cases e:ρ[i]? with
 |none=>rw[e] at h;exact h.elim
 |some o =>
  cases o with
  |none=>rw[e] at h;exact h.elim
  |some sl =>
   obtain⟨v,e1,r⟩:=sr.sr.get e;rw[e] at h
   cases sl with
   |sh d=>exact⟨v,e1,Fin.sh f sr.wf r h⟩
   |xc a=>exact h.elim
   |ob a p=>exact h.elim
   |ow fl d =>obtain⟨As,_,r,_⟩:=r;exact⟨v,e1,Fin.bo f sr.wf (r.rep sr.wf.sub λ_ _=>rfl) h⟩
   |lk a fl d =>obtain⟨As,_,r,_⟩:=r;exact⟨v,e1,Fin.bo f sr.wf (r.rep sr.wf.sub λ_ _=>rfl) h⟩
def qv (i:Nat) (hN:autoParam (X.N[i]? = some x) bv) (hv:R7 X.env.scope x:=by first|exact Or.inl rfl|exact Or.inr (Or.inl rfl)|exact Or.inr (Or.inr rfl)) (hd:(x == ("__debug__" : Str))=false:=by decide) (uS:(x == ("__classdict__" : Str))=false:=by decide):QE X K (.Name x pos) (av i):=J8 (ZT hN hv hd uS)
def wC(d:D):WE:=λ_ Q=>Q .sh d
def vI(h:PE X e (tC v))(r:∀ H,Rep K H d v):QE X K e (wC d) :=
 PE.imp h λσ H Qv hx=>kL hx λHs ρ ag Q sr h f=>Fin.sh f sr.wf (r _) h
def au{i j pos}:QE X K (.Constant (.int i) j pos) (wC (.int i)):=vI dz' λ_=>.int i
def uW{i j pos}(h:i.length<=bq:=by decide):QE X K (.Constant (.str i) j pos) (wC (.str i)):=vI dC' λ_=>.str h
def AH{i j pos}:QE X K (.Constant (.bool i) j pos) (wC (.bl i)):=vI dA' λ_=>.bl i
def Hc{j pos}:QE X K (.Constant .none j pos) (wC .non):=vI dB' λ_=>.non
def Qn (h:Ta X.mg x z) (hg:autoParam (Gl X x) bv) (hd:(x == ("__debug__" : Str))=false:=by decide) (hz:z.length<=bq:=by decide):QE X K (.Name x pos) (wC (.str z)):=vI (JG h hg hd) λ_=>.str hz
def Tq (h:Og X.mg x i) (hg:autoParam (Gl X x) bv) (hd:(x == ("__debug__" : Str))=false:=by decide):QE X K (.Name x pos) (wC (.int i)):=vI (Km h hg hd) λ_=>.int i
abbrev W2:=Md->D->Md->D->(Md->D->Prop)->Prop
abbrev W1:=Md->D->(Md->D->Prop)->Prop
def mI(K:aC)(r:R2)(f:W2):Prop:=∀ Hs H m x v As n y u Bs Qd Qv,Wf Hs H->RM K Hs H m x v As->RM K Hs H n y u Bs->f m x n y Qd->Fin K Hs H Qd Qv->r v u H Qv
def LB(K:aC)(r:V->Hp->VK->Prop)(f:W1):Prop:=∀ Hs H m x v As Qd Qv,Wf Hs H->RM K Hs H m x v As->f m x Qd->Fin K Hs H Qd Qv->r v H Qv
def bp(f:W2)(ta tb:WE):WE:=λρ Q=>ta ρ λm x=>tb ρ λn y=>f m x n y Q
def gV(f:W1)(ta:WE):WE:=λρ Q=>ta ρ λm x=>f m x Q
variable {a b:Expr}{ta tb tc:WE}{pos:Pos}
def oK(br:mI K r f)(σ:St)(H:Hp)(Qv:VK)(h:mG K (bp f ta tb) σ H Qv):PD r (mG K ta) (mG K tb) σ H Qv:=by obtain⟨Hs,ρ,ag,Q,sr,h,fin⟩:=h;exact⟨Hs,ρ,ag,_,sr,h,λv H1 bI m x As g1 r1 f1 q1=>⟨bI,ρ,ag,_,sr.grow g1,q1,λu H2 aT n y Bs g2 r2 f2 q2=>br aT H2 m x v As n y u Bs Q Qv g2.wf (r1.grow g2) r2 q2 (Fin.after fin (g1.trans g2))⟩⟩
def Ou(ho:eS X (om op) r)(br:mI K r f)(ha:QE X K a ta)(hb:QE X K b tb):QE X K (.BinOp a op b pos) (bp f ta tb):=PE.imp (eu' ho ha hb) (oK br)
def iA'(ho:Sn X (unaryOp op) r)(br:LB K r f)(ha:QE X K a ta):QE X K (.UnaryOp op a pos) (gV f ta):=by exact PE.imp (ev' ho ha) λσ H Qv hx=>kL hx λHs ρ ag Q sr h fin=>⟨Hs,ρ,ag,_,sr,h,λv H1 bI m x As g1 r1 f1 q1=>br bI H1 m x v As Q Qv g1.wf r1 q1 (Fin.after fin g1)⟩
def Aq(ho:eS X (iq op) r)(br:mI K r f)(ha:QE X K a ta)(hb:QE X K b tb)(hm:MS op b=false:=by first|exact aa' _|rfl):QE X K (.Compare a [op] [b] pos) (bp f ta tb):=PE.imp (eO' ho ha hb hm) (oK br)
def wB(t:WE):WT:=λρ Q=>t ρ λ_ x=>match x with
 |.bl b=>Q b
 |_=>False
def zz(σ:St)(H:Hp)(Qv:Bool->Hp->Prop)(h:EZ K (wB t) σ H Qv):Vh (mG K t) σ H Qv:=by
 obtain⟨Hs,ρ,ag,Q,sr,h,fin⟩:=h;walk_at"g";have r:=r1.rep g1.wf
 cases r with
 |bl b=>exact⟨b,rfl,fin b H1 bI g1 q1⟩
 |_=>exact q1.elim
def uq(h:mG K t σ H Q)(i:∀ v H',Q v H'->Q' v H'):mG K t σ H Q':=by obtain⟨Hs,ρ,ag,Qd,sr,h,fin⟩:=h;exact⟨Hs,ρ,ag,Qd,sr,h,λv H1 bI m x As g1 r1 f1 q1=>i _ _ (fin v H1 bI m x As g1 r1 f1 q1)⟩
def aM(ho:eS X (iq op) r)(br:mI K r f)(ha:QE X K a ta)(hb:QE X K b tb)(hm:MS op b=false:=by first|exact aa' _|rfl):QT X K (.Compare a [op] [b] pos) (wB (bp f ta tb)):=by
 refine PT.imp (eP' ho ha hb hm) λσ H Qv h=>?_;obtain⟨Hs,ρ,ag,Q,sr,h,fin⟩:=h;refine oK br σ H _ ⟨Hs,ρ,ag,_,sr,h,λv H1 bI m x As g1 r1 f1 q1=>?_⟩;have r:=r1.rep g1.wf
 cases r with
 |bl b=>exact⟨b,rfl,fin b H1 bI g1 q1⟩
 |_=>exact q1.elim
def yp(h:QE X K a t)(he:∀ whole,isTrue a X.env whole=(do let v <- whole;standAt a.pos;holding [v] (truthy v)):=by intro _;rfl):QT X K a (wB t):=PT.imp (dE' h he) zz
def ph(f g:W2)(ta tb tc:WE):WE:=λρ Q=>ta ρ λm x=>tb ρ λn y=>f m x n y λ_ z=>match z with
 |.bl k=>if k=true then tc ρ λl w=>g n y l w Q else Q .sh (.bl false)
 |_=>False
end
section
variable {X:Cx}{K:aC}{a b c:Expr}{ta tb tc:WE}{pos:Pos}
def vq(br:mI K r f)(Wi:mI K r' g)(σ:St)(H:Hp)(Qv:VK)(h:mG K (ph f g ta tb tc) σ H Qv):ab' r r' (mG K ta) (mG K tb) (mG K tc) σ H Qv:=by
 obtain⟨Hs,ρ,ag,Q,sr,h,fin⟩:=h;refine⟨Hs,ρ,ag,_,sr,h,λv H1 bI m x As g1 r1 f1 q1=>⟨bI,ρ,ag,_,sr.grow g1,q1,λu H2 aT n y Bs g2 r2 f2 q2=>?_⟩⟩;refine br aT H2 m x v As n y u Bs _ _ g2.wf (r1.grow g2) r2 q2 λz H3 fP m3 d3 Ov g3 r3 f3 q3=>?_;have rr:=r3.rep g3.wf
 cases rr with
 |bl k =>
  refine⟨k,rfl,?_⟩;have Tf:Fin K fP H3 Q Qv:=Fin.after fin ((g1.trans g2).trans g3)
  cases k with
  |false=>exact Tf.sh g3.wf (.bl false) q3
  |true =>exact⟨fP,ρ,ag,_,((sr.grow g1).grow g2).grow g3,q3,λw H4 Ow l z Ox g4 r4 f4 q4=>Wi Ow H4 n y u Bs l z w Ox Q Qv g4.wf ((r2.grow g3).grow g4) r4 q4 (Fin.after Tf g4)⟩
 |_=>exact q3.elim
def ue(ho:eS X (iq op) r)(oB:eS X (iq op') r')(br:mI K r f)(Wi:mI K r' g)(ha:QE X K a ta)(hb:QE X K b tb)(hc:QE X K c tc)(hm:lastMarks [op,op'] [b,c]=false:=by with_unfolding_all rfl):QT X K (.Compare a [op,op'] [b,c] pos) (wB (ph f g ta tb tc)):=by
 refine PT.imp (eQ' ho oB ha hb hc hm) λσ H Qv h=>?_;obtain⟨Hs,ρ,ag,Q,sr,h,fin⟩:=h;refine vq br Wi σ H _ ⟨Hs,ρ,ag,_,sr,h,λv H1 bI m x As g1 r1 f1 q1=>?_⟩;have r:=r1.rep g1.wf
 cases r with
 |bl b=>exact⟨b,rfl,fin b H1 bI g1 q1⟩
 |_=>exact q1.elim
def Oy(t u:WT):WT:=λρ Q=>t ρ λc=>if c=true then u ρ Q else Q false
def Oz(t u:WT):WT:=λρ Q=>t ρ λc=>if c=true then Q true else u ρ Q
def OB(t:WT):WT:=λρ Q=>t ρ λc=>Q (!c)
variable {tA tB:WT}{rest:List Expr}
def ou{t u:WT}{f:Bool->TT}{σ:St}{H:Hp}{Qv:Bool->Hp->Prop}{G:Bool->(Bool->Prop)->Env->Prop}(h:EZ K (λρ Q=>t ρ λc=>G c Q ρ) σ H Qv)(i:∀ c H1 bI ρ ag Q,fm K bI ρ σ H1 ag->G c Q ρ->(∀ b H' ay,fE bI H1 ay H'->Q b->Qv b H')->f c σ H1 Qv):EZ K t σ H λc H1=>f c σ H1 Qv:=by
 obtain⟨Hs,ρ,ag,Q,sr,h,fin⟩:=h;exact⟨Hs,ρ,ag,_,sr,h,λc H1 bI g1 q1=>i c H1 bI ρ ag Q (sr.grow g1) q1 λb H' ay g2=>fin b H' ay (g1.trans g2)⟩
def n_(ha:QT X K a tA):QW X K (.BoolOp .And [a] pos) tA:=pw_and1 ha
def yx(ha:QT X K a tA):QW X K (.BoolOp .Or [a] pos) tA:=pw_or1 ha
def tK(ha:QT X K a tA)(hb:QW X K (.BoolOp .And (b :: rest) pos) tB):QW X K (.BoolOp .And (a :: b :: rest) pos) (Oy tA tB):=by
 refine PW.imp (pw_and ha hb) λσ H Qv h=>?_;refine ou (u:=tB) (f:=λc σ H1 Q=>if c=true then EZ K tB σ H1 Q else Q false H1) h λc H1 bI ρ ag Q sr q fin=>?_
 cases c with
 |true=>exact⟨bI,ρ,ag,Q,sr,q,fin⟩
 |false=>exact fin false H1 bI (fE.refl sr.wf) q
def Am(ha:QT X K a tA)(hb:QW X K (.BoolOp .Or (b :: rest) pos) tB):QW X K (.BoolOp .Or (a :: b :: rest) pos) (Oz tA tB):=by
 refine PW.imp (pw_or ha hb) λσ H Qv h=>?_;refine ou (u:=tB) (f:=λc σ H1 Q=>if c=true then Q true H1 else EZ K tB σ H1 Q) h λc H1 bI ρ ag Q sr q fin=>?_
 cases c with
 |true=>exact fin true H1 bI (fE.refl sr.wf) q
 |false=>exact⟨bI,ρ,ag,Q,sr,q,fin⟩
def LD(h:QW X K a tA):QT X K a tA:=h _
def tM(ha:QT X K a tA):QT X K (.UnaryOp .Not a pos) (OB tA):=by exact PT.imp (dI' ha) λσ H Qv h=>ou (u:=tA) (f:=λc σ H1 Q=>Q (!c) H1) h λc H1 bI ρ ag Q sr q fin=>fin _ H1 bI (fE.refl sr.wf) q
def Tr:D->Option Bool
 |.non=>some false
 |.bl b=>some b
 |.int i=>some (i != 0)
 |.str x=>some ((x.length:Int) != 0)
 |.list xs=>some !xs.isEmpty
 |.tup xs=>some !xs.isEmpty
 |.dK kvs=>none
 |.dT kvs=>none
def Ts(t:WE):WT:=λρ Q=>t ρ λ_ x=>∃ b,Tr x=some b/\Q b
end
def n9:W2:=λm x n y Q=>match x,y with
 |.int i,.int j=>Q .sh (.int (i+j))
 |.str i,.str j=>i.length+j.length<=bq/\Q .sh (.str (i++j))
 |.list xs,.list ys=>xs.length+ys.length<=bq/\((eP xs=true/\eP ys=true/\Q (.ow true) (.list (xs++ys)))\/(m=.sh/\n=.sh/\Q (.ow false) (.list (xs++ys))))
 |.tup xs,.tup ys=>xs≠[]/\xs.length+ys.length<=bq/\eP xs=true/\eP ys=true/\Q .sh (.tup (xs++ys))
 |_,_=>False
def Qo(P:Int->Int->(Md->D->Prop)->Prop):W2:=λ_ x _ y Q=>match x,y with
 |.int i,.int j=>P i j Q
 |_,_=>False
def LG(P:Int->Int->(Md->D->Prop)->Prop)(S:Str->Str->(Md->D->Prop)->Prop):W2:=λ_ x _ y Q=>match x,y with
 |.int i,.int j=>P i j Q
 |.str i,.str j=>S i j Q
 |_,_=>False
def Tt:W2:=Qo λi j Q=>N9 i j/\Q .sh (.int (i*j))
def tN:W2:=Qo λi j Q=>(0<j/\j<1073741824)/\Q .sh (.int (i / j))
def oP:W2:=Qo λi j Q=>0<j/\Q .sh (.int (i % j))
def Tv:W2:=LG (λi j Q=>Q .sh (.bl (decide (i<j)))) λi j Q=>Q .sh (.bl (tq i j))
def Qp:W2:=LG (λi j Q=>Q .sh (.bl (decide (i<=j)))) λi j Q=>Q .sh (.bl (!tq j i))
def Qq:W2:=Qo λi j Q=>Q .sh (.bl (decide (j<i)))
def AI:W2:=λ_ x _ y Q=>match x,y with
 |.int i,.int j=>Q .sh (.bl (decide (i=j)))
 |.str i,.str j=>Q .sh (.bl (decide (i=j)))
 |.bl i,.bl j=>Q .sh (.bl (decide (i=j)))
 |_,_=>dS 12 x=true/\dS 12 y=true/\Q .sh (.bl (ja x y))
def rV:W2:=λ_ x _ y Q=>match x,y with
 |.int i,.int j=>Q .sh (.bl (!decide (i=j)))
 |.str i,.str j=>Q .sh (.bl (!decide (i=j)))
 |.bl i,.bl j=>Q .sh (.bl (!decide (i=j)))
 |_,_=>dS 12 x=true/\dS 12 y=true/\Q .sh (.bl (!ja x y))
def D.GV:D->Bool
 |.non=>true
 |_=>false
def zQ:W2:=λ_ x _ y Q=>match y with
 |.non=>Q .sh (.bl (!x.GV))
 |_=>False
def gm:D->Bool
 |.non=>true
 |.bl _=>true
 |.int _=>true
 |.str _=>true
 |_=>false
def inD(x:D)(ys:List D):Bool:=ys.any λy=>ja y x
def E3(neg:Bool):W2:=λ_ x _ y Q=>match y with
 |.str j=>match x with
  |.str i=>Q .sh (.bl (if neg then !DE i j else DE i j))
  |_=>False
 |.list ys=>gm x=true/\ys.all gm=true/\Q .sh (.bl (if neg then !inD x ys else inD x ys))
 |.tup ys=>gm x=true/\ys.all gm=true/\Q .sh (.bl (if neg then !inD x ys else inD x ys))
 |.dK kvs=>∃ k,x.key1=some k/\Q .sh (.bl (if neg then !(dE kvs k).isSome else (dE kvs k).isSome))
 |.dT kvs=>match x with
  |.tup xs=>∃ ks,dW xs=some ks/\Q .sh (.bl (if neg then !(dE kvs ks).isSome else (dE kvs ks).isSome))
  |_=>False
 |_=>False
section
variable {K:aC}
def DW(f:Fin K Hs H Qd Qv)(w:Wf Hs H)(h:x.length<=bq)(q:Qd .sh (.str x)):Qv (.str x) H:=f.sh w (.str h) q
def bR(i j:Str):(i++j).length=i.length+j.length:=by show(i.cps++j.cps).size=_;simp[Str.length]
def Gs:mI K (λx y H Q=>Ag K x y H Q\/Vs K x y H Q) n9:=by
 walk_at"a";have r1:=rx.rep w;have r2:=ry.rep w
 cases r1 with
 |int i=>cases r2 with
  |int j=>exact .inl (f.sh w (.int _) h)
  |_=>exact h.elim
 |str hi=>cases r2 with
  |str hj=>exact .inl ⟨h.1,DW f w (by rw[bR];exact h.1) h.2⟩
  |_=>exact h.elim
 |list z1 s1 q1=>cases r2 with
  |list z2 s2 q2 =>
   have l1:=q1.length;have l2:=q2.length;have hz:=h.1;rcases h.2 with⟨f1,f2,q⟩|⟨rfl,rfl,q⟩
   ·exact .inl ⟨_,_,s1,s2,by lia,f.lst w (by rw[kz];exact hz) (q1.append q2) (by rw[d7,f1,f2];rfl) q⟩
   ·obtain⟨_,rx⟩:=rx;obtain⟨_,ry⟩:=ry
    cases rx with
    |list z1' s1' OD=>cases ry with
     |list z2' s2' q2' =>have l1:=OD.length;have l2:=q2'.length;exact .inl ⟨_,_,bS.seq w.sub s1',bS.seq w.sub s2',by lia,f.Qm w (by rw[kz];exact hz) (OD.append q2') q⟩
  |_=>exact h.elim
 |tup t1 s1 q1=>cases r2 with
  |tup t2 s2 q2 =>
   have l1:=q1.length;have l2:=q2.length;obtain⟨gL,hz,f1,f2,q⟩:=h;refine .inr ⟨_,_,_,_,rfl,rfl,.inl (.inl s1),.inl (.inl s2),?_,by lia,?_⟩
   ·intro e;subst e;exact gL (Rr.mp l1)
   ·refine⟨λe=>?_,λ_=>f.tup w (by rw[kz];exact hz) (q1.append q2) (by rw[d7,f1,f2];rfl) q⟩;subst e;cases q2;rw[sP] at q;exact f.flat w (.tup t1 s1 q1) (by simpa[D.flat] using f1) q
  |_=>exact h.elim
 |_=>exact h.elim
def Cz{H:Hp}{x y:D}{v u:V}{m n:Md}{P:Int->Int->(Md->D->Prop)->Prop}{S:Str->Str->(Md->D->Prop)->Prop}{Q:Md->D->Prop}{G:Prop}(r1:Rep K H x v)(r2:Rep K H y u)(h:LG P S m x n y Q)(k:∀ i j,v=.int i->u=.int j->P i j Q->G)(ks:∀ i j,v=.str i->u=.str j->S i j Q->G):G:=by
 cases r1 with
 |int i=>cases r2 with
  |int j=>exact k i j rfl rfl h
  |_=>exact h.elim
 |str hi=>cases r2 with
  |str hj=>exact ks _ _ rfl rfl h
  |_=>exact h.elim
 |_=>exact h.elim
def m_{H:Hp}{x y:D}{v u:V}{m n:Md}{P:Int->Int->(Md->D->Prop)->Prop}{Q:Md->D->Prop}{G:Prop}(r1:Rep K H x v)(r2:Rep K H y u)(h:Qo P m x n y Q)(k:∀ i j,v=.int i->u=.int j->P i j Q->G):G:=by
 cases r1 with
 |int i=>cases r2 with
  |int j=>exact k i j rfl rfl h
  |_=>exact h.elim
 |_=>exact h.elim
def Hd:mI K Dz Tt:=by
 walk_at"a";exact m_ (rx.rep w) (ry.rep w) h λi j e1 e2 q=>by subst e1 e2;exact⟨q.1,f.sh w (.int _) q.2⟩
def IK:mI K Dk tN:=by
 walk_at"a";exact m_ (rx.rep w) (ry.rep w) h λi j e1 e2 q=>by subst e1 e2;exact⟨q.1,f.sh w (.int _) q.2⟩
def H_:mI K FQ oP:=by
 walk_at"a";exact m_ (rx.rep w) (ry.rep w) h λi j e1 e2 q=>by subst e1 e2;exact⟨q.1,f.sh w (.int _) q.2⟩
def Ey:mI K VQ Qq:=by
 walk_at"a";exact m_ (rx.rep w) (ry.rep w) h λi j e1 e2 q=>by subst e1 e2;exact f.sh w (.bl _) q
def Iw:mI K VN Tv:=by
 intro Hs H m x v As n y u Bs Qd Qv w rx ry h f;exact Cz (rx.rep w) (ry.rep w) h (λi j e1 e2 q=>by
  subst e1 e2;exact f.sh w (.bl _) q) λi j e1 e2 q=>by
  subst e1 e2;exact f.sh w (.bl _) q
def DX:mI K VP Qp:=by
 intro Hs H m x v As n y u Bs Qd Qv w rx ry h f;exact Cz (rx.rep w) (ry.rep w) h (λi j e1 e2 q=>by
  subst e1 e2;exact f.sh w (.bl _) q) λi j e1 e2 q=>by
  subst e1 e2;exact f.sh w (.bl _) q
def eq_data(w:Wf Hs H)(rx:Rep K H x v)(ry:Rep K H y u)(f:Fin K Hs H Qd Qv)(h:dS 12 x=true/\dS 12 y=true/\Qd .sh (.bl (ja x y))):VS K v u H Qv:=by obtain⟨h1,h2,q⟩:=h;have l1:=iG 12 x h1;have l2:=iG 12 y h2;exact⟨x.py,y.py,rx.l2 h1,ry.l2 h2,l1.1,l2.1,by lia,f.sh w (.bl _) q⟩
def ne_data(w:Wf Hs H)(rx:Rep K H x v)(ry:Rep K H y u)(f:Fin K Hs H Qd Qv)(h:dS 12 x=true/\dS 12 y=true/\Qd .sh (.bl (!ja x y))):VW K v u H Qv:=by obtain⟨h1,h2,q⟩:=h;have l1:=iG 12 x h1;have l2:=iG 12 y h2;exact⟨x.py,y.py,rx.l2 h1,ry.l2 h2,l1.1,l2.1,by lia,f.sh w (.bl _) q⟩
def pM:mI K (S6 K) AI:=by
 walk_at"a";have r1:=rx.rep w;have r2:=ry.rep w;have d:=λh=>eq_data w r1 r2 f h
 cases r1 with
 |int i=>cases r2 with
  |int j=>exact f.sh w (.bl _) h
  |_=>exact d h
 |str i=>cases r2 with
  |str j=>exact f.sh w (.bl _) h
  |_=>exact d h
 |bl i=>cases r2 with
  |bl j=>exact f.sh w (.bl _) h
  |_=>exact d h
 |_=>exact d h
def jL:mI K (S7 K) rV:=by
 walk_at"a";have r1:=rx.rep w;have r2:=ry.rep w;have d:=λh=>ne_data w r1 r2 f h
 cases r1 with
 |int i=>cases r2 with
  |int j=>exact f.sh w (.bl _) h
  |_=>exact d h
 |str i=>cases r2 with
  |str j=>exact f.sh w (.bl _) h
  |_=>exact d h
 |bl i=>cases r2 with
  |bl j=>exact f.sh w (.bl _) h
  |_=>exact d h
 |_=>exact d h
def Dy(r:Rep K H x v):decide (v=V.non)=x.GV:=by cases r<;>first|rfl|exact decide_eq_false (λz=>nomatch z)
def yK:mI K (λx y H Q=>y=.non/\Q (.bl (!decide (x=.non))) H) zQ:=by
 walk_at"a";have r1:=rx.rep w;have r2:=ry.rep w;have e:=Dy r1
 cases r2 with
 |non=>exact⟨rfl,by rw[e];exact f.sh w (.bl _) h⟩
 |_=>exact h.elim
def jP(r:Rep K H x v)(h:gm x=true):CY v=true:=by cases r<;>first|rfl|(simp[gm] at h)
def FJ(r:Rep K H x v)(s:Rep K H y u)(h:gm x=true)(g:gm y=true):EF v u=ja x y:=by cases r<;>simp[gm] at h<;>cases s<;>simp[gm] at g<;>rfl
def Hu(r:Rep K H x v)(h:gm x=true)(rs:b4 K H ys us)(g:ys.all gm=true):us.all CY=true/\Sy v us=inD x ys:=by
 induction ys generalizing us with
 |nil=>rw[rs.n0];exact⟨rfl,rfl⟩
 |cons y ys ih =>
  obtain⟨u,us,rfl,s,ss⟩:=rs.c;simp only[D6,mw] at g;obtain⟨e1,e2⟩:=ih ss g.2;refine⟨by simp only[D6,jP s g.1,e1,Bool.and_self],?_⟩;unfold Sy inD at *
  rw[D7,D7,e2,FJ s r g.1 h]
def qp{κ:Type}[DecidableEq κ]{H:Hp}{k:κ}{kvs:List (κ × D)}{vs:List V}(r:b4 K H (kvs.map (·.2)) vs):(iA ((kvs.map (·.1)).zip vs) k).isSome=(dE kvs k).isSome:=by
 have:=zip_get (k:=k) r;split at this
 ·rename_i e;obtain⟨v,e1,_⟩:=this;rw[e1,e];rfl
 ·rename_i e;rw[this,e];rfl
def wQ:mI K (KW K neg) (E3 neg):=by
 walk_at"a";have r1:=rx.rep w;have r2:=ry.rep w
 cases r2 with
 |str j=>cases r1 with
  |str i=>exact f.sh w (.bl _) h
  |_=>exact h.elim
 |list z s q =>
  obtain⟨h1,h2,h3⟩:=h;obtain⟨e1,e2⟩:=Hu r1 h1 q h2;have h4:=jP r1 h1;have g:PY K neg v (.ref _) H Qv:=⟨_,_,rfl,.inl s,h4,e1,by rw[e2];exact f.sh w (.bl _) h3⟩
  cases r1<;>exact .inr g
 |tup _ s q =>
  obtain⟨h1,h2,h3⟩:=h;obtain⟨e1,e2⟩:=Hu r1 h1 q h2;have h4:=jP r1 h1;have g:PY K neg v (.ref _) H Qv:=⟨_,_,rfl,.inr (.inl (.inl s)),h4,e1,by rw[e2];exact f.sh w (.bl _) h3⟩
  cases r1<;>exact .inr g
 |dK kk e q =>obtain⟨k,hk,h3⟩:=h;have ev:=r1.key hk;subst ev;have eg:=qp (k:=k) q;cases k<;>exact .inl ⟨_,k9.k' e,by rw[eg];exact f.sh w (.bl _) h3⟩
 |dT kk e q =>
  cases r1 with
  |tup t1 e1 q1 =>obtain⟨ks,hk,h3⟩:=h;obtain⟨b,eb,e2⟩:=Rep.kg (.tup t1 e1 q1) hk;cases eb;have eg:=qp (k:=ks) q;exact .inl ⟨_,k9.t' e e2,by rw[eg];exact f.sh w (.bl _) h3⟩
  |_=>exact h.elim
 |_=>exact h.elim
end
section
variable {X:Cx}{K:aC}{a b:Expr}{ta tb:WE}{pos:Pos}
def JH(hK:autoParam (X.K=K) bv):eS X (om .Add) (λx y H Q=>Ag K x y H Q\/Vs K x y H Q):=by subst hK;exact Eu.or fz'
def gB(ha:QE X K a ta)(hb:QE X K b tb)(hK:autoParam (X.K=K) bv):QE X K (.BinOp a .Add b pos) (bp n9 ta tb):=Ou (JH hK) Gs ha hb
def Jr(ha:QE X K a ta)(hb:QE X K b tb):QE X K (.BinOp a .Mult b pos) (bp Tt ta tb):=Ou DP Hd ha hb
def gR(ha:QE X K a ta)(hb:QE X K b tb):QE X K (.BinOp a .FloorDiv b pos) (bp tN ta tb):=Ou CT IK ha hb
def eQ(ha:QE X K a ta)(hb:QE X K b tb):QE X K (.BinOp a .Mod b pos) (bp oP ta tb):=Ou El H_ ha hb
def Qr:W1:=λ_ x Q=>match x with
 |.int i=>Q .sh (.int (-i))
 |_=>False
def Hj:LB K (rU λi=>.int (-i)) Qr:=by
 walk_at"e";have r1:=rx.rep w
 cases r1 with
 |int i=>exact⟨i,rfl,f.sh w (.int _) h⟩
 |_=>exact h.elim
def Gw(ha:QE X K a ta):QE X K (.UnaryOp .USub a pos) (gV Qr ta):=iA' eD' Hj ha
end
def dz:WA:=λ_ Q=>Q []
def ak(te:WE)(t:WA):WA:=λρ Q=>te ρ λm x=>t ρ λps=>Q ((m,x) :: ps)
def BI:Md × D->Bool
 | (.sh,_)=>true
 | (_,d)=>d.flat
def LH:Md × D->Bool
 | (.bo,d)=>d.flat
 |_=>true
def Qs:Md × D->Bool
 | (.ow true,_)=>true
 | (_,d)=>d.flat
def vV(ps:List (Md × D)):Md:=bif ps.all BI then .sh else bif ps.all LH then .ow (ps.all Qs) else .bo
def Dn(ps:List (Md × D)):Md:=bif ps.all LH then .ow (ps.all Qs) else .bo
def lh(t:WA):WE:=λρ Q=>t ρ λps=>ps.length<=bq/\Q (vV ps) (.tup (ps.map (·.2)))
def tP(t:WA):WE:=λρ Q=>t ρ λps=>ps.length<=bq/\Q (Dn ps) (.list (ps.map (·.2)))
section
variable {X:Cx}{K:aC}{e:Expr}{es:List Expr}{te:WE}{t:WA}{pos:Pos}{Hs H:Hp}
def aq:QA X K [] dz:=PA.imp x8 λσ H Qv hx=>kL hx λHs ρ ag Q sr h f=>f [] H Hs [] [] (fE.refl sr.wf) .nil cg.nil h
def cg.app(f1:cg bI H As)(o:∀ a∈As,H1 a≠none)(f2:cg aT H1 Bs)(s:bS H H1)(k:∀ a,bI a=none->H1 a≠none->aT a=none):cg aT H (As++Bs) :=
 ⟨hX.mpr ⟨f1.1,f2.1,λa ha b hb e=>by subst e;exact o a ha (f2.2 a hb).2⟩,λa h=>by
  rcases dP.mp h with h|h
  ·exact⟨k a (f1.2 a h).1 (o a h),(f1.2 a h).2⟩
  ·exact⟨(f2.2 a h).1,s.free (f2.2 a h).2⟩⟩
def aa(ha:QE X K e te)(hr:QA X K es t)(hs:autoParam (b6 (e :: es) X.env=(false,df e X.env) :: b6 es X.env) bv):QA X K (e :: es) (ak te t):=by exact PA.imp (u0 ha hr hs) λσ H Qv hx=>kL hx λHs ρ ag Q sr h f=>⟨Hs,ρ,ag,_,sr,h,λv H1 bI m x As g1 r1 f1 q1=>⟨bI,ρ,ag,_,sr.grow g1,q1,λvs H2 aT ps Bs g2 r2 f2 q2=>f (v :: vs) H2 aT _ _ (g1.trans g2) (.cons (r1.grow g2) r2) (f1.app (λa h=>(r1.own a h).ne) f2 g1.all λa h1 h2=>g2.mn h1 h2) q2⟩⟩
def BH.sh(w:Wf Hs H){ps:List (Md × D)}(r:BH K Hs H ps vs As):ps.all BI=true->b4 K Hs (ps.map (·.2)) vs:=by
 induction r with
 |nil=>exact λ_=>.nil
 |@cons m d v ps vs As Bs r rs ih =>
  intro h;simp only[D6,mw] at h;refine .cons ?_ (ih h.2)
  cases m with
  |sh=>exact r.2
  |_=>exact r.flat w h.1
def BH.ow(w:Wf Hs H){ps:List (Md × D)}(r:BH K Hs H ps vs As):ps.all LH=true->(fl=true->ps.all Qs=true)->∃ Bs,Bs.Sublist As/\(ps.all BI=false->Bs≠[])/\aA K Hs H fl (ps.map (·.2)) vs Bs:=by
 induction r with
 |nil=>exact λ_ _=>⟨[],Fn _,(λz=>Bool.noConfusion z),.nil⟩
 |@cons m d v ps vs A1 Cs r rs ih =>
  intro h hf;simp only[D6,mw] at h hf;obtain⟨Bs,sb,ne,q⟩:=ih h.2 λz=>(hf z).2;have sk:([]++Bs).Sublist (A1++Cs):=by simpa using sb.trans (ng _ _)
  have Ee:d.flat=true->BI (m,d)=true->∃ Bs,Bs.Sublist (A1++Cs)/\(((m,d) :: ps).all BI=false->Bs≠[])/\aA K Hs H fl (((m,d) :: ps).map (·.2)) (v :: vs) Bs:=λhd ho =>
   ⟨[]++Bs,sk,λz=>ne (by rw[D6,ho] at z;simpa using z),.cons (.sh (λ_=>hd) (r.flat w hd)) q⟩
  cases m with
  |sh=>exact⟨[]++Bs,sk,λz=>ne (by simpa[BI] using z),.cons (.sh (λz=>(hf z).1) r.2) q⟩
  |bo=>exact Ee h.1 h.1
  |ow b =>
   cases hd:d.flat with
   |true=>exact Ee hd hd
   |false =>
    refine⟨A1++Bs,sb.append_left _,λ_ z=>r.2 (O9.mp z).1,.cons ?_ q⟩
    cases fl with
    |false=>exact ck.Tn r.1
    |true =>
     have:=(hf rfl).1
     cases b with
     |true=>exact r.1
     |false=>simp[Qs,hd] at this
theorem nj:∀ {ps:List (Md × D)},eP (ps.map (·.2))=true->ps.all BI=true
 |[],_=>rfl
 | (m,d) :: ps,h=>by simp only[fS,eP,mw] at h;simp only[D6,mw];exact⟨by cases m<;>simp[BI,h.1],nj h.2⟩
def cQ{x1}(h:QA X K es t):QE X K (.Tuple es x1 pos) (lh t):=by
 refine PE.imp (ae' h) λσ H Qv hx=>kL hx λHs ρ ag Q sr h f=>?_;refine⟨Hs,ρ,ag,_,sr,h,λvs H1 bI ps As g1 r1 f1 q1=>?_⟩;obtain⟨hz,q⟩:=q1;have rl:=(r1.reps g1.wf)
 have hl:=rl.length;rw[b9] at hl;refine⟨by lia,λp hp=>?_⟩;have g2:=To (vs:=vs) g1.wf hp;have fin:=Fin.after f g1;unfold vV at q
 cases h1:ps.all BI with
 |true =>rw[h1] at q;exact fin _ _ _ .sh _ [] g2 ⟨rfl,.tup (by lia) hG ((r1.sh g1.wf h1).same g2.sh)⟩ cg.nil q
 |false =>
  rw[h1] at q
  cases h2:ps.all LH with
  |false =>rw[h2] at q;exact fin _ _ _ .bo _ [] g2 ⟨rfl,.tup (by lia) hG (rl.same g2.all)⟩ cg.nil q
  |true =>
   rw[h2] at q;obtain⟨Bs,sb,nz,ro⟩:=r1.ow g1.wf h2 λz=>z;have gL:eP (ps.map (·.2))=false:=by
    cases hf:eP (ps.map (·.2)) with
    |false=>rfl
    |true=>rw[nj hf] at h1;cases h1
   have own:=ro.own;exact f _ _ _ (.ow _) _ Bs (g1.trans g2) ⟨.tup (by lia) hG gL (ro.grow g2.sh g2.all),nz h1⟩ ⟨sb.nodup f1.1,λa ha=>⟨g2.mn (f1.2 a (sb.subset ha)).1 (own a ha).ne,(f1.2 a (sb.subset ha)).2⟩⟩ q
def fW(h:QA X K es t):QE X K (.List es pos) (tP t):=by
 refine PE.imp (eZ' h) λσ H Qv hx=>kL hx λHs ρ ag Q sr h f=>?_;refine⟨Hs,ρ,ag,_,sr,h,λvs H1 bI ps As g1 r1 f1 q1=>?_⟩;obtain⟨hz,q⟩:=q1;have rl:=(r1.reps g1.wf)
 have hl:=rl.length;rw[b9] at hl;refine⟨by lia,λp hp=>?_⟩;have g2:=Ot (o:=.lst vs) g1.wf hp λ_ z=>nomatch z;have fin:=Fin.after f g1;unfold Dn at q
 cases h2:ps.all LH with
 |false =>rw[h2] at q;exact fin _ _ _ .bo _ [] g2 ⟨rfl,.list (by lia) (.inl (.inl hG)) (rl.same g2.all)⟩ cg.nil q
 |true =>
  rw[h2] at q;obtain⟨Bs,sb,nz,ro⟩:=r1.ow g1.wf h2 λz=>z;have own:=ro.own;refine f _ _ _ (.ow _) _ (p :: Bs) (g1.trans g2) ⟨.list (by lia) hG (ro.grow g2.sh g2.all),by simp⟩ ⟨kA.mpr ⟨λm=>(own p m).ne hp,sb.nodup f1.1⟩,λa ha=>?_⟩ q;rcases eK.mp ha with rfl|ha
  ·exact⟨g1.wf.sub.free hp,g1.all.free hp⟩
  ·exact⟨g2.mn (f1.2 a (sb.subset ha)).1 (own a ha).ne,(f1.2 a (sb.subset ha)).2⟩
end
def b4.gy{K:aC}(r:b4 K H ds vs)(h:gy ds i=some d):∃ v,L2.gy vs i=some v/\Rep K H d v:=by
 unfold L2.gy at *
 rw[<- r.length]
 cases e:oC ds.length i with
 |none=>rw[e] at h;cases h
 |some j =>rw[e] at h;exact r.get h
def eC:W2:=λm x _ y Q=>match x with
 |.list xs=>match y with
  |.int i=>∃ d,gy xs i=some d/\cE d (f:=λd=>Q (tJ m d) d) ⟨⟩
  |_=>False
 |.tup xs=>match y with
  |.int i=>∃ d,gy xs i=some d/\cE d (f:=λd=>Q (tJ m d) d) ⟨⟩
  |_=>False
 |.str z=>match y with
  |.int i=>∃ c,gy z.cps.toList i=some c/\Q .sh (.str ⟨#[c]⟩)
  |_=>False
 |.dK kvs=>∃ k d,y.key1=some k/\dE kvs k=some d/\cE d (f:=λd=>Q (tJ m d) d) ⟨⟩
 |.dT kvs=>match y with
  |.tup ys=>∃ ks d,dW ys=some ks/\dE kvs ks=some d/\cE d (f:=λd=>Q (tJ m d) d) ⟨⟩
  |_=>False
 |_=>False
def Wj(K:aC):R2:=λx y H Q=>S4 K x y H Q\/∃ a v,x=.ref a/\k9 H a y (some v)/\Q v H
def ye(c:Nat):(⟨#[c]⟩:Str).length<=bq:=by show 1<=bq;decide
def RM.here{K:aC}(w:Wf Hs H)(r:RM K Hs H m d v As):(m=.sh/\Rep K Hs d v)\/(m≠.sh/\Rep K H d v):=by
 cases m with
 |sh=>exact .inl ⟨rfl,r.2⟩
 |_=>exact .inr ⟨(λz=>nomatch z),r.rep w⟩
section
variable {X:Cx}{K:aC}
def JC:mI K (Wj K) eC:=by
 walk_at"a";have r2:=ry.rep w;have core:∀ G:Hp,bS G H->(∀ d v,Rep K G d v->Rep K H d v/\(m=.sh->Rep K Hs d v))->Rep K G x v->Wj K v u H Qv:=by
  intro G sg up r1
  cases r1 with
  |list z s q =>
   cases r2 with
   |int i =>obtain⟨d,e,h⟩:=h;obtain⟨v',e',r'⟩:=q.gy e;obtain⟨u1,u2⟩:=up _ _ r';exact .inl (.inl ⟨_,v',bS.seq sg s,e',f.tJ w u1 u2 h⟩)
   |_=>exact h.elim
  |tup _ s q =>
   cases r2 with
   |int i =>obtain⟨d,e,h⟩:=h;obtain⟨v',e',r'⟩:=q.gy e;obtain⟨u1,u2⟩:=up _ _ r';exact .inl (.inr ⟨_,v',.inl (.inl (sg _ _ s)),e',f.tJ w u1 u2 h⟩)
   |_=>exact h.elim
  |str hz =>
   cases r2 with
   |int i =>obtain⟨c,e,h⟩:=h;exact .inl ⟨hz,c,e,f.sh w (.str (ye c)) h⟩
   |_=>exact h.elim
  |dK kk s q =>obtain⟨k,d,hk,hg,h⟩:=h;have ev:=r2.key hk;subst ev;have z:=zip_get (k:=k) q;rw[hg] at z;obtain⟨v',e',r'⟩:=z;obtain⟨u1,u2⟩:=up _ _ r';exact .inr ⟨_,v',rfl,by rw[<- e'];exact k9.k' (bS.rd sg s),f.tJ w u1 u2 h⟩
  |dT kk s q =>
   cases r2 with
   |tup t2 e2 q2 =>obtain⟨ks,d,hk,hg,h⟩:=h;obtain⟨b,eb,e3⟩:=Rep.kg (.tup t2 e2 q2) hk;cases eb;have z:=zip_get (k:=ks) q;rw[hg] at z;obtain⟨v',e',r'⟩:=z;obtain⟨u1,u2⟩:=up _ _ r';exact .inr ⟨_,v',rfl,by rw[<- e'];exact k9.t' (bS.rd sg s) e3,f.tJ w u1 u2 h⟩
   |_=>exact h.elim
  |_=>exact h.elim
 rcases rx.here w with⟨hm,r⟩|⟨hm,r⟩
 ·exact core Hs w.sub (λd v q=>And.intro (q.same w.sub) λ_=>q) r
 ·exact core H (bS.refl H) (λd v q=>And.intro q λz=>absurd z hm) r
def bN'(hu:X.A.units+64<eR)(hK:autoParam (X.K=K) bv):ya X (Wj K):=by subst hK;refine ya.or BK ?_;intro value slice pins s σ H x y v u Q I rx ry h hs;obtain⟨a,w,rfl,g,q⟩:=h;cases rx;exact tail_any (gj' I g) F.slot_dict_getitem.lookup (gd' (by lia) I g ry λw' s3 I3 k5=>⟨w,H,I3,k5,q⟩) hs
variable {a b:Expr}{ta tb:WE}{pos:Pos}
def eT(ha:QE X K a ta)(hb:QE X K b tb)(hs:Sw b:=by exact λ_ _=>rfl)(hK:autoParam (X.K=K) bv)(hu:X.A.units+64<eR:=by assumption):QE X K (.Subscript a b pos) (bp eC ta tb):=PE.imp (Vw (bN' hu hK) ha hb hs) (oK JC)
end
def tS{α:Type}(xs:List α)(lo hi:Option Int):List α:=(xs.drop (HT.cK xs.length 0 lo)).take (HT.cK xs.length xs.length hi-HT.cK xs.length 0 lo)
abbrev WO:=Env->(Option Int->Prop)->Prop
def mC:WO:=λ_ Q=>Q none
def rO(t:WE):WO:=λρ Q=>t ρ λ_ x=>match x with
 |.int i=>Q (some i)
 |_=>False
def Tw(m:Md)(x:D)(lo hi:Option Int)(Q:Md->D->Prop):Prop:=match x with
 |.str z=>Q .sh (.str (vx z lo hi))
 |.list xs=>(eP xs=true/\Q (.ow true) (.list (tS xs lo hi)))\/(m=.sh/\Q (.ow false) (.list (tS xs lo hi)))
 |.tup xs=>eP xs=true/\¬ (HT.cK xs.length 0 lo=0/\HT.cK xs.length xs.length hi=xs.length)/\Q .sh (.tup (tS xs lo hi))
 |_=>False
def Qt(te:WE)(tl th:WO):WE:=λρ Q=>te ρ λm x=>tl ρ λlo=>th ρ λhi=>Tw m x lo hi Q
def tpO(K:aC)(t:WO):TO:=λσ H Qv=>∃ Hs ρ ag Q,fm K Hs ρ σ H ag/\t ρ Q/\∀ o H' ay,fE Hs H ay H'->Q o->Qv o H'
abbrev QO(X:Cx)(K:aC)(e:Option Expr)(t:WO):Prop:=PO X e (tpO K t)
def uI(z:Str)(lo hi:Option Int):(vx z lo hi).length<=z.length:=by unfold vx Str.length;simp only[iO,oq,IG,A5];lia
def mY{α:Type}(xs:List α)(lo hi:Option Int):(tS xs lo hi).length<=xs.length:=by unfold tS;rw[oq,IG];lia
def pF{lo hi:Option Int}(h:eP xs=true):eP (tS xs lo hi)=true:=by
 rw[j7] at *
 intro x hx;exact h x (UE (Rv hx))
section
variable {X:Cx}{K:aC}{e:Expr}{lo hi:Option Expr}{te:WE}{tl th:WO}{pos p2:Pos}
def wN:QO X K none mC:=λpins s σ H Q I h=>fu' pins s σ H Q I (by
 obtain⟨Hs,ρ,ag,Qd,sr,h,f⟩:=h;exact f none H Hs (fE.refl sr.wf) h)
def nF(h:QE X K e te):QO X K (some e) (rO te):=λpins s σ H Q I hh=>fv' h pins s σ H Q I (by
 obtain⟨Hs,ρ,ag,Qd,sr,h,f⟩:=hh;walk_at"g";have r:=r1.rep g1.wf
 cases r with
 |int i=>exact⟨i,rfl,f _ H1 bI g1 q1⟩
 |_=>exact q1.elim)
def j8{lo hi:Option Int}(r:b4 K H ds vs):b4 K H (tS ds lo hi) (Kj vs lo hi):=by unfold tS Kj;rw[r.length];exact(r.drop _).take _
def iE'(hK:autoParam (X.K=K) bv):Ob X (λx lo hi H Q=>VR K x lo hi H Q\/ap' K x lo hi H Q):=by
 subst hK;intro pins s σ H x v vl vu lo hi sl Q I rx hs pl pu h;rcases h with h|h
 ·exact GJ pins s σ H x v vl vu lo hi sl Q I rx hs pl pu h
 ·exact fy' pins s σ H x v vl vu lo hi sl Q I rx hs pl pu h
def qY(he:QE X K e te)(hl:QO X K lo tl)(hh:QO X K hi th)(hK:autoParam (X.K=K) bv):QE X K (.Subscript e (.Slice lo hi none p2) pos) (Qt te tl th):=by
 refine PE.imp (fx' (iE' hK) he hl hh) λσ H Qv hx=>kL hx λHs ρ ag Q sr h f=>?_;refine⟨Hs,ρ,ag,_,sr,h,λv H1 bI m x As g1 r1 f1 q1=>⟨bI,ρ,ag,_,sr.grow g1,q1,λl H2 aT g2 q2=>⟨aT,ρ,ag,_,(sr.grow g1).grow g2,q2,λu H3 fP g3 q3=>?_⟩⟩⟩;have r3:=(r1.grow g2).grow g3;have fin:Fin K fP H3 Q Qv:=Fin.after f ((g1.trans g2).trans g3);have rr:=r3.rep g3.wf
 cases rr with
 |str hz=>exact .inl ⟨hz,fin.sh g3.wf (.str (iS (uI _ _ _) hz)) q3⟩
 |list z s q =>
  have hz:=q.length;rcases q3 with⟨hf,q3⟩|⟨rfl,q3⟩
  ·exact .inl ⟨_,s,fin.lst g3.wf (iS (mY _ _ _) (by lia)) (j8 q) (pF hf) q3⟩
  ·obtain⟨_,r3⟩:=r3
   cases r3 with
   |list z' s' q' =>exact .inl ⟨_,bS.seq g3.wf.sub s',fin.Qm g3.wf (iS (mY _ _ _) (by lia)) (j8 q') q3⟩
 |tup z s q =>have hz:=q.length;obtain⟨hf,hn,q3⟩:=q3;exact .inr ⟨_,_,rfl,.inl (.inl s),by rw[<- hz];exact hn,fin.tup g3.wf (iS (mY _ _ _) (by lia)) (j8 q) (pF hf) q3⟩
 |_=>exact q3.elim
end
def yB:W1:=λ_ x Q=>match x with
 |.str z=>Q .sh (.int z.length)
 |.list xs=>Q .sh (.int xs.length)
 |.tup xs=>Q .sh (.int xs.length)
 |.dK kvs=>Q .sh (.int kvs.length)
 |.dT kvs=>Q .sh (.int kvs.length)
 |_=>False
def Wl(T:String):W1:=λ_ x Q=>Q .sh (.bl (Oe x.ty T))
def DI(K:aC)(r:List V->Hp->VK->Prop)(f:W1):Prop:=∀ Hs H m x v As Qd Qv,Wf Hs H->RM K Hs H m x v As->f m x Qd->Fin K Hs H Qd Qv->r [v] H Qv
section
variable {X:Cx}{K:aC}{e:Expr}{te:WE}{pos p:Pos}{x:Str}{id T:String}
def lV(br:DI K r f)(σ:St)(H:Hp)(Qv:VK)(h:mG K (gV f te) σ H Qv):Vq r (Vo (mG K te) Vn) σ H Qv:=by obtain⟨Hs,ρ,ag,Q,sr,h,fin⟩:=h;exact⟨Hs,ρ,ag,_,sr,h,λv H1 bI m x As g1 r1 f1 q1=>br bI H1 m x v As Q Qv g1.wf r1 q1 (Fin.after fin g1)⟩
def bD(hc:lT X (.builtin id) r)(br:DI K r f)(hm:X.mg x=none)(hv:ll x=some (.builtin id))(he:QE X K e te)(hs:autoParam (b6 [e] X.env=(false,df e X.env) :: b6 [] X.env) bv) (hn:x ≠ "__name__" := by decide) (tj:(x == ("__debug__" : Str))=false:=by decide) (hg:autoParam (Gl X x) bv):QE X K (.Call (.Name x p) [e] [] pos) (gV f te) :=
 PE.imp (al' hc hg hm hv (u0 he x8 hs) hn tj hs) (lV br)
def gJ(hc:lT X (.type T) r)(br:DI K r f)(hm:X.mg x=none)(hv:ll x=some (.type T))(he:QE X K e te)(hs:autoParam (b6 [e] X.env=(false,df e X.env) :: b6 [] X.env) bv) (hn:x ≠ "__name__" := by decide) (tj:(x == ("__debug__" : Str))=false:=by decide) (hg:autoParam (Gl X x) bv):QE X K (.Call (.Name x p) [e] [] pos) (gV f te) :=
 PE.imp (fj' hc hg hm hv (u0 he x8 hs) hn tj hs) (lV br)
def Ds(hd:(d == qA)=false)(x:w_ s.heap d es ep)(Tx:(es.size:Int)<2 ^ 63)(h:∀ t t',Q (.int es.size t) { s with toks:=t' }):bP (aS prog w) A (call (.builtin "len") [.ref d]) Q E s:=by
 refine Calls.call_function_entry kind_len plain_len entry_len (args_len1 _) ?_;have mt:MeetsIn prog w (Builtin.«dict.__len__» ⟨[.ref d],[]⟩) (λ_ R s=>w_ s.heap d es ep/\R (.ok (.ret (.int es.size s.toks))) { s with toks:=s.toks+1 }):=.of_wp λA R s eM=>by obtain⟨hm,h⟩:=eM;obtain⟨o,ho,hc,Tb⟩:=hm;show bP _ _ (dictSize d >>= _) _ _ s;refine aw (aw (O8 ho Tb (bG ?_)));refine aw (wpAny_pendingCount_other hd ?_);refine wpAny_ret_mkInt ?_;rw[Pm];exact h
 refine aw (bG ?_);refine aw (O7 x.typ F.slot_dict_len (call_meetsIn F.slot_dict_len x.typ F.entry_dict_len (F.args_dict_len_1 _) mt ⟨x,?_⟩))
 refine aw (sM (bG ?_));refine aw (wpAny_letGo ?_);rw[if_neg (by lia)];rw[if_neg (by lia)];exact aw (wpAny_mkInt (bG ⟨_,rfl,h _ _⟩))
def bz (hK:autoParam (X.K=K) bv):lT X (.builtin "len") (λxs H Q=>S0 K xs H Q\/∃ a kvs,xs=[.ref a]/\Rd H a (.dT kvs)/\Q (.int kvs.length) H):=by
 subst hK;walk_at"n";rcases h with h|⟨a,kvs,rfl,ha,q⟩
 ·exact yW pins s σ H xs us Q I r h
 ·obtain⟨u,rfl,ru⟩:=Vals.one r;cases ru;obtain⟨z,hd,ys,rel,o,es,ep,h1,h2,h3,h4,h5⟩:=(I.rd ha)
  have hl:es.size=kvs.length:=by have:=congrArg List.length h4;rw[A5,b9] at this;rw[this];exact rel.length.symm
  exact Ds hd ⟨o,h1,h2,h3⟩ (by rw[iL] at z;lia) λt t'=>⟨.int kvs.length,H,I.tok _,⟨t,by rw[hl]⟩,q⟩
def gG:DI K (λxs H Q=>S0 K xs H Q\/∃ a kvs,xs=[.ref a]/\Rd H a (.dT kvs)/\Q (.int kvs.length) H) yB:=by
 walk_at"e";have r1:=rx.rep w
 cases r1 with
 |str hz=>exact .inl ⟨hz,f.sh w (.int _) h⟩
 |list z s q=>exact .inl (.inl ⟨_,s,by rw[<- q.length];exact f.sh w (.int _) h⟩)
 |tup _ s q=>exact .inl (.inr (.inl ⟨_,.inl (.inl s),by rw[<- q.length];exact f.sh w (.int _) h⟩))
 |dK kk s q=>exact .inl (.inr (.inr ⟨_,s,by
   have:=q.length;rw[b9] at this;rw[Nn,b9,<- this,NF];exact f.sh w (.int _) h⟩))
 |dT kk s q=>exact .inr ⟨_,_,rfl,s,by
   have:=q.length;rw[b9] at this;rw[Nn,b9,<- this,NF];exact f.sh w (.int _) h⟩
 |_=>exact h.elim
end
section
variable {X:Cx}{K:aC}{e e2:Expr}{te:WE}{pos p:Pos}{T:String}
def wu (hK:autoParam (X.K=K) bv):lT X (.builtin "isinstance") (λxs H Q=>∃ x d T,xs=[x,.ty T]/\Rep K H d x/\VM T=true/\Q (.bl (Oe d.ty T)) H):=by
 subst hK;walk_at"n";obtain⟨x,d,T,rfl,rd,hT,q⟩:=h;obtain⟨u,v,rfl,ru,rv⟩:=Vals.two r;obtain rfl:v=Value.type T:=rv;have hb:T∈["str", "int", "bool", "list", "tuple", "dict"]:=by simpa[VM] using hT
 have fin:∀ tk,EP X pins σ Q (.bool (Oe d.ty T)) { s with toks:=tk }:=λtk=>⟨.bl (Oe d.ty T),H,I.tok tk,rfl,q⟩
 cases rd with
 |non=>exact PH I ru .non (iJ X.K _ T (by simp) hb) fin
 |bl b=>exact PH I ru (.bl b) (iJ X.K _ T (by simp) hb) fin
 |int i=>exact PH I ru (.int i) (iJ X.K _ T (by simp) hb) fin
 |str y=>exact PH I ru (.str _) (iJ X.K _ T (by simp) hb) fin
 |list z s' q' =>cases ru;obtain⟨its,_,pl,_⟩:=I.list s';obtain⟨o,h1,h2,_⟩:=pl.isList;exact wd Ut I.mz ⟨o,h1,h2⟩ (iJ X.K "list" T (by simp) hb) (λz=>nomatch z) fin
 |tup _ s' q'=>exact PH I ru (.tup s') (iJ X.K _ T (by simp) hb) fin
 |dK _ s' q' =>cases ru;obtain⟨_,_,vs,_,p⟩:=I.rd s';obtain⟨o,es,ep,h1,h2,_⟩:=p;exact wd Rp I.mz ⟨o,h1,h2.1⟩ (iJ X.K "dict" T (by simp) hb) (λz=>nomatch z) fin
 |dT _ s' q' =>cases ru;obtain⟨_,_,xs,_,o,es,ep,h1,h2,_⟩:=I.rd s';exact wd Rp I.mz ⟨o,h1,h2.1⟩ (iJ X.K "dict" T (by simp) hb) (λz=>nomatch z) fin
def Jy (hm:X.mg "isinstance" = none) (he:QE X K e te) (ht:PE X e2 (tC (.ty T))) (hT:autoParam (VM T=true) bv) (hg:Gl X "isinstance" := by rfl) (hK:autoParam (X.K=K) bv) (hs:autoParam (b6 (e :: [e2]) X.env=(false,df e X.env) :: b6 [e2] X.env) bv) (kc:autoParam (b6 (e2 :: []) X.env=(false,df e2 X.env) :: b6 [] X.env) bv) (kX:autoParam ((kQ pos (b6 [e2] X.env)).any (·.1)=false) bv) :
  QE X K (.Call (.Name "isinstance" p) [e,e2] [] pos) (gV (Wl T) te):=by
 refine PE.imp (al' (wu hK) hg hm mR (u0 he (u0 ht x8 kc) hs) (by decide) (by decide) hs kX) λσ H Qv hx=>kL hx λHs ρ ag Q sr h f=>?_;refine⟨Hs,ρ,ag,_,sr,h,λv H1 bI m x As g1 r1 f1 q1=>⟨v,x,T,rfl,r1.rep g1.wf,hT,Fin.sh (Fin.after f g1) g1.wf (.bl _) q1⟩⟩
def Fg(r:Rep K H d v)(h:Tr d=some b):Vi K v H b:=by
 cases r with
 |non=>cases h;rfl
 |bl b=>cases h;rfl
 |int i=>cases h;rfl
 |str hz =>cases h;exact⟨hz,rfl⟩
 |list z s q =>cases h;refine .inl ⟨_,s,?_⟩;cases q<;>rfl
 |tup _ s q =>cases h;refine .inr (.inl ⟨_,.inl (.inl s),?_⟩);cases q<;>rfl
 |dK _ s q=>cases h
 |dT _ s q=>cases h
def yt(ha:QE X K e te)(he:∀ whole,isTrue e X.env whole=(do let v <- whole;standAt e.pos;holding [v] (truthy v)):=by intro _;rfl)(hK:autoParam (X.K=K) bv):QT X K e (Ts te):=by subst hK;refine PT.imp (eT' ha he) λσ H Qv hx=>kL hx λHs ρ ag Q sr h f=>?_;refine⟨Hs,ρ,ag,_,sr,h,λv H1 bI m x As g1 r1 f1 q1=>?_⟩;obtain⟨b,hb,q⟩:=q1;exact⟨b,Fg (r1.rep g1.wf) hb,f b H1 bI g1 q⟩
end
def kM:Key->D
 |.inl i=>.int i
 |.inr x=>.str x
def pI:W1:=λm x Q=>match x with
 |.list xs=>(eP xs=true/\Q (.ow true) (.list xs))\/(m=.sh/\Q (.ow false) (.list xs))
 |.tup xs=>(eP xs=true/\Q (.ow true) (.list xs))\/(m=.sh/\Q (.ow false) (.list xs))
 |.dT kvs=>Q (.ow true) (.list (kvs.map λkv=>.tup (kv.1.map kM)))
 |_=>False
section
variable {X:Cx}{K:aC}
theorem gK:∀ {ks:List Key},(∀ k∈ks,BG k=true)->b4 K H (ks.map kM) (ks.map kV)
 |[],_=>.nil
 |k :: ks,h=>by
  refine .cons ?_ (gK λj m=>h j (c9 _ m));have:=h k cy
  cases k with
  |inl i=>exact .int i
  |inr x=>exact .str (by simpa[BG] using this)
theorem dY:∀ (ks:List Key),eP (ks.map kM)=true
 |[]=>rfl
 |k :: ks=>by simp only[fS,eP,dY ks,RX];cases k<;>rfl
def gF(t:bB H ys ks)(h:∀ l∈ks,l.length<=bq/\∀ k∈l,BG k=true):b4 K H (ks.map λl=>.tup (l.map kM)) ys:=by
 induction ys generalizing ks with
 |nil=>rw[show ks=[] from Paired.n0 t];exact .nil
 |cons y ys ih =>obtain⟨k,ks,rfl,⟨b,rfl,e⟩,t2⟩:=Paired.c t;exact .cons (.tup (by rw[b9];exact(h _ cy).1) e (gK (h _ cy).2)) (ih t2 λl m=>h l (c9 _ m))
theorem du:∀ (ks:List (List Key)),eP (ks.map λl=>.tup (l.map kM))=true
 |[]=>rfl
 |l :: ks=>by simp only[fS,eP,du ks,RX,D.flat,dY]
def dh (hc:autoParam (X.calm=true) bv) (hK:autoParam (X.K=K) bv):lT X (.type "list") (λxs H Q=>(∃ p ys,xs=[.ref p]/\(fw K H p ys\/kU K H p ys)/\∀ l,H l=none->Q (.ref l) (upd H l (.lst ys)))\/sW xs H Q):=by subst hK;exact fO'.or (vO hc)
def j9:DI K (λxs H Q=>(∃ p ys,xs=[.ref p]/\(fw K H p ys\/kU K H p ys)/\∀ l,H l=none->Q (.ref l) (upd H l (.lst ys)))\/sW xs H Q) pI:=by
 walk_at"e";have r1:=rx.rep w
 cases r1 with
 |list z s q =>
  have hl:=q.length;rcases h with⟨hf,h⟩|⟨rfl,h⟩
  ·exact .inl ⟨_,_,rfl,.inl s,f.lst w (by lia) q hf h⟩
  ·obtain⟨_,rx⟩:=rx
   cases rx with
   |list z' s' q' =>exact .inl ⟨_,_,rfl,.inl (bS.seq w.sub s'),f.Qm w (by lia) q' h⟩
 |tup z s q =>
  have hl:=q.length;rcases h with⟨hf,h⟩|⟨rfl,h⟩
  ·exact .inl ⟨_,_,rfl,.inr (.inl (.inl s)),f.lst w (by lia) q hf h⟩
  ·obtain⟨_,rx⟩:=rx
   cases rx with
   |tup z' s' q' =>exact .inl ⟨_,_,rfl,.inr (.inl (.inl (w.sub _ _ s'))),f.Qm w (by lia) q' h⟩
 |@dT _ vs kvs kk s q =>
  refine .inr ⟨_,s,λys l ht hl=>?_⟩;have hlen:=q.length;rw[b9] at hlen;have e:((kvs.map (·.1)).zip vs).map (·.1)=kvs.map (·.1):=RA (by rw[b9];exact RT hlen);rw[e] at ht;have rr:=gF (K:=K) ht (λl m=>by
   obtain⟨p,hp,rfl⟩:=bT.mp m;exact kk.2 p hp)
  have ff:=du (kvs.map (·.1));rw[fF] at rr ff;exact f.lst w (by rw[b9];exact kk.1) rr ff h l hl
 |_=>exact h.elim
end
section
variable {K:aC}{Hs H:Hp}
def SR.yr(r:Rep K Hs d v)(i:Nat)(s:SR K Hs H ρ σ ag):∃ cS,cS.Sublist ag/\SR K Hs H (ρ.set i (some (.sh d))) (σ.set i (some v)) cS:=by
 induction s generalizing i with
 |nil=>exact⟨[],Fn _,.nil⟩
 |non s ih =>
  cases i with
  |zero=>exact⟨_,List.Sublist.refl _,.sh r s⟩
  |succ i=>obtain⟨t,a,b⟩:=ih i;exact⟨t,a,.non b⟩
 |sh q s ih =>
  cases i with
  |zero=>exact⟨_,List.Sublist.refl _,.sh r s⟩
  |succ i=>obtain⟨t,a,b⟩:=ih i;exact⟨t,a,.sh q b⟩
 |xc s ih =>
  cases i with
  |zero=>exact⟨_,List.Sublist.refl _,.sh r s⟩
  |succ i=>obtain⟨t,a,b⟩:=ih i;exact⟨t,a,.xc b⟩
 |ow ne q s ih =>
  cases i with
  |zero=>exact⟨_,ng _ _,.sh r s⟩
  |succ i=>obtain⟨t,a,b⟩:=ih i;exact⟨_,a.append_left _,.ow ne q b⟩
 |lk ne q s ih =>
  cases i with
  |zero=>exact⟨_,ng _ _,.sh r s⟩
  |succ i=>obtain⟨t,a,b⟩:=ih i;exact⟨_,a.append_left _,.lk ne q b⟩
 |ob q s ih =>
  cases i with
  |zero=>exact⟨_,ng _ _,.sh r s⟩
  |succ i=>obtain⟨t,a,b⟩:=ih i;exact⟨_,a.append_left _,.ob q b⟩
def lR{As ag:List ah}(nd:As.Nodup)(n:ag.Nodup)(dj:∀ a∈As,a∉ag):(As++ag).Nodup:=hX.mpr ⟨nd,n,λa ha b hb e=>dj a ha (e ▸ hb)⟩
def cD{As ag B t:List ah}(n:(B++ag).Nodup)(dj:∀ a∈As,a∉B++ag)(a:t.Nodup)(b:∀ x∈t,x∈ag\/x∈As):(B++t).Nodup/\∀ x∈B++t,x∈B++ag\/x∈As:=by
 walk_at"d";refine⟨hX.mpr ⟨n1,a,λx hx y hy e=>?_⟩,λx hx=>?_⟩
 ·subst e;rcases b x hy with z|z
  ·exact n3 x hx x z rfl
  ·exact dj x z (i9 _ hx)
 ·rcases dP.mp hx with z|z
  ·exact .inl (i9 _ z)
  ·exact(b x z).imp (λz=>gu _ z) λz=>z
def SR.GZ{d:D}{v:V}{fl:Bool}{As:List ah}(ne:As≠[])(r:ck K Hs H fl d v As)(nd:As.Nodup){ρ:Env}{σ:St}{ag:List ah}(i:Nat)(s:SR K Hs H ρ σ ag):ag.Nodup->(∀ a∈As,a∉ag) ->
  ∃ cS,cS.Nodup/\(∀ a∈cS,a∈ag\/a∈As)/\SR K Hs H (ρ.set i (some (.ow fl d))) (σ.set i (some v)) cS:=by
 induction s generalizing i with
 |nil=>exact λn _=>⟨[],oy,(λa h=>xi h),.nil⟩
 |non s ih =>
  intro n dj
  cases i with
  |zero=>exact⟨_,lR nd n dj,λa h=>(dP.mp h).symm,.ow ne r s⟩
  |succ i=>obtain⟨t,a,b,c⟩:=ih i n dj;exact⟨t,a,b,.non c⟩
 |sh q s ih =>
  intro n dj
  cases i with
  |zero=>exact⟨_,lR nd n dj,λa h=>(dP.mp h).symm,.ow ne r s⟩
  |succ i=>obtain⟨t,a,b,c⟩:=ih i n dj;exact⟨t,a,b,.sh q c⟩
 |xc s ih =>
  intro n dj
  cases i with
  |zero=>exact⟨_,lR nd n dj,λa h=>(dP.mp h).symm,.ow ne r s⟩
  |succ i=>obtain⟨t,a,b,c⟩:=ih i n dj;exact⟨t,a,b,.xc c⟩
 |ow ne' q s ih =>
  intro n dj;walk_at"d";have GW:=λa ha m=>dj a ha (gu _ m)
  cases i with
  |zero=>exact⟨_,lR nd n2 GW,λa h=>(dP.mp h).symm.imp (λz=>gu _ z) λz=>z,.ow ne r s⟩
  |succ i=>obtain⟨t,a,b,c⟩:=ih i n2 GW;exact⟨_,(cD n dj a b).1,(cD n dj a b).2,.ow ne' q c⟩
 |lk ne' q s ih =>
  intro n dj;walk_at"d";have GW:=λa ha m=>dj a ha (gu _ m)
  cases i with
  |zero=>exact⟨_,lR nd n2 GW,λa h=>(dP.mp h).symm.imp (λz=>gu _ z) λz=>z,.ow ne r s⟩
  |succ i=>obtain⟨t,a,b,c⟩:=ih i n2 GW;exact⟨_,(cD n dj a b).1,(cD n dj a b).2,.lk ne' q c⟩
 |ob q s ih =>
  intro n dj;walk_at"d";have GW:=λa ha m=>dj a ha (gu _ m)
  cases i with
  |zero=>exact⟨_,lR nd n2 GW,λa h=>(dP.mp h).symm.imp (λz=>gu _ z) λz=>z,.ow ne r s⟩
  |succ i=>obtain⟨t,a,b,c⟩:=ih i n2 GW;exact⟨_,(cD n dj a b).1,(cD n dj a b).2,.ob q c⟩
def asg:Md->D->Option Sl
 |.sh,d=>some (.sh d)
 |.ow fl,d=>some (.ow fl d)
 |_,d=>bif d.flat then some (.sh d) else none
def fm.set(i:Nat)(s:fm K Hs ρ σ H ag)(r:RM K Hs H m d v As)(nd:As.Nodup)(dj:∀ a∈As,Hs a=none/\a∉ag)(e:asg m d=some sl) :
  ∃ cS,fm K Hs (ρ.set i (some sl)) (σ.set i (some v)) H cS:=by
 have shc:Rep K Hs d v->∃ cS,fm K Hs (ρ.set i (some (.sh d))) (σ.set i (some v)) H cS:=λr=>by obtain⟨t,a,b⟩:=s.sr.yr r i;exact⟨t,b,s.wf,a.nodup s.rS,λx hx=>s.own x (a.subset hx)⟩
 cases m with
 |sh=>cases e;exact shc r.2
 |ow fl =>cases e;obtain⟨t,a,b,c⟩:=SR.GZ r.2 r.1 nd i s.sr s.rS λa ha=>(dj a ha).2;exact⟨t,c,s.wf,a,λx hx=>(b x hx).elim (s.own x) λz=>(dj x z).1⟩
 |_ =>
  cases hf:d.flat with
  |true =>simp only[asg,hf,cond_true,Option.some.injEq] at e;subst e;exact shc (r.flat s.wf hf)
  |false=>simp[asg,hf] at e
end
section
variable {X:Cx}{K:aC}{e c:Expr}{te:WE}{tc:WT}{pos:Pos}{st:Stmt}{a b rest:List Stmt}{t u:WS}
def PS.imp{te yA:TS}(h:PS X st te)(i:∀ D σ H,yA D σ H->te D σ H):PS X st yA:=λpins s σ H D I q=>h pins s σ H D I (i D σ H q)
def nv.imp{te yA:TS}(h:nv X a te)(i:∀ D σ H,yA D σ H->te D σ H):nv X a yA:=λpins s σ H D I q=>h pins s σ H D I (i D σ H q)
def cI:WS:=λE ρ=>E.nx ρ
def dr(t u:WS):WS:=λE ρ=>t { E with nx:=u E } ρ
def nL(te:WE):WS:=λE ρ=>te ρ E.rt
def yD(te:WE):WS:=λE ρ=>te ρ λ_ _=>E.nx ρ
def fR(i:Nat)(te:WE):WS:=λE ρ=>te ρ λm d=>match asg m d with
 |some sl=>E.nx (ρ.set i (some sl))
 |none=>False
def mM(c:WT)(t u:WS):WS:=λE ρ=>c ρ λb=>if b=true then t E ρ else u E ρ
def lW:WS:=λ_ _=>False
def aL:AG X K L [] cI:=nv.imp dM' λD σ H hx=>cz hx λHs ρ ag E sr h k1 _ _ _=>k1 σ H Hs ρ ag (bS.refl _) sr h
def Bb{D:Ends}(h:DH K L (dr t u) D σ H):ZY (DH K L t) (DH K L u) D σ H:=by
 obtain⟨Hs,ρ,ag,E,sr,h,k1,k2,k3,k4,kx⟩:=h;refine⟨Hs,ρ,ag,{ E with nx:=u E },sr,h,λcv H' ay cc cS s Wm q=>?_,k2,k3,k4,kx⟩;exact⟨ay,cc,cS,E,Wm,q,λlS H2 aT i5 fo s2=>k1 lS H2 aT i5 fo (s.trans s2),λlS H2 aT i5 fo s2=>k2 lS H2 aT i5 fo (s.trans s2),λlS H2 aT i5 fo s2=>k3 lS H2 aT i5 fo (s.trans s2),
  λv H2 aT m d As s2=>k4 v H2 aT m d As (s.trans s2),λn H2 s2=>kx n H2 (s.trans s2)⟩
def aj(h1:QS X K L st t)(h2:AG X K L rest u):AG X K L (st :: rest) (dr t u):=nv.imp (ZZ h1 h2) λD σ H h=>Bb h
def ao(h1:QS X K L st t):AG X K L [st] t:=Z0 h1
def gh:AG X K L a lW:=nv.imp dS' λD σ H hx=>cz hx λHs ρ ag E sr h _ _ _ _=>h
def bL(he:QE X K e te):QS X K L (.Return (some e) pos) (nL te):=PS.imp (U_ he) λD σ H hx=>cz hx λHs ρ ag E sr h k1 k2 k3 k4 =>
 ⟨Hs,ρ,ag,_,sr,h,λv H1 bI m d As g1 r1 f1 q1=>k4 v H1 bI m d As g1.sh g1.wf r1 f1.1 (λa ha=>(f1.2 a ha).1) q1⟩
def pP(i:Nat):WS:=λE ρ=>match ρ[i]? with
 |some (some (.sh d))=>E.rt .sh d
 |some (some (.ow fl d))=>E.rt (.ow fl) d
 |_=>False
def SR.at{ρ:Env}{σ:St}{ag:List ah}{i:Nat}{fl:Bool}{d:D}{Hs H:Hp}(s:SR K Hs H ρ σ ag)(e:ρ[i]? = some (some (.ow fl d))):∃ v As,σ[i]? = some (some v)/\As≠[]/\ck K Hs H fl d v As/\As.Sublist ag:=by
 induction s generalizing i with
 |nil=>simp at e
 |non s ih =>
  cases i with
  |zero=>simp at e
  |succ i=>exact ih e
 |sh r s ih =>
  cases i with
  |zero=>simp at e
  |succ i=>exact ih e
 |xc s ih =>
  cases i with
  |zero=>simp at e
  |succ i=>exact ih e
 |ow ne r s ih =>
  cases i with
  |zero=>simp at e;obtain⟨rfl,rfl⟩:=e;exact⟨_,_,rfl,ne,r,MY _ _⟩
  |succ i =>obtain⟨v,As,a,b,c,d⟩:=ih e;exact⟨v,As,a,b,c,d.trans (ng _ _)⟩
 |lk ne r s ih =>
  cases i with
  |zero=>simp at e
  |succ i =>obtain⟨v,As,a,b,c,d⟩:=ih e;exact⟨v,As,a,b,c,d.trans (ng _ _)⟩
 |ob r s ih =>
  cases i with
  |zero=>simp at e
  |succ i =>obtain⟨v,As,a,b,c,d⟩:=ih e;exact⟨v,As,a,b,c,d.trans (ng _ _)⟩
def jy{i:Nat}(he:PE X e (ED i)):QS X K L (.Return (some e) pos) (pP i):=PS.imp (U_ he) λD σ H hx=>cz hx λHs ρ ag E sr h k1 k2 k3 k4=>by
 unfold pP at h;split at h
 ·rename_i d e1;obtain⟨v,e2,r⟩:=sr.sr.get e1;exact⟨v,e2,k4 v H Hs .sh d [] (bS.refl _) sr.wf ⟨rfl,r⟩ oy (λa ha=>nomatch ha) h⟩
 ·rename_i fl d e1;obtain⟨v,As,e2,ne,r,sb⟩:=sr.sr.at e1;exact⟨v,e2,k4 v H Hs (.ow fl) d As (bS.refl _) sr.wf ⟨r,ne⟩ (sb.nodup sr.rS) (λa ha=>sr.own a (sb.subset ha)) h⟩
 ·exact h.elim
def sS(he:QE X K e te)(hs:autoParam (sN e none pos.line X.env=pure false) bv):QS X K L (.Expr e pos) (yD te):=PS.imp (NV he hs) λD σ H hx=>cz hx λHs ρ ag E sr h k1 k2 k3 k4 =>
 ⟨Hs,ρ,ag,_,sr,h,λv H1 bI m d As g1 r1 f1 q1=>k1 σ H1 bI ρ ag g1.sh (sr.grow g1) q1⟩
def aG(i:Nat){x:Str}{pos':Pos}(he:QE X K e te)(hs:autoParam (sN e (some (.Name x pos')) pos.line X.env=pure false) bv) (hf:X.fn x=true\/X.env.scope.names.lookup x=some .local:=by first|exact .inl rfl|exact .inr rfl|assumption) (hN:X.N.Nodup:=by assumption) (hi:autoParam (X.N[i]? = some x) bv) (hx:Loc X.env.scope x:=by first|exact .inl rfl|exact .inr rfl):QS X K L (.Assign [.Name x pos'] e pos) (fR i te):=PS.imp (Vb hN hi hx he hs hf) λD σ H hx=>cz hx λHs ρ ag E sr h k1 k2 k3 k4=>by
 refine⟨Hs,ρ,ag,_,sr,h,λv H1 bI m d As g1 r1 f1 q1=>?_⟩
 cases e:asg m d with
 |none=>rw[e] at q1;exact q1.elim
 |some sl =>rw[e] at q1;obtain⟨cS,s'⟩:=(sr.grow g1).set i r1 f1.1 (λa ha=>⟨(f1.2 a ha).1,λm=>(sr.sr.own a m).ne (f1.2 a ha).2⟩) e;exact k1 _ H1 bI _ cS g1.sh s' q1
def cZ(hc:QT X K c tc)(ha:AG X K L a t)(hb:AG X K L b u):QS X K L (.If c a b pos) (mM tc t u):=PS.imp (dQ' hc ha hb) λD σ H hx=>mU hx λHs ρ ag E sr h k1 k2 k3 k4 kx=>by
 refine⟨Hs,ρ,ag,_,sr,h,λk H1 bI g1 q1=>?_⟩;have k1':∀ cv H' ay cc cS,bS bI ay->fm K ay cc cv H' cS->E.nx cc->D.nx cv H':=λlS H2 aT i5 fo s2=>k1 lS H2 aT i5 fo (g1.sh.trans s2);have k2':∀ cv H' ay cc cS,bS bI ay->fm K ay cc cv H' cS->E.bk cc->D.bk cv H':=λlS H2 aT i5 fo s2=>k2 lS H2 aT i5 fo (g1.sh.trans s2);have k3':∀ cv H' ay cc cS,bS bI ay->fm K ay cc cv H' cS->E.ct cc->D.ct cv H':=λlS H2 aT i5 fo s2=>k3 lS H2 aT i5 fo (g1.sh.trans s2)
 cases k with
 |true=>exact⟨bI,ρ,ag,E,sr.grow g1,q1,k1',k2',k3',(λv H2 aT m d As s2=>k4 v H2 aT m d As (g1.sh.trans s2)),λn H2 s2=>kx n H2 (g1.sh.trans s2)⟩
 |false=>exact⟨bI,ρ,ag,E,sr.grow g1,q1,k1',k2',k3',(λv H2 aT m d As s2=>k4 v H2 aT m d As (g1.sh.trans s2)),λn H2 s2=>kx n H2 (g1.sh.trans s2)⟩
def AJ(Hs H:Hp)(As:List ah):Hp:=λa=>if a∈As then H a else Hs a
def jm(n:∀ a∈As,Hs a=none):bS Hs (AJ Hs H As):=λa o e=>by unfold AJ;rw[if_neg λm=>by rw[n a m] at e;cases e];exact e
def Cw(w:Wf Hs H)(o:∀ a∈As,Own H a):Wf (AJ Hs H As) H:=⟨λa u e=>by
  unfold AJ at e;by_cases m:a∈As
  ·rw[if_pos m] at e;exact e
  ·rw[if_neg m] at e;exact w.sub a u e,λa vs e=>by
  unfold AJ;rw[if_neg λm=>(o a m).Bx e];exact w.k8 a vs e⟩
def DJ:Sl->Sl
 |.sh d=>.sh d
 |.ow _ d=>.sh d
 |.lk a fl d=>.lk a fl d
 |.xc a=>.xc a
 |.ob a p=>.ob a p
def Qu:Sl->Sl
 |.sh d=>.sh d
 |.ow _ d=>.sh d
 |.lk _ _ d=>.sh d
 |.xc a=>.xc a
 |.ob a _=>.xc a
def Qw(i:Nat)(ρ:Env):Env:=match ρ[i]? with
 |some (some sl)=>ρ.set i (some (DJ sl))
 |_=>ρ
def gW{As ag B t:List ah}(n:(B++ag).Nodup)(a:As.Sublist ag)(c:∀ x∈As,x∉t):∀ x∈As,x∉B++t:=λx hx m=>by
 walk_at"d";rcases dP.mp m with z|z
 ·exact n3 x z x (a.subset hx) rfl
 ·exact c x hx z
def SR.qf(i:Nat)(s:SR K Hs H ρ σ ag):ρ[i]? = some (some (.ow fl d))->ag.Nodup ->
  ∃ (As cS:List ah),As.Sublist ag/\cS.Sublist ag/\(∀ a∈As,a∉cS)/\∀ ay,bS Hs ay->(∀ a∈As,ay a=H a)->SR K ay H (ρ.set i (some (.sh d))) σ cS:=by
 induction s generalizing i with
 |nil=>intro e;simp at e
 |non q ih =>
  intro e n
  cases i with
  |zero=>simp at e
  |succ i =>obtain⟨As,t,a,b,c,d⟩:=ih i e n;exact⟨As,t,a,b,c,λay s k=>.non (d ay s k)⟩
 |sh r q ih =>
  intro e n
  cases i with
  |zero=>simp at e
  |succ i =>obtain⟨As,t,a,b,c,d⟩:=ih i e n;exact⟨As,t,a,b,c,λay s k=>.sh (r.same s) (d ay s k)⟩
 |xc q ih =>
  intro e n
  cases i with
  |zero=>simp at e
  |succ i =>obtain⟨As,t,a,b,c,d⟩:=ih i e n;exact⟨As,t,a,b,c,λay s k=>.xc (d ay s k)⟩
 |ow ne r q ih =>
  intro e n;walk_at"d"
  cases i with
  |zero =>obtain⟨rfl,rfl⟩:=e;exact⟨_,_,MY _ _,ng _ _,λa h m=>n3 a h a m rfl,λay s k=>.sh (r.rep s k) (q.ft s λ_ _=>rfl)⟩
  |succ i =>obtain⟨As,t,a,b,c,d⟩:=ih i e n2;exact⟨As,_,a.trans (ng _ _),b.append_left _,gW n a c,λay s k=>.ow ne (r.ft s λ_ _=>rfl) (d ay s k)⟩
 |lk ne r q ih =>
  intro e n;walk_at"d"
  cases i with
  |zero=>simp at e
  |succ i =>obtain⟨As,t,a,b,c,d⟩:=ih i e n2;exact⟨As,_,a.trans (ng _ _),b.append_left _,gW n a c,λay s k=>.lk ne (r.ft s λ_ _=>rfl) (d ay s k)⟩
 |@ob _ _ _ _ _ p r q ih =>
  intro e n;walk_at"d"
  cases i with
  |zero=>simp at e
  |succ i =>obtain⟨As,t,a,b,c,d⟩:=ih i e n2;exact⟨As,_,a.trans (ng _ _),b.append_left _,gW n a c,λay s k=>.ob (p.ft (sH s) (λ_ _=>rfl) r) (d ay s k)⟩
def fm.qf(i:Nat)(s:fm K Hs ρ σ H ag):∃ ay cS,bS Hs ay/\fm K ay (Qw i ρ) σ H cS:=by
 unfold Qw;split
 ·rename_i sl e;have keep:DJ sl=sl->∃ ay cS,bS Hs ay/\fm K ay (ρ.set i (some (DJ sl))) σ H cS:=λhs=>by
   have e2:ρ.set i (some (DJ sl))=ρ:=by
    apply D5;intro j;rw[List.getElem?_set];by_cases h:i=j
    ·subst h;rw[if_pos rfl,e];have:i<ρ.length:=(iN.mp e).1;simp[this,hs]
    ·rw[if_neg h]
   rw[e2];exact⟨Hs,ag,bS.refl _,s⟩
  cases sl with
  |sh d=>exact keep rfl
  |xc a=>exact keep rfl
  |lk a fl d=>exact keep rfl
  |ob a p=>exact keep rfl
  |ow fl d =>obtain⟨As,t,a,b,c,g⟩:=SR.qf i s.sr e s.rS;have hn:∀ a∈As,Hs a=none:=λx hx=>s.own x (a.subset hx);have ho:∀ a∈As,Own H a:=λx hx=>s.sr.own x (a.subset hx);refine⟨AJ Hs H As,t,jm hn,g _ (jm hn) λx hx=>by unfold AJ;rw[if_pos hx],Cw s.wf ho,b.nodup s.rS,λx hx=>?_⟩;unfold AJ;rw[if_neg λm=>c x m hx];exact s.own x (b.subset hx)
 ·exact⟨Hs,ag,bS.refl _,s⟩
def ki(i:Nat)(t:WS):WS:=λE ρ=>t E (Qw i ρ)
def zE{D:Ends}(h:DH K L (ki i t) D σ H):DH K L t D σ H:=by
 obtain⟨Hs,ρ,ag,E,sr,h,k1,k2,k3,k4,kx⟩:=h;obtain⟨ay,cS,s,Wm⟩:=sr.qf i;exact⟨ay,_,cS,E,Wm,h,λlS H2 aT i5 fo s2=>k1 lS H2 aT i5 fo (s.trans s2),λlS H2 aT i5 fo s2=>k2 lS H2 aT i5 fo (s.trans s2),λlS H2 aT i5 fo s2=>k3 lS H2 aT i5 fo (s.trans s2),
  λv H2 aT m d As s2=>k4 v H2 aT m d As (s.trans s2),λn H2 s2=>kx n H2 (s.trans s2)⟩
def aN(i:Nat)(h:QS X K L st t):QS X K L st (ki i t):=PS.imp h λD σ H h=>zE h
def jt(bI H1 ay H':Hp):Hp:=λa=>match H' a with
 |some (.tup vs)=>some (.tup vs)
 |_=>match H1 a with
  |none=>ay a
  |some _=>bI a
def gn(w:Wf bI H1)(s:bS H1 ay)(w':Wf ay H'):fE bI H1 (jt bI H1 ay H') H':=by
 have sa:bS H1 H':=s.trans w'.sub;have tp:∀ a vs,H' a=some (.tup vs)->jt bI H1 ay H' a=some (.tup vs):=λa vs e=>by unfold jt;rw[e]
 have nt:∀ a,(∀ vs,H' a≠some (.tup vs))->jt bI H1 ay H' a=match H1 a with
  |none=>ay a
  |some _=>bI a:=λa h=>by
  unfold jt;split
  ·rename_i vs e;exact absurd e (h vs)
  ·rfl
 refine⟨sa,λa o e=>?_,⟨λa o e=>?_,tp⟩,λa h=>?_⟩
 ·have e1:=w.sub a o e;have e2:=sa a o e1;by_cases ht:∃ vs,o=.tup vs
  ·obtain⟨vs,rfl⟩:=ht;exact tp a vs e2
  ·rw[nt a λvs z=>ht ⟨vs,by rw[e2] at z;exact Option.some.inj z⟩,e1];exact e
 ·by_cases ht:∃ vs,H' a=some (.tup vs)
  ·obtain⟨vs,z⟩:=ht;rw[tp a vs z] at e;rw[z];exact e
  ·rw[nt a λvs z=>ht ⟨vs,z⟩] at e
   cases q:H1 a with
   |none=>rw[q] at e;exact w'.sub a o e
   |some u =>rw[q] at e;have:=w.sub a o e;exact sa a o this
 ·cases q:H1 a with
  |none=>exact .inr rfl
  |some u =>
   refine .inl ?_;by_cases ht:∃ vs,H' a=some (.tup vs)
   ·obtain⟨vs,z⟩:=ht;have:=sa a u q;rw[z] at this;cases this;rw[w.k8 a vs q];exact λz=>nomatch z
   ·rw[nt a λvs z=>ht ⟨vs,z⟩,q] at h;exact h
def v7{bI H1 ay H':Hp}{a:ah}(s:bS H1 ay)(h:ay a=none)(o:Own H' a):jt bI H1 ay H' a=none/\H1 a=none:=by
 have h1:=s.free h;refine⟨?_,h1⟩;unfold jt;split
 ·rename_i vs e;exact absurd e o.Bx
 ·rw[h1];exact h
def GY:Md->D->Md
 |.ow true,_=>.ow true
 |_,d=>bif d.flat then .sh else .bo
def sU(w:Wf bI H1)(s:bS H1 ay)(w':Wf ay H')(r:RM K ay H' m d v As)(nd:As.Nodup)(own:∀ a∈As,ay a=none) :
  ∃ hV,RM K (jt bI H1 ay H') H' (GY m d) d v hV/\cg (jt bI H1 ay H') H1 hV:=by
 have g:=gn w s w';have other:∃ hV,RM K (jt bI H1 ay H') H' (bif d.flat then .sh else .bo) d v hV/\cg (jt bI H1 ay H') H1 hV:=by
  cases hf:d.flat with
  |true=>exact⟨[],⟨rfl,(r.rep w').eN g.wf.k8 hf⟩,cg.nil⟩
  |false=>exact⟨[],⟨rfl,r.rep w'⟩,cg.nil⟩
 cases m with
 |sh=>exact other
 |bo=>exact other
 |ow fl =>
  cases fl with
  |false=>exact other
  |true=>exact⟨As,⟨ck.leaves (λa vs e=>g.wf.k8 a vs (w'.sub _ _ e)) r.1,r.2⟩,nd,λa h=>v7 s (own a h) (r.own a h)⟩
abbrev jS:=List D->(Md->D->Prop)->Prop
def fG(K:aC)(sp:jS):Sp:=λvs H Qv _=>∃ ds Qd,b4 K H ds vs/\sp ds Qd /\
 ∀ v H' ay m d As,bS H ay->Wf ay H'->RM K ay H' m d v As->As.Nodup->(∀ a∈As,ay a=none)->Qd m d->Qv v H'
def aH(n:Nat)(ds:List D):Env:=ds.map (λd=>some (.sh d))++List.replicate (n-ds.length) none
def SR.start(r:b4 K H ds vs):SR K H H (ds.map (λd=>some (.sh d))++List.replicate n none) (vs.map some++List.replicate n none) []:=by
 induction ds generalizing vs with
 |nil =>
  rw[r.n0]
  induction n with
  |zero=>exact .nil
  |succ n ih=>exact .non ih
 |cons d ds ih =>obtain⟨u,us,rfl,r,rs⟩:=r.c;exact .sh r (ih rs)
def yo(h:fG K sp vs H Qv E)(hp:∀ ds Q,sp ds Q->t { nx:=λ_=>Q .sh .non,rt:=Q } (aH N.length ds)) :
  DH K L0 t { nx:=λ_ H'=>Qv .non H',rt:=Qv } (start N vs) H:=by
 obtain⟨ds,Qd,rs,hs,fin⟩:=h;have hl:=rs.length;refine⟨H,aH N.length ds,[],{ nx:=λ_=>Qd .sh .non,rt:=Qd },⟨?_,⟨bS.refl _,λ_ _ e=>e⟩,oy,λa h=>nomatch h⟩,hp ds Qd hs,?_,?_,?_,?_,λ_ _ _ _=>trivial⟩
 ·unfold aH start;rw[hl];exact SR.start rs
 ·exact λcv H' ay cc cS s sr q=>fin .non H' ay .sh .non [] s sr.wf ⟨rfl,.non⟩ oy (λa h=>nomatch h) q
 ·exact λcv H' ay cc cS s sr q=>q.elim
 ·exact λcv H' ay cc cS s sr q=>q.elim
 ·exact λv H' ay m d As s w r nd own q=>fin v H' ay m d As s w r nd own q
def Wn.ok{P:d5}{st:Stmt}{N ps:List Str}(F:Dx K x qual st f fd)(S:PJ N ps (mB st))(len:∀ ds Q,sp ds Q->ds.length=ps.length)(PL:∀ (gv:ae) (A:fh) (outer:List PySem.Env) (s:ax) (H:Hp) (E:XK),ny k (A.deeper (envOfC qual (mB st) s.heap.objs.size f gv))->AG (CL w9 P w K mg base N qual (mB st) f gv A outer s H E).FH K L0 (yn st) t)(hp:∀ ds Q,sp ds Q->t { nx:=λ_=>Q .sh .non,rt:=Q } (aH N.length ds)):Au P w K mg base w9 (k+1) f fd ps (fG K sp) :=
 F.ok S (λvs H Q E ⟨ds,Qd,rs,hs,_⟩=>by rw[<- rs.length];exact len ds Qd hs) λgv A outer s H vs Q E hr hs=>⟨_,PL gv A outer s H E hr,yo hs hp⟩
def aP(sp:jS)(t:WA):WE:=λρ Q=>t ρ λps=>sp (ps.map (·.2)) λm d=>cE (m,d) (f:=λp=>Q (GY p.1 p.2) p.2) ⟨⟩
def yf{sp:jS}{t:WA}{σ:St}{H:Hp}{Qv:VK}{E:XK}(h:mG K (aP sp t) σ H Qv):Vp (fG K sp) [] E (tpA K t) σ H Qv:=by obtain⟨Hs,ρ,ag,Q,sr,h,f⟩:=h;refine⟨Hs,ρ,ag,_,sr,h,λvs H1 bI ps As g1 r1 f1 q1=>?_⟩;refine⟨_,_,by rw[sP];exact r1.reps g1.wf,q1,λv H' ay m d As s w r nd own q=>?_⟩;obtain⟨hV,r',fr⟩:=sU g1.wf s w r nd own;exact Fin.after f g1 v H' _ (GY m d) d hV (gn g1.wf s w) r' fr q
def aW {k:Nat} {x:Str} {ps:List Str} {sp:jS} {p:Pos} {es:List Expr} {t:WA} (C:S_ X.prog X.w X.K X.mg X.base k x ps (fG K sp)) (ha:QA X K (e :: es) t) (hg:autoParam (Gl X x) bv) (tj:(x == ("__debug__" : Str))=false:=by decide) (he:autoParam (b6 (e :: es) X.env=(false,df e X.env) :: b6 es X.env) bv) (kX:autoParam ((kQ pos (b6 es X.env)).any (·.1)=false) bv) (hr:ny k X.A:=by exact ny.mono (by assumption) (by decide)):QE X K (.Call (.Name x p) (e :: es) [] pos) (aP sp t):=PE.imp (IV C hr ha hg tj he kX) λσ H Qv h=>yf h
end
abbrev WG:=D->Env->(Env->Prop)->Prop
def tpG(K:aC)(g:WG):TG:=λv σ H Qv=>∃ Hs ρ ag d Q,fm K Hs ρ σ H ag/\Rep K Hs d v/\g d ρ Q/\∀ cv cc cS,fm K Hs cc cv H cS->(∀ a∈cS,a∈ag)->Q cc->Qv cv H
abbrev QG(X:Cx)(K:aC)(e:Expr)(g:WG):Prop:=PG X e (tpG K g)
def gN(i:Nat):WG:=λd ρ Q=>Q (ρ.set i (some (.sh d)))
abbrev LJ:=List D->Env->(Env->Prop)->Prop
def iF'(K:aC)(g:LJ):NW:=λvs σ H Qv=>∃ Hs ρ ag ds Q,fm K Hs ρ σ H ag/\b4 K Hs ds vs/\g ds ρ Q/\∀ cv cc cS,fm K Hs cc cv H cS->(∀ a∈cS,a∈ag)->Q cc->Qv cv H
abbrev Tz(X:Cx)(K:aC)(es:List Expr)(g:LJ):Prop:=CH X es (iF' K g)
def mV:LJ:=λds ρ Q=>ds=[]/\Q ρ
def b7(g:WG)(gs:LJ):LJ:=λds ρ Q=>match ds with
 |d :: ds=>g d ρ λcc=>gs ds cc Q
 |[]=>False
def gT(n:Nat)(gs:LJ):WG:=λd ρ Q=>match d with
 |.tup ds=>ds.length=n/\gs ds ρ Q
 |_=>False
section
variable {X:Cx}{K:aC}{e:Expr}{es:List Expr}{g:WG}{gs:LJ}{pos:Pos}
def PG.imp(h:PG X e t)(i:∀ v σ H Q,t' v σ H Q->t v σ H Q):PG X e t':=λpins s σ H v u Q I r q=>h pins s σ H v u Q I r (i v σ H Q q)
def CH.imp(h:CH X es t)(i:∀ v σ H Q,t' v σ H Q->t v σ H Q):CH X es t':=λpins s σ H v u Q I r q=>h pins s σ H v u Q I r (i v σ H Q q)
def fm.Hy(i:Nat)(s:fm K Hs ρ σ H ag)(r:Rep K Hs d v):∃ cS,(∀ a∈cS,a∈ag)/\fm K Hs (ρ.set i (some (.sh d))) (σ.set i (some v)) H cS:=by obtain⟨t,a,b⟩:=s.sr.yr r i;exact⟨t,λx hx=>a.subset hx,b,s.wf,a.nodup s.rS,λx hx=>s.own x (a.subset hx)⟩
def aB(i:Nat)(hf:X.fn x=true\/X.env.scope.names.lookup x=some .local:=by first|exact .inl rfl|exact .inr rfl|assumption)(hN:X.N.Nodup:=by assumption)(hi:autoParam (X.N[i]? = some x) bv)(hx:Loc X.env.scope x:=by first|exact .inl rfl|exact .inr rfl):QG X K (.Name x pos) (gN i) :=
 PG.imp (dT' hN hi hx hf) λv σ H Qv eM=>by obtain⟨Hs,ρ,ag,d,Q,sr,r,h,k⟩:=eM;obtain⟨t,m,s⟩:=sr.Hy i r;exact k _ _ t s m h
def gY:Tz X K [] mV:=CH.imp dW' λv σ H Qv eM=>by obtain⟨Hs,ρ,ag,ds,Q,sr,r,h,k⟩:=eM;obtain⟨rfl,h⟩:=h;cases r;exact⟨rfl,k σ ρ ag sr (λ_ z=>z) h⟩
def aU(h1:QG X K e g)(h2:Tz X K es gs)(hs:autoParam ((D3 (e :: es) X.env).map (·.2)=assign e X.env :: (D3 es X.env).map (·.2)) bv):Tz X K (e :: es) (b7 g gs) :=
 CH.imp (dX' h1 h2 hs) λv σ H Qv eM=>by
  obtain⟨Hs,ρ,ag,ds,Q,sr,r,h,k⟩:=eM
  cases r with
  |nil=>exact h.elim
  |cons r rs=>exact⟨_,_,rfl,Hs,ρ,ag,_,_,sr,r,h,λlS i5 fo iE m2 q2=>⟨Hs,i5,fo,_,Q,iE,rs,q2,λti OG Wo Wq m3=>k ti OG Wo Wq λa h=>m2 a (m3 a h)⟩⟩
def lN(h:Tz X K es gs)(hn:autoParam ((D3 es X.env).length=n) bv)(lP:autoParam ((D3 es X.env).findIdx? (·.1)=none) bv)(hc:autoParam (X.calm=true) bv):QG X K (.Tuple es k pos) (gT n gs) :=
 PG.imp (dZ' hc h hn lP) λv σ H Qv eM=>by
  obtain⟨Hs,ρ,ag,d,Q,sr,r,h,k⟩:=eM
  cases r with
  |tup z e rs=>exact⟨_,_,rfl,.inl (.inl (sr.wf.sub _ _ e)),by rw[<- rs.length];exact h.1,Hs,ρ,ag,_,Q,sr,rs,h.2,k⟩
  |_=>exact h.elim
end
abbrev WI:=Env->(List D->Prop)->Prop
structure nu(K:aC)(J:It)(ds:List D)(C:Hp->Hp->Prop):Prop where
 go:∀ i Hs H,C Hs H->Wf Hs H->i<ds.length->J.go i H
 pe:∀ i Hs H x H' d,C Hs H->Wf Hs H->ds[i]? = some d->J.pe i H x H'->∃ ay,fE Hs H ay H'/\Rep K ay d x
 stop:∀ Hs H,C Hs H->Wf Hs H->J.stop ds.length H
abbrev v8(K:aC)(Hs:Hp)(J:It)(ds:List D):Prop:=nu K J ds λG _=>bS Hs G
def nO(xs:List D):List D:=xs.mapIdx λi x=>.tup [.int i,x]
section
variable {K:aC}{Hs:Hp}{J:It}{ds:List D}{C C':Hp->Hp->Prop}{a:ah}
def nu.imp(S:nu K J ds C)(h:∀ Hs H,C' Hs H->C Hs H):nu K J ds C':=⟨λi Hs H c=>S.go i Hs H (h _ _ c),λi Hs H x H' d c=>S.pe i Hs H x H' d (h _ _ c),λHs H c=>S.stop Hs H (h _ _ c)⟩
def nu.seq(rs:b4 K Hs ds vs)(S:iQ J vs λH=>bS Hs H):v8 K Hs J ds where
 go:=λi G H s w h=>S.go i H (s.trans w.sub) (by rw[<- rs.length];exact h)
 pe:=λi G H x H' d s w h y=>by
  have hi:i<ds.length:=by
   rcases IU i ds.length with q|q
   ·exact q
   ·rw[wm q] at h;cases h
  obtain⟨e,z⟩:=S.pe i H x H' (s.trans w.sub) (by rw[<- rs.length];exact hi) y;subst e;obtain⟨d',ed,rd⟩:=rs.Wd z;rw[h] at ed;cases ed;exact⟨G,fE.refl w,rd.same s⟩
 stop:=λG H s w=>by rw[rs.length];exact S.stop H (s.trans w.sub)
abbrev yO(K:aC)(a:ah)(ds:List D)(C:Hp->Hp->Prop):Prop:=∀ Hs H,C Hs H->Wf Hs H->∃ vs,fw K H a vs/\b4 K Hs ds vs
def nu.list(h:yO K a ds C):nu K (Sg K a) ds C where
 go:=λi G H c w hi=>by obtain⟨vs,q,rs⟩:=h G H c w;exact⟨vs,vs[i]'(by rw[<- rs.length];exact hi),q,by simp⟩
 pe:=λi G H x H' d c w hd y=>by obtain⟨vs,q,rs⟩:=h G H c w;obtain⟨rfl,y⟩:=y;obtain⟨d',ed,rd⟩:=rs.Wd (y vs q);rw[hd] at ed;cases ed;exact⟨G,fE.refl w,rd⟩
 stop:=λG H c w=>by obtain⟨vs,q,rs⟩:=h G H c w;exact⟨vs,q,by rw[rs.length];exact cw _⟩
def nu.enum(h:yO K a ds C):nu K (VX K a) (nO ds) C where
 go:=λi G H c w hi=>by
  obtain⟨vs,q,rs⟩:=h G H c w;have hi:i<ds.length:=by simpa[nO] using hi
  exact⟨vs,vs[i]'(by rw[<- rs.length];exact hi),q,by simp⟩
 pe:=λi G H x H' d c w hd y=>by
  obtain⟨vs,q,rs⟩:=h G H c w;obtain⟨p,v,rfl,hp,rfl,y⟩:=y;obtain⟨d',ed,rd⟩:=rs.Wd (y vs q);have:d=.tup [.int i,d']:=by simp only[nO,UG,ed,Pq] at hd;cases hd;rfl
  subst this;have g:=To (vs:=[.int i,v]) w hp;exact⟨_,g,.tup (vs:=[.int i,v]) BZ hG (.cons (.int _) (.cons (rd.same g.sh) .nil))⟩
 stop:=λG H c w=>by obtain⟨vs,q,rs⟩:=h G H c w;exact⟨vs,q,by rw[nO,UJ,rs.length];exact cw _⟩
def pO(s:fw K Hs a vs)(rs:b4 K Hs ds vs):yO K a ds λG _=>bS Hs G:=λG H c w=>⟨vs,bS.seq (c.trans w.sub) s,rs.same c⟩
end
def tpI(K:aC)(wi:WI):TI:=λσ H R=>∃ Hs ρ ag Q,fm K Hs ρ σ H ag/\wi ρ Q/\∀ J H' ay ds,fE Hs H ay H'->v8 K ay J ds->ds.length<=bq->Q ds->R J H'
abbrev QI(X:Cx)(K:aC)(tg iter:Expr)(wi:WI):Prop:=PI X tg iter (tpI K wi)
def jJ:Md->Prop
 |.bo=>False
 |_=>True
def dN(te:WE):WI:=λρ Q=>te ρ λm d=>jJ m/\match d with
 |.list xs=>Q xs
 |_=>False
def zL(te:WE):WI:=λρ Q=>te ρ λm d=>jJ m/\match d with
 |.tup xs=>Q xs
 |_=>False
def Wr(z:Str):List D:=z.cps.toList.map λc=>.str ⟨#[c]⟩
def Bk(te:WE):WI:=λρ Q=>te ρ λ_ d=>match d with
 |.str z=>Q (Wr z)
 |_=>False
def qd(lo:Int)(n:Nat):List D:=(List.range n).map λi=>.int (lo+(i:Nat))
def jC(te:WE):WI:=λρ Q=>te ρ λ_ d=>match d with
 |.int j=>j<=16777216/\-(2 ^ 62)<=j/\Q (qd 0 j.toNat)
 |_=>False
section
variable {X:Cx}{K:aC}{e e2 tg:Expr}{te OJ:WE}{pos p:Pos}
def PI.imp(h:PI X tg iter t)(i:∀ σ H R,t' σ H R->t σ H R):PI X tg iter t':=λpins s σ H R I q=>h pins s σ H R I (i σ H R q)
def iQ.imp{J:It}(s:iQ J vs c)(h:∀ H,c' H->c H):iQ J vs c':=⟨λi H q=>s.go i H (h H q),λi H x H' q=>s.pe i H x H' (h H q),λH q=>s.stop H (h H q)⟩
def RM.nY(g:fE Hs H bI H1)(r:RM K bI H1 m d v As)(f:cg bI H As)(h:jJ m):∃ aT,fE Hs H aT H1/\Rep K aT d v:=by
 have n:∀ a∈As,bI a=none:=λa ha=>(f.2 a ha).1;have pub:Rep K (AJ bI H1 As) d v->∃ aT,fE Hs H aT H1/\Rep K aT d v:=λz=>by
  refine⟨AJ bI H1 As,⟨g.all,g.sh.trans (jm n),Cw g.wf r.own,λa h=>?_⟩,z⟩;unfold AJ at h;by_cases m:a∈As
  ·exact .inr (f.2 a m).2
  ·rw[if_neg m] at h;exact g.new a h
 cases m with
 |sh=>exact⟨bI,g,r.2⟩
 |bo=>exact h.elim
 |ow fl=>exact pub (ck.rep (jm n) r.1 λa ha=>by unfold AJ;rw[if_pos ha])
def dJ(he:QE X K e te)(hK:autoParam (X.K=K) bv):QI X K tg e (dN te):=by
 subst hK;refine PI.imp (Z3 he) λσ H R hx=>kL hx λHs ρ ag Q sr h k=>⟨Hs,ρ,ag,_,sr,h,λv H1 bI m d As g1 r1 f1 q1=>?_⟩
 obtain⟨nb,q1⟩:=q1;obtain⟨aT,g2,r2⟩:=r1.nY g1 f1 nb
 cases r2 with
 |list z s rs=>exact⟨_,rfl,⟨_,bS.seq g2.wf.sub s⟩,k _ H1 aT _ g2 (.seq rs (iQ.imp (Bf X.K _ _) λH' s'=>bS.seq s' s)) (by rw[rs.length];exact z) q1⟩
 |_=>exact q1.elim
def Gp(he:QE X K e te)(hK:autoParam (X.K=K) bv):QI X K tg e (zL te):=by
 refine PI.imp (eh' he) λσ H R hx=>kL hx λHs ρ ag Q sr h k=>⟨Hs,ρ,ag,_,sr,h,λv H1 bI m d As g1 r1 f1 q1=>?_⟩
 obtain⟨nb,q1⟩:=q1;obtain⟨aT,g2,r2⟩:=r1.nY g1 f1 nb
 cases r2 with
 |tup z s rs=>exact⟨_,rfl,⟨_,.inl (.inl (g2.wf.sub _ _ s))⟩,k _ H1 aT _ g2 (.seq rs (iQ.imp (Er X.K _ _) λH' s'=>.inl (.inl (s' _ _ s)))) (by rw[rs.length];exact z) q1⟩
 |_=>exact q1.elim
theorem uv:∀ (l:List Nat),b4 K H (l.map λc=>.str ⟨#[c]⟩) (l.map λc=>V.str ⟨#[c]⟩)
 |[]=>.nil
 |c :: l=>.cons (.str (ye c)) (uv l)
def Gm(he:QE X K e te):QI X K tg e (Bk te):=by
 refine PI.imp (Gy he) λσ H R hx=>kL hx λHs ρ ag Q sr h k=>⟨Hs,ρ,ag,_,sr,h,λv H1 bI m d As g1 r1 f1 q1=>?_⟩
 have r:=r1.rep g1.wf
 cases r with
 |str hz=>exact⟨_,rfl,k _ H1 bI _ g1 (.seq (uv _) (iQ.imp (CQ _) λ_ _=>trivial)) (by rw[b9,A5];exact hz) q1⟩
 |_=>exact q1.elim
theorem qC(lo:Int):∀ (l:List Nat),b4 K H (l.map λi=>.int (lo+(i:Nat))) (l.map λi=>V.int (lo+(i:Nat)))
 |[]=>.nil
 |c :: l=>.cons (.int _) (qC lo l)
def nW (hm:X.mg "range" = none) (he:QE X K e te) (hg:Gl X "range" := by rfl) (hs:autoParam (b6 [e] X.env=(false,df e X.env) :: b6 [] X.env) bv) (gx:autoParam (b6 [e] X.env=[(false,df e X.env)]) bv):QI X K tg (.Call (.Name "range" p) [e] [] pos) (jC te):=by
 refine PI.imp (el' hg hm (u0 he x8 hs) gx) λσ H R hx=>kL hx λHs ρ ag Q sr h k=>⟨Hs,ρ,ag,_,sr,h,λv H1 bI m d As g1 r1 f1 q1=>?_⟩
 have r:=r1.rep g1.wf
 cases r with
 |int j =>obtain⟨h1,h2,q1⟩:=q1;exact⟨j,rfl,h2,by lia,k _ H1 bI _ g1 (.seq (qC 0 _) (iQ.imp (Fy _ _) λ_ _=>trivial)) (by rw[b9,UK,iL];lia) q1⟩
 |_=>exact q1.elim
section
variable {X:Cx}{K:aC}{e tg:Expr}{te:WE}{pos p:Pos}
def t8(te:WE):WI:=λρ Q=>te ρ λm d=>jJ m/\match d with
 |.list xs=>Q (nO xs)
 |_=>False
def Dv (hm:X.mg "enumerate" = none) (he:QE X K e te) (hK:autoParam (X.K=K) bv) (hg:Gl X "enumerate" := by rfl) (hs:autoParam (b6 [e] X.env=(false,df e X.env) :: b6 [] X.env) bv) (gx:autoParam (b6 [e] X.env=[(false,df e X.env)]) bv) :
  QI X K (.Tuple elts kk tp) (.Call (.Name "enumerate" p) [e] [] pos) (t8 te):=by
 subst hK;refine PI.imp (FZ hg hm (u0 he x8 hs) gx) λσ H R hx=>kL hx λHs ρ ag Q sr h k=>⟨Hs,ρ,ag,_,sr,h,λv H1 bI m d As g1 r1 f1 q1=>?_⟩
 obtain⟨nb,q1⟩:=q1;obtain⟨aT,g2,r2⟩:=r1.nY g1 f1 nb
 cases r2 with
 |list z s rs=>exact⟨_,rfl,⟨_,bS.seq g2.wf.sub s⟩,k _ H1 aT _ g2 (.enum (pO s rs)) (by rw[nO,UJ,rs.length];exact z) q1⟩
 |_=>exact q1.elim
def bT'(K:aC)(wi:WI):TI:=λσ H R=>∃ Hs ρ ag Q,fm K Hs ρ σ H ag/\wi ρ Q/\∀ J H' ay ds,fE Hs H ay H'->v8 K H' J ds->ds.length<=bq->Q ds->R J H'
abbrev TB(X:Cx)(K:aC)(tg iter:Expr)(wi:WI):Prop:=PI X tg iter (bT' K wi)
def t6(h:QI X K tg iter wi):TB X K tg iter wi:=PI.imp h λσ H R hx=>kL hx λHs ρ ag Q sr h k=>⟨Hs,ρ,ag,Q,sr,h,λJ H' ay ds g w z q=>k J H' ay ds g (w.imp λG H s=>g.wf.sub.trans s) z q⟩
def cT(te:WE):WI:=λρ Q=>te ρ λ_ d=>match d with
 |.list xs=>Q xs
 |_=>False
def cP(he:QE X K e te)(hK:autoParam (X.K=K) bv):TB X K tg e (cT te):=by
 subst hK;refine PI.imp (Z3 he) λσ H R hx=>kL hx λHs ρ ag Q sr h k=>⟨Hs,ρ,ag,_,sr,h,λv H1 bI m d As g1 r1 f1 q1=>?_⟩
 have r:=r1.rep g1.wf
 cases r with
 |list z s rs=>exact⟨_,rfl,⟨_,s⟩,k _ H1 bI _ g1 (.list (pO s rs)) (by rw[rs.length];exact z) q1⟩
 |_=>exact q1.elim
end
def oX(g:WG)(b:WS)(E:qU):List D->Env->Prop
 |[],ρ=>E.nx ρ
 |x :: xs,ρ=>g x ρ λqk=>b { E with nx:=oX g b E xs,ct:=oX g b E xs,bk:=E.nx } qk
def xk(wi:WI)(g:WG)(b:WS):WS:=λE ρ=>wi ρ λds=>oX g b E ds ρ
variable {wi:WI}{g:WG}{b:WS}{body:List Stmt}
def dO(hi:QI X K tg iter wi)(hg:QG X K tg g)(hb:AG X K L body b)(hs:∀ x,Ic iter X.env x=pure x:=by intro _;rfl)(hp:PassesOwn (aS X.prog X.w) X.A X.env X.xe:=by first|exact PassesOwn.never|exact PassesOwn.leaving)(hc:autoParam (X.calm=true) bv) :
  QS X K L (.For tg iter body [] pos) (xk wi g b):=by
 refine PS.imp (eo' hp hc hi hg hb hs) λD σ H hx=>mU hx λHs ρ ag E sr h k1 k2 k3 k4 kx=>?_;refine⟨Hs,ρ,ag,_,sr,h,λJ H1 bI ds g1 S hz q1=>?_⟩;refine⟨λi m σ H=>m=ds.length-i/\i<=ds.length/\∃ ay cc cS,bS bI ay/\fm K ay cc σ H cS/\oX g b E (ds.drop i) cc,⟨ds.length,by simp,fI _,bI,ρ,ag,bS.refl _,sr.grow g1,by simpa using q1⟩,?_⟩;rintro i m lS H2 ⟨rfl,hi,aT,i5,fo,s2,iE,q2⟩;by_cases fi:i<ds.length
 ·refine .inr ⟨S.go i aT H2 s2 iE.wf fi,λti H3=>∃ ay cc cS,bS bI ay/\fm K ay cc ti H3 cS/\oX g b E (ds.drop (i+1)) cc,λti H3 h3=>⟨ds.length-(i+1),by lia,rfl,fi,h3⟩,λx H3 y=>?_⟩;obtain⟨fP,g3,rd⟩:=S.pe i aT H2 x H3 ds[i] s2 iE.wf (by simp[fi]) y;rw[AZ fi] at q2;have s3:=s2.trans g3.sh;refine⟨fP,i5,fo,ds[i],_,iE.grow g3,rd,q2,λσ4 yT Ws TC _ q4=>?_⟩;refine⟨fP,yT,Ws,_,TC,q4,?_,?_,?_,?_,λn H5 s5=>kx n H5 ((g1.sh.trans s3).trans s5)⟩
  ·exact λLM H5 qo BM BO s5 BQ q5=>⟨qo,BM,BO,s3.trans s5,BQ,q5⟩
  ·exact λLM H5 qo BM BO s5 BQ q5=>k1 LM H5 qo BM BO ((g1.sh.trans s3).trans s5) BQ q5
  ·exact λLM H5 qo BM BO s5 BQ q5=>⟨qo,BM,BO,s3.trans s5,BQ,q5⟩
  ·exact λv H5 qo m d As s5=>k4 v H5 qo m d As ((g1.sh.trans s3).trans s5)
 ·have e:i=ds.length:=by lia
  subst e;refine .inl ⟨S.stop aT H2 s2 iE.wf,?_⟩;rw[UM] at q2;exact k1 lS H2 aT i5 fo (g1.sh.trans s2) iE q2
def b_(xs:List D)(Pv:Nat->Env->Prop)(h0:Pv 0 ρ)(hs:∀ i x ρ,xs[i]? = some x->Pv i ρ->∀ N:Env->Prop,(∀ cc,Pv (i+1) cc->N cc)->g x ρ λqk=>b { E with nx:=N,ct:=N,bk:=E.nx } qk) (hd:∀ ρ,Pv xs.length ρ->E.nx ρ):oX g b E xs ρ:=by
 have go:∀ (k i:Nat) ρ,i+k=xs.length->Pv i ρ->oX g b E (xs.drop i) ρ:=by
  intro k
  induction k with
  |zero =>
   intro i ρ e p;have:i=xs.length:=by lia
   subst this;rw[UM];exact hd ρ p
  |succ k ih =>
   intro i ρ e p;have hi:i<xs.length:=by lia
   rw[AZ hi];exact hs i xs[i] ρ (by simp[hi]) p _ λi5 h2=>ih (i+1) i5 (by lia) h2
 have:=go xs.length 0 ρ (by lia) h0;simpa using this
def uF(c:WT)(b:WS):WS:=λE ρ=>∃ (Pv:Env->Prop) (μ:Env->Nat),Pv ρ/\∀ ρ,Pv ρ->c ρ λk=>if k=true then b { E with nx:=λcc=>Pv cc/\μ cc<μ ρ,ct:=λcc=>Pv cc/\μ cc<μ ρ,bk:=E.nx } ρ else E.nx ρ
def oO(hc:QT X K c tc)(hb:AG X K L body b)(hp:PassesOwn (aS X.prog X.w) X.A X.env X.xe:=by first|exact PassesOwn.never|exact PassesOwn.leaving):QS X K L (.While c body [] pos) (uF tc b):=by
 refine PS.imp (eb' hp hc hb) λD σ H hx=>mU hx λHs ρ ag E sr h k1 k2 k3 k4 kx=>?_;obtain⟨Pv,μ,p0,turn⟩:=h;refine⟨λm σ H=>∃ ay cc cS,bS Hs ay/\fm K ay cc σ H cS/\Pv cc/\μ cc=m,⟨_,Hs,ρ,ag,bS.refl _,sr,p0,rfl⟩,?_⟩;rintro m lS H2 ⟨aT,i5,fo,s2,iE,p2,rfl⟩;refine⟨aT,i5,fo,_,iE,turn i5 p2,λk H3 fP g3 q3=>?_⟩
 cases k with
 |false=>exact k1 lS H3 fP i5 fo (s2.trans g3.sh) (iE.grow g3) q3
 |true =>
  refine⟨λcv H'=>∃ ay cc cS,bS Hs ay/\fm K ay cc cv H' cS/\Pv cc/\μ cc<μ i5,λcv H' ⟨ay,cc,cS,a,b,c,d⟩=>⟨μ cc,d,ay,cc,cS,a,b,c,rfl⟩,?_⟩;have s3:bS Hs fP:=s2.trans g3.sh;refine⟨fP,i5,fo,_,iE.grow g3,q3,?_,?_,?_,?_,λn H5 s5=>kx n H5 (s3.trans s5)⟩
  ·exact λLM H5 qo BM BO s5 BQ q5=>⟨qo,BM,BO,s3.trans s5,BQ,q5.1,q5.2⟩
  ·exact λLM H5 qo BM BO s5 BQ q5=>k1 LM H5 qo BM BO (s3.trans s5) BQ q5
  ·exact λLM H5 qo BM BO s5 BQ q5=>⟨qo,BM,BO,s3.trans s5,BQ,q5.1,q5.2⟩
  ·exact λv H5 qo m d As s5=>k4 v H5 qo m d As (s3.trans s5)
end
def vS:WT:=λ_ Q=>Q true
def Qx(m:Md)(d:D):Prop:=d.flat=true\/m=.ow true
def fK(g:WG)(tc:WT)(te:WE):List D->Env->(List D->Prop)->Prop
 |[],_,k=>k []
 |x :: xs,ρ,k=>g x ρ λqk=>tc qk λb=>if b=true then te qk λm d=>Qx m d/\fK g tc te xs qk (λout=>k (d :: out)) else fK g tc te xs qk k
def DN(tn:Nat)(ix:List Nat)(ρ:Env):Env:=List.replicate tn none++ix.map λj=>(ρ[j]?).join.map Qu
def dB(wi:WI)(g:WG)(tc:WT)(te:WE)(tn:Nat)(ix:List Nat):WE:=λρ Q=>wi ρ λds=>fK g tc te ds (DN tn ix ρ) λout=>Q (.ow true) (.list out)
section
variable {X:Cx}{K:aC}
theorem lK{Hs H G:Hp}(sr:fm K Hs ρ σ H ag)(G':Hp):∀ (ix:List Nat),SR K H G' (ix.map λj=>(ρ[j]?).join.map Qu) (ix.map λj=>(σ[j]?).join) []
 |[]=>.nil
 |j :: ix=>by
  have ih:=lK sr G' ix (G:=G);simp only[fS]
  cases e:ρ[j]? with
  |none=>exact .non ih
  |some o =>
   cases o with
   |none=>exact .non ih
   |some sl =>
    obtain⟨v,e1,r⟩:=sr.sr.get e;rw[e1]
    cases sl with
    |sh d=>exact .sh (Rep.same sr.wf.sub r) ih
    |xc a=>subst r;exact .xc ih
    |ob a p=>obtain⟨r,_⟩:=r;subst r;exact .xc ih
    |ow fl d =>obtain⟨As,_,r,_⟩:=r;exact .sh (r.rep sr.wf.sub λ_ _=>rfl) ih
    |lk a fl d =>obtain⟨As,_,r,_⟩:=r;exact .sh (r.rep sr.wf.sub λ_ _=>rfl) ih
theorem oV(s:SR K H G ρ σ []):∀ (n:Nat),SR K H G (List.replicate n none++ρ) (List.replicate n none++σ) []
 |0=>s
 |n+1=>.non (oV s n)
def SR.heap(s:SR K Hs H ρ σ []):SR K Hs H' ρ σ []:=s.ft (bS.refl _) λa h=>nomatch h
def qb(w:Wf Hs H)(n:Hs p=none)(ho:∀ vs,o≠.tup vs):Wf Hs (upd H p o):=⟨λb u q=>by
  rw[fq (λz=>by subst z;rw[n] at q;cases q)];exact w.sub b u q,λb us q=>by
  by_cases hb:b=p
  ·subst hb;rw[hG] at q;exact absurd (Option.some.inj q) (ho us)
  ·rw[fq hb] at q;exact w.k8 b us q⟩
structure CompI(K:aC)(H1:Hp)(b:ah)(acc:List D)(ys:List V)(As:List ah)(Hs:Hp)(ρ:Env)(τ:St)(H:Hp):Prop where
 sm:bS H1 Hs
 sr:fm K Hs ρ τ H []
 eD:H b=some (.lst ys)
 nD:Hs b=none
 ra:aA K Hs H true acc ys As
 nd:(b :: As).Nodup
 own:∀ a∈As,Hs a=none
def CompI.grow(c:CompI K H1 b acc ys As Hs ρ τ H)(g:fE Hs H ay H'):CompI K H1 b acc ys As ay ρ τ H' :=
 ⟨c.sm.trans g.sh,c.sr.grow g,g.all _ _ c.eD,g.mn c.nD (by rw[c.eD];exact λz=>nomatch z),c.ra.grow g.sh g.all,c.nd,λa ha=>g.mn (c.own a ha) (c.ra.own a ha).ne⟩
def CompI.push(c:CompI K H1 b acc ys As Hs ρ τ H)(r:RM K Hs H m d v Bs)(ok:Qx m d)(nb:Bs.Nodup)(fb:∀ a∈Bs,Hs a=none/\a∉b :: As):∃ hV,CompI K H1 b (acc++[d]) (ys++[v]) hV Hs ρ τ (upd H b (.lst (ys++[v]))):=by
 obtain⟨B,sb,rb⟩:∃ B,B.Sublist Bs/\ck K Hs H true d v B:=by
  rcases ok with hf|rfl
  ·exact⟨[],Fn _,.sh (λ_=>hf) (r.flat c.sr.wf hf)⟩
  ·exact⟨Bs,List.Sublist.refl _,r.1⟩
 obtain⟨na,nA⟩:=kA.mp c.nd;have TF:=λa ha=>fb a (sb.subset ha);refine⟨As++(B++[]),c.sm,⟨c.sr.sr.heap,qb c.sr.wf c.nD (λ_ z=>nomatch z),oy,λa h=>nomatch h⟩,hG,c.nD,(c.ra.ft (bS.refl _) λa ha=>fq λz=>na (by subst z;exact ha)).append (.cons (rb.ft (bS.refl _) λa ha=>fq λz=>(TF a ha).2 (by subst z;exact cy)) .nil),?_,?_⟩
 ·rw[sP];refine kA.mpr ⟨λm=>(dP.mp m).elim na λm=>(TF b m).2 cy,hX.mpr ⟨nA,sb.nodup nb,λx hx y hy e=>(TF y hy).2 (e ▸ c9 _ hx)⟩⟩
 ·rw[sP];exact λa ha=>(dP.mp ha).elim (c.own a) λm=>(TF a m).1
def qz(h:mG K (dB wi g tc te tn ix) σ H Qv):Bl (bT' K wi) (tpG K g) (EZ K tc) (mG K te) tn ix σ H Qv:=by
 obtain⟨Hs,ρ,ag,Q,sr,h,f⟩:=h;refine⟨Hs,ρ,ag,_,sr,h,λJ H1 bI ds g1 S hz q1 b hb=>?_⟩;have st:CompI K H1 b [] [] [] H1 (DN tn ix ρ) (pq tn ix σ) (upd H1 b (.lst [])):=by
  refine⟨bS.refl _,⟨oV (lK (G:=H1) (sr.grow g1) _ ix) tn,⟨(bS.refl H1).upd hb,λa xs e=>?_⟩,oy,λa h=>nomatch h⟩,hG,hb,.nil,by simp,λa h=>nomatch h⟩;by_cases ha:a=b
  ·subst ha;rw[hG] at e;cases e
  ·rw[fq ha] at e;exact e
 refine⟨λi m τ H2=>m=ds.length-i/\i<=ds.length/\∃ aT i5 acc ys As,CompI K H1 b acc ys As aT i5 τ H2/\acc.length<=i/\fK g tc te (ds.drop i) i5 (λout=>Q (.ow true) (.list (acc++out))), ⟨ds.length,by simp,fI _,H1,_,[],[],[],st,cw _,by simpa using q1⟩,?_⟩
 rintro i m τ H2 ⟨rfl,hi,aT,i5,acc,ys,As,c,la,q2⟩;by_cases fi:i<ds.length
 ·refine .inr ⟨S.go i aT H2 c.sm c.sr.wf fi,
   λOL v H4=>∃ Ow yT d,CompI K H1 b acc ys As Ow yT OL H4/\(∃ hV,CompI K H1 b (acc++[d]) (ys++[v]) hV Ow yT OL (upd H4 b (.lst (ys++[v]))))/\fK g tc te (ds.drop (i+1)) yT (λout=>Q (.ow true) (.list (acc++d :: out))),
   λOL H3=>∃ fP OG,CompI K H1 b acc ys As fP OG OL H3/\fK g tc te (ds.drop (i+1)) OG (λout=>Q (.ow true) (.list (acc++out))),?_,?_,?_⟩
  ·rintro OL v H4 ⟨Ow,yT,d,c4,⟨hV,c5⟩,q4⟩;have lya:=c4.ra.length;exact⟨ys,ds.length-(i+1),c4.eD,by lia,by lia,rfl,fi,Ow,yT,acc++[d],ys++[v],hV,c5,by rw[kz];simpa using la,by simpa using q4⟩
  ·rintro OL H3 ⟨fP,OG,c3,q3⟩;exact⟨ds.length-(i+1),by lia,rfl,fi,fP,OG,acc,ys,As,c3,by lia,q3⟩
  ·intro x H3 y;obtain⟨fP,g3,rd⟩:=S.pe i aT H2 x H3 ds[i] c.sm c.sr.wf (by simp[fi]) y;rw[AZ fi] at q2;have c3:=c.grow g3;refine⟨fP,i5,[],ds[i],_,c3.sr,rd,q2,λτ4 yT Ws TC m4 q4=>?_⟩;have t4:Ws=[]:=List.eq_nil_iff_forall_not_mem.mpr λa ha=>nomatch m4 a ha;subst t4;have c4:CompI K H1 b acc ys As fP yT τ4 H3:=⟨c3.sm,TC,c3.eD,c3.nD,c3.ra,c3.nd,c3.own⟩
   refine⟨fP,yT,[],_,TC,q4,λk H5 qo g5 q5=>?_⟩;have c5:=c4.grow g5
   cases k with
   |false=>exact⟨qo,yT,c5,q5⟩
   |true =>
    refine⟨qo,yT,[],_,c5.sr,q5,λv H6 Hs6 m6 d6 As6 g6 r6 f6 q6=>?_⟩;have c6:=c5.grow g6;refine⟨Hs6,yT,d6,c6,c6.push r6 q6.1 f6.1 λa ha=>⟨(f6.2 a ha).1,λm=>?_⟩,q6.2⟩;rcases eK.mp m with rfl|m
    ·have:=(f6.2 _ ha).2;rw[c5.eD] at this;cases this
    ·exact(c5.ra.own a m).ne (f6.2 a ha).2
 ·have e:i=ds.length:=by lia
  subst e;refine .inl ⟨S.stop aT H2 c.sm c.sr.wf,?_⟩;rw[UM] at q2;have q2:Q (.ow true) (.list (acc++[])):=q2;rw[sP] at q2;have lya:=c.ra.length;have rm:RM K aT H2 (.ow true) (.list acc) (.ref b) (b :: As):=⟨.list (by lia) c.eD c.ra,by simp⟩
  obtain⟨hV,r',fr⟩:=sU g1.wf c.sm c.sr.wf rm c.nd λa ha=>(eK.mp ha).elim (λz=>z ▸ c.nD) (c.own a);exact Fin.after f g1 (.ref b) H2 _ (.ow true) (.list acc) hV (gn g1.wf c.sm c.sr.wf) r' fr q2
def DB.imp(h:DB X ifs t)(i:∀ σ H Q,t' σ H Q->t σ H Q):DB X ifs t':=λpins s σ H Q I q=>h pins s σ H Q I (i σ H Q q)
abbrev TH(X:Cx)(K:aC)(ifs:List Expr)(t:WT):Prop:=DB X ifs (EZ K t)
def cj:TH X K [] vS:=DB.imp Df λσ H Qv hx=>kL hx λHs ρ ag Q sr h k=>k true H Hs (fE.refl sr.wf) h
def rB(h:QT X K c t):TH X K [c] t:=Eg h
def gD(hi:TB X K tg iter wi)(hg:∀ {C fp iX j3} {q:(tn++cn).Nodup},QG (aO X scope C (tn++cn) fp iX j3) K tg g) (AA:∀ {C fp iX j3},TH (aO X scope C (tn++cn) fp iX j3) K ifs tc) (he:∀ {C fp iX j3},QE (aO X scope C (tn++cn) fp iX j3) K elt te)(hs:∀ x,Ic iter X.env x=pure x:=by intro _;rfl) (nd:(tn++cn).Nodup:=by decide +kernel) (O:dU X scope tn cn ix:=by exact dU.by (by assumption) (by decide +kernel)) (hc:autoParam (X.calm=true) bv):QE X K (.ListComp elt [⟨tg,iter,ifs,0⟩] scope pos) (dB wi g tc te tn.length ix) :=
 PE.imp (Ff hc hi O (λ_ _ _ _=>hg (q:=nd)) (λ_ _ _ _=>AA) (λ_ _ _ _=>he) hs) λσ H Qv h=>qz h
end
def aY(p:D->Bool)(f:D->D)(Iv:Env->Prop):∀ (xs:List D) (ρ:Env) (k:List D->Prop),Iv ρ -> (∀ x∈xs,∀ ρ,Iv ρ->∀ N1:Env->Prop,∀ N2:Env->D->Prop,(∀ cc,Iv cc->p x=false->N1 cc)->(∀ cc,Iv cc->p x=true->N2 cc (f x))->g x ρ λqk=>tc qk λb=>if b=true then te qk λm d=>Qx m d/\N2 qk d else N1 qk) ->
  k ((xs.filter p).map f)->fK g tc te xs ρ k
 |[],_,k,_,_,h=>h
 |x :: xs,ρ,k,iv,hs,h=>by
  refine hs x cy ρ iv _ _ (λcc Qy hp=>?_) (λcc Qy hp=>?_)
  ·exact aY p f Iv xs cc k Qy (λy hy=>hs y (c9 _ hy)) (by simpa[hp] using h)
  ·exact aY p f Iv xs cc _ Qy (λy hy=>hs y (c9 _ hy)) (by simpa[hp] using h)
def Upd(K:aC)(Hs H:Hp)(σ:St)(fl:Bool)(v:V)(up:Bool->D->Env)(hV:List ah):Prop:=∀ aT H2 d4 d2 g7,bS Hs aT->Wf aT H2->(∀ a,Hs a=none->H a≠none->aT a=none)->(d4=true->fl=true) ->
  ck K aT H2 d4 d2 v g7->g7≠[]->g7.Nodup->(∀ a∈g7,aT a=none/\(a∈hV\/H a=none))->(∀ a,H a≠none->a∉hV->H2 a=H a)->∃ fo,fm K aT (up d4 d2) σ H2 fo
structure Place(K:aC)(Hs H:Hp)(σ:St)(fl:Bool)(d:D)(v:V)(up:Bool->D->Env):Prop where
 ex:∃ hV,ck K Hs H fl d v hV/\hV≠[]/\hV.Nodup/\(∀ a∈hV,Hs a=none)/\Upd K Hs H σ fl v up hV
def Upd.node{K:aC}(k:Upd K Hs H σ fl (.ref a) up (a :: A))(g:fE Hs H aT H2)(own:∀ x∈a :: A,Hs x=none/\H x≠none)(ho:∀ vs,o≠.tup vs)(hf:d4=true->fl=true)(r:ck K aT (upd H2 a o) d4 d2 (.ref a) (a :: C)) (nC:C.Nodup) (TJ:a∉C) (hC:∀ x∈C,x∈A\/(aT x=none/\H x=none)):∃ fo,fm K aT (up d4 d2) σ (upd H2 a o) fo:=by
 have hn:∀ x∈a :: A,aT x=none:=λx hx=>g.mn (own x hx).1 (own x hx).2;refine k aT _ d4 d2 (a :: C) g.sh (qb g.wf (hn a cy) ho) (λb h1 h2=>g.mn h1 h2) hf r (RC _ _) (kA.mpr ⟨TJ,nC⟩) (λb hb=>?_) λb h1 h2=>?_
 ·rcases eK.mp hb with rfl|hb
  ·exact⟨hn _ cy,.inl cy⟩
  ·exact(hC b hb).elim (λq=>⟨hn b (c9 _ q),.inl (c9 _ q)⟩) λq=>⟨q.1,.inr q.2⟩
 ·rw[fq λz=>h2 (by subst z;exact cy)]
  cases q:H b with
  |none=>exact absurd q h1
  |some o=>exact g.all b o q
abbrev WP:=Env->(Bool->D->(Bool->D->Env)->Prop)->Prop
def tpP(K:aC)(t:WP):TE:=λσ H Qv=>∃ Hs ρ ag Q,fm K Hs ρ σ H ag/\t ρ Q/\∀ v H' ay fl d up,fE Hs H ay H'->Place K ay H' σ fl d v up->Q fl d up->Qv v H'
abbrev QP(X:Cx)(K:aC)(e:Expr)(t:WP):Prop:=PE X e (tpP K t)
section
variable {K:aC}{Hs H ay H':Hp}{σ:St}{fl:Bool}{d:D}{v:V}{up:Bool->D->Env}
def Place.grow(p:Place K Hs H σ fl d v up)(g:fE Hs H ay H'):Place K ay H' σ fl d v up:=by
 obtain⟨hV,r,ne,nd,own,k⟩:=p.ex;refine⟨hV,r.grow g.sh g.all,ne,nd,λa h=>g.mn (own a h) (r.own a h).ne,λaT H2 d4 d2 g7 s2 w2 n2 hf r2 ne2 kN o2 st=>?_⟩;refine k aT H2 d4 d2 g7 (g.sh.trans s2) w2 (λa h1 h2=>n2 a (g.mn h1 h2) ?_) hf r2 ne2 kN (λa h=>⟨(o2 a h).1,(o2 a h).2.imp id g.all.free⟩) λa h1 h2=>?_
 ·cases e:H a with
  |none=>exact absurd e h2
  |some o=>rw[g.all a o e];exact λz=>nomatch z
 ·cases e:H a with
  |none=>exact absurd e h1
  |some o =>have:=g.all a o e;rw[<- this];exact st a (by rw[this];exact λz=>nomatch z) h2
def ck.ne2:(∀ {d:D} {v:V} {As:List ah},ck K Hs H true d v As->d.flat=false->As≠[])/\∀ {ds:List D} {vs:List V} {As:List ah},aA K Hs H true ds vs As->eP ds=false->As≠[] :=
 ck.ind (λ_ _ f _ h=>by rw[f rfl] at h;cases h) (λ_ _ _ _ _ _ _ _ _=>RC _ _) (λ_ _ _ _ _ _ n _ ih _=>ih n) (λ_ _ _ _ _ _ _ _ _=>RC _ _) (λ_ _ _ _ _ _ _ _ _=>RC _ _) (λh=>by simp[eP] at h) λd _ _ _ _ _ _ _ i1 i2 h=>by
   cases e:d.flat with
   |false=>exact λz=>i1 e (O9.mp z).1
   |true =>simp only[eP,e,Bool.true_and] at h;exact λz=>i2 h (O9.mp z).2
def ck.ne(r:ck K Hs H true d v As)(h:d.flat=false):As≠[]:=ck.ne2.1 r h
def ck.nil_of(r:ck K Hs H fl d v As)(h:d.flat=true):As=[]:=by
 cases r with
 |sh _ _=>rfl
 |tup _ _ n _=>simp[D.flat,n] at h
 |_=>simp[D.flat] at h
def nS(i:Nat):WP:=λρ Q=>match ρ[i]? with
 |some (some (.ow fl d))=>Q fl d λd4 d2=>ρ.set i (some (.ow d4 d2))
 |_=>False
def SR.put(i:Nat)(s:SR K Hs H ρ σ ag):ρ[i]? = some (some (.ow fl d))->ag.Nodup ->
  ∃ (v:V) (As cS:List ah),σ[i]? = some (some v)/\As≠[]/\ck K Hs H fl d v As/\As.Sublist ag/\∀ aT H2 d4 d2 g7,bS Hs aT->ck K aT H2 d4 d2 v g7->g7≠[]->g7.Nodup->(∀ a∈g7,a∈ag->a∈As)->(∀ a∈ag,a∉As->H2 a=H a) ->
   ∃ fo,fo.Nodup/\(∀ a∈fo,a∈ag\/a∈g7)/\SR K aT H2 (ρ.set i (some (.ow d4 d2))) σ fo:=by
 induction s generalizing i with
 |nil=>intro e;simp at e
 |@non ρ σ ag o q ih =>
  intro e n
  cases i with
  |zero=>simp at e
  |succ i =>obtain⟨v,As,t,a,b,c,d,g⟩:=ih i (by simpa using e) n;refine⟨v,As,t,by simpa using a,b,c,d,λaT H2 d4 d2 g7 s2 r2 ne2 kN dj st=>?_⟩;obtain⟨t2,x,y,z⟩:=g aT H2 d4 d2 g7 s2 r2 ne2 kN dj st;exact⟨t2,x,y,.non z⟩
 |sh r q ih =>
  intro e n
  cases i with
  |zero=>simp at e
  |succ i =>obtain⟨v,As,t,a,b,c,d,g⟩:=ih i (by simpa using e) n;refine⟨v,As,t,by simpa using a,b,c,d,λaT H2 d4 d2 g7 s2 r2 ne2 kN dj st=>?_⟩;obtain⟨t2,x,y,z⟩:=g aT H2 d4 d2 g7 s2 r2 ne2 kN dj st;exact⟨t2,x,y,.sh (r.same s2) z⟩
 |xc q ih =>
  intro e n
  cases i with
  |zero=>simp at e
  |succ i =>obtain⟨v,As,t,a,b,c,d,g⟩:=ih i (by simpa using e) n;refine⟨v,As,t,by simpa using a,b,c,d,λaT H2 d4 d2 g7 s2 r2 ne2 kN dj st=>?_⟩;obtain⟨t2,x,y,z⟩:=g aT H2 d4 d2 g7 s2 r2 ne2 kN dj st;exact⟨t2,x,y,.xc z⟩
 |@ow ρ σ t2 B fl0 d0 v ne r q ih =>
  intro e n;walk_at"d"
  cases i with
  |zero =>
   obtain⟨rfl,rfl⟩:=e;refine⟨v,B,t2,rfl,ne,r,MY _ _,λaT H2 d4 d2 g7 s2 r2 ne2 kN dj st=>⟨g7++t2,hX.mpr ⟨kN,n2,λa ha b hb e=>?_⟩,λa h=>?_,.ow ne2 r2 (q.ft s2 λa h=>st a (gu _ h) λz=>n3 a z a h rfl)⟩⟩
   ·subst e;exact n3 a (dj a ha (gu _ hb)) a hb rfl
   ·exact(dP.mp h).symm.imp (λz=>gu _ z) id
  |succ i =>
   obtain⟨v,As,t,a,b,c,d,g⟩:=ih i (by simpa using e) n2;have hB:∀ x∈B,x∉As:=λx hx m=>n3 x hx x (d.subset m) rfl;walk_at"m";obtain⟨t2,x,y,z⟩:=g aT H2 d4 d2 g7 s2 r2 ne2 kN (λa ha m=>dj a ha (gu _ m)) λa ha m=>st a (gu _ ha) m;refine⟨B++t2,hX.mpr ⟨n1,x,λa ha b hb e=>?_⟩,λa h=>?_,.ow ne (r.ft s2 λa h=>st a (i9 _ h) (hB a h)) z⟩
   ·subst e;rcases y a hb with w|w
    ·exact n3 a ha a w rfl
    ·exact hB a ha (dj a w (i9 _ ha))
   ·rcases dP.mp h with w|w
    ·exact .inl (i9 _ w)
    ·exact(y a w).imp (λw=>gu _ w) id
 |@lk ρ σ t2 B a0 fl0 d0 ne r q ih =>
  intro e n;walk_at"d"
  cases i with
  |zero=>simp at e
  |succ i =>
   obtain⟨v,As,t,a,b,c,d,g⟩:=ih i (by simpa using e) n2;have hB:∀ x∈B,x∉As:=λx hx m=>n3 x hx x (d.subset m) rfl;walk_at"m";obtain⟨t2,x,y,z⟩:=g aT H2 d4 d2 g7 s2 r2 ne2 kN (λa ha m=>dj a ha (gu _ m)) λa ha m=>st a (gu _ ha) m;refine⟨B++t2,hX.mpr ⟨n1,x,λa ha b hb e=>?_⟩,λa h=>?_,.lk ne (r.ft s2 λa h=>st a (i9 _ h) (hB a h)) z⟩
   ·subst e;rcases y a hb with w|w
    ·exact n3 a ha a w rfl
    ·exact hB a ha (dj a w (i9 _ ha))
   ·rcases dP.mp h with w|w
    ·exact .inl (i9 _ w)
    ·exact(y a w).imp (λw=>gu _ w) id
 |@ob ρ σ t2 B a0 p0 r q ih =>
  intro e n;walk_at"d"
  cases i with
  |zero=>simp at e
  |succ i =>
   obtain⟨v,As,t,a,b,c,d,g⟩:=ih i (by simpa using e) n2;have hB:∀ x∈B,x∉As:=λx hx m=>n3 x hx x (d.subset m) rfl;walk_at"m";obtain⟨t2,x,y,z⟩:=g aT H2 d4 d2 g7 s2 r2 ne2 kN (λa ha m=>dj a ha (gu _ m)) λa ha m=>st a (gu _ ha) m;refine⟨B++t2,hX.mpr ⟨n1,x,λa ha b hb e=>?_⟩,λa h=>?_,.ob (p0.ft (sH s2) (λa h=>st a (i9 _ h) (hB a h)) r) z⟩
   ·subst e;rcases y a hb with w|w
    ·exact n3 a ha a w rfl
    ·exact hB a ha (dj a w (i9 _ ha))
   ·rcases dP.mp h with w|w
    ·exact .inl (i9 _ w)
    ·exact(y a w).imp (λw=>gu _ w) id
def aR{X:Cx}(h:PE X e (ED i)):QP X K e (nS i):=PE.imp h λσ H Qv hx=>kL hx λHs ρ ag Q sr h f=>by
 unfold nS at h;split at h
 ·rename_i fl d e1;obtain⟨v,As,t,e2,ne,r,sb,g⟩:=SR.put i sr.sr e1 sr.rS;refine⟨v,e2,f v H Hs fl d _ (fE.refl sr.wf) ⟨As,r,ne,sb.nodup sr.rS,λa h=>sr.own a (sb.subset h),λaT H2 d4 d2 g7 s2 w2 n2 _ r2 ne2 kN o2 st=>?_⟩ h⟩;obtain⟨t2,x,y,z⟩:=g aT H2 d4 d2 g7 s2 r2 ne2 kN (λa ha m=>(o2 a ha).2.elim id λq=>absurd q (sr.sr.own a m).ne) λa ha m=>st a (sr.sr.own a ha).ne m;exact⟨t2,z,w2,x,λa h=>(y a h).elim (λq=>n2 a (sr.own a q) (sr.sr.own a q).ne) λq=>(o2 a q).1⟩
 ·exact h.elim
def ck.wk(h:d4=true->fl=true)(r:ck K Hs H fl d v As):ck K Hs H d4 d v As:=by
 cases d4 with
 |false=>exact r.Tn
 |true=>rw[h rfl] at r;exact r
def aA.wk{fl d4:Bool}{d:List D}{v:List V}{As:List ah}(h:d4=true->fl=true)(r:aA K Hs H fl d v As):aA K Hs H d4 d v As:=by
 cases d4 with
 |false=>exact r.Tn
 |true=>rw[h rfl] at r;exact r
def aA.at(r:aA K Hs H fl ds vs As)(e:ds[j]? = some d)(n:As.Nodup) :
  ∃ (v:V) (B:List ah),vs[j]? = some v/\ck K Hs H fl d v B/\B.Sublist As/\∀ aT H2 d4 d2 B2,bS Hs aT->(d4=true->fl=true)->ck K aT H2 d4 d2 v B2->B2.Nodup->(∀ a∈B2,a∈As->a∈B)->(∀ a∈As,a∉B->H2 a=H a) ->
   ∃ g7,g7.Nodup/\(∀ a∈g7,(a∈As/\a∉B)\/a∈B2)/\(B2≠[]->g7≠[])/\aA K aT H2 d4 (ds.set j d2) vs g7:=by
 induction ds generalizing vs As j with
 |nil=>simp at e
 |cons x ds ih =>
  obtain⟨v,us,A,B,rfl,rfl,r,rs⟩:=r.c;walk_at"d"
  cases j with
  |zero =>
   simp at e;subst e;refine⟨v,A,rfl,r,MY _ _,λaT H2 d4 d2 B2 s2 hf r2 kN dj st=>⟨B2++B,hX.mpr ⟨kN,n2,λa ha b hb e=>?_⟩,λa h=>?_,λne z=>ne (O9.mp z).1,.cons r2 ((rs.wk hf).ft s2 λa h=>st a (gu _ h) λz=>n3 a z a h rfl)⟩⟩
   ·subst e;exact n3 a (dj a ha (gu _ hb)) a hb rfl
   ·rcases dP.mp h with w|w
    ·exact .inr w
    ·exact .inl ⟨gu _ w,λz=>n3 a z a w rfl⟩
  |succ j =>
   obtain⟨v,C,a,b,c,g⟩:=ih rs (by simpa using e) n2;have hA:∀ x∈A,x∉C:=λx hx m=>n3 x hx x (c.subset m) rfl;refine⟨v,C,by simpa using a,b,c.trans (ng _ _),λaT H2 d4 d2 B2 s2 hf r2 kN dj st=>?_⟩;obtain⟨g7,x,y,w,z⟩:=g aT H2 d4 d2 B2 s2 hf r2 kN (λa ha m=>dj a ha (gu _ m)) λa ha m=>st a (gu _ ha) m;refine⟨A++g7,hX.mpr ⟨n1,x,λa ha b hb e=>?_⟩,λa h=>?_,λne q=>w ne (O9.mp q).2,.cons ((r.wk hf).ft s2 λa h=>st a (i9 _ h) (hA a h)) z⟩
   ·subst e;rcases y a hb with q|q
    ·exact n3 a ha a q.1 rfl
    ·exact hA a ha (dj a q (i9 _ ha))
   ·rcases dP.mp h with q|q
    ·exact .inl ⟨i9 _ q,hA a q⟩
    ·exact(y a q).imp (λq=>⟨gu _ q.1,q.2⟩) id
def Hx{α:Type}{xs:List α}{i:Int}{x:α}(h:gy xs i=some x):∃ j,oC xs.length i=some j/\xs[j]? = some x:=by
 unfold L2.gy at h
 cases e:oC xs.length i with
 |none=>rw[e] at h;cases h
 |some j=>rw[e] at h;exact⟨j,rfl,h⟩
def Wt(p:WP)(t:WE):WP:=λρ Q=>p ρ λfl d up=>t ρ λ_ y=>fl=true/\match y with
 |.int i=>match d with
  |.list ds=>∃ j d',oC ds.length i=some j/\ds[j]? = some d'/\d'.flat=false/\Q true d' λd4 d2=>up d4 (.list (ds.set j d2))
  |.tup ds=>∃ j d',oC ds.length i=some j/\ds[j]? = some d'/\d'.flat=false/\Q true d' λd4 d2=>up d4 (.tup (ds.set j d2))
  |_=>False
 |_=>False
def rR{α:Type}{xs:List α}{i:Int}{j:Nat}{x:α}(h:oC xs.length i=some j)(e:xs[j]? = some x):gy xs i=some x:=by unfold L2.gy;rw[h];exact e
def zM{ds:List D}{j:Nat}{d:D}(e:ds[j]? = some d)(h:d.flat=false):eP ds=false:=by
 cases q:eP ds with
 |false=>rfl
 |true=>rw[j7.mp q d (ly e)] at h;cases h
def yH{ds:List D}{j:Nat}{d d2:D}(e:ds[j]? = some d)(h:d2.flat=false):eP (ds.set j d2)=false:=by have hj:j<ds.length:=(iN.mp e).1;exact zM (j:=j) (by simp[hj]) h
def Ke{X:Cx}{a b:Expr}{p:WP}{t:WE}{pos:Pos}(ha:QP X K a p)(hb:QE X K b t)(hs:Sw b:=by exact λ_ _=>rfl)(hK:autoParam (X.K=K) bv)(hu:X.A.units+64<eR:=by assumption):QP X K (.Subscript a b pos) (Wt p t):=by
 refine PE.imp (Vw (bN' hu hK) ha hb hs) λσ H Qv hx=>kL hx λHs ρ ag Q sr h f=>?_;refine⟨Hs,ρ,ag,_,sr,h,λv H1 bI fl d up g1 p1 q1=>⟨bI,ρ,ag,_,sr.grow g1,q1,λu H2 aT m y As g2 r2 f2 q2=>?_⟩⟩;have p2:=p1.grow g2;have gg:=g1.trans g2;obtain⟨rfl,q2⟩:=q2;have ry:=r2.rep g2.wf
 cases ry with
 |int i =>
  obtain⟨hV,r,ne,nd,own,k⟩:=p2.ex
  cases r with
  |sh hf _=>exact absurd rfl ne
  |@list a0 vs0 ds0 A0 hz e rs =>
   obtain⟨j,d',e1,e2,hd,q⟩:=q2;obtain⟨na,nb⟩:=kA.mp nd;obtain⟨w,B,e3,r3,sb,g⟩:=rs.at e2 nb;refine .inl (.inl ⟨_,w,.inl (.inl e),rR (by rw[<- rs.length];exact e1) e3,f w H2 aT true d' _ gg ⟨B,r3,r3.ne hd,sb.nodup nb,λa h=>own a (c9 _ (sb.subset h)),λfP H3 Qz d3 Ov s3 w3 n3 hf r4 ne3 Wu o3 st=>?_⟩ q⟩);have ai:∀ x∈A0,x∉B->H3 x=H2 x:=λx hx m=>st x (rs.own x hx).ne m;obtain⟨Ox,x4,y4,z4,r5⟩:=g fP H3 Qz d3 Ov s3 hf r4 Wu (λa ha m=>(o3 a ha).2.elim id λq=>absurd q (rs.own a m).ne) ai;have eA:H3 a0=H2 a0:=st a0 (by rw[e];exact λz=>nomatch z) λm=>na (sb.subset m);have cl:∀ a∈Ox,fP a=none/\(a∈a0 :: A0\/H2 a=none):=λa h=>by
    rcases y4 a h with⟨m,_⟩|m
    ·exact⟨n3 a (own a (c9 _ m)) (rs.own a m).ne,.inl (c9 _ m)⟩
    ·exact⟨(o3 a m).1,(o3 a m).2.imp (λq=>c9 _ (sb.subset q)) id⟩
   refine k fP H3 Qz (.list _) (_ :: Ox) s3 w3 n3 hf (.list hz (eA.trans e) r5) (by simp) (kA.mpr ⟨λm=>?_,x4⟩) (λa h=>?_) λa h1 h2=>st a h1 λm=>h2 (c9 _ (sb.subset m))
   ·rcases y4 _ m with⟨q,_⟩|q
    ·exact na q
    ·rcases (o3 _ q).2 with q|q
     ·exact na (sb.subset q)
     ·rw[e] at q;cases q
   ·rcases eK.mp h with rfl|h
    ·exact⟨n3 _ (own _ cy) (by rw[e];exact λz=>nomatch z),.inl cy⟩
    ·exact cl a h
  |tup hz e hn rs =>
   obtain⟨j,d',e1,e2,hd,q⟩:=q2;obtain⟨w,B,e3,r3,sb,g⟩:=rs.at e2 nd;refine .inl (.inr ⟨_,w,.inl (.inl (g2.wf.sub _ _ e)),rR (by rw[<- rs.length];exact e1) e3,f w H2 aT true d' _ gg ⟨B,r3,r3.ne hd,sb.nodup nd,λa h=>own a (sb.subset h),λfP H3 Qz d3 Ov s3 w3 n3 hf r4 ne3 Wu o3 st=>?_⟩ q⟩);obtain⟨Ox,x4,y4,z4,r5⟩:=g fP H3 Qz d3 Ov s3 hf r4 Wu (λa ha m=>(o3 a ha).2.elim id λq=>absurd q (rs.own a m).ne) (λx hx m=>st x (rs.own x hx).ne m);have Kx:eP (List.set _ j d3)=false:=yH e2 (by
    cases hh:d3.flat with
    |false=>rfl
    |true=>exact absurd (r4.nil_of hh) ne3)
   refine k fP H3 Qz (.tup _) Ox s3 w3 n3 hf (.tup hz (s3 _ _ e) Kx r5) (z4 ne3) x4 (λa h=>?_) λa h1 h2=>st a h1 λm=>h2 (sb.subset m);rcases y4 a h with⟨m,_⟩|m
   ·exact⟨n3 a (own a m) (rs.own a m).ne,.inl m⟩
   ·exact⟨(o3 a m).1,(o3 a m).2.imp (λq=>sb.subset q) id⟩
  |_=>exact q2.elim
 |_=>exact q2.elim
end
section
variable {X:Cx}{K:aC}{e:Expr}{p:WP}{te:WE}{apos fe pos:Pos}
def lE(fl:Bool)(m:Md)(d:D):Option Bool:=match m with
 |.sh=>some (fl && d.flat)
 |.ow b=>some (fl && b)
 |_=>bif d.flat then some fl else none
def G0(p:WP)(te:WE):WS:=λE ρ=>p ρ λfl d up=>match d with
 |.list xs=>te ρ λm x=>xs.length<bq/\match lE fl m x with
  |some d4=>E.nx (up d4 (.list (xs++[x])))
  |none=>False
 |_=>False
def z9(w:Wf Hs H)(r:RM K Hs H m d v As)(h:lE fl m d=some d4):(d4=true->fl=true)/\∃ B,B.Sublist As/\ck K Hs H d4 d v B:=by
 cases m with
 |sh =>cases h;exact⟨λz=>by cases fl<;>simp_all,[],Fn _,.sh (λz=>by cases fl<;>simp_all) r.2⟩
 |ow b =>cases h;refine⟨λz=>by cases fl<;>simp_all,As,List.Sublist.refl _,r.1.wk λz=>by cases fl<;>simp_all⟩
 |_ =>
  cases hf:d.flat with
  |true =>simp only[lE,hf,cond_true,Option.some.injEq] at h;subst h;exact⟨id,[],Fn _,.sh (λ_=>hf) (r.flat w hf)⟩
  |false=>simp[lE,hf] at h
def Place.put(pl:Place K bI H1 σ fl (.list xs) v up)(g:fE bI H1 aT H2) :
  ∃ a vs A,v=.ref a/\H2 a=some (.lst vs)/\H1 a=some (.lst vs)/\aA K aT H2 fl xs vs A/\(a :: A).Nodup/\(∀ x∈a :: A,aT x=none/\H1 x≠none) /\
   ∀ d4 ys ws C,(d4=true->fl=true)->aA K aT H2 d4 ys ws C->ws.length<=bq->C.Nodup->a∉C->(∀ x∈C,x∈A\/(aT x=none/\H1 x=none))->∃ fo,fm K aT (up d4 (.list ys)) σ (upd H2 a (.lst ws)) fo:=by
 obtain⟨hV,r,ne,nd,own,k⟩:=pl.ex
 cases r with
 |sh hf _=>exact absurd rfl ne
 |@list a vs _ A hz e rs =>
  have e2:=g.all _ _ e;have TK:=rs.grow g.sh g.all;have hw:∀ x∈a :: A,bI x=none/\H1 x≠none:=λx hx=>⟨own x hx,by
   rcases eK.mp hx with rfl|hx
   ·rw[e];exact λz=>nomatch z
   ·exact(rs.own x hx).ne⟩
  exact⟨a,vs,A,rfl,e2,e,TK,nd,λx hx=>⟨g.mn (hw x hx).1 (hw x hx).2,(hw x hx).2⟩,λd4 ys ws C hf k5 hz ndC TJ hC=>k.node g hw (λ_ z=>by cases z) hf (.list hz hG (k5.ft (bS.refl _) λb hb=>fq λz=>TJ (by subst z;exact hb))) ndC TJ hC⟩
def Place.Wv(w:Wf bI H1)(pl:Place K bI H1 σ fl (.list xs) v up):∃ a vs,v=.ref a/\fw K H1 a vs:=by
 obtain⟨hV,r,ne,nd,own,k⟩:=pl.ex
 cases r with
 |sh hf _=>exact absurd rfl ne
 |list hz e rs=>exact⟨_,_,rfl,.inl (.inl e)⟩
def o_ (ho:QP X K e p) (he:QE X K e2 te) (hK:autoParam (X.K=K) bv) (hs:autoParam (sN (.Call (.Attribute e "append" apos) [e2] [] fe) none pos.line X.env=pure false) bv) (vk:autoParam (AW e "append" X.env (df e X.env)=df e X.env) bv) (vn:autoParam (((kQ fe (b6 [e2] X.env)).all (λx=>!x.1) && (backToKw fe (D2 [] X.env)).all (λx=>x.1.isSome)
   && decide ([e2].length+([]:List pS).length+(if ([]:List pS).isEmpty then 0 else 1)<30))=true) bv)
  (hline:autoParam ((apos.endLine == fe.line)=true) bv) (xl:autoParam (b6 (e2 :: []) X.env=(false,df e2 X.env) :: b6 [] X.env) bv) (Bn:autoParam ((kQ fe (b6 [] X.env)).any (·.1)=false) bv) :
  QS X K L (.Expr (.Call (.Attribute e "append" apos) [e2] [] fe) pos) (G0 p te):=by
 subst hK;refine PS.imp (NV (Oc PySem.F.plainAttrs_list PySem.F.slot_list_append PySem.F.type_list_append SG ho (u0 he x8 xl) vk vn hline xl Bn) hs) λD σ H hx=>cz hx λHs ρ ag E sr h k1 k2 k3 k4=>?_;walk_at"w"
 cases d with
 |list xs =>
  obtain⟨a1,vs1,e1,s1⟩:=p1.Wv g1.wf;subst e1;refine⟨.inl ⟨rfl,_,s1⟩,bI,ρ,ag,_,sr.grow g1,q1,λy H2 aT m x As g2 r2 f2 q2=>?_⟩;obtain⟨hz,q2⟩:=q2;obtain⟨a,vs,A,ea,e2,_,rs,nd,hn,k⟩:=p1.put g2;cases ea;have hl:=rs.length;refine⟨a1,vs,y,rfl,rfl,e2,by lia,?_⟩
  cases hp:lE fl m x with
  |none=>rw[hp] at q2;exact q2.elim
  |some d4 =>
   rw[hp] at q2;obtain⟨hf,B,sb,rb⟩:=z9 g2.wf r2 hp;obtain⟨na,nA⟩:=kA.mp nd;have fB:∀ x∈B,aT x=none/\H1 x=none:=λx hx=>f2.2 x (sb.subset hx);have c1:(A++(B++[])).Nodup:=by rw[sP];exact hX.mpr ⟨nA,sb.nodup f2.1,λx hx z hz e=>by subst e;exact(hn x (c9 _ hx)).2 (fB x hz).2⟩
   have c2:a1∉A++(B++[]):=by
    rw[sP];intro m;rcases dP.mp m with m|m
    ·exact na m
    ·exact(hn _ cy).2 (fB _ m).2
   have c3:∀ x∈A++(B++[]),x∈A\/(aT x=none/\H1 x=none):=by rw[sP];intro x hx;exact(dP.mp hx).imp id λz=>fB x z
   obtain⟨fo,iE⟩:=k d4 (xs++[x]) (vs++[y]) (A++(B++[])) hf ((rs.wk hf).append (.cons rb .nil)) (by rw[kz];simp;lia) c1 c2 c3;exact k1 σ _ aT _ fo (g1.sh.trans g2.sh) iE q2
 |_=>exact q1.elim
def qu:WE:=λ_ Q=>Q (.ow true) (.dT [])
def rC:QE X K (.Dict [] [] pos) qu:=PE.imp gp' λσ H Qv hx=>kL hx λHs ρ ag Q sr h f=>λa ha =>
 f _ _ Hs (.ow true) (.dT []) [a] (Ot sr.wf ha λ_ z=>nomatch z) ⟨.dT ⟨fI _,λp hp=>nomatch hp⟩ hG .nil,by simp⟩ ⟨by simp,λb hb=>by
  obtain rfl:b=a:=by simpa using hb
  exact⟨sr.wf.sub.free ha,ha⟩⟩ h
section
variable {κ:Type}[DecidableEq κ]
def xP{Hs H:Hp}{fl:Bool}{k:κ}{d:D}{v:V}(r:ck K Hs H fl d v []){kvs:List (κ × D)}{vs:List V}{As:List ah}(qs:aA K Hs H fl (kvs.map (·.2)) vs As):∃ ws Bs,Bs.Sublist As /\
  aA K Hs H fl ((kvs.map λkv=>if kv.1=k then (kv.1,d) else kv).map (·.2)) ws Bs/\((kvs.map (·.1)).zip vs).map (λkv=>if kv.1=k then (kv.1,v) else kv)=(((kvs.map λkv=>if kv.1=k then (kv.1,d) else kv)).map (·.1)).zip ws:=by
 induction kvs generalizing vs As with
 |nil=>exact⟨[],[],Fn _,.nil,rfl⟩
 |cons p kvs ih =>
  obtain⟨u,vs,A,B,rfl,rfl,q,qs⟩:=aA.c qs;obtain⟨ws,Bs,sb,rs,e⟩:=ih qs;by_cases h:p.1=k
  ·refine⟨v :: ws,[]++Bs,by simpa using sb.trans (ng _ _),?_,?_⟩
   ·simp only[fS,h,if_true];exact .cons r rs
   ·simp only[fS,M0,h,if_true,e]
  ·refine⟨u :: ws,A++Bs,sb.append_left _,?_,?_⟩
   ·simp only[fS,h,if_false];exact .cons q rs
   ·simp only[fS,M0,h,if_false,e]
def t7{Hs H:Hp}{fl:Bool}{k:κ}{d:D}{v:V}(r:ck K Hs H fl d v []){kvs:List (κ × D)}{vs:List V}{As:List ah}(q:aA K Hs H fl (kvs.map (·.2)) vs As) :
  ∃ ws Bs,Bs.Sublist As/\aA K Hs H fl ((gX kvs k d).map (·.2)) ws Bs/\putK ((kvs.map (·.1)).zip vs) k v=((gX kvs k d).map (·.1)).zip ws:=by
 have hl:=q.length;rw[b9] at hl;unfold putK gX;rw[E_ hl]
 cases h:kvs.any λkv=>decide (kv.1=k) with
 |true =>exact xP r q
 |false =>
  simp only[sR,if_false];refine⟨vs++[v],As++([]++[]),by simp,?_,?_⟩
  ·rw[qB];exact q.append (.cons r .nil)
  ·rw[qB,List.zip_append (by rw[b9];exact hl)];rfl
def wO{Hs H:Hp}{fl:Bool}{k:κ}{d:D}{v:V}(r:Rep K Hs d v)(hd:d.flat=true){kvs:List (κ × D)}{vs:List V}{As:List ah}(q:aA K Hs H fl (kvs.map (·.2)) vs As) :
  ∃ ws Bs,Bs.Sublist As/\aA K Hs H fl ((gX kvs k d).map (·.2)) ws Bs/\putK ((kvs.map (·.1)).zip vs) k v=((gX kvs k d).map (·.1)).zip ws:=t7 (.sh (λ_=>hd) r) q
def bW{β:Type}(kvs:List (κ × β))(k:κ)(v:β):(gX kvs k v).length<=kvs.length+1:=by
 unfold gX;split
 ·rw[b9];exact Nat.le_add_right _ _
 ·simp
def jf{β:Type}{kvs:List (κ × β)}{k:κ}{v:β}{p:κ × β}(h:p∈gX kvs k v):p.1=k\/p.1∈kvs.map (·.1):=by
 unfold gX at h;split at h
 ·obtain⟨q,hq,e⟩:=bT.mp h;by_cases hk:q.1=k
  ·rw[if_pos hk] at e;subst e;exact .inl hk
  ·rw[if_neg hk] at e;subst e;exact .inr (bT.mpr ⟨q,hq,rfl⟩)
 ·rcases dP.mp h with h|h
  ·exact .inr (bT.mpr ⟨p,h,rfl⟩)
  ·have:p=(k,v):=by simpa using h
   subst this;exact .inl rfl
end
def kO(p:WP)(tk tv:WE):WS:=λE ρ=>tv ρ λ_ x=>p ρ λfl d up=>tk ρ λ_ y=>x.flat=true/\match d with
 |.dK kvs=>∃ k,y.key1=some k/\kvs.length<bq/\E.nx (up fl (.dK (gX kvs k x)))
 |.dT kvs=>match y with
  |.tup ys=>∃ ks,dW ys=some ks/\kvs.length<bq/\E.nx (up fl (.dT (gX kvs ks x)))
  |_=>False
 |_=>False
def jr(r:Rep K H d v)(h:d.key1=some k):BG k=true:=by
 cases r<;>simp[D.key1] at h<;>subst h
 ·rfl
 ·rename_i hz;simp[BG,hz]
def tY(r:b4 K H ds vs)(h:dW ds=some ks):ks.length=ds.length/\∀ k∈ks,BG k=true:=by
 induction ds generalizing vs ks with
 |nil=>simp[dW] at h;subst h;exact⟨rfl,λk hk=>nomatch hk⟩
 |cons d ds ih =>
  obtain⟨u,us,rfl,r,rs⟩:=r.c;unfold dW at h
  cases e1:d.key1 with
  |none=>rw[e1] at h;simp at h
  |some k =>
   cases e2:dW ds with
   |none=>rw[e1,e2] at h;simp at h
   |some dQ =>
    rw[e1,e2] at h;simp at h;subst h;obtain⟨a,b⟩:=ih rs e2;refine⟨by simp[a],λj hj=>?_⟩;rcases eK.mp hj with rfl|hj
    ·exact jr r e1
    ·exact b j hj
def eV{a b c:Expr}{tk tv:WE}{pos':Pos}(ho:QP X K a p)(hi:QE X K b tk)(hv:QE X K c tv)(hs:autoParam (sN c (some (.Subscript a b pos')) pos.line X.env=pure false) bv)(hu:X.A.units+64<eR:=by assumption) :
  QS X K L (.Assign [.Subscript a b pos'] c pos) (kO p tk tv):=by
 refine PS.imp (aF' (by lia) ho hi hv hs) λD σ H hx=>cz hx λHs ρ ag E sr h k1 k2 k3 k4=>?_;walk_at"k";obtain⟨hx,q3⟩:=q3;have rx:Rep K fP x v:=((r1.grow g2).grow g3).flat g3.wf hx;have ry:=r3.rep g3.wf;obtain⟨hV,r,ne,nd,own,k⟩:=p2.ex;have sm:bS Hs fP:=(g1.sh.trans g2.sh).trans g3.sh;have lv:∀ x∈hV,aT x=none/\H2 x≠none:=λx hx=>⟨own x hx,(r.own x hx).ne⟩
 cases r with
 |sh hf _=>exact absurd rfl ne
 |@dK a0 vs kvs A kk e rs =>
  obtain⟨key,hk,hz,q⟩:=q3;have ey:=ry.key hk;subst ey;obtain⟨na,nA⟩:=kA.mp nd;obtain⟨ws,Bs,sb,k5,ew⟩:=wO rx hx (rs.grow g3.sh g3.all);have hl:kvs.length=vs.length:=by have:=rs.length;rwa[b9] at this
  refine⟨a0,_,rfl,EH.k (g3.all _ _ e) (by rw[Nn,b9,<- hl,NF];exact hz),?_⟩;rw[ew];have nB:a0∉Bs:=λz=>na (sb.subset z);obtain⟨fo,iE⟩:=k.node g3 lv (λ_ z=>by cases z) id (.dK ⟨iS (bW _ _ _) hz,λp hp=>(jf hp).elim (λz=>by rw[z];exact jr ry hk) λz=>by obtain⟨p',fz,e'⟩:=bT.mp z;rw[<- e'];exact kk.2 p' fz⟩ hG (k5.ft (bS.refl _) λb hb=>fq λz=>nB (by subst z;exact hb))) (sb.nodup nA) nB λb hb=>.inl (sb.subset hb)
  exact k1 σ _ fP _ fo sm iE q
 |@dT a0 vs kvs A kk e rs =>
  cases ry with
  |tup t1 e1 OD =>
   obtain⟨key,hk,hz,q⟩:=q3;obtain⟨b,eb,e5⟩:=Rep.kg (.tup t1 e1 OD) hk;cases eb;obtain⟨kl,ko⟩:=tY OD hk;obtain⟨na,nA⟩:=kA.mp nd;obtain⟨ws,Bs,sb,k5,ew⟩:=wO rx hx (rs.grow g3.sh g3.all);have hl:kvs.length=vs.length:=by have:=rs.length;rwa[b9] at this
   refine⟨a0,_,rfl,EH.t (g3.all _ _ e) e5 (by rw[Nn,b9,<- hl,NF];exact hz),?_⟩;rw[ew];have nB:a0∉Bs:=λz=>na (sb.subset z);have l1:=OD.length;obtain⟨fo,iE⟩:=k.node g3 lv (λ_ z=>by cases z) id (.dT ⟨iS (bW _ _ _) hz,λp hp=>(jf hp).elim (λz=>by rw[z];exact⟨by lia,ko⟩) λz=>by obtain⟨p',fz,e'⟩:=bT.mp z;rw[<- e'];exact kk.2 p' fz⟩ hG (k5.ft (bS.refl _) λb hb=>fq λz=>nB (by subst z;exact hb))) (sb.nodup nA) nB λb hb=>.inl (sb.subset hb)
   exact k1 σ _ fP _ fo sm iE q
  |_=>exact q3.elim
 |_=>exact q3.elim
end
abbrev WJ:=Env->Str->(Str->Prop)->Prop
section
variable {X:Cx}{K:aC}{e:Expr}{j:WJ}
def J4:List D->Option (List Str)
 |[]=>some []
 |.str x :: xs=>(J4 xs).map (x :: ·)
 |_ :: _=>none
def kg(k:List Key):D:=.tup (k.map kM)
def pR:W1:=λ_ x Q=>match x with
 |.list xs=>∃ ks sh,xs=ks.map kg/\(∀ k∈ks,ic k=true :: sh)/\∀ ms:List (List Key),ms.Perm ks->(ms.Pairwise λa b=>fA b a=false)->Q (.ow true) (.list (ms.map kg))
 |_=>False
def mF{H:Hp}{ks:List Key}{vs:List V}(r:b4 K H (ks.map kM) vs):vs=ks.map kV/\∀ k∈ks,BG k=true:=by
 induction ks generalizing vs with
 |nil=>exact⟨r.n0,λk h=>nomatch h⟩
 |cons k ks ih =>
  obtain⟨u,us,rfl,r1,rs⟩:=b4.c r;obtain⟨e,o⟩:=ih rs;subst e
  cases k with
  |inl i=>cases r1;exact⟨rfl,λj hj=>by rcases eK.mp hj with rfl|hj;rfl;exact o j hj⟩
  |inr x =>
   cases r1 with
   |str hz=>exact⟨rfl,λj hj=>by rcases eK.mp hj with rfl|hj;simp[BG,hz];exact o j hj⟩
def mj{H:Hp}{ks:List (List Key)}{vs:List V}(r:b4 K H (ks.map kg) vs):bB H vs ks/\∀ k∈ks,k.length<=bq/\∀ j∈k,BG j=true:=by
 induction ks generalizing vs with
 |nil=>rw[r.n0];exact⟨.nil,λk h=>nomatch h⟩
 |cons k ks ih =>
  obtain⟨u,us,rfl,r1,rs⟩:=b4.c r;obtain⟨t,o⟩:=ih rs
  cases r1 with
  |tup hz e q =>
   obtain⟨e2,o2⟩:=mF q;subst e2;exact⟨.cons ⟨_,rfl,e⟩ t,λj hj=>by
    rcases eK.mp hj with rfl|hj
    ·exact⟨by simpa using hz,o2⟩
    ·exact o j hj⟩
def l_:DI K (tH K) pR:=by
 walk_at"e";have r1:=rx.rep w
 cases r1 with
 |list z s q =>obtain⟨ks,sh,rfl,hs,h⟩:=h;obtain⟨ta,ok⟩:=mj q;have hl:=q.length;rw[b9] at hl;refine⟨_,ks,sh,s,ta,hs,λzs ms l tz pm pw LN=>?_⟩;have rr:=gF (K:=K) tz λk hk=>ok k (pm.mem_iff.mp hk);exact f.lst w (by rw[b9,pm.length_eq];lia) rr (du ms) (h ms pm pw) l LN
 |_=>exact h.elim
def yV (hK:autoParam (X.K=K) bv):lT X (.builtin "sorted") (tH K):=by subst hK;exact vG
def bF:ll "sorted" = some (.builtin "sorted"):=by decide +kernel
end
def shF(A:List ah)(F:Nat->List ah):Nat->List ah
 |0=>A
 |i+1=>F i
def LP(K:aC)(Hs H:Hp)(ρ:Env)(σ:St)(ag:List ah)(F:Nat->List ah):Prop:=(∀ i fl d,ρ[i]? = some (some (.ow fl d))->∃ v,σ[i]? = some (some v)/\F i≠[]/\ck K Hs H fl d v (F i)) /\ (∀ i,(F i).Sublist ag)/\∀ i j,i≠j->∀ a∈F i,a∉F j
def LP.skip{K:aC}{F:Nat->List ah}(h:LP K Hs H ρ σ ag F)(no:∀ fl d,o≠some (.ow fl d)):LP K Hs H (o :: ρ) (u :: σ) ag (shF [] F):=by
 obtain⟨a,b,c⟩:=h;refine⟨λi fl d e=>?_,λi=>?_,λi j ne x hx=>?_⟩
 ·cases i with
  |zero=>simp at e;exact absurd e (no fl d)
  |succ i=>exact a i fl d (by simpa using e)
 ·cases i with
  |zero=>exact Fn _
  |succ i=>exact b i
 ·cases i with
  |zero=>exact xi hx
  |succ i =>
   cases j with
   |zero=>exact λz=>xi z
   |succ j=>exact c i j (λz=>ne (by rw[z])) x hx
def LP.own{K:aC}{ag B:List ah}{F:Nat->List ah}(h:LP K Hs H ρ σ ag F)(n:(B++ag).Nodup)(hs:∀ fl d,sl=.ow fl d->B≠[]/\ck K Hs H fl d v B):LP K Hs H (some sl :: ρ) (some v :: σ) (B++ag) (shF B F):=by
 obtain⟨a,b,c⟩:=h;walk_at"d";refine⟨λi fl d e=>?_,λi=>?_,λi j ne x hx=>?_⟩
 ·cases i with
  |zero=>simp at e;exact⟨v,rfl,hs fl d e⟩
  |succ i=>exact a i fl d (by simpa using e)
 ·cases i with
  |zero=>exact MY _ _
  |succ i=>exact(b i).trans (ng _ _)
 ·cases i with
  |zero =>
   cases j with
   |zero=>exact absurd rfl ne
   |succ j=>exact λz=>n3 x hx x ((b j).subset z) rfl
  |succ i =>
   cases j with
   |zero=>exact λz=>n3 x z x ((b i).subset hx) rfl
   |succ j=>exact c i j (λz=>ne (by rw[z])) x hx
def SR.addrs{K:aC}(s:SR K Hs H ρ σ ag):ag.Nodup->∃ F:Nat->List ah,LP K Hs H ρ σ ag F:=by
 induction s with
 |nil=>exact λ_=>⟨λ_=>[],λi fl d e=>by simp at e,λi=>Fn _,λi j _ a h=>xi h⟩
 |non s ih =>intro n;obtain⟨F,h⟩:=ih n;exact⟨_,h.skip λfl d z=>by cases z⟩
 |sh r s ih =>intro n;obtain⟨F,h⟩:=ih n;exact⟨_,h.skip λfl d z=>by cases z⟩
 |xc s ih =>intro n;obtain⟨F,h⟩:=ih n;exact⟨_,h.skip λfl d z=>by cases z⟩
 |ow ne r s ih =>intro n;obtain⟨F,h⟩:=ih (hX.mp n).2.1;exact⟨_,h.own n λfl d e=>by cases e;exact⟨ne,r⟩⟩
 |lk ne r s ih =>intro n;obtain⟨F,h⟩:=ih (hX.mp n).2.1;exact⟨_,h.own n λfl d e=>by cases e⟩
 |ob r s ih =>intro n;obtain⟨F,h⟩:=ih (hX.mp n).2.1;exact⟨_,h.own n λfl d e=>by cases e⟩
abbrev Plan:=List (WE ⊕ Nat)
def TL:Plan->List Nat
 |[]=>[]
 |.inl _ :: r=>TL r
 |.inr i :: r=>i :: TL r
def TN:Option (Option Sl)->Option (Md × D)
 |some (some (.sh d))=>some (.sh,d)
 |some (some (.ow fl d))=>some (.ow fl,d)
 |_=>none
def jV:Plan->Env->(List (Md × D)->Prop)->Prop
 |[],_,Q=>Q []
 |.inl t :: r,ρ,Q=>t ρ λm x=>jV r ρ λps=>Q ((m,x) :: ps)
 |.inr i :: r,ρ,Q=>match TN ρ[i]? with
  |some p=>jV r ρ λps=>Q (p :: ps)
  |none=>False
def tpM(K:aC)(pl:Plan):TA:=λσ H Qv=>∃ (Hs:Hp) (ρ:Env) (ag:List ah) (F:Nat->List ah) (Q:List (Md × D)->Prop),fm K Hs ρ σ H ag/\(∀ i fl d,ρ[i]? = some (some (.ow fl d))->∃ v,σ[i]? = some (some v)/\F i≠[]/\ck K Hs H fl d v (F i))/\(∀ i,(F i).Sublist ag)/\(∀ i j,i≠j->∀ a∈F i,a∉F j) /\
 jV pl ρ Q/\∀ vs H' ay ps As,fE Hs H ay H'->BH K ay H' ps vs As->As.Nodup->(∀ a∈As,ay a=none/\(H a=none\/∃ i∈TL pl,a∈F i))->Q ps->Qv vs H'
abbrev QM(X:Cx)(K:aC)(es:List Expr)(pl:Plan):Prop:=PA X es (tpM K pl)
section
variable {X:Cx}{K:aC}{e:Expr}{es:List Expr}{te:WE}{pl:Plan}{pos:Pos}
def uf:QM X K [] []:=PA.imp x8 λσ H Qv hx=>by obtain⟨Hs,ρ,ag,F,Q,sr,h1,h2,h3,h,f⟩:=hx;exact f [] H Hs [] [] (fE.refl sr.wf) .nil oy (λa h=>xi h) h
def TQ(ha:QE X K e te)(hr:QM X K es pl)(hs:autoParam (b6 (e :: es) X.env=(false,df e X.env) :: b6 es X.env) bv):QM X K (e :: es) (.inl te :: pl):=by
 refine PA.imp (u0 ha hr hs) λσ H Qv eM=>?_;obtain⟨Hs,ρ,ag,F,Q,sr,h1,h2,h3,h,f⟩:=eM;refine⟨Hs,ρ,ag,_,sr,h,λv H1 bI m x As g1 r1 f1 q1=>⟨bI,ρ,ag,F,_,sr.grow g1,(λi fl d e=>?_),h2,h3,q1,λvs H2 aT ps Bs g2 r2 kN o2 q2=>?_⟩⟩
 ·obtain⟨v,a,b,c⟩:=h1 i fl d e;exact⟨v,a,b,c.grow g1.sh g1.all⟩
 ·refine f (v :: vs) H2 aT _ _ (g1.trans g2) (.cons (r1.grow g2) r2) (hX.mpr ⟨f1.1,kN,λa ha b hb e=>?_⟩) (λa ha=>?_) q2
  ·subst e;rcases (o2 a hb).2 with z|⟨i,_,z⟩
   ·exact(r1.own a ha).ne z
   ·exact(sr.sr.own a ((h2 i).subset z)).ne (f1.2 a ha).2
  ·rcases dP.mp ha with z|z
   ·exact⟨g2.mn (f1.2 a z).1 (r1.own a z).ne,.inl (f1.2 a z).2⟩
   ·exact⟨(o2 a z).1,(o2 a z).2.imp g1.all.free id⟩
def TR(ha:PE X e (ED i))(hr:QM X K es pl)(hi:i∉TL pl:=by decide)(hs:autoParam (b6 (e :: es) X.env=(false,df e X.env) :: b6 es X.env) bv):QM X K (e :: es) (.inr i :: pl):=by
 refine PA.imp (u0 ha hr hs) λσ H Qv eM=>?_;obtain⟨Hs,ρ,ag,F,Q,sr,h1,h2,h3,h,f⟩:=eM;unfold jV at h
 cases hm:TN ρ[i]? with
 |none=>rw[hm] at h;exact h.elim
 |some p =>
  rw[hm] at h;have key:∃ v A,σ[i]? = some (some v)/\RM K Hs H p.1 p.2 v A/\A.Nodup/\∀ a∈A,a∈F i:=by
   cases e1:ρ[i]? with
   |none=>rw[e1] at hm;cases hm
   |some o =>
    cases o with
    |none=>rw[e1] at hm;cases hm
    |some sl =>
     cases sl with
     |sh d =>rw[e1] at hm;cases hm;obtain⟨v,a,b⟩:=sr.sr.get e1;exact⟨v,[],a,⟨rfl,b⟩,oy,λa h=>nomatch h⟩
     |lk a fl d=>rw[e1] at hm;cases hm
     |xc a=>rw[e1] at hm;cases hm
     |ob a p=>rw[e1] at hm;cases hm
     |ow fl d =>rw[e1] at hm;cases hm;obtain⟨v,a,b,c⟩:=h1 i fl d e1;exact⟨v,F i,a,⟨c,b⟩,(h2 i).nodup sr.rS,λa h=>h⟩
  obtain⟨v,A,ev,rm,LS,hA⟩:=key;refine⟨v,ev,Hs,ρ,ag,F,_,sr,h1,h2,h3,h,λvs H2 aT ps Bs g2 r2 kN o2 q2=>?_⟩;refine f (v :: vs) H2 aT _ _ g2 (.cons (rm.grow g2) r2) (hX.mpr ⟨LS,kN,λa ha b hb e=>?_⟩) (λa ha=>?_) q2
  ·subst e;rcases (o2 a hb).2 with z|⟨j,hj,z⟩
   ·exact(rm.own a ha).ne z
   ·exact h3 i j (λz=>hi (by rw[z];exact hj)) a (hA a ha) z
  ·rcases dP.mp ha with z|z
   ·have:a∈ag:=(h2 i).subset (hA a z);exact⟨g2.mn (sr.own a this) (sr.sr.own a this).ne,.inr ⟨i,cy,hA a z⟩⟩
   ·exact⟨(o2 a z).1,(o2 a z).2.imp id λ⟨j,hj,q⟩=>⟨j,c9 _ hj,q⟩⟩
def uV(pl:Plan):WS:=λE ρ=>jV pl ρ λps=>ps.length<=bq/\E.rt (vV ps) (.tup (ps.map (·.2)))
def mO{x1}(h:QM X K es pl):QS X K L (.Return (some (.Tuple es x1 mt')) pos) (uV pl):=by
 refine PS.imp (U_ (ae' h)) λD σ H hx=>cz hx λHs ρ ag E sr h k1 k2 k3 k4=>?_;obtain⟨F,h1,h2,h3⟩:=sr.sr.addrs sr.rS;refine⟨Hs,ρ,ag,F,_,sr,h1,h2,h3,h,λvs H1 bI ps As g1 r1 Ww o1 q1=>?_⟩;obtain⟨hz,q⟩:=q1;have rl:=r1.reps g1.wf;have hl:=rl.length;rw[b9] at hl;refine⟨by lia,λp hp=>?_⟩;have g2:=To (vs:=vs) g1.wf hp;have sm:bS Hs (upd bI p (.tup vs)):=g1.sh.trans g2.sh;unfold vV at q
 cases e1:ps.all BI with
 |true =>rw[e1] at q;exact k4 _ _ _ .sh _ [] sm g2.wf ⟨rfl,.tup (by lia) hG ((r1.sh g1.wf e1).same g2.sh)⟩ oy (λa h=>nomatch h) q
 |false =>
  rw[e1] at q
  cases e2:ps.all LH with
  |false =>rw[e2] at q;exact k4 _ _ _ .bo _ [] sm g2.wf ⟨rfl,.tup (by lia) hG (rl.same g2.all)⟩ oy (λa h=>nomatch h) q
  |true =>
   rw[e2] at q;obtain⟨Bs,sb,nz,ro⟩:=r1.ow g1.wf e2 λz=>z;have gL:eP (ps.map (·.2))=false:=by
    cases hf:eP (ps.map (·.2)) with
    |false=>rfl
    |true=>rw[nj hf] at e1;cases e1
   exact k4 _ _ _ (.ow _) _ Bs sm g2.wf ⟨.tup (by lia) hG gL (ro.grow g2.sh g2.all),nz e1⟩ (sb.nodup Ww) (λa ha=>g2.mn (o1 a (sb.subset ha)).1 (ro.own a ha).ne) q
end
def bW':jS:=λds Q=>∃ ns:List Int,ds=[.list (ns.map .int)]/\ns.length<=63/\∀ m,Q m (.bl true)
theorem ints_rep{K:aC}:∀ (ns:List Int),b4 K H (ns.map .int) (ns.map V.int)
 |[]=>.nil
 |n :: ns=>.cons (.int n) (ints_rep ns)
def Al{K:aC}{H:Hp}{a:ah}{ns:List Int}{E:XK}(hl:ns.length<=63)(hS:fw K H a (ns.map V.int)):fG K bW' [.ref a] H (λv _=>v=.bl true) E:=by refine⟨[.list (ns.map .int)],λ_ d=>d=.bl true,.cons (.list (by rw[b9];exact iS hl (by decide)) hS (ints_rep ns)) .nil,⟨ns,rfl,hl,λ_=>rfl⟩,?_⟩;intro v H' ay m d As s w r nd own q;subst q;have:=r.rep w;cases this;rfl
abbrev sg(x:Str):List Nat:=x.cps.toList
def Cg(x y:Str):sg (x++y)=sg x++sg y:=by show(x.cps++y.cps).toList=_;simp[sg]
def empty_app(x:Str):Str.empty++x=x:=ym (by rw[<- sg,Cg];rfl)
def okS(x:Str):Prop:=∀ c∈sg x,c<0x110000
def Gb(x:Str):PyData.strOk x=true↔okS x:=by unfold PyData.strOk okS sg;rw[Array.all_eq_true'];simp
def iQ'{α:Type}(x:α)(l:List α):gy (x :: l) 0=some x:=by simp[L2.gy,oC]
def iR'{α:Type}(x y:α)(l:List α):gy (x :: y :: l) 1=some y:=by have:=PQ (xs:=x :: y :: l) (j:=1) rfl;exact this
def iS'{α:Type}(x y z:α)(l:List α):gy (x :: y :: z :: l) 2=some z:=by have:=PQ (xs:=x :: y :: z :: l) (j:=2) rfl;exact this
def Hz:Str.empty.length=0:=by decide
end L2.Q
namespace L2.Q.R
section
variable {f:D->Prop}{k:Kt f}
def Mi:cE .non k=f .non:=rfl
def NT:cE (.bl b) k=f (.bl b):=rfl
def Mj:cE (.int i) k=f (.int i):=rfl
def K3:cE (.str x) k=f (.str x):=rfl
def JL:cE (.list xs) k=f (.list xs):=rfl
def Ml:cE (.tup xs) k=f (.tup xs):=rfl
def Ng:cE (.dK xs) k=f (.dK xs):=rfl
def M8:cE (.dT xs) k=f (.dT xs):=rfl
end
def Js{f:Bool->Prop}{k:Kt f}:cE true k=f true:=rfl
def Jf{f:Bool->Prop}{k:Kt f}:cE false k=f false:=rfl
def K6{d:D}{f:Md × D->Prop}{k:Kt f}:cE (Md.sh,d) k=f (.sh,d):=rfl
def Lk{b:Bool}{d:D}{f:Md × D->Prop}{k:Kt f}:cE (Md.ow b,d) k=f (.ow b,d):=rfl
def Lr{d:D}{f:Option Sl->Prop}{k:Kt f}:cE (some (.sh d)) k=f (some (.sh d)):=rfl
def Ln{b:Bool}{d:D}{f:Option Sl->Prop}{k:Kt f}:cE (some (.ow b d)) k=f (some (.ow b d)):=rfl
def LK{p:Md × D}{f:Option (Md × D)->Prop}{k:Kt f}:cE (some p) k=f (some p):=rfl
def Mt{p:Bool}{f:Option Bool->Prop}{k:Kt f}:cE (some p) k=f (some p):=rfl
def K8{d:D}{f:Option (Option Sl)->Prop}{k:Kt f}:cE (some (some (.sh d))) k=f (some (some (.sh d))):=rfl
def KN{b:Bool}{d:D}{f:Option (Option Sl)->Prop}{k:Kt f}:cE (some (some (.ow b d))) k=f (some (some (.ow b d))):=rfl
section
variable {E:qU}{ρ:Env}{Q:Md->D->Prop}{B:Bool->Prop}{t u:WS}{te ta tb tc:WE}{tt tu:WT}{tar:WA}{i j n:Nat}{m m':Md}{d d':D}{sp:jS}{p:WP}{R:List (Md × D)->Prop}
def L_:cI E ρ=E.nx ρ:=rfl
def Mv:dr t u E ρ=t { E with nx:=u E } ρ:=rfl
def NP:nL te E ρ=te ρ E.rt:=rfl
def KZ:yD te E ρ=te ρ λ_ _=>E.nx ρ:=rfl
def put(sl:Option Sl)(k:Sl->Prop):Prop:=match sl with
 |some s=>k s
 |none=>False
def K5:put (some (.sh d)) k=k (.sh d):=rfl
def Lb:put (some (.ow b d)) k=k (.ow b d):=rfl
def Ms:fR i te E ρ=te ρ λm d=>cE (asg m d) (f:=λo=>put o λsl=>E.nx (ρ.set i (some sl))) ⟨⟩:=rfl
def Nk:mM tt t u E ρ=tt ρ λb=>cE b (f:=λb=>if b=true then t E ρ else u E ρ) ⟨⟩:=rfl
def Kc:lW E ρ=False:=rfl
def KR:pP i E ρ=cE ρ[i]? (f:=λo=>match o with
 |some (some (.sh d))=>E.rt .sh d
 |some (some (.ow fl d))=>E.rt (.ow fl) d
 |_=>False) ⟨⟩:=rfl
def KY:uV pl E ρ=jV pl ρ λps=>ps.length<=bq/\E.rt (vV ps) (.tup (ps.map (·.2))):=rfl
def Ja:jV [] ρ R=R []:=rfl
def JW:jV (.inl te :: r) ρ R=te ρ λm x=>jV r ρ λps=>R ((m,x) :: ps):=rfl
def mov(o:Option (Md × D))(k:Md × D->Prop):Prop:=match o with
 |some p=>k p
 |none=>False
def Ji{p:Md × D}{k:Md × D->Prop}:mov (some p) k=k p:=rfl
def Jt:jV (.inr i :: r) ρ R=cE (TN ρ[i]?) (f:=λo=>mov o λp=>jV r ρ λps=>R (p :: ps)) ⟨⟩:=rfl
def Mq:ki i t E ρ=t E (Qw i ρ):=rfl
-- tests
def bol(d:D)(B:Bool->Prop):Prop:=match d with
 |.bl b=>B b
 |_=>False
def KD:bol (.bl b) B=B b:=rfl
def wB_:wB te ρ B=te ρ λ_ x=>cE x (f:=λx=>bol x B) ⟨⟩:=rfl
def NK:Ts te ρ B=te ρ λ_ x=>cE x (f:=λx=>∃ b,Tr x=some b/\B b) ⟨⟩:=rfl
def Nr:OB tt ρ B=tt ρ λc=>B (!c):=rfl
def Nf:Oy tt tu ρ B=tt ρ λc=>cE c (f:=λc=>if c=true then tu ρ B else B false) ⟨⟩:=rfl
def iU':Oz tt tu ρ B=tt ρ λc=>cE c (f:=λc=>if c=true then B true else tu ρ B) ⟨⟩:=rfl
def Nj:vS ρ B=B true:=rfl
-- expressions
def N_:av i ρ Q=cE ρ[i]? (f:=λo=>Tp o Q) ⟨⟩:=rfl
def Jq:Tp (some (some (.sh d))) Q=Q .sh d:=rfl
def J0:Tp (some (some (.ow b d))) Q=Q .bo d:=rfl
def wC_:wC d ρ Q=Q .sh d:=rfl
def iW':bp f ta tb ρ Q=ta ρ λm x=>tb ρ λn y=>f m x n y Q:=rfl
def iX':gV f ta ρ Q=ta ρ λm x=>f m x Q:=rfl
def Kp:ph f g ta tb tc ρ Q=ta ρ λm x=>tb ρ λn y=>f m x n y λ_ z=>cE z (f:=λz=>bol z λk=>cE k (f:=λk=>if k=true then tc ρ λl w=>g n y l w Q else Q .sh (.bl false)) ⟨⟩) ⟨⟩:=by rfl
def Kw:ak te tar ρ R=te ρ λm x=>tar ρ λps=>R ((m,x) :: ps):=rfl
def MN:dz ρ R=R []:=rfl
def Nb:lh tar ρ Q=tar ρ λps=>ps.length<=bq/\Q (vV ps) (.tup (ps.map (·.2))):=rfl
def Mz:tP tar ρ Q=tar ρ λps=>ps.length<=bq/\Q (Dn ps) (.list (ps.map (·.2))):=rfl
def Li:aP sp tar ρ Q=tar ρ λps=>sp (ps.map (·.2)) λm d=>cE (m,d) (f:=λp=>Q (GY p.1 p.2) p.2) ⟨⟩:=rfl
-- operators
section
variable {x y:Str}{a b:Int}{xs ys:List D}{kvs:List (Key × D)}{kts:List (List Key × D)}
def JF:n9 m (.int a) m' (.int b) Q=Q .sh (.int (a+b)):=rfl
def JN:n9 m (.str x) m' (.str y) Q=(x.length+y.length<=bq/\Q .sh (.str (x++y))):=rfl
def Jk:n9 m (.list xs) m' (.list ys) Q=(xs.length+ys.length<=bq/\((eP xs=true/\eP ys=true/\Q (.ow true) (.list (xs++ys)))\/(m=.sh/\m'=.sh/\Q (.ow false) (.list (xs++ys))))):=rfl
def JK:Tt m (.int a) m' (.int b) Q=(N9 a b/\Q .sh (.int (a*b))):=rfl
def Jl:tN m (.int a) m' (.int b) Q=((0<b/\b<1073741824)/\Q .sh (.int (a / b))):=rfl
def JZ:oP m (.int a) m' (.int b) Q=(0<b/\Q .sh (.int (a % b))):=rfl
def KC:Tv m (.int a) m' (.int b) Q=Q .sh (.bl (decide (a<b))):=rfl
def K1:Qp m (.int a) m' (.int b) Q=Q .sh (.bl (decide (a<=b))):=rfl
def Kz:Qq m (.int a) m' (.int b) Q=Q .sh (.bl (decide (b<a))):=rfl
def Lz:AI m (.int a) m' (.int b) Q=Q .sh (.bl (decide (a=b))):=rfl
def Ny:AI m (.list xs) m' d Q=(dS 12 (.list xs)=true/\dS 12 d=true/\Q .sh (.bl (ja (.list xs) d))):=by cases d<;>rfl
def Nu:AI m (.tup xs) m' d Q=(dS 12 (.tup xs)=true/\dS 12 d=true/\Q .sh (.bl (ja (.tup xs) d))):=by cases d<;>rfl
def La:rV m (.int a) m' (.int b) Q=Q .sh (.bl (!decide (a=b))):=rfl
def K_:rV m (.str x) m' (.str y) Q=Q .sh (.bl (!decide (x=y))):=rfl
def N7:rV m (.list xs) m' d Q=(dS 12 (.list xs)=true/\dS 12 d=true/\Q .sh (.bl (!ja (.list xs) d))):=by cases d<;>rfl
def Nq:rV m (.tup xs) m' d Q=(dS 12 (.tup xs)=true/\dS 12 d=true/\Q .sh (.bl (!ja (.tup xs) d))):=by cases d<;>rfl
def LR:zQ m d m' .non Q=Q .sh (.bl (!d.GV)):=rfl
def Mu:E3 neg m (.str x) m' (.str y) Q=Q .sh (.bl (if neg then !DE x y else DE x y)):=rfl
def Mm:E3 neg m d m' (.tup ys) Q=(gm d=true/\ys.all gm=true/\Q .sh (.bl (if neg then !inD d ys else inD d ys))):=rfl
def MF:E3 neg m d m' (.dK kvs) Q = ∃ k,d.key1=some k/\Q .sh (.bl (if neg then !(dE kvs k).isSome else (dE kvs k).isSome)):=rfl
def N6:Qr m (.int a) Q=Q .sh (.int (-a)):=rfl
def M7:eC m (.list xs) m' (.int a) Q = ∃ d,gy xs a=some d/\cE d (f:=λd=>Q (tJ m d) d) ⟨⟩:=rfl
def MP:eC m (.tup xs) m' (.int a) Q = ∃ d,gy xs a=some d/\cE d (f:=λd=>Q (tJ m d) d) ⟨⟩:=rfl
def M_:eC m (.str x) m' (.int a) Q = ∃ c,gy x.cps.toList a=some c/\Q .sh (.str ⟨#[c]⟩):=rfl
def NB:eC m (.dK kvs) m' d Q = ∃ k d',d.key1=some k/\dE kvs k=some d'/\cE d' (f:=λd'=>Q (tJ m d') d') ⟨⟩:=rfl
def Kv:yB m (.str x) Q=Q .sh (.int x.length):=rfl
def KH:yB m (.list xs) Q=Q .sh (.int xs.length):=rfl
def Lw:yB m (.dK kvs) Q=Q .sh (.int kvs.length):=rfl
def MJ{T:String}:Wl T m d Q=Q .sh (.bl (Oe d.ty T)):=rfl
def Jm:pI m (.list xs) Q=((eP xs=true/\Q (.ow true) (.list xs))\/(m=.sh/\Q (.ow false) (.list xs))):=rfl
def JB:pI m (.dT kts) Q=Q (.ow true) (.list (kts.map λkv=>.tup (kv.1.map kM))):=rfl
def iY':Qt te tl th ρ Q=te ρ λm x=>tl ρ λlo=>th ρ λhi=>Tw m x lo hi Q:=rfl
def Jd:mC ρ O=O none:=rfl
def int'(d:D)(k:Int->Prop):Prop:=match d with
 |.int i=>k i
 |_=>False
def K7:int' (.int a) k=k a:=rfl
def K9:rO te ρ O=te ρ λ_ x=>cE x (f:=λx=>int' x λi=>O (some i)) ⟨⟩:=by unfold rO cE int';rfl
def Nz{lo hi:Option Int}:Tw m (.str x) lo hi Q=Q .sh (.str (vx x lo hi)):=rfl
def MK{lo hi:Option Int}:Tw m (.list xs) lo hi Q=((eP xs=true/\Q (.ow true) (.list (tS xs lo hi)))\/(m=.sh/\Q (.ow false) (.list (tS xs lo hi)))):=rfl
end
-- texts
def Wx(d:D)(k:Str->Prop):Prop:=match d with
 |.str x=>k x
 |_=>False
def LC:Wx (.str x) k=k x:=rfl
def vT(d:D)(k:List D->Prop):Prop:=match d with
 |.list x=>k x
 |_=>False
def Kh:vT (.list x) k=k x:=rfl
-- places
def iZ'{P:Bool->D->(Bool->D->Env)->Prop}:nS i ρ P=cE ρ[i]? (f:=λo=>match o with
 |some (some (.ow fl d))=>P fl d λd4 d2=>ρ.set i (some (.ow d4 d2))
 |_=>False) ⟨⟩:=rfl
def Wy(o:Option Bool)(k:Bool->Prop):Prop:=match o with
 |some b=>k b
 |none=>False
def Jg:Wy (some b) k=k b:=rfl
def NQ:G0 p te E ρ=p ρ λfl d up=>cE d (f:=λd=>vT d λxs=>te ρ λm x=>xs.length<bq/\cE (lE fl m x) (f:=λo=>Wy o λd4=>E.nx (up d4 (.list (xs++[x])))) ⟨⟩) ⟨⟩:=by unfold G0 cE vT Wy;rfl
def Ka:qu ρ Q=Q (.ow true) (.dT []):=rfl
def dct(d y:D)(k1:List (Key × D)->Prop)(k2:List (List Key × D)->List D->Prop):Prop:=match d with
 |.dK kvs=>k1 kvs
 |.dT kvs=>match y with
  |.tup ys=>k2 kvs ys
  |_=>False
 |_=>False
def M6:dct (.dK kvs) y k1 k2=k1 kvs:=rfl
def N8:dct (.dT kvs) (.tup ys) k1 k2=k2 kvs ys:=rfl
def Ly:kO p tk tv E ρ=tv ρ λ_ x=>p ρ λfl d up=>tk ρ λ_ y=>x.flat=true/\cE d (f:=λd=>dct d y (λkvs=>∃ k,y.key1=some k/\kvs.length<bq/\E.nx (up fl (.dK (gX kvs k x)))) (λkvs ys=>∃ ks,dW ys=some ks/\kvs.length<bq/\E.nx (up fl (.dT (gX kvs ks x))))) ⟨⟩:=by rfl
-- loops
variable {LQ:List D->Prop}
def Nv:xk wi g b E ρ=wi ρ λds=>oX g b E ds ρ:=rfl
def JP:dN te ρ LQ=te ρ λm d=>jJ m/\cE d (f:=λd=>vT d LQ) ⟨⟩:=by unfold dN cE vT;rfl
def QB(d:D)(k:List D->Prop):Prop:=match d with
 |.tup x=>k x
 |_=>False
def Mh:QB (.tup x) k=k x:=rfl
def Mf:zL te ρ LQ=te ρ λm d=>jJ m/\cE d (f:=λd=>QB d LQ) ⟨⟩:=by unfold zL cE QB;rfl
def Lf:Bk te ρ LQ=te ρ λ_ d=>cE d (f:=λd=>Wx d λz=>LQ (Wr z)) ⟨⟩:=by unfold Bk cE Wx;rfl
def J5:jC te ρ LQ=te ρ λ_ d=>cE d (f:=λd=>int' d λj=>j<=16777216/\-(2 ^ 62)<=j/\LQ (qd 0 j.toNat)) ⟨⟩:=by unfold jC cE int';rfl
def Jh:jJ .sh=True:=rfl
def Je:jJ (.ow b)=True:=rfl
def gN_:gN i d ρ N=N (ρ.set i (some (.sh d))):=rfl
def gT_:gT n gs d ρ N=cE d (f:=λd=>QB d λds=>ds.length=n/\gs ds ρ N) ⟨⟩:=by unfold gT cE QB;rfl
def Lg:b7 g gs (d :: ds) ρ N=g d ρ λcc=>gs ds cc N:=rfl
def Np:mV [] ρ N=N ρ:=by simp[mV]
def Ma:dB wi g tt te tn ix ρ Q=wi ρ λds=>fK g tt te ds (DN tn ix ρ) λout=>Q (.ow true) (.list out):=rfl
end
def B{c:Bool}{f:Bool->Prop}{k:Kt f}(h1:c=true->f true)(h2:c=false->f false):cE c k:=by
 cases c with
 |true=>exact h1 rfl
 |false=>exact h2 rfl
def D{p:Prop}[Decidable p]{f:Bool->Prop}{k:Kt f}(h1:p->f true)(h2:¬ p->f false):cE (decide p) k :=
 B (λh=>h1 (of_decide_eq_true h)) λh=>h2 (of_decide_eq_false h)
def T{c:Bool}{f:Bool->Prop}{k:Kt f}(h:c=true)(h1:f true):cE c k:=by subst h;exact h1
def F{c:Bool}{f:Bool->Prop}{k:Kt f}(h:c=false)(h1:f false):cE c k:=by subst h;exact h1
end L2.Q.R
namespace L2
end L2
namespace L2.Q
section
variable {X:Cx}{K:aC}{e e2:Expr}{te OJ:WE}{pos p fe apos:Pos}
def TV(tk tv:WE):WE:=λρ Q=>tk ρ λ_ x=>tv ρ λ_ y=>∃ k,x.key1=some k/\y.flat=true/\Q (.ow true) (.dK [(k,y)])
def yP(he:QE X K e te)(P_:QE X K e2 OJ):QE X K (.Dict [some e] [e2] pos) (TV te OJ):=by
 refine PE.imp (aK' (aH' he P_ aG') rfl rfl (by simp) (by simp)) λσ H Qv hx=>kL hx λHs ρ ag Q sr h fin=>λa ha=>?_;have g0:fE Hs H Hs (upd H a (.dK [])):=Ot sr.wf ha λ_ z=>nomatch z;refine⟨Hs,ρ,ag,_,sr.grow g0,h,λv H1 bI m x As g1 r1 f1 q1=>⟨bI,ρ,ag,_,(sr.grow g0).grow g1,q1,λu H2 aT n y Bs g2 r2 f2 q2=>?_⟩⟩;obtain⟨k,ek,fy,q2⟩:=q2;have rx:=(r1.grow g2).rep g2.wf;have ex:=rx.key ek;subst ex;have ry:=r2.flat g2.wf fy;have gg:=(g0.trans g1).trans g2;have e2:H2 a=some (.dK []):=g2.all _ _ (g1.all _ _ hG);have nH:Hs a=none:=sr.wf.sub.free ha;have n2:aT a=none:=g2.mn (g1.mn nH (by rw[hG];exact λz=>nomatch z)) (by rw[g1.all _ _ hG];exact λz=>nomatch z);refine⟨e2,[(k,u)],rfl,by simp,?_⟩;have g3:fE Hs H aT (upd H2 a (.dK [(k,u)])):=⟨λb o hb=>by rw[fq (wt hb ha)];exact gg.all b o hb,gg.sh,⟨λb o hb=>by rw[fq (wt hb n2)];exact gg.wf.sub b o hb,λb vs hb=>by
  by_cases z:b=a
  ·subst z;rw[hG] at hb;cases hb
  ·rw[fq z] at hb;exact gg.wf.k8 b vs hb⟩,gg.new⟩
 exact fin (.ref a) _ aT (.ow true) (.dK [(k,y)]) [a] g3 ⟨.dK ⟨by rw[iL];simp,λp hp=>by
  have:p=(k,y):=by simpa using hp
  subst this;exact jr rx ek⟩ hG (.cons (.sh (λ_=>fy) ry) .nil),by simp⟩ ⟨by simp,λb hb=>by
  obtain rfl:b=a:=by simpa using hb
  exact⟨n2,ha⟩⟩ q2
def o7:W1:=λ_ x Q=>match x with
 |.list xs=>∃ ks b,xs=ks.map kM/\(∀ k∈ks,oI k=b)/\∀ ms:List Key,ms.Perm ks->(ms.Pairwise λa b=>k7 b a=false)->Q (.ow true) (.list (ms.map kM))
 |.dK kvs=>∃ b,(∀ p∈kvs,oI p.1=b)/\∀ ms:List Key,ms.Perm (kvs.map (·.1))->(ms.Pairwise λa b=>k7 b a=false)->Q (.ow true) (.list (ms.map kM))
 |_=>False
def uH:DI K (uz K) o7:=by
 walk_at"e";have r1:=rx.rep w
 cases r1 with
 |list z s q =>obtain⟨ks,b,rfl,hb,h⟩:=h;obtain⟨e,ok⟩:=mF q;subst e;exact⟨ks,b,.inl s,hb,λms l pm pw hl=>f.lst w (by rw[b9,pm.length_eq];simpa using z) (gK λk hk=>ok k (pm.mem_iff.mp hk)) (dY ms) (h ms pm pw) l hl⟩
 |@dK a vs kvs kk e q =>
  obtain⟨b,hb,h⟩:=h;have hlen:=q.length;rw[b9] at hlen;have ez:(((kvs.map (·.1)).zip vs).map (·.1))=kvs.map (·.1):=by rw[RA (by rw[b9];lia)]
  refine⟨kvs.map (·.1),b,.inr ⟨_,e,ez.symm⟩,λk hk=>?_,λms l pm pw hl=>?_⟩
  ·obtain⟨p,hp,rfl⟩:=bT.mp hk;exact hb p hp
  ·refine f.lst w (by rw[b9,pm.length_eq,b9];exact kk.1) (gK λk hk=>?_) (dY ms) (h ms pm pw) l hl;obtain⟨p,hp,rfl⟩:=bT.mp (pm.mem_iff.mp hk);exact kk.2 p hp
 |_=>exact h.elim
def B_ (hc:autoParam (X.calm=true) bv) (hK:autoParam (X.K=K) bv):lT X (.builtin "sorted") (uz K):=by subst hK;exact vD hc
section
variable {Hs H:Hp}{fl:Bool}
def aA.erase(k:Nat)(r:aA K Hs H fl ds vs As):∃ Bs,Bs.Sublist As/\aA K Hs H fl (ds.eraseIdx k) (vs.eraseIdx k) Bs:=by
 induction ds generalizing vs As k with
 |nil =>obtain⟨rfl,rfl⟩:=r.n0;exact⟨[],List.Sublist.refl _,.nil⟩
 |cons d ds ih =>
  obtain⟨u,us,A,B,rfl,rfl,r,rs⟩:=r.c
  cases k with
  |zero=>exact⟨B,ng _ _,rs⟩
  |succ k =>obtain⟨C,sb,q⟩:=ih k rs;exact⟨A++C,sb.append_left _,.cons r q⟩
def aA.ca'{ds:List D}{vs:List V}{As:List ah}{k:Nat}{d:D}(r:aA K Hs H fl ds vs As)(e:ds[k]? = some d)(hf:d.flat=true)(w:Wf Hs H):∃ v,vs[k]? = some v/\Rep K Hs d v:=by
 induction ds generalizing vs As k with
 |nil=>simp at e
 |cons x ds ih =>
  obtain⟨u,us,A,B,rfl,rfl,r,rs⟩:=r.c
  cases k with
  |zero =>simp at e;subst e;exact⟨_,rfl,(r.rep w.sub λ_ _=>rfl).eN w.k8 hf⟩
  |succ k=>exact ih (k:=k) rs (by simpa using e)
end
def QC(i:Nat)(p:WP):WS:=λE ρ=>p ρ λfl d up=>match d with
 |.list xs=>∃ y,xs[xs.length-1]? = some y/\y.flat=true/\E.nx ((up fl (.list xs.dropLast)).set i (some (.sh y)))
 |_=>False
def qL{α:Type}(xs:List α):xs.eraseIdx (xs.length-1)=xs.dropLast:=by rw[List.dropLast_eq_take,Uw];rw[List.drop_eq_nil_of_le (by lia),sP]
def Cj{wp:WP}(i:Nat){x:Str}{pos':Pos}(ho:QP X K e wp)(hK:autoParam (X.K=K) bv) (vk:autoParam (AW e "pop" X.env (df e X.env)=df e X.env) bv) (hline:autoParam ((apos.endLine == fe.line)=true) bv) (hs:autoParam (sN (.Call (.Attribute e "pop" apos) [] [] fe) (some (.Name x pos')) pos.line X.env=pure false) bv) (hf:X.fn x=true\/X.env.scope.names.lookup x=some .local:=by first|exact .inl rfl|exact .inr rfl|assumption) (hN:X.N.Nodup:=by assumption) (hi:autoParam (X.N[i]? = some x) bv) (hx:Loc X.env.scope x:=by first|exact .inl rfl|exact .inr rfl) :
  QS X K L (.Assign [.Name x pos'] (.Call (.Attribute e "pop" apos) [] [] fe) pos) (QC i wp):=by
 refine PS.imp (Vb hN hi hx (fR' PySem.F.plainAttrs_list PySem.F.slot_list_pop PySem.F.type_list_pop fY' ho vk hline) hs hf) λD σ H hx=>cz hx λHs ρ ag E sr h k1 k2 k3 k4=>?_;walk_at"w"
 cases d with
 |list xs =>
  obtain⟨y,ey,fy,q1⟩:=q1;obtain⟨a,vs,A,ea,e2,_,rs,nd,hn,k⟩:=p1.put (fE.refl g1.wf);subst ea;obtain⟨nA,LS⟩:=kA.mp nd;obtain⟨u,eu,ru⟩:=rs.ca' ey fy g1.wf;obtain⟨B,sb,rb⟩:=rs.erase (xs.length-1);have hl:=rs.length;rw[qL] at rb;rw[hl,qL] at rb;rw[hl] at eu;refine⟨.inl ⟨rfl,_,.inl (.inl e2)⟩,a,vs,u,rfl,rfl,e2,eu,?_⟩;have hz:vs.dropLast.length<=bq:=by
   rcases p1.ex with⟨hV,r,ne,_⟩
   cases r with
   |sh _ _=>exact absurd rfl ne
   |list hz e3 _=>rw[e2] at e3;cases e3;rw[List.length_dropLast];lia
  obtain⟨fo,iE⟩:=k fl _ _ B id rb hz (sb.nodup LS) (λz=>nA (sb.subset z)) (λx hx=>.inl (sb.subset hx));obtain⟨Wo,_,Wq⟩:=iE.Hy i ru;exact k1 _ _ bI _ Wo g1.sh Wq q1
 |_=>exact q1.elim
end
abbrev WIL:=Env->(List D->Prop)->Prop
section
variable {X:Cx}{K:aC}
def cC(i:Nat)(hi:TB X K tg iter wi)(hg:∀ {C fp iX j3} {q:(tn++cn).Nodup},QG (aO X scope C (tn++cn) fp iX j3) K tg g) (AA:∀ {C fp iX j3},TH (aO X scope C (tn++cn) fp iX j3) K ifs tc) (he:∀ {C fp iX j3},QE (aO X scope C (tn++cn) fp iX j3) K elt te)(VJ:autoParam (sN (.ListComp elt [⟨tg,iter,ifs,0⟩] scope pos) (some (.Name x pos')) VL.line X.env=pure true) bv) (hs:∀ x,Ic iter X.env x=pure x:=by intro _;rfl) (hf:X.fn x=true\/X.env.scope.names.lookup x=some .local:=by first|exact .inl rfl|exact .inr rfl|assumption) (hN:X.N.Nodup:=by assumption) (vw:autoParam (X.N[i]? = some x) bv) (hx:Loc X.env.scope x:=by first|exact .inl rfl|exact .inr rfl) (nd:(tn++cn).Nodup:=by decide +kernel) (O:dU X scope tn cn ix:=by exact dU.by (by assumption) (by decide +kernel)) (hc:autoParam (X.calm=true) bv) :
  QS X K L (.Assign [.Name x pos'] (.ListComp elt [⟨tg,iter,ifs,0⟩] scope pos) VL) (fR i (dB wi g tc te tn.length ix)) :=
 PS.imp (uQ hN vw hx hc hi O (λ_ _ _ _=>hg (q:=nd)) (λ_ _ _ _=>AA) (λ_ _ _ _=>he) VJ hs hf) λD σ H hx=>cz hx λHs ρ ag E sr h k1 k2 k3 k4=>by
  refine qz ⟨Hs,ρ,ag,_,sr,h,λv H1 bI m d As g1 r1 f1 q1=>?_⟩
  cases e:asg m d with
  |none=>rw[e] at q1;exact q1.elim
  |some sl =>rw[e] at q1;obtain⟨cS,s'⟩:=(sr.grow g1).set i r1 f1.1 (λa ha=>⟨(f1.2 a ha).1,λm=>(sr.sr.own a m).ne (f1.2 a ha).2⟩) e;exact k1 _ H1 bI _ cS g1.sh s' q1
end
end L2.Q
namespace L2.Q.R
section
variable {E:qU}{ρ:Env}{Q:Md->L2.Q.D->Prop}{te tk:WE}{i:Nat}{d:L2.Q.D}{p:WP}{LQ:List L2.Q.D->Prop}
def jc':TV tk te ρ Q=tk ρ λ_ x=>te ρ λ_ y=>∃ k,x.key1=some k/\y.flat=true/\Q (.ow true) (.dK [(k,y)]):=rfl
def Nm:QC i p E ρ=p ρ λfl d up=>cE d (f:=λd=>vT d λxs=>∃ y,xs[xs.length-1]? = some y/\y.flat=true/\cE y (f:=λy=>E.nx ((up fl (.list xs.dropLast)).set i (some (.sh y)))) ⟨⟩) ⟨⟩:=by unfold QC cE vT;rfl
def Kf:t8 te ρ LQ=te ρ λm d=>jJ m/\cE d (f:=λd=>vT d λxs=>LQ (nO xs)) ⟨⟩:=by unfold t8 cE vT;rfl
def JT:cT te ρ LQ=te ρ λ_ d=>cE d (f:=λd=>vT d LQ) ⟨⟩:=by unfold cT cE vT;rfl
def wpAt(d:L2.Q.D)(i:Int)(P:Bool->L2.Q.D->(Bool->L2.Q.D->Env)->Prop)(up:Bool->L2.Q.D->Env):Prop:=match d with
 |.list ds=>∃ j d',oC ds.length i=some j/\ds[j]? = some d'/\d'.flat=false/\cE d' (f:=λd'=>P true d' λd4 d2=>up d4 (.list (ds.set j d2))) ⟨⟩
 |.tup ds=>∃ j d',oC ds.length i=some j/\ds[j]? = some d'/\d'.flat=false/\cE d' (f:=λd'=>P true d' λd4 d2=>up d4 (.tup (ds.set j d2))) ⟨⟩
 |_=>False
section
variable {P:Bool->L2.Q.D->(Bool->L2.Q.D->Env)->Prop}{up:Bool->L2.Q.D->Env}{ds:List L2.Q.D}{j:Int}
def Lh:wpAt (.list ds) j P up = ∃ k d',oC ds.length j=some k/\ds[k]? = some d'/\d'.flat=false/\cE d' (f:=λd'=>P true d' λd4 d2=>up d4 (.list (ds.set k d2))) ⟨⟩:=rfl
def Mp:Wt p te ρ P=p ρ λfl d up=>te ρ λ_ y=>fl=true/\cE y (f:=λy=>int' y λi=>cE d (f:=λd=>wpAt d i P up) ⟨⟩) ⟨⟩:=by rfl
end
end
end L2.Q.R
namespace L2
open Builtin Builtin.Str Builtin.Int
def rX(n:Int)(z:Str):Str:=⟨(List.replicate n.toNat z.cps.toList).flatten.toArray⟩
theorem lX(xs:Array Nat):∀ (k:Nat) (acc:Array Nat),(List.replicate k xs).foldl (· ++ ·) acc=acc++(List.replicate k xs.toList).flatten.toArray
 |0,acc=>by simp
 |k+1,acc=>by rw[A2,List.foldl_cons,lX xs k,A2,A3];apply Array.ext';simp
def Dr(h:1<=n):Txt.mul z n=rX n z:=by
 unfold Txt.mul rX;rw[if_neg (by lia)];by_cases h1:n=1
 ·subst h1;simp
 ·by_cases h0:z.length=0
  ·have hz:z.cps = #[]:=Pn h0;rw[if_pos (by simp[h0])];obtain⟨c⟩:=z;cases hz;simp
  ·rw[if_neg (by simp[h1,h0]),lX];simp
def G_:R2:=λx y H Q=>match x,y with
 |.int n,.str z=>(1<=n/\n<=100/\z.length<=100)/\Q (.str (rX n z)) H
 |_,_=>False
end L2
namespace L2
end L2
namespace L2.Q
section
variable {K:aC}{b:Expr}{x:Str}
def Wz:W1:=λ_ x Q=>match x with
 |.list xs=>∃ bs:List Bool,xs=bs.map D.bl/\Q .sh (.bl (bs.all (λb=>b)))
 |_=>False
def Gx{H:Hp}{bs:List Bool}{vs:List V}(r:b4 K H (bs.map D.bl) vs):vs=bs.map V.bl:=by
 induction bs generalizing vs with
 |nil=>exact r.n0
 |cons b bs ih =>obtain⟨u,us,rfl,r1,rs⟩:=b4.c r;cases r1;rw[ih rs];rfl
def Hg:DI K (S8 K) Wz:=by
 walk_at"e";have r1:=rx.rep w
 cases r1 with
 |list z s q =>obtain⟨bs,rfl,h⟩:=h;cases Gx q;exact⟨bs,s,f.sh w (.bl _) h⟩
 |_=>exact h.elim
def nP(n:Int)(z:Str):(rX n z).length=n.toNat*z.length:=by unfold rX Str.length;rw[iO,len_rep,A5]
end
end L2.Q
namespace L2.Q.R
section
variable {Q:Md->L2.Q.D->Prop}{m:Md}{xs:List L2.Q.D}{b:Int}
def MT:Wz m (.list xs) Q = ∃ bs:List Bool,xs=bs.map L2.Q.D.bl/\Q .sh (.bl (bs.all (λb=>b))):=rfl
end
end L2.Q.R
namespace L2.Q
theorem gr(O:Nat->List D->Prop)(Iv:Env->Prop):∀ (xs:List D) (i:Nat) (pre:List D) (ρ:Env) (k:List D->Prop),Iv ρ->O i pre -> (∀ j x,xs[j]? = some x->∀ ρ,Iv ρ->∀ out,O (i+j) out->∀ N1:Env->Prop,∀ N2:Env->D->Prop,(∀ cc d,Iv cc->O (i+j+1) (out++[d])->N2 cc d)->g x ρ λqk=>tc qk λb=>if b=true then te qk λm d=>Qx m d/\N2 qk d else N1 qk) -> (∀ out,O (i+xs.length) (pre++out)->k out)->fK g tc te xs ρ k
 |[],i,pre,_,k,_,h0,_,h=>h [] (by simpa using h0)
 |x :: xs,i,pre,ρ,k,iv,h0,hs,h=>by
  refine hs 0 x rfl ρ iv pre h0 _ _ (λcc d Qy o'=>?_);refine gr O Iv xs (i+1) (pre++[d]) cc _ Qy o' (λj y hy ρ iv out ho=>?_) λout ho=>?_
  ·have:=hs (j+1) y (by simpa using hy) ρ iv out (by rwa[show i+(j+1)=i+1+j by lia]);rwa[show i+(j+1)+1=i+1+j+1 by lia] at this
  ·refine h (d :: out) ?_;rw[A4] at ho;rwa[pd,show i+(xs.length+1)=i+1+xs.length by lia]
end L2.Q
end
namespace TS
open PySem PySem.SetTable
def fk:Nat->Nat->Nat
 |0,s=>s
 |k+1,s=>5*fk k s+1
def Gz(a b s:Nat):fk (a+b) s=fk b (fk a s):=by
 induction b with
 |zero=>rfl
 |succ b ih=>show 5*fk (a+b) s+1=5*fk b (fk a s)+1;rw[ih]
def xU(n s:Nat):4*fk n s+1=5 ^ n*(4*s+1):=by
 induction n with
 |zero=>simp[fk]
 |succ n ih =>
  show 4*(5*fk n s+1)+1=5 ^ (n+1)*(4*s+1)
  rw[Ct,RV (5 ^ n) 5,NC,<- ih];lia
def zJ(m:Nat):∃ q,5 ^ 2 ^ m=1+2 ^ (m+2)*q/\q % 2=1:=by
 induction m with
 |zero=>exact⟨1,by decide,by decide⟩
 |succ m ih =>
  obtain⟨q,e,o⟩:=ih;refine⟨q+2 ^ (m+1)*(q*q),?_,?_⟩
  ·have hp:5 ^ 2 ^ (m+1)=(5 ^ 2 ^ m) ^ 2:=by rw[Ct 2 m,Nat.pow_mul]
   rw[hp,e];have e1:2 ^ (m+1+2)=2*2 ^ (m+2):=by rw[show m+1+2=(m+2)+1 by lia,Ct];lia
   have e2:2 ^ (m+2)=2*2 ^ (m+1):=by rw[show m+2=(m+1)+1 by lia,Ct];lia
   rw[e1,e2];generalize 2 ^ (m+1)=y;rw[Nat.pow_two];simp only[Nat.mul_add,Nat.add_mul,Nat.one_mul,Nat.mul_one];have a1:2*y*q*(2*y*q)=2*(2*y)*(y*(q*q)):=by simp only[NC,Nat.mul_left_comm,RV]
   have a2:2*(2*y)*q=2*y*q+2*y*q:=by rw[NC 2 (2*y) q];lia
   rw[a1,a2];lia
  ·have:2 ^ (m+1)*(q*q) % 2=0:=by rw[Ct,RV (2 ^ m) 2,NC,Nat.mul_mod_right]
   lia
def Dj(m x:Nat):∃ r,fk (2 ^ m) x=x+2 ^ m*r/\r % 2=1:=by
 obtain⟨q,e,o⟩:=zJ m;have c:=xU (2 ^ m) x;rw[e] at c;refine⟨q*(4*x+1),?_,?_⟩
 ·have e2:2 ^ (m+2)=4*2 ^ m:=by rw[Nat.pow_add];lia
  rw[e2,Nat.add_mul,Nat.one_mul,NC,NC] at c;lia
 ·rw[Nat.mul_mod,o,Nat.one_mul];lia
def Ib(m s e:Nat):∃ k,k+1<=2 ^ m/\fk k s % 2 ^ m=e % 2 ^ m:=by
 induction m with
 |zero=>exact⟨0,by decide,by simp[Nat.mod_one]⟩
 |succ m ih =>
  obtain⟨k,hk,h⟩:=ih;have hp:2 ^ (m+1)=2 ^ m*2:=Ct ..;have jd':0<2 ^ m:=Nat.pow_pos (by decide);have key:∀ a:Nat,a % (2 ^ m*2)=a % 2 ^ m+2 ^ m*(a / 2 ^ m % 2):=λa=>Nat.mod_mul;by_cases c:fk k s / 2 ^ m % 2=e / 2 ^ m % 2
  ·exact⟨k,by lia,by rw[hp,key,key,h,c]⟩
  ·refine⟨k+2 ^ m,by lia,?_⟩;obtain⟨r,er,ro⟩:=Dj m (fk k s);rw[Gz,er,hp,key,key,Nat.add_mul_mod_self_left,h,Nat.add_mul_div_left _ _ jd'];have:(fk k s / 2 ^ m+r) % 2=e / 2 ^ m % 2:=by lia
   rw[this]
def tT(M:Nat)(p:Probe):Probe :=
 if p.more>0 then { p with j:=p.j+1,more:=p.more-1 } else
 { p with j:=(leap M p.i p.perturb).1,more:=runEnd M (leap M p.i p.perturb).1-(leap M p.i p.perturb).1,i:=(leap M p.i p.perturb).1,perturb:=(leap M p.i p.perturb).2 }
def ps(M:Nat)(h:Int):Nat->Probe
 |0=>{ j:=bits h % (M+1),more:=runEnd M (bits h % (M+1))-bits h % (M+1),i:=bits h % (M+1),perturb:=bits h,dummy:=none }
 |n+1=>tT M (ps M h n)
def J(M:Nat)(h:Int)(n:Nat):Nat:=(ps M h n).j
def uw(h:i<=M):i<=runEnd M i/\runEnd M i<=M/\runEnd M i<=i+9:=by unfold runEnd;split<;>lia
theorem Gd(M:Nat)(h:Int):∀ n,(ps M h n).i<=M/\(ps M h n).j+(ps M h n).more<=M/\(ps M h n).dummy=none/\(ps M h n).more<=9
 |0=>by have h0:bits h % (M+1)<=M:=RP (NH _ (RW _));have:=uw h0;exact⟨h0,by show bits h % (M+1)+(runEnd M (bits h % (M+1))-bits h % (M+1))<=M;lia,rfl,by show runEnd M (bits h % (M+1))-bits h % (M+1)<=9;lia⟩
 |n+1=>by
  obtain⟨a,b,c,d⟩:=Gd M h n;show(tT M (ps M h n)).i<=M/\_/\(tT M (ps M h n)).dummy=none/\_;unfold tT;by_cases hm:(ps M h n).more>0
  ·simp only[hm,if_true];show _/\(tT M (ps M h n)).j+(tT M (ps M h n)).more<=M/\_/\(tT M (ps M h n)).more<=9;simp only[tT,hm,if_true];exact⟨a,by lia,c,by lia⟩
  ·simp only[hm,if_false];show _/\(tT M (ps M h n)).j+(tT M (ps M h n)).more<=M/\_/\(tT M (ps M h n)).more<=9;simp only[tT,hm,if_false];have h0:(leap M (ps M h n).i (ps M h n).perturb).1<=M:=RP (NH _ (RW _));have:=uw h0;exact⟨h0,by lia,c,by lia⟩
def TX(M:Nat)(h:Int)(n:Nat):J M h n<=M:=by have:=Gd M h n;unfold J;lia
theorem v_(M:Nat)(h:Int)(n:Nat):∀ r,r<=(ps M h n).more->ps M h (n+r)={ ps M h n with j:=(ps M h n).j+r,more:=(ps M h n).more-r }
 |0,_=>rfl
 |r+1,hr=>by show tT M (ps M h (n+r))=_;rw[v_ M h n r (by exact sQ ‹_›)];unfold tT;rw[if_pos (show(ps M h n).more-r>0 by lia)];simp only[Probe.mk.injEq,true_and,and_true];lia
def lp(M:Nat)(h:Int):Nat->Nat × Nat
 |0=>(bits h % (M+1),bits h)
 |k+1=>leap M (lp M h k).1 (lp M h k).2
def kP(M:Nat)(h:Int):Nat->Nat
 |0=>0
 |k+1=>kP M h k+(runEnd M (lp M h k).1-(lp M h k).1)+1
theorem FN(M:Nat)(h:Int):∀ k,(lp M h k).1<=M
 |0=>RP (NH _ (RW _))
 |k+1=>RP (NH _ (RW _))
theorem vZ(M:Nat)(h:Int):∀ k,kP M h k<=10*k
 |0=>cw _
 |k+1=>by have:=vZ M h k;have:=uw (FN M h k);show kP M h k+_+1<=_;lia
theorem tO(M:Nat)(h:Int):∀ k,ps M h (kP M h k)={ j:=(lp M h k).1,more:=runEnd M (lp M h k).1-(lp M h k).1,i:=(lp M h k).1,perturb:=(lp M h k).2,dummy:=none }
 |0=>rfl
 |k+1=>by have ih:=tO M h k;have e:=v_ M h (kP M h k) (runEnd M (lp M h k).1-(lp M h k).1) (by rw[ih];exact cw _);show tT M (ps M h (kP M h k+(runEnd M (lp M h k).1-(lp M h k).1)))=_;rw[e,ih];unfold tT;rw[if_neg (by simp)];rfl
theorem Cu(M:Nat)(h:Int):∀ k,(lp M h k).2=bits h / 32 ^ k
 |0=>by simp[lp]
 |k+1=>by show(lp M h k).2 / 32=_;rw[Cu M h k,Nat.div_div_eq_div_mul,Ct]
def Fq(h:Int):bits h<2 ^ 64:=by unfold bits;lia
theorem wY(M:Nat)(h:Int):∀ k,(lp M h (13+k)).1 % (M+1)=fk k (lp M h 13).1 % (M+1)
 |0=>rfl
 |k+1=>by
  have e:(lp M h (13+k)).2=0:=by rw[Cu];exact Nat.div_eq_of_lt (oz (Fq h) (iS (by decide:2 ^ 64<=32 ^ 13) (Nat.pow_le_pow_right (by decide) (by lia))))
  show(leap M (lp M h (13+k)).1 (lp M h (13+k)).2).1 % (M+1)=_;rw[e];show((lp M h (13+k)).1*5+1+0 / 32) % (M+1) % (M+1)=(5*fk k (lp M h 13).1+1) % (M+1);rw[Nat.mod_mod,Nat.zero_div,Pm,Nat.add_mod,Nat.mul_mod,wY M h k,<- Nat.mul_mod,<- Nat.add_mod,RV]
def cover(hM:M+1=2 ^ m)(h:Int)(he:e<=M):∃ k,k<=M+13/\(lp M h k).1=e:=by obtain⟨k,hk,q⟩:=Ib m (lp M h 13).1 e;rw[<- hM] at hk q;refine⟨13+k,by lia,?_⟩;have:=wY M h k;rw[q] at this;rwa[Nat.mod_eq_of_lt (RQ (FN M h _)),Nat.mod_eq_of_lt (RQ he)] at this
def Hn(M:Nat)(h:Int)(k:Nat):J M h (kP M h k)=(lp M h k).1:=by unfold J;rw[tO]
def lJ(hM:M+1=2 ^ m)(h:Int)(kF:Nat->Bool)(he:e<=M)(hf:kF e=false):∃ n,n<=10*(M+13)/\kF (J M h n)=false/\∀ k<n,kF (J M h k)=true:=by
 obtain⟨k,hk,q⟩:=cover hM h he;have hb:=vZ M h k;have hB:kF (J M h (kP M h k))=false:=by rw[Hn,q];exact hf
 generalize kP M h k=b at hb hB;have go:∀ b,kF (J M h b)=false->∃ n,n<=b/\kF (J M h n)=false/\∀ k<n,kF (J M h k)=true:=by
  intro b
  induction b using Nat.strongRecOn with
  |ind b ih =>
   intro hB;by_cases c:∃ k,k<b/\kF (J M h k)=false
   ·obtain⟨k,h1,h2⟩:=c;obtain⟨n,a1,a2,a3⟩:=ih k h1 h2;exact⟨n,by lia,a2,a3⟩
   ·refine⟨b,cw _,hB,λk hk=>?_⟩
    cases z:kF (J M h k) with
    |true=>rfl
    |false=>exact absurd ⟨k,hk,z⟩ c
 obtain⟨n,a1,a2,a3⟩:=go b hB;exact⟨n,by lia,a2,a3⟩
def Up(xs:Array Nat):Prop:=∀ i j:Nat,i<j->j<xs.size->xs.getD i 0<xs.getD j 0
def uG{xs:Array Nat}{i d d':Nat}(h:i<xs.size):xs.getD i d=xs.getD i d':=by simp[Array.getD,h]
def oH{xs:Array Nat}(U:Up xs)(j:Nat):∀ (fuel lo hi:Nat),hi-lo<=fuel->lo<=hi->hi<=xs.size->(∀ i<lo,xs.getD i 0<j)->(∀ i,hi<=i->i<xs.size->j<=xs.getD i 0) ->
  below.go xs j fuel lo hi<=xs.size/\(∀ i<below.go xs j fuel lo hi,xs.getD i 0<j)/\(∀ i,below.go xs j fuel lo hi<=i->i<xs.size->j<=xs.getD i 0)
 |0,lo,hi,hf,h1,h2,h3,h4=>by
  obtain rfl:lo=hi:=by lia
  exact⟨h2,h3,h4⟩
 |fuel+1,lo,hi,hf,h1,h2,h3,h4=>by
  unfold below.go;by_cases c:lo<hi
  ·rw[if_pos c];have hm:(lo+hi) / 2<xs.size:=by lia
   by_cases d:xs.getD ((lo+hi) / 2) j<j
   ·rw[if_pos d];rw[uG hm] at d;refine oH U j fuel _ _ (by lia) (by lia) h2 (λi kK=>?_) h4;by_cases e:i=(lo+hi) / 2
    ·rw[e];exact d
    ·exact UT (U i _ (by lia) hm) d
   ·rw[if_neg d];rw[uG (d':=0) hm] at d;refine oH U j fuel _ _ (by lia) (by lia) (by lia) h3 λi kK hs=>?_;by_cases e:i=(lo+hi) / 2
    ·rw[e];lia
    ·have:=U ((lo+hi) / 2) i (by lia) hs;lia
  ·rw[if_neg c];obtain rfl:lo=hi:=by lia
   exact⟨h2,h3,h4⟩
def aJ(U:Up xs)(j:Nat):below xs j<=xs.size/\(∀ i<below xs j,xs.getD i 0<j)/\(∀ i,below xs j<=i->i<xs.size->j<=xs.getD i 0) :=
 oH U j xs.size 0 xs.size (by lia) (by lia) (cw _) (λi h=>absurd h (IL i)) λi h1 h2=>by lia
def below_at(U:Up xs)(h:i<xs.size):below xs (xs.getD i 0)=i:=by
 obtain⟨a,b,c⟩:=aJ U (xs.getD i 0);by_cases h1:below xs (xs.getD i 0)<i
 ·have:=c _ (cw _) (by lia);have:=U _ i h1 h;lia
 ·by_cases h2:i<below xs (xs.getD i 0)
  ·have:=b i h2;lia
  ·lia
def vB(U:Up xs)(h:i<xs.size):below xs (xs.getD i 0+1)=i+1:=by
 obtain⟨a,b,c⟩:=aJ U (xs.getD i 0+1);by_cases h1:below xs (xs.getD i 0+1)<i+1
 ·have:=c i (by lia) h;lia
 ·by_cases h2:i+1<below xs (xs.getD i 0+1)
  ·have:=b (i+1) h2;have:=U i (i+1) (by lia) (by lia);lia
  ·lia
def taken(xs:Array Nat)(j:Nat):Bool:=xs[below xs j]? == some j
def v5{xs:Array Nat}{i j:Nat}(h:xs[i]? = some j):i<xs.size/\xs.getD i 0=j:=by obtain⟨h1,h2⟩:=NJ.mp h;exact⟨h1,by simp[Array.getD,h1,h2]⟩
def yM{xs:Array Nat}{i:Nat}(h:i<xs.size):xs[i]? = some (xs.getD i 0):=by simp[Array.getD,h]
def eG{xs:Array Nat}(U:Up xs){j:Nat}:taken xs j=true↔∃ i,i<xs.size/\xs.getD i 0=j:=by
 unfold taken;rw[beq_iff_eq];constructor
 ·intro h;exact⟨_,v5 h⟩
 ·rintro⟨i,h,rfl⟩;rw[below_at U h];exact yM h
def nZ{xs:Array Nat}(U:Up xs){j:Nat}(h:taken xs j=true):below xs j<xs.size/\xs.getD (below xs j) 0=j:=by unfold taken at h;rw[beq_iff_eq] at h;exact v5 h
def bw{α:Type}(xs:Array α){p:Nat}(x:α)(h:p<=xs.size):(insertAt xs p x).size=xs.size+1:=by unfold insertAt;simp;lia
def Sq{α:Type}(xs:Array α){p:Nat}(x:α)(h:p<=xs.size)(i:Nat):(insertAt xs p x)[i]? = if i<p then xs[i]? else if i=p then some x else xs[i-1]? := by
 unfold insertAt;have hs:((xs.extract 0 p).push x).size=p+1:=by simp;exact Nat.min_eq_left ‹_›
 by_cases h1:i<p
 ·rw[if_pos h1,Array.getElem?_append_left (by lia),Array.getElem?_push,if_neg (by simp;lia),RZ];rw[if_pos (by lia)];simp
 ·rw[if_neg h1];by_cases h2:i=p
  ·rw[if_pos h2,Array.getElem?_append_left (by lia),Array.getElem?_push,if_pos (by simp;lia)]
  ·rw[if_neg h2,Array.getElem?_append_right (by lia),hs,RZ];by_cases h3:i-(p+1)<min xs.size xs.size-p
   ·rw[if_pos h3];congr 1;lia
   ·rw[if_neg h3,NM (by lia)]
def cU(h:p<=xs.size)(i:Nat):(insertAt xs p x).getD i 0=if i<p then xs.getD i 0 else if i=p then x else xs.getD (i-1) 0:=by
 have e:∀ (ys:Array Nat) k,ys.getD k 0=ys[k]?.getD 0:=λys k=>by simp[IX]
 rw[e,Sq xs x h];split
 ·rw[e]
 ·split
  ·rfl
  ·rw[e]
def Bw(U:Up xs)(hj:taken xs j=false):Up (insertAt xs (below xs j) j):=by
 obtain⟨a,b,c⟩:=aJ U j;have ne:∀ i,i<xs.size->xs.getD i 0≠j:=λi hi e=>by have:=(eG U).mpr ⟨i,hi,e⟩;rw[hj] at this;cases this
 intro i k hik hk;rw[bw xs j a] at hk;rw[cU a,cU a];by_cases h1:k<below xs j
 ·rw[if_pos (by lia),if_pos h1];exact U i k hik (by lia)
 ·rw[if_neg h1];by_cases h2:k=below xs j
  ·rw[if_pos h2,if_pos (by lia)];exact b i (by lia)
  ·rw[if_neg h2];by_cases h3:i<below xs j
   ·rw[if_pos h3];exact U i (k-1) (by lia) (by lia)
   ·rw[if_neg h3];by_cases h4:i=below xs j
    ·rw[if_pos h4];have:=c (k-1) (by lia) (by lia);have:=ne (k-1) (by lia);lia
    ·rw[if_neg h4];exact U (i-1) (k-1) (by lia) (by lia)
def yu(U:Up xs)(hj:taken xs j=false):taken (insertAt xs (below xs j) j) k=(decide (k=j) || taken xs k):=by
 have a:=(aJ U j).1;have U':=Bw U hj;apply sT.mpr;rw[eG U',Bool.or_eq_true,decide_eq_true_eq,eG U];rw[bw xs j a];constructor
 ·rintro⟨i,hi,e⟩;rw[cU a] at e;by_cases h1:i<below xs j
  ·rw[if_pos h1] at e;exact .inr ⟨i,by lia,e⟩
  ·rw[if_neg h1] at e;by_cases h2:i=below xs j
   ·rw[if_pos h2] at e;exact .inl e.symm
   ·rw[if_neg h2] at e;exact .inr ⟨i-1,by lia,e⟩
 ·rintro(rfl|⟨i,hi,e⟩)
  ·exact⟨below xs k,by lia,by rw[cU a,if_neg (by lia),if_pos rfl]⟩
  ·by_cases h1:i<below xs j
   ·exact⟨i,by lia,by rw[cU a,if_pos h1];exact e⟩
   ·exact⟨i+1,by lia,by rw[cU a,if_neg (by lia),if_neg (by lia)];exact e⟩
def Reach(M:Nat)(place:Array Nat)(h:Int)(j:Nat):Prop:=∃ n,n<=10*(M+13)/\J M h n=j/\∀ k<n,taken place (J M h k)=true
structure TI{α:Type}(t:SetTable)(es:Array (Int × α)):Prop where
 pw:∃ m,t.mask+1=2 ^ m/\3<=m
 sz:t.place.size=es.size
 up:Up t.place
 le:∀ i,i<t.place.size->t.place.getD i 0<=t.mask
 dm:t.dummies = #[]
 few:es.size*5<t.mask*3
 path:∀ i h x,es[i]? = some (h,x)->Reach t.mask t.place h (t.place.getD i 0)
section
variable {α:Type}{t:SetTable}{es:Array (Int × α)}
def TI.slot(T:TI t es)(j:Nat):t.slot j=if taken t.place j then .live (below t.place j) else .empty:=by
 unfold SetTable.slot taken;dsimp only;split
 ·rfl
 ·have:has t.dummies j=false:=by rw[T.dm];rfl
  rw[this];rfl
def TI.fits(T:TI t es):t.fits es.size=true:=by have:=T.few;simp only[SetTable.fits,fill,T.dm,T.sz,mw,beq_iff_eq,decide_eq_true_eq,true_and];simp;lia
def TI.odd(T:TI t es):t.gaveWay=false:=by
 obtain⟨m,h,h3⟩:=T.pw;unfold SetTable.gaveWay;rw[beq_eq_false_iff_ne];have:2 ^ m=2*2 ^ (m-1):=by rw[show m=(m-1)+1 by lia,Ct];simp;lia
 lia
def TI.free(T:TI t es):∃ e,e<=t.mask/\taken t.place e=false:=by
 have hf:=T.few;have hs:=T.sz;by_cases c:∃ e,e<=t.mask/\taken t.place e=false
 ·exact c
 ·exfalso;have all:∀ e,e<=t.mask->taken t.place e=true:=λe he=>by
   cases z:taken t.place e with
   |true=>rfl
   |false=>exact absurd ⟨e,he,z⟩ c
  -- slot e stands at place at most e
  have go:∀ e,e<=t.mask->e<=below t.place e:=by
   intro e
   induction e with
   |zero=>intro _;exact fI _
   |succ e ih =>
    intro he;have h1:=nZ T.up (all e (by lia));obtain⟨_,b,c⟩:=aJ T.up (e+1);by_cases z:below t.place e<below t.place (e+1)
    ·lia
    ·have:=c (below t.place e) (by lia) h1.1;lia
  have:=go t.mask (cw _);have:=(nZ T.up (all t.mask (cw _))).1;lia
def TI.put(T:TI t es)(hj:j<=t.mask)(hn:taken t.place j=false)(hr:Reach t.mask t.place h j)(ht:t'.mask=t.mask)(hp:t'.place=insertAt t.place (below t.place j) j)(hd:t'.dummies = #[])(hf:(es.size+1)*5<t.mask*3):TI t' (insertAt es (below t.place j) (h,x)):=by
 have a:=(aJ T.up j).1;have a':below t.place j<=es.size:=by rw[<- T.sz];exact a
 refine⟨by rw[ht];exact T.pw,by rw[hp,bw _ _ a,bw _ _ a',T.sz],by rw[hp];exact Bw T.up hn,λi hi=>?_,hd,by rw[bw _ _ a',ht];exact hf,λi g y e=>?_⟩
 ·rw[hp,bw _ _ a] at hi;rw[hp,cU a,ht];split
  ·exact T.le i (by lia)
  ·split
   ·exact hj
   ·exact T.le (i-1) (by lia)
 ·have mono:∀ {g:Int} {k:Nat},Reach t.mask t.place g k->Reach t'.mask t'.place g k:=λ{g k} ⟨n,h1,h2,h3⟩=>⟨n,by rw[ht];exact h1,by rw[ht];exact h2,λq hq=>by
   rw[hp,ht,yu T.up hn,h3 q hq,Bool.or_true]⟩
  rw[Sq es _ a'] at e;rw[hp,cU a,<- hp];by_cases h1:i<below t.place j
  ·rw[if_pos h1] at e ⊢;exact mono (T.path i g y e)
  ·rw[if_neg h1] at e ⊢;by_cases h2:i=below t.place j
   ·rw[if_pos h2] at e ⊢;cases e;exact mono hr
   ·rw[if_neg h2] at e ⊢;exact mono (T.path (i-1) g y e)
end
theorem aV{α:Type}[DecidableEq α]:∀ {l m:List α},l.Nodup->(∀ x∈l,x∈m)->l.length<=m.length
 |[],_,_,_=>fI _
 |x :: l,m,nd,h=>by rw[kA] at nd;have hx:=h x cy;have:=aV (m:=m.erase x) nd.2 λy hy=>(List.mem_erase_of_ne (λe=>nd.1 (by rw[<- e];exact hy))).mpr (h y (c9 _ hy));rw[List.length_erase_of_mem hx] at this;have:0<m.length:=UB hx;simp only[pd];lia
def kF(owner:Array (Option Nat))(j:Nat):Bool:=(owner.getD j (some 0)).isSome
def qg(h:Int)(owner:Array (Option Nat)):∀ (fuel k:Nat),(∀ q<kP M h k,kF owner (J M h q)=true)->(∃ K,k<=K/\K<k+fuel/\K<=M+13/\kF owner (lp M h K).1=false) ->
  ∃ j n,layClean.free M owner fuel (lp M h k).1 (lp M h k).2=some j/\J M h n=j/\n<=10*(M+13)/\kF owner j=false/\∀ q<n,kF owner (J M h q)=true
 |0,k,_,⟨K,h1,h2,_⟩=>by lia
 |fuel+1,k,hq,⟨K,h1,h2,h3,h4⟩=>by
  have WB:∀ r,r<=runEnd M (lp M h k).1-(lp M h k).1->J M h (kP M h k+r)=(lp M h k).1+r:=λr hr=>by unfold J;rw[v_ M h (kP M h k) r (by rw[tO];exact hr),tO]
  have hle:=uw (FN M h k);have e:∀ r,(owner.getD ((lp M h k).1+r) (some 0)).isNone = !kF owner ((lp M h k).1+r):=λr=>by unfold kF;cases owner.getD ((lp M h k).1+r) (some 0)<;>rfl
  unfold layClean.free
  cases hf:(List.range (runEnd M (lp M h k).1+1-(lp M h k).1)).find? λr=>(owner.getD ((lp M h k).1+r) (some 0)).isNone with
  |some r =>
   obtain⟨a1,a2,a3⟩:=List.find?_range_eq_some.mp hf;have a2:r<runEnd M (lp M h k).1+1-(lp M h k).1:=by simpa using a2
   rw[e] at a1;have a1:kF owner ((lp M h k).1+r)=false:=by simpa using a1
   have occs:∀ q<kP M h k+r,kF owner (J M h q)=true:=λq TY=>by
    by_cases z:q<kP M h k
    ·exact hq q z
    ·have:=a3 (q-kP M h k) (by lia);rw[e] at this;have hj:=WB (q-kP M h k) (by lia);rw[show kP M h k+(q-kP M h k)=q by lia] at hj;rw[hj];simpa using this
   refine⟨_,kP M h k+r,rfl,WB r (by lia),?_,a1,occs⟩;have hb:=vZ M h K;by_cases z:kP M h k+r<=kP M h K
   ·lia
   ·have:=occs (kP M h K) (by lia);rw[Hn,h4] at this;cases this
  |none =>
   have hn:=List.find?_eq_none.mp hf;have cb':∀ r,r<=runEnd M (lp M h k).1-(lp M h k).1->kF owner ((lp M h k).1+r)=true:=λr hr=>by have:=hn r (by simp;lia);rw[e] at this;simpa using this
   have hK:K≠k:=λz=>by subst z;have:=cb' 0 (fI _);rw[Pm,h4] at this;cases this
   refine qg h owner fuel (k+1) (λq TY=>?_) ⟨K,by lia,by lia,h3,h4⟩;by_cases z:q<kP M h k
   ·exact hq q z
   ·have TY:q<kP M h k+(runEnd M (lp M h k).1-(lp M h k).1)+1:=TY;have hj:=WB (q-kP M h k) (by lia);rw[show kP M h k+(q-kP M h k)=q by lia] at hj;rw[hj];exact cb' _ (by lia)
structure OI(M:Nat)(hs:List Int)(owner:Array (Option Nat)):Prop where
 sz:owner.size=M+1
 lt:∀ j v:Nat,owner[j]? = some (some v)->v<hs.length
 inj:∀ j j' v:Nat,owner[j]? = some (some v)->owner[j']? = some (some v)->j=j'
 all:∀ v:Nat,v<hs.length->∃ j:Nat,owner[j]? = some (some v)
 path:∀ j v:Nat,owner[j]? = some (some v)->∃ n,n<=10*(M+13)/\J M (hs.getD v 0) n=j/\∀ q<n,kF owner (J M (hs.getD v 0) q)=true
def rG(h:j<owner.size):kF owner j=true↔∃ v,owner[j]? = some (some v):=by
 unfold kF;rw[CB h];simp only[Array.getD,h,dite_true,Option.some.injEq]
 cases hh:owner[j] with
 |none =>have:owner.getInternal j h=none:=hh;rw[this];simp
 |some v =>have:owner.getInternal j h=some v:=hh;rw[this];simp
def OI.free(O:OI M hs owner)(hl:hs.length<=M):∃ e,e<=M/\kF owner e=false:=by
 by_cases c:∃ e,e<=M/\kF owner e=false
 ·exact c
 ·exfalso;have all:∀ e,e<=M->∃ v,owner[e]? = some (some v):=λe he=>by
   refine(rG (by rw[O.sz];lia)).mp ?_
   cases z:kF owner e with
   |true=>rfl
   |false=>exact absurd ⟨e,he,z⟩ c
  have nd:((List.range (M+1)).map λj=>(owner.getD j none).getD 0).Nodup:=by rw[Rq,iP];refine List.Pairwise.imp_of_mem ?_ (Rq.mp UN);intro a b ha hb gL z;obtain⟨va,ea⟩:=all a (by have:=ox.mp ha;lia);obtain⟨vb,eb⟩:=all b (by have:=ox.mp hb;lia);rw[IX,IX,ea,eb] at z;subst z;exact gL (O.inj _ _ _ ea eb)
  have:=aV nd λx hx=>by obtain⟨j,hj,rfl⟩:=bT.mp hx;obtain⟨v,e⟩:=all j (by have:=ox.mp hj;lia);rw[IX,e];exact ox.mpr (O.lt _ _ e)
  simp at this;lia
def OI.lay(hM:M+1=2 ^ m)(O:OI M hs owner)(hl:hs.length<=M)(h:Int) :
  ∃ j,layClean.free M owner (turns M) (bits h % (M+1)) (bits h)=some j/\OI M (hs++[h]) (owner.setIfInBounds j (some hs.length)):=by
 obtain⟨e,he,hf⟩:=O.free hl;obtain⟨K,hK,hKe⟩:=cover hM h he;obtain⟨j,n,e1,e2,e3,e4,e5⟩:=qg h owner (turns M) 0 (λq hq=>absurd hq (IL q)) ⟨K,fI _,by unfold turns;lia,hK,by rw[hKe];exact hf⟩;refine⟨j,e1,?_⟩;have hj:j<owner.size:=by rw[O.sz,<- e2];exact RQ (TX M h n)
 have get:∀ i,(owner.setIfInBounds j (some hs.length))[i]? = if j=i then some (some hs.length) else owner[i]? := λi=>by
  by_cases z:j=i
  ·subst z;simp[hj]
  ·simp[z]
 have oc:∀ i,kF owner i=true->kF (owner.setIfInBounds j (some hs.length)) i=true:=λi hi=>by
  unfold kF at hi ⊢;rw[IX] at hi ⊢;rw[get];split
  ·rfl
  ·exact hi
 have gL:∀ v,owner[j]?≠some (some v):=λv z=>by have:=(rG hj).mpr ⟨v,z⟩;rw[e4] at this;cases this
 refine⟨by rw[Array.size_setIfInBounds];exact O.sz,λi v z=>?_,λi i' v z z'=>?_,λv hv=>?_,λi v z=>?_⟩
 ·rw[get] at z;split at z
  ·cases z;simp
  ·have:=O.lt i v z;simp;lia
 ·rw[get] at z z';split at z
  ·cases z;split at z'
   ·lia
   ·exact absurd (O.lt _ _ z') (wq _)
  ·split at z'
   ·cases z';exact absurd (O.lt _ _ z) (wq _)
   ·exact O.inj i i' v z z'
 ·simp at hv;by_cases c:v=hs.length
  ·exact⟨j,by rw[get,if_pos rfl,c]⟩
  ·obtain⟨i,hi⟩:=O.all v (by lia);refine⟨i,?_⟩;rw[get,if_neg (λz=>gL v (by rw[z];exact hi))];exact hi
 ·rw[get] at z;split at z
  ·rename_i WC;cases z;refine⟨n,e3,?_,λq hq=>oc _ ?_⟩
   ·rw[IB,Cb (cw _)];simp[e2,WC]
   ·have:=e5 q hq;simpa using this
  ·have hv:=O.lt i v z;obtain⟨n',a1,a2,a3⟩:=O.path i v z;have eg:(hs++[h]).getD v 0=hs.getD v 0:=by rw[IB,IB,Fc hv]
   rw[eg];exact⟨n',a1,a2,λq hq=>oc _ (a3 q hq)⟩
def OI.nil(M:Nat):OI M [] (Array.replicate (M+1) none):=by
 have no:∀ (j v:Nat),¬ (Array.replicate (M+1) none)[j]? = some (some v):=λj v z=>by rw[Array.getElem?_replicate] at z;split at z<;>cases z
 exact⟨by simp,λj v z=>absurd z (no j v),λj j' v z _=>absurd z (no j v),λv hv=>absurd hv (IL v),λj v z=>absurd z (no j v)⟩
def Ek(hM:M+1=2 ^ m)(hs:Array Int)(hl:hs.size<=M):∃ owner,layClean M hs=some owner/\OI M hs.toList owner:=by
 have go:∀ (l pre:List Int) owner,OI M pre owner->pre.length+l.length<=M->∃ cc',l.foldl (λacc h=>do
   let (owner,k) ← acc
   let j ← layClean.free M owner (turns M) (bits h % (M+1)) (bits h)
   pure (owner.setIfInBounds j (some k),k+1)) (some (owner,pre.length))=some (cc',pre.length+l.length)/\OI M (pre++l) cc':=by
  intro l
  induction l with
  |nil=>intro pre owner O _;exact⟨owner,rfl,by rw[sP];exact O⟩
  |cons h l ih =>
   intro pre owner O hz;rw[pd] at hz;obtain⟨j,e,O'⟩:=O.lay hM (by lia) h;obtain⟨o2,e2,O2⟩:=ih (pre++[h]) _ O' (by simp;lia);refine⟨o2,?_,by rw[A4] at O2;exact O2⟩;rw[List.foldl_cons];have:(do
    let (owner,k) ← (some (owner,pre.length):Option (Array (Option Nat) × Nat))
    let j ← layClean.free M owner (turns M) (bits h % (M+1)) (bits h)
    pure (owner.setIfInBounds j (some k),k+1))=some (owner.setIfInBounds j (some pre.length),(pre++[h]).length):=by
    simp[e]
   rw[this,e2];simp;lia
 obtain⟨o,e,O⟩:=go hs.toList [] _ (OI.nil M) (by simpa using hl);refine⟨o,?_,by simpa using O⟩;unfold layClean;rw[<- Array.foldl_toList];have e':=e;simp only[RH] at e';rw[e'];rfl
theorem iD:∀ (fuel a:Nat),3<=a->n<2 ^ (a+fuel)->∃ b,3<=b/\sizeAbove.go n fuel (2 ^ a)=2 ^ b/\n<2 ^ b/\(2 ^ b<=2*n\/b=a)
 |0,a,ha,h=>⟨a,ha,rfl,by simpa using h,.inr rfl⟩
 |fuel+1,a,ha,h=>by
  unfold sizeAbove.go;by_cases c:2 ^ a<=n
  ·rw[if_pos c];obtain⟨b,h1,h2,h3,h4⟩:=iD fuel (a+1) (by lia) (by rw[show a+1+fuel=a+(fuel+1) by lia];exact h);refine⟨b,h1,by rw[Ct] at h2;exact h2,h3,?_⟩;rcases h4 with h4|h4
   ·exact .inl h4
   ·left;rw[h4,Ct];lia
  ·rw[if_neg c];exact⟨a,ha,rfl,by lia,.inr rfl⟩
def lu(h:n<2 ^ 60):∃ b,3<=b/\sizeAbove n=2 ^ b/\n<2 ^ b/\(2 ^ b<=2*n\/b=3) :=
 iD 64 3 (cw _) (UT h (by decide))
section
variable {α:Type}
def bA(M:Nat)(owner:Array (Option Nat)):List (Nat × Nat):=(List.range (M+1)).filterMap λj=>(owner.getD j none).map (j,·)
def dM:p∈bA M owner↔p.1<M+1/\owner[p.1]? = some (some p.2):=by
 unfold bA;rw[UH];constructor
 ·rintro⟨j,hj,e⟩;rw[IX] at e
  cases h:owner[j]? with
  |none=>rw[h] at e;cases e
  |some o =>
   rw[h] at e
   cases o with
   |none=>cases e
   |some v =>cases e;exact⟨ox.mp hj,h⟩
 ·rintro⟨h1,h2⟩;exact⟨p.1,ox.mpr h1,by rw[IX,h2];rfl⟩
def rY(M:Nat)(owner:Array (Option Nat)):((bA M owner).map (·.1)).Pairwise (· < ·):=by
 unfold bA;rw[iP,List.pairwise_filterMap];refine List.Pairwise.imp ?_ List.pairwise_lt_range;intro a b E4 p hp q hq
 cases h1:owner.getD a none with
 |none=>rw[h1] at hp;cases hp
 |some x =>
  cases h2:owner.getD b none with
  |none=>rw[h2] at hq;cases hq
  |some y =>rw[h1] at hp;rw[h2] at hq;cases hp;cases hq;exact E4
def sY{l:List Nat}(h:l.Pairwise (· < ·)):Up l.toArray:=λi j kf hj=>by
 have hj:j<l.length:=by simpa using hj
 have:=xI.mp h i j (by lia) hj kf;have e:∀ k hk,l.toArray.getD k 0=l[k]:=λk hk=>by simp[Array.getD,hk]
 rw[e i (by lia),e j hj];exact this
theorem t_{β:Type}{f:α->Option β}:∀ {l:List α},(∀ x∈l,(f x).isSome=true)->(l.filterMap f).length=l.length/\∀ i:Nat,(l.filterMap f)[i]? = (l[i]?).bind f
 |[],_=>⟨rfl,λi=>by simp⟩
 |x :: l,h=>by
  obtain⟨a,b⟩:=t_ λy hy=>h y (c9 _ hy);have hx:=h x cy
  cases e:f x with
  |none=>rw[e] at hx;cases hx
  |some y =>
   rw[Pg,e];refine⟨by simp[a],λi=>?_⟩
   cases i with
   |zero=>simp[e]
   |succ i=>simpa using b i
def uh(es:Array (Int × α)):(List.range es.size).filterMap (λi=>es[i]?)=es.toList:=by
 apply D5;intro i;rw[(t_ λx hx=>by
  have:=ox.mp hx;simp[this]).2 i]
 by_cases h:i<es.size
 ·rw[List.getElem?_range h,n4];rfl
 ·rw[wm (by simpa using h),wm (by simpa using h)];rfl
def DQ{M m finger moves:Nat}{led plain:Bool}(hM:M+1=2 ^ m)(hm:3<=m){es:Array (Int × α)}(hf:es.size*5<M*3) :
  ∃ t order,laid M finger moves led plain (es.map (·.1))=some (t,order)/\t.plain=plain/\t.led=led/\t.mask=M/\TI t (order.filterMap λi=>es[i]?)/\(order.filterMap λi=>es[i]?).size=es.size/\(order.filterMap λi=>es[i]?).toList.Perm es.toList/\order.toList.Perm (List.range es.size):=by
 obtain⟨owner,e,O⟩:=Ek hM (es.map (·.1)) (by rw[Array.size_map];lia);have hn:(es.map (·.1)).toList.length=es.size:=by simp
 refine⟨{ mask:=M,place:=((bA M owner).map (·.1)).toArray,dummies:=#[],finger,led,moves,plain },((bA M owner).map (·.2)).toArray,?_,rfl,rfl,rfl,?_⟩
 ·unfold laid;rw[e];rfl
 have vlt:∀ p∈bA M owner,p.2<es.size:=λp hp=>by have:=O.lt _ _ (dM.mp hp).2;lia
 have nd:((bA M owner).map (·.2)).Nodup:=by rw[Rq,iP];have:=rY M owner;rw[iP] at this;refine List.Pairwise.imp_of_mem ?_ this;intro p q hp hq fi z;have:=O.inj _ _ _ (dM.mp hp).2 (by rw[z];exact(dM.mp hq).2);lia
 have pm:((bA M owner).map (·.2)).Perm (List.range es.size):=by
  refine(List.perm_ext_iff_of_nodup nd UN).mpr λv=>⟨λhv=>?_,λhv=>?_⟩
  ·obtain⟨p,hp,rfl⟩:=bT.mp hv;exact ox.mpr (vlt p hp)
  ·obtain⟨j,hj⟩:=O.all v (by rw[hn];exact ox.mp hv);have hjs:=(NJ.mp hj).1;rw[O.sz] at hjs;exact bT.mpr ⟨(j,v),dM.mpr ⟨hjs,hj⟩,rfl⟩
 have hlen:(bA M owner).length=es.size:=by have:=pm.length_eq;simpa using this
 have xo:(((bA M owner).map (·.2)).toArray.filterMap λi=>es[i]?).toList=(bA M owner).filterMap λp=>es[p.2]? := by rw[Array.toList_filterMap,UI];rfl
 obtain⟨f1,f2⟩:=t_ (l:=bA M owner) (f:=λp=>es[p.2]?) λp hp=>by simp[vlt p hp]
 have jg':∀ i:Nat,(((bA M owner).map (·.2)).toArray.filterMap λi=>es[i]?)[i]? = ((bA M owner)[i]?).bind λp=>es[p.2]? := λi=>by rw[<- n4,xo];exact f2 i
 have f7:(((bA M owner).map (·.2)).toArray.filterMap λi=>es[i]?).size=es.size:=by rw[<- A5,xo,f1,hlen]
 have kX:∀ i:Nat,∀ p,(bA M owner)[i]? = some p->((bA M owner).map (·.1)).toArray.getD i 0=p.1:=λi p hp=>by simp[hp]
 have tk:∀ j,kF owner j=true->j<=M->taken ((bA M owner).map (·.1)).toArray j=true:=λj hj hM'=>by
  obtain⟨v,hv⟩:=(rG (by rw[O.sz];lia)).mp hj;obtain⟨i,hi⟩:=MZ.mp (dM.mpr (show((j,v):Nat × Nat).1<M+1/\owner[((j,v):Nat × Nat).1]? = some (some ((j,v):Nat × Nat).2) from⟨by lia,hv⟩));exact(eG (sY (rY M owner))).mpr ⟨i,by
   have:=(iN.mp hi).1;simpa using this,kX i _ hi⟩
 refine⟨?_,f7,?_,by simpa using pm⟩
 ·refine⟨⟨m,hM,hm⟩,?_,sY (rY M owner),λi hi=>?_,rfl,by rw[f7];exact hf,λi h x hx=>?_⟩
  ·rw[f7];simp[hlen]
  ·have hi:i<(bA M owner).length:=by simpa using hi
   have e1:=kR hi;show((bA M owner).map (·.1)).toArray.getD i 0<=M;rw[kX i _ e1];have:=(dM.mp (ly e1)).1;lia
  ·rw[jg'] at hx
   cases hp:(bA M owner)[i]? with
   |none=>rw[hp] at hx;cases hx
   |some p =>
    rw[hp] at hx;have hx:es[p.2]? = some (h,x):=hx;have LV:=dM.mp (ly hp);obtain⟨n,a1,a2,a3⟩:=O.path _ _ LV.2;have hh:(es.map (·.1)).toList.getD p.2 0=h:=by rw[IB,n4,Array.getElem?_map,hx];rfl
    rw[hh] at a2 a3;refine⟨n,a1,?_,λq hq=>tk _ (a3 q hq) (TX M h q)⟩;rw[kX i _ hp];exact a2
 ·rw[xo];have:=pm.filterMap λi=>es[i]?;rw[uh,UI] at this;exact this
def pY{t:SetTable}{es:Array (Int × α)}(hn:es.size<=10000) :
  ∃ t' order,t.relaid (es.map (·.1)) (grown es.size)=some (t',order)/\t'.plain=t.plain/\t'.led=t.led/\sizeAbove (grown es.size)<=16777216/\(es.size<=1000->t'.mask<=8191)/\TI t' (order.filterMap λi=>es[i]?)/\(order.filterMap λi=>es[i]?).size=es.size/\(order.filterMap λi=>es[i]?).toList.Perm es.toList/\order.toList.Perm (List.range es.size):=by
 have hg:grown es.size=es.size*4:=by unfold grown;rw[if_neg (by lia)]
 obtain⟨b,h3,e,fi,hle⟩:=lu (n:=es.size*4) (by lia);have h8:8<=2 ^ b:=Nat.pow_le_pow_right (n:=2) (by decide) h3;unfold relaid;rw[hg,e];obtain⟨t',order,q1,q2,q3,qm,q4⟩:=DQ (M:=2 ^ b-1) (by lia) h3 (es:=es) (by lia);refine⟨t',order,q1,q2,q3,?_,λhz=>?_,q4⟩
 ·rcases hle with hle|rfl
  ·lia
  ·decide
 ·rw[qm];rcases hle with hle|rfl
  ·lia
  ·decide
end
section
variable {α:Type}{t:SetTable}{es:Array (Int × α)}
def mZ(T:TI t es)(hashAt:Nat->Int)(h:Int):∀ (fuel n:Nat),(∃ N,n<=N/\N<n+fuel/\taken t.place (J t.mask h N)=false) ->
  ∃ n',n<=n'/\n'<n+fuel/\(∀ q,n<=q->q<n'->taken t.place (J t.mask h q)=true/\hashAt (below t.place (J t.mask h q))≠h) /\ ((taken t.place (J t.mask h n')=false/\probe.go t hashAt h fuel (ps t.mask h n)=some (.empty (J t.mask h n') none)) \/ (taken t.place (J t.mask h n')=true/\hashAt (below t.place (J t.mask h n'))=h/\probe.go t hashAt h fuel (ps t.mask h n)=some (.candidate (J t.mask h n') (below t.place (J t.mask h n')) (ps t.mask h (n'+1)))))
 |0,n,⟨N,h1,h2,_⟩=>by lia
 |fuel+1,n,⟨N,h1,h2,h3⟩=>by
  unfold probe.go;have hs:=T.slot (J t.mask h n);have hd:=(Gd t.mask h n).2.2.1;by_cases c:taken t.place (J t.mask h n)=true
  ·rw[if_pos c] at hs;have hs:t.slot (ps t.mask h n).j=.live (below t.place (J t.mask h n)):=hs;rw[hs];dsimp only;by_cases e:hashAt (below t.place (J t.mask h n))=h
   ·rw[if_pos (by simpa using e)];exact⟨n,cw _,by lia,λq a b=>by lia,.inr ⟨c,e,rfl⟩⟩
   ·rw[if_neg (by simpa using e)];have hN:N≠n:=λz=>by rw[z,c] at h3;cases h3
    obtain⟨n',a1,a2,a3,a4⟩:=mZ T hashAt h fuel (n+1) ⟨N,by lia,by lia,h3⟩;refine⟨n',by lia,by lia,λq b1 b2=>?_,a4⟩;by_cases z:q=n
    ·subst z;exact⟨c,e⟩
    ·exact a3 q (by lia) b2
  ·have c:taken t.place (J t.mask h n)=false:=by simpa using c
   rw[if_neg (by rw[c];exact kG)] at hs;have hs:t.slot (ps t.mask h n).j=.empty:=hs;rw[hs];rw[hd];exact⟨n,cw _,by lia,λq a b=>by lia,.inl ⟨c,rfl⟩⟩
end
section
variable {prog:d5}{w:eJ}{K:Type}[DecidableEq K]{knd:KeyKind prog w K}
abbrev aK(knd:KeyKind prog w K)(k:List K):Int:=tupleKeyHash knd k
def zy(knd:KeyKind prog w K)(p:List K × ah):Int × ae:=(aK knd p.1,.ref p.2)
structure E5(knd:KeyKind prog w K)(h:dy)(a:ah)(ks:List (List K × ah)):Prop where
 ob:∃ o es ep t,h.get? a=some o/\o.ExactSet/\o.data=.set es ep t/\TI t es/\t.mask<=8191/\t.led=(!w.params.followText "set-order")/\es.toList=ks.map (zy knd)
 nd:(ks.map (·.1)).Nodup
 is:∀ p∈ks,IsTupleKey knd h p.1 p.2
variable {A:fh}{E:ae->ax->Prop}{s:ax}
def jK(hk:IsTupleKey knd s.heap k a)(h:Q false s):bP (aS prog w) A (ofAClassStatement 8 (.ref a)) Q E s:=by
 have hT:=hk.typeIs;obtain⟨o,items,n,ho,_,hd,hi⟩:=hk;unfold ofAClassStatement;refine aw (wpAny_typeOf hT ?_);refine aw ?_;refine bG ?_;refine aw (wpAny_seqItems ho hd ?_);refine aw ?_;rw[<- Array.forIn_toList];refine wpAny_forIn_list _ (λrest r s'=>r.1=none/\s'=s/\∀ v∈rest,carriedByValue v=true) _ ?_ ?_ _ _ ⟨rfl,rfl,hi.byValue⟩
 ·rintro v rest r s' ⟨hr,rfl,nE⟩;have hv:=nE v cy;have e:ofAClassStatement 7 v=pure false:=by
   cases v with
   |ref a=>cases hv
   |_=>rfl
  rw[e];exact aw (bG (bG ⟨rfl,rfl,λu E6=>nE u (c9 _ E6)⟩))
 ·rintro⟨r1,r2⟩ s' ⟨hr,rfl,_⟩;subst hr;exact bG h
def gZ(hk:IsTupleKey knd s.heap k a)(qV:∀ k v,knd.is k v=true->v.scannable=true)(h:∀ b,Q b s):bP (aS prog w) A (hashByValue 8 (.ref a)) Q E s:=by
 have hT:=hk.typeIs;obtain⟨o,items,n,ho,_,hd,hi⟩:=hk;have jh':∀ v∈items.toList,v.scannable=true:=by
  generalize items.toList=l at hi
  induction hi with
  |nil=>intro v hv;cases hv
  |cons h1 _ ih =>
   intro v hv;rcases eK.mp hv with rfl|hv
   ·exact qV _ _ h1
   ·exact ih v hv
 refine aw (wpAny_specialOf hT F.slot_tuple_hash.lookup ?_);refine aw (wpAny_seqItems ho hd ?_);dsimp only[Option.getD];refine aw ?_;rw[<- Array.forIn_toList];refine wpAny_forIn_list _ (λrest r s'=>s'=s/\∀ v∈rest,v.scannable=true) _ ?_ ?_ _ _ ⟨rfl,jh'⟩
 ·rintro v rest r s' ⟨rfl,nE⟩;rw[hashByValue_scannable 7 (nE v cy)];refine aw (bG ?_);split
  ·exact bG (bG (h _))
  ·exact bG ⟨rfl,λu E6=>nE u (c9 _ E6)⟩
 ·rintro⟨r1,r2⟩ s' ⟨rfl,_⟩
  cases r1 with
  |none=>exact bG (h true)
  |some b=>exact bG (h b)
end
local macro_rules | `(tactic| walk_at $s:str) => do
 let x:=s.getString
 if x.startsWith "PV" then `(tactic| exact $(Lean.mkIdent (.str (.str (.num (.str (.str (.str .anonymous "_private") "PySem") "SetOps") 0) "PySem") (x.drop 2).toString)))
 else Lean.Macro.throwUnsupported
abbrev xY:Array (Int × ae)->Nat->Int:=by walk_at "PVstoredHashAt"
abbrev CN:Array (Int × ae)->Option (SetTable × Array Nat)->Sem (Array (Int × ae) × SetTable):=by walk_at "PVreordered"
abbrev mW:Array (Int × ae)->SetTable->Bool:=by walk_at "PVdrawn"
abbrev GC:Bool->Sem Unit:=by walk_at "PVgaveWayHere"
def rN:Array (Int × ae)->Nat->Int:=xY
def qD(es:Array (Int × ae))(i:Nat):rN es i=(es[i]?.map (·.1)).getD 0:=rfl
section
variable {prog:d5}{w:eJ}{K:Type}[DecidableEq K]{knd:KeyKind prog w K}{A:fh}{E:ae->ax->Prop}{s:ax}
def u_(hk:IsTupleKey knd s.heap k a)(hy:∀ y∈ys,∃ k' b,y=.ref b/\IsTupleKey knd s.heap k' b)(h:Q false s):bP (aS prog w) A (searchCouldBeSeen (.ref a) ys) Q E s:=by
 refine aw ?_;refine wpAny_forIn_list _ (λrest r s'=>r.1=none/\s'=s/\∀ y∈rest,∃ k' b,y=.ref b/\IsTupleKey knd s.heap k' b) _ ?_ ?_ _ _ ⟨rfl,rfl,hy⟩
 ·rintro y rest r s' ⟨hr,rfl,nE⟩;obtain⟨k',b,rfl,hb⟩:=nE y cy;dsimp only;split
  ·exact bG ⟨rfl,rfl,λu E6=>nE u (c9 _ E6)⟩
  ·exact aw (wpAny_eqIsQuiet_tuple hk (aw (wpAny_eqIsQuiet_tuple hb (aw (jK hk (aw (jK hb (bG ⟨rfl,rfl,λu E6=>nE u (c9 _ E6)⟩))))))))
 ·rintro⟨r1,r2⟩ s' ⟨hr,rfl,_⟩;subst hr;exact bG h
def Jx{K G:Prop}(pk:K)(h:K->G):G:=h pk
def qK{a x:ah}{k:List K}{ks:List (List K × ah)}{o:Obj}{es:Array (Int × ae)}{ep:Nat}{t:SetTable}(hu:A.units<eR)(ho:s.heap.get? a=some o)(hd:o.data=.set es ep t)(T:TI t es)(he:es.toList=ks.map (zy knd))(mN:∀ p∈ks,IsTupleKey knd s.heap p.1 p.2) (hx:IsTupleKey knd s.heap k x) {Q:SetFound->ax->Prop} (cf':k∈ks.map (·.1)->Q (.there none) s)(nf:Nat) (hnf:nf<=10*(t.mask+13)) (GL:taken t.place (J t.mask (aK knd k) nf)=false) (hbf:∀ q<nf,taken t.place (J t.mask (aK knd k) q)=true)(FT:k∉ks.map (·.1)->Q (.free (J t.mask (aK knd k) nf) false) s) :
  ∀ (fuel n:Nat) (stand:Option Probe),stand.getD (t.probeStart (aK knd k))=ps t.mask (aK knd k) n->n<=nf->nf<n+fuel -> (∀ q<n,∀ p,ks[below t.place (J t.mask (aK knd k) q)]? = some p->p.1≠k)->bP (aS prog w) A (setSearchFrom a (.ref x) (aK knd k) true fuel stand) Q E s
 |0,n,stand,_,h1,h2,_=>by lia
 |fuel+1,n,stand,lP,h1,h2,hq=>by
  have LW:∀ i:Nat,es[i]? = (ks[i]?).map (zy knd):=λi=>by rw[<- n4,he,nh]
  refine aw (AV ho hd T.fits ?_);dsimp only;rw[if_neg (by rw[T.odd];exact kG)];obtain⟨n',a1,a2,a3,a4⟩:=mZ T (rN es) (aK knd k) (10*turns t.mask) n ⟨nf,h1,by unfold turns;lia,GL⟩;have U8:n'<=nf:=by
   by_cases z:n'<=nf
   ·exact z
   ·have:=(a3 nf h1 (by lia)).1;rw[GL] at this;cases this
  rcases a4 with⟨c1,c2⟩|⟨c1,c2,c3⟩
  ·have c2:t.probe (rN es) (aK knd k) (stand.getD (t.probeStart (aK knd k)))=some (.empty (J t.mask (aK knd k) n') none):=by rw[lP];exact c2
   have e:n'=nf:=by
    by_cases z:n'<nf
    ·have:=hbf n' z;rw[c1] at this;cases this
    ·lia
   have c2:t.probe (xY es) (aK knd k) (stand.getD (t.probeStart (aK knd k)))=some (.empty (J t.mask (aK knd k) n') none):=c2;rw[c2];rw[e];refine bG (FT λhm=>?_);obtain⟨p,hp,rfl⟩:=bT.mp hm;obtain⟨i,hi⟩:=MZ.mp hp;have ei:es[i]? = some (aK knd p.1,.ref p.2):=by rw[LW,hi];rfl
   have ch':i<t.place.size:=by rw[T.sz];exact(NJ.mp ei).1
   obtain⟨ni,b1,b2,b3⟩:=T.path i _ _ ei;have bt:below t.place (J t.mask (aK knd p.1) ni)=i:=by rw[b2];exact below_at T.up ch'
   have tk:taken t.place (J t.mask (aK knd p.1) ni)=true:=by rw[b2];exact(eG T.up).mpr ⟨i,ch',rfl⟩
   have fi:ni<nf:=by
    by_cases z:nf<ni
    ·have:=b3 nf z;rw[GL] at this;cases this
    ·have:ni≠nf:=λz=>by rw[z,GL] at tk;cases tk
     lia
   by_cases z:ni<n
   ·exact hq ni z p (by rw[bt];exact hi) rfl
   ·refine(a3 ni (by lia) (by lia)).2 ?_;rw[bt,qD,ei];rfl
  ·have c3:t.probe (xY es) (aK knd k) (stand.getD (t.probeStart (aK knd k)))=some (.candidate (J t.mask (aK knd k) n') (below t.place (J t.mask (aK knd k) n')) (ps t.mask (aK knd k) (n'+1))):=by rw[lP];exact c3
   rw[c3];dsimp only;have tk:=nZ T.up c1;have T1:t.slot (J t.mask (aK knd k) n')=.live (below t.place (J t.mask (aK knd k) n')):=by rw[T.slot,if_pos c1]
   generalize hi:below t.place (J t.mask (aK knd k) n')=i at tk c2 T1 ⊢;have hil:i<es.size:=by rw[<- T.sz];exact tk.1
   obtain⟨p,hp⟩:∃ p,ks[i]? = some p:=by
    have:i<ks.length:=by have:=congrArg List.length he;simp at this;lia
    exact⟨_,kR this⟩
   have ei:es[i]? = some (aK knd p.1,.ref p.2):=by rw[LW,hp];rfl
   have hpm:=ly hp;have gL:n'≠nf:=λz=>by rw[z,GL] at c1;cases c1
   have again:¬ p.1=k->bP (aS prog w) A (setSearchFrom a (.ref x) (aK knd k) true fuel (some (ps t.mask (aK knd k) (n'+1)))) Q E s:=λhpk =>
    qK hu ho hd T he mN hx cf' nf hnf GL hbf FT fuel (n'+1) (some (ps t.mask (aK knd k) (n'+1))) rfl (by lia) (by lia) λq TY p' fz=>by
     by_cases z:q<n
     ·exact hq q z p' fz
     ·by_cases z2:q=n'
      ·subst z2;rw[hi,hp] at fz;cases fz;exact hpk
      ·intro e';have:=(a3 q (by lia) (by lia)).2;refine this ?_;rw[qD,LW,fz];show aK knd p'.1=_;rw[e']
   have aE:p.1=k->k∈ks.map (·.1):=λe=>e ▸ bT.mpr ⟨p,hpm,rfl⟩;have seen:∀ y∈List.map (λx=>x.snd) (Array.filter (λx=>x.fst == aK knd k) es).toList,∃ k' b,y=.ref b/\IsTupleKey knd s.heap k' b:=λy hy=>by obtain⟨e',Tc,rfl⟩:=bT.mp hy;rw[Array.toList_filter] at Tc;have:=(ot.mp Tc).1;rw[he] at this;obtain⟨p',fz,rfl⟩:=bT.mp this;exact⟨p'.1,p'.2,rfl,mN p' fz⟩
   refine Jx ?pk (K:=?K) λkey=>?main;case main =>
    split
    ·refine aw (u_ hx seen ?_);exact key
    ·exact key
   rw[ei];refine aw (sM (wpAny_eqBool_tuple hu (mN p hpm) hx ?_));refine aw (AV ho hd T.fits ?_);by_cases e:p.1=k
   ·rw[if_pos (by simp[e])];exact bG (cf' (aE e))
   ·rw[if_neg (by simp[e])];have V0:t.sameMemory t.moves t.mask=some true:=by unfold sameMemory;rw[if_pos (by simp)]
    rw[V0];dsimp only;rw[if_pos rfl,T1];dsimp only;rw[ei];refine aw ?_;unfold isSame;dsimp only;rw[if_pos (by simp)];refine bG (aw (bG ?_));rw[if_pos rfl];dsimp only;rw[if_neg (by simp[e])];exact again e
end
def eO{α β:Type}{f:α->β}:∀ {l l2:List β},l.Perm l2->∀ {m:List α},l2=m.map f->∃ m':List α,l=m'.map f/\m'.Perm m:=by
 intro l l2 p
 induction p with
 |nil=>intro m e;exact⟨m,by rw[<- e],.refl _⟩
 |cons x _ ih =>
  intro m e
  cases m with
  |nil=>cases e
  |cons y m =>simp only[fS,List.cons.injEq] at e;obtain⟨m',e1,p1⟩:=ih e.2;exact⟨y :: m',by rw[fS,<- e1,e.1],p1.cons _⟩
 |swap x y l =>
  intro m e
  match m,e with
  |a :: b :: m,e =>simp only[fS,List.cons.injEq] at e;exact⟨b :: a :: m,by simp[e.1,e.2.1,e.2.2],.swap ..⟩
 |trans _ _ ih1 Wh =>intro m e;obtain⟨m',e1,p1⟩:=Wh e;obtain⟨m2,e2,p2⟩:=ih1 e1;exact⟨m2,e2,p2.trans p1⟩
def lA{α:Type}(xs:Array α)(p:Nat)(x:α):(insertAt xs p x).toList=xs.toList.take p++x :: xs.toList.drop p:=by unfold insertAt;simp;rw[Rt (by simp)]
def qw(hz:(order.filterMap λi=>es[i]?).size=es.size)(h:Q (order.filterMap λi=>es[i]?,t) s):bP (aS prog w) A (CN es (some (t,order))) Q E s:=by
 show bP _ _ (if ((order.filterMap λi=>es[i]?).size != es.size)=true then (do unsupported "internal:set-table-lost-an-element";pure (order.filterMap λi=>es[i]?,t)) else pure (order.filterMap λi=>es[i]?,t)) _ _ _;rw[if_neg (by simp[hz])];exact bG h
section
variable {prog:d5}{w:eJ}{K:Type}[DecidableEq K]{knd:KeyKind prog w K}{A:fh}{E:ae->ax->Prop}{s:ax}
def IsTupleKey.ft(hk:IsTupleKey knd h k a)(e:∀ o,h.get? a=some o->h'.get? a=some o):IsTupleKey knd h' k a:=by obtain⟨o,items,n,ho,r⟩:=hk;exact⟨o,items,n,e o ho,r⟩
def E5.ne(S:E5 knd h a ks)(hx:IsTupleKey knd h k x):x≠a:=by obtain⟨⟨o,es,ep,t,ho,hex,_⟩,_,_⟩:=S;obtain⟨o',items,n,oB,hc,_⟩:=hx;intro z;subst z;rw[ho] at oB;cases oB;rw[hex.1] at hc;exact absurd hc (by decide)
def Cd(S:E5 knd s.heap a ks)(hx:IsTupleKey knd s.heap k x)(hz:ks.length<1000)(hu:A.units<eR)(qV:∀ k v,knd.is k v=true->v.scannable=true)(h:∀ (b:Bool) (h':dy) (dQ:List (List K × ah)),Heap.SameBut a s.heap h'->E5 knd h' a dQ->(k∈ks.map (·.1)/\dQ=ks\/k∉ks.map (·.1)/\dQ.Perm ((k,x) :: ks))->Q b { s with heap:=h' }) :
  bP (aS prog w) A (setAddHashed a (.ref x) (aK knd k)) Q E s:=by
 obtain⟨⟨o,es,ep,t,ho,hex,hd,T,hM,hL,he⟩,nd,is⟩:=id S;have hlen:es.size=ks.length:=by have:=congrArg List.length he;simpa using this
 obtain⟨m,hm,_⟩:=T.pw;obtain⟨e0,WD,WH⟩:=T.free;obtain⟨nf,n1,n2,n3⟩:=lJ hm (aK knd k) (taken t.place) WD WH;refine sM (aw (AV ho hd T.fits ?_));dsimp only;have hbs:byScan (.ref x) es=false:=rfl;refine aw ?_;refine qK hu ho hd T he is hx (λaE=>?_) nf n1 n2 n3 (λEW=>?_) 100000 0 none rfl (fI _) (by lia) λq hq=>absurd hq (IL q)
 ·dsimp only;refine bG ?_;have e:s={ s with heap:=s.heap }:=by cases s;rfl
  exact h _ _ ks (Heap.SameBut.refl a s.heap) S (.inl ⟨aE,rfl⟩)
 ·dsimp only;generalize hj:J t.mask (aK knd k) nf=j at n2 ⊢;have WK:j<=t.mask:=by rw[<- hj];exact TX ..
  have WL:Reach t.mask t.place (aK knd k) j:=⟨nf,n1,hj,n3⟩
  refine aw (AV ho hd T.fits ?_);have WM:t.put j=({ t with place:=insertAt t.place (below t.place j) j,dummies:=#[] },below t.place j):=by
   unfold SetTable.put;have:has t.dummies j=false:=by rw[T.dm];rfl
   simp only[this,sR,if_false];rw[T.dm]
  rw[WM];have aE:(insertAt es (below t.place j) (aK knd k,.ref x)).toList=(ks.take (below t.place j)++(k,x) :: ks.drop (below t.place j)).map (zy knd):=by rw[lA,he,qB,fS,RK,RL];rfl
  have y3:(ks.take (below t.place j)++(k,x) :: ks.drop (below t.place j)).Perm ((k,x) :: ks):=by refine List.perm_middle.trans ?_;rw[O_]
  have He:below t.place j<=es.size:=by rw[<- T.sz];exact(aJ T.up j).1
  have yy:(insertAt es (below t.place j) (aK knd k,Value.ref x)).size=es.size+1:=bw _ _ He;have QD:∀ h',Heap.SameBut a s.heap h'->∀ dQ:List (List K × ah),dQ.Perm ((k,x) :: ks)->∀ p∈dQ,IsTupleKey knd h' p.1 p.2:=λh' sb dQ pm p hp=>by
   have:IsTupleKey knd s.heap p.1 p.2:=by
    rcases eK.mp (pm.mem_iff.mp hp) with rfl|hp
    ·exact hx
    ·exact is p hp
   exact IsTupleKey.ft this λo' oB=>sb.extBut _ _ (S.ne this) oB
  have QF:∀ dQ:List (List K × ah),dQ.Perm ((k,x) :: ks)->(dQ.map (·.1)).Nodup:=λdQ pm=>by rw[(pm.map _).nodup_iff,fS,kA];exact⟨EW,nd⟩
  -- behind the flag
  have main:∀ pl:Bool,bP (aS prog w) A (do
    storeSet a (insertAt es (below t.place j) (aK knd k,.ref x)) { t with place:=insertAt t.place (below t.place j) j,dummies:=#[],plain:=pl }
    if (!false && ({ t with place:=insertAt t.place (below t.place j) j,dummies:=#[],plain:=pl }:SetTable).tooFull)=true then do
      setRelay a (grown (es.size+1))
      pure true
     else pure true) Q E s:=λpl=>by
   generalize QH:({ t with place:=insertAt t.place (below t.place j) j,dummies:=#[],plain:=pl }:SetTable)=t';have tm:t'.mask=t.mask:=by rw[<- QH]
   have tp:t'.place=insertAt t.place (below t.place j) j:=by rw[<- QH]
   have td:t'.dummies = #[]:=by rw[<- QH]
   have T3:t'.fill=es.size+1:=by unfold SetTable.fill;rw[tp,td,bw _ _ (aJ T.up j).1,T.sz];simp
   refine aw (wpAny_storeSet_of ho hd ?_ (by rw[yy,iL];lia));have xh:(s.heap.update a (Obj.putSet (insertAt es (below t.place j) (aK knd k,.ref x)) t')).get? a=some { o with data:=.set (insertAt es (below t.place j) (aK knd k,.ref x)) (ep+1) t' }:=by have:=Fs (Obj.putSet (insertAt es (below t.place j) (aK knd k,.ref x)) t') ho (by rw[putSet_of _ _ hd];rfl);rw[putSet_of _ _ hd] at this;exact this
   have xt:=Heap.SameBut.update s.heap a (Obj.putSet (insertAt es (below t.place j) (aK knd k,.ref x)) t');by_cases c:t'.tooFull=true
   ·rw[if_pos (by rw[c];rfl)];have Tx:t'.fits (insertAt es (below t.place j) (aK knd k,Value.ref x)).size=true:=by have:=T.few;simp only[SetTable.fits,T3,mw,beq_iff_eq,decide_eq_true_eq];rw[tp,bw _ _ (aJ T.up j).1,yy,T.sz,tm];exact⟨rfl,by lia⟩
    obtain⟨t2,order,r1,r2,r3,r4,r5,r6,r7,r8,_⟩:=pY (es:=insertAt es (below t.place j) (aK knd k,Value.ref x)) (by lia);rw[yy] at r1 r4;refine aw (aw (AV xh rfl Tx ?_));dsimp only;rw[if_neg (by rw[iL];lia)];refine aw ?_;rw[r1];obtain⟨dQ,ek,pk⟩:=eO r8 aE;refine qw r7 ?_;refine wpAny_storeSet_of xh rfl ?_ (by rw[r7,yy,iL];lia);refine bG ?_;have HC:=xt.trans (Heap.SameBut.update _ a (Obj.putSet (order.filterMap λi=>(insertAt es (below t.place j) (aK knd k,Value.ref x))[i]?) t2));have pf:=Fs (Obj.putSet (order.filterMap λi=>(insertAt es (below t.place j) (aK knd k,Value.ref x))[i]?) t2) xh (by rw[putSet_of _ _ rfl];rfl);exact h true _ dQ HC ⟨⟨_,_,_,_,pf,hex,rfl,r6,r5 (by lia),by rw[r3,<- QH];exact hL,ek⟩,QF dQ (pk.trans y3),QD _ HC dQ (pk.trans y3)⟩ (.inr ⟨EW,pk.trans y3⟩)
   ·rw[if_neg (by simpa using c)];refine bG ?_;have vn:(es.size+1)*5<t.mask*3:=by unfold SetTable.tooFull at c;rw[T3,tm] at c;simpa using c
    exact h true _ _ xt ⟨⟨_,_,_,_,xh,hex,rfl,T.put WK n2 WL tm tp td vn,by rw[tm];exact hM,by rw[<- QH];exact hL,aE⟩,QF _ y3,QD _ xt _ y3⟩ (.inr ⟨EW,y3⟩)
  split
  ·refine aw (gZ hx qV λb=>?_)
   cases b with
   |true=>exact main t.plain
   |false=>exact main false
  ·exact aw (bG (main t.plain))
end
end TS
namespace TS
open PySem PySem.SetTable PyProof.Rows
section
variable {prog:d5}{w:eJ}{A:fh}{R:Result->ax->Prop}{I:ah}{fp wr:List ah}{n:Nat}{P:Nat->ae->Prop}{St:Nat->dy->Prop}
def Bg(W:Walks prog w A.in1 I fp wr n P St)(S:ah)(OO:S∉fp)(SI:Nat->dy->Prop)(keep:∀ i h h',SI i h->(∀ b o,b∉wr->h.get? b=some o->h'.get? b=some o)->SI i h')(step:∀ (i:Nat) (v:ae) (s':ax) (E':ae->ax->Prop) (Q:Bool->ax->Prop),P i v->SI i s'.heap->(∀ b h' tk,Heap.SameBut S s'.heap h'->SI (i+1) h'->Q b { s' with heap:=h',toks:=tk })->bP (aS prog w) A.in1 (setAdd S v) Q E' s') :
  ∀ (k i:Nat) (s:ax),n-i=k->i<=n->St i s.heap->SI i s.heap -> (∀ h' tk,SI n h'->(∀ b o,b∉wr->b≠S->s.heap.get? b=some o->h'.get? b=some o)->R (.ok (.ret .none)) { s with heap:=h',toks:=tk }) ->
   codeAny (aS prog w) A (.builtin "set.update.loop" ⟨[.ref S,.ref I],[]⟩) R s:=by
 intro k
 induction k with
 |zero =>
  intro i s hk hi lP hS hR;have aE:i=n:=by lia
  subst aE;refine B8 F.entry_set_update_loop ?_;refine aw (W.done s _ _ lP λh' tk h9=>?_);show bP _ A.in1 (ret Value.none) _ _ _;exact bG (hR h' tk (keep _ _ _ hS h9) λb o hb _ e=>h9 b o hb e)
 |succ k ih =>
  intro i s hk hi lP hS hR;have fi:i<n:=by lia
  refine B8 F.entry_set_update_loop ?_;refine aw (W.item i s _ _ fi lP λv h' tk hP jm' h9=>?_);refine aw (sM (step i v _ _ _ hP (keep _ _ _ hS h9) λb h2 tk2 sb hS2=>?_));refine bG ⟨E8 F.plain_set_update_loop _,ih (i+1) _ (by lia) fi (W.frame _ _ _ jm' λb hb o e=>?_) hS2 λh3 tk3 hS3 Lc=>?_⟩
  ·exact sb.extBut b o (λz=>OO (by rw[<- z];exact hb)) e
  ·exact hR h3 tk3 hS3 λb o hb QJ e=>Lc b o hb QJ (sb.extBut b o QJ (h9 b o hb e))
end
section
variable {prog:d5}{w:eJ}{A:fh}{E:ae->ax->Prop}{s:ax}
def xK(a:ae)(h:Q₁ (.ref s.heap.objs.size) { s with heap:=s.heap.push { cls:=.type "set",dict:=none,data:=.set #[] 0 (.fresh 0 0 (!w.params.followText "set-order")) } }) :
  codeAny (aS prog w) A (.call (.builtin "set.__new__") ⟨[.type "set",a],[]⟩) (wants Q₁ E) s:=by
 refine codeAny_of_tree ?_;refine aw (wpAny_of_eq (F.newCall_set_1 a) (bG ⟨E8 F.plain_set_new _,B8 F.entry_set_new ?_⟩));unfold Builtin.«set.__new__» Builtin.Frozenset.newClass;have jq':=sub_set_self;obtain⟨hp,g,d,tk,os⟩:=s
 wp_walk
 refine MR (bG ?_);dsimp only;refine aw (wpAny_alloc (bG ?_));exact bG h
def eF(hh:A.handled=none)(hl:s.heap.IsList l items)(SI:Nat->dy->Prop)(h0:∀ h,h.get? s.heap.objs.size=some { cls:=.type "set",dict:=none,data:=.set #[] 0 (.fresh 0 0 (!w.params.followText "set-order")) }->(∀ b o,s.heap.get? b=some o->h.get? b=some o)->SI 0 h) (keep:∀ i h h',SI i h->(∀ b o,b<=s.heap.objs.size->h.get? b=some o->h'.get? b=some o)->SI i h') (step:∀ (i:Nat) (v:ae) (s':ax) (E':ae->ax->Prop) (Q:Bool->ax->Prop),items[i]? = some v->SI i s'.heap->(∀ b h' tk,Heap.SameBut s.heap.objs.size s'.heap h'->SI (i+1) h'->Q b { s' with heap:=h',toks:=tk }) ->
   bP (aS prog w) A.in1.in1.in1 (setAdd s.heap.objs.size v) Q E' s')
  (h:∀ (h':dy) (tk:Nat),SI items.size h'->(∀ b o,b<s.heap.objs.size->s.heap.get? b=some o->h'.get? b=some o)->Q (.ref s.heap.objs.size) { s with heap:=h',toks:=tk }) :
  bP (aS prog w) A (call (.type "set") [.ref l]) Q E s:=by
 obtain⟨c,tl,my'⟩:=F.called_set.mro;have mz':=F.called_set.made;have jq':=F.called_set.sub;refine wpAny_call (codeAny_of_tree ?_);show bP _ _ (callAny (.type "set") _) _ _ _;refine bG ⟨Code.quiet_builtin _ (by decide +kernel),B8 F.entry_type_call ?_⟩;rw[Around.under_plain (weight_type_call_type "set" [.ref l] []) rfl];have h1:=F.called_set.notType;have h2:=F.called_set.canCreate;have hct:=F.typeCall_set_1 (.ref l);repeat (any_goals (first|assumption|wp_step))
 refine codeAny_mono (xK (.ref l) (E:=E) (Q₁:=λobj fT=>obj=.ref s.heap.objs.size/\fT={ s with heap:=s.heap.push { cls:=.type "set",dict:=none,data:=.set #[] 0 (.fresh 0 0 (!w.params.followText "set-order")) } }) ⟨rfl,rfl⟩) λr fT hr=>?_
 cases r with
 |error e=>exact hr
 |ok fl =>
  cases fl with
  |ret obj =>
   obtain⟨rfl,rfl⟩:=hr;generalize mB':(!w.params.followText "set-order")=led at h0 ⊢;have hS:(s.heap.push { cls:=.type "set",dict:=none,data:=.set #[] 0 (.fresh 0 0 led) }).get? s.heap.objs.size=some { cls:=.type "set",dict:=none,data:=.set #[] 0 (.fresh 0 0 led) }:=kB _ rfl;have hT:Shared.TypeIs { s with heap:=s.heap.push { cls:=.type "set",dict:=none,data:=.set #[] 0 (.fresh 0 0 led) } } (.ref s.heap.objs.size) "set" := ⟨_,hS,rfl⟩
   have hli:=F.called_set.init.lookup;have hbi:=F.called_set.init.bind (.ref s.heap.objs.size);repeat (any_goals (first|assumption|wp_step))
   refine codeAny_mono (codeAny_call_builtin (R:=wants (λr Ki=>r=.none/\∃ h' tk,Ki={ s with heap:=h',toks:=tk }/\SI items.size h' /\ (∀ b o,b<s.heap.objs.size->s.heap.get? b=some o->h'.get? b=some o)) E) F.called_set.init.plain F.entry_set_init (check_set_init_1 hT ?_)) λjr' Ki WN=>?_
   ·obtain⟨ol,WQ,mh,nl,hdl⟩:=hl;obtain⟨mE',js',mF',jt'⟩:=ol;simp only at mh hdl;subst mh;subst hdl;have ju':(s.heap.push { cls:=.type "set",dict:=none,data:=.set #[] 0 (.fresh 0 0 led) }).get? l=some { cls:=.type "list",dict:=js',data:=.seq items nl,slots:=jt' }:=gi _ WQ;have mG':=F.sub_list_set;have mH':=F.sub_list_frozenset;have gL:(Value.type "list" == Value.type "dict")=false:=by decide
    have Om:(s.heap.push { cls:=.type "set",dict:=none,data:=.set #[] 0 (.fresh 0 0 led) }).IsList l items:=⟨_,ju',rfl,nl,rfl⟩
    unfold Builtin.«set.__init__» noKeywords Builtin.Frozenset.updateFrom;generalize hPI:pyIter=PI
    wp_walk
    subst hPI;refine wpAny_pyIter_list Om ?_;refine aw (wpAny_runValue ?_);have hlS:l<s.heap.objs.size:=e9 WQ;have hh3:A.in1.in1.in1.handled=none:=by simp[hh]
    have f7:(s.heap.push { cls:=.type "set",dict:=none,data:=.set #[] 0 (.fresh 0 0 led) }).objs.size=s.heap.objs.size+1:=Heap.size_push ..;have jx':l≠(s.heap.push { cls:=.type "set",dict:=none,data:=.set #[] 0 (.fresh 0 0 led) }).objs.size:=by rw[f7];exact gp (xS hlS)
    have OO:s.heap.objs.size∉[(s.heap.push { cls:=.type "set",dict:=none,data:=.set #[] 0 (.fresh 0 0 led) }).objs.size,l]:=by rw[f7];simp only[eK,oo,IH,or_false,not_or];exact⟨gp (Nat.lt_succ_self _),ND hlS⟩
    refine Bg (Walks.list hh3 _ l jx' items) s.heap.objs.size OO SI (λi h h' hi hk=>keep i h h' hi λb o hb e=>hk b o ?_ e) (λi v s' E' Q' hP hi hq=>step i v s' E' Q' hP hi hq) (items.size-0) 0 _ (by lia) (fI _) ⟨⟨_,kB _ rfl,rfl,rfl⟩,(Om.push _)⟩ ?hS0 ?hR
    ·rw[f7];simp only[eK,IH,or_false];exact gp (RQ hb)
    case hS0 =>
     exact h0 _ (gi _ hS) λb o e=>gi _ (gi _ e)
    case hR =>
     intro h' DL QK h9;show bP _ _ _ _ _ _;refine bG ?_;show bP _ _ (ret Value.none) _ _ _;refine bG ⟨rfl,h',DL,rfl,QK,λb o hb e=>?_⟩;refine h9 b o ?_ (gp hb) (gi _ (gi _ e));rw[f7];simp only[eK,IH,or_false];exact gp (xS hb)
   ·cases jr' with
    |error e=>exact WN
    |ok jz' =>
     cases jz' with
     |ret r =>
      obtain⟨rfl,h',tk,rfl,QK,h9⟩:=WN;repeat (any_goals (first|assumption|wp_step))
      exact h _ _ QK h9
     |_=>exact WN.elim
  |_=>exact hr.elim
end
def pN:Manifest.owners.lookup (String.ofList ['r','o','t','a','r','e','t','i','_','t','e','s'].reverse)=some Manifest.sig_set_iterator:=by kernel_rfl
def bx:Slot "set_iterator" "__next__" "set_iterator.__next__" :=
 .of (owner := "set_iterator") (n := "__next__") (by rw[typeLookup_type,builtinLookup_eq_fast];kernel_rfl) (by decide +kernel) (by decide +kernel) (by decide +kernel) (by first|exact .inl (by decide +kernel)|exact .inr (by decide +kernel)) (by rw[isSubtype_type];kernel_rfl)
def lg:entryFor table "set_iterator.__next__" = some Builtin.«set_iterator.__next__» := entryFor_of_tree (by kernel_rfl)
def mK (a:ae):argsOk "set_iterator.__next__" ⟨[a],[]⟩:=by unfold argsOk;rw[signature?_of (n:=['_','_','t','x','e','n','_','_']) (by kernel_rfl) pN];kernel_rfl
def fZ:Slot "set_iterator" "__iter__" "set_iterator.__iter__" :=
 .of (owner := "set_iterator") (n := "__iter__") (by rw[typeLookup_type,builtinLookup_eq_fast];kernel_rfl) (by decide +kernel) (by decide +kernel) (by decide +kernel) (by first|exact .inl (by decide +kernel)|exact .inr (by decide +kernel)) (by rw[isSubtype_type];kernel_rfl)
def lr:entryFor table "set.__iter__" = some Builtin.«frozenset.__iter__» :=
 entryFor_alias (id' := "frozenset.__iter__") (by kernel_rfl) rfl (by decide +kernel) (by kernel_rfl)
theorem h_{α:Type}:∀ (l:List α) (i:Nat) (h:i<l.length),(l[i] :: l.eraseIdx i).Perm l
 |x :: l,0,_=>.refl _
 |x :: l,i+1,h=>by have ih:=h_ l i (by simpa using h);exact(List.Perm.swap _ _ _).trans (ih.cons x)
theorem yw{α:Type}(next:Nat->Nat):∀ (fuel k:Nat) (left:List α) (out:Array α),left.length=fuel->(pickOrder.go next fuel k left out).toList.Perm (out.toList++left)
 |0,k,left,out,h=>by have:left=[]:=Rr.mp h;subst this;unfold pickOrder.go;rw[sP]
 |fuel+1,k,left,out,h=>by unfold pickOrder.go;have fi:next k % left.length<left.length:=NH _ (by lia);rw[kR fi];refine(yw next fuel (k+1) _ _ (by rw[Rw];split<;>lia)).trans ?_;rw[qa,A4];exact List.Perm.append_left _ (h_ _ _ fi)
def jG{α:Type}(next:Nat->Nat)(xs:Array α):(pickOrder next xs).toList.Perm xs.toList:=by unfold pickOrder;have:=yw next xs.size 0 xs.toList #[] (by simp);simpa using this
section
variable {prog:d5}{w:eJ}{A:fh}{E:ae->ax->Prop}{s:ax}
def o9(hn:n≠0)(h:∀ i d,i<n->Q i { s with drawn:=d }):bP M A (choose src n) Q E s:=λΓ p _=>⟨hn,h _ _ (NH _ (Nat.pos_of_ne_zero hn))⟩
def Dq{α:Type}(n:Nat):∀ (xs:List α) (s:ax) (Q:List α->ax->Prop),xs.length=n->(∀ ys d,ys.Perm xs->Q ys { s with drawn:=d })->bP (aS prog w) A (drawOrder n xs) Q E s:=by
 induction n with
 |zero =>intro xs s Q h q;have:xs=[]:=Rr.mp h;subst this;exact bG (q [] s.drawn (.refl _))
 |succ n ih =>
  intro xs s Q h q
  cases xs with
  |nil=>cases h
  |cons x xs =>refine aw (o9 (by simp) λi d hi=>?_);rw[kR hi];exact aw (ih _ _ _ (by rw[Rw,if_pos hi];simp at h ⊢;lia) λys d' py=>bG (q _ d' ((py.cons _).trans (h_ _ _ hi))))
def t5(h:dy)(I:ah)(first:ae)(i:Nat)(a:ah)(n ep:Nat):Prop :=
 h.get? I=some { cls:=.type "set_iterator",dict:=none,data:=.fields #[first,.int i 0,.ref a,.int n 0,.int ep 0],slots:=#[] }
def DM(h:dy)(a:ah)(es:Array (Int × ae))(ep:Nat)(t:SetTable):Prop:=∃ o,h.get? a=some o/\o.data=.set es ep t
variable {a I:ah}{es:Array (Int × ae)}{ep:Nat}{t:SetTable}{first:ae}{i n:Nat}
def t5.typeIs (h:t5 s.heap I first i a n ep):s.TypeIs (.ref I) "set_iterator" := ⟨_,h,rfl⟩
def xq(hit:t5 s.heap I first i a n ep)(h:bP (aS prog w) A.in1 (Builtin.«set_iterator.__next__» ⟨[.ref I],[]⟩) (λfin s'=>∃ v,fin=.done (.ret v)/\Q (some v) s') (λe s'=>bP (aS prog w) A (isInstance e (.type "StopIteration")) (λb FP=>b=true/\Q none FP) E s') s) :
  bP (aS prog w) A (pyNext (.ref I)) Q E s:=by
 refine aw (wpAny_attempt (O7 hit.typeIs bx (B7 bx hit.typeIs lg ?_ (mK _))))
 refine wc h (λfin s' ⟨v,e,q⟩=>⟨v,e,bG q⟩) λe s' q=>?_;refine aw (wc q (λb FP eM=>?_) λ_ _ x=>x);obtain⟨e,q⟩:=eM;subst e;exact bG q
def xQ{P:Fin->ax->Prop}{Q:Option ae->ax->Prop}(hh:A.handled=none)(hQ:∀ h',(∀ b o,s.heap.get? b=some o->h'.get? b=some o)->Q none { s with heap:=h' }) :
  bP (aS prog w) A.in1 (newExc (.type "StopIteration") [] >>= λe=>raiseNew e) P (λe s'=>bP (aS prog w) A (isInstance e (.type "StopIteration")) (λb FP=>b=true/\Q none FP) E s') s:=by
 refine aw ?_;refine aw (sL ?_ (by size_fits));refine aw (wpAny_of_eq (by first|rfl|(simp only[firstArgMember];rfl)) ?_);refine sL ?_ (by size_fits);refine aw (wpAny_handled ?_);rw[show A.in1.handled=none from hh];refine aw (bG (wpAny_throw ?_));refine wpAny_isInstance ⟨_,kB _ rfl,rfl⟩ isSubtype_stop ⟨rfl,?_⟩;exact hQ _ λb o e=>gi _ (gi _ e)
def gj{Q:Option ae->ax->Prop}{slot:Nat}{r:Option (ae × Nat)}(hh:A.handled=none)(gL:a≠I)(hit:t5 s.heap I (.int slot 0) i a es.size ep)(LX:DM s.heap a es ep t)(hf:t.fits es.size=true)(hr:∀ (A':fh) (E':ae->ax->Prop) (Q':Option (ae × Nat)->ax->Prop),Q' r s->bP (aS prog w) A' (setNext a slot i ep) Q' E' s)(h1:∀ x nx h',r=some (x,nx)->t5 h' I (.int nx 0) (i+1) a es.size ep->Heap.SameBut I s.heap h'->Q (some x) { s with heap:=h' }) (h2:∀ h',r=none->(∀ b o,b≠I->s.heap.get? b=some o->h'.get? b=some o)->Q none { s with heap:=h' }) :
  bP (aS prog w) A (pyNext (.ref I)) Q E s:=by
 obtain⟨o,ho,hd⟩:=LX;refine xq hit ?_;refine aw (wpAny_of_eq rfl ?_);refine aw (wpAny_fieldsOf hit rfl ?_);refine aw (wpAny_setEntries_of ho hd hf ?_);rw[if_neg (by simp)];refine aw (hr _ _ _ ?_)
 cases r with
 |some p =>obtain⟨x,nx⟩:=p;exact aw (ML hit (by simp) λg1 e1 xt=>aw (ML e1 (by simp) λg2 e2 HC=>bG ⟨x,rfl,h1 x nx g2 rfl (by unfold t5;simpa[mS] using e2) (xt.trans HC)⟩))
 |none =>exact aw (ML hit (by simp) λg1 e1 xt=>xQ hh λh' k=>h2 h' rfl λb o hb e=>k b o (xt.extBut b o hb e))
def lF{Q:Option ae->ax->Prop}{T:ah}{ix:List Nat}{oT:Obj}{kT:Nat}(hh:A.handled=none)(hit:t5 s.heap I (.ref T) i a es.size ep)(LX:DM s.heap a es ep t)(hf:t.fits es.size=true)(hT:s.heap.get? T=some oT) (hTd:oT.data=.seq (ix.map λ(k:Nat)=>Value.int k 0).toArray kT)(h1:∀ k e h',ix[i]? = some k->es[k]? = some e->t5 h' I (.ref T) (i+1) a es.size ep->Heap.SameBut I s.heap h'->Q (some e.2) { s with heap:=h' }) (AF:∀ k∈ix,k<es.size) (h2:∀ h',ix[i]? = none->(∀ b o,b≠I->s.heap.get? b=some o->h'.get? b=some o)->Q none { s with heap:=h' }) :
  bP (aS prog w) A (pyNext (.ref I)) Q E s:=by
 obtain⟨o,ho,hd⟩:=LX;refine xq hit ?_;refine aw (wpAny_of_eq rfl ?_);refine aw (wpAny_fieldsOf hit rfl ?_);refine aw (wpAny_setEntries_of ho hd hf ?_);rw[if_neg (by simp)];refine aw (wpAny_seqItems hT hTd ?_);simp only[Pp,List.getElem?_toArray,nh]
 cases hk:ix[i]? with
 |some k =>have sf:=AF k (ly hk);refine aw ?_;refine aw (AV ho hd hf ?_);simp only[Pp];rw[if_neg (by simp),CB sf];exact bG (aw (ML hit (by simp) λg1 e1 xt=>bG ⟨_,rfl,h1 k es[k] g1 hk (CB sf) (by unfold t5;simpa[mS] using e1) xt⟩))
 |none =>exact aw (ML hit (by simp) λg1 e1 xt=>aw (ML e1 (by simp) λg2 e2 HC=>xQ hh λh' k=>h2 h' hk λb o hb e=>k b o ((xt.trans HC).extBut b o hb e)))
def n8 (a:ae):argsOk "set_iterator.__iter__" ⟨[a],[]⟩:=by unfold argsOk;rw[signature?_of (n:=['_','_','r','e','t','i','_','_']) (by kernel_rfl) pN];kernel_rfl
def kW:entryFor table "set_iterator.__iter__" = some Builtin.«dict_keyiterator.__iter__» :=
 entryFor_alias (id' := "dict_keyiterator.__iter__") (by kernel_rfl) rfl (by decide +kernel) (by kernel_rfl)
def jT(hit:t5 s.heap I first i a n ep)(h:Q (.ref I) s):bP (aS prog w) A (pyIter (.ref I)) Q E s:=by exact wpAny_pyIter_slot hit.typeIs fZ (B7 fZ hit.typeIs kW (bG ⟨_,rfl, "set_iterator",_,hit.typeIs,bx.lookup,h⟩) (n8 _))
def qx {slot:Nat} {Q:Option (ae × Nat)->ax->Prop} (hb:w.params.followText "set-order" = true) (LX:DM s.heap a es ep t) (hf:t.fits es.size=true)(h:Q (((pickOrder (w.params.setOrder a ep) es)[i]?).map λe=>(e.2,slot)) s):bP (aS prog w) A (setNext a slot i ep) Q E s:=by
 obtain⟨o,ho,hd⟩:=LX;refine aw (AV ho hd hf ?_);refine aw (aw (MR (bG ?_)));rw[if_pos (by exact hb),if_neg (by simp)];refine aw ?_;refine aw (AV ho hd hf ?_);refine aw (aw (MR (bG ?_)));rw[if_pos (by exact hb)];exact aw (MR (bG (bG h)))
def lG {slot:Nat} {Q:Option (ae × Nat)->ax->Prop} (hb:w.params.followText "set-order" = false) (hl:t.led=true) (OQ:(!t.plain && decide (es.size>1))=false) (LX:DM s.heap a es ep t) (hf:t.fits es.size=true)(h:Q (match es[below t.place slot]?,t.place[below t.place slot]? with
  |some (_,x),some j=>some (x,j+1)
  |_,_=>none) s):bP (aS prog w) A (setNext a slot i ep) Q E s:=by
 obtain⟨o,ho,hd⟩:=LX;refine aw (AV ho hd hf ?_);refine aw (aw (MR (bG ?_)));rw[if_neg (by rw[show(aS prog w).w.params.followText "set-order" = false from hb];exact kG)];have e0:mW es t=(!t.plain && decide (es.size>1)):=rfl;unfold mW at e0;rw[e0,OQ,if_neg kG];refine aw ?_;show bP _ _ (if (!t.led && !es.isEmpty)=true then unsupported "set:maker-not-led" else pure ()) _ _ s;rw[if_neg (by rw[hl];simp)];exact bG (bG h)
def PV(ys:List (Int × ae))(i:Nat)(v:ae):Prop:=∃ e,ys[i]? = some e/\v=e.2
def t5.keep(x:t5 h I first i a n ep)(e:∀ o,h.get? I=some o->h'.get? I=some o):t5 h' I first i a n ep:=e _ x
def DM.keep(x:DM h a es ep t)(e:∀ o,h.get? a=some o->h'.get? a=some o):DM h' a es ep t:=let ⟨o,ho,r⟩:=x;⟨o,e _ ho,r⟩
def wL (hh:A.handled=none) (gL:a≠I) (hb:w.params.followText "set-order" = true) (hf:t.fits es.size=true) :
  Walks prog w A I [I,a] [I] es.size (PV (pickOrder (w.params.setOrder a ep) es).toList) (λi h=>(∃ slot:Nat,t5 h I (.int slot 0) i a es.size ep)/\DM h a es ep t) where
 sub:=λb hb=>by simp at hb;simp[hb]
 frame:=λ_ _ _ ⟨⟨sl,x⟩,y⟩ hk=>⟨⟨sl,x.keep λo e=>hk I (by simp) o e⟩,y.keep λo e=>hk a (by simp) o e⟩
 item:=λi s Q E hi ⟨⟨sl,x⟩,y⟩ hQ=>by
  have hlen:(pickOrder (w.params.setOrder a ep) es).size=es.size:=by have:=(jG (w.params.setOrder a ep) es).length_eq;simpa using this
  refine gj hh gL x y hf (r:=((pickOrder (w.params.setOrder a ep) es)[i]?).map λe=>(e.2,sl)) (λA' E' Q' q=>qx hb y hf q) (λv nx h' e x' sb=>?_) λh' e k=>?_
  ·rw[CB (by lia)] at e;cases e;exact hQ _ h' s.toks ⟨_,by rw[n4];exact CB (by lia),rfl⟩ ⟨⟨_,x'⟩,y.keep λo e=>sb.extBut _ _ gL e⟩ λb o hb e=>sb.extBut b o (λh=>hb (by simp[h])) e
  ·rw[CB (by lia)] at e;cases e
 done:=λs Q E ⟨⟨sl,x⟩,y⟩ hQ=>by
  have hlen:(pickOrder (w.params.setOrder a ep) es).size=es.size:=by have:=(jG (w.params.setOrder a ep) es).length_eq;simpa using this
  refine gj hh gL x y hf (r:=((pickOrder (w.params.setOrder a ep) es)[es.size]?).map λe=>(e.2,sl)) (λA' E' Q' q=>qx hb y hf q) (λv nx h' e x' sb=>?_) λh' e k=>?_
  ·rw[NM (by lia)] at e;cases e
  ·exact hQ h' s.toks λb o hb e=>k b o (λh=>hb (by simp[h])) e
 self:=λ_ _ _ _ ⟨⟨sl,x⟩,y⟩ hQ=>jT x hQ
def slotAt(t:SetTable):Nat->Nat
 |0=>0
 |i+1=>t.place.getD i 0+1
def iI(U:Up t.place)(h:i<=t.place.size):below t.place (slotAt t i)=i:=by
 cases i with
 |zero =>
  obtain⟨_,b,_⟩:=aJ U 0;by_cases z:below t.place 0=0
  ·exact z
  ·exact absurd (b 0 (Nat.pos_of_ne_zero z)) (IL _)
 |succ i=>exact vB U (by lia)
def uR (hh:A.handled=none) (gL:a≠I) (hb:w.params.followText "set-order" = false) (hl:t.led=true) (OQ:(!t.plain && decide (es.size>1))=false) (U:Up t.place) (hz:t.place.size=es.size) (hf:t.fits es.size=true) :
  Walks prog w A I [I,a] [I] es.size (PV es.toList) (λi h=>t5 h I (.int (slotAt t i:Nat) 0) i a es.size ep/\DM h a es ep t) where
 sub:=λb hb=>by simp at hb;simp[hb]
 frame:=λ_ _ _ ⟨x,y⟩ hk=>⟨x.keep λo e=>hk I (by simp) o e,y.keep λo e=>hk a (by simp) o e⟩
 item:=λi s Q E hi ⟨x,y⟩ hQ=>by
  have He:=iI (t:=t) U (i:=i) (by lia);have e1:es[below t.place (slotAt t i)]? = some es[i]:=by rw[He];exact CB hi
  have e2:t.place[below t.place (slotAt t i)]? = some (t.place.getD i 0):=by rw[He];exact yM (by lia)
  refine gj hh gL x y hf (r:=some (es[i].2,t.place.getD i 0+1)) (λA' E' Q' q=>lG hb hl OQ y hf (by rw[e1,e2];exact q)) (λv nx h' e x' sb=>?_) λh' e k=>nomatch e;cases e;exact hQ _ h' s.toks ⟨_,by rw[n4];exact CB hi,rfl⟩ ⟨x',y.keep λo e=>sb.extBut _ _ gL e⟩ λb o hb e=>sb.extBut b o (λh=>hb (by simp[h])) e
 done:=λs Q E ⟨x,y⟩ hQ=>by
  have He:=iI (t:=t) U (i:=es.size) (by lia);have e1:es[below t.place (slotAt t es.size)]? = none:=by rw[He];exact NM (cw _)
  refine gj hh gL x y hf (r:=none) (λA' E' Q' q=>lG hb hl OQ y hf (by rw[e1];exact q)) (λv nx h' e x' sb=>nomatch e) λh' e k=>?_;exact hQ h' s.toks λb o hb e=>k b o (λh=>hb (by simp[h])) e
 self:=λ_ _ _ _ ⟨x,y⟩ hQ=>jT x hQ
def vJ{T:ah}{ix:List Nat}{kT:Nat}(hh:A.handled=none)(gL:a≠I)(hTI:T≠I)(hf:t.fits es.size=true)(hp:ix.Perm (List.range es.size)) :
  Walks prog w A I [I,a,T] [I] es.size (PV (ix.filterMap λk=>es[k]?)) (λi h=>t5 h I (.ref T) i a es.size ep/\DM h a es ep t/\∃ o,h.get? T=some o/\o.data=.seq (ix.map λ(k:Nat)=>Value.int k 0).toArray kT):=by
 have hlen:ix.length=es.size:=by simpa using hp.length_eq
 have AF:∀ k∈ix,k<es.size:=λk hk=>ox.mp (hp.mem_iff.mp hk);obtain⟨f1,f2⟩:=t_ (l:=ix) (f:=λk=>es[k]?) λk hk=>by simp[AF k hk]
 exact {
  sub:=λb hb=>by simp at hb;simp[hb]
  frame:=λ_ _ _ ⟨x,y,o,z,zd⟩ hk=>⟨x.keep λo e=>hk I (by simp) o e,y.keep λo e=>hk a (by simp) o e,o,hk T (by simp) o z,zd⟩
  item:=λi s Q E hi ⟨x,y,o,z,zd⟩ hQ=>by
   refine lF hh x y hf z zd (λk e h' e1 e2 x' sb=>?_) AF λh' e k=>?_
   ·refine hQ _ h' s.toks ⟨e,by rw[f2,e1];exact e2,rfl⟩ ⟨x',y.keep λo e=>sb.extBut _ _ gL e,o,sb.extBut _ _ hTI z,zd⟩ λb o hb e=>sb.extBut b o (λh=>hb (by simp[h])) e
   ·rw[kR (by lia)] at e;cases e
  done:=λs Q E ⟨x,y,o,z,zd⟩ hQ=>by
   refine lF hh x y hf z zd (λk e h' e1 e2 x' sb=>?_) AF λh' e k=>?_
   ·rw[wm (by lia)] at e1;cases e1
   ·exact hQ h' s.toks λb o hb e=>k b o (λh=>hb (by simp[h])) e
  self:=λ_ _ _ _ ⟨x,_⟩ hQ=>jT x hQ }
end
section
variable {prog:d5}{w:eJ}{A:fh}{E:ae->ax->Prop}{s:ax}{a:ah}{o:Obj}{es:Array (Int × ae)}{ep:Nat}{t:SetTable}
def zU (hh:A.handled=none) (ho:s.heap.get? a=some o) (hex:o.ExactSet) (hd:o.data=.set es ep t) (hf:t.fits es.size=true) (U:Up t.place) (hz:t.place.size=es.size) (hl:t.led=(!w.params.followText "set-order")) (hn:es.size<=bq)(h:∀ (I:ah) (h2:dy) d (fp:List ah) (St:Nat->dy->Prop) (ys:List (Int × ae)),(∀ b o,s.heap.get? b=some o->h2.get? b=some o)->s.heap.objs.size<=I->(∀ b∈fp,b=a\/s.heap.objs.size<=b)->ys.Perm es.toList ->
   Walks prog w A I fp [I] es.size (PV ys) St->St 0 h2->Q (.ref I) { s with heap:=h2,drawn:=d }):bP (aS prog w) A (pyIter (.ref a)) Q E s:=by
 have hT:s.TypeIs (.ref a) "set" := ⟨o,ho,hex.1⟩
 have fi:a<s.heap.objs.size:=e9 ho;refine wpAny_pyIter_slot hT F.slot_set_iter (B7 F.slot_set_iter hT lr ?_ (F.args_set_iter_1 _));refine aw (wpAny_of_eq rfl ?_);refine aw ?_;refine aw (wpAny_setEntries_of ho hd hf (bG ?_));refine aw ?_;refine aw (AV ho hd hf ?_);refine aw (aw (MR (bG ?_)));refine bG ?_;have e0:mW es t=(!t.plain && decide (es.size>1)):=rfl;unfold mW at e0;show bP _ _ (if (!w.params.followText "set-order" && (!t.plain && decide (es.size>1)))=true then _ else _) _ _ s
 cases hb:w.params.followText "set-order" with
 |true =>
  refine aw (bG ?_);refine aw (wpAny_setEpoch_of ho hd hf ?_);refine aw (sL ?_);refine bG ⟨_,rfl, "set_iterator",_,⟨_,kB _ rfl,rfl⟩,bx.lookup,?_⟩;have oB:(s.heap.push { cls:=.type "set_iterator",data:=.fields #[mS 0,mS 0,.ref a,mS es.size,mS ep] }).get? a=some o:=gi _ ho;exact h s.heap.objs.size _ s.drawn _ _ _ (λb o e=>gi _ e) (cw _) (λb hb=>by
   rcases eK.mp hb with rfl|hb
   ·exact .inr (cw _)
   ·exact .inl (oo.mp hb)) (jG _ _) (wL hh (gp fi) hb hf) ⟨⟨0,kB _ rfl⟩,o,oB,hd⟩
 |false =>
  cases OQ:(!t.plain && decide (es.size>1)) with
  |false =>
   refine aw (bG ?_);refine aw (wpAny_setEpoch_of ho hd hf ?_);refine aw (sL ?_);refine bG ⟨_,rfl, "set_iterator",_,⟨_,kB _ rfl,rfl⟩,bx.lookup,?_⟩;have oB:(s.heap.push { cls:=.type "set_iterator",data:=.fields #[mS 0,mS 0,.ref a,mS es.size,mS ep] }).get? a=some o:=gi _ ho;exact h s.heap.objs.size _ s.drawn _ _ _ (λb o e=>gi _ e) (cw _) (λb hb=>by
    rcases eK.mp hb with rfl|hb
    ·exact .inr (cw _)
    ·exact .inl (oo.mp hb)) (.refl _) (uR hh (gp fi) hb (by rw[hl,hb];rfl) OQ U hz hf) ⟨kB _ rfl,o,oB,hd⟩
  |true =>
   refine aw (Dq es.size (List.range es.size) s _ (by simp) λix d hp=>?_);refine aw (sL ?_ ?hzz);case hzz =>
    have:=hp.length_eq;rw[UK] at this;show(ix.map λ(i:Nat)=>mS i).toArray.size<=bq;rw[iO,b9,this];exact hn
   have xh:(s.heap.push { cls:=.type "tuple",data:=.seq (ix.map λ(i:Nat)=>mS i).toArray }).get? a=some o:=gi _ ho;refine aw (wpAny_setEpoch_of xh hd hf ?_);refine aw (sL ?_);refine bG ⟨_,rfl, "set_iterator",_,⟨_,kB _ rfl,rfl⟩,bx.lookup,?_⟩;have xv:(s.heap.push { cls:=.type "tuple",data:=.seq (ix.map λ(i:Nat)=>mS i).toArray }).objs.size=s.heap.objs.size+1:=Heap.size_push ..;refine h (s.heap.push { cls:=.type "tuple",data:=.seq (ix.map λ(i:Nat)=>mS i).toArray }).objs.size _ d [(s.heap.push { cls:=.type "tuple",data:=.seq (ix.map λ(i:Nat)=>mS i).toArray }).objs.size,a,s.heap.objs.size] _ (ix.filterMap λk=>es[k]?) (λb o e=>gi _ (gi _ e)) (by rw[xv];exact Fu _) (λb hb=>?_) ?_ (vJ hh (by rw[xv];exact gp (xS fi)) (by rw[xv];exact gp (Nat.lt_succ_self _)) hf hp) ⟨kB _ rfl,⟨o,gi _ xh,hd⟩,_,gi _ (kB _ rfl),rfl⟩
   ·rcases eK.mp hb with rfl|hb
    ·exact .inr (by rw[xv];exact Fu _)
    ·rcases eK.mp hb with rfl|hb
     ·exact .inl rfl
     ·rw[oo.mp hb];exact .inr (cw _)
   ·have:=hp.filterMap λk=>es[k]?;rw[uh] at this;exact this
def zT (hT:s.TypeIs (.ref a) "set") (h:Q false s):bP (aS prog w) A (Builtin.List.listLengthHint (.ref a)) Q E s:=by
 refine aw (wpAny_specialOf hT PySem.F.slot_set_len.lookup ?_);generalize DS:("set.__len__" : String)=id0
 wp_delta
 subst DS;exact aw (wpAny_isInstance (b:=true) hT (by rw[isSubtype_type];kernel_rfl) (wpAny_ite_split (λE4=>absurd E4 (by decide)) (λ_=>wpAny_ite_split (λ_=>aw (wpAny_typeOf hT (bG h))) (λE4=>absurd (by decide +kernel) E4))))
def Ft {R:Result->ax->Prop} (hh:A.handled=none) (ho:s.heap.get? a=some o) (hex:o.ExactSet) (hd:o.data=.set es ep t) (hf:t.fits es.size=true) (U:Up t.place) (hz:t.place.size=es.size) (hl:t.led=(!w.params.followText "set-order")) (hn:es.size<=bq)(S:ah) (hSa:S≠a) (res:ae) (c₀:Nat) (hS:s.heap.get? S=some { cls:=.type "list",data:=.seq #[] c₀ }) (hR:∀ h' tk d BF c' ys,(∀ b o,b≠S->s.heap.get? b=some o->h'.get? b=some o)->h'.get? S=some { cls:=.type "list",dict:=none,data:=.seq BF c',slots:=#[] }->ys.Perm es.toList->ItemsOf (PV ys) BF es.size->R (.ok (.ret res)) { s with heap:=h',toks:=tk,drawn:=d }) :
  bP (aS prog w) A.in1 (Builtin.List.listExtendWith (.ref S) (.ref a) res) (λfin s'=>match fin with|.done f=>R (.ok f) s'|.again c'=>c'.quiet=true/\codeAny (aS prog w) A c' R s') (λe s'=>R (.error e) s') s:=by
 have hT:s.TypeIs (.ref a) "set" := ⟨o,ho,hex.1⟩
 have hSl:=e9 hS;refine aw (wpAny_typeOf hT ?_);have h1:Builtin.List.listSameRef (.ref S) (.ref a)=false:=by simp[Builtin.List.listSameRef,hSa]
 simp only[h1,show(Value.type "set" == Value.type "list")=false by decide,show(Value.type "set" == Value.type "tuple")=false by decide,Bool.or_false,sR,if_false];refine aw (zU hh ho hex hd hf U hz hl hn λI h2 d fp St ys kp hI hfp hp W st=>?_);have OO:S∉fp:=λhm=>by
  rcases hfp S hm with z|z
  ·exact hSa z
  ·exact absurd hSl (Nat.not_lt.mpr z)
 have key:∀ h (c₁ tk:Nat),St 0 h->(∀ b o,b≠S->s.heap.get? b=some o->h.get? b=some o) ->
   h.get? S=some { cls:=.type "list",data:=.seq #[] c₁ }->codeAny (aS prog w) A (.builtin "list.extend.loop" ⟨[.ref S,.ref I,res],[]⟩) R { s with heap:=h,toks:=tk,drawn:=d }:=by
  intro h c₁ tk lP hk QL;refine codeAny_extend_loopS W.toS hn S OO res es.size 0 _ #[] c₁ rfl (fI _) lP QL (ItemsOf.nil _) λs' BF c' hm QK GO=>?_;rw[Moved.eq_with hm];refine hR s'.heap s'.toks d BF c' ys (λb o hb e=>hm.heap b o (λQk=>?_) (hk b o hb e)) QK hp GO;rcases eK.mp Qk with e'|Qk
  ·exact hb e'
  ·exact absurd (e9 e) (by rw[oo.mp Qk];exact Nat.not_lt.mpr hI)
 have QL:h2.get? S=some { cls:=.type "list",data:=.seq #[] c₀ }:=kp _ _ hS;refine aw (sM (zT ⟨o,kp _ _ ho,hex.1⟩ ?_));refine wpAny_ite_split (λ_=>?_) (λ_=>bG ⟨E8 PySem.F.plain_extend_loop _,key _ c₀ _ st (λb o _ e=>kp b o e) QL⟩);refine aw (AX ?_);refine aw ?_;refine aw (wpAny_updateSeq QL rfl ?_);have cn':=Fs (Obj.mapSeq (·.push Value.none)) QL rfl;refine wpAny_updateSeq cn' rfl ?_;have jF':=Fs (Obj.mapSeq (·.pop)) cn' rfl;refine bG ⟨E8 PySem.F.plain_extend_loop _,key _ _ _ ?_ (λb o hb e=>?_) jF'⟩
 ·refine W.frame 0 _ _ st λb hb o e=>?_;have QJ:b≠S:=λh=>OO (h ▸ hb);exact(Ph _ _ (Ne.symm QJ)).trans ((Ph _ _ (Ne.symm QJ)).trans e)
 ·exact(Ph _ _ (Ne.symm hb)).trans ((Ph _ _ (Ne.symm hb)).trans (kp _ _ e))
def uO(h:ItemsOf (PV ys) acc n)(hn:ys.length=n):acc.toList=ys.map (·.2):=by
 apply D5;intro i;rw[nh];by_cases hi:i<n
 ·have kK:i<acc.size:=by rw[h.1];exact hi
  have e1:acc[i]? = some acc[i]:=CB kK;obtain⟨e,he,hv⟩:=h.2 i acc[i] e1;rw[n4,e1,he,hv];rfl
 ·rw[wm (by rw[A5,h.1];lia),wm (by lia)];rfl
def iM {R:Result->ax->Prop} (hh:A.handled=none) (ho:s.heap.get? a=some o) (hex:o.ExactSet) (hd:o.data=.set es ep t) (hf:t.fits es.size=true) (U:Up t.place) (hz:t.place.size=es.size) (hl:t.led=(!w.params.followText "set-order")) (hn:es.size<=bq)(hR:∀ h' tk d BF c' ys,(∀ b o,s.heap.get? b=some o->h'.get? b=some o)->h'.get? s.heap.objs.size=some { cls:=.type "list",dict:=none,data:=.seq BF c',slots:=#[] }->ys.Perm es.toList->ItemsOf (PV ys) BF es.size->R (.ok (.ret (.ref s.heap.objs.size))) { s with heap:=h',toks:=tk,drawn:=d }) :
  codeAny (aS prog w) A (.builtin "proto.collect" ⟨[.ref a],[]⟩) R s:=by
 have fi:a<s.heap.objs.size:=e9 ho;walk_at"u";refine B8 F.entry_proto_collect ?_;refine aw (sL ?_);refine bG ⟨E8 F.plain_list_iadd _,B8 F.entry_list_iadd ?_⟩;exact Ft hh (gi _ ho) hex hd hf U hz hl hn s.heap.objs.size (ND fi) _ 0 hS λh' tk d BF c' ys kp eo hp ia =>
  hR h' tk d BF c' ys (λb o e=>kp b o (gp (e9 e)) (gi _ e)) eo hp ia
def fU (hh:A.handled=none) (ho:s.heap.get? a=some o) (hex:o.ExactSet) (hd:o.data=.set es ep t) (hf:t.fits es.size=true) (U:Up t.place) (hz:t.place.size=es.size) (hl:t.led=(!w.params.followText "set-order")) (hn:es.size<=bq)(hQ:∀ h' tk d vs,(∀ b o,s.heap.get? b=some o->h'.get? b=some o)->s.heap.objs.size<=h'.objs.size->vs.Perm (es.toList.map (·.2))->Q vs { s with heap:=h',toks:=tk,drawn:=d }):bP (aS prog w) A (collect (.ref a)) Q E s:=by
 refine aw (wpAny_runValue (iM hh ho hex hd hf U hz hl hn λh' tk d acc c ys kp eo hp ia=>?_));refine aw (wpAny_load eo ?_);refine bG (hQ h' tk d _ kp (sQ (e9 eo)) ?_);rw[uO ia (by rw[hp.length_eq];simp)];exact hp.map _
end
end TS
namespace vE
open PySem PyProof.Rows
section
variable {prog:d5}{w:eJ}{A:fh}{E:ae->ax->Prop}{s:ax}{κ:pV}{r:ae->Int}{P:ae->Prop}
def fO{R:List ae->Prop}(Wc:∀ (A':fh) (E':ae->ax->Prop) (Q':List ae->ax->Prop),A'.handled=A.handled->(∀ vs h1 tk d,R vs->(∀ b o,s.heap.get? b=some o->h1.get? b=some o)->s.heap.objs.size<=h1.objs.size->Q' vs { s with heap:=h1,toks:=tk,drawn:=d })->bP (aS prog w) A' (collect v) Q' E' s) (f7:∀ vs,R vs->vs.length<=bq) (hP:∀ vs,R vs->∀ v∈vs,P v) (hk:∀ vs,R vs->2<=vs.length->∀ (A':fh) (E':ae->ax->Prop) (s':ax),(∀ b o,s.heap.get? b=some o->s'.heap.get? b=some o)->∀ (Q:pV->ax->Prop),Q κ s'->bP (aS prog w) A' (keyKind' vs.toArray) Q E' s') (C:∀ (s':ax),(∀ b o,s.heap.get? b=some o->s'.heap.get? b=some o)->nI prog w A.in1.in1 s' κ r P) (h:∀ (vs:List ae) (h':dy) (a:ah) (out:List ae) (n tk:Nat) d,R vs->out.Perm vs->(out.Pairwise λx y=>r x<=r y)->(∀ b o,s.heap.get? b=some o->h'.get? b=some o)->s.heap.objs.size<=a->h'.get? a=some (p9 "list" out.toArray n)->Q (.ref a) { s with heap:=h',toks:=tk,drawn:=d }) :
  bP (aS prog w) A (call (.builtin "sorted") [v]) Q E s:=by
 walk_at"s";refine aw (bG ?_);refine aw (Wc _ _ _ rfl λvs h1 tk d hR kp hz=>?_);have yy:=f7 vs hR;refine aw (wpAny_newList ?_ (by simpa using yy));have z0:(h1.push (p9 "list" vs.toArray 0)).get? h1.objs.size=some (p9 "list" vs.toArray 0):=kB _ rfl;have old:∀ b o,s.heap.get? b=some o->(c7 (h1.push (p9 "list" vs.toArray 0)) h1.objs.size vs).get? b=some o:=λb o e=>by have fi:b<h1.objs.size:=e9 (kp b o e);rw[fV (gp fi) (by rw[D9];exact xS fi)];exact gi _ (kp b o e)
 walk_at"p"
 obtain⟨n,e⟩:=sortedHeap_at z0;refine bG ⟨_,rfl,h vs _ h1.objs.size out.toList n tk d hR a1 a2 (λb o e=>?_) hz (by rw[R0];exact e)⟩;have fi:b<h1.objs.size:=e9 (kp b o e);rw[sortedHeap_old (gp fi) (by rw[D9];exact xS fi)];exact gi _ (kp b o e)
end
end vE
namespace TS
open PySem PySem.SetTable PyProof.Rows
section
variable {prog:d5}{w:eJ}{K:Type}[DecidableEq K]{knd:KeyKind prog w K}{A:fh}{E:ae->ax->Prop}{s:ax}
def oM{α:Type}(led:Bool):TI (α:=α) (SetTable.fresh 0 0 led) #[] :=
 ⟨⟨3,rfl,cw _⟩,rfl,λi j h hj=>absurd hj (IL _),λi hi=>absurd hi (IL _),rfl,(by show 0*5<7*3;decide),λi h x e=>by simp at e⟩
def pH{l:ah}{items:Array ae}{xs:List (List K × ah)}{Q:ae->ax->Prop}(hh:A.handled=none)(hu:A.units+8<eR)(hl:s.heap.IsList l items)(hi:items.toList=xs.map λp=>Value.ref p.2)(mN:∀ p∈xs,IsTupleKey knd s.heap p.1 p.2) (hz:xs.length<=1000) (qV:∀ k v,knd.is k v=true->v.scannable=true)(h:∀ h' tk ks,E5 knd h' s.heap.objs.size ks->(∀ k,k∈ks.map (·.1)↔k∈xs.map (·.1))->(∀ p∈ks,p∈xs)->(∀ b o,s.heap.get? b=some o->h'.get? b=some o)->Q (.ref s.heap.objs.size) { s with heap:=h',toks:=tk }) :
  bP (aS prog w) A (call (.type "set") [.ref l]) Q E s:=by
 have lt:∀ p∈xs,p.2<s.heap.objs.size:=λp hp=>by obtain⟨o,_,_,ho,_⟩:=mN p hp;exact e9 ho
 refine eF hh hl (λi h=>∃ ks,E5 knd h s.heap.objs.size ks/\(∀ k,k∈ks.map (·.1)↔k∈(xs.take i).map (·.1))/\(∀ p∈ks,p∈xs)/\ks.length<=i/\∀ p∈xs,IsTupleKey knd h p.1 p.2) (λh e k=>?_) (λi h h' ⟨ks,S,m1,m2,m3,m4⟩ k=>?_) (λi v s' E' Q' hv ⟨ks,S,m1,m2,m3,m4⟩ q=>?_) λh' tk ⟨ks,S,m1,m2,m3,m4⟩ k=>?_
 ·walk_at"f"
 ·obtain⟨⟨o,es,ep,t,ho,r⟩,nd,is⟩:=S;walk_at"j"
 ·have oD:items.toList[i]? = some v:=by rw[n4];exact hv
  rw[hi,nh] at oD
  cases ex:xs[i]? with
  |none=>rw[ex] at oD;cases oD
  |some p =>
   rw[ex] at oD;cases oD;have hp:=ly ex;have hil:i<xs.length:=(iN.mp ex).1;have QN:(xs.take (i+1)).map (·.1)=(xs.take i).map (·.1)++[p.1]:=by rw[zv,ex,qB];rfl
   refine sM (aw (wpAny_pyHash_tuple (by show A.units+3<eR;lia) (m4 p hp) ?_));refine Cd S (m4 p hp) (by lia) (by show A.units+3<eR;lia) qV λb h' dQ sb S' c=>?_;refine q b h' _ sb ⟨dQ,S',λk=>?_,λp' fz=>?_,?_,λp' fz=>IsTupleKey.ft (m4 p' fz) λo ho=>sb.extBut _ _ (gp (lt p' fz)) ho⟩
   ·rw[QN,dP,oo,<- m1];rcases c with⟨c1,rfl⟩|⟨c1,c2⟩
    ·exact⟨.inl,λz=>z.elim id λe=>e ▸ c1⟩
    ·rw[(c2.map _).mem_iff,fS,eK];exact⟨λz=>z.symm,λz=>z.symm⟩
   ·rcases c with⟨c1,rfl⟩|⟨c1,c2⟩
    ·exact m2 p' fz
    ·rcases eK.mp (c2.mem_iff.mp fz) with rfl|z
     ·exact hp
     ·exact m2 p' z
   ·rcases c with⟨c1,rfl⟩|⟨c1,c2⟩
    ·lia
    ·rw[c2.length_eq];simp;lia
 ·have e:items.size=xs.length:=by have:=congrArg List.length hi;simpa using this
  rw[e,zC] at m1;exact h h' tk ks S m1 m2 λb o ho=>k b o (e9 ho) ho
end
end TS
section
open PySem PySem.Spec PyProof.Rows
namespace L2
section
variable {X:Cx}{pins:List (ah × Obj)}{σ:St}{H:Hp}{s:ax}
def Inv.drawn{d}(I:Inv X pins σ H s):Inv X pins σ H { s with drawn:=d }:=⟨I.ok,I.os,I.bare,I.base,I.loc,I.cell,I.free,I.A9,I.pin,I.b5,I.len⟩
def jb:∀ (k:Key) (v:ae),(kC prog w).is k v=true->v.scannable=true:=λk v h=>by rcases A6 h with⟨i,t,rfl,rfl⟩|⟨x,t,rfl,rfl⟩<;>rfl
def dZ(K:aC):V->Hp->VK->Prop:=λx H Q=>match x with
 |.ref p=>∃ ys ks b0 sh,fw K H p ys/\ys.length<=1000/\bB H ys ks/\(∀ k∈ks,ic k=b0 :: sh) /\
   ∀ zs ms l,bB H zs ms->ms.Nodup->(∀ k,k∈ms↔k∈ks)->(ms.Pairwise λa b=>fA b a=false)->H l=none->Q (.ref l) (upd H l (.lst zs))
 |_=>False
def bB.pairs(h:bB H ys ks)(hv:Vals ys vs):∃ xs:List (List Key × ah),vs=xs.map (λp=>Value.ref p.2)/\xs.map (·.1)=ks/\∀ p∈xs,H p.2=some (.tup (p.1.map kV)):=by
 induction ys generalizing ks vs with
 |nil=>exact⟨[],Paired.n0 hv,(Paired.n0 h).symm,λp hp=>nomatch hp⟩
 |cons y ys ih =>
  obtain⟨k,ks,rfl,⟨b,rfl,g⟩,t⟩:=Paired.c h;obtain⟨v,vs,rfl,rfl,rs⟩:=Paired.c hv;obtain⟨xs,e1,e2,e3⟩:=ih t rs;refine⟨(k,b) :: xs,by rw[e1];rfl,by rw[<- e2];rfl,λp hp=>?_⟩;rcases eK.mp hp with rfl|hp
  ·exact g
  ·exact e3 p hp
end
section
variable {X:Cx}{e:Expr}{te:TE}{p p2 pos js:Pos}
def jx (hc:X.calm=true) (hu:X.A.units+64<eR) (hg:Gl X "sorted") (hm:X.mg "sorted" = none) (sj:Gl X "set") (mE:X.mg "set" = none) (he:PE X e te)(hv:ll "sorted" = some (.builtin "sorted")) (LZ:ll "set" = some (.type "set"))(kc:autoParam (b6 [e] X.env=(false,df e X.env) :: b6 [] X.env) bv) (hs:autoParam (b6 [.Call (.Name "set" p2) [e] [] js] X.env=(false,df (.Call (.Name "set" p2) [e] [] js) X.env) :: b6 [] X.env) bv) :
  PE X (.Call (.Name "sorted" p) [.Call (.Name "set" p2) [e] [] js] [] pos) (PF (dZ X.K) te):=by
 walk_at"z";refine AU (x5 I hg hm hv ?_ (by decide) (by decide));refine PyProof.Rows.callWith_builtin1 ?_ hs rfl;refine Calls.spliced_cons ?_;refine AU (x5 I sj mE LZ ?_ (by decide) (by decide));refine PyProof.Rows.callWith_type1 ?_ kc rfl;rw[kc];walk_at"c";have q1:dZ X.K x H1 Q:=q1;obtain⟨a,rfl⟩:∃ a,x=.ref a:=by
  unfold dZ at q1;split at q1
  ·exact⟨_,rfl⟩
  ·exact q1.elim
 obtain⟨ys,ks,b0,sh,hl,OS,ht,vt,q⟩:=q1;cases r1;obtain⟨vs,rv,pl,hz⟩:=I1.list hl;obtain⟨xs,ex,ek,hx⟩:=ht.pairs rv;have AB:X.A.handled=none:=I1.ok.hd hc;have hlen:xs.length=ys.length:=by rw[rv.length,ex,b9]
 have mN:∀ p∈xs,IsTupleKey (kC X.prog X.w) s1.heap p.1 p.2:=λp hp=>by obtain⟨us,ru,o,e1,c1,n1,d1⟩:=I1.tup (hx p hp);exact⟨o,us.toArray,n1,e1,c1,d1,by simpa using SK ru⟩
 refine TS.pH AB (by lia) pl.isList (by simpa using ex) mN (by lia) jb λh2 tk dQ S m1 m2 kp=>?_;refine Calls.spliced_nil ?_;walk_at"x";have QQ:es.toList.map (·.2)=dQ.map λp=>Value.ref p.2:=by rw[xo,fF];rfl
 have WR:dQ.length<=1000:=by
  have:=TS.aV nd (m:=ks) λk hk=>by rw[<- ek];exact(m1 k).mp hk
  rw[b9] at this;have:ks.length=xs.length:=by rw[<- ek,b9]
  lia
 have L4:es.size=dQ.length:=by have:=congrArg List.length xo;simpa using this
 have QR:∀ p∈dQ,p.1∈ks:=λp hp=>by rw[<- ek];exact bT.mpr ⟨p,m2 p hp,rfl⟩
 have mem:∀ eW:List ae,eW.Perm (dQ.map λp=>Value.ref p.2)->∀ v∈eW,∃ b k,v=.ref b/\H1 b=some (.tup (k.map kV))/\k∈ks:=λeW pv v hv=>by obtain⟨p,hp,rfl⟩:=bT.mp (pv.mem_iff.mp hv);exact⟨p.2,p.1,rfl,hx p (m2 p hp),QR p hp⟩
 have HG:s1.heap.objs.size<=h2.objs.size:=sQ (e9 ho);refine vE.fO (κ:=tuples' true) (R:=λeW=>eW.Perm (dQ.map λp=>Value.ref p.2)) (P:=λv=>∃ b k,v=.ref b/\H1 b=some (.tup (k.map kV))/\ic k=b0 :: sh/\k∈ks) (λA' E' Q' hA hQ=>TS.fU (hA.trans AB) ho hex hd T.fits T.up T.sz hL (by rw[L4,iL];lia) λh' DL d eW oa BU pv=>hQ eW h' DL d (by rw[<- QQ];exact pv) oa BU) (λeW pv=>by rw[pv.length_eq,b9,iL];lia) (λeW pv v hv=>?_) (λeW pv WU A' E' s' oa Q' q'=>?_) (λs' oa=>mq I1 λb o e=>oa b o (kp b o e)) λeW h' a' out n DL d pv pm pw oa ha eo=>?_
 ·obtain⟨b,k,e1,e2,e3⟩:=mem eW pv v hv;exact⟨b,k,e1,e2,vt k e3,e3⟩
 ·obtain⟨zs,z1,z2⟩:=bB.of eW (mem eW pv);obtain⟨fs,f1,f2,f3⟩:=kat_tups I1 (λb o e=>oa b o (kp b o e)) z1 z2 λk hk=>by obtain⟨v,hv,rfl⟩:=bT.mp hk;obtain⟨b,k,rfl,e2,e3⟩:=mem eW pv v hv;rw[aZ e2];exact vt k e3
  cases b0 with
  |true =>refine MV (T:=.type "int") f1 (by lia) (λf hf=>?_) (by decide) q';obtain⟨i,t,rfl⟩:=(f3 f hf).1 rfl;exact .now
  |false =>refine MV (T:=.type "str") f1 (by lia) (λf hf=>?_) (by decide) q';obtain⟨i,t,rfl⟩:=(f3 f hf).2 rfl;exact .now
 ·have xA:=pm.trans pv;obtain⟨zs,z1,z2⟩:=bB.of out λv hv=>mem _ xA v hv;have zl:=z2.length;have ol:=xA.length_eq;rw[b9] at ol;have QV:(dQ.map λp=>Value.ref p.2).map (kI H1)=dQ.map (·.1):=by rw[fF];exact Fm λp hp=>aZ (hx p (m2 p hp))
  have Lv:(out.map (kI H1)).Perm (dQ.map (·.1)):=by rw[<- QV];exact xA.map _
  refine⟨.ref a',_,(I1.laid (λb o e=>oa b o (kp b o e)) (iS HG ha) (show kH X.prog X.w _ h' _ (.lst zs) from⟨by rw[iL];lia,out,n,z2,eo⟩)).drawn,rfl,
   q zs _ _ z1 (Lv.nodup_iff.mpr nd) (λk=>by rw[Lv.mem_iff,m1,ek]) ?_ (I1.b5.fresh (iS HG ha))⟩
  rw[iP];refine pw.imp_of_mem λ{x y} mx my hle=>?_;obtain⟨b,k,rfl,hb,kk⟩:=mem _ xA x mx;obtain⟨c,m,rfl,tf,km⟩:=mem _ xA y my;rw[aZ hb,aZ tf] at *
  have:=j0 ((vt m km).trans (vt k kk).symm) km;rw[<- this];exact decide_eq_false (by lia)
end
end L2
end
namespace TS
open PySem PySem.SetTable PyProof.Rows
section
variable {t:SetTable}{es:Array (Int × ae)}
def yJ(T:TI t es)(h:Int)(x:ae):∃ j,j<=t.mask/\taken t.place j=false/\Reach t.mask t.place h j /\
  layNew t es h x=(insertAt es (below t.place j) (h,x),{ t with place:=insertAt t.place (below t.place j) j,dummies:=#[] },false,false):=by
 obtain⟨m,hm,_⟩:=T.pw;obtain⟨e0,WD,WH⟩:=T.free;obtain⟨nf,n1,n2,n3⟩:=lJ hm h (taken t.place) WD WH;obtain⟨n',a1,a2,a3,a4⟩:=mZ T (λ_=>h+1) h (10*turns t.mask) 0 ⟨nf,fI _,by unfold turns;lia,n2⟩;rcases a4 with⟨c1,c2⟩|⟨_,c2,_⟩
 ·have U8:n'<=nf:=by
   by_cases z:n'<=nf
   ·exact z
   ·have:=(a3 nf (fI _) (by lia)).1;rw[n2] at this;cases this
  refine⟨J t.mask h n',TX ..,c1,⟨n',by lia,rfl,λq hq=>(a3 q (fI _) hq).1⟩,?_⟩;have VF:t.freeSlot h=some (J t.mask h n',false):=by unfold SetTable.freeSlot;have:t.probe (λ_=>h+1) h (t.probeStart h)=some (.empty (J t.mask h n') none):=c2;rw[this];rfl
  have WM:t.put (J t.mask h n')=({ t with place:=insertAt t.place (below t.place (J t.mask h n')) (J t.mask h n'),dummies:=#[] },below t.place (J t.mask h n')):=by
   unfold SetTable.put;have:has t.dummies (J t.mask h n')=false:=by rw[T.dm];rfl
   simp only[this,sR,if_false];rw[T.dm]
  have hb:=(aJ T.up (J t.mask h n')).1;have Tx:({ t with place:=insertAt t.place (below t.place (J t.mask h n')) (J t.mask h n'),dummies:=#[] }:SetTable).fits (insertAt es (below t.place (J t.mask h n')) (h,x)).size=true:=by have:=T.few;have f7:(insertAt es (below t.place (J t.mask h n')) (h,x)).size=es.size+1:=bw _ _ (by rw[<- T.sz];exact hb);simp only[SetTable.fits,SetTable.fill,bw _ _ hb,T.sz];simp;lia
  unfold layNew;rw[VF];dsimp only;rw[WM];unfold SetTable.orStandIn;rw[Tx];rfl
 ·exact absurd c2 (by lia)
end
section
variable {prog:d5}{w:eJ}{K:Type}[DecidableEq K]{knd:KeyKind prog w K}
def QX(knd:KeyKind prog w K)(p:K × ae):Int × ae:=(knd.hash p.1,p.2)
structure T4(knd:KeyKind prog w K)(h:dy)(a:ah)(ks:List (K × ae)):Prop where
 ob:∃ o es ep t,h.get? a=some o/\o.ExactSet/\o.data=.set es ep t/\TI t es/\t.mask<=8191/\t.led=(!w.params.followText "set-order")/\es.toList=ks.map (QX knd)
 nd:(ks.map (·.1)).Nodup
 is:∀ p∈ks,knd.is p.1 p.2=true
variable {A:fh}{E:ae->ax->Prop}{s:ax}
def CW(S:T4 knd s.heap a ks)(hx:knd.is k x=true)(hz:ks.length<1000)(qV:∀ k v,knd.is k v=true->v.scannable=true)(h:∀ (b:Bool) (h':dy) (dQ:List (K × ae)),Heap.SameBut a s.heap h'->T4 knd h' a dQ->(k∈ks.map (·.1)/\dQ=ks\/k∉ks.map (·.1)/\dQ.Perm ((k,x) :: ks))->Q b { s with heap:=h' }) :
  bP (aS prog w) A (setAddHashed a x (knd.hash k)) Q E s:=by
 obtain⟨⟨o,es,ep,t,ho,hex,hd,T,hM,hL,he⟩,nd,is⟩:=id S;have hlen:es.size=ks.length:=by have:=congrArg List.length he;simpa using this
 have LW:ElemsOf knd es.toList:=λe hm=>by rw[he] at hm;obtain⟨p,hp,rfl⟩:=bT.mp hm;exact⟨⟨p.1,is p hp,rfl⟩,qV _ _ (is p hp)⟩
 have SY:scanBound=4096:=rfl;refine sM (aw (AV ho hd T.fits ?_));dsimp only;rw[byScan_of (qV _ _ hx) (by lia) LW];refine aw ?_;refine aw (AX ?_);refine aw (wpAny_setScan_of hx ho hd T.fits LW ?_)
 cases hr:List.findIdx? (λe=>knd.is k e.2) es.toList with
 |some j =>
  refine bG (bG ?_);obtain⟨hj,hpj,_⟩:=List.findIdx?_eq_some_iff_getElem.mp hr;have hm:es.toList[j]∈ks.map (QX knd):=by rw[<- he];exact wo hj
  obtain⟨p,hp,PB⟩:=bT.mp hm;rw[<- PB] at hpj;have hk:k=p.1:=knd.inj p.2 k p.1 hpj (is p hp);have e:s={ s with heap:=s.heap }:=by cases s;rfl
  exact h _ _ ks (Heap.SameBut.refl a s.heap) S (.inl ⟨bT.mpr ⟨p,hp,hk.symm⟩,rfl⟩)
 |none =>
  have EW:k∉ks.map (·.1):=λhm=>by obtain⟨p,hp,rfl⟩:=bT.mp hm;have:=List.findIdx?_eq_none_iff.mp hr (QX knd p) (by rw[he];exact bT.mpr ⟨p,hp,rfl⟩);rw[show knd.is p.1 (QX knd p).2=true from is p hp] at this;cases this
  obtain⟨j,WK,n2,WL,hlay⟩:=yJ T (knd.hash k) x;rw[hlay];dsimp only;refine aw (bG ?_);have aE:(insertAt es (below t.place j) (knd.hash k,x)).toList=(ks.take (below t.place j)++(k,x) :: ks.drop (below t.place j)).map (QX knd):=by rw[lA,he,qB,fS,RK,RL];rfl
  have y3:(ks.take (below t.place j)++(k,x) :: ks.drop (below t.place j)).Perm ((k,x) :: ks):=by refine List.perm_middle.trans ?_;rw[O_]
  have He:below t.place j<=es.size:=by rw[<- T.sz];exact(aJ T.up j).1
  have yy:(insertAt es (below t.place j) (knd.hash k,x)).size=es.size+1:=bw _ _ He;have QD:∀ dQ:List (K × ae),dQ.Perm ((k,x) :: ks)->∀ p∈dQ,knd.is p.1 p.2=true:=λdQ pm p hp=>by
   rcases eK.mp (pm.mem_iff.mp hp) with rfl|hp
   ·exact hx
   ·exact is p hp
  have QF:∀ dQ:List (K × ae),dQ.Perm ((k,x) :: ks)->(dQ.map (·.1)).Nodup:=λdQ pm=>by rw[(pm.map _).nodup_iff,fS,kA];exact⟨EW,nd⟩
  have main:∀ t':SetTable,t'.mask=t.mask->t'.place=insertAt t.place (below t.place j) j->t'.dummies = #[]->t'.led=t.led->bP (aS prog w) A (do
    storeSet a (insertAt es (below t.place j) (knd.hash k,x)) t'
    if (!false && t'.tooFull)=true then do
      GC (relayAll t' (insertAt es (below t.place j) (knd.hash k,x)) (grown (insertAt es (below t.place j) (knd.hash k,x)).size)).2.2
      storeSet a (relayAll t' (insertAt es (below t.place j) (knd.hash k,x)) (grown (insertAt es (below t.place j) (knd.hash k,x)).size)).1 (relayAll t' (insertAt es (below t.place j) (knd.hash k,x)) (grown (insertAt es (below t.place j) (knd.hash k,x)).size)).2.1
      pure (some true)
     else pure (some true)) (λr s'=>bP (aS prog w) A (match r with|some added=>pure added|none=>setAddHashedIn a x (knd.hash k) 99999) Q E s') E s:=λt' tm tp td tl=>by
   have T3:t'.fill=es.size+1:=by unfold SetTable.fill;rw[tp,td,bw _ _ (aJ T.up j).1,T.sz];simp
   refine aw (wpAny_storeSet_of ho hd ?_ (by rw[yy,iL];lia));have xh:(s.heap.update a (Obj.putSet (insertAt es (below t.place j) (knd.hash k,x)) t')).get? a=some { o with data:=.set (insertAt es (below t.place j) (knd.hash k,x)) (ep+1) t' }:=by have:=Fs (Obj.putSet (insertAt es (below t.place j) (knd.hash k,x)) t') ho (by rw[putSet_of _ _ hd];rfl);rw[putSet_of _ _ hd] at this;exact this
   have xt:=Heap.SameBut.update s.heap a (Obj.putSet (insertAt es (below t.place j) (knd.hash k,x)) t');by_cases c:t'.tooFull=true
   ·rw[if_pos (by rw[c];rfl)];obtain⟨t2,order,r1,r2,r3,r4,r5,r6,r7,r8,r9⟩:=pY (es:=insertAt es (below t.place j) (knd.hash k,x)) (by lia);have jG':relayAll t' (insertAt es (below t.place j) (knd.hash k,x)) (grown (insertAt es (below t.place j) (knd.hash k,x)).size)=(order.filterMap λi=>(insertAt es (below t.place j) (knd.hash k,x))[i]?,t2,false):=by unfold relayAll;rw[r1];dsimp only;rw[if_pos];rw[mw];refine⟨?_,r6.fits⟩;unfold coversAll;rw[List.isPerm_iff];exact r9
    rw[jG'];refine aw (bG ?_);obtain⟨dQ,ek,pk⟩:=eO r8 aE;refine aw (wpAny_storeSet_of xh rfl ?_ (by rw[r7,yy,iL];lia));refine bG (bG ?_);have HC:=xt.trans (Heap.SameBut.update _ a (Obj.putSet (order.filterMap λi=>(insertAt es (below t.place j) (knd.hash k,x))[i]?) t2));have pf:=Fs (Obj.putSet (order.filterMap λi=>(insertAt es (below t.place j) (knd.hash k,x))[i]?) t2) xh (by rw[putSet_of _ _ rfl];rfl);exact h true _ dQ HC ⟨⟨_,_,_,_,pf,hex,rfl,r6,r5 (by lia),by rw[r3,tl];exact hL,ek⟩,QF dQ (pk.trans y3),QD dQ (pk.trans y3)⟩ (.inr ⟨EW,pk.trans y3⟩)
   ·rw[if_neg (by simpa using c)];refine bG (bG ?_);have vn:(es.size+1)*5<t.mask*3:=by unfold SetTable.tooFull at c;rw[T3,tm] at c;simpa using c
    exact h true _ _ xt ⟨⟨_,_,_,_,xh,hex,rfl,T.put WK n2 WL tm tp td vn,by rw[tm];exact hM,by rw[tl];exact hL,aE⟩,QF _ y3,QD _ y3⟩ (.inr ⟨EW,y3⟩)
  split
  ·refine aw ?_;rw[hashByValue_scannable 8 (qV _ _ hx)];refine bG ?_;split
   ·exact main _ rfl rfl rfl rfl
   ·exact main _ rfl rfl rfl rfl
  ·exact aw (bG (main _ rfl rfl rfl rfl))
end
section
variable {prog:d5}{w:eJ}{K:Type}[DecidableEq K]{knd:KeyKind prog w K}{A:fh}{E:ae->ax->Prop}{s:ax}
def gM{l:ah}{items:Array ae}{xs:List (K × ae)}{Q:ae->ax->Prop}(hh:A.handled=none)(hl:s.heap.IsList l items)(hi:items.toList=xs.map (·.2))(mN:∀ p∈xs,knd.is p.1 p.2=true) (hz:xs.length<=1000) (qV:∀ k v,knd.is k v=true->v.scannable=true)(h:∀ h' tk ks,T4 knd h' s.heap.objs.size ks->(∀ k,k∈ks.map (·.1)↔k∈xs.map (·.1))->(∀ p∈ks,p∈xs)->(∀ b o,s.heap.get? b=some o->h'.get? b=some o)->Q (.ref s.heap.objs.size) { s with heap:=h',toks:=tk }) :
  bP (aS prog w) A (call (.type "set") [.ref l]) Q E s:=by
 refine eF hh hl (λi h=>∃ ks,T4 knd h s.heap.objs.size ks/\(∀ k,k∈ks.map (·.1)↔k∈(xs.take i).map (·.1))/\(∀ p∈ks,p∈xs)/\ks.length<=i) (λh e k=>?_) (λi h h' ⟨ks,S,m1,m2,m3⟩ k=>?_) (λi v s' E' Q' hv ⟨ks,S,m1,m2,m3⟩ q=>?_) λh' tk ⟨ks,S,m1,m2,m3⟩ k=>?_
 ·exact⟨[],⟨⟨_,#[],0,_,e,⟨rfl,rfl,rfl⟩,rfl,oM _,(by show 7<=8191;decide),rfl,rfl⟩,oy,λp hp=>nomatch hp⟩,λk=>by simp,(λp hp=>nomatch hp),cw _⟩
 ·obtain⟨⟨o,es,ep,t,ho,r⟩,nd,is⟩:=S;exact⟨ks,⟨⟨o,es,ep,t,k _ _ (cw _) ho,r⟩,nd,is⟩,m1,m2,m3⟩
 ·have oD:items.toList[i]? = some v:=by rw[n4];exact hv
  rw[hi,nh] at oD
  cases ex:xs[i]? with
  |none=>rw[ex] at oD;cases oD
  |some p =>
   rw[ex] at oD;cases oD;have hp:=ly ex;have hil:i<xs.length:=(iN.mp ex).1;have QN:(xs.take (i+1)).map (·.1)=(xs.take i).map (·.1)++[p.1]:=by rw[zv,ex,qB];rfl
   refine sM (aw (knd.pyHash (mN p hp) ?_));refine CW S (mN p hp) (by lia) qV λb h' dQ sb S' c=>?_;refine q b h' _ sb ⟨dQ,S',λk=>?_,λp' fz=>?_,?_⟩
   ·rw[QN,dP,oo,<- m1];rcases c with⟨c1,rfl⟩|⟨c1,c2⟩
    ·exact⟨.inl,λz=>z.elim id λe=>e ▸ c1⟩
    ·rw[(c2.map _).mem_iff,fS,eK];exact⟨λz=>z.symm,λz=>z.symm⟩
   ·rcases c with⟨c1,rfl⟩|⟨c1,c2⟩
    ·exact m2 p' fz
    ·rcases eK.mp (c2.mem_iff.mp fz) with rfl|z
     ·exact hp
     ·exact m2 p' z
   ·rcases c with⟨c1,rfl⟩|⟨c1,c2⟩
    ·lia
    ·rw[c2.length_eq];simp;lia
 ·have e:items.size=xs.length:=by have:=congrArg List.length hi;simpa using this
  rw[e,zC] at m1;exact h h' tk ks S m1 m2 λb o ho=>k b o (e9 ho) ho
end
end TS
section
open PySem PySem.Spec PyProof.Rows
namespace L2
def gH(K:aC):V->Hp->VK->Prop:=λx H Q=>match x with
 |.ref p=>∃ (ks:List Key) (b:Bool),fw K H p (ks.map kV)/\ks.length<=1000/\(∀ k∈ks,oI k=b) /\
   ∀ (ms:List Key) (l:ah),ms.Nodup->(∀ k,k∈ms↔k∈ks)->(ms.Pairwise λa b=>k7 b a=false)->H l=none->Q (.ref l) (upd H l (.lst (ms.map kV)))
 |_=>False
def lC(h:Vals (ks.map kV) vs):∃ xs:List (Key × ae),vs=xs.map (·.2)/\xs.map (·.1)=ks/\∀ p∈xs,RelV (kV p.1) p.2:=by
 induction ks generalizing vs with
 |nil=>exact⟨[],Paired.n0 h,rfl,λp hp=>nomatch hp⟩
 |cons k ks ih =>
  obtain⟨v,vs,rfl,r,rs⟩:=Paired.c h;obtain⟨xs,e1,e2,e3⟩:=ih rs;refine⟨(k,v) :: xs,by rw[e1];rfl,by rw[<- e2];rfl,λp hp=>?_⟩;rcases eK.mp hp with rfl|hp
  ·exact r
  ·exact e3 p hp
section
variable {X:Cx}{e:Expr}{te:TE}{p p2 pos js:Pos}
def qX (hc:X.calm=true) (hg:Gl X "sorted") (hm:X.mg "sorted" = none) (sj:Gl X "set") (mE:X.mg "set" = none) (he:PE X e te)(hv:ll "sorted" = some (.builtin "sorted")) (LZ:ll "set" = some (.type "set"))(kc:autoParam (b6 [e] X.env=(false,df e X.env) :: b6 [] X.env) bv) (hs:autoParam (b6 [.Call (.Name "set" p2) [e] [] js] X.env=(false,df (.Call (.Name "set" p2) [e] [] js) X.env) :: b6 [] X.env) bv) :
  PE X (.Call (.Name "sorted" p) [.Call (.Name "set" p2) [e] [] js] [] pos) (PF (gH X.K) te):=by
 walk_at"z";refine AU (x5 I hg hm hv ?_ (by decide) (by decide));refine PyProof.Rows.callWith_builtin1 ?_ hs rfl;refine Calls.spliced_cons ?_;refine AU (x5 I sj mE LZ ?_ (by decide) (by decide));refine PyProof.Rows.callWith_type1 ?_ kc rfl;rw[kc];walk_at"c";have q1:gH X.K x H1 Q:=q1;obtain⟨a,rfl⟩:∃ a,x=.ref a:=by
  unfold gH at q1;split at q1
  ·exact⟨_,rfl⟩
  ·exact q1.elim
 obtain⟨ks,b,hl,OS,hb,q⟩:=q1;cases r1;obtain⟨vs,rv,pl,hz⟩:=I1.list hl;obtain⟨xs,ex,ek,hx⟩:=lC rv;have AB:X.A.handled=none:=I1.ok.hd hc;have hlen:xs.length=ks.length:=by rw[<- ek,b9]
 have mN:∀ p∈xs,(kC X.prog X.w).is p.1 p.2=true:=λp hp=>by
  obtain⟨k,v⟩:=p;have r:=hx _ hp;rw[ZG]
  cases k with
  |inl i=>obtain⟨t,e⟩:=r;rw[show v=_ from e];exact UZ ..
  |inr x=>obtain⟨t,e⟩:=r;rw[show v=_ from e];exact U0 ..
 refine TS.gM AB pl.isList (by simpa using ex) mN (by lia) jb λh2 tk dQ S m1 m2 kp=>?_;refine Calls.spliced_nil ?_;walk_at"x";have QQ:es.toList.map (·.2)=dQ.map (·.2):=by rw[xo,fF];rfl
 have WR:dQ.length<=1000:=by
  have:=TS.aV nd (m:=ks) λk hk=>by rw[<- ek];exact(m1 k).mp hk
  rw[b9] at this;lia
 have L4:es.size=dQ.length:=by have:=congrArg List.length xo;simpa using this
 have QR:∀ p∈dQ,p.1∈ks:=λp hp=>by rw[<- ek];exact bT.mpr ⟨p,m2 p hp,rfl⟩
 have mem:∀ eW:List ae,eW.Perm (dQ.map (·.2))->∀ v∈eW,∃ k,RelV (kV k) v/\k∈ks:=λeW pv v hv=>by obtain⟨p,hp,rfl⟩:=bT.mp (pv.mem_iff.mp hv);exact⟨p.1,hx p (m2 p hp),QR p hp⟩
 have HG:s1.heap.objs.size<=h2.objs.size:=sQ (e9 ho);refine vE.fO (κ:=oneType') (R:=λeW=>eW.Perm (dQ.map (·.2))) (P:=λv=>∃ k,RelV (kV k) v/\oI k=b/\k∈ks) (λA' E' Q' hA hQ=>TS.fU (hA.trans AB) ho hex hd T.fits T.up T.sz hL (by rw[L4,iL];lia) λh' DL d eW oa BU pv=>hQ eW h' DL d (by rw[<- QQ];exact pv) oa BU) (λeW pv=>by rw[pv.length_eq,b9,iL];lia) (λeW pv v hv=>?_) (λeW pv WU A' E' s' oa Q' q'=>?_) (λs' oa=>ud) λeW h' a' out n DL d pv pm pw oa ha eo=>?_
 ·obtain⟨k,rk,mk⟩:=mem eW pv v hv;exact⟨k,rk,hb k mk,mk⟩
 ·obtain⟨ms,rm⟩:=jM eW (mem eW pv);refine pB (b:=b) rm (λk hk=>?_) WU q';have:(eW.map iK)=ms.map λk=>[k]:=keys_map rm;have xa:[k]∈eW.map iK:=by rw[this];exact bT.mpr ⟨k,hk,rfl⟩
  obtain⟨v,hv,e⟩:=bT.mp xa;obtain⟨k',rk,mk⟩:=mem eW pv v hv;rw[jF rk] at e;cases e;exact hb _ mk
 ·have xA:=pm.trans pv;obtain⟨ms,rm⟩:=jM out (mem _ xA);have QV:(dQ.map (·.2)).map iK=(dQ.map (·.1)).map λk=>[k]:=by rw[fF,fF];exact Fm λp hp=>jF (hx p (m2 p hp))
  have pk:ms.Perm (dQ.map (·.1)):=p_ (by rw[<- keys_map rm,<- QV];exact xA.map _);have hml:ms.length=dQ.length:=by simpa using pk.length_eq
  have cp':∀ k∈ms,k∈ks:=λk hk=>by rw[<- ek];exact(m1 k).mp (pk.mem_iff.mp hk)
  refine⟨.ref a',_,(I1.laid (λb o e=>oa b o (kp b o e)) (iS HG ha) (show kH X.prog X.w _ h' _ (.lst (ms.map kV)) from⟨by rw[b9,iL];lia,out,n,rm,eo⟩)).drawn,rfl,
   q ms _ (pk.nodup_iff.mpr nd) (λk=>by rw[pk.mem_iff,m1,ek]) ?_ (I1.b5.fresh (iS HG ha))⟩
  have Ql:(out.map iK).Pairwise λx y=>EX (ks.map λk=>[k]) x<=EX (ks.map λk=>[k]) y:=iP.mpr pw;rw[keys_map rm,iP] at Ql;refine Ql.imp_of_mem λ{x y} mx my hle=>?_;have mx:=cp' x mx;have my:=cp' y my;rw[<- rW,<- j0 (L:=ks.map λk=>[k]) (by simp[ic,hb x mx,hb y my]) (bT.mpr ⟨y,my,rfl⟩)];exact decide_eq_false (by lia)
end
end L2
namespace L2.Q
section
variable {X:Cx}{K:aC}{e:Expr}{te:WE}{p p2 pos js:Pos}
def oY:ll "set" = some (.type "set"):=by decide +kernel
def f9:W1:=λ_ x Q=>match x with
 |.list xs=>∃ (ks:List (List Key)) (sh:List Bool),xs=ks.map kg/\ks.length<=1000/\(∀ k∈ks,ic k=true :: sh)/\∀ ms:List (List Key),ms.Nodup->(∀ k,k∈ms↔k∈ks)->(ms.Pairwise λa b=>fA b a=false)->Q (.ow true) (.list (ms.map kg))
 |_=>False
def d_:W1:=λ_ x Q=>match x with
 |.list xs=>∃ (ks:List (List Key)) (sh:List Bool),xs=ks.map kg/\ks.length<=1000/\(∀ k∈ks,ic k=false :: sh)/\∀ ms:List (List Key),ms.Nodup->(∀ k,k∈ms↔k∈ks)->(ms.Pairwise λa b=>fA b a=false)->Q (.ow true) (.list (ms.map kg))
 |_=>False
def eE:W1:=λ_ x Q=>match x with
 |.list xs=>∃ (ks:List Key) (b:Bool),xs=ks.map kM/\ks.length<=1000/\(∀ k∈ks,oI k=b)/\∀ ms:List Key,ms.Nodup->(∀ k,k∈ms↔k∈ks)->(ms.Pairwise λa b=>k7 b a=false)->Q (.ow true) (.list (ms.map kM))
 |_=>False
def sE:LB K (dZ K) f9:=by
 walk_at"e";have r1:=rx.rep w
 cases r1 with
 |list z s q =>obtain⟨ks,sh,rfl,hz,hs,h⟩:=h;obtain⟨ta,ok⟩:=mj q;have hl:=q.length;rw[b9] at hl;refine⟨_,ks,true,sh,s,by lia,ta,hs,λzs ms l tz nd mm pw LN=>?_⟩;have rr:=gF (K:=K) tz λk hk=>ok k ((mm k).mp hk);have:ms.length<=ks.length:=TS.aV nd λk hk=>(mm k).mp hk;exact f.lst w (by rw[b9,iL];lia) rr (du ms) (h ms nd mm pw) l LN
 |_=>exact h.elim
def rZ:LB K (dZ K) d_:=by
 walk_at"e";have r1:=rx.rep w
 cases r1 with
 |list z s q =>obtain⟨ks,sh,rfl,hz,hs,h⟩:=h;obtain⟨ta,ok⟩:=mj q;have hl:=q.length;rw[b9] at hl;refine⟨_,ks,false,sh,s,by lia,ta,hs,λzs ms l tz nd mm pw LN=>?_⟩;have rr:=gF (K:=K) tz λk hk=>ok k ((mm k).mp hk);have:ms.length<=ks.length:=TS.aV nd λk hk=>(mm k).mp hk;exact f.lst w (by rw[b9,iL];lia) rr (du ms) (h ms nd mm pw) l LN
 |_=>exact h.elim
def rQ:LB K (gH K) eE:=by
 walk_at"e";have r1:=rx.rep w
 cases r1 with
 |list z s q =>obtain⟨ks,b,rfl,hz,hb,h⟩:=h;obtain⟨e,ok⟩:=mF q;subst e;refine⟨ks,b,s,hz,hb,λms l nd mm pw hl=>?_⟩;have:ms.length<=ks.length:=TS.aV nd λk hk=>(mm k).mp hk;exact f.lst w (by rw[b9,iL];lia) (gK λk hk=>ok k ((mm k).mp hk)) (dY ms) (h ms nd mm pw) l hl
 |_=>exact h.elim
def vQ (hm:X.mg "sorted" = none) (mE:X.mg "set" = none) (he:QE X K e te) (hc:autoParam (X.calm=true) bv) (hK:autoParam (X.K=K) bv) (kc:autoParam (b6 [e] X.env=(false,df e X.env) :: b6 [] X.env) bv) (hs:autoParam (b6 [.Call (.Name "set" p2) [e] [] js] X.env=(false,df (.Call (.Name "set" p2) [e] [] js) X.env) :: b6 [] X.env) bv) (hu:X.A.units+64<eR:=by assumption) (hg:Gl X "sorted" := by rfl) (sj:Gl X "set" := by rfl) :
  QE X K (.Call (.Name "sorted" p) [.Call (.Name "set" p2) [e] [] js] [] pos) (gV f9 te):=by
 subst hK;exact PE.imp (jx hc hu hg hm sj mE he bF oY kc hs) λσ H Qv ⟨Hs,ρ,ag,Q,sr,h,fin⟩=>⟨Hs,ρ,ag,_,sr,h,λv H1 bI m x As g1 r1 f1 q1=>sE bI H1 m x v As Q Qv g1.wf r1 q1 (Fin.after fin g1)⟩
def vC (hm:X.mg "sorted" = none) (mE:X.mg "set" = none) (he:QE X K e te) (hc:autoParam (X.calm=true) bv) (hK:autoParam (X.K=K) bv) (kc:autoParam (b6 [e] X.env=(false,df e X.env) :: b6 [] X.env) bv) (hs:autoParam (b6 [.Call (.Name "set" p2) [e] [] js] X.env=(false,df (.Call (.Name "set" p2) [e] [] js) X.env) :: b6 [] X.env) bv) (hu:X.A.units+64<eR:=by assumption) (hg:Gl X "sorted" := by rfl) (sj:Gl X "set" := by rfl) :
  QE X K (.Call (.Name "sorted" p) [.Call (.Name "set" p2) [e] [] js] [] pos) (gV d_ te):=by
 subst hK;exact PE.imp (jx hc hu hg hm sj mE he bF oY kc hs) λσ H Qv ⟨Hs,ρ,ag,Q,sr,h,fin⟩=>⟨Hs,ρ,ag,_,sr,h,λv H1 bI m x As g1 r1 f1 q1=>rZ bI H1 m x v As Q Qv g1.wf r1 q1 (Fin.after fin g1)⟩
def lL (hm:X.mg "sorted" = none) (mE:X.mg "set" = none) (he:QE X K e te) (hc:autoParam (X.calm=true) bv) (hK:autoParam (X.K=K) bv) (kc:autoParam (b6 [e] X.env=(false,df e X.env) :: b6 [] X.env) bv) (hs:autoParam (b6 [.Call (.Name "set" p2) [e] [] js] X.env=(false,df (.Call (.Name "set" p2) [e] [] js) X.env) :: b6 [] X.env) bv) (hg:Gl X "sorted" := by rfl) (sj:Gl X "set" := by rfl) :
  QE X K (.Call (.Name "sorted" p) [.Call (.Name "set" p2) [e] [] js] [] pos) (gV eE te):=by
 subst hK;exact PE.imp (qX hc hg hm sj mE he bF oY kc hs) λσ H Qv ⟨Hs,ρ,ag,Q,sr,h,fin⟩=>⟨Hs,ρ,ag,_,sr,h,λv H1 bI m x As g1 r1 f1 q1=>rQ bI H1 m x v As Q Qv g1.wf r1 q1 (Fin.after fin g1)⟩
end
end L2.Q
namespace L2.Q.R
section
variable {Q:Md->L2.Q.D->Prop}{m:Md}{xs:List L2.Q.D}
def Gh:f9 m (.list xs) Q = ∃ (ks:List (List Key)) (sh:List Bool),xs=ks.map kg/\ks.length<=1000/\(∀ k∈ks,ic k=true :: sh)/\∀ ms:List (List Key),ms.Nodup->(∀ k,k∈ms↔k∈ks)->(ms.Pairwise λa b=>fA b a=false)->Q (.ow true) (.list (ms.map kg)):=rfl
def Gg:d_ m (.list xs) Q = ∃ (ks:List (List Key)) (sh:List Bool),xs=ks.map kg/\ks.length<=1000/\(∀ k∈ks,ic k=false :: sh)/\∀ ms:List (List Key),ms.Nodup->(∀ k,k∈ms↔k∈ks)->(ms.Pairwise λa b=>fA b a=false)->Q (.ow true) (.list (ms.map kg)):=rfl
def Gi:eE m (.list xs) Q = ∃ (ks:List Key) (b:Bool),xs=ks.map kM/\ks.length<=1000/\(∀ k∈ks,oI k=b)/\∀ ms:List Key,ms.Nodup->(∀ k,k∈ms↔k∈ks)->(ms.Pairwise λa b=>k7 b a=false)->Q (.ow true) (.list (ms.map kM)):=rfl
end
end L2.Q.R
namespace L2
end L2
namespace L2.Q
end L2.Q
namespace L2.Q.R
end L2.Q.R
namespace L2
open Builtin Builtin.Str Builtin.Int
section
variable {prog:d5}{w:eJ}{A:fh}{E:ae->ax->Prop}{s:ax}{x:Str}{n:Int}{t u:Tok}
def jA(b5:MulOk x n)(h:∀ t' k,Q (.str (Txt.mul x n) t') { s with toks:=k }):bP (aS prog w) A (om .Mult (.str x t) (.int n u)) Q E s:=by
 refine P.mul_str b5.1 b5.2.1 b5.2.2 ?_;unfold Txt.mul at h;by_cases h1:n<1
 ·rw[if_pos h1];have h':=h s.toks (s.toks+1);rw[if_pos h1] at h';exact⟨by decide,h'⟩
 ·rw[if_neg h1];refine post_val_or_made (λhc=>fits_reps (b5.2.2 h1 (by simpa using hc))) λt' k=>?_;have h':=h t' k;rw[if_neg h1] at h';exact h'
end
def GX:R2:=λx y H Q=>G_ y x H Q
def Eh{X:Cx}:eS X (om .Mult) GX:=by
 intro pins s σ H y x u v Q I ry rx h;unfold GX G_ at h;split at h
 ·rename_i n z;obtain⟨⟨h1,h2,h3⟩,q⟩:=h;walk_at"A";obtain⟨t',rfl⟩:=ry;refine jA ⟨?_,λ_ _=>?_,λ_ _=>?_⟩ λt' k=>⟨.str (rX n z),H,I.tok _,⟨_,by rw[Dr h1]⟩,q⟩
  ·have a1:¬ n < -(2 ^ 63:Int):=by lia
   have a2:¬ n >= 2 ^ 63:=by lia
   rw[decide_eq_false a1,decide_eq_false a2];rfl
  ·have:(2 ^ 63-1:Int) / 100<=(2 ^ 63-1) / n:=by apply Int.le_ediv_of_mul_le (by lia);lia
   lia
  ·have:z.length*n.toNat<=100*100:=zD h3 (by lia);have hs:=iL;simp only[tooLong,decide_eq_false_iff_not];lia
 ·exact h.elim
end L2
namespace L2.Q
section
variable {X:Cx}{K:aC}{a:Expr}{ta:WE}
def QY(t:WE):WE:=λρ Q=>t ρ λm d=>jJ m/\Q .sh d
def WV(h:QE X K a ta):QE X K a (QY ta):=by refine PE.imp h λσ H Qv hx=>kL hx λHs ρ ag Q sr h fin=>?_;refine⟨Hs,ρ,ag,_,sr,h,λv H1 bI m d As g1 r1 f1 q1=>?_⟩;obtain⟨nb,q⟩:=q1;obtain⟨aT,g2,r2⟩:=r1.nY g1 f1 nb;exact fin v H1 aT .sh d [] g2 ⟨rfl,r2⟩ ⟨oy,λ_ h=>xi h⟩ q
def L5(ys:List D)(x:D):Bool:=ys.any λz=>ja z x
def T5(neg:Bool):W2:=λ_ x _ y Q=>∃ ys,(y=.list ys\/y=.tup ys)/\dS 12 x=true/\dS 12 y=true/\Q .sh (.bl (if neg then !L5 ys x else L5 ys x))
def WW(K:aC)(neg:Bool):R2:=λx y H Q=>∃ d e xs,L2.Rep K H d x/\L2.Rep K H e y/\(e=.list xs\/e=.tuple xs)/\d.canLay0=true/\PyData.canLayAll0 xs=true/\d.depth<=60/\Q (.bl (if neg then !(xs.any λz=>PyData.eqv z d) else xs.any λz=>PyData.eqv z d)) H
def yj(hu:X.A.units+64<eR):eS X (iq .NotIn) (WW X.K true):=by
 walk_at"b";obtain⟨d,e,xs,h1,h2,h3,h4,h5,h6,q⟩:=h;obtain⟨as,r1⟩:=h1.reads I rx;obtain⟨bs,r2⟩:=h2.reads I ry;rcases h3 with rfl|rfl
 ·exact PySem.SeqAt.notIn_list_reads r2 r1 h5 h4 (by lia) ⟨.bl _,H,I,rfl,q⟩
 ·exact PySem.SeqAt.notIn_tuple_reads r2 r1 h5 h4 (by lia) ⟨.bl _,H,I,rfl,q⟩
def xN(hK:autoParam (X.K=K) bv)(hu:X.A.units+64<eR:=by assumption):eS X (iq .NotIn) (WW K true):=by subst hK;exact yj hu
def Dm(ys:List D)(x:D):((n5 ys).any λz=>PyData.eqv z x.py)=L5 ys x:=by
 induction ys with
 |nil=>rfl
 |cons y ys ih =>rw[n5,D7,ih];rfl
def BL:mI K (WW K neg) (T5 neg):=by
 walk_at"a";obtain⟨ys,hy,o1,o2,q⟩:=h;have l1:=iG 12 x o1;have l2:=iG 12 y o2;refine⟨x.py,y.py,n5 ys,(rx.rep w).l2 o1,(ry.rep w).l2 o2,?_,l1.1,?_,by lia,?_⟩
 ·rcases hy with rfl|rfl
  ·exact .inl rfl
  ·exact .inr rfl
 ·rcases hy with rfl|rfl
  ·exact l2.1
  ·exact l2.1
 ·rw[Dm];exact f.sh w (.bl _) q
def L6(o:Option (Option Sl))(k:List D->Prop):Prop:=match o with
 |some (some (.ow true (.list xs)))=>k xs
 |_=>False
def intD(y:D)(k:Int->Prop):Prop:=match y with
 |.int i=>k i
 |_=>False
def QZ(d:D):Md:=bif d.flat then .sh else .ow true
end
end L2.Q
namespace L2.Q.R
section
variable {ρ:Env}{te:WE}{m m':Md}{x:L2.Q.D}{ys:List L2.Q.D}{Q:Md->L2.Q.D->Prop}
def Lq:L6 (some (some (.ow true (.list ys)))) k=k ys:=rfl
def K4:intD (.int i) k=k i:=rfl
def jI':QY te ρ Q=te ρ λm d=>jJ m/\Q .sh d:=rfl
def Lj:T5 neg m x m' (.list ys) Q=(dS 12 x=true/\dS 12 (.list ys)=true/\Q .sh (.bl (if neg then !L5 ys x else L5 ys x))):=by apply propext;exact⟨λ⟨zs,h,a,b,c⟩=>by rcases h with h|h<;>cases h;exact⟨a,b,c⟩,λ⟨a,b,c⟩=>⟨ys,.inl rfl,a,b,c⟩⟩
end
end L2.Q.R
namespace L2
section
variable {prog:d5}{w:eJ}{A:fh}{E:ae->ax->Prop}{s:ax}
def Ep{κ:Type}[DecidableEq κ]{kd:HeapKind prog w κ}{d b:ah}{xs:List (κ × ah × ae)}{k:κ}{r:ae}{Q:ae->ax->Prop}(hu:kd.room A)(hk:kd.is s.heap k b)(hm:s.heap.DictOfH kd d xs)(hz:xs.length<=bq)(h1:∀ p,atKey xs k=some p->Q p.2 { s with toks:=s.toks+kd.draws k }) (h2:atKey xs k=none->∀ h',h'.DictOfH kd d (storedH xs k b r)->Heap.SameBut d s.heap h'->Q r { s with heap:=h',toks:=s.toks+kd.draws k }):bP (aS prog w) A (dictSetDefault d (.ref b) r) Q E s:=by
 obtain⟨o,es,ep,ho,hc,hd,he,mN,hn⟩:=hm;unfold dictSetDefault;try with_reducible refine sM ?_
 refine aw (kd.pyHash hu hk (aw (wpAny_dictFind_heap hu hk ho hd he mN hn (λno=>?_) λj p hj=>?_)))
 ·have nk:=atKey_none_of_get no;refine aw (AX (aw (wpAny_updateDictKeys (hz:=by have e:=size_of_entries he;lia) ho hd (bG (h2 nk _ ?_ (Heap.SameBut.update ..))))));rw[storedH_new nk];refine⟨_,_,ep+1,Fs _ ho (Obj.isFreed_of_dict (Obj.data_mapDictKeys hd _)),hc.mapDictKeys _,Obj.data_mapDictKeys hd _,by simp[he,entryOfKey],λx hx=>?_,?_⟩
  ·rcases dP.mp hx with q|q
   ·exact kd.keeps (mN x q) ho hd (Heap.SameBut.update ..)
   ·obtain rfl:=oo.mp q;exact kd.keeps hk ho hd (Heap.SameBut.update ..)
  ·rw[qB];refine hX.mpr ⟨hn,by simp,λx hx y hy e=>?_⟩;obtain rfl:y=k:=by simpa using hy
   exact not_mem_keys_of_get no (e ▸ hx)
 ·refine aw (O8 ho hd ?_);rw[entry_at he j,hj];exact aw (AX (bG (h1 _ (atKey_of_get hn hj))))
def zm{κ:Type}[DecidableEq κ](kd:HeapKind prog w κ)(d b:ah)(hd:(d == qA)=false)(r:ae) :
  MeetsIn prog w (Builtin.«dict.setdefault» ⟨[.ref d,.ref b,r],[]⟩) (λA R s=>kd.room A.in1/\∃ k xs,kd.is s.heap k b/\s.heap.DictOfH kd d xs/\xs.length<=bq /\ (∀ p,atKey xs k=some p->R (.ok (.ret p.2)) { s with toks:=s.toks+kd.draws k }) /\ (atKey xs k=none->∀ h',h'.DictOfH kd d (storedH xs k b r)->Heap.SameBut d s.heap h'->R (.ok (.ret r)) { s with heap:=h',toks:=s.toks+kd.draws k })) :=
 .of_wp λA R s eM=>by obtain⟨hu,k,xs,hk,hm,hz,h1,h2⟩:=eM;refine aw (aw (wpAny_notOrdered_dict hm.typeIs ?_));refine(bG ?_);refine(show bP _ _ (if (d == qA)=true then _ else (dictSetDefault d (Value.ref b) r >>= _)) _ _ s from ?_);rw[if_neg (by rw[hd];decide)];exact aw (Ep hu hk hm hz (λp q=>bG ⟨p.2,rfl,h1 p q⟩) λq h' a c=>bG ⟨r,rfl,h2 q h' a c⟩)
end
section
variable {X:Cx}{pins:List (ah × Obj)}{σ:St}{H:Hp}{s:ax}{a b:ah}{A:fh}{E:ae->ax->Prop}
def zH(hu:A.units+1<eR)(I:Inv X pins σ H s)(e:H a=some (.dT kvs))(eb:H b=some (.tup (k.map kV)))(hl:kvs.length<bq)(rv:RelV v r)(h1:∀ v' w' s',iA kvs k=some v'->Inv X pins σ H s'->RelV v' w'->Q w' s') (h2:iA kvs k=none->∀ s',Inv X pins σ (upd H a (.dT (putK kvs k v))) s'->Q r s') :
  bP (aS X.prog X.w) A (call (.builtin "dict.setdefault") [.ref a,.ref b,r]) Q E s:=by
 obtain⟨z,hd,xs,rel,dd⟩:=aD' I.b5 e;have hz:xs.length<=bq:=by rw[<- Paired.length rel];exact z
 have hp:(putK kvs k v).length<=bq:=by have:=SJ kvs k v;lia
 have vl:=rel.val k;refine call_meetsIn PySem.F.slot_dict_setdefault dd.typeIs PySem.F.entry_dict_setdefault (PySem.F.args_dict_setdefault_3 _ _ _) (zm (B9 (kC X.prog X.w)) a b hd r) ⟨HZ hu,k,xs,FY I.b5 eb,dd,hz,λp fz=>?_,λhn h' EI hs=>?_⟩
 ·rw[fz] at vl
  cases ev:iA kvs k with
  |none=>rw[ev] at vl;exact vl.elim
  |some v'=>rw[ev] at vl;exact h1 v' _ _ ev (I.tok _) vl
 ·have ev:iA kvs k=none:=by
   rw[hn] at vl
   cases ev:iA kvs k with
   |none=>rfl
   |some v'=>rw[ev] at vl;exact vl.elim
  refine h2 ev _ ?_;obtain⟨q,es,ep,hq,g2,g3,g4,_,g5⟩:=EI;refine SN I (by rw[e];exact True.intro) hs ⟨q,hq⟩ ⟨hp,hd,_,(rel.put k eb rv).keeps λc ys ec=>?_,q,es,ep,hq,g2,g3,g4,g5⟩;rw[fq (ZH ec e λz=>nomatch z)];exact ec
end
def tSd(td ty tx:TE):TE:=λσ H Q=>td σ H λx H1=>∃ a,x=.ref a/\P5 H1 a/\ty σ H1 λy H2=>tx σ H2 λz H3=>∃ kvs k b,H3 a=some (.dT kvs)/\y=.ref b/\H3 b=some (.tup (k.map kV))/\kvs.length<bq /\ (∀ v,iA kvs k=some v->Q v H3)/\(iA kvs k=none->Q z (upd H3 a (.dT (putK kvs k z))))
def Ku {X:Cx} (hu:X.A.units+1<eR) (ho:PE X o td) (he:PE X e ty) (hf:PE X f tx) (m:M2 X o "setdefault" apos e f fe):PE X (.Call (.Attribute o "setdefault" apos) [e,f] [] fe) (tSd td ty tx):=by intro pins s σ H Q I h;refine wpAny_Call_method m.base m.few m.line PySem.F.plainAttrs_dict PySem.F.slot_dict_setdefault PySem.F.type_dict_setdefault (dk (ho pins s σ H _ I h) λu s1 eM=>?_);obtain⟨x,H1,I1,rx,a,ex,d,q1⟩:=eM;subst ex;cases (rx);have td:=VA I1 d;refine⟨td.1,td.2.1,?_⟩;rw[m.trees];refine Calls.callWith_builtin rfl (Calls.evalArgs_plain (Calls.spliced_cons (dk (he pins s1 σ H1 _ I1 q1) λiv s2 dv=>L2.g9 dv λy H2 I2 ry q2=>Calls.spliced_cons (dk (hf pins s2 σ H2 _ I2 q2) λfv s3 ⟨z,H3,I3,rz,kvs,k,b,e1,e2,e3,hl,q3,q4⟩=>Calls.spliced_nil ?_))));subst e2;cases (ry);exact zH hu I3 e1 e3 hl rz (λv' w' s' ev I' r'=>⟨v',H3,I',r',q3 v' ev⟩) λev s' I'=>⟨z,_,I',rz,q4 ev⟩
end L2
namespace L2.Q
section
variable {X:Cx}{K:aC}{a b c:Expr}{ta tb tc:WE}{pos apos fe:Pos}
def T6(x:D)(f:List (Key × D)->Prop)(g:List (List Key × D)->Prop):Prop:=match x with
 |.dK kvs=>f kvs
 |.dT kvs=>g kvs
 |_=>False
def Q0(y:D)(k:List D->Prop):Prop:=match y with
 |.tup ys=>k ys
 |_=>False
def L7(o:Option D)(m n:Md)(z:D)(Q:Md->D->Prop):Prop:=match o with
 |some d=>Q (tJ m d) d
 |none=>Q n z
def OU(ta tb tc:WE):WE:=λρ Q=>ta ρ λm x=>T6 x (λkvs=>tb ρ λ_ y=>tc ρ λn z=>∃ k,y.key1=some k/\L7 (dE kvs k) m n z Q) (λkvs=>tb ρ λ_ y=>tc ρ λn z=>Q0 y λys=>∃ ks,dW ys=some ks/\L7 (dE kvs ks) m n z Q)
def uD(hx:mG K (OU ta tb tc) σ H Qv):aL' (mG K ta) (mG K tb) (mG K tc) σ H Qv:=kL hx λHs ρ ag Q sr h fin=>by
 walk_at"g"
 have got:∀ {o:Option V} {d? : Option D} {H2 H3 aT fP:Hp} {w:V} {n:Md} {z:D} {Cs:List ah},fE bI H1 aT H2->fE aT H2 fP H3->RM K fP H3 n z w Cs->cg fP H2 Cs->(match d? with
   |some d=>∃ v,o=some v/\Rep K H3 d v/\(m=.sh->Rep K fP d v)
   |none=>o=none)->L7 d? m n z Q->Qv (o.getD w) H3:=by
  intro o d? H2 H3 aT fP w n z Cs g2 g3 r3 f3 l q
  cases d? with
  |none=>rw[show o=none from l];exact fin w H3 fP n z Cs ((g1.trans g2).trans g3) r3 (f3.of (g1.trans g2).all) q
  |some d =>obtain⟨v',e,u1,u2⟩:=l;rw[e];exact(Fin.after fin ((g1.trans g2).trans g3)).tJ g3.wf u1 u2 q
 have core:∀ G:Hp,bS G H1->(∀ H3 fP,fE bI H1 fP H3->∀ d v,Rep K G d v->Rep K H3 d v/\(m=.sh->Rep K fP d v))->Rep K G x v->∃ a,v=.ref a/\P5 H1 a/\mG K tb σ H1 λy H2=>mG K tc σ H2 λz H3=>∃ o,k9 H3 a y o/\Qv (o.getD z) H3:=by
  intro G sg up r
  cases r with
  |dK kk s q =>
   refine⟨_,rfl,.inl ⟨_,bS.rd sg s⟩,bI,ρ,ag,_,sr.grow g1,q1,λu H2 aT n y Bs g2 r2 f2 q2=>⟨aT,ρ,ag,_,(sr.grow g1).grow g2,q2,λw H3 fP n3 z Cs g3 r3 f3 q3=>?_⟩⟩;have ry:=(r2.grow g3).rep g3.wf;obtain⟨k,hk,q4⟩:=q3;have ev:=ry.key hk;subst ev;refine⟨_,k9.k' (bS.rd (g2.trans g3).all (bS.rd sg s)),got g2 g3 r3 f3 ?_ q4⟩;have z:=zip_get (k:=k) q;split
   ·rename_i d e;rw[e] at z;obtain⟨v',e',r'⟩:=z;exact⟨v',e',up _ _ (g2.trans g3) _ _ r'⟩
   ·rename_i e;rw[e] at z;exact z
  |dT kk s q =>
   refine⟨_,rfl,.inr ⟨_,bS.rd sg s⟩,bI,ρ,ag,_,sr.grow g1,q1,λu H2 aT n y Bs g2 r2 f2 q2=>⟨aT,ρ,ag,_,(sr.grow g1).grow g2,q2,λw H3 fP n3 z Cs g3 r3 f3 q3=>?_⟩⟩;have ry:=(r2.grow g3).rep g3.wf
   cases ry with
   |tup t2 e2 p2 =>
    obtain⟨k,hk,q4⟩:=q3;obtain⟨b',eb,e3⟩:=Rep.kg (.tup t2 e2 p2) hk;cases eb;refine⟨_,k9.t' (bS.rd (g2.trans g3).all (bS.rd sg s)) e3,got g2 g3 r3 f3 ?_ q4⟩;have z:=zip_get (k:=k) q;split
    ·rename_i d e;rw[e] at z;obtain⟨v',e',r'⟩:=z;exact⟨v',e',up _ _ (g2.trans g3) _ _ r'⟩
    ·rename_i e;rw[e] at z;exact z
   |_=>exact q3.elim
  |_=>exact q1.elim
 rcases r1.here g1.wf with⟨hm,r⟩|⟨hm,r⟩
 ·exact core bI g1.wf.sub (λH3 fP g d v q=>⟨q.same (g1.wf.sub.trans g.all),λ_=>q.same g.sh⟩) r
 ·exact core H1 (bS.refl H1) (λH3 fP g d v q=>⟨q.same g.all,λz=>absurd z hm⟩) r
def Jw (ha:QE X K a ta) (hb:QE X K b tb) (hc:QE X K c tc) (hm:M2 X a "get" apos b c fe:=by exact⟨rfl,rfl,rfl,rfl⟩) (hu:X.A.units+64<eR:=by assumption):QE X K (.Call (.Attribute a "get" apos) [b,c] [] fe) (OU ta tb tc) :=
 PE.imp (gx' (by lia) ha hb hc hm) λσ H Qv hx=>uD hx
def G9 (ha:QE X K a ta) (hb:QE X K b tb) (hm:M1 X a "get" apos b fe:=by exact⟨rfl,rfl,rfl,rfl⟩) (hu:X.A.units+64<eR:=by assumption):QE X K (.Call (.Attribute a "get" apos) [b] [] fe) (OU ta tb (wC .non)) :=
 PE.imp (gw' (by lia) ha hb hm) λσ H Qv hx=>uq (uD hx) λx H1 ⟨a,e,d,q⟩=>⟨a,e,d,uq q λy H2 q2=>kL q2 λHs ρ ag Q sr q f=>f .non H2 Hs .sh .non [] (fE.refl sr.wf) ⟨rfl,.non⟩ ⟨oy,λ_ h=>xi h⟩ q⟩
def Q5(d x:D):D:=match d with
 |.list xs=>.list (xs++[x])
 |d=>d
def mP:List (List Key × D)->List Key->D->List (List Key × D)
 |[],k,x=>[(k,.list [x])]
 |p :: r,k,x=>if p.1=k then (p.1,Q5 p.2 x) :: r else p :: mP r k x
def OV(kvs:List (List Key × D))(k:List Key):List (List Key × D):=match dE kvs k with
 |some _=>kvs
 |none=>kvs++[(k,.list [])]
def Bq:Option D->Prop
 |none=>True
 |some (.list xs)=>xs.length<bq
 |_=>False
def T7(o:Option (Option Sl))(k:List (List Key × D)->Prop):Prop:=match o with
 |some (some (.ow true (.dT kvs)))=>k kvs
 |_=>False
def T8(i:Nat)(tk te:WE):WS:=λE ρ=>T7 ρ[i]? λkvs=>tk ρ λ_ y=>Q0 y λys=>∃ ks,dW ys=some ks/\kvs.length<bq/\Bq (dE kvs ks) /\
 te (ρ.set i (some (.ow true (.dT (OV kvs ks))))) λ_ x=>x.flat=true/\E.nx (ρ.set i (some (.ow true (.dT (mP kvs ks x)))))
def a_{κ β:Type}[DecidableEq κ](p:κ × β)(r:List (κ × β))(k:κ):dE (p :: r) k=if p.1=k then some p.2 else dE r k:=by by_cases h:p.1=k<;>simp[dE,h]
def Ij:∀ {kvs:List (List Key × D)},dE kvs k=some d->∃ j,(kvs.map (·.2))[j]? = some d/\(∀ vs:List V,vs.length=kvs.length->iA ((kvs.map (·.1)).zip vs) k=vs[j]?) /\
  ∀ x,(mP kvs k x).map (·.1)=kvs.map (·.1)/\(mP kvs k x).map (·.2)=(kvs.map (·.2)).set j (Q5 d x)
 |[],h=>by simp[dE] at h
 |p :: kvs,h=>by
  rw[a_] at h;by_cases e:p.1=k
  ·rw[if_pos e] at h;cases h;refine⟨0,rfl,λvs hl=>?_,λx=>?_⟩
   ·cases vs with
    |nil=>cases hl
    |cons v vs=>exact yi e
   ·simp[mP,e]
  ·rw[if_neg e] at h;obtain⟨j,h1,h2,h3⟩:=Ij h;refine⟨j+1,by simpa using h1,λvs hl=>?_,λx=>?_⟩
   ·cases vs with
    |nil=>cases hl
    |cons v vs =>show iA ((p.1,v) :: (kvs.map (·.1)).zip vs) k=_;rw[yk e,h2 vs (by simpa using hl)];rfl
   ·simp[mP,e,h3 x]
theorem ql:∀ {kvs:List (List Key × D)},dE kvs k=none->dE (kvs++[(k,d)]) k=some d
 |[],_=>by simp[dE]
 |p :: kvs,h=>by
  rw[a_] at h;by_cases e:p.1=k
  ·rw[if_pos e] at h;cases h
  ·rw[if_neg e] at h;rw[Rz,a_,if_neg e,ql h]
theorem tU:∀ {kvs:List (List Key × D)},dE kvs k=none->mP (kvs++[(k,.list [])]) k x=mP kvs k x
 |[],_=>by simp[mP,Q5]
 |p :: kvs,h=>by
  rw[a_] at h;by_cases e:p.1=k
  ·rw[if_pos e] at h;cases h
  ·rw[if_neg e] at h;rw[Rz,mP,mP,if_neg e,if_neg e,tU h]
def fm.place(sr:fm K Hs ρ σ H ag)(e:ρ[i]? = some (some (.ow fl d))):∃ v,σ[i]? = some (some v)/\Place K Hs H σ fl d v λd4 d2=>ρ.set i (some (.ow d4 d2)):=by obtain⟨v,As,t,e2,ne,r,sb,g⟩:=SR.put i sr.sr e sr.rS;refine⟨v,e2,As,r,ne,sb.nodup sr.rS,λa h=>sr.own a (sb.subset h),λaT H2 d4 d2 g7 s2 w2 n2 _ r2 ne2 kN o2 st=>?_⟩;obtain⟨t2,x,y,z⟩:=g aT H2 d4 d2 g7 s2 r2 ne2 kN (λa ha m=>(o2 a ha).2.elim id λq=>absurd q (sr.sr.own a m).ne) λa ha m=>st a (sr.sr.own a ha).ne m;exact⟨t2,z,w2,x,λa h=>(y a h).elim (λq=>n2 a (sr.own a q) (sr.sr.own a q).ne) λq=>(o2 a q).1⟩
def tL(sr:fm K Hs ρ σ H ag)(e1:ρ[i]? = some (some (.ow true (.dT kvs))))(hg:dE kvs ks=some (.list xs)) :
  ∃ a OW c ws,σ[i]? = some (some (.ref a))/\H a=some (.dT OW)/\iA OW ks=some (.ref c)/\H c=some (.lst ws)/\ws.length=xs.length /\
   ∀ x y,x.flat=true->Rep K Hs x y->ws.length<bq->∃ fo,fm K Hs (ρ.set i (some (.ow true (.dT (mP kvs ks x))))) σ (upd H c (.lst (ws++[y]))) fo:=by
 obtain⟨v,e2,pl⟩:=sr.place e1;obtain⟨hV,r,ne,nd,own,k⟩:=pl.ex
 cases r with
 |sh hf _=>exact absurd rfl ne
 |@dT a0 vs _ A kk e rs =>
  obtain⟨na,nA⟩:=kA.mp nd;obtain⟨j,ej,ev,es⟩:=Ij hg;obtain⟨w,B,e3,r3,sb,g⟩:=rs.at ej nA;have hl:vs.length=kvs.length:=by have:=rs.length;rw[b9] at this;exact this.symm
  cases r3 with
  |sh hf _=>exact absurd (hf rfl) (by simp[D.flat])
  |@list c ws _ B' hz ec HK =>
   have cA:c∈A:=sb.subset cy;refine⟨a0,_,c,ws,e2,e,(ev vs hl).trans e3,ec,HK.length.symm,λx y hx rx hw=>?_⟩;have hca:a0≠c:=λz=>na (z ▸ cA);obtain⟨nc,nB⟩:=kA.mp (sb.nodup nA);have r4:ck K Hs (upd H c (.lst (ws++[y]))) true (.list (xs++[x])) (.ref c) (c :: B'):=by have:=(HK.ft (H':=upd H c (.lst (ws++[y]))) (bS.refl _) λb hb=>fq λz=>nc (z ▸ hb)).append (aA.cons (.sh (λ_=>hx) rx) .nil);rw[sP,sP] at this;exact .list (by rw[kz];exact hw) hG this
   obtain⟨g7,n2,y2,_,r5⟩:=g Hs (upd H c (.lst (ws++[y]))) true _ _ (bS.refl _) id r4 (sb.nodup nA) (λ_ h _=>h) (λb _ nb=>fq λz=>nb (z ▸ cy));have in2:∀ b∈g7,b∈A:=λb hb=>(y2 b hb).elim (λq=>q.1) λq=>sb.subset q;obtain⟨k1,k2⟩:=es x;have kl:(mP kvs ks x).length=kvs.length:=by have:=congrArg List.length k1;simpa using this
   refine k Hs _ true (.dT (mP kvs ks x)) (a0 :: g7) (bS.refl _) (qb sr.wf (own c (c9 _ cA)) λ_ z=>nomatch z) (λ_ h _=>h) id (.dT ⟨by rw[kl];exact kk.1,λp hp=>?_⟩ (by rw[fq hca,k1];exact e) (by rw[k2];exact r5)) (by simp) (kA.mpr ⟨λz=>na (in2 _ z),n2⟩) (λb hb=>?_) λb _ nb=>fq λz=>nb (z ▸ c9 _ cA)
   ·have:p.1∈kvs.map (·.1):=k1 ▸ List.mem_map_of_mem hp;obtain⟨p',fz,e'⟩:=bT.mp this;rw[<- e'];exact kk.2 p' fz
   ·have DT:b∈a0 :: A:=(eK.mp hb).elim (λz=>z ▸ cy) λz=>c9 _ (in2 b z);exact⟨own b DT,.inl DT⟩
def Ce{te:WE}{Hs H:Hp}{ρ:Env}{σ:St}{ag:List ah}{i:Nat}{kvs:List (List Key × D)}{ks:List Key}{xs:List D}{a:ah}{OW:List (List Key × V)}{v':V}{R:Env->Prop}{G:Hp->Prop}(sr:fm K Hs ρ σ H ag)(e1:ρ[i]? = some (some (.ow true (.dT kvs))))(hg:dE kvs ks=some (.list xs))(hz:xs.length<bq)(eσ:σ[i]? = some (some (.ref a))) (eH:H a=some (.dT OW)) (ev:iA OW ks=some v') (q:te ρ λ_ x=>x.flat=true/\R (ρ.set i (some (.ow true (.dT (mP kvs ks x)))))) (k1:∀ H' ay cc cS,bS Hs ay->fm K ay cc σ H' cS->R cc->G H') :
  Sz K "list" v' H/\Vo (mG K te) Vn σ H λus H2=>ay' v' us H2 λ_ H3=>G H3:=by
 obtain⟨a',kv',c,ws,f1,f2,f3,f4,f5,f6⟩:=tL sr e1 hg;have ea:a'=a:=by rw[f1] at eσ;cases eσ;rfl
 subst ea;have ek:kv'=OW:=by rw[f2] at eH;cases eH;rfl
 subst ek;have e':v'=.ref c:=by rw[f3] at ev;cases ev;rfl
 subst e';refine⟨.inl ⟨rfl,_,.inl (.inl f4)⟩,Hs,ρ,ag,_,sr,q,λy H2 aT m x Cs g2 r2 fr2 q2=>?_⟩;obtain⟨hx,q2⟩:=q2;obtain⟨b',kv2,c2,ws2,h1,h2,h3,h4,h5,h6⟩:=tL (sr.grow g2) e1 hg;have ea:b'=a':=by rw[f1] at h1;cases h1;rfl
 subst ea;have ek:kv2=kv':=by rw[g2.all _ _ f2] at h2;cases h2;rfl
 subst ek;have e':c2=c:=by rw[f3] at h3;cases h3;rfl
 subst e';obtain⟨fo,iE⟩:=h6 x y hx (r2.flat g2.wf hx) (by lia);exact⟨c2,ws2,y,rfl,rfl,h4,by lia,k1 _ aT _ fo g2.sh iE q2⟩
def set_own{α:Type}{ρ:List α}{i:Nat}{x:α}(h:ρ[i]? = some x):ρ.set i x=ρ:=by
 apply D5;intro j;rw[List.getElem?_set];split
 ·rename_i e;subst e;have:=(iN.mp h).1;rw[if_pos this,h]
 ·rfl
def Ko {L:Str->Hp->Prop} {i:Nat} {p1 p2 p3 p4 p5:Pos} (he:PE X a (ED i)) (hb:QE X K b tb) (hc:QE X K c tc) (hK:autoParam (X.K=K) bv) (hm:M2 X a "setdefault" p1 b (.List [] p2) p3:=by exact⟨rfl,rfl,rfl,rfl⟩) (hs:autoParam (sN (.Call (.Attribute (.Call (.Attribute a "setdefault" p1) [b,.List [] p2] [] p3) "append" p4) [c] [] p5) none pos.line X.env=pure false) bv) (vk:autoParam (AW (.Call (.Attribute a "setdefault" p1) [b,.List [] p2] [] p3) "append" X.env (df (.Call (.Attribute a "setdefault" p1) [b,.List [] p2] [] p3) X.env)=df (.Call (.Attribute a "setdefault" p1) [b,.List [] p2] [] p3) X.env) bv) (vn:autoParam (((kQ p5 (b6 [c] X.env)).all (λx=>!x.1) && (backToKw p5 (D2 [] X.env)).all (λx=>x.1.isSome)
   && decide ([c].length+([]:List pS).length+(if ([]:List pS).isEmpty then 0 else 1)<30))=true) bv)
  (hline:autoParam ((p4.endLine == p5.line)=true) bv) (xl:autoParam (b6 (c :: []) X.env=(false,df c X.env) :: b6 [] X.env) bv) (Bn:autoParam ((kQ p5 (b6 [] X.env)).any (·.1)=false) bv) (hu:X.A.units+64<eR:=by assumption) :
  QS X K L (.Expr (.Call (.Attribute (.Call (.Attribute a "setdefault" p1) [b,.List [] p2] [] p3) "append" p4) [c] [] p5) pos) (T8 i tb tc):=by
 subst hK;refine PS.imp (NV (Oc PySem.F.plainAttrs_list PySem.F.slot_list_append PySem.F.type_list_append SG (Ku (by lia) he hb (fW (K:=X.K) aq) hm) (u0 hc x8 xl) vk vn hline xl Bn) hs) λD σ H hx=>cz hx λHs ρ ag E sr h k1 k2 k3 k4=>?_;unfold T8 T7 at h;split at h
 ·rename_i kvs e1;obtain⟨v,e2,pl⟩:=sr.place e1;obtain⟨hV,r,ne,nd,own,k⟩:=pl.ex;have lv:∀ x∈hV,Hs x=none/\H x≠none:=λx hx=>⟨own x hx,(r.own x hx).ne⟩
  cases r with
  |sh hf _=>exact absurd rfl ne
  |@dT a0 vs _ A kk e rs =>
   refine⟨_,e2,a0,rfl,.inr ⟨_,.inl e⟩,Hs,ρ,ag,_,sr,h,λu H2 aT m y Bs g2 r2 f2 q2=>?_⟩;refine⟨aT,ρ,ag,λm d=>m=.ow true/\d=.list [],sr.grow g2,⟨fI _,rfl,rfl⟩,λw H3 fP n z Cs g3 r3 f3 q3=>?_⟩;obtain⟨rfl,rfl⟩:=q3;have ry:=(r2.grow g3).rep g3.wf
   cases ry with
   |tup t2 ey p2 =>
    obtain⟨ks,hk,hz,vt,q⟩:=q2;obtain⟨b',eb,e3⟩:=Rep.kg (.tup t2 ey p2) hk;cases eb;have g:=g2.trans g3;have hl:kvs.length=vs.length:=by have:=rs.length;rwa[b9] at this
    have srg:=sr.grow g;have zg:=zip_get (k:=ks) (rs.reps sr.wf.sub λ_ _=>rfl);refine⟨_,ks,_,g.all _ _ e,rfl,e3,by rw[Nn,b9,<- hl,NF];exact hz,λv' ev=>?_,λev=>?_⟩
    ·cases hg:dE kvs ks with
     |none=>rw[hg] at zg;rw[zg] at ev;cases ev
     |some d =>
      rw[hg] at vt
      cases d with
      |list xs =>rw[show OV kvs ks=kvs by unfold OV;rw[hg],set_own e1] at q;exact Ce srg e1 hg vt e2 (g.all _ _ e) ev q λH' ay cc cS s1 s2 q'=>k1 σ H' ay cc cS (g.sh.trans s1) s2 q'
      |_=>exact vt.elim
    ·have hg:dE kvs ks=none:=by
      cases hg:dE kvs ks with
      |none=>rfl
      |some d=>rw[hg] at zg;obtain⟨v',z,_⟩:=zg;rw[z] at ev;cases ev
     rw[show OV kvs ks=kvs++[(ks,.list [])] by unfold OV;rw[hg]] at q;obtain⟨r3,_⟩:=r3
     cases r3 with
     |sh hf _=>exact absurd (hf rfl) (by simp[Q.D.flat])
     |@list c ws _ B' hw ec HK =>
      cases HK;obtain⟨na,nA⟩:=kA.mp nd;have fc:=f3.2 c cy;have T9:H c=none:=g2.all.free fc.2;have cA:∀ b∈a0 :: A,b≠c:=λb hb z=>by
       subst z;rcases eK.mp hb with rfl|hb
       ·rw[e] at T9;cases T9
       ·exact(rs.own _ hb).ne T9
      have ek:putK ((kvs.map (·.1)).zip vs) ks (V.ref c)=((kvs++[(ks,Q.D.list [])]).map (·.1)).zip (vs++[V.ref c]):=by have:=P0 ks ((kvs.map (·.1)).zip vs);rw[ev] at this;unfold putK;rw[this,if_neg (by decide),qB,List.zip_append (by rw[b9];exact hl)];rfl
      obtain⟨kl,ko⟩:=tY p2 hk;have l1:=p2.length;have WX:=rs.grow g.sh g.all;have rs4:aA X.K fP (upd H3 a0 (.dT (((kvs++[(ks,Q.D.list [])]).map (·.1)).zip (vs++[V.ref c])))) true ((kvs++[(ks,Q.D.list [])]).map (·.2)) (vs++[V.ref c]) (A++[c]):=by have q1:=WX.ft (H':=upd H3 a0 (.dT (((kvs++[(ks,Q.D.list [])]).map (·.1)).zip (vs++[V.ref c])))) (bS.refl _) λb hb=>fq λz=>na (z ▸ hb);have q2:=q1.append (aA.cons (ck.list hw ((fq λz=>cA a0 cy z.symm).trans ec) .nil) .nil);rw[show(kvs++[(ks,Q.D.list [])]).map (·.2)=kvs.map (·.2)++[Q.D.list []] by simp];exact q2
      obtain⟨fo,iE⟩:=k.node g lv (λ_ z=>by cases z) id (.dT ⟨by rw[kz];exact hz,λp hp=>(dP.mp hp).elim (kk.2 p) λz=>by
        obtain rfl:p=(ks,.list []):=by simpa using z
        exact⟨by show ks.length<=_;lia,ko⟩⟩ hG rs4)
       (hX.mpr ⟨nA,by simp,λx hx y hy z=>cA x (c9 _ hx) (by rw[z];simpa using hy)⟩) (λz=>(dP.mp z).elim na λz=>cA a0 cy (by simpa using z))
       (λx hx=>(dP.mp hx).imp id λz=>by
        obtain rfl:x=c:=by simpa using z
        exact⟨fc.1,T9⟩)
      rw[ek];have hi:i<ρ.length:=(iN.mp e1).1;refine Ce (xs:=[]) iE (by simp[hi]) (ql hg) (by rw[iL];decide) e2 hG (by rw[<- ek,gc',if_pos rfl]) ?_ λH' ay cc cS s1 s2 q'=>k1 σ H' ay cc cS (g.sh.trans s1) s2 q';simp only[List.set_set,tU hg];exact q
   |_=>exact q2.elim
 ·exact h.elim
end
end L2.Q
namespace L2
def Dt:R2:=λx y H Q=>match x,y with
 |.str z,.int n=>(0<=n/\n<=100/\z.length<=100)/\Q (.str (rX n z)) H
 |_,_=>False
def Fx{X:Cx}:eS X (om .Mult) Dt:=by
 walk_at"b";unfold Dt at h;split at h
 ·rename_i z n;obtain⟨⟨h1,h2,h3⟩,q⟩:=h;by_cases hn:n<1
  ·walk_at"A";obtain⟨t',rfl⟩:=ry;have e:n=0:=by lia
   subst e;refine jA ⟨by decide,λz=>absurd hn z,λz=>absurd hn z⟩ λt' k=>⟨.str (rX 0 z),H,I.tok _,⟨t',by rw[show Txt.mul z 0=rX 0 z from by unfold Txt.mul rX;rw[if_pos hn];rfl]⟩,q⟩
  ·exact Eh pins s σ H (.str z) (.int n) v u Q I rx ry ⟨⟨by lia,h2,h3⟩,q⟩
 ·exact h.elim
end L2
namespace L2.Q
section
variable {X:Cx}{K:aC}{a b c:Expr}{ta tb:WE}{pos:Pos}
def Az:W2:=λ_ x _ y Q=>match x with
 |.str z=>match y with
  |.int n=>(0<=n/\n<=100/\z.length<=100)/\Q .sh (.str (rX n z))
  |_=>False
 |_=>False
def Dg:mI K Dt Az:=by
 walk_at"a";have r1:=rx.rep w;have r2:=ry.rep w
 cases r1 with
 |str hz=>cases r2 with
  |int n =>obtain⟨hh,q⟩:=h;refine⟨hh,f.sh w (.str ?_) q⟩;rw[nP,iL];have:n.toNat*Str.length _<=100*100:=zD (by lia) hh.2.2;lia
  |_=>exact h.elim
 |_=>exact h.elim
def HQ(ha:QE X K a ta)(hb:QE X K b tb):QE X K (.BinOp a .Mult b pos) (bp Az ta tb):=Ou Fx Dg ha hb
def WY(tk tv:WE):WE:=λρ Q=>tk ρ λ_ x=>tv ρ λm y=>m=.sh/\∃ k,x.key1=some k/\Q (.ow y.flat) (.dK [(k,y)])
def Ab(he:QE X K a ta)(P_:QE X K b tb):QE X K (.Dict [some a] [b] pos) (WY ta tb):=by
 refine PE.imp (aK' (aH' he P_ aG') rfl rfl (by simp) (by simp)) λσ H Qv hx=>kL hx λHs ρ ag Q sr h fin=>λa ha=>?_;have g0:fE Hs H Hs (upd H a (.dK [])):=Ot sr.wf ha λ_ z=>nomatch z;refine⟨Hs,ρ,ag,_,sr.grow g0,h,λv H1 bI m x As g1 r1 f1 q1=>⟨bI,ρ,ag,_,(sr.grow g0).grow g1,q1,λu H2 aT n y Bs g2 r2 f2 q2=>?_⟩⟩;obtain⟨rfl,k,ek,q2⟩:=q2;have rx:=(r1.grow g2).rep g2.wf;have ex:=rx.key ek;subst ex;have gg:=(g0.trans g1).trans g2;have e2:H2 a=some (.dK []):=g2.all _ _ (g1.all _ _ hG);have n2:aT a=none:=g2.mn (g1.mn (sr.wf.sub.free ha) (by rw[hG];exact λz=>nomatch z)) (by rw[g1.all _ _ hG];exact λz=>nomatch z);refine⟨e2,[(k,u)],rfl,by simp,?_⟩;have g3:fE Hs H aT (upd H2 a (.dK [(k,u)])):=⟨λb o hb=>by rw[fq (wt hb ha)];exact gg.all b o hb,gg.sh,qb gg.wf n2 (λ_ z=>nomatch z),gg.new⟩
 exact fin (.ref a) _ aT (.ow y.flat) (.dK [(k,y)]) [a] g3 ⟨.dK ⟨by rw[iL];simp,λp hp=>by
  have:p=(k,y):=by simpa using hp
  subst this;exact jr rx ek⟩ hG (.cons (.sh id r2.2) .nil),by simp⟩ ⟨by simp,λb hb=>by
  obtain rfl:b=a:=by simpa using hb
  exact⟨n2,ha⟩⟩ q2
def WZ(d:D)(k:List (Key × D)->Prop):Prop:=match d with
 |.dK kvs=>k kvs
 |_=>False
def yQ(p:WP)(tk tv:WE):WS:=λE ρ=>tv ρ λm x=>p ρ λfl d up=>tk ρ λ_ y=>m=.sh/\WZ d λkvs=>∃ k,y.key1=some k/\kvs.length<bq/\E.nx (up (fl && x.flat) (.dK (gX kvs k x)))
def zf(ho:QP X K a p)(hi:QE X K b tk)(hv:QE X K c tv)(hs:autoParam (sN c (some (.Subscript a b pos')) pos.line X.env=pure false) bv)(hu:X.A.units+64<eR:=by assumption) :
  QS X K L (.Assign [.Subscript a b pos'] c pos) (yQ p tk tv):=by
 refine PS.imp (aF' (by lia) ho hi hv hs) λD σ H hx=>cz hx λHs ρ ag E sr h k1 k2 k3 k4=>?_;walk_at"k";obtain⟨rfl,q3⟩:=q3;have rx:Rep K fP x v:=(r1.2.same g2.sh).same g3.sh;have ry:=r3.rep g3.wf;obtain⟨hV,r,ne,nd,own,k⟩:=p2.ex;have lv:∀ x∈hV,aT x=none/\H2 x≠none:=λx hx=>⟨own x hx,(r.own x hx).ne⟩
 cases r with
 |sh hf _=>exact absurd rfl ne
 |@dK a0 vs kvs A kk e rs =>
  obtain⟨key,hk,hz,q⟩:=q3;have ey:=ry.key hk;subst ey;obtain⟨na,nA⟩:=kA.mp nd;have hf:(fl && x.flat)=true->fl=true:=λz=>by simp at z;exact z.1
  have WX:=(rs.grow g3.sh g3.all).wk hf;obtain⟨ws,Bs,sb,k5,ew⟩:=t7 (ck.sh (λz=>by simp at z;exact z.2) rx) WX;have hl:kvs.length=vs.length:=by have:=rs.length;rwa[b9] at this
  refine⟨a0,_,rfl,EH.k (g3.all _ _ e) (by rw[Nn,b9,<- hl,NF];exact hz),?_⟩;rw[ew];have nB:a0∉Bs:=λz=>na (sb.subset z);obtain⟨fo,iE⟩:=k.node g3 lv (λ_ z=>by cases z) hf (.dK ⟨iS (bW _ _ _) hz,λp hp=>(jf hp).elim (λz=>by rw[z];exact jr ry hk) λz=>by obtain⟨p',fz,e'⟩:=bT.mp z;rw[<- e'];exact kk.2 p' fz⟩ hG (k5.ft (bS.refl _) λb hb=>fq λz=>nB (by subst z;exact hb))) (sb.nodup nA) nB λb hb=>.inl (sb.subset hb)
  exact k1 σ _ fP _ fo ((g1.sh.trans g2.sh).trans g3.sh) iE q
 |_=>exact q3.elim
def SR.take(i:Nat)(s:SR K Hs H ρ σ ag):ρ[i]? = some (some (.ow fl d))->ag.Nodup ->
  ∃ (v:V) (As cS:List ah),σ[i]? = some (some v)/\ck K Hs H fl d v As/\As.Sublist ag/\cS.Sublist ag/\(∀ a∈As,a∉cS)/\SR K Hs H (ρ.set i none) σ cS:=by
 induction s generalizing i with
 |nil=>intro e;simp at e
 |non q ih =>
  intro e n
  cases i with
  |zero=>simp at e
  |succ i =>obtain⟨v,As,t,o,a,b,c,d,f⟩:=ih i e n;exact⟨v,As,t,o,a,b,c,d,.non f⟩
 |sh r q ih =>
  intro e n
  cases i with
  |zero=>simp at e
  |succ i =>obtain⟨v,As,t,o,a,b,c,d,f⟩:=ih i e n;exact⟨v,As,t,o,a,b,c,d,.sh r f⟩
 |xc q ih =>
  intro e n
  cases i with
  |zero=>simp at e
  |succ i =>obtain⟨v,As,t,o,a,b,c,d,f⟩:=ih i e n;exact⟨v,As,t,o,a,b,c,d,.xc f⟩
 |ow ne r q ih =>
  intro e n;walk_at"d"
  cases i with
  |zero =>obtain⟨rfl,rfl⟩:=e;exact⟨_,_,_,rfl,r,MY _ _,ng _ _,λa h m=>n3 a h a m rfl,.non q⟩
  |succ i =>obtain⟨v,As,t,o,a,b,c,d,f⟩:=ih i e n2;exact⟨v,As,_,o,a,b.trans (ng _ _),c.append_left _,gW n b d,.ow ne r f⟩
 |lk ne r q ih =>
  intro e n;walk_at"d"
  cases i with
  |zero=>simp at e
  |succ i =>obtain⟨v,As,t,o,a,b,c,d,f⟩:=ih i e n2;exact⟨v,As,_,o,a,b.trans (ng _ _),c.append_left _,gW n b d,.lk ne r f⟩
 |ob r q ih =>
  intro e n;walk_at"d"
  cases i with
  |zero=>simp at e
  |succ i =>obtain⟨v,As,t,o,a,b,c,d,f⟩:=ih i e n2;exact⟨v,As,_,o,a,b.trans (ng _ _),c.append_left _,gW n b d,.ob r f⟩
def CG(h:L6 o k):∃ xs,o=some (some (.ow true (.list xs)))/\k xs:=by
 unfold L6 at h;split at h
 ·exact⟨_,rfl,h⟩
 ·exact h.elim
def De(kf:i≠j)(sr:fm K Hs ρ σ H ag)(ei:ρ[i]? = some (some (.ow true (.list hs))))(ej:ρ[j]? = some (some (.ow true (.list xs))))(fl:eP xs=true) (OS:hs.length<bq) :
  ∃ a ws c vs fo,σ[i]? = some (some (.ref a))/\H a=some (.lst ws)/\ws.length<bq/\σ[j]? = some (some (.ref c))/\upd H a (.lst (ws++[.ref c])) c=some (.lst vs)/\b4 K Hs xs vs/\vs.length<=bq /\
   fm K Hs ((ρ.set j none).set i (some (.ow true (.list (hs++[.list xs]))))) σ (upd H a (.lst (ws++[.ref c]))) fo:=by
 obtain⟨v,As,cS,e1,r,sb,st,dj,s1⟩:=SR.take j sr.sr ej sr.rS;have ei':(ρ.set j none)[i]? = some (some (.ow true (.list hs))):=by rw[Pb (Ne.symm kf)];exact ei
 obtain⟨u,Ai,_,e2,ne,ri,si,g⟩:=SR.put i s1 ei' (st.nodup sr.rS)
 cases r with
 |sh hf _=>exact absurd (hf rfl) (by simp[D.flat])
 |@list c vs _ B hz ec rs =>
  cases ri with
  |sh _ _=>exact absurd rfl ne
  |@list a ws _ A hw ea ra =>
   have hac:c≠a:=λz=>dj c cy (si.subset (z ▸ cy));have Ww:=si.nodup (st.nodup sr.rS);obtain⟨na,nA⟩:=kA.mp Ww;have ndj:=sb.nodup sr.rS;have dA:∀ x∈c :: B,x∉a :: A:=λx hx m=>dj x hx (si.subset m);have nB:∀ x∈c :: B,x≠a:=λx hx z=>dA x hx (z ▸ cy);have hl:=ra.length;have r3:ck K Hs (upd H a (.lst (ws++[.ref c]))) true (.list (hs++[.list xs])) (.ref a) (a :: (A++((c :: B)++[]))):=by refine .list (by rw[kz,<- hl];exact OS) hG ((ra.ft (bS.refl _) λb hb=>fq λz=>na (by subst z;exact hb)).append (.cons (.list hz ((fq hac).trans ec) (rs.ft (bS.refl _) λb hb=>fq (nB b (c9 _ hb)))) .nil))
   obtain⟨fo,n2,i2,s2⟩:=g Hs _ true _ _ (bS.refl _) r3 (by simp) (kA.mpr ⟨λm=>(dP.mp m).elim na λm=>nB a (by simpa using m) rfl,hX.mpr ⟨nA,by simpa using ndj,λx hx y hy e=>dA y (by simpa using hy) (e ▸ c9 _ hx)⟩⟩) (λb hb m=>by
     rcases eK.mp hb with rfl|hb
     ·exact cy
     ·rcases dP.mp hb with hb|hb
      ·exact c9 _ hb
      ·exact absurd m (dj b (by simpa using hb)))
    (λb _ nb=>fq λz=>nb (z ▸ cy))
   have Ha:Hs a=none:=sr.own a (st.subset (si.subset cy));refine⟨a,ws,c,vs,fo,e2,ea,by lia,e1,(fq hac).trans ec,(rs.reps sr.wf.sub λ_ _=>rfl).eN sr.wf.k8 fl,hz,s2,qb sr.wf Ha (λ_ z=>nomatch z),n2,λb hb=>?_⟩;rcases i2 b hb with m|m
   ·exact sr.own b (st.subset m)
   ·rcases eK.mp m with rfl|m
    ·exact Ha
    ·rcases dP.mp m with m|m
     ·exact sr.own b (st.subset (si.subset (c9 _ m)))
     ·exact sr.own b (sb.subset (by simpa using m))
end
end L2.Q
namespace L2.Q.R
section
variable {ρ:Env}{E:qU}{te tb tc tk tv:WE}{m m':Md}{x y:L2.Q.D}{ys:List L2.Q.D}{Q:Md->L2.Q.D->Prop}{p:WP}{i k:Nat}
def Lp{a:Int}{x:Str}:Az m (.str x) m' (.int a) Q=((0<=a/\a<=100/\x.length<=100)/\Q .sh (.str (rX a x))):=rfl
def Nh:WY tk tv ρ Q=tk ρ λ_ x=>tv ρ λm y=>m=.sh/\∃ k,x.key1=some k/\Q (.ow y.flat) (.dK [(k,y)]):=rfl
def Jo:yQ p tk tv E ρ=tv ρ λm x=>p ρ λfl d up=>tk ρ λ_ y=>m=.sh/\cE d (f:=λd=>WZ d λkvs=>∃ k,y.key1=some k/\kvs.length<bq/\E.nx (up (fl && x.flat) (.dK (gX kvs k x)))) ⟨⟩:=rfl
def Nt{kvs:List (Key × L2.Q.D)}{k:List (Key × L2.Q.D)->Prop}:WZ (.dK kvs) k=k kvs:=rfl
def Nx:OU te tb tc ρ Q=te ρ λm x=>cE x (f:=λx=>T6 x (λkvs=>tb ρ λ_ y=>tc ρ λn z=>∃ k,y.key1=some k/\L7 (dE kvs k) m n z Q) (λkvs=>tb ρ λ_ y=>tc ρ λn z=>cE y (f:=λy=>Q0 y λys=>∃ ks,dW ys=some ks/\L7 (dE kvs ks) m n z Q) ⟨⟩)) ⟨⟩:=rfl
def Mx:T6 (.dK kvs) f g=f kvs:=rfl
def Mr:T6 (.dT kvs) f g=g kvs:=rfl
def Mw{k:List L2.Q.D->Prop}:Q0 (.tup ys) k=k ys:=rfl
def jR':T8 i tk te E ρ=cE ρ[i]? (f:=λo=>T7 o λkvs=>tk ρ λ_ y=>cE y (f:=λy=>Q0 y λys=>∃ ks,dW ys=some ks/\kvs.length<bq/\Bq (dE kvs ks) /\
 te (ρ.set i (some (.ow true (.dT (OV kvs ks))))) λ_ x=>x.flat=true/\E.nx (ρ.set i (some (.ow true (.dT (mP kvs ks x)))))) ⟨⟩) ⟨⟩:=rfl
def Ni{kvs:List (List Key × L2.Q.D)}{k:List (List Key × L2.Q.D)->Prop}:T7 (some (some (.ow true (.dT kvs)))) k=k kvs:=rfl
end
end L2.Q.R
namespace L2
end L2
namespace L2.Q
section
variable {X:Cx}{K:aC}{L:Str->Hp->Prop}{e e2 e3:Expr}{p:WP}{te OJ:WE}{apos fe pos:Pos}
def Fj(p:WP)(tk:WE):WS:=λE ρ=>p ρ λfl d up=>match d with
 |.list xs=>tk ρ λ_ j=>match j with
  |.int j=>∃ y,0<=j/\xs[j.toNat]? = some y/\y.flat=true/\E.nx (up fl (.list (xs.eraseIdx j.toNat)))
  |_=>False
 |_=>False
def Place.short(pl:Place K bI H1 σ fl (.list xs) v up)(e:v=.ref a)(h:H1 a=some (.lst vs)):vs.length<=bq:=by
 subst e;rcases pl.ex with⟨hV,r,ne,_⟩
 cases r with
 |sh _ _=>exact absurd rfl ne
 |list hz e3 _=>rw[h] at e3;cases e3;exact hz
def Dd(ho:QP X K e p)(he:QE X K e2 OJ)(hK:autoParam (X.K=K) bv) (vk:autoParam (AW e "pop" X.env (df e X.env)=df e X.env) bv) (vn:autoParam (((kQ fe (b6 [e2] X.env)).all (λx=>!x.1) && (backToKw fe (D2 [] X.env)).all (λx=>x.1.isSome)
   && decide ([e2].length+([]:List pS).length+(if ([]:List pS).isEmpty then 0 else 1)<30))=true) bv)
  (hline:autoParam ((apos.endLine == fe.line)=true) bv) (xl:autoParam (b6 (e2 :: []) X.env=(false,df e2 X.env) :: b6 [] X.env) bv) (Bn:autoParam ((kQ fe (b6 [] X.env)).any (·.1)=false) bv)
  (hs:autoParam (sN (.Call (.Attribute e "pop" apos) [e2] [] fe) none pos.line X.env=pure false) bv) :
  QS X K L (.Expr (.Call (.Attribute e "pop" apos) [e2] [] fe) pos) (Fj p OJ):=by
 subst hK;refine PS.imp (NV (Oc PySem.F.plainAttrs_list PySem.F.slot_list_pop PySem.F.type_list_pop gb' ho (u0 he x8 xl) vk vn hline xl Bn) hs) λD σ H hx=>cz hx λHs ρ ag E sr h k1 k2 k3 k4=>?_;walk_at"w"
 cases d with
 |list xs =>
  obtain⟨a1,vs1,e1,s1⟩:=p1.Wv g1.wf;refine⟨by subst e1;exact .inl ⟨rfl,_,s1⟩,bI,ρ,ag,_,sr.grow g1,q1,λw H2 aT m jd As g2 r2 f2 q2=>?_⟩;have rj:=r2.rep g2.wf
  cases rj with
  |int j =>
   obtain⟨y,hj,ey,fy,q2⟩:=q2;obtain⟨a,vs,A,ea,e2,e21,rs,nd,hn,k⟩:=p1.put g2;have hz0:=p1.short ea e21;obtain⟨nA,LS⟩:=kA.mp nd;obtain⟨u,eu,ru⟩:=rs.ca' ey fy g2.wf;obtain⟨B,sb,rb⟩:=rs.erase j.toNat;have fi:=(iN.mp eu).1;have T1:bq<2 ^ 62:=by rw[iL];decide
   refine⟨a,vs,j,j.toNat,u,ea,rfl,e2,by lia,by lia,?_,eu,?_⟩
   ·unfold seqIndex?;simp only[show ¬ j<0 by lia,if_false];rw[if_pos (by simp only[mw,decide_eq_true_eq];lia)]
   ·obtain⟨fo,iE⟩:=k fl _ _ B id rb (by rw[Rw];split<;>lia) (sb.nodup LS) (λz=>nA (sb.subset z)) (λx hx=>.inl (sb.subset hx));exact k1 _ _ aT _ fo (g1.sh.trans g2.sh) iE q2
  |_=>exact q2.elim
 |_=>exact q1.elim
def T_(p:WP)(te:WE):WS:=λE ρ=>p ρ λfl d up=>match d with
 |.list xs=>te ρ λm y=>m=.ow true/\match y with
  |.list ys=>eP ys=true/\xs.length+ys.length<=bq/\E.nx (up fl (.list (xs++ys)))
  |_=>False
 |_=>False
def Cp (ho:QP X K e p) (he:QE X K e2 te) (hK:autoParam (X.K=K) bv) (hs:autoParam (sN (.Call (.Attribute e "extend" apos) [e2] [] fe) none pos.line X.env=pure false) bv) (vk:autoParam (AW e "extend" X.env (df e X.env)=df e X.env) bv) (vn:autoParam (((kQ fe (b6 [e2] X.env)).all (λx=>!x.1) && (backToKw fe (D2 [] X.env)).all (λx=>x.1.isSome)
   && decide ([e2].length+([]:List pS).length+(if ([]:List pS).isEmpty then 0 else 1)<30))=true) bv)
  (hline:autoParam ((apos.endLine == fe.line)=true) bv) (xl:autoParam (b6 (e2 :: []) X.env=(false,df e2 X.env) :: b6 [] X.env) bv) (Bn:autoParam ((kQ fe (b6 [] X.env)).any (·.1)=false) bv) :
  QS X K L (.Expr (.Call (.Attribute e "extend" apos) [e2] [] fe) pos) (T_ p te):=by
 subst hK;refine PS.imp (NV (Oc PySem.F.plainAttrs_list PySem.F.slot_list_extend PySem.F.type_list_extend fV' ho (u0 he x8 xl) vk vn hline xl Bn) hs) λD σ H hx=>cz hx λHs ρ ag E sr h k1 k2 k3 k4=>?_;walk_at"w"
 cases d with
 |list xs =>
  obtain⟨a1,vs1,e1,s1⟩:=p1.Wv g1.wf;refine⟨by subst e1;exact .inl ⟨rfl,_,s1⟩,bI,ρ,ag,_,sr.grow g1,q1,λy H2 aT m x As g2 r2 f2 q2=>?_⟩;obtain⟨rfl,q2⟩:=q2;obtain⟨a,vs,A,ea,e2,e21,rs,nd,hn,k⟩:=p1.put g2;obtain⟨r,ne⟩:=r2
  cases r with
  |sh _ _=>exact absurd rfl ne
  |list hz e3 TK =>obtain⟨fy,hl,q2⟩:=q2;obtain⟨nA,LS⟩:=kA.mp nd;have l1:=rs.length;have l2:=TK.length;refine⟨a,_,vs,_,ea,rfl,e2,e3,by lia,?_⟩;obtain⟨fo,iE⟩:=k fl (xs++_) (vs++_) (A++[]) id (rs.append (b4.owned ((TK.reps g2.wf.sub λ_ _=>rfl).eN g2.wf.k8 fy) fy)) (by rw[kz];lia) (by simpa using LS) (by simpa using nA) (λx hx=>.inl (by simpa using hx));exact k1 _ _ aT _ fo (g1.sh.trans g2.sh) iE q2
  |_=>exact q2.elim
 |_=>exact q1.elim
end
end L2.Q
namespace L2.Q.R
section
variable {ρ:Env}{E:qU}{te tk:WE}{m:Md}{Q:Md->L2.Q.D->Prop}{p:WP}{xs ys:List L2.Q.D}{k:List L2.Q.D->Prop}
def Ua(d:L2.Q.D)(k:List L2.Q.D->Prop):Prop:=match d with
 |.list xs=>k xs
 |_=>False
def N5:Ua (.list xs) k=k xs:=rfl
def Lx:Fj p tk E ρ=p ρ λfl d up=>cE d (f:=λd=>Ua d λxs=>tk ρ λ_ j=>cE j (f:=λj=>intD j λj=>∃ y,0<=j/\xs[j.toNat]? = some y/\y.flat=true/\E.nx (up fl (.list (xs.eraseIdx j.toNat)))) ⟨⟩) ⟨⟩:=rfl
def Oa:T_ p te E ρ=p ρ λfl d up=>cE d (f:=λd=>Ua d λxs=>te ρ λm y=>m=.ow true/\cE y (f:=λy=>Ua y λys=>eP ys=true/\xs.length+ys.length<=bq/\E.nx (up fl (.list (xs++ys)))) ⟨⟩) ⟨⟩:=rfl
end
end L2.Q.R
end
namespace PySem.SeqAt
open AutoSeq1 (wpAny_loadPart')
open MeetsSeq MeetsSeq2 MeetsSeq3 SeqRoads2
def oQ(A:fh)(s:ax)(u v:ae)(b:Bool):Prop:=∀ (prog:d5) (w:eJ) (Q:ae->ax->Prop) (E:ae->ax->Prop),Q (.bool b) s->bP (aS prog w) A (richCompare .Lt u v) Q E s
def xB(e f:Nat->Bool)(m n:Nat):Nat->Nat->Bool
 |0,_=>decide (m<n)
 |k+1,i=>if e i then xB e f m n k (i+1) else f i
def xW(l b:ah)(items e6:Array ae)(n n2:Nat)(dd ve:Option ah)(sl vi:Array (Option ae))(e f:Nat->Bool)(k:Nat) :
  ∀ i:Nat,min items.size e6.size-i=k->i<=min items.size e6.size->Meets (Builtin.«list.__eq__.loop» ⟨[.ref l,.ref b,mS i,mS 0],[]⟩) (λA R s=>s.heap.get? l=some { cls:=.type "list",dict:=dd,data:=.seq items n,slots:=sl }/\s.heap.get? b=some { cls:=.type "list",dict:=ve,data:=.seq e6 n2,slots:=vi } /\ (∀ j (h1:j<items.size) (h2:j<e6.size),EqAt A.in1 s items[j] e6[j] (e j))/\(∀ j (h1:j<items.size) (h2:j<e6.size),e j=false->oQ A.in1 s items[j] e6[j] (f j)) /\
    R (.ok (.ret (.bool (xB e f items.size e6.size k i)))) s):=by
 induction k with
 |zero =>
  intro i hk hle prog w A R s h;obtain⟨hp,g,d,tk,os⟩:=s;obtain⟨hl,hb,he,hf,h⟩:=h
  wp_walk using wpAny_loadPart' hl,wpAny_loadPart' hb
  rcases (show items.size<=i\/e6.size<=i by lia) with z|z
  ·have mr:items[(i:Int).toNat]? = none:=by simp;lia
   rw[mr]
   wp_walk using wpAny_loadPart' hl,wpAny_loadPart' hb
   exact h
  ·have k6:e6[(i:Int).toNat]? = none:=by simp;lia
   rw[k6];cases items[(i:Int).toNat]?<;>wp_walk using wpAny_loadPart' hl,wpAny_loadPart' hb<;>exact h
 |succ k ih =>
  intro i hk hle prog w A R s h;obtain⟨hp,g,d,tk,os⟩:=s;obtain⟨hl,hb,he,hf,h⟩:=h
  wp_walk using wpAny_loadPart' hl,wpAny_loadPart' hb
  have fi:i<items.size:=by lia
  have W0:i<e6.size:=by lia
  have mr:items[((i:Nat):Int).toNat]? = some items[i]:=by simp[fi]
  have k6:e6[((i:Nat):Int).toNat]? = some e6[i]:=by simp[W0]
  have hc:((i:Int)+1)=((i+1:Nat):Int):=by push_cast;rfl
  rw[mr,k6];refine aw (he i fi W0 prog w _ _ ?_)
  cases DT:e i with
  |true =>
   rw[xB,DT,if_pos rfl] at h
   wp_walk
   rw[hc];exact⟨E8 plain_eq_loop _,B8 entry_eq_loop (by
    rw[Around.under_plainId plain_eq_loop _];exact ih (i+1) (by lia) (by lia) prog w A R _ ⟨hl,hb,he,hf,h⟩)⟩
  |false =>
   rw[xB,DT,if_neg kG] at h
   wp_walk using wpAny_loadPart' hl,wpAny_loadPart' hb
   rw[mr,k6];refine aw (hf i fi W0 DT prog w _ _ ?_)
   wp_walk
   exact h
def yl(l b:ah)(items e6:Array ae)(n n2:Nat)(dd ve:Option ah)(sl vi:Array (Option ae))(e f:Nat->Bool) :
  Meets (Builtin.«list.__lt__» ⟨[.ref l,.ref b],[]⟩) (λA R s=>s.heap.get? l=some { cls:=.type "list",dict:=dd,data:=.seq items n,slots:=sl }/\s.heap.get? b=some { cls:=.type "list",dict:=ve,data:=.seq e6 n2,slots:=vi } /\ (∀ j (h1:j<items.size) (h2:j<e6.size),EqAt A.in1 s items[j] e6[j] (e j))/\(∀ j (h1:j<items.size) (h2:j<e6.size),e j=false->oQ A.in1 s items[j] e6[j] (f j)) /\
    R (.ok (.ret (.bool (xB e f items.size e6.size (min items.size e6.size) 0)))) s):=by
 intro prog w A R s h;obtain⟨hp,g,d,tk,os⟩:=s;obtain⟨hl,hb,he,hf,h⟩:=h;have f3:=AutoSeq1.sub_list_list
 wp_walk using wpAny_loadPart' hl,wpAny_loadPart' hb
 exact⟨E8 plain_eq_loop _,B8 entry_eq_loop (by
  rw[Around.under_plainId plain_eq_loop _];exact xW l b items e6 n n2 dd ve sl vi e f _ 0 (Nat.sub_zero _) (fI _) prog w A R _ ⟨hl,hb,he,hf,h⟩)⟩
def vf(l b:ah)(items e6:Array ae)(n n2:Nat)(dd ve:Option ah)(sl vi:Array (Option ae))(e f:Nat->Bool) :
  Meets (Builtin.«tuple.__lt__» ⟨[.ref l,.ref b],[]⟩) (λA R s=>s.heap.get? l=some { cls:=.type "tuple",dict:=dd,data:=.seq items n,slots:=sl }/\s.heap.get? b=some { cls:=.type "tuple",dict:=ve,data:=.seq e6 n2,slots:=vi } /\ (∀ j (h1:j<items.size) (h2:j<e6.size),EqAt A.in1 s items[j] e6[j] (e j))/\(∀ j (h1:j<items.size) (h2:j<e6.size),e j=false->oQ A.in1 s items[j] e6[j] (f j)) /\
    R (.ok (.ret (.bool (xB e f items.size e6.size (min items.size e6.size) 0)))) s) :=
 .of_wp λprog w A R s h=>by
  obtain⟨hp,g,d,tk,os⟩:=s;obtain⟨hl,hb,he,hf,h⟩:=h;have f2:=AutoSeq1.sub_tuple_tuple;have hZ:(items.toList.zip e6.toList).length=min items.size e6.size:=by simp
  wp_walk using wpAny_loadPart' hl,wpAny_loadPart' hb,wpAny_forIn_list _ (λrest b s'=>b.1=none/\s'=⟨hp,g,d,tk,os⟩/\∃ i,rest=(items.toList.zip e6.toList).drop i/\i<=min items.size e6.size /\
   R (.ok (.ret (.bool (xB e f items.size e6.size (min items.size e6.size-i) i)))) ⟨hp,g,d,tk,os⟩) _
  case turn =>
   rintro⟨y,x⟩ rest b s' ⟨DT,rfl,i,hz,hi,hR⟩;have fi:i<(items.toList.zip e6.toList).length:=by
    rcases IU i (items.toList.zip e6.toList).length with h'|h'
    ·exact h'
    ·rw[UC h'] at hz;cases hz
   have hm:i<min items.size e6.size:=hZ ▸ fi;have h1:i<items.size:=oz hm (Nat.min_le_left _ _);have h2:i<e6.size:=oz hm (Nat.min_le_right _ _);rw[AZ fi] at hz;injection hz with hyx jS';have hy:y=items[i]:=by have:=congrArg Prod.fst hyx;simpa using this
   have hx:x=e6[i]:=by have:=congrArg Prod.snd hyx;simpa using this
   subst hy hx;rw[show min items.size e6.size-i=(min items.size e6.size-(i+1))+1 by lia,xB] at hR;refine aw (he i h1 h2 prog w _ _ ?_)
   cases hy:e i with
   |true =>
    rw[hy,if_pos rfl] at hR
    wp_walk
    exact⟨rfl,rfl,i+1,jS',hm,hR⟩
   |false =>
    rw[hy,if_neg kG] at hR;simp only[Bool.not_false,if_true];refine aw (AX ?_);refine aw (hf i h1 h2 hy prog w _ _ ?_)
    wp_walk
    exact⟨_,rfl,hR⟩
  case fin =>
   rintro⟨b1,b2⟩ s' ⟨DT,rfl,i,hz,hi,hR⟩;simp only at DT;subst DT;have rh:min items.size e6.size<=i:=by
    rcases IU i (items.toList.zip e6.toList).length with h'|h'
    ·rw[AZ h'] at hz;cases hz
    ·exact hZ ▸ h'
   rw[show min items.size e6.size-i=0 by lia,xB] at hR
   wp_walk
   exact⟨_,rfl,by simpa[Builtin.Tuple.tupleCompareSizes] using hR⟩
  case h =>
   exact⟨rfl,rfl,0,rfl,fI _,h⟩
section
variable {A:fh}{s:ax}
def oQ.tuples(hl:s.heap.IsTuple l items)(hb:s.heap.IsTuple b e6)(hu:A.units<eR)(he:∀ j (h1:j<items.size) (h2:j<e6.size),EqAt A.in1 s items[j] e6[j] (e j)) (hf:∀ j (h1:j<items.size) (h2:j<e6.size),e j=false->oQ A.in1 s items[j] e6[j] (f j)) :
  oQ A s (.ref l) (.ref b) (xB e f items.size e6.size (min items.size e6.size) 0):=λprog w Q E h=>by
 obtain⟨⟨cls,dd,data,sl⟩,ho,hc,n,hd⟩:=id hl;obtain⟨⟨Vr,ve,data2,vi⟩,pf,EE,n2,hd2⟩:=id hb;simp only at hc hd EE hd2;subst hc hd EE hd2;exact richCompare_meets_room ⟨_,ho,rfl⟩ ⟨_,pf,rfl⟩ F.slot_tuple_lt F.entry_tuple_lt (F.args_tuple_lt_2 _ _) (vf l b items e6 n n2 dd ve sl vi e f) ⟨ho,pf,he,hf,show Value.bool _≠Value.notImplemented/\Q (.bool _) s from⟨(λx=>nomatch x),h⟩⟩ hu
def oQ.lists(hl:s.heap.IsList l items)(hb:s.heap.IsList b e6)(hu:A.units<eR)(he:∀ j (h1:j<items.size) (h2:j<e6.size),EqAt A.in1 s items[j] e6[j] (e j)) (hf:∀ j (h1:j<items.size) (h2:j<e6.size),e j=false->oQ A.in1 s items[j] e6[j] (f j)) :
  oQ A s (.ref l) (.ref b) (xB e f items.size e6.size (min items.size e6.size) 0):=λprog w Q E h=>by
 obtain⟨⟨cls,dd,data,sl⟩,ho,hc,n,hd⟩:=id hl;obtain⟨⟨Vr,ve,data2,vi⟩,pf,EE,n2,hd2⟩:=id hb;simp only at hc hd EE hd2;subst hc hd EE hd2;exact richCompare_meets_room ⟨_,ho,rfl⟩ ⟨_,pf,rfl⟩ F.slot_list_lt F.entry_list_lt (F.args_list_lt_2 _ _) (yl l b items e6 n n2 dd ve sl vi e f) ⟨ho,pf,he,hf,show Value.bool _≠Value.notImplemented/\Q (.bool _) s from⟨(λx=>nomatch x),h⟩⟩ hu
def oQ.int(a:Int)(t:Tok)(b:Int)(u:Tok):oQ A s (.int a t) (.int b u) (decide (a<b)):=λprog w Q E h=>(PyProof.Rows.lt_int h)
def oQ.str(a:Str)(t:Tok)(b:Str)(u:Tok):oQ A s (.str a t) (.str b u) (decide (a.cps.toList<b.cps.toList)):=λprog w Q E h=>(PySem.P.lt_str h)
end
def og(lt:eh->eh->Bool):List eh->List eh->Bool
 |[],ys=>!ys.isEmpty
 |_ :: _,[]=>false
 |x :: xs,y :: ys=>if PyData.eqv x y then og lt xs ys else lt x y
def cp:Nat->eh->eh->Bool
 |_,.int i,.int j=>decide (i<j)
 |_,.str x,.str y=>decide (x.cps.toList<y.cps.toList)
 |n+1,.list xs,.list ys=>og (cp n) xs ys
 |n+1,.tuple xs,.tuple ys=>og (cp n) xs ys
 |_,_,_=>false
def sv:Nat->eh->eh->Prop
 |_,.int _,.int _=>True
 |_,.str _,.str _=>True
 |n+1,.list xs,.list ys=>∀ (j:Nat) (x y:eh),xs[j]? = some x->ys[j]? = some y->PyData.eqv x y=false->sv n x y
 |n+1,.tuple xs,.tuple ys=>∀ (j:Nat) (x y:eh),xs[j]? = some x->ys[j]? = some y->PyData.eqv x y=false->sv n x y
 |_,_,_=>False
def at2(g:eh->eh->Bool)(xs ys:List eh)(j:Nat):Bool:=match xs[j]?,ys[j]? with
 |some x,some y=>g x y
 |_,_=>false
def lY(hx:xs[j]? = some x)(hy:ys[j]? = some y):at2 g xs ys j=g x y:=by unfold at2;rw[hx,hy]
def Cq(lt:eh->eh->Bool)(xs ys:List eh)(k:Nat):∀ i,min xs.length ys.length-i=k->i<=min xs.length ys.length->xB (at2 PyData.eqv xs ys) (at2 lt xs ys) xs.length ys.length k i=og lt (xs.drop i) (ys.drop i):=by
 induction k with
 |zero =>
  intro i hk hi;rw[xB];rcases IU xs.length ys.length with z|z
  ·rw[decide_eq_true z,UC (by lia),AZ (by lia)];rfl
  ·rw[decide_eq_false (by lia),UC (show ys.length<=i by lia)];cases xs.drop i<;>rfl
 |succ k ih =>
  intro i hk hi;have h1:i<xs.length:=by lia
  have h2:i<ys.length:=by lia
  rw[xB,lY (kR h1) (kR h2),lY (kR h1) (kR h2),ih (i+1) (by lia) (by lia),
   AZ h1,AZ h2,og]
def cG:∀ {vs:List ae} {as:List ah},ReadsAll h vs xs as->∀ (j:Nat) (v:ae),vs[j]? = some v->∃ x bs,xs[j]? = some x/\Reads h v x bs:=by
 induction xs with
 |nil =>intro vs as r j v hv;cases r;simp at hv
 |cons x xs ih =>
  intro vs as r j v hv
  cases r with
  |cons r rs =>
   cases j with
   |zero =>simp at hv;subst hv;exact⟨x,_,rfl,r⟩
   |succ j=>exact ih rs j v (by simpa using hv)
def iC{xs:List eh}(h:PyData.canLayAll0 xs=true){j:Nat}{x:eh}(hx:xs[j]? = some x):x.canLay0=true:=by
 induction xs generalizing j with
 |nil=>simp at hx
 |cons y xs ih =>
  have h:y.canLay0=true/\PyData.canLayAll0 xs=true:=by simpa[PyData.canLayAll0] using h
  cases j with
  |zero=>simp at hx;subst hx;exact h.1
  |succ j=>exact ih h.2 (by simpa using hx)
def oJ{xs:List eh}{j:Nat}{x:eh}(hx:xs[j]? = some x):x.depth<=PyData.depthAll xs:=by
 induction xs generalizing j with
 |nil=>simp at hx
 |cons y xs ih =>
  simp only[PyData.depthAll]
  cases j with
  |zero=>simp at hx;subst hx;lia
  |succ j=>have:=ih (by simpa using hx);lia
def Bh(n:Nat):∀ (d e:eh) (A:fh) (s:ax) (a b:ae) (as bs:List ah),Reads s.heap a d as->Reads s.heap b e bs->d.canLay0=true->e.canLay0=true->sv n d e->d.depth<=20->A.units+n+30<eR->oQ A s a b (cp n d e):=by
 induction n with
 |zero =>intro d e A s a b as bs ra rb _ _ c _ _;cases ra<;>cases rb<;>first|(rw[cp];exact oQ.int _ _ _ _)|(rw[cp];exact oQ.str _ _ _ _)|exact absurd c (by simp[sv])
 |succ n ih =>
  intro d e A s a b as bs ra rb la lb c dd hu
  cases ra with
  |int i t=>cases rb<;>first|(rw[cp];exact oQ.int _ _ _ _)|exact absurd c (by simp[sv])
  |str x t=>cases rb<;>first|(rw[cp];exact oQ.str _ _ _ _)|exact absurd c (by simp[sv])
  |@list l o vs m xs W3 h1 h2 h3 h4 =>
   cases rb with
   |@list l' o' eW m' ys bs1 k1 k2 k3 k4 =>
    have n1:vs.size=xs.length:=by simpa using ReadsAll.length _ _ _ h4
    have n2:eW.size=ys.length:=by simpa using ReadsAll.length _ _ _ k4
    have Q6:∀ j (h1:j<vs.size),∃ x cs,xs[j]? = some x/\Reads s.heap vs[j] x cs:=λj hj=>cG h4 j vs[j] (by simp[hj]);have Q7:∀ j (h1:j<eW.size),∃ x cs,ys[j]? = some x/\Reads s.heap eW[j] x cs:=λj hj=>cG k4 j eW[j] (by simp[hj]);have dx:PyData.depthAll xs<20:=by simp only[PyData.depth] at dd;lia
    have:=oQ.lists (A:=A) (s:=s) (e:=at2 PyData.eqv xs ys) (f:=at2 (cp n) xs ys) ⟨_,h1,h2,_,h3⟩ ⟨_,k1,k2,_,k3⟩ (by lia) (λj j1 j2=>by
     obtain⟨x,cs,ex,rx⟩:=Q6 j j1;obtain⟨y,W4,ey,ry⟩:=Q7 j j2;rw[lY ex ey];have:=oJ ex;exact eqAt_reads x y A.in1 s _ _ _ _ rx ry (iC la ex) (iC lb ey) (by show A.units+1+_<eR;lia)) (λj j1 j2 ne=>by
     obtain⟨x,cs,ex,rx⟩:=Q6 j j1;obtain⟨y,W4,ey,ry⟩:=Q7 j j2;rw[lY ex ey] at ne ⊢;have:=oJ ex;exact ih x y A.in1 s _ _ _ _ rx ry (iC la ex) (iC lb ey) (c j x y ex ey ne) (by lia) (by show A.units+1+n+30<eR;lia))
    rw[n1,n2,Cq (cp n) xs ys _ 0 (Nat.sub_zero _) (fI _)] at this;exact this
   |_=>exact absurd c (by simp[sv])
  |@tuple l o vs m xs W3 h1 h2 h3 h4 =>
   cases rb with
   |@tuple l' o' eW m' ys bs1 k1 k2 k3 k4 =>
    have n1:vs.size=xs.length:=by simpa using ReadsAll.length _ _ _ h4
    have n2:eW.size=ys.length:=by simpa using ReadsAll.length _ _ _ k4
    have Q6:∀ j (h1:j<vs.size),∃ x cs,xs[j]? = some x/\Reads s.heap vs[j] x cs:=λj hj=>cG h4 j vs[j] (by simp[hj]);have Q7:∀ j (h1:j<eW.size),∃ x cs,ys[j]? = some x/\Reads s.heap eW[j] x cs:=λj hj=>cG k4 j eW[j] (by simp[hj]);have dx:PyData.depthAll xs<20:=by simp only[PyData.depth] at dd;lia
    have:=oQ.tuples (A:=A) (s:=s) (e:=at2 PyData.eqv xs ys) (f:=at2 (cp n) xs ys) ⟨_,h1,h2,_,h3⟩ ⟨_,k1,k2,_,k3⟩ (by lia) (λj j1 j2=>by
     obtain⟨x,cs,ex,rx⟩:=Q6 j j1;obtain⟨y,W4,ey,ry⟩:=Q7 j j2;rw[lY ex ey];have:=oJ ex;exact eqAt_reads x y A.in1 s _ _ _ _ rx ry (iC la ex) (iC lb ey) (by show A.units+1+_<eR;lia)) (λj j1 j2 ne=>by
     obtain⟨x,cs,ex,rx⟩:=Q6 j j1;obtain⟨y,W4,ey,ry⟩:=Q7 j j2;rw[lY ex ey] at ne ⊢;have:=oJ ex;exact ih x y A.in1 s _ _ _ _ rx ry (iC la ex) (iC lb ey) (c j x y ex ey ne) (by lia) (by show A.units+1+n+30<eR;lia))
    rw[n1,n2,Cq (cp n) xs ys _ 0 (Nat.sub_zero _) (fI _)] at this;exact this
   |_=>exact absurd c (by simp[sv])
  |_=>cases rb<;>exact absurd c (by simp[sv])
end PySem.SeqAt
section
open PySem PySem.Spec PyProof.Rows
namespace L2
open PySem.SeqAt
structure iF(lt:eh->eh->Bool)(S:eh->Prop):Prop where
 sA:∀ x,S x->lt x x=false
 tr:∀ x y z,S x->S y->S z->lt x y=true->lt y z=true->lt x z=true
 ag:∀ x y,S x->S y->lt x y=false->lt y x=false->x=y
 eqv:∀ x y,S x->S y->(PyData.eqv x y=true↔x=y)
def iF.int(n:Nat):iF (cp n) λx=>∃ i,x=.int i where
 sA:=by rintro x ⟨i,rfl⟩;rw[cp];simp
 tr:=by rintro x y z ⟨i,rfl⟩ ⟨j,rfl⟩ ⟨k,rfl⟩;rw[cp,cp,cp];simp only[decide_eq_true_eq];lia
 ag:=by rintro x y ⟨i,rfl⟩ ⟨j,rfl⟩;rw[cp,cp];simp only[decide_eq_false_iff_not,PyData.int.injEq];lia
 eqv:=by rintro x y ⟨i,rfl⟩ ⟨j,rfl⟩;simp[PyData.eqv]
def iF.str(n:Nat):iF (cp n) λx=>∃ s,x=.str s where
 sA:=by rintro x ⟨i,rfl⟩;rw[cp];exact yS i
 tr:=by rintro x y z ⟨i,rfl⟩ ⟨j,rfl⟩ ⟨k,rfl⟩;rw[cp,cp,cp];exact λh g=>BV (y:=j) h g
 ag:=by rintro x y ⟨i,rfl⟩ ⟨j,rfl⟩;rw[cp,cp];exact λh g=>by rw[xX (x:=i) (y:=j) h g]
 eqv:=by rintro x y ⟨i,rfl⟩ ⟨j,rfl⟩;simp[PyData.eqv]
section
variable {lt:eh->eh->Bool}{S:eh->Prop}
def zu(T:iF lt S)(xs:List eh)(h:∀ x∈xs,S x):og lt xs xs=false:=by
 induction xs with
 |nil=>rfl
 |cons x xs ih =>rw[og,if_pos ((T.eqv x x (h x cy) (h x cy)).mpr rfl)];exact ih λy hy=>h y (c9 _ hy)
open Classical in
def bY(T:iF lt S)(hx:S x)(hy:S y):og lt (x :: xs) (y :: ys)=if x=y then og lt xs ys else lt x y:=by
 rw[og];by_cases e:x=y
 ·rw[if_pos e,if_pos ((T.eqv x y hx hy).mpr e)]
 ·rw[if_neg e,if_neg λz=>e ((T.eqv x y hx hy).mp z)]
def Bc(T:iF lt S)(xs:List eh):∀ ys:List eh,(∀ x∈xs,S x)->(∀ y∈ys,S y)->og lt xs ys=false->og lt ys xs=false->xs=ys:=by
 induction xs with
 |nil =>
  intro ys _ _ h _
  cases ys with
  |nil=>rfl
  |cons y ys=>cases h
 |cons x xs ih =>
  intro ys hx hy h1 h2
  cases ys with
  |nil=>cases h2
  |cons y ys =>
   have sx:=hx x cy;have sy:=hy y cy;rw[bY T sx sy] at h1;rw[bY T sy sx] at h2;by_cases e:x=y
   ·subst e;rw[if_pos rfl] at h1 h2;rw[ih ys (λz hz=>hx z (c9 _ hz)) (λz hz=>hy z (c9 _ hz)) h1 h2]
   ·rw[if_neg e] at h1;rw[if_neg λz=>e z.symm] at h2;exact absurd (T.ag x y sx sy h1 h2) e
def Fz(T:iF lt S)(xs:List eh):∀ ys zs:List eh,(∀ x∈xs,S x)->(∀ y∈ys,S y)->(∀ z∈zs,S z)->og lt xs ys=true->og lt ys zs=true->og lt xs zs=true:=by
 induction xs with
 |nil =>
  intro ys zs _ _ _ h1 h2
  cases zs with
  |cons z zs=>rfl
  |nil =>
   cases ys with
   |nil=>cases h1
   |cons y ys=>cases h2
 |cons x xs ih =>
  intro ys zs hx hy hz h1 h2
  cases ys with
  |nil=>cases h1
  |cons y ys =>
   cases zs with
   |nil=>cases h2
   |cons z zs =>
    have sx:=hx x cy;have sy:=hy y cy;have sz:=hz z cy;rw[bY T sx sy] at h1;rw[bY T sy sz] at h2;rw[bY T sx sz];have tl:=ih ys zs (λz hz=>hx z (c9 _ hz)) (λz hz=>hy z (c9 _ hz)) λw hw=>hz w (c9 _ hw);by_cases e1:x=y
    ·subst e1;rw[if_pos rfl] at h1;by_cases e2:x=z
     ·subst e2;rw[if_pos rfl] at h2 ⊢;exact tl h1 h2
     ·rw[if_neg e2] at h2 ⊢;exact h2
    ·rw[if_neg e1] at h1;by_cases e2:y=z
     ·subst e2;rw[if_neg e1];exact h1
     ·rw[if_neg e2] at h2;have t:=T.tr x y z sx sy sz h1 h2;by_cases e3:x=z
      ·subst e3;rw[T.sA x sx] at t;cases t
      ·rw[if_neg e3];exact t
def vd(T:iF lt S)(xs:List eh):∀ ys:List eh,(∀ x∈xs,S x)->(∀ y∈ys,S y)->(PyData.eqvAll xs ys=true↔xs=ys):=by
 induction xs with
 |nil=>intro ys _ _;cases ys<;>simp[PyData.eqvAll]
 |cons x xs ih =>
  intro ys hx hy
  cases ys with
  |nil=>simp[PyData.eqvAll]
  |cons y ys =>have h1:=T.eqv x y (hx x cy) (hy y cy);have h2:=ih ys (λz hz=>hx z (c9 _ hz)) λz hz=>hy z (c9 _ hz);simp only[PyData.eqvAll,mw,List.cons.injEq];exact and_congr h1 h2
end
def iF.list{S:eh->Prop}(T:iF (cp n) S):iF (cp (n+1)) λx=>∃ xs,x=.list xs/\∀ y∈xs,S y where
 sA:=by rintro x ⟨xs,rfl,h⟩;rw[cp];exact zu T xs h
 tr:=by rintro x y z ⟨xs,rfl,h⟩ ⟨ys,rfl,h'⟩ ⟨zs,rfl,h''⟩;rw[cp,cp,cp];exact Fz T xs ys zs h h' h''
 ag:=by rintro x y ⟨xs,rfl,h⟩ ⟨ys,rfl,h'⟩;rw[cp,cp];exact λh1 h2=>by rw[Bc T xs ys h h' h1 h2]
 eqv:=by rintro x y ⟨xs,rfl,h⟩ ⟨ys,rfl,h'⟩;rw[PyData.list.injEq];exact vd T xs ys h h'
open Classical in
def bZ{S U:eh->Prop}(T:iF (cp n) S)(T2:iF (cp n) U)(ha:S a)(hb:U b)(hc:S c)(hd:U d):og (cp n) [a,b] [c,d]=if a=c then cp n b d else cp n a c:=by
 rw[bY T ha hc,bY T2 hb hd];by_cases e:b=d
 ·subst e;rw[if_pos rfl,show og (cp n) [] []=false from rfl,T2.sA b hb]
 ·rw[if_neg e]
def iF.pair{S U:eh->Prop}(T:iF (cp n) S)(T2:iF (cp n) U):iF (cp (n+1)) λx=>∃ a b,x=.tuple [a,b]/\S a/\U b where
 sA:=by rintro x ⟨a,b,rfl,ha,hb⟩;rw[cp,bZ T T2 ha hb ha hb,if_pos rfl];exact T2.sA b hb
 tr:=by
  rintro x y z ⟨a,b,rfl,ha,hb⟩ ⟨c,d,rfl,hc,hd⟩ ⟨e,f,rfl,he,hf⟩;rw[cp,cp,cp,bZ T T2 ha hb hc hd,bZ T T2 hc hd he hf,bZ T T2 ha hb he hf];intro h1 h2;by_cases e1:a=c
  ·subst e1;rw[if_pos rfl] at h1;by_cases e2:a=e
   ·subst e2;rw[if_pos rfl] at h2 ⊢;exact T2.tr b d f hb hd hf h1 h2
   ·rw[if_neg e2] at h2 ⊢;exact h2
  ·rw[if_neg e1] at h1;by_cases e2:c=e
   ·subst e2;rw[if_neg e1];exact h1
   ·rw[if_neg e2] at h2;have t:=T.tr a c e ha hc he h1 h2;by_cases e3:a=e
    ·subst e3;rw[T.sA a ha] at t;cases t
    ·rw[if_neg e3];exact t
 ag:=by
  rintro x y ⟨a,b,rfl,ha,hb⟩ ⟨c,d,rfl,hc,hd⟩;rw[cp,cp,bZ T T2 ha hb hc hd,bZ T T2 hc hd ha hb];intro h1 h2;by_cases e:a=c
  ·subst e;rw[if_pos rfl] at h1 h2;rw[T2.ag b d hb hd h1 h2]
  ·rw[if_neg e] at h1;rw[if_neg λz=>e z.symm] at h2;exact absurd (T.ag a c ha hc h1 h2) e
 eqv:=by rintro x y ⟨a,b,rfl,ha,hb⟩ ⟨c,d,rfl,hc,hd⟩;have h1:=T.eqv a c ha hc;have h2:=T2.eqv b d hb hd;simp only[PyData.eqv,PyData.eqvAll,mw,RX,PyData.tuple.injEq,List.cons.injEq,and_true];exact and_congr h1 h2
section
variable {prog:d5}{w:eJ}{A:fh}{E:ae->ax->Prop}{s:ax}{Q:Bool->ax->Prop}
def Aa(xs:List eh):∀ (ys:List eh) (us vs:List ae) (as bs:List ah) (i:Nat),ReadsAll s.heap us xs as->ReadsAll s.heap vs ys bs->PyData.canLayAll0 xs=true->PyData.canLayAll0 ys=true->PyData.depthAll xs<=20 -> (∀ (j:Nat) (x y:eh),xs[j]? = some x->ys[j]? = some y->PyData.eqv x y=false->sv n x y)->(i=0->∀ x y,xs[0]? = some x->ys[0]? = some y->(∃ k,x=.int k)/\∃ k,y=.int k)->xs.length=ys.length->A.units+n+30<eR->Q (og (cp n) xs ys) s ->
  PySem.W.KatLex prog w A true false Q (us.zip vs) i s:=by
 induction xs with
 |nil =>
  intro ys us vs as bs i ra rb _ _ _ _ _ hl _ q
  cases ys with
  |cons y ys=>cases hl
  |nil =>cases ra;exact PySem.W.kat_nil q
 |cons x xs ih =>
  intro ys us vs as bs i ra rb la lb dp c hi hl hu q
  cases ys with
  |nil=>cases hl
  |cons y ys =>
   cases ra with
   |cons r rs =>
    cases rb with
    |cons r' HK =>
     have W5:x.canLay0=true/\PyData.canLayAll0 xs=true:=by simpa[PyData.canLayAll0] using la
     have W6:y.canLay0=true/\PyData.canLayAll0 ys=true:=by simpa[PyData.canLayAll0] using lb
     have dp':x.depth<=20/\PyData.depthAll xs<=20:=by simp only[PyData.depthAll] at dp;lia
     rw[og] at q;refine PySem.W.kat_cons (eqAt_reads x y A s _ _ _ _ r r' W5.1 W6.1 (by lia) prog w _ _ (PySem.W.kat_go (λh=>PySem.W.kat_yes ?_) (λh=>PySem.W.kat_no ?_)))
     ·rw[if_pos h] at q;exact ih ys _ _ _ _ (i+1) rs HK W5.2 W6.2 dp'.2 (λj=>c (j+1)) (λz=>by lia) (by simpa using hl) hu q
     ·rw[if_neg (by rw[h];exact kG)] at q;by_cases h0:i=0
      ·obtain⟨⟨a,rfl⟩,⟨b,rfl⟩⟩:=hi h0 x y rfl rfl;subst h0;cases r;cases r';rw[cp] at q;exact oneLt_int q
      ·rw[show(true && i == 0)=false by simp[h0]];exact PySem.W.kat_one _ _ (Bh n x y A s _ _ _ _ r r' W5.1 W6.1 (c 0 x y rfl rfl h) dp'.1 (by lia) prog w _ _ q)
structure L8(n:Nat)(S:eh->Prop):Prop where
 ag:iF (cp (n+1)) S
 tup:∀ x,S x->∃ i xs,x=.tuple (.int i :: xs)/\x.canLay0=true/\x.depth<=20
 len:∀ xs ys,S (.tuple xs)->S (.tuple ys)->xs.length=ys.length
 cm:∀ x y,S x->S y->sv (n+1) x y
open Classical in
def kZ(h:dy)(v:ae):eh:=if z:∃ d as,Reads h v d as/\d.canLay0=true then z.choose else .none
def eY(r:Reads h v d as)(l:d.canLay0=true):kZ h v=d:=by
 have z:∃ d as,Reads h v d as/\d.canLay0=true:=⟨d,as,r,l⟩
 unfold kZ;rw[dif_pos z];obtain⟨bs,r2,l2⟩:=z.choose_spec;exact Reads.unique _ _ _ _ _ l2 r2 r
def OX(n:Nat)(L:List eh)(d:eh):Int:=(L.countP λe=>cp n e d:Nat)
def Cr{S:eh->Prop}(T:iF (cp n) S)(hL:∀ d∈L,S d)(ha:a∈L)(hb:S b):decide (OX n L a<OX n L b)=cp n a b:=by
 have sa:=hL a ha;unfold OX
 cases h:cp n a b with
 |true =>have:=oE (λj=>cp n j a) (λj=>cp n j b) a (T.sA a sa) h L ha λx hx z=>T.tr x a b (hL x hx) sa hb z h;exact decide_eq_true (by lia)
 |false =>
  refine decide_eq_false ?_
  cases g:cp n b a with
  |false =>rw[T.ag a b sa hb h g];lia
  |true =>have:=count_le (λj=>cp n j b) (λj=>cp n j a) L λx hx z=>T.tr x b a (hL x hx) hb sa z g;lia
def zN{S:eh->Prop}(K:L8 n S)(kp:∀ b o,h0.get? b=some o->s.heap.get? b=some o)(hL:∀ d∈L,S d)(hu:A.units+n+31<eR) :
  vE.nI prog w A s (tuples' true) (λv=>OX (n+1) L (kZ h0 v)) (λv=>∃ d as,d∈L/\Reads h0 v d as):=by
 rintro x y ⟨d,as,md,rd⟩ ⟨e,bs,me,re⟩ Q E q;have sd:=hL d md;have se:=hL e me;obtain⟨i,xs,rfl,ld,dd⟩:=K.tup d sd;obtain⟨j,ys,rfl,le,de⟩:=K.tup e se
 replace q:Q (decide (OX (n+1) L (kZ h0 x)<OX (n+1) L (kZ h0 y))) s:=q
 rw[eY rd ld,eY re le,Cr K.ag hL md se,cp] at q;have rd':=PyProof.Rows.Reads.keeps kp rd;have re':=PyProof.Rows.Reads.keeps kp re;have cm:=K.cm _ _ sd se;have hl:=K.len _ _ sd se
 cases rd' with
 |@tuple a o us m _ W3 h1 h2 h3 h4 =>
  cases re' with
  |@tuple b o' vs m' _ bs1 k1 k2 k3 k4 =>
   have n1:us.size=(PyData.int i :: xs).length:=by simpa using ReadsAll.length _ _ _ h4
   have n2:vs.size=(PyData.int j :: ys).length:=by simpa using ReadsAll.length _ _ _ k4
   refine PySem.W.kat_lt h1 h3 k1 k3 ?_;rw[show decide (us.size<vs.size)=false from decide_eq_false (by lia)];exact Aa _ _ _ _ _ _ 0 h4 k4 ld le (by simp only[PyData.depth] at dd;lia) cm (λ_ x y hx hy=>by cases hx;cases hy;exact⟨⟨_,rfl⟩,_,rfl⟩) hl (by lia) q
end
section
variable {X:Cx}{pins:List (ah × Obj)}{σ:St}{H:Hp}{s:ax}
theorem wZ(I:Inv X pins σ H s):∀ {ds:List eh} {ys:List V} {vs:List ae},b4 X.K H ds ys->Vals ys vs->∀ v∈vs,∃ d y as,d∈ds/\Rep X.K H d y/\RelV y v/\Reads s.heap v d as
 |_,_,_,.nil,.nil,v,hv=>nomatch hv
 |_,_,_,.cons r rs,.cons q qs,v,hv=>by
  rcases eK.mp hv with rfl|hv
  ·obtain⟨as,z⟩:=r.reads I q;exact⟨_,_,as,cy,r,q,z⟩
  ·obtain⟨d,y,as,a,b,c,z⟩:=wZ I rs qs v hv;exact⟨d,y,as,c9 _ a,b,c,z⟩
theorem tG{S:eh->Prop}(K:L8 n S):∀ (vs:List ae),(∀ v∈vs,∃ d as,S d/\Reads h0 v d as)->∃ fs:List ae,PySem.W.KatTups h0 vs fs/\fs.length=vs.length/\∀ f∈fs,∃ i t,f=Value.int i t
 |[],_=>⟨[],.nil,rfl,λf hf=>nomatch hf⟩
 |v :: vs,h=>by
  obtain⟨fs,f1,f2,f3⟩:=tG K vs λu hu=>h u (c9 _ hu);obtain⟨d,as,sd,r⟩:=h v cy;obtain⟨i,xs,rfl,_,_⟩:=K.tup d sd
  cases r with
  |@tuple a o us m _ W3 h1 h2 h3 h4 =>
   obtain⟨us⟩:=us
   cases h4 with
   |cons r rs =>
    cases r with
    |int _ t =>
     exact⟨_ :: fs,.cons h1 h2 h3 rfl f1,by simp[f2],λf hf=>by
      rcases eK.mp hf with rfl|hf
      ·exact⟨_,_,rfl⟩
      ·exact f3 f hf⟩
def L9:ae->V
 |.ref a=>.ref a
 |_=>.non
def yI{S:eh->Prop}(K:L8 n S)(sd:S d)(q:RelV y v)(r:Reads h0 v d as):L9 v=y:=by
 obtain⟨i,xs,rfl,_,_⟩:=K.tup d sd
 cases r with
 |tuple h1 h2 h3 h4 =>
  cases y with
  |ref b=>cases (q);rfl
  |_=>simp[RelV] at q
theorem uB{S:eh->Prop}(K:L8 n S)(I:Inv X pins σ H s):∀ {ds:List eh} {ys:List V} {vs:List ae},b4 X.K H ds ys->Vals ys vs->(∀ d∈ds,S d)->vs.map (λv=>(kZ s.heap v,L9 v))=ds.zip ys
 |_,_,_,.nil,.nil,_=>rfl
 |_,_,_,.cons r rs,.cons q qs,h=>by obtain⟨as,z⟩:=r.reads I q;have sd:=h _ cy;obtain⟨_,_,_,l,_⟩:=K.tup _ sd;rw[fS,eY z l,yI K sd q z,uB K I rs qs λd hd=>h d (c9 _ hd),M0]
def lU(K:aC)(n:Nat)(S:eh->Prop):List V->Hp->VK->Prop:=λxs H Q=>match xs with
 |[.ref p]=>∃ ys ds,fw K H p ys/\b4 K H ds ys/\(∀ d∈ds,S d)/\∀ (ps:List (eh × V)) l,ps.Perm (ds.zip ys)->(ps.Pairwise λa b=>cp (n+1) b.1 a.1=false)->H l=none->Q (.ref l) (upd H l (.lst (ps.map (·.2))))
 |_=>False
def uT {S:eh->Prop} (K:L8 n S) (hu:X.A.units+n+40<eR):lT X (.builtin "sorted") (lU X.K n S):=by
 walk_at"n";unfold lU at h;split at h
 ·rename_i p;obtain⟨ys,ds,hl,hr,hS,q⟩:=h;obtain⟨u,rfl,ru⟩:=Vals.one r;cases ru;obtain⟨vs,rv,pl,hz⟩:=I.list hl;have lay:∀ d∈ds,d.canLay0=true:=λd hd=>by obtain⟨_,_,_,l,_⟩:=K.tup d (hS d hd);exact l
  have mem:=wZ I hr rv;have hlen:=rv.length;refine vE.qt (κ:=tuples' true) pl.isList (by lia) (λv hv=>?_) (λh2 A' E' s' kp Q' q'=>?_) (λh2 s' kp=>zN K kp hS (by show X.A.units+1+1+n+31<eR;lia)) λh' out m pm pw kp eo=>?_
  ·obtain⟨d,y,as,a,b,c,z⟩:=mem v hv;exact⟨d,as,a,z⟩
  ·obtain⟨fs,f1,f2,f3⟩:=tG K vs λv hv=>by obtain⟨d,y,as,a,b,c,z⟩:=mem v hv;exact⟨d,as,hS d a,PyProof.Rows.Reads.keeps kp z⟩
   refine MV (T:=.type "int") f1 (by lia) (λf hf=>?_) (by decide) q';obtain⟨i,t,rfl⟩:=f3 f hf;exact .now
  ·have back:∀ v∈out,∃ d y as,d∈ds/\Rep X.K H d y/\RelV y v/\Reads s.heap v d as:=λv hv=>mem v (pm.mem_iff.mp hv);have rel:∀ l:List ae,(∀ v∈l,v∈out)->Vals (l.map L9) l:=by
    intro l
    induction l with
    |nil=>exact λ_=>.nil
    |cons v l ih =>intro hm;obtain⟨d,y,as,a,b,c,z⟩:=back v (hm v cy);exact .cons (by rw[yI K (hS d a) c z];exact c) (ih λu hu=>hm u (c9 _ hu))
   have z2:=rel out λ_ h=>h;have ol:=pm.length_eq;have e2:(out.map λv=>(kZ s.heap v,L9 v)).map (·.2)=out.map L9:=by rw[fF];rfl
   have q':=q (out.map λv=>(kZ s.heap v,L9 v)) (s.heap.objs.size+1) (by rw[<- uB K I hr rv hS];exact pm.map _) ?_ (I.b5.fresh (Fu _))
   ·rw[e2] at q';exact⟨.ref (s.heap.objs.size+1),_,I.laid kp (Fu _) (show kH X.prog X.w _ h' _ (.lst (out.map L9)) from⟨by rw[b9];lia,out,m,z2,eo⟩),rfl,q'⟩
   rw[iP];refine pw.imp_of_mem λ{x y} mx my hle=>?_;obtain⟨d,_,as,md,_,_,rd⟩:=back x mx;obtain⟨e,_,bs,me,_,_,re⟩:=back y my;rw[eY rd (lay d md),eY re (lay e me)] at *
   have:=Cr K.ag hS me (hS d md);rw[<- this];exact decide_eq_false (by lia)
 ·exact h.elim
end
end L2
namespace L2.Q
open PySem.SeqAt
section
variable {X:Cx}{K:aC}{Hs H:Hp}
def gU(xs:List D):n5 xs=xs.map D.py:=by
 induction xs with
 |nil=>rfl
 |cons x xs ih=>rw[n5,ih];rfl
def Bm:∀ {vs:List V},b4 K H xs vs->∀ p∈xs.zip vs,Rep K H p.1 p.2:=by
 induction xs with
 |nil=>intro vs r p hp;simp at hp
 |cons x xs ih =>
  intro vs r p hp;obtain⟨u,us,rfl,r1,rs⟩:=r.c;rcases eK.mp hp with rfl|hp
  ·exact r1
  ·exact ih rs p hp
def uP(l:List (D × V))(h:∀ p∈l,Rep K H p.1 p.2):b4 K H (l.map (·.1)) (l.map (·.2)):=by
 induction l with
 |nil=>exact .nil
 |cons p l ih=>exact .cons (h p cy) (ih λq hq=>h q (c9 _ hq))
def BJ(n:Nat)(S:eh->Prop):W1:=λm x Q=>match x with
 |.list xs=>m=.sh/\(∀ d∈xs,dS 12 d=true/\S d.py)/\∀ ms:List D,ms.Perm xs->(ms.Pairwise λa b=>cp (n+1) b.py a.py=false)->Q (.ow false) (.list ms)
 |_=>False
def zY{S:eh->Prop}:DI K (lU K n S) (BJ n S):=by
 walk_at"e";have r1:=rx.rep w
 cases r1 with
 |@list _ _ Ub z s q =>
  obtain⟨rfl,hS,h⟩:=h;obtain⟨_,rx⟩:=rx
  cases rx with
  |@list _ eW _ z' s' q' =>
   have hl:=q'.length;have ez:(n5 Ub).zip eW=(Ub.zip eW).map λp=>(p.1.py,p.2):=by rw[gU,List.zip_map_left];rfl
   refine⟨_,n5 Ub,bS.seq w.sub s',Rep.Wg.2 (q'.same w.sub) 12 λd hd=>(hS d hd).1,λd hd=>?_,λps l hp hw hn=>?_⟩
   ·rw[gU] at hd;obtain⟨e,he,rfl⟩:=bT.mp hd;exact(hS e he).2
   ·obtain⟨m',rfl,pm⟩:=TS.eO hp ez;have p1:(m'.map (·.1)).Perm Ub:=by have:=pm.map (·.1);rwa[RA (RT hl)] at this
    have rr:=uP m' λp hp=>Bm q' p (pm.mem_iff.mp hp);rw[show(m'.map λp=>(p.1.py,p.2)).map (·.2)=m'.map (·.2) by rw[fF];rfl];refine f.Qm w (by rw[p1.length_eq];lia) rr (h _ p1 ?_) l hn;rw[iP] at hw ⊢;exact hw
 |_=>exact h.elim
def Ik {S:eh->Prop} (KS:L8 n S) (hu:X.A.units+n+40<eR) (hK:autoParam (X.K=K) bv):lT X (.builtin "sorted") (lU K n S):=by subst hK;exact uT KS hu
end
end L2.Q
namespace L2
open PySem.SeqAt
section
variable {X:Cx}
def Ga(K:aC):V->List V->Hp->VK->Prop:=λx xs H Q=>∃ l ys ds y d,∃ j:Nat,x=.ref l/\xs=[y]/\fw K H l ys/\b4 K H ds ys/\Rep K H d y/\(∀ e∈ds,e.canLay0=true/\e.depth<=20)/\d.canLay0=true /\ (∃ e,ds[j]? = some e/\PyData.eqv e d=true)/\(∀ (m:Nat) e,m<j->ds[m]? = some e->PyData.eqv e d=false)/\Q (.int j) H
def Ax (hu:X.A.units+64<eR):Vv X "list.index" (Ga X.K):=by
 intro pins s σ H x vs v us Q I rx rv h;obtain⟨l,ys,ds,y,d,j,rfl,rfl,hl,hr,hd,hS,ld,⟨e,ej,eq⟩,FT,q⟩:=h;cases rx;obtain⟨u,rfl,ru⟩:=Vals.one rv;obtain⟨its,rv',pl,hz⟩:=I.list hl;obtain⟨as,rd⟩:=hd.reads I ru;obtain⟨bs,ra⟩:=b4.reads I hr rv';have len:its.length=ds.length:=ReadsAll.length _ _ _ ra;have at':∀ m v,its[m]? = some v->∃ e cs,ds[m]? = some e/\Reads s.heap v e cs/\kZ s.heap v=e:=λm v hv=>by obtain⟨e,cs,h1,h2⟩:=cG ra m v hv;exact⟨e,cs,h1,h2,eY h2 (hS e (ly h1)).1⟩
 have jl:j<ds.length:=(iN.mp ej).1;have jl':j<its.toArray.size:=by rw[iO];lia
 have zs:bq<2 ^ 62:=by rw[iL];decide
 have hlen:=rv'.length;obtain⟨⟨cls,dd,data,sl⟩,ho,hc,n,hdt⟩:=id pl.isList;subst hc hdt;refine call_meets F.slot_list_index ⟨_,ho,rfl⟩ F.entry_list_index (F.args_list_index_2 _ _) (list_indexAt l its.toArray n dd sl u (λv=>PyData.eqv (kZ s.heap v) d) j jl' (by lia) ?_ λm hm h'=>?_) ⟨ho,λv hv=>?_,⟨.int j,H,I.tok _,⟨_,rfl⟩,q⟩⟩
 ·obtain⟨e',cs,h1,_,h3⟩:=at' j its.toArray[j] (by simp at jl' ⊢);rw[h3];rw[ej] at h1;cases h1;exact eq
 ·obtain⟨e',cs,h1,_,h3⟩:=at' m its.toArray[m] (by simp at hm ⊢);rw[h3];exact FT m e' h' h1
 ·obtain⟨m,hm⟩:=MZ.mp (by simpa using hv);obtain⟨e',cs,h1,h2,h3⟩:=at' m v hm;rw[h3];have:=hS e' (ly h1);exact eqAt_reads e' d X.A.in1 s _ _ _ _ h2 rd this.1 ld (by show X.A.units+1+_<eR;lia)
end
end L2
namespace L2.Q
open PySem.SeqAt
end L2.Q
namespace L2.Q.R
open PySem.SeqAt
end L2.Q.R
namespace L2
open PySem.SeqAt
section
variable {X:Cx}
def Eo(K:aC):R2:=λx y H Q=>∃ l xs n,x=.ref l/\y=.int n/\fw K H l xs/\0<=n/\n<=4000/\xs.length<=1000/\∀ p,H p=none->Q (.ref p) (upd H p (.lst (List.replicate n.toNat xs).flatten))
def za(h:Vals xs vs)(k:Nat):Vals (List.replicate k xs).flatten (List.replicate k vs).flatten:=by
 induction k with
 |zero=>exact .nil
 |succ k ih=>rw[A2,A2,A3,A3];exact h.append ih
def uo{α:Type}(xs:List α)(k:Nat):(List.replicate k xs).flatten.length=xs.length*k:=by
 induction k with
 |zero=>rfl
 |succ k ih=>rw[A2,A3,kz,ih,Nat.mul_succ];lia
def CZ:eS X (om .Mult) (Eo X.K):=by
 walk_at"b";obtain⟨l,xs,n,rfl,rfl,hH,h0,h1,h2,q⟩:=h;cases rx;obtain⟨t,rfl⟩:=ry;obtain⟨its,r,pl,z⟩:=I.list hH;have hl:=r.length;obtain⟨⟨cls,dd,data,sl⟩,ho,hc,k,hd⟩:=id pl.isList;subst hc hd;have hm:its.toArray.size*n.toNat<=1000*4000:=zD (by rw[iO];lia) (by lia);have f7:=iL;refine wpAny_binaryOp_repeat_ref (by decide) ⟨_,ho,rfl⟩ (λs'=>typeIs_int s' n t) noFill_list_mul PySem.F.fills_int_mul PySem.F.slot_int_rmul repeat_list PySem.F.slot_int_index.lookup (call_meets PySem.F.slot_int_rmul (typeIs_int s n t) PySem.F.entry_int_rmul (PySem.F.args_int_rmul_2 _ _) (lm_int_rmul_list_any n t l its.toArray k dd sl) ⟨ho,rfl,⟨_,ho,rfl⟩,call_meets PySem.F.slot_list_mul ⟨_,ho,rfl⟩ PySem.F.entry_list_mul (PySem.F.args_list_mul_2 _ _) (lm_list_mul_any l its.toArray k dd sl n t (by simp[Builtin.List.listFitsIndex];lia) (by lia) (by simp only[Builtin.List.listTooLong,decide_eq_true_eq];lia)) ⟨ho,?_⟩⟩)
 rw[listMul_foldl_if];exact⟨.ref _,_,I.Vx (za r _) (by
  rw[uo];have:xs.length*n.toNat<=1000*4000:=zD h2 (by lia);lia),rfl,q _ I.fresh⟩
end
def iF.sub{S U:eh->Prop}(T:iF lt S)(h:∀ x,U x->S x):iF lt U :=
 ⟨λx a=>T.sA x (h x a),λx y z a b c=>T.tr x y z (h x a) (h y b) (h z c),λx y a b=>T.ag x y (h x a) (h y b),λx y a b=>T.eqv x y (h x a) (h y b)⟩
def dC(p:Str × Int):eh:=.tuple [.str p.1,.int p.2]
def xC(x:eh):Prop:=∃ (i:Int) (ps:List (Str × Int)),x=.tuple [.int i,.list (ps.map dC)]/\∀ p∈ps,PyData.strOk p.1=true
def Em(p q:Str × Int):sv 1 (dC p) (dC q):=by
 unfold dC;intro j x y hx hy _
 match j with
 |0=>cases hx;cases hy;rw[sv];trivial
 |1=>cases hx;cases hy;rw[sv];trivial
 |j+2=>simp at hx
def DY(ps:List (Str × Int))(h:∀ p∈ps,PyData.strOk p.1=true):PyData.canLayAll0 (ps.map dC)=true/\PyData.depthAll (ps.map dC)<=2:=by
 induction ps with
 |nil=>exact⟨rfl,by simp[PyData.depthAll]⟩
 |cons p ps ih =>
  have ih:=ih λq hq=>h q (c9 _ hq);have hp:=h p cy;rw[fS];constructor
  ·simp only[PyData.canLayAll0,mw];refine⟨?_,ih.1⟩;simp[dC,PyData.canLay0,PyData.canLayAll0,hp]
  ·have h2:=ih.2;simp only[PyData.depthAll];have:(dC p).depth<=2:=by simp[dC,PyData.depth,PyData.depthAll]
   lia
def Uc:L8 2 xC where
 ag:=((iF.pair (iF.int 2) (iF.list (iF.pair (iF.str 0) (iF.int 0)))).sub) λx ⟨i,ps,e,_⟩=>⟨_,_,e,⟨i,rfl⟩,_,rfl,λy hy=>by
  obtain⟨p,_,rfl⟩:=bT.mp hy;exact⟨_,_,rfl,⟨_,rfl⟩,_,rfl⟩⟩
 tup:=by
  rintro x ⟨i,ps,rfl,h⟩;have:=DY ps h;refine⟨i,_,rfl,?_,?_⟩
  ·simp[PyData.canLay0,PyData.canLayAll0,this.1]
  ·simp only[PyData.depth,PyData.depthAll];lia
 len:=by rintro xs ys ⟨i,ps,e,_⟩ ⟨j,qs,e2,_⟩;cases e;cases e2;rfl
 cm:=by
  rintro x y ⟨i,ps,rfl,_⟩ ⟨j,qs,rfl,_⟩;rw[sv];intro k x y hx hy _
  match k with
  |0=>cases hx;cases hy;rw[sv];trivial
  |1 =>cases hx;cases hy;rw[sv];intro k x y hx hy _;obtain⟨p,_,rfl⟩:=bT.mp (ly hx);obtain⟨q,_,rfl⟩:=bT.mp (ly hy);exact Em p q
  |k+2=>simp at hx
end L2
namespace L2.Q
open PySem.SeqAt
section
variable {X:Cx}{K:aC}{a b:Expr}{ta tb:WE}{pos:Pos}
def Ae:W2:=λ_ x _ y Q=>match x with
 |.list xs=>match y with
  |.int n=>(0<=n/\n<=4000/\xs.length<=1000)/\eP xs=true/\Q (.ow true) (.list (List.replicate n.toNat xs).flatten)
  |_=>False
 |_=>False
def Ba(h:b4 K H xs vs)(k:Nat):b4 K H (List.replicate k xs).flatten (List.replicate k vs).flatten:=by
 induction k with
 |zero=>exact .nil
 |succ k ih=>rw[A2,A2,A3,A3];exact h.append ih
def wz(h:eP xs=true)(k:Nat):eP (List.replicate k xs).flatten=true:=by
 induction k with
 |zero=>rfl
 |succ k ih=>rw[A2,A3,d7,h,ih];rfl
def C_:mI K (Eo K) Ae:=by
 walk_at"a";have r1:=rx.rep w;have r2:=ry.rep w
 cases r1 with
 |list z s q=>cases r2 with
  |int n =>obtain⟨⟨h0,h1,h2⟩,fl,h⟩:=h;have hl:=q.length;refine⟨_,_,_,rfl,rfl,s,h0,h1,by lia,?_⟩;refine f.lst w ?_ (Ba q _) (wz fl _) h;rw[uo,iL];have:List.length _*n.toNat<=1000*4000:=zD h2 (by lia);exact iS this (by decide)
  |_=>exact h.elim
 |_=>exact h.elim
def J2(hK:autoParam (X.K=K) bv):eS X (om .Mult) (Eo K):=by subst hK;exact CZ
def Ir(ha:QE X K a ta)(hb:QE X K b tb)(hK:autoParam (X.K=K) bv):QE X K (.BinOp a .Mult b pos) (bp Ae ta tb):=Ou (J2 hK) C_ ha hb
def ur(to te:WE):WE:=λρ Q=>to ρ λ_ x=>match x with
 |.list xs=>te ρ λ_ y=>dS 12 (.list xs)=true/\dS 12 y=true/\∃ j:Nat,(∃ z,xs[j]? = some z/\ja z y=true)/\(∀ (i:Nat) z,i<j->xs[i]? = some z->ja z y=false)/\Q .sh (.int j)
 |_=>False
def Ex(ho:QE X K o to)(he:QE X K e te)(hK:autoParam (X.K=K) bv) (vk:autoParam (AW o "index" X.env (df o X.env)=df o X.env) bv) (vn:autoParam (((kQ fe (b6 [e] X.env)).all (λx=>!x.1) && (backToKw fe (D2 [] X.env)).all (λx=>x.1.isSome)
   && decide ([e].length+([]:List pS).length+(if ([]:List pS).isEmpty then 0 else 1)<30))=true) bv)
  (hline:autoParam ((apos.endLine == fe.line)=true) bv) (xl:autoParam (b6 (e :: []) X.env=(false,df e X.env) :: b6 [] X.env) bv) (Bn:autoParam ((kQ fe (b6 [] X.env)).any (·.1)=false) bv) (hu:X.A.units+64<eR:=by assumption) :
  QE X K (.Call (.Attribute o "index" apos) [e] [] fe) (ur to te):=by
 subst hK;refine PE.imp (Oc PySem.F.plainAttrs_list PySem.F.slot_list_index PySem.F.type_list_index (Ax hu) ho (u0 he x8 xl) vk vn hline xl Bn) λσ H Qv hx=>kL hx λHs ρ ag Q sr h f=>?_;walk_at"g";have r:=r1.rep g1.wf
 cases r with
 |list hz s rs =>
  refine⟨.inl ⟨rfl,_,s⟩,bI,ρ,ag,_,sr.grow g1,q1,λy H2 aT m2 x2 g7 g2 r2 f2 q2=>?_⟩;obtain⟨o1,o2,j,⟨z,ez,eq⟩,FT,q⟩:=q2;have rr:=(r1.grow g2).rep g2.wf
  cases rr with
  |list BU s' HK =>
   have l2:=iG 12 _ o2;have o1':∀ d∈_,dS 11 d=true:=Nc.mp (o1);refine⟨_,_,_,_,_,j,rfl,rfl,s',Rep.Wg.2 HK 11 o1',(r2.rep g2.wf).l2 o2,λe he=>?_,l2.1,⟨z.py,?_,eq⟩,λm e hm he=>?_,Fin.sh (Fin.after f (g1.trans g2)) g2.wf (.int _) q⟩
   ·rw[gU] at he;obtain⟨d,hd,rfl⟩:=bT.mp he;have:=iG 11 d (o1' d hd);exact⟨this.1,by lia⟩
   ·rw[gU,nh,ez];rfl
   ·rw[gU,nh] at he;obtain⟨d,hd,rfl⟩:=I0.mp he;exact FT m d hm hd
 |_=>exact q1.elim
abbrev yZ:W1:=BJ 2 xC
def Iz (hK:autoParam (X.K=K) bv) (hu:X.A.units+64<eR:=by assumption):lT X (.builtin "sorted") (lU K 2 xC):=Ik Uc (by lia) hK
def zO:DI K (lU K 2 xC) yZ:=zY
end
end L2.Q
namespace L2.Q.R
open PySem.SeqAt
section
variable {Q:Md->L2.Q.D->Prop}{m m':Md}{x y:L2.Q.D}{xs:List L2.Q.D}{to' te:WE}{ρ:Env}{a:Int}
def Ld:Ae m (.list xs) m' (.int a) Q=((0<=a/\a<=4000/\xs.length<=1000)/\eP xs=true/\Q (.ow true) (.list (List.replicate a.toNat xs).flatten)):=rfl
def JD:ur to' te ρ Q=to' ρ λ_ x=>cE x (f:=λx=>vT x λxs=>te ρ λ_ y=>dS 12 (.list xs)=true/\dS 12 y=true/\∃ j:Nat,(∃ z,xs[j]? = some z/\ja z y=true)/\(∀ (i:Nat) z,i<j->xs[i]? = some z->ja z y=false)/\Q .sh (.int j)) ⟨⟩:=by unfold ur cE vT;rfl
def JM:yZ m (.list xs) Q=(m=.sh/\(∀ d∈xs,dS 12 d=true/\xC d.py)/\∀ ms:List L2.Q.D,ms.Perm xs->(ms.Pairwise λa b=>PySem.SeqAt.cp 3 b.py a.py=false)->Q (.ow false) (.list ms)):=rfl
end
end L2.Q.R
namespace L2
def je(K:aC):V->Hp->VK->Prop:=λx H Q=>match x with
 |.ref p=>∃ ks:List Key,fw K H p (ks.map kV)/\ks.length<=1000/\∀ ms:List Key,ms.Nodup->(∀ k,k∈ms↔k∈ks)->Q (.int ms.length) H
 |_=>False
section
variable {X:Cx}{e:Expr}{te:TE}{p p2 pos js:Pos}
def vo (hc:X.calm=true) (hg:Gl X "len") (hm:X.mg "len" = none) (sj:Gl X "set") (mE:X.mg "set" = none) (he:PE X e te)(hv:ll "len" = some (.builtin "len")) (LZ:ll "set" = some (.type "set"))(kc:autoParam (b6 [e] X.env=(false,df e X.env) :: b6 [] X.env) bv) (hs:autoParam (b6 [.Call (.Name "set" p2) [e] [] js] X.env=(false,df (.Call (.Name "set" p2) [e] [] js) X.env) :: b6 [] X.env) bv) :
  PE X (.Call (.Name "len" p) [.Call (.Name "set" p2) [e] [] js] [] pos) (PF (je X.K) te):=by
 walk_at"z";refine AU (x5 I hg hm hv ?_ (by decide) (by decide));refine PyProof.Rows.callWith_builtin1 ?_ hs rfl;refine Calls.spliced_cons ?_;refine AU (x5 I sj mE LZ ?_ (by decide) (by decide));refine PyProof.Rows.callWith_type1 ?_ kc rfl;rw[kc];walk_at"c";have q1:je X.K x H1 Q:=q1;obtain⟨a,rfl⟩:∃ a,x=.ref a:=by
  unfold je at q1;split at q1
  ·exact⟨_,rfl⟩
  ·exact q1.elim
 obtain⟨ks,hl,OS,q⟩:=q1;cases r1;obtain⟨vs,rv,pl,hz⟩:=I1.list hl;obtain⟨xs,ex,ek,hx⟩:=lC rv;have AB:X.A.handled=none:=I1.ok.hd hc;have hlen:xs.length=ks.length:=by rw[<- ek,b9]
 have mN:∀ p∈xs,(kC X.prog X.w).is p.1 p.2=true:=λp hp=>by
  obtain⟨k,v⟩:=p;have r:=hx _ hp;rw[ZG]
  cases k with
  |inl i=>obtain⟨t,e⟩:=r;rw[show v=_ from e];exact UZ ..
  |inr x=>obtain⟨t,e⟩:=r;rw[show v=_ from e];exact U0 ..
 refine TS.gM AB pl.isList (by simpa using ex) mN (by lia) jb λh2 tk dQ S m1 m2 kp=>?_;refine Calls.spliced_nil ?_;walk_at"x";have WR:dQ.length<=1000:=by
  have:=TS.aV nd (m:=ks) λk hk=>by rw[<- ek];exact(m1 k).mp hk
  rw[b9] at this;lia
 have L4:es.size=dQ.length:=by have:=congrArg List.length xo;simpa using this
 refine call_len_set ho hex hd T.fits (by lia) ?_;have I2:Inv X pins σ H1 { s1 with heap:=h2,toks:=tk+1+1 }:=I1.kept kp;refine⟨.int dQ.length,H1,I2,⟨_,by rw[L4]⟩,?_⟩;have:=q (dQ.map (·.1)) nd λk=>by rw[m1,ek]
 rwa[b9] at this
end
end L2
namespace L2.Q
section
variable {X:Cx}{K:aC}{a b c e:Expr}{ta tb te:WE}{pos p p2 js:Pos}
def oG:W1:=λ_ x Q=>match x with
 |.list xs=>∃ ks:List Key,xs=ks.map kM/\ks.length<=1000/\∀ ms:List Key,ms.Nodup->(∀ k,k∈ms↔k∈ks)->Q .sh (.int ms.length)
 |_=>False
def xF:LB K (je K) oG:=by
 walk_at"e";have r1:=rx.rep w
 cases r1 with
 |list z s q =>obtain⟨ks,rfl,hz,h⟩:=h;obtain⟨e,ok⟩:=mF q;subst e;exact⟨ks,s,hz,λms nd mm=>f.sh w (.int _) (h ms nd mm)⟩
 |_=>exact h.elim
def Ac (hg:Gl X "len") (hm:X.mg "len" = none) (sj:Gl X "set") (mE:X.mg "set" = none) (he:QE X K e te) (hc:autoParam (X.calm=true) bv) (hK:autoParam (X.K=K) bv) (kc:autoParam (b6 [e] X.env=(false,df e X.env) :: b6 [] X.env) bv) (hs:autoParam (b6 [.Call (.Name "set" p2) [e] [] js] X.env=(false,df (.Call (.Name "set" p2) [e] [] js) X.env) :: b6 [] X.env) bv) :
  QE X K (.Call (.Name "len" p) [.Call (.Name "set" p2) [e] [] js] [] pos) (gV oG te):=by
 subst hK;exact PE.imp (vo hc hg hm sj mE he fL oY kc hs) λσ H Qv ⟨Hs,ρ,ag,Q,sr,h,fin⟩=>⟨Hs,ρ,ag,_,sr,h,λv H1 bI m x As g1 r1 f1 q1=>xF bI H1 m x v As Q Qv g1.wf r1 q1 (Fin.after fin g1)⟩
def Ud(ta tb:WE):WE:=λρ Q=>ta ρ λm x=>m=.ow true/\match x with
 |.list xs=>tb ρ λ_ y=>intD y λk=>∃ d,L2.gy xs k=some d/\Q (QZ d) d
 |_=>False
def J3(ha:QE X K a ta)(hb:QE X K b tb)(hs:Sw b:=by exact λ_ _=>rfl)(hK:autoParam (X.K=K) bv):QE X K (.Subscript a b pos) (Ud ta tb):=by
 refine PE.imp (Vw (kIx hK) ha hb hs) λσ H Qv hx=>kL hx λHs ρ ag Q sr h f=>?_;walk_at"g";obtain⟨rfl,q1⟩:=q1;obtain⟨r1,ne⟩:=r1
 cases r1 with
 |sh _ r=>exact absurd rfl ne
 |@list a vs xs As z e rs =>
  refine⟨bI,ρ,ag,_,sr.grow g1,q1,λu H2 aT m2 y Bs g2 r2 f2 q2=>?_⟩;have ry:=r2.rep g2.wf
  cases ry with
  |int k =>
   obtain⟨d,e3,q⟩:=q2;obtain⟨j,ej,ed⟩:=Hx e3;have nd:As.Nodup:=(kA.mp f1.1).2;obtain⟨w,B,ew,k5,sB,_⟩:=rs.at ed nd;have r3:=k5.grow g2.sh g2.all;refine .inl ⟨vs,w,.inl (.inl (g2.all _ _ e)),rR (by rw[<- rs.length];exact ej) ew,?_⟩
   cases hf:d.flat with
   |true =>rw[QZ,hf] at q;exact f w H2 aT .sh d [] (g1.trans g2) ⟨rfl,(r3.rep g2.wf.sub λ_ _=>rfl).eN g2.wf.k8 hf⟩ ⟨oy,λ_ h=>xi h⟩ q
   |false =>rw[QZ,hf] at q;refine f w H2 aT (.ow true) d B (g1.trans g2) ⟨r3,r3.ne hf⟩ ⟨sB.nodup nd,λc hc=>?_⟩ q;have:=f1.2 c (c9 _ (sB.subset hc));exact⟨g2.mn this.1 (k5.own c hc).ne,this.2⟩
  |_=>exact q2.elim
 |_=>exact q1.elim
def SR.view(G:Hp)(s:bS Hs H)(r:SR K Hs H ρ σ ag):SR K H G (ρ.map (Option.map Qu)) σ []:=by
 induction r with
 |nil=>exact .nil
 |non _ ih=>exact .non ih
 |sh r _ ih=>exact .sh (r.same s) ih
 |xc _ ih=>exact .xc ih
 |ow _ r _ ih=>exact .sh (r.rep s λ_ _=>rfl) ih
 |lk _ r _ ih=>exact .sh (r.rep s λ_ _=>rfl) ih
 |ob _ _ ih=>exact .xc ih
def Ue(i j:Nat)(hs xs:List D)(ρ:Env):Env:=(ρ.set j none).set i (some (.ow true (.list (hs++[.list xs]))))
def W7(i j:Nat)(hs xs:List D)(ρ:Env):Env:=((Ue i j hs xs ρ).map (Option.map Qu)).set j (some (.sh (.list xs)))
def jX'(o:Option Sl)(k:Sl->Prop):Prop:=match o with
 |some s=>k s
 |none=>False
def vY(i j:Nat)(te:WE):WS:=λE ρ=>L6 ρ[i]? λhs=>L6 ρ[j]? λxs=>eP xs=true/\hs.length<bq /\
 te (W7 i j hs xs ρ) λm d=>jX' (asg (GY m d) d) λsl=>E.nx ((Ue i j hs xs ρ).set j (some sl))
def zA(hN:X.N.Nodup)(hj0:X.N[j]? = some x)(hx:Loc X.env.scope x)(hi:PE X a (ED i))(hj:PE X b (ED j))(he:QE X K e te)(gL:i≠j:=by decide)(hK:autoParam (X.K=K) bv) (s1:autoParam (sN (.Call (.Attribute a "append" p1) [b] [] p2) none pos.line X.env=pure false) bv) (b1:autoParam (AW a "append" X.env (df a X.env)=df a X.env) bv) (f1:autoParam (((kQ p2 (b6 [b] X.env)).all (λx=>!x.1) && (backToKw p2 (D2 [] X.env)).all (λx=>x.1.isSome) && decide ([b].length+([]:List pS).length+(if ([]:List pS).isEmpty then 0 else 1)<30))=true) bv) (l1:autoParam ((p1.endLine == p2.line)=true) bv) (t1:autoParam (b6 (b :: []) X.env=(false,df b X.env) :: b6 [] X.env) bv) (q1:autoParam ((kQ p2 (b6 [] X.env)).any (·.1)=false) bv) (hs:autoParam (sN e (some (.Name x p3)) pos'.line X.env=pure false) bv) (hf:X.fn x=true\/X.env.scope.names.lookup x=some .local:=by first|exact .inl rfl|exact .inr rfl|assumption) :
  AG X K L [.Expr (.Call (.Attribute a "append" p1) [b] [] p2) pos,.Assign [.Name x p3] e pos'] (vY i j te):=by
 subst hK;refine nv.imp (ZZ (NV (Oc PySem.F.plainAttrs_list PySem.F.slot_list_append PySem.F.type_list_append SG hi (u0 hj x8 t1) b1 f1 l1 t1 q1) s1) (Z0 (Vb hN hj0 hx he hs hf))) λD σ H hx=>cz hx λHs ρ ag E sr h k1 k2 k3 k4=>?_
 obtain⟨hs,ei,h⟩:=CG h;obtain⟨xs,ej,fl,OS,h⟩:=CG h;obtain⟨a,ws,c,vs,fo,u1,u2,u3,u4,u5,u6,u7,iE⟩:=De gL sr ei ej fl OS;refine⟨_,u1,.inl ⟨rfl,_,.inl (.inl u2)⟩,_,u4,a,ws,_,rfl,rfl,u2,u3,?_⟩;have rc:Rep X.K (upd H a (.lst (ws++[.ref c]))) (.list xs) (.ref c):=.list u7 (.inl (.inl u5)) (u6.same iE.wf.sub);have v0:=SR.view (upd H a (.lst (ws++[.ref c]))) iE.wf.sub iE.sr;obtain⟨t,st,v1⟩:=v0.yr rc j;have e0:σ.set j (some (.ref c))=σ:=by
  apply D5;intro m;by_cases hm:j=m
  ·subst hm;rw[UA (by have:=(iN.mp u4).1;exact this),u4]
  ·rw[Pb hm]
 rw[e0] at v1;have et:t=[]:=List.eq_nil_of_subset_nil st.subset;subst et;refine⟨upd H a (.lst (ws++[.ref c])),_,[],_,⟨v1,⟨bS.refl _,λ_ _ z=>z⟩,oy,λ_ h=>xi h⟩,h,λv H1 bI m d As g1 r1 f1 q1=>?_⟩;obtain⟨hV,r',fr⟩:=sU iE.wf g1.sh g1.wf r1 f1.1 λa ha=>(f1.2 a ha).1;have gb:=gn iE.wf g1.sh g1.wf
 cases ea:asg (GY m d) d with
 |none=>rw[ea] at q1;exact q1.elim
 |some sl =>rw[ea] at q1;obtain⟨cS,s'⟩:=(iE.grow gb).set j r' fr.1 (λa ha=>⟨(fr.2 a ha).1,λm=>(iE.sr.own a m).ne (fr.2 a ha).2⟩) ea;exact k1 _ H1 _ _ cS gb.sh s' q1
end
end L2.Q
namespace L2.Q.R
section
variable {Q:Md->L2.Q.D->Prop}{m:Md}{x y:L2.Q.D}{xs:List L2.Q.D}{ta tb te:WE}{ρ:L2.Q.Env}{E:qU}{i j:Nat}
def Jj:oG m (.list xs) Q = ∃ ks:List Key,xs=ks.map kM/\ks.length<=1000/\∀ ms:List Key,ms.Nodup->(∀ k,k∈ms↔k∈ks)->Q .sh (.int ms.length):=rfl
def M9:Ud ta tb ρ Q=ta ρ λm x=>m=.ow true/\cE x (f:=λx=>vT x λxs=>tb ρ λ_ y=>cE y (f:=λy=>intD y λk=>∃ d,L2.gy xs k=some d/\cE d (f:=λd=>Q (QZ d) d) ⟨⟩) ⟨⟩) ⟨⟩:=by unfold Ud cE vT;rfl
def J9:vY i j te E ρ=cE ρ[i]? (f:=λo=>L6 o λhs=>cE ρ[j]? (f:=λo=>L6 o λxs=>eP xs=true/\hs.length<bq /\
 te (W7 i j hs xs ρ) λm d=>cE (asg (GY m d) d) (f:=λo=>put o λsl=>E.nx ((Ue i j hs xs ρ).set j (some sl))) ⟨⟩) ⟨⟩) ⟨⟩:=rfl
end
end L2.Q.R
end
namespace TS
open PySem PySem.SetTable PyProof.Rows
section
variable {prog:d5}{w:eJ}{K:Type}[DecidableEq K]{knd:KeyKind prog w K}{A:fh}{E:ae->ax->Prop}{s:ax}
def oF{l:ah}{items:Array ae}{xs:List (List K × ah)}{Q:ae->ax->Prop}(hh:A.handled=none)(hu:A.units+8<eR)(hl:s.heap.IsList l items)(hi:items.toList=xs.map λp=>Value.ref p.2)(mN:∀ p∈xs,IsTupleKey knd s.heap p.1 p.2) {U:List (List K)} (hU:U.length<=999) (hxU:∀ p∈xs,p.1∈U) (qV:∀ k v,knd.is k v=true->v.scannable=true)(h:∀ h' tk ks,E5 knd h' s.heap.objs.size ks->(∀ k,k∈ks.map (·.1)↔k∈xs.map (·.1))->(∀ p∈ks,p∈xs)->(∀ b o,s.heap.get? b=some o->h'.get? b=some o)->Q (.ref s.heap.objs.size) { s with heap:=h',toks:=tk }) :
  bP (aS prog w) A (call (.type "set") [.ref l]) Q E s:=by
 have lt:∀ p∈xs,p.2<s.heap.objs.size:=λp hp=>by obtain⟨o,_,_,ho,_⟩:=mN p hp;exact e9 ho
 have few:∀ {h:dy} ks,E5 knd h s.heap.objs.size ks->(∀ p∈ks,p∈xs)->ks.length<1000:=λ{h} ks S m=>by
  have:=TS.aV S.nd λk hk=>by obtain⟨p,hp,rfl⟩:=bT.mp hk;exact hxU p (m p hp)
  rw[b9] at this;lia
 refine eF hh hl (λi h=>∃ ks,E5 knd h s.heap.objs.size ks/\(∀ k,k∈ks.map (·.1)↔k∈(xs.take i).map (·.1))/\(∀ p∈ks,p∈xs)/\ks.length<=i/\∀ p∈xs,IsTupleKey knd h p.1 p.2) (λh e k=>?_) (λi h h' ⟨ks,S,m1,m2,m3,m4⟩ k=>?_) (λi v s' E' Q' hv ⟨ks,S,m1,m2,m3,m4⟩ q=>?_) λh' tk ⟨ks,S,m1,m2,m3,m4⟩ k=>?_
 ·walk_at"f"
 ·obtain⟨⟨o,es,ep,t,ho,r⟩,nd,is⟩:=S;walk_at"j"
 ·have oD:items.toList[i]? = some v:=by rw[n4];exact hv
  rw[hi,nh] at oD
  cases ex:xs[i]? with
  |none=>rw[ex] at oD;cases oD
  |some p =>
   rw[ex] at oD;cases oD;have hp:=ly ex;have QN:(xs.take (i+1)).map (·.1)=(xs.take i).map (·.1)++[p.1]:=by rw[zv,ex,qB];rfl
   refine sM (aw (wpAny_pyHash_tuple (by show A.units+3<eR;lia) (m4 p hp) ?_));refine Cd (s:={ s' with toks:=s'.toks+(p.1.length+1) }) S (m4 p hp) (few ks S m2) (by show A.units+3<eR;lia) qV λb h' dQ sb S' c=>?_;refine q b h' _ sb ⟨dQ,S',λk=>?_,λp' fz=>?_,?_,λp' fz=>IsTupleKey.ft (m4 p' fz) λo ho=>sb.extBut _ _ (gp (lt p' fz)) ho⟩
   ·rw[QN,dP,oo,<- m1];rcases c with⟨c1,rfl⟩|⟨c1,c2⟩
    ·exact⟨.inl,λz=>z.elim id λe=>e ▸ c1⟩
    ·rw[(c2.map _).mem_iff,fS,eK];exact⟨λz=>z.symm,λz=>z.symm⟩
   ·rcases c with⟨c1,rfl⟩|⟨c1,c2⟩
    ·exact m2 p' fz
    ·rcases eK.mp (c2.mem_iff.mp fz) with rfl|z
     ·exact hp
     ·exact m2 p' z
   ·rcases c with⟨c1,rfl⟩|⟨c1,c2⟩
    ·lia
    ·rw[c2.length_eq];simp;lia
 ·have e:items.size=xs.length:=by have:=congrArg List.length hi;simpa using this
  rw[e,zC] at m1;exact h h' tk ks S m1 m2 λb o ho=>k b o (e9 ho) ho
end
end TS
section
open PySem PySem.Spec PyProof.Rows
namespace L2
def gP(K:aC):V->Hp->VK->Prop:=λx H Q=>match x with
 |.ref p=>∃ ys ks b0 sh,fw K H p ys/\(∃ U:List (List Key),U.length<=999/\∀ k∈ks,k∈U)/\bB H ys ks/\(∀ k∈ks,ic k=b0 :: sh) /\
   ∀ zs ms l,bB H zs ms->ms.Nodup->(∀ k,k∈ms↔k∈ks)->(ms.Pairwise λa b=>fA b a=false)->H l=none->Q (.ref l) (upd H l (.lst zs))
 |_=>False
section
variable {X:Cx}{e:Expr}{te:TE}{p p2 pos js:Pos}
def qT (hc:X.calm=true) (hu:X.A.units+64<eR) (hg:Gl X "sorted") (hm:X.mg "sorted" = none) (sj:Gl X "set") (mE:X.mg "set" = none) (he:PE X e te)(hv:ll "sorted" = some (.builtin "sorted")) (LZ:ll "set" = some (.type "set"))(kc:autoParam (b6 [e] X.env=(false,df e X.env) :: b6 [] X.env) bv) (hs:autoParam (b6 [.Call (.Name "set" p2) [e] [] js] X.env=(false,df (.Call (.Name "set" p2) [e] [] js) X.env) :: b6 [] X.env) bv) :
  PE X (.Call (.Name "sorted" p) [.Call (.Name "set" p2) [e] [] js] [] pos) (PF (gP X.K) te):=by
 walk_at"z";refine AU (x5 I hg hm hv ?_ (by decide) (by decide));refine PyProof.Rows.callWith_builtin1 ?_ hs rfl;refine Calls.spliced_cons ?_;refine AU (x5 I sj mE LZ ?_ (by decide) (by decide));refine PyProof.Rows.callWith_type1 ?_ kc rfl;rw[kc];walk_at"c";have q1:gP X.K x H1 Q:=q1;obtain⟨a,rfl⟩:∃ a,x=.ref a:=by
  unfold gP at q1;split at q1
  ·exact⟨_,rfl⟩
  ·exact q1.elim
 obtain⟨ys,ks,b0,sh,hl,⟨U,hU,Q8⟩,ht,vt,q⟩:=q1;cases r1;obtain⟨vs,rv,pl,hz⟩:=I1.list hl;obtain⟨xs,ex,ek,hx⟩:=ht.pairs rv;have AB:X.A.handled=none:=I1.ok.hd hc;have mN:∀ p∈xs,IsTupleKey (kC X.prog X.w) s1.heap p.1 p.2:=λp hp=>by obtain⟨us,ru,o,e1,c1,n1,d1⟩:=I1.tup (hx p hp);exact⟨o,us.toArray,n1,e1,c1,d1,by simpa using SK ru⟩
 refine TS.oF AB (by lia) pl.isList (by simpa using ex) mN hU (λp hp=>Q8 _ (by rw[<- ek];exact bT.mpr ⟨p,hp,rfl⟩)) jb λh2 tk dQ S m1 m2 kp=>?_;refine Calls.spliced_nil ?_;walk_at"x";have QQ:es.toList.map (·.2)=dQ.map λp=>Value.ref p.2:=by rw[xo,fF];rfl
 have WR:dQ.length<=1000:=by have:=TS.aV nd λk hk=>Q8 k (by rw[<- ek];exact(m1 k).mp hk);rw[b9] at this;lia
 have L4:es.size=dQ.length:=by have:=congrArg List.length xo;simpa using this
 have QR:∀ p∈dQ,p.1∈ks:=λp hp=>by rw[<- ek];exact bT.mpr ⟨p,m2 p hp,rfl⟩
 have mem:∀ eW:List ae,eW.Perm (dQ.map λp=>Value.ref p.2)->∀ v∈eW,∃ b k,v=.ref b/\H1 b=some (.tup (k.map kV))/\k∈ks:=λeW pv v hv=>by obtain⟨p,hp,rfl⟩:=bT.mp (pv.mem_iff.mp hv);exact⟨p.2,p.1,rfl,hx p (m2 p hp),QR p hp⟩
 have HG:s1.heap.objs.size<=h2.objs.size:=sQ (e9 ho);refine vE.fO (κ:=tuples' true) (R:=λeW=>eW.Perm (dQ.map λp=>Value.ref p.2)) (P:=λv=>∃ b k,v=.ref b/\H1 b=some (.tup (k.map kV))/\ic k=b0 :: sh/\k∈ks) (λA' E' Q' hA hQ=>TS.fU (hA.trans AB) ho hex hd T.fits T.up T.sz hL (by rw[L4,iL];lia) λh' DL d eW oa BU pv=>hQ eW h' DL d (by rw[<- QQ];exact pv) oa BU) (λeW pv=>by rw[pv.length_eq,b9,iL];lia) (λeW pv v hv=>?_) (λeW pv WU A' E' s' oa Q' q'=>?_) (λs' oa=>mq I1 λb o e=>oa b o (kp b o e)) λeW h' a' out n DL d pv pm pw oa ha eo=>?_
 ·obtain⟨b,k,e1,e2,e3⟩:=mem eW pv v hv;exact⟨b,k,e1,e2,vt k e3,e3⟩
 ·obtain⟨zs,z1,z2⟩:=bB.of eW (mem eW pv);obtain⟨fs,f1,f2,f3⟩:=kat_tups I1 (λb o e=>oa b o (kp b o e)) z1 z2 λk hk=>by obtain⟨v,hv,rfl⟩:=bT.mp hk;obtain⟨b,k,rfl,e2,e3⟩:=mem eW pv v hv;rw[aZ e2];exact vt k e3
  cases b0 with
  |true =>refine MV (T:=.type "int") f1 (by lia) (λf hf=>?_) (by decide) q';obtain⟨i,t,rfl⟩:=(f3 f hf).1 rfl;exact .now
  |false =>refine MV (T:=.type "str") f1 (by lia) (λf hf=>?_) (by decide) q';obtain⟨i,t,rfl⟩:=(f3 f hf).2 rfl;exact .now
 ·have xA:=pm.trans pv;obtain⟨zs,z1,z2⟩:=bB.of out λv hv=>mem _ xA v hv;have zl:=z2.length;have ol:=xA.length_eq;rw[b9] at ol;have QV:(dQ.map λp=>Value.ref p.2).map (kI H1)=dQ.map (·.1):=by rw[fF];exact Fm λp hp=>aZ (hx p (m2 p hp))
  have Lv:(out.map (kI H1)).Perm (dQ.map (·.1)):=by rw[<- QV];exact xA.map _
  refine⟨.ref a',_,(I1.laid (λb o e=>oa b o (kp b o e)) (iS HG ha) (show kH X.prog X.w _ h' _ (.lst zs) from⟨by rw[iL];lia,out,n,z2,eo⟩)).drawn,rfl,
   q zs _ _ z1 (Lv.nodup_iff.mpr nd) (λk=>by rw[Lv.mem_iff,m1,ek]) ?_ (I1.b5.fresh (iS HG ha))⟩
  rw[iP];refine pw.imp_of_mem λ{x y} mx my hle=>?_;obtain⟨b,k,rfl,hb,kk⟩:=mem _ xA x mx;obtain⟨c,m,rfl,tf,km⟩:=mem _ xA y my;rw[aZ hb,aZ tf] at *
  have:=j0 ((vt m km).trans (vt k kk).symm) km;rw[<- this];exact decide_eq_false (by lia)
end
end L2
namespace L2.Q
section
variable {X:Cx}{K:aC}{e:Expr}{te:WE}{p p2 pos js:Pos}
def eU:W1:=λ_ x Q=>match x with
 |.list xs=>∃ (ks U:List (List Key)) (sh:List Bool),xs=ks.map kg/\U.length<=999/\(∀ k∈ks,k∈U)/\(∀ k∈ks,ic k=true :: sh)/\∀ ms:List (List Key),ms.Nodup->(∀ k,k∈ms↔k∈ks)->(ms.Pairwise λa b=>fA b a=false)->Q (.ow true) (.list (ms.map kg))
 |_=>False
def rT:LB K (gP K) eU:=by
 walk_at"e";have r1:=rx.rep w
 cases r1 with
 |list z s q =>obtain⟨ks,U,sh,rfl,hU,Q8,hs,h⟩:=h;obtain⟨ta,ok⟩:=mj q;refine⟨_,ks,true,sh,s,⟨U,hU,Q8⟩,ta,hs,λzs ms l tz nd mm pw LN=>?_⟩;have rr:=gF (K:=K) tz λk hk=>ok k ((mm k).mp hk);have:ms.length<=U.length:=TS.aV nd λk hk=>Q8 k ((mm k).mp hk);exact f.lst w (by rw[b9,iL];lia) rr (du ms) (h ms nd mm pw) l LN
 |_=>exact h.elim
def u9 (hm:X.mg "sorted" = none) (mE:X.mg "set" = none) (he:QE X K e te) (hc:autoParam (X.calm=true) bv) (hK:autoParam (X.K=K) bv) (kc:autoParam (b6 [e] X.env=(false,df e X.env) :: b6 [] X.env) bv) (hs:autoParam (b6 [.Call (.Name "set" p2) [e] [] js] X.env=(false,df (.Call (.Name "set" p2) [e] [] js) X.env) :: b6 [] X.env) bv) (hu:X.A.units+64<eR:=by assumption) (hg:Gl X "sorted" := by rfl) (sj:Gl X "set" := by rfl) :
  QE X K (.Call (.Name "sorted" p) [.Call (.Name "set" p2) [e] [] js] [] pos) (gV eU te):=by
 subst hK;exact PE.imp (qT hc hu hg hm sj mE he bF oY kc hs) λσ H Qv ⟨Hs,ρ,ag,Q,sr,h,fin⟩=>⟨Hs,ρ,ag,_,sr,h,λv H1 bI m x As g1 r1 f1 q1=>rT bI H1 m x v As Q Qv g1.wf r1 q1 (Fin.after fin g1)⟩
end
end L2.Q
namespace L2.Q.R
def Gf:eU m (.list xs) Q = ∃ (ks U:List (List Key)) (sh:List Bool),xs=ks.map kg/\U.length<=999/\(∀ k∈ks,k∈U)/\(∀ k∈ks,ic k=true :: sh)/\∀ ms:List (List Key),ms.Nodup->(∀ k,k∈ms↔k∈ks)->(ms.Pairwise λa b=>fA b a=false)->Q (.ow true) (.list (ms.map kg)):=rfl
end L2.Q.R
namespace L2.Q
def Wn.mk{P:d5}{w:eJ}{K:aC}{mg:Str->Option ae}{base:dy}{x:Str}{st:Stmt}{f:ah}{fd:FuncData}{sp:jS}{t:WS}(m:mg x=some (.ref f))(F:Dx K x x st f fd)(N:List Str)(n k:Nat)(len:∀ ds Q,sp ds Q->ds.length=n)(hp:∀ ds Q,sp ds Q->t { nx:=λ_=>Q .sh .non,rt:=Q } (aH N.length ds)) (hb:∀ {gv:ae} {A:fh} {outer:List PySem.Env} {s:ax} {H:Hp} {E:XK},{_:ny k (A.deeper (envOfC x (mB st) s.heap.objs.size f gv))}->{_:(A.deeper (envOfC x (mB st) s.heap.objs.size f gv)).units+64<eR}->{_:N.Nodup} -> {_:(CL w9 P w K mg base N x (mB st) f gv A outer s H E).FH.env.scope=mB st/\(CL w9 P w K mg base N x (mB st) f gv A outer s H E).FH.N=N}->AG (CL w9 P w K mg base N x (mB st) f gv A outer s H E).FH K L0 (yn st) t) (S:PJ N (N.take n) (mB st):=by exact⟨rfl,rfl,rfl,by decide +kernel,rfl,by decide +kernel,by decide +kernel⟩) (hl:autoParam ((N.take n).length=n) bv) (bi:∀ (kV doc pm:ae) (an:Option ah) (gv ct:ae) (us:List ae),us.length=(N.take n).length->bindArgs (zt x x (Dp st) (yn st) (mB st) .none kV doc pm an gv ct) ⟨us,[]⟩=pure ((N.take n).zip us):=by
   intro _ _ _ _ _ _ us h;iterate 13 all_goals rcases us with _|⟨_,us⟩<;>first|rfl|(simp at h;done)|skip):S_ P w K mg base (k+1) x (N.take n) (fG K sp)/\Au P w K mg base w9 (k+1) f fd (N.take n) (fG K sp) :=
 have G:=Wn.ok F S (λds Q h=>(len ds Q h).trans hl.symm) (λ_ _ _ _ _ _ hr=>@hb _ _ _ _ _ _ hr hr.units S.nd ⟨rfl,rfl⟩) hp
 ⟨F.cal m G bi,G⟩
namespace R
def KQ{m m':Md}{i j:Bool}{Q:Md->L2.Q.D->Prop}:rV m (.bl i) m' (.bl j) Q=Q .sh (.bl (!decide (i=j))):=rfl
end R
end L2.Q
end
local macro_rules | `(tactic| walk_at "q") => do
 let nm (s:String):Lean.Ident:=Lean.mkIdent ((s.splitOn ".").foldl Lean.Name.mkStr .anonymous)
 let ds ← ("Mi NT Mj K3 JL Ml Ng M8 Js Jf K6 Lk Lr Ln LK Mt K8 KN L_ Lx Oa N5 Lp Nh Jo Nt Nx Mx Mr Mw jR' Ni Mv NP KZ K5 Lb Ms Nk Kc KR KY Ja JW Ji Jt Mq KD wB_ NK Nr Nf iU' Nj N_ Jq J0 wC_ iW' iX' Kp Kw MN Nb Mz Li JF JN Jk JK Jl JZ KC K1 Kz Lz Ny Nu La K_ N7 Nq MT Gh Gg Ld JD JM Jj M9 J9 Gf Gi KQ LR Mu Mm MF N6 M7 MP M_ NB Kv KH Lw MJ Jm JB iY' Jd K7 K9 Nz MK LC Kh iZ' Jg NQ Ka M6 N8 Ly Nv JP Mh Mf Lf J5 Jh Je gN_ gT_ Lg Np Ma jc' Nm Kf JT Mp Lh Lq K4 jI' Lj".splitOn " ").toArray.mapM fun s=>`(Lean.Parser.Tactic.simpLemma| ↓$(nm ("L2.Q.R." ++ s)):ident)
 let us ← ("L2.Q.Ue L2.Q.W7 L2.Q.TN L2.Q.QZ L2.Q.vV L2.Q.Dn L2.Q.BI L2.Q.LH L2.Q.Qs L2.Q.GY L2.Q.J4 L2.Q.Qw L2.Q.DJ L2.Q.Qu L2.Q.lE L2.Q.DN L2.Q.asg L2.Q.tJ L2.Q.aH L2.Q.D.flat L2.Q.eP L2.Q.D.GV L2.Q.D.ty L2.Q.Tr L2.Q.D.key1 L2.Q.dW L2.Q.pR L2.Q.o7 List.length_map List.map_cons List.map_nil List.length_cons List.length_nil List.replicate_succ List.replicate_zero List.cons_append List.nil_append List.append_nil List.getElem?_cons_zero List.getElem?_cons_succ List.getElem?_nil List.set_cons_zero List.set_cons_succ List.all_cons List.all_nil Option.some.injEq Option.join_some Option.map_some Option.map_none Nat.reduceAdd Nat.reduceSub true_and and_true Bool.and_true Bool.true_and Bool.and_false Bool.false_and Bool.not_true Bool.not_false Bool.false_eq_true if_true if_false decide_true decide_false reduceIte cond_true cond_false PySem.sizeLine_eq L2.Q.iQ' L2.Q.iR' L2.Q.iS' L2.Q.bR L2.Q.Hz L2.Q.empty_app Nat.zero_add exists_eq_left' Int.reduceLT Int.reduceLE Int.reducePow Int.reduceNeg Int.reduceToNat Int.reduceAdd Int.reduceMul Int.reduceSub Nat.reduceLeDiff Nat.reduceLT false_or or_false and_self L2.NZ".splitOn " ").toArray.mapM fun s=>`(Lean.Parser.Tactic.simpLemma| $(nm s):ident)
 let as:Lean.TSyntaxArray [`Lean.Parser.Tactic.simpStar,`Lean.Parser.Tactic.simpErase,`Lean.Parser.Tactic.simpLemma]:=(ds++us).map fun x=>⟨x.raw⟩
 `(tactic| simp -dsimp only [$as,*])
local macro_rules | `(tactic| walk_at "o") => `(tactic| repeat (refine And.intro (by first | omega | exact ⟨by omega, by omega⟩ | decide) ?_))
section
open PySem PySem.Spec PyProof.Rows
namespace L2.Q.Ug
def small(h:n<=10000):n<=bq:=iS h (by decide)
def HJ(h:n<=10000):n<bq:=Pj h (by decide)
def isLet(c:Nat):Bool:=decide (97<=c/\c<=122)
abbrev abc:Str := "abcdefghijklmnopqrstuvwxyz"
def uK:sg abc=(List.range 26).map (97 + ·):=by decide +kernel
def Gj(h0:0<=i)(h1:i<26):∃ c,gy (sg abc) i=some c/\isLet c=true:=by
 refine⟨97+i.toNat,?_,?_⟩
 ·have:gy (sg abc) i.toNat=some (97+i.toNat):=PQ (by
   rw[uK];have:i.toNat<26:=by lia
   simp[this])
  rwa[CC h0] at this
 ·simp[isLet];lia
def yz(x:Int):∃ c,gy (sg abc) (x % 26)=some c/\isLet c=true:=Gj (CF _ (by decide)) (CD _ (by decide))
def lets(x:Str):Prop:=∀ c∈sg x,isLet c=true
def Open(x:Str):Prop:=1<=x.length/\x.length<=6/\lets x
def B1 (x:Str):Prop:=x = "*"\/Open x
def nU(hx:lets x)(hy:lets y):lets (x++y):=λc hc=>by rw[Cg] at hc;exact(dP.mp hc).elim (hx c) (hy c)
def jh(h:isLet c=true):lets ⟨#[c]⟩:=λd hd=>by
 have:d=c:=by simpa[sg] using hd
 rw[this];exact h
def Aj(h:lets x)(lo hi:Option Int):lets (vx x lo hi):=λc hc=>by exact h c (UE (Rv hc))
def aQ(c:Nat):(⟨#[c]⟩:Str).length=1:=rfl
def B1.ok(h:B1 x):PyData.strOk x=true:=by
 rw[Gb];rcases h with rfl|h
 ·have:sg "*" = [42]:=by decide +kernel
  intro c hc;rw[this] at hc;have:c=42:=by simpa using hc
  lia
 ·intro c hc;have:=h.2.2 c hc;simp[isLet] at this;lia
abbrev aI:=Int × Str × Int
def eI(s:aI):List Key:=[.inl s.1,.inr s.2.1,.inl s.2.2]
def cx(s:aI):D:=.tup [.int s.1,.str s.2.1,.int s.2.2]
def mD(many:Int)(steps:List aI):D:=.tup [.int many,.list (steps.map cx)]
theorem bN:∀ (l:List aI),eP (l.map cx)=true
 |[]=>rfl
 |x :: l=>by simp[eP,bN l,cx,D.flat]
def B3(many:Int)(s:aI):Prop:=0<=s.1/\s.1<many/\B1 s.2.1/\0<=s.2.2/\s.2.2<many
def Bu(n:Nat)(h:B3 many s):dS (n+1) (cx s)=true:=by have:=h.2.2.1.ok;simp[dS,cx,this]
def su{many:Int}{l:List aI}(n:Nat)(h:∀ s∈l,B3 many s):dS (n+2) (.list (l.map cx))=true:=by simp only[dS,RN,Nc];intro s hs;exact Bu n (h s hs)
theorem rP:∀ (l:List aI),vF (l.map cx)=true
 |[]=>rfl
 |x :: l=>by simp[vF,rP l,cx,D.nb]
def W8(many:Int)(l:List aI):(mD many l).nb=true:=by simp[mD,D.nb,vF,rP]
def eq_self(h:x.nb=true):ja x x=true:=(jY x x h h).mpr rfl
def Ah(h:cx s=cx t):s=t:=by obtain⟨a,b,c⟩:=s;obtain⟨a',b',c'⟩:=t;simp[cx] at h;obtain⟨rfl,rfl,rfl⟩:=h;rfl
theorem ug:∀ {l m:List aI},l.map cx=m.map cx->l=m
 |[],[],_=>rfl
 |[],_ :: _,h=>by simp at h
 |_ :: _,[],h=>by simp at h
 |x :: l,y :: m,h=>by simp only[fS,List.cons.injEq] at h;rw[Ah h.1,ug h.2]
def gO(h:eI s=eI t):s=t:=by obtain⟨a,b,c⟩:=s;obtain⟨a',b',c'⟩:=t;obtain⟨rfl,rfl,rfl⟩:=h;rfl
def cp(s t:aI):Bool:=fA (eI s) (eI t)
theorem iw{P:aI->Prop}:∀ {ks:List (List Key)},(∀ k∈ks,∃ s,k=eI s/\P s)->∃ l:List aI,ks=l.map eI/\∀ s∈l,P s
 |[],_=>⟨[],rfl,λs h=>nomatch h⟩
 |k :: ks,h=>by
  obtain⟨s,rfl,p⟩:=h k cy;obtain⟨l,rfl,q⟩:=iw λk hk=>h k (c9 _ hk);refine⟨s :: l,rfl,λt ht=>?_⟩;rcases eK.mp ht with rfl|ht
  ·exact p
  ·exact q t ht
abbrev Kn:=List (List Key × D)
def oi(P:aI->Prop)(kvs:Kn):Prop:=(∀ p∈kvs,∃ s,p.1=eI s/\P s)/\(kvs.map (·.1)).Nodup
def yX{κ β:Type}[DecidableEq κ](kvs:List (κ × β))(k:κ)(v:β):(gX kvs k v).map (·.1)=if k∈kvs.map (·.1) then kvs.map (·.1) else kvs.map (·.1)++[k]:=by
 unfold gX;by_cases h:k∈kvs.map (·.1)
 ·have:(kvs.any λkv=>decide (kv.1=k))=true:=by obtain⟨p,hp,e⟩:=bT.mp h;exact RD.mpr ⟨p,hp,decide_eq_true e⟩
  rw[if_pos this,if_pos h,fF];apply Fm;intro p _;show(if p.1=k then (p.1,v) else p).1=p.1;split<;>rfl
 ·have:¬ (kvs.any λkv=>decide (kv.1=k))=true:=by intro z;obtain⟨p,hp,e⟩:=RD.mp z;exact h (bT.mpr ⟨p,hp,of_decide_eq_true e⟩)
  rw[if_neg this,if_neg h,qB];rfl
def oi.put{P:aI->Prop}(h:oi P kvs)(hs:P s):oi P (gX kvs (eI s) d):=by
 refine⟨λp hp=>?_,?_⟩
 ·rcases jf hp with e|e
  ·exact⟨s,e,hs⟩
  ·obtain⟨q,hq,e⟩:=bT.mp e;rw[<- e];exact h.1 q hq
 ·rw[yX];split
  ·exact h.2
  ·rename_i hn;exact hX.mpr ⟨h.2,by simp,λa ha b hb e=>by
    have:b=eI s:=by simpa using hb
    subst this;subst e;exact hn ha⟩
def oi.nil{P:aI->Prop}:oi P []:=⟨(λp hp=>nomatch hp),oy⟩
def oi.sorted{P:aI->Prop}(h:oi P kvs)(k:∀ steps:List aI,(steps.map eI).Perm (kvs.map (·.1))->(∀ s∈steps,P s)->steps.Pairwise (λa b=>cp a b=true)->steps.length=kvs.length->Q (.ow true) (.list (steps.map cx))) :
  pR (.ow true) (.list (kvs.map λkv=>.tup (kv.1.map kM))) Q:=by
 refine⟨kvs.map (·.1),[false,true],by rw[fF];rfl,λk hk=>?_,λms pm pw=>?_⟩
 ·obtain⟨p,hp,rfl⟩:=bT.mp hk;obtain⟨s,e,_⟩:=h.1 p hp;rw[e];rfl
 ·obtain⟨l,rfl,hl⟩:=iw λk hk=>by obtain⟨p,hp,e⟩:=bT.mp (pm.mem_iff.mp hk);rw[<- e];exact h.1 p hp
  have e:(l.map eI).map kg=l.map cx:=by rw[fF];rfl
  rw[e];refine k l pm hl ?_ (by have:=pm.length_eq;simpa using this);have nd:(l.map eI).Nodup:=pm.nodup_iff.mpr h.2;rw[iP] at pw;have Mb:l.Pairwise λa b=>eI a≠eI b:=by rw[List.Nodup,iP] at nd;exact nd
  refine(pw.and Mb).imp λ{a b} ⟨h1,h2⟩=>?_;unfold cp
  cases h3:fA (eI a) (eI b) with
  |true=>rfl
  |false=>exact absurd (iB (a:=eI a) (b:=eI b) rfl h3 h1) h2
theorem jW:∀ (l:List Int),eP (l.map D.int)=true
 |[]=>rfl
 |x :: l=>by simp[eP,jW l,D.flat]
def jB{lo:Int}(h:(qd lo n)[i]? = some x):i<n/\x=.int (lo+(i:Nat)):=by
 unfold qd at h;rw[nh] at h;by_cases hi:i<n
 ·rw[List.getElem?_range hi] at h;exact⟨hi,(Option.some.inj h).symm⟩
 ·rw[wm (by simpa using hi)] at h;cases h
def mX(lo:Int)(n:Nat):(qd lo n).length=n:=by simp[qd]
def Fo{names:List Str}{i:Int}(h0:0<=i)(h1:i<names.length):∃ n,n∈names/\gy (names.map D.str) i=some (.str n):=by
 have hn:i.toNat<names.length:=by lia
 refine⟨names[i.toNat],wo hn,?_⟩;have:=PQ (xs:=names.map D.str) (j:=i.toNat) (v:=.str names[i.toNat]) (by simp[hn]);rwa[CC h0] at this
def name_mod{names:List Str}(x:Int)(h:1<=names.length):∃ n,n∈names/\gy (names.map D.str) (x % (names.length:Int))=some (.str n) :=
 Fo (CF _ (by lia)) (CD _ (by lia))
theorem aD{α:Type}[DecidableEq α]:∀ {l m:List α},l.Nodup->(∀ x∈l,x∈m)->l.length<=m.length
 |[],_,_,_=>fI _
 |x :: l,m,nd,h=>by obtain⟨hx,nd⟩:=kA.mp nd;have hm:=h x cy;have:=aD nd λy hy=>(List.mem_erase_of_ne (λe=>by subst e;exact hx hy)).mpr (h y (c9 _ hy));rw[List.length_erase_of_mem hm] at this;have:=UB hm;simp only[pd];lia
def b8(n:Nat):List Int:=(List.range n).map λi=>((i:Nat):Int)
def bK(n:Nat):(b8 n).length=n:=by simp[b8]
def bu:x∈b8 n↔0<=x/\x<n:=by
 unfold b8;rw[bT];constructor
 ·rintro⟨i,hi,rfl⟩;have:=ox.mp hi;lia
 ·intro ⟨h0,h1⟩;exact⟨x.toNat,ox.mpr (by lia),by lia⟩
theorem xm:∀ {l m:List Int},l.Pairwise (· < ·)->m.Pairwise (· < ·)->(∀ x,x∈l↔x∈m)->l=m
 |[],[],_,_,_=>rfl
 |[],y :: m,_,_,h=>absurd ((h y).mpr cy) (by simp)
 |x :: l,[],_,_,h=>absurd ((h x).mp cy) (by simp)
 |x :: l,y :: m,hl,hm,h=>by
  obtain⟨a1,a2⟩:=Rx.mp hl;obtain⟨b1,b2⟩:=Rx.mp hm;have e:x=y:=by
   rcases eK.mp ((h x).mp cy) with e|e
   ·exact e
   ·rcases eK.mp ((h y).mpr cy) with e'|e'
    ·exact e'.symm
    ·have:=b1 x e;have:=a1 y e';lia
  subst e;rw[xm a2 b2 λz=>⟨λhz=>by
   rcases eK.mp ((h z).mp (c9 _ hz)) with e|e
   ·subst e;exact absurd (a1 z hz) (by lia)
   ·exact e,λhz=>by
   rcases eK.mp ((h z).mpr (c9 _ hz)) with e|e
   ·subst e;exact absurd (b1 z hz) (by lia)
   ·exact e⟩]
def jo{l:List Int}(h:l.Pairwise (· < ·)):l.Nodup:=h.imp λh=>by lia
def cq(many:Int)(steps:List aI):Prop:=∀ s∈steps,B3 many s
def y6(ks:List Int):List (Key × D):=ks.map λx=>(.inl x,.bl true)
def gq(ks:List Int):(y6 ks).map (·.1)=ks.map λx=>(Sum.inl x:Key):=by simp[y6,fF,Function.comp_def]
def nR(ks:List Int):(y6 ks).length=ks.length:=by simp[y6]
def bC{ks:List Int}{x:Int}:((Sum.inl x:Key)∈ks.map λx=>(Sum.inl x:Key))↔x∈ks:=by rw[bT];exact⟨λ⟨y,hy,e⟩=>by cases e;exact hy,λh=>⟨x,h,rfl⟩⟩
def insI(ks:List Int)(x:Int):List Int:=if x∈ks then ks else ks++[x]
def iz{κ β:Type}[DecidableEq κ]{kvs:List (κ × β)}{k:κ}:(kvs.any λkv=>decide (kv.1=k))=true↔k∈kvs.map (·.1):=by rw[RD,bT];exact⟨λ⟨p,hp,e⟩=>⟨p,hp,of_decide_eq_true e⟩,λ⟨p,hp,e⟩=>⟨p,hp,decide_eq_true e⟩⟩
def D_(ks:List Int)(x:Int):gX (y6 ks) (.inl x) (.bl true)=y6 (insI ks x):=by
 unfold gX insI;by_cases h:x∈ks
 ·rw[if_pos h,if_pos (iz.mpr (by rw[gq];exact bC.mpr h))];unfold y6;rw[fF];apply Fm;intro y _;show(if (Sum.inl y:Key)=Sum.inl x then ((Sum.inl y:Key),D.bl true) else (.inl y,.bl true))=_;split<;>rfl
 ·rw[if_neg h,if_neg (λz=>h (bC.mp (by rw[<- gq];exact iz.mp z)))];simp[y6]
theorem dF{κ β:Type}[DecidableEq κ]:∀ {kvs:List (κ × β)} {k:κ},(dE kvs k).isSome=true↔k∈kvs.map (·.1)
 |[],k=>by simp[dE]
 |p :: kvs,k=>by
  have ih:=dF (kvs:=kvs) (k:=k);rw[fS,eK];by_cases h:p.1=k
  ·subst h;simp[dE]
  ·have:dE (p :: kvs) k=dE kvs k:=by simp[dE,h]
   rw[this,ih];exact⟨.inr,λz=>z.elim (λe=>absurd e.symm h) id⟩
def get_set(ks:List Int)(x:Int):(dE (y6 ks) (.inl x)).isSome=decide (x∈ks):=by rw[sT,dF,gq,bC,decide_eq_true_iff]
def uE:y∈insI ks x↔y∈ks\/y=x:=by
 unfold insI;split
 ·rename_i h;exact⟨.inl,λz=>z.elim id λe=>by subst e;exact h⟩
 ·simp
def vR(h:ks.Nodup):(insI ks x).Nodup:=by
 unfold insI;split
 ·exact h
 ·rename_i hx;exact hX.mpr ⟨h,by simp,λa ha b hb e=>by
   have:b=x:=by simpa using hb
   subst this;subst e;exact hx ha⟩
inductive Reach(steps:List aI):Int->Prop
 |zero:Reach steps 0
 |step {s:aI}:Reach steps s.1->s∈steps->Reach steps s.2.2
def Reach.lt(h:cq many steps)(hm:1<=many)(r:Reach steps x):0<=x/\x<many:=by
 cases r with
 |zero=>lia
 |step r hs=>exact⟨(h _ hs).2.2.2.1,(h _ hs).2.2.2.2⟩
def sC(ms:List Int):List (Key × D):=ms.mapIdx λk x=>(.inl x,.int k)
def p8(ms:List Int):(sC ms).map (·.1)=ms.map λx=>(Sum.inl x:Key):=by apply D5;intro i;simp[sC,UG];cases ms[i]?<;>rfl
def wj(ms:List Int)(x:Int):sC (ms++[x])=sC ms++[(.inl x,.int ms.length)]:=by simp[sC,List.mapIdx_append]
def CV{ms:List Int}{x:Int}(h:x∉ms):gX (sC ms) (.inl x) (.int ms.length)=sC (ms++[x]):=by unfold gX;rw[if_neg (λz=>h (bC.mp (by rw[<- p8];exact iz.mp z))),wj]
def zB(ms:List Int):(sC ms).length=ms.length:=by simp[sC]
def y8(ms:List Int)(x:Int):Int:=(ms.idxOf x:Nat)
theorem xZ:∀ (l ms:List Int) {x:Int},x∈ms->(l++ms).Nodup->dE (ms.mapIdx λk y=>((Sum.inl y:Key),D.int ((l.length+k:Nat):Int))) (.inl x)=some (.int ((l.length+ms.idxOf x:Nat):Int))
 |_,[],_,h,_=>nomatch h
 |l,y :: ms,x,h,nd=>by
  rw[List.mapIdx_cons];by_cases e:y=x
  ·subst e;simp[dE]
  ·have hx:x∈ms:=by
    rcases eK.mp h with z|z
    ·exact absurd z.symm e
    ·exact z
   have ih:=xZ (l++[y]) ms hx (by simpa using nd);have:∀ (v:D) r,dE (((Sum.inl y:Key),v) :: r) (.inl x)=dE r (.inl x):=λv r=>by simp[dE,e]
   rw[this];rw[List.idxOf_cons];have hb:(y == x)=false:=by simpa using e
   rw[hb];simp only[cond_false];simp only[kz,Fh] at ih;rw[show(λk y'=>((Sum.inl y':Key),D.int ((l.length+(k+1):Nat):Int)))=λk y'=>((Sum.inl y':Key),D.int ((l.length+1+k:Nat):Int)) by funext k y';rw[show l.length+(k+1)=l.length+1+k by lia]];rw[ih];rw[show l.length+1+ms.idxOf x=l.length+(ms.idxOf x+1) by lia]
def HF(h:x∈ms)(nd:ms.Nodup):dE (sC ms) (.inl x)=some (.int (y8 ms x)):=by have:=xZ [] ms h (by simpa using nd);simpa[sC,y8] using this
def wF(ms:List Int)(x:Int):(dE (sC ms) (.inl x)).isSome=decide (x∈ms):=by rw[sT,dF,p8,bC,decide_eq_true_iff]
structure Met(steps:List aI)(ms:List Int):Prop where
 up:ms.Pairwise (· < ·)
 mem:∀ x,x∈ms↔Reach steps x
def Met.to(a:Met steps ms)(hs:s∈steps)(h:s.1∈ms):s.2.2∈ms:=(a.mem _).mpr (.step ((a.mem _).mp h) hs)
def Met.zero(a:Met steps ms):0∈ms:=(a.mem 0).mpr .zero
def Met.len{many:Int}{steps:List aI}{ms:List Int}(a:Met steps ms)(h:cq many steps)(hm:1<=many):1<=ms.length/\(ms.length:Int)<=many:=by
 refine⟨UB a.zero,?_⟩;have:=aD (m:=b8 many.toNat) (jo a.up) λx hx=>by have:=((a.mem x).mp hx).lt h hm;exact bu.mpr (by lia)
 rw[bK] at this;lia
def GQ(h:x∈ms):0<=y8 ms x/\y8 ms x<ms.length:=by have:=List.idxOf_lt_length_of_mem h;unfold y8;lia
def Ew{ms:List Int}(nd:ms.Nodup){k:Nat}(hk:k<ms.length):y8 ms ms[k]=k:=by unfold y8;rw[nd.idxOf_getElem k hk]
inductive jv(l:List aI)(s:Int):Int->Prop
 |refl:jv l s s
 |step {t:aI}:jv l s t.1->t∈l->t.2.1 = "*"->jv l s t.2.2
structure OY(l:List aI)(s:Int)(xs:List Int):Prop where
 up:xs.Pairwise (· < ·)
 mem:∀ x,x∈xs↔jv l s x
def jv.lt(h:cq many l)(hs:0<=s/\s<many)(r:jv l s x):0<=x/\x<many:=by
 cases r with
 |refl=>exact hs
 |step r ht _=>exact(h _ ht).2.2.2
def Ei {l:List aI} {s:Int} {ks:List Int} (z:s∈ks) (h:∀ t∈l,t.2.1 = "*"->t.1∈ks->t.2.2∈ks) {x:Int} (r:jv l s x):x∈ks:=by
 induction r with
 |refl=>exact z
 |step r ht e ih=>exact h _ ht e ih
def BX{many:Int}{ks:List Int}(nd:ks.Nodup)(h:∀ x∈ks,0<=x/\x<many):ks.length<=many.toNat:=by have:=aD (m:=b8 many.toNat) nd λx hx=>bu.mpr (by have:=h x hx;lia);rwa[bK] at this
def cR(l:List aI)(s:Int)(d:Str):List Int:=(l.filter λt=>decide (t.1=s) && decide (t.2.1=d)).map (·.2.2)
def tV:x∈cR l s d↔(s,d,x)∈l:=by
 unfold cR;rw[bT];constructor
 ·rintro⟨⟨p,q,r⟩,ht,rfl⟩;obtain⟨h1,e⟩:=ot.mp ht;simp only[mw,decide_eq_true_eq] at e;rw[<- e.1,<- e.2];exact h1
 ·exact λh=>⟨_,ot.mpr ⟨h,by simp⟩,rfl⟩
def zF(l:List aI)(s:Int)(d:Str):(cR l s d).length<=l.length:=by unfold cR;rw[b9];exact Pa _ _
def DU(l:List aI)(kvs:Kn):Prop:=∀ s d,dE kvs [.inl s,.inr d]=if cR l s d=[] then none else some (.list ((cR l s d).map .int))
def sZ(k k':List Key)(x:D):∀ (kvs:Kn),dE (mP kvs k x) k'=if k'=k then some (match dE kvs k with
  |none=>.list [x]
  |some d=>Q5 d x) else dE kvs k'
 |[]=>by
  rw[mP,a_];by_cases h:k'=k
  ·rw[if_pos h.symm,if_pos h];rfl
  ·rw[if_neg λe=>h e.symm,if_neg h]
 |p :: r=>by
  rw[mP];by_cases e:p.1=k
  ·rw[if_pos e,a_];by_cases h:k'=k
   ·rw[if_pos h,h,a_ p r k,if_pos e,if_pos e]
   ·rw[if_neg h,a_ p r k',if_neg λz=>h (z.symm.trans e),if_neg λz=>h (z.symm.trans e)]
  ·rw[if_neg e,a_,sZ k k' x r];by_cases h:k'=k
   ·rw[if_pos h,h,a_ p r k,if_neg e,if_neg e,if_pos rfl]
   ·rw[if_neg h,a_ p r k',if_neg h]
theorem yU(k:List Key)(x:D):∀ (kvs:Kn),(mP kvs k x).length<=kvs.length+1
 |[]=>by simp[mP]
 |p :: r=>by have:=yU k x r;rw[mP];split<;>simp only[pd]<;>lia
def DU.nil:DU [] []:=λs d=>rfl
def DU.put(h:DU l kvs)(p:Int)(n:Str)(r:Int):DU (l++[(p,n,r)]) (mP kvs [.inl p,.inr n] (.int r)):=by
 intro s d;rw[sZ];have ee:cR (l++[(p,n,r)]) s d=cR l s d++if p=s/\n=d then [r] else []:=by
  unfold cR;rw[List.filter_append,qB];congr 1;by_cases e:p=s/\n=d
  ·simp[e.1,e.2]
  ·rw[if_neg e,List.filter_cons_of_neg (by simpa using e)];rfl
 by_cases e:p=s/\n=d
 ·rw[if_pos e] at ee;obtain⟨rfl,rfl⟩:=e;rw[ee,if_pos rfl,h p n,if_neg (show ¬ cR l p n++[r]=[] by simp)];by_cases z:cR l p n=[]
  ·rw[if_pos z,z];rfl
  ·rw[if_neg z];simp[Q5]
 ·rw[if_neg e,sP] at ee;rw[ee,if_neg λz=>e ?_,h s d];simp only[List.cons.injEq,Sum.inl.injEq,Sum.inr.injEq,and_true] at z;exact⟨z.1.symm,z.2.symm⟩
def Ay(h:DU l kvs)(q:Q .sh (.list ((cR l s d).map .int))):L7 (dE kvs [.inl s,.inr d]) .sh .sh (.list []) Q:=by
 rw[h s d];by_cases z:cR l s d=[]
 ·rw[if_pos z];rw[z] at q;exact q
 ·rw[if_neg z];exact q
def xG{steps:List aI}{i:Nat}{x:D}(h:(steps.map cx)[i]? = some x):∃ p d r,x=.tup [.int p,.str d,.int r]/\(p,d,r)∈steps/\steps.take (i+1)=steps.take i++[(p,d,r)]:=by
 rw[nh] at h
 cases e:steps[i]? with
 |none=>rw[e] at h;cases h
 |some s =>rw[e] at h;cases h;obtain⟨p,d,r⟩:=s;exact⟨p,d,r,rfl,ly e,by rw[zv,e];rfl⟩
def int_at{l:List Int}{i:Nat}{x:D}(h:(l.map D.int)[i]? = some x):∃ c,x=.int c/\c∈l/\l.take (i+1)=l.take i++[c]:=by
 rw[nh] at h
 cases e:l[i]? with
 |none=>rw[e] at h;cases h
 |some s =>rw[e] at h;cases h;exact⟨s,rfl,ly e,by rw[zv,e];rfl⟩
def sort_keys{l:List aI}{s:Int}{ks:List Int}{kd:List (Key × D)}(ek:kd.map (·.1)=ks.map λx=>(Sum.inl x:Key))(nk:ks.Nodup)(mk:∀ x,x∈ks↔jv l s x){Q:Md->D->Prop}(k:∀ xs,OY l s xs->Q (.ow true) (.list (xs.map .int))):o7 .bo (.dK kd) Q:=by
 refine⟨true,λp hp=>?_,λms pm pw=>?_⟩
 ·have:p.1∈kd.map (·.1):=List.mem_map_of_mem hp;rw[ek] at this;obtain⟨x,_,e⟩:=bT.mp this;rw[<- e];rfl
 ·rw[ek] at pm;obtain⟨xs,rfl⟩:∃ xs:List Int,ms=xs.map λx=>(Sum.inl x:Key):=by
   have hm:∀ k∈ms,∃ x:Int,k=Sum.inl x:=λk hk=>by obtain⟨x,_,rfl⟩:=bT.mp (pm.mem_iff.mp hk);exact⟨x,rfl⟩
   clear pm pw
   induction ms with
   |nil=>exact⟨[],rfl⟩
   |cons k ms ih =>obtain⟨l,rfl⟩:=ih λj hj=>hm j (c9 _ hj);obtain⟨x,rfl⟩:=hm k cy;exact⟨x :: l,rfl⟩
  have e:(xs.map λx=>(Sum.inl x:Key)).map kM=xs.map D.int:=by rw[fF];rfl
  rw[e];have mem:∀ x,x∈xs↔x∈ks:=λx=>by rw[<- bC,<- bC];exact pm.mem_iff
  have nd:xs.Nodup:=by
   have:(xs.map λx=>(Sum.inl x:Key)).Nodup:=pm.nodup_iff.mpr (by
    unfold List.Nodup at *
    rw[iP];exact nk.imp λh e=>h (Sum.inl.inj e))
   unfold List.Nodup at *
   rw[iP] at this;exact this.imp λh e=>h (by rw[e])
  refine k xs ⟨?_,λx=>(mem x).trans (mk x)⟩;rw[iP] at pw;refine(pw.and nd).imp λ{a b} ⟨h1,h2⟩=>?_;have h1:¬ b<a:=by simpa[k7] using h1
  lia
def jv.trans(h:jv l a b)(g:jv l b c):jv l a c:=by
 induction g with
 |refl=>exact h
 |step _ ht e ih=>exact .step ih ht e
def Es (l:List aI) (t:aI):Prop:=(t.2.1 = "*"/\jv l t.1 t.2.2)\/(t.2.1 ≠ "*"/\∃ a b,jv l t.1 a/\(a,t.2.1,b)∈l/\jv l b t.2.2)
structure hJ(many:Int)(l out:List aI):Prop where
 up:out.Pairwise fun a b=>cp a b=true
 mem:∀ t,t∈out↔(0<=t.1/\t.1<many)/\Es l t
def zX{l m:List aI}(hl:l.Pairwise λa b=>cp a b=true)(hm:m.Pairwise λa b=>cp a b=true)(h:∀ t,t∈l↔t∈m):l=m:=by
 have nd:∀ {l:List aI},l.Pairwise (λa b=>cp a b=true)->l.Nodup:=λh=>h.imp λ{a b} z e=>by subst e;unfold cp at z;rw[cY] at z;cases z
 have pm:=(List.perm_ext_iff_of_nodup (nd hl) (nd hm)).mpr h;refine pm.eq_of_pairwise (λa b _ _ h1 h2=>?_) hl hm;have:=jq h1 h2;rw[cY] at this;cases this
def hJ.uniq{many:Int}{l a b:List aI}(h:hJ many l a)(g:hJ many l b):a=b:=zX h.up g.up λt=>(h.mem t).trans (g.mem t).symm
def Es.in(aE:cq many l)(ht:0<=t.1/\t.1<many)(h:Es l t):B3 many t:=by
 rcases h with⟨e,r⟩|⟨e,a,b,r1,m,r2⟩
 ·have:=r.lt aE ht;exact⟨ht.1,ht.2,by rw[e];exact .inl rfl,this.1,this.2⟩
 ·have ok:=aE _ m;have:=r2.lt aE ok.2.2.2;exact⟨ht.1,ht.2,ok.2.2.1,this.1,this.2⟩
def hJ.in(h:hJ many l out)(aE:cq many l):cq many out:=λt ht=>((h.mem t).mp ht).2.in aE ((h.mem t).mp ht).1
def hJ.Uh(h:hJ many l out)(aE:cq many l)(hs:0<=s/\s<many):jv out s x↔jv l s x:=by
 constructor
 ·intro r
  induction r with
  |refl=>exact .refl
  |step _ ht e ih =>
   rcases ((h.mem _).mp ht).2 with⟨_,r⟩|⟨n,_⟩
   ·exact ih.trans r
   ·exact absurd e n
 ·intro r;exact .step (t:=(s, "*",x)) .refl ((h.mem _).mpr ⟨hs,.inl ⟨rfl,r⟩⟩) rfl
def hJ.again(h:hJ many l out)(aE:cq many l)(ht:0<=t.1/\t.1<many):Es out t↔Es l t:=by
 unfold Es;constructor
 ·rintro(⟨e,r⟩|⟨e,a,b,r1,m,r2⟩)
  ·exact .inl ⟨e,(h.Uh aE ht).mp r⟩
  ·have r1':=(h.Uh aE ht).mp r1;obtain⟨ha,es⟩:=(h.mem _).mp m;have ok:=h.in aE _ m;have r2':=(h.Uh aE ok.2.2.2).mp r2;rcases es with⟨e2,_⟩|⟨_,c,d,q1,m2,q2⟩
   ·exact absurd e2 e
   ·exact .inr ⟨e,c,d,r1'.trans q1,m2,q2.trans r2'⟩
 ·rintro(⟨e,r⟩|⟨e,a,b,r1,m,r2⟩)
  ·exact .inl ⟨e,(h.Uh aE ht).mpr r⟩
  ·refine .inr ⟨e,t.1,t.2.2,.refl,(h.mem _).mpr ⟨ht,.inr ⟨e,a,b,r1,m,r2⟩⟩,.refl⟩
def hJ.twice(h:hJ many l out)(aE:cq many l):hJ many out out:=⟨h.up,λt=>(h.mem t).trans ⟨λz=>⟨z.1,(h.again aE z.1).mpr z.2⟩,λz=>⟨z.1,(h.again aE z.1).mp z.2⟩⟩⟩
def pz(names:List Str)(l:List aI):Prop:=∀ t∈l,t.2.1∈names
def Es.nm (h:pz names l) (hz:("*" : Str)∈names) (e:Es l t):t.2.1∈names:=by
 rcases e with⟨e,_⟩|⟨_,a,b,_,m,_⟩
 ·rw[e];exact hz
 ·exact h (a,t.2.1,b) m
abbrev Pr:=Str × Int
abbrev Ky:=Int × List Pr
def pE(p:Pr):List Key:=[.inr p.1,.inl p.2]
def nV(p:Pr):D:=.tup [.str p.1,.int p.2]
def i7(k:Ky):D:=.tup [.int k.1,.list (k.2.map nV)]
def DV(r:List Int):D:=.list (r.map .int)
def t9(a b:Ky):Bool:=PySem.SeqAt.cp 3 (i7 a).py (i7 b).py
def v3(k:Ky):Prop:=∀ p∈k.2,PyData.strOk p.1=true
def yL(k:Ky):(i7 k).py=.tuple [.int k.1,.list (k.2.map L2.dC)]:=by show PyData.tuple [.int k.1,.list (n5 (k.2.map nV))]=_;rw[gU,fF];rfl
def v3.xC(h:v3 k):L2.xC (i7 k).py:=⟨k.1,k.2,yL k,h⟩
def nq(a:Ky)(h:v3 a):t9 a a=false:=L2.Uc.ag.sA _ h.xC
def GD(ha:v3 a)(hb:v3 b)(hc:v3 c):t9 a b=true->t9 b c=true->t9 a c=true:=L2.Uc.ag.tr _ _ _ ha.xC hb.xC hc.xC
def Fl(h:nV p=nV q):p=q:=by obtain⟨a,b⟩:=p;obtain⟨c,d⟩:=q;simp[nV] at h;rw[h.1,h.2]
def DK(h:pE p=pE q):p=q:=by obtain⟨a,b⟩:=p;obtain⟨c,d⟩:=q;simp[pE] at h;rw[h.1,h.2]
theorem map_inj{α β:Type}{f:α->β}(hf:∀ a b,f a=f b->a=b):∀ {l m:List α},l.map f=m.map f->l=m
 |[],[],_=>rfl
 |[],_ :: _,h=>by simp at h
 |_ :: _,[],h=>by simp at h
 |x :: l,y :: m,h=>by simp only[fS,List.cons.injEq] at h;rw[hf _ _ h.1,map_inj hf h.2]
def x_(h:i7 a=i7 b):a=b:=by simp only[i7,D.tup.injEq,List.cons.injEq,D.int.injEq,D.list.injEq] at h;exact Prod.ext h.1 (map_inj (λ_ _=>Fl) h.2.1)
theorem Bp:∀ l:List Pr,vF (l.map nV)=true
 |[]=>rfl
 |x :: l=>by simp[vF,Bp l,nV,D.nb]
def G4(k:Ky):(i7 k).nb=true:=by simp[i7,D.nb,vF,Bp]
def vp(a b:Ky):ja (i7 a) (i7 b)=decide (a=b):=by rw[sT,jY _ _ (G4 a) (G4 b),decide_eq_true_iff];exact⟨x_,λe=>by rw[e]⟩
def Fb(ha:v3 a)(hb:v3 b)(h1:t9 a b=false)(h2:t9 b a=false):a=b:=by
 have e:=L2.Uc.ag.ag _ _ ha.xC hb.xC h1 h2;have:ja (i7 a) (i7 b)=ja (i7 a) (i7 a):=by unfold ja;rw[e]
 rw[vp,vp] at this;simpa using this
def Ed(h:a.1<b.1):t9 a b=true:=by
 unfold t9;rw[yL,yL,PySem.SeqAt.cp,PySem.SeqAt.og];have:PyData.eqv (.int a.1) (.int b.1)=false:=by
  have:a.1≠b.1:=by lia
  simpa[PyData.eqv] using this
 rw[this,if_neg kG,PySem.SeqAt.cp];exact decide_eq_true h
def zZ(h:v3 k)(n:Nat):dS (n+3) (i7 k)=true:=by
 have:∀ p∈k.2.map nV,dS (n+1) p=true:=λd hd=>by obtain⟨p,hp,rfl⟩:=bT.mp hd;simp[nV,dS,h p hp]
 simp only[i7,dS,D6,List.all_nil,RX,Bool.true_and,Nc];exact this
def Ci{l:List Ky}(h:∀ k∈l,v3 k)(n:Nat):dS (n+4) (.list (l.map i7))=true:=by simp only[dS,RN,Nc];exact λk hk=>zZ (h k hk) n
def Jc(l:List Ky)(k:Ky):L5 (l.map i7) (i7 k)=decide (k∈l):=by
 unfold L5;rw[List.any_map,sT,RD,decide_eq_true_iff];constructor
 ·rintro⟨j,hj,e⟩;have e:ja (i7 j) (i7 k)=true:=e;rw[vp,decide_eq_true_iff] at e;rwa[<- e]
 ·exact λhk=>⟨k,hk,by show ja (i7 k) (i7 k)=true;rw[vp];exact decide_eq_true rfl⟩
theorem qW:∀ l:List Int,vF (l.map D.int)=true
 |[]=>rfl
 |x :: l=>by simp[vF,qW l,D.nb]
def JR(a b:List Int):ja (.list (a.map .int)) (.list (b.map .int))=decide (a=b):=by rw[sT,jY _ _ (by simp[D.nb,qW]) (by simp[D.nb,qW]),decide_eq_true_iff];refine⟨λh=>map_inj (λ_ _=>D.int.inj) (D.list.inj h),λe=>by rw[e]⟩
def xu(l:List Int)(n:Nat):dS (n+1) (.list (l.map .int))=true:=by simp[dS,RN]
theorem Q9{α β:Type}{f:β->α}{P:β->Prop}:∀ {ks:List α},(∀ k∈ks,∃ s,k=f s/\P s)->∃ l:List β,ks=l.map f/\∀ s∈l,P s
 |[],_=>⟨[],rfl,λs h=>nomatch h⟩
 |k :: ks,h=>by
  obtain⟨s,rfl,p⟩:=h k cy;obtain⟨l,rfl,q⟩:=Q9 λk hk=>h k (c9 _ hk);refine⟨s :: l,rfl,λt ht=>?_⟩;rcases eK.mp ht with rfl|ht
  ·exact p
  ·exact q t ht
theorem jg{α:Type}{lt:α->α->Prop}:∀ {l m:List α},(∀ a∈l,∀ b∈l,lt a b->lt b a->False)->l.Pairwise lt->m.Pairwise lt->(∀ x,x∈l↔x∈m)->l=m
 |[],[],_,_,_,_=>rfl
 |[],y :: m,_,_,_,h=>absurd ((h y).mpr cy) (by simp)
 |x :: l,[],_,_,_,h=>absurd ((h x).mp cy) (by simp)
 |x :: l,y :: m,as,hl,hm,h=>by
  obtain⟨a1,a2⟩:=Rx.mp hl;obtain⟨b1,b2⟩:=Rx.mp hm;have e:x=y:=by
   rcases eK.mp ((h x).mp cy) with e|e
   ·exact e
   ·rcases eK.mp ((h y).mpr cy) with e'|e'
    ·exact e'.symm
    ·exact(as x cy y (c9 _ e') (a1 y e') (b1 x e)).elim
  subst e;have sA:¬ lt x x:=λz=>as x cy x cy z z;rw[jg (λa ha b hb=>as a (c9 _ ha) b (c9 _ hb)) a2 b2 λz=>⟨λhz=>by
   rcases eK.mp ((h z).mp (c9 _ hz)) with e|e
   ·subst e;exact absurd (a1 z hz) sA
   ·exact e,λhz=>by
   rcases eK.mp ((h z).mpr (c9 _ hz)) with e|e
   ·subst e;exact absurd (b1 z hz) sA
   ·exact e⟩]
def rk(eL:List Int)(s:Int):Int:=eL.getD s.toNat 0
structure Mk(steps:List aI)(eL:List Int)(s:Int)(k:Ky):Prop where
 fst:k.1=rk eL s
 up:k.2.Pairwise fun a b=>fA (pE a) (pE b)=true
 mem:∀ p,p∈k.2↔∃ t∈steps,t.1=s/\p=(t.2.1,rk eL t.2.2)
def Mk.ok(a:Mk steps eL s k)(h:cq many steps):v3 k:=λp hp=>by obtain⟨t,ht,_,rfl⟩:=(a.mem p).mp hp;exact(h t ht).2.2.1.ok
structure B4(many:Int)(steps:List aI)(eL r:List Int)(ky:Int->Ky)(diff:List Ky):Prop where
 len:r.length=many.toNat
 key:∀ s,0<=s->s<many->Mk steps eL s (ky s)
 up:diff.Pairwise fun a b=>t9 a b=true
 mem:∀ k,k∈diff↔∃ s,(0<=s/\s<many)/\k=ky s
 pos:∀ s,0<=s->s<many->0<=rk r s/\diff[(rk r s).toNat]? = some (ky s)
def RB(many:Int)(steps:List aI)(eL r:List Int):Prop:=∃ ky diff,B4 many steps eL r ky diff
section
variable {many:Int}{steps:List aI}{eL r:List Int}{ky:Int->Ky}{diff:List Ky}
def B4.ok(h:B4 many steps eL r ky diff)(aE:cq many steps)(hk:k∈diff):v3 k:=by obtain⟨s,hs,rfl⟩:=(h.mem k).mp hk;exact(h.key s hs.1 hs.2).ok aE
def KJ(hl:l.length=many.toNat)(hm:m.length=many.toNat)(h:∀ s,0<=s->s<many->rk l s=rk m s):l=m:=by apply List.ext_getElem (by lia);intro i h1 h2;have:=h i (by lia) (by lia);unfold rk at this;simpa[List.getD,h1,h2] using this
def B4.inj(h:B4 many steps eL r ky diff)(aE:cq many steps){i j:Nat}{k:Ky}(hi:diff[i]? = some k)(hj:diff[j]? = some k):i=j:=by
 obtain⟨mr,k6⟩:=iN.mp hi;obtain⟨Oh,Q_⟩:=iN.mp hj;have hk:k∈diff:=ly hi;have sA:=nq k (h.ok aE hk);have pw:=xI.mp h.up;rcases Nat.lt_trichotomy i j with e|e|e
 ·have:=pw i j mr Oh e;rw[k6,Q_,sA] at this;cases this
 ·exact e
 ·have:=pw j i Oh mr e;rw[k6,Q_,sA] at this;cases this
def B4.xH(h:B4 many steps eL r ky diff)(hs:0<=s/\s<many)(ht:0<=t/\t<many)(e:rk r s=rk r t):ky s=ky t:=by have p1:=(h.pos s hs.1 hs.2).2;have p2:=(h.pos t ht.1 ht.2).2;rw[e,p2] at p1;exact(Option.some.inj p1).symm
def B4.lt(h:B4 many steps eL r ky diff)(aE:cq many steps)(hs:0<=s/\s<many)(ht:0<=t/\t<many):rk r s<rk r t↔t9 (ky s) (ky t)=true:=by
 have p1:=h.pos s hs.1 hs.2;have p2:=h.pos t ht.1 ht.2;have k1:=h.ok aE (ly p1.2);have k2:=h.ok aE (ly p2.2);obtain⟨a1,a2⟩:=iN.mp p1.2;obtain⟨b1,b2⟩:=iN.mp p2.2;have pw:=xI.mp h.up;constructor
 ·intro l;have:=pw _ _ a1 b1 (by lia);rwa[a2,b2] at this
 ·intro l;by_cases z:rk r t<rk r s
  ·have:=pw _ _ b1 a1 (by lia);rw[a2,b2] at this;have:=GD k1 k2 k1 l this;rw[nq _ k1] at this;cases this
  ·by_cases z2:rk r s=rk r t
   ·have:=h.xH hs ht z2;rw[this,nq _ k2] at l;cases l
   ·lia
def RB.mono(h:RB many steps eL r)(aE:cq many steps)(hs:0<=s/\s<many)(ht:0<=t/\t<many)(l:rk eL s<rk eL t):rk r s<rk r t:=by obtain⟨ky,diff,h⟩:=h;refine(h.lt aE hs ht).mpr (Ed ?_);rw[(h.key s hs.1 hs.2).fst,(h.key t ht.1 ht.2).fst];exact l
def RB.kc'(h:RB many steps eL r)(hs:0<=s/\s<many)(ht:0<=t/\t<many)(e:rk r s=rk r t):rk eL s=rk eL t:=by obtain⟨ky,diff,h⟩:=h;have:=h.xH hs ht e;rw[<- (h.key s hs.1 hs.2).fst,<- (h.key t ht.1 ht.2).fst,this]
def RB.OZ(h:RB many steps eL r)(aE:cq many steps)(ht:t∈steps)(hs:0<=s/\s<many)(e:rk r t.1=rk r s):∃ u∈steps,u.1=s/\u.2.1=t.2.1/\rk eL u.2.2=rk eL t.2.2:=by obtain⟨ky,diff,h⟩:=h;have hk:=h.xH ⟨(aE t ht).1,(aE t ht).2.1⟩ hs e;have hm:=((h.key t.1 (aE t ht).1 (aE t ht).2.1).mem (t.2.1,rk eL t.2.2)).mpr ⟨t,ht,rfl,rfl⟩;rw[hk] at hm;obtain⟨u,hu,e1,e2⟩:=((h.key s hs.1 hs.2).mem _).mp hm;exact⟨u,hu,e1,(Prod.mk.inj e2).1.symm,(Prod.mk.inj e2).2.symm⟩
def vA(many:Int)(r:List Int):Prop:=r.length=many.toNat/\(∀ s,0<=s->s<many->0<=rk r s/\rk r s<many)/\∀ s,0<=s->s<many->0<rk r s->∃ t,(0<=t/\t<many)/\rk r t=rk r s-1
def B4.short(h:B4 many steps eL r ky diff)(aE:cq many steps):diff.length<=many.toNat:=by
 have nd:diff.Nodup:=by rw[Rq];have:=xI.mp h.up;rw[xI];intro i j hi hj kf e;have z:=this i j hi hj kf;rw[e,nq _ (h.ok aE (wo hj))] at z;cases z
 have:=aD (m:=(b8 many.toNat).map ky) nd λk hk=>by obtain⟨s,hs,rfl⟩:=(h.mem k).mp hk;exact bT.mpr ⟨s,bu.mpr (by lia),rfl⟩
 rwa[b9,bK] at this
def RB.zx(h:RB many steps eL r)(aE:cq many steps):vA many r:=by
 obtain⟨ky,diff,h⟩:=h;have sh:=h.short aE;refine⟨h.len,λs a b=>?_,λs a b c=>?_⟩
 ·have p:=h.pos s a b;have:=(iN.mp p.2).1;lia
 ·have p:=h.pos s a b;have l:=(iN.mp p.2).1;have l2:(rk r s-1).toNat<diff.length:=by lia
  obtain⟨t,ht,e⟩:=(h.mem _).mp (wo l2);have p2:=h.pos t ht.1 ht.2;have:=h.inj aE p2.2 (iN.mpr ⟨l2,e⟩);exact⟨t,ht,by lia⟩
theorem RB.grows(h:RB many steps eL r)(aE:cq many steps)(d:vA many eL):∀ (n:Nat) (s:Int),0<=s->s<many->rk eL s=n->rk eL s<=rk r s
 |0,s,a,b,e=>by rw[e];exact((h.zx aE).2.1 s a b).1
 |n+1,s,a,b,e=>by obtain⟨t,ht,et⟩:=d.2.2 s a b (by lia);have:=RB.grows h aE d n t ht.1 ht.2 (by lia);have:=h.mono aE ht ⟨a,b⟩ (by lia);lia
def RB.le(h:RB many steps eL r)(aE:cq many steps)(d:vA many eL)(a:0<=s)(b:s<many):rk eL s<=rk r s :=
 h.grows aE d (rk eL s).toNat s a b (by have:=(d.2.1 s a b).1;lia)
end
theorem Bt:∀ {l m:List Int},l.length=m.length->(∀ (i:Nat) (h1:i<l.length) (h2:i<m.length),l[i]<=m[i])->l.sum<=m.sum/\(l≠m->l.sum<m.sum)
 |[],[],_,_=>⟨by simp,λh=>absurd rfl h⟩
 |[],y :: m,h,_=>by simp at h
 |x :: l,[],h,_=>by simp at h
 |x :: l,y :: m,h,hl=>by
  have ih:=Bt (by simpa using h) λi h1 h2=>by have:=hl (i+1) (by simp;lia) (by simp;lia);simpa using this
  have h0:x<=y:=by have:=hl 0 (by simp) (by simp);simpa using this
  simp only[List.sum_cons];refine⟨by have:=ih.1;lia,λne=>?_⟩;by_cases e:x=y
  ·subst e;have:l≠m:=λz=>ne (by rw[z]);have:=ih.2 this;lia
  ·have:=ih.1;lia
def sum_bound{l:List Int}{b:Int}(h:∀ x∈l,x<=b)(hb:0<=b):l.sum<=l.length*b:=by
 induction l with
 |nil=>simp
 |cons x l ih =>
  have:=ih λy hy=>h y (c9 _ hy);have:=h x cy;simp only[List.sum_cons,pd];have e:((l.length+1:Nat):Int)*b=l.length*b+b:=by rw[Int.natCast_add,Int.add_mul];simp
  lia
def Dc{r:List Int}{i:Nat}(h:i<r.length):r[i]=rk r i:=by simp[rk,List.getD,h]
def RB.sum{many:Int}{steps:List aI}{eL r:List Int}(h:RB many steps eL r)(aE:cq many steps)(d:vA many eL)(hm:0<=many)(ne:r≠eL):eL.sum<r.sum/\r.sum<=many*many:=by
 have d2:=h.zx aE;have hl:=d.1;have yb:=d2.1;refine⟨(Bt (by lia) λi h1 h2=>?_).2 λe=>ne e.symm,?_⟩
 ·rw[Dc h1,Dc h2];exact h.le aE d (by lia) (by lia)
 ·have:=sum_bound (l:=r) (λx hx=>by
   obtain⟨i,hi,rfl⟩:=Ru.mp hx;rw[Dc hi];have:=(d2.2.1 i (by lia) (by lia)).2;lia) hm
  rwa[yb,CC hm] at this
def Chain(many:Int)(steps:List aI):List Int->List (List Int)->Prop
 |cur,[]=>RB many steps cur cur
 |cur,mv :: rest=>RB many steps cur mv/\mv≠cur/\Chain many steps mv rest
def eZ(cur:List Int)(rest:List (List Int)):List Int:=(cur :: rest).getLast (by simp)
def uN(cur mv:List Int)(rest:List (List Int)):eZ cur (mv :: rest)=eZ mv rest:=by simp[eZ]
theorem Chain.last:∀ {cur:List Int} {rest:List (List Int)},Chain many steps cur rest->RB many steps (eZ cur rest) (eZ cur rest)
 |_,[],h=>h
 |cur,mv :: rest,h=>by rw[uN];exact h.2.2.last
def zeros(many:Int):List Int:=List.replicate many.toNat 0
def cW(many s:Int):rk (zeros many) s=0:=by
 unfold rk zeros;by_cases h:s.toNat<many.toNat
 ·simp[List.getD,h]
 ·rw[List.getD,wm (by simpa using h)];rfl
def rA(h:1<=many):vA many (zeros many) :=
 ⟨by simp[zeros],λs _ _=>by rw[cW];lia,λs _ _ z=>by rw[cW] at z;lia⟩
def Kinds(many:Int)(steps:List aI)(k:List Int):Prop:=∃ rest,Chain many steps (zeros many) rest/\k=eZ (zeros many) rest
def Kinds.ft(h:Kinds many steps k):RB many steps k k:=by obtain⟨a,ha,rfl⟩:=h;exact ha.last
def Kinds.len(h:Kinds many steps k):k.length=many.toNat:=by obtain⟨ky,diff,r⟩:=h.ft;exact r.len
def z7{ps:List Pr}(hl:ps.length<=1000)(k:∀ l:List Pr,l.Pairwise (λa b=>fA (pE a) (pE b)=true)->(∀ p,p∈l↔p∈ps)->Q (.ow true) (.list (l.map nV))) :
  d_ m (.list (ps.map nV)) Q:=by
 refine⟨ps.map pE,[true],by rw[fF];rfl,by rw[b9];exact hl,λk hk=>?_,λms nd mm pw=>?_⟩
 ·obtain⟨p,_,rfl⟩:=bT.mp hk;rfl
 ·obtain⟨l,rfl,hp⟩:=Q9 λk hk=>by obtain⟨p,hp,e⟩:=bT.mp ((mm k).mp hk);exact⟨p,e.symm,hp⟩
  have e:(l.map pE).map kg=l.map nV:=by rw[fF];rfl
  rw[e];refine k l ?_ λp=>⟨hp p,λfz=>?_⟩
  ·rw[iP] at pw;have Mb:l.Pairwise λa b=>pE a≠pE b:=by rw[List.Nodup,iP] at nd;exact nd
   refine(pw.and Mb).imp λ{a b} ⟨h1,h2⟩=>?_
   cases h3:fA (pE a) (pE b) with
   |true=>rfl
   |false=>exact absurd (iB (a:=pE a) (b:=pE b) rfl h3 h1) h2
  ·obtain⟨q,hq,e⟩:=bT.mp ((mm (pE p)).mpr (bT.mpr ⟨p,fz,rfl⟩));rw[<- DK e];exact hq
def oS(steps:List aI)(s:Int):List Pr:=(steps.filter λt=>decide (t.1=s)).map (·.2)
def qq(many:Int)(steps:List aI):List D:=(b8 many.toNat).map λs=>.list ((oS steps s).map nV)
def HL(many:Int)(steps:List aI):D:=.list (qq many steps)
def GK(many:Int):((qd 0 many.toNat).filter λ_=>true).map (λ_=>D.list [])=qq many []:=by unfold qq qd b8;rw[IE.mpr λ_ _=>rfl,fF,fF];rfl
def DR(steps:List aI)(h0:0<=s)(h1:s<many):(qq many steps)[s.toNat]? = some (.list ((oS steps s).map nV)):=by
 have:s.toNat<many.toNat:=by lia
 simp[qq,b8,this,CC h0]
def pZ(many:Int)(steps:List aI):(qq many steps).length=many.toNat:=by simp[qq,b8]
def qi{n:Nat}{i:Int}(h0:0<=i)(h1:i<n):oC n i=some i.toNat:=by unfold oC;rw[if_pos h0,if_pos h1]
def zj(steps:List aI)(p:Int)(d:Str)(r s:Int):oS (steps++[(p,d,r)]) s=if p=s then oS steps s++[(d,r)] else oS steps s:=by
 unfold oS;by_cases h:p=s
 ·simp[h]
 ·simp[h]
def Hm(steps:List aI)(d:Str)(r:Int)(h0:0<=p)(h1:p<many):(qq many steps).set p.toNat (.list ((oS steps p).map nV++[.tup [.str d,.int r]]))=qq many (steps++[(p,d,r)]):=by
 apply D5;intro i;by_cases hi:i<many.toNat
 ·have e:∀ st,(qq many st)[i]? = some (.list ((oS st i).map nV)):=λst=>by have:=DR (many:=many) (s:=i) st (by lia) (by lia);simpa using this
  rw[e,zj];by_cases hp:p=i
  ·subst hp;simp[pZ,hi,nV]
  ·rw[if_neg hp,Pb (by lia),e]
 ·rw[wm (by rw[List.length_set,pZ];lia),wm (by rw[pZ];lia)]
def GF{many s:Int}(steps:List aI)(h0:0<=s)(h1:s<many):gy (qq many steps) s=some (.list ((oS steps s).map nV)) :=
 rR (qi h0 (by rw[pZ];lia)) (DR steps h0 h1)
def vH{many s:Int}{r:List Int}(hl:r.length=many.toNat)(h0:0<=s)(h1:s<many):gy (r.map D.int) s=some (.int (rk r s)):=by
 have h:s.toNat<r.length:=by lia
 refine rR (qi h0 (by rw[b9];lia)) ?_;simp[rk,List.getD,h]
def qR(h:p∈oS steps s):∃ t∈steps,t.1=s/\t.2=p:=by obtain⟨t,ht,e⟩:=bT.mp h;obtain⟨ht,hs⟩:=ot.mp ht;exact⟨t,ht,of_decide_eq_true hs,e⟩
def wy(h:t∈steps):t.2∈oS steps t.1:=bT.mpr ⟨t,ot.mpr ⟨h,decide_eq_true rfl⟩,rfl⟩
def qZ(steps:List aI)(s:Int):(oS steps s).length<=steps.length:=by unfold oS;rw[b9];exact Pa _ _
def xT(many:Int):(List.replicate many.toNat [D.int 0]).flatten=(zeros many).map D.int:=by
 unfold zeros;generalize many.toNat=n
 induction n with
 |zero=>rfl
 |succ n ih=>rw[A2,A3,ih,A2];rfl
theorem Chain.at:∀ {cur:List Int} {rest:List (List Int)},Chain many steps cur rest->∀ (i:Nat) (a b:List Int),(cur :: rest)[i]? = some a->(cur :: rest)[i+1]? = some b->RB many steps a b/\b≠a
 |_,[],_,i,a,b,_,hb=>by simp at hb
 |cur,mv :: rest,h,0,a,b,ha,hb=>by cases ha;cases hb;exact⟨h.1,h.2.1⟩
 |cur,mv :: rest,h,i+1,a,b,ha,hb=>h.2.2.at i a b (by simpa using ha) (by simpa using hb)
def Chain.end{rest:List (List Int)}(h:Chain many steps cur rest)(ha:(cur :: rest)[rest.length]? = some a):RB many steps a a:=by have:=h.last;unfold eZ at this;rw[Uz] at this;have e:=(iN.mp ha).2;simp only[pd,Nat.add_sub_cancel] at this;rwa[e] at this
def RB.len(h:RB many steps eL r):r.length=many.toNat:=by obtain⟨ky,diff,h⟩:=h;exact h.len
abbrev P2:=Int × Int
def y9(many:Int)(p:P2):Prop:=(0<=p.1/\p.1<many)/\0<=p.2/\p.2<many
def Fwd(l:List aI)(ps:List P2)(p q:Int):Prop:=∀ d e,(p,d,e)∈l->∃ o,(q,d,o)∈l/\(e,o)∈ps
def Bwd(l:List aI)(ps:List P2)(p q:Int):Prop:=∀ d o,(q,d,o)∈l->∃ e,(p,d,e)∈l/\(e,o)∈ps
def W9(l:List aI)(ps:List P2)(p:P2):Prop:=Fwd l ps p.1 p.2/\Bwd l ps p.1 p.2
def onP(f:P2->Bool)(x:D):Bool:=match x with
 |.tup [.int a,.int b]=>f (a,b)
 |_=>false
def Dl{x y many:Int}(x0:0<=x)(x1:x<many)(y0:0<=y)(y1:y<many):(x*many+y) / many=x/\(x*many+y) % many=y/\0<=x*many+y/\x*many+y<many*many:=by
 have a:=R4 x0 (show 0<=many by lia);have b:=Int.mul_le_mul_of_nonneg_right (show x+1<=many by lia) (show 0<=many by lia);rw[Int.add_mul,Int.one_mul] at b;refine⟨?_,?_,by lia,by lia⟩
 ·rw[Int.add_comm,Int.add_mul_ediv_right _ _ (by lia),Int.ediv_eq_zero_of_lt y0 y1,Int.zero_add]
 ·rw[Int.add_comm,Int.add_mul_emod_self_right,Int.emod_eq_of_lt y0 y1]
def zV{many:Int}{n:Nat}{ps:List P2}(hn:(n:Int)=many*many)(h:∀ i:Nat,i<n->(((i:Int) / many,(i:Int) % many):P2)∈ps){x:P2}(hx:y9 many x):x∈ps:=by have d:=Dl hx.1.1 hx.1.2 hx.2.1 hx.2.2;have:=h (x.1*many+x.2).toNat (by lia);rw[CC d.2.2.1,d.1,d.2.1] at this;exact this
structure O0(l:List aI)(ps out:List P2):Prop where
 sub:∀ p∈out,p∈ps
 both:∀ p∈out,W9 l out p
 max:∀ T:List P2,(∀ p∈T,p∈ps)->(∀ p∈T,W9 l T p)->∀ p∈T,p∈out
 len:out.length<=ps.length
def O0.diag{ps out:List P2}(h:O0 l ps out)(aE:cq many l)(m1:1<=many)(all:∀ x,y9 many x->x∈ps):((0,0):P2)∈out:=by
 have hm:∀ k:Int,0<=k->k<many->((k,k):P2)∈(List.range many.toNat).map λi:Nat=>((i,i):P2):=λk a b=>bT.mpr ⟨k.toNat,ox.mpr (by lia),by rw[CC a]⟩;refine h.max _ (λp hp=>?_) (λp hp=>?_) _ (hm 0 (by lia) (by lia))
 ·obtain⟨i,hi,rfl⟩:=bT.mp hp;have:=ox.mp hi;exact all _ ⟨⟨by lia,by lia⟩,by lia,by lia⟩
 ·obtain⟨i,hi,rfl⟩:=bT.mp hp;exact⟨λd e he=>⟨e,he,hm e (aE _ he).2.2.2.1 (aE _ he).2.2.2.2⟩,λd o ho=>⟨o,ho,hm o (aE _ ho).2.2.2.1 (aE _ ho).2.2.2.2⟩⟩
def RB.iff(h:RB many steps eL r)(aE:cq many steps)(hs:0<=s/\s<many)(ht:0<=t/\t<many) :
  rk r s=rk r t↔rk eL s=rk eL t/\(∀ d e,(s,d,e)∈steps->∃ o,(t,d,o)∈steps/\rk eL e=rk eL o)/\∀ d o,(t,d,o)∈steps->∃ e,(s,d,e)∈steps/\rk eL e=rk eL o:=by
 constructor
 ·intro e;refine⟨h.kc' hs ht e,λd x hx=>?_,λd o ho=>?_⟩
  ·obtain⟨⟨a,b,c⟩,hu,e1,e2,e3⟩:=h.OZ aE hx ht e;cases e1;cases e2;exact⟨c,hu,e3.symm⟩
  ·obtain⟨⟨a,b,c⟩,hu,e1,e2,e3⟩:=h.OZ aE ho hs e.symm;cases e1;cases e2;exact⟨c,hu,e3⟩
 ·rintro⟨e0,f,b⟩;obtain⟨ky,diff,h⟩:=h;have ks:=h.key s hs.1 hs.2;have kt:=h.key t ht.1 ht.2;have e:ky s=ky t:=by
   refine Prod.ext (by rw[ks.fst,kt.fst,e0]) (jg (λx _ y _ h1 h2=>by have:=jq h1 h2;rw[cY] at this;cases this) ks.up kt.up λp=>?_);rw[ks.mem,kt.mem];constructor
   ·rintro⟨⟨a,d,e⟩,hu,rfl,rfl⟩;obtain⟨o,ho,m⟩:=f d e hu;exact⟨_,ho,rfl,by rw[m]⟩
   ·rintro⟨⟨a,d,o⟩,hu,rfl,rfl⟩;obtain⟨e,he,m⟩:=b d o hu;exact⟨_,he,rfl,by rw[m]⟩
  have p1:=h.pos s hs.1 hs.2;have p2:=h.pos t ht.1 ht.2;rw[<- e] at p2;have:=h.inj aE p1.2 p2.2;lia
structure Rds(many:Int)(steps:List aI)(rest:List (List Int))(f:Nat->List Int):Prop where
 zero:f 0=zeros many
 mv:∀ k,RB many steps (f k) (f (k+1))
 at':∀ k,k<=rest.length->(zeros many :: rest)[k]? = some (f k)
 ft:∀ k,rest.length<=k->f k=f rest.length
theorem Chain.sq:∀ {cur:List Int} {rest:List (List Int)},Chain many steps cur rest->∃ f:Nat->List Int,f 0=cur/\(∀ k,RB many steps (f k) (f (k+1)))/\(∀ k,k<=rest.length->(cur :: rest)[k]? = some (f k))/\∀ k,rest.length<=k->f k=f rest.length
 |cur,[],h=>⟨λ_=>cur,rfl,λ_=>h,λk hk=>by
   have:k=0:=Nat.le_zero.mp hk;subst this;rfl,λ_ _=>rfl⟩
 |cur,mv :: rest,h=>by
  obtain⟨f,f0,fn,fa,fs⟩:=h.2.2.sq;refine⟨λk=>Nat.casesOn k cur f,rfl,λk=>?_,λk hk=>?_,λk hk=>?_⟩
  ·cases k with
   |zero=>show RB many steps cur (f 0);rw[f0];exact h.1
   |succ k=>exact fn k
  ·cases k with
   |zero=>rfl
   |succ k=>exact fa k (Nat.le_of_succ_le_succ hk)
  ·cases k with
   |zero=>exact absurd hk (by simp)
   |succ k=>exact fs k (Nat.le_of_succ_le_succ hk)
def Chain.rds{rest:List (List Int)}(h:Chain many steps (zeros many) rest):∃ f,Rds many steps rest f:=by obtain⟨f,a,b,c,d⟩:=h.sq;exact⟨f,a,b,c,d⟩
def zW{κ β:Type}[DecidableEq κ](k k':κ)(d:β)(kvs:List (κ × β)):dE (gX kvs k d) k'=if k'=k then some d else dE kvs k':=by
 have cons:∀ (p:κ × β) r,dE (p :: r) k'=if p.1=k' then some p.2 else dE r k':=λp r=>by unfold dE;rw[II];by_cases e:p.1=k'<;>simp[e]
 have mp:∀ kvs:List (κ × β),dE (kvs.map λp=>if p.1=k then (p.1,d) else p) k'=if k'=k/\(dE kvs k').isSome then some d else dE kvs k':=by
  intro kvs
  induction kvs with
  |nil=>simp[dE]
  |cons p r ih =>
   rw[fS,cons,cons,ih];by_cases e:p.1=k
   ·by_cases e2:k=k'
    ·simp[e,e2]
    ·simp[e,e2]
   ·by_cases e2:p.1=k'
    ·subst e2;simp[e]
    ·simp[e,e2]
 have sn:∀ kvs:List (κ × β),dE (kvs++[(k,d)]) k'=(dE kvs k').or (if k=k' then some d else none):=by
  intro kvs
  induction kvs with
  |nil=>rw[RJ,cons];simp[dE]
  |cons p r ih =>rw[Rz,cons,cons,ih];by_cases e2:p.1=k'<;>simp[e2]
 unfold gX;by_cases h:(kvs.any λkv=>decide (kv.1=k))=true
 ·rw[if_pos h,mp];by_cases e:k'=k
  ·subst e;have:=dF.mpr (iz.mp h);simp[this]
  ·simp[e]
 ·rw[if_neg h,sn];by_cases e:k'=k
  ·subst e;have:dE kvs k'=none:=by
    cases z:dE kvs k' with
    |none=>rfl
    |some v=>exact absurd (iz.mpr (dF.mp (by rw[z];rfl))) h
   simp[this]
  ·have e2:¬ k=k':=λz=>e z.symm;simp[e,e2]
def z8(cur:List Int)(rest:List (List Int)):(cur :: rest)[rest.length]? = some (eZ cur rest):=by unfold eZ;rw[Uz];simp
def Kinds.rb(h:Kinds many l k):RB many l k k:=by obtain⟨rest,hc,rfl⟩:=h;exact hc.last
def Kinds.same{ps:List P2}(h:Kinds many l k)(aE:cq many l)(hi:∀ x∈ps,y9 many x)(hb:∀ x∈ps,W9 l ps x):∀ x∈ps,rk k x.1=rk k x.2:=by
 obtain⟨rest,hc,rfl⟩:=h;obtain⟨f,hf⟩:=hc.rds;have go:∀ i,∀ x∈ps,rk (f i) x.1=rk (f i) x.2:=λi=>by
  induction i with
  |zero=>intro x _;rw[hf.zero,cW,cW]
  |succ i ih =>
   intro x hx;have b:=hb x hx;refine((hf.mv i).iff aE (hi x hx).1 (hi x hx).2).mpr ⟨ih x hx,λd e he=>?_,λd o ho=>?_⟩
   ·obtain⟨o,ho,m⟩:=b.1 d e he;exact⟨o,ho,ih _ m⟩
   ·obtain⟨e,he,m⟩:=b.2 d o ho;exact⟨e,he,ih _ m⟩
 have e:=hf.at' rest.length (cw _);rw[z8] at e;rw[Option.some.inj e];exact go _
def dq(nums:List Int)(k:Int):Option Int:=if k∈nums then some (y8 nums k) else none
def numsOf(k0:Int)(gI:List Int):List Int:=k0 :: gI.filter λx=>decide (x≠k0)
def hm(hs:List (Option Int))(s:Int):Option Int:=hs.getD s.toNat none
structure jZ(many:Int)(steps:List aI)(kinds ms gI:List Int)(hs:List (Option Int)):Prop where
 wx:Kinds many steps kinds
 met:Met steps ms
 up:gI.Pairwise (· < ·)
 mem:∀ x,x∈gI↔∃ s∈ms,x=rk kinds s
 eq:hs=kinds.map (dq (numsOf (rk kinds 0) gI))
def aX(many:Int)(steps:List aI)(hs:List (Option Int)):Prop:=∃ kinds ms gI,jZ many steps kinds ms gI hs
def aX.len(h:aX many steps hs):hs.length=many.toNat:=by obtain⟨k,m,s,h⟩:=h;rw[h.eq,b9,h.wx.len]
def jZ.at(h:jZ many steps kinds ms gI hs)(h0:0<=s)(h1:s<many):hm hs s=dq (numsOf (rk kinds 0) gI) (rk kinds s):=by
 have hl:=h.wx.len;have:s.toNat<kinds.length:=by lia
 unfold hm rk;rw[h.eq];simp[List.getD,this,rk]
def jZ.nums(h:jZ many steps kinds ms gI hs):x∈numsOf (rk kinds 0) gI↔∃ s∈ms,x=rk kinds s:=by
 unfold numsOf;rw[eK,ot,h.mem];constructor
 ·rintro(rfl|⟨a,_⟩)
  ·exact⟨0,h.met.zero,rfl⟩
  ·exact a
 ·intro a;by_cases e:x=rk kinds 0
  ·exact .inl e
  ·exact .inr ⟨a,by simpa using e⟩
def cM(h:dq nums k=some i):k∈nums/\i=y8 nums k:=by
 unfold dq at h;split at h
 ·rename_i hk;exact⟨hk,(Option.some.inj h).symm⟩
 ·cases h
def aX.step(h:aX many steps hs)(aE:cq many steps)(h1:1<=many)(ht:t∈steps)(e:hm hs t.1=some i):∃ j,hm hs t.2.2=some j:=by obtain⟨k,m,gI,h⟩:=h;have ok:=aE t ht;rw[h.at ok.1 ok.2.1] at e;obtain⟨s,hs,es⟩:=h.nums.mp (cM e).1;have gx:=((h.met.mem s).mp hs).lt aE h1;obtain⟨u,hu,e1,e2,e3⟩:=h.wx.ft.OZ aE ht gx es;refine⟨y8 (numsOf (rk k 0) gI) (rk k t.2.2),?_⟩;rw[h.at ok.2.2.2.1 ok.2.2.2.2,dq,if_pos];exact h.nums.mpr ⟨u.2.2,h.met.to hu (by rw[e1];exact hs),e3.symm⟩
structure cu(steps:List aI)(hs:List (Option Int))(c:Int)(out:List aI):Prop where
 cnt:∃ l:List Int,l.Nodup/\(∀ x,x∈l↔some x∈hs)/\c=l.length
 up:out.Pairwise fun a b=>cp a b=true
 mem:∀ s,s∈out↔∃ t∈steps,hm hs t.1=some s.1/\s.2.1=t.2.1/\hm hs t.2.2=some s.2.2
def sD:Option Int->D
 |some i=>.int i
 |none=>.non
def Ea(hl:hs.length=many.toNat)(h0:0<=s)(h1:s<many):gy (hs.map sD) s=some (sD (hm hs s)):=by
 have h:s.toNat<hs.length:=by lia
 refine rR (qi h0 (by rw[b9];lia)) ?_;simp[hm,List.getD,h]
def tE(l:List Int):(l.map λx=>(Sum.inl x:Key)).map kM=l.map D.int:=by rw[fF];rfl
def pA{l:List Int}(h:(l.map λx=>(Sum.inl x:Key)).Nodup):l.Nodup:=by
 unfold List.Nodup at *
 rw[iP] at h;exact h.imp λh e=>h (by rw[e])
def Gu{l:List Int}(h:(l.map λx=>(Sum.inl x:Key)).Nodup)(pw:(l.map λx=>(Sum.inl x:Key)).Pairwise λa b=>k7 b a=false):l.Pairwise (· < ·):=by
 have nd:=pA h;rw[iP] at pw;refine(pw.and nd).imp λ{a b} ⟨h1,h2⟩=>?_;have h1:¬ b<a:=by simpa[k7] using h1
 lia
def Ad(o:Option Int):(sD o).flat=true:=by cases o<;>rfl
def lB(k0:Int)(h:gI.Pairwise (· < ·)):(numsOf k0 gI).Nodup :=
 kA.mpr ⟨λz=>by have:=(ot.mp z).2;simp at this,(jo h).filter _⟩
def zR(nd:nums.Nodup)(h:Q .sh (sD (dq nums x))):L7 (dE (sC nums) (.inl x)) .sh .sh .non Q:=by
 unfold dq at h;by_cases e:x∈nums
 ·rw[HF e nd];rw[if_pos e] at h;exact h
 ·have:dE (sC nums) (.inl x)=none:=by
   have:=wF nums x;rw[decide_eq_false e] at this
   cases z:dE (sC nums) (.inl x) with
   |none=>rfl
   |some v=>rw[z] at this;cases this
  rw[this];rw[if_neg e] at h;exact h
def pC(steps:List aI)(hs:List (Option Int)):List aI:=(steps.filter λt=>(hm hs t.1).isSome).map λt=>((hm hs t.1).getD 0,t.2.1,(hm hs t.2.2).getD 0)
def pX(H:aX many steps hs)(aE:cq many steps)(h1:1<=many)(s:aI):s∈pC steps hs↔∃ t∈steps,hm hs t.1=some s.1/\s.2.1=t.2.1/\hm hs t.2.2=some s.2.2:=by
 unfold pC;rw[bT];constructor
 ·rintro⟨t,ht,rfl⟩;obtain⟨ht,e⟩:=ot.mp ht;obtain⟨i,ei⟩:=R5.mp e;obtain⟨j,ej⟩:=H.step aE h1 ht ei;exact⟨t,ht,by rw[ei];rfl,rfl,by rw[ej];rfl⟩
 ·rintro⟨t,ht,e1,e2,e3⟩;refine⟨t,ot.mpr ⟨ht,by rw[e1];rfl⟩,?_⟩;rw[e1,e3,<- e2];rfl
def g8(hs:List (Option Int)):List Int:=hs.filterMap id
def rJ:x∈g8 hs↔some x∈hs:=by simp[g8]
def wR(hs:List (Option Int)):((hs.map sD).filter λd=>!d.GV).map (λd=>d)=((g8 hs).map λx=>(Sum.inl x:Key)).map kM:=by
 rw[tE]
 induction hs with
 |nil=>rfl
 |cons o hs ih =>
  cases o with
  |none=>simpa[sD,D.GV,g8] using ih
  |some i=>simpa[sD,D.GV,g8] using ih
def sV{hs:List (Option Int)}(hl:hs.length<=1000){R:List Key->Prop}(k:∀ ms:List Key,(∃ l:List Int,l.Nodup/\(∀ x,x∈l↔some x∈hs)/\(ms.length:Int)=l.length)->R ms) :
  ∃ ks:List Key,((g8 hs).map λx=>(Sum.inl x:Key)).map kM=ks.map kM/\ks.length<=1000/\∀ ms:List Key,ms.Nodup->(∀ k,k∈ms↔k∈ks)->R ms:=by
 refine⟨_,rfl,?_,λms nd mm=>?_⟩
 ·rw[b9];exact iS (List.length_filterMap_le _ _) hl
 ·obtain⟨l,rfl,_⟩:=Q9 λx hx=>by obtain⟨y,_,e⟩:=bT.mp ((mm x).mp hx);exact⟨y,e.symm,trivial⟩
  refine k _ ⟨l,pA nd,λx=>?_,by rw[b9]⟩;rw[<- rJ,<- bC,mm,bC]
def pQ(steps:List aI)(hs:List (Option Int)):(pC steps hs).length<=steps.length:=by unfold pC;rw[b9];exact Pa _ _
def uZ(n:Nat)(h:cq b l):dS (n+3) (mD many l)=true:=by have h2:=su n h;show(dS (n+2) (.int many) && (dS (n+2) (.list (l.map cx)) && true))=true;rw[h2];rfl
def DJ(many:Int)(s:aI):aI:=(s.1+many,s.2.1,s.2.2+many)
section
variable {many c:Int}{steps out:List aI}{hs:List (Option Int)}
def qJ(h0:0<=s)(e:hm hs s=some i):some i∈hs:=by
 unfold hm at e;rw[IB] at e
 cases z:hs[s.toNat]? with
 |none=>rw[z] at e;cases e
 |some o=>rw[z] at e;have e:o=some i:=e;rw[<- e];exact ly z
def v9(hl:hs.length=many.toNat)(h:some i∈hs):∃ s,(0<=s/\s<many)/\hm hs s=some i:=by obtain⟨n,hn⟩:=MZ.mp h;have Kx:=(iN.mp hn).1;exact⟨n,by lia,by unfold hm;rw[IB,show((n:Int)).toNat=n by lia,hn];rfl⟩
def aX.range(H:aX many steps hs)(aE:cq many steps)(h1:1<=many):∃ n:Nat,1<=n/\(n:Int)<=many/\∀ x,some x∈hs↔0<=x/\x<n:=by
 have hl:=H.len;obtain⟨k,ms,gI,hb⟩:=H;have nd:=lB (rk k 0) hb.up;have mx:∀ x,some x∈hs↔0<=x/\x<((numsOf (rk k 0) gI).length:Nat):=λx=>by
  constructor
  ·intro h;obtain⟨s,DZ,e⟩:=v9 hl h;rw[hb.at DZ.1 DZ.2] at e;have:=cM e;rw[this.2];exact GQ this.1
  ·intro ⟨x0,x1⟩;have hx:x.toNat<(numsOf (rk k 0) gI).length:=by lia
   obtain⟨s,DZ,e⟩:=hb.nums.mp (wo hx);have xv:=((hb.met.mem s).mp DZ).lt aE h1;refine qJ xv.1 ?_;rw[hb.at xv.1 xv.2,<- e];unfold dq;rw[if_pos (wo hx),Ew nd hx];congr 1;lia
 refine⟨(numsOf (rk k 0) gI).length,by unfold numsOf;simp,?_,mx⟩;have:=aD nd λx hx=>by obtain⟨s,DZ,e⟩:=hb.nums.mp hx;have xv:=((hb.met.mem s).mp DZ).lt aE h1;have sf:=hb.wx.len;rw[e];unfold rk;rw[IB,kR (by lia)];exact wo _
 have sf:=hb.wx.len;lia
def aX.zero(H:aX many steps hs)(h1:1<=many):hm hs 0=some 0:=by obtain⟨k,ms,gI,hb⟩:=H;rw[hb.at (qc 0) (by lia)];unfold dq numsOf;simp[y8]
def aX.like(H:aX many steps hs)(aE:cq many steps)(ht:t∈steps)(DZ:0<=s/\s<many)(e1:hm hs s=some i)(e2:hm hs t.1=some i):∃ u,(s,t.2.1,u)∈steps/\hm hs u=hm hs t.2.2:=by
 obtain⟨k,ms,gI,hb⟩:=H;have ok:=aE t ht;rw[hb.at DZ.1 DZ.2] at e1;rw[hb.at ok.1 ok.2.1] at e2;obtain⟨a1,a2⟩:=cM e1;obtain⟨b1,b2⟩:=cM e2;have ek:rk k t.1=rk k s:=by
  have a3:=List.idxOf_lt_length_iff.mpr a1;have b3:=List.idxOf_lt_length_iff.mpr b1;have:(numsOf (rk k 0) gI).idxOf (rk k s)=(numsOf (rk k 0) gI).idxOf (rk k t.1):=by unfold y8 at a2 b2;lia
  have e3:=Ry a3;have e4:=Ry b3;simp only[this] at e3;exact e4.symm.trans e3
 obtain⟨u,hu,f1,f2,f3⟩:=hb.wx.ft.OZ aE ht DZ ek;obtain⟨u1,u2,u3⟩:=u;subst f1 f2;refine⟨u3,hu,?_⟩;have oku:=aE _ hu;rw[hb.at oku.2.2.2.1 oku.2.2.2.2,hb.at ok.2.2.2.1 ok.2.2.2.2];exact congrArg _ f3
def cu.len(h:cu steps hs c out)(H:aX many steps hs)(aE:cq many steps)(h1:1<=many):out.length<=steps.length:=by
 have nd:out.Nodup:=h.up.imp λ{a b} q e=>by subst e;unfold cp at q;rw[cY] at q;cases q
 exact iS (aD nd λs kc=>(pX H aE h1 s).mpr ((h.mem s).mp kc)) (pQ _ _)
def cu.xg(h:cu steps hs c out){n:Nat}(hn:∀ x,some x∈hs↔0<=x/\x<n):c=n:=by
 obtain⟨l,nd,mem,rfl⟩:=h.cnt;have a:=aD nd λx hx=>bu.mpr ((hn x).mp ((mem x).mp hx));have nr:(b8 n).Nodup:=by unfold b8;rw[List.Nodup,iP];exact UN.imp λh e=>h (by lia)
 have b:=aD nr λx hx=>(mem x).mpr ((hn x).mpr (bu.mp hx));rw[bK] at a b;lia
end
def HM(p q:Pr):Bool:=if p.1=q.1 then decide (p.2<q.2) else tq p.1 q.1
def My:List Pr->List Pr->Bool
 |[],m=>!m.isEmpty
 |_ :: _,[]=>false
 |p :: l,q :: m=>if p=q then My l m else HM p q
def G5(p q:Pr):fA (pE p) (pE q)=HM p q:=by
 obtain⟨a,b⟩:=p;obtain⟨c,d⟩:=q;unfold HM pE;by_cases h:a=c
 ·subst h;by_cases g:b=d
  ·subst g;simp[fA]
  ·simp[fA,g,k7]
 ·simp[fA,h,k7]
def yE(h:L2.dC p=L2.dC q):p=q:=by obtain⟨a,b⟩:=p;obtain⟨c,d⟩:=q;simp[L2.dC] at h;rw[h.1,h.2]
def Cm:L2.iF (PySem.SeqAt.cp 1) λx=>∃ a b,x=.tuple [a,b]/\(∃ s,a=.str s)/\∃ i,b=.int i:=L2.iF.pair (L2.iF.str 0) (L2.iF.int 0)
def zc(p:Pr):∃ a b,L2.dC p=.tuple [a,b]/\(∃ s,a=PyData.str s)/\∃ i,b=PyData.int i:=⟨_,_,rfl,⟨_,rfl⟩,_,rfl⟩
def J1(p q:Pr):PySem.SeqAt.cp 1 (L2.dC p) (L2.dC q)=HM p q:=by
 unfold L2.dC;rw[PySem.SeqAt.cp,L2.bZ (L2.iF.str 0) (L2.iF.int 0) ⟨_,rfl⟩ ⟨_,rfl⟩ ⟨_,rfl⟩ ⟨_,rfl⟩];unfold HM;by_cases h:p.1=q.1
 ·rw[if_pos h,if_pos (by rw[h]),PySem.SeqAt.cp]
 ·rw[if_neg h,if_neg (λz=>h (by simpa using z)),PySem.SeqAt.cp];rfl
theorem yg:∀ l m:List Pr,PySem.SeqAt.og (PySem.SeqAt.cp 1) (l.map L2.dC) (m.map L2.dC)=My l m
 |[],[]=>rfl
 |[],_ :: _=>rfl
 |_ :: _,[]=>rfl
 |p :: l,q :: m=>by
  rw[fS,fS,L2.bY Cm (zc p) (zc q),yg l m,J1];rw[My];by_cases h:p=q
  ·rw[if_pos h,if_pos (by rw[h])]
  ·rw[if_neg h,if_neg λz=>h (yE z)]
def Bv:t9 a b=if a.1=b.1 then My a.2 b.2 else decide (a.1<b.1):=by
 unfold t9;rw[yL,yL,PySem.SeqAt.cp,L2.bZ (L2.iF.int 2) (L2.iF.list Cm) ⟨_,rfl⟩ ⟨_,rfl,λy hy=>by obtain⟨p,_,rfl⟩:=bT.mp hy;exact zc p⟩ ⟨_,rfl⟩ ⟨_,rfl,λy hy=>by obtain⟨p,_,rfl⟩:=bT.mp hy;exact zc p⟩];by_cases h:a.1=b.1
 ·rw[if_pos h,if_pos (by rw[h]),PySem.SeqAt.cp,yg]
 ·rw[if_neg h,if_neg (λz=>h (by simpa using z)),PySem.SeqAt.cp]
structure wa(many:Int)(steps:List aI)(AK:Int)(zh:List aI)(B:Int->Int->Prop):Prop where
 ins:∀ s t,B s t->(0<=s/\s<many)/\(0<=t/\t<AK)
 to:∀ s t,B s t->∀ d e,(s,d,e)∈steps->∃ f,(t,d,f)∈zh/\B e f
 back:∀ s t,B s t->∀ d f,(t,d,f)∈zh->∃ e,(s,d,e)∈steps/\B e f
def xD(B:Int->Int->Prop)(r r2:List Int):Prop:=∀ s s2 t t2,B s s2->B t t2->(rk r s<rk r t↔rk r2 s2<rk r2 t2)
section
variable {many AK:Int}{steps zh:List aI}{B:Int->Int->Prop}{r r2:List Int}
def xD.eq(h:xD B r r2)(hs:B s s2)(ht:B t t2):rk r s=rk r t↔rk r2 s2=rk r2 t2:=by have a:=h s s2 t t2 hs ht;have b:=h t t2 s s2 ht hs;constructor<;>intro e<;>lia
def sF(B:Int->Int->Prop)(r:List Int)(v:Int):Prop:=∃ e f,B e f/\rk r e=v
open Classical in
def xE(B:Int->Int->Prop)(r r2:List Int)(v:Int):Int:=if z:∃ f e,B e f/\rk r e=v then rk r2 z.choose else 0
def fH(h:xD B r r2)(he:B e f):xE B r r2 (rk r e)=rk r2 f:=by
 have z:∃ f' e',B e' f'/\rk r e'=rk r e:=⟨f,e,he,rfl⟩
 unfold xE;rw[dif_pos z];obtain⟨e',h1,h2⟩:=z.choose_spec;exact(h.eq h1 he).mp h2
def oZ(h:xD B r r2)(hv:sF B r v)(hw:sF B r w):v<w↔xE B r r2 v<xE B r r2 w:=by obtain⟨e,e2,he,rfl⟩:=hv;obtain⟨f,f2,hf,rfl⟩:=hw;rw[fH h he,fH h hf];exact h e e2 f f2 he hf
def qe(h:xD B r r2)(hv:sF B r v)(hw:sF B r w):v=w↔xE B r r2 v=xE B r r2 w:=by have a:=oZ h hv hw;have b:=oZ h hw hv;constructor<;>intro e<;>lia
def B5(B:Int->Int->Prop)(r r2:List Int)(p:Pr):Pr:=(p.1,xE B r r2 p.2)
def CJ(h:xD B r r2)(hp:sF B r p.2)(hq:sF B r q.2):p=q↔B5 B r r2 p=B5 B r r2 q:=by
 constructor
 ·intro e;rw[e]
 ·intro e;have e1:p.1=q.1:=(Prod.mk.inj e).1;have e2:xE B r r2 p.2=xE B r r2 q.2:=(Prod.mk.inj e).2;exact Prod.ext e1 ((qe h hp hq).mpr e2)
def By(h:xD B r r2)(hp:sF B r p.2)(hq:sF B r q.2):HM (B5 B r r2 p) (B5 B r r2 q)=HM p q:=by
 unfold HM B5;by_cases e:p.1=q.1
 ·rw[if_pos e,if_pos e,sT,decide_eq_true_iff,decide_eq_true_iff];exact(oZ h hp hq).symm
 ·rw[if_neg e,if_neg e]
theorem wU(h:xD B r r2):∀ (l m:List Pr),(∀ p∈l,sF B r p.2)->(∀ p∈m,sF B r p.2)->My (l.map (B5 B r r2)) (m.map (B5 B r r2))=My l m
 |[],[],_,_=>rfl
 |[],_ :: _,_,_=>rfl
 |_ :: _,[],_,_=>rfl
 |p :: l,q :: m,hl,hm=>by
  have ih:=wU h l m (λx hx=>hl x (c9 _ hx)) (λx hx=>hm x (c9 _ hx));have hp:=hl p cy;have hq:=hm q cy;simp only[fS,My];by_cases e:p=q
  ·rw[if_pos e,if_pos ((CJ h hp hq).mp e),ih]
  ·rw[if_neg e,if_neg λz=>e ((CJ h hp hq).mpr z),By h hp hq]
def BR(E:wa many steps AK zh B)(h:xD B r r2)(hs:B s s2)(hk:Mk steps r s k)(xa:Mk zh r2 s2 k2) :
  k2=(xE B r r2 k.1,k.2.map (B5 B r r2))/\∀ p∈k.2,sF B r p.2:=by
 have inr:∀ p∈k.2,sF B r p.2:=λp hp=>by obtain⟨t,ht,e,rfl⟩:=(hk.mem p).mp hp;subst e;obtain⟨f,_,hf⟩:=E.to _ _ hs t.2.1 t.2.2 ht;exact⟨t.2.2,f,hf,rfl⟩
 refine⟨Prod.ext ?_ ?_,inr⟩
 ·rw[xa.fst,hk.fst,fH h hs]
 ·show k2.2=k.2.map (B5 B r r2);refine jg (λa _ b _ h1 h2=>by have:=jq h1 h2;rw[cY] at this;cases this) xa.up ?_ λp=>?_
  ·rw[iP];refine(xI.mpr λi j hi hj kf=>?_);have:=xI.mp hk.up i j hi hj kf;rw[G5] at this ⊢;rw[By h (inr _ (wo hi)) (inr _ (wo hj))];exact this
  ·rw[xa.mem,bT];constructor
   ·rintro⟨u,hu,e1,rfl⟩;subst e1;obtain⟨e,he,hf⟩:=E.back _ _ hs u.2.1 u.2.2 hu;refine⟨(u.2.1,rk r e),(hk.mem _).mpr ⟨_,he,rfl,rfl⟩,?_⟩;unfold B5;rw[fH h hf]
   ·rintro⟨q,hq,rfl⟩;obtain⟨t,ht,et,rfl⟩:=(hk.mem q).mp hq;subst et;obtain⟨f,hf,hb⟩:=E.to _ _ hs t.2.1 t.2.2 ht;refine⟨_,hf,rfl,?_⟩;unfold B5;rw[fH h hb]
def xD.next(E:wa many steps AK zh B)(aE:cq many steps)(W_:cq AK zh)(h:xD B r r2)(b:RB many steps r q)(b2:RB AK zh r2 q2):xD B q q2:=by
 obtain⟨ky,diff,b⟩:=b;obtain⟨ky2,mN',b2⟩:=b2;intro s s2 t t2 hs ht;obtain⟨Ra,LG⟩:=E.ins _ _ hs;obtain⟨Rb,Za⟩:=E.ins _ _ ht;rw[b.lt aE Ra Rb,b2.lt W_ LG Za];obtain⟨es,is⟩:=BR E h hs (b.key s Ra.1 Ra.2) (b2.key s2 LG.1 LG.2);obtain⟨et,it⟩:=BR E h ht (b.key t Rb.1 Rb.2) (b2.key t2 Za.1 Za.2);have i1:sF B r (ky s).1:=⟨s,s2,hs,(b.key s Ra.1 Ra.2).fst.symm⟩
 have i2:sF B r (ky t).1:=⟨t,t2,ht,(b.key t Rb.1 Rb.2).fst.symm⟩
 rw[es,et,Bv,Bv];by_cases e:(ky s).1=(ky t).1
 ·rw[if_pos e,if_pos ((qe h i1 i2).mp e),wU h _ _ is it]
 ·rw[if_neg e,if_neg λz=>e ((qe h i1 i2).mpr z),decide_eq_true_iff,decide_eq_true_iff];exact oZ h i1 i2
end
def zi(rest:List (List Int))(many:Int)(k:Nat):List Int:=(zeros many :: rest).getD (min k rest.length) []
def qM{rest:List (List Int)}(h:Chain many steps (zeros many) rest)(k:Nat):RB many steps (zi rest many k) (zi rest many (k+1)):=by
 have at':∀ j,j<=rest.length->(zeros many :: rest)[j]? = some (zi rest many j):=λj hj=>by unfold zi;rw[Nat.min_eq_left hj,List.getD,kR (by simp;lia)];rfl
 by_cases hk:k+1<=rest.length
 ·exact(h.at k _ _ (at' k (by lia)) (at' (k+1) hk)).1
 ·have e:∀ j,rest.length<=j->zi rest many j=zi rest many rest.length:=λj hj=>by unfold zi;rw[Nat.min_eq_right hj,Nat.min_eq_right (cw _)]
  rw[e k (by lia),e (k+1) (by lia)];exact h.end (at' rest.length (cw _))
def oW{rest:List (List Int)}(hk:rest.length<=k):zi rest many k=eZ (zeros many) rest:=by unfold zi eZ;rw[Nat.min_eq_right hk,Uz,List.getD,kR (by simp)];simp
def y_{B:Int->Int->Prop}(E:wa many steps AK zh B)(aE:cq many steps)(W_:cq AK zh)(h:Kinds many steps k)(h2:Kinds AK zh k2):xD B k k2:=by
 obtain⟨rest,h,rfl⟩:=h;obtain⟨cE',h2,rfl⟩:=h2;have all:∀ k,xD B (zi rest many k) (zi cE' AK k):=λk=>by
  induction k with
  |zero =>
   intro s s2 t t2 _ _;have e:∀ m rs,zi rs m 0=zeros m:=λm rs=>by simp[zi]
   rw[e,e,cW,cW,cW,cW]
  |succ k ih=>exact ih.next E aE W_ (qM h k) (qM h2 k)
 have:=all (rest.length+cE'.length);rwa[oW (by lia),oW (by lia)] at this
def wa.symm{B:Int->Int->Prop}(h:wa many steps AK zh B):wa AK zh many steps λs t=>B t s :=
 ⟨λs t b=>⟨(h.ins t s b).2,(h.ins t s b).1⟩,λs t b d e he=>h.back t s b d e he,λs t b d f hf=>h.to t s b d f hf⟩
theorem idx_map{f:Int->Int}{x:Int}:∀ {l:List Int},(∀ y∈l,f y=f x->y=x)->(l.map f).idxOf (f x)=l.idxOf x
 |[],_=>rfl
 |y :: l,h=>by
  rw[fS,List.idxOf_cons,List.idxOf_cons,idx_map λz hz=>h z (c9 _ hz)];by_cases e:y=x
  ·rw[e,beq_self_eq_true,beq_self_eq_true]
  ·have:f y≠f x:=λz=>e (h y cy z);rw[show(f y == f x)=false from beq_eq_false_iff_ne.mpr this,show(y == x)=false from beq_eq_false_iff_ne.mpr e]
section
variable {n1 n2:Int}{s1 s2:List aI}{B:Int->Int->Prop}{h1 h2:List (Option Int)}
def wa.Ui(E:wa n1 s1 n2 s2 B)(b0:B 0 0)(r:Reach s1 s):∃ t,Reach s2 t/\B s t:=by
 induction r with
 |zero=>exact⟨0,.zero,b0⟩
 |step _ hs ih =>rename_i st _;obtain⟨t,ht,b⟩:=ih;obtain⟨f,hf,b2⟩:=E.to _ _ b _ _ hs;exact⟨f,.step ht hf,b2⟩
def wK(E:wa n1 s1 n2 s2 B)(b0:B 0 0)(i1:cq n1 s1)(i2:cq n2 s2)(H1:aX n1 s1 h1)(H2:aX n2 s2 h2){s t:Int}(b:B s t):hm h1 s=hm h2 t:=by
 obtain⟨k1,m1,r1,H1⟩:=H1;obtain⟨k2,m2,r2,H2⟩:=H2;have ord:=y_ E i1 i2 H1.wx H2.wx;have mt1:∀ s∈m1,∃ t∈m2,B s t:=λs hs=>by obtain⟨t,ht,b⟩:=E.Ui b0 ((H1.met.mem s).mp hs);exact⟨t,(H2.met.mem t).mpr ht,b⟩
 have mt2:∀ t∈m2,∃ s∈m1,B s t:=λt ht=>by obtain⟨s,hs,b⟩:=E.symm.Ui b0 ((H2.met.mem t).mp ht);exact⟨s,(H1.met.mem s).mpr hs,b⟩
 have inr:∀ x∈r1,sF B k1 x:=λx hx=>by obtain⟨s,hs,rfl⟩:=(H1.mem x).mp hx;obtain⟨t,_,b⟩:=mt1 s hs;exact⟨s,t,b,rfl⟩
 have e1:r2=r1.map (xE B k1 k2):=by
  refine xm H2.up ?_ λx=>?_
  ·rw[iP];refine xI.mpr λi j hi hj kf=>?_;exact(oZ ord (inr _ (wo hi)) (inr _ (wo hj))).mp (xI.mp H1.up i j hi hj kf)
  ·rw[H2.mem,bT];constructor
   ·rintro⟨t,ht,rfl⟩;obtain⟨s,hs,b⟩:=mt2 t ht;exact⟨rk k1 s,(H1.mem _).mpr ⟨s,hs,rfl⟩,fH ord b⟩
   ·rintro⟨y,hy,rfl⟩;obtain⟨s,hs,rfl⟩:=(H1.mem y).mp hy;obtain⟨t,ht,b⟩:=mt1 s hs;exact⟨t,ht,fH ord b⟩
 have i0:sF B k1 (rk k1 0):=⟨0,0,b0,rfl⟩
 have e2:numsOf (rk k2 0) r2=(numsOf (rk k1 0) r1).map (xE B k1 k2):=by unfold numsOf;rw[fS,fH ord b0,e1,List.filter_map];congr 2;refine List.filter_congr λx hx=>?_;have:=qe ord (inr x hx) i0;rw[fH ord b0] at this;simp only[Function.comp,ne_eq,this]
 obtain⟨a1,a2⟩:=E.ins _ _ b;rw[H1.at a1.1 a1.2,H2.at a2.1 a2.2,e2,<- fH ord b];have inn:∀ y∈numsOf (rk k1 0) r1,sF B k1 y:=λy hy=>by
  rcases eK.mp hy with rfl|hy
  ·exact i0
  ·exact inr y (ot.mp hy).1
 have inj:∀ y∈numsOf (rk k1 0) r1,xE B k1 k2 y=xE B k1 k2 (rk k1 s)->y=rk k1 s:=λy hy z=>(qe ord (inn y hy) ⟨s,t,b,rfl⟩).mpr z;unfold dq;by_cases e:rk k1 s∈numsOf (rk k1 0) r1
 ·rw[if_pos e,if_pos (bT.mpr ⟨_,e,rfl⟩)];unfold y8;rw[idx_map inj]
 ·rw[if_neg e,if_neg λz=>by
   obtain⟨y,hy,ey⟩:=bT.mp z;exact e (inj y hy ey ▸ hy)]
def aX.of(H:aX n1 s1 h1)(i1:cq n1 s1)(p1:1<=n1)(hs:0<=s/\s<n1)(e:hm h1 s=some i):∃ p,Reach s1 p/\hm h1 p=some i/\∀ d u,(s,d,u)∈s1->∃ v,(p,d,v)∈s1/\hm h1 v=hm h1 u:=by
 obtain⟨k,m,r,hb⟩:=H;have e':=e;rw[hb.at hs.1 hs.2] at e';obtain⟨p,hp,ep⟩:=hb.nums.mp (cM e').1;have rp:=(hb.met.mem p).mp hp;have pl:=rp.lt i1 p1;have ei:hm h1 p=some i:=by rw[hb.at pl.1 pl.2,<- ep];exact e'
 refine⟨p,rp,ei,λd u hu=>?_⟩;exact aX.like ⟨k,m,r,hb⟩ i1 hu pl ei e
def pW(E:wa n1 s1 n2 s2 B)(b0:B 0 0)(i1:cq n1 s1)(p1:1<=n1)(H1:aX n1 s1 h1)(l2:h2.length=n2.toNat)(heq:∀ s t,B s t->hm h1 s=hm h2 t)(L1:cu s1 h1 c1 o1)(jI:cu s2 h2 c2 o2):(∀ x,some x∈h1->some x∈h2)/\∀ s∈o1,s∈o2:=by
 constructor
 ·intro x hx;obtain⟨s,hs,e⟩:=v9 H1.len hx;obtain⟨p,rp,ep,_⟩:=H1.of i1 p1 hs e;obtain⟨q,rq,b⟩:=E.Ui b0 rp;exact qJ (E.ins _ _ b).2.1 ((heq p q b).symm.trans ep)
 ·intro s hs;obtain⟨t,ht,a1,a2,a3⟩:=(L1.mem s).mp hs;have ok:=i1 t ht;obtain⟨p,rp,ep,st⟩:=H1.of i1 p1 ⟨ok.1,ok.2.1⟩ a1;obtain⟨v,hv,ev⟩:=st t.2.1 t.2.2 ht;obtain⟨q,rq,b⟩:=E.Ui b0 rp;obtain⟨f,hf,b2⟩:=E.to _ _ b _ _ hv;exact(jI.mem s).mpr ⟨_,hf,(heq p q b).symm.trans ep,a2,(heq v f b2).symm.trans (ev.trans a3)⟩
def jE(E:wa n1 s1 n2 s2 B)(b0:B 0 0)(i1:cq n1 s1)(i2:cq n2 s2)(p1:1<=n1)(p2:1<=n2)(H1:aX n1 s1 h1)(H2:aX n2 s2 h2)(L1:cu s1 h1 c1 o1)(jI:cu s2 h2 c2 o2):c1=c2/\o1=o2:=by have heq:∀ s t,B s t->hm h1 s=hm h2 t:=λs t b=>wK E b0 i1 i2 H1 H2 b;obtain⟨a1,a2⟩:=pW E b0 i1 p1 H1 H2.len heq L1 jI;obtain⟨b1,b2⟩:=pW E.symm b0 i2 p2 H2 H1.len (λs t b=>(heq t s b).symm) jI L1;refine⟨?_,jg (λa _ b _ h1 h2=>by have:=jq h1 h2;rw[cY] at this;cases this) L1.up jI.up λs=>⟨a2 s,b2 s⟩⟩;obtain⟨n,_,_,hn⟩:=H1.range i1 p1;rw[L1.xg hn,jI.xg λx=>⟨λz=>(hn x).mp (b1 x z),λz=>a1 x ((hn x).mpr z)⟩]
end
section
variable {n1 n2:Int}{s1 s2:List aI}{h1 h2:List (Option Int)}{ps out:List P2}
abbrev nX(n1:Int)(s1 s2:List aI):List aI:=s1++s2.map (DJ n1)
def pD(i1:cq n1 s1)(i2:cq n2 s2)(hs:s<n1)(h:(s,d,e)∈nX n1 s1 s2):(s,d,e)∈s1:=by
 rcases dP.mp h with z|z
 ·exact z
 ·obtain⟨t,ht,et⟩:=bT.mp z;have:=(i2 t ht).1;have:t.1+n1=s:=congrArg (·.1) et;lia
def pL(i1:cq n1 s1)(ht:0<=t)(h:(t+n1,d,o)∈nX n1 s1 s2):∃ f,(t,d,f)∈s2/\o=f+n1:=by
 rcases dP.mp h with z|z
 ·have:=(i1 _ z).2.1;lia
 ·obtain⟨⟨a,b,c⟩,hu,e⟩:=bT.mp z;have e1:a+n1=t+n1:=congrArg (·.1) e;have e2:b=d:=congrArg (·.2.1) e;have e3:c+n1=o:=congrArg (·.2.2) e;have e1:a=t:=by lia
  subst e1 e2;exact⟨c,hu,e3.symm⟩
def yN(h:(t,d,f)∈s2):(t+n1,d,f+n1)∈nX n1 s1 s2:=gu _ (bT.mpr ⟨_,h,rfl⟩)
def zG(i1:cq n1 s1)(i2:cq n2 s2)(p1:1<=n1)(p2:1<=n2):cq (n1+n2) (nX n1 s1 s2):=λs hs=>by
 rcases dP.mp hs with z|z
 ·have ok:=i1 s z;exact⟨ok.1,by have:=ok.2.1;lia,ok.2.2.1,ok.2.2.2.1,by have:=ok.2.2.2.2;lia⟩
 ·obtain⟨t,ht,rfl⟩:=bT.mp z;have ok:=i2 t ht;have o1:=ok.1;have o2:=ok.2.1;have o3:=ok.2.2.2.1;have o4:=ok.2.2.2.2;exact⟨(by lia : 0<=t.1+n1),(by lia : t.1+n1<n1+n2),ok.2.2.1,(by lia : 0<=t.2.2+n1),(by lia : t.2.2+n1<n1+n2)⟩
def Bj(i1:cq n1 s1)(i2:cq n2 s2)(P:O0 (nX n1 s1 s2) ps out):wa n1 s1 n2 s2 λs t=>(0<=s/\s<n1)/\(0<=t/\t<n2)/\(s,t+n1)∈out:=by
 refine⟨λs t b=>⟨b.1,b.2.1⟩,λs t b d e he=>?_,λs t b d f hf=>?_⟩
 ·obtain⟨o,ho,hm⟩:=(P.both _ b.2.2).1 d e (i9 _ he);obtain⟨f,hf,rfl⟩:=pL i1 b.2.1.1 ho;exact⟨f,hf,(i1 _ he).2.2.2,(i2 _ hf).2.2.2,hm⟩
 ·obtain⟨e,he,hm⟩:=(P.both _ b.2.2).2 d _ (yN hf);have he:=pD i1 i2 b.1.2 he;exact⟨e,he,(i1 _ he).2.2.2,(i2 _ hf).2.2.2,hm⟩
open Classical in
def Be(i1:cq n1 s1)(i2:cq n2 s2)(p1:1<=n1)(p2:1<=n2)(H1:aX n1 s1 h1)(H2:aX n2 s2 h2)(L1:cu s1 h1 c1 o)(jI:cu s2 h2 c2 o)(P:O0 (nX n1 s1 s2) ps out)(all:∀ x,y9 (n1+n2) x->x∈ps):((0,n1):P2)∈out:=by
 have mem:∀ x:P2,x∈ps.filter (λx=>decide ((0<=x.1/\x.1<n1)/\∃ t i,(0<=t/\t<n2)/\x.2=t+n1/\hm h1 x.1=some i/\hm h2 t=some i))↔(0<=x.1/\x.1<n1)/\∃ t i,(0<=t/\t<n2)/\x.2=t+n1/\hm h1 x.1=some i/\hm h2 t=some i:=λx=>by rw[ot,decide_eq_true_iff];refine⟨λz=>z.2,λz=>⟨?_,z⟩⟩;obtain⟨a,t,i,b,c,_⟩:=z;exact all x ⟨by lia,by lia⟩
 refine P.max _ (λx hx=>(ot.mp hx).1) (λx hx=>?_) _ ((mem _).mpr ⟨⟨qc 0,by lia⟩,0,0,by lia,by lia,H1.zero p1,H2.zero p2⟩);obtain⟨a,t,i,b,c,e1,e2⟩:=(mem x).mp hx;obtain⟨x1,x2⟩:=x;subst c;refine⟨λd e he=>?_,λd o' ho=>?_⟩
 ·have he:=pD i1 i2 a.2 he;obtain⟨j,ej⟩:=H1.step i1 p1 he e1;obtain⟨u,hu,f1,f2,f3⟩:=(jI.mem (i,d,j)).mp ((L1.mem (i,d,j)).mpr ⟨_,he,e1,rfl,ej⟩);obtain⟨v,hv,ev⟩:=H2.like i2 hu b e2 f1;rw[<- f2] at hv;exact⟨v+n1,yN hv,(mem _).mpr ⟨(i1 _ he).2.2.2,v,j,(i2 _ hv).2.2.2,rfl,ej,ev.trans f3⟩⟩
 ·obtain⟨f,hf,rfl⟩:=pL i1 b.1 ho;obtain⟨j,ej⟩:=H2.step i2 p2 hf e2;obtain⟨u,hu,f1,f2,f3⟩:=(L1.mem (i,d,j)).mp ((jI.mem (i,d,j)).mpr ⟨_,hf,e2,rfl,ej⟩);obtain⟨v,hv,ev⟩:=H1.like i1 hu a e1 f1;rw[<- f2] at hv;exact⟨v,i9 _ hv,(mem _).mpr ⟨(i1 _ hv).2.2.2,f,j,(i2 _ hf).2.2.2,rfl,ev.trans f3,ej⟩⟩
end
def zk(kvs:Kn)(t:aI):Prop:=eI t∈kvs.map (·.1)
def cX:zk (gX kvs (eI s) d) t↔zk kvs t\/t=s:=by
 unfold zk;rw[<- dF,<- dF,zW];by_cases e:t=s
 ·subst e;simp
 ·have:eI t≠eI s:=λz=>e (gO z);simp[this,e]
def q_{α:Type}(l:List α):l.filter (λ_=>true)=l:=IE.mpr λ_ _=>rfl
def oU{α β:Type}{f:α->β}{l:List α}(h:(l.map f).Nodup):l.Nodup:=by rw[List.Nodup,iP] at h;exact h.imp λE4 e=>E4 (by rw[e])
def Rc(steps:List aI):List Str:=steps.map (·.2.1)
def Kd (pool:List Str) (l:List aI):Prop:=∀ s∈l,s.2.1 = "*"\/s.2.1∈pool
def shf(a:Int)(s:aI):aI:=(s.1+a,s.2.1,s.2.2+a)
def jn(a:Int)(l1 l2:List aI):List aI:=l1++l2.map (shf a)
section
variable {n1 n2:Int}{l1 l2 e1 e2:List aI}
def jN(i1:cq n1 l1)(i2:cq n2 l2)(hs:0<=s/\s<n1):jv (nX n1 l1 l2) s x↔jv l1 s x:=by
 constructor
 ·intro r
  induction r with
  |refl=>exact .refl
  |@step t _ ht e ih=>exact .step ih (pD i1 i2 (ih.lt i1 hs).2 ht) e
 ·intro r
  induction r with
  |refl=>exact .refl
  |@step t _ ht e ih=>exact .step ih (i9 _ ht) e
def ig(i1:cq n1 l1)(i2:cq n2 l2)(hs:0<=s/\s<n2):jv (nX n1 l1 l2) (s+n1) x↔∃ y,x=y+n1/\jv l2 s y:=by
 constructor
 ·intro r
  induction r with
  |refl=>exact⟨s,rfl,.refl⟩
  |@step t _ ht e ih =>obtain⟨y,ey,ry⟩:=ih;obtain⟨a,d,b⟩:=t;have ey:a=y+n1:=ey;subst ey;obtain⟨f,hf,rfl⟩:=pL i1 (ry.lt i2 hs).1 ht;exact⟨f,rfl,.step ry hf e⟩
 ·rintro⟨y,rfl,r⟩
  induction r with
  |refl=>exact .refl
  |@step t _ ht e ih=>exact .step ih (yN ht) e
def BW(i1:cq n1 l1)(i2:cq n2 l2)(hs:0<=s/\s<n1):Es (nX n1 l1 l2) (s,d,x)↔Es l1 (s,d,x):=by
 refine or_congr (and_congr_right λ_=>jN i1 i2 hs) (and_congr_right λ_=>⟨?_,?_⟩)
 ·rintro⟨a,b,r1,m,r2⟩;have r1:=(jN i1 i2 hs).mp r1;have m:=pD i1 i2 (r1.lt i1 hs).2 m;exact⟨a,b,r1,m,(jN i1 i2 (i1 _ m).2.2.2).mp r2⟩
 ·rintro⟨a,b,r1,m,r2⟩;exact⟨a,b,(jN i1 i2 hs).mpr r1,i9 _ m,(jN i1 i2 (i1 _ m).2.2.2).mpr r2⟩
def Bo(i1:cq n1 l1)(i2:cq n2 l2)(hs:0<=s/\s<n2):Es (nX n1 l1 l2) (s+n1,d,x)↔∃ y,x=y+n1/\Es l2 (s,d,y):=by
 constructor
 ·rintro(⟨e,r⟩|⟨e,a,b,r1,m,r2⟩)
  ·obtain⟨y,ey,ry⟩:=(ig i1 i2 hs).mp r;exact⟨y,ey,.inl ⟨e,ry⟩⟩
  ·obtain⟨a',rfl,ra⟩:=(ig i1 i2 hs).mp r1;obtain⟨b',hb,rfl⟩:=pL i1 (ra.lt i2 hs).1 m;obtain⟨y,ey,ry⟩:=(ig i1 i2 (i2 _ hb).2.2.2).mp r2;exact⟨y,ey,.inr ⟨e,a',b',ra,hb,ry⟩⟩
 ·rintro⟨y,rfl,⟨e,r⟩|⟨e,a,b,r1,m,r2⟩⟩
  ·exact .inl ⟨e,(ig i1 i2 hs).mpr ⟨y,rfl,r⟩⟩
  ·exact .inr ⟨e,a+n1,b+n1,(ig i1 i2 hs).mpr ⟨a,rfl,r1⟩,yN m,(ig i1 i2 (i2 _ m).2.2.2).mpr ⟨y,rfl,r2⟩⟩
def Et(h:a.1<b.1):cp a b=true:=by
 unfold cp eI;have:(Sum.inl a.1:Key)≠.inl b.1:=λz=>by have:=Sum.inl.inj z;lia
 simp[fA,this,k7,h]
def Iu:cp (DJ n1 a) (DJ n1 b)=cp a b:=by
 obtain⟨a1,a2,a3⟩:=a;obtain⟨b1,b2,b3⟩:=b;unfold cp eI DJ;have i:∀ x y:Int,((Sum.inl (x+n1):Key)=.inl (y+n1))=((Sum.inl x:Key)=.inl y):=λx y=>by simp
 have j:∀ x y:Int,(decide (x+n1<y+n1))=decide (x<y):=λx y=>by simp
 simp only[fA,i,k7,j]
def hJ.un(i1:cq n1 l1)(i2:cq n2 l2)(p1:1<=n1)(p2:1<=n2)(h1:hJ n1 l1 e1)(h2:hJ n2 l2 e2):hJ (n1+n2) (nX n1 l1 l2) (nX n1 e1 e2):=by
 refine⟨IC.mpr ⟨h1.up,?_,λa ha b hb=>?_⟩,λt=>?_⟩
 ·rw[iP];exact h2.up.imp λ{a b} z=>by rw[Iu];exact z
 ·obtain⟨c,hc,rfl⟩:=bT.mp hb;have:=((h1.mem a).mp ha).1;have:=((h2.mem c).mp hc).1;exact Et (by show a.1<c.1+n1;lia)
 ·obtain⟨a,d,b⟩:=t;rw[dP,h1.mem];constructor
  ·rintro(⟨r,e⟩|z)
   ·have r:0<=a/\a<n1:=r;exact⟨⟨r.1,by lia⟩,(BW i1 i2 r).mpr e⟩
   ·obtain⟨⟨c,d',f⟩,hc,e⟩:=bT.mp z;cases e;obtain⟨r,e⟩:=(h2.mem _).mp hc;exact⟨⟨by lia,by lia⟩,(Bo i1 i2 r).mpr ⟨f,rfl,e⟩⟩
  ·rintro⟨r,e⟩;by_cases h:a<n1
   ·exact .inl ⟨⟨r.1,h⟩,(BW i1 i2 ⟨r.1,h⟩).mp e⟩
   ·obtain⟨c,rfl⟩:∃ c,a=c+n1:=⟨a-n1,by lia⟩
    obtain⟨y,rfl,e'⟩:=(Bo i1 i2 ⟨by lia,by lia⟩).mp e;exact .inr (bT.mpr ⟨(c,d,y),(h2.mem _).mpr ⟨⟨by lia,by lia⟩,e'⟩,rfl⟩)
def xr(e1 e2:List aI):(nX n1 e1 e2).length=e1.length+e2.length:=by rw[kz,b9]
end
section
variable {n:Int}{l:List aI}{k:List Int}
abbrev Uj(m:Int):List P2:=(List.range (m*m).toNat).map λi:Nat=>(((0+(i:Int)) / m,(0+(i:Int)) % m):P2)
def vP{m:Int}(h:1<=m)(x:P2):y9 m x↔x∈Uj m:=by
 have hm:0<=m*m:=R4 (by lia) (by lia);constructor
 ·intro hx;refine zV (CC hm) (λi hi=>?_) hx;exact bT.mpr ⟨i,ox.mpr hi,by rw[Int.zero_add]⟩
 ·intro hx;obtain⟨i,hi,rfl⟩:=bT.mp hx;have hi:=ox.mp hi;have a1:=CF (0+i) (show m≠0 by lia);have a2:=CD (0+i) (show 0<m by lia);have a3:0<=(0+i) / m:=Int.ediv_nonneg (by lia) (by lia);have a4:(0+i) / m<m:=Int.ediv_lt_of_lt_mul (by lia) (by lia);exact⟨⟨a3,a4⟩,a1,a2⟩
def Rf(k:List Int)(n:Int):List P2:=(Uj n).filter λy=>decide (rk k y.1=rk k y.2)
def pG(aE:cq n l)(hn:1<=n)(hk:Kinds n l k):O0 l (Uj n) (Rf k n):=by
 have mem:∀ y:P2,y∈Rf k n↔y9 n y/\rk k y.1=rk k y.2:=λy=>by unfold Rf;rw[ot,decide_eq_true_iff,vP hn]
 refine⟨λp hp=>(ot.mp hp).1,λy hy=>?_,λT sub both p hp=>?_,Pa _ _⟩
 ·obtain⟨iy,ey⟩:=(mem y).mp hy;refine⟨λd e he=>?_,λd o ho=>?_⟩
  ·obtain⟨⟨u1,u2,u3⟩,hu,a1,a2,a3⟩:=hk.ft.OZ aE he iy.2 ey;subst a1 a2;exact⟨u3,hu,(mem _).mpr ⟨⟨(aE _ he).2.2.2,(aE _ hu).2.2.2⟩,a3.symm⟩⟩
  ·obtain⟨⟨u1,u2,u3⟩,hu,a1,a2,a3⟩:=hk.ft.OZ aE ho iy.1 ey.symm;subst a1 a2;exact⟨u3,hu,(mem _).mpr ⟨⟨(aE _ hu).2.2.2,(aE _ ho).2.2.2⟩,a3⟩⟩
 ·have ip:=(vP hn p).mpr (sub p hp);exact(mem p).mpr ⟨ip,hk.same aE (λy hy=>(vP hn y).mpr (sub y hy)) both p hp⟩
def xj(hn:1<=n)(hx:y9 n x):x∈Rf k n↔rk k x.1=rk k x.2:=by unfold Rf;rw[ot,decide_eq_true_iff];exact⟨λz=>z.2,λz=>⟨(vP hn x).mp hx,z⟩⟩
end
section
variable {n1 n2:Int}{s1 s2:List aI}{ps out:List P2}
open Classical in
def A_{B:Int->Int->Prop}(i1:cq n1 s1)(i2:cq n2 s2)(E:wa n1 s1 n2 s2 B)(P:O0 (nX n1 s1 s2) ps out)(all:∀ x,y9 (n1+n2) x->x∈ps)(b:B s t):((s,t+n1):P2)∈out:=by
 have mem:∀ x:P2,x∈ps.filter (λx=>decide (∃ t,x.2=t+n1/\B x.1 t))↔∃ t,x.2=t+n1/\B x.1 t:=λx=>by rw[ot,decide_eq_true_iff];refine⟨λz=>z.2,λz=>⟨?_,z⟩⟩;obtain⟨t,e,b⟩:=z;have:=E.ins _ _ b;exact all x ⟨by lia,by lia⟩
 refine P.max _ (λx hx=>(ot.mp hx).1) (λx hx=>?_) _ ((mem _).mpr ⟨t,rfl,b⟩);obtain⟨u,e,b⟩:=(mem x).mp hx;obtain⟨x1,x2⟩:=x;have e:x2=u+n1:=e;subst e;have iu:=E.ins _ _ b;refine⟨λd e he=>?_,λd o ho=>?_⟩
 ·obtain⟨f,hf,bf⟩:=E.to _ _ b d e (pD i1 i2 iu.1.2 he);exact⟨f+n1,yN hf,(mem _).mpr ⟨f,rfl,bf⟩⟩
 ·obtain⟨f,hf,rfl⟩:=pL i1 iu.2.1 ho;obtain⟨e,he,be⟩:=E.back _ _ b d f hf;exact⟨e,i9 _ he,(mem _).mpr ⟨f,rfl,be⟩⟩
end
section
variable {n c:Int}{E o:List aI}{hs:List (Option Int)}
def cu.in(L:cu E hs c o)(H:aX n E hs)(aE:cq n E)(p:1<=n):cq c o/\1<=c/\c<=n/\∀ x,some x∈hs↔0<=x/\x<c:=by obtain⟨m,m1,m2,m3⟩:=H.range aE p;have e:=L.xg m3;refine⟨λt ht=>?_,by lia,by lia,λx=>by rw[m3,e]⟩;obtain⟨u,hu,a1,a2,a3⟩:=(L.mem t).mp ht;have ok:=aE u hu;have b1:=(m3 _).mp (qJ ok.1 a1);have b2:=(m3 _).mp (qJ ok.2.2.2.1 a3);exact⟨b1.1,by lia,by rw[a2];exact ok.2.2.1,b2.1,by lia⟩
def qO(L:cu E hs c o)(H:aX n E hs)(aE:cq n E)(p:1<=n):wa n E c o λs i=>(0<=s/\s<n)/\hm hs s=some i:=by
 obtain⟨io,_,_,rg⟩:=L.in H aE p;refine⟨λs i b=>⟨b.1,(rg i).mp (qJ b.1.1 b.2)⟩,λs i b d e he=>?_,λs i b d j hj=>?_⟩
 ·obtain⟨j,ej⟩:=H.step aE p he b.2;exact⟨j,(L.mem _).mpr ⟨_,he,b.2,rfl,ej⟩,(aE _ he).2.2.2,ej⟩
 ·obtain⟨u,hu,a1,a2,a3⟩:=(L.mem _).mp hj;obtain⟨v,hv,ev⟩:=H.like aE hu b.1 b.2 a1;rw[<- a2] at hv;exact⟨v,hv,(aE _ hv).2.2.2,ev.trans a3⟩
def rH(L:cu E hs c o)(H:aX n E hs)(aE:cq n E)(p:1<=n)(L':cu o gx c' o')(H':aX c o gx):c'=c/\o'=o:=by obtain⟨io,c1,_,_⟩:=L.in H aE p;have:=jE (qO L H aE p) ⟨by lia,H.zero p⟩ aE io p c1 H H' L L';exact⟨this.1.symm,this.2.symm⟩
def rM(he:hJ n l E)(il:cq n l)(L:cu E hs c o)(H:aX n E hs)(p:1<=n):hJ c o o:=by
 have aE:=he.in il;have tw:=he.twice il;obtain⟨io,c1,cn,rg⟩:=L.in H aE p;have B:=qO L H aE p;have lift:∀ {i j:Int},jv o i j->∀ {s},(0<=s/\s<n)->hm hs s=some i->∃ t,jv E s t/\hm hs t=some j:=λ{i j} r=>by
  induction r with
  |refl=>exact λ{s} _ e=>⟨s,.refl,e⟩
  |@step t _ ht e ih =>intro s h1 h2;obtain⟨u,ru,eu⟩:=ih h1 h2;obtain⟨v,hv,b⟩:=B.back _ _ ⟨ru.lt aE h1,eu⟩ _ _ ht;exact⟨v,.step ru hv e,b.2⟩
 refine⟨L.up,λt=>⟨λht=>⟨⟨(io t ht).1,(io t ht).2.1⟩,?_⟩,λ⟨r,e⟩=>?_⟩⟩
 ·by_cases z:t.2.1 = "*"
  ·exact .inl ⟨z,.step .refl ht z⟩
  ·exact .inr ⟨z,t.1,t.2.2,.refl,ht,.refl⟩
 ·obtain⟨s,xv,es⟩:=v9 H.len ((rg _).mpr r);obtain⟨u,hu,eu⟩:∃ u,Es E (s,t.2.1,u)/\hm hs u=some t.2.2:=by
   rcases e with⟨z,r⟩|⟨z,a,b,r1,m,r2⟩
   ·obtain⟨u,ru,eu⟩:=lift r xv es;exact⟨u,.inl ⟨z,ru⟩,eu⟩
   ·obtain⟨a',ra,ea⟩:=lift r1 xv es;obtain⟨b',hb,bb⟩:=B.back _ _ ⟨ra.lt aE xv,ea⟩ _ _ m;obtain⟨u,ru,eu⟩:=lift r2 bb.1 bb.2;exact⟨u,.inr ⟨z,a',b',ra,hb,ru⟩,eu⟩
  exact(L.mem t).mpr ⟨_,(tw.mem _).mpr ⟨xv,hu⟩,es,rfl,eu⟩
end
structure Sx(n1:Int)(l1 done:List aI)(n2:Int)(S:aI->Prop)(π:Int->Int):Prop where
 le:n1<=n2
 EA:∀ t,0<=t->t<n2->0<=π t/\π t<n1
 D1:∀ s,0<=s->s<n1->π s=s
 fwd:∀ t∈done,S t\/∃ x,S (t.1,t.2.1,x)/\S (x, "*",t.2.2)
 Rg:∀ t,S t->(π t.1,t.2.1,π t.2.2)∈l1\/(t.2.1 = "*"/\π t.1=π t.2.2)
 DS:∀ t,n1<=t->t<n2->S (t, "*",π t)
section
variable {n1 n2:Int}{l1 l2 e1 e2:List aI}{π:Int->Int}
def Sx.bis(X:Sx n1 l1 l1 n2 (·∈l2) π)(p1:1<=n1)(i1:cq n1 l1)(i2:cq n2 l2)(h1:hJ n1 l1 e1)(h2:hJ n2 l2 e2):wa n1 e1 n2 e2 λs t=>(0<=t/\t<n2)/\s=π t:=by
 have f1:∀ {s x:Int},jv l1 s x->jv l2 s x:=λ{s x} r=>by
  induction r with
  |refl=>exact .refl
  |@step t _ ht e ih =>
   rcases X.fwd t ht with z|⟨y,z1,z2⟩
   ·exact .step ih z e
   ·exact .step (t:=(y, "*",t.2.2)) (.step (t:=(t.1,t.2.1,y)) ih z1 e) z2 rfl
 have b1:∀ {s x:Int},jv l2 s x->jv l1 (π s) (π x):=λ{s x} r=>by
  induction r with
  |refl=>exact .refl
  |@step t _ ht e ih =>
   rcases X.Rg t ht with z|⟨_,z⟩
   ·exact .step ih z e
   ·rw[<- z];exact ih
 have DS:∀ t,0<=t->t<n2->jv l2 t (π t):=λt a b=>by
  by_cases z:t<n1
  ·rw[X.D1 t a z];exact .refl
  ·exact .step .refl (X.DS t (by lia) b) rfl
 refine⟨λs t b=>⟨by rw[b.2];exact X.EA t b.1.1 b.1.2,b.1⟩,λs t b d e he=>?_,λs t b d f hf=>?_⟩
 ·obtain⟨rt,rfl⟩:=b;have ie:=(h1.in i1 _ he).2.2.2;have re:0<=e/\e<n2:=⟨ie.1,by have:=ie.2;have:=X.le;exact ZD ie.2 X.le⟩
  refine⟨e,(h2.mem _).mpr ⟨rt,?_⟩,re,(X.D1 e ie.1 ie.2).symm⟩;rcases ((h1.mem _).mp he).2 with⟨z,r⟩|⟨z,a,c,r1,m,r2⟩
  ·exact .inl ⟨z,(DS t rt.1 rt.2).trans (f1 r)⟩
  ·rcases X.fwd _ m with w|⟨y,w1,w2⟩
   ·exact .inr ⟨z,a,c,(DS t rt.1 rt.2).trans (f1 r1),w,f1 r2⟩
   ·exact .inr ⟨z,a,y,(DS t rt.1 rt.2).trans (f1 r1),w1,(jv.step .refl w2 rfl).trans (f1 r2)⟩
 ·obtain⟨rt,rfl⟩:=b;have if':=(h2.in i2 _ hf).2.2.2;refine⟨π f,(h1.mem _).mpr ⟨X.EA t rt.1 rt.2,?_⟩,if',rfl⟩;rcases ((h2.mem _).mp hf).2 with⟨z,r⟩|⟨z,a,c,r1,m,r2⟩
  ·exact .inl ⟨z,b1 r⟩
  ·rcases X.Rg _ m with w|⟨w,_⟩
   ·exact .inr ⟨z,π a,π c,b1 r1,w,b1 r2⟩
   ·exact absurd w z
end
def qI:WS :=
 (dr (mM (Oz (OB (wB (gV (Wl "str") (av 0)))) (OB (wB (ph Qp Qp (wC (.int 1)) (gV yB (av 0)) (wC (.int 6))))))
 (nL (wC (.bl false)))
 cI)
 (nL (gV Wz (dB (Bk (av 0)) (gN 0) vS (bp (E3 false) (av 0) (wC (.str "abcdefghijklmnopqrstuvwxyz"))) 1 []))))
def Ec:DE ⟨#[c]⟩ abc=isLet c:=by
 rw[Dw];have:abc.cps.toList=(List.range 26).map (97 + ·):=uK;rw[this];apply sT.mpr;simp only[decide_eq_true_eq,isLet,bT,ox];constructor
 ·rintro⟨i,hi,rfl⟩;lia
 ·intro h;exact⟨c-97,by lia,by lia⟩
def g_:jS:=λds Q=>∃ x:Str,ds=[.str x]/\Q .sh (.bl (decide (1<=x.length/\x.length<=6) && (sg x).all isLet))
def sO (ds Q) (h:g_ ds Q):ds.length=["thing"].length:=by obtain⟨_,rfl,_⟩:=h;rfl
def yG:∀ ds Q,g_ ds Q->qI { nx:=λ_=>Q .sh .non,rt:=Q } (aH 1 ds):=by
 rintro ds Q ⟨x,rfl,h⟩;unfold qI;walk_at "q";refine R.F rfl ?_;walk_at "q";refine R.D (λh1=>?_) λh1=>?_
 ·walk_at "q";refine R.B (λh2=>?_) λh2=>?_;rotate_left
  ·have h2:x.length<=6:=by simp at h2;lia
   walk_at "q"
   refine aY (λ_=>true) (λd=>match d with
    |.str z=>.bl (DE z abc)
    |d=>d) (λρ=>∃ o,ρ=[o]) _ _ _ ⟨_,rfl⟩ ?_ ?_
   ·rintro y hy ρ ⟨o,rfl⟩ N1 N2 _ h2;obtain⟨c,hc,rfl⟩:=bT.mp hy;walk_at "q";exact⟨.inl rfl,h2 _ ⟨_,rfl⟩ rfl⟩
   ·rw[q_];refine⟨(sg x).map isLet,?_,?_⟩
    ·unfold Wr;rw[fF,fF];refine Fm λc _=>?_;show D.bl (DE ⟨#[c]⟩ abc)=_;rw[Ec];rfl
    ·rw[decide_eq_true (by lia),Bool.true_and] at h;rw[RN];exact h
  ·have h2:¬ x.length<=6:=by simp at h2;lia
   walk_at "q";rw[decide_eq_false (by lia),Bool.false_and] at h;exact h
 ·walk_at "q";rw[decide_eq_false (by lia),Bool.false_and] at h;exact h
def gA:WS :=
 (mM (OB (wB (ph Qp Tv (wC (.int 0)) (av 1) (bp eC (av 0) (wC (.int 0))))))
 lW
 cI)
def bV:jS:=λds Q=>∃ (many:Int) (l:List aI) (s:Int),ds=[mD many l,.int s]/\0<=s/\s<many/\Q .sh .non
def jU (ds Q) (h:bV ds Q):ds.length=["m", "state"].length:=by obtain⟨_,_,_,rfl,_⟩:=h;rfl
def nJ:∀ ds Q,bV ds Q->gA { nx:=λ_=>Q .sh .non,rt:=Q } (aH 2 ds):=by rintro ds Q ⟨many,l,s,rfl,h0,h1,h⟩;unfold gA mD;walk_at "q";refine R.T (decide_eq_true h0) ?_;walk_at "q";refine R.F (by simp[h1]) ?_;walk_at "q";exact h
def qy:WS :=
 (dr (fR 1 qu)
 (dr (ki 0 (xk (dN (bp eC (av 0) (wC (.int 1)))) (gT 3 (b7 (gN 2) (b7 (gN 3) (b7 (gN 4) mV))))
 (ki 4 (ki 3 (ki 2 (T8 1 (lh (ak (av 2) (ak (av 3) dz))) (av 4)))))))
 (pP 1)))
def ir:jS:=λds Q=>∃ (many:Int) (l:List aI),ds=[mD many l]/\l.length<=10000/\∀ kvs,DU l kvs->Q (.ow true) (.dT kvs)
def sJ (ds Q) (h:ir ds Q):ds.length=["m"].length:=by obtain⟨_,_,rfl,_⟩:=h;rfl
def wX:∀ ds Q,ir ds Q->qy { nx:=λ_=>Q .sh .non,rt:=Q } (aH 5 ds):=by
 rintro ds Q ⟨many,l,rfl,hz,h⟩;unfold qy mD;walk_at "q";refine b_ _ (λi ρ=>∃ (kvs:Kn) (o2 o3 o4:Option Sl),DU (l.take i) kvs/\kvs.length<=i/\ρ=[some (.sh (.tup [.int many,.list (l.map cx)])),some (.ow true (.dT kvs)),o2,o3,o4]) ⟨[],_,_,_,DU.nil,by simp,rfl⟩ ?_ ?_
 ·rintro i x ρ hx ⟨kvs,o2,o3,o4,hw,hk,rfl⟩ N hN;have hi:=(iN.mp hx).1;rw[b9] at hi;obtain⟨p,d,r,rfl,hs,et⟩:=xG hx;walk_at "q";refine⟨by lia,?_,hN _ ⟨_,_,_,_,by rw[et];exact hw.put p d r,by have:=yU [.inl p,.inr d] (.int r) kvs;lia,rfl⟩⟩;rw[hw p d];have:=zF (l.take i) p d;rw[oq] at this;split
  ·trivial
  ·show List.length _<_;rw[b9];exact HJ (by lia)
 ·rintro ρ ⟨kvs,o2,o3,o4,hw,hk,rfl⟩;rw[b9,zC] at hw;walk_at "q";exact h kvs hw
def lH:WS :=
 (dr (fR 1 (dB (jC (bp eC (av 0) (wC (.int 0)))) (gN 0) vS (tP dz) 1 []))
 (dr (ki 0 (xk (dN (bp eC (av 0) (wC (.int 1)))) (gT 3 (b7 (gN 2) (b7 (gN 3) (b7 (gN 4) mV))))
 (ki 4 (ki 3 (G0 (Wt (nS 1) (av 2)) (lh (ak (av 3) (ak (av 4) dz))))))))
 (pP 1)))
def dH:jS:=λds Q=>∃ (many:Int) (steps:List aI),ds=[mD many steps]/\(0<=many/\many<=1000)/\cq many steps/\steps.length<=1000/\Q (.ow true) (HL many steps)
def p6 (ds Q) (h:dH ds Q):ds.length=["m"].length:=by obtain⟨_,_,rfl,_⟩:=h;rfl
def vL:∀ ds Q,dH ds Q->lH { nx:=λ_=>Q .sh .non,rt:=Q } (aH 5 ds):=by
 rintro ds Q ⟨many,steps,rfl,hm,aE,hl,h⟩;unfold lH mD;walk_at "q";refine⟨by lia,by lia,?_⟩;refine aY (λ_=>true) (λ_=>.list []) (λρ=>∃ o,ρ=[o]) _ _ _ ⟨_,rfl⟩ ?_ ?_
 ·walk_at"r";walk_at "q";exact⟨.inr rfl,n2 _ ⟨_,rfl⟩ rfl⟩
 rw[GK];refine b_ _ (λi ρ=>∃ o2 o3 o4,ρ=[some (.sh (.tup [.int many,.list (steps.map cx)])),some (.ow true (.list (qq many (steps.take i)))),o2,o3,o4]) ⟨none,none,none,by simp⟩ ?_ ?_
 ·rintro i x ρ hx ⟨o2,o3,o4,rfl⟩ N hN;obtain⟨p,d,r,rfl,hs,ht⟩:=xG hx;have ok:=aE _ hs;walk_at "q";refine⟨p.toNat,.list ((oS (steps.take i) p).map nV),qi ok.1 (by rw[pZ];have:=ok.2.1;lia),DR _ ok.1 ok.2.1,rfl,?_⟩;walk_at "q";refine⟨?_,?_⟩
  ·have:=qZ (steps.take i) p;have:(steps.take i).length<=steps.length:=by rw[oq];lia
   lia
  ·refine hN _ ⟨some (.sh (.int p)),some (.sh (.str d)),some (.sh (.int r)),?_⟩;rw[Hm _ _ _ ok.1 ok.2.1,<- ht]
 ·rintro ρ ⟨o2,o3,o4,rfl⟩;walk_at "q";rw[zC];exact h
def lz:WS :=
 (nL (gV eE (dB (cT (bp eC (av 0) (wC (.int 1)))) (gN 0) vS (bp eC (av 0) (wC (.int 1))) 1 [])))
def fQ:jS:=λds Q=>∃ (many:Int) (steps:List aI),ds=[mD many steps]/\steps.length<=63/\∀ names:List Str,names.Nodup->(∀ n,n∈names↔n∈Rc steps)->Q (.ow true) (.list (names.map .str))
def qG (ds Q) (h:fQ ds Q):ds.length=["m"].length:=by obtain⟨_,_,rfl,_⟩:=h;rfl
def vU:∀ ds Q,fQ ds Q->lz { nx:=λ_=>Q .sh .non,rt:=Q } (aH 1 ds):=by
 rintro ds Q ⟨many,steps,rfl,hz,h⟩;unfold lz mD;walk_at "q"
 refine aY (λ_=>true) (λd=>match d with
  |.tup [.int p,.str d,.int r]=>.str d
  |d=>d) (λρ=>∃ o,ρ=[o]) _ _ _ ⟨_,rfl⟩ ?_ ?_
 ·rintro x hx ρ ⟨o,rfl⟩ N1 N2 _ h2;obtain⟨⟨p,d,r⟩,gx,rfl⟩:=bT.mp hx;unfold cx;walk_at "q";exact⟨.inl rfl,h2 _ ⟨_,rfl⟩ rfl⟩
 ·rw[q_];refine⟨(Rc steps).map Sum.inr,false,?_,by simp[Rc];lia,?_,?_⟩
  ·unfold Rc;rw[fF,fF,fF];rfl
  ·intro k hk;obtain⟨x,_,rfl⟩:=bT.mp hk;rfl
  ·intro ms nd mm pw;have nE:∀ k∈ms,∃ x,k=Sum.inr x/\x∈Rc steps:=λk hk=>by obtain⟨x,hx,rfl⟩:=bT.mp ((mm k).mp hk);exact⟨x,rfl,hx⟩
   obtain⟨names,rfl⟩:∃ names:List Str,ms=names.map Sum.inr:=by
    clear nd mm pw
    induction ms with
    |nil=>exact⟨[],rfl⟩
    |cons k ms ih =>obtain⟨x,rfl,_⟩:=nE k cy;obtain⟨l,rfl⟩:=ih λk hk=>nE k (c9 _ hk);exact⟨x :: l,rfl⟩
   have e:(names.map Sum.inr).map kM=names.map D.str:=by rw[fF];rfl
   rw[e];refine h names (oU nd) λn=>?_;have:=mm (Sum.inr n);simpa using this
def Io:WS :=
 (dr (fR 1 (TV (wC (.int 0)) (wC (.bl true))))
 (dr (fR 2 (tP (ak (wC (.int 0)) dz)))
 (dr (uF (Ts (av 2))
 (dr (QC 3 (nS 2))
 (ki 0 (xk (dN (bp eC (av 0) (wC (.int 1)))) (gN 4)
 (mM (Oy (wB (bp AI (bp eC (av 4) (wC (.int 0))) (av 3))) (wB (bp (E3 true) (bp eC (av 4) (wC (.int 2))) (av 1))))
 (dr (kO (nS 1) (bp eC (av 4) (wC (.int 2))) (wC (.bl true)))
 (G0 (nS 2) (bp eC (av 4) (wC (.int 2)))))
 cI)))))
 (nL (gV o7 (av 1))))))
def yC:jS:=λds Q=>∃ (many:Int) (steps:List aI),ds=[mD many steps]/\1<=many/\many<=20/\cq many steps/\∀ ms,Met steps ms->Q (.ow true) (.list (ms.map .int))
def En (ds Q) (h:yC ds Q):ds.length=["m"].length:=by obtain⟨_,_,rfl,_⟩:=h;rfl
structure AO(many:Int)(steps:List aI)(ks:List Int):Prop where
 nd:ks.Nodup
 z:0∈ks
 r:∀ x∈ks,Reach steps x/\0<=x/\x<many
def AO.len(c:AO many steps ks)(h:many<=20):ks.length<=20:=by have:=aD (m:=b8 20) c.nd λx hx=>bu.mpr (by have:=(c.r x hx).2;lia);rwa[bK] at this
def AO.ins(c:AO many steps ks)(hm:cq many steps)(hs:s∈steps)(h:s.1∈ks):AO many steps (insI ks s.2.2) :=
 ⟨vR c.nd,uE.mpr (.inl c.z),λx hx=>by
  rcases uE.mp hx with hx|rfl
  ·exact c.r x hx
  ·exact⟨.step (c.r _ h).1 hs,(hm s hs).2.2.2⟩⟩
def AO.one(h:1<=many):AO many steps [0]:=⟨by simp,by simp,λx hx=>by
 have:x=0:=by simpa using hx
 subst this;exact⟨.zero,by lia,by lia⟩⟩
def vh{steps:List aI}{ks:List Int}(z:0∈ks)(h:∀ s∈steps,s.1∈ks->s.2.2∈ks){x:Int}(r:Reach steps x):x∈ks:=by
 induction r with
 |zero=>exact z
 |step r hs ih=>exact h _ hs ih
def zK{steps:List aI}{ks:List Int}{many:Int}(c:AO many steps ks)(h:∀ s∈steps,s.1∈ks->s.2.2∈ks){Q:Md->D->Prop}(k:∀ ms,Met steps ms->Q (.ow true) (.list (ms.map .int))):o7 .bo (.dK (y6 ks)) Q:=by
 refine⟨true,λp hp=>?_,λms pm pw=>?_⟩
 ·obtain⟨x,_,rfl⟩:=bT.mp hp;rfl
 ·rw[gq] at pm;obtain⟨l,rfl⟩:∃ l:List Int,ms=l.map λx=>(Sum.inl x:Key):=by
   have hm:∀ k∈ms,∃ x:Int,k=Sum.inl x:=λk hk=>by obtain⟨x,_,rfl⟩:=bT.mp (pm.mem_iff.mp hk);exact⟨x,rfl⟩
   clear pm pw
   induction ms with
   |nil=>exact⟨[],rfl⟩
   |cons k ms ih =>obtain⟨l,rfl⟩:=ih λj hj=>hm j (c9 _ hj);obtain⟨x,rfl⟩:=hm k cy;exact⟨x :: l,rfl⟩
  have e:(l.map λx=>(Sum.inl x:Key)).map kM=l.map D.int:=by rw[fF];rfl
  rw[e];have mem:∀ x,x∈l↔x∈ks:=λx=>by rw[<- bC,<- bC];exact pm.mem_iff
  have nd:l.Nodup:=by
   have:(l.map λx=>(Sum.inl x:Key)).Nodup:=pm.nodup_iff.mpr (by
    have:=c.nd;unfold List.Nodup at *
    rw[iP];exact this.imp λh e=>h (Sum.inl.inj e))
   unfold List.Nodup at *
   rw[iP] at this;exact this.imp λh e=>h (by rw[e])
  refine k l ⟨?_,λx=>(mem x).trans ⟨λhx=>(c.r x hx).1,vh c.z h⟩⟩;rw[iP] at pw;refine(pw.and nd).imp λ{a b} ⟨h1,h2⟩=>?_;have h1:¬ b<a:=by simpa[k7] using h1
  lia
def J_:∀ ds Q,yC ds Q->Io { nx:=λ_=>Q .sh .non,rt:=Q } (aH 5 ds):=by
 rintro ds Q ⟨many,steps,rfl,h0,h1,aE,h⟩;unfold Io mD;walk_at "q";refine⟨λρ=>∃ (ks wait:List Int) (o3 o4:Option Sl),AO many steps ks/\(∀ x∈wait,x∈ks)/\wait.length<=ks.length/\(∀ s∈steps,s.1∈ks->s.1∉wait->s.2.2∈ks) /\
   ρ=[some (.sh (.tup [.int many,.list (steps.map cx)])),some (.ow true (.dK (y6 ks))),some (.ow true (.list (wait.map .int))),o3,o4],
  λρ=>match ρ with
   |[_,some (.ow _ (.dK kvs)),some (.ow _ (.list w)),_,_]=>2*(20-kvs.length)+w.length
   |_=>0,⟨[0],[0],none,none,AO.one h0,by simp,by simp,λs _ e hn=>absurd (by simpa using e) (by simpa using hn),rfl⟩,?_⟩
 rintro ρ ⟨O1,wait,o3,o4,hc,hw,w4,mh,rfl⟩;have sf:=hc.len h1;walk_at "q";by_cases gL:wait=[]
 ·subst gL;exact zK hc (λs hs hm=>mh s hs hm (by simp)) h
 ·obtain⟨w0,st,rfl⟩:∃ w0 st,wait=w0++[st]:=⟨wait.dropLast,wait.getLast gL,(Ux gL).symm⟩
  rw[if_pos (by simp)];refine⟨.int st,by simp,rfl,?_⟩;walk_at "q";rw[show(List.map D.int (w0++[st])).dropLast=w0.map D.int by simp];simp only[kz,Fh,nR] at w4 ⊢;refine b_ _ (λi ρ=>∃ (ks wait:List Int) (o4:Option Sl),AO many steps ks/\st∈ks/\(∀ x∈wait,x∈ks)/\wait.length+1<=ks.length/\(∀ s∈steps,s.1∈ks->s.1∉wait->s.1≠st->s.2.2∈ks)/\(∀ s∈steps.take i,s.1=st->s.2.2∈ks) /\
   2*(20-ks.length)+wait.length<2*(20-O1.length)+(w0.length+1) /\
   ρ=[some (.sh (.tup [.int many,.list (steps.map cx)])),some (.ow true (.dK (y6 ks))),some (.ow true (.list (wait.map .int))),some (.sh (.int st)),o4])
   ⟨O1,w0,_,hc,hw st (by simp),λx hx=>hw x (by simp[hx]),by lia,λs hs h1 h2 h3=>mh s hs h1 (by simp[h2,h3]),by simp,by lia,rfl⟩ ?_ ?_
  ·rintro i x ρ hx ⟨ks,wait,o4,hc,lP,hw,w4,mh,AQ,MA,rfl⟩ N hN;obtain⟨p,d,r,rfl,hs,et⟩:=xG hx;walk_at "q";have no:p=st->r∈ks->N [some (.sh (.tup [.int many,.list (steps.map cx)])),some (.ow true (.dK (y6 ks))),some (.ow true (.list (wait.map .int))),some (.sh (.int st)),some (.sh (.tup [.int p,.str d,.int r]))]:=λe hr =>
    hN _ ⟨ks,wait,_,hc,lP,hw,w4,mh,λs hs e=>by
     rw[et] at hs;rcases dP.mp hs with hs|hs
     ·exact AQ s hs e
     ·obtain rfl:s=(p,d,r):=by simpa using hs
      exact hr,MA,rfl⟩
   refine R.D (λe=>?_) λe=>?_
   ·walk_at "q";by_cases hr:r∈ks
    ·refine R.F (by rw[get_set];simp[hr]) ?_;walk_at "q";exact no e hr
    ·refine R.T (by rw[get_set];simp[hr]) ?_;walk_at "q";rw[D_];have ei:insI ks r=ks++[r]:=by unfold insI;rw[if_neg hr]
     have tf:AO many steps (insI ks r):=hc.ins aE hs (by rw[show((p,d,r):aI).1=st from e];exact lP);have Uk:=tf.len h1;rw[ei] at tf Uk ⊢;rw[kz,Fh] at Uk;rw[nR];walk_at "o";rw[show wait.map D.int++[D.int r]=(wait++[r]).map D.int by simp];refine hN _ ⟨ks++[r],wait++[r],_,tf,by simp[lP],λx hx=>?_,by simp;lia,λs hs h1 h2 h3=>?_,λs hs e'=>?_,by simp;lia,rfl⟩
     ·rcases dP.mp hx with hx|hx
      ·simp[hw x hx]
      ·simp at hx;simp[hx]
     ·simp only[dP,oo,not_or] at h1 h2 ⊢;rcases h1 with h1|h1
      ·exact .inl (mh s hs h1 h2.1 h3)
      ·exact absurd h1 h2.2
     ·rw[et] at hs;rcases dP.mp hs with hs|hs
      ·simp[AQ s hs e']
      ·obtain rfl:s=(p,d,r):=by simpa using hs
       simp
   ·walk_at "q";refine hN _ ⟨ks,wait,_,hc,lP,hw,w4,mh,λs hs e'=>?_,MA,rfl⟩;rw[et] at hs;rcases dP.mp hs with hs|hs
    ·exact AQ s hs e'
    ·obtain rfl:s=(p,d,r):=by simpa using hs
     exact absurd e' e
  ·rintro ρ ⟨ks,wait,o4,hc,lP,hw,w4,mh,AQ,MA,rfl⟩;rw[b9,zC] at AQ;refine⟨⟨ks,wait,_,_,hc,hw,by lia,λs hs h1 h2=>?_,rfl⟩,by simpa[nR] using MA⟩;by_cases e:s.1=st
   ·exact AQ s hs e
   ·exact mh s hs h1 h2 e
def Aw:WS :=
 (nL (lh (ak (bp eC (av 1) (av 2)) (ak (gV d_ (dB (cT (bp eC (av 0) (av 2))) (gT 2 (b7 (gN 0) (b7 (gN 1) mV))) vS (lh (ak (av 0) (ak (bp eC (av 2) (av 1)) dz))) 2 [1])) dz))))
def j4:jS:=λds Q=>∃ (many:Int) (steps:List aI) (eL:List Int) (s:Int),ds=[HL many steps,.list (eL.map .int),.int s]/\(0<=s/\s<many)/\eL.length=many.toNat/\cq many steps/\steps.length<=1000/\∀ k,Mk steps eL s k->Q (.ow true) (i7 k)
def uU (ds Q) (h:j4 ds Q):ds.length=["exits", "ranks", "state"].length:=by obtain⟨_,_,_,_,rfl,_⟩:=h;rfl
def z_:∀ ds Q,j4 ds Q->Aw { nx:=λ_=>Q .sh .non,rt:=Q } (aH 3 ds):=by
 rintro ds Q ⟨many,steps,eL,s,rfl,hs,hr,aE,hl,h⟩;walk_at "q";refine⟨_,vH hr hs.1 hs.2,?_⟩;walk_at "q";refine⟨_,GF steps hs.1 hs.2,?_⟩;walk_at "q"
 refine aY (λ_=>true) (λd=>match d with
  |.tup [.str x,.int e]=>.tup [.str x,.int (rk eL e)]
  |d=>d) (λρ=>∃ o0 o1,ρ=[o0,o1,some (.sh (.list (eL.map .int)))]) _ _ _ ⟨_,_,rfl⟩ ?_ ?_
 ·rintro x hx ρ ⟨o0,o1,rfl⟩ N1 N2 n1 n2;obtain⟨p,hp,rfl⟩:=bT.mp hx;obtain⟨t,ht,e1,e2⟩:=qR hp;obtain⟨x,e⟩:=p;have ok:=aE t ht;obtain⟨t1,t2,t3⟩:=t;cases e2;unfold nV;walk_at "q";refine⟨_,vH hr ok.2.2.2.1 ok.2.2.2.2,?_⟩;walk_at "q";exact⟨.inl rfl,n2 _ ⟨_,_,rfl⟩ rfl⟩
 have e1:((oS steps s).map nV |>.filter λ_=>true).map (λd=>match d with
   |.tup [.str x,.int e]=>.tup [.str x,.int (rk eL e)]
   |d=>d)=((oS steps s).map λp=>(p.1,rk eL p.2)).map nV:=by
  rw[IE.mpr λ_ _=>rfl,fF,fF];rfl
 rw[e1];refine z7 (m:=.ow true) (Q:=λ_ d=>Q (.ow true) (.tup [.int (rk eL s),d])) (by rw[b9];exact iS (qZ steps s) hl) λl up mem=>?_;refine h (rk eL s,l) ⟨rfl,up,λp=>(mem p).trans ⟨λhp=>?_,λhp=>?_⟩⟩
 ·obtain⟨q,hq,rfl⟩:=bT.mp hp;obtain⟨t,ht,e1,rfl⟩:=qR hq;exact⟨t,ht,e1,rfl⟩
 ·obtain⟨t,ht,rfl,rfl⟩:=hp;exact bT.mpr ⟨t.2,wy ht,rfl⟩
def fu:WS :=
 (dr (fR 2 (WY (av 1) (QY (tP dz))))
 (dr (ki 1 (fR 3 (tP (ak (av 1) dz))))
 (dr (uF (Ts (av 3))
 (dr (QC 4 (nS 3))
 (ki 4 (xk (dN (OU (av 0) (lh (ak (av 4) (ak (wC (.str "*")) dz))) (QY (tP dz)))) (gN 5)
 (mM (wB (bp (E3 true) (av 5) (av 2)))
 (dr (ki 5 (ki 4 (yQ (nS 2) (av 5) (QY (bp n9 (bp eC (av 2) (av 4)) (tP (ak (lh (ak (av 4) (ak (wC (.str "*")) (ak (av 5) dz)))) dz)))))))
 (ki 5 (G0 (nS 3) (av 5))))
 cI)))))
 (pP 2))))
structure Wk(many:Int)(l:List aI)(s:Int)(ks:List Int)(kd:List (Key × D)):Prop where
 ek:kd.map (·.1)=ks.map fun x=>(Sum.inl x:Key)
 nd:ks.Nodup
 z:s∈ks
 r:∀ x∈ks,jv l s x/\0<=x/\x<many
 v:∀ p∈kd,∃ w:List aI,p.2=.list (w.map cx)/\w.length<ks.length
def Wk.len(w:Wk many l s ks kd)(h:many<=20):ks.length<=20/\kd.length=ks.length:=by refine⟨?_,by have:=congrArg List.length w.ek;simpa using this⟩;have:=BX w.nd λx hx=>(w.r x hx).2;lia
def Wk.get(w:Wk many l s ks kd)(hx:x∈ks):∃ p:List aI,dE kd (.inl x)=some (.list (p.map cx))/\p.length<ks.length:=by have:(dE kd (.inl x)).isSome=true:=dF.mpr (by rw[w.ek];exact bC.mpr hx);obtain⟨d,e⟩:=R5.mp this;obtain⟨q,hq,e'⟩:=I0.mp e;obtain⟨p,e2,hl⟩:=w.v q (List.mem_of_find?_eq_some hq);exact⟨p,by rw[e,<- e',e2],hl⟩
def Wk.has(w:Wk many l s ks kd)(x:Int):(dE kd (.inl x)).isSome=decide (x∈ks):=by rw[sT,dF,w.ek,bC,decide_eq_true_iff]
def Wk.put {many:Int} {l:List aI} {s:Int} {ks:List Int} {kd:List (Key × D)} (w:Wk many l s ks kd) (aE:cq many l) {a x:Int} (ha:a∈ks) (hx:x∉ks) (ht:((a, "*",x):aI)∈l) {p:List aI} (hp:p.length<=ks.length) :
  Wk many l s (ks++[x]) (gX kd (.inl x) (.list (p.map cx))):=by
 have ep:gX kd (.inl x) (D.list (p.map cx))=kd++[(.inl x,.list (p.map cx))]:=by unfold gX;rw[if_neg λz=>hx (bC.mp (by rw[<- w.ek];exact iz.mp z))]
 have nx:∀ b∈ks,∀ c∈[x],b≠c:=λb hb c hc e=>by
  have:c=x:=by simpa using hc
  subst this;subst e;exact hx hb
 refine⟨by rw[ep,qB,w.ek];simp,hX.mpr ⟨w.nd,by simp,nx⟩,i9 _ w.z,λy hy=>?_,λq hq=>?_⟩
 ·rcases dP.mp hy with hy|hy
  ·exact w.r y hy
  ·have:y=x:=by simpa using hy
   subst this;exact⟨.step (w.r a ha).1 ht rfl,(aE _ ht).2.2.2⟩
 ·rw[ep] at hq;rw[kz,Fh];rcases dP.mp hq with hq|hq
  ·obtain⟨u,e,hu⟩:=w.v q hq;exact⟨u,e,by lia⟩
  ·have:q=(.inl x,.list (p.map cx)):=by simpa using hq
   subst this;exact⟨p,rfl,by lia⟩
def cO:jS:=λds Q=>∃ (kvs:Kn) (s many:Int) (l:List aI),ds=[.dT kvs,.int s]/\DU l kvs/\cq many l/\many<=20/\(0<=s/\s<many) /\
 ∀ (kd:List (Key × D)) (ks:List Int),kd.map (·.1)=(ks.map λx=>(Sum.inl x:Key))->ks.Nodup->(∀ x,x∈ks↔jv l s x)->Q (.ow false) (.dK kd)
def iT (ds Q) (h:cO ds Q):ds.length=["ways", "state"].length:=by obtain⟨_,_,_,_,rfl,_⟩:=h;rfl
def j_:∀ ds Q,cO ds Q->fu { nx:=λ_=>Q .sh .non,rt:=Q } (aH 6 ds):=by
 rintro ds Q ⟨kvs,s,many,l,rfl,hw,aE,hm,hs,h⟩;unfold fu;walk_at "q";refine⟨λρ=>∃ (ks wait:List Int) (kd:List (Key × D)) (o4 o5:Option Sl),Wk many l s ks kd/\(∀ x∈wait,x∈ks)/\wait.length<=ks.length/\(∀ t∈l,t.2.1 = "*"->t.1∈ks->t.1∉wait->t.2.2∈ks) /\
   ρ=[some (.sh (.dT kvs)),some (.sh (.int s)),some (.ow false (.dK kd)),some (.ow true (.list (wait.map .int))),o4,o5],
  λρ=>match ρ with
   |[_,_,some (.ow _ (.dK kd)),some (.ow _ (.list w)),_,_]=>2*(20-kd.length)+w.length
   |_=>0,⟨[s],[s],[(.inl s,.list [])],none,none,⟨rfl,by simp,by simp,λx hx=>?_,λp hp=>?_⟩,by simp,by simp,λt _ _ e hn=>absurd (by simpa using e) (by simpa using hn),rfl⟩,?_⟩
 ·have:x=s:=by simpa using hx
  subst this;exact⟨.refl,hs⟩
 ·have:p=(.inl s,.list []):=by simpa using hp
  subst this;exact⟨[],rfl,by simp⟩
 rintro ρ ⟨O1,wait,kd0,o4,o5,hc,hwt,w4,mh,rfl⟩;have sf:=hc.len hm;walk_at "q";by_cases gL:wait=[]
 ·subst gL;exact h kd0 O1 hc.ek hc.nd λx=>⟨λhx=>(hc.r x hx).1,Ei hc.z λt ht e hm=>mh t ht e hm (by simp)⟩
 ·obtain⟨w0,st,rfl⟩:∃ w0 st,wait=w0++[st]:=⟨wait.dropLast,wait.getLast gL,(Ux gL).symm⟩
  rw[if_pos (by simp)];refine⟨.int st,by simp,rfl,?_⟩;walk_at "q";rw[show(List.map D.int (w0++[st])).dropLast=w0.map D.int by simp];simp only[kz,Fh] at w4 ⊢;refine Ay hw ⟨trivial,?_⟩;walk_at "q";refine b_ _ (λi ρ=>∃ (ks wait:List Int) (kd:List (Key × D)) (o5:Option Sl),Wk many l s ks kd/\st∈ks/\(∀ x∈wait,x∈ks)/\wait.length+1<=ks.length/\(∀ t∈l,t.2.1 = "*"->t.1∈ks->t.1∉wait->t.1≠st->t.2.2∈ks)/\(∀ x∈(cR l st "*").take i,x∈ks) /\
   2*(20-ks.length)+wait.length<2*(20-O1.length)+(w0.length+1) /\
   ρ=[some (.sh (.dT kvs)),some (.sh (.int s)),some (.ow false (.dK kd)),some (.ow true (.list (wait.map .int))),some (.sh (.int st)),o5])
   ⟨O1,w0,kd0,_,hc,hwt st (by simp),λx hx=>hwt x (by simp[hx]),by lia,λt ht e h1 h2 h3=>mh t ht e h1 (by simp[h2,h3]),by simp,by lia,rfl⟩ ?_ ?_
  ·rintro i x ρ hx ⟨ks,wait,kd,o5,hc,lP,Ul,w4,mh,AQ,MA,rfl⟩ N hN;obtain⟨r,rfl,hr,et⟩:=int_at hx;have sf:=hc.len hm;walk_at "q";by_cases Um:r∈ks
   ·refine R.F (by rw[hc.has];simp[Um]) ?_;walk_at "q";refine hN _ ⟨ks,wait,kd,_,hc,lP,Ul,w4,mh,λx hx=>?_,MA,rfl⟩;rw[et] at hx;rcases dP.mp hx with hx|hx
    ·exact AQ x hx
    ·have:x=r:=by simpa using hx
     rw[this];exact Um
   ·refine R.T (by rw[hc.has];simp[Um]) ?_;walk_at "q";obtain⟨p,ep,hp⟩:=hc.get lP;refine⟨_,_,rfl,ep,?_⟩;walk_at "q";have e1:p.map cx++[D.tup [.int st,.str "*",.int r]]=(p++[((st, "*",r):aI)]).map cx:=by simp[cx]
    have tf:=hc.put aE lP Um (tV.mp hr) (p:=p++[((st, "*",r):aI)]) (by simp;lia);have Uk:=tf.len hm;rw[kz,Fh] at Uk;refine⟨by lia,.inl ⟨bN p,?_⟩⟩;rw[e1];refine⟨by lia,by lia,?_⟩;rw[show wait.map D.int++[D.int r]=(wait++[r]).map D.int by simp];refine hN _ ⟨ks++[r],wait++[r],_,_,tf,by simp[lP],λx hx=>?_,by simp;lia,λt ht e h1 h2 h3=>?_,λx hx=>?_,by simp;lia,rfl⟩
    ·rcases dP.mp hx with hx|hx
     ·simp[Ul x hx]
     ·simp at hx;simp[hx]
    ·simp only[dP,oo,not_or] at h1 h2 ⊢;rcases h1 with h1|h1
     ·exact .inl (mh t ht e h1 h2.1 h3)
     ·exact absurd h1 h2.2
    ·rw[et] at hx;rcases dP.mp hx with hx|hx
     ·simp[AQ x hx]
     ·have:x=r:=by simpa using hx
      simp[this]
  ·rintro ρ ⟨ks,wait,kd,o5,hc,lP,Ul,w4,mh,AQ,MA,rfl⟩;rw[b9,zC] at AQ;have mO':=hc.len hm;refine⟨⟨ks,wait,kd,_,_,hc,Ul,by lia,λt ht e h1 h2=>?_,rfl⟩,by simp;lia⟩;by_cases e':t.1=st
   ·refine AQ _ (tV.mpr ?_);obtain⟨p,d,r⟩:=t;subst e;subst e';exact ht
   ·exact mh t ht e h1 h2 e'
def gw:WS :=
 (dr (ki 2 (fR 3 (dB (cT (bp eC (av 1) (av 2))) (gN 0) vS (lh (ak (av 1) (ak (wC (.str "*")) (ak (av 0) dz)))) 1 [2])))
 (dr (ki 1 (xk (dN (bp eC (av 1) (av 2))) (gN 4)
 (ki 0 (xk (dN (bp eC (av 0) (av 4))) (gT 2 (b7 (gN 5) (b7 (gN 6) mV)))
 (mM (wB (bp rV (av 5) (wC (.str "*"))))
 (ki 5 (ki 2 (T_ (nS 3) (dB (cT (bp eC (av 1) (av 6))) (gN 0) vS (lh (ak (av 2) (ak (av 1) (ak (av 0) dz)))) 1 [5,2]))))
 cI)))))
 (nL (gV eU (av 3)))))
def B6(xs:List Int):D:=.list (xs.map .int)
structure Uo(many:Int)(l:List aI)(rs:List (List Int)):Prop where
 len:rs.length=many.toNat
 at':∀ (i:Nat) xs,rs[i]? = some xs->OY l i xs
def Uo.get(h:Uo many l rs)(hs:0<=s/\s<many):∃ xs,gy (rs.map B6) s=some (B6 xs)/\OY l s xs:=by
 have hn:s.toNat<rs.length:=by rw[h.len];lia
 refine⟨rs[s.toNat],rR (qi hs.1 (by rw[b9,h.len];lia)) (by simp[hn]),?_⟩;have:=h.at' s.toNat _ (kR hn);rwa[CC hs.1] at this
def OY.len(h:OY l s xs)(aE:cq many l)(hs:0<=s/\s<many)(hm:many<=20):xs.length<=20:=by have:=BX (jo h.up) λx hx=>((h.mem x).mp hx).lt aE hs;lia
structure Ez(many:Int)(l:List aI)(s:Int)(out:List aI):Prop where
 up:out.Pairwise fun a b=>cp a b=true
 mem:∀ t,t∈out↔t.1=s/\Es l t
def Rh(names:List Str)(s:Int):List aI:=(names.map λn=>(b8 20).map λq=>((s,n,q):aI)).flatten
def um(names:List Str)(s:Int):(Rh names s).length=names.length*20:=by
 unfold Rh
 induction names with
 |nil=>rfl
 |cons n names ih=>rw[fS,A3,kz,ih,b9,bK,pd];lia
def uc(h1:t.1=s)(h2:t.2.1∈names)(h3:0<=t.2.2/\t.2.2<20):t∈Rh names s:=by unfold Rh;rw[RG];obtain⟨a,b,c⟩:=t;subst h1;exact⟨_,bT.mpr ⟨b,h2,rfl⟩,bT.mpr ⟨c,bu.mpr (by lia),rfl⟩⟩
def Hw{ps U:List aI}(hu:U.length<=999)(hp:∀ t∈ps,t∈U)(k:∀ l:List aI,l.Pairwise (λa b=>cp a b=true)->(∀ t,t∈l↔t∈ps)->Q (.ow true) (.list (l.map cx))):eU m (.list (ps.map cx)) Q:=by
 refine⟨ps.map eI,U.map eI,[false,true],by rw[fF];rfl,by rw[b9];exact hu,λk hk=>?_,λk hk=>?_,λms nd mm pw=>?_⟩
 ·obtain⟨t,ht,rfl⟩:=bT.mp hk;exact bT.mpr ⟨t,hp t ht,rfl⟩
 ·obtain⟨t,ht,rfl⟩:=bT.mp hk;rfl
 ·obtain⟨l,rfl,hl⟩:=iw λk hk=>by obtain⟨t,ht,e⟩:=bT.mp ((mm k).mp hk);exact⟨t,e.symm,ht⟩
  rw[show(l.map eI).map kg=l.map cx by rw[fF];rfl];refine k l ?_ λt=>⟨hl t,λht=>?_⟩
  ·rw[iP] at pw;have Mb:l.Pairwise λa b=>eI a≠eI b:=by rw[List.Nodup,iP] at nd;exact nd
   refine(pw.and Mb).imp λ{a b} ⟨h1,h2⟩=>?_;unfold cp
   cases h3:fA (eI a) (eI b) with
   |true=>rfl
   |false=>exact absurd (iB (a:=eI a) (b:=eI b) rfl h3 h1) h2
  ·obtain⟨u,E6,e⟩:=bT.mp ((mm (eI t)).mpr (bT.mpr ⟨t,ht,rfl⟩));rw[<- gO e];exact E6
def uA(a:List aI)(b:List aI):a.map cx++b.map cx=(a++b).map cx:=by rw[qB]
structure Part(l:List aI)(s:Int)(xs:List Int)(i:Nat)(ps:List aI):Prop where
 ok:∀ t∈ps,t.1=s/\Es l t
 st:∀ q∈xs,((s, "*",q):aI)∈ps
 nx:∀ a∈xs.take i,∀ (d:Str) (b:Int),(a,d,b)∈l->d ≠ "*"->∀ q,jv l b q->(s,d,q)∈ps
def dg:jS:=λds Q=>∃ (many:Int) (l:List aI) (rs:List (List Int)) (names:List Str) (s:Int),ds=[HL many l,.list (rs.map B6),.int s]/\(1<=many/\many<=20)/\cq many l/\pz names l/\("*" : Str)∈names/\names.length<=8/\l.length<=1000/\Uo many l rs/\(0<=s/\s<many)/\∀ out,Ez many l s out->Q (.ow true) (.list (out.map cx))
def j5 (ds Q) (h:dg ds Q):ds.length=["exits", "reaches", "state"].length:=by obtain⟨_,_,_,_,_,rfl,_⟩:=h;rfl
def oN:∀ ds Q,dg ds Q->gw { nx:=λ_=>Q .sh .non,rt:=Q } (aH 7 ds):=by
 rintro ds Q ⟨many,l,rs,names,s,rfl,hm,aE,oj,hz,O3,hl,Uq,hs,h⟩;obtain⟨xs,ex,rx⟩:=Uq.get hs;have hxl:=rx.len aE hs hm.2;unfold gw HL;walk_at "q";refine⟨_,ex,?_⟩;rw[show B6 xs=D.list (xs.map .int) from rfl];walk_at "q"
 refine aY (λ_=>true) (λd=>match d with
  |.int q=>cx (s, "*",q)
  |d=>d) (λρ=>∃ o,ρ=[o,some (.sh (.int s))]) _ _ _ ⟨_,rfl⟩ ?_ ?_
 ·walk_at"r";obtain⟨c,_,rfl⟩:=bT.mp hx;walk_at "q";exact⟨.inl rfl,n2 _ ⟨_,rfl⟩ rfl⟩
 have e0:((xs.map D.int).filter λ_=>true).map (λd=>match d with
   |.int q=>cx (s, "*",q)
   |d=>d)=(xs.map λq=>((s, "*",q):aI)).map cx:=by
  rw[IE.mpr λ_ _=>rfl,fF,fF];rfl
 rw[e0];refine⟨_,ex,?_⟩;rw[show B6 xs=D.list (xs.map .int) from rfl];walk_at "q";refine b_ _ (λi ρ=>∃ (ps:List aI) (o4 o5 o6:Option Sl),Part l s xs i ps/\ps.length<=20+i*(l.length*20)/\ρ=[some (.sh (.list (qq many l))),some (.sh (.list (rs.map B6))),some (.sh (.int s)),some (.ow true (.list (ps.map cx))),o4,o5,o6]) ⟨_,_,_,_,⟨λt ht=>?_,λq hq=>bT.mpr ⟨q,hq,rfl⟩,by simp⟩,by rw[b9];lia,rfl⟩ ?_ ?_
 ·obtain⟨q,hq,rfl⟩:=bT.mp ht;exact⟨rfl,.inl ⟨rfl,(rx.mem q).mp hq⟩⟩
 ·rintro i x ρ hx ⟨ps,o4,o5,o6,hp,kX,rfl⟩ N hN;have hi:=(iN.mp hx).1;rw[b9] at hi;obtain⟨a,ha,rfl⟩:∃ a,xs[i]? = some a/\x=.int a:=by rw[nh] at hx;obtain⟨a,ha,e⟩:=I0.mp hx;exact⟨a,ha,e.symm⟩
  have Qc:a∈xs:=ly ha;have hra:=(rx.mem a).mp Qc;have har:=hra.lt aE hs;have LW:=qZ l a;walk_at "q";refine⟨_,GF l har.1 har.2,?_⟩;walk_at "q";refine b_ _ (λj ρ=>∃ (ps:List aI) (o5 o6:Option Sl),Part l s xs i ps/\(∀ p∈(oS l a).take j,p.1 ≠ "*"->∀ q,jv l p.2 q->((s,p.1,q):aI)∈ps)/\ps.length<=20+i*(l.length*20)+j*20/\ρ=[some (.sh (.list (qq many l))),some (.sh (.list (rs.map B6))),some (.sh (.int s)),some (.ow true (.list (ps.map cx))),some (.sh (.int a)),o5,o6]) ⟨ps,_,_,hp,by simp,by lia,rfl⟩ ?_ ?_
  ·clear hp kX;rintro j x ρ hx ⟨ps,o5,o6,hp,hq,kX,rfl⟩ N hN;have hj:=(iN.mp hx).1;rw[b9] at hj;obtain⟨d,b,tj,rfl⟩:∃ d b,(oS l a)[j]? = some (d,b)/\x=.tup [.str d,.int b]:=by rw[nh] at hx;obtain⟨p,hp,e⟩:=I0.mp hx;exact⟨p.1,p.2,hp,e.symm⟩
   have qh:((a,d,b):aI)∈l:=by obtain⟨t,ht,e1,e2⟩:=qR (ly tj);obtain⟨t1,t2⟩:=t;simp only at e1 e2;subst e1 e2;exact ht
   have hbr:=(aE _ qh).2.2.2;have tk:(oS l a).take (j+1)=(oS l a).take j++[(d,b)]:=by rw[zv,tj];rfl
   have mQ':20+i*(l.length*20)+j*20<=8000000:=by have h1:i*(l.length*20)<=20*(10000*20):=zD (by lia) (by lia);lia
   walk_at "q";by_cases hd:d = "*"
   ·refine R.F (by simp[hd]) ?_;walk_at "q";refine hN _ ⟨ps,_,_,hp,λp fz gL=>?_,by lia,rfl⟩;rw[tk] at fz;rcases dP.mp fz with fz|fz
    ·exact hq p fz gL
    ·rw[oo.mp fz] at gL;exact absurd hd gL
   ·refine R.T (by simp[hd]) ?_;obtain⟨ys,ey,ry⟩:=Uq.get hbr;have hyl:=ry.len aE hbr hm.2;walk_at "q";refine⟨_,ey,?_⟩;rw[show B6 ys=D.list (ys.map .int) from rfl];walk_at "q"
    refine aY (λ_=>true) (λx=>match x with
     |.int q=>cx (s,d,q)
     |x=>x) (λρ=>∃ o,ρ=[o,some (.sh (.str d)),some (.sh (.int s))]) _ _ _ ⟨_,rfl⟩ ?_ ?_
    ·walk_at"r";obtain⟨c,_,rfl⟩:=bT.mp hx;walk_at "q";exact⟨.inl rfl,n2 _ ⟨_,rfl⟩ rfl⟩
    have e1:((ys.map D.int).filter λ_=>true).map (λx=>match x with
      |.int q=>cx (s,d,q)
      |x=>x)=(ys.map λq=>((s,d,q):aI)).map cx:=by
     rw[IE.mpr λ_ _=>rfl,fF,fF];rfl
    rw[e1];refine⟨bN _,by simp only[b9];lia,?_⟩;rw[uA];refine hN _ ⟨ps++ys.map λq=>(s,d,q),_,_,⟨λt ht=>?_,λq E7=>i9 _ (hp.st q E7),λc hc d' b' LV U5 q E7=>i9 _ (hp.nx c hc d' b' LV U5 q E7)⟩,λp fz gL q E7=>?_,by rw[kz,b9];lia,rfl⟩
    ·rcases dP.mp ht with ht|ht
     ·exact hp.ok t ht
     ·obtain⟨q,E7,rfl⟩:=bT.mp ht;exact⟨rfl,.inr ⟨hd,a,b,hra,qh,(ry.mem q).mp E7⟩⟩
    ·rw[tk] at fz;rcases dP.mp fz with fz|fz
     ·exact i9 _ (hq p fz gL q E7)
     ·rw[oo.mp fz] at E7 ⊢;exact gu _ (bT.mpr ⟨q,(ry.mem q).mpr E7,rfl⟩)
  ·clear hp kX;rintro ρ ⟨ps,o5,o6,hp,hq,kX,rfl⟩;rw[b9] at hq kX;rw[zC] at hq;have tk:xs.take (i+1)=xs.take i++[a]:=by rw[zv,ha];rfl
   refine hN _ ⟨ps,_,_,_,⟨hp.ok,hp.st,λc hc d b qh hd q hr=>?_⟩,?_,rfl⟩
   ·rw[tk] at hc;rcases dP.mp hc with hc|hc
    ·exact hp.nx c hc d b qh hd q hr
    ·rw[oo.mp hc] at qh;exact hq (d,b) (wy qh) hd q hr
   ·have:(i+1)*(l.length*20)=i*(l.length*20)+l.length*20:=by rw[Nat.add_mul,Nat.one_mul]
    lia
 ·rintro ρ ⟨ps,o4,o5,o6,hp,kX,rfl⟩;rw[b9] at hp;walk_at "q";refine Hw (m:=.sh) (U:=Rh names s) (by rw[um];lia) (λt ht=>?_) λout up mem=>h out ⟨up,λt=>(mem t).trans ⟨hp.ok t,λ⟨e,es⟩=>?_⟩⟩
  ·obtain⟨e,es⟩:=hp.ok t ht;have ok:=es.in aE (by rw[e];exact hs);exact uc e (es.nm oj hz) ⟨ok.2.2.2.1,by have:=ok.2.2.2.2;lia⟩
  ·obtain⟨t1,t2,t3⟩:=t;simp only at e;subst e;rcases es with⟨e2,r⟩|⟨ne,a,b,r1,m,r2⟩
   ·simp only at e2 r;subst e2;exact hp.st _ ((rx.mem _).mpr r)
   ·exact hp.nx a (by rw[zC];exact(rx.mem a).mpr r1) _ b m ne _ r2
def fJ:WS :=
 (dr (mM (wB (bp Tv (av 1) (gV yB (av 0))))
 (nL (bp eC (av 0) (av 1)))
 cI)
 (nL (wC (.int 0))))
def bh:jS:=λds Q=>∃ (ns:List Int) (k:Int),ds=[.list (ns.map .int),.int k]/\0<=k/\Q .sh (.int (ns.getD k.toNat 0))
def iU (ds Q) (h:bh ds Q):ds.length=["_law_script", "_law_k"].length:=by obtain⟨_,_,rfl,_⟩:=h;rfl
def k_:∀ ds Q,bh ds Q->fJ { nx:=λ_=>Q .sh .non,rt:=Q } (aH 2 ds):=by
 rintro ds Q ⟨ns,k,rfl,hk,h⟩;unfold fJ;walk_at "q";refine R.D (λhl=>?_) λhl=>?_
 ·walk_at "q";have hn:k.toNat<ns.length:=by lia
  refine⟨.int ns[k.toNat],?_,?_⟩
  ·have:=PQ (xs:=ns.map D.int) (j:=k.toNat) (v:=.int ns[k.toNat]) (by simp[hn]);rwa[CC hk] at this
  ·show Q .sh _;simpa[List.getD,hn] using h
 ·walk_at "q";have:ns.getD k.toNat 0=0:=by
   have:ns.length<=k.toNat:=by lia
   simp[List.getD,wm this]
  rwa[this] at h
def iH:WS :=
 (dr (fR 1 (wC (.str "abcdefghijklmnopqrstuvwxyz")))
 (dr (fR 2 (bp n9 (bp eC (av 1) (bp oP (bp tN (av 0) (wC (.int 4))) (wC (.int 26)))) (bp Az (bp eC (av 1) (bp oP (bp tN (av 0) (wC (.int 104))) (wC (.int 26)))) (bp oP (bp tN (av 0) (wC (.int 2704))) (wC (.int 5))))))
 (ki 2 (nL (Qt (tP (ak (wC (.str "*")) (ak (av 2) (ak (bp n9 (av 2) (wC (.str "a"))) (ak (bp n9 (wC (.str "b")) (Qt (av 2) (rO (wC (.int 1))) mC)) dz))))) mC (rO (bp n9 (wC (.int 1)) (bp oP (av 0) (wC (.int 4))))))))))
def dI:jS:=λds Q=>∃ c:Int,ds=[.int c]/\∀ names:List Str,1<=names.length->names.length<=4->("*" : Str)∈names->(∀ n∈names,B1 n)->Q (.ow true) (.list (names.map .str))
def lq (ds Q) (h:dI ds Q):ds.length=["_law_cell"].length:=by obtain⟨_,rfl,_⟩:=h;rfl
def zr(h:lets x)(n:Int):lets (rX n x):=λc hc=>by obtain⟨y,hy,hc⟩:=RG.mp hc;rw[List.eq_of_mem_replicate hy] at hc;exact h c hc
def qj:∀ ds Q,dI ds Q->iH { nx:=λ_=>Q .sh .non,rt:=Q } (aH 3 ds):=by
 rintro ds Q ⟨c,rfl,h⟩;unfold iH;walk_at "q";obtain⟨c1,e1,l1⟩:=yz (c / 4);obtain⟨c2,e2,l2⟩:=yz (c / 104);have h5:=CF (c / 2704) (show 5≠0 by decide);have h5':=CD (c / 2704) (show 0<5 by decide);generalize c / 2704 % 5=k at *
 refine⟨c1,e1,c2,e2,?_⟩;have hl:(⟨#[c1]⟩++rX k ⟨#[c2]⟩:Str).length=1+k.toNat:=by rw[bR,nP,aQ,aQ];lia
 have hb:lets (⟨#[c1]⟩++rX k ⟨#[c2]⟩:Str):=nU (jh l1) (zr (jh l2) k);have hr:(rX k ⟨#[c2]⟩).length=k.toNat:=by rw[nP,aQ];lia
 have ha:("a" : Str)=⟨#[97]⟩:=by decide +kernel
 have VC:("b" : Str)=⟨#[98]⟩:=by decide +kernel
 rw[hr,ha,VC,aQ,aQ,aQ,aQ];generalize (⟨#[c1]⟩++rX k ⟨#[c2]⟩:Str)=base at *
 have hc:=uI base (some 1) none;refine⟨⟨h5,by lia,by lia⟩,by lia,by lia,by lia,.inl ?_⟩;have d1:B1 base:=.inr ⟨by lia,by lia,hb⟩;have d2:B1 (base ++ ⟨#[97]⟩):=.inr ⟨by rw[bR,aQ];lia,by rw[bR,aQ];lia,nU hb (jh rfl)⟩;have d3:B1 (⟨#[98]⟩++vx base (some 1) none):=.inr ⟨by rw[bR,aQ];lia,by rw[bR,aQ];lia,nU (jh rfl) (Aj hb _ _)⟩;have all:∀ ns:List Str,ns <+: ["*",base,base ++ ⟨#[97]⟩,⟨#[98]⟩++vx base (some 1) none]->1<=ns.length->ns.length<=4->("*" : Str)∈ns->Q (.ow true) (.list (ns.map .str)):=λns hp a b z=>h ns a b z λn hn=>by
  have:=hp.subset hn;simp only[eK,IH,or_false] at this;rcases this with rfl|rfl|rfl|rfl
  ·exact .inl rfl
  ·exact d1
  ·exact d2
  ·exact d3
 rcases (show c % 4=0\/c % 4=1\/c % 4=2\/c % 4=3 by lia) with e|e|e|e
 ·rw[e];exact all ["*"] ⟨_,rfl⟩ (by simp) (by simp) cy
 ·rw[e];exact all ["*",base] ⟨_,rfl⟩ (by simp) (by simp) cy
 ·rw[e];exact all ["*",base,base ++ ⟨#[97]⟩] ⟨_,rfl⟩ (by simp) (by simp) cy
 ·rw[e];exact all ["*",base,base ++ ⟨#[97]⟩,⟨#[98]⟩++vx base (some 1) none] ⟨[],rfl⟩ (by simp) (by simp) cy
def fC:WS :=
 (dr (fR 3 qu)
 (dr (ki 0 (xk (dN (Qt (av 0) (rO (wC (.int 3))) (rO (wC (.int 11))))) (gN 4)
 (kO (nS 3) (lh (ak (bp oP (av 4) (av 1)) (ak (bp eC (av 2) (bp oP (bp tN (bp tN (av 4) (av 1)) (av 1)) (gV yB (av 2)))) (ak (bp oP (bp tN (av 4) (av 1)) (av 1)) dz)))) (wC (.bl true)))))
 (uV [.inr 1,.inl (gV pR (gV pI (av 3)))])))
def cN:jS:=λds Q=>∃ (ns:List Int) (many:Int) (names:List Str),ds=[.list (ns.map .int),.int many,.list (names.map .str)]/\(1<=many/\many<=6)/\1<=names.length/\(∀ n∈names,B1 n)/\∀ l:List aI,cq many l->pz names l->l.length<=8->Q (.ow true) (mD many l)
def iZ (ds Q) (h:cN ds Q):ds.length=["_law_script", "_law_many", "_law_deeds_here"].length:=by obtain⟨_,_,_,rfl,_⟩:=h;rfl
def oi.xR{P:aI->Prop}(h:oi P kvs){R:List (List Key)->Prop}(k:∀ steps:List aI,(steps.map eI).Perm (kvs.map (·.1))->(∀ s∈steps,P s)->steps.length=kvs.length->R (steps.map eI)) :
  ∃ (ks:List (List Key)) (sh:List Bool),(kvs.map λkv=>D.tup (kv.1.map kM))=ks.map kg/\(∀ k∈ks,ic k=true :: sh)/\∀ ms:List (List Key),ms.Perm ks->(ms.Pairwise λa b=>fA b a=false)->R ms:=by
 refine⟨kvs.map (·.1),[false,true],by rw[fF];rfl,λk hk=>?_,λms pm _=>?_⟩
 ·obtain⟨p,hp,rfl⟩:=bT.mp hk;obtain⟨s,e,_⟩:=h.1 p hp;rw[e];rfl
 ·obtain⟨l,rfl,hl⟩:=iw λk hk=>by obtain⟨p,hp,e⟩:=bT.mp (pm.mem_iff.mp hk);rw[<- e];exact h.1 p hp
  exact k l pm hl (by have:=pm.length_eq;simpa using this)
def fY(l:List aI):(l.map eI).map kg=l.map cx:=by rw[fF];rfl
def Jp(ns:List Int):(tS ns (some 3) (some 11)).length<=8:=by
 unfold tS;rw[oq];have:HT.cK ns.length ns.length (some 11)-HT.cK ns.length 0 (some 3)<=8:=by simp only[HT.cK];rw[if_neg (by decide),if_neg (by decide)];lia
 lia
def kY:∀ ds Q,cN ds Q->fC { nx:=λ_=>Q .sh .non,rt:=Q } (aH 5 ds):=by
 rintro ds Q ⟨ns,many,names,rfl,hm,n1,hd,h⟩;unfold fC;walk_at "q";rw[show tS (ns.map D.int) (some 3) (some 11)=(tS ns (some 3) (some 11)).map D.int by unfold tS;rw[b9,RK,RL]];have cl:=Jp ns;generalize tS ns (some 3) (some 11)=cs at *
 refine .inl ⟨jW ns,?_⟩;refine b_ _ (λi ρ=>∃ (kvs:Kn) (o4:Option Sl),oi (λs=>B3 many s/\s.2.1∈names) kvs/\kvs.length<=i/\ρ=[some (.sh (.list (ns.map .int))),some (.sh (.int many)),some (.sh (.list (names.map .str))),some (.ow true (.dT kvs)),o4]) ⟨[],_,oi.nil,cw _,rfl⟩ ?_ ?_
 ·rintro i x ρ hx ⟨kvs,o4,hk,sf,rfl⟩ N hN;obtain⟨c,rfl,_,_⟩:=int_at hx;obtain⟨n,hn,en⟩:=name_mod (c / many / many) n1;have a0:=CF c (show many≠0 by lia);have a1:=CD c (show 0<many by lia);have b0:=CF (c / many) (show many≠0 by lia);have b1:=CD (c / many) (show 0<many by lia);have hi:=(iN.mp hx).1;rw[b9] at hi;walk_at "q";refine⟨by lia,by lia,by lia,by lia,_,en,?_⟩;walk_at "q";refine⟨by lia,by lia,by lia,?_⟩;have:=bW kvs (eI (c % many,n,c / many % many)) (D.bl true);exact hN _ ⟨_,_,hk.put (s:=(c % many,n,c / many % many)) ⟨⟨a0,a1,hd n hn,b0,b1⟩,hn⟩,by lia,rfl⟩
 ·rintro ρ ⟨kvs,o4,hk,sf,rfl⟩;rw[b9] at sf;walk_at "q";refine hk.xR λsteps pm hP hlen=>?_;rw[fY];exact h steps (λs z=>(hP s z).1) (λs z=>(hP s z).2) (by lia)
def dR:WS :=
 (dr (fR 2 qu)
 (dr (fR 3 (bp eC (av 0) (wC (.int 0))))
 (dr (ki 0 (xk (t8 (bp eC (av 0) (wC (.int 1)))) (gT 2 (b7 (gN 4) (b7 (gN 5) mV)))
 (dr (fR 6 (bp oP (bp tN (av 1) (bp n9 (bp n9 (bp Tt (av 4) (av 4)) (av 4)) (wC (.int 1)))) (wC (.int 4))))
 (dr (mM (Oy (wB (bp rV (av 6) (wC (.int 1)))) (wB (bp rV (av 6) (wC (.int 2)))))
 (kO (nS 2) (av 5) (wC (.bl true)))
 cI)
 (dr (mM (wB (bp AI (av 6) (wC (.int 2))))
 (kO (nS 2) (av 5) (wC (.bl true)))
 cI)
 (dr (mM (wB (bp (E3 false) (av 6) (lh (ak (wC (.int 1)) (ak (wC (.int 2)) dz)))))
 (dr (kO (nS 2) (lh (ak (bp eC (av 5) (wC (.int 0))) (ak (bp eC (av 5) (wC (.int 1))) (ak (av 3) dz)))) (wC (.bl true)))
 (dr (kO (nS 2) (lh (ak (av 3) (ak (wC (.str "*")) (ak (bp eC (av 5) (wC (.int 2))) dz)))) (wC (.bl true)))
 (fR 3 (bp n9 (av 3) (wC (.int 1))))))
 cI)
 (mM (wB (bp AI (av 6) (wC (.int 3))))
 (kO (nS 2) (lh (ak (bp eC (av 5) (wC (.int 2))) (ak (wC (.str "*")) (ak (bp eC (av 5) (wC (.int 2))) dz)))) (wC (.bl true)))
 cI)))))))
 (uV [.inr 3,.inl (gV pR (gV pI (av 2)))]))))
def oi.has{P:aI->Prop}(h:oi P kvs)(ht:zk kvs t):P t:=by obtain⟨p,hp,e⟩:=bT.mp ht;obtain⟨s,es,hs⟩:=h.1 p hp;rw[<- gO (es.symm.trans e)];exact hs
def oi.imp{P P':aI->Prop}(h:oi P kvs)(f:∀ s,P s->P' s):oi P' kvs:=⟨λp hp=>by
 obtain⟨s,e,hs⟩:=h.1 p hp;exact⟨s,e,f s hs⟩,h.2⟩
def upd(π:Int->Int)(x y:Int):Int->Int:=λt=>if t=x then y else π t
section
variable {n1 n2:Int}{l1 done:List aI}{S S':aI->Prop}{π:Int->Int}{p q:Int}{d:Str}
def Sx.put (X:Sx n1 l1 done n2 S π) (hS:∀ t,S' t↔S t\/t=s) (h:(π s.1,s.2.1,π s.2.2)∈l1\/(s.2.1 = "*"/\π s.1=π s.2.2)):Sx n1 l1 done n2 S' π :=
 ⟨X.le,X.EA,X.D1,λt ht=>(X.fwd t ht).imp (λz=>(hS t).mpr (.inl z)) λ⟨x,a,b⟩=>⟨x,(hS _).mpr (.inl a),(hS _).mpr (.inl b)⟩,λt ht=>((hS t).mp ht).elim (X.Rg t) λe=>by rw[e];exact h,λt a b=>(hS _).mpr (.inl (X.DS t a b))⟩
def Sx.more (X:Sx n1 l1 done n2 S π) (h:S s\/∃ x,S (s.1,s.2.1,x)/\S (x, "*",s.2.2)):Sx n1 l1 (done++[s]) n2 S π :=
 ⟨X.le,X.EA,X.D1,λt ht=>(dP.mp ht).elim (X.fwd t) λz=>by rw[oo.mp z];exact h,X.Rg,X.DS⟩
def Sx.new (X:Sx n1 l1 done n2 S π) (hs:∀ t,S t->(0<=t.1/\t.1<n2)/\(0<=t.2.2/\t.2.2<n2)) (p1:1<=n1) (hp:0<=p/\p<n1) (hq:0<=q/\q<n1) (hm:(p,d,q)∈l1) (hS:∀ t,S' t↔(S t\/t=(p,d,n2))\/t=((n2, "*",q):aI)):Sx n1 l1 done (n2+1) S' (upd π n2 q):=by
 have old:∀ t,t<n2->upd π n2 q t=π t:=λt h=>by unfold upd;rw[if_neg (by lia)]
 have new:upd π n2 q n2=q:=by unfold upd;rw[if_pos rfl]
 have le:=X.le;have ep:upd π n2 q p=p:=by rw[old p (by lia),X.D1 p hp.1 hp.2]
 have eq:upd π n2 q q=q:=by rw[old q (by lia),X.D1 q hq.1 hq.2]
 refine⟨by lia,λt a b=>?_,λs a b=>by rw[old s (by lia)];exact X.D1 s a b,λt ht=>?_,λt ht=>?_,λt a b=>?_⟩
 ·by_cases e:t=n2
  ·rw[e,new];exact hq
  ·rw[old t (by lia)];exact X.EA t a (by lia)
 ·exact(X.fwd t ht).imp (λz=>(hS t).mpr (.inl (.inl z))) λ⟨x,a,b⟩=>⟨x,(hS _).mpr (.inl (.inl a)),(hS _).mpr (.inl (.inl b))⟩
 ·rcases (hS t).mp ht with(z|rfl)|rfl
  ·obtain⟨a,b⟩:=hs t z;rw[old _ a.2,old _ b.2];exact X.Rg t z
  ·exact .inl (by rw[ep,new];exact hm)
  ·exact .inr ⟨rfl,by rw[new,eq]⟩
 ·by_cases e:t=n2
  ·rw[e,new];exact(hS _).mpr (.inr rfl)
  ·rw[old t (by lia)];exact(hS _).mpr (.inl (.inl (X.DS t a (by lia))))
end
def bU:jS:=λds Q=>∃ (n1 bits:Int) (l1:List aI) (names:List Str),ds=[mD n1 l1,.int bits]/\(1<=n1/\n1<=6)/\cq n1 l1/\pz names l1/\("*" : Str)∈names/\l1.length<=8/\∀ (n2:Int) (l2:List aI) (π:Int->Int),(n1<=n2/\n2<=n1+8)->cq n2 l2->pz names l2->l2.length<=24->Sx n1 l1 l1 n2 (·∈l2) π->Q (.ow true) (mD n2 l2)
def gQ (ds Q) (h:bU ds Q):ds.length=["_law_m", "_law_bits"].length:=by obtain⟨_,_,_,_,rfl,_⟩:=h;rfl
abbrev SIv(n1 bits:Int)(l1:List aI)(names:List Str)(i:Nat)(ρ:L2.Q.Env):Prop:=∃ (kvs:Kn) (n2:Int) (π:Int->Int) (o4 o5 o6:Option Sl),oi (λs=>B3 n2 s/\s.2.1∈names) kvs/\kvs.length<=3*i/\(n1<=n2/\n2<=n1+i)/\Sx n1 l1 (l1.take i) n2 (zk kvs) π/\ρ=[some (.sh (mD n1 l1)),some (.sh (.int bits)),some (.ow true (.dT kvs)),some (.sh (.int n2)),o4,o5,o6]
def iV:∀ ds Q,bU ds Q->dR { nx:=λ_=>Q .sh .non,rt:=Q } (aH 7 ds):=by
 rintro ds Q ⟨n1,bits,l1,names,rfl,hm,aE,oj,hz,hl,h⟩;unfold dR;rw[show aH 7 [mD n1 l1,.int bits]=[some (.sh (mD n1 l1)),some (.sh (.int bits)),none,none,none,none,none] from rfl];rw[show mD n1 l1=.tup [.int n1,.list (l1.map cx)] from rfl];walk_at "q";refine b_ _ (SIv n1 bits l1 names) ⟨[],n1,id,none,none,none,oi.nil,fI _,by lia,⟨qc _,λt a b=>⟨a,b⟩,λs _ _=>rfl,λt ht=>(nomatch ht),λt ht=>(nomatch ht),λt a b=>(by lia)⟩,rfl⟩ ?_ ?_
 ·rintro i x ρ hx ⟨kvs,n2,π,o4,o5,o6,hk,sf,hn,X,rfl⟩ N hN;unfold nO at hx;rw[UG,nh] at hx;obtain⟨y,hy,rfl⟩:=I0.mp hx;obtain⟨⟨p,d,q⟩,hs,rfl⟩:=I0.mp hy;have hi:=(iN.mp hs).1;have mem:=ly hs;have ok:=aE _ mem;have tk:l1.take (i+1)=l1.take i++[(p,d,q)]:=by rw[zv,hs];rfl
  clear hx hy;unfold cx mD;have ii:(i:Int)*i<=64:=by have:=Int.mul_le_mul (show(i:Int)<=8 by lia) (show(i:Int)<=8 by lia) (by lia) (by decide);exact this
  have ij:0<=(i:Int)*i:=R4 (by lia) (by lia);have o1:0<=p:=ok.1;have o2:p<n1:=ok.2.1;have o3:0<=q:=ok.2.2.2.1;have o4':q<n1:=ok.2.2.2.2;have dn':=oj _ mem;have idp:=X.D1 p o1 o2;have idq:=X.D1 q o3 o4';have rg:∀ t,zk kvs t->(0<=t.1/\t.1<n2)/\(0<=t.2.2/\t.2.2<n2):=λt ht=>by have:=(hk.has ht).1;exact⟨⟨this.1,this.2.1⟩,this.2.2.2⟩
  have okm:B3 n2 (p,d,q):=⟨o1,by lia,ok.2.2.1,o3,by show q<n2;lia⟩
  have m1:(π p,d,π q)∈l1:=by rw[idp,idq];exact mem
  -- the step is kept
  have X1:Sx n1 l1 (l1.take (i+1)) n2 (zk (gX kvs (eI (p,d,q)) (.bl true))) π:=by rw[tk];exact(X.put (λt=>cX) (.inl m1)).more (.inl (cX.mpr (.inr rfl)))
  have k1:oi (λs=>B3 n2 s/\s.2.1∈names) (gX kvs (eI (p,d,q)) (.bl true)):=hk.put ⟨okm,dn'⟩;have l1':=bW kvs (eI (p,d,q)) (D.bl true);have way:bits / ((i:Int)*i+i+1) % 4=0\/bits / ((i:Int)*i+i+1) % 4=1\/bits / ((i:Int)*i+i+1) % 4=2\/bits / ((i:Int)*i+i+1) % 4=3:=by lia
  walk_at "q";refine⟨.inl ⟨by lia,by lia⟩,⟨by lia,by lia⟩,?_⟩;have Xw:∀ (Ri:Kn) dn,oi (λs=>B3 n2 s/\s.2.1∈names) Ri->Sx n1 l1 dn n2 (zk Ri) π->Sx n1 l1 dn (n2+1) (zk (gX (gX Ri (eI (p,d,n2)) (.bl true)) (eI (n2, "*",q)) (.bl true))) (upd π n2 q)/\oi (λs=>B3 (n2+1) s/\s.2.1∈names) (gX (gX Ri (eI (p,d,n2)) (.bl true)) (eI (n2, "*",q)) (.bl true)):=λRi dn h9 X'=>by
   refine⟨X'.new (λt ht=>?_) hm.1 ⟨o1,o2⟩ ⟨o3,o4'⟩ mem λt=>?_,?_⟩
   ·have:=(h9.has ht).1;exact⟨⟨this.1,this.2.1⟩,this.2.2.2⟩
   ·rw[cX,cX]
   ·refine((h9.imp λs z=>⟨⟨z.1.1,by have:=z.1.2.1;lia,z.1.2.2.1,z.1.2.2.2.1,by have:=z.1.2.2.2.2;lia⟩,z.2⟩).put ⟨⟨o1,by lia,ok.2.2.1,by show 0<=n2;lia,by show n2<n2+1;lia⟩,dn'⟩).put ⟨⟨by lia,by lia,.inl rfl,o3,by show q<n2+1;lia⟩,hz⟩
  rcases way with e|e|e|e
  ·refine R.T (by rw[e];decide) ?_;walk_at "q";refine R.T (by rw[e];decide) ?_;walk_at "q";refine⟨by lia,R.F (by rw[e];decide) ?_⟩;walk_at "q";refine⟨rfl,rfl,R.F (by rw[e];decide) ?_⟩;walk_at "q";refine R.F (by rw[e];decide) ?_;walk_at "q";exact hN _ ⟨_,n2,π,_,_,_,k1,by lia,by lia,X1,rfl⟩
  ·refine R.F (by rw[e];decide) ?_;walk_at "q";refine R.F (by rw[e];decide) ?_;walk_at "q";refine⟨rfl,rfl,R.T (by rw[e];decide) ?_⟩;walk_at "q";have a1:=bW kvs (eI (p,d,n2)) (D.bl true);have a2:=bW (gX kvs (eI (p,d,n2)) (D.bl true)) (eI (n2, "*",q)) (D.bl true);obtain⟨x1,x2⟩:=Xw kvs _ hk X;have x1:=x1.more (s:=(p,d,q)) (.inr ⟨n2,cX.mpr (.inl (cX.mpr (.inr rfl))),cX.mpr (.inr rfl)⟩);rw[<- tk] at x1;refine⟨by lia,Pj a1 (by lia),R.F (by rw[e];decide) ?_⟩;walk_at "q";exact hN _ ⟨_,n2+1,_,_,_,_,x2,by lia,by lia,x1,rfl⟩
  ·refine R.T (by rw[e];decide) ?_;walk_at "q";refine R.F (by rw[e];decide) ?_;walk_at "q";refine R.T (by rw[e];decide) ?_;walk_at "q";refine⟨by lia,rfl,rfl,R.T (by rw[e];decide) ?_⟩;walk_at "q";have a1:=bW (gX kvs (eI (p,d,q)) (.bl true)) (eI (p,d,n2)) (D.bl true);have a2:=bW (gX (gX kvs (eI (p,d,q)) (.bl true)) (eI (p,d,n2)) (D.bl true)) (eI (n2, "*",q)) (D.bl true);obtain⟨x1,x2⟩:=Xw _ _ k1 X1;refine⟨Pj l1' (by lia),Pj a1 (by lia),R.F (by rw[e];decide) ?_⟩;walk_at "q";exact hN _ ⟨_,n2+1,_,_,_,_,x2,by lia,by lia,x1,rfl⟩
  ·refine R.T (by rw[e];decide) ?_;walk_at "q";refine R.T (by rw[e];decide) ?_;walk_at "q";refine⟨by lia,R.F (by rw[e];decide) ?_⟩;walk_at "q";refine⟨rfl,rfl,R.F (by rw[e];decide) ?_⟩;walk_at "q";refine R.T (by rw[e];decide) ?_;walk_at "q";have a1:=bW (gX kvs (eI (p,d,q)) (.bl true)) (eI (q, "*",q)) (D.bl true);have x1:=X1.put (S':=zk (gX (gX kvs (eI (p,d,q)) (.bl true)) (eI (q, "*",q)) (.bl true))) (λt=>cX) (.inr ⟨rfl,rfl⟩);have x2:=k1.put (s:=(q, "*",q)) (d:=.bl true) ⟨⟨o3,by lia,.inl rfl,o3,by show q<n2;lia⟩,hz⟩;exact⟨Pj l1' (by lia),hN _ ⟨_,n2,π,_,_,_,x2,by lia,by lia,x1,rfl⟩⟩
 ·rintro ρ ⟨kvs,n2,π,o4,o5,o6,hk,sf,hn,X,rfl⟩;unfold nO at sf hn X;rw[UJ,b9] at sf hn X;rw[zC] at X;unfold mD;walk_at "q";refine hk.xR λsteps pm hP hlen=>?_;rw[fY];have mm:∀ t,zk kvs t↔t∈steps:=λt=>by unfold zk;rw[<- pm.mem_iff,bT];exact⟨λ⟨s,hs,e⟩=>gO e ▸ hs,λz=>⟨t,z,rfl⟩⟩
  have X:Sx n1 l1 l1 n2 (·∈steps) π:=by have:zk kvs=(·∈steps):=funext λt=>propext (mm t);rw[this] at X;exact X
  exact h n2 steps π (by lia) (λs z=>(hP s z).1) (λs z=>(hP s z).2) (by lia) X
def bJ:WS :=
 (dr (fR 4 (lh (ak (bp oP (bp tN (av 2) (wC (.int 2))) (bp eC (av 0) (wC (.int 0)))) (ak (bp eC (av 1) (bp oP (bp tN (av 2) (wC (.int 14))) (gV yB (av 1)))) (ak (bp oP (bp tN (av 2) (wC (.int 98))) (bp eC (av 0) (wC (.int 0)))) dz)))))
 (dr (mM (wB (bp (T5 true) (av 4) (av 3)))
 (ki 4 (G0 (nS 3) (av 4)))
 cI)
 (nL (lh (ak (bp eC (av 0) (wC (.int 0))) (ak (gV pR (av 3)) dz))))))
def fj:WS :=
 (dr (fR 3 (gV pI (bp eC (av 0) (wC (.int 1)))))
 (dr (mM (Oy (wB (bp rV (av 3) (tP dz))) (wB (bp AI (bp oP (av 2) (wC (.int 2))) (wC (.int 0)))))
 (dr (Fj (nS 3) (bp oP (bp tN (av 2) (wC (.int 2))) (gV yB (av 3))))
 (uV [.inl (bp eC (av 0) (wC (.int 0))),.inr 3]))
 cI)
 bJ))
def cL:jS:=λds Q=>∃ (n c:Int) (l:List aI) (names:List Str),ds=[mD n l,.list (names.map .str),.int c]/\1<=n/\cq n l/\pz names l/\(∀ n∈names,B1 n)/\1<=names.length/\l.length<=24/\∀ out:List aI,cq n out->pz names out->out.length<=25->Q (.ow true) (mD n out)
def iY (ds Q) (h:cL ds Q):ds.length=["_law_m", "_law_deeds_here", "_law_cell"].length:=by obtain⟨_,_,_,_,rfl,_⟩:=h;rfl
def rn{P:aI->Prop}{l:List aI}(hp:∀ s∈l,P s){R:List (List Key)->Prop}(k:∀ out:List aI,(∀ s∈out,P s)->out.length=l.length->R (out.map eI)) :
  ∃ (ks:List (List Key)) (sh:List Bool),l.map cx=ks.map kg/\(∀ k∈ks,ic k=true :: sh)/\∀ ms:List (List Key),ms.Perm ks->(ms.Pairwise λa b=>fA b a=false)->R ms:=by
 refine⟨l.map eI,[false,true],(fY l).symm,λk hk=>?_,λms pm _=>?_⟩
 ·obtain⟨s,_,rfl⟩:=bT.mp hk;rfl
 ·obtain⟨out,rfl,ho⟩:=iw λk hk=>by obtain⟨s,hs,e⟩:=bT.mp (pm.mem_iff.mp hk);exact⟨s,e.symm,hp s hs⟩
  exact k out ho (by have:=pm.length_eq;simpa using this)
def pU{Q:Md->D->Prop}{n c:Int}{l:List aI}{names:List Str}(n1:1<=n)(aE:cq n l)(oj:pz names l)(hd:∀ n∈names,B1 n)(nl:1<=names.length)(hl:l.length<=24)(h:∀ out:List aI,cq n out->pz names out->out.length<=25->Q (.ow true) (mD n out)):bJ { nx:=λ_=>Q .sh .non,rt:=Q } [some (.sh (.tup [.int n,.list (l.map cx)])),some (.sh (.list (names.map .str))),some (.sh (.int c)),some (.ow true (.list (l.map cx))),none]:=by
 obtain⟨d,Zb,ed⟩:=name_mod (c / 14) nl;have a0:=CF (c / 2) (show n≠0 by lia);have a1:=CD (c / 2) (show 0<n by lia);have b0:=CF (c / 98) (show n≠0 by lia);have b1:=CD (c / 98) (show 0<n by lia);have fin:∀ ls:List aI,(∀ s∈ls,B3 n s/\s.2.1∈names)->ls.length<=25->∃ (ks:List (List Key)) (sh:List Bool),ls.map cx=ks.map kg/\(∀ k∈ks,ic k=true :: sh)/\∀ ms:List (List Key),ms.Perm ks->(ms.Pairwise λa b=>fA b a=false)->Q (.ow true) (.tup [.int n,.list (ms.map kg)]):=λls hp hz=>rn hp λout ho hz2=>by rw[fY];exact h out (λs z=>(ho s z).1) (λs z=>(ho s z).2) (by lia)
 have O4:dS 12 (.tup [.int (c / 2 % n),.str d,.int (c / 98 % n)])=true:=Bu 11 (s:=(c / 2 % n,d,c / 98 % n)) ⟨a0,a1,hd d Zb,b0,b1⟩;unfold bJ;walk_at "q";refine⟨by lia,by lia,_,ed,?_⟩;walk_at "q";refine⟨by lia,O4,su 10 aE,?_⟩;refine R.B (λz=>?_) λz=>?_
 ·walk_at "q";rw[show l.map cx++[D.tup [.int (c / 2 % n),.str d,.int (c / 98 % n)]]=(l++[((c / 2 % n,d,c / 98 % n):aI)]).map cx by rw[qB];rfl];refine⟨by lia,fin _ (λs hs=>?_) (by rw[kz,Fh];lia)⟩;rcases dP.mp hs with hs|hs
  ·exact⟨aE s hs,oj s hs⟩
  ·rw[oo.mp hs];exact⟨⟨a0,a1,hd d Zb,b0,b1⟩,Zb⟩
 ·walk_at "q";exact fin l (λs hs=>⟨aE s hs,oj s hs⟩) (by lia)
def kj:∀ ds Q,cL ds Q->fj { nx:=λ_=>Q .sh .non,rt:=Q } (aH 5 ds):=by
 rintro ds Q ⟨n,c,l,names,rfl,n1,aE,oj,hd,nl,hl,h⟩;obtain⟨w2,e2⟩:∃ w,w=bJ:=⟨_,rfl⟩
 unfold fj;rw[<- e2];rw[show mD n l=.tup [.int n,.list (l.map cx)] from rfl];walk_at "q";refine .inl ⟨bN l,su 10 aE,rfl,?_⟩;refine R.B (λz=>?_) λz=>?_
 ·walk_at "q";refine R.D (λe=>?_) λe=>?_
  ·walk_at "q";have l0:0<l.length:=by
    cases l with
    |nil=>exact absurd z (by decide)
    |cons _ _=>simp
   have i0:=CF (c / 2) (show(l.length:Int)≠0 by lia);have i1:=CD (c / 2) (show 0<(l.length:Int) by lia);have jn:(c / 2 % l.length).toNat<l.length:=by lia
   refine⟨by lia,cx l[(c / 2 % l.length).toNat],i0,by rw[nh,kR jn];rfl,rfl,?_⟩;have er:(l.map cx).eraseIdx (c / 2 % l.length).toNat=(l.eraseIdx (c / 2 % l.length).toNat).map cx:=by rw[Uw,Uw,qB,RK,RL]
   rw[er];exact h _ (λs z=>aE s (List.mem_of_mem_eraseIdx z)) (λs z=>oj s (List.mem_of_mem_eraseIdx z)) (by rw[Rw];split<;>lia)
  ·walk_at "q";rw[e2];exact pU n1 aE oj hd nl hl h
 ·walk_at "q";rw[e2];exact pU n1 aE oj hd nl hl h
def fM:WS :=
 (dr (mM (wB (bp Qq (bp eC (av 0) (wC (.int 0))) (wC (.int 20))))
 lW
 cI)
 (dr (mM (wB (bp Qq (gV yB (bp eC (av 0) (wC (.int 1)))) (wC (.int 80))))
 lW
 cI)
 (mM (wB (bp Qq (gV yB (dB (cT (aP fQ (ak (av 0) dz))) (gN 0) (wB (aP g_ (ak (av 0) dz))) (av 0) 1 [])) (wC (.int 6))))
 lW
 cI)))
def cH:jS:=λds Q=>∃ (many:Int) (l:List aI) (pool:List Str),ds=[mD many l]/\many<=20/\l.length<=63/\pool.length<=6/\Kd pool l/\Q .sh .non
def iR (ds Q) (h:cH ds Q):ds.length=["m"].length:=by obtain⟨_,_,_,rfl,_⟩:=h;rfl
def kJ:∀ ds Q,cH ds Q->fM { nx:=λ_=>Q .sh .non,rt:=Q } (aH 1 ds):=by
 rintro ds Q ⟨many,steps,pool,rfl,hm,hz,hp,hk,h⟩;unfold fM mD;walk_at "q";refine R.D (λa=>absurd a (by lia)) λa=>?_;walk_at "q";refine R.D (λa=>absurd a (by lia)) λa=>?_;walk_at "q";refine⟨many,steps,rfl,hz,λnames nd mm=>?_⟩;walk_at "q"
 refine aY (λd=>match d with
  |.str x=>decide (1<=x.length/\x.length<=6) && (sg x).all isLet
  |_=>false) (λd=>d) (λρ=>∃ o,ρ=[o]) _ _ _ ⟨_,rfl⟩ ?_ ?_
 ·walk_at"r";obtain⟨n,hn,rfl⟩:=bT.mp hx;walk_at "q";refine⟨_,rfl,?_⟩;walk_at "q"
  cases e:(decide (1<=n.length/\n.length<=6) && (sg n).all isLet) with
  |true =>exact⟨.inl rfl,n2 _ ⟨_,rfl⟩ e⟩
  |false =>exact n1 _ ⟨_,rfl⟩ e
 ·have e1:(names.map D.str).filter (λd=>match d with
    |.str x=>decide (1<=x.length/\x.length<=6) && (sg x).all isLet
    |_=>false)=(names.filter λx=>decide (1<=x.length/\x.length<=6) && (sg x).all isLet).map D.str:=by
   rw[List.filter_map];rfl
  rw[e1,b9,b9];have hl:(names.filter λx=>decide (1<=x.length/\x.length<=6) && (sg x).all isLet).length<=pool.length:=TS.aV (nd.filter _) λx hx=>by
   obtain⟨h1,h2⟩:=ot.mp hx;obtain⟨s,gx,e⟩:=bT.mp ((mm x).mp h1);have h3:=hk s gx;rw[e] at h3;rcases h3 with h3|h3
   ·subst h3;exact absurd h2 (by decide +kernel)
   ·exact h3
  refine R.D (λc=>absurd c (by lia)) λc=>?_;walk_at "q";exact h
def fD:WS :=
 (dr (fR 2 (dB (jC (gV yB (av 1))) (gN 0) vS (aP j4 (ak (av 1) (ak (av 2) (ak (av 0) dz)))) 1 [0,1]))
 (dr (fR 3 (tP dz))
 (dr (ki 2 (xk (dN (gV yZ (av 2))) (gN 4)
 (mM (wB (bp (T5 true) (av 4) (av 3)))
 (ki 4 (G0 (nS 3) (av 4)))
 cI)))
 (nL (dB (cT (av 2)) (gN 0) vS (ur (av 1) (av 0)) 1 [3])))))
def bM:jS:=λds Q=>∃ (many:Int) (steps:List aI) (eL:List Int),ds=[HL many steps,.list (eL.map .int)]/\(0<=many/\many<=1000)/\eL.length=many.toNat/\cq many steps/\steps.length<=1000/\∀ r,RB many steps eL r->Q (.ow true) (.list (r.map .int))
def iW (ds Q) (h:bM ds Q):ds.length=["exits", "ranks"].length:=by obtain⟨_,_,_,rfl,_⟩:=h;rfl
def kh:∀ ds Q,bM ds Q->fD { nx:=λ_=>Q .sh .non,rt:=Q } (aH 5 ds):=by
 rintro ds Q ⟨many,steps,eL,rfl,hm,hr,aE,hl,h⟩;unfold fD HL;walk_at "q";refine⟨by lia,by lia,?_⟩;refine gr (λn out=>∃ l:List Ky,out=l.map i7/\l.length=n/\∀ (i:Nat) k,l[i]? = some k->Mk steps eL i k) (λρ=>∃ o,ρ=[o,some (.sh (.list (qq many steps))),some (.sh (.list (eL.map .int)))]) _ 0 [] _ _ ⟨_,rfl⟩ ⟨[],rfl,rfl,λi k hk=>by simp at hk⟩ ?_ ?_
 ·rintro j y hy ρ ⟨o,rfl⟩ out ⟨l,rfl,Zc,hk⟩ N1 N2 KL;have hj:=(jB hy).1;obtain⟨_,rfl⟩:=jB hy;walk_at "q";refine⟨many,steps,eL,0+j,rfl,by lia,hr,aE,hl,λk xa=>?_⟩;walk_at "q";refine⟨.inr rfl,KL _ _ ⟨_,rfl⟩ ⟨l++[k],by simp,by simp[Zc],λi k' h9=>?_⟩⟩;rcases IU i l.length with hi|hi
  ·rw[Fc hi] at h9;exact hk i k' h9
  ·rw[Cb hi] at h9;have vw:i-l.length=0:=by
    rcases UR (i-l.length) with z|z
    ·exact z
    ·rw[wm (by simp;lia)] at h9;cases h9
   rw[vw] at h9;cases h9;have:i=0+j:=by lia
   rw[this];exact xa
 rintro out ⟨l,e,Zc,hk⟩;simp only[RJ] at e;subst e;rw[mX,IQ] at Zc;have MB:∀ k∈l,v3 k:=λk ua=>by obtain⟨i,hi⟩:=MZ.mp ua;exact(hk i k hi).ok aE
 refine⟨λd hd=>?_,λms pm pw=>?_⟩
 ·obtain⟨k,ua,rfl⟩:=bT.mp hd;exact⟨zZ (MB k ua) 9,(MB k ua).xC⟩
 obtain⟨l2,rfl,yb⟩:=Q9 λd hd=>by obtain⟨k,ua,e⟩:=bT.mp (pm.mem_iff.mp hd);exact⟨k,e.symm,ua⟩
 have back:∀ k∈l,k∈l2:=λk ua=>by obtain⟨j,hj,e⟩:=bT.mp (pm.mem_iff.mpr (bT.mpr ⟨k,ua,rfl⟩));rw[<- x_ e];exact hj
 have mU':l2.length=l.length:=by have:=pm.length_eq;simpa using this
 rw[iP] at pw;have pw:l2.Pairwise λa b=>t9 b a=false:=pw;refine b_ _ (λi ρ=>∃ (diff:List Ky) (fl:Bool) (o4:Option Sl),diff.Pairwise (λa b=>t9 a b=true)/\(∀ k,k∈diff↔k∈l2.take i)/\diff.length<=i/\ρ=[some (.sh (.list (qq many steps))),some (.sh (.list (eL.map .int))),some (.sh (.list (l.map i7))),some (.ow fl (.list (diff.map i7))),o4]) ⟨[],true,none,.nil,by simp,by simp,rfl⟩ ?_ ?_
 ·rintro i x ρ hx ⟨diff,fl,o4,up,mem,dl,rfl⟩ N hN;obtain⟨hi,Rj⟩:=iN.mp hx;have kK:i<l2.length:=by simpa using hi
  have Zd:x=i7 l2[i]:=by rw[<- Rj];simp
  subst Zd;have ua:l2[i]∈l:=yb _ (wo kK);have tk:l2.take (i+1)=l2.take i++[l2[i]]:=by rw[zv,kR kK];rfl
  have O4:∀ k∈diff,v3 k:=λk Rk=>MB k (yb k (Rv ((mem k).mp Rk)));generalize ek:l2[i]=k at *
  walk_at "q";refine⟨zZ (MB k ua) 9,Ci O4 8,?_⟩;rw[Jc];by_cases hd:k∈diff
  ·refine R.F (by simp[hd]) ?_;walk_at "q";refine hN _ ⟨diff,fl,_,up,λk'=>?_,by lia,rfl⟩;rw[mem,tk,dP,oo];exact⟨.inl,λz=>z.elim id λe=>by rw[e];exact(mem k).mp hd⟩
  ·refine R.T (by simp[hd]) ?_;walk_at "q";refine⟨by lia,?_⟩;refine hN _ ⟨diff++[k],fl && (i7 k).flat,some (.sh (i7 k)),?_,λk'=>?_,by simp;lia,by simp⟩
   ·refine IC.mpr ⟨up,by simp,λa ha b hb=>?_⟩;rw[oo.mp hb]
    cases h3:t9 a k with
    |true=>rfl
    |false =>
     have h4:t9 k a=false:=by
      obtain⟨j,hj⟩:=MZ.mp ((mem a).mp ha);obtain⟨Oh,Q_⟩:=iN.mp hj;have WC:j<i:=by rw[oq] at Oh;lia
      have:=xI.mp pw j i (by lia) kK WC;rw[ek] at this;rw[List.getElem_take] at Q_;rwa[Q_] at this
     exact absurd (Fb (O4 a ha) (MB k ua) h3 h4) λe=>hd (by rw[<- e];exact ha)
   ·rw[dP,oo,mem,tk,dP,oo]
 ·rintro ρ ⟨diff,fl,o4,up,mem,dl,rfl⟩;rw[b9,zC] at mem;have md:∀ k,k∈diff↔k∈l:=λk=>(mem k).trans ⟨yb k,back k⟩;have O4:∀ k∈diff,v3 k:=λk Rk=>MB k ((md k).mp Rk);walk_at "q";refine gr (λn out=>∃ r:List Int,out=r.map .int/\r.length=n/\∀ (i:Nat) x,r[i]? = some x->0<=x/\diff[x.toNat]? = l[i]?) (λρ=>∃ o,ρ=[o,some (.sh (.list (diff.map i7)))]) _ 0 [] _ _ ⟨_,rfl⟩ ⟨[],rfl,rfl,λi k hk=>by simp at hk⟩ ?_ ?_
  ·rintro j y hy ρ ⟨o,rfl⟩ out ⟨r,rfl,HP,BE⟩ N1 N2 KL;obtain⟨hj,Vy⟩:=iN.mp hy;have rL:j<l.length:=by simpa using hj
   have hye:y=i7 l[j]:=by rw[<- Vy];simp
   subst hye;have ua:l[j]∈l:=wo rL;have hlj:l[j]? = some l[j]:=kR rL;generalize l[j]=k at *
   have Rk:=(md k).mpr ua;have AF:=List.idxOf_lt_length_of_mem Rk;walk_at "q";refine⟨Ci O4 8,zZ (MB k ua) 9,diff.idxOf k,⟨i7 k,?_,by rw[vp];exact decide_eq_true rfl⟩,λi z hi hz=>?_,.inl rfl,KL _ _ ⟨_,rfl⟩ ⟨r++[((diff.idxOf k:Nat):Int)],by simp,by simp[HP],λi x hx=>?_⟩⟩
   ·rw[nh,kR AF,Ry AF];rfl
   ·rw[nh,kR (by lia)] at hz;cases hz;rw[vp];refine decide_eq_false λe=>?_;have:=List.not_of_lt_findIdx hi;rw[show diff[i]=k from e] at this;simp at this
   ·rcases IU i r.length with hi|hi
    ·rw[Fc hi] at hx;exact BE i x hx
    ·rw[Cb hi] at hx;have vw:i-r.length=0:=by
      rcases UR (i-r.length) with z|z
      ·exact z
      ·rw[wm (by simp;lia)] at hx;cases hx
     rw[vw] at hx;cases hx;have:i=j:=by lia
     subst this;refine⟨by lia,?_⟩;rw[hlj,Pp,kR AF,Ry AF]
  rintro out ⟨r,e,HP,BE⟩;simp only[RJ] at e;subst e;rw[b9,IQ] at HP;refine h r ⟨λs=>l.getD s.toNat (0,[]),diff,by lia,λs a b=>?_,up,λk=>?_,λs a b=>?_⟩
  ·have hs:s.toNat<l.length:=by lia
   have:=hk s.toNat l[s.toNat] (kR hs);rw[CC a] at this;simpa[List.getD,hs] using this
  ·rw[md];constructor
   ·intro ua;obtain⟨i,hi,rfl⟩:=Ru.mp ua;exact⟨i,by lia,by simp[List.getD,hi]⟩
   ·rintro⟨s,hs,rfl⟩;have hs:s.toNat<l.length:=by lia
    simp[List.getD,hs]
  ·have hs:s.toNat<r.length:=by lia
   have gx:s.toNat<l.length:=by lia
   have:=BE s.toNat r[s.toNat] (kR hs);simpa[rk,List.getD,hs,gx] using this
def wH:WS :=
 (dr (fR 1 (aP ir (ak (av 0) dz)))
 (dr (fR 2 (aP dH (ak (av 0) dz)))
 (dr (fR 3 (dB (jC (bp eC (av 0) (wC (.int 0)))) (gN 0) vS (gV o7 (aP cO (ak (av 1) (ak (av 0) dz)))) 1 [1]))
 (dr (fR 4 (tP dz))
 (dr (xk (jC (bp eC (av 0) (wC (.int 0)))) (gN 5)
 (T_ (nS 4) (aP dg (ak (av 2) (ak (av 3) (ak (av 5) dz))))))
 (uV [.inl (bp eC (av 0) (wC (.int 0))),.inr 4]))))))
def Ez.len (z:Ez many l s out) (aE:cq many l) (hs:0<=s/\s<many) (hm:many<=20) (oj:pz names l) (hz:("*" : Str)∈names) (O3:names.length<=8):out.length<=160:=by
 have nd:out.Nodup:=z.up.imp λ{a b} q e=>by subst e;unfold cp at q;rw[cY] at q;cases q
 have:=aD nd λt ht=>by obtain⟨e,es⟩:=(z.mem t).mp ht;have ok:=es.in aE (by rw[e];exact hs);exact uc e (es.nm oj hz) ⟨ok.2.2.2.1,by have:=ok.2.2.2.2;lia⟩
 rw[um] at this;lia
def dD:jS:=λds Q=>∃ (many:Int) (l:List aI) (names:List Str),ds=[mD many l]/\(1<=many/\many<=20)/\cq many l/\pz names l/\("*" : Str)∈names/\names.length<=8/\l.length<=1000/\∀ out,hJ many l out->out.length<=3200->Q (.ow true) (mD many out)
def xM (ds Q) (h:dD ds Q):ds.length=["m"].length:=by obtain⟨_,_,_,rfl,_⟩:=h;rfl
def Eb:∀ ds Q,dD ds Q->wH { nx:=λ_=>Q .sh .non,rt:=Q } (aH 6 ds):=by
 rintro ds Q ⟨many,l,names,rfl,hm,aE,oj,hz,O3,hl,h⟩;unfold wH;rw[show aH 6 [mD many l]=[some (.sh (mD many l)),none,none,none,none,none] from rfl];walk_at "q";refine⟨many,l,rfl,by lia,λkvs hw=>?_⟩;walk_at "q";refine⟨many,l,rfl,by lia,aE,by lia,?_⟩;unfold HL mD;walk_at "q";refine⟨by lia,by lia,?_⟩;refine gr (λn out=>∃ rs:List (List Int),out=rs.map B6/\rs.length=n/\∀ (i:Nat) xs,rs[i]? = some xs->OY l i xs) (λρ=>∃ o,ρ=[o,some (.sh (.dT kvs))]) _ 0 [] _ _ ⟨_,rfl⟩ ⟨[],rfl,rfl,λi k hk=>by simp at hk⟩ ?_ ?_
 ·rintro j y hy ρ ⟨o,rfl⟩ out ⟨rs,rfl,HP,BE⟩ N1 N2 KL;have hj:=(jB hy).1;obtain⟨_,rfl⟩:=jB hy;walk_at "q";refine⟨kvs,0+j,many,l,rfl,hw,aE,hm.2,by lia,λkd ks ek nd mem=>?_⟩;walk_at "q";refine sort_keys (Q:=λm d=>Qx m d/\N2 [some (.sh (.int (0+j))),some (.sh (.dT kvs))] d) ek nd mem λxs hx=>?_;refine⟨.inr rfl,KL _ _ ⟨_,rfl⟩ ⟨rs++[xs],by simp[B6],by simp[HP],λi k' h9=>?_⟩⟩;rcases IU i rs.length with hi|hi
  ·rw[Fc hi] at h9;exact BE i k' h9
  ·rw[Cb hi] at h9;have vw:i-rs.length=0:=by
    rcases UR (i-rs.length) with z|z
    ·exact z
    ·rw[wm (by simp;lia)] at h9;cases h9
   rw[vw] at h9;cases h9;have:i=0+j:=by lia
   rw[this];exact hx
 rintro out ⟨rs,e,HP,BE⟩;simp only[RJ] at e;subst e;rw[mX,IQ] at HP;have Uq:Uo many l rs:=⟨HP,BE⟩
 refine⟨by lia,by lia,?_⟩;refine b_ _ (λi ρ=>∃ (ps:List aI) (o5:Option Sl),ps.Pairwise (λa b=>cp a b=true)/\(∀ t,t∈ps↔(0<=t.1/\t.1<i)/\Es l t)/\ps.length<=i*160/\ρ=[some (.sh (.tup [.int many,.list (l.map cx)])),some (.ow true (.dT kvs)),some (.ow true (.list (qq many l))),some (.ow true (.list (rs.map B6))),some (.ow true (.list (ps.map cx))),o5]) ⟨[],_,.nil,λt=>?_,by simp,rfl⟩ ?_ ?_
 ·simp;lia
 ·rintro i x ρ hx ⟨ps,o5,up,mem,kX,rfl⟩ N hN;obtain⟨hi,rfl⟩:=jB hx;walk_at "q";refine⟨many,l,rs,names,0+i,rfl,hm,aE,oj,hz,O3,hl,Uq,by lia,λout BU=>?_⟩;have WQ:=BU.len aE (by lia) hm.2 oj hz O3;walk_at "q";have V3:i*160<=20*160:=zD (by lia) (cw _);refine⟨bN _,by lia,?_⟩;rw[uA];refine hN _ ⟨ps++out,_,IC.mpr ⟨up,BU.up,λa ha b hb=>?_⟩,λt=>?_,by rw[kz];lia,rfl⟩
  ·have h1:=((mem a).mp ha).1;have h2:=((BU.mem b).mp hb).1;obtain⟨a1,a2,a3⟩:=a;obtain⟨b1,b2,b3⟩:=b;simp only at h1 h2;unfold cp eI;simp only[fA];rw[if_neg (by simp;lia)];exact decide_eq_true (by lia)
  ·rw[dP,mem,BU.mem];constructor
   ·rintro(⟨z,e⟩|⟨z,e⟩)
    ·exact⟨by lia,e⟩
    ·exact⟨by lia,e⟩
   ·rintro⟨z,e⟩;by_cases q:t.1<i
    ·exact .inl ⟨by lia,e⟩
    ·exact .inr ⟨by lia,e⟩
 ·rintro ρ ⟨ps,o5,up,mem,kX,rfl⟩;rw[mX] at mem kX;walk_at "q";refine h ps ⟨up,λt=>?_⟩ (by have:many.toNat*160<=20*160:=zD (by lia) (cw _);lia);rw[mem];constructor<;>rintro⟨z,e⟩<;>exact⟨by lia,e⟩
def tW:WS :=
 (dr (fR 2 (bp eC (av 0) (wC (.int 0))))
 (dr (fR 3 (dB (cT (bp eC (av 1) (wC (.int 1)))) (gN 0) vS (lh (ak (bp n9 (bp eC (av 0) (wC (.int 0))) (av 1)) (ak (bp eC (av 0) (wC (.int 1))) (ak (bp n9 (bp eC (av 0) (wC (.int 2))) (av 1)) dz)))) 1 [2]))
 (dr (fR 4 (lh (ak (bp n9 (av 2) (bp eC (av 1) (wC (.int 0)))) (ak (bp n9 (bp eC (av 0) (wC (.int 1))) (av 3)) dz))))
 (dr (yD (aP cH (ak (av 4) dz)))
 (pP 4)))))
def jO:jS:=λds Q=>∃ (a b:Int) (l1 l2:List aI) (pool:List Str),ds=[mD a l1,mD b l2]/\a+b<=20/\l1.length+l2.length<=63/\pool.length<=6/\Kd pool l1/\Kd pool l2/\Q (.ow true) (mD (a+b) (jn a l1 l2))
def uM (ds Q) (h:jO ds Q):ds.length=["one", "other"].length:=by obtain⟨_,_,_,_,_,rfl,_⟩:=h;rfl
def vy{l:List aI}{a:Int}{Q:List D->Prop}{p:Nat}(h:Q ((l.map (shf a)).map cx))(ρ:Env)(hp:ρ[p+1]? = some (some (.sh (.int a)))) :
  fK (gN 0) vS (lh (ak (bp n9 (bp eC (av 0) (wC (.int 0))) (av (p+1))) (ak (bp eC (av 0) (wC (.int 1))) (ak (bp n9 (bp eC (av 0) (wC (.int 2))) (av (p+1))) dz)))) (l.map cx) ρ Q:=by
 refine aY (λ_=>true) (λx=>match x with
  |.tup [.int u,d,.int v]=>.tup [.int (u+a),d,.int (v+a)]
  |x=>x) (λcc=>cc.tail=ρ.tail/\cc.length=ρ.length) _ _ _ ⟨rfl,rfl⟩ ?_ ?_
 ·rintro x hx cc ⟨e,el⟩ N1 N2 n1 n2;obtain⟨⟨u,b,c⟩,hs,rfl⟩:=bT.mp hx
  cases cc with
  |nil=>cases ρ with
   |nil=>simp at hp
   |cons=>simp at el
  |cons o cc =>
   cases ρ with
   |nil=>simp at hp
   |cons o2 ρ =>simp only[List.tail_cons] at e;subst e;simp only[List.getElem?_cons_succ] at hp;unfold cx;walk_at "q";rw[hp];walk_at "q";rw[hp];walk_at "q";exact⟨.inl rfl,n2 _ ⟨rfl,rfl⟩ rfl⟩
 ·rw[q_,fF];rw[fF] at h;exact h
def zb:∀ ds Q,jO ds Q->tW { nx:=λ_=>Q .sh .non,rt:=Q } (aH 5 ds):=by
 rintro ds Q ⟨a,b,l1,l2,pool,rfl,E4,hl,hp,k1,k2,h⟩;unfold tW mD;walk_at "q";refine vy ?_ _ rfl;refine⟨by simp;lia,.inl ⟨bN _,bN _,?_⟩⟩;rw[<- qB];refine⟨a+b,jn a l1 l2,pool,rfl,E4,by simp[jn];lia,hp,λs hs=>?_,?_⟩
 ·rcases dP.mp hs with hs|hs
  ·exact k1 s hs
  ·obtain⟨u,hu,rfl⟩:=bT.mp hs;exact k2 u hu
 walk_at "q";exact h
def ju:WS :=
 (dr (fR 1 (aP dH (ak (av 0) dz)))
 (dr (fR 2 (tP (ak (bp Ae (tP (ak (wC (.int 0)) dz)) (bp eC (av 0) (wC (.int 0)))) dz)))
 (dr (fR 3 (aP bM (ak (av 1) (ak (bp eC (av 2) (wC (.int 0))) dz))))
 (dr (uF (wB (bp rV (av 3) (bp eC (av 2) (gV Qr (wC (.int 1))))))
 (vY 2 3 (aP bM (ak (av 1) (ak (av 3) dz)))))
 (pP 2)))))
def rdD(rs:List (List Int)):D:=.list (rs.map DV)
def d8:jS:=λds Q=>∃ (many:Int) (steps:List aI),ds=[mD many steps]/\(1<=many/\many<=100)/\cq many steps/\steps.length<=1000/\∀ rest,Chain many steps (zeros many) rest->rest.length<=10000->Q (.ow true) (rdD (zeros many :: rest))
def nQ (ds Q) (h:d8 ds Q):ds.length=["m"].length:=by obtain⟨_,_,rfl,_⟩:=h;rfl
def wI(cur:List Int)(pre:List (List Int)):gy ((cur :: pre).map DV) (-1)=some (DV (eZ cur pre)):=by
 have e:(cur :: pre).map DV=((cur :: pre).dropLast.map DV)++[DV (eZ cur pre)]:=by
  conv=>lhs;rw[<- Ux (show cur :: pre≠[] by simp)]
  rw[qB];rfl
 rw[e];exact fB' _ _
def vz(cur mv:List Int)(pre:List (List Int)):eZ cur (pre++[mv])=mv:=by unfold eZ;rw[List.getLast_cons (by simp),List.getLast_concat]
def rK:∀ ds Q,d8 ds Q->ju { nx:=λ_=>Q .sh .non,rt:=Q } (aH 4 ds):=by
 rintro ds Q ⟨many,steps,rfl,hm,aE,hl,h⟩;unfold ju;have hmm:many*many<=10000:=by have:=Int.mul_le_mul hm.2 hm.2 (by lia) (by lia);lia
 have e0:aH 4 [mD many steps]=[some (.sh (mD many steps)),none,none,none]:=rfl;rw[e0];walk_at "q";refine⟨many,steps,rfl,by lia,aE,hl,?_⟩;unfold HL;walk_at "q";unfold mD;walk_at "q";refine⟨by lia,?_⟩;rw[xT];refine⟨many,steps,zeros many,rfl,by lia,by simp[zeros],aE,hl,λr hr=>?_⟩;walk_at "q";refine⟨λρ=>∃ (pre:List (List Int)) (cur mv:List Int),vA many cur/\RB many steps cur mv/\(∀ rest,Chain many steps cur rest->Chain many steps (zeros many) (pre++rest))/\eZ (zeros many) pre=cur/\pre.length<=cur.sum/\cur.sum<=many*many /\
   ρ=[some (.sh (.tup [.int many,.list (steps.map cx)])),some (.ow true (.list (qq many steps))),some (.ow true (.list ((zeros many :: pre).map DV))),some (.ow true (.list (mv.map .int)))],
  λρ=>match ρ with
   |[_,_,some (.ow _ (.list rs)),_]=>20000-rs.length
   |_=>0,⟨[],zeros many,r,rA hm.1,hr,λrest hc=>hc,rfl,?_,?_,rfl⟩,?_⟩
 ·simp[zeros]
 ·have:0<=many*many:=R4 (by lia) (by lia);simp[zeros];lia
 rintro ρ ⟨pre,cur,mv,hd,hb,hc,hla,hp,hs,rfl⟩;walk_at "q";refine⟨_,wI _ _,?_⟩;rw[hla];unfold DV;walk_at "q";refine⟨xu _ _,xu _ _,?_⟩;rw[JR];by_cases e:mv=cur
 ·rw[if_neg (by simp[e])];rw[e] at hb;have:=hc [] hb;rw[sP] at this;exact h pre this (by lia)
 ·rw[if_pos (by simp[e])];have ku':=hb.sum aE hd (by lia) e;refine⟨jW _,by lia,?_⟩;refine⟨many,steps,mv,rfl,by lia,(hb.zx aE).1,aE,hl,λr2 V9=>?_⟩;walk_at "q";refine⟨⟨pre++[mv],mv,r2,hb.zx aE,V9,λrest zS=>?_,vz _ _ _,by simp;lia,ku'.2,by simp[DV]⟩,?_⟩
  ·have:=hc (mv :: rest) ⟨hb,e,zS⟩;simpa using this
  ·simp;lia
def vg:WS :=
 (nL (Ud (aP d8 (ak (av 0) dz)) (gV Qr (wC (.int 1)))))
def dG:jS:=λds Q=>∃ (many:Int) (steps:List aI),ds=[mD many steps]/\(1<=many/\many<=100)/\cq many steps/\steps.length<=1000/\∀ k,Kinds many steps k->Q (.ow true) (.list (k.map .int))
def qP (ds Q) (h:dG ds Q):ds.length=["m"].length:=by obtain⟨_,_,rfl,_⟩:=h;rfl
def vm:∀ ds Q,dG ds Q->vg { nx:=λ_=>Q .sh .non,rt:=Q } (aH 1 ds):=by rintro ds Q ⟨many,steps,rfl,hm,aE,hl,h⟩;walk_at "q";refine⟨many,steps,rfl,hm,aE,hl,λrest hc hr=>?_⟩;walk_at "q";refine⟨_,wI _ _,?_⟩;unfold DV;walk_at "q";exact h _ ⟨rest,hc,rfl⟩
def DG:WS :=
 (dr (yD (aP bV (ak (av 0) (ak (av 1) dz))))
 (dr (yD (aP bV (ak (av 0) (ak (av 2) dz))))
 (dr (fR 3 (aP dG (ak (av 0) dz)))
 (nL (bp AI (bp eC (av 3) (av 1)) (bp eC (av 3) (av 2)))))))
def lZ:jS:=λds Q=>∃ (many:Int) (l:List aI) (p q:Int),ds=[mD many l,.int p,.int q]/\(1<=many/\many<=100)/\cq many l/\l.length<=1000/\y9 many (p,q)/\∀ k,Kinds many l k->Q .sh (.bl (decide (rk k p=rk k q)))
def yh (ds Q) (h:lZ ds Q):ds.length=["m", "p", "q"].length:=by obtain⟨_,_,_,_,rfl,_⟩:=h;rfl
def Dh:∀ ds Q,lZ ds Q->DG { nx:=λ_=>Q .sh .non,rt:=Q } (aH 4 ds):=by rintro ds Q ⟨many,l,p,q,rfl,hm,aE,hl,hx,h⟩;walk_at "q";refine⟨many,l,p,rfl,hx.1.1,hx.1.2,?_⟩;walk_at "q";refine⟨many,l,q,rfl,hx.2.1,hx.2.2,?_⟩;walk_at "q";refine⟨many,l,rfl,hm,aE,hl,λk hk=>?_⟩;walk_at "q";refine⟨_,vH hk.rb.len hx.1.1 hx.1.2,?_⟩;walk_at "q";refine⟨_,vH hk.rb.len hx.2.1 hx.2.2,?_⟩;walk_at "q";exact h k hk
def lD:WS :=
 (dr (fR 1 (aP dG (ak (av 0) dz)))
 (dr (fR 2 (TV (bp eC (av 1) (wC (.int 0))) (wC (.int 0))))
 (dr (xk (dN (gV eE (dB (cT (aP yC (ak (av 0) dz))) (gN 0) vS (bp eC (av 1) (av 0)) 1 [1]))) (gN 3)
 (mM (wB (bp (E3 true) (av 3) (av 2)))
 (kO (nS 2) (av 3) (gV yB (av 2)))
 cI))
 (nL (dB (cT (av 1)) (gN 0) vS (OU (av 1) (av 0) (wC .non)) 1 [2])))))
def fX:jS:=λds Q=>∃ (many:Int) (steps:List aI),ds=[mD many steps]/\(1<=many/\many<=20)/\cq many steps/\steps.length<=1000/\∀ hs,aX many steps hs->Q (.ow true) (.list (hs.map sD))
def pK (ds Q) (h:fX ds Q):ds.length=["m"].length:=by obtain⟨_,_,rfl,_⟩:=h;rfl
def vM:∀ ds Q,fX ds Q->lD { nx:=λ_=>Q .sh .non,rt:=Q } (aH 4 ds):=by
 rintro ds Q ⟨many,steps,rfl,hm,aE,hl,h⟩;unfold lD;walk_at "q";refine⟨many,steps,rfl,by lia,aE,hl,λk hk=>?_⟩;have sf:=hk.len;walk_at "q";refine⟨_,vH sf (qc 0) (by lia),?_⟩;walk_at "q";refine⟨many,steps,rfl,hm.1,hm.2,aE,λms Ze=>?_⟩;have hml:=Ze.len aE hm.1;walk_at "q"
 refine aY (λ_=>true) (λd=>match d with
  |.int s=>.int (rk k s)
  |d=>d) (λρ=>∃ o,ρ=[o,some (.sh (.list (k.map .int)))]) _ _ _ ⟨_,rfl⟩ ?_ ?_
 ·walk_at"r";obtain⟨s,hs,rfl⟩:=bT.mp hx;have:=((Ze.mem s).mp hs).lt aE hm.1;walk_at "q";refine⟨_,vH sf this.1 this.2,?_⟩;walk_at "q";exact⟨.inl rfl,n2 _ ⟨_,rfl⟩ rfl⟩
 have e1:((ms.map D.int).filter λ_=>true).map (λd=>match d with
   |.int s=>.int (rk k s)
   |d=>d)=((ms.map (rk k)).map λx=>(Sum.inl x:Key)).map kM:=by
  rw[IE.mpr λ_ _=>rfl,fF,fF,fF];rfl
 rw[e1];refine⟨_,true,rfl,by rw[b9,b9];lia,λx hx=>?_,λks nd mm pw=>?_⟩
 ·obtain⟨y,_,rfl⟩:=bT.mp hx;rfl
 obtain⟨gI,rfl,cP'⟩:=Q9 λx hx=>by obtain⟨y,hy,e⟩:=bT.mp ((mm x).mp hx);exact⟨y,e.symm,hy⟩
 have up:=Gu nd pw;have mem:∀ x,x∈gI↔∃ s∈ms,x=rk k s:=λx=>by
  constructor
  ·intro hx;obtain⟨s,hs,e⟩:=bT.mp (cP' x hx);exact⟨s,hs,e.symm⟩
  ·rintro⟨s,hs,rfl⟩;exact bC.mp ((mm _).mpr (bC.mpr (bT.mpr ⟨s,hs,rfl⟩)))
 rw[tE];have T1:gI.length<=ms.length:=by have:=aD (jo up) cP';rwa[b9] at this
 refine b_ _ (λi ρ=>∃ o3,ρ=[some (.sh (mD many steps)),some (.ow true (.list (k.map .int))),some (.ow true (.dK (sC (numsOf (rk k 0) (gI.take i))))),o3]) ⟨none,rfl⟩ ?_ ?_
 ·rintro i x ρ hx ⟨o3,rfl⟩ N hN;obtain⟨hi,Rj⟩:=iN.mp hx;have kK:i<gI.length:=by simpa using hi
  have Zd:x=.int gI[i]:=by rw[<- Rj];simp
  subst Zd;have tk:gI.take (i+1)=gI.take i++[gI[i]]:=by rw[zv,kR kK];rfl
  have nin:gI[i]∉gI.take i:=λz=>by
   obtain⟨j,hj,e⟩:=Ru.mp z;have rL:j<i:=by rw[oq] at hj;lia
   have:=xI.mp up j i (by lia) kK rL;rw[List.getElem_take] at e;lia
  generalize gI[i]=x at *
  have nl:(numsOf (rk k 0) (gI.take i)).length<=1+i:=by unfold numsOf;have:=Pa (λx=>decide (x≠rk k 0)) (gI.take i);rw[oq] at this;simp only[pd];lia
  walk_at "q";rw[wF];by_cases e:x=rk k 0
  ·refine R.F (by simp[numsOf,e]) ?_;walk_at "q";refine hN _ ⟨some (.sh (.int x)),?_⟩;rw[tk,numsOf,numsOf,List.filter_append];simp[e]
  ·have nn:x∉numsOf (rk k 0) (gI.take i):=by unfold numsOf;simp[e,nin]
   refine R.T (by simp[nn]) ?_;walk_at "q";rw[zB];refine⟨by lia,?_⟩;refine hN _ ⟨some (.sh (.int x)),?_⟩;rw[CV nn,tk];simp[numsOf,e]
 ·rintro ρ ⟨o3,rfl⟩;rw[b9,zC];have nd:=lB (rk k 0) up;walk_at "q"
  refine aY (λ_=>true) (λd=>match d with
   |.int x=>sD (dq (numsOf (rk k 0) gI) x)
   |d=>d) (λρ=>∃ o,ρ=[o,some (.sh (.dK (sC (numsOf (rk k 0) gI))))]) _ _ _ ⟨_,rfl⟩ ?_ ?_
  ·walk_at"r";obtain⟨s,hs,rfl⟩:=bT.mp hx;walk_at "q";exact zR nd ⟨.inl (Ad _),n2 _ ⟨_,rfl⟩ rfl⟩
  have e2:((k.map D.int).filter λ_=>true).map (λd=>match d with
    |.int x=>sD (dq (numsOf (rk k 0) gI) x)
    |d=>d)=(k.map (dq (numsOf (rk k 0) gI))).map sD:=by
   rw[IE.mpr λ_ _=>rfl,fF,fF];rfl
  rw[e2];exact h _ ⟨k,ms,gI,hk,Ze,up,mem,rfl⟩
def Kg:WS :=
 (nL (aP lZ (ak (aP dD (ak (av 0) dz)) (ak (av 1) (ak (av 2) dz)))))
def uJ:jS:=λds Q=>∃ (many:Int) (l:List aI) (names:List Str) (p q:Int),ds=[mD many l,.int p,.int q]/\(1<=many/\many<=20)/\cq many l/\pz names l/\("*" : Str)∈names/\names.length<=8/\l.length<=1000/\y9 many (p,q)/\(∀ out,hJ many l out->out.length<=1000)/\∀ out k,hJ many l out->Kinds many out k->Q .sh (.bl (decide (rk k p=rk k q)))
def FW (ds Q) (h:uJ ds Q):ds.length=["m", "p", "q"].length:=by obtain⟨_,_,_,_,_,rfl,_⟩:=h;rfl
def JV:∀ ds Q,uJ ds Q->Kg { nx:=λ_=>Q .sh .non,rt:=Q } (aH 3 ds):=by rintro ds Q ⟨many,l,names,p,q,rfl,hm,aE,oj,hz,O3,hl,hp,hf,h⟩;walk_at "q";refine⟨many,l,names,rfl,hm,aE,oj,hz,O3,hl,λout ho _=>?_⟩;walk_at "q";refine⟨many,out,p,q,rfl,by lia,ho.in aE,hf out ho,hp,λk hk=>?_⟩;walk_at "q";exact h out k ho hk
def lO:WS :=
 (dr (fR 1 (aP fX (ak (av 0) dz)))
 (dr (fR 2 (dB (cT (bp eC (av 0) (wC (.int 1)))) (gT 3 (b7 (gN 0) (b7 (gN 1) (b7 (gN 2) mV)))) (wB (bp zQ (bp eC (av 3) (av 0)) (wC .non))) (lh (ak (bp eC (av 3) (av 0)) (ak (av 1) (ak (bp eC (av 3) (av 2)) dz)))) 3 [1]))
 (nL (lh (ak (gV oG (dB (cT (av 1)) (gN 0) (wB (bp zQ (av 0) (wC .non))) (av 0) 1 [])) (ak (gV f9 (av 2)) dz))))))
def bQ:jS:=λds Q=>∃ (many:Int) (steps:List aI),ds=[mD many steps]/\(1<=many/\many<=20)/\cq many steps/\steps.length<=1000/\∀ hs c out,aX many steps hs->cu steps hs c out->Q (.ow true) (mD c out)
def o8 (ds Q) (h:bQ ds Q):ds.length=["m"].length:=by obtain⟨_,_,rfl,_⟩:=h;rfl
def uX:∀ ds Q,bQ ds Q->lO { nx:=λ_=>Q .sh .non,rt:=Q } (aH 3 ds):=by
 rintro ds Q ⟨many,steps,rfl,LV,aE,hl,h⟩;unfold lO;walk_at "q";refine⟨many,steps,rfl,LV,aE,hl,λhs H=>?_⟩;have Zf:=H.len;walk_at "q";unfold mD;walk_at "q"
 refine aY (λd=>match d with
  |.tup [.int s,_,_]=>(hm hs s).isSome
  |_=>false) (λd=>match d with
  |.tup [.int s,.str x,.int t]=>.tup [.int ((hm hs s).getD 0),.str x,.int ((hm hs t).getD 0)]
  |d=>d) (λρ=>∃ o0 o1 o2,ρ=[o0,o1,o2,some (.sh (.list (hs.map sD)))]) _ _ _ ⟨_,_,_,rfl⟩ ?_ ?_
 ·rintro x hx ρ ⟨o0,o1,o2,rfl⟩ N1 N2 n1 n2;obtain⟨⟨s,d,t⟩,ht,rfl⟩:=bT.mp hx;have ok:=aE _ ht;unfold cx at n1 n2 ⊢;walk_at "q";refine⟨_,Ea Zf ok.1 ok.2.1,?_⟩
  cases e:hm hs s with
  |none =>simp only[sD];walk_at "q";exact n1 _ ⟨_,_,_,rfl⟩ (by simp[e])
  |some i =>obtain⟨j,ej⟩:=H.step aE LV.1 ht e;simp only[sD];walk_at "q";refine⟨_,Ea Zf ok.1 ok.2.1,?_⟩;rw[e];simp only[sD];walk_at "q";refine⟨_,Ea Zf ok.2.2.2.1 ok.2.2.2.2,?_⟩;rw[show hm hs t=some j from ej];simp only[sD];walk_at "q";have:=n2 [some (.sh (.int s)),some (.sh (.str d)),some (.sh (.int t)),some (.sh (.list (hs.map sD)))] ⟨_,_,_,rfl⟩ (by simp[e]);simp only[e,show hm hs t=some j from ej,Option.getD_some] at this;exact⟨.inl rfl,this⟩
 have e1:((steps.map cx).filter (λd=>match d with
   |.tup [.int s,_,_]=>(hm hs s).isSome
   |_=>false)).map (λd=>match d with
   |.tup [.int s,.str x,.int t]=>.tup [.int ((hm hs s).getD 0),.str x,.int ((hm hs t).getD 0)]
   |d=>d)=(pC steps hs).map cx:=by
  unfold pC;rw[List.filter_map,fF,fF];rfl
 rw[e1];refine aY (λd=>!d.GV) (λd=>d) (λρ=>∃ o,ρ=[o]) _ _ _ ⟨_,rfl⟩ ?_ ?_
 ·walk_at"r";obtain⟨o,ho,rfl⟩:=bT.mp hx
  cases o with
  |none =>walk_at "q";exact n1 _ ⟨_,rfl⟩ rfl
  |some i =>walk_at "q";exact⟨.inl rfl,n2 _ ⟨_,rfl⟩ rfl⟩
 rw[wR];refine sV (by lia) λcs hc=>?_;generalize cs.length=c at hc ⊢;have e2:(pC steps hs).map cx=((pC steps hs).map eI).map kg:=by rw[fF];rfl
 rw[e2];refine⟨_,[false,true],rfl,by rw[b9];exact iS (pQ _ _) hl,λk hk=>?_,λms nd mm pw=>?_⟩
 ·obtain⟨s,_,rfl⟩:=bT.mp hk;rfl
 obtain⟨l,rfl,hp⟩:=iw λk hk=>by obtain⟨p,hp,e⟩:=bT.mp ((mm k).mp hk);exact⟨p,e.symm,hp⟩
 have e:(l.map eI).map kg=l.map cx:=by rw[fF];rfl
 rw[e];refine h hs c l H ⟨hc,?_,λs=>?_⟩
 ·rw[iP] at pw;have Mb:l.Pairwise λa b=>eI a≠eI b:=by rw[List.Nodup,iP] at nd;exact nd
  refine(pw.and Mb).imp λ{a b} ⟨h1,h2⟩=>?_;unfold cp
  cases h3:fA (eI a) (eI b) with
  |true=>rfl
  |false=>exact absurd (iB (a:=eI a) (b:=eI b) rfl h3 h1) h2
 ·rw[<- pX H aE LV.1];refine⟨hp s,λgx=>?_⟩;obtain⟨q,hq,e⟩:=bT.mp ((mm (eI s)).mpr (bT.mpr ⟨s,gx,rfl⟩));rw[<- gO e];exact hq
def jj:WS :=
 (dr (mM (Oy (wB (bp rV (bp oP (av 5) (wC (.int 4))) (wC (.int 3)))) (Oz (wB (bp rV (av 8) (av 9))) (OB (wB (aP uJ (ak (av 11) (ak (av 2) (ak (bp n9 (av 1) (av 2)) dz))))))))
 (nL (wC (.bl false)))
 cI)
 (ki 6 (ki 4 (nL (bp AI (tP (ak (av 4) (ak (av 6) dz))) (av 7))))))
def jk:WS :=
 (dr (mM (wB (bp rV (aP uJ (ak (av 11) (ak (wC (.int 0)) (ak (av 1) dz)))) (bp AI (av 8) (av 9))))
 (nL (wC (.bl false)))
 cI)
 (dr (fR 2 (bp oP (av 2) (av 1)))
 jj))
def jc:WS :=
 (dr (fR 11 (aP jO (ak (av 4) (ak (av 6) dz))))
 jk)
def ji:WS :=
 (dr (ki 9 (ki 8 (xk (zL (lh (ak (av 8) (ak (av 9) dz)))) (gN 10)
 (mM (Oz (wB (bp rV (aP dD (ak (av 10) dz)) (av 10))) (Oz (wB (bp rV (aP bQ (ak (aP dD (ak (av 10) dz)) dz)) (av 10))) (wB (bp rV (aP bQ (ak (av 10) dz)) (av 10)))))
 (nL (wC (.bl false)))
 cI))))
 jc)
def oh:WS :=
 (dr (fR 8 (aP bQ (ak (aP dD (ak (av 4) dz)) dz)))
 (dr (fR 9 (aP bQ (ak (aP dD (ak (av 6) dz)) dz)))
 ji))
def nM:WS :=
 (dr (fR 7 (tP (ak (lh (ak (bp eC (av 4) (wC (.int 0))) (ak (gV pI (bp eC (av 4) (wC (.int 1)))) dz))) (ak (lh (ak (bp eC (av 6) (wC (.int 0))) (ak (gV pI (bp eC (av 6) (wC (.int 1)))) dz))) dz))))
 oh)
def HB:WS :=
 (dr (fR 1 (bp n9 (wC (.int 1)) (bp oP (aP bh (ak (av 0) (ak (wC (.int 0)) dz))) (wC (.int 6)))))
 (dr (fR 2 (aP bh (ak (av 0) (ak (wC (.int 1)) dz))))
 (dr (fR 3 (aP dI (ak (av 2) dz)))
 (dr (fR 4 (aP cN (ak (av 0) (ak (av 1) (ak (av 3) dz)))))
 (dr (fR 5 (aP bh (ak (av 0) (ak (wC (.int 2)) dz))))
 (dr (fR 6 (aP bU (ak (av 4) (ak (bp tN (av 5) (wC (.int 4))) dz))))
 (dr (mM (wB (bp AI (bp oP (av 5) (wC (.int 4))) (wC (.int 3))))
 (fR 6 (aP cL (ak (av 6) (ak (av 3) (ak (bp tN (av 2) (wC (.int 16))) dz)))))
 cI)
 nM)))))))
abbrev Rl:jS:=bW'
def Fp (ds Q) (h:Rl ds Q):ds.length=["_law_script"].length:=by obtain⟨_,rfl,_⟩:=h;rfl
structure ub(n1 n2:Int)(l1 l2:List aI)(names:List Str):Prop where
 p1:1<=n1/\n1<=6
 p2:n1<=n2/\n2<=14
 i1:cq n1 l1
 i2:cq n2 l2
 m1:pz names l1
 m2:pz names l2
 z:("*" : Str)∈names
 nl:names.length<=4
 d:∀ n∈names,B1 n
 k1:l1.length<=8
 k2:l2.length<=25
def Zg(names:List Str)(n:Nat):List aI:=((b8 n).map λs=>(names.map λd=>(b8 n).map λq=>((s,d,q):aI)).flatten).flatten
theorem nG{α β:Type}(f:α->List β)(k:Nat):∀ l:List α,(∀ x∈l,(f x).length=k)->(l.map f).flatten.length=l.length*k
 |[],_=>by simp
 |x :: l,h=>by rw[fS,A3,kz,h x cy,nG f k l λy hy=>h y (c9 _ hy),pd,Nat.succ_mul];lia
def Ak(names:List Str)(n:Nat):(Zg names n).length=n*(names.length*n):=by unfold Zg;rw[nG _ (names.length*n) _ λs _=>nG _ n _ λd _=>by rw[b9,bK],bK]
def hJ.few (h:hJ many l out) (aE:cq many l) (oj:pz names l) (hz:("*" : Str)∈names):out.length<=many.toNat*(names.length*many.toNat):=by
 have nd:out.Nodup:=h.up.imp λ{a b} q e=>by subst e;unfold cp at q;rw[cY] at q;cases q
 have:=aD (m:=Zg names many.toNat) nd λt ht=>by obtain⟨e,es⟩:=(h.mem t).mp ht;have ok:=es.in aE e;have r:=ok.2.2.2;exact RG.mpr ⟨_,bT.mpr ⟨t.1,bu.mpr (by lia),rfl⟩,RG.mpr ⟨_,bT.mpr ⟨t.2.1,es.nm oj hz,rfl⟩,bT.mpr ⟨t.2.2,bu.mpr (by lia),rfl⟩⟩⟩
 rwa[Ak] at this
def ub.Zh(T:ub n1 n2 l1 l2 names)(E1:hJ n1 l1 e1):e1.length<=144:=by
 have a:=E1.few T.i1 T.m1 T.z;have n6:n1.toNat<=6:=by have:=T.p1;lia
 exact iS a (zD n6 (zD T.nl n6))
def ub.Zi(T:ub n1 n2 l1 l2 names)(E2:hJ n2 l2 e2):e2.length<=784:=by
 have a:=E2.few T.i2 T.m2 T.z;have n14:n2.toNat<=14:=by have:=T.p2;lia
 exact iS a (zD n14 (zD T.nl n14))
def hJ.nm (h:hJ many l out) (oj:pz names l) (hz:("*" : Str)∈names):pz names out:=λt ht=>((h.mem t).mp ht).2.nm oj hz
def cR'{c1 c2:Int}{o1 o2:List aI}:ja (.tup [.int c1,.list (o1.map cx)]) (.tup [.int c2,.list (o2.map cx)])=decide (c1=c2/\o1=o2):=by
 rw[sT,decide_eq_true_iff];refine(jY _ _ (W8 c1 o1) (W8 c2 o2)).trans ?_;constructor
 ·intro e;unfold mD at e;simp only[D.tup.injEq,List.cons.injEq,D.int.injEq,D.list.injEq] at e;exact⟨e.1,ug e.2.1⟩
 ·rintro⟨rfl,rfl⟩;rfl
def ub.whole(T:ub n1 n2 l1 l2 names)(E1:hJ n1 l1 e1)(E2:hJ n2 l2 e2)(ho:hJ (n1+n2) (nX n1 l1 l2) out):out=nX n1 e1 e2/\out.length<=1000:=by have p1:=T.p1;have p2:=T.p2;have e:=ho.uniq (E1.un T.i1 T.i2 p1.1 (by lia) E2);refine⟨e,?_⟩;have f1:=T.Zh E1;have f2:=T.Zi E2;rw[e,xr];lia
def ub.iff(T:ub n1 n2 l1 l2 names)(E1:hJ n1 l1 e1)(E2:hJ n2 l2 e2)(H1:aX n1 e1 h1)(H2:aX n2 e2 h2)(L1:cu e1 h1 c1 o1)(jI:cu e2 h2 c2 o2)(hk:Kinds (n1+n2) (nX n1 e1 e2) k):rk k 0=rk k n1↔c1=c2/\o1=o2:=by
 have p1:=T.p1;have p2:=T.p2;have i1:=E1.in T.i1;have i2:=E2.in T.i2;have ui:=zG i1 i2 p1.1 (by lia);have P:=pG ui (by lia) hk;have ip:y9 (n1+n2) (0,n1):=⟨⟨qc 0,by lia⟩,by lia,by lia⟩
 have all:∀ x,y9 (n1+n2) x->x∈Uj (n1+n2):=λx hx=>(vP (by lia) x).mp hx;refine(xj (by lia) ip).symm.trans ⟨λz=>?_,?_⟩
 ·exact jE (Bj i1 i2 P) ⟨by lia,by lia,by rw[Int.zero_add];exact z⟩ i1 i2 p1.1 (by lia) H1 H2 L1 jI
 ·rintro⟨_,rfl⟩;exact Be i1 i2 p1.1 (by lia) H1 H2 L1 jI P all
def ub.str(T:ub n1 n2 l1 l2 names)(E1:hJ n1 l1 e1)(E2:hJ n2 l2 e2)(H1:aX n1 e1 h1)(H2:aX n2 e2 h2)(L1:cu e1 h1 c1 o1)(jI:cu e2 h2 c2 o2)(X:Sx n1 l1 l1 n2 (·∈l2) π):(c1=c2/\o1=o2)/\∀ {k:List Int},Kinds (n1+n2) (nX n1 e1 e2) k->∀ s,0<=s->s<n1->rk k s=rk k (n1+s):=by
 have p1:=T.p1;have p2:=T.p2;have i1:=E1.in T.i1;have i2:=E2.in T.i2;have B:=X.bis p1.1 T.i1 T.i2 E1 E2;have b:∀ s,0<=s->s<n1->(0<=s/\s<n2)/\s=π s:=λs a b=>⟨by lia,(X.D1 s a b).symm⟩
 refine⟨jE B (b 0 (qc 0) (by lia)) i1 i2 p1.1 (by lia) H1 H2 L1 jI,λ{k} hk s a a'=>?_⟩;have ui:=zG i1 i2 p1.1 (by lia);have:=A_ i1 i2 B (pG ui (by lia) hk) (λx hx=>(vP (by lia) x).mp hx) (b s a a');have ip:y9 (n1+n2) (s,s+n1):=⟨⟨a,by lia⟩,by lia,by lia⟩
 rw[Int.add_comm n1 s];exact(xj (by lia) ip).mp this
section
variable {Q:Md->D->Prop}{ns:List Int}{n1 n2 far cell c1 c2:Int}{l1 l2 e1 e2 o1 o2:List aI}{names:List Str}{h1 h2:List (Option Int)}{o3 MD:Option Sl}
structure Ls(n1 n2:Int)(l1 l2 e1 e2 o1 o2:List aI)(h1 h2:List (Option Int))(c1 c2:Int):Prop where
 E1:hJ n1 l1 e1
 E2:hJ n2 l2 e2
 H1:aX n1 e1 h1
 H2:aX n2 e2 h2
 L1:cu e1 h1 c1 o1
 jI:cu e2 h2 c2 o2
abbrev C7(n1 n2:Int)(l1 l2:List aI):Option Sl:=some (.ow true (.list [.tup [.int n1,.list (l1.map cx)],.tup [.int n2,.list (l2.map cx)]]))
abbrev s8(c:Int)(o:List aI):Option Sl:=some (.sh (.tup [.int c,.list (o.map cx)]))
def Ev(ns:List Int)(n1 n2 far cell:Int)(l1 l2:List aI)(o3:Option Sl)(r:List (Option Sl)):L2.Q.Env:=some (.sh (.list (ns.map .int))) :: some (.sh (.int n1)) :: some (.sh (.int far)) :: o3 :: some (.ow true (.tup [.int n1,.list (l1.map cx)])) :: some (.sh (.int cell)) :: some (.ow true (.tup [.int n2,.list (l2.map cx)])) :: r
def G8(T:ub n1 n2 l1 l2 names)(hx:cell % 4≠3->∃ π,Sx n1 l1 l1 n2 (·∈l2) π)(h:∀ m,Q m (.bl true))(G:Ls n1 n2 l1 l2 e1 e2 o1 o2 h1 h2 c1 c2):jj { nx:=λ_=>Q .sh .non,rt:=Q } (Ev ns n1 n2 (far % n1) cell l1 l2 o3 [C7 n1 n2 l1 l2,s8 c1 o1,s8 c2 o2,MD,some (.ow true (.tup [.int (n1+n2),.list ((nX n1 l1 l2).map cx)]))]):=by
 obtain⟨E1,E2,H1,H2,L1,jI⟩:=id G;have p1:=T.p1;have p2:=T.p2;have nl:=T.nl;have f0:=CF far (show n1≠0 by lia);have f1:=CD far (show 0<n1 by lia);have Zj:=uZ (many:=n1) 8 T.i1;have Zk:=uZ (many:=n2) 8 T.i2;have eqL:=eq_self (x:=.list [.tup [.int n1,.list (l1.map cx)],.tup [.int n2,.list (l2.map cx)]]) (by simp[D.nb,vF,rP]);have Ur:dS 12 (.list [.tup [.int n1,.list (l1.map cx)],.tup [.int n2,.list (l2.map cx)]])=true:=by show(dS 11 (mD n1 l1) && (dS 11 (mD n2 l2) && true))=true;rw[Zj,Zk];rfl
 unfold jj Ev;walk_at "q";refine R.B (λz=>?_) λz=>?_
 ·obtain⟨π,X⟩:=hx (by simpa using z);obtain⟨⟨rfl,rfl⟩,wx⟩:=T.str E1 E2 H1 H2 L1 jI X;have okc:dS 12 (.tup [.int c1,.list (o1.map cx)])=true:=uZ 9 (L1.in H1 (E1.in T.i1) p1.1).1;walk_at "q";refine⟨okc,okc,R.F (by rw[cR',decide_eq_true ⟨rfl,rfl⟩];rfl) ?_⟩;walk_at "q";refine⟨n1+n2,nX n1 l1 l2,names,far % n1,n1+far % n1,rfl,by lia,zG T.i1 T.i2 p1.1 (by lia),λt ht=>?_,T.z,by lia,by rw[xr];have:=T.k1;have:=T.k2;lia,⟨⟨f0,by lia⟩,by lia,by lia⟩,λout ho=>(T.whole E1 E2 ho).2,λout k ho hk=>?_⟩
  ·rcases dP.mp ht with ht|ht
   ·exact T.m1 t ht
   ·obtain⟨u,hu,rfl⟩:=bT.mp ht;exact T.m2 u hu
  ·obtain⟨rfl,_⟩:=T.whole E1 E2 ho;rw[decide_eq_true (wx hk _ f0 f1)];walk_at "q";refine⟨Ur,Ur,?_⟩;rw[eqL];exact h _
 ·walk_at "q";refine⟨Ur,Ur,?_⟩;rw[eqL];exact h _
def Hi(T:ub n1 n2 l1 l2 names)(hx:cell % 4≠3->∃ π,Sx n1 l1 l1 n2 (·∈l2) π)(h:∀ m,Q m (.bl true))(G:Ls n1 n2 l1 l2 e1 e2 o1 o2 h1 h2 c1 c2):jk { nx:=λ_=>Q .sh .non,rt:=Q } (Ev ns n1 n2 far cell l1 l2 o3 [C7 n1 n2 l1 l2,s8 c1 o1,s8 c2 o2,MD,some (.ow true (.tup [.int (n1+n2),.list ((nX n1 l1 l2).map cx)]))]):=by
 obtain⟨E1,E2,H1,H2,L1,jI⟩:=id G;obtain⟨w14,e14⟩:∃ w,w=jj:=⟨_,rfl⟩
 unfold jk Ev;rw[<- e14];have p1:=T.p1;have p2:=T.p2;have k1:=T.k1;have k2:=T.k2;have nl:=T.nl;have i1:=E1.in T.i1;have i2:=E2.in T.i2;have Zj:dS 12 (.tup [.int c1,.list (o1.map cx)])=true:=uZ 9 (L1.in H1 i1 p1.1).1;have Zk:dS 12 (.tup [.int c2,.list (o2.map cx)])=true:=uZ 9 (jI.in H2 i2 (by lia)).1;walk_at "q";refine⟨n1+n2,nX n1 l1 l2,names,0,n1,rfl,by lia,zG T.i1 T.i2 p1.1 (by lia),λt ht=>?_,T.z,by lia,by rw[xr];lia,⟨⟨qc 0,by lia⟩,by lia,by lia⟩,λout ho=>(T.whole E1 E2 ho).2,λout k ho hk=>?_⟩
 ·rcases dP.mp ht with ht|ht
  ·exact T.m1 t ht
  ·obtain⟨u,hu,rfl⟩:=bT.mp ht;exact T.m2 u hu
 ·obtain⟨rfl,_⟩:=T.whole E1 E2 ho;have iff:=T.iff E1 E2 H1 H2 L1 jI hk;have eb:decide (rk k 0=rk k n1)=decide (c1=c2/\o1=o2):=by rw[sT,decide_eq_true_iff,decide_eq_true_iff];exact iff
  rw[eb];walk_at "q";refine⟨Zj,Zk,R.F (by rw[cR',decide_eq_true rfl];rfl) ?_⟩;walk_at "q";rw[e14];exact⟨by lia,G8 T hx h G⟩
def Gn(T:ub n1 n2 l1 l2 names)(hx:cell % 4≠3->∃ π,Sx n1 l1 l1 n2 (·∈l2) π)(h:∀ m,Q m (.bl true))(G:Ls n1 n2 l1 l2 e1 e2 o1 o2 h1 h2 c1 c2):jc { nx:=λ_=>Q .sh .non,rt:=Q } (Ev ns n1 n2 far cell l1 l2 o3 [C7 n1 n2 l1 l2,s8 c1 o1,s8 c2 o2,MD,none]):=by
 obtain⟨w12,e12⟩:∃ w,w=jk:=⟨_,rfl⟩
 unfold jc Ev;rw[<- e12];have p1:=T.p1;have p2:=T.p2;have k1:=T.k1;have k2:=T.k2;have nl:=T.nl;walk_at "q";refine⟨n1,n2,l1,l2,names,rfl,by lia,by lia,by lia,λs hs=>.inr (T.m1 s hs),λs hs=>.inr (T.m2 s hs),?_⟩;walk_at "q";rw[e12];exact Hi T hx h G
structure Fix(names:List Str)(c:Int)(o:List aI):Prop where
 c1:1<=c/\c<=20
 i:cq c o
 m:pz names o
 l:o.length<=1000
 e:hJ c o o
 s:∀ hs c' o',aX c o hs->cu o hs c' o'->c'=c/\o'=o
def Ck (hn:1<=n/\n<=20) (il:cq n l) (ml:pz names l) (z:("*" : Str)∈names) (he:hJ n l E) (hl:E.length<=1000) (H:aX n E hs) (L:cu E hs c o):Fix names c o:=by have aE:=he.in il;obtain⟨io,c1,cn,_⟩:=L.in H aE hn.1;refine⟨⟨c1,by lia⟩,io,λt ht=>?_,iS (L.len H aE hn.1) hl,rM he il L H hn.1,λgx c' o' H' L'=>rH L H aE hn.1 L' H'⟩;obtain⟨u,hu,_,a2,_⟩:=(L.mem t).mp ht;rw[a2];exact he.nm ml z u hu
def Ia(T:ub n1 n2 l1 l2 names)(hx:cell % 4≠3->∃ π,Sx n1 l1 l1 n2 (·∈l2) π)(h:∀ m,Q m (.bl true))(G:Ls n1 n2 l1 l2 e1 e2 o1 o2 h1 h2 c1 c2):ji { nx:=λ_=>Q .sh .non,rt:=Q } (Ev ns n1 n2 far cell l1 l2 o3 [C7 n1 n2 l1 l2,some (.ow true (.tup [.int c1,.list (o1.map cx)])),some (.ow true (.tup [.int c2,.list (o2.map cx)])),none,none]):=by
 obtain⟨E1,E2,H1,H2,L1,jI⟩:=id G;obtain⟨w11,e11⟩:∃ w,w=jc:=⟨_,rfl⟩
 unfold ji Ev;rw[<- e11];have p1:=T.p1;have p2:=T.p2;have nl:=T.nl;have f1:=T.Zh E1;have f2:=T.Zi E2;have F1:=Ck (by lia) T.i1 T.m1 T.z E1 (by lia) H1 L1;have F2:=Ck (by lia) T.i2 T.m2 T.z E2 (by lia) H2 jI;walk_at "q";refine b_ _ (λi ρ=>∃ MD,ρ=Ev ns n1 n2 far cell l1 l2 o3 [C7 n1 n2 l1 l2,s8 c1 o1,s8 c2 o2,MD,none]) ⟨none,rfl⟩ ?_ ?_
 ·rintro i x ρ Rj ⟨MD,rfl⟩ N hN;unfold Ev;obtain⟨c,o,rfl,F⟩:∃ c o,x=.tup [.int c,.list (o.map cx)]/\Fix names c o:=by
   have:=ly Rj;simp only[eK,IH,or_false] at this;rcases this with rfl|rfl
   ·exact⟨c1,o1,rfl,F1⟩
   ·exact⟨c2,o2,rfl,F2⟩
  have ok:dS 12 (.tup [.int c,.list (o.map cx)])=true:=uZ 9 F.i;have eq:=eq_self (W8 c o);have eq:ja (.tup [.int c,.list (o.map cx)]) (.tup [.int c,.list (o.map cx)])=true:=eq;walk_at "q";refine⟨c,o,names,rfl,F.c1,F.i,F.m,T.z,by lia,F.l,λout ho _=>?_⟩;have:=ho.uniq F.e;subst this;rw[show mD c out=.tup [.int c,.list (out.map cx)] from rfl];walk_at "q";refine⟨ok,ok,R.F (by rw[eq];rfl) ?_⟩;walk_at "q";refine⟨c,out,names,rfl,F.c1,F.i,F.m,T.z,by lia,F.l,λkw' pf _=>?_⟩;have:=pf.uniq F.e;subst this;walk_at "q";refine⟨c,kw',rfl,F.c1,F.i,F.l,λgx c' o' H' L'=>?_⟩;obtain⟨rfl,rfl⟩:=F.s gx c' o' H' L';rw[show mD c' o'=.tup [.int c',.list (o'.map cx)] from rfl];walk_at "q";refine⟨ok,ok,R.F (by rw[eq];rfl) ?_⟩;walk_at "q";refine⟨c',o',rfl,F.c1,F.i,F.l,λkc Zm Zn H2' ky'=>?_⟩;obtain⟨rfl,rfl⟩:=F.s kc Zm Zn H2' ky';rw[show mD Zm Zn=.tup [.int Zm,.list (Zn.map cx)] from rfl];walk_at "q";refine⟨ok,ok,R.F (by rw[eq];rfl) ?_⟩;walk_at "q";exact hN _ ⟨_,rfl⟩
 ·rintro ρ ⟨MD,rfl⟩;walk_at "q";rw[e11];exact Gn T hx h G
def JQ(T:ub n1 n2 l1 l2 names)(hx:cell % 4≠3->∃ π,Sx n1 l1 l1 n2 (·∈l2) π)(h:∀ m,Q m (.bl true)):oh { nx:=λ_=>Q .sh .non,rt:=Q } (Ev ns n1 n2 far cell l1 l2 o3 [C7 n1 n2 l1 l2,none,none,none,none]):=by
 obtain⟨w10,e10⟩:∃ w,w=ji:=⟨_,rfl⟩
 unfold oh Ev;rw[<- e10];have p1:=T.p1;have p2:=T.p2;have k1:=T.k1;have k2:=T.k2;have nl:=T.nl;walk_at "q";refine⟨n1,l1,names,rfl,by lia,T.i1,T.m1,T.z,by lia,by lia,λe1 E1 _=>?_⟩;have f1:=T.Zh E1;walk_at "q";refine⟨n1,e1,rfl,by lia,E1.in T.i1,by lia,λh1 c1 o1 H1 L1=>?_⟩;walk_at "q";refine⟨n2,l2,names,rfl,by lia,T.i2,T.m2,T.z,by lia,by lia,λe2 E2 _=>?_⟩;have f2:=T.Zi E2;walk_at "q";refine⟨n2,e2,rfl,by lia,E2.in T.i2,by lia,λh2 c2 o2 H2 jI=>?_⟩;walk_at "q";rw[e10];exact Ia T hx h ⟨E1,E2,H1,H2,L1,jI⟩
def G3(T:ub n1 n2 l1 l2 names)(hx:cell % 4≠3->∃ π,Sx n1 l1 l1 n2 (·∈l2) π)(h:∀ m,Q m (.bl true)):nM { nx:=λ_=>Q .sh .non,rt:=Q } (Ev ns n1 n2 far cell l1 l2 o3 [none,none,none,none,none]):=by
 obtain⟨w8,e8⟩:∃ w,w=oh:=⟨_,rfl⟩
 unfold nM Ev;rw[<- e8];walk_at "q";rw[e8];exact .inl ⟨bN l1,.inl ⟨bN l2,JQ T hx h⟩⟩
end
def Kl:∀ ds Q,Rl ds Q->HB { nx:=λ_=>Q .sh .non,rt:=Q } (aH 12 ds):=by
 rintro ds Q ⟨ns,rfl,hl,h⟩;obtain⟨w7,e7⟩:∃ w,w=nM:=⟨_,rfl⟩
 unfold HB;rw[<- e7];walk_at "q";refine⟨ns,0,rfl,by decide,?_⟩;generalize ns.getD _ 0=c0;have p1:1<=1+c0 % 6/\1+c0 % 6<=6:=by lia
 walk_at "q";generalize 1+c0 % 6=n1 at *
 refine⟨ns,1,rfl,by decide,?_⟩;generalize ns.getD _ 0=far;walk_at "q";refine⟨far,rfl,λnames a1 a4 az ad=>?_⟩;walk_at "q";refine⟨ns,n1,names,rfl,p1,a1,ad,λl1 i1 m1 k1=>?_⟩;walk_at "q";refine⟨ns,2,rfl,by decide,?_⟩;generalize ns.getD _ 0=cell;walk_at "q";refine⟨n1,cell / 4,l1,names,rfl,p1,i1,m1,az,k1,λn2 l2 π p2 i2 m2 k2 X=>?_⟩;walk_at "q";refine R.D (λe=>?_) λe=>?_
 ·walk_at "q";refine⟨n2,far / 16,l2,names,rfl,by lia,i2,m2,ad,a1,k2,λl3 i3 m3 k3=>?_⟩;walk_at "q";rw[e7];exact G3 ⟨p1,by lia,i1,i3,m1,m3,az,a4,ad,k1,k3⟩ (λz=>absurd e z) h
 ·walk_at "q";rw[e7];exact G3 ⟨p1,by lia,i1,i2,m1,m2,az,a4,ad,k1,by lia⟩ (λ_=>⟨π,X⟩) h
def top(i:Nat):Stmt:=PySem.Challenge.pw_kinlook_k52_whole_least_with_hidden_step.main.body.getD i (.Pass ⟨0,0,0,0⟩)
abbrev sG:Stmt:=top 40
structure Txt(K:aC)(mg:Str->Option ae):Prop where
 Zo:mg "all" = none
 Zq:mg "enumerate" = none
 Zr:mg "isinstance" = none
 AR:mg "len" = none
 MG:mg "list" = none
 O5:mg "range" = none
 HV:mg "set" = none
 zo:mg "sorted" = none
 Zt:mg "str" = none
 O6:Ta mg "HIDDEN" "*"
 Zu:Ta mg "LETTERS" "abcdefghijklmnopqrstuvwxyz"
 Zv:Og mg "MOST_LETTERS" 6
 Zw:Og mg "MOST_STATES" 20
 Zx:Og mg "MOST_STEPS" 80
 Zy:Og mg "MOST_OPEN_DEEDS" 6
abbrev FA(K:aC)(x:Str)(s:Stmt):Prop:=∃ (f:ah) (oc:ae) (od an:Option ah) (CM:Array (Option ae)) (kV doc pm gv ct:ae),pT K kr x=some (some (.ref f))/\K.lookup f=some ⟨oc,od,.func (zt x x (Dp s) (yn s) (mB s) .none kV doc pm an gv ct),CM⟩/\MX K gv x=true/\IA K (.ref f)=true
def cB{K:aC}{h:dy}{mg:Str->Option ae}{x:Str}{s:Stmt}(X:K.In h)(G:h.Ns kr mg)(a:FA K x s):∃ f fd,mg x=some (.ref f)/\Dx K x x s f fd:=by obtain⟨f,_,_,_,_,_,_,_,_,_,a,l,c,k⟩:=a;exact⟨_,_,E9 X G a,aR' l c k⟩
def JX{K:aC}{x:Str}{s:Stmt}{f:ah}{oc:ae}{od an:Option ah}{CM:Array (Option ae)}{kV doc pm gv ct:ae}(a:pT K kr x=some (some (.ref f)))(l:K.lookup f=some ⟨oc,od,.func (zt x x (Dp s) (yn s) (mB s) .none kV doc pm an gv ct),CM⟩)(c:MX K gv x=true)(k:IA K (.ref f)=true):FA K x s:=⟨_,_,_,_,_,_,_,_,_,_,a,l,c,k⟩
set_option maxHeartbeats 0 in
def all_mk {l:Uv} {w:eJ} {K:aC} {h:dy} {mg:Str->Option ae} {fa:ah} (X:K.In h) (G:h.Ns kr mg) (hfa:mg "law" = some (.ref fa))(a0:FA K "is_open" (top 4))(a1:FA K "check_bounds" (top 13))(a2:FA K "check_state" (top 14))(a3:FA K "ways_of" (top 15))(a4:FA K "exits_of" (top 16))(a5:FA K "deeds_of" (top 17))(a6:FA K "met" (top 18))(a7:FA K "joined" (top 19))(a8:FA K "key_of" (top 21))(a9:FA K "ranks_behind" (top 22))(a10:FA K "rounds_of" (top 23))(a11:FA K "kinds_of" (top 24))(a12:FA K "alike" (top 25))(a13:FA K "hidden_walks" (top 27))(a14:FA K "eased_steps" (top 28))(a15:FA K "eased" (top 29))(a16:FA K "kin" (top 30))(a17:FA K "homes_of" (top 32))(a18:FA K "least_of" (top 33))(a19:FA K "_law_cell_at" (top 35))(a20:FA K "_law_deeds" (top 36))(a21:FA K "_law_machine" (top 37))(a22:FA K "_law_stretched" (top 38))(a23:FA K "_law_changed" (top 39))(a24:pT K kr "law" = some (some (.ref f24))) (l24:K.lookup f24=some ⟨o24,d24,.func (zt "law" "law" (Dp sG) (yn sG) (mB sG) .none v24 j24 p24 e24 r24 u24),t24⟩) (c24:MX K r24 "law" = true) (k24:IA K (.ref f24)=true)(Zo:pT K kr "all" = some none)(Zq:pT K kr "enumerate" = some none)(Zr:pT K kr "isinstance" = some none)(AR:pT K kr "len" = some none)(MG:pT K kr "list" = some none)(O5:pT K kr "range" = some none)(HV:pT K kr "set" = some none)(zo:pT K kr "sorted" = some none)(Zt:pT K kr "str" = some none){kW':Tok} (O6:pT K kr "HIDDEN" = some (some (.str "*" kW'))){kX':Tok} (Zu:pT K kr "LETTERS" = some (some (.str "abcdefghijklmnopqrstuvwxyz" kX'))){kY':Tok} (Zv:pT K kr "MOST_LETTERS" = some (some (.int 6 kY'))){kZ':Tok} (Zw:pT K kr "MOST_STATES" = some (some (.int 20 kZ'))){lc':Tok} (Zx:pT K kr "MOST_STEPS" = some (some (.int 80 lc'))){ld':Tok} (Zy:pT K kr "MOST_OPEN_DEEDS" = some (some (.int 6 ld')))
  : ∃ fd:FuncData,(∀ (s:ax) (v:ae),BindsTo s fd ⟨[v],[]⟩ [("_law_script",v)])/\∀ base:dy,K.In base->base.Ns kr mg->Au l.prog w K mg base w9 7 fa fd ["_law_script"] (fG K Rl):=by
 have e:=hfa.symm.trans (E9 X G a24);cases e;have T:Txt K mg:=⟨D4 X G Zo,D4 X G Zq,D4 X G Zr,D4 X G AR,D4 X G MG,D4 X G O5,D4 X G HV,D4 X G zo,D4 X G Zt,⟨_,E9 X G O6⟩,⟨_,E9 X G Zu⟩,⟨_,E9 X G Zv⟩,⟨_,E9 X G Zw⟩,⟨_,E9 X G Zx⟩,⟨_,E9 X G Zy⟩⟩
 obtain⟨_,_,m0,F0⟩:=cB X G a0;obtain⟨_,_,m1,F1⟩:=cB X G a1;obtain⟨_,_,m2,F2⟩:=cB X G a2;obtain⟨_,_,m3,F3⟩:=cB X G a3;obtain⟨_,_,m4,F4⟩:=cB X G a4;obtain⟨_,_,m5,F5⟩:=cB X G a5;obtain⟨_,_,m6,F6⟩:=cB X G a6;obtain⟨_,_,m7,F7⟩:=cB X G a7;obtain⟨_,_,m8,F8⟩:=cB X G a8;obtain⟨_,_,m9,F9⟩:=cB X G a9;obtain⟨_,_,m10,F10⟩:=cB X G a10;obtain⟨_,_,m11,F11⟩:=cB X G a11;obtain⟨_,_,m12,F12⟩:=cB X G a12;obtain⟨_,_,m13,F13⟩:=cB X G a13;obtain⟨_,_,m14,F14⟩:=cB X G a14;obtain⟨_,_,m15,F15⟩:=cB X G a15;obtain⟨_,_,m16,F16⟩:=cB X G a16;obtain⟨_,_,m17,F17⟩:=cB X G a17;obtain⟨_,_,m18,F18⟩:=cB X G a18;obtain⟨_,_,m19,F19⟩:=cB X G a19;obtain⟨_,_,m20,F20⟩:=cB X G a20;obtain⟨_,_,m21,F21⟩:=cB X G a21;obtain⟨_,_,m22,F22⟩:=cB X G a22;obtain⟨_,_,m23,F23⟩:=cB X G a23;have F24:=aR' (st:=sG) l24 c24 k24;refine⟨zt "law" "law" (Dp sG) (yn sG) (mB sG) .none v24 j24 p24 e24 r24 u24,λs v=>.of_eq rfl,λbase _ _=>?_⟩;have mk:=@Wn.mk l.prog w K mg base;obtain C0:=(mk m0 F0 ["thing"] 1 0 sO yG (aj (cZ (LD (Am (tM (yp (Jy T.Zr (qv 0) (Jz T.Zt Ih)))) (yx (tM (ue xJ xJ DX DX au (bD bz gG T.AR fL (qv 0)) (Tq T.Zv)))))) (ao (bL AH))
   aL)
   (ao (bL (bD hI' Hg T.Zo Im (gD (tn:=["sign"]) (cn:=[]) (ix:=[]) (t6 (Gm (qv 0))) (aB 0) cj (Aq mz wQ (qv 0) (Qn T.Zu)))))))).1
 obtain C2:=(mk m2 F2 ["m", "state"] 2 0 jU nJ (ao (cZ (tM (ue xJ BP DX Iw au (qv 1) (eT (qv 0) au)))
   gh
   aL))).1
 obtain C3:=(mk m3 F3 ["m", "ways", "start", "deed", "end"] 1 0 sJ wX (aj (aG 1 rC) (aj (aN 0 (dO (dJ (eT (qv 0) au)) (lN (aU (aB 2) (aU (aB 3) (aU (aB 4) gY)))) (ao (aN 4 (aN 3 (aN 2 (Ko (pv 1) (cQ (aa (qv 2) (aa (qv 3) aq))) (qv 4)))))))) (ao (jy (pv 1)))))).1
 obtain C4:=(mk m4 F4 ["m", "exits", "start", "deed", "end"] 1 0 p6 vL (aj (cC 1 (tn:=["state"]) (cn:=[]) (ix:=[]) (t6 (nW T.O5 (eT (qv 0) au))) (aB 0) cj (fW aq)) (aj (aN 0 (dO (dJ (eT (qv 0) au)) (lN (aU (aB 2) (aU (aB 3) (aU (aB 4) gY)))) (ao (aN 4 (aN 3 (o_ (Ke (aR (pv 1)) (qv 2)) (cQ (aa (qv 3) (aa (qv 4) aq))))))))) (ao (jy (pv 1)))))).1
 obtain C5:=(mk m5 F5 ["m"] 1 0 qG vU (ao (bL (lL T.zo T.HV (gD (tn:=["step"]) (cn:=[]) (ix:=[]) (cP (eT (qv 0) au)) (aB 0) cj (eT (qv 0) au)))))).1;obtain C6:=(mk m6 F6 ["m", "reached", "waiting", "state", "step"] 1 0 En J_ (aj (aG 1 (yP au AH)) (aj (aG 2 (fW (aa au aq))) (aj (oO (yt (qv 2)) (aj (Cj 3 (aR (pv 2))) (ao (aN 0 (dO (dJ (eT (qv 0) au)) (aB 4) (ao (cZ (LD (tK (aM GN pM (eT (qv 4) au) (qv 3)) (n_ (aM wJ wQ (eT (qv 4) au) (qv 1))))) (aj (eV (aR (pv 1)) (eT (qv 4) au) AH) (ao (o_ (aR (pv 2)) (eT (qv 4) au))))
   aL)))))))
   (ao (bL (bD B_ uH T.zo bF (qv 1)))))))).1
 obtain C8:=(mk m8 F8 ["exits", "ranks", "state"] 3 0 uU z_ (ao (bL (cQ (aa (eT (qv 1) (qv 2)) (aa (vC T.zo T.HV (gD (tn:=["deed", "end"]) (cn:=["ranks"]) (ix:=[1]) (cP (eT (qv 0) (qv 2))) (lN (aU (aB 0) (aU (aB 1) gY))) cj (cQ (aa (qv 0) (aa (eT (qv 2) (qv 1)) aq))))) aq)))))).1;obtain C13:=(mk m13 F13 ["ways", "state", "walks", "waiting", "start", "end"] 2 0 iT j_ (aj (aG 2 (Ab (qv 1) (WV (fW aq)))) (aj (aN 1 (aG 3 (fW (aa (qv 1) aq)))) (aj (oO (yt (qv 3)) (aj (Cj 4 (aR (pv 3))) (ao (aN 4 (dO (dJ (Jw (qv 0) (cQ (aa (qv 4) (aa (Qn T.O6) aq))) (WV (fW aq)))) (aB 5) (ao (cZ (aM wJ wQ (qv 5) (qv 2)) (aj (aN 5 (aN 4 (zf (aR (pv 2)) (qv 5) (WV (gB (eT (qv 2) (qv 4)) (fW (aa (cQ (aa (qv 4) (aa (Qn T.O6) (aa (qv 5) aq)))) aq))))))) (ao (aN 5 (o_ (aR (pv 3)) (qv 5)))))
   aL)))))))
   (ao (jy (pv 2))))))).1
 obtain C14:=(mk m14 F14 ["exits", "reaches", "state", "steps", "near", "deed", "far"] 3 0 j5 oN (aj (aN 2 (cC 3 (tn:=["end"]) (cn:=["state"]) (ix:=[2]) (cP (eT (qv 1) (qv 2))) (aB 0) cj (cQ (aa (qv 1) (aa (Qn T.O6) (aa (qv 0) aq)))))) (aj (aN 1 (dO (dJ (eT (qv 1) (qv 2))) (aB 4) (ao (aN 0 (dO (dJ (eT (qv 0) (qv 4))) (lN (aU (aB 5) (aU (aB 6) gY))) (ao (cZ (aM BD jL (qv 5) (Qn T.O6)) (ao (aN 5 (aN 2 (Cp (aR (pv 3)) (gD (tn:=["end"]) (cn:=["deed", "state"]) (ix:=[5,2]) (cP (eT (qv 1) (qv 6))) (aB 0) cj (cQ (aa (qv 2) (aa (qv 1) (aa (qv 0) aq)))))))))
   aL)))))))
   (ao (bL (u9 T.zo T.HV (qv 3))))))).1
 obtain Zz:=(mk m19 F19 ["_law_script", "_law_k"] 2 0 iU k_ (aj (cZ (aM BP Iw (qv 1) (bD bz gG T.AR fL (qv 0))) (ao (bL (eT (qv 0) (qv 1))))
   aL)
   (ao (bL au)))).1
 obtain C20:=(mk m20 F20 ["_law_cell", "_law_letters", "_law_base"] 1 0 lq qj (aj (aG 1 uW) (aj (aG 2 (gB (eT (qv 1) (eQ (gR (qv 0) au) au)) (HQ (eT (qv 1) (eQ (gR (qv 0) au) au)) (eQ (gR (qv 0) au) au)))) (ao (aN 2 (bL (qY (fW (aa uW (aa (qv 2) (aa (gB (qv 2) uW) (aa (gB uW (qY (qv 2) (nF au) wN)) aq))))) wN (nF (gB au (eQ (qv 0) au)))))))))).1
 obtain C21:=(mk m21 F21 ["_law_script", "_law_many", "_law_deeds_here", "_law_known", "_law_cell"] 3 0 iZ kY (aj (aG 3 rC) (aj (aN 0 (dO (dJ (qY (qv 0) (nF au) (nF au))) (aB 4) (ao (eV (aR (pv 3)) (cQ (aa (eQ (qv 4) (qv 1)) (aa (eT (qv 2) (eQ (gR (gR (qv 4) (qv 1)) (qv 1)) (bD bz gG T.AR fL (qv 2)))) (aa (eQ (gR (qv 4) (qv 1)) (qv 1)) aq)))) AH)))) (ao (mO (TR (pv 1) (TQ (bD yV l_ T.zo bF (gJ dh j9 T.MG jX (qv 3))) uf))))))).1
 obtain C22:=(mk m22 F22 ["_law_m", "_law_bits", "_law_known", "_law_many", "_law_k", "_law_step", "_law_way"] 2 0 gQ iV (aj (aG 2 rC) (aj (aG 3 (eT (qv 0) au)) (aj (aN 0 (dO (Dv T.Zq (eT (qv 0) au)) (lN (aU (aB 4) (aU (aB 5) gY))) (aj (aG 6 (eQ (gR (qv 1) (gB (gB (Jr (qv 4) (qv 4)) (qv 4)) au)) au)) (aj (cZ (LD (tK (aM BD jL (qv 6) au) (n_ (aM BD jL (qv 6) au)))) (ao (eV (aR (pv 2)) (qv 5) AH))
   aL)
   (aj (cZ (aM GN pM (qv 6) au)
   (ao (eV (aR (pv 2)) (qv 5) AH))
   aL)
   (aj (cZ (aM mz wQ (qv 6) (cQ (aa au (aa au aq))))
   (aj (eV (aR (pv 2)) (cQ (aa (eT (qv 5) au) (aa (eT (qv 5) au) (aa (qv 3) aq)))) AH)
   (aj (eV (aR (pv 2)) (cQ (aa (qv 3) (aa uW (aa (eT (qv 5) au) aq)))) AH)
   (ao (aG 3 (gB (qv 3) au)))))
   aL)
   (ao (cZ (aM GN pM (qv 6) au)
   (ao (eV (aR (pv 2)) (cQ (aa (eT (qv 5) au) (aa uW (aa (eT (qv 5) au) aq)))) AH))
   aL))))))))
   (ao (mO (TR (pv 3) (TQ (bD yV l_ T.zo bF (gJ dh j9 T.MG jX (qv 2))) uf)))))))).1
 obtain C23:=(mk m23 F23 ["_law_m", "_law_deeds_here", "_law_cell", "_law_steps", "_law_step"] 3 0 iY kj (aj (aG 3 (gJ dh j9 T.MG jX (eT (qv 0) au))) (aj (cZ (LD (tK (aM BD jL (qv 3) (fW aq)) (n_ (aM GN pM (eQ (qv 2) au) au)))) (aj (Dd (aR (pv 3)) (eQ (gR (qv 2) au) (bD bz gG T.AR fL (qv 3)))) (ao (mO (TQ (eT (qv 0) au) (TR (pv 3) uf)))))
   aL)
   (aj (aG 4 (cQ (aa (eQ (gR (qv 2) au) (eT (qv 0) au)) (aa (eT (qv 1) (eQ (gR (qv 2) au) (bD bz gG T.AR fL (qv 1)))) (aa (eQ (gR (qv 2) au) (eT (qv 0) au)) aq)))))
   (aj (cZ (aM xN BL (qv 4) (qv 3))
   (ao (aN 4 (o_ (aR (pv 3)) (qv 4))))
   aL)
   (ao (bL (cQ (aa (eT (qv 0) au) (aa (bD yV l_ T.zo bF (qv 3)) aq)))))))))).1
 obtain C1:=(mk m1 F1 ["m"] 1 1 iR kJ (aj (cZ (aM yq Ey (eT (qv 0) au) (Tq T.Zw))
   gh
   aL)
   (aj (cZ (aM yq Ey (bD bz gG T.AR fL (eT (qv 0) au)) (Tq T.Zx))
   gh
   aL)
   (ao (cZ (aM yq Ey (bD bz gG T.AR fL (gD (tn:=["deed"]) (cn:=[]) (ix:=[]) (cP (aW C5 (aa (qv 0) aq))) (aB 0) (rB (yp (aW C0 (aa (qv 0) aq)))) (qv 0))) (Tq T.Zy))
   gh
   aL))))).1
 obtain C9:=(mk m9 F9 ["exits", "ranks", "keys", "different", "key"] 2 1 iW kh (aj (cC 2 (tn:=["state"]) (cn:=["exits", "ranks"]) (ix:=[0,1]) (t6 (nW T.O5 (bD bz gG T.AR fL (qv 1)))) (aB 0) cj (aW C8 (aa (qv 1) (aa (qv 2) (aa (qv 0) aq))))) (aj (aG 3 (fW aq)) (aj (aN 2 (dO (dJ (bD Iz zO T.zo bF (qv 2))) (aB 4) (ao (cZ (aM xN BL (qv 4) (qv 3)) (ao (aN 4 (o_ (aR (pv 3)) (qv 4))))
   aL))))
   (ao (bL (gD (tn:=["key"]) (cn:=["different"]) (ix:=[3]) (cP (qv 2)) (aB 0) cj (Ex (qv 1) (qv 0))))))))).1
 obtain Rm:=(mk m15 F15 ["m", "ways", "exits", "reaches", "steps", "state"] 1 1 xM Eb (aj (aG 1 (aW C3 (aa (qv 0) aq))) (aj (aG 2 (aW C4 (aa (qv 0) aq))) (aj (cC 3 (tn:=["state"]) (cn:=["ways"]) (ix:=[1]) (t6 (nW T.O5 (eT (qv 0) au))) (aB 0) cj (bD B_ uH T.zo bF (aW C13 (aa (qv 1) (aa (qv 0) aq))))) (aj (aG 4 (fW aq)) (aj (dO (nW T.O5 (eT (qv 0) au)) (aB 5) (ao (Cp (aR (pv 4)) (aW C14 (aa (qv 2) (aa (qv 3) (aa (qv 5) aq))))))) (ao (mO (TQ (eT (qv 0) au) (TR (pv 4) uf)))))))))).1
 obtain C7:=(mk m7 F7 ["one", "other", "shift", "moved", "m"] 2 2 uM zb (aj (aG 2 (eT (qv 0) au)) (aj (cC 3 (tn:=["step"]) (cn:=["shift"]) (ix:=[2]) (cP (eT (qv 1) au)) (aB 0) cj (cQ (aa (gB (eT (qv 0) au) (qv 1)) (aa (eT (qv 0) au) (aa (gB (eT (qv 0) au) (qv 1)) aq))))) (aj (aG 4 (cQ (aa (gB (qv 2) (eT (qv 1) au)) (aa (gB (eT (qv 0) au) (qv 3)) aq)))) (aj (sS (aW C1 (aa (qv 4) aq))) (ao (jy (pv 4)))))))).1
 obtain C10:=(mk m10 F10 ["m", "exits", "rounds", "ranks"] 1 2 nQ rK (λ{_ _ _ _ _ _ hr hu nd _}=>(aj (aG 1 (aW C4 (aa (qv 0) aq))) (aj (aG 2 (fW (aa (Ir (fW (aa au aq)) (eT (qv 0) au)) aq))) (aj (aG 3 (aW C9 (aa (qv 1) (aa (eT (qv 2) au) aq)))) (aj (oO (aM BD jL (qv 3) (eT (qv 2) (Gw au))) (zA nd rfl (Or.inl rfl) (pv 2) (pv 3) (aW C9 (aa (qv 1) (aa (qv 3) aq))))) (ao (jy (pv 2))))))))).1
 obtain C11:=(mk m11 F11 ["m"] 1 3 qP vm (ao (bL (J3 (aW C10 (aa (qv 0) aq)) (Gw au))))).1;obtain C12:=(mk m12 F12 ["m", "p", "q", "kinds"] 3 4 yh Dh (aj (sS (aW C2 (aa (qv 0) (aa (qv 1) aq)))) (aj (sS (aW C2 (aa (qv 0) (aa (qv 2) aq)))) (aj (aG 3 (aW C11 (aa (qv 0) aq))) (ao (bL (Aq GN pM (eT (qv 3) (qv 1)) (eT (qv 3) (qv 2))))))))).1
 obtain C17:=(mk m17 F17 ["m", "kinds", "numbers", "kind"] 1 4 pK vM (aj (aG 1 (aW C11 (aa (qv 0) aq))) (aj (aG 2 (yP (eT (qv 1) au) au)) (aj (dO (dJ (lL T.zo T.HV (gD (tn:=["state"]) (cn:=["kinds"]) (ix:=[1]) (cP (aW C6 (aa (qv 0) aq))) (aB 0) cj (eT (qv 1) (qv 0))))) (aB 3) (ao (cZ (aM wJ wQ (qv 3) (qv 2)) (ao (eV (aR (pv 2)) (qv 3) (bD bz gG T.AR fL (qv 2))))
   aL)))
   (ao (bL (gD (tn:=["kind"]) (cn:=["numbers"]) (ix:=[2]) (cP (qv 1)) (aB 0) cj (G9 (qv 1) (qv 0))))))))).1
 obtain C16:=(mk m16 F16 ["m", "p", "q"] 3 5 FW JV (ao (bL (aW C12 (aa (aW Rm (aa (qv 0) aq)) (aa (qv 1) (aa (qv 2) aq))))))).1;obtain Us:=(mk m18 F18 ["m", "homes", "steps"] 1 5 o8 uX (aj (aG 1 (aW C17 (aa (qv 0) aq))) (aj (cC 2 (tn:=["start", "deed", "end"]) (cn:=["homes"]) (ix:=[1]) (cP (eT (qv 0) au)) (lN (aU (aB 0) (aU (aB 1) (aU (aB 2) gY)))) (rB (aM Z_ yK (eT (qv 3) (qv 0)) Hc)) (cQ (aa (eT (qv 3) (qv 0)) (aa (qv 1) (aa (eT (qv 3) (qv 2)) aq))))) (ao (bL (cQ (aa (Ac rfl T.AR rfl T.HV (gD (tn:=["home"]) (cn:=[]) (ix:=[]) (cP (qv 1)) (aB 0) (rB (aM Z_ yK (qv 0) Hc)) (qv 0))) (aa (vQ T.zo T.HV (qv 2)) aq)))))))).1
 exact(mk hfa F24 ["_law_script", "_law_many", "_law_far", "_law_deeds_here", "_law_m", "_law_cell", "_law_other", "_law_copied", "_law_least", "_law_second", "_law_one", "_law_whole"] 1 6 Fp Kl (aj (aG 1 (gB au (eQ (aW Zz (aa (qv 0) (aa au aq))) au))) (aj (aG 2 (aW Zz (aa (qv 0) (aa au aq)))) (aj (aG 3 (aW C20 (aa (qv 2) aq))) (aj (aG 4 (aW C21 (aa (qv 0) (aa (qv 1) (aa (qv 3) aq))))) (aj (aG 5 (aW Zz (aa (qv 0) (aa au aq)))) (aj (aG 6 (aW C22 (aa (qv 4) (aa (gR (qv 5) au) aq)))) (aj (cZ (aM GN pM (eQ (qv 5) au) au) (ao (aG 6 (aW C23 (aa (qv 6) (aa (qv 3) (aa (gR (qv 2) au) aq))))))
   aL)
   (aj (aG 7 (fW (aa (cQ (aa (eT (qv 4) au) (aa (gJ dh j9 T.MG jX (eT (qv 4) au)) aq))) (aa (cQ (aa (eT (qv 6) au) (aa (gJ dh j9 T.MG jX (eT (qv 6) au)) aq))) aq))))
   (aj (aG 8 (aW Us (aa (aW Rm (aa (qv 4) aq)) aq)))
   (aj (aG 9 (aW Us (aa (aW Rm (aa (qv 6) aq)) aq)))
   (aj (aN 9 (aN 8 (dO (Gp (cQ (aa (qv 8) (aa (qv 9) aq)))) (aB 10)
   (ao (cZ (LD (Am (aM BD jL (aW Rm (aa (qv 10) aq)) (qv 10)) (Am (aM BD jL (aW Us (aa (aW Rm (aa (qv 10) aq)) aq)) (qv 10)) (yx (aM BD jL (aW Us (aa (qv 10) aq)) (qv 10))))))
   (ao (bL AH))
   aL)))))
   (aj (aG 11 (aW C7 (aa (qv 4) (aa (qv 6) aq))))
   (aj (cZ (aM BD jL (aW C16 (aa (qv 11) (aa au (aa (qv 1) aq)))) (Aq GN pM (qv 8) (qv 9)))
   (ao (bL AH))
   aL)
   (aj (aG 2 (eQ (qv 2) (qv 1)))
   (aj (cZ (LD (tK (aM BD jL (eQ (qv 5) au) au) (n_ (LD (Am (aM BD jL (qv 8) (qv 9)) (yx (tM (yp (aW C16 (aa (qv 11) (aa (qv 2) (aa (gB (qv 1) (qv 2)) aq))))))))))))
   (ao (bL AH))
   aL)
   (ao (aN 6 (aN 4 (bL (Aq GN pM (fW (aa (qv 4) (aa (qv 6) aq))) (qv 7)))))))))))))))))))))).2
def walk{l:Uv}{q:d5}{loose:List Str}{XP:(Str->Option ae)->dy->Prop}{YP:eJ->dy->Prop}{d:DefRec}{K:Params->aC}(hn:l.most=some 63)(P6:d.params.defaults=[])(hY:∀ (w:eJ) (h:dy),YP w h->(K w.params).In h)(F:∀ (w:eJ) (mg:Str->Option ae) (fa:ah) (h:dy),(K w.params).In h->h.Ns kr mg->mg d.name=some (.ref fa) ->
   ∃ fd:FuncData,(∀ (s:ax) (u:ae),BindsTo s fd ⟨[u],[]⟩ [("_law_script",u)])/\∀ base:dy,(K w.params).In base->base.Ns kr mg->Au l.prog w (K w.params) mg base w9 7 fa fd ["_law_script"] (fG (K w.params) Rl)) :
  PySem.W.WalkO q loose XP YP l.row.toRowW d [] (λf vs=>PySem.call f vs) :=
 L2.gH' (n:=63) (k:=7) (x := "_law_script") (CX:=λ_=>w9) (sp:=λw=>fG (K w.params) Rl) hn (by decide) P6 ⟨rfl,by decide,by decide⟩ hY F (λw H a ns hl hO hS=>Al hl hS) λ_ _ _ _ _ z=>z
end L2.Q.Ug
end
open PySem PySem.W PyProof.Rows
namespace PySem.W.Fast
def tw1518730848076565914:=0
def tw14644558215798196914:=0
def tw4770773208340155175:=0
def tw10460807892828141119:=0
def tw5001465230888884753:=0
def tw2083561608077704182:=0
def tw10645545453796246645:=0
def tw8046116860475677814:=0
def tw3528357687655282852:=0
def tw4533529079851661561:=0
def tw9830240226619637372:=0
def tw4416212395348510725:=0
def tw6857355947663110191:=0
def tw5437838625171397304:=0
def tw9368594660875145730:=0
def tw14099222067764990660:=0
def tw6752008298622162179:=0
def tw1304539484576887097:=0
def tw17680369816445741836:=0
def tw8405970657882990856:=0
def tw4404946789651851715:=0
def tw9785656522738029356:=0
def tw8496941295979510335:=0
def tw15731128978924804017:=0
def tw6813830432408219271:=0
def tw17704527404839066413:=0
def tw23877822393264301:=0
def tw10511223273836063916:=0
def tw15047404443126489266:=0
def tw1908576096435095171:=0
def tw2758998174871453666:=0
def tw5846050701969273382:=0
def tw15565569306270884835:=0
def tw6451831871168231306:=0
def tw6638515023717976362:=0
def tw1853776464607667637:=0
def tw14094782673366125148:=0
def tw15571510259370630050:=0
def tw5571145147204088626:=0
def tw7098965328256748455:=0
def tw3694707788139872463:=0
def tw10293273267679265054:=0
def tw12642736792535342210:=0
def tw6084848274748127672:=0
def tw828530031127534709:=0
def tw4053862970121751549:=0
def tw13033031750712355575:=0
def tw9580991626991134550:=0
def tw2534792563476794478:=0
def tw6668683824607034967:=0
def tw14947633749317549044:=0
def tw8569688473342246301:=0
def tw6171451360906510311:=0
def tw14751693215292002956:=0
def tw7136958857669473900:=0
def tw5424651054709244714:=0
def tw18437807514884858391:=0
def tw703764786752149800:=0
def tw2829952697057244852:=0
def tw17417712033351631286:=0
def tw8955320142495733970:=0
def tw952882090327385529:=0
def tw5182937505986627462:=0
def tw17315008616066992712:=0
def tw38609443947659770:=0
def tw11123301859267019791:=0
def tw16449066753980432653:=0
def tw3742710513348697216:=0
def tw4243236544520714441:=0
def tw9112372636502276647:=0
def tw8555780752309261338:=0
def tw8853129093433410185:=0
def tw10979053374408283934:=0
def tw16805068776794038537:=0
def tw15630210857018858070:=0
def tw17710374659758132398:=0
def tw17671216728598008747:=0
def tw15764771724810090543:=0
def tw8146278201173947675:=0
def tw8909429687445843867:=0
def tw15828349799569017140:=0
def tw14770844490181808464:=0
def tw12339651422886486057:=0
def tw531766836949901775:=0
def tw5227572234923903818:=0
def tw5334653156584600046:=0
def tw3887972760238330325:=0
def tw9315131872363241105:=0
def tw15986708226303935350:=0
def tw12377247396164358095:=0
def tw10864460220403568157:=0
def tw8913042143936225885:=0
def tw12295157670010984235:=0
def tw10986192436059677419:=0
def tw14172696265227636480:=0
def tw8675091709306143481:=0
def tw2306275479384804765:=0
def tw2416513256768369277:=0
def tw13053527657213701775:=0
def tw2987816788633475657:=0
def tw5798417877253722787:=0
def tw8945702892168171108:=0
def tw11634035586712909513:=0
def tw934668788301594103:=0
def tw9807720471545327507:=0
def tw14245116011447674712:=0
def tw6055025020860511018:=0
def tw5097415849329071065:=0
def tw11965611488479291050:=0
def tw15515146513335843136:=0
def tw5954958855866395638:=0
def tw17551648222840472213:=0
def tw15968657863883222589:=0
def tw1506866471493130586:=0
def tw10702771754187810788:=0
def tw13060544331704207764:=0
def tw1996452387975509211:=0
def tw7453639099446525695:=0
def tw8337480430501553202:=0
def tw830366766383386533:=0
def tw4547767088288069370:=0
def tw6088804569564539268:=0
def tw216931351563963871:=0
def tw8901529916403424538:=0
def tw17922930738504104078:=0
def tw7283261834297899448:=0
def tw2128609090899282634:=0
def tw18026292232225019613:=0
def tw3766295512912210842:=0
def tw4388362619557699216:=0
def tw8522247567508366422:=0
def tw6612157328996866508:=0
def tw1567676501464145223:=0
def tw7510173777861806959:=0
def tw9456099909411998040:=0
def tw13570695885939107564:=0
def tw7553188460223585940:=0
def tw2700569984239976846:=0
def tw9324985191978965565:=0
def tw4852049352923247719:=0
def tw538425740428869325:=0
def tw937104775190006215:=0
def tw7227191567738880270:=0
def tw452896067745615545:=0
def tw5137043269255174466:=0
def tw16449188570195241502:=0
def tw17023976549533767166:=0
def tw16657730768926425821:=0
def tw8867080915910905474:=0
def tw9439270445206602146:=0
def tw17834498230825636273:=0
def tw18420797214625837171:=0
def tw9185643580957361952:=0
def tw4329354986388940454:=0
def tw13734049774320591684:=0
def tw9558507081146105550:=0
def tw14276063917038617576:=0
def tw12829118829827893288:=0
def tw12738908947967607264:=0
def tw3510000907032282841:=0
def tw9407128393842654674:=0
def tw6800148386599929522:=0
def tw10775918638554886252:=0
def tw9625280229755017819:=0
def tw15386427380625412503:=0
def tw17007041572776731223:=0
def tw3859570162465269288:=0
def tw18241577935930066340:=0
def tw11013384521375066628:=0
def tw8591710905708765201:=0
def tw8138325307840931913:=0
def tw2408900202270508010:=0
def tw4031542942158861763:=0
def tw3898582406542769663:=0
def tw10795766253175057081:=0
def tw11925249570330022704:=0
def tw14076428300472397288:=0
def tw17386650403710544435:=0
def tw7633099169907911702:=0
def tw12597556812301927462:=0
def tw16325553964617740074:=0
def tw5814836670447978313:=0
def tw2304690361003645957:=0
def tw14278873859908858433:=0
def tw17568476644437011363:=0
def tw12417068359570164647:=0
def tw10800744652507765618:=0
def tw14030819734843211769:=0
def tw14209267310945112911:=0
def tw6370289640771124853:=0
end PySem.W.Fast
set_option maxRecDepth 100000 in
set_option maxHeartbeats 0 in
theorem PySem.Challenge.cw_kinlook_k52_whole_least_with_hidden_step_holds : PySem.Challenge.rw_kinlook_k52_whole_least_with_hidden_step.Holds := by
 w_on;o_law;k_head;(case hw=>w_witness2)
 k_fill
 refine L2.Q.Ug.walk (l:=PySem.Challenge.rw_kinlook_k52_whole_least_with_hidden_step) rfl rfl (λw h Y=>PySem.W.kIn_of Y) ?F
 case F =>
  intro w mg fa h KX G P7
  refine' L2.Q.Ug.all_mk KX G P7 ..
  all_goals first|k_is|k_exc|kit_is|(refine' L2.Q.Ug.JX ..<;>first|k_is|skip)|skip
