import PyProof.Rows.All
import Wide.All
import OpenK.AllK
import Wide.FinOn
import Lean
import PyProof.EqAt
import PyProof.EqKinds
import PyProof.TupleCall
import PyProof.CompUse
import PyProof.NeData
import PyProof.WalksEnum
import PyProof.EnumMake
import PyProof.ZipIter
import PyProof.Rows.EnumRows
import PyProof.Rows.FactsT2
import KE.KDictList
import PyProof.Rows.SortRuns
import PyProof.Rows.SortWalk
import KE.KSortTup
import PyProof.Rows.SortStr
import PyProof.ListRange
import PyProof.StrOps2
import PyProof.StrBlock2
import PyProof.AutoIntG3
import PyProof.ListMulRight
import PyProof.Rows.ListMulArg
import PyProof.Rows.CallKwBuiltin
import PyProof.Rows.StrMul
import KE.KMinBuiltin
import PyProof.TupleKey
import PyProof.SetKind
import PyProof.Rows.SetFrom
import PyProof.DictWalks
import KE.KRevIter
import PyProof.NsDelKeeps
import PyProof.AutoSeq1
import PyProof.StrCalls2
import PyProof.StrLawsTight
import PyProof.Rows.StrNews2
import PyProof.Rows.StrLawsPart
import PyProof.Rows.StrFirst
import PyProof.CallStr
import KE.KIntText
import Wide.Seal
import PySem.Challenge.RW_kinlook_k27_no_sentences
open PySem.W renaming Frag->ax,nsIn->kA,findIn->ng,mg_none_of->wm,fnOf->pj,keepIn->tJ,kia_one->wq,mg_of->tN,kitOne->zh,codeIn->BE,emptyDict->EX,instObj->EZ,isFn->HC,plainGet->Pw,hasDictIn->Si,kitx_dict->Sj,plainGet_of->U8,lookIn->Sn,plainOver->U9,mroIn->Sq,kitx_list->U_,takerIn->Va,makesIn->Vb,OpenLaw->Vc
open PySem renaming Value->ah,Addr->ag,wpAny_bind->bS,starEach->bE,sizeLine->bI,Shared->aC,wpAny_pure->dk,model->aT,Program->b9,wpAny->b5,eval->b4,World->cy,mainGlobals->gi,compareOp->fR,Heap->c9,Around->e7,bootBuiltins->og,backTo->gy,sizeLine_eq->oi,cLine->gV,swapsWith->nI,attributeBase->vj,FuncData->nK,wpAny_mono->sq,wpAny_truthy_bool->BF,binaryOp->oj,Stmt->g9,wpAny_newObj_type->DB,sysModules->wx,foldedSetIterable->E2,keywordEach->zi,Keyword->qV,wpAny_loadPart_at->HG,wpAny_typeNameOfWhole_keyiter->Sr,wpAny_passesOwn->HK,behindInMarks->E3,backToKw->zk,wpAny_typeNameOf_keyiter->Ss,wpAny_callSpecial?_slot->Sv,assignEach->DC,typeIs_str->DE,NameKind->AQ,wpAny_call_entry->PD,call_meets->E4,sliceBounds->HL,wpAny_Call_Name_kw->Sw,tupleKind_room_in1->Sx
open List renaming mem_cons_of_mem->eA,mem_append_right->eP,length_map->dr,mem_cons_self->fo,mem_append->eK,mem_cons->eJ,length_append->hJ,mem_append_left->jI,sublist_append_right->mn,nodup_append->iN,getElem?_eq_some_iff->nh,size_toArray->jS,mem_singleton->kD,map_cons->gX,length_cons->kB,mem_map->iq,append_nil->kE,map_append->kF,getElem?_map->mr,length_take->mw,getElem?_eq_getElem->vk,mem_of_getElem?->rg,append_assoc->oI,drop_eq_getElem_cons->xD,nodup_nil->mz,nodup_cons->sv,map_map->om,getElem?_append_right->DF,getD_eq_getElem?_getD->DH,mem_iff_getElem?->AR,replicate_succ->BG,take_add_one->AU,reverse_reverse->DI,getElem?_append_left->HM,cons_append->AV,filterMap_cons->DJ,mem_zipIdx_iff_getElem?->LW,flatten_cons->BH,length_drop->BI,not_mem_nil->BM,all_eq_true->BO,pairwise_iff_getElem->LZ,find?_cons->BQ,singleton_append->HP,sublist_append_left->L4,nil_sublist->DL,mem_range->BU,take_of_length_le->L5,map_congr_left->HV,length_reverse->HZ,length_replicate->L6,length_singleton->L7,drop_length->E5,take_length->E6,mem_of_mem_take->L8,all_cons->DM,any_cons->DS,append_eq_nil_iff->PF,take_append_drop->PH,getElem?_eq_none->PK,nodup_iff_pairwise_ne->Sy,foldl_cons->Ic,pairwise_map->L9,length_eq_zero_iff->Sz,reverse_eq_nil_iff->SD,zip_cons_cons->PR,dropLast_concat_getLast->Vd,foldl_append->PY,flatMap_cons->PZ,getElem?_set_ne->SF,pairwise_append->SG,mem_of_mem_drop->SJ,getElem_mem->P1,any_eq_true->P2,extract_eq_drop_take->Ve,length_nil->P4,getElem?_replicate->Vf,length_range->SK,lookup_cons->SN,perm_append_comm->Vg,cons_ne_nil->SQ,eq_nil_iff_forall_not_mem->Z2,length_dropLast->Vh,dropLast_subset->Vi,length_zip->SV,all_map->P5,getElem?_range->Vj,mem_filterMap->Vk,contains_cons->Vl,ext_getElem?->Vm,getElem_inj->Vn,map_fst_zip->Vo
open Nat renaming le_refl->cx,zero_le->fI,le_trans->iO,lt_of_lt_of_le->pz,ne_of_lt->j3,lt_irrefl->xE,le_of_lt->Iq,lt_succ_of_lt->Mb,add_sub_of_le->P6,mul_le_mul->P7,lt_of_succ_lt->Vp,le_of_eq->P8,add_comm->P9,ne_of_gt->SW,zero_add->SX,sub_self->SY,add_zero->S0,min_self->S4
open PyProof.Rows renaming wpS_bind->cq,arrOf->bG,wpS_pure->dc,Keyed->bT,SortSt->dA,kindOf->fq,pendingOf->mB,wpS_forRange->sA,envOfC->ki,failedOf->sC,SortKind->vn,wpS_mono->vt,wpS_modify->DT
open PySem.Heap renaming get?_push_of_some->i3,lt_size->fS,get?_push_size->nL,size_update->Qb,get?_push_ne->S5
open Option renaming map_eq_some_iff->oo,bind_eq_some_iff->S6,isSome_map->Qr,ne_none_iff_exists'->Vq,isSome_iff_exists->Vr,bind_some->Vs
open Bool renaming and_eq_true->kM,false_ne_true->oP,false_eq_true->xI,eq_iff_iff->B1,true_and->QN,or_eq_true->S7,not_eq_true'->Vt
open Int renaming toNat_of_nonneg->sD,emod_lt_of_pos->zl,emod_nonneg->xS,le_trans->zo,le_refl->zt,toNat_natCast->My,le_of_lt->Iy
open Array renaming toList_push->sF,length_toList->zv,getElem?_toList->B3,eq_empty_of_size_eq_zero->QV,size_extract->IA,getD_eq_getD_getElem?->S8,getElem?_eq_some_iff->S9,append_assoc->QX,getElem?_eq_none->S_,getElem?_extract->Ta,perm_iff_toList_perm->Vu,toList_inj->Tb,toList_extract->Vv,append_empty->Vw
open PySem.PyData renaming keyHash->QY
def bv:Lean.Syntax:=(Lean.Unhygienic.run `(tacticSeq|rfl)).raw
local macro_rules | `(command| def $i:declId $s:optDeclSig $v:declVal)=>`(command| noncomputable def $i:declId $s:optDeclSig $v:declVal)
local macro_rules | `(command| abbrev $i:declId $s:optDeclSig $v:declVal)=>`(command| noncomputable abbrev $i:declId $s:optDeclSig $v:declVal)
set_option compiler.extract_closed false
def L2.eR{α β:Type _}{A B C:α->β->Prop}{G:Prop}(x:∃ a b,A a b/\B a b/\C a b)(k:∀ a b,A a b->B a b->C a b->G):G :=
 let ⟨a,b,p,q,r⟩:=x
 k a b p q r
set_option Elab.async false
set_option linter.all false
set_option maxHeartbeats 4000000
set_option maxRecDepth 100000
set_option linter.defProp false
section
open PySem PySem.Spec PyProof.Rows
set_option bootstrap.genMatcherCode false
set_option genSizeOf false
namespace L2
abbrev Key:=Sum Int Str
def IB:Key->ah->Bool
 |.inl k,v=>Value.isInt k v
 |.inr x,v=>Value.isStrOf x v
def dG'(w:cy):Key->Int
 |.inl k=>hashInt k
 |.inr x=>hashStr w x
theorem AW:∀ {k:Key} {v:ah},IB k v=true->(∃ i t,k=Sum.inl i/\v=Value.int i t)\/(∃ x t,k=Sum.inr x/\v=Value.str x t)
 |.inl i,v,h=>by obtain⟨t,e⟩:=Value.isInt_shape h;exact .inl ⟨i,t,rfl,e⟩
 |.inr x,v,h=>by obtain⟨t,e⟩:=Value.isStrOf_shape h;exact .inr ⟨x,t,rfl,e⟩
def dH'(i:Int)(t:Tok):IB (.inl i) (.int i t)=true:=by simp[IB,Value.isInt]
def dI'(x:Str)(t:Tok):IB (.inr x) (.str x t)=true:=by simp[IB,Value.isStrOf]
def dJ'(a b:Int):decide ((Sum.inl a:Key)=Sum.inl b)=(a == b):=by
 by_cases e:a=b
 ·subst e;simp
 ·have h:¬ (Sum.inl a:Key)=Sum.inl b:=λq=>e (Sum.inl.inj q);rw[decide_eq_false h];exact(beq_eq_false_iff_ne.mpr e).symm
def dK'(a b:Str):decide ((Sum.inr a:Key)=Sum.inr b)=decide (a=b):=by
 by_cases e:a=b
 ·subst e;simp
 ·have h:¬ (Sum.inr a:Key)=Sum.inr b:=λq=>e (Sum.inr.inj q);rw[decide_eq_false h,decide_eq_false e]
def dL'(a:Int)(b:Str):decide ((Sum.inl a:Key)=Sum.inr b)=false:=decide_eq_false (λq=>nomatch q)
def dM'(a:Str)(b:Int):decide ((Sum.inr a:Key)=Sum.inl b)=false:=decide_eq_false (λq=>nomatch q)
def kc(prog:b9)(w:cy):PySem.KeyKind prog w Key where
 is:=IB
 hash:=dG' w
 inj:=λv a b ha hb=>by
  rcases AW ha with⟨i,t,rfl,rfl⟩|⟨x,t,rfl,rfl⟩
  ·rcases AW hb with⟨j,u,rfl,e⟩|⟨y,u,rfl,e⟩
   ·injection e with e1 _;rw[e1]
   ·exact nomatch e
  ·rcases AW hb with⟨j,u,rfl,e⟩|⟨y,u,rfl,e⟩
   ·exact nomatch e
   ·injection e with e1 _;rw[e1]
 byValue:=λk v h=>by rcases AW h with⟨i,t,rfl,rfl⟩|⟨x,t,rfl,rfl⟩<;>rfl
 pyHash:=λhv h=>by
  rcases AW hv with⟨i,t,rfl,rfl⟩|⟨x,t,rfl,rfl⟩
  ·exact wpAny_pyHash_int h
  ·exact wpAny_pyHash_str h
 eqBool:=λhu hv h=>by
  rcases AW hu with⟨i,t,rfl,rfl⟩|⟨x,t,rfl,rfl⟩
  ·rcases AW hv with⟨j,u,rfl,rfl⟩|⟨y,u,rfl,rfl⟩
   ·rw[dJ'] at h;exact wpAny_eqBool_int h
   ·rw[dL'] at h;exact SeqAt.EqAt.int_str i t y u _ _ _ _ h
  ·rcases AW hv with⟨j,u,rfl,rfl⟩|⟨y,u,rfl,rfl⟩
   ·rw[dM'] at h;exact SeqAt.EqAt.str_int x t j u _ _ _ _ h
   ·rw[dK'] at h;exact wpAny_eqBool_str h
 «strs» := λk x t v h=>by
  rcases AW h with⟨i,u,rfl,e⟩|⟨y,u,rfl,e⟩
  ·exact nomatch e
  ·injection e with e1 _;subst e1;cases v<;>rfl
def dN'(prog:b9)(w:cy)(i:Int)(t:Tok):(kc prog w).is (.inl i) (.int i t)=true:=dH' i t
def Tc(prog:b9)(w:cy)(x:Str)(t:Tok):(kc prog w).is (.inr x) (.str x t)=true:=dI' x t
inductive V where
 |non|bl (b:Bool)|int (i:Int)|str (x:Str)|w8 (b:Array UInt8)|zC (b:UInt64)|ref (a:ag)|ty (n:String)
 deriving DecidableEq
set_option genInjectivity false
def RelV:V->ah->Prop
 |.non,u=>u=Value.none
 |.bl b,u=>u=Value.bool b
 |.int i,u=>∃ t,u=Value.int i t
 |.str x,u=>∃ t,u=Value.str x t
 |.w8 b,u=>∃ t,u=Value.bytes b t
 |.zC b,u=>∃ t,u=Value.float b t
 |.ref a,u=>u=Value.ref a
 |.ty n,u=>u=Value.type n
abbrev Vals:List V->List ah->Prop:=Paired RelV
def Vals.length(r:Vals xs us):xs.length=us.length:=Paired.length r
theorem Vals.get:∀ {xs:List V} {us:List ah} {i:Nat} {x:V},Vals xs us->xs[i]? = some x->∃ u,us[i]? = some u/\RelV x u
 |_,_,_,_,.nil,e=>by simp at e
 |_,_,0,_,.cons r _,e=>by simp at e;subst e;exact⟨_,rfl,r⟩
 |_,_,i+1,x,.cons _ t,e=>by obtain⟨u,h1,h2⟩:=Vals.get t (by simpa using e);exact⟨u,by simpa using h1,h2⟩
theorem Vals.append:∀ {xs ys:List V} {us ws:List ah},Vals xs us->Vals ys ws->Vals (xs++ys) (us++ws)
 |_,_,_,_,.nil,s=>s
 |_,_,_,_,.cons r t,s=>.cons r (Vals.append t s)
theorem Vals.take:∀ {xs:List V} {us:List ah} (n:Nat),Vals xs us->Vals (xs.take n) (us.take n)
 |_,_,0,_=>.nil
 |_,_,_+1,.nil=>.nil
 |_,_,n+1,.cons r t=>.cons r (Vals.take n t)
theorem Vals.drop:∀ {xs:List V} {us:List ah} (n:Nat),Vals xs us->Vals (xs.drop n) (us.drop n)
 |_,_,0,r=>r
 |_,_,_+1,.nil=>.nil
 |_,_,n+1,.cons _ t=>Vals.drop n t
def oQ:Option V->Option ah->Prop
 |some v,some u=>RelV v u
 |none,none=>True
 |_,_=>False
def KV{κ:Type}:List (κ × V)->List (κ × ah)->Prop:=Paired λ(p:κ × V) (q:κ × ah)=>p.1=q.1/\RelV p.2 q.2
def kV:Key->V
 |.inl i=>.int i
 |.inr x=>.str x
inductive HO where
 |lst (xs:List V)
 |tup (xs:List V)
 |dK (ae:List (Key × V))|dT (ae:List (List Key × V))
 |set (S:Int->Bool) (n:Nat)
 |ins (C dx:ag) (fs:List (Str × V))
 |own (x:ag)
 |xd (fs:List (Str × V))
 |met (f x:ag)
 |Td (lo hi:Int)
 |pE (o:Obj) (u:HO)
 |E7 (ps:Array ah)
 |ext (φ:c9->Prop)
abbrev Hp:=ag->Option HO
def upd(H:Hp)(a:ag)(o:HO):Hp:=λb=>if b=a then some o else H b
def eM:upd H a o a=some o:=by unfold upd;rw[if_pos rfl]
def dn(h:b≠a):upd H a o b=H b:=by unfold upd;rw[if_neg h]
def dO'{H:Hp}{a b:ag}{o u:HO}(h:H a=some o)(h':H b=some u)(d:o≠u):a≠b:=by intro e;subst e;rw[h] at h';exact d (Option.some.inj h')
def x3{H:Hp}{a b:ag}{o:HO}(h:H a=some o)(h':H b=none):a≠b:=by intro e;subst e;rw[h] at h';cases h'
section
variable (P:b9)(w:cy)
def kR(H:Hp)(h:c9)(a:ag):HO->Prop
 |.lst xs=>xs.length<=bI/\∃ (its:List ah) (n:Nat),Vals xs its/\h.get? a=some { cls:=.type "list",data:=.seq its.toArray n }
 |.tup xs=>xs.length<=bI/\∃ its:List ah,Vals xs its/\IsTup h a its.toArray
 |.dK ae=>ae.length<=bI/\(a == wx)=false/\∃ vs,KV ae vs/\h.DictOf (kc P w) a vs
 |.dT ae=>ae.length<=bI/\(a == wx)=false/\∃ xs:List (List Key × ag × ah),
   Paired (λ(p:List Key × V) (q:List Key × ag × ah)=>p.1=q.1/\H q.2.1=some (.tup (p.1.map kV))/\RelV p.2 q.2.2) ae xs /\
   ∃ o es ep,h.get? a=some o/\o.ExactDict/\o.data=.dict es ep/\es.toList=xs.map (entryOfKey (tupleKind (kc P w)))/\(xs.map (·.1)).Nodup
 |.set S n=>h.SetOf (intKind P w) a S n
 |.ins C dx fs=>H dx=some (.own a)/\fs.length<=1000/\dx≠a/\h.get? a=some (EZ C dx) /\
   ∃ mA,h.Ns1 dx mA/\(∀ f,oQ (fs.lookup f) (mA f))/\PySem.Within mA (fs.map (·.1))
 |.own _=>∃ o,h.get? a=some o
 |.xd fs=>∃ mA,h.Ns1 a mA/\∀ f,oQ (fs.lookup f) (mA f)
 |.Td lo hi=>∃ t u v,h.get? a=some { cls:=.type "range",data:=.fields #[.int lo t,.int hi u,.int 1 v] }
 |.pE o u=>h.get? a=some o/\kR H h a u
 |.E7 ps=>h.get? a=some { cls:=.none,data:=.fields ps }
 |.met f x=>h.get? a=some (PySem.W.methodObj (.ref f) (.ref x))
 |.ext φ=>φ h/\(∃ o,h.get? a=some o)/\∀ h1 h2:c9,φ h1->(∀ o,h1.get? a=some o->h2.get? a=some o)->φ h2
def hU(H:Hp)(h:c9):Prop:=∀ a o,H a=some o->kR P w H h a o
end
section
variable {P:b9}{w:cy}{H H':Hp}{h h':c9}{a:ag}{o:HO}
def kR.lt(x:kR P w H h a o):a<h.objs.size:=by
 cases o with
 |lst xs=>obtain⟨_,_,_,_,e⟩:=x;exact fS e
 |tup xs=>obtain⟨_,_,_,p⟩:=x;exact p.lt
 |dK ae=>obtain⟨_,_,_,_,o,_,_,e,_⟩:=x;exact fS e
 |dT ae=>obtain⟨_,_,_,_,o,_,_,e,_⟩:=x;exact fS e
 |set S n=>obtain⟨o,_,_,_,e,_⟩:=x;exact fS e
 |ins C dx fs=>obtain⟨_,_,_,e,_⟩:=x;exact fS e
 |own y=>obtain⟨_,e⟩:=x;exact fS e
 |xd fs=>obtain⟨_,⟨_,_,_,e,_⟩,_⟩:=x;exact fS e
 |Td lo hi=>obtain⟨_,_,_,e⟩:=x;exact fS e
 |pE ob u=>obtain⟨e,_⟩:=x;exact fS e
 |E7 ps=>exact fS (x)
 |met f y=>exact fS (x)
 |ext φ=>obtain⟨_,⟨_,e⟩,_⟩:=x;exact fS e
theorem Paired.Te{α β:Type}{F G:α->β->Prop}:∀ {QZ:List α} {l₂:List β},Paired F QZ l₂->(∀ a b,F a b->G a b)->Paired G QZ l₂
 |_,_,.nil,_=>.nil
 |_,_,.cons r t,f=>.cons (f _ _ r) (Paired.Te t f)
def Paired.imp'{α β:Type}{F G:α->β->Prop}(f:∀ a b,F a b->G a b){QZ:List α}{l₂:List β}(r:Paired F QZ l₂):Paired G QZ l₂:=Paired.Te r f
def kR.fN(x:kR P w H h a o)(k:∀ b u,(b=a\/H b=some (.own a))->h.get? b=some u->h'.get? b=some u)(ho:∀ b,H b=some (.own a)->H' b=some (.own a)) (ht:∀ b xs,H b=some (.tup xs)->H' b=some (.tup xs)):kR P w H' h' a o:=by
 induction o with
 |lst xs=>obtain⟨z,its,n,r,e⟩:=x;exact⟨z,its,n,r,k _ _ (.inl rfl) e⟩
 |tup xs=>obtain⟨z,its,r,ob,e,c⟩:=x;exact⟨z,its,r,ob,k _ _ (.inl rfl) e,c⟩
 |dK ae=>obtain⟨z,y,vs,r,ob,es,ep,e,c⟩:=x;exact⟨z,y,vs,r,ob,es,ep,k _ _ (.inl rfl) e,c⟩
 |dT ae =>obtain⟨z,y,xs,r,ob,es,ep,e,c⟩:=x;exact⟨z,y,xs,Paired.Te r λp q z=>⟨z.1,ht _ _ z.2.1,z.2.2⟩,ob,es,ep,k _ _ (.inl rfl) e,c⟩
 |set S n=>obtain⟨ob,es,ep,t,e,c⟩:=x;exact⟨ob,es,ep,t,k _ _ (.inl rfl) e,c⟩
 |ins C dx fs =>obtain⟨d,z,ne,e,mA,⟨od,es,ep,e2,c⟩,r⟩:=x;exact⟨ho _ d,z,ne,k _ _ (.inl rfl) e,mA,⟨od,es,ep,k _ _ (.inr d) e2,c⟩,r⟩
 |own y=>obtain⟨ob,e⟩:=x;exact⟨ob,k _ _ (.inl rfl) e⟩
 |xd fs=>obtain⟨mA,⟨od,es,ep,e,c⟩,r⟩:=x;exact⟨mA,⟨od,es,ep,k _ _ (.inl rfl) e,c⟩,r⟩
 |Td lo hi=>obtain⟨t,u,v,e⟩:=x;exact⟨t,u,v,k _ _ (.inl rfl) e⟩
 |pE ob u ih=>obtain⟨e,q⟩:=x;exact⟨k _ _ (.inl rfl) e,ih q⟩
 |E7 ps =>have e:h.get? a=some { cls:=.none,data:=.fields ps }:=x;exact k a _ (.inl rfl) e
 |met f y =>have e:h.get? a=some (PySem.W.methodObj (.ref f) (.ref y)):=x;exact k a _ (.inl rfl) e
 |ext φ=>obtain⟨p,⟨o,e⟩,st⟩:=x;exact⟨st _ _ p λo q=>k _ _ (.inl rfl) q,⟨o,k _ _ (.inl rfl) e⟩,st⟩
def hU.lt(x:hU P w H h)(e:H a=some o):a<h.objs.size:=(x a o e).lt
def hU.fresh(x:hU P w H h)(e:h.objs.size<=a):H a=none:=by
 cases q:H a with
 |none=>rfl
 |some u=>exact absurd (pz (x.lt q) e) (xE _)
def hU.kept(x:hU P w H h)(k:∀ b u,h.get? b=some u->h'.get? b=some u):hU P w H h':=λa o e =>
 (x a o e).fN (λb u _ q=>k b u q) (λ_ q=>q) λ_ _ q=>q
def hU.laid(x:hU P w H h)(k:∀ b u,h.get? b=some u->h'.get? b=some u)(hp:h.objs.size<=a)(new:kR P w (upd H a o) h' a o):hU P w (upd H a o) h':=λb u e=>by
 have hn:=x.fresh hp;by_cases hb:b=a
 ·subst hb;rw[eM] at e;cases e;exact new
 ·rw[dn hb] at e;exact(x b u e).fN (λc v _ q=>k c v q) (λc q=>by rw[dn (x3 q hn)];exact q) λc xs q=>by rw[dn (x3 q hn)];exact q
end
def Rd(H:Hp)(a:ag)(u:HO):Prop:=H a=some u\/∃ o,H a=some (.pE o u)
def Rd.of(h:H a=some u):Rd H a u:=.inl h
def Rd.ok{P:b9}(r:Rd H a u)(x:hU P w H h):kR P w H h a u:=by
 rcases r with r|⟨o,r⟩
 ·exact x a u r
 ·obtain⟨_,q⟩:=x a _ r;exact q
def Q0:Option HO->Prop
 |some (.lst _)=>True
 |some (.dK _)=>True
 |some (.dT _)=>True
 |some (.set _ _)=>True
 |some (.ins _ _ _)=>True
 |some (.ext _)=>True
 |_=>False
section
variable {P:b9}{w:cy}{H:Hp}{h h':c9}{x e:ag}{o':HO}
def hU.write(ok:hU P w H h)(mu:Q0 (H x))(he:e=x\/H e=some (.own x))(k:∀ b u,b≠e->h.get? b=some u->h'.get? b=some u)(MA:∃ u,h'.get? e=some u)(new:kR P w (upd H x o') h' x o'):hU P w (upd H x o') h':=λb u q=>by
 have Z3:∀ c y,H c=some (.own y)->c≠x:=λc y r z=>by subst z;rw[r] at mu;exact mu
 have dP':∀ c xs,H c=some (.tup xs)->c≠x:=λc xs r z=>by subst z;rw[r] at mu;exact mu
 by_cases hb:b=x
 ·subst hb;rw[eM] at q;cases q;exact new
 ·rw[dn hb] at q;by_cases IC:b=e
  ·have q':H b=some (.own x):=by
    rcases he with z|z
    ·exact absurd (IC.trans z) hb
    ·rw[IC];exact z
   rw[q] at q';cases q';obtain⟨v,hv⟩:=MA;exact⟨v,by rw[IC];exact hv⟩
  ·refine(ok b u q).fN (λc v hc r=>k c v ?_ r) (λc r=>by rw[dn (Z3 c b r)];exact r) λc xs r=>by rw[dn (dP' c xs r)];exact r
   rcases hc with rfl|hc
   ·exact IC
   ·rintro rfl;rcases he with z|z
    ·exact Z3 c b hc z
    ·rw[hc] at z;cases z;exact hb rfl
end
structure Un(fs ex:List ag)(H H':Hp)(h h':c9):Prop where
 keep:∀ b o,h.get? b=some o->H b=none->b∉fs->b∉ex->h'.get? b=some o
 slot:∀ b o,h.get? b=some o->H b=none->b∈fs->b∉ex->∃ sl,h'.get? b=some { o with slots:=sl }
 free:∀ b o,h.get? b=some o->H b=none->b∉ex->H' b=none
 there:∀ b o,h.get? b=some o->b∉ex->∃ o',h'.get? b=some o'
 iF:∀ b xs,H b=some (.tup xs)->H' b=some (.tup xs)
 vv:∀ b o u,H b=some (.pE o u)->H' b=some (.pE o u)
 w_:∀ b ps,H b=some (.E7 ps)->∃ more,H' b=some (.E7 (ps++more))
section
variable {fs Z4 ex Z5:List ag}{H H1:Hp}{h h1 h':c9}{a x e:ag}{o:HO}
def Un.any(u:Un fs ex H H1 h h1)(q:h.get? b=some ob)(n:H b=none)(hx:b∉ex):∃ sl,h1.get? b=some { ob with slots:=sl }:=by
 by_cases hb:b∈fs
 ·exact u.slot b ob q n hb hx
 ·exact⟨ob.slots,u.keep b ob q n hb hx⟩
def Un.kept(k:∀ b u,h.get? b=some u->h'.get? b=some u):Un fs ex H H h h' :=
 ⟨λb ob q _ _ _=>k b ob q,λb ob q _ _ _=>⟨ob.slots,k b ob q⟩,λ_ _ _ n _=>n,λb ob q _=>⟨ob,k b ob q⟩,λ_ _ q=>q,λ_ _ _ q=>q,λ_ ps q=>⟨#[],by rw[q];simp⟩⟩
def Un.refl:Un fs ex H H h h:=Un.kept λ_ _ q=>q
def Un.laid(k:∀ b u,h.get? b=some u->h'.get? b=some u)(hp:h.objs.size<=a)(hn:H a=none):Un fs ex H (upd H a o) h h' where
 keep:=λb u q _ _ _=>k b u q
 slot:=λb u q _ _ _=>⟨u.slots,k b u q⟩
 free:=λb u q n _=>by rw[dn (j3 (pz (fS q) hp))];exact n
 there:=λb u q _=>⟨u,k b u q⟩
 iF:=λb xs q=>by rw[dn (x3 q hn)];exact q
 vv:=λb u xs q=>by rw[dn (x3 q hn)];exact q
 w_:=λb ps q=>⟨#[],by rw[dn (x3 q hn),q];simp⟩
def Un.write(mu:Q0 (H x))(he:e=x\/H e=some (.own x))(k:∀ b u,b≠e->h.get? b=some u->h'.get? b=some u)(MA:∃ u,h'.get? e=some u):Un fs ex H (upd H x o) h h':=by
 have hx:∀ b,H b=none->b≠x:=λb n z=>by subst z;rw[n] at mu;exact mu
 have hb:∀ b,H b=none->b≠e:=λb n z=>by
  subst z;rcases he with r|r
  ·exact hx b n r
  ·rw[n] at r;cases r
 have hm:∀ b u,H b=some u->¬ Q0 (some u)->b≠x:=λb u q nm z=>by subst z;rw[q] at mu;exact nm mu
 refine⟨λb u q n _ _=>k b u (hb b n) q,λb u q n _ _=>⟨u.slots,k b u (hb b n) q⟩,λb u q n _=>by rw[dn (hx b n)];exact n,λb u q _=>?_,
  λb xs q=>by rw[dn (hm b _ q λz=>z)];exact q,λb u xs q=>by rw[dn (hm b _ q λz=>z)];exact q,λb ps q=>⟨#[],by rw[dn (hm b _ q λz=>z),q];simp⟩⟩
 by_cases IC:b=e
 ·subst IC;exact MA
 ·exact⟨u,k b u IC q⟩
def Un.mono(u:Un fs ex H H1 h h1)(hs:∀ b∈fs,b∈Z4)(hx:∀ b∈ex,b∈Z5):Un Z4 Z5 H H1 h h1 :=
 ⟨λb ob q n hb he=>u.keep b ob q n (λz=>hb (hs b z)) λz=>he (hx b z),λ_ _ q n _ he=>u.any q n λz=>he (hx _ z),λb ob q n he=>u.free b ob q n λz=>he (hx b z),λb ob q he=>u.there b ob q λz=>he (hx b z),u.iF,u.vv,u.w_⟩
end
def Tf(h:c9)(H:Hp):List ag:=(List.range h.objs.size).filter λa=>(H a).isSome
def DU(h:c9)(H:Hp):c9:=PySem.W.hideAll h (Tf h H)
def dQ'(h:c9)(H:Hp):(DU h H).objs.size=h.objs.size:=PySem.W.hideAll_size _ _
def dR'(e:h.get? b=some o)(n:H b=none):(DU h H).get? b=some o :=
 PySem.W.hideAll_get _ e λhm=>by have q:(H b).isSome=true:=(List.mem_filter.mp hm).2;rw[n] at q;simp at q
def dS'(e:(DU h H).get? b=some o):h.get? b=some o/\H b=none:=by
 have e':h.get? b=some o:=PySem.W.of_hideAll (Tf h H) e;refine⟨e',?_⟩
 cases q:H b with
 |none=>rfl
 |some x =>have hm:b∈Tf h H:=List.mem_filter.mpr ⟨BU.mpr (fS e'),by simp[q]⟩;have z:(DU h H).get? b=none:=PySem.W.hideAll_none (Tf h H) hm;rw[z] at e;cases e
def dT'(g h:c9)(L:ag):List (ag × Obj):=(List.range h.objs.size).filterMap λa=>if a=L\/(g.get? a).isSome=true then none else (h.get? a).map λo=>(a,o)
def rest(g h:c9)(L d:ag):List (ag × Obj):=(dT' g h L).filter λp=>decide (p.1≠d)
structure Mod(K:ax)(mg:Str->Option ah)(base:c9):Prop where
 Q5:K.In base
 glob:base.Ns gi mg
 blt:∃ mb,base.Ns builtinsNs mb/\∀ x:Str,x ≠ "__name__"->mb x=og x
 nolimit:base.NoLimit
structure Cx where
 prog:b9
 w:cy
 K:ax
 mg:Str->Option ah
 base:c9
 A:e7
 N:List Str
 fT:aC
 DV:Hp
 env:Env
 outer:List Env
 stack:List Env
 ex:List ag
 fn:Str->Bool
 calm:Bool
 pn:List (ag × Obj)
 xe:ah->aC->Prop
def gE(l:List Env):List ag:=l.filterMap (·.frame)
abbrev Cx.fs(X:Cx):List ag:=gE X.outer
def Q6(sc:Scope)(x:Str):Prop:=sc.names.lookup x=some .local\/sc.names.lookup x=some .cell\/sc.names.lookup x=some .free
def Loc(sc:Scope)(x:Str):Prop:=sc.names.lookup x=some .local\/sc.names.lookup x=some .cell
def Look(env:Env)(h:c9)(m:Str->Option ah)(x:Str)(u:ah):Prop :=
 (env.kindOf x=some .local/\m x=some u)\/((env.kindOf x=some .cell\/env.kindOf x=some .free)/\∃ c,env.cells.lookup x=some c/\h.IsCell c (some u))
structure Cx.Ok(X:Cx):Prop where
 mod:Mod X.K X.mg X.base
 kind:X.env.scope.kind=.function
 glob:X.env.globals=gi
 blt:X.env.builtins=builtinsNs
 above:X.fT.heap.objs.size<=X.env.locals
 inj:∀ x y c,X.env.cells.lookup x=some c->X.env.cells.lookup y=some c->x=y
 has:∀ x,(X.env.kindOf x=some .cell\/X.env.kindOf x=some .free)->∃ c,X.env.cells.lookup x=some c
 B4:∀ x c,X.fn x=true->X.env.cells.lookup x=some c->X.fT.heap.objs.size<=c
 hd:X.calm=true->X.A.handled=none
 frames:X.A.frames=some X.stack
 DZ:X.stack=X.outer\/(X.stack=X.env :: X.outer/\X.env.frame=some X.env.locals)
 D1:∀ b∈X.ex,b≠X.env.locals/\∀ x c,X.env.cells.lookup x=some c->c≠b
 bs:∀ b o,X.base.get? b=some o->X.fT.heap.get? b=some o/\X.DV b=none
 xa:X.base.objs.size<=X.fT.heap.objs.size
 B5:∀ b o,X.base.get? b=some o->b∉X.ex
 B6:∀ b∈X.ex,b∉X.fs
 sL:X.fT.heap.FunFrames X.base X.outer
 zD:∀ b∈X.fs,X.DV b=none
structure Inv(X:Cx)(pins:List (ag × Obj))(σ:List (Option V))(H:Hp)(s:aC):Prop where
 ok:X.Ok
 os:s.os=X.fT.os
 bare:AllBare s.gens
 base:Un X.fs X.ex X.DV H X.fT.heap s.heap
 loc:∃ m,s.heap.Ns X.env.locals m/\∀ (i:Nat) (x:Str) (v:V),X.N[i]? = some x->σ[i]? = some (some v)->Q6 X.env.scope x->∃ u,RelV v u/\Look X.env s.heap m x u
 cell:∀ x c,X.env.cells.lookup x=some c->∃ v,s.heap.IsCell c v
 free:H X.env.locals=none
 sM:∀ x c,X.env.cells.lookup x=some c->H c=none
 pin:∀ p∈X.pn++pins,s.heap.get? p.1=some p.2/\H p.1=none/\p.1≠X.env.locals/\p.1∉X.fs/\∀ v,p.2.data≠.cell v
 aI:hU X.prog X.w H s.heap
 len:σ.length=X.N.length
section
variable {X:Cx}{pins:List (ag × Obj)}{σ:List (Option V)}{H H':Hp}{s:aC}{h':c9}
def Cx.Ok.dU'(ok:X.Ok)(e:X.base.get? b=some o):b∉X.fs:=λhb=>by have:=(ok.sL.mem hb).1;rw[e] at this;cases this
def Inv.bs(I:Inv X pins σ H s):∀ b o,X.base.get? b=some o->s.heap.get? b=some o/\H b=none:=λb o e =>
 ⟨I.base.keep b o (I.ok.bs b o e).1 (I.ok.bs b o e).2 (I.ok.dU' e) (I.ok.B5 b o e),I.base.free b o (I.ok.bs b o e).1 (I.ok.bs b o e).2 (I.ok.B5 b o e)⟩
def Inv.bk(I:Inv X pins σ H s):∀ b o,X.base.get? b=some o->s.heap.get? b=some o:=λb o e=>(I.bs b o e).1
def Inv.mod(I:Inv X pins σ H s):Mod X.K X.mg X.base:=I.ok.mod
def Inv.iA(I:Inv X pins σ H s):X.K.In s.heap:=I.ok.mod.Q5.keeps I.bk
def Inv.lt(I:Inv X pins σ H s):X.env.locals<s.heap.objs.size:=let ⟨_,hn,_⟩:=I.loc;hn.lt
def Inv.sz(I:Inv X pins σ H s):X.fT.heap.objs.size<=s.heap.objs.size:=iO I.ok.above (Iq I.lt)
def Inv.dV'(I:Inv X pins σ H s)(h:s.heap.objs.size<=a):a∉X.fs:=λhb=>by obtain⟨_,o,ho,_⟩:=I.ok.sL.mem hb;exact absurd (pz (fS ho) (iO I.sz h)) (xE _)
def Inv.D2(I:Inv X pins σ H s):∀ x c,X.env.cells.lookup x=some c->c≠X.env.locals:=λx c e z=>by obtain⟨v,o,ho,hd⟩:=I.cell x c e;obtain⟨m,⟨o',es,ep,rh,Vx,_⟩,_⟩:=I.loc;rw[z,rh] at ho;cases ho;rw[Vx] at hd;cases hd
def Inv.sL(I:Inv X pins σ H s):s.heap.FunFrames X.base X.outer:=by
 have all:∀ l,(∀ b∈gE l,b∈X.fs)->X.fT.heap.FunFrames X.base l->s.heap.FunFrames X.base l:=by
  intro l
  induction l with
  |nil=>intro _ _;trivial
  |cons env r ih =>intro hs hl;obtain⟨hk,⟨L,o,hf,hn,ho,hd⟩,hr⟩:=hl;have hL:L∈X.fs:=hs L (by unfold gE;rw[DJ,hf];exact fo);obtain⟨sl,e⟩:=I.base.slot L o ho (I.ok.zD L hL) hL λz=>I.ok.B6 L z hL;exact⟨hk,⟨L,_,hf,hn,e,hd⟩,ih (λb hb=>hs b (by unfold gE;rw[DJ,hf];exact eA _ hb)) hr⟩
 exact all X.outer (λ_ hb=>hb) I.ok.sL
def Inv.stack(I:Inv X pins σ H s):s.heap.FunFrames X.base X.stack:=by
 rcases I.ok.DZ with e|⟨e,hf⟩
 ·rw[e];exact I.sL
 ·rw[e];obtain⟨m,hn,_⟩:=I.loc;refine .cons (by rw[I.ok.kind];decide) hf hn ?_ I.sL;exact Heap.get?_none_of_le (iO I.ok.xa I.ok.above)
def Inv.Vy(I:Inv X pins σ H s):∀ b∈gE X.stack,b∈X.env.locals :: X.fs:=λb hb=>by
 rcases I.ok.DZ with e|⟨e,hf⟩
 ·rw[e] at hb;exact eA _ hb
 ·rw[e] at hb;unfold gE at hb;rw[DJ,hf] at hb;exact hb
def Inv.Vz(I:Inv X pins σ H s):∀ b∈gE X.stack,H b=none:=λb hb=>by
 rcases eJ.mp (I.Vy b hb) with e|hb
 ·rw[e];exact I.free
 ·obtain⟨_,o,ho,_⟩:=I.ok.sL.mem hb;exact I.base.free b o ho (I.ok.zD b hb) λz=>I.ok.B6 b z hb
def Inv.step{g':Array GenState}{t':Nat}{d':Drawn}{ch:List ag}(I:Inv X pins σ H s)(B7:∀ b∈ch,(b∈X.ex\/X.fT.heap.objs.size<=b)/\b≠X.env.locals/\(∀ x c,X.env.cells.lookup x=some c->c≠b)/\∀ p∈X.pn++pins,p.1≠b)(keep:∀ b o,b≠X.env.locals->b∉X.fs->b∉ch->s.heap.get? b=some o->H b=none->h'.get? b=some o)(slot:∀ b o,b≠X.env.locals->b∈X.fs->b∉ch->s.heap.get? b=some o->H b=none->∃ sl,h'.get? b=some { o with slots:=sl }) (free:∀ b o,b∉ch->s.heap.get? b=some o->H b=none->H' b=none) (there:∀ b o,b∉ch->s.heap.get? b=some o->∃ o',h'.get? b=some o') (iF:∀ b xs,H b=some (.tup xs)->H' b=some (.tup xs)) (vv:∀ b o u,H b=some (.pE o u)->H' b=some (.pE o u)) (w_:∀ b ps,H b=some (.E7 ps)->∃ more,H' b=some (.E7 (ps++more))) (ns:∀ m,s.heap.Ns X.env.locals m->h'.Ns X.env.locals m) (aI:hU X.prog X.w H' h') (hg:AllBare g') :
  Inv X pins σ H' { s with heap:=h',gens:=g',drawn:=d',toks:=t' }:=by
 have Q7:∀ b o,X.fT.heap.get? b=some o->b≠X.env.locals:=λb o e=>j3 (pz (fS e) I.ok.above);have Tg:∀ b o,X.fT.heap.get? b=some o->b∉X.ex->b∉ch:=λb o e hx hb=>by
  rcases (B7 b hb).1 with z|z
  ·exact hx z
  ·exact absurd (pz (fS e) z) (xE _)
 have cellK:∀ x c,X.env.cells.lookup x=some c->∀ v,s.heap.IsCell c v->h'.IsCell c v:=λx c e v dP=>by
  obtain⟨o,ho,hd⟩:=dP;have Q8:c∉ch:=λz=>(B7 c z).2.2.1 x c e rfl;by_cases hc:c∈X.fs
  ·obtain⟨sl,q⟩:=slot c o (I.D2 x c e) hc Q8 ho (I.sM x c e);exact⟨_,q,hd⟩
  ·exact⟨o,keep c o (I.D2 x c e) hc Q8 ho (I.sM x c e),hd⟩
 refine⟨I.ok,I.os,hg,⟨λb o e n hb hx=>?_,λb o e n hb hx=>?_,λb o e n hx=>?_,λb o e hx=>?_,λb xs e=>iF b xs (I.base.iF b xs e),λb o xs e=>vv b o xs (I.base.vv b o xs e),λb ps e=>?_⟩,?_,λx c e=>?_,?_,λx c e=>?_,λp hp=>?_,aI,I.len⟩
 ·exact keep b o (Q7 b o e) hb (Tg b o e hx) (I.base.keep b o e n hb hx) (I.base.free b o e n hx)
 ·obtain⟨sl,e1⟩:=I.base.slot b o e n hb hx;obtain⟨Ti,e2⟩:=slot b _ (Q7 b o e) hb (Tg b o e hx) e1 (I.base.free b o e n hx);exact⟨Ti,e2⟩
 ·obtain⟨o',e1⟩:=I.base.there b o e hx;exact free b o' (Tg b o e hx) e1 (I.base.free b o e n hx)
 ·obtain⟨o',e1⟩:=I.base.there b o e hx;exact there b o' (Tg b o e hx) e1
 ·obtain⟨m1,e1⟩:=I.base.w_ b ps e;obtain⟨m2,e2⟩:=w_ b _ e1;exact⟨m1++m2,by rw[e2,QX]⟩
 ·obtain⟨m,hn,hl⟩:=I.loc;refine⟨m,ns m hn,λi x v e1 e2 e3=>?_⟩;obtain⟨u,r,l⟩:=hl i x v e1 e2 e3;refine⟨u,r,?_⟩;rcases l with l|⟨k,c,e,z⟩
  ·exact .inl l
  ·exact .inr ⟨k,c,e,cellK x c e _ z⟩
 ·obtain⟨v,z⟩:=I.cell x c e;exact⟨v,cellK x c e v z⟩
 ·obtain⟨m,⟨o,_,_,ho,_⟩,_⟩:=I.loc;exact free _ o (λz=>(B7 _ z).2.1 rfl) ho I.free
 ·obtain⟨v,o,ho,hd⟩:=I.cell x c e;exact free c o (λz=>(B7 c z).2.2.1 x c e rfl) ho (I.sM x c e)
 ·obtain⟨e,n,ne,nf,d⟩:=I.pin p hp;have Q8:p.1∉ch:=λz=>(B7 p.1 z).2.2.2 p hp rfl;exact⟨keep p.1 p.2 ne nf Q8 e n,free p.1 p.2 Q8 e n,ne,nf,d⟩
def Inv.un{t':Nat}(I:Inv X pins σ H s)(u:Un X.fs [] H H' s.heap h')(aI:hU X.prog X.w H' h'):Inv X pins σ H' { s with heap:=h',toks:=t' }:=by
 obtain⟨m,⟨o,es,ep,ho,r⟩,_⟩:=id I.loc;obtain⟨sl,hL⟩:=u.any ho I.free (by simp);exact I.step (ch:=[]) (λ_ z=>nomatch z) (λb o _ hb _ e n=>u.keep b o e n hb (by simp)) (λb o _ hb _ e n=>u.slot b o e n hb (by simp)) (λb o _ e n=>u.free b o e n (by simp)) (λb o _ e=>u.there b o e (by simp)) u.iF u.vv u.w_ (λm' hm=>by
  obtain⟨o',VA,VB,rh,r'⟩:=hm;rw[ho] at rh;cases rh;exact⟨_,VA,VB,hL,r'⟩) aI I.bare
def Inv.call{g':Array GenState}{t':Nat}{d':Drawn}{ch:List ag}(I:Inv X pins σ H s)(u:Un (gE X.stack) ch H H' s.heap h')(aI:hU X.prog X.w H' h')(hg:AllBare g')(B7:∀ b∈ch,(b∈X.ex\/X.fT.heap.objs.size<=b)/\b≠X.env.locals/\(∀ x c,X.env.cells.lookup x=some c->c≠b)/\∀ p∈X.pn++pins,p.1≠b) :
  Inv X pins σ H' { s with heap:=h',gens:=g',drawn:=d',toks:=t' }:=by
 obtain⟨m,⟨o,es,ep,ho,r⟩,_⟩:=id I.loc;obtain⟨sl,hL⟩:=u.any ho I.free λz=>(B7 _ z).2.1 rfl;exact I.step B7 (λb o hL hb hc e n=>u.keep b o e n (λz=>(eJ.mp (I.Vy b z)).elim hL hb) hc) (λb o _ _ hc e n=>u.any e n hc) (λb o hc e n=>u.free b o e n hc) (λb o hc e=>u.there b o e hc) u.iF u.vv u.w_ (λm' hm=>by
  obtain⟨o',VA,VB,rh,r'⟩:=hm;rw[ho] at rh;cases rh;exact⟨_,VA,VB,hL,r'⟩) aI hg
def Inv.turned{t':Nat}{it:ag}(I:Inv X pins σ H s)(k:∀ b o,b≠it->s.heap.get? b=some o->h'.get? b=some o)(hn:H it=none)(hL:it≠X.env.locals)(h1:it∈X.ex\/X.fT.heap.objs.size<=it) (h2:∀ x c,X.env.cells.lookup x=some c->c≠it) (h3:∀ p∈X.pn++pins,p.1≠it):Inv X pins σ H { s with heap:=h',toks:=t' }:=by
 have E8:∀ b u,H b=some u->b≠it:=λb u e z=>by rw[z,hn] at e;cases e
 refine I.step (ch:=[it]) (λb hb=>?_) (λb o _ _ hc e _=>k b o (λz=>hc (by simp[z])) e) (λb o _ _ hc e _=>⟨o.slots,k b o (λz=>hc (by simp[z])) e⟩) (λ_ _ _ _ n=>n) (λb o hc e=>⟨o,k b o (λz=>hc (by simp[z])) e⟩) (λ_ _ e=>e) (λ_ _ _ e=>e) (λb ps e=>⟨#[],by rw[e];simp⟩) (λm hm=>?_) (λb u e=>?_) I.bare
 ·have e:b=it:=by simpa using hb
  subst e;exact⟨h1,hL,h2,h3⟩
 ·obtain⟨o,es,ep,ho,r⟩:=hm;exact⟨o,es,ep,k _ o (Ne.symm hL) ho,r⟩
 ·refine(I.aI b u e).fN (λc v hc q=>k c v ?_ q) (λ_ q=>q) λ_ _ q=>q;rcases hc with z|z
  ·rw[z];exact E8 b u e
  ·exact E8 c _ z
def Inv.tok(I:Inv X pins σ H s)(t:Nat):Inv X pins σ H { s with toks:=t }:=I.un Un.refl I.aI
def Inv.kept(I:Inv X pins σ H s)(k:∀ b u,s.heap.get? b=some u->h'.get? b=some u):Inv X pins σ H { s with heap:=h',toks:=t' }:=I.un (Un.kept k) (I.aI.kept k)
def Inv.laid(I:Inv X pins σ H s)(k:∀ b u,s.heap.get? b=some u->h'.get? b=some u)(hp:s.heap.objs.size<=a)(new:kR X.prog X.w (upd H a o) h' a o) :
  Inv X pins σ (upd H a o) { s with heap:=h',toks:=t' }:=I.un (Un.laid k hp (I.aI.fresh hp)) (I.aI.laid k hp new)
def Inv.write(I:Inv X pins σ H s)(mu:Q0 (H x))(he:e=x\/H e=some (.own x))(k:∀ b u,b≠e->s.heap.get? b=some u->h'.get? b=some u)(MA:∃ u,h'.get? e=some u)(new:kR X.prog X.w (upd H x o) h' x o):Inv X pins σ (upd H x o) { s with heap:=h',toks:=t' }:=I.un (Un.write mu he k MA) (I.aI.write mu he k MA new)
def Inv.Z6(I:Inv X pins σ H s)(h:∀ p∈rj,s.heap.get? p.1=some p.2/\H p.1=none/\p.1≠X.env.locals/\p.1∉X.fs/\∀ v,p.2.data≠.cell v):Inv X rj σ H s :=
 ⟨I.ok,I.os,I.bare,I.base,I.loc,I.cell,I.free,I.sM,λp hp=>(eK.mp hp).elim (λz=>I.pin p (jI _ z)) (h p),I.aI,I.len⟩
def Z7{N:List Str}(hN:N.Nodup){i j:Nat}{x:Str}(a:N[i]? = some x)(b:N[j]? = some x):i=j:=by obtain⟨h1,e1⟩:=nh.mp a;obtain⟨h2,e2⟩:=nh.mp b;exact(Vn hN).mp (e1.trans e2.symm)
def VC{M:Model}{A:e7}{E:ah->aC->Prop}{i:Nat}{x:Str}{v:V}{u:ah}{Q:Unit->aC->Prop}(I:Inv X pins σ H s)(hN:X.N.Nodup)(hi:X.N[i]? = some x)(hx:Loc X.env.scope x)(r:RelV v u)(h:∀ s',Inv X pins (σ.set i (some v)) H s'->(∃ a,Heap.SameBut a s.heap s'.heap/\(a=X.env.locals\/X.env.cells.lookup x=some a))->Q () s') (hf:X.fn x=true\/X.env.scope.names.lookup x=some .local:=by first|exact .inl rfl|exact .inr rfl|assumption):b5 M A (storeName X.env x u) Q E s:=by
 obtain⟨m,hn,hl⟩:=id I.loc;have VD:(X.env.scope.kind == .class || (X.env.scope.kind == .module && X.env.locals != X.env.globals))=false:=by rw[I.ok.kind];rfl
 have Z8:i<σ.length:=by rw[I.len];exact(nh.mp hi).1
 have D2:=I.D2;have tracked:∀ {a:ag} {h':c9},(∃ o,s.heap.get? a=some o/\H a=none)->Heap.SameBut a s.heap h'->hU X.prog X.w H h':=λ{a h'} ha hs b ob e=>by
  obtain⟨_,_,Z9⟩:=ha;refine(I.aI b ob e).fN (λc w' hc q=>(hs.2 c ?_).trans q) (λ_ q=>q) λ_ _ q=>q;rintro rfl;rcases hc with rfl|hc
  ·rw[Z9] at e;cases e
  ·rw[Z9] at hc;cases hc
 rcases hx with hk|hk
 ·refine wpAny_storeName_local hk hn (λh' E9 hs=>?_) VD;obtain⟨oL,_,_,Q9,_⟩:=id hn;refine h _ ⟨I.ok,I.os,I.bare,⟨λb o e n hb hx=>?_,λb o e n hb hx=>?_,I.base.free,λb o e hx=>?_,I.base.iF,I.base.vv,I.base.w_⟩,⟨_,E9,λj y v' e1 e2 e3=>?_⟩,λy c e=>?_,I.free,I.sM,λp hp=>?_,tracked ⟨oL,Q9,I.free⟩ hs,by simpa using I.len⟩ ⟨_,hs,.inl rfl⟩
  ·exact(hs.2 b (j3 (pz (fS e) I.ok.above))).trans (I.base.keep b o e n hb hx)
  ·obtain⟨sl,e1⟩:=I.base.slot b o e n hb hx;exact⟨sl,(hs.2 b (j3 (pz (fS e) I.ok.above))).trans e1⟩
  ·obtain⟨o',e1⟩:=I.base.there b o e hx;exact⟨o',(hs.2 b (j3 (pz (fS e) I.ok.above))).trans e1⟩
  ·by_cases hj:j=i
   ·subst hj;rw[hi] at e1;cases e1;rw[List.getElem?_set_self Z8] at e2;cases e2;exact⟨u,r,.inl ⟨hk,by simp⟩⟩
   ·rw[SF (Ne.symm hj)] at e2;obtain⟨u',r',q⟩:=hl j y v' e1 e2 e3;refine⟨u',r',?_⟩;rcases q with⟨k,e⟩|⟨k,c,e,z⟩
    ·refine .inl ⟨k,?_⟩;have:y≠x:=λe=>hj (Z7 hN e1 (e ▸ hi));simp[this,e]
    ·exact .inr ⟨k,c,e,z.sameBut hs (D2 y c e)⟩
  ·obtain⟨w',z⟩:=I.cell y c e;exact⟨w',z.sameBut hs (D2 y c e)⟩
  ·obtain⟨e,n,ne,nf,d⟩:=I.pin p hp;exact⟨(hs.2 p.1 ne).trans e,n,ne,nf,d⟩
 ·have VF:X.fn x=true:=by
   rcases hf with z|z
   ·exact z
   ·rw[z] at hk;cases hk
  obtain⟨c,hc⟩:=I.ok.has x (.inl hk);obtain⟨w',z⟩:=I.cell x c hc;refine wpAny_storeName_cell I.ok.kind hk hc z (λh' Q_ hs=>?_);obtain⟨oc,Tj,dW'⟩:=id z;refine h { s with heap:=h' } ⟨I.ok,I.os,I.bare,⟨λb o e n hb hx=>?_,λb o e n hb hx=>?_,I.base.free,λb o e hx=>?_,I.base.iF,I.base.vv,I.base.w_⟩,⟨m,hn.sameBut hs (Ne.symm (D2 x c hc)),λj y v' e1 e2 e3=>?_⟩,λy c' e=>?_,I.free,I.sM,λp hp=>?_,tracked ⟨oc,Tj,I.sM x c hc⟩ hs,by simpa using I.len⟩ ⟨c,hs,.inr hc⟩
  ·exact(hs.2 b (j3 (pz (fS e) (I.ok.B4 x c VF hc)))).trans (I.base.keep b o e n hb hx)
  ·obtain⟨sl,e1⟩:=I.base.slot b o e n hb hx;exact⟨sl,(hs.2 b (j3 (pz (fS e) (I.ok.B4 x c VF hc)))).trans e1⟩
  ·obtain⟨o',e1⟩:=I.base.there b o e hx;exact⟨o',(hs.2 b (j3 (pz (fS e) (I.ok.B4 x c VF hc)))).trans e1⟩
  ·by_cases hj:j=i
   ·subst hj;rw[hi] at e1;cases e1;rw[List.getElem?_set_self Z8] at e2;cases e2;exact⟨u,r,.inr ⟨.inl hk,c,hc,Q_⟩⟩
   ·rw[SF (Ne.symm hj)] at e2;obtain⟨u',r',q⟩:=hl j y v' e1 e2 e3;refine⟨u',r',?_⟩;rcases q with q|⟨k,c',e,z'⟩
    ·exact .inl q
    ·refine .inr ⟨k,c',e,z'.sameBut hs ?_⟩;rintro rfl;exact hj (Z7 hN e1 (I.ok.inj _ _ _ e hc ▸ hi))
  ·by_cases Tn:c'=c
   ·subst Tn;exact⟨_,Q_⟩
   ·obtain⟨w2,z2⟩:=I.cell y c' e;exact⟨w2,z2.sameBut hs Tn⟩
  ·obtain⟨e,n,ne,nf,d⟩:=I.pin p hp;refine⟨(hs.2 p.1 ?_).trans e,n,ne,nf,d⟩;intro q;rw[q,Tj] at e;have q':oc=p.2:=Option.some.inj e;exact d w' (by rw[<- q'];exact dW')
def Z_(I:Inv X pins σ H s)(hN:X.N.Nodup)(hi:X.N[i]? = some x)(hx:Loc X.env.scope x)(r:RelV v u)(h:∀ s',Inv X pins (σ.set i (some v)) H s'->Q () s') (hf:X.fn x=true\/X.env.scope.names.lookup x=some .local:=by first|exact .inl rfl|exact .inr rfl|assumption):b5 M A (storeName X.env x u) Q E s :=
 VC I hN hi hx r (λs' I' _=>h s' I') hf
def Inv.dX'(I:Inv X pins σ H s)(ho:s'.os=s.os)(u:Un (gE X.stack) ch H H' s.heap s'.heap)(aI:hU X.prog X.w H' s'.heap)(hg:AllBare s'.gens)(B7:∀ b∈ch,(b∈X.ex\/X.fT.heap.objs.size<=b)/\b≠X.env.locals/\(∀ x c,X.env.cells.lookup x=some c->c≠b)/\∀ p∈X.pn++pins,p.1≠b):Inv X pins σ H' s':=by
 obtain⟨h',g',d',t',o'⟩:=s';have e:o'=s.os:=ho;subst e;exact I.call u aI hg B7
end
abbrev XK:=ah->Option ag->Hp->Prop
abbrev St:=List (Option V)
abbrev VK:=V->Hp->Prop
abbrev TE:=St->Hp->VK->Prop
abbrev TT:=St->Hp->(Bool->Hp->Prop)->Prop
abbrev TA:=St->Hp->(List V->Hp->Prop)->Prop
structure Ends where
 nx:St->Hp->Prop
 rt:VK
 bk:St->Hp->Prop:=fun _ _=>False
 ct:St->Hp->Prop:=fun _ _=>False
abbrev TS:=Ends->St->Hp->Prop
def EP(X:Cx)(pins:List (ag × Obj))(σ:St)(Q:VK)(u:ah)(s':aC):Prop:=∃ v H',Inv X pins σ H' s'/\RelV v u/\Q v H'
def TP(X:Cx)(pins:List (ag × Obj))(σ:St)(Q:Bool->Hp->Prop)(b:Bool)(s':aC):Prop:=∃ H',Inv X pins σ H' s'/\Q b H'
def AP(X:Cx)(pins:List (ag × Obj))(σ:St)(Q:List V->Hp->Prop)(us:List ah)(s':aC):Prop:=∃ vs H',Inv X pins σ H' s'/\Vals vs us/\Q vs H'
def SP(X:Cx)(pins:List (ag × Obj))(D:Ends)(f:Flow)(s':aC):Prop :=
 match f with
 |.next=>∃ bX H',Inv X pins bX H' s'/\D.nx bX H'
 |.brk=>∃ bX H',Inv X pins bX H' s'/\D.bk bX H'
 |.cont=>∃ bX H',Inv X pins bX H' s'/\D.ct bX H'
 |.ret u=>∃ v bX H',Inv X pins bX H' s'/\RelV v u/\D.rt v H'
def PE(X:Cx)(e:Expr)(t:TE):Prop :=
 ∀ (pins:List (ag × Obj)) (s:aC) (σ:St) (H:Hp) (Q:VK),Inv X pins σ H s->t σ H Q->b5 (aT X.prog X.w) X.A (b4 e X.env) (EP X pins σ Q) X.xe s
def PT(X:Cx)(e:Expr)(t:TT):Prop :=
 ∀ (pins:List (ag × Obj)) (s:aC) (σ:St) (H:Hp) (Q:Bool->Hp->Prop),Inv X pins σ H s->t σ H Q->b5 (aT X.prog X.w) X.A (isTrue e X.env (b4 e X.env)) (TP X pins σ Q) X.xe s
def PW(X:Cx)(e:Expr)(t:TT):Prop :=
 ∀ (whole:Sem ah) (pins:List (ag × Obj)) (s:aC) (σ:St) (H:Hp) (Q:Bool->Hp->Prop),Inv X pins σ H s->t σ H Q->b5 (aT X.prog X.w) X.A (isTrue e X.env whole) (TP X pins σ Q) X.xe s
def PA(X:Cx)(es:List Expr)(t:TA):Prop :=
 ∀ (pos:Pos) (pins:List (ag × Obj)) (s:aC) (σ:St) (H:Hp) (Q:List V->Hp->Prop),Inv X pins σ H s->t σ H Q->b5 (aT X.prog X.w) X.A (spliced (gy pos (bE es X.env))) (AP X pins σ Q) X.xe s
def PS(X:Cx)(st:g9)(t:TS):Prop :=
 ∀ (pins:List (ag × Obj)) (s:aC) (σ:St) (H:Hp) (D:Ends),Inv X pins σ H s->t D σ H->b5 (aT X.prog X.w) X.A (exec st X.env) (SP X pins D) X.xe s
def lP(X:Cx)(st:List g9)(t:TS):Prop :=
 ∀ (pins:List (ag × Obj)) (s:aC) (σ:St) (H:Hp) (D:Ends),Inv X pins σ H s->t D σ H->b5 (aT X.prog X.w) X.A (execs st X.env) (SP X pins D) X.xe s
def cv{α:Type}{t:Sem α}{Q Q':α->aC->Prop}{M:Model}{A:e7}{E:ah->aC->Prop}{s:aC}(h:b5 M A t Q E s)(hQ:∀ a s,Q a s->Q' a s):b5 M A t Q' E s:=sq h hQ λ_ _ x=>x
section
variable {X:Cx}
def i5(i:Nat):TE:=λσ H Q=>∃ v,σ[i]? = some (some v)/\Q v H
def tC(v:V):TE:=λ_ H Q=>Q v H
def Ra (hN:X.N[i]? = some x) (hv:Q6 X.env.scope x) (hd:(x == ("__debug__" : Str))=false:=by decide) (pS:(x == ("__classdict__" : Str))=false:=by decide):PE X (.Name x pos) (i5 i):=by
 intro pins s σ H Q I h;obtain⟨v,e,h⟩:=h;obtain⟨m,hn,hl⟩:=I.loc;obtain⟨u,r,l⟩:=hl i x v hN e hv;have fin:EP X pins σ Q u s:=⟨v,H,I,r,h⟩
 rcases l with⟨hk,hm⟩|⟨hk,c,hc,aa'⟩
 ·exact wpAny_Name (wpAny_loadName_local I.ok.kind hk hn hm fin) hd
 ·rcases hk with hk|hk
  ·exact wpAny_Name (wpAny_loadName_cell I.ok.kind hk hc aa' fin) hd
  ·exact wpAny_Name (wpAny_loadName_free I.ok.kind hk hc aa' fin pS) hd
def dY'{i j pos}:PE X (.Constant (.int i) j pos) (tC (.int i)):=λ_ _ _ H _ I h=>wpAny_Constant_int ⟨.int i,H,I.tok _,⟨_,rfl⟩,h⟩
def dZ'{b j pos}:PE X (.Constant (.bool b) j pos) (tC (.bl b)):=λ_ _ _ H _ I h=>Constant_bool ⟨.bl b,H,I,rfl,h⟩
def ea'{j pos}:PE X (.Constant .none j pos) (tC .non):=λ_ _ _ H _ I h=>Constant_none ⟨.non,H,I,rfl,h⟩
def eb'{x j pos}:PE X (.Constant (.str x) j pos) (tC (.str x)):=λ_ _ _ H _ I h=>Calls.Constant_str ⟨.str x,H,I.tok _,⟨_,rfl⟩,h⟩
def Gl(X:Cx)(x:Str):Prop:=X.env.kindOf x=some .globalImplicit
def MB(I:Inv X pins σ H s)(hg:Gl X x)(hm:X.mg x=some u)(h:Q u s)(hd:(x == ("__debug__" : Str))=false:=by decide):b5 (aT X.prog X.w) X.A (b4 (.Name x pos) X.env) Q E s :=
 Calls.Name_function_global I.ok.kind hg (Calls.loadGlobal_global (by rw[I.ok.glob];exact I.mod.glob.keeps I.bk) hm h) hd
def Fc(I:Inv X pins σ H s)(hg:Gl X x)(hm:X.mg x=none)(hv:og x=some u)(h:Q u s)(hn:x ≠ "__name__" := by decide) (hd:(x == ("__debug__" : Str))=false:=by decide):b5 (aT X.prog X.w) X.A (b4 (.Name x pos) X.env) Q E s:=by
 obtain⟨mb,h1,h2⟩:=I.mod.blt;exact Calls.Name_function_global I.ok.kind hg (Calls.loadGlobal_builtin (by rw[I.ok.glob];exact I.mod.glob.keeps I.bk) hm (by rw[I.ok.blt];exact h1.keeps I.bk) ((h2 x hn).trans hv) h) hd
def MD (hg:Gl X x) (hm:X.mg x=some u) (r:RelV v u) (hd:(x == ("__debug__" : Str))=false:=by decide):PE X (.Name x pos) (tC v) :=
 λ_ _ _ H _ I h=>MB I hg hm ⟨v,H,I,r,h⟩ hd
def ec' (hg:Gl X x) (hm:X.mg x=none) (hv:og x=some u) (r:RelV v u) (hn:x ≠ "__name__" := by decide) (hd:(x == ("__debug__" : Str))=false:=by decide):PE X (.Name x pos) (tC v) :=
 λ_ _ _ H _ I h=>Fc I hg hm hv ⟨v,H,I,r,h⟩ hn hd
variable {a b:Expr}{ta tb:TE}{pos:Pos}
def PC(X:Cx)(op:CmpOp)(a b:Expr)(t:TE):Prop :=
 ∀ (pins:List (ag × Obj)) (s:aC) (σ:St) (H:Hp) (Q:VK),Inv X pins σ H s->t σ H Q ->
  b5 (aT X.prog X.w) X.A (b4 a X.env) (λv ft=>b5 (aT X.prog X.w) X.A (b4 b X.env) (λu AX=>b5 (aT X.prog X.w) X.A (fR op v u) (EP X pins σ Q) X.xe AX) X.xe ft) X.xe s
def tB(t:TE):TT:=λσ H Q=>t σ H λx H1=>∃ c,x=.bl c/\Q c H1
def ed'(h:PC X op a b t)(h1:E3 op b=false:=by first|exact oU' _ (by decide) (by decide)|rfl):PT X (.Compare a [op] [b] pos) (tB t):=by intro pins s σ H Q I hw;refine wpAny_isTrue_Compare1 (cv (h pins s σ H _ I hw) λv s1 h1=>cv h1 λu s2 h2=>cv h2 λc s3 ck=>L2.eR ck λx H1 I1 r1 q1=>?_) h1;obtain⟨d,rfl,q⟩:=q1;cases r1;exact BF ⟨H1,I1,q⟩
def ee'(h:PE X e t)(he:∀ whole,isTrue e X.env whole=(do let v <- whole;standAt e.pos;holding [v] (truthy v)):=by intro _;rfl):PT X e (tB t):=by intro pins s σ H Q I hw;refine isTrue_plain (cv (h pins s σ H _ I hw) λv s1 ck=>L2.eR ck λx H1 I1 r1 q1=>?_) (he _);obtain⟨d,rfl,q⟩:=q1;cases r1;exact BF ⟨H1,I1,q⟩
variable {tA To:TT}{rest:List Expr}
def ef'(t u:TT):TT:=λσ H Q=>t σ H λc H1=>if c=true then u σ H1 Q else Q false H1
def tOr(t u:TT):TT:=λσ H Q=>t σ H λc H1=>if c=true then Q true H1 else u σ H1 Q
def eh'(t:TT):TT:=λσ H Q=>t σ H λc H1=>Q (!c) H1
def pw_and1(ha:PT X a tA):PW X (.BoolOp .And [a] pos) tA:=by
 intro wh pins s σ H Q I h;refine isTrue_and (cv (ha pins s σ H Q I h) λc s1 e=>?_)
 cases c with
 |true=>exact isTrue_and_nil e
 |false=>exact e
def pw_or1(ha:PT X a tA):PW X (.BoolOp .Or [a] pos) tA:=by
 intro wh pins s σ H Q I h;refine isTrue_or (cv (ha pins s σ H Q I h) λc s1 e=>?_)
 cases c with
 |false=>exact isTrue_or_nil e
 |true=>exact e
def pw_and(ha:PT X a tA)(hb:PW X (.BoolOp .And (b :: rest) pos) To):PW X (.BoolOp .And (a :: b :: rest) pos) (ef' tA To):=by
 intro wh pins s σ H Q I h;refine isTrue_and (cv (ha pins s σ H _ I h) λc s1 dP=>?_);obtain⟨H1,I1,q1⟩:=dP
 cases c with
 |true=>exact hb wh pins s1 σ H1 Q I1 q1
 |false=>exact⟨H1,I1,q1⟩
def pw_or(ha:PT X a tA)(hb:PW X (.BoolOp .Or (b :: rest) pos) To):PW X (.BoolOp .Or (a :: b :: rest) pos) (tOr tA To):=by
 intro wh pins s σ H Q I h;refine isTrue_or (cv (ha pins s σ H _ I h) λc s1 dP=>?_);obtain⟨H1,I1,q1⟩:=dP
 cases c with
 |true=>exact⟨H1,I1,q1⟩
 |false=>exact hb wh pins s1 σ H1 Q I1 q1
def ei'(ha:PT X a tA):PT X (.UnaryOp .Not a pos) (eh' tA):=by intro pins s σ H Q I h;exact isTrue_not (ha pins s σ H (λc H1=>Q (!c) H1) I h)
def ej'(ta tb:TE):TE:=λσ H Q=>ta σ H λx H1=>∃ c,x=.bl c/\if c=true then tb σ H1 Q else Q (.bl false) H1
def ek'(ta tb:TE):TE:=λσ H Q=>ta σ H λx H1=>∃ c,x=.bl c/\if c=true then Q (.bl true) H1 else tb σ H1 Q
def el'(ta:TE):TE:=λσ H Q=>ta σ H λx H1=>∃ c,x=.bl c/\Q (.bl (!c)) H1
def em'{op}(h:PE X a t):PE X (.BoolOp op [a] pos) t:=λpins s σ H Q I hw=>BoolOp_one (h pins s σ H Q I hw)
def en'(ha:PE X a ta)(hb:PE X (.BoolOp .And (b :: rest) pos) tb):PE X (.BoolOp .And (a :: b :: rest) pos) (ej' ta tb):=by
 intro pins s σ H Q I h;refine BoolOp_and (cv (ha pins s σ H _ I h) λv s1 ck=>L2.eR ck λx H1 I1 r1 q1=>?_);obtain⟨c,rfl,q1⟩:=q1;cases r1;refine BF ?_
 cases c with
 |true=>exact hb pins s1 σ H1 Q I1 q1
 |false=>exact⟨.bl false,H1,I1,rfl,q1⟩
def eo'(ha:PE X a ta)(hb:PE X (.BoolOp .Or (b :: rest) pos) tb):PE X (.BoolOp .Or (a :: b :: rest) pos) (ek' ta tb):=by
 intro pins s σ H Q I h;refine BoolOp_or (cv (ha pins s σ H _ I h) λv s1 ck=>L2.eR ck λx H1 I1 r1 q1=>?_);obtain⟨c,rfl,q1⟩:=q1;cases r1;refine BF ?_
 cases c with
 |false=>exact hb pins s1 σ H1 Q I1 q1
 |true=>exact⟨.bl true,H1,I1,rfl,q1⟩
def eq'(ha:PE X a ta):PE X (.UnaryOp .Not a pos) (el' ta):=by intro pins s σ H Q I h;refine UnaryOp_ (cv (ha pins s σ H _ I h) λv s1 ck=>L2.eR ck λx H1 I1 r1 q1=>?_);obtain⟨c,rfl,q1⟩:=q1;cases r1;exact not_of (BF ⟨.bl (!c),H1,I1,rfl,q1⟩)
def tIf(t:TT)(ta tb:TE):TE:=λσ H Q=>t σ H λc H1=>if c=true then ta σ H1 Q else tb σ H1 Q
def et'(hc:PT X c tA)(ha:PE X a ta)(hb:PE X b tb):PE X (.IfExp c a b pos) (tIf tA ta tb):=by
 intro pins s σ H Q I h;refine wpAny_IfExp (cv (hc pins s σ H _ I h) λd s1 dP=>?_);obtain⟨H1,I1,q1⟩:=dP
 cases d with
 |true=>exact ha pins s1 σ H1 Q I1 q1
 |false=>exact hb pins s1 σ H1 Q I1 q1
end
def eL(K:ax)(H:Hp)(a:ag)(xs:List V):Prop :=
 Rd H a (.lst xs) \/
  ∃ (o:Obj) (its:Array ah) (n:Nat),K.lookup a=some o/\o.cls=.type "list"/\o.dict=none/\o.data=.seq its n/\its.size<=bI/\Vals xs its.toList
def kG(K:ax)(H:Hp)(a:ag)(xs:List V):Prop :=
 Rd H a (.tup xs) \/
  ∃ (o:Obj) (its:Array ah) (n:Nat),K.lookup a=some o/\o.cls=.type "tuple"/\o.data=.seq its n/\its.size<=bI/\Vals xs its.toList
def eu':ah->Option V
 |.none=>some .non
 |.bool b=>some (.bl b)
 |.int i _=>some (.int i)
 |.str x _=>some (.str x)
 |.bytes b _=>some (.w8 b)
 |.float b _=>some (.zC b)
 |.ref a=>some (.ref a)
 |.type n=>some (.ty n)
 |_=>none
def RelV.abs(r:RelV x u):eu' u=some x:=by
 cases x with
 |non=>cases r;rfl
 |bl _=>cases r;rfl
 |int _=>obtain⟨t,rfl⟩:=r;rfl
 |str _=>obtain⟨t,rfl⟩:=r;rfl
 |w8 _=>obtain⟨t,rfl⟩:=r;rfl
 |zC _=>obtain⟨t,rfl⟩:=r;rfl
 |ref _=>cases r;rfl
 |ty _=>cases r;rfl
def RelV.inj(r:RelV x u)(q:RelV y u):x=y:=Option.some.inj (r.abs.symm.trans q.abs)
theorem Vals.inj:∀ {xs ys:List V} {us:List ah},Vals xs us->Vals ys us->xs=ys
 |_,_,_,.nil,.nil=>rfl
 |_,_,_,.cons r t,.cons r' t'=>by rw[r.inj r',Vals.inj t t']
section
variable {X:Cx}{pins:List (ag × Obj)}{σ:St}{H:Hp}{s:aC}{a:ag}{xs ys:List V}
def eL.of{K:ax}(h:H a=some (.lst xs)):eL K H a xs:=.inl (.inl h)
def kG.of{K:ax}(h:H a=some (.tup xs)):kG K H a xs:=.inl (.inl h)
def Inv.list(I:Inv X pins σ H s)(h:eL X.K H a xs):∃ its:List ah,Vals xs its/\PlainL s.heap a its.toArray/\xs.length<=bI:=by
 rcases h with h|⟨o,its,n,hk,hc,hd,hs,hz,r⟩
 ·obtain⟨z,its,n,r,e⟩:=h.ok I.aI;exact⟨its,r,⟨_,n,e,rfl,rfl,rfl⟩,z⟩
 ·refine⟨its.toList,r,⟨o,n,I.iA a o hk,hc,hd,by simpa using hs⟩,?_⟩;have e:=r.length;simp only[zv] at e;lia
def Inv.tuple(I:Inv X pins σ H s)(h:kG X.K H a xs):∃ its:List ah,Vals xs its/\IsTup s.heap a its.toArray/\xs.length<=bI:=by
 rcases h with h|⟨o,its,n,hk,hc,hs,hz,r⟩
 ·obtain⟨z,its,r,p⟩:=h.ok I.aI;exact⟨its,r,p,z⟩
 ·refine⟨its.toList,r,⟨o,I.iA a o hk,hc,n,by simpa using hs⟩,?_⟩;have e:=r.length;simp only[zv] at e;lia
def Inv.VG(I:Inv X pins σ H s)(h:eL X.K H a xs)(h':eL X.K H a ys):xs=ys:=by
 obtain⟨its,r,⟨o,n,e,_,_,d⟩,_⟩:=I.list h;obtain⟨IE,r',⟨o',n',e',_,_,d'⟩,_⟩:=I.list h';rw[e] at e';cases e';rw[d] at d';injection d' with d1 _;have:its=IE:=by simpa using congrArg Array.toList d1
 subst this;exact r.inj r'
def Inv.ev'(I:Inv X pins σ H s)(h:kG X.K H a xs)(h':kG X.K H a ys):xs=ys:=by
 obtain⟨its,r,⟨o,e,_,n,d⟩,_⟩:=I.tuple h;obtain⟨IE,r',⟨o',e',_,n',d'⟩,_⟩:=I.tuple h';rw[e] at e';cases e';rw[d] at d';injection d' with d1 _;have:its=IE:=by simpa using congrArg Array.toList d1
 subst this;exact r.inj r'
end
abbrev Cx.wish(X:Cx)(E:ah->aC->Prop):Cx:={ X with xe:=E }
abbrev Cx.xh(X:Cx):Cx:=X.wish λ_ _=>False
def Cx.Ok.wish{X:Cx}(ok:X.Ok)(E:ah->aC->Prop):(X.wish E).Ok :=
 ⟨ok.mod,ok.kind,ok.glob,ok.blt,ok.above,ok.inj,ok.has,ok.B4,ok.hd,ok.frames,ok.DZ,ok.D1,ok.bs,ok.xa,ok.B5,ok.B6,ok.sL,ok.zD⟩
def Cx.Ok.Fh{X:Cx}(ok:(X.wish E).Ok):X.Ok :=
 ⟨ok.mod,ok.kind,ok.glob,ok.blt,ok.above,ok.inj,ok.has,ok.B4,ok.hd,ok.frames,ok.DZ,ok.D1,ok.bs,ok.xa,ok.B5,ok.B6,ok.sL,ok.zD⟩
section
variable {X:Cx}{pins:List (ag × Obj)}{σ:St}{H:Hp}{s:aC}{E:ah->aC->Prop}
def Inv.wish(I:Inv X pins σ H s)(E:ah->aC->Prop):Inv (X.wish E) pins σ H s:=⟨I.ok.wish E,I.os,I.bare,I.base,I.loc,I.cell,I.free,I.sM,I.pin,I.aI,I.len⟩
def Inv.Fh(I:Inv (X.wish E) pins σ H s):Inv X pins σ H s:=⟨I.ok.Fh,I.os,I.bare,I.base,I.loc,I.cell,I.free,I.sM,I.pin,I.aI,I.len⟩
def SP.Fh{D:Ends}(h:SP (X.wish E) pins D f s'):SP X pins D f s':=by
 cases f with
 |next=>obtain⟨bX,H',I,q⟩:=h;exact⟨bX,H',I.Fh,q⟩
 |brk=>obtain⟨bX,H',I,q⟩:=h;exact⟨bX,H',I.Fh,q⟩
 |cont=>obtain⟨bX,H',I,q⟩:=h;exact⟨bX,H',I.Fh,q⟩
 |ret u=>obtain⟨v,bX,H',I,r,q⟩:=h;exact⟨v,bX,H',I.Fh,r,q⟩
def lP.xh{st:List g9}(h:lP X.xh st t):lP X st t:=λpins s σ H D I hw =>
 sq (h pins s σ H D (I.wish _) hw) (λ_ _ q=>q.Fh) λ_ _ z=>False.elim z
end
section
variable {X:Cx}{st:g9}{rest:List g9}{t u:TS}{e:Expr}{te:TE}{pos:Pos}
def ab':TS:=λD σ H=>D.nx σ H
def Rb(t u:TS):TS:=λD σ H=>t { D with nx:=u D } σ H
def VH:lP X [] ab':=λ_ _ σ H _ I h=>wpAny_execs_nil ⟨σ,H,I,h⟩
def Tp(h1:PS X st t)(h2:lP X rest u):lP X (st :: rest) (Rb t u):=by
 intro pins s σ H D I h;refine wpAny_execs_cons (cv (h1 pins s σ H { D with nx:=u D } I h) λf s1 q=>?_)
 cases f with
 |next =>obtain⟨bX,H',I',q⟩:=q;exact h2 pins s1 bX H' D I' q
 |ret v=>exact q
 |brk=>exact q
 |cont=>exact q
def Tq(h1:PS X st t):lP X [st] t:=by
 intro pins s σ H D I h;refine wpAny_execs_cons (cv (h1 pins s σ H D I h) λf s1 q=>?_)
 cases f with
 |next=>exact wpAny_execs_nil q
 |ret v=>exact q
 |brk=>exact q
 |cont=>exact q
def Inv.quiet(I:Inv X pins σ H s):interactive X.env=false:=by simp[interactive,I.ok.kind]
def ac'(te:TE):TS:=λD σ H=>te σ H λ_ H1=>D.nx σ H1
def IG(he:PE X e te)(hs:autoParam (nI e none pos.line X.env=pure false) bv):PS X (.Expr e pos) (ac' te):=by intro pins s σ H D I h;exact wpAny_Expr_any (cv (he pins s σ H _ I h) λv s1 ck=>L2.eR ck λx H1 I1 r1 q1=>⟨σ,H1,I1,q1⟩) I.quiet hs
def Tr(te:TE):TS:=λD σ H=>te σ H D.rt
def MG(he:PE X e te):PS X (.Return (some e) pos) (Tr te):=by intro pins s σ H D I h;exact wpAny_Return_some (cv (he pins s σ H _ I h) λv s1 ck=>L2.eR ck λx H1 I1 r1 q1=>⟨x,σ,H1,I1,r1,q1⟩)
def ad'(c:TT)(t u:TS):TS:=λD σ H=>c σ H λb H1=>if b=true then t D σ H1 else u D σ H1
def ae'(hc:PT X c tc)(ha:lP X a t)(hb:lP X b u):PS X (.If c a b pos) (ad' tc t u):=by
 intro pins s σ H D I h;refine wpAny_If (cv (hc pins s σ H _ I h) λd s1 dP=>?_);obtain⟨H1,I1,q1⟩:=dP
 cases d with
 |true=>exact ha pins s1 σ H1 D I1 q1
 |false=>exact hb pins s1 σ H1 D I1 q1
def ew':TS:=λ_ _ _=>False
def ey':lP X sts ew':=λ_ _ _ _ _ _ h=>h.elim
end
abbrev TG:=V->St->Hp->(St->Hp->Prop)->Prop
abbrev ML:=List V->St->Hp->(St->Hp->Prop)->Prop
def PG(X:Cx)(target:Expr)(t:TG):Prop :=
 ∀ (pins:List (ag × Obj)) (s:aC) (σ:St) (H:Hp) (v:V) (u:ah) (Q:St->Hp->Prop),Inv X pins σ H s->RelV v u->t v σ H Q ->
  b5 (aT X.prog X.w) X.A (assign target X.env u) (λ_ s'=>∃ bX H',Inv X pins bX H' s'/\Q bX H') X.xe s
def B8(X:Cx)(ts:List Expr)(t:ML):Prop :=
 ∀ (pins:List (ag × Obj)) (s:aC) (σ:St) (H:Hp) (vs:List V) (us:List ah) (Q:St->Hp->Prop),Inv X pins σ H s->Vals vs us->t vs σ H Q ->
  b5 (aT X.prog X.w) X.A (assignInOrder ((DC ts X.env).map (·.2)) us) (λ_ s'=>∃ bX H',Inv X pins bX H' s'/\Q bX H') X.xe s
section
variable {X:Cx}{pos:Pos}
def VJ(i:Nat):TG:=λv σ H Q=>Q (σ.set i (some v)) H
def ez'(hN:X.N.Nodup)(hi:X.N[i]? = some x)(hx:Loc X.env.scope x)(hf:X.fn x=true\/X.env.scope.names.lookup x=some .local:=by first|exact .inl rfl|exact .inr rfl|assumption):PG X (.Name x pos) (VJ i):=by intro pins s σ H v u Q I r h;exact wpAny_assign_Name (Z_ I hN hi hx r (λs' I'=>⟨_,H,I',h⟩) hf)
def eA':ML:=λvs σ H Q=>vs=[]/\Q σ H
def eB'(t:TG)(u:ML):ML:=λvs σ H Q=>∃ v r,vs=v :: r/\t v σ H λbX H'=>u r bX H' Q
def eC':B8 X [] eA':=by intro pins s σ H vs us Q I r h;obtain⟨e,h⟩:=h;subst e;cases r;exact assignInOrder_nil ⟨σ,H,I,h⟩
def eD'(h1:PG X e t)(h2:B8 X es u)(hs:autoParam ((DC (e :: es) X.env).map (·.2)=assign e X.env :: (DC es X.env).map (·.2)) bv):B8 X (e :: es) (eB' t u):=by
 intro pins s σ H vs us Q I r h;obtain⟨v,vr,e1,h⟩:=h;subst e1
 cases r with
 |cons r rr =>rw[hs];refine assignInOrder_cons (cv (h1 pins s σ H _ _ _ I r h) λ_ s1 dP=>?_);obtain⟨MQ,H1,I1,q1⟩:=dP;exact h2 pins s1 MQ H1 _ _ Q I1 rr q1
def eE'(K:ax)(n:Nat)(t:ML):TG:=λv σ H Q=>∃ a xs,v=.ref a/\kG K H a xs/\xs.length=n/\t xs σ H Q
def eF'(hc:X.calm=true)(h:B8 X es t)(hn:autoParam ((DC es X.env).length=n) bv) (rq:autoParam ((DC es X.env).findIdx? (·.1)=none) bv):PG X (.Tuple es k pos) (eE' X.K n t):=by
 intro pins s σ H v u Q I r hw;obtain⟨a,xs,e1,hq,hl,hw⟩:=hw;subst e1;cases r;obtain⟨its,rv,ht,hz⟩:=I.tuple hq;refine assign_Tuple_tuple (I.ok.hd hc) ht (by simp[hn,<- hl,rv.length]) rq λh' hx=>?_;have I1:Inv X pins σ H { s with heap:=h' }:=I.kept λb o e=>hx b o (j3 (fS e)) e;exact h pins _ σ H xs _ Q I1 (by simpa using rv) hw
def af'(te:TE)(g:TG):TS:=λD σ H=>te σ H λx H1=>g x σ H1 D.nx
def Ts(hN:X.N.Nodup)(hi:X.N[i]? = some x)(hx:Loc X.env.scope x)(he:PE X e te)(hs:autoParam (nI e (some (.Name x pos')) pos.line X.env=pure false) bv)(hf:X.fn x=true\/X.env.scope.names.lookup x=some .local:=by first|exact .inl rfl|exact .inr rfl|assumption) :
  PS X (.Assign [.Name x pos'] e pos) (af' te (VJ i)):=by
 intro pins s σ H D I h;refine wpAny_Assign_Name (cv (he pins s σ H _ I h) λv s1 ck=>L2.eR ck λy H1 I1 r1 q1=>?_) hs;exact Z_ I1 hN hi hx r1 (λs2 I2=>⟨_,H1,I2,q1⟩) hf
def eG'(c:TT)(tb:TS):TS:=λD σ H=>∃ W:Nat->St->Hp->Prop,(∃ m,W m σ H)/\∀ m σ H,W m σ H ->
 c σ H λb H1=>if b=true then ∃ N:St->Hp->Prop,(∀ bX H',N bX H'->∃ m',m'<m/\W m' bX H')/\tb { D with nx:=N,ct:=N,bk:=D.nx } σ H1 else D.nx σ H1
def eH'(hp:PassesOwn (aT X.prog X.w) X.A X.env X.xe)(hc:PT X c tc)(hb:lP X body tb):PS X (.While c body [] pos) (eG' tc tb):=by
 intro pins s σ H D I h;obtain⟨W,⟨m0,w0⟩,turn⟩:=h;refine wpAny_While (codeAny_whileLoop (λn s'=>∃ bX H',Inv X pins bX H' s'/\W n bX H') ?_ m0 ⟨σ,H,I,w0⟩);rintro n s1 ⟨MQ,H1,I1,w1⟩;refine HK hp (cv (hc pins s1 MQ H1 _ I1 (turn n MQ H1 w1)) λb s2 dP=>?_);obtain⟨H2,I2,q2⟩:=dP
 cases b with
 |true =>
  obtain⟨N,hN,q2⟩:=q2;refine HK hp (cv (hb pins s2 MQ H2 _ I2 q2) λf s3 q3=>?_)
  cases f with
  |next =>obtain⟨pT,H3,I3,n3⟩:=q3;obtain⟨m',hm,w3⟩:=hN pT H3 n3;exact⟨m',hm,pT,H3,I3,w3⟩
  |cont =>obtain⟨pT,H3,I3,n3⟩:=q3;obtain⟨m',hm,w3⟩:=hN pT H3 n3;exact⟨m',hm,pT,H3,I3,w3⟩
  |brk=>exact q3
  |ret v=>exact q3
 |false =>exact wpAny_execs_nil ⟨MQ,H2,I2,q2⟩
end
structure It where
 go:Nat->Hp->Prop
 lS:Nat->Hp->V->Hp->Prop
 stop:Nat->Hp->Prop
def x5(X:Cx)(pins:List (ag × Obj))(H:Hp)(b:ag):Prop :=
 H b=none/\b≠X.env.locals/\b∉X.fs/\(b∈X.ex\/X.fT.heap.objs.size<=b)/\(∀ x c,X.env.cells.lookup x=some c->c≠b)/\∀ p∈X.pn++pins,p.1≠b
def Inv.Fm{X:Cx}(I:Inv X pins σ H s)(hb:s.heap.objs.size<=b)(hn:H' b=none):x5 X pins H' b:=by
 refine⟨hn,SW (pz I.lt hb),I.dV' hb,.inr (iO I.sz hb),λx c e z=>?_,λp hp z=>?_⟩
 ·obtain⟨v,q⟩:=I.cell x c e;exact absurd (pz q.lt (by rw[z];exact hb)) (xE _)
 ·exact absurd (pz (fS (I.pin p hp).1) (by rw[z];exact hb)) (xE _)
structure Turn(P:b9)(w:cy)(K:ax)(tg:Expr)(J:It)(fp:List ag)(it:ag)(tn:Nat->c9->Prop):Prop where
 mem:it∈fp
 obj:∀ i h,tn i h->∀ b∈fp,∃ o,h.get? b=some o/\∀ v,o.data≠.cell v
 keep:∀ i h h',tn i h->(∀ b∈fp,∀ o,h.get? b=some o->h'.get? b=some o)->tn i h'
 item:∀ (X:Cx),X.prog=P->X.w=w->X.K=K->X.calm=true->∀ (i:Nat) (pins:List (ag × Obj)) (s:aC) (σ:St) (H:Hp) (E:ah->aC->Prop),Inv X pins σ H s->(∀ b∈fp,x5 X pins H b)->tn i s.heap->J.go i H ->
  b5 (aT P w) X.A (pyNext (.ref it)) (fun r s1=>∃ u,r=some u /\
   b5 (aT P w) X.A (letOwnedTupleGo tg (.ref it) u) (fun _ s2=>∃ x H',Inv X pins σ H' s2/\RelV x u/\J.lS i H x H'/\tn (i+1) s2.heap/\∀ b∈fp,H' b=none) E s1) E s
 done:∀ (X:Cx),X.prog=P->X.w=w->X.K=K->X.calm=true->∀ (i:Nat) (pins:List (ag × Obj)) (s:aC) (σ:St) (H:Hp) (E:ah->aC->Prop),Inv X pins σ H s->(∀ b∈fp,x5 X pins H b)->tn i s.heap->J.stop i H ->
  b5 (aT P w) X.A (pyNext (.ref it)) (fun r s1=>r=none/\Inv X pins σ H s1) E s
 self:∀ (A:e7) (i:Nat) (s:aC) (Q:ah->aC->Prop) (E:ah->aC->Prop),tn i s.heap->Q (.ref it) s->b5 (aT P w) A (pyIter (.ref it)) Q E s
abbrev TI:=St->Hp->(It->Hp->Prop)->Prop
def PIE(X:Cx)(pins:List (ag × Obj))(σ:St)(tg:Expr)(R:It->Hp->Prop)(VL:ah)(s2:aC):Prop :=
 ∃ (it:ag) (fp:List ag) (tn:Nat->c9->Prop) (J:It) (H':Hp),VL=.ref it/\Inv X pins σ H' s2/\Turn X.prog X.w X.K tg J fp it tn/\tn 0 s2.heap/\(∀ b∈fp,x5 X pins H' b)/\R J H'
def PI(X:Cx)(tg iter:Expr)(wi:TI):Prop :=
 ∀ (pins:List (ag × Obj)) (s:aC) (σ:St) (H:Hp) (R:It->Hp->Prop),Inv X pins σ H s->wi σ H R ->
  b5 (aT X.prog X.w) X.A (b4 iter X.env) (λv s1=>b5 (aT X.prog X.w) X.A (pyIter v) (PIE X pins σ tg R) X.xe s1) X.xe s
def MR(ho:s.heap.get? it=some o)(hc:o.cls=.type n)(hd:o.data=.fields vs)(hn:["enumerate", "zip", "dict_itemiterator", "dict_reverseitemiterator", "odict_iterator", "itertools.zip_longest", "itertools.pairwise"].contains n=false) (hQ:Q () s):b5 M A (letOwnedTupleGo tg (.ref it) u) Q E s:=by
 cases tg<;>first
  |exact dk hQ
  | (cases u<;>first
     |exact dk hQ
     | (refine bS (wpAny_load ho ?_)
        rw[hc,hd];show b5 M A (if (["enumerate", "zip", "dict_itemiterator", "dict_reverseitemiterator", "odict_iterator", "itertools.zip_longest", "itertools.pairwise"].contains n && vs[0]? == some (rawInt _))=true then _ else _) Q E s;rw[if_neg (by intro h;rw[hn,Bool.false_and] at h;cases h)];exact dk hQ))
def Tt(K:ax)(a:ag):It :=
 ⟨λi H=>∃ xs x,eL K H a xs/\xs[i]? = some x,λi H x H'=>H'=H/\∀ xs,eL K H a xs->xs[i]? = some x,λi H=>∃ xs,eL K H a xs/\xs.length<=i⟩
def VM(K:ax)(a:ag):It :=
 ⟨λi H=>∃ xs x,kG K H a xs/\xs[i]? = some x,λi H x H'=>H'=H/\∀ xs,kG K H a xs->xs[i]? = some x,λi H=>∃ xs,kG K H a xs/\xs.length<=i⟩
def IH(lo:Int)(n:Nat):It:=⟨λi _=>i<n,λi H x H'=>H'=H/\x=.int (lo+i),λi _=>n<=i⟩
def eI'{P:b9}{K:ax}(a it:ag):Turn P w K tg (Tt K a) [it] it (λi h=>h.IsListIter it a i) where
 mem:=by simp
 obj:=λi h st b hb=>by
  have e:b=it:=by simpa using hb
  subst e;obtain⟨o,e,c,d⟩:=st;exact⟨o,e,λv z=>by rw[d] at z;cases z⟩
 keep:=λi h h' st k=>st.at λo e=>k it (by simp) o e
 item:=by intro X hP hw hK hc i pins s σ H E I hf st hg;subst hP hw hK;obtain⟨xs,x,hq,hx⟩:=hg;obtain⟨its,rv,p,hz⟩:=I.list hq;obtain⟨u,hu,ru⟩:=rv.get hx;obtain⟨f0,f1,f2,f3,f4,f5⟩:=hf it (by simp);refine wpAny_pyNext_list_item st p.isList (x:=u) (by simpa using hu) λh' ai sb=>?_;have I1:Inv X pins σ H { s with heap:=h' }:=I.turned (t':=s.toks) (λb o hb e=>(sb.2 b hb).trans e) f0 f1 f3 f4 f5;obtain⟨o,e,c,d⟩:=id ai;exact⟨u,rfl,MR (s:={ s with heap:=h' }) e c d (by decide) ⟨x,H,I1,ru,⟨rfl,λys hy=>by rw[I.VG hy hq];exact hx⟩,ai,λb hb=>(hf b hb).1⟩⟩
 done:=by intro X hP hw hK hc i pins s σ H E I hf st hg;subst hP hw hK;obtain⟨xs,hq,hx⟩:=hg;obtain⟨its,rv,p,hz⟩:=I.list hq;obtain⟨f0,f1,f2,f3,f4,f5⟩:=hf it (by simp);have hl:=rv.length;exact wpAny_pyNext_list_end (I.ok.hd hc) st p.isList (by simp;lia) λh' eb=>⟨rfl,I.turned (t':=s.toks) (λb o hb e=>eb b o hb e) f0 f1 f3 f4 f5⟩
 self:=λ_ _ _ _ _ st h=>wpAny_pyIter_listiter st h
def eJ'{P:b9}{K:ax}(a it:ag):Turn P w K tg (VM K a) [it] it (λi h=>h.IsTupleIter it a i) where
 mem:=by simp
 obj:=λi h st b hb=>by
  have e:b=it:=by simpa using hb
  subst e;obtain⟨o,e,c,d⟩:=st;exact⟨o,e,λv z=>by rw[d] at z;cases z⟩
 keep:=λi h h' st k=>st.at λo e=>k it (by simp) o e
 item:=by intro X hP hw hK hc i pins s σ H E I hf st hg;subst hP hw hK;obtain⟨xs,x,hq,hx⟩:=hg;obtain⟨its,rv,p,hz⟩:=I.tuple hq;obtain⟨u,hu,ru⟩:=rv.get hx;obtain⟨f0,f1,f2,f3,f4,f5⟩:=hf it (by simp);refine wpAny_pyNext_tuple_item st (show s.heap.IsTuple a its.toArray from p) (x:=u) (by simpa using hu) λh' ai sb=>?_;have I1:Inv X pins σ H { s with heap:=h' }:=I.turned (t':=s.toks) (λb o hb e=>(sb.2 b hb).trans e) f0 f1 f3 f4 f5;obtain⟨o,e,c,d⟩:=id ai;exact⟨u,rfl,MR (s:={ s with heap:=h' }) e c d (by decide) ⟨x,H,I1,ru,⟨rfl,λys hy=>by rw[I.ev' hy hq];exact hx⟩,ai,λb hb=>(hf b hb).1⟩⟩
 done:=by intro X hP hw hK hc i pins s σ H E I hf st hg;subst hP hw hK;obtain⟨xs,hq,hx⟩:=hg;obtain⟨its,rv,p,hz⟩:=I.tuple hq;obtain⟨f0,f1,f2,f3,f4,f5⟩:=hf it (by simp);have hl:=rv.length;exact wpAny_pyNext_tuple_end (I.ok.hd hc) st (show s.heap.IsTuple a its.toArray from p) (by simp;lia) λh' eb=>⟨rfl,I.turned (t':=s.toks) (λb o hb e=>eb b o hb e) f0 f1 f3 f4 f5⟩
 self:=λ_ _ _ _ _ st h=>wpAny_pyIter_tupleiter st h
def eK'{P:b9}{K:ax}(it:ag)(lo:Int)(n:Nat):Turn P w K tg (IH lo n) [it] it (λi h=>IsRangeIter h it (lo+(i:Nat)*1) ((n:Int)-(i:Nat)) 1) where
 mem:=by simp
 obj:=λi h st b hb=>by
  have e:b=it:=by simpa using hb
  subst e;exact⟨_,st,λv z=>by
   have z':Data.fields _=Data.cell v:=z;cases z'⟩
 keep:=λi h h' st k=>k it (by simp) _ st
 item:=by intro X hP hw hK hc i pins s σ H E I hf st hg;subst hP hw hK;obtain⟨f0,f1,f2,f3,f4,f5⟩:=hf it (by simp);have W:=Walks.range (prog:=X.prog) (w:=X.w) (I.ok.hd hc) it lo 1 n;refine W.item i s _ _ hg st λv h' tk hv ai kk=>?_;obtain⟨t,rfl⟩:=hv;have I1:Inv X pins σ H { s with heap:=h',toks:=tk }:=I.turned (λb o hb e=>kk b o (by simpa using hb) e) f0 f1 f3 f4 f5;refine⟨_,rfl,MR (s:={ s with heap:=h',toks:=tk }) (n := "range_iterator") ai rfl rfl (by decide) ⟨.int (lo+i),H,I1,⟨t,?_⟩,⟨rfl,rfl⟩,ai,λb hb=>(hf b hb).1⟩⟩;rw[Int.mul_one]
 done:=by intro X hP hw hK hc i pins s σ H E I hf st hg;subst hP hw hK;obtain⟨f0,f1,f2,f3,f4,f5⟩:=hf it (by simp);exact wpAny_pyNext_range_end (I.ok.hd hc) st (by have:n<=i:=hg;lia) λh' eb=>⟨rfl,I.turned (t':=s.toks) (λb o hb e=>eb b o hb e) f0 f1 f3 f4 f5⟩
 self:=λ_ _ _ _ _ st h=>wpAny_pyIter_rangeiter st h
section
variable {X:Cx}{tg:Expr}
def eL'(K:ax)(tl:TE):TI:=λσ H R=>tl σ H λx H1=>∃ a,x=.ref a/\(∃ xs,eL K H1 a xs)/\R (Tt K a) H1
def eM'(K:ax)(tl:TE):TI:=λσ H R=>tl σ H λx H1=>∃ a,x=.ref a/\(∃ xs,kG K H1 a xs)/\R (VM K a) H1
def ah'(hl:PE X l tl):PI X tg l (eL' X.K tl):=by
 intro pins s σ H R I h;refine cv (hl pins s σ H _ I h) λv s1 ck=>L2.eR ck λx H1 I1 r1 q1=>?_;obtain⟨a,e,⟨xs,hq⟩,q⟩:=q1;subst e;cases r1;obtain⟨its,rv,p,hz⟩:=I1.list hq;refine wpAny_pyIter_list p.isList ?_;refine⟨s1.heap.objs.size,[s1.heap.objs.size],_,_,H1,rfl,I1.kept λb o e=>i3 _ e,eI' a _,⟨_,nL _ rfl,rfl,rfl⟩,λb hb=>?_,q⟩;have e:b=s1.heap.objs.size:=by simpa using hb
 subst e;exact I1.Fm (cx _) (I1.aI.fresh (cx _))
def ai'(hl:PE X l tl):PI X tg l (eM' X.K tl):=by
 intro pins s σ H R I h;refine cv (hl pins s σ H _ I h) λv s1 ck=>L2.eR ck λx H1 I1 r1 q1=>?_;obtain⟨a,e,⟨xs,hq⟩,q⟩:=q1;subst e;cases r1;obtain⟨its,rv,p,hz⟩:=I1.tuple hq;refine wpAny_pyIter_tuple (p) ?_;refine⟨s1.heap.objs.size,[s1.heap.objs.size],_,_,H1,rfl,I1.kept λb o e=>i3 _ e,eJ' a _,⟨_,nL _ rfl,rfl,rfl⟩,λb hb=>?_,q⟩;have e:b=s1.heap.objs.size:=by simpa using hb
 subst e;exact I1.Fm (cx _) (I1.aI.fresh (cx _))
def aj'{R:It->Hp->Prop}{lo hi:Int}(I:Inv X pins σ H s)(h1:-(2 ^ 62)<=lo)(h2:lo<2 ^ 62)(h3:-(2 ^ 62)<=hi)(h4:hi<2 ^ 62)(q:R (IH lo (hi-lo).toNat) H):b5 (aT X.prog X.w) X.A (pyIter (.ref s.heap.objs.size)) (PIE X pins σ tg R) E { s with heap:=s.heap.push { cls:=.type "range",data:=.fields #[.int lo t,.int hi u,.int 1 v] },toks:=tk }:=by
 refine wpAny_pyIter_range (IsRange.new ..) (small_one h1 h2 h3 h4) ?_;have I1:Inv X pins σ H { s with heap:=s.heap.push { cls:=.type "range",data:=.fields #[.int lo t,.int hi u,.int 1 v] },toks:=tk }:=I.kept λb o e=>i3 _ e;refine⟨(s.heap.push { cls:=.type "range",data:=.fields #[.int lo t,.int hi u,.int 1 v] }).objs.size,[(s.heap.push { cls:=.type "range",data:=.fields #[.int lo t,.int hi u,.int 1 v] }).objs.size],_,_,H,rfl,
  I1.kept λb o e=>i3 _ e,eK' _ lo (hi-lo).toNat,?_,λb hb=>?_,q⟩
 ·have e1:lo+((0:Nat):Int)*1=lo:=by simp
  have e2:(((hi-lo).toNat:Nat):Int)-((0:Nat):Int)=Builtin.Range.rangeSize lo hi 1:=by rw[rangeSize_one];split<;>lia
  rw[e1,e2];exact nL _ rfl
 ·have e:b=(s.heap.push { cls:=.type "range",data:=.fields #[.int lo t,.int hi u,.int 1 v] }).objs.size:=by simpa using hb
  subst e;exact I1.Fm (cx _) (I1.aI.fresh (cx _))
def eN'(ta:TA):TI:=λσ H R=>ta σ H λvs H1=>∃ j:Int,vs=[.int j]/\-(2 ^ 62)<=j/\j<2 ^ 62/\R (IH 0 j.toNat) H1
def eO'(ta:TA):TI:=λσ H R=>ta σ H λvs H1=>∃ i j:Int,vs=[.int i,.int j]/\(-(2 ^ 62)<=i/\i<2 ^ 62/\-(2 ^ 62)<=j/\j<2 ^ 62)/\R (IH i (j-i).toNat) H1
def eP' (hg:Gl X "range") (hm:X.mg "range" = none) (ha:PA X [a] ta) (hs:autoParam (bE [a] X.env=[(false,b4 a X.env)]) bv):PI X tg (.Call (.Name "range" p) [a] [] pos) (eN' ta):=by
 intro pins s σ H R I h;refine Call_ (Fc I hg hm boot_range (PyProof.Rows.callWith_type1 (cv (ha pos pins s σ H _ I h) λus s1 ck=>L2.eR ck λvs H1 I1 r1 q1=>?_) hs rfl));obtain⟨j,e,q1,q2,q⟩:=q1;subst e
 cases r1 with
 |cons r rr =>cases rr;obtain⟨t,rfl⟩:=r;exact call_range_1 (aj' I1 (by lia) (by lia) q1 q2 (by simpa using q))
def eQ' (hg:Gl X "range") (hm:X.mg "range" = none) (ha:PA X [a,b] ta) (hs:autoParam (bE [a,b] X.env=[(false,b4 a X.env),(false,b4 b X.env)]) bv) (nS:autoParam (bE [b] X.env=[(false,b4 b X.env)]) bv) :
  PI X tg (.Call (.Name "range" p) [a,b] [] pos) (eO' ta):=by
 intro pins s σ H R I h;refine Call_ (Fc I hg hm boot_range (PyProof.Rows.callWith_type1 (cv (ha pos pins s σ H _ I h) λus s1 ck=>L2.eR ck λvs H1 I1 r1 q1=>?_) (by rw[hs,nS]) (by rw[nS];rfl)));obtain⟨i,j,e,⟨q1,q2,q3,q4⟩,q⟩:=q1;subst e
 cases r1 with
 |cons r rr =>
  cases rr with
  |cons r' rr =>cases rr;obtain⟨t,rfl⟩:=r;obtain⟨t',rfl⟩:=r';exact call_range_2 (aj' I1 q1 q2 q3 q4 q)
def ak'(wi:TI)(g:TG)(tb:TS):TS:=λD σ H=>wi σ H λJ H1=>∃ W:Nat->Nat->St->Hp->Prop,(∃ m,W 0 m σ H1)/\∀ i m σ H,W i m σ H -> (J.stop i H/\D.nx σ H)\/(J.go i H/\∃ N:St->Hp->Prop,(∀ bX H',N bX H'->∃ m',m'<m/\W (i+1) m' bX H')/\∀ x H',J.lS i H x H'->g x σ H' λkN H2=>tb { D with nx:=N,ct:=N,bk:=D.nx } kN H2)
def Rc(fp:List ag)(h:c9):List (ag × Obj):=fp.filterMap λb=>(h.get? b).map λo=>(b,o)
def Tv(hb:b∈fp)(e:h.get? b=some o):(b,o)∈Rc fp h:=Vk.mpr ⟨b,hb,by rw[e];rfl⟩
def eR'(hp:p∈Rc fp h):p.1∈fp/\h.get? p.1=some p.2:=by
 obtain⟨b,hb,e⟩:=Vk.mp hp
 cases q:h.get? b with
 |none=>rw[q] at e;cases e
 |some o =>rw[q] at e;have e':(b,o)=p:=Option.some.inj e;subst e';exact⟨hb,q⟩
def Inv.pinned(I:Inv X pins σ H s)(hf:∀ b∈fp,x5 X pins H b)(ho:∀ b∈fp,∃ o,s.heap.get? b=some o/\∀ v,o.data≠.cell v):Inv X (pins++Rc fp s.heap) σ H s :=
 I.Z6 λp hp=>(eK.mp hp).elim (λz=>I.pin p (eP _ z)) λz=>by obtain⟨hb,e⟩:=eR' z;obtain⟨f0,f1,f2,_⟩:=hf p.1 hb;obtain⟨o,e',d⟩:=ho p.1 hb;rw[e] at e';cases e';exact⟨e,f0,f1,f2,d⟩
def Inv.Tw(I:Inv X (pins++pl) σ H s):Inv X pins σ H s:=I.Z6 λp hp=>I.pin p (eP _ (jI _ hp))
def al'(hp:PassesOwn (aT X.prog X.w) X.A X.env X.xe)(hc:X.calm=true)(hi:PI X tg iter wi)(hg:PG X tg g)(hb:lP X body tb)(hs:∀ x,E2 iter X.env x=pure x:=by intro _;rfl):PS X (.For tg iter body [] pos) (ak' wi g tb):=by
 intro pins s σ H D I h;refine wpAny_For (cv (hi pins s σ H _ I h) λv s1 h1=>cv h1 λVL s2 h2=>?_) hs;obtain⟨it,fp,tn,J,H2,e,I2,T,zI,f2,W,⟨m0,w0⟩,turn⟩:=h2;subst e
 -- what stays true of the iterator's objects through the loop
 have stat:∀ {H':Hp},(∀ b∈fp,H' b=none)->∀ b∈fp,x5 X pins H' b:=λhn b hb=>⟨hn b hb,(f2 b hb).2⟩
 refine codeAny_forLoop_any (λn s'=>∃ i bX H',Inv X pins bX H' s'/\tn i s'.heap/\(∀ b∈fp,H' b=none)/\W i n bX H') ?_ m0 ⟨0,σ,H2,I2,zI,λb hb=>(f2 b hb).1,w0⟩;rintro n s3 ⟨i,pT,H3,I3,zS,fr3,w3⟩;rcases turn i n pT H3 w3 with⟨stop,qn⟩|⟨go,N,hN,step⟩
 ·refine HK hp (cv (T.done X rfl rfl rfl hc i pins s3 pT H3 X.xe I3 (stat fr3) zS stop) λr s4 dP=>?_);obtain⟨hr,I4⟩:=dP;subst hr;exact wpAny_execs_nil ⟨pT,H3,I4,qn⟩
 ·refine HK hp (cv (T.item X rfl rfl rfl hc i pins s3 pT H3 X.xe I3 (stat fr3) zS go) λr s4 dP=>?_);obtain⟨u,hr,h4⟩:=dP;subst hr;refine HK hp (cv h4 λ_ s5 dP=>?_);obtain⟨x,H5,I5,r5,y5,II,Tx⟩:=dP;have I5':=I5.pinned (stat Tx) (T.obj _ _ II);refine HK hp (cv (hg _ s5 pT H5 x u _ I5' r5 (step x H5 y5)) λ_ s6 dP=>?_);obtain⟨σ6,H6,I6,q6⟩:=dP;refine HK hp (cv (hb _ s6 σ6 H6 _ I6 q6) λf s7 q7=>?_);have again:∀ {AY:St} {H7:Hp},Inv X (pins++Rc fp s5.heap) AY H7 s7->N AY H7->∃ m,m<n/\∃ i bX H',Inv X pins bX H' s7/\tn i s7.heap/\(∀ b∈fp,H' b=none)/\W i m bX H':=λ{AY H7} I7 n7=>by obtain⟨m',hm,w7⟩:=hN AY H7 n7;refine⟨m',hm,i+1,AY,H7,I7.Tw,T.keep _ _ _ II λb hb o e=>(I7.pin (b,o) (eP _ (eP _ (Tv hb e)))).1,λb hb=>?_,w7⟩;obtain⟨o,e,d⟩:=T.obj _ _ II b hb;exact(I7.pin (b,o) (eP _ (eP _ (Tv hb e)))).2.1
  cases f with
  |next=>obtain⟨AY,H7,I7,n7⟩:=q7;exact again I7 n7
  |cont=>obtain⟨AY,H7,I7,n7⟩:=q7;exact again I7 n7
  |brk=>obtain⟨AY,H7,I7,q7⟩:=q7;exact⟨AY,H7,I7.Tw,q7⟩
  |ret v=>obtain⟨x7,AY,H7,I7,r7,q7⟩:=q7;exact⟨x7,AY,H7,I7.Tw,r7,q7⟩
end
abbrev R2:=V->V->Hp->VK->Prop
def dS(X:Cx)(f:ah->ah->Sem ah)(r:R2):Prop :=
 ∀ (pins:List (ag × Obj)) (s:aC) (σ:St) (H:Hp) (x y:V) (v u:ah) (Q:VK),Inv X pins σ H s->RelV x v->RelV y u->r x y H Q ->
  b5 (aT X.prog X.w) X.A (f v u) (EP X pins σ Q) X.xe s
def Tz(X:Cx)(f:ah->Sem ah)(r:V->Hp->VK->Prop):Prop :=
 ∀ (pins:List (ag × Obj)) (s:aC) (σ:St) (H:Hp) (x:V) (v:ah) (Q:VK),Inv X pins σ H s->RelV x v->r x H Q ->
  b5 (aT X.prog X.w) X.A (f v) (EP X pins σ Q) X.xe s
def nv(X:Cx)(f:ah)(r:List V->Hp->VK->Prop):Prop :=
 ∀ (pins:List (ag × Obj)) (s:aC) (σ:St) (H:Hp) (xs:List V) (us:List ah) (Q:VK),Inv X pins σ H s->Vals xs us->r xs H Q ->
  b5 (aT X.prog X.w) X.A (call f us) (EP X pins σ Q) X.xe s
def Rf(r:R2)(ta tb:TE):TE:=λσ H Q=>ta σ H λx H1=>tb σ H1 λy H2=>r x y H2 Q
def tUn(r:V->Hp->VK->Prop)(ta:TE):TE:=λσ H Q=>ta σ H λx H1=>r x H1 Q
def rI(C:Int->Int->Prop)(g:Int->Int->V):R2:=λx y H Q=>∃ i j,x=.int i/\y=.int j/\C i j/\Q (g i j) H
def IJ(g:Int->Int->V):R2:=λx y H Q=>∃ i j,x=.int i/\y=.int j/\Q (g i j) H
def rU(g:Int->V):V->Hp->VK->Prop:=λx H Q=>∃ i,x=.int i/\Q (g i) H
section
variable {X:Cx}{a b:Expr}{ta tb:TE}{pos:Pos}
def VN(ha:PE X a ta)(hb:PE X b tb){pins:List (ag × Obj)}{s:aC}{σ:St}{H:Hp}{R:V->V->Hp->Prop}(I:Inv X pins σ H s)(h:ta σ H λx H1=>tb σ H1 λy H2=>R x y H2) {Q:ah->aC->Prop} {f:ah->ah->Sem ah}(hf:∀ v u s2 x y H2,Inv X pins σ H2 s2->RelV x v->RelV y u->R x y H2->b5 (aT X.prog X.w) X.A (f v u) Q X.xe s2) :
  b5 (aT X.prog X.w) X.A (b4 a X.env) (λv ft=>b5 (aT X.prog X.w) X.A (b4 b X.env) (λu AX=>b5 (aT X.prog X.w) X.A (f v u) Q X.xe AX) X.xe ft) X.xe s:=by
 refine cv (ha pins s σ H _ I h) λv s1 ck=>L2.eR ck λx H1 I1 r1 q1=>?_;refine cv (hb pins s1 σ H1 _ I1 q1) λu s2 ck=>L2.eR ck λy H2 I2 r2 q2=>?_;exact hf v u s2 x y H2 I2 r1 r2 q2
def eV'{op:Operator}{r:R2}(ho:dS X (oj op) r)(ha:PE X a ta)(hb:PE X b tb):PE X (.BinOp a op b pos) (Rf r ta tb):=by intro pins s σ H Q I h;exact wpAny_BinOp (VN ha hb I h λv u s2 x y H2 I2 rx ry q=>ho pins s2 σ H2 x y v u Q I2 rx ry q)
def eW'(ho:Tz X (unaryOp op) r)(ha:PE X a ta):PE X (.UnaryOp op a pos) (tUn r ta):=by intro pins s σ H Q I h;exact UnaryOp_ (cv (ha pins s σ H _ I h) λv s1 ck=>L2.eR ck λx H1 I1 r1 q1=>ho pins s1 σ H1 x v Q I1 r1 q1)
def VP{f:ah->ah->Sem ah}{C:Int->Int->Prop}{g:Int->Int->Int}(rule:∀ (i j:Int) (t u:Tok) (s:aC) (Q:ah->aC->Prop) (E:ah->aC->Prop),C i j->Q (.int (g i j) s.toks) { s with toks:=s.toks+1 }->b5 (aT X.prog X.w) X.A (f (.int i t) (.int j u)) Q E s) :
  dS X f (rI C λi j=>.int (g i j)):=by
 intro pins s σ H x y v u Q I rx ry h;obtain⟨i,j,rfl,rfl,hc,q⟩:=h;obtain⟨t,rfl⟩:=rx;obtain⟨t',rfl⟩:=ry;exact rule i j t t' s _ _ hc ⟨.int (g i j),H,I.tok _,⟨_,rfl⟩,q⟩
def an'{f:ah->ah->Sem ah}{g:Int->Int->Int}(rule:∀ (i j:Int) (t u:Tok) (s:aC) (Q:ah->aC->Prop) (E:ah->aC->Prop),Q (.int (g i j) s.toks) { s with toks:=s.toks+1 }->b5 (aT X.prog X.w) X.A (f (.int i t) (.int j u)) Q E s) :
  dS X f (IJ λi j=>.int (g i j)):=by
 intro pins s σ H x y v u Q I rx ry h;obtain⟨i,j,rfl,rfl,q⟩:=h;obtain⟨t,rfl⟩:=rx;obtain⟨t',rfl⟩:=ry;exact rule i j t t' s _ _ ⟨.int (g i j),H,I.tok _,⟨_,rfl⟩,q⟩
def VQ{f:ah->ah->Sem ah}{g:Int->Int->Bool}(rule:∀ (i j:Int) (t u:Tok) (s:aC) (Q:ah->aC->Prop) (E:ah->aC->Prop),Q (.bool (g i j)) s->b5 (aT X.prog X.w) X.A (f (.int i t) (.int j u)) Q E s) :
  dS X f (IJ λi j=>.bl (g i j)):=by
 intro pins s σ H x y v u Q I rx ry h;obtain⟨i,j,rfl,rfl,q⟩:=h;obtain⟨t,rfl⟩:=rx;obtain⟨t',rfl⟩:=ry;exact rule i j t t' s _ _ ⟨.bl (g i j),H,I,rfl,q⟩
def eX'(i j:Int):Prop:=0<j/\j<1073741824
def MS(i j:Int):Prop:=(-(2 ^ 64)<i/\i<2 ^ 64)\/(-(2 ^ 64)<j/\j<2 ^ 64)
def MS.ok(h:MS i j):IntMulOk i j:=by
 rcases h with⟨h1,h2⟩|⟨h1,h2⟩
 ·exact .of_left (intBits_le_64 h1 h2)
 ·exact .of_right (intBits_le_64 h1 h2)
def eY':dS X (oj .Add) (IJ λi j=>.int (i+j)):=an' λ_ _ _ _ _ _ _ q=>add_int q
def eZ':dS X (oj .Sub) (IJ λi j=>.int (i-j)):=an' λ_ _ _ _ _ _ _ q=>sub_int q
def fa':dS X (oj .Mult) (rI MS λi j=>.int (i*j)):=VP λ_ _ _ _ _ _ _ hc q=>mul_int q hc.ok
def fc':dS X (oj .FloorDiv) (rI eX' λi j=>.int (i / j)):=VP λi j _ _ _ _ _ hc q=>by have h1:0<j:=hc.1;have h2:j<1073741824:=hc.2;exact floordiv_int (by lia) (by rw[Int.fdiv_eq_ediv_of_nonneg i (by lia)];exact q) (.inl (PyProof.noPylong_small (by lia)))
def fd':dS X (oj .Mod) (rI (λ_ j=>0<j) λi j=>.int (i % j)):=VP λi j _ _ _ _ _ hc q=>by exact mod_int' (by lia) (by rw[Int.fmod_eq_emod_of_nonneg i (by lia)];exact q)
def unI{f:ah->Sem ah}{g:Int->Int}(rule:∀ (i:Int) (t:Tok) (s:aC) (Q:ah->aC->Prop) (E:ah->aC->Prop),Q (.int (g i) s.toks) { s with toks:=s.toks+1 }->b5 (aT X.prog X.w) X.A (f (.int i t)) Q E s) :
  Tz X f (rU λi=>.int (g i)):=by
 intro pins s σ H x v Q I rx h;obtain⟨i,rfl,q⟩:=h;obtain⟨t,rfl⟩:=rx;exact rule i t s _ _ ⟨.int (g i),H,I.tok _,⟨_,rfl⟩,q⟩
def fg':Tz X (unaryOp .USub) (rU λi=>.int (-i)):=unI λ_ _ _ _ _ q=>neg_int q
end
def ao':V->V->Bool
 |.non,.non=>true|.non,.int _=>true|.int _,.non=>true|.non,.bl _=>true|.bl _,.non=>true|.non,.str _=>true|.str _,.non=>true
 |.int _,.int _=>true|.bl _,.bl _=>true|.str _,.str _=>true|.w8 _,.w8 _=>true
 |.int _,.str _=>true|.str _,.int _=>true|.bl _,.str _=>true|.str _,.bl _=>true
 |_,_=>false
def rEq:R2:=λx y H Q=>ao' x y=true/\Q (.bl (decide (x=y))) H
def rNe:R2:=λx y H Q=>ao' x y=true/\Q (.bl (!decide (x=y))) H
def ap':decide (V.int i=V.int j)=(i == j):=by rw[B1];simp
def aq':decide (V.bl i=V.bl j)=(i == j):=by rw[B1];simp
def ar':decide (V.str i=V.str j)=(i == j):=by rw[B1];simp
def au':decide (V.w8 i=V.w8 j)=(i.toList == j.toList):=by rw[B1];cases i;cases j;simp
section
variable {X:Cx}{a b c:Expr}{ta tb tc:TE}{pos:Pos}
def i6(I:Inv X pins σ H s)(q:Q (.bl k) H)(e:k=k'):EP X pins σ Q (.bool k') s:=by subst e;exact⟨.bl k,H,I,rfl,q⟩
def fj':dS X (fR .Eq) rEq:=by
 intro pins s σ H x y v u Q I rx ry h;obtain⟨hs,q⟩:=h
 cases x with
 |non =>
  cases rx
  cases y with
  |non=>cases ry;exact PySem.EqNone.eq_none_none (i6 I q (by simp))
  |bl j=>cases ry;exact PySem.EqNone.eq_none_bool (i6 I q (by simp))
  |int j=>obtain⟨t',rfl⟩:=ry;exact PySem.EqNone.eq_none_int (i6 I q (by simp))
  |str j=>obtain⟨t',rfl⟩:=ry;exact PySem.EqNone.eq_none_str (i6 I q (by simp))
  |_=>exact absurd (hs) oP
 |bl i =>
  cases rx
  cases y with
  |non=>cases ry;exact PySem.EqNone.eq_bool_none (i6 I q (by simp))
  |bl j=>cases ry;exact eq_bool (i6 I q aq')
  |str j=>obtain⟨t',rfl⟩:=ry;exact PySem.EqMixed.eq_bool_str (i6 I q (by simp))
  |_=>exact absurd (hs) oP
 |int i =>
  obtain⟨t,rfl⟩:=rx
  cases y with
  |non=>cases ry;exact PySem.EqNone.eq_int_none (i6 I q (by simp))
  |int j=>obtain⟨t',rfl⟩:=ry;exact eq_int (i6 I q ap')
  |str j=>obtain⟨t',rfl⟩:=ry;exact PySem.EqMixed.eq_int_str (i6 I q (by simp))
  |_=>exact absurd (hs) oP
 |str i =>
  obtain⟨t,rfl⟩:=rx
  cases y with
  |non=>cases ry;exact PySem.EqNone.eq_str_none (i6 I q (by simp))
  |bl j=>cases ry;exact PySem.EqMixed.eq_str_bool (i6 I q (by simp))
  |int j=>obtain⟨t',rfl⟩:=ry;exact PySem.EqMixed.eq_str_int (i6 I q (by simp))
  |str j=>obtain⟨t',rfl⟩:=ry;exact eq_str (i6 I q ar')
  |_=>exact absurd (hs) oP
 |w8 i =>
  obtain⟨t,rfl⟩:=rx
  cases y with
  |w8 j=>obtain⟨t',rfl⟩:=ry;exact PySem.W.eq_bytes (i6 I q au')
  |_=>exact absurd (hs) oP
 |_=>cases y<;>exact absurd (hs) oP
def fk':dS X (fR .NotEq) rNe:=by
 intro pins s σ H x y v u Q I rx ry h;obtain⟨hs,q⟩:=h
 cases x with
 |non =>
  cases rx
  cases y with
  |non=>cases ry;exact PySem.EqNone.ne_none_none (i6 I q (by simp))
  |bl j=>cases ry;exact PySem.EqNone.ne_none_bool (i6 I q (by simp))
  |int j=>obtain⟨t',rfl⟩:=ry;exact PySem.EqNone.ne_none_int (i6 I q (by simp))
  |str j=>obtain⟨t',rfl⟩:=ry;exact PySem.EqNone.ne_none_str (i6 I q (by simp))
  |_=>exact absurd (hs) oP
 |bl i =>
  cases rx
  cases y with
  |non=>cases ry;exact PySem.EqNone.ne_bool_none (i6 I q (by simp))
  |bl j=>cases ry;exact ne_bool (i6 I q (congrArg not aq'))
  |str j=>obtain⟨t',rfl⟩:=ry;exact PySem.EqMixed.ne_bool_str (i6 I q (by simp))
  |_=>exact absurd (hs) oP
 |int i =>
  obtain⟨t,rfl⟩:=rx
  cases y with
  |non=>cases ry;exact PySem.EqNone.ne_int_none (i6 I q (by simp))
  |int j=>obtain⟨t',rfl⟩:=ry;exact ne_int (i6 I q (congrArg not ap'))
  |str j=>obtain⟨t',rfl⟩:=ry;exact PySem.EqMixed.ne_int_str (i6 I q (by simp))
  |_=>exact absurd (hs) oP
 |str i =>
  obtain⟨t,rfl⟩:=rx
  cases y with
  |non=>cases ry;exact PySem.EqNone.ne_str_none (i6 I q (by simp))
  |bl j=>cases ry;exact PySem.EqMixed.ne_str_bool (i6 I q (by simp))
  |int j=>obtain⟨t',rfl⟩:=ry;exact PySem.EqMixed.ne_str_int (i6 I q (by simp))
  |str j=>obtain⟨t',rfl⟩:=ry;exact ne_str (i6 I q (congrArg not ar'))
  |_=>exact absurd (hs) oP
 |w8 i =>
  obtain⟨t,rfl⟩:=rx
  cases y with
  |w8 j=>obtain⟨t',rfl⟩:=ry;exact PySem.W.ne_bytes (i6 I q (congrArg not au'))
  |_=>exact absurd (hs) oP
 |_=>cases y<;>exact absurd (hs) oP
def fm':dS X (fR .Lt) (IJ λi j=>.bl (decide (i<j))):=VQ λ_ _ _ _ _ _ _ q=>lt_int q
def fn':dS X (fR .LtE) (IJ λi j=>.bl (decide (i<=j))):=VQ λ_ _ _ _ _ _ _ q=>le_int q
def fo':dS X (fR .Gt) (IJ λi j=>.bl (decide (j<i))):=VQ λ_ _ _ _ _ _ _ q=>gt_int q
def fp':dS X (fR .Lt) (λx y H Q=>∃ i j,x=.str i/\y=.str j/\Q (.bl (decide (i.cps.toList<j.cps.toList))) H):=by intro pins s σ H x y v u Q I rx ry h;obtain⟨i,j,rfl,rfl,q⟩:=h;obtain⟨t,rfl⟩:=rx;obtain⟨t',rfl⟩:=ry;exact lt_str (i6 I q rfl)
def fq':dS X (fR .In) (λx y H Q=>∃ i j,x=.str i/\y=.str j/\Q (.bl (!(Builtin.Str.occurrences j i 0 j.length 1).isEmpty)) H):=by intro pins s σ H x y v u Q I rx ry h;obtain⟨i,j,rfl,rfl,q⟩:=h;obtain⟨t,rfl⟩:=rx;obtain⟨t',rfl⟩:=ry;exact in_str (i6 I q rfl)
def fr':dS X (fR .Is) (λx y H Q=>y=.non/\Q (.bl (decide (x=.non))) H):=by
 intro pins s σ H x y v u Q I rx ry h;obtain⟨rfl,q⟩:=h;cases ry;refine is_none_gen (i6 I q ?_);cases x<;>first
  | (cases rx;rfl)
  | (obtain⟨t,rfl⟩:=rx;rfl)
def ft':dS X (fR .NotIn) (λx y H Q=>∃ i j,x=.str i/\y=.str j/\Q (.bl (!(!(Builtin.Str.occurrences j i 0 j.length 1).isEmpty))) H):=by intro pins s σ H x y v u Q I rx ry h;obtain⟨i,j,rfl,rfl,q⟩:=h;obtain⟨t,rfl⟩:=rx;obtain⟨t',rfl⟩:=ry;exact notIn_str (i6 I q rfl)
def dS.or(h:dS X f r)(h':dS X f r'):dS X f (λx y H Q=>r x y H Q\/r' x y H Q):=by
 intro pins s σ H x y v u Q I rx ry q;rcases q with q|q
 ·exact h pins s σ H x y v u Q I rx ry q
 ·exact h' pins s σ H x y v u Q I rx ry q
def av'(b:Expr)(h:op≠.In:=by decide)(h2:op≠.NotIn:=by decide):E3 op b=false:=by
 have e1:(op == CmpOp.In)=false:=by cases op<;>first|rfl|exact absurd rfl h
 have e2:(op == CmpOp.NotIn)=false:=by cases op<;>first|rfl|exact absurd rfl h2
 cases b<;>simp[E3,e1,e2]
def fu'{op:CmpOp}{r:R2}(ho:dS X (fR op) r)(ha:PE X a ta)(hb:PE X b tb)(hm:E3 op b=false):PE X (.Compare a [op] [b] pos) (Rf r ta tb):=by intro pins s σ H Q I h;exact wpAny_Compare1 (VN ha hb I h λv u s2 x y H2 I2 rx ry q=>ho pins s2 σ H2 x y v u Q I2 rx ry q) hm
def VR(t:TE):TT:=λσ H Q=>t σ H λx H'=>∃ k,x=.bl k/\Q k H'
def fv'(ho:dS X (fR op) r)(ha:PE X a ta)(hb:PE X b tb)(hm:E3 op b=false):PT X (.Compare a [op] [b] pos) (VR (Rf r ta tb)):=by
 intro pins s σ H Q I h;refine wpAny_isTrue_Compare1 (cv (ha pins s σ H _ I h) λv s1 ck=>L2.eR ck λx H1 I1 r1 q1=>cv (hb pins s1 σ H1 _ I1 q1) λu s2 ck=>L2.eR ck λy H2 I2 r2 q2 =>
  cv (ho pins s2 σ H2 x y v u _ I2 r1 r2 q2) λc s3 ⟨z,H3,I3,r3,k,e,q3⟩=>?_) hm
 subst e;cases r3;exact BF ⟨H3,I3,q3⟩
def VS(r r':R2)(ta tb tc:TE):TE:=λσ H Q=>ta σ H λx H1=>tb σ H1 λy H2=>r x y H2 λz H3=>∃ k,z=.bl k /\ (if k=true then tc σ H3 λw' H4=>r' y w' H4 Q else Q (.bl false) H3)
def fw'(ho:dS X (fR op) r)(rh:dS X (fR op') r')(ha:PE X a ta)(hb:PE X b tb)(hc:PE X c tc)(hm:lastMarks [op,op'] [b,c]=false:=by with_unfolding_all rfl):PE X (.Compare a [op,op'] [b,c] pos) (VS r r' ta tb tc):=by
 intro pins s σ H Q I h;refine Compare_chain (cv (ha pins s σ H _ I h) λv s1 ck=>L2.eR ck λx H1 I1 r1 q1=>chain_link (cv (hb pins s1 σ H1 _ I1 q1) λu s2 ck=>L2.eR ck λy H2 I2 r2 q2 =>
  cv (ho pins s2 σ H2 x y v u _ I2 r1 r2 q2) λd s3 ⟨z,H3,I3,r3,k,e,q3⟩=>?_)) hm
 subst e;cases r3;refine BF ?_
 cases k with
 |false=>exact ite_ff ⟨.bl false,H3,I3,rfl,q3⟩
 |true=>exact ite_tt (chain_last (cv (hc pins s3 σ H3 _ I3 q3) λw' s4 ⟨z',H4,I4,r4,q4⟩=>rh pins s4 σ H4 y z' u w' Q I4 r2 r4 q4))
def fx'(ho:dS X (fR op) r)(rh:dS X (fR op') r')(ha:PE X a ta)(hb:PE X b tb)(hc:PE X c tc)(hm:lastMarks [op,op'] [b,c]=false:=by with_unfolding_all rfl):PT X (.Compare a [op,op'] [b,c] pos) (VR (VS r r' ta tb tc)):=by
 intro pins s σ H Q I h;refine isTrue_chain (cv (ha pins s σ H _ I h) λv s1 ck=>L2.eR ck λx H1 I1 r1 q1=>test_link (cv (hb pins s1 σ H1 _ I1 q1) λu s2 ck=>L2.eR ck λy H2 I2 r2 q2 =>
  cv (ho pins s2 σ H2 x y v u _ I2 r1 r2 q2) λd s3 ⟨z,H3,I3,r3,k,e,q3⟩=>?_)) hm
 subst e;cases r3;refine BF ?_
 cases k with
 |false =>obtain⟨k',e',q'⟩:=q3;cases e';exact ite_ff ⟨H3,I3,q'⟩
 |true =>refine ite_tt (test_last (cv (hc pins s3 σ H3 _ I3 q3) λw' s4 ⟨z',H4,I4,r4,q4⟩=>cv (rh pins s4 σ H4 y z' u w' _ I4 r2 r4 q4) λd' s5 dP=>?_));obtain⟨z2,H5,I5,r5,k2,e2,q5⟩:=dP;subst e2;cases r5;exact BF ⟨H5,I5,q5⟩
def VW:(bI:Nat)<2 ^ 63:=by rw[oi];decide
def fy':dS X (oj .Add) (λx y H Q=>∃ i j,x=.str i/\y=.str j/\i.length+j.length<=bI/\Q (.str (i++j)) H):=by intro pins s σ H x y v u Q I rx ry h;obtain⟨i,j,rfl,rfl,hz,q⟩:=h;obtain⟨t,rfl⟩:=rx;obtain⟨t',rfl⟩:=ry;exact add_str (λt' tk=>⟨.str (i++j),H,I.tok _,⟨_,rfl⟩,q⟩) hz
def vals1(r:Vals [x] us):∃ u,us=[u]/\RelV x u:=by
 cases r with
 |cons r1 r2=>cases r2;exact⟨_,rfl,r1⟩
def aw'(K:ax)(x:V)(H:Hp)(n:Nat):Prop :=
 match x with
 |.str y=>y.length<=bI/\n=y.length
 |.w8 y=>y.size<=bI/\n=y.size
 |.ref p=>(∃ xs,eL K H p xs/\n=xs.length)\/∃ xs,kG K H p xs/\n=xs.length
 |_=>False
def TB:nv X (.builtin "len") (λxs H Q=>∃ x n,xs=[x]/\aw' X.K x H n/\Q (.int n) H):=by
 intro pins s σ H xs us Q I r h;obtain⟨x,n,rfl,e,q⟩:=h;obtain⟨u,rfl,rx⟩:=vals1 r;have hs:bI=16777216:=oi
 cases x with
 |str y =>obtain⟨t,rfl⟩:=rx;obtain⟨hy,e'⟩:y.length<=bI/\n=y.length:=e;subst e';exact len_str (by lia) ⟨.int _,H,I.tok _,⟨_,rfl⟩,q⟩
 |w8 y =>obtain⟨t,rfl⟩:=rx;obtain⟨hy,e'⟩:y.size<=bI/\n=y.size:=e;subst e';exact PySem.W.len_bytes (by lia) ⟨.int _,H,I.tok _,⟨_,rfl⟩,q⟩
 |ref p =>
  cases rx;have e':(∃ xs,eL X.K H p xs/\n=xs.length)\/∃ xs,kG X.K H p xs/\n=xs.length:=e;rcases e' with⟨xs,hx,e'⟩|⟨xs,hx,e'⟩
  ·subst e';obtain⟨its,r',pl,hz⟩:=I.list hx;have hlen:=r'.length;exact Calls.call_len_list pl.isList (by simp only[jS];lia) ⟨.int xs.length,H,I.tok _,⟨_,by simp only[jS];rw[hlen]⟩,q⟩
  ·subst e';obtain⟨its,r',pl,hz⟩:=I.tuple hx;have hlen:=r'.length;exact len_tuple pl (by simp only[jS];lia) ⟨.int xs.length,H,I.tok _,⟨_,by simp only[jS];rw[hlen]⟩,q⟩
 |_=>exact(e).elim
end
structure IL(h:c9)(x dx C:ag)(mA:Str->Option ah):Prop where
 obj:h.get? x=some (EZ C dx)
 ns:h.Ns1 dx mA
 ne:dx≠x
def lookIn_ns{h:c9}{dx:ag}{mA:Str->Option ah}(n:h.Ns1 dx mA):∃ od,h.get? dx=some od/\∀ name,Sn name od=some (mA name):=by
 obtain⟨o,es,ep,ho,hd,hk,_,hm⟩:=n;refine⟨o,ho,λname=>?_⟩;have e:=hm name;unfold nsFind findBy at e;rw[<- Array.find?_toList] at e;unfold Sn;rw[hd];dsimp only;split
 ·rename_i y q;rw[q] at e;exact congrArg some e
 ·rename_i q;rw[q] at e;have a:es.toList.any (·.refKey)=false:=by rw[List.any_eq_false];intro y hy;obtain⟨z,t,fz'⟩:=hk y (Array.mem_toList_iff.mp hy);simp[DictEntry.refKey,fz']
  have a':¬ es.toList.any (·.refKey)=true:=by rw[a];exact oP
  rw[if_neg a'];exact congrArg some e
def IL.look(I:IL h x dx C mA):∃ od,PySem.W.InstAt h x (EZ C dx) C (some od)/\∀ name,Sn name od=some (mA name) :=
 let ⟨od,ho,hl⟩:=lookIn_ns I.ns
 ⟨od,⟨I.obj,rfl,rfl,ho⟩,hl⟩
section
variable {prog:b9}{w:cy}{A:e7}{E:ah->aC->Prop}{s:aC}{K:ax}{x dx C f:ag}{mA:Str->Option ah}{name:Str}{v:ah}
def get_map(X:K.In s.heap)(I:IL s.heap x dx C mA)(hg:Pw K C name=true)(hh:Si K C=true)(ha:ng K (.ref C) name=some none) (hv:mA name=some v) (TC:PySem.W.handedIn v=true) (h:Q v { s with toks:=s.toks+1 }) :
  b5 (aT prog w) A (getAttr (.ref x) name expr) Q E s:=by
 obtain⟨od,J,hl⟩:=I.look;exact PySem.W.get_value X J (U8 hg).1 (PySem.W.findObj_own hh ha rfl (by rw[hl,hv])) TC h
def fA'(X:K.In s.heap)(I:IL s.heap x dx C mA)(hg:Pw K C name=true)(hf:ng K (.ref C) name=some (some (.ref f))) (ht:HC K (.ref f)=true) (hv:mA name=none) (h:Q (.ref f,[.ref x]) s) :
  b5 (aT prog w) A (getMethod (.ref x) name pl) Q E s:=by
 obtain⟨od,J,hl⟩:=I.look;exact PySem.W.method_fn X J (U8 hg).1 (U8 hg).2 hf (beq_iff_eq.mp ht) (by show(Sn name od).map (·.isSome)=some false;rw[hl,hv];rfl) h
def fB'(X:K.In s.heap)(I:IL s.heap x dx C mA)(hs:ng K (.ref C) "__setattr__" = some (some (.builtin "object.__setattr__"))) (hp:U9 K C=true) (ht:Va K C name=some none) (hh:Si K C=true)(hw:PySem.Within mA ns) (hZ:ns.length<=bI)(h:∀ h',IL h' x dx C (λy=>if y=name then some v else mA y)->Heap.SameBut dx s.heap h'->Q () { s with heap:=h',toks:=s.toks+2 }) :
  b5 (aT prog w) A (setAttr (.ref x) name v) Q E s:=by
 obtain⟨od,J,hl⟩:=I.look;refine PySem.W.set_plain X J hs (PySem.W.osa_open X J hp ht λb=>?_);obtain⟨cd,hc,Vx⟩:=PySem.W.any_some hh;have hx:s.heap.get? x=some ⟨.ref C,some dx,.plain,#[]⟩:=I.obj;refine bS (dk (bS (bS (wpAny_loadPart hx (bS (PySem.W.Looks.here (PySem.W.looks_clsIn X hc) ?_))))));rw[Vx];refine dk (bS (dk (bS ?_)));refine wpAny_nsSet1 I.ns λh' IQ nS=>?_;obtain⟨oD,esD,epD,hoD,AZ,hcD⟩:=IQ.count (PySem.Within.cons name v hw);refine bS (wpAny_lookBehind hoD (by rw[AZ];exact pastItsLine_dict (iO hcD (by rw[kB];lia))) ?_);exact dk (h _ ⟨(nS.2 _ (Ne.symm I.ne)).trans I.obj,IQ,I.ne⟩ nS)
def fE'{R:Result->aC->Prop}(X:K.In s.heap)(hm:Vb K C=true)(hi:ng K (.ref C) "__init__" = some (some (.ref f))) (hf:PySem.W.typeIn K (.ref f)=some (.type "function"))(h:codeAny (aT prog w) (A.under (.builtin "type.__call__" ⟨.ref C :: vs,kw⟩)) (.call (.ref f) ⟨.ref (s.heap.objs.size+1) :: vs,kw⟩) (PySem.W.InitBack (s.heap.objs.size+1) R) { s with heap:=(s.heap.push EX).push (EZ C s.heap.objs.size) }) :
  codeAny (aT prog w) A (.call (.ref C) ⟨vs,kw⟩) R s:=by
 obtain⟨hh,g,d,t,os⟩:=s;exact PySem.W.make_core (PySem.W.makes_of X hm) (PySem.W.looks_findIn X hi) (λself=>PySem.W.bind_fn X self hf) (.inl rfl) h
end
def gI(f:Str)(v:V):List (Str × V)->List (Str × V)
 |[]=>[(f,v)]
 | (g,x) :: r=>if g=f then (g,v) :: r else (g,x) :: gI f v r
theorem ax'(f g:Str)(v:V):∀ fs:List (Str × V),(gI f v fs).lookup g=if g=f then some v else fs.lookup g
 |[]=>by
  show List.lookup g [(f,v)]=_;by_cases h:g=f
  ·have hb:(g == f)=true:=beq_iff_eq.mpr h;simp only[List.lookup,hb,if_pos h]
  ·have hb:(g == f)=false:=beq_eq_false_iff_ne.mpr h;simp only[List.lookup,hb,if_neg h]
 | (k,x) :: r=>by
  have ih:=ax' f g v r;rw[show gI f v ((k,x) :: r)=(if k=f then (k,v) :: r else (k,x) :: gI f v r) from rfl];by_cases hk:k=f
  ·rw[if_pos hk];by_cases h:g=k
   ·have hb:(g == k)=true:=beq_iff_eq.mpr h;simp only[List.lookup,hb,if_pos (h.trans hk)]
   ·have hb:(g == k)=false:=beq_eq_false_iff_ne.mpr h;simp only[List.lookup,hb,if_neg (λe:g=f=>h (e.trans hk.symm))]
  ·rw[if_neg hk];by_cases h:g=k
   ·have hb:(g == k)=true:=beq_iff_eq.mpr h;simp only[List.lookup,hb,if_neg (λe:g=f=>hk (h.symm.trans e))]
   ·have hb:(g == k)=false:=beq_eq_false_iff_ne.mpr h;simp only[List.lookup,hb];exact ih
theorem VX(f:Str)(v:V):∀ fs:List (Str × V),f∈(gI f v fs).map (·.1)/\∀ g,g∈fs.map (·.1)->g∈(gI f v fs).map (·.1)
 |[]=>⟨by simp[gI],λg h=>by simp at h⟩
 | (k,x) :: r=>by
  obtain⟨i1,i2⟩:=VX f v r;rw[show gI f v ((k,x) :: r)=(if k=f then (k,v) :: r else (k,x) :: gI f v r) from rfl];by_cases hk:k=f
  ·rw[if_pos hk];subst hk;exact⟨by simp,λg h=>by simpa using h⟩
  ·rw[if_neg hk];refine⟨?_,λg h=>?_⟩
   ·rw[gX];exact eA _ i1
   ·rw[gX] at h ⊢;rcases eJ.mp h with e|e
    ·exact eJ.mpr (.inl e)
    ·exact eA _ (i2 g e)
theorem ay'(f:Str)(v:V):∀ fs:List (Str × V),(gI f v fs).length<=fs.length+1
 |[]=>by simp[gI]
 | (k,x) :: r=>by
  have ih:=ay' f v r;rw[show gI f v ((k,x) :: r)=(if k=f then (k,v) :: r else (k,x) :: gI f v r) from rfl];by_cases hk:k=f
  ·rw[if_pos hk,kB,kB];lia
  ·rw[if_neg hk,kB,kB];lia
def oQ.some_of(r:oQ (some v) o):∃ u,o=some u/\RelV v u:=by
 cases o with
 |none=>exact(r).elim
 |some u=>exact⟨u,rfl,r⟩
def oQ.none_of(r:oQ none o):o=none:=by
 cases o with
 |none=>rfl
 |some u=>exact(r).elim
def fF'(r:RelV v u):PySem.W.handedIn u=true:=by
 cases v with
 |non=>cases (show u=Value.none from r);rfl
 |bl b=>cases (r);rfl
 |int i=>obtain⟨t,e⟩:=(r);cases e;rfl
 |str x=>obtain⟨t,e⟩:=(r);cases e;rfl
 |w8 b=>obtain⟨t,e⟩:=(r);cases e;rfl
 |zC b=>obtain⟨t,e⟩:=(r);cases e;rfl
 |ref a=>cases (r);rfl
 |ty n=>cases (r);rfl
section
variable {P:b9}{w:cy}{H:Hp}{h:c9}{a C dx:ag}{fs:List (Str × V)}
def IU(aI:hU P w H h)(e:H a=some (.ins C dx fs)):∃ mA,IL h a dx C mA/\(∀ f,oQ (fs.lookup f) (mA f))/\PySem.Within mA (fs.map (·.1))/\fs.length<=1000/\H dx=some (.own a):=by
 obtain⟨d,z,ne,ob,mA,n,r,q⟩:=(aI a _ e)
 exact⟨mA,⟨ob,n,ne⟩,r,q,z,d⟩
end
structure tP(K:ax)(C:ag):Prop where
 pg:Pw K C Str.empty=true
 hd:Si K C=true
 po:U9 K C=true
 sa:ng K (.ref C) "__setattr__" = some (some (.builtin "object.__setattr__"))
def tP.get{K:ax}(c:tP K C)(f:Str):Pw K C f=true:=c.pg
def tS(K:ax)(C:ag)(f:Str):Prop:=ng K (.ref C) f=some none
def tS.fG'{K:ax}(n:tS K C f):Va K C f=some none:=by unfold Va;rw[show ng K (.ref C) f=some none from n];rfl
structure Meth(K:ax)(C:ag)(m:Str)(f:ag):Prop where
 at_:ng K (.ref C) m=some (some (.ref f))
 fn:HC K (.ref f)=true
 kp:tJ K (.ref f)=true
section
variable {X:Cx}{pins:List (ag × Obj)}{σ:St}{H:Hp}{s:aC}{a C dx:ag}{fs:List (Str × V)}{f:Str}{v:V}{A:e7}{E:ah->aC->Prop}
def fH'(I:Inv X pins σ H s)(e:H a=some (.ins C dx fs))(c:tP X.K C)(n:tS X.K C f)(l:fs.lookup f=some v)(h:∀ u s',Inv X pins σ H s'->RelV v u->Q u s'):b5 (aT X.prog X.w) A (getAttr (.ref a) f b) Q E s:=by
 obtain⟨mA,O,r,_,_,_⟩:=IU I.aI e;obtain⟨u,hu,ru⟩:=oQ.some_of (by rw[<- l];exact r f);exact get_map I.iA O (c.get f) c.hd n hu (fF' ru) (h u _ (I.tok _) ru)
def fI'(I:Inv X pins σ H s)(e:H a=some (.ins C dx fs))(c:tP X.K C)(k:Meth X.K C m g)(l:fs.lookup m=none)(h:Q (.ref g,[.ref a]) s):b5 (aT X.prog X.w) A (getMethod (.ref a) m pl) Q E s:=by
 obtain⟨mA,O,r,_,_,_⟩:=IU I.aI e;have hn:mA m=none:=oQ.none_of (by rw[<- l];exact r m);exact fA' I.iA O (c.get m) k.at_ k.fn hn h
def fJ'(I:Inv X pins σ H s)(e:H a=some (.ins C dx fs))(c:tP X.K C)(n:tS X.K C f)(hl:fs.length<1000)(ry:RelV y u)(h:∀ s',Inv X pins σ (upd H a (.ins C dx (gI f y fs))) s'->Q () s'):b5 (aT X.prog X.w) A (setAttr (.ref a) f u) Q E s:=by
 obtain⟨mA,O,r,wi,_,ho⟩:=IU I.aI e;have hz:(fs.map (·.1)).length<=bI:=by rw[dr,oi];lia
 refine fB' I.iA O c.sa c.po n.fG' c.hd wi hz λh' O' sb=>h _ ?_;have hd:∃ o,h'.get? dx=some o:=let ⟨o,_,_,e',_⟩:=O'.ns;⟨o,e'⟩
 refine I.write (by rw[e];exact True.intro) (.inr ho) (λb q hb z=>(sb.2 b hb).trans z) hd ?_;refine⟨by rw[dn O.ne];exact ho,?_,O.ne,O'.obj,_,O'.ns,λg=>?_,λg hg=>?_⟩
 ·have:=ay' f y fs;lia
 ·show oQ ((gI f y fs).lookup g) (if g=f then some u else mA g);rw[ax'];by_cases q:g=f
  ·rw[if_pos q,if_pos q];exact ry
  ·rw[if_neg q,if_neg q];exact r g
 ·by_cases q:g=f
  ·rw[q];exact(VX f y fs).1
  ·refine(VX f y fs).2 g (wi g λz=>hg ?_);show(if g=f then some u else mA g)=none;rw[if_neg q];exact z
def Inv.made(I:Inv X pins σ H s):Inv X pins σ (upd (upd H s.heap.objs.size (.own (s.heap.objs.size+1))) (s.heap.objs.size+1) (.ins C s.heap.objs.size [])) { s with heap:=(s.heap.push EX).push (EZ C s.heap.objs.size) }:=by
 have e1:(s.heap.push EX).get? s.heap.objs.size=some EX:=nL s.heap rfl;have e2:((s.heap.push EX).push (EZ C s.heap.objs.size)).get? (s.heap.objs.size+1)=some (EZ C s.heap.objs.size):=by have:=nL (s.heap.push EX) (o:=EZ C s.heap.objs.size) rfl;rwa[Heap.size_push] at this
 have e3:(s.heap.push EX).Ns s.heap.objs.size (λ_=>none):=⟨EX,#[],_,e1,rfl,(λe he=>absurd he (by simp)),λ_=>rfl⟩
 have I1:=I.laid (a:=s.heap.objs.size) (o:=.own (s.heap.objs.size+1)) (t':=s.toks) (λb u q=>i3 _ q) (cx _) ⟨_,e1⟩;refine I1.laid (t':=s.toks) (λb u q=>i3 _ q) (P8 (Heap.size_push _ _)) ?_;have ne:s.heap.objs.size≠s.heap.objs.size+1:=j3 (Nat.lt_succ_self _);refine⟨by rw[dn ne,eM],fI _,ne,e2,λ_=>none,(Heap.Ns1.of_empty e3).at λo q=>i3 _ q,λ_=>True.intro,λy hy=>absurd rfl hy⟩
def fK'(hb:vj e f env (b4 e env)=b4 e env)(h:b5 (aT prog w) A (b4 e env) (λo ft=>b5 (aT prog w) A (getAttr o f true) Q E ft) E s):b5 (aT prog w) A (b4 (.Attribute e f pos) env) Q E s :=
 Attribute_any_ h (by rw[arm_eval_Attribute,hb])
end
def D3(K:ax)(ta:TE)(f:Str):TE:=λσ H Q=>ta σ H λx H1=>∃ a C dx fs v,x=.ref a/\H1 a=some (.ins C dx fs)/\tP K C/\tS K C f/\fs.lookup f=some v/\Q v H1
def VY(K:ax)(ta tv:TE)(f:Str):TS:=λD σ H=>tv σ H λy H1=>ta σ H1 λx H2=>∃ a C dx fs,x=.ref a/\H2 a=some (.ins C dx fs)/\tP K C/\tS K C f/\fs.length<1000 /\
 D.nx σ (upd H2 a (.ins C dx (gI f y fs)))
section
variable {X:Cx}{o e value:Expr}{f:Str}{pos pos':Pos}{ta tv:TE}
def MV(he:PE X e ta)(hb:vj e f X.env (b4 e X.env)=b4 e X.env):PE X (.Attribute e f pos) (D3 X.K ta f):=by intro pins s σ H Q I h;refine fK' hb (cv (he pins s σ H _ I h) λu s1 dP=>?_);obtain⟨x,H1,I1,rx,a,C,dx,fs,v,ex,ea,c,n,l,q⟩:=dP;subst ex;obtain rfl:u=Value.ref a:=rx;exact fH' I1 ea c n l λu' s2 I2 ru=>⟨v,H1,I2,ru,q⟩
def az'(ha:PE X o ta)(hv:PE X value tv)(hs:nI value (some (.Attribute o f pos')) pos.line X.env=pure false):PS X (.Assign [.Attribute o f pos'] value pos) (VY X.K ta tv f):=by intro pins s σ H D I h;refine plainObj_wpAny_Assign_Attribute (cv (hv pins s σ H _ I h) λu s1 ck=>L2.eR ck λy H1 I1 ry q=>cv (ha pins s1 σ H1 _ I1 q) λov s2 dP=>?_) hs;obtain⟨x,H2,I2,rx,a,C,dx,fs,ex,ea,c,n,l,q2⟩:=dP;subst ex;obtain rfl:ov=Value.ref a:=rx;exact fJ' I2 ea c n l ry λs3 I3=>⟨σ,_,I3,q2⟩
end
section
variable {X:Cx}{pins:List (ag × Obj)}{σ:St}{H:Hp}{s:aC}{A:e7}{E:ah->aC->Prop}{Q:ah->aC->Prop}{c:ah}{b:Bool}
inductive z0(K:ax)(H:Hp):V->ah->Prop where
 |non:z0 K H .non (.type "NoneType")
 |bl (x:Bool):z0 K H (.bl x) (.type "bool")
 |int (i:Int):z0 K H (.int i) (.type "int")
 |str (x:Str):z0 K H (.str x) (.type "str")
 |zC (x:UInt64):z0 K H (.zC x) (.type "float")
 |lst {a:ag} {xs:List V} (e:H a=some (.lst xs)):z0 K H (.ref a) (.type "list")
 |pE {a:ag} {o:Obj} {xs:List V} (e:H a=some (.pE o (.lst xs))):z0 K H (.ref a) (.type "list")
 |tup {a:ag} {xs:List V} (e:H a=some (.tup xs)):z0 K H (.ref a) (.type "tuple")
 |dK {a:ag} {ae:List (Key × V)} (e:H a=some (.dK ae)):z0 K H (.ref a) (.type "dict")
 |dT {a:ag} {ae:List (List Key × V)} (e:H a=some (.dT ae)):z0 K H (.ref a) (.type "dict")
 |ins {a C dx:ag} {fs:List (Str × V)} (e:H a=some (.ins C dx fs)) (cl:tP K C) (ha:ng K (.ref C) "__class__" = some (some (.builtin "object.__class__")))
   (hn:PySem.W.specialIn K (.builtin "object.__class__") "__get__" = some (some (.builtin "getset_descriptor.__get__"))) (htk:PySem.W.takesIn K (.builtin "object.__class__")=some true)
   (hm:Sq K C (.type "object")=some true):z0 K H (.ref a) (.ref C)
def Rg(I:Inv X pins σ H s)(rx:RelV x u)(ty:z0 X.K H x t)(e:zh X.K t c=some b)(h:∀ tk,Q (.bool b) { s with toks:=tk }) :
  b5 (aT X.prog X.w) A (call (.builtin "isinstance") [u,c]) Q E s:=by
 cases ty with
 |non=>cases (show u=Value.none from rx);exact wq PySem.W.kitx_none I.iA True.intro e (λz=>nomatch z) h
 |bl y=>cases (show u=Value.bool y from rx);exact wq PySem.W.kitx_bool I.iA True.intro e (λz=>nomatch z) h
 |int i=>obtain⟨t,q⟩:=(rx);cases q;exact wq PySem.W.kitx_int I.iA True.intro e (λz=>nomatch z) h
 |str y=>obtain⟨t,q⟩:=(show ∃ t,u=Value.str y t from rx);cases q;exact wq PySem.W.kitx_str I.iA True.intro e (λz=>nomatch z) h
 |zC y=>obtain⟨t,q⟩:=(rx);cases q;exact wq PySem.W.kitx_float I.iA True.intro e (λz=>nomatch z) h
 |@lst a xs ea =>
  cases (show u=Value.ref a from rx);obtain⟨_,_,n,_,h1⟩:=(I.aI a _ ea)
  exact wq U_ I.iA ⟨_,h1,rfl⟩ e (λz=>nomatch z) h
 |@pE a ob xs ea =>
  cases (show u=Value.ref a from rx);obtain⟨_,_,_,n,_,h1⟩:=(I.aI a _ ea)
  exact wq U_ I.iA ⟨_,h1,rfl⟩ e (λz=>nomatch z) h
 |@tup a xs ea =>
  cases (show u=Value.ref a from rx);obtain⟨_,_,_,p⟩:=(I.aI a _ ea)
  obtain⟨o,h1,h2,_⟩:=p;exact wq PySem.W.kitx_tuple I.iA ⟨o,h1,h2⟩ e (λz=>nomatch z) h
 |@dK a ae ea =>
  cases (show u=Value.ref a from rx);obtain⟨_,_,vs,_,p⟩:=(I.aI a _ ea)
  obtain⟨o,es,ep,h1,h2,_⟩:=p;exact wq Sj I.iA ⟨o,h1,h2.1⟩ e (λz=>nomatch z) h
 |@dT a ae ea =>
  cases (show u=Value.ref a from rx);obtain⟨_,_,xs,_,o,es,ep,h1,h2,_⟩:=(I.aI a _ ea)
  exact wq Sj I.iA ⟨o,h1,h2.1⟩ e (λz=>nomatch z) h
 |@ins a C dx fs ea cl ha hn htk hm =>cases (show u=Value.ref a from rx);obtain⟨mA,O,_⟩:=IU I.aI ea;obtain⟨od,J,_⟩:=O.look;exact wq (PySem.W.kitx_own (cl.get _) cl.hd ha hn htk hm) I.iA J e (λz=>nomatch z) h
end
structure gp(k:Nat)(A:e7):Prop where
 hd:A.handled=none
 dp:A.depth+3*k+5<recursionLimit
 un:A.units+16*k+200<gV
def gp.mono(r:gp k A)(h:j<=k):gp j A:=⟨r.hd,by have:=r.dp;lia,by have:=r.un;lia⟩
def gp.deeper(r:gp (k+1) A)(env:Env):gp k (A.deeper env) :=
 ⟨r.hd,by have:=r.dp;show A.depth+1+3*k+5<_;lia,by have:=r.un;show A.units+3+16*k+200<_;lia⟩
def fL' {A:e7} {C:ag} {us:List ah} {kw:List (Str × ah)}:(A.under (.builtin "type.__call__" ⟨.ref C :: us,kw⟩)).depth=A.depth+1:=by first|rfl|simp[Around.under,Code.weight,Code.isCreation,Code.isGuard,Code.isCaller,Code.frames,Code.isFrame,guardIds]
def fM' {A:e7} {C:ag} {us:List ah} {kw:List (Str × ah)}:(A.under (.builtin "type.__call__" ⟨.ref C :: us,kw⟩)).units=A.units+1:=by first|rfl|simp[Around.under,Code.cUnits,Code.frames,Code.isFrame]
def gp.make (r:gp (k+1) A) (C:ag) (us:List ah) (kw:List (Str × ah)):gp k (A.under (.builtin "type.__call__" ⟨.ref C :: us,kw⟩)) :=
 ⟨r.hd,by have:=r.dp;rw[fL'];lia,by have:=r.un;rw[fM'];lia⟩
def gp.depth(r:gp k A):A.depth<recursionLimit:=by have:=r.dp;lia
def gp.units(r:gp k A):A.units+64<gV:=by have:=r.un;lia
def MX:TA:=λ_ H Q=>Q [] H
def TF(ta:TE)(tr:TA):TA:=λσ H Q=>ta σ H λx H1=>tr σ H1 λxs H2=>Q (x :: xs) H2
section
variable {X:Cx}{e:Expr}{es:List Expr}{te:TE}{t:TA}{pos:Pos}
def k7:PA X [] MX:=λ_ _ _ _ H Q I h=>Calls.spliced_nil ⟨[],H,I,.nil,h⟩
def kf(ha:PE X e te)(hr:PA X es t)(hs:autoParam (bE (e :: es) X.env=(false,b4 e X.env) :: bE es X.env) bv):PA X (e :: es) (TF te t):=by intro pos pins s σ H Q I h;rw[hs];refine Calls.spliced_cons (cv (ha pins s σ H _ I h) λu s1 ck=>L2.eR ck λx H1 I1 r1 q1=>?_);exact cv (hr pos pins s1 σ H1 _ I1 q1) λus s2 ck=>L2.eR ck λxs H2 I2 r2 q2=>⟨x :: xs,H2,I2,.cons r1 r2,q2⟩
def fN'(t:TA):TE:=λσ H Q=>t σ H λxs H1=>xs.length<=bI/\∀ p,H1 p=none->Q (.ref p) (upd H1 p (.tup xs))
def aB'(t:TA):TE:=λσ H Q=>t σ H λxs H1=>xs.length<=bI/\∀ p,H1 p=none->Q (.ref p) (upd H1 p (.lst xs))
def TH{x1}(h:PA X es t):PE X (.Tuple es x1 pos) (fN' t):=by intro pins s σ H Q I hq;refine wpAny_Tuple_spliced (cv (h pos pins s σ H _ I hq) λus s1 ⟨xs,H1,I1,r,z,q⟩=>⟨by rw[<- r.length];exact z,?_⟩);have hf:H1 s1.heap.objs.size=none:=I1.aI.fresh (cx _);refine⟨.ref s1.heap.objs.size,upd H1 s1.heap.objs.size (.tup xs),I1.laid (λb u e=>i3 _ e) (cx _) ?_,rfl,q _ hf⟩;exact⟨z,us,r,⟨_,nL _ rfl,rfl,_,rfl⟩⟩
def VZ(h:PA X es t):PE X (.List es pos) (aB' t):=by intro pins s σ H Q I hq;refine wpAny_List_spliced (cv (h pos pins s σ H _ I hq) λus s1 ⟨xs,H1,I1,r,z,q⟩=>⟨by rw[<- r.length];exact z,?_⟩);have hf:H1 s1.heap.objs.size=none:=I1.aI.fresh (cx _);refine⟨.ref s1.heap.objs.size,upd H1 s1.heap.objs.size (.lst xs),I1.laid (λb u e=>i3 _ e) (cx _) ?_,rfl,q _ hf⟩;exact⟨z,us,0,r,nL _ rfl⟩
end
abbrev Sp:=List V->Hp->VK->XK->Prop
abbrev D4:=List Env->Hp->aC->XK->ah->aC->Prop
structure IX(P:b9)(w:cy)(K:ax)(mg:Str->Option ah)(base:c9)(A:e7)(outer:List Env)(s:aC)(H:Hp):Prop where
 frames:A.frames=some outer
 mod:Mod K mg base
 bs:∀ b o,base.get? b=some o->s.heap.get? b=some o/\H b=none
 xa:base.objs.size<=s.heap.objs.size
 sL:s.heap.FunFrames base outer
 zD:∀ b∈gE outer,H b=none
 aI:hU P w H s.heap
 bare:AllBare s.gens
def CE(outer:List Env)(P:b9)(w:cy)(H:Hp)(s:aC)(Q:VK)(u:ah)(s':aC):Prop :=
 ∃ v H',s'.os=s.os/\AllBare s'.gens/\Un (gE outer) [] H H' s.heap s'.heap/\hU P w H' s'.heap/\RelV v u/\Q v H'
def CR(CX:D4)(outer:List Env)(P:b9)(w:cy)(H:Hp)(s:aC)(Q:VK)(E:XK)(r:Result)(s':aC):Prop :=
 match r with
 |.ok (.ret u)=>CE outer P w H s Q u s'
 |.ok _=>False
 |.error e=>CX outer H s E e s'
structure ja(P:b9)(w:cy)(K:ax)(mg:Str->Option ah)(base:c9)(CX:D4)(k:Nat)(f:ag)(fd:nK)(ps:List Str)(sp:Sp):Prop where
 len:∀ vs H Q E,sp vs H Q E->vs.length=ps.length
 run:∀ (A:e7) (outer:List Env) (s:aC) (H:Hp) (args:Args) (us:List ah) (vs:List V) (Q:VK) (E:XK),gp k A->IX P w K mg base A outer s H->BindsTo s fd args (ps.zip us)->Vals vs us->sp vs H Q E ->
  codeAny (aT P w) A (.call (.ref f) args) (CR CX outer P w H s Q E) s
def ja.mono{P:b9}{K:ax}{ps:List Str}(F:ja P w K mg base CX j f fd ps sp)(h:j<=k) :
  ja P w K mg base CX k f fd ps sp:=⟨F.len,λA outer s H args us vs Q E hr=>F.run A outer s H args us vs Q E (hr.mono h)⟩
def IX.make{P:b9}{K:ax}(e:IX P w K mg base A outer s H)(C:ag)(us:List ah)(kw:List (Str × ah)) :
  IX P w K mg base (A.under (.builtin "type.__call__" ⟨.ref C :: us,kw⟩)) outer s H:=⟨by first|exact e.frames|(simpa[Around.under,Code.envs,Code.isFrame,pushEnvs] using e.frames),e.mod,e.bs,e.xa,e.sL,e.zD,e.aI,e.bare⟩
section
variable {X:Cx}{pins:List (ag × Obj)}{σ:St}{H:Hp}{s s':aC}
def Inv.aC'(I:Inv X pins σ H s):IX X.prog X.w X.K X.mg X.base X.A X.stack s H :=
 ⟨I.ok.frames,I.ok.mod,I.bs,iO I.ok.xa I.sz,I.stack,I.Vz,I.aI,I.bare⟩
def Inv.after(I:Inv X pins σ H s)(h:CE X.stack X.prog X.w H s Q u s'):EP X pins σ Q u s':=by obtain⟨v,H',os,bare,un,aI,r,q⟩:=h;obtain⟨hh,g,d,t,V0⟩:=s';obtain rfl:V0=s.os:=os;exact⟨v,H',I.call un aI bare (λb z=>absurd z (by simp)),r,q⟩
end
def Rh(sp:Sp)(pV:List V)(E:XK)(t:TA):TE:=λσ H Q=>t σ H λvs H1=>sp (vs++pV) H1 Q E
def fO'(C:ag)(m:Str)(sp:Sp)(pV:List V)(E:XK)(ta:TE)(t:TA):TE:=λσ H Q=>ta σ H λx H1=>∃ a dx fs,x=.ref a/\H1 a=some (.ins C dx fs)/\fs.lookup m=none /\
 t σ H1 λvs H2=>sp (x :: (vs++pV)) H2 Q E
def fP'(C:ag)(sp:Sp)(pV:List V)(E:XK)(t:TA):TE:=λσ H Q=>t σ H λvs H1=>∀ x dx,H1 x=none->H1 dx=none->dx≠x ->
 sp (.ref x :: (vs++pV)) (upd (upd H1 dx (.own x)) x (.ins C dx [])) (λv H2=>v=.non/\Q (.ref x) H2) E
def Binds(K:ax)(fd:nK)(ps:List Str)(ds:List ah):Prop :=
 ∀ (s:aC) (us:List ah),K.In s.heap->(us++ds).length=ps.length->BindsTo s fd ⟨us,[]⟩ (ps.zip (us++ds))
def Binds.all{K:ax}{ps:List Str}(h:∀ us:List ah,us.length=ps.length->bindArgs fd ⟨us,[]⟩=pure (ps.zip us)):Binds K fd ps []:=λs us _ hl=>by rw[kE] at hl ⊢;exact .of_eq (h us hl)
def Passes(CX:D4)(X:Cx)(E:XK):Prop:=∀ (pins:List (ag × Obj)) (σ:St) (H:Hp) (s:aC) (e:ah) (s':aC),Inv X pins σ H s->CX X.stack H s E e s'->X.xe e s'
section
variable {X:Cx}{CX:D4}{k:Nat}{f C:ag}{fd:nK}{ps:List Str}{sp:Sp}{pV:List V}{ds:List ah}{E:XK}{x m:Str}{p pos apos:Pos}{e o:Expr}{es:List Expr}{ta:TE}{t:TA}
def aD'(F:ja X.prog X.w X.K X.mg X.base CX k f fd ps sp)(hr:gp k X.A)(hb:Binds X.K fd ps ds)(hd:Vals pV ds)(hx:Passes CX X E)(I:Inv X pins σ H s) (r:Vals vs us) (h:sp (vs++pV) H Q E):b5 (aT X.prog X.w) X.A (call (.ref f) us) (EP X pins σ Q) X.xe s:=by
 have r2:Vals (vs++pV) (us++ds):=r.append hd;have hl:(us++ds).length=ps.length:=by rw[<- r2.length];exact F.len _ _ _ _ h
 refine wpAny_call (codeAny_mono (F.run X.A X.stack s H ⟨us,[]⟩ (us++ds) (vs++pV) Q E hr I.aC' (hb s us I.iA hl) r2 h) λr s' hq=>?_)
 cases r with
 |error e=>exact hx pins σ H s e s' I hq
 |ok fl =>
  cases fl with
  |ret u=>exact I.after hq
  |next=>exact False.elim hq
  |brk=>exact False.elim hq
  |cont=>exact False.elim hq
def V1(F:ja X.prog X.w X.K X.mg X.base CX k f fd ps sp)(hr:gp k X.A)(hg:Gl X x)(hm:X.mg x=some (.ref f))(hk:tJ X.K (.ref f)=true)(hb:Binds X.K fd ps ds)(hd:Vals pV ds)(hx:Passes CX X E)(ha:PA X (e :: es) t) (jv:(x == ("__debug__" : Str))=false:=by decide) (he:autoParam (bE (e :: es) X.env=(false,b4 e X.env) :: bE es X.env) bv) (i7:autoParam ((gy pos (bE es X.env)).any (·.1)=false) bv) :
  PE X (.Call (.Name x p) (e :: es) [] pos) (Rh sp pV E t):=by
 intro pins s σ H Q I h;refine Sw (MB I hg hm ?_ jv);refine PySem.W.callWith_K I.ok.mod.Q5 hk (cv (ha pos pins s σ H _ I h) λus s1 ck=>L2.eR ck λvs H1 I1 r q=>⟨I1.iA,?_⟩) he i7;exact aD' F hr hb hd hx I1 r q
def aE'(he:PE X o ta)(c:tP X.K C)(hm:Meth X.K C m f)(F:ja X.prog X.w X.K X.mg X.base CX k f fd ps sp)(hr:gp k X.A)(hb:Binds X.K fd ps ds)(hd:Vals pV ds)(hx:Passes CX X E)(ha:PA X (e :: es) t)(rq:autoParam (bE (e :: es) X.env=(false,b4 e X.env) :: bE es X.env) bv) (i7:autoParam ((gy pos (bE es X.env)).any (·.1)=false) bv) (ht:autoParam (b4 (.Call (.Attribute o m apos) (e :: es) [] pos) X.env=(do
   let ov ← eval o X.env
   standAt apos.atName
   let (f,first) ← holding [ov] (getMethod ov m pl)
   callWith pos f first (gy pos (bE (e :: es) X.env)) (zk pos (zi [] X.env)))) bv) :
  PE X (.Call (.Attribute o m apos) (e :: es) [] pos) (fO' C m sp pV E ta t):=by
 intro pins s σ H Q I h;refine PySem.W.methodCall_KW (cv (he pins s σ H _ I h) λu s1 dP=>?_) ht;obtain⟨x,H1,I1,rx,a,dx,fs,ex,ea,l,q⟩:=dP;subst ex;obtain rfl:u=Value.ref a:=rx;refine fI' I1 ea c hm l ?_;refine PySem.W.callWith_K I.ok.mod.Q5 hm.kp (cv (ha pos pins s1 σ H1 _ I1 q) λus s2 ck=>L2.eR ck λvs H2 I2 r q2=>⟨I2.iA,?_⟩) rq i7;exact aD' (vs:=.ref a :: vs) F hr hb hd hx I2 (.cons rfl r) q2
structure Mk(K:ax)(C f:ag):Prop where
 makes:Vb K C=true
 init:ng K (.ref C) "__init__" = some (some (.ref f))
 fn:HC K (.ref f)=true
 kp:tJ K (.ref C)=true
def fQ'(M:Mk X.K C f)(F:ja X.prog X.w X.K X.mg X.base CX k f fd ps sp)(hr:gp (k+1) X.A)(hb:Binds X.K fd ps ds)(hd:Vals pV ds)(hx:Passes CX X E) (I:Inv X pins σ H s) (r:Vals vs us)(h:∀ x dx,H x=none->H dx=none->dx≠x->sp (.ref x :: (vs++pV)) (upd (upd H dx (.own x)) x (.ins C dx [])) (λv H2=>v=.non/\Q (.ref x) H2) E) :
  b5 (aT X.prog X.w) X.A (call (.ref C) us) (EP X pins σ Q) X.xe s:=by
 have hq:=h (s.heap.objs.size+1) s.heap.objs.size (I.aI.fresh (Nat.le_succ _)) (I.aI.fresh (cx _)) (j3 (Nat.lt_succ_self _));have I2:=Inv.made (C:=C) I;have r2:Vals (V.ref (s.heap.objs.size+1) :: (vs++pV)) (Value.ref (s.heap.objs.size+1) :: (us++ds)):=.cons rfl (r.append hd);have hl:(Value.ref (s.heap.objs.size+1) :: us++ds).length=ps.length:=by have e:=r2.length;rw[F.len _ _ _ _ hq] at e;exact e.symm
 refine wpAny_call (fE' I.iA M.makes M.init (beq_iff_eq.mp M.fn) (codeAny_mono (F.run _ X.stack _ _ ⟨Value.ref (s.heap.objs.size+1) :: us,[]⟩ (Value.ref (s.heap.objs.size+1) :: (us++ds)) _ _ E (hr.make C us []) (I2.aC'.make C us []) (hb _ (Value.ref (s.heap.objs.size+1) :: us) I2.iA hl) r2 hq) λr s' IY=>?_))
 cases r with
 |error e=>exact hx pins σ _ _ e s' I2 IY
 |ok fl =>
  cases fl with
  |ret u =>obtain⟨v,H',I3,rv,ev,q3⟩:=I2.after IY;subst ev;exact⟨rv,⟨V.ref (s.heap.objs.size+1),H',I3,rfl,q3⟩⟩
  |next=>exact False.elim IY
  |brk=>exact False.elim IY
  |cont=>exact False.elim IY
def fR'(M:Mk X.K C f)(F:ja X.prog X.w X.K X.mg X.base CX k f fd ps sp)(hr:gp (k+1) X.A)(hg:Gl X x)(hm:X.mg x=some (.ref C))(hb:Binds X.K fd ps ds)(hd:Vals pV ds)(hx:Passes CX X E)(jv:(x == ("__debug__" : Str))=false:=by decide):PE X (.Call (.Name x p) [] [] pos) (fP' C sp pV E MX):=by
 intro pins s σ H Q I h;refine Sw (MB I hg hm ?_ jv);exact PySem.W.callWith_K0 I.iA M.kp (fQ' M F hr hb hd hx I .nil h)
end
structure xi(N P:List Str)(sc:Scope):Prop where
 kind:sc.kind=.function
 co:sc.isCoroutine=false
 gen:sc.isGenerator=false
 nd:N.Nodup
 pre:N.take P.length=P
 par:∀ x∈P,sc.names.lookup x=some .local\/sc.names.lookup x=some .cell
 fS':∀ y∈sc.names,y.2≠.free
theorem aF'{fq:Str->Option AQ}:∀ {binds:List (Str × ah)} {m:Str->Option ah},(∀ v,(x,v)∉binds)->bindL fq binds m x=m x
 |[],_,_=>rfl
 | (n,v) :: r,m,h=>by
  unfold bindL;rw[aF' λw hw=>h w (eA _ hw)];split
  ·have:x≠n:=by rintro rfl;exact h v fo
   simp[this]
  ·rfl
theorem aG'{fq:Str->Option AQ}:∀ {binds:List (Str × ah)} {m:Str->Option ah},(∀ v,(x,v)∉binds)->bindC fq binds m x=m x
 |[],_,_=>rfl
 | (n,v) :: r,m,h=>by
  unfold bindC;rw[aG' λw hw=>h w (eA _ hw)];split
  ·rfl
  ·have:x≠n:=by rintro rfl;exact h v fo
   simp[this]
def aH'{fq:Str->Option AQ}:∀ {P:List Str} {vs:List ah} {i:Nat} {m:Str->Option ah},P.Nodup->P[i]? = some x->vs[i]? = some v->fq x=some .local ->
  bindL fq (P.zip vs) m x=some v
 |[],_,_,_,_,h,_,_=>by simp at h
 |_ :: _,[],_,_,_,_,h,_=>by simp at h
 |p :: P,w :: vs,0,m,nd,h1,h2,hk=>by simp at h1 h2;subst h1;subst h2;show bindL fq ((p,w) :: P.zip vs) m p=_;unfold bindL;rw[aF' λv hv=>(sv.mp nd).1 (List.of_mem_zip hv).1,if_pos hk];simp
 |p :: P,w :: vs,i+1,m,nd,h1,h2,hk=>by unfold bindL;exact aH' (sv.mp nd).2 (by simpa using h1) (by simpa using h2) hk
def aI'{fq:Str->Option AQ}:∀ {P:List Str} {vs:List ah} {i:Nat} {m:Str->Option ah},P.Nodup->P[i]? = some x->vs[i]? = some v->fq x≠some .local ->
  bindC fq (P.zip vs) m x=some v
 |[],_,_,_,_,h,_,_=>by simp at h
 |_ :: _,[],_,_,_,_,h,_=>by simp at h
 |p :: P,w :: vs,0,m,nd,h1,h2,hk=>by simp at h1 h2;subst h1;subst h2;show bindC fq ((p,w) :: P.zip vs) m p=_;unfold bindC;rw[aG' λv hv=>(sv.mp nd).1 (List.of_mem_zip hv).1,if_neg hk];simp
 |p :: P,w :: vs,i+1,m,nd,h1,h2,hk=>by unfold bindC;exact aI' (sv.mp nd).2 (by simpa using h1) (by simpa using h2) hk
def start(N:List Str)(vs:List V):St:=vs.map some++List.replicate (N.length-vs.length) none
def lT(CX:D4)(P:b9)(w:cy)(K:ax)(mg:Str->Option ah)(base:c9)(N:List Str)(qual:Str)(scope:Scope)(f:ag)(cd:ah)(A:e7)(outer:List Env)(s:aC)(H:Hp)(E:XK):Cx where
 prog:=P
 w:=w
 K:=K
 mg:=mg
 base:=base
 A:=A.deeper (ki qual scope s.heap.objs.size f cd)
 N:=N
 fT:=s
 DV:=H
 env:=ki qual scope s.heap.objs.size f cd
 outer:=outer
 stack:=ki qual scope s.heap.objs.size f cd :: outer
 ex:=[]
 calm:=true
 fn:=λ_=>true
 pn:=[]
 xe:=λe s'=>b5 (aT P w) (A.deeper (ki qual scope s.heap.objs.size f cd)) (leaving (ki qual scope s.heap.objs.size f cd) e) (λ_ V2=>CX outer H s E e V2) (λe' V2=>CX outer H s E e' V2) s'
def aJ'{sc:Scope}{n:Nat}{x:Str}(h:sc.names.lookup x=some .cell):∃ c,(cellsFrom n sc.names []).lookup x=some c:=by have q:=PySem.W.cellsFrom_some sc.names n [] (.inl h);exact Vr.mp q
def fT'{CX:D4}{P:b9}{w:cy}{K:ax}{mg:Str->Option ah}{base:c9}{N ps:List Str}{qual:Str}{scope:Scope}{f:ag}{cd:ah}{A:e7}{outer:List Env}{s s1:aC}{H:Hp}{E:XK}{us:List ah}{vs:List V}(S:xi N ps scope) (hd:A.handled=none) (e0:IX P w K mg base A outer s H) (hl:vs.length=ps.length) (r:Vals vs us)(x:InCallC s s.heap.objs.size (bindL (ki qual scope s.heap.objs.size f cd).kindOf (ps.zip us) λ_=>none) (cellsFrom (s.heap.objs.size+1) scope.names []) (bindC (ki qual scope s.heap.objs.size f cd).kindOf (ps.zip us) λ_=>none) s1) :
  Inv (lT CX P w K mg base N qual scope f cd A outer s H E) [] (start N vs) H s1:=by
 have i7:ps.length<=N.length:=by have:=congrArg List.length S.pre;rw[mw] at this;lia
 obtain⟨h1,tk,rfl,hk⟩:=x.done;have Ri:∀ b:ag,b∉(lT CX P w K mg base N qual scope f cd A outer s H E).ex:=λb z=>absurd (show b∈([]:List ag) from z) (by simp);refine⟨⟨e0.mod,S.kind,rfl,rfl,cx _,λy z c h1 h2=>?_,λy hy=>?_,λy c _ h=>?_,λ_=>hd,Around.frames_deeper e0.frames,.inr ⟨rfl,rfl⟩,λb z=>absurd z (Ri b),e0.bs,e0.xa,λb _ _=>Ri b,λb z=>absurd z (Ri b),e0.sL,e0.zD⟩,
  rfl,e0.bare,Un.kept hk,⟨_,x.toInCall.ns,λi y v h1 h2 h3=>?_⟩,λy c h=>⟨_,x.cell y c h⟩,e0.aI.fresh (cx _),λy c h=>?_,λp hp=>absurd (show p∈([]:List (ag × Obj)) from hp) (by simp),e0.aI.kept hk,?_⟩
 ·exact name_of_addr x.apart (PySem.mem_of_lookup h1) (PySem.mem_of_lookup h2)
 ·have hy:scope.names.lookup y=some .cell\/scope.names.lookup y=some .free:=hy;rcases hy with hy|hy
  ·exact aJ' hy
  ·exact absurd rfl (S.fS' _ (PySem.mem_of_lookup hy))
 ·exact Iq (x.above y c (PySem.mem_of_lookup h))
 ·have hi:i<vs.length:=by
   unfold start at h2;by_cases hi:i<vs.length
   ·exact hi
   ·rw[DF (by simpa using hi)] at h2;rw[Vf] at h2;split at h2<;>cases h2
  have ha:vs[i]? = some v:=by
   unfold start at h2;rw[HM (by simpa using hi),mr] at h2
   cases e:vs[i]? with
   |none=>rw[e] at h2;cases h2
   |some a=>rw[e] at h2;cases h2;rfl
  obtain⟨u,hu,rv⟩:=r.get ha;have hp:ps[i]? = some y:=by rw[<- S.pre,List.getElem?_take_of_lt (by lia)];exact h1
  have ndP:ps.Nodup:=by rw[<- S.pre];exact S.nd.sublist (List.take_sublist _ _)
  refine⟨u,rv,?_⟩;rcases S.par y (rg hp) with k|k
  ·exact .inl ⟨k,aH' ndP hp hu k⟩
  ·obtain⟨c,e⟩:=aJ' k;refine .inr ⟨.inl k,c,e,?_⟩;have q:=x.cell y c e;rw[aI' ndP hp hu (by show scope.names.lookup y≠_;rw[k];decide)] at q;exact q
 ·exact e0.aI.fresh (Iq (x.above y c (PySem.mem_of_lookup h)))
 ·unfold start;show _=N.length;rw[hJ,dr,L6];lia
def V3{P:b9}{K:ax}{dV kV doc pm cK ct oc:ah}{N ps:List Str} (lk:K.lookup f=some ⟨oc,od,.func (pj name qual params body scope dV kV doc pm an cK ct),z5⟩) (pS:BE K cK qual=true) (S:xi N ps scope)(len:∀ vs H Q E,sp vs H Q E->vs.length=ps.length)(vx:∀ (A:e7) (outer:List Env) (s:aC) (H:Hp) (vs:List V) (Q:VK) (E:XK),gp k (A.deeper (ki qual scope s.heap.objs.size f cK))->sp vs H Q E ->
   ∃ t,lP (lT CX P w K mg base N qual scope f cK A outer s H E) body t/\t { nx:=λ_ H'=>Q .non H',rt:=Q } (start N vs) H) :
  ja P w K mg base CX (k+1) f (pj name qual params body scope dV kV doc pm an cK ct) ps sp:=by
 refine⟨len,λA outer s H args us vs Q E hr e0 hb r An=>?_⟩;have hl:=len _ _ _ _ An;have KX:K.In s.heap:=e0.mod.Q5.keeps λb o e=>(e0.bs b o e).1;have lim:s.heap.NoLimit:=e0.mod.nolimit.keeps λb o e=>(e0.bs b o e).1;have fU':∀ y∈ps.zip us,scope.names.lookup y.1=some .local\/(scope.names.lookup y.1=some .cell/\((cellsFrom (s.heap.objs.size+1) scope.names []).lookup y.1).isSome=true):=λ⟨n,v⟩ hy=>by
  rcases S.par n (List.of_mem_zip hy).1 with q|q
  ·exact .inl q
  ·exact .inr ⟨q,PySem.W.cellsFrom_some _ _ _ (.inl q)⟩
 refine codeAny_call_function hr.depth (KX _ _ lk) rfl S.co S.gen rfl (PySem.W.codeRec_of KX pS) (hb _ _ _ _ ?_);refine wpAny_newFunctionEnv_cells S.kind fU' λenv he s1 x=>?_;subst he;refine⟨lim.keeps x.toInCall.keep,codeAny_func ?_⟩;obtain⟨t,ht,hq⟩:=vx A outer s H vs Q E (hr.deeper _) An;have I:Inv (lT CX P w K mg base N qual scope f cK A outer s H E) [] (start N vs) H s1:=fT' S hr.hd e0 hl r x;refine sq (ht [] s1 (start N vs) H _ I hq) (λfl s' hs=>?_) λe s' hs=>hs;have fin:∀ {bX:St} {H':Hp} {v:V} {u:ah},Inv (lT CX P w K mg base N qual scope f cK A outer s H E) [] bX H' s'->RelV v u->Q v H'->CE outer P w H s Q u s' :=
  λ{bX H' v u} J rv q=>⟨v,H',J.os,J.bare,J.base,J.aI,rv,q⟩
 cases fl with
 |ret u =>obtain⟨v,bX,H',J,rv,q⟩:=hs;exact fin J rv q
 |next =>obtain⟨bX,H',J,q⟩:=hs;exact fin (v:=V.non) J rfl q
 |brk =>obtain⟨_,_,_,q⟩:=hs;exact False.elim q
 |cont =>obtain⟨_,_,_,q⟩:=hs;exact False.elim q
section
variable {X:Cx}{x:Str}{p pos:Pos}{e:Expr}{es:List Expr}{t:TA}{id T:String}{r:List V->Hp->VK->Prop}
def TJ(r:List V->Hp->VK->Prop)(t:TA):TE:=λσ H Q=>t σ H λvs H1=>r vs H1 Q
def Rj (hc:nv X (.builtin id) r) (hg:Gl X x) (hm:X.mg x=none) (hv:og x=some (.builtin id)) (ha:PA X (e :: es) t) (hn:x ≠ "__name__" := by decide) (jv:(x == ("__debug__" : Str))=false:=by decide) (he:autoParam (bE (e :: es) X.env=(false,b4 e X.env) :: bE es X.env) bv) (i7:autoParam ((gy pos (bE es X.env)).any (·.1)=false) bv):PE X (.Call (.Name x p) (e :: es) [] pos) (TJ r t):=by
 intro pins s σ H Q I h;refine Sw (Fc I hg hm hv ?_ hn jv);exact PyProof.Rows.callWith_builtin1 (cv (ha pos pins s σ H _ I h) λus s1 ck=>L2.eR ck λvs H1 I1 r1 q1=>hc pins s1 σ H1 vs us Q I1 r1 q1) he i7
def fV' (hc:nv X (.type T) r) (hg:Gl X x) (hm:X.mg x=none) (hv:og x=some (.type T)) (ha:PA X (e :: es) t) (hn:x ≠ "__name__" := by decide) (jv:(x == ("__debug__" : Str))=false:=by decide) (he:autoParam (bE (e :: es) X.env=(false,b4 e X.env) :: bE es X.env) bv) (i7:autoParam ((gy pos (bE es X.env)).any (·.1)=false) bv):PE X (.Call (.Name x p) (e :: es) [] pos) (TJ r t):=by
 intro pins s σ H Q I h;refine Sw (Fc I hg hm hv ?_ hn jv);exact PyProof.Rows.callWith_type1 (cv (ha pos pins s σ H _ I h) λus s1 ck=>L2.eR ck λvs H1 I1 r1 q1=>hc pins s1 σ H1 vs us Q I1 r1 q1) he i7
end
end L2
end
namespace HT
open PySem PyProof.Rows
section
open PySem.SeqAt
open PySem.AutoSeq1 (wpAny_loadPart')
open PySem.MeetsSeq PySem.MeetsSeq2 PySem.MeetsSeq3
end
section
variable {prog:b9}{w:cy}{A:e7}{E:ah->aC->Prop}{s:aC}
def fW'(ht:IsTup s.heap t vs.toArray)(hb:IsTup s.heap b ws.toArray)(hv:vs≠[])(h1:ws=[]->Q (.ref t) s) (h2:ws≠[]->Q (.ref s.heap.objs.size) { s with heap:=s.heap.push { cls:=.type "tuple",data:=.seq (vs++ws).toArray } }) (hZ:vs.length+ws.length<=bI):b5 (aT prog w) A (oj .Add (.ref t) (.ref b)) Q E s:=by
 obtain⟨⟨cls,dd,data,sl⟩,ho,hc,n,hd⟩:=id ht;obtain⟨⟨fX',TK,data2,TL⟩,IZ,V4,n2,hd2⟩:=id hb;subst hc hd V4 hd2;have e:vs.toArray++ws.toArray=(vs++ws).toArray:=by simp
 by_cases hw:ws=[]
 ·exact concat_meets ⟨_,ho,rfl⟩ ⟨_,IZ,rfl⟩ noFill_tuple_add seq_tuple_add PySem.F.slot_tuple_add PySem.F.entry_tuple_add (PySem.F.args_tuple_add_2 _ _) (tuple_addW1 t b vs.toArray ws.toArray n n2 dd TK sl TL (by simpa using hv) (by simp[hw])) ⟨ho,IZ,h1 hw⟩
 ·refine concat_meets ⟨_,ho,rfl⟩ ⟨_,IZ,rfl⟩ noFill_tuple_add seq_tuple_add PySem.F.slot_tuple_add PySem.F.entry_tuple_add (PySem.F.args_tuple_add_2 _ _) (tuple_addW2 t b vs.toArray ws.toArray n n2 dd TK sl TL (by simpa using hv) (by simpa using hw) (by rw[jS,jS];exact hZ)) ⟨ho,IZ,?_⟩
  rw[e];exact h2 hw
def cE(n d:Nat):Option Int->Nat
 |none=>d
 |some v=>if v<0 then (v+(n:Int)).toNat else min v.toNat n
def aL'(v:Int)(n d:Nat):(if v<0 then max (v+(n:Int)) 0 else min v (n:Int))=((cE n d (some v):Nat):Int):=by
 show(if v<0 then max (v+n) 0 else min v n)=(((if v<0 then (v+n).toNat else min v.toNat n):Nat):Int)
 by_cases hv:v<0
 ·simp only[if_pos hv];lia
 ·simp only[if_neg hv];lia
def fY'(lo hi:Option Int)(n:Nat):Builtin.Slice.sliceAdjust lo hi 1 (n:Int)=(((cE n 0 lo:Nat):Int),((cE n n hi:Nat):Int)):=by
 refine Prod.ext ?_ ?_
 ·cases lo with
  |none=>rfl
  |some v=>exact aL' v n 0
 ·cases hi with
  |none=>rfl
  |some v=>exact aL' v n n
def fZ'(i j:Nat):Builtin.Slice.slicePlaces (i:Int) (j:Int) 1=j-i:=by unfold Builtin.Slice.slicePlaces;split<;>lia
def aM'(p:IsPart v o)(h:Q o s):b5 (aT prog w) A (Builtin.Slice.slicePartIndex v) Q E s:=by
 cases p with
 |none=>exact slicePart_none h
 |int i t=>exact slicePart_int h
def ga'{sl:ag}{vl vu:ah}{lo hi:Option Int}{n:Nat}{Q:Int × Int × Nat->aC->Prop}(hs:s.heap.IsSliceOf sl vl vu .none)(pl:IsPart vl lo)(pu:IsPart vu hi)(h:Q (((cE n 0 lo:Nat):Int),1,cE n n hi-cE n 0 lo) s):b5 (aT prog w) A (Builtin.Slice.sliceApplied (.ref sl) (pure (n:Int))) Q E s:=by
 obtain⟨os,Rk,Ap,TN⟩:=id hs;refine bS (bS (wpAny_field Rk TN rfl (bS (wpAny_field Rk TN rfl (bS (wpAny_field Rk TN rfl (dk ?_)))))));refine bS (slicePart_none ?_);refine bS (aM' pl (bS (aM' pu (bS (dk ?_)))));show b5 _ _ (match Builtin.Slice.sliceAdjust lo hi 1 n with|(lo,hi)=>pure (lo,(1:Int),Builtin.Slice.slicePlaces lo hi 1)) _ _ s;rw[fY' lo hi n];show b5 _ _ (pure (((cE n 0 lo:Nat):Int),1,Builtin.Slice.slicePlaces ((cE n 0 lo:Nat):Int) ((cE n n hi:Nat):Int) 1)) _ _ s;rw[fZ'];exact dk h
def gb'(xs:Array ah)(i k:Nat):((List.range k).filterMap λ(m:Nat)=>xs[((i:Int)+(m:Int)*1).toNat]?).toArray=((xs.toList.drop i).take k).toArray:=by
 have e:(λ(m:Nat)=>xs[(i+(m:Int)*1).toNat]?)=λm=>xs[i+m]? := by
  funext m;have:(i+(m:Int)*1).toNat=i+m:=by lia
  rw[this]
 rw[e];have:=pick_run xs i k;rw[List.filterMap_map] at this;have e2:((λx=>xs[x]?) ∘ λx=>i+x)=λm=>xs[i+m]? := rfl;rw[e2] at this;rw[this]
def gc'{lo hi:Option Int}(ht:IsTup s.heap t items)(hs:s.heap.IsSliceOf sl vl vu .none)(pl:IsPart vl lo)(pu:IsPart vu hi)(hw:¬ (cE items.size 0 lo=0/\cE items.size items.size hi=items.size))(h:Q (.ref s.heap.objs.size) { s with heap:=s.heap.push { cls:=.type "tuple",data:=.seq ((items.toList.drop (cE items.size 0 lo)).take (cE items.size items.size hi-cE items.size 0 lo)).toArray } }) (hZ:items.size<=bI):b5 (aT prog w) A (getItem (.ref t) (.ref sl)) Q E s:=by
 have TQ:sizeOk (.seq ((items.toList.drop (cE items.size 0 lo)).take (cE items.size items.size hi-cE items.size 0 lo)).toArray):=by show((items.toList.drop (cE items.size 0 lo)).take (cE items.size items.size hi-cE items.size 0 lo)).toArray.size<=bI;rw[jS,mw,BI,zv];lia
 obtain⟨os,Rk,Ap,TN⟩:=id hs;have hTs:s.TypeIs (.ref sl) "slice" := ⟨os,Rk,Ap⟩
 unfold getItem;try with_reducible refine wpAny_holding ?_
 first|refine bS (dk ?_)|skip
 refine bS (wpAny_sequenceKey ht.typeIs (by decide) ?_);refine bS (Sv ht.typeIs PyProof.Rows.slot_tuple_getitem (PD PyProof.Rows.slot_tuple_getitem ht.typeIs entry_tuple_getitem ?_ (args_tuple_getitem _ _)))
 show b5 _ _ (Builtin.Tuple.tupleItemsOf (.ref t) >>= _) _ _ s;refine bS (tupleItemsOf_ ht ?_);refine bS (wpAny_typeOf hTs ?_);refine bS (ga' hs pl pu ?_);have hno:¬ ((((cE items.size 0 lo:Nat):Int) == 0 && (1:Int) == 1 && (cE items.size items.size hi-cE items.size 0 lo) == items.size)=true):=by intro q;rw[kM,kM] at q;have q1:((cE items.size 0 lo:Nat):Int)=0:=eq_of_beq q.1.1;have q2:cE items.size items.size hi-cE items.size 0 lo=items.size:=eq_of_beq q.2;exact hw ⟨by lia,by lia⟩
 show b5 _ _ (if (((cE items.size 0 lo:Nat):Int) == 0 && 1 == 1 && (cE items.size items.size hi-cE items.size 0 lo) == items.size)=true then _ else _) _ _ s;rw[if_neg hno,gb'];first
  |exact bS (DB (dk ⟨_,rfl,dk h⟩) TQ)
  |exact bS (DB (bS (dk (dk ⟨_,rfl,dk h⟩))) TQ)
  |exact bS (bS (DB (dk (dk ⟨_,rfl,dk h⟩)) TQ))
  |exact bS (bS (DB (dk ⟨_,rfl,dk h⟩) TQ))
end
end HT
section
open PySem PySem.Spec PyProof.Rows
namespace L2
abbrev TO:=St->Hp->(Option Int->Hp->Prop)->Prop
def PO(X:Cx)(e:Option Expr)(t:TO):Prop :=
 ∀ (pins:List (ag × Obj)) (s:aC) (σ:St) (H:Hp) (Q:Option Int->Hp->Prop),Inv X pins σ H s->t σ H Q ->
  b5 (aT X.prog X.w) X.A (evalPart e X.env) (λu s'=>∃ o H',Inv X pins σ H' s'/\IsPart u o/\Q o H') X.xe s
def gf':TO:=λ_ H Q=>Q none H
def gg'(t:TE):TO:=λσ H Q=>t σ H λx H1=>∃ i,x=.int i/\Q (some i) H1
section
variable {X:Cx}{e:Expr}{te:TE}{lo hi:Option Expr}{tl th:TO}{pos p2:Pos}
def gh':PO X none gf':=by intro pins s σ H Q I h;exact dk ⟨none,H,I,.none,h⟩
def gi'(h:PE X e te):PO X (some e) (gg' te):=by intro pins s σ H Q I hw;refine cv (h pins s σ H _ I hw) λu s1 ck=>L2.eR ck λx H1 I1 r1 q1=>?_;obtain⟨i,rfl,q⟩:=q1;obtain⟨t,rfl⟩:=r1;exact⟨some i,H1,I1,.int i t,q⟩
def MY(X:Cx)(r:V->Option Int->Option Int->Hp->VK->Prop):Prop :=
 ∀ (pins:List (ag × Obj)) (s:aC) (σ:St) (H:Hp) (x:V) (v vl vu:ah) (lo hi:Option Int) (sl:ag) (Q:VK),Inv X pins σ H s->RelV x v->s.heap.IsSliceOf sl vl vu .none->IsPart vl lo->IsPart vu hi->r x lo hi H Q ->
  ∃ T id,typeLookup (.type T) "__getitem__" = pure (some (.builtin id))/\s.TypeIs v T/\b5 (aT X.prog X.w) X.A (getItem v (.ref sl)) (EP X pins σ Q) X.xe s
def tSl(r:V->Option Int->Option Int->Hp->VK->Prop)(te:TE)(tl th:TO):TE:=λσ H Q=>te σ H λx H1=>tl σ H1 λl H2=>th σ H2 λu H3=>r x l u H3 Q
def gk'(hr:MY X r)(he:PE X e te)(hl:PO X lo tl)(hu:PO X hi th):PE X (.Subscript e (.Slice lo hi none p2) pos) (tSl r te tl th):=by intro pins s σ H Q I h;refine Subscript_ (cv (he pins s σ H _ I h) λv s1 ck=>L2.eR ck λx H1 I1 r1 q1=>?_);refine wpAny_Slice (cv (hl pins s1 σ H1 _ I1 q1) λvl s2 ck=>L2.eR ck λl H2 I2 pl q2=>cv (hu pins s2 σ H2 _ I2 q2) λvu s3 ck=>L2.eR ck λu H3 I3 pu q3=>?_);refine dk ?_;have I4:Inv X pins σ H3 { s3 with heap:=s3.heap.push { cls:=.type "slice",data:=.fields #[vl,vu,.none] } }:=I3.kept λb ob q=>i3 _ q;obtain⟨T,id,hT,ht,hg⟩:=hr pins { s3 with heap:=s3.heap.push { cls:=.type "slice",data:=.fields #[vl,vu,.none] } } σ H3 x v vl vu l u s3.heap.objs.size Q I4 r1 (Heap.IsSliceOf.new ..) pl pu q3;exact tail_any ht hT hg (by with_unfolding_all rfl)
def I0(xs:List V)(lo hi:Option Int):List V:=(xs.drop (HT.cE xs.length 0 lo)).take (HT.cE xs.length xs.length hi-HT.cE xs.length 0 lo)
def aN'(xs:List V)(lo hi:Option Int):(I0 xs lo hi).length<=xs.length:=by unfold I0;rw[mw,BI];lia
def aO'(K:ax):V->Option Int->Option Int->Hp->VK->Prop:=λx lo hi H Q=>∃ a xs,x=.ref a/\kG K H a xs /\
 ¬ (HT.cE xs.length 0 lo=0/\HT.cE xs.length xs.length hi=xs.length)/\∀ p,H p=none->Q (.ref p) (upd H p (.tup (I0 xs lo hi)))
def gl':MY X (aO' X.K):=by
 intro pins s σ H x v vl vu lo hi sl Q I rx hs pl pu h;obtain⟨a,xs,rfl,hx,hw,q⟩:=h;cases rx;obtain⟨its,r,ht,hz⟩:=I.tuple hx;have hlen:its.toArray.size=xs.length:=by rw[jS];exact r.length.symm
 refine⟨"tuple",_,PyProof.Rows.slot_tuple_getitem.lookup,ht.typeIs,?_⟩;refine HT.gc' ht hs pl pu (by rw[hlen];exact hw) ?_ (by rw[hlen];exact hz);rw[hlen];refine⟨.ref s.heap.objs.size,_,I.laid (λb ob q=>i3 _ q) (cx _) ?_,rfl,q _ (I.aI.fresh (cx _))⟩;exact⟨iO (aN' xs lo hi) hz,_,(r.drop (HT.cE xs.length 0 lo)).take (HT.cE xs.length xs.length hi-HT.cE xs.length 0 lo),IsTup.new _ _⟩
def V5(K:ax):R2:=λx y H Q=>∃ a b xs ys,x=.ref a/\y=.ref b/\kG K H a xs/\kG K H b ys/\xs≠[]/\xs.length+ys.length<=bI /\ (ys=[]->Q (.ref a) H)/\(ys≠[]->∀ p,H p=none->Q (.ref p) (upd H p (.tup (xs++ys))))
def Vals.V6(r:Vals xs us):us=[]↔xs=[]:=by
 cases r with
 |nil=>simp
 |cons _ _=>simp
def gm':dS X (oj .Add) (V5 X.K):=by intro pins s σ H x y v u Q I rx ry h;obtain⟨a,b,xs,ys,rfl,rfl,ha,hb,hx,hz,q1,q2⟩:=h;cases rx;cases ry;obtain⟨its,r1,p1,_⟩:=I.tuple ha;obtain⟨Fn,r2,p2,_⟩:=I.tuple hb;refine HT.fW' p1 p2 (λz=>hx (r1.V6.mp z)) (λz=>⟨.ref a,H,I,rfl,q1 (r2.V6.mp z)⟩) (λz=>?_) (by rw[<- r1.length,<- r2.length];exact hz);refine⟨.ref s.heap.objs.size,_,I.laid (λb ob q=>i3 _ q) (cx _) ?_,rfl,q2 (λw=>z (r2.V6.mpr w)) _ (I.aI.fresh (cx _))⟩;exact⟨by rw[hJ];exact hz,_,r1.append r2,IsTup.new _ _⟩
end
def xk(n:Nat)(i:Int):Option Nat:=if 0<=i then (if i<n then some i.toNat else none) else if -(n:Int)<=i then some (i+n).toNat else none
def fP{α:Type}(xs:List α)(i:Int):Option α:=(xk xs.length i).bind λj=>xs[j]?
def gn'(h:xk n i=some j):seqIndex? i n=some j/\j<n/\-(n:Int)<=i/\i<n:=by
 unfold xk at h;by_cases h0:0<=i
 ·rw[if_pos h0] at h;by_cases h1:i<n
  ·rw[if_pos h1] at h;have e:i.toNat=j:=Option.some.inj h;exact⟨by rw[seqIndex_of h0 h1,e],by lia,by lia,h1⟩
  ·rw[if_neg h1] at h;cases h
 ·rw[if_neg h0] at h;by_cases h1:-n<=i
  ·rw[if_pos h1] at h;have e:(i+n).toNat=j:=Option.some.inj h;exact⟨by rw[seqIndex_neg (by lia) h1,e],by lia,h1,by lia⟩
  ·rw[if_neg h1] at h;cases h
def V7{α:Type}{xs:List α}{i:Int}{v:α}(h:fP xs i=some v):∃ j,seqIndex? i xs.length=some j/\xs[j]? = some v/\j<xs.length/\-(xs.length:Int)<=i/\i<xs.length:=by
 unfold fP at h
 cases e:xk xs.length i with
 |none=>rw[e] at h;cases h
 |some j =>rw[e] at h;obtain⟨h1,h2,h3,h4⟩:=gn' e;exact⟨j,h1,h,h2,h3,h4⟩
def tT{α:Type}{xs:List α}{j:Nat}{v:α}(h:xs[j]? = some v):fP xs (j:Int)=some v:=by
 have hj:j<xs.length:=(nh.mp h).1;have e:xk xs.length j=some j:=by unfold xk;rw[if_pos (by lia),if_pos (by lia)];simp
 unfold fP;rw[e];exact h
def aP'{α:Type}(xs:List α)(v:α):fP (xs++[v]) (-1)=some v:=by
 have hl:(xs++[v]).length=xs.length+1:=by simp
 have e:xk (xs++[v]).length (-1)=some xs.length:=by unfold xk;rw[hl,if_neg (by decide),if_pos (by lia)];congr 1;lia
 unfold fP;rw[e];simp
def TR(b:Expr):Prop:=∀ o i,subscripted b false o i=operate [o,i] (getItem o i)
def x6(X:Cx)(r:R2):Prop :=
 ∀ (value slice:Expr) (pins:List (ag × Obj)) (s:aC) (σ:St) (H:Hp) (x y:V) (v u:ah) (Q:VK),Inv X pins σ H s->RelV x v->RelV y u->r x y H Q ->
  subscripted slice false v u=operate [v,u] (getItem v u)->b5 (aT X.prog X.w) X.A (subscriptTail value slice v u) (EP X pins σ Q) X.xe s
def TV(X:Cx)(id:String)(r:V->List V->Hp->VK->Prop):Prop :=
 ∀ (pins:List (ag × Obj)) (s:aC) (σ:St) (H:Hp) (x:V) (xs:List V) (v:ah) (us:List ah) (Q:VK),Inv X pins σ H s->RelV x v->Vals xs us->r x xs H Q ->
  b5 (aT X.prog X.w) X.A (call (.builtin id) (v :: us)) (EP X pins σ Q) X.xe s
section
variable {X:Cx}{a b:Expr}{ta tb:TE}{pos:Pos}
def x6.or(h:x6 X r)(h':x6 X r'):x6 X (λx y H Q=>r x y H Q\/r' x y H Q):=by
 intro value slice pins s σ H x y v u Q I rx ry q hs;rcases q with q|q
 ·exact h value slice pins s σ H x y v u Q I rx ry q hs
 ·exact h' value slice pins s σ H x y v u Q I rx ry q hs
def V8{r:R2}(hr:x6 X r)(ha:PE X a ta)(hb:PE X b tb)(hs:TR b):PE X (.Subscript a b pos) (Rf r ta tb):=by intro pins s σ H Q I h;exact Subscript_ (VN ha hb I h λv u s2 x y H2 I2 rx ry q=>hr a b pins s2 σ H2 x y v u Q I2 rx ry q (hs _ _))
def aQ'(K:ax):R2:=λx y H Q=>∃ p xs i v,x=.ref p/\y=.int i/\eL K H p xs/\fP xs i=some v/\Q v H
def aR'(K:ax):R2:=λx y H Q=>∃ p xs i v,x=.ref p/\y=.int i/\kG K H p xs/\fP xs i=some v/\Q v H
def aS':R2:=λx y H Q=>∃ z i c,x=.str z/\y=.int i/\z.length<=bI/\fP z.cps.toList i=some c/\Q (.str ⟨#[c]⟩) H
def gp':x6 X (aQ' X.K):=by
 intro value slice pins s σ H x y v u Q I rx ry h hs;obtain⟨p,xs,i,z,rfl,rfl,hq,he,q⟩:=h;cases rx;obtain⟨t,rfl⟩:=ry;obtain⟨its,r,pl,hz⟩:=I.list hq;obtain⟨j,h1,h2,h3,h4,h5⟩:=V7 he;obtain⟨w,ew,qa⟩:=r.get h2;have hl:=r.length;have hn:=VW;have fin:EP X pins σ Q w s:=⟨z,H,I,qa,q⟩
 by_cases h0:0<=i
 ·have hj:i.toNat=j:=by rw[seqIndex_of h0 h5] at h1;exact Option.some.inj h1
  exact item_listR pl.isList h0 (by lia) (by rw[hj];simpa using ew) fin hs
 ·have hj:(i+its.toArray.size).toNat=j:=by rw[seqIndex_neg (by lia) h4] at h1;rw[jS,<- hl];exact Option.some.inj h1
  exact subscriptTail_builtinR pl.isList.typeIs slot_list_getitem.lookup (wpAny_getItem_list_neg pl.isList (by lia) (by rw[jS]<;>lia) (by lia) (by rw[hj];simpa using ew) ⟨rfl,fin⟩) hs
def gq':x6 X (aR' X.K):=by
 intro value slice pins s σ H x y v u Q I rx ry h hs;obtain⟨p,xs,i,z,rfl,rfl,hq,he,q⟩:=h;cases rx;obtain⟨t,rfl⟩:=ry;obtain⟨its,r,pl,hz⟩:=I.tuple hq;obtain⟨j,h1,h2,h3,h4,h5⟩:=V7 he;obtain⟨w,ew,qa⟩:=r.get h2;have hl:=r.length;have hn:=VW;have fin:EP X pins σ Q w s:=⟨z,H,I,qa,q⟩
 exact subscriptTail_builtinR pl.typeIs slot_tuple_getitem.lookup (getItem_tuple pl (by lia) (by lia) (by rw[jS,<- hl];exact h1) (by simpa using ew) ⟨rfl,fin⟩) hs
def gr':x6 X aS':=by
 intro value slice pins s σ H x y v u Q I rx ry h hs;obtain⟨z,i,c,rfl,rfl,hz,he,q⟩:=h;obtain⟨t,rfl⟩:=rx;obtain⟨t',rfl⟩:=ry;obtain⟨j,h1,h2,h3,h4,h5⟩:=V7 he;have hl:z.cps.toList.length=z.length:=by simp[Str.length]
 rw[hl] at h1 h4 h5;have hn:=VW;exact tail_any (DE s z t) slot_str_getitem.lookup (getItem_str (by
  have e1:decide (i < -(2 ^ 63:Int))=false:=decide_eq_false (by lia);have e2:decide (i >= 2 ^ 63)=false:=decide_eq_false (by lia);rw[e1,e2,Bool.or_false]) (by rw[h1];simpa using h2) ⟨.str ⟨#[c]⟩,H,I.tok _,⟨_,rfl⟩,q⟩) hs
def rIx(K:ax):R2:=λx y H Q=>aQ' K x y H Q\/aR' K x y H Q\/aS' x y H Q
def gt':x6 X (rIx X.K):=gp'.or (gq'.or gr')
def Inv.lst(I:Inv X pins σ H s)(h:H p=some (.lst xs)) :
  ∃ (its:List ah) (n:Nat),Vals xs its/\s.heap.get? p=some { cls:=.type "list",data:=.seq its.toArray n }/\xs.length<=bI:=by
 obtain⟨z,its,n,r,e⟩:=I.aI p _ h;exact⟨its,n,r,e,z⟩
def gu'(lo hi:Option Int)(n:Nat):(HL lo hi none n).1=((HT.cE n 0 lo:Nat):Int)/\(HL lo hi none n).2.1=((HT.cE n n hi:Nat):Int)/\(HL lo hi none n).2.2=1:=by
 refine⟨?_,?_,rfl⟩
 ·cases lo with
  |none=>simp[HL,HT.cE]
  |some i =>
   simp only[HL,HT.cE,Option.getD_none,show 1>0 by decide,if_true];by_cases h:i<0
   ·simp only[h,if_true]<;>lia
   ·simp only[h,if_false]<;>lia
 ·cases hi with
  |none=>simp[HL,HT.cE]
  |some i =>
   simp only[HL,HT.cE,Option.getD_none,show 1>0 by decide,if_true];by_cases h:i<0
   ·simp only[h,if_true]<;>lia
   ·simp only[h,if_false]<;>lia
def gv'(its:List ah)(lo hi:Option Int):slicePick its.toArray lo hi none=((its.drop (HT.cE its.length 0 lo)).take (HT.cE its.length its.length hi-HT.cE its.length 0 lo)).toArray:=by obtain⟨h1,h2,h3⟩:=gu' lo hi its.toArray.size;unfold slicePick;rw[h1,h2,h3];simp only[sliceRange_one,pick_run,jS]<;>rfl
def gw'(K:ax):V->Option Int->Option Int->Hp->VK->Prop:=λx lo hi H Q=>∃ a xs,x=.ref a/\eL K H a xs/\∀ p,H p=none->Q (.ref p) (upd H p (.lst (I0 xs lo hi)))
def gx':MY X (gw' X.K):=by intro pins s σ H x v vl vu lo hi sl Q I rx hs pl pu h;obtain⟨a,xs,rfl,hx,q⟩:=h;cases rx;obtain⟨its,r,ht,hz⟩:=I.list hx;have hlen:=r.length;refine⟨"list",_,slot_list_getitem.lookup,ht.isList.typeIs,?_⟩;refine wpAny_getItem_list_slice ht.isList hs pl pu .none (by simp) ?_ (by rw[jS]<;>lia);rw[gv',<- hlen];refine⟨.ref s.heap.objs.size,_,I.laid (λb ob q=>i3 _ q) (cx _) ?_,rfl,q _ (I.aI.fresh (cx _))⟩;exact⟨iO (aN' xs lo hi) hz,_,0,(r.drop (HT.cE xs.length 0 lo)).take (HT.cE xs.length xs.length hi-HT.cE xs.length 0 lo),nL _ rfl⟩
def B9:V->Bool
 |.non=>true
 |.bl _=>true
 |.int _=>true
 |.str _=>true
 |_=>false
def D5:V->V->Bool
 |.non,.non=>true
 |.bl a,.bl b=>a == b
 |.bl a,.int b=>(if a then 1 else 0) == b
 |.int a,.bl b=>a == (if b then 1 else 0)
 |.int a,.int b=>a == b
 |.str a,.str b=>a == b
 |_,_=>false
def gy'(ry:RelV y u)(rx:RelV x v)(fy:B9 y=true)(fx:B9 x=true):SeqAt.EqAt A s u v (D5 y x):=by
 cases y with
 |non =>
  cases ry
  cases x with
  |non=>cases rx;exact SeqAt.EqAt.same _
  |bl b=>cases rx;exact SeqAt.EqAt.none_bool b
  |int b=>obtain⟨t,rfl⟩:=rx;exact SeqAt.EqAt.none_int b t
  |str b=>obtain⟨t,rfl⟩:=rx;exact SeqAt.EqAt.none_str b t
  |_=>exact absurd (fx) oP
 |bl a =>
  cases ry
  cases x with
  |non=>cases rx;exact SeqAt.EqAt.bool_none a
  |bl b=>cases rx;exact SeqAt.EqAt.bool_bool a b
  |int b=>obtain⟨t,rfl⟩:=rx;exact SeqAt.EqAt.bool_int a b t
  |str b=>obtain⟨t,rfl⟩:=rx;exact SeqAt.EqAt.bool_str a b t
  |_=>exact absurd (fx) oP
 |int a =>
  obtain⟨t',rfl⟩:=ry
  cases x with
  |non=>cases rx;exact SeqAt.EqAt.int_none a t'
  |bl b=>cases rx;exact SeqAt.EqAt.int_bool a t' b
  |int b=>obtain⟨t,rfl⟩:=rx;exact SeqAt.EqAt.int_int a t' b t
  |str b=>obtain⟨t,rfl⟩:=rx;exact SeqAt.EqAt.int_str a t' b t
  |_=>exact absurd (fx) oP
 |str a =>
  obtain⟨t',rfl⟩:=ry
  cases x with
  |non=>cases rx;exact SeqAt.EqAt.str_none a t'
  |bl b=>cases rx;exact SeqAt.EqAt.str_bool a t' b
  |int b=>obtain⟨t,rfl⟩:=rx;exact SeqAt.EqAt.str_int a t' b t
  |str b=>obtain⟨t,rfl⟩:=rx;exact SeqAt.EqAt.str_str a t' b t
  |_=>exact absurd (fx) oP
 |_=>exact absurd (fy) oP
def vE(x:V)(u:ah):Bool:=match u with
 |.none=>D5 .non x
 |.bool b=>D5 (.bl b) x
 |.int i _=>D5 (.int i) x
 |.str z _=>D5 (.str z) x
 |_=>false
def aT'(r:RelV y u)(f:B9 y=true):vE x u=D5 y x:=by
 cases y with
 |non=>cases r;rfl
 |bl b=>cases r;rfl
 |int i=>obtain⟨t,rfl⟩:=r;rfl
 |str z=>obtain⟨t,rfl⟩:=r;rfl
 |_=>exact absurd (f) oP
theorem Rl:∀ {xs:List V} {us:List ah},Vals xs us->xs.all B9=true->us.any (vE x)=xs.any λy=>D5 y x
 |_,_,.nil,_=>rfl
 |y :: xs,u :: us,.cons r t,f=>by rw[DM,kM] at f;rw[DS,DS,aT' r f.1,Rl t f.2]
theorem Rm(rx:RelV x v)(fx:B9 x=true):∀ {xs:List V} {us:List ah},Vals xs us->xs.all B9=true->∀ u∈us,SeqAt.EqAt A s u v (vE x u)
 |_,_,.nil,_=>λu hu=>by cases hu
 |y :: xs,u :: us,.cons r t,f=>λu' hu=>by
  rw[DM,kM] at f;rcases eJ.mp hu with rfl|hu
  ·rw[aT' r f.1];exact gy' r rx f.1 fx
  ·exact Rm rx fx t f.2 u' hu
def TX(x:V)(xs:List V):Bool:=xs.any λy=>D5 y x
def Rn(K:ax)(neg:Bool):R2:=λx y H Q=>∃ p xs,y=.ref p/\(eL K H p xs\/kG K H p xs)/\B9 x=true/\xs.all B9=true/\Q (.bl (if neg then !TX x xs else TX x xs)) H
def gz':dS X (fR .In) (Rn X.K false):=by
 intro pins s σ H x y v u Q I rx ry h;obtain⟨p,xs,rfl,hq,fx,fs,q⟩:=h;cases ry;rcases hq with hq|hq
 ·obtain⟨its,r,pl,hz⟩:=I.list hq;refine SeqAt.in_listAt (vE x) pl.isList (λw hw=>Rm rx fx r fs w (by simpa using hw)) ⟨.bl _,H,I,rfl,?_⟩;rw[show its.toArray.any (vE x)=its.any (vE x) by simp,Rl r fs];exact q
 ·obtain⟨its,r,pl,hz⟩:=I.tuple hq;refine SeqAt.in_tupleAt (vE x) pl (λw hw=>Rm rx fx r fs w (by simpa using hw)) ⟨.bl _,H,I,rfl,?_⟩;rw[show its.toArray.any (vE x)=its.any (vE x) by simp,Rl r fs];exact q
def gA':dS X (fR .NotIn) (Rn X.K true):=by
 intro pins s σ H x y v u Q I rx ry h;obtain⟨p,xs,rfl,hq,fx,fs,q⟩:=h;cases ry;rcases hq with hq|hq
 ·obtain⟨its,r,pl,hz⟩:=I.list hq;refine SeqAt.notIn_listAt (vE x) pl.isList (λw hw=>Rm rx fx r fs w (by simpa using hw)) ⟨.bl _,H,I,rfl,?_⟩;rw[show its.toArray.any (vE x)=its.any (vE x) by simp,Rl r fs];exact q
 ·obtain⟨its,r,pl,hz⟩:=I.tuple hq;refine SeqAt.notIn_tupleAt (vE x) pl (λw hw=>Rm rx fx r fs w (by simpa using hw)) ⟨.bl _,H,I,rfl,?_⟩;rw[show its.toArray.any (vE x)=its.any (vE x) by simp,Rl r fs];exact q
def nv.or(h:nv X f r)(h':nv X f r'):nv X f (λxs H Q=>r xs H Q\/r' xs H Q):=by
 intro pins s σ H xs us Q I rs q;rcases q with q|q
 ·exact h pins s σ H xs us Q I rs q
 ·exact h' pins s σ H xs us Q I rs q
def gB':nv X (.type "list") (λxs H Q=>∃ p ys,xs=[.ref p]/\(eL X.K H p ys\/kG X.K H p ys)/\∀ l,H l=none->Q (.ref l) (upd H l (.lst ys))):=by
 intro pins s σ H xs us Q I r h;obtain⟨p,ys,rfl,hq,q⟩:=h;obtain⟨u,rfl,rx⟩:=vals1 r;cases rx;have fin:∀ its,Vals ys its->ys.length<=bI->∀ h' c',(∀ b o',s.heap.get? b=some o'->h'.get? b=some o') ->
   h'.get? s.heap.objs.size=some { cls:=.type "list",dict:=none,data:=.seq its.toArray c',slots:=#[] }->EP X pins σ Q (.ref s.heap.objs.size) { s with heap:=h' }:=λits r' hz h' c' kp e =>
  ⟨.ref s.heap.objs.size,_,I.laid kp (cx _) (show kR X.prog X.w _ h' _ (.lst ys) from⟨hz,its,c',r',e⟩),rfl,q _ (I.aI.fresh (cx _))⟩
 rcases hq with hq|hq
 ·obtain⟨its,r',pl,hz⟩:=I.list hq;have hlen:=r'.length;obtain⟨o,ho,hc,n,hd⟩:=pl.isList;exact call_list_seq p (.inl rfl) ho hc hd (λh' c' kp e=>fin its r' hz h' c' kp e) (by simp only[jS]<;>lia)
 ·obtain⟨its,r',pl,hz⟩:=I.tuple hq;have hlen:=r'.length;obtain⟨o,ho,hc,n,hd⟩:=pl;exact call_list_seq p (.inr rfl) ho hc hd (λh' c' kp e=>fin its r' hz h' c' kp e) (by simp only[jS]<;>lia)
def gC':nv X (.type "tuple") (λxs H Q=>∃ p ys,xs=[.ref p]/\((eL X.K H p ys/\∀ l,H l=none->Q (.ref l) (upd H l (.tup ys)))\/(kG X.K H p ys/\Q (.ref p) H))):=by
 intro pins s σ H xs us Q I r h;obtain⟨p,ys,rfl,h⟩:=h;obtain⟨u,rfl,rx⟩:=vals1 r;cases rx;rcases h with⟨hq,q⟩|⟨hq,q⟩
 ·obtain⟨its,r',pl,hz⟩:=I.list hq;have hlen:=r'.length;refine call_tuple_list pl.isList (λh' kp=>?_) (by simp only[jS]<;>lia);have I1:Inv X pins σ H { s with heap:=h' }:=I.kept kp;have I2:Inv X pins σ (upd H h'.objs.size (.tup ys)) { s with heap:=h'.push { cls:=.type "tuple",data:=.seq its.toArray } } :=
   I1.laid (λb o e=>i3 _ e) (cx _) (⟨hz,its,r',IsTup.new _ _⟩)
  exact⟨.ref h'.objs.size,_,I2,rfl,q _ (I1.aI.fresh (cx _))⟩
 ·obtain⟨its,r',pl,hz⟩:=I.tuple hq;exact call_tuple_same pl ⟨.ref p,H,I,rfl,q⟩
def V9(K:ax)(T:String)(x:V)(H:Hp):Prop:=match x with
 |.str _=>T = "str"
 |.int _=>T = "int"
 |.ref p=>(T = "list"/\∃ xs,eL K H p xs)\/(T = "tuple"/\∃ o,K.lookup p=some o/\o.cls=.type "tuple"/\o.dict=none) \/
   (T = "dict"/\((∃ ae,H p=some (.dK ae))\/∃ ae,H p=some (.dT ae)))\/(T = "set"/\∃ S n,H p=some (.set S n))
 |_=>False
def aU'{T:String}(I:Inv X pins σ H s)(r:RelV x v)(ty:V9 X.K T x H) :
  s.TypeIs v T/\∀ a,v=.ref a->∃ ob,s.heap.get? a=some ob/\ob.dict=none:=by
 cases x with
 |str z =>obtain⟨t,rfl⟩:=r;cases (ty);exact⟨DE s z t,λ_ e=>nomatch e⟩
 |int i =>obtain⟨t,rfl⟩:=r;cases (ty);exact⟨typeIs_int s i t,λ_ e=>nomatch e⟩
 |ref p =>
  cases r;rcases ty with⟨rfl,xs,hq⟩|⟨rfl,o,hk,hc,hd⟩|⟨rfl,hk⟩|⟨rfl,S,n,hk⟩
  ·obtain⟨its,_,pl,_⟩:=I.list hq;refine⟨pl.isList.typeIs,λa e=>?_⟩;cases e;obtain⟨o,n,e,c,hd,_⟩:=pl;exact⟨o,e,hd⟩
  ·refine⟨⟨o,I.iA p o hk,hc⟩,λa e=>?_⟩;cases e;exact⟨o,I.iA _ o hk,hd⟩
  ·have z:∃ o,s.heap.get? p=some o/\o.ExactDict:=by
    rcases hk with⟨ae,hk⟩|⟨ae,hk⟩
    ·obtain⟨_,_,_,_,o,_,_,e,ex,_⟩:=I.aI p _ hk;exact⟨o,e,ex⟩
    ·obtain⟨_,_,_,_,o,_,_,e,ex,_⟩:=I.aI p _ hk;exact⟨o,e,ex⟩
   obtain⟨o,e,ex⟩:=z;refine⟨⟨o,e,ex.1⟩,λa e2=>?_⟩;cases e2;exact⟨o,e,ex.2.1⟩
  ·obtain⟨o,_,_,_,e,ex,_⟩:=I.aI p _ hk;refine⟨⟨o,e,ex.1⟩,λa e2=>?_⟩;cases e2;exact⟨o,e,ex.2.1⟩
 |_=>exact False.elim ty
def gD'(K:ax)(T:String)(r:V->List V->Hp->VK->Prop)(to:TE):TE:=λσ H Q=>to σ H λx H1=>V9 K T x H1/\r x [] H1 Q
def tBM(K:ax)(T:String)(r:V->List V->Hp->VK->Prop)(to:TE)(t:TA):TE:=λσ H Q=>to σ H λx H1=>V9 K T x H1/\t σ H1 λxs H2=>r x xs H2 Q
variable {o e:Expr}{es:List Expr}{to:TE}{t:TA}{name:Str}{apos eI:Pos}{T id:String}{r:V->List V->Hp->VK->Prop}
def gE' (pa:PlainAttrs T) (slot:Slot T name id) (Fs:typeOf (.builtin id)=pure (.type "method_descriptor")) (hm:TV X id r) (ho:PE X o to)(qc:autoParam (vj o name X.env (b4 o X.env)=b4 o X.env) bv) (hline:autoParam ((apos.endLine == eI.line)=true) bv):PE X (.Call (.Attribute o name apos) [] [] eI) (gD' X.K T r to):=by
 intro pins s σ H Q I h;refine wpAny_Call_method0_late qc hline (cv (ho pins s σ H _ I h) λv s1 dP=>?_);obtain⟨x,H1,I1,r1,ty,q1⟩:=dP;obtain⟨h1,h2⟩:=aU' I1 r1 ty;exact⟨T,id,pa,slot,Fs,h1,h2,Calls.callWith_builtin rfl (PySem.evalArgs_none (hm pins s1 σ H1 x [] v [] Q I1 r1 .nil q1))⟩
def Jn (pa:PlainAttrs T) (slot:Slot T name id) (Fs:typeOf (.builtin id)=pure (.type "method_descriptor")) (hm:TV X id r) (ho:PE X o to) (ha:PA X (e :: es) t)(qc:autoParam (vj o name X.env (b4 o X.env)=b4 o X.env) bv) (vF:autoParam (((gy eI (bE (e :: es) X.env)).all (λx=>!x.1) && (zk eI (zi [] X.env)).all (λx=>x.1.isSome)
   && decide ((e :: es).length+([]:List qV).length+(if ([]:List qV).isEmpty then 0 else 1)<30))=true) bv)
  (hline:autoParam ((apos.endLine == eI.line)=true) bv) (hs:autoParam (bE (e :: es) X.env=(false,b4 e X.env) :: bE es X.env) bv) (vS:autoParam ((gy eI (bE es X.env)).any (·.1)=false) bv) :
  PE X (.Call (.Attribute o name apos) (e :: es) [] eI) (tBM X.K T r to t):=by
 intro pins s σ H Q I h;refine wpAny_Call_method_late qc vF hline rfl (cv (ho pins s σ H _ I h) λv s1 dP=>?_);obtain⟨x,H1,I1,r1,ty,q1⟩:=dP;obtain⟨h1,h2⟩:=aU' I1 r1 ty;refine⟨T,id,pa,slot,Fs,h1,h2,?_⟩;have hA:=ha eI pins s1 σ H1 _ I1 q1;rw[hs] at hA ⊢;refine Calls.callWith_builtin (by show(false || (gy eI (bE es X.env)).any (·.1))=false;rw[vS]<;>rfl) (Calls.evalArgs_plain ?_);exact cv hA λus s2 ck=>L2.eR ck λvs H2 I2 r2 q2=>hm pins s2 σ H2 x vs v us Q I2 r1 r2 q2
end
def V_(X:Cx)(id:String)(r:V->List V->Hp->VK->Prop):Prop :=
 ∀ (pins:List (ag × Obj)) (s:aC) (σ:St) (H:Hp) (x:V) (xs:List V) (v:ah) (us:List ah) (Q:VK),Inv X pins σ H s->RelV x v->Vals xs us->r x xs H Q ->
  b5 (aT X.prog X.w) X.A (call (.builtin id) (v :: us)) (EP X pins σ Q) X.xe s
def Vals.one{x:V}{us:List ah}(h:Vals [x] us):∃ u,us=[u]/\RelV x u:=by cases h;rename_i r h;cases h;exact⟨_,rfl,‹_›⟩
def Vals.two{x y:V}{us:List ah}(h:Vals [x,y] us):∃ u v,us=[u,v]/\RelV x u/\RelV y v:=by cases h;rename_i r h;cases h;rename_i q h;cases h;exact⟨_,_,rfl,‹_›,‹_›⟩
theorem Vals.zero:∀ {us:List ah},Vals [] us->us=[]
 |_,.nil=>rfl
def Vals.dropLast(h:Vals xs us):Vals xs.dropLast us.dropLast:=by
 induction h with
 |nil=>exact .nil
 |cons r t ih =>
  cases t with
  |nil=>exact .nil
  |cons q t'=>exact .cons r ih
theorem Vals.eraseIdx:∀ {xs:List V} {us:List ah} (i:Nat),Vals xs us->Vals (xs.eraseIdx i) (us.eraseIdx i)
 |_,_,_,.nil=>.nil
 |_,_,0,.cons _ t=>t
 |_,_,i+1,.cons r t=>.cons r (Vals.eraseIdx i t)
def gF'{α:Type}(l:List α):l.eraseIdx (l.length-1)=l.dropLast:=by
 induction l with
 |nil=>rfl
 |cons a r ih =>
  cases r with
  |nil=>rfl
  |cons b r =>
   have e:(a :: b :: r).length-1=((b :: r).length-1)+1:=by have h1:(a :: b :: r).length=r.length+2:=rfl;have h2:(b :: r).length=r.length+1:=rfl;lia
   rw[e,List.eraseIdx_cons_succ,ih];all_goals rfl
section
variable {X:Cx}{pins:List (ag × Obj)}{σ:St}{H:Hp}{s:aC}{l:ag}{xs ys:List V}
def Inv.Wa{its IE:List ah}{n:Nat}{f:Array ah->Array ah}{t':Nat}(I:Inv X pins σ H s)(hH:H l=some (.lst xs))(e:s.heap.get? l=some { cls:=.type "list",data:=.seq its.toArray n }) (hf:f its.toArray=IE.toArray) (hv:Vals ys IE) (hz:ys.length<=bI) :
  Inv X pins σ (upd H l (.lst ys)) { s with heap:=s.heap.update l (Obj.mapSeq f),toks:=t' }:=by
 have q:=PySem.IsL.update e f;rw[hf] at q;refine I.write (by rw[hH];exact trivial) (.inl rfl) (λb' u hb hu=>(Heap.get?_update_other s.heap (Obj.mapSeq f) (Ne.symm hb)).trans hu) ⟨_,q⟩ ?_;exact⟨hz,IE,_,hv,q⟩
def Inv.Ro(I:Inv X pins σ H s)(hv:Vals ys its)(hz:ys.length<=bI) :
  Inv X pins σ (upd H s.heap.objs.size (.lst ys)) { s with heap:=s.heap.push { cls:=.type "list",data:=.seq its.toArray },toks:=t' } :=
 I.laid (λ_ _ q=>i3 _ q) (cx _) ⟨hz,its,0,hv,nL _ rfl⟩
def Inv.fresh(I:Inv X pins σ H s):H s.heap.objs.size=none:=I.aI.fresh (cx _)
def Inv.TY (I:Inv X pins σ H s) (hH:H l=some (.lst xs)):xs.length<=bI/\∃ (its:List ah) (n:Nat),Vals xs its/\xs.length=its.length/\s.heap.get? l=some { cls:=.type "list",data:=.seq its.toArray n }:=by obtain⟨z,its,n,r,e⟩:=I.aI l _ hH;exact⟨z,its,n,r,r.length,e⟩
def gG'(h:n<=bI):Builtin.List.listTooLong n=false:=by exact decide_eq_false (by lia)
end
section
variable {X:Cx}
def aW':V->List V->Hp->VK->Prop:=λx vs H Q=>∃ l xs y,x=.ref l/\vs=[y]/\H l=some (.lst xs)/\xs.length<bI/\Q .non (upd H l (.lst (xs++[y])))
def Rp:V_ X "list.append" aW':=by intro pins s σ H x vs v us Q I rx rv h;obtain⟨l,xs,y,rfl,rfl,hH,hz,q⟩:=h;cases rx;obtain⟨u,rfl,ru⟩:=rv.one;obtain⟨z,its,n,r,hl,e⟩:=I.TY hH;refine E4 F.slot_list_append ⟨_,e,rfl⟩ F.entry_list_append (F.args_list_append_2 _ _) (PySem.list_append l its.toArray n u (by rw[jS];lia)) ⟨e,?_⟩;refine⟨.non,_,I.Wa hH e (by simp) (r.append (.cons ru .nil)) ?_,rfl,q⟩;rw[hJ,L7];lia
def gH':V->List V->Hp->VK->Prop:=λx vs H Q=>∃ l b xs zs,x=.ref l/\vs=[.ref b]/\H l=some (.lst xs)/\H b=some (.lst zs)/\xs.length+zs.length<=bI/\Q .non (upd H l (.lst (xs++zs)))
def gI':V_ X "list.extend" gH':=by
 intro pins s σ H x vs v us Q I rx rv h;obtain⟨l,b,xs,zs,rfl,rfl,hH,hB,hz,q⟩:=h;cases rx;obtain⟨u,rfl,ru⟩:=rv.one;cases ru;obtain⟨z,its,n,r,hl,e⟩:=I.TY hH;obtain⟨z2,Fn,n2,r2,x8,e2⟩:=I.TY hB;have hZ:its.toArray.size+Fn.toArray.size<=bI:=by rw[jS,jS];lia
 have gJ':¬ (!its.toArray.isEmpty && Builtin.List.listTooLong (its.toArray.size+Fn.toArray.size))=true:=by rw[gG' hZ,Bool.and_false];exact oP
 refine E4 F.slot_list_extend ⟨_,e,rfl⟩ F.entry_list_extend (F.args_list_extend_2 _ _) (AutoSeq1.list_extend_list_list_0 l its.toArray n b Fn.toArray n2 gJ' (by rw[jS];lia) (by lia)) ⟨e,e2,?_⟩
 refine⟨.non,_,I.Wa hH e (by simp) (r.append r2) ?_,rfl,q⟩;rw[hJ];lia
def gK':V->List V->Hp->VK->Prop:=λx vs H Q=>∃ l xs y,x=.ref l/\vs=[]/\H l=some (.lst xs)/\xs[xs.length-1]? = some y/\Q y (upd H l (.lst xs.dropLast))
def gL':V_ X "list.pop" gK':=by
 intro pins s σ H x vs v us Q I rx rv h;obtain⟨l,xs,y,rfl,rfl,hH,hy,q⟩:=h;cases rx;have hus:=rv.zero;subst hus;obtain⟨z,its,n,r,hl,e⟩:=I.TY hH;obtain⟨u,hu,ru⟩:=r.get hy;have hy':its.toArray[its.toArray.size-1]? = some u:=by show its.toArray[its.length-1]? = some u;rw[<- B3,<- hl];exact hu
 refine E4 F.slot_list_pop ⟨_,e,rfl⟩ F.entry_list_pop (F.args_list_pop_1 _) (MeetsSeq.list_pop_last l its.toArray n u hy' (by rw[jS];lia)) ⟨e,?_⟩;refine⟨y,_,I.Wa hH e ?_ r.dropLast ?_,ru,q⟩
 ·show its.toArray.eraseIdxIfInBounds (its.toArray.size-1)=its.dropLast.toArray;rw[jS,List.eraseIdxIfInBounds_toArray,gF']
 ·rw[Vh];lia
def len_rep{α:Type}(xs:List α)(k:Nat):(List.replicate k xs).flatten.length=k*xs.length:=by
 induction k with
 |zero=>simp
 |succ k ih=>rw[BG,BH,hJ,ih,Nat.succ_mul,P9]
end
section
set_option maxRecDepth 100000 in
end
section
variable {κ:Type}[DecidableEq κ]
def k8(ae:List (κ × V))(k:κ):Option V:=(ae.find? λkv=>decide (kv.1=k)).map (·.2)
def putK(ae:List (κ × V))(k:κ)(v:V):List (κ × V) :=
 if (ae.any λkv=>decide (kv.1=k))=true then ae.map (λkv=>if kv.1=k then (kv.1,v) else kv) else ae++[(k,v)]
def oY'(ae:List (κ × V))(k:κ):List (κ × V):=ae.filter λkv=>decide (kv.1≠k)
def T1{p:κ × V}{r:List (κ × V)}{k:κ}(e:p.1=k):k8 (p :: r) k=some p.2:=by simp[k8,BQ,e]
def T2{p:κ × V}{r:List (κ × V)}{k:κ}(e:¬ p.1=k):k8 (p :: r) k=k8 r k:=by simp[k8,BQ,e]
theorem aX'(k:κ):∀ ae:List (κ × V),(ae.any λkv=>decide (kv.1=k))=(k8 ae k).isSome
 |[]=>rfl
 |p :: r=>by
  rw[DS];by_cases e:p.1=k
  ·simp only[T1 e,decide_eq_true e,Bool.true_or,Option.isSome_some]
  ·rw[T2 e,decide_eq_false e,Bool.false_or];exact aX' k r
def Wb(ae:List (κ × V))(k:κ)(v:V):(putK ae k v).length<=ae.length+1:=by
 unfold putK;split
 ·rw[dr];exact Nat.le_add_right _ _
 ·rw[hJ,kB,P4];exact cx _
def oQ.JA(r:oQ o u):o.isSome=u.isSome:=by
 cases o with
 |none=>cases u with
  |none=>rfl
  |some _=>exact(r).elim
 |some _=>cases u with
  |none=>exact(r).elim
  |some _=>rfl
def oQ.getD(r:oQ o u)(rd:RelV d d'):RelV (o.getD d) (u.getD d'):=by
 cases o with
 |none=>cases u with
  |none=>exact rd
  |some _=>exact(r).elim
 |some _=>cases u with
  |none=>exact(r).elim
  |some _=>exact r
def KV.val{ae:List (κ × V)}{vs:List (κ × ah)}(r:KV ae vs)(k:κ):oQ (k8 ae k) (valueAt vs k):=by
 induction r with
 |nil=>exact True.intro
 |@cons p q ps qs h t ih =>
  obtain⟨h1,h2⟩:=h;by_cases e:p.1=k
  ·have e':q.1=k:=h1.symm.trans e;have b:valueAt (q :: qs) k=some q.2:=by simp[valueAt,BQ,e']
   rw[T1 e,b];exact h2
  ·have e':¬ q.1=k:=λz=>e (h1.trans z);have b:valueAt (q :: qs) k=valueAt qs k:=by simp[valueAt,BQ,e']
   rw[T2 e,b];exact ih
def KV.any(r:KV ae vs)(k:κ):(ae.any λkv=>decide (kv.1=k))=vs.any λkv=>decide (kv.1=k):=by
 induction r with
 |nil=>rfl
 |cons h t ih=>rw[DS,DS,ih,h.1]
def KV.repl(r:KV ae vs)(k:κ)(ry:RelV y u) :
  KV (ae.map λkv=>if kv.1=k then (kv.1,y) else kv) (vs.map λkv=>if kv.1=k then (kv.1,u) else kv):=by
 induction r with
 |nil=>exact .nil
 |@cons p q ps qs h t ih =>
  rw[gX,gX];refine .cons ?_ ih;obtain⟨h1,h2⟩:=h;by_cases e:p.1=k
  ·rw[if_pos e,if_pos (h1.symm.trans e)];exact⟨h1,ry⟩
  ·rw[if_neg e,if_neg (λz=>e (h1.trans z))];exact⟨h1,h2⟩
def KV.put(r:KV ae vs)(k:κ)(ry:RelV y u):KV (putK ae k y) (stored vs k u):=by
 unfold putK stored;rw[r.any k];by_cases e:(vs.any λkv=>decide (kv.1=k))=true
 ·rw[if_pos e,if_pos e];exact r.repl k ry
 ·rw[if_neg e,if_neg e];exact Paired.snoc r ⟨rfl,ry⟩
def KV.length(r:KV ae vs):ae.length=vs.length:=Paired.length r
end
def JJ{P:b9}(r:RelV (kV k) u):(kc P w).is k u=true:=by
 cases k with
 |inl i=>obtain⟨t,e⟩:=(r);subst e;exact dN' P w i t
 |inr x=>obtain⟨t,e⟩:=(r);subst e;exact Tc P w x t
theorem aY'{P:b9}:∀ {ks:List Key} {us:List ah},Vals (ks.map kV) us->ItemsAre (kc P w) ks us
 |[],_,r=>by rw[List.map_nil] at r;cases r;exact .nil
 |k :: ks,_,r=>by
  cases r with
  |cons h t=>exact .cons (JJ h) (aY' t)
abbrev KT(H:Hp):List (List Key × V)->List (List Key × ag × ah)->Prop:=Paired λp q=>p.1=q.1/\H q.2.1=some (.tup (p.1.map kV))/\RelV p.2 q.2.2
def KT.val{H:Hp}{ae:List (List Key × V)}{xs:List (List Key × ag × ah)}(r:KT H ae xs)(k:List Key):oQ (k8 ae k) ((atKey xs k).map (·.2)):=by
 induction r with
 |nil=>exact True.intro
 |@cons p q ps qs h t ih =>
  obtain⟨h1,_,h2⟩:=h;by_cases e:p.1=k
  ·have e':q.1=k:=h1.symm.trans e;have b:atKey (q :: qs) k=some q.2:=by simp[atKey,BQ,e']
   rw[T1 e,b];exact h2
  ·have e':¬ q.1=k:=λz=>e (h1.trans z);have b:atKey (q :: qs) k=atKey qs k:=by simp[atKey,BQ,e']
   rw[T2 e,b];exact ih
def KT.repl(r:KT H ae xs)(k:List Key)(ry:RelV y u) :
  KT H (ae.map λkv=>if kv.1=k then (kv.1,y) else kv) (xs.map (putAt k u)):=by
 induction r with
 |nil=>exact .nil
 |@cons p q ps qs h t ih =>
  rw[gX,gX];refine .cons ?_ ih;obtain⟨h1,h2,h3⟩:=h;unfold putAt;by_cases e:p.1=k
  ·rw[if_pos e,if_pos (h1.symm.trans e)];exact⟨h1,h2,ry⟩
  ·rw[if_neg e,if_neg (λz=>e (h1.trans z))];exact⟨h1,h2,h3⟩
def KT.put(r:KT H ae xs)(k:List Key)(hb:H b=some (.tup (k.map kV)))(ry:RelV y u) :
  KT H (putK ae k y) (storedH xs k b u):=by
 have e:(ae.any λkv=>decide (kv.1=k))=(atKey xs k).isSome:=by rw[aX',(r.val k).JA,Qr]
 unfold putK storedH;rw[e];by_cases q:(atKey xs k).isSome=true
 ·rw[if_pos q,if_pos q];exact r.repl k ry
 ·rw[if_neg q,if_neg q];exact Paired.snoc r ⟨rfl,hb,ry⟩
def KT.keeps(r:KT H ae xs)(ht:∀ b ys,H b=some (.tup ys)->H' b=some (.tup ys)):KT H' ae xs :=
 Paired.Te r λ_ _ z=>⟨z.1,ht _ _ z.2.1,z.2.2⟩
section
variable {P:b9}{w:cy}{H:Hp}{h:c9}{a:ag}
def JY(ok:hU P w H h)(e:Rd H a u):kR P w H h a u:=e.ok ok
def MZ(ok:hU P w H h)(e:Rd H a (.dK ae)):ae.length<=bI/\(a == wx)=false/\∃ vs,KV ae vs/\h.DictOf (kc P w) a vs :=
 show kR P w H h a (.dK ae) from JY ok e
def aZ'(ok:hU P w H h)(e:H a=some (.dK ae)):ae.length<=bI/\(a == wx)=false/\∃ vs,KV ae vs/\h.DictOf (kc P w) a vs:=MZ ok (.inl e)
def M0(ok:hU P w H h)(e:H a=some (.tup (ks.map kV))):(tupleKind (kc P w)).is h ks a:=by
 obtain⟨_,its,r,o,h1,h2,n,h3⟩:=(ok a _ e)
 exact⟨o,its.toArray,n,h1,h2,h3,by simpa using aY' r⟩
def Rq(ok:hU P w H h)(e:Rd H a (.dT ae)):ae.length<=bI/\(a == wx)=false /\
  ∃ xs,KT H ae xs/\h.DictOfH (tupleKind (kc P w)) a xs:=by
 obtain⟨z,y,xs,r,o,es,ep,h1,h2,h3,h4,h5⟩:=(JY ok e)
 refine⟨z,y,xs,r,o,es,ep,h1,h2,h3,h4,λx hx=>?_,h5⟩;have all:∀ {l:List (List Key × V)} {m:List (List Key × ag × ah)},KT H l m->∀ x∈m,(tupleKind (kc P w)).is h x.1 x.2.1:=by
  intro l m q
  induction q with
  |nil=>intro x hx;exact nomatch hx
  |@cons p q ps qs hq t ih =>
   intro x hx;rcases eJ.mp hx with e|hx
   ·subst e;exact M0 ok (by rw[<- hq.1];exact hq.2.1)
   ·exact ih x hx
 exact all r x hx
def gO'(ok:hU P w H h)(e:H a=some (.dT ae)):ae.length<=bI/\(a == wx)=false /\
  ∃ xs,KT H ae xs/\h.DictOfH (tupleKind (kc P w)) a xs:=Rq ok (.inl e)
end
def rz(H:Hp)(a:ag)(y:V)(r:Option V):Prop :=
 (∃ ae k,Rd H a (.dK ae)/\y=kV k/\r=k8 ae k)\/∃ ae k b,Rd H a (.dT ae)/\y=.ref b/\H b=some (.tup (k.map kV))/\r=k8 ae k
def Fu(H:Hp)(a:ag)(y v:V)(H':Hp):Prop :=
 (∃ ae k,H a=some (.dK ae)/\y=kV k/\ae.length<bI/\H'=upd H a (.dK (putK ae k v))) \/
 ∃ ae k b,H a=some (.dT ae)/\y=.ref b/\H b=some (.tup (k.map kV))/\ae.length<bI/\H'=upd H a (.dT (putK ae k v))
def rz.k{H:Hp}{a:ag}{ae:List (Key × V)}{k:Key}(e:H a=some (.dK ae)):rz H a (kV k) (k8 ae k):=.inl ⟨ae,k,.inl e,rfl,rfl⟩
def rz.t{H:Hp}{a b:ag}{ae:List (List Key × V)}{k:List Key}(e:H a=some (.dT ae))(eb:H b=some (.tup (k.map kV))):rz H a (.ref b) (k8 ae k):=.inr ⟨ae,k,b,.inl e,rfl,eb,rfl⟩
def Fu.k{H:Hp}{a:ag}{ae:List (Key × V)}{k:Key}{v:V}(e:H a=some (.dK ae))(hl:ae.length<bI):Fu H a (kV k) v (upd H a (.dK (putK ae k v))):=.inl ⟨ae,k,e,rfl,hl,rfl⟩
def Fu.t{H:Hp}{a b:ag}{ae:List (List Key × V)}{k:List Key}{v:V}(e:H a=some (.dT ae))(eb:H b=some (.tup (k.map kV)))(hl:ae.length<bI) :
  Fu H a (.ref b) v (upd H a (.dT (putK ae k v))):=.inr ⟨ae,k,b,e,rfl,eb,hl,rfl⟩
section
variable {X:Cx}{pins:List (ag × Obj)}{σ:St}{H:Hp}{s:aC}{a:ag}{y v:V}{u r:ah}{o:Option V}{A:e7}{E:ah->aC->Prop}
def Inv.big(I:Inv X pins σ H s):wx<s.heap.objs.size:=by have h:gi<s.heap.objs.size:=(I.mod.glob.keeps I.bk).lt;exact Nat.lt_trans (by decide) h
def gP'(hu:A.units+1<gV)(I:Inv X pins σ H s)(g:rz H a y (some v))(ry:RelV y u)(h:∀ w' s',Inv X pins σ H s'->RelV v w'->Q w' s') :
  b5 (aT X.prog X.w) A (getItem (.ref a) u) Q E s:=by
 rcases g with⟨ae,k,e,ey,l⟩|⟨ae,k,b,e,ey,eb,l⟩
 ·subst ey;obtain⟨z,hd,vs,rel,dd⟩:=MZ I.aI e;obtain⟨w',hw,qa⟩:=oQ.some_of (by rw[l];exact rel.val k);exact wpAny_getItem_of (JJ ry) dd.mapOf hw (h w' _ (I.tok _) qa)
 ·subst ey;cases (ry);obtain⟨z,hd,xs,rel,dd⟩:=Rq I.aI e;obtain⟨w',hw,qa⟩:=oQ.some_of (by rw[l];exact rel.val k);obtain⟨p,hp,hp2⟩:=oo.mp hw;refine wpAny_getItem_heap (Sx hu) (M0 I.aI eb) dd hp ?_;rw[hp2];exact h w' _ (I.tok _) qa
def gR'(hu:A.units+1<gV)(I:Inv X pins σ H s)(g:rz H a y o)(ry:RelV y u)(h:∀ s',Inv X pins σ H s'->Q (.bool o.isSome) s') :
  b5 (aT X.prog X.w) A (fR .In u (.ref a)) Q E s:=by
 rcases g with⟨ae,k,e,ey,l⟩|⟨ae,k,b,e,ey,eb,l⟩
 ·subst ey;obtain⟨z,hd,vs,rel,dd⟩:=MZ I.aI e;refine wpAny_in_of (JJ ry) hd dd.mapOf ?_;rw[<- (rel.val k).JA,<- l];exact h _ (I.tok _)
 ·subst ey;cases (ry);obtain⟨z,hd,xs,rel,dd⟩:=Rq I.aI e;refine wpAny_in_heap (Sx hu) (M0 I.aI eb) hd dd ?_;have q:=(rel.val k).JA;rw[Qr] at q;rw[<- q,<- l];exact h _ (I.tok _)
def gS'(hu:A.units+1<gV)(I:Inv X pins σ H s)(g:rz H a y o)(ry:RelV y u)(h:∀ s',Inv X pins σ H s'->Q (.bool (!o.isSome)) s') :
  b5 (aT X.prog X.w) A (fR .NotIn u (.ref a)) Q E s:=by
 rcases g with⟨ae,k,e,ey,l⟩|⟨ae,k,b,e,ey,eb,l⟩
 ·subst ey;obtain⟨z,hd,vs,rel,dd⟩:=MZ I.aI e;refine wpAny_notIn_of (JJ ry) hd dd.mapOf ?_;rw[<- (rel.val k).JA,<- l];exact h _ (I.tok _)
 ·subst ey;cases (ry);obtain⟨z,hd,xs,rel,dd⟩:=Rq I.aI e;refine wpAny_notIn_heap (Sx hu) (M0 I.aI eb) hd dd ?_;have q:=(rel.val k).JA;rw[Qr] at q;rw[<- q,<- l];exact h _ (I.tok _)
def T3(I:Inv X pins σ H s)(mu:Q0 (H a))(hs:Heap.SameBut a s.heap h')(he:∃ q,h'.get? a=some q)(new:kR X.prog X.w (upd H a ob) h' a ob) :
  Inv X pins σ (upd H a ob) { s with heap:=h',toks:=t' } :=
 I.write mu (.inl rfl) (λb q hb z=>(hs.2 b hb).trans z) he new
def ba'{P:b9}(z:ae.length<=bI)(hd:(a == wx)=false)(rel:KV ae vs)(dd:h'.DictOf (kc P w) a vs) :
  kR P w H' h' a (.dK ae):=⟨z,hd,vs,rel,dd⟩
def gT'(hu:A.units+1<gV)(I:Inv X pins σ H s)(g:Fu H a y v H')(ry:RelV y u)(rv:RelV v r)(h:∀ s',Inv X pins σ H' s'->Q () s') :
  b5 (aT X.prog X.w) A (setItem (.ref a) u r) Q E s:=by
 rcases g with⟨ae,k,e,ey,l,eH⟩|⟨ae,k,b,e,ey,eb,l,eH⟩
 ·subst ey eH;obtain⟨z,hd,vs,rel,dd⟩:=aZ' I.aI e;have hz:vs.length<=bI:=by rw[<- rel.length];exact z
  have hl:(putK ae k v).length<=bI:=by have:=Wb ae k v;lia
  refine wpAny_setItem_pairs (JJ ry) dd λh' D6 hs=>h _ ?_;have he:∃ q,h'.get? a=some q:=let ⟨q,_,_,hq,_⟩:=D6;⟨q,hq⟩
  exact T3 I (by rw[e];exact True.intro) hs he (ba' hl hd (rel.put k rv) D6)
 ·subst ey eH;cases (ry);obtain⟨z,hd,xs,rel,dd⟩:=gO' I.aI e;have hz:xs.length<=bI:=by rw[<- Paired.length rel];exact z
  have hl:(putK ae k v).length<=bI:=by have:=Wb ae k v;lia
  refine wpAny_setItem_heap (Sx hu) (M0 I.aI eb) dd λh' D6 hs=>h _ ?_;obtain⟨q,es,ep,hq,h2,h3,h4,_,h5⟩:=D6;refine T3 I (by rw[e];exact True.intro) hs ⟨q,hq⟩ ⟨hl,hd,_,(rel.put k eb rv).keeps λc ys ec=>?_,q,es,ep,hq,h2,h3,h4,h5⟩;rw[dn (dO' ec e (λz=>nomatch z))];exact ec
end
section
variable {X:Cx}{pins:List (ag × Obj)}{σ:St}{H:Hp}{s:aC}{a:ag}{ae:List (Key × V)}{A:e7}{E:ah->aC->Prop}
def gU' (I:Inv X pins σ H s) (e:Rd H a (.dK ae)) (h:∀ t s',Inv X pins σ H s'->Q (.int ae.length t) s'):b5 (aT X.prog X.w) A (call (.builtin "len") [.ref a]) Q E s:=by obtain⟨z,hd,vs,rel,dd⟩:=MZ I.aI e;refine call_len_dict hd dd (by rw[<- rel.length];rw[oi] at z;lia) ?_;rw[<- rel.length];exact h _ _ (I.tok _)
end
def T4(i:Expr):Prop:=∀ ov iv,subscripted i false ov iv=operate [ov,iv] (getItem ov iv)
def bb'{T id:String}(hl:typeLookup (.type T) "__getitem__" = pure (some (.builtin id))) (hs:T4 slice)(h:b5 (aT prog w) A (b4 value env) (λo ft=>b5 (aT prog w) A (b4 slice env) (λi AX=>AX.TypeIs o T/\b5 (aT prog w) A (getItem o i) Q E AX) E ft) E s) :
  b5 (aT prog w) A (b4 (.Subscript value slice pos) env) Q E s:=by
 refine Subscript_ (sq h (λo ft Kb=>sq Kb (λi AX Rr=>?_) λ_ _ x=>x) λ_ _ x=>x);obtain⟨hT,Rr⟩:=Rr;refine bS ?_;refine bS (wpAny_specialOf hT hl ?_);have fin:b5 (aT prog w) A (subscripted slice false o i) (λr h8=>b5 (aT prog w) A (letTemporaryGo value o r >>= λ_=>pure r) Q E h8) E AX:=by rw[hs o i];exact wpAny_operating (sq Rr (λr h8 T5=>bS (wpAny_letTemporaryGo (dk T5))) λ_ _ x=>x)
 first
  |exact dk (bS fin)
  |exact bS (dk (bS fin))
  |exact bS fin
def gV' {X:Cx} (I:Inv X pins σ H s) (g:rz H a y o):s.TypeIs (.ref a) "dict" := by
 rcases g with⟨ae,k,e,_,_⟩|⟨ae,k,b,e,_,_,_⟩
 ·obtain⟨_,_,vs,_,dd⟩:=MZ I.aI e;exact dd.typeIs
 ·obtain⟨_,_,xs,_,dd⟩:=Rq I.aI e;exact dd.typeIs
def gW'(td ty tv:TE):TS:=λD σ H=>tv σ H λv H1=>td σ H1 λx H2=>ty σ H2 λy H3=>∃ a H4,x=.ref a/\Fu H3 a y v H4/\D.nx σ H4
section
variable {X:Cx}{o i value:Expr}{pos pos':Pos}{td ty tv:TE}
def gX'(hu:X.A.units+1<gV)(ho:PE X o td)(hi:PE X i ty)(hv:PE X value tv)(hs:nI value (some (.Subscript o i pos')) pos.line X.env=pure false) :
  PS X (.Assign [.Subscript o i pos'] value pos) (gW' td ty tv):=by
 intro pins s σ H D I h;refine wpAny_Assign_Subscript (cv (hv pins s σ H _ I h) λr s1 ck=>L2.eR ck λv H1 I1 rv q1=>cv (ho pins s1 σ H1 _ I1 q1) λu s2 ck=>L2.eR ck λx H2 I2 rx q2=>cv (hi pins s2 σ H2 _ I2 q2) λiv s3 dP=>?_) hs;obtain⟨y,H3,I3,ry,a,H4,ex,g,q3⟩:=dP;subst ex;obtain rfl:u=Value.ref a:=rx;exact gT' hu I3 g ry rv λs4 I4=>⟨σ,H4,I4,q3⟩
end
def bc' {P:b9} (h:c9) (hb:wx<h.objs.size):kR P w H (h.push { cls:=.type "dict",data:=.dict #[] }) h.objs.size (.dK []) :=
 ⟨fI _,beq_eq_false_iff_ne.mpr (Ne.symm (j3 hb)),[],.nil,Heap.DictOf.new h⟩
def gY':TE:=λ_ H Q=>∀ p,H p=none->Q (.ref p) (upd H p (.dK []))
section
variable {X:Cx}{pos:Pos}
def gZ':PE X (.Dict [] [] pos) gY':=λpins s σ H Q I h =>
 wpAny_Dict_empty ⟨.ref s.heap.objs.size,_,I.laid (λ_ _ q=>i3 _ q) (cx _) (bc' s.heap I.big),rfl,h _ (I.aI.fresh (cx _))⟩
end
def Wc:List (TE × TE)->St->Hp->(List (V × V)->Hp->Prop)->Prop
 |[],_,H,Q=>Q [] H
 | (tk,tv) :: r,σ,H,Q=>tk σ H λx H1=>tv σ H1 λy H2=>Wc r σ H2 λps H3=>Q ((x,y) :: ps) H3
abbrev VV:List (V × V)->List (ah × ah)->Prop:=Paired λp q=>RelV p.1 q.1/\RelV p.2 q.2
def T6(X:Cx)(pos:Pos)(keys:List (Option Expr))(values:List Expr)(Ki:List (TE × TE)):Prop :=
 ∀ (pins:List (ag × Obj)) (s:aC) (σ:St) (H:Hp) (Q:List (V × V)->Hp->Prop),Inv X pins σ H s->Wc Ki σ H Q ->
  b5 (aT X.prog X.w) X.A (evalPairs (pairTrees keys values X.env pos)) (λvs s'=>∃ ps H',Inv X pins σ H' s'/\VV ps vs/\Q ps H') X.xe s
def ha'{X:Cx}:T6 X pos [] [] []:=λpins s σ H Q I h=>pairTrees_nil_walk ⟨[],H,I,.nil,h⟩
def hb'{X:Cx}(hk:PE X k tk)(hv:PE X v tv)(hr:T6 X pos ks vs Ki) :
  T6 X pos (some k :: ks) (v :: vs) ((tk,tv) :: Ki):=λpins s σ H Q I h =>
 pairTrees_cons_walk (cv (hk pins s σ H _ I h) λu s1 ck=>L2.eR ck λx H1 I1 rx q1=>cv (hv pins s1 σ H1 _ I1 q1) λw2 s2 ck=>L2.eR ck λy H2 I2 ry q2 =>
  cv (hr pins s2 σ H2 _ I2 q2) λws s3 ck=>L2.eR ck λps H3 I3 rel q3=>⟨(x,y) :: ps,H3,I3,.cons ⟨rx,ry⟩ rel,q3⟩)
def Rt(ae more:List (Key × V)):List (Key × V):=more.foldl (λacc kv=>putK acc kv.1 kv.2) ae
def KV.merge:∀ {more:List (Key × V)} {rs:List (Key × ah)} {ae:List (Key × V)} {vs:List (Key × ah)},KV more rs->KV ae vs->KV (Rt ae more) (merged vs rs):=by
 intro more rs ae vs r
 induction r generalizing ae vs with
 |nil=>intro q;exact q
 |@cons p q ps qs h t ih =>
  intro r0;have e:KV (putK ae p.1 p.2) (stored vs q.1 q.2):=by have:=r0.put p.1 h.2;rw[<- h.1];exact this
  exact ih e
theorem bd':∀ (more ae:List (Key × V)),(Rt ae more).length<=ae.length+more.length
 |[],ae=>by show ae.length<=ae.length+0;lia
 |p :: r,ae=>by have h1:=bd' r (putK ae p.1 p.2);have h2:=Wb ae p.1 p.2;show(Rt (putK ae p.1 p.2) r).length<=_;rw[kB];lia
theorem be'{P:b9}:∀ {ae:List (Key × V)} {ws:List (ah × ah)},VV (ae.map λkv=>(kV kv.1,kv.2)) ws->∃ rs,Carries (kc P w) ws rs/\KV ae rs
 |[],_,r=>by rw[List.map_nil] at r;cases r;exact⟨[],True.intro,.nil⟩
 |p :: ae,_,r=>by
  cases r with
  |@cons a b as bs h t =>obtain⟨rs,c,q⟩:=be' t;obtain⟨b1,b2⟩:=b;exact⟨(p.1,b2) :: rs,⟨JJ h.1,rfl,c⟩,.cons ⟨rfl,h.2⟩ q⟩
def hf'(Ki:List (TE × TE)):TE:=λσ H Q=>∀ p,H p=none->Wc Ki σ (upd H p (.dK [])) λps H2=>H2 p=some (.dK [])/\∃ ae:List (Key × V),ps=ae.map (λkv=>(kV kv.1,kv.2))/\ae.length<=15/\Q (.ref p) (upd H2 p (.dK (Rt [] ae)))
def hg'{X:Cx}(h:T6 X pos keys values Ki)(D7:keys.all (·.isSome)=true)(hl:keys.length=values.length)(h0:keys≠[])(h15:keys.length<=15):PE X (.Dict keys values pos) (hf' Ki):=by
 intro pins s σ H Q I q;have hn:=I.aI.fresh (cx s.heap.objs.size);have I1:=I.laid (t':=s.toks) (λ_ _ q=>i3 _ q) (cx _) (bc' s.heap I.big);refine wpAny_Dict_walk (knd:=kc X.prog X.w) D7 hl h0 h15 (cv (h pins _ σ _ _ I1 (q _ hn)) λws s2 dP=>?_);obtain⟨ps,H2,I2,rel,e,ae,ep,lk,q2⟩:=dP;subst ep;obtain⟨rs,c,rk⟩:=be' (P:=X.prog) (w:=X.w) rel;obtain⟨z,hd,T7,r0,dd⟩:=aZ' I2.aI e;cases r0;refine⟨rs,c,dd,λh' D6 hs=>⟨.ref s.heap.objs.size,_,?_,rfl,q2⟩⟩;have hz:(Rt [] ae).length<=bI:=by have h1:=bd' ae [];rw[P4] at h1;rw[oi];lia
 have he:∃ q,h'.get? s.heap.objs.size=some q:=let ⟨q,_,_,hq,_⟩:=D6;⟨q,hq⟩
 exact T3 I2 (by rw[e];exact True.intro) hs he (ba' hz hd (rk.merge .nil) D6)
structure M2(X:Cx)(o:Expr)(m:Str)(apos:Pos)(e f:Expr)(eI:Pos):Prop where
 base:vj o m X.env (b4 o X.env)=b4 o X.env
 few:((gy eI (bE [e,f] X.env)).all (fun x=>!x.1) && (zk eI (zi [] X.env)).all (fun x=>x.1.isSome)
  && decide (([e,f]:List Expr).length+([]:List qV).length+(if ([]:List qV).isEmpty then 0 else 1)<30))=true
 line:(apos.endLine == eI.line)=true
 trees:gy eI (bE [e,f] X.env)=[(false,b4 e X.env),(false,b4 f X.env)]
end L2
end
namespace Att
open PySem PySem.W PySem.Calls PyProof.Rows
def hu'{P:Params}:∀ (ns:List Int) (vs:List ah),WellAll P h vs (ns.map WData.int)->IntsAre vs ns:=by
 intro ns
 induction ns with
 |nil =>intro vs w;cases w;exact .nil
 |cons n ns ih =>
  intro vs w
  cases w with
  |cons a b =>cases a;exact .cons _ _ (ih _ b)
def hx'{l:OpenLaw}{n:Nat}(hn:l.most=some n){P:Params}{h:c9}{args:List WData}{vals:List ah}(FC:l.row.toRowW.claim.pre args=true) (Wd:WellAll P h vals args) :
  ∃ a vs ns,vals=[Value.ref a]/\args=[WData.list (ns.map WData.int)]/\h.get? a=some { cls:=.type "list",data:=.seq vs.toArray }/\IntsAre vs ns/\ns.length<=n:=by
 have hsh:WShape.hasAll [] args [.list .int]=true:=(pre_splitW FC).1;have hc:l.pre.holds [] { args:=args }=true:=(pre_splitW FC).2;obtain⟨d,r,rfl,h1,h2⟩:=hasAllW_cons hsh;obtain rfl:=hasAllW_nil h2;obtain⟨xs,rfl,h3⟩:=hasW_list h1;obtain⟨ns,rfl⟩:=items_int h3;have hlen:ns.length<=n:=by
  have h4:(WTm.not (.lt (.lit (.int n)) (.len (.arg 0)))).holds [] { args:=[.list (ns.map .int)] }=true:=by have h4:=(holds_andW hc).1;rw[hn] at h4;exact h4
  have h5:=condW_of h4 (w_not (w_lt w_lit (w_len_list (w_arg rfl))));refine Nat.le_of_not_lt λq=>?_;first
   | (rw[decide_eq_true q'] at h5;exact absurd h5 (by decide))
   | (simp at h5;lia)
 cases Wd with
 |cons w1 w2 =>
  cases w2
  cases w1 with
  |list ho D7=>exact⟨_,_,ns,rfl,rfl,ho,hu' ns _ D7,hlen⟩
def hC'(l:OpenLaw)(args:List WData):l.row.toRowW.claim.post args (.bool true) args=true :=
 postW_of (by first|rfl|decide|simp[WShape.has,WShape.arms,WShape.armsAll]) (w_eq_bool (w_res rfl) w_lit) rfl
def hD'{l:OpenLaw}{n:Nat}{q:b9}{loose:List Str}{XP:(Str->Option ah)->c9->Prop}{YP:cy->c9->Prop}{d:DefRec}(hn:l.most=some n) (Ru:d.params.defaults=[])(call:∀ (w:cy) (fT ft:aC) (mg mb:Str->Option ah) (fa:ag) (o:Obj) (pm cd doc:ah) (a:ag) (vs:List ah) (ns:List Int),
   Ground q loose [] XP w fT mg mb ft.heap->YP w ft.heap ->
   ft.heap.get? fa=some o->o.data=.func (docDef d.name d.params d.body d.scope pm cd doc)->ft.heap.CodeRec cd d.name->mg d.name=some (.ref fa) ->
   ft.heap.get? a=some { cls:=.type "list",data:=.seq vs.toArray }->IntsAre vs ns->ns.length<=n->ft.gens = #[] ->
   codeAny (aT l.prog w) callerA (.call (.ref fa) ⟨[.ref a],[]⟩) (λr s'=>r=.ok (.ret (.bool true))/\OldK ft.heap s'.heap/\s'.os=ft.os/\AllBare s'.gens) ft) :
  WalkO q loose XP YP l.row.toRowW d [] (λf vs=>PySem.call f vs):=by
 intro w fT ft mg mb G Y fa o pm cd doc dV kV ho hd pS hD Rv hg args vals as FC hlay hrd Wd FD;obtain rfl:dV=.none:=Dflts.none hD Ru;obtain rfl:kV=.none:=Dflts.noKw hD;obtain⟨a,vs,ns,rfl,rfl,Wg,hints,hlen⟩:=hx' hn FC Wd;refine enter_call (codeAny_mono (call w fT ft mg mb fa o pm cd doc a vs ns G Y ho (fd_plain hd) pS Rv Wg hints hlen hg) λr s' hq=>?_);obtain⟨rfl,h2,h3,h4⟩:=hq;exact⟨.inl ⟨.bool true,.bool true,[],rfl,λ_=>rfl,.bool true,hC' l _,λ_=>⟨List.Pairwise.nil,λ_ hm=>(nomatch hm)⟩⟩,h2,h3,h4⟩
end Att
section
open PySem PySem.Spec PyProof.Rows
namespace L2
theorem bg':∀ {vs:List ah} {ns:List Int},IntsAre vs ns->Vals (ns.map V.int) vs
 |_,_,.nil=>.nil
 |_,_,.cons n t h=>.cons ⟨t,rfl⟩ (bg' h)
def Only(H:Hp):Prop:=∀ b,H b=none\/∃ o xs,H b=some (.pE o (.lst xs))
def hE'{P:b9}{K:ax}(KX:K.In ft.heap) (hns:ft.heap.Ns gi mg) (hb:ft.heap.Ns builtinsNs mb) (hbb:∀ x:Str,x ≠ "__name__"->mb x=og x) (hG':ft.heap.NoLimit) (hg:ft.gens = #[])(ha:ft.heap.get? a=some { cls:=.type "list",data:=.seq vs.toArray }) (hi:IntsAre vs ns) (hl:ns.length<=bI) (hr:gp k callerA) (F:∀ base:c9,K.In base->base.Ns gi mg->ja P w K mg base CX k fa fd [x] sp) (hH':∀ (s:aC) (u:ah),BindsTo s fd ⟨[u],[]⟩ [(x,u)]) (An:∀ H:Hp,Only H->eL K H a (ns.map V.int)->sp [.ref a] H (λv _=>v=.bl true) λ_ _ _=>False) (Wh:∀ H e s',CX [] H ft (λ_ _ _=>False) e s'->False) :
  codeAny (aT P w) callerA (.call (.ref fa) ⟨[.ref a],[]⟩) (λr s'=>r=.ok (.ret (.bool true))/\OldK ft.heap s'.heap/\s'.os=ft.os/\AllBare s'.gens) ft:=by
 have rv:=bg' hi;have hI':=hi.length
 -- from an abstract heap in which nothing but the script may be tracked
 have core:∀ H:Hp,Only H->eL K H a (ns.map V.int)->hU P w H ft.heap->(∀ b,H b≠none->b=a)->(H a≠none->K.lookup a=none) ->
   codeAny (aT P w) callerA (.call (.ref fa) ⟨[.ref a],[]⟩) (λr s'=>r=.ok (.ret (.bool true))/\OldK ft.heap s'.heap/\s'.os=ft.os/\AllBare s'.gens) ft:=by
  intro H hO hS aI hA hK;have bi':∀ {b:ag} {o:Obj},ft.heap.get? b=some o->H b=none->(DU ft.heap H).get? b=some o:=λe n=>dR' e n;have Ri:∀ {b:ag} {o:Obj} {es:Array DictEntry} {ep:Nat},ft.heap.get? b=some o->o.data=.dict es ep->H b=none:=λ{b o es ep} e d=>by
   cases q:H b with
   |none=>rfl
   |some u =>have e':b=a:=hA b (by rw[q];simp);subst e';rw[ha] at e;cases e;have d':Data.seq vs.toArray _=Data.dict es ep:=d;cases d'
  have T8:∀ {b:ag} {m:Str->Option ah},ft.heap.Ns b m->(DU ft.heap H).Ns b m:=λ{b m} ⟨o,es,ep,e,d,r⟩=>⟨o,es,ep,bi' e (Ri e d),d,r⟩
  have hKb:K.In (DU ft.heap H):=λb o e=>bi' (KX b o e) (by
   cases q:H b with
   |none=>rfl
   |some u =>
    have e':b=a:=hA b (by rw[q];simp);subst e';rw[hK (by rw[q];simp)] at e;cases e)
  have hM:Mod K mg (DU ft.heap H):=⟨hKb,T8 hns,⟨mb,T8 hb,hbb⟩,let ⟨mc,h1,h2⟩:=hG';⟨mc,T8 h1,h2⟩⟩
  have e0:IX P w K mg (DU ft.heap H) callerA [] ft H:=⟨rfl,hM,λb o e=>dS' e,P8 (dQ' _ _),trivial,λb hb=>absurd (show b∈([]:List ag) from hb) (by simp),aI,.of_eq hg⟩
  refine codeAny_mono ((F _ hKb (T8 hns)).run callerA [] ft H ⟨[.ref a],[]⟩ [.ref a] [.ref a] _ _ hr e0 (hH' ft (.ref a)) (.cons rfl .nil) (An H hO hS)) λr s' h=>?_
  cases r with
  |error e=>exact(Wh H e s' h).elim
  |ok fl =>
   cases fl with
   |next=>exact False.elim h
   |brk=>exact False.elim h
   |cont=>exact False.elim h
   |ret u =>
    obtain⟨v,H',os,bare,un,hJ',r',q⟩:=h;have q':v=.bl true:=q;subst q';obtain rfl:u=Value.bool true:=r';refine⟨rfl,OldK.of_keep λb o e=>?_,os,bare⟩
    cases q:H b with
    |none=>exact un.keep b o e q (by intro z;exact absurd (show b∈([]:List ag) from z) (by simp)) (by simp)
    |some u =>
     rcases hO b with z|⟨ob,xs,z⟩
     ·rw[q] at z;cases z
     ·have z2:=un.vv b ob _ z;obtain⟨e1,_⟩:=aI b _ z;obtain⟨e2,_⟩:=hJ' b _ z2;rw[e] at e1;cases e1;exact e2
 cases hk:K.lookup a with
 |some o =>
  -- the script is one of the module's own objects
  have e:=KX a o hk;rw[ha] at e;cases e;refine core (λ_=>none) (λ_=>.inl rfl) (.inr ⟨_,vs.toArray,_,hk,rfl,rfl,rfl,by rw[jS,hI'];exact hl,by simpa using rv⟩) (λb u z=>by have z':none=some u:=z;cases z') (λb z=>absurd rfl z) λz=>absurd rfl z
 |none =>
  refine core (λb=>if b=a then some (.pE { cls:=.type "list",data:=.seq vs.toArray } (.lst (ns.map V.int))) else none) (λb=>?_) (.inl (.inr ⟨{ cls:=.type "list",data:=.seq vs.toArray },if_pos rfl⟩)) (λb u z=>?_) (λb z=>?_) λ_=>hk
  ·by_cases hb:b=a
   ·exact .inr ⟨_,_,if_pos hb⟩
   ·exact .inl (if_neg hb)
  ·by_cases hb:b=a
   ·have z':=(if_pos hb).symm.trans z;cases z';subst hb;exact⟨ha,by rw[dr];exact hl,vs,_,rv,ha⟩
   ·have z':=(if_neg hb).symm.trans z;cases z'
  ·by_cases hb:b=a
   ·exact hb
   ·exact absurd (if_neg hb) z
def hK'{l:Vc}{n k:Nat}{q:b9}{loose:List Str}{XP:(Str->Option ah)->c9->Prop}{YP:cy->c9->Prop}{d:DefRec}{K:Params->ax}{CX:cy->D4}{sp:cy->Sp}{x:Str}(hn:l.most=some n) (IQ:n<=bI) (Ru:d.params.defaults=[]) (hr:gp k callerA)(hY:∀ (w:cy) (h:c9),YP w h->(K w.params).In h)(F:∀ (w:cy) (mg:Str->Option ah) (fa:ag) (h:c9),(K w.params).In h->h.Ns gi mg->mg d.name=some (.ref fa) ->
   ∃ fd:nK,(∀ (s:aC) (u:ah),BindsTo s fd ⟨[u],[]⟩ [(x,u)]) /\
    ∀ base:c9,(K w.params).In base->base.Ns gi mg->ja l.prog w (K w.params) mg base (CX w) k fa fd [x] (sp w))
  (An:∀ (w:cy) (H:Hp) (a:ag) (ns:List Int),ns.length<=n->Only H->eL (K w.params) H a (ns.map V.int)->sp w [.ref a] H (λv _=>v=.bl true) λ_ _ _=>False)
  (Wh:∀ (w:cy) (H:Hp) (s:aC) (e:ah) (s':aC),CX w [] H s (λ_ _ _=>False) e s'->False) :
  PySem.W.WalkO q loose XP YP l.row.toRowW d [] (λf vs=>PySem.call f vs):=by
 refine Att.hD' hn Ru λw fT ft mg mb fa o pm cd doc a vs ns G Y ho hd pS Rv Wg hints hlen hg=>?_;have KX:=hY w _ Y;obtain⟨fd,hb,hF⟩:=F w mg fa _ KX G.T.g Rv;exact hE' KX G.T.g G.T.b G.T.builtins G.T.nolimit hg Wg hints (iO hlen IQ) hr hF hb (λH hO hS=>An w H a ns hlen hO hS) λH e s'=>Wh w H ft e s'
def sN(s:g9):Arguments:=match s with
 |.FunctionDef _ a _ _ _ _ _ _ _ _=>a
 |_=>{ posonlyargs:=[],args:=[],vararg:=none,kwonlyargs:=[],kw_defaults:=[],kwarg:=none,defaults:=[] }
def kS(s:g9):List g9:=match s with
 |.FunctionDef _ _ b _ _ _ _ _ _ _=>b
 |_=>[]
def d5(s:g9):Scope:=match s with
 |.FunctionDef _ _ _ _ _ _ sc _ _ _=>sc
 |_=>{ kind:=.function,names:=[],isGenerator:=false,isCoroutine:=false }
abbrev kr:D4:=λ_ _ _ _ _ _=>False
abbrev E0:XK:=λ_ _ _=>False
def T9{X:Cx}:Passes kr X E0:=λ_ _ _ _ _ _ _ h=>h.elim
structure nV(K:ax)(x qual:Str)(st:g9)(f:ag)(fd:nK):Prop where
 ex:∃ (oc:ah) (od:Option ag) (kV doc pm:ah) (an:Option ag) (cK ct:ah) (z5:Array (Option ah)),
  fd=pj x qual (sN st) (kS st) (d5 st) .none kV doc pm an cK ct/\K.lookup f=some ⟨oc,od,.func fd,z5⟩/\BE K cK qual=true
 kp:tJ K (.ref f)=true
section
variable {P:b9}{w:cy}{K:ax}{mg:Str->Option ah}{base:c9}
def nV.ok{st:g9}{N ps:List Str}(F:nV K x qual st f fd)(S:xi N ps (d5 st))(len:∀ vs H Q E,sp vs H Q E->vs.length=ps.length)(vx:∀ (cK:ah) (A:e7) (outer:List Env) (s:aC) (H:Hp) (vs:List V) (Q:VK) (E:XK),gp k (A.deeper (ki qual (d5 st) s.heap.objs.size f cK))->sp vs H Q E ->
   ∃ t,lP (lT kr P w K mg base N qual (d5 st) f cK A outer s H E).xh (kS st) t/\t { nx:=λ_ H'=>Q .non H',rt:=Q } (start N vs) H):ja P w K mg base kr (k+1) f fd ps sp:=by
 obtain⟨oc,od,kV,doc,pm,an,cK,ct,z5,rfl,lk,pS⟩:=F.ex;refine V3 lk pS S len λA outer s H vs Q E hr An=>?_;obtain⟨t,h,q⟩:=vx cK A outer s H vs Q E hr An;exact⟨t,h.xh,q⟩
def nV.binds{st:g9}{ps:List Str}(F:nV K x qual st f fd)(h:∀ (kV doc pm:ah) (an:Option ag) (cK ct:ah) (us:List ah),us.length=ps.length->bindArgs (pj x qual (sN st) (kS st) (d5 st) .none kV doc pm an cK ct) ⟨us,[]⟩=pure (ps.zip us)):Binds K fd ps []:=by
 obtain⟨oc,od,kV,doc,pm,an,cK,ct,z5,rfl,lk,pS⟩:=F.ex;exact .all (h kV doc pm an cK ct)
def Nc{st:g9}{kV doc pm cK ct:ah}(l:K.lookup f=some ⟨oc,od,.func (pj x qual (sN st) (kS st) (d5 st) .none kV doc pm an cK ct),z5⟩)(c:BE K cK qual=true) (k:tJ K (.ref f)=true):nV K x qual st f (pj x qual (sN st) (kS st) (d5 st) .none kV doc pm an cK ct):=⟨⟨oc,od,kV,doc,pm,an,cK,ct,z5,rfl,l,c⟩,k⟩
end
section
variable {X:Cx}
def pv (i:Nat) (hN:autoParam (X.N[i]? = some x) bv) (hv:Q6 X.env.scope x:=by first|exact Or.inl rfl|exact Or.inr (Or.inl rfl)|exact Or.inr (Or.inr rfl)) (hd:(x == ("__debug__" : Str))=false:=by decide) (pS:(x == ("__classdict__" : Str))=false:=by decide):PE X (.Name x pos) (i5 i):=Ra hN hv hd pS
end
def bq(H H':Hp):Prop:=∀ b o,H b=some o->H' b=some o
def bq.refl(H:Hp):bq H H:=λ_ _ h=>h
def bq.trans(a:bq H H1)(b:bq H1 H2):bq H H2:=λc o h=>b c o (a c o h)
def bq.free(e:bq H H')(h:H' l=Option.none):H l=Option.none:=by
 cases q:H l with
 |none=>rfl
 |some o =>rw[e l o q] at h;cases h
def bq.seq{K:ax}(e:bq H H')(h:eL K H a xs):eL K H' a xs:=by
 rcases h with(h|⟨o,h⟩)|h
 ·exact .inl (.inl (e _ _ h))
 ·exact .inl (.inr ⟨o,e _ _ h⟩)
 ·exact .inr h
end L2
namespace L2
def vT(env:Env):List (Str × AQ)->List (Str × ag)->List (Str × ag)
 |[],cs=>cs
 | (n,k) :: r,cs=>vT env r (if k == NameKind.free then (n,(env.cells.lookup n).getD 0) :: cs else cs)
def ig(env:Env):∀ (names:List (Str × AQ)) (cs:List (Str × ag)),(∀ y∈names,y.2=.free->∃ c,env.cells.lookup y.1=some c) -> (forIn names cs λx r=>match x with
   | (name,kind)=>if (kind == NameKind.free)=true then do let a <- cellOf env name;pure (ForInStep.yield ((name,a) :: r)) else pure (ForInStep.yield r):Sem (List (Str × ag)))=pure (vT env names cs)
 |[],cs,_=>rfl
 | (n,k) :: r,cs,h=>by
  rw[List.forIn_cons];have ih:=ig env r;by_cases hk:k=.free
  ·subst hk;obtain⟨c,e⟩:=h (n,.free) fo rfl;have e2:cellOf env n=pure c:=by unfold cellOf;rw[e]
   have e3:vT env ((n,.free) :: r) cs=vT env r ((n,c) :: cs):=by show vT env r (if (NameKind.free == NameKind.free)=true then (n,(env.cells.lookup n).getD 0) :: cs else cs)=_;rw[e];rfl
   rw[e3,<- ih ((n,c) :: cs) λy hy=>h y (eA _ hy)];simp only[beq_self_eq_true,if_true,e2];rfl
  ·have hb:(k == NameKind.free)=false:=by simpa using hk
   have e3:vT env ((n,k) :: r) cs=vT env r cs:=by show vT env r (if (k == NameKind.free)=true then _ else cs)=_;rw[hb];rfl
   rw[e3,<- ih cs λy hy=>h y (eA _ hy)];simp only[hb,xI,if_false];rfl
def nT(h:∀ y∈scope.names,y.2=.free->∃ c,env.cells.lookup y.1=some c):closureFor scope env=pure (vT env scope.names []):=by have:=ig env scope.names [] h;rw[<- bind_pure (forIn scope.names [] _)] at this;exact this
theorem oE:∀ {names:List (Str × AQ)} {cs:List (Str × ag)},(∀ y∈names,y.2=.free->∃ c,env.cells.lookup y.1=some c)->(∀ y d,cs.lookup y=some d->env.cells.lookup y=some d) -> (vT env names cs).lookup x=some c->env.cells.lookup x=some c
 |[],cs,_,h,e=>h x c e
 | (n,k) :: r,cs,hf,h,e=>by
  refine oE (λy hy=>hf y (eA _ hy)) ?_ e;intro y d hd;by_cases hk:k=.free
  ·subst hk;obtain⟨c',e'⟩:=hf (n,.free) fo rfl;simp only[beq_self_eq_true,if_true,e',Option.getD_some,SN] at hd
   cases hb:y == n with
   |true=>rw[hb] at hd;have:y=n:=eq_of_beq hb;subst this;rw[e'];exact hd
   |false=>rw[hb] at hd;exact h y d hd
  ·have hb:(k == NameKind.free)=false:=by simpa using hk
   simp only[hb,xI,if_false] at hd;exact h y d hd
theorem km:∀ {names:List (Str × AQ)} {cs:List (Str × ag)},((x,NameKind.free)∈names\/∃ c,cs.lookup x=some c)->∃ c,(vT env names cs).lookup x=some c
 |[],cs,h=>by
  rcases h with h|h
  ·exact nomatch h
  ·exact h
 | (n,k) :: r,cs,h=>by
  refine km (names:=r) ?_;rcases h with h|⟨c,h⟩
  ·rcases eJ.mp h with e|h
   ·cases e;refine .inr ⟨(env.cells.lookup x).getD 0,?_⟩;simp only[beq_self_eq_true,if_true,SN]
   ·exact .inl h
  ·refine .inr ?_;by_cases hk:(k == NameKind.free)=true
   ·simp only[hk,if_true,SN]
    cases hb:x == n with
    |true=>exact⟨_,rfl⟩
    |false=>exact⟨c,h⟩
   ·simp only[hk,if_false];exact⟨c,h⟩
def aY(X:Cx)(scope:Scope)(C:ag)(N:List Str)(fp:List ag)(h8:aC)(ku:Hp):Cx :=
 { X with N:=N,fT:=h8,DV:=ku,env:=compEnvC scope (vT X.env scope.names []) C X.env,outer:=X.stack,stack:=X.stack,ex:=fp,fn:=λ_=>false,pn:=[],xe:=λ_ _=>False }
def D8(X:Cx)(ifs:List Expr)(t:TT):Prop :=
 ∀ (pins:List (ag × Obj)) (s:aC) (σ:St) (H:Hp) (Q:Bool->Hp->Prop),Inv X pins σ H s->t σ H Q ->
  b5 (aT X.prog X.w) X.A (forIn ifs true λc r=>if r=true then do let ok <- isTrue c X.env (b4 c X.env);pure (ForInStep.yield ok) else pure (ForInStep.yield r)) (TP X pins σ Q) X.xe s
def hL':TT:=λ_ H Q=>Q true H
def FW{X:Cx}:D8 X [] hL':=λ_ _ _ H _ I h=>wpAny_tests_nil ⟨H,I,h⟩
def fW{R:Result->aC->Prop}(I:Nat->aC->Prop)(E:ah->aC->Prop)(turn:∀ n s,I n s->b5 (aT prog w) A (pyNext it) (λr ft=>match r with
   |none=>R (.ok .next) ft
   |some v=>b5 (aT prog w) A (letOwnedTupleGo target it v) (λ_ fT=>b5 (aT prog w) A (assign target env v) (λ_ AX =>
     b5 (aT prog w) A (forIn ifs true λc r=>if r=true then do let ok <- isTrue c env (b4 c env);pure (ForInStep.yield ok) else pure (ForInStep.yield r)) (λok h8 =>
      if ok=true then b5 (aT prog w) A (b4 elt env) (λx bk' =>
       b5 (aT prog w) A (call (.builtin "list.append") [acc,x]) (λ_ bl'=>∃ m,m<n/\I m bl') E bk') E h8
      else ∃ m,m<n/\I m h8) E AX) E fT) E ft) E s)
  (hE:∀ e s',E e s'->notedBy (aT prog w) A env (λe s'=>R (.error e) s') e s')
  (n:Nat) (h:I n s) :
  codeAny (aT prog w) A (.compLoop (.ListComp elt [⟨target,iter,ifs,0⟩] scope pos) 0 it acc env) R s:=by
 refine codeAny_loop rfl I (λn s hI=>?_) n h;refine wpAny_noted ?_;refine sq ?_ (λ_ _ q=>q) hE;refine bS (wpAny_standAt (bS (sq (turn n s hI) (λr ft Kb=>?_) λ_ _ h'=>h')))
 cases r with
 |none=>exact dk Kb
 |some v =>
  refine bS (sq Kb (λ_ fT h₀=>?_) λ_ _ h'=>h');refine bS (sq h₀ (λ_ AX Rr=>bS (sq Rr (λok h8 T5=>?_) λ_ _ h'=>h')) λ_ _ h'=>h')
  cases ok with
  |false=>exact dk ⟨rfl,T5⟩
  |true =>exact bS (bS (sq T5 (λx bk' hM'=>bS (sq hM' (λ_ bl' hO'=>dk (dk ⟨rfl,hO'⟩)) λ_ _ h'=>h')) λ_ _ h'=>h'))
def lM(tn:Nat)(ix:List Nat)(σ:St):St:=List.replicate tn none++ix.map λj=>(σ[j]?).join
def vo(wi:TI)(g:TG)(tc:TT)(te:TE)(tn:Nat)(ix:List Nat):TE:=λσ H Q=>wi σ H λJ H1=>∀ D,H1 D=none ->
 ∃ W:Nat->Nat->St->Hp->Prop,(∃ m,W 0 m (lM tn ix σ) (upd H1 D (.lst [])))/\∀ i m τ H,W i m τ H -> (J.stop i H/\Q (.ref D) H)\/(J.go i H/\∃ (N1:St->V->Hp->Prop) (N2:St->Hp->Prop), (∀ oq v H4,N1 oq v H4->∃ ys m',H4 D=some (.lst ys)/\ys.length<bI/\m'<m/\W (i+1) m' oq (upd H4 D (.lst (ys++[v])))) /\ (∀ oq H3,N2 oq H3->∃ m',m'<m/\W (i+1) m' oq H3) /\
   ∀ x H',J.lS i H x H'->g x τ H' λoq H2=>tc oq H2 λb H3=>if b=true then te oq H3 (N1 oq) else N2 oq H3)
section
variable {X:Cx}{tg iter elt:Expr}{ifs:List Expr}{scope:Scope}{pos:Pos}{wi:TI}{g:TG}{tc:TT}{te:TE}{tn cn:List Str}{ix:List Nat}
structure dZ(X:Cx)(scope:Scope)(tn cn:List Str)(ix:List Nat):Prop where
 kind:scope.kind=.function
 hQ':∀ y∈scope.names,y.2≠.cell
 free:∀ y∈scope.names,y.2=.free->X.env.scope.names.lookup y.1=some .cell\/X.env.scope.names.lookup y.1=some .free
 names:∀ y∈scope.names,y.2=.local->scope.names.lookup y.1=some .local
 len:ix.length=cn.length
 cap:∀ (k j:Nat),ix[k]? = some j->∃ y,cn[k]? = some y/\X.N[j]? = some y/\(X.env.scope.names.lookup y=some .cell\/X.env.scope.names.lookup y=some .free)/\(y,NameKind.free)∈scope.names /\
  ((relabel scope X.env).names.lookup y=some .cell\/(relabel scope X.env).names.lookup y=some .free)
 all:∀ x,(relabel scope X.env).names.lookup x=some .cell\/(relabel scope X.env).names.lookup x=some .free->(x,NameKind.free)∈scope.names
def v5(O:dZ X scope tn cn ix)(I:Inv X pins σ H s)(hf:∀ b∈fp,x5 X pins H b)(hfs:∀ b∈fp,b<s.heap.objs.size)(hC:s.heap.objs.size<=C) : (aY X scope C (tn++cn) fp s H).Ok:=by
 have sP:∀ y∈scope.names,y.2=.free->∃ c,X.env.cells.lookup y.1=some c:=λy hy hk=>I.ok.has y.1 (O.free y hy hk);have sub:∀ x c,(vT X.env scope.names []).lookup x=some c->X.env.cells.lookup x=some c:=λx c e=>oE sP (λy d h=>by simp at h) e;refine⟨I.ok.mod,O.kind,I.ok.glob,I.ok.blt,hC,λx y c h1 h2=>I.ok.inj x y c (sub x c h1) (sub y c h2),λx hx=>km (.inl (O.all x hx)),(λx c h _=>nomatch h),I.ok.hd,I.ok.frames,.inl rfl,λb hb=>⟨?_,λx c e=>?_⟩,
  I.bs,iO I.ok.xa I.sz,λb o e hb=>?_,λb hb=>?_,I.stack,I.Vz⟩
 ·exact j3 (pz (hfs b hb) hC)
 ·exact(hf b hb).2.2.2.2.1 x c (sub x c e)
 ·rcases (hf b hb).2.2.2.1 with z|z
  ·exact I.ok.B5 b o e z
  ·exact absurd (pz (fS e) (iO I.ok.xa z)) (xE _)
 ·intro hz;rcases eJ.mp (I.Vy b hz) with e|e
  ·exact(hf b hb).2.1 e
  ·exact(hf b hb).2.2.1 e
def sO{P:ah->aC->Prop}(hc:X.calm=true)(hi:PI X tg iter wi)(O:dZ X scope tn cn ix)(hg:∀ C fp h8 ku,PG (aY X scope C (tn++cn) fp h8 ku) tg g) (Ap:∀ C fp h8 ku,D8 (aY X scope C (tn++cn) fp h8 ku) ifs tc) (he:∀ C fp h8 ku,PE (aY X scope C (tn++cn) fp h8 ku) elt te)(hs:∀ x,E2 iter X.env x=pure x) (I:Inv X pins σ H s) (h:vo wi g tc te tn.length ix σ H Q)(fin:∀ (C D:ag) (m:Str->Option ah) (H5:Hp) (s6:aC) (r:Flow),Inv X pins σ H5 s6->s6.heap.Ns C m->H5 C=none->x5 X pins H5 C->Q (.ref D) H5->compPost (aT X.prog X.w) X.A X.xe use P (.ref D) C (.ok r) s6) :
  b5 (aT X.prog X.w) X.A (comprehension (.ListComp elt [⟨tg,iter,ifs,0⟩] scope pos) scope X.env pa' (newList []) false (b4 iter X.env) use) P X.xe s:=by
 have sP:∀ y∈scope.names,y.2=.free->∃ c,X.env.cells.lookup y.1=some c:=λy hy hk=>I.ok.has y.1 (O.free y hy hk);have sub:∀ x c,(vT X.env scope.names []).lookup x=some c->X.env.cells.lookup x=some c:=λx c e=>oE sP (λy d h=>by simp at h) e;refine wpAny_comprehension_free rfl hs (nT sP) O.kind O.names (cv (hi pins s σ H _ I h) λv s1 h1=>cv h1 λVL s2 h2=>?_);obtain⟨it,fp,T_,J,H2,e,I2,T,zI,f2,h2⟩:=h2;subst e;obtain⟨W,⟨m0,w0⟩,turn⟩:=h2 s2.heap.objs.size (I2.aI.fresh (cx _));refine DB ?_;have I3:Inv X pins σ (upd H2 s2.heap.objs.size (.lst [])) { s2 with heap:=s2.heap.push { cls:=.type "list",data:=.seq ([]:List ah).toArray } }:=I2.Ro .nil (fI _);generalize hD:s2.heap.objs.size=D at *
 generalize Wi:({ s2 with heap:=s2.heap.push { cls:=.type "list",data:=.seq ([]:List ah).toArray } }:aC)=s3 at *
 have k23:∀ b o,s2.heap.get? b=some o->s3.heap.get? b=some o:=λb o e=>by rw[<- Wi];exact i3 _ e
 have f3:∀ b∈fp,x5 X pins (upd H2 D (.lst [])) b:=λb hb=>by obtain⟨f0,fr⟩:=f2 b hb;obtain⟨o,ho,_⟩:=T.obj _ _ zI b hb;refine⟨?_,fr⟩;rw[dn (j3 (by rw[<- hD];exact fS ho))];exact f0
 have zS:T_ 0 s3.heap:=T.keep _ _ _ zI λb hb o e=>k23 b o e;have lt3:∀ b∈fp,b<s3.heap.objs.size:=λb hb=>by obtain⟨o,ho,_⟩:=T.obj _ _ zS b hb;exact fS ho
 refine wpAny_newFunctionEnv O.hQ' (by intro y hy;simp at hy) (λKb hU' hV'=>?_) O.kind;have Kj:∀ b o,s3.heap.get? b=some o->Kb.get? b=some o:=λb o e=>hV'.extBut b o (j3 (fS e)) (i3 _ e)
 -- the block's context
 have Ua:=v5 O I3 f3 lt3 (cx _);have I4:Inv (aY X scope s3.heap.objs.size (tn++cn) fp s3 (upd H2 D (.lst []))) [] (lM tn.length ix σ) (upd H2 D (.lst [])) { s3 with heap:=Kb,toks:=s3.toks+([]:List (Str × ah)).length }:=by
  refine⟨Ua,rfl,I3.bare,Un.kept Kj,⟨_,hU',λi x v e1 e2 e3=>?_⟩,λx c e=>?_,I3.aI.fresh (cx _),λx c e=>I3.sM x c (sub x c e),λp hp=>absurd hp (by simp[aY]),I3.aI.kept Kj,?_⟩
  ·have ny:tn.length<=i:=by
    by_cases q:i<tn.length
    ·unfold lM at e2;rw[HM (by simpa using q),Vf] at e2;simp[q] at e2
    ·lia
   unfold lM at e2;rw[DF (by simpa using ny),L6,mr] at e2;have e1:(tn++cn)[i]? = some x:=e1;rw[DF ny] at e1
   cases q:ix[i-tn.length]? with
   |none=>rw[q] at e2;cases e2
   |some j =>
    rw[q] at e2;obtain⟨y,c1,c2,c3,c4,c5⟩:=O.cap _ _ q;rw[c1] at e1;cases e1;have e2:σ[j]?.join=some v:=Option.some.inj e2;have ej:σ[j]? = some (some v):=by
     cases z:σ[j]? with
     |none=>rw[z] at e2;cases e2
     |some o=>rw[z] at e2;exact congrArg some e2
    obtain⟨m,hn,hl⟩:=I3.loc;obtain⟨u,r,l⟩:=hl j x v c2 ej (c3.elim (λz=>.inr (.inl z)) λz=>.inr (.inr z));refine⟨u,r,.inr ⟨c5,?_⟩⟩;rcases l with⟨hk,_⟩|⟨hk,c,Tn,hce⟩
    ·have hk:X.env.scope.names.lookup x=some .local:=hk;rcases c3 with z|z
     ·rw[z] at hk;cases hk
     ·rw[z] at hk;cases hk
    ·obtain⟨c',Q_⟩:=km (Or.inl c4);have:=sub x c' Q_;rw[Tn] at this;cases this;obtain⟨o,ho,hd⟩:=hce;exact⟨c,Q_,o,Kj _ _ ho,hd⟩
  ·obtain⟨v,o,ho,hd⟩:=I3.cell x c (sub x c e);exact⟨v,o,Kj _ _ ho,hd⟩
  ·show(lM tn.length ix σ).length=(tn++cn).length;unfold lM;simp[O.len]
 -- from the block back to the body
 have back:∀ {τ:St} {H':Hp} {s':aC},Inv (aY X scope s3.heap.objs.size (tn++cn) fp s3 (upd H2 D (.lst []))) [] τ H' s'->Inv X pins σ H' s':=λ{τ H' s'} I' =>
  Inv.dX' I3 I'.os I'.base I'.aI I'.bare λb hb=>by obtain⟨_,f1,_,f3',f4,f5⟩:=f3 b hb;exact⟨f3',f1,f4,f5⟩
 have Wj:∀ {H':Hp},(∀ b∈fp,H' b=none)->∀ b∈fp,x5 (aY X scope s3.heap.objs.size (tn++cn) fp s3 (upd H2 D (.lst []))) [] H' b:=λhn b hb =>
  ⟨hn b hb,(Ua.D1 b hb).1,Ua.B6 b hb,.inl hb,(Ua.D1 b hb).2,λp hp=>absurd hp (by simp[aY])⟩
 have loop:∀ s4:aC,Inv (aY X scope s3.heap.objs.size (tn++cn) fp s3 (upd H2 D (.lst []))) [] (lM tn.length ix σ) (upd H2 D (.lst [])) s4->T_ 0 s4.heap ->
   codeAny (aT X.prog X.w) X.A (.compLoop (.ListComp elt [⟨tg,iter,ifs,0⟩] scope pos) 0 (.ref it) (.ref D) (compEnvC scope (vT X.env scope.names []) s3.heap.objs.size X.env)) (compPost (aT X.prog X.w) X.A X.xe use P (.ref D) s3.heap.objs.size) s4:=by
  intro s4 I4 A0;refine fW (λn s'=>∃ i τ H',Inv (aY X scope s3.heap.objs.size (tn++cn) fp s3 (upd H2 D (.lst []))) [] τ H' s'/\T_ i s'.heap/\(∀ b∈fp,H' b=none)/\W i n τ H') (λ_ _=>False) ?_ (λ_ _ z=>z.elim) m0 ⟨0,_,_,I4,A0,λb hb=>(f3 b hb).1,w0⟩
  rintro n s5 ⟨i,τ,H5,I5,II,Tx,w5⟩;rcases turn i n τ H5 w5 with⟨stop,qn⟩|⟨go,N1,N2,hN1,hN2,step⟩
  ·refine cv (T.done (aY X scope s3.heap.objs.size (tn++cn) fp s3 (upd H2 D (.lst []))) rfl rfl rfl hc i [] s5 τ H5 (λ_ _=>False) I5 (Wj Tx) II stop) λr s6 dP=>?_;obtain⟨hr,I6⟩:=dP;subst hr;have J6:=back I6;obtain⟨m,hn,_⟩:=I6.loc;exact fin _ D m H5 s6 _ J6 hn I6.free (I3.Fm (cx _) I6.free) qn
  ·refine cv (T.item (aY X scope s3.heap.objs.size (tn++cn) fp s3 (upd H2 D (.lst []))) rfl rfl rfl hc i [] s5 τ H5 (λ_ _=>False) I5 (Wj Tx) II go) λr s6 dP=>?_;obtain⟨u,hr,h6⟩:=dP;subst hr;refine cv h6 λ_ s7 dP=>?_;obtain⟨x,H7,I7,r7,y7,Wk,fr7⟩:=dP;have I7':=I7.pinned (Wj fr7) (T.obj _ _ Wk);refine cv (hg _ _ _ _ _ s7 τ H7 x u _ I7' r7 (step x H7 y7)) λ_ s8 dP=>?_;obtain⟨Nn,H8,I8,q8⟩:=dP;refine cv (Ap _ _ _ _ _ s8 Nn H8 _ I8 q8) λok s9 dP=>?_;obtain⟨H9,I9,q9⟩:=dP;have again:∀ {s':aC} {H':Hp} {m':Nat},Inv (aY X scope s3.heap.objs.size (tn++cn) fp s3 (upd H2 D (.lst []))) ([]++Rc fp s7.heap) Nn H' s'->m'<n->W (i+1) m' Nn H' ->
     ∃ m,m<n/\∃ i τ H',Inv (aY X scope s3.heap.objs.size (tn++cn) fp s3 (upd H2 D (.lst []))) [] τ H' s'/\T_ i s'.heap/\(∀ b∈fp,H' b=none)/\W i m τ H':=λ{s' H' m'} J hm w'=>by
    refine⟨m',hm,i+1,Nn,H',J.Tw,T.keep _ _ _ Wk λb hb o e=>(J.pin (b,o) (eP _ (eP _ (Tv hb e)))).1,λb hb=>?_,w'⟩;obtain⟨o,e,d⟩:=T.obj _ _ Wk b hb;exact(J.pin (b,o) (eP _ (eP _ (Tv hb e)))).2.1
   cases ok with
   |false =>obtain⟨m',hm,w'⟩:=hN2 _ _ q9;exact again I9 hm w'
   |true =>refine cv (he _ _ _ _ _ s9 Nn H9 _ I9 q9) λx9 s10 ck=>L2.eR ck λv10 H10 I10 r10 q10=>?_;obtain⟨ys,m',hH,hz,hm,w'⟩:=hN1 _ _ _ q10;refine cv (Rp _ s10 Nn H10 (.ref D) [v10] (.ref D) [x9] (λ_ H'=>H'=upd H10 D (.lst (ys++[v10]))) I10 rfl (.cons r10 .nil) ⟨D,ys,v10,rfl,rfl,hH,hz,rfl⟩) λ_ s11 ck=>L2.eR ck λ_ H11 I11 _ q11=>?_;subst q11;exact again I11 hm w'
 exact codeAny_compStart_list (loop _ I4 (T.keep _ _ _ zS λb hb o e=>Kj b o e)) (T.self _ 0 _ _ _ (T.keep _ _ _ zS λb hb o e=>Kj b o e) (loop _ I4 (T.keep _ _ _ zS λb hb o e=>Kj b o e)))
def El(hc:X.calm=true)(hi:PI X tg iter wi)(O:dZ X scope tn cn ix)(hg:∀ C fp h8 ku,PG (aY X scope C (tn++cn) fp h8 ku) tg g) (Ap:∀ C fp h8 ku,D8 (aY X scope C (tn++cn) fp h8 ku) ifs tc) (he:∀ C fp h8 ku,PE (aY X scope C (tn++cn) fp h8 ku) elt te)(hs:∀ x,E2 iter X.env x=pure x:=by intro _;rfl):PE X (.ListComp elt [⟨tg,iter,ifs,0⟩] scope pos) (vo wi g tc te tn.length ix):=by
 intro pins s σ H Q I h;exact sO hc hi O hg Ap he hs I h λC D m H5 s6 r J6 hn hf ⟨_,g1,_,g3,g4,g5⟩ qn=>⟨m,hn,λh' Wl=>⟨.ref D,H5,J6.turned (λb o hb e=>Wl.extBut b o hb e) hf g1 g3 g4 g5,rfl,qn⟩⟩
def uN(hN:X.N.Nodup)(D9:X.N[i]? = some x)(hx:Loc X.env.scope x)(hc:X.calm=true)(hi:PI X tg iter wi)(O:dZ X scope tn cn ix)(hg:∀ C fp h8 ku,PG (aY X scope C (tn++cn) fp h8 ku) tg g) (Ap:∀ C fp h8 ku,D8 (aY X scope C (tn++cn) fp h8 ku) ifs tc) (he:∀ C fp h8 ku,PE (aY X scope C (tn++cn) fp h8 ku) elt te)(Wm:nI (.ListComp elt [⟨tg,iter,ifs,0⟩] scope pos) (some (.Name x pos')) Ub.line X.env=pure true)(hs:∀ x,E2 iter X.env x=pure x:=by intro _;rfl) (hf:X.fn x=true\/X.env.scope.names.lookup x=some .local:=by first|exact .inl rfl|exact .inr rfl|assumption) :
  PS X (.Assign [.Name x pos'] (.ListComp elt [⟨tg,iter,ifs,0⟩] scope pos) Ub) (af' (vo wi g tc te tn.length ix) (VJ i)):=by
 intro pins s σ H D0 I h;rw[exec_Assign_Name_used _ _ _ _ Wm];refine bS (wpAny_standAt (bS ?_));show b5 _ _ (do let _ <- comprehension (.ListComp elt [⟨tg,iter,ifs,0⟩] scope pos) scope X.env _ (newList []) false (b4 iter X.env) (some (assign (.Name x pos') X.env))) _ _ s;refine bS (sq (sO (use:=some (assign (.Name x pos') X.env)) (P:=λ_ s'=>SP X pins D0 .next s') hc hi O hg Ap he hs I h λC D m H5 s6 r J6 hn hfr ⟨_,g1,_,g3,g4,g5⟩ qn=>?_) (λ_ s' hq=>dk (dk hq)) λ_ _ e=>e);refine(show b5 _ _ (assign (.Name x pos') X.env (.ref D)) _ _ s6 from wpAny_assign_Name (VC J6 hN D9 hx (v:=.ref D) rfl (λs7 I7 dP=>?_) hf));obtain⟨a,sb,ha⟩:=dP;have hCa:C≠a:=by
  rcases ha with rfl|ha
  ·exact g1
  ·exact Ne.symm (g4 _ a ha)
 refine⟨m,hn.sameBut sb hCa,λh' Wl=>⟨_,H5,?_,qn⟩⟩;exact I7.turned (t':=s7.toks) (λb o hb e=>Wl.extBut b o hb e) hfr g1 g3 g4 g5
end
def Nw (a b:String):Bool:=a == b || (a == "bool" && b == "int")
def Wn (b:String):Bool:=["str", "int", "bool", "list", "tuple", "dict"].contains b
def je (K:ax) (a b:String) (ha:a∈["NoneType", "bool", "int", "str", "list", "tuple", "dict"]) (hb:b∈["str", "int", "bool", "list", "tuple", "dict"]):zh K (.type a) (.type b)=some (Nw a b):=by simp only[eJ,BM,or_false] at ha hb;rcases ha with rfl|rfl|rfl|rfl|rfl|rfl|rfl<;>rcases hb with rfl|rfl|rfl|rfl|rfl|rfl<;>kernel_rfl
section
variable {X:Cx}
def dS.imp(h:dS X f r)(hi:∀ x y H Q,r' x y H Q->r x y H Q):dS X f r' :=
 λpins s σ H x y v u Q I rx ry q=>h pins s σ H x y v u Q I rx ry (hi x y H Q q)
def L_(K:ax):R2:=λx y H Q=>∃ l b xs zs,x=.ref l/\y=.ref b/\eL K H l xs/\eL K H b zs/\xs.length+zs.length<=bI/\∀ p,H p=none->Q (.ref p) (upd H p (.lst (xs++zs)))
def Ez:dS X (oj .Add) (L_ X.K):=by
 intro pins s σ H x y v u Q I rx ry h;obtain⟨l,b,xs,zs,rfl,rfl,hH,hB,hz,q⟩:=h;cases rx;cases ry;obtain⟨its,r,pl,z⟩:=I.list hH;obtain⟨Fn,r2,pl2,z2⟩:=I.list hB;have hl:=r.length;have x8:=r2.length;obtain⟨⟨cls,dd,data,sl⟩,ho,hc,n,hd⟩:=id pl.isList;obtain⟨⟨fX',TK,data2,TL⟩,IZ,V4,n2,hd2⟩:=id pl2.isList;subst hc hd V4 hd2;have ea:its.toArray++Fn.toArray=(its++Fn).toArray:=by simp
 refine concat_meets ⟨_,ho,rfl⟩ ⟨_,IZ,rfl⟩ noFill_list_add seq_list_add PySem.F.slot_list_add PySem.F.entry_list_add (PySem.F.args_list_add_2 _ _) (list_addW l b its.toArray Fn.toArray n n2 dd TK sl TL (by simp only[jS];lia)) ⟨ho,IZ,?_⟩;rw[ea];exact⟨.ref _,_,I.Ro (r.append r2) (by rw[hJ];lia),rfl,q _ I.fresh⟩
def Aq(K:ax):R2:=λx y H Q=>match x,y with
 |.int i,.int j=>Q (.int (i+j)) H
 |.str i,.str j=>i.length+j.length<=bI/\Q (.str (i++j)) H
 |.ref a,.ref b=>∃ xs zs,eL K H a xs/\eL K H b zs/\xs.length+zs.length<=bI/\∀ p,H p=none->Q (.ref p) (upd H p (.lst (xs++zs)))
 |_,_=>False
def Dy:dS X (oj .Add) (Aq X.K):=by
 refine(eY'.or (fy'.or Ez)).imp λx y H Q h=>?_;unfold Aq at h;split at h
 ·exact .inl ⟨_,_,rfl,rfl,h⟩
 ·exact .inr (.inl ⟨_,_,rfl,rfl,h.1,h.2⟩)
 ·obtain⟨xs,zs,h1,h2,h3,h4⟩:=h;exact .inr (.inr ⟨_,_,xs,zs,rfl,rfl,h1,h2,h3,h4⟩)
 ·exact h.elim
def CG:R2:=λx y H Q=>match x,y with
 |.int i,.int j=>Q (.int (i-j)) H
 |_,_=>False
def CT:dS X (oj .Sub) CG:=eZ'.imp λx y H Q h=>by
 unfold CG at h;split at h
 ·exact⟨_,_,rfl,rfl,h⟩
 ·exact h.elim
def E_:R2:=λx y H Q=>match x,y with
 |.int i,.int j=>MS i j/\Q (.int (i*j)) H
 |_,_=>False
def Eg:dS X (oj .Mult) E_:=fa'.imp λx y H Q h=>by
 unfold E_ at h;split at h
 ·exact⟨_,_,rfl,rfl,h.1,h.2⟩
 ·exact h.elim
def Eo:R2:=λx y H Q=>match x,y with
 |.int i,.int j=>(0<j/\j<1073741824)/\Q (.int (i / j)) H
 |_,_=>False
def FJ:dS X (oj .FloorDiv) Eo:=fc'.imp λx y H Q h=>by
 unfold Eo at h;split at h
 ·exact⟨_,_,rfl,rfl,h.1,h.2⟩
 ·exact h.elim
def Fd:R2:=λx y H Q=>match x,y with
 |.int i,.int j=>0<j/\Q (.int (i % j)) H
 |_,_=>False
def Gs:dS X (oj .Mod) Fd:=fd'.imp λx y H Q h=>by
 unfold Fd at h;split at h
 ·exact⟨_,_,rfl,rfl,h.1,h.2⟩
 ·exact h.elim
def sQ(x y:Str):Bool:=decide (x.cps.toList<y.cps.toList)
def Wo:R2:=λx y H Q=>match x,y with
 |.int i,.int j=>Q (.bl (decide (i<j))) H
 |.str i,.str j=>Q (.bl (sQ i j)) H
 |_,_=>False
def jQ:dS X (fR .Lt) Wo:=(fm'.or fp').imp λx y H Q h=>by
 unfold Wo at h;split at h
 ·exact .inl ⟨_,_,rfl,rfl,h⟩
 ·exact .inr ⟨_,_,rfl,rfl,h⟩
 ·exact h.elim
def wD:dS X (fR .LtE) (λx y H Q=>∃ i j,x=.str i/\y=.str j/\Q (.bl (!sQ j i)) H):=by intro pins s σ H x y v u Q I rx ry h;obtain⟨i,j,rfl,rfl,q⟩:=h;obtain⟨t,rfl⟩:=rx;obtain⟨t',rfl⟩:=ry;exact PySem.P.le_str ⟨.bl _,H,I,rfl,q⟩
def Wq:R2:=λx y H Q=>match x,y with
 |.int i,.int j=>Q (.bl (decide (i<=j))) H
 |.str i,.str j=>Q (.bl (!sQ j i)) H
 |_,_=>False
def gM:dS X (fR .LtE) Wq:=(fn'.or wD).imp λx y H Q h=>by
 unfold Wq at h;split at h
 ·exact .inl ⟨_,_,rfl,rfl,h⟩
 ·exact .inr ⟨_,_,rfl,rfl,h⟩
 ·exact h.elim
def Wr:R2:=λx y H Q=>match x,y with
 |.int i,.int j=>Q (.bl (decide (j<i))) H
 |_,_=>False
def sE:dS X (fR .Gt) Wr:=fo'.imp λx y H Q h=>by
 unfold Wr at h;split at h
 ·exact⟨_,_,rfl,rfl,h⟩
 ·exact h.elim
def Inv.rd(I:Inv X pins σ H s)(e:Rd H a u):kR X.prog X.w H s.heap a u:=e.elim (I.aI a _) λ⟨o,e⟩=>(I.aI a _ e).2
def Uc(K:ax):List V->Hp->VK->Prop:=λxs H Q=>match xs with
 |[.str y]=>y.length<=bI/\Q (.int y.length) H
 |[.ref p]=>(∃ ys,eL K H p ys/\Q (.int ys.length) H)\/(∃ ys,kG K H p ys/\Q (.int ys.length) H)\/∃ ae,Rd H p (.dK ae)/\Q (.int ae.length) H
 |_=>False
def xT:nv X (.builtin "len") (Uc X.K):=by
 intro pins s σ H xs us Q I r h;unfold Uc at h;split at h
 ·exact TB pins s σ H _ us Q I r ⟨_,_,rfl,⟨h.1,rfl⟩,h.2⟩
 ·rcases h with⟨ys,h1,h2⟩|⟨ys,h1,h2⟩|⟨ae,h1,h2⟩
  ·exact TB pins s σ H _ us Q I r ⟨_,_,rfl,.inl ⟨ys,h1,rfl⟩,h2⟩
  ·exact TB pins s σ H _ us Q I r ⟨_,_,rfl,.inr ⟨ys,h1,rfl⟩,h2⟩
  ·obtain⟨u,rfl,ru⟩:=vals1 r;cases ru;exact gU' I h1 λt s' I'=>⟨.int ae.length,H,I',⟨t,rfl⟩,h2⟩
 ·exact h.elim
def Ud(K:ax):R2:=λx y H Q=>match x,y with
 |.ref p,.int i=>(∃ xs v,eL K H p xs/\fP xs i=some v/\Q v H)\/∃ xs v,kG K H p xs/\fP xs i=some v/\Q v H
 |.str z,.int i=>z.length<=bI/\∃ c,fP z.cps.toList i=some c/\Q (.str ⟨#[c]⟩) H
 |_,_=>False
def Cg:x6 X (Ud X.K):=by
 intro value slice pins s σ H x y v u Q I rx ry h hs;refine gt' value slice pins s σ H x y v u Q I rx ry ?_ hs;unfold Ud at h;split at h
 ·rcases h with⟨xs,w,h1,h2,h3⟩|⟨xs,w,h1,h2,h3⟩
  ·exact .inl ⟨_,xs,_,w,rfl,rfl,h1,h2,h3⟩
  ·exact .inr (.inl ⟨_,xs,_,w,rfl,rfl,h1,h2,h3⟩)
 ·obtain⟨h1,c,h2,h3⟩:=h;exact .inr (.inr ⟨_,_,c,rfl,rfl,h1,h2,h3⟩)
 ·exact h.elim
def nE(z:Str)(lo hi:Option Int):Str:=⟨((z.cps.toList.drop (HT.cE z.length 0 lo)).take (HT.cE z.length z.length hi-HT.cE z.length 0 lo)).toArray⟩
end
def xq(l:List Nat)(lo hi:Option Int)(h:((l.drop (HT.cE l.length 0 lo)).take (HT.cE l.length l.length hi-HT.cE l.length 0 lo)).length=l.length) : (l.drop (HT.cE l.length 0 lo)).take (HT.cE l.length l.length hi-HT.cE l.length 0 lo)=l:=by
 generalize HT.cE l.length 0 lo=a at *
 by_cases hl:l.length=0
 ·have:l=[]:=Sz.mp hl;subst this;simp
 ·rw[mw,BI] at h;have h1:a=0:=by lia
  subst h1;rw[List.drop_zero];exact L5 (by lia)
def vX(lo hi:Option Int)(n:Nat):Builtin.Str.strSliceIndices lo hi 1 n=(List.range (HT.cE n n hi-HT.cE n 0 lo)).map (HT.cE n 0 lo + ·):=by
 have e1:(match lo with|none=>0|some i=>max 0 (min (if i<0 then i+n else i) n))=((HT.cE n 0 lo:Nat):Int):=by
  cases lo with
  |none=>simp[HT.cE]
  |some i =>
   simp only[HT.cE];by_cases h:i<0
   ·simp only[h,if_true]<;>lia
   ·simp only[h,if_false]<;>lia
 have e2:(match hi with|none=>n|some i=>max 0 (min (if i<0 then i+n else i) n))=((HT.cE n n hi:Nat):Int):=by
  cases hi with
  |none=>simp[HT.cE]
  |some i =>
   simp only[HT.cE];by_cases h:i<0
   ·simp only[h,if_true]<;>lia
   ·simp only[h,if_false]<;>lia
 rw[<- sliceRange_one,<- e1,<- e2];cases lo<;>cases hi<;>rfl
section
variable {X:Cx}
def part_of(h:IsPart v o):∃ p:Option (Int × Tok),v=partValue p/\p.map (·.1)=o:=by
 cases h with
 |none=>exact⟨none,rfl,rfl⟩
 |int i t=>exact⟨some (i,t),rfl,rfl⟩
def Ws(K:ax):V->Option Int->Option Int->Hp->VK->Prop:=λx lo hi H Q=>match x with
 |.str z=>z.length<=bI/\Q (.str (nE z lo hi)) H
 |.ref a=>∃ xs,eL K H a xs/\∀ p,H p=none->Q (.ref p) (upd H p (.lst (I0 xs lo hi)))
 |_=>False
def HB:MY X (λx lo hi H Q=>∃ z,x=.str z/\z.length<=bI/\Q (.str (nE z lo hi)) H):=by
 intro pins s σ H x v vl vu lo hi sl Q I rx hs pl pu h;obtain⟨z,rfl,hz,q⟩:=h;obtain⟨t,rfl⟩:=rx;obtain⟨p1,rfl,e1⟩:=part_of pl;obtain⟨p2,rfl,e2⟩:=part_of pu;refine⟨"str",_,F.slot_str_getitem.lookup,DE s z t,wpAny_getItem_str_slice (st:=none) hs rfl ?_⟩;have hl:z.cps.toList.length=z.length:=by simp[Str.length]
 have ep:slicePicked z p1 p2 none=(List.range (HT.cE z.length z.length hi-HT.cE z.length 0 lo)).map (HT.cE z.length 0 lo + ·):=by unfold slicePicked;rw[e1,e2];exact vX lo hi z.length
 have ef:(slicePicked z p1 p2 none).filterMap (z.cps[·]?)=(z.cps.toList.drop (HT.cE z.length 0 lo)).take (HT.cE z.length z.length hi-HT.cE z.length 0 lo):=by rw[ep];exact pick_run z.cps _ _
 unfold sliceMade;split
 ·rename_i hc;have hw:(slicePicked z p1 p2 none).length=z.length:=by simpa using hc
  have:nE z lo hi=z:=by
   unfold nE;have e3:((z.cps.toList.drop (HT.cE z.cps.toList.length 0 lo)).take (HT.cE z.cps.toList.length z.cps.toList.length hi-HT.cE z.cps.toList.length 0 lo)).length=z.cps.toList.length:=by
    rw[hl,mw,BI,hl];rw[ep,dr,SK] at hw;have h1:HT.cE z.length z.length hi<=z.length:=by
     cases hi with
     |none=>simp[HT.cE]
     |some i=>simp only[HT.cE];split<;>lia
    lia
   have:=xq z.cps.toList lo hi e3;rw[hl] at this;rw[this]
  rw[this] at q;exact⟨.str z,H,I,⟨t,rfl⟩,q⟩
 ·rw[ef];exact⟨by
   show(nE z lo hi).length<=bI;unfold nE Str.length;simp only[jS,mw,BI,hl];lia,⟨.str (nE z lo hi),H,I.tok _,⟨_,rfl⟩,q⟩⟩
def Hc:MY X (Ws X.K):=by
 intro pins s σ H x v vl vu lo hi sl Q I rx hs pl pu h;unfold Ws at h;split at h
 ·exact HB pins s σ H _ v vl vu lo hi sl Q I rx hs pl pu ⟨_,rfl,h.1,h.2⟩
 ·obtain⟨xs,h1,h2⟩:=h;exact gx' pins s σ H _ v vl vu lo hi sl Q I rx hs pl pu ⟨_,xs,rfl,h1,h2⟩
 ·exact h.elim
def Rx(z:Str):It:=⟨λi _=>i<z.cps.size,λi H x H'=>H'=H/\∃ c,z.cps[i]? = some c/\x=.str ⟨#[c]⟩,λi _=>z.cps.size<=i⟩
def ue {P:b9} {K:ax} (Fs:ty = "str_ascii_iterator"\/ty = "str_iterator") :
  Turn P w K tg (Rx z) [it] it (λi h=>h.IsStrIter it ty z t i/\i<=z.cps.size) where
 mem:=by simp
 obj:=λi h st b hb=>by
  have e:b=it:=by simpa using hb
  subst e;obtain⟨⟨o,e,c,d⟩,_⟩:=st;exact⟨o,e,λv z=>by rw[d] at z;cases z⟩
 keep:=λi h h' st k=>let ⟨⟨o,e,c,d⟩,l⟩:=st;⟨⟨o,k it (by simp) o e,c,d⟩,l⟩
 item:=by
  intro X hP hw hK hc i pins s σ H E I hf st hg;subst hP hw hK;obtain⟨f0,f1,f2,f3,f4,f5⟩:=hf it (by simp);obtain⟨st,_⟩:=st;have hg:i<z.cps.size:=hg;have W:Walks X.prog X.w X.A it [it] [it] z.cps.size (SignAt z) (λi h=>h.IsStrIter it ty z t i):=by
   rcases Fs with rfl|rfl
   ·exact Walks.strAscii (I.ok.hd hc) it z t
   ·exact Walks.strWide (I.ok.hd hc) it z t
  refine W.item i s _ _ hg st λv h' tk hv ai kk=>?_;obtain⟨c,u,ec,rfl⟩:=hv;have I1:Inv X pins σ H { s with heap:=h',toks:=tk }:=I.turned (λb o hb e=>kk b o (by simpa using hb) e) f0 f1 f3 f4 f5;obtain⟨o,e,c',d⟩:=id ai;exact⟨_,rfl,MR (s:={ s with heap:=h',toks:=tk }) e c' d (by rcases Fs with rfl|rfl<;>decide) ⟨.str ⟨#[c]⟩,H,I1,⟨u,rfl⟩,⟨rfl,c,ec,rfl⟩,⟨ai,hg⟩,λb hb=>(hf b hb).1⟩⟩
 done:=by
  intro X hP hw hK hc i pins s σ H E I hf st hg;subst hP hw hK;obtain⟨f0,f1,f2,f3,f4,f5⟩:=hf it (by simp);obtain⟨st,hle⟩:=st;have hg:z.cps.size<=i:=hg;have e:i=z.cps.size:=Nat.le_antisymm hle hg;subst e;have W:Walks X.prog X.w X.A it [it] [it] z.cps.size (SignAt z) (λi h=>h.IsStrIter it ty z t i):=by
   rcases Fs with rfl|rfl
   ·exact Walks.strAscii (I.ok.hd hc) it z t
   ·exact Walks.strWide (I.ok.hd hc) it z t
  exact W.done s _ _ st λh' tk kk=>⟨rfl,I.turned (λb o hb e=>kk b o (by simpa using hb) e) f0 f1 f3 f4 f5⟩
 self:=λA i s Q E st h=>by
  rcases Fs with rfl|rfl
  ·exact wpAny_pyIter_striter_ascii st.1 h
  ·exact wpAny_pyIter_striter_wide st.1 h
def G_(hl:PE X l tl):PI X tg l (λσ H R=>tl σ H λx H1=>∃ z,x=.str z/\R (Rx z) H1):=by
 intro pins s σ H R I h;refine cv (hl pins s σ H _ I h) λv s1 ck=>L2.eR ck λx H1 I1 r1 q1=>?_;obtain⟨z,rfl,q⟩:=q1;obtain⟨t,rfl⟩:=r1;have fp:∀ b∈[s1.heap.objs.size],x5 X pins H1 b:=λb hb=>by
  have e:b=s1.heap.objs.size:=by simpa using hb
  subst e;exact I1.Fm (cx _) (I1.aI.fresh (cx _))
 cases ha:z.cps.all (· < 128)
 ·exact wpAny_pyIter_wide ha ⟨s1.heap.objs.size,[s1.heap.objs.size],_,_,H1,rfl,I1.kept λb o e=>i3 _ e,ue (.inr rfl),⟨⟨_,nL _ rfl,rfl,rfl⟩,fI _⟩,fp,q⟩
 ·exact wpAny_pyIter_ascii ha ⟨s1.heap.objs.size,[s1.heap.objs.size],_,_,H1,rfl,I1.kept λb o e=>i3 _ e,ue (.inl rfl),⟨⟨_,nL _ rfl,rfl,rfl⟩,fI _⟩,fp,q⟩
end
structure d8(J:It)(its:List V)(cond:Hp->Prop):Prop where
 go:∀ i H,cond H->i<its.length->J.go i H
 lS:∀ i H x H',cond H->i<its.length->J.lS i H x H'->H'=H/\its[i]? = some x
 stop:∀ H,cond H->J.stop its.length H
def Ue(z:Str):List V:=z.cps.toList.map λc=>.str ⟨#[c]⟩
def Df(z:Str):d8 (Rx z) (Ue z) (λ_=>True) where
 go:=λi H _ h=>by simpa[Ue,Rx] using h
 lS:=λi H x H' _ _ h=>by obtain⟨rfl,c,e,rfl⟩:=h;refine⟨rfl,?_⟩;unfold Ue;rw[mr,B3,e];rfl
 stop:=λH _=>by simp[Ue,Rx]
def yX(K:ax)(a:ag)(xs:List V):d8 (Tt K a) xs (λH=>eL K H a xs) where
 go:=λi H h hi=>⟨xs,xs[i],h,by simp[hi]⟩
 lS:=λi H x H' h _ y=>⟨y.1,y.2 xs h⟩
 stop:=λH h=>⟨xs,h,cx _⟩
def yc(K:ax)(a:ag)(xs:List V):d8 (VM K a) xs (λH=>kG K H a xs) where
 go:=λi H h hi=>⟨xs,xs[i],h,by simp[hi]⟩
 lS:=λi H x H' h _ y=>⟨y.1,y.2 xs h⟩
 stop:=λH h=>⟨xs,h,cx _⟩
def yh(lo:Int)(n:Nat):List V:=(List.range n).map λi=>.int (lo+(i:Nat))
def wM(lo:Int)(n:Nat):d8 (IH lo n) (yh lo n) (λ_=>True) where
 go:=λi H _ h=>by simpa[yh,IH] using h
 lS:=λi H x H' _ hi h=>by
  have hi:i<n:=by simpa[yh] using hi
  obtain⟨rfl,rfl⟩:=h;refine⟨rfl,?_⟩;simp[yh,hi]
 stop:=λH _=>by simp[yh,IH]
def ip'(J:It)(g:TG)(tb:TS)(D:Ends)(σ:St)(H:Hp):Prop :=
 ∃ W:Nat->Nat->St->Hp->Prop,(∃ m,W 0 m σ H)/\∀ i m σ H,W i m σ H -> (J.stop i H/\D.nx σ H)\/(J.go i H/\∃ N:St->Hp->Prop,(∀ bX H',N bX H'->∃ m',m'<m/\W (i+1) m' bX H')/\∀ x H',J.lS i H x H'->g x σ H' λkN H2=>tb { D with nx:=N,ct:=N,bk:=D.nx } kN H2)
def Dv(wi:TI)(g:TG)(tb:TS)(D:Ends)(σ:St)(H:Hp):ak' wi g tb D σ H=wi σ H λJ H1=>ip' J g tb D σ H1:=rfl
def J8(J:It)(g:TG)(tc:TT)(te:TE)(τ0:St)(H1:Hp)(D:ag)(Q:VK):Prop :=
 ∃ W:Nat->Nat->St->Hp->Prop,(∃ m,W 0 m τ0 (upd H1 D (.lst [])))/\∀ i m τ H,W i m τ H -> (J.stop i H/\Q (.ref D) H)\/(J.go i H/\∃ (N1:St->V->Hp->Prop) (N2:St->Hp->Prop), (∀ oq v H4,N1 oq v H4->∃ ys m',H4 D=some (.lst ys)/\ys.length<bI/\m'<m/\W (i+1) m' oq (upd H4 D (.lst (ys++[v])))) /\ (∀ oq H3,N2 oq H3->∃ m',m'<m/\W (i+1) m' oq H3) /\
   ∀ x H',J.lS i H x H'->g x τ H' λoq H2=>tc oq H2 λb H3=>if b=true then te oq H3 (N1 oq) else N2 oq H3)
def z8(wi:TI)(g:TG)(tc:TT)(te:TE)(tn:Nat)(ix:List Nat)(σ:St)(H:Hp)(Q:VK):vo wi g tc te tn ix σ H Q=wi σ H λJ H1=>∀ D,H1 D=none->J8 J g tc te (lM tn ix σ) H1 D Q:=rfl
mutual
inductive Rep(K:ax)(H:Hp):PyData->V->Prop
 |none:Rep K H .none .non
 |bool (b:Bool):Rep K H (.bool b) (.bl b)
 |int (i:Int):Rep K H (.int i) (.int i)
 |str (x:Str):Rep K H (.str x) (.str x)
 |list {a:ag} {vs:List V} {ds:List PyData}:eL K H a vs->bP K H ds vs->Rep K H (.list ds) (.ref a)
 |tuple {a:ag} {vs:List V} {ds:List PyData}:kG K H a vs->bP K H ds vs->Rep K H (.tuple ds) (.ref a)
inductive bP(K:ax)(H:Hp):List PyData->List V->Prop
 |nil:bP K H [] []
 |cons {d:PyData} {v:V} {ds:List PyData} {vs:List V}:Rep K H d v->bP K H ds vs->bP K H (d :: ds) (v :: vs)
end
section
variable {X:Cx}{pins:List (ag × Obj)}{σ:St}{H:Hp}{s:aC}
mutual
theorem Rep.reads(I:Inv X pins σ H s):∀ {d:PyData} {v:V} {u:ah},Rep X.K H d v->RelV v u->∃ as,Reads s.heap u d as
 |_,_,_,.none,r=>by cases (r);exact⟨_,.none⟩
 |_,_,_,.bool b,r=>by cases (r);exact⟨_,.bool b⟩
 |_,_,_,.int i,r=>by obtain⟨t,e⟩:=r;subst e;exact⟨_,.int i t⟩
 |_,_,_,.str x,r=>by obtain⟨t,e⟩:=r;subst e;exact⟨_,.str x t⟩
 |_,_,_,.list h hs,r=>by cases r;obtain⟨its,rv,pl,_⟩:=I.list h;obtain⟨o,e,c,n,d⟩:=pl.isList;obtain⟨as,q⟩:=bP.reads I hs rv;exact⟨_,.list e c d q⟩
 |_,_,_,.tuple h hs,r=>by cases r;obtain⟨its,rv,⟨o,e,c,n,d⟩,_⟩:=I.tuple h;obtain⟨as,q⟩:=bP.reads I hs rv;exact⟨_,.tuple e c d q⟩
theorem bP.reads(I:Inv X pins σ H s):∀ {ds:List PyData} {vs:List V} {us:List ah},bP X.K H ds vs->Vals vs us->∃ as,ReadsAll s.heap us ds as
 |_,_,_,.nil,.nil=>⟨_,.nil⟩
 |_,_,_,.cons h hs,.cons r rs=>by obtain⟨as,q⟩:=Rep.reads I h r;obtain⟨bs,q'⟩:=bP.reads I hs rs;exact⟨_,.cons q q'⟩
end
def Wt(K:ax):R2:=λx y H Q=>∃ d e,Rep K H d x/\Rep K H e y/\d.canLay0=true/\e.canLay0=true/\d.depth<=60/\Q (.bl (PyData.eqv d e)) H
def Wu(K:ax):R2:=λx y H Q=>∃ d e,Rep K H d x/\Rep K H e y/\d.canLay0=true/\e.canLay0=true/\d.depth<=60/\Q (.bl (!PyData.eqv d e)) H
def Hg(hu:X.A.units+64<gV):dS X (fR .Eq) (Wt X.K):=by intro pins s σ H x y v u Q I rx ry h;obtain⟨d,e,h1,h2,h3,h4,h5,q⟩:=h;obtain⟨as,r1⟩:=h1.reads I rx;obtain⟨bs,r2⟩:=h2.reads I ry;exact PySem.SeqAt.rcAt_reads r1 r2 h3 h4 (by lia) X.prog X.w X.xe _ ⟨.bl _,H,I,rfl,q⟩
def Ip(hu:X.A.units+64<gV):dS X (fR .NotEq) (Wu X.K):=by intro pins s σ H x y v u Q I rx ry h;obtain⟨d,e,h1,h2,h3,h4,h5,q⟩:=h;obtain⟨as,r1⟩:=h1.reads I rx;obtain⟨bs,r2⟩:=h2.reads I ry;exact PySem.SeqAt.rcNeAt_reads r1 r2 h3 h4 (by lia) X.prog X.w X.xe _ ⟨.bl _,H,I,rfl,q⟩
def Ug(K:ax):R2:=λx y H Q=>match x,y with
 |.int i,.int j=>Q (.bl (decide (i=j))) H
 |.str i,.str j=>Q (.bl (decide (i=j))) H
 |.bl i,.bl j=>Q (.bl (decide (i=j))) H
 |_,_=>Wt K x y H Q
def Hb(hu:X.A.units+64<gV):dS X (fR .Eq) (Ug X.K):=(fj'.or (Hg hu)).imp λx y H Q h=>by
 unfold Ug at h;split at h
 ·refine .inl ⟨rfl,?_⟩;simpa using h
 ·refine .inl ⟨rfl,?_⟩;simpa using h
 ·refine .inl ⟨rfl,?_⟩;simpa using h
 ·exact .inr h
def Uh(K:ax):R2:=λx y H Q=>match x,y with
 |.int i,.int j=>Q (.bl (!decide (i=j))) H
 |.str i,.str j=>Q (.bl (!decide (i=j))) H
 |.bl i,.bl j=>Q (.bl (!decide (i=j))) H
 |_,_=>Wu K x y H Q
def Jl(hu:X.A.units+64<gV):dS X (fR .NotEq) (Uh X.K):=(fk'.or (Ip hu)).imp λx y H Q h=>by
 unfold Uh at h;split at h
 ·refine .inl ⟨rfl,?_⟩;simpa using h
 ·refine .inl ⟨rfl,?_⟩;simpa using h
 ·refine .inl ⟨rfl,?_⟩;simpa using h
 ·exact .inr h
def Ui(K:ax):List V->Hp->VK->Prop:=λxs H Q=>match xs with
 |[.ref a]=>∃ bs:List Bool,eL K H a (bs.map V.bl)/\Q (.bl (bs.all id)) H
 |_=>False
def vY (hc:X.calm=true):nv X (.builtin "all") (Ui X.K):=by
 intro pins s σ H xs us Q I r h;unfold Ui at h;split at h
 ·rename_i a;obtain⟨bs,e,q⟩:=h;obtain⟨u,rfl,ru⟩:=Vals.one r;cases ru;obtain⟨its,rv,pl,hz⟩:=I.list e;have hl:s.heap.IsList a its.toArray:=pl.isList;obtain⟨o,ho,Tj,n,Kk⟩:=id hl;have hlen:=rv.length;rw[dr] at hlen;refine call_all_walk (wpAny_pyIter_list hl ?_);have mE:a≠s.heap.objs.size:=j3 (fS ho);have hhd:X.A.in1.handled=none:=I.ok.hd hc;refine⟨s.heap.objs.size,_,_,_,_,_,λi=>bs.getD i true,rfl,Walks.list hhd s.heap.objs.size a mE its.toArray,⟨⟨_,nL _ rfl,rfl,rfl⟩,⟨_,i3 _ ho,Tj,n,Kk⟩⟩,?_,λh' tk hk=>?_⟩
  ·intro i v s' Q' E' hv hq;have TC:its[i]? = some v:=by simpa using hv
   have hi:i<bs.length:=by have:=(nh.mp TC).1;lia
   obtain⟨w',e1,r1⟩:=rv.get (i:=i) (x:=V.bl bs[i]) (by simp[hi]);rw[TC] at e1;cases e1;cases (r1);have e2:bs.getD i true=bs[i]:=by simp[List.getD,hi]
   have hq:Q' (bs.getD i true) s':=hq;rw[e2] at hq;exact BF hq
  ·have e3:((List.range its.toArray.size).all λi=>bs.getD i true)=bs.all id:=by
    rw[jS,<- hlen];apply B1.mpr;simp only[BO,BU,id];constructor
    ·intro h b hb;obtain⟨i,hi,rfl⟩:=List.mem_iff_getElem.mp hb;have:=h i hi;simpa[List.getD,hi] using this
    ·intro h i hi;have:=h bs[i] (P1 hi);simpa[List.getD,hi] using this
   rw[e3];exact⟨.bl (bs.all id),H,I.kept λb o e=>hk b o (by simp;exact j3 (fS e)) (i3 _ e),rfl,q⟩
 ·exact h.elim
end
end L2
namespace L2
section
variable {X:Cx}{pins:List (ag × Obj)}{σ:St}{H:Hp}{s:aC}{h':c9}
def Inv.Ls{t':Nat}{fp:List ag}(I:Inv X pins σ H s)(hf:∀ b∈fp,x5 X pins H b)(k:∀ b o,b∉fp->s.heap.get? b=some o->h'.get? b=some o):Inv X pins σ H { s with heap:=h',toks:=t' }:=by
 have E8:∀ b u,H b=some u->b∉fp:=λb u e z=>by rw[(hf b z).1] at e;cases e
 refine I.step (λb hb=>?_) (λb o _ _ hc e _=>k b o hc e) (λb o _ _ hc e _=>⟨o.slots,k b o hc e⟩) (λ_ _ _ _ n=>n) (λb o hc e=>⟨o,k b o hc e⟩) (λ_ _ e=>e) (λ_ _ _ e=>e) (λb ps e=>⟨#[],by rw[e];simp⟩) (λm hm=>?_) (λb u e=>?_) I.bare
 ·obtain⟨f0,f1,f2,f3,f4,f5⟩:=hf b hb;exact⟨f3,f1,f4,f5⟩
 ·obtain⟨o,es,ep,ho,r⟩:=hm;exact⟨o,es,ep,k _ o (λz=>(hf _ z).2.1 rfl) ho,r⟩
 ·refine(I.aI b u e).fN (λc v hc q=>k c v ?_ q) (λ_ q=>q) λ_ _ q=>q;rcases hc with z|z
  ·rw[z];exact E8 b u e
  ·exact E8 c _ z
def Inv.is'{t':Nat}{fp:List ag}{p:ag}{xs:List V}(I:Inv X pins σ H s)(hf:∀ b∈fp,x5 X pins H b)(k:∀ b o,b∉fp->s.heap.get? b=some o->h'.get? b=some o)(hp:s.heap.objs.size<=p)(new:kR X.prog X.w (upd H p (.tup xs)) h' p (.tup xs)):Inv X pins σ (upd H p (.tup xs)) { s with heap:=h',toks:=t' }:=by
 have hn:=I.aI.fresh hp;have E8:∀ b u,H b=some u->b∉fp:=λb u e z=>by rw[(hf b z).1] at e;cases e
 have lt:∀ b o,s.heap.get? b=some o->b≠p:=λb o e=>j3 (pz (fS e) hp);refine I.step (λb hb=>?_) (λb o _ _ hc e _=>k b o hc e) (λb o _ _ hc e _=>⟨o.slots,k b o hc e⟩) (λb o _ e n=>by rw[dn (lt b o e)];exact n) (λb o hc e=>⟨o,k b o hc e⟩) (λ_ _ e=>by rw[dn (x3 e hn)];exact e) (λ_ _ _ e=>by rw[dn (x3 e hn)];exact e) (λb ps e=>⟨#[],by rw[dn (x3 e hn),e];simp⟩) (λm hm=>?_) (λb u e=>?_) I.bare
 ·obtain⟨f0,f1,f2,f3,f4,f5⟩:=hf b hb;exact⟨f3,f1,f4,f5⟩
 ·obtain⟨o,es,ep,ho,r⟩:=hm;exact⟨o,es,ep,k _ o (λz=>(hf _ z).2.1 rfl) ho,r⟩
 ·by_cases hb:b=p
  ·subst hb;rw[eM] at e;cases e;exact new
  ·rw[dn hb] at e;refine(I.aI b u e).fN (λc v hc q=>k c v ?_ q) (λc q=>by rw[dn (x3 q hn)];exact q) λc xs q=>by rw[dn (x3 q hn)];exact q
   rcases hc with z|z
   ·rw[z];exact E8 b u e
   ·exact E8 c _ z
end
def Wv(K:ax)(a:ag):It :=
 ⟨λi H=>∃ xs x,eL K H a xs/\xs[i]? = some x,λi H x H'=>∃ p v,x=.ref p/\H p=none/\H'=upd H p (.tup [.int i,v])/\∀ xs,eL K H a xs->xs[i]? = some v,λi H=>∃ xs,eL K H a xs/\xs.length<=i⟩
def Ci:(2:Nat)<=bI:=by rw[oi];decide
def xG{P:b9}{w:cy}{K:ax}{elts:List Expr}{k:Nat}{pos:Pos}(a e it:ag)(Ww:e≠it):Turn P w K (.Tuple elts k pos) (Wv K a) [e,it] e (λi h=>(∃ old,IsEnum h e it i old)/\h.IsListIter it a i) where
 mem:=by simp
 obj:=λi h ⟨⟨old,he⟩,st⟩ b hb=>by
  rcases eJ.mp hb with rfl|hb
  ·exact⟨_,he,λv z=>nomatch z⟩
  ·have e:b=it:=by simpa using hb
   subst e;obtain⟨o,e,c,d⟩:=st;exact⟨o,e,λv z=>by rw[d] at z;cases z⟩
 keep:=λi h h' ⟨⟨old,he⟩,st⟩ k=>⟨⟨old,k e (by simp) _ he⟩,st.at λo e=>k it (by simp) o e⟩
 item:=by
  intro X hP hw hK hc i pins s σ H E I hf st hg;subst hP hw hK;obtain⟨xs,x,hq,hx⟩:=hg;obtain⟨its,rv,p,hz⟩:=I.list hq;obtain⟨u,hu,ru⟩:=rv.get hx;obtain⟨⟨old,he⟩,hit⟩:=st;refine wpAny_pyNext_enum_item he hit p.isList (x:=u) (by simpa using hu) Ww λh1 ho it' hT hZ hk=>⟨_,rfl,?_⟩
  refine wpAny_letOwnedTupleGo_enum (s:={ s with heap:=h1,toks:=s.toks+1 }) ho λh2 Kn nS=>?_;have ke:∀ b o,b∉[e,it]->s.heap.get? b=some o->h2.get? b=some o:=λb o hb q=>(nS.2 b λz=>hb (by simp[z])).trans (hk b o (λz=>hb (by simp[z])) (λz=>hb (by simp[z])) q);have iL:e<s.heap.objs.size:=fS he;have hT2:h2.get? s.heap.objs.size=some { cls:=.type "tuple",data:=.seq #[.int i s.toks,u] }:=(nS.2 _ (SW iL)).trans hT;have I1:Inv X pins σ (upd H s.heap.objs.size (.tup [.int i,x])) { s with heap:=h2,toks:=s.toks+1 } :=
   I.is' hf ke (cx _) ⟨Ci,[.int i s.toks,u],.cons ⟨s.toks,rfl⟩ (.cons ru .nil),_,hT2,rfl,_,rfl⟩
  refine⟨.ref s.heap.objs.size,_,I1,rfl,⟨_,x,rfl,I.fresh,rfl,λys hy=>by rw[I.VG hy hq];exact hx⟩,⟨⟨u,by simpa using Kn⟩,it'.at λo q=>(nS.2 it Ww.symm).trans q⟩,λb hb=>?_⟩;rw[dn]
  ·exact(hf b hb).1
  ·rcases eJ.mp hb with rfl|hb
   ·exact j3 iL
   ·have e:b=it:=by simpa using hb
    subst e;obtain⟨o,q,_⟩:=hit;exact j3 (fS q)
 done:=by intro X hP hw hK hc i pins s σ H E I hf st hg;subst hP hw hK;obtain⟨xs,hq,hx⟩:=hg;obtain⟨its,rv,p,hz⟩:=I.list hq;obtain⟨⟨old,he⟩,hit⟩:=st;have hl:=rv.length;exact wpAny_pyNext_enum_end (I.ok.hd hc) he hit p.isList (by simp;lia) λh' eb=>⟨rfl,I.Ls (t':=s.toks) hf λb o hb q=>eb b o (λz=>hb (by simp[z])) q⟩
 self:=λ_ _ _ _ _ ⟨⟨old,he⟩,_⟩ h=>wpAny_pyIter_enum he h
def Jr(h:b∈[n+1,n]):n<=b:=by simp at h;lia
section
variable {X:Cx}
def Ke(K:ax)(ta:TA):TI:=λσ H R=>ta σ H λvs H1=>∃ a,vs=[.ref a]/\(∃ xs,eL K H1 a xs)/\R (Wv K a) H1
def Cv (hg:Gl X "enumerate") (hm:X.mg "enumerate" = none) (ha:PA X [a] ta) (hs:autoParam (bE [a] X.env=[(false,b4 a X.env)]) bv) :
  PI X (.Tuple elts k tp) (.Call (.Name "enumerate" p) [a] [] pos) (Ke X.K ta):=by
 intro pins s σ H R I h;refine Call_ (Fc I hg hm boot_enumerate (PyProof.Rows.callWith_type1 (cv (ha pos pins s σ H _ I h) λus s1 ck=>L2.eR ck λvs H1 I1 r1 q1=>?_) hs rfl));obtain⟨l,e,⟨xs,hq⟩,q⟩:=q1;subst e
 cases r1 with
 |cons r rr =>cases rr;cases r;obtain⟨its,rv,pl,hz⟩:=I1.list hq;refine call_enumerate_list pl.isList λh2 he hit hZ hk=>?_;refine wpAny_pyIter_enum he ?_;refine⟨s1.heap.objs.size+1,[s1.heap.objs.size+1,s1.heap.objs.size],_,_,H1,rfl,I1.kept hk,xG l _ _ (Nat.succ_ne_self _),⟨⟨_,he⟩,hit⟩,λb hb=>?_,q⟩;have e:s1.heap.objs.size<=b:=Jr hb;exact I1.Fm e (I1.aI.fresh e)
end
def NC(sc:Scope)(names:List (Str × AQ)):List (Str × AQ):=names.map λy=>if (y.2 == NameKind.free && sc.kind == .function && sc.names.lookup y.1 == some .cell)=true then (y.1,NameKind.cell) else (y.1,y.2)
def FE(o:Option AQ):Bool:=o == some .cell || o == some .free
def Fb(sc scope:Scope)(N cn:List Str)(ix:List Nat):Bool :=
 scope.kind == .function && scope.names.all (λy=>y.2 != .cell) && scope.names.all (λy=>y.2 != .free || FE (sc.names.lookup y.1)) && scope.names.all (λy=>y.2 != .local || scope.names.lookup y.1 == some .local) &&
 ix.length == cn.length && (List.range ix.length).all (λk=>match ix[k]?,cn[k]? with
  |some j,some y=>N[j]? == some y && FE (sc.names.lookup y) && scope.names.contains (y,NameKind.free) && FE ((NC sc scope.names).lookup y)
  |_,_=>false) &&
 (NC sc scope.names).all (λy=>!(y.2 == .cell || y.2 == .free) || scope.names.contains (y.1,NameKind.free))
def qY(h:FE o=true):o=some .cell\/o=some .free:=by unfold FE at h;simpa using h
def dZ.of{X:Cx}(rL:X.env.scope=sc)(hN:X.N=N)(h:Fb sc scope N cn ix=true):dZ X scope tn cn ix:=by
 unfold Fb at h;simp only[kM] at h;obtain⟨⟨⟨⟨⟨⟨h1,h2⟩,h3⟩,h4⟩,h5⟩,h6⟩,h7⟩:=h;rw[BO] at h2 h3 h4 h6 h7;have erl:(relabel scope X.env).names=NC sc scope.names:=by rw[<- rL];rfl
 refine⟨by simpa using h1,λy hy=>by simpa using h2 y hy,λy hy hk=>?_,λy hy hk=>?_,by simpa using h5,λk j hk=>?_,λx hx=>?_⟩
 ·have:=h3 y hy;rw[hk] at this;rw[rL];exact qY (by simpa using this)
 ·have:=h4 y hy;rw[hk] at this;simpa using this
 ·have xo:k<ix.length:=(nh.mp hk).1;have:=h6 k (BU.mpr xo);rw[hk] at this
  cases e:cn[k]? with
  |none=>rw[e] at this;cases this
  |some y =>rw[e] at this;simp only[kM] at this;obtain⟨⟨⟨a1,a2⟩,a3⟩,a4⟩:=this;refine⟨y,rfl,by rw[hN];simpa using a1,by rw[rL];exact qY a2,by simpa using a3,by rw[erl];exact qY a4⟩
 ·rw[erl] at hx;have mem:∃ k,(x,k)∈NC sc scope.names/\(k=.cell\/k=.free):=by
   rcases hx with hx|hx
   ·exact⟨_,PySem.mem_of_lookup hx,.inl rfl⟩
   ·exact⟨_,PySem.mem_of_lookup hx,.inr rfl⟩
  obtain⟨k,hm,hk⟩:=mem;have:=h7 _ hm;rcases hk with rfl|rfl<;>simpa using this
def dZ.by{X:Cx}(c:X.env.scope=sc/\X.N=N)(h:Fb sc scope N cn ix=true):dZ X scope tn cn ix:=.of c.1 c.2 h
structure Uj(P:b9)(w:cy)(K:ax)(mg:Str->Option ah)(base:c9)(k:Nat)(x:Str)(ps:List Str)(sp:Sp):Prop where
 ex:∃ (g:ag) (fd:nK),mg x=some (.ref g)/\tJ K (.ref g)=true/\Binds K fd ps []/\ja P w K mg base kr k g fd ps sp
section
variable {X:Cx}{k:Nat}{x:Str}{ps:List Str}{sp:Sp}{p pos:Pos}{e:Expr}{es:List Expr}{t:TA}
def Jo (C:Uj X.prog X.w X.K X.mg X.base k x ps sp) (hr:gp k X.A) (ha:PA X (e :: es) t) (hg:autoParam (Gl X x) bv) (jv:(x == ("__debug__" : Str))=false:=by decide) (he:autoParam (bE (e :: es) X.env=(false,b4 e X.env) :: bE es X.env) bv) (i7:autoParam ((gy pos (bE es X.env)).any (·.1)=false) bv):PE X (.Call (.Name x p) (e :: es) [] pos) (Rh sp [] E0 t):=by
 obtain⟨g,fd,hm,hk,hb,F⟩:=C.ex;exact V1 F hr hg hm hk hb .nil T9 ha jv he i7
end
def nV.cal{P:b9}{K:ax}{st:g9}{ps:List Str}(F:nV K x qual st f fd)(hm:mg x=some (.ref f))(G:ja P w K mg base kr k f fd ps sp)(h:∀ (kV doc pm:ah) (an:Option ag) (cK ct:ah) (us:List ah),us.length=ps.length->bindArgs (pj x qual (sN st) (kS st) (d5 st) .none kV doc pm an cK ct) ⟨us,[]⟩=pure (ps.zip us)):Uj P w K mg base k x ps sp :=
 ⟨f,fd,hm,F.kp,F.binds h,G⟩
def Uk(mg:Str->Option ah)(x:Str)(z:Str):Prop:=∃ t,mg x=some (.str z t)
def ND(mg:Str->Option ah)(x:Str)(i:Int):Prop:=∃ t,mg x=some (.int i t)
def Kd {X:Cx} (h:Uk X.mg x z) (hg:autoParam (Gl X x) bv) (hd:(x == ("__debug__" : Str))=false:=by decide):PE X (.Name x pos) (tC (.str z)):=by obtain⟨t,e⟩:=h;exact MD hg e ⟨t,rfl⟩ hd
def K6 {X:Cx} (h:ND X.mg x i) (hg:autoParam (Gl X x) bv) (hd:(x == ("__debug__" : Str))=false:=by decide):PE X (.Name x pos) (tC (.int i)):=by obtain⟨t,e⟩:=h;exact MD hg e ⟨t,rfl⟩ hd
def uz:og "str" = some (.type "str"):=by decide +kernel
def Bv:og "int" = some (.type "int"):=by decide +kernel
def Dc:og "bool" = some (.type "bool"):=by decide +kernel
def vB:og "list" = some (.type "list"):=by decide +kernel
def nG:og "tuple" = some (.type "tuple"):=by decide +kernel
def dI:og "isinstance" = some (.builtin "isinstance"):=by decide +kernel
def yz:og "all" = some (.builtin "all"):=by decide +kernel
def a_:og "len" = some (.builtin "len"):=by decide +kernel
def lU {X:Cx} {T:String} (hm:X.mg x=none) (hv:og x=some (.type T)) (hg:autoParam (Gl X x) bv) (hn:x ≠ "__name__" := by decide) (hd:(x == ("__debug__" : Str))=false:=by decide):PE X (.Name x pos) (tC (.ty T)) :=
 ec' hg hm hv rfl hn hd
def Cb(i j:Str):Bool:=!(Builtin.Str.occurrences j i 0 j.length 1).isEmpty
def Dt(c:Nat)(j:Str):Cb ⟨#[c]⟩ j=decide (c∈j.cps.toList):=PySem.StrLaws.found_one j c
def Kx(K:ax)(neg:Bool):R2:=λx y H Q=>match x,y with
 |.str i,.str j=>Q (.bl (if neg then !Cb i j else Cb i j)) H
 |_,.ref p=>(∃ o,rz H p x o/\Q (.bl (if neg then !o.isSome else o.isSome)) H)\/Rn K neg x y H Q
 |_,_=>False
def G4{X:Cx}(hu:X.A.units+64<gV):dS X (fR .In) (Kx X.K false):=by
 intro pins s σ H x y v u Q I rx ry h;unfold Kx at h;split at h
 ·exact fq' pins s σ H _ _ v u Q I rx ry ⟨_,_,rfl,rfl,h⟩
 ·rcases h with⟨o,g,q⟩|h
  ·cases ry;exact gR' (by lia) I g rx λs3 I3=>⟨.bl o.isSome,H,I3,rfl,q⟩
  ·exact gz' pins s σ H _ _ v u Q I rx ry h
 ·exact h.elim
def v_{X:Cx}(hu:X.A.units+64<gV):dS X (fR .NotIn) (Kx X.K true):=by
 intro pins s σ H x y v u Q I rx ry h;unfold Kx at h;split at h
 ·exact ft' pins s σ H _ _ v u Q I rx ry ⟨_,_,rfl,rfl,h⟩
 ·rcases h with⟨o,g,q⟩|h
  ·cases ry;exact gS' (by lia) I g rx λs3 I3=>⟨.bl (!o.isSome),H,I3,rfl,q⟩
  ·exact gA' pins s σ H _ _ v u Q I rx ry h
 ·exact h.elim
def bq.upd(h:bq H H')(hp:H' p=none):bq H (upd H' p o):=λb u e=>by have e':=h b u e;rw[dn (x3 e' hp)];exact e'
def bq.lst{K:ax}(e:bq H H')(h:eL K H a xs):eL K H' a xs:=e.seq h
def bq.tup{K:ax}(e:bq H H')(h:kG K H a xs):kG K H' a xs:=by
 rcases h with(h|⟨o,h⟩)|h
 ·exact .inl (.inl (e _ _ h))
 ·exact .inl (.inr ⟨o,e _ _ h⟩)
 ·exact .inr h
section
variable {X:Cx}{K:ax}
def kIx(hK:autoParam (X.K=K) bv):x6 X (Ud K):=by subst hK;exact Cg
def gL(hK:autoParam (X.K=K) bv)(hu:X.A.units+64<gV:=by assumption):dS X (fR .Eq) (Ug K):=by subst hK;exact Hb hu
def kNe(hK:autoParam (X.K=K) bv)(hu:X.A.units+64<gV:=by assumption):dS X (fR .NotEq) (Uh K):=by subst hK;exact Jl hu
def iA(hK:autoParam (X.K=K) bv)(hu:X.A.units+64<gV:=by assumption):dS X (fR .In) (Kx K false):=by subst hK;exact G4 hu
def By(hK:autoParam (X.K=K) bv)(hu:X.A.units+64<gV:=by assumption):dS X (fR .NotIn) (Kx K true):=by subst hK;exact v_ hu
def Wx (hc:autoParam (X.calm=true) bv) (hK:autoParam (X.K=K) bv):nv X (.builtin "all") (Ui K):=by subst hK;exact vY hc
end
def PJ{α:Type}{a:α}{p:α->Prop}:(∃ v,a=v/\p v)↔p a:=⟨λ⟨_,e,h⟩=>e ▸ h,λh=>⟨a,rfl,h⟩⟩
abbrev Wy:=Array DictEntry
def xt(h:c9)(d:ag)(es:Wy)(ep:Nat):Prop:=∃ o,h.get? d=some o/\o.ExactDict/\o.data=.dict es ep
def xt.typ {s:aC} {d:ag} {es:Wy} {ep:Nat} (x:xt s.heap d es ep):s.TypeIs (.ref d) "dict" := let ⟨o,e,c,_⟩:=x;⟨o,e,c.1⟩
section
variable {prog:b9}{w:cy}{A:e7}{E:ah->aC->Prop}{s:aC}{d it:ag}{es:Wy}{ep i:Nat}
def Ba{Q:ah->aC->Prop}(lo:(d == wx)=false)(x:xt s.heap d es ep)(q:Q (.ref s.heap.objs.size) { s with heap:=s.heap.push { cls:=.type "dict_keyiterator",data:=.fields #[.ref d,.int 0 0,.int es.size 0,.int ep 0] } }):b5 (aT prog w) A (pyIter (.ref d)) Q E s:=by
 obtain⟨o,ho,hc,Ul⟩:=id x;refine wpAny_pyIter_slot x.typ F.slot_dict_iter (PD F.slot_dict_iter x.typ F.entry_dict_iter ?_ (F.args_dict_iter_1 _));refine bS ?_;refine bS (wpAny_notOrdered_dict x.typ ?_);refine(dk ?_);refine(show b5 _ _ (Builtin.Dict.showsAll d >>= _) _ _ s from ?_);unfold Builtin.Dict.showsAll;rw[if_neg (by rw[lo];decide)];refine bS (dk (bS (wpAny_dictEntries ho Ul (bS (wpAny_dictEpoch ho Ul (bS (DB (dk ⟨_,rfl, "dict_keyiterator",_,⟨_,nL _ rfl,rfl⟩,F.slot_dict_keyiterator_next.lookup,?_⟩))))))));simpa[rawInt] using q
def zx(hit:s.heap.IsKeyIter it d i es.size ep)(x:xt s.heap d es ep)(hx:i<es.size)(q:∀ h',h'.IsKeyIter it d (i+1) es.size ep->Heap.SameBut it s.heap h'->Q (some es[i].key) { s with heap:=h' }):b5 (aT prog w) A (pyNext (.ref it)) Q E s:=by
 obtain⟨o,ho,hc,hd⟩:=id hit;obtain⟨od,Kk,pS,FG⟩:=id x;have ty:=hit.typeIs;refine bS (wpAny_attempt (Sv ty F.slot_dict_keyiterator_next (PD F.slot_dict_keyiterator_next ty F.entry_dict_keyiterator_next ?_ (F.args_dict_keyiterator_next_1 _))));refine bS (dk (bS (bS ?_)));first|refine bS (Sr ty (dk ?_))|refine bS (Ss ty (dk ?_))
 refine bS (wpAny_fieldsOf ho hd ?_);refine(show b5 _ _ (if (Value.ref d == Value.none)=true then _ else _) _ _ s from ?_);refine bS (dk (bS (wpAny_dictEntries Kk FG ?_)));rw[if_neg (by intro h;simp at h)];refine bS (dk (bS (wpAny_dictEpoch Kk FG ?_)));rw[if_neg (by intro h;simp at h)];refine dk ?_;simp only[show ¬ (i<0) by lia,if_false,My,Array.getElem?_eq_getElem hx];refine bS ?_;first|refine bS (Sr ty (dk ?_))|refine bS (Ss ty (dk ?_))
 refine bS (wpAny_isOneOf_keyiter ty ?_);refine(show b5 _ _ (setField (.ref it) 1 (rawInt (i+1)) >>= _) _ _ s from bS (wpAny_setField ho hd (by simp) ?_));have bp':(s.heap.update it (Obj.mapFields (·.setIfInBounds 1 (rawInt (i+1))))).IsKeyIter it d (i+1) es.size ep :=
  ⟨_,Heap.get?_update_self _ ho (Obj.isFreed_of_fields (Obj.data_mapFields hd _)),(Obj.cls_mapFields ..).trans hc,by rw[Obj.data_mapFields hd];simp[rawInt]⟩
 refine bS (wpAny_holding (bS (wpAny_isOneOf_keyiter bp'.typeIs ?_)));refine(dk (dk ⟨_,rfl,dk (q _ bp' (Heap.SameBut.update ..))⟩))
def Aw(hh:A.handled=none)(hit:s.heap.IsKeyIter it d es.size es.size ep)(x:xt s.heap d es ep)(q:∀ h',Heap.ExtBut it s.heap h'->Q none { s with heap:=h' }) :
  b5 (aT prog w) A (pyNext (.ref it)) Q E s:=by
 obtain⟨o,ho,hc,hd⟩:=id hit;obtain⟨od,Kk,pS,FG⟩:=id x;have ty:=hit.typeIs;refine bS (wpAny_attempt (Sv ty F.slot_dict_keyiterator_next (PD F.slot_dict_keyiterator_next ty F.entry_dict_keyiterator_next ?_ (F.args_dict_keyiterator_next_1 _))));refine bS (dk (bS (bS ?_)));first|refine bS (Sr ty (dk ?_))|refine bS (Ss ty (dk ?_))
 refine bS (wpAny_fieldsOf ho hd ?_);refine(show b5 _ _ (if (Value.ref d == Value.none)=true then _ else _) _ _ s from ?_);refine bS (dk (bS (wpAny_dictEntries Kk FG ?_)));rw[if_neg (by intro h;simp at h)];refine bS (dk (bS (wpAny_dictEpoch Kk FG ?_)));rw[if_neg (by intro h;simp at h)];refine dk ?_;simp only[show ¬ (es.size<0) by lia,if_false,My,S_ (cx es.size)];refine bS ?_;first|refine bS (Sr ty (dk ?_))|refine bS (Ss ty (dk ?_))
 refine(show b5 _ _ (setField (.ref it) 0 .none >>= _) _ _ s from bS (wpAny_setField ho hd (by simp) ?_));refine(bS ?_);refine bS (DB ?_ (by size_fits));refine bS (wpAny_of_eq (by first|rfl|(simp only[firstArgMember];rfl)) (DB ?_ (by size_fits)));refine bS (wpAny_handled ?_);rw[show A.in1.handled=none from hh];refine bS (dk (wpAny_throw ?_));refine bS (wpAny_isInstance ⟨_,nL _ rfl,rfl⟩ isSubtype_stop ?_);exact dk (q _ (((Heap.SameBut.update ..).extBut.push _).push _))
def xt.at(x:xt h d es ep)(e:∀ o,h.get? d=some o->h'.get? d=some o):xt h' d es ep:=let ⟨o,ho,r⟩:=x;⟨o,e o ho,r⟩
def xt.lt(x:xt h d es ep):d<h.objs.size:=let ⟨_,e,_⟩:=x;fS e
def wQ(hh:A.handled=none)(I:ag)(mE:d≠I):Walks prog w A I [I,d] [I] es.size (λi v=>∃ e,es[i]? = some e/\v=e.key) (λi h=>h.IsKeyIter I d i es.size ep/\xt h d es ep) where
 sub:=λb hb=>by simp at hb;simp[hb]
 frame:=λ_ _ _ st hk=>⟨st.1.at λo e=>hk I (by simp) o e,st.2.at λo e=>hk d (by simp) o e⟩
 item:=λi s Q E hi st hQ=>zx st.1 st.2 hi λh' a b=>hQ _ h' s.toks ⟨es[i],by simp[hi],rfl⟩ ⟨a,st.2.at λo e=>b.extBut d o mE e⟩ λc o hb e=>b.extBut c o (λh=>hb (by simp[h])) e
 done:=λs Q E st hQ=>Aw hh st.1 st.2 λh' he'=>hQ h' s.toks λb o hb e=>he' b o (λh=>hb (by simp[h])) e
 self:=λ_ _ _ _ st hQ=>wpAny_pyIter_keyiter st.1 hQ
def Ex (lo:(d == wx)=false):PySem.W.KdlSrc prog w "dict" d d es.size (λi v=>∃ e,es[i]? = some e/\v=e.key) (λh=>xt h d es ep) where
 type:=λ_ x=>x.typ
 there:=λ_ x=>⟨x.lt,x.lt⟩
 keep:=λ_ _ x hk=>x.at λo e=>hk d (.inl rfl) o e
 notList:=by decide
 notTuple:=by decide
 hint:=λ_ _ _ _ x hq=>PySem.W.kdl_hint_dict x.typ hq
 iter:=λ_ _ hh x=>⟨_,_,(λ_ _ hq=>Ba lo x hq),wQ hh _ (j3 x.lt),⟨⟨_,nL _ rfl,rfl,rfl⟩,x.at λo e=>i3 _ e⟩⟩
end
def Paired.n0{α β:Type}{R:α->β->Prop}{bs:List β}(h:Paired R [] bs):bs=[]:=by cases h;rfl
def Paired.c{α β:Type}{R:α->β->Prop}{a:α}{as:List α}{bs:List β}(h:Paired R (a :: as) bs):∃ b cs,bs=b :: cs/\R a b/\Paired R as cs:=by
 cases h with
 |cons r t=>exact⟨_,_,rfl,r,t⟩
def lg(H:Hp)(ys:List V)(ks:List (List Key)):Prop:=Paired (λ(v:V) (k:List Key)=>∃ b,v=.ref b/\H b=some (.tup (k.map kV))) ys ks
section
variable {X:Cx}
def t8:List V->Hp->VK->Prop:=λxs H Q=>match xs with
 |[.ref p]=>∃ ae,Rd H p (.dT ae)/\∀ ys l,lg H ys (ae.map (·.1))->H l=none->Q (.ref l) (upd H l (.lst ys))
 |_=>False
def Fy (h:Paired (λ(p:List Key × V) (q:List Key × ag × ah)=>p.1=q.1/\H q.2.1=some (.tup (p.1.map kV))/\RelV p.2 q.2.2) ae xs) :
  lg H (xs.map λq=>.ref q.2.1) (ae.map (·.1))/\Vals (xs.map λq=>.ref q.2.1) ((xs.map (entryOfKey (tupleKind (kc prog w)))).map (·.key)):=by
 induction h with
 |nil=>exact⟨.nil,.nil⟩
 |cons r t ih=>exact⟨.cons ⟨_,rfl,r.2.1⟩ ih.1,.cons rfl ih.2⟩
def vg (hc:X.calm=true):nv X (.type "list") t8:=by
 intro pins s σ H xs us Q I r h;unfold t8 at h;split at h
 ·rename_i p;obtain⟨ae,e,q⟩:=h;obtain⟨u,rfl,ru⟩:=Vals.one r;cases ru;obtain⟨z,y,ps,rel,o,es,ep,h1,h2,h3,h4,h5⟩:=(I.rd e)
  obtain⟨ta,va⟩:=Fy rel;have hlen:es.size=ae.length:=by have:=congrArg List.length h4;rw[zv,dr] at this;rw[this];exact rel.length.symm
  refine PySem.W.kdl_call (Ex y) (I.ok.hd hc) ⟨o,h1,h2,h3⟩ (by lia) λh' tk acc c kp eo NF=>?_;have hv:acc.toList=(ps.map (entryOfKey (tupleKind (kc X.prog X.w)))).map (·.key):=by
   apply Vm;intro i;by_cases hi:i<es.size
   ·have nX:i<acc.size:=by rw[NF.1];exact hi
    obtain⟨en,e1,e2⟩:=NF.2 i acc[i] (by simp[nX]);rw[<- h4,mr,B3,B3,e1];simp[nX,e2]
   ·rw[<- h4,mr,B3,B3,S_ (by rw[NF.1];lia),S_ (by lia)];rfl
  refine⟨.ref s.heap.objs.size,_,I.laid kp (cx _) (show kR X.prog X.w _ h' _ (.lst (ps.map λq=>.ref q.2.1)) from⟨?_,acc.toList,c,?_,?_⟩),rfl,q _ _ ta (I.aI.fresh (cx _))⟩
  ·rw[dr,<- rel.length];exact z
  ·rw[hv];exact va
  ·rw[Array.toArray_toList];exact eo
 ·exact h.elim
end
end L2
end
namespace FH
open PySem PyProof.Rows
def R(r:ah->Int)(xs:Array bT)(i:Nat):Int:=match xs[i]? with
 |some p=>r p.1
 |none=>0
def cB(h:xs[i]? = ys[j]?):R r xs i=R r ys j:=by unfold R;rw[h]
def rS(prog:b9)(w:cy)(A:e7)(s:aC)(κ:vn)(r:ah->Int)(P:ah->Prop):Prop :=
 ∀ x y,P x->P y->∀ (Q:Bool->aC->Prop) (E:ah->aC->Prop),Q (decide (r x<r y)) s->b5 (aT prog w) A (keyLt' κ x y) Q E s
def AllP(P:ah->Prop)(xs:Array bT):Prop:=∀ p∈xs.toList,P p.1
def AllP.perm{P:ah->Prop}(h:AllP P xs)(hp:ys.Perm xs):AllP P ys:=λp hm=>h p ((Vu.mp hp).mem_iff.mp hm)
def AllP.at{P:ah->Prop}{xs:Array bT}(h:AllP P xs){i:Nat}{p:bT}(e:xs[i]? = some p):P p.1:=h p (by
 obtain⟨hi,rfl⟩:=S9.mp e;simp)
structure n5(lo hi:Nat)(st ai:dA):Prop where
 kind:fq ai=fq st
 failed:sC ai=sC st
 pend:mB ai=mB st
 perm:(bG ai).Perm (bG st)
 out:∀ k,k<lo\/hi<=k->(bG ai)[k]? = (bG st)[k]?
def n5.refl(lo hi:Nat)(st:dA):n5 lo hi st st:=⟨rfl,rfl,rfl,Array.Perm.refl _,λ_ _=>rfl⟩
def n5.trans{lo hi:Nat}{a b c:dA}(h:n5 lo hi a b)(g:n5 lo hi b c):n5 lo hi a c :=
 ⟨g.kind.trans h.kind,g.failed.trans h.failed,g.pend.trans h.pend,g.perm.trans h.perm,λk hk=>(g.out k hk).trans (h.out k hk)⟩
def n5.mono{lo hi KG ny:Nat}{a b:dA}(h:n5 lo hi a b)(h1:KG<=lo)(h2:hi<=ny):n5 KG ny a b :=
 ⟨h.kind,h.failed,h.pend,h.perm,λk hk=>h.out k (by lia)⟩
def n5.size{lo hi:Nat}{a b:dA}(h:n5 lo hi a b):(bG b).size=(bG a).size:=h.perm.size_eq
def Up(r:ah->Int)(xs:Array bT)(lo hi:Nat):Prop:=∀ i j,lo<=i->i<=j->j<hi->R r xs i<=R r xs j
def Down(r:ah->Int)(xs:Array bT)(lo hi:Nat):Prop:=∀ i j,lo<=i->i<=j->j<hi->R r xs j<=R r xs i
def tH(hs:src<xs.size)(hd:d<=src)(k:Nat) :
  R r (bubble xs src d) k=if k=src-d then R r xs src else if src-d<k/\k<=src then R r xs (k-1) else R r xs k:=by
 have e:=getElem?_bubble hs d hd k;by_cases h1:k=src-d
 ·rw[if_pos h1] at e ⊢;exact cB e
 ·rw[if_neg h1] at e ⊢;by_cases h2:src-d<k/\k<=src
  ·rw[if_pos h2] at e ⊢;exact cB e
  ·rw[if_neg h2] at e ⊢;exact cB e
def oM(hj:j<=xs.size)(k:Nat) :
  R r (mirror xs i j ((j-i) / 2)) k=if i<=k/\k<j then R r xs (i+j-1-k) else R r xs k:=by
 have e:=getElem?_mirror_all (i:=i) hj k;by_cases h1:i<=k/\k<j
 ·rw[if_pos h1] at e ⊢;exact cB e
 ·rw[if_neg h1] at e ⊢;exact cB e
def bD(hj:j<=xs.size)(heq:∀ k,i<=k->k<j->R r xs k=R r xs (j-1))(k:Nat) :
  R r (mirror xs i j ((j-i) / 2)) k=R r xs k:=by
 rw[oM hj];split
 ·rw[heq _ (by lia) (by lia),heq k (by lia) (by lia)]
 ·rfl
section
variable {prog:b9}{w:cy}{A:e7}{E:ah->aC->Prop}{s:aC}{κ:vn}{r:ah->Int}{P:ah->Prop}
def pM{st:dA}{x y:bT}{Q:Option Bool->dA->Prop}(C:rS prog w A s κ r P)(hk:fq st=κ)(hx:P x.1)(hy:P y.1)(h:Q (some (decide (r x.1<r y.1))) st) :
  wpS (aT prog w) A E s (lt' x y) Q st:=by
 rw[lt'_eq];refine cq (wpS_get ?_);rw[hk];exact cq (wpS_lift (wpAny_attempt (C x.1 y.1 hx hy _ _ ⟨rfl,dc h⟩)))
def aM{xs:Array bT}{i:Nat}{Q:bT->dA->Prop}{st:dA}(hi:i<xs.size)(h:∀ p,xs[i]? = some p->Q p st):wpS (aT prog w) A E s (elem' xs i) Q st:=by rw[elem'_eq,getElem?_pos xs i hi];exact dc (h _ (getElem?_pos xs i hi))
def lC{st:dA}{i j:Nat}{Q:Option Bool->dA->Prop}(C:rS prog w A s κ r P)(hk:fq st=κ)(hP:AllP P (bG st))(hi:i<(bG st).size)(hj:j<(bG st).size)(h:Q (some (decide (R r (bG st) i<R r (bG st) j))) st):wpS (aT prog w) A E s (ltAt' i j) Q st:=by
 refine cq (wpS_get ?_);refine cq (aM hi λp ep=>cq (aM hj λq eq=>pM C hk (hP.at ep) (hP.at eq) ?_));have e1:R r (bG st) i=r p.1:=by unfold R;rw[ep]
 have e2:R r (bG st) j=r q.1:=by unfold R;rw[eq]
 rw[<- e1,<- e2];exact h
def cW{st:dA}{i j:Nat}{Q:Unit->dA->Prop}(h:Q () (setArr st (mirror (bG st) i j ((j-i) / 2)))) :
  wpS (aT prog w) A E s (reverseSlice' i j) Q st:=by
 rw[reverseSlice'_eq];exact DT h
def fQ{st:dA}{i j:Nat}(hj:j<=(bG st).size):n5 i j st (setArr st (mirror (bG st) i j ((j-i) / 2))) :=
 ⟨rfl,rfl,rfl,mirror_perm _ _ _ _,λk hk=>by
  have e:=getElem?_mirror_all (i:=i) hj k;rw[if_neg (by lia)] at e;exact e⟩
def uL{st:dA}{lo src d:Nat}(hs:src<(bG st).size)(hd:lo+d<=src):n5 lo (src+1) st (setArr st (bubble (bG st) src d)) :=
 ⟨rfl,rfl,rfl,bubble_perm _ _ _,λk hk=>by
  have e:=getElem?_bubble hs d (by lia) k;rw[if_neg (by lia),if_neg (by lia)] at e;exact e⟩
def wpS_binarySort{st:dA}{lo n ok:Nat}{Q:Bool->dA->Prop}(C:rS prog w A s κ r P)(hk:fq st=κ)(hP:AllP P (bG st))(hn:lo+n<=(bG st).size)(aI:ok<=n)(hs:Up r (bG st) lo (lo+ok))(h:∀ ai,n5 lo (lo+n) st ai->Up r (bG ai) lo (lo+n)->Q true ai):wpS (aT prog w) A E s (binarySort' lo n ok) Q st:=by
 refine cq (vt (sA (I:=λk c ai=>c=(none,())/\n5 lo (lo+n) st ai/\Up r (bG ai) lo (lo+min k n)) (Q:=λc ai=>c=(none,())/\n5 lo (lo+n) st ai/\Up r (bG ai) lo (lo+n)) ?step ?fin ?init) ?post)
 case post =>
  rintro c ai ⟨rfl,kH,iE⟩;exact dc (h ai kH iE)
 case init =>
  refine⟨rfl,.refl _ _ _,λi j hl mG hj=>?_⟩;by_cases h1:ok=0
  ·have:i=j:=by lia
   subst this;exact zt _
  ·exact hs i j hl mG (by lia)
 case fin =>
  rintro c ai ⟨hc,kH,iE⟩;refine⟨hc,kH,?_⟩;rwa[show min (max (max ok 1) n) n=n by lia] at iE
 case step =>
  rintro k c ai hak hkn ⟨rfl,kH,iE⟩;rw[show min k n=k by lia] at iE;have hZ:=kH.size;have xo:fq ai=κ:=kH.kind.trans hk;have t5:=hP.perm kH.perm;refine cq (vt (sA (I:=λx c Ee=>Ee=ai/\∃ l r',c=(none,l,r')/\l<=r'/\r'<=k/\r'-l<=k-x /\ (∀ i,lo<=i->i<lo+l->R r (bG ai) i<=R r (bG ai) (lo+k))/\(∀ i,lo+r'<=i->i<lo+k->R r (bG ai) (lo+k)<R r (bG ai) i)) (Q:=λc Ee=>Ee=ai/\∃ l r',c=(none,l,r')/\l<=k /\ (∀ i,lo<=i->i<lo+l->R r (bG ai) i<=R r (bG ai) (lo+k))/\(∀ i,lo+l<=i->i<lo+k->R r (bG ai) (lo+k)<R r (bG ai) i)) ?iz' ?iA' ?iB') ?iC')
  case iB'=>exact⟨rfl,0,k,rfl,by lia,by lia,by lia,λi _ hi=>by lia,λi h1 h2=>by lia⟩
  case iA' =>
   rintro c Ee ⟨rfl,l,r',rfl,hlr,Wz,hm,FD,Ct⟩;have:l=r':=by lia
   subst this;exact⟨rfl,l,l,rfl,Wz,FD,Ct⟩
  case iz' =>
   rintro x c Ee _ hxk ⟨rfl,l,r',rfl,hlr,Wz,hm,FD,Ct⟩;dsimp only;by_cases t9:l >= r'
   ·rw[if_pos t9];have:l=r':=by lia
    subst this;exact dc ⟨rfl,l,l,rfl,Wz,FD,Ct⟩
   ·rw[if_neg t9];refine cq (lC C xo t5 (by lia) (by lia) ?_);by_cases ya:R r (bG Ee) (lo+k)<R r (bG Ee) (lo+(l+r') / 2)
    ·simp only[ya,decide_true,if_true];exact dc ⟨rfl,l,(l+r') / 2,rfl,by lia,by lia,by lia,FD,λi h1 h2=>Int.lt_of_lt_of_le ya (iE _ _ (by lia) h1 h2)⟩
    ·simp only[ya,decide_false,xI,if_false];exact dc ⟨rfl,(l+r') / 2+1,r',rfl,by lia,by lia,by lia,λi h0 h1=>zo (iE i (lo+(l+r') / 2) h0 (by lia) (by lia)) (Int.not_lt.mp ya),Ct⟩
  case iC' =>
   rintro c Ee ⟨rfl,l,r',rfl,hlk,FD,Ct⟩;show wpS _ _ _ _ (do moveDown' (lo+k) (lo+l);pure (ForInStep.yield (none,()))) _ _;rw[moveDown'_eq];have WB:lo+k<(bG Ee).size:=by lia
   refine cq (DT (dc ⟨rfl,kH.trans ((uL WB (by lia)).mono (cx _) (by lia)),?_⟩));intro i j hl mG hj;rw[tH WB (by lia),tH WB (by lia),show lo+k-(lo+k-(lo+l))=lo+l by lia]
   repeat' split
   all_goals first
    | (exfalso;lia)
    |exact zt _
    |exact FD _ (by lia) (by lia)
    |exact Iy (Ct _ (by lia) (by lia))
    |exact iE _ _ (by lia) (by lia) (by lia)
end
def ascL(lo a nrem:Nat):StateT dA Sem AscSt :=
 forIn [a:nrem] ((none,a):AscSt) λ_ __s=>do
  let __x ← ltAt' (lo + __s.snd) (lo + __s.snd - 1)
  match __x with
  |some smaller=>if smaller=true then pure (ForInStep.done (none,__s.snd)) else pure (ForInStep.yield (none,__s.snd+1))
  |_=>pure (ForInStep.done (some none,__s.snd))
def x_(lo n nrem:Nat):StateT dA Sem (Option Nat):=do
 reverseSlice' lo (lo+n)
 let __s ← ascL lo n nrem
 match __s.fst with
 |some r=>pure r
 |none=>pure (some __s.snd)
def Jc(lo n nrem:Nat):StateT dA Sem DescSt :=
 forIn [n:nrem] ((none,n,0):DescSt) λ_ __s=>do
  let __x ← ltAt' (lo + __s.snd.fst) (lo + __s.snd.fst - 1)
  match __x with
  |some smaller =>
   if smaller=true then
    if __s.snd.snd>0 then do
     reverseSlice' (lo+__s.snd.fst-(__s.snd.snd+1)) (lo+__s.snd.fst)
     pure (ForInStep.yield (none,__s.snd.fst+1,0))
    else pure (ForInStep.yield (none,__s.snd.fst+1,0))
   else do
    let __x ← ltAt' (lo+__s.snd.fst - 1) (lo+__s.snd.fst)
    match __x with
    |some larger =>
     if larger=true then pure (ForInStep.done (none,__s.snd.fst,__s.snd.snd))
     else pure (ForInStep.yield (none,__s.snd.fst+1,__s.snd.snd+1))
    |_=>pure (ForInStep.done (some none,__s.snd.fst,__s.snd.snd))
  |_=>pure (ForInStep.done (some none,__s.snd.fst,__s.snd.snd))
def jJ(lo n nrem:Nat):StateT dA Sem (Option Nat):=do
 liftM (rule "list.sort.descending-run")
 let __s ← Jc lo (n+1) nrem
 match __s.fst with
 |some r=>pure r
 |none =>
  if __s.snd.snd>0 then do
   reverseSlice' (lo+__s.snd.fst-(__s.snd.snd+1)) (lo+__s.snd.fst)
   x_ lo __s.snd.fst nrem
  else x_ lo __s.snd.fst nrem
def pL(lo nrem:Nat):countRun' lo nrem=(do
  let __s ← ascL lo 1 nrem
  match __s.fst with
  |some r=>pure r
  |none =>
   if (__s.snd == nrem)=true then pure (some __s.snd)
   else if __s.snd>1 then do
    let __x ← ltAt' lo (lo+__s.snd - 1)
    match __x with
    |some bq'=>if bq'=true then pure (some __s.snd) else do
      reverseSlice' lo (lo+__s.snd)
      jJ lo __s.snd nrem
    |_=>pure none
   else jJ lo __s.snd nrem):=by
 rw[countRun'_eq];dsimp only;congr 1;funext __s;obtain⟨r,n⟩:=__s
 cases r with
 |some r=>rfl
 |none =>
  dsimp only;split
  ·rfl
  ·split
   ·congr 1;funext x
    cases x with
    |none=>rfl
    |some bq' =>
     dsimp only;split
     ·rfl
     ·congr 1;funext _r
      (congr 1;funext _u;congr 1;congr 1;funext s2;obtain⟨r2,n2,q2⟩:=s2;cases r2 with
       |some r2=>rfl
       |none=>(dsimp only;split;(congr 1;funext _v;(congr 1;funext _w;congr 1;(funext s3;obtain⟨r3,n3⟩:=s3;cases r3<;>rfl)));(congr 1;funext _w;congr 1;(funext s3;obtain⟨r3,n3⟩:=s3;cases r3<;>rfl))))
   ·(congr 1;funext _u;congr 1;congr 1;funext s2;obtain⟨r2,n2,q2⟩:=s2;cases r2 with
     |some r2=>rfl
     |none=>(dsimp only;split;(congr 1;funext _v;(congr 1;funext _w;congr 1;(funext s3;obtain⟨r3,n3⟩:=s3;cases r3<;>rfl)));(congr 1;funext _w;congr 1;(funext s3;obtain⟨r3,n3⟩:=s3;cases r3<;>rfl))))
section
variable {prog:b9}{w:cy}{A:e7}{E:ah->aC->Prop}{s:aC}{κ:vn}{r:ah->Int}{P:ah->Prop}
def uh{st:dA}{lo a nrem:Nat}{Q:AscSt->dA->Prop}(C:rS prog w A s κ r P)(hk:fq st=κ)(hP:AllP P (bG st))(hn:lo+nrem<=(bG st).size)(ha:1<=a)(han:a<=nrem)(hs:Up r (bG st) lo (lo+a))(h:∀ n,a<=n->n<=nrem->Up r (bG st) lo (lo+n)->(n=nrem\/R r (bG st) (lo+n)<R r (bG st) (lo+n-1))->Q (none,n) st) :
  wpS (aT prog w) A E s (ascL lo a nrem) Q st:=by
 refine sA (I:=λx c ai=>ai=st/\c=(none,x)/\Up r (bG st) lo (lo+x)) ?step ?fin ⟨rfl,rfl,hs⟩;case fin =>
  rintro c ai ⟨rfl,rfl,iE⟩;rw[show max a nrem=nrem by lia] at iE ⊢;exact h nrem han (cx _) iE (.inl rfl)
 case step =>
  rintro x c ai WC hxn ⟨rfl,rfl,iE⟩;refine cq (lC C hk hP (by lia) (by lia) ?_);by_cases ya:R r (bG ai) (lo+x)<R r (bG ai) (lo+x-1)
  ·simp only[ya,decide_true,if_true];exact dc (h x WC (by lia) iE (.inr ya))
  ·simp only[ya,decide_false,xI,if_false];refine dc ⟨rfl,rfl,λi j hl mG hj=>?_⟩;by_cases Ry:j<lo+x
   ·exact iE i j hl mG Ry
   ·have Au:j=lo+x:=by lia
    subst Au;by_cases ny:i=lo+x
    ·subst ny;exact zt _
    ·exact zo (iE i (lo+x-1) hl (by lia) (by lia)) (Int.not_lt.mp ya)
def mO{st:dA}{lo n nrem:Nat}{Q:Option Nat->dA->Prop}(C:rS prog w A s κ r P)(hk:fq st=κ)(hP:AllP P (bG st))(hn:lo+nrem<=(bG st).size)(h1:1<=n)(EA:n<=nrem)(hs:Down r (bG st) lo (lo+n)) (h:∀ m ai,n5 lo (lo+nrem) st ai->1<=m->m<=nrem->Up r (bG ai) lo (lo+m)->Q (some m) ai) :
  wpS (aT prog w) A E s (x_ lo n nrem) Q st:=by
 have hZ:lo+n<=(bG st).size:=by lia
 refine cq (cW ?_);have kH:=fQ (i:=lo) hZ;refine cq (uh C (kH.kind.trans hk) (hP.perm kH.perm) (by rw[kH.size];exact hn) h1 EA ?_ λm yb FI hsm _=>dc (h m _ (kH.mono (cx _) (by lia)) (by lia) FI hsm));intro i j hl mG hj;rw[oM hZ,oM hZ,if_pos (by lia),if_pos (by lia)];exact hs _ _ (by lia) (by lia) (by lia)
def xM{st:dA}{lo n nrem:Nat}{Q:DescSt->dA->Prop}(C:rS prog w A s κ r P)(hk:fq st=κ)(hP:AllP P (bG st))(hn:lo+nrem<=(bG st).size)(h1:1<=n)(EA:n<=nrem)(hs:Down r (bG st) lo (lo+n))(h:∀ m ua ai,n5 lo (lo+nrem) st ai->n<=m->m<=nrem->Down r (bG ai) lo (lo+m)->ua+1<=m->(∀ i,lo+m-(ua+1)<=i->i<lo+m->R r (bG ai) i=R r (bG ai) (lo+m-1))->Q (none,m,ua) ai) :
  wpS (aT prog w) A E s (Jc lo n nrem) Q st:=by
 refine sA (I:=λx c ai=>∃ ua,c=(none,x,ua)/\n5 lo (lo+nrem) st ai/\Down r (bG ai) lo (lo+x)/\ua+1<=x /\ (∀ i,lo+x-(ua+1)<=i->i<lo+x->R r (bG ai) i=R r (bG ai) (lo+x-1))) ?step ?fin ⟨0,rfl,.refl _ _ _,hs,by lia,λi h1 h2=>by congr 1;lia⟩
 case fin =>
  rintro c ai ⟨ua,rfl,kH,iE,hq,he⟩;rw[show max n nrem=nrem by lia] at iE hq he ⊢;exact h nrem ua ai kH EA (cx _) iE hq he
 case step =>
  rintro x c ai WC hxn ⟨ua,rfl,kH,iE,hq,he⟩;dsimp only;have hz:=kH.size;have hZ:lo+x<=(bG ai).size:=by lia
  have xo:=kH.kind.trans hk;have t5:=hP.perm kH.perm;refine cq (lC C xo t5 (by lia) (by lia) ?_);by_cases ya:R r (bG ai) (lo+x)<R r (bG ai) (lo+x-1)
  ·simp only[ya,decide_true,if_true];have bs':∀ xs:Array bT,(∀ k,R r xs k=R r (bG ai) k)->Down r xs lo (lo+(x+1)):=by
    intro xs hkk i j hl mG hj;rw[hkk,hkk];by_cases Ry:j<lo+x
    ·exact iE i j hl mG Ry
    ·have Au:j=lo+x:=by lia
     subst Au;by_cases ny:i=lo+x
     ·subst ny;exact zt _
     ·exact zo (Iy ya) (iE i (lo+x-1) hl (by lia) (by lia))
   by_cases Rz:ua>0
   ·rw[if_pos Rz];refine cq (cW (dc ⟨0,rfl,kH.trans ((fQ hZ).mono (by lia) (by lia)),bs' _ (bD hZ he),by lia,λi h1 h2=>by congr 1;lia⟩))
   ·rw[if_neg Rz];exact dc ⟨0,rfl,kH,bs' _ (λ_=>rfl),by lia,λi h1 h2=>by congr 1;lia⟩
  ·simp only[ya,decide_false,xI,if_false];refine cq (lC C xo t5 (by lia) (by lia) ?_);by_cases bu':R r (bG ai) (lo+x-1)<R r (bG ai) (lo+x)
   ·simp only[bu',decide_true,if_true];exact dc (h x ua ai kH WC (by lia) iE hq he)
   ·simp only[bu',decide_false,xI,if_false];have bv':R r (bG ai) (lo+x)=R r (bG ai) (lo+x-1):=by lia
    refine dc ⟨ua+1,rfl,kH,λi j hl mG hj=>?_,by lia,λi h1 h2=>?_⟩
    ·by_cases Ry:j<lo+x
     ·exact iE i j hl mG Ry
     ·have Au:j=lo+x:=by lia
      subst Au;by_cases ny:i=lo+x
      ·subst ny;exact zt _
      ·rw[bv'];exact iE i (lo+x-1) hl (by lia) (by lia)
    ·rw[show lo+(x+1)-1=lo+x by lia];by_cases hix:i=lo+x
     ·subst hix;rfl
     ·rw[bv'];exact he i (by lia) (by lia)
def gY{st:dA}{lo n nrem:Nat}{Q:Option Nat->dA->Prop}(C:rS prog w A s κ r P)(hk:fq st=κ)(hP:AllP P (bG st))(hn:lo+nrem<=(bG st).size)(EA:n+1<=nrem)(hs:Down r (bG st) lo (lo+(n+1))) (h:∀ m ai,n5 lo (lo+nrem) st ai->1<=m->m<=nrem->Up r (bG ai) lo (lo+m)->Q (some m) ai) :
  wpS (aT prog w) A E s (jJ lo n nrem) Q st:=by
 refine cq (wpS_lift (wpAny_rule ⟨rfl,?_⟩));refine cq (xM C hk hP hn (by lia) EA hs λm ua ai kH yb FI iE hq he=>?_);dsimp only;have hz:=kH.size;have hZ:lo+m<=(bG ai).size:=by lia
 have xo:=kH.kind.trans hk;have t5:=hP.perm kH.perm;by_cases Rz:ua>0
 ·rw[if_pos Rz];have hW:=fQ (i:=lo+m-(ua+1)) hZ;refine cq (cW (mO C (hW.kind.trans xo) (t5.perm hW.perm) (by rw[hW.size,hz];exact hn) (by lia) FI ?_ λm2 zI RA=>h m2 zI ((kH.trans (hW.mono (by lia) (by lia))).trans RA)));intro i j hl mG hj;rw[bD hZ he,bD hZ he];exact iE i j hl mG hj
 ·rw[if_neg Rz];exact mO C xo t5 (by rw[hz];exact hn) (by lia) FI iE λm2 zI RA=>h m2 zI (kH.trans RA)
def wpS_countRun{st:dA}{lo nrem:Nat}{Q:Option Nat->dA->Prop}(C:rS prog w A s κ r P)(hk:fq st=κ)(hP:AllP P (bG st))(hn:lo+nrem<=(bG st).size)(h1:1<=nrem)(h:∀ m ai,n5 lo (lo+nrem) st ai->1<=m->m<=nrem->Up r (bG ai) lo (lo+m)->Q (some m) ai) :
  wpS (aT prog w) A E s (countRun' lo nrem) Q st:=by
 rw[pL];refine cq (uh C hk hP hn (cx 1) h1 (λi j hl mG hj=>by
  have:i=j:=by lia
  subst this;exact zt _) λn hn1 IQ qf hor=>?_)
 by_cases EA:n=nrem
 ·rw[if_pos (by simpa using EA)];exact dc (h n st (.refl _ _ _) hn1 IQ qf)
 ·rw[if_neg (by simpa using EA)];have iL:R r (bG st) (lo+n)<R r (bG st) (lo+n-1):=hor.resolve_left EA;by_cases hgt:n>1
  ·rw[if_pos hgt];refine cq (lC C hk hP (by lia) (by lia) ?_);by_cases by':R r (bG st) lo<R r (bG st) (lo+n-1)
   ·simp only[by',decide_true,if_true];exact dc (h n st (.refl _ _ _) hn1 IQ qf)
   ·simp only[by',decide_false,xI,if_false];have hZ:lo+n<=(bG st).size:=by lia
    have D7:∀ k,lo<=k->k<lo+n->R r (bG st) k=R r (bG st) (lo+n-1):=by intro k hl hk;have a1:=qf lo k (by lia) hl hk;have a2:=qf k (lo+n-1) hl (by lia) (by lia);lia
    have hW:=fQ (i:=lo) hZ;refine cq (cW (gY C (hW.kind.trans hk) (hP.perm hW.perm) (by rw[hW.size];exact hn) (by lia) ?_ λm2 zI RA=>h m2 zI ((hW.mono (cx _) (by lia)).trans RA)));intro i j hl mG hj;rw[bD hZ D7,bD hZ D7];by_cases hjn:j<lo+n
    ·rw[D7 i hl (by lia),D7 j (by lia) hjn];exact zt _
    ·have Au:j=lo+n:=by lia
     subst Au;by_cases ny:i=lo+n
     ·subst ny;exact zt _
     ·rw[D7 i hl (by lia)];exact Iy iL
  ·rw[if_neg hgt];have iK':n=1:=by lia
   subst iK';refine gY C hk hP hn (by lia) ?_ h;intro i j hl mG hj;by_cases ny:i=j
   ·subst ny;exact zt _
   ·have D9:i=lo:=by lia
    have hj1:j=lo+1:=by lia
    subst D9;subst hj1;exact Iy iL
end
def Et(left:Bool)(key:bT)(arr:Array bT)(base i:Nat):StateT dA Sem (Option Bool):=do
 let x ← elem' arr (base+i)
 if left then lt' x key else return (<- lt' key x).map (!·)
def jP:Bool->bT->Array bT->Nat->Nat->Nat->StateT dA Sem (Option Nat):=sortPriv% PySem.Builtin.gallop
section
variable {prog:b9}{w:cy}{A:e7}{E:ah->aC->Prop}{s:aC}{κ:vn}{r:ah->Int}{P:ah->Prop}
def gd(r:ah->Int)(left:Bool)(key:bT)(arr:Array bT)(base i:Nat):Bool :=
 if left then decide (R r arr (base+i)<r key.1) else !decide (r key.1<R r arr (base+i))
def dB{st:dA}{left:Bool}{key:bT}{arr:Array bT}{base i:Nat}{Q:Option Bool->dA->Prop}(C:rS prog w A s κ r P)(hk:fq st=κ)(hP:AllP P arr)(hy:P key.1)(hi:base+i<arr.size)(h:Q (some (gd r left key arr base i)) st):wpS (aT prog w) A E s (Et left key arr base i) Q st:=by
 refine cq (aM hi λp ep=>?_);have e1:R r arr (base+i)=r p.1:=by unfold R;rw[ep]
 unfold gd at h;rw[e1] at h
 cases left with
 |true =>exact pM C hk (hP.at ep) hy h
 |false =>exact cq (pM C hk hy (hP.at ep) (dc h))
def zb(hu:Up r arr base (base+n))(mG:i<=j)(hj:j<n)(h:gd r left key arr base j=true):gd r left key arr base i=true:=by
 have q:=hu (base+i) (base+j) (by lia) (by lia) (by lia);unfold gd at h ⊢
 cases left with
 |true=>simp only[if_true,decide_eq_true_eq] at h ⊢;lia
 |false=>simp only[xI,if_false,Vt,decide_eq_false_iff_not] at h ⊢;lia
def cz{st:dA}{left:Bool}{key:bT}{arr:Array bT}{base n hint:Nat}{Q:Option Nat->dA->Prop}(C:rS prog w A s κ r P)(hk:fq st=κ)(hP:AllP P arr)(hy:P key.1)(hn:base+n<=arr.size)(hh:hint<n)(hu:Up r arr base (base+n))(h:∀ k,k<=n->(∀ i,i<k->gd r left key arr base i=true)->(∀ i,k<=i->i<n->gd r left key arr base i=false)->Q (some k) st):wpS (aT prog w) A E s (jP left key arr base n hint) Q st:=by
 have mono:∀ {i j},i<=j->j<n->gd r left key arr base j=true->gd r left key arr base i=true:=λa b c=>zb hu a b c;have Um:∀ {i j},i<=j->j<n->gd r left key arr base i=false->gd r left key arr base j=false:=λ{i j} a b c=>by
  cases q:gd r left key arr base j with
  |false=>rfl
  |true=>rw[mono a b q] at c;cases c
 refine cq (dB C hk hP hy (by lia) ?_);dsimp only
 cases q0:gd r left key arr base hint with
 |true =>
  refine cq (vt (sA (I:=λx c ai=>ai=st/\∃ lst gu,c=(none,lst,gu)/\lst<gu/\lst<n-hint/\x+1<=gu/\gd r left key arr base (hint+lst)=true) (Q:=λc ai=>ai=st/\∃ lst gu,c=(none,lst,gu)/\lst<gu/\lst<n-hint/\gd r left key arr base (hint+lst)=true/\(n-hint<=gu\/gd r left key arr base (hint+gu)=false)) ?step ?fin ?init) ?post)
  case init=>exact⟨rfl,0,1,rfl,by lia,by lia,by lia,q0⟩
  case fin =>
   rintro c ai ⟨rfl,lst,gu,rfl,h1,h2,h3,h4⟩;exact⟨rfl,lst,gu,rfl,h1,h2,h4,.inl (by lia)⟩
  case step =>
   rintro x c ai _ hx ⟨rfl,lst,gu,rfl,h1,h2,h3,h4⟩;dsimp only;by_cases t9:gu >= n-hint
   ·rw[if_pos t9];exact dc ⟨rfl,lst,gu,rfl,h1,h2,h4,.inl t9⟩
   ·rw[if_neg t9];refine cq (dB C hk hP hy (by lia) ?_)
    cases q:gd r left key arr base (hint+gu) with
    |true =>exact dc ⟨rfl,_,_,rfl,by lia,by lia,by lia,q⟩
    |false =>exact dc ⟨rfl,lst,gu,rfl,h1,h2,h4,.inr q⟩
  case post =>
   rintro c ai ⟨rfl,lst,gu,rfl,h1,h2,h4,h5⟩;generalize ai=st at *
   have hl:∀ i,i<hint+lst+1->gd r left key arr base i=true:=λi hi=>mono (by lia) (by lia) h4;have Ct:∀ i,hint+min gu (n-hint)<=i->i<n->gd r left key arr base i=false:=λi hi KL=>by
    rcases h5 with h5|h5
    ·lia
    ·by_cases z:n-hint<=gu
     ·lia
     ·exact Um (by lia) KL h5
   have WD:hint+lst+1<=hint+min gu (n-hint):=by lia
   have WH:hint+min gu (n-hint)<=n:=by lia
   generalize hint+lst+1=lo at *
   generalize hint+min gu (n-hint)=hi at *
   refine cq (vt (sA (I:=λx c ai=>ai=st/\∃ l u,c=(none,l,u)/\l<=u/\u<=n/\u-l<=n-x/\(∀ i,i<l->gd r left key arr base i=true)/\(∀ i,u<=i->i<n->gd r left key arr base i=false)) (Q:=λc ai=>ai=st/\∃ l,c=(none,l,l)/\l<=n/\(∀ i,i<l->gd r left key arr base i=true)/\(∀ i,l<=i->i<n->gd r left key arr base i=false)) ?iM' ?iN' ?iO') ?postA)
   case iO'=>exact⟨rfl,lo,hi,rfl,WD,WH,by lia,hl,Ct⟩
   case iN' =>
    rintro c ai ⟨rfl,l,u,rfl,h1,h2,h3,h4,h5⟩;have:l=u:=by lia
    subst this;exact⟨rfl,l,rfl,h2,h4,h5⟩
   case iM' =>
    rintro x c ai _ hx ⟨rfl,l,u,rfl,h1,h2,h3,h4,h5⟩;dsimp only;by_cases t9:l >= u
    ·rw[if_pos t9];have:l=u:=by lia
     subst this;exact dc ⟨rfl,l,rfl,h2,h4,h5⟩
    ·rw[if_neg t9];refine cq (dB C hk hP hy (by lia) ?_)
     cases q:gd r left key arr base (l+(u-l) / 2) with
     |true =>exact dc ⟨rfl,_,_,rfl,by lia,by lia,by lia,λi hi=>mono (by lia) (by lia) q,h5⟩
     |false =>exact dc ⟨rfl,_,_,rfl,by lia,by lia,by lia,h4,λi hi KL=>Um (by lia) KL q⟩
   case postA =>
    rintro c ai ⟨rfl,l,rfl,h2,h4,h5⟩;exact dc (h l h2 h4 h5)
 |false =>
  refine cq (vt (sA (I:=λx c ai=>ai=st/\∃ lst gu,c=(none,lst,gu)/\lst<gu/\lst<hint+1/\x+1<=gu/\gd r left key arr base (hint-lst)=false) (Q:=λc ai=>ai=st/\∃ lst gu,c=(none,lst,gu)/\lst<gu/\lst<hint+1/\gd r left key arr base (hint-lst)=false/\(hint+1<=gu\/gd r left key arr base (hint-gu)=true)) ?iP' ?fin2 ?iQ') ?iR')
  case iQ'=>exact⟨rfl,0,1,rfl,by lia,by lia,by lia,q0⟩
  case fin2 =>
   rintro c ai ⟨rfl,lst,gu,rfl,h1,h2,h3,h4⟩;exact⟨rfl,lst,gu,rfl,h1,h2,h4,.inl (by lia)⟩
  case iP' =>
   rintro x c ai _ hx ⟨rfl,lst,gu,rfl,h1,h2,h3,h4⟩;dsimp only;by_cases t9:gu >= hint+1
   ·rw[if_pos t9];exact dc ⟨rfl,lst,gu,rfl,h1,h2,h4,.inl t9⟩
   ·rw[if_neg t9];refine cq (dB C hk hP hy (by lia) ?_)
    cases q:gd r left key arr base (hint-gu) with
    |true =>exact dc ⟨rfl,lst,gu,rfl,h1,h2,h4,.inr q⟩
    |false =>exact dc ⟨rfl,_,_,rfl,by lia,by lia,by lia,q⟩
  case iR' =>
   rintro c ai ⟨rfl,lst,gu,rfl,h1,h2,h4,h5⟩;generalize ai=st at *
   have hl:∀ i,i<hint+1-min gu (hint+1)->gd r left key arr base i=true:=λi hi=>by
    rcases h5 with h5|h5
    ·lia
    ·by_cases z:hint+1<=gu
     ·lia
     ·exact mono (by lia) (by lia) h5
   have Ct:∀ i,hint-lst<=i->i<n->gd r left key arr base i=false:=λi hi KL=>Um (by lia) KL h4;have WD:hint+1-min gu (hint+1)<=hint-lst:=by lia
   have WH:hint-lst<=n:=by lia
   generalize hint+1-min gu (hint+1)=lo at *
   generalize hint-lst=hi at *
   refine cq (vt (sA (I:=λx c ai=>ai=st/\∃ l u,c=(none,l,u)/\l<=u/\u<=n/\u-l<=n-x/\(∀ i,i<l->gd r left key arr base i=true)/\(∀ i,u<=i->i<n->gd r left key arr base i=false)) (Q:=λc ai=>ai=st/\∃ l,c=(none,l,l)/\l<=n/\(∀ i,i<l->gd r left key arr base i=true)/\(∀ i,l<=i->i<n->gd r left key arr base i=false)) ?iS' ?iT' ?iU') ?iV')
   case iU'=>exact⟨rfl,lo,hi,rfl,WD,WH,by lia,hl,Ct⟩
   case iT' =>
    rintro c ai ⟨rfl,l,u,rfl,h1,h2,h3,h4,h5⟩;have:l=u:=by lia
    subst this;exact⟨rfl,l,rfl,h2,h4,h5⟩
   case iS' =>
    rintro x c ai _ hx ⟨rfl,l,u,rfl,h1,h2,h3,h4,h5⟩;dsimp only;by_cases t9:l >= u
    ·rw[if_pos t9];have:l=u:=by lia
     subst this;exact dc ⟨rfl,l,rfl,h2,h4,h5⟩
    ·rw[if_neg t9];refine cq (dB C hk hP hy (by lia) ?_)
     cases q:gd r left key arr base (l+(u-l) / 2) with
     |true =>exact dc ⟨rfl,_,_,rfl,by lia,by lia,by lia,λi hi=>mono (by lia) (by lia) q,h5⟩
     |false =>exact dc ⟨rfl,_,_,rfl,by lia,by lia,by lia,h4,λi hi KL=>Um (by lia) KL q⟩
   case iV' =>
    rintro c ai ⟨rfl,l,rfl,h2,h4,h5⟩;exact dc (h l h2 h4 h5)
end
abbrev Le(r:ah->Int)(x y:bT):Prop:=r x.1<=r y.1
def qh(e:xs[i]? = some p):R r xs i=r p.1:=by unfold R;rw[e]
def Iz(h:i<xs.size):R r xs i=r xs[i].1:=qh (getElem?_pos xs i h)
structure MI(r:ah->Int)(a b out:Array bT)(ia ib:Nat):Prop where
 ha:ia<=a.size
 hb:ib<=b.size
 perm:out.toList.Perm (a.toList.take ia++b.toList.take ib)
 up:out.toList.Pairwise (Le r)
 la:∀ x∈out.toList,∀ i,ia<=i->i<a.size->r x.1<=R r a i
 lb:∀ x∈out.toList,∀ j,ib<=j->j<b.size->r x.1<=R r b j
section
variable {r:ah->Int}{a b out:Array bT}{ia ib:Nat}
def mJ{α:Type}{l:List α}{i:Nat}{x:α}(h:l[i]? = some x):l.take (i+1)=l.take i++[x]:=by rw[AU,h];rfl
def MI.pA(M:MI r a b out ia ib)(hA:Up r a 0 a.size)(hB:Up r b 0 b.size)(e:b[ib]? = some y)(hl:ia<a.size->R r b ib<=R r a ia):MI r a b (out.push y) ia (ib+1):=by
 have hib:ib<b.size:=(S9.mp e).1;have ey:=qh (r:=r) e;refine⟨M.ha,hib,?_,?_,?_,?_⟩
 ·rw[sF,mJ (by simpa using e),<- oI];exact M.perm.append_right _
 ·rw[sF,SG];refine⟨M.up,by simp,λx hx z hz=>?_⟩;have:z=y:=by simpa using hz
  subst this;show r x.1<=r z.1;rw[<- ey];exact M.lb x hx ib (cx _) hib
 ·intro x hx i hi NH;rw[sF] at hx;rcases eK.mp hx with hx|hx
  ·exact M.la x hx i hi NH
  ·have:x=y:=by simpa using hx
   subst this;rw[<- ey];exact zo (hl (by lia)) (hA ia i (fI _) hi NH)
 ·intro x hx j hj RB;rw[sF] at hx;rcases eK.mp hx with hx|hx
  ·exact M.lb x hx j (by lia) RB
  ·have:x=y:=by simpa using hx
   subst this;rw[<- ey];exact hB ib j (fI _) (by lia) RB
def MI.pQ(M:MI r a b out ia ib)(hA:Up r a 0 a.size)(hB:Up r b 0 b.size)(e:a[ia]? = some y)(hl:ib<b.size->R r a ia<=R r b ib):MI r a b (out.push y) (ia+1) ib:=by
 have NH:ia<a.size:=(S9.mp e).1;have ey:=qh (r:=r) e;refine⟨NH,M.hb,?_,?_,?_,?_⟩
 ·rw[sF,mJ (by simpa using e),oI];refine(M.perm.append_right [y]).trans ?_;rw[oI];exact List.Perm.append_left _ Vg
 ·rw[sF,SG];refine⟨M.up,by simp,λx hx z hz=>?_⟩;have:z=y:=by simpa using hz
  subst this;show r x.1<=r z.1;rw[<- ey];exact M.la x hx ia (cx _) NH
 ·intro x hx i hi nX;rw[sF] at hx;rcases eK.mp hx with hx|hx
  ·exact M.la x hx i (by lia) nX
  ·have:x=y:=by simpa using hx
   subst this;rw[<- ey];exact hA ia i (fI _) (by lia) nX
 ·intro x hx j hj RB;rw[sF] at hx;rcases eK.mp hx with hx|hx
  ·exact M.lb x hx j hj RB
  ·have:x=y:=by simpa using hx
   subst this;rw[<- ey];exact zo (hl (by lia)) (hB ib j (fI _) hj RB)
def eQ{xs:Array bT}{i k:Nat}(h:i+k<xs.size):xs.extract i (i+(k+1))=(xs.extract i (i+k)).push xs[i+k]:=by apply Tb.mp;rw[sF];simp only[Vv,Ve];rw[show i+(k+1)-i=k+1 by lia,show i+k-i=k by lia,AU];congr 1;simp[h]
theorem MI.EB(hA:Up r a 0 a.size)(hB:Up r b 0 b.size):∀ (k:Nat) {out:Array bT} {ia:Nat},MI r a b out ia ib->ia+k<=a.size->(ib<b.size->∀ i,i<k->R r a (ia+i)<=R r b ib)->MI r a b (out++a.extract ia (ia+k)) (ia+k) ib
 |0,out,ia,M,h1,h2=>by have:a.extract ia (ia+0) = #[]:=QV (by simp only[IA];lia);rw[this];simpa using M
 |k+1,out,ia,M,h1,h2=>by have q:=MI.EB hA hB k M (by exact Iq ‹_›) λhb i hi=>h2 hb i (by exact Mb ‹_›);have e:a[ia+k]? = some a[ia+k]:=getElem?_pos a (ia+k) (by assumption);have z:=q.pQ hA hB e λhb=>h2 hb k (by exact cx _);rw[eQ (by assumption),Array.append_push];exact z
theorem MI.EC(hA:Up r a 0 a.size)(hB:Up r b 0 b.size):∀ (k:Nat) {out:Array bT} {ib:Nat},MI r a b out ia ib->ib+k<=b.size->(ia<a.size->∀ i,i<k->R r b (ib+i)<=R r a ia)->MI r a b (out++b.extract ib (ib+k)) ia (ib+k)
 |0,out,ib,M,h1,h2=>by have:b.extract ib (ib+0) = #[]:=QV (by simp only[IA];lia);rw[this];simpa using M
 |k+1,out,ib,M,h1,h2=>by have q:=MI.EC hA hB k M (by exact Iq ‹_›) λha i hi=>h2 ha i (by exact Mb ‹_›);have e:b[ib+k]? = some b[ib+k]:=getElem?_pos b (ib+k) (by assumption);have z:=q.pA hA hB e λha=>h2 ha k (by exact cx _);rw[eQ (by assumption),Array.append_push];exact z
def bV(r:ah->Int)(a b out:Array bT):Prop:=out.toList.Perm (a.toList++b.toList)/\out.toList.Pairwise (Le r)
def MI.whole(M:MI r a b out a.size b.size):bV r a b out:=by refine⟨?_,M.up⟩;have h:=M.perm;rw[L5 (by simp),L5 (by simp)] at h;exact h
def MI.Lx(M:MI r a b out ia b.size)(hA:Up r a 0 a.size)(hB:Up r b 0 b.size):bV r a b (out++a.extract ia a.size++b.extract b.size b.size):=by
 have e:b.extract b.size b.size = #[]:=by simp
 rw[e,Vw];have ha:=M.ha;have q:=MI.EB hA hB (a.size-ia) M (by lia) λhb=>absurd hb (xE _);rw[show ia+(a.size-ia)=a.size by exact P6 ‹_›] at q;exact q.whole
def MI.JX(M:MI r a b out a.size ib)(hA:Up r a 0 a.size)(hB:Up r b 0 b.size):bV r a b (out++a.extract a.size a.size++b.extract ib b.size):=by
 have e:a.extract a.size a.size = #[]:=by simp
 rw[e,Vw];have hb:=M.hb;have q:=MI.EC hA hB (b.size-ib) M (by lia) λha=>absurd ha (xE _);rw[show ib+(b.size-ib)=b.size by exact P6 ‹_›] at q;exact q.whole
def MI.NJ(M:MI r a b out ia ib)(hA:Up r a 0 a.size)(hB:Up r b 0 b.size)(e:ib=b.size):bV r a b (out++a.extract ia a.size++b.extract ib b.size):=by subst e;exact M.Lx hA hB
def MI.NM(M:MI r a b out ia ib)(hA:Up r a 0 a.size)(hB:Up r b 0 b.size)(e:ia=a.size):bV r a b (out++a.extract ia a.size++b.extract ib b.size):=by subst e;exact M.JX hA hB
def MI.K5(M:MI r a b out ia ib)(hA:Up r a 0 a.size)(hB:Up r b 0 b.size)(NH:ia+1=a.size)(hg:∀ j,j<b.size->R r b j<=R r a ia):bV r a b (out++b.extract ib b.size++a.extract ia a.size):=by have hb:=M.hb;have q:=MI.EC hA hB (b.size-ib) M (by lia) λha i hi=>hg _ (by lia);rw[show ib+(b.size-ib)=b.size by exact P6 ‹_›] at q;have z:=MI.EB hA hB (a.size-ia) q (by lia) λhb=>absurd hb (xE _);rw[show ia+(a.size-ia)=a.size by lia] at z;exact z.whole
def MI.start(hA:Up r a 0 a.size)(hB:Up r b 0 b.size):MI r a b #[] 0 0:=⟨fI _,fI _,by simp,by simp,λx hx=>by simp at hx,λx hx=>by simp at hx⟩
end
def bz:Nat->StateT dA Sem Unit:=sortPriv% PySem.Builtin.setMinGallop
def t6:Array bT->Array bT->StateT dA Sem (Array bT):=sortPriv% PySem.Builtin.mergeLo
def uq:Array bT->Array bT->StateT dA Sem (Array bT):=sortPriv% PySem.Builtin.mergeHi
def jt(g:Nat):bz g=modify λs=>SortSt.mk' (fq s) (bG s) (mB s) g (sC s):=rfl
def Mg(st ai:dA):Prop:=∃ g,ai=SortSt.mk' (fq st) (bG st) (mB st) g (sC st)
def Mg.refl(st:dA):Mg st st:=⟨gallopOf st,rfl⟩
def Mg.kind{st ai:dA}(h:Mg st ai):fq ai=fq st:=by obtain⟨g,rfl⟩:=h;rfl
def Mg.set{st ai:dA}(h:Mg st ai)(g:Nat):Mg st (SortSt.mk' (fq ai) (bG ai) (mB ai) g (sC ai)):=by obtain⟨g',rfl⟩:=h;exact⟨g,rfl⟩
section
variable {prog:b9}{w:cy}{A:e7}{E:ah->aC->Prop}{s:aC}{r:ah->Int}
def gJ{st:dA}{g:Nat}{Q:Unit->dA->Prop}(h:Q () (SortSt.mk' (fq st) (bG st) (mB st) g (sC st))):wpS (aT prog w) A E s (bz g) Q st:=by rw[jt];exact DT h
def Aa(h:gd r false key arr base i=true):R r arr (base+i)<=r key.1:=by unfold gd at h;simp only[xI,if_false,Vt,decide_eq_false_iff_not] at h;lia
def xj(h:gd r false key arr base i=false):r key.1<R r arr (base+i):=by unfold gd at h;simp only[xI,if_false,Bool.not_eq_false',decide_eq_true_eq] at h;exact h
def Gk(h:gd r true key arr base i=true):R r arr (base+i)<r key.1:=by unfold gd at h;simp only[if_true,decide_eq_true_eq] at h;exact h
def sH(h:gd r true key arr base i=false):r key.1<=R r arr (base+i):=by unfold gd at h;simp only[if_true,decide_eq_false_iff_not] at h;lia
end
def Mg.trans{a b c:dA}(h:Mg a b)(g:Mg b c):Mg a c:=by obtain⟨x,rfl⟩:=h;obtain⟨y,rfl⟩:=g;exact⟨y,rfl⟩
def DQ{K G:Prop}(pk:K)(h:K->G):G:=h pk
abbrev SM:=StateT dA Sem
abbrev L1:=Option (Array bT) × Array bT × Nat × Nat × Nat
abbrev KP:=Option (Array bT) × Array bT × Nat × Nat × Nat × Nat
abbrev L3:=Option (Array bT) × Array bT × Nat × Nat × Nat × Nat × Nat
def FK(a b out:Array bT)(ia ib:Nat):Array bT:=out++a.extract ia a.size++b.extract ib b.size
def RC(a b out:Array bT)(ia ib:Nat):Array bT:=out++b.extract ib b.size++a.extract ia a.size
def WK(a b:Array bT)(mg ac bc ia ib:Nat)(out:Array bT):SM (ForInStep L3):=elem' a ia >>= λp =>
 if (ia+1+1 == a.size)=true then pure (.done (some (RC a b (out.push p) (ia+1) ib),out.push p,ia+1,ib,mg,ac,bc))
 else if (decide (ac<7) && decide (bc<7))=true then pure (.done (none,out.push p,ia+1,ib,mg,ac,bc)) else pure (.yield (none,out.push p,ia+1,ib,mg,ac,bc))
def A2(a b:Array bT)(mg ac bc ia ib:Nat)(out:Array bT):SM (ForInStep L3):=elem' a ia >>= λp=>jP true p b ib (b.size-ib) 0 >>= λx=>match x with
 |some k=>if k>0 then
   if (ib+k == b.size)=true then pure (.done (some (FK a b (out++b.extract ib (ib+k)) ia (ib+k)),out++b.extract ib (ib+k),ia,ib+k,mg,ac,k))
   else WK a b mg ac k ia (ib+k) (out++b.extract ib (ib+k))
  else WK a b mg ac k ia ib out
 |_=>pure (.done (some (FK a b out ia ib),out,ia,ib,mg,ac,bc))
def lo1(a b:Array bT)(mg ac bc ia ib:Nat)(out:Array bT):SM (ForInStep L3):=elem' b ib >>= λp =>
 if (ib+1 == b.size)=true then pure (.done (some (FK a b (out.push p) ia (ib+1)),out.push p,ia,ib+1,mg,ac,bc)) else A2 a b mg ac bc ia (ib+1) (out.push p)
def WL(a b:Array bT)(mg ac bc ia ib:Nat)(out:Array bT):SM (ForInStep L3):=bz mg >>= λ_=>elem' b ib >>= λp=>jP false p a ia (a.size-ia) 0 >>= λx=>match x with
 |some k=>if k>0 then
   if (ia+k+1 == a.size)=true then pure (.done (some (RC a b (out++a.extract ia (ia+k)) (ia+k) ib),out++a.extract ia (ia+k),ia+k,ib,mg,k,bc))
   else if (ia+k == a.size)=true then pure (.done (some (FK a b (out++a.extract ia (ia+k)) (ia+k) ib),out++a.extract ia (ia+k),ia+k,ib,mg,k,bc))
   else lo1 a b mg k bc (ia+k) ib (out++a.extract ia (ia+k))
  else lo1 a b mg k bc ia ib out
 |_=>pure (.done (some (FK a b out ia ib),out,ia,ib,mg,ac,bc))
def loG(a b:Array bT)(_:Nat)(s:L3):SM (ForInStep L3) :=
 if s.2.2.2.2.1>1 then WL a b (s.2.2.2.2.1-1) s.2.2.2.2.2.1 s.2.2.2.2.2.2 s.2.2.1 s.2.2.2.1 s.2.1 else WL a b s.2.2.2.2.1 s.2.2.2.2.2.1 s.2.2.2.2.2.2 s.2.2.1 s.2.2.2.1 s.2.1
def loA(a b:Array bT)(mg bc ia ib:Nat)(out:Array bT):SM (ForInStep KP):=elem' b ib >>= λp =>
 if (ib+1 == b.size)=true then pure (.done (some (FK a b (out.push p) ia (ib+1)),out.push p,ia,ib+1,0,bc+1))
 else if bc+1 >= mg then pure (.done (none,out.push p,ia,ib+1,0,bc+1)) else pure (.yield (none,out.push p,ia,ib+1,0,bc+1))
def loB(a b:Array bT)(mg ac ia ib:Nat)(out:Array bT):SM (ForInStep KP):=elem' a ia >>= λp =>
 if (ia+1+1 == a.size)=true then pure (.done (some (RC a b (out.push p) (ia+1) ib),out.push p,ia+1,ib,ac+1,0))
 else if ac+1 >= mg then pure (.done (none,out.push p,ia+1,ib,ac+1,0)) else pure (.yield (none,out.push p,ia+1,ib,ac+1,0))
def loI(a b:Array bT)(mg:Nat)(_:Nat)(s:KP):SM (ForInStep KP):=elem' b s.2.2.2.1 >>= λpb=>elem' a s.2.2.1 >>= λpa=>lt' pb pa >>= λx=>match x with
 |some w=>if w=true then loA a b mg s.2.2.2.2.2 s.2.2.1 s.2.2.2.1 s.2.1 else loB a b mg s.2.2.2.2.1 s.2.2.1 s.2.2.2.1 s.2.1
 |_=>pure (.done (some (FK a b s.2.1 s.2.2.1 s.2.2.2.1),s.2.1,s.2.2.1,s.2.2.2.1,s.2.2.2.2.1,s.2.2.2.2.2))
def loP (a b:Array bT) (mg:Nat) (t:KP):SM (ForInStep L1):=(liftM (rule "list.sort.gallop"):SM Unit) >>= λ_ =>
 forIn [:a.size+b.size] ((none,t.2.1,t.2.2.1,t.2.2.2.1,mg+1,t.2.2.2.2.1,t.2.2.2.2.2):L3) (loG a b) >>= λu=>match u.1 with
 |some r=>pure (.done (some r,u.2.1,u.2.2.1,u.2.2.2.1,u.2.2.2.2.1))
 |none=>bz (u.2.2.2.2.1+1) >>= λ_=>pure (.yield (none,u.2.1,u.2.2.1,u.2.2.2.1,u.2.2.2.2.1+1))
def loO(a b:Array bT)(_:Nat)(s:L1):SM (ForInStep L1):=forIn [:a.size+b.size] ((none,s.2.1,s.2.2.1,s.2.2.2.1,0,0):KP) (loI a b s.2.2.2.2) >>= λt=>match t.1 with
 |some r=>pure (.done (some r,t.2.1,t.2.2.1,t.2.2.2.1,s.2.2.2.2))
 |none=>loP a b s.2.2.2.2 t
def loM (a b:Array bT):SM (Array bT):=(liftM (rule "list.sort.merge-lo"):SM Unit) >>= λ_=>elem' b 0 >>= λy =>
 if (1 == b.size)=true then pure (FK a b #[y] 0 1)
 else if (0+1 == a.size)=true then pure (RC a b #[y] 0 1)
 else get >>= λst=>forIn [:a.size+b.size] ((none,#[y],0,1,gallopOf st):L1) (loO a b) >>= λt=>match t.1 with
 |some r=>pure r
 |none=>(liftM (unsupported (α:=Array bT) "internal:list.sort.merge-bound"):SM (Array bT))
set_option smartUnfolding false in
def uP:t6=loM:=rfl
section
variable {prog:b9}{w:cy}{A:e7}{E:ah->aC->Prop}{s:aC}{κ:vn}{r:ah->Int}{P:ah->Prop}{a b out:Array bT}{mg ac bc ia ib N:Nat}{st:dA}
structure MC(prog:b9)(w:cy)(A:e7)(s:aC)(κ:vn)(r:ah->Int)(P:ah->Prop)(a b:Array bT):Prop where
 C:rS prog w A s κ r P
 pa:AllP P a
 pb:AllP P b
 hA:Up r a 0 a.size
 hB:Up r b 0 b.size
 hl:∀ i,i<a.size->R r b 0<=R r a i
 hg:∀ j,j<b.size->R r b j<=R r a (a.size-1)
def HS{β:Type}(r:ah->Int)(a b:Array bT)(c:Option (Array bT) × β):Prop:=∃ out rest,c=(some out,rest)/\bV r a b out
def LY(r:ah->Int)(a b:Array bT)(N:Nat)(c:L3):Prop:=∃ out ia ib mg ac bc,c=(none,out,ia,ib,mg,ac,bc)/\MI r a b out ia ib/\ia+1<a.size/\ib<b.size/\N<=ia+ib
def LI(r:ah->Int)(a b:Array bT)(N:Nat)(c:KP):Prop:=∃ out ia ib ac bc,c=(none,out,ia,ib,ac,bc)/\MI r a b out ia ib/\ia+1<a.size/\ib<b.size/\N<=ia+ib
def MC.last(c:MC prog w A s κ r P a b)(M:MI r a b out ia ib)(z:ia+1=a.size):bV r a b (RC a b out ia ib):=M.K5 c.hA c.hB z λj hj=>by have:=c.hg j hj;rwa[show a.size-1=ia by lia] at this
def Cp(c:MC prog w A s κ r P a b)(M:MI r a b out ia ib)(h1:ia+1<a.size)(lt:R r a ia<=R r b ib)(h2:ib<b.size)(hN:N<=ia+ib)(D:∀ c,HS r a b c->Q (.done c) st)(Y:∀ c,LY r a b N c->Q (.done c) st/\Q (.yield c) st):wpS (aT prog w) A E s (WK a b mg ac bc ia ib out) Q st:=by
 refine cq (aM (by lia) λp e=>?_);have M2:=M.pQ c.hA c.hB e λ_=>lt;by_cases z:ia+1+1=a.size
 ·rw[if_pos (by simpa using z)];exact dc (D _ ⟨_,_,rfl,c.last M2 z⟩)
 ·rw[if_neg (by simpa using z)];have y:=Y _ ⟨_,_,_,mg,ac,bc,rfl,M2,by lia,h2,by lia⟩;split
  ·exact dc y.1
  ·exact dc y.2
def Ja(c:MC prog w A s κ r P a b)(hk:fq st=κ)(M:MI r a b out ia ib)(h1:ia+1<a.size)(h2:ib<b.size)(hN:N<=ia+ib)(D:∀ c,HS r a b c->Q (.done c) st)(Y:∀ c,LY r a b N c->Q (.done c) st/\Q (.yield c) st):wpS (aT prog w) A E s (A2 a b mg ac bc ia ib out) Q st:=by
 refine cq (aM (by lia) λp e=>cq (cz c.C hk c.pb (c.pa.at e) (by lia) (by lia) (λi j u v w=>c.hB i j (by lia) v (by lia)) λl WM x8 NR=>?_));have ra:=qh (r:=r) e;dsimp only;have lt:ib+l<b.size->R r a ia<=R r b (ib+l):=λz=>by have:=sH (NR l (cx _) (by lia));lia
 by_cases l0:l>0
 ·have M5:=MI.EC c.hA c.hB l M (by lia) λ_ i hi=>by have:=Gk (x8 i hi);lia
  rw[if_pos l0];by_cases z:ib+l=b.size
  ·rw[if_pos (by simpa using z)];exact dc (D _ ⟨_,_,rfl,M5.NJ c.hA c.hB z⟩)
  ·rw[if_neg (by simpa using z)];exact Cp c M5 h1 (lt (by lia)) (by lia) (by lia) D Y
 ·rw[if_neg l0];obtain rfl:l=0:=by lia
  exact Cp c M h1 (lt h2) h2 hN D Y
def BW(c:MC prog w A s κ r P a b)(hk:fq st=κ)(M:MI r a b out ia ib)(h1:ia+1<a.size)(lt:R r b ib<=R r a ia)(h2:ib<b.size)(hN:N<=ia+ib)(D:∀ c,HS r a b c->Q (.done c) st)(Y:∀ c,LY r a b N c->Q (.done c) st/\Q (.yield c) st):wpS (aT prog w) A E s (lo1 a b mg ac bc ia ib out) Q st:=by
 refine cq (aM h2 λp e=>?_);have M4:=M.pA c.hA c.hB e λ_=>lt;by_cases z:ib+1=b.size
 ·rw[if_pos (by simpa using z)];exact dc (D _ ⟨_,_,rfl,M4.NJ c.hA c.hB z⟩)
 ·rw[if_neg (by simpa using z)];exact Ja c hk M4 h1 (by lia) (by lia) D Y
def GZ(c:MC prog w A s κ r P a b)(hk:fq st=κ)(M:MI r a b out ia ib)(h1:ia+1<a.size)(h2:ib<b.size)(hN:N<=ia+ib)(D:∀ ai,Mg st ai->∀ c,HS r a b c->Q (.done c) ai)(Y:∀ ai,Mg st ai->∀ c,LY r a b N c->Q (.done c) ai/\Q (.yield c) ai):wpS (aT prog w) A E s (WL a b mg ac bc ia ib out) Q st:=by
 have g:=(Mg.refl st).set mg;refine cq (gJ ?_);refine cq (aM h2 λp e=>cq (cz c.C (g.kind.trans hk) c.pa (c.pb.at e) (by lia) (by lia) (λi j u v w=>c.hA i j (by lia) v (by lia)) λk hk1 NS RG=>?_));have rb:=qh (r:=r) e;dsimp only;have lt:ia+k<a.size->R r b ib<=R r a (ia+k):=λz=>by have:=xj (RG k (cx _) (by lia));lia
 by_cases k0:k>0
 ·have M3:=MI.EB c.hA c.hB k M (by lia) λ_ i hi=>by have:=Aa (NS i hi);lia
  rw[if_pos k0];by_cases z:ia+k+1=a.size
  ·rw[if_pos (by simpa using z)];exact dc (D _ g _ ⟨_,_,rfl,c.last M3 z⟩)
  ·rw[if_neg (by simpa using z)];by_cases z2:ia+k=a.size
   ·rw[if_pos (by simpa using z2)];exact dc (D _ g _ ⟨_,_,rfl,M3.NM c.hA c.hB z2⟩)
   ·rw[if_neg (by simpa using z2)];exact BW c (g.kind.trans hk) M3 (by lia) (lt (by lia)) h2 (by lia) (D _ g) (Y _ g)
 ·rw[if_neg k0];obtain rfl:k=0:=by lia
  exact BW c (g.kind.trans hk) M h1 (lt (by lia)) h2 hN (D _ g) (Y _ g)
def Il(c:MC prog w A s κ r P a b)(M:MI r a b out ia ib)(h1:ia+1<a.size)(lt:R r b ib<=R r a ia)(h2:ib<b.size)(hN:N<=ia+ib+1)(D:∀ c,HS r a b c->Q (.done c) st)(Y:∀ c,LI r a b N c->Q (.done c) st/\Q (.yield c) st):wpS (aT prog w) A E s (loA a b mg bc ia ib out) Q st:=by
 refine cq (aM h2 λp e=>?_);have M2:=M.pA c.hA c.hB e λ_=>lt;by_cases z:ib+1=b.size
 ·rw[if_pos (by simpa using z)];exact dc (D _ ⟨_,_,rfl,M2.NJ c.hA c.hB z⟩)
 ·rw[if_neg (by simpa using z)];have y:=Y _ ⟨_,_,_,0,bc+1,rfl,M2,h1,by lia,hN⟩;split
  ·exact dc y.1
  ·exact dc y.2
def H_(c:MC prog w A s κ r P a b)(M:MI r a b out ia ib)(h1:ia+1<a.size)(lt:R r a ia<=R r b ib)(h2:ib<b.size)(hN:N<=ia+ib+1)(D:∀ c,HS r a b c->Q (.done c) st)(Y:∀ c,LI r a b N c->Q (.done c) st/\Q (.yield c) st):wpS (aT prog w) A E s (loB a b mg ac ia ib out) Q st:=by
 refine cq (aM (by lia) λp e=>?_);have M2:=M.pQ c.hA c.hB e λ_=>lt;by_cases z:ia+1+1=a.size
 ·rw[if_pos (by simpa using z)];exact dc (D _ ⟨_,_,rfl,c.last M2 z⟩)
 ·rw[if_neg (by simpa using z)];have y:=Y _ ⟨_,_,_,ac+1,0,rfl,M2,by lia,h2,by lia⟩;split
  ·exact dc y.1
  ·exact dc y.2
def Jq(c:MC prog w A s κ r P a b)(hk:fq st=κ)(M:MI r a b out ia ib)(h1:ia+1<a.size)(h2:ib<b.size)(hN:N<=ia+ib+1)(D:∀ c,HS r a b c->Q (.done c) st)(Y:∀ c,LI r a b N c->Q (.done c) st/\Q (.yield c) st):wpS (aT prog w) A E s (loI a b mg x (none,out,ia,ib,ac,bc)) Q st:=by
 refine cq (aM h2 λpb eb=>cq (aM (show ia<a.size by lia) λpa ea=>cq (pM c.C hk (c.pb.at eb) (c.pa.at ea) ?_)));have rb:R r b ib=r pb.1:=qh eb;have ra:R r a ia=r pa.1:=qh ea;dsimp only;by_cases hw:r pb.1<r pa.1
 ·rw[if_pos (decide_eq_true hw)];exact Il c M h1 (by lia) h2 hN D Y
 ·rw[if_neg (by simpa using hw)];exact H_ c M h1 (by lia) h2 hN D Y
def Ii(c:MC prog w A s κ r P a b)(hk:fq st=κ)(M:MI r a b out ia ib)(h1:ia+1<a.size)(h2:ib<b.size)(hN:N<=ia+ib)(D:∀ ai,Mg st ai->∀ c,HS r a b c->Q (.done c) ai)(Y:∀ ai,Mg st ai->∀ out ia ib mg,MI r a b out ia ib->ia+1<a.size->ib<b.size->N<=ia+ib->Q (.yield (none,out,ia,ib,mg)) ai):wpS (aT prog w) A E s (loP a b mg (none,out,ia,ib,ac,bc)) Q st:=by
 refine cq (wpS_lift (wpAny_rule ⟨rfl,?_⟩));refine cq (vt (sA (I:=λ_ c ai=>Mg st ai/\LY r a b N c) (Q:=λc ai=>Mg st ai/\(HS r a b c\/LY r a b N c)) ?step ?fin ⟨.refl st,_,_,_,_,_,_,rfl,M,h1,h2,hN⟩) ?post);case fin =>
  rintro c ai ⟨hm,q⟩;exact⟨hm,.inr q⟩
 case step =>
  rintro y c1 ED _ _ ⟨hm,out,ia,ib,mg,ac,bc,rfl,M,h1,h2,hN⟩;unfold loG;split<;>exact GZ c (hm.kind.trans hk) M h1 h2 hN (λai g c q=>⟨hm.trans g,.inl q⟩) λai g c q=>⟨⟨hm.trans g,.inr q⟩,hm.trans g,q⟩
 case post =>
  rintro c ai ⟨hm,⟨o,rest,rfl,hM⟩|⟨out,ia,ib,mg,ac,bc,rfl,M,h1,h2,hN⟩⟩
  ·exact dc (D _ hm _ ⟨_,_,rfl,hM⟩)
  ·exact cq (gJ (dc (Y _ (hm.set _) _ _ _ _ M h1 h2 hN)))
def Hr(c:MC prog w A s κ r P a b)(hk:fq st=κ)(M:MI r a b out ia ib)(h1:ia+1<a.size)(h2:ib<b.size)(hN:N<=ia+ib)(D:∀ ai,Mg st ai->∀ c,HS r a b c->Q (.done c) ai)(Y:∀ ai,Mg st ai->∀ out ia ib mg,MI r a b out ia ib->ia+1<a.size->ib<b.size->N+1<=ia+ib->Q (.yield (none,out,ia,ib,mg)) ai):wpS (aT prog w) A E s (loO a b x (none,out,ia,ib,mg)) Q st:=by
 refine cq (vt (sA (I:=λy c ai=>ai=st/\LI r a b (N+y) c) (Q:=λc ai=>ai=st/\(HS r a b c\/LI r a b (N+1) c)) ?step ?fin ⟨rfl,_,_,_,_,_,rfl,M,h1,h2,hN⟩) ?post);case fin =>
  rintro c ai ⟨rfl,o,ia',ib',ac,bc,rfl,M',q1,q2,q3⟩;exact⟨rfl,.inr ⟨_,_,_,_,_,rfl,M',q1,q2,by lia⟩⟩
 case step =>
  rintro y c1 ED _ hy ⟨rfl,o,ia',ib',ac,bc,rfl,M',q1,q2,q3⟩;exact Jq (N:=N+y+1) c hk M' q1 q2 (by lia) (λc q=>⟨rfl,.inl q⟩) λc q=>by obtain⟨o,ia,ib,ac,bc,rfl,M,h1,h2,h3⟩:=q;exact⟨⟨rfl,.inr ⟨_,_,_,_,_,rfl,M,h1,h2,by lia⟩⟩,rfl,_,_,_,_,_,rfl,M,h1,h2,by lia⟩
 case post =>
  rintro c1 ai ⟨rfl,⟨o,rest,rfl,hM⟩|⟨o,ia,ib,ac,bc,rfl,M',q1,q2,q3⟩⟩
  ·exact dc (D _ (.refl _) _ ⟨_,_,rfl,hM⟩)
  ·exact Ii c hk M' q1 q2 q3 D Y
def rK{st:dA}{a b:Array bT}{Q:Array bT->dA->Prop}(C:rS prog w A s κ r P)(hk:fq st=κ)(WN:AllP P a)(WQ:AllP P b)(hA:Up r a 0 a.size)(hB:Up r b 0 b.size)(na:1<=a.size)(nb:1<=b.size)(h0:R r b 0<=R r a 0) (hg:∀ j,j<b.size->R r b j<=R r a (a.size-1)) (h:∀ out ai,bV r a b out->Mg st ai->Q out ai):wpS (aT prog w) A E s (t6 a b) Q st:=by
 have c:MC prog w A s κ r P a b:=⟨C,WN,WQ,hA,hB,λi hi=>zo h0 (hA 0 i (cx _) (fI _) hi),hg⟩
 rw[uP];refine cq (wpS_lift (wpAny_rule ⟨rfl,?_⟩));refine cq (aM nb λy0 e0=>?_);have M1:MI r a b #[y0] 0 1:=(MI.start hA hB).pA hA hB e0 λ_=>h0;by_cases c1:1=b.size
 ·rw[if_pos (by simpa using c1)];exact dc (h _ _ (M1.NJ hA hB c1) (.refl st))
 ·rw[if_neg (by simpa using c1)];by_cases c2:0+1=a.size
  ·rw[if_pos (by simpa using c2)];exact dc (h _ _ (c.last M1 c2) (.refl st))
  ·rw[if_neg (by simpa using c2)];refine cq (wpS_get ?_);refine cq (vt (sA (I:=λx c ai=>Mg st ai/\∃ out ia ib mg,c=(none,out,ia,ib,mg)/\MI r a b out ia ib/\ia+1<a.size/\ib<b.size/\x+1<=ia+ib) (Q:=λc ai=>Mg st ai/\HS r a b c) ?step ?fin ⟨.refl st,_,_,_,_,rfl,M1,by lia,by lia,by lia⟩) ?post)
   case fin =>
    rintro c ai ⟨_,out,ia,ib,mg,rfl,M,h1,h2,h3⟩;lia
   case post =>
    rintro c ai ⟨hm,out,rest,rfl,hM⟩;exact dc (h out ai hM hm)
   case step =>
    rintro x c1 ED _ hx ⟨yb,out,ia,ib,mg,rfl,M,h1,h2,h3⟩;exact Hr c (yb.kind.trans hk) M h1 h2 h3 (λai g c q=>⟨yb.trans g,q⟩) λai g out ia ib mg M h1 h2 h3=>⟨yb.trans g,_,_,_,_,rfl,M,h1,h2,h3⟩
end
abbrev Ge(r:ah->Int)(x y:bT):Prop:=r y.1<=r x.1
structure MH(r:ah->Int)(a b out:Array bT)(na nb:Nat):Prop where
 ha:na<=a.size
 hb:nb<=b.size
 perm:out.toList.Perm (a.toList.drop na++b.toList.drop nb)
 down:out.toList.Pairwise (Ge r)
 ga:∀ x∈out.toList,∀ i,i<na->R r a i<=r x.1
 gb:∀ x∈out.toList,∀ j,j<nb->R r b j<=r x.1
section
variable {r:ah->Int}{a b out:Array bT}{na nb:Nat}
def pH{α:Type}{l:List α}{i:Nat}{x:α}(h0:0<i)(h:l[i-1]? = some x):l.drop (i-1)=x :: l.drop i:=by obtain⟨hi,e⟩:=nh.mp h;rw[xD hi,e,show i-1+1=i by exact Nat.sub_add_cancel ‹_›]
def MH.pQ(M:MH r a b out na nb)(hA:Up r a 0 a.size)(hB:Up r b 0 b.size)(h0:0<na)(e:a[na-1]? = some y)(hl:0<nb->R r b (nb-1)<=R r a (na-1)):MH r a b (out.push y) (na-1) nb:=by
 have ey:=qh (r:=r) e;have ha:=M.ha;have hb:=M.hb;refine⟨by lia,M.hb,?_,?_,?_,?_⟩
 ·rw[sF,pH h0 (by simpa using e)];exact(M.perm.append_right [y]).trans Vg
 ·rw[sF,SG];refine⟨M.down,by simp,λx hx z hz=>?_⟩;have:z=y:=by simpa using hz
  subst this;show r z.1<=r x.1;rw[<- ey];exact M.ga x hx (na-1) (by lia)
 ·intro x hx i hi;rw[sF] at hx;rcases eK.mp hx with hx|hx
  ·exact M.ga x hx i (by lia)
  ·have:x=y:=by simpa using hx
   subst this;rw[<- ey];exact hA i (na-1) (fI _) (by lia) (by lia)
 ·intro x hx j hj;rw[sF] at hx;rcases eK.mp hx with hx|hx
  ·exact M.gb x hx j hj
  ·have:x=y:=by simpa using hx
   subst this;rw[<- ey];exact zo (hB j (nb-1) (fI _) (by lia) (by lia)) (hl (by lia))
def MH.pA(M:MH r a b out na nb)(hA:Up r a 0 a.size)(hB:Up r b 0 b.size)(h0:0<nb)(e:b[nb-1]? = some y)(hl:0<na->R r a (na-1)<=R r b (nb-1)):MH r a b (out.push y) na (nb-1):=by
 have ey:=qh (r:=r) e;have ha:=M.ha;have hb:=M.hb;refine⟨M.ha,by lia,?_,?_,?_,?_⟩
 ·rw[sF,pH h0 (by simpa using e)];refine(M.perm.append_right [y]).trans ?_;rw[oI];exact List.Perm.append_left _ Vg
 ·rw[sF,SG];refine⟨M.down,by simp,λx hx z hz=>?_⟩;have:z=y:=by simpa using hz
  subst this;show r z.1<=r x.1;rw[<- ey];exact M.gb x hx (nb-1) (by lia)
 ·intro x hx i hi;rw[sF] at hx;rcases eK.mp hx with hx|hx
  ·exact M.ga x hx i hi
  ·have:x=y:=by simpa using hx
   subst this;rw[<- ey];exact zo (hA i (na-1) (fI _) (by lia) (by lia)) (hl (by lia))
 ·intro x hx j hj;rw[sF] at hx;rcases eK.mp hx with hx|hx
  ·exact M.gb x hx j (by lia)
  ·have:x=y:=by simpa using hx
   subst this;rw[<- ey];exact hB j (nb-1) (fI _) (by lia) (by lia)
def j8{xs:Array bT}{i n:Nat}(h:i<n)(hn:n<=xs.size):(xs.extract i n).reverse = #[xs[n-1]'(by lia)]++(xs.extract i (n-1)).reverse:=by
 obtain⟨k,rfl⟩:∃ k,n=i+(k+1):=⟨n-1-i,by lia⟩
 have e3:i+(k+1)-1=i+k:=by rfl
 simp only[e3];rw[eQ (by assumption),Array.reverse_push]
theorem MH.EB(hA:Up r a 0 a.size)(hB:Up r b 0 b.size):∀ (k:Nat) {out:Array bT} {na p:Nat},MH r a b out na nb->p+k=na->(0<nb->∀ i,p<=i->i<na->R r b (nb-1)<=R r a i)->MH r a b (out++(a.extract p na).reverse) p nb
 |0,out,na,p,M,h1,h2=>by
  have:a.extract p na = #[]:=QV (by simp only[IA];lia);have e:na=p:=by lia
  subst e;rw[this];simpa using M
 |k+1,out,na,p,M,h1,h2=>by have ha:=M.ha;have e:a[na-1]? = some (a[na-1]'(by lia)):=getElem?_pos a (na-1) (by lia);have q:=M.pQ hA hB (by lia) e λhb=>h2 hb _ (by lia) (by lia);have z:=MH.EB hA hB k q (by lia) λhb i ub nX=>h2 hb i ub (by lia);rw[j8 (by lia) ha,<- QX];simpa using z
theorem MH.EC(hA:Up r a 0 a.size)(hB:Up r b 0 b.size):∀ (k:Nat) {out:Array bT} {nb p:Nat},MH r a b out na nb->p+k=nb->(0<na->∀ i,p<=i->i<nb->R r a (na-1)<=R r b i)->MH r a b (out++(b.extract p nb).reverse) na p
 |0,out,nb,p,M,h1,h2=>by
  have:b.extract p nb = #[]:=QV (by simp only[IA];lia);have e:nb=p:=by lia
  subst e;rw[this];simpa using M
 |k+1,out,nb,p,M,h1,h2=>by have hb:=M.hb;have e:b[nb-1]? = some (b[nb-1]'(by lia)):=getElem?_pos b (nb-1) (by lia);have q:=M.pA hA hB (by lia) e λha=>h2 ha _ (by lia) (by lia);have z:=MH.EC hA hB k q (by lia) λha i ub nX=>h2 ha i ub (by lia);rw[j8 (by lia) hb,<- QX];simpa using z
def MH.whole(M:MH r a b out 0 0):bV r a b out.reverse:=by
 refine⟨?_,?_⟩
 ·have h:=M.perm;rw[Array.toList_reverse];exact(List.reverse_perm _).trans h
 ·rw[Array.toList_reverse,List.pairwise_reverse];exact M.down
def nQ(x y:Array bT):(x++y.reverse).reverse=y++x.reverse:=by apply Tb.mp;simp
def MH.NM(M:MH r a b out na nb)(hA:Up r a 0 a.size)(hB:Up r b 0 b.size)(e:na=0):bV r a b (a.extract 0 na++b.extract 0 nb++out.reverse):=by
 subst e;have z:=MH.EC hA hB nb (p:=0) M (by exact P9 ..) λha=>absurd ha (xE _);have q:=z.whole;rw[nQ] at q;have e2:a.extract 0 0 = #[]:=by simp
 rw[e2,Array.empty_append];exact q
def MH.NJ(M:MH r a b out na nb)(hA:Up r a 0 a.size)(hB:Up r b 0 b.size)(e:nb=0):bV r a b (a.extract 0 na++b.extract 0 nb++out.reverse):=by
 subst e;have z:=MH.EB hA hB na (p:=0) M (by exact P9 ..) λhb=>absurd hb (xE _);have q:=z.whole;rw[nQ] at q;have e2:b.extract 0 0 = #[]:=by simp
 rw[e2,Vw];exact q
def MH.rZ(M:MH r a b out na nb)(hA:Up r a 0 a.size)(hB:Up r b 0 b.size)(e:nb=1)(hl:∀ i,i<a.size->R r b 0<=R r a i):bV r a b (b.extract 0 nb++a.extract 0 na++out.reverse):=by subst e;have ha:=M.ha;have z:=MH.EB hA hB na (p:=0) M (by exact P9 ..) λ_ i _ hi=>hl i (by lia);have z2:=MH.EC hA hB 1 (p:=0) z (by exact P9 ..) λh=>absurd h (xE _);have q:=z2.whole;rw[nQ,nQ] at q;rw[QX];exact q
def MH.start:MH r a b #[] a.size b.size:=⟨cx _,cx _,by simp,by simp,λx hx=>by simp at hx,λx hx=>by simp at hx⟩
end
abbrev S1:=Option (Array bT) × Nat × Nat × Array bT × Nat
abbrev S2:=Option (Array bT) × Nat × Nat × Array bT × Nat × Nat
abbrev S3:=Option (Array bT) × Nat × Nat × Array bT × Nat × Nat × Nat
def FL(a b out:Array bT)(na nb:Nat):Array bT:=a.extract 0 na++b.extract 0 nb++out.reverse
def Uo(a b out:Array bT)(na nb:Nat):Array bT:=b.extract 0 nb++a.extract 0 na++out.reverse
def WR(a b:Array bT)(mg ac bc na nb:Nat)(out:Array bT):SM (ForInStep S3):=elem' a (na-1) >>= λp =>
 if (na-1 == 0)=true then pure (.done (some (FL a b (out.push p) (na-1) nb),na-1,nb,out.push p,mg,ac,bc))
 else if (decide (ac<7) && decide (bc<7))=true then pure (.done (none,na-1,nb,out.push p,mg,ac,bc)) else pure (.yield (none,na-1,nb,out.push p,mg,ac,bc))
def nX(a b:Array bT)(mg ac bc na nb:Nat)(out:Array bT):SM (ForInStep S3):=elem' a (na-1) >>= λp=>jP true p b 0 nb (nb-1) >>= λx=>match x with
 |some k=>if nb-k>0 then
   if (k == 1)=true then pure (.done (some (Uo a b (out++(b.extract k nb).reverse) na k),na,k,out++(b.extract k nb).reverse,mg,ac,nb-k))
   else if (k == 0)=true then pure (.done (some (FL a b (out++(b.extract k nb).reverse) na k),na,k,out++(b.extract k nb).reverse,mg,ac,nb-k))
   else WR a b mg ac (nb-k) na k (out++(b.extract k nb).reverse)
  else WR a b mg ac (nb-k) na nb out
 |_=>pure (.done (some (FL a b out na nb),na,nb,out,mg,ac,bc))
def ub(a b:Array bT)(mg ac bc na nb:Nat)(out:Array bT):SM (ForInStep S3):=elem' b (nb-1) >>= λp =>
 if (nb-1 == 1)=true then pure (.done (some (Uo a b (out.push p) na (nb-1)),na,nb-1,out.push p,mg,ac,bc)) else nX a b mg ac bc na (nb-1) (out.push p)
def D9(a b:Array bT)(mg ac bc na nb:Nat)(out:Array bT):SM (ForInStep S3):=bz mg >>= λ_=>elem' b (nb-1) >>= λp=>jP false p a 0 na (na-1) >>= λx=>match x with
 |some k=>if na-k>0 then
   if (k == 0)=true then pure (.done (some (FL a b (out++(a.extract k na).reverse) k nb),k,nb,out++(a.extract k na).reverse,mg,na-k,bc))
   else ub a b mg (na-k) bc k nb (out++(a.extract k na).reverse)
  else ub a b mg (na-k) bc na nb out
 |_=>pure (.done (some (FL a b out na nb),na,nb,out,mg,ac,bc))
def hiG(a b:Array bT)(_:Nat)(s:S3):SM (ForInStep S3) :=
 if s.2.2.2.2.1>1 then D9 a b (s.2.2.2.2.1-1) s.2.2.2.2.2.1 s.2.2.2.2.2.2 s.2.1 s.2.2.1 s.2.2.2.1 else D9 a b s.2.2.2.2.1 s.2.2.2.2.2.1 s.2.2.2.2.2.2 s.2.1 s.2.2.1 s.2.2.2.1
def hiA(a b:Array bT)(mg ac na nb:Nat)(out:Array bT):SM (ForInStep S2):=elem' a (na-1) >>= λp =>
 if (na-1 == 0)=true then pure (.done (some (FL a b (out.push p) (na-1) nb),na-1,nb,out.push p,ac+1,0))
 else if ac+1 >= mg then pure (.done (none,na-1,nb,out.push p,ac+1,0)) else pure (.yield (none,na-1,nb,out.push p,ac+1,0))
def hiB(a b:Array bT)(mg bc na nb:Nat)(out:Array bT):SM (ForInStep S2):=elem' b (nb-1) >>= λp =>
 if (nb-1 == 1)=true then pure (.done (some (Uo a b (out.push p) na (nb-1)),na,nb-1,out.push p,0,bc+1))
 else if bc+1 >= mg then pure (.done (none,na,nb-1,out.push p,0,bc+1)) else pure (.yield (none,na,nb-1,out.push p,0,bc+1))
def hiI(a b:Array bT)(mg:Nat)(_:Nat)(s:S2):SM (ForInStep S2):=elem' b (s.2.2.1-1) >>= λpb=>elem' a (s.2.1-1) >>= λpa=>lt' pb pa >>= λx=>match x with
 |some w=>if w=true then hiA a b mg s.2.2.2.2.1 s.2.1 s.2.2.1 s.2.2.2.1 else hiB a b mg s.2.2.2.2.2 s.2.1 s.2.2.1 s.2.2.2.1
 |_=>pure (.done (some (FL a b s.2.2.2.1 s.2.1 s.2.2.1),s.2.1,s.2.2.1,s.2.2.2.1,s.2.2.2.2.1,s.2.2.2.2.2))
def hiP (a b:Array bT) (mg:Nat) (t:S2):SM (ForInStep S1):=(liftM (rule "list.sort.gallop"):SM Unit) >>= λ_ =>
 forIn [:a.size+b.size] ((none,t.2.1,t.2.2.1,t.2.2.2.1,mg+1,t.2.2.2.2.1,t.2.2.2.2.2):S3) (hiG a b) >>= λu=>match u.1 with
 |some r=>pure (.done (some r,u.2.1,u.2.2.1,u.2.2.2.1,u.2.2.2.2.1))
 |none=>bz (u.2.2.2.2.1+1) >>= λ_=>pure (.yield (none,u.2.1,u.2.2.1,u.2.2.2.1,u.2.2.2.2.1+1))
def hiO(a b:Array bT)(_:Nat)(s:S1):SM (ForInStep S1):=forIn [:a.size+b.size] ((none,s.2.1,s.2.2.1,s.2.2.2.1,0,0):S2) (hiI a b s.2.2.2.2) >>= λt=>match t.1 with
 |some r=>pure (.done (some r,t.2.1,t.2.2.1,t.2.2.2.1,s.2.2.2.2))
 |none=>hiP a b s.2.2.2.2 t
def hiM (a b:Array bT):SM (Array bT):=(liftM (rule "list.sort.merge-hi"):SM Unit) >>= λ_=>elem' a (a.size-1) >>= λy =>
 if (a.size-1 == 0)=true then pure (FL a b #[y] (a.size-1) b.size)
 else if (b.size == 1)=true then pure (Uo a b #[y] (a.size-1) b.size)
 else get >>= λst=>forIn [:a.size+b.size] ((none,a.size-1,b.size,#[y],gallopOf st):S1) (hiO a b) >>= λt=>match t.1 with
 |some r=>pure r
 |none=>(liftM (unsupported (α:=Array bT) "internal:list.sort.merge-bound"):SM (Array bT))
set_option smartUnfolding false in
def u_:uq=hiM:=rfl
section
variable {prog:b9}{w:cy}{A:e7}{E:ah->aC->Prop}{s:aC}{κ:vn}{r:ah->Int}{P:ah->Prop}{a b out:Array bT}{mg ac bc na nb N:Nat}{st:dA}{Q:ForInStep S3->dA->Prop}
def HD(r:ah->Int)(a b:Array bT)(Q:ForInStep S3->dA->Prop)(st:dA):Prop:=∀ o rest,bV r a b o->Q (.done (some o,rest)) st
def HY(r:ah->Int)(a b:Array bT)(N:Nat)(Q:ForInStep S3->dA->Prop)(st:dA):Prop :=
 ∀ o na nb mg ac bc,MH r a b o na nb->1<=na->2<=nb->na+nb<=N->Q (.done (none,na,nb,o,mg,ac,bc)) st/\Q (.yield (none,na,nb,o,mg,ac,bc)) st
def Bw(c:MC prog w A s κ r P a b)(M:MH r a b out na nb)(h1:0<na)(lt:R r b (nb-1)<=R r a (na-1))(h2:2<=nb)(hN:na+nb<=N)(D:HD r a b Q st)(Y:HY r a b N Q st):wpS (aT prog w) A E s (WR a b mg ac bc na nb out) Q st:=by
 have ha:=M.ha;refine cq (aM (by lia) λp e=>?_);have M2:=M.pQ c.hA c.hB h1 e λ_=>lt;by_cases z:na-1=0
 ·rw[if_pos (by simpa using z)];exact dc (D _ _ (M2.NM c.hA c.hB z))
 ·rw[if_neg (by simpa using z)];have y:=Y _ _ _ mg ac bc M2 (by lia) h2 (by lia);split
  ·exact dc y.1
  ·exact dc y.2
def Hz(c:MC prog w A s κ r P a b)(hk:fq st=κ)(M:MH r a b out na nb)(h1:0<na)(h2:2<=nb)(hN:na+nb<=N)(D:HD r a b Q st)(Y:HY r a b N Q st):wpS (aT prog w) A E s (nX a b mg ac bc na nb out) Q st:=by
 have ha:=M.ha;have hb:=M.hb;refine cq (aM (by lia) λp e=>cq (cz c.C hk c.pb (c.pa.at e) (by lia) (by lia) (λi j u v w=>c.hB i j u v (by lia)) λl WM x8 NR=>?_));have ra:=qh (r:=r) e;dsimp only;have lt:0<l->R r b (l-1)<=R r a (na-1):=λz=>by have:=Gk (x8 (l-1) (by exact Nat.sub_lt ‹_› Nat.one_pos));rw[SX] at this;lia
 by_cases l0:nb-l>0
 ·have M5:=MH.EC c.hA c.hB (nb-l) (p:=l) M (by exact P6 ‹_›) λ_ i ub nX=>by have:=sH (NR i ub nX);rw[SX] at this;lia
  rw[if_pos l0];by_cases z4:l=1
  ·rw[if_pos (by simpa using z4)];exact dc (D _ _ (M5.rZ c.hA c.hB z4 c.hl))
  ·rw[if_neg (by simpa using z4)];by_cases z6:l=0
   ·rw[if_pos (by simpa using z6)];exact dc (D _ _ (M5.NJ c.hA c.hB z6))
   ·rw[if_neg (by simpa using z6)];exact Bw c M5 h1 (lt (by lia)) (by lia) (by lia) D Y
 ·rw[if_neg l0];obtain rfl:l=nb:=by lia
  exact Bw c M h1 (lt (by exact Vp ‹_›)) h2 hN D Y
def Bp(c:MC prog w A s κ r P a b)(hk:fq st=κ)(M:MH r a b out na nb)(h1:0<na)(h2:2<=nb)(lt:R r a (na-1)<=R r b (nb-1))(hN:na+nb<=N)(D:HD r a b Q st)(Y:HY r a b N Q st):wpS (aT prog w) A E s (ub a b mg ac bc na nb out) Q st:=by
 have hb:=M.hb;refine cq (aM (by lia) λp e=>?_);have M4:=M.pA c.hA c.hB (by exact Vp ‹_›) e λ_=>lt;by_cases z:nb-1=1
 ·rw[if_pos (by simpa using z)];exact dc (D _ _ (M4.rZ c.hA c.hB z c.hl))
 ·rw[if_neg (by simpa using z)];exact Hz c hk M4 h1 (by lia) (by lia) D Y
def G8(c:MC prog w A s κ r P a b)(hk:fq st=κ)(M:MH r a b out na nb)(h1:0<na)(h2:2<=nb)(hN:na+nb<=N)(D:∀ ai,Mg st ai->HD r a b Q ai)(Y:∀ ai,Mg st ai->HY r a b N Q ai):wpS (aT prog w) A E s (D9 a b mg ac bc na nb out) Q st:=by
 have ha:=M.ha;have hb:=M.hb;have g:=(Mg.refl st).set mg;refine cq (gJ ?_);refine cq (aM (by lia) λp e=>cq (cz c.C (g.kind.trans hk) c.pa (c.pb.at e) (by lia) (by exact Nat.sub_lt ‹_› Nat.one_pos) (λi j u v w=>c.hA i j u v (by lia)) λk hk1 NS RG=>?_));have rb:=qh (r:=r) e;dsimp only;have lt:0<k->R r a (k-1)<=R r b (nb-1):=λz=>by have:=Aa (NS (k-1) (by exact Nat.sub_lt ‹_› Nat.one_pos));rw[SX] at this;lia
 by_cases k0:na-k>0
 ·have M3:=MH.EB c.hA c.hB (na-k) (p:=k) M (by exact P6 ‹_›) λ_ i ub nX=>by have:=xj (RG i ub nX);rw[SX] at this;lia
  rw[if_pos k0];by_cases z:k=0
  ·rw[if_pos (by simpa using z)];exact dc (D _ g _ _ (M3.NM c.hA c.hB z))
  ·rw[if_neg (by simpa using z)];exact Bp c (g.kind.trans hk) M3 (by lia) h2 (lt (by lia)) (by lia) (D _ g) (Y _ g)
 ·rw[if_neg k0];obtain rfl:k=na:=by lia
  exact Bp c (g.kind.trans hk) M h1 h2 (lt h1) hN (D _ g) (Y _ g)
def HI(r:ah->Int)(a b:Array bT)(N:Nat)(c:S2):Prop:=∃ na nb out ac bc,c=(none,na,nb,out,ac,bc)/\MH r a b out na nb/\1<=na/\2<=nb/\na+nb<=N
def Ij{Q:ForInStep S2->dA->Prop}(c:MC prog w A s κ r P a b)(M:MH r a b out na nb)(h1:0<na)(lt:R r b (nb-1)<=R r a (na-1))(h2:2<=nb)(hN:na+nb<=N+1)(D:∀ c,HS r a b c->Q (.done c) st)(Y:∀ c,HI r a b N c->Q (.done c) st/\Q (.yield c) st):wpS (aT prog w) A E s (hiA a b mg ac na nb out) Q st:=by
 have ha:=M.ha;refine cq (aM (by lia) λp e=>?_);have M2:=M.pQ c.hA c.hB h1 e λ_=>lt;by_cases z:na-1=0
 ·rw[if_pos (by simpa using z)];exact dc (D _ ⟨_,_,rfl,M2.NM c.hA c.hB z⟩)
 ·rw[if_neg (by simpa using z)];have y:=Y _ ⟨_,_,_,ac+1,0,rfl,M2,by lia,h2,by lia⟩;split
  ·exact dc y.1
  ·exact dc y.2
def Jj{Q:ForInStep S2->dA->Prop}(c:MC prog w A s κ r P a b)(M:MH r a b out na nb)(h1:0<na)(lt:R r a (na-1)<=R r b (nb-1))(h2:2<=nb)(hN:na+nb<=N+1)(D:∀ c,HS r a b c->Q (.done c) st)(Y:∀ c,HI r a b N c->Q (.done c) st/\Q (.yield c) st):wpS (aT prog w) A E s (hiB a b mg bc na nb out) Q st:=by
 have hb:=M.hb;refine cq (aM (by lia) λp e=>?_);have M2:=M.pA c.hA c.hB (by exact Vp ‹_›) e λ_=>lt;by_cases z:nb-1=1
 ·rw[if_pos (by simpa using z)];exact dc (D _ ⟨_,_,rfl,M2.rZ c.hA c.hB z c.hl⟩)
 ·rw[if_neg (by simpa using z)];have y:=Y _ ⟨_,_,_,0,bc+1,rfl,M2,h1,by lia,by lia⟩;split
  ·exact dc y.1
  ·exact dc y.2
def IW{Q:ForInStep S2->dA->Prop}{x:Nat}(c:MC prog w A s κ r P a b)(hk:fq st=κ)(M:MH r a b out na nb)(h1:0<na)(h2:2<=nb)(hN:na+nb<=N+1)(D:∀ c,HS r a b c->Q (.done c) st)(Y:∀ c,HI r a b N c->Q (.done c) st/\Q (.yield c) st):wpS (aT prog w) A E s (hiI a b mg x (none,na,nb,out,ac,bc)) Q st:=by
 have ha:=M.ha;have hb:=M.hb;refine cq (aM (show nb-1<b.size by lia) λpb eb=>cq (aM (show na-1<a.size by lia) λpa ea=>cq (pM c.C hk (c.pb.at eb) (c.pa.at ea) ?_)));have rb:R r b (nb-1)=r pb.1:=qh eb;have ra:R r a (na-1)=r pa.1:=qh ea;dsimp only;by_cases hw:r pb.1<r pa.1
 ·rw[if_pos (decide_eq_true hw)];exact Ij c M h1 (by lia) h2 hN D Y
 ·rw[if_neg (by simpa using hw)];exact Jj c M h1 (by lia) h2 hN D Y
def Ht{Q:ForInStep S1->dA->Prop}(c:MC prog w A s κ r P a b)(hk:fq st=κ)(M:MH r a b out na nb)(h1:0<na)(h2:2<=nb)(hN:na+nb<=N)(D:∀ ai,Mg st ai->∀ c,HS r a b c->Q (.done c) ai)(Y:∀ ai,Mg st ai->∀ out na nb mg,MH r a b out na nb->1<=na->2<=nb->na+nb<=N->Q (.yield (none,na,nb,out,mg)) ai):wpS (aT prog w) A E s (hiP a b mg (none,na,nb,out,ac,bc)) Q st:=by
 refine cq (wpS_lift (wpAny_rule ⟨rfl,?_⟩));refine cq (vt (sA (I:=λ_ c ai=>Mg st ai/\∃ na nb out mg ac bc,c=(none,na,nb,out,mg,ac,bc)/\MH r a b out na nb/\1<=na/\2<=nb/\na+nb<=N) (Q:=λc ai=>Mg st ai/\(HS r a b c\/∃ na nb out mg ac bc,c=(none,na,nb,out,mg,ac,bc)/\MH r a b out na nb/\1<=na/\2<=nb/\na+nb<=N)) ?step ?fin ⟨.refl st,_,_,_,_,_,_,rfl,M,h1,h2,hN⟩) ?post)
 case fin =>
  rintro c ai ⟨hm,q⟩;exact⟨hm,.inr q⟩
 case step =>
  rintro y c1 ED _ _ ⟨hm,na,nb,out,mg,ac,bc,rfl,M,h1,h2,hN⟩;unfold hiG;split<;>exact G8 c (hm.kind.trans hk) M h1 h2 hN (λai g o rest hM=>⟨hm.trans g,.inl ⟨o,rest,rfl,hM⟩⟩) λai g o na nb mg ac bc M h1 h2 hN=>⟨⟨hm.trans g,.inr ⟨_,_,_,_,_,_,rfl,M,h1,h2,hN⟩⟩,hm.trans g,_,_,_,_,_,_,rfl,M,h1,h2,hN⟩
 case post =>
  rintro c ai ⟨hm,⟨o,rest,rfl,hM⟩|⟨na,nb,out,mg,ac,bc,rfl,M,h1,h2,hN⟩⟩
  ·exact dc (D _ hm _ ⟨_,_,rfl,hM⟩)
  ·exact cq (gJ (dc (Y _ (hm.set _) _ _ _ _ M h1 h2 hN)))
def Jb{Q:ForInStep S1->dA->Prop}{x:Nat}(c:MC prog w A s κ r P a b)(hk:fq st=κ)(M:MH r a b out na nb)(h1:0<na)(h2:2<=nb)(hN:na+nb<=N+1)(D:∀ ai,Mg st ai->∀ c,HS r a b c->Q (.done c) ai)(Y:∀ ai,Mg st ai->∀ out na nb mg,MH r a b out na nb->1<=na->2<=nb->na+nb<=N->Q (.yield (none,na,nb,out,mg)) ai):wpS (aT prog w) A E s (hiO a b x (none,na,nb,out,mg)) Q st:=by
 have hb:=M.hb;refine cq (vt (sA (I:=λy c ai=>ai=st/\HI r a b (N+1-y) c) (Q:=λc ai=>ai=st/\(HS r a b c\/HI r a b N c)) ?step ?fin ⟨rfl,_,_,_,_,_,rfl,M,h1,h2,hN⟩) ?post);case fin =>
  rintro c ai ⟨rfl,na',qk,o,ac,bc,rfl,M',q1,q2,q3⟩;exact⟨rfl,.inr ⟨_,_,_,_,_,rfl,M',q1,q2,by lia⟩⟩
 case step =>
  rintro y c1 ED _ hy ⟨rfl,na',qk,o,ac,bc,rfl,M',q1,q2,q3⟩;exact IW (N:=N-y) c hk M' q1 q2 (by lia) (λc q=>⟨rfl,.inl q⟩) λc q=>by obtain⟨na,nb,o,ac,bc,rfl,M,h1,h2,h3⟩:=q;exact⟨⟨rfl,.inr ⟨_,_,_,_,_,rfl,M,h1,h2,by lia⟩⟩,rfl,_,_,_,_,_,rfl,M,h1,h2,by lia⟩
 case post =>
  rintro c1 ai ⟨rfl,⟨o,rest,rfl,hM⟩|⟨na,nb,o,ac,bc,rfl,M',q1,q2,q3⟩⟩
  ·exact dc (D _ (.refl _) _ ⟨_,_,rfl,hM⟩)
  ·exact Ht c hk M' q1 q2 q3 D Y
def qQ{st:dA}{a b:Array bT}{Q:Array bT->dA->Prop}(C:rS prog w A s κ r P)(hk:fq st=κ)(WN:AllP P a)(WQ:AllP P b)(hA:Up r a 0 a.size)(hB:Up r b 0 b.size)(na:1<=a.size)(nb:1<=b.size)(h0:R r b 0<=R r a 0) (hg:∀ j,j<b.size->R r b j<=R r a (a.size-1)) (h:∀ out ai,bV r a b out->Mg st ai->Q out ai):wpS (aT prog w) A E s (uq a b) Q st:=by
 have c:MC prog w A s κ r P a b:=⟨C,WN,WQ,hA,hB,λi hi=>zo h0 (hA 0 i (cx _) (fI _) hi),hg⟩
 rw[u_];refine cq (wpS_lift (wpAny_rule ⟨rfl,?_⟩));refine cq (aM (by lia) λy0 e0=>?_);have M1:MH r a b #[y0] (a.size-1) b.size:=MH.start.pQ hA hB na e0 λ_=>hg _ (by lia);by_cases c1:a.size-1=0
 ·rw[if_pos (by simpa using c1)];exact dc (h _ _ (M1.NM hA hB c1) (.refl st))
 ·rw[if_neg (by simpa using c1)];by_cases c2:b.size=1
  ·rw[if_pos (by simpa using c2)];exact dc (h _ _ (M1.rZ hA hB c2 c.hl) (.refl st))
  ·rw[if_neg (by simpa using c2)];refine cq (wpS_get ?_);refine cq (vt (sA (I:=λx c ai=>Mg st ai/\∃ na nb out mg,c=(none,na,nb,out,mg)/\MH r a b out na nb/\1<=na/\2<=nb/\na+nb<=a.size+b.size-x) (Q:=λc ai=>Mg st ai/\HS r a b c) ?step ?fin ⟨.refl st,_,_,_,_,rfl,M1,by lia,by lia,by lia⟩) ?post)
   case fin =>
    rintro c ai ⟨_,na,nb,out,mg,rfl,M,h1,h2,h3⟩;lia
   case post =>
    rintro c ai ⟨hm,out,rest,rfl,hM⟩;exact dc (h out ai hM hm)
   case step =>
    rintro x c1 ED _ hx ⟨yb,na,nb,out,mg,rfl,M,h1,h2,h3⟩;exact Jb c (yb.kind.trans hk) M h1 h2 (by lia) (λai g c q=>⟨yb.trans g,q⟩) λai g out na nb mg M h1 h2 h3=>⟨yb.trans g,_,_,_,_,rfl,M,h1,h2,h3⟩
end
def wr(p:Nat)(m:List bT)(n:Nat)(xs:Array bT):Array bT:=(m.zipIdx n).foldl (λa (q:bT × Nat)=>a.setIfInBounds (p+q.2) q.1) xs
theorem vO(p:Nat):∀ (m:List bT) (n:Nat) (xs:Array bT),p+n+m.length<=xs.size->∀ k:Nat,(wr p m n xs)[k]? = if p+n<=k/\k<p+n+m.length then m[k-(p+n)]? else xs[k]?
 |[],n,xs,h,k=>by rw[if_neg (by simp only[P4];lia)];rfl
 |q :: m,n,xs,h,k=>by
  have ih:=vO p m (n+1) (xs.setIfInBounds (p+n) q) (by rw[Array.size_setIfInBounds];simp only[kB] at h;lia) k;have e:wr p (q :: m) n xs=wr p m (n+1) (xs.setIfInBounds (p+n) q):=by unfold wr;rw[List.zipIdx_cons,Ic]
  simp only[kB] at h ⊢;rw[e,ih];by_cases h1:p+(n+1)<=k/\k<p+(n+1)+m.length
  ·rw[if_pos h1,if_pos (by lia),show k-(p+n)=(k-(p+(n+1)))+1 by lia,List.getElem?_cons_succ]
  ·rw[if_neg h1];by_cases h2:k=p+n
   ·subst h2;rw[if_pos (by lia),SY,List.getElem?_cons_zero,Array.getElem?_setIfInBounds_self_of_lt (by lia)]
   ·rw[if_neg (by lia),Array.getElem?_setIfInBounds_ne (by lia)]
def Fw(h:p+m.length<=xs.size):(wr p m 0 xs).toList=xs.toList.take p++m++xs.toList.drop (p+m.length):=by
 have hl:xs.toList.length=xs.size:=by simp
 apply Vm;intro k;have e:=vO p m 0 xs h k;rw[S0] at e;rw[B3,e];by_cases h1:k<p
 ·rw[if_neg (by lia),oI,HM (by rw[mw];lia),List.getElem?_take_of_lt h1,B3]
 ·by_cases h2:k<p+m.length
  ·rw[if_pos (by lia),oI,DF (by rw[mw];lia),mw,show min p xs.toList.length=p by lia,HM (by lia)]
  ·rw[if_neg (by lia),oI,DF (by rw[mw];lia),mw,show min p xs.toList.length=p by lia,DF (by lia),List.getElem?_drop,
    show p+m.length+(k-p-m.length)=k by lia,B3]
def HX{p q:Nat}{xs:Array bT}(h:p<=q)(h2:q<=xs.size):xs.toList=xs.toList.take p++(xs.extract p q).toList++xs.toList.drop q:=by
 rw[Vv,Ve];have e1:xs.toList.take p++(xs.toList.drop p).take (q-p)=xs.toList.take q:=by rw[<- PH p (xs.toList.take q),List.take_take,List.drop_take,Nat.min_eq_left h]
 rw[e1,PH]
def DW{p q:Nat}{m:List bT}{xs:Array bT}(h:p<=q)(h2:q<=xs.size)(hm:m.Perm (xs.extract p q).toList):(wr p m 0 xs).Perm xs:=by
 have hl:m.length=q-p:=by rw[hm.length_eq];simp;lia
 rw[Vu,Fw (by lia),show p+m.length=q by lia];have e:=HX h h2;exact(List.Perm.append_right _ (List.Perm.append_left _ hm)).trans (by rw[<- e])
def Runs(r:ah->Int)(xs:Array bT):List (Nat × Nat × Nat)->Nat->Nat->Prop
 |[],a,b=>a=b
 | (s,n,_) :: rest,a,b=>s=a/\1<=n/\Up r xs s (s+n)/\Runs r xs rest (s+n) b
section
variable {r:ah->Int}{xs ys:Array bT}
theorem Runs.le:∀ {ps:List (Nat × Nat × Nat)} {a b:Nat},Runs r xs ps a b->a+ps.length<=b
 |[],a,b,h=>by simp only[Runs] at h;simp;lia
 | (s,n,p) :: rest,a,b,h=>by obtain⟨rfl,h1,_,h3⟩:=h;have:=Runs.le h3;simp only[kB];lia
theorem Runs.append:∀ {ps qs:List (Nat × Nat × Nat)} {a b:Nat},Runs r xs (ps++qs) a b↔∃ c,Runs r xs ps a c/\Runs r xs qs c b
 |[],qs,a,b=>by simp[Runs]
 | (s,n,p) :: rest,qs,a,b=>by
  constructor
  ·rintro⟨h1,h2,h3,h4⟩;obtain⟨c,h5,h6⟩:=Runs.append.mp h4;exact⟨c,⟨h1,h2,h3,h5⟩,h6⟩
  ·rintro⟨c,⟨h1,h2,h3,h5⟩,h6⟩;exact⟨h1,h2,h3,Runs.append.mpr ⟨c,h5,h6⟩⟩
def Up.congr(h:Up r xs a b)(e:∀ k,a<=k->k<b->ys[k]? = xs[k]?):Up r ys a b:=λi j h1 h2 h3=>by rw[cB (e i h1 (by lia)),cB (e j (by lia) h3)];exact h i j h1 h2 h3
theorem Runs.congr:∀ {ps:List (Nat × Nat × Nat)} {a b:Nat},Runs r xs ps a b->(∀ k,a<=k->k<b->ys[k]? = xs[k]?)->Runs r ys ps a b
 |[],a,b,h,_=>h
 | (s,n,p) :: rest,a,b,h,e=>by obtain⟨rfl,h1,h2,h3⟩:=h;have l:=h3.le;exact⟨rfl,h1,h2.congr λk u v=>e k u (by lia),Runs.congr h3 λk u v=>e k (by lia) v⟩
def Up.glue(h1:Up r xs a b)(h2:Up r xs b c)(h:∀ i j,a<=i->i<b->b<=j->j<c->R r xs i<=R r xs j):Up r xs a c:=λi j u v w=>by
 by_cases hj:j<b
 ·exact h1 i j u v hj
 ·by_cases hi:i<b
  ·exact h i j u hi (by lia) w
  ·exact h2 i j (by lia) v w
end
section
variable {prog:b9}{w:cy}{A:e7}{E:ah->aC->Prop}{s:aC}{κ:vn}{r:ah->Int}{P:ah->Prop}
def AllP.extract(h:AllP P xs)(i j:Nat):AllP P (xs.extract i j):=λp hp=>h p (by
 rw[Vv,Ve] at hp;exact SJ (L8 hp))
def dD(h:i+k<j)(hj:j<=xs.size):R r (xs.extract i j) k=R r xs (i+k):=by apply cB;rw[Ta,if_pos (by lia)]
def Up.extract(h:Up r xs i j)(mG:i<=j)(hj:j<=xs.size):Up r (xs.extract i j) 0 (xs.extract i j).size:=λa b _ h2 h3=>by
 have e:(xs.extract i j).size=j-i:=by simp only[IA];lia
 rw[dD (by lia) hj,dD (by lia) hj];exact h _ _ (by lia) (by lia) (by lia)
def wz(hz:sa+na+nb<=xs.size)(hk:k<na)(hnb:qk<=nb)(hA:Up r xs sa (sa+na))(hB:Up r xs (sa+na) (sa+na+nb))(lo1:∀ i,i<k->R r xs (sa+i)<=R r xs (sa+na)) (A2:R r xs (sa+na)<R r xs (sa+k)) (ub:∀ i,i<qk->R r xs (sa+na+i)<R r xs (sa+na-1)) (nX:∀ i,qk<=i->i<nb->R r xs (sa+na-1)<=R r xs (sa+na+i))(hm:bV r (xs.extract (sa+k) (sa+na)) (xs.extract (sa+na) (sa+na+qk)) m) :
  Up r (wr (sa+k) m.toList 0 xs) sa (sa+na+nb)/\(wr (sa+k) m.toList 0 xs).Perm xs/\∀ j,j<sa\/sa+na+nb<=j->(wr (sa+k) m.toList 0 xs)[j]? = xs[j]? := by
 obtain⟨mp,mu⟩:=hm;have eab:(xs.extract (sa+k) (sa+na)).toList++(xs.extract (sa+na) (sa+na+qk)).toList=(xs.extract (sa+k) (sa+na+qk)).toList:=by rw[<- Array.toList_append,Array.extract_append_extract,show min (sa+k) (sa+na)=sa+k by lia,show max (sa+na) (sa+na+qk)=sa+na+qk by lia]
 rw[eab] at mp;have ml:m.toList.length=na+qk-k:=by rw[mp.length_eq];simp;lia
 have hw:sa+k+m.toList.length<=xs.size:=by lia
 have get:=vO (sa+k) m.toList 0 xs (by lia);rw[S0,ml] at get
 -- every merged item is one of the pi'
 have mem:∀ (j:Nat) p,m.toList[j]? = some p->∃ i,sa+k<=i/\i<sa+na+qk/\r p.1=R r xs i:=λj p e=>by
  have hp:p∈(xs.extract (sa+k) (sa+na+qk)).toList:=mp.mem_iff.mp (rg e);obtain⟨i,hi⟩:=List.getElem?_of_mem hp;rw[B3,Ta] at hi;split at hi
  ·exact⟨sa+k+i,by lia,by lia,(qh hi).symm⟩
  ·cases hi
 have low:∀ i,sa+k<=i->i<sa+na+qk->R r xs (sa+na)<=R r xs i:=λi h1 h2=>by
  by_cases h3:i<sa+na
  ·exact zo (Iy A2) (hA (sa+k) i (by lia) h1 h3)
  ·exact hB (sa+na) i (cx _) (by lia) (by lia)
 have high:∀ i,sa+k<=i->i<sa+na+qk->R r xs i<=R r xs (sa+na-1):=λi h1 h2=>by
  by_cases h3:i<sa+na
  ·exact hA i (sa+na-1) (by lia) (by lia) (by lia)
  ·have:=ub (i-(sa+na)) (by lia);rw[show sa+na+(i-(sa+na))=i by lia] at this;lia
 have Rin:∀ j,j<na+qk-k->∃ i,sa+k<=i/\i<sa+na+qk/\R r (wr (sa+k) m.toList 0 xs) (sa+k+j)=R r xs i:=λj hj=>by
  have e:=get (sa+k+j);rw[if_pos (by lia),show sa+k+j-(sa+k)=j by lia] at e;have Au:j<m.toList.length:=by lia
  obtain⟨i,h1,h2,h3⟩:=mem j m.toList[j] (vk Au);rw[vk Au] at e;exact⟨i,h1,h2,(qh e).trans h3⟩
 have NV:∀ j,j<sa+k\/sa+na+qk<=j->(wr (sa+k) m.toList 0 xs)[j]? = xs[j]? := λj hj=>by have e:=get j;rw[if_neg (by lia)] at e;exact e
 refine⟨?_,DW (by lia) (by lia) mp,λj hj=>NV j (by lia)⟩;have U1:Up r (wr (sa+k) m.toList 0 xs) sa (sa+k):=Up.congr (λi j h1 h2 h3=>hA i j h1 h2 (by lia)) λj h1 h2=>NV j (.inl h2);have U2:Up r (wr (sa+k) m.toList 0 xs) (sa+k) (sa+na+qk):=λi j h1 h2 h3=>by
  have ei:=get i;have ej:=get j;rw[if_pos (by lia)] at ei ej;have li:i-(sa+k)<m.toList.length:=by lia
  have lj:j-(sa+k)<m.toList.length:=by lia
  rw[vk li] at ei;rw[vk lj] at ej;rw[qh ei,qh ej];by_cases mG:i=j
  ·subst mG;exact zt _
  ·exact(LZ.mp mu) _ _ li lj (by lia)
 have U3:Up r (wr (sa+k) m.toList 0 xs) (sa+na+qk) (sa+na+nb):=Up.congr (λi j h1 h2 h3=>hB i j (by lia) h2 h3) λj h1 h2=>NV j (.inr h1);refine(U1.glue U2 λi j h1 h2 h3 h4=>?_).glue U3 λi j h1 h2 h3 h4=>?_
 ·obtain⟨q,q1,q2,q3⟩:=Rin (j-(sa+k)) (by lia);rw[show sa+k+(j-(sa+k))=j by lia] at q3;rw[q3,cB (NV i (.inl h2))];have:=lo1 (i-sa) (by lia);rw[show sa+(i-sa)=i by lia] at this;exact zo this (low q q1 q2)
 ·have e2:=nX (j-(sa+na)) (by lia) (by lia);rw[show sa+na+(j-(sa+na))=j by lia] at e2;rw[cB (NV j (.inr h3))];by_cases hi:i<sa+k
  ·rw[cB (NV i (.inl hi))];have:=lo1 (i-sa) (by lia);rw[show sa+(i-sa)=i by lia] at this;have:=low (sa+na-1) (by lia) (by lia);lia
  ·obtain⟨q,q1,q2,q3⟩:=Rin (i-(sa+k)) (by lia);rw[show sa+k+(i-(sa+k))=i by lia] at q3;rw[q3];exact zo (high q q1 q2) e2
structure St(r:ah->Int)(κ:vn)(fE:Array bT)(st:dA)(ps:List (Nat × Nat × Nat))(lo:Nat):Prop where
 kind:fq st=κ
 failed:sC st=none
 perm:(bG st).Perm fE
 pend:mB st=ps.toArray
 runs:Runs r (bG st) ps 0 lo
def St.size{fE:Array bT}{st:dA}{ps:List (Nat × Nat × Nat)}{lo:Nat}(h:St r κ fE st ps lo):(bG st).size=fE.size:=h.perm.size_eq
def Ay{ps:List (Nat × Nat × Nat)}(h:i+1<ps.length):∃ pre x y post,ps=pre++x :: y :: post/\pre.length=i:=by refine⟨ps.take i,ps[i],ps[i+1],ps.drop (i+2),?_,by rw[mw];lia⟩;rw[<- xD (by lia),<- xD (by lia),PH]
def jK{st:dA}{fE:Array bT}{ps:List (Nat × Nat × Nat)}{lo i:Nat}{Q:Bool->dA->Prop}(C:rS prog w A s κ r P)(hP:AllP P fE)(H:St r κ fE st ps lo)(FD:lo<=fE.size)(hi:i+1<ps.length)(h:∀ ai kK,St r κ fE ai kK lo->kK.length+1=ps.length->kK≠[]->(∀ k,lo<=k->(bG ai)[k]? = (bG st)[k]?)->Q true ai):wpS (aT prog w) A E s (mergeAt' i) Q st:=by
 obtain⟨pre,⟨sa,na,pa⟩,⟨sb,nb,pb⟩,post,rfl,FC⟩:=Ay hi;have hz:=H.size;have t5:AllP P (bG st):=hP.perm H.perm;obtain⟨c,hr1,hr2⟩:=Runs.append.mp H.runs;obtain⟨rfl,n1,u1,rfl,n2,u2,hr3⟩:=hr2;have le3:=hr3.le;have le1:=hr1.le
 -- the new pending list
 have jd':((mB st).setIfInBounds i (sa,na+nb,pa)).eraseIdxIfInBounds (i+1)=(pre++(sa,na+nb,pa) :: post).toArray:=by rw[H.pend];apply Tb.mp;simp[<- FC,List.eraseIdx_append_of_length_le]
 have new:∀ xs g,xs.Perm (bG st)->(∀ j,j<sa\/sa+na+nb<=j->xs[j]? = (bG st)[j]?)->Up r xs sa (sa+(na+nb)) ->
   St r κ fE (SortSt.mk' (fq st) xs (pre++(sa,na+nb,pa) :: post).toArray g (sC st)) (pre++(sa,na+nb,pa) :: post) lo:=λxs g hp ho hu =>
  ⟨H.kind,H.failed,hp.trans H.perm,rfl,Runs.append.mpr ⟨sa,hr1.congr λk _ hk=>ho k (.inl hk),rfl,by lia,hu,by
   rw[show sa+(na+nb)=sa+na+nb by lia];exact hr3.congr λk hk _=>ho k (.inr hk)⟩⟩
 have len:(pre++(sa,na+nb,pa) :: post).length+1=(pre++(sa,na,pa) :: (sa+na,nb,pb) :: post).length:=by simp;lia
 have e0:(mB st)[i]? = some (sa,na,pa):=by rw[H.pend,<- FC];simp
 have e1:(mB st)[i+1]? = some (sa+na,nb,pb):=by rw[H.pend,<- FC];simp
 refine cq (wpS_get ?_);rw[e0,e1];refine cq (DT ?_);rw[jd'];refine cq (aM (xs:=bG st) (by lia) λkb ekb=>cq (cz (arr:=bG st) C H.kind t5 (t5.at ekb) (by lia) (by lia) u1 λk hk1 NS RG=>?_));have rkb:=qh (r:=r) ekb;dsimp only;by_cases z:na-k=0
 ·rw[if_pos (by simpa using z)];refine dc (h _ _ (new (bG st) (gallopOf st) (Array.Perm.refl _) (λ_ _=>rfl) ?_) len (by simp) λ_ _=>rfl);rw[show sa+(na+nb)=sa+na+nb by lia];refine u1.glue u2 λi j h1 h2 h3 h4=>?_;have:=Aa (NS (i-sa) (by lia));rw[show sa+(i-sa)=i by lia] at this;have:=u2 (sa+na) j (cx _) h3 h4;lia
 ·rw[if_neg (by simpa using z)];refine cq (aM (xs:=bG st) (by lia) λka eka=>cq (cz (arr:=bG st) C H.kind t5 (t5.at eka) (by lia) (by lia) u2 λl WM x8 NR=>?_));have rka:=qh (r:=r) eka;rw[show sa+k+(na-k)-1=sa+na-1 by lia] at rka;dsimp only;by_cases z2:l=0
  ·rw[if_pos (by simpa using z2)];refine dc (h _ _ (new (bG st) (gallopOf st) (Array.Perm.refl _) (λ_ _=>rfl) ?_) len (by simp) λ_ _=>rfl);rw[show sa+(na+nb)=sa+na+nb by lia];refine u1.glue u2 λi j h1 h2 h3 h4=>?_;have:=sH (NR (j-(sa+na)) (by lia) (by lia));rw[show sa+na+(j-(sa+na))=j by lia] at this;have:=u1 i (sa+na-1) h1 (by lia) (by lia);lia
  ·rw[if_neg (by simpa using z2)];have lo1:∀ i,i<k->R r (bG st) (sa+i)<=R r (bG st) (sa+na):=λi hi=>by have:=Aa (NS i hi);lia
   have A2:R r (bG st) (sa+na)<R r (bG st) (sa+k):=by have:=xj (RG k (cx _) (by lia));lia
   have ub:∀ i,i<l->R r (bG st) (sa+na+i)<R r (bG st) (sa+na-1):=λi hi=>by have:=Gk (x8 i hi);lia
   have nX:∀ i,l<=i->i<nb->R r (bG st) (sa+na-1)<=R r (bG st) (sa+na+i):=λi h1 h2=>by have:=sH (NR i h1 h2);lia
   have sx:((bG st).extract (sa+k) (sa+na)).size=na-k:=by simp only[IA];lia
   have sy:((bG st).extract (sa+na) (sa+na+l)).size=l:=by simp only[IA];lia
   have ux:Up r ((bG st).extract (sa+k) (sa+na)) 0 ((bG st).extract (sa+k) (sa+na)).size:=Up.extract (λi j h1 h2 h3=>u1 i j (by lia) h2 h3) (by lia) (by lia);have uy:Up r ((bG st).extract (sa+na) (sa+na+l)) 0 ((bG st).extract (sa+na) (sa+na+l)).size:=Up.extract (λi j h1 h2 h3=>u2 i j h1 h2 (by lia)) (by lia) (by lia);have h00:R r ((bG st).extract (sa+na) (sa+na+l)) 0<=R r ((bG st).extract (sa+k) (sa+na)) 0:=by rw[dD (by lia) (by lia),dD (by lia) (by lia)];exact Iy A2
   have hgg:∀ j,j<((bG st).extract (sa+na) (sa+na+l)).size->R r ((bG st).extract (sa+na) (sa+na+l)) j<=R r ((bG st).extract (sa+k) (sa+na)) (((bG st).extract (sa+k) (sa+na)).size-1):=λj hj=>by rw[sx,dD (by lia) (by lia),dD (by lia) (by lia),show sa+k+(na-k-1)=sa+na-1 by lia];exact Iy (ub j (by lia))
   have fin:∀ out ai,bV r ((bG st).extract (sa+k) (sa+na)) ((bG st).extract (sa+na) (sa+na+l)) out->Mg (SortSt.mk' (fq st) (bG st) (pre++(sa,na+nb,pa) :: post).toArray (gallopOf st) (sC st)) ai ->
     Q true (SortSt.mk' (fq ai) (wr (sa+k) out.toList 0 (bG ai)) (mB ai) (gallopOf ai) (sC ai)):=λout ai hm hg=>by
    obtain⟨g,rfl⟩:=hg;obtain⟨m1,m2,m3⟩:=wz (by lia) (by lia) WM u1 u2 lo1 A2 ub nX hm;exact h _ _ (new _ g m2 m3 (by rw[show sa+(na+nb)=sa+na+nb by lia];exact m1)) len (by simp) λk hk=>m3 k (.inr (by lia))
   have fin2:∀ out ai,bV r ((bG st).extract (sa+k) (sa+na)) ((bG st).extract (sa+na) (sa+na+l)) out->Mg (SortSt.mk' (fq st) (bG st) (pre++(sa,na+nb,pa) :: post).toArray (gallopOf st) (sC st)) ai ->
     sC ai=none:=λout ai _ hg=>by
    obtain⟨g,rfl⟩:=hg;exact H.failed
   by_cases z3:na-k<=l
   ·rw[if_pos z3];refine cq (rK (a:=(bG st).extract (sa+k) (sa+na)) (b:=(bG st).extract (sa+na) (sa+na+l)) C H.kind (t5.extract _ _) (t5.extract _ _) ux uy (by lia) (by lia) h00 hgg λout ai hm hg=>?_);refine cq (DT (cq (wpS_get ?_)));have f:=fin out ai hm hg;have f2:=fin2 out ai hm hg;refine dc ?_;show Q (sC ai).isNone _;rw[f2];exact f
   ·rw[if_neg z3];refine cq (qQ (a:=(bG st).extract (sa+k) (sa+na)) (b:=(bG st).extract (sa+na) (sa+na+l)) C H.kind (t5.extract _ _) (t5.extract _ _) ux uy (by lia) (by lia) h00 hgg λout ai hm hg=>?_);refine cq (DT (cq (wpS_get ?_)));have f:=fin out ai hm hg;have f2:=fin2 out ai hm hg;refine dc ?_;show Q (sC ai).isNone _;rw[f2];exact f
theorem Runs.modify(hf:∀ x,(f x).1=x.1/\(f x).2.1=x.2.1):∀ {ps:List (Nat × Nat × Nat)} {i a b:Nat},Runs r xs ps a b->Runs r xs (ps.modify i f) a b
 |[],_,_,_,h=>by simpa using h
 | (s,n,p) :: rest,0,a,b,h=>by obtain⟨h1,h2⟩:=hf (s,n,p);rw[List.modify_zero_cons];have e:f (s,n,p)=(s,n,(f (s,n,p)).2.2):=Prod.ext h1 (Prod.ext h2 rfl);rw[e];exact h
 | (s,n,p) :: rest,i+1,a,b,h=>by obtain⟨h1,h2,h3,h4⟩:=h;exact⟨h1,h2,h3,Runs.modify hf h4⟩
def St.win{fE:Array bT}{st ai:dA}{ps:List (Nat × Nat × Nat)}{lo hi:Nat}(H:St r κ fE st ps lo)(hw:n5 lo hi st ai):St r κ fE ai ps lo :=
 ⟨hw.kind.trans H.kind,hw.failed.trans H.failed,hw.perm.trans H.perm,hw.pend.trans H.pend,H.runs.congr λk _ hk=>hw.out k (.inl hk)⟩
def wpS_sortRuns{st:dA}{Q:Unit->dA->Prop}(C:rS prog w A s κ r P)(hk:fq st=κ)(hP:AllP P (bG st))(hp:mB st = #[])(hf:sC st=none)(h:∀ ai,(bG ai).Perm (bG st)->sC ai=none->Up r (bG ai) 0 (bG st).size->Q () ai):wpS (aT prog w) A E s sortRuns' Q st:=by
 rw[sortRuns'_eq];refine cq (wpS_get ?_);generalize ha:bG st=fE at *
 have H0:St r κ fE st [] 0:=⟨hk,hf,by rw[ha],by rw[hp],rfl⟩
 refine cq (vt (sA (I:=λx c ai=>∃ ps lo,c=(none,lo)/\St r κ fE ai ps lo/\lo<=fE.size/\x<=lo) (Q:=λc ai=>∃ ps,c=(none,fE.size)/\St r κ fE ai ps fE.size) ?step ?fin ⟨[],0,rfl,H0,fI _,cx _⟩) ?post)
 case fin =>
  rintro c ai ⟨ps,lo,rfl,H,h1,h2⟩;have:lo=fE.size:=by lia
  subst this;exact⟨ps,rfl,H⟩
 case post =>
  rintro c ai ⟨ps,rfl,H⟩;have l0:=H.runs.le;refine cq (vt (sA (I:=λy c ai=>c=(none,())/\∃ kK,St r κ fE ai kK fE.size/\kK.length+y<=fE.size) (Q:=λc ai=>c=(none,())/\∃ kK,St r κ fE ai kK fE.size/\kK.length<=1) ?jf' ?Uq ⟨rfl,ps,H,by lia⟩) ?jg')
  case Uq =>
   rintro c ai ⟨rfl,kK,H',hl⟩;exact⟨rfl,kK,H',by lia⟩
  case jg' =>
   rintro c ai ⟨rfl,kK,H',hl⟩;refine dc (h ai H'.perm H'.failed ?_);have q:=H'.runs
   match kK,hl,q with
   |[],_,q =>have q:0=fE.size:=q;intro i j _ _ hj;lia
   |[(s',n',p')],_,q =>obtain⟨rfl,_,hu,e⟩:=q;rw[<- e];exact hu
  case jf' =>
   rintro y c ED _ hy ⟨rfl,kK,H',hl⟩;refine cq (wpS_get ?_);have ep:(mB ED).size=kK.length:=by rw[H'.pend];simp
   by_cases z:(mB ED).size<=1
   ·rw[if_pos z];exact dc ⟨rfl,kK,H',by lia⟩
   ·rw[if_neg z];exact cq (jK C hP H' (cx _) (by(repeat' split)<;>lia) λzI ps2 H2 hlen _ _=>dc ⟨rfl,ps2,H2,by lia⟩)
 case step =>
  rintro x c ED _ hx ⟨ps,lo,rfl,H,h1,h2⟩;by_cases z:lo >= fE.size
  ·rw[if_pos z];have:lo=fE.size:=by lia
   subst this;exact dc ⟨ps,rfl,H⟩
  ·rw[if_neg z];have hz:=H.size;refine cq (wpS_countRun C H.kind (hP.perm H.perm) (by lia) (by lia) λm zI hw yb FI hu=>?_);have H2:=H.win hw;dsimp only;refine DQ (K:=?K) ?pk λkey=>?main;case main =>
    by_cases z2:m<minRun' fE.size fE.size 0
    ·rw[if_pos z2];refine cq (wpS_lift (wpAny_rule ⟨rfl,?_⟩));refine cq (wpS_binarySort C H2.kind (hP.perm H2.perm) (by clear key;have:=H2.size;lia) (by clear key;lia) hu λzS hw3 WU=>?_);have H3:=H2.win hw3;have b1:1<=min (fE.size-lo) (minRun' fE.size fE.size 0):=by clear key;lia
     have b2:lo+min (fE.size-lo) (minRun' fE.size fE.size 0)<=fE.size:=by clear key;lia
     clear hw3;generalize min (fE.size-lo) (minRun' fE.size fE.size 0)=nn at *
     revert nn zS;exact key
    ·rw[if_neg z2];exact key _ H2 _ hu yb (by lia)
   intro zS H3 nn WU b1 b2;refine cq (wpS_get ?_);have push:∀ ai kK,St r κ fE ai kK lo->Up r (bG ai) lo (lo+nn)->∃ ps KG,((none:Option Unit),lo+nn)=(none,KG)/\St r κ fE (setPending ai ((mB ai).push (lo,nn,0))) ps KG/\KG<=fE.size/\x+1<=KG:=λai kK G u =>
    ⟨kK++[(lo,nn,0)],lo+nn,rfl,⟨G.kind,G.failed,G.perm,by rw[G.pend];simp,Runs.append.mpr ⟨lo,G.runs,rfl,b1,u,rfl⟩⟩,b2,by lia⟩
   cases hb:(mB zS).back? with
   |none =>exact cq (DT (dc (push zS ps H3 WU)))
   |some t =>
    obtain⟨s1,n1,p1⟩:=t;dsimp only;generalize power' fE.size (2*s1+n1) (2*s1+n1+n1+nn) fE.size=pw;refine cq (vt (sA (I:=λy c ai=>c=(none,())/\∃ kK,St r κ fE ai kK lo/\Up r (bG ai) lo (lo+nn))
     ?_ (λ_ _ q=>q) ⟨rfl,ps,H3,WU⟩) ?_)
    ·rintro y c A0 _ hy ⟨rfl,kK,H4,RH⟩;refine cq (wpS_get ?_);have ep:(mB A0).size=kK.length:=by rw[H4.pend];simp
     by_cases z3:(mB A0).size>1
     ·rw[if_pos z3];have e4:(mB A0)[(mB A0).size-2]? = some ((mB A0)[(mB A0).size-2]'(by lia)):=getElem?_pos _ _ (by lia);rw[e4];generalize (mB A0)[(mB A0).size-2]'(by lia)=tt;obtain⟨t1,t2,jh'⟩:=tt;dsimp only;by_cases z4:jh'<=pw
      ·rw[if_pos z4];exact dc ⟨rfl,kK,H4,RH⟩
      ·rw[if_neg z4];exact cq (jK C hP H4 h1 (by lia) λII ps5 H5 hlen _ jj'=>dc ⟨rfl,ps5,H5,RH.congr λk hk _=>jj' k hk⟩)
     ·rw[if_neg z3];exact dc ⟨rfl,kK,H4,RH⟩
    ·rintro c A0 ⟨rfl,kK,H4,RH⟩;refine cq (DT (cq (DT (dc ?_))));refine push _ (kK.modify (kK.length-1) λx=>(x.1,x.2.1,pw)) ⟨H4.kind,H4.failed,H4.perm,?_,Runs.modify (f:=λx=>(x.1,x.2.1,pw)) (λ_=>⟨rfl,rfl⟩) H4.runs⟩ RH;rw[H4.pend];simp
def eF (h:c9) (a:ag) (vs:List ah):c9:=((h.update a (Obj.mapSeq λ_=>#[])).push (seqObj "tuple" vs.toArray 0)).push (seqObj "list" #[] 0)
def q_(hb:b≠a)(iL:b<h.objs.size):(eF h a vs).get? b=h.get? b:=by
 unfold eF;rw[S5 _ _ _ (by rw[size_push',Qb];exact j3 (Mb iL)),
  S5 _ _ _ (by rw[Qb];exact j3 iL),Heap.get?_update_ne _ _ _ _ hb]
def rF(hp:xs.Perm (pairsOf vs))(hs:Up r xs 0 vs.length):(xs.map (·.2)).toList.Perm vs/\(xs.map (·.2)).toList.Pairwise λx y=>r x<=r y:=by
 have hl:xs.toList.Perm (vs.zip vs):=by rw[<- pairsOf_toList];exact Vu.mp hp
 have jk':∀ p,p∈xs.toList->p.1=p.2:=λp sR=>(mem_zip_self (hl.mem_iff.mp sR)).1;have e:(xs.map (·.2)).toList=xs.toList.map (·.1):=by rw[Array.toList_map];exact HV λp sR=>(jk' p sR).symm
 have hZ:xs.size=vs.length:=by rw[hp.size_eq,pairsOf_size]
 rw[e];refine⟨?_,?_⟩
 ·have h1:=hl.map (·.1);rwa[Vo (cx _)] at h1
 ·rw[LZ];intro i j hi hj mG;have ny:i<xs.size:=by simpa using hi
  have Au:j<xs.size:=by simpa using hj
  have h1:=hs i j (fI _) (Iq mG) (by lia);rw[Iz ny,Iz Au] at h1;simpa using h1
def pR {F:PySem.Fin->aC->Prop} (ho:s.heap.get? a=some (seqObj "list" vs.toArray n)) (hZ:vs.length<=bI) (hP:∀ v∈vs,P v)(hk:2<=vs.length->∀ (Q:vn->aC->Prop),Q κ { s with heap:=eF s.heap a vs }->b5 (aT prog w) A (keyKind' vs.toArray) Q E { s with heap:=eF s.heap a vs }) (C:2<=vs.length->rS prog w A { s with heap:=eF s.heap a vs } κ r P) (h:∀ out:Array ah,out.toList.Perm vs->(out.toList.Pairwise λx y=>r x<=r y)->F (.done (.ret .none)) { s with heap:=sortedHeap s.heap a vs out }) :
  b5 (aT prog w) A (Builtin.«list.sort» ⟨[.ref a],[]⟩) F E s:=by
 rw[list_sort_plain];have ha:a<s.heap.objs.size:=fS ho;refine bS (listItems_at ho rfl ?_);refine bS (listUpdate_at ho rfl ?_ (by simpa using hZ) (fI _));obtain⟨e1,ho1⟩:∃ e1,(s.heap.update a (Obj.mapSeq λ_=>#[])).get? a=some (seqObj "list" #[] e1):=⟨_,get?_update_seq ho (λ_=>#[])⟩
 refine bS (seqEpoch_at ho1 rfl ?_);refine bS (wpAny_newTuple ?_ (by simpa using hZ));refine bS (wpAny_newList ?_ (fI _));refine wpAny_holding ?_;have Ur:(eF s.heap a vs).get? a=some (seqObj "list" #[] e1):=by unfold eF;rw[S5 _ _ _ (by rw[size_push',Qb];exact j3 (Mb ha)),S5 _ _ _ (by rw[Qb];exact j3 ha)];exact ho1
 have hvz:vs.toArray.size=vs.length:=by simp
 have fin:∀ ai:dA,(bG ai).Perm (pairsOf vs)->Up r (bG ai) 0 vs.length->F (.done (.ret .none)) { s with heap:=sortedHeap s.heap a vs ((bG ai).map (·.2)) }:=by intro ai hp hs;obtain⟨h1,h2⟩:=rF hp hs;exact h _ h1 h2
 by_cases h2:vs.toArray.size<2
 ·rw[if_pos h2,if_pos h2];refine bS (dk ?_);refine bS (dk ?_);refine bS (seqEpoch_at Ur rfl ?_);refine bS (listUpdate_at Ur rfl ?_ (fI _) (by rw[Array.size_map];show(pairsOf vs).size<=_;rw[pairsOf_size];lia));simp only[bne_self_eq_false,xI,if_false];refine dk (fin (SortSt.mk' general' (vs.toArray.zip vs.toArray) #[] 7 none) (Array.Perm.refl _) ?_);intro i j _ mG hj;have:i=j:=by lia
  subst this;exact zt _
 ·rw[if_neg h2,if_neg h2];refine bS (hk (by lia) _ ?_);refine bS (sq (wpS_sortRuns (Q:=λ_ ai=>(bG ai).Perm (pairsOf vs)/\sC ai=none/\Up r (bG ai) 0 vs.length) (C (by lia)) rfl (λp hp=>?_) rfl rfl λai a1 a2 a3=>⟨a1,a2,?_⟩) ?_ λ_ _ e=>e)
  ·have sR:p∈(pairsOf vs).toList:=hp;rw[pairsOf_toList] at sR;exact hP _ (mem_zip_self sR).2
  ·have e:(bG (SortSt.mk' κ (vs.toArray.zip vs.toArray) #[] 7 none)).size=vs.length:=pairsOf_size vs;rw[e] at a3;exact a3
  ·rintro⟨⟨⟩,ai⟩ s' ⟨rfl,hp,hf,hs⟩;refine bS (seqEpoch_at Ur rfl ?_);refine bS (listUpdate_at Ur rfl ?_ (fI _) (by refine iO (P8 ((Array.size_map ..).trans (hp.size_eq.trans (pairsOf_size _)))) ?_;lia));rw[hf];simp only[bne_self_eq_false,xI,if_false];exact dk (fin ai hp hs)
end
end FH
section
open PySem PySem.Spec PyProof.Rows
namespace L2
def sT:Key->Key->Bool
 |.inl i,.inl j=>decide (i<j)
 |.inr x,.inr y=>sQ x y
 |_,_=>false
def mI:List Key->List Key->Bool
 |a :: as,b :: bs=>if a=b then mI as bs else sT a b
 |_,_=>false
def AA:Key->Bool
 |.inl _=>true
 |.inr _=>false
def CB(k:List Key):List Bool:=k.map AA
def Di(x:Str):sQ x x=false:=by unfold sQ;simp[List.lt_irrefl]
def IV(h:sQ x y=true)(g:sQ y z=true):sQ x z=true:=by
 unfold sQ at *
 simp only[decide_eq_true_eq] at *
 exact List.lt_trans h g
def dM{x y:Str}(h:x.cps.toList=y.cps.toList):x=y:=by cases x;cases y;simp only at h;rw[Tb.mp h]
def Fp{x y:Str}(h:sQ x y=false)(g:sQ y x=false):x=y:=by
 unfold sQ at *
 simp only[decide_eq_false_iff_not] at *
 apply dM;exact List.le_antisymm (List.not_lt.mp g) (List.not_lt.mp h)
def vQ(a:Key):sT a a=false:=by cases a with|inl i=>simp[sT]|inr x=>exact Di x
def Ih(h:sT a b=true)(g:sT b c=true):sT a c=true:=by cases a<;>cases b<;>cases c<;>simp only[sT,decide_eq_true_eq] at *<;>first|lia|contradiction|exact IV h g
def Cz(e:AA a=AA b)(h:sT a b=false)(g:sT b a=false):a=b:=by
 cases a<;>cases b<;>simp only[sT,AA,decide_eq_false_iff_not] at *
 ·congr 1;lia
 ·cases e
 ·cases e
 ·congr 1;exact Fp h g
theorem xN:∀ a:List Key,mI a a=false
 |[]=>rfl
 |a :: as=>by unfold mI;rw[if_pos rfl];exact xN as
theorem wR:∀ {a b c:List Key},mI a b=true->mI b c=true->mI a c=true
 |[],_,_,h,_=>by simp[mI] at h
 |_ :: _,[],_,h,_=>by simp[mI] at h
 |_ :: _,_ :: _,[],_,g=>by simp[mI] at g
 |a :: as,b :: bs,c :: cs,h,g=>by
  unfold mI at h g ⊢;by_cases e1:a=b
  ·subst e1;rw[if_pos rfl] at h;by_cases e2:a=c
   ·subst e2;rw[if_pos rfl] at g ⊢;exact wR h g
   ·rw[if_neg e2] at g ⊢;exact g
  ·rw[if_neg e1] at h;by_cases e2:b=c
   ·subst e2;rw[if_neg e1];exact h
   ·rw[if_neg e2] at g;have t:=Ih h g;have ne:a≠c:=λe=>by subst e;rw[vQ] at t;cases t
    rw[if_neg ne];exact t
theorem xu:∀ {a b:List Key},CB a=CB b->mI a b=false->mI b a=false->a=b
 |[],[],_,_,_=>rfl
 |[],_ :: _,e,_,_=>by simp[CB] at e
 |_ :: _,[],e,_,_=>by simp[CB] at e
 |a :: as,b :: bs,e,h,g=>by
  simp only[CB,gX,List.cons.injEq] at e;unfold mI at h g;by_cases e1:a=b
  ·subst e1;rw[if_pos rfl] at h g;rw[xu (e.2) h g]
  ·rw[if_neg e1] at h;rw[if_neg (Ne.symm e1)] at g;exact absurd (Cz e.1 h g) e1
theorem count_le{α:Type}(p q:α->Bool):∀ (l:List α),(∀ x∈l,p x=true->q x=true)->l.countP p<=l.countP q
 |[],_=>cx _
 |x :: l,h=>by have ih:=count_le p q l λy hy=>h y (eA _ hy);cases hp:p x<;>cases hq:q x<;>simp_all<;>lia
theorem uD{α:Type}(p q:α->Bool)(a:α)(ha:p a=false)(hb:q a=true):∀ (l:List α),a∈l->(∀ x∈l,p x=true->q x=true)->l.countP p<l.countP q
 |[],m,_=>by cases m
 |x :: l,m,h=>by
  rw[List.countP_cons,List.countP_cons];rcases eJ.mp m with rfl|m
  ·have:=count_le p q l λy hy=>h y (eA _ hy);rw[ha,hb];simp;lia
  ·have ih:=uD p q a ha hb l m λy hy=>h y (eA _ hy);cases hp:p x<;>cases hq:q x<;>simp_all<;>lia
def NW(L:List (List Key))(k:List Key):Int:=(L.countP λj=>mI j k:Nat)
def Cq(e:CB a=CB b)(ma:a∈L):decide (NW L a<NW L b)=mI a b:=by
 unfold NW
 cases h:mI a b with
 |true =>have:=uD (λj=>mI j a) (λj=>mI j b) a (xN a) h L ma λx _ hx=>wR hx h;exact decide_eq_true (by lia)
 |false =>
  apply decide_eq_false
  cases g:mI b a with
  |false=>rw[xu e h g];lia
  |true =>have:=count_le (λj=>mI j b) (λj=>mI j a) L λx _ hx=>wR hx g;lia
def WV:V->Option Key
 |.int i=>some (.inl i)
 |.str x=>some (.inr x)
 |_=>none
def Ly(k:Key):WV (kV k)=some k:=by cases k<;>rfl
theorem Bx:∀ k:List Key,(k.map kV).filterMap WV=k
 |[]=>rfl
 |a :: as=>by rw[gX,DJ,Ly,Bx as]
def Eb(H:Hp):ah->List Key
 |.ref b=>match H b with
  |some (.tup xs)=>xs.filterMap WV
  |_=>[]
 |_=>[]
def zJ(h:H b=some (.tup (k.map kV))):Eb H (.ref b)=k:=by simp only[Eb,h];exact Bx k
section
variable {X:Cx}{pins:List (ag × Obj)}{σ:St}{H:Hp}{s:aC}
def Inv.tup(I:Inv X pins σ H s)(h:H b=some (.tup xs)):∃ its:List ah,Vals xs its/\IsTup s.heap b its.toArray:=(I.aI b _ h).2
end
def lg.mem(h:lg H ys ks)(y:V)(hy:y∈ys):∃ b k,y=.ref b/\H b=some (.tup (k.map kV))/\k∈ks:=by
 induction ys generalizing ks with
 |nil=>cases hy
 |cons z ys ih =>
  obtain⟨k,ks,rfl,⟨b,rfl,g⟩,t⟩:=Paired.c h;rcases eJ.mp hy with rfl|hy
  ·exact⟨b,_,rfl,g,fo⟩
  ·obtain⟨b,k,e,g,m⟩:=ih t hy;exact⟨b,k,e,g,eA _ m⟩
def lg.of{H:Hp}{ks:List (List Key)}(vs:List ah)(h:∀ v∈vs,∃ b k,v=Value.ref b/\H b=some (.tup (k.map kV))/\k∈ks):∃ zs,lg H zs (vs.map (Eb H))/\Vals zs vs:=by
 induction vs with
 |nil=>exact⟨[],.nil,.nil⟩
 |cons v vs ih =>obtain⟨zs,a,c⟩:=ih λu hu=>h u (eA _ hu);obtain⟨b,k,rfl,e,_⟩:=h v fo;exact⟨.ref b :: zs,.cons ⟨b,rfl,by rw[zJ e];exact e⟩ a,.cons rfl c⟩
end L2
end
namespace FH
open PySem PyProof.Rows
section
variable {prog:b9}{w:cy}{A:e7}{E:ah->aC->Prop}{s:aC}{κ:vn}{r:ah->Int}{P:ah->Prop}
def pZ{T:String}{r d:ag}{n:Nat}{P:Nat->ah->Prop}{OK:c9->Prop}{R:Result->aC->Prop}(K:PySem.W.KdlSrc prog w T r d n P OK)(hh:A.handled=none)(aI:OK s.heap)(hn:n<=bI)(hR:∀ h' tk acc c,(∀ b o,s.heap.get? b=some o->h'.get? b=some o)->h'.get? s.heap.objs.size=some { cls:=.type "list",data:=.seq acc c }->ItemsOf P acc n->R (.ok (.ret (.ref s.heap.objs.size))) { s with heap:=h',toks:=tk }) :
  codeAny (aT prog w) A (.builtin "proto.collect" ⟨[.ref r],[]⟩) R s:=by
 have hth:=K.there _ aI;have hS:(s.heap.push { cls:=.type "list",data:=.seq ([]:List ah).toArray }).get? s.heap.objs.size=some { cls:=.type "list",data:=.seq ([]:List ah).toArray }:=nL _ rfl;refine codeAny_builtin F.entry_proto_collect ?_;refine bS (DB ?_);refine dk ⟨plainId_quiet F.plain_list_iadd _,codeAny_builtin F.entry_list_iadd ?_⟩;exact PySem.W.kdl_extend K hh (K.keep _ _ aI λb _ o e=>i3 _ e) s.heap.objs.size (SW hth.1) (SW hth.2) _ 0 hS (λh' tk jl' c' kp eo ia=>hR h' tk jl' c' (λb o e=>kp b o (j3 (fS e)) (i3 _ e)) eo ia) hn
def qG{T:String}{r d:ag}{n:Nat}{P:Nat->ah->Prop}{OK:c9->Prop}{Q:List ah->aC->Prop}(K:PySem.W.KdlSrc prog w T r d n P OK)(hh:A.handled=none)(aI:OK s.heap)(hn:n<=bI)(hQ:∀ h' tk acc,(∀ b o,s.heap.get? b=some o->h'.get? b=some o)->s.heap.objs.size<=h'.objs.size->ItemsOf P acc n->Q acc.toList { s with heap:=h',toks:=tk }):b5 (aT prog w) A (collect (.ref r)) Q E s:=by
 exact bS (wpAny_runValue (pZ K hh aI hn λh' tk acc c kp eo ia=>bS (wpAny_load eo (dk (hQ h' tk acc kp (Iq (fS eo)) ia)))))
def uZ{R:List ah->Prop}(jm':∀ (A':e7) (E':ah->aC->Prop) (Q':List ah->aC->Prop),A'.handled=A.handled->(∀ vs h1 tk,R vs->(∀ b o,s.heap.get? b=some o->h1.get? b=some o)->s.heap.objs.size<=h1.objs.size->Q' vs { s with heap:=h1,toks:=tk })->b5 (aT prog w) A' (collect v) Q' E' s) (hZ:∀ vs,R vs->vs.length<=bI) (hP:∀ vs,R vs->∀ v∈vs,P v) (hk:∀ vs,R vs->2<=vs.length->∀ (A':e7) (E':ah->aC->Prop) (s':aC),(∀ b o,s.heap.get? b=some o->s'.heap.get? b=some o)->∀ (Q:vn->aC->Prop),Q κ s'->b5 (aT prog w) A' (keyKind' vs.toArray) Q E' s') (C:∀ (s':aC),(∀ b o,s.heap.get? b=some o->s'.heap.get? b=some o)->rS prog w A.in1.in1 s' κ r P) (h:∀ (vs:List ah) (h':c9) (a:ag) (out:List ah) (n tk:Nat),R vs->out.Perm vs->(out.Pairwise λx y=>r x<=r y)->(∀ b o,s.heap.get? b=some o->h'.get? b=some o)->s.heap.objs.size<=a->h'.get? a=some (seqObj "list" out.toArray n)->Q (.ref a) { s with heap:=h',toks:=tk }) :
  b5 (aT prog w) A (call (.builtin "sorted") [v]) Q E s:=by
 refine Calls.call_function_entry kind_sorted plain_sorted entry_sorted (args_sorted1 _) ?_;refine bS (dk ?_);refine bS (jm' _ _ _ rfl λvs h1 tk hR kp hz=>?_);have bX':=hZ vs hR;refine bS (wpAny_newList ?_ (by simpa using bX'));have Q9:(h1.push (seqObj "list" vs.toArray 0)).get? h1.objs.size=some (seqObj "list" vs.toArray 0):=nL _ rfl;have old:∀ b o,s.heap.get? b=some o->(eF (h1.push (seqObj "list" vs.toArray 0)) h1.objs.size vs).get? b=some o:=λb o e=>by have iL:b<h1.objs.size:=fS (kp b o e);rw[q_ (j3 iL) (by rw[size_push'];exact Mb iL)];exact i3 _ (kp b o e)
 refine bS (wpAny_holding (PD slot_list_sort ⟨_,Q9,rfl⟩ entry_list_sort (pR Q9 bX' (hP vs hR) (λh2=>hk vs hR h2 _ _ _ old) (λh2=>C _ old) λout a1 a2=>⟨_,rfl,?_⟩) (args_list_sort _)))
 obtain⟨n,e⟩:=sortedHeap_at Q9;refine dk ⟨_,rfl,h vs _ h1.objs.size out.toList n tk hR a1 a2 (λb o e=>?_) hz (by rw[Array.toArray_toList];exact e)⟩;have iL:b<h1.objs.size:=fS (kp b o e);rw[sortedHeap_old (j3 iL) (by rw[size_push'];exact Mb iL)];exact i3 _ (kp b o e)
end
end FH
section
open PySem PySem.Spec PyProof.Rows
namespace L2
def rY:ah->List Key
 |.int i _=>[.inl i]
 |.str x _=>[.inr x]
 |_=>[]
def rE(h:RelV (kV k) v):rY v=[k]:=by
 cases k with
 |inl i=>obtain⟨t,rfl⟩:=h;rfl
 |inr x=>obtain⟨t,rfl⟩:=h;rfl
def vK:mI [a] [b]=sT a b:=by
 unfold mI;by_cases e:a=b
 ·subst e;rw[if_pos rfl,vQ];rfl
 ·rw[if_neg e]
def Bj{prog:b9}{w:cy}{A:e7}{s:aC}{b:Bool}{L:List Key} :
  FH.rS prog w A s oneType' (λv=>NW (L.map λk=>[k]) (rY v)) (λv=>∃ k,RelV (kV k) v/\AA k=b/\k∈L):=by
 rintro x y ⟨k,rk,ik,mk⟩ ⟨m,rm,im,mm⟩ Q E q;simp only[rE rk,rE rm] at q;rw[Cq (by simp[CB,ik,im]) (iq.mpr ⟨k,mk,rfl⟩),vK] at q
 cases k with
 |inl i =>
  cases m with
  |inr y=>rw[<- im] at ik;cases ik
  |inl j =>obtain⟨t,rfl⟩:=rk;obtain⟨u,rfl⟩:=rm;exact oneLt_int q
 |inr x =>
  cases m with
  |inl y=>rw[<- im] at ik;cases ik
  |inr j =>obtain⟨t,rfl⟩:=rk;obtain⟨u,rfl⟩:=rm;exact oneLt_str q
def ints_of{ks:List Key}{vs:List ah}(r:Vals (ks.map kV) vs)(h:∀ k∈ks,AA k=true):∃ ns,IntsAre vs ns:=by
 induction ks generalizing vs with
 |nil=>rw[Paired.n0 r];exact⟨[],.nil⟩
 |cons k ks ih =>
  obtain⟨v,vs,rfl,r,rs⟩:=Paired.c r;obtain⟨ns,q⟩:=ih rs λj hj=>h j (eA _ hj);have:=h k fo
  cases k with
  |inr x=>cases this
  |inl i=>obtain⟨t,rfl⟩:=r;exact⟨_,.cons i t q⟩
def Ec{ks:List Key}{vs:List ah}(r:Vals (ks.map kV) vs)(h:∀ k∈ks,AA k=false):∃ ns,StrsAre vs ns:=by
 induction ks generalizing vs with
 |nil=>rw[Paired.n0 r];exact⟨[],.nil⟩
 |cons k ks ih =>
  obtain⟨v,vs,rfl,r,rs⟩:=Paired.c r;obtain⟨ns,q⟩:=ih rs λj hj=>h j (eA _ hj);have:=h k fo
  cases k with
  |inl x=>cases this
  |inr i=>obtain⟨t,rfl⟩:=r;exact⟨_,.cons i t q⟩
def wL{prog:b9}{w:cy}{A:e7}{E:ah->aC->Prop}{s:aC}{b:Bool}{ks:List Key}{vs:List ah}(r:Vals (ks.map kV) vs)(h:∀ k∈ks,AA k=b)(h2:2<=vs.length){Q:vn->aC->Prop}(q:Q oneType' s) :
  b5 (aT prog w) A (keyKind' vs.toArray) Q E s:=by
 match vs,h2 with
 |v1 :: v2 :: vs,_ =>
  cases b with
  |true=>obtain⟨ns,hI⟩:=ints_of r h;rw[keyKind_ints hI];exact dk q
  |false=>obtain⟨ns,hI⟩:=Ec r h;rw[keyKind_strs hI];exact dk q
def mem_keys{ks:List Key}{vs:List ah}(r:Vals (ks.map kV) vs)(v:ah)(h:v∈vs):∃ k,RelV (kV k) v/\k∈ks:=by
 induction ks generalizing vs with
 |nil=>rw[Paired.n0 r] at h;cases h
 |cons k ks ih =>
  obtain⟨u,vs,rfl,r,rs⟩:=Paired.c r;rcases eJ.mp h with rfl|h
  ·exact⟨k,r,fo⟩
  ·obtain⟨j,a,b⟩:=ih rs h;exact⟨j,a,eA _ b⟩
def keys_map{ks:List Key}{vs:List ah}(r:Vals (ks.map kV) vs):vs.map rY=ks.map λk=>[k]:=by
 induction ks generalizing vs with
 |nil=>rw[Paired.n0 r];rfl
 |cons k ks ih =>obtain⟨u,vs,rfl,r,rs⟩:=Paired.c r;rw[gX,gX,rE r,ih rs]
def xZ{ks:List Key}(vs:List ah)(h:∀ v∈vs,∃ k,RelV (kV k) v/\k∈ks):∃ ms:List Key,Vals (ms.map kV) vs:=by
 induction vs with
 |nil=>exact⟨[],.nil⟩
 |cons v vs ih =>obtain⟨ms,r⟩:=ih λu hu=>h u (eA _ hu);obtain⟨k,rk,_⟩:=h v fo;exact⟨k :: ms,.cons rk r⟩
def xx:∀ {ms ks:List Key},(ms.map λk=>[k]).Perm (ks.map λk=>[k])->ms.Perm ks:=λ{ms ks} h=>by have:=h.map (λl:List Key=>l.head?);simp only[om] at this;have e:∀ l:List Key,l.map ((λl:List Key=>l.head?) ∘ λk=>[k])=l.map some:=λl=>HV λ_ _=>rfl;rw[e,e] at this;have:=this.filterMap id;simpa using this
section
variable {X:Cx}
def sG(K:ax):List V->Hp->VK->Prop:=λxs H Q=>match xs with
 |[.ref p]=>∃ ks b,(eL K H p (ks.map kV)\/∃ ae,Rd H p (.dK ae)/\ks=ae.map (·.1))/\(∀ k∈ks,AA k=b) /\
   ∀ (ms:List Key) (l:ag),ms.Perm ks->(ms.Pairwise λa b=>sT b a=false)->H l=none->Q (.ref l) (upd H l (.lst (ms.map kV)))
 |_=>False
def u6 (hc:X.calm=true):nv X (.builtin "sorted") (sG X.K):=by
 intro pins s σ H xs us Q I r h;unfold sG at h;split at h
 ·rename_i p;obtain⟨ks,b,hl,hb,q⟩:=h;obtain⟨u,rfl,ru⟩:=Vals.one r;cases ru;have hZ:ks.length<=bI:=by
   rcases hl with hl|⟨ae,e,rfl⟩
   ·obtain⟨vs,rv,pl,hz⟩:=I.list hl;simpa using hz
   ·obtain⟨z,_⟩:=(I.rd e)
    simpa using z
  refine FH.uZ (κ:=oneType') (P:=λv=>∃ k,RelV (kV k) v/\AA k=b/\k∈ks) (λA' E' Q' hA hQ=>?_) (λvs rv=>?_) (λvs rv v hv=>?_) (λvs rv h2 A' E' s' kp Q' q'=>wL rv hb h2 q') (λs' kp=>Bj) λvs h' a out n tk rv pm pw kp ha eo=>?_
  ·rcases hl with hl|⟨ae,e,rfl⟩
   ·obtain⟨vs,rv,pl,hz⟩:=I.list hl;refine collect_list pl.isList (hQ vs _ s.toks rv (λb o e=>?_) ?_) (by have:=rv.length;lia)
    ·rw[Heap.get?_update_ne _ _ _ _ (j3 (fS e))];exact i3 _ e
    ·rw[Qb,size_push'];exact Nat.le_succ _
   ·obtain⟨z,y,vs,rel,dd⟩:=(I.rd e)
    obtain⟨ep,da⟩:=dd.dictAt;have hlen:vs.length=ae.length:=rel.length.symm;refine FH.qG (PySem.W.kdl_dict y) (hA.trans (I.ok.hd hc)) da (by lia) λh' tk acc kp hz NF=>hQ _ h' tk ?_ kp hz;have go:∀ {l1:List (Key × V)} {l2:List (Key × ah)} ac,KV l1 l2->ac.length=l2.length->(∀ (i:Nat) v,ac[i]? = some v->∃ k x,l2[i]? = some (k,x)/\IB k v=true)->Vals ((l1.map (·.1)).map kV) ac:=by
     intro l1 l2 ac rl
     induction rl generalizing ac with
     |nil=>intro hl _;cases ac with
      |nil=>exact .nil
      |cons _ _=>cases hl
     |@cons p1 q1 l1 l2 r1 rs ih =>
      intro hl hi
      cases ac with
      |nil=>cases hl
      |cons v ac =>obtain⟨k,x,e1,e2⟩:=hi 0 v rfl;simp only[List.getElem?_cons_zero,Option.some.injEq] at e1;subst e1;refine .cons ?_ (ih ac (by simpa using hl) λi v h=>hi (i+1) v (by simpa using h));have r11:p1.1=k:=r1.1;show RelV (kV p1.1) v;rw[r11];rcases AW e2 with⟨i,t,rfl,rfl⟩|⟨x,t,rfl,rfl⟩<;>exact⟨t,rfl⟩
    exact go acc.toList rel (by rw[zv];exact NF.1) λi v h=>NF.2 i v (by simpa using h)
  ·have:=rv.length;rw[dr] at this;lia
  ·obtain⟨k,rk,mk⟩:=mem_keys rv v hv;exact⟨k,rk,hb k mk,mk⟩
  ·obtain⟨ms,rm⟩:=xZ out λv hv=>mem_keys rv v (pm.mem_iff.mp hv);have pk:ms.Perm ks:=xx (by rw[<- keys_map rm,<- keys_map rv];exact pm.map _);refine⟨.ref a,_,I.laid kp ha (show kR X.prog X.w _ h' _ (.lst (ms.map kV)) from⟨by rw[dr,pk.length_eq];exact hZ,out,n,rm,eo⟩),rfl,q ms _ pk ?_ (I.aI.fresh ha)⟩;have pw2:(out.map rY).Pairwise λx y=>NW (ks.map λk=>[k]) x<=NW (ks.map λk=>[k]) y:=L9.mpr pw;rw[keys_map rm,L9] at pw2;refine pw2.imp_of_mem λ{x y} mx my hle=>?_;have mx:=pk.mem_iff.mp mx;have my:=pk.mem_iff.mp my;rw[<- vK,<- Cq (L:=ks.map λk=>[k]) (by simp[CB,hb x mx,hb y my]) (iq.mpr ⟨y,my,rfl⟩)];exact decide_eq_false (by lia)
 ·exact h.elim
end
end L2
namespace L2.Q
set_option genInjectivity true
inductive D where
 |non|bl (b:Bool)|int (i:Int)|str (x:Str)
 |list (xs:List D)|tup (xs:List D)|dK (ae:List (Key × D))|dT (ae:List (List Key × D))
mutual
def D.flat:D->Bool
 |.list _=>false
 |.dK _=>false
 |.dT _=>false
 |.tup xs=>dv xs
 |_=>true
def dv:List D->Bool
 |[]=>true
 |x :: xs=>x.flat && dv xs
end
theorem gU:∀ {xs:List D},dv xs=true↔∀ x∈xs,x.flat=true
 |[]=>by simp[dv]
 |x :: xs=>by simp[dv,gU]
def eE:dv (xs++ys)=(dv xs && dv ys):=by
 induction xs with
 |nil=>simp[dv]
 |cons x xs ih=>simp[dv,ih,Bool.and_assoc]
def tf:Key->Bool
 |.inl _=>true
 |.inr x=>decide (x.length<=bI)
def Us(ae:List (Key × D)):Prop:=ae.length<=bI/\∀ p∈ae,tf p.1=true
def Ut(ae:List (List Key × D)):Prop:=ae.length<=bI/\∀ p∈ae,p.1.length<=bI/\∀ k∈p.1,tf k=true
mutual
inductive Rep(K:ax)(H:Hp):D->V->Prop
 |non:Rep K H .non .non
 |bl (b:Bool):Rep K H (.bl b) (.bl b)
 |int (i:Int):Rep K H (.int i) (.int i)
 |str {x:Str}:x.length<=bI->Rep K H (.str x) (.str x)
 |list {a:ag} {vs:List V} {ds:List D}:vs.length<=bI->eL K H a vs->bP K H ds vs->Rep K H (.list ds) (.ref a)
 |tup {a:ag} {vs:List V} {ds:List D}:vs.length<=bI->H a=some (.tup vs)->bP K H ds vs->Rep K H (.tup ds) (.ref a)
 |dK {a:ag} {vs:List V} {ae:List (Key × D)}:Us ae->Rd H a (.dK ((ae.map (·.1)).zip vs))->bP K H (ae.map (·.2)) vs->Rep K H (.dK ae) (.ref a)
 |dT {a:ag} {vs:List V} {ae:List (List Key × D)}:Ut ae->Rd H a (.dT ((ae.map (·.1)).zip vs))->bP K H (ae.map (·.2)) vs->Rep K H (.dT ae) (.ref a)
inductive bP(K:ax)(H:Hp):List D->List V->Prop
 |nil:bP K H [] []
 |cons {d:D} {v:V} {ds:List D} {vs:List V}:Rep K H d v->bP K H ds vs->bP K H (d :: ds) (v :: vs)
end
def Rep.ind{K:ax}{H:Hp}{m1:D->V->Prop}{m2:List D->List V->Prop}(h0:m1 .non .non)(hb:∀ b,m1 (.bl b) (.bl b))(hi:∀ i,m1 (.int i) (.int i))(hs:∀ x,x.length<=bI->m1 (.str x) (.str x))(hl:∀ a vs ds,vs.length<=bI->eL K H a vs->bP K H ds vs->m2 ds vs->m1 (.list ds) (.ref a)) (ht:∀ a vs ds,vs.length<=bI->H a=some (.tup vs)->bP K H ds vs->m2 ds vs->m1 (.tup ds) (.ref a))(hk:∀ a vs ae,Us ae->Rd H a (.dK ((ae.map (·.1)).zip vs))->bP K H (ae.map (·.2)) vs->m2 (ae.map (·.2)) vs->m1 (.dK ae) (.ref a)) (hT:∀ a vs ae,Ut ae->Rd H a (.dT ((ae.map (·.1)).zip vs))->bP K H (ae.map (·.2)) vs->m2 (ae.map (·.2)) vs->m1 (.dT ae) (.ref a))(hn:m2 [] []) (hc:∀ d v ds vs,Rep K H d v->bP K H ds vs->m1 d v->m2 ds vs->m2 (d :: ds) (v :: vs)):(∀ {d v},Rep K H d v->m1 d v)/\∀ {ds vs},bP K H ds vs->m2 ds vs :=
 ⟨λr=>Rep.rec h0 hb hi (λh=>hs _ h) (λz s r ih=>hl _ _ _ z s r ih) (λz s r ih=>ht _ _ _ z s r ih) (λz s r ih=>hk _ _ _ z s r ih) (λz s r ih=>hT _ _ _ z s r ih) hn (λr s a b=>hc _ _ _ _ r s a b) r,
  λr=>bP.rec h0 hb hi (λh=>hs _ h) (λz s r ih=>hl _ _ _ z s r ih) (λz s r ih=>ht _ _ _ z s r ih) (λz s r ih=>hk _ _ _ z s r ih) (λz s r ih=>hT _ _ _ z s r ih) hn (λr s a b=>hc _ _ _ _ r s a b) r⟩
def rz.k'(e:Rd H a (.dK ae)):rz H a (kV k) (k8 ae k):=.inl ⟨ae,k,e,rfl,rfl⟩
def rz.t'(e:Rd H a (.dT ae))(eb:H b=some (.tup (k.map kV))):rz H a (.ref b) (k8 ae k):=.inr ⟨ae,k,b,e,rfl,eb,rfl⟩
def bq.rd(s:bq H H')(h:Rd H a u):Rd H' a u:=h.imp (s _ _) λ⟨o,e⟩=>⟨o,s _ _ e⟩
def Rep.Jy{K:ax}(s:bq H H'):(∀ {d:D} {v:V},Rep K H d v->Rep K H' d v)/\∀ {ds:List D} {vs:List V},bP K H ds vs->bP K H' ds vs :=
 Rep.ind .non .bl .int (λ_ h=>.str h) (λ_ _ _ z h _ ih=>.list z (s.lst h) ih) (λ_ _ _ z h _ ih=>.tup z (s _ _ h) ih) (λ_ _ _ kk h _ ih=>.dK kk (bq.rd s h) ih) (λ_ _ _ kk h _ ih=>.dT kk (bq.rd s h) ih) .nil λ_ _ _ _ _ _ a b=>.cons a b
def Rep.same{K:ax}(s:bq H H')(r:Rep K H d v):Rep K H' d v:=(Rep.Jy s).1 r
def bP.same{K:ax}(s:bq H H')(r:bP K H ds vs):bP K H' ds vs:=(Rep.Jy s).2 r
def bP.ind{K:ax}{H:Hp}{m:List D->List V->Prop}(hn:m [] [])(hc:∀ d v ds vs,Rep K H d v->bP K H ds vs->m ds vs->m (d :: ds) (v :: vs)):∀ {ds vs},bP K H ds vs->m ds vs :=
 λr=>(Rep.ind (m1:=λ_ _=>True) trivial (λ_=>trivial) (λ_=>trivial) (λ_ _=>trivial) (λ_ _ _ _ _ _ _=>trivial) (λ_ _ _ _ _ _ _=>trivial) (λ_ _ _ _ _ _ _=>trivial) (λ_ _ _ _ _ _ _=>trivial) hn λd v ds vs r s _ b=>hc d v ds vs r s b).2 r
def bP.length{K:ax}(r:bP K H ds vs):ds.length=vs.length :=
 bP.ind (m:=λds vs=>ds.length=vs.length) rfl (λ_ _ _ _ _ _ ih=>by rw[kB,kB,ih]) r
def bP.append{K:ax}(r:bP K H ds vs)(t:bP K H es ws):bP K H (ds++es) (vs++ws) :=
 bP.ind (m:=λds vs=>bP K H (ds++es) (vs++ws)) t (λ_ _ _ _ h _ ih=>.cons h ih) r
def bP.get{K:ax}{H:Hp}{ds:List D}{vs:List V}{i:Nat}{d:D}(r:bP K H ds vs)(e:ds[i]? = some d):∃ v,vs[i]? = some v/\Rep K H d v :=
 bP.ind (m:=λds vs=>∀ i d,ds[i]? = some d->∃ v,vs[i]? = some v/\Rep K H d v) (λi d e=>by simp at e) (λ_ _ _ _ h _ ih i d e=>by
  cases i with
  |zero=>simp at e;subst e;exact⟨_,rfl,h⟩
  |succ i =>
   obtain⟨v,e1,r⟩:=ih i d (by simpa using e);exact⟨v,by simpa using e1,r⟩) r i d e
def bP.Uu{K:ax}{H:Hp}{ds:List D}{vs:List V}{i:Nat}{v:V}(r:bP K H ds vs)(e:vs[i]? = some v):∃ d,ds[i]? = some d/\Rep K H d v :=
 bP.ind (m:=λds vs=>∀ i v,vs[i]? = some v->∃ d,ds[i]? = some d/\Rep K H d v) (λi d e=>by simp at e) (λ_ _ _ _ h _ ih i d e=>by
  cases i with
  |zero=>simp at e;subst e;exact⟨_,rfl,h⟩
  |succ i =>
   obtain⟨v,e1,r⟩:=ih i d (by simpa using e);exact⟨v,by simpa using e1,r⟩) r i v e
def bP.drop{K:ax}(n:Nat)(r:bP K H ds vs):bP K H (ds.drop n) (vs.drop n) :=
 bP.ind (m:=λds vs=>∀ n,bP K H (ds.drop n) (vs.drop n)) (λn=>by rw[List.drop_nil,List.drop_nil];exact .nil) (λ_ _ _ _ h hs ih n=>by
  cases n with
  |zero=>exact .cons h hs
  |succ n=>exact ih n) r n
def bP.n0{K:ax}(h:bP K H [] vs):vs=[]:=by cases h;rfl
def bP.c{K:ax}(h:bP K H (d :: ds) vs):∃ u us,vs=u :: us/\Rep K H d u/\bP K H ds us:=by
 cases h with
 |cons r rs=>exact⟨_,_,rfl,r,rs⟩
def bP.take{K:ax}(n:Nat)(r:bP K H ds vs):bP K H (ds.take n) (vs.take n) :=
 bP.ind (m:=λds vs=>∀ n,bP K H (ds.take n) (vs.take n)) (λn=>by rw[List.take_nil,List.take_nil];exact .nil) (λ_ _ _ _ h hs ih n=>by
  cases n with
  |zero=>exact .nil
  |succ n=>exact .cons h (ih n)) r n
mutual
inductive cS(K:ax)(Hs H:Hp)(fl:Bool):D->V->List ag->Prop
 |sh {d:D} {v:V}:(fl=true->d.flat=true)->Rep K Hs d v->cS K Hs H fl d v []
 |list {a:ag} {vs:List V} {ds:List D} {As:List ag}:vs.length<=bI->H a=some (.lst vs)->aG K Hs H fl ds vs As->cS K Hs H fl (.list ds) (.ref a) (a :: As)
 |tup {a:ag} {vs:List V} {ds:List D} {As:List ag}:vs.length<=bI->Hs a=some (.tup vs)->dv ds=false->aG K Hs H fl ds vs As->cS K Hs H fl (.tup ds) (.ref a) As
 |dK {a:ag} {vs:List V} {ae:List (Key × D)} {As:List ag}:Us ae->H a=some (.dK ((ae.map (·.1)).zip vs))->aG K Hs H fl (ae.map (·.2)) vs As->cS K Hs H fl (.dK ae) (.ref a) (a :: As)
 |dT {a:ag} {vs:List V} {ae:List (List Key × D)} {As:List ag}:Ut ae->H a=some (.dT ((ae.map (·.1)).zip vs))->aG K Hs H fl (ae.map (·.2)) vs As->cS K Hs H fl (.dT ae) (.ref a) (a :: As)
inductive aG(K:ax)(Hs H:Hp)(fl:Bool):List D->List V->List ag->Prop
 |nil:aG K Hs H fl [] [] []
 |cons {d:D} {v:V} {ds:List D} {vs:List V} {As Bs:List ag}:cS K Hs H fl d v As->aG K Hs H fl ds vs Bs->aG K Hs H fl (d :: ds) (v :: vs) (As++Bs)
end
def Own(H:Hp)(a:ag):Prop:=∃ o,H a=some o/\∀ vs,o≠.tup vs
section
variable {K:ax}{Hs aw H H':Hp}{fl:Bool}
def Own.ne(h:Own H a):H a≠none:=by obtain⟨_,e,_⟩:=h;rw[e];exact λz=>nomatch z
def Own.tX(h:Own H a):H a≠some (.tup vs):=by obtain⟨_,e,n⟩:=h;rw[e];exact λz=>n vs (Option.some.inj z)
def cS.ind{m1:D->V->List ag->Prop}{m2:List D->List V->List ag->Prop}(hs:∀ d v,(fl=true->d.flat=true)->Rep K Hs d v->m1 d v [])(hl:∀ a vs ds As,vs.length<=bI->H a=some (.lst vs)->aG K Hs H fl ds vs As->m2 ds vs As->m1 (.list ds) (.ref a) (a :: As)) (ht:∀ a vs ds As,vs.length<=bI->Hs a=some (.tup vs)->dv ds=false->aG K Hs H fl ds vs As->m2 ds vs As->m1 (.tup ds) (.ref a) As)(hk:∀ a vs ae As,Us ae->H a=some (.dK ((ae.map (·.1)).zip vs))->aG K Hs H fl (ae.map (·.2)) vs As->m2 (ae.map (·.2)) vs As->m1 (.dK ae) (.ref a) (a :: As)) (hT:∀ a vs ae As,Ut ae->H a=some (.dT ((ae.map (·.1)).zip vs))->aG K Hs H fl (ae.map (·.2)) vs As->m2 (ae.map (·.2)) vs As->m1 (.dT ae) (.ref a) (a :: As))(hn:m2 [] [] []) (hc:∀ d v ds vs As Bs,cS K Hs H fl d v As->aG K Hs H fl ds vs Bs->m1 d v As->m2 ds vs Bs->m2 (d :: ds) (v :: vs) (As++Bs)):(∀ {d v As},cS K Hs H fl d v As->m1 d v As)/\∀ {ds vs As},aG K Hs H fl ds vs As->m2 ds vs As :=
 ⟨λr=>cS.rec (λf r=>hs _ _ f r) (λz s r ih=>hl _ _ _ _ z s r ih) (λz s n r ih=>ht _ _ _ _ z s n r ih) (λz s r ih=>hk _ _ _ _ z s r ih) (λz s r ih=>hT _ _ _ _ z s r ih) hn (λr s a b=>hc _ _ _ _ _ _ r s a b) r,
  λr=>aG.rec (λf r=>hs _ _ f r) (λz s r ih=>hl _ _ _ _ z s r ih) (λz s n r ih=>ht _ _ _ _ z s n r ih) (λz s r ih=>hk _ _ _ _ z s r ih) (λz s r ih=>hT _ _ _ _ z s r ih) hn (λr s a b=>hc _ _ _ _ _ _ r s a b) r⟩
def CC{a:ag}{p:Prop}(h:a∈([]:List ag)):p:=absurd h BM
def cS.bZ':(∀ {d:D} {v:V} {As:List ag},cS K Hs H fl d v As->∀ a∈As,Own H a)/\∀ {ds:List D} {vs:List V} {As:List ag},aG K Hs H fl ds vs As->∀ a∈As,Own H a :=
 cS.ind (λ_ _ _ _ a h=>CC h) (λ_ _ _ _ _ e _ ih a h=>(eJ.mp h).elim (λz=>z ▸ ⟨_,e,λ_ z=>nomatch z⟩) (ih a)) (λ_ _ _ _ _ _ _ _ ih=>ih) (λ_ _ _ _ _ e _ ih a h=>(eJ.mp h).elim (λz=>z ▸ ⟨_,e,λ_ z=>nomatch z⟩) (ih a)) (λ_ _ _ _ _ e _ ih a h=>(eJ.mp h).elim (λz=>z ▸ ⟨_,e,λ_ z=>nomatch z⟩) (ih a)) (λa h=>CC h) λ_ _ _ _ _ _ _ _ i1 i2 a h=>(eK.mp h).elim (i1 a) (i2 a)
def cS.own(r:cS K Hs H fl d v As):∀ a∈As,Own H a:=cS.bZ'.1 r
def aG.own(r:aG K Hs H fl ds vs As):∀ a∈As,Own H a:=cS.bZ'.2 r
def cS.Je(s:bq Hs aw):(∀ {d:D} {v:V} {As:List ag},cS K Hs H fl d v As->(∀ a∈As,H' a=H a)->cS K aw H' fl d v As)/\∀ {ds:List D} {vs:List V} {As:List ag},aG K Hs H fl ds vs As->(∀ a∈As,H' a=H a)->aG K aw H' fl ds vs As :=
 cS.ind (λ_ _ f r _=>.sh f (r.same s)) (λ_ _ _ _ z e _ ih k=>.list z ((k _ fo).trans e) (ih λa h=>k a (eA _ h))) (λ_ _ _ _ z e n _ ih k=>.tup z (s _ _ e) n (ih k)) (λ_ _ _ _ z e _ ih k=>.dK z ((k _ fo).trans e) (ih λa h=>k a (eA _ h))) (λ_ _ _ _ z e _ ih k=>.dT z ((k _ fo).trans e) (ih λa h=>k a (eA _ h))) (λ_=>.nil) λ_ _ _ _ _ _ _ _ i1 i2 k=>.cons (i1 λa h=>k a (jI _ h)) (i2 λa h=>k a (eP _ h))
def cS.fN(s:bq Hs aw)(r:cS K Hs H fl d v As)(k:∀ a∈As,H' a=H a):cS K aw H' fl d v As:=(cS.Je s).1 r k
def aG.fN(s:bq Hs aw)(r:aG K Hs H fl ds vs As)(k:∀ a∈As,H' a=H a):aG K aw H' fl ds vs As:=(cS.Je s).2 r k
def cS.grow(s:bq Hs aw)(t:bq H H')(r:cS K Hs H fl d v As):cS K aw H' fl d v As :=
 r.fN s λa h=>by
  cases e:H a with
  |none=>exact absurd e (r.own a h).ne
  |some o=>exact t a o e
def aG.grow(s:bq Hs aw)(t:bq H H')(r:aG K Hs H fl ds vs As):aG K aw H' fl ds vs As :=
 r.fN s λa h=>by
  cases e:H a with
  |none=>exact absurd e (r.own a h).ne
  |some o=>exact t a o e
def cS.rep2{G:Hp}(s:bq Hs G):(∀ {d:D} {v:V} {As:List ag},cS K Hs H fl d v As->(∀ a∈As,G a=H a)->Rep K G d v)/\∀ {ds:List D} {vs:List V} {As:List ag},aG K Hs H fl ds vs As->(∀ a∈As,G a=H a)->bP K G ds vs :=
 cS.ind (λ_ _ _ r _=>r.same s) (λ_ _ _ _ z e _ ih k=>.list z (.inl (.inl ((k _ fo).trans e))) (ih λa h=>k a (eA _ h))) (λ_ _ _ _ z e n _ ih k=>.tup z (s _ _ e) (ih k)) (λ_ _ _ _ z e _ ih k=>.dK z (.inl ((k _ fo).trans e)) (ih λa h=>k a (eA _ h))) (λ_ _ _ _ z e _ ih k=>.dT z (.inl ((k _ fo).trans e)) (ih λa h=>k a (eA _ h))) (λ_=>.nil) λ_ _ _ _ _ _ _ _ i1 i2 k=>.cons (i1 λa h=>k a (jI _ h)) (i2 λa h=>k a (eP _ h))
def cS.rep(s:bq Hs G)(r:cS K Hs H fl d v As)(k:∀ a∈As,G a=H a):Rep K G d v:=(cS.rep2 s).1 r k
def aG.reps(s:bq Hs G)(r:aG K Hs H fl ds vs As)(k:∀ a∈As,G a=H a):bP K G ds vs:=(cS.rep2 s).2 r k
def Rep.xV(t:∀ a vs,H a=some (.tup vs)->G a=some (.tup vs)):(∀ {d:D} {v:V},Rep K H d v->d.flat=true->Rep K G d v)/\∀ {ds:List D} {vs:List V},bP K H ds vs->dv ds=true->bP K G ds vs :=
 Rep.ind (λ_=>.non) (λb _=>.bl b) (λi _=>.int i) (λ_ h _=>.str h) (λ_ _ _ _ _ _ _ f=>by simp[D.flat] at f) (λ_ _ _ z e _ ih f=>.tup z (t _ _ e) (ih (by simpa[D.flat] using f))) (λ_ _ _ _ _ _ _ f=>by simp[D.flat] at f) (λ_ _ _ _ _ _ _ f=>by simp[D.flat] at f) (λ_=>.nil) λ_ _ _ _ _ _ i1 i2 f=>by simp only[dv,kM] at f;exact .cons (i1 f.1) (i2 f.2)
def Rep.d9(t:∀ a vs,H a=some (.tup vs)->G a=some (.tup vs))(r:Rep K H d v)(f:d.flat=true):Rep K G d v:=(Rep.xV t).1 r f
def bP.d9(t:∀ a vs,H a=some (.tup vs)->G a=some (.tup vs))(r:bP K H ds vs)(f:dv ds=true):bP K G ds vs:=(Rep.xV t).2 r f
def bP.owned(r:bP K Hs ds vs)(f:dv ds=true):aG K Hs H fl ds vs [] :=
 bP.ind (m:=λds vs=>dv ds=true->aG K Hs H fl ds vs []) (λ_=>.nil) (λ_ _ _ _ h _ ih f=>by
  simp only[dv,kM] at f;exact .cons (.sh (λ_=>f.1) h) (ih f.2)) r f
def bP.G7(r:bP K Hs ds vs):aG K Hs H false ds vs [] :=
 bP.ind (m:=λds vs=>aG K Hs H false ds vs []) .nil (λ_ _ _ _ h _ ih=>.cons (.sh (λz=>Bool.noConfusion z) h) ih) r
def cS.ca':(∀ {d:D} {v:V} {As:List ag},cS K Hs H fl d v As->cS K Hs H false d v As)/\∀ {ds:List D} {vs:List V} {As:List ag},aG K Hs H fl ds vs As->aG K Hs H false ds vs As :=
 cS.ind (λ_ _ _ r=>.sh (λz=>Bool.noConfusion z) r) (λ_ _ _ _ z e _ ih=>.list z e ih) (λ_ _ _ _ z e n _ ih=>.tup z e n ih) (λ_ _ _ _ z e _ ih=>.dK z e ih) (λ_ _ _ _ z e _ ih=>.dT z e ih) .nil λ_ _ _ _ _ _ _ _ a b=>.cons a b
def cS.Uv(r:cS K Hs H fl d v As):cS K Hs H false d v As:=cS.ca'.1 r
def aG.Uv(r:aG K Hs H fl ds vs As):aG K Hs H false ds vs As:=cS.ca'.2 r
def cS.CP(t:∀ a vs,Hs a=some (.tup vs)->G a=some (.tup vs)):(∀ {d:D} {v:V} {As:List ag},cS K Hs H true d v As->cS K G H true d v As)/\∀ {ds:List D} {vs:List V} {As:List ag},aG K Hs H true ds vs As->aG K G H true ds vs As :=
 cS.ind (λ_ _ f r=>.sh f (r.d9 t (f rfl))) (λ_ _ _ _ z e _ ih=>.list z e ih) (λ_ _ _ _ z e n _ ih=>.tup z (t _ _ e) n ih) (λ_ _ _ _ z e _ ih=>.dK z e ih) (λ_ _ _ _ z e _ ih=>.dT z e ih) .nil λ_ _ _ _ _ _ _ _ a b=>.cons a b
def cS.leaves(t:∀ a vs,Hs a=some (.tup vs)->G a=some (.tup vs))(r:cS K Hs H true d v As):cS K G H true d v As:=(cS.CP t).1 r
def aG.ind{m:List D->List V->List ag->Prop}(hn:m [] [] [])(hc:∀ d v ds vs As Bs,cS K Hs H fl d v As->aG K Hs H fl ds vs Bs->m ds vs Bs->m (d :: ds) (v :: vs) (As++Bs)):∀ {ds vs As},aG K Hs H fl ds vs As->m ds vs As :=
 λr=>(cS.ind (m1:=λ_ _ _=>True) (λ_ _ _ _=>trivial) (λ_ _ _ _ _ _ _ _=>trivial) (λ_ _ _ _ _ _ _ _ _=>trivial) (λ_ _ _ _ _ _ _ _=>trivial) (λ_ _ _ _ _ _ _ _=>trivial) hn λd v ds vs As Bs r s _ b=>hc d v ds vs As Bs r s b).2 r
def aG.append(r:aG K Hs H fl ds vs As)(t:aG K Hs H fl es ws Bs):aG K Hs H fl (ds++es) (vs++ws) (As++Bs) :=
 aG.ind (m:=λds vs As=>aG K Hs H fl (ds++es) (vs++ws) (As++Bs)) t (λ_ _ _ _ _ _ h _ ih=>by
  rw[oI];exact .cons h ih) r
def aG.n0(h:aG K Hs H fl [] vs As):vs=[]/\As=[]:=by cases h;exact⟨rfl,rfl⟩
def aG.c(h:aG K Hs H fl (d :: ds) vs As):∃ u us A B,vs=u :: us/\As=A++B/\cS K Hs H fl d u A/\aG K Hs H fl ds us B:=by
 cases h with
 |cons r rs=>exact⟨_,_,_,_,rfl,rfl,r,rs⟩
def aG.length(r:aG K Hs H fl ds vs As):ds.length=vs.length :=
 aG.ind (m:=λds vs _=>ds.length=vs.length) rfl (λ_ _ _ _ _ _ _ _ ih=>by rw[kB,kB,ih]) r
end
def cb':HO->Prop
 |.dK _=>False
 |.dT _=>False
 |.pE _ _=>False
 |_=>True
def NX(H H':Hp):Prop:=∀ a o,cb' o->H a=some o->H' a=some o
structure N0 where
 is:Hp->Hp->ag->List ag->Prop
 fN:∀ {Hs aw H H':Hp} {a:ag} {As:List ag},NX Hs aw->(∀ b∈As,H' b=H b)->is Hs H a As->is aw H' a As
 own:∀ {Hs H:Hp} {a:ag} {As:List ag},is Hs H a As->∀ b∈As,Own H b
def iG(s:bq H H'):NX H H':=λa o _ e=>s a o e
inductive Sl where
 |sh (d:D)|ow (fl:Bool) (d:D)|lk (a:ag) (fl:Bool) (d:D)
 |xc (a:ag)
 |ob (a:ag) (p:N0)
abbrev Env:=List (Option Sl)
inductive SR(K:ax)(Hs H:Hp):Env->St->List ag->Prop
 |nil:SR K Hs H [] [] []
 |non {ρ:Env} {σ:St} {tot:List ag} {o:Option V}:SR K Hs H ρ σ tot->SR K Hs H (none :: ρ) (o :: σ) tot
 |sh {ρ:Env} {σ:St} {tot:List ag} {d:D} {v:V}:Rep K Hs d v->SR K Hs H ρ σ tot->SR K Hs H (some (.sh d) :: ρ) (some v :: σ) tot
 |xc {ρ:Env} {σ:St} {tot:List ag} {a:ag}:SR K Hs H ρ σ tot->SR K Hs H (some (.xc a) :: ρ) (some (.ref a) :: σ) tot
 |ow {ρ:Env} {σ:St} {tot As:List ag} {fl:Bool} {d:D} {v:V}:As≠[]->cS K Hs H fl d v As->SR K Hs H ρ σ tot->SR K Hs H (some (.ow fl d) :: ρ) (some v :: σ) (As++tot)
 |lk {ρ:Env} {σ:St} {tot As:List ag} {a:ag} {fl:Bool} {d:D}:As≠[]->cS K Hs H fl d (.ref a) As->SR K Hs H ρ σ tot->SR K Hs H (some (.lk a fl d) :: ρ) (some (.ref a) :: σ) (As++tot)
 |ob {ρ:Env} {σ:St} {tot As:List ag} {a:ag} {p:N0}:p.is Hs H a As->SR K Hs H ρ σ tot->SR K Hs H (some (.ob a p) :: ρ) (some (.ref a) :: σ) (As++tot)
structure Wf(Hs H:Hp):Prop where
 sub:bq Hs H
 iF:∀ a vs,H a=some (.tup vs)->Hs a=some (.tup vs)
structure dz(K:ax)(Hs:Hp)(ρ:Env)(σ:St)(H:Hp)(tot:List ag):Prop where
 sr:SR K Hs H ρ σ tot
 wf:Wf Hs H
 ox:tot.Nodup
 own:∀ a∈tot,Hs a=none
structure fv(Hs H aw H':Hp):Prop where
 all:bq H H'
 sh:bq Hs aw
 wf:Wf aw H'
 new:∀ a,aw a≠none->Hs a≠none\/H a=none
section
variable {K:ax}{Hs H aw H' cc' H'':Hp}
def fv.refl(w:Wf Hs H):fv Hs H Hs H:=⟨bq.refl _,bq.refl _,w,λ_ h=>.inl h⟩
def fv.trans(a:fv Hs H aw H')(b:fv aw H' cc' H''):fv Hs H cc' H'' :=
 ⟨a.all.trans b.all,a.sh.trans b.sh,b.wf,λc h=>by
  rcases b.new c h with h|h
  ·exact a.new c h
  ·exact .inr (a.all.free h)⟩
def fv.qf(g:fv Hs H aw H')(h:Hs a=none)(h':H a≠none):aw a=none:=by
 cases e:aw a with
 |none=>rfl
 |some o =>
  rcases g.new a (by rw[e];exact λz=>nomatch z) with z|z
  ·exact absurd h z
  ·exact absurd z h'
def SR.own{ρ:Env}{σ:St}{tot:List ag}(s:SR K Hs H ρ σ tot):∀ a∈tot,Own H a:=by
 induction s with
 |nil=>exact λa h=>CC h
 |non _ ih=>exact ih
 |sh _ _ ih=>exact ih
 |xc _ ih=>exact ih
 |ow _ r _ ih=>exact λa h=>(eK.mp h).elim (r.own a) (ih a)
 |lk _ r _ ih=>exact λa h=>(eK.mp h).elim (r.own a) (ih a)
 |@ob _ _ _ _ _ p r _ ih=>exact λa h=>(eK.mp h).elim (p.own r a) (ih a)
def SR.fN(s:bq Hs aw)(r:SR K Hs H ρ σ tot):(∀ a∈tot,H' a=H a)->SR K aw H' ρ σ tot:=by
 induction r with
 |nil=>exact λ_=>.nil
 |non _ ih=>exact λk=>.non (ih k)
 |sh h _ ih=>exact λk=>.sh (h.same s) (ih k)
 |xc _ ih=>exact λk=>.xc (ih k)
 |ow ne h _ ih=>exact λk=>.ow ne (h.fN s λa m=>k a (jI _ m)) (ih λa m=>k a (eP _ m))
 |lk ne h _ ih=>exact λk=>.lk ne (h.fN s λa m=>k a (jI _ m)) (ih λa m=>k a (eP _ m))
 |@ob _ _ _ _ _ p h _ ih=>exact λk=>.ob (p.fN (iG s) (λa m=>k a (jI _ m)) h) (ih λa m=>k a (eP _ m))
def dz.grow(r:dz K Hs ρ σ H tot)(g:fv Hs H aw H'):dz K aw ρ σ H' tot :=
 ⟨r.sr.fN g.sh λa h=>by
  cases e:H a with
  |none=>exact absurd e (r.sr.own a h).ne
  |some o=>exact g.all a o e,g.wf,r.ox,λa h=>g.qf (r.own a h) (r.sr.own a h).ne⟩
def zc(K:ax)(Hs H:Hp)(tot:List ag)(sl:Sl)(v:V):Prop:=match sl with
 |.sh d=>Rep K Hs d v
 |.ow fl d=>∃ As,As≠[]/\cS K Hs H fl d v As/\∀ a∈As,a∈tot
 |.lk a fl d=>∃ As,As≠[]/\cS K Hs H fl d v As/\v=.ref a/\∀ a∈As,a∈tot
 |.xc a=>v=.ref a
 |.ob a p=>v=.ref a/\∃ As,p.is Hs H a As/\∀ a∈As,a∈tot
def zc.mono(h:zc K Hs H tot sl v)(m:∀ a∈tot,a∈cf):zc K Hs H cf sl v:=by
 cases sl with
 |sh d=>exact h
 |xc a=>exact h
 |ow fl d =>obtain⟨As,ne,r,q⟩:=h;exact⟨As,ne,r,λa ha=>m a (q a ha)⟩
 |lk a fl d =>obtain⟨As,ne,r,e,q⟩:=h;exact⟨As,ne,r,e,λa ha=>m a (q a ha)⟩
 |ob a p =>obtain⟨e,As,r,q⟩:=h;exact⟨e,As,r,λa ha=>m a (q a ha)⟩
def SR.get{ρ:Env}{σ:St}{tot:List ag}{i:Nat}{sl:Sl}(s:SR K Hs H ρ σ tot)(e:ρ[i]? = some (some sl)):∃ v,σ[i]? = some (some v)/\zc K Hs H tot sl v:=by
 induction s generalizing i with
 |nil=>simp at e
 |non s ih =>
  cases i with
  |zero=>simp at e
  |succ i=>exact ih e
 |sh r s ih =>
  cases i with
  |zero=>simp at e;subst e;exact⟨_,rfl,r⟩
  |succ i=>exact ih e
 |xc s ih =>
  cases i with
  |zero=>simp at e;subst e;exact⟨_,rfl,rfl⟩
  |succ i=>exact ih e
 |ow ne r s ih =>
  cases i with
  |zero=>simp at e;subst e;exact⟨_,rfl,_,ne,r,λa m=>jI _ m⟩
  |succ i =>obtain⟨v,e1,h⟩:=ih e;exact⟨v,e1,h.mono λa m=>eP _ m⟩
 |lk ne r s ih =>
  cases i with
  |zero=>simp at e;subst e;exact⟨_,rfl,_,ne,r,rfl,λa m=>jI _ m⟩
  |succ i =>obtain⟨v,e1,h⟩:=ih e;exact⟨v,e1,h.mono λa m=>eP _ m⟩
 |ob r s ih =>
  cases i with
  |zero=>simp at e;subst e;exact⟨_,rfl,rfl,_,r,λa m=>jI _ m⟩
  |succ i =>obtain⟨v,e1,h⟩:=ih e;exact⟨v,e1,h.mono λa m=>eP _ m⟩
end
inductive Md where
 |sh|ow (fl:Bool)|bo|fr|wl (a:ag) (l:List V)
def KS(Hs H:Hp)(As:List ag):Hp:=λa=>if a∈As then H a else match Hs a with
 |some (.tup vs)=>some (.tup vs)
 |_=>none
def rT(t:∀ a vs,Hs a=some (.tup vs)->G a=some (.tup vs))(g:∀ a∈As,∀ o,H a=some o->G a=some o):bq (KS Hs H As) G:=λa o e=>by
 unfold KS at e;by_cases m:a∈As
 ·rw[if_pos m] at e;exact g a m o e
 ·rw[if_neg m] at e;split at e
  ·rename_i vs h;cases e;exact t a vs h
  ·cases e
def vD(o:∀ a∈As,Own H a)(w:bq Hs H)(h:Hs a=some (.tup vs)):KS Hs H As a=some (.tup vs):=by unfold KS;rw[if_neg λm=>(o a m).tX (w _ _ h),h]
def RM(K:ax)(Hs H:Hp):Md->D->V->List ag->Prop
 |.sh,d,v,As=>As=[]/\Rep K Hs d v
 |.ow fl,d,v,As=>cS K Hs H fl d v As/\As≠[]
 |.bo,d,v,As=>As=[]/\Rep K H d v
 |.fr,d,v,As=>(∀ a∈As,Own H a)/\Rep K (KS Hs H As) d v
 |.wl a l,d,v,As=>As=[]/\Rep K H d v/\H a=some (.lst l)
inductive yi(K:ax)(Hs H:Hp):List (Md × D)->List V->List ag->Prop
 |nil:yi K Hs H [] [] []
 |cons {m:Md} {d:D} {v:V} {ps:List (Md × D)} {vs:List V} {As Bs:List ag}:RM K Hs H m d v As->yi K Hs H ps vs Bs->yi K Hs H ((m,d) :: ps) (v :: vs) (As++Bs)
section
variable {K:ax}{Hs H aw H':Hp}
def RM.own{m:Md}{d:D}{v:V}{As:List ag}(r:RM K Hs H m d v As):∀ a∈As,Own H a:=by
 cases m with
 |sh=>obtain⟨rfl,_⟩:=r;exact λa h=>CC h
 |ow fl=>exact cS.own r.1
 |bo=>obtain⟨rfl,_⟩:=r;exact λa h=>CC h
 |fr=>exact r.1
 |wl=>obtain⟨rfl,_⟩:=r;exact λa h=>CC h
def RM.grow(r:RM K Hs H m d v As)(g:fv Hs H aw H'):RM K aw H' m d v As:=by
 have ow:(∀ a∈As,Own H a)->∀ a∈As,Own H' a:=λz a h=>let ⟨o,e,n⟩:=z a h;⟨o,g.all _ _ e,n⟩
 cases m with
 |sh=>exact⟨r.1,r.2.same g.sh⟩
 |ow fl=>exact⟨cS.grow g.sh g.all r.1,r.2⟩
 |bo=>exact⟨r.1,r.2.same g.all⟩
 |fr=>exact⟨ow r.1,r.2.same (rT (λa vs e=>vD (ow r.1) g.wf.sub (g.sh _ _ e)) λa m o e=>by unfold KS;rw[if_pos m];exact g.all _ _ e)⟩
 |wl=>exact⟨r.1,r.2.1.same g.all,g.all _ _ r.2.2⟩
def RM.rep(w:Wf Hs H)(r:RM K Hs H m d v As):Rep K H d v:=by
 cases m with
 |sh=>exact r.2.same w.sub
 |ow fl=>exact cS.rep w.sub r.1 λ_ _=>rfl
 |bo=>exact r.2
 |fr=>exact r.2.same (rT (λ_ _ e=>w.sub _ _ e) λ_ _ _ e=>e)
 |wl=>exact r.2.1
def RM.flat(w:Wf Hs H)(r:RM K Hs H m d v As)(f:d.flat=true):Rep K Hs d v:=(r.rep w).d9 w.iF f
def yi.own{ps:List (Md × D)}{vs:List V}{As:List ag}(r:yi K Hs H ps vs As):∀ a∈As,Own H a:=by
 induction r with
 |nil=>exact λa h=>CC h
 |cons r _ ih=>exact λa h=>(eK.mp h).elim (r.own a) (ih a)
def yi.reps(w:Wf Hs H){ps:List (Md × D)}(r:yi K Hs H ps vs As):bP K H (ps.map (·.2)) vs:=by
 induction r with
 |nil=>exact .nil
 |cons r _ ih=>exact .cons (r.rep w) ih
end
abbrev WE:=Env->(Md->D->Prop)->Prop
abbrev WT:=Env->(Bool->Prop)->Prop
abbrev WA:=Env->(List (Md × D)->Prop)->Prop
structure eO where
 nx:Env->Prop
 rt:Md->D->Prop
 bk:Env->Prop:=fun _=>False
 ct:Env->Prop:=fun _=>False
abbrev WS:=eO->Env->Prop
def bQ(aw H:Hp)(As:List ag):Prop:=As.Nodup/\∀ a∈As,aw a=none/\H a=none
def ui(K:ax)(t:WE):TE:=λσ H Qv=>∃ Hs ρ tot Q,dz K Hs ρ σ H tot/\t ρ Q /\
 ∀ v H' aw m d As,fv Hs H aw H'->RM K aw H' m d v As->bQ aw H As->Q m d->Qv v H'
def CD(K:ax)(t:WT):TT:=λσ H Qv=>∃ Hs ρ tot Q,dz K Hs ρ σ H tot/\t ρ Q/\∀ b H' aw,fv Hs H aw H'->Q b->Qv b H'
def WW(K:ax)(t:WA):TA:=λσ H Qv=>∃ Hs ρ tot Q,dz K Hs ρ σ H tot/\t ρ Q /\
 ∀ vs H' aw ps As,fv Hs H aw H'->yi K aw H' ps vs As->bQ aw H As->Q ps->Qv vs H'
def yk(K:ax)(L:Str->Hp->Prop)(t:WS):TS:=λD σ H=>∃ Hs ρ tot E,dz K Hs ρ σ H tot/\t E ρ /\ (∀ bX H' aw bt cf,bq Hs aw->dz K aw bt bX H' cf->E.nx bt->D.nx bX H') /\ (∀ bX H' aw bt cf,bq Hs aw->dz K aw bt bX H' cf->E.bk bt->D.bk bX H') /\ (∀ bX H' aw bt cf,bq Hs aw->dz K aw bt bX H' cf->E.ct bt->D.ct bX H') /\ (∀ v H' aw m d As,bq Hs aw->Wf aw H'->RM K aw H' m d v As->As.Nodup->(∀ a∈As,aw a=none)->E.rt m d->D.rt v H') /\
 ∀ n H',bq Hs H'->E.rt (.ow false) (.str n)->L n H'
def cL{K:ax}{L:Str->Hp->Prop}{t:WS}{D:Ends}{σ:St}{H:Hp}{G:Prop}(x:yk K L t D σ H)(k:∀ Hs ρ tot E,dz K Hs ρ σ H tot->t E ρ -> (∀ bX H' aw bt cf,bq Hs aw->dz K aw bt bX H' cf->E.nx bt->D.nx bX H') -> (∀ bX H' aw bt cf,bq Hs aw->dz K aw bt bX H' cf->E.bk bt->D.bk bX H') -> (∀ bX H' aw bt cf,bq Hs aw->dz K aw bt bX H' cf->E.ct bt->D.ct bX H') -> (∀ v H' aw m d As,bq Hs aw->Wf aw H'->RM K aw H' m d v As->As.Nodup->(∀ a∈As,aw a=none)->E.rt m d->D.rt v H') -> (∀ n H',bq Hs H'->E.rt (.ow false) (.str n)->L n H')->G):G :=
 by
 obtain⟨Hs,ρ,tot,E,sr,h,k1,k2,k3,k4,kx⟩:=x;exact k Hs ρ tot E sr h k1 k2 k3 k4 kx
def cV{K:ax}{L:Str->Hp->Prop}{t:WS}{D:Ends}{σ:St}{H:Hp}{G:Prop}(x:yk K L t D σ H)(k:∀ Hs ρ tot E,dz K Hs ρ σ H tot->t E ρ -> (∀ bX H' aw bt cf,bq Hs aw->dz K aw bt bX H' cf->E.nx bt->D.nx bX H') -> (∀ bX H' aw bt cf,bq Hs aw->dz K aw bt bX H' cf->E.bk bt->D.bk bX H') -> (∀ bX H' aw bt cf,bq Hs aw->dz K aw bt bX H' cf->E.ct bt->D.ct bX H') -> (∀ v H' aw m d As,bq Hs aw->Wf aw H'->RM K aw H' m d v As->As.Nodup->(∀ a∈As,aw a=none)->E.rt m d->D.rt v H')->G):G :=
 cL x λHs ρ tot E sr h k1 k2 k3 k4 _=>k Hs ρ tot E sr h k1 k2 k3 k4
def ic{α β γ δ:Type _}{A B C:α->β->γ->δ->Prop}{G:Prop}(x:∃ a b c d,A a b c d/\B a b c d/\C a b c d)(k:∀ a b c d,A a b c d->B a b c d->C a b c d->G):G :=
 by
 obtain⟨a,b,c,d,p,q,r⟩:=x;exact k a b c d p q r
abbrev QE(X:Cx)(K:ax)(e:Expr)(t:WE):Prop:=PE X e (ui K t)
abbrev QT(X:Cx)(K:ax)(e:Expr)(t:WT):Prop:=PT X e (CD K t)
abbrev QW(X:Cx)(K:ax)(e:Expr)(t:WT):Prop:=PW X e (CD K t)
abbrev QA(X:Cx)(K:ax)(es:List Expr)(t:WA):Prop:=PA X es (WW K t)
abbrev QS(X:Cx)(K:ax)(L:Str->Hp->Prop)(st:g9)(t:WS):Prop:=PS X st (yk K L t)
abbrev qo(X:Cx)(K:ax)(L:Str->Hp->Prop)(st:List g9)(t:WS):Prop:=lP X st (yk K L t)
abbrev L0:Str->Hp->Prop:=λ_ _=>True
end L2.Q
namespace L2.Q
structure Kt{α:Type}(f:α->Prop):Type where
def b6{α:Type}(a:α){f:α->Prop}(_:Kt f):Prop:=f a
mutual
def D.py:D->PyData
 |.non=>.none
 |.bl b=>.bool b
 |.int i=>.int i
 |.str x=>.str x
 |.list xs=>.list (rV xs)
 |.tup xs=>.tuple (rV xs)
 |.dK _=>.none
 |.dT _=>.none
def rV:List D->List PyData
 |[]=>[]
 |x :: xs=>x.py :: rV xs
end
def eB:Nat->D->Bool
 |_,.non=>true
 |_,.bl _=>true
 |_,.int _=>true
 |_,.str x=>PyData.strOk x
 |n+1,.list xs=>xs.all (eB n)
 |n+1,.tup xs=>xs.all (eB n)
 |_,_=>false
def k9(x y:D):Bool:=PyData.eqv x.py y.py
def D.ty:D->String
 |.non => "NoneType"
 |.bl _ => "bool"
 |.int _ => "int"
 |.str _ => "str"
 |.list _ => "list"
 |.tup _ => "tuple"
 |.dK _ => "dict"
 |.dT _ => "dict"
def D.key1:D->Option Key
 |.int i=>some (.inl i)
 |.str x=>some (.inr x)
 |_=>none
def fX:List D->Option (List Key)
 |[]=>some []
 |x :: xs=>match x.key1,fX xs with
  |some k,some ks=>some (k :: ks)
  |_,_=>none
section
variable {κ:Type}[DecidableEq κ]{β:Type}
def mM(ae:List (κ × β))(k:κ):Option β:=(ae.find? λkv=>decide (kv.1=k)).map (·.2)
def ti(ae:List (κ × β))(k:κ)(v:β):List (κ × β) :=
 if (ae.any λkv=>decide (kv.1=k))=true then ae.map (λkv=>if kv.1=k then (kv.1,v) else kv) else ae++[(k,v)]
end
def Rep.l22{K:ax}:(∀ {d:D} {v:V},Rep K H d v->∀ n,eB n d=true->L2.Rep K H d.py v)/\∀ {ds:List D} {vs:List V},bP K H ds vs->∀ n,(∀ d∈ds,eB n d=true)->L2.bP K H (rV ds) vs :=
 Rep.ind (λ_ _=>.none) (λb _ _=>.bool b) (λi _ _=>.int i) (λ_ _ _ _=>.str _) (λ_ _ _ _ h _ ih n o=>by
   cases n with
   |zero=>simp[eB] at o
   |succ n=>exact .list h (ih n (by simpa[eB] using o)))
  (λ_ _ _ _ h _ ih n o=>by
   cases n with
   |zero=>simp[eB] at o
   |succ n=>exact .tuple (.inl (.inl h)) (ih n (by simpa[eB] using o)))
  (λ_ _ _ _ _ _ _ n o=>by cases n<;>simp[eB] at o) (λ_ _ _ _ _ _ _ n o=>by cases n<;>simp[eB] at o) (λ_ _=>.nil)
  λ_ _ _ _ _ _ i1 i2 n o=>.cons (i1 n (o _ fo)) (i2 n λd m=>o d (eA _ m))
def Rep.l2{K:ax}(r:Rep K H d v)(o:eB n d=true):L2.Rep K H d.py v:=Rep.l22.1 r n o
def vC(ih:∀ d,eB n d=true->d.py.canLay0=true/\d.py.depth<=n)(xs:List D)(h:∀ x∈xs,eB n x=true):PyData.canLayAll0 (rV xs)=true/\PyData.depthAll (rV xs)<=n:=by
 induction xs with
 |nil=>exact⟨rfl,fI _⟩
 |cons x xs ih2 =>have h1:=ih x (h x fo);have h2:=ih2 λy hy=>h y (eA _ hy);simp only[rV,PyData.canLayAll0,PyData.depthAll,h1.1,h2.1,Bool.and_self,true_and];lia
def jk(n:Nat):∀ (d:D),eB n d=true->d.py.canLay0=true/\d.py.depth<=n:=by
 have st:∀ n x,eB n (.str x)=true->(D.str x).py.canLay0=true/\(D.str x).py.depth<=n:=λn x h=>by
  have h:PyData.strOk x=true:=by cases n<;>simpa[eB] using h
  exact⟨by simpa[D.py,PyData.canLay0] using h,fI _⟩
 induction n with
 |zero =>
  intro d h
  cases d with
  |str x=>exact st _ x h
  |non=>exact⟨rfl,fI _⟩
  |bl _=>exact⟨rfl,fI _⟩
  |int _=>exact⟨rfl,fI _⟩
  |_=>simp[eB] at h
 |succ n ih =>
  intro d h
  cases d with
  |str x=>exact st _ x h
  |non=>exact⟨rfl,fI _⟩
  |bl _=>exact⟨rfl,fI _⟩
  |int _=>exact⟨rfl,fI _⟩
  |list xs =>
   have h:∀ x∈xs,eB n x=true:=by simpa[eB] using h
   have:=vC ih xs h;simp only[D.py,PyData.canLay0,PyData.depth];exact⟨this.1,by lia⟩
  |tup xs =>
   have h:∀ x∈xs,eB n x=true:=by simpa[eB] using h
   have:=vC ih xs h;simp only[D.py,PyData.canLay0,PyData.depth];exact⟨this.1,by lia⟩
  |dK _=>simp[eB] at h
  |dT _=>simp[eB] at h
mutual
def D.nb:D->Bool
 |.bl _=>false
 |.list xs=>yn xs
 |.tup xs=>yn xs
 |.dK _=>false
 |.dT _=>false
 |_=>true
def yn:List D->Bool
 |[]=>true
 |x :: xs=>x.nb && yn xs
end
mutual
theorem nZ:∀ (x y:D),x.nb=true->y.nb=true->(k9 x y=true↔x=y)
 |.non,y,_,hy=>by cases y<;>simp_all [k9,D.py,PyData.eqv,D.nb]
 |.bl _,y,hx,_=>by simp[D.nb] at hx
 |.int i,y,_,hy=>by cases y<;>simp_all [k9,D.py,PyData.eqv,D.nb]
 |.str i,y,_,hy=>by cases y<;>simp_all [k9,D.py,PyData.eqv,D.nb]
 |.dK _,y,hx,_=>by simp[D.nb] at hx
 |.dT _,y,hx,_=>by simp[D.nb] at hx
 |.list xs,y,hx,hy=>by
  cases y with
  |list ys =>have:=nW xs ys (by simpa[D.nb] using hx) (by simpa[D.nb] using hy);simp only[k9,D.py,PyData.eqv,D.list.injEq];exact this
  |_=>simp_all [k9,D.py,PyData.eqv,D.nb]
 |.tup xs,y,hx,hy=>by
  cases y with
  |tup ys =>have:=nW xs ys (by simpa[D.nb] using hx) (by simpa[D.nb] using hy);simp only[k9,D.py,PyData.eqv,D.tup.injEq];exact this
  |_=>simp_all [k9,D.py,PyData.eqv,D.nb]
theorem nW:∀ (xs ys:List D),yn xs=true->yn ys=true->(PyData.eqvAll (rV xs) (rV ys)=true↔xs=ys)
 |[],[],_,_=>by simp[rV,PyData.eqvAll]
 |[],_ :: _,_,_=>by simp[rV,PyData.eqvAll]
 |_ :: _,[],_,_=>by simp[rV,PyData.eqvAll]
 |x :: xs,y :: ys,hx,hy=>by simp only[yn,kM] at hx hy;have h1:=nZ x y hx.1 hy.1;have h2:=nW xs ys hx.2 hy.2;simp only[rV,PyData.eqvAll,kM,List.cons.injEq];exact and_congr h1 h2
end
section
variable {K:ax}{H:Hp}
def Rep.key(r:Rep K H d v)(h:d.key1=some k):v=kV k:=by cases r<;>simp[D.key1] at h<;>subst h<;>rfl
def bP.keys(r:bP K H ds vs)(h:fX ds=some ks):vs=ks.map kV:=by
 induction ds generalizing vs ks with
 |nil=>simp[fX] at h;subst h;exact r.n0
 |cons d ds ih =>
  obtain⟨u,us,rfl,r,rs⟩:=r.c;unfold fX at h
  cases e1:d.key1 with
  |none=>rw[e1] at h;simp at h
  |some k =>
   cases e2:fX ds with
   |none=>rw[e1,e2] at h;simp at h
   |some ks' =>rw[e1,e2] at h;simp at h;subst h;rw[gX,r.key e1,ih rs e2]
def Rep.N3(r:Rep K H (.tup ds) v)(h:fX ds=some ks):∃ b,v=.ref b/\H b=some (.tup (ks.map kV)):=by
 cases r with
 |tup _ e rs=>exact⟨_,rfl,by rw[e,rs.keys h]⟩
end
section
variable {κ:Type}[DecidableEq κ]{K:ax}{H:Hp}
def zip_get{k:κ}{ae:List (κ × D)}{vs:List V}(h:bP K H (ae.map (·.2)) vs):match mM ae k with
  |some d=>∃ v,k8 ((ae.map (·.1)).zip vs) k=some v/\Rep K H d v
  |none=>k8 ((ae.map (·.1)).zip vs) k=none:=by
 induction ae generalizing vs with
 |nil=>rfl
 |cons p ae ih =>
  obtain⟨u,us,rfl,r,rs⟩:=bP.c h;by_cases e:p.1=k
  ·have e1:mM (p :: ae) k=some p.2:=by simp[mM,e]
   rw[e1];exact⟨_,by simp only[gX,PR];exact T1 e,r⟩
  ·have e1:mM (p :: ae) k=mM ae k:=by simp[mM,e]
   rw[e1];have:=ih rs;simp only[gX,PR,T2 (p:=(p.1,_)) e];exact this
def Dw{k:κ}{ae:List (κ × D)}{vs:List V}(h:ae.length=vs.length):((ae.map (·.1)).zip vs).any (λkv=>decide (kv.1=k))=ae.any λkv=>decide (kv.1=k):=by
 induction ae generalizing vs with
 |nil=>rfl
 |cons p ae ih =>
  cases vs with
  |nil=>simp at h
  |cons v vs =>simp only[gX,PR,DS];rw[ih (by simpa using h)]
end
section
variable {K:ax}{Hs H:Hp}
def N4(w:Wf Hs H)(hp:H p=none)(ho:∀ vs,o≠.tup vs):fv Hs H Hs (upd H p o) :=
 ⟨(bq.refl H).upd hp,bq.refl _,⟨w.sub.upd hp,λa vs e=>by
  by_cases h:a=p
  ·subst h;rw[eM] at e;exact absurd (Option.some.inj e) (ho vs)
  ·rw[dn h] at e;exact w.iF a vs e⟩,λ_ h=>.inl h⟩
def N9(w:Wf Hs H)(hp:H p=none):fv Hs H (upd Hs p (.tup vs)) (upd H p (.tup vs)) :=
 ⟨(bq.refl H).upd hp,(bq.refl Hs).upd (w.sub.free hp),⟨λa o e=>by
  by_cases h:a=p
  ·subst h;rw[eM] at e ⊢;exact e
  ·rw[dn h] at e ⊢;exact w.sub a o e,λa vs e=>by
  by_cases h:a=p
  ·subst h;rw[eM] at e ⊢;exact e
  ·rw[dn h] at e ⊢;exact w.iF a vs e⟩,λa h=>by
  by_cases e:a=p
  ·subst e;exact .inr hp
  ·rw[dn e] at h;exact .inl h⟩
def bQ.nil:bQ Hs H []:=⟨mz,λa h=>nomatch h⟩
def bQ.of(s:bq H H')(f:bQ Hs H' As):bQ Hs H As:=⟨f.1,λa h=>⟨(f.2 a h).1,s.free (f.2 a h).2⟩⟩
abbrev Fin(K:ax)(Hs H:Hp)(Qd:Md->D->Prop)(Qv:VK):Prop:=∀ v H' aw m d As,fv Hs H aw H'->RM K aw H' m d v As->bQ aw H As->Qd m d->Qv v H'
def Fin.after(f:Fin K Hs H Qd Qv)(g:fv Hs H aw H'):Fin K aw H' Qd Qv:=λv H2 aE m d As g2 r fr q=>f v H2 aE m d As (g.trans g2) r (fr.of g.all) q
def Fin.sh(f:Fin K Hs H Qd Qv)(w:Wf Hs H)(r:Rep K Hs d v)(q:Qd .sh d):Qv v H:=f v H Hs .sh d [] (fv.refl w) ⟨rfl,r⟩ bQ.nil q
def Fin.flat(f:Fin K Hs H Qd Qv)(w:Wf Hs H)(r:Rep K H d v)(hf:d.flat=true)(q:Qd .sh d):Qv v H:=f.sh w (r.d9 w.iF hf) q
def Fin.bo(f:Fin K Hs H Qd Qv)(w:Wf Hs H)(r:Rep K H d v)(q:Qd .bo d):Qv v H:=f v H Hs .bo d [] (fv.refl w) ⟨rfl,r⟩ bQ.nil q
def tj(m:Md)(d:D):Md:=match m with
 |.sh=>.sh
 |_=>bif d.flat then .sh else .bo
def Fin.tj(f:Fin K Hs H Qd Qv)(w:Wf Hs H)(r:Rep K H d v)(rs:m=.sh->Rep K Hs d v)(q:Qd (tj m d) d):Qv v H:=by
 have o:Qd (bif d.flat then .sh else .bo) d->Qv v H:=λq=>by
  cases hf:d.flat with
  |true=>exact f.flat w r hf (by simpa[hf] using q)
  |false=>exact f.bo w r (by simpa[hf] using q)
 cases m with
 |sh=>exact f.sh w (rs rfl) q
 |_=>exact o q
def Fin.lst(f:Fin K Hs H Qd Qv)(w:Wf Hs H)(hz:ds.length<=bI)(r:bP K H ds vs)(hf:dv ds=true)(q:Qd (.ow true) (.list ds)):∀ p,H p=none->Qv (.ref p) (upd H p (.lst vs)):=λp hp =>
 f _ _ Hs (.ow true) (.list ds) [p] (N4 w hp λ_ z=>nomatch z) ⟨.list (by rw[<- r.length];exact hz) eM ((r.d9 w.iF hf).owned hf),by simp⟩ ⟨by simp,λa h=>by
  obtain rfl:a=p:=by simpa using h
  exact⟨w.sub.free hp,hp⟩⟩ q
def Fin.Uw(f:Fin K Hs H Qd Qv)(w:Wf Hs H)(hz:ds.length<=bI)(r:bP K Hs ds vs)(q:Qd (.ow false) (.list ds)):∀ p,H p=none->Qv (.ref p) (upd H p (.lst vs)):=λp hp =>
 f _ _ Hs (.ow false) (.list ds) [p] (N4 w hp λ_ z=>nomatch z) ⟨.list (by rw[<- r.length];exact hz) eM r.G7,by simp⟩ ⟨by simp,λa h=>by
  obtain rfl:a=p:=by simpa using h
  exact⟨w.sub.free hp,hp⟩⟩ q
def Fin.tup(f:Fin K Hs H Qd Qv)(w:Wf Hs H)(hz:ds.length<=bI)(r:bP K H ds vs)(hf:dv ds=true)(q:Qd .sh (.tup ds)):∀ p,H p=none->Qv (.ref p) (upd H p (.tup vs)):=λp hp =>
 f _ _ (upd Hs p (.tup vs)) .sh (.tup ds) [] (N9 w hp) ⟨rfl,.tup (by rw[<- r.length];exact hz) eM ((r.d9 w.iF hf).same ((bq.refl Hs).upd (w.sub.free hp)))⟩ bQ.nil q
end
section
variable {X:Cx}{K:ax}
def PE.imp(h:PE X e te)(i:∀ σ H Q,yv σ H Q->te σ H Q):PE X e yv:=λpins s σ H Q I q=>h pins s σ H Q I (i σ H Q q)
def PT.imp(h:PT X e te)(i:∀ σ H Q,yv σ H Q->te σ H Q):PT X e yv:=λpins s σ H Q I q=>h pins s σ H Q I (i σ H Q q)
def PW.imp(h:PW X e te)(i:∀ σ H Q,yv σ H Q->te σ H Q):PW X e yv:=λwh pins s σ H Q I q=>h wh pins s σ H Q I (i σ H Q q)
def PA.imp(h:PA X e te)(i:∀ σ H Q,yv σ H Q->te σ H Q):PA X e yv:=λp pins s σ H Q I q=>h p pins s σ H Q I (i σ H Q q)
def RJ:Option (Option Sl)->(Md->D->Prop)->Prop
 |some (some (.sh d)),Q=>Q .sh d
 |some (some (.ow _ d)),Q=>Q .bo d
 |some (some (.lk _ _ d)),Q=>Q .bo d
 |_,_=>False
def av(i:Nat):WE:=λρ Q=>RJ ρ[i]? Q
def J1(h:PE X e (i5 i)):QE X K e (av i):=by
 refine PE.imp h λσ H Qv hx=>ic hx λHs ρ tot Q sr h f=>?_;unfold av at h
 cases e:ρ[i]? with
 |none=>rw[e] at h;exact h.elim
 |some o =>
  cases o with
  |none=>rw[e] at h;exact h.elim
  |some sl =>
   obtain⟨v,e1,r⟩:=sr.sr.get e;rw[e] at h
   cases sl with
   |sh d=>exact⟨v,e1,Fin.sh f sr.wf r h⟩
   |xc a=>exact h.elim
   |ob a p=>exact h.elim
   |ow fl d =>obtain⟨As,_,r,_⟩:=r;exact⟨v,e1,Fin.bo f sr.wf (r.rep sr.wf.sub λ_ _=>rfl) h⟩
   |lk a fl d =>obtain⟨As,_,r,_⟩:=r;exact⟨v,e1,Fin.bo f sr.wf (r.rep sr.wf.sub λ_ _=>rfl) h⟩
def qv (i:Nat) (hN:autoParam (X.N[i]? = some x) bv) (hv:Q6 X.env.scope x:=by first|exact Or.inl rfl|exact Or.inr (Or.inl rfl)|exact Or.inr (Or.inr rfl)) (hd:(x == ("__debug__" : Str))=false:=by decide) (pS:(x == ("__classdict__" : Str))=false:=by decide):QE X K (.Name x pos) (av i):=J1 (Ra hN hv hd pS)
def wC(d:D):WE:=λ_ Q=>Q .sh d
def uV(h:PE X e (tC v))(r:∀ H,Rep K H d v):QE X K e (wC d) :=
 PE.imp h λσ H Qv hx=>ic hx λHs ρ tot Q sr h f=>Fin.sh f sr.wf (r _) h
def ao{i j pos}:QE X K (.Constant (.int i) j pos) (wC (.int i)):=uV dY' λ_=>.int i
def aB{i j pos}(h:i.length<=bI:=by decide):QE X K (.Constant (.str i) j pos) (wC (.str i)):=uV eb' λ_=>.str h
def rX{i j pos}:QE X K (.Constant (.bool i) j pos) (wC (.bl i)):=uV dZ' λ_=>.bl i
def xW{j pos}:QE X K (.Constant .none j pos) (wC .non):=uV ea' λ_=>.non
def ce' (h:Uk X.mg x z) (hg:autoParam (Gl X x) bv) (hd:(x == ("__debug__" : Str))=false:=by decide) (hz:z.length<=bI:=by decide):QE X K (.Name x pos) (wC (.str z)):=uV (Kd h hg hd) λ_=>.str hz
def RK (h:ND X.mg x i) (hg:autoParam (Gl X x) bv) (hd:(x == ("__debug__" : Str))=false:=by decide):QE X K (.Name x pos) (wC (.int i)):=uV (K6 h hg hd) λ_=>.int i
abbrev W2:=Md->D->Md->D->(Md->D->Prop)->Prop
abbrev W1:=Md->D->(Md->D->Prop)->Prop
def lh(K:ax)(r:R2)(f:W2):Prop:=∀ Hs H m x v As n y u Bs Qd Qv,Wf Hs H->RM K Hs H m x v As->RM K Hs H n y u Bs->f m x n y Qd->Fin K Hs H Qd Qv->r v u H Qv
def Br1(K:ax)(r:V->Hp->VK->Prop)(f:W1):Prop:=∀ Hs H m x v As Qd Qv,Wf Hs H->RM K Hs H m x v As->f m x Qd->Fin K Hs H Qd Qv->r v H Qv
def ay(f:W2)(ta tb:WE):WE:=λρ Q=>ta ρ λm x=>tb ρ λn y=>f m x n y Q
def eT(f:W1)(ta:WE):WE:=λρ Q=>ta ρ λm x=>f m x Q
variable {a b:Expr}{ta tb tc:WE}{pos:Pos}
def oO(br:lh K r f)(σ:St)(H:Hp)(Qv:VK)(h:ui K (ay f ta tb) σ H Qv):Rf r (ui K ta) (ui K tb) σ H Qv:=by obtain⟨Hs,ρ,tot,Q,sr,h,fin⟩:=h;exact⟨Hs,ρ,tot,_,sr,h,λv H1 aS m x As g1 r1 f1 q1=>⟨aS,ρ,tot,_,sr.grow g1,q1,λu H2 aE n y Bs g2 r2 f2 q2=>br aE H2 m x v As n y u Bs Q Qv g2.wf (r1.grow g2) r2 q2 (Fin.after fin (g1.trans g2))⟩⟩
def KW(ho:dS X (oj op) r)(br:lh K r f)(ha:QE X K a ta)(hb:QE X K b tb):QE X K (.BinOp a op b pos) (ay f ta tb):=PE.imp (eV' ho ha hb) (oO br)
def jr'(ho:Tz X (unaryOp op) r)(br:Br1 K r f)(ha:QE X K a ta):QE X K (.UnaryOp op a pos) (eT f ta):=by exact PE.imp (eW' ho ha) λσ H Qv hx=>ic hx λHs ρ tot Q sr h fin=>⟨Hs,ρ,tot,_,sr,h,λv H1 aS m x As g1 r1 f1 q1=>br aS H1 m x v As Q Qv g1.wf r1 q1 (Fin.after fin g1)⟩
def lV(ho:dS X (fR op) r)(br:lh K r f)(ha:QE X K a ta)(hb:QE X K b tb)(hm:E3 op b=false:=by first|exact av' _|rfl):QE X K (.Compare a [op] [b] pos) (ay f ta tb):=PE.imp (fu' ho ha hb hm) (oO br)
def wB(t:WE):WT:=λρ Q=>t ρ λ_ x=>match x with
 |.bl b=>Q b
 |_=>False
def Af(σ:St)(H:Hp)(Qv:Bool->Hp->Prop)(h:CD K (wB t) σ H Qv):VR (ui K t) σ H Qv:=by
 obtain⟨Hs,ρ,tot,Q,sr,h,fin⟩:=h;refine⟨Hs,ρ,tot,_,sr,h,λv H1 aS m x As g1 r1 f1 q1=>?_⟩;have r:=r1.rep g1.wf
 cases r with
 |bl b=>exact⟨b,rfl,fin b H1 aS g1 q1⟩
 |_=>exact q1.elim
def aF(ho:dS X (fR op) r)(br:lh K r f)(ha:QE X K a ta)(hb:QE X K b tb)(hm:E3 op b=false:=by first|exact av' _|rfl):QT X K (.Compare a [op] [b] pos) (wB (ay f ta tb)):=by
 refine PT.imp (fv' ho ha hb hm) λσ H Qv h=>?_;obtain⟨Hs,ρ,tot,Q,sr,h,fin⟩:=h;refine oO br σ H _ ⟨Hs,ρ,tot,_,sr,h,λv H1 aS m x As g1 r1 f1 q1=>?_⟩;have r:=r1.rep g1.wf
 cases r with
 |bl b=>exact⟨b,rfl,fin b H1 aS g1 q1⟩
 |_=>exact q1.elim
def eZ(h:QE X K a t)(he:∀ whole,isTrue a X.env whole=(do let v <- whole;standAt a.pos;holding [v] (truthy v)):=by intro _;rfl):QT X K a (wB t):=PT.imp (ee' h he) Af
def jd(f g:W2)(ta tb tc:WE):WE:=λρ Q=>ta ρ λm x=>tb ρ λn y=>f m x n y λ_ z=>match z with
 |.bl k=>if k=true then tc ρ λl w=>g n y l w Q else Q .sh (.bl false)
 |_=>False
end
section
variable {X:Cx}{K:ax}{a b c:Expr}{ta tb tc:WE}{pos:Pos}
def mW(br:lh K r f)(RL:lh K r' g)(σ:St)(H:Hp)(Qv:VK)(h:ui K (jd f g ta tb tc) σ H Qv):VS r r' (ui K ta) (ui K tb) (ui K tc) σ H Qv:=by
 obtain⟨Hs,ρ,tot,Q,sr,h,fin⟩:=h;refine⟨Hs,ρ,tot,_,sr,h,λv H1 aS m x As g1 r1 f1 q1=>⟨aS,ρ,tot,_,sr.grow g1,q1,λu H2 aE n y Bs g2 r2 f2 q2=>?_⟩⟩;refine br aE H2 m x v As n y u Bs _ _ g2.wf (r1.grow g2) r2 q2 λz H3 hV m3 d3 As3 g3 r3 f3 q3=>?_;have rr:=r3.rep g3.wf
 cases rr with
 |bl k =>
  refine⟨k,rfl,?_⟩;have Uq:Fin K hV H3 Q Qv:=Fin.after fin ((g1.trans g2).trans g3)
  cases k with
  |false=>exact Uq.sh g3.wf (.bl false) q3
  |true =>exact⟨hV,ρ,tot,_,((sr.grow g1).grow g2).grow g3,q3,λw H4 yA l z As4 g4 r4 f4 q4=>RL yA H4 n y u Bs l z w As4 Q Qv g4.wf ((r2.grow g3).grow g4) r4 q4 (Fin.after Uq g4)⟩
 |_=>exact q3.elim
def FQ(ho:dS X (fR op) r)(rh:dS X (fR op') r')(br:lh K r f)(RL:lh K r' g)(ha:QE X K a ta)(hb:QE X K b tb)(hc:QE X K c tc)(hm:lastMarks [op,op'] [b,c]=false:=by with_unfolding_all rfl):QE X K (.Compare a [op,op'] [b,c] pos) (jd f g ta tb tc):=PE.imp (fw' ho rh ha hb hc hm) (mW br RL)
def oU(ho:dS X (fR op) r)(rh:dS X (fR op') r')(br:lh K r f)(RL:lh K r' g)(ha:QE X K a ta)(hb:QE X K b tb)(hc:QE X K c tc)(hm:lastMarks [op,op'] [b,c]=false:=by with_unfolding_all rfl):QT X K (.Compare a [op,op'] [b,c] pos) (wB (jd f g ta tb tc)):=by
 refine PT.imp (fx' ho rh ha hb hc hm) λσ H Qv h=>?_;obtain⟨Hs,ρ,tot,Q,sr,h,fin⟩:=h;refine mW br RL σ H _ ⟨Hs,ρ,tot,_,sr,h,λv H1 aS m x As g1 r1 f1 q1=>?_⟩;have r:=r1.rep g1.wf
 cases r with
 |bl b=>exact⟨b,rfl,fin b H1 aS g1 q1⟩
 |_=>exact q1.elim
def Ux(t u:WT):WT:=λρ Q=>t ρ λc=>if c=true then u ρ Q else Q false
def v3(t u:WT):WT:=λρ Q=>t ρ λc=>if c=true then Q true else u ρ Q
def uj(t:WT):WT:=λρ Q=>t ρ λc=>Q (!c)
variable {tA tB:WT}{rest:List Expr}
def mZ{t u:WT}{f:Bool->TT}{σ:St}{H:Hp}{Qv:Bool->Hp->Prop}{G:Bool->(Bool->Prop)->Env->Prop}(h:CD K (λρ Q=>t ρ λc=>G c Q ρ) σ H Qv)(i:∀ c H1 aS ρ tot Q,dz K aS ρ σ H1 tot->G c Q ρ->(∀ b H' aw,fv aS H1 aw H'->Q b->Qv b H')->f c σ H1 Qv):CD K t σ H λc H1=>f c σ H1 Qv:=by
 obtain⟨Hs,ρ,tot,Q,sr,h,fin⟩:=h;exact⟨Hs,ρ,tot,_,sr,h,λc H1 aS g1 q1=>i c H1 aS ρ tot Q (sr.grow g1) q1 λb H' aw g2=>fin b H' aw (g1.trans g2)⟩
def wX(ha:QT X K a tA):QW X K (.BoolOp .And [a] pos) tA:=pw_and1 ha
def dY(ha:QT X K a tA):QW X K (.BoolOp .Or [a] pos) tA:=pw_or1 ha
def BL(ha:QT X K a tA)(hb:QW X K (.BoolOp .And (b :: rest) pos) tB):QW X K (.BoolOp .And (a :: b :: rest) pos) (Ux tA tB):=by
 refine PW.imp (pw_and ha hb) λσ H Qv h=>?_;refine mZ (u:=tB) (f:=λc σ H1 Q=>if c=true then CD K tB σ H1 Q else Q false H1) h λc H1 aS ρ tot Q sr q fin=>?_
 cases c with
 |true=>exact⟨aS,ρ,tot,Q,sr,q,fin⟩
 |false=>exact fin false H1 aS (fv.refl sr.wf) q
def iY(ha:QT X K a tA)(hb:QW X K (.BoolOp .Or (b :: rest) pos) tB):QW X K (.BoolOp .Or (a :: b :: rest) pos) (v3 tA tB):=by
 refine PW.imp (pw_or ha hb) λσ H Qv h=>?_;refine mZ (u:=tB) (f:=λc σ H1 Q=>if c=true then Q true H1 else CD K tB σ H1 Q) h λc H1 aS ρ tot Q sr q fin=>?_
 cases c with
 |true=>exact fin true H1 aS (fv.refl sr.wf) q
 |false=>exact⟨aS,ρ,tot,Q,sr,q,fin⟩
def xv(h:QW X K a tA):QT X K a tA:=h _
def cT(ha:QT X K a tA):QT X K (.UnaryOp .Not a pos) (uj tA):=by exact PT.imp (ei' ha) λσ H Qv h=>mZ (u:=tA) (f:=λc σ H1 Q=>Q (!c) H1) h λc H1 aS ρ tot Q sr q fin=>fin _ H1 aS (fv.refl sr.wf) q
def jo(ta tb:WE):WE:=λρ Q=>ta ρ λ_ x=>match x with
 |.bl c=>if c=true then tb ρ Q else Q .sh (.bl false)
 |_=>False
def Uy(ta tb:WE):WE:=λρ Q=>ta ρ λ_ x=>match x with
 |.bl c=>if c=true then Q .sh (.bl true) else tb ρ Q
 |_=>False
def Al(ta:WE):WE:=λρ Q=>ta ρ λ_ x=>match x with
 |.bl c=>Q .sh (.bl (!c))
 |_=>False
def pY{op}(h:QE X K a ta):QE X K (.BoolOp op [a] pos) ta:=em' h
def oZ(ha:QE X K a ta)(hb:QE X K (.BoolOp .And (b :: rest) pos) tb):QE X K (.BoolOp .And (a :: b :: rest) pos) (jo ta tb):=by
 refine PE.imp (en' ha hb) λσ H Qv hx=>ic hx λHs ρ tot Q sr h fin=>?_;refine⟨Hs,ρ,tot,_,sr,h,λv H1 aS m x As g1 r1 f1 q1=>?_⟩;have r:=r1.rep g1.wf
 cases r with
 |bl c =>
  refine⟨c,rfl,?_⟩
  cases c with
  |true=>exact⟨aS,ρ,tot,Q,sr.grow g1,q1,Fin.after fin g1⟩
  |false=>exact Fin.sh (Fin.after fin g1) g1.wf (.bl false) q1
 |_=>exact q1.elim
def ju'(ha:QE X K a ta)(hb:QE X K (.BoolOp .Or (b :: rest) pos) tb):QE X K (.BoolOp .Or (a :: b :: rest) pos) (Uy ta tb):=by
 refine PE.imp (eo' ha hb) λσ H Qv hx=>ic hx λHs ρ tot Q sr h fin=>?_;refine⟨Hs,ρ,tot,_,sr,h,λv H1 aS m x As g1 r1 f1 q1=>?_⟩;have r:=r1.rep g1.wf
 cases r with
 |bl c =>
  refine⟨c,rfl,?_⟩
  cases c with
  |true=>exact Fin.sh (Fin.after fin g1) g1.wf (.bl true) q1
  |false=>exact⟨aS,ρ,tot,Q,sr.grow g1,q1,Fin.after fin g1⟩
 |_=>exact q1.elim
def Lp(ha:QE X K a ta):QE X K (.UnaryOp .Not a pos) (Al ta):=by
 refine PE.imp (eq' ha) λσ H Qv hx=>ic hx λHs ρ tot Q sr h fin=>?_;refine⟨Hs,ρ,tot,_,sr,h,λv H1 aS m x As g1 r1 f1 q1=>?_⟩;have r:=r1.rep g1.wf
 cases r with
 |bl c=>exact⟨c,rfl,Fin.sh (Fin.after fin g1) g1.wf (.bl _) q1⟩
 |_=>exact q1.elim
def jv':D->Option Bool
 |.non=>some false
 |.bl b=>some b
 |.int i=>some (i != 0)
 |.str x=>some ((x.length:Int) != 0)
 |.list xs=>some !xs.isEmpty
 |.tup xs=>some !xs.isEmpty
 |.dK ae=>none
 |.dT ae=>none
end
def fz:W2:=λm x n y Q=>match x,y with
 |.int i,.int j=>Q .sh (.int (i+j))
 |.str i,.str j=>i.length+j.length<=bI/\Q .sh (.str (i++j))
 |.list xs,.list ys=>xs.length+ys.length<=bI/\((dv xs=true/\dv ys=true/\Q (.ow true) (.list (xs++ys)))\/(m=.sh/\n=.sh/\Q (.ow false) (.list (xs++ys))))
 |.tup xs,.tup ys=>xs≠[]/\xs.length+ys.length<=bI/\dv xs=true/\dv ys=true/\Q .sh (.tup (xs++ys))
 |_,_=>False
def Oy(P:Int->Int->(Md->D->Prop)->Prop):W2:=λ_ x _ y Q=>match x,y with
 |.int i,.int j=>P i j Q
 |_,_=>False
def WX(P:Int->Int->(Md->D->Prop)->Prop)(S:Str->Str->(Md->D->Prop)->Prop):W2:=λ_ x _ y Q=>match x,y with
 |.int i,.int j=>P i j Q
 |.str i,.str j=>S i j Q
 |_,_=>False
def OB:W2:=Oy λi j Q=>Q .sh (.int (i-j))
def FP:W2:=Oy λi j Q=>MS i j/\Q .sh (.int (i*j))
def AB:W2:=Oy λi j Q=>(0<j/\j<1073741824)/\Q .sh (.int (i / j))
def mP:W2:=Oy λi j Q=>0<j/\Q .sh (.int (i % j))
def CF:W2:=WX (λi j Q=>Q .sh (.bl (decide (i<j)))) λi j Q=>Q .sh (.bl (sQ i j))
def AF:W2:=WX (λi j Q=>Q .sh (.bl (decide (i<=j)))) λi j Q=>Q .sh (.bl (!sQ j i))
def OG:W2:=Oy λi j Q=>Q .sh (.bl (decide (j<i)))
def fA:W2:=λ_ x _ y Q=>match x,y with
 |.int i,.int j=>Q .sh (.bl (decide (i=j)))
 |.str i,.str j=>Q .sh (.bl (decide (i=j)))
 |.bl i,.bl j=>Q .sh (.bl (decide (i=j)))
 |_,_=>eB 12 x=true/\eB 12 y=true/\Q .sh (.bl (k9 x y))
def EE:W2:=λ_ x _ y Q=>match x,y with
 |.int i,.int j=>Q .sh (.bl (!decide (i=j)))
 |.str i,.str j=>Q .sh (.bl (!decide (i=j)))
 |.bl i,.bl j=>Q .sh (.bl (!decide (i=j)))
 |_,_=>eB 12 x=true/\eB 12 y=true/\Q .sh (.bl (!k9 x y))
def D.Uz:D->Bool
 |.non=>true
 |_=>false
def WY:W2:=λ_ x _ y Q=>match y with
 |.non=>Q .sh (.bl x.Uz)
 |_=>False
def fY:D->Bool
 |.non=>true
 |.bl _=>true
 |.int _=>true
 |.str _=>true
 |_=>false
def inD(x:D)(ys:List D):Bool:=ys.any λy=>k9 y x
def yB(neg:Bool):W2:=λ_ x _ y Q=>match y with
 |.str j=>match x with
  |.str i=>Q .sh (.bl (if neg then !Cb i j else Cb i j))
  |_=>False
 |.list ys=>fY x=true/\ys.all fY=true/\Q .sh (.bl (if neg then !inD x ys else inD x ys))
 |.tup ys=>fY x=true/\ys.all fY=true/\Q .sh (.bl (if neg then !inD x ys else inD x ys))
 |.dK ae=>∃ k,x.key1=some k/\Q .sh (.bl (if neg then !(mM ae k).isSome else (mM ae k).isSome))
 |.dT ae=>match x with
  |.tup xs=>∃ ks,fX xs=some ks/\Q .sh (.bl (if neg then !(mM ae ks).isSome else (mM ae ks).isSome))
  |_=>False
 |_=>False
section
variable {K:ax}
def yI(f:Fin K Hs H Qd Qv)(w:Wf Hs H)(h:x.length<=bI)(q:Qd .sh (.str x)):Qv (.str x) H:=f.sh w (.str h) q
def aK(i j:Str):(i++j).length=i.length+j.length:=by show(i.cps++j.cps).size=_;simp[Str.length]
def Hy:lh K (λx y H Q=>Aq K x y H Q\/V5 K x y H Q) fz:=by
 intro Hs H m x v As n y u Bs Qd Qv w rx ry h f;have r1:=rx.rep w;have r2:=ry.rep w
 cases r1 with
 |int i=>cases r2 with
  |int j=>exact .inl (f.sh w (.int _) h)
  |_=>exact h.elim
 |str hi=>cases r2 with
  |str hj=>exact .inl ⟨h.1,yI f w (by rw[aK];exact h.1) h.2⟩
  |_=>exact h.elim
 |list z1 s1 q1=>cases r2 with
  |list z2 s2 q2 =>
   have l1:=q1.length;have l2:=q2.length;have hz:=h.1;rcases h.2 with⟨f1,f2,q⟩|⟨rfl,rfl,q⟩
   ·exact .inl ⟨_,_,s1,s2,by lia,f.lst w (by rw[hJ];exact hz) (q1.append q2) (by rw[eE,f1,f2];rfl) q⟩
   ·obtain⟨_,rx⟩:=rx;obtain⟨_,ry⟩:=ry
    cases rx with
    |list z1' s1' OL=>cases ry with
     |list z2' s2' q2' =>have l1:=OL.length;have l2:=q2'.length;exact .inl ⟨_,_,bq.seq w.sub s1',bq.seq w.sub s2',by lia,f.Uw w (by rw[hJ];exact hz) (OL.append q2') q⟩
  |_=>exact h.elim
 |tup t1 s1 q1=>cases r2 with
  |tup t2 s2 q2 =>
   have l1:=q1.length;have l2:=q2.length;obtain⟨mE,hz,f1,f2,q⟩:=h;refine .inr ⟨_,_,_,_,rfl,rfl,.inl (.inl s1),.inl (.inl s2),?_,by lia,?_⟩
   ·intro e;subst e;exact mE (Sz.mp l1)
   ·refine⟨λe=>?_,λ_=>f.tup w (by rw[hJ];exact hz) (q1.append q2) (by rw[eE,f1,f2];rfl) q⟩;subst e;cases q2;rw[kE] at q;exact f.flat w (.tup t1 s1 q1) (by simpa[D.flat] using f1) q
  |_=>exact h.elim
 |_=>exact h.elim
def BV{H:Hp}{x y:D}{v u:V}{m n:Md}{P:Int->Int->(Md->D->Prop)->Prop}{S:Str->Str->(Md->D->Prop)->Prop}{Q:Md->D->Prop}{G:Prop}(r1:Rep K H x v)(r2:Rep K H y u)(h:WX P S m x n y Q)(k:∀ i j,v=.int i->u=.int j->P i j Q->G)(ks:∀ i j,v=.str i->u=.str j->S i j Q->G):G:=by
 cases r1 with
 |int i=>cases r2 with
  |int j=>exact k i j rfl rfl h
  |_=>exact h.elim
 |str hi=>cases r2 with
  |str hj=>exact ks _ _ rfl rfl h
  |_=>exact h.elim
 |_=>exact h.elim
def j5{H:Hp}{x y:D}{v u:V}{m n:Md}{P:Int->Int->(Md->D->Prop)->Prop}{Q:Md->D->Prop}{G:Prop}(r1:Rep K H x v)(r2:Rep K H y u)(h:Oy P m x n y Q)(k:∀ i j,v=.int i->u=.int j->P i j Q->G):G:=by
 cases r1 with
 |int i=>cases r2 with
  |int j=>exact k i j rfl rfl h
  |_=>exact h.elim
 |_=>exact h.elim
def Jp:lh K CG OB:=by
 intro Hs H m x v As n y u Bs Qd Qv w rx ry h f;exact j5 (rx.rep w) (ry.rep w) h λi j e1 e2 q=>by subst e1 e2;exact f.sh w (.int _) q
def Hk:lh K E_ FP:=by
 intro Hs H m x v As n y u Bs Qd Qv w rx ry h f;exact j5 (rx.rep w) (ry.rep w) h λi j e1 e2 q=>by subst e1 e2;exact⟨q.1,f.sh w (.int _) q.2⟩
def Jd:lh K Eo AB:=by
 intro Hs H m x v As n y u Bs Qd Qv w rx ry h f;exact j5 (rx.rep w) (ry.rep w) h λi j e1 e2 q=>by subst e1 e2;exact⟨q.1,f.sh w (.int _) q.2⟩
def HQ:lh K Fd mP:=by
 intro Hs H m x v As n y u Bs Qd Qv w rx ry h f;exact j5 (rx.rep w) (ry.rep w) h λi j e1 e2 q=>by subst e1 e2;exact⟨q.1,f.sh w (.int _) q.2⟩
def zO:lh K Wr OG:=by
 intro Hs H m x v As n y u Bs Qd Qv w rx ry h f;exact j5 (rx.rep w) (ry.rep w) h λi j e1 e2 q=>by subst e1 e2;exact f.sh w (.bl _) q
def rM:lh K Wo CF:=by
 intro Hs H m x v As n y u Bs Qd Qv w rx ry h f;exact BV (rx.rep w) (ry.rep w) h (λi j e1 e2 q=>by
  subst e1 e2;exact f.sh w (.bl _) q) λi j e1 e2 q=>by
  subst e1 e2;exact f.sh w (.bl _) q
def nR:lh K Wq AF:=by
 intro Hs H m x v As n y u Bs Qd Qv w rx ry h f;exact BV (rx.rep w) (ry.rep w) h (λi j e1 e2 q=>by
  subst e1 e2;exact f.sh w (.bl _) q) λi j e1 e2 q=>by
  subst e1 e2;exact f.sh w (.bl _) q
def eq_data(w:Wf Hs H)(rx:Rep K H x v)(ry:Rep K H y u)(f:Fin K Hs H Qd Qv)(h:eB 12 x=true/\eB 12 y=true/\Qd .sh (.bl (k9 x y))):Wt K v u H Qv:=by obtain⟨h1,h2,q⟩:=h;have l1:=jk 12 x h1;have l2:=jk 12 y h2;exact⟨x.py,y.py,rx.l2 h1,ry.l2 h2,l1.1,l2.1,by lia,f.sh w (.bl _) q⟩
def ne_data(w:Wf Hs H)(rx:Rep K H x v)(ry:Rep K H y u)(f:Fin K Hs H Qd Qv)(h:eB 12 x=true/\eB 12 y=true/\Qd .sh (.bl (!k9 x y))):Wu K v u H Qv:=by obtain⟨h1,h2,q⟩:=h;have l1:=jk 12 x h1;have l2:=jk 12 y h2;exact⟨x.py,y.py,rx.l2 h1,ry.l2 h2,l1.1,l2.1,by lia,f.sh w (.bl _) q⟩
def aZ:lh K (Ug K) fA:=by
 intro Hs H m x v As n y u Bs Qd Qv w rx ry h f;have r1:=rx.rep w;have r2:=ry.rep w;have d:=λh=>eq_data w r1 r2 f h
 cases r1 with
 |int i=>cases r2 with
  |int j=>exact f.sh w (.bl _) h
  |_=>exact d h
 |str i=>cases r2 with
  |str j=>exact f.sh w (.bl _) h
  |_=>exact d h
 |bl i=>cases r2 with
  |bl j=>exact f.sh w (.bl _) h
  |_=>exact d h
 |_=>exact d h
def Ji:lh K (Uh K) EE:=by
 intro Hs H m x v As n y u Bs Qd Qv w rx ry h f;have r1:=rx.rep w;have r2:=ry.rep w;have d:=λh=>ne_data w r1 r2 f h
 cases r1 with
 |int i=>cases r2 with
  |int j=>exact f.sh w (.bl _) h
  |_=>exact d h
 |str i=>cases r2 with
  |str j=>exact f.sh w (.bl _) h
  |_=>exact d h
 |bl i=>cases r2 with
  |bl j=>exact f.sh w (.bl _) h
  |_=>exact d h
 |_=>exact d h
def Dk(r:Rep K H x v):decide (v=V.non)=x.Uz:=by cases r<;>first|rfl|exact decide_eq_false (λz=>nomatch z)
def Iw:lh K (λx y H Q=>y=.non/\Q (.bl (decide (x=.non))) H) WY:=by
 intro Hs H m x v As n y u Bs Qd Qv w rx ry h f;have r1:=rx.rep w;have r2:=ry.rep w;have e:=Dk r1
 cases r2 with
 |non=>exact⟨rfl,by rw[e];exact f.sh w (.bl _) h⟩
 |_=>exact h.elim
def j4(r:Rep K H x v)(h:fY x=true):B9 v=true:=by cases r<;>first|rfl|(simp[fY] at h)
def Gj(r:Rep K H x v)(s:Rep K H y u)(h:fY x=true)(g:fY y=true):D5 v u=k9 x y:=by cases r<;>simp[fY] at h<;>cases s<;>simp[fY] at g<;>rfl
def HW(r:Rep K H x v)(h:fY x=true)(rs:bP K H ys us)(g:ys.all fY=true):us.all B9=true/\TX v us=inD x ys:=by
 induction ys generalizing us with
 |nil=>rw[rs.n0];exact⟨rfl,rfl⟩
 |cons y ys ih =>
  obtain⟨u,us,rfl,s,ss⟩:=rs.c;simp only[DM,kM] at g;obtain⟨e1,e2⟩:=ih ss g.2;refine⟨by simp only[DM,j4 s g.1,e1,Bool.and_self],?_⟩;unfold TX inD at *
  rw[DS,DS,e2,Gj s r g.1 h]
def pO{κ:Type}[DecidableEq κ]{H:Hp}{k:κ}{ae:List (κ × D)}{vs:List V}(r:bP K H (ae.map (·.2)) vs):(k8 ((ae.map (·.1)).zip vs) k).isSome=(mM ae k).isSome:=by
 have:=zip_get (k:=k) r;split at this
 ·rename_i e;obtain⟨v,e1,_⟩:=this;rw[e1,e];rfl
 ·rename_i e;rw[this,e];rfl
def rH:lh K (Kx K neg) (yB neg):=by
 intro Hs H m x v As n y u Bs Qd Qv w rx ry h f;have r1:=rx.rep w;have r2:=ry.rep w
 cases r2 with
 |str j=>cases r1 with
  |str i=>exact f.sh w (.bl _) h
  |_=>exact h.elim
 |list z s q =>
  obtain⟨h1,h2,h3⟩:=h;obtain⟨e1,e2⟩:=HW r1 h1 q h2;have h4:=j4 r1 h1;have g:Rn K neg v (.ref _) H Qv:=⟨_,_,rfl,.inl s,h4,e1,by rw[e2];exact f.sh w (.bl _) h3⟩
  cases r1<;>exact .inr g
 |tup _ s q =>
  obtain⟨h1,h2,h3⟩:=h;obtain⟨e1,e2⟩:=HW r1 h1 q h2;have h4:=j4 r1 h1;have g:Rn K neg v (.ref _) H Qv:=⟨_,_,rfl,.inr (.inl (.inl s)),h4,e1,by rw[e2];exact f.sh w (.bl _) h3⟩
  cases r1<;>exact .inr g
 |dK kk e q =>obtain⟨k,hk,h3⟩:=h;have ev:=r1.key hk;subst ev;have eg:=pO (k:=k) q;cases k<;>exact .inl ⟨_,rz.k' e,by rw[eg];exact f.sh w (.bl _) h3⟩
 |dT kk e q =>
  cases r1 with
  |tup t1 e1 q1 =>obtain⟨ks,hk,h3⟩:=h;obtain⟨b,eb,e2⟩:=Rep.N3 (.tup t1 e1 q1) hk;cases eb;have eg:=pO (k:=ks) q;exact .inl ⟨_,rz.t' e e2,by rw[eg];exact f.sh w (.bl _) h3⟩
  |_=>exact h.elim
 |_=>exact h.elim
end
section
variable {X:Cx}{K:ax}{a b:Expr}{ta tb:WE}{pos:Pos}
def Lf(hK:autoParam (X.K=K) bv):dS X (oj .Add) (λx y H Q=>Aq K x y H Q\/V5 K x y H Q):=by subst hK;exact Dy.or gm'
def aU(ha:QE X K a ta)(hb:QE X K b tb)(hK:autoParam (X.K=K) bv):QE X K (.BinOp a .Add b pos) (ay fz ta tb):=KW (Lf hK) Hy ha hb
def Ef(ha:QE X K a ta)(hb:QE X K b tb):QE X K (.BinOp a .Sub b pos) (ay OB ta tb):=KW CT Jp ha hb
def yp(ha:QE X K a ta)(hb:QE X K b tb):QE X K (.BinOp a .Mult b pos) (ay FP ta tb):=KW Eg Hk ha hb
def oW(ha:QE X K a ta)(hb:QE X K b tb):QE X K (.BinOp a .FloorDiv b pos) (ay AB ta tb):=KW FJ Jd ha hb
def c7(ha:QE X K a ta)(hb:QE X K b tb):QE X K (.BinOp a .Mod b pos) (ay mP ta tb):=KW Gs HQ ha hb
def CH:W1:=λ_ x Q=>match x with
 |.int i=>Q .sh (.int (-i))
 |_=>False
def Hu:Br1 K (rU λi=>.int (-i)) CH:=by
 intro Hs H m x v As Qd Qv w rx h f;have r1:=rx.rep w
 cases r1 with
 |int i=>exact⟨i,rfl,f.sh w (.int _) h⟩
 |_=>exact h.elim
def qF(ha:QE X K a ta):QE X K (.UnaryOp .USub a pos) (eT CH ta):=jr' fg' Hu ha
end
def de:WA:=λ_ Q=>Q []
def aq(te:WE)(t:WA):WA:=λρ Q=>te ρ λm x=>t ρ λps=>Q ((m,x) :: ps)
def AG:Md × D->Bool
 | (.sh,_)=>true
 | (_,d)=>d.flat
def OO:Md × D->Bool
 | (.bo,d)=>d.flat
 | (.fr,d)=>d.flat
 | (.wl ..,d)=>d.flat
 |_=>true
def RN:Md × D->Bool
 | (.ow true,_)=>true
 | (_,d)=>d.flat
def CZ(ps:List (Md × D)):Md:=bif ps.all AG then .sh else bif ps.all OO then .ow (ps.all RN) else .bo
def Ej(ps:List (Md × D)):Md:=bif ps.all OO then .ow (ps.all RN) else .bo
def qq(t:WA):WE:=λρ Q=>t ρ λps=>ps.length<=bI/\Q (CZ ps) (.tup (ps.map (·.2)))
def kT(t:WA):WE:=λρ Q=>t ρ λps=>ps.length<=bI/\Q (Ej ps) (.list (ps.map (·.2)))
section
variable {X:Cx}{K:ax}{e:Expr}{es:List Expr}{te:WE}{t:WA}{pos:Pos}{Hs H:Hp}
def au:QA X K [] de:=PA.imp k7 λσ H Qv hx=>ic hx λHs ρ tot Q sr h f=>f [] H Hs [] [] (fv.refl sr.wf) .nil bQ.nil h
def bQ.app(f1:bQ aS H As)(o:∀ a∈As,H1 a≠none)(f2:bQ aE H1 Bs)(s:bq H H1)(k:∀ a,aS a=none->H1 a≠none->aE a=none):bQ aE H (As++Bs) :=
 ⟨iN.mpr ⟨f1.1,f2.1,λa ha b hb e=>by subst e;exact o a ha (f2.2 a hb).2⟩,λa h=>by
  rcases eK.mp h with h|h
  ·exact⟨k a (f1.2 a h).1 (o a h),(f1.2 a h).2⟩
  ·exact⟨(f2.2 a h).1,s.free (f2.2 a h).2⟩⟩
def aa(ha:QE X K e te)(hr:QA X K es t)(hs:autoParam (bE (e :: es) X.env=(false,b4 e X.env) :: bE es X.env) bv):QA X K (e :: es) (aq te t):=by exact PA.imp (kf ha hr hs) λσ H Qv hx=>ic hx λHs ρ tot Q sr h f=>⟨Hs,ρ,tot,_,sr,h,λv H1 aS m x As g1 r1 f1 q1=>⟨aS,ρ,tot,_,sr.grow g1,q1,λvs H2 aE ps Bs g2 r2 f2 q2=>f (v :: vs) H2 aE _ _ (g1.trans g2) (.cons (r1.grow g2) r2) (f1.app (λa h=>(r1.own a h).ne) f2 g1.all λa h1 h2=>g2.qf h1 h2) q2⟩⟩
def yi.sh(w:Wf Hs H){ps:List (Md × D)}(r:yi K Hs H ps vs As):ps.all AG=true->bP K Hs (ps.map (·.2)) vs:=by
 induction r with
 |nil=>exact λ_=>.nil
 |@cons m d v ps vs As Bs r rs ih =>
  intro h;simp only[DM,kM] at h;refine .cons ?_ (ih h.2)
  cases m with
  |sh=>exact r.2
  |_=>exact r.flat w h.1
def yi.ow(w:Wf Hs H){ps:List (Md × D)}(r:yi K Hs H ps vs As):ps.all OO=true->(fl=true->ps.all RN=true)->∃ Bs,Bs.Sublist As/\(ps.all AG=false->Bs≠[])/\aG K Hs H fl (ps.map (·.2)) vs Bs:=by
 induction r with
 |nil=>exact λ_ _=>⟨[],DL _,(λz=>Bool.noConfusion z),.nil⟩
 |@cons m d v ps vs A1 Cs r rs ih =>
  intro h hf;simp only[DM,kM] at h hf;obtain⟨Bs,sb,ne,q⟩:=ih h.2 λz=>(hf z).2;have sk:([]++Bs).Sublist (A1++Cs):=by simpa using sb.trans (mn _ _)
  have zC:d.flat=true->AG (m,d)=true->∃ Bs,Bs.Sublist (A1++Cs)/\(((m,d) :: ps).all AG=false->Bs≠[])/\aG K Hs H fl (((m,d) :: ps).map (·.2)) (v :: vs) Bs:=λhd ho =>
   ⟨[]++Bs,sk,λz=>ne (by rw[DM,ho] at z;simpa using z),.cons (.sh (λ_=>hd) (r.flat w hd)) q⟩
  cases m with
  |sh=>exact⟨[]++Bs,sk,λz=>ne (by simpa[AG] using z),.cons (.sh (λz=>(hf z).1) r.2) q⟩
  |bo=>exact zC h.1 h.1
  |fr=>exact zC h.1 h.1
  |wl=>exact zC h.1 h.1
  |ow b =>
   cases hd:d.flat with
   |true=>exact zC hd hd
   |false =>
    refine⟨A1++Bs,sb.append_left _,λ_ z=>r.2 (PF.mp z).1,.cons ?_ q⟩
    cases fl with
    |false=>exact cS.Uv r.1
    |true =>
     have:=(hf rfl).1
     cases b with
     |true=>exact r.1
     |false=>simp[RN,hd] at this
theorem rP:∀ {ps:List (Md × D)},dv (ps.map (·.2))=true->ps.all AG=true
 |[],_=>rfl
 | (m,d) :: ps,h=>by simp only[gX,dv,kM] at h;simp only[DM,kM];exact⟨by cases m<;>simp[AG,h.1],rP h.2⟩
def fc{x1}(h:QA X K es t):QE X K (.Tuple es x1 pos) (qq t):=by
 refine PE.imp (TH h) λσ H Qv hx=>ic hx λHs ρ tot Q sr h f=>?_;refine⟨Hs,ρ,tot,_,sr,h,λvs H1 aS ps As g1 r1 f1 q1=>?_⟩;obtain⟨hz,q⟩:=q1;have rl:=(r1.reps g1.wf)
 have hl:=rl.length;rw[dr] at hl;refine⟨by lia,λp hp=>?_⟩;have g2:=N9 (vs:=vs) g1.wf hp;have fin:=Fin.after f g1;unfold CZ at q
 cases h1:ps.all AG with
 |true =>rw[h1] at q;exact fin _ _ _ .sh _ [] g2 ⟨rfl,.tup (by lia) eM ((r1.sh g1.wf h1).same g2.sh)⟩ bQ.nil q
 |false =>
  rw[h1] at q
  cases h2:ps.all OO with
  |false =>rw[h2] at q;exact fin _ _ _ .bo _ [] g2 ⟨rfl,.tup (by lia) eM (rl.same g2.all)⟩ bQ.nil q
  |true =>
   rw[h2] at q;obtain⟨Bs,sb,nz,ro⟩:=r1.ow g1.wf h2 λz=>z;have mE:dv (ps.map (·.2))=false:=by
    cases hf:dv (ps.map (·.2)) with
    |false=>rfl
    |true=>rw[rP hf] at h1;cases h1
   have own:=ro.own;exact f _ _ _ (.ow _) _ Bs (g1.trans g2) ⟨.tup (by lia) eM mE (ro.grow g2.sh g2.all),nz h1⟩ ⟨sb.nodup f1.1,λa ha=>⟨g2.qf (f1.2 a (sb.subset ha)).1 (own a ha).ne,(f1.2 a (sb.subset ha)).2⟩⟩ q
def b7(h:QA X K es t):QE X K (.List es pos) (kT t):=by
 refine PE.imp (VZ h) λσ H Qv hx=>ic hx λHs ρ tot Q sr h f=>?_;refine⟨Hs,ρ,tot,_,sr,h,λvs H1 aS ps As g1 r1 f1 q1=>?_⟩;obtain⟨hz,q⟩:=q1;have rl:=(r1.reps g1.wf)
 have hl:=rl.length;rw[dr] at hl;refine⟨by lia,λp hp=>?_⟩;have g2:=N4 (o:=.lst vs) g1.wf hp λ_ z=>nomatch z;have fin:=Fin.after f g1;unfold Ej at q
 cases h2:ps.all OO with
 |false =>rw[h2] at q;exact fin _ _ _ .bo _ [] g2 ⟨rfl,.list (by lia) (.inl (.inl eM)) (rl.same g2.all)⟩ bQ.nil q
 |true =>
  rw[h2] at q;obtain⟨Bs,sb,nz,ro⟩:=r1.ow g1.wf h2 λz=>z;have own:=ro.own;refine f _ _ _ (.ow _) _ (p :: Bs) (g1.trans g2) ⟨.list (by lia) eM (ro.grow g2.sh g2.all),by simp⟩ ⟨sv.mpr ⟨λm=>(own p m).ne hp,sb.nodup f1.1⟩,λa ha=>?_⟩ q;rcases eJ.mp ha with rfl|ha
  ·exact⟨g1.wf.sub.free hp,g1.all.free hp⟩
  ·exact⟨g2.qf (f1.2 a (sb.subset ha)).1 (own a ha).ne,(f1.2 a (sb.subset ha)).2⟩
end
def bP.fP{K:ax}(r:bP K H ds vs)(h:fP ds i=some d):∃ v,L2.fP vs i=some v/\Rep K H d v:=by
 unfold L2.fP at *
 rw[<- r.length]
 cases e:xk ds.length i with
 |none=>rw[e] at h;cases h
 |some j =>rw[e] at h;exact r.get h
def df:W2:=λm x _ y Q=>match x with
 |.list xs=>match y with
  |.int i=>∃ d,fP xs i=some d/\b6 d (f:=λd=>Q (tj m d) d) ⟨⟩
  |_=>False
 |.tup xs=>match y with
  |.int i=>∃ d,fP xs i=some d/\b6 d (f:=λd=>Q (tj m d) d) ⟨⟩
  |_=>False
 |.str z=>match y with
  |.int i=>∃ c,fP z.cps.toList i=some c/\Q .sh (.str ⟨#[c]⟩)
  |_=>False
 |.dK ae=>∃ k d,y.key1=some k/\mM ae k=some d/\b6 d (f:=λd=>Q (tj m d) d) ⟨⟩
 |.dT ae=>match y with
  |.tup ys=>∃ ks d,fX ys=some ks/\mM ae ks=some d/\b6 d (f:=λd=>Q (tj m d) d) ⟨⟩
  |_=>False
 |_=>False
def WZ(K:ax):R2:=λx y H Q=>Ud K x y H Q\/∃ a v,x=.ref a/\rz H a y (some v)/\Q v H
def yN(c:Nat):(⟨#[c]⟩:Str).length<=bI:=by show 1<=bI;decide
def RM.here{K:ax}(w:Wf Hs H)(r:RM K Hs H m d v As):(m=.sh/\Rep K Hs d v)\/(m≠.sh/\Rep K H d v):=by
 cases m with
 |sh=>exact .inl ⟨rfl,r.2⟩
 |_=>exact .inr ⟨(λz=>nomatch z),r.rep w⟩
section
variable {X:Cx}{K:ax}
def JT:lh K (WZ K) df:=by
 intro Hs H m x v As n y u Bs Qd Qv w rx ry h f;have r2:=ry.rep w;have core:∀ G:Hp,bq G H->(∀ d v,Rep K G d v->Rep K H d v/\(m=.sh->Rep K Hs d v))->Rep K G x v->WZ K v u H Qv:=by
  intro G sg up r1
  cases r1 with
  |list z s q =>
   cases r2 with
   |int i =>obtain⟨d,e,h⟩:=h;obtain⟨v',e',r'⟩:=q.fP e;obtain⟨u1,u2⟩:=up _ _ r';exact .inl (.inl ⟨_,v',bq.seq sg s,e',f.tj w u1 u2 h⟩)
   |_=>exact h.elim
  |tup _ s q =>
   cases r2 with
   |int i =>obtain⟨d,e,h⟩:=h;obtain⟨v',e',r'⟩:=q.fP e;obtain⟨u1,u2⟩:=up _ _ r';exact .inl (.inr ⟨_,v',.inl (.inl (sg _ _ s)),e',f.tj w u1 u2 h⟩)
   |_=>exact h.elim
  |str hz =>
   cases r2 with
   |int i =>obtain⟨c,e,h⟩:=h;exact .inl ⟨hz,c,e,f.sh w (.str (yN c)) h⟩
   |_=>exact h.elim
  |dK kk s q =>obtain⟨k,d,hk,hg,h⟩:=h;have ev:=r2.key hk;subst ev;have z:=zip_get (k:=k) q;rw[hg] at z;obtain⟨v',e',r'⟩:=z;obtain⟨u1,u2⟩:=up _ _ r';exact .inr ⟨_,v',rfl,by rw[<- e'];exact rz.k' (bq.rd sg s),f.tj w u1 u2 h⟩
  |dT kk s q =>
   cases r2 with
   |tup t2 e2 q2 =>obtain⟨ks,d,hk,hg,h⟩:=h;obtain⟨b,eb,e3⟩:=Rep.N3 (.tup t2 e2 q2) hk;cases eb;have z:=zip_get (k:=ks) q;rw[hg] at z;obtain⟨v',e',r'⟩:=z;obtain⟨u1,u2⟩:=up _ _ r';exact .inr ⟨_,v',rfl,by rw[<- e'];exact rz.t' (bq.rd sg s) e3,f.tj w u1 u2 h⟩
   |_=>exact h.elim
  |_=>exact h.elim
 rcases rx.here w with⟨hm,r⟩|⟨hm,r⟩
 ·exact core Hs w.sub (λd v q=>And.intro (q.same w.sub) λ_=>q) r
 ·exact core H (bq.refl H) (λd v q=>And.intro q λz=>absurd z hm) r
def ch'(hu:X.A.units+64<gV)(hK:autoParam (X.K=K) bv):x6 X (WZ K):=by subst hK;refine x6.or Cg ?_;intro value slice pins s σ H x y v u Q I rx ry h hs;obtain⟨a,w,rfl,g,q⟩:=h;cases rx;exact tail_any (gV' I g) F.slot_dict_getitem.lookup (gP' (by lia) I g ry λw' s3 I3 qa=>⟨w,H,I3,qa,q⟩) hs
variable {a b:Expr}{ta tb:WE}{pos:Pos}
def dE(ha:QE X K a ta)(hb:QE X K b tb)(hs:TR b:=by exact λ_ _=>rfl)(hK:autoParam (X.K=K) bv)(hu:X.A.units+64<gV:=by assumption):QE X K (.Subscript a b pos) (ay df ta tb):=PE.imp (V8 (ch' hu hK) ha hb hs) (oO JT)
end
def kP{α:Type}(xs:List α)(lo hi:Option Int):List α:=(xs.drop (HT.cE xs.length 0 lo)).take (HT.cE xs.length xs.length hi-HT.cE xs.length 0 lo)
abbrev WO:=Env->(Option Int->Prop)->Prop
def bw:WO:=λ_ Q=>Q none
def cO(t:WE):WO:=λρ Q=>t ρ λ_ x=>match x with
 |.int i=>Q (some i)
 |_=>False
def RP(m:Md)(x:D)(lo hi:Option Int)(Q:Md->D->Prop):Prop:=match x with
 |.str z=>Q .sh (.str (nE z lo hi))
 |.list xs=>(dv xs=true/\Q (.ow true) (.list (kP xs lo hi)))\/(m=.sh/\Q (.ow false) (.list (kP xs lo hi)))
 |.tup xs=>dv xs=true/\¬ (HT.cE xs.length 0 lo=0/\HT.cE xs.length xs.length hi=xs.length)/\Q .sh (.tup (kP xs lo hi))
 |_=>False
def sd(te:WE)(tl th:WO):WE:=λρ Q=>te ρ λm x=>tl ρ λlo=>th ρ λhi=>RP m x lo hi Q
def tpO(K:ax)(t:WO):TO:=λσ H Qv=>∃ Hs ρ tot Q,dz K Hs ρ σ H tot/\t ρ Q/\∀ o H' aw,fv Hs H aw H'->Q o->Qv o H'
abbrev QO(X:Cx)(K:ax)(e:Option Expr)(t:WO):Prop:=PO X e (tpO K t)
def Bl(z:Str)(lo hi:Option Int):(nE z lo hi).length<=z.length:=by unfold nE Str.length;simp only[jS,mw,BI,zv];lia
def jE{α:Type}(xs:List α)(lo hi:Option Int):(kP xs lo hi).length<=xs.length:=by unfold kP;rw[mw,BI];lia
def qp{lo hi:Option Int}(h:dv xs=true):dv (kP xs lo hi)=true:=by
 rw[gU] at *
 intro x hx;exact h x (SJ (L8 hx))
section
variable {X:Cx}{K:ax}{e:Expr}{lo hi:Option Expr}{te:WE}{tl th:WO}{pos p2:Pos}
def bC:QO X K none bw:=λpins s σ H Q I h=>gh' pins s σ H Q I (by
 obtain⟨Hs,ρ,tot,Qd,sr,h,f⟩:=h;exact f none H Hs (fv.refl sr.wf) h)
def bh(h:QE X K e te):QO X K (some e) (cO te):=λpins s σ H Q I hh=>gi' h pins s σ H Q I (by
 obtain⟨Hs,ρ,tot,Qd,sr,h,f⟩:=hh;refine⟨Hs,ρ,tot,_,sr,h,λv H1 aS m x As g1 r1 f1 q1=>?_⟩;have r:=r1.rep g1.wf
 cases r with
 |int i=>exact⟨i,rfl,f _ H1 aS g1 q1⟩
 |_=>exact q1.elim)
def lq{lo hi:Option Int}(r:bP K H ds vs):bP K H (kP ds lo hi) (I0 vs lo hi):=by unfold kP I0;rw[r.length];exact(r.drop _).take _
def jz'(hK:autoParam (X.K=K) bv):MY X (λx lo hi H Q=>Ws K x lo hi H Q\/aO' K x lo hi H Q):=by
 subst hK;intro pins s σ H x v vl vu lo hi sl Q I rx hs pl pu h;rcases h with h|h
 ·exact Hc pins s σ H x v vl vu lo hi sl Q I rx hs pl pu h
 ·exact gl' pins s σ H x v vl vu lo hi sl Q I rx hs pl pu h
def bB(he:QE X K e te)(hl:QO X K lo tl)(hh:QO X K hi th)(hK:autoParam (X.K=K) bv):QE X K (.Subscript e (.Slice lo hi none p2) pos) (sd te tl th):=by
 refine PE.imp (gk' (jz' hK) he hl hh) λσ H Qv hx=>ic hx λHs ρ tot Q sr h f=>?_;refine⟨Hs,ρ,tot,_,sr,h,λv H1 aS m x As g1 r1 f1 q1=>⟨aS,ρ,tot,_,sr.grow g1,q1,λl H2 aE g2 q2=>⟨aE,ρ,tot,_,(sr.grow g1).grow g2,q2,λu H3 hV g3 q3=>?_⟩⟩⟩;have r3:=(r1.grow g2).grow g3;have fin:Fin K hV H3 Q Qv:=Fin.after f ((g1.trans g2).trans g3);have rr:=r3.rep g3.wf
 cases rr with
 |str hz=>exact .inl ⟨hz,fin.sh g3.wf (.str (iO (Bl _ _ _) hz)) q3⟩
 |list z s q =>
  have hz:=q.length;rcases q3 with⟨hf,q3⟩|⟨rfl,q3⟩
  ·exact .inl ⟨_,s,fin.lst g3.wf (iO (jE _ _ _) (by lia)) (lq q) (qp hf) q3⟩
  ·obtain⟨_,r3⟩:=r3
   cases r3 with
   |list z' s' q' =>exact .inl ⟨_,bq.seq g3.wf.sub s',fin.Uw g3.wf (iO (jE _ _ _) (by lia)) (lq q') q3⟩
 |tup z s q =>have hz:=q.length;obtain⟨hf,hn,q3⟩:=q3;exact .inr ⟨_,_,rfl,.inl (.inl s),by rw[<- hz];exact hn,fin.tup g3.wf (iO (jE _ _ _) (by lia)) (lq q) (qp hf) q3⟩
 |_=>exact q3.elim
end
def ky:W1:=λ_ x Q=>match x with
 |.str z=>Q .sh (.int z.length)
 |.list xs=>Q .sh (.int xs.length)
 |.tup xs=>Q .sh (.int xs.length)
 |.dK ae=>Q .sh (.int ae.length)
 |.dT ae=>Q .sh (.int ae.length)
 |_=>False
def A3(T:String):W1:=λ_ x Q=>Q .sh (.bl (Nw x.ty T))
def FR(K:ax)(r:List V->Hp->VK->Prop)(f:W1):Prop:=∀ Hs H m x v As Qd Qv,Wf Hs H->RM K Hs H m x v As->f m x Qd->Fin K Hs H Qd Qv->r [v] H Qv
section
variable {X:Cx}{K:ax}{e:Expr}{te:WE}{pos p:Pos}{x:Str}{id T:String}
def mH(br:FR K r f)(σ:St)(H:Hp)(Qv:VK)(h:ui K (eT f te) σ H Qv):TJ r (TF (ui K te) MX) σ H Qv:=by obtain⟨Hs,ρ,tot,Q,sr,h,fin⟩:=h;exact⟨Hs,ρ,tot,_,sr,h,λv H1 aS m x As g1 r1 f1 q1=>br aS H1 m x v As Q Qv g1.wf r1 q1 (Fin.after fin g1)⟩
def aL(hc:nv X (.builtin id) r)(br:FR K r f)(hm:X.mg x=none)(hv:og x=some (.builtin id))(he:QE X K e te)(hs:autoParam (bE [e] X.env=(false,b4 e X.env) :: bE [] X.env) bv) (hn:x ≠ "__name__" := by decide) (jv:(x == ("__debug__" : Str))=false:=by decide) (hg:autoParam (Gl X x) bv):QE X K (.Call (.Name x p) [e] [] pos) (eT f te) :=
 PE.imp (Rj hc hg hm hv (kf he k7 hs) hn jv hs) (mH br)
def sZ(hc:nv X (.type T) r)(br:FR K r f)(hm:X.mg x=none)(hv:og x=some (.type T))(he:QE X K e te)(hs:autoParam (bE [e] X.env=(false,b4 e X.env) :: bE [] X.env) bv) (hn:x ≠ "__name__" := by decide) (jv:(x == ("__debug__" : Str))=false:=by decide) (hg:autoParam (Gl X x) bv):QE X K (.Call (.Name x p) [e] [] pos) (eT f te) :=
 PE.imp (fV' hc hg hm hv (kf he k7 hs) hn jv hs) (mH br)
def GK(hd:(d == wx)=false)(x:xt s.heap d es ep)(pu':(es.size:Int)<2 ^ 63)(h:∀ t t',Q (.int es.size t) { s with toks:=t' }):b5 (aT prog w) A (call (.builtin "len") [.ref d]) Q E s:=by
 refine Calls.call_function_entry kind_len plain_len entry_len (args_len1 _) ?_;have mt:MeetsIn prog w (Builtin.«dict.__len__» ⟨[.ref d],[]⟩) (λ_ R s=>xt s.heap d es ep/\R (.ok (.ret (.int es.size s.toks))) { s with toks:=s.toks+1 }):=.of_wp λA R s dP=>by obtain⟨hm,h⟩:=dP;obtain⟨o,ho,hc,Ul⟩:=hm;show b5 _ _ (dictSize d >>= _) _ _ s;refine bS (bS (wpAny_dictEntries ho Ul (dk ?_)));refine bS (wpAny_pendingCount_other hd ?_);refine wpAny_ret_mkInt ?_;rw[S0];exact h
 refine bS (dk ?_);refine bS (Sv x.typ F.slot_dict_len (call_meetsIn F.slot_dict_len x.typ F.entry_dict_len (F.args_dict_len_1 _) mt ⟨x,?_⟩))
 refine bS (wpAny_holding (dk ?_));refine bS (wpAny_letGo ?_);rw[if_neg (by lia)];rw[if_neg (by lia)];exact bS (wpAny_mkInt (dk ⟨_,rfl,h _ _⟩))
def aA (hK:autoParam (X.K=K) bv):nv X (.builtin "len") (λxs H Q=>Uc K xs H Q\/∃ a ae,xs=[.ref a]/\Rd H a (.dT ae)/\Q (.int ae.length) H):=by
 subst hK;intro pins s σ H xs us Q I r h;rcases h with h|⟨a,ae,rfl,ha,q⟩
 ·exact xT pins s σ H xs us Q I r h
 ·obtain⟨u,rfl,ru⟩:=Vals.one r;cases ru;obtain⟨z,hd,ys,rel,o,es,ep,h1,h2,h3,h4,h5⟩:=(I.rd ha)
  have hl:es.size=ae.length:=by have:=congrArg List.length h4;rw[zv,dr] at this;rw[this];exact rel.length.symm
  exact GK hd ⟨o,h1,h2,h3⟩ (by rw[oi] at z;lia) λt t'=>⟨.int ae.length,H,I.tok _,⟨t,by rw[hl]⟩,q⟩
def bj:FR K (λxs H Q=>Uc K xs H Q\/∃ a ae,xs=[.ref a]/\Rd H a (.dT ae)/\Q (.int ae.length) H) ky:=by
 intro Hs H m x v As Qd Qv w rx h f;have r1:=rx.rep w
 cases r1 with
 |str hz=>exact .inl ⟨hz,f.sh w (.int _) h⟩
 |list z s q=>exact .inl (.inl ⟨_,s,by rw[<- q.length];exact f.sh w (.int _) h⟩)
 |tup _ s q=>exact .inl (.inr (.inl ⟨_,.inl (.inl s),by rw[<- q.length];exact f.sh w (.int _) h⟩))
 |dK kk s q=>exact .inl (.inr (.inr ⟨_,s,by
   have:=q.length;rw[dr] at this;rw[SV,dr,<- this,S4];exact f.sh w (.int _) h⟩))
 |dT kk s q=>exact .inr ⟨_,_,rfl,s,by
   have:=q.length;rw[dr] at this;rw[SV,dr,<- this,S4];exact f.sh w (.int _) h⟩
 |_=>exact h.elim
end
section
variable {X:Cx}{K:ax}{e e2:Expr}{te:WE}{pos p:Pos}{T:String}
def wF (hK:autoParam (X.K=K) bv):nv X (.builtin "isinstance") (λxs H Q=>∃ x d T,xs=[x,.ty T]/\Rep K H d x/\Wn T=true/\Q (.bl (Nw d.ty T)) H):=by
 subst hK;intro pins s σ H xs us Q I r h;obtain⟨x,d,T,rfl,rd,hT,q⟩:=h;obtain⟨u,v,rfl,ru,rv⟩:=Vals.two r;obtain rfl:v=Value.type T:=rv;have hb:T∈["str", "int", "bool", "list", "tuple", "dict"]:=by simpa[Wn] using hT
 have fin:∀ tk,EP X pins σ Q (.bool (Nw d.ty T)) { s with toks:=tk }:=λtk=>⟨.bl (Nw d.ty T),H,I.tok tk,rfl,q⟩
 cases rd with
 |non=>exact Rg I ru .non (je X.K _ T (by simp) hb) fin
 |bl b=>exact Rg I ru (.bl b) (je X.K _ T (by simp) hb) fin
 |int i=>exact Rg I ru (.int i) (je X.K _ T (by simp) hb) fin
 |str y=>exact Rg I ru (.str _) (je X.K _ T (by simp) hb) fin
 |list z s' q' =>cases ru;obtain⟨its,_,pl,_⟩:=I.list s';obtain⟨o,h1,h2,_⟩:=pl.isList;exact wq U_ I.iA ⟨o,h1,h2⟩ (je X.K "list" T (by simp) hb) (λz=>nomatch z) fin
 |tup _ s' q'=>exact Rg I ru (.tup s') (je X.K _ T (by simp) hb) fin
 |dK _ s' q' =>cases ru;obtain⟨_,_,vs,_,p⟩:=I.rd s';obtain⟨o,es,ep,h1,h2,_⟩:=p;exact wq Sj I.iA ⟨o,h1,h2.1⟩ (je X.K "dict" T (by simp) hb) (λz=>nomatch z) fin
 |dT _ s' q' =>cases ru;obtain⟨_,_,xs,_,o,es,ep,h1,h2,_⟩:=I.rd s';exact wq Sj I.iA ⟨o,h1,h2.1⟩ (je X.K "dict" T (by simp) hb) (λz=>nomatch z) fin
def nM (hm:X.mg "isinstance" = none) (he:QE X K e te) (ht:PE X e2 (tC (.ty T))) (hT:autoParam (Wn T=true) bv) (hg:Gl X "isinstance" := by rfl) (hK:autoParam (X.K=K) bv) (hs:autoParam (bE (e :: [e2]) X.env=(false,b4 e X.env) :: bE [e2] X.env) bv) (nS:autoParam (bE (e2 :: []) X.env=(false,b4 e2 X.env) :: bE [] X.env) bv) (i7:autoParam ((gy pos (bE [e2] X.env)).any (·.1)=false) bv) :
  QE X K (.Call (.Name "isinstance" p) [e,e2] [] pos) (eT (A3 T) te):=by
 refine PE.imp (Rj (wF hK) hg hm dI (kf he (kf ht k7 nS) hs) (by decide) (by decide) hs i7) λσ H Qv hx=>ic hx λHs ρ tot Q sr h f=>?_;refine⟨Hs,ρ,tot,_,sr,h,λv H1 aS m x As g1 r1 f1 q1=>⟨v,x,T,rfl,r1.rep g1.wf,hT,Fin.sh (Fin.after f g1) g1.wf (.bl _) q1⟩⟩
end
def mS:Key->D
 |.inl i=>.int i
 |.inr x=>.str x
def vL:W1:=λm x Q=>match x with
 |.list xs=>(dv xs=true/\Q (.ow true) (.list xs))\/(m=.sh/\Q (.ow false) (.list xs))
 |.tup xs=>(dv xs=true/\Q (.ow true) (.list xs))\/(m=.sh/\Q (.ow false) (.list xs))
 |.dT ae=>Q (.ow true) (.list (ae.map λkv=>.tup (kv.1.map mS)))
 |_=>False
section
variable {X:Cx}{K:ax}
theorem iB:∀ {ks:List Key},(∀ k∈ks,tf k=true)->bP K H (ks.map mS) (ks.map kV)
 |[],_=>.nil
 |k :: ks,h=>by
  refine .cons ?_ (iB λj m=>h j (eA _ m));have:=h k fo
  cases k with
  |inl i=>exact .int i
  |inr x=>exact .str (by simpa[tf] using this)
theorem gK:∀ (ks:List Key),dv (ks.map mS)=true
 |[]=>rfl
 |k :: ks=>by simp only[gX,dv,gK ks,Bool.and_true];cases k<;>rfl
def A_(t:lg H ys ks)(h:∀ l∈ks,l.length<=bI/\∀ k∈l,tf k=true):bP K H (ks.map λl=>.tup (l.map mS)) ys:=by
 induction ys generalizing ks with
 |nil=>rw[show ks=[] from Paired.n0 t];exact .nil
 |cons y ys ih =>obtain⟨k,ks,rfl,⟨b,rfl,e⟩,t2⟩:=Paired.c t;exact .cons (.tup (by rw[dr];exact(h _ fo).1) e (iB (h _ fo).2)) (ih t2 λl m=>h l (eA _ m))
theorem qu:∀ (ks:List (List Key)),dv (ks.map λl=>.tup (l.map mS))=true
 |[]=>rfl
 |l :: ks=>by simp only[gX,dv,qu ks,Bool.and_true,D.flat,gK]
def uW (hc:autoParam (X.calm=true) bv) (hK:autoParam (X.K=K) bv):nv X (.type "list") (λxs H Q=>(∃ p ys,xs=[.ref p]/\(eL K H p ys\/kG K H p ys)/\∀ l,H l=none->Q (.ref l) (upd H l (.lst ys)))\/t8 xs H Q):=by subst hK;exact gB'.or (vg hc)
def GC:FR K (λxs H Q=>(∃ p ys,xs=[.ref p]/\(eL K H p ys\/kG K H p ys)/\∀ l,H l=none->Q (.ref l) (upd H l (.lst ys)))\/t8 xs H Q) vL:=by
 intro Hs H m x v As Qd Qv w rx h f;have r1:=rx.rep w
 cases r1 with
 |list z s q =>
  have hl:=q.length;rcases h with⟨hf,h⟩|⟨rfl,h⟩
  ·exact .inl ⟨_,_,rfl,.inl s,f.lst w (by lia) q hf h⟩
  ·obtain⟨_,rx⟩:=rx
   cases rx with
   |list z' s' q' =>exact .inl ⟨_,_,rfl,.inl (bq.seq w.sub s'),f.Uw w (by lia) q' h⟩
 |tup z s q =>
  have hl:=q.length;rcases h with⟨hf,h⟩|⟨rfl,h⟩
  ·exact .inl ⟨_,_,rfl,.inr (.inl (.inl s)),f.lst w (by lia) q hf h⟩
  ·obtain⟨_,rx⟩:=rx
   cases rx with
   |tup z' s' q' =>exact .inl ⟨_,_,rfl,.inr (.inl (.inl (w.sub _ _ s'))),f.Uw w (by lia) q' h⟩
 |@dT _ vs ae kk s q =>
  refine .inr ⟨_,s,λys l ht hl=>?_⟩;have hlen:=q.length;rw[dr] at hlen;have e:((ae.map (·.1)).zip vs).map (·.1)=ae.map (·.1):=Vo (by rw[dr];exact P8 hlen);rw[e] at ht;have rr:=A_ (K:=K) ht (λl m=>by
   obtain⟨p,hp,rfl⟩:=iq.mp m;exact kk.2 p hp)
  have ff:=qu (ae.map (·.1));rw[om] at rr ff;exact f.lst w (by rw[dr];exact kk.1) rr ff h l hl
 |_=>exact h.elim
end
section
variable {K:ax}{Hs H:Hp}
def SR.Cd(r:Rep K Hs d v)(i:Nat)(s:SR K Hs H ρ σ tot):∃ cf,cf.Sublist tot/\SR K Hs H (ρ.set i (some (.sh d))) (σ.set i (some v)) cf:=by
 induction s generalizing i with
 |nil=>exact⟨[],DL _,.nil⟩
 |non s ih =>
  cases i with
  |zero=>exact⟨_,List.Sublist.refl _,.sh r s⟩
  |succ i=>obtain⟨t,a,b⟩:=ih i;exact⟨t,a,.non b⟩
 |sh q s ih =>
  cases i with
  |zero=>exact⟨_,List.Sublist.refl _,.sh r s⟩
  |succ i=>obtain⟨t,a,b⟩:=ih i;exact⟨t,a,.sh q b⟩
 |xc s ih =>
  cases i with
  |zero=>exact⟨_,List.Sublist.refl _,.sh r s⟩
  |succ i=>obtain⟨t,a,b⟩:=ih i;exact⟨t,a,.xc b⟩
 |ow ne q s ih =>
  cases i with
  |zero=>exact⟨_,mn _ _,.sh r s⟩
  |succ i=>obtain⟨t,a,b⟩:=ih i;exact⟨_,a.append_left _,.ow ne q b⟩
 |lk ne q s ih =>
  cases i with
  |zero=>exact⟨_,mn _ _,.sh r s⟩
  |succ i=>obtain⟨t,a,b⟩:=ih i;exact⟨_,a.append_left _,.lk ne q b⟩
 |ob q s ih =>
  cases i with
  |zero=>exact⟨_,mn _ _,.sh r s⟩
  |succ i=>obtain⟨t,a,b⟩:=ih i;exact⟨_,a.append_left _,.ob q b⟩
def d7{As tot:List ag}(nd:As.Nodup)(n:tot.Nodup)(dj:∀ a∈As,a∉tot):(As++tot).Nodup:=iN.mpr ⟨nd,n,λa ha b hb e=>dj a ha (e ▸ hb)⟩
def aQ{As tot B t:List ag}(n:(B++tot).Nodup)(dj:∀ a∈As,a∉B++tot)(a:t.Nodup)(b:∀ x∈t,x∈tot\/x∈As):(B++t).Nodup/\∀ x∈B++t,x∈B++tot\/x∈As:=by
 obtain⟨n1,n2,n3⟩:=iN.mp n;refine⟨iN.mpr ⟨n1,a,λx hx y hy e=>?_⟩,λx hx=>?_⟩
 ·subst e;rcases b x hy with z|z
  ·exact n3 x hx x z rfl
  ·exact dj x z (jI _ hx)
 ·rcases eK.mp hx with z|z
  ·exact .inl (jI _ z)
  ·exact(b x z).imp (λz=>eP _ z) λz=>z
def SR.Jt{d:D}{v:V}{fl:Bool}{As:List ag}(ne:As≠[])(r:cS K Hs H fl d v As)(nd:As.Nodup){ρ:Env}{σ:St}{tot:List ag}(i:Nat)(s:SR K Hs H ρ σ tot):tot.Nodup->(∀ a∈As,a∉tot) ->
  ∃ cf,cf.Nodup/\(∀ a∈cf,a∈tot\/a∈As)/\SR K Hs H (ρ.set i (some (.ow fl d))) (σ.set i (some v)) cf:=by
 induction s generalizing i with
 |nil=>exact λn _=>⟨[],mz,(λa h=>CC h),.nil⟩
 |non s ih =>
  intro n dj
  cases i with
  |zero=>exact⟨_,d7 nd n dj,λa h=>(eK.mp h).symm,.ow ne r s⟩
  |succ i=>obtain⟨t,a,b,c⟩:=ih i n dj;exact⟨t,a,b,.non c⟩
 |sh q s ih =>
  intro n dj
  cases i with
  |zero=>exact⟨_,d7 nd n dj,λa h=>(eK.mp h).symm,.ow ne r s⟩
  |succ i=>obtain⟨t,a,b,c⟩:=ih i n dj;exact⟨t,a,b,.sh q c⟩
 |xc s ih =>
  intro n dj
  cases i with
  |zero=>exact⟨_,d7 nd n dj,λa h=>(eK.mp h).symm,.ow ne r s⟩
  |succ i=>obtain⟨t,a,b,c⟩:=ih i n dj;exact⟨t,a,b,.xc c⟩
 |ow ne' q s ih =>
  intro n dj;obtain⟨n1,n2,n3⟩:=iN.mp n;have tm:=λa ha m=>dj a ha (eP _ m)
  cases i with
  |zero=>exact⟨_,d7 nd n2 tm,λa h=>(eK.mp h).symm.imp (λz=>eP _ z) λz=>z,.ow ne r s⟩
  |succ i=>obtain⟨t,a,b,c⟩:=ih i n2 tm;exact⟨_,(aQ n dj a b).1,(aQ n dj a b).2,.ow ne' q c⟩
 |lk ne' q s ih =>
  intro n dj;obtain⟨n1,n2,n3⟩:=iN.mp n;have tm:=λa ha m=>dj a ha (eP _ m)
  cases i with
  |zero=>exact⟨_,d7 nd n2 tm,λa h=>(eK.mp h).symm.imp (λz=>eP _ z) λz=>z,.ow ne r s⟩
  |succ i=>obtain⟨t,a,b,c⟩:=ih i n2 tm;exact⟨_,(aQ n dj a b).1,(aQ n dj a b).2,.lk ne' q c⟩
 |ob q s ih =>
  intro n dj;obtain⟨n1,n2,n3⟩:=iN.mp n;have tm:=λa ha m=>dj a ha (eP _ m)
  cases i with
  |zero=>exact⟨_,d7 nd n2 tm,λa h=>(eK.mp h).symm.imp (λz=>eP _ z) λz=>z,.ow ne r s⟩
  |succ i=>obtain⟨t,a,b,c⟩:=ih i n2 tm;exact⟨_,(aQ n dj a b).1,(aQ n dj a b).2,.ob q c⟩
def SR.Dl:∀ (i:Nat),SR K Hs H ρ σ tot->∃ cf,cf.Sublist tot/\SR K Hs H (ρ.set i none) σ cf:=by
 intro i s
 induction s generalizing i with
 |nil=>exact⟨[],DL _,.nil⟩
 |non s ih =>
  cases i with
  |zero=>exact⟨_,List.Sublist.refl _,.non s⟩
  |succ i=>obtain⟨t,a,b⟩:=ih i;exact⟨t,a,.non b⟩
 |sh q s ih =>
  cases i with
  |zero=>exact⟨_,List.Sublist.refl _,.non s⟩
  |succ i=>obtain⟨t,a,b⟩:=ih i;exact⟨t,a,.sh q b⟩
 |xc s ih =>
  cases i with
  |zero=>exact⟨_,List.Sublist.refl _,.non s⟩
  |succ i=>obtain⟨t,a,b⟩:=ih i;exact⟨t,a,.xc b⟩
 |ow ne q s ih =>
  cases i with
  |zero=>exact⟨_,mn _ _,.non s⟩
  |succ i=>obtain⟨t,a,b⟩:=ih i;exact⟨_,a.append_left _,.ow ne q b⟩
 |lk ne q s ih =>
  cases i with
  |zero=>exact⟨_,mn _ _,.non s⟩
  |succ i=>obtain⟨t,a,b⟩:=ih i;exact⟨_,a.append_left _,.lk ne q b⟩
 |ob q s ih =>
  cases i with
  |zero=>exact⟨_,mn _ _,.non s⟩
  |succ i=>obtain⟨t,a,b⟩:=ih i;exact⟨_,a.append_left _,.ob q b⟩
def asg:Md->D->Option Sl
 |.sh,d=>some (.sh d)
 |.ow fl,d=>some (.ow fl d)
 |_,d=>bif d.flat then some (.sh d) else none
def dz.set(i:Nat)(s:dz K Hs ρ σ H tot)(r:RM K Hs H m d v As)(nd:As.Nodup)(dj:∀ a∈As,Hs a=none/\a∉tot)(e:asg m d=some sl) :
  ∃ cf,dz K Hs (ρ.set i (some sl)) (σ.set i (some v)) H cf:=by
 have shc:Rep K Hs d v->∃ cf,dz K Hs (ρ.set i (some (.sh d))) (σ.set i (some v)) H cf:=λr=>by obtain⟨t,a,b⟩:=s.sr.Cd r i;exact⟨t,b,s.wf,a.nodup s.ox,λx hx=>s.own x (a.subset hx)⟩
 cases m with
 |sh=>cases e;exact shc r.2
 |ow fl =>cases e;obtain⟨t,a,b,c⟩:=SR.Jt r.2 r.1 nd i s.sr s.ox λa ha=>(dj a ha).2;exact⟨t,c,s.wf,a,λx hx=>(b x hx).elim (s.own x) λz=>(dj x z).1⟩
 |_ =>
  cases hf:d.flat with
  |true =>simp only[asg,hf,cond_true,Option.some.injEq] at e;subst e;exact shc (r.flat s.wf hf)
  |false=>simp[asg,hf] at e
end
section
variable {X:Cx}{K:ax}{e c:Expr}{te:WE}{tc:WT}{pos:Pos}{st:g9}{a b rest:List g9}{t u:WS}
def PS.imp{te yv:TS}(h:PS X st te)(i:∀ D σ H,yv D σ H->te D σ H):PS X st yv:=λpins s σ H D I q=>h pins s σ H D I (i D σ H q)
def lP.imp{te yv:TS}(h:lP X a te)(i:∀ D σ H,yv D σ H->te D σ H):lP X a yv:=λpins s σ H D I q=>h pins s σ H D I (i D σ H q)
def aV:WS:=λE ρ=>E.nx ρ
def cp(t u:WS):WS:=λE ρ=>t { E with nx:=u E } ρ
def fF(te:WE):WS:=λE ρ=>te ρ E.rt
def Er(te:WE):WS:=λE ρ=>te ρ λ_ _=>E.nx ρ
def e8(i:Nat)(te:WE):WS:=λE ρ=>te ρ λm d=>match asg m d with
 |some sl=>E.nx (ρ.set i (some sl))
 |none=>False
def e9(c:WT)(t u:WS):WS:=λE ρ=>c ρ λb=>if b=true then t E ρ else u E ρ
def uv:WS:=λ_ _=>False
def aD:qo X K L [] aV:=lP.imp VH λD σ H hx=>cV hx λHs ρ tot E sr h k1 _ _ _=>k1 σ H Hs ρ tot (bq.refl _) sr h
def zr{D:Ends}(h:yk K L (cp t u) D σ H):Rb (yk K L t) (yk K L u) D σ H:=by
 obtain⟨Hs,ρ,tot,E,sr,h,k1,k2,k3,k4,kx⟩:=h;refine⟨Hs,ρ,tot,{ E with nx:=u E },sr,h,λbX H' aw bt cf s W0 q=>?_,k2,k3,k4,kx⟩;exact⟨aw,bt,cf,E,W0,q,λkN H2 aE fe eW s2=>k1 kN H2 aE fe eW (s.trans s2),λkN H2 aE fe eW s2=>k2 kN H2 aE fe eW (s.trans s2),λkN H2 aE fe eW s2=>k3 kN H2 aE fe eW (s.trans s2),
  λv H2 aE m d As s2=>k4 v H2 aE m d As (s.trans s2),λn H2 s2=>kx n H2 (s.trans s2)⟩
def aj(h1:QS X K L st t)(h2:qo X K L rest u):qo X K L (st :: rest) (cp t u):=lP.imp (Tp h1 h2) λD σ H h=>zr h
def ak(h1:QS X K L st t):qo X K L [st] t:=Tq h1
def pC:qo X K L a uv:=lP.imp ey' λD σ H hx=>cV hx λHs ρ tot E sr h _ _ _ _=>h
def aJ(he:QE X K e te):QS X K L (.Return (some e) pos) (fF te):=PS.imp (MG he) λD σ H hx=>cV hx λHs ρ tot E sr h k1 k2 k3 k4 =>
 ⟨Hs,ρ,tot,_,sr,h,λv H1 aS m d As g1 r1 f1 q1=>k4 v H1 aS m d As g1.sh g1.wf r1 f1.1 (λa ha=>(f1.2 a ha).1) q1⟩
def jD(i:Nat):WS:=λE ρ=>match ρ[i]? with
 |some (some (.sh d))=>E.rt .sh d
 |some (some (.ow fl d))=>E.rt (.ow fl) d
 |_=>False
def SR.at{ρ:Env}{σ:St}{tot:List ag}{i:Nat}{fl:Bool}{d:D}{Hs H:Hp}(s:SR K Hs H ρ σ tot)(e:ρ[i]? = some (some (.ow fl d))):∃ v As,σ[i]? = some (some v)/\As≠[]/\cS K Hs H fl d v As/\As.Sublist tot:=by
 induction s generalizing i with
 |nil=>simp at e
 |non s ih =>
  cases i with
  |zero=>simp at e
  |succ i=>exact ih e
 |sh r s ih =>
  cases i with
  |zero=>simp at e
  |succ i=>exact ih e
 |xc s ih =>
  cases i with
  |zero=>simp at e
  |succ i=>exact ih e
 |ow ne r s ih =>
  cases i with
  |zero=>simp at e;obtain⟨rfl,rfl⟩:=e;exact⟨_,_,rfl,ne,r,L4 _ _⟩
  |succ i =>obtain⟨v,As,a,b,c,d⟩:=ih e;exact⟨v,As,a,b,c,d.trans (mn _ _)⟩
 |lk ne r s ih =>
  cases i with
  |zero=>simp at e
  |succ i =>obtain⟨v,As,a,b,c,d⟩:=ih e;exact⟨v,As,a,b,c,d.trans (mn _ _)⟩
 |ob r s ih =>
  cases i with
  |zero=>simp at e
  |succ i =>obtain⟨v,As,a,b,c,d⟩:=ih e;exact⟨v,As,a,b,c,d.trans (mn _ _)⟩
def kJ{i:Nat}(he:PE X e (i5 i)):QS X K L (.Return (some e) pos) (jD i):=PS.imp (MG he) λD σ H hx=>cV hx λHs ρ tot E sr h k1 k2 k3 k4=>by
 unfold jD at h;split at h
 ·rename_i d e1;obtain⟨v,e2,r⟩:=sr.sr.get e1;exact⟨v,e2,k4 v H Hs .sh d [] (bq.refl _) sr.wf ⟨rfl,r⟩ mz (λa ha=>nomatch ha) h⟩
 ·rename_i fl d e1;obtain⟨v,As,e2,ne,r,sb⟩:=sr.sr.at e1;exact⟨v,e2,k4 v H Hs (.ow fl) d As (bq.refl _) sr.wf ⟨r,ne⟩ (sb.nodup sr.ox) (λa ha=>sr.own a (sb.subset ha)) h⟩
 ·exact h.elim
def CJ(he:QE X K e te)(hs:autoParam (nI e none pos.line X.env=pure false) bv):QS X K L (.Expr e pos) (Er te):=PS.imp (IG he hs) λD σ H hx=>cV hx λHs ρ tot E sr h k1 k2 k3 k4 =>
 ⟨Hs,ρ,tot,_,sr,h,λv H1 aS m d As g1 r1 f1 q1=>k1 σ H1 aS ρ tot g1.sh (sr.grow g1) q1⟩
def aH(i:Nat){x:Str}{pos':Pos}(he:QE X K e te)(hs:autoParam (nI e (some (.Name x pos')) pos.line X.env=pure false) bv) (hf:X.fn x=true\/X.env.scope.names.lookup x=some .local:=by first|exact .inl rfl|exact .inr rfl|assumption) (hN:X.N.Nodup:=by assumption) (hi:autoParam (X.N[i]? = some x) bv) (hx:Loc X.env.scope x:=by first|exact .inl rfl|exact .inr rfl):QS X K L (.Assign [.Name x pos'] e pos) (e8 i te):=PS.imp (Ts hN hi hx he hs hf) λD σ H hx=>cV hx λHs ρ tot E sr h k1 k2 k3 k4=>by
 refine⟨Hs,ρ,tot,_,sr,h,λv H1 aS m d As g1 r1 f1 q1=>?_⟩
 cases e:asg m d with
 |none=>rw[e] at q1;exact q1.elim
 |some sl =>rw[e] at q1;obtain⟨cf,s'⟩:=(sr.grow g1).set i r1 f1.1 (λa ha=>⟨(f1.2 a ha).1,λm=>(sr.sr.own a m).ne (f1.2 a ha).2⟩) e;exact k1 _ H1 aS _ cf g1.sh s' q1
def aP(hc:QT X K c tc)(ha:qo X K L a t)(hb:qo X K L b u):QS X K L (.If c a b pos) (e9 tc t u):=PS.imp (ae' hc ha hb) λD σ H hx=>cL hx λHs ρ tot E sr h k1 k2 k3 k4 kx=>by
 refine⟨Hs,ρ,tot,_,sr,h,λk H1 aS g1 q1=>?_⟩;have k1':∀ bX H' aw bt cf,bq aS aw->dz K aw bt bX H' cf->E.nx bt->D.nx bX H':=λkN H2 aE fe eW s2=>k1 kN H2 aE fe eW (g1.sh.trans s2);have k2':∀ bX H' aw bt cf,bq aS aw->dz K aw bt bX H' cf->E.bk bt->D.bk bX H':=λkN H2 aE fe eW s2=>k2 kN H2 aE fe eW (g1.sh.trans s2);have k3':∀ bX H' aw bt cf,bq aS aw->dz K aw bt bX H' cf->E.ct bt->D.ct bX H':=λkN H2 aE fe eW s2=>k3 kN H2 aE fe eW (g1.sh.trans s2)
 cases k with
 |true=>exact⟨aS,ρ,tot,E,sr.grow g1,q1,k1',k2',k3',(λv H2 aE m d As s2=>k4 v H2 aE m d As (g1.sh.trans s2)),λn H2 s2=>kx n H2 (g1.sh.trans s2)⟩
 |false=>exact⟨aS,ρ,tot,E,sr.grow g1,q1,k1',k2',k3',(λv H2 aE m d As s2=>k4 v H2 aE m d As (g1.sh.trans s2)),λn H2 s2=>kx n H2 (g1.sh.trans s2)⟩
def yT(Hs H:Hp)(As:List ag):Hp:=λa=>if a∈As then H a else Hs a
def gO(n:∀ a∈As,Hs a=none):bq Hs (yT Hs H As):=λa o e=>by unfold yT;rw[if_neg λm=>by rw[n a m] at e;cases e];exact e
def BP(w:Wf Hs H)(o:∀ a∈As,Own H a):Wf (yT Hs H As) H:=⟨λa u e=>by
  unfold yT at e;by_cases m:a∈As
  ·rw[if_pos m] at e;exact e
  ·rw[if_neg m] at e;exact w.sub a u e,λa vs e=>by
  unfold yT;rw[if_neg λm=>(o a m).tX e];exact w.iF a vs e⟩
def RQ:Sl->Sl
 |.sh d=>.sh d
 |.ow _ d=>.sh d
 |.lk a fl d=>.lk a fl d
 |.xc a=>.xc a
 |.ob a p=>.ob a p
def W3:Sl->Sl
 |.sh d=>.sh d
 |.ow _ d=>.sh d
 |.lk _ _ d=>.sh d
 |.xc a=>.xc a
 |.ob a _=>.xc a
def RT(i:Nat)(ρ:Env):Env:=match ρ[i]? with
 |some (some sl)=>ρ.set i (some (RQ sl))
 |_=>ρ
def qT{As tot B t:List ag}(n:(B++tot).Nodup)(a:As.Sublist tot)(c:∀ x∈As,x∉t):∀ x∈As,x∉B++t:=λx hx m=>by
 obtain⟨n1,n2,n3⟩:=iN.mp n;rcases eK.mp m with z|z
 ·exact n3 x z x (a.subset hx) rfl
 ·exact c x hx z
def SR.pE(i:Nat)(s:SR K Hs H ρ σ tot):ρ[i]? = some (some (.ow fl d))->tot.Nodup ->
  ∃ (As cf:List ag),As.Sublist tot/\cf.Sublist tot/\(∀ a∈As,a∉cf)/\∀ aw,bq Hs aw->(∀ a∈As,aw a=H a)->SR K aw H (ρ.set i (some (.sh d))) σ cf:=by
 induction s generalizing i with
 |nil=>intro e;simp at e
 |non q ih =>
  intro e n
  cases i with
  |zero=>simp at e
  |succ i =>obtain⟨As,t,a,b,c,d⟩:=ih i e n;exact⟨As,t,a,b,c,λaw s k=>.non (d aw s k)⟩
 |sh r q ih =>
  intro e n
  cases i with
  |zero=>simp at e
  |succ i =>obtain⟨As,t,a,b,c,d⟩:=ih i e n;exact⟨As,t,a,b,c,λaw s k=>.sh (r.same s) (d aw s k)⟩
 |xc q ih =>
  intro e n
  cases i with
  |zero=>simp at e
  |succ i =>obtain⟨As,t,a,b,c,d⟩:=ih i e n;exact⟨As,t,a,b,c,λaw s k=>.xc (d aw s k)⟩
 |ow ne r q ih =>
  intro e n;obtain⟨n1,n2,n3⟩:=iN.mp n
  cases i with
  |zero =>obtain⟨rfl,rfl⟩:=e;exact⟨_,_,L4 _ _,mn _ _,λa h m=>n3 a h a m rfl,λaw s k=>.sh (r.rep s k) (q.fN s λ_ _=>rfl)⟩
  |succ i =>obtain⟨As,t,a,b,c,d⟩:=ih i e n2;exact⟨As,_,a.trans (mn _ _),b.append_left _,qT n a c,λaw s k=>.ow ne (r.fN s λ_ _=>rfl) (d aw s k)⟩
 |lk ne r q ih =>
  intro e n;obtain⟨n1,n2,n3⟩:=iN.mp n
  cases i with
  |zero=>simp at e
  |succ i =>obtain⟨As,t,a,b,c,d⟩:=ih i e n2;exact⟨As,_,a.trans (mn _ _),b.append_left _,qT n a c,λaw s k=>.lk ne (r.fN s λ_ _=>rfl) (d aw s k)⟩
 |@ob _ _ _ _ _ p r q ih =>
  intro e n;obtain⟨n1,n2,n3⟩:=iN.mp n
  cases i with
  |zero=>simp at e
  |succ i =>obtain⟨As,t,a,b,c,d⟩:=ih i e n2;exact⟨As,_,a.trans (mn _ _),b.append_left _,qT n a c,λaw s k=>.ob (p.fN (iG s) (λ_ _=>rfl) r) (d aw s k)⟩
def dz.pE(i:Nat)(s:dz K Hs ρ σ H tot):∃ aw cf,bq Hs aw/\dz K aw (RT i ρ) σ H cf:=by
 unfold RT;split
 ·rename_i sl e;have keep:RQ sl=sl->∃ aw cf,bq Hs aw/\dz K aw (ρ.set i (some (RQ sl))) σ H cf:=λhs=>by
   have e2:ρ.set i (some (RQ sl))=ρ:=by
    apply Vm;intro j;rw[List.getElem?_set];by_cases h:i=j
    ·subst h;rw[if_pos rfl,e];have:i<ρ.length:=(nh.mp e).1;simp[this,hs]
    ·rw[if_neg h]
   rw[e2];exact⟨Hs,tot,bq.refl _,s⟩
  cases sl with
  |sh d=>exact keep rfl
  |xc a=>exact keep rfl
  |lk a fl d=>exact keep rfl
  |ob a p=>exact keep rfl
  |ow fl d =>obtain⟨As,t,a,b,c,g⟩:=SR.pE i s.sr e s.ox;have hn:∀ a∈As,Hs a=none:=λx hx=>s.own x (a.subset hx);have ho:∀ a∈As,Own H a:=λx hx=>s.sr.own x (a.subset hx);refine⟨yT Hs H As,t,gO hn,g _ (gO hn) λx hx=>by unfold yT;rw[if_pos hx],BP s.wf ho,b.nodup s.ox,λx hx=>?_⟩;unfold yT;rw[if_neg λm=>c x m hx];exact s.own x (b.subset hx)
 ·exact⟨Hs,tot,bq.refl _,s⟩
def A4(i:Nat)(t:WS):WS:=λE ρ=>t E (RT i ρ)
def Ag{D:Ends}(h:yk K L (A4 i t) D σ H):yk K L t D σ H:=by
 obtain⟨Hs,ρ,tot,E,sr,h,k1,k2,k3,k4,kx⟩:=h;obtain⟨aw,cf,s,W0⟩:=sr.pE i;exact⟨aw,_,cf,E,W0,h,λkN H2 aE fe eW s2=>k1 kN H2 aE fe eW (s.trans s2),λkN H2 aE fe eW s2=>k2 kN H2 aE fe eW (s.trans s2),λkN H2 aE fe eW s2=>k3 kN H2 aE fe eW (s.trans s2),
  λv H2 aE m d As s2=>k4 v H2 aE m d As (s.trans s2),λn H2 s2=>kx n H2 (s.trans s2)⟩
def jf(i:Nat)(h:QS X K L st t):QS X K L st (A4 i t):=PS.imp h λD σ H h=>Ag h
def lF(aS H1 aw H':Hp):Hp:=λa=>match H' a with
 |some (.tup vs)=>some (.tup vs)
 |_=>match H1 a with
  |none=>aw a
  |some _=>aS a
def dw(w:Wf aS H1)(s:bq H1 aw)(w':Wf aw H'):fv aS H1 (lF aS H1 aw H') H':=by
 have sa:bq H1 H':=s.trans w'.sub;have tp:∀ a vs,H' a=some (.tup vs)->lF aS H1 aw H' a=some (.tup vs):=λa vs e=>by unfold lF;rw[e]
 have nt:∀ a,(∀ vs,H' a≠some (.tup vs))->lF aS H1 aw H' a=match H1 a with
  |none=>aw a
  |some _=>aS a:=λa h=>by
  unfold lF;split
  ·rename_i vs e;exact absurd e (h vs)
  ·rfl
 refine⟨sa,λa o e=>?_,⟨λa o e=>?_,tp⟩,λa h=>?_⟩
 ·have e1:=w.sub a o e;have e2:=sa a o e1;by_cases ht:∃ vs,o=.tup vs
  ·obtain⟨vs,rfl⟩:=ht;exact tp a vs e2
  ·rw[nt a λvs z=>ht ⟨vs,by rw[e2] at z;exact Option.some.inj z⟩,e1];exact e
 ·by_cases ht:∃ vs,H' a=some (.tup vs)
  ·obtain⟨vs,z⟩:=ht;rw[tp a vs z] at e;rw[z];exact e
  ·rw[nt a λvs z=>ht ⟨vs,z⟩] at e
   cases q:H1 a with
   |none=>rw[q] at e;exact w'.sub a o e
   |some u =>rw[q] at e;have:=w.sub a o e;exact sa a o this
 ·cases q:H1 a with
  |none=>exact .inr rfl
  |some u =>
   refine .inl ?_;by_cases ht:∃ vs,H' a=some (.tup vs)
   ·obtain⟨vs,z⟩:=ht;have:=sa a u q;rw[z] at this;cases this;rw[w.iF a vs q];exact λz=>nomatch z
   ·rw[nt a λvs z=>ht ⟨vs,z⟩,q] at h;exact h
def qe{aS H1 aw H':Hp}{a:ag}(s:bq H1 aw)(h:aw a=none)(o:Own H' a):lF aS H1 aw H' a=none/\H1 a=none:=by
 have h1:=s.free h;refine⟨?_,h1⟩;unfold lF;split
 ·rename_i vs e;exact absurd e o.tX
 ·rw[h1];exact h
def y1:Md->D->Md
 |.ow true,_=>.ow true
 |.fr,_=>.fr
 |_,d=>bif d.flat then .sh else .bo
def lE(w:Wf aS H1)(s:bq H1 aw)(w':Wf aw H')(r:RM K aw H' m d v As)(nd:As.Nodup)(own:∀ a∈As,aw a=none) :
  ∃ g7,RM K (lF aS H1 aw H') H' (y1 m d) d v g7/\bQ (lF aS H1 aw H') H1 g7:=by
 have g:=dw w s w';have other:∃ g7,RM K (lF aS H1 aw H') H' (bif d.flat then .sh else .bo) d v g7/\bQ (lF aS H1 aw H') H1 g7:=by
  cases hf:d.flat with
  |true=>exact⟨[],⟨rfl,(r.rep w').d9 g.wf.iF hf⟩,bQ.nil⟩
  |false=>exact⟨[],⟨rfl,r.rep w'⟩,bQ.nil⟩
 cases m with
 |sh=>exact other
 |bo=>exact other
 |fr=>exact⟨As,⟨r.1,r.2.same (rT (λa vs e=>vD r.1 g.wf.sub (g.wf.iF a vs (w'.sub _ _ e))) λa m o e=>by unfold KS;rw[if_pos m];exact e)⟩,nd,λa h=>qe s (own a h) (r.own a h)⟩
 |wl=>exact other
 |ow fl =>
  cases fl with
  |false=>exact other
  |true=>exact⟨As,⟨cS.leaves (λa vs e=>g.wf.iF a vs (w'.sub _ _ e)) r.1,r.2⟩,nd,λa h=>qe s (own a h) (r.own a h)⟩
abbrev fw:=List D->(Md->D->Prop)->Prop
def f9(K:ax)(sp:fw):Sp:=λvs H Qv _=>∃ ds Qd,bP K H ds vs/\sp ds Qd /\
 ∀ v H' aw m d As,bq H aw->Wf aw H'->RM K aw H' m d v As->As.Nodup->(∀ a∈As,aw a=none)->Qd m d->Qv v H'
def aN(n:Nat)(ds:List D):Env:=ds.map (λd=>some (.sh d))++List.replicate (n-ds.length) none
def SR.start(r:bP K H ds vs):SR K H H (ds.map (λd=>some (.sh d))++List.replicate n none) (vs.map some++List.replicate n none) []:=by
 induction ds generalizing vs with
 |nil =>
  rw[r.n0]
  induction n with
  |zero=>exact .nil
  |succ n ih=>exact .non ih
 |cons d ds ih =>obtain⟨u,us,rfl,r,rs⟩:=r.c;exact .sh r (ih rs)
def vA(h:f9 K sp vs H Qv E)(hp:∀ ds Q,sp ds Q->t { nx:=λ_=>Q .sh .non,rt:=Q } (aN N.length ds)) :
  yk K L0 t { nx:=λ_ H'=>Qv .non H',rt:=Qv } (start N vs) H:=by
 obtain⟨ds,Qd,rs,hs,fin⟩:=h;have hl:=rs.length;refine⟨H,aN N.length ds,[],{ nx:=λ_=>Qd .sh .non,rt:=Qd },⟨?_,⟨bq.refl _,λ_ _ e=>e⟩,mz,λa h=>nomatch h⟩,hp ds Qd hs,?_,?_,?_,?_,λ_ _ _ _=>trivial⟩
 ·unfold aN start;rw[hl];exact SR.start rs
 ·exact λbX H' aw bt cf s sr q=>fin .non H' aw .sh .non [] s sr.wf ⟨rfl,.non⟩ mz (λa h=>nomatch h) q
 ·exact λbX H' aw bt cf s sr q=>q.elim
 ·exact λbX H' aw bt cf s sr q=>q.elim
 ·exact λv H' aw m d As s w r nd own q=>fin v H' aw m d As s w r nd own q
def W4.ok{P:b9}{st:g9}{N ps:List Str}(F:nV K x qual st f fd)(S:xi N ps (d5 st))(len:∀ ds Q,sp ds Q->ds.length=ps.length)(vx:∀ (cK:ah) (A:e7) (outer:List PySem.Env) (s:aC) (H:Hp) (E:XK),gp k (A.deeper (ki qual (d5 st) s.heap.objs.size f cK))->qo (lT kr P w K mg base N qual (d5 st) f cK A outer s H E).xh K L0 (kS st) t)(hp:∀ ds Q,sp ds Q->t { nx:=λ_=>Q .sh .non,rt:=Q } (aN N.length ds)):ja P w K mg base kr (k+1) f fd ps (f9 K sp) :=
 F.ok S (λvs H Q E ⟨ds,Qd,rs,hs,_⟩=>by rw[<- rs.length];exact len ds Qd hs) λcK A outer s H vs Q E hr hs=>⟨_,vx cK A outer s H E hr,vA hs hp⟩
def bx(sp:fw)(t:WA):WE:=λρ Q=>t ρ λps=>sp (ps.map (·.2)) λm d=>b6 (m,d) (f:=λp=>Q (y1 p.1 p.2) p.2) ⟨⟩
def xK{sp:fw}{t:WA}{σ:St}{H:Hp}{Qv:VK}{E:XK}(h:ui K (bx sp t) σ H Qv):Rh (f9 K sp) [] E (WW K t) σ H Qv:=by obtain⟨Hs,ρ,tot,Q,sr,h,f⟩:=h;refine⟨Hs,ρ,tot,_,sr,h,λvs H1 aS ps As g1 r1 f1 q1=>?_⟩;refine⟨_,_,by rw[kE];exact r1.reps g1.wf,q1,λv H' aw m d As s w r nd own q=>?_⟩;obtain⟨g7,r',fr⟩:=lE g1.wf s w r nd own;exact Fin.after f g1 v H' _ (y1 m d) d g7 (dw g1.wf s w) r' fr q
def bJ {k:Nat} {x:Str} {ps:List Str} {sp:fw} {p:Pos} {es:List Expr} {t:WA} (C:Uj X.prog X.w X.K X.mg X.base k x ps (f9 K sp)) (ha:QA X K (e :: es) t) (hg:autoParam (Gl X x) bv) (jv:(x == ("__debug__" : Str))=false:=by decide) (he:autoParam (bE (e :: es) X.env=(false,b4 e X.env) :: bE es X.env) bv) (i7:autoParam ((gy pos (bE es X.env)).any (·.1)=false) bv) (hr:gp k X.A:=by exact gp.mono (by assumption) (by decide)):QE X K (.Call (.Name x p) (e :: es) [] pos) (bx sp t):=PE.imp (Jo C hr ha hg jv he i7) λσ H Qv h=>xK h
end
abbrev WG:=D->Env->(Env->Prop)->Prop
def W5(K:ax)(g:WG):TG:=λv σ H Qv=>∃ Hs ρ tot d Q,dz K Hs ρ σ H tot/\Rep K Hs d v/\g d ρ Q/\∀ bX bt cf,dz K Hs bt bX H cf->(∀ a∈cf,a∈tot)->Q bt->Qv bX H
abbrev QG(X:Cx)(K:ax)(e:Expr)(g:WG):Prop:=PG X e (W5 K g)
def gN(i:Nat):WG:=λd ρ Q=>Q (ρ.set i (some (.sh d)))
abbrev K0:=List D->Env->(Env->Prop)->Prop
def jA'(K:ax)(g:K0):ML:=λvs σ H Qv=>∃ Hs ρ tot ds Q,dz K Hs ρ σ H tot/\bP K Hs ds vs/\g ds ρ Q/\∀ bX bt cf,dz K Hs bt bX H cf->(∀ a∈cf,a∈tot)->Q bt->Qv bX H
abbrev UA(X:Cx)(K:ax)(es:List Expr)(g:K0):Prop:=B8 X es (jA' K g)
def zX:K0:=λds ρ Q=>ds=[]/\Q ρ
def tK(g:WG)(gs:K0):K0:=λds ρ Q=>match ds with
 |d :: ds=>g d ρ λbt=>gs ds bt Q
 |[]=>False
def gT(n:Nat)(gs:K0):WG:=λd ρ Q=>match d with
 |.tup ds=>ds.length=n/\gs ds ρ Q
 |_=>False
section
variable {X:Cx}{K:ax}{e:Expr}{es:List Expr}{g:WG}{gs:K0}{pos:Pos}
def PG.imp(h:PG X e t)(i:∀ v σ H Q,t' v σ H Q->t v σ H Q):PG X e t':=λpins s σ H v u Q I r q=>h pins s σ H v u Q I r (i v σ H Q q)
def B8.imp(h:B8 X es t)(i:∀ v σ H Q,t' v σ H Q->t v σ H Q):B8 X es t':=λpins s σ H v u Q I r q=>h pins s σ H v u Q I r (i v σ H Q q)
def dz.K3(i:Nat)(s:dz K Hs ρ σ H tot)(r:Rep K Hs d v):∃ cf,(∀ a∈cf,a∈tot)/\dz K Hs (ρ.set i (some (.sh d))) (σ.set i (some v)) H cf:=by obtain⟨t,a,b⟩:=s.sr.Cd r i;exact⟨t,λx hx=>a.subset hx,b,s.wf,a.nodup s.ox,λx hx=>s.own x (a.subset hx)⟩
def aX(i:Nat)(hf:X.fn x=true\/X.env.scope.names.lookup x=some .local:=by first|exact .inl rfl|exact .inr rfl|assumption)(hN:X.N.Nodup:=by assumption)(hi:autoParam (X.N[i]? = some x) bv)(hx:Loc X.env.scope x:=by first|exact .inl rfl|exact .inr rfl):QG X K (.Name x pos) (gN i) :=
 PG.imp (ez' hN hi hx hf) λv σ H Qv dP=>by obtain⟨Hs,ρ,tot,d,Q,sr,r,h,k⟩:=dP;obtain⟨t,m,s⟩:=sr.K3 i r;exact k _ _ t s m h
def Eh:UA X K [] zX:=B8.imp eC' λv σ H Qv dP=>by obtain⟨Hs,ρ,tot,ds,Q,sr,r,h,k⟩:=dP;obtain⟨rfl,h⟩:=h;cases r;exact⟨rfl,k σ ρ tot sr (λ_ z=>z) h⟩
def tM(h1:QG X K e g)(h2:UA X K es gs)(hs:autoParam ((DC (e :: es) X.env).map (·.2)=assign e X.env :: (DC es X.env).map (·.2)) bv):UA X K (e :: es) (tK g gs) :=
 B8.imp (eD' h1 h2 hs) λv σ H Qv dP=>by
  obtain⟨Hs,ρ,tot,ds,Q,sr,r,h,k⟩:=dP
  cases r with
  |nil=>exact h.elim
  |cons r rs=>exact⟨_,_,rfl,Hs,ρ,tot,_,_,sr,r,h,λkN fe eW gS m2 q2=>⟨Hs,fe,eW,_,Q,gS,rs,q2,λpT A5 jB' OQ m3=>k pT A5 jB' OQ λa h=>m2 a (m3 a h)⟩⟩
def Jv(h:UA X K es gs)(hn:autoParam ((DC es X.env).length=n) bv)(rq:autoParam ((DC es X.env).findIdx? (·.1)=none) bv)(hc:autoParam (X.calm=true) bv):QG X K (.Tuple es k pos) (gT n gs) :=
 PG.imp (eF' hc h hn rq) λv σ H Qv dP=>by
  obtain⟨Hs,ρ,tot,d,Q,sr,r,h,k⟩:=dP
  cases r with
  |tup z e rs=>exact⟨_,_,rfl,.inl (.inl (sr.wf.sub _ _ e)),by rw[<- rs.length];exact h.1,Hs,ρ,tot,_,Q,sr,rs,h.2,k⟩
  |_=>exact h.elim
end
abbrev WI:=Env->(List D->Prop)->Prop
structure oN(K:ax)(J:It)(ds:List D)(C:Hp->Hp->Prop):Prop where
 go:∀ i Hs H,C Hs H->Wf Hs H->i<ds.length->J.go i H
 lS:∀ i Hs H x H' d,C Hs H->Wf Hs H->ds[i]? = some d->J.lS i H x H'->∃ aw,fv Hs H aw H'/\Rep K aw d x
 stop:∀ Hs H,C Hs H->Wf Hs H->J.stop ds.length H
abbrev rW(K:ax)(Hs:Hp)(J:It)(ds:List D):Prop:=oN K J ds λG _=>bq Hs G
def lL(xs:List D):List D:=xs.mapIdx λi x=>.tup [.int i,x]
section
variable {K:ax}{Hs:Hp}{J:It}{ds:List D}{C C':Hp->Hp->Prop}{a:ag}
def oN.imp(S:oN K J ds C)(h:∀ Hs H,C' Hs H->C Hs H):oN K J ds C':=⟨λi Hs H c=>S.go i Hs H (h _ _ c),λi Hs H x H' d c=>S.lS i Hs H x H' d (h _ _ c),λHs H c=>S.stop Hs H (h _ _ c)⟩
def oN.seq(rs:bP K Hs ds vs)(S:d8 J vs λH=>bq Hs H):rW K Hs J ds where
 go:=λi G H s w h=>S.go i H (s.trans w.sub) (by rw[<- rs.length];exact h)
 lS:=λi G H x H' d s w h y=>by
  have hi:i<ds.length:=by
   rcases Nat.lt_or_ge i ds.length with q|q
   ·exact q
   ·rw[PK q] at h;cases h
  obtain⟨e,z⟩:=S.lS i H x H' (s.trans w.sub) (by rw[<- rs.length];exact hi) y;subst e;obtain⟨d',ed,rd⟩:=rs.Uu z;rw[h] at ed;cases ed;exact⟨G,fv.refl w,rd.same s⟩
 stop:=λG H s w=>by rw[rs.length];exact S.stop H (s.trans w.sub)
abbrev xJ(K:ax)(a:ag)(ds:List D)(C:Hp->Hp->Prop):Prop:=∀ Hs H,C Hs H->Wf Hs H->∃ vs,eL K H a vs/\bP K Hs ds vs
def oN.list(h:xJ K a ds C):oN K (Tt K a) ds C where
 go:=λi G H c w hi=>by obtain⟨vs,q,rs⟩:=h G H c w;exact⟨vs,vs[i]'(by rw[<- rs.length];exact hi),q,by simp⟩
 lS:=λi G H x H' d c w hd y=>by obtain⟨vs,q,rs⟩:=h G H c w;obtain⟨rfl,y⟩:=y;obtain⟨d',ed,rd⟩:=rs.Uu (y vs q);rw[hd] at ed;cases ed;exact⟨G,fv.refl w,rd⟩
 stop:=λG H c w=>by obtain⟨vs,q,rs⟩:=h G H c w;exact⟨vs,q,by rw[rs.length];exact cx _⟩
def oN.enum(h:xJ K a ds C):oN K (Wv K a) (lL ds) C where
 go:=λi G H c w hi=>by
  obtain⟨vs,q,rs⟩:=h G H c w;have hi:i<ds.length:=by simpa[lL] using hi
  exact⟨vs,vs[i]'(by rw[<- rs.length];exact hi),q,by simp⟩
 lS:=λi G H x H' d c w hd y=>by
  obtain⟨vs,q,rs⟩:=h G H c w;obtain⟨p,v,rfl,hp,rfl,y⟩:=y;obtain⟨d',ed,rd⟩:=rs.Uu (y vs q);have:d=.tup [.int i,d']:=by simp only[lL,List.getElem?_mapIdx,ed,Option.map_some] at hd;cases hd;rfl
  subst this;have g:=N9 (vs:=[.int i,v]) w hp;exact⟨_,g,.tup (vs:=[.int i,v]) Ci eM (.cons (.int _) (.cons (rd.same g.sh) .nil))⟩
 stop:=λG H c w=>by obtain⟨vs,q,rs⟩:=h G H c w;exact⟨vs,q,by rw[lL,List.length_mapIdx,rs.length];exact cx _⟩
def qb(s:eL K Hs a vs)(rs:bP K Hs ds vs):xJ K a ds λG _=>bq Hs G:=λG H c w=>⟨vs,bq.seq (c.trans w.sub) s,rs.same c⟩
end
def tpI(K:ax)(wi:WI):TI:=λσ H R=>∃ Hs ρ tot Q,dz K Hs ρ σ H tot/\wi ρ Q/\∀ J H' aw ds,fv Hs H aw H'->rW K aw J ds->ds.length<=bI->Q ds->R J H'
abbrev QI(X:Cx)(K:ax)(tg iter:Expr)(wi:WI):Prop:=PI X tg iter (tpI K wi)
def lO:Md->Prop
 |.wl .. => False
 |.bo=>False
 |_=>True
def lA(te:WE):WI:=λρ Q=>te ρ λm d=>lO m/\match d with
 |.list xs=>Q xs
 |_=>False
def zM(te:WE):WI:=λρ Q=>te ρ λm d=>lO m/\match d with
 |.tup xs=>Q xs
 |_=>False
def RV(z:Str):List D:=z.cps.toList.map λc=>.str ⟨#[c]⟩
def yS(te:WE):WI:=λρ Q=>te ρ λ_ d=>match d with
 |.str z=>Q (RV z)
 |_=>False
def kI(lo:Int)(n:Nat):List D:=(List.range n).map λi=>.int (lo+(i:Nat))
def kj(te:WE):WI:=λρ Q=>te ρ λ_ d=>match d with
 |.int j=>j<=16777216/\-(2 ^ 62)<=j/\Q (kI 0 j.toNat)
 |_=>False
def tG(ta tb:WE):WI:=λρ Q=>ta ρ λ_ x=>tb ρ λ_ y=>match x with
 |.int i=>match y with
  |.int j=>j-i<=16777216/\(-(2 ^ 62)<=i/\i<2 ^ 62/\-(2 ^ 62)<=j/\j<2 ^ 62)/\Q (kI i (j-i).toNat)
  |_=>False
 |_=>False
section
variable {X:Cx}{K:ax}{e e2 tg:Expr}{te FT:WE}{pos p:Pos}
def PI.imp(h:PI X tg iter t)(i:∀ σ H R,t' σ H R->t σ H R):PI X tg iter t':=λpins s σ H R I q=>h pins s σ H R I (i σ H R q)
def d8.imp{J:It}(s:d8 J vs c)(h:∀ H,c' H->c H):d8 J vs c':=⟨λi H q=>s.go i H (h H q),λi H x H' q=>s.lS i H x H' (h H q),λH q=>s.stop H (h H q)⟩
def RM.qJ(g:fv Hs H aS H1)(r:RM K aS H1 m d v As)(f:bQ aS H As)(h:lO m):∃ aE,fv Hs H aE H1/\Rep K aE d v:=by
 have n:∀ a∈As,aS a=none:=λa ha=>(f.2 a ha).1;have pub:Rep K (yT aS H1 As) d v->∃ aE,fv Hs H aE H1/\Rep K aE d v:=λz=>by
  refine⟨yT aS H1 As,⟨g.all,g.sh.trans (gO n),BP g.wf r.own,λa h=>?_⟩,z⟩;unfold yT at h;by_cases m:a∈As
  ·exact .inr (f.2 a m).2
  ·rw[if_neg m] at h;exact g.new a h
 cases m with
 |sh=>exact⟨aS,g,r.2⟩
 |bo=>exact h.elim
 |wl=>exact h.elim
 |ow fl=>exact pub (cS.rep (gO n) r.1 λa ha=>by unfold yT;rw[if_pos ha])
 |fr=>exact pub (r.2.same (rT (λa vs e=>gO n _ _ e) λa m o e=>by unfold yT;rw[if_pos m];exact e))
def nY(he:QE X K e te)(hK:autoParam (X.K=K) bv):QI X K tg e (lA te):=by
 subst hK;refine PI.imp (ah' he) λσ H R hx=>ic hx λHs ρ tot Q sr h k=>⟨Hs,ρ,tot,_,sr,h,λv H1 aS m d As g1 r1 f1 q1=>?_⟩
 obtain⟨nb,q1⟩:=q1;obtain⟨aE,g2,r2⟩:=r1.qJ g1 f1 nb
 cases r2 with
 |list z s rs=>exact⟨_,rfl,⟨_,bq.seq g2.wf.sub s⟩,k _ H1 aE _ g2 (.seq rs (d8.imp (yX X.K _ _) λH' s'=>bq.seq s' s)) (by rw[rs.length];exact z) q1⟩
 |_=>exact q1.elim
def I_(he:QE X K e te)(hK:autoParam (X.K=K) bv):QI X K tg e (zM te):=by
 refine PI.imp (ai' he) λσ H R hx=>ic hx λHs ρ tot Q sr h k=>⟨Hs,ρ,tot,_,sr,h,λv H1 aS m d As g1 r1 f1 q1=>?_⟩
 obtain⟨nb,q1⟩:=q1;obtain⟨aE,g2,r2⟩:=r1.qJ g1 f1 nb
 cases r2 with
 |tup z s rs=>exact⟨_,rfl,⟨_,.inl (.inl (g2.wf.sub _ _ s))⟩,k _ H1 aE _ g2 (.seq rs (d8.imp (yc X.K _ _) λH' s'=>.inl (.inl (s' _ _ s)))) (by rw[rs.length];exact z) q1⟩
 |_=>exact q1.elim
theorem uo:∀ (l:List Nat),bP K H (l.map λc=>.str ⟨#[c]⟩) (l.map λc=>V.str ⟨#[c]⟩)
 |[]=>.nil
 |c :: l=>.cons (.str (yN c)) (uo l)
def Ce(he:QE X K e te):QI X K tg e (yS te):=by
 refine PI.imp (G_ he) λσ H R hx=>ic hx λHs ρ tot Q sr h k=>⟨Hs,ρ,tot,_,sr,h,λv H1 aS m d As g1 r1 f1 q1=>?_⟩
 have r:=r1.rep g1.wf
 cases r with
 |str hz=>exact⟨_,rfl,k _ H1 aS _ g1 (.seq (uo _) (d8.imp (Df _) λ_ _=>trivial)) (by rw[dr,zv];exact hz) q1⟩
 |_=>exact q1.elim
theorem j7(lo:Int):∀ (l:List Nat),bP K H (l.map λi=>.int (lo+(i:Nat))) (l.map λi=>V.int (lo+(i:Nat)))
 |[]=>.nil
 |c :: l=>.cons (.int _) (j7 lo l)
def oh (hm:X.mg "range" = none) (he:QE X K e te) (hg:Gl X "range" := by rfl) (hs:autoParam (bE [e] X.env=(false,b4 e X.env) :: bE [] X.env) bv) (iE:autoParam (bE [e] X.env=[(false,b4 e X.env)]) bv):QI X K tg (.Call (.Name "range" p) [e] [] pos) (kj te):=by
 refine PI.imp (eP' hg hm (kf he k7 hs) iE) λσ H R hx=>ic hx λHs ρ tot Q sr h k=>⟨Hs,ρ,tot,_,sr,h,λv H1 aS m d As g1 r1 f1 q1=>?_⟩
 have r:=r1.rep g1.wf
 cases r with
 |int j =>obtain⟨h1,h2,q1⟩:=q1;exact⟨j,rfl,h2,by lia,k _ H1 aS _ g1 (.seq (j7 0 _) (d8.imp (wM _ _) λ_ _=>trivial)) (by rw[dr,SK,oi];lia) q1⟩
 |_=>exact q1.elim
def DX (hm:X.mg "range" = none) (he:QE X K e te) (Kn:QE X K e2 FT) (hg:Gl X "range" := by rfl) (hs:autoParam (bE (e :: [e2]) X.env=(false,b4 e X.env) :: bE [e2] X.env) bv) (nS:autoParam (bE (e2 :: []) X.env=(false,b4 e2 X.env) :: bE [] X.env) bv) (iE:autoParam (bE [e,e2] X.env=[(false,b4 e X.env),(false,b4 e2 X.env)]) bv) (W6:autoParam (bE [e2] X.env=[(false,b4 e2 X.env)]) bv):QI X K tg (.Call (.Name "range" p) [e,e2] [] pos) (tG te FT):=by
 refine PI.imp (eQ' hg hm (kf he (kf Kn k7 nS) hs) iE W6) λσ H R hx=>ic hx λHs ρ tot Q sr h k=>⟨Hs,ρ,tot,_,sr,h,λv H1 aS m d As g1 r1 f1 q1=>⟨aS,ρ,tot,_,sr.grow g1,q1,λu H2 aE n y Bs g2 r2 f2 q2=>?_⟩⟩
 have r:=(r1.grow g2).rep g2.wf;have r':=r2.rep g2.wf
 cases r with
 |int i=>cases r' with
  |int j =>obtain⟨h1,h2,q2⟩:=q2;exact⟨i,j,rfl,h2,k _ H2 aE _ (g1.trans g2) (.seq (j7 i _) (d8.imp (wM _ _) λ_ _=>trivial)) (by rw[dr,SK,oi];lia) q2⟩
  |_=>exact q2.elim
 |_=>exact q2.elim
section
variable {X:Cx}{K:ax}{e tg:Expr}{te:WE}{pos p:Pos}
def W7(K:ax)(wi:WI):TI:=λσ H R=>∃ Hs ρ tot Q,dz K Hs ρ σ H tot/\wi ρ Q/\∀ J H' aw ds,fv Hs H aw H'->rW K H' J ds->ds.length<=bI->Q ds->R J H'
abbrev OS(X:Cx)(K:ax)(tg iter:Expr)(wi:WI):Prop:=PI X tg iter (W7 K wi)
def Br(h:QI X K tg iter wi):OS X K tg iter wi:=PI.imp h λσ H R hx=>ic hx λHs ρ tot Q sr h k=>⟨Hs,ρ,tot,Q,sr,h,λJ H' aw ds g w z q=>k J H' aw ds g (w.imp λG H s=>g.wf.sub.trans s) z q⟩
def ph(te:WE):WI:=λρ Q=>te ρ λ_ d=>match d with
 |.list xs=>Q xs
 |_=>False
def wU(te:WE):WI:=λρ Q=>te ρ λ_ d=>match d with
 |.tup xs=>Q xs
 |_=>False
def uA(te:WE):WI:=λρ Q=>te ρ λ_ d=>match d with
 |.list xs=>Q (lL xs)
 |_=>False
def yg(he:QE X K e te)(hK:autoParam (X.K=K) bv):OS X K tg e (ph te):=by
 subst hK;refine PI.imp (ah' he) λσ H R hx=>ic hx λHs ρ tot Q sr h k=>⟨Hs,ρ,tot,_,sr,h,λv H1 aS m d As g1 r1 f1 q1=>?_⟩
 have r:=r1.rep g1.wf
 cases r with
 |list z s rs=>exact⟨_,rfl,⟨_,s⟩,k _ H1 aS _ g1 (.list (qb s rs)) (by rw[rs.length];exact z) q1⟩
 |_=>exact q1.elim
def BX(he:QE X K e te)(hK:autoParam (X.K=K) bv):OS X K tg e (wU te):=by
 refine PI.imp (ai' he) λσ H R hx=>ic hx λHs ρ tot Q sr h k=>⟨Hs,ρ,tot,_,sr,h,λv H1 aS m d As g1 r1 f1 q1=>?_⟩
 have r:=r1.rep g1.wf
 cases r with
 |tup z s rs=>exact⟨_,rfl,⟨_,.inl (.inl s)⟩,k _ H1 aS _ g1 (.seq rs (d8.imp (yc X.K _ _) λH' s'=>.inl (.inl (s' _ _ s)))) (by rw[rs.length];exact z) q1⟩
 |_=>exact q1.elim
def Gz (hm:X.mg "enumerate" = none) (he:QE X K e te) (hK:autoParam (X.K=K) bv) (hg:Gl X "enumerate" := by rfl) (hs:autoParam (bE [e] X.env=(false,b4 e X.env) :: bE [] X.env) bv) (iE:autoParam (bE [e] X.env=[(false,b4 e X.env)]) bv) :
  OS X K (.Tuple elts kk tp) (.Call (.Name "enumerate" p) [e] [] pos) (uA te):=by
 subst hK;refine PI.imp (Cv hg hm (kf he k7 hs) iE) λσ H R hx=>ic hx λHs ρ tot Q sr h k=>⟨Hs,ρ,tot,_,sr,h,λv H1 aS m d As g1 r1 f1 q1=>?_⟩
 have r:=r1.rep g1.wf
 cases r with
 |list z s rs=>exact⟨_,rfl,⟨_,s⟩,k _ H1 aS _ g1 (.enum (qb s rs)) (by rw[lL,List.length_mapIdx,rs.length];exact z) q1⟩
 |_=>exact q1.elim
end
def eG(g:WG)(b:WS)(E:eO):List D->Env->Prop
 |[],ρ=>E.nx ρ
 |x :: xs,ρ=>g x ρ λkz=>b { E with nx:=eG g b E xs,ct:=eG g b E xs,bk:=E.nx } kz
def y2(wi:WI)(g:WG)(b:WS):WS:=λE ρ=>wi ρ λds=>eG g b E ds ρ
variable {wi:WI}{g:WG}{b:WS}{body:List g9}
def fH(hi:QI X K tg iter wi)(hg:QG X K tg g)(hb:qo X K L body b)(hs:∀ x,E2 iter X.env x=pure x:=by intro _;rfl)(hp:PassesOwn (aT X.prog X.w) X.A X.env X.xe:=by first|exact PassesOwn.never|exact PassesOwn.leaving)(hc:autoParam (X.calm=true) bv) :
  QS X K L (.For tg iter body [] pos) (y2 wi g b):=by
 refine PS.imp (al' hp hc hi hg hb hs) λD σ H hx=>cL hx λHs ρ tot E sr h k1 k2 k3 k4 kx=>?_;refine⟨Hs,ρ,tot,_,sr,h,λJ H1 aS ds g1 S hz q1=>?_⟩;refine⟨λi m σ H=>m=ds.length-i/\i<=ds.length/\∃ aw bt cf,bq aS aw/\dz K aw bt σ H cf/\eG g b E (ds.drop i) bt,⟨ds.length,by simp,fI _,aS,ρ,tot,bq.refl _,sr.grow g1,by simpa using q1⟩,?_⟩;rintro i m kN H2 ⟨rfl,hi,aE,fe,eW,s2,gS,q2⟩;by_cases iL:i<ds.length
 ·refine .inr ⟨S.go i aE H2 s2 gS.wf iL,λpT H3=>∃ aw bt cf,bq aS aw/\dz K aw bt pT H3 cf/\eG g b E (ds.drop (i+1)) bt,λpT H3 h3=>⟨ds.length-(i+1),by lia,rfl,iL,h3⟩,λx H3 y=>?_⟩;obtain⟨hV,g3,rd⟩:=S.lS i aE H2 x H3 ds[i] s2 gS.wf (by simp[iL]) y;rw[xD iL] at q2;have s3:=s2.trans g3.sh;refine⟨hV,fe,eW,ds[i],_,gS.grow g3,rd,q2,λσ4 kU K2 EF _ q4=>?_⟩;refine⟨hV,kU,K2,_,EF,q4,?_,?_,?_,?_,λn H5 s5=>kx n H5 ((g1.sh.trans s3).trans s5)⟩
  ·exact λA6 H5 kL tq tF s5 tI q5=>⟨kL,tq,tF,s3.trans s5,tI,q5⟩
  ·exact λA6 H5 kL tq tF s5 tI q5=>k1 A6 H5 kL tq tF ((g1.sh.trans s3).trans s5) tI q5
  ·exact λA6 H5 kL tq tF s5 tI q5=>⟨kL,tq,tF,s3.trans s5,tI,q5⟩
  ·exact λv H5 kL m d As s5=>k4 v H5 kL m d As ((g1.sh.trans s3).trans s5)
 ·have e:i=ds.length:=by lia
  subst e;refine .inl ⟨S.stop aE H2 s2 gS.wf,?_⟩;rw[E5] at q2;exact k1 kN H2 aE fe eW (g1.sh.trans s2) gS q2
def cD(xs:List D)(Pv:Nat->Env->Prop)(h0:Pv 0 ρ)(hs:∀ i x ρ,xs[i]? = some x->Pv i ρ->∀ N:Env->Prop,(∀ bt,Pv (i+1) bt->N bt)->g x ρ λkz=>b { E with nx:=N,ct:=N,bk:=E.nx } kz) (hd:∀ ρ,Pv xs.length ρ->E.nx ρ):eG g b E xs ρ:=by
 have go:∀ (k i:Nat) ρ,i+k=xs.length->Pv i ρ->eG g b E (xs.drop i) ρ:=by
  intro k
  induction k with
  |zero =>
   intro i ρ e p;have:i=xs.length:=by lia
   subst this;rw[E5];exact hd ρ p
  |succ k ih =>
   intro i ρ e p;have hi:i<xs.length:=by lia
   rw[xD hi];exact hs i xs[i] ρ (by simp[hi]) p _ λfe h2=>ih (i+1) fe (by lia) h2
 have:=go xs.length 0 ρ (by lia) h0;simpa using this
def xO(c:WT)(b:WS):WS:=λE ρ=>∃ (Pv:Env->Prop) (μ:Env->Nat),Pv ρ/\∀ ρ,Pv ρ->c ρ λk=>if k=true then b { E with nx:=λbt=>Pv bt/\μ bt<μ ρ,ct:=λbt=>Pv bt/\μ bt<μ ρ,bk:=E.nx } ρ else E.nx ρ
def tV(hc:QT X K c tc)(hb:qo X K L body b)(hp:PassesOwn (aT X.prog X.w) X.A X.env X.xe:=by first|exact PassesOwn.never|exact PassesOwn.leaving):QS X K L (.While c body [] pos) (xO tc b):=by
 refine PS.imp (eH' hp hc hb) λD σ H hx=>cL hx λHs ρ tot E sr h k1 k2 k3 k4 kx=>?_;obtain⟨Pv,μ,p0,turn⟩:=h;refine⟨λm σ H=>∃ aw bt cf,bq Hs aw/\dz K aw bt σ H cf/\Pv bt/\μ bt=m,⟨_,Hs,ρ,tot,bq.refl _,sr,p0,rfl⟩,?_⟩;rintro m kN H2 ⟨aE,fe,eW,s2,gS,p2,rfl⟩;refine⟨aE,fe,eW,_,gS,turn fe p2,λk H3 hV g3 q3=>?_⟩
 cases k with
 |false=>exact k1 kN H3 hV fe eW (s2.trans g3.sh) (gS.grow g3) q3
 |true =>
  refine⟨λbX H'=>∃ aw bt cf,bq Hs aw/\dz K aw bt bX H' cf/\Pv bt/\μ bt<μ fe,λbX H' ⟨aw,bt,cf,a,b,c,d⟩=>⟨μ bt,d,aw,bt,cf,a,b,c,rfl⟩,?_⟩;have s3:bq Hs hV:=s2.trans g3.sh;refine⟨hV,fe,eW,_,gS.grow g3,q3,?_,?_,?_,?_,λn H5 s5=>kx n H5 (s3.trans s5)⟩
  ·exact λA6 H5 kL tq tF s5 tI q5=>⟨kL,tq,tF,s3.trans s5,tI,q5.1,q5.2⟩
  ·exact λA6 H5 kL tq tF s5 tI q5=>k1 A6 H5 kL tq tF (s3.trans s5) tI q5
  ·exact λA6 H5 kL tq tF s5 tI q5=>⟨kL,tq,tF,s3.trans s5,tI,q5.1,q5.2⟩
  ·exact λv H5 kL m d As s5=>k4 v H5 kL m d As (s3.trans s5)
end
def EG:WT:=λ_ Q=>Q true
def W8(m:Md)(d:D):Prop:=d.flat=true\/m=.ow true
def jc(g:WG)(tc:WT)(te:WE):List D->Env->(List D->Prop)->Prop
 |[],_,k=>k []
 |x :: xs,ρ,k=>g x ρ λkz=>tc kz λb=>if b=true then te kz λm d=>W8 m d/\jc g tc te xs kz (λout=>k (d :: out)) else jc g tc te xs kz k
def uJ(tn:Nat)(ix:List Nat)(ρ:Env):Env:=List.replicate tn none++ix.map λj=>(ρ[j]?).join.map W3
def oJ(wi:WI)(g:WG)(tc:WT)(te:WE)(tn:Nat)(ix:List Nat):WE:=λρ Q=>wi ρ λds=>jc g tc te ds (uJ tn ix ρ) λout=>Q (.ow true) (.list out)
section
variable {X:Cx}{K:ax}
theorem iU{Hs H G:Hp}(sr:dz K Hs ρ σ H tot)(G':Hp):∀ (ix:List Nat),SR K H G' (ix.map λj=>(ρ[j]?).join.map W3) (ix.map λj=>(σ[j]?).join) []
 |[]=>.nil
 |j :: ix=>by
  have ih:=iU sr G' ix (G:=G);simp only[gX]
  cases e:ρ[j]? with
  |none=>exact .non ih
  |some o =>
   cases o with
   |none=>exact .non ih
   |some sl =>
    obtain⟨v,e1,r⟩:=sr.sr.get e;rw[e1]
    cases sl with
    |sh d=>exact .sh (Rep.same sr.wf.sub r) ih
    |xc a=>subst r;exact .xc ih
    |ob a p=>obtain⟨r,_⟩:=r;subst r;exact .xc ih
    |ow fl d =>obtain⟨As,_,r,_⟩:=r;exact .sh (r.rep sr.wf.sub λ_ _=>rfl) ih
    |lk a fl d =>obtain⟨As,_,r,_⟩:=r;exact .sh (r.rep sr.wf.sub λ_ _=>rfl) ih
theorem j6(s:SR K H G ρ σ []):∀ (n:Nat),SR K H G (List.replicate n none++ρ) (List.replicate n none++σ) []
 |0=>s
 |n+1=>.non (j6 s n)
def SR.heap(s:SR K Hs H ρ σ []):SR K Hs H' ρ σ []:=s.fN (bq.refl _) λa h=>nomatch h
def qw(w:Wf Hs H)(n:Hs p=none)(ho:∀ vs,o≠.tup vs):Wf Hs (upd H p o):=⟨λb u q=>by
  rw[dn (λz=>by subst z;rw[n] at q;cases q)];exact w.sub b u q,λb us q=>by
  by_cases hb:b=p
  ·subst hb;rw[eM] at q;exact absurd (Option.some.inj q) (ho us)
  ·rw[dn hb] at q;exact w.iF b us q⟩
structure CompI(K:ax)(H1:Hp)(b:ag)(acc:List D)(ys:List V)(As:List ag)(Hs:Hp)(ρ:Env)(τ:St)(H:Hp):Prop where
 sm:bq H1 Hs
 sr:dz K Hs ρ τ H []
 eD:H b=some (.lst ys)
 nD:Hs b=none
 ra:aG K Hs H true acc ys As
 nd:(b :: As).Nodup
 own:∀ a∈As,Hs a=none
def CompI.grow(c:CompI K H1 b acc ys As Hs ρ τ H)(g:fv Hs H aw H'):CompI K H1 b acc ys As aw ρ τ H' :=
 ⟨c.sm.trans g.sh,c.sr.grow g,g.all _ _ c.eD,g.qf c.nD (by rw[c.eD];exact λz=>nomatch z),c.ra.grow g.sh g.all,c.nd,λa ha=>g.qf (c.own a ha) (c.ra.own a ha).ne⟩
def CompI.push(c:CompI K H1 b acc ys As Hs ρ τ H)(r:RM K Hs H m d v Bs)(ok:W8 m d)(nb:Bs.Nodup)(fb:∀ a∈Bs,Hs a=none/\a∉b :: As):∃ g7,CompI K H1 b (acc++[d]) (ys++[v]) g7 Hs ρ τ (upd H b (.lst (ys++[v]))):=by
 obtain⟨B,sb,rb⟩:∃ B,B.Sublist Bs/\cS K Hs H true d v B:=by
  rcases ok with hf|rfl
  ·exact⟨[],DL _,.sh (λ_=>hf) (r.flat c.sr.wf hf)⟩
  ·exact⟨Bs,List.Sublist.refl _,r.1⟩
 obtain⟨na,nA⟩:=sv.mp c.nd;have EH:=λa ha=>fb a (sb.subset ha);refine⟨As++(B++[]),c.sm,⟨c.sr.sr.heap,qw c.sr.wf c.nD (λ_ z=>nomatch z),mz,λa h=>nomatch h⟩,eM,c.nD,(c.ra.fN (bq.refl _) λa ha=>dn λz=>na (by subst z;exact ha)).append (.cons (rb.fN (bq.refl _) λa ha=>dn λz=>(EH a ha).2 (by subst z;exact fo)) .nil),?_,?_⟩
 ·rw[kE];refine sv.mpr ⟨λm=>(eK.mp m).elim na λm=>(EH b m).2 fo,iN.mpr ⟨nA,sb.nodup nb,λx hx y hy e=>(EH y hy).2 (e ▸ eA _ hx)⟩⟩
 ·rw[kE];exact λa ha=>(eK.mp ha).elim (c.own a) λm=>(EH a m).1
def yj(h:ui K (oJ wi g tc te tn ix) σ H Qv):vo (W7 K wi) (W5 K g) (CD K tc) (ui K te) tn ix σ H Qv:=by
 obtain⟨Hs,ρ,tot,Q,sr,h,f⟩:=h;refine⟨Hs,ρ,tot,_,sr,h,λJ H1 aS ds g1 S hz q1 b hb=>?_⟩;have st:CompI K H1 b [] [] [] H1 (uJ tn ix ρ) (lM tn ix σ) (upd H1 b (.lst [])):=by
  refine⟨bq.refl _,⟨j6 (iU (G:=H1) (sr.grow g1) _ ix) tn,⟨(bq.refl H1).upd hb,λa xs e=>?_⟩,mz,λa h=>nomatch h⟩,eM,hb,.nil,by simp,λa h=>nomatch h⟩;by_cases ha:a=b
  ·subst ha;rw[eM] at e;cases e
  ·rw[dn ha] at e;exact e
 refine⟨λi m τ H2=>m=ds.length-i/\i<=ds.length/\∃ aE fe acc ys As,CompI K H1 b acc ys As aE fe τ H2/\acc.length<=i/\jc g tc te (ds.drop i) fe (λout=>Q (.ow true) (.list (acc++out))), ⟨ds.length,by simp,fI _,H1,_,[],[],[],st,cx _,by simpa using q1⟩,?_⟩
 rintro i m τ H2 ⟨rfl,hi,aE,fe,acc,ys,As,c,la,q2⟩;by_cases iL:i<ds.length
 ·refine .inr ⟨S.go i aE H2 c.sm c.sr.wf iL,
   λy4 v H4=>∃ yA kU d,CompI K H1 b acc ys As yA kU y4 H4/\(∃ g7,CompI K H1 b (acc++[d]) (ys++[v]) g7 yA kU y4 (upd H4 b (.lst (ys++[v]))))/\jc g tc te (ds.drop (i+1)) kU (λout=>Q (.ow true) (.list (acc++d :: out))),
   λy4 H3=>∃ hV A5,CompI K H1 b acc ys As hV A5 y4 H3/\jc g tc te (ds.drop (i+1)) A5 (λout=>Q (.ow true) (.list (acc++out))),?_,?_,?_⟩
  ·rintro y4 v H4 ⟨yA,kU,d,c4,⟨g7,c5⟩,q4⟩;have W9:=c4.ra.length;exact⟨ys,ds.length-(i+1),c4.eD,by lia,by lia,rfl,iL,yA,kU,acc++[d],ys++[v],g7,c5,by rw[hJ];simpa using la,by simpa using q4⟩
  ·rintro y4 H3 ⟨hV,A5,c3,q3⟩;exact⟨ds.length-(i+1),by lia,rfl,iL,hV,A5,acc,ys,As,c3,by lia,q3⟩
  ·intro x H3 y;obtain⟨hV,g3,rd⟩:=S.lS i aE H2 x H3 ds[i] c.sm c.sr.wf (by simp[iL]) y;rw[xD iL] at q2;have c3:=c.grow g3;refine⟨hV,fe,[],ds[i],_,c3.sr,rd,q2,λW_ kU K2 EF m4 q4=>?_⟩;have t4:K2=[]:=Z2.mpr λa ha=>nomatch m4 a ha;subst t4;have c4:CompI K H1 b acc ys As hV kU W_ H3:=⟨c3.sm,EF,c3.eD,c3.nD,c3.ra,c3.nd,c3.own⟩
   refine⟨hV,kU,[],_,EF,q4,λk H5 kL g5 q5=>?_⟩;have c5:=c4.grow g5
   cases k with
   |false=>exact⟨kL,kU,c5,q5⟩
   |true =>
    refine⟨kL,kU,[],_,c5.sr,q5,λv H6 Za m6 d6 As6 g6 r6 f6 q6=>?_⟩;have c6:=c5.grow g6;refine⟨Za,kU,d6,c6,c6.push r6 q6.1 f6.1 λa ha=>⟨(f6.2 a ha).1,λm=>?_⟩,q6.2⟩;rcases eJ.mp m with rfl|m
    ·have:=(f6.2 _ ha).2;rw[c5.eD] at this;cases this
    ·exact(c5.ra.own a m).ne (f6.2 a ha).2
 ·have e:i=ds.length:=by lia
  subst e;refine .inl ⟨S.stop aE H2 c.sm c.sr.wf,?_⟩;rw[E5] at q2;have q2:Q (.ow true) (.list (acc++[])):=q2;rw[kE] at q2;have W9:=c.ra.length;have rm:RM K aE H2 (.ow true) (.list acc) (.ref b) (b :: As):=⟨.list (by lia) c.eD c.ra,by simp⟩
  obtain⟨g7,r',fr⟩:=lE g1.wf c.sm c.sr.wf rm c.nd λa ha=>(eJ.mp ha).elim (λz=>z ▸ c.nD) (c.own a);exact Fin.after f g1 (.ref b) H2 _ (.ow true) (.list acc) g7 (dw g1.wf c.sm c.sr.wf) r' fr q2
def D8.imp(h:D8 X ifs t)(i:∀ σ H Q,t' σ H Q->t σ H Q):D8 X ifs t':=λpins s σ H Q I q=>h pins s σ H Q I (i σ H Q q)
abbrev Zb(X:Cx)(K:ax)(ifs:List Expr)(t:WT):Prop:=D8 X ifs (CD K t)
def gw:Zb X K [] EG:=D8.imp FW λσ H Qv hx=>ic hx λHs ρ tot Q sr h k=>k true H Hs (fv.refl sr.wf) h
def mq(hi:OS X K tg iter wi)(hg:∀ {C fp h8 ku} {q:(tn++cn).Nodup},QG (aY X scope C (tn++cn) fp h8 ku) K tg g) (Ap:∀ {C fp h8 ku},Zb (aY X scope C (tn++cn) fp h8 ku) K ifs tc) (he:∀ {C fp h8 ku},QE (aY X scope C (tn++cn) fp h8 ku) K elt te)(hs:∀ x,E2 iter X.env x=pure x:=by intro _;rfl) (nd:(tn++cn).Nodup:=by decide +kernel) (O:dZ X scope tn cn ix:=by exact dZ.by (by assumption) (by decide +kernel)) (hc:autoParam (X.calm=true) bv):QE X K (.ListComp elt [⟨tg,iter,ifs,0⟩] scope pos) (oJ wi g tc te tn.length ix) :=
 PE.imp (El hc hi O (λ_ _ _ _=>hg (q:=nd)) (λ_ _ _ _=>Ap) (λ_ _ _ _=>he) hs) λσ H Qv h=>yj h
end
def cY(p:D->Bool)(f:D->D)(Iv:Env->Prop):∀ (xs:List D) (ρ:Env) (k:List D->Prop),Iv ρ -> (∀ x∈xs,∀ ρ,Iv ρ->∀ N1:Env->Prop,∀ N2:Env->D->Prop,(∀ bt,Iv bt->p x=false->N1 bt)->(∀ bt,Iv bt->p x=true->N2 bt (f x))->g x ρ λkz=>tc kz λb=>if b=true then te kz λm d=>W8 m d/\N2 kz d else N1 kz) ->
  k ((xs.filter p).map f)->jc g tc te xs ρ k
 |[],_,k,_,_,h=>h
 |x :: xs,ρ,k,iv,hs,h=>by
  refine hs x fo ρ iv _ _ (λbt Lc hp=>?_) (λbt Lc hp=>?_)
  ·exact cY p f Iv xs bt k Lc (λy hy=>hs y (eA _ hy)) (by simpa[hp] using h)
  ·exact cY p f Iv xs bt _ Lc (λy hy=>hs y (eA _ hy)) (by simpa[hp] using h)
def Upd(K:ax)(Hs H:Hp)(σ:St)(fl:Bool)(v:V)(up:Bool->D->Env)(g7:List ag):Prop:=∀ aE H2 dQ d2 ip,bq Hs aE->Wf aE H2->(∀ a,Hs a=none->H a≠none->aE a=none)->(dQ=true->fl=true) ->
  cS K aE H2 dQ d2 v ip->ip≠[]->ip.Nodup->(∀ a∈ip,aE a=none/\(a∈g7\/H a=none))->(∀ a,H a≠none->a∉g7->H2 a=H a)->∃ eW,dz K aE (up dQ d2) σ H2 eW
structure Place(K:ax)(Hs H:Hp)(σ:St)(fl:Bool)(d:D)(v:V)(up:Bool->D->Env):Prop where
 ex:∃ g7,cS K Hs H fl d v g7/\g7≠[]/\g7.Nodup/\(∀ a∈g7,Hs a=none)/\Upd K Hs H σ fl v up g7
def Upd.node{K:ax}(k:Upd K Hs H σ fl (.ref a) up (a :: A))(g:fv Hs H aE H2)(own:∀ x∈a :: A,Hs x=none/\H x≠none)(ho:∀ vs,o≠.tup vs)(hf:dQ=true->fl=true)(r:cS K aE (upd H2 a o) dQ d2 (.ref a) (a :: C)) (nC:C.Nodup) (UB:a∉C) (hC:∀ x∈C,x∈A\/(aE x=none/\H x=none)):∃ eW,dz K aE (up dQ d2) σ (upd H2 a o) eW:=by
 have hn:∀ x∈a :: A,aE x=none:=λx hx=>g.qf (own x hx).1 (own x hx).2;refine k aE _ dQ d2 (a :: C) g.sh (qw g.wf (hn a fo) ho) (λb h1 h2=>g.qf h1 h2) hf r (SQ _ _) (sv.mpr ⟨UB,nC⟩) (λb hb=>?_) λb h1 h2=>?_
 ·rcases eJ.mp hb with rfl|hb
  ·exact⟨hn _ fo,.inl fo⟩
  ·exact(hC b hb).elim (λq=>⟨hn b (eA _ q),.inl (eA _ q)⟩) λq=>⟨q.1,.inr q.2⟩
 ·rw[dn λz=>h2 (by subst z;exact fo)]
  cases q:H b with
  |none=>exact absurd q h1
  |some o=>exact g.all b o q
abbrev WP:=Env->(Bool->D->(Bool->D->Env)->Prop)->Prop
def tpP(K:ax)(t:WP):TE:=λσ H Qv=>∃ Hs ρ tot Q,dz K Hs ρ σ H tot/\t ρ Q/\∀ v H' aw fl d up,fv Hs H aw H'->Place K aw H' σ fl d v up->Q fl d up->Qv v H'
abbrev QP(X:Cx)(K:ax)(e:Expr)(t:WP):Prop:=PE X e (tpP K t)
section
variable {K:ax}{Hs H:Hp}{σ:St}{fl:Bool}{d:D}{v:V}
def cS.ne2:(∀ {d:D} {v:V} {As:List ag},cS K Hs H true d v As->d.flat=false->As≠[])/\∀ {ds:List D} {vs:List V} {As:List ag},aG K Hs H true ds vs As->dv ds=false->As≠[] :=
 cS.ind (λ_ _ f _ h=>by rw[f rfl] at h;cases h) (λ_ _ _ _ _ _ _ _ _=>SQ _ _) (λ_ _ _ _ _ _ n _ ih _=>ih n) (λ_ _ _ _ _ _ _ _ _=>SQ _ _) (λ_ _ _ _ _ _ _ _ _=>SQ _ _) (λh=>by simp[dv] at h) λd _ _ _ _ _ _ _ i1 i2 h=>by
   cases e:d.flat with
   |false=>exact λz=>i1 e (PF.mp z).1
   |true =>simp only[dv,e,QN] at h;exact λz=>i2 h (PF.mp z).2
def cS.ne(r:cS K Hs H true d v As)(h:d.flat=false):As≠[]:=cS.ne2.1 r h
def aG.ne(r:aG K Hs H true ds vs As)(h:dv ds=false):As≠[]:=cS.ne2.2 r h
def uk(i:Nat):WP:=λρ Q=>match ρ[i]? with
 |some (some (.ow fl d))=>Q fl d λdQ d2=>ρ.set i (some (.ow dQ d2))
 |_=>False
def SR.put(i:Nat)(s:SR K Hs H ρ σ tot):ρ[i]? = some (some (.ow fl d))->tot.Nodup ->
  ∃ (v:V) (As cf:List ag),σ[i]? = some (some v)/\As≠[]/\cS K Hs H fl d v As/\As.Sublist tot/\∀ aE H2 dQ d2 ip,bq Hs aE->cS K aE H2 dQ d2 v ip->ip≠[]->ip.Nodup->(∀ a∈ip,a∈tot->a∈As)->(∀ a∈tot,a∉As->H2 a=H a) ->
   ∃ eW,eW.Nodup/\(∀ a∈eW,a∈tot\/a∈ip)/\SR K aE H2 (ρ.set i (some (.ow dQ d2))) σ eW:=by
 induction s generalizing i with
 |nil=>intro e;simp at e
 |@non ρ σ tot o q ih =>
  intro e n
  cases i with
  |zero=>simp at e
  |succ i =>obtain⟨v,As,t,a,b,c,d,g⟩:=ih i (by simpa using e) n;refine⟨v,As,t,by simpa using a,b,c,d,λaE H2 dQ d2 ip s2 r2 ne2 oy dj st=>?_⟩;obtain⟨t2,x,y,z⟩:=g aE H2 dQ d2 ip s2 r2 ne2 oy dj st;exact⟨t2,x,y,.non z⟩
 |sh r q ih =>
  intro e n
  cases i with
  |zero=>simp at e
  |succ i =>obtain⟨v,As,t,a,b,c,d,g⟩:=ih i (by simpa using e) n;refine⟨v,As,t,by simpa using a,b,c,d,λaE H2 dQ d2 ip s2 r2 ne2 oy dj st=>?_⟩;obtain⟨t2,x,y,z⟩:=g aE H2 dQ d2 ip s2 r2 ne2 oy dj st;exact⟨t2,x,y,.sh (r.same s2) z⟩
 |xc q ih =>
  intro e n
  cases i with
  |zero=>simp at e
  |succ i =>obtain⟨v,As,t,a,b,c,d,g⟩:=ih i (by simpa using e) n;refine⟨v,As,t,by simpa using a,b,c,d,λaE H2 dQ d2 ip s2 r2 ne2 oy dj st=>?_⟩;obtain⟨t2,x,y,z⟩:=g aE H2 dQ d2 ip s2 r2 ne2 oy dj st;exact⟨t2,x,y,.xc z⟩
 |@ow ρ σ t2 B fl0 d0 v ne r q ih =>
  intro e n;obtain⟨n1,n2,n3⟩:=iN.mp n
  cases i with
  |zero =>
   obtain⟨rfl,rfl⟩:=e;refine⟨v,B,t2,rfl,ne,r,L4 _ _,λaE H2 dQ d2 ip s2 r2 ne2 oy dj st=>⟨ip++t2,iN.mpr ⟨oy,n2,λa ha b hb e=>?_⟩,λa h=>?_,.ow ne2 r2 (q.fN s2 λa h=>st a (eP _ h) λz=>n3 a z a h rfl)⟩⟩
   ·subst e;exact n3 a (dj a ha (eP _ hb)) a hb rfl
   ·exact(eK.mp h).symm.imp (λz=>eP _ z) id
  |succ i =>
   obtain⟨v,As,t,a,b,c,d,g⟩:=ih i (by simpa using e) n2;have hB:∀ x∈B,x∉As:=λx hx m=>n3 x hx x (d.subset m) rfl;refine⟨v,As,B++t,by simpa using a,b,c,d.trans (mn _ _),λaE H2 dQ d2 ip s2 r2 ne2 oy dj st=>?_⟩;obtain⟨t2,x,y,z⟩:=g aE H2 dQ d2 ip s2 r2 ne2 oy (λa ha m=>dj a ha (eP _ m)) λa ha m=>st a (eP _ ha) m;refine⟨B++t2,iN.mpr ⟨n1,x,λa ha b hb e=>?_⟩,λa h=>?_,.ow ne (r.fN s2 λa h=>st a (jI _ h) (hB a h)) z⟩
   ·subst e;rcases y a hb with w|w
    ·exact n3 a ha a w rfl
    ·exact hB a ha (dj a w (jI _ ha))
   ·rcases eK.mp h with w|w
    ·exact .inl (jI _ w)
    ·exact(y a w).imp (λw=>eP _ w) id
 |@lk ρ σ t2 B a0 fl0 d0 ne r q ih =>
  intro e n;obtain⟨n1,n2,n3⟩:=iN.mp n
  cases i with
  |zero=>simp at e
  |succ i =>
   obtain⟨v,As,t,a,b,c,d,g⟩:=ih i (by simpa using e) n2;have hB:∀ x∈B,x∉As:=λx hx m=>n3 x hx x (d.subset m) rfl;refine⟨v,As,B++t,by simpa using a,b,c,d.trans (mn _ _),λaE H2 dQ d2 ip s2 r2 ne2 oy dj st=>?_⟩;obtain⟨t2,x,y,z⟩:=g aE H2 dQ d2 ip s2 r2 ne2 oy (λa ha m=>dj a ha (eP _ m)) λa ha m=>st a (eP _ ha) m;refine⟨B++t2,iN.mpr ⟨n1,x,λa ha b hb e=>?_⟩,λa h=>?_,.lk ne (r.fN s2 λa h=>st a (jI _ h) (hB a h)) z⟩
   ·subst e;rcases y a hb with w|w
    ·exact n3 a ha a w rfl
    ·exact hB a ha (dj a w (jI _ ha))
   ·rcases eK.mp h with w|w
    ·exact .inl (jI _ w)
    ·exact(y a w).imp (λw=>eP _ w) id
 |@ob ρ σ t2 B a0 p0 r q ih =>
  intro e n;obtain⟨n1,n2,n3⟩:=iN.mp n
  cases i with
  |zero=>simp at e
  |succ i =>
   obtain⟨v,As,t,a,b,c,d,g⟩:=ih i (by simpa using e) n2;have hB:∀ x∈B,x∉As:=λx hx m=>n3 x hx x (d.subset m) rfl;refine⟨v,As,B++t,by simpa using a,b,c,d.trans (mn _ _),λaE H2 dQ d2 ip s2 r2 ne2 oy dj st=>?_⟩;obtain⟨t2,x,y,z⟩:=g aE H2 dQ d2 ip s2 r2 ne2 oy (λa ha m=>dj a ha (eP _ m)) λa ha m=>st a (eP _ ha) m;refine⟨B++t2,iN.mpr ⟨n1,x,λa ha b hb e=>?_⟩,λa h=>?_,.ob (p0.fN (iG s2) (λa h=>st a (jI _ h) (hB a h)) r) z⟩
   ·subst e;rcases y a hb with w|w
    ·exact n3 a ha a w rfl
    ·exact hB a ha (dj a w (jI _ ha))
   ·rcases eK.mp h with w|w
    ·exact .inl (jI _ w)
    ·exact(y a w).imp (λw=>eP _ w) id
def bY{X:Cx}(h:PE X e (i5 i)):QP X K e (uk i):=PE.imp h λσ H Qv hx=>ic hx λHs ρ tot Q sr h f=>by
 unfold uk at h;split at h
 ·rename_i fl d e1;obtain⟨v,As,t,e2,ne,r,sb,g⟩:=SR.put i sr.sr e1 sr.ox;refine⟨v,e2,f v H Hs fl d _ (fv.refl sr.wf) ⟨As,r,ne,sb.nodup sr.ox,λa h=>sr.own a (sb.subset h),λaE H2 dQ d2 ip s2 w2 n2 _ r2 ne2 oy o2 st=>?_⟩ h⟩;obtain⟨t2,x,y,z⟩:=g aE H2 dQ d2 ip s2 r2 ne2 oy (λa ha m=>(o2 a ha).2.elim id λq=>absurd q (sr.sr.own a m).ne) λa ha m=>st a (sr.sr.own a ha).ne m;exact⟨t2,z,w2,x,λa h=>(y a h).elim (λq=>n2 a (sr.own a q) (sr.sr.own a q).ne) λq=>(o2 a q).1⟩
 ·exact h.elim
def cS.wk(h:dQ=true->fl=true)(r:cS K Hs H fl d v As):cS K Hs H dQ d v As:=by
 cases dQ with
 |false=>exact r.Uv
 |true=>rw[h rfl] at r;exact r
def aG.wk{fl dQ:Bool}{d:List D}{v:List V}{As:List ag}(h:dQ=true->fl=true)(r:aG K Hs H fl d v As):aG K Hs H dQ d v As:=by
 cases dQ with
 |false=>exact r.Uv
 |true=>rw[h rfl] at r;exact r
def aG.at(r:aG K Hs H fl ds vs As)(e:ds[j]? = some d)(n:As.Nodup) :
  ∃ (v:V) (B:List ag),vs[j]? = some v/\cS K Hs H fl d v B/\B.Sublist As/\∀ aE H2 dQ d2 B2,bq Hs aE->(dQ=true->fl=true)->cS K aE H2 dQ d2 v B2->B2.Nodup->(∀ a∈B2,a∈As->a∈B)->(∀ a∈As,a∉B->H2 a=H a) ->
   ∃ ip,ip.Nodup/\(∀ a∈ip,(a∈As/\a∉B)\/a∈B2)/\(B2≠[]->ip≠[])/\aG K aE H2 dQ (ds.set j d2) vs ip:=by
 induction ds generalizing vs As j with
 |nil=>simp at e
 |cons x ds ih =>
  obtain⟨v,us,A,B,rfl,rfl,r,rs⟩:=r.c;obtain⟨n1,n2,n3⟩:=iN.mp n
  cases j with
  |zero =>
   simp at e;subst e;refine⟨v,A,rfl,r,L4 _ _,λaE H2 dQ d2 B2 s2 hf r2 oy dj st=>⟨B2++B,iN.mpr ⟨oy,n2,λa ha b hb e=>?_⟩,λa h=>?_,λne z=>ne (PF.mp z).1,.cons r2 ((rs.wk hf).fN s2 λa h=>st a (eP _ h) λz=>n3 a z a h rfl)⟩⟩
   ·subst e;exact n3 a (dj a ha (eP _ hb)) a hb rfl
   ·rcases eK.mp h with w|w
    ·exact .inr w
    ·exact .inl ⟨eP _ w,λz=>n3 a z a w rfl⟩
  |succ j =>
   obtain⟨v,C,a,b,c,g⟩:=ih rs (by simpa using e) n2;have hA:∀ x∈A,x∉C:=λx hx m=>n3 x hx x (c.subset m) rfl;refine⟨v,C,by simpa using a,b,c.trans (mn _ _),λaE H2 dQ d2 B2 s2 hf r2 oy dj st=>?_⟩;obtain⟨ip,x,y,w,z⟩:=g aE H2 dQ d2 B2 s2 hf r2 oy (λa ha m=>dj a ha (eP _ m)) λa ha m=>st a (eP _ ha) m;refine⟨A++ip,iN.mpr ⟨n1,x,λa ha b hb e=>?_⟩,λa h=>?_,λne q=>w ne (PF.mp q).2,.cons ((r.wk hf).fN s2 λa h=>st a (jI _ h) (hA a h)) z⟩
   ·subst e;rcases y a hb with q|q
    ·exact n3 a ha a q.1 rfl
    ·exact hA a ha (dj a q (jI _ ha))
   ·rcases eK.mp h with q|q
    ·exact .inl ⟨jI _ q,hA a q⟩
    ·exact(y a q).imp (λq=>⟨eP _ q.1,q.2⟩) id
def HR{α:Type}{xs:List α}{i:Int}{x:α}(h:fP xs i=some x):∃ j,xk xs.length i=some j/\xs[j]? = some x:=by
 unfold L2.fP at h
 cases e:xk xs.length i with
 |none=>rw[e] at h;cases h
 |some j=>rw[e] at h;exact⟨j,rfl,h⟩
def Hf{α:Type}{xs:List α}{i:Int}{j:Nat}{x:α}(h:xk xs.length i=some j)(e:xs[j]? = some x):fP xs i=some x:=by unfold L2.fP;rw[h];exact e
end
section
variable {X:Cx}{K:ax}{e:Expr}{p:WP}{te:WE}{apos eI pos:Pos}
def iw(fl:Bool)(m:Md)(d:D):Option Bool:=match m with
 |.sh=>some (fl && d.flat)
 |.ow b=>some (fl && b)
 |_=>bif d.flat then some fl else none
def AH(p:WP)(te:WE):WS:=λE ρ=>p ρ λfl d up=>match d with
 |.list xs=>te ρ λm x=>xs.length<bI/\match iw fl m x with
  |some dQ=>E.nx (up dQ (.list (xs++[x])))
  |none=>False
 |_=>False
def tQ(w:Wf Hs H)(r:RM K Hs H m d v As)(h:iw fl m d=some dQ):(dQ=true->fl=true)/\∃ B,B.Sublist As/\cS K Hs H dQ d v B:=by
 cases m with
 |sh =>cases h;exact⟨λz=>by cases fl<;>simp_all,[],DL _,.sh (λz=>by cases fl<;>simp_all) r.2⟩
 |ow b =>cases h;refine⟨λz=>by cases fl<;>simp_all,As,List.Sublist.refl _,r.1.wk λz=>by cases fl<;>simp_all⟩
 |_ =>
  cases hf:d.flat with
  |true =>simp only[iw,hf,cond_true,Option.some.injEq] at h;subst h;exact⟨id,[],DL _,.sh (λ_=>hf) (r.flat w hf)⟩
  |false=>simp[iw,hf] at h
def Place.put(pl:Place K aS H1 σ fl (.list xs) v up)(g:fv aS H1 aE H2) :
  ∃ a vs A,v=.ref a/\H2 a=some (.lst vs)/\H1 a=some (.lst vs)/\aG K aE H2 fl xs vs A/\(a :: A).Nodup/\(∀ x∈a :: A,aE x=none/\H1 x≠none) /\
   ∀ dQ ys ws C,(dQ=true->fl=true)->aG K aE H2 dQ ys ws C->ws.length<=bI->C.Nodup->a∉C->(∀ x∈C,x∈A\/(aE x=none/\H1 x=none))->∃ eW,dz K aE (up dQ (.list ys)) σ (upd H2 a (.lst ws)) eW:=by
 obtain⟨g7,r,ne,nd,own,k⟩:=pl.ex
 cases r with
 |sh hf _=>exact absurd rfl ne
 |@list a vs _ A hz e rs =>
  have e2:=g.all _ _ e;have UC:=rs.grow g.sh g.all;have hw:∀ x∈a :: A,aS x=none/\H1 x≠none:=λx hx=>⟨own x hx,by
   rcases eJ.mp hx with rfl|hx
   ·rw[e];exact λz=>nomatch z
   ·exact(rs.own x hx).ne⟩
  exact⟨a,vs,A,rfl,e2,e,UC,nd,λx hx=>⟨g.qf (hw x hx).1 (hw x hx).2,(hw x hx).2⟩,λdQ ys ws C hf qa hz ndC UB hC=>k.node g hw (λ_ z=>by cases z) hf (.list hz eM (qa.fN (bq.refl _) λb hb=>dn λz=>UB (by subst z;exact hb))) ndC UB hC⟩
def Place.Zc(w:Wf aS H1)(pl:Place K aS H1 σ fl (.list xs) v up):∃ a vs,v=.ref a/\eL K H1 a vs:=by
 obtain⟨g7,r,ne,nd,own,k⟩:=pl.ex
 cases r with
 |sh hf _=>exact absurd rfl ne
 |list hz e rs=>exact⟨_,_,rfl,.inl (.inl e)⟩
def g8 (ho:QP X K e p) (he:QE X K e2 te) (hK:autoParam (X.K=K) bv) (hs:autoParam (nI (.Call (.Attribute e "append" apos) [e2] [] eI) none pos.line X.env=pure false) bv) (qc:autoParam (vj e "append" X.env (b4 e X.env)=b4 e X.env) bv) (vF:autoParam (((gy eI (bE [e2] X.env)).all (λx=>!x.1) && (zk eI (zi [] X.env)).all (λx=>x.1.isSome)
   && decide ([e2].length+([]:List qV).length+(if ([]:List qV).isEmpty then 0 else 1)<30))=true) bv)
  (hline:autoParam ((apos.endLine == eI.line)=true) bv) (oS:autoParam (bE (e2 :: []) X.env=(false,b4 e2 X.env) :: bE [] X.env) bv) (vS:autoParam ((gy eI (bE [] X.env)).any (·.1)=false) bv) :
  QS X K L (.Expr (.Call (.Attribute e "append" apos) [e2] [] eI) pos) (AH p te):=by
 subst hK;refine PS.imp (IG (Jn PySem.F.plainAttrs_list PySem.F.slot_list_append PySem.F.type_list_append Rp ho (kf he k7 oS) qc vF hline oS vS) hs) λD σ H hx=>cV hx λHs ρ tot E sr h k1 k2 k3 k4=>?_;refine⟨Hs,ρ,tot,_,sr,h,λv H1 aS fl d up g1 p1 q1=>?_⟩
 cases d with
 |list xs =>
  obtain⟨a1,vs1,e1,s1⟩:=p1.Zc g1.wf;subst e1;refine⟨.inl ⟨rfl,_,s1⟩,aS,ρ,tot,_,sr.grow g1,q1,λy H2 aE m x As g2 r2 f2 q2=>?_⟩;obtain⟨hz,q2⟩:=q2;obtain⟨a,vs,A,ea,e2,_,rs,nd,hn,k⟩:=p1.put g2;cases ea;have hl:=rs.length;refine⟨a1,vs,y,rfl,rfl,e2,by lia,?_⟩
  cases hp:iw fl m x with
  |none=>rw[hp] at q2;exact q2.elim
  |some dQ =>
   rw[hp] at q2;obtain⟨hf,B,sb,rb⟩:=tQ g2.wf r2 hp;obtain⟨na,nA⟩:=sv.mp nd;have fB:∀ x∈B,aE x=none/\H1 x=none:=λx hx=>f2.2 x (sb.subset hx);have c1:(A++(B++[])).Nodup:=by rw[kE];exact iN.mpr ⟨nA,sb.nodup f2.1,λx hx z hz e=>by subst e;exact(hn x (eA _ hx)).2 (fB x hz).2⟩
   have c2:a1∉A++(B++[]):=by
    rw[kE];intro m;rcases eK.mp m with m|m
    ·exact na m
    ·exact(hn _ fo).2 (fB _ m).2
   have c3:∀ x∈A++(B++[]),x∈A\/(aE x=none/\H1 x=none):=by rw[kE];intro x hx;exact(eK.mp hx).imp id λz=>fB x z
   obtain⟨eW,gS⟩:=k dQ (xs++[x]) (vs++[y]) (A++(B++[])) hf ((rs.wk hf).append (.cons rb .nil)) (by rw[hJ];simp;lia) c1 c2 c3;exact k1 σ _ aE _ eW (g1.sh.trans g2.sh) gS q2
 |_=>exact q1.elim
def yO:WE:=λ_ Q=>Q (.ow true) (.dK [])
def Gv:QE X K (.Dict [] [] pos) yO:=PE.imp gZ' λσ H Qv hx=>ic hx λHs ρ tot Q sr h f=>λa ha =>
 f _ _ Hs (.ow true) (.dK []) [a] (N4 sr.wf ha λ_ z=>nomatch z) ⟨.dK ⟨fI _,λp hp=>nomatch hp⟩ eM .nil,by simp⟩ ⟨by simp,λb hb=>by
  obtain rfl:b=a:=by simpa using hb
  exact⟨sr.wf.sub.free ha,ha⟩⟩ h
section
variable {κ:Type}[DecidableEq κ]
def xX{Hs H:Hp}{fl:Bool}{k:κ}{d:D}{v:V}(r:cS K Hs H fl d v []){ae:List (κ × D)}{vs:List V}{As:List ag}(qs:aG K Hs H fl (ae.map (·.2)) vs As):∃ ws Bs,Bs.Sublist As /\
  aG K Hs H fl ((ae.map λkv=>if kv.1=k then (kv.1,d) else kv).map (·.2)) ws Bs/\((ae.map (·.1)).zip vs).map (λkv=>if kv.1=k then (kv.1,v) else kv)=(((ae.map λkv=>if kv.1=k then (kv.1,d) else kv)).map (·.1)).zip ws:=by
 induction ae generalizing vs As with
 |nil=>exact⟨[],[],DL _,.nil,rfl⟩
 |cons p ae ih =>
  obtain⟨u,vs,A,B,rfl,rfl,q,qs⟩:=aG.c qs;obtain⟨ws,Bs,sb,rs,e⟩:=ih qs;by_cases h:p.1=k
  ·refine⟨v :: ws,[]++Bs,by simpa using sb.trans (mn _ _),?_,?_⟩
   ·simp only[gX,h,if_true];exact .cons r rs
   ·simp only[gX,PR,h,if_true,e]
  ·refine⟨u :: ws,A++Bs,sb.append_left _,?_,?_⟩
   ·simp only[gX,h,if_false];exact .cons q rs
   ·simp only[gX,PR,h,if_false,e]
def zK{Hs H:Hp}{fl:Bool}{k:κ}{d:D}{v:V}(r:cS K Hs H fl d v []){ae:List (κ × D)}{vs:List V}{As:List ag}(q:aG K Hs H fl (ae.map (·.2)) vs As) :
  ∃ ws Bs,Bs.Sublist As/\aG K Hs H fl ((ti ae k d).map (·.2)) ws Bs/\putK ((ae.map (·.1)).zip vs) k v=((ti ae k d).map (·.1)).zip ws:=by
 have hl:=q.length;rw[dr] at hl;unfold putK ti;rw[Dw hl]
 cases h:ae.any λkv=>decide (kv.1=k) with
 |true =>exact xX r q
 |false =>
  simp only[xI,if_false];refine⟨vs++[v],As++([]++[]),by simp,?_,?_⟩
  ·rw[kF];exact q.append (.cons r .nil)
  ·rw[kF,List.zip_append (by rw[dr];exact hl)];rfl
def vU{Hs H:Hp}{fl:Bool}{k:κ}{d:D}{v:V}(r:Rep K Hs d v)(hd:d.flat=true){ae:List (κ × D)}{vs:List V}{As:List ag}(q:aG K Hs H fl (ae.map (·.2)) vs As) :
  ∃ ws Bs,Bs.Sublist As/\aG K Hs H fl ((ti ae k d).map (·.2)) ws Bs/\putK ((ae.map (·.1)).zip vs) k v=((ti ae k d).map (·.1)).zip ws:=zK (.sh (λ_=>hd) r) q
def tY{β:Type}(ae:List (κ × β))(k:κ)(v:β):(ti ae k v).length<=ae.length+1:=by
 unfold ti;split
 ·rw[dr];exact Nat.le_add_right _ _
 ·simp
def sU{β:Type}{ae:List (κ × β)}{k:κ}{v:β}{p:κ × β}(h:p∈ti ae k v):p.1=k\/p.1∈ae.map (·.1):=by
 unfold ti at h;split at h
 ·obtain⟨q,hq,e⟩:=iq.mp h;by_cases hk:q.1=k
  ·rw[if_pos hk] at e;subst e;exact .inl hk
  ·rw[if_neg hk] at e;subst e;exact .inr (iq.mpr ⟨q,hq,rfl⟩)
 ·rcases eK.mp h with h|h
  ·exact .inr (iq.mpr ⟨p,h,rfl⟩)
  ·have:p=(k,v):=by simpa using h
   subst this;exact .inl rfl
end
def Ab(p:WP)(tk tv:WE):WS:=λE ρ=>tv ρ λ_ x=>p ρ λfl d up=>tk ρ λ_ y=>x.flat=true/\match d with
 |.dK ae=>∃ k,y.key1=some k/\ae.length<bI/\E.nx (up fl (.dK (ti ae k x)))
 |.dT ae=>match y with
  |.tup ys=>∃ ks,fX ys=some ks/\ae.length<bI/\E.nx (up fl (.dT (ti ae ks x)))
  |_=>False
 |_=>False
def qU(r:Rep K H d v)(h:d.key1=some k):tf k=true:=by
 cases r<;>simp[D.key1] at h<;>subst h
 ·rfl
 ·rename_i hz;simp[tf,hz]
def zQ(r:bP K H ds vs)(h:fX ds=some ks):ks.length=ds.length/\∀ k∈ks,tf k=true:=by
 induction ds generalizing vs ks with
 |nil=>simp[fX] at h;subst h;exact⟨rfl,λk hk=>nomatch hk⟩
 |cons d ds ih =>
  obtain⟨u,us,rfl,r,rs⟩:=r.c;unfold fX at h
  cases e1:d.key1 with
  |none=>rw[e1] at h;simp at h
  |some k =>
   cases e2:fX ds with
   |none=>rw[e1,e2] at h;simp at h
   |some ks' =>
    rw[e1,e2] at h;simp at h;subst h;obtain⟨a,b⟩:=ih rs e2;refine⟨by simp[a],λj hj=>?_⟩;rcases eJ.mp hj with rfl|hj
    ·exact qU r e1
    ·exact b j hj
def wN{a b c:Expr}{tk tv:WE}{pos':Pos}(ho:QP X K a p)(hi:QE X K b tk)(hv:QE X K c tv)(hs:autoParam (nI c (some (.Subscript a b pos')) pos.line X.env=pure false) bv)(hu:X.A.units+64<gV:=by assumption) :
  QS X K L (.Assign [.Subscript a b pos'] c pos) (Ab p tk tv):=by
 refine PS.imp (gX' (by lia) ho hi hv hs) λD σ H hx=>cV hx λHs ρ tot E sr h k1 k2 k3 k4=>?_;refine⟨Hs,ρ,tot,_,sr,h,λv H1 aS m1 x As1 g1 r1 f1 q1=>⟨aS,ρ,tot,_,sr.grow g1,q1,λu H2 aE fl d up g2 p2 q2=>⟨aE,ρ,tot,_,(sr.grow g1).grow g2,q2,λy H3 hV m3 yd As3 g3 r3 f3 q3=>?_⟩⟩⟩;obtain⟨hx,q3⟩:=q3;have rx:Rep K hV x v:=((r1.grow g2).grow g3).flat g3.wf hx;have ry:=r3.rep g3.wf;obtain⟨g7,r,ne,nd,own,k⟩:=p2.ex;have sm:bq Hs hV:=(g1.sh.trans g2.sh).trans g3.sh;have lv:∀ x∈g7,aE x=none/\H2 x≠none:=λx hx=>⟨own x hx,(r.own x hx).ne⟩
 cases r with
 |sh hf _=>exact absurd rfl ne
 |@dK a0 vs ae A kk e rs =>
  obtain⟨key,hk,hz,q⟩:=q3;have ey:=ry.key hk;subst ey;obtain⟨na,nA⟩:=sv.mp nd;obtain⟨ws,Bs,sb,qa,ew⟩:=vU rx hx (rs.grow g3.sh g3.all);have hl:ae.length=vs.length:=by have:=rs.length;rwa[dr] at this
  refine⟨a0,_,rfl,Fu.k (g3.all _ _ e) (by rw[SV,dr,<- hl,S4];exact hz),?_⟩;rw[ew];have nB:a0∉Bs:=λz=>na (sb.subset z);obtain⟨eW,gS⟩:=k.node g3 lv (λ_ z=>by cases z) id (.dK ⟨iO (tY _ _ _) hz,λp hp=>(sU hp).elim (λz=>by rw[z];exact qU ry hk) λz=>by obtain⟨p',sR,e'⟩:=iq.mp z;rw[<- e'];exact kk.2 p' sR⟩ eM (qa.fN (bq.refl _) λb hb=>dn λz=>nB (by subst z;exact hb))) (sb.nodup nA) nB λb hb=>.inl (sb.subset hb)
  exact k1 σ _ hV _ eW sm gS q
 |@dT a0 vs ae A kk e rs =>
  cases ry with
  |tup t1 e1 OL =>
   obtain⟨key,hk,hz,q⟩:=q3;obtain⟨b,eb,e5⟩:=Rep.N3 (.tup t1 e1 OL) hk;cases eb;obtain⟨kl,ko⟩:=zQ OL hk;obtain⟨na,nA⟩:=sv.mp nd;obtain⟨ws,Bs,sb,qa,ew⟩:=vU rx hx (rs.grow g3.sh g3.all);have hl:ae.length=vs.length:=by have:=rs.length;rwa[dr] at this
   refine⟨a0,_,rfl,Fu.t (g3.all _ _ e) e5 (by rw[SV,dr,<- hl,S4];exact hz),?_⟩;rw[ew];have nB:a0∉Bs:=λz=>na (sb.subset z);have l1:=OL.length;obtain⟨eW,gS⟩:=k.node g3 lv (λ_ z=>by cases z) id (.dT ⟨iO (tY _ _ _) hz,λp hp=>(sU hp).elim (λz=>by rw[z];exact⟨by lia,ko⟩) λz=>by obtain⟨p',sR,e'⟩:=iq.mp z;rw[<- e'];exact kk.2 p' sR⟩ eM (qa.fN (bq.refl _) λb hb=>dn λz=>nB (by subst z;exact hb))) (sb.nodup nA) nB λb hb=>.inl (sb.subset hb)
   exact k1 σ _ hV _ eW sm gS q
  |_=>exact q3.elim
 |_=>exact q3.elim
end
abbrev WJ:=Env->Str->(Str->Prop)->Prop
section
variable {X:Cx}{K:ax}{e:Expr}{te:WE}{j:WJ}
def iM:List D->Option (List Str)
 |[]=>some []
 |.str x :: xs=>(iM xs).map (x :: ·)
 |_ :: _=>none
def gn(to te:WE):WE:=λρ Q=>to ρ λ_ x=>match x with
 |.str z=>te ρ λ_ y=>match y with
  |.list ys=>∃ zs,iM ys=some zs/\(zs.map (·.length)).sum+zs.length*z.length<=16777216/\Q .sh (.str (Str.join z zs))
  |_=>False
 |_=>False
def zV(r:bP K H ds vs)(q:Vals vs us)(h:iM ds=some zs):StrsAre us zs:=by
 induction ds generalizing vs us zs with
 |nil =>simp[iM] at h;subst h;have:=r.n0;subst this;rw[Paired.n0 q];exact .nil
 |cons d ds ih =>
  obtain⟨v,vs,rfl,r1,rs⟩:=r.c;obtain⟨u,us,rfl,q1,qs⟩:=Paired.c q
  cases r1 with
  |str hz =>
   simp only[iM] at h
   cases e:iM ds with
   |none=>rw[e] at h;cases h
   |some ys =>rw[e] at h;cases h;obtain⟨t,rfl⟩:=q1;exact .cons _ t (ih rs qs e)
  |_=>simp[iM] at h
def Ey (hK:autoParam (X.K=K) bv):TV X "str.join" (λx xs H Q=>∃ z a ds vs zs,x=.str z/\xs=[.ref a]/\eL K H a vs/\bP K H ds vs/\iM ds=some zs/\(zs.map (·.length)).sum+zs.length*z.length<=16777216/\Q (.str (Str.join z zs)) H):=by subst hK;intro pins s σ H x xs v us Q I rx rs h;obtain⟨z,a,ds,vs,zs,rfl,rfl,hs,rr,e,hz,q⟩:=h;obtain⟨t,rfl⟩:=rx;obtain⟨u,rfl,ru⟩:=Vals.one rs;cases ru;obtain⟨its,rv,pl,_⟩:=I.list hs;exact join_list pl.isList (by simpa using zV rr rv e) hz λt' k=>⟨.str _,H,I.tok _,⟨t',rfl⟩,by rw[show Txt.join z zs=Str.join z zs from StrLaws.glued_eq_join z zs];exact q⟩
theorem cP:∀ {zs:List Str},(Str.join z zs).length<=(zs.map (·.length)).sum+zs.length*z.length
 |[]=>by exact iO (show Str.empty.length<=0 by decide) (fI _)
 |[x]=>by simp[Str.join]
 |x :: y :: r=>by have ih:=cP (z:=z) (zs:=y :: r);show(x++z++Str.join z (y :: r)).length<=_;rw[aK,aK];simp only[gX,List.sum_cons,kB,Nat.add_mul,Nat.one_mul] at ih ⊢;lia
def lu(ho:QE X K o to)(he:QE X K e te)(hK:autoParam (X.K=K) bv) (qc:autoParam (vj o "join" X.env (b4 o X.env)=b4 o X.env) bv) (vF:autoParam (((gy eI (bE [e] X.env)).all (λx=>!x.1) && (zk eI (zi [] X.env)).all (λx=>x.1.isSome)
   && decide ([e].length+([]:List qV).length+(if ([]:List qV).isEmpty then 0 else 1)<30))=true) bv)
  (hline:autoParam ((apos.endLine == eI.line)=true) bv) (oS:autoParam (bE (e :: []) X.env=(false,b4 e X.env) :: bE [] X.env) bv) (vS:autoParam ((gy eI (bE [] X.env)).any (·.1)=false) bv) :
  QE X K (.Call (.Attribute o "join" apos) [e] [] eI) (gn to te):=by
 subst hK;refine PE.imp (Jn PySem.F.plainAttrs_str PySem.F.slot_str_join PySem.F.type_str_join Ey ho (kf he k7 oS) qc vF hline oS vS) λσ H Qv hx=>ic hx λHs ρ tot Q sr h f=>?_;refine⟨Hs,ρ,tot,_,sr,h,λv H1 aS m x As g1 r1 f1 q1=>?_⟩;have r:=r1.rep g1.wf
 cases r with
 |str hz =>
  refine⟨rfl,aS,ρ,tot,_,sr.grow g1,q1,λy H2 aE m2 x2 ip g2 r2 f2 q2=>?_⟩;have rr:=r2.rep g2.wf
  cases rr with
  |list z s rs =>obtain⟨zs,e,hz,q⟩:=q2;exact⟨_,_,_,_,zs,rfl,rfl,s,rs,e,hz,Fin.sh (Fin.after f (g1.trans g2)) g2.wf (.str (iO cP (by rw[oi];exact hz))) q⟩
  |_=>exact q2.elim
 |_=>exact q1.elim
def N3(k:List Key):D:=.tup (k.map mS)
def Oj:W1:=λ_ x Q=>match x with
 |.list xs=>∃ ks sh,xs=ks.map N3/\(∀ k∈ks,CB k=true :: sh)/\∀ ms:List (List Key),ms.Perm ks->(ms.Pairwise λa b=>mI b a=false)->Q (.ow true) (.list (ms.map N3))
 |_=>False
def FN{H:Hp}{ks:List Key}{vs:List V}(r:bP K H (ks.map mS) vs):vs=ks.map kV/\∀ k∈ks,tf k=true:=by
 induction ks generalizing vs with
 |nil=>exact⟨r.n0,λk h=>nomatch h⟩
 |cons k ks ih =>
  obtain⟨u,us,rfl,r1,rs⟩:=bP.c r;obtain⟨e,o⟩:=ih rs;subst e
  cases k with
  |inl i=>cases r1;exact⟨rfl,λj hj=>by rcases eJ.mp hj with rfl|hj;rfl;exact o j hj⟩
  |inr x =>
   cases r1 with
   |str hz=>exact⟨rfl,λj hj=>by rcases eJ.mp hj with rfl|hj;simp[tf,hz];exact o j hj⟩
def xU:og "sorted" = some (.builtin "sorted"):=by decide +kernel
end
def shF(A:List ag)(F:Nat->List ag):Nat->List ag
 |0=>A
 |i+1=>F i
def Zd(K:ax)(Hs H:Hp)(ρ:Env)(σ:St)(tot:List ag)(F:Nat->List ag):Prop:=(∀ i fl d,ρ[i]? = some (some (.ow fl d))->∃ v,σ[i]? = some (some v)/\F i≠[]/\cS K Hs H fl d v (F i)) /\ (∀ i,(F i).Sublist tot)/\∀ i j,i≠j->∀ a∈F i,a∉F j
def Zd.own{K:ax}{tot B:List ag}{F:Nat->List ag}(h:Zd K Hs H ρ σ tot F)(n:(B++tot).Nodup)(hs:∀ fl d,sl=.ow fl d->B≠[]/\cS K Hs H fl d v B):Zd K Hs H (some sl :: ρ) (some v :: σ) (B++tot) (shF B F):=by
 obtain⟨a,b,c⟩:=h;obtain⟨n1,n2,n3⟩:=iN.mp n;refine⟨λi fl d e=>?_,λi=>?_,λi j ne x hx=>?_⟩
 ·cases i with
  |zero=>simp at e;exact⟨v,rfl,hs fl d e⟩
  |succ i=>exact a i fl d (by simpa using e)
 ·cases i with
  |zero=>exact L4 _ _
  |succ i=>exact(b i).trans (mn _ _)
 ·cases i with
  |zero =>
   cases j with
   |zero=>exact absurd rfl ne
   |succ j=>exact λz=>n3 x hx x ((b j).subset z) rfl
  |succ i =>
   cases j with
   |zero=>exact λz=>n3 x z x ((b i).subset hx) rfl
   |succ j=>exact c i j (λz=>ne (by rw[z])) x hx
abbrev Plan:=List (WE ⊕ Nat)
def jK':Option (Option Sl)->Option (Md × D)
 |some (some (.sh d))=>some (.sh,d)
 |some (some (.ow fl d))=>some (.ow fl,d)
 |_=>none
def co':fw:=λds Q=>∃ ns:List Int,ds=[.list (ns.map .int)]/\ns.length<=63/\∀ m,Q m (.bl true)
theorem ints_rep{K:ax}:∀ (ns:List Int),bP K H (ns.map .int) (ns.map V.int)
 |[]=>.nil
 |n :: ns=>.cons (.int n) (ints_rep ns)
def Bo{K:ax}{H:Hp}{a:ag}{ns:List Int}{E:XK}(hl:ns.length<=63)(hS:eL K H a (ns.map V.int)):f9 K co' [.ref a] H (λv _=>v=.bl true) E:=by refine⟨[.list (ns.map .int)],λ_ d=>d=.bl true,.cons (.list (by rw[dr];exact iO hl (by decide)) hS (ints_rep ns)) .nil,⟨ns,rfl,hl,λ_=>rfl⟩,?_⟩;intro v H' aw m d As s w r nd own q;subst q;have:=r.rep w;cases this;rfl
abbrev sg(x:Str):List Nat:=x.cps.toList
def cI(x y:Str):sg (x++y)=sg x++sg y:=by show(x.cps++y.cps).toList=_;simp[sg]
def dq(x y z:Str):x++y++z=x++(y++z):=dM (by rw[<- sg,<- sg];simp only[cI,oI])
def empty_app(x:Str):Str.empty++x=x:=dM (by rw[<- sg,cI];rfl)
def okS(x:Str):Prop:=∀ c∈sg x,c<0x110000
def CQ(x:Str):PyData.strOk x=true↔okS x:=by unfold PyData.strOk okS sg;rw[Array.all_eq_true'];simp
def jL'{α:Type}(x:α)(l:List α):fP (x :: l) 0=some x:=by simp[L2.fP,xk]
def jM'{α:Type}(x y:α)(l:List α):fP (x :: y :: l) 1=some y:=by have:=tT (xs:=x :: y :: l) (j:=1) rfl;exact this
def jN'{α:Type}(x y z:α)(l:List α):fP (x :: y :: z :: l) 2=some z:=by have:=tT (xs:=x :: y :: z :: l) (j:=2) rfl;exact this
def IK:Str.empty.length=0:=by decide
end L2.Q
namespace L2.Q.R
section
variable {f:D->Prop}{k:Kt f}
def Ov:b6 .non k=f .non:=rfl
def O2:b6 (.bl b) k=f (.bl b):=rfl
def Oo:b6 (.int i) k=f (.int i):=rfl
def Nk:b6 (.str x) k=f (.str x):=rfl
def K9:b6 (.list xs) k=f (.list xs):=rfl
def Mh:b6 (.tup xs) k=f (.tup xs):=rfl
def QM:b6 (.dK xs) k=f (.dK xs):=rfl
def Pu:b6 (.dT xs) k=f (.dT xs):=rfl
end
def J2{f:Bool->Prop}{k:Kt f}:b6 true k=f true:=rfl
def JH{f:Bool->Prop}{k:Kt f}:b6 false k=f false:=rfl
def Mi{d:D}{f:Md × D->Prop}{k:Kt f}:b6 (Md.sh,d) k=f (.sh,d):=rfl
def NQ{b:Bool}{d:D}{f:Md × D->Prop}{k:Kt f}:b6 (Md.ow b,d) k=f (.ow b,d):=rfl
def Oq{d:D}{f:Md × D->Prop}{k:Kt f}:b6 (Md.bo,d) k=f (.bo,d):=rfl
def M6{d:D}{f:Option Sl->Prop}{k:Kt f}:b6 (some (.sh d)) k=f (some (.sh d)):=rfl
def Nt{b:Bool}{d:D}{f:Option Sl->Prop}{k:Kt f}:b6 (some (.ow b d)) k=f (some (.ow b d)):=rfl
def M8{p:Md × D}{f:Option (Md × D)->Prop}{k:Kt f}:b6 (some p) k=f (some p):=rfl
def Ph{p:Bool}{f:Option Bool->Prop}{k:Kt f}:b6 (some p) k=f (some p):=rfl
def Ox{d:D}{f:Option (Option Sl)->Prop}{k:Kt f}:b6 (some (some (.sh d))) k=f (some (some (.sh d))):=rfl
def Ng{b:Bool}{d:D}{f:Option (Option Sl)->Prop}{k:Kt f}:b6 (some (some (.ow b d))) k=f (some (some (.ow b d))):=rfl
section
variable {E:eO}{ρ:Env}{Q:Md->D->Prop}{B:Bool->Prop}{t u:WS}{te ta tb tc to':WE}{tt tu:WT}{tar:WA}{i j n:Nat}{m m':Md}{d d':D}{sp:fw}{p:WP}{R:List (Md × D)->Prop}
def N5:aV E ρ=E.nx ρ:=rfl
def Pj:cp t u E ρ=t { E with nx:=u E } ρ:=rfl
def Qu:fF te E ρ=te ρ E.rt:=rfl
def M7:Er te E ρ=te ρ λ_ _=>E.nx ρ:=rfl
def put(sl:Option Sl)(k:Sl->Prop):Prop:=match sl with
 |some s=>k s
 |none=>False
def Mt:put (some (.sh d)) k=k (.sh d):=rfl
def NT:put (some (.ow b d)) k=k (.ow b d):=rfl
def O_:e8 i te E ρ=te ρ λm d=>b6 (asg m d) (f:=λo=>put o λsl=>E.nx (ρ.set i (some sl))) ⟨⟩:=rfl
def O6:e9 tt t u E ρ=tt ρ λb=>b6 b (f:=λb=>if b=true then t E ρ else u E ρ) ⟨⟩:=rfl
def Kq:uv E ρ=False:=rfl
def Nx:jD i E ρ=b6 ρ[i]? (f:=λo=>match o with
 |some (some (.sh d))=>E.rt .sh d
 |some (some (.ow fl d))=>E.rt (.ow fl) d
 |_=>False) ⟨⟩:=rfl
def mov(o:Option (Md × D))(k:Md × D->Prop):Prop:=match o with
 |some p=>k p
 |none=>False
def JC{p:Md × D}{k:Md × D->Prop}:mov (some p) k=k p:=rfl
def O1:A4 i t E ρ=t E (RT i ρ):=rfl
-- tests
def bol(d:D)(B:Bool->Prop):Prop:=match d with
 |.bl b=>B b
 |_=>False
def Mx:bol (.bl b) B=B b:=rfl
def wB_:wB te ρ B=te ρ λ_ x=>b6 x (f:=λx=>bol x B) ⟨⟩:=rfl
def Pb:uj tt ρ B=tt ρ λc=>B (!c):=rfl
def Qm:Ux tt tu ρ B=tt ρ λc=>b6 c (f:=λc=>if c=true then tu ρ B else B false) ⟨⟩:=rfl
def jQ':v3 tt tu ρ B=tt ρ λc=>b6 c (f:=λc=>if c=true then B true else tu ρ B) ⟨⟩:=rfl
def O4:EG ρ B=B true:=rfl
-- expressions
def Px:av i ρ Q=b6 ρ[i]? (f:=λo=>RJ o Q) ⟨⟩:=rfl
def Kz:RJ (some (some (.sh d))) Q=Q .sh d:=rfl
def KD:RJ (some (some (.ow b d))) Q=Q .bo d:=rfl
def wC_:wC d ρ Q=Q .sh d:=rfl
def jS':ay f ta tb ρ Q=ta ρ λm x=>tb ρ λn y=>f m x n y Q:=rfl
def jT':eT f ta ρ Q=ta ρ λm x=>f m x Q:=rfl
def Kr:jd f g ta tb tc ρ Q=ta ρ λm x=>tb ρ λn y=>f m x n y λ_ z=>b6 z (f:=λz=>bol z λk=>b6 k (f:=λk=>if k=true then tc ρ λl w=>g n y l w Q else Q .sh (.bl false)) ⟨⟩) ⟨⟩:=by rfl
def Od:jo ta tb ρ Q=ta ρ λ_ x=>b6 x (f:=λx=>bol x λc=>b6 c (f:=λc=>if c=true then tb ρ Q else Q .sh (.bl false)) ⟨⟩) ⟨⟩:=by unfold jo b6 bol;rfl
def QB:Uy ta tb ρ Q=ta ρ λ_ x=>b6 x (f:=λx=>bol x λc=>b6 c (f:=λc=>if c=true then Q .sh (.bl true) else tb ρ Q) ⟨⟩) ⟨⟩:=by unfold Uy b6 bol;rfl
def OJ:Al ta ρ Q=ta ρ λ_ x=>b6 x (f:=λx=>bol x λc=>Q .sh (.bl (!c))) ⟨⟩:=by unfold Al b6 bol;rfl
def Oe:aq te tar ρ R=te ρ λm x=>tar ρ λps=>R ((m,x) :: ps):=rfl
def QR:de ρ R=R []:=rfl
def O8:qq tar ρ Q=tar ρ λps=>ps.length<=bI/\Q (CZ ps) (.tup (ps.map (·.2))):=rfl
def Qe:kT tar ρ Q=tar ρ λps=>ps.length<=bI/\Q (Ej ps) (.list (ps.map (·.2))):=rfl
def Nv:bx sp tar ρ Q=tar ρ λps=>sp (ps.map (·.2)) λm d=>b6 (m,d) (f:=λp=>Q (y1 p.1 p.2) p.2) ⟨⟩:=rfl
-- operators
section
variable {x y:Str}{a b:Int}{xs ys:List D}{ae:List (Key × D)}{EI:List (List Key × D)}
def JW:fz m (.int a) m' (.int b) Q=Q .sh (.int (a+b)):=rfl
def JQ:fz m (.str x) m' (.str y) Q=(x.length+y.length<=bI/\Q .sh (.str (x++y))):=rfl
def KH:fz m (.list xs) m' (.list ys) Q=(xs.length+ys.length<=bI/\((dv xs=true/\dv ys=true/\Q (.ow true) (.list (xs++ys)))\/(m=.sh/\m'=.sh/\Q (.ow false) (.list (xs++ys))))):=rfl
def JZ:fz m (.tup xs) m' (.tup ys) Q=(xs≠[]/\xs.length+ys.length<=bI/\dv xs=true/\dv ys=true/\Q .sh (.tup (xs++ys))):=rfl
def LC:OB m (.int a) m' (.int b) Q=Q .sh (.int (a-b)):=rfl
def Kf:FP m (.int a) m' (.int b) Q=(MS a b/\Q .sh (.int (a*b))):=rfl
def K4:AB m (.int a) m' (.int b) Q=((0<b/\b<1073741824)/\Q .sh (.int (a / b))):=rfl
def Ma:mP m (.int a) m' (.int b) Q=(0<b/\Q .sh (.int (a % b))):=rfl
def Mj:CF m (.int a) m' (.int b) Q=Q .sh (.bl (decide (a<b))):=rfl
def Nq:CF m (.str x) m' (.str y) Q=Q .sh (.bl (sQ x y)):=rfl
def OD:AF m (.int a) m' (.int b) Q=Q .sh (.bl (decide (a<=b))):=rfl
def MP:AF m (.str x) m' (.str y) Q=Q .sh (.bl (!sQ y x)):=rfl
def M9:OG m (.int a) m' (.int b) Q=Q .sh (.bl (decide (b<a))):=rfl
def Nr:fA m (.int a) m' (.int b) Q=Q .sh (.bl (decide (a=b))):=rfl
def Nf:fA m (.str x) m' (.str y) Q=Q .sh (.bl (decide (x=y))):=rfl
def M_:fA m (.bl k) m' (.bl l) Q=Q .sh (.bl (decide (k=l))):=rfl
def P0:fA m (.list xs) m' d Q=(eB 12 (.list xs)=true/\eB 12 d=true/\Q .sh (.bl (k9 (.list xs) d))):=by cases d<;>rfl
def Qo:fA m (.tup xs) m' d Q=(eB 12 (.tup xs)=true/\eB 12 d=true/\Q .sh (.bl (k9 (.tup xs) d))):=by cases d<;>rfl
def Qt:fA m .non m' d Q=(eB 12 .non=true/\eB 12 d=true/\Q .sh (.bl (k9 .non d))):=by cases d<;>rfl
def Nz:EE m (.int a) m' (.int b) Q=Q .sh (.bl (!decide (a=b))):=rfl
def Mm:EE m (.str x) m' (.str y) Q=Q .sh (.bl (!decide (x=y))):=rfl
def Qs:EE m (.list xs) m' d Q=(eB 12 (.list xs)=true/\eB 12 d=true/\Q .sh (.bl (!k9 (.list xs) d))):=by cases d<;>rfl
def QQ:EE m (.tup xs) m' d Q=(eB 12 (.tup xs)=true/\eB 12 d=true/\Q .sh (.bl (!k9 (.tup xs) d))):=by cases d<;>rfl
def Qp:EE m .non m' d Q=(eB 12 .non=true/\eB 12 d=true/\Q .sh (.bl (!k9 .non d))):=by cases d<;>rfl
def O5:WY m d m' .non Q=Q .sh (.bl d.Uz):=rfl
def QC:yB neg m (.str x) m' (.str y) Q=Q .sh (.bl (if neg then !Cb x y else Cb x y)):=rfl
def O3:yB neg m d m' (.list ys) Q=(fY d=true/\ys.all fY=true/\Q .sh (.bl (if neg then !inD d ys else inD d ys))):=rfl
def QL:yB neg m d m' (.tup ys) Q=(fY d=true/\ys.all fY=true/\Q .sh (.bl (if neg then !inD d ys else inD d ys))):=rfl
def PL:yB neg m d m' (.dK ae) Q = ∃ k,d.key1=some k/\Q .sh (.bl (if neg then !(mM ae k).isSome else (mM ae k).isSome)):=rfl
def Qq:yB neg m (.tup xs) m' (.dT EI) Q = ∃ ks,fX xs=some ks/\Q .sh (.bl (if neg then !(mM EI ks).isSome else (mM EI ks).isSome)):=rfl
def Qk:CH m (.int a) Q=Q .sh (.int (-a)):=rfl
def Py:df m (.list xs) m' (.int a) Q = ∃ d,fP xs a=some d/\b6 d (f:=λd=>Q (tj m d) d) ⟨⟩:=rfl
def Pr:df m (.tup xs) m' (.int a) Q = ∃ d,fP xs a=some d/\b6 d (f:=λd=>Q (tj m d) d) ⟨⟩:=rfl
def Qh:df m (.str x) m' (.int a) Q = ∃ c,fP x.cps.toList a=some c/\Q .sh (.str ⟨#[c]⟩):=rfl
def QH:df m (.dK ae) m' d Q = ∃ k d',d.key1=some k/\mM ae k=some d'/\b6 d' (f:=λd'=>Q (tj m d') d') ⟨⟩:=rfl
def O9:df m (.dT EI) m' (.tup ys) Q = ∃ ks d',fX ys=some ks/\mM EI ks=some d'/\b6 d' (f:=λd'=>Q (tj m d') d') ⟨⟩:=rfl
def N6:ky m (.str x) Q=Q .sh (.int x.length):=rfl
def Ml:ky m (.list xs) Q=Q .sh (.int xs.length):=rfl
def Ot:ky m (.tup xs) Q=Q .sh (.int xs.length):=rfl
def MT:ky m (.dK ae) Q=Q .sh (.int ae.length):=rfl
def Oz:ky m (.dT EI) Q=Q .sh (.int EI.length):=rfl
def PN{T:String}:A3 T m d Q=Q .sh (.bl (Nw d.ty T)):=rfl
def Lr:vL m (.list xs) Q=((dv xs=true/\Q (.ow true) (.list xs))\/(m=.sh/\Q (.ow false) (.list xs))):=rfl
def Lb:vL m (.tup xs) Q=((dv xs=true/\Q (.ow true) (.list xs))\/(m=.sh/\Q (.ow false) (.list xs))):=rfl
def KC:vL m (.dT EI) Q=Q (.ow true) (.list (EI.map λkv=>.tup (kv.1.map mS))):=rfl
def jU':sd te tl th ρ Q=te ρ λm x=>tl ρ λlo=>th ρ λhi=>RP m x lo hi Q:=rfl
def JF:bw ρ O=O none:=rfl
def int'(d:D)(k:Int->Prop):Prop:=match d with
 |.int i=>k i
 |_=>False
def Mf:int' (.int a) k=k a:=rfl
def N7:cO te ρ O=te ρ λ_ x=>b6 x (f:=λx=>int' x λi=>O (some i)) ⟨⟩:=by unfold cO b6 int';rfl
def Pa{lo hi:Option Int}:RP m (.str x) lo hi Q=Q .sh (.str (nE x lo hi)):=rfl
def QD{lo hi:Option Int}:RP m (.list xs) lo hi Q=((dv xs=true/\Q (.ow true) (.list (kP xs lo hi)))\/(m=.sh/\Q (.ow false) (.list (kP xs lo hi)))):=rfl
def Qc{lo hi:Option Int}:RP m (.tup xs) lo hi Q=(dv xs=true/\¬ (HT.cE xs.length 0 lo=0/\HT.cE xs.length xs.length hi=xs.length)/\Q .sh (.tup (kP xs lo hi))):=rfl
end
-- texts
def Lv(d:D)(k:Str->Prop):Prop:=match d with
 |.str x=>k x
 |_=>False
def Nm:Lv (.str x) k=k x:=rfl
def wa(d:D)(k:List D->Prop):Prop:=match d with
 |.list x=>k x
 |_=>False
def J3:wa (.list x) k=k x:=rfl
def KR:gn to' te ρ Q=to' ρ λ_ x=>b6 x (f:=λx=>Lv x λz=>te ρ λ_ y=>b6 y (f:=λy=>wa y λys=>∃ zs,iM ys=some zs/\(zs.map (·.length)).sum+zs.length*z.length<=16777216/\Q .sh (.str (Str.join z zs))) ⟨⟩) ⟨⟩:=by unfold gn b6 Lv wa;rfl
-- places
def jV'{P:Bool->D->(Bool->D->Env)->Prop}:uk i ρ P=b6 ρ[i]? (f:=λo=>match o with
 |some (some (.ow fl d))=>P fl d λdQ d2=>ρ.set i (some (.ow dQ d2))
 |_=>False) ⟨⟩:=rfl
def RW(o:Option Bool)(k:Bool->Prop):Prop:=match o with
 |some b=>k b
 |none=>False
def JG:RW (some b) k=k b:=rfl
def Pk:AH p te E ρ=p ρ λfl d up=>b6 d (f:=λd=>wa d λxs=>te ρ λm x=>xs.length<bI/\b6 (iw fl m x) (f:=λo=>RW o λdQ=>E.nx (up dQ (.list (xs++[x])))) ⟨⟩) ⟨⟩:=by unfold AH b6 wa RW;rfl
def LR:yO ρ Q=Q (.ow true) (.dK []):=rfl
def dct(d y:D)(k1:List (Key × D)->Prop)(k2:List (List Key × D)->List D->Prop):Prop:=match d with
 |.dK ae=>k1 ae
 |.dT ae=>match y with
  |.tup ys=>k2 ae ys
  |_=>False
 |_=>False
def PB:dct (.dK ae) y k1 k2=k1 ae:=rfl
def Pz:dct (.dT ae) (.tup ys) k1 k2=k2 ae ys:=rfl
def Nh:Ab p tk tv E ρ=tv ρ λ_ x=>p ρ λfl d up=>tk ρ λ_ y=>x.flat=true/\b6 d (f:=λd=>dct d y (λae=>∃ k,y.key1=some k/\ae.length<bI/\E.nx (up fl (.dK (ti ae k x)))) (λae ys=>∃ ks,fX ys=some ks/\ae.length<bI/\E.nx (up fl (.dT (ti ae ks x))))) ⟨⟩:=by rfl
-- loops
variable {LQ:List D->Prop}
def QJ:y2 wi g b E ρ=wi ρ λds=>eG g b E ds ρ:=rfl
def KN:lA te ρ LQ=te ρ λm d=>lO m/\b6 d (f:=λd=>wa d LQ) ⟨⟩:=by unfold lA b6 wa;rfl
def LB(d:D)(k:List D->Prop):Prop:=match d with
 |.tup x=>k x
 |_=>False
def MK:LB (.tup x) k=k x:=rfl
def Mu:zM te ρ LQ=te ρ λm d=>lO m/\b6 d (f:=λd=>LB d LQ) ⟨⟩:=by unfold zM b6 LB;rfl
def Ol:yS te ρ LQ=te ρ λ_ d=>b6 d (f:=λd=>Lv d λz=>LQ (RV z)) ⟨⟩:=by unfold yS b6 Lv;rfl
def J9:kj te ρ LQ=te ρ λ_ d=>b6 d (f:=λd=>int' d λj=>j<=16777216/\-(2 ^ 62)<=j/\LQ (kI 0 j.toNat)) ⟨⟩:=by unfold kj b6 int';rfl
def Kv:tG ta tb ρ LQ=ta ρ λ_ x=>tb ρ λ_ y=>b6 x (f:=λx=>int' x λi=>b6 y (f:=λy=>int' y λj=>j-i<=16777216/\(-(2 ^ 62)<=i/\i<2 ^ 62/\-(2 ^ 62)<=j/\j<2 ^ 62)/\LQ (kI i (j-i).toNat)) ⟨⟩) ⟨⟩:=by unfold tG b6 int';rfl
def JL:lO .sh=True:=rfl
def JD:lO (.ow b)=True:=rfl
def JK:lO .bo=False:=rfl
def gN_:gN i d ρ N=N (ρ.set i (some (.sh d))):=rfl
def gT_:gT n gs d ρ N=b6 d (f:=λd=>LB d λds=>ds.length=n/\gs ds ρ N) ⟨⟩:=by unfold gT b6 LB;rfl
def MF:tK g gs (d :: ds) ρ N=g d ρ λbt=>gs ds bt N:=rfl
def P_:zX [] ρ N=N ρ:=by simp[zX]
def NZ:oJ wi g tt te tn ix ρ Q=wi ρ λds=>jc g tt te ds (uJ tn ix ρ) λout=>Q (.ow true) (.list out):=rfl
end
def B{c:Bool}{f:Bool->Prop}{k:Kt f}(h1:c=true->f true)(h2:c=false->f false):b6 c k:=by
 cases c with
 |true=>exact h1 rfl
 |false=>exact h2 rfl
def D{p:Prop}[Decidable p]{f:Bool->Prop}{k:Kt f}(h1:p->f true)(h2:¬ p->f false):b6 (decide p) k :=
 B (λh=>h1 (of_decide_eq_true h)) λh=>h2 (of_decide_eq_false h)
def T{c:Bool}{f:Bool->Prop}{k:Kt f}(h:c=true)(h1:f true):b6 c k:=by subst h;exact h1
def F{c:Bool}{f:Bool->Prop}{k:Kt f}(h:c=false)(h1:f false):b6 c k:=by subst h;exact h1
end L2.Q.R
namespace L2
end L2
namespace L2.Q
section
variable {X:Cx}{K:ax}{e e2:Expr}{te FT:WE}{pos p:Pos}
def Ze(tk tv:WE):WE:=λρ Q=>tk ρ λ_ x=>tv ρ λ_ y=>∃ k,x.key1=some k/\y.flat=true/\Q (.ow true) (.dK [(k,y)])
def Gd(he:QE X K e te)(Kn:QE X K e2 FT):QE X K (.Dict [some e] [e2] pos) (Ze te FT):=by
 refine PE.imp (hg' (hb' he Kn ha') rfl rfl (by simp) (by simp)) λσ H Qv hx=>ic hx λHs ρ tot Q sr h fin=>λa ha=>?_;have g0:fv Hs H Hs (upd H a (.dK [])):=N4 sr.wf ha λ_ z=>nomatch z;refine⟨Hs,ρ,tot,_,sr.grow g0,h,λv H1 aS m x As g1 r1 f1 q1=>⟨aS,ρ,tot,_,(sr.grow g0).grow g1,q1,λu H2 aE n y Bs g2 r2 f2 q2=>?_⟩⟩;obtain⟨k,ek,fy,q2⟩:=q2;have rx:=(r1.grow g2).rep g2.wf;have ex:=rx.key ek;subst ex;have ry:=r2.flat g2.wf fy;have gg:=(g0.trans g1).trans g2;have e2:H2 a=some (.dK []):=g2.all _ _ (g1.all _ _ eM);have nH:Hs a=none:=sr.wf.sub.free ha;have n2:aE a=none:=g2.qf (g1.qf nH (by rw[eM];exact λz=>nomatch z)) (by rw[g1.all _ _ eM];exact λz=>nomatch z);refine⟨e2,[(k,u)],rfl,by simp,?_⟩;have g3:fv Hs H aE (upd H2 a (.dK [(k,u)])):=⟨λb o hb=>by rw[dn (x3 hb ha)];exact gg.all b o hb,gg.sh,⟨λb o hb=>by rw[dn (x3 hb n2)];exact gg.wf.sub b o hb,λb vs hb=>by
  by_cases z:b=a
  ·subst z;rw[eM] at hb;cases hb
  ·rw[dn z] at hb;exact gg.wf.iF b vs hb⟩,gg.new⟩
 exact fin (.ref a) _ aE (.ow true) (.dK [(k,y)]) [a] g3 ⟨.dK ⟨by rw[oi];simp,λp hp=>by
  have:p=(k,y):=by simpa using hp
  subst this;exact qU rx ek⟩ eM (.cons (.sh (λ_=>fy) ry) .nil),by simp⟩ ⟨by simp,λb hb=>by
  obtain rfl:b=a:=by simpa using hb
  exact⟨n2,ha⟩⟩ q2
def vZ:W1:=λ_ x Q=>match x with
 |.list xs=>∃ ks b,xs=ks.map mS/\(∀ k∈ks,AA k=b)/\∀ ms:List Key,ms.Perm ks->(ms.Pairwise λa b=>sT b a=false)->Q (.ow true) (.list (ms.map mS))
 |.dK ae=>∃ b,(∀ p∈ae,AA p.1=b)/\∀ ms:List Key,ms.Perm (ae.map (·.1))->(ms.Pairwise λa b=>sT b a=false)->Q (.ow true) (.list (ms.map mS))
 |_=>False
def Be:FR K (sG K) vZ:=by
 intro Hs H m x v As Qd Qv w rx h f;have r1:=rx.rep w
 cases r1 with
 |list z s q =>obtain⟨ks,b,rfl,hb,h⟩:=h;obtain⟨e,ok⟩:=FN q;subst e;exact⟨ks,b,.inl s,hb,λms l pm pw hl=>f.lst w (by rw[dr,pm.length_eq];simpa using z) (iB λk hk=>ok k (pm.mem_iff.mp hk)) (gK ms) (h ms pm pw) l hl⟩
 |@dK a vs ae kk e q =>
  obtain⟨b,hb,h⟩:=h;have hlen:=q.length;rw[dr] at hlen;have ez:(((ae.map (·.1)).zip vs).map (·.1))=ae.map (·.1):=by rw[Vo (by rw[dr];lia)]
  refine⟨ae.map (·.1),b,.inr ⟨_,e,ez.symm⟩,λk hk=>?_,λms l pm pw hl=>?_⟩
  ·obtain⟨p,hp,rfl⟩:=iq.mp hk;exact hb p hp
  ·refine f.lst w (by rw[dr,pm.length_eq,dr];exact kk.1) (iB λk hk=>?_) (gK ms) (h ms pm pw) l hl;obtain⟨p,hp,rfl⟩:=iq.mp (pm.mem_iff.mp hk);exact kk.2 p hp
 |_=>exact h.elim
def Hj (hc:autoParam (X.calm=true) bv) (hK:autoParam (X.K=K) bv):nv X (.builtin "sorted") (sG K):=by subst hK;exact u6 hc
section
variable {Hs H:Hp}{fl:Bool}
def aG.erase(k:Nat)(r:aG K Hs H fl ds vs As):∃ Bs,Bs.Sublist As/\aG K Hs H fl (ds.eraseIdx k) (vs.eraseIdx k) Bs:=by
 induction ds generalizing vs As k with
 |nil =>obtain⟨rfl,rfl⟩:=r.n0;exact⟨[],List.Sublist.refl _,.nil⟩
 |cons d ds ih =>
  obtain⟨u,us,A,B,rfl,rfl,r,rs⟩:=r.c
  cases k with
  |zero=>exact⟨B,mn _ _,rs⟩
  |succ k =>obtain⟨C,sb,q⟩:=ih k rs;exact⟨A++C,sb.append_left _,.cons r q⟩
end
end
abbrev WIL:=Env->(List D->Prop)->Prop
end L2.Q
namespace L2.Q.R
section
variable {ρ:Env}{Q:Md->L2.Q.D->Prop}{te tk:WE}{d:L2.Q.D}{a:ag}{b:Bool}{LQ:List L2.Q.D->Prop}
def Np{f:Option Sl->Prop}{k:Kt f}:b6 (some (.lk a b d)) k=f (some (.lk a b d)):=rfl
def NB{f:Option (Option Sl)->Prop}{k:Kt f}:b6 (some (some (.lk a b d))) k=f (some (some (.lk a b d))):=rfl
def Lq:RJ (some (some (.lk a b d))) Q=Q .bo d:=rfl
def jY':Ze tk te ρ Q=tk ρ λ_ x=>te ρ λ_ y=>∃ k,x.key1=some k/\y.flat=true/\Q (.ow true) (.dK [(k,y)]):=rfl
def jZ'(o:Option (Option Sl))(k:Bool->L2.Q.D->Prop):Prop:=match o with
 |some (some (.ow fl d))=>k fl d
 |_=>False
def KY:jZ' (some (some (.ow b d))) k=k b d:=rfl
def Km:uA te ρ LQ=te ρ λ_ d=>b6 d (f:=λd=>wa d λxs=>LQ (lL xs)) ⟨⟩:=by unfold uA b6 wa;rfl
def Ky:ph te ρ LQ=te ρ λ_ d=>b6 d (f:=λd=>wa d LQ) ⟨⟩:=by unfold ph b6 wa;rfl
def Mw:wU te ρ LQ=te ρ λ_ d=>b6 d (f:=λd=>LB d LQ) ⟨⟩:=by unfold wU b6 LB;rfl
end
end L2.Q.R
namespace L2
open Builtin Builtin.Str Builtin.Int
section
variable {prog:b9}{w:cy}{A:e7}{E:ah->aC->Prop}{s:aC}{x:Str}{n:Int}{t u:Tok}
def rD(aI:MulOk x n)(h:∀ t' k,Q (.str (Txt.mul x n) t') { s with toks:=k }):b5 (aT prog w) A (oj .Mult (.int n u) (.str x t)) Q E s:=by
 refine lm_binaryOp_repeat_right (by decide) (λs'=>typeIs_int s' n u) (DE s x t) F.fills_int_mul noFill_str_mul F.slot_int_mul lm_noRepeat_int repeat_str F.slot_int_index.lookup (call_gives F.slot_int_mul (typeIs_int s n u) F.entry_int_mul (F.args_int_mul_2 _ _) (AutoIntG3.int___mul___int_str_0 n u x t) ⟨rfl,DE _ x t,call_gives F.slot_str_mul (DE _ x t) F.entry_str_mul (F.args_str_mul_2 _ _) (gives_str_mul x n t u aI.1 aI.2.1 aI.2.2) ?_⟩)
 unfold Txt.mul at h;by_cases h1:n<1
 ·rw[if_pos h1];have h':=h s.toks (s.toks+1);rw[if_pos h1] at h';exact⟨by decide,h'⟩
 ·rw[if_neg h1];refine post_val_or_made (λhc=>fits_reps (aI.2.2 h1 (by simpa using hc))) λt' k=>?_;have h':=h t' k;rw[if_neg h1] at h';exact h'
end
def xA(n:Int)(z:Str):Str:=⟨(List.replicate n.toNat z.cps.toList).flatten.toArray⟩
theorem mQ(xs:Array Nat):∀ (k:Nat) (acc:Array Nat),(List.replicate k xs).foldl (· ++ ·) acc=acc++(List.replicate k xs.toList).flatten.toArray
 |0,acc=>by simp
 |k+1,acc=>by rw[BG,Ic,mQ xs k,BG,BH];apply Array.ext';simp
def Dn(h:1<=n):Txt.mul z n=xA n z:=by
 unfold Txt.mul xA;rw[if_neg (by lia)];by_cases h1:n=1
 ·subst h1;simp
 ·by_cases h0:z.length=0
  ·have hz:z.cps = #[]:=QV h0;rw[if_pos (by simp[h0])];obtain⟨c⟩:=z;cases hz;simp
  ·rw[if_neg (by simp[h1,h0]),mQ];simp
def Ei:R2:=λx y H Q=>match x,y with
 |.int n,.str z=>(1<=n/\n<=100/\z.length<=100)/\Q (.str (xA n z)) H
 |_,_=>False
section
variable {X:Cx}
def Ea:dS X (oj .Mult) Ei:=by
 intro pins s σ H x y v u Q I rx ry h;unfold Ei at h;split at h
 ·rename_i n z;obtain⟨⟨h1,h2,h3⟩,q⟩:=h;obtain⟨t,rfl⟩:=rx;obtain⟨t',rfl⟩:=ry;refine rD ⟨?_,λ_ _=>?_,λ_ _=>?_⟩ λt' k=>⟨.str (xA n z),H,I.tok _,⟨_,by rw[Dn h1]⟩,q⟩
  ·have a1:¬ n < -(2 ^ 63:Int):=by lia
   have a2:¬ n >= 2 ^ 63:=by lia
   rw[decide_eq_false a1,decide_eq_false a2];rfl
  ·have:(2 ^ 63-1:Int) / 100<=(2 ^ 63-1) / n:=by apply Int.le_ediv_of_mul_le (by lia);lia
   lia
  ·have:z.length*n.toNat<=100*100:=P7 h3 (by lia);have hs:=oi;simp only[tooLong,decide_eq_false_iff_not];lia
 ·exact h.elim
def mxP(ns:List Int):Nat->Int
 |0=>0
 |1=>ns.getD 0 0
 |j+2=>if ns.getD (j+1) 0>mxP ns (j+1) then ns.getD (j+1) 0 else mxP ns (j+1)
end
end L2
namespace L2
end L2
namespace L2.Q
section
variable {X:Cx}{K:ax}{a b:Expr}{ta tb:WE}{p pos:Pos}{x:Str}
def RX:W1:=λ_ x Q=>match x with
 |.list xs=>∃ bs:List Bool,xs=bs.map D.bl/\Q .sh (.bl (bs.all (λb=>b)))
 |_=>False
def HF{H:Hp}{bs:List Bool}{vs:List V}(r:bP K H (bs.map D.bl) vs):vs=bs.map V.bl:=by
 induction bs generalizing vs with
 |nil=>exact r.n0
 |cons b bs ih =>obtain⟨u,us,rfl,r1,rs⟩:=bP.c r;cases r1;rw[ih rs];rfl
def ye:FR K (Ui K) RX:=by
 intro Hs H m x v As Qd Qv w rx h f;have r1:=rx.rep w
 cases r1 with
 |list z s q =>obtain⟨bs,rfl,h⟩:=h;cases HF q;exact⟨bs,s,f.sh w (.bl _) h⟩
 |_=>exact h.elim
def xY:W1:=λ_ x Q=>match x with
 |.list xs=>dv xs=true/\Q .sh (.tup xs)
 |_=>False
def Ar:FR K (λxs H Q=>∃ p ys,xs=[.ref p]/\((eL K H p ys/\∀ l,H l=none->Q (.ref l) (upd H l (.tup ys)))\/(kG K H p ys/\Q (.ref p) H))) xY:=by
 intro Hs H m x v As Qd Qv w rx h f;have r1:=rx.rep w
 cases r1 with
 |list z s q =>have hl:=q.length;exact⟨_,_,rfl,.inl ⟨s,f.tup w (by lia) q h.1 h.2⟩⟩
 |_=>exact h.elim
def G9 (hK:autoParam (X.K=K) bv):nv X (.type "tuple") (λxs H Q=>∃ p ys,xs=[.ref p]/\((eL K H p ys/\∀ l,H l=none->Q (.ref l) (upd H l (.tup ys)))\/(kG K H p ys/\Q (.ref p) H))):=by subst hK;exact gC'
def rR(n:Int)(z:Str):(xA n z).length=n.toNat*z.length:=by unfold xA Str.length;rw[jS,len_rep,zv]
def Ak:W2:=λ_ x _ y Q=>match x,y with
 |.int n,.str z=>(1<=n/\n<=100/\z.length<=100)/\Q .sh (.str (xA n z))
 |_,_=>False
def Ga:lh K Ei Ak:=by
 intro Hs H m x v As n y u Bs Qd Qv w rx ry h f;have r1:=rx.rep w;have r2:=ry.rep w
 cases r1 with
 |int i=>cases r2 with
  |str hz =>refine⟨h.1,yI f w ?_ h.2⟩;obtain⟨⟨h1,h2,h3⟩,_⟩:=h;rw[rR,oi];have:=P7 (show i.toNat<=100 by lia) h3;lia
  |_=>exact h.elim
 |_=>cases r2<;>exact h.elim
def GR(ha:QE X K a ta)(hb:QE X K b tb):QE X K (.BinOp a .Mult b pos) (ay Ak ta tb):=KW Ea Ga ha hb
end
end L2.Q
namespace L2.Q.R
section
variable {Q:Md->L2.Q.D->Prop}{m m':Md}{xs:List L2.Q.D}{a b:Int}{x:Str}
def Pg:RX m (.list xs) Q = ∃ bs:List Bool,xs=bs.map L2.Q.D.bl/\Q .sh (.bl (bs.all (λb=>b))):=rfl
def J7:xY m (.list xs) Q=(dv xs=true/\Q .sh (.tup xs)):=rfl
def Mp:Ak m (.int a) m' (.str x) Q=((1<=a/\a<=100/\x.length<=100)/\Q .sh (.str (xA a x))):=rfl
end
end L2.Q.R
namespace L2.Q
end L2.Q
end
namespace TS
open PySem PySem.SetTable
def adv(M:Nat)(p:Probe):Probe :=
 if p.more>0 then { p with j:=p.j+1,more:=p.more-1 } else
 { p with j:=(leap M p.i p.perturb).1,more:=runEnd M (leap M p.i p.perturb).1-(leap M p.i p.perturb).1,i:=(leap M p.i p.perturb).1,perturb:=(leap M p.i p.perturb).2 }
def ps(M:Nat)(h:Int):Nat->Probe
 |0=>{ j:=bits h % (M+1),more:=runEnd M (bits h % (M+1))-bits h % (M+1),i:=bits h % (M+1),perturb:=bits h,dummy:=none }
 |n+1=>adv M (ps M h n)
def J(M:Nat)(h:Int)(n:Nat):Nat:=(ps M h n).j
def lp(M:Nat)(h:Int):Nat->Nat × Nat
 |0=>(bits h % (M+1),bits h)
 |k+1=>leap M (lp M h k).1 (lp M h k).2
def Up(xs:Array Nat):Prop:=∀ i j:Nat,i<j->j<xs.size->xs.getD i 0<xs.getD j 0
def rN{xs:Array Nat}{i d d':Nat}(h:i<xs.size):xs.getD i d=xs.getD i d':=by simp[Array.getD,h]
def nU{xs:Array Nat}(U:Up xs)(j:Nat):∀ (fuel lo hi:Nat),hi-lo<=fuel->lo<=hi->hi<=xs.size->(∀ i<lo,xs.getD i 0<j)->(∀ i,hi<=i->i<xs.size->j<=xs.getD i 0) ->
  below.go xs j fuel lo hi<=xs.size/\(∀ i<below.go xs j fuel lo hi,xs.getD i 0<j)/\(∀ i,below.go xs j fuel lo hi<=i->i<xs.size->j<=xs.getD i 0)
 |0,lo,hi,hf,h1,h2,h3,h4=>by
  obtain rfl:lo=hi:=by lia
  exact⟨h2,h3,h4⟩
 |fuel+1,lo,hi,hf,h1,h2,h3,h4=>by
  unfold below.go;by_cases c:lo<hi
  ·rw[if_pos c];have hm:(lo+hi) / 2<xs.size:=by lia
   by_cases d:xs.getD ((lo+hi) / 2) j<j
   ·rw[if_pos d];rw[rN hm] at d;refine nU U j fuel _ _ (by lia) (by lia) h2 (λi ny=>?_) h4;by_cases e:i=(lo+hi) / 2
    ·rw[e];exact d
    ·exact Nat.lt_trans (U i _ (by lia) hm) d
   ·rw[if_neg d];rw[rN (d':=0) hm] at d;refine nU U j fuel _ _ (by lia) (by lia) (by lia) h3 λi ny hs=>?_;by_cases e:i=(lo+hi) / 2
    ·rw[e];lia
    ·have:=U ((lo+hi) / 2) i (by lia) hs;lia
  ·rw[if_neg c];obtain rfl:lo=hi:=by lia
   exact⟨h2,h3,h4⟩
def dC(U:Up xs)(j:Nat):below xs j<=xs.size/\(∀ i<below xs j,xs.getD i 0<j)/\(∀ i,below xs j<=i->i<xs.size->j<=xs.getD i 0) :=
 nU U j xs.size 0 xs.size (by lia) (by lia) (cx _) (λi h=>absurd h (Nat.not_lt_zero i)) λi h1 h2=>by lia
def below_at(U:Up xs)(h:i<xs.size):below xs (xs.getD i 0)=i:=by
 obtain⟨a,b,c⟩:=dC U (xs.getD i 0);by_cases h1:below xs (xs.getD i 0)<i
 ·have:=c _ (cx _) (by lia);have:=U _ i h1 h;lia
 ·by_cases h2:i<below xs (xs.getD i 0)
  ·have:=b i h2;lia
  ·lia
def taken(xs:Array Nat)(j:Nat):Bool:=xs[below xs j]? == some j
def yG{xs:Array Nat}{i j:Nat}(h:xs[i]? = some j):i<xs.size/\xs.getD i 0=j:=by obtain⟨h1,h2⟩:=S9.mp h;exact⟨h1,by simp[Array.getD,h1,h2]⟩
def Ep{xs:Array Nat}{i:Nat}(h:i<xs.size):xs[i]? = some (xs.getD i 0):=by simp[Array.getD,h]
def k_{xs:Array Nat}(U:Up xs){j:Nat}:taken xs j=true↔∃ i,i<xs.size/\xs.getD i 0=j:=by
 unfold taken;rw[beq_iff_eq];constructor
 ·intro h;exact⟨_,yG h⟩
 ·rintro⟨i,h,rfl⟩;rw[below_at U h];exact Ep h
def tW{xs:Array Nat}(U:Up xs){j:Nat}(h:taken xs j=true):below xs j<xs.size/\xs.getD (below xs j) 0=j:=by unfold taken at h;rw[beq_iff_eq] at h;exact yG h
def fO{α:Type}(xs:Array α){p:Nat}(x:α)(h:p<=xs.size):(insertAt xs p x).size=xs.size+1:=by unfold insertAt;simp;lia
def IU{α:Type}(xs:Array α){p:Nat}(x:α)(h:p<=xs.size)(i:Nat):(insertAt xs p x)[i]? = if i<p then xs[i]? else if i=p then some x else xs[i-1]? := by
 unfold insertAt;have hs:((xs.extract 0 p).push x).size=p+1:=by simp;exact Nat.min_eq_left ‹_›
 by_cases h1:i<p
 ·rw[if_pos h1,Array.getElem?_append_left (by lia),Array.getElem?_push,if_neg (by simp;lia),Ta];rw[if_pos (by lia)];simp
 ·rw[if_neg h1];by_cases h2:i=p
  ·rw[if_pos h2,Array.getElem?_append_left (by lia),Array.getElem?_push,if_pos (by simp;lia)]
  ·rw[if_neg h2,Array.getElem?_append_right (by lia),hs,Ta];by_cases h3:i-(p+1)<min xs.size xs.size-p
   ·rw[if_pos h3];congr 1;lia
   ·rw[if_neg h3,S_ (by lia)]
def cU(h:p<=xs.size)(i:Nat):(insertAt xs p x).getD i 0=if i<p then xs.getD i 0 else if i=p then x else xs.getD (i-1) 0:=by
 have e:∀ (ys:Array Nat) k,ys.getD k 0=ys[k]?.getD 0:=λys k=>by simp[S8]
 rw[e,IU xs x h];split
 ·rw[e]
 ·split
  ·rfl
  ·rw[e]
def BR(U:Up xs)(hj:taken xs j=false):Up (insertAt xs (below xs j) j):=by
 obtain⟨a,b,c⟩:=dC U j;have ne:∀ i,i<xs.size->xs.getD i 0≠j:=λi hi e=>by have:=(k_ U).mpr ⟨i,hi,e⟩;rw[hj] at this;cases this
 intro i k hik hk;rw[fO xs j a] at hk;rw[cU a,cU a];by_cases h1:k<below xs j
 ·rw[if_pos (by lia),if_pos h1];exact U i k hik (by lia)
 ·rw[if_neg h1];by_cases h2:k=below xs j
  ·rw[if_pos h2,if_pos (by lia)];exact b i (by lia)
  ·rw[if_neg h2];by_cases h3:i<below xs j
   ·rw[if_pos h3];exact U i (k-1) (by lia) (by lia)
   ·rw[if_neg h3];by_cases h4:i=below xs j
    ·rw[if_pos h4];have:=c (k-1) (by lia) (by lia);have:=ne (k-1) (by lia);lia
    ·rw[if_neg h4];exact U (i-1) (k-1) (by lia) (by lia)
def ym(U:Up xs)(hj:taken xs j=false):taken (insertAt xs (below xs j) j) k=(decide (k=j) || taken xs k):=by
 have a:=(dC U j).1;have U':=BR U hj;apply B1.mpr;rw[k_ U',S7,decide_eq_true_eq,k_ U];rw[fO xs j a];constructor
 ·rintro⟨i,hi,e⟩;rw[cU a] at e;by_cases h1:i<below xs j
  ·rw[if_pos h1] at e;exact .inr ⟨i,by lia,e⟩
  ·rw[if_neg h1] at e;by_cases h2:i=below xs j
   ·rw[if_pos h2] at e;exact .inl e.symm
   ·rw[if_neg h2] at e;exact .inr ⟨i-1,by lia,e⟩
 ·rintro(rfl|⟨i,hi,e⟩)
  ·exact⟨below xs k,by lia,by rw[cU a,if_neg (by lia),if_pos rfl]⟩
  ·by_cases h1:i<below xs j
   ·exact⟨i,by lia,by rw[cU a,if_pos h1];exact e⟩
   ·exact⟨i+1,by lia,by rw[cU a,if_neg (by lia),if_neg (by lia)];exact e⟩
def Reach(M:Nat)(place:Array Nat)(h:Int)(j:Nat):Prop:=∃ n,n<=10*(M+13)/\J M h n=j/\∀ k<n,taken place (J M h k)=true
structure TI{α:Type}(t:SetTable)(es:Array (Int × α)):Prop where
 pw:∃ m,t.mask+1=2 ^ m/\3<=m
 sz:t.place.size=es.size
 up:Up t.place
 le:∀ i,i<t.place.size->t.place.getD i 0<=t.mask
 dm:t.dummies = #[]
 few:es.size*5<t.mask*3
 path:∀ i h x,es[i]? = some (h,x)->Reach t.mask t.place h (t.place.getD i 0)
section
variable {α:Type}{t:SetTable}{es:Array (Int × α)}
def TI.slot(T:TI t es)(j:Nat):t.slot j=if taken t.place j then .live (below t.place j) else .empty:=by
 unfold SetTable.slot taken;dsimp only;split
 ·rfl
 ·have:has t.dummies j=false:=by rw[T.dm];rfl
  rw[this];rfl
def TI.free(T:TI t es):∃ e,e<=t.mask/\taken t.place e=false:=by
 have hf:=T.few;have hs:=T.sz;by_cases c:∃ e,e<=t.mask/\taken t.place e=false
 ·exact c
 ·exfalso;have all:∀ e,e<=t.mask->taken t.place e=true:=λe he=>by
   cases z:taken t.place e with
   |true=>rfl
   |false=>exact absurd ⟨e,he,z⟩ c
  -- slot e stands at place at most e
  have go:∀ e,e<=t.mask->e<=below t.place e:=by
   intro e
   induction e with
   |zero=>intro _;exact fI _
   |succ e ih =>
    intro he;have h1:=tW T.up (all e (by lia));obtain⟨_,b,c⟩:=dC T.up (e+1);by_cases z:below t.place e<below t.place (e+1)
    ·lia
    ·have:=c (below t.place e) (by lia) h1.1;lia
  have:=go t.mask (cx _);have:=(tW T.up (all t.mask (cx _))).1;lia
def TI.put(T:TI t es)(hj:j<=t.mask)(hn:taken t.place j=false)(hr:Reach t.mask t.place h j)(ht:t'.mask=t.mask)(hp:t'.place=insertAt t.place (below t.place j) j)(hd:t'.dummies = #[])(hf:(es.size+1)*5<t.mask*3):TI t' (insertAt es (below t.place j) (h,x)):=by
 have a:=(dC T.up j).1;have a':below t.place j<=es.size:=by rw[<- T.sz];exact a
 refine⟨by rw[ht];exact T.pw,by rw[hp,fO _ _ a,fO _ _ a',T.sz],by rw[hp];exact BR T.up hn,λi hi=>?_,hd,by rw[fO _ _ a',ht];exact hf,λi g y e=>?_⟩
 ·rw[hp,fO _ _ a] at hi;rw[hp,cU a,ht];split
  ·exact T.le i (by lia)
  ·split
   ·exact hj
   ·exact T.le (i-1) (by lia)
 ·have mono:∀ {g:Int} {k:Nat},Reach t.mask t.place g k->Reach t'.mask t'.place g k:=λ{g k} ⟨n,h1,h2,h3⟩=>⟨n,by rw[ht];exact h1,by rw[ht];exact h2,λq hq=>by
   rw[hp,ht,ym T.up hn,h3 q hq,Bool.or_true]⟩
  rw[IU es _ a'] at e;rw[hp,cU a,<- hp];by_cases h1:i<below t.place j
  ·rw[if_pos h1] at e ⊢;exact mono (T.path i g y e)
  ·rw[if_neg h1] at e ⊢;by_cases h2:i=below t.place j
   ·rw[if_pos h2] at e ⊢;cases e;exact mono hr
   ·rw[if_neg h2] at e ⊢;exact mono (T.path (i-1) g y e)
end
theorem pB{α:Type}[DecidableEq α]:∀ {l m:List α},l.Nodup->(∀ x∈l,x∈m)->l.length<=m.length
 |[],_,_,_=>fI _
 |x :: l,m,nd,h=>by rw[sv] at nd;have hx:=h x fo;have:=pB (m:=m.erase x) nd.2 λy hy=>(List.mem_erase_of_ne (λe=>nd.1 (by rw[<- e];exact hy))).mpr (h y (eA _ hy));rw[List.length_erase_of_mem hx] at this;have:0<m.length:=List.length_pos_of_mem hx;simp only[kB];lia
def OU(owner:Array (Option Nat))(j:Nat):Bool:=(owner.getD j (some 0)).isSome
structure OI(M:Nat)(hs:List Int)(owner:Array (Option Nat)):Prop where
 sz:owner.size=M+1
 lt:∀ j v:Nat,owner[j]? = some (some v)->v<hs.length
 inj:∀ j j' v:Nat,owner[j]? = some (some v)->owner[j']? = some (some v)->j=j'
 all:∀ v:Nat,v<hs.length->∃ j:Nat,owner[j]? = some (some v)
 path:∀ j v:Nat,owner[j]? = some (some v)->∃ n,n<=10*(M+13)/\J M (hs.getD v 0) n=j/\∀ q<n,OU owner (J M (hs.getD v 0) q)=true
def Ds(h:j<owner.size):OU owner j=true↔∃ v,owner[j]? = some (some v):=by
 unfold OU;rw[Array.getElem?_eq_getElem h];simp only[Array.getD,h,dite_true,Option.some.injEq]
 cases hh:owner[j] with
 |none =>have:owner.getInternal j h=none:=hh;rw[this];simp
 |some v =>have:owner.getInternal j h=some v:=hh;rw[this];simp
def OI.free(O:OI M hs owner)(hl:hs.length<=M):∃ e,e<=M/\OU owner e=false:=by
 by_cases c:∃ e,e<=M/\OU owner e=false
 ·exact c
 ·exfalso;have all:∀ e,e<=M->∃ v,owner[e]? = some (some v):=λe he=>by
   refine(Ds (by rw[O.sz];lia)).mp ?_
   cases z:OU owner e with
   |true=>rfl
   |false=>exact absurd ⟨e,he,z⟩ c
  have nd:((List.range (M+1)).map λj=>(owner.getD j none).getD 0).Nodup:=by rw[Sy,L9];refine List.Pairwise.imp_of_mem ?_ (Sy.mp List.nodup_range);intro a b ha hb mE z;obtain⟨va,ea⟩:=all a (by have:=BU.mp ha;lia);obtain⟨vb,eb⟩:=all b (by have:=BU.mp hb;lia);rw[S8,S8,ea,eb] at z;subst z;exact mE (O.inj _ _ _ ea eb)
  have:=pB nd λx hx=>by obtain⟨j,hj,rfl⟩:=iq.mp hx;obtain⟨v,e⟩:=all j (by have:=BU.mp hj;lia);rw[S8,e];exact BU.mpr (O.lt _ _ e)
  simp at this;lia
def OI.nil(M:Nat):OI M [] (Array.replicate (M+1) none):=by
 have no:∀ (j v:Nat),¬ (Array.replicate (M+1) none)[j]? = some (some v):=λj v z=>by rw[Array.getElem?_replicate] at z;split at z<;>cases z
 exact⟨by simp,λj v z=>absurd z (no j v),λj j' v z _=>absurd z (no j v),λv hv=>absurd hv (Nat.not_lt_zero v),λj v z=>absurd z (no j v)⟩
section
variable {prog:b9}{w:cy}{K:Type}[DecidableEq K]{knd:KeyKind prog w K}
abbrev KJ(knd:KeyKind prog w K)(k:List K):Int:=tupleKeyHash knd k
def KZ(knd:KeyKind prog w K)(p:List K × ag):Int × ah:=(KJ knd p.1,.ref p.2)
structure cs'(knd:KeyKind prog w K)(h:c9)(a:ag)(ks:List (List K × ag)):Prop where
 ob:∃ o es ep t,h.get? a=some o/\o.ExactSet/\o.data=.set es ep t/\TI t es/\t.mask<=8191/\t.led=(!w.params.followText "set-order")/\es.toList=ks.map (KZ knd)
 nd:(ks.map (·.1)).Nodup
 is:∀ p∈ks,IsTupleKey knd h p.1 p.2
end
local macro_rules | `(tactic| walk_at $s:str) => do
 let x:=s.getString
 if x.startsWith "PV" then `(tactic| exact $(Lean.mkIdent (.str (.str (.num (.str (.str (.str .anonymous "_private") "PySem") "SetOps") 0) "PySem") (x.drop 2).toString)))
 else Lean.Macro.throwUnsupported
section
variable {prog:b9}{w:cy}{K:Type}[DecidableEq K]{knd:KeyKind prog w K}
def cs'.ne(S:cs' knd h a ks)(hx:IsTupleKey knd h k x):x≠a:=by obtain⟨⟨o,es,ep,t,ho,hex,_⟩,_,_⟩:=S;obtain⟨o',items,n,rh,hc,_⟩:=hx;intro z;subst z;rw[ho] at rh;cases rh;rw[hex.1] at hc;exact absurd hc (by decide)
end
end TS
namespace TS
open PySem PySem.SetTable PyProof.Rows
section
def Zf(h:c9)(I:ag)(first:ah)(i:Nat)(a:ag)(n ep:Nat):Prop :=
 h.get? I=some { cls:=.type "set_iterator",dict:=none,data:=.fields #[first,.int i 0,.ref a,.int n 0,.int ep 0],slots:=#[] }
def Zg(h:c9)(a:ag)(es:Array (Int × ah))(ep:Nat)(t:SetTable):Prop:=∃ o,h.get? a=some o/\o.data=.set es ep t
variable {a I:ag}{es:Array (Int × ah)}{ep:Nat}{t:SetTable}{first:ah}{i n:Nat}
def PV(ys:List (Int × ah))(i:Nat)(v:ah):Prop:=∃ e,ys[i]? = some e/\v=e.2
def Zf.keep(x:Zf h I first i a n ep)(e:∀ o,h.get? I=some o->h'.get? I=some o):Zf h' I first i a n ep:=e _ x
def Zg.keep(x:Zg h a es ep t)(e:∀ o,h.get? a=some o->h'.get? a=some o):Zg h' a es ep t:=let ⟨o,ho,r⟩:=x;⟨o,e _ ho,r⟩
end
end TS
namespace FH
open PySem PyProof.Rows
end FH
namespace TS
open PySem PySem.SetTable PyProof.Rows
end TS
section
open PySem PySem.Spec PyProof.Rows
namespace L2
end L2
end
namespace TS
open PySem PySem.SetTable PyProof.Rows
end TS
section
open PySem PySem.Spec PyProof.Rows
namespace L2
end L2
namespace L2.Q
end L2.Q
namespace L2.Q.R
end L2.Q.R
namespace L2
end L2
namespace L2.Q
section
variable {K:ax}
def bP.rev(r:bP K H ds vs):bP K H ds.reverse vs.reverse:=by
 induction ds generalizing vs with
 |nil=>rw[r.n0];exact .nil
 |cons d ds ih =>obtain⟨u,us,rfl,r,rs⟩:=r.c;rw[List.reverse_cons,List.reverse_cons];exact(ih rs).append (.cons r .nil)
end
end L2.Q
namespace L2.Q.R
end L2.Q.R
namespace L2.Q
open PySem.W
abbrev ct':List ah:=[.type "ValueError",.type "Exception",.type "BaseException",.type "object"]
structure oT(K:ax)(C:ag):Prop where
 ex:excIn K C ct' "ValueError.__new__" = true
 gx:findIn K (.ref C) "__getattr__" = some none
 ga:findIn K (.ref C) "__getattribute__" = some (some (.builtin "BaseException.__getattribute__"))
 cl:findIn K (.ref C) "__class__" = some (some (.builtin "object.__class__"))
 ob:mroIn K C (.type "object")=some true
def oT.obj{K:ax}(x:oT K C)(X:K.In h):∃ bm N nm q bs hdct sn sub ab col dd k0 k1 k2 k3 k5 mN,
  h.get? C=some (excClassObj nm q C N bs bm hdct sn sub ab col dd k0 k1 k2 k3 k5 "ValueError.__new__")/\h.Ns N mN/\mN "__init__" = none/\OwnTail h ct' bm:=by
 have q:=x.ex;unfold excIn at q;split at q
 ·rename_i dd cd sl ho;split at q
  ·rename_i C' bm k0 k1 k2 k3 n k5 hm hs;simp only[kM,beq_iff_eq,Vt] at q;obtain⟨⟨⟨⟨⟨e1,e2⟩,kc'⟩,ht⟩,aI⟩,FU⟩:=q;cases e1;cases e2;cases cd;cases hm;cases kc';have hsl:sl = #[k0,k1,k2,k3,some (.builtin "ValueError.__new__"),k5]:=by cases sl;dsimp only at hs;rw[hs]
   cases hsl;exact⟨bm,_,_,_,_,_,_,_,_,_,dd,k0,k1,k2,k3,k5,_,X _ _ ho,.of_isNs (isNs_of_in X aI),nsMap_none_of_in X aI FU,tail_of_in X ht⟩
  ·cases q
 ·cases q
section
variable {prog:b9}{w:cy}{A:e7}{E:ah->aC->Prop}{h:c9}{g:Array GenState}{d:Drawn}{t:Nat}{os:OsState}{a C:ag}{o:Obj}{K:ax}
def Ac{R:Result->aC->Prop}(x:oT K C)(X:K.In h)(hx:h.get? a=some o)(hc:o.cls=.ref C)(hq:R (.ok (.ret (.ref C))) ⟨h,g,d,t,os⟩) :
  codeAny (aT prog w) A (.call (.builtin "getset_descriptor.__get__") ⟨[.builtin "object.__class__",.ref a,.ref C],[]⟩) R ⟨h,g,d,t,os⟩:=by
 obtain⟨bm,N,nm,q,bs,hdct,sn,sub,ab,col,dd,k0,k1,k2,k3,k5,mN,hC,hN,FU,T⟩:=x.obj X;have hT5:(⟨h,g,d,t,os⟩:aC).TypeIs (.builtin "object.__class__") "getset_descriptor" := F.typeOf_object_class;have RZ:(Value.ref C :: bm).contains (.type (".".intercalate ("object.__class__".cutAt '.').dropLast))=true:=by rw[F.owner_object_class,Vl,T.hasType rfl];rfl
 refine codeAny_call_builtin F.slot_gs_get.plain F.entry_gs_get (F.slot_gs_get.check _ _ _ _ _ _ _ _ hT5 (F.args_gs_get _ _ _) ?_);repeat (any_goals (first|assumption|(with_reducible refine HG hx ?_;rw[hc])|(with_reducible refine wpAny_isSubtype_exc hC ?_;rw[RZ])|wp_step))
 refine⟨Code.quiet_builtin _ (by decide +kernel),codeAny_builtin F.entry_object_class ?_⟩;repeat (any_goals (first|assumption|(with_reducible refine HG hx ?_;rw[hc])|wp_step))
def uX(x:oT K C)(X:K.In h)(hx:h.get? a=some o)(hc:o.cls=.ref C)(hq:Q (.done (.ret (.ref C))) ⟨h,g,d,t,os⟩) :
  b5 (aT prog w) A (Builtin.«object.__getattribute__» ⟨[.ref a,.str "__class__" tk],[]⟩) Q E ⟨h,g,d,t,os⟩:=by
 have f5:=F.typeOf_object_class;have f6:=F.slot_gs_get.lookup;have f7:=F.slot_gs_set.lookup;have Lk:=looks_findIn (M:=aT prog w) X x.cl;repeat (any_goals (first|assumption|(with_reducible refine HG hx ?_;rw[hc])|with_reducible refine Lk.at ?_|wp_step))
 refine Ac x X hx hc ?_;repeat (any_goals (first|assumption|wp_step))
def Es(x:oT K C)(X:K.In h)(hx:h.get? a=some o)(hc:o.cls=.ref C)(hq:Q (.ref C) ⟨h,g,d,t,os⟩) :
  b5 (aT prog w) A (getAttrBy (.ref a) (.str "__class__" tk) false) Q E ⟨h,g,d,t,os⟩:=by
 have f3:=F.attr_ValueError.ga.bind (.ref a);have Lk:=looks_findIn (M:=aT prog w) X x.ga;have Lg:=looks_findIn (M:=aT prog w) X x.gx;repeat (any_goals (first|assumption|(with_reducible refine HG hx ?_;rw[hc])|with_reducible refine Lk.at ?_|with_reducible refine Lg.at ?_|wp_step))
 obtain⟨bm,N,nm,q,bs,hdct,sn,sub,ab,col,dd,k0,k1,k2,k3,k5,mN,hC,hN,FU,T⟩:=x.obj X;have hk:builtinKind "BaseException.__getattribute__" = some .slot:=by decide +kernel
 have hsplit:splitId "BaseException.__getattribute__" = some ("BaseException", "__getattribute__"):=by decide +kernel
 have RZ:(Value.ref C :: bm).contains (.type "BaseException")=true:=by rw[Vl,T.hasType rfl];rfl
 have chk:∀ {Q':Unit->aC->Prop} {E':ah->aC->Prop} {A':e7},Q' () ⟨h,g,d,t,os⟩->b5 (aT prog w) A' (checkBuiltinCall "BaseException.__getattribute__" ⟨[.ref a,.str "__class__" tk],[]⟩) Q' E' ⟨h,g,d,t,os⟩:=λ{Q' E' A'} IY=>by
  have ha:=F.args_bexc_ga (.ref a) (.str "__class__" tk);simp only[checkBuiltinCall,hk,hsplit];refine bS ?_;unfold isInstance;repeat (first|(with_reducible refine HG hx ?_;rw[hc])|(with_reducible refine wpAny_isSubtype_exc hC ?_;rw[RZ])|wp_step)
  exact IY
 refine codeAny_call_builtin F.attr_ValueError.ga.plain F.entry_bexc_ga (chk (uX x X hx hc ?_));repeat (any_goals (first|assumption|wp_step))
def wj (x:oT K C) (X:K.In h) (hx:h.get? a=some o) (hc:o.cls=.ref C) (hq:Q (some (.ref C)) ⟨h,g,d,t+1,os⟩):b5 (aT prog w) A (getAttr? (.ref a) "__class__") Q E ⟨h,g,d,t,os⟩:=by
 repeat (any_goals (first|assumption|with_reducible apply Es x X hx hc|wp_step))
end
def XAt(a C:ag)(h:c9):Prop:=∃ o,h.get? a=some o/\o.cls=.ref C
def oT.kg'{K:ax}(x:oT K C)(X:K.In h):Looks M h (isType (.ref C)) true:=by obtain⟨bm,N,nm,q,bs,hdct,sn,sub,ab,col,dd,k0,k1,k2,k3,k5,mN,hC,hN,FU,T⟩:=x.obj X;intro A' Q' E' s' k q;exact bS (wpAny_loadPart (k _ _ hC) (dk q))
def tU{K:ax}(x:oT K C):KitX K (.ref a) (.ref C) (XAt a C) where
 ty:=λM h X p=>by obtain⟨o,h1,h2⟩:=p;exact h2 ▸ (Looks.ld h1).andThen .now
 it:=λM h X p=>x.kg' X
 ne:=λh tp dd its n sl X htp=>by obtain⟨bm,N,nm,q,bs,hdct,sn,sub,ab,col,dd,k0,k1,k2,k3,k5,mN,hC,hN,FU,T⟩:=x.obj X;refine Bool.eq_false_iff.mpr λq=>?_;have e:C=tp:=Value.ref.inj (beq_iff_eq.mp q);subst e;have z:=congrArg (λo=>o.map (·.data)) (hC.symm.trans htp);cases z
 ca:=λ{prog w A E Q s} X p k=>by obtain⟨h,g,d,t,os⟩:=s;obtain⟨o,h1,h2⟩:=p;exact wj x X h1 h2 k
def qC{K:ax}{a C R:ag}{os:OsState}(x:oT K C)(r:oT K R)(sub:mroIn K C (.ref R)=some true)(X:K.In h)(p:XAt a C h)(hq:Q true ⟨h,g,d,t,os⟩):b5 M A (excMatches (.ref a) (.ref R)) Q E ⟨h,g,d,t,os⟩:=by
 obtain⟨bm,N,nm,q,bs,hdct,sn,pw',ab,col,dd,k0,k1,k2,k3,k5,mN,hC,hN,FU,T⟩:=r.obj X;obtain⟨oe,he,VD⟩:=p;have RZ:(Value.ref R :: bm).contains (.type "BaseException")=true:=by rw[Vl,T.hasType rfl];rfl
 have f:=tc_notTuple;have Lk:=looks_mroIn (M:=M) X sub;repeat (first|(with_reducible refine HG he ?_;rw[VD])|with_reducible refine HG hC ?_|(with_reducible refine wpAny_isSubtype_exc hC ?_;rw[RZ])|with_reducible refine Lk.at ?_|wp_step)
 exact hq
theorem FunFrames.rebase{h base B:c9}:∀ {l:List PySem.Env},h.FunFrames base l->(∀ b∈gE l,B.get? b=none)->h.FunFrames B l
 |[],_,_=>trivial
 |env :: rest,⟨hk,⟨L,o,hf,hn,ho,hd⟩,hr⟩,hB=>⟨hk,⟨L,o,hf,hB L (by unfold gE;rw[DJ,hf];exact fo),ho,hd⟩,
   FunFrames.rebase hr λb hb=>hB b (by unfold gE;rw[DJ,hf];exact eA _ hb)⟩
def kR.there{P:b9}(x:kR P w H h a o):∃ u,h.get? a=some u:=by
 cases o with
 |lst xs=>obtain⟨_,_,_,_,e⟩:=x;exact⟨_,e⟩
 |tup xs=>obtain⟨_,_,_,_,e,_⟩:=x;exact⟨_,e⟩
 |dK ae=>obtain⟨_,_,_,_,o,_,_,e,_⟩:=x;exact⟨_,e⟩
 |dT ae=>obtain⟨_,_,_,_,o,_,_,e,_⟩:=x;exact⟨_,e⟩
 |set S n=>obtain⟨o,_,_,_,e,_⟩:=x;exact⟨_,e⟩
 |ins C dx fs=>obtain⟨_,_,_,e,_⟩:=x;exact⟨_,e⟩
 |own y=>exact x
 |xd fs=>obtain⟨_,⟨_,_,_,e,_⟩,_⟩:=x;exact⟨_,e⟩
 |Td lo hi=>obtain⟨_,_,_,e⟩:=x;exact⟨_,e⟩
 |pE ob u=>obtain⟨e,_⟩:=x;exact⟨_,e⟩
 |E7 ps=>exact⟨_,(x)⟩
 |met f y=>exact⟨_,(x)⟩
 |ext φ=>obtain⟨_,e,_⟩:=x;exact e
def A7(B:c9)(fs:List ag)(H':Hp)(h₀ h:c9):Prop:=∀ b o,h.get? b=some o->(H' b≠none\/h₀.get? b≠none)->b∉fs->B.get? b=some o
def oz(P:b9)(w:cy)(mg:Str->Option ah)(rn:List Str):D4:=λouter H s E e s' =>
 ∃ a n C a0 H' B,e=.ref a/\(n∈rn/\mg n=some (.ref C))/\s'.os=s.os/\AllBare s'.gens/\Un (gE outer) [] H H' s.heap s'.heap/\hU P w H' s'.heap /\
  Heap.FlyingW B outer a (.ref C) a0 s'.heap/\A7 B (gE outer) H' s.heap s'.heap/\(∀ b∈gE outer,H' b=none)/\E (.ref C) none H'
structure gB(fs:List ag)(H':Hp)(h₀ h h':c9):Prop where
 keep:∀ b o,h.get? b=some o->(H' b≠none\/h₀.get? b≠none)->b∉fs->h'.get? b=some o
 slot:∀ b o,h.get? b=some o->b∈fs->∃ sl,h'.get? b=some { o with slots:=sl }
def gB.of{B:c9}(c:A7 B (gE l) H' h₀ h)(st:B.StaysIn h')(up:h.UpToSlots h')(ff:h.FunFrames base l):gB (gE l) H' h₀ h h' :=
 ⟨λb o e k n=>st b o (c b o e k n),λb o e m=>by
  obtain⟨_,o',e',d⟩:=ff.mem m;rw[e] at e';cases e';exact up b o e d⟩
def gB.un(m:gB fs H' h₀ h h')(u:Un fs [] H H' h₀ h):Un fs [] H H' h₀ h' where
 keep:=λb o e n nb nx=>m.keep b o (u.keep b o e n nb nx) (.inr (by rw[e];exact λz=>nomatch z)) nb
 slot:=λb o e n hb nx=>by obtain⟨_,e1⟩:=u.slot b o e n hb nx;obtain⟨sl,e2⟩:=m.slot b _ e1 hb;exact⟨sl,e2⟩
 free:=u.free
 there:=λb o e nx=>by
  obtain⟨o',e1⟩:=u.there b o e nx;by_cases hb:b∈fs
  ·obtain⟨sl,e2⟩:=m.slot b o' e1 hb;exact⟨_,e2⟩
  ·exact⟨o',m.keep b o' e1 (.inr (by rw[e];exact λz=>nomatch z)) hb⟩
 iF:=u.iF
 vv:=u.vv
 w_:=u.w_
def gB.aI{P:b9}(m:gB fs H' h₀ h h')(f:∀ b∈fs,H' b=none)(x:hU P w H' h):hU P w H' h':=λa o e =>
 (x a o e).fN (λb u hb q=>by
  have hH:H' b≠none:=by
   rcases hb with z|z
   ·rw[z,e];exact λz=>nomatch z
   ·rw[z];exact λz=>nomatch z
  exact m.keep b u q (.inl hH) λz=>hH (f b z)) (λ_ q=>q) λ_ _ q=>q
section
variable {X:Cx}{pins:List (ag × Obj)}{σ:St}{H H':Hp}{s:aC}{e:ah}
def A7.up{B h h':c9}(rq:X.stack=X.env :: X.outer)(hf:X.env.frame=some X.env.locals)(hex:X.ex=[])(I:Inv X pins σ H s)(un:Un (gE X.stack) [] H H' s.heap h)(c:A7 B (gE X.stack) H' s.heap h)(m:gB (gE X.stack) H' s.heap h h')(fr:∀ b∈gE X.stack,H' b=none)(aI:hU X.prog X.w H' h) :
  Un X.fs [] X.DV H' X.fT.heap h'/\A7 B X.fs H' X.fT.heap h':=by
 have hs:∀ b,b∈gE X.stack↔b=X.env.locals\/b∈X.fs:=λb=>by rw[rq];unfold gE;rw[DJ,hf];exact eJ
 have Q7:∀ b o,X.fT.heap.get? b=some o->b≠X.env.locals:=λb o e=>j3 (pz (fS e) I.ok.above);have OV:∀ b:ag,b∉X.ex:=λb z=>by rw[hex] at z;exact nomatch z
 have m':=m.un un;have th:∀ b o,X.fT.heap.get? b=some o->∃ o',s.heap.get? b=some o':=λb o e=>I.base.there b o e (OV b);refine⟨⟨λb o e n nb nx=>?_,λb o e n hb nx=>?_,λb o e n nx=>?_,λb o e nx=>?_,λb xs e=>un.iF b xs (I.base.iF b xs e),λb ob u e=>un.vv b ob u (I.base.vv b ob u e),λb ps e=>?_⟩,λb o e k nb=>?_⟩
 ·exact m'.keep b o (I.base.keep b o e n nb (OV b)) (I.base.free b o e n (OV b)) (λz=>((hs b).mp z).elim (Q7 b o e) nb) (by simp)
 ·obtain⟨_,e1⟩:=I.base.slot b o e n hb (OV b);obtain⟨sl,e2⟩:=m'.slot b _ e1 (I.base.free b o e n (OV b)) ((hs b).mpr (.inr hb)) (by simp);exact⟨sl,e2⟩
 ·obtain⟨o',e1⟩:=th b o e;exact un.free b o' e1 (I.base.free b o e n (OV b)) (by simp)
 ·obtain⟨o',e1⟩:=th b o e;exact m'.there b o' e1 (by simp)
 ·obtain⟨m1,e1⟩:=I.base.w_ b ps e;obtain⟨m2,e2⟩:=un.w_ b _ e1;exact⟨m1++m2,by rw[e2,QX]⟩
 ·have key:∀ o',h.get? b=some o'->(H' b≠none\/s.heap.get? b≠none)->b∉gE X.stack->B.get? b=some o:=λo' e' k' n'=>by have:=m.keep b o' e' k' n';rw[e] at this;cases this;exact c b o e' k' n'
  rcases k with k|k
  ·have nf:b∉gE X.stack:=λz=>k (fr b z)
   cases q:H' b with
   |none=>exact absurd q k
   |some u =>obtain⟨o',e'⟩:=kR.there (aI b u q);exact key o' e' (.inl k) nf
  ·cases q:X.fT.heap.get? b with
   |none=>exact absurd q k
   |some o0 =>obtain⟨o1,e1⟩:=th b o0 q;obtain⟨o2,e2⟩:=un.there b o1 e1 (by simp);exact key o2 e2 (.inr (by rw[e1];exact λz=>nomatch z)) λz=>((hs b).mp z).elim (Q7 b o0 q) nb
end
section
variable {P:b9}{w:cy}{K:ax}{mg:Str->Option ah}{base:c9}{N:List Str}{qual:Str}{scope:Scope}{f:ag}{cd:ah}{A:e7}{outer:List PySem.Env}{fT:aC}{DV:Hp}{E:XK}{rn:List Str}
def xP(hf:env.frame=some L)(h:b∈gE l):b∈gE (env :: l):=by unfold gE;rw[DJ,hf];exact eA _ h
def qg:Passes (oz P w mg rn) (lT (oz P w mg rn) P w K mg base N qual scope f cd A outer fT DV E) E:=by intro pins σ H s e s' I hx;obtain⟨a,n,C,a0,H',B,he,hn,os,bare,un,aI,FV,cov,fr,hE⟩:=hx;subst he;refine wpAny_leaves_onW I.ok.frames rfl FV λh' cw' up=>?_;have mv:=gB.of cov cw'.1 up FV.2.2.1;obtain⟨u1,c1⟩:=A7.up rfl rfl rfl I un cov mv fr aI;exact⟨a,n,C,a0,H',B,rfl,hn,os.trans I.os,bare,u1,mv.aI fr aI,cw',c1,λb hb=>fr b (xP rfl hb),hE⟩
def rA(X:Cx)(rn:List Str)(E:XK):Prop:=∀ (pins:List (ag × Obj)) (σ:St) (H:Hp) (s:aC) (h':c9) (e:ag) (n:Str) (C:ag) (vs:List ah),Inv X pins σ H s->Heap.MadeExcOf s.heap h' e (.ref C) vs ->
 n∈rn->X.mg n=some (.ref C)->E (.ref C) none H->X.xe (.ref e) { s with heap:=h' }
def jX:rA (lT (oz P w mg rn) P w K mg base N qual scope f cd A outer fT DV E) rn E:=by
 intro pins σ H s h' e n C vs I hx hn hm hE;have st:=I.stack;have ff:s.heap.FunFrames (hideAll s.heap (gE (ki qual scope fT.heap.objs.size f cd :: outer))) (ki qual scope fT.heap.objs.size f cd :: outer):=FunFrames.rebase st λb hb=>hideAll_none _ hb;refine wpAny_leaves_madeW (h:=s.heap) I.ok.frames rfl (λb o q=>of_hideAll _ q) ff hx λh'' t FV tup hnt up=>?_;have ff':h'.FunFrames (hideAll s.heap (gE (ki qual scope fT.heap.objs.size f cd :: outer))) (ki qual scope fT.heap.objs.size f cd :: outer):=ff.of_keeps λb o q _=>⟨o,hx.keeps b o q,rfl⟩
 have aI:hU P w H h':=I.aI.kept hx.keeps;have fr:∀ b∈gE (ki qual scope fT.heap.objs.size f cd :: outer),H b=none:=I.Vz;have cov:A7 (hideAll s.heap (gE (ki qual scope fT.heap.objs.size f cd :: outer))) (gE (ki qual scope fT.heap.objs.size f cd :: outer)) H s.heap h':=λb o q k nb=>by
  have ho:∃ o1,s.heap.get? b=some o1:=by
   rcases k with k|k
   ·cases z:H b with
    |none=>exact absurd z k
    |some u=>exact kR.there (I.aI b u z)
   ·exact Vq.mp k
  obtain⟨o1,e1⟩:=ho;have e2:=hx.keeps b o1 e1;rw[q] at e2;cases e2;exact hideAll_get _ e1 nb
 have mv:gB (gE (ki qual scope fT.heap.objs.size f cd :: outer)) H s.heap h' h'':=gB.of cov FV.1 up ff';obtain⟨u1,c1⟩:=A7.up rfl rfl rfl I (Un.kept hx.keeps) cov mv fr aI;exact⟨e,n,C,_,H,_,rfl,⟨hn,hm⟩,I.os,I.bare,u1,mv.aI fr aI,FV,c1,λb hb=>fr b (xP rfl hb),hE⟩
def JM{X:Cx}:Passes (oz P w mg rn) X E0:=by intro _ _ _ _ _ _ _ hx;obtain⟨_,_,_,_,_,_,_,_,_,_,_,_,_,_,_,h⟩:=hx;exact h.elim
def LX(rn:List Str)(mg:Str->Option ah)(E:XK):Str->Hp->Prop:=λn H'=>n∈rn->∀ C,mg n=some (.ref C)->E (.ref C) none H'
def iC(K:ax)(rn:List Str)(mg:Str->Option ah)(sp:fw):Sp:=λvs H Qv E=>∃ ds Qd,bP K H ds vs/\sp ds Qd /\ (∀ v H' aw m d As,bq H aw->Wf aw H'->RM K aw H' m d v As->As.Nodup->(∀ a∈As,aw a=none)->Qd m d->Qv v H') /\
 ∀ n H',bq H H'->Qd (.ow false) (.str n)->LX rn mg E n H'
def uY(h:iC K rn mg sp vs H Qv E)(hp:∀ ds Q,sp ds Q->t { nx:=λ_=>Q .sh .non,rt:=Q } (aN N.length ds)) :
  yk K (LX rn mg E) t { nx:=λ_ H'=>Qv .non H',rt:=Qv } (start N vs) H:=by
 obtain⟨ds,Qd,rs,hs,fin,fx⟩:=h;have hl:=rs.length;refine⟨H,aN N.length ds,[],{ nx:=λ_=>Qd .sh .non,rt:=Qd },⟨?_,⟨bq.refl _,λ_ _ e=>e⟩,mz,λa h=>nomatch h⟩,hp ds Qd hs,?_,?_,?_,?_,fx⟩
 ·unfold aN start;rw[hl];exact SR.start rs
 ·exact λbX H' aw bt cf s sr q=>fin .non H' aw .sh .non [] s sr.wf ⟨rfl,.non⟩ mz (λa h=>nomatch h) q
 ·exact λbX H' aw bt cf s sr q=>q.elim
 ·exact λbX H' aw bt cf s sr q=>q.elim
 ·exact λv H' aw m d As s w r nd own q=>fin v H' aw m d As s w r nd own q
def Zh.ok{st:g9}{ps:List Str}(F:nV K x qual st f fd)(S:xi N ps (d5 st))(len:∀ ds Q,sp ds Q->ds.length=ps.length)(vx:∀ (cK:ah) (A:e7) (outer:List PySem.Env) (s:aC) (H:Hp) (E:XK),gp k (A.deeper (ki qual (d5 st) s.heap.objs.size f cK))->qo (lT (oz P w mg rn) P w K mg base N qual (d5 st) f cK A outer s H E) K (LX rn mg E) (kS st) t)(hp:∀ ds Q,sp ds Q->t { nx:=λ_=>Q .sh .non,rt:=Q } (aN N.length ds)):ja P w K mg base (oz P w mg rn) (k+1) f fd ps (iC K rn mg sp):=by
 obtain⟨oc,od,kV,doc,pm,an,cK,ct,z5,rfl,lk,pS⟩:=F.ex;exact V3 lk pS S (λvs H Q E ⟨ds,Qd,rs,hs,_⟩=>by rw[<- rs.length];exact len ds Qd hs) λA outer s H vs Q E hr An=>⟨_,vx cK A outer s H E hr,uY An hp⟩
structure R0(P:b9)(w:cy)(K:ax)(mg:Str->Option ah)(base:c9)(rn:List Str)(k:Nat)(x:Str)(ps:List Str)(sp:fw):Prop where
 ex:∃ (g:ag) (fd:nK),mg x=some (.ref g)/\tJ K (.ref g)=true/\Binds K fd ps []/\ja P w K mg base (oz P w mg rn) k g fd ps (iC K rn mg sp)
def nV.kj'{st:g9}{ps:List Str}(F:nV K x qual st f fd)(hm:mg x=some (.ref f))(ok:ja P w K mg base (oz P w mg rn) k f fd ps (iC K rn mg sp))(h:∀ (kV doc pm:ah) (an:Option ag) (cK ct:ah) (us:List ah),us.length=ps.length->bindArgs (pj x qual (sN st) (kS st) (d5 st) .none kV doc pm an cK ct) ⟨us,[]⟩=pure (ps.zip us)):R0 P w K mg base rn k x ps sp:=⟨f,fd,hm,F.kp,F.binds h,ok⟩
end
def XCl(K:ax)(mg:Str->Option ah)(n:Str):Prop:=∃ C,mg n=some (.ref C)/\oT K C
def qA(m:Md)(d:D)(Y:Str->Prop)(N:Prop):Prop:=match m,d with
 |.ow false,.str n=>Y n
 |_,_=>N
def wW{K:ax}(r:RM K Hs H m d v As)(h:qA m d Y N):N:=by
 unfold qA at h;split at h
 ·obtain⟨r,ne⟩:=r;cases r;exact absurd rfl ne
 ·exact h
section
variable {X:Cx}{K:ax}{rn:List Str}{E:XK}{e:Expr}{es:List Expr}{te:WE}{t:WA}{pos:Pos}
def iz(n:Str)(te:WE):WS:=λE ρ=>te ρ λ_ _=>E.rt (.ow false) (.str n)
def zm (hc:X.calm=true) (ok:rA X rn E) (hn:x∈rn) (hm:X.mg x=some (.ref C)) (xc:oT X.K C) (ha:PA X [e] ta) (hg:Gl X x) (jv:(x == ("__debug__" : Str))=false)(he:bE [e] X.env=[(false,b4 e X.env)]):PS X (.Raise (some (.Call (.Name x np) [e] [] eI)) none pos) (λD σ H=>ta σ H λvs H1=>vs.length<=bI/\E (.ref C) none H1):=by
 intro pins s σ H D I h;obtain⟨bm,N,nm,q,bs,hdct,sn,sub,ab,col,dd,k0,k1,k2,k3,k5,mN,hC,hN,FU,T⟩:=xc.obj I.mod.Q5;refine wpAny_Raise_call_subT (nm:=nm) (q:=q) (N:=N) (bs:=bs) (hdct:=hdct) (sn:=sn) (sub:=sub) (ab:=ab) (col:=col) (dd:=dd) (k0:=k0) (k1:=k1) (k2:=k2) (k3:=k3) (k5:=k5)
  F.excBase_ValueError (T.hasType F.excBase_ValueError.hasBase) (I.ok.hd hc) (by rw[he];rfl) FU (MB I hg hm ⟨rfl,?_⟩ jv)
 have h2:=ha eI pins s σ H _ I h;rw[he] at h2 ⊢;exact Calls.evalArgs_plain (cv h2 λvs s1 ⟨xs,H1,I1,r,hl,q⟩=>⟨rfl,by rw[<- r.length];exact hl,I1.bk _ _ hC,hN.keeps I1.bk,T.keeps I1.bk,λh' e' hx=>ok pins σ H1 s1 h' e' x C vs I1 hx hn hm q⟩)
def dW (hc:X.calm=true) (ok:rA X rn E) (xc:XCl K X.mg x) (hn:x∈rn) (he:QE X K e te) (hg:autoParam (Gl X x) bv) (jv:(x == ("__debug__" : Str))=false:=by decide) (hK:autoParam (X.K=K) bv) (hs:autoParam (bE [e] X.env=[(false,b4 e X.env)]) bv):QS X K (LX rn X.mg E) (.Raise (some (.Call (.Name x np) [e] [] eI)) none pos) (iz x te):=by
 subst hK;obtain⟨C,hm,xc⟩:=xc;exact PS.imp (zm hc ok hn hm xc (kf he k7 hs) hg jv hs) λD σ H hx=>cL hx λHs ρ tot E' sr h k1 k2 k3 k4 kx=>⟨Hs,ρ,tot,_,sr,h,λv H1 aS m d As g1 r1 f1 q1=>⟨(by decide:1<=bI),kx x H1 (g1.sh.trans g1.wf.sub) q1 hn C hm⟩⟩
section
variable {k:Nat}{x:Str}{ps:List Str}{sp:fw}{p eI:Pos}
def qK (C:R0 X.prog X.w X.K X.mg X.base rn k x ps sp) (hr:gp k X.A) (hx:Passes (oz X.prog X.w X.mg rn) X E) (ha:PA X (e :: es) ta) (hg:Gl X x) (jv:(x == ("__debug__" : Str))=false) (he:bE (e :: es) X.env=(false,b4 e X.env) :: bE es X.env)(i7:(gy pos (bE es X.env)).any (·.1)=false):PE X (.Call (.Name x p) (e :: es) [] pos) (Rh (iC X.K rn X.mg sp) [] E ta):=by
 obtain⟨g,fd,hm,hk,hb,F⟩:=C.ex;exact V1 F hr hg hm hk hb .nil hx ha jv he i7
def iJ{σ:St}{H:Hp}{Qv:VK}{Hs:Hp}{ρ:Env}{tot:List ag}{Y:Str->Prop}{Q:Md->D->Prop}(sr:dz K Hs ρ σ H tot)(h:t ρ λps=>sp (ps.map (·.2)) λm d=>qA m d Y (b6 (m,d) (f:=λp=>Q (y1 p.1 p.2) p.2) ⟨⟩)) (f:∀ v H' aw m d As,fv Hs H aw H'->RM K aw H' m d v As->bQ aw H As->Q m d->Qv v H') (fx:∀ n H',bq Hs H'->Y n->LX rn X.mg E n H'):Rh (iC K rn X.mg sp) [] E (WW K t) σ H Qv:=by
 refine⟨Hs,ρ,tot,_,sr,h,λvs H1 aS ps As g1 r1 f1 q1=>?_⟩;refine⟨_,_,by rw[kE];exact r1.reps g1.wf,q1,λv H' aw m d As s w r nd own q=>?_,λn H' s q=>fx n H' (g1.sh.trans (g1.wf.sub.trans s)) q⟩;obtain⟨g7,r',fr⟩:=lE g1.wf s w r nd own;exact Fin.after f g1 v H' _ (y1 m d) d g7 (dw g1.wf s w) r' fr (wW r q)
def yM(sp:fw)(t:WA):WE:=λρ Q=>t ρ λps=>sp (ps.map (·.2)) λm d=>qA m d (λ_=>False) (b6 (m,d) (f:=λp=>Q (y1 p.1 p.2) p.2) ⟨⟩)
def sY(sp:fw)(t:WA):WS:=λE ρ=>t ρ λps=>sp (ps.map (·.2)) λm d=>qA m d (λn=>E.rt (.ow false) (.str n)) (b6 (m,d) (f:=λ_=>E.nx ρ) ⟨⟩)
variable (C:R0 X.prog X.w X.K X.mg X.base rn k x ps sp)(hr:gp k X.A)
include C hr
def Jm (ha:QA X K (e :: es) t) (hK:autoParam (X.K=K) bv) (hg:autoParam (Gl X x) bv) (jv:(x == ("__debug__" : Str))=false:=by decide) (he:autoParam (bE (e :: es) X.env=(false,b4 e X.env) :: bE es X.env) bv) (i7:autoParam ((gy pos (bE es X.env)).any (·.1)=false) bv):QE X K (.Call (.Name x p) (e :: es) [] pos) (yM sp t):=by
 subst hK;exact PE.imp (qK C hr JM ha hg jv he i7) λσ H Qv h=>ic h λHs ρ tot Q sr h f=>iJ sr h f λn H' _ z=>z.elim
variable (hx:Passes (oz X.prog X.w X.mg rn) X E)
include hx
def uG (ha:QA X K (e :: es) t) (hs:autoParam (nI (.Call (.Name x p) (e :: es) [] eI) none pos.line X.env=pure false) bv) (hK:autoParam (X.K=K) bv) (hg:autoParam (Gl X x) bv) (jv:(x == ("__debug__" : Str))=false:=by decide) (he:autoParam (bE (e :: es) X.env=(false,b4 e X.env) :: bE es X.env) bv) (i7:autoParam ((gy eI (bE es X.env)).any (·.1)=false) bv):QS X K (LX rn X.mg E) (.Expr (.Call (.Name x p) (e :: es) [] eI) pos) (sY sp t):=by
 subst hK;exact PS.imp (IG (qK C hr hx ha hg jv he i7) hs) λD σ H hx=>cL hx λHs ρ tot E' sr h k1 k2 k3 k4 kx=>iJ (Q:=λ_ _=>E'.nx ρ) sr h (λv H1 aS m d As g1 r1 f1 q1=>k1 σ H1 aS ρ tot g1.sh (sr.grow g1) q1) kx
end
def OW(j:Nat)(a:ag)(b:Bool):WE:=λρ Q=>ρ[j]? = some (some (.xc a))/\Q .sh (.bl b)
def GX (hm:X.mg "isinstance" = none) (hp:(a,oe)∈X.pn) (sP:oe.cls=.ref C) (xc:oT X.K C) (hk:kitOne X.K (.ref C) c=some b) (he:PE X e (i5 j)) (ht:PE X e2 (tC vc)) (hvc:∀ u,RelV vc u->u=c)(hg:Gl X "isinstance" := by rfl) (hs:autoParam (bE (e :: [e2]) X.env=(false,b4 e X.env) :: bE [e2] X.env) bv) (nS:autoParam (bE (e2 :: []) X.env=(false,b4 e2 X.env) :: bE [] X.env) bv) (i7:autoParam ((gy pos (bE [e2] X.env)).any (·.1)=false) bv) :
  QE X K (.Call (.Name "isinstance" p) [e,e2] [] pos) (OW j a b):=by
 have hc:nv X (.builtin "isinstance") (λxs H Q=>xs=[.ref a,vc]/\Q (.bl b) H):=by intro pins s σ H xs us Q I r h;obtain⟨rfl,q⟩:=h;obtain⟨u,v,rfl,ru,rv⟩:=Vals.two r;obtain rfl:u=Value.ref a:=ru;obtain rfl:=hvc v rv;obtain⟨ho,_⟩:=I.pin (a,oe) (jI _ hp);exact kia_one (tU xc) I.iA ⟨oe,ho,sP⟩ hk (λz=>nomatch z) λtk=>⟨.bl b,H,I.tok tk,rfl,q⟩
 refine PE.imp (Rj hc hg hm dI (kf he (kf ht k7 nS) hs) (by decide) (by decide) hs i7) λσ H Qv hx=>ic hx λHs ρ tot Q sr h f=>?_;obtain⟨ea,q⟩:=h;obtain⟨v,e1,r⟩:=sr.sr.get ea;subst r;exact⟨_,e1,rfl,Fin.sh f sr.wf (.bl _) q⟩
end
abbrev iZ(X:Cx)(pn:List (ag × Obj))(xe:ah->aC->Prop):Cx:={ X with pn:=pn,xe:=xe }
abbrev FX(X:Cx)(pn:List (ag × Obj))(a:ag):Cx:={ X with A:=X.A.mark (some (.ref a)),calm:=false,pn:=pn,xe:=λ_ _=>False }
abbrev Fi(X:Cx)(H:Hp)(s:aC)(p:ag × Obj):Prop:=s.heap.get? p.1=some p.2/\H p.1=none/\p.1≠X.env.locals/\p.1∉X.fs/\∀ v,p.2.data≠.cell v
section
variable {X:Cx}{pins rj pn:List (ag × Obj)}{σ:St}{H:Hp}{s:aC}{xe:ah->aC->Prop}{a:ag}
def Inv.iZ(I:Inv X pins σ H s)(h:∀ p∈pn++rj,Fi X H s p):Inv (iZ X pn xe) rj σ H s :=
 ⟨⟨I.ok.mod,I.ok.kind,I.ok.glob,I.ok.blt,I.ok.above,I.ok.inj,I.ok.has,I.ok.B4,I.ok.hd,I.ok.frames,I.ok.DZ,I.ok.D1,I.ok.bs,I.ok.xa,I.ok.B5,I.ok.B6,I.ok.sL,I.ok.zD⟩,I.os,I.bare,I.base,I.loc,I.cell,I.free,I.sM,h,I.aI,I.len⟩
def Inv.mU(I:Inv (L2.Q.iZ X pn xe) rj σ H s)(h:∀ p∈X.pn++pins,p∈pn++rj):Inv X pins σ H s :=
 ⟨⟨I.ok.mod,I.ok.kind,I.ok.glob,I.ok.blt,I.ok.above,I.ok.inj,I.ok.has,I.ok.B4,I.ok.hd,I.ok.frames,I.ok.DZ,I.ok.D1,I.ok.bs,I.ok.xa,I.ok.B5,I.ok.B6,I.ok.sL,I.ok.zD⟩,I.os,I.bare,I.base,I.loc,I.cell,I.free,I.sM,λp hp=>I.pin p (h p hp),I.aI,I.len⟩
def Inv.FX(I:Inv (L2.Q.iZ X pn xe) rj σ H s)(h:∀ p∈pn2++km',Fi X H s p):Inv (L2.Q.FX X pn2 a) km' σ H s :=
 ⟨⟨I.ok.mod,I.ok.kind,I.ok.glob,I.ok.blt,I.ok.above,I.ok.inj,I.ok.has,I.ok.B4,(λz=>nomatch z),I.ok.frames,I.ok.DZ,I.ok.D1,I.ok.bs,I.ok.xa,I.ok.B5,I.ok.B6,I.ok.sL,I.ok.zD⟩,I.os,I.bare,I.base,I.loc,I.cell,I.free,I.sM,h,I.aI,I.len⟩
def Inv.Kc(I:Inv (L2.Q.iZ X pn xe) pins σ H s):Inv (L2.Q.iZ X pn xe2) pins σ H s :=
 ⟨⟨I.ok.mod,I.ok.kind,I.ok.glob,I.ok.blt,I.ok.above,I.ok.inj,I.ok.has,I.ok.B4,I.ok.hd,I.ok.frames,I.ok.DZ,I.ok.D1,I.ok.bs,I.ok.xa,I.ok.B5,I.ok.B6,I.ok.sL,I.ok.zD⟩,I.os,I.bare,I.base,I.loc,I.cell,I.free,I.sM,I.pin,I.aI,I.len⟩
def Inv.yL(I:Inv (L2.Q.FX X pn a) rj σ H s)(hd:X.calm=true->X.A.handled=none)(h:∀ p∈X.pn++pins,p∈pn++rj):Inv X pins σ H s :=
 ⟨⟨I.ok.mod,I.ok.kind,I.ok.glob,I.ok.blt,I.ok.above,I.ok.inj,I.ok.has,I.ok.B4,hd,I.ok.frames,I.ok.DZ,I.ok.D1,I.ok.bs,I.ok.xa,I.ok.B5,I.ok.B6,I.ok.sL,I.ok.zD⟩,I.os,I.bare,I.base,I.loc,I.cell,I.free,I.sM,λp hp=>I.pin p (h p hp),I.aI,I.len⟩
def SP.mU{D:Ends}(h:SP (L2.Q.iZ X pn xe) rj D f s)(hp:∀ p∈X.pn++pins,p∈pn++rj):SP X pins D f s:=by
 cases f with
 |next=>obtain⟨bX,H',I,q⟩:=h;exact⟨bX,H',Inv.mU I hp,q⟩
 |brk=>obtain⟨bX,H',I,q⟩:=h;exact⟨bX,H',Inv.mU I hp,q⟩
 |cont=>obtain⟨bX,H',I,q⟩:=h;exact⟨bX,H',Inv.mU I hp,q⟩
 |ret u=>obtain⟨v,bX,H',I,r,q⟩:=h;exact⟨v,bX,H',Inv.mU I hp,r,q⟩
def Inv.forget(I:Inv X pins σ H s)(hn:h'.Ns X.env.locals m)(hs:Heap.SameBut X.env.locals s.heap h'):Inv X pins (List.replicate X.N.length none) H { s with heap:=h',toks:=t }:=by
 have ne:∀ b o,X.fT.heap.get? b=some o->b≠X.env.locals:=λb o e=>j3 (pz (fS e) I.ok.above);refine⟨I.ok,I.os,I.bare,⟨λb o e n hb hx=>(hs.2 b (ne b o e)).trans (I.base.keep b o e n hb hx),λb o e n hb hx=>?_,I.base.free,λb o e hx=>?_,I.base.iF,I.base.vv,I.base.w_⟩,⟨m,hn,λi x v e1 e2=>?_⟩,λx c e=>?_,I.free,I.sM,λp hp=>?_,λb o e=>?_,L6⟩
 ·obtain⟨sl,e1⟩:=I.base.slot b o e n hb hx;exact⟨sl,(hs.2 b (ne b o e)).trans e1⟩
 ·obtain⟨o',e1⟩:=I.base.there b o e hx;exact⟨o',(hs.2 b (ne b o e)).trans e1⟩
 ·rw[Vf] at e2;split at e2<;>cases e2
 ·obtain⟨v,z⟩:=I.cell x c e;exact⟨v,z.sameBut hs (I.D2 x c e)⟩
 ·obtain⟨e,n,nl,nf,d⟩:=I.pin p hp;exact⟨(hs.2 p.1 nl).trans e,n,nl,nf,d⟩
 ·refine(I.aI b o e).fN (λc u hc q=>(hs.2 c ?_).trans q) (λ_ q=>q) λ_ _ q=>q;intro z;rcases hc with w|w
  ·rw[<- w,z,I.free] at e;cases e
  ·rw[z,I.free] at w;cases w
end
theorem SR.Zi{K:ax}:∀ σ:St,SR K Hs H (List.replicate σ.length none) σ []
 |[]=>.nil
 |_ :: σ=>.non (SR.Zi σ)
theorem SR.exc{K:ax}:∀ (σ:St) (j:Nat),SR K Hs H ((List.replicate σ.length none).set j (some (.xc a))) (σ.set j (some (.ref a))) []
 |[],_=>.nil
 |_ :: σ,0=>.xc (SR.Zi σ)
 |_ :: σ,j+1=>.non (SR.exc σ j)
def A7.next{P:b9}{B:c9}(c:A7 B fs H' h₀ h)(m:gB fs H' h₀ h h')(aI:hU P w H' h)(th:∀ b o,h₀.get? b=some o->∃ o',h.get? b=some o'):A7 B fs H' h₀ h':=λb o e k nb=>by
 have ho:∃ o',h.get? b=some o':=by
  rcases k with k|k
  ·cases z:H' b with
   |none=>exact absurd z k
   |some u=>exact kR.there (aI b u z)
  ·obtain⟨o0,e0⟩:=Vq.mp k;exact th b o0 e0
 obtain⟨o',e'⟩:=ho;have e2:=m.keep b o' e' k nb;rw[e] at e2;cases e2;exact c b o e' k nb
structure HH(K:ax)(mg:Str->Option ah)(rn:List Str)(R:Str):Prop where
 ex:∃ r,mg R=some (.ref r)/\oT K r/\∀ n C,n∈rn->mg n=some (.ref C)->oT K C/\mroIn K C (.ref r)=some true
end L2.Q
namespace L2.Q
def n8:og "ValueError" = some (.type "ValueError"):=by decide +kernel
end L2.Q
namespace L2.Q.R
section
variable {E:eO}{ρ:Env}{Q:Md->L2.Q.D->Prop}{te:WE}{tar:WA}{j:Nat}{a:ag}{b:Bool}{sp:fw}{n:Str}{d:L2.Q.D}{Y:Str->Prop}{N:Prop}
def K_:iz n te E ρ=te ρ λ_ _=>E.rt (.ow false) (.str n):=rfl
def KQ:yM sp tar ρ Q=tar ρ λps=>sp (ps.map (·.2)) λm d=>qA m d (λ_=>False) (b6 (m,d) (f:=λp=>Q (y1 p.1 p.2) p.2) ⟨⟩):=rfl
def Ln:sY sp tar E ρ=tar ρ λps=>sp (ps.map (·.2)) λm d=>qA m d (λn=>E.rt (.ow false) (.str n)) (b6 (m,d) (f:=λ_=>E.nx ρ) ⟨⟩):=rfl
def QK:OW j a b ρ Q=(ρ[j]? = some (some (.xc a))/\Q .sh (.bl b)):=rfl
def Pq:qA (.ow false) (.str n) Y N=Y n:=rfl
def Ni:qA .sh d Y N=N:=rfl
def Ow:qA .bo d Y N=N:=rfl
def NP:qA (.ow true) d Y N=N:=rfl
def Qi:qA (.ow b) (.list xs) Y N=N:=by cases b<;>rfl
def O7:qA (.ow b) (.tup xs) Y N=N:=by cases b<;>rfl
def Pn:qA (.ow b) (.dK xs) Y N=N:=by cases b<;>rfl
def Qn:qA (.ow b) (.dT xs) Y N=N:=by cases b<;>rfl
end
end L2.Q.R
namespace L2.Q
open PySem.W
def uQ{K:Frag}:kitAny K t []=some false:=rfl
def gr{K:Frag}(h:kitOne K t c=some a)(g:kitAny K t r=some b):kitAny K t (c :: r)=some (a || b):=by
 unfold kitAny;rw[h];cases a
 ·exact g
 ·rfl
section
variable {X:Cx}{K:ax}{e:Expr}{es:List Expr}{pos:Pos}
def UD(vs:List V):TA:=λ_ H Q=>Q vs H
def Cu:PA X [] (UD []):=k7
def nO(h:PE X e (tC v))(r:PA X es (UD vs))(hs:autoParam (bE (e :: es) X.env=(false,b4 e X.env) :: bE es X.env) bv):PA X (e :: es) (UD (v :: vs)):=kf h r hs
def Ff{cs:List ag}{us:List ah}(h:Vals (cs.map V.ref) us):us=cs.map Value.ref:=by
 induction cs generalizing us with
 |nil=>exact Paired.n0 h
 |cons c cs ih =>obtain⟨u,us,rfl,r,t⟩:=Paired.c h;rw[show u=Value.ref c from r,ih t];rfl
def Hm {j:Nat} {a C:ag} {oe:Obj} {cs:List ag} {b:Bool} {x1} {p p2:Pos} (hm:X.mg "isinstance" = none) (hp:(a,oe)∈X.pn) (sP:oe.cls=.ref C) (xc:oT X.K C) (hk:kitAny X.K (.ref C) (cs.map Value.ref)=some b) (hz:cs.length<=100) (he:PE X e (i5 j)) (ht:PA X es (UD (cs.map V.ref)))(hg:Gl X "isinstance" := by rfl) (hs:autoParam (bE (e :: [.Tuple es x1 p2]) X.env=(false,b4 e X.env) :: bE [.Tuple es x1 p2] X.env) bv) (nS:autoParam (bE (.Tuple es x1 p2 :: []) X.env=(false,b4 (.Tuple es x1 p2) X.env) :: bE [] X.env) bv) (i7:autoParam ((gy pos (bE [.Tuple es x1 p2] X.env)).any (·.1)=false) bv) :
  QE X K (.Call (.Name "isinstance" p) [e,.Tuple es x1 p2] [] pos) (OW j a b):=by
 have hc:nv X (.builtin "isinstance") (λxs H Q=>∃ t,xs=[.ref a,.ref t]/\H t=some (.tup (cs.map V.ref))/\Q (.bl b) H):=by intro pins s σ H xs us Q I r h;obtain⟨t,rfl,et,q⟩:=h;obtain⟨u,v,rfl,ru,rv⟩:=Vals.two r;obtain rfl:u=Value.ref a:=ru;obtain rfl:v=Value.ref t:=rv;obtain⟨ho,_⟩:=I.pin (a,oe) (jI _ hp);obtain⟨its,ri,o,e1,e2,n,e3⟩:=I.tup et;obtain⟨c',d',dt,sl⟩:=o;cases e2;cases e3;rw[Ff ri] at e1;exact kia_tup (tU xc) I.iA ⟨oe,ho,sP⟩ e1 hk (λz=>nomatch z) λtk=>⟨.bl b,H,I.tok tk,rfl,q⟩
 refine PE.imp (Rj hc hg hm dI (kf he (kf (TH ht) k7 nS) hs) (by decide) (by decide) hs i7) λσ H Qv hx=>ic hx λHs ρ tot Q sr h f=>?_;obtain⟨ea,q⟩:=h;obtain⟨v,e1,r⟩:=sr.sr.get ea;subst r;refine⟨_,e1,by rw[dr];exact iO hz (by decide),λt hT=>⟨t,rfl,eM,?_⟩⟩;have g:=N9 (vs:=cs.map V.ref) sr.wf hT;exact Fin.sh (Fin.after f g) g.wf (.bl _) q
end
def SR.C_{K:ax}{Hs H:Hp}{ρ:Env}{σ:St}{tot:List ag}{j:Nat}{o:Option V}(s:SR K Hs H (ρ.set j none) σ tot):SR K Hs H (ρ.set j none) (σ.set j o) tot:=by
 generalize e:ρ.set j none=bt at s
 induction s generalizing ρ j with
 |nil=>exact .nil
 |non s ih =>
  cases ρ with
  |nil=>cases e
  |cons x ρ =>
   cases j with
   |zero=>exact .non s
   |succ j=>exact .non (ih (List.cons.inj e).2)
 |sh r s ih =>
  cases ρ with
  |nil=>cases e
  |cons x ρ =>
   cases j with
   |zero=>cases e
   |succ j=>exact .sh r (ih (List.cons.inj e).2)
 |xc s ih =>
  cases ρ with
  |nil=>cases e
  |cons x ρ =>
   cases j with
   |zero=>cases e
   |succ j=>exact .xc (ih (List.cons.inj e).2)
 |ow ne r s ih =>
  cases ρ with
  |nil=>cases e
  |cons x ρ =>
   cases j with
   |zero=>cases e
   |succ j=>exact .ow ne r (ih (List.cons.inj e).2)
 |lk ne r s ih =>
  cases ρ with
  |nil=>cases e
  |cons x ρ =>
   cases j with
   |zero=>cases e
   |succ j=>exact .lk ne r (ih (List.cons.inj e).2)
 |ob r s ih =>
  cases ρ with
  |nil=>cases e
  |cons x ρ =>
   cases j with
   |zero=>cases e
   |succ j=>exact .ob r (ih (List.cons.inj e).2)
def D_{α:Type}{l:List α}(h:l.Nodup){i j:Nat}{x:α}(a:l[i]? = some x)(b:l[j]? = some x):i=j:=by
 obtain⟨hi,ei⟩:=nh.mp a;obtain⟨hj,ej⟩:=nh.mp b;rcases Nat.lt_trichotomy i j with q|q|q
 ·exact absurd (ei.trans ej.symm) (LZ.mp h i j hi hj q)
 ·exact q
 ·exact absurd (ej.trans ei.symm) (LZ.mp h j i hj hi q)
section
variable {X:Cx}{pins:List (ag × Obj)}{σ:St}{H:Hp}{s:aC}
def Inv.drop(I:Inv X pins σ H s)(hN:X.N.Nodup)(hj:X.N[j]? = some en)(lk:∀ (i:Nat) (x:Str) (v:V),X.N[i]? = some x->σ[i]? = some (some v)->Q6 X.env.scope x->∃ u,RelV v u/\Look X.env s.heap m x u)(hn:h'.Ns X.env.locals λx=>if x=en then v else m x) (hs:Heap.SameBut X.env.locals s.heap h'):Inv X pins (σ.set j none) H { s with heap:=h',toks:=t }:=by
 have F:=Inv.forget (t:=t) I hn hs;refine⟨F.ok,F.os,F.bare,F.base,⟨_,hn,λi x v' e1 e2 vs=>?_⟩,F.cell,F.free,F.sM,F.pin,F.aI,by rw[List.length_set];exact I.len⟩;have mG:j≠i:=λz=>by
  subst z;rw[List.getElem?_set] at e2;split at e2
  ·split at e2<;>cases e2
  ·rename_i z;exact z rfl
 rw[SF mG] at e2;obtain⟨u,r,l⟩:=lk i x v' e1 e2 vs;refine⟨u,r,?_⟩;rcases l with⟨a,b⟩|⟨a,c,b,d⟩
 ·refine .inl ⟨a,?_⟩;show(if x=en then v else m x)=some u;rw[if_neg λz=>mG ?_]
  ·exact b
  ·subst z;exact D_ hN hj e1
 ·exact .inr ⟨a,c,b,d.sameBut hs (I.D2 x c b)⟩
end
def Fx(j:Nat)(body:WS)(ρh:ag->Env)(hd:ag->Str->WS):WS:=λE ρ =>
 body { E with rt:=λm d=>qA m d (λn=>∀ a,hd a n { nx:=λbt=>E.nx (bt.set j none),rt:=E.rt } (ρh a)) (E.rt m d) } ρ
def F_{X:Cx}{K:ax}{R:Str}(xr:HH X.K X.mg rn R) (hN:X.N.Nodup) (hj:X.N[j]? = some en) (hl:X.env.scope.names.lookup en=some .local) (rq:X.stack=X.env :: X.outer) (hf:X.env.frame=some X.env.locals)(hρ:∀ a,ρh a=(List.replicate X.N.length none).set j (some (.xc a)))(hb:∀ pn xe E1,Passes (oz X.prog X.w X.mg rn) (iZ X pn xe) E1->qo (iZ X pn xe) K (LX rn X.mg E1) body wb)(hh:∀ pn a oe n C,n∈rn->X.mg n=some (.ref C)->oT X.K C->(a,oe)∈pn->oe.cls=.ref C->qo (FX X pn a) K L (ko' :: suite) (hd a n)) (hg:autoParam (Gl X R) bv) (jv:(R == ("__debug__" : Str))=false:=by decide) :
  QS X K L (.Try body [.ExceptHandler (some (.Name R np)) (some en) (ko' :: suite) pz'] [] [] pos) (Fx j wb ρh hd):=by
 intro pins s σ H D I hx;obtain⟨Hs,ρ,tot,E,sr,h,k1,k2,k3,k4,kx⟩:=hx;obtain⟨r,hm,xr,sub⟩:=xr.ex;have sp0:∀ p∈X.pn++pins,p∈(X.pn++pins)++[]:=λp hp=>by rw[kE];exact hp
 have vx:=hb (X.pn++pins) (λe s'=>∃ rj bX H1 s1,Inv (iZ X (X.pn++pins) X.xe) rj bX H1 s1/\oz X.prog X.w X.mg rn X.stack H1 s1 (λc _ H'=>∃ n C,c=.ref C/\n∈rn/\X.mg n=some (.ref C)/\bq Hs H'/\∀ a,hd a n { nx:=λbt=>E.nx (bt.set j none),rt:=E.rt } (ρh a)) e s') _ (λrj bX H1 s1 e s' I1 c=>⟨rj,bX,H1,s1,Inv.Kc I1,c⟩) [] s σ H D (Inv.iZ I λp hp=>I.pin p (by rw[kE] at hp;exact hp)) ⟨Hs,ρ,tot,_,sr,h,k1,k2,k3,λv H' aw m d As s2 w2 r2 nd own q=>k4 v H' aw m d As s2 w2 r2 nd own (wW r2 q),λn H' s2 q hn C hC=>⟨n,C,rfl,hn,hC,s2,q⟩⟩
 refine wpAny_Try_except (sq vx (λf s1 hs=>?_) λe s' hx=>?_)
 ·have hs:=SP.mU hs sp0
  cases f with
  |next =>obtain⟨bX,H',I',q⟩:=hs;exact VH pins s1 bX H' D I' q
  |brk=>exact hs
  |cont=>exact hs
  |ret u=>exact hs
 ·obtain⟨rj,bX,H1,s1,I1,a,n',C,a0,H',B,rfl,E9,os,bare,un,aI,FV,cov,fr,n,C2,eC,hn,FI,sm,hq⟩:=hx;cases eC;obtain⟨xc,kq'⟩:=sub n C hn FI;obtain⟨Zj,g',d',t',V0⟩:=s';obtain rfl:V0=s1.os:=os;have kr':Heap.FlyingW B (X.env :: X.outer) a (.ref C) a0 Zj:=rq ▸ FV;have th:∀ b o,s1.heap.get? b=some o->∃ o',Zj.get? b=some o':=λb o e=>un.there b o e (by simp);refine wpAny_looks_onW (rq ▸ I.ok.frames) hf kr' λh4 held up4=>wpAny_landsW held λh5 UE up5=>?_;have Zk:gB (gE X.stack) H' s1.heap Zj h5:=gB.of cov UE.1 (up4.trans up5) FV.2.2.1;have cy':=cov.next Zk aI th;have Zm:=Zk.un un;have Zn:=Zk.aI fr aI;have I5:Inv (iZ X (X.pn++pins) X.xe) rj bX H' ⟨h5,g',d',t',s1.os⟩:=I1.call Zm Zn bare (λb z=>absurd z (by simp));refine wpAny_handleBy_cons (codeAny_handlers_test ?_) (by intro q;cases q);refine MB (Inv.FX I5 λp hp=>I5.pin p hp) hg hm ?_ jv;refine qC xc xr kq' I5.iA UE.there (codeAny_handlers_suite_as ?_);refine lands_againW UE λh6 UG up6=>?_;have ff5:h5.FunFrames B X.stack:=rq ▸ UE.2.2.1;have Zo:gB (gE X.stack) H' s1.heap h5 h6:=gB.of cy' UG.1 up6 ff5;have un6:=Zo.un Zm;have ky':=Zo.aI fr Zn;have I6:Inv (iZ X (X.pn++pins) X.xe) rj bX H' ⟨h6,g',d',t',s1.os⟩:=I1.call un6 ky' bare (λb z=>absurd z (by simp));obtain⟨oe,vs,he,sP,hdt,_⟩:=UG.first;have nf:a∉gE X.stack:=λz=>by have ff6:h6.FunFrames B X.stack:=rq ▸ UG.2.2.1;obtain⟨_,o,e1,d1⟩:=ff6.mem z;rw[he] at e1;cases e1;exact d1 vs hdt
  have na:H' a=none:=by
   cases z:H' a with
   |none=>rfl
   |some u =>have:=(cy'.next Zo Zn λb o e=>Zm.there b o e (by simp)) a oe he (.inl (by rw[z];exact λz=>nomatch z)) nf;rw[UG.2.1] at this;cases this
  have frm:∀ b,b∈gE X.stack↔b=X.env.locals\/b∈X.fs:=λb=>by rw[rq];unfold gE;rw[DJ,hf];exact eJ
  have pa:Fi X H' ⟨h6,g',d',t',s1.os⟩ (a,oe):=⟨he,na,λz=>nf ((frm a).mpr (.inl z)),λz=>nf ((frm a).mpr (.inr z)),λv z=>by rw[hdt] at z;cases z⟩
  have I6h:Inv (FX X ((a,oe) :: (X.pn++pins)) a) [] bX H' ⟨h6,g',d',t',s1.os⟩:=Inv.FX I6 λp hp=>by
   rw[kE] at hp;rcases eJ.mp hp with z|z
   ·rw[z];exact pa
   ·exact I6.pin p (jI _ z)
  refine VC (X:=FX X ((a,oe) :: (X.pn++pins)) a) (v:=.ref a) I6h hN hj (.inl hl) rfl (λs7 I7 _=>?_) (.inr hl);refine sq (hh ((a,oe) :: (X.pn++pins)) a oe n C hn FI xc fo sP [] s7 (bX.set j (some (.ref a))) H' { nx:=λLD H8=>∃ OX R3 UH,bq H' OX/\dz K OX R3 LD H8 UH/\E.nx (R3.set j none),rt:=D.rt } I7 ⟨H',ρh a,[],_,⟨by rw[hρ a,<- (I1.len)];exact SR.exc bX j,⟨bq.refl _,λ_ _ e=>e⟩,mz,λa h=>nomatch h⟩,hq a,λLD H8 OX R3 UH m8 r8 q8=>⟨OX,R3,UH,m8,r8,q8⟩,λ_ _ _ _ _ _ _ z=>z,λ_ _ _ _ _ _ _ z=>z,
    λv H2 aE m d As s2=>k4 v H2 aE m d As (sm.trans s2),λn H2 s2=>kx n H2 (sm.trans s2)⟩) (λf s8 hs=>?_) λ_ _ z=>z.elim
  cases f with
  |next =>
   obtain⟨LD,H8,I8,OX,R3,UH,m8,r8,q8⟩:=hs;have I9:Inv X pins LD H8 s8:=Inv.yL I8 I.ok.hd λp hp=>by rw[kE];exact eA _ hp
   obtain⟨m,Zq,lk⟩:=id I9.loc;obtain⟨kB',cA',r9⟩:=SR.Dl j r8.sr;exact wpAny_nameGoes_keeps hl Zq (by rw[I9.ok.kind];rfl) λh9 v Zr sb=>⟨LD.set j none,H8,Inv.drop I9 hN hj lk Zr sb,k1 _ H8 OX _ kB' (sm.trans m8) ⟨r9.C_,r8.wf,cA'.nodup r8.ox,λb hb=>r8.own b (cA'.subset hb)⟩ q8⟩
  |brk=>obtain⟨_,_,_,z⟩:=hs;exact z.elim
  |cont=>obtain⟨_,_,_,z⟩:=hs;exact z.elim
  |ret u =>
   obtain⟨v,LD,H8,I8,rv,q⟩:=hs;have I9:Inv X pins LD H8 s8:=Inv.yL I8 I.ok.hd λp hp=>by rw[kE];exact eA _ hp
   obtain⟨m,Zq,_⟩:=id I9.loc;exact wpAny_nameGoes hl Zq (by rw[I9.ok.kind];rfl) λh9 m9 Zr sb=>⟨v,_,H8,Inv.forget I9 Zr sb,rv,q⟩
end L2.Q
namespace L2.Q.R
def Oh:Fx j t ρh hd E ρ=t { E with rt:=λm d=>qA m d (λn=>∀ a,hd a n { nx:=λbt=>E.nx (bt.set j none),rt:=E.rt } (ρh a)) (E.rt m d) } ρ:=rfl
end L2.Q.R
namespace L2
open Builtin Builtin.Str Builtin.Int
end L2
namespace L2.Q
section
variable {X:Cx}{K:ax}{a b:Expr}{tb:WE}{pos:Pos}
def y6(ys:List D)(x:D):Bool:=ys.any λz=>k9 z x
def UI(neg:Bool):W2:=λ_ x _ y Q=>∃ ys,(y=.list ys\/y=.tup ys)/\eB 12 x=true/\eB 12 y=true/\Q .sh (.bl (if neg then !y6 ys x else y6 ys x))
def Zt(K:ax)(neg:Bool):R2:=λx y H Q=>∃ d e xs,L2.Rep K H d x/\L2.Rep K H e y/\(e=.list xs\/e=.tuple xs)/\d.canLay0=true/\PyData.canLayAll0 xs=true/\d.depth<=60/\Q (.bl (if neg then !(xs.any λz=>PyData.eqv z d) else xs.any λz=>PyData.eqv z d)) H
def Jx(hu:X.A.units+64<gV):dS X (fR .In) (Zt X.K false):=by
 intro pins s σ H x y v u Q I rx ry h;obtain⟨d,e,xs,h1,h2,h3,h4,h5,h6,q⟩:=h;obtain⟨as,r1⟩:=h1.reads I rx;obtain⟨bs,r2⟩:=h2.reads I ry;rcases h3 with rfl|rfl
 ·exact PySem.SeqAt.in_list_reads r2 r1 h5 h4 (by lia) ⟨.bl _,H,I,rfl,q⟩
 ·exact PySem.SeqAt.in_tuple_reads r2 r1 h5 h4 (by lia) ⟨.bl _,H,I,rfl,q⟩
def kC'(hK:autoParam (X.K=K) bv)(hu:X.A.units+64<gV:=by assumption):dS X (fR .In) (Zt K false):=by subst hK;exact Jx hu
def Fq(ys:List D)(x:D):((rV ys).any λz=>PyData.eqv z x.py)=y6 ys x:=by
 induction ys with
 |nil=>rfl
 |cons y ys ih =>rw[rV,DS,ih];rfl
def Ha:lh K (Zt K neg) (UI neg):=by
 intro Hs H m x v As n y u Bs Qd Qv w rx ry h f;obtain⟨ys,hy,o1,o2,q⟩:=h;have l1:=jk 12 x o1;have l2:=jk 12 y o2;refine⟨x.py,y.py,rV ys,(rx.rep w).l2 o1,(ry.rep w).l2 o2,?_,l1.1,?_,by lia,?_⟩
 ·rcases hy with rfl|rfl
  ·exact .inl rfl
  ·exact .inr rfl
 ·rcases hy with rfl|rfl
  ·exact l2.1
  ·exact l2.1
 ·rw[Fq];exact f.sh w (.bl _) q
def UJ(o:Option (Option Sl))(k:List D->Prop):Prop:=match o with
 |some (some (.ow true (.list xs)))=>k xs
 |_=>False
def intD(y:D)(k:Int->Prop):Prop:=match y with
 |.int i=>k i
 |_=>False
def R4(d:D):Md:=bif d.flat then .sh else .ow true
def uE(i:Nat)(tb:WE):WS:=λE ρ=>UJ ρ[i]? λxs=>tb ρ λ_ y=>intD y λk=>∃ d,L2.fP xs k=some d/\E.rt (R4 d) d
def Ad(he:PE X a (i5 i))(hb:QE X K b tb)(hs:TR b:=by exact λ_ _=>rfl)(hK:autoParam (X.K=K) bv):QS X K L (.Return (some (.Subscript a b pos)) pos') (uE i tb) :=
 PS.imp (MG (V8 (kIx hK) he hb hs)) λD σ H hx=>cV hx λHs ρ tot E sr h k1 k2 k3 k4=>by
 unfold uE UJ at h;split at h
 ·rename_i xs e1;obtain⟨v,As,e2,ne,r,sb⟩:=sr.sr.at e1
  cases r with
  |sh _ _=>exact absurd rfl ne
  |@list a vs _ As z e rs =>
   refine⟨_,e2,Hs,ρ,tot,_,sr,h,λu H1 aS m y Bs g1 r1 f1 q1=>?_⟩;have ry:=r1.rep g1.wf
   cases ry with
   |int k =>
    obtain⟨d,e3,q⟩:=q1;obtain⟨j,ej,ed⟩:=HR e3;have nd:As.Nodup:=(sv.mp (sb.nodup sr.ox)).2;obtain⟨w,B,ew,qa,sB,_⟩:=rs.at ed nd;have sub:∀ c∈B,c∈tot:=λc hc=>sb.subset (eA _ (sB.subset hc));have r2:=qa.grow g1.sh g1.all;refine .inl ⟨vs,w,.inl (.inl (g1.all _ _ e)),Hf (by rw[<- rs.length];exact ej) ew,?_⟩;have kX:=sr.grow g1
    cases hf:d.flat with
    |true =>rw[R4,hf] at q;exact k4 w H1 aS .sh d [] g1.sh g1.wf ⟨rfl,(r2.rep g1.wf.sub λ_ _=>rfl).d9 g1.wf.iF hf⟩ mz (λc hc=>CC hc) q
    |false =>rw[R4,hf] at q;exact k4 w H1 aS (.ow true) d B g1.sh g1.wf ⟨r2,r2.ne hf⟩ (sB.nodup nd) (λc hc=>kX.own c (sub c hc)) q
   |_=>exact q1.elim
 ·exact h.elim
end
end L2.Q
namespace L2.Q.R
section
variable {ρ:Env}{te:WE}{m m':Md}{x:L2.Q.D}{ys:List L2.Q.D}{Q:Md->L2.Q.D->Prop}
def Li:uE i te E ρ=b6 ρ[i]? (f:=λo=>UJ o λxs=>te ρ λ_ y=>b6 y (f:=λy=>intD y λk=>∃ d,fP xs k=some d/\b6 d (f:=λd=>E.rt (R4 d) d) ⟨⟩) ⟨⟩) ⟨⟩:=rfl
def Om:UJ (some (some (.ow true (.list ys)))) k=k ys:=rfl
def Mz:intD (.int i) k=k i:=rfl
def Nu:UI neg m x m' (.list ys) Q=(eB 12 x=true/\eB 12 (.list ys)=true/\Q .sh (.bl (if neg then !y6 ys x else y6 ys x))):=by apply propext;exact⟨λ⟨zs,h,a,b,c⟩=>by rcases h with h|h<;>cases h;exact⟨a,b,c⟩,λ⟨a,b,c⟩=>⟨ys,.inl rfl,a,b,c⟩⟩
def Ny:UI neg m x m' (.tup ys) Q=(eB 12 x=true/\eB 12 (.tup ys)=true/\Q .sh (.bl (if neg then !y6 ys x else y6 ys x))):=by apply propext;exact⟨λ⟨zs,h,a,b,c⟩=>by rcases h with h|h<;>cases h;exact⟨a,b,c⟩,λ⟨a,b,c⟩=>⟨ys,.inr rfl,a,b,c⟩⟩
end
end L2.Q.R
namespace L2
end L2
namespace L2.Q
section
variable {K:ax}{a:Expr}
def onD(x:D)(f:List (Key × D)->Prop)(g:List (List Key × D)->Prop):Prop:=match x with
 |.dK ae=>f ae
 |.dT ae=>g ae
 |_=>False
def kD'(y:D)(k:List D->Prop):Prop:=match y with
 |.tup ys=>k ys
 |_=>False
def cC'(o:Option D)(m n:Md)(z:D)(Q:Md->D->Prop):Prop:=match o with
 |some d=>Q (tj m d) d
 |none=>Q n z
def kE'(o:Option (Option Sl))(k:List (List Key × D)->Prop):Prop:=match o with
 |some (some (.ow true (.dT ae)))=>k ae
 |_=>False
def dz.place(sr:dz K Hs ρ σ H tot)(e:ρ[i]? = some (some (.ow fl d))):∃ v,σ[i]? = some (some v)/\Place K Hs H σ fl d v λdQ d2=>ρ.set i (some (.ow dQ d2)):=by obtain⟨v,As,t,e2,ne,r,sb,g⟩:=SR.put i sr.sr e sr.ox;refine⟨v,e2,As,r,ne,sb.nodup sr.ox,λa h=>sr.own a (sb.subset h),λaE H2 dQ d2 ip s2 w2 n2 _ r2 ne2 oy o2 st=>?_⟩;obtain⟨t2,x,y,z⟩:=g aE H2 dQ d2 ip s2 r2 ne2 oy (λa ha m=>(o2 a ha).2.elim id λq=>absurd q (sr.sr.own a m).ne) λa ha m=>st a (sr.sr.own a ha).ne m;exact⟨t2,z,w2,x,λa h=>(y a h).elim (λq=>n2 a (sr.own a q) (sr.sr.own a q).ne) λq=>(o2 a q).1⟩
end
end L2.Q
namespace L2
end L2
namespace L2.Q
section
def kF'(d:D)(k:List (Key × D)->Prop):Prop:=match d with
 |.dK ae=>k ae
 |_=>False
end
end L2.Q
namespace L2.Q.R
section
variable {ys:List L2.Q.D}{Q:Md->L2.Q.D->Prop}{k:Nat}
def Qj{ae:List (Key × L2.Q.D)}{k:List (Key × L2.Q.D)->Prop}:kF' (.dK ae) k=k ae:=rfl
def Qg:onD (.dK ae) f g=f ae:=rfl
def Qx:onD (.dT ae) f g=g ae:=rfl
def Qf{k:List L2.Q.D->Prop}:kD' (.tup ys) k=k ys:=rfl
def QF{ae:List (List Key × L2.Q.D)}{k:List (List Key × L2.Q.D)->Prop}:kE' (some (some (.ow true (.dT ae)))) k=k ae:=rfl
end
end L2.Q.R
namespace L2
end L2
namespace L2.Q
section
variable {X:Cx}{K:ax}{L:Str->Hp->Prop}{e e2 e3:Expr}{p:WP}{te:WE}{apos eI pos:Pos}
def Bv:og "int" = some (.type "int"):=by decide +kernel
def Zu(p:WP)(te:WE):WS:=λE ρ=>p ρ λfl d up=>match d with
 |.list xs=>te ρ λm y=>m=.ow true/\match y with
  |.list ys=>dv ys=true/\xs.length+ys.length<=bI/\E.nx (up fl (.list (xs++ys)))
  |_=>False
 |_=>False
def Io (ho:QP X K e p) (he:QE X K e2 te) (hK:autoParam (X.K=K) bv) (hs:autoParam (nI (.Call (.Attribute e "extend" apos) [e2] [] eI) none pos.line X.env=pure false) bv) (qc:autoParam (vj e "extend" X.env (b4 e X.env)=b4 e X.env) bv) (vF:autoParam (((gy eI (bE [e2] X.env)).all (λx=>!x.1) && (zk eI (zi [] X.env)).all (λx=>x.1.isSome)
   && decide ([e2].length+([]:List qV).length+(if ([]:List qV).isEmpty then 0 else 1)<30))=true) bv)
  (hline:autoParam ((apos.endLine == eI.line)=true) bv) (oS:autoParam (bE (e2 :: []) X.env=(false,b4 e2 X.env) :: bE [] X.env) bv) (vS:autoParam ((gy eI (bE [] X.env)).any (·.1)=false) bv) :
  QS X K L (.Expr (.Call (.Attribute e "extend" apos) [e2] [] eI) pos) (Zu p te):=by
 subst hK;refine PS.imp (IG (Jn PySem.F.plainAttrs_list PySem.F.slot_list_extend PySem.F.type_list_extend gI' ho (kf he k7 oS) qc vF hline oS vS) hs) λD σ H hx=>cV hx λHs ρ tot E sr h k1 k2 k3 k4=>?_;refine⟨Hs,ρ,tot,_,sr,h,λv H1 aS fl d up g1 p1 q1=>?_⟩
 cases d with
 |list xs =>
  obtain⟨a1,vs1,e1,s1⟩:=p1.Zc g1.wf;refine⟨by subst e1;exact .inl ⟨rfl,_,s1⟩,aS,ρ,tot,_,sr.grow g1,q1,λy H2 aE m x As g2 r2 f2 q2=>?_⟩;obtain⟨rfl,q2⟩:=q2;obtain⟨a,vs,A,ea,e2,e21,rs,nd,hn,k⟩:=p1.put g2;obtain⟨r,ne⟩:=r2
  cases r with
  |sh _ _=>exact absurd rfl ne
  |list hz e3 UC =>obtain⟨fy,hl,q2⟩:=q2;obtain⟨nA,ndA⟩:=sv.mp nd;have l1:=rs.length;have l2:=UC.length;refine⟨a,_,vs,_,ea,rfl,e2,e3,by lia,?_⟩;obtain⟨eW,gS⟩:=k fl (xs++_) (vs++_) (A++[]) id (rs.append (bP.owned ((UC.reps g2.wf.sub λ_ _=>rfl).d9 g2.wf.iF fy) fy)) (by rw[hJ];lia) (by simpa using ndA) (by simpa using nA) (λx hx=>.inl (by simpa using hx));exact k1 _ _ aE _ eW (g1.sh.trans g2.sh) gS q2
  |_=>exact q2.elim
 |_=>exact q1.elim
end
end L2.Q
namespace L2.Q.R
section
variable {ρ:Env}{E:eO}{te:WE}{m:Md}{Q:Md->L2.Q.D->Prop}{p:WP}{xs ys:List L2.Q.D}{k:List L2.Q.D->Prop}
def R5(d:L2.Q.D)(k:List L2.Q.D->Prop):Prop:=match d with
 |.list xs=>k xs
 |_=>False
def Qz:R5 (.list xs) k=k xs:=rfl
def PX:Zu p te E ρ=p ρ λfl d up=>b6 d (f:=λd=>R5 d λxs=>te ρ λm y=>m=.ow true/\b6 y (f:=λy=>R5 y λys=>dv ys=true/\xs.length+ys.length<=bI/\E.nx (up fl (.list (xs++ys)))) ⟨⟩) ⟨⟩:=rfl
def Ob:cC' (some d) m n z Q=Q (tj m d) d:=rfl
def Mv:cC' none m n z Q=Q n z:=rfl
end
end L2.Q.R
namespace L2
section
variable {X:Cx}{tg:Expr}
def Zv(K:ax)(a:ag)(n:Nat):It :=
 ⟨λi H=>i<n/\∃ xs,eL K H a xs/\xs.length=n,λi H x H'=>H'=H/\∀ xs,eL K H a xs->xs.length=n->xs[n-1-i]? = some x,λi _=>i=n⟩
def Ae{P:b9}{w:cy}{K:ax}{tg:Expr}(a it:ag)(n:Nat):Turn P w K tg (Zv K a n) [it] it (λi h=>h.IsRevIter it a ((n:Int)-1-(i:Int))) where
 mem:=by simp
 obj:=λi h st b hb=>by
  have e:b=it:=by simpa using hb
  subst e;obtain⟨o,e,c,d⟩:=st;exact⟨o,e,λv z=>by rw[d] at z;cases z⟩
 keep:=λi h h' st k=>st.at λo e=>k it (by simp) o e
 item:=by
  intro X hP hw hK hc i pins s σ H E I hf st hg;subst hP hw hK;obtain⟨hi,xs,hq,hl⟩:=hg;obtain⟨its,rv,p,hz⟩:=I.list hq;have hx:xs[n-1-i]? = some (xs[n-1-i]'(by lia)):=vk _;obtain⟨u,hu,ru⟩:=rv.get hx;obtain⟨f0,f1,f2,f3,f4,f5⟩:=hf it (by simp);have e1:(n:Int)-1-(i:Int)=((n-1-i:Nat):Int):=by lia
  rw[e1] at st;refine wpAny_pyNext_rev_item st p.isList (x:=u) (by simpa using hu) λh' ai sb=>?_;have e2:((n-1-i:Nat):Int)-1=(n:Int)-1-((i+1:Nat):Int):=by lia
  rw[e2] at ai;have I1:Inv X pins σ H { s with heap:=h' }:=I.turned (t':=s.toks) (λb o hb e=>(sb.2 b hb).trans e) f0 f1 f3 f4 f5;obtain⟨o,e,c,d⟩:=id ai;exact⟨u,rfl,MR (s:={ s with heap:=h' }) e c d (by decide) ⟨_,H,I1,ru,⟨rfl,λys hy _=>by rw[I.VG hy hq];exact hx⟩,ai,λb hb=>(hf b hb).1⟩⟩
 done:=by
  intro X hP hw hK hc i pins s σ H E I hf st hg;subst hP hw hK;obtain⟨f0,f1,f2,f3,f4,f5⟩:=hf it (by simp);have e1:(n:Int)-1-(i:Int) = -1:=by have:i=n:=hg;lia
  rw[e1] at st;exact wpAny_pyNext_rev_end (I.ok.hd hc) st λh' eb=>⟨rfl,I.turned (t':=s.toks) (λb o hb e=>eb b o hb e) f0 f1 f3 f4 f5⟩
 self:=λ_ _ _ _ _ st h=>wpAny_pyIter_revIter st h
def kH'(K:ax)(ta:TA):TI:=λσ H R=>ta σ H λvs H1=>∃ a xs,vs=[.ref a]/\eL K H1 a xs/\R (Zv K a xs.length) H1
def Hn:og "reversed" = some (.type "reversed"):=by decide +kernel
def Ik {a:Expr} {ta:TA} {p pos:Pos} (hg:Gl X "reversed") (hm:X.mg "reversed" = none) (ha:PA X [a] ta) (hs:autoParam (bE [a] X.env=[(false,b4 a X.env)]) bv) :
  PI X tg (.Call (.Name "reversed" p) [a] [] pos) (kH' X.K ta):=by
 intro pins s σ H R I h;refine Call_ (Fc I hg hm Hn (PyProof.Rows.callWith_type1 (cv (ha pos pins s σ H _ I h) λus s1 ck=>L2.eR ck λvs H1 I1 r1 q1=>?_) hs rfl));obtain⟨l,xs,e,hq,q⟩:=q1;subst e
 cases r1 with
 |cons r rr =>
  cases rr;cases r;obtain⟨its,rv,pl,hz⟩:=I1.list hq;have hl:=rv.length;have e0:((its.toArray.size:Nat):Int)-1=(xs.length:Int)-1-((0:Nat):Int):=by simp;lia
  refine call_reversed_list pl.isList ?_;rw[e0];refine wpAny_pyIter_revIter (s:={ s1 with heap:=s1.heap.push (revObj l ((xs.length:Int)-1-((0:Nat):Int))) }) ⟨_,nL _ rfl,rfl,rfl⟩ ?_;refine⟨s1.heap.objs.size,[s1.heap.objs.size],_,_,H1,rfl,I1.kept (t':=s1.toks) λb o e=>i3 _ e,Ae l _ xs.length,⟨_,nL _ rfl,rfl,rfl⟩,λb hb=>?_,q⟩;have e:b=s1.heap.objs.size:=by simpa using hb
  subst e;exact I1.Fm (cx _) (I1.aI.fresh (cx _))
def DY(K:ax)(a:ag)(xs:List V):d8 (Zv K a xs.length) xs.reverse (λH=>eL K H a xs) where
 go:=λi H h hi=>⟨by simpa using hi,xs,h,rfl⟩
 lS:=λi H x H' h hi y=>by refine⟨y.1,?_⟩;rw[List.getElem?_reverse (by simpa using hi)];exact y.2 xs h rfl
 stop:=λH h=>HZ
end
end L2
namespace L2.Q
end L2.Q
namespace L2.Q.R
end L2.Q.R
namespace L2
open PySem.SeqAt
end L2
namespace L2.Q
open PySem.SeqAt
end L2.Q
namespace L2.Q.R
open PySem.SeqAt
end L2.Q.R
namespace L2
open PySem.SeqAt
section
variable {X:Cx}
def DG(K:ax):R2:=λx y H Q=>∃ l xs n,x=.ref l/\y=.int n/\eL K H l xs/\0<=n/\n<=4000/\xs.length<=1000/\∀ p,H p=none->Q (.ref p) (upd H p (.lst (List.replicate n.toNat xs).flatten))
def Bf{xs:List V}{vs:List ah}(h:Vals xs vs)(k:Nat):Vals (List.replicate k xs).flatten (List.replicate k vs).flatten:=by
 induction k with
 |zero=>exact .nil
 |succ k ih=>rw[BG,BG,BH,BH];exact h.append ih
def t_{α:Type}(xs:List α)(k:Nat):(List.replicate k xs).flatten.length=xs.length*k:=by
 induction k with
 |zero=>rfl
 |succ k ih=>rw[BG,BH,hJ,ih,Nat.mul_succ];lia
def Fj:dS X (oj .Mult) (DG X.K):=by
 intro pins s σ H x y v u Q I rx ry h;obtain⟨l,xs,n,rfl,rfl,hH,h0,h1,h2,q⟩:=h;cases rx;obtain⟨t,rfl⟩:=ry;obtain⟨its,r,pl,z⟩:=I.list hH;have hl:=r.length;obtain⟨⟨cls,dd,data,sl⟩,ho,hc,k,hd⟩:=id pl.isList;simp only at hc hd;subst hc hd;have hm:its.toArray.size*n.toNat<=1000*4000:=P7 (by rw[jS];lia) (by lia);have hZ:=oi;refine wpAny_binaryOp_repeat_ref (T := "list") (U := "int") (by decide) ⟨_,ho,rfl⟩ (λs'=>typeIs_int s' n t) noFill_list_mul PySem.F.fills_int_mul PySem.F.slot_int_rmul repeat_list PySem.F.slot_int_index.lookup (E4 PySem.F.slot_int_rmul (typeIs_int s n t) PySem.F.entry_int_rmul (PySem.F.args_int_rmul_2 _ _) (lm_int_rmul_list_any n t l its.toArray k dd sl) ⟨ho,rfl,⟨_,ho,rfl⟩,E4 PySem.F.slot_list_mul ⟨_,ho,rfl⟩ PySem.F.entry_list_mul (PySem.F.args_list_mul_2 _ _) (lm_list_mul_any l its.toArray k dd sl n t (by simp[Builtin.List.listFitsIndex];lia) (by lia) (by simp only[Builtin.List.listTooLong,decide_eq_true_eq];lia)) ⟨ho,?_⟩⟩)
 rw[listMul_foldl_if];exact⟨.ref _,_,I.Ro (t':=s.toks) (Bf r _) (by
  rw[t_];have:xs.length*n.toNat<=1000*4000:=P7 h2 (by lia);lia),rfl,q _ I.fresh⟩
end
end L2
namespace L2.Q
open PySem.SeqAt
section
variable {X:Cx}{K:ax}{a b:Expr}{ta tb:WE}{pos:Pos}
def zp:W2:=λ_ x _ y Q=>match x with
 |.list xs=>match y with
  |.int n=>(0<=n/\n<=4000/\xs.length<=1000)/\dv xs=true/\Q (.ow true) (.list (List.replicate n.toNat xs).flatten)
  |_=>False
 |_=>False
def Bh{H:Hp}{xs:List D}{vs:List V}(h:bP K H xs vs)(k:Nat):bP K H (List.replicate k xs).flatten (List.replicate k vs).flatten:=by
 induction k with
 |zero=>exact .nil
 |succ k ih=>rw[BG,BG,BH,BH];exact h.append ih
def vR{xs:List D}(h:dv xs=true)(k:Nat):dv (List.replicate k xs).flatten=true:=by
 induction k with
 |zero=>rfl
 |succ k ih=>rw[BG,BH,eE,h,ih];rfl
def DR:lh K (DG K) zp:=by
 intro Hs H m x v As n y u Bs Qd Qv w rx ry h f;have r1:=rx.rep w;have r2:=ry.rep w
 cases r1 with
 |list z s q=>cases r2 with
  |int n =>obtain⟨⟨h0,h1,h2⟩,fl,h⟩:=h;have hl:=q.length;refine⟨_,_,_,rfl,rfl,s,h0,h1,by lia,?_⟩;refine f.lst w ?_ (Bh q _) (vR fl _) h;rw[t_,oi];have:List.length _*n.toNat<=1000*4000:=P7 h2 (by lia);exact iO this (by decide)
  |_=>exact h.elim
 |_=>exact h.elim
def JS(hK:autoParam (X.K=K) bv):dS X (oj .Mult) (DG K):=by subst hK;exact Fj
def JB(ha:QE X K a ta)(hb:QE X K b tb)(hK:autoParam (X.K=K) bv):QE X K (.BinOp a .Mult b pos) (ay zp ta tb):=KW (JS hK) DR ha hb
end
end L2.Q
namespace L2.Q.R
open PySem.SeqAt
section
variable {Q:Md->L2.Q.D->Prop}{m m':Md}{xs:List L2.Q.D}{a:Int}
def Ou:zp m (.list xs) m' (.int a) Q=((0<=a/\a<=4000/\xs.length<=1000)/\dv xs=true/\Q (.ow true) (.list (List.replicate a.toNat xs).flatten)):=rfl
end
end L2.Q.R
namespace L2
def Nb(sc scope:Scope)(N cn:List Str)(ix:List Nat):Bool :=
 scope.kind == .function && scope.names.all (λy=>y.2 != .free || FE (sc.names.lookup y.1)) && scope.names.all (λy=>y.2 != .local || scope.names.lookup y.1 == some .local) &&
 ix.length == cn.length && (List.range ix.length).all (λk=>match ix[k]?,cn[k]? with
  |some j,some y=>N[j]? == some y && FE (sc.names.lookup y) && scope.names.contains (y,NameKind.free) && FE ((NC sc scope.names).lookup y) && !scope.names.contains (y,NameKind.cell)
  |_,_=>false) &&
 (NC sc scope.names).all (λy=>!(y.2 == .cell || y.2 == .free) || scope.names.contains (y.1,NameKind.free) || scope.names.contains (y.1,NameKind.cell))
end L2
namespace L2.Q
section
variable {K:ax}
def v9(m:Md)(d:D):Prop:=d.flat=true\/m=.sh
def fC(g:WG)(tc:WT)(te:WE):List D->Env->(List D->Prop)->Prop
 |[],_,k=>k []
 |x :: xs,ρ,k=>g x ρ λkz=>tc kz λb=>if b=true then te kz λm d=>v9 m d/\fC g tc te xs kz (λout=>k (d :: out)) else fC g tc te xs kz k
def tD(wi:WI)(g:WG)(tc:WT)(te:WE)(tn:Nat)(ix:List Nat):WE:=λρ Q=>wi ρ λds=>fC g tc te ds (uJ tn ix ρ) λout=>Q .bo (.list out)
structure jy(K:ax)(H1:Hp)(b:ag)(acc:List D)(ys:List V)(As:List ag)(Hs:Hp)(ρ:Env)(τ:St)(H:Hp):Prop where
 sm:bq H1 Hs
 sr:dz K Hs ρ τ H []
 eD:H b=some (.lst ys)
 nD:Hs b=none
 ra:aG K Hs H false acc ys As
 nd:(b :: As).Nodup
 own:∀ a∈As,Hs a=none
def jy.grow{H1:Hp}{b:ag}{acc:List D}{ys:List V}{As:List ag}{Hs H aw H':Hp}{ρ:Env}{τ:St}(c:jy K H1 b acc ys As Hs ρ τ H)(g:fv Hs H aw H'):jy K H1 b acc ys As aw ρ τ H' :=
 ⟨c.sm.trans g.sh,c.sr.grow g,g.all _ _ c.eD,g.qf c.nD (by rw[c.eD];exact λz=>nomatch z),c.ra.grow g.sh g.all,c.nd,λa ha=>g.qf (c.own a ha) (c.ra.own a ha).ne⟩
def jy.push{H1:Hp}{b:ag}{acc:List D}{ys:List V}{As Bs:List ag}{Hs H:Hp}{ρ:Env}{τ:St}{m:Md}{d:D}{v:V}(c:jy K H1 b acc ys As Hs ρ τ H)(r:RM K Hs H m d v Bs)(ok:v9 m d)(nb:Bs.Nodup)(fb:∀ a∈Bs,Hs a=none/\a∉b :: As):∃ g7,jy K H1 b (acc++[d]) (ys++[v]) g7 Hs ρ τ (upd H b (.lst (ys++[v]))):=by
 obtain⟨B,sb,rb⟩:∃ B,B.Sublist Bs/\cS K Hs H false d v B:=by
  rcases ok with hf|rfl
  ·exact⟨[],DL _,.sh (λ_=>hf) (r.flat c.sr.wf hf)⟩
  ·exact⟨[],DL _,.sh (λz=>nomatch z) r.2⟩
 obtain⟨na,nA⟩:=sv.mp c.nd;have EH:=λa ha=>fb a (sb.subset ha);refine⟨As++(B++[]),c.sm,⟨c.sr.sr.heap,qw c.sr.wf c.nD (λ_ z=>nomatch z),mz,λa h=>nomatch h⟩,eM,c.nD,(c.ra.fN (H':=upd H b (.lst (ys++[v]))) (bq.refl _) λa ha=>dn λz=>na (by subst z;exact ha)).append (.cons (rb.fN (bq.refl _) λa ha=>dn λz=>(EH a ha).2 (by subst z;exact fo)) .nil),?_,?_⟩
 ·rw[kE];refine sv.mpr ⟨λm=>(eK.mp m).elim na λm=>(EH b m).2 fo,iN.mpr ⟨nA,sb.nodup nb,λx hx y hy e=>(EH y hy).2 (e ▸ eA _ hx)⟩⟩
 ·rw[kE];exact λa ha=>(eK.mp ha).elim (c.own a) λm=>(EH a m).1
def uO{wi:WI}{g:WG}{tc:WT}{te:WE}{tn:Nat}{ix:List Nat}{σ:St}{H:Hp}{Qv:VK}(h:ui K (tD wi g tc te tn ix) σ H Qv):vo (W7 K wi) (W5 K g) (CD K tc) (ui K te) tn ix σ H Qv:=by
 obtain⟨Hs,ρ,tot,Q,sr,h,f⟩:=h;rw[z8];refine⟨Hs,ρ,tot,_,sr,h,λJ H1 aS ds g1 S hz q1 b hb=>?_⟩;have st:jy K H1 b [] [] [] H1 (uJ tn ix ρ) (lM tn ix σ) (upd H1 b (.lst [])):=by
  refine⟨bq.refl _,⟨j6 (iU (G:=H1) (sr.grow g1) _ ix) tn,⟨(bq.refl H1).upd hb,λa xs e=>?_⟩,mz,λa h=>nomatch h⟩,eM,hb,.nil,by simp,λa h=>nomatch h⟩;by_cases ha:a=b
  ·subst ha;rw[eM] at e;cases e
  ·rw[dn ha] at e;exact e
 refine⟨λi m τ H2=>m=ds.length-i/\i<=ds.length/\∃ aE fe acc ys As,jy K H1 b acc ys As aE fe τ H2/\acc.length<=i/\fC g tc te (ds.drop i) fe (λout=>Q .bo (.list (acc++out))), ⟨ds.length,by simp,fI _,H1,_,[],[],[],st,cx _,by simpa using q1⟩,?_⟩
 rintro i m τ H2 ⟨rfl,hi,aE,fe,acc,ys,As,c,la,q2⟩;by_cases iL:i<ds.length
 ·refine .inr ⟨S.go i aE H2 c.sm c.sr.wf iL,
   λy4 v H4=>∃ yA kU d,jy K H1 b acc ys As yA kU y4 H4/\(∃ g7,jy K H1 b (acc++[d]) (ys++[v]) g7 yA kU y4 (upd H4 b (.lst (ys++[v]))))/\fC g tc te (ds.drop (i+1)) kU (λout=>Q .bo (.list (acc++d :: out))),
   λy4 H3=>∃ hV A5,jy K H1 b acc ys As hV A5 y4 H3/\fC g tc te (ds.drop (i+1)) A5 (λout=>Q .bo (.list (acc++out))),?_,?_,?_⟩
  ·rintro y4 v H4 ⟨yA,kU,d,c4,⟨g7,c5⟩,q4⟩;have W9:=c4.ra.length;exact⟨ys,ds.length-(i+1),c4.eD,by lia,by lia,rfl,iL,yA,kU,acc++[d],ys++[v],g7,c5,by rw[hJ];simpa using la,by simpa using q4⟩
  ·rintro y4 H3 ⟨hV,A5,c3,q3⟩;exact⟨ds.length-(i+1),by lia,rfl,iL,hV,A5,acc,ys,As,c3,by lia,q3⟩
  ·intro x H3 y;obtain⟨hV,g3,rd⟩:=S.lS i aE H2 x H3 ds[i] c.sm c.sr.wf (by simp[iL]) y;rw[xD iL] at q2;have c3:=c.grow g3;refine⟨hV,fe,[],ds[i],_,c3.sr,rd,q2,λW_ kU K2 EF m4 q4=>?_⟩;have t4:K2=[]:=Z2.mpr λa ha=>nomatch m4 a ha;subst t4;have c4:jy K H1 b acc ys As hV kU W_ H3:=⟨c3.sm,EF,c3.eD,c3.nD,c3.ra,c3.nd,c3.own⟩
   refine⟨hV,kU,[],_,EF,q4,λk H5 kL g5 q5=>?_⟩;have c5:=c4.grow g5
   cases k with
   |false=>exact⟨kL,kU,c5,q5⟩
   |true =>
    refine⟨kL,kU,[],_,c5.sr,q5,λv H6 Za m6 d6 As6 g6 r6 f6 q6=>?_⟩;have c6:=c5.grow g6;refine⟨Za,kU,d6,c6,c6.push r6 q6.1 f6.1 λa ha=>⟨(f6.2 a ha).1,λm=>?_⟩,q6.2⟩;rcases eJ.mp m with rfl|m
    ·have:=(f6.2 _ ha).2;rw[c5.eD] at this;cases this
    ·exact(c5.ra.own a m).ne (f6.2 a ha).2
 ·have e:i=ds.length:=by lia
  subst e;refine .inl ⟨S.stop aE H2 c.sm c.sr.wf,?_⟩;rw[E5] at q2;have q2:Q .bo (.list (acc++[])):=q2;rw[kE] at q2;have W9:=c.ra.length;have rm:RM K aE H2 (.ow false) (.list acc) (.ref b) (b :: As):=⟨.list (by lia) c.eD c.ra,by simp⟩
  obtain⟨g7,r',fr⟩:=lE g1.wf c.sm c.sr.wf rm c.nd λa ha=>(eJ.mp ha).elim (λz=>z ▸ c.nD) (c.own a);exact Fin.after f g1 (.ref b) H2 _ .bo (.list acc) g7 (dw g1.wf c.sm c.sr.wf) r' fr q2
end
def jR{g:WG}{tc:WT}{te:WE}(p:D->Bool)(f:D->D)(Iv:Env->Prop):∀ (xs:List D) (ρ:Env) (k:List D->Prop),Iv ρ -> (∀ x∈xs,∀ ρ,Iv ρ->∀ N1:Env->Prop,∀ N2:Env->D->Prop,(∀ bt,Iv bt->p x=false->N1 bt)->(∀ bt,Iv bt->p x=true->N2 bt (f x))->g x ρ λkz=>tc kz λb=>if b=true then te kz λm d=>v9 m d/\N2 kz d else N1 kz) ->
  k ((xs.filter p).map f)->fC g tc te xs ρ k
 |[],_,k,_,_,h=>h
 |x :: xs,ρ,k,iv,hs,h=>by
  refine hs x fo ρ iv _ _ (λbt Lc hp=>?_) (λbt Lc hp=>?_)
  ·exact jR p f Iv xs bt k Lc (λy hy=>hs y (eA _ hy)) (by simpa[hp] using h)
  ·exact jR p f Iv xs bt _ Lc (λy hy=>hs y (eA _ hy)) (by simpa[hp] using h)
end L2.Q
namespace L2.Q.R
def K8{ρ:L2.Q.Env}{Q:Md->L2.Q.D->Prop}{tt:WT}{te:WE}{wi:WI}{g:WG}{tn:Nat}{ix:List Nat}:tD wi g tt te tn ix ρ Q=wi ρ λds=>fC g tt te ds (uJ tn ix ρ) λout=>Q .bo (.list out):=rfl
end L2.Q.R
namespace L2.Q
def cD'(o:Option Sl):Bool:=match o with
 |none=>true
 |some (.sh _)=>true
 |_=>false
def gW(ρ:Env):Bool:=ρ.all cD'
section
variable {K:ax}{te:WE}
def SR.gW{Hs H aw H':Hp}{ρ:Env}{σ:St}{tot:List ag}(s:SR K Hs H ρ σ tot)(h:gW ρ=true)(g:bq Hs aw):SR K aw H' ρ σ []:=by
 induction s with
 |nil=>exact .nil
 |non _ ih=>exact .non (ih h)
 |sh r _ ih=>exact .sh (r.same g) (ih h)
 |_=>simp[L2.Q.gW,cD'] at h
def dz.gW{Hs H:Hp}{ρ:Env}{σ:St}{tot:List ag}(s:dz K Hs ρ σ H tot)(h:gW ρ=true):dz K H ρ σ H [] :=
 ⟨s.sr.gW h s.wf.sub,⟨λ_ _ z=>z,λ_ _ z=>z⟩,mz,λ_ m=>nomatch m⟩
def Gh(i:Nat)(te:WE):WS:=λE ρ=>te ρ λ_ d=>gW ρ=true/\E.nx (ρ.set i (some (.sh d)))
end
end L2.Q
namespace L2.Q.R
def Oa{te:WE}{i:Nat}{E:eO}{ρ:L2.Q.Env}:Gh i te E ρ=te ρ λ_ d=>b6 d (f:=λd=>gW ρ=true/\E.nx (ρ.set i (some (.sh d)))) ⟨⟩:=rfl
def LK{ρ:L2.Q.Env}:gW (none :: ρ)=gW ρ:=rfl
def J5{d:L2.Q.D}{ρ:L2.Q.Env}:gW (some (.sh d) :: ρ)=gW ρ:=rfl
def Kh:gW []=true:=rfl
end L2.Q.R
namespace L2
open PySem.Calls
end L2
end
namespace PySem
open Sem (wp)
open Builtin Builtin.Str
def wG{prog:b9}{w:cy}{A:e7}{E:ah->aC->Prop}{s:aC}{x y:Str}{t u:Tok}{Q:ah->aC->Prop}(hy:(y.length == 0)=false)(hZ:x.length<=bI)(kI':(partsBetween x (occurrences x y 0 x.length (x.length+1)) y.length).length<=bI)(hq:∀ l k,l.map (·.1)=Txt.split x y->Q (.ref s.heap.objs.size) { s with heap:=s.heap.push { cls:=.type "list",data:=.seq (strValues l).toArray },toks:=k }) :
  b5 (aT prog w) A (call (.builtin "str.split") [.str x t,.str y u]) Q E s:=by
 cases h1:(decide (x.length<y.length) || decide (Builtin.Str.strKind x<Builtin.Str.strKind y))
 ·cases hf:(occurrences x y 0 x.length (x.length+1)).isEmpty
  ·refine E4 F.slot_str_split (DE _ _ _) F.entry_str_split (F.args_str_split_2 _ _) (meets_str_split_sep x y t u h1 hy hf hZ kI') ?_;show wants Q E _ { s with toks:=_,heap:=s.heap.push { cls:=.type "list",data:=.seq (strsFrom s.toks (partsBetween x (occurrences x y 0 x.length (x.length+1)) y.length)).toArray } };rw[strsFrom_eq];exact hq (numbered s.toks _) _ ((numbered_texts _ _).trans ((if_neg (ne_true_of_eq_false h1)).trans (if_neg (ne_true_of_eq_false hf))).symm)
  ·exact E4 F.slot_str_split (DE _ _ _) F.entry_str_split (F.args_str_split_2 _ _) (meets_str_split_not_found x y t u h1 hy hf) (hq [(x,t)] s.toks ((if_neg (ne_true_of_eq_false h1)).trans (if_pos hf)).symm)
 ·exact E4 F.slot_str_split (DE _ _ _) F.entry_str_split (F.args_str_split_2 _ _) (meets_str_split_cannot_occur x y t u h1) (hq [(x,t)] s.toks (if_pos h1).symm)
end PySem
namespace PySem
open Builtin Builtin.Str StrLaws
theorem pN(x y:Str)(hi:Nat)(hw:1<=y.length):∀ (cs:List Nat) (a f:Nat),ChainG x y hi a cs f->cs=[]\/cs.length+a<=hi
 |[],_,_,_=>.inl rfl
 |d :: r,a,f,h=>by
  have h1:=h.1;have h2:=h.2.1.1;rcases pN x y hi hw r _ f h.2.2.2 with e|e
  ·subst e;right;simp;lia
  ·right;simp only[kB];lia
theorem pX(x:Str)(w:Nat):∀ (cs:List Nat) (a:Nat),(partsFrom x w a cs).length=cs.length+1
 |[],_=>rfl
 |d :: r,a=>by show(partsFrom x w _ r).length+1=_;rw[pX x w r];rfl
def jL(x y:Str)(hw:1<=y.length):(partsBetween x (occurrences x y 0 x.length (x.length+1)) y.length).length<=x.length+1:=by
 obtain⟨f,hG,_⟩:=occ_tight x y hw;rw[partsBetween_eq,pX];rcases pN x y x.length hw _ 0 f hG with e|e
 ·rw[e];simp
 ·lia
def kh(x y:Str)(hw:1<=y.length):(Txt.split x y).length<=x.length+1:=by
 unfold Txt.split;split
 ·simp
 ·split
  ·simp
  ·exact jL x y hw
end PySem
section
open PySem PySem.Spec PyProof.Rows
namespace L2
open PySem.Calls
section
variable {X:Cx}
theorem ql:∀ l:List (Str × Tok),Vals ((l.map (·.1)).map V.str) (PySem.strValues l)
 |[]=>.nil
 |p :: l=>.cons ⟨p.2,rfl⟩ (ql l)
def zN:TV X "str.split" (λx xs H Q=>∃ z y,x=.str z/\xs=[.str y]/\1<=y.length/\z.length<=1000000/\∀ p,H p=none->Q (.ref p) (upd H p (.lst ((Txt.split z y).map V.str)))):=by intro pins s σ H x vs v us Q I rx rv h;obtain⟨z,y,rfl,rfl,hy,hz,q⟩:=h;obtain⟨t,rfl⟩:=rx;obtain⟨u,rfl,ru⟩:=Vals.one rv;obtain⟨t',rfl⟩:=ru;have hb:=jL z y hy;refine wG (beq_eq_false_iff_ne.mpr (by lia)) (iO hz (by decide)) (iO hb (by rw[oi];lia)) λl k el=>?_;have I2:=I.Ro (t':=k) (ql l) (by rw[dr,el];exact iO (kh z y hy) (by rw[oi];lia));rw[el] at I2;exact⟨.ref _,_,I2,rfl,q _ I.fresh⟩
end
end L2
namespace L2.Q
theorem pF{y p:Str}:∀ {zs:List Str},p∈zs->p.length<=(Str.join y zs).length
 |[],h=>nomatch h
 |[x],h=>by rw[kD.mp h];exact cx _
 |x :: z :: r,h=>by
  show _<=(x++y++Str.join y (z :: r)).length;rw[aK,aK];rcases eJ.mp h with rfl|h
  ·lia
  ·have:=pF (y:=y) h;lia
def vd{x y p:Str}(h:p∈Txt.split x y):p.length<=x.length:=by have:=pF (y:=y) h;rwa[StrLaws.join_split] at this
theorem pP{K:ax}{H:Hp}:∀ {l:List Str},(∀ x∈l,x.length<=bI)->bP K H (l.map .str) (l.map V.str)
 |[],_=>.nil
 |x :: l,h=>.cons (.str (h x fo)) (pP λy hy=>h y (eA _ hy))
theorem mF:∀ l:List Str,dv (l.map D.str)=true
 |[]=>rfl
 |x :: l=>by simp[dv,mF l,D.flat]
def sW(to te:WE):WE:=λρ Q=>to ρ λ_ x=>match x with
 |.str z=>te ρ λ_ y=>match y with
  |.str s=>1<=s.length/\z.length<=1000000/\Q (.ow true) (.list ((Txt.split z s).map .str))
  |_=>False
 |_=>False
section
variable {X:Cx}{K:ax}{o e:Expr}{to te:WE}{apos eI:Pos}
def yD (ho:QE X K o to) (he:QE X K e te) (qc:autoParam (vj o "split" X.env (b4 o X.env)=b4 o X.env) bv) (vF:autoParam (((gy eI (bE [e] X.env)).all (λx=>!x.1) && (zk eI (zi [] X.env)).all (λx=>x.1.isSome) && decide ([e].length+([]:List qV).length+(if ([]:List qV).isEmpty then 0 else 1)<30))=true) bv) (hline:autoParam ((apos.endLine == eI.line)=true) bv) (oS:autoParam (bE (e :: []) X.env=(false,b4 e X.env) :: bE [] X.env) bv) (vS:autoParam ((gy eI (bE [] X.env)).any (·.1)=false) bv) :
  QE X K (.Call (.Attribute o "split" apos) [e] [] eI) (sW to te):=by
 refine PE.imp (Jn PySem.F.plainAttrs_str PySem.F.slot_str_split PySem.F.type_str_split zN ho (kf he k7 oS) qc vF hline oS vS) λσ H Qv hx=>ic hx λHs ρ tot Q sr h f=>?_;refine⟨Hs,ρ,tot,_,sr,h,λv H1 aS m x As g1 r1 f1 q1=>?_⟩;have r:=r1.rep g1.wf
 cases r with
 |str hz =>
  refine⟨rfl,aS,ρ,tot,_,sr.grow g1,q1,λy H2 aE m2 x2 ip g2 r2 f2 q2=>?_⟩;have rr:=r2.rep g2.wf
  cases rr with
  |str hz2 =>
   obtain⟨h1,h2,q⟩:=q2;refine⟨_,_,rfl,rfl,h1,h2,Fin.lst (Fin.after f (g1.trans g2)) g2.wf ?_ (pP λp hp=>?_) (mF _) q⟩
   ·rw[dr];exact iO (kh _ _ h1) (by rw[oi];lia)
   ·exact iO (vd hp) hz
  |_=>exact q2.elim
 |_=>exact q1.elim
end
end L2.Q
namespace L2.Q.R
section
variable {ρ:L2.Q.Env}{to te:WE}{Q:Md->L2.Q.D->Prop}
def Kl:sW to te ρ Q=to ρ λ_ x=>b6 x (f:=λx=>Lv x λz=>te ρ λ_ y=>b6 y (f:=λy=>Lv y λs=>1<=s.length/\z.length<=1000000/\Q (.ow true) (.list ((Txt.split z s).map .str))) ⟨⟩) ⟨⟩:=rfl
end
end L2.Q.R
namespace L2.Q
open PySem.StrLaws PySem.Builtin.Str
def du{c:Nat}{x r:List Nat}(h:c∉x):(x++c :: r).takeWhile (· != c)=x/\(x++c :: r).dropWhile (· != c)=c :: r:=by
 induction x with
 |nil=>simp
 |cons a x ih =>
  have ha:(a != c)=true:=by simp;intro e;exact h (by simp[e])
  have:=ih λm=>h (eA _ m);simp[ha,this.1,this.2]
def sX{c:Nat}{x:List Nat}(h:c∉x):x.takeWhile (· != c)=x/\x.dropWhile (· != c)=[]:=by
 induction x with
 |nil=>simp
 |cons a x ih =>
  have ha:(a != c)=true:=by simp;intro e;exact h (by simp[e])
  have:=ih λm=>h (eA _ m);simp[ha,this.1,this.2]
def g_(y a b:Str)(r:List Str):sg (Str.join y (a :: b :: r))=sg a++(sg y++sg (Str.join y (b :: r))):=by show sg (a++y++Str.join y (b :: r))=_;rw[cI,cI,oI]
theorem uH{c:Nat}{y:Str}{s:List Nat}(hy:sg y=c :: s):∀ {ps qs:List Str},ps≠[]->qs≠[]->(∀ p∈ps,c∉sg p)->(∀ p∈qs,c∉sg p)->sg (Str.join y ps)=sg (Str.join y qs)->ps=qs
 |[],_,h,_,_,_,_=>absurd rfl h
 |_,[],_,h,_,_,_=>absurd rfl h
 |[a],[b],_,_,_,_,e=>by rw[dM (show sg a=sg b from e)]
 |[a],b :: b2 :: r,_,_,ha,hb,e=>by rw[g_,hy] at e;have e:sg a=_:=e;have:=congrArg (List.dropWhile (· != c)) e;rw[(sX (ha a (by simp))).2,AV,(du (hb b (by simp))).2] at this;cases this
 |a :: a2 :: r,[b],_,_,ha,hb,e=>by rw[g_,hy] at e;have e:_=sg b:=e;have:=congrArg (List.dropWhile (· != c)) e;rw[(sX (hb b (by simp))).2,AV,(du (ha a (by simp))).2] at this;cases this
 |a :: a2 :: r,b :: b2 :: t,_,_,ha,hb,e=>by rw[g_,g_,hy,AV,AV] at e;have h1:=congrArg (List.takeWhile (· != c)) e;have h2:=congrArg (List.dropWhile (· != c)) e;rw[(du (ha a (by simp))).1,(du (hb b (by simp))).1] at h1;rw[(du (ha a (by simp))).2,(du (hb b (by simp))).2] at h2;have h3:=List.append_cancel_left (List.cons.inj h2).2;rw[dM h1,uH hy (ps:=a2 :: r) (qs:=b2 :: t) (by simp) (by simp) (λp hp=>ha p (eA _ hp)) (λp hp=>hb p (eA _ hp)) h3]
def uC(x y:Str):Txt.split x y≠[]:=by
 unfold Txt.split;split
 ·simp
 ·split
  ·simp
  ·rw[partsBetween_eq];obtain⟨p,r,e⟩:=partsFrom_ne x y.length 0 (occurrences x y 0 x.length (x.length+1));rw[e];simp
def uI{c:Nat}{ps:List Str}(h:ps≠[])(hc:∀ p∈ps,c∉sg p):Txt.split (Str.join ⟨#[c]⟩ ps) ⟨#[c]⟩=ps :=
 uH (c:=c) (s:=[]) rfl (uC _ _) h (split_free _ c) hc (by rw[join_split])
end L2.Q
namespace L2.Q
open PySem.W
abbrev AI:=Env->(Str->Prop)->(Md->D->Prop)->Prop
abbrev EJ:=Env->(Str->Prop)->(List (Md × D)->Prop)->Prop
def kJ'(K:ax)(L:Str->Hp->Prop)(t:AI):TE:=λσ H Qv=>∃ Hs ρ tot Y Q,dz K Hs ρ σ H tot/\t ρ Y Q /\ (∀ v H' aw m d As,fv Hs H aw H'->RM K aw H' m d v As->bQ aw H As->Q m d->Qv v H')/\∀ n H',bq Hs H'->Y n->L n H'
def J_(K:ax)(L:Str->Hp->Prop)(t:EJ):TA:=λσ H Qv=>∃ Hs ρ tot Y Q,dz K Hs ρ σ H tot/\t ρ Y Q /\ (∀ vs H' aw ps As,fv Hs H aw H'->yi K aw H' ps vs As->bQ aw H As->Q ps->Qv vs H')/\∀ n H',bq Hs H'->Y n->L n H'
abbrev OY(X:Cx)(K:ax)(L:Str->Hp->Prop)(e:Expr)(t:AI):Prop:=PE X e (kJ' K L t)
abbrev UK(X:Cx)(K:ax)(L:Str->Hp->Prop)(es:List Expr)(t:EJ):Prop:=PA X es (J_ K L t)
def Zw(te:WE):AI:=λρ _ Q=>te ρ Q
def rO(sp:fw)(t:WA):AI:=λρ Y Q=>t ρ λps=>sp (ps.map (·.2)) λm d=>qA m d Y (b6 (m,d) (f:=λp=>Q (y1 p.1 p.2) p.2) ⟨⟩)
def CK:EJ:=λ_ _ Q=>Q []
def uB(te:AI)(t:EJ):EJ:=λρ Y Q=>te ρ Y λm d=>t ρ Y λps=>Q ((m,d) :: ps)
def Eu(t:EJ):AI:=λρ Y Q=>t ρ Y λps=>ps.length<=bI/\ps.all AG=true/\Q .sh (.tup (ps.map (·.2)))
section
variable {X:Cx}{K:ax}{rn:List Str}{E:XK}{e:Expr}{es:List Expr}{te:WE}{t:WA}{tx:AI}{ta:EJ}{pos:Pos}{L:Str->Hp->Prop}
def kK'(h:QE X K e te):OY X K L e (Zw te):=PE.imp h λσ H Qv hx=>by obtain⟨Hs,ρ,tot,Y,Q,sr,h,f,fx⟩:=hx;exact⟨Hs,ρ,tot,Q,sr,h,f⟩
def Ib:UK X K L [] CK:=PA.imp au λσ H Qv hx=>by obtain⟨Hs,ρ,tot,Y,Q,sr,h,f,fx⟩:=hx;exact⟨Hs,ρ,tot,Q,sr,h,f⟩
def yu(ha:OY X K L e tx)(hr:UK X K L es ta)(hs:autoParam (bE (e :: es) X.env=(false,b4 e X.env) :: bE es X.env) bv):UK X K L (e :: es) (uB tx ta):=by refine PA.imp (kf ha hr hs) λσ H Qv hx=>?_;obtain⟨Hs,ρ,tot,Y,Q,sr,h,f,fx⟩:=hx;refine⟨Hs,ρ,tot,Y,_,sr,h,λv H1 aS m x As g1 r1 f1 q1=>⟨aS,ρ,tot,Y,_,sr.grow g1,q1,λvs H2 aE ps Bs g2 r2 f2 q2=>?_,λn H' s y=>fx n H' (g1.sh.trans s) y⟩,fx⟩;exact f (v :: vs) H2 aE _ _ (g1.trans g2) (.cons (r1.grow g2) r2) (f1.app (λa h=>(r1.own a h).ne) f2 g1.all λa h1 h2=>g2.qf h1 h2) q2
def Ju{x1}(h:UK X K L es ta):OY X K L (.Tuple es x1 pos) (Eu ta):=by refine PE.imp (TH h) λσ H Qv hx=>?_;obtain⟨Hs,ρ,tot,Y,Q,sr,h,f,fx⟩:=hx;refine⟨Hs,ρ,tot,Y,_,sr,h,λvs H1 aS ps As g1 r1 f1 q1=>?_,fx⟩;obtain⟨hz,h1,q⟩:=q1;have hl:=(r1.reps g1.wf).length;rw[dr] at hl;refine⟨by lia,λp hp=>?_⟩;have g2:=N9 (vs:=vs) g1.wf hp;exact Fin.after f g1 _ _ _ .sh _ [] g2 ⟨rfl,.tup (by lia) eM ((r1.sh g1.wf h1).same g2.sh)⟩ bQ.nil q
def wH {k:Nat} {x:Str} {ps:List Str} {sp:fw} {p:Pos} (C:R0 X.prog X.w X.K X.mg X.base rn k x ps sp) (hr:gp k X.A) (hx:Passes (oz X.prog X.w X.mg rn) X E) (ha:QA X K (e :: es) t) (hK:autoParam (X.K=K) bv) (hg:autoParam (Gl X x) bv) (jv:(x == ("__debug__" : Str))=false:=by decide) (he:autoParam (bE (e :: es) X.env=(false,b4 e X.env) :: bE es X.env) bv) (i7:autoParam ((gy pos (bE es X.env)).any (·.1)=false) bv):OY X K (LX rn X.mg E) (.Call (.Name x p) (e :: es) [] pos) (rO sp t):=by
 subst hK;refine PE.imp (qK C hr hx ha hg jv he i7) λσ H Qv h=>?_;obtain⟨Hs,ρ,tot,Y,Q,sr,h,f,fx⟩:=h;exact iJ sr h f fx
end
end L2.Q
end
namespace L2.Q.R
open L2.Q PySem
section
variable {Q:Md->L2.Q.D->Prop}{Y:Str->Prop}{ρ:L2.Q.Env}
def kL'{te:WE}:Zw te ρ Y Q=te ρ Q:=rfl
def Ko{sp:fw}{t:WA}:rO sp t ρ Y Q=t ρ λps=>sp (ps.map (·.2)) λm d=>qA m d Y (b6 (m,d) (f:=λp=>Q (y1 p.1 p.2) p.2) ⟨⟩):=rfl
def Mq{Q:List (Md × L2.Q.D)->Prop}:CK ρ Y Q=Q []:=rfl
def Lh{te:AI}{t:EJ}{Q:List (Md × L2.Q.D)->Prop}:uB te t ρ Y Q=te ρ Y λm d=>t ρ Y λps=>Q ((m,d) :: ps):=rfl
def MN{t:EJ}:Eu t ρ Y Q=t ρ Y λps=>ps.length<=bI/\ps.all AG=true/\Q .sh (.tup (ps.map (·.2))):=rfl
end
end L2.Q.R
section
open PySem PySem.Spec PyProof.Rows
namespace L2
abbrev RI:=Key ⊕ List Key
section
variable {prog:b9}{w:cy}
inductive b_(prog:b9)(w:cy)(h:c9):RI->ah->Prop
 |one {k:Key} {v:ah}:(kc prog w).is k v=true->b_ prog w h (.inl k) v
 |tup {ks:List Key} {a:ag}:IsTupleKey (kc prog w) h ks a->b_ prog w h (.inr ks) (.ref a)
inductive bA(prog:b9)(w:cy)(h:c9):List RI->List ah->Prop
 |nil:bA prog w h [] []
 |cons {i:RI} {v:ah} {is:List RI} {vs:List ah}:b_ prog w h i v->bA prog w h is vs->bA prog w h (i :: is) (v :: vs)
def b_.inj(a:b_ prog w h x v)(b:b_ prog w h y v):x=y:=by
 cases a with
 |one a =>
  cases b with
  |one b=>rw[(kc prog w).inj _ _ _ a b]
  |tup b=>exact absurd ((kc prog w).byValue _ _ a) (by simp[carriedByValue])
 |tup a =>
  cases b with
  |one b=>exact absurd ((kc prog w).byValue _ _ b) (by simp[carriedByValue])
  |tup b=>rw[a.inj b]
def bA.inj(a:bA prog w h x vs)(b:bA prog w h y vs):x=y:=by
 induction a generalizing y with
 |nil=>cases b;rfl
 |cons a _ ih =>
  cases b with
  |cons b t=>rw[a.inj b,ih t]
def b_.keeps{es ep}(a:b_ prog w h x v)(ho:h.get? d=some o)(hd:o.data=.dict es ep)(hs:Heap.SameBut d h h'):b_ prog w h' x v:=by
 cases a with
 |one a=>exact .one a
 |tup a=>exact .tup (a.keeps ho hd hs)
def bA.keeps{es ep}(a:bA prog w h x vs)(ho:h.get? d=some o)(hd:o.data=.dict es ep)(hs:Heap.SameBut d h h'):bA prog w h' x vs:=by
 induction a with
 |nil=>exact .nil
 |cons a _ ih=>exact .cons (a.keeps ho hd hs) ih
def jq (prog:b9) (w:cy) (h:c9) (r:List RI) (a:ag):Prop:=∃ o items n,h.get? a=some o/\o.cls=.type "tuple"/\o.data=.seq items n/\bA prog w h r items.toList
def jq.typeIs {s:aC} {r:List RI} {a:ag} (x:jq prog w s.heap r a):s.TypeIs (.ref a) "tuple" := let ⟨o,_,_,ho,hc,_⟩:=x;⟨o,ho,hc⟩
def jq.inj(p:jq prog w h x a)(q:jq prog w h y a):x=y:=by obtain⟨o,i,n,h1,_,h2,h3⟩:=p;obtain⟨o',i',n',g1,_,g2,g3⟩:=q;rw[h1] at g1;cases g1;rw[h2] at g2;cases g2;exact h3.inj g3
def jq.keeps{es ep}(x:jq prog w h r a)(ho:h.get? d=some o)(hd:o.data=.dict es ep)(hs:Heap.SameBut d h h'):jq prog w h' r a:=by obtain⟨u,items,n,h1,h2,h3,h4⟩:=x;refine⟨u,items,n,(hs.2 a λz=>?_).trans h1,h2,h3,h4.keeps ho hd hs⟩;rw[z,ho] at h1;cases h1;rw[hd] at h3;cases h3
def vV(prog:b9)(w:cy):RI->Int
 |.inl k=>(kc prog w).hash k
 |.inr ks=>tupleKeyHash (kc prog w) ks
def qR(prog:b9)(w:cy)(r:List RI):Int:=reduceHash (Builtin.Tuple.tupleHashOf (r.map (vV prog w)))
def mR:RI->Nat
 |.inl _=>1
 |.inr ks=>ks.length+1
def nF(r:List RI):Nat:=(r.map mR).sum+1
variable {A:e7}{E:ah->aC->Prop}{s:aC}
def b_.hash(hu:A.units<gV)(x:b_ prog w s.heap i v)(h:Q (vV prog w i) { s with toks:=s.toks+mR i }):b5 (aT prog w) A (pyHash v) Q E s:=by
 cases x with
 |one x=>exact(kc prog w).pyHash x h
 |tup x=>exact wpAny_pyHash_tuple hu x h
def yW{r:List RI}{a:ag}{Q:Int->aC->Prop}(hu:A.units+1<gV)(x:jq prog w s.heap r a)(h:Q (qR prog w r) { s with toks:=s.toks+nF r }):b5 (aT prog w) A (pyHash (.ref a)) Q E s:=by
 have ty:=x.typeIs;obtain⟨o,items,n,ho,_,hd,hi⟩:=x;refine PySem.W.pyHash_slot ty PySem.F.slot_tuple_hash PySem.F.entry_tuple_hash (PySem.F.args_tuple_hash_1 _) (beq_builtin_none _) (.inr (by lia)) ?_;show b5 _ _ (Builtin.Tuple.tupleItemsOf (.ref a) >>= _) _ _ s;refine bS (wpAny_tupleItemsOf ho hd (bS ?_));rw[<- Array.forIn_toList];refine wpAny_forIn_list _ (λrest b s'=>∃ done left,r=done++left/\bA prog w s.heap left rest/\b.toList=done.map (vV prog w)/\s'={ s with toks:=s.toks+(done.map mR).sum }) _ ?_ ?_ _ _ ⟨[],r,rfl,hi,rfl,rfl⟩
 ·rintro v rest b s' ⟨done,left,rfl,hl,hb,rfl⟩
  cases hl with
  |@cons i _ cE' _ x1 hl' =>
   refine bS (b_.hash (by exact hu) x1 ?_);have fin:∃ d l,done++i :: cE'=d++l/\bA prog w s.heap l rest/\(b.push (vV prog w i)).toList=d.map (vV prog w)/\({ s with toks:=s.toks+(done.map mR).sum+mR i }:aC)={ s with toks:=s.toks+(d.map mR).sum } :=
    ⟨done++[i],cE',by simp,hl',by simp[hb],by simp[Nat.add_assoc]⟩
   first
    |exact dk fin
    |exact bS (dk (dk fin))
 ·rintro b s' ⟨done,left,e,hl,hb,rfl⟩;cases hl;rw[kE] at e;subst e;show b5 _ _ (retInt (Builtin.Tuple.tupleHashOf b.toList)) _ _ _;rw[hb];exact bS (wpAny_mkInt (dk ⟨_,_,rfl,by
   have h':=h;unfold qR nF at h';exact h'⟩))
def pK (ho:s.heap.get? a=some o) (hc:o.cls=.type "tuple") (hd:o.data=.seq items n)(hv:∀ v∈items.toList,∀ Q:Bool->aC->Prop,Q true s->b5 (aT prog w) A (eqIsQuiet m v) Q E s) (h:Q true s):b5 (aT prog w) A (eqIsQuiet (m+1) (.ref a)) Q E s:=by
 have ty:s.TypeIs (.ref a) "tuple" := ⟨o,ho,hc⟩
 unfold eqIsQuiet;refine bS (wpAny_specialOf ty PySem.F.slot_tuple_eq.lookup ?_);refine bS (wpAny_isInstance ty isSubtype_tuple_tuple ?_);refine bS (wpAny_seqItems ho hd (bS ?_));rw[<- Array.forIn_toList];refine wpAny_forIn_list _ (λrest r s'=>r.1=none/\s'=s/\∀ v∈rest,v∈items.toList) _ ?_ ?_ _ _ ⟨rfl,rfl,λ_ z=>z⟩
 ·rintro v rest r s' ⟨_,rfl,all⟩;exact bS (hv v (all v fo) _ (dk ⟨rfl,rfl,λu z=>all u (eA _ z)⟩))
 ·rintro⟨r1,r2⟩ s' ⟨z,rfl,_⟩;subst z;exact dk h
def bA.mem(x:bA prog w h r vs):∀ v∈vs,∃ i,b_ prog w h i v:=by
 induction x with
 |nil=>intro v z;cases z
 |cons a _ ih =>
  intro v z;rcases eJ.mp z with rfl|z
  ·exact⟨_,a⟩
  ·exact ih v z
def b_.quiet(x:b_ prog w s.heap i v)(h:Q true s):b5 (aT prog w) A (eqIsQuiet (m+1) v) Q E s:=by
 cases x with
 |one x =>rw[eqIsQuiet_byValue _ ((kc prog w).byValue _ _ x)];exact dk h
 |tup x =>obtain⟨o,items,n,ho,hc,hd,hi⟩:=x;refine pK ho hc hd (λv hv Q q=>?_) h;rw[eqIsQuiet_byValue _ (hi.byValue v hv)];exact dk q
def wy(x:jq prog w s.heap r a)(h:Q true s):b5 (aT prog w) A (eqIsQuiet 8 (.ref a)) Q E s:=by obtain⟨o,items,n,ho,hc,hd,hi⟩:=x;refine pK ho hc hd (λv hv Q q=>?_) h;obtain⟨i,y⟩:=hi.mem v hv;exact y.quiet q
end
end L2
namespace L2.Q
def CL:RI->D
 |.inl k=>mS k
 |.inr ks=>.tup (ks.map mS)
def oB(r:List RI):D:=.tup (r.map CL)
theorem ud:∀ {x y:Key},mS x=mS y->x=y
 |.inl _,.inl _,h=>by cases h;rfl
 |.inr _,.inr _,h=>by cases h;rfl
 |.inl _,.inr _,h=>nomatch h
 |.inr _,.inl _,h=>nomatch h
theorem map_inj{α β:Type}{f:α->β}(hf:∀ x y,f x=f y->x=y):∀ {l m:List α},l.map f=m.map f->l=m
 |[],[],_=>rfl
 |x :: l,y :: m,h=>by injection h with h1 h2;rw[hf x y h1,map_inj hf h2]
theorem De:∀ {x y:RI},CL x=CL y->x=y
 |.inl _,.inl _,h=>by rw[ud h]
 |.inr _,.inr _,h=>by injection h with h;rw[map_inj (λ_ _=>ud) h]
 |.inl (.inl _),.inr _,h=>nomatch h
 |.inl (.inr _),.inr _,h=>nomatch h
 |.inr _,.inl (.inl _),h=>nomatch h
 |.inr _,.inl (.inr _),h=>nomatch h
def Bd(h:oB x=oB y):x=y:=by injection h with h;exact map_inj (λ_ _=>De) h
theorem n6:∀ ks:List Key,yn (ks.map mS)=true
 |[]=>rfl
 |.inl _ :: ks=>by simp[yn,D.nb,mS,n6 ks]
 |.inr _ :: ks=>by simp[yn,D.nb,mS,n6 ks]
theorem jT:∀ r:List RI,yn (r.map CL)=true
 |[]=>rfl
 |.inl (.inl _) :: r=>by simp[yn,D.nb,CL,mS,jT r]
 |.inl (.inr _) :: r=>by simp[yn,D.nb,CL,mS,jT r]
 |.inr ks :: r=>by simp[yn,D.nb,CL,n6 ks,jT r]
def CV(x y:List RI):k9 (oB x) (oB y)=decide (x=y):=by rw[B1,decide_eq_true_iff,nZ (oB x) (oB y) (jT x) (jT y)];exact⟨Bd,λz=>by rw[z]⟩
section
variable {prog:b9}{w:cy}{h:c9}
def pI(x:(kc prog w).is k v=true):Reads h v (mS k).py []:=by
 rcases AW x with⟨i,t,rfl,rfl⟩|⟨y,t,rfl,rfl⟩
 ·exact .int i t
 ·exact .str y t
def vh(x:ItemsAre (kc prog w) ks vs):ReadsAll h vs (rV (ks.map mS)) []:=by
 induction x with
 |nil=>exact .nil
 |cons a _ ih=>exact .cons (pI a) ih
def uM(x:b_ prog w h i v):Reads h v (CL i).py []:=by
 cases x with
 |one x=>exact pI x
 |tup x =>obtain⟨o,items,n,ho,hc,hd,hi⟩:=x;exact .tuple ho hc hd (vh hi)
def qD(x:bA prog w h r vs):ReadsAll h vs (rV (r.map CL)) []:=by
 induction x with
 |nil=>exact .nil
 |cons a _ ih=>exact .cons (uM a) ih
def row_reads(x:jq prog w h r a):Reads h (.ref a) (oB r).py []:=by obtain⟨o,items,n,ho,hc,hd,hi⟩:=x;exact .tuple ho hc hd (qD hi)
end
def oA(prog:b9)(w:cy):HeapKind prog w (List RI) where
 is:=λh r a=>jq prog w h r a/\eB 12 (oB r)=true
 hash:=qR prog w
 draws:=nF
 room:=λA=>A.units+13<gV
 inj:=λx y=>x.1.inj y.1
 keeps:=λx ho hd hs=>⟨x.1.keeps ho hd hs,x.2⟩
 pyHash:=λhu x h=>yW (by lia) x.1 h
 eqBool:=λ{A E s x y a b Q} hu hx hy h=>by have l1:=jk 12 _ hx.2;have l2:=jk 12 _ hy.2;have e:=PySem.SeqAt.eqAt_reads (oB x).py (oB y).py A s _ _ _ _ (row_reads hx.1) (row_reads hy.1) l1.1 l2.1 (by lia);have q:PyData.eqv (oB x).py (oB y).py=decide (x=y):=CV x y;rw[q] at e;exact e prog w E Q h
 quiet:=λx h=>wy x.1 h
def EK(P:b9)(w:cy)(a:ag)(xs:List (List RI × ag × ah)):HO:=.ext λh=>∃ o es ep,h.get? a=some o/\o.ExactDict/\o.data=.dict es ep/\es.toList=xs.map (entryOfKey (oA P w))/\(xs.map (·.1)).Nodup
def zG(H:Hp):RI->V->Prop
 |.inl k,y=>y=kV k
 |.inr ks,y=>∃ c,y=.ref c/\H c=some (.tup (ks.map kV))
def iP(H:Hp)(r:List RI)(b:ag):Prop:=eB 12 (oB r)=true/\∃ ys,H b=some (.tup ys)/\Paired (zG H) r ys
section
variable {P:b9}{w:cy}{H:Hp}{h:c9}
theorem tR(ok:hU P w H h):∀ {r:List RI} {ys:List V} {vs:List ah},Paired (zG H) r ys->Vals ys vs->bA P w h r vs
 |_,_,_,.nil,.nil=>.nil
 |_,_,_,.cons (a:=i) p ps,.cons q qs=>.cons (match i,p with
  |.inl k,p=>.one (JJ (by rw[<- show _=kV k from p];exact q))
  |.inr ks,p=>by
   obtain⟨c,rfl,e⟩:=p;cases (q);exact .tup (M0 ok e)) (tR ok ps qs)
def sI(ok:hU P w H h)(x:iP H r b):(oA P w).is h r b:=by
 obtain⟨o1,ys,e,p⟩:=x;obtain⟨_,its,q,o,h1,h2,n,h3⟩:=(ok b _ e)
 exact⟨⟨o,its.toArray,n,h1,h2,h3,by simpa using tR ok p q⟩,o1⟩
def JY(ok:hU P w H h)(e:H p=some (EK P w p xs))(ks:∀ x∈xs,iP H x.1 x.2.1):h.DictOfH (oA P w) p xs:=by
 obtain⟨⟨o,es,ep,h1,h2,h3,h4,h5⟩,_,_⟩:=(ok p _ e)
 exact⟨o,es,ep,h1,h2,h3,h4,λx hx=>sI ok (ks x hx),h5⟩
def iP.R6(x:iP H r b)(e:H p=some o)(no:∀ ys,o≠.tup ys):iP (upd H p ob) r b:=by
 have go:∀ {c:ag} {ys:List V},H c=some (.tup ys)->upd H p ob c=some (.tup ys):=λ{c ys} z=>by rw[dn (λq=>by rw[q,e] at z;cases z;exact no ys rfl)];exact z
 obtain⟨o1,ys,e1,q⟩:=x;refine⟨o1,ys,go e1,?_⟩;clear e1 o1
 induction q with
 |nil=>exact .nil
 |@cons i y is ys hi _ ih =>
  refine .cons ?_ ih
  match i,hi with
  |.inl k,hi=>exact hi
  |.inr ks,hi =>obtain⟨c,rfl,z⟩:=hi;exact⟨c,rfl,go z⟩
end
section
variable {X:Cx}{pins:List (ag × Obj)}{σ:St}{H:Hp}{s:aC}{p b:ag}{xs:List (List RI × ag × ah)}{r:List RI}{A:e7}{E:ah->aC->Prop}
def jM{P:b9}(hu:A.units+14<gV):(oA P w).room A.in1:=by show A.units+1+13<gV;lia
def Ew(hu:A.units+14<gV)(I:Inv X pins σ H s)(e:H p=some (EK X.prog X.w p xs))(hp:(p == wx)=false)(ks:∀ x∈xs,iP H x.1 x.2.1)(rb:iP H r b)(h:∀ s',Inv X pins σ H s'->Q (.bool (!(atKey xs r).isSome)) s'):b5 (aT X.prog X.w) A (fR .NotIn (.ref b) (.ref p)) Q E s :=
 wpAny_notIn_heap (jM hu) (sI I.aI rb) hp (JY I.aI e ks) (h _ (I.tok _))
def yF(hu:A.units+14<gV)(I:Inv X pins σ H s)(e:H p=some (EK X.prog X.w p xs))(ks:∀ x∈xs,iP H x.1 x.2.1)(rb:iP H r b)(hq:atKey xs r=some q)(h:∀ s',Inv X pins σ H s'->Q q.2 s'):b5 (aT X.prog X.w) A (getItem (.ref p) (.ref b)) Q E s :=
 wpAny_getItem_heap (jM hu) (sI I.aI rb) (JY I.aI e ks) hq (h _ (I.tok _))
def yP(hu:A.units+14<gV)(I:Inv X pins σ H s)(e:H p=some (EK X.prog X.w p xs))(ks:∀ x∈xs,iP H x.1 x.2.1)(rb:iP H r b)(hz:xs.length<=bI)(h:∀ s',Inv X pins σ (upd H p (EK X.prog X.w p (storedH xs r b v))) s'->Q () s'):b5 (aT X.prog X.w) A (setItem (.ref p) (.ref b) v) Q E s:=by
 refine wpAny_setItem_heap (jM hu) (sI I.aI rb) (JY I.aI e ks) λh' D6 hs=>h _ ?_;obtain⟨q,es,ep,hq,h2,h3,h4,_,h5⟩:=D6;exact T3 I (by rw[e];exact True.intro) hs ⟨q,hq⟩ ⟨⟨q,es,ep,hq,h2,h3,h4,h5⟩,⟨q,hq⟩,λh1 h2 ⟨o,es,ep,a,z⟩ k=>⟨o,es,ep,k o a,z⟩⟩
end
def RD(P:b9)(w:cy)(H:Hp)(p:ag)(ae:List (List RI × V)):Prop:=∃ xs:List (List RI × ag × ah),(p == wx)=false/\H p=some (EK P w p xs)/\xs.length<=bI /\
 Paired (λ(q:List RI × V) (x:List RI × ag × ah)=>q.1=x.1/\iP H x.1 x.2.1/\RelV q.2 x.2.2) ae xs
section
variable {H:Hp}
def yw(x:Paired (λ(q:List RI × V) (x:List RI × ag × ah)=>q.1=x.1/\iP H x.1 x.2.1/\RelV q.2 x.2.2) ae xs)(k:List RI):oQ (k8 ae k) ((atKey xs k).map (·.2)):=by
 induction x with
 |nil=>exact True.intro
 |@cons p q ps qs h t ih =>
  unfold k8 atKey at *
  rw[BQ,BQ,h.1];by_cases e:q.1=k
  ·rw[decide_eq_true e];exact h.2.2
  ·rw[decide_eq_false e];exact ih
def oR(x:Paired (λ(q:List RI × V) (x:List RI × ag × ah)=>q.1=x.1/\iP H x.1 x.2.1/\RelV q.2 x.2.2) ae xs):∀ q∈xs,iP H q.1 q.2.1:=by
 induction x with
 |nil=>intro q hq;cases hq
 |cons h _ ih =>
  intro q hq;rcases eJ.mp hq with rfl|hq
  ·exact h.2.1
  ·exact ih q hq
end
def zy(P:b9)(w:cy)(td ty:TE):TE:=λσ H Q=>td σ H λx H1=>ty σ H1 λy H2=>∃ a b ae r v,x=.ref a/\y=.ref b/\RD P w H2 a ae/\iP H2 r b/\k8 ae r=some v/\Q v H2
def wO(P:b9)(w:cy)(ty td:TE):TE:=λσ H Q=>ty σ H λy H1=>td σ H1 λx H2=>∃ a b ae r,x=.ref a/\y=.ref b/\RD P w H2 a ae/\iP H2 r b/\Q (.bl (!(k8 ae r).isSome)) H2
section
variable {X:Cx}{o i e value:Expr}{pos pos':Pos}{td ty tv:TE}
def wY (I:Inv X pins σ H s) (x:RD X.prog X.w H a ae):s.TypeIs (.ref a) "dict" := by obtain⟨xs,_,e,_,p⟩:=x;exact(JY I.aI e (oR p)).typeIs
def Fe(hu:X.A.units+14<gV)(ho:PE X o td)(hi:PE X i ty)(hs:T4 i):PE X (.Subscript o i pos) (zy X.prog X.w td ty):=by intro pins s σ H Q I h;refine bb' PySem.F.slot_dict_getitem.lookup hs (cv (ho pins s σ H _ I h) λu s1 ck=>L2.eR ck λx H1 I1 rx q1=>cv (hi pins s1 σ H1 _ I1 q1) λiv s2 dP=>?_);obtain⟨y,H2,I2,ry,a,b,ae,r,v,ex,ey,d,hr,l,q2⟩:=dP;subst ex ey;obtain rfl:u=Value.ref a:=rx;obtain rfl:iv=Value.ref b:=ry;have ty:=wY I2 d;obtain⟨xs,_,e,_,p⟩:=d;obtain⟨w',hw,qa⟩:=oQ.some_of (by rw[<- l];exact yw p r);obtain⟨q,hq,hq2⟩:=oo.mp hw;exact⟨ty,yF hu I2 e (oR p) hr hq λs3 I3=>⟨v,H2,I3,by rw[hq2];exact qa,q2⟩⟩
def yK(hu:X.A.units+14<gV)(hi:PE X i ty)(ho:PE X o td):PC X .NotIn i o (wO X.prog X.w ty td):=by intro pins s σ H Q I h;refine cv (hi pins s σ H _ I h) λiv s1 ck=>L2.eR ck λy H1 I1 ry q1=>cv (ho pins s1 σ H1 _ I1 q1) λu s2 dP=>?_;obtain⟨x,H2,I2,rx,a,b,ae,r,ex,ey,d,hr,q2⟩:=dP;subst ex ey;obtain rfl:u=Value.ref a:=rx;obtain rfl:iv=Value.ref b:=ry;obtain⟨xs,hp,e,_,p⟩:=d;have q:=(yw p r).JA;rw[Qr] at q;exact Ew hu I2 e hp (oR p) hr λs3 I3=>⟨_,H2,I3,by rw[<- q];rfl,q2⟩
def Hh(P:b9)(w:cy)(td ty tv:TE):TS:=λD σ H=>tv σ H λv H1=>td σ H1 λx H2=>ty σ H2 λy H3=>∃ a b ae r,x=.ref a/\y=.ref b/\RD P w H3 a ae/\iP H3 r b/\k8 ae r=none/\ae.length<bI /\
 ∀ H4,RD P w H4 a (ae++[(r,v)])->(∀ c,c≠a->H4 c=H3 c)->(∃ φ,H4 a=some (.ext φ))->D.nx σ H4
def G5{H:Hp}{a:ag}{o:HO}{φ:c9->Prop}(e:H a=some (.ext φ)){ae:List (List RI × V)}{xs:List (List RI × ag × ah)}(x:Paired (λ(q:List RI × V) (x:List RI × ag × ah)=>q.1=x.1/\iP H x.1 x.2.1/\RelV q.2 x.2.2) ae xs){r:List RI}{b:ag}{v:V}{u:ah}(hb:iP H r b)(hv:RelV v u) :
  Paired (λ(q:List RI × V) (x:List RI × ag × ah)=>q.1=x.1/\iP (upd H a o) x.1 x.2.1/\RelV q.2 x.2.2) (ae++[(r,v)]) (xs++[(r,b,u)]):=by
 induction x with
 |nil=>exact .cons ⟨rfl,hb.R6 e (λ_ z=>nomatch z),hv⟩ .nil
 |cons h _ ih=>exact .cons ⟨h.1,h.2.1.R6 e (λ_ z=>nomatch z),h.2.2⟩ ih
def GQ(hu:X.A.units+14<gV)(ho:PE X o td)(hi:PE X i ty)(hv:PE X value tv)(hs:nI value (some (.Subscript o i pos')) pos.line X.env=pure false) :
  PS X (.Assign [.Subscript o i pos'] value pos) (Hh X.prog X.w td ty tv):=by
 intro pins s σ H D I h;refine wpAny_Assign_Subscript (cv (hv pins s σ H _ I h) λu0 s1 ck=>L2.eR ck λv H1 I1 rv q1=>cv (ho pins s1 σ H1 _ I1 q1) λu s2 ck=>L2.eR ck λx H2 I2 rx q2=>cv (hi pins s2 σ H2 _ I2 q2) λiv s3 dP=>?_) hs;obtain⟨y,H3,I3,ry,a,b,ae,r,ex,ey,d,hr,l,lz,q3⟩:=dP;subst ex ey;obtain rfl:u=Value.ref a:=rx;obtain rfl:iv=Value.ref b:=ry;obtain⟨xs,hp,e,z,p⟩:=d;have n:atKey xs r=none:=by
  have q:=(yw p r).JA;rw[l,Qr] at q
  cases z:atKey xs r with
  |none=>rfl
  |some _=>rw[z] at q;cases q
 have xl:xs.length=ae.length:=(Paired.length p).symm;refine yP hu I3 e (oR p) hr z λs4 I4=>⟨σ,_,I4,?_⟩
 rw[storedH_new n];exact q3 _ ⟨_,hp,eM,by rw[hJ,L7];lia,G5 e p hr rv⟩ (λc hc=>dn hc) ⟨_,eM⟩
def Iu(P:b9)(w:cy):TE:=λ_ H Q=>∀ p,H p=none->RD P w (upd H p (EK P w p [])) p []->Q (.ref p) (upd H p (EK P w p []))
def Cw:PE X (.Dict [] [] pos) (Iu X.prog X.w):=λpins s σ H Q I h =>
 wpAny_Dict_empty ⟨.ref s.heap.objs.size,_,I.laid (o:=EK X.prog X.w s.heap.objs.size []) (λ_ _ q=>i3 _ q) (cx _) ⟨⟨_,#[],0,nL _ rfl,⟨rfl,rfl,rfl⟩,rfl,rfl,mz⟩,⟨_,nL _ rfl⟩,λh1 h2 ⟨o,es,ep,a,z⟩ k=>⟨o,es,ep,k o a,z⟩⟩,rfl,
  h _ (I.aI.fresh (cx _)) ⟨[],beq_eq_false_iff_ne.mpr (Ne.symm (j3 I.big)),eM,fI _,.nil⟩⟩
end
def EL(rs:List (List RI)):List (List RI × V):=rs.zipIdx.map λq=>(q.1,V.int q.2)
structure dO(K:ax)(P:b9)(w:cy)(H:Hp)(x dx rp pp:ag)(rs:List (List RI)):Prop where
 ins:∃ C,H x=some (.ins C dx [("rows",.ref rp),("places",.ref pp)])/\tP K C/\tS K C "rows"/\tS K C "places"
 own:H dx=some (.own x)
 rows:∃ bs:List ag,H rp=some (.lst (bs.map .ref))/\Paired (iP H) rs bs
 places:RD P w H pp (EL rs)
 nd:rs.Nodup
def z9(rs:List (List RI))(r:List RI):EL (rs++[r])=EL rs++[(r,V.int rs.length)]:=by unfold EL;rw[List.zipIdx_append,kF];simp
def tZ(h:r∉rs):k8 (EL rs) r=none:=by unfold k8 EL;rw[Option.map_eq_none_iff,List.find?_eq_none];intro q hq;obtain⟨⟨y,k⟩,hm,rfl⟩:=iq.mp hq;have:=LW.mp hm;simp only[decide_eq_true_eq];rintro rfl;exact h (rg this)
def uF{rs:List (List RI)}{r:List RI}(nd:rs.Nodup){k:Nat}(h:rs[k]? = some r):k8 (EL rs) r=some (.int k):=by
 unfold k8 EL;rw[oo];have:∃ q,(rs.zipIdx.map λq=>(q.1,V.int q.2)).find? (λkv=>decide (kv.1=r))=some q:=by rw[<- Vr,List.find?_isSome];exact⟨(r,.int k),iq.mpr ⟨(r,k),LW.mpr h,rfl⟩,by simp⟩
 obtain⟨q,hq⟩:=this;refine⟨q,hq,?_⟩;obtain⟨⟨y,j⟩,hm,rfl⟩:=iq.mp (List.mem_of_find?_eq_some hq);have e:y=r:=by have:=List.find?_some hq;simpa using this
 subst e;have hj:=LW.mp hm;obtain⟨j1,j2⟩:=nh.mp hj;obtain⟨k1,k2⟩:=nh.mp h;have:j=k:=(Vn nd).mp (j2.trans k2.symm);rw[this]
def Jk(K:ax)(ta:TE):TE:=TJ (λxs H Q=>∃ x n,xs=[x]/\aw' K x H n/\Q (.int n) H) (TF ta MX)
def Zx(K:ax)(P:b9)(w:cy):TS :=
 Rb (ad' (tB (wO P w (i5 1) (D3 K (i5 0) "places"))) (Rb (Hh P w (D3 K (i5 0) "places") (i5 1) (Jk K (D3 K (i5 0) "rows"))) (ac' (tBM K "list" aW' (D3 K (i5 0) "rows") (TF (i5 1) MX))))
  ab')
 (Tr (zy P w (D3 K (i5 0) "places") (i5 1)))
def dO.fld{K:ax}{P:b9}(S:dO K P w H x dx rp pp rs)(e:σ[0]? = some (some (.ref x))) : (Q (.ref rp) H->D3 K (i5 0) "rows" σ H Q)/\(Q (.ref pp) H->D3 K (i5 0) "places" σ H Q):=by
 obtain⟨C,i,c,n1,n2⟩:=S.ins;exact⟨λq=>⟨_,e,x,C,dx,_,_,rfl,i,c,n1,rfl,q⟩,λq=>⟨_,e,x,C,dx,_,_,rfl,i,c,n2,by
  have z:(("places" : Str) == "rows")=false:=by decide +kernel
  simp[List.lookup,z],q⟩⟩
def Dh{K:ax}{P:b9}{D:Ends}(S:dO K P w H x dx rp pp rs)(hr:iP H r b)(hz:rs.length<bI)(h:∀ H' i9 k,dO K P w H' x dx rp pp i9->(r∈rs/\i9=rs\/r∉rs/\i9=rs++[r])->i9[k]? = some r->(∀ c,c≠rp->c≠pp->H' c=H c)->D.rt (.int (k:Nat)) H') :
  Zx K P w D [some (.ref x),some (.ref b)] H:=by
 -- the end: self.places[row]
 have fin:∀ H' i9 k,dO K P w H' x dx rp pp i9->(r∈rs/\i9=rs\/r∉rs/\i9=rs++[r])->i9[k]? = some r->(∀ c,c≠rp->c≠pp->H' c=H c)->iP H' r b->Tr (zy P w (D3 K (i5 0) "places") (i5 1)) D [some (.ref x),some (.ref b)] H':=λH' i9 k S' e1 e2 e3 hr' =>
by
  unfold Tr zy;exact(S'.fld rfl).2 ⟨_,rfl,pp,b,_,r,_,rfl,rfl,S'.places,hr',uF S'.nd e2,h H' i9 k S' e1 e2 e3⟩
 refine⟨_,rfl,(S.fld rfl).2 ⟨pp,b,_,r,rfl,rfl,S.places,hr,_,rfl,?_⟩⟩;by_cases m:r∈rs
 ·obtain⟨k,hk⟩:=AR.mp m;rw[uF S.nd hk];exact fin H rs k S (.inl ⟨m,rfl⟩) hk (λ_ _ _=>rfl) hr
 ·rw[tZ m];obtain⟨bs,e,pr⟩:=S.rows;have bl:bs.length=rs.length:=(Paired.length pr).symm;refine(S.fld rfl).1 ⟨.ref rp,rs.length,rfl,.inl ⟨_,.inl (.inl e),by rw[dr,bl]⟩,(S.fld rfl).2 ⟨_,rfl,pp,b,_,r,rfl,rfl,S.places,hr,tZ m,?_,λH4 d4 k4 x4=>?_⟩⟩
  ·unfold EL;rw[dr,List.length_zipIdx];exact hz
  obtain⟨C,hi,c,n1,n2⟩:=S.ins;obtain⟨xs0,_,ep,_,_⟩:=S.places;have ne1:rp≠pp:=λz=>by rw[z,ep] at e;cases e
  have ne2:x≠pp:=λz=>by rw[z,ep] at hi;cases hi
  have ne3:x≠rp:=λz=>by rw[z,e] at hi;cases hi
  have ne4:dx≠pp:=λz=>by have:=S.own;rw[z,ep] at this;cases this
  have ne5:dx≠rp:=λz=>by have:=S.own;rw[z,e] at this;cases this
  have e4:H4 rp=some (.lst (bs.map .ref)):=by rw[k4 rp ne1];exact e
  have ic:H4 x=some (.ins C dx [("rows",.ref rp),("places",.ref pp)]):=by rw[k4 x ne2];exact hi
  have up:∀ {q:List RI} {d:ag},iP H q d->iP (upd H4 rp (.lst (bs.map .ref++[.ref b]))) q d:=λ{q d} z=>by
   obtain⟨φ,x4⟩:=x4;have z4:iP H4 q d:=by
    have:H4=upd H pp (.ext φ):=funext λc=>by
     by_cases hc:c=pp
     ·rw[hc,x4,eM]
     ·rw[k4 c hc,dn hc]
    rw[this];exact z.R6 ep (λ_ z=>nomatch z)
   exact z4.R6 e4 (λ_ z=>nomatch z)
  refine⟨_,rfl,x,C,dx,_,_,rfl,ic,c,n1,rfl,?_,_,rfl,rp,bs.map .ref,.ref b,rfl,rfl,e4,by rw[dr,bl];exact hz,?_⟩
  ·exact .inl ⟨rfl,_,.inl (.inl e4)⟩
  refine fin _ (rs++[r]) rs.length ⟨⟨C,by rw[dn ne3];exact ic,c,n1,n2⟩,by rw[dn ne5,k4 dx ne4];exact S.own,⟨bs++[b],by rw[eM,kF];rfl,?_⟩,?_,?_⟩ (.inr ⟨m,rfl⟩) (by simp) (λc h1 h2=>by rw[dn h1,k4 c h2]) (up hr)
  ·have go:∀ {l:List (List RI)} {ds:List ag},Paired (iP H) l ds->Paired (iP (upd H4 rp (.lst (bs.map .ref++[.ref b])))) (l++[r]) (ds++[b]):=by
    intro l ds z
    induction z with
    |nil=>exact .cons (up hr) .nil
    |cons y _ ih=>exact .cons (up y) ih
   exact go pr
  ·rw[z9];obtain⟨xs,a1,a2,a3,a4⟩:=d4;refine⟨xs,a1,by rw[dn (Ne.symm ne1)];exact a2,a3,Paired.imp' (λq y z=>⟨z.1,z.2.1.R6 e4 (λ_ z=>nomatch z),z.2.2⟩) a4⟩
  ·rw[iN];exact⟨S.nd,by simp,λy hy z hz q=>by rw[kD.mp hz] at q;exact m (q ▸ hy)⟩
section
variable {X:Cx}{e:Expr}{te:TE}{p pos:Pos}
def En (hg:Gl X "len") (hm:X.mg "len" = none) (he:PE X e te) (hs:autoParam (bE [e] X.env=(false,b4 e X.env) :: bE [] X.env) bv) (i7:autoParam ((gy pos (bE [] X.env)).any (·.1)=false) bv):PE X (.Call (.Name "len" p) [e] [] pos) (Jk X.K te) :=
 Rj TB hg hm a_ (kf he k7 hs) (by decide) (by decide) hs i7
def Gu (hu:X.A.units+14<gV) (hg:Gl X "len") (hm:X.mg "len" = none)(n0:∀ p,PE X (.Name "self" p) (i5 0)) (n1:∀ p,PE X (.Name "row" p) (i5 1))(b0:∀ p f,vj (.Name "self" p) f X.env (b4 (.Name "self" p) X.env)=b4 (.Name "self" p) X.env)(c1:autoParam (E3 .NotIn (.Attribute (.Name "self" p2) "places" p3)=false) bv) (sl:∀ p,T4 (.Name "row" p)) (s1:autoParam (nI (.Call (.Name "len" q1) [.Attribute (.Name "self" q2) "rows" q3] [] q4) (some (.Subscript (.Attribute (.Name "self" p5) "places" p6) (.Name "row" p7) p8)) p9.line X.env=pure false) bv) (t1:autoParam (bE [.Attribute (.Name "self" q2) "rows" q3] X.env=(false,b4 (.Attribute (.Name "self" q2) "rows" q3) X.env) :: bE [] X.env) bv) (t2:autoParam ((gy q4 (bE [] X.env)).any (·.1)=false) bv) (s2:autoParam (nI (.Call (.Attribute (.Attribute (.Name "self" q5) "rows" q6) "append" q7) [.Name "row" q8] [] q9) none r1.line X.env=pure false) bv) (qc:autoParam (vj (.Attribute (.Name "self" q5) "rows" q6) "append" X.env (b4 (.Attribute (.Name "self" q5) "rows" q6) X.env)=b4 (.Attribute (.Name "self" q5) "rows" q6) X.env) bv) (vF:autoParam (((gy q9 (bE [.Name "row" q8] X.env)).all (λx=>!x.1) && (zk q9 (zi [] X.env)).all (λx=>x.1.isSome)
   && decide ([Expr.Name "row" q8].length+([]:List qV).length+(if ([]:List qV).isEmpty then 0 else 1)<30))=true) bv)
  (hline:autoParam ((q7.endLine == q9.line)=true) bv) (oS:autoParam (bE [.Name "row" q8] X.env=(false,b4 (.Name "row" q8) X.env) :: bE [] X.env) bv) (vS:autoParam ((gy q9 (bE [] X.env)).any (·.1)=false) bv) :
  lP X [.If (.Compare (.Name "row" p1) [.NotIn] [.Attribute (.Name "self" p2) "places" p3] p4) [.Assign [.Subscript (.Attribute (.Name "self" p5) "places" p6) (.Name "row" p7) p8] (.Call (.Name "len" q1) [.Attribute (.Name "self" q2) "rows" q3] [] q4) p9,
     .Expr (.Call (.Attribute (.Attribute (.Name "self" q5) "rows" q6) "append" q7) [.Name "row" q8] [] q9) r1] [] r2,
   .Return (some (.Subscript (.Attribute (.Name "self" r3) "places" r4) (.Name "row" r5) r6)) r2] (Zx X.K X.prog X.w) :=
 Tp (ae' (ed' (yK hu (n1 _) (MV (n0 _) (b0 _ _))) c1) (Tp (GQ hu (MV (n0 _) (b0 _ _)) (n1 _) (En hg hm (MV (n0 _) (b0 _ _)) t1 t2) s1) (Tq (IG (Jn PySem.F.plainAttrs_list PySem.F.slot_list_append PySem.F.type_list_append Rp (MV (n0 _) (b0 _ _)) (kf (n1 _) k7 oS) qc vF hline oS vS) s2)))
   VH)
  (Tq (MG (Fe hu (MV (n0 _) (b0 _ _)) (n1 _) (sl _))))
end
def vG (K:ax) (P:b9) (w:cy):TS:=Rb (VY K (i5 0) (aB' MX) "rows") (VY K (i5 0) (Iu P w) "places")
def Bc {K:ax} {P:b9} {D:Ends} (hi:H x=some (.ins C dx [])) (ho:H dx=some (.own x)) (c:tP K C) (n1:tS K C "rows") (n2:tS K C "places")(h:∀ H' rp pp,dO K P w H' x dx rp pp []->H' x=some (.ins C dx [("rows",.ref rp),("places",.ref pp)])->H rp=none->H pp=none->(∀ a,a≠x->a≠rp->a≠pp->H' a=H a)->D.nx [some (.ref x)] H'):vG K P w D [some (.ref x)] H:=by
 refine⟨fI _,λrp hr=>⟨_,rfl,x,C,dx,[],rfl,?_,c,n1,by decide,?_⟩⟩
 ·rw[dn (λz=>by rw[z,hr] at hi;cases hi)];exact hi
 have x1:x≠rp:=λz=>by rw[z,hr] at hi;cases hi
 have d1:dx≠rp:=λz=>by rw[z,hr] at ho;cases ho
 have dx1:dx≠x:=λz=>by rw[z,hi] at ho;cases ho
 intro pp hp rd;have p1:pp≠x:=λz=>by rw[z,eM] at hp;cases hp
 rw[dn p1] at hp;have p2:pp≠rp:=λz=>by rw[z,eM] at hp;cases hp
 rw[dn p2] at hp;have d2:dx≠pp:=λz=>by rw[z,hp] at ho;cases ho
 refine⟨_,rfl,x,C,dx,[("rows",.ref rp)],rfl,by rw[dn (Ne.symm p1),eM];rfl,c,n2,(by show 1<1000;decide),?_⟩;have z:gI "places" (.ref pp) [("rows",.ref rp)]=[(("rows" : Str),V.ref rp),("places",.ref pp)]:=by rfl
 refine h _ rp pp ⟨⟨C,eM,c,n1,n2⟩,by rw[dn dx1,dn d2,dn dx1,dn d1];exact ho,⟨[],?_,.nil⟩,?_,mz⟩ eM hr hp λa h1 h2 h3=>by rw[dn h1,dn h3,dn h1,dn h2]
 ·rw[dn (Ne.symm x1),dn (Ne.symm p2),dn (Ne.symm x1),eM];rfl
 ·obtain⟨xs,a1,a2,a3,a4⟩:=rd;refine⟨xs,a1,by rw[dn p1];exact a2,a3,?_⟩;cases a4;exact .nil
section
variable {X:Cx}
def zq (n0:∀ p,PE X (.Name "self" p) (i5 0))(s1:autoParam (nI (.List [] p3) (some (.Attribute (.Name "self" p1) "rows" p2)) p4.line X.env=pure false) bv) (s2:autoParam (nI (.Dict [] [] q3) (some (.Attribute (.Name "self" q1) "places" q2)) q4.line X.env=pure false) bv) :
  lP X [.Assign [.Attribute (.Name "self" p1) "rows" p2] (.List [] p3) p4,.Assign [.Attribute (.Name "self" q1) "places" q2] (.Dict [] [] q3) q4] (vG X.K X.prog X.w) :=
 Tp (az' (n0 _) (VZ k7) s1) (Tq (az' (n0 _) Cw s2))
end
def rQ(K:ax)(P:b9)(w:cy):Sp:=λvs H Q E=>∃ x dx rp pp b rs r,vs=[.ref x,.ref b]/\dO K P w H x dx rp pp rs/\iP H r b/\rs.length<bI /\
 ∀ H' i9 k,dO K P w H' x dx rp pp i9->(r∈rs/\i9=rs\/r∉rs/\i9=rs++[r])->i9[k]? = some r->(∀ c,c≠rp->c≠pp->H' c=H c)->Q (.int (k:Nat)) H'
def nP (K:ax) (P:b9) (w:cy):Sp:=λvs H Q E=>∃ x dx C,vs=[.ref x]/\H x=some (.ins C dx [])/\H dx=some (.own x)/\tP K C/\tS K C "rows"/\tS K C "places" /\
 ∀ H' rp pp,dO K P w H' x dx rp pp []->H' x=some (.ins C dx [("rows",.ref rp),("places",.ref pp)])->H rp=none->H pp=none->(∀ a,a≠x->a≠rp->a≠pp->H' a=H a)->Q .non H'
section
variable {P:b9}{w:cy}{K:ax}{mg:Str->Option ah}{base:c9}{x qual:Str}{st:g9}{f:ag}{fd:nK}
def Cy (F:nV K x qual st f fd) (S:xi ["self", "row"] ["self", "row"] (d5 st))(vx:∀ (cK:ah) (A:e7) (outer:List PySem.Env) (s:aC) (H:Hp) (E:XK),gp 0 (A.deeper (ki qual (d5 st) s.heap.objs.size f cK))->lP (lT kr P w K mg base ["self", "row"] qual (d5 st) f cK A outer s H E).xh (kS st) (Zx K P w)) :
  ja P w K mg base kr 1 f fd ["self", "row"] (rQ K P w) :=
 F.ok S (λvs H Q E ⟨_,_,_,_,_,_,_,e,_⟩=>by rw[e];rfl) λcK A outer s H vs Q E hr dP=>by obtain⟨x,dx,rp,pp,b,rs,r,e,sh,hb,hz,h⟩:=dP;subst e;exact⟨_,vx cK A outer s H E hr,Dh sh hb hz h⟩
def Bb (F:nV K x qual st f fd) (S:xi ["self"] ["self"] (d5 st))(vx:∀ (cK:ah) (A:e7) (outer:List PySem.Env) (s:aC) (H:Hp) (E:XK),gp 0 (A.deeper (ki qual (d5 st) s.heap.objs.size f cK))->lP (lT kr P w K mg base ["self"] qual (d5 st) f cK A outer s H E).xh (kS st) (vG K P w)) :
  ja P w K mg base kr 1 f fd ["self"] (nP K P w) :=
 F.ok S (λvs H Q E ⟨_,_,_,e,_⟩=>by rw[e];rfl) λcK A outer s H vs Q E hr dP=>by obtain⟨x,dx,C,e,hi,ho,c,n1,n2,h⟩:=dP;subst e;exact⟨_,vx cK A outer s H E hr,Bc hi ho c n1 n2 h⟩
end
def A8(Hs:Hp)(As:List ag)(H:Hp):Hp:=λb=>if b∈As then H b else Hs b
def gZ(h:b∈As):A8 Hs As H b=H b:=by unfold A8;rw[if_pos h]
def j_(h:b∉As):A8 Hs As H b=Hs b:=by unfold A8;rw[if_neg h]
def tE(n:NX Hs aw)(k:∀ b∈As,H' b=H b):NX (A8 Hs As H) (A8 aw As H'):=λa o d e=>by
 by_cases h:a∈As
 ·rw[gZ h] at e ⊢;rw[k a h];exact e
 ·rw[j_ h] at e ⊢;exact n a o d e
def oY(w:Wf Hs H):bq (A8 Hs As H) H:=λa o e=>by
 by_cases h:a∈As
 ·rw[gZ h] at e;exact e
 ·rw[j_ h] at e;exact w.sub a o e
section
variable {K:ax}{P:b9}{w:cy}{G G':Hp}{x dx rp pp:ag}{rs:List (List RI)}
def iP.mono(n:∀ c ys,G c=some (.tup ys)->G' c=some (.tup ys))(h:iP G r b):iP G' r b:=by
 obtain⟨o1,ys,e,q⟩:=h;refine⟨o1,ys,n _ _ e,?_⟩;clear e o1
 induction q with
 |nil=>exact .nil
 |@cons i y is ys hi _ ih =>
  refine .cons ?_ ih
  match i,hi with
  |.inl k,hi=>exact hi
  |.inr ks,hi =>obtain⟨c,rfl,z⟩:=hi;exact⟨c,rfl,n _ _ z⟩
def dO.moves(h:dO K P w G x dx rp pp rs)(t:∀ c ys,G c=some (.tup ys)->G' c=some (.tup ys))(k:∀ c∈[x,dx,rp,pp],G' c=G c):dO K P w G' x dx rp pp rs:=by obtain⟨⟨C,i1,i2⟩,ow,⟨bs,b1,b2⟩,⟨xs,a1,a2,a3,a4⟩,nd⟩:=h;refine⟨⟨C,(k x (by simp)).trans i1,i2⟩,(k dx (by simp)).trans ow,⟨bs,(k rp (by simp)).trans b1,Paired.imp' (λ_ _ z=>z.mono t) b2⟩,⟨xs,a1,(k pp (by simp)).trans a2,a3,Paired.imp' (λ_ _ z=>⟨z.1,z.2.1.mono t,z.2.2⟩) a4⟩,nd⟩
def dO.at(h:dO K P w G x dx rp pp rs):∀ c∈[x,dx,rp,pp],∃ o,G c=some o/\cb' o/\∀ vs,o≠.tup vs:=by
 obtain⟨⟨C,i1,i2⟩,ow,⟨bs,b1,b2⟩,⟨xs,a1,a2,a3,a4⟩,nd⟩:=h;intro c hc;simp only[eJ,BM,or_false] at hc;rcases hc with rfl|rfl|rfl|rfl
 ·exact⟨_,i1,trivial,λ_ z=>nomatch z⟩
 ·exact⟨_,ow,trivial,λ_ z=>nomatch z⟩
 ·exact⟨_,b1,trivial,λ_ z=>nomatch z⟩
 ·exact⟨_,a2,trivial,λ_ z=>nomatch z⟩
def dO.near(n:NX G G')(h:dO K P w G x dx rp pp rs):dO K P w G' x dx rp pp rs :=
 h.moves (λc ys e=>n c _ trivial e) λc hc=>by obtain⟨o,e,d,_⟩:=h.at c hc;rw[e];exact n c o d e
end
def LG:RI->Bool
 |.inl k=>tf k
 |.inr ks=>decide (ks.length<=bI) && ks.all tf
def R7(r:List RI):Bool:=decide (r.length<=bI) && r.all LG
def qB(K:ax)(P:b9)(w:cy)(C:ag)(o:Bool)(rs:List (List RI)):N0 where
 is:=λHs H x As=>(∀ r∈rs,R7 r=true)/\∃ dx rp pp,dO K P w (A8 Hs As H) x dx rp pp rs/\A8 Hs As H x=some (.ins C dx [("rows",.ref rp),("places",.ref pp)])/\As=bif o then [x,dx,rp,pp] else []
 fN:=λn k ⟨sm,dx,rp,pp,s,i,e⟩=>⟨sm,dx,rp,pp,s.near (tE n k),tE n k _ _ trivial i,e⟩
 own:=λ⟨sm,dx,rp,pp,s,i,e⟩ b hb=>by
  cases o with
  |false=>rw[e] at hb;exact nomatch hb
  |true =>obtain⟨u,h1,_,h2⟩:=s.at b (by rw[e] at hb;exact hb);rw[gZ hb] at h1;exact⟨u,h1,h2⟩
abbrev CM:=Bool->List (List RI)->N0
section
variable {K:ax}{Hs H:Hp}
def CW(h:iP Hs r b)(sm:R7 r=true):Rep K Hs (oB r) (.ref b):=by
 obtain⟨ok,ys,e,p⟩:=h;simp only[R7,kM,decide_eq_true_eq,BO] at sm;refine .tup (by rw[<- Paired.length p];exact sm.1) e ?_;have sm2:=sm.2;clear e sm ok
 induction p with
 |nil=>exact .nil
 |@cons i y is ys hi _ ih =>
  refine .cons ?_ (ih λz hz=>sm2 z (eA _ hz));have hm:=sm2 i fo
  match i,hi with
  |.inl (.inl k),hi=>rw[show y=.int k from hi];exact .int k
  |.inl (.inr k),hi=>rw[show y=.str k from hi];exact .str (by simpa[LG,tf] using hm)
  |.inr ks,hi =>obtain⟨c,rfl,z⟩:=hi;simp only[LG,kM,decide_eq_true_eq] at hm;exact .tup (by rw[dr];exact hm.1) z (iB (BO.mp hm.2))
def zu{ks:List Key}{vs:List V}(h:bP K Hs (ks.map mS) vs):vs=ks.map kV/\ks.all tf=true:=by
 induction ks generalizing vs with
 |nil=>rw[bP.n0 h];exact⟨rfl,rfl⟩
 |cons k ks ih =>
  obtain⟨u,us,rfl,r,t⟩:=bP.c h;obtain⟨e,a⟩:=ih t;rw[e]
  cases k with
  |inl i=>cases r;exact⟨rfl,by simpa[tf] using a⟩
  |inr y=>cases r with|str z=>exact⟨rfl,by simp only[DM,tf,kM,decide_eq_true_eq];exact⟨z,a⟩⟩
def DP(h:Rep K Hs (oB r) v)(ok:eB 12 (oB r)=true):∃ b,v=.ref b/\iP Hs r b/\R7 r=true:=by
 cases h with
 |@tup a vs _ z e rs =>
  have key:Paired (zG Hs) r vs/\∀ i∈r,LG i=true:=by
   clear e z ok
   induction r generalizing vs with
   |nil=>rw[bP.n0 rs];exact⟨.nil,λi h=>nomatch h⟩
   |cons i r ih =>
    obtain⟨u,us,rfl,h1,h2⟩:=bP.c rs;obtain⟨p,q⟩:=ih h2;have one:zG Hs i u/\LG i=true:=by
     match i,h1 with
     |.inl (.inl k),h1=>cases h1;exact⟨rfl,rfl⟩
     |.inl (.inr k),h1=>cases h1 with|str z=>exact⟨rfl,by simpa[LG,tf] using z⟩
     |.inr ks,h1 =>
      cases h1 with
      |tup z e i9 =>obtain⟨e2,a⟩:=zu i9;refine⟨⟨_,rfl,by rw[e,e2]⟩,?_⟩;simp only[LG,kM,decide_eq_true_eq];exact⟨by rw[e2,dr] at z;exact z,a⟩
    exact⟨.cons one.1 p,λj hj=>(eJ.mp hj).elim (λz=>z ▸ one.2) (q j)⟩
  refine⟨a,rfl,⟨ok,vs,e,key.1⟩,?_⟩;simp only[R7,kM,decide_eq_true_eq,BO];exact⟨by rw[Paired.length key.1];exact z,key.2⟩
def SR.Zy(i:Nat)(s:SR K Hs H ρ σ tot):ρ[i]? = some (some (.ob a p))->tot.Nodup ->
  ∃ As,σ[i]? = some (some (.ref a))/\p.is Hs H a As/\As.Sublist tot/\∀ aE H2 q,bq Hs aE->q.is aE H2 a As->(∀ b∈tot,b∉As->H2 b=H b)->SR K aE H2 (ρ.set i (some (.ob a q))) σ tot:=by
 induction s generalizing i with
 |nil=>intro e;simp at e
 |non s ih =>
  intro e n
  cases i with
  |zero=>simp at e
  |succ i =>obtain⟨As,e1,r,sb,g⟩:=ih i (by simpa using e) n;exact⟨As,by simpa using e1,r,sb,λaE H2 q s2 h2 k=>.non (g aE H2 q s2 h2 k)⟩
 |sh r0 s ih =>
  intro e n
  cases i with
  |zero=>simp at e
  |succ i =>obtain⟨As,e1,r,sb,g⟩:=ih i (by simpa using e) n;exact⟨As,by simpa using e1,r,sb,λaE H2 q s2 h2 k=>.sh (r0.same s2) (g aE H2 q s2 h2 k)⟩
 |xc s ih =>
  intro e n
  cases i with
  |zero=>simp at e
  |succ i =>obtain⟨As,e1,r,sb,g⟩:=ih i (by simpa using e) n;exact⟨As,by simpa using e1,r,sb,λaE H2 q s2 h2 k=>.xc (g aE H2 q s2 h2 k)⟩
 |ow ne r0 s ih =>
  intro e n;obtain⟨n1,n2,n3⟩:=iN.mp n
  cases i with
  |zero=>simp at e
  |succ i =>obtain⟨As,e1,r,sb,g⟩:=ih i (by simpa using e) n2;exact⟨As,by simpa using e1,r,sb.trans (mn _ _),λaE H2 q s2 h2 k=>.ow ne (r0.fN s2 λb hb=>k b (jI _ hb) λz=>n3 b hb b (sb.subset z) rfl) (g aE H2 q s2 h2 λb hb=>k b (eP _ hb))⟩
 |lk ne r0 s ih =>
  intro e n;obtain⟨n1,n2,n3⟩:=iN.mp n
  cases i with
  |zero=>simp at e
  |succ i =>obtain⟨As,e1,r,sb,g⟩:=ih i (by simpa using e) n2;exact⟨As,by simpa using e1,r,sb.trans (mn _ _),λaE H2 q s2 h2 k=>.lk ne (r0.fN s2 λb hb=>k b (jI _ hb) λz=>n3 b hb b (sb.subset z) rfl) (g aE H2 q s2 h2 λb hb=>k b (eP _ hb))⟩
 |@ob ρ σ t B a0 p0 r0 s ih =>
  intro e n;obtain⟨n1,n2,n3⟩:=iN.mp n
  cases i with
  |zero =>obtain⟨rfl,rfl⟩:=e;exact⟨B,rfl,r0,L4 _ _,λaE H2 q s2 h2 k=>.ob h2 (s.fN s2 λb hb=>k b (eP _ hb) λz=>n3 b z b hb rfl)⟩
  |succ i =>obtain⟨As,e1,r,sb,g⟩:=ih i (by simpa using e) n2;exact⟨As,by simpa using e1,r,sb.trans (mn _ _),λaE H2 q s2 h2 k=>.ob (p0.fN (iG s2) (λb hb=>k b (jI _ hb) λz=>n3 b hb b (sb.subset z) rfl) r0) (g aE H2 q s2 h2 λb hb=>k b (eP _ hb))⟩
def SR.cH'(r:p.is Hs H a As)(nd:As.Nodup)(i:Nat)(s:SR K Hs H ρ σ tot):tot.Nodup->(∀ b∈As,b∉tot) ->
  ∃ cf,cf.Nodup/\(∀ b∈cf,b∈tot\/b∈As)/\SR K Hs H (ρ.set i (some (.ob a p))) (σ.set i (some (.ref a))) cf:=by
 induction s generalizing i with
 |nil=>exact λn _=>⟨[],mz,(λa h=>CC h),.nil⟩
 |non s ih =>
  intro n dj
  cases i with
  |zero=>exact⟨_,d7 nd n dj,λa h=>(eK.mp h).symm,.ob r s⟩
  |succ i=>obtain⟨t,a,b,c⟩:=ih i n dj;exact⟨t,a,b,.non c⟩
 |sh q s ih =>
  intro n dj
  cases i with
  |zero=>exact⟨_,d7 nd n dj,λa h=>(eK.mp h).symm,.ob r s⟩
  |succ i=>obtain⟨t,a,b,c⟩:=ih i n dj;exact⟨t,a,b,.sh q c⟩
 |xc s ih =>
  intro n dj
  cases i with
  |zero=>exact⟨_,d7 nd n dj,λa h=>(eK.mp h).symm,.ob r s⟩
  |succ i=>obtain⟨t,a,b,c⟩:=ih i n dj;exact⟨t,a,b,.xc c⟩
 |ow ne' q s ih =>
  intro n dj;obtain⟨n1,n2,n3⟩:=iN.mp n;have tm:=λa ha m=>dj a ha (eP _ m)
  cases i with
  |zero=>exact⟨_,d7 nd n2 tm,λa h=>(eK.mp h).symm.imp (λz=>eP _ z) λz=>z,.ob r s⟩
  |succ i=>obtain⟨t,a,b,c⟩:=ih i n2 tm;exact⟨_,(aQ n dj a b).1,(aQ n dj a b).2,.ow ne' q c⟩
 |lk ne' q s ih =>
  intro n dj;obtain⟨n1,n2,n3⟩:=iN.mp n;have tm:=λa ha m=>dj a ha (eP _ m)
  cases i with
  |zero=>exact⟨_,d7 nd n2 tm,λa h=>(eK.mp h).symm.imp (λz=>eP _ z) λz=>z,.ob r s⟩
  |succ i=>obtain⟨t,a,b,c⟩:=ih i n2 tm;exact⟨_,(aQ n dj a b).1,(aQ n dj a b).2,.lk ne' q c⟩
 |ob q s ih =>
  intro n dj;obtain⟨n1,n2,n3⟩:=iN.mp n;have tm:=λa ha m=>dj a ha (eP _ m)
  cases i with
  |zero=>exact⟨_,d7 nd n2 tm,λa h=>(eK.mp h).symm.imp (λz=>eP _ z) λz=>z,.ob r s⟩
  |succ i=>obtain⟨t,a,b,c⟩:=ih i n2 tm;exact⟨_,(aQ n dj a b).1,(aQ n dj a b).2,.ob q c⟩
end
def m_(K:ax)(P:b9)(w:cy)(C:ag)(uS:List (List RI)->fw):Sp:=λvs H Qv _=>∃ x rs ds UL Qd,vs=.ref x :: UL/\(qB K P w C false rs).is H H x []/\bP K H ds UL/\uS rs ds Qd /\
 ∀ v H' aw m d As,bq H aw->Wf aw H'->RM K aw H' m d v As->As.Nodup->(∀ a∈As,aw a=none)->Qd m d->Qv v H'
def iu(n:Nat)(a:ag)(p:N0)(ds:List D):Env:=some (.ob a p) :: (ds.map (λd=>some (.sh d))++List.replicate (n-(ds.length+1)) none)
section
variable {K:ax}{P:b9}{w:cy}{C:ag}{uS:List (List RI)->fw}{t:WS}
def uR(h:m_ K P w C uS vs H Qv E)(hp:∀ a rs ds Q,uS rs ds Q->t { nx:=λ_=>Q .sh .non,rt:=Q } (iu N.length a (qB K P w C false rs) ds)) :
  yk K L0 t { nx:=λ_ H'=>Qv .non H',rt:=Qv } (start N vs) H:=by
 obtain⟨x,rs,ds,UL,Qd,rfl,sh,re,hs,fin⟩:=h;have hl:=re.length;refine⟨H,iu N.length x (qB K P w C false rs) ds,[],{ nx:=λ_=>Qd .sh .non,rt:=Qd },⟨?_,⟨bq.refl _,λ_ _ e=>e⟩,mz,λa h=>nomatch h⟩,hp x rs ds Qd hs,?_,?_,?_,?_,λ_ _ _ _=>trivial⟩
 ·unfold iu start;rw[hl];exact .ob sh (SR.start re)
 ·exact λbX H' aw bt cf s sr q=>fin .non H' aw .sh .non [] s sr.wf ⟨rfl,.non⟩ mz (λa h=>nomatch h) q
 ·exact λbX H' aw bt cf s sr q=>q.elim
 ·exact λbX H' aw bt cf s sr q=>q.elim
 ·exact λv H' aw m d As s w r nd own q=>fin v H' aw m d As s w r nd own q
def Zz.ok{st:g9}{N ps:List Str}(F:nV K x qual st f fd)(S:xi N ps (d5 st))(len:∀ rs ds Q,uS rs ds Q->ds.length+1=ps.length)(vx:∀ (cK:ah) (A:e7) (outer:List PySem.Env) (s:aC) (H:Hp) (E:XK),gp k (A.deeper (ki qual (d5 st) s.heap.objs.size f cK))->qo (lT kr P w K mg base N qual (d5 st) f cK A outer s H E).xh K L0 (kS st) t)(hp:∀ a rs ds Q,uS rs ds Q->t { nx:=λ_=>Q .sh .non,rt:=Q } (iu N.length a (qB K P w C false rs) ds)):ja P w K mg base kr (k+1) f fd ps (m_ K P w C uS) :=
 F.ok S (λvs H Q E ⟨x,rs,ds,UL,Qd,e,_,re,hs,_⟩=>by rw[e,kB,<- re.length];exact len rs ds Qd hs) λcK A outer s H vs Q E hr hs=>⟨_,vx cK A outer s H E hr,uR hs hp⟩
end
def wZ(SP:CM)(i:Nat)(uS:List (List RI)->fw)(t:WA):WE:=λρ Q=>∃ a o rs,ρ[i]? = some (some (.ob a (SP o rs)))/\t ρ λps=>uS rs (ps.map (·.2)) λm d=>b6 (m,d) (f:=λp=>Q (y1 p.1 p.2) p.2) ⟨⟩
def vW(SP:CM)(i:Nat)(t:WE):WE:=λρ Q=>∃ a o rs,ρ[i]? = some (some (.ob a (SP o rs)))/\t ρ λ_ y=>∃ (k:Nat) (r:List RI),y=.int k/\rs[k]? = some r/\Q .sh (oB r)
def Hq(SP:CM)(i:Nat):WS:=λE ρ=>∀ a,E.nx (ρ.set i (some (.ob a (SP true []))))
def GD{α β:Type}{R:α->β->Prop}{l:List α}{m:List β}(p:Paired R l m){k:Nat}{x:α}(h:l[k]? = some x):∃ y,m[k]? = some y/\R x y:=by
 induction p generalizing k with
 |nil=>simp at h
 |cons a _ ih =>
  cases k with
  |zero=>simp at h;subst h;exact⟨_,rfl,a⟩
  |succ k=>exact ih (by simpa using h)
section
variable {X:Cx}{K:ax}{L:Str->Hp->Prop}{C:ag}{e0 e:Expr}{es:List Expr}{i:Nat}{t:WA}{te:WE}{m:Str}{apos pos p q:Pos}{f:ag}{fd:nK}{ps:List Str}{k:Nat}{uS:List (List RI)->fw}
def wK{P:b9}(wf:Wf Hs H)(h:(qB K P w C o rs).is Hs H a As):(qB K P w C false rs).is H H a []:=by
 obtain⟨sm,dx,rp,pp,s,i,e⟩:=h;have n:NX (A8 Hs As H) (A8 H [] H):=λb u _ z=>by exact oY wf b u z
 exact⟨sm,dx,rp,pp,s.near n,n _ _ trivial i,rfl⟩
def xH(h0:PE X e0 (i5 i))(c:tP X.K C)(hm:Meth X.K C m f)(F:ja X.prog X.w X.K X.mg X.base kr k f fd ps (m_ K X.prog X.w C uS))(hr:gp k X.A)(hb:Binds X.K fd ps [])(ha:QA X K (e :: es) t)(hK:autoParam (X.K=K) bv) (hn:(m == ("rows" : Str))=false/\(m == ("places" : Str))=false:=by decide +kernel) (rq:autoParam (bE (e :: es) X.env=(false,b4 e X.env) :: bE es X.env) bv) (i7:autoParam ((gy pos (bE es X.env)).any (·.1)=false) bv) (ht:autoParam (b4 (.Call (.Attribute e0 m apos) (e :: es) [] pos) X.env=(do
   let ov ← eval e0 X.env
   standAt apos.atName
   let (f,first) ← holding [ov] (getMethod ov m pl)
   callWith pos f first (gy pos (bE (e :: es) X.env)) (zk pos (zi [] X.env)))) bv):QE X K (.Call (.Attribute e0 m apos) (e :: es) [] pos) (wZ (qB K X.prog X.w C) i uS t):=by
 subst hK;refine PE.imp (aE' h0 c hm F hr hb (.nil) T9 ha rq i7 ht) λσ H Qv hx=>ic hx λHs ρ tot Q sr h f=>?_;obtain⟨a,o,rs,e1,h⟩:=h;obtain⟨v,e2,rfl,As,is,_⟩:=sr.sr.get e1;have OZ:=wK sr.wf is;obtain⟨_,dx,rp,pp,s1,i1,_⟩:=id OZ;refine⟨_,e2,a,dx,_,rfl,i1,?_,Hs,ρ,tot,_,sr,h,λvs H1 aS ps As1 g1 r1 f1 q1=>?_⟩
 ·simp[List.lookup,hn.1,hn.2]
 ·refine⟨a,rs,_,vs,_,by rw[kE],(qB X.K X.prog X.w C false rs).fN (iG g1.all) (λb hb=>nomatch hb) OZ,r1.reps g1.wf,q1,λv H' aw m d As s w r nd own q=>?_⟩;obtain⟨g7,r',fr⟩:=lE g1.wf s w r nd own;exact Fin.after f g1 v H' _ (y1 m d) d g7 (dw g1.wf s w) r' fr q
def vP (h0:PE X e0 (i5 i)) (hb:QE X K e te) (hK:autoParam (X.K=K) bv) (hba:autoParam (vj e0 "rows" X.env (b4 e0 X.env)=b4 e0 X.env) bv) (hs:TR e:=by exact λ_ _=>rfl) (hu:X.A.units+64<gV:=by assumption) :
  QE X K (.Subscript (.Attribute e0 "rows" p) e q) (vW (qB K X.prog X.w C) i te):=by
 subst hK;refine PE.imp (V8 (ch' hu rfl) (MV h0 hba) hb hs) λσ H Qv hx=>ic hx λHs ρ tot Q sr h f=>?_;obtain⟨a,o,rs,e1,h⟩:=h;obtain⟨v,e2,rfl,As,is,_⟩:=sr.sr.get e1;have OZ:=wK sr.wf is;obtain⟨_,dx,rp,pp,s1,i1,_⟩:=id OZ;obtain⟨C',i2,c,n1,_⟩:=s1.ins;refine⟨_,e2,a,C',dx,_,.ref rp,rfl,i2,c,n1,rfl,Hs,ρ,tot,_,sr,h,λu H2 aE m y ip g2 r2 f2 q2=>?_⟩;obtain⟨k,r,rfl,hk,q⟩:=q2;have r2:=r2.rep g2.wf;cases r2;obtain⟨bs,b1,b2⟩:=s1.rows;obtain⟨b,hb,rb⟩:=GD b2 hk;refine .inl (.inl ⟨_,.ref b,.inl (.inl (g2.all _ _ b1)),Hf ?_ (by rw[mr,hb];rfl),(Fin.after f g2).sh g2.wf (CW (rb.mono λc ys z=>g2.wf.iF c ys (g2.all _ _ z)) (is.1 r (rg hk))) q⟩);have hl:k<bs.length:=(nh.mp hb).1;unfold xk;simp[hl]
def FZ (M:Mk X.K C kQ') (c:tP X.K C) (n1:tS X.K C "rows") (n2:tS X.K C "places") (F:ja X.prog X.w X.K X.mg X.base kr k kQ' fdi ["self"] (nP X.K X.prog X.w)) (hr:gp (k+1) X.A) (hm:X.mg "Sheet" = some (.ref C)) (hb:Binds X.K fdi ["self"] []) (hg:Gl X "Sheet" := by rfl) (hK:autoParam (X.K=K) bv) (hs:autoParam (nI (.Call (.Name "Sheet" p) [] [] q) (some (.Name y pos')) pos.line X.env=pure false) bv) (hf:X.fn y=true\/X.env.scope.names.lookup y=some .local:=by first|exact .inl rfl|exact .inr rfl|assumption) (hN:X.N.Nodup:=by assumption) (hi:autoParam (X.N[i]? = some y) bv) (hy:Loc X.env.scope y:=by first|exact .inl rfl|exact .inr rfl) :
  QS X K L (.Assign [.Name y pos'] (.Call (.Name "Sheet" p) [] [] q) pos) (Hq (qB K X.prog X.w C) i):=by
 subst hK;refine PS.imp (Ts hN hi hy (fR' M F hr hg hm hb .nil T9) hs hf) λD σ H hx=>cV hx λHs ρ tot E sr h k1 k2 k3 k4=>?_;intro x dx hx hd ne;refine⟨x,dx,C,rfl,eM,by rw[dn ne,eM],c,n1,n2,λH' rp pp S ny O0 Pl kp=>⟨rfl,?_⟩⟩;have px:pp≠x:=λz=>by rw[z,eM] at Pl;cases Pl
 have rx:rp≠x:=λz=>by rw[z,eM] at O0;cases O0
 rw[dn px] at Pl;rw[dn rx] at O0;have pd:pp≠dx:=λz=>by rw[z,eM] at Pl;cases Pl
 have rd:rp≠dx:=λz=>by rw[z,eM] at O0;cases O0
 rw[dn pd] at Pl;rw[dn rd] at O0;have fr:∀ b∈[x,dx,rp,pp],H b=none:=by intro b hb;simp only[eJ,BM,or_false] at hb;rcases hb with rfl|rfl|rfl|rfl<;>assumption
 have rp':rp≠pp:=λz=>by obtain⟨bs,b1,_⟩:=S.rows;obtain⟨xs,_,a2,_⟩:=S.places;rw[z,a2] at b1;cases b1
 have keep:∀ b,b∉[x,dx,rp,pp]->H' b=H b:=λb hb=>by simp only[eJ,BM,or_false,not_or] at hb;rw[kp b hb.1 hb.2.2.1 hb.2.2.2,dn hb.1,dn hb.2.1]
 have nt:∀ b o,H b=some o->b∉[x,dx,rp,pp]:=λb o z m=>by rw[fr b m] at z;cases z
 have wf:Wf Hs H':=⟨λb o z=>(keep b (nt b o (sr.wf.sub b o z))).trans (sr.wf.sub b o z),λb vs z=>by
  by_cases hb:b∈[x,dx,rp,pp]
  ·obtain⟨o,z2,_,n⟩:=S.at b hb;rw[z] at z2;cases z2;exact absurd rfl (n vs)
  ·rw[keep b hb] at z;exact sr.wf.iF b vs z⟩
 have nd:[x,dx,rp,pp].Nodup:=by simp[ne,Ne.symm ne,px,Ne.symm px,rx,Ne.symm rx,pd,Ne.symm pd,rd,Ne.symm rd,rp']
 have is:(qB X.K X.prog X.w C true []).is Hs H' x [x,dx,rp,pp]:=⟨(λr z=>nomatch z),dx,rp,pp,S.moves (λc ys z=>by
  by_cases hc:c∈[x,dx,rp,pp]
  ·rw[gZ hc];exact z
  ·rw[j_ hc];exact wf.iF c ys z) (λc hc=>gZ hc),by rw[gZ (by simp)];exact ny,rfl⟩
 obtain⟨cf,t1,t2,t3⟩:=SR.cH' is nd i (sr.sr.fN (bq.refl _) λb hb=>keep b (nt b _ (Vq.mp (sr.sr.own b hb).ne).choose_spec)) sr.ox (λb hb m=>(sr.sr.own b m).ne (fr b hb));exact k1 _ H' Hs _ cf (bq.refl _) ⟨t3,wf,t1,λb hb=>(t2 b hb).elim (sr.own b) λm=>sr.wf.sub.free (fr b m)⟩ (h x)
end
end L2.Q
namespace L2
def R8(lo c:Int)(n:Nat):It:=⟨λi _=>i<n,λi H x H'=>H'=H/\x=.int (lo+i*c),λi _=>n<=i⟩
def qL{P:b9}{K:ax}(it:ag)(lo c:Int)(n:Nat):Turn P w K tg (R8 lo c n) [it] it (λi h=>IsRangeIter h it (lo+(i:Nat)*c) ((n:Int)-(i:Nat)) c) where
 mem:=by simp
 obj:=λi h st b hb=>by
  have e:b=it:=by simpa using hb
  subst e;exact⟨_,st,λv z=>by
   have z':Data.fields _=Data.cell v:=z;cases z'⟩
 keep:=λi h h' st k=>k it (by simp) _ st
 item:=by intro X hP hw hK hc i pins s σ H E I hf st hg;subst hP hw hK;obtain⟨f0,f1,f2,f3,f4,f5⟩:=hf it (by simp);have W:=Walks.range (prog:=X.prog) (w:=X.w) (I.ok.hd hc) it lo c n;refine W.item i s _ _ hg st λv h' tk hv ai kk=>?_;obtain⟨t,rfl⟩:=hv;have I1:Inv X pins σ H { s with heap:=h',toks:=tk }:=I.turned (λb o hb e=>kk b o (by simpa using hb) e) f0 f1 f3 f4 f5;exact⟨_,rfl,MR (s:={ s with heap:=h',toks:=tk }) (n := "range_iterator") ai rfl rfl (by decide) ⟨.int (lo+i*c),H,I1,⟨t,rfl⟩,⟨rfl,rfl⟩,ai,λb hb=>(hf b hb).1⟩⟩
 done:=by intro X hP hw hK hc i pins s σ H E I hf st hg;subst hP hw hK;obtain⟨f0,f1,f2,f3,f4,f5⟩:=hf it (by simp);exact wpAny_pyNext_range_end (I.ok.hd hc) st (by have:n<=i:=hg;lia) λh' eb=>⟨rfl,I.turned (t':=s.toks) (λb o hb e=>eb b o hb e) f0 f1 f3 f4 f5⟩
 self:=λ_ _ _ _ _ st h=>wpAny_pyIter_rangeiter st h
def y8(a b c:Int):Nat:=(Builtin.Range.rangeSize a b c).toNat
def Ka(hc:c = -1\/c=2):((y8 a b c:Nat):Int)=Builtin.Range.rangeSize a b c:=by
 unfold y8 Builtin.Range.rangeSize;rcases hc with rfl|rfl
 ·rw[if_neg (by decide),show -(-1:Int)=1 from rfl];split<;>lia
 ·rw[if_pos (by decide)];split<;>lia
def Bk(hc:c = -1\/c=2)(h:-16777216<=a/\a<=16777216/\-16777216<=b/\b<=16777216):Builtin.Range.small a b c=true:=by
 unfold Builtin.Range.small Builtin.Range.rangeSize;rcases hc with rfl|rfl
 ·simp only[Builtin.Range.rangeFitsLong,kM,S7,decide_eq_true_eq,beq_iff_eq,show ¬ (-1:Int)>0 by decide,if_false,show -(-1:Int)=1 from rfl];split<;>lia
 ·simp only[Builtin.Range.rangeFitsLong,kM,S7,decide_eq_true_eq,beq_iff_eq,show(2:Int)>0 by decide,if_true];split<;>lia
section
variable {X:Cx}{tg:Expr}
def La(ta:TA):TI:=λσ H R=>ta σ H λvs H1=>∃ i j c:Int,vs=[.int i,.int j,.int c]/\(c = -1\/c=2)/\(-16777216<=i/\i<=16777216/\-16777216<=j/\j<=16777216)/\R (R8 i c (y8 i j c)) H1
def yo (hg:Gl X "range") (hm:X.mg "range" = none) (ha:PA X [a,b,c] ta) (hs:autoParam (bE [a,b,c] X.env=[(false,b4 a X.env),(false,b4 b X.env),(false,b4 c X.env)]) bv) (nS:autoParam (bE [b,c] X.env=[(false,b4 b X.env),(false,b4 c X.env)]) bv) :
  PI X tg (.Call (.Name "range" p) [a,b,c] [] pos) (La ta):=by
 intro pins s σ H R I h;refine Call_ (Fc I hg hm boot_range (PyProof.Rows.callWith_type1 (cv (ha pos pins s σ H _ I h) λus s1 ck=>L2.eR ck λvs H1 I1 r1 q1=>?_) (by rw[hs,nS]) (by rw[nS];rfl)));obtain⟨i,j,c,e,hc,hb,q⟩:=q1;subst e
 cases r1 with
 |cons r rr =>
  cases rr with
  |cons r' rr =>
   cases rr with
   |cons ZC rr =>
    cases rr;obtain⟨t,rfl⟩:=r;obtain⟨u,rfl⟩:=r';obtain⟨v,rfl⟩:=ZC;refine call_range_3 (by rcases hc with rfl|rfl<;>decide) ?_ (Or.inl (PyProof.noPylong_small (by lia)));refine wpAny_pyIter_range (IsRange.new ..) (Bk hc hb) ?_;have I2:Inv X pins σ H1 { s1 with heap:=s1.heap.push { cls:=.type "range",data:=.fields #[.int i t,.int j u,.int c v] } }:=I1.kept λb o e=>i3 _ e;refine⟨_,[_],_,_,H1,rfl,I2.kept λb o e=>i3 _ e,qL _ i c (y8 i j c),?_,λb hb=>?_,q⟩
    ·show IsRangeIter _ _ (i+0*c) (((y8 i j c:Nat):Int)-0) c;rw[Ka hc];simp only[Int.natCast_zero,Int.zero_mul,Int.add_zero,Int.sub_zero];exact nL _ rfl
    ·have e:=kD.mp hb;subst e;exact I2.Fm (cx _) (I2.aI.fresh (cx _))
end
end L2
namespace L2.Q
def UM(lo c:Int)(n:Nat):List D:=(List.range n).map λi=>.int (lo+(i:Nat)*c)
def Ck(ta tb tc:WE):WI:=λρ Q=>ta ρ λ_ x=>tb ρ λ_ y=>tc ρ λ_ z=>match x with
 |.int i=>match y with
  |.int j=>match z with
   |.int c=>(c = -1\/c=2)/\(-16777216<=i/\i<=16777216/\-16777216<=j/\j<=16777216)/\y8 i j c<=16777216/\Q (UM i c (y8 i j c))
   |_=>False
  |_=>False
 |_=>False
def za(lo c:Int)(n:Nat):d8 (R8 lo c n) ((List.range n).map λi=>V.int (lo+(i:Nat)*c)) (λ_=>True) where
 go:=λi H _ h=>by simpa[R8] using h
 lS:=λi H x H' _ hi h=>by
  have hi:i<n:=by simpa using hi
  obtain⟨rfl,rfl⟩:=h;refine⟨rfl,?_⟩;simp[hi]
 stop:=λH _=>by simp[R8]
theorem uw{K:ax}(lo c:Int):∀ (l:List Nat),bP K H (l.map λi=>.int (lo+(i:Nat)*c)) (l.map λi=>V.int (lo+(i:Nat)*c))
 |[]=>.nil
 |_ :: l=>.cons (.int _) (uw lo c l)
section
variable {X:Cx}{K:ax}{e e2 e3 tg:Expr}{te FT te3:WE}{pos p:Pos}
def Gb (hm:X.mg "range" = none) (he:QE X K e te) (Kn:QE X K e2 FT) (he3:QE X K e3 te3) (hg:Gl X "range" := by rfl) (hs:autoParam (bE (e :: [e2,e3]) X.env=(false,b4 e X.env) :: bE [e2,e3] X.env) bv) (nS:autoParam (bE (e2 :: [e3]) X.env=(false,b4 e2 X.env) :: bE [e3] X.env) bv) (Wi:autoParam (bE (e3 :: []) X.env=(false,b4 e3 X.env) :: bE [] X.env) bv) (iE:autoParam (bE [e,e2,e3] X.env=[(false,b4 e X.env),(false,b4 e2 X.env),(false,b4 e3 X.env)]) bv) (W6:autoParam (bE [e2,e3] X.env=[(false,b4 e2 X.env),(false,b4 e3 X.env)]) bv):QI X K tg (.Call (.Name "range" p) [e,e2,e3] [] pos) (Ck te FT te3):=by
 refine PI.imp (yo hg hm (kf he (kf Kn (kf he3 k7 Wi) nS) hs) iE W6) λσ H R hx=>ic hx λHs ρ tot Q sr h k=>⟨Hs,ρ,tot,_,sr,h,λv H1 aS m d As g1 r1 f1 q1=>⟨aS,ρ,tot,_,sr.grow g1,q1,λu H2 aE n y Bs g2 r2 f2 q2=>⟨aE,ρ,tot,_,(sr.grow g1).grow g2,q2,λu3 H3 hV n3 y3 Bs3 g3 r3 f3 q3=>?_⟩⟩⟩
 have r:=((r1.grow g2).grow g3).rep g3.wf;have r':=(r2.grow g3).rep g3.wf;have ZC:=r3.rep g3.wf
 cases r with
 |int i=>cases r' with
  |int j=>cases ZC with
   |int c =>obtain⟨h1,h2,h3,q3⟩:=q3;exact⟨i,j,c,rfl,h1,h2,k _ H3 hV _ ((g1.trans g2).trans g3) (.seq (uw i c _) (d8.imp (za _ _ _) λ_ _=>trivial)) (by rw[dr,SK,oi];lia) q3⟩
   |_=>exact q3.elim
  |_=>exact q3.elim
 |_=>exact q3.elim
end
abbrev GE:=Str × Tok × Str × Tok
def UN(w:cy)(e:GE):DictEntry:=⟨QY w.params e.1,.str e.1 e.2.1,.str e.2.2.1 e.2.2.2⟩
structure ZD(w:cy)(K:ax)(mg:Str->Option ah)(x:Str)(ae:List (Str × Str)):Prop where
 ex:∃ (a:ag) (es:List GE) (n:Nat),mg x=some (.ref a)/\K.lookup a=some { cls:=.type "dict",data:=.dict (es.map (UN w)).toArray n }/\es.map (fun e=>(e.1,e.2.2.1))=ae
def FY(ae:List (Str × Str))(te:WE):WE:=λρ Q=>te ρ λ_ d=>∃ y v,d=.str y/\ae.lookup y=some v/\v.length<=bI/\Q .sh (.str v)
def Em{es:List GE}{y v:Str}(h:(es.map λe:GE=>(e.1,e.2.2.1)).lookup y=some v)(P:b9)(w:cy):∃ t,findBy (kc P w).is (es.map (UN w)).toArray (.inr y)=some (.str v t):=by
 unfold findBy;rw[List.find?_toArray]
 induction es with
 |nil=>simp at h
 |cons e es ih =>
  rw[gX,SN] at h;rw[gX,BQ];have hk:(kc P w).is (.inr y) (UN w e).key=decide (y=e.1):=by refine(KeyKind.is_eq_decide (Tc P w e.1 e.2.1) (.inr y)).trans ?_;by_cases z:y=e.1<;>simp[z]
  rw[hk];by_cases z:y=e.1
  ·rw[z,beq_self_eq_true] at h;cases h;rw[decide_eq_true z];exact⟨_,rfl⟩
  ·rw[beq_eq_false_iff_ne.mpr z] at h;rw[decide_eq_false z];exact ih h
section
variable {X:Cx}{K:ax}{e:Expr}{te:WE}{x:Str}{ae:List (Str × Str)}{p pos:Pos}
def UO (h:ZD X.w X.K X.mg x ae) (he:QE X K e te) (hg:autoParam (Gl X x) bv) (jv:(x == ("__debug__" : Str))=false:=by decide) (hs:T4 e:=by exact λ_ _=>rfl):QE X K (.Subscript (.Name x p) e pos) (FY ae te):=by
 obtain⟨a,es,n,hm,hl,rfl⟩:=h.ex;intro pins s σ H Qv I hx;obtain⟨Hs,ρ,tot,Q,sr,h,f⟩:=hx;refine bb' PySem.F.slot_dict_getitem.lookup hs (MB I hg hm (cv (he pins s σ H (λy H2=>∃ aS m d As,fv Hs H aS H2/\RM K aS H2 m d y As/\∃ yy v,d=.str yy/\(es.map λe:GE=>(e.1,e.2.2.1)).lookup yy=some v/\v.length<=bI/\Q .sh (.str v)) I ⟨Hs,ρ,tot,_,sr,h,λv H1 aS m d As g1 r1 f1 q1=>⟨aS,m,d,As,g1,r1,q1⟩⟩) λiv s2 dP=>?_) jv);obtain⟨y,H2,I2,ry,aS,m,d,As,g1,r1,yy,v,ed,l,hz,q⟩:=dP;subst ed;have r:=r1.rep g1.wf;cases r;have kU':=I2.iA _ _ hl;obtain⟨t,ht⟩:=Em l X.prog X.w;have mp:s2.heap.MapOf (kc X.prog X.w) a (findBy (kc X.prog X.w).is (es.map (UN X.w)).toArray):=⟨_,_,n,kU',⟨rfl,rfl,rfl⟩,rfl,λen hen=>by
  obtain⟨ge,_,rfl⟩:=iq.mp (List.mem_toArray.mp hen);exact⟨.inr ge.1,Tc _ _ _ _,rfl⟩,λ_=>rfl⟩
 obtain⟨tk,rfl⟩:=ry;exact⟨mp.typeIs,wpAny_getItem_of (Tc _ _ _ _) mp ht ⟨.str v,H2,I2.tok _,⟨t,rfl⟩,(Fin.after f g1).sh g1.wf (.str hz) q⟩⟩
end
end L2.Q
namespace L2.Q
open PySem.W
def Ax(p:WP)(tx:AI):WS:=λE ρ=>p ρ λfl d up=>match d with
 |.list xs=>tx ρ (λn=>E.rt (.ow false) (.str n)) λm x=>xs.length<bI/\match iw fl m x with
  |some dQ=>E.nx (up dQ (.list (xs++[x])))
  |none=>False
 |_=>False
def xg(tc:WT)(i:Nat)(te:WE):WS:=λE ρ=>tc ρ λb=>if b=true then jD i E ρ else te ρ E.rt
def zE(tx:AI)(g:WG)(b:WS):WS:=λE ρ=>tx ρ (λn=>E.rt (.ow false) (.str n)) λm d=>lO m/\match d with
 |.list xs=>eG g b E xs.reverse ρ
 |_=>False
section
variable {X:Cx}{K:ax}{L:Str->Hp->Prop}{e tg:Expr}{p:WP}{tx:AI}{pos apos eI pp:Pos}{g:WG}{b:WS}{body:List g9}
def Gy (ho:QP X K e p) {e2:Expr} (he:OY X K L e2 tx) (hK:autoParam (X.K=K) bv) (hs:autoParam (nI (.Call (.Attribute e "append" apos) [e2] [] eI) none pos.line X.env=pure false) bv) (qc:autoParam (vj e "append" X.env (b4 e X.env)=b4 e X.env) bv) (vF:autoParam (((gy eI (bE [e2] X.env)).all (λx=>!x.1) && (zk eI (zi [] X.env)).all (λx=>x.1.isSome)
   && decide ([e2].length+([]:List qV).length+(if ([]:List qV).isEmpty then 0 else 1)<30))=true) bv)
  (hline:autoParam ((apos.endLine == eI.line)=true) bv) (oS:autoParam (bE (e2 :: []) X.env=(false,b4 e2 X.env) :: bE [] X.env) bv) (vS:autoParam ((gy eI (bE [] X.env)).any (·.1)=false) bv) :
  QS X K L (.Expr (.Call (.Attribute e "append" apos) [e2] [] eI) pos) (Ax p tx):=by
 subst hK;refine PS.imp (IG (Jn PySem.F.plainAttrs_list PySem.F.slot_list_append PySem.F.type_list_append Rp ho (kf he k7 oS) qc vF hline oS vS) hs) λD σ H hx=>cL hx λHs ρ tot E sr h k1 k2 k3 k4 kx=>?_;refine⟨Hs,ρ,tot,_,sr,h,λv H1 aS fl d up g1 p1 q1=>?_⟩
 cases d with
 |list xs =>
  obtain⟨a1,vs1,e1,s1⟩:=p1.Zc g1.wf;subst e1;refine⟨.inl ⟨rfl,_,s1⟩,aS,ρ,tot,_,_,sr.grow g1,q1,λy H2 aE m x As g2 r2 f2 q2=>?_,λn H' s y=>kx n H' (g1.sh.trans s) y⟩;obtain⟨hz,q2⟩:=q2;obtain⟨a,vs,A,ea,e2,_,rs,nd,hn,k⟩:=p1.put g2;cases ea;have hl:=rs.length;refine⟨a1,vs,y,rfl,rfl,e2,by lia,?_⟩
  cases hp:iw fl m x with
  |none=>rw[hp] at q2;exact q2.elim
  |some dQ =>
   rw[hp] at q2;obtain⟨hf,B,sb,rb⟩:=tQ g2.wf r2 hp;obtain⟨na,nA⟩:=sv.mp nd;have fB:∀ x∈B,aE x=none/\H1 x=none:=λx hx=>f2.2 x (sb.subset hx);have c1:(A++(B++[])).Nodup:=by rw[kE];exact iN.mpr ⟨nA,sb.nodup f2.1,λx hx z hz e=>by subst e;exact(hn x (eA _ hx)).2 (fB x hz).2⟩
   have c2:a1∉A++(B++[]):=by
    rw[kE];intro m;rcases eK.mp m with m|m
    ·exact na m
    ·exact(hn _ fo).2 (fB _ m).2
   have c3:∀ x∈A++(B++[]),x∈A\/(aE x=none/\H1 x=none):=by rw[kE];intro x hx;exact(eK.mp hx).imp id λz=>fB x z
   obtain⟨eW,gS⟩:=k dQ (xs++[x]) (vs++[y]) (A++(B++[])) hf ((rs.wk hf).append (.cons rb .nil)) (by rw[hJ];simp;lia) c1 c2 c3;exact k1 σ _ aE _ eW (g1.sh.trans g2.sh) gS q2
 |_=>exact q1.elim
def qZ(i:Nat){x:Str}{tg iter elt:Expr}{ifs:List Expr}{scope:Scope}{pos pos' Ub:Pos}{wi:WI}{g:WG}{tc:WT}{te:WE}{tn cn:List Str}{ix:List Nat}(hi:OS X K tg iter wi)(hg:∀ {C fp h8 ku} {q:(tn++cn).Nodup},QG (aY X scope C (tn++cn) fp h8 ku) K tg g) (Ap:∀ {C fp h8 ku},Zb (aY X scope C (tn++cn) fp h8 ku) K ifs tc) (he:∀ {C fp h8 ku},QE (aY X scope C (tn++cn) fp h8 ku) K elt te)(Wm:autoParam (nI (.ListComp elt [⟨tg,iter,ifs,0⟩] scope pos) (some (.Name x pos')) Ub.line X.env=pure true) bv) (hs:∀ x,E2 iter X.env x=pure x:=by intro _;rfl) (hf:X.fn x=true\/X.env.scope.names.lookup x=some .local:=by first|exact .inl rfl|exact .inr rfl|assumption) (hN:X.N.Nodup:=by assumption) (D9:autoParam (X.N[i]? = some x) bv) (hx:Loc X.env.scope x:=by first|exact .inl rfl|exact .inr rfl) (nd:(tn++cn).Nodup:=by decide +kernel) (O:dZ X scope tn cn ix:=by exact dZ.by (by assumption) (by decide +kernel)) (hc:autoParam (X.calm=true) bv) :
  QS X K L (.Assign [.Name x pos'] (.ListComp elt [⟨tg,iter,ifs,0⟩] scope pos) Ub) (Gh i (tD wi g tc te tn.length ix)) :=
 PS.imp (uN hN D9 hx hc hi O (λ_ _ _ _=>hg (q:=nd)) (λ_ _ _ _=>Ap) (λ_ _ _ _=>he) Wm hs hf) λD σ H hx=>cV hx λHs ρ tot E sr h k1 k2 k3 k4=>by refine uO ⟨Hs,ρ,tot,_,sr,h,λv H1 aS m d As g1 r1 f1 q1=>?_⟩;obtain⟨a,q1⟩:=q1;obtain⟨cf,s'⟩:=((sr.grow g1).gW a).set i (m:=.sh) (As:=[]) ⟨rfl,r1.rep g1.wf⟩ mz (λ_ m=>nomatch m) rfl;exact k1 _ H1 H1 _ cf (g1.sh.trans g1.wf.sub) s' q1
def zZ{c e0 e:Expr}{i:Nat}{tc:WT}{te:WE}(hc:QT X K c tc)(h0:PE X e0 (i5 i))(he:QE X K e te):QS X K L (.Return (some (.IfExp c e0 e eI)) pos) (xg tc i te) :=
 PS.imp (MG (et' hc h0 he)) λD σ H hx=>cV hx λHs ρ tot E sr h k1 k2 k3 k4=>⟨Hs,ρ,tot,_,sr,h,λb H1 aS g1 q1=>by
  have kX:=sr.grow g1
  cases b with
  |false=>exact⟨aS,ρ,tot,_,kX,q1,λv H2 aE m d As g2 r2 f2 q2=>k4 v H2 aE m d As (g1.sh.trans g2.sh) g2.wf r2 f2.1 (λa ha=>(f2.2 a ha).1) q2⟩
  |true =>
   have q1:jD i E ρ:=q1;unfold jD at q1;split at q1
   ·rename_i d e1;obtain⟨v,e2,r⟩:=kX.sr.get e1;exact⟨v,e2,k4 v H1 aS .sh d [] g1.sh kX.wf ⟨rfl,r⟩ mz (λa ha=>nomatch ha) q1⟩
   ·rename_i fl d e1;obtain⟨v,As,e2,ne,r,sb⟩:=kX.sr.at e1;exact⟨v,e2,k4 v H1 aS (.ow fl) d As g1.sh kX.wf ⟨r,ne⟩ (sb.nodup kX.ox) (λa ha=>kX.own a (sb.subset ha)) q1⟩
   ·exact q1.elim⟩
def Ed {e:Expr} (hm:X.mg "reversed" = none) (he:OY X K L e tx) (hg:QG X K tg g) (hb:qo X K L body b) (hK:autoParam (X.K=K) bv) (hg2:Gl X "reversed" := by rfl) (hs1:autoParam (bE [e] X.env=(false,b4 e X.env) :: bE [] X.env) bv) (iE:autoParam (bE [e] X.env=[(false,b4 e X.env)]) bv) (hs:∀ x,E2 (.Call (.Name "reversed" pp) [e] [] eI) X.env x=pure x:=by intro _;rfl) (hp:PassesOwn (aT X.prog X.w) X.A X.env X.xe:=by first|exact PassesOwn.never|exact PassesOwn.leaving) (hc:autoParam (X.calm=true) bv) :
  QS X K L (.For tg (.Call (.Name "reversed" pp) [e] [] eI) body [] pos) (zE tx g b):=by
 subst hK;refine PS.imp (al' hp hc (Ik hg2 hm (kf he k7 hs1) iE) hg hb hs) λD σ H hx=>cL hx λHs ρ tot E sr h k1 k2 k3 k4 kx=>?_;rw[Dv];refine⟨Hs,ρ,tot,_,_,sr,h,λv H1 Hs0 m d As g0 r1 f1 q1=>?_,kx⟩;obtain⟨nb,q1⟩:=q1;obtain⟨aS,g1,r2⟩:=r1.qJ g0 f1 nb
 cases r2 with
 |@list _ vs dl z s rs =>
  have S:rW X.K aS _ dl.reverse:=.seq rs.rev (d8.imp (DY X.K _ _) λH' s'=>bq.seq s' s);have q1:eG g b E dl.reverse ρ:=q1;generalize dl.reverse=ds at q1 S;refine⟨_,_,rfl,bq.seq g1.wf.sub s,λi m σ H=>m=ds.length-i/\i<=ds.length/\∃ aw bt cf,bq aS aw/\dz X.K aw bt σ H cf/\eG g b E (ds.drop i) bt,⟨ds.length,by simp,fI _,aS,ρ,tot,bq.refl _,sr.grow g1,by simpa using q1⟩,?_⟩;rintro i m kN H2 ⟨rfl,hi,aE,fe,eW,s2,gS,q2⟩;by_cases iL:i<ds.length
  ·refine .inr ⟨S.go i aE H2 s2 gS.wf iL,λpT H3=>∃ aw bt cf,bq aS aw/\dz X.K aw bt pT H3 cf/\eG g b E (ds.drop (i+1)) bt,λpT H3 h3=>⟨ds.length-(i+1),by lia,rfl,iL,h3⟩,λx H3 y=>?_⟩;obtain⟨hV,g3,rd⟩:=S.lS i aE H2 x H3 ds[i] s2 gS.wf (by simp[iL]) y;rw[xD iL] at q2;have s3:=s2.trans g3.sh;refine⟨hV,fe,eW,ds[i],_,gS.grow g3,rd,q2,λσ4 kU K2 EF _ q4=>?_⟩;refine⟨hV,kU,K2,_,EF,q4,?_,?_,?_,?_,λn H5 s5=>kx n H5 ((g1.sh.trans s3).trans s5)⟩
   ·exact λA6 H5 kL tq tF s5 tI q5=>⟨kL,tq,tF,s3.trans s5,tI,q5⟩
   ·exact λA6 H5 kL tq tF s5 tI q5=>k1 A6 H5 kL tq tF ((g1.sh.trans s3).trans s5) tI q5
   ·exact λA6 H5 kL tq tF s5 tI q5=>⟨kL,tq,tF,s3.trans s5,tI,q5⟩
   ·exact λv H5 kL m d As s5=>k4 v H5 kL m d As ((g1.sh.trans s3).trans s5)
  ·have e:i=ds.length:=by lia
   subst e;refine .inl ⟨S.stop aE H2 s2 gS.wf,?_⟩;rw[E5] at q2;exact k1 kN H2 aE fe eW (g1.sh.trans s2) gS q2
 |_=>exact q1.elim
end
end L2.Q
end
namespace L2.Q.R
open L2.Q PySem
section
variable {ρ:L2.Q.Env}{E:eO}{p:WP}{tx:AI}{g:WG}{b:WS}
def N8:Ax p tx E ρ=p ρ λfl d up=>b6 d (f:=λd=>wa d λxs=>tx ρ (λn=>E.rt (.ow false) (.str n)) λm x=>xs.length<bI/\b6 (iw fl m x) (f:=λo=>RW o λdQ=>E.nx (up dQ (.list (xs++[x])))) ⟨⟩) ⟨⟩:=by unfold Ax b6 wa RW;rfl
def K7{tc:WT}{i:Nat}{te:WE}:xg tc i te E ρ=tc ρ λb=>b6 b (f:=λb=>if b=true then jD i E ρ else te ρ E.rt) ⟨⟩:=rfl
def Ms:zE tx g b E ρ=tx ρ (λn=>E.rt (.ow false) (.str n)) λm d=>lO m/\b6 d (f:=λd=>wa d λxs=>eG g b E xs.reverse ρ) ⟨⟩:=by unfold zE b6 wa;rfl
end
end L2.Q.R
section
open PySem PySem.Spec PyProof.Rows
namespace L2.Q
open PySem.W
def lsP(xs:List Int):N0 where
 is:=λ_ H a As=>As=[a]/\H a=some (.lst (xs.map V.int))/\xs.length<=bI
 fN:=λ_ k ⟨e,h,z⟩=>by subst e;exact⟨rfl,(k _ fo).trans h,z⟩
 own:=λ⟨e,h,_⟩ b hb=>by rw[e,kD] at hb;subst hb;exact⟨_,h,λ_ z=>nomatch z⟩
abbrev mh(a:ag)(xs:List Int):Option Sl:=some (.ob a (lsP xs))
section
variable {K:ax}{Hs H aE H2:Hp}{ρ:Env}{σ:St}{tot:List ag}{i:Nat}{a:ag}{xs ys:List Int}
def dz.ls(sr:dz K Hs ρ σ H tot)(e:ρ[i]? = some (mh a xs)):σ[i]? = some (some (.ref a))/\H a=some (.lst (xs.map V.int))/\xs.length<=bI/\a∈tot:=by obtain⟨_,e1,⟨rfl,e2,z⟩,sb,_⟩:=SR.Zy i sr.sr e sr.ox;exact⟨e1,e2,z,sb.subset fo⟩
def dz.Gq(sr:dz K Hs ρ σ H tot)(e:ρ[i]? = some (mh a xs))(s:bq Hs aE)(w:Wf aE H2)(e2:H2 a=some (.lst (ys.map V.int)))(z:ys.length<=bI)(kp:∀ b∈tot,b≠a->H2 b=H b)(own:∀ b∈tot,aE b=none):dz K aE (ρ.set i (mh a ys)) σ H2 tot:=by obtain⟨_,_,⟨rfl,_,_⟩,_,g⟩:=SR.Zy i sr.sr e sr.ox;exact⟨g aE H2 _ s ⟨rfl,e2,z⟩ λb hb n=>kp b hb λq=>n (q ▸ fo),w,sr.ox,own⟩
end
def vH(i:Nat):WE:=λρ Q=>∃ a xs,ρ[i]? = some (mh a xs)/\Q .bo (.list (xs.map .int))
def Gw(i:Nat):WS:=λE ρ=>∀ a,E.nx (ρ.set i (mh a []))
abbrev AJ:=Env->(Str->Prop)->(D->Env->Prop)->Prop
abbrev GA:=Env->(Str->Prop)->(List D->Env->Prop)->Prop
def kY'(K:ax)(L:Str->Hp->Prop)(t:AJ):TE:=λσ H Qv=>∃ Hs ρ tot Y Q,dz K Hs ρ σ H tot/\t ρ Y Q /\ (∀ v H' aw d bt cf,bq Hs aw->dz K aw bt σ H' cf->d.flat=true->Rep K aw d v->Q d bt->Qv v H')/\∀ n H',bq Hs H'->Y n->L n H'
def Lz(K:ax)(L:Str->Hp->Prop)(t:GA):TA:=λσ H Qv=>∃ Hs ρ tot Y Q,dz K Hs ρ σ H tot/\t ρ Y Q /\ (∀ vs H' aw ds bt cf,bq Hs aw->dz K aw bt σ H' cf->dv ds=true->bP K aw ds vs->Q ds bt->Qv vs H')/\∀ n H',bq Hs H'->Y n->L n H'
abbrev GB(X:Cx)(K:ax)(L:Str->Hp->Prop)(e:Expr)(t:AJ):Prop:=PE X e (kY' K L t)
abbrev UQ(X:Cx)(K:ax)(L:Str->Hp->Prop)(es:List Expr)(t:GA):Prop:=PA X es (Lz K L t)
def LH(te:WE):AJ:=λρ _ Q=>te ρ λ_ d=>d.flat=true/\Q d ρ
def zY:GA:=λρ _ Q=>Q [] ρ
def jZ(te:AJ)(t:GA):GA:=λρ Y Q=>te ρ Y λd kz=>t kz Y λds fe=>Q (d :: ds) fe
def yV(t:GA):AJ:=λρ Y Q=>t ρ Y λds bt=>ds.length<=bI/\Q (.tup ds) bt
def G6(i:Nat):AJ:=λρ _ Q=>∃ a xs x,ρ[i]? = some (mh a (xs++[x]))/\Q (.int x) (ρ.set i (mh a xs))
def qM(i:Nat)(t:AJ):WS:=λE ρ=>t ρ (λn=>E.rt (.ow false) (.str n)) λd bt=>∃ a xs,bt[i]? = some (mh a xs)/\E.rt (.wl a (xs.map .int)) d
def Aj(j:Nat)(t:AJ):WS:=λE ρ=>t ρ (λn=>E.rt (.ow false) (.str n)) λd bt=>E.nx (bt.set j (some (.sh d)))
abbrev GH:=List Int->List D->(List Int->D->Prop)->(Str->Prop)->Prop
abbrev GL:=Env->(List D->Prop)->Prop
def qN:GL:=λ_ Q=>Q []
def yR(te:WE)(t:GL):GL:=λρ Q=>te ρ λ_ d=>d.flat=true/\t ρ λds=>Q (d :: ds)
def kZ'(K:ax)(i:Nat)(t:GL):TA:=λσ H Qv=>∃ Hs ρ tot Q a xs,dz K Hs ρ σ H tot/\ρ[i]? = some (mh a xs)/\t ρ Q/\∀ vs H' aw ds,fv Hs H aw H'->dv ds=true->bP K aw ds vs->Q ds->Qv (vs++[.ref a]) H'
abbrev UR(X:Cx)(K:ax)(i:Nat)(es:List Expr)(t:GL):Prop:=PA X es (kZ' K i t)
def lD(i:Nat)(sp:GH)(t:GL):AJ:=λρ Y Q=>∃ a xs,ρ[i]? = some (mh a xs)/\t ρ λds=>sp xs ds (λys d=>Q d (ρ.set i (mh a ys))) Y
def Hl(SP:CM)(iy ix:Nat)(t:AJ):WS:=λE ρ=>(∃ l ys,ρ[iy]? = some (mh l ys))/\(∃ a rs,ρ[ix]? = some (some (.ob a (SP true rs))))/\t ρ (λn=>E.rt (.ow false) (.str n)) λd bt=>∃ a rs l xs r,bt[ix]? = some (some (.ob a (SP true rs)))/\bt[iy]? = some (mh l xs)/\rs.length<bI/\xs.length<bI /\
 d=oB r/\eB 12 (oB r)=true/\∀ i9 k,(r∈rs/\i9=rs\/r∉rs/\i9=rs++[r])->i9[k]? = some r->E.nx ((bt.set ix (some (.ob a (SP true i9)))).set iy (mh l (xs++[((k:Nat):Int)])))
def Kp(a:ag)(H H':Hp):Prop:=∀ c o,c≠a->H c=some o->H' c=some o
def yq(K:ax)(rn:List Str)(mg:Str->Option ah)(sp:GH):Sp:=λvs H Qv E=>∃ a xs ds us Q Y,vs=us++[.ref a]/\H a=some (.lst (xs.map V.int))/\xs.length<=bI/\dv ds=true/\bP K H ds us/\sp xs ds Q Y /\ (∀ v H' ys d,Kp a H H'->H' a=some (.lst (ys.map V.int))->ys.length<=bI->d.flat=true->Rep K H' d v->Q ys d->Qv v H')/\∀ n H',Kp a H H'->Y n->LX rn mg E n H'
def CY(a:ag)(Q:List Int->D->Prop)(Y:Str->Prop):Md->D->Prop
 |.wl b l,d=>d.flat=true/\∃ xs,b=a/\l=xs.map V.int/\xs.length<=bI/\Q xs d
 |.ow false,.str n=>Y n
 |_,_=>False
def jb(n:Nat)(a:ag)(xs:List Int)(ds:List D):Env:=ds.map (λd=>some (.sh d))++(mh a xs :: List.replicate (n-(ds.length+1)) none)
def SR.pre{K:ax}{Hs H:Hp}{ds:List D}{vs:List V}{ρ:Env}{σ:St}{tot:List ag}(s:SR K Hs H ρ σ tot)(r:bP K Hs ds vs):SR K Hs H (ds.map (λd=>some (.sh d))++ρ) (vs.map some++σ) tot :=
 bP.ind (m:=λds vs=>SR K Hs H (ds.map (λd=>some (.sh d))++ρ) (vs.map some++σ) tot) s (λ_ _ _ _ h _ ih=>.sh h ih) r
def GN(a:ag)(H:Hp):Hp:=λc=>if c=a then none else H c
def BZ{a:ag}{H H':Hp}(s:bq (GN a H) H'):Kp a H H':=λc o n e=>s c o (by unfold GN;rw[if_neg n];exact e)
section
variable {P:b9}{w:cy}{K:ax}{mg:Str->Option ah}{base:c9}{N:List Str}{E:XK}{rn:List Str}{sp:GH}{t:WS}{vs:List V}{H:Hp}{Qv:VK}
def uT(h:yq K rn mg sp vs H Qv E)(hp:∀ a xs ds Q Y,xs.length<=bI->sp xs ds Q Y->t { nx:=λ_=>False,rt:=CY a Q Y } (jb N.length a xs ds)) :
  yk K (LX rn mg E) t { nx:=λ_ H'=>Qv .non H',rt:=Qv } (start N vs) H:=by
 obtain⟨a,xs,ds,us,Q,Y,rfl,e,z,f,rs,hs,fin,fx⟩:=h;have hl:=rs.length;have tp:∀ c ws,H c=some (.tup ws)->GN a H c=some (.tup ws):=λc ws q=>by unfold GN;rw[if_neg λn=>by rw[n,e] at q;cases q];exact q
 refine⟨GN a H,jb N.length a xs ds,[a],{ nx:=λ_=>False,rt:=CY a Q Y },⟨?_,⟨λc o q=>?_,tp⟩,by simp,λc h=>?_⟩,hp a xs ds Q Y z hs,?_,?_,?_,?_,λn H' s y=>fx n H' (BZ s) y⟩
 ·unfold jb start;rw[kF,hJ,hl,oI];exact SR.pre (.ob (As:=[a]) (tot:=[]) ⟨rfl,e,z⟩ (by have n:=SR.Zi (K:=K) (Hs:=GN a H) (H:=H) (List.replicate (N.length-(us.length+1)) none);rwa[L6] at n)) (rs.d9 tp f)
 ·unfold GN at q;split at q
  ·cases q
  ·exact q
 ·rw[kD.mp h];unfold GN;rw[if_pos rfl]
 ·exact λbX H' aw bt cf s sr q=>q.elim
 ·exact λbX H' aw bt cf s sr q=>q.elim
 ·exact λbX H' aw bt cf s sr q=>q.elim
 ·intro v H' aw m d As s wf r nd own q;have q:CY a Q Y m d:=q;unfold CY at q;split at q
  ·obtain⟨fl,ys,rfl,rfl,z,q⟩:=q;exact fin v H' ys d (BZ (s.trans wf.sub)) r.2.2 z fl r.2.1 q
  ·obtain⟨r,ne⟩:=r;cases r;exact absurd rfl ne
  ·exact q.elim
structure cK'(P:b9)(w:cy)(K:ax)(mg:Str->Option ah)(base:c9)(rn:List Str)(k:Nat)(x:Str)(ps:List Str)(sp:GH):Prop where
 ex:∃ (g:ag) (fd:nK),mg x=some (.ref g)/\tJ K (.ref g)=true/\Binds K fd ps []/\ja P w K mg base (oz P w mg rn) k g fd ps (yq K rn mg sp)
def la'.mk{x:Str}{st:g9}{f:ag}{fd:nK}(m:mg x=some (.ref f))(F:nV K x x st f fd)(N:List Str)(n k:Nat)(len:∀ xs ds Q Y,sp xs ds Q Y->ds.length+1=n)(hp:∀ a xs ds Q Y,xs.length<=bI->sp xs ds Q Y->t { nx:=λ_=>False,rt:=CY a Q Y } (jb N.length a xs ds)) (hb:∀ {cK:ah} {A:e7} {outer:List PySem.Env} {s:aC} {H:Hp} {E:XK},{_:gp k (A.deeper (ki x (d5 st) s.heap.objs.size f cK))}->{_:(A.deeper (ki x (d5 st) s.heap.objs.size f cK)).units+64<gV}->{_:N.Nodup} -> {_:(lT (oz P w mg rn) P w K mg base N x (d5 st) f cK A outer s H E).env.scope=d5 st/\(lT (oz P w mg rn) P w K mg base N x (d5 st) f cK A outer s H E).N=N}->qo (lT (oz P w mg rn) P w K mg base N x (d5 st) f cK A outer s H E) K (LX rn mg E) (kS st) t) (S:xi N (N.take n) (d5 st):=by exact⟨rfl,rfl,rfl,by decide +kernel,rfl,by decide +kernel,by decide +kernel⟩) (hl:autoParam ((N.take n).length=n) bv) (bi:∀ (kV doc pm:ah) (an:Option ag) (cK ct:ah) (us:List ah),us.length=(N.take n).length->bindArgs (pj x x (sN st) (kS st) (d5 st) .none kV doc pm an cK ct) ⟨us,[]⟩=pure ((N.take n).zip us):=by
   intro _ _ _ _ _ _ us h;iterate 13 all_goals rcases us with _|⟨_,us⟩<;>first|rfl|(simp at h;done)|skip):cK' P w K mg base rn (k+1) x (N.take n) sp:=by
 refine⟨f,fd,m,F.kp,F.binds bi,?_⟩;obtain⟨oc,od,kV,doc,pm,an,cK,ct,z5,rfl,lk,pS⟩:=F.ex;exact V3 lk pS S (λvs H Q E ⟨a,xs,ds,us,Q',Y,e,_,_,_,rs,hs,_⟩=>by rw[e,hJ,<- rs.length,hl];exact len xs ds Q' Y hs) λA outer s H vs Q E hr An=>⟨_,@hb _ _ _ _ _ _ hr hr.units S.nd ⟨rfl,rfl⟩,uT An hp⟩
end
def GO(Hs H':Hp):Hp:=λc=>match H' c with
 |some (.tup vs)=>some (.tup vs)
 |_=>Hs c
def Gg{Hs H H':Hp}{a:ag}(w:Wf Hs H)(n:Hs a=none)(kp:Kp a H H'):bq Hs (GO Hs H')/\Wf (GO Hs H') H'/\∀ c,(∀ vs,H' c≠some (.tup vs))->GO Hs H' c=Hs c:=by
 have kk:∀ c o,Hs c=some o->H' c=some o:=λc o q=>kp c o (λz=>by rw[z,n] at q;cases q) (w.sub c o q);have nt:∀ c,(∀ vs,H' c≠some (.tup vs))->GO Hs H' c=Hs c:=λc h=>by
  unfold GO;split
  ·rename_i vs e;exact absurd e (h vs)
  ·rfl
 refine⟨λc o q=>?_,⟨λc o q=>?_,λc vs q=>by unfold GO;rw[q]⟩,nt⟩
 ·unfold GO;split
  ·rename_i vs e;rw[kk c o q] at e;exact e ▸ rfl
  ·exact q
 ·unfold GO at q;split at q
  ·rename_i vs e;rw[e];exact q
  ·exact kk c o q
section
variable {X:Cx}{K:ax}{rn:List Str}{E:XK}{e:Expr}{es:List Expr}{te:WE}{ty:AJ}{ta:GA}{tl:GL}{pos apos eI p:Pos}{L:Str->Hp->Prop}{i:Nat}
def vJ(h0:PE X e (i5 i)):QE X K e (vH i):=PE.imp h0 λσ H Qv hx=>ic hx λHs ρ tot Q sr h f=>by obtain⟨a,xs,e,q⟩:=h;obtain⟨e1,e2,z,_⟩:=sr.ls e;exact⟨_,e1,Fin.bo f sr.wf (.list (by rw[dr];exact z) (.inl (.inl e2)) (ints_rep xs)) q⟩
def GJ(i:Nat){y:Str}{pos':Pos}(hK:autoParam (X.K=K) bv)(hs:autoParam (nI (.List [] p) (some (.Name y pos')) pos.line X.env=pure false) bv)(hf:X.fn y=true\/X.env.scope.names.lookup y=some .local:=by first|exact .inl rfl|exact .inr rfl|assumption)(hN:X.N.Nodup:=by assumption)(hi:autoParam (X.N[i]? = some y) bv)(hy:Loc X.env.scope y:=by first|exact .inl rfl|exact .inr rfl) :
  QS X K L (.Assign [.Name y pos'] (.List [] p) pos) (Gw i):=by
 refine PS.imp (Ts hN hi hy (VZ k7) hs hf) λD σ H hx=>cV hx λHs ρ tot E sr h k1 k2 k3 k4=>⟨fI _,λa ha=>?_⟩
 have g:=N4 (o:=.lst []) sr.wf ha λ_ z=>nomatch z;obtain⟨cf,t1,t2,t3⟩:=SR.cH' (p:=lsP []) (As:=[a]) ⟨rfl,eM,fI _⟩ (by simp) i (sr.grow g).sr sr.ox λb hb m=>by rw[kD.mp hb] at m;exact(sr.sr.own a m).ne ha
 exact k1 _ _ Hs _ cf (bq.refl _) ⟨t3,g.wf,t1,λb hb=>(t2 b hb).elim (sr.own b) λm=>by rw[kD.mp m];exact sr.wf.sub.free ha⟩ (h a)
def xn(h:QE X K e te):GB X K L e (LH te):=PE.imp h λσ H Qv hx=>by obtain⟨Hs,ρ,tot,Y,Q,sr,h,f,fx⟩:=hx;exact⟨Hs,ρ,tot,_,sr,h,λv H1 aS m d As g1 r1 f1 q1=>f v H1 aS d ρ tot g1.sh (sr.grow g1) q1.1 (r1.flat g1.wf q1.1) q1.2⟩
def BJ:UQ X K L [] zY:=PA.imp k7 λσ H Qv hx=>by obtain⟨Hs,ρ,tot,Y,Q,sr,h,f,fx⟩:=hx;exact f [] H Hs [] ρ tot (bq.refl _) sr rfl .nil h
def kO(ha:GB X K L e ty)(hr:UQ X K L es ta)(hs:autoParam (bE (e :: es) X.env=(false,b4 e X.env) :: bE es X.env) bv):UQ X K L (e :: es) (jZ ty ta):=PA.imp (kf ha hr hs) λσ H Qv hx=>by obtain⟨Hs,ρ,tot,Y,Q,sr,h,f,fx⟩:=hx;exact⟨Hs,ρ,tot,Y,_,sr,h,λv H1 aS d kz ZE s1 kX f1 r1 q1=>⟨aS,kz,ZE,Y,_,kX,q1,λvs H2 aE ds fe eW s2 gS f2 r2 q2=>f (v :: vs) H2 aE (d :: ds) fe eW (s1.trans s2) gS (by simp[dv,f1,f2]) (.cons (r1.same s2) r2) q2,λn H' s y=>fx n H' (s1.trans s) y⟩,fx⟩
def Cr{x1}(h:UQ X K L es ta):GB X K L (.Tuple es x1 pos) (yV ta):=PE.imp (TH h) λσ H Qv hx=>by obtain⟨Hs,ρ,tot,Y,Q,sr,h,f,fx⟩:=hx;refine⟨Hs,ρ,tot,Y,_,sr,h,λvs H1 aS ds kz ZE s1 kX f1 r1 q1=>?_,fx⟩;have hl:=r1.length;refine⟨by lia,λp hp=>?_⟩;have g:=N9 (vs:=vs) kX.wf hp;exact f _ _ _ (.tup ds) kz ZE (s1.trans g.sh) (kX.grow g) f1 (.tup (by lia) eM (r1.same g.sh)) q1.2
def HN (h0:PE X e (i5 i)) (hK:autoParam (X.K=K) bv) (qc:autoParam (vj e "pop" X.env (b4 e X.env)=b4 e X.env) bv) (hline:autoParam ((apos.endLine == eI.line)=true) bv):GB X K L (.Call (.Attribute e "pop" apos) [] [] eI) (G6 i):=by subst hK;refine PE.imp (gE' PySem.F.plainAttrs_list PySem.F.slot_list_pop PySem.F.type_list_pop gL' h0 qc hline) λσ H Qv hx=>?_;obtain⟨Hs,ρ,tot,Y,Q,sr,⟨a,xs,x,ea,q⟩,f,fx⟩:=hx;obtain⟨e1,e2,z,m⟩:=sr.ls ea;have hn:=sr.own a m;refine⟨_,e1,.inl ⟨rfl,_,.inl (.inl e2)⟩,a,_,.int x,rfl,rfl,e2,by simp,?_⟩;rw[kF,List.map_singleton,List.dropLast_concat];exact f _ _ Hs (.int x) _ tot (bq.refl _) (sr.Gq ea (bq.refl _) (qw sr.wf hn λ_ z=>nomatch z) eM (by rw[hJ] at z;exact Nat.le_of_add_right_le z) (λb _ nb=>dn nb) sr.own) rfl (.int x) q
def jU(i:Nat)(he:GB X K L e ty):QS X K L (.Return (some e) pos) (qM i ty) :=
 PS.imp (MG he) λD σ H hx=>cL hx λHs ρ tot E' sr h k1 k2 k3 k4 kx=>⟨Hs,ρ,tot,_,_,sr,h,λv H1 aS d bt cf s1 kX fl r1 q=>by
  obtain⟨a,xs,e,q⟩:=q;exact k4 v H1 aS (.wl a _) d [] s1 kX.wf ⟨rfl,r1.same kX.wf.sub,(kX.ls e).2.1⟩ mz (λa h=>nomatch h) q,kx⟩
def wg(j:Nat){y:Str}{pos':Pos}(he:GB X K L e ty)(hs:autoParam (nI e (some (.Name y pos')) pos.line X.env=pure false) bv)(hf:X.fn y=true\/X.env.scope.names.lookup y=some .local:=by first|exact .inl rfl|exact .inr rfl|assumption)(hN:X.N.Nodup:=by assumption)(hi:autoParam (X.N[j]? = some y) bv)(hy:Loc X.env.scope y:=by first|exact .inl rfl|exact .inr rfl) :
  QS X K L (.Assign [.Name y pos'] e pos) (Aj j ty) :=
 PS.imp (Ts hN hi hy he hs hf) λD σ H hx=>cL hx λHs ρ tot E' sr h k1 k2 k3 k4 kx=>⟨Hs,ρ,tot,_,_,sr,h,λv H1 aS d bt cf s1 kX fl r1 q=>by
  obtain⟨t,s⟩:=kX.set j (m:=.sh) (As:=[]) ⟨rfl,r1⟩ mz (λa h=>nomatch h) rfl;exact k1 _ H1 aS _ t s1 s q,kx⟩
def jO(h0:PE X e (i5 i))(hs:autoParam (bE (e :: []) X.env=(false,b4 e X.env) :: bE [] X.env) bv):UR X K i [e] qN:=PA.imp (kf h0 k7 hs) λσ H Qv hx=>by obtain⟨Hs,ρ,tot,Q,a,xs,sr,ea,q,f⟩:=hx;exact⟨_,(sr.ls ea).1,f [] H Hs [] (fv.refl sr.wf) rfl .nil q⟩
def yZ(ha:QE X K e te)(hr:UR X K i es tl)(hs:autoParam (bE (e :: es) X.env=(false,b4 e X.env) :: bE es X.env) bv):UR X K i (e :: es) (yR te tl):=PA.imp (kf ha hr hs) λσ H Qv hx=>by obtain⟨Hs,ρ,tot,Q,a,xs,sr,ea,h,f⟩:=hx;exact⟨Hs,ρ,tot,_,sr,h,λv H1 aS m d As g1 r1 f1 q1=>⟨aS,ρ,tot,_,a,xs,sr.grow g1,ea,q1.2,λvs H2 aE ds g2 f2 r2 q2=>f (v :: vs) H2 aE (d :: ds) (g1.trans g2) (by simp[dv,q1.1,f2]) (.cons ((r1.flat g1.wf q1.1).same g2.sh) r2) q2⟩⟩
def lr {k:Nat} {x:Str} {ps:List Str} {sp:GH} (C:cK' X.prog X.w X.K X.mg X.base rn k x ps sp) (hr:gp k X.A) (hx:Passes (oz X.prog X.w X.mg rn) X E) (ha:UR X K i (e :: es) tl) (hK:autoParam (X.K=K) bv) (hg:autoParam (Gl X x) bv) (jv:(x == ("__debug__" : Str))=false:=by decide) (he:autoParam (bE (e :: es) X.env=(false,b4 e X.env) :: bE es X.env) bv) (i7:autoParam ((gy pos (bE es X.env)).any (·.1)=false) bv):GB X K (LX rn X.mg E) (.Call (.Name x p) (e :: es) [] pos) (lD i sp tl):=by
 subst hK;obtain⟨g,fd,hm,hk,hb,F⟩:=C.ex;refine PE.imp (V1 F hr hg hm hk hb .nil hx ha jv he i7) λσ H Qv h=>?_;obtain⟨Hs,ρ,tot,Y,Q,sr,⟨a,xs,ea,h⟩,f,fx⟩:=h;refine⟨Hs,ρ,tot,_,a,xs,sr,ea,h,λvs H1 aS ds g1 fd r1 q1=>?_⟩;have kX:=sr.grow g1;obtain⟨_,e2,z,m⟩:=kX.ls ea;have hn:=kX.own a m;refine⟨a,xs,ds,vs,_,Y,by rw[kE],e2,z,fd,r1.same g1.wf.sub,q1,λv H' ys d kp e3 z3 fl r3 q3=>?_,λn H' kp y=>fx n H' (λc o q=>kp c o (λz=>by rw[z,sr.own a m] at q;cases q) (g1.all _ _ (sr.wf.sub c o q))) y⟩;obtain⟨s2,w2,nt⟩:=Gg g1.wf hn kp;have kb:∀ b∈tot,b≠a->H' b=H1 b:=λb hb nb=>by obtain⟨o,q,_⟩:=kX.sr.own b hb;rw[q];exact kp b o nb q
 refine f v H' _ d _ tot (g1.sh.trans s2) (kX.Gq ea s2 w2 e3 z3 kb λb hb=>?_) fl (r3.d9 w2.iF fl) q3;rw[nt b λvs z=>?_]
 ·exact kX.own b hb
 ·by_cases nb:b=a
  ·rw[nb,e3] at z;cases z
  ·rw[kb b hb nb] at z;exact(kX.sr.own b hb).tX z
def Gx {C:ag} {iy ix k:Nat} {ey ex:Expr} {GP A9:Pos} {cL':ag} {fdp:nK} {pl:Sem Bool} (hy:PE X ey (i5 iy)) (hx:PE X ex (i5 ix)) (c:tP X.K C) (hm:Meth X.K C "put" cL') (F:ja X.prog X.w X.K X.mg X.base kr k cL' fdp ["self", "row"] (rQ X.K X.prog X.w)) (hr:gp k X.A) (hb:Binds X.K fdp ["self", "row"] [])(he:GB X K L e ty) (mE:ix≠iy) (hK:autoParam (X.K=K) bv) (hs:autoParam (nI (.Call (.Attribute ey "append" apos) [.Call (.Attribute ex "put" GP) [e] [] A9] [] p) none pos.line X.env=pure false) bv) (qc:autoParam (vj ey "append" X.env (b4 ey X.env)=b4 ey X.env) bv) (vF:autoParam (((gy p (bE [.Call (.Attribute ex "put" GP) [e] [] A9] X.env)).all (λx=>!x.1) && (zk p (zi [] X.env)).all (λx=>x.1.isSome)
   && decide ([Expr.Call (.Attribute ex "put" GP) [e] [] A9].length+([]:List qV).length+(if ([]:List qV).isEmpty then 0 else 1)<30))=true) bv)
  (hline:autoParam ((apos.endLine == p.line)=true) bv) (oS:autoParam (bE [.Call (.Attribute ex "put" GP) [e] [] A9] X.env=(false,b4 (.Call (.Attribute ex "put" GP) [e] [] A9) X.env) :: bE [] X.env) bv) (vS:autoParam ((gy p (bE [] X.env)).any (·.1)=false) bv)
  (rq:autoParam (bE [e] X.env=(false,b4 e X.env) :: bE [] X.env) bv) (i7:autoParam ((gy A9 (bE [] X.env)).any (·.1)=false) bv)
  (ht:autoParam (b4 (.Call (.Attribute ex "put" GP) [e] [] A9) X.env=(do
   let ov ← eval ex X.env
   standAt GP.atName
   let (f,first) ← holding [ov] (getMethod ov "put" pl)
   callWith A9 f first (gy A9 (bE [e] X.env)) (zk A9 (zi [] X.env)))) bv) :
  QS X K L (.Expr (.Call (.Attribute ey "append" apos) [.Call (.Attribute ex "put" GP) [e] [] A9] [] p) pos) (Hl (qB K X.prog X.w C) iy ix ty):=by
 subst hK;refine PS.imp (IG (Jn PySem.F.plainAttrs_list PySem.F.slot_list_append PySem.F.type_list_append Rp hy (kf (aE' (E:=E0) hx c hm F hr hb .nil T9 (kf he k7 rq) rq i7 ht) k7 oS) qc vF hline oS vS) hs) λD σ H hx=>cL hx λHs ρ tot E sr h k1 k2 k3 k4 kx=>?_;obtain⟨⟨l,ys,ey⟩,⟨a,qE,ex⟩,h⟩:=h;obtain⟨ev,el,_,_⟩:=sr.ls ey;obtain⟨u,eu,rfl,Bs,isu,_⟩:=sr.sr.get ex;have OZ:=wK sr.wf isu;obtain⟨_,dx0,rp0,pp0,s1,i1,_⟩:=id OZ;rw[j_ (by simp)] at i1;refine⟨_,ev,.inl ⟨rfl,_,.inl (.inl el)⟩,_,eu,a,dx0,_,rfl,i1,?_,Hs,ρ,tot,_,_,sr,h,λw1 H2 aE d fe eW s2 gS fl r2 q2=>?_,kx⟩
 ·have z1:(("put" : Str) == "rows")=false:=by decide +kernel
  have z2:(("put" : Str) == "places")=false:=by decide +kernel
  simp[List.lookup,z1,z2]
 obtain⟨a',rs,l',xs,rw1,eR,ey2,hrs,hxs,rfl,okr,q2⟩:=q2;obtain⟨b,rfl,rb,smb⟩:=DP r2 okr;obtain⟨Cs,e3,is3,sb3,g3⟩:=SR.Zy ix gS.sr eR gS.ox;have e3':=eu.symm.trans e3;cases e3';have ev2:=ev.symm.trans (gS.ls ey2).1;cases ev2;obtain⟨sm,dx,rp,pp,S,iS,eC⟩:=id is3;have eC:Cs=[a,dx,rp,pp]:=eC;have S2:dO X.K X.prog X.w H2 a dx rp pp rs:=S.near (iG (oY gS.wf));refine⟨a,dx,rp,pp,b,rs,rw1,rfl,S2,rb.mono (λc ys z=>gS.wf.sub _ _ z),hrs,λH3 i9 kk S3 cP' hk kp=>?_⟩;have nC:∀ c,c∉Cs->H3 c=H2 c:=λc hc=>kp c (λz=>hc (by rw[eC,z];simp)) (λz=>hc (by rw[eC,z];simp));have ZF:Wf aE H3:=⟨λc o z=>(nC c λm=>by rw[gS.own c (sb3.subset m)] at z;cases z).trans (gS.wf.sub c o z),λc ys z=>by
  by_cases hc:c∈Cs
  ·obtain⟨o,z2,_,n⟩:=S3.at c (eC ▸ hc);rw[z] at z2;cases z2;exact absurd rfl (n ys)
  ·rw[nC c hc] at z;exact gS.wf.iF c ys z⟩
 have iS3:H3 a=some (.ins C dx [("rows",.ref rp),("places",.ref pp)]):=by
  have e2:H2 a=some (.ins C dx [("rows",.ref rp),("places",.ref pp)]):=oY gS.wf _ _ iS;rw[kp a (λz=>?_) (λz=>?_)]
  ·exact e2
  ·obtain⟨bs,b1,_⟩:=S2.rows;rw[<- z,e2] at b1;cases b1
  ·obtain⟨xs,_,a2,_⟩:=S2.places;rw[<- z,e2] at a2;cases a2
 have is4:(qB X.K X.prog X.w C true i9).is aE H3 a Cs:=by
  refine⟨λr hr=>?_,dx,rp,pp,S3.moves (λc ys z=>?_) (λc hc=>gZ (by rw[eC];exact hc)),by rw[gZ (by rw[eC];simp)];exact iS3,eC⟩
  ·rcases cP' with⟨_,rfl⟩|⟨_,rfl⟩
   ·exact sm r hr
   ·rcases eK.mp hr with z|z
    ·exact sm r z
    ·rw[kD.mp z];exact smb
  ·by_cases hc:c∈Cs
   ·rw[gZ hc];exact z
   ·rw[j_ hc];exact ZF.iF c ys z
 have OQ:dz X.K aE (fe.set ix (some (.ob a (qB X.K X.prog X.w C true i9)))) σ H3 eW:=⟨g3 aE H3 _ (bq.refl _) is4 (λc _ nc=>nC c nc),ZF,gS.ox,gS.own⟩
 have ey3:(fe.set ix (some (.ob a (qB X.K X.prog X.w C true i9))))[iy]? = some (mh l xs):=by rw[SF mE];exact ey2
 obtain⟨_,el3,_,m3⟩:=OQ.ls ey3;refine⟨l,_,.int kk,rfl,rfl,el3,by rw[dr];exact hxs,?_⟩;exact k1 σ _ aE _ eW s2 (OQ.Gq (ys:=xs++[(kk:Int)]) ey3 (bq.refl _) (qw ZF (OQ.own l m3) λ_ z=>nomatch z) (by rw[eM,kF];rfl) (by rw[hJ];exact hxs) (λb _ nb=>dn nb) OQ.own) (q2 i9 kk cP' hk)
end
end L2.Q
end
namespace L2.Q.R
open L2.Q PySem
section
variable {Q:Md->L2.Q.D->Prop}{Qy:L2.Q.D->L2.Q.Env->Prop}{Qa:List L2.Q.D->L2.Q.Env->Prop}{Ql:List L2.Q.D->Prop}{Y:Str->Prop}{ρ:L2.Q.Env}{E:eO}{te:WE}{ty:AJ}{ta:GA}{tl:GL}{i j:Nat}{sp:GH}
def NK:vH i ρ Q=b6 ρ[i]? (f:=λo=>∃ a xs,o=some (mh a xs)/\Q .bo (.list (xs.map .int))) ⟨⟩:=rfl
def Og:Gw i E ρ = ∀ a,E.nx (ρ.set i (mh a [])):=rfl
def PQ:LH te ρ Y Qy=te ρ λ_ d=>b6 d (f:=λd=>d.flat=true/\Qy d ρ) ⟨⟩:=rfl
def Oi:zY ρ Y Qa=Qa [] ρ:=rfl
def J4:jZ ty ta ρ Y Qa=ty ρ Y λd kz=>ta kz Y λds fe=>Qa (d :: ds) fe:=rfl
def MJ:yV ta ρ Y Qy=ta ρ Y λds bt=>ds.length<=bI/\Qy (.tup ds) bt:=rfl
def Mr:qM i ty E ρ=ty ρ (λn=>E.rt (.ow false) (.str n)) λd bt=>∃ a xs,bt[i]? = some (mh a xs)/\E.rt (.wl a (xs.map .int)) d:=rfl
def Oc:Aj j ty E ρ=ty ρ (λn=>E.rt (.ow false) (.str n)) λd bt=>E.nx (bt.set j (some (.sh d))):=rfl
def N_:qN ρ Ql=Ql []:=rfl
def JP:yR te tl ρ Ql=te ρ λ_ d=>b6 d (f:=λd=>d.flat=true/\tl ρ λds=>Ql (d :: ds)) ⟨⟩:=rfl
def JV:lD i sp tl ρ Y Qy = ∃ a xs,ρ[i]? = some (mh a xs)/\tl ρ λds=>sp xs ds (λys d=>Qy d (ρ.set i (mh a ys))) Y:=rfl
end
end L2.Q.R
section
open PySem PySem.Spec PyProof.Rows
namespace L2
def lp'(K:ax)(te:TE)(tl th ts:TO):TE:=λσ H Q=>te σ H λx H1=>tl σ H1 λ_ H2=>th σ H2 λ_ H3=>ts σ H3 λk H4 =>
 ∃ a xs,x=.ref a/\k≠some 0/\eL K H4 a xs/\∀ p ys,H4 p=none->(∀ y∈ys,y∈xs)->ys.length<=xs.length->Q (.ref p) (upd H4 p (.lst ys))
def zg{xs:List V}{us:List ah}(r:Vals xs us){v:ah}(h:v∈us):∃ x,x∈xs/\RelV x v:=by
 induction r with
 |nil=>exact nomatch h
 |cons a _ ih =>
  rcases eJ.mp h with rfl|h
  ·exact⟨_,fo,a⟩
  ·obtain⟨x,hx,e⟩:=ih h;exact⟨x,eA _ hx,e⟩
def Bm{xs:List V}{its:List ah}(r:Vals xs its)(l:List ah)(h:∀ v∈l,v∈its):∃ ys,Vals ys l/\∀ y∈ys,y∈xs:=by
 induction l with
 |nil=>exact⟨[],.nil,λm hm=>nomatch hm⟩
 |cons v l ih =>obtain⟨ys,a,b⟩:=ih λu hu=>h u (eA _ hu);obtain⟨x,hx,e⟩:=zg r (h v fo);exact⟨x :: ys,.cons e a,λm hm=>(eJ.mp hm).elim (λz=>z ▸ hx) (b m)⟩
section
variable {X:Cx}{e st:Expr}{te:TE}{lo hi:Option Expr}{tl th ts:TO}{pos p2:Pos}
def wu(he:PE X e te)(hl:PO X lo tl)(hu:PO X hi th)(ht:PO X (some st) ts):PE X (.Subscript e (.Slice lo hi (some st) p2) pos) (lp' X.K te tl th ts):=by
 intro pins s σ H Q I h;refine Subscript_ (cv (he pins s σ H _ I h) λv s1 ck=>L2.eR ck λx H1 I1 r1 q1=>?_);refine wpAny_Slice (cv (hl pins s1 σ H1 _ I1 q1) λvl s2 ck=>L2.eR ck λl H2 I2 pl q2=>cv (hu pins s2 σ H2 _ I2 q2) λvu s3 ck=>L2.eR ck λu H3 I3 pu q3=>cv (ht pins s3 σ H3 _ I3 q3) λvs s4 ck=>L2.eR ck λk H4 I4 ps q4=>?_);obtain⟨a,xs,rfl,hk,hq,q⟩:=q4;cases r1;have I5:Inv X pins σ H4 { s4 with heap:=s4.heap.push { cls:=.type "slice",data:=.fields #[vl,vu,vs] } }:=I4.kept (t':=s4.toks) λb ob q=>i3 _ q;obtain⟨its,r,pl',hz⟩:=I5.list hq;have hlen:its.length=xs.length:=r.length.symm;obtain⟨ms,vm,mm⟩:=Bm r (slicePick its.toArray l u k).toList λv hv=>by unfold slicePick at hv;obtain⟨i,_,e⟩:=Vk.mp hv;have:=Array.mem_of_getElem? e;simpa using this
 have hz':its.length<=bI:=by rw[hlen];exact hz
 have hZ:(slicePick its.toArray l u k).size<=its.length:=by have:=slicePick_size_le its.toArray l u k;simpa using this
 have hml:ms.length=(slicePick its.toArray l u k).size:=by rw[vm.length,zv]
 show b5 (aT X.prog X.w) X.A (subscriptTail e (.Slice lo hi (some st) p2) (.ref a) (.ref s4.heap.objs.size)) (EP X pins σ Q) X.xe { s4 with heap:=s4.heap.push { cls:=.type "slice",data:=.fields #[vl,vu,vs] } };refine tail_any (ops:=[.ref a,.ref s4.heap.objs.size]) pl'.isList.typeIs PySem.slot_list_getitem.lookup ?_ (by with_unfolding_all rfl);refine wpAny_getItem_list_slice pl'.isList (Heap.IsSliceOf.new ..) pl pu ps hk ?_ (by rw[jS,hlen];exact hz);have I6:=I5.Ro (its:=(slicePick its.toArray l u k).toList) (t':=s4.toks) vm (by rw[hml];exact iO hZ hz');refine⟨.ref _,_,?_,rfl,q _ ms (I5.aI.fresh (cx _)) mm (by rw[hml,<- hlen];exact hZ)⟩;simpa using I6
end
end L2
namespace L2.Q
theorem pG{K:ax}{H:Hp}{ds:List D}{xs:List V}(r:bP K H ds xs):∀ ys:List V,(∀ y∈ys,y∈xs)->∃ es,bP K H es ys/\∀ e∈es,e∈ds
 |[],_=>⟨[],.nil,λ_ z=>nomatch z⟩
 |y :: ys,h=>by obtain⟨es,a,b⟩:=pG r ys λz hz=>h z (eA _ hz);obtain⟨i,hi⟩:=AR.mp (h y fo);obtain⟨d,hd,rd⟩:=r.Uu hi;exact⟨d :: es,.cons rd a,λm hm=>(eJ.mp hm).elim (λz=>z ▸ rg hd) (b m)⟩
section
variable {X:Cx}{K:ax}{e st:Expr}{te:WE}{lo hi:Option Expr}{tl th ts:WO}{pos p2:Pos}
def ZG(te:WE)(tl th ts:WO):WE:=λρ Q=>te ρ λ_ x=>tl ρ λ_=>th ρ λ_=>ts ρ λk=>R.R5 x λxs=>k≠some 0/\dv xs=true/\∀ ms:List D,(∀ m∈ms,m∈xs)->ms.length<=xs.length->Q (.ow true) (.list ms)
def zj(he:QE X K e te)(hl:QO X K lo tl)(hh:QO X K hi th)(ht:QO X K (some st) ts)(hK:autoParam (X.K=K) bv):QE X K (.Subscript e (.Slice lo hi (some st) p2) pos) (ZG te tl th ts):=by
 subst hK;refine PE.imp (wu he hl hh ht) λσ H Qv hx=>ic hx λHs ρ tot Q sr h f=>?_;refine⟨Hs,ρ,tot,_,sr,h,λv H1 aS m x As g1 r1 f1 q1=>⟨aS,ρ,tot,_,sr.grow g1,q1,λl H2 aE g2 q2=>⟨aE,ρ,tot,_,(sr.grow g1).grow g2,q2,λu H3 hV g3 q3=>⟨hV,ρ,tot,_,((sr.grow g1).grow g2).grow g3,q3,λk H4 yA g4 q4=>?_⟩⟩⟩⟩;have r4:=((r1.grow g2).grow g3).grow g4;have fin:Fin X.K yA H4 Q Qv:=Fin.after f (((g1.trans g2).trans g3).trans g4);have rr:=r4.rep g4.wf
 cases rr with
 |list z s q =>obtain⟨hk,fl,q4⟩:=q4;refine⟨_,_,rfl,hk,s,λp ys hp mm hl=>?_⟩;obtain⟨es,re,me⟩:=pG q ys mm;have l1:=re.length;have l2:=q.length;exact fin.lst g4.wf (by lia) re (gU.mpr λx hx=>gU.mp fl x (me x hx)) (q4 es me (by lia)) p hp
 |_=>exact q4.elim
end
end L2.Q
end
namespace L2.Q.R
open L2.Q PySem
def Qw{te:WE}{tl th ts:WO}{ρ:L2.Q.Env}{Q:Md->L2.Q.D->Prop}:ZG te tl th ts ρ Q=te ρ λ_ x=>tl ρ λ_=>th ρ λ_=>ts ρ λk=>b6 x (f:=λx=>R5 x λxs=>k≠some 0/\dv xs=true/\∀ ms:List L2.Q.D,(∀ m∈ms,m∈xs)->ms.length<=xs.length->Q (.ow true) (.list ms)) ⟨⟩:=rfl
end L2.Q.R
section
open PySem PySem.Spec PyProof.Rows
namespace L2.Q
def W4.mk{P:b9}{w:cy}{K:ax}{mg:Str->Option ah}{base:c9}{x:Str}{st:g9}{f:ag}{fd:nK}{sp:fw}{t:WS}(m:mg x=some (.ref f))(F:nV K x x st f fd)(N:List Str)(n k:Nat)(len:∀ ds Q,sp ds Q->ds.length=n)(hp:∀ ds Q,sp ds Q->t { nx:=λ_=>Q .sh .non,rt:=Q } (aN N.length ds)) (hb:∀ {cK:ah} {A:e7} {outer:List PySem.Env} {s:aC} {H:Hp} {E:XK},{_:gp k (A.deeper (ki x (d5 st) s.heap.objs.size f cK))}->{_:(A.deeper (ki x (d5 st) s.heap.objs.size f cK)).units+64<gV}->{_:N.Nodup} -> {_:(lT kr P w K mg base N x (d5 st) f cK A outer s H E).xh.env.scope=d5 st/\(lT kr P w K mg base N x (d5 st) f cK A outer s H E).xh.N=N}->qo (lT kr P w K mg base N x (d5 st) f cK A outer s H E).xh K L0 (kS st) t) (S:xi N (N.take n) (d5 st):=by exact⟨rfl,rfl,rfl,by decide +kernel,rfl,by decide +kernel,by decide +kernel⟩) (hl:autoParam ((N.take n).length=n) bv) (bi:∀ (kV doc pm:ah) (an:Option ag) (cK ct:ah) (us:List ah),us.length=(N.take n).length->bindArgs (pj x x (sN st) (kS st) (d5 st) .none kV doc pm an cK ct) ⟨us,[]⟩=pure ((N.take n).zip us):=by
   intro _ _ _ _ _ _ us h;iterate 13 all_goals rcases us with _|⟨_,us⟩<;>first|rfl|(simp at h;done)|skip):Uj P w K mg base (k+1) x (N.take n) (f9 K sp)/\ja P w K mg base kr (k+1) f fd (N.take n) (f9 K sp) :=
 have G:=W4.ok F S (λds Q h=>(len ds Q h).trans hl.symm) (λ_ _ _ _ _ _ hr=>@hb _ _ _ _ _ _ hr hr.units S.nd ⟨rfl,rfl⟩) hp
 ⟨F.cal m G bi,G⟩
def Zh.mk{P:b9}{w:cy}{K:ax}{mg:Str->Option ah}{base:c9}{rn:List Str}{x:Str}{st:g9}{f:ag}{fd:nK}{sp:fw}{t:WS}(m:mg x=some (.ref f))(F:nV K x x st f fd)(N:List Str)(n k:Nat)(len:∀ ds Q,sp ds Q->ds.length=n)(hp:∀ ds Q,sp ds Q->t { nx:=λ_=>Q .sh .non,rt:=Q } (aN N.length ds)) (hb:∀ {cK:ah} {A:e7} {outer:List PySem.Env} {s:aC} {H:Hp} {E:XK},{_:gp k (A.deeper (ki x (d5 st) s.heap.objs.size f cK))}->{_:(A.deeper (ki x (d5 st) s.heap.objs.size f cK)).units+64<gV}->{_:N.Nodup} -> {_:(lT (oz P w mg rn) P w K mg base N x (d5 st) f cK A outer s H E).env.scope=d5 st/\(lT (oz P w mg rn) P w K mg base N x (d5 st) f cK A outer s H E).N=N}->qo (lT (oz P w mg rn) P w K mg base N x (d5 st) f cK A outer s H E) K (LX rn mg E) (kS st) t) (S:xi N (N.take n) (d5 st):=by exact⟨rfl,rfl,rfl,by decide +kernel,rfl,by decide +kernel,by decide +kernel⟩) (hl:autoParam ((N.take n).length=n) bv) (bi:∀ (kV doc pm:ah) (an:Option ag) (cK ct:ah) (us:List ah),us.length=(N.take n).length->bindArgs (pj x x (sN st) (kS st) (d5 st) .none kV doc pm an cK ct) ⟨us,[]⟩=pure ((N.take n).zip us):=by
   intro _ _ _ _ _ _ us h;iterate 13 all_goals rcases us with _|⟨_,us⟩<;>first|rfl|(simp at h;done)|skip):R0 P w K mg base rn (k+1) x (N.take n) sp :=
 nV.kj' F m (Zh.ok F S (λds Q h=>(len ds Q h).trans hl.symm) (λ_ _ _ _ _ _ hr=>@hb _ _ _ _ _ _ hr hr.units S.nd ⟨rfl,rfl⟩) hp) bi
def Zz.mk{P:b9}{w:cy}{K:ax}{mg:Str->Option ah}{base:c9}{C:ag}{x qual:Str}{st:g9}{f:ag}{fd:nK}{uS:List (List RI)->fw}{t:WS}(F:nV K x qual st f fd)(N:List Str)(n k:Nat)(len:∀ rs ds Q,uS rs ds Q->ds.length+1=n)(hp:∀ a rs ds Q,uS rs ds Q->t { nx:=λ_=>Q .sh .non,rt:=Q } (iu N.length a (qB K P w C false rs) ds)) (hb:∀ {cK:ah} {A:e7} {outer:List PySem.Env} {s:aC} {H:Hp} {E:XK},{_:gp k (A.deeper (ki qual (d5 st) s.heap.objs.size f cK))}->{_:(A.deeper (ki qual (d5 st) s.heap.objs.size f cK)).units+64<gV}->{_:N.Nodup} -> {_:(lT kr P w K mg base N qual (d5 st) f cK A outer s H E).xh.env.scope=d5 st/\(lT kr P w K mg base N qual (d5 st) f cK A outer s H E).xh.N=N}->qo (lT kr P w K mg base N qual (d5 st) f cK A outer s H E).xh K L0 (kS st) t) (S:xi N (N.take n) (d5 st):=by exact⟨rfl,rfl,rfl,by decide +kernel,rfl,by decide +kernel,by decide +kernel⟩) (hl:autoParam ((N.take n).length=n) bv):ja P w K mg base kr (k+1) f fd (N.take n) (m_ K P w C uS) :=
 Zz.ok F S (λrs ds Q h=>(len rs ds Q h).trans hl.symm) (λ_ _ _ _ _ _ hr=>@hb _ _ _ _ _ _ hr hr.units S.nd ⟨rfl,rfl⟩) hp
namespace R
def Nj{m m':Md}{i j:Bool}{Q:Md->L2.Q.D->Prop}:EE m (.bl i) m' (.bl j) Q=Q .sh (.bl (!decide (i=j))):=rfl
end R
end L2.Q
end
local macro_rules | `(tactic| walk_at "q") => do
 let nm (s:String):Lean.Ident:=Lean.mkIdent ((s.splitOn ".").foldl Lean.Name.mkStr .anonymous)
 let ds ← ("Qw K7 N8 Ms NK Og PQ Oi J4 MJ Mr Oc N_ JP JV kL' Ko Mq Lh MN Ov O2 Oo Nk K9 Mh QM Pu J2 JH Mi NQ Oq M6 Nt M8 Ph Ox Ng N5 Oh PX Qz Ob Mv Qj Qg Qx Qf QF Pj Qu M7 Mt NT O_ O6 Kq Nx JC O1 Mx wB_ Pb Qm jQ' O4 Px Kz KD wC_ jS' jT' Kr Od QB Kl Oa OJ Oe QR O8 Qe Nv JW JQ KH JZ LC Kf K4 Ma Mj Nq OD MP M9 Nr Nf M_ P0 Qo Qt Nz Mm Qs QQ Qp Pg J7 Mp Ou K8 O5 Nj QC O3 QL PL Qq Qk Py Pr Qh QH O9 N6 Ml Ot MT Oz PN Lr Lb KC jU' JF Mf N7 Pa QD Qc Nm J3 KR jV' JG Pk LR PB Pz Nh QJ KN MK Mu Ol J9 Kv JL JD JK gN_ gT_ MF P_ NZ Np NB Lq jY' KY Km Ky Mw K_ KQ Ln QK Pq Ni Ow NP Qi O7 Pn Qn Li Om Mz Nu Ny".splitOn " ").toArray.mapM fun s=>`(Lean.Parser.Tactic.simpLemma| ↓$(nm ("L2.Q.R." ++ s)):ident)
 let us ← ("L2.Q.R.LK L2.Q.R.J5 L2.Q.R.Kh L2.Q.jK' L2.Q.R4 L2.Q.CZ L2.Q.Ej L2.Q.AG L2.Q.OO L2.Q.RN L2.Q.y1 L2.Q.iM L2.Q.RT L2.Q.RQ L2.Q.W3 L2.Q.iw L2.Q.uJ L2.Q.asg L2.Q.tj L2.Q.aN L2.Q.D.flat L2.Q.dv L2.Q.D.Uz L2.Q.D.ty L2.Q.jv' L2.Q.D.key1 L2.Q.fX L2.Q.Oj L2.Q.vZ List.length_map List.map_cons List.map_nil List.length_cons List.length_nil List.replicate_succ List.replicate_zero List.cons_append List.nil_append List.append_nil List.getElem?_cons_zero List.getElem?_cons_succ List.getElem?_nil List.set_cons_zero List.set_cons_succ List.all_cons List.all_nil Option.some.injEq Option.join_some Option.map_some Option.map_none Nat.reduceAdd Nat.reduceSub true_and and_true Bool.and_true Bool.true_and Bool.and_false Bool.false_and Bool.not_true Bool.not_false Bool.false_eq_true if_true if_false decide_true decide_false reduceIte cond_true cond_false PySem.sizeLine_eq L2.Q.jL' L2.Q.jM' L2.Q.jN' L2.Q.aK L2.Q.IK L2.Q.empty_app Nat.zero_add exists_eq_left' Int.reduceLT Int.reduceLE Int.reducePow Int.reduceNeg Int.reduceToNat Int.reduceAdd Int.reduceMul Int.reduceSub Nat.reduceLeDiff Nat.reduceLT false_or or_false and_self L2.PJ".splitOn " ").toArray.mapM fun s=>`(Lean.Parser.Tactic.simpLemma| $(nm s):ident)
 let as:Lean.TSyntaxArray [`Lean.Parser.Tactic.simpStar,`Lean.Parser.Tactic.simpErase,`Lean.Parser.Tactic.simpLemma]:=(ds++us).map fun x=>⟨x.raw⟩
 `(tactic| simp -dsimp only [$as,*])
section
open PySem PySem.Spec PyProof.Rows
namespace L2.Q.UT
def isLet(c:Nat):Bool:=decide (97<=c/\c<=122)
abbrev abc:Str := "abcdefghijklmnopqrstuvwxyz"
def ou:sg abc=(List.range 26).map (97 + ·):=by decide +kernel
def Jw{i:Int}(h0:0<=i)(h1:i<26):∃ c,fP (sg abc) i=some c/\isLet c=true:=by
 refine⟨97+i.toNat,?_,?_⟩
 ·have:fP (sg abc) ((i.toNat:Nat):Int)=some (97+i.toNat):=tT (by
   rw[ou];have:i.toNat<26:=by lia
   simp[this])
  rwa[sD h0] at this
 ·simp[isLet];lia
def DK(x:Int):∃ c,fP (sg abc) (x % 26)=some c/\isLet c=true:=Jw (xS _ (by decide)) (zl _ (by decide))
def lets(x:Str):Prop:=∀ c∈sg x,isLet c=true
def Open(x:Str):Prop:=1<=x.length/\x.length<=6/\lets x
def xB (x:Str):Prop:=x = "*"\/Open x
def tL{x y:Str}(hx:lets x)(hy:lets y):lets (x++y):=λc hc=>by rw[cI] at hc;exact(eK.mp hc).elim (hx c) (hy c)
def Av{c:Nat}(h:isLet c=true):lets ⟨#[c]⟩:=λd hd=>by
 have:d=c:=by simpa[sg] using hd
 rw[this];exact h
def oK{x:Str}(h:lets x)(lo hi:Option Int):lets (nE x lo hi):=λc hc=>by unfold nE sg at hc;rw[List.toList_toArray] at hc;exact h c (SJ (L8 hc))
def fU(c:Nat):(⟨#[c]⟩:Str).length=1:=rfl
def xB.len{x:Str}(h:xB x):x.length<=6:=by
 rcases h with rfl|h
 ·decide
 ·exact h.2.1
def xB.ok{x:Str}(h:xB x):PyData.strOk x=true:=by
 rw[CQ];rcases h with rfl|h
 ·have:sg "*" = [42]:=by decide +kernel
  intro c hc;rw[this] at hc;have:c=42:=by simpa using hc
  lia
 ·intro c hc;have:=h.2.2 c hc;simp[isLet] at this;lia
theorem az:∀ (l:List Str),dv (l.map D.str)=true
 |[]=>rfl
 |x :: l=>by simp[dv,az l,D.flat]
theorem fD:∀ (l:List Int),dv (l.map D.int)=true
 |[]=>rfl
 |x :: l=>by simp[dv,fD l,D.flat]
def su(l:List Str)(x:Str):l.map D.str++[D.str x]=(l++[x]).map D.str:=by simp
def ints_app(l:List Int)(x:Int):l.map D.int++[D.int x]=(l++[x]).map D.int:=by simp
def lH{n i:Nat}{lo:Int}{x:D}(h:(kI lo n)[i]? = some x):i<n/\x=.int (lo+(i:Nat)):=by
 unfold kI at h;rw[mr] at h;by_cases hi:i<n
 ·rw[Vj hi] at h;exact⟨hi,(Option.some.inj h).symm⟩
 ·rw[PK (by simpa using hi)] at h;cases h
def jF(lo:Int)(n:Nat):(kI lo n).length=n:=by simp[kI]
def yU{lo:Int}{n:Nat}{x:D}(h:x∈kI lo n):∃ i:Nat,i<n/\x=.int (lo+i):=by obtain⟨i,hi⟩:=AR.mp h;exact⟨i,lH hi⟩
def iD{α:Type}(l:List α):l.filter (λ_=>true)=l:=List.filter_eq_self.mpr λ_ _=>rfl
def bR (x:Str):Bool:=(decide (1<=x.length/\x.length<=6) && (sg x).all isLet) || decide (x = "*")
def cA{x:Str}:bR x=true↔xB x:=by
 unfold bR xB Open lets;simp only[S7,kM,decide_eq_true_eq,BO];constructor
 ·rintro(⟨⟨h1,h2⟩,h3⟩|h)
  ·exact .inr ⟨h1,h2,h3⟩
  ·exact .inl h
 ·rintro(h|⟨h1,h2,h3⟩)
  ·exact .inr h
  ·exact .inl ⟨⟨h1,h2⟩,h3⟩
inductive Rw where
 |st (w d:Str) (j:Int)
 |nt (j:Int)
 |jn (w:Str) (ps:List Int)
def gv:Rw->D
 |.st w d j=>.tup [.str w,.str d,.int j]
 |.nt j=>.tup [.str "not",.int j]
 |.jn w ps=>.tup [.str w,.tup (ps.map .int)]
def ve(k:Int):Rw->Prop
 |.st w d j=>(w = "some"\/w = "all")/\xB d/\0<=j/\j<k
 |.nt j=>0<=j/\j<k
 |.jn w ps=>(w = "and"\/w = "or")/\ps.length<=200/\∀ p∈ps,0<=p/\p<k
def kg(l:List Rw):Prop:=∀ (i:Nat) (r:Rw),l[i]? = some r->ve i r
def n9:Rw->List Int
 |.st _ _ j=>[j]
 |.nt j=>[j]
 |.jn _ ps=>ps
theorem wI:∀ r:Rw,(gv r).flat=true
 |.st _ _ _=>rfl
 |.nt _=>rfl
 |.jn _ ps=>by simp[gv,D.flat,dv,fD]
def kg.app{l:List Rw}{r:Rw}(h:kg l)(hr:ve l.length r):kg (l++[r]):=λi x hx=>by
 by_cases hi:i<l.length
 ·rw[HM hi] at hx;exact h i x hx
 ·rw[DF (by lia)] at hx;by_cases h0:i=l.length
  ·subst h0;rw[SY] at hx;cases hx;exact hr
  ·rw[PK (by simp;lia)] at hx;cases hx
def kg.nil:kg []:=λi r h=>by simp at h
def mxL(l:List Int):Int:=l.foldl (λb x=>if x>b then x else b) 0
def dep(ds:List Int):Rw->Int
 |.st _ _ j=>ds.getD j.toNat 0+1
 |.nt j=>ds.getD j.toNat 0
 |.jn _ ps=>mxL (ps.map λp=>ds.getD p.toNat 0)
def ZH:List Int->List Rw->List Int
 |ds,[]=>ds
 |ds,r :: l=>ZH (ds++[dep ds r]) l
def deps(l:List Rw):List Int:=ZH [] l
def depth(l:List Rw):Int:=(deps l).getD (l.length-1) 0
theorem Ca:∀ (l:List Int) (b:Int),0<=b->0<=l.foldl (λb x=>if x>b then x else b) b
 |[],b,h=>h
 |x :: l,b,h=>by simp only[Ic];refine Ca l _ ?_;split<;>lia
def Ir(l:List Int):0<=mxL l:=Ca l 0 (by decide)
def v8{ds:List Int}(h:∀ d∈ds,0<=d)(i:Nat):0<=ds.getD i 0:=by
 rw[DH]
 cases e:ds[i]? with
 |none=>exact zt _
 |some x=>exact h x (rg e)
theorem Js{ds:List Int}(h:∀ d∈ds,0<=d):∀ r:Rw,0<=dep ds r
 |.st _ _ j=>by have:=v8 h j.toNat;simp only[dep];lia
 |.nt j=>v8 h _
 |.jn _ ps=>Ir _
theorem vM:∀ (l:List Rw) (ds:List Int),(∀ d∈ds,0<=d)->∀ d∈ZH ds l,0<=d
 |[],_,h=>h
 |r :: l,ds,h=>vM l _ λd hd=>by
  rcases eK.mp hd with hd|hd
  ·exact h d hd
  ·rw[kD.mp hd];exact Js h r
def JN(l:List Rw):∀ d∈deps l,0<=d:=vM l [] λd hd=>nomatch hd
def AK:∀ {w:Str},(w = "and"\/w = "or")->w ≠ "some"/\w ≠ "all"/\w ≠ "not" := by rintro w (rfl|rfl)<;>decide +kernel
def GU:("not" : Str) ≠ "some"/\("not" : Str) ≠ "all" := by decide +kernel
theorem rw_ok{k:Int}:∀ {r:Rw} (n:Nat),ve k r->eB (n+2) (gv r)=true
 |.st w d j,n,h=>by
  have h1:=h.2.1.ok;have h2:PyData.strOk w=true:=by rcases h.1 with rfl|rfl<;>decide +kernel
  simp[gv,eB,h1,h2]
 |.nt j,n,h=>by
  have h2:PyData.strOk "not" = true:=by decide +kernel
  simp[gv,eB,h2]
 |.jn w ps,n,h=>by
  have h2:PyData.strOk w=true:=by rcases h.1 with rfl|rfl<;>decide +kernel
  simp[gv,eB,h2]
def LJ(f:Int->Int):Rw->Rw
 |.st w d j=>.st w d (f j)
 |.nt j=>.nt (f j)
 |.jn w ps=>.jn w (ps.map f)
def fk:Rw->List RI
 |.st w d j=>[.inl (.inr w),.inl (.inr d),.inl (.inl j)]
 |.nt j=>[.inl (.inr "not"),.inl (.inl j)]
 |.jn w ps=>[.inl (.inr w),.inr (ps.map Sum.inl)]
theorem y_:∀ r:Rw,oB (fk r)=gv r
 |.st _ _ _=>rfl
 |.nt _=>rfl
 |.jn _ ps=>by simp[oB,fk,gv,CL,mS,Function.comp_def]
theorem xm:∀ {x y:Rw},fk x=fk y->x=y
 |.st _ _ _,.st _ _ _,h=>by simp[fk] at h;obtain⟨rfl,rfl,rfl⟩:=h;rfl
 |.nt _,.nt _,h=>by simp[fk] at h;rw[h]
 |.jn _ ps,.jn _ qs,h=>by simp[fk] at h;obtain⟨rfl,h⟩:=h;have:ps=qs:=map_inj (f:=(Sum.inl:Int->Key)) (λ_ _ z=>Sum.inl.inj z) h;rw[this]
 |.st _ _ _,.nt _,h=>by simp[fk] at h
 |.st _ _ _,.jn _ _,h=>by simp[fk] at h
 |.nt _,.st _ _ _,h=>by simp[fk] at h
 |.nt _,.jn _ _,h=>by simp[fk] at h
 |.jn _ _,.st _ _ _,h=>by simp[fk] at h
 |.jn _ _,.nt _,h=>by simp[fk] at h
theorem dH{k:Int}:∀ {r:Rw},ve k r->∀ j∈n9 r,0<=j/\j<k
 |.st _ _ _,h,j,hj=>by rw[kD.mp hj];exact h.2.2
 |.nt _,h,j,hj=>by rw[kD.mp hj];exact h
 |.jn _ _,h,j,hj=>h.2.2 j hj
theorem Jg{k k':Int}{f:Int->Int}:∀ {r:Rw},ve k r->(∀ j∈n9 r,0<=f j/\f j<k')->ve k' (LJ f r)
 |.st _ _ _,h,g=>⟨h.1,h.2.1,g _ (kD.mpr rfl)⟩
 |.nt _,h,g=>g _ (kD.mpr rfl)
 |.jn _ _,h,g=>⟨h.1,by simpa[LJ] using h.2.1,λp hp=>by
  obtain⟨j,hj,rfl⟩:=iq.mp hp;exact g j hj⟩
def Ig(num:D)(f:Int->Int)(j:Int):Prop:=(∃ ns:List Int,num=.list (ns.map .int)/\0<=j/\ns[j.toNat]? = some (f j))\/∃ ae:List (Key × D),num=.dK ae/\mM ae (Sum.inl j:Key)=some (.int (f j))
def y9(W:List Int)(j:Int):List Int:=if j∈W then W else W++[j]
def lX(l:List Rw)(W:List Int)(k:Int):List Int:=if k∈W then (match l[k.toNat]? with
 |some r=>(n9 r).foldl y9 W
 |none=>W) else W
def fj(last:Nat):List Int:=(List.range (last+1)).map λi:Nat=>(last:Int)-(i:Int)
def vp(l:List Rw)(last:Nat):List Int:=(fj last).foldl (lX l) [(last:Int)]
def bu(l:List Rw)(last:Nat):List Int:=((List.range (last+1)).map λi:Nat=>(i:Int)).filter λk=>decide (k∈vp l last)
def Dq{W:List Int}{j x:Int}:x∈y9 W j↔x∈W\/x=j:=by
 unfold y9;split
 ·rename_i h;exact⟨.inl,λz=>z.elim id λe=>e ▸ h⟩
 ·simp
theorem dU{x:Int}:∀ (js W:List Int),x∈js.foldl y9 W↔x∈W\/x∈js
 |[],W=>by simp
 |j :: js,W=>by rw[Ic,dU js,Dq,eJ,or_assoc]
def Ia{W:List Int}{j:Int}(h:W.Nodup):(y9 W j).Nodup:=by
 unfold y9;split
 ·exact h
 ·rename_i n;exact iN.mpr ⟨h,by simp,λa ha b hb e=>n (by rw[<- kD.mp hb,<- e];exact ha)⟩
theorem rC:∀ (js W:List Int),W.Nodup->(js.foldl y9 W).Nodup
 |[],_,h=>h
 |j :: js,W,h=>rC js _ (Ia h)
def v7{W:List Int}(nd:W.Nodup){n:Nat}(h:∀ x∈W,0<=x/\x<n):W.length<=n:=by
 have:(W.map Int.toNat).Nodup:=Sy.mpr (L9.mpr (List.Pairwise.imp_of_mem (λ{a b} ha hb e z=>e (by have:=h a ha;have:=h b hb;lia)) (Sy.mp nd)));have:=this.length_le_of_subset (l₂:=List.range n) λx hx=>by obtain⟨y,hy,rfl⟩:=iq.mp hx;have:=h y hy;exact BU.mpr (by lia)
 simpa using this
structure vf(l:List Rw)(last:Nat)(m:Int)(W:List Int):Prop where
 nd:W.Nodup
 lst:(last:Int)∈W
 bd:∀ k∈W,0<=k/\k<=last
 cl:∀ k∈W,m<=k->∀ r,l[k.toNat]? = some r->∀ j∈n9 r,j∈W
def vf.step{l:List Rw}{last:Nat}{k:Int}{W:List Int}(sc:kg l)(k0:0<=k)(h:vf l last (k+1) W):vf l last k (lX l W k):=by
 unfold lX;by_cases hk:k∈W
 ·rw[if_pos hk]
  cases e:l[k.toNat]? with
  |none =>
   refine⟨h.nd,h.lst,h.bd,λx hx hm r hr j hj=>?_⟩;by_cases z:x=k
   ·rw[z,e] at hr;cases hr
   ·exact h.cl x hx (by lia) r hr j hj
  |some r0 =>
   have ok:=sc _ _ e;have dl:=dH ok;refine⟨rC _ _ h.nd,(dU _ _).mpr (.inl h.lst),λx hx=>?_,λx hx hm r hr j hj=>?_⟩
   ·rcases (dU _ _).mp hx with z|z
    ·exact h.bd x z
    ·have:=dl x z;have:=h.bd k hk;lia
   ·rcases (dU _ _).mp hx with z|z
    ·by_cases q:x=k
     ·rw[q,e] at hr;cases hr;exact(dU _ _).mpr (.inr hj)
     ·exact(dU _ _).mpr (.inl (h.cl x z (by lia) r hr j hj))
    ·have:=dl x z;lia
 ·rw[if_neg hk];refine⟨h.nd,h.lst,h.bd,λx hx hm r hr j hj=>?_⟩;by_cases z:x=k
  ·exact absurd (z ▸ hx) hk
  ·exact h.cl x hx (by lia) r hr j hj
theorem kW{l:List Rw}{last:Nat}(sc:kg l):∀ i,i<=last+1->vf l last ((last:Int)+1-i) (((fj last).take i).foldl (lX l) [(last:Int)])
 |0,_=>⟨by simp,by simp,λk hk=>by rw[kD.mp hk];lia,λk hk hm=>by rw[kD.mp hk] at hm;lia⟩
 |i+1,hi=>by
  have ih:=kW (l:=l) (last:=last) sc i (by lia);have e:(fj last).take (i+1)=(fj last).take i++[(last:Int)-i]:=by rw[AU];unfold fj;rw[mr,Vj (show i<last+1 by lia)];rfl
  rw[e,PY,Ic,List.foldl_nil];have:=vf.step (k:=(last:Int)-i) sc (by lia) (by rw[show(last:Int)-i+1=(last:Int)+1-i by lia];exact ih);rw[show(last:Int)+1-((i+1:Nat):Int)=(last:Int)-i by lia];exact this
def ir{l:List Rw}{last:Nat}(sc:kg l):vf l last 0 (vp l last):=by have:=kW (l:=l) (last:=last) sc (last+1) (cx _);rw[L5 (by simp[fj]),show(last:Int)+1-((last+1:Nat):Int)=0 by lia] at this;exact this
def gR{l:List Rw}{last:Nat}(sc:kg l){k:Int}:k∈bu l last↔k∈vp l last:=by unfold bu;rw[List.mem_filter,decide_eq_true_iff];refine⟨λh=>h.2,λh=>⟨?_,h⟩⟩;have:=(ir (last:=last) sc).bd k h;exact iq.mpr ⟨k.toNat,BU.mpr (by lia),by lia⟩
def iR{l:List Rw}{last:Nat}:(bu l last).Pairwise (· < ·):=by unfold bu;refine List.Pairwise.filter _ (L9.mpr ?_);exact List.pairwise_lt_range.imp λh=>by lia
def LM(l:List Rw)(last:Nat)(k:Int):Int:=((bu l last).idxOf k:Nat)
def UU(l:List Rw)(k:Int):Rw:=(l[k.toNat]?).getD (.nt 0)
def oC(l:List Rw)(last:Nat):List Rw:=(bu l last).map λk=>LJ (LM l last) (UU l k)
def bZ{l:List Int}(nd:l.Nodup){i:Nat}{k:Int}(h:l[i]? = some k):l.idxOf k=i:=by obtain⟨hi,e⟩:=nh.mp h;rw[<- e];exact nd.idxOf_getElem i hi
def e_(l:List Rw)(last:Nat):(bu l last).Nodup:=(iR (l:=l) (last:=last)).imp λh=>by lia
def gG{l:List Rw}{last:Nat}(sc:kg l){k:Int}(h:k∈bu l last):0<=k/\k<=last:=(ir sc).bd k ((gR sc).mp h)
def yx{l:List Rw}{last:Nat}(sc:kg l){k:Int}(h:k∈bu l last){r:Rw}(hr:l[k.toNat]? = some r):∀ j∈n9 r,j∈bu l last:=λj hj=>(gR sc).mpr ((ir sc).cl k ((gR sc).mp h) (gG sc h).1 r hr j hj)
def Bt{l:List Int}(pw:l.Pairwise (· < ·)){i:Nat}{j k:Int}(hk:l[i]? = some k)(hj:j∈l)(h:j<k):l.idxOf j<i:=by
 obtain⟨m,hm⟩:=AR.mp hj;have nd:l.Nodup:=pw.imp λh=>by lia
 rw[bZ nd hm];by_cases z:m<i
 ·exact z
 ·obtain⟨hi,ei⟩:=nh.mp hk;obtain⟨UW,em⟩:=nh.mp hm;by_cases q:m=i
  ·subst q;lia
  ·have:=LZ.mp pw i m hi UW (by lia);lia
structure Sm(α:Type) where
 H:Rw->(Int->α)->α
 z:α
 cg:∀ {r:Rw} {g g':Int->α},(∀ j∈n9 r,g j=g' j)->H r g=H r g'
 rn:∀ (f:Int->Int) (r:Rw) (g:Int->α),H (LJ f r) g=H r fun j=>g (f j)
section
variable {α:Type}(S:Sm α)
def Sm.vals(l:List Rw):List α:=l.foldl (λv r=>v++[S.H r λj=>v.getD j.toNat S.z]) []
def Sm.at(l:List Rw)(k:Int):α:=(S.vals l).getD k.toNat S.z
def o8(l:List Rw)(r:Rw):S.vals (l++[r])=S.vals l++[S.H r (S.at l)]:=by unfold Sm.vals;rw[PY];rfl
def Bg(l:List Rw):∀ m:List Rw,∃ w,S.vals (l++m)=S.vals l++w:=by
 intro m;unfold Sm.vals;rw[PY];generalize l.foldl (λv r=>v++[S.H r λj=>v.getD j.toNat S.z]) []=v
 induction m generalizing v with
 |nil=>exact⟨[],by simp⟩
 |cons r m ih =>obtain⟨w,e⟩:=ih (v++[S.H r λj=>v.getD j.toNat S.z]);exact⟨_ :: w,by rw[Ic,e,oI];rfl⟩
def gQ(l:List Rw):(S.vals l).length=l.length:=by
 unfold Sm.vals;suffices h:∀ (l:List Rw) (v:List α),(l.foldl (λv r=>v++[S.H r λj=>v.getD j.toNat S.z]) v).length=v.length+l.length by simpa using h l []
 intro l
 induction l with
 |nil=>intro v;rfl
 |cons r l ih=>intro v;rw[Ic,ih];simp;lia
def vN{l m:List Rw}{k:Int}(h:k.toNat<l.length):S.at (l++m) k=S.at l k:=by obtain⟨w,e⟩:=Bg S l m;unfold Sm.at;rw[e,DH,DH,HM (by rw[gQ];exact h)]
def wA{l:List Rw}(sc:kg l){k:Nat}{r:Rw}(h:l[k]? = some r):S.at l k=S.H r (S.at l):=by
 obtain⟨hk,e⟩:=nh.mp h;have el:l=(l.take k++[r])++l.drop (k+1):=by have:=xD hk;rw[e] at this;rw[oI,HP,<- this,PH]
 have tl:(l.take k).length=k:=by rw[mw];lia
 have e1:S.at l k=S.at (l.take k++[r]) k:=by
  conv=>lhs;rw[el]
  exact vN S (by simp;lia)
 rw[e1];unfold Sm.at;rw[o8,DH,DF (by rw[gQ];simp;lia)];rw[gQ,tl];simp only[My,SY];show S.H r (S.at (l.take k))=S.H r (S.at l);refine S.cg λj hj=>?_;have:=dH (sc k r h) j hj;conv=>rhs;rw[el,oI]
 exact(vN S (by rw[tl];lia)).symm
end
def pU{l:List Rw}{last:Nat}(sc:kg l):(last:Int)∈bu l last:=(gR sc).mpr (ir sc).lst
def G3{l:List Rw}{last i:Nat}{k:Int}(h:(bu l last)[i]? = some k):LM l last k=i:=by unfold LM;rw[bZ (e_ l last) h]
def Cj{l:List Rw}{last:Nat}(sc:kg l)(hl:last<l.length){i:Nat}{r:Rw}(h:(oC l last)[i]? = some r):∃ k r0,(bu l last)[i]? = some k/\l[k.toNat]? = some r0/\ve k r0/\r=LJ (LM l last) r0/\∀ j∈n9 r0,∃ m:Nat,m<i/\(bu l last)[m]? = some j:=by
 unfold oC at h;rw[mr] at h
 cases e:(bu l last)[i]? with
 |none=>rw[e] at h;cases h
 |some k =>
  rw[e] at h;cases h;have hk:=rg e;obtain⟨k0,k1⟩:=gG sc hk;have R9:k.toNat<l.length:=by lia
  have hr:l[k.toNat]? = some (UU l k):=by unfold UU;rw[vk R9];rfl
  have ok:=sc _ _ hr;rw[sD k0] at ok;refine⟨k,_,rfl,hr,ok,rfl,λj hj=>?_⟩;have R_:=yx sc hk hr j hj;have lt:=Bt iR e R_ (dH ok j hj).2;obtain⟨m,hm⟩:=AR.mp R_;rw[bZ (e_ l last) hm] at lt;exact⟨m,lt,hm⟩
def B_{l:List Rw}{last:Nat}(sc:kg l)(hl:last<l.length):kg (oC l last):=λi r h=>by obtain⟨k,r0,_,_,ok,rfl,hd⟩:=Cj sc hl h;refine Jg ok λj hj=>?_;obtain⟨m,hm,e⟩:=hd j hj;rw[G3 e];lia
def oF(l:List Rw)(last:Nat):(oC l last).length=(bu l last).length:=by unfold oC;rw[dr]
def Du{α:Type}(S:Sm α){l:List Rw}{last:Nat}(sc:kg l)(hl:last<l.length):∀ (i:Nat) (k:Int),(bu l last)[i]? = some k->S.at (oC l last) i=S.at l k:=by
 intro i
 induction i using Nat.strongRecOn with
 |ind i ih =>
  intro k h;have hi:i<(oC l last).length:=by rw[oF];exact(nh.mp h).1
  obtain⟨k',r0,e1,e2,ok,er,hd⟩:=Cj sc hl (vk hi);rw[h] at e1;cases e1;have k0:=(gG sc (rg h)).1;rw[wA S (B_ sc hl) (vk hi),er,S.rn];have:S.at l k=S.H r0 (S.at l):=by have:=wA S sc e2;rwa[sD k0] at this
  rw[this];refine S.cg λj hj=>?_;obtain⟨m,hm,e⟩:=hd j hj;rw[G3 e];exact ih m hm j e
def Ao{l:List Rw}{last:Nat}(sc:kg l):(bu l last)[(bu l last).length-1]? = some (last:Int):=by
 obtain⟨m,hm⟩:=AR.mp (pU (last:=last) sc);obtain⟨h1,h2⟩:=nh.mp hm;by_cases z:m=(bu l last).length-1
 ·rw[<- z];exact hm
 ·have h3:(bu l last).length-1<(bu l last).length:=by lia
  have:=LZ.mp (iR (l:=l) (last:=last)) m _ h1 h3 (by lia);have:=(gG sc (P1 h3)).2;lia
def zU{l:List Rw}{last:Nat}(sc:kg l):1<=(bu l last).length:=List.length_pos_of_mem (pU sc)
def zP{α:Type}(S:Sm α){l:List Rw}{last:Nat}(sc:kg l)(hl:last<l.length):S.at (oC l last) (((oC l last).length-1:Nat):Int)=S.at l last:=by have:=Du S sc hl _ _ (Ao sc);rw[oF];exact this
def Bi(x y:Rw):Bool:=decide (fk y=fk x)
def gI(rs:List Rw)(x:Rw):List Rw × Int:=if rs.any (Bi x)=true then (rs,(rs.findIdx (Bi x):Nat)) else (rs++[x],(rs.length:Nat))
def sV{rs:List Rw}{x:Rw}:rs.any (Bi x)=true↔fk x∈rs.map fk:=by rw[P2,iq];exact⟨λ⟨y,hy,e⟩=>⟨y,hy,of_decide_eq_true e⟩,λ⟨y,hy,e⟩=>⟨y,hy,decide_eq_true e⟩⟩
def Im{rs:List Rw}{x:Rw}(nd:(rs.map fk).Nodup)(sc:kg rs)(ok:ve rs.length x):((gI rs x).1.map fk).Nodup/\kg (gI rs x).1/\(gI rs x).1[(gI rs x).2.toNat]? = some x/\0<=(gI rs x).2/\(gI rs x).2<(gI rs x).1.length/\(∃ m,(gI rs x).1=rs++m/\∀ r∈m,r=x)/\(gI rs x).1.length<=rs.length+1:=by
 unfold gI;by_cases h:rs.any (Bi x)=true
 ·rw[if_pos h];have hl:rs.findIdx (Bi x)<rs.length:=List.findIdx_lt_length.mpr (P2.mp h);have e:Bi x rs[rs.findIdx (Bi x)]=true:=List.findIdx_getElem;refine⟨nd,sc,?_,Int.natCast_nonneg _,by simpa using hl,⟨[],by simp,λ_ z=>nomatch z⟩,by simp⟩;simp only[My];rw[vk hl,xm (of_decide_eq_true e)]
 ·rw[if_neg h];refine⟨?_,sc.app ok,by simp,Int.natCast_nonneg _,by simp;lia,⟨[x],rfl,λr z=>kD.mp z⟩,by simp⟩;rw[kF];exact iN.mpr ⟨nd,by simp,λa ha b hb e=>h (sV.mpr (by
   have hb:b=fk x:=by simpa using hb
   rw[<- hb,<- e];exact ha))⟩
def Ho{rs:List Rw}{x:Rw}{i9:List (List RI)}{k:Nat}(nd:(rs.map fk).Nodup)(h:fk x∈rs.map fk/\i9=rs.map fk\/fk x∉rs.map fk/\i9=rs.map fk++[fk x])(hk:i9[k]? = some (fk x)):i9=(gI rs x).1.map fk/\(k:Int)=(gI rs x).2:=by
 unfold gI;rcases h with⟨m,rfl⟩|⟨m,rfl⟩
 ·rw[if_pos (sV.mpr m)];refine⟨rfl,?_⟩;obtain⟨h1,h2⟩:=nh.mp hk;have hl:rs.findIdx (Bi x)<rs.length:=List.findIdx_lt_length.mpr (P2.mp (sV.mpr m));have e:Bi x rs[rs.findIdx (Bi x)]=true:=List.findIdx_getElem;have e2:(rs.map fk)[rs.findIdx (Bi x)]'(by rw[dr];exact hl)=(rs.map fk)[k]:=by rw[h2,List.getElem_map];exact of_decide_eq_true e
  have:=(Vn nd).mp e2;simp only;lia
 ·rw[if_neg (λz=>m (sV.mp z))];refine⟨by simp,?_⟩;simp only;by_cases z:k<(rs.map fk).length
  ·rw[HM z] at hk;exact absurd (rg hk) m
  ·rw[DF (by lia)] at hk;have:k-(rs.map fk).length<1:=by have:=(nh.mp hk).1;simpa using this
   rw[dr] at this z;lia
inductive Hd where
 |st (w d:Str)
 |ot (w:Str)
def AZ:Hd->D
 |.st w d=>.tup [.str w,.str d]
 |.ot w=>.tup [.str w]
abbrev iX (w:Str):Prop:=w = "some"\/w = "all"
def ly:List Str->Option (List Hd)
 |[]=>some []
 |[w]=>if iX w then none else some [.ot w]
 |w :: d :: ws=>if iX w then (if bR d=true then (ly ws).map (Hd.st w d :: ·) else none) else (ly (d :: ws)).map (Hd.ot w :: ·)
def hw:Hd->List Str
 |.st w d=>[w,d]
 |.ot w=>[w]
def ZI:Hd->Prop
 |.st w d=>iX w/\xB d
 |.ot w=>¬ iX w
theorem ug:∀ (ws:List Str) (hs:List Hd),ly ws=some hs->hs.flatMap hw=ws/\∀ h∈hs,ZI h
 |[],hs,h=>by cases h;exact⟨rfl,λ_ z=>nomatch z⟩
 |[w],hs,h=>by
  unfold ly at h;split at h
  ·cases h
  ·rename_i n;cases h;exact⟨rfl,λx hx=>by rw[kD.mp hx];exact n⟩
 |w :: d :: ws,hs,h=>by
  unfold ly at h;split at h
  ·rename_i n;split at h
   ·rename_i dd;obtain⟨t,e,rfl⟩:=oo.mp h;obtain⟨i1,i2⟩:=ug ws t e;exact⟨by rw[PZ,i1];rfl,λx hx=>(eJ.mp hx).elim (λz=>z ▸ ⟨n,cA.mp dd⟩) (i2 x)⟩
   ·cases h
  ·rename_i n;obtain⟨t,e,rfl⟩:=oo.mp h;obtain⟨i1,i2⟩:=ug (d :: ws) t e;exact⟨by rw[PZ,i1];rfl,λx hx=>(eJ.mp hx).elim (λz=>z ▸ n) (i2 x)⟩
def Gm{ws:List Str}{hs:List Hd}(h:ly ws=some hs):hs.length<=ws.length:=by
 rw[<- (ug ws hs h).1];clear h
 induction hs with
 |nil=>exact cx _
 |cons x hs ih=>cases x<;>(simp only[PZ,hJ,kB,hw,P4];lia)
def oa:Hd->Option Nat
 |.st _ _=>some 1
 |.ot w=>if w = "not" then some 1 else if w = "yes" then some 0 else if w = "both" then some 2 else if w = "no" then some 0 else if w = "either" then some 2 else none
def rL:Nat->List Hd->Bool
 |0,hs=>hs.isEmpty
 |_+1,[]=>false
 |n+1,h :: hs=>match oa h with
  |some a=>rL (n+a) hs
  |none=>false
def fm:Nat->List Str->Bool
 |0,ws=>ws.isEmpty
 |_+1,[]=>false
 |n+1,[w]=>if iX w then false else match oa (.ot w) with
  |some a=>fm (n+a) []
  |none=>false
 |n+1,w :: d :: ws=>if iX w then bR d && fm (n+1) ws else match oa (.ot w) with
  |some a=>fm (n+a) (d :: ws)
  |none=>false
def oG(n:Nat):fm n []=decide (n=0):=by cases n<;>rfl
def qX(n:Nat):rL n []=decide (n=0):=by cases n<;>rfl
def iI:∀ (ws:List Str) (n:Nat),fm n ws=match ly ws with
  |some hs=>rL n hs
  |none=>false
 |[],n=>by rw[oG];exact(qX n).symm
 |[w],n=>by
  unfold ly
  cases n with
  |zero =>
   by_cases h:iX w
   ·rw[if_pos h];rfl
   ·rw[if_neg h];rfl
  |succ n =>
   unfold fm;by_cases h:iX w
   ·rw[if_pos h,if_pos h]
   ·rw[if_neg h,if_neg h];show _=rL (n+1) [.ot w];unfold rL
    cases oa (.ot w) with
    |none=>rfl
    |some a=>show fm (n+a) []=rL (n+a) [];rw[oG,qX]
 |w :: d :: ws,n=>by
  unfold ly
  cases n with
  |zero =>
   split
   ·rename_i hs e
    cases hs with
    |nil =>
     split at e
     ·split at e
      ·obtain⟨_,_,z⟩:=oo.mp e;cases z
      ·cases e
     ·obtain⟨_,_,z⟩:=oo.mp e;cases z
    |cons _ _=>rfl
   ·rfl
  |succ n =>
   unfold fm;by_cases h:iX w
   ·rw[if_pos h,if_pos h,iI ws (n+1)]
    cases bR d with
    |false=>rfl
    |true =>
     rw[if_pos rfl,QN]
     cases ly ws with
     |none=>rfl
     |some hs=>rfl
   ·rw[if_neg h,if_neg h]
    cases e:oa (.ot w) with
    |none =>
     cases ly (d :: ws) with
     |none=>rfl
     |some hs=>show false=rL (n+1) (.ot w :: hs);unfold rL;rw[e]
    |some a =>
     show fm (n+a) (d :: ws)=_;rw[iI (d :: ws) (n+a)]
     cases ly (d :: ws) with
     |none=>rfl
     |some hs=>show rL (n+a) hs=rL (n+1) (.ot w :: hs);conv=>rhs;unfold rL;rw[e]
def ER(w:Str):List Int->Option (Rw × List Int)
 |x :: y :: t=>some (.jn w [x,y],t)
 |_=>none
def Pm(f:Int->Rw):List Int->Option (Rw × List Int)
 |x :: t=>some (f x,t)
 |[]=>none
def qS(h:Hd)(st:List Int):Option (Rw × List Int):=match h with
 |.st w d=>Pm (.st w d) st
 |.ot w=>if w = "not" then Pm .nt st else if w = "yes" then some (.jn "and" [],st) else if w = "both" then ER "and" st else if w = "no" then some (.jn "or" [],st) else if w = "either" then ER "or" st else none
def Sb(h:Hd)(o:Option (List Rw × List Int)):Option (List Rw × List Int):=o.bind λp=>(qS h p.2).map λq=>((gI p.1 q.1).1,(gI p.1 q.1).2 :: q.2)
def Bn(hs:List Hd):Option (List Rw × List Int):=hs.foldr Sb (some ([],[]))
def BK(h:Hd)(st:List Int):match qS h st with
  |some (_,t)=>oa h=some (st.length-t.length)/\t.length<=st.length
  |none=>∀ a,oa h=some a->st.length<a:=by
 have one:∀ f:Int->Rw,match Pm f st with
  |some (_,t)=>some 1=some (st.length-t.length)/\t.length<=st.length
  |none=>∀ a,some 1=some a->st.length<a:=λf=>by
  cases st with
  |nil=>intro a e;cases e;exact Nat.one_pos
  |cons x t=>exact⟨by simp,by simp⟩
 have two:∀ w:Str,match ER w st with
  |some (_,t)=>some 2=some (st.length-t.length)/\t.length<=st.length
  |none=>∀ a,some 2=some a->st.length<a:=λw=>by
  rcases st with _|⟨x,_|⟨y,t⟩⟩
  ·intro a e;cases e;exact Nat.two_pos
  ·intro a e;cases e;exact Nat.one_lt_two
  ·exact⟨by simp;lia,by simp;lia⟩
 cases h with
 |st w d=>exact one _
 |ot w =>
  unfold qS oa;dsimp only;by_cases h1:w = "not"
  ·rw[if_pos h1,if_pos h1];exact one _
  rw[if_neg h1,if_neg h1];by_cases h2:w = "yes"
  ·rw[if_pos h2,if_pos h2];exact⟨by simp,cx _⟩
  rw[if_neg h2,if_neg h2];by_cases h3:w = "both"
  ·rw[if_pos h3,if_pos h3];exact two _
  rw[if_neg h3,if_neg h3];by_cases h4:w = "no"
  ·rw[if_pos h4,if_pos h4];exact⟨by simp,cx _⟩
  rw[if_neg h4,if_neg h4];by_cases h5:w = "either"
  ·rw[if_pos h5,if_pos h5];exact two _
  rw[if_neg h5,if_neg h5];exact λa e=>nomatch e
def mY(h:Hd)(hs:List Hd):Bn (h :: hs)=Sb h (Bn hs):=rfl
def rB(hs:List Hd):∀ n,rL n hs=true↔∃ p,Bn hs=some p/\p.2.length=n:=by
 induction hs with
 |nil =>
  intro n;rw[qX,decide_eq_true_eq];constructor
  ·intro e;exact⟨_,rfl,e.symm⟩
  ·rintro⟨p,e,l⟩;cases e;exact l.symm
 |cons h hs ih =>
  intro n;rw[mY];unfold Sb
  cases n with
  |zero =>refine⟨λe=>(nomatch e),λ⟨p,e,l⟩=>?_⟩;obtain⟨q,_,e⟩:=S6.mp e;obtain⟨r,_,rfl⟩:=oo.mp e;simp at l
  |succ n =>
   constructor
   ·intro e;unfold rL at e;split at e
    ·rename_i a ea;obtain⟨p,hp,l⟩:=(ih _).mp e;rw[hp];have R:=BK h p.2
     cases hr:qS h p.2 with
     |none=>rw[hr] at R;have:=R a ea;lia
     |some q =>rw[hr] at R;obtain⟨R1,R2⟩:=R;rw[ea] at R1;have R1:=Option.some.inj R1;refine⟨_,by rw[Vs,hr];rfl,?_⟩;simp only[kB];lia
    ·cases e
   ·rintro⟨p,e,l⟩;obtain⟨q,hq,e⟩:=S6.mp e;obtain⟨⟨r,t⟩,hr,rfl⟩:=oo.mp e;have R:=BK h q.2;rw[hr] at R;obtain⟨R1,R2⟩:=R;unfold rL;rw[R1];refine(ih _).mpr ⟨q,hq,?_⟩;simp only[kB] at l;lia
def k6(o:Option (List Str)):Option (List Str):=o.bind λws=>if ws.length<=200 then some ws else none
def lI:List (Option (List Str))->Option (List (List Str))
 |[]=>some []
 |none :: _=>none
 |some w :: l=>(lI l).map (w :: ·)
def bU (w:Str):Str:=if w = "and" then "yes" else "no"
def uf:bU "or" = "no" := by decide +kernel
def bf (w:Str):Str:=if w = "and" then "both" else "either"
def LN(j:Str):List (List Str)->List Str
 |[]=>[]
 |[p]=>p
 |p :: q :: l=>j :: (p++LN j (q :: l))
def Sd(w:Str):List (List Str)->List Str
 |[]=>[bU w]
 |p :: l=>LN (bf w) (p :: l)
def GV(r:Rw)(g:Int->Option (List Str)):Option (List Str):=k6 (match r with
 |.st w d j=>(g j).map λws=>w :: d :: ws
 |.nt j=>(g j).map λws => "not" :: ws
 |.jn w ps=>(lI (ps.map g)).map (Sd w))
def WA:Sm (Option (List Str)) where
 H:=GV
 z:=none
 cg:=λ{r g g'} h=>by
  cases r with
  |st w d j=>show k6 ((g j).map _)=k6 ((g' j).map _);rw[h j (kD.mpr rfl)]
  |nt j=>show k6 ((g j).map _)=k6 ((g' j).map _);rw[h j (kD.mpr rfl)]
  |jn w ps =>have h:∀ j∈ps,g j=g' j:=h;show k6 ((lI (ps.map g)).map _)=k6 ((lI (ps.map g')).map _);rw[HV h]
 rn:=λf r g=>by
  cases r with
  |st w d j=>rfl
  |nt j=>rfl
  |jn w ps=>show k6 ((lI ((ps.map f).map g)).map _)=k6 ((lI (ps.map λj=>g (f j))).map _);rw[om];rfl
structure ZJ(hs:List Hd)(rs:List Rw)(st:List Int):Prop where
 nd:(rs.map fk).Nodup
 sc:kg rs
 ln:rs.length<=hs.length
 sl:st.length<=hs.length
 bd:∀ x∈st,0<=x/\x<rs.length
 ws:∃ Bz:List (List Str),st.map (WA.at rs)=Bz.map some/\Bz.flatten=hs.flatMap hw
def uc{ws:List Str}(h:ws.length<=200):k6 (some ws)=some ws:=by unfold k6;rw[Vs,if_pos h]
def Fg(hs:List Hd):(∀ h∈hs,ZI h)->(hs.flatMap hw).length<=200->∀ rs st,Bn hs=some (rs,st)->ZJ hs rs st:=by
 induction hs with
 |nil =>intro _ _ rs st e;cases e;exact⟨mz,kg.nil,cx _,cx _,λx z=>(nomatch z),[],rfl,rfl⟩
 |cons h hs ih =>
  intro ok z rs st e;have zf:(hs.flatMap hw).length<=200:=by rw[PZ,hJ] at z;lia
  rw[mY] at e;obtain⟨⟨qE,BD⟩,e0,e⟩:=S6.mp e;obtain⟨⟨r,t⟩,hr,e⟩:=oo.mp e;cases e;obtain⟨nd,sc,ln,sl,bd,Bz,ew,ef⟩:=ih (λx hx=>ok x (eA _ hx)) zf qE BD e0;have hr:qS h BD=some (r,t):=hr;have okh:=ok h fo
  -- what the row is,and what it takes
  have key:ve qE.length r/\(∀ x∈t,x∈BD)/\t.length<=BD.length/\∃ (w0:List Str) (wt:List (List Str)),t.map (WA.at qE)=wt.map some/\w0++wt.flatten=(h :: hs).flatMap hw/\(w0.length<=200->WA.H r (WA.at qE)=some w0):=by
   have fl:∀ a:List Str,hw h=a->(h :: hs).flatMap hw=a++Bz.flatten:=λa ea=>by rw[PZ,ea,ef]
   have one:∀ f:Int->Rw,Pm f BD=some (r,t)->∃ x,BD=x :: t/\r=f x:=λf e=>by
    cases BD with
    |nil=>cases e
    |cons x t'=>cases e;exact⟨x,rfl,rfl⟩
   have two:∀ w:Str,(w = "and"\/w = "or")->hw h=[bf w]->ER w BD=some (r,t)->ve qE.length r/\(∀ x∈t,x∈BD)/\t.length<=BD.length/\∃ (w0:List Str) (wt:List (List Str)),t.map (WA.at qE)=wt.map some/\w0++wt.flatten=(h :: hs).flatMap hw/\(w0.length<=200->WA.H r (WA.at qE)=some w0):=λw AO ea e=>by
    rcases BD with _|⟨x,_|⟨y,t'⟩⟩
    ·cases e
    ·cases e
    ·cases e;rcases Bz with _|⟨w1,_|⟨w2,wt⟩⟩
     ·simp at ew
     ·simp at ew
     ·simp only[gX,List.cons.injEq] at ew;obtain⟨e1,e2,e3⟩:=ew;refine⟨⟨AO,by simp,λp hp=>?_⟩,λx hx=>eA _ (eA _ hx),by simp;lia,bf w :: (w1++w2),wt,e3,?_,λzz=>?_⟩
      ·simp only[eJ,BM,or_false] at hp;rcases hp with rfl|rfl
       ·exact bd _ (by simp)
       ·exact bd _ (by simp)
      ·rw[fl _ ea];simp
      ·show k6 ((lI [WA.at qE x,WA.at qE y]).map (Sd w))=_;rw[e1,e2];exact uc zz
   cases h with
   |st w d =>
    obtain⟨x,rfl,rfl⟩:=one _ hr
    cases Bz with
    |nil=>cases ew
    |cons w1 wt =>simp only[gX,List.cons.injEq] at ew;refine⟨⟨okh.1,okh.2,bd x (by simp)⟩,λy hy=>eA _ hy,by simp,w :: d :: w1,wt,ew.2,by rw[fl _ rfl];simp[hw],λzz=>?_⟩;show k6 ((WA.at qE x).map _)=_;rw[ew.1];exact uc zz
   |ot w =>
    unfold qS at hr;dsimp only at hr;by_cases h1:w = "not"
    ·rw[if_pos h1] at hr;obtain⟨x,rfl,rfl⟩:=one _ hr
     cases Bz with
     |nil=>cases ew
     |cons w1 wt =>simp only[gX,List.cons.injEq] at ew;refine⟨bd x (by simp),λy hy=>eA _ hy,by simp,w :: w1,wt,ew.2,by rw[fl _ rfl];simp[hw],λzz=>?_⟩;show k6 ((WA.at qE x).map _)=_;rw[ew.1,h1];exact uc (h1 ▸ zz)
    rw[if_neg h1] at hr;by_cases h2:w = "yes"
    ·rw[if_pos h2] at hr;cases hr;exact⟨⟨.inl rfl,by simp,λp hp=>nomatch hp⟩,λx hx=>hx,cx _,[w],Bz,ew,by rw[fl _ rfl];rfl,λzz=>by rw[h2];rfl⟩
    rw[if_neg h2] at hr;by_cases h3:w = "both"
    ·rw[if_pos h3] at hr;exact two "and" (.inl rfl) (by rw[h3];rfl) hr
    rw[if_neg h3] at hr;by_cases h4:w = "no"
    ·rw[if_pos h4] at hr;cases hr;exact⟨⟨.inr rfl,by simp,λp hp=>nomatch hp⟩,λx hx=>hx,cx _,[w],Bz,ew,by rw[fl _ rfl];rfl,λzz=>by rw[h4];show k6 (some [bU "or"])=_;rw[uf];rfl⟩
    rw[if_neg h4] at hr;by_cases h5:w = "either"
    ·rw[if_pos h5] at hr;exact two "or" (.inr rfl) (by rw[h5];decide +kernel) hr
    rw[if_neg h5] at hr;cases hr
  obtain⟨rok,lr',tl,w0,wt,e1,e2,e3⟩:=key;obtain⟨p1,p2,p3,p4,p5,⟨m,p6,p7⟩,p8⟩:=Im nd sc rok;have up:∀ x:Int,0<=x/\x<qE.length->WA.at (gI qE r).1 x=WA.at qE x:=λx hx=>by rw[p6];exact vN WA (by lia)
  have w0l:w0.length<=200:=by have:=congrArg List.length e2;rw[hJ] at this;lia
  have top:WA.at (gI qE r).1 (gI qE r).2=some w0:=by have:=wA WA p2 p3;rw[sD p4] at this;rw[this,<- e3 w0l];exact WA.cg λj hj=>up j (dH rok j hj)
  have tb:∀ x∈t,0<=x/\x<qE.length:=λx hx=>bd x (lr' x hx);refine⟨p1,p2,by show(gI qE r).1.length<=_;rw[kB];lia,by simp only[kB];lia,λx hx=>?_,w0 :: wt,?_,e2⟩
  ·rcases eJ.mp hx with rfl|hx
   ·exact⟨p4,p5⟩
   ·have:=tb x hx;rw[p6,hJ];exact⟨this.1,by lia⟩
  ·rw[gX,gX,top,<- e1];congr 1;exact HV λx hx=>up x (tb x hx)
def ZK(ρ:L2.Q.Env):Nat:=match ρ.getD 2 none with
 |some (.sh (.int k))=>k.toNat
 |_=>0
def b8{w:Str}(hw:¬ iX w)(n:Nat)(l:List Str):fm (n+1) (w :: l)=match oa (.ot w) with
  |some a=>fm (n+a) l
  |none=>false:=by
 cases l with
 |nil=>show(if iX w then false else _)=_;rw[if_neg hw]
 |cons d l=>show(if iX w then _ else _)=_;rw[if_neg hw]
def vI {w:Str} (h:w = "yes"\/w = "no"):¬ iX w/\oa (.ot w)=some 0:=by rcases h with rfl|rfl<;>decide +kernel
def Dz {w:Str} (h:w = "both"\/w = "either"):¬ iX w/\oa (.ot w)=some 2:=by rcases h with rfl|rfl<;>decide +kernel
def Gr:¬ iX "not"/\oa (.ot "not")=some 1:=by decide +kernel
def Ku {w:Str} (h1:¬ (w = "yes"\/w = "no")) (h2:¬ (w = "both"\/w = "either")) (h3:w ≠ "not"):oa (.ot w)=none:=by unfold oa;dsimp only;rw[if_neg h3,if_neg λz=>h1 (.inl z),if_neg λz=>h2 (.inl z),if_neg λz=>h1 (.inr z),if_neg λz=>h2 (.inr z)]
def xf:WS :=
 (cp (e9 (v3 (wB (ay fA (ay df (av 0) (wC (.int 0))) (wC (.str "some")))) (wB (ay fA (ay df (av 0) (wC (.int 0))) (wC (.str "all")))))
 (fF (kT (aq (ay df (av 0) (wC (.int 2))) de)))
 aV)
 (cp (e9 (wB (ay fA (ay df (av 0) (wC (.int 0))) (wC (.str "not"))))
 (fF (kT (aq (ay df (av 0) (wC (.int 1))) de)))
 aV)
 (fF (eT vL (ay df (av 0) (wC (.int 1)))))))
def jG:fw:=λds Q=>∃ (r:Rw) (k:Int),ds=[gv r]/\ve k r/\Q (.ow true) (.list ((n9 r).map D.int))
def yE (ds Q) (h:jG ds Q):ds.length=["row"].length:=by obtain⟨_,_,rfl,_⟩:=h;rfl
def Fv:∀ ds Q,jG ds Q->xf { nx:=λ_=>Q .sh .non,rt:=Q } (aN 1 ds):=by
 rintro ds Q ⟨r,k,rfl,hr,h⟩;unfold xf
 cases r with
 |st w d j =>
  obtain⟨hw,_⟩:=hr;rw[show gv (.st w d j)=.tup [.str w,.str d,.int j] from rfl];walk_at "q";refine R.D (λe=>?_) λe=>?_
  ·walk_at "q";exact h
  ·walk_at "q";refine R.D (λe=>?_) λe2=>?_
   ·walk_at "q";exact h
   ·exact absurd hw (by simp[e,e2])
 |nt j =>rw[show gv (.nt j)=.tup [.str "not",.int j] from rfl];walk_at "q";refine R.F (decide_eq_false GU.1) ?_;walk_at "q";refine R.F (decide_eq_false GU.2) ?_;walk_at "q";exact h
 |jn w ps =>obtain⟨hw,hl,_⟩:=hr;rw[show gv (.jn w ps)=.tup [.str w,.tup (ps.map .int)] from rfl];walk_at "q";refine R.F (decide_eq_false (AK hw).1) ?_;walk_at "q";refine R.F (decide_eq_false (AK hw).2.1) ?_;walk_at "q";refine R.F (decide_eq_false (AK hw).2.2) ?_;walk_at "q";exact .inl ⟨fD ps,h⟩
def jj:WS :=
 (cp (e9 (v3 (wB (ay fA (ay df (av 0) (wC (.int 0))) (wC (.str "some")))) (wB (ay fA (ay df (av 0) (wC (.int 0))) (wC (.str "all")))))
 (fF (qq (aq (ay df (av 0) (wC (.int 0))) (aq (ay df (av 0) (wC (.int 1))) (aq (ay df (av 1) (ay df (av 0) (wC (.int 2)))) de)))))
 aV)
 (cp (e9 (wB (ay fA (ay df (av 0) (wC (.int 0))) (wC (.str "not"))))
 (fF (qq (aq (ay df (av 0) (wC (.int 0))) (aq (ay df (av 1) (ay df (av 0) (wC (.int 1)))) de))))
 aV)
 (fF (qq (aq (ay df (av 0) (wC (.int 0))) (aq (eT xY (oJ (wU (ay df (av 0) (wC (.int 1)))) (gN 0) EG (ay df (av 1) (av 0)) 1 [1])) de))))))
def dR:fw:=λds Q=>∃ (k:Int) (r:Rw) (num:D) (f:Int->Int),ds=[gv r,num]/\ve k r/\(∀ j∈n9 r,Ig num f j)/\Q .sh (gv (LJ f r))
def lK (ds Q) (h:dR ds Q):ds.length=["row", "numbers"].length:=by obtain⟨_,_,_,_,rfl,_⟩:=h;rfl
def xQ{num:D}{f:Int->Int}{j:Int}{m':Md}{Q:Md->D->Prop}(h:Ig num f j)(q:Q .sh (.int (f j))):df .sh num m' (.int j) Q:=by
 rcases h with⟨ns,rfl,j0,e⟩|⟨ae,rfl,e⟩
 ·have a:fP (ns.map D.int) j=some (.int (f j)):=by have:=tT (xs:=ns.map D.int) (j:=j.toNat) (v:=.int (f j)) (by rw[mr,e];rfl);rwa[sD j0] at this
  exact⟨_,a,q⟩
 ·exact⟨.inl j,.int (f j),rfl,e,q⟩
def onJ(f:Int->Int):D->D
 |.int j=>.int (f j)
 |d=>d
def qm:∀ ds Q,dR ds Q->jj { nx:=λ_=>Q .sh .non,rt:=Q } (aN 2 ds):=by
 rintro ds Q ⟨k,r,num,f,rfl,ok,hn,h⟩;unfold jj
 cases r with
 |st w d j =>
  obtain⟨hw,hd,j0,j1⟩:=ok;have fin:∀ Q':Md->D->Prop,Q' .sh (.int (f j))->df .sh num .sh (.int j) Q':=λQ' q=>xQ (hn j (kD.mpr rfl)) q;rw[show gv (.st w d j)=.tup [.str w,.str d,.int j] from rfl];walk_at "q";refine R.D (λe=>?_) λe=>?_
  ·walk_at "q";refine fin _ ?_;walk_at "q";exact h
  ·walk_at "q";refine R.D (λe=>?_) λe2=>?_
   ·walk_at "q";refine fin _ ?_;walk_at "q";exact h
   ·exact absurd hw (by simp[e,e2])
 |nt j =>rw[show gv (.nt j)=.tup [.str "not",.int j] from rfl];walk_at "q";refine R.F (decide_eq_false GU.1) ?_;walk_at "q";refine R.F (decide_eq_false GU.2) ?_;walk_at "q";refine xQ (hn j (kD.mpr rfl)) ?_;walk_at "q";exact h
 |jn w ps =>
  obtain⟨hw,hl,hp⟩:=ok;rw[show gv (.jn w ps)=.tup [.str w,.tup (ps.map .int)] from rfl];walk_at "q";refine R.F (decide_eq_false (AK hw).1) ?_;walk_at "q";refine R.F (decide_eq_false (AK hw).2.1) ?_;walk_at "q";refine R.F (decide_eq_false (AK hw).2.2) ?_;walk_at "q";refine cY (λ_=>true) (onJ f) (λρ=>∃ o,ρ=[o,some (.sh num)]) _ _ _ ⟨_,rfl⟩ ?_ ?_
  ·rintro x hx ρ ⟨o,rfl⟩ N1 N2 h1 h2;obtain⟨j,hj,rfl⟩:=iq.mp hx;walk_at "q";refine xQ (hn j hj) ?_;exact⟨.inl rfl,h2 _ ⟨_,rfl⟩ rfl⟩
  ·have e:((ps.map D.int).filter λ_=>true).map (onJ f)=(ps.map f).map D.int:=by rw[List.filter_eq_self.mpr (λ_ _=>rfl),om,om];rfl
   rw[e];exact⟨fD _,h⟩
def qd:WS :=
 (cp (e9 (v3 (uj (wB (eT (A3 "str") (av 0)))) (uj (wB (jd AF AF (wC (.int 1)) (eT ky (av 0)) (wC (.int 6))))))
 (fF (wC (.bl false)))
 aV)
 (fF (eT RX (oJ (yS (av 0)) (gN 0) EG (ay (yB false) (av 0) (wC (.str "abcdefghijklmnopqrstuvwxyz"))) 1 []))))
def yQ{c:Nat}:Cb ⟨#[c]⟩ abc=isLet c:=by
 rw[Dt];have:abc.cps.toList=(List.range 26).map (97 + ·):=ou;rw[this];apply B1.mpr;simp only[decide_eq_true_eq,isLet,iq,BU];constructor
 ·rintro⟨i,hi,rfl⟩;lia
 ·intro h;exact⟨c-97,by lia,by lia⟩
def iK:fw:=λds Q=>∃ x:Str,ds=[.str x]/\Q .sh (.bl (decide (1<=x.length/\x.length<=6) && (sg x).all isLet))
def qy (ds Q) (h:iK ds Q):ds.length=["thing"].length:=by obtain⟨_,rfl,_⟩:=h;rfl
def yf:∀ ds Q,iK ds Q->qd { nx:=λ_=>Q .sh .non,rt:=Q } (aN 1 ds):=by
 rintro ds Q ⟨x,rfl,h⟩;unfold qd;walk_at "q";refine R.F rfl ?_;walk_at "q";refine R.D (λh1=>?_) λh1=>?_
 ·walk_at "q";refine R.B (λh2=>?_) λh2=>?_;rotate_left
  ·have h2:x.length<=6:=by simp at h2;lia
   walk_at "q"
   refine cY (λ_=>true) (λd=>match d with
    |.str z=>.bl (Cb z abc)
    |d=>d) (λρ=>∃ o,ρ=[o]) _ _ _ ⟨_,rfl⟩ ?_ ?_
   ·rintro y hy ρ ⟨o,rfl⟩ N1 N2 _ h2;obtain⟨c,hc,rfl⟩:=iq.mp hy;walk_at "q";exact⟨.inl rfl,h2 _ ⟨_,rfl⟩ rfl⟩
   ·rw[iD];refine⟨(sg x).map isLet,?_,?_⟩
    ·unfold RV;rw[om,om];refine HV λc _=>?_;show D.bl (Cb ⟨#[c]⟩ abc)=_;rw[yQ];rfl
    ·rw[decide_eq_true (by lia),QN] at h;rw[P5];exact h
  ·have h2:¬ x.length<=6:=by simp at h2;lia
   walk_at "q";rw[decide_eq_false (by lia),Bool.false_and] at h;exact h
 ·walk_at "q";rw[decide_eq_false (by lia),Bool.false_and] at h;exact h
def mV:WS :=
 (fF (jo (eT (A3 "int") (av 0)) (Al (eT (A3 "bool") (av 0)))))
def gF:fw:=λds Q=>∃ d:D,ds=[d]/\Q .sh (.bl (decide (d.ty = "int")))
def pq (ds Q) (h:gF ds Q):ds.length=["thing"].length:=by obtain⟨_,rfl,_⟩:=h;rfl
def u9:∀ ds Q,gF ds Q->mV { nx:=λ_=>Q .sh .non,rt:=Q } (aN 1 ds):=by
 rintro ds Q ⟨d,rfl,h⟩;unfold mV;walk_at "q";cases d<;>first
  | (refine R.F rfl ?_;walk_at "q";exact h)
  | (refine R.T rfl ?_;walk_at "q";first|exact h|(refine R.T rfl ?_;walk_at "q";exact h)|(refine R.F rfl ?_;walk_at "q";exact h))
def jh:WS :=
 (e9 (uj (wB (eT (A3 "str") (av 0))))
 (iz "NoText" (wC (.str "this is no text")))
 aV)
def dX:fw:=λds Q=>∃ d:D,ds=[d]/\((∃ t,d=.str t)->Q .sh .non)/\((¬ ∃ t,d=.str t)->Q (.ow false) (.str "NoText"))
def lQ (ds Q) (h:dX ds Q):ds.length=["thing"].length:=by obtain⟨_,rfl,_⟩:=h;rfl
def qi:∀ ds Q,dX ds Q->jh { nx:=λ_=>Q .sh .non,rt:=Q } (aN 1 ds):=by
 rintro ds Q ⟨d,rfl,h1,h2⟩;unfold jh
 cases d with
 |str t =>walk_at "q";refine R.F rfl ?_;walk_at "q";exact h1 ⟨t,rfl⟩
 |_ =>walk_at "q";refine R.T rfl ?_;walk_at "q";exact h2 (λ⟨t,z⟩=>nomatch z)
def wJ:WS :=
 (cp (e9 (wB (ay fA (eT ky (vH 0)) (wC (.int 0))))
 (iz "NoText" (wC (.str "a sentence is lacking")))
 aV)
 (qM 0 (G6 0)))
def fV:GH:=λxs ds Q Y=>ds=[]/\(xs=[]->Y "NoText")/\∀ ys x,xs=ys++[x]->Q ys (.int x)
def yC(xs ds Q Y)(h:fV xs ds Q Y):ds.length+1=1:=by rw[h.1];rfl
def Fz:∀ a xs ds Q Y,xs.length<=bI->fV xs ds Q Y->wJ { nx:=λ_=>False,rt:=CY a Q Y } (jb 1 a xs ds):=by
 rintro a xs ds Q Y hz ⟨rfl,h1,h2⟩;unfold wJ jb;walk_at "q";refine⟨_,_,rfl,?_⟩;walk_at "q";refine R.D (λe=>?_) λe=>?_
 ·walk_at "q";exact h1 (Sz.mp (by lia))
 ·walk_at "q";have mE:xs≠[]:=λz=>e (by rw[z];rfl);have ex:=(Vd mE).symm;refine⟨a,xs.dropLast,xs.getLast mE,by rw[<- ex];rfl,a,xs.dropLast,rfl,rfl,_,rfl,rfl,?_,h2 _ _ ex⟩;rw[Vh];lia
def gh:WS :=
 (cp (e9 (wB (ay fA (eT ky (av 1)) (wC (.int 0))))
 (fF (kT (aq (FY [("and", "yes"),("or", "no")] (av 0)) de)))
 aV)
 (cp (e8 2 (kT de))
 (cp (A4 1 (y2 (lA (sd (av 1) bw (cO (eT CH (wC (.int 1)))))) (gN 3)
 (Zu (uk 2) (ay fz (kT (aq (FY [("and", "both"),("or", "either")] (av 0)) de)) (av 3)))))
 (fF (ay fz (av 2) (ay df (av 1) (eT CH (wC (.int 1)))))))))
def se(p:List Str):D:=.list (p.map .str)
def cH:fw:=λds Q=>∃ (w:Str) (l:List (List Str)),ds=[.str w,.list (l.map se)]/\(w = "and"\/w = "or")/\l.length<=200/\(∀ p∈l,p.length<=200)/\Q (.ow true) (.list ((Sd w l).map .str))
def jx (ds Q) (h:cH ds Q):ds.length=["word", "parts"].length:=by obtain⟨_,_,rfl,_⟩:=h;rfl
theorem ni(j:Str)(p:List Str):∀ l:List (List Str),LN j (l++[p])=(l.map (j :: ·)).flatten++p
 |[]=>rfl
 |[q]=>by simp[LN]
 |q :: r :: l=>by have:=ni j p (r :: l);show j :: (q++LN j ((r :: l)++[p]))=_;rw[this];simp
def zL{α:Type}(l:List α):kP l none (some (-1))=l.dropLast:=by unfold kP;rw[List.dropLast_eq_take];simp only[HT.cE];rw[if_pos (by decide)];show List.take (((l.length:Int) + -1).toNat-0) (l.drop 0)=_;rw[List.drop_zero,Nat.sub_zero];congr 1;lia
def lZ:∀ ds Q,cH ds Q->gh { nx:=λ_=>Q .sh .non,rt:=Q } (aN 4 ds):=by
 rintro ds Q ⟨w,l,rfl,hw,hl,hp,h⟩;have g1:List.lookup w [(("and" : Str),("yes" : Str)),("or", "no")]=some (bU w)/\(bU w).length<=16777216:=by rcases hw with rfl|rfl<;>decide +kernel
 have g2:List.lookup w [(("and" : Str),("both" : Str)),("or", "either")]=some (bf w)/\(bf w).length<=16777216:=by rcases hw with rfl|rfl<;>decide +kernel
 unfold gh;walk_at "q";refine R.D (λe=>?_) λe=>?_
 ·have:l=[]:=Sz.mp (by lia);subst this;walk_at "q";unfold FY;walk_at "q";exact⟨w,_,rfl,g1.1,g1.2,h⟩
 walk_at "q";refine .inr ?_;rw[zL,<- List.map_dropLast];have dl:l.dropLast.length<=200:=by rw[Vh];lia
 have fl:∀ m:List (List Str),m.length<=200->(∀ p∈m,p.length<=200)->((m.map (bf w :: ·)).flatten).length<=m.length*201:=λm=>by
  induction m with
  |nil=>intro _ _;simp
  |cons p m ih =>intro h1 h2;have:=ih (by simp at h1;lia) λq hq=>h2 q (eA _ hq);have:=h2 p fo;simp only[gX,BH,hJ,kB];lia
 have hpd:∀ i,∀ p∈l.dropLast.take i,p.length<=200:=λi p h=>hp p (Vi _ (L8 h));refine cD _ (λi ρ=>∃ o3,ρ=[some (.sh (.str w)),some (.sh (.list (l.map se))),some (.ow true (.list (((l.dropLast.take i).map (bf w :: ·)).flatten.map .str))),o3]) ⟨none,rfl⟩ ?_ ?_
 ·rintro i x ρ hx ⟨o3,rfl⟩ N hN;rw[mr] at hx;obtain⟨p,hq,rfl⟩:=oo.mp hx;have pl:=hp p (Vi _ (rg hq));have ll:=fl (l.dropLast.take i) (by rw[mw];lia) (hpd i);rw[mw] at ll;have tk:((l.dropLast.take (i+1)).map (bf w :: ·)).flatten=((l.dropLast.take i).map (bf w :: ·)).flatten++(bf w :: p):=by rw[AU,hq];simp
  have nx:=hN _ ⟨some (.sh (se p)),by rw[tk]⟩;rw[show se p=.list (p.map .str) from rfl] at *
  walk_at "q";unfold FY;walk_at "q";rw[kF,gX] at nx;exact⟨w,_,rfl,g2.1,g2.2,by lia,.inl ⟨az p,az p,by lia,nx⟩⟩
 ·rintro ρ ⟨o3,rfl⟩;have mE:l≠[]:=λz=>e (by rw[z];rfl);have el:=(Vd mE).symm;have jl:Sd w l=LN (bf w) l:=by
   cases l with
   |nil=>exact absurd rfl mE
   |cons _ _=>rfl
  have UX:fP (l.map se) (-1)=some (se (l.getLast mE)):=by
   conv=>lhs;rw[el,kF]
   exact aP' _ _
  have pl:=hp _ (List.getLast_mem mE);have ll:=fl l.dropLast dl λq hq=>hp q (Vi _ hq);rw[jl,el,ni,kF] at h;generalize l.getLast mE=q at *
  rw[dr,E6];walk_at "q";refine⟨_,UX,?_⟩;rw[show se q=.list (q.map .str) from rfl];walk_at "q";exact⟨by lia,.inl ⟨az _,az _,h⟩⟩
def gm:WS :=
 (cp (e9 (wB (ay CF (av 1) (eT ky (av 0))))
 (fF (ay df (av 0) (av 1)))
 aV)
 (fF (wC (.int 0))))
def aO:fw:=λds Q=>∃ (ns:List Int) (k:Int),ds=[.list (ns.map .int),.int k]/\0<=k/\Q .sh (.int (ns.getD k.toNat 0))
def jr (ds Q) (h:aO ds Q):ds.length=["_law_script", "_law_k"].length:=by obtain⟨_,_,rfl,_⟩:=h;rfl
def lR:∀ ds Q,aO ds Q->gm { nx:=λ_=>Q .sh .non,rt:=Q } (aN 2 ds):=by
 rintro ds Q ⟨ns,k,rfl,hk,h⟩;unfold gm;walk_at "q";refine R.D (λhl=>?_) λhl=>?_
 ·walk_at "q";have hn:k.toNat<ns.length:=by lia
  refine⟨.int ns[k.toNat],?_,?_⟩
  ·have:=tT (xs:=ns.map D.int) (j:=k.toNat) (v:=.int ns[k.toNat]) (by simp[hn]);rwa[sD hk] at this
  ·show Q .sh _;simpa[List.getD,hn] using h
 ·walk_at "q";have:ns.getD k.toNat 0=0:=by
   have:ns.length<=k.toNat:=by lia
   simp[List.getD,PK this]
  rwa[this] at h
def jg:WS :=
 (cp (e8 2 (wC (.str "abcdefghijklmnopqrstuvwxyz")))
 (cp (e8 3 (ay fz (wC (.int 1)) (ay mP (av 0) (wC (.int 6)))))
 (cp (e8 0 (ay AB (av 0) (wC (.int 6))))
 (cp (e8 4 (kT de))
 (cp (y2 (kj (av 3)) (gN 5)
 (cp (AH (uk 4) (ay mP (av 0) (wC (.int 26))))
 (e8 0 (ay AB (av 0) (wC (.int 26))))))
 (cp (e8 6 (gn (wC (.str "")) (oJ (ph (av 4)) (gN 0) EG (ay df (av 1) (av 0)) 1 [2])))
 (cp (e9 (wB (ay fA (ay mP (ay AB (av 1) (wC (.int 6))) (wC (.int 3))) (wC (.int 1))))
 (fF (oJ (tG (wC (.int 1)) (wC (.int 7))) (gN 0) EG (sd (ay Ak (wC (.int 6)) (av 1)) bw (cO (av 0))) 1 [6]))
 aV)
 (cp (e8 7 (ay mP (av 1) (av 3)))
 (cp (e8 8 (kT de))
 (cp (y2 (kj (wC (.int 6))) (gN 5)
 (cp (e8 9 (ay df (av 2) (ay mP (ay fz (ay df (av 4) (av 7)) (ay FP (wC (.int 5)) (av 5))) (wC (.int 26)))))
 (AH (uk 8) (ay fz (ay fz (sd (av 6) bw (cO (av 7))) (av 9)) (sd (av 6) (cO (ay fz (av 7) (wC (.int 1)))) bw)))))
 (jD 8)))))))))))
def sS{n d:Nat}{k:Int}(h0:0<=k)(h1:k<=n):HT.cE n d (some k)=k.toNat:=by simp only[HT.cE];rw[if_neg (by lia)];lia
def yl{x:Str}{k:Int}(h0:0<=k)(h1:k<=x.length):(nE x none (some k)).length=k.toNat:=by
 unfold nE Str.length at *
 simp only[jS,mw,BI,zv];rw[sS h0 (by simpa using h1)];simp[HT.cE];lia
def Dm{x:Str}{k:Int}(h0:0<=k)(h1:k<=x.length):(nE x (some k) none).length=x.length-k.toNat:=by
 unfold nE Str.length at *
 simp only[jS,mw,BI,zv];rw[sS h0 (by simpa using h1)];simp[HT.cE]
def zR{n:Int}{z:Str}(h:lets z):lets (xA n z):=λc hc=>by unfold xA sg at hc;rw[List.toList_toArray] at hc;obtain⟨l,hl,sP⟩:=List.mem_flatten.mp hc;rw[List.eq_of_mem_replicate hl] at sP;exact h c sP
theorem mD:∀ (l:List Str),iM (l.map D.str)=some l
 |[]=>rfl
 |x :: l=>by simp[iM,mD l]
def DN{p:Int}(h0:0<=p)(h1:p<26):fP (sg abc) p=some (97+p.toNat):=by
 have:fP (sg abc) ((p.toNat:Nat):Int)=some (97+p.toNat):=tT (by
  rw[ou];have:p.toNat<26:=by lia
  simp[this])
 rwa[sD h0] at this
theorem i_:∀ l:List Nat,sg (Str.join "" (l.map λc=>(⟨#[c]⟩:Str)))=l
 |[]=>by decide +kernel
 |[c]=>rfl
 |c :: d :: l=>by have ih:=i_ (d :: l);show sg ((⟨#[c]⟩:Str) ++ "" ++ Str.join "" ((d :: l).map λc=>(⟨#[c]⟩:Str)))=_;rw[cI,cI,ih,show sg ("" : Str)=[] by decide +kernel];rfl
theorem tO:∀ l:List Nat,(l.map λ_=>1).sum=l.length
 |[]=>rfl
 |x :: l=>by simp[tO l];lia
def dN:fw:=λds Q=>∃ c t:Int,ds=[.int c,.int t]/\∀ names:List Str,names.length=6->(∀ n∈names,Open n)->Q (.ow true) (.list (names.map .str))
def mj (ds Q) (h:dN ds Q):ds.length=["_law_cell", "_law_turn"].length:=by obtain⟨_,_,rfl,_⟩:=h;rfl
def pJ:∀ ds Q,dN ds Q->jg { nx:=λ_=>Q .sh .non,rt:=Q } (aN 10 ds):=by
 rintro ds Q ⟨c,t,rfl,h⟩;unfold jg;walk_at "q";have s0:=xS c (show(6:Int)≠0 by decide);have s1:=zl c (show(0:Int)<6 by decide);generalize hZ:1+c % 6=size at *
 refine⟨by lia,by lia,?_⟩;refine cD _ (λi ρ=>∃ (cc:Int) (ps:List Int) (o:Option Sl),ps.length=i/\(∀ p∈ps,0<=p/\p<26)/\ρ=[some (.sh (.int cc)),some (.sh (.int t)),some (.sh (.str abc)),some (.sh (.int size)),some (.ow true (.list (ps.map .int))),o,none,none,none,none]) ⟨_,[],_,rfl,(λp hp=>nomatch hp),rfl⟩ ?_ ?_
 ·rintro i x ρ hx ⟨cc,ps,o,hl,hp,rfl⟩ N hN;obtain⟨hi,rfl⟩:=lH hx;walk_at "q";refine⟨by lia,?_⟩;rw[ints_app];refine hN _ ⟨_,ps++[cc % 26],_,by simp[hl],λp sR=>?_,rfl⟩;rcases eK.mp sR with h'|h'
  ·exact hp p h'
  ·rw[kD.mp h'];exact⟨xS _ (by decide),zl _ (by decide)⟩
 rintro ρ ⟨cc,ps,o,hl,hp,rfl⟩;rw[jF] at hl;walk_at "q";have e0:(Str.ofString "").length=0:=by decide
 refine cY (λ_=>true) (λd=>match d with
  |.int p=>.str ⟨#[97+p.toNat]⟩
  |d=>d) (λρ=>∃ o,ρ=[o,some (.sh (.str abc))]) _ _ _ ⟨_,rfl⟩ ?_ ?_
 ·rintro y hy ρ ⟨o,rfl⟩ N1 N2 _ h2;obtain⟨p,sR,rfl⟩:=iq.mp hy;walk_at "q";exact⟨_,DN (hp p sR).1 (hp p sR).2,.inl rfl,h2 _ ⟨_,rfl⟩ rfl⟩
 rw[iD];refine⟨(ps.map λp=>97+p.toNat).map λc=>⟨#[c]⟩,?_,?_,?_⟩
 ·rw[om,<- mD,om,om];rfl
 ·rw[e0,om,Nat.mul_zero,S0];show((ps.map λp=>97+p.toNat).map λ_=>1).sum<=_;rw[tO,dr];lia
 have hw:=i_ (ps.map λp=>97+p.toNat);generalize Str.join "" ((ps.map λp=>97+p.toNat).map λc=>(⟨#[c]⟩:Str))=word at hw ⊢;have wl:word.length=size.toNat:=by
  have:(sg word).length=size.toNat:=by rw[hw,dr,hl]
  rw[<- this];unfold sg Str.length;simp
 have ZL:lets word:=λch hc=>by rw[hw] at hc;obtain⟨p,sR,rfl⟩:=iq.mp hc;have:=hp p sR;simp[isLet];lia
 refine R.D (λ_=>?_) λ_=>?_
 ·walk_at "q"
  refine cY (λ_=>true) (λd=>match d with
   |.int k=>.str (nE (xA 6 word) none (some k))
   |d=>d) (λρ=>∃ o,ρ=[o,some (.sh (.str word))]) _ _ _ ⟨_,rfl⟩ ?_ ?_
  ·rintro y hy ρ ⟨o,rfl⟩ N1 N2 _ h2;obtain⟨i,hi,rfl⟩:=yU hy;walk_at "q";exact⟨by lia,.inl rfl,h2 _ ⟨_,rfl⟩ rfl⟩
  ·rw[iD]
   have e6:(List.map (λd=>match d with
    |.int k=>D.str (nE (xA 6 word) none (some k))
    |d=>d) (kI 1 6))=((List.range 6).map λi=>nE (xA 6 word) none (some (1+(i:Nat):Int))).map D.str:=by
    unfold kI;rw[om,om];rfl
   rw[e6];refine h _ (by simp) λn hn=>?_;obtain⟨i,hi,rfl⟩:=iq.mp hn;have hi:i<6:=by simpa using hi
   have l1:(nE (xA 6 word) none (some (1+(i:Nat):Int))).length=(1+(i:Int)).toNat:=yl (by lia) (by rw[rR,wl];simp;lia);exact⟨by rw[l1];lia,by rw[l1];lia,oK (zR ZL) _ _⟩
 ·walk_at "q";refine⟨by lia,?_⟩;have a0:=xS t (show size≠0 by lia);have a1:=zl t (show 0<size by lia);generalize t % size=at' at *
  have l1:(nE word none (some at')).length=at'.toNat:=yl a0 (by lia);have l2:(nE word (some (at'+1)) none).length=word.length-(at'+1).toNat:=Dm (by lia) (by lia);refine cD _ (λi ρ=>∃ (names:List Str) (o5 o9:Option Sl),names.length=i/\(∀ n∈names,Open n)/\ρ=[some (.sh (.int cc)),some (.sh (.int t)),some (.sh (.str abc)),some (.sh (.int size)),some (.ow true (.list (ps.map .int))),o5,some (.sh (.str word)),some (.sh (.int at')),some (.ow true (.list (names.map .str))),o9]) ⟨[],_,_,rfl,(λn hn=>nomatch hn),rfl⟩ ?_ ?_
  ·rintro i x ρ hx ⟨names,o5,o9,hn,hd,rfl⟩ N hN;obtain⟨hi,rfl⟩:=lH hx;have hi:i<6:=hi;walk_at "q";have UY:at'.toNat<ps.length:=by lia
   refine⟨.int ps[at'.toNat],?_,?_⟩
   ·have:=tT (xs:=ps.map D.int) (j:=at'.toNat) (v:=.int ps[at'.toNat]) (by simp[UY]);rwa[sD a0] at this
   walk_at "q";obtain⟨ch,ec,lc⟩:=DK (ps[at'.toNat]+5*(0+(i:Int)));refine⟨.inl ⟨by lia,by lia⟩,ch,ec,?_⟩;refine⟨by rw[l1,fU];lia,by rw[l1,l2,fU];lia,by lia,?_⟩;rw[su];refine hN _ ⟨names++[_],_,_,by simp[hn],λn E9=>?_,rfl⟩;rcases eK.mp E9 with h'|h'
   ·exact hd n h'
   ·obtain rfl:n=_:=by simpa using h'
    refine⟨?_,?_,tL (tL (oK ZL _ _) (Av lc)) (oK ZL _ _)⟩
    ·rw[aK,aK,l1,l2,fU];lia
    ·rw[aK,aK,l1,l2,fU];lia
  ·rintro ρ ⟨names,o5,o9,hn,hd,rfl⟩;rw[jF] at hn;walk_at "q";exact h names hn hd
def bO:WS :=
 (e9 (wB (ay CF (av 7) (wC (.int 3))))
 (AH (uk 3) (wC (.str "not")))
 (e9 (wB (ay CF (av 7) (wC (.int 6))))
 (e8 3 (ay fz (av 3) (kT (aq (ay df (kT (aq (wC (.str "some")) (aq (wC (.str "all")) de))) (ay mP (ay AB (av 6) (wC (.int 9))) (wC (.int 2)))) (aq (ay df (av 2) (ay mP (ay AB (av 6) (wC (.int 18))) (eT ky (av 2)))) de)))))
 (cp (AH (uk 3) (ay df (kT (aq (wC (.str "both")) (aq (wC (.str "either")) de))) (ay mP (ay AB (av 6) (wC (.int 9))) (wC (.int 2)))))
 (e8 4 (ay fz (av 4) (wC (.int 1)))))))
def bK:WS :=
 (e9 (Ux (wB (ay CF (av 7) (wC (.int 2)))) (wB (ay OG (av 4) (wC (.int 1)))))
 (cp (AH (uk 3) (ay df (kT (aq (wC (.str "yes")) (aq (wC (.str "no")) de))) (av 7)))
 (e8 4 (ay OB (av 4) (wC (.int 1)))))
 bO)
def cZ:WS :=
 (cp (y2 (kj (av 4)) (gN 5)
 (AH (uk 3) (ay df (kT (aq (wC (.str "yes")) (aq (wC (.str "no")) de))) (ay mP (ay mP (ay FP (ay FP (ay fz (ay mP (av 1) (wC (.int 1000003))) (wC (.int 3))) (ay fz (av 5) (wC (.int 5)))) (wC (.int 48271))) (wC (.int 10007))) (wC (.int 2))))))
 (jD 3))
def ji:WS :=
 (cp (e8 3 (kT de))
 (cp (e8 4 (wC (.int 1)))
 (cp (y2 (kj (eT ky (av 0))) (gN 5)
 (cp (e8 6 (ay mP (ay FP (ay fz (ay mP (ay df (av 0) (av 5)) (wC (.int 2147483647))) (wC (.int 1))) (ay fz (wC (.int 48271)) (ay FP (wC (.int 7)) (av 5)))) (wC (.int 2147483647))))
 (cp (e8 7 (ay mP (av 6) (wC (.int 9))))
 bK)))
 cZ)))
def pf(w:Str):Prop:=w.length<=6/\32∉sg w
def GF{w:Str}(h:xB w):pf w:=by
 refine⟨h.len,λz=>?_⟩;rcases h with rfl|h
 ·exact absurd z (by decide +kernel)
 ·have:=h.2.2 32 z;cases this
def dG:fw:=λds Q=>∃ (cs:List Int) (tl:Int) (ns:List Str),ds=[.list (cs.map .int),.int tl,.list (ns.map .str)]/\cs.length<=55/\1<=ns.length/\ns.length<=100/\(∀ n∈ns,xB n)/\∀ (kC:List Str) (y:Str),(y = "yes"\/y = "no")->fm 1 (kC++[y])=true->kC.length<=111->(∀ w∈kC++[y],pf w)->Q (.ow true) (.list ((kC++[y]).map .str))
def lJ (ds Q) (h:dG ds Q):ds.length=["_law_cells", "_law_tail", "_law_names"].length:=by obtain⟨_,_,_,rfl,_⟩:=h;rfl
abbrev ZM(cs:List Int)(tl:Int)(ns:List Str)(m:Nat)(ρ:L2.Q.Env):Prop:=∃ (ws:List Str) (n:Nat) (o5 o6 o7:Option Sl),ρ=[some (.sh (.list (cs.map .int))),some (.sh (.int tl)),some (.sh (.list (ns.map .str))),some (.ow true (.list (ws.map .str))),some (.sh (.int ((n+1:Nat):Int))),o5,o6,o7]/\(∀ rest,fm 1 (ws++rest)=fm (n+1) rest)/\ws.length+n<=m/\∀ w∈ws,pf w
def yr{ws vs:List Str}(h:∀ w∈ws,pf w)(g:∀ w∈vs,pf w):∀ w∈ws++vs,pf w:=λw hw=>(eK.mp hw).elim (h w) (g w)
def UZ{w:Str}(h:pf w):∀ v∈[w],pf v:=λv hv=>by rw[kD.mp hv];exact h
def ur(x y:Str){i:Int}(h0:0<=i)(h1:i<2):∃ w,fP [D.str x,D.str y] i=some (.str w)/\(w=x\/w=y):=by
 have:i=0\/i=1:=by lia
 rcases this with rfl|rfl
 ·exact⟨x,rfl,.inl rfl⟩
 ·exact⟨y,rfl,.inr rfl⟩
def sJ{cs:List Int}{tl number:Int}{ns ws:List Str}{n m:Nat}{o5:Option Sl}{E:eO}(n1:1<=ns.length)(hd:∀ n∈ns,xB n)(hm:m<=1000)(hw:∀ rest,fm 1 (ws++rest)=fm (n+1) rest)(hl:ws.length+n<=m)(aI:∀ w∈ws,pf w)(hx:∀ ρ,ZM cs tl ns (m+2) ρ->E.nx ρ) :
  bO E [some (.sh (.list (cs.map .int))),some (.sh (.int tl)),some (.sh (.list (ns.map .str))),some (.ow true (.list (ws.map .str))),some (.sh (.int ((n+1:Nat):Int))),o5,some (.sh (.int number)),some (.sh (.int (number % 9)))]:=by
 have w0:=xS number (show(9:Int)≠0 by decide);have w9:=zl number (show(0:Int)<9 by decide);have t0:=xS (number / 9) (show(2:Int)≠0 by decide);have t2:=zl (number / 9) (show(0:Int)<2 by decide);have d0:=xS (number / 18) (show(ns.length:Int)≠0 by lia);have d1:=zl (number / 18) (show(0:Int)<ns.length by lia);have nx:∀ (vs:List Str) (n':Nat),(∀ rest,fm (n+1) (vs++rest)=fm (n'+1) rest)->vs.length+n'<=n+2->(∀ w∈vs,pf w)->∀ o5 o6 o7,E.nx [some (.sh (.list (cs.map .int))),some (.sh (.int tl)),some (.sh (.list (ns.map .str))),some (.ow true (.list (ws.map .str++vs.map .str))),some (.sh (.int ((n'+1:Nat):Int))),o5,o6,o7]:=λvs n' h1 h2 h3 o5 o6 o7 =>
  hx _ ⟨ws++vs,n',o5,o6,o7,by rw[kF],λrest=>by rw[oI,hw,h1],by rw[hJ];lia,yr aI h3⟩
 unfold bO;walk_at "q";refine R.D (λe=>?_) λe=>?_
 ·walk_at "q";refine⟨by lia,?_⟩;exact nx ["not"] n (λrest=>by rw[HP,b8 Gr.1,Gr.2]) (by simp;lia) (UZ (by unfold pf;decide +kernel)) _ _ _
 walk_at "q";refine R.D (λe2=>?_) λe2=>?_
 ·obtain⟨w,ew,AO⟩:=ur "some" "all" t0 t2;have ed:=tT (xs:=ns.map D.str) (j:=(number / 18 % (ns.length:Int)).toNat) (v:=.str (ns[(number / 18 % (ns.length:Int)).toNat]'(by lia))) (by
   rw[mr,vk (by lia)];rfl)
  rw[sD d0] at ed;have FG:=hd _ (P1 (l:=ns) (n:=(number / 18 % (ns.length:Int)).toNat) (by lia));generalize ns[(number / 18 % (ns.length:Int)).toNat]'(by lia)=d at *
  have un:∀ rest,fm (n+1) ([w,d]++rest)=fm (n+1) rest:=λrest=>by show(if iX w then _ else _)=_;rw[if_pos AO,cA.mpr FG,QN];rfl
  have ww:∀ v∈[w,d],pf v:=λv hv=>by
   simp only[eJ,BM,or_false] at hv;rcases hv with rfl|rfl
   ·unfold pf;rcases AO with rfl|rfl<;>decide +kernel
   ·exact GF FG
  have:=nx [w,d] n un (by simp;lia) ww;walk_at "q";refine⟨_,ew,?_⟩;walk_at "q";refine⟨by lia,_,ed,?_⟩;walk_at "q";exact⟨by lia,.inl ⟨az ws,this _ _ _⟩⟩
 ·obtain⟨w,ew,AO⟩:=ur "both" "either" t0 t2;have:=nx [w] (n+1) (λrest=>by rw[HP,b8 (Dz AO).1,(Dz AO).2]) (by simp;lia) (UZ (by unfold pf;rcases AO with rfl|rfl<;>decide +kernel));walk_at "q";refine⟨_,ew,?_⟩;walk_at "q";refine⟨by lia,?_⟩;exact this _ _ _
def Az{cs:List Int}{tl number:Int}{ns ws:List Str}{n m:Nat}{o5:Option Sl}{E:eO}(n1:1<=ns.length)(hd:∀ n∈ns,xB n)(hm:m<=1000)(hw:∀ rest,fm 1 (ws++rest)=fm (n+1) rest)(hl:ws.length+n<=m)(aI:∀ w∈ws,pf w)(hx:∀ ρ,ZM cs tl ns (m+2) ρ->E.nx ρ) :
  bK E [some (.sh (.list (cs.map .int))),some (.sh (.int tl)),some (.sh (.list (ns.map .str))),some (.ow true (.list (ws.map .str))),some (.sh (.int ((n+1:Nat):Int))),o5,some (.sh (.int number)),some (.sh (.int (number % 9)))]:=by
 have w0:=xS number (show(9:Int)≠0 by decide);have w9:=zl number (show(0:Int)<9 by decide);have nx:∀ (vs:List Str) (n':Nat),(∀ rest,fm (n+1) (vs++rest)=fm (n'+1) rest)->vs.length+n'<=n+2->(∀ w∈vs,pf w)->∀ o5 o6 o7,E.nx [some (.sh (.list (cs.map .int))),some (.sh (.int tl)),some (.sh (.list (ns.map .str))),some (.ow true (.list (ws.map .str++vs.map .str))),some (.sh (.int ((n'+1:Nat):Int))),o5,o6,o7]:=λvs n' h1 h2 h3 o5 o6 o7 =>
  hx _ ⟨ws++vs,n',o5,o6,o7,by rw[kF],λrest=>by rw[oI,hw,h1],by rw[hJ];lia,yr aI h3⟩
 obtain⟨w1,e1⟩:∃ w,w=bO:=⟨_,rfl⟩
 unfold bK;rw[<- e1];walk_at "q";refine R.D (λe=>?_) λe=>?_;rotate_left
 ·walk_at "q";rw[e1];exact sJ n1 hd hm hw hl aI hx
 walk_at "q";refine R.D (λe2=>?_) λe2=>?_;rotate_left
 ·walk_at "q";rw[e1];exact sJ n1 hd hm hw hl aI hx
 obtain⟨w,ew,AO⟩:=ur "yes" "no" w0 e;obtain⟨n',rfl⟩:∃ n',n=n'+1:=⟨n-1,by lia⟩
 have:=nx [w] n' (λrest=>by rw[HP,b8 (vI AO).1,(vI AO).2]) (by simp;lia) (UZ (by unfold pf;rcases AO with rfl|rfl<;>decide +kernel));walk_at "q";refine⟨_,ew,?_⟩;walk_at "q";refine⟨by lia,?_⟩;rw[show((n'+1+1:Nat):Int)-1=((n'+1:Nat):Int) by lia];exact this _ _ _
def p_:∀ ds Q,dG ds Q->ji { nx:=λ_=>Q .sh .non,rt:=Q } (aN 8 ds):=by
 rintro ds Q ⟨cs,tl,ns,rfl,hc,n1,n2,hd,h⟩;obtain⟨w0,e0⟩:∃ w,w=bK:=⟨_,rfl⟩
 obtain⟨w3,e3⟩:∃ w,w=cZ:=⟨_,rfl⟩
 unfold ji;rw[<- e0,<- e3];walk_at "q";refine⟨by lia,by lia,?_⟩;refine cD _ (λi ρ=>ZM cs tl ns (2*i) ρ) ⟨[],0,none,none,none,rfl,λrest=>rfl,by simp,λ_ z=>nomatch z⟩ ?_ ?_
 ·rintro i x ρ hx ⟨ws,n,o5,o6,o7,rfl,hw,hl,aI⟩ N hN;obtain⟨hi,rfl⟩:=lH hx;have ny:i<cs.length:=by lia
  have ea:=tT (xs:=cs.map D.int) (j:=i) (v:=.int cs[i]) (by simp[ny]);rw[show((i:Nat):Int)=0+(i:Int) by lia] at ea;walk_at "q";refine⟨_,ea,?_⟩;walk_at "q";rw[e0];refine⟨.inl ⟨by lia,by lia⟩,.inr ⟨by lia,by lia⟩,?_⟩;refine Az n1 hd (by lia) hw hl aI ?_;intro bt hr;exact hN bt hr
 ·rintro ρ ⟨ws,n,o5,o6,o7,rfl,hw,hl,aI⟩;rw[jF] at hl;rw[e3];unfold cZ;walk_at "q";refine⟨by lia,by lia,?_⟩;rw[My];refine cD _ (λj ρ=>∃ (vs:List Str) (o5:Option Sl),ρ=[some (.sh (.list (cs.map .int))),some (.sh (.int tl)),some (.sh (.list (ns.map .str))),some (.ow true (.list (vs.map .str))),some (.sh (.int ((n+1:Nat):Int))),o5,o6,o7]/\(∀ rest,fm 1 (vs++rest)=fm (n+1-j) rest)/\vs.length=ws.length+j/\(∀ w∈vs,pf w)/\(0<j->∃ (T7:List Str) (y:Str),vs=T7++[y]/\(y = "yes"\/y = "no"))) ⟨ws,o5,rfl,hw,rfl,aI,λz=>absurd z (xE 0)⟩ ?_ ?_
  ·rintro j x ρ hx ⟨vs,o5,rfl,hv,vl,GW,_⟩ N hN;obtain⟨hj,rfl⟩:=lH hx;walk_at "q";obtain⟨y,ey,hy⟩:=ur "yes" "no" (i:=(tl % 1000003+3)*(0+(j:Int)+5)*48271 % 10007 % 2) (xS _ (by decide)) (zl _ (by decide));refine⟨.inr ⟨by lia,by lia⟩,.inr ⟨by lia,by lia⟩,_,ey,?_⟩;have:=hN [some (.sh (.list (cs.map .int))),some (.sh (.int tl)),some (.sh (.list (ns.map .str))),some (.ow true (.list (vs.map .str++[.str y]))),some (.sh (.int ((n+1:Nat):Int))),some (.sh (.int (0+(j:Int)))),o6,o7] ⟨vs++[y],_,by rw[kF];rfl,λrest=>by
    rw[oI,hv,show n+1-j=(n-j)+1 by lia,HP,b8 (vI hy).1,(vI hy).2,show n+1-(j+1)=n-j by lia];rfl,by rw[hJ,vl];rfl,yr GW (UZ (by unfold pf;rcases hy with rfl|rfl<;>decide +kernel)),λ_=>⟨vs,y,rfl,hy⟩⟩
   walk_at "q";exact⟨by lia,this⟩
  ·rintro ρ ⟨vs,o5,rfl,hv,vl,GW,cX'⟩;rw[jF] at hv vl cX';obtain⟨T7,y,rfl,hy⟩:=cX' (by lia);have e0:=hv [];rw[kE,SY] at e0;rw[hJ,L7] at vl;walk_at "q";exact h T7 y hy e0 (by lia) GW
def gq:WS :=
 (cp (e9 (wB (ay fA (av 0) (wC (.str "*"))))
 (fF (wC (.bl true)))
 aV)
 (cp (e9 (uj (wB (jd AF AF (wC (.int 1)) (eT ky (av 0)) (wC (.int 6)))))
 (fF (wC (.bl false)))
 aV)
 (cp (A4 0 (y2 (yS (av 0)) (gN 1)
 (e9 (wB (ay (yB true) (av 1) (wC (.str "abcdefghijklmnopqrstuvwxyz"))))
 (fF (wC (.bl false)))
 aV)))
 (fF (wC (.bl true))))))
def cC:fw:=λds Q=>∃ x:Str,ds=[.str x]/\Q .sh (.bl (bR x))
def jB (ds Q) (h:cC ds Q):ds.length=["_law_word"].length:=by obtain⟨_,rfl,_⟩:=h;rfl
def lW:∀ ds Q,cC ds Q->gq { nx:=λ_=>Q .sh .non,rt:=Q } (aN 2 ds):=by
 rintro ds Q ⟨x,rfl,h⟩;unfold bR at h;unfold gq;walk_at "q";refine R.D (λe=>?_) λe=>?_
 ·walk_at "q";rw[decide_eq_true e,Bool.or_true] at h;exact h
 rw[decide_eq_false e,Bool.or_false] at h;walk_at "q";refine R.D (λh1=>?_) λh1=>?_;rotate_left
 ·walk_at "q";rw[decide_eq_false (by lia)] at h;exact h
 walk_at "q";refine R.B (λh2=>?_) λh2=>?_
 ·have h2:¬ x.length<=6:=by simp at h2;lia
  walk_at "q";rw[decide_eq_false (by lia)] at h;exact h
 have h2:x.length<=6:=by simp at h2;lia
 rw[decide_eq_true (by lia),QN] at h;walk_at "q";refine cD _ (λi ρ=>∃ o,ρ=[some (.sh (.str x)),o]/\((sg x).take i).all isLet=true) ⟨none,rfl,rfl⟩ ?_ ?_
 ·rintro i y ρ hy ⟨o,rfl,ha⟩ N hN;unfold RV at hy;rw[mr] at hy;obtain⟨c,hc,rfl⟩:=oo.mp hy;have hc:(sg x)[i]? = some c:=hc;walk_at "q";rw[yQ];have tk:(sg x).take (i+1)=(sg x).take i++[c]:=by rw[AU,hc];rfl
  refine R.B (λe=>?_) λe=>?_
  ·have e:isLet c=false:=by simpa using e
   walk_at "q";rw[show(sg x).all isLet=false from List.all_eq_false.mpr ⟨c,rg hc,by rw[e];simp⟩] at h;exact h
  ·have e:isLet c=true:=by simpa using e
   walk_at "q";exact hN _ ⟨_,rfl,by rw[tk,List.all_append,ha];simp[e]⟩
 ·rintro ρ ⟨o,rfl,ha⟩;rw[L5 (by unfold RV sg;simp)] at ha;rw[ha] at h;walk_at "q";exact h
def fK:WS :=
 (cp (e8 7 (ZG (sd (av 0) (cO (av 1)) (cO (ay fz (av 1) (wC (.int 2))))) bw bw (cO (eT CH (wC (.int 1))))))
 (fF (ay fz (ay fz (sd (av 0) bw (cO (av 1))) (av 7)) (sd (av 0) (cO (ay fz (av 1) (wC (.int 2)))) bw))))
def fG:WS :=
 (cp (e9 (wB (ay fA (av 5) (wC (.int 3))))
 (fF (ay fz (sd (av 0) bw (cO (ay fz (av 1) (wC (.int 1))))) (sd (av 0) (cO (av 1)) bw)))
 aV)
 fK)
def eY:WS :=
 (cp (e9 (wB (ay fA (av 5) (wC (.int 2))))
 (A4 6 (fF (ay fz (ay fz (sd (av 0) bw (cO (av 1))) (kT (aq (av 6) de))) (sd (av 0) (cO (ay fz (av 1) (wC (.int 1)))) bw))))
 aV)
 fG)
def fu:WS :=
 (cp (e9 (wB (ay fA (av 5) (wC (.int 1))))
 (A4 6 (fF (ay fz (ay fz (sd (av 0) bw (cO (av 1))) (kT (aq (av 6) de))) (sd (av 0) (cO (av 1)) bw))))
 aV)
 eY)
def cM:WS :=
 (cp (e9 (wB (ay fA (av 5) (wC (.int 0))))
 (fF (ay fz (sd (av 0) bw (cO (av 1))) (sd (av 0) (cO (ay fz (av 1) (wC (.int 1)))) bw)))
 aV)
 fu)
def h_:WS :=
 (cp (e8 4 (kT (aq (wC (.str "yes")) (aq (wC (.str "not")) (aq (wC (.str "some")) (aq (wC (.str "both")) (aq (wC (.str "and")) (aq (wC (.str "or")) (aq (wC (.str "Yes")) (aq (wC (.str "NOT")) (aq (wC (.str "")) (aq (wC (.str "*")) (aq (ay fz (ay df (av 3) (wC (.int 0))) (wC (.str "aaaaaa"))) (aq (wC (.str "a b")) (aq (wC (.str "1")) (aq (ay df (av 3) (wC (.int 1))) de))))))))))))))))
 (cp (e8 5 (ay mP (av 2) (wC (.int 5))))
 (cp (e8 6 (ay df (av 4) (ay mP (ay AB (av 2) (wC (.int 5))) (wC (.int 14)))))
 cM)))
def dg:fw:=λds Q=>∃ (ws:List Str) (a c:Int) (pool:List Str),ds=[.list (ws.map .str),.int a,.int c,.list (pool.map .str)]/\ws.length<=300/\(∀ w∈ws,w.length<=20)/\0<=a/\pool.length=6/\(∀ p∈pool,p.length<=6)/\∀ vs:List Str,vs.length<=1000->(∀ w∈vs,w.length<=20)->Q (.ow true) (.list (vs.map .str))
def jN (ds Q) (h:dg ds Q):ds.length=["_law_words_here", "_law_at", "_law_cell", "_law_pool"].length:=by obtain⟨_,_,_,_,rfl,_⟩:=h;rfl
def ie(l:List Str)(lo hi:Option Int):kP (l.map D.str) lo hi=(kP l lo hi).map D.str:=by unfold kP;rw[dr,List.map_take,List.map_drop]
def zH{l:List Str}{lo hi:Option Int}{x:Str}(h:x∈kP l lo hi):x∈l:=SJ (L8 h)
def Hw(l:List Str){i:Int}{k:Nat}(h0:0<=i)(h1:i<l.length)(h:∀ w∈l,w.length<=k):∃ w,fP (l.map D.str) i=some (.str w)/\w.length<=k:=by
 have hn:i.toNat<l.length:=by lia
 refine⟨l[i.toNat],?_,h _ (P1 hn)⟩;have:=tT (xs:=l.map D.str) (j:=i.toNat) (v:=.str l[i.toNat]) (by simp[hn]);rwa[sD h0] at this
theorem qj{l:List Str}:∀ ms:List D,(∀ m∈ms,m∈l.map D.str)->∃ vs:List Str,ms=vs.map D.str/\∀ v∈vs,v∈l
 |[],_=>⟨[],rfl,λ_ z=>nomatch z⟩
 |m :: ms,h=>by obtain⟨vs,rfl,hv⟩:=qj ms λx hx=>h x (eA _ hx);obtain⟨v,hv1,rfl⟩:=iq.mp (h m fo);exact⟨v :: vs,rfl,λx hx=>(eJ.mp hx).elim (λz=>z ▸ hv1) (hv x)⟩
def oV:∀ ds Q,dg ds Q->h_ { nx:=λ_=>Q .sh .non,rt:=Q } (aN 8 ds):=by
 rintro ds Q ⟨ws,a,c,pool,rfl,wl,ww,a0,pl,pw,h⟩;have ha:∀ i:Nat,i<6->∃ p,fP (pool.map D.str) (i:Int)=some (.str p)/\p.length<=6:=λi hi=>⟨pool[i]'(by lia),tT (by rw[mr,vk (by lia)];rfl),pw _ (P1 _)⟩
 obtain⟨p0,ea0,l0⟩:=ha 0 (by decide);obtain⟨p1,ea1,l1⟩:=ha 1 (by decide);have cl:∀ lo hi,(kP ws lo hi).length<=300/\∀ w∈kP ws lo hi,w.length<=20:=λlo hi=>⟨iO (jE _ _ _) wl,λw hw=>ww w (zH hw)⟩
 have two:∀ lo hi A2 nX (vs:List Str),vs.length<=300->(∀ w∈vs,w.length<=20)->Q (.ow true) (.list ((kP ws lo hi++vs++kP ws A2 nX).map .str)):=λlo hi A2 nX vs v1 v2=>by
  obtain⟨a1,a2⟩:=cl lo hi;obtain⟨b1,b2⟩:=cl A2 nX;refine h _ (by rw[hJ,hJ];lia) λw hw=>?_;rcases eK.mp hw with hw|hw
  ·rcases eK.mp hw with hw|hw
   ·exact a2 w hw
   ·exact v2 w hw
  ·exact b2 w hw
 obtain⟨w3,e3⟩:∃ w,w=cM:=⟨_,rfl⟩
 unfold h_;rw[<- e3];walk_at "q";refine⟨_,ea0,?_⟩;walk_at "q";have la:(Str.ofString "aaaaaa").length=6:=by decide +kernel
 refine⟨by lia,_,ea1,?_⟩;walk_at "q";obtain⟨w,ew,hw⟩:=Hw ["yes", "not", "some", "both", "and", "or", "Yes", "NOT", "", "*",p0 ++ "aaaaaa", "a b", "1",p1] (k:=20) (i:=c / 5 % 14) (xS _ (by decide)) (zl _ (by decide)) λw hw=>by simp only[eJ,BM,or_false] at hw;rcases hw with rfl|rfl|rfl|rfl|rfl|rfl|rfl|rfl|rfl|rfl|rfl|rfl|rfl|rfl;all_goals first|decide +kernel|(rw[aK];lia)|lia
 refine⟨_,ew,?_⟩;walk_at "q";rw[e3];unfold cM fu eY fG fK;have c1:=λlo hi=>(cl lo hi).1;have dQ:∀ (A:List Str) (x:Str),dv (A.map D.str++[.str x])=true:=λA x=>by rw[su];exact az _
 walk_at "q";refine R.D (λe=>?_) λe=>?_
 ·have q:=two none (some a) (some (a+1)) none [] (by simp) λ_ z=>nomatch z;have b1:=c1 none (some a);have b2:=c1 (some (a+1)) none;rw[kE,kF] at q;walk_at "q";simp only[ie,dr];exact .inl ⟨az _,.inl ⟨az _,by lia,.inl ⟨az _,az _,q⟩⟩⟩
 walk_at "q";refine R.D (λe1=>?_) λe1=>?_
 ·have q:=two none (some a) (some a) none [w] (by simp) λv z=>by rw[kD.mp z];exact hw
  have b1:=c1 none (some a);have b2:=c1 (some a) none;rw[kF,kF] at q;walk_at "q";simp only[ie,dr,hJ,L7];exact .inl ⟨az _,by lia,.inl ⟨az _,.inl ⟨az _,by lia,.inl ⟨dQ _ _,az _,q⟩⟩⟩⟩
 walk_at "q";refine R.D (λe2=>?_) λe2=>?_
 ·have q:=two none (some a) (some (a+1)) none [w] (by simp) λv z=>by rw[kD.mp z];exact hw
  have b1:=c1 none (some a);have b2:=c1 (some (a+1)) none;rw[kF,kF] at q;walk_at "q";simp only[ie,dr,hJ,L7];exact .inl ⟨az _,by lia,.inl ⟨az _,.inl ⟨az _,by lia,.inl ⟨dQ _ _,az _,q⟩⟩⟩⟩
 walk_at "q";refine R.D (λe3=>?_) λe3=>?_
 ·have q:=two none (some (a+1)) (some a) none [] (by simp) λ_ z=>nomatch z;have b1:=c1 none (some (a+1));have b2:=c1 (some a) none;rw[kE,kF] at q;walk_at "q";simp only[ie,dr];exact .inl ⟨az _,.inl ⟨az _,by lia,.inl ⟨az _,az _,q⟩⟩⟩
 walk_at "q";simp only[ie];refine .inl ⟨az _,?_⟩;walk_at "q";refine⟨by decide,az _,λms hm ml=>?_⟩;obtain⟨vs,rfl,hv⟩:=qj ms hm;have b1:=c1 none (some a);have b2:=c1 (some (a+2)) none;have b3:=c1 (some a) (some (a+2));rw[dr] at ml;have q:=two none (some a) (some (a+2)) none vs (by lia) λv z=>(cl _ _).2 v (hv v z);rw[kF,kF] at q;have f3:dv ((kP ws none (some a)).map D.str++vs.map D.str)=true:=by rw[<- kF];exact az _
 simp only[dr,hJ];exact .inl ⟨az _,by lia,.inl ⟨az _,az _,.inl ⟨az _,by lia,.inl ⟨f3,az _,q⟩⟩⟩⟩
def gf:WS :=
 (cp (e8 2 (kT (aq (ay fz (av 0) (wC (.str " "))) (aq (ay fz (wC (.str " ")) (av 0)) (aq (wC (.str "")) (aq (wC .non) (aq (wC (.int 7)) (aq (kT (aq (wC (.str "yes")) de)) (aq (wC (.bl true)) (aq (qq (aq (wC (.str "yes")) de)) (aq (wC (.str " ")) (aq (ay fz (av 0) (wC (.str ";"))) (aq (ay fz (wC (.str "Not ")) (av 0)) de)))))))))))))
 (uE 2 (ay mP (av 1) (wC (.int 11)))))
def U0 (t:Str):List D:=[.str (t ++ " "),.str (" " ++ t),.str "",.non,.int 7,.list [.str "yes"],.bl true,.tup [.str "yes"],.str " ",.str (t ++ ";"),.str ("Not " ++ t)]
def cJ:fw:=λds Q=>∃ (t:Str) (c:Int),ds=[.str t,.int c]/\t.length<=10000/\∀ m d,d∈U0 t->Q m d
def jC (ds Q) (h:cJ ds Q):ds.length=["_law_text", "_law_cell"].length:=by obtain⟨_,_,rfl,_⟩:=h;rfl
def lY:∀ ds Q,cJ ds Q->gf { nx:=λ_=>Q .sh .non,rt:=Q } (aN 3 ds):=by
 rintro ds Q ⟨t,c,rfl,ht,h⟩;unfold gf;walk_at "q";have l1:(Str.ofString " ").length=1/\(Str.ofString ";").length=1/\(Str.ofString "Not ").length=4:=by decide +kernel
 refine⟨by lia,by lia,by lia,by lia,?_⟩;have c0:=xS c (show(11:Int)≠0 by decide);have c1:=zl c (show(0:Int)<11 by decide);generalize c % 11=i at *
 have hi:i=0\/i=1\/i=2\/i=3\/i=4\/i=5\/i=6\/i=7\/i=8\/i=9\/i=10:=by lia
 rcases hi with rfl|rfl|rfl|rfl|rfl|rfl|rfl|rfl|rfl|rfl|rfl<;>refine⟨_,rfl,?_⟩<;>walk_at "q"<;>exact h _ _ (by simp[U0])
def qx:WS :=
 (fF (Uy (bx iK (aq (av 0) de)) (jo (eT (A3 "str") (av 0)) (ay fA (av 0) (wC (.str "*"))))))
def fM:fw:=λds Q=>∃ x:Str,ds=[.str x]/\Q .sh (.bl (bR x))
def qI (ds Q) (h:fM ds Q):ds.length=["thing"].length:=by obtain⟨_,rfl,_⟩:=h;rfl
def yH:∀ ds Q,fM ds Q->qx { nx:=λ_=>Q .sh .non,rt:=Q } (aN 1 ds):=by
 rintro ds Q ⟨x,rfl,h⟩;unfold qx;walk_at "q";refine⟨_,rfl,?_⟩;unfold bR at h;walk_at "q";refine R.B (λe=>?_) λe=>?_
 ·walk_at "q";rw[e] at h;exact h
 ·walk_at "q";refine R.T rfl ?_;walk_at "q";rw[e] at h;exact h
def mK:WS :=
 (fF (jo (bx gF (aq (av 1) de)) (jd AF CF (wC (.int 0)) (av 1) (av 0))))
def cF:fw:=λds Q=>∃ k j:Int,ds=[.int k,.int j]/\Q .sh (.bl (decide (0<=j/\j<k)))
def pW (ds Q) (h:cF ds Q):ds.length=["k", "thing"].length:=by obtain⟨_,_,rfl,_⟩:=h;rfl
def uK:∀ ds Q,cF ds Q->mK { nx:=λ_=>Q .sh .non,rt:=Q } (aN 2 ds):=by
 rintro ds Q ⟨k,j,rfl,h⟩;unfold mK;walk_at "q";refine⟨_,rfl,?_⟩;walk_at "q";refine R.D (λh1=>?_) λh1=>?_
 ·walk_at "q";rwa[show decide (0<=j/\j<k)=decide (j<k) by simp[h1]] at h
 ·walk_at "q";rwa[decide_eq_false (by lia)] at h
def dJ:WS :=
 (cp (e9 (wB (ay fA (ay df (av 0) (wC (.int 0))) (FY [("and", "yes"),("or", "no")] (av 2))))
 (qM 1 (LH (qq (aq (av 2) (aq (qq de) de)))))
 aV)
 (e9 (wB (ay fA (ay df (av 0) (wC (.int 0))) (FY [("and", "both"),("or", "either")] (av 2))))
 (cp (Aj 3 (lD 1 fV qN))
 (cp (Aj 4 (lD 1 fV qN))
 (A4 4 (A4 3 (qM 1 (LH (qq (aq (av 2) (aq (qq (aq (av 3) (aq (av 4) de))) de)))))))))
 aV))
def fL:WS :=
 (cp (y2 (zM (qq (aq (wC (.str "and")) (aq (wC (.str "or")) de)))) (gN 2)
 dJ)
 (iz "NoText" (wC (.str "a word begins no sentence"))))
def iT:WS :=
 (cp (e9 (wB (ay fA (ay df (av 0) (wC (.int 0))) (wC (.str "not"))))
 (qM 1 (yV (jZ (LH (wC (.str "not"))) (jZ (lD 1 fV qN) zY))))
 aV)
 fL)
def t7:WS :=
 (cp (e9 (v3 (wB (ay fA (ay df (av 0) (wC (.int 0))) (wC (.str "some")))) (wB (ay fA (ay df (av 0) (wC (.int 0))) (wC (.str "all")))))
 (qM 1 (yV (jZ (LH (ay df (av 0) (wC (.int 0)))) (jZ (LH (ay df (av 0) (wC (.int 1)))) (jZ (lD 1 fV qN) zY)))))
 aV)
 iT)
def jY:GH:=λxs ds Q Y=>∃ (h:Hd) (st:List Int),ds=[AZ h]/\ZI h/\xs=st.reverse/\(qS h st=none->Y "NoText")/\∀ r t,qS h st=some (r,t)->Q t.reverse (gv r)
def u5(xs ds Q Y)(h:jY xs ds Q Y):ds.length+1=2:=by obtain⟨_,_,rfl,_⟩:=h;rfl
def jH{st ys:List Int}{x:Int}(z:st.reverse=ys++[x]):st=x :: ys.reverse:=by rw[<- DI st,z];simp
def Cm {a:ag} {w wd:Str} {st:List Int} {E:eO} {o3 o4:Option Sl} (hwd:wd = "and"\/wd = "or") (hn:w≠bU wd->w≠bf wd->E.nx [some (.sh (.tup [.str w])),mh a st.reverse,some (.sh (.str wd)),o3,o4]) (ha:w=bU wd->E.rt (.wl a (st.reverse.map V.int)) (gv (.jn wd [])))(h1:w=bf wd->ER wd st=none->E.rt (.ow false) (.str "NoText")) (h2:w=bf wd->∀ x y t,st=x :: y :: t->E.rt (.wl a (t.reverse.map V.int)) (gv (.jn wd [x,y]))):dJ E [some (.sh (.tup [.str w])),mh a st.reverse,some (.sh (.str wd)),o3,o4]:=by
 have g1:List.lookup wd [(("and" : Str),("yes" : Str)),("or", "no")]=some (bU wd)/\(bU wd).length<=16777216:=by rcases hwd with rfl|rfl<;>decide +kernel
 have g2:List.lookup wd [(("and" : Str),("both" : Str)),("or", "either")]=some (bf wd)/\(bf wd).length<=16777216:=by rcases hwd with rfl|rfl<;>decide +kernel
 unfold dJ;walk_at "q";unfold FY;walk_at "q";refine⟨wd,_,rfl,g1.1,g1.2,?_⟩;refine R.D (λe=>?_) λe=>?_
 ·walk_at "q";exact⟨a,st.reverse,rfl,ha e⟩
 walk_at "q";refine⟨wd,_,rfl,g2.1,g2.2,?_⟩;refine R.D (λe2=>?_) λe2=>?_
 ·walk_at "q";refine⟨a,_,rfl,rfl,λz=>?_,λys x z=>?_⟩
  ·exact h1 e2 (by rw[SD.mp z];rfl)
  have e':=jH z;walk_at "q";refine⟨a,_,rfl,rfl,λz2=>?_,λzs y z2=>?_⟩
  ·exact h1 e2 (by rw[e',z2];rfl)
  ·subst z2;have h2:=h2 e2 x y zs.reverse (by rw[e',List.reverse_append];rfl);rw[DI] at h2;walk_at "q";exact⟨a,zs,rfl,h2⟩
 ·walk_at "q";exact hn e e2
def Gn {w:Str} (h:w ≠ "not") (st:List Int):(w=bU "and"->qS (.ot w) st=some (.jn "and" [],st))/\(w=bf "and"->qS (.ot w) st=ER "and" st)/\(w=bU "or"->qS (.ot w) st=some (.jn "or" [],st))/\(w=bf "or"->qS (.ot w) st=ER "or" st)/\(w≠bU "and"->w≠bf "and"->w≠bU "or"->w≠bf "or"->qS (.ot w) st=none):=by
 have a1:bU "and" = "yes" := if_pos rfl;have a2:bf "and" = "both" := if_pos rfl;have a3:bU "or" = "no" := uf;have a4:bf "or" = "either" := by decide +kernel
 rw[a1,a2,a3,a4];have un:qS (.ot w) st=if w = "not" then Pm .nt st else if w = "yes" then some (.jn "and" [],st) else if w = "both" then ER "and" st else if w = "no" then some (.jn "or" [],st) else if w = "either" then ER "or" st else none:=rfl;rw[un,if_neg h];have n1:("both" : Str) ≠ "yes" := by decide +kernel
 have n2:("no" : Str) ≠ "yes"/\("no" : Str) ≠ "both" := by decide +kernel
 have n3:("either" : Str) ≠ "yes"/\("either" : Str) ≠ "both"/\("either" : Str) ≠ "no" := by decide +kernel
 refine⟨λe=>if_pos e,λe=>?_,λe=>?_,λe=>?_,λe1 e2 e3 e4=>?_⟩
 ·rw[e,if_neg n1,if_pos rfl]
 ·rw[e,if_neg n2.1,if_neg n2.2,if_pos rfl]
 ·rw[e,if_neg n3.1,if_neg n3.2.1,if_neg n3.2.2,if_pos rfl]
 ·rw[if_neg e1,if_neg e2,if_neg e3,if_neg e4]
def J0 {a:ag} {w:Str} {st:List Int} {Q:List Int->D->Prop} {Y:Str->Prop} (hn:w ≠ "not") (hz:st.length<=bI) (h1:qS (.ot w) st=none->Y "NoText") (h2:∀ (r:Rw) (t:List Int),qS (.ot w) st=some (r,t)->t.length<=st.length->CY a Q Y (.wl a (t.reverse.map V.int)) (gv r)) :
  fL { nx:=λ_=>False,rt:=CY a Q Y } [some (.sh (.tup [.str w])),mh a st.reverse,none,none,none]:=by
 obtain⟨w0,e0⟩:∃ w,w=dJ:=⟨_,rfl⟩
 obtain⟨r1,r2,r3,r4,r5⟩:=Gn hn st;unfold fL;rw[<- e0];walk_at "q";unfold eG;walk_at "q";rw[e0];refine Cm (.inl rfl) (λn1 n2=>?_) (λe=>h2 _ _ (r1 e) (cx _)) (λe z=>h1 (by rw[r2 e,z])) λe x y t z=>h2 _ _ (by rw[r2 e,z];rfl) (by rw[z];simp;lia);rw[<- e0];unfold eG;walk_at "q";rw[e0];refine Cm (.inr rfl) (λn3 n4=>?_) (λe=>h2 _ _ (r3 e) (cx _)) (λe z=>h1 (by rw[r4 e,z])) λe x y t z=>h2 _ _ (by rw[r4 e,z];rfl) (by rw[z];simp;lia);unfold eG;walk_at "q";exact h1 (r5 n1 n2 n3 n4)
def Ai:∀ a xs ds Q Y,xs.length<=bI->jY xs ds Q Y->t7 { nx:=λ_=>False,rt:=CY a Q Y } (jb 5 a xs ds):=by
 rintro a xs ds Q Y hz ⟨h,st,rfl,ok,rfl,h1,h2⟩;obtain⟨w1,e1⟩:∃ w,w=iT:=⟨_,rfl⟩
 unfold t7 jb;rw[<- e1];rw[HZ] at hz;have ret:∀ (r:Rw) (t:List Int),qS h st=some (r,t)->t.length<=st.length->CY a Q Y (.wl a (t.reverse.map V.int)) (gv r):=λr t e z=>⟨wI r,_,rfl,rfl,by rw[HZ];lia,h2 r t e⟩
 cases h with
 |st w d =>
  rw[show AZ (.st w d)=.tup [.str w,.str d] from rfl];walk_at "q";refine R.D (λe=>?_) λe=>?_
  ·walk_at "q";refine⟨_,_,rfl,rfl,λz=>?_,λys x z=>?_⟩
   ·exact h1 (by rw[SD.mp z];rfl)
   ·have e:=jH z;subst e;exact⟨a,ys,rfl,by have:=ret (.st w d x) ys.reverse rfl (by simp);rwa[DI] at this⟩
  ·walk_at "q";refine R.T (decide_eq_true (ok.1.resolve_left e)) ?_;walk_at "q";refine⟨_,_,rfl,rfl,λz=>?_,λys x z=>?_⟩
   ·exact h1 (by rw[SD.mp z];rfl)
   ·have e:=jH z;subst e;exact⟨a,ys,rfl,by have:=ret (.st w d x) ys.reverse rfl (by simp);rwa[DI] at this⟩
 |ot w =>
  have ok:¬ iX w:=ok;rw[show AZ (.ot w)=.tup [.str w] from rfl];walk_at "q";refine R.F (decide_eq_false λz=>ok (.inl z)) ?_;walk_at "q";refine R.F (decide_eq_false λz=>ok (.inr z)) ?_;walk_at "q";rw[e1];obtain⟨w2,e2⟩:∃ w,w=fL:=⟨_,rfl⟩
  unfold iT;rw[<- e2];walk_at "q";refine R.D (λe=>?_) λe=>?_
  ·walk_at "q";have en:qS (.ot w) st=Pm .nt st:=if_pos e;rw[en] at h1;simp only[en] at ret;refine⟨_,_,rfl,rfl,λz=>?_,λys x z=>?_⟩
   ·exact h1 (by rw[SD.mp z];rfl)
   ·have e':=jH z;subst e';exact⟨a,ys,rfl,by have:=ret (.nt x) ys.reverse rfl (by simp);rwa[DI] at this⟩
  ·walk_at "q";rw[e2];exact J0 e hz h1 ret
def cX:WS :=
 (xg (wB (ay AF (eT ky (av 3)) (wC (.int 200)))) 3 (wC .non))
def cQ:WS :=
 (cp (e9 (v3 (wB (ay fA (ay df (av 0) (wC (.int 0))) (wC (.str "some")))) (wB (ay fA (ay df (av 0) (wC (.int 0))) (wC (.str "all")))))
 (e8 3 (ay fz (kT (aq (ay df (av 0) (wC (.int 0))) (aq (ay df (av 0) (wC (.int 1))) de))) (ay df (av 2) (wC (.int 0)))))
 (e9 (wB (ay fA (ay df (av 0) (wC (.int 0))) (wC (.str "not"))))
 (e8 3 (ay fz (kT (aq (wC (.str "not")) de)) (ay df (av 2) (wC (.int 0)))))
 (e8 3 (bx cH (aq (ay df (av 0) (wC (.int 0))) (aq (av 2) de))))))
 cX)
def mX:WS :=
 (cp (Gh 2 (tD (ph (bx jG (aq (av 0) de))) (gN 0) EG (ay df (av 1) (av 0)) 1 [1]))
 (cp (e9 (wB (ay (UI false) (wC .non) (av 2)))
 (fF (wC .non))
 aV)
 cQ))
def si:Option (List Str)->D
 |none=>.non
 |some ws=>.list (ws.map .str)
def Dp(o:Option (List Str)):Prop:=∀ ws,o=some ws->ws.length<=200/\∀ w∈ws,PyData.strOk w=true/\w.length<=6
def gH:fw:=λds Q=>∃ (k:Int) (r:Rw) (vs:List (Option (List Str))),ds=[gv r,.list (vs.map si)]/\ve k r/\k<=vs.length/\(∀ o∈vs,Dp o)/\(GV r (λj=>vs.getD j.toNat none)=none->Q .sh .non)/\∀ ws,GV r (λj=>vs.getD j.toNat none)=some ws->Q (.ow true) (.list (ws.map .str))
def qt (ds Q) (h:gH ds Q):ds.length=["row", "told"].length:=by obtain⟨_,_,_,rfl,_⟩:=h;rfl
theorem yJ:∀ os:List (Option (List Str)),(lI os=none->y6 (os.map si) .non=true)/\∀ l,lI os=some l->os.map si=l.map se/\y6 (os.map si) .non=false
 |[]=>⟨λz=>(nomatch z),λl z=>by cases z;exact⟨rfl,rfl⟩⟩
 |none :: os=>⟨λ_=>rfl,λl z=>(nomatch z)⟩
 |some w :: os=>by
  obtain⟨i1,i2⟩:=yJ os;have nn:k9 (.list (w.map .str)) .non=false:=rfl;refine⟨λz=>?_,λl z=>?_⟩
  ·have z:(lI os).map (w :: ·)=none:=z;show(k9 (.list (w.map .str)) .non || y6 (os.map si) .non)=true;rw[i1 (Option.map_eq_none_iff.mp z),Bool.or_true]
  ·have z:(lI os).map (w :: ·)=some l:=z;obtain⟨m,e,rfl⟩:=oo.mp z;obtain⟨a,b⟩:=i2 m e;refine⟨by rw[gX,a];rfl,?_⟩;show(k9 (.list (w.map .str)) .non || y6 (os.map si) .non)=false;rw[nn,b];rfl
def Kw{o:Option (List Str)}(h:Dp o)(n:Nat):eB (n+1) (si o)=true:=by
 cases o with
 |none=>rfl
 |some ws =>show(ws.map D.str).all (eB n)=true;rw[P5,BO];intro w hw;have:=((h ws rfl).2 w hw).1;cases n<;>exact this
def okB{d:D}:v9 .sh d:=by unfold v9;simp
def qP{Q:Md->D->Prop}{X:List Str}{o0 o1 o2:Option Sl}(h1:k6 (some X)=none->Q .sh .non)(h2:∀ ws,k6 (some X)=some ws->Q (.ow true) (.list (ws.map .str))):cX { nx:=λ_=>Q .sh .non,rt:=Q } [o0,o1,o2,some (.ow true (.list (X.map .str)))]:=by
 unfold cX;walk_at "q";refine R.D (λe=>?_) λe=>?_
 ·walk_at "q";exact h2 X (uc (by lia))
 ·walk_at "q";refine h1 ?_;unfold k6;rw[Vs,if_neg (by lia)]
def Dg{Q:Md->D->Prop}{k:Int}{r:Rw}{g:Int->Option (List Str)}{l:List (List Str)}{o1:Option Sl}(ok:ve k r)(EV:∀ j,Dp (g j))(es:lI ((n9 r).map g)=some l)(h1:GV r g=none->Q .sh .non)(h2:∀ ws,GV r g=some ws->Q (.ow true) (.list (ws.map .str))) :
  cQ { nx:=λ_=>Q .sh .non,rt:=Q } [some (.sh (gv r)),o1,some (.sh (.list (l.map se))),none]:=by
 obtain⟨w3,e3⟩:∃ w,w=cX:=⟨_,rfl⟩
 unfold cQ;rw[<- e3];have one:∀ j,lI [g j]=some l->∃ p,g j=some p/\l=[p]/\p.length<=200:=λj e=>by
  cases eg:g j with
  |none=>rw[eg] at e;cases e
  |some p=>rw[eg] at e;cases e;exact⟨p,rfl,rfl,(EV j p eg).1⟩
 cases r with
 |st w d j =>
  obtain⟨p,eg,rfl,pl⟩:=one j es;have fin:=qP (Q:=Q) (X:=w :: d :: p) (o0:=some (.sh (.tup [.str w,.str d,.int j]))) (o1:=o1) (o2:=some (.sh (.list [se p]))) (λz=>h1 (by show k6 ((g j).map _)=none;rw[eg];exact z)) λws z=>h2 ws (by show k6 ((g j).map _)=some ws;rw[eg];exact z);rw[<- e3] at fin;rw[show gv (.st w d j)=.tup [.str w,.str d,.int j] from rfl,show[p].map se=[se p] from rfl,show se p=.list (p.map .str) from rfl] at *
  walk_at "q";refine R.D (λe=>?_) λe=>?_
  ·walk_at "q";exact⟨by lia,.inl ⟨az p,fin⟩⟩
  ·walk_at "q";refine R.T (decide_eq_true (ok.1.resolve_left e)) ?_;walk_at "q";exact⟨by lia,.inl ⟨az p,fin⟩⟩
 |nt j =>
  obtain⟨p,eg,rfl,pl⟩:=one j es;have fin:=qP (Q:=Q) (X := "not" :: p) (o0:=some (.sh (.tup [.str "not",.int j]))) (o1:=o1) (o2:=some (.sh (.list [se p]))) (λz=>h1 (by show k6 ((g j).map _)=none;rw[eg];exact z)) λws z=>h2 ws (by show k6 ((g j).map _)=some ws;rw[eg];exact z);rw[<- e3] at fin;rw[show gv (.nt j)=.tup [.str "not",.int j] from rfl,show[p].map se=[se p] from rfl,show se p=.list (p.map .str) from rfl] at *
  walk_at "q";refine R.F (decide_eq_false GU.1) ?_;walk_at "q";refine R.F (decide_eq_false GU.2) ?_;walk_at "q";exact⟨by lia,.inl ⟨az p,fin⟩⟩
 |jn w ps =>
  have es:lI (ps.map g)=some l:=es;have sl:∀ (qs:List Int) (m:List (List Str)),lI (qs.map g)=some m->m.length=qs.length/\∀ p∈m,p.length<=200:=λqs=>by
   induction qs with
   |nil=>intro m e;cases e;exact⟨rfl,λ_ z=>nomatch z⟩
   |cons q qs ih =>
    intro m e;rw[gX] at e
    cases eg:g q with
    |none=>rw[eg] at e;cases e
    |some p =>rw[eg] at e;obtain⟨m',e',rfl⟩:=oo.mp (show(lI (qs.map g)).map (p :: ·)=some m from e);obtain⟨i1,i2⟩:=ih m' e';exact⟨by rw[kB,kB,i1],λx hx=>(eJ.mp hx).elim (λz=>z ▸ (EV q p eg).1) (i2 x)⟩
  obtain⟨ll,lp⟩:=sl ps l es;have p2:=ok.2.1;have fin:=qP (Q:=Q) (X:=Sd w l) (o0:=some (.sh (.tup [.str w,.tup (ps.map .int)]))) (o1:=o1) (o2:=some (.sh (.list (l.map se)))) (λz=>h1 (by show k6 ((lI (ps.map g)).map _)=none;rw[es];exact z)) λws z=>h2 ws (by show k6 ((lI (ps.map g)).map _)=some ws;rw[es];exact z);rw[<- e3] at fin;rw[show gv (.jn w ps)=.tup [.str w,.tup (ps.map .int)] from rfl];walk_at "q";refine R.F (decide_eq_false (AK ok.1).1) ?_;walk_at "q";refine R.F (decide_eq_false (AK ok.1).2.1) ?_;walk_at "q";refine R.F (decide_eq_false (AK ok.1).2.2) ?_;walk_at "q";exact⟨w,l,rfl,ok.1,by lia,lp,fin⟩
def Am{r:Rw}{g:Int->Option (List Str)}(h:lI ((n9 r).map g)=none):GV r g=none:=by
 have one:∀ j,lI [g j]=none->g j=none:=λj e=>by
  cases eg:g j with
  |none=>rfl
  |some p=>rw[eg] at e;cases e
 cases r with
 |st w d j=>show k6 ((g j).map _)=none;rw[one j h];rfl
 |nt j=>show k6 ((g j).map _)=none;rw[one j h];rfl
 |jn w ps=>show k6 ((lI (ps.map g)).map _)=none;rw[show lI (ps.map g)=none from h];rfl
def vq:∀ ds Q,gH ds Q->mX { nx:=λ_=>Q .sh .non,rt:=Q } (aN 4 ds):=by
 rintro ds Q ⟨k,r,vs,rfl,ok,hk,hv,h1,h2⟩;obtain⟨w1,e1⟩:∃ w,w=cQ:=⟨_,rfl⟩
 unfold mX;rw[<- e1];walk_at "q";refine⟨r,k,rfl,ok,?_⟩;walk_at "q";have dl:=dH ok;have EV:∀ j:Int,Dp (vs.getD j.toNat none):=λj=>by
  rw[DH]
  cases e:vs[j.toNat]? with
  |none=>exact λws z=>nomatch z
  |some o=>exact hv o (rg e)
 refine jR (λ_=>true) (λd=>match d with
  |.int j=>si (vs.getD j.toNat none)
  |d=>d) (λρ=>∃ o,ρ=[o,some (.sh (.list (vs.map si)))]) _ _ _ ⟨none,rfl⟩ ?_ ?_
 ·rintro y hy ρ ⟨o,rfl⟩ N1 N2 _ n2;obtain⟨j,hj,rfl⟩:=iq.mp hy;obtain⟨j0,j1⟩:=dl j hj;have ea:=tT (xs:=vs.map si) (j:=j.toNat) (v:=si (vs.getD j.toNat none)) (by
   rw[mr,DH,vk (by lia)];rfl)
  rw[sD j0] at ea;walk_at "q";refine⟨_,ea,?_⟩;have n2:N2 [some (.sh (.int j)),some (.sh (.list (vs.map si)))] (si (vs.getD j.toNat none)):=n2 _ ⟨_,rfl⟩ rfl
  cases eo:vs.getD j.toNat none with
  |none =>rw[eo] at n2;show b6 D.non _;walk_at "q";exact⟨okB,n2⟩
  |some o =>rw[eo] at n2;show b6 (D.list (o.map .str)) _;walk_at "q";exact⟨okB,n2⟩
 rw[iD,om];obtain⟨a1,a2⟩:=yJ ((n9 r).map λj=>vs.getD j.toNat none);rw[om] at a1 a2;refine⟨rfl,?_,?_⟩
 ·show(List.map _ _).all (eB 11)=true;rw[P5,BO];exact λj _=>Kw (EV j) 10
 cases es:lI ((n9 r).map λj=>vs.getD j.toNat none) with
 |none =>have ea:=a1 es;show b6 (y6 (List.map (si ∘ λj=>vs.getD j.toNat none) (n9 r)) D.non) _;rw[ea];walk_at "q";exact h1 (Am es)
 |some l =>obtain⟨b1,b2⟩:=a2 l es;show b6 (y6 (List.map (si ∘ λj=>vs.getD j.toNat none) (n9 r)) D.non) _;rw[b2];walk_at "q";rw[e1];have fin:=Dg (Q:=Q) (l:=l) (o1:=some (.sh (.list (vs.map si)))) ok EV es h1 h2;rw[<- b1] at fin;exact fin
def aR:WS :=
 (cp (e9 (wB (ay (yB false) (ay df (av 0) (av 2)) (qq (aq (wC (.str "some")) (aq (wC (.str "all")) de)))))
 (cp (e8 2 (ay fz (av 2) (wC (.int 1))))
 (e9 (v3 (wB (ay fA (av 2) (eT ky (av 0)))) (uj (wB (bx cC (aq (ay df (av 0) (av 2)) de)))))
 (fF (wC (.bl false)))
 aV))
 (e9 (wB (ay (yB false) (ay df (av 0) (av 2)) (qq (aq (wC (.str "yes")) (aq (wC (.str "no")) de)))))
 (e8 1 (ay OB (av 1) (wC (.int 1))))
 (e9 (wB (ay (yB false) (ay df (av 0) (av 2)) (qq (aq (wC (.str "both")) (aq (wC (.str "either")) de)))))
 (e8 1 (ay fz (av 1) (wC (.int 1))))
 (e9 (wB (ay EE (ay df (av 0) (av 2)) (wC (.str "not"))))
 (fF (wC (.bl false)))
 aV))))
 (e8 2 (ay fz (av 2) (wC (.int 1)))))
def aW:WS :=
 (fF (jo (ay fA (av 1) (wC (.int 0))) (jo (ay fA (av 2) (eT ky (av 0))) (ay AF (eT ky (av 0)) (wC (.int 200))))))
def cR:WS :=
 (cp (e8 1 (wC (.int 1)))
 (cp (e8 2 (wC (.int 0)))
 (cp (xO (Ux (wB (ay CF (av 2) (eT ky (av 0)))) (wB (ay OG (av 1) (wC (.int 0)))))
 aR)
 aW)))
def bH:fw:=λds Q=>∃ ws:List Str,ds=[.list (ws.map .str)]/\ws.length<=100000/\Q .sh (.bl (fm 1 ws && decide (ws.length<=200)))
def fZ (ds Q) (h:bH ds Q):ds.length=["_law_words_here"].length:=by obtain⟨_,rfl,_⟩:=h;rfl
abbrev SIv(ws:List Str)(ρ:L2.Q.Env):Prop:=∃ (n k:Nat),ρ=[some (.sh (.list (ws.map .str))),some (.sh (.int n)),some (.sh (.int k))]/\k<=ws.length/\fm 1 ws=fm n (ws.drop k)
def Bq{ws:List Str}{n k:Nat}{Q:Md->D->Prop}(hh:k=ws.length\/n=0)(hk:k<=ws.length)(h:Q .sh (.bl (fm n (ws.drop k) && decide (ws.length<=200)))):aW { nx:=λ_=>Q .sh .non,rt:=Q } [some (.sh (.list (ws.map .str))),some (.sh (.int n)),some (.sh (.int k))]:=by
 unfold aW;walk_at "q";refine R.D (λe=>?_) λe=>?_;rotate_left
 ·have e:¬ n=0:=by lia
  have:=hh.resolve_right e;subst this;rw[E5,oG,decide_eq_false e] at h;walk_at "q";exact h
 have e:n=0:=by lia
 subst e;walk_at "q";refine R.D (λe=>?_) λe=>?_
 ·have:k=ws.length:=by lia
  subst this;rw[E5] at h;walk_at "q";have e2:decide ((ws.length:Int)<=200)=decide (ws.length<=200):=by congr 1;exact propext ⟨λz=>by lia,λz=>by lia⟩
  rw[e2];exact h
 ·have:(ws.drop k).isEmpty=false:=by rw[Bool.eq_false_iff];intro z;have:=List.isEmpty_iff.mp z;have:=congrArg List.length this;rw[BI,P4] at this;lia
  rw[show fm 0 (ws.drop k)=(ws.drop k).isEmpty by cases ws.drop k<;>rfl,this] at h;walk_at "q";exact h
def Ek(x:Str)(l:List Str):inD (.str x) (l.map D.str)=decide (x∈l):=by
 unfold inD;rw[B1,P2,decide_eq_true_iff];constructor
 ·rintro⟨y,hy,e⟩;obtain⟨c,hc,rfl⟩:=iq.mp hy;have:=(nZ (.str c) (.str x) rfl rfl).mp e;cases this;exact hc
 ·intro hx;exact⟨.str x,iq.mpr ⟨x,hx,rfl⟩,(nZ (.str x) (.str x) rfl rfl).mpr rfl⟩
def xF(w x y:Str):inD (.str w) [.str x,.str y]=decide (w=x\/w=y):=by rw[show[D.str x,D.str y]=[x,y].map D.str from rfl,Ek];congr 1;simp
def EY{ws:List Str}{n k:Nat}{E:eO}(hl:k<ws.length)(hf:fm (n+1) (ws.drop k)=false->E.rt .sh (.bl false))(hx:∀ n' k',k<k'->k'<=ws.length->fm (n+1) (ws.drop k)=fm n' (ws.drop k')->E.nx [some (.sh (.list (ws.map .str))),some (.sh (.int (n':Nat))),some (.sh (.int (k':Nat)))]) :
  aR E [some (.sh (.list (ws.map .str))),some (.sh (.int ((n+1:Nat):Int))),some (.sh (.int k))]:=by
 have ea:=tT (xs:=ws.map D.str) (j:=k) (v:=.str ws[k]) (by simp[hl]);have ed:=xD hl;rw[ed] at hf;simp only[ed] at hx;generalize ws[k]=w at *
 unfold aR;walk_at "q";refine⟨_,ea,?_⟩;walk_at "q";refine⟨rfl,rfl,?_⟩;rw[xF];refine R.D (λhw=>?_) λhw=>?_
 ·walk_at "q";refine R.D (λe=>?_) λe=>?_
  ·walk_at "q";refine hf ?_;rw[List.drop_eq_nil_of_le (by lia)];show(if iX w then false else _)=false;rw[if_pos hw]
  have x8:k+1<ws.length:=by lia
  have ZN:=tT (xs:=ws.map D.str) (j:=k+1) (v:=.str ws[k+1]) (by simp[x8]);have U4:=xD x8;rw[U4] at hf;simp only[U4] at hx;generalize ws[k+1]=d at *
  have un:fm (n+1) (w :: d :: ws.drop (k+1+1))=(bR d && fm (n+1) (ws.drop (k+1+1))):=by show(if iX w then _ else _)=_;rw[if_pos hw]
  rw[un] at hf;simp only[un] at hx;walk_at "q";refine⟨_,ZN,?_⟩;walk_at "q";refine⟨d,rfl,?_⟩
  cases hd:bR d with
  |false =>walk_at "q";exact hf (by rw[hd];rfl)
  |true =>have:=hx (n+1) (k+2) (by lia) (by lia) (by rw[hd];rfl);walk_at "q";rw[show(k:Int)+1+1=((k+2:Nat):Int) by lia];exact this
 walk_at "q";refine⟨_,ea,?_⟩;have wo:=b8 hw n (ws.drop (k+1));rw[wo] at hf;simp only[wo] at hx;walk_at "q";refine⟨rfl,rfl,?_⟩;rw[xF];refine R.D (λh1=>?_) λh1=>?_
 ·have:=hx n (k+1) (by lia) (by lia) (by rw[(vI h1).2];rfl);walk_at "q";rw[show((n+1:Nat):Int)-1=(n:Int) by lia];exact this
 walk_at "q";refine⟨_,ea,?_⟩;walk_at "q";refine⟨rfl,rfl,?_⟩;rw[xF];refine R.D (λh2=>?_) λh2=>?_
 ·have:=hx (n+2) (k+1) (by lia) (by lia) (by rw[(Dz h2).2]);walk_at "q";rw[show((n+1:Nat):Int)+1=((n+2:Nat):Int) by lia];exact this
 walk_at "q";refine⟨_,ea,?_⟩;walk_at "q";refine R.B (λh3=>?_) λh3=>?_
 ·have h3:w ≠ "not" := by simpa using h3
  walk_at "q";exact hf (by rw[Ku h1 h2 h3])
 ·have h3:w = "not" := by simpa using h3
  subst h3;have:=hx (n+1) (k+1) (by lia) (by lia) (by rw[Gr.2]);walk_at "q";exact this
def gP:∀ ds Q,bH ds Q->cR { nx:=λ_=>Q .sh .non,rt:=Q } (aN 3 ds):=by
 rintro ds Q ⟨ws,rfl,hz,h⟩;obtain⟨w0,e0⟩:∃ w,w=aR:=⟨_,rfl⟩
 obtain⟨w3,e3⟩:∃ w,w=aW:=⟨_,rfl⟩
 unfold cR;rw[<- e0,<- e3];walk_at "q";refine⟨SIv ws,λρ=>ws.length-ZK ρ,⟨1,0,rfl,fI _,rfl⟩,?_⟩;rintro ρ ⟨n,k,rfl,hk,e⟩;rw[e] at h;walk_at "q";refine R.D (λhl=>?_) λhl=>?_;rotate_left
 ·walk_at "q";rw[e3];exact Bq (.inl (by lia)) hk h
 walk_at "q"
 cases n with
 |zero =>rw[if_neg (by simp),e3];exact Bq (.inr rfl) hk h
 |succ n =>
  rw[if_pos (decide_eq_true (by lia)),e0];refine EY (by lia) (λz=>?_) λn' k' k1 k2 z=>⟨⟨n',k',rfl,k2,e.trans z⟩,?_⟩
  ·rw[z] at h;exact h
  ·show ws.length-(k':Int).toNat<ws.length-(k:Int).toNat;lia
def lB:WS :=
 (cp (e9 (v3 (uj (wB (eT (A3 "tuple") (av 1)))) (wB (ay OG (eT ky (av 1)) (wC (.int 200)))))
 (fF (wC (.bl false)))
 aV)
 (fF (eT RX (oJ (wU (av 1)) (gN 0) EG (bx cF (aq (av 1) (aq (av 0) de))) 1 [0]))))
def d_:fw:=λds Q=>∃ (k:Int) (ps:List Int),ds=[.int k,.tup (ps.map .int)]/\ps.length<=200/\Q .sh (.bl (ps.all λp=>decide (0<=p/\p<k)))
def nj (ds Q) (h:d_ ds Q):ds.length=["k", "thing"].length:=by obtain⟨_,_,rfl,_⟩:=h;rfl
def qW:∀ ds Q,d_ ds Q->lB { nx:=λ_=>Q .sh .non,rt:=Q } (aN 2 ds):=by
 rintro ds Q ⟨k,ps,rfl,hl,h⟩;unfold lB;walk_at "q";refine R.F rfl ?_;walk_at "q";refine R.F (decide_eq_false (by lia)) ?_;walk_at "q"
 refine cY (λ_=>true) (λd=>match d with
  |.int p=>.bl (decide (0<=p/\p<k))
  |d=>d) (λρ=>∃ o,ρ=[o,some (.sh (.int k))]) _ _ _ ⟨_,rfl⟩ ?_ ?_
 ·rintro y hy ρ ⟨o,rfl⟩ N1 N2 _ h2;obtain⟨p,hp,rfl⟩:=iq.mp hy;walk_at "q";exact⟨_,_,rfl,.inl rfl,h2 _ ⟨_,rfl⟩ rfl⟩
 ·rw[iD];refine⟨ps.map λp=>decide (0<=p/\p<k),by rw[om,om];rfl,?_⟩;rw[P5];exact h
def jV:WS :=
 (cp (e9 (uj (wB (bx fM (aq (av 0) de))))
 (iz "NoText" (wC (.str "a word that is no deed stands where a deed ought to stand")))
 aV)
 (jD 0))
def eV:fw:=λds Q=>∃ x:Str,ds=[.str x]/\(bR x=true->Q .sh (.str x))/\(bR x=false->Q (.ow false) (.str "NoText"))
def nJ (ds Q) (h:eV ds Q):ds.length=["word"].length:=by obtain⟨_,rfl,_⟩:=h;rfl
def qz:∀ ds Q,eV ds Q->jV { nx:=λ_=>Q .sh .non,rt:=Q } (aN 1 ds):=by
 rintro ds Q ⟨x,rfl,h1,h2⟩;unfold jV;walk_at "q";refine⟨_,rfl,?_⟩;try rw[show pH' (.str x)=bR x from rfl]
 cases e:bR x with
 |true =>walk_at "q";exact h1 e
 |false =>walk_at "q";exact h2 e
def dF(SP:CM):WS :=
 (cp (e8 2 (Ze (av 1) (wC (.bl true))))
 (cp (y2 (Ck (av 1) (eT CH (wC (.int 1))) (eT CH (wC (.int 1)))) (gN 3)
 (e9 (wB (ay (yB false) (av 3) (av 2)))
 (y2 (lA (bx jG (aq (vW SP 0 (av 3)) de))) (gN 4)
 (Ab (uk 2) (av 4) (wC (.bl true))))
 aV))
 (fF (eT vZ (av 2)))))
def bN:List (List RI)->fw:=λrs ds Q=>∃ (l:List Rw) (last:Nat),rs=l.map fk/\kg l/\ds=[.int last]/\last<l.length/\l.length<=10000/\Q (.ow true) (.list ((bu l last).map .int))
def gA (rs ds Q) (h:bN rs ds Q):ds.length+1=["self", "last"].length:=by obtain⟨_,_,_,_,rfl,_⟩:=h;rfl
def Fl(last:Nat):UM (last:Int) (-1) (y8 (last:Int) (-1) (-1))=(fj last).map D.int:=by
 have e:y8 (last:Int) (-1) (-1)=last+1:=by unfold y8 Builtin.Range.rangeSize;rw[if_neg (by decide),if_pos (by lia),show -(-1:Int)=1 from rfl];lia
 rw[e];unfold UM fj;rw[om];refine HV λi _=>?_;simp only[Function.comp];congr 1;lia
def vi(W:List Int):List (Key × D):=W.map λj=>(.inl j,.bl true)
def Lj(W:List Int)(k:Int):(mM (vi W) (.inl k:Key)).isSome=decide (k∈W):=by
 unfold mM vi
 induction W with
 |nil=>rfl
 |cons x W ih =>
  rw[gX,BQ];by_cases z:x=k
  ·subst z;simp
  ·have:decide ((Sum.inl x:Key)=Sum.inl k)=false:=by simpa using z
   rw[this];rw[show(decide (k∈x :: W))=decide (k∈W) from by simp[Ne.symm z]];exact ih
def Kg(W:List Int)(j:Int):ti (vi W) (.inl j:Key) (.bl true)=vi (y9 W j):=by
 unfold ti y9;have e:((vi W).any λkv=>decide (kv.1=(.inl j:Key)))=decide (j∈W):=by rw[B1];simp[vi]
 rw[e];by_cases h:j∈W
 ·rw[if_pos (decide_eq_true h),if_pos h];unfold vi;rw[om];refine HV λx _=>?_;simp only[Function.comp];split<;>rfl
 ·rw[if_neg (by simpa using h),if_neg h];simp[vi]
def Hi{l:List Rw}{last:Nat}(sc:kg l){Q:Md->D->Prop}(h:Q (.ow true) (.list ((bu l last).map .int))):vZ .bo (.dK (vi (vp l last))) Q:=by
 have I:=ir (last:=last) sc;refine⟨true,λp hp=>?_,λms pm pw=>?_⟩
 ·obtain⟨j,_,rfl⟩:=iq.mp hp;rfl
 ·have ek:(vi (vp l last)).map (·.1)=(vp l last).map λx=>(Sum.inl x:Key):=by simp[vi,Function.comp_def]
  rw[ek] at pm;have hk:∀ k∈ms,∃ x,k=(Sum.inl x:Key):=λk hk=>by obtain⟨x,_,e⟩:=iq.mp (pm.mem_iff.mp hk);exact⟨x,e.symm⟩
  have hms:ms=(bu l last).map λx=>(Sum.inl x:Key):=by
   refine List.Perm.eq_of_pairwise (le:=λa b=>sT b a=false) (λa b ha hb h1 h2=>?_) pw ?_ (pm.trans ?_)
   ·obtain⟨x,rfl⟩:=hk a ha;obtain⟨y,hy,rfl⟩:=iq.mp hb;simp only[sT,decide_eq_false_iff_not] at h1 h2;congr 1;lia
   ·refine L9.mpr (iR.imp λh=>?_);simp only[sT,decide_eq_false_iff_not];lia
   ·refine List.Perm.map _ ((List.perm_ext_iff_of_nodup I.nd ?_).mpr λx=>(gR sc).symm);exact iR.imp λh=>by lia
  rw[hms,om];exact h
def xR{l:List Rw}{k:Nat}{r:Rw}(h:l[k]? = some r):(l.map fk)[k]? = some (fk r):=by rw[mr,h];rfl
def Ah{last i:Nat}{x:D}(h:((fj last).map D.int)[i]? = some x):i<=last/\x=.int ((last:Int)-i)/\(fj last).take (i+1)=(fj last).take i++[(last:Int)-i]:=by
 rw[mr] at h;have hi:i<last+1:=by
  by_cases z:i<last+1
  ·exact z
  ·rw[PK (by simp[fj];lia)] at h;cases h
 have e:(fj last)[i]? = some ((last:Int)-i):=by unfold fj;rw[mr,Vj hi];rfl
 rw[e] at h;cases h;exact⟨by lia,rfl,by rw[AU,e];rfl⟩
def iV(SP:CM):∀ a rs ds Q,bN rs ds Q->dF SP { nx:=λ_=>Q .sh .non,rt:=Q } (iu 5 a (SP false rs) ds):=by
 rintro a rs ds Q ⟨l,last,rfl,sc,rfl,hl,hz,h⟩;unfold dF iu;walk_at "q";refine And.intro (.inl rfl) (And.intro ⟨by lia,by lia,by lia,by lia⟩ (And.intro ?_ ?_))
 ·have:y8 (last:Int) (-1) (-1)=last+1:=by unfold y8 Builtin.Range.rangeSize;rw[if_neg (by decide),if_pos (by lia),show -(-1:Int)=1 from rfl];lia
  exact iO (P8 this) (by lia)
 ·show eG _ _ _ (UM (last:Int) (-1) (y8 (last:Int) (-1) (-1))) _;rw[Fl];refine cD _ (λi ρ=>∃ o3 o4,ρ=[some (.ob a (SP false (l.map fk))),some (.sh (.int last)),some (.ow true (.dK (vi (((fj last).take i).foldl (lX l) [(last:Int)])))),o3,o4]) ⟨_,_,rfl⟩ ?_ ?_
  ·rintro i x ρ hx ⟨o3,o4,rfl⟩ N hN;obtain⟨hi,rfl,et⟩:=Ah hx;have I:=kW (l:=l) (last:=last) sc i (by lia);have nx:∀ o3 o4,N [some (.ob a (SP false (l.map fk))),some (.sh (.int last)),some (.ow true (.dK (vi (lX l (((fj last).take i).foldl (lX l) [(last:Int)]) ((last:Int)-i))))),o3,o4]:=λo3 o4=>hN _ ⟨o3,o4,by rw[et,PY];rfl⟩;generalize ((fj last).take i).foldl (lX l) [(last:Int)]=W at *
   generalize hk:(last:Int)-i=k at *
   walk_at "q"
   have st:lX l W k=if k∈W then (match l[k.toNat]? with
    |some r=>(n9 r).foldl y9 W
    |none=>W) else W:=rfl
   rw[Lj];refine R.D (λxo=>?_) λxo=>?_
   ·obtain⟨k0,k1⟩:=I.bd k xo;have R9:k.toNat<l.length:=by lia
    obtain⟨r,hr⟩:∃ r,l[k.toNat]? = some r:=⟨_,vk R9⟩
    rw[if_pos xo,hr] at st;have ok:=sc _ _ hr;rw[sD k0] at ok;walk_at "q";refine⟨a,false,l.map fk,rfl,k.toNat,fk r,by rw[sD k0],xR hr,?_⟩;rw[y_];refine⟨r,k,rfl,ok,?_⟩;walk_at "q";have dl:=dH ok;refine cD _ (λi ρ=>∃ o4,ρ=[some (.ob a (SP false (l.map fk))),some (.sh (.int last)),some (.ow true (.dK (vi (((n9 r).take i).foldl y9 W)))),some (.sh (.int k)),o4]) ⟨_,rfl⟩ ?_ ?_
    ·rintro i x ρ hx ⟨o4,rfl⟩ N' hN';rw[mr] at hx
     cases e:(n9 r)[i]? with
     |none=>rw[e] at hx;cases hx
     |some j =>
      rw[e] at hx;cases hx;have tk:(n9 r).take (i+1)=(n9 r).take i++[j]:=by rw[AU,e];rfl
      have hln:(vi (((n9 r).take i).foldl y9 W)).length<=10001:=by
       unfold vi;rw[dr];refine iO (v7 (rC _ _ I.nd) (n:=last+1) λx hx=>?_) (by lia);rcases (dU _ _).mp hx with z|z
       ·have:=I.bd x z;lia
       ·have:=dl x (L8 z);lia
      walk_at "q";refine⟨by lia,?_⟩;rw[Kg];exact hN' _ ⟨_,by rw[tk,PY];rfl⟩
    ·rintro ρ ⟨o4,rfl⟩;rw[dr,E6];have st:lX l W k=(n9 r).foldl y9 W:=st;rw[<- st];exact nx _ _
   ·rw[if_neg xo] at st;rw[st] at nx;walk_at "q";exact nx _ _
  ·rintro ρ ⟨o3,o4,rfl⟩;rw[dr,E6];walk_at "q";exact Hi sc h
def um:WS :=
 (cp (e9 (v3 (uj (wB (eT (A3 "tuple") (av 1)))) (v3 (wB (ay fA (eT ky (av 1)) (wC (.int 0)))) (uj (wB (eT (A3 "str") (ay df (av 1) (wC (.int 0))))))))
 (fF (wC (.bl false)))
 aV)
 (cp (e9 (v3 (wB (ay fA (ay df (av 1) (wC (.int 0))) (wC (.str "some")))) (wB (ay fA (ay df (av 1) (wC (.int 0))) (wC (.str "all")))))
 (fF (jo (ay fA (eT ky (av 1)) (wC (.int 3))) (jo (bx fM (aq (ay df (av 1) (wC (.int 1))) de)) (bx cF (aq (av 0) (aq (ay df (av 1) (wC (.int 2))) de))))))
 aV)
 (cp (e9 (wB (ay fA (ay df (av 1) (wC (.int 0))) (wC (.str "not"))))
 (fF (jo (ay fA (eT ky (av 1)) (wC (.int 2))) (bx cF (aq (av 0) (aq (ay df (av 1) (wC (.int 1))) de)))))
 aV)
 (cp (e9 (v3 (wB (ay fA (ay df (av 1) (wC (.int 0))) (wC (.str "and")))) (wB (ay fA (ay df (av 1) (wC (.int 0))) (wC (.str "or")))))
 (fF (jo (ay fA (eT ky (av 1)) (wC (.int 2))) (bx d_ (aq (av 0) (aq (ay df (av 1) (wC (.int 1))) de)))))
 aV)
 (fF (wC (.bl false)))))))
def j9:fw:=λds Q=>∃ (k:Int) (r:Rw),ds=[.int k,gv r]/\ve k r/\Q .sh (.bl true)
def uU (ds Q) (h:j9 ds Q):ds.length=["k", "thing"].length:=by obtain⟨_,_,rfl,_⟩:=h;rfl
def z_:∀ ds Q,j9 ds Q->um { nx:=λ_=>Q .sh .non,rt:=Q } (aN 2 ds):=by
 rintro ds Q ⟨k,r,rfl,hr,h⟩;unfold um
 cases r with
 |st w d j =>
  obtain⟨hw,hd,h0,h1⟩:=hr;rw[show gv (.st w d j)=.tup [.str w,.str d,.int j] from rfl];walk_at "q";refine R.F rfl ?_;walk_at "q";refine R.F rfl ?_;walk_at "q";refine R.F rfl ?_;walk_at "q";have fin:∀ Z:Prop,(Z=True)->Z:=λ_ e=>e ▸ trivial;refine R.D (λe=>?_) λe=>?_
  ·walk_at "q";refine R.T rfl ?_;walk_at "q";refine⟨_,rfl,?_⟩;walk_at "q";refine R.T (cA.mpr hd) ?_;walk_at "q";refine⟨_,_,rfl,?_⟩;rw[decide_eq_true ⟨h0,h1⟩];exact h
  ·walk_at "q";refine R.T (decide_eq_true (hw.resolve_left e)) ?_;walk_at "q";refine R.T rfl ?_;walk_at "q";refine⟨_,rfl,?_⟩;walk_at "q";refine R.T (cA.mpr hd) ?_;walk_at "q";refine⟨_,_,rfl,?_⟩;rw[decide_eq_true ⟨h0,h1⟩];exact h
 |nt j =>obtain⟨h0,h1⟩:=hr;rw[show gv (.nt j)=.tup [.str "not",.int j] from rfl];walk_at "q";refine R.F rfl ?_;walk_at "q";refine R.F rfl ?_;walk_at "q";refine R.F rfl ?_;walk_at "q";refine R.F (decide_eq_false GU.1) ?_;walk_at "q";refine R.F (decide_eq_false GU.2) ?_;walk_at "q";refine R.T rfl ?_;walk_at "q";refine⟨_,_,rfl,?_⟩;rw[decide_eq_true ⟨h0,h1⟩];exact h
 |jn w ps =>
  obtain⟨hw,hl,hp⟩:=hr;rw[show gv (.jn w ps)=.tup [.str w,.tup (ps.map .int)] from rfl];walk_at "q";refine R.F rfl ?_;walk_at "q";refine R.F rfl ?_;walk_at "q";refine R.F rfl ?_;walk_at "q";refine R.F (decide_eq_false (AK hw).1) ?_;walk_at "q";refine R.F (decide_eq_false (AK hw).2.1) ?_;walk_at "q";refine R.F (decide_eq_false (AK hw).2.2) ?_;walk_at "q";have ha:(ps.all λp=>decide (0<=p/\p<k))=true:=BO.mpr λp h=>decide_eq_true (hp p h);refine R.D (λe=>?_) λe=>?_
  ·walk_at "q";refine R.T rfl ?_;walk_at "q";refine⟨_,_,rfl,hl,?_⟩;rw[ha];exact h
  ·walk_at "q";refine R.T (decide_eq_true (hw.resolve_left e)) ?_;walk_at "q";refine R.T rfl ?_;walk_at "q";refine⟨_,_,rfl,hl,?_⟩;rw[ha];exact h
def cu:WS :=
 (cp (e9 (wB (ay fA (ay fz (av 2) (wC (.int 1))) (eT ky (av 0))))
 (iz "NoText" (wC (.str "no deed stands behind the last word")))
 aV)
 (cp (Ax (uk 1) (Eu (uB (Zw (ay df (av 0) (av 2))) (uB (rO eV (aq (ay df (av 0) (ay fz (av 2) (wC (.int 1)))) de)) CK))))
 (e8 2 (ay fz (av 2) (wC (.int 2))))))
def mL:WS :=
 (cp (e8 1 (kT de))
 (cp (e8 2 (wC (.int 0)))
 (cp (xO (wB (ay CF (av 2) (eT ky (av 0))))
 (e9 (v3 (wB (ay fA (ay df (av 0) (av 2)) (wC (.str "some")))) (wB (ay fA (ay df (av 0) (av 2)) (wC (.str "all")))))
 cu
 (cp (AH (uk 1) (qq (aq (ay df (av 0) (av 2)) de)))
 (e8 2 (ay fz (av 2) (wC (.int 1)))))))
 (jD 1))))
def gD:fw:=λds Q=>∃ ws:List Str,ds=[.list (ws.map .str)]/\ws.length<=10000/\(∀ hs,ly ws=some hs->Q (.ow true) (.list (hs.map AZ)))/\(ly ws=none->Q (.ow false) (.str "NoText"))
def pD (ds Q) (h:gD ds Q):ds.length=["words"].length:=by obtain⟨_,rfl,_⟩:=h;rfl
abbrev HIv (ws:List Str) (Q:Md->D->Prop) (ρ:L2.Q.Env):Prop:=∃ (k:Nat) (t:List Hd),ρ=[some (.sh (.list (ws.map .str))),some (.ow true (.list (t.map AZ))),some (.sh (.int k))]/\k<=ws.length/\t.length<=k/\(∀ hs,ly (ws.drop k)=some hs->Q (.ow true) (.list ((t++hs).map AZ)))/\(ly (ws.drop k)=none->Q (.ow false) (.str "NoText"))
def vy:∀ ds Q,gD ds Q->mL { nx:=λ_=>Q .sh .non,rt:=Q } (aN 3 ds):=by
 rintro ds Q ⟨ws,rfl,hz,h1,h2⟩;obtain⟨w0,e0⟩:∃ w,w=cu:=⟨_,rfl⟩
 unfold mL;rw[<- e0];walk_at "q";refine⟨HIv ws Q,λρ=>ws.length-ZK ρ,⟨0,[],rfl,fI _,cx _,h1,h2⟩,?_⟩;rintro ρ ⟨k,t,rfl,hk,tl,g1,g2⟩;walk_at "q";by_cases hl:k<ws.length;rotate_left
 ·have:k=ws.length:=by lia
  subst this;rw[E5] at g1;have:=g1 [] rfl;rw[kE] at this;rw[if_neg (by simp)];exact this
 rw[if_pos (decide_eq_true (by lia))];have ed:=xD hl;have ea:=tT (xs:=ws.map D.str) (j:=k) (v:=.str ws[k]) (by simp[hl]);rw[ed] at g1 g2;generalize ws[k]=w at *
 refine⟨_,ea,?_⟩;have sa:iX w->∀ E:eO,E.rt=Q->(∀ bt,HIv ws Q bt->ws.length-ZK bt<ws.length-k->E.nx bt)->cu E [some (.sh (.list (ws.map .str))),some (.ow true (.list (t.map AZ))),some (.sh (.int k))]:=λhw E er en=>by
  unfold cu;walk_at "q";refine R.D (λe3=>?_) λe3=>?_
  ·walk_at "q";rw[er];refine g2 ?_;rw[List.drop_eq_nil_of_le (by lia)];unfold ly;rw[if_pos hw]
  have x8:k+1<ws.length:=by lia
  have ZN:=tT (xs:=ws.map D.str) (j:=k+1) (v:=.str ws[k+1]) (by simp[x8]);have U4:=xD x8;rw[U4] at g1 g2;generalize ws[k+1]=d at *
  walk_at "q";refine⟨_,ea,?_⟩;walk_at "q";refine⟨_,ZN,?_⟩;walk_at "q";refine⟨d,rfl,λe=>?_,λe=>?_⟩
  ·have hd:∀ hs,ly (ws.drop (k+1+1))=some hs->ly (w :: d :: ws.drop (k+1+1))=some (.st w d :: hs):=λhs q=>by unfold ly;rw[if_pos hw,if_pos e,q];rfl
   have hn:ly (ws.drop (k+1+1))=none->ly (w :: d :: ws.drop (k+1+1))=none:=λq=>by unfold ly;rw[if_pos hw,if_pos e,q];rfl
   walk_at "q";refine⟨by lia,?_⟩;refine en _ ⟨k+2,t++[.st w d],?_,by lia,by simp;lia,λhs q=>?_,λq=>g2 (hn q)⟩ ?_
   ·rw[kF];rfl
   ·have:=g1 _ (hd hs q);rwa[oI]
   ·show ws.length-(((k:Int)+2).toNat)<_;lia
  ·walk_at "q";rw[er];refine g2 ?_;unfold ly;rw[if_pos hw,if_neg (by rw[e];simp)]
 walk_at "q";refine R.D (λe1=>?_) λe1=>?_
 ·rw[e0];exact sa (.inl e1) _ rfl λbt a b=>⟨a,b⟩
 ·walk_at "q";refine⟨_,ea,?_⟩;walk_at "q";refine R.D (λe2=>?_) λe2=>?_
  ·rw[e0];exact sa (.inr e2) _ rfl λbt a b=>⟨a,b⟩
  ·walk_at "q";refine⟨_,ea,?_⟩;have hw:¬ iX w:=λz=>z.elim e1 e2;have hc:∀ l:List Str,ly (w :: l)=(ly l).map (Hd.ot w :: ·):=λl=>by
    cases l with
    |nil=>show(if iX w then none else some [Hd.ot w])=_;rw[if_neg hw];rfl
    |cons d l=>show(if iX w then _ else _)=_;rw[if_neg hw]
   rw[hc] at g2;simp only[hc] at g1;walk_at "q";refine⟨by lia,⟨k+1,t++[.ot w],?_,by lia,by simp;lia,λhs q=>?_,λq=>g2 (by rw[q];rfl)⟩,?_⟩
   ·rw[kF];rfl
   ·have:=g1 _ (by rw[q];rfl);rwa[oI]
   ·show ws.length-(((k:Int)+1).toNat)<ws.length-k;lia
def dh(SP:CM):WS :=
 (cp (e8 2 yO)
 (cp (e8 3 (kT de))
 (cp (y2 (lA (wZ SP 0 bN (aq (av 1) de))) (gN 4)
 (cp (Ab (uk 2) (av 4) (eT ky (av 3)))
 (AH (uk 3) (bx dR (aq (vW SP 0 (av 4)) (aq (av 2) de))))))
 (jD 3))))
def bM:List (List RI)->fw:=λrs ds Q=>∃ (l:List Rw) (last:Nat),rs=l.map fk/\kg l/\ds=[.int last]/\last<l.length/\l.length<=10000/\Q (.ow true) (.list ((oC l last).map gv))
def gC (rs ds Q) (h:bM rs ds Q):ds.length+1=["self", "last"].length:=by obtain⟨_,_,_,_,rfl,_⟩:=h;rfl
def EW(ks:List Int):List (Key × D):=ks.zipIdx.map λq=>(.inl q.1,.int (q.2:Nat))
def Jf{ks:List Int}(nd:ks.Nodup){j:Int}(h:j∈ks):mM (EW ks) (.inl j:Key)=some (.int (ks.idxOf j:Nat)):=by
 obtain⟨m,hm⟩:=AR.mp h;rw[bZ nd hm];unfold mM EW;rw[oo];have:∃ q,(ks.zipIdx.map λq=>((.inl q.1:Key),D.int (q.2:Nat))).find? (λkv=>decide (kv.1=(.inl j:Key)))=some q:=by rw[<- Vr,List.find?_isSome];exact⟨(.inl j,.int (m:Nat)),iq.mpr ⟨(j,m),LW.mpr hm,rfl⟩,by simp⟩
 obtain⟨q,hq⟩:=this;refine⟨q,hq,?_⟩;obtain⟨⟨y,n⟩,hn,rfl⟩:=iq.mp (List.mem_of_find?_eq_some hq);have e:y=j:=by have:=List.find?_some hq;simpa using this
 subst e;have E9:ks[n]? = some y:=LW.mp hn;rw[<- bZ nd hm,bZ nd E9]
def Hx{ks:List Int}{k:Int}(h:k∉ks):ti (EW ks) (.inl k:Key) (.int (ks.length:Nat))=EW (ks++[k]):=by
 unfold ti;have e:((EW ks).any λkv=>decide (kv.1=(.inl k:Key)))=false:=by rw[List.any_eq_false];intro q hq;obtain⟨⟨y,n⟩,hn,rfl⟩:=iq.mp hq;have E9:ks[n]? = some y:=LW.mp hn;simp only[decide_eq_true_eq];intro z;exact h (Sum.inl.inj z ▸ rg E9)
 rw[e];unfold EW;simp[List.zipIdx_append]
def iQ(SP:CM):∀ a rs ds Q,bM rs ds Q->dh SP { nx:=λ_=>Q .sh .non,rt:=Q } (iu 5 a (SP false rs) ds):=by
 rintro a rs ds Q ⟨l,last,rfl,sc,rfl,hl,hz,h⟩;unfold dh iu;walk_at "q";refine⟨a,false,l.map fk,rfl,l,last,rfl,sc,rfl,hl,hz,?_⟩;walk_at "q";have rl:(bu l last).length<=10001:=iO (v7 (e_ l last) (n:=last+1) λx hx=>by have:=gG sc hx;lia) (by lia);refine cD _ (λi ρ=>∃ o4,ρ=[some (.ob a (SP false (l.map fk))),some (.sh (.int last)),some (.ow true (.dK (EW ((bu l last).take i)))),some (.ow true (.list (((oC l last).take i).map gv))),o4]) ⟨_,rfl⟩ ?_ ?_
 ·rintro i x ρ hx ⟨o4,rfl⟩ N hN;rw[mr] at hx
  cases e:(bu l last)[i]? with
  |none=>rw[e] at hx;cases hx
  |some k =>
   rw[e] at hx;cases hx;have hk:=rg e;obtain⟨k0,k1⟩:=gG sc hk;have hi:=(nh.mp e).1;have R9:k.toNat<l.length:=by lia
   obtain⟨r,hr⟩:∃ r,l[k.toNat]? = some r:=⟨_,vk R9⟩
   have ok:=sc _ _ hr;rw[sD k0] at ok;have tk:(bu l last).take (i+1)=(bu l last).take i++[k]:=by rw[AU,e];rfl
   have ts:(oC l last).take (i+1)=(oC l last).take i++[LJ (LM l last) r]:=by rw[AU];unfold oC;rw[mr,e];simp[UU,hr]
   have sl:(((oC l last).take i).map gv).length=i:=by rw[dr,mw];unfold oC;rw[dr];lia
   have tl:((bu l last).take i).length=i:=by rw[mw];lia
   have nk:k∉(bu l last).take i:=λz=>by
    obtain⟨m,hm⟩:=AR.mp z;rw[List.getElem?_take] at hm;split at hm
    ·have:=bZ (e_ l last) hm;rw[bZ (e_ l last) e] at this;lia
    ·cases hm
   have nml:(EW ((bu l last).take i)).length=i:=by unfold EW;rw[dr,List.length_zipIdx,tl]
   walk_at "q";have Ti:((oC l last).take i).length=i:=by rw[dr] at sl;exact sl
   rw[Ti];have pe:=Hx nk;rw[tl,<- tk] at pe;rw[pe];refine⟨by lia,a,false,l.map fk,rfl,k.toNat,fk r,by rw[sD k0],xR hr,?_⟩;rw[y_];have ndt:((bu l last).take (i+1)).Nodup:=(List.take_sublist _ _).nodup (e_ l last);refine⟨k,r,_,LM l last,rfl,ok,λj hj=>.inr ⟨_,rfl,?_⟩,?_⟩
   ·have R_:=yx sc hk hr j hj;have lt:=Bt iR e R_ (dH ok j hj).2;obtain⟨m,hm⟩:=AR.mp R_;have em:=bZ (e_ l last) hm;have UW:((bu l last).take (i+1))[m]? = some j:=by rw[List.getElem?_take,if_pos (by lia)];exact hm
    rw[Jf ndt (rg UW),bZ ndt UW];unfold LM;rw[em]
   ·walk_at "q";refine⟨by lia,?_⟩;rw[wI];have z:=hN _ ⟨some (.sh (.int k)),rfl⟩;rw[ts,kF] at z;simp only[cond_true,b6];rw[dr,Ti,pe];exact z
 ·rintro ρ ⟨o4,rfl⟩;rw[dr];have e:(oC l last).take (bu l last).length=oC l last:=L5 (by unfold oC;rw[dr];exact cx _);rw[e];walk_at "q";exact h
def jW:WS :=
 (cp (e9 (v3 (uj (wB (eT (A3 "list") (av 0)))) (uj (wB (jd AF AF (wC (.int 1)) (eT ky (av 0)) (wC (.int 2000))))))
 (fF (wC (.bl false)))
 aV)
 (fF (eT RX (oJ (uA (av 0)) (gT 2 (tK (gN 0) (tK (gN 1) zX))) EG (bx j9 (aq (av 0) (aq (av 1) de))) 2 []))))
def fJ:fw:=λds Q=>∃ l:List Rw,ds=[.list (l.map gv)]/\kg l/\1<=l.length/\l.length<=2000/\Q .sh (.bl true)
def oH (ds Q) (h:fJ ds Q):ds.length=["thing"].length:=by obtain⟨_,rfl,_⟩:=h;rfl
def qO:∀ ds Q,fJ ds Q->jW { nx:=λ_=>Q .sh .non,rt:=Q } (aN 1 ds):=by
 rintro ds Q ⟨l,rfl,hs,h1,h2,h⟩;unfold jW;walk_at "q";refine R.F rfl ?_;walk_at "q";refine R.T (decide_eq_true (by lia)) ?_;walk_at "q";refine R.F (by rw[decide_eq_true (by lia)];rfl) ?_;walk_at "q";refine cY (λ_=>true) (λ_=>.bl true) (λρ=>∃ o o',ρ=[o,o']) _ _ _ ⟨_,_,rfl⟩ ?_ ?_
 ·rintro y hy ρ ⟨o,o',rfl⟩ N1 N2 _ h2;obtain⟨i,hi⟩:=AR.mp hy;unfold lL at hi;rw[List.getElem?_mapIdx,mr] at hi
  cases e:l[i]? with
  |none=>rw[e] at hi;cases hi
  |some r =>rw[e] at hi;cases hi;walk_at "q";exact⟨_,_,rfl,hs i r e,.inl rfl,h2 _ ⟨_,_,rfl⟩ rfl⟩
 ·rw[iD];refine⟨(lL (l.map gv)).map λ_=>true,by rw[om];rfl,?_⟩;rw[P5,show(lL (l.map gv)).all ((λb=>b) ∘ λ_=>true)=true from BO.mpr λ_ _=>rfl];exact h
def eU(SP:CM):WS :=
 (cp (sY dX (aq (av 0) de))
 (cp (e8 1 (sW (av 0) (wC (.str " "))))
 (cp (e9 (wB (ay OG (eT ky (av 1)) (wC (.int 200))))
 (iz "NoText" (wC (.str "the sentence has too many words")))
 aV)
 (cp (Hq SP 2)
 (cp (Gw 3)
 (cp (zE (rO gD (aq (av 1) de)) (gN 4)
 (Hl SP 3 2 (lD 3 jY (yR (av 4) qN))))
 (cp (e9 (wB (ay EE (eT ky (vH 3)) (wC (.int 1))))
 (iz "NoText" (wC (.str "more than one sentence")))
 aV)
 (fF (wZ SP 2 bM (aq (ay df (vH 3) (wC (.int 0))) de))))))))))
def GY(ws:List Str):Prop:=fm 1 ws=true/\ws.length<=200
def bF:fw:=λds Q=>∃ d:D,ds=[d]/\((¬ ∃ t,d=.str t)->Q (.ow false) (.str "NoText"))/\∀ t:Str,d=.str t->t.length<=1000000/\(¬ GY (Txt.split t " ")->Q (.ow false) (.str "NoText"))/\(GY (Txt.split t " ")->∀ l:List Rw,kg l->1<=l.length->l.length<=2000->WA.at l ((l.length-1:Nat):Int)=some (Txt.split t " ")->Q (.ow true) (.list (l.map gv)))
def iW (ds Q) (h:bF ds Q):ds.length=["text"].length:=by obtain⟨_,rfl,_⟩:=h;rfl
def Dr(rs:List Rw)(r:Rw):r∈(gI rs r).1:=by
 unfold gI;split
 ·rename_i h;obtain⟨y,hy,e⟩:=P2.mp h;rw[<- xm (of_decide_eq_true e)];exact hy
 ·simp
def zT(pre:List Hd):pre.foldr Sb none=none:=by
 induction pre with
 |nil=>rfl
 |cons h pre ih=>rw[List.foldr_cons,ih];rfl
def Gf(pre suf:List Hd):Bn (pre++suf)=pre.foldr Sb (Bn suf):=by unfold Bn;rw[List.foldr_append]
def kZ(SP:CM):∀ ds Q,bF ds Q->eU SP { nx:=λ_=>Q .sh .non,rt:=Q } (aN 5 ds):=by
 rintro ds Q ⟨d,rfl,h1,h2⟩;unfold eU;walk_at "q";refine⟨d,rfl,λ⟨t,e⟩=>?_,λne=>?_⟩;rotate_left
 ·walk_at "q";exact h1 ne
 subst e;obtain⟨tl,hb,hg⟩:=h2 t rfl;walk_at "q";refine⟨by decide +kernel,tl,?_⟩;generalize Txt.split t " " = ws at *
 refine R.D (λhl=>?_) λhl=>?_
 ·walk_at "q";exact hb λz=>by have:=z.2;lia
 walk_at "q";intro a;walk_at "q";intro b;have wl:ws.length<=200:=by lia
 refine⟨ws,rfl,by lia,λhs eh=>?_,λen=>?_⟩;rotate_left
 ·walk_at "q";refine hb λz=>?_;have z1:=z.1;rw[iI,en] at z1;cases z1
 obtain⟨ef,aI⟩:=ug ws hs eh;have bad:Bn hs=none->Q (.ow false) (.str "NoText"):=λe=>hb λz=>by have z1:=z.1;rw[iI,eh] at z1;obtain⟨p,e2,_⟩:=(rB hs 1).mp z1;rw[e] at e2;cases e2
 have parts:∀ i,hs=(hs.reverse.drop i).reverse++(hs.reverse.take i).reverse:=λi=>by rw[<- List.reverse_append,PH,DI]
 have inv:∀ i rs st,Bn (hs.reverse.take i).reverse=some (rs,st)->ZJ (hs.reverse.take i).reverse rs st:=λi rs st e=>by
  have p:=parts i;refine Fg _ (λh hh=>aI h (by rw[p];exact eP _ hh)) ?_ rs st e;have:(hs.flatMap hw).length<=200:=by rw[ef];exact wl
  rw[p,List.flatMap_append,hJ] at this;lia
 have hlen:hs.length<=200:=iO (Gm eh) wl;walk_at "q";rw[<- List.map_reverse];refine cD _ (λi ρ=>∃ rs st o4,Bn (hs.reverse.take i).reverse=some (rs,st)/\ρ=[some (.sh (.str t)),some (.ow true (.list (ws.map .str))),some (.ob a (SP true (rs.map fk))),mh b st.reverse,o4]) ⟨[],[],none,rfl,rfl⟩ ?_ ?_
 ·rintro i x ρ hx ⟨rs,st,o4,er,rfl⟩ N hN;rw[mr] at hx;obtain⟨h,hh,rfl⟩:=oo.mp hx;have tk:(hs.reverse.take (i+1)).reverse=h :: (hs.reverse.take i).reverse:=by rw[AU,hh];simp
  have rn:Bn (hs.reverse.take (i+1)).reverse=(qS h st).map λq=>((gI rs q.1).1,(gI rs q.1).2 :: q.2):=by rw[tk,mY,er];rfl
  have I:=inv i rs st er;have hm:h∈hs:=List.mem_reverse.mp (rg hh);have il:((hs.reverse.take i).reverse).length<=200:=by rw[HZ,mw,HZ];lia
  have ln:=I.ln;have sl:=I.sl;refine⟨⟨b,_,rfl⟩,⟨a,_,rfl⟩,?_⟩;refine⟨b,st.reverse,rfl,?_⟩;have fh:(AZ h).flat=true:=by cases h<;>rfl
  refine⟨fh,h,st,rfl,aI h hm,rfl,λz=>?_,λr tt z=>?_⟩
  ·refine bad ?_;rw[z] at rn;rw[parts (i+1),Gf,rn];exact zT _
  ·rw[z] at rn;have I2:=inv (i+1) _ _ rn;obtain⟨j,hj⟩:=AR.mp (Dr rs r);have ok:=I2.sc j r hj;have s2:=I2.sl;rw[tk,kB,kB] at s2;have s2:tt.length+1<=(hs.reverse.take i).reverse.length+1:=s2;refine⟨a,rs.map fk,b,tt.reverse,fk r,rfl,rfl,?_,?_,(y_ r).symm,by rw[y_];exact rw_ok 10 ok,λi9 k hr hk=>?_⟩
   ·rw[dr,oi];lia
   ·rw[HZ,oi];lia
   ·obtain⟨rfl,ek⟩:=Ho I.nd hr hk;refine hN _ ⟨_,_,some (.sh (AZ h)),rn,?_⟩;rw[ek];simp
 ·rintro ρ ⟨rs,st,o4,er,rfl⟩;rw[dr,E6,DI] at er;have I:ZJ hs rs st:=by have:=inv hs.reverse.length rs st (by rw[E6,DI];exact er);rwa[E6,DI] at this
  walk_at "q";refine⟨b,_,rfl,?_⟩;walk_at "q";rw[HZ];refine R.B (λe=>?_) λe=>?_
  ·have e:¬ (st.length:Int)=1:=by simpa using e
   walk_at "q";refine hb λz=>?_;have z1:=z.1;rw[iI,eh] at z1;obtain⟨p,e2,l2⟩:=(rB hs 1).mp z1;rw[er] at e2;cases e2;have l2:st.length=1:=l2;lia
  ·have e:(st.length:Int)=1:=by simpa using e
   have l1:st.length=1:=by lia
   obtain⟨x,rfl⟩:=List.length_eq_one_iff.mp l1;obtain⟨x0,x1⟩:=I.bd x fo;obtain⟨Bz,ew,efl⟩:=I.ws;have rk:GY ws:=⟨by rw[iI,eh];exact(rB hs 1).mpr ⟨_,er,rfl⟩,wl⟩
   have top:WA.at rs ((x.toNat:Nat):Int)=some ws:=by
    rw[sD x0]
    cases Bz with
    |nil=>simp at ew
    |cons w1 wt =>
     simp only[gX,List.map_nil,List.cons.injEq] at ew;have:wt=[]:=by
      cases wt with
      |nil=>rfl
      |cons _ _=>simp at ew
     subst this;rw[ew.1,<- ef,<- efl];simp
   have ln:=I.ln;have rl:(bu rs x.toNat).length<=x.toNat+1:=v7 (e_ rs x.toNat) (n:=x.toNat+1) λy hy=>by have:=gG I.sc hy;lia
   have fin:=hg rk (oC rs x.toNat) (B_ I.sc (by lia)) (by rw[oF];exact zU I.sc) (by rw[oF];lia) (by rw[zP WA I.sc (by lia)];exact top);walk_at "q";refine⟨a,true,rs.map fk,rfl,?_⟩;walk_at "q";refine⟨b,_,rfl,?_⟩;walk_at "q";refine⟨.int x,rfl,?_⟩;walk_at "q";exact⟨rs,x.toNat,rfl,I.sc,by rw[sD x0],by lia,by lia,fin⟩
def gj:WS :=
 (e9 (uj (wB (bx fJ (aq (av 0) de))))
 uv
 aV)
def cN:fw:=λds Q=>∃ l:List Rw,ds=[.list (l.map gv)]/\kg l/\1<=l.length/\l.length<=2000/\Q .sh .non
def jA (ds Q) (h:cN ds Q):ds.length=["thing"].length:=by obtain⟨_,rfl,_⟩:=h;rfl
def lN:∀ ds Q,cN ds Q->gj { nx:=λ_=>Q .sh .non,rt:=Q } (aN 1 ds):=by rintro ds Q ⟨l,rfl,hs,h1,h2,h⟩;unfold gj;walk_at "q";refine⟨l,rfl,hs,h1,h2,?_⟩;walk_at "q";exact h
def gk:WS :=
 (cp (e8 1 (qq de))
 (cp (Fx 2 (sY bF (aq (av 0) de)) (λa=>[none,none,some (.xc a),none]) (λa n=>(cp (e8 3 (OW 2 a (decide (n = "NoDeed") || (decide (n = "NoScroll") || (decide (n = "TooBig") || false)))))
 (A4 3 (e8 1 (qq (aq (OW 2 a (decide (n = "NoText"))) (aq (OW 2 a true) (aq (av 3) de)))))))))
 (fF (ay fA (av 1) (qq (aq (wC (.bl true)) (aq (wC (.bl true)) (aq (wC (.bl false)) de))))))))
def Ref (d:D):Prop:=(¬ ∃ t,d=.str t)\/∃ t,d=.str t/\t.length<=1000000/\¬ GY (Txt.split t " ")
def bL:fw:=λds Q=>∃ d:D,ds=[d]/\Ref d/\Q .sh (.bl true)
def ju (ds Q) (h:bL ds Q):ds.length=["_law_thing"].length:=by obtain⟨_,rfl,_⟩:=h;rfl
def l_:∀ ds Q,bL ds Q->gk { nx:=λ_=>Q .sh .non,rt:=Q } (aN 4 ds):=by
 rintro ds Q ⟨d,rfl,hd,h⟩;unfold gk;walk_at "q";have go:∀ a:ag,eB 12 (D.tup [D.bl (decide (("NoText" : Str) = "NoText")),D.bl true,D.bl (decide (("NoText" : Str) = "NoDeed") || (decide (("NoText" : Str) = "NoScroll") || (decide (("NoText" : Str) = "TooBig") || false)))])=true/\eB 12 (D.tup [D.bl true,D.bl true,D.bl false])=true/\Q .sh (D.bl (k9 (D.tup [D.bl (decide (("NoText" : Str) = "NoText")),D.bl true,D.bl (decide (("NoText" : Str) = "NoDeed") || (decide (("NoText" : Str) = "NoScroll") || (decide (("NoText" : Str) = "TooBig") || false)))]) (D.tup [D.bl true,D.bl true,D.bl false]))):=λa=>by
  have e:(decide (("NoText" : Str) = "NoText"))=true/\(decide (("NoText" : Str) = "NoDeed") || (decide (("NoText" : Str) = "NoScroll") || (decide (("NoText" : Str) = "TooBig") || false)))=false:=by decide +kernel
  rw[e.1,e.2];exact⟨rfl,rfl,h⟩
 refine⟨d,rfl,λne=>go,λt e=>?_⟩;rcases hd with hd|⟨t',e',tl,hd⟩
 ·exact absurd ⟨t,e⟩ hd
 ·subst e;cases e';exact⟨tl,λ_=>go,λz=>absurd z hd⟩
def Bu:WS :=
 (cp (Er (bx cN (aq (av 0) de)))
 (cp (e8 1 (kT de))
 (cp (A4 0 (y2 (lA (av 0)) (gN 2)
 (AH (uk 1) (bx gH (aq (av 2) (aq (av 1) de))))))
 (cp (e9 (wB (ay WY (ay df (av 1) (eT CH (wC (.int 1)))) (wC .non)))
 uv
 aV)
 (fF (gn (wC (.str " ")) (ay df (av 1) (eT CH (wC (.int 1))))))))))
def rG:fw:=λds Q=>∃ (l:List Rw) (ws:List Str),ds=[.list (l.map gv)]/\kg l/\1<=l.length/\l.length<=2000/\WA.at l ((l.length-1:Nat):Int)=some ws/\Q .sh (.str (Str.join " " ws))
def zB (ds Q) (h:rG ds Q):ds.length=["scroll"].length:=by obtain⟨_,_,rfl,_⟩:=h;rfl
def zA(w:Str):PyData.strOk (bU w)=true/\(bU w).length<=6/\PyData.strOk (bf w)=true/\(bf w).length<=6:=by unfold bU bf;split<;>decide +kernel
def K1{k:Int}{r:Rw}{g:Int->Option (List Str)}(ok:ve k r)(EV:∀ j,Dp (g j)):Dp (GV r g):=by
 intro ws e;obtain⟨X,eX,e⟩:=S6.mp e;split at e
 ·rename_i hX;cases e;refine⟨hX,?_⟩
  cases r with
  |st w d j =>
   obtain⟨p,ep,rfl⟩:=oo.mp (show(g j).map _=some ws from eX);have cw:PyData.strOk w=true/\w.length<=6:=by rcases ok.1 with rfl|rfl<;>decide +kernel
   intro x hx;rcases eJ.mp hx with rfl|hx
   ·exact cw
   rcases eJ.mp hx with rfl|hx
   ·exact⟨ok.2.1.ok,ok.2.1.len⟩
   ·exact(EV j p ep).2 x hx
  |nt j =>
   obtain⟨p,ep,rfl⟩:=oo.mp (show(g j).map _=some ws from eX);intro x hx;rcases eJ.mp hx with rfl|hx
   ·decide +kernel
   ·exact(EV j p ep).2 x hx
  |jn w ps =>
   obtain⟨l,el,rfl⟩:=oo.mp (show(lI (ps.map g)).map _=some ws from eX);have ZO:∀ (qs:List Int) (m:List (List Str)),lI (qs.map g)=some m->∀ p∈m,∀ x∈p,PyData.strOk x=true/\x.length<=6:=λqs=>by
    induction qs with
    |nil=>intro m e;cases e;exact λ_ z=>nomatch z
    |cons q qs ih =>
     intro m e;rw[gX] at e
     cases eg:g q with
     |none=>rw[eg] at e;cases e
     |some p =>rw[eg] at e;obtain⟨m',e',rfl⟩:=oo.mp (show(lI (qs.map g)).map (p :: ·)=some m from e);exact λy hy=>(eJ.mp hy).elim (λz=>z ▸ (EV q p eg).2) (ih m' e' y)
   have ZO:=ZO ps l el;have jw:∀ m:List (List Str),(∀ p∈m,∀ x∈p,PyData.strOk x=true/\x.length<=6)->∀ x∈LN (bf w) m,PyData.strOk x=true/\x.length<=6:=λm=>by
    rcases m.eq_nil_or_concat with rfl|⟨n,p,rfl⟩
    ·exact λ_ x hx=>nomatch hx
    ·intro hm x hx;rw[List.concat_eq_append] at hx hm;rw[ni] at hx;rcases eK.mp hx with hx|hx
     ·obtain⟨y,hy,hx⟩:=List.mem_flatten.mp hx;obtain⟨q,hq,rfl⟩:=iq.mp hy;rcases eJ.mp hx with rfl|hx
      ·exact⟨(zA w).2.2.1,(zA w).2.2.2⟩
      ·exact hm q (jI _ hq) x hx
     ·exact hm p (by simp) x hx
   cases l with
   |nil =>intro x hx;rw[kD.mp hx];exact⟨(zA w).1,(zA w).2.1⟩
   |cons p l=>exact jw _ ZO
 ·cases e
def yt{l:List Rw}(sc:kg l):∀ i,i<=l.length->∀ o∈WA.vals (l.take i),Dp o:=by
 intro i
 induction i with
 |zero=>intro _ o ho;rw[List.take_zero] at ho;exact nomatch ho
 |succ i ih =>
  intro hi o ho;have hl:i<l.length:=by lia
  rw[List.take_succ_eq_append_getElem hl,o8] at ho;rcases eK.mp ho with ho|ho
  ·exact ih (by lia) o ho
  ·rw[kD.mp ho];refine K1 (sc i _ (vk hl)) λj=>?_;show Dp ((WA.vals (l.take i)).getD j.toNat none);rw[DH]
   cases e:(WA.vals (l.take i))[j.toNat]? with
   |none=>exact λws z=>nomatch z
   |some o=>exact ih (by lia) o (rg e)
theorem cG:∀ (l:List Str),iM (l.map D.str)=some l
 |[]=>rfl
 |x :: l=>by rw[gX];unfold iM;rw[cG l];rfl
theorem vz(k:Nat):∀ (l:List Str),(∀ w∈l,w.length<=k)->(l.map (·.length)).sum<=l.length*k
 |[],_=>by simp
 |w :: l,h=>by have:=vz k l λx hx=>h x (eA _ hx);have:=h w fo;simp only[gX,List.sum_cons,kB,Nat.succ_mul];lia
def Hv:∀ ds Q,rG ds Q->Bu { nx:=λ_=>Q .sh .non,rt:=Q } (aN 3 ds):=by
 rintro ds Q ⟨l,ws,rfl,sc,h1,h2,hw,h⟩;unfold Bu;walk_at "q";refine⟨l,rfl,sc,h1,h2,?_⟩;walk_at "q";refine cD _ (λi ρ=>∃ o2,ρ=[some (.sh (.list (l.map gv))),some (.ow true (.list ((WA.vals (l.take i)).map si))),o2]) ⟨none,rfl⟩ ?_ ?_
 ·rintro i x ρ hx ⟨o2,rfl⟩ N hN;rw[mr] at hx;obtain⟨r,hr,rfl⟩:=oo.mp hx;have hi:=(nh.mp hr).1;have tk:WA.vals (l.take (i+1))=WA.vals (l.take i)++[WA.H r (WA.at (l.take i))]:=by rw[AU,hr];exact o8 WA _ _
  have vl:(WA.vals (l.take i)).length=i:=by rw[gQ,mw];lia
  have nx:=hN _ ⟨some (.sh (gv r)),rfl⟩;rw[tk,kF] at nx;generalize hv:WA.vals (l.take i)=vs at *
  have GW:∀ o∈vs,Dp o:=hv ▸ yt sc i (by lia);have eH:WA.H r (WA.at (l.take i))=GV r λj=>vs.getD j.toNat none:=by rw[<- hv];rfl
  rw[eH] at nx;walk_at "q";refine⟨i,r,vs,rfl,sc i r hr,by lia,GW,λz=>?_,λws z=>?_⟩
  ·rw[z] at nx;walk_at "q";exact⟨by lia,nx⟩
  ·rw[z] at nx;walk_at "q";exact⟨by lia,nx⟩
 ·rintro ρ ⟨o2,rfl⟩;rw[dr,E6];have GW:=yt sc l.length (cx _);rw[E6] at GW;have UX:fP ((WA.vals l).map si) (-1)=some (.list (ws.map .str)):=by
   have vl:=gQ WA l;have mE:WA.vals l≠[]:=λz=>by rw[z] at vl;simp at vl;lia
   have el:=(Vd mE).symm;have eg:(WA.vals l).getLast mE=some ws:=by rw[<- hw];unfold Sm.at;rw[My,<- vl,DH,<- List.getLast?_eq_getElem?,List.getLast?_eq_some_getLast mE];rfl
   conv=>lhs;rw[el,kF,eg]
   exact aP' _ _
  have wk:Dp (some ws):=by
   rw[<- hw];unfold Sm.at;rw[DH]
   cases e:(WA.vals l)[((l.length-1:Nat):Int).toNat]? with
   |none=>exact λws z=>nomatch z
   |some o=>exact GW o (rg e)
  obtain⟨w1,w2⟩:=wk ws rfl;have sm:=vz 6 ws λx hx=>(w2 x hx).2;walk_at "q";refine⟨_,UX,?_⟩;walk_at "q";refine⟨_,UX,?_⟩;walk_at "q";exact⟨ws,cG ws,by rw[show(Str.ofString " ").length=1 by decide +kernel,Nat.mul_one];lia,h⟩
def nu:WS :=
 (cp (e8 2 (sW (gn (wC (.str " ")) (av 2)) (wC (.str " "))))
 (cp (e9 (uj (wB (bx bH (aq (av 2) de))))
 (fF (bx bL (aq (gn (wC (.str " ")) (av 2)) de)))
 aV)
 (fF (ay fA (bx rG (aq (yM bF (aq (gn (wC (.str " ")) (av 2)) de)) de)) (gn (wC (.str " ")) (av 2))))))
def nq:WS :=
 (cp (e9 (wB (ay (yB true) (ay mP (av 3) (wC (.int 8))) (qq (aq (wC (.int 3)) (aq (wC (.int 4)) de)))))
 (cp (e8 4 (bx aO (aq (av 0) (aq (wC (.int 4)) de))))
 (e8 2 (bx dg (aq (av 2) (aq (ay mP (ay AB (av 3) (wC (.int 8))) (eT ky (av 2))) (aq (av 4) (aq (av 1) de)))))))
 aV)
 nu)
def o_:WS :=
 (cp (e9 (wB (ay fA (ay mP (av 3) (wC (.int 8))) (wC (.int 3))))
 (e8 2 (ay fz (ay zp (kT (aq (wC (.str "not")) de)) (ay OB (ay fz (wC (.int 199)) (ay mP (ay AB (av 3) (wC (.int 8))) (wC (.int 4)))) (eT ky (av 2)))) (av 2)))
 aV)
 nq)
def qH:WS :=
 (cp (e9 (uj (wB (bx bL (aq (bx cJ (aq (gn (wC (.str " ")) (av 2)) (aq (bx aO (aq (av 0) (aq (wC (.int 5)) de))) de))) de))))
 (fF (wC (.bl false)))
 aV)
 (cp (e8 3 (bx aO (aq (av 0) (aq (wC (.int 0)) de))))
 o_))
def Ie:WS :=
 (cp (e8 1 (bx dN (aq (bx aO (aq (av 0) (aq (wC (.int 1)) de))) (aq (bx aO (aq (av 0) (aq (wC (.int 2)) de))) de))))
 (cp (e8 2 (bx dG (aq (sd (av 0) (cO (wC (.int 6))) (cO (wC (.int 61)))) (aq (bx aO (aq (av 0) (aq (wC (.int 3)) de))) (aq (ay fz (kT (aq (wC (.str "*")) (aq (wC (.str "yes")) (aq (wC (.str "some")) de)))) (av 1)) de)))))
 qH))
theorem n_:∀ (ws:List Str) (n:Nat) (w:Str) (vs:List Str),fm n ws=true->fm n (ws++w :: vs)=false
 |[],n,w,vs,h=>by rw[oG,decide_eq_true_eq] at h;subst h;rfl
 |[x],n,w,vs,h=>by
  cases n with
  |zero=>cases h
  |succ n =>
   by_cases hx:iX x
   ·rw[show fm (n+1) [x]=if iX x then false else _ from rfl,if_pos hx] at h;cases h
   ·rw[b8 hx] at h;rw[HP,b8 hx]
    cases e:oa (.ot x) with
    |none=>rfl
    |some a =>rw[e] at h;exact n_ [] (n+a) w vs h
 |x :: d :: ws,n,w,vs,h=>by
  cases n with
  |zero=>cases h
  |succ n =>
   by_cases hx:iX x
   ·have un:∀ l:List Str,fm (n+1) (x :: d :: l)=(bR d && fm (n+1) l):=λl=>by show(if iX x then _ else _)=_;rw[if_pos hx]
    rw[un,kM] at h;rw[AV,AV,un,n_ ws (n+1) w vs h.2,Bool.and_false]
   ·rw[b8 hx] at h;rw[AV,b8 hx]
    cases e:oa (.ot x) with
    |none=>rfl
    |some a =>rw[e] at h;exact n_ (d :: ws) (n+a) w vs h
theorem oX:∀ (ws:List Str) (n:Nat) (y z:Str),(y = "yes"\/y = "no")->fm n (ws++[y])=true->¬ iX z->oa (.ot z)=none->fm n (ws++[z])=false
 |[],n,y,z,hy,h,hz,ez=>by
  cases n with
  |zero=>rfl
  |succ n=>rw[List.nil_append,b8 hz,ez]
 |[x],n,y,z,hy,h,hz,ez=>by
  cases n with
  |zero=>rfl
  |succ n =>
   by_cases hx:iX x
   ·have un:∀ v:Str,fm (n+1) [x,v]=(bR v && fm (n+1) []):=λv=>by show(if iX x then _ else _)=_;rw[if_pos hx]
    rw[show[x]++[y]=[x,y] from rfl,un,kM] at h;cases h.2
   ·rw[HP,b8 hx] at h ⊢
    cases e:oa (.ot x) with
    |none=>rfl
    |some a =>rw[e] at h;exact oX [] (n+a) y z hy h hz ez
 |x :: d :: ws,n,y,z,hy,h,hz,ez=>by
  cases n with
  |zero=>rfl
  |succ n =>
   by_cases hx:iX x
   ·have un:∀ l:List Str,fm (n+1) (x :: d :: l)=(bR d && fm (n+1) l):=λl=>by show(if iX x then _ else _)=_;rw[if_pos hx]
    rw[AV,AV,un] at h ⊢;rw[kM] at h;rw[oX ws (n+1) y z hy h.2 hz ez,Bool.and_false]
   ·rw[AV,b8 hx] at h ⊢
    cases e:oa (.ot x) with
    |none=>rfl
    |some a =>rw[e] at h;exact oX (d :: ws) (n+a) y z hy h hz ez
abbrev Se:fw:=co'
def Ft (ds Q) (h:Se ds Q):ds.length=["_law_script"].length:=by obtain⟨_,rfl,_⟩:=h;rfl
def JR:(" " : Str)=⟨#[32]⟩:=by decide +kernel
def lG:(" " : Str).length=1:=by decide +kernel
def join_cons (a:Str) {r:List Str} (h:r≠[]):Str.join " " (a :: r)=a++(" " ++ Str.join " " r):=by
 cases r with
 |nil=>exact absurd rfl h
 |cons b r =>refine dM ?_;have:=g_ " " a b r;unfold sg at this;rw[this];have e1:=cI a (" " ++ Str.join " " (b :: r));have e2:=cI " " (Str.join " " (b :: r));unfold sg at e1 e2;rw[e1,e2]
def dq(a b c:Str):a++b++c=a++(b++c):=dM (by
 have e1:=cI (a++b) c;have e2:=cI a b;have e3:=cI a (b++c);have e4:=cI b c;unfold sg at *
 rw[e1,e2,e3,e4,oI])
theorem join_snoc (w:Str):∀ (zs:List Str),zs≠[]->Str.join " " (zs++[w])=Str.join " " zs++(" " ++ w)
 |[],h=>absurd rfl h
 |[a],_=>join_cons a (by simp)
 |a :: b :: r,_=>by rw[AV,join_cons a (by simp),join_snoc w (b :: r) (by simp),join_cons a (by simp),dq,dq]
theorem cP:∀ (zs:List Str),zs≠[]->(Str.join " " zs).length+1=(zs.map (·.length)).sum+zs.length
 |[],h=>absurd rfl h
 |[a],_=>by simp[show Str.join " " [a]=a from rfl]
 |a :: b :: r,_=>by have ih:=cP (b :: r) (by simp);rw[join_cons a (by simp),aK,aK,lG];simp only[gX,List.sum_cons,kB] at ih ⊢;lia
def join_max(zs:List Str)(k:Nat)(h:∀ w∈zs,w.length<=k):(zs.map (·.length)).sum<=zs.length*k:=vz k zs h
def zW {ps:List Str} (h:ps≠[]) (hc:∀ p∈ps,32∉sg p):Txt.split (Str.join " " ps) " " = ps:=by rw[JR];exact uI h hc
def mC {ps:List Str} (h:ps≠[]) (hc:∀ p∈ps,32∉sg p) (hl:(Str.join " " ps).length<=1000000) (hw:fm 1 ps=false):Ref (.str (Str.join " " ps)) :=
 .inr ⟨_,rfl,hl,λz=>by rw[zW h hc] at z;rw[z.1] at hw;cases hw⟩
def HJ {kC:List Str} {y:Str} (hy:y = "yes"\/y = "no") (hw:fm 1 (kC++[y])=true) (hl:kC.length<=111) (aI:∀ w∈kC++[y],pf w):∀ d∈U0 (Str.join " " (kC++[y])),Ref d:=by
 have e0:32∉sg ("" : Str)/\("" : Str).length=0/\¬ iX ""/\oa (.ot "")=none:=by decide +kernel
 have eN:32∉sg ("Not" : Str)/\("Not" : Str).length=3/\¬ iX "Not"/\oa (.ot "Not")=none:=by decide +kernel
 have eS:32∉sg (y ++ ";")/\(y ++ ";").length<=4/\¬ iX (y ++ ";")/\oa (.ot (y ++ ";"))=none:=by rcases hy with rfl|rfl<;>decide +kernel
 have ne:kC++[y]≠[]:=by simp
 have no:∀ w∈kC++[y],32∉sg w:=λw h=>(aI w h).2;have no0:∀ w∈kC,32∉sg w:=λw h=>no w (jI _ h);have jl:=cP (kC++[y]) ne;have jm:=join_max (kC++[y]) 6 λw h=>(aI w h).1;rw[hJ,L7] at jl jm;have tl:(Str.join " " (kC++[y])).length<=1000:=by lia
 have app:∀ (ps:List Str) (x:Str),(∀ p∈ps,32∉sg p)->32∉sg x->∀ p∈ps++[x],32∉sg p:=λps x a b p hp=>(eK.mp hp).elim (a p) λz=>by rw[kD.mp z];exact b
 have con:∀ (ps:List Str) (x:Str),(∀ p∈ps,32∉sg p)->32∉sg x->∀ p∈x :: ps,32∉sg p:=λps x a b p hp=>(eJ.mp hp).elim (λz=>by rw[z];exact b) (a p);have nil:∀ p∈([]:List Str),32∉sg p:=λ_ z=>nomatch z;have emp:∀ x:Str,x ++ "" = x:=λx=>dM (by have:=cI x "";unfold sg at this;rw[this];exact kE _);have lD':∀ x:Str, "" ++ x=x:=λx=>dM (by have:=cI "" x;unfold sg at this;rw[this];rfl);intro d hd;simp only[U0,eJ,BM,or_false] at hd;rcases hd with rfl|rfl|rfl|rfl|rfl|rfl|rfl|rfl|rfl|rfl|rfl
 ·have e:Str.join " " (kC++[y]) ++ " " = Str.join " " ((kC++[y])++[("" : Str)]):=by rw[join_snoc "" _ ne,emp]
  rw[e];exact mC (by simp) (app _ _ no e0.1) (by rw[<- e,aK,lG];lia) (n_ _ 1 "" [] hw)
 ·have e : " " ++ Str.join " " (kC++[y])=Str.join " " ("" :: (kC++[y])):=by rw[join_cons "" ne,lD']
  rw[e];exact mC (by simp) (con _ _ no e0.1) (by rw[<- e,aK,lG];lia) (by rw[b8 e0.2.2.1,e0.2.2.2])
 ·exact mC (ps:=[""]) (by simp) (con _ _ nil e0.1) (by decide +kernel) (by rw[b8 e0.2.2.1,e0.2.2.2])
 ·exact .inl λ⟨t,z⟩=>nomatch z
 ·exact .inl λ⟨t,z⟩=>nomatch z
 ·exact .inl λ⟨t,z⟩=>nomatch z
 ·exact .inl λ⟨t,z⟩=>nomatch z
 ·exact .inl λ⟨t,z⟩=>nomatch z
 ·have e:(" " : Str)=Str.join " " ["", ""]:=by decide +kernel
  rw[e];exact mC (by simp) (con _ _ (con _ _ nil e0.1) e0.1) (by decide +kernel) (by rw[b8 e0.2.2.1,e0.2.2.2])
 ·have e:Str.join " " (kC++[y]) ++ ";" = Str.join " " (kC++[y ++ ";"]):=by
   cases kC with
   |nil=>rfl
   |cons a r=>rw[join_snoc _ _ (by simp),join_snoc _ _ (by simp),dq,dq]
  have sl:(";" : Str).length=1:=by decide +kernel
  rw[e];exact mC (by simp) (app _ _ no0 eS.1) (by rw[<- e,aK,sl];lia) (oX kC 1 y _ hy hw eS.2.2.1 eS.2.2.2)
 ·have e : "Not " ++ Str.join " " (kC++[y])=Str.join " " ("Not" :: (kC++[y])):=by rw[join_cons "Not" ne,<- dq];congr 1
  have nl:("Not " : Str).length=4:=by decide +kernel
  rw[e];exact mC (by simp) (con _ _ no eN.1) (by rw[<- e,aK,nl];lia) (by rw[b8 eN.2.2.1,eN.2.2.2])
def Jz{Q:Md->D->Prop}{ws:List Str}{o0 o1 o3 o4:Option Sl}(wl:ws.length<=1000)(ww:∀ w∈ws,w.length<=20)(h:∀ m,Q m (.bl true)):nu { nx:=λ_=>Q .sh .non,rt:=Q } [o0,o1,some (.ow true (.list (ws.map .str))),o3,o4]:=by
 have jm:=join_max ws 20 ww;have tl:(Str.join " " ws).length<=30000:=by
  by_cases z:ws=[]
  ·subst z;exact fI _
  ·have:=cP ws z;lia
 unfold nu;walk_at "q";refine⟨ws,cG ws,by rw[show(Str.ofString " ").length=1 from lG,Nat.mul_one];lia,by decide +kernel,by lia,?_⟩;generalize Str.join " " ws=t at *
 have sj:=PySem.StrLaws.join_split t " ";have sn:=uC t " ";have sf:=kh t " " (by rw[lG];exact cx 1);have jl:=cP _ sn;rw[sj] at jl;have rd:GY (Txt.split t " ")↔(fm 1 (Txt.split t " ") && decide ((Txt.split t " ").length<=200))=true:=by unfold GY;rw[kM,decide_eq_true_eq]
 generalize hv:Txt.split t " " = vs at *
 have jz:(vs.map (·.length)).sum+vs.length*(Str.ofString " ").length<=16777216:=by rw[show(Str.ofString " ").length=1 from lG,Nat.mul_one];lia
 refine⟨vs,rfl,by lia,?_⟩;have cj:=sj
 cases hb:(fm 1 vs && decide (vs.length<=200)) with
 |false =>
  have nr:¬ GY vs:=λz=>by rw[rd.mp z] at hb;cases hb
  walk_at "q";refine⟨vs,cG vs,jz,.str t,by rw[cj],.inr ⟨t,rfl,by lia,by rw[hv];exact nr⟩,?_⟩;walk_at "q";exact h _
 |true =>have ok:GY vs:=rd.mpr hb;walk_at "q";refine⟨vs,cG vs,jz,.str t,by rw[cj],λz=>absurd ⟨t,rfl⟩ z,λt' e=>?_⟩;cases e;refine⟨by lia,λz=>absurd (by rw[hv];exact ok) z,λ_ l sc l1 l2 UY=>?_⟩;rw[hv] at UY;walk_at "q";refine⟨l,vs,rfl,sc,l1,l2,UY,?_⟩;walk_at "q";exact⟨vs,cG vs,jz,by rw[decide_eq_true rfl];exact h _⟩
def Jh{Q:Md->D->Prop}{ns:List Int}{ws pool:List Str}{turn:Int}(w1:1<=ws.length)(wl:ws.length<=300)(ww:∀ w∈ws,w.length<=20)(pl:pool.length=6)(pw:∀ p∈pool,p.length<=6)(h:∀ m,Q m (.bl true)) :
  nq { nx:=λ_=>Q .sh .non,rt:=Q } [some (.sh (.list (ns.map .int))),some (.ow true (.list (pool.map .str))),some (.ow true (.list (ws.map .str))),some (.sh (.int turn)),none]:=by
 obtain⟨w6,e6⟩:∃ w,w=nu:=⟨_,rfl⟩
 unfold nq;rw[<- e6];walk_at "q";refine⟨rfl,rfl,?_⟩;refine R.B (λe=>?_) λe=>?_
 ·walk_at "q";refine⟨ns,4,rfl,by decide,?_⟩;walk_at "q";have a0:=xS (turn / 8) (show(ws.length:Int)≠0 by lia);refine⟨by lia,ws,_,_,pool,rfl,wl,ww,a0,pl,pw,λvs vl vw=>?_⟩;walk_at "q";rw[e6];exact Jz vl vw h
 ·walk_at "q";rw[e6];exact Jz (by lia) ww h
def Ld{Q:Md->D->Prop}{ns:List Int}{ws pool:List Str}{turn:Int}(w1:1<=ws.length)(wl:ws.length<=112)(ww:∀ w∈ws,w.length<=20)(pl:pool.length=6)(pw:∀ p∈pool,p.length<=6)(h:∀ m,Q m (.bl true)) :
  o_ { nx:=λ_=>Q .sh .non,rt:=Q } [some (.sh (.list (ns.map .int))),some (.ow true (.list (pool.map .str))),some (.ow true (.list (ws.map .str))),some (.sh (.int turn)),none]:=by
 obtain⟨w5,e5⟩:∃ w,w=nq:=⟨_,rfl⟩
 unfold o_;rw[<- e5];walk_at "q";refine R.D (λe=>?_) λe=>?_;rotate_left
 ·walk_at "q";rw[e5];exact Jh w1 (by lia) ww pl pw h
 walk_at "q";have t0:=xS (turn / 8) (show(4:Int)≠0 by decide);have t4:=zl (turn / 8) (show(0:Int)<4 by decide);have er:(List.replicate (199+turn / 8 % 4-(ws.length:Int)).toNat [D.str "not"]).flatten=(List.replicate (199+turn / 8 % 4-(ws.length:Int)).toNat ("not" : Str)).map D.str:=by
  rw[List.map_replicate];generalize (199+turn / 8 % 4-(ws.length:Int)).toNat=n
  induction n with
  |zero=>rfl
  |succ n ih=>rw[BG,BH,ih];rfl
 have nl:("not" : Str).length=3:=by decide +kernel
 rw[er,dr,L6];refine⟨⟨by lia,by lia⟩,by lia,.inl ⟨az _,az _,?_⟩⟩;rw[<- kF,e5];refine Jh (by rw[hJ];lia) (by rw[hJ,L6];lia) (λw hw=>?_) pl pw h;rcases eK.mp hw with hw|hw
 ·rw[List.eq_of_mem_replicate hw,nl];decide
 ·exact ww w hw
def wV(l:List Int)(lo hi:Option Int):kP (l.map D.int) lo hi=(kP l lo hi).map D.int:=by unfold kP;rw[dr,List.map_take,List.map_drop]
def CN(ns:List Int):(kP ns (some 6) (some 61)).length<=55:=by
 unfold kP;rw[mw];have:HT.cE ns.length ns.length (some 61)-HT.cE ns.length 0 (some 6)<=55:=by simp only[HT.cE];rw[if_neg (by decide),if_neg (by decide)];lia
 lia
def Lw:∀ ds Q,Se ds Q->Ie { nx:=λ_=>Q .sh .non,rt:=Q } (aN 5 ds):=by
 rintro ds Q ⟨ns,rfl,hl,h⟩;obtain⟨w2,e2⟩:∃ w,w=qH:=⟨_,rfl⟩
 unfold Ie;rw[<- e2];walk_at "q";refine⟨ns,1,rfl,by decide,?_⟩;generalize ns.getD _ 0=c1;walk_at "q";refine⟨ns,2,rfl,by decide,?_⟩;generalize ns.getD _ 0=c2;walk_at "q";refine⟨c1,c2,rfl,λpool pl po=>?_⟩;walk_at "q";refine .inl ⟨fD ns,ns,3,rfl,by decide,?_⟩;generalize ns.getD _ 0=c3;walk_at "q";rw[wV];have cl:=CN ns;generalize kP ns (some 6) (some 61)=cs at *
 have dy:xB "yes"/\xB "some" := ⟨cA.mp (by decide +kernel),cA.mp (by decide +kernel)⟩
 refine⟨by lia,.inl ⟨az _,cs,c3, "*" :: "yes" :: "some" :: pool,rfl,cl,by simp,by simp;lia,λn hn=>?_,λkC y hy hw wl aI=>?_⟩⟩
 ·simp only[eJ] at hn;rcases hn with rfl|rfl|rfl|hn
  ·exact .inl rfl
  ·exact dy.1
  ·exact dy.2
  ·exact .inr (po n hn)
 have nr:=HJ hy hw wl aI;have ww:∀ w∈kC++[y],w.length<=6:=λw z=>(aI w z).1;have w1:1<=(kC++[y]).length:=by simp
 have w2':(kC++[y]).length<=112:=by simp;lia
 generalize kC++[y]=ws at *
 have jm:=join_max ws 6 ww;have jl:=cP ws (λz=>by rw[z] at w1;cases w1);have pw:∀ p∈pool,p.length<=6:=λp z=>(po p z).2.1;walk_at "q";rw[e2];obtain⟨w4,e4⟩:∃ w,w=o_:=⟨_,rfl⟩
 unfold qH;rw[<- e4];walk_at "q";refine⟨ws,cG ws,by rw[show(Str.ofString " ").length=1 from lG,Nat.mul_one];lia,ns,5,rfl,by decide,?_⟩;generalize ns.getD _ 0=c5;walk_at "q";refine⟨_,c5,rfl,by lia,λm d hd=>?_⟩;have rd:=nr d hd;clear hd;show b6 (m,d) _;generalize hk:(m,d)=md;subst hk;refine⟨d,rfl,rd,?_⟩;walk_at "q";refine⟨ns,0,rfl,by decide,?_⟩;walk_at "q";rw[e4];exact Ld w1 w2' (λw z=>iO (ww w z) (by decide)) pl pw h
def top(i:Nat):g9:=PySem.Challenge.pw_kinlook_k27_no_sentences.main.body.getD i (.Pass ⟨0,0,0,0⟩)
def Dd:g9->List g9
 |.ClassDef _ _ _ b .. => b
 |_=>[]
abbrev Dx(i j:Nat):g9:=(Dd (top i)).getD j (.Pass ⟨0,0,0,0⟩)
abbrev kY:g9:=Dx 10 1
abbrev iH:g9:=Dx 10 0
abbrev rJ:g9:=top 50
abbrev rn:List Str:=["NoText"]
structure Txt(w:cy)(K:ax)(mg:Str->Option ah):Prop where
 ZP:mg "ValueError" = none
 Sf:mg "all" = none
 ZQ:mg "bool" = none
 ZR:mg "enumerate" = none
 ZS:mg "int" = none
 xC:mg "isinstance" = none
 kQ:mg "len" = none
 U5:mg "list" = none
 G0:mg "range" = none
 ZT:mg "reversed" = none
 ZU:mg "sorted" = none
 Pp:mg "str" = none
 Sg:mg "tuple" = none
 ZV:Uk mg "HIDDEN" "*"
 ZW:Uk mg "LETTERS" "abcdefghijklmnopqrstuvwxyz"
 ZX:ND mg "MOST_LETTERS" 6
 ZY:ND mg "MOST_ROWS" 2000
 ZZ:ND mg "MOST_PARTS" 200
 U6:ND mg "MOST_WORDS" 200
 de':ZD w K mg "ALONE" [("and", "yes"),("or", "no")]
 df':ZD w K mg "JOINTS" [("and", "both"),("or", "either")]
 LP:XCl K mg "NoText"
 lF':HH K mg rn "KinError"
 lG':∀ n C,n∈rn->mg n=some (.ref C)->∃ c,mg "NoDeed" = some (.ref c)/\zh K (.ref C) (.ref c)=some (decide (n = "NoDeed"))
 lH':∀ n C,n∈rn->mg n=some (.ref C)->∃ c,mg "NoScroll" = some (.ref c)/\zh K (.ref C) (.ref c)=some (decide (n = "NoScroll"))
 lI':∀ n C,n∈rn->mg n=some (.ref C)->∃ c,mg "TooBig" = some (.ref c)/\zh K (.ref C) (.ref c)=some (decide (n = "TooBig"))
 lJ':∀ n C,n∈rn->mg n=some (.ref C)->zh K (.ref C) (.type "ValueError")=some true
 lK':∀ n C,n∈rn->mg n=some (.ref C)->∃ c,mg "NoText" = some (.ref c)/\zh K (.ref C) (.ref c)=some (decide (n = "NoText"))
section
variable {P:b9}{w:cy}{K:ax}{mg:Str->Option ah}{base:c9}
structure ShT(P:b9)(w:cy)(K:ax)(mg:Str->Option ah)(base:c9)(C fi fp:ag)(di dp:nK)(LS:ag)(lM':nK)(LV:ag)(lN':nK):Prop where
 gl:mg "Sheet" = some (.ref C)
 mkk:Mk K C fi
 cls:tP K C
 n1:tS K C "rows"
 n2:tS K C "places"
 init:ja P w K mg base kr 1 fi di ["self"] (nP K P w)
 bi:Binds K di ["self"] []
 lP':Meth K C "put" fp
 put:ja P w K mg base kr 1 fp dp ["self", "row"] (rQ K P w)
 bp:Binds K dp ["self", "row"] []
 lQ':Meth K C "rows_read" LS
 lR':Binds K lM' ["self", "last"] []
 lS':Meth K C "scroll_to" LV
 lT':Binds K lN' ["self", "last"] []
def Dj:xi ["self", "row"] ["self", "row"] (d5 kY):=⟨rfl,rfl,rfl,by decide +kernel,rfl,by decide +kernel,by decide +kernel⟩
def Fo {f:ag} {fd:nK} (F:nV K "put" "Sheet.put" kY f fd) (hl:mg "len" = none):ja P w K mg base kr 1 f fd ["self", "row"] (rQ K P w) :=
 Cy F Dj λcK A outer s H E hr=>Gu (by have h:=hr.units;show(A.deeper (ki "Sheet.put" (d5 kY) s.heap.objs.size f cK)).units+14<gV;lia) rfl hl (λ_=>Ra rfl (.inl rfl)) (λ_=>Ra rfl (.inl rfl)) (λ_ _=>rfl) rfl (λ_ _ _=>rfl)
def zF:xi ["self"] ["self"] (d5 iH):=⟨rfl,rfl,rfl,by decide +kernel,rfl,by decide +kernel,by decide +kernel⟩
def z7 {f:ag} {fd:nK} (F:nV K "__init__" "Sheet.__init__" iH f fd):ja P w K mg base kr 1 f fd ["self"] (nP K P w) :=
 Bb F zF λcK A outer s H E hr=>zq (λ_=>Ra rfl (.inl rfl))
end
def us1{us:List ah}(h:us.length=1):∃ a0,us=[a0]:=by
 cases us with
 |nil=>simp at h
 |cons a0 us =>
 cases us with
 |nil=>exact⟨_,rfl⟩
 |cons b us=>simp at h
def Z0{us:List ah}(h:us.length=2):∃ a0 a1,us=[a0,a1]:=by
 cases us with
 |nil=>simp at h
 |cons a0 us =>
 cases us with
 |nil=>simp at h
 |cons a1 us =>
 cases us with
 |nil=>exact⟨_,_,rfl⟩
 |cons b us=>simp at h
abbrev FA(K:ax)(x:Str)(s:g9):Prop:=∃ (f:ag) (oc:ah) (od an:Option ag) (z5:Array (Option ah)) (kV doc pm cK ct:ah),kA K gi x=some (some (.ref f))/\K.lookup f=some ⟨oc,od,.func (pj x x (sN s) (kS s) (d5 s) .none kV doc pm an cK ct),z5⟩/\BE K cK x=true/\tJ K (.ref f)=true
def bW{K:ax}{h:c9}{mg:Str->Option ah}{x:Str}{s:g9}(X:K.In h)(G:h.Ns gi mg)(a:FA K x s):∃ f fd,mg x=some (.ref f)/\nV K x x s f fd:=by obtain⟨f,_,_,_,_,_,_,_,_,_,a,l,c,k⟩:=a;exact⟨_,_,tN X G a,Nc l c k⟩
def Ks{K:ax}{x:Str}{s:g9}{f:ag}{oc:ah}{od an:Option ag}{z5:Array (Option ah)}{kV doc pm cK ct:ah}(a:kA K gi x=some (some (.ref f)))(l:K.lookup f=some ⟨oc,od,.func (pj x x (sN s) (kS s) (d5 s) .none kV doc pm an cK ct),z5⟩)(c:BE K cK x=true)(k:tJ K (.ref f)=true):FA K x s:=⟨_,_,_,_,_,_,_,_,_,_,a,l,c,k⟩
set_option maxHeartbeats 0 in
def all_mk {l:Vc} {w:cy} {K:ax} {h:c9} {mg:Str->Option ah} {fa:ag} (X:K.In h) (G:h.Ns gi mg) (hfa:mg "law" = some (.ref fa))(a0:FA K "drawn" (top 8))(a1:FA K "renumbered" (top 9))(a2:FA K "is_open" (top 15))(a3:FA K "is_deed" (top 16))(a4:FA K "is_whole" (top 18))(a5:FA K "is_ahead" (top 22))(a6:FA K "are_parts" (top 23))(a7:FA K "is_row" (top 24))(a8:FA K "is_scroll" (top 25))(a9:FA K "check_scroll" (top 26))(a10:FA K "read_deed" (top 28))(a11:FA K "check_text" (top 33))(a12:FA K "heads_of" (top 34))(a13:FA K "taken" (top 35))(a14:FA K "row_of" (top 36))(a15:FA K "read_sentence" (top 37))(a16:FA K "words_joined" (top 38))(a17:FA K "words_of" (top 39))(a18:FA K "tell" (top 40))(a19:FA K "_law_cell_at" (top 42))(a20:FA K "_law_deeds" (top 43))(a21:FA K "_law_words" (top 44))(a22:FA K "_law_is_deed" (top 45))(a23:FA K "_law_is_sentence" (top 46))(a24:FA K "_law_spoilt" (top 47))(a25:FA K "_law_refused" (top 48))(a26:FA K "_law_no_text" (top 49))(a27:kA K gi "law" = some (some (.ref f27))) (l27:K.lookup f27=some ⟨o27,d27,.func (pj "law" "law" (sN rJ) (kS rJ) (d5 rJ) .none v27 j27 p27 e27 r27 u27),t27⟩) (c27:BE K r27 "law" = true) (k27:tJ K (.ref f27)=true)(ZP:kA K gi "ValueError" = some none)(Sf:kA K gi "all" = some none)(ZQ:kA K gi "bool" = some none)(ZR:kA K gi "enumerate" = some none)(ZS:kA K gi "int" = some none)(xC:kA K gi "isinstance" = some none)(kQ:kA K gi "len" = some none)(U5:kA K gi "list" = some none)(G0:kA K gi "range" = some none)(ZT:kA K gi "reversed" = some none)(ZU:kA K gi "sorted" = some none)(Pp:kA K gi "str" = some none)(Sg:kA K gi "tuple" = some none){mw':Tok} (ZV:kA K gi "HIDDEN" = some (some (.str "*" mw'))){mx':Tok} (ZW:kA K gi "LETTERS" = some (some (.str "abcdefghijklmnopqrstuvwxyz" mx'))){my':Tok} (ZX:kA K gi "MOST_LETTERS" = some (some (.int 6 my'))){mz':Tok} (ZY:kA K gi "MOST_ROWS" = some (some (.int 2000 mz'))){mA':Tok} (ZZ:kA K gi "MOST_PARTS" = some (some (.int 200 mA'))){mB':Tok} (U6:kA K gi "MOST_WORDS" = some (some (.int 200 mB'))){dk' mC':Nat} {dl' dm' dn' dp':Tok} (mD':kA K gi "ALONE" = some (some (.ref dk'))) (mE':K.lookup dk'=some { cls:=.type "dict",data:=.dict #[⟨QY w.params "and",.str "and" dl',.str "yes" dm'⟩,⟨QY w.params "or",.str "or" dn',.str "no" dp'⟩] mC' }) {dq' mF':Nat} {dr' ds' dt' du':Tok} (mG':kA K gi "JOINTS" = some (some (.ref dq'))) (mH':K.lookup dq'=some { cls:=.type "dict",data:=.dict #[⟨QY w.params "and",.str "and" dr',.str "both" ds'⟩,⟨QY w.params "or",.str "or" dt',.str "either" du'⟩] mF' }) {C fi fp LS LV:ag} (sa:kA K gi "Sheet" = some (some (.ref C))) (s1:Vb K C=true) (s4:tJ K (.ref C)=true) (s5:Pw K C Str.empty=true) (s6:Si K C=true) (s7:U9 K C=true) (s8:ng K (.ref C) "__setattr__" = some (some (.builtin "object.__setattr__"))) (s9:ng K (.ref C) "rows" = some none) (s0:ng K (.ref C) "places" = some none) (hi:ng K (.ref C) "__init__" = some (some (.ref fi))) (hli:K.lookup fi=some ⟨hoi,hdi,.func (pj "__init__" "Sheet.__init__" (sN iH) (kS iH) (d5 iH) .none hvi hji hqi Ww hyi hui),hti⟩) (hci:BE K hyi "Sheet.__init__" = true) (hki:tJ K (.ref fi)=true) (hfi:HC K (.ref fi)=true) (hp:ng K (.ref C) "put" = some (some (.ref fp))) (hlp:K.lookup fp=some ⟨hop,hdp,.func (pj "put" "Sheet.put" (sN kY) (kS kY) (d5 kY) .none hvp hjp hqp hep hyp hup),htp⟩) (hcp:BE K hyp "Sheet.put" = true) (hkp:tJ K (.ref fp)=true) (hfp:HC K (.ref fp)=true) (hm0:ng K (.ref C) "rows_read" = some (some (.ref LS))) (mR':K.lookup LS=some ⟨qb',qc',.func (pj "rows_read" "Sheet.rows_read" (sN (Dx 10 3)) (kS (Dx 10 3)) (d5 (Dx 10 3)) .none qd' qe' qf' qg' mS' qh'),qi'⟩) (mT':BE K mS' "Sheet.rows_read" = true) (dw':tJ K (.ref LS)=true) (mU':HC K (.ref LS)=true) (yb:ng K (.ref C) "scroll_to" = some (some (.ref LV))) (mV':K.lookup LV=some ⟨qj',qk',.func (pj "scroll_to" "Sheet.scroll_to" (sN (Dx 10 4)) (kS (Dx 10 4)) (d5 (Dx 10 4)) .none ql' qm' qn' qo' mW' qp'),qq'⟩) (mX':BE K mW' "Sheet.scroll_to" = true) (dx':tJ K (.ref LV)=true) (mY':HC K (.ref LV)=true) {He:ag} (mZ':kA K gi "KinError" = some (some (.ref He))) {dy':ag} (nc':kA K gi "NoDeed" = some (some (.ref dy'))) {dz':ag} (nd':kA K gi "NoScroll" = some (some (.ref dz'))) {wc:ag} (nf':kA K gi "NoText" = some (some (.ref wc))) {dA':ag} (ng':kA K gi "TooBig" = some (some (.ref dA'))) (nh':PySem.W.excIn K He [.type "ValueError",.type "Exception",.type "BaseException",.type "object"] "ValueError.__new__" = true) (ni':ng K (.ref He) "__getattr__" = some none) (nj':ng K (.ref He) "__getattribute__" = some (some (.builtin "BaseException.__getattribute__"))) (nk':ng K (.ref He) "__class__" = some (some (.builtin "object.__class__"))) (nl':Sq K He (.type "object")=some true) (nm':PySem.W.excIn K wc [.type "ValueError",.type "Exception",.type "BaseException",.type "object"] "ValueError.__new__" = true) (nn':ng K (.ref wc) "__getattr__" = some none) (no':ng K (.ref wc) "__getattribute__" = some (some (.builtin "BaseException.__getattribute__"))) (np':ng K (.ref wc) "__class__" = some (some (.builtin "object.__class__"))) (nq':Sq K wc (.type "object")=some true) (nr':Sq K wc (.ref He)=some true) (ns':zh K (.ref wc) (.ref dy')=some false) (nt':zh K (.ref wc) (.ref dz')=some false) (nu':zh K (.ref wc) (.ref dA')=some false) (nv':zh K (.ref wc) (.type "ValueError")=some true) (nw':zh K (.ref wc) (.ref wc)=some true)
  : ∃ fd:nK,(∀ (s:aC) (v:ah),BindsTo s fd ⟨[v],[]⟩ [("_law_script",v)])/\∀ base:c9,K.In base->base.Ns gi mg->ja l.prog w K mg base kr 8 fa fd ["_law_script"] (f9 K Se):=by
 have e:=hfa.symm.trans (tN X G a27);cases e;have nx':=tN X G mZ';have ny':=tN X G nc';have nz':=tN X G nd';have Z1:=tN X G nf';have nA':=tN X G ng';have nB':oT K He:=⟨nh',ni',nj',nk',nl'⟩
 have dB':oT K wc:=⟨nm',nn',no',np',nq'⟩
 have each:∀ {G:Str->ag->Prop},G "NoText" wc->∀ n C,n∈rn->mg n=some (.ref C)->G n C:=by
  intro G nC' n C hn hm;simp only[rn,eJ,BM,or_false] at hn;rcases hn with rfl
  ·rw[Z1] at hm;cases hm;exact nC'
 have T:Txt w K mg:=⟨wm X G ZP,wm X G Sf,wm X G ZQ,wm X G ZR,wm X G ZS,wm X G xC,wm X G kQ,wm X G U5,wm X G G0,wm X G ZT,wm X G ZU,wm X G Pp,wm X G Sg,⟨_,tN X G ZV⟩,⟨_,tN X G ZW⟩,⟨_,tN X G ZX⟩,⟨_,tN X G ZY⟩,⟨_,tN X G ZZ⟩,⟨_,tN X G U6⟩,⟨_,[("and",dl', "yes",dm'),("or",dn', "no",dp')],_,tN X G mD',mE',rfl⟩,⟨_,[("and",dr', "both",ds'),("or",dt', "either",du')],_,tN X G mG',mH',rfl⟩,⟨_,Z1,dB'⟩,⟨_,nx',nB',each ⟨dB',nr'⟩⟩,each ⟨_,ny',ns'⟩,each ⟨_,nz',nt'⟩,each ⟨_,nA',nu'⟩,each nv',each ⟨_,Z1,nw'⟩⟩
 obtain⟨_,_,m0,F0⟩:=bW X G a0;obtain⟨_,_,m1,F1⟩:=bW X G a1;obtain⟨_,_,m2,F2⟩:=bW X G a2;obtain⟨_,_,m3,F3⟩:=bW X G a3;obtain⟨_,_,m4,F4⟩:=bW X G a4;obtain⟨_,_,m5,F5⟩:=bW X G a5;obtain⟨_,_,m6,F6⟩:=bW X G a6;obtain⟨_,_,m7,F7⟩:=bW X G a7;obtain⟨_,_,m8,F8⟩:=bW X G a8;obtain⟨_,_,m9,F9⟩:=bW X G a9;obtain⟨_,_,m10,F10⟩:=bW X G a10;obtain⟨_,_,m11,F11⟩:=bW X G a11;obtain⟨_,_,m12,F12⟩:=bW X G a12;obtain⟨_,_,m13,F13⟩:=bW X G a13;obtain⟨_,_,m14,F14⟩:=bW X G a14;obtain⟨_,_,m15,F15⟩:=bW X G a15;obtain⟨_,_,m16,F16⟩:=bW X G a16;obtain⟨_,_,m17,F17⟩:=bW X G a17;obtain⟨_,_,m18,F18⟩:=bW X G a18;obtain⟨_,_,m19,F19⟩:=bW X G a19;obtain⟨_,_,m20,F20⟩:=bW X G a20;obtain⟨_,_,m21,F21⟩:=bW X G a21;obtain⟨_,_,m22,F22⟩:=bW X G a22;obtain⟨_,_,m23,F23⟩:=bW X G a23;obtain⟨_,_,m24,F24⟩:=bW X G a24;obtain⟨_,_,m25,F25⟩:=bW X G a25;obtain⟨_,_,m26,F26⟩:=bW X G a26;have F27:=Nc (st:=rJ) l27 c27 k27;refine⟨pj "law" "law" (sN rJ) (kS rJ) (d5 rJ) .none v27 j27 p27 e27 r27 u27,λs v=>.of_eq rfl,λbase _ _=>?_⟩;have Gi:=Nc (st:=iH) hli hci hki;have Gp:=Nc (st:=kY) hlp hcp hkp;have Gm0:=Nc (st:=(Dx 10 3)) mR' mT' dw';have Gm1:=Nc (st:=(Dx 10 4)) mV' mX' dx';have Sh:ShT l.prog w K mg base C fi fp _ _ LS _ LV _:=⟨tN X G sa,⟨s1,hi,hfi,s4⟩,⟨s5,s6,s7,s8⟩,s9,s0,z7 Gi,Gi.binds λ_ _ _ _ _ _ us hl=>by obtain⟨_,rfl⟩:=us1 hl;rfl,⟨hp,hfp,hkp⟩,Fo Gp (wm X G kQ),Gp.binds λ_ _ _ _ _ _ us hl=>by obtain⟨_,_,rfl⟩:=Z0 hl;rfl,⟨hm0,mU',dw'⟩,Gm0.binds λ_ _ _ _ _ _ us hl=>by obtain⟨_,_,rfl⟩:=Z0 hl;rfl,⟨yb,mY',dx'⟩,Gm1.binds λ_ _ _ _ _ _ us hl=>by obtain⟨_,_,rfl⟩:=Z0 hl;rfl⟩
 have mk:=@W4.mk l.prog w K mg base;have ml:=@la'.mk l.prog w K mg base rn;have mx:=@Zh.mk l.prog w K mg base rn;have mo:=@Zz.mk l.prog w K mg base C;obtain C0:=(mk m0 F0 ["row"] 1 0 yE Fv (aj (aP (xv (iY (aF gL aZ (dE (qv 0) ao) aB) (dY (aF gL aZ (dE (qv 0) ao) aB)))) (ak (aJ (b7 (aa (dE (qv 0) ao) au))))
   aD)
   (aj (aP (aF gL aZ (dE (qv 0) ao) aB)
   (ak (aJ (b7 (aa (dE (qv 0) ao) au))))
   aD)
   (ak (aJ (sZ uW GC T.U5 vB (dE (qv 0) ao))))))).1
 obtain C1:=(mk m1 F1 ["row", "numbers"] 2 0 lK qm (aj (aP (xv (iY (aF gL aZ (dE (qv 0) ao) aB) (dY (aF gL aZ (dE (qv 0) ao) aB)))) (ak (aJ (fc (aa (dE (qv 0) ao) (aa (dE (qv 0) ao) (aa (dE (qv 1) (dE (qv 0) ao)) au))))))
   aD)
   (aj (aP (aF gL aZ (dE (qv 0) ao) aB)
   (ak (aJ (fc (aa (dE (qv 0) ao) (aa (dE (qv 1) (dE (qv 0) ao)) au)))))
   aD)
   (ak (aJ (fc (aa (dE (qv 0) ao) (aa (sZ G9 Ar T.Sg nG (mq (tn:=["part"]) (cn:=["numbers"]) (ix:=[1]) (BX (dE (qv 0) ao)) (aX 0) gw (dE (qv 1) (qv 0)))) au)))))))).1
 obtain C2:=(mk m2 F2 ["thing"] 1 0 qy yf (aj (aP (xv (iY (cT (eZ (nM T.xC (qv 0) (lU T.Pp uz)))) (dY (cT (oU gM gM nR nR ao (aL aA bj T.kQ a_ (qv 0)) (RK T.ZX)))))) (ak (aJ rX))
   aD)
   (ak (aJ (aL Wx ye T.Sf yz (mq (tn:=["sign"]) (cn:=[]) (ix:=[]) (Br (Ce (qv 0))) (aX 0) gw (lV iA rH (qv 0) (ce' T.ZW)))))))).1
 obtain C4:=(mk m4 F4 ["thing"] 1 0 pq u9 (ak (aJ (oZ (nM T.xC (qv 0) (lU T.ZS Bv)) (pY (Lp (nM T.xC (qv 0) (lU T.ZQ Dc)))))))).1;obtain C11:=mx m11 F11 ["thing"] 1 0 lQ qi (ak (aP (cT (eZ (nM T.xC (qv 0) (lU T.Pp uz)))) (ak (dW rfl jX T.LP (.head _) aB))
   aD))
 obtain U7:=ml m13 F13 ["waiting"] 1 0 yC Fz (aj (aP (aF gL aZ (aL aA bj T.kQ a_ (vJ (pv 0))) ao) (ak (dW rfl jX T.LP (.head _) aB))
   aD)
   (ak (jU 0 (HN (pv 0)))))
 obtain C16:=(mk m16 F16 ["word", "parts", "words", "part"] 2 0 jx lZ (aj (aP (aF gL aZ (aL aA bj T.kQ a_ (qv 1)) ao) (ak (aJ (b7 (aa (UO T.de' (qv 0)) au))))
   aD)
   (aj (aH 2 (b7 au))
   (aj (jf 1 (fH (nY (bB (qv 1) bC (bh (qF ao)))) (aX 3)
   (ak (Io (bY (pv 2)) (aU (b7 (aa (UO T.df' (qv 0)) au)) (qv 3))))))
   (ak (aJ (aU (qv 2) (dE (qv 1) (qF ao))))))))).1
 obtain Pt:=(mk m19 F19 ["_law_script", "_law_k"] 2 0 jr lR (aj (aP (aF jQ rM (qv 1) (aL aA bj T.kQ a_ (qv 0))) (ak (aJ (dE (qv 0) (qv 1))))
   aD)
   (ak (aJ ao)))).1
 obtain C20:=(mk m20 F20 ["_law_cell", "_law_turn", "_law_letters", "_law_size", "_law_places", "_law_k", "_law_word", "_law_at", "_law_found", "_law_sign"] 2 0 mj pJ (aj (aH 2 aB) (aj (aH 3 (aU ao (c7 (qv 0) ao))) (aj (aH 0 (oW (qv 0) ao)) (aj (aH 4 (b7 au)) (aj (fH (oh T.G0 (qv 3)) (aX 5) (aj (g8 (bY (pv 4)) (c7 (qv 0) ao)) (ak (aH 0 (oW (qv 0) ao))))) (aj (aH 6 (lu aB (mq (tn:=["_law_k"]) (cn:=["_law_letters"]) (ix:=[2]) (yg (qv 4)) (aX 0) gw (dE (qv 1) (qv 0))))) (aj (aP (aF gL aZ (c7 (oW (qv 1) ao) ao) ao) (ak (aJ (mq (tn:=["_law_k"]) (cn:=["_law_word"]) (ix:=[6]) (Br (DX T.G0 ao ao)) (aX 0) gw (bB (GR ao (qv 1)) bC (bh (qv 0))))))
   aD)
   (aj (aH 7 (c7 (qv 1) (qv 3)))
   (aj (aH 8 (b7 au))
   (aj (fH (oh T.G0 ao) (aX 5)
   (aj (aH 9 (dE (qv 2) (c7 (aU (dE (qv 4) (qv 7)) (yp ao (qv 5))) ao)))
   (ak (g8 (bY (pv 8)) (aU (aU (bB (qv 6) bC (bh (qv 7))) (qv 9)) (bB (qv 6) (bh (aU (qv 7) ao)) bC))))))
   (ak (kJ (pv 8)))))))))))))).1
 obtain C21:=(mk m21 F21 ["_law_cells", "_law_tail", "_law_names", "_law_words_here", "_law_need", "_law_k", "_law_number", "_law_way"] 3 0 lJ p_ (aj (aH 3 (b7 au)) (aj (aH 4 ao) (aj (fH (oh T.G0 (aL aA bj T.kQ a_ (qv 0))) (aX 5) (aj (aH 6 (c7 (yp (aU (c7 (dE (qv 0) (qv 5)) ao) ao) (aU ao (yp ao (qv 5)))) ao)) (aj (aH 7 (c7 (qv 6) ao)) (ak (aP (xv (BL (aF jQ rM (qv 7) ao) (wX (aF sE zO (qv 4) ao)))) (aj (g8 (bY (pv 3)) (dE (b7 (aa aB (aa aB au))) (qv 7))) (ak (aH 4 (Ef (qv 4) ao)))) (ak (aP (aF jQ rM (qv 7) ao) (ak (g8 (bY (pv 3)) aB)) (ak (aP (aF jQ rM (qv 7) ao) (ak (aH 3 (aU (qv 3) (b7 (aa (dE (b7 (aa aB (aa aB au))) (c7 (oW (qv 6) ao) ao)) (aa (dE (qv 2) (c7 (oW (qv 6) ao) (aL aA bj T.kQ a_ (qv 2)))) au)))))) (aj (g8 (bY (pv 3)) (dE (b7 (aa aB (aa aB au))) (c7 (oW (qv 6) ao) ao))) (ak (aH 4 (aU (qv 4) ao))))))))))))) (aj (fH (oh T.G0 (qv 4)) (aX 5) (ak (g8 (bY (pv 3)) (dE (b7 (aa aB (aa aB au))) (c7 (c7 (yp (yp (aU (c7 (qv 1) ao) ao) (aU (qv 5) ao)) ao) ao) ao))))) (ak (kJ (pv 3)))))))).1
 obtain C22:=(mk m22 F22 ["_law_word", "_law_sign"] 1 0 jB lW (aj (aP (aF gL aZ (qv 0) aB) (ak (aJ rX))
   aD)
   (aj (aP (cT (oU gM gM nR nR ao (aL aA bj T.kQ a_ (qv 0)) ao))
   (ak (aJ rX))
   aD)
   (aj (jf 0 (fH (Ce (qv 0)) (aX 1)
   (ak (aP (aF By rH (qv 1) aB)
   (ak (aJ rX))
   aD))))
   (ak (aJ rX)))))).1
 obtain C24:=(mk m24 F24 ["_law_words_here", "_law_at", "_law_cell", "_law_pool", "_law_some", "_law_way", "_law_word", "_law_turned"] 4 0 jN oV (by(refine aj ?_ ?_);(with_reducible refine aH 4 ?_ ?_ ?_ ?_ ?_ ?_);(with_reducible refine b7 ?_);(with_reducible refine aa ?_ ?_ ?_);(exact aB);(with_reducible refine aa ?_ ?_ ?_);(exact aB);(with_reducible refine aa ?_ ?_ ?_);(exact aB);(with_reducible refine aa ?_ ?_ ?_);(exact aB);(with_reducible refine aa ?_ ?_ ?_);(exact aB);(with_reducible refine aa ?_ ?_ ?_);(exact aB);(with_reducible refine aa ?_ ?_ ?_);(exact aB);(with_reducible refine aa ?_ ?_ ?_);(exact aB);(with_reducible refine aa ?_ ?_ ?_);(exact aB);(with_reducible refine aa ?_ ?_ ?_);(exact aB);(with_reducible refine aa ?_ ?_ ?_);(exact(aU (dE (qv 3) ao) aB));(with_reducible refine aa ?_ ?_ ?_);(exact aB);(with_reducible refine aa ?_ ?_ ?_);(exact aB);(with_reducible refine aa ?_ ?_ ?_);(exact(dE (qv 3) ao));(exact au);(rfl);(rfl);(rfl);(rfl);(rfl);(rfl);(rfl);(rfl);(rfl);(rfl);(rfl);(rfl);(rfl);(rfl);(rfl);(first|exact .inl rfl|exact .inr rfl);(assumption);(rfl);(exact Or.inl rfl);(exact(aj (aH 5 (c7 (qv 2) ao)) (aj (aH 6 (dE (qv 4) (c7 (oW (qv 2) ao) ao))) (aj (aP (aF gL aZ (qv 5) ao) (ak (aJ (aU (bB (qv 0) bC (bh (qv 1))) (bB (qv 0) (bh (aU (qv 1) ao)) bC))))
   aD)
   (aj (aP (aF gL aZ (qv 5) ao)
   (ak (jf 6 (aJ (aU (aU (bB (qv 0) bC (bh (qv 1))) (b7 (aa (qv 6) au))) (bB (qv 0) (bh (qv 1)) bC)))))
   aD)
   (aj (aP (aF gL aZ (qv 5) ao)
   (ak (jf 6 (aJ (aU (aU (bB (qv 0) bC (bh (qv 1))) (b7 (aa (qv 6) au))) (bB (qv 0) (bh (aU (qv 1) ao)) bC)))))
   aD)
   (aj (aP (aF gL aZ (qv 5) ao)
   (ak (aJ (aU (bB (qv 0) bC (bh (aU (qv 1) ao))) (bB (qv 0) (bh (qv 1)) bC))))
   aD)
   (aj (aH 7 (zj (bB (qv 0) (bh (qv 1)) (bh (aU (qv 1) ao))) bC bC (bh (qF ao))))
   (ak (aJ (aU (aU (bB (qv 0) bC (bh (qv 1))) (qv 7)) (bB (qv 0) (bh (aU (qv 1) ao)) bC)))))))))))))).1
 obtain C26:=(mk m26 F26 ["_law_text", "_law_cell", "_law_some"] 2 0 jC lY (by(refine aj ?_ ?_);(with_reducible refine aH 2 ?_ ?_ ?_ ?_ ?_ ?_);(with_reducible refine b7 ?_);(with_reducible refine aa ?_ ?_ ?_);(exact(aU (qv 0) aB));(with_reducible refine aa ?_ ?_ ?_);(exact(aU aB (qv 0)));(with_reducible refine aa ?_ ?_ ?_);(exact aB);(with_reducible refine aa ?_ ?_ ?_);(exact xW);(with_reducible refine aa ?_ ?_ ?_);(exact ao);(with_reducible refine aa ?_ ?_ ?_);(with_reducible refine b7 ?_);(with_reducible refine aa ?_ ?_ ?_);(exact aB);(exact au);(rfl);(with_reducible refine aa ?_ ?_ ?_);(exact rX);(with_reducible refine aa ?_ ?_ ?_);(with_reducible refine fc ?_);(with_reducible refine aa ?_ ?_ ?_);(exact aB);(exact au);(rfl);(with_reducible refine aa ?_ ?_ ?_);(exact aB);(with_reducible refine aa ?_ ?_ ?_);(exact(aU (qv 0) aB));(with_reducible refine aa ?_ ?_ ?_);(exact(aU aB (qv 0)));(exact au);(rfl);(rfl);(rfl);(rfl);(rfl);(rfl);(rfl);(rfl);(rfl);(rfl);(rfl);(rfl);(first|exact .inl rfl|exact .inr rfl);(assumption);(rfl);(exact Or.inl rfl);(exact(ak (Ad (pv 2) (c7 (qv 1) ao)))))).1;obtain C3:=(mk m3 F3 ["thing"] 1 1 qI yH (ak (aJ (ju' (bJ C2 (aa (qv 0) au)) (pY (oZ (nM T.xC (qv 0) (lU T.Pp uz)) (pY (lV gL aZ (qv 0) (ce' T.ZV))))))))).1;obtain C5:=(mk m5 F5 ["k", "thing"] 2 1 pW uK (ak (aJ (oZ (bJ C4 (aa (qv 1) au)) (pY (FQ gM jQ nR rM ao (qv 1) (qv 0))))))).1;obtain C14:=ml m14 F14 ["head", "waiting", "word", "first", "second"] 2 1 u5 Ai (λ{_ _ _ _ _ _ hr hu nd _}=>(aj (aP (xv (iY (aF gL aZ (dE (qv 0) ao) aB) (dY (aF gL aZ (dE (qv 0) ao) aB)))) (ak (jU 1 (Cr (kO (xn (dE (qv 0) ao)) (kO (xn (dE (qv 0) ao)) (kO (lr U7 (hr.mono (by decide)) qg (jO (pv 1))) BJ))))))
   aD)
   (aj (aP (aF gL aZ (dE (qv 0) ao) aB)
   (ak (jU 1 (Cr (kO (xn aB) (kO (lr U7 (hr.mono (by decide)) qg (jO (pv 1))) BJ)))))
   aD)
   (aj (fH (I_ (fc (aa aB (aa aB au)))) (aX 2)
   (aj (aP (aF gL aZ (dE (qv 0) ao) (UO T.de' (qv 2)))
   (ak (jU 1 (xn (fc (aa (qv 2) (aa (fc au) au))))))
   aD)
   (ak (aP (aF gL aZ (dE (qv 0) ao) (UO T.df' (qv 2)))
   (aj (wg 3 (lr U7 (hr.mono (by decide)) qg (jO (pv 1))))
   (aj (wg 4 (lr U7 (hr.mono (by decide)) qg (jO (pv 1))))
   (ak (jf 4 (jf 3 (jU 1 (xn (fc (aa (qv 2) (aa (fc (aa (qv 3) (aa (qv 4) au))) au))))))))))
   aD))))
   (ak (dW rfl jX T.LP (.head _) aB))))))
 obtain C17:=(mk m17 F17 ["row", "told", "parts", "words"] 2 1 qt vq (aj (qZ 2 (tn:=["part"]) (cn:=["told"]) (ix:=[1]) (yg (bJ C0 (aa (qv 0) au))) (aX 0) gw (dE (qv 1) (qv 0))) (aj (aP (aF kC' Ha xW (qv 2)) (ak (aJ xW))
   aD)
   (aj (aP (xv (iY (aF gL aZ (dE (qv 0) ao) aB) (dY (aF gL aZ (dE (qv 0) ao) aB))))
   (ak (aH 3 (aU (b7 (aa (dE (qv 0) ao) (aa (dE (qv 0) ao) au))) (dE (qv 2) ao))))
   (ak (aP (aF gL aZ (dE (qv 0) ao) aB)
   (ak (aH 3 (aU (b7 (aa aB au)) (dE (qv 2) ao))))
   (ak (aH 3 (bJ C16 (aa (dE (qv 0) ao) (aa (qv 2) au))))))))
   (ak (zZ (aF gM nR (aL aA bj T.kQ a_ (qv 3)) (RK T.U6)) (pv 3) xW)))))).1
 obtain C23:=(mk m23 F23 ["_law_words_here", "_law_need", "_law_at"] 1 1 fZ gP (aj (aH 1 ao) (aj (aH 2 ao) (aj (tV (xv (BL (aF jQ rM (qv 2) (aL aA bj T.kQ a_ (qv 0))) (wX (aF sE zO (qv 1) ao)))) (aj (aP (aF iA rH (dE (qv 0) (qv 2)) (fc (aa aB (aa aB au)))) (aj (aH 2 (aU (qv 2) ao)) (ak (aP (xv (iY (aF gL aZ (qv 2) (aL aA bj T.kQ a_ (qv 0))) (dY (cT (eZ (bJ C22 (aa (dE (qv 0) (qv 2)) au))))))) (ak (aJ rX))
   aD)))
   (ak (aP (aF iA rH (dE (qv 0) (qv 2)) (fc (aa aB (aa aB au))))
   (ak (aH 1 (Ef (qv 1) ao)))
   (ak (aP (aF iA rH (dE (qv 0) (qv 2)) (fc (aa aB (aa aB au))))
   (ak (aH 1 (aU (qv 1) ao)))
   (ak (aP (aF kNe Ji (dE (qv 0) (qv 2)) aB)
   (ak (aJ rX))
   aD)))))))
   (ak (aH 2 (aU (qv 2) ao)))))
   (ak (aJ (oZ (lV gL aZ (qv 1) ao) (oZ (lV gL aZ (qv 2) (aL aA bj T.kQ a_ (qv 0))) (pY (lV gM nR (aL aA bj T.kQ a_ (qv 0)) ao)))))))))).1
 obtain C6:=(mk m6 F6 ["k", "thing"] 2 2 nj qW (aj (aP (xv (iY (cT (eZ (nM T.xC (qv 1) (lU T.Sg nG)))) (dY (aF sE zO (aL aA bj T.kQ a_ (qv 1)) (RK T.ZZ))))) (ak (aJ rX))
   aD)
   (ak (aJ (aL Wx ye T.Sf yz (mq (tn:=["part"]) (cn:=["k"]) (ix:=[0]) (BX (qv 1)) (aX 0) gw (bJ C5 (aa (qv 1) (aa (qv 0) au))))))))).1
 obtain C10:=mx m10 F10 ["word"] 1 2 nJ qz (aj (aP (cT (eZ (bJ C3 (aa (qv 0) au)))) (ak (dW rfl jX T.LP (.head _) aB))
   aD)
   (ak (kJ (pv 0))))
 obtain C28:=mo Gm0 ["self", "last", "wanted", "k", "part"] 2 2 gA (iV (qB K l.prog w C)) (aj (aH 2 (Gd (qv 1) rX)) (aj (fH (Gb T.G0 (qv 1) (qF ao) (qF ao)) (aX 3) (ak (aP (aF iA rH (qv 3) (qv 2)) (ak (fH (nY (bJ C0 (aa (vP (C:=C) (pv 0) (qv 3)) au))) (aX 4) (ak (wN (bY (pv 2)) (qv 4) rX))))
   aD)))
   (ak (aJ (aL Hj Be T.ZU xU (qv 2))))))
 obtain C7:=(mk m7 F7 ["k", "thing"] 2 3 uU z_ (aj (aP (xv (iY (cT (eZ (nM T.xC (qv 1) (lU T.Sg nG)))) (iY (aF gL aZ (aL aA bj T.kQ a_ (qv 1)) ao) (dY (cT (eZ (nM T.xC (dE (qv 1) ao) (lU T.Pp uz)))))))) (ak (aJ rX))
   aD)
   (aj (aP (xv (iY (aF gL aZ (dE (qv 1) ao) aB) (dY (aF gL aZ (dE (qv 1) ao) aB))))
   (ak (aJ (oZ (lV gL aZ (aL aA bj T.kQ a_ (qv 1)) ao) (oZ (bJ C3 (aa (dE (qv 1) ao) au)) (pY (bJ C5 (aa (qv 0) (aa (dE (qv 1) ao) au))))))))
   aD)
   (aj (aP (aF gL aZ (dE (qv 1) ao) aB)
   (ak (aJ (oZ (lV gL aZ (aL aA bj T.kQ a_ (qv 1)) ao) (pY (bJ C5 (aa (qv 0) (aa (dE (qv 1) ao) au)))))))
   aD)
   (aj (aP (xv (iY (aF gL aZ (dE (qv 1) ao) aB) (dY (aF gL aZ (dE (qv 1) ao) aB))))
   (ak (aJ (oZ (lV gL aZ (aL aA bj T.kQ a_ (qv 1)) ao) (pY (bJ C6 (aa (qv 0) (aa (dE (qv 1) ao) au)))))))
   aD)
   (ak (aJ rX))))))).1
 obtain C12:=mx m12 F12 ["words", "heads", "k"] 1 3 pD vy (λ{_ _ _ _ _ _ hr hu nd _}=>(aj (aH 1 (b7 au)) (aj (aH 2 ao) (aj (tV (aF jQ rM (qv 2) (aL aA bj T.kQ a_ (qv 0))) (ak (aP (xv (iY (aF gL aZ (dE (qv 0) (qv 2)) aB) (dY (aF gL aZ (dE (qv 0) (qv 2)) aB)))) (aj (aP (aF gL aZ (aU (qv 2) ao) (aL aA bj T.kQ a_ (qv 0))) (ak (dW rfl jX T.LP (.head _) aB))
   aD)
   (aj (Gy (bY (pv 1)) (Ju (yu (kK' (dE (qv 0) (qv 2))) (yu (wH C10 (hr.mono (by decide)) qg (aa (dE (qv 0) (aU (qv 2) ao)) au)) Ib))))
   (ak (aH 2 (aU (qv 2) ao)))))
   (aj (g8 (bY (pv 1)) (fc (aa (dE (qv 0) (qv 2)) au)))
   (ak (aH 2 (aU (qv 2) ao)))))))
   (ak (kJ (pv 1)))))))
 obtain C29:=mo Gm1 ["self", "last", "numbers", "scroll", "k"] 2 3 gC (iQ (qB K l.prog w C)) (λ{_ _ _ _ _ _ hr hu nd _}=>(aj (aH 2 Gv) (aj (aH 3 (b7 au)) (aj (fH (nY (xH (pv 0) Sh.cls Sh.lQ' C28 (hr.mono (by decide)) Sh.lR' (aa (qv 1) au))) (aX 4) (aj (wN (bY (pv 2)) (qv 4) (aL aA bj T.kQ a_ (qv 3))) (ak (g8 (bY (pv 3)) (bJ C1 (aa (vP (C:=C) (pv 0) (qv 4)) (aa (qv 2) au))))))) (ak (kJ (pv 3)))))))
 obtain C8:=(mk m8 F8 ["thing"] 1 4 oH qO (aj (aP (xv (iY (cT (eZ (nM T.xC (qv 0) (lU T.U5 vB)))) (dY (cT (oU gM gM nR nR ao (aL aA bj T.kQ a_ (qv 0)) (RK T.ZY)))))) (ak (aJ rX))
   aD)
   (ak (aJ (aL Wx ye T.Sf yz (mq (tn:=["k", "row"]) (cn:=[]) (ix:=[]) (Gz T.ZR (qv 0)) (Jv (tM (aX 0) (tM (aX 1) Eh))) gw (bJ C7 (aa (qv 0) (aa (qv 1) au))))))))).1
 obtain C15:=mx m15 F15 ["text", "words", "sheet", "waiting", "head"] 1 4 iW (kZ (qB K l.prog w C)) (λ{_ _ _ _ _ _ hr hu nd _}=>(aj (uG C11 (hr.mono (by decide)) qg (aa (qv 0) au)) (aj (aH 1 (yD (qv 0) aB)) (aj (aP (aF sE zO (aL aA bj T.kQ a_ (qv 1)) (RK T.U6)) (ak (dW rfl jX T.LP (.head _) aB))
   aD)
   (aj (FZ (i:=2) Sh.mkk Sh.cls Sh.n1 Sh.n2 Sh.init (hr.mono (by decide)) Sh.gl Sh.bi)
   (aj (GJ 3)
   (aj (Ed T.ZT (wH C12 (hr.mono (by decide)) qg (aa (qv 1) au)) (aX 4)
   (ak (Gx (pv 3) (pv 2) Sh.cls Sh.lP' Sh.put (hr.mono (by decide)) Sh.bp (lr C14 (hr.mono (by decide)) qg (yZ (qv 4) (jO (pv 3)))) (by decide))))
   (aj (aP (aF kNe Ji (aL aA bj T.kQ a_ (vJ (pv 3))) ao)
   (ak (dW rfl jX T.LP (.head _) aB))
   aD)
   (ak (aJ (xH (pv 2) Sh.cls Sh.lS' C29 (hr.mono (by decide)) Sh.lT' (aa (dE (vJ (pv 3)) ao) au))))))))))))
 obtain C9:=(mk m9 F9 ["thing"] 1 5 jA lN (ak (aP (cT (eZ (bJ C8 (aa (qv 0) au))))
   pC
   aD))).1
 obtain C25:=(mk m25 F25 ["_law_thing", "_law_kinds", "e", "_law_other"] 1 5 ju l_ (λ{_ _ _ _ _ _ hr hu nd _}=>(aj (aH 1 (fc au)) (aj (F_ (j:=2) (ρh:=λa=>[none,none,some (.xc a),none]) T.lF' nd rfl rfl rfl rfl (λa=>rfl) (λpn xe E1 hx1=>(ak (uG C15 (hr.mono (by decide)) hx1 (aa (qv 0) au)))) (λpn a oe n C hn hm xc hp sP=>by
    obtain⟨oF',oG',oH'⟩:=T.lG' n C hn hm;obtain⟨oI',oJ',oK'⟩:=T.lH' n C hn hm;obtain⟨oL',oM',oN'⟩:=T.lI' n C hn hm;obtain⟨oO',oP',oQ'⟩:=T.lK' n C hn hm;exact(aj (aH 3 (Hm (j:=2) (cs:=[oF',oI',oL']) T.xC hp sP xc (gr oH' (gr oK' (gr oN' uQ))) (Nat.le_of_ble_eq_true rfl) (pv 2) (nO (MD rfl oG' rfl) (nO (MD rfl oJ' rfl) (nO (MD rfl oM' rfl) Cu)))))
   (ak (jf 3 (aH 1 (fc (aa (GX (vc:=.ref oO') (j:=2) T.xC hp sP xc oQ' (pv 2) (MD rfl oP' rfl) (λ_ r=>r)) (aa (GX (vc:=.ty "ValueError") (j:=2) T.xC hp sP xc (T.lJ' n C hn hm) (pv 2) (lU T.ZP n8) (λ_ r=>r)) (aa (qv 3) au))))))))))
   (ak (aJ (lV gL aZ (qv 1) (fc (aa rX (aa rX (aa rX au))))))))))).1
 obtain C18:=(mk m18 F18 ["scroll", "told", "row"] 1 6 zB Hv (aj (CJ (bJ C9 (aa (qv 0) au))) (aj (aH 1 (b7 au)) (aj (jf 0 (fH (nY (qv 0)) (aX 2) (ak (g8 (bY (pv 1)) (bJ C17 (aa (qv 2) (aa (qv 1) au))))))) (aj (aP (aF fr' Iw (dE (qv 1) (qF ao)) xW)
   pC
   aD)
   (ak (aJ (lu aB (dE (qv 1) (qF ao)))))))))).1
 exact(mk hfa F27 ["_law_script", "_law_pool", "_law_words_here", "_law_turn", "_law_cell"] 1 7 Ft Lw (λ{_ _ _ _ _ _ hr hu nd _}=>(aj (aH 1 (bJ C20 (aa (bJ Pt (aa (qv 0) (aa ao au))) (aa (bJ Pt (aa (qv 0) (aa ao au))) au)))) (aj (aH 2 (bJ C21 (aa (bB (qv 0) (bh ao) (bh ao)) (aa (bJ Pt (aa (qv 0) (aa ao au))) (aa (aU (b7 (aa aB (aa aB (aa aB au)))) (qv 1)) au))))) (aj (aP (cT (eZ (bJ C25 (aa (bJ C26 (aa (lu aB (qv 2)) (aa (bJ Pt (aa (qv 0) (aa ao au))) au))) au)))) (ak (aJ rX))
   aD)
   (aj (aH 3 (bJ Pt (aa (qv 0) (aa ao au))))
   (aj (aP (aF gL aZ (c7 (qv 3) ao) ao)
   (ak (aH 2 (aU (JB (b7 (aa aB au)) (Ef (aU ao (c7 (oW (qv 3) ao) ao)) (aL aA bj T.kQ a_ (qv 2)))) (qv 2))))
   aD)
   (aj (aP (aF By rH (c7 (qv 3) ao) (fc (aa ao (aa ao au))))
   (aj (aH 4 (bJ Pt (aa (qv 0) (aa ao au))))
   (ak (aH 2 (bJ C24 (aa (qv 2) (aa (c7 (oW (qv 3) ao) (aL aA bj T.kQ a_ (qv 2))) (aa (qv 4) (aa (qv 1) au))))))))
   aD)
   (aj (aH 2 (yD (lu aB (qv 2)) aB))
   (aj (aP (cT (eZ (bJ C23 (aa (qv 2) au))))
   (ak (aJ (bJ C25 (aa (lu aB (qv 2)) au))))
   aD)
   (ak (aJ (lV gL aZ (bJ C18 (aa (Jm C15 (hr.mono (by decide)) (aa (lu aB (qv 2)) au)) au)) (lu aB (qv 2))))))))))))))).2
def walk{l:Vc}{q:b9}{loose:List Str}{XP:(Str->Option ah)->c9->Prop}{YP:cy->c9->Prop}{d:DefRec}{K:Params->ax}(hn:l.most=some 63)(Ru:d.params.defaults=[])(hY:∀ (w:cy) (h:c9),YP w h->(K w.params).In h)(F:∀ (w:cy) (mg:Str->Option ah) (fa:ag) (h:c9),(K w.params).In h->h.Ns gi mg->mg d.name=some (.ref fa) ->
   ∃ fd:nK,(∀ (s:aC) (u:ah),BindsTo s fd ⟨[u],[]⟩ [("_law_script",u)])/\∀ base:c9,(K w.params).In base->base.Ns gi mg->ja l.prog w (K w.params) mg base kr 8 fa fd ["_law_script"] (f9 (K w.params) Se)) :
  PySem.W.WalkO q loose XP YP l.row.toRowW d [] (λf vs=>PySem.call f vs) :=
 L2.hK' (n:=63) (k:=8) (x := "_law_script") (CX:=λ_=>kr) (sp:=λw=>f9 (K w.params) Se) hn (by decide) Ru ⟨rfl,by decide,by decide⟩ hY F (λw H a ns hl hO hS=>Bo hl hS) λ_ _ _ _ _ z=>z
end L2.Q.UT
end
open PySem PySem.W PyProof.Rows
namespace PySem.W.Fast
def tw2351999399152127452:=0
def tw2336472673711031088:=0
def tw9028029460315504597:=0
def tw2057649756449352018:=0
def tw6355481996528590787:=0
def tw16392529401149759073:=0
def tw16498696672235094802:=0
def tw18328939532127819584:=0
def tw124881186551911422:=0
def tw3998683568478187227:=0
def tw152142084660217546:=0
def tw6175630019463078320:=0
def tw5489224900005477241:=0
def tw2504390706474446370:=0
def tw9762771246418601128:=0
def tw9551489909211773194:=0
def tw9208509291920757648:=0
def tw5589711698504770189:=0
def tw4324136622396914905:=0
def tw5872370533746388375:=0
def tw378309400516462470:=0
def tw4794455114892939697:=0
def tw9147775149653249395:=0
def tw6175306023423226166:=0
def tw15362900326424642995:=0
def tw5861824041190791212:=0
def tw2063259722385018801:=0
def tw1118134507314207967:=0
def tw3926036842610791257:=0
def tw4209710005637627287:=0
def tw5428862626015371722:=0
def tw8979306815948069326:=0
def tw9066577881270221812:=0
def tw7554189485078004012:=0
def tw7841284196187501982:=0
def tw12885831736317424635:=0
def tw18356800865174278463:=0
def tw3613991514784779737:=0
def tw1339768256626839066:=0
def tw5884814415451562057:=0
def tw10562419797026279268:=0
def tw2479973839708702150:=0
def tw7659713974542553925:=0
def tw9787391771822111448:=0
def tw5612435268678126254:=0
def tw6921385439724754137:=0
def tw139988422819112153:=0
def tw8442183481665548442:=0
def tw16935258465086528743:=0
def tw8362618213748021773:=0
def tw16523315901624113755:=0
def tw10143811467113255289:=0
def tw11926867051649341988:=0
def tw3164705393748320953:=0
def tw692659288733227929:=0
def tw13168365846573832362:=0
def tw6006985769149664965:=0
def tw4261863801699413952:=0
def tw3425384874815403419:=0
def tw1026774083855596622:=0
def tw17476760743558269462:=0
def tw7917684160555754266:=0
def tw18023853802521907396:=0
def tw12424183600772549187:=0
def tw9848426515138878570:=0
def tw11818371600113341893:=0
def tw17702369084250956016:=0
def tw6196051725142250420:=0
def tw10456124996892265374:=0
def tw12641748087479568356:=0
def tw2251274309910229870:=0
def tw18211389164654470540:=0
def tw5046604472118831702:=0
def tw18178519406802332046:=0
def tw14786111743515614519:=0
def tw14378250812910685203:=0
def tw14143156315656639592:=0
def tw5459133906496405317:=0
def tw4120740043344231488:=0
def tw17858607480381437958:=0
def tw15532915684337711378:=0
def tw8625892958890674275:=0
def tw8951068802341278670:=0
def tw6694003664455564092:=0
def tw3519858249911041317:=0
def tw8415554949072505500:=0
def tw17434119135817980730:=0
def tw9355472979689575402:=0
def tw10526975093168507494:=0
def tw2014327991721278705:=0
def tw11116294340415936734:=0
def tw314607003604814871:=0
def tw11091912379494361200:=0
def tw3386609099132086802:=0
def tw7379006913763931316:=0
def tw14741202217201488835:=0
def tw9912923973570270233:=0
def tw2398953262125524349:=0
def tw4798247438676403061:=0
def tw8147445444805803360:=0
def tw12986202595311167689:=0
def tw10651986646442131459:=0
def tw12797721433914953765:=0
def tw1654228750319815020:=0
def tw903346062506895011:=0
def tw3242174143742165213:=0
def tw7846357245171762477:=0
def tw10944585049849920299:=0
def tw5731849874761532824:=0
def tw7600994367228772251:=0
def tw12779890586053739141:=0
def tw5343670908461831202:=0
def tw3854900395323763588:=0
def tw8539174903992847042:=0
def tw12988123016606617854:=0
def tw16053757823404794020:=0
def tw11864948427333148964:=0
def tw8260649784645157500:=0
def tw17353444007505128797:=0
def tw12355117329637151611:=0
def tw13839158693035227196:=0
def tw6237596184362864473:=0
def tw13737765844999647696:=0
def tw4369609513654099139:=0
def tw2308343711515151986:=0
def tw2056259209578979953:=0
def tw9959026756966800577:=0
def tw10979907812957594259:=0
def tw2737474769310541569:=0
def tw16291329777041726996:=0
def tw13577483998060033780:=0
def tw8518105857089681764:=0
def tw15265851263596446188:=0
def tw12161656242196471604:=0
def tw9707113589309625371:=0
def tw10830271894987005621:=0
def tw15823027577939458257:=0
def tw13415464606238479120:=0
def tw15883041698707349962:=0
def tw16420978998333423863:=0
def tw14379496850220545663:=0
def tw12138315808814135712:=0
def tw5859772765258523918:=0
def tw13052484836132812551:=0
def tw6205814697222369468:=0
def tw15571440110985861907:=0
def tw11466330146339470772:=0
def tw12015684731177135414:=0
def tw6125099500651646358:=0
def tw13196265125621585940:=0
def tw5694022931057997215:=0
def tw17173571322685974501:=0
def tw18385137003094022714:=0
def tw12037239279997443343:=0
def tw8635498366508084984:=0
def tw7315060589414486985:=0
def tw7605438070985990968:=0
def tw17284228288754165855:=0
def tw14070962739066194727:=0
def tw12034433790286100484:=0
def tw16059648115383679982:=0
def tw7347354791156702282:=0
def tw5199175652279744295:=0
def tw13671203432180040941:=0
def tw3391266264080028231:=0
def tw1069635801028364061:=0
def tw4145470396497782395:=0
def tw15338831667308352947:=0
def tw16830472662065180389:=0
def tw3296883785357508894:=0
def tw960916495252139896:=0
def tw17570458307030440483:=0
def tw12159797984235517848:=0
def tw1929263122984847149:=0
def tw476628517458992522:=0
def tw487748618686632776:=0
def tw2502641198311739005:=0
def tw6157048840066944980:=0
def tw9615673659760248433:=0
def tw11844910959283736750:=0
def tw15191710238117745265:=0
def tw15302926702623098863:=0
def tw1905955331895832793:=0
def tw13533653132703946995:=0
def tw14934713813770997718:=0
def tw5774783036028684398:=0
def tw14641480604777623347:=0
def tw14375253808100105459:=0
def tw5572611922453759596:=0
def tw9605401123508577948:=0
def tw15786677917501711208:=0
def tw16437862591038356588:=0
def tw15704648597332622293:=0
def tw17589118672949760235:=0
def tw14875979604299277984:=0
def tw500174735619958064:=0
def tw1550127826511498490:=0
def tw17311912324843689740:=0
def tw6587831152919801020:=0
def tw12061771589039959437:=0
def tw8088808650268047631:=0
def tw12785088010416503973:=0
def tw18206543514285190338:=0
def tw2529907588677574085:=0
def tw12109312933981745238:=0
def tw15227233608291269380:=0
def tw5593589738094715318:=0
def tw11883206742294707827:=0
def tw7497990412384294317:=0
def tw5647502542029089080:=0
def tw12903038827172831411:=0
def tw4709131418326388588:=0
def tw5597452567448160940:=0
def tw11362809036244784313:=0
def tw12905419894473856939:=0
def tw11820793598604487525:=0
def tw7993143099697241180:=0
def tw13070242369947335625:=0
def tw6296439154075416000:=0
def tw3943226400870852272:=0
def tw8447707117560730941:=0
def tw6519974768896042957:=0
def tw13784669255784617490:=0
def tw9796701386239556467:=0
def tw3758604769565941504:=0
def tw11659773869227896724:=0
def tw13885760354274735086:=0
def tw15663398119822838254:=0
def tw14288065917898957766:=0
def tw10461945087957729816:=0
def tw98948996454956838:=0
def tw13192012623080700979:=0
def tw16745233161222397367:=0
def tw12415134288584070925:=0
def tw12048906701305076412:=0
def tw2970744824265357193:=0
def tw16928470782332881490:=0
def tw5877073068728202817:=0
def tw385217344075130275:=0
def tw8607199852014627781:=0
def tw16988603462011665406:=0
def tw4718795390464586267:=0
def tw5608979885890616411:=0
def tw3729794774007675915:=0
def tw13735983816493286811:=0
def tw15065989184825313223:=0
def tw1872853320787179965:=0
def tw2493675244185263111:=0
def tw8192821173123221101:=0
def tw422834377901022140:=0
def tw2818651591089327153:=0
def tw15565027285202319820:=0
def tw2150055727680360566:=0
def tw1712400342559890111:=0
def tw11952638788747068864:=0
def tw10032448441022293943:=0
def tw10243650977522263086:=0
def tw237223680528220076:=0
def tw10162583409493564441:=0
def tw2599471164489263091:=0
def tw706074473274700505:=0
def tw2992874430007445952:=0
def tw17977488475588884979:=0
def tw14540494307408921533:=0
def tw8287779445396955504:=0
def tw4462614135884601138:=0
def tw13473424262737549084:=0
def tw10042536495107486350:=0
def tw341374608245685243:=0
def tw143809506125421597:=0
def tw10759687704205951933:=0
def tw6159979912222942131:=0
def tw6690567541895222949:=0
def tw1466928102894194197:=0
def tw11412958984422924710:=0
def tw597177473819541215:=0
def tw14155408523718579346:=0
def tw4029391260219284168:=0
def tw14727638748414493496:=0
def tw13114389795640117452:=0
def tw4155282463009370419:=0
def tw17461658592333266055:=0
def tw1536594478091183997:=0
def tw9232337302858047588:=0
def tw6544877892616769814:=0
def tw1552432008520543906:=0
def tw15868526127577550418:=0
def tw5099057624068980650:=0
def tw15129352542876896975:=0
def tw11043367203863228990:=0
def tw11679783959381382295:=0
def tw11194831611053746492:=0
def tw8737388036934842133:=0
def tw17143682506829134414:=0
def tw17525397023777822437:=0
def tw13586969222232025009:=0
def tw12021506271171304677:=0
def tw16934888759439173869:=0
def tw2648558053588439179:=0
def tw2781326749201213737:=0
def tw6973057797155370128:=0
def tw13529336015518878371:=0
def tw5020363970718241500:=0
def tw13628038506801052055:=0
def tw12790877047925715208:=0
end PySem.W.Fast
set_option maxRecDepth 100000 in
set_option maxHeartbeats 0 in
theorem PySem.Challenge.cw_kinlook_k27_no_sentences_holds : PySem.Challenge.rw_kinlook_k27_no_sentences.Holds := by
 w_on;o_law;k_head;(case hw=>w_witness2)
 k_fill
 refine L2.Q.UT.walk (l:=PySem.Challenge.rw_kinlook_k27_no_sentences) rfl rfl (λw h Y=>PySem.W.kIn_of Y) ?F
 case F =>
  intro w mg fa h KX G Rv
  refine' L2.Q.UT.all_mk KX G Rv ..
  all_goals first|k_is|k_exc|kit_is|(refine' L2.Q.UT.Ks ..<;>first|k_is|skip)|skip
