import PyProof.Rows.All
import Wide.All
import OpenK.AllK
import Wide.FinOn
import Lean
import PyProof.EqAt
import PyProof.EqKinds
import PyProof.TupleCall
import PyProof.CompUse
import PyProof.NeData
import PyProof.WalksEnum
import PyProof.EnumMake
import PyProof.ZipIter
import PyProof.Rows.EnumRows
import PyProof.Rows.FactsT2
import KE.KDictList
import PyProof.Rows.SortRuns
import PyProof.Rows.SortWalk
import KE.KSortTup
import PyProof.Rows.SortStr
import PyProof.ListRange
import PyProof.StrOps2
import PyProof.StrBlock2
import PyProof.AutoIntG3
import PyProof.ListMulRight
import PyProof.Rows.ListMulArg
import PyProof.Rows.CallKwBuiltin
import PyProof.Rows.StrMul
import KE.KMinBuiltin
import PyProof.TupleKey
import PyProof.SetKind
import PyProof.Rows.SetFrom
import PyProof.DictWalks
import KE.KRevIter
import PyProof.AutoSeq1
import PyProof.StrCalls2
import PyProof.StrLawsTight
import PyProof.Rows.StrNews2
import PyProof.Rows.StrLawsPart
import PyProof.Rows.StrFirst
import PyProof.CallStr
import KE.KIntText
import Wide.Seal
import KE.KRevSl
import PySem.Challenge.RW_kinlook_k26_sentences_read
open PySem.W renaming Frag->ay,nsIn->mM,mg_none_of->xC,findIn->tS,kia_one->yn,fnOf->tT,keepIn->yv,mg_of->B1,codeIn->DI,emptyDict->G0,instObj->He,isFn->LG,plainGet->TB,hasDictIn->Vu,kitx_dict->Vv,plainGet_of->ZZ,lookIn->Vw,plainOver->Z0,kitx_list->Z1,takerIn->Z2,makesIn->Z3,OpenLaw->Z4
open PySem renaming wpAny_bind->ax,Value->ah,wpAny_pure->bI,sizeLine->bG,Addr->ai,Shared->aI,model->aE,wpAny->bq,Program->cy,World->c9,starEach->fN,mainGlobals->iP,eval->dn,compareOp->iX,sizeLine_eq->kQ,Around->fz,bootBuiltins->mN,Heap->d5,wpAny_newObj_type->t5,cLine->f7,attributeBase->t9,swapsWith->nL,wpAny_truthy_bool->AZ,sysModules->rX,wpAny_mono->ua,wpAny_setState_of->DJ,wpAny_holding->zk,binaryOp->qS,codeAny_builtin->DL,FuncData->sF,keywordEach->zo,Stmt->kf,Keyword->qV,plainId_quiet->DM,step->kH,wpAny_call_entry->HC,wpAny_Call_Name_kw->LH,rawInt->rg,foldedSetIterable->LJ,wpAny_typeNameOfWhole_keyiter->Vx,wpAny_callSpecial?_slot->TC,wpAny_setField_rec->Pw,wpAny_passesOwn->LM,codeAny->xD,behindInMarks->HG,backToKw->zt,backTo->ub,wpAny_rule->DS,wpAny_typeNameOf_keyiter->Vy,wpAny_askSetting->PD,assignEach->Fh,typeIs_str->Fm,tupleKind_room_in1->TF,wpAny_dictEntries->TH,wpAny_seqItems->PF,tupleKind->Fn,wpAny_forIn_list->TJ,sliceBounds->LN,wpAny_of_eq->LP,wpAny_updateSeq->TK
open List renaming length_map->cx,mem_cons_of_mem->eI,mem_cons_self->eK,mem_cons->dQ,length_cons->gi,mem_singleton->hV,map_cons->eR,getElem?_eq_some_iff->k7,mem_map->fq,mem_append_right->kR,length_append->kz,size_toArray->kg,getElem?_map->ki,mem_append->kA,getElem?_eq_getElem->rh,mem_of_getElem?->oj,length_take->lI,map_append->kS,getD_eq_getElem?_getD->xE,reverse_cons->pS,append_nil->ng,mem_append_left->sL,map_map->kM,nodup_cons->om,append_assoc->r9,nodup_nil->oo,length_reverse->vE,nodup_append->ui,not_mem_nil->sM,drop_eq_getElem_cons->B3,mem_iff_getElem?->zv,getElem?_append_right->DT,all_eq_true->xI,take_length->xS,take_add_one->yA,map_congr_left->A0,mem_range->vF,getElem?_eq_none->DU,getElem?_append_left->HK,pairwise_map->A2,foldl_cons->zC,mem_zipIdx_iff_getElem?->PH,length_drop->DV,sublist_append_right->PK,mem_filter->DZ,find?_cons->D1,length_eq_zero_iff->PR,take_of_length_le->PY,nodup_iff_pairwise_ne->TL,all_cons->D2,cons_append->HL,take_append_drop->PZ,pairwise_iff_getElem->TN,nil_sublist->HM,any_eq_true->HP,mem_of_mem_take->P1,reverse_reverse->P2,any_cons->Fs,append_eq_nil_iff->TQ,singleton_append->TR,foldl_append->P4,filterMap_cons->TV,drop_length->P5,getElem?_range->TX,zip_cons_cons->TY,length_nil->P6,length_pos_of_mem->Vz,dropLast_concat_getLast->Z5,length_range->T1,ext_getElem?->T2,flatMap_cons->T3,all_map->LS,mem_of_mem_drop->VA,extract_eq_drop_take->Z6,length_zip->T4,sublist_append_left->Z7,map_nil->P7,take_succ_eq_append_getElem->xdG,length_replicate->Z8,length_singleton->Z9,lookup_cons->VB,getElem_mem->VC,cons_ne_nil->VD,eq_nil_iff_forall_not_mem->xdP,getElem?_set_ne->Z_,dropLast_subset->xdT,getLast?_eq_some_getLast->xdV,replicate_succ->xd0,filter_eq_self->xd2,foldl_nil->VF,mem_filterMap->xd7,filterMap_map->xd8,flatten_cons->xee,reverse_perm->xef,getElem_inj->xeh,map_fst_zip->xei
open PySem.Heap renaming get?_push_of_some->eS,get?_push_size->jI,lt_size->fA,get?_update_other->D3,get?_update_self->HV,size_update->T5,get?_push_ne->VG,size_push->VH
open Nat renaming le_refl->cE,ne_of_lt->gS,zero_le->gy,le_trans->kD,lt_of_lt_of_le->sN,lt_irrefl->vS,le_of_lt->D4,lt_succ_of_lt->HZ,pow_succ->D5,not_lt_zero->LV,add_sub_of_le->T6,mul_assoc->P8,ne_of_gt->P9,sub_self->Qb,add_zero->Qr,lt_of_succ_lt->xdz,le_of_lt_succ->VJ,lt_succ_of_le->VL,lt_succ_self->VM,le_of_eq->T7,add_comm->T8,min_self->T9,mod_lt->Qw,lt_of_le_of_lt->xd6,le_succ->T_,lt_trans->xek,zero_add->VN,mul_comm->VP,succ_pos->VQ
open PyProof.Rows renaming wpS_bind->dc,arrOf->bS,wpS_pure->dz,Keyed->cp,SortSt->eA,kindOf->fS,pendingOf->nS,wpS_forRange->uj,failedOf->uk,envOfC->ri,wpS_mono->x3,SortKind->yB,wpS_modify->Fu
open Option renaming map_eq_some_iff->nV,isSome_iff_exists->VR,bind_eq_some_iff->VS,map_some->Ua,isSome_map->VW,bind_some->xej
open Int renaming toNat_of_nonneg->oq,emod_lt_of_pos->x5,emod_nonneg->x6,toNat_natCast->D6,le_refl->A3,le_trans->FC,le_of_lt->LW
open Bool renaming false_ne_true->nX,and_eq_true->mn,false_eq_true->vT,eq_iff_iff->zD,or_eq_true->VX,true_and->VY
open Array renaming getElem?_toList->sP,getElem?_eq_getElem->D7,length_toList->A4,getD_eq_getD_getElem?->LX,getElem?_eq_none->Qz,getElem?_eq_some_iff->Ub,toList_push->QN,getElem?_extract->VZ,perm_iff_toList_perm->xdk,size_extract->V0,forIn_toList->V1,toList_inj->V2,eq_empty_of_size_eq_zero->xdO,toList_extract->xdR,toList_reverse->xdS,append_empty->xd9,size_reverse->xea
open PySem.PyData renaming keyHash->Uc
def bv:Lean.Syntax:=(Lean.Unhygienic.run `(tacticSeq|rfl)).raw
set_option hygiene false
def tw:Lean.Syntax:=(Lean.Unhygienic.run `(tacticSeq|decide)).raw
def u0:Lean.Syntax:=(Lean.Unhygienic.run `(tacticSeq|assumption)).raw
def u':Lean.Syntax:=(Lean.Unhygienic.run `(tacticSeq|first|exact .inl rfl|exact .inr rfl|assumption)).raw
def vw:Lean.Syntax:=(Lean.Unhygienic.run `(tacticSeq|intro _;rfl)).raw
def wx:Lean.Syntax:=(Lean.Unhygienic.run `(tacticSeq|first|exact .inl rfl|exact .inr rfl)).raw
local macro_rules | `(command| def $i:declId $s:optDeclSig $v:declVal)=>Lean.MonadRef.withRef .missing `(command| noncomputable def $i:declId $s:optDeclSig $v:declVal)
local macro_rules | `(command| abbrev $i:declId $s:optDeclSig $v:declVal)=>Lean.MonadRef.withRef .missing `(command| noncomputable abbrev $i:declId $s:optDeclSig $v:declVal)
set_option compiler.extract_closed false
def L2.eM{d c:Type _}{A B C:d->c->Prop}{G:Prop}(x:∃ a b,A a b/\B a b/\C a b)(k:∀ a b,A a b->B a b->C a b->G):G :=
 let ⟨a,b,p,q,r⟩:=x
 k a b p q r
set_option Elab.async false
set_option linter.all false
set_option maxHeartbeats 4000000
set_option maxRecDepth 100000
set_option linter.defProp false
section
open PySem PySem.Spec PyProof.Rows
set_option bootstrap.genMatcherCode false
set_option genSizeOf false
namespace L2
abbrev Key:=Sum Int Str
def LZ:Key->ah->Bool
 |.inl k,v=>Value.isInt k v
 |.inr x,v=>Value.isStrOf x v
def hC'(w:c9):Key->Int
 |.inl k=>hashInt k
 |.inr x=>hashStr w x
theorem A5:∀ {k:Key} {v:ah},LZ k v=true->(∃ i t,k=Sum.inl i/\v=Value.int i t)\/(∃ x t,k=Sum.inr x/\v=Value.str x t)
 |.inl i,v,h=>by obtain⟨t,e⟩:=Value.isInt_shape h;exact .inl ⟨i,t,rfl,e⟩
 |.inr x,v,h=>by obtain⟨t,e⟩:=Value.isStrOf_shape h;exact .inr ⟨x,t,rfl,e⟩
def hD'(i:Int)(t:Tok):LZ (.inl i) (.int i t)=true:=by simp[LZ,Value.isInt]
def hE'(x:Str)(t:Tok):LZ (.inr x) (.str x t)=true:=by simp[LZ,Value.isStrOf]
def cU'(a b:Int):decide ((Sum.inl a:Key)=Sum.inl b)=(a == b):=by
 by_cases e:a=b
 ·subst e;simp
 ·have h:¬ (Sum.inl a:Key)=Sum.inl b:=λq=>e (Sum.inl.inj q);rw[decide_eq_false h];exact(beq_eq_false_iff_ne.mpr e).symm
def cV'(a b:Str):decide ((Sum.inr a:Key)=Sum.inr b)=decide (a=b):=by
 by_cases e:a=b
 ·subst e;simp
 ·have h:¬ (Sum.inr a:Key)=Sum.inr b:=λq=>e (Sum.inr.inj q);rw[decide_eq_false h,decide_eq_false e]
def hF'(a:Int)(b:Str):decide ((Sum.inl a:Key)=Sum.inr b)=false:=decide_eq_false (λq=>nomatch q)
def hG'(a:Str)(b:Int):decide ((Sum.inr a:Key)=Sum.inl b)=false:=decide_eq_false (λq=>nomatch q)
def i3(c:cy)(w:c9):PySem.KeyKind c w Key where
 is:=LZ
 hash:=hC' w
 inj:=λv a b l f=>by
  rcases A5 l with⟨i,t,rfl,rfl⟩|⟨x,t,rfl,rfl⟩
  ·rcases A5 f with⟨j,u,rfl,e⟩|⟨y,u,rfl,e⟩
   ·injection e with e1 _;rw[e1]
   ·exact nomatch e
  ·rcases A5 f with⟨j,u,rfl,e⟩|⟨y,u,rfl,e⟩
   ·exact nomatch e
   ·injection e with e1 _;rw[e1]
 byValue:=λk v h=>by rcases A5 h with⟨i,t,rfl,rfl⟩|⟨x,t,rfl,rfl⟩<;>rfl
 pyHash:=λd h=>by
  rcases A5 d with⟨i,t,rfl,rfl⟩|⟨x,t,rfl,rfl⟩
  ·exact wpAny_pyHash_int h
  ·exact wpAny_pyHash_str h
 eqBool:=λg d h=>by
  rcases A5 g with⟨i,t,rfl,rfl⟩|⟨x,t,rfl,rfl⟩
  ·rcases A5 d with⟨j,u,rfl,rfl⟩|⟨y,u,rfl,rfl⟩
   ·rw[cU'] at h;exact wpAny_eqBool_int h
   ·rw[hF'] at h;exact SeqAt.EqAt.int_str i t y u _ _ _ _ h
  ·rcases A5 d with⟨j,u,rfl,rfl⟩|⟨y,u,rfl,rfl⟩
   ·rw[hG'] at h;exact SeqAt.EqAt.str_int x t j u _ _ _ _ h
   ·rw[cV'] at h;exact wpAny_eqBool_str h
 «strs» := λk x t v h=>by
  rcases A5 h with⟨i,u,rfl,e⟩|⟨y,u,rfl,e⟩
  ·exact nomatch e
  ·injection e with e1 _;subst e1;cases v<;>rfl
def hH'(a:cy)(w:c9)(i:Int)(t:Tok):(i3 a w).is (.inl i) (.int i t)=true:=hD' i t
def V3(a:cy)(w:c9)(x:Str)(t:Tok):(i3 a w).is (.inr x) (.str x t)=true:=hE' x t
inductive V where
 |non|bl (b:Bool)|int (i:Int)|str (x:Str)|v3 (b:Array UInt8)|B4 (b:UInt64)|ref (a:ai)|ty (n:String)
 deriving DecidableEq
set_option genInjectivity false
def RelV:V->ah->Prop
 |.non,u=>u=Value.none
 |.bl b,u=>u=Value.bool b
 |.int i,u=>∃ t,u=Value.int i t
 |.str x,u=>∃ t,u=Value.str x t
 |.v3 b,u=>∃ t,u=Value.bytes b t
 |.B4 b,u=>∃ t,u=Value.float b t
 |.ref a,u=>u=Value.ref a
 |.ty n,u=>u=Value.type n
abbrev Vals:List V->List ah->Prop:=Paired RelV
def Vals.length(r:Vals xs o):xs.length=o.length:=Paired.length r
def Vals.get{a:List V}{b:List ah}{i:Nat}{x:V}(h:Vals a b):a[i]? = some x->∃ u,b[i]? = some u/\RelV x u:=by
 induction h generalizing i with
 |nil=>intro e;cases e
 |cons r _ c =>
  cases i with
  |zero=>intro e;cases e;exact⟨_,rfl,r⟩
  |succ i=>exact c
def Vals.append{b a:List V}{d c:List ah}(h:Vals b d):Vals a c->Vals (b++a) (d++c):=by
 intro s
 induction h with
 |nil=>exact s
 |cons r _ e=>exact .cons r e
theorem Vals.take:∀ {a:List V} {b:List ah} (n:Nat),Vals a b->Vals (a.take n) (b.take n)
 |_,_,0,_=>.nil
 |_,_,_+1,.nil=>.nil
 |_,_,n+1,.cons r t=>.cons r (Vals.take n t)
theorem Vals.drop:∀ {a:List V} {b:List ah} (n:Nat),Vals a b->Vals (a.drop n) (b.drop n)
 |_,_,0,r=>r
 |_,_,_+1,.nil=>.nil
 |_,_,n+1,.cons _ t=>Vals.drop n t
def rj:Option V->Option ah->Prop
 |some v,some u=>RelV v u
 |none,none=>True
 |_,_=>False
def KV{a:Type}:List (a × V)->List (a × ah)->Prop:=Paired λ(p:a × V) (q:a × ah)=>p.1=q.1/\RelV p.2 q.2
def kV:Key->V
 |.inl i=>.int i
 |.inr x=>.str x
inductive HO where
 |lst (xs:List V)
 |tup (xs:List V)
 |dK (ae:List (Key × V))|dT (ae:List (List Key × V))
 |set (S:Int->Bool) (n:Nat)
 |ins (C dx:ai) (fs:List (Str × V))
 |own (x:ai)
 |xd (fs:List (Str × V))
 |met (f x:ai)
 |rng (lo hi:Int)
 |wc (o:Obj) (u:HO)
 |L4 (ps:Array ah)
 |ext (φ:d5->Prop)
abbrev Hp:=ai->Option HO
def upd(H:Hp)(a:ai)(o:HO):Hp:=λb=>if b=a then some o else H b
def eT:upd H a o a=some o:=by unfold upd;rw[if_pos rfl]
def dr(h:b≠a):upd H a o b=H b:=by unfold upd;rw[if_neg h]
def cW'{H:Hp}{a b:ai}{o u:HO}(h:H a=some o)(c:H b=some u)(d:o≠u):a≠b:=by intro e;subst e;rw[h] at c;exact d (Option.some.inj c)
def zI{H:Hp}{a b:ai}{o:HO}(h:H a=some o)(c:H b=none):a≠b:=by intro e;subst e;rw[h] at c;cases c
section
variable (P:cy)(w:c9)
def n4(H:Hp)(h:d5)(a:ai):HO->Prop
 |.lst c=>c.length<=bG/\∃ (b:List ah) (n:Nat),Vals c b/\h.get? a=some { cls:=.type "list",data:=.seq b.toArray n }
 |.tup c=>c.length<=bG/\∃ b:List ah,Vals c b/\IsTup h a b.toArray
 |.dK g=>g.length<=bG/\(a == rX)=false/\∃ k,KV g k/\h.DictOf (i3 P w) a k
 |.dT g=>g.length<=bG/\(a == rX)=false/\∃ c:List (List Key × ai × ah),
   Paired (λ(p:List Key × V) (q:List Key × ai × ah)=>p.1=q.1/\H q.2.1=some (.tup (p.1.map kV))/\RelV p.2 q.2.2) g c /\
   ∃ o r A,h.get? a=some o/\o.ExactDict/\o.data=.dict r A/\r.toList=c.map (entryOfKey (Fn (i3 P w)))/\(c.map (·.1)).Nodup
 |.set S n=>h.SetOf (intKind P w) a S n
 |.ins C i e=>H i=some (.own a)/\e.length<=1000/\i≠a/\h.get? a=some (He C i) /\
   ∃ d,h.Ns1 i d/\(∀ f,rj (e.lookup f) (d f))/\PySem.Within d (e.map (·.1))
 |.own _=>∃ o,h.get? a=some o
 |.xd e=>∃ d,h.Ns1 a d/\∀ f,rj (e.lookup f) (d f)
 |.rng y z=>∃ t u v,h.get? a=some { cls:=.type "range",data:=.fields #[.int y t,.int z u,.int 1 v] }
 |.wc o u=>h.get? a=some o/\n4 H h a u
 |.L4 s=>h.get? a=some { cls:=.none,data:=.fields s }
 |.met f x=>h.get? a=some (PySem.W.methodObj (.ref f) (.ref x))
 |.ext j=>j h/\(∃ o,h.get? a=some o)/\∀ m l:d5,j m->(∀ o,m.get? a=some o->l.get? a=some o)->j l
def kE(H:Hp)(h:d5):Prop:=∀ a o,H a=some o->n4 P w H h a o
end
section
variable {P:cy}{w:c9}{H H':Hp}{h g:d5}{a:ai}{o:HO}
def n4.lt(x:n4 P w H h a o):a<h.objs.size:=by
 cases o with
 |lst b=>obtain⟨_,_,_,_,e⟩:=x;exact fA e
 |tup b=>obtain⟨_,_,_,p⟩:=x;exact p.lt
 |dK d=>obtain⟨_,_,_,_,o,_,_,e,_⟩:=x;exact fA e
 |dT d=>obtain⟨_,_,_,_,o,_,_,e,_⟩:=x;exact fA e
 |set S n=>obtain⟨o,_,_,_,e,_⟩:=x;exact fA e
 |ins C q c=>obtain⟨_,_,_,e,_⟩:=x;exact fA e
 |own y=>obtain⟨_,e⟩:=x;exact fA e
 |xd c=>obtain⟨_,⟨_,_,_,e,_⟩,_⟩:=x;exact fA e
 |rng l m=>obtain⟨_,_,_,e⟩:=x;exact fA e
 |wc k u=>obtain⟨e,_⟩:=x;exact fA e
 |L4 j=>exact fA (x)
 |met f y=>exact fA (x)
 |ext i=>obtain⟨_,⟨_,e⟩,_⟩:=x;exact fA e
def Paired.au'{e d:Type}{F G:e->d->Prop}{i:List e}{c:List d}(h:Paired F i c):(∀ a b,F a b->G a b)->Paired G i c:=by
 intro f
 induction h with
 |nil=>exact .nil
 |cons r _ j=>exact .cons (f _ _ r) j
def Paired.imp'{e d:Type}{F G:e->d->Prop}(f:∀ a b,F a b->G a b){i:List e}{c:List d}(r:Paired F i c):Paired G i c:=Paired.au' r f
def n4.gE(x:n4 P w H h a o)(k:∀ b u,(b=a\/H b=some (.own a))->h.get? b=some u->g.get? b=some u)(L:∀ b,H b=some (.own a)->H' b=some (.own a)) (K:∀ b s,H b=some (.tup s)->H' b=some (.tup s)):n4 P w H' g a o:=by
 induction o with
 |lst s=>obtain⟨z,m,n,r,e⟩:=x;exact⟨z,m,n,r,k _ _ (.inl rfl) e⟩
 |tup s=>obtain⟨z,m,r,i,e,c⟩:=x;exact⟨z,m,r,i,k _ _ (.inl rfl) e,c⟩
 |dK O=>obtain⟨z,y,E,r,i,j,l,e,c⟩:=x;exact⟨z,y,E,r,i,j,l,k _ _ (.inl rfl) e,c⟩
 |dT O =>obtain⟨z,y,s,r,i,j,l,e,c⟩:=x;exact⟨z,y,s,Paired.au' r λp q z=>⟨z.1,K _ _ z.2.1,z.2.2⟩,i,j,l,k _ _ (.inl rfl) e,c⟩
 |set S n=>obtain⟨i,j,l,t,e,c⟩:=x;exact⟨i,j,l,t,k _ _ (.inl rfl) e,c⟩
 |ins C V M =>obtain⟨d,z,G,e,B,⟨A,j,l,N,c⟩,r⟩:=x;exact⟨L _ d,z,G,k _ _ (.inl rfl) e,B,⟨A,j,l,k _ _ (.inr d) N,c⟩,r⟩
 |own y=>obtain⟨i,e⟩:=x;exact⟨i,k _ _ (.inl rfl) e⟩
 |xd M=>obtain⟨B,⟨A,j,l,e,c⟩,r⟩:=x;exact⟨B,⟨A,j,l,k _ _ (.inl rfl) e,c⟩,r⟩
 |rng R T=>obtain⟨t,u,v,e⟩:=x;exact⟨t,u,v,k _ _ (.inl rfl) e⟩
 |wc i u J=>obtain⟨e,q⟩:=x;exact⟨k _ _ (.inl rfl) e,J q⟩
 |L4 F =>have e:h.get? a=some { cls:=.none,data:=.fields F }:=x;exact k a _ (.inl rfl) e
 |met f y =>have e:h.get? a=some (PySem.W.methodObj (.ref f) (.ref y)):=x;exact k a _ (.inl rfl) e
 |ext Q=>obtain⟨p,⟨o,e⟩,D⟩:=x;exact⟨D _ _ p λo q=>k _ _ (.inl rfl) q,⟨o,k _ _ (.inl rfl) e⟩,D⟩
def kE.lt(x:kE P w H h)(e:H a=some o):a<h.objs.size:=(x a o e).lt
def kE.fresh(x:kE P w H h)(e:h.objs.size<=a):H a=none:=by
 cases q:H a with
 |none=>rfl
 |some u=>exact absurd (sN (x.lt q) e) (vS _)
def kE.kept(x:kE P w H h)(k:∀ b u,h.get? b=some u->g.get? b=some u):kE P w H g:=λa o e =>
 (x a o e).gE (λb u _ q=>k b u q) (λ_ q=>q) λ_ _ q=>q
def kE.laid(x:kE P w H h)(k:∀ b u,h.get? b=some u->g.get? b=some u)(j:h.objs.size<=a)(d:n4 P w (upd H a o) g a o):kE P w (upd H a o) g:=λb u e=>by
 have f:=x.fresh j;by_cases i:b=a
 ·subst i;rw[eT] at e;cases e;exact d
 ·rw[dr i] at e;exact(x b u e).gE (λc v _ q=>k c v q) (λc q=>by rw[dr (zI q f)];exact q) λc l q=>by rw[dr (zI q f)];exact q
end
def Rd(H:Hp)(a:ai)(u:HO):Prop:=H a=some u\/∃ o,H a=some (.wc o u)
def Rd.of(h:H a=some u):Rd H a u:=.inl h
def Rd.ok{P:cy}(r:Rd H a u)(x:kE P w H h):n4 P w H h a u:=by
 rcases r with r|⟨o,r⟩
 ·exact x a u r
 ·obtain⟨_,q⟩:=x a _ r;exact q
def Ue:Option HO->Prop
 |some (.lst _)=>True
 |some (.dK _)=>True
 |some (.dT _)=>True
 |some (.set _ _)=>True
 |some (.ins _ _ _)=>True
 |some (.ext _)=>True
 |_=>False
section
variable {P:cy}{w:c9}{H:Hp}{h a:d5}{x e:ai}{d:HO}
def kE.write(A:kE P w H h)(i:Ue (H x))(t:e=x\/H e=some (.own x))(k:∀ b u,b≠e->h.get? b=some u->a.get? b=some u)(D:∃ u,a.get? e=some u)(n:n4 P w (upd H x d) a x d):kE P w (upd H x d) a:=λb u q=>by
 have f:∀ c y,H c=some (.own y)->c≠x:=λc y r z=>by subst z;rw[r] at i;exact i
 have p:∀ c g,H c=some (.tup g)->c≠x:=λc g r z=>by subst z;rw[r] at i;exact i
 by_cases l:b=x
 ·subst l;rw[eT] at q;cases q;exact n
 ·rw[dr l] at q;by_cases m:b=e
  ·have s:H b=some (.own x):=by
    rcases t with z|z
    ·exact absurd (m.trans z) l
    ·rw[m];exact z
   rw[q] at s;cases s;obtain⟨v,B⟩:=D;exact⟨v,by rw[m];exact B⟩
  ·refine(A b u q).gE (λc v j r=>k c v ?_ r) (λc r=>by rw[dr (f c b r)];exact r) λc g r=>by rw[dr (p c g r)];exact r
   rcases j with rfl|j
   ·exact m
   ·rintro rfl;rcases t with z|z
    ·exact f c b j z
    ·rw[j] at z;cases z;exact l rfl
end
structure Un(fs ex:List ai)(H H':Hp)(h h':d5):Prop where
 keep:∀ b o,h.get? b=some o->H b=none->b∉fs->b∉ex->h'.get? b=some o
 slot:∀ b o,h.get? b=some o->H b=none->b∈fs->b∉ex->∃ sl,h'.get? b=some { o with slots:=sl }
 free:∀ b o,h.get? b=some o->H b=none->b∉ex->H' b=none
 there:∀ b o,h.get? b=some o->b∉ex->∃ o',h'.get? b=some o'
 kU:∀ b xs,H b=some (.tup xs)->H' b=some (.tup xs)
 FD:∀ b o u,H b=some (.wc o u)->H' b=some (.wc o u)
 Ic:∀ b ps,H b=some (.L4 ps)->∃ more,H' b=some (.L4 (ps++more))
section
variable {d f:List ai}{H i:Hp}{h g c:d5}{a x e:ai}{o:HO}
def Un.any(u:Un d f H i h g)(q:h.get? b=some C)(n:H b=none)(j:b∉f):∃ l,g.get? b=some { C with slots:=l }:=by
 by_cases k:b∈d
 ·exact u.slot b C q n k j
 ·exact⟨C.slots,u.keep b C q n k j⟩
def Un.kept(k:∀ b u,h.get? b=some u->c.get? b=some u):Un d f H H h c :=
 ⟨λb j q _ _ _=>k b j q,λb j q _ _ _=>⟨j.slots,k b j q⟩,λ_ _ _ n _=>n,λb j q _=>⟨j,k b j q⟩,λ_ _ q=>q,λ_ _ _ q=>q,λ_ l q=>⟨#[],by rw[q];simp⟩⟩
def Un.refl:Un d f H H h h:=Un.kept λ_ _ q=>q
def Un.laid(k:∀ b u,h.get? b=some u->c.get? b=some u)(m:h.objs.size<=a)(j:H a=none):Un d f H (upd H a o) h c where
 keep:=λb u q _ _ _=>k b u q
 slot:=λb u q _ _ _=>⟨u.slots,k b u q⟩
 free:=λb u q n _=>by rw[dr (gS (sN (fA q) m))];exact n
 there:=λb u q _=>⟨u,k b u q⟩
 kU:=λb l q=>by rw[dr (zI q j)];exact q
 FD:=λb u l q=>by rw[dr (zI q j)];exact q
 Ic:=λb p q=>⟨#[],by rw[dr (zI q j),q];simp⟩
def Un.write(j:Ue (H x))(w:e=x\/H e=some (.own x))(k:∀ b u,b≠e->h.get? b=some u->c.get? b=some u)(y:∃ u,c.get? e=some u):Un d f H (upd H x o) h c:=by
 have m:∀ b,H b=none->b≠x:=λb n z=>by subst z;rw[n] at j;exact j
 have p:∀ b,H b=none->b≠e:=λb n z=>by
  subst z;rcases w with r|r
  ·exact m b n r
  ·rw[n] at r;cases r
 have l:∀ b u,H b=some u->¬ Ue (some u)->b≠x:=λb u q v z=>by subst z;rw[q] at j;exact v j
 refine⟨λb u q n _ _=>k b u (p b n) q,λb u q n _ _=>⟨u.slots,k b u (p b n) q⟩,λb u q n _=>by rw[dr (m b n)];exact n,λb u q _=>?_,
  λb t q=>by rw[dr (l b _ q λz=>z)];exact q,λb u t q=>by rw[dr (l b _ q λz=>z)];exact q,λb A q=>⟨#[],by rw[dr (l b _ q λz=>z),q];simp⟩⟩
 by_cases s:b=e
 ·subst s;exact y
 ·exact⟨u,k b u s q⟩
end
def V4(h:d5)(H:Hp):List ai:=(List.range h.objs.size).filter λa=>(H a).isSome
def FE(h:d5)(H:Hp):d5:=PySem.W.hideAll h (V4 h H)
def hJ'(h:d5)(H:Hp):(FE h H).objs.size=h.objs.size:=PySem.W.hideAll_size _ _
def hK'(e:h.get? b=some o)(n:H b=none):(FE h H).get? b=some o :=
 PySem.W.hideAll_get _ e λa=>by have q:(H b).isSome=true:=(DZ.mp a).2;rw[n] at q;simp at q
def hL'(e:(FE h H).get? b=some o):h.get? b=some o/\H b=none:=by
 have a:h.get? b=some o:=PySem.W.of_hideAll (V4 h H) e;refine⟨a,?_⟩
 cases q:H b with
 |none=>rfl
 |some x =>have c:b∈V4 h H:=DZ.mpr ⟨vF.mpr (fA a),by simp[q]⟩;have z:(FE h H).get? b=none:=PySem.W.hideAll_none (V4 h H) c;rw[z] at e;cases e
structure Mod(K:ay)(mg:Str->Option ah)(base:d5):Prop where
 V5:K.In base
 glob:base.Ns iP mg
 blt:∃ mb,base.Ns builtinsNs mb/\∀ x:Str,x ≠ "__name__"->mb x=mN x
 nolimit:base.NoLimit
structure Cx where
 prog:cy
 w:c9
 K:ay
 mg:Str->Option ah
 base:d5
 A:fz
 N:List Str
 mP:aI
 Ug:Hp
 env:Env
 outer:List Env
 stack:List Env
 ex:List ai
 fn:Str->Bool
 calm:Bool
 pn:List (ai × Obj)
 xe:ah->aI->Prop
abbrev aR(X:Cx)(e:Expr)(a:List Expr):Prop:=fN (e :: a) X.env=(false,dn e X.env) :: fN a X.env
abbrev dw (x:Str):Prop:=(x == ("__debug__" : Str))=false
abbrev j8(X:Cx)(x:Str):Prop:=X.fn x=true\/X.env.scope.names.lookup x=some .local
abbrev bM(X:Cx)(p:Pos)(a:List Expr):Prop:=(ub p (fN a X.env)).any (·.1)=false
def B5(l:List Env):List ai:=l.filterMap (·.frame)
abbrev Cx.fs(X:Cx):List ai:=B5 X.outer
def V6(a:Scope)(x:Str):Prop:=a.names.lookup x=some .local\/a.names.lookup x=some .cell\/a.names.lookup x=some .free
def Loc(a:Scope)(x:Str):Prop:=a.names.lookup x=some .local\/a.names.lookup x=some .cell
def Look(a:Env)(h:d5)(m:Str->Option ah)(x:Str)(u:ah):Prop :=
 (a.kindOf x=some .local/\m x=some u)\/((a.kindOf x=some .cell\/a.kindOf x=some .free)/\∃ c,a.cells.lookup x=some c/\h.IsCell c (some u))
structure Cx.Ok(X:Cx):Prop where
 mod:Mod X.K X.mg X.base
 kind:X.env.scope.kind=.function
 glob:X.env.globals=iP
 blt:X.env.builtins=builtinsNs
 above:X.mP.heap.objs.size<=X.env.locals
 inj:∀ x y c,X.env.cells.lookup x=some c->X.env.cells.lookup y=some c->x=y
 has:∀ x,(X.env.kindOf x=some .cell\/X.env.kindOf x=some .free)->∃ c,X.env.cells.lookup x=some c
 Uh:∀ x c,X.fn x=true->X.env.cells.lookup x=some c->X.mP.heap.objs.size<=c
 hd:X.calm=true->X.A.handled=none
 frames:X.A.frames=some X.stack
 V7:X.stack=X.outer\/(X.stack=X.env :: X.outer/\X.env.frame=some X.env.locals)
 V8:∀ b∈X.ex,b≠X.env.locals/\∀ x c,X.env.cells.lookup x=some c->c≠b
 bs:∀ b o,X.base.get? b=some o->X.mP.heap.get? b=some o/\X.Ug b=none
 FG:X.base.objs.size<=X.mP.heap.objs.size
 Ui:∀ b o,X.base.get? b=some o->b∉X.ex
 Uj:∀ b∈X.ex,b∉X.fs
 A6:X.mP.heap.FunFrames X.base X.outer
 L6:∀ b∈X.fs,X.Ug b=none
structure Inv(X:Cx)(pins:List (ai × Obj))(σ:List (Option V))(H:Hp)(s:aI):Prop where
 ok:X.Ok
 os:s.os=X.mP.os
 bare:AllBare s.gens
 base:Un X.fs X.ex X.Ug H X.mP.heap s.heap
 loc:∃ m,s.heap.Ns X.env.locals m/\∀ (i:Nat) (x:Str) (v:V),X.N[i]? = some x->σ[i]? = some (some v)->V6 X.env.scope x->∃ u,RelV v u/\Look X.env s.heap m x u
 cell:∀ x c,X.env.cells.lookup x=some c->∃ v,s.heap.IsCell c v
 free:H X.env.locals=none
 B6:∀ x c,X.env.cells.lookup x=some c->H c=none
 pin:∀ p∈X.pn++pins,s.heap.get? p.1=some p.2/\H p.1=none/\p.1≠X.env.locals/\p.1∉X.fs/\∀ v,p.2.data≠.cell v
 bT:kE X.prog X.w H s.heap
 len:σ.length=X.N.length
section
variable {X:Cx}{f:List (ai × Obj)}{g:List (Option V)}{H B:Hp}{s:aI}{w:d5}
def Cx.Ok.hO'(a:X.Ok)(e:X.base.get? b=some o):b∉X.fs:=λc=>by have:=(a.A6.mem c).1;rw[e] at this;cases this
def Inv.bs(I:Inv X f g H s):∀ b o,X.base.get? b=some o->s.heap.get? b=some o/\H b=none:=λb o e =>
 ⟨I.base.keep b o (I.ok.bs b o e).1 (I.ok.bs b o e).2 (I.ok.hO' e) (I.ok.Ui b o e),I.base.free b o (I.ok.bs b o e).1 (I.ok.bs b o e).2 (I.ok.Ui b o e)⟩
def Inv.bk(I:Inv X f g H s):∀ b o,X.base.get? b=some o->s.heap.get? b=some o:=λb o e=>(I.bs b o e).1
def Inv.mod(I:Inv X f g H s):Mod X.K X.mg X.base:=I.ok.mod
def Inv.iN(I:Inv X f g H s):X.K.In s.heap:=I.ok.mod.V5.keeps I.bk
def Inv.lt(I:Inv X f g H s):X.env.locals<s.heap.objs.size:=let ⟨_,a,_⟩:=I.loc;a.lt
def Inv.sz(I:Inv X f g H s):X.mP.heap.objs.size<=s.heap.objs.size:=kD I.ok.above (D4 I.lt)
def Inv.hQ'(I:Inv X f g H s)(h:s.heap.objs.size<=a):a∉X.fs:=λc=>by obtain⟨_,o,b,_⟩:=I.ok.A6.mem c;exact absurd (sN (fA b) (kD I.sz h)) (vS _)
def Inv.L7(I:Inv X f g H s):∀ x c,X.env.cells.lookup x=some c->c≠X.env.locals:=λx c e z=>by obtain⟨v,o,a,b⟩:=I.cell x c e;obtain⟨m,⟨i,j,k,d,h,_⟩,_⟩:=I.loc;rw[z,d] at a;cases a;rw[h] at b;cases b
def Inv.A6(I:Inv X f g H s):s.heap.FunFrames X.base X.outer:=by
 have h:∀ l,(∀ b∈B5 l,b∈X.fs)->X.mP.heap.FunFrames X.base l->s.heap.FunFrames X.base l:=by
  intro l
  induction l with
  |nil=>intro _ _;trivial
  |cons u r j =>intro i p;obtain⟨q,⟨L,o,a,n,m,t⟩,k⟩:=p;have d:L∈X.fs:=i L (by unfold B5;rw[TV,a];exact eK);obtain⟨v,e⟩:=I.base.slot L o m (I.ok.L6 L d) d λz=>I.ok.Uj L z d;exact⟨q,⟨L,_,a,n,e,t⟩,j (λb c=>i b (by unfold B5;rw[TV,a];exact eI _ c)) k⟩
 exact h X.outer (λ_ c=>c) I.ok.A6
def Inv.stack(I:Inv X f g H s):s.heap.FunFrames X.base X.stack:=by
 rcases I.ok.V7 with e|⟨e,b⟩
 ·rw[e];exact I.A6
 ·rw[e];obtain⟨m,a,_⟩:=I.loc;refine .cons (by rw[I.ok.kind];decide) b a ?_ I.A6;exact Heap.get?_none_of_le (kD I.ok.FG I.ok.above)
def Inv.av'(I:Inv X f g H s):∀ b∈B5 X.stack,b∈X.env.locals :: X.fs:=λb a=>by
 rcases I.ok.V7 with e|⟨e,c⟩
 ·rw[e] at a;exact eI _ a
 ·rw[e] at a;unfold B5 at a;rw[TV,c] at a;exact a
def Inv.cY'(I:Inv X f g H s):∀ b∈B5 X.stack,H b=none:=λb a=>by
 rcases dQ.mp (I.av' b a) with e|a
 ·rw[e];exact I.free
 ·obtain⟨_,o,c,_⟩:=I.ok.A6.mem a;exact I.base.free b o c (I.ok.L6 b a) λz=>I.ok.Uj b z a
def Inv.step{Z:Array GenState}{C:Nat}{d':Drawn}{ch:List ai}(I:Inv X f g H s)(O:∀ b∈ch,(b∈X.ex\/X.mP.heap.objs.size<=b)/\b≠X.env.locals/\(∀ x c,X.env.cells.lookup x=some c->c≠b)/\∀ p∈X.pn++f,p.1≠b)(j:∀ b o,b≠X.env.locals->b∉X.fs->b∉ch->s.heap.get? b=some o->H b=none->w.get? b=some o)(D:∀ b o,b≠X.env.locals->b∈X.fs->b∉ch->s.heap.get? b=some o->H b=none->∃ R,w.get? b=some { o with slots:=R }) (h:∀ b o,b∉ch->s.heap.get? b=some o->H b=none->B b=none) (E:∀ b o,b∉ch->s.heap.get? b=some o->∃ J,w.get? b=some J) (kU:∀ b A,H b=some (.tup A)->B b=some (.tup A)) (FD:∀ b o u,H b=some (.wc o u)->B b=some (.wc o u)) (Ic:∀ b P,H b=some (.L4 P)->∃ L,B b=some (.L4 (P++L))) (U:∀ m,s.heap.Ns X.env.locals m->w.Ns X.env.locals m) (bT:kE X.prog X.w B w) (hg:AllBare Z) :
  Inv X f g B { s with heap:=w,gens:=Z,drawn:=d',toks:=C }:=by
 have K:∀ b o,X.mP.heap.get? b=some o->b≠X.env.locals:=λb o e=>gS (sN (fA e) I.ok.above);have Q:∀ b o,X.mP.heap.get? b=some o->b∉X.ex->b∉ch:=λb o e a F=>by
  rcases (O b F).1 with z|z
  ·exact a z
  ·exact absurd (sN (fA e) z) (vS _)
 have t:∀ x c,X.env.cells.lookup x=some c->∀ v,s.heap.IsCell c v->w.IsCell c v:=λx c e v dE=>by
  obtain⟨o,G,S⟩:=dE;have N:c∉ch:=λz=>(O c z).2.2.1 x c e rfl;by_cases Y:c∈X.fs
  ·obtain⟨R,q⟩:=D c o (I.L7 x c e) Y N G (I.B6 x c e);exact⟨_,q,S⟩
  ·exact⟨o,j c o (I.L7 x c e) Y N G (I.B6 x c e),S⟩
 refine⟨I.ok,I.os,hg,⟨λb o e n F a=>?_,λb o e n F a=>?_,λb o e n a=>?_,λb o e a=>?_,λb A e=>kU b A (I.base.kU b A e),λb o A e=>FD b o A (I.base.FD b o A e),λb P e=>?_⟩,?_,λx c e=>?_,?_,λx c e=>?_,λp W=>?_,bT,I.len⟩
 ·exact j b o (K b o e) F (Q b o e a) (I.base.keep b o e n F a) (I.base.free b o e n a)
 ·obtain⟨R,y⟩:=I.base.slot b o e n F a;obtain⟨V_,M⟩:=D b _ (K b o e) F (Q b o e a) y (I.base.free b o e n a);exact⟨V_,M⟩
 ·obtain⟨J,y⟩:=I.base.there b o e a;exact h b J (Q b o e a) y (I.base.free b o e n a)
 ·obtain⟨J,y⟩:=I.base.there b o e a;exact E b J (Q b o e a) y
 ·obtain⟨m1,y⟩:=I.base.Ic b P e;obtain⟨m2,M⟩:=Ic b _ y;exact⟨m1++m2,by rw[M,Array.append_assoc]⟩
 ·obtain⟨m,hn,hl⟩:=I.loc;refine⟨m,U m hn,λi x v y M e3=>?_⟩;obtain⟨u,r,l⟩:=hl i x v y M e3;refine⟨u,r,?_⟩;rcases l with l|⟨k,c,e,z⟩
  ·exact .inl l
  ·exact .inr ⟨k,c,e,t x c e _ z⟩
 ·obtain⟨v,z⟩:=I.cell x c e;exact⟨v,t x c e v z⟩
 ·obtain⟨m,⟨o,_,_,G,_⟩,_⟩:=I.loc;exact h _ o (λz=>(O _ z).2.1 rfl) G I.free
 ·obtain⟨v,o,G,S⟩:=I.cell x c e;exact h c o (λz=>(O c z).2.2.1 x c e rfl) G (I.B6 x c e)
 ·obtain⟨e,n,V,T,d⟩:=I.pin p W;have N:p.1∉ch:=λz=>(O p.1 z).2.2.2 p W rfl;exact⟨j p.1 p.2 V T N e n,h p.1 p.2 N e n,V,T,d⟩
def Inv.un{j:Nat}(I:Inv X f g H s)(u:Un X.fs [] H B s.heap w)(q:kE X.prog X.w B w):Inv X f g B { s with heap:=w,toks:=j }:=by
 obtain⟨m,⟨o,y,A,i,r⟩,_⟩:=id I.loc;obtain⟨t,p⟩:=u.any i I.free (by simp);exact I.step (ch:=[]) (λ_ z=>nomatch z) (λb o _ a _ e n=>u.keep b o e n a (by simp)) (λb o _ a _ e n=>u.slot b o e n a (by simp)) (λb o _ e n=>u.free b o e n (by simp)) (λb o _ e=>u.there b o e (by simp)) u.kU u.FD u.Ic (λx l=>by
  obtain⟨v,c,d,h,k⟩:=l;rw[i] at h;cases h;exact⟨_,c,d,p,k⟩) q I.bare
def Inv.call{l:Array GenState}{v:Nat}{F:Drawn}{q:List ai}(I:Inv X f g H s)(u:Un (B5 X.stack) q H B s.heap w)(G:kE X.prog X.w B w)(D:AllBare l)(t:∀ b∈q,(b∈X.ex\/X.mP.heap.objs.size<=b)/\b≠X.env.locals/\(∀ x c,X.env.cells.lookup x=some c->c≠b)/\∀ p∈X.pn++f,p.1≠b) :
  Inv X f g B { s with heap:=w,gens:=l,drawn:=F,toks:=v }:=by
 obtain⟨m,⟨o,M,N,k,r⟩,_⟩:=id I.loc;obtain⟨J,d⟩:=u.any k I.free λz=>(t _ z).2.1 rfl;exact I.step t (λb o d E a e n=>u.keep b o e n (λz=>(dQ.mp (I.av' b z)).elim d E) a) (λb o _ _ a e n=>u.any e n a) (λb o a e n=>u.free b o e n a) (λb o a e=>u.there b o e a) u.kU u.FD u.Ic (λL A=>by
  obtain⟨K,h,i,j,y⟩:=A;rw[k] at j;cases j;exact⟨_,h,i,d,y⟩) G D
def Inv.turned{t':Nat}{a:ai}(I:Inv X f g H s)(k:∀ b o,b≠a->s.heap.get? b=some o->w.get? b=some o)(l:H a=none)(h:a≠X.env.locals)(E:a∈X.ex\/X.mP.heap.objs.size<=a) (D:∀ x c,X.env.cells.lookup x=some c->c≠a) (A:∀ p∈X.pn++f,p.1≠a):Inv X f g H { s with heap:=w,toks:=t' }:=by
 have i:∀ b u,H b=some u->b≠a:=λb u e z=>by rw[z,l] at e;cases e
 refine I.step (ch:=[a]) (λb y=>?_) (λb o _ _ d e _=>k b o (λz=>d (by simp[z])) e) (λb o _ _ d e _=>⟨o.slots,k b o (λz=>d (by simp[z])) e⟩) (λ_ _ _ _ n=>n) (λb o d e=>⟨o,k b o (λz=>d (by simp[z])) e⟩) (λ_ _ e=>e) (λ_ _ _ e=>e) (λb J e=>⟨#[],by rw[e];simp⟩) (λm t=>?_) (λb u e=>?_) I.bare
 ·have e:b=a:=by simpa using y
  subst e;exact⟨E,h,D,A⟩
 ·obtain⟨o,F,G,j,r⟩:=t;exact⟨o,F,G,k _ o (Ne.symm h) j,r⟩
 ·refine(I.bT b u e).gE (λc v d q=>k c v ?_ q) (λ_ q=>q) λ_ _ q=>q;rcases d with z|z
  ·rw[z];exact i b u e
  ·exact i c _ z
def Inv.tok(I:Inv X f g H s)(t:Nat):Inv X f g H { s with toks:=t }:=I.un Un.refl I.bT
def Inv.kept(I:Inv X f g H s)(k:∀ b u,s.heap.get? b=some u->w.get? b=some u):Inv X f g H { s with heap:=w,toks:=t' }:=I.un (Un.kept k) (I.bT.kept k)
def Inv.laid(I:Inv X f g H s)(k:∀ b u,s.heap.get? b=some u->w.get? b=some u)(d:s.heap.objs.size<=a)(c:n4 X.prog X.w (upd H a o) w a o) :
  Inv X f g (upd H a o) { s with heap:=w,toks:=t' }:=I.un (Un.laid k d (I.bT.fresh d)) (I.bT.laid k d c)
def Inv.write(I:Inv X f g H s)(c:Ue (H x))(d:e=x\/H e=some (.own x))(k:∀ b u,b≠e->s.heap.get? b=some u->w.get? b=some u)(h:∃ u,w.get? e=some u)(a:n4 X.prog X.w (upd H x o) w x o):Inv X f g (upd H x o) { s with heap:=w,toks:=C }:=I.un (Un.write c d k h) (I.bT.write c d k h a)
def Inv.da'(I:Inv X f g H s)(h:∀ p∈o,s.heap.get? p.1=some p.2/\H p.1=none/\p.1≠X.env.locals/\p.1∉X.fs/\∀ v,p.2.data≠.cell v):Inv X o g H s :=
 ⟨I.ok,I.os,I.bare,I.base,I.loc,I.cell,I.free,I.B6,λp a=>(kA.mp a).elim (λz=>I.pin p (sL _ z)) (h p),I.bT,I.len⟩
def db'{N:List Str}(c:N.Nodup){i j:Nat}{x:Str}(a:N[i]? = some x)(b:N[j]? = some x):i=j:=by obtain⟨k,e⟩:=k7.mp a;obtain⟨h,d⟩:=k7.mp b;exact(xeh c).mp (e.trans d.symm)
def dc'{M:Model}{A:fz}{E:ah->aI->Prop}{i:Nat}{x:Str}{v:V}{u:ah}{Q:Unit->aI->Prop}(I:Inv X f g H s)(hN:X.N.Nodup)(P:X.N[i]? = some x)(G:Loc X.env.scope x)(r:RelV v u)(h:∀ s',Inv X f (g.set i (some v)) H s'->(∃ a,Heap.SameBut a s.heap s'.heap/\(a=X.env.locals\/X.env.cells.lookup x=some a))->Q () s') (hf:autoParam (j8 X x) u'):bq M A (storeName X.env x u) Q E s:=by
 obtain⟨m,hn,hl⟩:=id I.loc;have ae:(X.env.scope.kind == .class || (X.env.scope.kind == .module && X.env.locals != X.env.globals))=false:=by rw[I.ok.kind];rfl
 have S:i<g.length:=by rw[I.len];exact(k7.mp P).1
 have L7:=I.L7;have t:∀ {a:ai} {w:d5},(∃ o,s.heap.get? a=some o/\H a=none)->Heap.SameBut a s.heap w->kE X.prog X.w H w:=λ{a w} ha l b ob e=>by
  obtain⟨_,_,R⟩:=ha;refine(I.bT b ob e).gE (λc T F q=>(l.2 c ?_).trans q) (λ_ q=>q) λ_ _ q=>q;rintro rfl;rcases F with rfl|F
  ·rw[R] at e;cases e
  ·rw[R] at F;cases F
 rcases G with K|K
 ·refine wpAny_storeName_local K hn (λw Iy l=>?_) ae;obtain⟨oL,_,_,Um,_⟩:=id hn;refine h _ ⟨I.ok,I.os,I.bare,⟨λb o e n O G=>?_,λb o e n O G=>?_,I.base.free,λb o e G=>?_,I.base.kU,I.base.FD,I.base.Ic⟩,⟨_,Iy,λj y Z D J e3=>?_⟩,λy c e=>?_,I.free,I.B6,λp hp=>?_,t ⟨oL,Um,I.free⟩ l,by simpa using I.len⟩ ⟨_,l,.inl rfl⟩
  ·exact(l.2 b (gS (sN (fA e) I.ok.above))).trans (I.base.keep b o e n O G)
  ·obtain⟨U,D⟩:=I.base.slot b o e n O G;exact⟨U,(l.2 b (gS (sN (fA e) I.ok.above))).trans D⟩
  ·obtain⟨o',D⟩:=I.base.there b o e G;exact⟨o',(l.2 b (gS (sN (fA e) I.ok.above))).trans D⟩
  ·by_cases L:j=i
   ·subst L;rw[P] at D;cases D;rw[List.getElem?_set_self S] at J;cases J;exact⟨u,r,.inl ⟨K,by simp⟩⟩
   ·rw[Z_ (Ne.symm L)] at J;obtain⟨C,r',q⟩:=hl j y Z D J e3;refine⟨C,r',?_⟩;rcases q with⟨k,e⟩|⟨k,c,e,z⟩
    ·refine .inl ⟨k,?_⟩;have:y≠x:=λe=>L (db' hN D (e ▸ P));simp[this,e]
    ·exact .inr ⟨k,c,e,z.sameBut l (L7 y c e)⟩
  ·obtain⟨T,z⟩:=I.cell y c e;exact⟨T,z.sameBut l (L7 y c e)⟩
  ·obtain⟨e,n,W,nf,d⟩:=I.pin p hp;exact⟨(l.2 p.1 W).trans e,n,W,nf,d⟩
 ·have N:X.fn x=true:=by
   rcases hf with z|z
   ·exact z
   ·rw[z] at K;cases K
  obtain⟨c,F⟩:=I.ok.has x (.inl K);obtain⟨T,z⟩:=I.cell x c F;refine wpAny_storeName_cell I.ok.kind K F z (λw L8 l=>?_);obtain⟨oc,Rl,ab⟩:=id z;refine h { s with heap:=w } ⟨I.ok,I.os,I.bare,⟨λb o e n O G=>?_,λb o e n O G=>?_,I.base.free,λb o e G=>?_,I.base.kU,I.base.FD,I.base.Ic⟩,⟨m,hn.sameBut l (Ne.symm (L7 x c F)),λj y Z D J e3=>?_⟩,λy Y e=>?_,I.free,I.B6,λp hp=>?_,t ⟨oc,Rl,I.B6 x c F⟩ l,by simpa using I.len⟩ ⟨c,l,.inr F⟩
  ·exact(l.2 b (gS (sN (fA e) (I.ok.Uh x c N F)))).trans (I.base.keep b o e n O G)
  ·obtain⟨U,D⟩:=I.base.slot b o e n O G;exact⟨U,(l.2 b (gS (sN (fA e) (I.ok.Uh x c N F)))).trans D⟩
  ·obtain⟨o',D⟩:=I.base.there b o e G;exact⟨o',(l.2 b (gS (sN (fA e) (I.ok.Uh x c N F)))).trans D⟩
  ·by_cases L:j=i
   ·subst L;rw[P] at D;cases D;rw[List.getElem?_set_self S] at J;cases J;exact⟨u,r,.inr ⟨.inl K,c,F,L8⟩⟩
   ·rw[Z_ (Ne.symm L)] at J;obtain⟨C,r',q⟩:=hl j y Z D J e3;refine⟨C,r',?_⟩;rcases q with q|⟨k,Y,e,z'⟩
    ·exact .inl q
    ·refine .inr ⟨k,Y,e,z'.sameBut l ?_⟩;rintro rfl;exact L (db' hN D (I.ok.inj _ _ _ e F ▸ P))
  ·by_cases Wa:Y=c
   ·subst Wa;exact⟨_,L8⟩
   ·obtain⟨w2,z2⟩:=I.cell y Y e;exact⟨w2,z2.sameBut l Wa⟩
  ·obtain⟨e,n,W,nf,d⟩:=I.pin p hp;refine⟨(l.2 p.1 ?_).trans e,n,W,nf,d⟩;intro q;rw[q,Rl] at e;have q':oc=p.2:=Option.some.inj e;exact d T (by rw[<- q'];exact ab)
def dg'(I:Inv X f g H s)(e:X.N.Nodup)(c:X.N[i]? = some x)(b:Loc X.env.scope x)(r:RelV v u)(h:∀ a,Inv X f (g.set i (some v)) H a->Q () a) (d:autoParam (j8 X x) u'):bq M A (storeName X.env x u) Q E s :=
 dc' I e c b r (λa j _=>h a j) d
def Inv.hV'(I:Inv X f g H s)(d:o.os=s.os)(u:Un (B5 X.stack) C H B s.heap o.heap)(i:kE X.prog X.w B o.heap)(h:AllBare o.gens)(j:∀ b∈C,(b∈X.ex\/X.mP.heap.objs.size<=b)/\b≠X.env.locals/\(∀ x c,X.env.cells.lookup x=some c->c≠b)/\∀ p∈X.pn++f,p.1≠b):Inv X f g B o:=by
 obtain⟨w,l,m,k,a⟩:=o;have e:a=s.os:=d;subst e;exact I.call u i h j
end
abbrev XK:=ah->Option ai->Hp->Prop
abbrev St:=List (Option V)
abbrev VK:=V->Hp->Prop
abbrev TE:=St->Hp->VK->Prop
abbrev TT:=St->Hp->(Bool->Hp->Prop)->Prop
abbrev TA:=St->Hp->(List V->Hp->Prop)->Prop
structure Ends where
 nx:St->Hp->Prop
 rt:VK
 bk:St->Hp->Prop:=fun _ _=>False
 ct:St->Hp->Prop:=fun _ _=>False
abbrev TS:=Ends->St->Hp->Prop
def EP(X:Cx)(a:List (ai × Obj))(c:St)(Q:VK)(u:ah)(d:aI):Prop:=∃ v b,Inv X a c b d/\RelV v u/\Q v b
def TP(X:Cx)(a:List (ai × Obj))(d:St)(Q:Bool->Hp->Prop)(b:Bool)(e:aI):Prop:=∃ c,Inv X a d c e/\Q b c
def AP(X:Cx)(a:List (ai × Obj))(d:St)(Q:List V->Hp->Prop)(e:List ah)(f:aI):Prop:=∃ b c,Inv X a d c f/\Vals b e/\Q b c
def SP(X:Cx)(a:List (ai × Obj))(D:Ends)(f:Flow)(d:aI):Prop :=
 match f with
 |.next=>∃ c b,Inv X a c b d/\D.nx c b
 |.brk=>∃ c b,Inv X a c b d/\D.bk c b
 |.cont=>∃ c b,Inv X a c b d/\D.ct c b
 |.ret u=>∃ v c b,Inv X a c b d/\RelV v u/\D.rt v b
def PE(X:Cx)(e:Expr)(t:TE):Prop :=
 ∀ a s b H Q,Inv X a b H s->t b H Q->bq (aE X.prog X.w) X.A (dn e X.env) (EP X a b Q) X.xe s
def PT(X:Cx)(e:Expr)(t:TT):Prop :=
 ∀ a s b H Q,Inv X a b H s->t b H Q->bq (aE X.prog X.w) X.A (isTrue e X.env (dn e X.env)) (TP X a b Q) X.xe s
def PW(X:Cx)(e:Expr)(t:TT):Prop :=
 ∀ b a s c H Q,Inv X a c H s->t c H Q->bq (aE X.prog X.w) X.A (isTrue e X.env b) (TP X a c Q) X.xe s
def PA(X:Cx)(d:List Expr)(t:TA):Prop :=
 ∀ c a s b H Q,Inv X a b H s->t b H Q->bq (aE X.prog X.w) X.A (spliced (ub c (fN d X.env))) (AP X a b Q) X.xe s
def PS(X:Cx)(c:kf)(t:TS):Prop :=
 ∀ a s b H D,Inv X a b H s->t D b H->bq (aE X.prog X.w) X.A (exec c X.env) (SP X a D) X.xe s
def nh(X:Cx)(c:List kf)(t:TS):Prop :=
 ∀ a s b H D,Inv X a b H s->t D b H->bq (aE X.prog X.w) X.A (execs c X.env) (SP X a D) X.xe s
def cK{b:Type}{t:Sem b}{Q c:b->aI->Prop}{M:Model}{A:fz}{E:ah->aI->Prop}{s:aI}(h:bq M A t Q E s)(d:∀ a s,Q a s->c a s):bq M A t c E s:=ua h d λ_ _ x=>x
section
variable {X:Cx}
def kr(i:Nat):TE:=λa H Q=>∃ v,a[i]? = some (some v)/\Q v H
def tC(v:V):TE:=λ_ H Q=>Q v H
def Uo (y:X.N[i]? = some x) (p:V6 X.env.scope x) (g:autoParam (dw x) tw) (n:autoParam ((x == ("__classdict__" : Str))=false) tw):PE X (.Name x o) (kr i):=by
 intro d s k H Q I h;obtain⟨v,e,h⟩:=h;obtain⟨m,q,w⟩:=I.loc;obtain⟨u,r,l⟩:=w i x v y e p;have b:EP X d k Q u s:=⟨v,H,I,r,h⟩
 rcases l with⟨a,t⟩|⟨a,c,j,f⟩
 ·exact wpAny_Name (wpAny_loadName_local I.ok.kind a q t b) g
 ·rcases a with a|a
  ·exact wpAny_Name (wpAny_loadName_cell I.ok.kind a j f b) g
  ·exact wpAny_Name (wpAny_loadName_free I.ok.kind a j f b n) g
def hW'{i j a}:PE X (.Constant (.int i) j a) (tC (.int i)):=λ_ _ _ H _ I h=>wpAny_Constant_int ⟨.int i,H,I.tok _,⟨_,rfl⟩,h⟩
def hX'{b j a}:PE X (.Constant (.bool b) j a) (tC (.bl b)):=λ_ _ _ H _ I h=>Constant_bool ⟨.bl b,H,I,rfl,h⟩
def hY'{j a}:PE X (.Constant .none j a) (tC .non):=λ_ _ _ H _ I h=>Constant_none ⟨.non,H,I,rfl,h⟩
def hZ'{x j a}:PE X (.Constant (.str x) j a) (tC (.str x)):=λ_ _ _ H _ I h=>Calls.Constant_str ⟨.str x,H,I.tok _,⟨_,rfl⟩,h⟩
def Gl(X:Cx)(x:Str):Prop:=X.env.kindOf x=some .globalImplicit
def Wb(I:Inv X o U H s)(b:Gl X x)(a:X.mg x=some u)(h:Q u s)(c:autoParam (dw x) tw):bq (aE X.prog X.w) X.A (dn (.Name x C) X.env) Q E s :=
 Calls.Name_function_global I.ok.kind b (Calls.loadGlobal_global (by rw[I.ok.glob];exact I.mod.glob.keeps I.bk) a h) c
def B7(I:Inv X o U H s)(d:Gl X x)(c:X.mg x=none)(a:mN x=some u)(h:Q u s)(b:x ≠ "__name__" := by decide) (e:autoParam (dw x) tw):bq (aE X.prog X.w) X.A (dn (.Name x C) X.env) Q E s:=by
 obtain⟨i,g,f⟩:=I.mod.blt;exact Calls.Name_function_global I.ok.kind d (Calls.loadGlobal_builtin (by rw[I.ok.glob];exact I.mod.glob.keeps I.bk) c (by rw[I.ok.blt];exact g.keeps I.bk) ((f x b).trans a) h) e
def di'(b:Gl X x)(a:X.mg x=some u)(r:RelV v u)(c:autoParam (dw x) tw):PE X (.Name x o) (tC v) :=
 λ_ _ _ H _ I h=>Wb I b a ⟨v,H,I,r,h⟩ c
def ic' (d:Gl X x) (c:X.mg x=none) (a:mN x=some u) (r:RelV v u) (b:x ≠ "__name__" := by decide) (e:autoParam (dw x) tw):PE X (.Name x o) (tC v) :=
 λ_ _ _ H _ I h=>B7 I d c a ⟨v,H,I,r,h⟩ b e
variable {a b:Expr}{i j:TE}{f:Pos}
def PC(X:Cx)(g:CmpOp)(a b:Expr)(t:TE):Prop :=
 ∀ c s d H Q,Inv X c d H s->t d H Q ->
  bq (aE X.prog X.w) X.A (dn a X.env) (λv h=>bq (aE X.prog X.w) X.A (dn b X.env) (λu e=>bq (aE X.prog X.w) X.A (iX g v u) (EP X c d Q) X.xe e) X.xe h) X.xe s
def tB(t:TE):TT:=λd H Q=>t d H λx e=>∃ c,x=.bl c/\Q c e
def ie'(h:PC X o a b t)(g:HG o b=false:=by first|exact rZ' _ (by decide) (by decide)|rfl):PT X (.Compare a [o] [b] f) (tB t):=by intro e s k H Q I n;refine wpAny_isTrue_Compare1 (cK (h e s k H _ I n) λv B g=>cK g λu A p=>cK p λc z r=>L2.eM r λx y w l m=>?_) g;obtain⟨d,rfl,q⟩:=m;cases l;exact AZ ⟨y,w,q⟩
def ig'(h:PE X e t)(p:autoParam (∀ c,isTrue e X.env c=(do let v <- c;standAt e.pos;holding [v] (truthy v))) vw):PT X e (tB t):=by intro g s k H Q I n;refine isTrue_plain (cK (h g s k H _ I n) λv y r=>L2.eM r λx w u l m=>?_) (p _);obtain⟨d,rfl,q⟩:=m;cases l;exact AZ ⟨w,u,q⟩
variable {k l:TT}{g:List Expr}
def ih'(t u:TT):TT:=λd H Q=>t d H λc e=>if c=true then u d e Q else Q false e
def tOr(t u:TT):TT:=λd H Q=>t d H λc e=>if c=true then Q true e else u d e Q
def ij'(t:TT):TT:=λd H Q=>t d H λc e=>Q (!c) e
def pw_and1(n:PT X a k):PW X (.BoolOp .And [a] f) k:=by
 intro p d s m H Q I h;refine isTrue_and (cK (n d s m H Q I h) λc q e=>?_)
 cases c with
 |true=>exact isTrue_and_nil e
 |false=>exact e
def pw_or1(n:PT X a k):PW X (.BoolOp .Or [a] f) k:=by
 intro p d s m H Q I h;refine isTrue_or (cK (n d s m H Q I h) λc q e=>?_)
 cases c with
 |false=>exact isTrue_or_nil e
 |true=>exact e
def pw_and(u:PT X a k)(t:PW X (.BoolOp .And (b :: g) f) l):PW X (.BoolOp .And (a :: b :: g) f) (ih' k l):=by
 intro q d s e H Q I h;refine isTrue_and (cK (u d s e H _ I h) λc r v=>?_);obtain⟨p,n,m⟩:=v
 cases c with
 |true=>exact t q d r e p Q n m
 |false=>exact⟨p,n,m⟩
def pw_or(u:PT X a k)(t:PW X (.BoolOp .Or (b :: g) f) l):PW X (.BoolOp .Or (a :: b :: g) f) (tOr k l):=by
 intro q d s e H Q I h;refine isTrue_or (cK (u d s e H _ I h) λc r v=>?_);obtain⟨p,n,m⟩:=v
 cases c with
 |true=>exact⟨p,n,m⟩
 |false=>exact t q d r e p Q n m
def ik'(m:PT X a k):PT X (.UnaryOp .Not a f) (ij' k):=by intro d s e H Q I h;exact isTrue_not (m d s e H (λc n=>Q (!c) n) I h)
def il'(i j:TE):TE:=λd H Q=>i d H λx e=>∃ c,x=.bl c/\if c=true then j d e Q else Q (.bl false) e
def im'(i j:TE):TE:=λd H Q=>i d H λx e=>∃ c,x=.bl c/\if c=true then Q (.bl true) e else j d e Q
def io'(i:TE):TE:=λd H Q=>i d H λx e=>∃ c,x=.bl c/\Q (.bl (!c)) e
def ip'{e}(h:PE X a t):PE X (.BoolOp e [a] f) t:=λc s d H Q I m=>BoolOp_one (h c s d H Q I m)
def iq'(u:PE X a i)(t:PE X (.BoolOp .And (b :: g) f) j):PE X (.BoolOp .And (a :: b :: g) f) (il' i j):=by
 intro d s m H Q I h;refine BoolOp_and (cK (u d s m H _ I h) λv q w=>L2.eM w λx p n r e=>?_);obtain⟨c,rfl,e⟩:=e;cases r;refine AZ ?_
 cases c with
 |true=>exact t d q m p Q n e
 |false=>exact⟨.bl false,p,n,rfl,e⟩
def ir'(u:PE X a i)(t:PE X (.BoolOp .Or (b :: g) f) j):PE X (.BoolOp .Or (a :: b :: g) f) (im' i j):=by
 intro d s m H Q I h;refine BoolOp_or (cK (u d s m H _ I h) λv q w=>L2.eM w λx p n r e=>?_);obtain⟨c,rfl,e⟩:=e;cases r;refine AZ ?_
 cases c with
 |false=>exact t d q m p Q n e
 |true=>exact⟨.bl true,p,n,rfl,e⟩
def is'(p:PE X a i):PE X (.UnaryOp .Not a f) (io' i):=by intro d s m H Q I h;refine UnaryOp_ (cK (p d s m H _ I h) λv u q=>L2.eM q λx t r n e=>?_);obtain⟨c,rfl,e⟩:=e;cases n;exact not_of (AZ ⟨.bl (!c),t,r,rfl,e⟩)
def tIf(t:TT)(i j:TE):TE:=λd H Q=>t d H λc e=>if c=true then i d e Q else j d e Q
def iu'(t:PT X c k)(v:PE X a i)(u:PE X b j):PE X (.IfExp c a b f) (tIf k i j):=by
 intro e s m H Q I h;refine wpAny_IfExp (cK (t e s m H _ I h) λd n w=>?_);obtain⟨r,q,p⟩:=w
 cases d with
 |true=>exact v e n m r Q q p
 |false=>exact u e n m r Q q p
end
def eP(K:ay)(H:Hp)(a:ai)(c:List V):Prop :=
 Rd H a (.lst c) \/
  ∃ (o:Obj) (b:Array ah) (n:Nat),K.lookup a=some o/\o.cls=.type "list"/\o.dict=none/\o.data=.seq b n/\b.size<=bG/\Vals c b.toList
def kN(K:ay)(H:Hp)(a:ai)(c:List V):Prop :=
 Rd H a (.tup c) \/
  ∃ (o:Obj) (b:Array ah) (n:Nat),K.lookup a=some o/\o.cls=.type "tuple"/\o.data=.seq b n/\b.size<=bG/\Vals c b.toList
def iw':ah->Option V
 |.none=>some .non
 |.bool b=>some (.bl b)
 |.int i _=>some (.int i)
 |.str x _=>some (.str x)
 |.bytes b _=>some (.v3 b)
 |.float b _=>some (.B4 b)
 |.ref a=>some (.ref a)
 |.type n=>some (.ty n)
 |_=>none
def RelV.abs(r:RelV x u):iw' u=some x:=by
 cases x with
 |non=>cases r;rfl
 |bl _=>cases r;rfl
 |int _=>obtain⟨t,rfl⟩:=r;rfl
 |str _=>obtain⟨t,rfl⟩:=r;rfl
 |v3 _=>obtain⟨t,rfl⟩:=r;rfl
 |B4 _=>obtain⟨t,rfl⟩:=r;rfl
 |ref _=>cases r;rfl
 |ty _=>cases r;rfl
def RelV.inj(r:RelV x u)(q:RelV y u):x=y:=Option.some.inj (r.abs.symm.trans q.abs)
def Vals.inj{b a:List V}{c:List ah}(h:Vals b c):Vals a c->b=a:=by
 induction h generalizing a with
 |nil=>intro h;cases h;rfl
 |cons r _ d=>intro h;cases h with|cons q t=>rw[r.inj q,d t]
section
variable {X:Cx}{b:List (ai × Obj)}{c:St}{H:Hp}{s:aI}{a:ai}{xs f:List V}
def eP.of{K:ay}(h:H a=some (.lst xs)):eP K H a xs:=.inl (.inl h)
def kN.of{K:ay}(h:H a=some (.tup xs)):kN K H a xs:=.inl (.inl h)
def Inv.list(I:Inv X b c H s)(h:eP X.K H a xs):∃ d:List ah,Vals xs d/\PlainL s.heap a d.toArray/\xs.length<=bG:=by
 rcases h with h|⟨o,d,n,i,k,j,g,l,r⟩
 ·obtain⟨z,d,n,r,e⟩:=h.ok I.bT;exact⟨d,r,⟨_,n,e,rfl,rfl,rfl⟩,z⟩
 ·refine⟨d.toList,r,⟨o,n,I.iN a o i,k,j,by simpa using g⟩,?_⟩;have e:=r.length;simp only[A4] at e;lia
def Inv.tuple(I:Inv X b c H s)(h:kN X.K H a xs):∃ d:List ah,Vals xs d/\IsTup s.heap a d.toArray/\xs.length<=bG:=by
 rcases h with h|⟨o,d,n,i,j,g,k,r⟩
 ·obtain⟨z,d,r,p⟩:=h.ok I.bT;exact⟨d,r,p,z⟩
 ·refine⟨d.toList,r,⟨o,I.iN a o i,j,n,by simpa using g⟩,?_⟩;have e:=r.length;simp only[A4] at e;lia
def Inv.az'(I:Inv X b c H s)(h:eP X.K H a xs)(l:eP X.K H a f):xs=f:=by
 obtain⟨g,r,⟨o,n,e,_,_,d⟩,_⟩:=I.list h;obtain⟨m,k,⟨p,q,i,_,_,j⟩,_⟩:=I.list l;rw[e] at i;cases i;rw[d] at j;injection j with d1 _;have:g=m:=by simpa using congrArg Array.toList d1
 subst this;exact r.inj k
def Inv.ix'(I:Inv X b c H s)(h:kN X.K H a xs)(l:kN X.K H a f):xs=f:=by
 obtain⟨g,r,⟨o,e,_,n,d⟩,_⟩:=I.tuple h;obtain⟨m,k,⟨p,i,_,q,j⟩,_⟩:=I.tuple l;rw[e] at i;cases i;rw[d] at j;injection j with d1 _;have:g=m:=by simpa using congrArg Array.toList d1
 subst this;exact r.inj k
end
abbrev Cx.wish(X:Cx)(E:ah->aI->Prop):Cx:={ X with xe:=E }
abbrev Cx.uS(X:Cx):Cx:=X.wish λ_ _=>False
def Cx.Ok.wish{X:Cx}(a:X.Ok)(E:ah->aI->Prop):(X.wish E).Ok :=
 ⟨a.mod,a.kind,a.glob,a.blt,a.above,a.inj,a.has,a.Uh,a.hd,a.frames,a.V7,a.V8,a.bs,a.FG,a.Ui,a.Uj,a.A6,a.L6⟩
def Cx.Ok.IA{X:Cx}(a:(X.wish E).Ok):X.Ok :=
 ⟨a.mod,a.kind,a.glob,a.blt,a.above,a.inj,a.has,a.Uh,a.hd,a.frames,a.V7,a.V8,a.bs,a.FG,a.Ui,a.Uj,a.A6,a.L6⟩
section
variable {X:Cx}{a:List (ai × Obj)}{b:St}{H:Hp}{s:aI}{E:ah->aI->Prop}
def Inv.wish(I:Inv X a b H s)(E:ah->aI->Prop):Inv (X.wish E) a b H s:=⟨I.ok.wish E,I.os,I.bare,I.base,I.loc,I.cell,I.free,I.B6,I.pin,I.bT,I.len⟩
def Inv.IA(I:Inv (X.wish E) a b H s):Inv X a b H s:=⟨I.ok.IA,I.os,I.bare,I.base,I.loc,I.cell,I.free,I.B6,I.pin,I.bT,I.len⟩
def SP.IA{D:Ends}(h:SP (X.wish E) a D f o):SP X a D f o:=by
 cases f with
 |next=>obtain⟨c,d,I,q⟩:=h;exact⟨c,d,I.IA,q⟩
 |brk=>obtain⟨c,d,I,q⟩:=h;exact⟨c,d,I.IA,q⟩
 |cont=>obtain⟨c,d,I,q⟩:=h;exact⟨c,d,I.IA,q⟩
 |ret u=>obtain⟨v,c,d,I,r,q⟩:=h;exact⟨v,c,d,I.IA,r,q⟩
def nh.uS{c:List kf}(h:nh X.uS c t):nh X c t:=λa s b H D I d =>
 ua (h a s b H D (I.wish _) d) (λ_ _ q=>q.IA) λ_ _ z=>False.elim z
end
section
variable {X:Cx}{k:kf}{j:List kf}{t u:TS}{e:Expr}{i:TE}{g:Pos}
def dj':TS:=λD a H=>D.nx a H
def Uq(t u:TS):TS:=λD a H=>t { D with nx:=u D } a H
def dk':nh X [] dj':=λ_ _ a H _ I h=>wpAny_execs_nil ⟨a,H,I,h⟩
def Wd(l:PS X k t)(d:nh X j u):nh X (k :: j) (Uq t u):=by
 intro a s b H D I h;refine wpAny_execs_cons (cK (l a s b H { D with nx:=u D } I h) λf c q=>?_)
 cases f with
 |next =>obtain⟨m,p,n,q⟩:=q;exact d a c m p D n q
 |ret v=>exact q
 |brk=>exact q
 |cont=>exact q
def Wg(c:PS X k t):nh X [k] t:=by
 intro a s b H D I h;refine wpAny_execs_cons (cK (c a s b H D I h) λf d q=>?_)
 cases f with
 |next=>exact wpAny_execs_nil q
 |ret v=>exact q
 |brk=>exact q
 |cont=>exact q
def iy':TS:=λD a H=>D.ct a H
def iz':PS X (.Continue g) iy':=λ_ _ a H _ I h=>wpAny_Continue ⟨a,H,I,h⟩
def Inv.quiet(I:Inv X o C H s):interactive X.env=false:=by simp[interactive,I.ok.kind]
def dl'(i:TE):TS:=λD a H=>i a H λ_ b=>D.nx a b
def Mb(f:PE X e i)(d:autoParam (nL e none g.line X.env=pure false) bv):PS X (.Expr e g) (dl' i):=by intro a s b H D I h;exact wpAny_Expr_any (cK (f a s b H _ I h) λv p l=>L2.eM l λx n m q c=>⟨b,n,m,c⟩) I.quiet d
def Wh(i:TE):TS:=λD a H=>i a H D.rt
def RA(f:PE X e i):PS X (.Return (some e) g) (Wh i):=by intro a s b H D I h;exact wpAny_Return_some (cK (f a s b H _ I h) λv p l=>L2.eM l λx n m c d=>⟨x,b,n,m,c,d⟩)
def dm'(c:TT)(t u:TS):TS:=λD a H=>c a H λb d=>if b=true then t D a d else u D a d
def dn'(r:PT X c o)(w:nh X a t)(v:nh X b u):PS X (.If c a b g) (dm' o t u):=by
 intro f s l H D I h;refine wpAny_If (cK (r f s l H _ I h) λd m x=>?_);obtain⟨q,p,n⟩:=x
 cases d with
 |true=>exact w f m l q D p n
 |false=>exact v f m l q D p n
def dp':TS:=λ_ _ _=>False
def iA':PS X k dp':=λ_ _ _ _ _ _ h=>h.elim
def iB':nh X o dp':=λ_ _ _ _ _ _ h=>h.elim
end
abbrev TG:=V->St->Hp->(St->Hp->Prop)->Prop
abbrev RH:=List V->St->Hp->(St->Hp->Prop)->Prop
def PG(X:Cx)(a:Expr)(t:TG):Prop :=
 ∀ b s c H v u Q,Inv X b c H s->RelV v u->t v c H Q ->
  bq (aE X.prog X.w) X.A (assign a X.env u) (λ_ f=>∃ d e,Inv X b d e f/\Q d e) X.xe s
def D9(X:Cx)(g:List Expr)(t:RH):Prop :=
 ∀ a s b H c d Q,Inv X a b H s->Vals c d->t c b H Q ->
  bq (aE X.prog X.w) X.A (assignInOrder ((Fh g X.env).map (·.2)) d) (λ_ h=>∃ e f,Inv X a e f h/\Q e f) X.xe s
section
variable {X:Cx}{d:Pos}
def aA'(i:Nat):TG:=λv a H Q=>Q (a.set i (some v)) H
def iC'(f:X.N.Nodup)(c:X.N[i]? = some x)(b:Loc X.env.scope x)(e:autoParam (j8 X x) u'):PG X (.Name x d) (aA' i):=by intro a s j H v u Q I r h;exact wpAny_assign_Name (dg' I f c b r (λk g=>⟨_,H,g,h⟩) e)
def iD':RH:=λb a H Q=>b=[]/\Q a H
def iE'(t:TG)(u:RH):RH:=λb a H Q=>∃ v r,b=v :: r/\t v a H λc e=>u r c e Q
def iF':D9 X [] iD':=by intro a s b H c f Q I r h;obtain⟨e,h⟩:=h;subst e;cases r;exact assignInOrder_nil ⟨b,H,I,h⟩
def iG'(k:PG X e t)(j:D9 X o u)(i:autoParam ((Fh (e :: o) X.env).map (·.2)=assign e X.env :: (Fh o X.env).map (·.2)) bv):D9 X (e :: o) (iE' t u):=by
 intro a s b H w y Q I r h;obtain⟨v,x,l,h⟩:=h;subst l
 cases r with
 |cons r f =>rw[i];refine assignInOrder_cons (cK (k a s b H _ _ _ I r h) λ_ c m=>?_);obtain⟨n,q,p,g⟩:=m;exact j a c n q _ _ Q p f g
def iH'(K:ay)(n:Nat)(t:RH):TG:=λv c H Q=>∃ a b,v=.ref a/\kN K H a b/\b.length=n/\t b c H Q
def iI'(z:X.calm=true)(h:D9 X C t)(x:autoParam ((Fh C X.env).length=n) bv) (l:autoParam ((Fh C X.env).findIdx? (·.1)=none) bv):PG X (.Tuple C k d) (iH' X.K n t):=by
 intro c s g H v u Q I r f;obtain⟨a,j,B,w,y,f⟩:=f;subst B;cases r;obtain⟨m,i,q,E⟩:=I.tuple w;refine assign_Tuple_tuple (I.ok.hd z) q (by simp[x,<- y,i.length]) l λA p=>?_;have D:Inv X c g H { s with heap:=A }:=I.kept λb o e=>p b o (gS (fA e)) e;exact h c _ g H j _ Q D (by simpa using i) f
def dq'(b:TE)(g:TG):TS:=λD a H=>b a H λx c=>g x a c D.nx
def Ur(n:X.N.Nodup)(k:X.N[i]? = some x)(g:Loc X.env.scope x)(m:PE X e C)(j:autoParam (nL e (some (.Name x o)) d.line X.env=pure false) bv)(l:autoParam (j8 X x) u') :
  PS X (.Assign [.Name x o] e d) (dq' C (aA' i)):=by
 intro a s b H D I h;refine wpAny_Assign_Name (cK (m a s b H _ I h) λv w p=>L2.eM p λy t r c f=>?_) j;exact dg' r n k g c (λu q=>⟨_,t,q,f⟩) l
def iJ'(c:TT)(i:TS):TS:=λD a H=>∃ W:Nat->St->Hp->Prop,(∃ m,W m a H)/\∀ m a H,W m a H ->
 c a H λb g=>if b=true then ∃ N:St->Hp->Prop,(∀ f h,N f h->∃ e,e<m/\W e f h)/\i { D with nx:=N,ct:=N,bk:=D.nx } a g else D.nx a g
def iK'(u:PassesOwn (aE X.prog X.w) X.A X.env X.xe)(O:PT X c C)(P:nh X o U):PS X (.While c o [] d) (iJ' C U):=by
 intro a s E H D I h;obtain⟨W,⟨M,G⟩,g⟩:=h;refine wpAny_While (codeAny_whileLoop (λn L=>∃ x B,Inv X a x B L/\W n x B) ?_ M ⟨E,H,I,G⟩);rintro n K ⟨l,A,R,F⟩;refine LM u (cK (O a K l A _ R (g n l A F)) λb J Q=>?_);obtain⟨z,y,k⟩:=Q
 cases b with
 |true =>
  obtain⟨N,w,k⟩:=k;refine LM u (cK (P a J l z _ y k) λf S j=>?_)
  cases f with
  |next =>obtain⟨e,i,t,p⟩:=j;obtain⟨q,r,m⟩:=w e i p;exact⟨q,r,e,i,t,m⟩
  |cont =>obtain⟨e,i,t,p⟩:=j;obtain⟨q,r,m⟩:=w e i p;exact⟨q,r,e,i,t,m⟩
  |brk=>exact j
  |ret v=>exact j
 |false =>exact wpAny_execs_nil ⟨l,z,y,k⟩
end
structure It where
 go:Nat->Hp->Prop
 pT:Nat->Hp->V->Hp->Prop
 stop:Nat->Hp->Prop
def zS(X:Cx)(a:List (ai × Obj))(H:Hp)(b:ai):Prop :=
 H b=none/\b≠X.env.locals/\b∉X.fs/\(b∈X.ex\/X.mP.heap.objs.size<=b)/\(∀ x c,X.env.cells.lookup x=some c->c≠b)/\∀ p∈X.pn++a,p.1≠b
def Inv.IB{X:Cx}(I:Inv X o U H s)(a:s.heap.objs.size<=b)(f:C b=none):zS X o C b:=by
 refine⟨f,P9 (sN I.lt a),I.hQ' a,.inr (kD I.sz a),λx c e z=>?_,λp d z=>?_⟩
 ·obtain⟨v,q⟩:=I.cell x c e;exact absurd (sN q.lt (by rw[z];exact a)) (vS _)
 ·exact absurd (sN (fA (I.pin p d).1) (by rw[z];exact a)) (vS _)
structure Turn(P:cy)(w:c9)(K:ay)(tg:Expr)(J:It)(fp:List ai)(it:ai)(tn:Nat->d5->Prop):Prop where
 mem:it∈fp
 obj:∀ i h,tn i h->∀ b∈fp,∃ o,h.get? b=some o/\∀ v,o.data≠.cell v
 keep:∀ i h h',tn i h->(∀ b∈fp,∀ o,h.get? b=some o->h'.get? b=some o)->tn i h'
 item:∀ (X:Cx),X.prog=P->X.w=w->X.K=K->X.calm=true->∀ i pins s σ H E,Inv X pins σ H s->(∀ b∈fp,zS X pins H b)->tn i s.heap->J.go i H ->
  bq (aE P w) X.A (pyNext (.ref it)) (fun r s1=>∃ u,r=some u /\
   bq (aE P w) X.A (letOwnedTupleGo tg (.ref it) u) (fun _ s2=>∃ x H',Inv X pins σ H' s2/\RelV x u/\J.pT i H x H'/\tn (i+1) s2.heap/\∀ b∈fp,H' b=none) E s1) E s
 done:∀ (X:Cx),X.prog=P->X.w=w->X.K=K->X.calm=true->∀ i pins s σ H E,Inv X pins σ H s->(∀ b∈fp,zS X pins H b)->tn i s.heap->J.stop i H ->
  bq (aE P w) X.A (pyNext (.ref it)) (fun r s1=>r=none/\Inv X pins σ H s1) E s
 self:∀ (A:fz) (i:Nat) (s:aI) (Q:ah->aI->Prop) (E:ah->aI->Prop),tn i s.heap->Q (.ref it) s->bq (aE P w) A (pyIter (.ref it)) Q E s
abbrev TI:=St->Hp->(It->Hp->Prop)->Prop
def PIE(X:Cx)(a:List (ai × Obj))(i:St)(j:Expr)(R:It->Hp->Prop)(c:ah)(f:aI):Prop :=
 ∃ (g:ai) (h:List ai) (e:Nat->d5->Prop) (J:It) (d:Hp),c=.ref g/\Inv X a i d f/\Turn X.prog X.w X.K j J h g e/\e 0 f.heap/\(∀ b∈h,zS X a d b)/\R J d
def PI(X:Cx)(e b:Expr)(d:TI):Prop :=
 ∀ a s c H R,Inv X a c H s->d c H R ->
  bq (aE X.prog X.w) X.A (dn b X.env) (λv f=>bq (aE X.prog X.w) X.A (pyIter v) (PIE X a c e R) X.xe f) X.xe s
def Se(b:s.heap.get? U=some o)(e:o.cls=.type n)(d:o.data=.fields C)(c:["enumerate", "zip", "dict_itemiterator", "dict_reverseitemiterator", "odict_iterator", "itertools.zip_longest", "itertools.pairwise"].contains n=false) (a:Q () s):bq M A (letOwnedTupleGo I (.ref U) u) Q E s:=by
 cases I<;>first
  |exact bI a
  | (cases u<;>first
     |exact bI a
     | (refine ax (wpAny_load b ?_)
        rw[e,d];show bq M A (if (["enumerate", "zip", "dict_itemiterator", "dict_reverseitemiterator", "odict_iterator", "itertools.zip_longest", "itertools.pairwise"].contains n && C[0]? == some (rg _))=true then _ else _) Q E s;rw[if_neg (by intro h;rw[c,Bool.false_and] at h;cases h)];exact bI a))
def Wi(K:ay)(a:ai):It :=
 ⟨λi H=>∃ b x,eP K H a b/\b[i]? = some x,λi H x c=>c=H/\∀ b,eP K H a b->b[i]? = some x,λi H=>∃ b,eP K H a b/\b.length<=i⟩
def Itt(K:ay)(a:ai):It :=
 ⟨λi H=>∃ b x,kN K H a b/\b[i]? = some x,λi H x c=>c=H/\∀ b,kN K H a b->b[i]? = some x,λi H=>∃ b,kN K H a b/\b.length<=i⟩
def My(a:Int)(n:Nat):It:=⟨λi _=>i<n,λi H x b=>b=H/\x=.int (a+i),λi _=>n<=i⟩
def iL'{P:cy}{K:ay}(a j:ai):Turn P w K tg (Wi K a) [j] j (λi h=>h.IsListIter j a i) where
 mem:=by simp
 obj:=λi h f b l=>by
  have e:b=j:=by simpa using l
  subst e;obtain⟨o,e,c,d⟩:=f;exact⟨o,e,λv z=>by rw[d] at z;cases z⟩
 keep:=λi h q f k=>f.at λo e=>k j (by simp) o e
 item:=by intro X D A F Q i g s O H E I n f B;subst D A F;obtain⟨S,x,m,y⟩:=B;obtain⟨t,r,p,W⟩:=I.list m;obtain⟨u,Z,V⟩:=r.get y;obtain⟨N,M,C,L,J,G⟩:=n j (by simp);refine wpAny_pyNext_list_item f p.isList (x:=u) (by simpa using Z) λq R T=>?_;have I1:Inv X g O H { s with heap:=q }:=I.turned (t':=s.toks) (λb o l e=>(T.2 b l).trans e) N M L J G;obtain⟨o,e,c,d⟩:=id R;exact⟨u,rfl,Se (s:={ s with heap:=q }) e c d (by decide) ⟨x,H,I1,V,⟨rfl,λys Y=>by rw[I.az' Y m];exact y⟩,R,λb l=>(n b l).1⟩⟩
 done:=by intro X D A F Q i g s O H E I n f B;subst D A F;obtain⟨S,m,y⟩:=B;obtain⟨t,r,p,W⟩:=I.list m;obtain⟨N,M,C,L,J,G⟩:=n j (by simp);have hl:=r.length;exact wpAny_pyNext_list_end (I.ok.hd Q) f p.isList (by simp;lia) λq U=>⟨rfl,I.turned (t':=s.toks) (λb o l e=>U b o l e) N M L J G⟩
 self:=λ_ _ _ _ _ f h=>wpAny_pyIter_listiter f h
def iM'{P:cy}{K:ay}(a l:ai):Turn P w K tg (Itt K a) [l] l (λi h=>h.IsTupleIter l a i) where
 mem:=by simp
 obj:=λi h f b m=>by
  have e:b=l:=by simpa using m
  subst e;obtain⟨o,e,c,d⟩:=f;exact⟨o,e,λv z=>by rw[d] at z;cases z⟩
 keep:=λi h r f k=>f.at λo e=>k l (by simp) o e
 item:=by intro X D A F Q i g s O H E I q f B;subst D A F;obtain⟨S,x,n,y⟩:=B;obtain⟨j,t,p,W⟩:=I.tuple n;obtain⟨u,Z,V⟩:=t.get y;obtain⟨N,M,C,L,J,G⟩:=q l (by simp);refine wpAny_pyNext_tuple_item f (show s.heap.IsTuple a j.toArray from p) (x:=u) (by simpa using Z) λr R T=>?_;have I1:Inv X g O H { s with heap:=r }:=I.turned (t':=s.toks) (λb o m e=>(T.2 b m).trans e) N M L J G;obtain⟨o,e,c,d⟩:=id R;exact⟨u,rfl,Se (s:={ s with heap:=r }) e c d (by decide) ⟨x,H,I1,V,⟨rfl,λys Y=>by rw[I.ix' Y n];exact y⟩,R,λb m=>(q b m).1⟩⟩
 done:=by intro X D A F Q i g s O H E I q f B;subst D A F;obtain⟨S,n,y⟩:=B;obtain⟨j,t,p,W⟩:=I.tuple n;obtain⟨N,M,C,L,J,G⟩:=q l (by simp);have hl:=t.length;exact wpAny_pyNext_tuple_end (I.ok.hd Q) f (show s.heap.IsTuple a j.toArray from p) (by simp;lia) λr U=>⟨rfl,I.turned (t':=s.toks) (λb o m e=>U b o m e) N M L J G⟩
 self:=λ_ _ _ _ _ f h=>wpAny_pyIter_tupleiter f h
def iN'{P:cy}{K:ay}(d:ai)(g:Int)(n:Nat):Turn P w K C (My g n) [d] d (λi h=>IsRangeIter h d (g+(i:Nat)*1) ((n:Int)-(i:Nat)) 1) where
 mem:=by simp
 obj:=λi h a b f=>by
  have e:b=d:=by simpa using f
  subst e;exact⟨_,a,λv z=>by
   have L:Data.fields _=Data.cell v:=z;cases L⟩
 keep:=λi h l a k=>k d (by simp) _ a
 item:=by intro X r m u q i c s F H E I j a p;subst r m u;obtain⟨D,B,O,A,y,x⟩:=j d (by simp);have W:=Walks.range (prog:=X.prog) (w:=X.w) (I.ok.hd q) d g 1 n;refine W.item i s _ _ p a λv l G N J M=>?_;obtain⟨t,rfl⟩:=N;have R:Inv X c F H { s with heap:=l,toks:=G }:=I.turned (λb o f e=>M b o (by simpa using f) e) D B A y x;refine⟨_,rfl,Se (s:={ s with heap:=l,toks:=G }) (n := "range_iterator") J rfl rfl (by decide) ⟨.int (g+i),H,R,⟨t,?_⟩,⟨rfl,rfl⟩,J,λb f=>(j b f).1⟩⟩;rw[Int.mul_one]
 done:=by intro X r m u q i c s F H E I j a p;subst r m u;obtain⟨D,B,O,A,y,x⟩:=j d (by simp);exact wpAny_pyNext_range_end (I.ok.hd q) a (by have:n<=i:=p;lia) λl Q=>⟨rfl,I.turned (t':=s.toks) (λb o f e=>Q b o f e) D B A y x⟩
 self:=λ_ _ _ _ _ a h=>wpAny_pyIter_rangeiter a h
section
variable {X:Cx}{c:Expr}
def iO'(K:ay)(f:TE):TI:=λd H R=>f d H λx b=>∃ a,x=.ref a/\(∃ e,eP K b a e)/\R (Wi K a) b
def iP'(K:ay)(f:TE):TI:=λd H R=>f d H λx b=>∃ a,x=.ref a/\(∃ e,kN K b a e)/\R (Itt K a) b
def ds'(r:PE X l C):PI X c l (iO' X.K C):=by
 intro d s i H R I h;refine cK (r d s i H _ I h) λv g u=>L2.eM u λx w f j k=>?_;obtain⟨a,e,⟨y,n⟩,q⟩:=k;subst e;cases j;obtain⟨m,z,p,A⟩:=f.list n;refine wpAny_pyIter_list p.isList ?_;refine⟨g.heap.objs.size,[g.heap.objs.size],_,_,w,rfl,f.kept λb o e=>eS _ e,iL' a _,⟨_,jI _ rfl,rfl,rfl⟩,λb t=>?_,q⟩;have e:b=g.heap.objs.size:=by simpa using t
 subst e;exact f.IB (cE _) (f.bT.fresh (cE _))
def dt'(r:PE X l C):PI X c l (iP' X.K C):=by
 intro d s i H R I h;refine cK (r d s i H _ I h) λv g u=>L2.eM u λx w f j k=>?_;obtain⟨a,e,⟨y,n⟩,q⟩:=k;subst e;cases j;obtain⟨m,z,p,A⟩:=f.tuple n;refine wpAny_pyIter_tuple (p) ?_;refine⟨g.heap.objs.size,[g.heap.objs.size],_,_,w,rfl,f.kept λb o e=>eS _ e,iM' a _,⟨_,jI _ rfl,rfl,rfl⟩,λb t=>?_,q⟩;have e:b=g.heap.objs.size:=by simpa using t
 subst e;exact f.IB (cE _) (f.bT.fresh (cE _))
def du'{R:It->Hp->Prop}{a d:Int}(I:Inv X C U H s)(k:-(2 ^ 62)<=a)(j:a<2 ^ 62)(i:-(2 ^ 62)<=d)(h:d<2 ^ 62)(q:R (My a (d-a).toNat) H):bq (aE X.prog X.w) X.A (pyIter (.ref s.heap.objs.size)) (PIE X C U c R) E { s with heap:=s.heap.push { cls:=.type "range",data:=.fields #[.int a t,.int d u,.int 1 v] },toks:=tk }:=by
 refine wpAny_pyIter_range (IsRange.new ..) (small_one k j i h) ?_;have f:Inv X C U H { s with heap:=s.heap.push { cls:=.type "range",data:=.fields #[.int a t,.int d u,.int 1 v] },toks:=tk }:=I.kept λb o e=>eS _ e;refine⟨(s.heap.push { cls:=.type "range",data:=.fields #[.int a t,.int d u,.int 1 v] }).objs.size,[(s.heap.push { cls:=.type "range",data:=.fields #[.int a t,.int d u,.int 1 v] }).objs.size],_,_,H,rfl,
  f.kept λb o e=>eS _ e,iN' _ a (d-a).toNat,?_,λb g=>?_,q⟩
 ·have m:a+((0:Nat):Int)*1=a:=by simp
  have l:(((d-a).toNat:Nat):Int)-((0:Nat):Int)=Builtin.Range.rangeSize a d 1:=by rw[rangeSize_one];split<;>lia
  rw[m,l];exact jI _ rfl
 ·have e:b=(s.heap.push { cls:=.type "range",data:=.fields #[.int a t,.int d u,.int 1 v] }).objs.size:=by simpa using g
  subst e;exact f.IB (cE _) (f.bT.fresh (cE _))
def iQ'(d:TA):TI:=λa H R=>d a H λb e=>∃ j:Int,b=[.int j]/\-(2 ^ 62)<=j/\j<2 ^ 62/\R (My 0 j.toNat) e
def iR'(d:TA):TI:=λa H R=>d a H λb e=>∃ i j:Int,b=[.int i,.int j]/\(-(2 ^ 62)<=i/\i<2 ^ 62/\-(2 ^ 62)<=j/\j<2 ^ 62)/\R (My i (j-i).toNat) e
def iS' (n:Gl X "range") (m:X.mg "range" = none) (u:PA X [a] C) (l:autoParam (fN [a] X.env=[(false,dn a X.env)]) bv):PI X c (.Call (.Name "range" p) [a] [] o) (iQ' C):=by
 intro b s f H R I h;refine Call_ (B7 I n m boot_range (PyProof.Rows.callWith_type1 (cK (u o b s f H _ I h) λy z v=>L2.eM v λx A w i d=>?_) l rfl));obtain⟨j,e,d,k,q⟩:=d;subst e
 cases i with
 |cons r g =>cases g;obtain⟨t,rfl⟩:=r;exact call_range_1 (du' w (by lia) (by lia) d k (by simpa using q))
def iT' (z:Gl X "range") (y:X.mg "range" = none) (A:PA X [a,b] C) (x:autoParam (fN [a,b] X.env=[(false,dn a X.env),(false,dn b X.env)]) bv) (k:autoParam (fN [b] X.env=[(false,dn b X.env)]) bv) :
  PI X c (.Call (.Name "range" p) [a,b] [] o) (iR' C):=by
 intro d s l H R I h;refine Call_ (B7 I z y boot_range (PyProof.Rows.callWith_type1 (cK (A o d s l H _ I h) λF J B=>L2.eM B λE K D m g=>?_) (by rw[x,k]) (by rw[k];rfl)));obtain⟨i,j,e,⟨g,w,v,u⟩,q⟩:=g;subst e
 cases m with
 |cons r f =>
  cases f with
  |cons n f =>cases f;obtain⟨t,rfl⟩:=r;obtain⟨G,rfl⟩:=n;exact call_range_2 (du' D g w v u q)
def iU'(f:TI)(g:TG)(h:TS):TS:=λD a H=>f a H λJ l=>∃ W:Nat->Nat->St->Hp->Prop,(∃ m,W 0 m a l)/\∀ i m a H,W i m a H -> (J.stop i H/\D.nx a H)\/(J.go i H/\∃ N:St->Hp->Prop,(∀ e b,N e b->∃ d,d<m/\W (i+1) d e b)/\∀ x b,J.pT i H x b->g x a b λj k=>h { D with nx:=N,ct:=N,bk:=D.nx } j k)
def Us(a:List ai)(h:d5):List (ai × Obj):=a.filterMap λb=>(h.get? b).map λo=>(b,o)
def Wj(a:b∈C)(e:h.get? b=some o):(b,o)∈Us C h:=xd7.mpr ⟨b,a,by rw[e];rfl⟩
def iV'(a:p∈Us C h):p.1∈C/\h.get? p.1=some p.2:=by
 obtain⟨b,d,e⟩:=xd7.mp a
 cases q:h.get? b with
 |none=>rw[q] at e;cases e
 |some o =>rw[q] at e;have f:(b,o)=p:=Option.some.inj e;subst f;exact⟨d,q⟩
def Inv.pinned(I:Inv X C ab H s)(i:∀ b∈U,zS X C H b)(h:∀ b∈U,∃ o,s.heap.get? b=some o/\∀ v,o.data≠.cell v):Inv X (C++Us U s.heap) ab H s :=
 I.da' λp g=>(kA.mp g).elim (λz=>I.pin p (kR _ z)) λz=>by obtain⟨a,e⟩:=iV' z;obtain⟨l,k,j,_⟩:=i p.1 a;obtain⟨o,f,d⟩:=h p.1 a;rw[e] at f;cases f;exact⟨e,l,k,j,d⟩
def Inv.Wk(I:Inv X (o++U) C H s):Inv X o C H s:=I.da' λp a=>I.pin p (kR _ (sL _ a))
def iW'(G:PassesOwn (aE X.prog X.w) X.A X.env X.xe)(hc:X.calm=true)(hi:PI X c C wi)(hg:PG X c g)(k:nh X U tb)(hs:autoParam (∀ x,LJ C X.env x=pure x) vw):PS X (.For c C U [] ab) (iU' wi g tb):=by
 intro a s Y H D I h;refine wpAny_For (cK (hi a s Y H _ I h) λv s1 h1=>cK h1 λae s2 h2=>?_) hs;obtain⟨it,L,Z,J,H2,e,I2,T,A7,f2,W,⟨m0,w0⟩,B⟩:=h2;subst e
 have j:∀ {w:Hp},(∀ b∈L,w b=none)->∀ b∈L,zS X a w b:=λhn b k=>⟨hn b k,(f2 b k).2⟩
 refine codeAny_forLoop_any (λn s'=>∃ i M w,Inv X a M w s'/\Z i s'.heap/\(∀ b∈L,w b=none)/\W i n M w) ?_ m0 ⟨0,Y,H2,I2,A7,λb k=>(f2 b k).1,w0⟩;rintro n s3 ⟨i,A,O,I3,A8,K,w3⟩;rcases B i n A O w3 with⟨E,qn⟩|⟨go,N,hN,kH⟩
 ·refine LM G (cK (T.done X rfl rfl rfl hc i a s3 A O X.xe I3 (j K) A8 E) λr s4 z=>?_);obtain⟨R,I4⟩:=z;subst R;exact wpAny_execs_nil ⟨A,O,I4,qn⟩
 ·refine LM G (cK (T.item X rfl rfl rfl hc i a s3 A O X.xe I3 (j K) A8 go) λr s4 z=>?_);obtain⟨u,R,h4⟩:=z;subst R;refine LM G (cK h4 λ_ s5 z=>?_);obtain⟨x,H5,I5,r5,y5,S,Wl⟩:=z;have V:=I5.pinned (j Wl) (T.obj _ _ S);refine LM G (cK (hg _ s5 A H5 x u _ V r5 (kH x H5 y5)) λ_ s6 z=>?_);obtain⟨P,H6,I6,q6⟩:=z;refine LM G (cK (k _ s6 P H6 _ I6 q6) λf Q y=>?_);have l:∀ {t:St} {q:Hp},Inv X (a++Us L s5.heap) t q Q->N t q->∃ m,m<n/\∃ i M w,Inv X a M w Q/\Z i Q.heap/\(∀ b∈L,w b=none)/\W i m M w:=λ{t q} p F=>by obtain⟨m',hm,w7⟩:=hN t q F;refine⟨m',hm,i+1,t,q,p.Wk,T.keep _ _ _ S λb k o e=>(p.pin (b,o) (kR _ (kR _ (Wj k e)))).1,λb k=>?_,w7⟩;obtain⟨o,e,d⟩:=T.obj _ _ S b k;exact(p.pin (b,o) (kR _ (kR _ (Wj k e)))).2.1
  cases f with
  |next=>obtain⟨t,q,p,F⟩:=y;exact l p F
  |cont=>obtain⟨t,q,p,F⟩:=y;exact l p F
  |brk=>obtain⟨t,q,p,y⟩:=y;exact⟨t,q,p.Wk,y⟩
  |ret v=>obtain⟨x7,t,q,p,r7,y⟩:=y;exact⟨x7,t,q,p.Wk,r7,y⟩
end
abbrev R2:=V->V->Hp->VK->Prop
def eJ(X:Cx)(f:ah->ah->Sem ah)(r:R2):Prop :=
 ∀ a s b H x y v u Q,Inv X a b H s->RelV x v->RelV y u->r x y H Q ->
  bq (aE X.prog X.w) X.A (f v u) (EP X a b Q) X.xe s
def Wm(X:Cx)(f:ah->Sem ah)(r:V->Hp->VK->Prop):Prop :=
 ∀ a s b H x v Q,Inv X a b H s->RelV x v->r x H Q ->
  bq (aE X.prog X.w) X.A (f v) (EP X a b Q) X.xe s
def oa(X:Cx)(f:ah)(r:List V->Hp->VK->Prop):Prop :=
 ∀ a s b H c d Q,Inv X a b H s->Vals c d->r c H Q ->
  bq (aE X.prog X.w) X.A (call f d) (EP X a b Q) X.xe s
def iZ'(X:Cx)(r:V->Hp->(Bool->Hp->Prop)->Prop):Prop :=
 ∀ a s b H x v Q,Inv X a b H s->RelV x v->r x H Q ->
  bq (aE X.prog X.w) X.A (truthy v) (TP X a b Q) X.xe s
def MB(r:R2)(c b:TE):TE:=λa H Q=>c a H λx e=>b a e λy d=>r x y d Q
def tUn(r:V->Hp->VK->Prop)(b:TE):TE:=λa H Q=>b a H λx c=>r x c Q
def rI(C:Int->Int->Prop)(g:Int->Int->V):R2:=λx y H Q=>∃ i j,x=.int i/\y=.int j/\C i j/\Q (g i j) H
def MD(g:Int->Int->V):R2:=λx y H Q=>∃ i j,x=.int i/\y=.int j/\Q (g i j) H
def rU(g:Int->V):V->Hp->VK->Prop:=λx H Q=>∃ i,x=.int i/\Q (g i) H
section
variable {X:Cx}{a b:Expr}{c e:TE}{d:Pos}
def aD'(B:PE X a c)(A:PE X b e){g:List (ai × Obj)}{s:aI}{i:St}{H:Hp}{R:V->V->Hp->Prop}(I:Inv X g i H s)(h:c i H λx m=>e i m λy j=>R x y j) {Q:ah->aI->Prop} {f:ah->ah->Sem ah}(z:∀ v u k x y j,Inv X g i j k->RelV x v->RelV y u->R x y j->bq (aE X.prog X.w) X.A (f v u) Q X.xe k) :
  bq (aE X.prog X.w) X.A (dn a X.env) (λv D=>bq (aE X.prog X.w) X.A (dn b X.env) (λu n=>bq (aE X.prog X.w) X.A (f v u) Q X.xe n) X.xe D) X.xe s:=by
 refine cK (B g s i H _ I h) λv p l=>L2.eM l λx m F r w=>?_;refine cK (A g p i m _ F w) λu k l=>L2.eM l λy j E q t=>?_;exact z v u k x y j E r q t
def dx'{g:Operator}{r:R2}(m:eJ X (qS g) r)(p:PE X a c)(n:PE X b e):PE X (.BinOp a g b d) (MB r c e):=by intro f s i H Q I h;exact wpAny_BinOp (aD' p n I h λv u j x y w t l k q=>m f j i w x y v u Q t l k q)
def ja'(l:Wm X (unaryOp o) r)(m:PE X a c):PE X (.UnaryOp o a d) (tUn r c):=by intro f s g H Q I h;exact UnaryOp_ (cK (m f s g H _ I h) λv i n=>L2.eM n λx q p j k=>l f i g q x v Q p j k)
def opI{f:ah->ah->Sem ah}{C:Int->Int->Prop}{g:Int->Int->Int}(k:∀ (i j:Int) (t u:Tok) (s:aI) (Q:ah->aI->Prop) (E:ah->aI->Prop),C i j->Q (.int (g i j) s.toks) { s with toks:=s.toks+1 }->bq (aE X.prog X.w) X.A (f (.int i t) (.int j u)) Q E s) :
  eJ X f (rI C λi j=>.int (g i j)):=by
 intro l s w H x y v u Q I p n h;obtain⟨i,j,rfl,rfl,r,q⟩:=h;obtain⟨t,rfl⟩:=p;obtain⟨m,rfl⟩:=n;exact k i j t m s _ _ r ⟨.int (g i j),H,I.tok _,⟨_,rfl⟩,q⟩
def dy'{f:ah->ah->Sem ah}{g:Int->Int->Int}(k:∀ (i j:Int) (t u:Tok) (s:aI) (Q:ah->aI->Prop) (E:ah->aI->Prop),Q (.int (g i j) s.toks) { s with toks:=s.toks+1 }->bq (aE X.prog X.w) X.A (f (.int i t) (.int j u)) Q E s) :
  eJ X f (MD λi j=>.int (g i j)):=by
 intro l s r H x y v u Q I p n h;obtain⟨i,j,rfl,rfl,q⟩:=h;obtain⟨t,rfl⟩:=p;obtain⟨m,rfl⟩:=n;exact k i j t m s _ _ ⟨.int (g i j),H,I.tok _,⟨_,rfl⟩,q⟩
def aF'{f:ah->ah->Sem ah}{g:Int->Int->Bool}(k:∀ (i j:Int) (t u:Tok) (s:aI) (Q:ah->aI->Prop) (E:ah->aI->Prop),Q (.bool (g i j)) s->bq (aE X.prog X.w) X.A (f (.int i t) (.int j u)) Q E s) :
  eJ X f (MD λi j=>.bl (g i j)):=by
 intro l s r H x y v u Q I p n h;obtain⟨i,j,rfl,rfl,q⟩:=h;obtain⟨t,rfl⟩:=p;obtain⟨m,rfl⟩:=n;exact k i j t m s _ _ ⟨.bl (g i j),H,I,rfl,q⟩
def jb'(i j:Int):Prop:=0<j/\j<1073741824
def Sf(i j:Int):Prop:=(-(2 ^ 64)<i/\i<2 ^ 64)\/(-(2 ^ 64)<j/\j<2 ^ 64)
def Sf.ok(h:Sf i j):IntMulOk i j:=by
 rcases h with⟨g,f⟩|⟨g,f⟩
 ·exact .of_left (intBits_le_64 g f)
 ·exact .of_right (intBits_le_64 g f)
def jc':eJ X (qS .Add) (MD λi j=>.int (i+j)):=dy' λ_ _ _ _ _ _ _ q=>add_int q
def jd':eJ X (qS .Sub) (MD λi j=>.int (i-j)):=dy' λ_ _ _ _ _ _ _ q=>sub_int q
def je':eJ X (qS .Mult) (rI Sf λi j=>.int (i*j)):=opI λ_ _ _ _ _ _ _ f q=>mul_int q f.ok
def jf':eJ X (qS .FloorDiv) (rI jb' λi j=>.int (i / j)):=opI λi j _ _ _ _ _ f q=>by have h:0<j:=f.1;have g:j<1073741824:=f.2;exact floordiv_int (by lia) (by rw[Int.fdiv_eq_ediv_of_nonneg i (by lia)];exact q) (.inl (PyProof.noPylong_small (by lia)))
def jg':eJ X (qS .Mod) (rI (λ_ j=>0<j) λi j=>.int (i % j)):=opI λi j _ _ _ _ _ f q=>by exact mod_int' (by lia) (by rw[Int.fmod_eq_emod_of_nonneg i (by lia)];exact q)
def unI{f:ah->Sem ah}{g:Int->Int}(j:∀ (i:Int) (t:Tok) (s:aI) (Q:ah->aI->Prop) (E:ah->aI->Prop),Q (.int (g i) s.toks) { s with toks:=s.toks+1 }->bq (aE X.prog X.w) X.A (f (.int i t)) Q E s) :
  Wm X f (rU λi=>.int (g i)):=by
 intro k s m H x v Q I l h;obtain⟨i,rfl,q⟩:=h;obtain⟨t,rfl⟩:=l;exact j i t s _ _ ⟨.int (g i),H,I.tok _,⟨_,rfl⟩,q⟩
def ji':Wm X (unaryOp .USub) (rU λi=>.int (-i)):=unI λ_ _ _ _ _ q=>neg_int q
end
def dz':V->V->Bool
 |.non,.non=>true|.non,.int _=>true|.int _,.non=>true|.non,.bl _=>true|.bl _,.non=>true|.non,.str _=>true|.str _,.non=>true
 |.int _,.int _=>true|.bl _,.bl _=>true|.str _,.str _=>true|.v3 _,.v3 _=>true
 |.int _,.str _=>true|.str _,.int _=>true|.bl _,.str _=>true|.str _,.bl _=>true
 |_,_=>false
def rEq:R2:=λx y H Q=>dz' x y=true/\Q (.bl (decide (x=y))) H
def rNe:R2:=λx y H Q=>dz' x y=true/\Q (.bl (!decide (x=y))) H
def dA':decide (V.int i=V.int j)=(i == j):=by rw[zD];simp
def dB':decide (V.bl i=V.bl j)=(i == j):=by rw[zD];simp
def dC':decide (V.str i=V.str j)=(i == j):=by rw[zD];simp
def dD':decide (V.v3 i=V.v3 j)=(i.toList == j.toList):=by rw[zD];cases i;cases j;simp
section
variable {X:Cx}{a b c:Expr}{g l w:TE}{o:Pos}
def kF(I:Inv X C U H s)(q:Q (.bl k) H)(e:k=k'):EP X C U Q (.bool k') s:=by subst e;exact⟨.bl k,H,I,rfl,q⟩
def jl':eJ X (iX .Eq) rEq:=by
 intro m s n H x y v u Q I k d h;obtain⟨f,q⟩:=h
 cases x with
 |non =>
  cases k
  cases y with
  |non=>cases d;exact PySem.EqNone.eq_none_none (kF I q (by simp))
  |bl j=>cases d;exact PySem.EqNone.eq_none_bool (kF I q (by simp))
  |int j=>obtain⟨e,rfl⟩:=d;exact PySem.EqNone.eq_none_int (kF I q (by simp))
  |str j=>obtain⟨e,rfl⟩:=d;exact PySem.EqNone.eq_none_str (kF I q (by simp))
  |_=>exact absurd (f) nX
 |bl i =>
  cases k
  cases y with
  |non=>cases d;exact PySem.EqNone.eq_bool_none (kF I q (by simp))
  |bl j=>cases d;exact eq_bool (kF I q dB')
  |str j=>obtain⟨e,rfl⟩:=d;exact PySem.EqMixed.eq_bool_str (kF I q (by simp))
  |_=>exact absurd (f) nX
 |int i =>
  obtain⟨t,rfl⟩:=k
  cases y with
  |non=>cases d;exact PySem.EqNone.eq_int_none (kF I q (by simp))
  |int j=>obtain⟨e,rfl⟩:=d;exact eq_int (kF I q dA')
  |str j=>obtain⟨e,rfl⟩:=d;exact PySem.EqMixed.eq_int_str (kF I q (by simp))
  |_=>exact absurd (f) nX
 |str i =>
  obtain⟨t,rfl⟩:=k
  cases y with
  |non=>cases d;exact PySem.EqNone.eq_str_none (kF I q (by simp))
  |bl j=>cases d;exact PySem.EqMixed.eq_str_bool (kF I q (by simp))
  |int j=>obtain⟨e,rfl⟩:=d;exact PySem.EqMixed.eq_str_int (kF I q (by simp))
  |str j=>obtain⟨e,rfl⟩:=d;exact eq_str (kF I q dC')
  |_=>exact absurd (f) nX
 |v3 i =>
  obtain⟨t,rfl⟩:=k
  cases y with
  |v3 j=>obtain⟨e,rfl⟩:=d;exact PySem.W.eq_bytes (kF I q dD')
  |_=>exact absurd (f) nX
 |_=>cases y<;>exact absurd (f) nX
def jm':eJ X (iX .NotEq) rNe:=by
 intro m s n H x y v u Q I k d h;obtain⟨f,q⟩:=h
 cases x with
 |non =>
  cases k
  cases y with
  |non=>cases d;exact PySem.EqNone.ne_none_none (kF I q (by simp))
  |bl j=>cases d;exact PySem.EqNone.ne_none_bool (kF I q (by simp))
  |int j=>obtain⟨e,rfl⟩:=d;exact PySem.EqNone.ne_none_int (kF I q (by simp))
  |str j=>obtain⟨e,rfl⟩:=d;exact PySem.EqNone.ne_none_str (kF I q (by simp))
  |_=>exact absurd (f) nX
 |bl i =>
  cases k
  cases y with
  |non=>cases d;exact PySem.EqNone.ne_bool_none (kF I q (by simp))
  |bl j=>cases d;exact ne_bool (kF I q (congrArg not dB'))
  |str j=>obtain⟨e,rfl⟩:=d;exact PySem.EqMixed.ne_bool_str (kF I q (by simp))
  |_=>exact absurd (f) nX
 |int i =>
  obtain⟨t,rfl⟩:=k
  cases y with
  |non=>cases d;exact PySem.EqNone.ne_int_none (kF I q (by simp))
  |int j=>obtain⟨e,rfl⟩:=d;exact ne_int (kF I q (congrArg not dA'))
  |str j=>obtain⟨e,rfl⟩:=d;exact PySem.EqMixed.ne_int_str (kF I q (by simp))
  |_=>exact absurd (f) nX
 |str i =>
  obtain⟨t,rfl⟩:=k
  cases y with
  |non=>cases d;exact PySem.EqNone.ne_str_none (kF I q (by simp))
  |bl j=>cases d;exact PySem.EqMixed.ne_str_bool (kF I q (by simp))
  |int j=>obtain⟨e,rfl⟩:=d;exact PySem.EqMixed.ne_str_int (kF I q (by simp))
  |str j=>obtain⟨e,rfl⟩:=d;exact ne_str (kF I q (congrArg not dC'))
  |_=>exact absurd (f) nX
 |v3 i =>
  obtain⟨t,rfl⟩:=k
  cases y with
  |v3 j=>obtain⟨e,rfl⟩:=d;exact PySem.W.ne_bytes (kF I q (congrArg not dD'))
  |_=>exact absurd (f) nX
 |_=>cases y<;>exact absurd (f) nX
def jn':eJ X (iX .Lt) (MD λi j=>.bl (decide (i<j))):=aF' λ_ _ _ _ _ _ _ q=>lt_int q
def jo':eJ X (iX .LtE) (MD λi j=>.bl (decide (i<=j))):=aF' λ_ _ _ _ _ _ _ q=>le_int q
def jp':eJ X (iX .Gt) (MD λi j=>.bl (decide (j<i))):=aF' λ_ _ _ _ _ _ _ q=>gt_int q
def jq':eJ X (iX .Lt) (λx y H Q=>∃ i j,x=.str i/\y=.str j/\Q (.bl (decide (i.cps.toList<j.cps.toList))) H):=by intro d s k H x y v u Q I f e h;obtain⟨i,j,rfl,rfl,q⟩:=h;obtain⟨t,rfl⟩:=f;obtain⟨m,rfl⟩:=e;exact lt_str (kF I q rfl)
def jr':eJ X (iX .In) (λx y H Q=>∃ i j,x=.str i/\y=.str j/\Q (.bl (!(Builtin.Str.occurrences j i 0 j.length 1).isEmpty)) H):=by intro d s k H x y v u Q I f e h;obtain⟨i,j,rfl,rfl,q⟩:=h;obtain⟨t,rfl⟩:=f;obtain⟨m,rfl⟩:=e;exact in_str (kF I q rfl)
def js':eJ X (iX .Is) (λx y H Q=>y=.non/\Q (.bl (decide (x=.non))) H):=by
 intro e s i H x y v u Q I d f h;obtain⟨rfl,q⟩:=h;cases f;refine is_none_gen (kF I q ?_);cases x<;>first
  | (cases d;rfl)
  | (obtain⟨t,rfl⟩:=d;rfl)
def eJ.or(h:eJ X f r)(k:eJ X f C):eJ X f (λx y H Q=>r x y H Q\/C x y H Q):=by
 intro d s e H x y v u Q I j i q;rcases q with q|q
 ·exact h d s e H x y v u Q I j i q
 ·exact k d s e H x y v u Q I j i q
def dE'(b:Expr)(h:autoParam (C≠.In) tw)(d:autoParam (C≠.NotIn) tw):HG C b=false:=by
 have f:(C == CmpOp.In)=false:=by cases C<;>first|rfl|exact absurd rfl h
 have e:(C == CmpOp.NotIn)=false:=by cases C<;>first|rfl|exact absurd rfl d
 cases b<;>simp[HG,f,e]
def jt'{e:CmpOp}{r:R2}(m:eJ X (iX e) r)(t:PE X a g)(p:PE X b l)(n:HG e b=false):PE X (.Compare a [e] [b] o) (MB r g l):=by intro d s f H Q I h;exact wpAny_Compare1 (aD' t p I h λv u i x y A z k j q=>m d i f A x y v u Q z k j q) n
def aG'(t:TE):TT:=λd H Q=>t d H λx e=>∃ k,x=.bl k/\Q k e
def ju'(D:eJ X (iX C) r)(G:PE X a g)(F:PE X b l)(E:HG C b=false):PT X (.Compare a [C] [b] o) (aG' (MB r g l)):=by
 intro d s f H Q I h;refine wpAny_isTrue_Compare1 (cK (G d s f H _ I h) λv m i=>L2.eM i λx O L q B=>cK (F d m f O _ L B) λu j i=>L2.eM i λy N K p A =>
  cK (D d j f N x y v u _ K q p A) λc P ⟨z,M,J,n,k,e,t⟩=>?_) E
 subst e;cases n;exact AZ ⟨M,J,t⟩
def aH'(r h:R2)(g l w:TE):TE:=λd H Q=>g d H λx m=>l d m λy j=>r x y j λz e=>∃ k,z=.bl k /\ (if k=true then w d e λf i=>h y f i Q else Q (.bl false) e)
def jv'(P:eJ X (iX U) r)(O:eJ X (iX C) r')(V:PE X a g)(T:PE X b l)(S:PE X c w)(R:lastMarks [U,C] [b,c]=false:=by with_unfolding_all rfl):PE X (.Compare a [U,C] [b,c] o) (aH' r r' g l w):=by
 intro f s i H Q I h;refine Compare_chain (cK (V f s i H _ I h) λv F j=>L2.eM j λx H1 Z K N=>chain_link (cK (T f F i H1 _ Z N) λu E j=>L2.eM j λy H2 Y m M =>
  cK (P f E i H2 x y v u _ Y K m M) λd D ⟨z,q,p,J,k,e,n⟩=>?_)) R
 subst e;cases J;refine AZ ?_
 cases k with
 |false=>exact ite_ff ⟨.bl false,q,p,rfl,n⟩
 |true=>exact ite_tt (chain_last (cK (S f D i q _ p n) λA B zq=>by obtain⟨t,H4,W,G,L⟩:=zq;exact O f B i H4 y t u A Q W m G L))
def jw'(T:eJ X (iX U) r)(S:eJ X (iX C) r')(Z:PE X a g)(Y:PE X b l)(W:PE X c w)(V:lastMarks [U,C] [b,c]=false:=by with_unfolding_all rfl):PT X (.Compare a [U,C] [b,c] o) (aG' (aH' r r' g l w)):=by
 intro f s i H Q I h;refine isTrue_chain (cK (Z f s i H _ I h) λv F j=>L2.eM j λx H1 I1 L P=>test_link (cK (Y f F i H1 _ I1 P) λu E j=>L2.eM j λy H2 I2 m O =>
  cK (T f E i H2 x y v u _ I2 L m O) λd D ⟨z,q,p,K,k,e,n⟩=>?_)) V
 subst e;cases K;refine AZ ?_
 cases k with
 |false =>obtain⟨k',e',R⟩:=n;cases e';exact ite_ff ⟨q,p,R⟩
 |true =>refine ite_tt (test_last (cK (W f D i q _ p n) λA B ⟨t,H4,I4,J,N⟩=>cK (S f B i H4 y t u A _ I4 m J N) λd' s5 dE=>?_));obtain⟨z2,H5,I5,G,k2,e2,M⟩:=dE;subst e2;cases G;exact AZ ⟨H5,I5,M⟩
def aI'(K:ay)(x:V)(H:Hp)(k:Bool):Prop :=
 match x with
 |.non=>k=false
 |.bl b=>k=b
 |.int i=>k=(i != 0)
 |.str y=>y.length<=bG/\k=((y.length:Int) != 0)
 |.v3 y=>y.size<=bG/\k=((y.size:Int) != 0)
 |.ref p=>(∃ d,eP K H p d/\k = !d.isEmpty)\/(∃ d,kN K H p d/\k = !d.isEmpty)\/∃ e,H p=some (.dK e)/\k = !e.isEmpty
 |_=>False
def jx'{d:Type}{f:List (d × V)}{e:List (d × ah)}(r:KV f e):(!e.isEmpty) = !f.isEmpty:=by cases r<;>rfl
def dF'(r:Vals I C):(!C.toArray.isEmpty) = !I.isEmpty:=by cases r<;>simp
def aJ':(bG:Nat)<2 ^ 63:=by rw[kQ];decide
def jy':iZ' X (λx H Q=>∃ k,aI' X.K x H k/\Q k H):=by
 intro E s K H x v Q I n h;obtain⟨k,e,q⟩:=h;have L:bG=16777216:=kQ
 cases x with
 |non =>cases n;have d:k=false:=e;subst d;exact truthy_none ⟨H,I,q⟩
 |bl b =>cases n;have d:k=b:=e;subst d;exact AZ ⟨H,I,q⟩
 |int i =>obtain⟨t,rfl⟩:=n;have d:k=(i != 0):=e;subst d;exact PySem.P.truthy_int ⟨H,I,q⟩
 |str y =>obtain⟨t,rfl⟩:=n;obtain⟨G,d⟩:y.length<=bG/\k=((y.length:Int) != 0):=e;subst d;exact PySem.P.truthy_str (by lia) ⟨H,I.tok _,q⟩
 |v3 y =>obtain⟨t,rfl⟩:=n;obtain⟨G,d⟩:y.size<=bG/\k=((y.size:Int) != 0):=e;subst d;exact PySem.W.truthy_bytes (by lia) ⟨H,I.tok _,q⟩
 |ref p =>
  cases n;have d:(∃ j,eP X.K H p j/\k = !j.isEmpty)\/(∃ j,kN X.K H p j/\k = !j.isEmpty)\/∃ u,H p=some (.dK u)/\k = !u.isEmpty:=e;rcases d with⟨j,z,d⟩|⟨j,z,d⟩|⟨u,z,d⟩
  ·subst d;obtain⟨D,r,B,F⟩:=I.list z;have f:=r.length;exact wpAny_truthy_list B.isList (by simp only[kg];lia) ⟨H,I.tok _,by rw[dF' r];exact q⟩
  ·subst d;obtain⟨D,r,B,F⟩:=I.tuple z;have f:=r.length;exact truthy_tuple B (by simp only[kg];lia) ⟨H,I.tok _,by rw[dF' r];exact q⟩
  ·subst d;obtain⟨F,J,A,r,m⟩:u.length<=bG/\(p == rX)=false/\∃ A,KV u A/\s.heap.DictOf (i3 X.prog X.w) p A:=I.bT p _ z;have f:u.length=A.length:=Paired.length r;exact wpAny_truthy_dict J m (by lia) ⟨H,I.tok _,by rw[jx' r];exact q⟩
 |_=>exact(e).elim
def jz'(q:PE X a g)(p:∀ d,isTrue a X.env d=(do let v <- d;standAt a.pos;holding [v] (truthy v))) :
  PT X a (λf H Q=>g f H λx i=>∃ k,aI' X.K x i k/\Q k i):=by
 intro e s f H Q I h;exact isTrue_plain (cK (q e s f H _ I h) λv j r=>L2.eM r λx u t m n=>jy' e j f u x v Q t m n) (p _)
def jA':eJ X (qS .Add) (λx y H Q=>∃ i j,x=.str i/\y=.str j/\i.length+j.length<=bG/\Q (.str (i++j)) H):=by intro d s n H x y v u Q I k f h;obtain⟨i,j,rfl,rfl,m,q⟩:=h;obtain⟨t,rfl⟩:=k;obtain⟨e,rfl⟩:=f;exact add_str (λe p=>⟨.str (i++j),H,I.tok _,⟨_,rfl⟩,q⟩) m
def vals1(r:Vals [x] C):∃ u,C=[u]/\RelV x u:=by
 cases r with
 |cons e d=>cases d;exact⟨_,rfl,e⟩
def vals2(r:Vals [x,y] C):∃ u d,C=[u,d]/\RelV x u/\RelV y d:=by
 cases r with
 |cons i h =>
  cases h with
  |cons f e=>cases e;exact⟨_,_,rfl,i,f⟩
def jB' (m:X.calm=true):oa X (.builtin "max") (λe H Q=>∃ i j,e=[.int i,.int j]/\Q (.int (if j>i then j else i)) H):=by
 intro f s n H e v Q I r h;obtain⟨i,j,rfl,q⟩:=h;obtain⟨u,p,rfl,⟨t,rfl⟩,⟨y,rfl⟩⟩:=vals2 r;refine max_two_ints (I.ok.hd m) λz x k=>⟨_,H,I.kept k,?_,q⟩
 by_cases d:j>i
 ·rw[if_pos d,if_pos d];exact⟨_,rfl⟩
 ·rw[if_neg d,if_neg d];exact⟨_,rfl⟩
def dG'(K:ay)(x:V)(H:Hp)(n:Nat):Prop :=
 match x with
 |.str y=>y.length<=bG/\n=y.length
 |.v3 y=>y.size<=bG/\n=y.size
 |.ref p=>(∃ d,eP K H p d/\n=d.length)\/∃ d,kN K H p d/\n=d.length
 |_=>False
def Wn:oa X (.builtin "len") (λd H Q=>∃ x n,d=[x]/\dG' X.K x H n/\Q (.int n) H):=by
 intro A s E H d F Q I r h;obtain⟨x,n,rfl,e,q⟩:=h;obtain⟨u,rfl,j⟩:=vals1 r;have G:bG=16777216:=kQ
 cases x with
 |str y =>obtain⟨t,rfl⟩:=j;obtain⟨D,i⟩:y.length<=bG/\n=y.length:=e;subst i;exact len_str (by lia) ⟨.int _,H,I.tok _,⟨_,rfl⟩,q⟩
 |v3 y =>obtain⟨t,rfl⟩:=j;obtain⟨D,i⟩:y.size<=bG/\n=y.size:=e;subst i;exact PySem.W.len_bytes (by lia) ⟨.int _,H,I.tok _,⟨_,rfl⟩,q⟩
 |ref p =>
  cases j;have i:(∃ d,eP X.K H p d/\n=d.length)\/∃ d,kN X.K H p d/\n=d.length:=e;rcases i with⟨d,z,i⟩|⟨d,z,i⟩
  ·subst i;obtain⟨v,k,m,B⟩:=I.list z;have f:=k.length;exact Calls.call_len_list m.isList (by simp only[kg];lia) ⟨.int d.length,H,I.tok _,⟨_,by simp only[kg];rw[f]⟩,q⟩
  ·subst i;obtain⟨v,k,m,B⟩:=I.tuple z;have f:=k.length;exact len_tuple m (by simp only[kg];lia) ⟨.int d.length,H,I.tok _,⟨_,by simp only[kg];rw[f]⟩,q⟩
 |_=>exact(e).elim
end
structure MG(h:d5)(x dx C:ai)(mA:Str->Option ah):Prop where
 obj:h.get? x=some (He C dx)
 ns:h.Ns1 dx mA
 ne:dx≠x
def lookIn_ns{h:d5}{i:ai}{f:Str->Option ah}(n:h.Ns1 i f):∃ d,h.get? i=some d/\∀ b,Vw b d=some (f b):=by
 obtain⟨o,g,s,k,p,m,_,l⟩:=n;refine⟨o,k,λb=>?_⟩;have e:=l b;unfold nsFind findBy at e;rw[<- Array.find?_toList] at e;unfold Vw;rw[p];dsimp only;split
 ·rename_i y q;rw[q] at e;exact congrArg some e
 ·rename_i q;rw[q] at e;have a:g.toList.any (·.refKey)=false:=by rw[List.any_eq_false];intro y j;obtain⟨z,t,c⟩:=m y (Array.mem_toList_iff.mp j);simp[DictEntry.refKey,c]
  have r:¬ g.toList.any (·.refKey)=true:=by rw[a];exact nX
  rw[if_neg r];exact congrArg some e
def MG.look(I:MG h x U C o):∃ b,PySem.W.InstAt h x (He C U) C (some b)/\∀ a,Vw a b=some (o a) :=
 let ⟨b,c,d⟩:=lookIn_ns I.ns
 ⟨b,⟨I.obj,rfl,rfl,c⟩,d⟩
section
variable {c:cy}{w:c9}{A:fz}{E:ah->aI->Prop}{s:aI}{K:ay}{x i C f:ai}{e:Str->Option ah}{a:Str}{v:ah}
def get_map(X:K.In s.heap)(I:MG s.heap x i C e)(k:TB K C a=true)(j:Vu K C=true)(l:tS K (.ref C) a=some none) (d:e a=some v) (b:PySem.W.handedIn v=true) (h:Q v { s with toks:=s.toks+1 }) :
  bq (aE c w) A (getAttr (.ref x) a o) Q E s:=by
 obtain⟨m,J,g⟩:=I.look;exact PySem.W.get_value X J (ZZ k).1 (PySem.W.findObj_own j l rfl (by rw[g,d])) b h
def jD'(X:K.In s.heap)(I:MG s.heap x i C e)(b:TB K C a=true)(l:tS K (.ref C) a=some (some (.ref f))) (j:LG K (.ref f)=true) (g:e a=none) (h:Q (.ref f,[.ref x]) s) :
  bq (aE c w) A (getMethod (.ref x) a o) Q E s:=by
 obtain⟨d,J,k⟩:=I.look;exact PySem.W.method_fn X J (ZZ b).1 (ZZ b).2 l (beq_iff_eq.mp j) (by show(Vw a d).map (·.isSome)=some false;rw[k,g];rfl) h
def jE'(X:K.In s.heap)(I:MG s.heap x i C e)(q:tS K (.ref C) "__setattr__" = some (some (.builtin "object.__setattr__"))) (r:Z0 K C=true) (p:Z2 K C a=some none) (t:Vu K C=true)(n:PySem.Within e o) (M:o.length<=bG)(h:∀ d,MG d x i C (λy=>if y=a then some v else e y)->Heap.SameBut i s.heap d->Q () { s with heap:=d,toks:=s.toks+2 }) :
  bq (aE c w) A (setAttr (.ref x) a v) Q E s:=by
 obtain⟨G,J,L⟩:=I.look;refine PySem.W.set_plain X J q (PySem.W.osa_open X J r p λb=>?_);obtain⟨N,u,D⟩:=PySem.W.any_some t;have m:s.heap.get? x=some ⟨.ref C,some i,.plain,#[]⟩:=I.obj;refine ax (bI (ax (ax (wpAny_loadPart m (ax (PySem.W.Looks.here (PySem.W.looks_clsIn X u) ?_))))));rw[D];refine bI (ax (bI (ax ?_)));refine wpAny_nsSet1 I.ns λd l k=>?_;obtain⟨H,z,B,g,F,j⟩:=l.count (PySem.Within.cons a v n);refine ax (wpAny_lookBehind g (by rw[F];exact pastItsLine_dict (kD j (by rw[gi];lia))) ?_);exact bI (h _ ⟨(k.2 _ (Ne.symm I.ne)).trans I.obj,l,I.ne⟩ k)
def jH'{R:Result->aI->Prop}(X:K.In s.heap)(j:Z3 K C=true)(k:tS K (.ref C) "__init__" = some (some (.ref f))) (l:PySem.W.typeIn K (.ref f)=some (.type "function"))(h:xD (aE c w) (A.under (.builtin "type.__call__" ⟨.ref C :: o,I⟩)) (.call (.ref f) ⟨.ref (s.heap.objs.size+1) :: o,I⟩) (PySem.W.InitBack (s.heap.objs.size+1) R) { s with heap:=(s.heap.push G0).push (He C s.heap.objs.size) }) :
  xD (aE c w) A (.call (.ref C) ⟨o,I⟩) R s:=by
 obtain⟨n,g,d,t,m⟩:=s;exact PySem.W.make_core (PySem.W.makes_of X j) (PySem.W.looks_findIn X k) (λb=>PySem.W.bind_fn X b l) (.inl rfl) h
end
def gp(f:Str)(v:V):List (Str × V)->List (Str × V)
 |[]=>[(f,v)]
 | (g,x) :: r=>if g=f then (g,v) :: r else (g,x) :: gp f v r
theorem dH'(f g:Str)(v:V):∀ c:List (Str × V),(gp f v c).lookup g=if g=f then some v else c.lookup g
 |[]=>by
  show List.lookup g [(f,v)]=_;by_cases h:g=f
  ·have a:(g == f)=true:=beq_iff_eq.mpr h;simp only[List.lookup,a,if_pos h]
  ·have a:(g == f)=false:=beq_eq_false_iff_ne.mpr h;simp only[List.lookup,a,if_neg h]
 | (k,x) :: r=>by
  have d:=dH' f g v r;rw[show gp f v ((k,x) :: r)=(if k=f then (k,v) :: r else (k,x) :: gp f v r) from rfl];by_cases b:k=f
  ·rw[if_pos b];by_cases h:g=k
   ·have a:(g == k)=true:=beq_iff_eq.mpr h;simp only[List.lookup,a,if_pos (h.trans b)]
   ·have a:(g == k)=false:=beq_eq_false_iff_ne.mpr h;simp only[List.lookup,a,if_neg (λe:g=f=>h (e.trans b.symm))]
  ·rw[if_neg b];by_cases h:g=k
   ·have a:(g == k)=true:=beq_iff_eq.mpr h;simp only[List.lookup,a,if_neg (λe:g=f=>b (h.symm.trans e))]
   ·have a:(g == k)=false:=beq_eq_false_iff_ne.mpr h;simp only[List.lookup,a];exact d
theorem aK'(f:Str)(v:V):∀ b:List (Str × V),f∈(gp f v b).map (·.1)/\∀ g,g∈b.map (·.1)->g∈(gp f v b).map (·.1)
 |[]=>⟨by simp[gp],λg h=>by simp at h⟩
 | (k,x) :: r=>by
  obtain⟨d,c⟩:=aK' f v r;rw[show gp f v ((k,x) :: r)=(if k=f then (k,v) :: r else (k,x) :: gp f v r) from rfl];by_cases a:k=f
  ·rw[if_pos a];subst a;exact⟨by simp,λg h=>by simpa using h⟩
  ·rw[if_neg a];refine⟨?_,λg h=>?_⟩
   ·rw[eR];exact eI _ d
   ·rw[eR] at h ⊢;rcases dQ.mp h with e|e
    ·exact dQ.mpr (.inl e)
    ·exact eI _ (c g e)
theorem dI'(f:Str)(v:V):∀ b:List (Str × V),(gp f v b).length<=b.length+1
 |[]=>by simp[gp]
 | (k,x) :: r=>by
  have c:=dI' f v r;rw[show gp f v ((k,x) :: r)=(if k=f then (k,v) :: r else (k,x) :: gp f v r) from rfl];by_cases a:k=f
  ·rw[if_pos a,gi,gi];lia
  ·rw[if_neg a,gi,gi];lia
def rj.some_of(r:rj (some v) o):∃ u,o=some u/\RelV v u:=by
 cases o with
 |none=>exact(r).elim
 |some u=>exact⟨u,rfl,r⟩
def rj.none_of(r:rj none o):o=none:=by
 cases o with
 |none=>rfl
 |some u=>exact(r).elim
def jI'(r:RelV v u):PySem.W.handedIn u=true:=by
 cases v with
 |non=>cases (show u=Value.none from r);rfl
 |bl b=>cases (r);rfl
 |int i=>obtain⟨t,e⟩:=(r);cases e;rfl
 |str x=>obtain⟨t,e⟩:=(r);cases e;rfl
 |v3 b=>obtain⟨t,e⟩:=(r);cases e;rfl
 |B4 b=>obtain⟨t,e⟩:=(r);cases e;rfl
 |ref a=>cases (r);rfl
 |ty n=>cases (r);rfl
section
variable {P:cy}{w:c9}{H:Hp}{h:d5}{a C c:ai}{b:List (Str × V)}
def MQ(k:kE P w H h)(e:H a=some (.ins C c b)):∃ g,MG h a c C g/\(∀ f,rj (b.lookup f) (g f))/\PySem.Within g (b.map (·.1))/\b.length<=1000/\H c=some (.own a):=by
 obtain⟨d,z,j,i,g,n,r,q⟩:=(k a _ e)
 exact⟨g,⟨i,n,j⟩,r,q,z,d⟩
end
structure wo(K:ay)(C:ai):Prop where
 pg:TB K C Str.empty=true
 hd:Vu K C=true
 po:Z0 K C=true
 sa:tS K (.ref C) "__setattr__" = some (some (.builtin "object.__setattr__"))
def wo.get{K:ay}(c:wo K C)(f:Str):TB K C f=true:=c.pg
def wq(K:ay)(C:ai)(f:Str):Prop:=tS K (.ref C) f=some none
def wq.jJ'{K:ay}(n:wq K C f):Z2 K C f=some none:=by unfold Z2;rw[show tS K (.ref C) f=some none from n];rfl
structure Meth(K:ay)(C:ai)(m:Str)(f:ai):Prop where
 at_:tS K (.ref C) m=some (some (.ref f))
 fn:LG K (.ref f)=true
 kp:yv K (.ref f)=true
section
variable {X:Cx}{d:List (ai × Obj)}{j:St}{H:Hp}{s:aI}{a C p:ai}{i:List (Str × V)}{f:Str}{v:V}{A:fz}{E:ah->aI->Prop}
def jK'(I:Inv X d j H s)(e:H a=some (.ins C p i))(c:wo X.K C)(n:wq X.K C f)(l:i.lookup f=some v)(h:∀ u g,Inv X d j H g->RelV v u->Q u g):bq (aE X.prog X.w) A (getAttr (.ref a) f b) Q E s:=by
 obtain⟨q,O,r,_,_,_⟩:=MQ I.bT e;obtain⟨u,m,k⟩:=rj.some_of (by rw[<- l];exact r f);exact get_map I.iN O (c.get f) c.hd n m (jI' k) (h u _ (I.tok _) k)
def jL'(I:Inv X d j H s)(e:H a=some (.ins C p i))(c:wo X.K C)(k:Meth X.K C m g)(l:i.lookup m=none)(h:Q (.ref g,[.ref a]) s):bq (aE X.prog X.w) A (getMethod (.ref a) m o) Q E s:=by
 obtain⟨b,O,r,_,_,_⟩:=MQ I.bT e;have n:b m=none:=rj.none_of (by rw[<- l];exact r m);exact jD' I.iN O (c.get m) k.at_ k.fn n h
def jM'(I:Inv X d j H s)(e:H a=some (.ins C p i))(c:wo X.K C)(n:wq X.K C f)(M:i.length<1000)(B:RelV y u)(h:∀ m,Inv X d j (upd H a (.ins C p (gp f y i))) m->Q () m):bq (aE X.prog X.w) A (setAttr (.ref a) f u) Q E s:=by
 obtain⟨t,O,r,l,_,w⟩:=MQ I.bT e;have D:(i.map (·.1)).length<=bG:=by rw[cx,kQ];lia
 refine jE' I.iN O c.sa c.po n.jJ' c.hd l D λK k x=>h _ ?_;have G:∃ o,K.get? p=some o:=let ⟨o,_,_,L,_⟩:=k.ns;⟨o,L⟩
 refine I.write (by rw[e];exact True.intro) (.inr w) (λb q J z=>(x.2 b J).trans z) G ?_;refine⟨by rw[dr O.ne];exact w,?_,O.ne,k.obj,_,k.ns,λg=>?_,λg F=>?_⟩
 ·have:=dI' f y i;lia
 ·show rj ((gp f y i).lookup g) (if g=f then some u else t g);rw[dH'];by_cases q:g=f
  ·rw[if_pos q,if_pos q];exact B
  ·rw[if_neg q,if_neg q];exact r g
 ·by_cases q:g=f
  ·rw[q];exact(aK' f y i).1
  ·refine(aK' f y i).2 g (l g λz=>F ?_);show(if g=f then some u else t g)=none;rw[if_neg q];exact z
def Inv.made(I:Inv X d j H s):Inv X d j (upd (upd H s.heap.objs.size (.own (s.heap.objs.size+1))) (s.heap.objs.size+1) (.ins C s.heap.objs.size [])) { s with heap:=(s.heap.push G0).push (He C s.heap.objs.size) }:=by
 have g:(s.heap.push G0).get? s.heap.objs.size=some G0:=jI s.heap rfl;have m:((s.heap.push G0).push (He C s.heap.objs.size)).get? (s.heap.objs.size+1)=some (He C s.heap.objs.size):=by have:=jI (s.heap.push G0) (o:=He C s.heap.objs.size) rfl;rwa[VH] at this
 have l:(s.heap.push G0).Ns s.heap.objs.size (λ_=>none):=⟨G0,#[],_,g,rfl,(λe k=>absurd k (by simp)),λ_=>rfl⟩
 have n:=I.laid (a:=s.heap.objs.size) (o:=.own (s.heap.objs.size+1)) (t':=s.toks) (λb u q=>eS _ q) (cE _) ⟨_,g⟩;refine n.laid (t':=s.toks) (λb u q=>eS _ q) (T7 (VH _ _)) ?_;have c:s.heap.objs.size≠s.heap.objs.size+1:=gS (VM _);refine⟨by rw[dr c,eT],gy _,c,m,λ_=>none,(Heap.Ns1.of_empty l).at λo q=>eS _ q,λ_=>True.intro,λy h=>absurd rfl h⟩
def jN'(b:t9 e f I (dn e I)=dn e I)(h:bq (aE U w) A (dn e I) (λo c=>bq (aE U w) A (getAttr o f true) Q E c) E s):bq (aE U w) A (dn (.Attribute e f ab) I) Q E s :=
 Attribute_any_ h (by rw[arm_eval_Attribute,b])
end
def FH(K:ay)(e:TE)(f:Str):TE:=λd H Q=>e d H λx c=>∃ a C g b v,x=.ref a/\c a=some (.ins C g b)/\wo K C/\wq K C f/\b.lookup f=some v/\Q v c
def aL'(K:ay)(h g:TE)(f:Str):TS:=λD b H=>g b H λy i=>h b i λx e=>∃ a C d c,x=.ref a/\e a=some (.ins C d c)/\wo K C/\wq K C f/\c.length<1000 /\
 D.nx b (upd e a (.ins C d (gp f y c)))
section
variable {X:Cx}{o e b:Expr}{f:Str}{g d:Pos}{i j:TE}
def Si(t:PE X e i)(w:t9 e f X.env (dn e X.env)=dn e X.env):PE X (.Attribute e f g) (FH X.K i f):=by intro k s m H Q I h;refine jN' w (cK (t k s m H _ I h) λu J A=>?_);obtain⟨x,E,D,p,a,C,L,K,v,y,z,c,n,l,q⟩:=A;subst y;obtain rfl:u=Value.ref a:=p;exact jK' D z c n l λF G B r=>⟨v,E,B,r,q⟩
def dJ'(B:PE X o i)(z:PE X b j)(A:nL b (some (.Attribute o f d)) g.line X.env=pure false):PS X (.Assign [.Attribute o f d] b g) (aL' X.K i j f):=by intro k s m H D I h;refine plainObj_wpAny_Assign_Attribute (cK (z k s m H _ I h) λu p J=>L2.eM J λy N M r q=>cK (B k p m N _ M q) λw P G=>?_) A;obtain⟨x,S,L,t,a,C,R,Q,E,F,c,n,l,v⟩:=G;subst E;obtain rfl:w=Value.ref a:=t;exact jM' L F c n l r λO K=>⟨m,_,K,v⟩
end
section
variable {X:Cx}{d:List (ai × Obj)}{f:St}{H:Hp}{s:aI}{A:fz}{E:ah->aI->Prop}{Q:ah->aI->Prop}{c:ah}{b:Bool}
inductive A9(K:ay)(H:Hp):V->ah->Prop where
 |non:A9 K H .non (.type "NoneType")
 |bl (x:Bool):A9 K H (.bl x) (.type "bool")
 |int (i:Int):A9 K H (.int i) (.type "int")
 |str (x:Str):A9 K H (.str x) (.type "str")
 |B4 (x:UInt64):A9 K H (.B4 x) (.type "float")
 |lst {a:ai} {xs:List V} (e:H a=some (.lst xs)):A9 K H (.ref a) (.type "list")
 |wc {a:ai} {o:Obj} {xs:List V} (e:H a=some (.wc o (.lst xs))):A9 K H (.ref a) (.type "list")
 |tup {a:ai} {xs:List V} (e:H a=some (.tup xs)):A9 K H (.ref a) (.type "tuple")
 |dK {a:ai} {ae:List (Key × V)} (e:H a=some (.dK ae)):A9 K H (.ref a) (.type "dict")
 |dT {a:ai} {ae:List (List Key × V)} (e:H a=some (.dT ae)):A9 K H (.ref a) (.type "dict")
 |ins {a C dx:ai} {fs:List (Str × V)} (e:H a=some (.ins C dx fs)) (cl:wo K C) (ha:tS K (.ref C) "__class__" = some (some (.builtin "object.__class__")))
   (hn:PySem.W.specialIn K (.builtin "object.__class__") "__get__" = some (some (.builtin "getset_descriptor.__get__"))) (htk:PySem.W.takesIn K (.builtin "object.__class__")=some true)
   (hm:PySem.W.mroIn K C (.type "object")=some true):A9 K H (.ref a) (.ref C)
def Ut(I:Inv X d f H s)(g:RelV x u)(w:A9 X.K H x t)(e:PySem.W.kitOne X.K t c=some b)(h:∀ B,Q (.bool b) { s with toks:=B }) :
  bq (aE X.prog X.w) A (call (.builtin "isinstance") [u,c]) Q E s:=by
 cases w with
 |non=>cases (show u=Value.none from g);exact yn PySem.W.kitx_none I.iN True.intro e (λz=>nomatch z) h
 |bl y=>cases (show u=Value.bool y from g);exact yn PySem.W.kitx_bool I.iN True.intro e (λz=>nomatch z) h
 |int i=>obtain⟨t,q⟩:=(g);cases q;exact yn PySem.W.kitx_int I.iN True.intro e (λz=>nomatch z) h
 |str y=>obtain⟨t,q⟩:=(show ∃ t,u=Value.str y t from g);cases q;exact yn PySem.W.kitx_str I.iN True.intro e (λz=>nomatch z) h
 |B4 y=>obtain⟨t,q⟩:=(g);cases q;exact yn PySem.W.kitx_float I.iN True.intro e (λz=>nomatch z) h
 |@lst a m j =>
  cases (show u=Value.ref a from g);obtain⟨_,_,n,_,k⟩:=(I.bT a _ j)
  exact yn Z1 I.iN ⟨_,k,rfl⟩ e (λz=>nomatch z) h
 |@wc a R m j =>
  cases (show u=Value.ref a from g);obtain⟨_,_,_,n,_,k⟩:=(I.bT a _ j)
  exact yn Z1 I.iN ⟨_,k,rfl⟩ e (λz=>nomatch z) h
 |@tup a m j =>
  cases (show u=Value.ref a from g);obtain⟨_,_,_,p⟩:=(I.bT a _ j)
  obtain⟨o,k,l,_⟩:=p;exact yn PySem.W.kitx_tuple I.iN ⟨o,k,l⟩ e (λz=>nomatch z) h
 |@dK a M j =>
  cases (show u=Value.ref a from g);obtain⟨_,_,N,_,p⟩:=(I.bT a _ j)
  obtain⟨o,K,L,k,l,_⟩:=p;exact yn Vv I.iN ⟨o,k,l.1⟩ e (λz=>nomatch z) h
 |@dT a M j =>
  cases (show u=Value.ref a from g);obtain⟨_,_,m,_,o,K,L,k,l,_⟩:=(I.bT a _ j)
  exact yn Vv I.iN ⟨o,k,l.1⟩ e (λz=>nomatch z) h
 |@ins a C V T j v G D r F =>cases (show u=Value.ref a from g);obtain⟨S,O,_⟩:=MQ I.bT j;obtain⟨P,J,_⟩:=O.look;exact yn (PySem.W.kitx_own (v.get _) v.hd G D r F) I.iN J e (λz=>nomatch z) h
end
structure ja(k:Nat)(A:fz):Prop where
 hd:A.handled=none
 dp:A.depth+3*k+5<recursionLimit
 un:A.units+16*k+200<f7
def ja.mono(r:ja k A)(h:j<=k):ja j A:=⟨r.hd,by have:=r.dp;lia,by have:=r.un;lia⟩
def ja.deeper(r:ja (k+1) A)(a:Env):ja k (A.deeper a) :=
 ⟨r.hd,by have:=r.dp;show A.depth+1+3*k+5<_;lia,by have:=r.un;show A.units+3+16*k+200<_;lia⟩
def jO' {A:fz} {C:ai} {a:List ah} {b:List (Str × ah)}:(A.under (.builtin "type.__call__" ⟨.ref C :: a,b⟩)).depth=A.depth+1:=by first|rfl|simp[Around.under,Code.weight,Code.isCreation,Code.isGuard,Code.isCaller,Code.frames,Code.isFrame,guardIds]
def jP' {A:fz} {C:ai} {a:List ah} {b:List (Str × ah)}:(A.under (.builtin "type.__call__" ⟨.ref C :: a,b⟩)).units=A.units+1:=by first|rfl|simp[Around.under,Code.cUnits,Code.frames,Code.isFrame]
def ja.make (r:ja (k+1) A) (C:ai) (a:List ah) (b:List (Str × ah)):ja k (A.under (.builtin "type.__call__" ⟨.ref C :: a,b⟩)) :=
 ⟨r.hd,by have:=r.dp;rw[jO'];lia,by have:=r.un;rw[jP'];lia⟩
def ja.depth(r:ja k A):A.depth<recursionLimit:=by have:=r.dp;lia
def ja.units(r:ja k A):A.units+64<f7:=by have:=r.un;lia
def MR:TA:=λ_ H Q=>Q [] H
def Uu(d:TE)(c:TA):TA:=λa H Q=>d a H λx f=>c a f λb e=>Q (x :: b) e
section
variable {X:Cx}{e:Expr}{c:List Expr}{d:TE}{t:TA}{a:Pos}
def og:PA X [] MR:=λ_ _ _ _ H Q I h=>Calls.spliced_nil ⟨[],H,I,.nil,h⟩
def lP(r:PE X e d)(q:PA X c t)(p:autoParam (aR X e c) bv):PA X (e :: c) (Uu d t):=by intro a b s g H Q I h;rw[p];refine Calls.spliced_cons (cK (r b s g H _ I h) λu j f=>L2.eM f λx z w l n=>?_);exact cK (q a b j g z _ w n) λA B f=>L2.eM f λi y v k m=>⟨x :: i,y,v,.cons l k,m⟩
def jQ'(t:TA):TE:=λg H Q=>t g H λb f=>b.length<=bG/\∀ p,f p=none->Q (.ref p) (upd f p (.tup b))
def dL'(t:TA):TE:=λg H Q=>t g H λb f=>b.length<=bG/\∀ p,f p=none->Q (.ref p) (upd f p (.lst b))
def dM'{m}(h:PA X c t):PE X (.Tuple c m a) (jQ' t):=by intro f s k H Q I p;refine wpAny_Tuple_spliced (cK (h a f s k H _ I p) λn g zq=>?_);obtain⟨l,j,i,r,z,q⟩:=zq;refine ⟨by rw[<- r.length];exact z,?_⟩;have v:j g.heap.objs.size=none:=i.bT.fresh (cE _);refine⟨.ref g.heap.objs.size,upd j g.heap.objs.size (.tup l),i.laid (λb u e=>eS _ e) (cE _) ?_,rfl,q _ v⟩;exact⟨z,n,r,⟨_,jI _ rfl,rfl,_,rfl⟩⟩
def aM'(h:PA X c t):PE X (.List c a) (dL' t):=by intro f s k H Q I n;refine wpAny_List_spliced (cK (h a f s k H _ I n) λm g zq=>?_);obtain⟨l,j,i,r,z,q⟩:=zq;refine ⟨by rw[<- r.length];exact z,?_⟩;have p:j g.heap.objs.size=none:=i.bT.fresh (cE _);refine⟨.ref g.heap.objs.size,upd j g.heap.objs.size (.lst l),i.laid (λb u e=>eS _ e) (cE _) ?_,rfl,q _ p⟩;exact⟨z,m,0,r,jI _ rfl⟩
end
abbrev Sp:=List V->Hp->VK->XK->Prop
abbrev IC:=List Env->Hp->aI->XK->ah->aI->Prop
structure MS(P:cy)(w:c9)(K:ay)(mg:Str->Option ah)(base:d5)(A:fz)(outer:List Env)(s:aI)(H:Hp):Prop where
 frames:A.frames=some outer
 mod:Mod K mg base
 bs:∀ b o,base.get? b=some o->s.heap.get? b=some o/\H b=none
 FG:base.objs.size<=s.heap.objs.size
 A6:s.heap.FunFrames base outer
 L6:∀ b∈B5 outer,H b=none
 bT:kE P w H s.heap
 bare:AllBare s.gens
def CE(a:List Env)(P:cy)(w:c9)(H:Hp)(s:aI)(Q:VK)(u:ah)(b:aI):Prop :=
 ∃ v c,b.os=s.os/\AllBare b.gens/\Un (B5 a) [] H c s.heap b.heap/\kE P w c b.heap/\RelV v u/\Q v c
def CR(c:IC)(a:List Env)(P:cy)(w:c9)(H:Hp)(s:aI)(Q:VK)(E:XK)(r:Result)(b:aI):Prop :=
 match r with
 |.ok (.ret u)=>CE a P w H s Q u b
 |.ok _=>False
 |.error e=>c a H s E e b
structure mS(P:cy)(w:c9)(K:ay)(mg:Str->Option ah)(base:d5)(CX:IC)(k:Nat)(f:ai)(fd:sF)(ps:List Str)(sp:Sp):Prop where
 len:∀ vs H Q E,sp vs H Q E->vs.length=ps.length
 run:∀ (A:fz) (outer:List Env) (s:aI) (H:Hp) (args:Args) (us:List ah) (vs:List V) (Q:VK) (E:XK),ja k A->MS P w K mg base A outer s H->BindsTo s fd args (ps.zip us)->Vals vs us->sp vs H Q E ->
  xD (aE P w) A (.call (.ref f) args) (CR CX outer P w H s Q E) s
def MS.make{P:cy}{K:ay}(e:MS P w K U I A o s H)(C:ai)(a:List ah)(b:List (Str × ah)) :
  MS P w K U I (A.under (.builtin "type.__call__" ⟨.ref C :: a,b⟩)) o s H:=⟨by first|exact e.frames|(simpa[Around.under,Code.envs,Code.isFrame,pushEnvs] using e.frames),e.mod,e.bs,e.FG,e.A6,e.L6,e.bT,e.bare⟩
section
variable {X:Cx}{a:List (ai × Obj)}{c:St}{H:Hp}{s e:aI}
def Inv.dN'(I:Inv X a c H s):MS X.prog X.w X.K X.mg X.base X.A X.stack s H :=
 ⟨I.ok.frames,I.ok.mod,I.bs,kD I.ok.FG I.sz,I.stack,I.cY',I.bT,I.bare⟩
def Inv.after(I:Inv X a c H s)(h:CE X.stack X.prog X.w H s Q u e):EP X a c Q u e:=by obtain⟨v,m,k,f,j,l,r,q⟩:=h;obtain⟨n,g,d,t,i⟩:=e;obtain rfl:i=s.os:=k;exact⟨v,m,I.call j l f (λb z=>absurd z (by simp)),r,q⟩
end
def aN'(c:Sp)(d:List V)(E:XK)(t:TA):TE:=λa H Q=>t a H λb e=>c (b++d) e Q E
def jS'(C:ai)(m:Str)(g:Sp)(h:List V)(E:XK)(f:TE)(t:TA):TE:=λb H Q=>f b H λx d=>∃ a i c,x=.ref a/\d a=some (.ins C i c)/\c.lookup m=none /\
 t b d λe j=>g (x :: (e++h)) j Q E
def jT'(C:ai)(e:Sp)(f:List V)(E:XK)(t:TA):TE:=λc H Q=>t c H λd b=>∀ x a,b x=none->b a=none->a≠x ->
 e (.ref x :: (d++f)) (upd (upd b a (.own x)) x (.ins C a [])) (λv g=>v=.non/\Q (.ref x) g) E
def Binds(K:ay)(d:sF)(b:List Str)(c:List ah):Prop :=
 ∀ (s:aI) (a:List ah),K.In s.heap->(a++c).length=b.length->BindsTo s d ⟨a,[]⟩ (b.zip (a++c))
def Binds.all{K:ay}{b:List Str}(h:∀ a:List ah,a.length=b.length->bindArgs o ⟨a,[]⟩=pure (b.zip a)):Binds K o b []:=λs a _ c=>by rw[ng] at c ⊢;exact .of_eq (h a c)
def Passes(d:IC)(X:Cx)(E:XK):Prop:=∀ a c H s e b,Inv X a c H s->d X.stack H s E e b->X.xe e b
section
variable {X:Cx}{z:IC}{k:Nat}{f C:ai}{w:sF}{i:List Str}{n:Sp}{g:List V}{d:List ah}{E:XK}{x m:Str}{p b j:Pos}{e o:Expr}{y:List Expr}{A:TE}{t:TA}
def dO'(F:mS X.prog X.w X.K X.mg X.base z k f w i n)(v:ja k X.A)(G:Binds X.K w i d)(D:Vals g d)(q:Passes z X E)(I:Inv X U ab H s) (r:Vals vs us) (h:n (vs++g) H Q E):bq (aE X.prog X.w) X.A (call (.ref f) us) (EP X U ab Q) X.xe s:=by
 have c:Vals (vs++g) (us++d):=r.append D;have B:(us++d).length=i.length:=by rw[<- c.length];exact F.len _ _ _ _ h
 refine wpAny_call (codeAny_mono (F.run X.A X.stack s H ⟨us,[]⟩ (us++d) (vs++g) Q E v I.dN' (G s us I.iN B) c h) λr l a=>?_)
 cases r with
 |error e=>exact q U ab H s e l I a
 |ok J =>
  cases J with
  |ret u=>exact I.after a
  |next=>exact False.elim a
  |brk=>exact False.elim a
  |cont=>exact False.elim a
def jU'(F:mS X.prog X.w X.K X.mg X.base z k f w i n)(D:ja k X.A)(K:Gl X x)(G:X.mg x=some (.ref f))(J:yv X.K (.ref f)=true)(N:Binds X.K w i d)(M:Vals g d)(B:Passes z X E)(O:PA X (e :: y) t) (u:autoParam (dw x) tw) (L:autoParam (aR X e y) bv) (v:autoParam (bM X b y) bv) :
  PE X (.Call (.Name x p) (e :: y) [] b) (aN' n g E t):=by
 intro a s l H Q I h;refine LH (Wb I K G ?_ u);refine PySem.W.callWith_K I.ok.mod.V5 J (cK (O b a s l H _ I h) λS T P=>L2.eM P λR V c r q=>⟨c.iN,?_⟩) L v;exact dO' F D N M B c r q
def dP'(W:PE X o A)(c:wo X.K C)(J:Meth X.K C m f)(F:mS X.prog X.w X.K X.mg X.base z k f w i n)(V:ja k X.A)(Z:Binds X.K w i d)(Y:Vals g d)(S:Passes z X E)(U:PA X (e :: y) t)(P:autoParam (aR X e y) bv) (R:autoParam (bM X b y) bv) (T:autoParam (dn (.Call (.Attribute o m j) (e :: y) [] b) X.env=(do
   let G ← eval o X.env
   standAt j.atName
   let (f,B) ← holding [G] (getMethod G m pl)
   callWith b f B (ub b (fN (e :: y) X.env)) (zt b (zo [] X.env)))) bv) :
  PE X (.Call (.Attribute o m j) (e :: y) [] b) (jS' C m n g E A t):=by
 intro v s D H Q I h;refine PySem.W.methodCall_KW (cK (W v s D H _ I h) λu M dE=>?_) T;obtain⟨x,H1,L,N,a,dx,fs,ex,ea,l,q⟩:=dE;subst ex;obtain rfl:u=Value.ref a:=N;refine jL' L ea c J l ?_;refine PySem.W.callWith_K I.ok.mod.V5 J.kp (cK (U b v M D H1 _ L q) λus s2 cq=>L2.eM cq λvs H2 K r O=>⟨K.iN,?_⟩) P R;exact dO' (vs:=.ref a :: vs) F V Z Y S K (.cons rfl r) O
structure Mk(K:ay)(C f:ai):Prop where
 makes:Z3 K C=true
 init:tS K (.ref C) "__init__" = some (some (.ref f))
 fn:LG K (.ref f)=true
 kp:yv K (.ref C)=true
def jV'(M:Mk X.K C f)(F:mS X.prog X.w X.K X.mg X.base z k f w i n)(L:ja (k+1) X.A)(P:Binds X.K w i d)(O:Vals g d)(K:Passes z X E) (I:Inv X ab ae H s) (r:Vals vs U)(h:∀ x c,H x=none->H c=none->c≠x->n (.ref x :: (vs++g)) (upd (upd H c (.own x)) x (.ins C c [])) (λv W=>v=.non/\Q (.ref x) W) E) :
  bq (aE X.prog X.w) X.A (call (.ref C) U) (EP X ab ae Q) X.xe s:=by
 have B:=h (s.heap.objs.size+1) s.heap.objs.size (I.bT.fresh (T_ _)) (I.bT.fresh (cE _)) (gS (VM _));have l:=Inv.made (C:=C) I;have q:Vals (V.ref (s.heap.objs.size+1) :: (vs++g)) (Value.ref (s.heap.objs.size+1) :: (U++d)):=.cons rfl (r.append O);have N:(Value.ref (s.heap.objs.size+1) :: U++d).length=i.length:=by have e:=q.length;rw[F.len _ _ _ _ B] at e;exact e.symm
 refine wpAny_call (jH' I.iN M.makes M.init (beq_iff_eq.mp M.fn) (codeAny_mono (F.run _ X.stack _ _ ⟨Value.ref (s.heap.objs.size+1) :: U,[]⟩ (Value.ref (s.heap.objs.size+1) :: (U++d)) _ _ E (L.make C U []) (l.dN'.make C U []) (P _ (Value.ref (s.heap.objs.size+1) :: U) l.iN N) q B) λr D a=>?_))
 cases r with
 |error e=>exact K ab ae _ _ e D l a
 |ok R =>
  cases R with
  |ret u =>obtain⟨v,Y,T,G,S,J⟩:=l.after a;subst S;exact⟨G,⟨V.ref (s.heap.objs.size+1),Y,T,rfl,J⟩⟩
  |next=>exact False.elim a
  |brk=>exact False.elim a
  |cont=>exact False.elim a
def jW'(M:Mk X.K C f)(F:mS X.prog X.w X.K X.mg X.base z k f w i n)(q:ja (k+1) X.A)(u:Gl X x)(r:X.mg x=some (.ref C))(B:Binds X.K w i d)(v:Vals g d)(l:Passes z X E)(c:autoParam (dw x) tw):PE X (.Call (.Name x p) [] [] b) (jT' C n g E MR):=by
 intro a s D H Q I h;refine LH (Wb I u r ?_ c);exact PySem.W.callWith_K0 I.iN M.kp (jV' M F q B v l I .nil h)
end
structure Bi(N P:List Str)(sc:Scope):Prop where
 kind:sc.kind=.function
 co:sc.isCoroutine=false
 gen:sc.isGenerator=false
 nd:N.Nodup
 pre:N.take P.length=P
 par:∀ x∈P,sc.names.lookup x=some .local\/sc.names.lookup x=some .cell
 jX':∀ y∈sc.names,y.2≠.free
theorem dQ'{c:Str->Option NameKind}:∀ {a:List (Str × ah)} {m:Str->Option ah},(∀ v,(x,v)∉a)->bindL c a m x=m x
 |[],_,_=>rfl
 | (n,v) :: r,m,h=>by
  unfold bindL;rw[dQ' λw b=>h w (eI _ b)];split
  ·have:x≠n:=by rintro rfl;exact h v eK
   simp[this]
  ·rfl
theorem dR'{c:Str->Option NameKind}:∀ {a:List (Str × ah)} {m:Str->Option ah},(∀ v,(x,v)∉a)->bindC c a m x=m x
 |[],_,_=>rfl
 | (n,v) :: r,m,h=>by
  unfold bindC;rw[dR' λw b=>h w (eI _ b)];split
  ·rfl
  ·have:x≠n:=by rintro rfl;exact h v eK
   simp[this]
def dS'{f:Str->Option NameKind}:∀ {P:List Str} {a:List ah} {i:Nat} {m:Str->Option ah},P.Nodup->P[i]? = some x->a[i]? = some v->f x=some .local ->
  bindL f (P.zip a) m x=some v
 |[],_,_,_,_,h,_,_=>by simp at h
 |_ :: _,[],_,_,_,_,h,_=>by simp at h
 |p :: P,w :: a,0,m,d,c,b,e=>by simp at c b;subst c;subst b;show bindL f ((p,w) :: P.zip a) m p=_;unfold bindL;rw[dQ' λv g=>(om.mp d).1 (List.of_mem_zip g).1,if_pos e];simp
 |p :: P,w :: a,i+1,m,d,c,b,e=>by unfold bindL;exact dS' (om.mp d).2 (by simpa using c) (by simpa using b) e
def dT'{f:Str->Option NameKind}:∀ {P:List Str} {a:List ah} {i:Nat} {m:Str->Option ah},P.Nodup->P[i]? = some x->a[i]? = some v->f x≠some .local ->
  bindC f (P.zip a) m x=some v
 |[],_,_,_,_,h,_,_=>by simp at h
 |_ :: _,[],_,_,_,_,h,_=>by simp at h
 |p :: P,w :: a,0,m,d,c,b,e=>by simp at c b;subst c;subst b;show bindC f ((p,w) :: P.zip a) m p=_;unfold bindC;rw[dR' λv g=>(om.mp d).1 (List.of_mem_zip g).1,if_neg e];simp
 |p :: P,w :: a,i+1,m,d,c,b,e=>by unfold bindC;exact dT' (om.mp d).2 (by simpa using c) (by simpa using b) e
def start(N:List Str)(a:List V):St:=a.map some++List.replicate (N.length-a.length) none
def se(g:IC)(P:cy)(w:c9)(K:ay)(mg:Str->Option ah)(base:d5)(N:List Str)(b:Str)(a:Scope)(f:ai)(c:ah)(A:fz)(outer:List Env)(s:aI)(H:Hp)(E:XK):Cx where
 prog:=P
 w:=w
 K:=K
 mg:=mg
 base:=base
 A:=A.deeper (ri b a s.heap.objs.size f c)
 N:=N
 mP:=s
 Ug:=H
 env:=ri b a s.heap.objs.size f c
 outer:=outer
 stack:=ri b a s.heap.objs.size f c :: outer
 ex:=[]
 calm:=true
 fn:=λ_=>true
 pn:=[]
 xe:=λe h=>bq (aE P w) (A.deeper (ri b a s.heap.objs.size f c)) (leaving (ri b a s.heap.objs.size f c) e) (λ_ d=>g outer H s E e d) (λi d=>g outer H s E i d) h
def dU'{a:Scope}{n:Nat}{x:Str}(h:a.names.lookup x=some .cell):∃ c,(cellsFrom n a.names []).lookup x=some c:=by have q:=PySem.W.cellsFrom_some a.names n [] (.inl h);exact VR.mp q
def jY'{Y:IC}{P:cy}{w:c9}{K:ay}{Q:Str->Option ah}{m:d5}{N B:List Str}{j:Str}{d:Scope}{f:ai}{M:ah}{A:fz}{g:List Env}{s T:aI}{H:Hp}{E:XK}{O:List ah}{t:List V}(S:Bi N B d) (o:A.handled=none) (n:MS P w K Q m A g s H) (hl:t.length=B.length) (r:Vals t O)(x:InCallC s s.heap.objs.size (bindL (ri j d s.heap.objs.size f M).kindOf (B.zip O) λ_=>none) (cellsFrom (s.heap.objs.size+1) d.names []) (bindC (ri j d s.heap.objs.size f M).kindOf (B.zip O) λ_=>none) T) :
  Inv (se Y P w K Q m N j d f M A g s H E) [] (start N t) H T:=by
 have U:B.length<=N.length:=by have:=congrArg List.length S.pre;rw[lI] at this;lia
 obtain⟨L,I,rfl,X⟩:=x.done;have R:∀ b:ai,b∉(se Y P w K Q m N j d f M A g s H E).ex:=λb z=>absurd (show b∈([]:List ai) from z) (by simp);refine⟨⟨n.mod,S.kind,rfl,rfl,cE _,λy z c L l=>?_,λy D=>?_,λy c _ h=>?_,λ_=>o,Around.frames_deeper n.frames,.inr ⟨rfl,rfl⟩,λb z=>absurd z (R b),n.bs,n.FG,λb _ _=>R b,λb z=>absurd z (R b),n.A6,n.L6⟩,
  rfl,n.bare,Un.kept X,⟨_,x.toInCall.ns,λi y v L l h3=>?_⟩,λy c h=>⟨_,x.cell y c h⟩,n.bT.fresh (cE _),λy c h=>?_,λp G=>absurd (show p∈([]:List (ai × Obj)) from G) (by simp),n.bT.kept X,?_⟩
 ·exact name_of_addr x.apart (PySem.mem_of_lookup L) (PySem.mem_of_lookup l)
 ·have D:d.names.lookup y=some .cell\/d.names.lookup y=some .free:=D;rcases D with D|D
  ·exact dU' D
  ·exact absurd rfl (S.jX' _ (PySem.mem_of_lookup D))
 ·exact D4 (x.above y c (PySem.mem_of_lookup h))
 ·have J:i<t.length:=by
   unfold start at l;by_cases J:i<t.length
   ·exact J
   ·rw[DT (by simpa using J)] at l;rw[List.getElem?_replicate] at l;split at l<;>cases l
  have C:t[i]? = some v:=by
   unfold start at l;rw[HK (by simpa using J),ki] at l
   cases e:t[i]? with
   |none=>rw[e] at l;cases l
   |some a=>rw[e] at l;cases l;rfl
  obtain⟨u,W,Z⟩:=r.get C;have G:B[i]? = some y:=by rw[<- S.pre,List.getElem?_take_of_lt (by lia)];exact L
  have F:B.Nodup:=by rw[<- S.pre];exact S.nd.sublist (List.take_sublist _ _)
  refine⟨u,Z,?_⟩;rcases S.par y (oj G) with k|k
  ·exact .inl ⟨k,dS' F G W k⟩
  ·obtain⟨c,e⟩:=dU' k;refine .inr ⟨.inl k,c,e,?_⟩;have q:=x.cell y c e;rw[dT' F G W (by show d.names.lookup y≠_;rw[k];decide)] at q;exact q
 ·exact n.bT.fresh (D4 (x.above y c (PySem.mem_of_lookup h)))
 ·unfold start;show _=N.length;rw[kz,cx,Z8];lia
def jZ'{P:cy}{K:ay}{T R m O g W oc:ah}{N p:List Str} (lk:K.lookup f=some ⟨oc,od,.func (tT ar U ae af C T R m O an g W),Ee⟩) (x8:DI K g U=true) (S:Bi N p C)(i:∀ c H Q E,sp c H Q E->c.length=p.length)(B9:∀ (A:fz) (a:List Env) (s:aI) (H:Hp) (c:List V) (Q:VK) (E:XK),ja k (A.deeper (ri U C s.heap.objs.size f g))->sp c H Q E ->
   ∃ t,nh (se CX P w K mg ab N U C f g A a s H E) af t/\t { nx:=λ_ d=>Q .non d,rt:=Q } (start N c) H) :
  mS P w K mg ab CX (k+1) f (tT ar U ae af C T R m O an g W) p sp:=by
 refine⟨i,λA a s H X us c Q E L l hb r Z=>?_⟩;have hl:=i _ _ _ _ Z;have Y:K.In s.heap:=l.mod.V5.keeps λb o e=>(l.bs b o e).1;have F:s.heap.NoLimit:=l.mod.nolimit.keeps λb o e=>(l.bs b o e).1;have G:∀ y∈p.zip us,C.names.lookup y.1=some .local\/(C.names.lookup y.1=some .cell/\((cellsFrom (s.heap.objs.size+1) C.names []).lookup y.1).isSome=true):=λ⟨n,v⟩ hy=>by
  rcases S.par n (List.of_mem_zip hy).1 with q|q
  ·exact .inl q
  ·exact .inr ⟨q,PySem.W.cellsFrom_some _ _ _ (.inl q)⟩
 refine codeAny_call_function L.depth (Y _ _ lk) rfl S.co S.gen rfl (PySem.W.codeRec_of Y x8) (hb _ _ _ _ ?_);refine wpAny_newFunctionEnv_cells S.kind G λaw he M x=>?_;subst he;refine⟨F.keeps x.toInCall.keep,codeAny_func ?_⟩;obtain⟨t,ht,hq⟩:=B9 A a s H c Q E (L.deeper _) Z;have I:Inv (se CX P w K mg ab N U C f g A a s H E) [] (start N c) H M:=jY' S L.hd l hl r x;refine ua (ht [] M (start N c) H _ I hq) (λfl B h=>?_) λe B h=>h;have j:∀ {z:St} {d:Hp} {v:V} {u:ah},Inv (se CX P w K mg ab N U C f g A a s H E) [] z d B->RelV v u->Q v d->CE a P w H s Q u B :=
  λ{z d v u} J D q=>⟨v,d,J.os,J.bare,J.base,J.bT,D,q⟩
 cases fl with
 |ret u =>obtain⟨v,z,d,J,D,q⟩:=h;exact j J D q
 |next =>obtain⟨z,d,J,q⟩:=h;exact j (v:=V.non) J rfl q
 |brk =>obtain⟨_,_,_,q⟩:=h;exact False.elim q
 |cont =>obtain⟨_,_,_,q⟩:=h;exact False.elim q
section
variable {X:Cx}{x:Str}{p a:Pos}{e:Expr}{b:List Expr}{t:TA}{c T:String}{r:List V->Hp->VK->Prop}
def Wo(r:List V->Hp->VK->Prop)(t:TA):TE:=λd H Q=>t d H λf g=>r f g Q
def Wq (z:oa X (.builtin c) r) (w:Gl X x) (v:X.mg x=none) (q:mN x=some (.builtin c)) (A:PA X (e :: b) t) (u:x ≠ "__name__" := by decide) (l:autoParam (dw x) tw) (y:autoParam (aR X e b) bv) (n:autoParam (bM X a b) bv):PE X (.Call (.Name x p) (e :: b) [] a) (Wo r t):=by
 intro d s f H Q I h;refine LH (B7 I w v q ?_ u l);exact PyProof.Rows.callWith_builtin1 (cK (A a d s f H _ I h) λi j B=>L2.eM B λg E D k m=>z d j f E g i Q D k m) y n
def kb' (z:oa X (.type T) r) (w:Gl X x) (v:X.mg x=none) (q:mN x=some (.type T)) (A:PA X (e :: b) t) (u:x ≠ "__name__" := by decide) (l:autoParam (dw x) tw) (y:autoParam (aR X e b) bv) (n:autoParam (bM X a b) bv):PE X (.Call (.Name x p) (e :: b) [] a) (Wo r t):=by
 intro d s f H Q I h;refine LH (B7 I w v q ?_ u l);exact PyProof.Rows.callWith_type1 (cK (A a d s f H _ I h) λi j B=>L2.eM B λg E D k m=>z d j f E g i Q D k m) y n
end
end L2
end
namespace HT
open PySem PyProof.Rows
section
open PySem.SeqAt
open PySem.AutoSeq1 (wpAny_loadPart')
open PySem.MeetsSeq PySem.MeetsSeq2 PySem.MeetsSeq3
end
section
variable {a:cy}{w:c9}{A:fz}{E:ah->aI->Prop}{s:aI}
def kc'(u:IsTup s.heap t C.toArray)(y:IsTup s.heap b o.toArray)(l:C≠[])(B:o=[]->Q (.ref t) s) (z:o≠[]->Q (.ref s.heap.objs.size) { s with heap:=s.heap.push { cls:=.type "tuple",data:=.seq (C++o).toArray } }) (D:C.length+o.length<=bG):bq (aE a w) A (qS .Add (.ref t) (.ref b)) Q E s:=by
 obtain⟨⟨cls,m,data,j⟩,d,x,n,v⟩:=id u;obtain⟨⟨r,q,i,p⟩,f,h,k,g⟩:=id y;subst x v h g;have e:C.toArray++o.toArray=(C++o).toArray:=by simp
 by_cases c:o=[]
 ·exact concat_meets ⟨_,d,rfl⟩ ⟨_,f,rfl⟩ noFill_tuple_add seq_tuple_add PySem.F.slot_tuple_add PySem.F.entry_tuple_add (PySem.F.args_tuple_add_2 _ _) (tuple_addW1 t b C.toArray o.toArray n k m q j p (by simpa using l) (by simp[c])) ⟨d,f,B c⟩
 ·refine concat_meets ⟨_,d,rfl⟩ ⟨_,f,rfl⟩ noFill_tuple_add seq_tuple_add PySem.F.slot_tuple_add PySem.F.entry_tuple_add (PySem.F.args_tuple_add_2 _ _) (tuple_addW2 t b C.toArray o.toArray n k m q j p (by simpa using l) (by simpa using c) (by rw[kg,kg];exact D)) ⟨d,f,?_⟩
  rw[e];exact z c
def dk(n d:Nat):Option Int->Nat
 |none=>d
 |some v=>if v<0 then (v+(n:Int)).toNat else min v.toNat n
def dW'(v:Int)(n d:Nat):(if v<0 then max (v+(n:Int)) 0 else min v (n:Int))=((dk n d (some v):Nat):Int):=by
 show(if v<0 then max (v+n) 0 else min v n)=(((if v<0 then (v+n).toNat else min v.toNat n):Nat):Int)
 by_cases b:v<0
 ·simp only[if_pos b];lia
 ·simp only[if_neg b];lia
def ke'(b c:Option Int)(n:Nat):Builtin.Slice.sliceAdjust b c 1 (n:Int)=(((dk n 0 b:Nat):Int),((dk n n c:Nat):Int)):=by
 refine Prod.ext ?_ ?_
 ·cases b with
  |none=>rfl
  |some v=>exact dW' v n 0
 ·cases c with
  |none=>rfl
  |some v=>exact dW' v n n
def kf'(i j:Nat):Builtin.Slice.slicePlaces (i:Int) (j:Int) 1=j-i:=by unfold Builtin.Slice.slicePlaces;split<;>lia
def dX'(p:IsPart v o)(h:Q o s):bq (aE a w) A (Builtin.Slice.slicePartIndex v) Q E s:=by
 cases p with
 |none=>exact slicePart_none h
 |int i t=>exact slicePart_int h
def kg'{i:ai}{g f:ah}{b c:Option Int}{n:Nat}{Q:Int × Int × Nat->aI->Prop}(l:s.heap.IsSliceOf i g f .none)(k:IsPart g b)(j:IsPart f c)(h:Q (((dk n 0 b:Nat):Int),1,dk n n c-dk n 0 b) s):bq (aE a w) A (Builtin.Slice.sliceApplied (.ref i) (pure (n:Int))) Q E s:=by
 obtain⟨m,e,p,d⟩:=id l;refine ax (ax (wpAny_field e d rfl (ax (wpAny_field e d rfl (ax (wpAny_field e d rfl (bI ?_)))))));refine ax (slicePart_none ?_);refine ax (dX' k (ax (dX' j (ax (bI ?_)))));show bq _ _ (match Builtin.Slice.sliceAdjust b c 1 n with|(b,c)=>pure (b,(1:Int),Builtin.Slice.slicePlaces b c 1)) _ _ s;rw[ke' b c n];show bq _ _ (pure (((dk n 0 b:Nat):Int),1,Builtin.Slice.slicePlaces ((dk n 0 b:Nat):Int) ((dk n n c:Nat):Int) 1)) _ _ s;rw[kf'];exact bI h
def kh'(b:Array ah)(i k:Nat):((List.range k).filterMap λ(m:Nat)=>b[((i:Int)+(m:Int)*1).toNat]?).toArray=((b.toList.drop i).take k).toArray:=by
 have e:(λ(m:Nat)=>b[(i+(m:Int)*1).toNat]?)=λm=>b[i+m]? := by
  funext m;have:(i+(m:Int)*1).toNat=i+m:=by lia
  rw[this]
 rw[e];have:=pick_run b i k;rw[xd8] at this;have c:((λx=>b[x]?) ∘ λx=>i+x)=λm=>b[i+m]? := rfl;rw[c] at this;rw[this]
def ki'{b c:Option Int}(d:IsTup s.heap t o)(f:s.heap.IsSliceOf C U I .none)(i:IsPart U b)(g:IsPart I c)(k:¬ (dk o.size 0 b=0/\dk o.size o.size c=o.size))(h:Q (.ref s.heap.objs.size) { s with heap:=s.heap.push { cls:=.type "tuple",data:=.seq ((o.toList.drop (dk o.size 0 b)).take (dk o.size o.size c-dk o.size 0 b)).toArray } }) (u:o.size<=bG):bq (aE a w) A (getItem (.ref t) (.ref C)) Q E s:=by
 have Wu:sizeOk (.seq ((o.toList.drop (dk o.size 0 b)).take (dk o.size o.size c-dk o.size 0 b)).toArray):=by show((o.toList.drop (dk o.size 0 b)).take (dk o.size o.size c-dk o.size 0 b)).toArray.size<=bG;rw[kg,lI,DV,A4];lia
 obtain⟨j,m,n,v⟩:=id f;have e:s.TypeIs (.ref C) "slice" := ⟨j,m,n⟩
 unfold getItem;try with_reducible refine zk ?_
 first|refine ax (bI ?_)|skip
 refine ax (wpAny_sequenceKey d.typeIs (by decide) ?_);refine ax (TC d.typeIs PyProof.Rows.slot_tuple_getitem (HC PyProof.Rows.slot_tuple_getitem d.typeIs entry_tuple_getitem ?_ (args_tuple_getitem _ _)))
 show bq _ _ (Builtin.Tuple.tupleItemsOf (.ref t) >>= _) _ _ s;refine ax (tupleItemsOf_ d ?_);refine ax (wpAny_typeOf e ?_);refine ax (kg' f i g ?_);have l:¬ ((((dk o.size 0 b:Nat):Int) == 0 && (1:Int) == 1 && (dk o.size o.size c-dk o.size 0 b) == o.size)=true):=by intro q;rw[mn,mn] at q;have r:((dk o.size 0 b:Nat):Int)=0:=eq_of_beq q.1.1;have p:dk o.size o.size c-dk o.size 0 b=o.size:=eq_of_beq q.2;exact k ⟨by lia,by lia⟩
 show bq _ _ (if (((dk o.size 0 b:Nat):Int) == 0 && 1 == 1 && (dk o.size o.size c-dk o.size 0 b) == o.size)=true then _ else _) _ _ s;rw[if_neg l,kh'];first
  |exact ax (t5 (bI ⟨_,rfl,bI h⟩) Wu)
  |exact ax (t5 (ax (bI (bI ⟨_,rfl,bI h⟩))) Wu)
  |exact ax (ax (t5 (bI (bI ⟨_,rfl,bI h⟩)) Wu))
  |exact ax (ax (t5 (bI ⟨_,rfl,bI h⟩) Wu))
end
end HT
section
open PySem PySem.Spec PyProof.Rows
namespace L2
abbrev TO:=St->Hp->(Option Int->Hp->Prop)->Prop
def PO(X:Cx)(e:Option Expr)(t:TO):Prop :=
 ∀ a s b H Q,Inv X a b H s->t b H Q ->
  bq (aE X.prog X.w) X.A (evalPart e X.env) (λu d=>∃ o c,Inv X a b c d/\IsPart u o/\Q o c) X.xe s
def kk':TO:=λ_ H Q=>Q none H
def kl'(t:TE):TO:=λa H Q=>t a H λx b=>∃ i,x=.int i/\Q (some i) b
section
variable {X:Cx}{e:Expr}{f:TE}{c d:Option Expr}{g j:TO}{k m:Pos}
def km':PO X none kk':=by intro a s b H Q I h;exact bI ⟨none,H,I,.none,h⟩
def kn'(h:PE X e f):PO X (some e) (kl' f):=by intro a s b H Q I p;refine cK (h a s b H _ I p) λu y r=>L2.eM r λx w v l n=>?_;obtain⟨i,rfl,q⟩:=n;obtain⟨t,rfl⟩:=l;exact⟨some i,w,v,.int i t,q⟩
def Sj(X:Cx)(r:V->Option Int->Option Int->Hp->VK->Prop):Prop :=
 ∀ a s b H x v i h c d l Q,Inv X a b H s->RelV x v->s.heap.IsSliceOf l i h .none->IsPart i c->IsPart h d->r x c d H Q ->
  ∃ T n,typeLookup (.type T) "__getitem__" = pure (some (.builtin n))/\s.TypeIs v T/\bq (aE X.prog X.w) X.A (getItem v (.ref l)) (EP X a b Q) X.xe s
def tSl(r:V->Option Int->Option Int->Hp->VK->Prop)(f:TE)(g j:TO):TE:=λa H Q=>f a H λx i=>g a i λl h=>j a h λu b=>r x l u b Q
def kq'(M:Sj X r)(P:PE X e f)(N:PO X c g)(K:PO X d j):PE X (.Subscript e (.Slice c d none m) k) (tSl r f g j):=by intro a s i H Q I h;refine Subscript_ (cK (P a s i H _ I h) λv A p=>L2.eM p λx o Y B F=>?_);refine wpAny_Slice (cK (N a A i o _ Y F) λw z p=>L2.eM p λl Z W J E=>cK (K a z i Z _ W E) λt n p=>L2.eM p λu y V G D=>?_);refine bI ?_;have S:Inv X a i y { n with heap:=n.heap.push { cls:=.type "slice",data:=.fields #[w,t,.none] } }:=V.kept λb C q=>eS _ q;obtain⟨T,U,R,L,O⟩:=M a { n with heap:=n.heap.push { cls:=.type "slice",data:=.fields #[w,t,.none] } } i y x v w t l u n.heap.objs.size Q S B (Heap.IsSliceOf.new ..) J G D;exact tail_any L R O (by with_unfolding_all rfl)
def MV(a:List V)(c d:Option Int):List V:=(a.drop (HT.dk a.length 0 c)).take (HT.dk a.length a.length d-HT.dk a.length 0 c)
def dY'(a:List V)(c d:Option Int):(MV a c d).length<=a.length:=by unfold MV;rw[lI,DV];lia
def dZ'(K:ay):V->Option Int->Option Int->Hp->VK->Prop:=λx c d H Q=>∃ a b,x=.ref a/\kN K H a b /\
 ¬ (HT.dk b.length 0 c=0/\HT.dk b.length b.length d=b.length)/\∀ p,H p=none->Q (.ref p) (upd H p (.tup (MV b c d)))
def kr':Sj X (dZ' X.K):=by
 intro p s E H x v G F c d J Q I w D z y h;obtain⟨a,l,rfl,A,B,q⟩:=h;cases w;obtain⟨n,r,u,t⟩:=I.tuple A;have i:n.toArray.size=l.length:=by rw[kg];exact r.length.symm
 refine⟨"tuple",_,PyProof.Rows.slot_tuple_getitem.lookup,u.typeIs,?_⟩;refine HT.ki' u D z y (by rw[i];exact B) ?_ (by rw[i];exact t);rw[i];refine⟨.ref s.heap.objs.size,_,I.laid (λb K q=>eS _ q) (cE _) ?_,rfl,q _ (I.bT.fresh (cE _))⟩;exact⟨kD (dY' l c d) t,_,(r.drop (HT.dk l.length 0 c)).take (HT.dk l.length l.length d-HT.dk l.length 0 c),IsTup.new _ _⟩
def aP'(K:ay):R2:=λx y H Q=>∃ a b i h,x=.ref a/\y=.ref b/\kN K H a i/\kN K H b h/\i≠[]/\i.length+h.length<=bG /\ (h=[]->Q (.ref a) H)/\(h≠[]->∀ p,H p=none->Q (.ref p) (upd H p (.tup (i++h))))
def Vals.aQ'(r:Vals o C):C=[]↔o=[]:=by
 cases r with
 |nil=>simp
 |cons _ _=>simp
def kt':eJ X (qS .Add) (aP' X.K):=by intro n s K H x y v u Q I t r h;obtain⟨a,b,M,L,rfl,rfl,J,G,F,p,B,A⟩:=h;cases t;cases r;obtain⟨E,l,D,_⟩:=I.tuple J;obtain⟨O,i,m,_⟩:=I.tuple G;refine HT.kc' D m (λz=>F (l.aQ'.mp z)) (λz=>⟨.ref a,H,I,rfl,B (i.aQ'.mp z)⟩) (λz=>?_) (by rw[<- l.length,<- i.length];exact p);refine⟨.ref s.heap.objs.size,_,I.laid (λb N q=>eS _ q) (cE _) ?_,rfl,A (λw=>z (i.aQ'.mpr w)) _ (I.bT.fresh (cE _))⟩;exact⟨by rw[kz];exact p,_,l.append i,IsTup.new _ _⟩
end
def y1(n:Nat)(i:Int):Option Nat:=if 0<=i then (if i<n then some i.toNat else none) else if -(n:Int)<=i then some (i+n).toNat else none
def fT{a:Type}(xs:List a)(i:Int):Option a:=(y1 xs.length i).bind λj=>xs[j]?
def ku'(h:y1 n i=some j):seqIndex? i n=some j/\j<n/\-(n:Int)<=i/\i<n:=by
 unfold y1 at h;by_cases b:0<=i
 ·rw[if_pos b] at h;by_cases a:i<n
  ·rw[if_pos a] at h;have e:i.toNat=j:=Option.some.inj h;exact⟨by rw[seqIndex_of b a,e],by lia,by lia,a⟩
  ·rw[if_neg a] at h;cases h
 ·rw[if_neg b] at h;by_cases a:-n<=i
  ·rw[if_pos a] at h;have e:(i+n).toNat=j:=Option.some.inj h;exact⟨by rw[seqIndex_neg (by lia) a,e],by lia,a,by lia⟩
  ·rw[if_neg a] at h;cases h
def aR'{b:Type}{a:List b}{i:Int}{v:b}(h:fT a i=some v):∃ j,seqIndex? i a.length=some j/\a[j]? = some v/\j<a.length/\-(a.length:Int)<=i/\i<a.length:=by
 unfold fT at h
 cases e:y1 a.length i with
 |none=>rw[e] at h;cases h
 |some j =>rw[e] at h;obtain⟨g,f,d,c⟩:=ku' e;exact⟨j,g,h,f,d,c⟩
def qo{a:Type}{xs:List a}{j:Nat}{v:a}(h:xs[j]? = some v):fT xs (j:Int)=some v:=by
 have b:j<xs.length:=(k7.mp h).1;have e:y1 xs.length j=some j:=by unfold y1;rw[if_pos (by lia),if_pos (by lia)];simp
 unfold fT;rw[e];exact h
def aS'{b:Type}(a:List b)(v:b):fT (a++[v]) (-1)=some v:=by
 have c:(a++[v]).length=a.length+1:=by simp
 have e:y1 (a++[v]).length (-1)=some a.length:=by unfold y1;rw[c,if_neg (by decide),if_pos (by lia)];congr 1;lia
 unfold fT;rw[e];simp
def Ww(b:Expr):Prop:=∀ o i,subscripted b false o i=operate [o,i] (getItem o i)
def Ap(X:Cx)(r:R2):Prop :=
 ∀ c a b s d H x y v u Q,Inv X b d H s->RelV x v->RelV y u->r x y H Q ->
  subscripted a false v u=operate [v,u] (getItem v u)->bq (aE X.prog X.w) X.A (subscriptTail c a v u) (EP X b d Q) X.xe s
def Wx(X:Cx)(e:String)(r:V->List V->Hp->VK->Prop):Prop :=
 ∀ a s b H x c v d Q,Inv X a b H s->RelV x v->Vals c d->r x c H Q ->
  bq (aE X.prog X.w) X.A (call (.builtin e) (v :: d)) (EP X a b Q) X.xe s
section
variable {X:Cx}{a b:Expr}{B m:TE}{k:Pos}
def Ap.or(h:Ap X r)(l:Ap X o):Ap X (λx y H Q=>r x y H Q\/o x y H Q):=by
 intro c d e s f H x y v u Q I i g q j;rcases q with q|q
 ·exact h c d e s f H x y v u Q I i g q j
 ·exact l c d e s f H x y v u Q I i g q j
def aT'{r:R2}(j:Ap X r)(n:PE X a B)(l:PE X b m)(i:Ww b):PE X (.Subscript a b k) (MB r B m):=by intro c s d H Q I h;exact Subscript_ (aD' n l I h λv u e x y t p g f q=>j a b c e d t x y v u Q p g f q (i _ _))
def ea'(K:ay):R2:=λx y H Q=>∃ p c i v,x=.ref p/\y=.int i/\eP K H p c/\fT c i=some v/\Q v H
def eb'(K:ay):R2:=λx y H Q=>∃ p c i v,x=.ref p/\y=.int i/\kN K H p c/\fT c i=some v/\Q v H
def ec':R2:=λx y H Q=>∃ z i c,x=.str z/\y=.int i/\z.length<=bG/\fT z.cps.toList i=some c/\Q (.str ⟨#[c]⟩) H
def kw':Ap X (ea' X.K):=by
 intro f g c s G H x y v u Q I K J h D;obtain⟨p,T,i,z,rfl,rfl,M,O,q⟩:=h;cases K;obtain⟨t,rfl⟩:=J;obtain⟨n,r,l,V⟩:=I.list M;obtain⟨j,e,S,Y,R,P⟩:=aR' O;obtain⟨w,F,L⟩:=r.get S;have N:=r.length;have W:=aJ';have d:EP X c G Q w s:=⟨z,H,I,L,q⟩
 by_cases E:0<=i
 ·have A:i.toNat=j:=by rw[seqIndex_of E P] at e;exact Option.some.inj e
  exact item_listR l.isList E (by lia) (by rw[A];simpa using F) d D
 ·have A:(i+n.toArray.size).toNat=j:=by rw[seqIndex_neg (by lia) R] at e;rw[kg,<- N];exact Option.some.inj e
  exact subscriptTail_builtinR l.isList.typeIs slot_list_getitem.lookup (wpAny_getItem_list_neg l.isList (by lia) (by rw[kg]<;>lia) (by lia) (by rw[A];simpa using F) ⟨rfl,d⟩) D
def kx':Ap X (eb' X.K):=by
 intro d e c s l H x y v u Q I A n h F;obtain⟨p,O,i,z,rfl,rfl,G,K,q⟩:=h;cases A;obtain⟨t,rfl⟩:=n;obtain⟨E,r,g,P⟩:=I.tuple G;obtain⟨j,M,L,V,T,S⟩:=aR' K;obtain⟨w,N,D⟩:=r.get L;have J:=r.length;have R:=aJ';have f:EP X c l Q w s:=⟨z,H,I,D,q⟩
 exact subscriptTail_builtinR g.typeIs slot_tuple_getitem.lookup (getItem_tuple g (by lia) (by lia) (by rw[kg,<- J];exact M) (by simpa using N) ⟨rfl,f⟩) F
def ky':Ap X ec':=by
 intro d e f s J H x y v u Q I n l h p;obtain⟨z,i,c,rfl,rfl,L,w,q⟩:=h;obtain⟨t,rfl⟩:=n;obtain⟨K,rfl⟩:=l;obtain⟨j,g,E,N,D,A⟩:=aR' w;have r:z.cps.toList.length=z.length:=by simp[Str.length]
 rw[r] at g D A;have M:=aJ';exact tail_any (Fm s z t) slot_str_getitem.lookup (getItem_str (by
  have G:decide (i < -(2 ^ 63:Int))=false:=decide_eq_false (by lia);have F:decide (i >= 2 ^ 63)=false:=decide_eq_false (by lia);rw[G,F,Bool.or_false]) (by rw[g];simpa using E) ⟨.str ⟨#[c]⟩,H,I.tok _,⟨_,rfl⟩,q⟩) p
def rIx(K:ay):R2:=λx y H Q=>ea' K x y H Q\/eb' K x y H Q\/ec' x y H Q
def kA':Ap X (rIx X.K):=kw'.or (kx'.or ky')
def kB'(c d:Option Int)(n:Nat):(LN c d none n).1=((HT.dk n 0 c:Nat):Int)/\(LN c d none n).2.1=((HT.dk n n d:Nat):Int)/\(LN c d none n).2.2=1:=by
 refine⟨?_,?_,rfl⟩
 ·cases c with
  |none=>simp[LN,HT.dk]
  |some i =>
   simp only[LN,HT.dk,Option.getD_none,show 1>0 by decide,if_true];by_cases h:i<0
   ·simp only[h,if_true]<;>lia
   ·simp only[h,if_false]<;>lia
 ·cases d with
  |none=>simp[LN,HT.dk]
  |some i =>
   simp only[LN,HT.dk,Option.getD_none,show 1>0 by decide,if_true];by_cases h:i<0
   ·simp only[h,if_true]<;>lia
   ·simp only[h,if_false]<;>lia
def kC'(c:List ah)(d e:Option Int):slicePick c.toArray d e none=((c.drop (HT.dk c.length 0 d)).take (HT.dk c.length c.length e-HT.dk c.length 0 d)).toArray:=by obtain⟨h,g,f⟩:=kB' d e c.toArray.size;unfold slicePick;rw[h,g,f];simp only[sliceRange_one,pick_run,kg]<;>rfl
def kD'(K:ay):V->Option Int->Option Int->Hp->VK->Prop:=λx d e H Q=>∃ a c,x=.ref a/\eP K H a c/\∀ p,H p=none->Q (.ref p) (upd H p (.lst (MV c d e)))
def kE':Sj X (kD' X.K):=by intro f s y H x v A z e i D Q I j w n l h;obtain⟨a,c,rfl,u,q⟩:=h;cases j;obtain⟨p,r,g,t⟩:=I.list u;have d:=r.length;refine⟨"list",_,slot_list_getitem.lookup,g.isList.typeIs,?_⟩;refine wpAny_getItem_list_slice g.isList w n l .none (by simp) ?_ (by rw[kg]<;>lia);rw[kC',<- d];refine⟨.ref s.heap.objs.size,_,I.laid (λb E q=>eS _ q) (cE _) ?_,rfl,q _ (I.bT.fresh (cE _))⟩;exact⟨kD (dY' c e i) t,_,0,(r.drop (HT.dk c.length 0 e)).take (HT.dk c.length c.length i-HT.dk c.length 0 e),jI _ rfl⟩
def EA:V->Bool
 |.non=>true
 |.bl _=>true
 |.int _=>true
 |.str _=>true
 |_=>false
def FK:V->V->Bool
 |.non,.non=>true
 |.bl a,.bl b=>a == b
 |.bl a,.int b=>(if a then 1 else 0) == b
 |.int a,.bl b=>a == (if b then 1 else 0)
 |.int a,.int b=>a == b
 |.str a,.str b=>a == b
 |_,_=>false
def kF'(e:RelV y u)(c:RelV x v)(g:EA y=true)(f:EA x=true):SeqAt.EqAt A s u v (FK y x):=by
 cases y with
 |non =>
  cases e
  cases x with
  |non=>cases c;exact SeqAt.EqAt.same _
  |bl b=>cases c;exact SeqAt.EqAt.none_bool b
  |int b=>obtain⟨t,rfl⟩:=c;exact SeqAt.EqAt.none_int b t
  |str b=>obtain⟨t,rfl⟩:=c;exact SeqAt.EqAt.none_str b t
  |_=>exact absurd (f) nX
 |bl a =>
  cases e
  cases x with
  |non=>cases c;exact SeqAt.EqAt.bool_none a
  |bl b=>cases c;exact SeqAt.EqAt.bool_bool a b
  |int b=>obtain⟨t,rfl⟩:=c;exact SeqAt.EqAt.bool_int a b t
  |str b=>obtain⟨t,rfl⟩:=c;exact SeqAt.EqAt.bool_str a b t
  |_=>exact absurd (f) nX
 |int a =>
  obtain⟨d,rfl⟩:=e
  cases x with
  |non=>cases c;exact SeqAt.EqAt.int_none a d
  |bl b=>cases c;exact SeqAt.EqAt.int_bool a d b
  |int b=>obtain⟨t,rfl⟩:=c;exact SeqAt.EqAt.int_int a d b t
  |str b=>obtain⟨t,rfl⟩:=c;exact SeqAt.EqAt.int_str a d b t
  |_=>exact absurd (f) nX
 |str a =>
  obtain⟨d,rfl⟩:=e
  cases x with
  |non=>cases c;exact SeqAt.EqAt.str_none a d
  |bl b=>cases c;exact SeqAt.EqAt.str_bool a d b
  |int b=>obtain⟨t,rfl⟩:=c;exact SeqAt.EqAt.str_int a d b t
  |str b=>obtain⟨t,rfl⟩:=c;exact SeqAt.EqAt.str_str a d b t
  |_=>exact absurd (f) nX
 |_=>exact absurd (g) nX
def FL(x:V)(u:ah):Bool:=match u with
 |.none=>FK .non x
 |.bool b=>FK (.bl b) x
 |.int i _=>FK (.int i) x
 |.str z _=>FK (.str z) x
 |_=>false
def ed'(r:RelV y u)(f:EA y=true):FL x u=FK y x:=by
 cases y with
 |non=>cases r;rfl
 |bl b=>cases r;rfl
 |int i=>obtain⟨t,rfl⟩:=r;rfl
 |str z=>obtain⟨t,rfl⟩:=r;rfl
 |_=>exact absurd (f) nX
def ee'{c:List V}{d:List ah}(h:Vals c d):c.all EA=true->d.any (FL x)=c.any λy=>FK y x:=by
 induction h with
 |nil=>exact λ_=>rfl
 |cons r _ e=>intro f;rw[D2,mn] at f;rw[Fs,Fs,ed' r f.1,e f.2]
def ef'(g:RelV x v)(j:EA x=true){d:List V}{e:List ah}(h:Vals d e):d.all EA=true->∀ u∈e,SeqAt.EqAt A s u v (FL x u):=by
 induction h with
 |nil=>exact λ_ u c=>by cases c
 |cons r _ i =>
  intro f u c;rw[D2,mn] at f;rcases dQ.mp c with rfl|c
  ·rw[ed' r f.1];exact kF' r g f.1 j
  ·exact i f.2 u c
def Wy(x:V)(c:List V):Bool:=c.any λy=>FK y x
def Wz(K:ay)(d:Bool):R2:=λx y H Q=>∃ p c,y=.ref p/\(eP K H p c\/kN K H p c)/\EA x=true/\c.all EA=true/\Q (.bl (if d then !Wy x c else Wy x c)) H
def kG':eJ X (iX .In) (Wz X.K false):=by
 intro j s z H x y v u Q I i n h;obtain⟨p,A,rfl,d,l,e,q⟩:=h;cases n;rcases d with d|d
 ·obtain⟨c,r,f,t⟩:=I.list d;refine SeqAt.in_listAt (FL x) f.isList (λw g=>ef' i l r e w (by simpa using g)) ⟨.bl _,H,I,rfl,?_⟩;rw[show c.toArray.any (FL x)=c.any (FL x) by simp,ee' r e];exact q
 ·obtain⟨c,r,f,t⟩:=I.tuple d;refine SeqAt.in_tupleAt (FL x) f (λw g=>ef' i l r e w (by simpa using g)) ⟨.bl _,H,I,rfl,?_⟩;rw[show c.toArray.any (FL x)=c.any (FL x) by simp,ee' r e];exact q
def oa.or(h:oa X f r)(j:oa X f o):oa X f (λd H Q=>r d H Q\/o d H Q):=by
 intro c s e H d g Q I i q;rcases q with q|q
 ·exact h c s e H d g Q I i q
 ·exact j c s e H d g Q I i q
def kH':oa X (.type "list") (λF H Q=>∃ p f,F=[.ref p]/\(eP X.K H p f\/kN X.K H p f)/\∀ l,H l=none->Q (.ref l) (upd H l (.lst f))):=by
 intro j s J H F L Q I r h;obtain⟨p,f,rfl,w,q⟩:=h;obtain⟨u,rfl,K⟩:=vals1 r;cases K;have y:∀ c,Vals f c->f.length<=bG->∀ d i,(∀ b G,s.heap.get? b=some G->d.get? b=some G) ->
   d.get? s.heap.objs.size=some { cls:=.type "list",dict:=none,data:=.seq c.toArray i,slots:=#[] }->EP X j J Q (.ref s.heap.objs.size) { s with heap:=d }:=λc g v d i t e =>
  ⟨.ref s.heap.objs.size,_,I.laid t (cE _) (show n4 X.prog X.w _ d _ (.lst f) from⟨v,c,i,g,e⟩),rfl,q _ (I.bT.fresh (cE _))⟩
 rcases w with w|w
 ·obtain⟨c,g,z,v⟩:=I.list w;have x:=g.length;obtain⟨o,A,E,n,D⟩:=z.isList;exact call_list_seq p (.inl rfl) A E D (λd i t e=>y c g v d i t e) (by simp only[kg]<;>lia)
 ·obtain⟨c,g,z,v⟩:=I.tuple w;have x:=g.length;obtain⟨o,A,E,n,D⟩:=z;exact call_list_seq p (.inr rfl) A E D (λd i t e=>y c g v d i t e) (by simp only[kg]<;>lia)
def kI':oa X (.type "tuple") (λv H Q=>∃ p f,v=[.ref p]/\((eP X.K H p f/\∀ l,H l=none->Q (.ref l) (upd H l (.tup f)))\/(kN X.K H p f/\Q (.ref p) H))):=by
 intro c s t H v E Q I r h;obtain⟨p,f,rfl,h⟩:=h;obtain⟨u,rfl,z⟩:=vals1 r;cases z;rcases h with⟨n,q⟩|⟨n,q⟩
 ·obtain⟨d,i,j,w⟩:=I.list n;have x:=i.length;refine call_tuple_list j.isList (λg A=>?_) (by simp only[kg]<;>lia);have y:Inv X c t H { s with heap:=g }:=I.kept A;have D:Inv X c t (upd H g.objs.size (.tup f)) { s with heap:=g.push { cls:=.type "tuple",data:=.seq d.toArray } } :=
   y.laid (λb o e=>eS _ e) (cE _) (⟨w,d,i,IsTup.new _ _⟩)
  exact⟨.ref g.objs.size,_,D,rfl,q _ (y.bT.fresh (cE _))⟩
 ·obtain⟨d,i,j,w⟩:=I.tuple n;exact call_tuple_same j ⟨.ref p,H,I,rfl,q⟩
def WB(K:ay)(T:String)(x:V)(H:Hp):Prop:=match x with
 |.str _=>T = "str"
 |.int _=>T = "int"
 |.ref p=>(T = "list"/\∃ d,eP K H p d)\/(T = "tuple"/\∃ o,K.lookup p=some o/\o.cls=.type "tuple"/\o.dict=none) \/
   (T = "dict"/\((∃ c,H p=some (.dK c))\/∃ c,H p=some (.dT c)))\/(T = "set"/\∃ S n,H p=some (.set S n))
 |_=>False
def eg'{T:String}(I:Inv X C U H s)(r:RelV x v)(g:WB X.K T x H) :
  s.TypeIs v T/\∀ a,v=.ref a->∃ q,s.heap.get? a=some q/\q.dict=none:=by
 cases x with
 |str z =>obtain⟨t,rfl⟩:=r;cases (g);exact⟨Fm s z t,λ_ e=>nomatch e⟩
 |int i =>obtain⟨t,rfl⟩:=r;cases (g);exact⟨typeIs_int s i t,λ_ e=>nomatch e⟩
 |ref p =>
  cases r;rcases g with⟨rfl,D,w⟩|⟨rfl,o,d,y,h⟩|⟨rfl,d⟩|⟨rfl,S,n,d⟩
  ·obtain⟨u,_,l,_⟩:=I.list w;refine⟨l.isList.typeIs,λa e=>?_⟩;cases e;obtain⟨o,n,e,c,h,_⟩:=l;exact⟨o,e,h⟩
  ·refine⟨⟨o,I.iN p o d,y⟩,λa e=>?_⟩;cases e;exact⟨o,I.iN _ o d,h⟩
  ·have z:∃ o,s.heap.get? p=some o/\o.ExactDict:=by
    rcases d with⟨A,d⟩|⟨A,d⟩
    ·obtain⟨_,_,_,_,o,_,_,e,f,_⟩:=I.bT p _ d;exact⟨o,e,f⟩
    ·obtain⟨_,_,_,_,o,_,_,e,f,_⟩:=I.bT p _ d;exact⟨o,e,f⟩
   obtain⟨o,e,f⟩:=z;refine⟨⟨o,e,f.1⟩,λa j=>?_⟩;cases j;exact⟨o,e,f.2.1⟩
  ·obtain⟨o,_,_,_,e,f,_⟩:=I.bT p _ d;refine⟨⟨o,e,f.1⟩,λa j=>?_⟩;cases j;exact⟨o,e,f.2.1⟩
 |_=>exact False.elim g
def kJ'(K:ay)(T:String)(r:V->List V->Hp->VK->Prop)(e:TE):TE:=λd H Q=>e d H λx c=>WB K T x c/\r x [] c Q
def tBM(K:ay)(T:String)(r:V->List V->Hp->VK->Prop)(f:TE)(t:TA):TE:=λc H Q=>f c H λx d=>WB K T x d/\t c d λe g=>r x e g Q
variable {o e:Expr}{i:List Expr}{j:TE}{t:TA}{c:Str}{d f:Pos}{T g:String}{r:V->List V->Hp->VK->Prop}
def ei' (D:PlainAttrs T) (p:Slot T c g) (M:typeOf (.builtin g)=pure (.type "method_descriptor")) (G:Wx X g r) (F:PE X o j)(E:autoParam (t9 o c X.env (dn o X.env)=dn o X.env) bv) (n:autoParam ((d.endLine == f.line)=true) bv):PE X (.Call (.Attribute o c d) [] [] f) (kJ' X.K T r j):=by
 intro l s q H Q I h;refine wpAny_Call_method0_late E n (cK (F l s q H _ I h) λv z L=>?_);obtain⟨x,N,w,u,y,A⟩:=L;obtain⟨K,J⟩:=eg' w u y;exact⟨T,g,D,p,M,K,J,Calls.callWith_builtin rfl (PySem.evalArgs_none (G l z q N x [] v [] Q w u .nil A))⟩
def IJ (N:PlainAttrs T) (p:Slot T c g) (U:typeOf (.builtin g)=pure (.type "method_descriptor")) (S:Wx X g r) (R:PE X o j) (V:PA X (e :: i) t)(O:autoParam (t9 o c X.env (dn o X.env)=dn o X.env) bv) (F:autoParam (((ub f (fN (e :: i) X.env)).all (λx=>!x.1) && (zt f (zo [] X.env)).all (λx=>x.1.isSome)
   && decide ((e :: i).length+([]:List qV).length+(if ([]:List qV).isEmpty then 0 else 1)<30))=true) bv)
  (n:autoParam ((d.endLine == f.line)=true) bv) (P:autoParam (aR X e i) bv) (A:autoParam (bM X f i) bv) :
  PE X (.Call (.Attribute o c d) (e :: i) [] f) (tBM X.K T r j t):=by
 intro l s q H Q I h;refine wpAny_Call_method_late O F n rfl (cK (R l s q H _ I h) λv J Z=>?_);obtain⟨x,H1,y,u,E,M⟩:=Z;obtain⟨Y,W⟩:=eg' y u E;refine⟨T,g,N,p,U,Y,W,?_⟩;have w:=V f l J q H1 _ y M;rw[P] at w ⊢;refine Calls.callWith_builtin (by show(false || (ub f (fN i X.env)).any (·.1))=false;rw[A]<;>rfl) (Calls.evalArgs_plain ?_);exact cK w λD G C=>L2.eM C λz H2 I2 K L=>S l G q H2 x z v D Q I2 u K L
end
def MtM(X:Cx)(e:String)(r:V->List V->Hp->VK->Prop):Prop :=
 ∀ a s b H x c v d Q,Inv X a b H s->RelV x v->Vals c d->r x c H Q ->
  bq (aE X.prog X.w) X.A (call (.builtin e) (v :: d)) (EP X a b Q) X.xe s
def Vals.one{x:V}{a:List ah}(h:Vals [x] a):∃ u,a=[u]/\RelV x u:=by cases h;rename_i r h;cases h;exact⟨_,rfl,‹_›⟩
def Vals.two{x y:V}{a:List ah}(h:Vals [x,y] a):∃ u v,a=[u,v]/\RelV x u/\RelV y v:=by cases h;rename_i r h;cases h;rename_i q h;cases h;exact⟨_,_,rfl,‹_›,‹_›⟩
theorem Vals.zero:∀ {a:List ah},Vals [] a->a=[]
 |_,.nil=>rfl
def Vals.dropLast(h:Vals o C):Vals o.dropLast C.dropLast:=by
 induction h with
 |nil=>exact .nil
 |cons r t a =>
  cases t with
  |nil=>exact .nil
  |cons q b=>exact .cons r a
def Vals.reverse(h:Vals xs o):Vals xs.reverse o.reverse:=by
 induction h with
 |nil=>exact .nil
 |cons r t a=>rw[pS,pS];exact Vals.append a (.cons r .nil)
def kK'{c:Type}(l:List c):l.eraseIdx (l.length-1)=l.dropLast:=by
 induction l with
 |nil=>rfl
 |cons a r d =>
  cases r with
  |nil=>rfl
  |cons b r =>
   have e:(a :: b :: r).length-1=((b :: r).length-1)+1:=by have g:(a :: b :: r).length=r.length+2:=rfl;have f:(b :: r).length=r.length+1:=rfl;lia
   rw[e,List.eraseIdx_cons_succ,d];all_goals rfl
section
variable {X:Cx}{a:List (ai × Obj)}{b:St}{H:Hp}{s:aI}{l:ai}{d c:List V}
def Inv.aV'{g h:List ah}{n:Nat}{f:Array ah->Array ah}{i:Nat}(I:Inv X a b H s)(t:H l=some (.lst d))(e:s.heap.get? l=some { cls:=.type "list",data:=.seq g.toArray n }) (p:f g.toArray=h.toArray) (k:Vals c h) (j:c.length<=bG) :
  Inv X a b (upd H l (.lst c)) { s with heap:=s.heap.update l (Obj.mapSeq f),toks:=i }:=by
 have q:=PySem.IsL.update e f;rw[p] at q;refine I.write (by rw[t];exact trivial) (.inl rfl) (λv u r m=>(D3 s.heap (Obj.mapSeq f) (Ne.symm r)).trans m) ⟨_,q⟩ ?_;exact⟨j,h,_,k,q⟩
def Inv.WC(I:Inv X a b H s)(f:Vals c its)(e:c.length<=bG) :
  Inv X a b (upd H s.heap.objs.size (.lst c)) { s with heap:=s.heap.push { cls:=.type "list",data:=.seq its.toArray },toks:=t' } :=
 I.laid (λ_ _ q=>eS _ q) (cE _) ⟨e,its,0,f,jI _ rfl⟩
def Inv.fresh(I:Inv X a b H s):H s.heap.objs.size=none:=I.bT.fresh (cE _)
def Inv.WD (I:Inv X a b H s) (g:H l=some (.lst d)):d.length<=bG/\∃ (f:List ah) (n:Nat),Vals d f/\d.length=f.length/\s.heap.get? l=some { cls:=.type "list",data:=.seq f.toArray n }:=by obtain⟨z,f,n,r,e⟩:=I.bT l _ g;exact⟨z,f,n,r,r.length,e⟩
def kL'(h:n<=bG):Builtin.List.listTooLong n=false:=by exact decide_eq_false (by lia)
end
section
variable {X:Cx}
def aW':V->List V->Hp->VK->Prop:=λx b H Q=>∃ l a y,x=.ref l/\b=[y]/\H l=some (.lst a)/\a.length<bG/\Q .non (upd H l (.lst (a++[y])))
def Sn:MtM X "list.append" aW':=by intro b s i H x k v m Q I d f h;obtain⟨l,j,y,rfl,rfl,c,p,q⟩:=h;cases d;obtain⟨u,rfl,g⟩:=f.one;obtain⟨z,a,n,r,t,e⟩:=I.WD c;refine call_meets F.slot_list_append ⟨_,e,rfl⟩ F.entry_list_append (F.args_list_append_2 _ _) (PySem.list_append l a.toArray n u (by rw[kg];lia)) ⟨e,?_⟩;refine⟨.non,_,I.aV' c e (by simp) (r.append (.cons g .nil)) ?_,rfl,q⟩;rw[kz,Z9];lia
def kM':V->List V->Hp->VK->Prop:=λx d H Q=>∃ l b c a,x=.ref l/\d=[.ref b]/\H l=some (.lst c)/\H b=some (.lst a)/\c.length+a.length<=bG/\Q .non (upd H l (.lst (c++a)))
def kN':MtM X "list.extend" kM':=by
 intro f s A H x J v K Q I i j h;obtain⟨l,b,G,B,rfl,rfl,g,t,L,q⟩:=h;cases i;obtain⟨u,rfl,k⟩:=j.one;cases k;obtain⟨z,a,n,r,M,e⟩:=I.WD g;obtain⟨D,d,p,m,E,y⟩:=I.WD t;have w:a.toArray.size+d.toArray.size<=bG:=by rw[kg,kg];lia
 have c:¬ (!a.toArray.isEmpty && Builtin.List.listTooLong (a.toArray.size+d.toArray.size))=true:=by rw[kL' w,Bool.and_false];exact nX
 refine call_meets F.slot_list_extend ⟨_,e,rfl⟩ F.entry_list_extend (F.args_list_extend_2 _ _) (AutoSeq1.list_extend_list_list_0 l a.toArray n b d.toArray p c (by rw[kg];lia) (by lia)) ⟨e,y,?_⟩
 refine⟨.non,_,I.aV' g e (by simp) (r.append m) ?_,rfl,q⟩;rw[kz];lia
def kP':V->List V->Hp->VK->Prop:=λx b H Q=>∃ l a y,x=.ref l/\b=[]/\H l=some (.lst a)/\a[a.length-1]? = some y/\Q y (upd H l (.lst a.dropLast))
def ej':MtM X "list.pop" kP':=by
 intro d s t H x A v B Q I g i h;obtain⟨l,w,y,rfl,rfl,f,k,q⟩:=h;cases g;have c:=i.zero;subst c;obtain⟨z,a,n,r,p,e⟩:=I.WD f;obtain⟨u,m,j⟩:=r.get k;have b:a.toArray[a.toArray.size-1]? = some u:=by show a.toArray[a.length-1]? = some u;rw[<- sP,<- p];exact m
 refine call_meets F.slot_list_pop ⟨_,e,rfl⟩ F.entry_list_pop (F.args_list_pop_1 _) (MeetsSeq.list_pop_last l a.toArray n u b (by rw[kg];lia)) ⟨e,?_⟩;refine⟨y,_,I.aV' f e ?_ r.dropLast ?_,j,q⟩
 ·show a.toArray.eraseIdxIfInBounds (a.toArray.size-1)=a.dropLast.toArray;rw[kg,List.eraseIdxIfInBounds_toArray,kK']
 ·rw[List.length_dropLast];lia
def len_rep{b:Type}(a:List b)(k:Nat):(List.replicate k a).flatten.length=k*a.length:=by
 induction k with
 |zero=>simp
 |succ k c=>rw[xd0,xee,kz,c,Nat.succ_mul,T8]
end
section
set_option maxRecDepth 100000 in
end
section
variable {κ:Type}[DecidableEq κ]
def gV(b:List (κ × V))(k:κ):Option V:=(b.find? λa=>decide (a.1=k)).map (·.2)
def putK(b:List (κ × V))(k:κ)(v:V):List (κ × V) :=
 if (b.any λa=>decide (a.1=k))=true then b.map (λa=>if a.1=k then (a.1,v) else a) else b++[(k,v)]
def Au{p:κ × V}{r:List (κ × V)}{k:κ}(e:p.1=k):gV (p :: r) k=some p.2:=by simp[gV,D1,e]
def AA{p:κ × V}{r:List (κ × V)}{k:κ}(e:¬ p.1=k):gV (p :: r) k=gV r k:=by simp[gV,D1,e]
theorem Uy(k:κ):∀ a:List (κ × V),(a.any λb=>decide (b.1=k))=(gV a k).isSome
 |[]=>rfl
 |p :: r=>by
  rw[Fs];by_cases e:p.1=k
  ·simp only[Au e,decide_eq_true e,Bool.true_or,Option.isSome_some]
  ·rw[AA e,decide_eq_false e,Bool.false_or];exact Uy k r
theorem ek'(k j:κ)(y:V):∀ c:List (κ × V),gV (c.map λa=>if a.1=k then (a.1,y) else a) j=(gV c j).map λx=>if j=k then y else x
 |[]=>rfl
 |p :: r=>by
  have b:=ek' k j y r;rw[eR];by_cases h:p.1=k
  ·rw[if_pos h];by_cases e:p.1=j
   ·rw[Au (p:=(p.1,y)) e,Au e,Ua,if_pos (e.symm.trans h)]
   ·rw[AA (p:=(p.1,y)) e,AA e,b]
  ·rw[if_neg h];by_cases e:p.1=j
   ·rw[Au e,Au e,Ua,if_neg (λz=>h (e.trans z))]
   ·rw[AA e,AA e,b]
theorem el'(k j:κ)(y:V):∀ b:List (κ × V),gV b k=none->gV (b++[(k,y)]) j=if j=k then some y else gV b j
 |[],_=>by
  by_cases e:k=j
  ·rw[if_pos e.symm];exact Au e
  ·rw[if_neg (λz=>e z.symm)];exact AA e
 |p :: r,a=>by
  rw[HL];have c:¬ p.1=k:=λz=>by rw[Au z] at a;cases a
  rw[AA c] at a;have d:=el' k j y r a;by_cases e:p.1=j
  ·rw[Au e,Au e,if_neg (λz=>c (e.trans z))]
  ·rw[AA e,AA e,d]
def kS'(b:List (κ × V))(k j:κ)(y:V):gV (putK b k y) j=if j=k then some y else gV b j:=by
 unfold putK;by_cases a:(b.any λc=>decide (c.1=k))=true
 ·rw[if_pos a,ek'];rw[Uy] at a;by_cases e:j=k
  ·obtain⟨x,d⟩:=VR.mp a;rw[if_pos e,e,d,Ua,if_pos rfl]
  ·rw[if_neg e]
   cases gV b j with
   |none=>rfl
   |some x=>rw[Ua,if_neg e]
 ·rw[if_neg a];refine el' k j y b ?_;rw[Uy] at a
  cases q:gV b k with
  |none=>rfl
  |some x=>rw[q] at a;exact(a rfl).elim
def WH(a:List (κ × V))(k:κ)(v:V):(putK a k v).length<=a.length+1:=by
 unfold putK;split
 ·rw[cx];exact Nat.le_add_right _ _
 ·rw[kz,gi,P6];exact cE _
def rj.Uz(r:rj o u):o.isSome=u.isSome:=by
 cases o with
 |none=>cases u with
  |none=>rfl
  |some _=>exact(r).elim
 |some _=>cases u with
  |none=>exact(r).elim
  |some _=>rfl
def rj.getD(r:rj o u)(a:RelV d C):RelV (o.getD d) (u.getD C):=by
 cases o with
 |none=>cases u with
  |none=>exact a
  |some _=>exact(r).elim
 |some _=>cases u with
  |none=>exact(r).elim
  |some _=>exact r
def KV.val{g:List (κ × V)}{d:List (κ × ah)}(r:KV g d)(k:κ):rj (gV g k) (valueAt d k):=by
 induction r with
 |nil=>exact True.intro
 |@cons p q l a h t i =>
  obtain⟨f,j⟩:=h;by_cases e:p.1=k
  ·have c:q.1=k:=f.symm.trans e;have b:valueAt (q :: a) k=some q.2:=by simp[valueAt,D1,c]
   rw[Au e,b];exact j
  ·have c:¬ q.1=k:=λz=>e (f.trans z);have b:valueAt (q :: a) k=valueAt a k:=by simp[valueAt,D1,c]
   rw[AA e,b];exact i
def KV.any(r:KV C o)(k:κ):(C.any λa=>decide (a.1=k))=o.any λa=>decide (a.1=k):=by
 induction r with
 |nil=>rfl
 |cons h t b=>rw[Fs,Fs,b,h.1]
def KV.repl(r:KV C o)(k:κ)(c:RelV y u) :
  KV (C.map λa=>if a.1=k then (a.1,y) else a) (o.map λa=>if a.1=k then (a.1,u) else a):=by
 induction r with
 |nil=>exact .nil
 |@cons p q i g h t d =>
  rw[eR,eR];refine .cons ?_ d;obtain⟨b,f⟩:=h;by_cases e:p.1=k
  ·rw[if_pos e,if_pos (b.symm.trans e)];exact⟨b,c⟩
  ·rw[if_neg e,if_neg (λz=>e (b.trans z))];exact⟨b,f⟩
def KV.put(r:KV C o)(k:κ)(a:RelV y u):KV (putK C k y) (stored o k u):=by
 unfold putK stored;rw[r.any k];by_cases e:(o.any λb=>decide (b.1=k))=true
 ·rw[if_pos e,if_pos e];exact r.repl k a
 ·rw[if_neg e,if_neg e];exact Paired.snoc r ⟨rfl,a⟩
def KV.length(r:KV o vs):o.length=vs.length:=Paired.length r
end
def MX{P:cy}(r:RelV (kV k) u):(i3 P w).is k u=true:=by
 cases k with
 |inl i=>obtain⟨t,e⟩:=(r);subst e;exact hH' P w i t
 |inr x=>obtain⟨t,e⟩:=(r);subst e;exact V3 P w x t
theorem aX'{P:cy}:∀ {a:List Key} {b:List ah},Vals (a.map kV) b->ItemsAre (i3 P w) a b
 |[],_,r=>by rw[P7] at r;cases r;exact .nil
 |k :: a,_,r=>by
  cases r with
  |cons h t=>exact .cons (MX h) (aX' t)
abbrev KT(H:Hp):List (List Key × V)->List (List Key × ai × ah)->Prop:=Paired λp q=>p.1=q.1/\H q.2.1=some (.tup (p.1.map kV))/\RelV p.2 q.2.2
def KT.val{H:Hp}{g:List (List Key × V)}{d:List (List Key × ai × ah)}(r:KT H g d)(k:List Key):rj (gV g k) ((atKey d k).map (·.2)):=by
 induction r with
 |nil=>exact True.intro
 |@cons p q l a h t i =>
  obtain⟨f,_,j⟩:=h;by_cases e:p.1=k
  ·have c:q.1=k:=f.symm.trans e;have b:atKey (q :: a) k=some q.2:=by simp[atKey,D1,c]
   rw[Au e,b];exact j
  ·have c:¬ q.1=k:=λz=>e (f.trans z);have b:atKey (q :: a) k=atKey a k:=by simp[atKey,D1,c]
   rw[AA e,b];exact i
def KT.repl(r:KT H C o)(k:List Key)(d:RelV y u) :
  KT H (C.map λb=>if b.1=k then (b.1,y) else b) (o.map (putAt k u)):=by
 induction r with
 |nil=>exact .nil
 |@cons p q j i h t f =>
  rw[eR,eR];refine .cons ?_ f;obtain⟨a,c,g⟩:=h;unfold putAt;by_cases e:p.1=k
  ·rw[if_pos e,if_pos (a.symm.trans e)];exact⟨a,c,d⟩
  ·rw[if_neg e,if_neg (λz=>e (a.trans z))];exact⟨a,c,g⟩
def KT.put(r:KT H C o)(k:List Key)(d:H b=some (.tup (k.map kV)))(a:RelV y u) :
  KT H (putK C k y) (storedH o k b u):=by
 have e:(C.any λc=>decide (c.1=k))=(atKey o k).isSome:=by rw[Uy,(r.val k).Uz,VW]
 unfold putK storedH;rw[e];by_cases q:(atKey o k).isSome=true
 ·rw[if_pos q,if_pos q];exact r.repl k a
 ·rw[if_neg q,if_neg q];exact Paired.snoc r ⟨rfl,d,a⟩
def KT.keeps(r:KT H C o)(c:∀ b a,H b=some (.tup a)->I b=some (.tup a)):KT I C o :=
 Paired.au' r λ_ _ z=>⟨z.1,c _ _ z.2.1,z.2.2⟩
section
variable {P:cy}{w:c9}{H:Hp}{h:d5}{a:ai}
def MY(b:kE P w H h)(e:Rd H a u):n4 P w H h a u:=e.ok b
def MZ(c:kE P w H h)(e:Rd H a (.dK o)):o.length<=bG/\(a == rX)=false/\∃ b,KV o b/\h.DictOf (i3 P w) a b :=
 show n4 P w H h a (.dK o) from MY c e
def em'(c:kE P w H h)(e:H a=some (.dK o)):o.length<=bG/\(a == rX)=false/\∃ b,KV o b/\h.DictOf (i3 P w) a b:=MZ c (.inl e)
def M0(c:kE P w H h)(e:H a=some (.tup (C.map kV))):(Fn (i3 P w)).is h C a:=by
 obtain⟨_,b,r,o,g,f,n,d⟩:=(c a _ e)
 exact⟨o,b.toArray,n,g,f,d,by simpa using aX' r⟩
def Sr(f:kE P w H h)(e:Rd H a (.dT C)):C.length<=bG/\(a == rX)=false /\
  ∃ c,KT H C c/\h.DictOfH (Fn (i3 P w)) a c:=by
 obtain⟨z,y,c,r,o,v,A,u,s,n,k,j⟩:=(MY f e)
 refine⟨z,y,c,r,o,v,A,u,s,n,k,λx b=>?_,j⟩;have d:∀ {l:List (List Key × V)} {m:List (List Key × ai × ah)},KT H l m->∀ x∈m,(Fn (i3 P w)).is h x.1 x.2.1:=by
  intro l m q
  induction q with
  |nil=>intro x b;exact nomatch b
  |@cons p q D B g t i =>
   intro x b;rcases dQ.mp b with e|b
   ·subst e;exact M0 f (by rw[<- g.1];exact g.2.1)
   ·exact i x b
 exact d r x b
def en'(c:kE P w H h)(e:H a=some (.dT o)):o.length<=bG/\(a == rX)=false /\
  ∃ b,KT H o b/\h.DictOfH (Fn (i3 P w)) a b:=Sr c (.inl e)
end
def sQ(H:Hp)(a:ai)(y:V)(r:Option V):Prop :=
 (∃ c k,Rd H a (.dK c)/\y=kV k/\r=gV c k)\/∃ c k b,Rd H a (.dT c)/\y=.ref b/\H b=some (.tup (k.map kV))/\r=gV c k
def IL(H:Hp)(a:ai)(y v:V)(d:Hp):Prop :=
 (∃ c k,H a=some (.dK c)/\y=kV k/\c.length<bG/\d=upd H a (.dK (putK c k v))) \/
 ∃ c k b,H a=some (.dT c)/\y=.ref b/\H b=some (.tup (k.map kV))/\c.length<bG/\d=upd H a (.dT (putK c k v))
def IL.k{H:Hp}{a:ai}{b:List (Key × V)}{k:Key}{v:V}(e:H a=some (.dK b))(c:b.length<bG):IL H a (kV k) v (upd H a (.dK (putK b k v))):=.inl ⟨b,k,e,rfl,c,rfl⟩
def IL.t{H:Hp}{a b:ai}{c:List (List Key × V)}{k:List Key}{v:V}(e:H a=some (.dT c))(f:H b=some (.tup (k.map kV)))(d:c.length<bG) :
  IL H a (.ref b) v (upd H a (.dT (putK c k v))):=.inr ⟨c,k,b,e,rfl,f,d,rfl⟩
section
variable {X:Cx}{d:List (ai × Obj)}{f:St}{H:Hp}{s:aI}{a:ai}{y v:V}{u r:ah}{o:Option V}{A:fz}{E:ah->aI->Prop}
def Inv.big(I:Inv X d f H s):rX<s.heap.objs.size:=by have h:iP<s.heap.objs.size:=(I.mod.glob.keeps I.bk).lt;exact xek (by decide) h
def kT'(B:A.units+1<f7)(I:Inv X d f H s)(g:sQ H a y (some v))(x:RelV y u)(h:∀ i w,Inv X d f H w->RelV v i->Q i w) :
  bq (aE X.prog X.w) A (getItem (.ref a) u) Q E s:=by
 rcases g with⟨J,k,e,q,l⟩|⟨J,k,b,e,q,G,l⟩
 ·subst q;obtain⟨z,F,L,c,t⟩:=MZ I.bT e;obtain⟨i,m,j⟩:=rj.some_of (by rw[l];exact c.val k);exact wpAny_getItem_of (MX x) t.mapOf m (h i _ (I.tok _) j)
 ·subst q;cases (x);obtain⟨z,F,K,c,t⟩:=Sr I.bT e;obtain⟨i,m,j⟩:=rj.some_of (by rw[l];exact c.val k);obtain⟨p,D,n⟩:=nV.mp m;refine wpAny_getItem_heap (TF B) (M0 I.bT G) t D ?_;rw[n];exact h i _ (I.tok _) j
def kV'(t:A.units+1<f7)(I:Inv X d f H s)(g:sQ H a y o)(p:RelV y u)(h:∀ n,Inv X d f H n->Q (.bool o.isSome) n) :
  bq (aE X.prog X.w) A (iX .In u (.ref a)) Q E s:=by
 rcases g with⟨x,k,e,j,l⟩|⟨x,k,b,e,j,w,l⟩
 ·subst j;obtain⟨z,i,D,c,m⟩:=MZ I.bT e;refine wpAny_in_of (MX p) i m.mapOf ?_;rw[<- (c.val k).Uz,<- l];exact h _ (I.tok _)
 ·subst j;cases (p);obtain⟨z,i,B,c,m⟩:=Sr I.bT e;refine wpAny_in_heap (TF t) (M0 I.bT w) i m ?_;have q:=(c.val k).Uz;rw[VW] at q;rw[<- q,<- l];exact h _ (I.tok _)
def UA(I:Inv X d f H s)(e:Ue (H a))(g:Heap.SameBut a s.heap C)(h:∃ q,C.get? a=some q)(c:n4 X.prog X.w (upd H a U) C a U) :
  Inv X d f (upd H a U) { s with heap:=C,toks:=t' } :=
 I.write e (.inl rfl) (λb q i z=>(g.2 b i).trans z) h c
def eo'{P:cy}(z:I.length<=bG)(c:(a == rX)=false)(b:KV I C)(e:U.DictOf (i3 P w) a C) :
  n4 P w H' U a (.dK I):=⟨z,c,C,b,e⟩
def kW'(R:A.units+1<f7)(I:Inv X d f H s)(g:IL H a y v U)(G:RelV y u)(J:RelV v r)(h:∀ F,Inv X d f U F->Q () F) :
  bq (aE X.prog X.w) A (setItem (.ref a) u r) Q E s:=by
 rcases g with⟨j,k,e,x,l,B⟩|⟨j,k,b,e,x,M,l,B⟩
 ·subst x B;obtain⟨z,w,O,i,D⟩:=em' I.bT e;have P:O.length<=bG:=by rw[<- i.length];exact z
  have t:(putK j k v).length<=bG:=by have:=WH j k v;lia
  refine wpAny_setItem_pairs (MX G) D λK n p=>h _ ?_;have S:∃ q,K.get? a=some q:=let ⟨q,_,_,m,_⟩:=n;⟨q,m⟩
  exact UA I (by rw[e];exact True.intro) p S (eo' t w (i.put k J) n)
 ·subst x B;cases (G);obtain⟨z,w,N,i,D⟩:=en' I.bT e;have P:N.length<=bG:=by rw[<- Paired.length i];exact z
  have t:(putK j k v).length<=bG:=by have:=WH j k v;lia
  refine wpAny_setItem_heap (TF R) (M0 I.bT M) D λK n p=>h _ ?_;obtain⟨q,Z,C,m,Y,W,V,_,T⟩:=n;refine UA I (by rw[e];exact True.intro) p ⟨q,m⟩ ⟨t,w,_,(i.put k M J).keeps λc ys L=>?_,q,Z,C,m,Y,W,V,T⟩;rw[dr (cW' L e (λz=>nomatch z))];exact L
end
section
variable {X:Cx}{b:List (ai × Obj)}{c:St}{H:Hp}{s:aI}{a:ai}{d:List (Key × V)}{A:fz}{E:ah->aI->Prop}
def kX' (I:Inv X b c H s) (e:Rd H a (.dK d)) (h:∀ t g,Inv X b c H g->Q (.int d.length t) g):bq (aE X.prog X.w) A (call (.builtin "len") [.ref a]) Q E s:=by obtain⟨z,i,k,f,j⟩:=MZ I.bT e;refine call_len_dict i j (by rw[<- f.length];rw[kQ] at z;lia) ?_;rw[<- f.length];exact h _ _ (I.tok _)
end
def WK(i:Expr):Prop:=∀ a b,subscripted i false a b=operate [a,b] (getItem a b)
def eq'{T e:String}(g:typeLookup (.type T) "__getitem__" = pure (some (.builtin e))) (f:WK I)(h:bq (aE C w) A (dn U ab) (λo d=>bq (aE C w) A (dn I ab) (λi a=>a.TypeIs o T/\bq (aE C w) A (getItem o i) Q E a) E d) E s) :
  bq (aE C w) A (dn (.Subscript U I ae) ab) Q E s:=by
 refine Subscript_ (ua h (λo d l=>ua l (λi a b=>?_) λ_ _ x=>x) λ_ _ x=>x);obtain⟨j,b⟩:=b;refine ax ?_;refine ax (wpAny_specialOf j g ?_);have fin:bq (aE C w) A (subscripted I false o i) (λr c=>bq (aE C w) A (letTemporaryGo U o r >>= λ_=>pure r) Q E c) E a:=by rw[f o i];exact wpAny_operating (ua b (λr c k=>ax (wpAny_letTemporaryGo (bI k))) λ_ _ x=>x)
 first
  |exact bI (ax fin)
  |exact ax (bI (ax fin))
  |exact ax fin
def kY' {X:Cx} (I:Inv X C U H s) (g:sQ H a y o):s.TypeIs (.ref a) "dict" := by
 rcases g with⟨d,k,e,_,_⟩|⟨d,k,b,e,_,_,_⟩
 ·obtain⟨_,_,h,_,c⟩:=MZ I.bT e;exact c.typeIs
 ·obtain⟨_,_,f,_,c⟩:=Sr I.bT e;exact c.typeIs
def kZ'(f d e:TE):TS:=λD b H=>e b H λv i=>f b i λx h=>d b h λy g=>∃ a c,x=.ref a/\IL g a y v c/\D.nx b c
section
variable {X:Cx}{o i b:Expr}{d c:Pos}{j e f:TE}
def la'(F:X.A.units+1<f7)(J:PE X o j)(K:PE X i e)(E:PE X b f)(G:nL b (some (.Subscript o i c)) d.line X.env=pure false) :
  PS X (.Assign [.Subscript o i c] b d) (kZ' j e f):=by
 intro k s l H D I h;refine wpAny_Assign_Subscript (cK (E k s l H _ I h) λr p m=>L2.eM m λv T Q w B=>cK (J k p l T _ Q B) λu n m=>L2.eM m λx S P t A=>cK (K k n l S _ P A) λY W M=>?_) G;obtain⟨y,Z,O,q,a,R,L,g,z⟩:=M;subst L;obtain rfl:u=Value.ref a:=t;exact kW' F O g q w λV N=>⟨l,R,N,z⟩
end
def er' {P:cy} (h:d5) (a:rX<h.objs.size):n4 P w H (h.push { cls:=.type "dict",data:=.dict #[] }) h.objs.size (.dK []) :=
 ⟨gy _,beq_eq_false_iff_ne.mpr (Ne.symm (gS a)),[],.nil,Heap.DictOf.new h⟩
def lb' {P:cy} (h:d5) (a:rX<h.objs.size):n4 P w H (h.push { cls:=.type "dict",data:=.dict #[] }) h.objs.size (.dT []) :=
 ⟨gy _,beq_eq_false_iff_ne.mpr (Ne.symm (gS a)),[],.nil,_,#[],0,jI _ rfl,⟨rfl,rfl,rfl⟩,rfl,rfl,oo⟩
def lc':TE:=λ_ H Q=>∀ p,H p=none->Q (.ref p) (upd H p (.dK []))
def ld':TE:=λ_ H Q=>∀ p,H p=none->Q (.ref p) (upd H p (.dT []))
section
variable {X:Cx}{a:Pos}
def le':PE X (.Dict [] [] a) lc':=λb s c H Q I h =>
 wpAny_Dict_empty ⟨.ref s.heap.objs.size,_,I.laid (λ_ _ q=>eS _ q) (cE _) (er' s.heap I.big),rfl,h _ (I.bT.fresh (cE _))⟩
def lf':PE X (.Dict [] [] a) ld':=λb s c H Q I h =>
 wpAny_Dict_empty ⟨.ref s.heap.objs.size,_,I.laid (λ_ _ q=>eS _ q) (cE _) (lb' s.heap I.big),rfl,h _ (I.bT.fresh (cE _))⟩
end
def aY':List (TE × TE)->St->Hp->(List (V × V)->Hp->Prop)->Prop
 |[],_,H,Q=>Q [] H
 | (c,b) :: r,a,H,Q=>c a H λx g=>b a g λy f=>aY' r a f λd e=>Q ((x,y) :: d) e
abbrev VV:List (V × V)->List (ah × ah)->Prop:=Paired λp q=>RelV p.1 q.1/\RelV p.2 q.2
def WM(X:Cx)(e:Pos)(c:List (Option Expr))(a:List Expr)(j:List (TE × TE)):Prop :=
 ∀ b s d H Q,Inv X b d H s->aY' j d H Q ->
  bq (aE X.prog X.w) X.A (evalPairs (pairTrees c a X.env e)) (λh i=>∃ f g,Inv X b d g i/\VV f h/\Q f g) X.xe s
def lg'{X:Cx}:WM X o [] [] []:=λa s b H Q I h=>pairTrees_nil_walk ⟨[],H,I,.nil,h⟩
def lh'{X:Cx}(r:PE X k tk)(p:PE X v U)(q:WM X o ks C Nn) :
  WM X o (some k :: ks) (v :: C) ((tk,U) :: Nn):=λa s c H Q I h =>
 pairTrees_cons_walk (cK (r a s c H _ I h) λu f b=>L2.eM b λx D z i m=>cK (p a f c D _ z m) λF e b=>L2.eM b λy B w g l =>
  cK (q a e c B _ w l) λE G b=>L2.eM b λn A t d j=>⟨(x,y) :: n,A,t,.cons ⟨i,g⟩ d,j⟩)
def UC(d a:List (Key × V)):List (Key × V):=a.foldl (λb c=>putK b c.1 c.2) d
def KV.merge:∀ {a:List (Key × V)} {d:List (Key × ah)} {c:List (Key × V)} {b:List (Key × ah)},KV a d->KV c b->KV (UC c a) (merged b d):=by
 intro a d c b r
 induction r generalizing c b with
 |nil=>intro q;exact q
 |@cons p q j i h t g =>
  intro f;have e:KV (putK c p.1 p.2) (stored b q.1 q.2):=by have:=f.put p.1 h.2;rw[<- h.1];exact this
  exact g e
theorem et':∀ (b a:List (Key × V)),(UC a b).length<=a.length+b.length
 |[],a=>by show a.length<=a.length+0;lia
 |p :: r,a=>by have d:=et' r (putK a p.1 p.2);have c:=WH a p.1 p.2;show(UC (putK a p.1 p.2) r).length<=_;rw[gi];lia
theorem eu'{P:cy}:∀ {e:List (Key × V)} {f:List (ah × ah)},VV (e.map λg=>(kV g.1,g.2)) f->∃ d,Carries (i3 P w) f d/\KV e d
 |[],_,r=>by rw[P7] at r;cases r;exact⟨[],True.intro,.nil⟩
 |p :: e,_,r=>by
  cases r with
  |@cons a b l j h t =>obtain⟨d,c,q⟩:=eu' t;obtain⟨k,i⟩:=b;exact⟨(p.1,i) :: d,⟨MX h.1,rfl,c⟩,.cons ⟨rfl,h.2⟩ q⟩
def li'(f:List (TE × TE)):TE:=λd H Q=>∀ p,H p=none->aY' f d (upd H p (.dK [])) λe c=>c p=some (.dK [])/\∃ a:List (Key × V),e=a.map (λb=>(kV b.1,b.2))/\a.length<=15/\Q (.ref p) (upd c p (.dK (UC [] a)))
def lj'{X:Cx}(h:WM X U o C Nn)(k:o.all (·.isSome)=true)(x:o.length=C.length)(D:o≠[])(d:o.length<=15):PE X (.Dict o C U) (li' Nn):=by
 intro a s j H Q I q;have v:=I.bT.fresh (cE s.heap.objs.size);have K:=I.laid (t':=s.toks) (λ_ _ q=>eS _ q) (cE _) (er' s.heap I.big);refine wpAny_Dict_walk (knd:=i3 X.prog X.w) k x D d (cK (h a _ j _ _ K (q _ v)) λL M J=>?_);obtain⟨N,S,g,b,e,f,F,O,p⟩:=J;subst F;obtain⟨l,c,m⟩:=eu' (P:=X.prog) (w:=X.w) b;obtain⟨z,A,R,n,G⟩:=em' g.bT e;cases n;refine⟨l,c,G,λE i t=>⟨.ref s.heap.objs.size,_,?_,rfl,p⟩⟩;have r:(UC [] f).length<=bG:=by have B:=et' f [];rw[P6] at B;rw[kQ];lia
 have y:∃ q,E.get? s.heap.objs.size=some q:=let ⟨q,_,_,u,_⟩:=i;⟨q,u⟩
 exact UA g (by rw[e];exact True.intro) t y (eo' r A (m.merge .nil) i)
structure M2(X:Cx)(o:Expr)(m:Str)(apos:Pos)(e f:Expr)(fm:Pos):Prop where
 base:t9 o m X.env (dn o X.env)=dn o X.env
 few:((ub fm (fN [e,f] X.env)).all (fun x=>!x.1) && (zt fm (zo [] X.env)).all (fun x=>x.1.isSome)
  && decide (([e,f]:List Expr).length+([]:List qV).length+(if ([]:List qV).isEmpty then 0 else 1)<30))=true
 line:(apos.endLine == fm.line)=true
 trees:ub fm (fN [e,f] X.env)=[(false,dn e X.env),(false,dn f X.env)]
def WQ(H:Hp)(a:ai):Prop:=(∃ b,Rd H a (.dK b))\/∃ b,Rd H a (.dT b)
def ev'{X:Cx}(I:Inv X o C H s)(d:WQ H a) :
  s.TypeIs (.ref a) "dict"/\(∀ b,Value.ref a=.ref b->∃ c,s.heap.get? b=some c/\c.dict=none)/\(a == rX)=false:=by
 rcases d with⟨j,e⟩|⟨j,e⟩
 ·obtain⟨_,g,l,_,f⟩:=MZ I.bT e;refine⟨f.typeIs,λb q=>?_,g⟩;cases q;obtain⟨c,_,_,i,h,_⟩:=f;exact⟨c,i,h.2.1⟩
 ·obtain⟨_,g,k,_,f⟩:=Sr I.bT e;refine⟨f.typeIs,λb q=>?_,g⟩;cases q;obtain⟨c,_,_,i,h,_⟩:=f;exact⟨c,i,h.2.1⟩
section
variable {X:Cx}{c:List (ai × Obj)}{f:St}{H:Hp}{s:aI}{a:ai}{y d:V}{u r:ah}{o:Option V}{A:fz}{E:ah->aI->Prop}
def ll'(x:A.units+1<f7)(I:Inv X c f H s)(g:sQ H a y o)(t:RelV y u)(v:RelV d r)(h:∀ p q,Inv X c f H q->RelV (o.getD d) p->Q p q) :
  bq (aE X.prog X.w) A (call (.builtin "dict.get") [.ref a,u,r]) Q E s:=by
 rcases g with⟨D,k,e,n,l⟩|⟨D,k,b,e,n,B,l⟩
 ·subst n;obtain⟨z,m,F,i,j⟩:=MZ I.bT e;refine call_meetsIn PySem.F.slot_dict_get j.typeIs PySem.F.entry_dict_get (PySem.F.args_dict_get_3 _ _ _) (meets_dict_get_default (i3 X.prog X.w) a (MX t) m r) ⟨_,j.mapOf,h _ _ (I.tok _) ?_⟩;rw[l];exact(i.val k).getD v
 ·subst n;cases (t);obtain⟨z,m,w,i,j⟩:=Sr I.bT e;refine call_meetsIn PySem.F.slot_dict_get j.typeIs PySem.F.entry_dict_get (PySem.F.args_dict_get_3 _ _ _) (meetsH_dict_get_default (Fn (i3 X.prog X.w)) a b m r) ⟨TF x,k,w,M0 I.bT B,j,h _ _ (I.tok _) ?_⟩;rw[l];exact(i.val k).getD v
end
def ew'(g e f:TE):TE:=λb H Q=>g b H λx d=>∃ a,x=.ref a/\WQ d a/\e b d λy h=>f b h λz c=>∃ o,sQ c a y o/\Q (o.getD z) c
section
variable {X:Cx}{o e f:Expr}{b k:Pos}{j c i:TE}
def lm' (J:X.A.units+1<f7) (K:PE X o j) (M:PE X e c) (L:PE X f i) (m:M2 X o "get" b e f k):PE X (.Call (.Attribute o "get" b) [e,f] [] k) (ew' j c i):=by
 intro l s n H Q I h;refine wpAny_Call_method m.base m.few m.line PySem.F.plainAttrs_dict PySem.F.slot_dict_get PySem.F.type_dict_get (cK (K l s n H _ I h) λu v O=>?_);obtain⟨x,Y,p,B,a,N,d,G⟩:=O;subst N;obtain rfl:u=Value.ref a:=B;obtain⟨r,q,_⟩:=ev' p d;refine⟨r,q,?_⟩;rw[m.trees];refine Calls.callWith_builtin rfl (Calls.evalArgs_plain (Calls.spliced_cons (cK (M l v n Y _ p G) λiv t P=>L2.eM P λy W T A F =>
  Calls.spliced_cons (cK (L l t n W _ T F) λfv U ⟨z,V,S,w,ov,g,E⟩=>Calls.spliced_nil ?_))))
 exact ll' J S g A w λZ C R D=>⟨_,V,R,D,E⟩
end
end L2
end
namespace Att
open PySem PySem.W PySem.Calls PyProof.Rows
def ln'{P:Params}:∀ (c:List Int) (d:List ah),WellAll P h d (c.map WData.int)->IntsAre d c:=by
 intro c
 induction c with
 |nil =>intro d w;cases w;exact .nil
 |cons n c e =>
  intro d w
  cases w with
  |cons a b =>cases a;exact .cons _ _ (e _ b)
def lp'{l:OpenLaw}{n:Nat}(t:l.most=some n){P:Params}{h:d5}{args:List WData}{b:List ah}(j:l.row.toRowW.claim.pre args=true) (g:WellAll P h b args) :
  ∃ a i c,b=[Value.ref a]/\args=[WData.list (c.map WData.int)]/\h.get? a=some { cls:=.type "list",data:=.seq i.toArray }/\IntsAre i c/\c.length<=n:=by
 have y:WShape.hasAll [] args [.list .int]=true:=(pre_splitW j).1;have u:l.pre.holds [] { args:=args }=true:=(pre_splitW j).2;obtain⟨d,r,rfl,x,w⟩:=hasAllW_cons y;obtain rfl:=hasAllW_nil w;obtain⟨z,rfl,v⟩:=hasW_list x;obtain⟨c,rfl⟩:=items_int v;have e:c.length<=n:=by
  have f:(WTm.not (.lt (.lit (.int n)) (.len (.arg 0)))).holds [] { args:=[.list (c.map .int)] }=true:=by have f:=(holds_andW u).1;rw[t] at f;exact f
  have h5:=condW_of f (w_not (w_lt w_lit (w_len_list (w_arg rfl))));refine Nat.le_of_not_lt λq=>?_;first
   | (rw[decide_eq_true q'] at h5;exact absurd h5 (by decide))
   | (simp at h5;lia)
 cases g with
 |cons m k =>
  cases k
  cases m with
  |list s p=>exact⟨_,_,c,rfl,rfl,s,ln' c _ p,e⟩
def lq'(l:OpenLaw)(a:List WData):l.row.toRowW.claim.post a (.bool true) a=true :=
 postW_of (by first|rfl|decide|simp[WShape.has,WShape.arms,WShape.armsAll]) (w_eq_bool (w_res rfl) w_lit) rfl
def lr'{l:OpenLaw}{n:Nat}{q:cy}{b:List Str}{H:(Str->Option ah)->d5->Prop}{F:c9->d5->Prop}{d:DefRec}(O:l.most=some n) (Z:d.params.defaults=[])(k:∀ (w:c9) (x c:aI) (s v:Str->Option ah) (j:ai) (o:Obj) (u t g:ah) (a:ai) (h:List ah) (p:List Int),
   Ground q b [] H w x s v c.heap->F w c.heap ->
   c.heap.get? j=some o->o.data=.func (docDef d.name d.params d.body d.scope u t g)->c.heap.CodeRec t d.name->s d.name=some (.ref j) ->
   c.heap.get? a=some { cls:=.type "list",data:=.seq h.toArray }->IntsAre h p->p.length<=n->c.gens = #[] ->
   xD (aE l.prog w) callerA (.call (.ref j) ⟨[.ref a],[]⟩) (λr m=>r=.ok (.ret (.bool true))/\OldK c.heap m.heap/\m.os=c.os/\AllBare m.gens) c) :
  WalkO q b H F l.row.toRowW d [] (λf h=>PySem.call f h):=by
 intro w x c s v G Y j o u t g W K N R J D X Q E A I C B L y U;obtain rfl:W=.none:=Dflts.none D Z;obtain rfl:K=.none:=Dflts.noKw D;obtain⟨a,h,p,rfl,rfl,z,e,i⟩:=lp' O C y;refine enter_call (codeAny_mono (k w x c s v j o u t g a h p G Y N (fd_plain R) J X z e i Q) λr m M=>?_);obtain⟨rfl,V,T,S⟩:=M;exact⟨.inl ⟨.bool true,.bool true,[],rfl,λ_=>rfl,.bool true,lq' l _,λ_=>⟨List.Pairwise.nil,λ_ P=>(nomatch P)⟩⟩,V,T,S⟩
end Att
section
open PySem PySem.Spec PyProof.Rows
namespace L2
theorem ey':∀ {a:List ah} {b:List Int},IntsAre a b->Vals (b.map V.int) a
 |_,_,.nil=>.nil
 |_,_,.cons n t h=>.cons ⟨t,rfl⟩ (ey' h)
def Only(H:Hp):Prop:=∀ b,H b=none\/∃ o a,H b=some (.wc o (.lst a))
def ls'{P:cy}{K:ay}(KX:K.In C.heap) (l:C.heap.Ns iP mg) (c:C.heap.Ns builtinsNs mb) (O:∀ x:Str,x ≠ "__name__"->mb x=mN x) (M:C.heap.NoLimit) (hg:C.gens = #[])(D:C.heap.get? a=some { cls:=.type "list",data:=.seq I.toArray }) (X:IntsAre I U) (W:U.length<=bG) (hr:ja k callerA) (F:∀ g:d5,K.In g->g.Ns iP mg->mS P w K mg g CX k fa fd [x] sp) (L:∀ (s:aI) (u:ah),BindsTo s fd ⟨[u],[]⟩ [(x,u)]) (IG:∀ H:Hp,Only H->eP K H a (U.map V.int)->sp [.ref a] H (λv _=>v=.bl true) λ_ _ _=>False) (Q:∀ H e f,CX [] H C (λ_ _ _=>False) e f->False) :
  xD (aE P w) callerA (.call (.ref fa) ⟨[.ref a],[]⟩) (λr f=>r=.ok (.ret (.bool true))/\OldK C.heap f.heap/\f.os=C.os/\AllBare f.gens) C:=by
 have T:=ey' X;have J:=X.length
 have i:∀ H:Hp,Only H->eP K H a (U.map V.int)->kE P w H C.heap->(∀ b,H b≠none->b=a)->(H a≠none->K.lookup a=none) ->
   xD (aE P w) callerA (.call (.ref fa) ⟨[.ref a],[]⟩) (λr f=>r=.ok (.ret (.bool true))/\OldK C.heap f.heap/\f.os=C.os/\AllBare f.gens) C:=by
  intro H Y hS bT Z hK;have A:∀ {b:ai} {o:Obj},C.heap.get? b=some o->H b=none->(FE C.heap H).get? b=some o:=λe n=>hK' e n;have Uw:∀ {b:ai} {o:Obj} {t:Array DictEntry} {y:Nat},C.heap.get? b=some o->o.data=.dict t y->H b=none:=λ{b o t y} e d=>by
   cases q:H b with
   |none=>rfl
   |some u =>have R:b=a:=Z b (by rw[q];simp);subst R;rw[D] at e;cases e;have d':Data.seq I.toArray _=Data.dict t y:=d;cases d'
  have E:∀ {b:ai} {m:Str->Option ah},C.heap.Ns b m->(FE C.heap H).Ns b m:=λ{b m} zq=>by obtain⟨o,t,y,e,d,r⟩:=zq;exact⟨o,t,y,A e (Uw e d),d,r⟩
  have p:K.In (FE C.heap H):=λb o e=>A (KX b o e) (by
   cases q:H b with
   |none=>rfl
   |some u =>
    have R:b=a:=Z b (by rw[q];simp);subst R;rw[hK (by rw[q];simp)] at e;cases e)
  have hM:Mod K mg (FE C.heap H):=⟨p,E l,⟨mb,E c,O⟩,let ⟨mc,h1,h2⟩:=M;⟨mc,E h1,h2⟩⟩
  have e0:MS P w K mg (FE C.heap H) callerA [] C H:=⟨rfl,hM,λb o e=>hL' e,T7 (hJ' _ _),trivial,λb c=>absurd (show b∈([]:List ai) from c) (by simp),bT,.of_eq hg⟩
  refine codeAny_mono ((F _ p (E l)).run callerA [] C H ⟨[.ref a],[]⟩ [.ref a] [.ref a] _ _ hr e0 (L C (.ref a)) (.cons rfl .nil) (IG H Y hS)) λr f h=>?_
  cases r with
  |error e=>exact(Q H e f h).elim
  |ok fl =>
   cases fl with
   |next=>exact False.elim h
   |brk=>exact False.elim h
   |cont=>exact False.elim h
   |ret u =>
    obtain⟨v,H',os,B,S,G,r',q⟩:=h;have q':v=.bl true:=q;subst q';obtain rfl:u=Value.bool true:=r';refine⟨rfl,OldK.of_keep λb o e=>?_,os,B⟩
    cases q:H b with
    |none=>exact S.keep b o e q (by intro z;exact absurd (show b∈([]:List ai) from z) (by simp)) (by simp)
    |some u =>
     rcases Y b with z|⟨ob,xs,z⟩
     ·rw[q] at z;cases z
     ·have z2:=S.FD b ob _ z;obtain⟨e1,_⟩:=bT b _ z;obtain⟨e2,_⟩:=G b _ z2;rw[e] at e1;cases e1;exact e2
 cases N:K.lookup a with
 |some o =>
  have e:=KX a o N;rw[D] at e;cases e;refine i (λ_=>none) (λ_=>.inl rfl) (.inr ⟨_,I.toArray,_,N,rfl,rfl,rfl,by rw[kg,J];exact W,by simpa using T⟩) (λb u z=>by have j:none=some u:=z;cases j) (λb z=>absurd rfl z) λz=>absurd rfl z
 |none =>
  refine i (λb=>if b=a then some (.wc { cls:=.type "list",data:=.seq I.toArray } (.lst (U.map V.int))) else none) (λb=>?_) (.inl (.inr ⟨{ cls:=.type "list",data:=.seq I.toArray },if_pos rfl⟩)) (λb u z=>?_) (λb z=>?_) λ_=>N
  ·by_cases c:b=a
   ·exact .inr ⟨_,_,if_pos c⟩
   ·exact .inl (if_neg c)
  ·by_cases c:b=a
   ·have j:=(if_pos c).symm.trans z;cases j;subst c;exact⟨D,by rw[cx];exact W,I,_,T,D⟩
   ·have j:=(if_neg c).symm.trans z;cases j
  ·by_cases c:b=a
   ·exact c
   ·exact absurd (if_neg c) z
def lz'{l:Z4}{n k:Nat}{q:cy}{g:List Str}{T:(Str->Option ah)->d5->Prop}{B:c9->d5->Prop}{d:DefRec}{K:Params->ay}{CX:c9->IC}{sp:c9->Sp}{x:Str}(J:l.most=some n) (Z:n<=bG) (X:d.params.defaults=[]) (E:ja k callerA)(N:∀ (w:c9) (h:d5),B w h->(K w.params).In h)(F:∀ (w:c9) (j:Str->Option ah) (p:ai) (h:d5),(K w.params).In h->h.Ns iP j->j d.name=some (.ref p) ->
   ∃ y:sF,(∀ (s:aI) (u:ah),BindsTo s y ⟨[u],[]⟩ [(x,u)]) /\
    ∀ b:d5,(K w.params).In b->b.Ns iP j->mS l.prog w (K w.params) j b (CX w) k p y [x] (sp w))
  (C:∀ (w:c9) (H:Hp) (a:ai) (m:List Int),m.length<=n->Only H->eP (K w.params) H a (m.map V.int)->sp w [.ref a] H (λv _=>v=.bl true) λ_ _ _=>False)
  (t:∀ (w:c9) (H:Hp) (s:aI) (e:ah) (r:aI),CX w [] H s (λ_ _ _=>False) e r->False) :
  PySem.W.WalkO q g T B l.row.toRowW d [] (λf A=>PySem.call f A):=by
 refine Att.lr' J X λw mP R j mb p o U cd S a A m G Y ho hd I W z i c L=>?_;have D:=N w _ Y;obtain⟨y,M,Q⟩:=F w j p _ D G.T.g W;exact ls' D G.T.g G.T.b G.T.builtins G.T.nolimit L z i (kD c Z) E Q M (λH P O=>C w H a m c P O) λH e r=>t w H R e r
def ya(s:kf):Arguments:=match s with
 |.FunctionDef _ a _ _ _ _ _ _ _ _=>a
 |_=>{ posonlyargs:=[],args:=[],vararg:=none,kwonlyargs:=[],kw_defaults:=[],kwarg:=none,defaults:=[] }
def oz(s:kf):List kf:=match s with
 |.FunctionDef _ _ b _ _ _ _ _ _ _=>b
 |_=>[]
def fF(s:kf):Scope:=match s with
 |.FunctionDef _ _ _ _ _ _ a _ _ _=>a
 |_=>{ kind:=.function,names:=[],isGenerator:=false,isCoroutine:=false }
abbrev kB:IC:=λ_ _ _ _ _ _=>False
abbrev E0:XK:=λ_ _ _=>False
def WU{X:Cx}:Passes kB X E0:=λ_ _ _ _ _ _ _ h=>h.elim
structure vi(K:ay)(x qual:Str)(st:kf)(f:ai)(fd:sF):Prop where
 ex:∃ (oc:ah) (od:Option ai) (kV doc pm:ah) (an:Option ai) (dP ct:ah) (Ee:Array (Option ah)),
  fd=tT x qual (ya st) (oz st) (fF st) .none kV doc pm an dP ct/\K.lookup f=some ⟨oc,od,.func fd,Ee⟩/\DI K dP qual=true
 kp:yv K (.ref f)=true
section
variable {P:cy}{w:c9}{K:ay}{b:Str->Option ah}{a:d5}
def vi.ok{e:kf}{N i:List Str}(F:vi K x o e f I)(S:Bi N i (fF e))(j:∀ d H Q E,C d H Q E->d.length=i.length)(v:∀ (g:ah) (A:fz) (c:List Env) (s:aI) (H:Hp) (d:List V) (Q:VK) (E:XK),ja k (A.deeper (ri o (fF e) s.heap.objs.size f g))->C d H Q E ->
   ∃ t,nh (se kB P w K b a N o (fF e) f g A c s H E).uS (oz e) t/\t { nx:=λ_ u=>Q .non u,rt:=Q } (start N d) H):mS P w K b a kB (k+1) f I i C:=by
 obtain⟨B,z,D,p,y,J,g,G,L,rfl,m,l⟩:=F.ex;refine jZ' m l S j λA c s H d Q E n r=>?_;obtain⟨t,h,q⟩:=v g A c s H d Q E n r;exact⟨t,h.uS,q⟩
def vi.binds{d:kf}{g:List Str}(F:vi K x o d f C)(h:∀ (j c i:ah) (m:Option ai) (k l:ah) (e:List ah),e.length=g.length->bindArgs (tT x o (ya d) (oz d) (fF d) .none j c i m k l) ⟨e,[]⟩=pure (g.zip e)):Binds K C g []:=by
 obtain⟨q,p,j,c,i,m,k,l,s,rfl,r,n⟩:=F.ex;exact .all (h j c i m k l)
def Sz{st:kf}{h d g e i:ah}(l:K.lookup f=some ⟨U,I,.func (tT x o (ya st) (oz st) (fF st) .none h d g C e i),Ee⟩)(c:DI K e o=true) (k:yv K (.ref f)=true):vi K x o st f (tT x o (ya st) (oz st) (fF st) .none h d g C e i):=⟨⟨U,I,h,d,g,C,e,i,Ee,rfl,l,c⟩,k⟩
end
section
variable {X:Cx}
def pv(i:Nat)(d:autoParam (X.N[i]? = some x) bv)(b:V6 X.env.scope x:=by first|exact Or.inl rfl|exact Or.inr (Or.inl rfl)|exact Or.inr (Or.inr rfl))(c:autoParam (dw x) tw) (a:autoParam ((x == ("__classdict__" : Str))=false) tw):PE X (.Name x o) (kr i):=Uo d b c a
end
def bE(H a:Hp):Prop:=∀ b o,H b=some o->a b=some o
def bE.refl(H:Hp):bE H H:=λ_ _ h=>h
def bE.trans(a:bE H I)(b:bE I C):bE H C:=λc o h=>b c o (a c o h)
def bE.free(e:bE H C)(h:C l=Option.none):H l=Option.none:=by
 cases q:H l with
 |none=>rfl
 |some o =>rw[e l o q] at h;cases h
def bE.seq{K:ay}(e:bE H I)(h:eP K H a C):eP K I a C:=by
 rcases h with(h|⟨o,h⟩)|h
 ·exact .inl (.inl (e _ _ h))
 ·exact .inl (.inr ⟨o,e _ _ h⟩)
 ·exact .inr h
end L2
namespace L2
def yb(a:Env):List (Str × NameKind)->List (Str × ai)->List (Str × ai)
 |[],b=>b
 | (n,k) :: r,b=>yb a r (if k == NameKind.free then (n,(a.cells.lookup n).getD 0) :: b else b)
def iT(b:Env):∀ d f,(∀ y∈d,y.2=.free->∃ c,b.cells.lookup y.1=some c) -> (forIn d f λx r=>match x with
   | (g,i)=>if (i == NameKind.free)=true then do let a <- cellOf b g;pure (ForInStep.yield ((g,a) :: r)) else pure (ForInStep.yield r):Sem (List (Str × ai)))=pure (yb b d f)
 |[],f,_=>rfl
 | (n,k) :: r,f,h=>by
  rw[List.forIn_cons];have m:=iT b r;by_cases p:k=.free
  ·subst p;obtain⟨c,e⟩:=h (n,.free) eK rfl;have s:cellOf b n=pure c:=by unfold cellOf;rw[e]
   have l:yb b ((n,.free) :: r) f=yb b r ((n,c) :: f):=by show yb b r (if (NameKind.free == NameKind.free)=true then (n,(b.cells.lookup n).getD 0) :: f else f)=_;rw[e];rfl
   rw[l,<- m ((n,c) :: f) λy j=>h y (eI _ j)];simp only[beq_self_eq_true,if_true,s];rfl
  ·have q:(k == NameKind.free)=false:=by simpa using p
   have l:yb b ((n,k) :: r) f=yb b r f:=by show yb b r (if (k == NameKind.free)=true then _ else f)=_;rw[q];rfl
   rw[l,<- m f λy j=>h y (eI _ j)];simp only[q,vT,if_false];rfl
def qC(h:∀ y∈o.names,y.2=.free->∃ c,C.cells.lookup y.1=some c):closureFor o C=pure (yb C o.names []):=by have:=iT C o.names [] h;rw[<- bind_pure (forIn o.names [] _)] at this;exact this
theorem qj:∀ {a} {g},(∀ y∈a,y.2=.free->∃ c,o.cells.lookup y.1=some c)->(∀ y d,g.lookup y=some d->o.cells.lookup y=some d) -> (yb o a g).lookup x=some c->o.cells.lookup x=some c
 |[],g,_,h,e=>h x c e
 | (n,k) :: r,g,j,h,e=>by
  refine qj (λy m=>j y (eI _ m)) ?_ e;intro y d b;by_cases i:k=.free
  ·subst i;obtain⟨p,l⟩:=j (n,.free) eK rfl;simp only[beq_self_eq_true,if_true,l,Option.getD_some,VB] at b
   cases f:y == n with
   |true=>rw[f] at b;have:y=n:=eq_of_beq f;subst this;rw[l];exact b
   |false=>rw[f] at b;exact h y d b
  ·have f:(k == NameKind.free)=false:=by simpa using i
   simp only[f,vT,if_false] at b;exact h y d b
theorem lF:∀ {names} {a},((x,NameKind.free)∈names\/∃ c,a.lookup x=some c)->∃ c,(yb o names a).lookup x=some c
 |[],a,h=>by
  rcases h with h|h
  ·exact nomatch h
  ·exact h
 | (n,k) :: r,a,h=>by
  refine lF (names:=r) ?_;rcases h with h|⟨c,h⟩
  ·rcases dQ.mp h with e|h
   ·cases e;refine .inr ⟨(o.cells.lookup x).getD 0,?_⟩;simp only[beq_self_eq_true,if_true,VB]
   ·exact .inl h
  ·refine .inr ?_;by_cases b:(k == NameKind.free)=true
   ·simp only[b,if_true,VB]
    cases d:x == n with
    |true=>exact⟨_,rfl⟩
    |false=>exact⟨c,h⟩
   ·simp only[b,if_false];exact⟨c,h⟩
def bh(X:Cx)(a:Scope)(C:ai)(N:List Str)(d:List ai)(c:aI)(b:Hp):Cx :=
 { X with N:=N,mP:=c,Ug:=b,env:=compEnvC a (yb X.env a.names []) C X.env,outer:=X.stack,stack:=X.stack,ex:=d,fn:=λ_=>false,pn:=[],xe:=λ_ _=>False }
def EC(X:Cx)(d:List Expr)(t:TT):Prop :=
 ∀ a s b H Q,Inv X a b H s->t b H Q ->
  bq (aE X.prog X.w) X.A (forIn d true λc r=>if r=true then do let e <- isTrue c X.env (dn c X.env);pure (ForInStep.yield e) else pure (ForInStep.yield r)) (TP X a b Q) X.xe s
def lA':TT:=λ_ H Q=>Q true H
def Hm{X:Cx}:EC X [] lA':=λ_ _ _ H _ I h=>wpAny_tests_nil ⟨H,I,h⟩
def Ik{X:Cx}(h:PT X c t):EC X [c] t:=λa s b H Q I d=>wpAny_tests_one (h a s b H Q I d)
def gA{R:Result->aI->Prop}(I:Nat->aI->Prop)(E:ah->aI->Prop)(b:∀ n s,I n s->bq (aE o w) A (pyNext it) (λr t=>match r with
   |none=>R (.ok .next) t
   |some v=>bq (aE o w) A (letOwnedTupleGo C it v) (λ_ y=>bq (aE o w) A (assign C U v) (λ_ u =>
     bq (aE o w) A (forIn ae true λc r=>if r=true then do let d <- isTrue c U (dn c U);pure (ForInStep.yield d) else pure (ForInStep.yield r)) (λd p =>
      if d=true then bq (aE o w) A (dn af U) (λx i =>
       bq (aE o w) A (call (.builtin "list.append") [ar,x]) (λ_ g=>∃ m,m<n/\I m g) E i) E p
      else ∃ m,m<n/\I m p) E u) E y) E t) E s)
  (F:∀ e j,E e j->notedBy (aE o w) A U (λe j=>R (.error e) j) e j)
  (n:Nat) (h:I n s) :
  xD (aE o w) A (.compLoop (.ListComp af [⟨C,aw,ae,0⟩] ab a0) 0 it ar U) R s:=by
 refine codeAny_loop rfl I (λn s D=>?_) n h;refine wpAny_noted ?_;refine ua ?_ (λ_ _ q=>q) F;refine ax (wpAny_standAt (ax (ua (b n s D) (λr t B=>?_) λ_ _ a=>a)))
 cases r with
 |none=>exact bI B
 |some v =>
  refine ax (ua B (λ_ y f=>?_) λ_ _ a=>a);refine ax (ua f (λ_ u G=>ax (ua G (λd p z=>?_) λ_ _ a=>a)) λ_ _ a=>a)
  cases d with
  |false=>exact bI ⟨rfl,z⟩
  |true =>exact ax (ax (ua z (λx i l=>ax (ua l (λ_ g k=>bI (bI ⟨rfl,k⟩)) λ_ _ a=>a)) λ_ _ a=>a))
def pI(b:Nat)(c:List Nat)(a:St):St:=List.replicate b none++c.map λj=>(a[j]?).join
def zN(q:TI)(g:TG)(t:TT)(s:TE)(r:Nat)(u:List Nat):TE:=λj H Q=>q j H λJ n=>∀ D,n D=none ->
 ∃ W:Nat->Nat->St->Hp->Prop,(∃ m,W 0 m (pI r u j) (upd n D (.lst [])))/\∀ i m h H,W i m h H -> (J.stop i H/\Q (.ref D) H)\/(J.go i H/\∃ (l:St->V->Hp->Prop) (k:St->Hp->Prop), (∀ a v f,l a v f->∃ e c,f D=some (.lst e)/\e.length<bG/\c<m/\W (i+1) c a (upd f D (.lst (e++[v])))) /\ (∀ a d,k a d->∃ c,c<m/\W (i+1) c a d) /\
   ∀ x p,J.pT i H x p->g x h p λa w=>t a w λb d=>if b=true then s a d (l a) else k a d)
section
variable {X:Cx}{K t E:Expr}{B:List Expr}{f:Scope}{G:Pos}{L:TI}{g:TG}{N:TT}{M:TE}{w A:List Str}{F:List Nat}
structure fj(X:Cx)(f:Scope)(w A:List Str)(F:List Nat):Prop where
 kind:f.kind=.function
 lD':∀ y∈f.names,y.2≠.cell
 free:∀ y∈f.names,y.2=.free->X.env.scope.names.lookup y.1=some .cell\/X.env.scope.names.lookup y.1=some .free
 names:∀ y∈f.names,y.2=.local->f.names.lookup y.1=some .local
 len:F.length=A.length
 cap:∀ (k j:Nat),F[k]? = some j->∃ y,A[k]? = some y/\X.N[j]? = some y/\(X.env.scope.names.lookup y=some .cell\/X.env.scope.names.lookup y=some .free)/\(y,NameKind.free)∈f.names /\
  ((relabel f X.env).names.lookup y=some .cell\/(relabel f X.env).names.lookup y=some .free)
 all:∀ x,(relabel f X.env).names.lookup x=some .cell\/(relabel f X.env).names.lookup x=some .free->(x,NameKind.free)∈f.names
def Aa(O:fj X f w A F)(I:Inv X U ab H s)(j:∀ b∈fp,zS X U H b)(k:∀ b∈fp,b<s.heap.objs.size)(l:s.heap.objs.size<=C) : (bh X f C (w++A) fp s H).Ok:=by
 have v:∀ y∈f.names,y.2=.free->∃ c,X.env.cells.lookup y.1=some c:=λy n q=>I.ok.has y.1 (O.free y n q);have a:∀ x c,(yb X.env f.names []).lookup x=some c->X.env.cells.lookup x=some c:=λx c e=>qj v (λy d h=>by simp at h) e;refine⟨I.ok.mod,O.kind,I.ok.glob,I.ok.blt,l,λx y c u r=>I.ok.inj x y c (a x c u) (a y c r),λx p=>lF (.inl (O.all x p)),(λx c h _=>nomatch h),I.ok.hd,I.ok.frames,.inl rfl,λb i=>⟨?_,λx c e=>?_⟩,
  I.bs,kD I.ok.FG I.sz,λb o e i=>?_,λb i=>?_,I.stack,I.cY'⟩
 ·exact gS (sN (k b i) l)
 ·exact(j b i).2.2.2.2.1 x c (a x c e)
 ·rcases (j b i).2.2.2.1 with z|z
  ·exact I.ok.Ui b o e z
  ·exact absurd (sN (fA e) (kD I.ok.FG z)) (vS _)
 ·intro m;rcases dQ.mp (I.av' b m) with e|e
  ·exact(j b i).2.1 e
  ·exact(j b i).2.2.1 e
def vf{P:ah->aI->Prop}(hc:X.calm=true)(hi:PI X K t L)(O:fj X f w A F)(hg:∀ C R i5 kP,PG (bh X f C (w++A) R i5 kP) K g) (Bn:∀ C R i5 kP,EC (bh X f C (w++A) R i5 kP) B N) (he:∀ C R i5 kP,PE (bh X f C (w++A) R i5 kP) E M)(hs:∀ x,LJ t X.env x=pure x) (I:Inv X U ab H s) (h:zN L g N M w.length F ab H Q)(b1:∀ (C D:ai) m H5 s6 r,Inv X U ab H5 s6->s6.heap.Ns C m->H5 C=none->zS X U H5 C->Q (.ref D) H5->compPost (aE X.prog X.w) X.A X.xe use P (.ref D) C (.ok r) s6) :
  bq (aE X.prog X.w) X.A (comprehension (.ListComp E [⟨K,t,B,0⟩] f G) f X.env b6 (newList []) false (dn t X.env) use) P X.xe s:=by
 have EE:∀ y∈f.names,y.2=.free->∃ c,X.env.cells.lookup y.1=some c:=λy hy hk=>I.ok.has y.1 (O.free y hy hk);have aw:∀ x c,(yb X.env f.names []).lookup x=some c->X.env.cells.lookup x=some c:=λx c e=>qj EE (λy d h=>by simp at h) e;refine wpAny_comprehension_free rfl hs (qC EE) O.kind O.names (cK (hi U s ab H _ I h) λv s1 h1=>cK h1 λcc s2 h2=>?_);obtain⟨it,R,WV,J,Z,e,I2,T,A7,f2,h2⟩:=h2;subst e;obtain⟨W,⟨m0,w0⟩,a4⟩:=h2 s2.heap.objs.size (I2.bT.fresh (cE _));refine t5 ?_;have I3:Inv X U ab (upd Z s2.heap.objs.size (.lst [])) { s2 with heap:=s2.heap.push { cls:=.type "list",data:=.seq ([]:List ah).toArray } }:=I2.WC .nil (gy _);generalize hD:s2.heap.objs.size=D at *
 generalize UG:({ s2 with heap:=s2.heap.push { cls:=.type "list",data:=.seq ([]:List ah).toArray } }:aI)=a at *
 have bl:∀ b o,s2.heap.get? b=some o->a.heap.get? b=some o:=λb o e=>by rw[<- UG];exact eS _ e
 have f3:∀ b∈R,zS X U (upd Z D (.lst [])) b:=λb k=>by obtain⟨f0,fr⟩:=f2 b k;obtain⟨o,ho,_⟩:=T.obj _ _ A7 b k;refine⟨?_,fr⟩;rw[dr (gS (by rw[<- hD];exact fA ho))];exact f0
 have A8:WV 0 a.heap:=T.keep _ _ _ A7 λb k o e=>bl b o e;have bb:∀ b∈R,b<a.heap.objs.size:=λb k=>by obtain⟨o,ho,_⟩:=T.obj _ _ A8 b k;exact fA ho
 refine wpAny_newFunctionEnv O.lD' (by intro y hy;simp at hy) (λNc bg bc=>?_) O.kind;have Nw:∀ b o,a.heap.get? b=some o->Nc.get? b=some o:=λb o e=>bc.extBut b o (gS (fA e)) (eS _ e)
 have WW:=Aa O I3 f3 bb (cE _);have I4:Inv (bh X f a.heap.objs.size (w++A) R a (upd Z D (.lst []))) [] (pI w.length F ab) (upd Z D (.lst [])) { a with heap:=Nc,toks:=a.toks+([]:List (Str × ah)).length }:=by
  refine⟨WW,rfl,I3.bare,Un.kept Nw,⟨_,bg,λi x v e1 V e3=>?_⟩,λx c e=>?_,I3.bT.fresh (cE _),λx c e=>I3.B6 x c (aw x c e),λp hp=>absurd hp (by simp[bh]),I3.bT.kept Nw,?_⟩
  ·have nv:w.length<=i:=by
    by_cases q:i<w.length
    ·unfold pI at V;rw[HK (by simpa using q),List.getElem?_replicate] at V;simp[q] at V
    ·lia
   unfold pI at V;rw[DT (by simpa using nv),Z8,ki] at V;have e1:(w++A)[i]? = some x:=e1;rw[DT nv] at e1
   cases q:F[i-w.length]? with
   |none=>rw[q] at V;cases V
   |some j =>
    rw[q] at V;obtain⟨y,c1,c2,c3,c4,c5⟩:=O.cap _ _ q;rw[c1] at e1;cases e1;have V:ab[j]?.join=some v:=Option.some.inj V;have ej:ab[j]? = some (some v):=by
     cases z:ab[j]? with
     |none=>rw[z] at V;cases V
     |some o=>rw[z] at V;exact congrArg some V
    obtain⟨m,hn,hl⟩:=I3.loc;obtain⟨u,r,l⟩:=hl j x v c2 ej (c3.elim (λz=>.inr (.inl z)) λz=>.inr (.inr z));refine⟨u,r,.inr ⟨c5,?_⟩⟩;rcases l with⟨hk,_⟩|⟨hk,c,Wa,bp⟩
    ·have hk:X.env.scope.names.lookup x=some .local:=hk;rcases c3 with z|z
     ·rw[z] at hk;cases hk
     ·rw[z] at hk;cases hk
    ·obtain⟨c',L8⟩:=lF (Or.inl c4);have:=aw x c' L8;rw[Wa] at this;cases this;obtain⟨o,ho,hd⟩:=bp;exact⟨c,L8,o,Nw _ _ ho,hd⟩
  ·obtain⟨v,o,ho,hd⟩:=I3.cell x c (aw x c e);exact⟨v,o,Nw _ _ ho,hd⟩
  ·show(pI w.length F ab).length=(w++A).length;unfold pI;simp[O.len]
 have back:∀ {Y} {S} {s'},Inv (bh X f a.heap.objs.size (w++A) R a (upd Z D (.lst []))) [] Y S s'->Inv X U ab S s':=λ{Y S s'} I' =>
  Inv.hV' I3 I'.os I'.base I'.bT I'.bare λb k=>by obtain⟨_,f1,_,b2,f4,f5⟩:=f3 b k;exact⟨b2,f1,f4,f5⟩
 have a3:∀ {S},(∀ b∈R,S b=none)->∀ b∈R,zS (bh X f a.heap.objs.size (w++A) R a (upd Z D (.lst []))) [] S b:=λhn b k =>
  ⟨hn b k,(WW.V8 b k).1,WW.Uj b k,.inl k,(WW.V8 b k).2,λp hp=>absurd hp (by simp[bh])⟩
 have af:∀ s4:aI,Inv (bh X f a.heap.objs.size (w++A) R a (upd Z D (.lst []))) [] (pI w.length F ab) (upd Z D (.lst [])) s4->WV 0 s4.heap ->
   xD (aE X.prog X.w) X.A (.compLoop (.ListComp E [⟨K,t,B,0⟩] f G) 0 (.ref it) (.ref D) (compEnvC f (yb X.env f.names []) a.heap.objs.size X.env)) (compPost (aE X.prog X.w) X.A X.xe use P (.ref D) a.heap.objs.size) s4:=by
  intro s4 I4 Ct;refine gA (λn s'=>∃ i Y S,Inv (bh X f a.heap.objs.size (w++A) R a (upd Z D (.lst []))) [] Y S s'/\WV i s'.heap/\(∀ b∈R,S b=none)/\W i n Y S) (λ_ _=>False) ?_ (λ_ _ z=>z.elim) m0 ⟨0,_,_,I4,Ct,λb k=>(f3 b k).1,w0⟩
  rintro n s5 ⟨i,Y,H5,I5,MA,Wl,w5⟩;rcases a4 i n Y H5 w5 with⟨a5,qn⟩|⟨go,N1,N2,bt,br,kH⟩
  ·refine cK (T.done (bh X f a.heap.objs.size (w++A) R a (upd Z D (.lst []))) rfl rfl rfl hc i [] s5 Y H5 (λ_ _=>False) I5 (a3 Wl) MA a5) λr s6 dE=>?_;obtain⟨hr,I6⟩:=dE;subst hr;have J6:=back I6;obtain⟨m,hn,_⟩:=I6.loc;exact b1 _ D m H5 s6 _ J6 hn I6.free (I3.IB (cE _) I6.free) qn
  ·refine cK (T.item (bh X f a.heap.objs.size (w++A) R a (upd Z D (.lst []))) rfl rfl rfl hc i [] s5 Y H5 (λ_ _=>False) I5 (a3 Wl) MA go) λr s6 dE=>?_;obtain⟨u,hr,h6⟩:=dE;subst hr;refine cK h6 λ_ s7 dE=>?_;obtain⟨x,H7,I7,r7,y7,a0,b0⟩:=dE;have b3:=I7.pinned (a3 b0) (T.obj _ _ a0);refine cK (hg _ _ _ _ _ s7 Y H7 x u _ b3 r7 (kH x H7 y7)) λ_ s8 dE=>?_;obtain⟨SD,H8,I8,q8⟩:=dE;refine cK (Bn _ _ _ _ _ s8 SD H8 _ I8 q8) λok s9 dE=>?_;obtain⟨H9,I9,q9⟩:=dE;have ae:∀ {s'} {S} {m'},Inv (bh X f a.heap.objs.size (w++A) R a (upd Z D (.lst []))) ([]++Us R s7.heap) SD S s'->m'<n->W (i+1) m' SD S ->
     ∃ m,m<n/\∃ i Y S,Inv (bh X f a.heap.objs.size (w++A) R a (upd Z D (.lst []))) [] Y S s'/\WV i s'.heap/\(∀ b∈R,S b=none)/\W i m Y S:=λ{s' S m'} J hm w'=>by
    refine⟨m',hm,i+1,SD,S,J.Wk,T.keep _ _ _ a0 λb k o e=>(J.pin (b,o) (kR _ (kR _ (Wj k e)))).1,λb k=>?_,w'⟩;obtain⟨o,e,d⟩:=T.obj _ _ a0 b k;exact(J.pin (b,o) (kR _ (kR _ (Wj k e)))).2.1
   cases ok with
   |false =>obtain⟨m',hm,w'⟩:=br _ _ q9;exact ae I9 hm w'
   |true =>refine cK (he _ _ _ _ _ s9 SD H9 _ I9 q9) λx9 a7 cq=>L2.eM cq λar a6 b5 a8 ba=>?_;obtain⟨ys,m',hH,hz,hm,w'⟩:=bt _ _ _ ba;refine cK (Sn _ a7 SD a6 (.ref D) [ar] (.ref D) [x9] (λ_ S=>S=upd a6 D (.lst (ys++[ar]))) b5 rfl (.cons a8 .nil) ⟨D,ys,ar,rfl,rfl,hH,hz,rfl⟩) λ_ cb cq=>L2.eM cq λ_ cg b4 _ a9=>?_;subst a9;exact ae b4 hm w'
 exact codeAny_compStart_list (af _ I4 (T.keep _ _ _ A8 λb k o e=>Nw b o e)) (T.self _ 0 _ _ _ (T.keep _ _ _ A8 λb k o e=>Nw b o e) (af _ I4 (T.keep _ _ _ A8 λb k o e=>Nw b o e)))
def Hw(y:X.calm=true)(p:PI X K t L)(O:fj X f w A F)(q:∀ C d c a,PG (bh X f C (w++A) d c a) K g) (W:∀ C d c a,EC (bh X f C (w++A) d c a) B N) (v:∀ C d c a,PE (bh X f C (w++A) d c a) E M)(l:autoParam (∀ x,LJ t X.env x=pure x) vw):PE X (.ListComp E [⟨K,t,B,0⟩] f G) (zN L g N M w.length F):=by
 intro j s Y H Q I h;exact vf y p O q W v l I h λC D m V Z r T n u zq k=>by obtain⟨_,S,_,R,P,J⟩:=zq;exact⟨m,n,λU i=>⟨.ref D,V,T.turned (λb o z e=>i.extBut b o z e) u S R P J,rfl,k⟩⟩
def xF{i:Nat}{x:Str}{c Q:Pos}(hN:X.N.Nodup)(FP:X.N[i]? = some x)(W:Loc X.env.scope x)(hc:X.calm=true)(hi:PI X K t L)(O:fj X f w A F)(hg:∀ C l k j,PG (bh X f C (w++A) l k j) K g) (Bn:∀ C l k j,EC (bh X f C (w++A) l k j) B N) (he:∀ C l k j,PE (bh X f C (w++A) l k j) E M)(n:nL (.ListComp E [⟨K,t,B,0⟩] f G) (some (.Name x c)) Q.line X.env=pure true)(Y:autoParam (∀ x,LJ t X.env x=pure x) vw) (hf:autoParam (j8 X x) u') :
  PS X (.Assign [.Name x c] (.ListComp E [⟨K,t,B,0⟩] f G) Q) (dq' (zN L g N M w.length F) (aA' i)):=by
 intro d s ab H D0 I h;rw[exec_Assign_Name_used _ _ _ _ n];refine ax (wpAny_standAt (ax ?_));show bq _ _ (do let _ <- comprehension (.ListComp E [⟨K,t,B,0⟩] f G) f X.env _ (newList []) false (dn t X.env) (some (assign (.Name x c) X.env))) _ _ s;refine ax (ua (vf (use:=some (assign (.Name x c) X.env)) (P:=λ_ y=>SP X d D0 .next y) hc hi O hg Bn he Y I h λC D m H5 T r J6 U IX zq V=>?_) (λ_ y Z=>bI (bI Z)) λ_ _ e=>e);obtain⟨_,J,_,g3,z,g5⟩:=zq;refine ?_;refine(show bq _ _ (assign (.Name x c) X.env (.ref D)) _ _ T from wpAny_assign_Name (dc' J6 hN FP W (v:=.ref D) rfl (λS I7 dE=>?_) hf));obtain⟨a,R,q⟩:=dE;have u:C≠a:=by
  rcases q with rfl|q
  ·exact J
  ·exact Ne.symm (z _ a q)
 refine⟨m,U.sameBut R u,λh' p=>⟨_,H5,?_,V⟩⟩;exact I7.turned (t':=S.toks) (λb o hb e=>p.extBut b o hb e) IX J g3 z g5
end
def SF (a b:String):Bool:=a == b || (a == "bool" && b == "int")
def bh' (b:String):Bool:=["str", "int", "bool", "list", "tuple", "dict"].contains b
def jM (K:ay) (a b:String) (d:a∈["NoneType", "bool", "int", "str", "list", "tuple", "dict"]) (c:b∈["str", "int", "bool", "list", "tuple", "dict"]):PySem.W.kitOne K (.type a) (.type b)=some (SF a b):=by simp only[dQ,sM,or_false] at d c;rcases d with rfl|rfl|rfl|rfl|rfl|rfl|rfl<;>rcases c with rfl|rfl|rfl|rfl|rfl|rfl<;>kernel_rfl
section
variable {X:Cx}
def eJ.imp(h:eJ X f r)(e:∀ x y H Q,o x y H Q->r x y H Q):eJ X f o :=
 λa s b H x y v u Q I d c q=>h a s b H x y v u Q I d c (e x y H Q q)
def Nf(K:ay):R2:=λx y H Q=>∃ l b c a,x=.ref l/\y=.ref b/\eP K H l c/\eP K H b a/\c.length+a.length<=bG/\∀ p,H p=none->Q (.ref p) (upd H p (.lst (c++a)))
def JR:eJ X (qS .Add) (Nf X.K):=by
 intro j s R H x y v u Q I A w h;obtain⟨l,b,W,S,rfl,rfl,J,K,Y,q⟩:=h;cases A;cases w;obtain⟨a,r,B,z⟩:=I.list J;obtain⟨g,i,c,T⟩:=I.list K;have Z:=r.length;have V:=i.length;obtain⟨⟨N,M,m,t⟩,k,G,n,F⟩:=id B.isList;obtain⟨⟨E,P,f,O⟩,p,e,D,d⟩:=id c.isList;subst G F e d;have L:a.toArray++g.toArray=(a++g).toArray:=by simp
 refine concat_meets ⟨_,k,rfl⟩ ⟨_,p,rfl⟩ noFill_list_add seq_list_add PySem.F.slot_list_add PySem.F.entry_list_add (PySem.F.args_list_add_2 _ _) (list_addW l b a.toArray g.toArray n D M P t O (by simp only[kg];lia)) ⟨k,p,?_⟩;rw[L];exact⟨.ref _,_,I.WC (r.append i) (by rw[kz];lia),rfl,q _ I.fresh⟩
def Dz(K:ay):R2:=λx y H Q=>match x,y with
 |.int i,.int j=>Q (.int (i+j)) H
 |.str i,.str j=>i.length+j.length<=bG/\Q (.str (i++j)) H
 |.ref a,.ref b=>∃ d c,eP K H a d/\eP K H b c/\d.length+c.length<=bG/\∀ p,H p=none->Q (.ref p) (upd H p (.lst (d++c)))
 |_,_=>False
def Hk:eJ X (qS .Add) (Dz X.K):=by
 refine(jc'.or (jA'.or JR)).imp λx y H Q h=>?_;unfold Dz at h;split at h
 ·exact .inl ⟨_,_,rfl,rfl,h⟩
 ·exact .inr (.inl ⟨_,_,rfl,rfl,h.1,h.2⟩)
 ·obtain⟨b,a,f,e,d,c⟩:=h;exact .inr (.inr ⟨_,_,b,a,rfl,rfl,f,e,d,c⟩)
 ·exact h.elim
def Hf:R2:=λx y H Q=>match x,y with
 |.int i,.int j=>Q (.int (i-j)) H
 |_,_=>False
def IK:eJ X (qS .Sub) Hf:=jd'.imp λx y H Q h=>by
 unfold Hf at h;split at h
 ·exact⟨_,_,rfl,rfl,h⟩
 ·exact h.elim
def Hx:R2:=λx y H Q=>match x,y with
 |.int i,.int j=>Sf i j/\Q (.int (i*j)) H
 |_,_=>False
def Hb:eJ X (qS .Mult) Hx:=je'.imp λx y H Q h=>by
 unfold Hx at h;split at h
 ·exact⟨_,_,rfl,rfl,h.1,h.2⟩
 ·exact h.elim
def Hy:R2:=λx y H Q=>match x,y with
 |.int i,.int j=>(0<j/\j<1073741824)/\Q (.int (i / j)) H
 |_,_=>False
def HR:eJ X (qS .FloorDiv) Hy:=jf'.imp λx y H Q h=>by
 unfold Hy at h;split at h
 ·exact⟨_,_,rfl,rfl,h.1,h.2⟩
 ·exact h.elim
def JL:R2:=λx y H Q=>match x,y with
 |.int i,.int j=>0<j/\Q (.int (i % j)) H
 |_,_=>False
def HB:eJ X (qS .Mod) JL:=jg'.imp λx y H Q h=>by
 unfold JL at h;split at h
 ·exact⟨_,_,rfl,rfl,h.1,h.2⟩
 ·exact h.elim
def yi(x y:Str):Bool:=decide (x.cps.toList<y.cps.toList)
def bi':R2:=λx y H Q=>match x,y with
 |.int i,.int j=>Q (.bl (decide (i<j))) H
 |.str i,.str j=>Q (.bl (yi i j)) H
 |_,_=>False
def fK:eJ X (iX .Lt) bi':=(jn'.or jq').imp λx y H Q h=>by
 unfold bi' at h;split at h
 ·exact .inl ⟨_,_,rfl,rfl,h⟩
 ·exact .inr ⟨_,_,rfl,rfl,h⟩
 ·exact h.elim
def yu:eJ X (iX .LtE) (λx y H Q=>∃ i j,x=.str i/\y=.str j/\Q (.bl (!yi j i)) H):=by intro a s d H x y v u Q I c b h;obtain⟨i,j,rfl,rfl,q⟩:=h;obtain⟨t,rfl⟩:=c;obtain⟨e,rfl⟩:=b;exact PySem.P.le_str ⟨.bl _,H,I,rfl,q⟩
def bj':R2:=λx y H Q=>match x,y with
 |.int i,.int j=>Q (.bl (decide (i<=j))) H
 |.str i,.str j=>Q (.bl (!yi j i)) H
 |_,_=>False
def i_:eJ X (iX .LtE) bj':=(jo'.or yu).imp λx y H Q h=>by
 unfold bj' at h;split at h
 ·exact .inl ⟨_,_,rfl,rfl,h⟩
 ·exact .inr ⟨_,_,rfl,rfl,h⟩
 ·exact h.elim
def bk':R2:=λx y H Q=>match x,y with
 |.int i,.int j=>Q (.bl (decide (j<i))) H
 |_,_=>False
def oA:eJ X (iX .Gt) bk':=jp'.imp λx y H Q h=>by
 unfold bk' at h;split at h
 ·exact⟨_,_,rfl,rfl,h⟩
 ·exact h.elim
def Inv.rd(I:Inv X C U H s)(e:Rd H a u):n4 X.prog X.w H s.heap a u:=e.elim (I.bT a _) λ⟨o,e⟩=>(I.bT a _ e).2
def WY(K:ay):List V->Hp->VK->Prop:=λc H Q=>match c with
 |[.str y]=>y.length<=bG/\Q (.int y.length) H
 |[.ref p]=>(∃ a,eP K H p a/\Q (.int a.length) H)\/(∃ a,kN K H p a/\Q (.int a.length) H)\/∃ b,Rd H p (.dK b)/\Q (.int b.length) H
 |_=>False
def Am:oa X (.builtin "len") (WY X.K):=by
 intro a s d H k f Q I r h;unfold WY at h;split at h
 ·exact Wn a s d H _ f Q I r ⟨_,_,rfl,⟨h.1,rfl⟩,h.2⟩
 ·rcases h with⟨e,c,b⟩|⟨e,c,b⟩|⟨i,c,b⟩
  ·exact Wn a s d H _ f Q I r ⟨_,_,rfl,.inl ⟨e,c,rfl⟩,b⟩
  ·exact Wn a s d H _ f Q I r ⟨_,_,rfl,.inr ⟨e,c,rfl⟩,b⟩
  ·obtain⟨u,rfl,g⟩:=vals1 r;cases g;exact kX' I c λt l j=>⟨.int i.length,H,j,⟨t,rfl⟩,b⟩
 ·exact h.elim
def WZ(K:ay):R2:=λx y H Q=>match x,y with
 |.ref p,.int i=>(∃ a v,eP K H p a/\fT a i=some v/\Q v H)\/∃ a v,kN K H p a/\fT a i=some v/\Q v H
 |.str z,.int i=>z.length<=bG/\∃ c,fT z.cps.toList i=some c/\Q (.str ⟨#[c]⟩) H
 |_,_=>False
def Gk:Ap X (WZ X.K):=by
 intro a b d s j H x y v u Q I l k h m;refine kA' a b d s j H x y v u Q I l k ?_ m;unfold WZ at h;split at h
 ·rcases h with⟨i,w,g,f,e⟩|⟨i,w,g,f,e⟩
  ·exact .inl ⟨_,i,_,w,rfl,rfl,g,f,e⟩
  ·exact .inr (.inl ⟨_,i,_,w,rfl,rfl,g,f,e⟩)
 ·obtain⟨g,c,f,e⟩:=h;exact .inr (.inr ⟨_,_,c,rfl,rfl,g,f,e⟩)
 ·exact h.elim
def pV(z:Str)(a b:Option Int):Str:=⟨((z.cps.toList.drop (HT.dk z.length 0 a)).take (HT.dk z.length z.length b-HT.dk z.length 0 a)).toArray⟩
end
def yG(l:List Nat)(b c:Option Int)(h:((l.drop (HT.dk l.length 0 b)).take (HT.dk l.length l.length c-HT.dk l.length 0 b)).length=l.length) : (l.drop (HT.dk l.length 0 b)).take (HT.dk l.length l.length c-HT.dk l.length 0 b)=l:=by
 generalize HT.dk l.length 0 b=a at *
 by_cases d:l.length=0
 ·have:l=[]:=PR.mp d;subst this;simp
 ·rw[lI,DV] at h;have e:a=0:=by lia
  subst e;rw[List.drop_zero];exact PY (by lia)
def Bj(a b:Option Int)(n:Nat):Builtin.Str.strSliceIndices a b 1 n=(List.range (HT.dk n n b-HT.dk n 0 a)).map (HT.dk n 0 a + ·):=by
 have d:(match a with|none=>0|some i=>max 0 (min (if i<0 then i+n else i) n))=((HT.dk n 0 a:Nat):Int):=by
  cases a with
  |none=>simp[HT.dk]
  |some i =>
   simp only[HT.dk];by_cases h:i<0
   ·simp only[h,if_true]<;>lia
   ·simp only[h,if_false]<;>lia
 have c:(match b with|none=>n|some i=>max 0 (min (if i<0 then i+n else i) n))=((HT.dk n n b:Nat):Int):=by
  cases b with
  |none=>simp[HT.dk]
  |some i =>
   simp only[HT.dk];by_cases h:i<0
   ·simp only[h,if_true]<;>lia
   ·simp only[h,if_false]<;>lia
 rw[<- sliceRange_one,<- d,<- c];cases a<;>cases b<;>rfl
section
variable {X:Cx}
def part_of(h:IsPart v o):∃ p:Option (Int × Tok),v=partValue p/\p.map (·.1)=o:=by
 cases h with
 |none=>exact⟨none,rfl,rfl⟩
 |int i t=>exact⟨some (i,t),rfl,rfl⟩
def bl'(K:ay):V->Option Int->Option Int->Hp->VK->Prop:=λx c d H Q=>match x with
 |.str z=>z.length<=bG/\Q (.str (pV z c d)) H
 |.ref a=>∃ b,eP K H a b/\∀ p,H p=none->Q (.ref p) (upd H p (.lst (MV b c d)))
 |_=>False
def Lx:Sj X (λx a b H Q=>∃ z,x=.str z/\z.length<=bG/\Q (.str (pV z a b)) H):=by
 intro f s A H x v D B a b E Q I j n l k h;obtain⟨z,rfl,G,q⟩:=h;obtain⟨t,rfl⟩:=j;obtain⟨e,rfl,y⟩:=part_of l;obtain⟨d,rfl,w⟩:=part_of k;refine⟨"str",_,F.slot_str_getitem.lookup,Fm s z t,wpAny_getItem_str_slice (st:=none) n rfl ?_⟩;have c:z.cps.toList.length=z.length:=by simp[Str.length]
 have g:slicePicked z e d none=(List.range (HT.dk z.length z.length b-HT.dk z.length 0 a)).map (HT.dk z.length 0 a + ·):=by unfold slicePicked;rw[y,w];exact Bj a b z.length
 have r:(slicePicked z e d none).filterMap (z.cps[·]?)=(z.cps.toList.drop (HT.dk z.length 0 a)).take (HT.dk z.length z.length b-HT.dk z.length 0 a):=by rw[g];exact pick_run z.cps _ _
 unfold sliceMade;split
 ·rename_i p;have m:(slicePicked z e d none).length=z.length:=by simpa using p
  have:pV z a b=z:=by
   unfold pV;have u:((z.cps.toList.drop (HT.dk z.cps.toList.length 0 a)).take (HT.dk z.cps.toList.length z.cps.toList.length b-HT.dk z.cps.toList.length 0 a)).length=z.cps.toList.length:=by
    rw[c,lI,DV,c];rw[g,cx,T1] at m;have J:HT.dk z.length z.length b<=z.length:=by
     cases b with
     |none=>simp[HT.dk]
     |some i=>simp only[HT.dk];split<;>lia
    lia
   have:=yG z.cps.toList a b u;rw[c] at this;rw[this]
  rw[this] at q;exact⟨.str z,H,I,⟨t,rfl⟩,q⟩
 ·rw[r];exact⟨by
   show(pV z a b).length<=bG;unfold pV Str.length;simp only[kg,lI,DV,c];lia,⟨.str (pV z a b),H,I.tok _,⟨_,rfl⟩,q⟩⟩
def LR:Sj X (bl' X.K):=by
 intro a s b H x v d c j l e Q I f k i g h;unfold bl' at h;split at h
 ·exact Lx a s b H _ v d c j l e Q I f k i g ⟨_,rfl,h.1,h.2⟩
 ·obtain⟨m,p,n⟩:=h;exact kE' a s b H _ v d c j l e Q I f k i g ⟨_,m,rfl,p,n⟩
 ·exact h.elim
def UH(z:Str):It:=⟨λi _=>i<z.cps.size,λi H x a=>a=H/\∃ c,z.cps[i]? = some c/\x=.str ⟨#[c]⟩,λi _=>z.cps.size<=i⟩
def wJ {P:cy} {K:ay} (q:U = "str_ascii_iterator"\/U = "str_iterator") :
  Turn P w K tg (UH z) [C] C (λi h=>h.IsStrIter C U z t i/\i<=z.cps.size) where
 mem:=by simp
 obj:=λi h a b j=>by
  have e:b=C:=by simpa using j
  subst e;obtain⟨⟨o,e,c,d⟩,_⟩:=a;exact⟨o,e,λv z=>by rw[d] at z;cases z⟩
 keep:=λi h p a k=>let ⟨⟨o,e,c,d⟩,l⟩:=a;⟨⟨o,k C (by simp) o e,c,d⟩,l⟩
 item:=by
  intro X D y F m i f s O H E I n a g;subst D y F;obtain⟨N,M,T,L,J,G⟩:=n C (by simp);obtain⟨a,_⟩:=a;have g:i<z.cps.size:=g;have W:Walks X.prog X.w X.A C [C] [C] z.cps.size (SignAt z) (λi h=>h.IsStrIter C U z t i):=by
   rcases q with rfl|rfl
   ·exact Walks.strAscii (I.ok.hd m) C z t
   ·exact Walks.strWide (I.ok.hd m) C z t
  refine W.item i s _ _ g a λv p r S R x=>?_;obtain⟨c,u,V,rfl⟩:=S;have Z:Inv X f O H { s with heap:=p,toks:=r }:=I.turned (λb o j e=>x b o (by simpa using j) e) N M L J G;obtain⟨o,e,Y,d⟩:=id R;exact⟨_,rfl,Se (s:={ s with heap:=p,toks:=r }) e Y d (by rcases q with rfl|rfl<;>decide) ⟨.str ⟨#[c]⟩,H,Z,⟨u,rfl⟩,⟨rfl,c,V,rfl⟩,⟨R,g⟩,λb j=>(n b j).1⟩⟩
 done:=by
  intro X D y F m i f s O H E I n a g;subst D y F;obtain⟨N,M,T,L,J,G⟩:=n C (by simp);obtain⟨a,B⟩:=a;have g:z.cps.size<=i:=g;have e:i=z.cps.size:=Nat.le_antisymm B g;subst e;have W:Walks X.prog X.w X.A C [C] [C] z.cps.size (SignAt z) (λi h=>h.IsStrIter C U z t i):=by
   rcases q with rfl|rfl
   ·exact Walks.strAscii (I.ok.hd m) C z t
   ·exact Walks.strWide (I.ok.hd m) C z t
  exact W.done s _ _ a λp r x=>⟨rfl,I.turned (λb o j e=>x b o (by simpa using j) e) N M L J G⟩
 self:=λA i s Q E a h=>by
  rcases q with rfl|rfl
  ·exact wpAny_pyIter_striter_ascii a.1 h
  ·exact wpAny_pyIter_striter_wide a.1 h
def Ms(n:PE X l C):PI X U l (λg H R=>C g H λx d=>∃ z,x=.str z/\R (UH z) d):=by
 intro a s g H R I h;refine cK (n a s g H _ I h) λv c r=>L2.eM r λx d f k m=>?_;obtain⟨z,rfl,q⟩:=m;obtain⟨t,rfl⟩:=k;have j:∀ b∈[c.heap.objs.size],zS X a d b:=λb p=>by
  have e:b=c.heap.objs.size:=by simpa using p
  subst e;exact f.IB (cE _) (f.bT.fresh (cE _))
 cases i:z.cps.all (· < 128)
 ·exact wpAny_pyIter_wide i ⟨c.heap.objs.size,[c.heap.objs.size],_,_,d,rfl,f.kept λb o e=>eS _ e,wJ (.inr rfl),⟨⟨_,jI _ rfl,rfl,rfl⟩,gy _⟩,j,q⟩
 ·exact wpAny_pyIter_ascii i ⟨c.heap.objs.size,[c.heap.objs.size],_,_,d,rfl,f.kept λb o e=>eS _ e,wJ (.inl rfl),⟨⟨_,jI _ rfl,rfl,rfl⟩,gy _⟩,j,q⟩
end
structure fD(J:It)(its:List V)(cond:Hp->Prop):Prop where
 go:∀ i H,cond H->i<its.length->J.go i H
 pT:∀ i H x H',cond H->i<its.length->J.pT i H x H'->H'=H/\its[i]? = some x
 stop:∀ H,cond H->J.stop its.length H
def W0(z:Str):List V:=z.cps.toList.map λc=>.str ⟨#[c]⟩
def Jx(z:Str):fD (UH z) (W0 z) (λ_=>True) where
 go:=λi H _ h=>by simpa[W0,UH] using h
 pT:=λi H x a _ _ h=>by obtain⟨rfl,c,e,rfl⟩:=h;refine⟨rfl,?_⟩;unfold W0;rw[ki,sP,e];rfl
 stop:=λH _=>by simp[W0,UH]
def DP(K:ay)(a:ai)(b:List V):fD (Wi K a) b (λH=>eP K H a b) where
 go:=λi H h c=>⟨b,b[i],h,by simp[c]⟩
 pT:=λi H x d h _ y=>⟨y.1,y.2 b h⟩
 stop:=λH h=>⟨b,h,cE _⟩
def zq(K:ay)(a:ai)(b:List V):fD (Itt K a) b (λH=>kN K H a b) where
 go:=λi H h c=>⟨b,b[i],h,by simp[c]⟩
 pT:=λi H x d h _ y=>⟨y.1,y.2 b h⟩
 stop:=λH h=>⟨b,h,cE _⟩
def yW(a:Int)(n:Nat):List V:=(List.range n).map λi=>.int (a+(i:Nat))
def zr(b:Int)(n:Nat):fD (My b n) (yW b n) (λ_=>True) where
 go:=λi H _ h=>by simpa[yW,My] using h
 pT:=λi H x c _ a h=>by
  have a:i<n:=by simpa[yW] using a
  obtain⟨rfl,rfl⟩:=h;refine⟨rfl,?_⟩;simp[yW,a]
 stop:=λH _=>by simp[yW,My]
mutual
inductive Rep(K:ay)(H:Hp):PyData->V->Prop
 |none:Rep K H .none .non
 |bool (b:Bool):Rep K H (.bool b) (.bl b)
 |int (i:Int):Rep K H (.int i) (.int i)
 |str (x:Str):Rep K H (.str x) (.str x)
 |list {a:ai} {vs:List V} {ds:List PyData}:eP K H a vs->b9 K H ds vs->Rep K H (.list ds) (.ref a)
 |tuple {a:ai} {vs:List V} {ds:List PyData}:kN K H a vs->b9 K H ds vs->Rep K H (.tuple ds) (.ref a)
inductive b9(K:ay)(H:Hp):List PyData->List V->Prop
 |nil:b9 K H [] []
 |cons {d:PyData} {v:V} {ds:List PyData} {vs:List V}:Rep K H d v->b9 K H ds vs->b9 K H (d :: ds) (v :: vs)
end
section
variable {X:Cx}{f:List (ai × Obj)}{g:St}{H:Hp}{s:aI}
def Rep.reads(I:Inv X f g H s){d v u}(h:Rep X.K H d v)(r:RelV v u):∃ a,Reads s.heap u d a:=by
 revert u;refine Rep.rec (motive_1:=λd v _=>∀ {u},RelV v u->∃ a,Reads s.heap u d a) (motive_2:=λz m _=>∀ {l},Vals m l->∃ a,ReadsAll s.heap l z a) (λr=>?_) (λb _ r=>?_) (λi _ r=>?_) (λx _ r=>?_) (λh _ q _ r=>?_) (λh _ q _ r=>?_) (λr=>?_) (λ_ _ p q _ r=>?_) h
 ·cases r;exact⟨_,.none⟩
 ·cases r;exact⟨_,.bool b⟩
 ·obtain⟨t,e⟩:=r;subst e;exact⟨_,.int i t⟩
 ·obtain⟨t,e⟩:=r;subst e;exact⟨_,.str x t⟩
 ·cases r;obtain⟨k,j,y,_⟩:=I.list h;obtain⟨o,e,c,n,d⟩:=y.isList;obtain⟨a,q⟩:=q j;exact⟨_,.list e c d q⟩
 ·cases r;obtain⟨k,j,⟨o,e,c,n,d⟩,_⟩:=I.tuple h;obtain⟨a,q⟩:=q j;exact⟨_,.tuple e c d q⟩
 ·cases r;exact⟨_,.nil⟩
 ·cases r with|cons r w=>obtain⟨a,p⟩:=p r;obtain⟨A,q⟩:=q w;exact⟨_,.cons p q⟩
def bm'(K:ay):R2:=λx y H Q=>∃ d e,Rep K H d x/\Rep K H e y/\d.canLay0=true/\e.canLay0=true/\d.depth<=60/\Q (.bl (PyData.eqv d e)) H
def bn'(K:ay):R2:=λx y H Q=>∃ d e,Rep K H d x/\Rep K H e y/\d.canLay0=true/\e.canLay0=true/\d.depth<=60/\Q (.bl (!PyData.eqv d e)) H
def Lw(n:X.A.units+64<f7):eJ X (iX .Eq) (bm' X.K):=by intro f s g H x y v u Q I b a h;obtain⟨d,e,m,l,k,j,p,q⟩:=h;obtain⟨t,i⟩:=m.reads I b;obtain⟨r,c⟩:=l.reads I a;exact PySem.SeqAt.rcAt_reads i c k j (by lia) X.prog X.w X.xe _ ⟨.bl _,H,I,rfl,q⟩
def MF(n:X.A.units+64<f7):eJ X (iX .NotEq) (bn' X.K):=by intro f s g H x y v u Q I b a h;obtain⟨d,e,m,l,k,j,p,q⟩:=h;obtain⟨t,i⟩:=m.reads I b;obtain⟨r,c⟩:=l.reads I a;exact PySem.SeqAt.rcNeAt_reads i c k j (by lia) X.prog X.w X.xe _ ⟨.bl _,H,I,rfl,q⟩
def W3(K:ay):R2:=λx y H Q=>match x,y with
 |.int i,.int j=>Q (.bl (decide (i=j))) H
 |.str i,.str j=>Q (.bl (decide (i=j))) H
 |.bl i,.bl j=>Q (.bl (decide (i=j))) H
 |_,_=>bm' K x y H Q
def MN(a:X.A.units+64<f7):eJ X (iX .Eq) (W3 X.K):=(jl'.or (Lw a)).imp λx y H Q h=>by
 unfold W3 at h;split at h
 ·refine .inl ⟨rfl,?_⟩;simpa using h
 ·refine .inl ⟨rfl,?_⟩;simpa using h
 ·refine .inl ⟨rfl,?_⟩;simpa using h
 ·exact .inr h
def W4(K:ay):R2:=λx y H Q=>match x,y with
 |.int i,.int j=>Q (.bl (!decide (i=j))) H
 |.str i,.str j=>Q (.bl (!decide (i=j))) H
 |.bl i,.bl j=>Q (.bl (!decide (i=j))) H
 |_,_=>bn' K x y H Q
def Mx(a:X.A.units+64<f7):eJ X (iX .NotEq) (W4 X.K):=(jm'.or (MF a)).imp λx y H Q h=>by
 unfold W4 at h;split at h
 ·refine .inl ⟨rfl,?_⟩;simpa using h
 ·refine .inl ⟨rfl,?_⟩;simpa using h
 ·refine .inl ⟨rfl,?_⟩;simpa using h
 ·exact .inr h
def W5(K:ay):List V->Hp->VK->Prop:=λc H Q=>match c with
 |[.ref a]=>∃ b:List Bool,eP K H a (b.map V.bl)/\Q (.bl (b.all id)) H
 |_=>False
def zp (G:X.calm=true):oa X (.builtin "all") (W5 X.K):=by
 intro f s g H S W Q I r h;unfold W5 at h;split at h
 ·rename_i a;obtain⟨c,e,q⟩:=h;obtain⟨u,rfl,A⟩:=Vals.one r;cases A;obtain⟨d,p,D,Z⟩:=I.list e;have w:s.heap.IsList a d.toArray:=D.isList;obtain⟨o,t,O,n,R⟩:=id w;have j:=p.length;rw[cx] at j;refine call_all_walk (wpAny_pyIter_list w ?_);have K:a≠s.heap.objs.size:=gS (fA t);have N:X.A.in1.handled=none:=I.ok.hd G;refine⟨s.heap.objs.size,_,_,_,_,_,λi=>c.getD i true,rfl,Walks.list N s.heap.objs.size a K d.toArray,⟨⟨_,jI _ rfl,rfl,rfl⟩,⟨_,eS _ t,O,n,R⟩⟩,?_,λC Y F=>?_⟩
  ·intro i v z P U E l;have m:d[i]? = some v:=by simpa using E
   have k:i<c.length:=by have:=(k7.mp m).1;lia
   obtain⟨T,y,B⟩:=p.get (i:=i) (x:=V.bl c[i]) (by simp[k]);rw[m] at y;cases y;cases (B);have M:c.getD i true=c[i]:=by simp[List.getD,k]
   have l:P (c.getD i true) z:=l;rw[M] at l;exact AZ l
  ·have L:((List.range d.toArray.size).all λi=>c.getD i true)=c.all id:=by
    rw[kg,<- j];apply zD.mpr;simp only[xI,vF,id];constructor
    ·intro h b J;obtain⟨i,k,rfl⟩:=List.mem_iff_getElem.mp J;have:=h i k;simpa[List.getD,k] using this
    ·intro h i k;have:=h c[i] (VC k);simpa[List.getD,k] using this
   rw[L];exact⟨.bl (c.all id),H,I.kept λb o e=>F b o (by simp;exact gS (fA e)) (eS _ e),rfl,q⟩
 ·exact h.elim
end
end L2
namespace L2
section
variable {X:Cx}{a:List (ai × Obj)}{f:St}{H:Hp}{s:aI}{d:d5}
def Inv.Oe{t':Nat}{i:List ai}(I:Inv X a f H s)(h:∀ b∈i,zS X a H b)(k:∀ b o,b∉i->s.heap.get? b=some o->d.get? b=some o):Inv X a f H { s with heap:=d,toks:=t' }:=by
 have j:∀ b u,H b=some u->b∉i:=λb u e z=>by rw[(h b z).1] at e;cases e
 refine I.step (λb t=>?_) (λb o _ _ g e _=>k b o g e) (λb o _ _ g e _=>⟨o.slots,k b o g e⟩) (λ_ _ _ _ n=>n) (λb o g e=>⟨o,k b o g e⟩) (λ_ _ e=>e) (λ_ _ _ e=>e) (λb E e=>⟨#[],by rw[e];simp⟩) (λm p=>?_) (λb u e=>?_) I.bare
 ·obtain⟨G,A,F,y,x,w⟩:=h b t;exact⟨y,A,x,w⟩
 ·obtain⟨o,B,D,l,r⟩:=p;exact⟨o,B,D,k _ o (λz=>(h _ z).2.1 rfl) l,r⟩
 ·refine(I.bT b u e).gE (λc v g q=>k c v ?_ q) (λ_ q=>q) λ_ _ q=>q;rcases g with z|z
  ·rw[z];exact j b u e
  ·exact j c _ z
def Inv.lW'{A:Nat}{w:List ai}{p:ai}{i:List V}(I:Inv X a f H s)(t:∀ b∈w,zS X a H b)(k:∀ b o,b∉w->s.heap.get? b=some o->d.get? b=some o)(x:s.heap.objs.size<=p)(l:n4 X.prog X.w (upd H p (.tup i)) d p (.tup i)):Inv X a f (upd H p (.tup i)) { s with heap:=d,toks:=A }:=by
 have h:=I.bT.fresh x;have y:∀ b u,H b=some u->b∉w:=λb u e z=>by rw[(t b z).1] at e;cases e
 have B:∀ b o,s.heap.get? b=some o->b≠p:=λb o e=>gS (sN (fA e) x);refine I.step (λb j=>?_) (λb o _ _ g e _=>k b o g e) (λb o _ _ g e _=>⟨o.slots,k b o g e⟩) (λb o _ e n=>by rw[dr (B b o e)];exact n) (λb o g e=>⟨o,k b o g e⟩) (λ_ _ e=>by rw[dr (zI e h)];exact e) (λ_ _ _ e=>by rw[dr (zI e h)];exact e) (λb N e=>⟨#[],by rw[dr (zI e h),e];simp⟩) (λm E=>?_) (λb u e=>?_) I.bare
 ·obtain⟨P,K,O,J,G,F⟩:=t b j;exact⟨J,K,G,F⟩
 ·obtain⟨o,L,M,D,r⟩:=E;exact⟨o,L,M,k _ o (λz=>(t _ z).2.1 rfl) D,r⟩
 ·by_cases j:b=p
  ·subst j;rw[eT] at e;cases e;exact l
  ·rw[dr j] at e;refine(I.bT b u e).gE (λc v g q=>k c v ?_ q) (λc q=>by rw[dr (zI q h)];exact q) λc i q=>by rw[dr (zI q h)];exact q
   rcases g with z|z
   ·rw[z];exact y b u e
   ·exact y c _ z
end
def Ite(K:ay)(a:ai):It :=
 ⟨λi H=>∃ b x,eP K H a b/\b[i]? = some x,λi H x c=>∃ p v,x=.ref p/\H p=none/\c=upd H p (.tup [.int i,v])/\∀ b,eP K H a b->b[i]? = some v,λi H=>∃ b,eP K H a b/\b.length<=i⟩
def Gf:(2:Nat)<=bG:=by rw[kQ];decide
def zT{P:cy}{w:c9}{K:ay}{y:List Expr}{k:Nat}{F:Pos}(a e l:ai)(t:e≠l):Turn P w K (.Tuple y k F) (Ite K a) [e,l] e (λi h=>(∃ f,IsEnum h e l i f)/\h.IsListIter l a i) where
 mem:=by simp
 obj:=λi h zq b g=>by
  obtain⟨⟨f,j⟩,r⟩:=zq
  rcases dQ.mp g with rfl|g
  ·exact⟨_,j,λv z=>nomatch z⟩
  ·have e:b=l:=by simpa using g
   subst e;obtain⟨o,e,c,d⟩:=r;exact⟨o,e,λv z=>by rw[d] at z;cases z⟩
 keep:=λi h h' zj k=>by obtain⟨⟨f,j⟩,r⟩:=zj;exact⟨⟨f,k e (by simp) _ j⟩,r.at λo e=>k l (by simp) o e⟩
 item:=by
  intro X R N S W i n s V H E I B r O;subst R N S;obtain⟨Z,x,A,M⟩:=O;obtain⟨L,D,p,hz⟩:=I.list A;obtain⟨u,hu,C⟩:=D.get M;obtain⟨⟨f,j⟩,m⟩:=r;refine wpAny_pyNext_enum_item j m p.isList (x:=u) (by simpa using hu) t λh1 ho G hT g9 hk=>⟨_,rfl,?_⟩
  refine wpAny_letOwnedTupleGo_enum (s:={ s with heap:=h1,toks:=s.toks+1 }) ho λT NC J=>?_;have U:∀ b o,b∉[e,l]->s.heap.get? b=some o->T.get? b=some o:=λb o g q=>(J.2 b λz=>g (by simp[z])).trans (hk b o (λz=>g (by simp[z])) (λz=>g (by simp[z])) q);have Y:e<s.heap.objs.size:=fA j;have Q:T.get? s.heap.objs.size=some { cls:=.type "tuple",data:=.seq #[.int i s.toks,u] }:=(J.2 _ (P9 Y)).trans hT;have I1:Inv X n V (upd H s.heap.objs.size (.tup [.int i,x])) { s with heap:=T,toks:=s.toks+1 } :=
   I.lW' B U (cE _) ⟨Gf,[.int i s.toks,u],.cons ⟨s.toks,rfl⟩ (.cons C .nil),_,Q,rfl,_,rfl⟩
  refine⟨.ref s.heap.objs.size,_,I1,rfl,⟨_,x,rfl,I.fresh,rfl,λys hy=>by rw[I.az' hy A];exact M⟩,⟨⟨u,by simpa using NC⟩,G.at λo q=>(J.2 l t.symm).trans q⟩,λb g=>?_⟩;rw[dr]
  ·exact(B b g).1
  ·rcases dQ.mp g with rfl|g
   ·exact gS Y
   ·have e:b=l:=by simpa using g
    subst e;obtain⟨o,q,_⟩:=m;exact gS (fA q)
 done:=by intro X R N S W i n s V H E I B r O;subst R N S;obtain⟨Z,A,M⟩:=O;obtain⟨L,D,p,hz⟩:=I.list A;obtain⟨⟨f,j⟩,m⟩:=r;have hl:=D.length;exact wpAny_pyNext_enum_end (I.ok.hd W) j m p.isList (by simp;lia) λh' eb=>⟨rfl,I.Oe (t':=s.toks) B λb o g q=>eb b o (λz=>g (by simp[z])) q⟩
 self:=λ_ _ _ _ _ zx h=>by obtain⟨⟨f,j⟩,_⟩:=zx;exact wpAny_pyIter_enum j h
def Lf(h:b∈[n+1,n]):n<=b:=by simp at h;lia
section
variable {X:Cx}
def Ol(K:ay)(f:TA):TI:=λc H R=>f c H λe b=>∃ a,e=[.ref a]/\(∃ d,eP K b a d)/\R (Ite K a) b
def HH (A:Gl X "enumerate") (y:X.mg "enumerate" = none) (D:PA X [a] U) (w:autoParam (fN [a] X.env=[(false,dn a X.env)]) bv) :
  PI X (.Tuple C k tp) (.Call (.Name "enumerate" p) [a] [] o) (Ol X.K U):=by
 intro c s j H R I h;refine Call_ (B7 I A y boot_enumerate (PyProof.Rows.callWith_type1 (cK (D o c s j H _ I h) λK d E=>L2.eM E λJ F f n t=>?_) w rfl));obtain⟨l,e,⟨G,x⟩,q⟩:=t;subst e
 cases n with
 |cons r m =>cases m;cases r;obtain⟨v,L,u,M⟩:=f.list x;refine call_enumerate_list u.isList λN i g O z=>?_;refine wpAny_pyIter_enum i ?_;refine⟨d.heap.objs.size+1,[d.heap.objs.size+1,d.heap.objs.size],_,_,F,rfl,f.kept z,zT l _ _ (Nat.succ_ne_self _),⟨⟨_,i⟩,g⟩,λb B=>?_,q⟩;have e:d.heap.objs.size<=b:=Lf B;exact f.IB e (f.bT.fresh e)
end
def W6(b:Scope)(a:List (Str × NameKind)):List (Str × NameKind):=a.map λy=>if (y.2 == NameKind.free && b.kind == .function && b.names.lookup y.1 == some .cell)=true then (y.1,NameKind.cell) else (y.1,y.2)
def UI(o:Option NameKind):Bool:=o == some .cell || o == some .free
def HX(b a:Scope)(N d:List Str)(c:List Nat):Bool :=
 a.kind == .function && a.names.all (λy=>y.2 != .cell) && a.names.all (λy=>y.2 != .free || UI (b.names.lookup y.1)) && a.names.all (λy=>y.2 != .local || a.names.lookup y.1 == some .local) &&
 c.length == d.length && (List.range c.length).all (λk=>match c[k]?,d[k]? with
  |some j,some y=>N[j]? == some y && UI (b.names.lookup y) && a.names.contains (y,NameKind.free) && UI ((W6 b a.names).lookup y)
  |_,_=>false) &&
 (W6 b a.names).all (λy=>!(y.2 == .cell || y.2 == .free) || a.names.contains (y.1,NameKind.free))
def uA(h:UI o=true):o=some .cell\/o=some .free:=by unfold UI at h;simpa using h
def fj.of{X:Cx}(f:X.env.scope=C)(s:X.N=N)(h:HX C o N U I=true):fj X o tn U I:=by
 unfold HX at h;simp only[mn] at h;obtain⟨⟨⟨⟨⟨⟨u,p⟩,n⟩,m⟩,t⟩,l⟩,i⟩:=h;rw[xI] at p n m l i;have d:(relabel o X.env).names=W6 C o.names:=by rw[<- f];rfl
 refine⟨by simpa using u,λy c=>by simpa using p y c,λy c a=>?_,λy c a=>?_,by simpa using t,λk j a=>?_,λx b=>?_⟩
 ·have:=n y c;rw[a] at this;rw[f];exact uA (by simpa using this)
 ·have:=m y c;rw[a] at this;simpa using this
 ·have q:k<I.length:=(k7.mp a).1;have:=l k (vF.mpr q);rw[a] at this
  cases e:U[k]? with
  |none=>rw[e] at this;cases this
  |some y =>rw[e] at this;simp only[mn] at this;obtain⟨⟨⟨A,z⟩,w⟩,v⟩:=this;refine⟨y,rfl,by rw[s];simpa using A,by rw[f];exact uA z,by simpa using w,by rw[d];exact uA v⟩
 ·rw[d] at b;have g:∃ k,(x,k)∈W6 C o.names/\(k=.cell\/k=.free):=by
   rcases b with b|b
   ·exact⟨_,PySem.mem_of_lookup b,.inl rfl⟩
   ·exact⟨_,PySem.mem_of_lookup b,.inr rfl⟩
  obtain⟨k,r,a⟩:=g;have:=i _ r;rcases a with rfl|rfl<;>simpa using this
def fj.by{X:Cx}(c:X.env.scope=C/\X.N=N)(h:HX C o N U I=true):fj X o tn U I:=.of c.1 c.2 h
structure SK(P:cy)(w:c9)(K:ay)(mg:Str->Option ah)(base:d5)(k:Nat)(x:Str)(ps:List Str)(sp:Sp):Prop where
 ex:∃ g fd,mg x=some (.ref g)/\yv K (.ref g)=true/\Binds K fd ps []/\mS P w K mg base kB k g fd ps sp
section
variable {X:Cx}{k:Nat}{x:Str}{d:List Str}{c:Sp}{p a:Pos}{e:Expr}{b:List Expr}{t:TA}
def Gm(C:SK X.prog X.w X.K X.mg X.base k x d c)(i:ja k X.A)(r:PA X (e :: b) t)(m:autoParam (Gl X x) bv)(f:autoParam (dw x) tw)(n:autoParam (aR X e b) bv) (h:autoParam (bM X a b) bv):PE X (.Call (.Name x p) (e :: b) [] a) (aN' c [] E0 t):=by
 obtain⟨g,s,j,l,q,F⟩:=C.ex;exact jU' F i m j l q .nil WU r f n h
end
def vi.cal{P:cy}{K:ay}{a:kf}{b:List Str}(F:vi K x o a f U)(i:I x=some (.ref f))(G:mS P w K I C kB k f U b sp)(h:∀ g d e m j l c,c.length=b.length->bindArgs (tT x o (ya a) (oz a) (fF a) .none g d e m j l) ⟨c,[]⟩=pure (b.zip c)):SK P w K I C k x b sp :=
 ⟨f,U,i,F.kp,F.binds h,G⟩
def W7(a:Str->Option ah)(x:Str)(z:Str):Prop:=∃ t,a x=some (.str z t)
def SQ(a:Str->Option ah)(x:Str)(i:Int):Prop:=∃ t,a x=some (.int i t)
def Om{X:Cx}(h:W7 X.mg x z)(a:autoParam (Gl X x) bv)(b:autoParam (dw x) tw):PE X (.Name x o) (tC (.str z)):=by obtain⟨t,e⟩:=h;exact di' a e ⟨t,rfl⟩ b
def O3{X:Cx}(h:SQ X.mg x i)(a:autoParam (Gl X x) bv)(b:autoParam (dw x) tw):PE X (.Name x o) (tC (.int i)):=by obtain⟨t,e⟩:=h;exact di' a e ⟨t,rfl⟩ b
def oJ:mN "str" = some (.type "str"):=by decide +kernel
def Az:mN "int" = some (.type "int"):=by decide +kernel
def Ao:mN "bool" = some (.type "bool"):=by decide +kernel
def p_:mN "list" = some (.type "list"):=by decide +kernel
def je:mN "tuple" = some (.type "tuple"):=by decide +kernel
def qx:mN "isinstance" = some (.builtin "isinstance"):=by decide +kernel
def BL:mN "all" = some (.builtin "all"):=by decide +kernel
def aN:mN "len" = some (.builtin "len"):=by decide +kernel
def gB {X:Cx} {T:String} (c:X.mg x=none) (a:mN x=some (.type T)) (d:autoParam (Gl X x) bv) (b:x ≠ "__name__" := by decide) (e:autoParam (dw x) tw):PE X (.Name x o) (tC (.ty T)) :=
 ic' d c a rfl b e
def EF(i j:Str):Bool:=!(Builtin.Str.occurrences j i 0 j.length 1).isEmpty
def GK(c:Nat)(j:Str):EF ⟨#[c]⟩ j=decide (c∈j.cps.toList):=PySem.StrLaws.found_one j c
def W8(K:ay)(a:Bool):R2:=λx y H Q=>match x,y with
 |.str i,.str j=>Q (.bl (if a then !EF i j else EF i j)) H
 |_,.ref p=>(∃ o,sQ H p x o/\Q (.bl (if a then !o.isSome else o.isSome)) H)\/Wz K a x y H Q
 |_,_=>False
def KC{X:Cx}(i:X.A.units+64<f7):eJ X (iX .In) (W8 X.K false):=by
 intro a s d H x y v u Q I c b h;unfold W8 at h;split at h
 ·exact jr' a s d H _ _ v u Q I c b ⟨_,_,rfl,rfl,h⟩
 ·rcases h with⟨o,g,q⟩|h
  ·cases b;exact kV' (by lia) I g c λf e=>⟨.bl o.isSome,H,e,rfl,q⟩
  ·exact kG' a s d H _ _ v u Q I c b h
 ·exact h.elim
def bE.upd(h:bE H H')(c:H' p=none):bE H (upd H' p o):=λb u e=>by have a:=h b u e;rw[dr (zI a c)];exact a
def bE.lst{K:ay}(e:bE H C)(h:eP K H a o):eP K C a o:=e.seq h
def bE.tup{K:ay}(e:bE H I)(h:kN K H a C):kN K I a C:=by
 rcases h with(h|⟨o,h⟩)|h
 ·exact .inl (.inl (e _ _ h))
 ·exact .inl (.inr ⟨o,e _ _ h⟩)
 ·exact .inr h
section
variable {X:Cx}{K:ay}
def kIx(a:autoParam (X.K=K) bv):Ap X (WZ K):=by subst a;exact Gk
def gu(b:autoParam (X.K=K) bv)(a:autoParam (X.A.units+64<f7) u0):eJ X (iX .Eq) (W3 K):=by subst b;exact MN a
def IY(b:autoParam (X.K=K) bv)(a:autoParam (X.A.units+64<f7) u0):eJ X (iX .NotEq) (W4 K):=by subst b;exact Mx a
def iN(b:autoParam (X.K=K) bv)(a:autoParam (X.A.units+64<f7) u0):eJ X (iX .In) (W8 K false):=by subst b;exact KC a
def bq' (a:autoParam (X.calm=true) bv) (b:autoParam (X.K=K) bv):oa X (.builtin "all") (W5 K):=by subst b;exact zp a
end
def R_{b:Type}{a:b}{p:b->Prop}:(∃ v,a=v/\p v)↔p a:=⟨λzq=>by obtain⟨_,e,h⟩:=zq;exact e ▸ h,λh=>⟨a,rfl,h⟩⟩
abbrev bs':=Array DictEntry
def y6(h:d5)(d:ai)(a:bs')(b:Nat):Prop:=∃ o,h.get? d=some o/\o.ExactDict/\o.data=.dict a b
def y6.typ {s:aI} {d:ai} {a:bs'} {b:Nat} (x:y6 s.heap d a b):s.TypeIs (.ref d) "dict" := let ⟨o,e,c,_⟩:=x;⟨o,e,c.1⟩
section
variable {g:cy}{w:c9}{A:fz}{E:ah->aI->Prop}{s:aI}{d k:ai}{f:bs'}{j i:Nat}
def Dj{Q:ah->aI->Prop}(c:(d == rX)=false)(x:y6 s.heap d f j)(q:Q (.ref s.heap.objs.size) { s with heap:=s.heap.push { cls:=.type "dict_keyiterator",data:=.fields #[.ref d,.int 0 0,.int f.size 0,.int j 0] } }):bq (aE g w) A (pyIter (.ref d)) Q E s:=by
 obtain⟨o,a,e,b⟩:=id x;refine wpAny_pyIter_slot x.typ F.slot_dict_iter (HC F.slot_dict_iter x.typ F.entry_dict_iter ?_ (F.args_dict_iter_1 _));refine ax ?_;refine ax (wpAny_notOrdered_dict x.typ ?_);refine(bI ?_);refine(show bq _ _ (Builtin.Dict.showsAll d >>= _) _ _ s from ?_);unfold Builtin.Dict.showsAll;rw[if_neg (by rw[c];decide)];refine ax (bI (ax (TH a b (ax (wpAny_dictEpoch a b (ax (t5 (bI ⟨_,rfl, "dict_keyiterator",_,⟨_,jI _ rfl,rfl⟩,F.slot_dict_keyiterator_next.lookup,?_⟩))))))));simpa[rg] using q
def Dk(a:s.heap.IsKeyIter k d i f.size j)(x:y6 s.heap d f j)(p:i<f.size)(q:∀ l,l.IsKeyIter k d (i+1) f.size j->Heap.SameBut k s.heap l->Q (some f[i].key) { s with heap:=l }):bq (aE g w) A (pyNext (.ref k)) Q E s:=by
 obtain⟨o,e,r,c⟩:=id a;obtain⟨u,n,t,m⟩:=id x;have ty:=a.typeIs;refine ax (wpAny_attempt (TC ty F.slot_dict_keyiterator_next (HC F.slot_dict_keyiterator_next ty F.entry_dict_keyiterator_next ?_ (F.args_dict_keyiterator_next_1 _))));refine ax (bI (ax (ax ?_)));first|refine ax (Vx ty (bI ?_))|refine ax (Vy ty (bI ?_))
 refine ax (wpAny_fieldsOf e c ?_);refine(show bq _ _ (if (Value.ref d == Value.none)=true then _ else _) _ _ s from ?_);refine ax (bI (ax (TH n m ?_)));rw[if_neg (by intro h;simp at h)];refine ax (bI (ax (wpAny_dictEpoch n m ?_)));rw[if_neg (by intro h;simp at h)];refine bI ?_;simp only[show ¬ (i<0) by lia,if_false,D6,D7 p];refine ax ?_;first|refine ax (Vx ty (bI ?_))|refine ax (Vy ty (bI ?_))
 refine ax (wpAny_isOneOf_keyiter ty ?_);refine(show bq _ _ (setField (.ref k) 1 (rg (i+1)) >>= _) _ _ s from ax (wpAny_setField e c (by simp) ?_));have b:(s.heap.update k (Obj.mapFields (·.setIfInBounds 1 (rg (i+1))))).IsKeyIter k d (i+1) f.size j :=
  ⟨_,HV _ e (Obj.isFreed_of_fields (Obj.data_mapFields c _)),(Obj.cls_mapFields ..).trans r,by rw[Obj.data_mapFields c];simp[rg]⟩
 refine ax (zk (ax (wpAny_isOneOf_keyiter b.typeIs ?_)));refine(bI (bI ⟨_,rfl,bI (q _ b (Heap.SameBut.update ..))⟩))
def DN(n:A.handled=none)(a:s.heap.IsKeyIter k d f.size f.size j)(x:y6 s.heap d f j)(q:∀ e,Heap.ExtBut k s.heap e->Q none { s with heap:=e }) :
  bq (aE g w) A (pyNext (.ref k)) Q E s:=by
 obtain⟨o,b,t,c⟩:=id a;obtain⟨r,m,p,l⟩:=id x;have ty:=a.typeIs;refine ax (wpAny_attempt (TC ty F.slot_dict_keyiterator_next (HC F.slot_dict_keyiterator_next ty F.entry_dict_keyiterator_next ?_ (F.args_dict_keyiterator_next_1 _))));refine ax (bI (ax (ax ?_)));first|refine ax (Vx ty (bI ?_))|refine ax (Vy ty (bI ?_))
 refine ax (wpAny_fieldsOf b c ?_);refine(show bq _ _ (if (Value.ref d == Value.none)=true then _ else _) _ _ s from ?_);refine ax (bI (ax (TH m l ?_)));rw[if_neg (by intro h;simp at h)];refine ax (bI (ax (wpAny_dictEpoch m l ?_)));rw[if_neg (by intro h;simp at h)];refine bI ?_;simp only[show ¬ (f.size<0) by lia,if_false,D6,Qz (cE f.size)];refine ax ?_;first|refine ax (Vx ty (bI ?_))|refine ax (Vy ty (bI ?_))
 refine(show bq _ _ (setField (.ref k) 0 .none >>= _) _ _ s from ax (wpAny_setField b c (by simp) ?_));refine(ax ?_);refine ax (t5 ?_ (by size_fits));refine ax (LP (by first|rfl|(simp only[firstArgMember];rfl)) (t5 ?_ (by size_fits)));refine ax (wpAny_handled ?_);rw[show A.in1.handled=none from n];refine ax (bI (wpAny_throw ?_));refine ax (wpAny_isInstance ⟨_,jI _ rfl,rfl⟩ isSubtype_stop ?_);exact bI (q _ (((Heap.SameBut.update ..).extBut.push _).push _))
def y6.at(x:y6 h d f j)(e:∀ o,h.get? d=some o->C.get? d=some o):y6 C d f j:=let ⟨o,a,r⟩:=x;⟨o,e o a,r⟩
def y6.lt(x:y6 h d f j):d<h.objs.size:=let ⟨_,e,_⟩:=x;fA e
def yK(t:A.handled=none)(I:ai)(u:d≠I):Walks g w A I [I,d] [I] f.size (λi v=>∃ e,f[i]? = some e/\v=e.key) (λi h=>h.IsKeyIter I d i f.size j/\y6 h d f j) where
 sub:=λb m=>by simp at m;simp[m]
 frame:=λ_ _ _ l q=>⟨l.1.at λo e=>q I (by simp) o e,l.2.at λo e=>q d (by simp) o e⟩
 item:=λi s Q E r l n=>Dk l.1 l.2 r λp a b=>n _ p s.toks ⟨f[i],by simp[r],rfl⟩ ⟨a,l.2.at λo e=>b.extBut d o u e⟩ λc o m e=>b.extBut c o (λh=>m (by simp[h])) e
 done:=λs Q E l n=>DN t l.1 l.2 λp x=>n p s.toks λb o m e=>x b o (λh=>m (by simp[h])) e
 self:=λ_ _ _ _ l n=>wpAny_pyIter_keyiter l.1 n
def Iw (b:(d == rX)=false):PySem.W.KdlSrc g w "dict" d d f.size (λi v=>∃ e,f[i]? = some e/\v=e.key) (λh=>y6 h d f j) where
 type:=λ_ x=>x.typ
 there:=λ_ x=>⟨x.lt,x.lt⟩
 keep:=λ_ _ x c=>x.at λo e=>c d (.inl rfl) o e
 notList:=by decide
 notTuple:=by decide
 hint:=λ_ _ _ _ x a=>PySem.W.kdl_hint_dict x.typ a
 iter:=λ_ _ l x=>⟨_,_,(λ_ _ a=>Dj b x a),yK l _ (gS x.lt),⟨⟨_,jI _ rfl,rfl,rfl⟩,x.at λo e=>eS _ e⟩⟩
end
def Paired.n0{c a:Type}{R:c->a->Prop}{b:List a}(h:Paired R [] b):b=[]:=by cases h;rfl
def Paired.c{d e:Type}{R:d->e->Prop}{a:d}{i:List d}{g:List e}(h:Paired R (a :: i) g):∃ b f,g=b :: f/\R a b/\Paired R i f:=by
 cases h with
 |cons r t=>exact⟨_,_,rfl,r,t⟩
def d8(H:Hp)(a:List V)(c:List (List Key)):Prop:=Paired (λ(v:V) (k:List Key)=>∃ b,v=.ref b/\H b=some (.tup (k.map kV))) a c
section
variable {X:Cx}
def vI:List V->Hp->VK->Prop:=λc H Q=>match c with
 |[.ref p]=>∃ b,Rd H p (.dT b)/\∀ a l,d8 H a (b.map (·.1))->H l=none->Q (.ref l) (upd H l (.lst a))
 |_=>False
def GX (h:Paired (λ(p:List Key × V) (q:List Key × ai × ah)=>p.1=q.1/\H q.2.1=some (.tup (p.1.map kV))/\RelV p.2 q.2.2) I o) :
  d8 H (o.map λq=>.ref q.2.1) (I.map (·.1))/\Vals (o.map λq=>.ref q.2.1) ((o.map (entryOfKey (Fn (i3 C w)))).map (·.key)):=by
 induction h with
 |nil=>exact⟨.nil,.nil⟩
 |cons r t a=>exact⟨.cons ⟨_,rfl,r.2.1⟩ a.1,.cons rfl a.2⟩
def xW (B:X.calm=true):oa X (.type "list") vI:=by
 intro j s N H O P Q I r h;unfold vI at h;split at h
 ·rename_i p;obtain⟨M,e,q⟩:=h;obtain⟨u,rfl,v⟩:=Vals.one r;cases v;obtain⟨z,y,g,b,o,l,T,F,E,D,d,S⟩:=(I.rd e)
  obtain⟨t,n⟩:=GX b;have k:l.size=M.length:=by have:=congrArg List.length d;rw[A4,cx] at this;rw[this];exact b.length.symm
  refine PySem.W.kdl_call (Iw y) (I.ok.hd B) ⟨o,F,E,D⟩ (by lia) λG R a c w J f=>?_;have x:a.toList=(g.map (entryOfKey (Fn (i3 X.prog X.w)))).map (·.key):=by
   apply T2;intro i;by_cases A:i<l.size
   ·have m:i<a.size:=by rw[f.1];exact A
    obtain⟨V,L,K⟩:=f.2 i a[i] (by simp[m]);rw[<- d,ki,sP,sP,L];simp[m,K]
   ·rw[<- d,ki,sP,sP,Qz (by rw[f.1];lia),Qz (by lia)];rfl
  refine⟨.ref s.heap.objs.size,_,I.laid w (cE _) (show n4 X.prog X.w _ G _ (.lst (g.map λq=>.ref q.2.1)) from⟨?_,a.toList,c,?_,?_⟩),rfl,q _ _ t (I.bT.fresh (cE _))⟩
  ·rw[cx,<- b.length];exact z
  ·rw[x];exact n
  ·rw[Array.toArray_toList];exact J
 ·exact h.elim
end
end L2
end
namespace Jn
open PySem PyProof.Rows
def R(r:ah->Int)(xs:Array cp)(i:Nat):Int:=match xs[i]? with
 |some p=>r p.1
 |none=>0
def dh(h:C[i]? = o[j]?):R r C i=R r o j:=by unfold R;rw[h]
def sj(a:cy)(w:c9)(A:fz)(s:aI)(b:yB)(r:ah->Int)(P:ah->Prop):Prop :=
 ∀ x y,P x->P y->∀ Q E,Q (decide (r x<r y)) s->bq (aE a w) A (keyLt' b x y) Q E s
def AllP(P:ah->Prop)(a:Array cp):Prop:=∀ p∈a.toList,P p.1
def AllP.perm{P:ah->Prop}(h:AllP P C)(a:o.Perm C):AllP P o:=λp b=>h p ((xdk.mp a).mem_iff.mp b)
def AllP.at{P:ah->Prop}{xs:Array cp}(h:AllP P xs){i:Nat}{p:cp}(e:xs[i]? = some p):P p.1:=h p (by
 obtain⟨a,rfl⟩:=Ub.mp e;simp)
structure qa(lo hi:Nat)(st aw:eA):Prop where
 kind:fS aw=fS st
 failed:uk aw=uk st
 pend:nS aw=nS st
 perm:(bS aw).Perm (bS st)
 out:∀ k,k<lo\/hi<=k->(bS aw)[k]? = (bS st)[k]?
def qa.refl(b c:Nat)(a:eA):qa b c a a:=⟨rfl,rfl,rfl,Array.Perm.refl _,λ_ _=>rfl⟩
def qa.trans{d e:Nat}{a b c:eA}(h:qa d e a b)(g:qa d e b c):qa d e a c :=
 ⟨g.kind.trans h.kind,g.failed.trans h.failed,g.pend.trans h.pend,g.perm.trans h.perm,λk f=>(g.out k f).trans (h.out k f)⟩
def qa.mono{d e f c:Nat}{a b:eA}(h:qa d e a b)(j:f<=d)(i:e<=c):qa f c a b :=
 ⟨h.kind,h.failed,h.pend,h.perm,λk g=>h.out k (by lia)⟩
def qa.size{c d:Nat}{a b:eA}(h:qa c d a b):(bS b).size=(bS a).size:=h.perm.size_eq
def Up(r:ah->Int)(xs:Array cp)(a b:Nat):Prop:=∀ i j,a<=i->i<=j->j<b->R r xs i<=R r xs j
def Down(r:ah->Int)(a:Array cp)(b c:Nat):Prop:=∀ i j,b<=i->i<=j->j<c->R r a j<=R r a i
def v7(c:o<C.size)(f:d<=o)(k:Nat) :
  R r (bubble C o d) k=if k=o-d then R r C o else if o-d<k/\k<=o then R r C (k-1) else R r C k:=by
 have e:=getElem?_bubble c d f k;by_cases b:k=o-d
 ·rw[if_pos b] at e ⊢;exact dh e
 ·rw[if_neg b] at e ⊢;by_cases a:o-d<k/\k<=o
  ·rw[if_pos a] at e ⊢;exact dh e
  ·rw[if_neg a] at e ⊢;exact dh e
def o_(b:j<=o.size)(k:Nat) :
  R r (mirror o i j ((j-i) / 2)) k=if i<=k/\k<j then R r o (i+j-1-k) else R r o k:=by
 have e:=getElem?_mirror_all (i:=i) b k;by_cases a:i<=k/\k<j
 ·rw[if_pos a] at e ⊢;exact dh e
 ·rw[if_neg a] at e ⊢;exact dh e
def bR(b:j<=o.size)(a:∀ k,i<=k->k<j->R r o k=R r o (j-1))(k:Nat) :
  R r (mirror o i j ((j-i) / 2)) k=R r o k:=by
 rw[o_ b];split
 ·rw[a _ (by lia) (by lia),a k (by lia) (by lia)]
 ·rfl
section
variable {a:cy}{w:c9}{A:fz}{E:ah->aI->Prop}{s:aI}{b:yB}{r:ah->Int}{P:ah->Prop}
def rD{c:eA}{x y:cp}{Q:Option Bool->eA->Prop}(C:sj a w A s b r P)(f:fS c=b)(e:P x.1)(d:P y.1)(h:Q (some (decide (r x.1<r y.1))) c) :
  wpS (aE a w) A E s (lt' x y) Q c:=by
 rw[lt'_eq];refine dc (wpS_get ?_);rw[f];exact dc (wpS_lift (wpAny_attempt (C x.1 y.1 e d _ _ ⟨rfl,dz h⟩)))
def aP{xs:Array cp}{i:Nat}{Q:cp->eA->Prop}{c:eA}(d:i<xs.size)(h:∀ p,xs[i]? = some p->Q p c):wpS (aE a w) A E s (elem' xs i) Q c:=by rw[elem'_eq,getElem?_pos xs i d];exact dz (h _ (getElem?_pos xs i d))
def lG{c:eA}{i j:Nat}{Q:Option Bool->eA->Prop}(C:sj a w A s b r P)(g:fS c=b)(d:AllP P (bS c))(l:i<(bS c).size)(k:j<(bS c).size)(h:Q (some (decide (R r (bS c) i<R r (bS c) j))) c):wpS (aE a w) A E s (ltAt' i j) Q c:=by
 refine dc (wpS_get ?_);refine dc (aP l λp f=>dc (aP k λq e=>rD C g (d.at f) (d.at e) ?_));have n:R r (bS c) i=r p.1:=by unfold R;rw[f]
 have m:R r (bS c) j=r q.1:=by unfold R;rw[e]
 rw[<- n,<- m];exact h
def dM{c:eA}{i j:Nat}{Q:Unit->eA->Prop}(h:Q () (setArr c (mirror (bS c) i j ((j-i) / 2)))) :
  wpS (aE a w) A E s (reverseSlice' i j) Q c:=by
 rw[reverseSlice'_eq];exact Fu h
def gn{c:eA}{i j:Nat}(d:j<=(bS c).size):qa i j c (setArr c (mirror (bS c) i j ((j-i) / 2))) :=
 ⟨rfl,rfl,rfl,mirror_perm _ _ _ _,λk f=>by
  have e:=getElem?_mirror_all (i:=i) d k;rw[if_neg (by lia)] at e;exact e⟩
def yf{f:eA}{g c d:Nat}(h:c<(bS f).size)(j:g+d<=c):qa g (c+1) f (setArr f (bubble (bS f) c d)) :=
 ⟨rfl,rfl,rfl,bubble_perm _ _ _,λk i=>by
  have e:=getElem?_bubble h d (by lia) k;rw[if_neg (by lia),if_neg (by lia)] at e;exact e⟩
def wpS_binarySort{m:eA}{d n z:Nat}{Q:Bool->eA->Prop}(C:sj a w A s b r P)(W:fS m=b)(o:AllP P (bS m))(hn:d+n<=(bS m).size)(bT:z<=n)(O:Up r (bS m) d (d+z))(h:∀ e,qa d (d+n) m e->Up r (bS e) d (d+n)->Q true e):wpS (aE a w) A E s (binarySort' d n z) Q m:=by
 refine dc (x3 (uj (I:=λk c e=>c=(none,())/\qa d (d+n) m e/\Up r (bS e) d (d+min k n)) (Q:=λc e=>c=(none,())/\qa d (d+n) m e/\Up r (bS e) d (d+n)) ?kH ?fin ?init) ?post)
 case post =>
  rintro c e ⟨rfl,p,q⟩;exact dz (h e p q)
 case init =>
  refine⟨rfl,.refl _ _ _,λi j J H X=>?_⟩;by_cases B:z=0
  ·have:i=j:=by lia
   subst this;exact A3 _
  ·exact O i j J H (by lia)
 case fin =>
  rintro c e ⟨Y,p,q⟩;refine⟨Y,p,?_⟩;rwa[show min (max (max z 1) n) n=n by lia] at q
 case kH =>
  rintro k c e Z V ⟨rfl,p,q⟩;rw[show min k n=k by lia] at q;have g9:=p.size;have M:fS e=b:=p.kind.trans W;have L:=o.perm p.perm;refine dc (x3 (uj (I:=λx c g=>g=e/\∃ l f,c=(none,l,f)/\l<=f/\f<=k/\f-l<=k-x /\ (∀ i,d<=i->i<d+l->R r (bS e) i<=R r (bS e) (d+k))/\(∀ i,d+f<=i->i<d+k->R r (bS e) (d+k)<R r (bS e) i)) (Q:=λc g=>g=e/\∃ l f,c=(none,l,f)/\l<=k /\ (∀ i,d<=i->i<d+l->R r (bS e) i<=R r (bS e) (d+k))/\(∀ i,d+l<=i->i<d+k->R r (bS e) (d+k)<R r (bS e) i)) ?ma' ?mb' ?mc') ?md')
  case mc'=>exact⟨rfl,0,k,rfl,by lia,by lia,by lia,λi _ hi=>by lia,λi B K=>by lia⟩
  case mb' =>
   rintro c g ⟨rfl,l,f,rfl,F,t,S,v,y⟩;have:l=f:=by lia
   subst this;exact⟨rfl,l,l,rfl,t,v,y⟩
  case ma' =>
   rintro x c g _ N ⟨rfl,l,f,rfl,F,t,S,v,y⟩;dsimp only;by_cases G:l >= f
   ·rw[if_pos G];have:l=f:=by lia
    subst this;exact dz ⟨rfl,l,l,rfl,t,v,y⟩
   ·rw[if_neg G];refine dc (lG C M L (by lia) (by lia) ?_);by_cases D:R r (bS g) (d+k)<R r (bS g) (d+(l+f) / 2)
    ·simp only[D,decide_true,if_true];exact dz ⟨rfl,l,(l+f) / 2,rfl,by lia,by lia,by lia,v,λi B K=>Int.lt_of_lt_of_le D (q _ _ (by lia) B K)⟩
    ·simp only[D,decide_false,vT,if_false];exact dz ⟨rfl,(l+f) / 2+1,f,rfl,by lia,by lia,by lia,λi U B=>FC (q i (d+(l+f) / 2) U (by lia) (by lia)) (Int.not_lt.mp D),y⟩
  case md' =>
   rintro c g ⟨rfl,l,f,rfl,T,v,y⟩;show wpS _ _ _ _ (do moveDown' (d+k) (d+l);pure (ForInStep.yield (none,()))) _ _;rw[moveDown'_eq];have u:d+k<(bS g).size:=by lia
   refine dc (Fu (dz ⟨rfl,p.trans ((yf u (by lia)).mono (cE _) (by lia)),?_⟩));intro i j J H X;rw[v7 u (by lia),v7 u (by lia),show d+k-(d+k-(d+l))=d+l by lia]
   repeat' split
   all_goals first
    | (exfalso;lia)
    |exact A3 _
    |exact v _ (by lia) (by lia)
    |exact LW (y _ (by lia) (by lia))
    |exact q _ _ (by lia) (by lia) (by lia)
end
def ascL(f a d:Nat):StateT eA Sem AscSt :=
 forIn [a:d] ((none,a):AscSt) λ_ c=>do
  let e ← ltAt' (f + c.snd) (f + c.snd - 1)
  match e with
  |some b=>if b=true then pure (ForInStep.done (none,c.snd)) else pure (ForInStep.yield (none,c.snd+1))
  |_=>pure (ForInStep.done (some none,c.snd))
def Bw(c n a:Nat):StateT eA Sem (Option Nat):=do
 reverseSlice' c (c+n)
 let b ← ascL c n a
 match b.fst with
 |some r=>pure r
 |none=>pure (some b.snd)
def Kz(e n f:Nat):StateT eA Sem DescSt :=
 forIn [n:f] ((none,n,0):DescSt) λ_ a=>do
  let d ← ltAt' (e + a.snd.fst) (e + a.snd.fst - 1)
  match d with
  |some b =>
   if b=true then
    if a.snd.snd>0 then do
     reverseSlice' (e+a.snd.fst-(a.snd.snd+1)) (e+a.snd.fst)
     pure (ForInStep.yield (none,a.snd.fst+1,0))
    else pure (ForInStep.yield (none,a.snd.fst+1,0))
   else do
    let d ← ltAt' (e+a.snd.fst - 1) (e+a.snd.fst)
    match d with
    |some c =>
     if c=true then pure (ForInStep.done (none,a.snd.fst,a.snd.snd))
     else pure (ForInStep.yield (none,a.snd.fst+1,a.snd.snd+1))
    |_=>pure (ForInStep.done (some none,a.snd.fst,a.snd.snd))
  |_=>pure (ForInStep.done (some none,a.snd.fst,a.snd.snd))
def lK(c n b:Nat):StateT eA Sem (Option Nat):=do
 liftM (rule "list.sort.descending-run")
 let a ← Kz c (n+1) b
 match a.fst with
 |some r=>pure r
 |none =>
  if a.snd.snd>0 then do
   reverseSlice' (c+a.snd.fst-(a.snd.snd+1)) (c+a.snd.fst)
   Bw c a.snd.fst b
  else Bw c a.snd.fst b
def sG(c b:Nat):countRun' c b=(do
  let a ← ascL c 1 b
  match a.fst with
  |some r=>pure r
  |none =>
   if (a.snd == b)=true then pure (some a.snd)
   else if a.snd>1 then do
    let k ← ltAt' c (c+a.snd - 1)
    match k with
    |some g=>if g=true then pure (some a.snd) else do
      reverseSlice' c (c+a.snd)
      lK c a.snd b
    |_=>pure none
   else lK c a.snd b):=by
 rw[countRun'_eq];dsimp only;congr 1;funext a;obtain⟨r,n⟩:=a
 cases r with
 |some r=>rfl
 |none =>
  dsimp only;split
  ·rfl
  ·split
   ·congr 1;funext x
    cases x with
    |none=>rfl
    |some g =>
     dsimp only;split
     ·rfl
     ·congr 1;funext s
      (congr 1;funext q;congr 1;congr 1;funext h;obtain⟨f,m,l⟩:=h;cases f with
       |some f=>rfl
       |none=>(dsimp only;split;(congr 1;funext p;(congr 1;funext j;congr 1;(funext d;obtain⟨e,i⟩:=d;cases e<;>rfl)));(congr 1;funext j;congr 1;(funext d;obtain⟨e,i⟩:=d;cases e<;>rfl))))
   ·(congr 1;funext q;congr 1;congr 1;funext h;obtain⟨f,m,l⟩:=h;cases f with
     |some f=>rfl
     |none=>(dsimp only;split;(congr 1;funext p;(congr 1;funext j;congr 1;(funext d;obtain⟨e,i⟩:=d;cases e<;>rfl)));(congr 1;funext j;congr 1;(funext d;obtain⟨e,i⟩:=d;cases e<;>rfl))))
section
variable {b:cy}{w:c9}{A:fz}{E:ah->aI->Prop}{s:aI}{d:yB}{r:ah->Int}{P:ah->Prop}
def vA{g:eA}{f a e:Nat}{Q:AscSt->eA->Prop}(C:sj b w A s d r P)(B:fS g=d)(D:AllP P (bS g))(H:f+e<=(bS g).size)(K:1<=a)(q:a<=e)(z:Up r (bS g) f (f+a))(h:∀ n,a<=n->n<=e->Up r (bS g) f (f+n)->(n=e\/R r (bS g) (f+n)<R r (bS g) (f+n-1))->Q (none,n) g) :
  wpS (aE b w) A E s (ascL f a e) Q g:=by
 refine uj (I:=λx c l=>l=g/\c=(none,x)/\Up r (bS g) f (f+x)) ?kH ?fin ⟨rfl,rfl,z⟩;case fin =>
  rintro c l ⟨rfl,rfl,k⟩;rw[show max a e=e by lia] at k ⊢;exact h e q (cE _) k (.inl rfl)
 case kH =>
  rintro x c l p y ⟨rfl,rfl,k⟩;refine dc (lG C B D (by lia) (by lia) ?_);by_cases m:R r (bS l) (f+x)<R r (bS l) (f+x-1)
  ·simp only[m,decide_true,if_true];exact dz (h x p (by lia) k (.inr m))
  ·simp only[m,decide_false,vT,if_false];refine dz ⟨rfl,rfl,λi j t u J=>?_⟩;by_cases F:j<f+x
   ·exact k i j t u F
   ·have G:j=f+x:=by lia
    subst G;by_cases v:i=f+x
    ·subst v;exact A3 _
    ·exact FC (k i (f+x-1) t (by lia) (by lia)) (Int.not_lt.mp m)
def oR{e:eA}{c n a:Nat}{Q:Option Nat->eA->Prop}(C:sj b w A s d r P)(t:fS e=d)(u:AllP P (bS e))(q:c+a<=(bS e).size)(v:1<=n)(y:n<=a)(p:Down r (bS e) c (c+n)) (h:∀ m l,qa c (c+a) e l->1<=m->m<=a->Up r (bS l) c (c+m)->Q (some m) l) :
  wpS (aE b w) A E s (Bw c n a) Q e:=by
 have k:c+n<=(bS e).size:=by lia
 refine dc (dM ?_);have f:=gn (i:=c) k;refine dc (vA C (f.kind.trans t) (u.perm f.perm) (by rw[f.size];exact q) v y ?_ λm F x g _=>dz (h m _ (f.mono (cE _) (by lia)) (by lia) x g));intro i j B z D;rw[o_ k,o_ k,if_pos (by lia),if_pos (by lia)];exact p _ _ (by lia) (by lia) (by lia)
def zP{q:eA}{a n e:Nat}{Q:DescSt->eA->Prop}(C:sj b w A s d r P)(Z:fS q=d)(U:AllP P (bS q))(hn:a+e<=(bS q).size)(F:1<=n)(FU:n<=e)(Y:Down r (bS q) a (a+n))(h:∀ m g f,qa a (a+e) q f->n<=m->m<=e->Down r (bS f) a (a+m)->g+1<=m->(∀ i,a+m-(g+1)<=i->i<a+m->R r (bS f) i=R r (bS f) (a+m-1))->Q (none,m,g) f) :
  wpS (aE b w) A E s (Kz a n e) Q q:=by
 refine uj (I:=λx c f=>∃ g,c=(none,x,g)/\qa a (a+e) q f/\Down r (bS f) a (a+x)/\g+1<=x /\ (∀ i,a+x-(g+1)<=i->i<a+x->R r (bS f) i=R r (bS f) (a+x-1))) ?kH ?fin ⟨0,rfl,.refl _ _ _,Y,by lia,λi F L=>by congr 1;lia⟩
 case fin =>
  rintro c f ⟨g,rfl,l,p,D,t⟩;rw[show max n e=e by lia] at p D t ⊢;exact h e g f l FU (cE _) p D t
 case kH =>
  rintro x c f K X ⟨g,rfl,l,p,D,t⟩;dsimp only;have hz:=l.size;have V:a+x<=(bS f).size:=by lia
  have T:=l.kind.trans Z;have S:=U.perm l.perm;refine dc (lG C T S (by lia) (by lia) ?_);by_cases O:R r (bS f) (a+x)<R r (bS f) (a+x-1)
  ·simp only[O,decide_true,if_true];have B:∀ G:Array cp,(∀ k,R r G k=R r (bS f) k)->Down r G a (a+(x+1)):=by
    intro G v i j u H o;rw[v,v];by_cases M:j<a+x
    ·exact p i j u H M
    ·have N:j=a+x:=by lia
     subst N;by_cases J:i=a+x
     ·subst J;exact A3 _
     ·exact FC (LW O) (p i (a+x-1) u (by lia) (by lia))
   by_cases W:g>0
   ·rw[if_pos W];refine dc (dM (dz ⟨0,rfl,l.trans ((gn V).mono (by lia) (by lia)),B _ (bR V t),by lia,λi F L=>by congr 1;lia⟩))
   ·rw[if_neg W];exact dz ⟨0,rfl,l,B _ (λ_=>rfl),by lia,λi F L=>by congr 1;lia⟩
  ·simp only[O,decide_false,vT,if_false];refine dc (lG C T S (by lia) (by lia) ?_);by_cases z:R r (bS f) (a+x-1)<R r (bS f) (a+x)
   ·simp only[z,decide_true,if_true];exact dz (h x g f l K (by lia) p D t)
   ·simp only[z,decide_false,vT,if_false];have y:R r (bS f) (a+x)=R r (bS f) (a+x-1):=by lia
    refine dz ⟨g+1,rfl,l,λi j u H o=>?_,by lia,λi F L=>?_⟩
    ·by_cases M:j<a+x
     ·exact p i j u H M
     ·have N:j=a+x:=by lia
      subst N;by_cases J:i=a+x
      ·subst J;exact A3 _
      ·rw[y];exact p i (a+x-1) u (by lia) (by lia)
    ·rw[show a+(x+1)-1=a+x by lia];by_cases NF:i=a+x
     ·subst NF;rfl
     ·rw[y];exact t i (by lia) (by lia)
def jh{e:eA}{c n a:Nat}{Q:Option Nat->eA->Prop}(C:sj b w A s d r P)(B:fS e=d)(F:AllP P (bS e))(p:c+a<=(bS e).size)(O:n+1<=a)(L:Down r (bS e) c (c+(n+1))) (h:∀ m g,qa c (c+a) e g->1<=m->m<=a->Up r (bS g) c (c+m)->Q (some m) g) :
  wpS (aE b w) A E s (lK c n a) Q e:=by
 refine dc (wpS_lift (DS ⟨rfl,?_⟩));refine dc (zP C B F p (by lia) O L λm v g f S J G R D=>?_);dsimp only;have z:=f.size;have q:c+m<=(bS g).size:=by lia
 have y:=f.kind.trans B;have x:=F.perm f.perm;by_cases H:v>0
 ·rw[if_pos H];have k:=gn (i:=c+m-(v+1)) q;refine dc (dM (oR C (k.kind.trans y) (x.perm k.perm) (by rw[k.size,z];exact p) (by lia) J ?_ λl u t=>h l u ((f.trans (k.mono (by lia) (by lia))).trans t)));intro i j M K N;rw[bR q D,bR q D];exact G i j M K N
 ·rw[if_neg H];exact oR C y x (by rw[z];exact p) (by lia) J G λl u t=>h l u (f.trans t)
def wpS_countRun{e:eA}{a c:Nat}{Q:Option Nat->eA->Prop}(C:sj b w A s d r P)(g:fS e=d)(x:AllP P (bS e))(D:a+c<=(bS e).size)(T:1<=c)(h:∀ m J,qa a (a+c) e J->1<=m->m<=c->Up r (bS J) a (a+m)->Q (some m) J) :
  wpS (aE b w) A E s (countRun' a c) Q e:=by
 rw[sG];refine dc (vA C g x D (cE 1) T (λi j f L M=>by
  have:i=j:=by lia
  subst this;exact A3 _) λn p O u B=>?_)
 by_cases K:n=c
 ·rw[if_pos (by simpa using K)];exact dz (h n e (.refl _ _ _) p O u)
 ·rw[if_neg (by simpa using K)];have N:R r (bS e) (a+n)<R r (bS e) (a+n-1):=B.resolve_left K;by_cases q:n>1
  ·rw[if_pos q];refine dc (lG C g x (by lia) (by lia) ?_);by_cases t:R r (bS e) a<R r (bS e) (a+n-1)
   ·simp only[t,decide_true,if_true];exact dz (h n e (.refl _ _ _) p O u)
   ·simp only[t,decide_false,vT,if_false];have H:a+n<=(bS e).size:=by lia
    have l:∀ k,a<=k->k<a+n->R r (bS e) k=R r (bS e) (a+n-1):=by intro k f g;have o:=u a k (by lia) f g;have Z:=u k (a+n-1) f (by lia) (by lia);lia
    have v:=gn (i:=a) H;refine dc (dM (jh C (v.kind.trans g) (x.perm v.perm) (by rw[v.size];exact D) (by lia) ?_ λS Y V=>h S Y ((v.mono (cE _) (by lia)).trans V)));intro i j f L M;rw[bR H l,bR H l];by_cases F:j<a+n
    ·rw[l i f (by lia),l j (by lia) F];exact A3 _
    ·have X:j=a+n:=by lia
     subst X;by_cases y:i=a+n
     ·subst y;exact A3 _
     ·rw[l i f (by lia)];exact LW N
  ·rw[if_neg q];have z:n=1:=by lia
   subst z;refine jh C g x D (by lia) ?_ h;intro i j f L M;by_cases y:i=j
   ·subst y;exact A3 _
   ·have W:i=a:=by lia
    have G:j=a+1:=by lia
    subst W;subst G;exact LW N
end
def JP(a:Bool)(b:cp)(d:Array cp)(c i:Nat):StateT eA Sem (Option Bool):=do
 let x ← elem' d (c+i)
 if a then lt' x b else return (<- lt' b x).map (!·)
def mq:Bool->cp->Array cp->Nat->Nat->Nat->StateT eA Sem (Option Nat):=sortPriv% PySem.Builtin.gallop
section
variable {d:cy}{w:c9}{A:fz}{E:ah->aI->Prop}{s:aI}{e:yB}{r:ah->Int}{P:ah->Prop}
def hJ(r:ah->Int)(b:Bool)(c:cp)(f:Array cp)(a i:Nat):Bool :=
 if b then decide (R r f (a+i)<r c.1) else !decide (r c.1<R r f (a+i))
def eE{g:eA}{b:Bool}{f:cp}{c:Array cp}{a i:Nat}{Q:Option Bool->eA->Prop}(C:sj d w A s e r P)(l:fS g=e)(m:AllP P c)(k:P f.1)(n:a+i<c.size)(h:Q (some (hJ r b f c a i)) g):wpS (aE d w) A E s (JP b f c a i) Q g:=by
 refine dc (aP n λp j=>?_);have q:R r c (a+i)=r p.1:=by unfold R;rw[j]
 unfold hJ at h;rw[q] at h
 cases b with
 |true =>exact rD C l (m.at j) k h
 |false =>exact dc (rD C l k (m.at j) (dz h))
def CQ(a:Up r I o (o+n))(b:i<=j)(c:j<n)(h:hJ r C U I o j=true):hJ r C U I o i=true:=by
 have q:=a (o+i) (o+j) (by lia) (by lia) (by lia);unfold hJ at h ⊢
 cases C with
 |true=>simp only[if_true,decide_eq_true_eq] at h ⊢;lia
 |false=>simp only[vT,if_false,Bool.not_eq_true',decide_eq_false_iff_not] at h ⊢;lia
def dg{K:eA}{m:Bool}{t:cp}{arr:Array cp}{g n f:Nat}{Q:Option Nat->eA->Prop}(C:sj d w A s e r P)(T:fS K=e)(V:AllP P arr)(S:P t.1)(hn:g+n<=arr.size)(hh:f<n)(hu:Up r arr g (g+n))(h:∀ k,k<=n->(∀ i,i<k->hJ r m t arr g i=true)->(∀ i,k<=i->i<n->hJ r m t arr g i=false)->Q (some k) K):wpS (aE d w) A E s (mq m t arr g n f) Q K:=by
 have G:∀ {i j},i<=j->j<n->hJ r m t arr g j=true->hJ r m t arr g i=true:=λa b c=>CQ hu a b c;have W:∀ {i j},i<=j->j<n->hJ r m t arr g i=false->hJ r m t arr g j=false:=λ{i j} a b c=>by
  cases q:hJ r m t arr g j with
  |false=>rfl
  |true=>rw[G a b q] at c;cases c
 refine dc (eE C T V S (by lia) ?_);dsimp only
 cases U:hJ r m t arr g f with
 |true =>
  refine dc (x3 (uj (I:=λx c y=>y=K/\∃ p v,c=(none,p,v)/\p<v/\p<n-f/\x+1<=v/\hJ r m t arr g (f+p)=true) (Q:=λc y=>y=K/\∃ p v,c=(none,p,v)/\p<v/\p<n-f/\hJ r m t arr g (f+p)=true/\(n-f<=v\/hJ r m t arr g (f+v)=false)) ?kH ?fin ?init) ?post)
  case init=>exact⟨rfl,0,1,rfl,by lia,by lia,by lia,U⟩
  case fin =>
   rintro c y ⟨rfl,p,v,rfl,H,F,R,B⟩;exact⟨rfl,p,v,rfl,H,F,B,.inl (by lia)⟩
  case kH =>
   rintro x c y _ Y ⟨rfl,p,v,rfl,H,F,R,B⟩;dsimp only;by_cases J:v >= n-f
   ·rw[if_pos J];exact dz ⟨rfl,p,v,rfl,H,F,B,.inl J⟩
   ·rw[if_neg J];refine dc (eE C T V S (by lia) ?_)
    cases q:hJ r m t arr g (f+v) with
    |true =>exact dz ⟨rfl,_,_,rfl,by lia,by lia,by lia,q⟩
    |false =>exact dz ⟨rfl,p,v,rfl,H,F,B,.inr q⟩
  case post =>
   rintro c y ⟨rfl,p,v,rfl,H,F,B,D⟩;generalize y=K at *
   have Z:∀ i,i<f+p+1->hJ r m t arr g i=true:=λi L=>G (by lia) (by lia) B;have o:∀ i,f+min v (n-f)<=i->i<n->hJ r m t arr g i=false:=λi L M=>by
    rcases D with D|D
    ·lia
    ·by_cases z:n-f<=v
     ·lia
     ·exact W (by lia) M D
   have N:f+p+1<=f+min v (n-f):=by lia
   have O:f+min v (n-f)<=n:=by lia
   generalize f+p+1=X at *
   generalize f+min v (n-f)=L at *
   refine dc (x3 (uj (I:=λx c y=>y=K/\∃ l u,c=(none,l,u)/\l<=u/\u<=n/\u-l<=n-x/\(∀ i,i<l->hJ r m t arr g i=true)/\(∀ i,u<=i->i<n->hJ r m t arr g i=false)) (Q:=λc y=>y=K/\∃ l,c=(none,l,l)/\l<=n/\(∀ i,i<l->hJ r m t arr g i=true)/\(∀ i,l<=i->i<n->hJ r m t arr g i=false)) ?mm' ?mn' ?mo') ?postA)
   case mo'=>exact⟨rfl,X,L,rfl,N,O,by lia,Z,o⟩
   case mn' =>
    rintro c y ⟨rfl,l,u,rfl,H,F,R,B,D⟩;have:l=u:=by lia
    subst this;exact⟨rfl,l,rfl,F,B,D⟩
   case mm' =>
    rintro x c y _ Y ⟨rfl,l,u,rfl,H,F,R,B,D⟩;dsimp only;by_cases J:l >= u
    ·rw[if_pos J];have:l=u:=by lia
     subst this;exact dz ⟨rfl,l,rfl,F,B,D⟩
    ·rw[if_neg J];refine dc (eE C T V S (by lia) ?_)
     cases q:hJ r m t arr g (l+(u-l) / 2) with
     |true =>exact dz ⟨rfl,_,_,rfl,by lia,by lia,by lia,λi L=>G (by lia) (by lia) q,D⟩
     |false =>exact dz ⟨rfl,_,_,rfl,by lia,by lia,by lia,B,λi L M=>W (by lia) M q⟩
   case postA =>
    rintro c y ⟨rfl,l,rfl,F,B,D⟩;exact dz (h l F B D)
 |false =>
  refine dc (x3 (uj (I:=λx c y=>y=K/\∃ p v,c=(none,p,v)/\p<v/\p<f+1/\x+1<=v/\hJ r m t arr g (f-p)=false) (Q:=λc y=>y=K/\∃ p v,c=(none,p,v)/\p<v/\p<f+1/\hJ r m t arr g (f-p)=false/\(f+1<=v\/hJ r m t arr g (f-v)=true)) ?mp' ?fin2 ?mq') ?mr')
  case mq'=>exact⟨rfl,0,1,rfl,by lia,by lia,by lia,U⟩
  case fin2 =>
   rintro c y ⟨rfl,p,v,rfl,H,F,R,B⟩;exact⟨rfl,p,v,rfl,H,F,B,.inl (by lia)⟩
  case mp' =>
   rintro x c y _ Y ⟨rfl,p,v,rfl,H,F,R,B⟩;dsimp only;by_cases J:v >= f+1
   ·rw[if_pos J];exact dz ⟨rfl,p,v,rfl,H,F,B,.inl J⟩
   ·rw[if_neg J];refine dc (eE C T V S (by lia) ?_)
    cases q:hJ r m t arr g (f-v) with
    |true =>exact dz ⟨rfl,p,v,rfl,H,F,B,.inr q⟩
    |false =>exact dz ⟨rfl,_,_,rfl,by lia,by lia,by lia,q⟩
  case mr' =>
   rintro c y ⟨rfl,p,v,rfl,H,F,B,D⟩;generalize y=K at *
   have Z:∀ i,i<f+1-min v (f+1)->hJ r m t arr g i=true:=λi L=>by
    rcases D with D|D
    ·lia
    ·by_cases z:f+1<=v
     ·lia
     ·exact G (by lia) (by lia) D
   have o:∀ i,f-p<=i->i<n->hJ r m t arr g i=false:=λi L M=>W (by lia) M B;have N:f+1-min v (f+1)<=f-p:=by lia
   have O:f-p<=n:=by lia
   generalize f+1-min v (f+1)=X at *
   generalize f-p=L at *
   refine dc (x3 (uj (I:=λx c y=>y=K/\∃ l u,c=(none,l,u)/\l<=u/\u<=n/\u-l<=n-x/\(∀ i,i<l->hJ r m t arr g i=true)/\(∀ i,u<=i->i<n->hJ r m t arr g i=false)) (Q:=λc y=>y=K/\∃ l,c=(none,l,l)/\l<=n/\(∀ i,i<l->hJ r m t arr g i=true)/\(∀ i,l<=i->i<n->hJ r m t arr g i=false)) ?ms' ?mt' ?mu') ?mv')
   case mu'=>exact⟨rfl,X,L,rfl,N,O,by lia,Z,o⟩
   case mt' =>
    rintro c y ⟨rfl,l,u,rfl,H,F,R,B,D⟩;have:l=u:=by lia
    subst this;exact⟨rfl,l,rfl,F,B,D⟩
   case ms' =>
    rintro x c y _ Y ⟨rfl,l,u,rfl,H,F,R,B,D⟩;dsimp only;by_cases J:l >= u
    ·rw[if_pos J];have:l=u:=by lia
     subst this;exact dz ⟨rfl,l,rfl,F,B,D⟩
    ·rw[if_neg J];refine dc (eE C T V S (by lia) ?_)
     cases q:hJ r m t arr g (l+(u-l) / 2) with
     |true =>exact dz ⟨rfl,_,_,rfl,by lia,by lia,by lia,λi L=>G (by lia) (by lia) q,D⟩
     |false =>exact dz ⟨rfl,_,_,rfl,by lia,by lia,by lia,B,λi L M=>W (by lia) M q⟩
   case mv' =>
    rintro c y ⟨rfl,l,rfl,F,B,D⟩;exact dz (h l F B D)
end
abbrev Le(r:ah->Int)(x y:cp):Prop:=r x.1<=r y.1
def sT(e:o[i]? = some p):R r o i=r p.1:=by unfold R;rw[e]
def Km(h:i<o.size):R r o i=r o[i].1:=sT (getElem?_pos o i h)
structure MI(r:ah->Int)(a b out:Array cp)(ia ib:Nat):Prop where
 ha:ia<=a.size
 hb:ib<=b.size
 perm:out.toList.Perm (a.toList.take ia++b.toList.take ib)
 up:out.toList.Pairwise (Le r)
 la:∀ x∈out.toList,∀ i,ia<=i->i<a.size->r x.1<=R r a i
 lb:∀ x∈out.toList,∀ j,ib<=j->j<b.size->r x.1<=R r b j
section
variable {r:ah->Int}{a b c:Array cp}{f d:Nat}
def xg{e:Type}{l:List e}{i:Nat}{x:e}(h:l[i]? = some x):l.take (i+1)=l.take i++[x]:=by rw[yA,h];rfl
def MI.qW(M:MI r a b c f d)(t:Up r a 0 a.size)(s:Up r b 0 b.size)(e:b[d]? = some y)(q:f<a.size->R r b d<=R r a f):MI r a b (c.push y) f (d+1):=by
 have k:d<b.size:=(Ub.mp e).1;have m:=sT (r:=r) e;refine⟨M.ha,k,?_,?_,?_,?_⟩
 ·rw[QN,xg (by simpa using e),<- r9];exact M.perm.append_right _
 ·rw[QN,List.pairwise_append];refine⟨M.up,by simp,λx g z p=>?_⟩;have:z=y:=by simpa using p
  subst this;show r x.1<=r z.1;rw[<- m];exact M.lb x g d (cE _) k
 ·intro x g i n l;rw[QN] at g;rcases kA.mp g with g|g
  ·exact M.la x g i n l
  ·have:x=y:=by simpa using g
   subst this;rw[<- m];exact FC (q (by lia)) (t f i (gy _) n l)
 ·intro x g j u h;rw[QN] at g;rcases kA.mp g with g|g
  ·exact M.lb x g j (by lia) h
  ·have:x=y:=by simpa using g
   subst this;rw[<- m];exact s d j (gy _) (by lia) h
def MI.swap(M:MI r a b c f d):MI r b a c d f:=⟨M.hb,M.ha,M.perm.trans List.perm_append_comm,M.up,M.lb,M.la⟩
def MI.rQ(M:MI r a b c f d)(i:Up r a 0 a.size)(h:Up r b 0 b.size)(e:a[f]? = some y)(g:d<b.size->R r a f<=R r b d):MI r a b (c.push y) (f+1) d:=(M.swap.qW h i e g).swap
def qO{e:Array cp}{i k:Nat}(h:i+k<e.size):e.extract i (i+(k+1))=(e.extract i (i+k)).push e[i+k]:=by apply V2.mp;rw[QN];simp only[xdR,Z6];rw[show i+(k+1)-i=k+1 by lia,show i+k-i=k by lia,yA];congr 1;simp[h]
theorem MI.FX(l:Up r a 0 a.size)(j:Up r b 0 b.size):∀ k {c} {d},MI r a b c f d->d+k<=b.size->(f<a.size->∀ i,i<k->R r b (d+i)<=R r a f)->MI r a b (c++b.extract d (d+k)) f (d+k)
 |0,c,d,M,m,h=>by have:b.extract d (d+0) = #[]:=xdO (by simp only[V0];lia);rw[this];simpa using M
 |k+1,c,d,M,m,h=>by have q:=MI.FX l j k M (by lia) λg i n=>h g i (by lia);have e:b[d+k]? = some b[d+k]:=getElem?_pos b (d+k) (by lia);have z:=q.qW l j e λg=>h g k (by lia);rw[qO (by lia),Array.append_push];exact z
def MI.FY(g:Up r a 0 a.size)(e:Up r b 0 b.size)(k:Nat)(M:MI r a b c f d)(j:f+k<=a.size)(h:d<b.size->∀ i,i<k->R r a (f+i)<=R r b d):MI r a b (c++a.extract f (f+k)) (f+k) d:=(MI.FX e g k M.swap j h).swap
def cC(r:ah->Int)(a b c:Array cp):Prop:=c.toList.Perm (a.toList++b.toList)/\c.toList.Pairwise (Le r)
def MI.whole(M:MI r a b c a.size b.size):cC r a b c:=by refine⟨?_,M.up⟩;have h:=M.perm;rw[PY (by simp),PY (by simp)] at h;exact h
def MI.Nq(M:MI r a b c f b.size)(i:Up r a 0 a.size)(h:Up r b 0 b.size):cC r a b (c++a.extract f a.size++b.extract b.size b.size):=by
 have e:b.extract b.size b.size = #[]:=by simp
 rw[e,xd9];have j:=M.ha;have q:=MI.FY i h (a.size-f) M (by lia) λg=>absurd g (vS _);rw[show f+(a.size-f)=a.size by exact T6 ‹_›] at q;exact q.whole
def MI.N8(M:MI r a b c a.size d)(i:Up r a 0 a.size)(h:Up r b 0 b.size):cC r a b (c++a.extract a.size a.size++b.extract d b.size):=by
 have e:a.extract a.size a.size = #[]:=by simp
 rw[e,xd9];have j:=M.hb;have q:=MI.FX i h (b.size-d) M (by lia) λg=>absurd g (vS _);rw[show d+(b.size-d)=b.size by exact T6 ‹_›] at q;exact q.whole
def MI.SV(M:MI r a b c f d)(h:Up r a 0 a.size)(g:Up r b 0 b.size)(e:d=b.size):cC r a b (c++a.extract f a.size++b.extract d b.size):=by subst e;exact M.Nq h g
def MI.SW(M:MI r a b c f d)(h:Up r a 0 a.size)(g:Up r b 0 b.size)(e:f=a.size):cC r a b (c++a.extract f a.size++b.extract d b.size):=by subst e;exact M.N8 h g
def MI.Oc(M:MI r a b c f d)(h:Up r a 0 a.size)(g:Up r b 0 b.size)(k:f+1=a.size)(l:∀ j,j<b.size->R r b j<=R r a f):cC r a b (c++b.extract d b.size++a.extract f a.size):=by have e:=M.hb;have q:=MI.FX h g (b.size-d) M (by lia) λn i m=>l _ (by lia);rw[show d+(b.size-d)=b.size by exact T6 ‹_›] at q;have z:=MI.FY h g (a.size-f) q (by lia) λe=>absurd e (vS _);rw[show f+(a.size-f)=a.size by lia] at z;exact z.whole
def MI.start(h:Up r a 0 a.size)(g:Up r b 0 b.size):MI r a b #[] 0 0:=⟨gy _,gy _,by simp,by simp,λx e=>by simp at e,λx e=>by simp at e⟩
end
def bH:Nat->StateT eA Sem Unit:=sortPriv% PySem.Builtin.setMinGallop
def uV:Array cp->Array cp->StateT eA Sem (Array cp):=sortPriv% PySem.Builtin.mergeLo
def wu:Array cp->Array cp->StateT eA Sem (Array cp):=sortPriv% PySem.Builtin.mergeHi
def j_(g:Nat):bH g=modify λs=>SortSt.mk' (fS s) (bS s) (nS s) g (uk s):=rfl
def Mg(a b:eA):Prop:=∃ g,b=SortSt.mk' (fS a) (bS a) (nS a) g (uk a)
def Mg.refl(a:eA):Mg a a:=⟨gallopOf a,rfl⟩
def Mg.kind{a b:eA}(h:Mg a b):fS b=fS a:=by obtain⟨g,rfl⟩:=h;rfl
def Mg.set{b a:eA}(h:Mg b a)(g:Nat):Mg b (SortSt.mk' (fS a) (bS a) (nS a) g (uk a)):=by obtain⟨c,rfl⟩:=h;exact⟨g,rfl⟩
section
variable {a:cy}{w:c9}{A:fz}{E:ah->aI->Prop}{s:aI}{r:ah->Int}
def iZ{b:eA}{g:Nat}{Q:Unit->eA->Prop}(h:Q () (SortSt.mk' (fS b) (bS b) (nS b) g (uk b))):wpS (aE a w) A E s (bH g) Q b:=by rw[j_];exact Fu h
def CT(h:hJ r false C I o i=true):R r I (o+i)<=r C.1:=by unfold hJ at h;simp only[vT,if_false,Bool.not_eq_true',decide_eq_false_iff_not] at h;lia
def Br(h:hJ r false C I o i=false):r C.1<R r I (o+i):=by unfold hJ at h;simp only[vT,if_false,Bool.not_eq_false',decide_eq_true_eq] at h;exact h
def Ij(h:hJ r true C I o i=true):R r I (o+i)<r C.1:=by unfold hJ at h;simp only[if_true,decide_eq_true_eq] at h;exact h
def wg(h:hJ r true C I o i=false):r C.1<=R r I (o+i):=by unfold hJ at h;simp only[if_true,decide_eq_false_iff_not] at h;lia
end
def Mg.trans{a b c:eA}(h:Mg a b)(g:Mg b c):Mg a c:=by obtain⟨x,rfl⟩:=h;obtain⟨y,rfl⟩:=g;exact⟨y,rfl⟩
def Jr{K G:Prop}(a:K)(h:K->G):G:=h a
abbrev SM:=StateT eA Sem
abbrev L1:=Option (Array cp) × Array cp × Nat × Nat × Nat
abbrev NH:=Option (Array cp) × Array cp × Nat × Nat × Nat × Nat
abbrev L3:=Option (Array cp) × Array cp × Nat × Nat × Nat × Nat × Nat
def JA(a b c:Array cp)(e d:Nat):Array cp:=c++a.extract e a.size++b.extract d b.size
def UM(a b c:Array cp)(e d:Nat):Array cp:=c++b.extract d b.size++a.extract e a.size
def lo3(a b:Array cp)(h g f d e:Nat)(c:Array cp):SM (ForInStep L3):=elem' a d >>= λp =>
 if (d+1+1 == a.size)=true then pure (.done (some (UM a b (c.push p) (d+1) e),c.push p,d+1,e,h,g,f))
 else if (decide (g<7) && decide (f<7))=true then pure (.done (none,c.push p,d+1,e,h,g,f)) else pure (.yield (none,c.push p,d+1,e,h,g,f))
def NJ(a b:Array cp)(f g h e c:Nat)(d:Array cp):SM (ForInStep L3):=elem' a e >>= λp=>mq true p b c (b.size-c) 0 >>= λx=>match x with
 |some k=>if k>0 then
   if (c+k == b.size)=true then pure (.done (some (JA a b (d++b.extract c (c+k)) e (c+k)),d++b.extract c (c+k),e,c+k,f,g,k))
   else lo3 a b f g k e (c+k) (d++b.extract c (c+k))
  else lo3 a b f g k e c d
 |_=>pure (.done (some (JA a b d e c),d,e,c,f,g,h))
def lo1(a b:Array cp)(f h g e d:Nat)(c:Array cp):SM (ForInStep L3):=elem' b d >>= λp =>
 if (d+1 == b.size)=true then pure (.done (some (JA a b (c.push p) e (d+1)),c.push p,e,d+1,f,h,g)) else NJ a b f h g e (d+1) (c.push p)
def lo0(a b:Array cp)(f h g c e:Nat)(d:Array cp):SM (ForInStep L3):=bH f >>= λ_=>elem' b e >>= λp=>mq false p a c (a.size-c) 0 >>= λx=>match x with
 |some k=>if k>0 then
   if (c+k+1 == a.size)=true then pure (.done (some (UM a b (d++a.extract c (c+k)) (c+k) e),d++a.extract c (c+k),c+k,e,f,k,g))
   else if (c+k == a.size)=true then pure (.done (some (JA a b (d++a.extract c (c+k)) (c+k) e),d++a.extract c (c+k),c+k,e,f,k,g))
   else lo1 a b f k g (c+k) e (d++a.extract c (c+k))
  else lo1 a b f k g c e d
 |_=>pure (.done (some (JA a b d c e),d,c,e,f,h,g))
def loG(a b:Array cp)(_:Nat)(s:L3):SM (ForInStep L3) :=
 if s.2.2.2.2.1>1 then lo0 a b (s.2.2.2.2.1-1) s.2.2.2.2.2.1 s.2.2.2.2.2.2 s.2.2.1 s.2.2.2.1 s.2.1 else lo0 a b s.2.2.2.2.1 s.2.2.2.2.2.1 s.2.2.2.2.2.2 s.2.2.1 s.2.2.2.1 s.2.1
def loA(a b:Array cp)(g f e d:Nat)(c:Array cp):SM (ForInStep NH):=elem' b d >>= λp =>
 if (d+1 == b.size)=true then pure (.done (some (JA a b (c.push p) e (d+1)),c.push p,e,d+1,0,f+1))
 else if f+1 >= g then pure (.done (none,c.push p,e,d+1,0,f+1)) else pure (.yield (none,c.push p,e,d+1,0,f+1))
def loB(a b:Array cp)(g f d e:Nat)(c:Array cp):SM (ForInStep NH):=elem' a d >>= λp =>
 if (d+1+1 == a.size)=true then pure (.done (some (UM a b (c.push p) (d+1) e),c.push p,d+1,e,f+1,0))
 else if f+1 >= g then pure (.done (none,c.push p,d+1,e,f+1,0)) else pure (.yield (none,c.push p,d+1,e,f+1,0))
def loI(a b:Array cp)(c:Nat)(_:Nat)(s:NH):SM (ForInStep NH):=elem' b s.2.2.2.1 >>= λd=>elem' a s.2.2.1 >>= λe=>lt' d e >>= λx=>match x with
 |some w=>if w=true then loA a b c s.2.2.2.2.2 s.2.2.1 s.2.2.2.1 s.2.1 else loB a b c s.2.2.2.2.1 s.2.2.1 s.2.2.2.1 s.2.1
 |_=>pure (.done (some (JA a b s.2.1 s.2.2.1 s.2.2.2.1),s.2.1,s.2.2.1,s.2.2.2.1,s.2.2.2.2.1,s.2.2.2.2.2))
def loP (a b:Array cp) (c:Nat) (t:NH):SM (ForInStep L1):=(liftM (rule "list.sort.gallop"):SM Unit) >>= λ_ =>
 forIn [:a.size+b.size] ((none,t.2.1,t.2.2.1,t.2.2.2.1,c+1,t.2.2.2.2.1,t.2.2.2.2.2):L3) (loG a b) >>= λu=>match u.1 with
 |some r=>pure (.done (some r,u.2.1,u.2.2.1,u.2.2.2.1,u.2.2.2.2.1))
 |none=>bH (u.2.2.2.2.1+1) >>= λ_=>pure (.yield (none,u.2.1,u.2.2.1,u.2.2.2.1,u.2.2.2.2.1+1))
def loO(a b:Array cp)(_:Nat)(s:L1):SM (ForInStep L1):=forIn [:a.size+b.size] ((none,s.2.1,s.2.2.1,s.2.2.2.1,0,0):NH) (loI a b s.2.2.2.2) >>= λt=>match t.1 with
 |some r=>pure (.done (some r,t.2.1,t.2.2.1,t.2.2.2.1,s.2.2.2.2))
 |none=>loP a b s.2.2.2.2 t
def loM (a b:Array cp):SM (Array cp):=(liftM (rule "list.sort.merge-lo"):SM Unit) >>= λ_=>elem' b 0 >>= λy =>
 if (1 == b.size)=true then pure (JA a b #[y] 0 1)
 else if (0+1 == a.size)=true then pure (UM a b #[y] 0 1)
 else get >>= λc=>forIn [:a.size+b.size] ((none,#[y],0,1,gallopOf c):L1) (loO a b) >>= λt=>match t.1 with
 |some r=>pure r
 |none=>(liftM (unsupported (α:=Array cp) "internal:list.sort.merge-bound"):SM (Array cp))
set_option smartUnfolding false in
def xU:uV=loM:=rfl
section
variable {n:cy}{w:c9}{A:fz}{E:ah->aI->Prop}{s:aI}{F:yB}{r:ah->Int}{P:ah->Prop}{a b d:Array cp}{B H G f m N:Nat}{t:eA}
structure MC(n:cy)(w:c9)(A:fz)(s:aI)(F:yB)(r:ah->Int)(P:ah->Prop)(a b:Array cp):Prop where
 C:sj n w A s F r P
 pa:AllP P a
 pb:AllP P b
 hA:Up r a 0 a.size
 hB:Up r b 0 b.size
 hl:∀ i,i<a.size->R r b 0<=R r a i
 hg:∀ j,j<b.size->R r b j<=R r a (a.size-1)
def HS{g:Type}(r:ah->Int)(a b:Array cp)(c:Option (Array cp) × g):Prop:=∃ d e,c=(some d,e)/\cC r a b d
def LY(r:ah->Int)(a b:Array cp)(N:Nat)(c:L3):Prop:=∃ d f m B H G,c=(none,d,f,m,B,H,G)/\MI r a b d f m/\f+1<a.size/\m<b.size/\N<=f+m
def LI(r:ah->Int)(a b:Array cp)(N:Nat)(c:NH):Prop:=∃ d f m H G,c=(none,d,f,m,H,G)/\MI r a b d f m/\f+1<a.size/\m<b.size/\N<=f+m
def MC.last(c:MC n w A s F r P a b)(M:MI r a b d f m)(z:f+1=a.size):cC r a b (UM a b d f m):=M.Oc c.hA c.hB z λj e=>by have:=c.hg j e;rwa[show a.size-1=f by lia] at this
def Fz(c:MC n w A s F r P a b)(M:MI r a b d f m)(k:f+1<a.size)(h:R r a f<=R r b m)(i:m<b.size)(j:N<=f+m)(D:∀ c,HS r a b c->Q (.done c) t)(Y:∀ c,LY r a b N c->Q (.done c) t/\Q (.yield c) t):wpS (aE n w) A E s (lo3 a b B H G f m d) Q t:=by
 refine dc (aP (by lia) λp e=>?_);have g:=M.rQ c.hA c.hB e λ_=>h;by_cases z:f+1+1=a.size
 ·rw[if_pos (by simpa using z)];exact dz (D _ ⟨_,_,rfl,c.last g z⟩)
 ·rw[if_neg (by simpa using z)];have y:=Y _ ⟨_,_,_,B,H,G,rfl,g,by lia,i,by lia⟩;split
  ·exact dz y.1
  ·exact dz y.2
def Ma(c:MC n w A s F r P a b)(J:fS t=F)(M:MI r a b d f m)(q:f+1<a.size)(k:m<b.size)(L:N<=f+m)(D:∀ c,HS r a b c->Q (.done c) t)(Y:∀ c,LY r a b N c->Q (.done c) t/\Q (.yield c) t):wpS (aE n w) A E s (NJ a b B H G f m d) Q t:=by
 refine dc (aP (by lia) λp e=>dc (dg c.C J c.pb (c.pa.at e) (by lia) (by lia) (λi j u v w=>c.hB i j (by lia) v (by lia)) λl T y O=>?_));have S:=sT (r:=r) e;dsimp only;have g:m+l<b.size->R r a f<=R r b (m+l):=λz=>by have:=wg (O l (cE _) (by lia));lia
 by_cases h:l>0
 ·have x:=MI.FX c.hA c.hB l M (by lia) λ_ i K=>by have:=Ij (y i K);lia
  rw[if_pos h];by_cases z:m+l=b.size
  ·rw[if_pos (by simpa using z)];exact dz (D _ ⟨_,_,rfl,x.SV c.hA c.hB z⟩)
  ·rw[if_neg (by simpa using z)];exact Fz c x q (g (by lia)) (by lia) (by lia) D Y
 ·rw[if_neg h];obtain rfl:l=0:=by lia
  exact Fz c M q (g k) k L D Y
def FJ(c:MC n w A s F r P a b)(i:fS t=F)(M:MI r a b d f m)(k:f+1<a.size)(h:R r b m<=R r a f)(j:m<b.size)(l:N<=f+m)(D:∀ c,HS r a b c->Q (.done c) t)(Y:∀ c,LY r a b N c->Q (.done c) t/\Q (.yield c) t):wpS (aE n w) A E s (lo1 a b B H G f m d) Q t:=by
 refine dc (aP j λp e=>?_);have g:=M.qW c.hA c.hB e λ_=>h;by_cases z:m+1=b.size
 ·rw[if_pos (by simpa using z)];exact dz (D _ ⟨_,_,rfl,g.SV c.hA c.hB z⟩)
 ·rw[if_neg (by simpa using z)];exact Ma c i g k (by lia) (by lia) D Y
def Ka(c:MC n w A s F r P a b)(q:fS t=F)(M:MI r a b d f m)(T:f+1<a.size)(x:m<b.size)(S:N<=f+m)(D:∀ h,Mg t h->∀ c,HS r a b c->Q (.done c) h)(Y:∀ h,Mg t h->∀ c,LY r a b N c->Q (.done c) h/\Q (.yield c) h):wpS (aE n w) A E s (lo0 a b B H G f m d) Q t:=by
 have g:=(Mg.refl t).set B;refine dc (iZ ?_);refine dc (aP x λp e=>dc (dg c.C (g.kind.trans q) c.pa (c.pb.at e) (by lia) (by lia) (λi j u v w=>c.hA i j (by lia) v (by lia)) λk L V W=>?_));have X:=sT (r:=r) e;dsimp only;have J:f+k<a.size->R r b m<=R r a (f+k):=λz=>by have:=Br (W k (cE _) (by lia));lia
 by_cases K:k>0
 ·have y:=MI.FY c.hA c.hB k M (by lia) λ_ i O=>by have:=CT (V i O);lia
  rw[if_pos K];by_cases z:f+k+1=a.size
  ·rw[if_pos (by simpa using z)];exact dz (D _ g _ ⟨_,_,rfl,c.last y z⟩)
  ·rw[if_neg (by simpa using z)];by_cases l:f+k=a.size
   ·rw[if_pos (by simpa using l)];exact dz (D _ g _ ⟨_,_,rfl,y.SW c.hA c.hB l⟩)
   ·rw[if_neg (by simpa using l)];exact FJ c (g.kind.trans q) y (by lia) (J (by lia)) x (by lia) (D _ g) (Y _ g)
 ·rw[if_neg K];obtain rfl:k=0:=by lia
  exact FJ c (g.kind.trans q) M T (J (by lia)) x S (D _ g) (Y _ g)
def Mi(c:MC n w A s F r P a b)(M:MI r a b d f m)(k:f+1<a.size)(h:R r b m<=R r a f)(j:m<b.size)(i:N<=f+m+1)(D:∀ c,HS r a b c->Q (.done c) t)(Y:∀ c,LI r a b N c->Q (.done c) t/\Q (.yield c) t):wpS (aE n w) A E s (loA a b B G f m d) Q t:=by
 refine dc (aP j λp e=>?_);have g:=M.qW c.hA c.hB e λ_=>h;by_cases z:m+1=b.size
 ·rw[if_pos (by simpa using z)];exact dz (D _ ⟨_,_,rfl,g.SV c.hA c.hB z⟩)
 ·rw[if_neg (by simpa using z)];have y:=Y _ ⟨_,_,_,0,G+1,rfl,g,k,by lia,i⟩;split
  ·exact dz y.1
  ·exact dz y.2
def LC(c:MC n w A s F r P a b)(M:MI r a b d f m)(k:f+1<a.size)(h:R r a f<=R r b m)(i:m<b.size)(j:N<=f+m+1)(D:∀ c,HS r a b c->Q (.done c) t)(Y:∀ c,LI r a b N c->Q (.done c) t/\Q (.yield c) t):wpS (aE n w) A E s (loB a b B H f m d) Q t:=by
 refine dc (aP (by lia) λp e=>?_);have g:=M.rQ c.hA c.hB e λ_=>h;by_cases z:f+1+1=a.size
 ·rw[if_pos (by simpa using z)];exact dz (D _ ⟨_,_,rfl,c.last g z⟩)
 ·rw[if_neg (by simpa using z)];have y:=Y _ ⟨_,_,_,H+1,0,rfl,g,by lia,i,by lia⟩;split
  ·exact dz y.1
  ·exact dz y.2
def K6(c:MC n w A s F r P a b)(q:fS t=F)(M:MI r a b d f m)(k:f+1<a.size)(e:m<b.size)(j:N<=f+m+1)(D:∀ c,HS r a b c->Q (.done c) t)(Y:∀ c,LI r a b N c->Q (.done c) t/\Q (.yield c) t):wpS (aE n w) A E s (loI a b B x (none,d,f,m,H,G)) Q t:=by
 refine dc (aP e λg l=>dc (aP (show f<a.size by lia) λh p=>dc (rD c.C q (c.pb.at l) (c.pa.at p) ?_)));have u:R r b m=r g.1:=sT l;have v:R r a f=r h.1:=sT p;dsimp only;by_cases i:r g.1<r h.1
 ·rw[if_pos (decide_eq_true i)];exact Mi c M k (by lia) e j D Y
 ·rw[if_neg (by simpa using i)];exact LC c M k (by lia) e j D Y
def J7(c:MC n w A s F r P a b)(p:fS t=F)(M:MI r a b d f m)(k:f+1<a.size)(j:m<b.size)(i:N<=f+m)(D:∀ e,Mg t e->∀ c,HS r a b c->Q (.done c) e)(Y:∀ e,Mg t e->∀ d f m B,MI r a b d f m->f+1<a.size->m<b.size->N<=f+m->Q (.yield (none,d,f,m,B)) e):wpS (aE n w) A E s (loP a b B (none,d,f,m,H,G)) Q t:=by
 refine dc (wpS_lift (DS ⟨rfl,?_⟩));refine dc (x3 (uj (I:=λ_ c e=>Mg t e/\LY r a b N c) (Q:=λc e=>Mg t e/\(HS r a b c\/LY r a b N c)) ?kH ?fin ⟨.refl t,_,_,_,_,_,_,rfl,M,k,j,i⟩) ?post);case fin =>
  rintro c e ⟨h,q⟩;exact⟨h,.inr q⟩
 case kH =>
  rintro y v x _ _ ⟨h,d,f,m,B,H,G,rfl,M,k,j,i⟩;unfold loG;split<;>exact Ka c (h.kind.trans p) M k j i (λe g c q=>⟨h.trans g,.inl q⟩) λe g c q=>⟨⟨h.trans g,.inr q⟩,h.trans g,q⟩
 case post =>
  rintro c e ⟨h,⟨o,l,rfl,u⟩|⟨d,f,m,B,H,G,rfl,M,k,j,i⟩⟩
  ·exact dz (D _ h _ ⟨_,_,rfl,u⟩)
  ·exact dc (iZ (dz (Y _ (h.set _) _ _ _ _ M k j i)))
def MP(c:MC n w A s F r P a b)(z:fS t=F)(M:MI r a b d f m)(k:f+1<a.size)(j:m<b.size)(J:N<=f+m)(D:∀ e,Mg t e->∀ c,HS r a b c->Q (.done c) e)(Y:∀ e,Mg t e->∀ d f m B,MI r a b d f m->f+1<a.size->m<b.size->N+1<=f+m->Q (.yield (none,d,f,m,B)) e):wpS (aE n w) A E s (loO a b x (none,d,f,m,B)) Q t:=by
 refine dc (x3 (uj (I:=λy c e=>e=t/\LI r a b (N+y) c) (Q:=λc e=>e=t/\(HS r a b c\/LI r a b (N+1) c)) ?kH ?fin ⟨rfl,_,_,_,_,_,rfl,M,k,j,J⟩) ?post);case fin =>
  rintro c e ⟨rfl,o,u,p,H,G,rfl,i,h,g,l⟩;exact⟨rfl,.inr ⟨_,_,_,_,_,rfl,i,h,g,by lia⟩⟩
 case kH =>
  rintro y L S _ O ⟨rfl,o,u,p,H,G,rfl,i,h,g,l⟩;exact K6 (N:=N+y+1) c z i h g (by lia) (λc q=>⟨rfl,.inl q⟩) λc q=>by obtain⟨o,f,m,H,G,rfl,M,k,j,R⟩:=q;exact⟨⟨rfl,.inr ⟨_,_,_,_,_,rfl,M,k,j,by lia⟩⟩,rfl,_,_,_,_,_,rfl,M,k,j,by lia⟩
 case post =>
  rintro L e ⟨rfl,⟨o,v,rfl,K⟩|⟨o,f,m,H,G,rfl,i,h,g,l⟩⟩
  ·exact dz (D _ (.refl _) _ ⟨_,_,rfl,K⟩)
  ·exact J7 c z i h g l D Y
def uv{t:eA}{a b:Array cp}{Q:Array cp->eA->Prop}(C:sj n w A s F r P)(X:fS t=F)(D:AllP P a)(z:AllP P b)(k:Up r a 0 a.size)(l:Up r b 0 b.size)(na:1<=a.size)(V:1<=b.size)(S:R r b 0<=R r a 0) (Z:∀ j,j<b.size->R r b j<=R r a (a.size-1)) (h:∀ d e,cC r a b d->Mg t e->Q d e):wpS (aE n w) A E s (uV a b) Q t:=by
 have c:MC n w A s F r P a b:=⟨C,D,z,k,l,λi Y=>FC S (k 0 i (cE _) (gy _) Y),Z⟩
 rw[xU];refine dc (wpS_lift (DS ⟨rfl,?_⟩));refine dc (aP V λT U=>?_);have K:MI r a b #[T] 0 1:=(MI.start k l).qW k l U λ_=>S;by_cases y:1=b.size
 ·rw[if_pos (by simpa using y)];exact dz (h _ _ (K.SV k l y) (.refl t))
 ·rw[if_neg (by simpa using y)];by_cases J:0+1=a.size
  ·rw[if_pos (by simpa using J)];exact dz (h _ _ (c.last K J) (.refl t))
  ·rw[if_neg (by simpa using J)];refine dc (wpS_get ?_);refine dc (x3 (uj (I:=λx c e=>Mg t e/\∃ d f m B,c=(none,d,f,m,B)/\MI r a b d f m/\f+1<a.size/\m<b.size/\x+1<=f+m) (Q:=λc e=>Mg t e/\HS r a b c) ?kH ?fin ⟨.refl t,_,_,_,_,rfl,K,by lia,by lia,by lia⟩) ?post)
   case fin =>
    rintro c e ⟨_,d,f,m,B,rfl,M,v,u,p⟩;lia
   case post =>
    rintro c e ⟨W,d,O,rfl,o⟩;exact dz (h d e o W)
   case kH =>
    rintro x y GA _ hx ⟨L,d,f,m,B,rfl,M,v,u,p⟩;exact MP c (L.kind.trans X) M v u p (λe g c q=>⟨L.trans g,q⟩) λe g d f m B M v u p=>⟨L.trans g,_,_,_,_,rfl,M,v,u,p⟩
end
abbrev nr(r:ah->Int)(v:ah):Int:=-r v
structure MH(r:ah->Int)(a b out:Array cp)(na nb:Nat):Prop where
 ha:na<=a.size
 hb:nb<=b.size
 mi:MI (nr r) a.reverse b.reverse out (a.size-na) (b.size-nb)
section
variable {r:ah->Int}{a b c:Array cp}{d f:Nat}
def Gd{e:Array cp}{i:Nat}(g:0<i)(h:i<=e.size):e.reverse[e.size-i]? = e[i-1]? := by rw[Array.getElem?_reverse (by lia)];congr 1;lia
def xH{xs:Array cp}{i:Nat}(g:0<i)(h:i<=xs.size):R (nr r) xs.reverse (xs.size-i) = -R r xs (i-1):=by have e:xs[i-1]? = some (xs[i-1]'(by lia)):=getElem?_pos xs (i-1) (by lia);rw[sT e,sT ((Gd g h).trans e)]
def oF{xs:Array cp}(U:Up r xs 0 xs.size):Up (nr r) xs.reverse 0 xs.reverse.size:=λi j _ g e=>by rw[xea] at e;have a:=xH (r:=r) (xs:=xs) (i:=xs.size-i) (by lia) (by lia);have b:=xH (r:=r) (xs:=xs) (i:=xs.size-j) (by lia) (by lia);rw[show xs.size-(xs.size-i)=i by lia] at a;rw[show xs.size-(xs.size-j)=j by lia] at b;rw[a,b];have:=U (xs.size-j-1) (xs.size-i-1) (gy _) (by lia) (by lia);lia
def MH.swap(M:MH r a b c d f):MH r b a c f d:=⟨M.hb,M.ha,M.mi.swap⟩
def MH.rQ(M:MH r a b c d f)(m:Up r a 0 a.size)(l:Up r b 0 b.size)(j:0<d)(e:a[d-1]? = some y)(k:0<f->R r b (f-1)<=R r a (d-1)):MH r a b (c.push y) (d-1) f:=by
 have i:=M.ha;have q:=M.mi.rQ (oF m) (oF l) ((Gd j i).trans e) λh=>by
  have g:0<f:=by simp at h;lia
  rw[xH j i,xH g M.hb];have:=k g;lia
 exact⟨by lia,M.hb,by rw[show a.size-(d-1)=a.size-d+1 by lia];exact q⟩
def MH.qW(M:MH r a b c d f)(i:Up r a 0 a.size)(h:Up r b 0 b.size)(j:0<f)(e:b[f-1]? = some y)(g:0<d->R r a (d-1)<=R r b (f-1)):MH r a b (c.push y) d (f-1):=(M.swap.rQ h i j e g).swap
def MH.FY(l:Up r a 0 a.size)(j:Up r b 0 b.size)(k:Nat){p:Nat}(M:MH r a b c d f)(t:p+k=d)(m:0<f->∀ i,p<=i->i<d->R r b (f-1)<=R r a i):MH r a b (c++(a.extract p d).reverse) p f:=by
 have s:=M.ha;have q:=MI.FY (oF l) (oF j) k M.mi (by simp;lia) λh i n=>by
  have g:0<f:=by simp at h;lia
  have:=m g (d-i-1) (by lia) (by lia);rw[xH g M.hb,show a.size-d+i=a.size-(d-i) by lia,xH (by lia) (by lia)];lia
 have e:a.reverse.extract (a.size-d) (a.size-d+k)=(a.extract p d).reverse:=by rw[Array.reverse_extract];congr 1<;>lia
 rw[e] at q;exact⟨by lia,M.hb,by rw[show a.size-p=a.size-d+k by lia];exact q⟩
def MH.FX(g:Up r a 0 a.size)(e:Up r b 0 b.size)(k:Nat){p:Nat}(M:MH r a b c d f)(j:p+k=f)(h:0<d->∀ i,p<=i->i<f->R r a (d-1)<=R r b i):MH r a b (c++(b.extract p f).reverse) d p:=(MH.FY e g k M.swap j h).swap
def MH.whole(M:MH r a b c 0 0):cC r a b c.reverse:=by
 have m:=M.mi;simp only[Nat.sub_zero,<- xea (xs:=a),<- xea (xs:=b)] at m;obtain⟨p,q⟩:=m.whole;simp only[xdS] at p ⊢;refine⟨?_,?_⟩
 ·rw[xdS];exact(xef _).trans (p.trans ((xef _).append (xef _)))
 ·rw[xdS,List.pairwise_reverse];exact q.imp λh=>by simp only[Le,nr] at *;lia
def qe(x y:Array cp):(x++y.reverse).reverse=y++x.reverse:=by apply V2.mp;simp
def MH.SW(M:MH r a b c d f)(i:Up r a 0 a.size)(h:Up r b 0 b.size)(e:d=0):cC r a b (a.extract 0 d++b.extract 0 f++c.reverse):=by
 subst e;have z:=MH.FX i h f (p:=0) M (by exact T8 ..) λg=>absurd g (vS _);have q:=z.whole;rw[qe] at q;have j:a.extract 0 0 = #[]:=by simp
 rw[j,Array.empty_append];exact q
def MH.SV(M:MH r a b c d f)(i:Up r a 0 a.size)(h:Up r b 0 b.size)(e:f=0):cC r a b (a.extract 0 d++b.extract 0 f++c.reverse):=by
 subst e;have z:=MH.FY i h d (p:=0) M (by exact T8 ..) λg=>absurd g (vS _);have q:=z.whole;rw[qe] at q;have j:b.extract 0 0 = #[]:=by simp
 rw[j,xd9];exact q
def MH.wL(M:MH r a b c d f)(j:Up r a 0 a.size)(g:Up r b 0 b.size)(e:f=1)(l:∀ i,i<a.size->R r b 0<=R r a i):cC r a b (b.extract 0 f++a.extract 0 d++c.reverse):=by subst e;have n:=M.ha;have z:=MH.FY j g d (p:=0) M (by exact T8 ..) λ_ i _ m=>l i (by lia);have k:=MH.FX j g 1 (p:=0) z (by exact T8 ..) λh=>absurd h (vS _);have q:=k.whole;rw[qe,qe] at q;rw[Array.append_assoc];exact q
def MH.start(g:Up r a 0 a.size)(e:Up r b 0 b.size):MH r a b #[] a.size b.size:=⟨cE _,cE _,by rw[Qb,Qb];exact MI.start (oF g) (oF e)⟩
end
abbrev S1:=Option (Array cp) × Nat × Nat × Array cp × Nat
abbrev S2:=Option (Array cp) × Nat × Nat × Array cp × Nat × Nat
abbrev S3:=Option (Array cp) × Nat × Nat × Array cp × Nat × Nat × Nat
def JJ(a b c:Array cp)(e d:Nat):Array cp:=a.extract 0 e++b.extract 0 d++c.reverse
def Zb(a b c:Array cp)(e d:Nat):Array cp:=b.extract 0 d++a.extract 0 e++c.reverse
def hi3(a b:Array cp)(h g f d e:Nat)(c:Array cp):SM (ForInStep S3):=elem' a (d-1) >>= λp =>
 if (d-1 == 0)=true then pure (.done (some (JJ a b (c.push p) (d-1) e),d-1,e,c.push p,h,g,f))
 else if (decide (g<7) && decide (f<7))=true then pure (.done (none,d-1,e,c.push p,h,g,f)) else pure (.yield (none,d-1,e,c.push p,h,g,f))
def AB(a b:Array cp)(f g h e d:Nat)(c:Array cp):SM (ForInStep S3):=elem' a (e-1) >>= λp=>mq true p b 0 d (d-1) >>= λx=>match x with
 |some k=>if d-k>0 then
   if (k == 1)=true then pure (.done (some (Zb a b (c++(b.extract k d).reverse) e k),e,k,c++(b.extract k d).reverse,f,g,d-k))
   else if (k == 0)=true then pure (.done (some (JJ a b (c++(b.extract k d).reverse) e k),e,k,c++(b.extract k d).reverse,f,g,d-k))
   else hi3 a b f g (d-k) e k (c++(b.extract k d).reverse)
  else hi3 a b f g (d-k) e d c
 |_=>pure (.done (some (JJ a b c e d),e,d,c,f,g,h))
def BD(a b:Array cp)(f h g e d:Nat)(c:Array cp):SM (ForInStep S3):=elem' b (d-1) >>= λp =>
 if (d-1 == 1)=true then pure (.done (some (Zb a b (c.push p) e (d-1)),e,d-1,c.push p,f,h,g)) else AB a b f h g e (d-1) (c.push p)
def FP(a b:Array cp)(f h g d e:Nat)(c:Array cp):SM (ForInStep S3):=bH f >>= λ_=>elem' b (e-1) >>= λp=>mq false p a 0 d (d-1) >>= λx=>match x with
 |some k=>if d-k>0 then
   if (k == 0)=true then pure (.done (some (JJ a b (c++(a.extract k d).reverse) k e),k,e,c++(a.extract k d).reverse,f,d-k,g))
   else BD a b f (d-k) g k e (c++(a.extract k d).reverse)
  else BD a b f (d-k) g d e c
 |_=>pure (.done (some (JJ a b c d e),d,e,c,f,h,g))
def hiG(a b:Array cp)(_:Nat)(s:S3):SM (ForInStep S3) :=
 if s.2.2.2.2.1>1 then FP a b (s.2.2.2.2.1-1) s.2.2.2.2.2.1 s.2.2.2.2.2.2 s.2.1 s.2.2.1 s.2.2.2.1 else FP a b s.2.2.2.2.1 s.2.2.2.2.2.1 s.2.2.2.2.2.2 s.2.1 s.2.2.1 s.2.2.2.1
def hiA(a b:Array cp)(g f d e:Nat)(c:Array cp):SM (ForInStep S2):=elem' a (d-1) >>= λp =>
 if (d-1 == 0)=true then pure (.done (some (JJ a b (c.push p) (d-1) e),d-1,e,c.push p,f+1,0))
 else if f+1 >= g then pure (.done (none,d-1,e,c.push p,f+1,0)) else pure (.yield (none,d-1,e,c.push p,f+1,0))
def hiB(a b:Array cp)(g f e d:Nat)(c:Array cp):SM (ForInStep S2):=elem' b (d-1) >>= λp =>
 if (d-1 == 1)=true then pure (.done (some (Zb a b (c.push p) e (d-1)),e,d-1,c.push p,0,f+1))
 else if f+1 >= g then pure (.done (none,e,d-1,c.push p,0,f+1)) else pure (.yield (none,e,d-1,c.push p,0,f+1))
def hiI(a b:Array cp)(c:Nat)(_:Nat)(s:S2):SM (ForInStep S2):=elem' b (s.2.2.1-1) >>= λd=>elem' a (s.2.1-1) >>= λe=>lt' d e >>= λx=>match x with
 |some w=>if w=true then hiA a b c s.2.2.2.2.1 s.2.1 s.2.2.1 s.2.2.2.1 else hiB a b c s.2.2.2.2.2 s.2.1 s.2.2.1 s.2.2.2.1
 |_=>pure (.done (some (JJ a b s.2.2.2.1 s.2.1 s.2.2.1),s.2.1,s.2.2.1,s.2.2.2.1,s.2.2.2.2.1,s.2.2.2.2.2))
def hiP (a b:Array cp) (c:Nat) (t:S2):SM (ForInStep S1):=(liftM (rule "list.sort.gallop"):SM Unit) >>= λ_ =>
 forIn [:a.size+b.size] ((none,t.2.1,t.2.2.1,t.2.2.2.1,c+1,t.2.2.2.2.1,t.2.2.2.2.2):S3) (hiG a b) >>= λu=>match u.1 with
 |some r=>pure (.done (some r,u.2.1,u.2.2.1,u.2.2.2.1,u.2.2.2.2.1))
 |none=>bH (u.2.2.2.2.1+1) >>= λ_=>pure (.yield (none,u.2.1,u.2.2.1,u.2.2.2.1,u.2.2.2.2.1+1))
def hiO(a b:Array cp)(_:Nat)(s:S1):SM (ForInStep S1):=forIn [:a.size+b.size] ((none,s.2.1,s.2.2.1,s.2.2.2.1,0,0):S2) (hiI a b s.2.2.2.2) >>= λt=>match t.1 with
 |some r=>pure (.done (some r,t.2.1,t.2.2.1,t.2.2.2.1,s.2.2.2.2))
 |none=>hiP a b s.2.2.2.2 t
def hiM (a b:Array cp):SM (Array cp):=(liftM (rule "list.sort.merge-hi"):SM Unit) >>= λ_=>elem' a (a.size-1) >>= λy =>
 if (a.size-1 == 0)=true then pure (JJ a b #[y] (a.size-1) b.size)
 else if (b.size == 1)=true then pure (Zb a b #[y] (a.size-1) b.size)
 else get >>= λc=>forIn [:a.size+b.size] ((none,a.size-1,b.size,#[y],gallopOf c):S1) (hiO a b) >>= λt=>match t.1 with
 |some r=>pure r
 |none=>(liftM (unsupported (α:=Array cp) "internal:list.sort.merge-bound"):SM (Array cp))
set_option smartUnfolding false in
def wR:wu=hiM:=rfl
section
variable {n:cy}{w:c9}{A:fz}{E:ah->aI->Prop}{s:aI}{H:yB}{r:ah->Int}{P:ah->Prop}{a b f:Array cp}{B G F d m N:Nat}{t:eA}{Q:ForInStep S3->eA->Prop}
def HD(r:ah->Int)(a b:Array cp)(Q:ForInStep S3->eA->Prop)(t:eA):Prop:=∀ o c,cC r a b o->Q (.done (some o,c)) t
def HY(r:ah->Int)(a b:Array cp)(N:Nat)(Q:ForInStep S3->eA->Prop)(t:eA):Prop :=
 ∀ o d m B G F,MH r a b o d m->1<=d->2<=m->d+m<=N->Q (.done (none,d,m,o,B,G,F)) t/\Q (.yield (none,d,m,o,B,G,F)) t
def Gb(c:MC n w A s H r P a b)(M:MH r a b f d m)(j:0<d)(h:R r b (m-1)<=R r a (d-1))(i:2<=m)(l:d+m<=N)(D:HD r a b Q t)(Y:HY r a b N Q t):wpS (aE n w) A E s (hi3 a b B G F d m f) Q t:=by
 have k:=M.ha;refine dc (aP (by lia) λp e=>?_);have g:=M.rQ c.hA c.hB j e λ_=>h;by_cases z:d-1=0
 ·rw[if_pos (by simpa using z)];exact dz (D _ _ (g.SW c.hA c.hB z))
 ·rw[if_neg (by simpa using z)];have y:=Y _ _ _ B G F g (by lia) i (by lia);split
  ·exact dz y.1
  ·exact dz y.2
def L_(c:MC n w A s H r P a b)(K:fS t=H)(M:MH r a b f d m)(y:0<d)(O:2<=m)(L:d+m<=N)(D:HD r a b Q t)(Y:HY r a b N Q t):wpS (aE n w) A E s (AB a b B G F d m f) Q t:=by
 have X:=M.ha;have W:=M.hb;refine dc (aP (by lia) λp e=>dc (dg c.C K c.pb (c.pa.at e) (by lia) (by lia) (λi j u v w=>c.hB i j u v (by lia)) λl Z J S=>?_));have V:=sT (r:=r) e;dsimp only;have q:0<l->R r b (l-1)<=R r a (d-1):=λz=>by have:=Ij (J (l-1) (by exact Nat.sub_lt ‹_› Nat.one_pos));rw[VN] at this;lia
 by_cases x:m-l>0
 ·have k:=MH.FX c.hA c.hB (m-l) (p:=l) M (by exact T6 ‹_›) λ_ i T AB=>by have:=wg (S i T AB);rw[VN] at this;lia
  rw[if_pos x];by_cases h:l=1
  ·rw[if_pos (by simpa using h)];exact dz (D _ _ (k.wL c.hA c.hB h c.hl))
  ·rw[if_neg (by simpa using h)];by_cases g:l=0
   ·rw[if_pos (by simpa using g)];exact dz (D _ _ (k.SV c.hA c.hB g))
   ·rw[if_neg (by simpa using g)];exact Gb c k y (q (by lia)) (by lia) (by lia) D Y
 ·rw[if_neg x];obtain rfl:l=m:=by lia
  exact Gb c M y (q (by exact xdz ‹_›)) O L D Y
def Gw(c:MC n w A s H r P a b)(i:fS t=H)(M:MH r a b f d m)(j:0<d)(q:2<=m)(h:R r a (d-1)<=R r b (m-1))(l:d+m<=N)(D:HD r a b Q t)(Y:HY r a b N Q t):wpS (aE n w) A E s (BD a b B G F d m f) Q t:=by
 have k:=M.hb;refine dc (aP (by lia) λp e=>?_);have g:=M.qW c.hA c.hB (by exact xdz ‹_›) e λ_=>h;by_cases z:m-1=1
 ·rw[if_pos (by simpa using z)];exact dz (D _ _ (g.wL c.hA c.hB z c.hl))
 ·rw[if_neg (by simpa using z)];exact L_ c i g j (by lia) (by lia) D Y
def Kh(c:MC n w A s H r P a b)(l:fS t=H)(M:MH r a b f d m)(J:0<d)(y:2<=m)(O:d+m<=N)(D:∀ h,Mg t h->HD r a b Q h)(Y:∀ h,Mg t h->HY r a b N Q h):wpS (aE n w) A E s (FP a b B G F d m f) Q t:=by
 have o:=M.ha;have Z:=M.hb;have g:=(Mg.refl t).set B;refine dc (iZ ?_);refine dc (aP (by lia) λp e=>dc (dg c.C (g.kind.trans l) c.pa (c.pb.at e) (by lia) (by exact Nat.sub_lt ‹_› Nat.one_pos) (λi j u v w=>c.hA i j u v (by lia)) λk L S T=>?_));have X:=sT (r:=r) e;dsimp only;have q:0<k->R r a (k-1)<=R r b (m-1):=λz=>by have:=CT (S (k-1) (by exact Nat.sub_lt ‹_› Nat.one_pos));rw[VN] at this;lia
 by_cases x:d-k>0
 ·have K:=MH.FY c.hA c.hB (d-k) (p:=k) M (by exact T6 ‹_›) λ_ i V W=>by have:=Br (T i V W);rw[VN] at this;lia
  rw[if_pos x];by_cases z:k=0
  ·rw[if_pos (by simpa using z)];exact dz (D _ g _ _ (K.SW c.hA c.hB z))
  ·rw[if_neg (by simpa using z)];exact Gw c (g.kind.trans l) K (by lia) y (q (by lia)) (by lia) (D _ g) (Y _ g)
 ·rw[if_neg x];obtain rfl:k=d:=by lia
  exact Gw c (g.kind.trans l) M J y (q J) O (D _ g) (Y _ g)
def HI(r:ah->Int)(a b:Array cp)(N:Nat)(c:S2):Prop:=∃ d m f G F,c=(none,d,m,f,G,F)/\MH r a b f d m/\1<=d/\2<=m/\d+m<=N
def Mm{Q:ForInStep S2->eA->Prop}(c:MC n w A s H r P a b)(M:MH r a b f d m)(j:0<d)(h:R r b (m-1)<=R r a (d-1))(i:2<=m)(l:d+m<=N+1)(D:∀ c,HS r a b c->Q (.done c) t)(Y:∀ c,HI r a b N c->Q (.done c) t/\Q (.yield c) t):wpS (aE n w) A E s (hiA a b B G d m f) Q t:=by
 have k:=M.ha;refine dc (aP (by lia) λp e=>?_);have g:=M.rQ c.hA c.hB j e λ_=>h;by_cases z:d-1=0
 ·rw[if_pos (by simpa using z)];exact dz (D _ ⟨_,_,rfl,g.SW c.hA c.hB z⟩)
 ·rw[if_neg (by simpa using z)];have y:=Y _ ⟨_,_,_,G+1,0,rfl,g,by lia,i,by lia⟩;split
  ·exact dz y.1
  ·exact dz y.2
def Kl{Q:ForInStep S2->eA->Prop}(c:MC n w A s H r P a b)(M:MH r a b f d m)(i:0<d)(h:R r a (d-1)<=R r b (m-1))(l:2<=m)(k:d+m<=N+1)(D:∀ c,HS r a b c->Q (.done c) t)(Y:∀ c,HI r a b N c->Q (.done c) t/\Q (.yield c) t):wpS (aE n w) A E s (hiB a b B F d m f) Q t:=by
 have j:=M.hb;refine dc (aP (by lia) λp e=>?_);have g:=M.qW c.hA c.hB (by exact xdz ‹_›) e λ_=>h;by_cases z:m-1=1
 ·rw[if_pos (by simpa using z)];exact dz (D _ ⟨_,_,rfl,g.wL c.hA c.hB z c.hl⟩)
 ·rw[if_neg (by simpa using z)];have y:=Y _ ⟨_,_,_,0,F+1,rfl,g,i,by lia,by lia⟩;split
  ·exact dz y.1
  ·exact dz y.2
def KJ{Q:ForInStep S2->eA->Prop}{x:Nat}(c:MC n w A s H r P a b)(q:fS t=H)(M:MH r a b f d m)(k:0<d)(j:2<=m)(i:d+m<=N+1)(D:∀ c,HS r a b c->Q (.done c) t)(Y:∀ c,HI r a b N c->Q (.done c) t/\Q (.yield c) t):wpS (aE n w) A E s (hiI a b B x (none,d,m,f,G,F)) Q t:=by
 have z:=M.ha;have y:=M.hb;refine dc (aP (show m-1<b.size by lia) λe l=>dc (aP (show d-1<a.size by lia) λg p=>dc (rD c.C q (c.pb.at l) (c.pa.at p) ?_)));have u:R r b (m-1)=r e.1:=sT l;have v:R r a (d-1)=r g.1:=sT p;dsimp only;by_cases h:r e.1<r g.1
 ·rw[if_pos (decide_eq_true h)];exact Mm c M k (by lia) j i D Y
 ·rw[if_neg (by simpa using h)];exact Kl c M k (by lia) j i D Y
def J4{Q:ForInStep S1->eA->Prop}(c:MC n w A s H r P a b)(u:fS t=H)(M:MH r a b f d m)(l:0<d)(k:2<=m)(j:d+m<=N)(D:∀ e,Mg t e->∀ c,HS r a b c->Q (.done c) e)(Y:∀ e,Mg t e->∀ f d m B,MH r a b f d m->1<=d->2<=m->d+m<=N->Q (.yield (none,d,m,f,B)) e):wpS (aE n w) A E s (hiP a b B (none,d,m,f,G,F)) Q t:=by
 refine dc (wpS_lift (DS ⟨rfl,?_⟩));refine dc (x3 (uj (I:=λ_ c e=>Mg t e/\∃ d m f B G F,c=(none,d,m,f,B,G,F)/\MH r a b f d m/\1<=d/\2<=m/\d+m<=N) (Q:=λc e=>Mg t e/\(HS r a b c\/∃ d m f B G F,c=(none,d,m,f,B,G,F)/\MH r a b f d m/\1<=d/\2<=m/\d+m<=N)) ?kH ?fin ⟨.refl t,_,_,_,_,_,_,rfl,M,l,k,j⟩) ?post)
 case fin =>
  rintro c e ⟨h,q⟩;exact⟨h,.inr q⟩
 case kH =>
  rintro y v x _ _ ⟨h,d,m,f,B,G,F,rfl,M,l,k,j⟩;unfold hiG;split<;>exact Kh c (h.kind.trans u) M l k j (λe g o i p=>⟨h.trans g,.inl ⟨o,i,rfl,p⟩⟩) λe g o d m B G F M l k j=>⟨⟨h.trans g,.inr ⟨_,_,_,_,_,_,rfl,M,l,k,j⟩⟩,h.trans g,_,_,_,_,_,_,rfl,M,l,k,j⟩
 case post =>
  rintro c e ⟨h,⟨o,i,rfl,p⟩|⟨d,m,f,B,G,F,rfl,M,l,k,j⟩⟩
  ·exact dz (D _ h _ ⟨_,_,rfl,p⟩)
  ·exact dc (iZ (dz (Y _ (h.set _) _ _ _ _ M l k j)))
def Mu{Q:ForInStep S1->eA->Prop}{x:Nat}(c:MC n w A s H r P a b)(v:fS t=H)(M:MH r a b f d m)(k:0<d)(j:2<=m)(J:d+m<=N+1)(D:∀ e,Mg t e->∀ c,HS r a b c->Q (.done c) e)(Y:∀ e,Mg t e->∀ f d m B,MH r a b f d m->1<=d->2<=m->d+m<=N->Q (.yield (none,d,m,f,B)) e):wpS (aE n w) A E s (hiO a b x (none,d,m,f,B)) Q t:=by
 have R:=M.hb;refine dc (x3 (uj (I:=λy c e=>e=t/\HI r a b (N+1-y) c) (Q:=λc e=>e=t/\(HS r a b c\/HI r a b N c)) ?kH ?fin ⟨rfl,_,_,_,_,_,rfl,M,k,j,J⟩) ?post);case fin =>
  rintro c e ⟨rfl,p,z,o,G,F,rfl,i,h,g,l⟩;exact⟨rfl,.inr ⟨_,_,_,_,_,rfl,i,h,g,by lia⟩⟩
 case kH =>
  rintro y L T _ O ⟨rfl,p,z,o,G,F,rfl,i,h,g,l⟩;exact KJ (N:=N-y) c v i h g (by lia) (λc q=>⟨rfl,.inl q⟩) λc q=>by obtain⟨d,m,o,G,F,rfl,M,k,j,S⟩:=q;exact⟨⟨rfl,.inr ⟨_,_,_,_,_,rfl,M,k,j,by lia⟩⟩,rfl,_,_,_,_,_,rfl,M,k,j,by lia⟩
 case post =>
  rintro L e ⟨rfl,⟨o,u,rfl,K⟩|⟨d,m,o,G,F,rfl,i,h,g,l⟩⟩
  ·exact dz (D _ (.refl _) _ ⟨_,_,rfl,K⟩)
  ·exact J4 c v i h g l D Y
def uf{t:eA}{a b:Array cp}{Q:Array cp->eA->Prop}(C:sj n w A s H r P)(W:fS t=H)(z:AllP P a)(y:AllP P b)(k:Up r a 0 a.size)(l:Up r b 0 b.size)(d:1<=a.size)(m:1<=b.size)(Z:R r b 0<=R r a 0) (S:∀ j,j<b.size->R r b j<=R r a (a.size-1)) (h:∀ f e,cC r a b f->Mg t e->Q f e):wpS (aE n w) A E s (wu a b) Q t:=by
 have c:MC n w A s H r P a b:=⟨C,z,y,k,l,λi X=>FC Z (k 0 i (cE _) (gy _) X),S⟩
 rw[wR];refine dc (wpS_lift (DS ⟨rfl,?_⟩));refine dc (aP (by lia) λT o=>?_);have K:MH r a b #[T] (a.size-1) b.size:=(MH.start k l).rQ k l d o λ_=>S _ (by lia);by_cases v:a.size-1=0
 ·rw[if_pos (by simpa using v)];exact dz (h _ _ (K.SW k l v) (.refl t))
 ·rw[if_neg (by simpa using v)];by_cases J:b.size=1
  ·rw[if_pos (by simpa using J)];exact dz (h _ _ (K.wL k l J c.hl) (.refl t))
  ·rw[if_neg (by simpa using J)];refine dc (wpS_get ?_);refine dc (x3 (uj (I:=λx c e=>Mg t e/\∃ d m f B,c=(none,d,m,f,B)/\MH r a b f d m/\1<=d/\2<=m/\d+m<=a.size+b.size-x) (Q:=λc e=>Mg t e/\HS r a b c) ?kH ?fin ⟨.refl t,_,_,_,_,rfl,K,by lia,by lia,by lia⟩) ?post)
   case fin =>
    rintro c e ⟨_,d,m,f,B,rfl,M,u,p,D⟩;lia
   case post =>
    rintro c e ⟨V,f,O,rfl,Y⟩;exact dz (h f e Y V)
   case kH =>
    rintro x v GA _ U ⟨L,d,m,f,B,rfl,M,u,p,D⟩;exact Mu c (L.kind.trans W) M u p (by lia) (λe g c q=>⟨L.trans g,q⟩) λe g f d m B M u p D=>⟨L.trans g,_,_,_,_,rfl,M,u,p,D⟩
end
def wr(p:Nat)(m:List cp)(n:Nat)(b:Array cp):Array cp:=(m.zipIdx n).foldl (λa (q:cp × Nat)=>a.setIfInBounds (p+q.2) q.1) b
theorem zR(p:Nat):∀ m n a,p+n+m.length<=a.size->∀ k:Nat,(wr p m n a)[k]? = if p+n<=k/\k<p+n+m.length then m[k-(p+n)]? else a[k]?
 |[],n,a,h,k=>by rw[if_neg (by simp only[P6];lia)];rfl
 |q :: m,n,a,h,k=>by
  have c:=zR p m (n+1) (a.setIfInBounds (p+n) q) (by rw[Array.size_setIfInBounds];simp only[gi] at h;lia) k;have e:wr p (q :: m) n a=wr p m (n+1) (a.setIfInBounds (p+n) q):=by unfold wr;rw[List.zipIdx_cons,zC]
  simp only[gi] at h ⊢;rw[e,c];by_cases b:p+(n+1)<=k/\k<p+(n+1)+m.length
  ·rw[if_pos b,if_pos (by lia),show k-(p+n)=(k-(p+(n+1)))+1 by lia,List.getElem?_cons_succ]
  ·rw[if_neg b];by_cases d:k=p+n
   ·subst d;rw[if_pos (by lia),Qb,List.getElem?_cons_zero,Array.getElem?_setIfInBounds_self_of_lt (by lia)]
   ·rw[if_neg (by lia),Array.getElem?_setIfInBounds_ne (by lia)]
def Ji(h:p+m.length<=o.size):(wr p m 0 o).toList=o.toList.take p++m++o.toList.drop (p+m.length):=by
 have b:o.toList.length=o.size:=by simp
 apply T2;intro k;have e:=zR p m 0 o h k;rw[Qr] at e;rw[sP,e];by_cases a:k<p
 ·rw[if_neg (by lia),r9,HK (by rw[lI];lia),List.getElem?_take_of_lt a,sP]
 ·by_cases c:k<p+m.length
  ·rw[if_pos (by lia),r9,DT (by rw[lI];lia),lI,show min p o.toList.length=p by lia,HK (by lia)]
  ·rw[if_neg (by lia),r9,DT (by rw[lI];lia),lI,show min p o.toList.length=p by lia,DT (by lia),List.getElem?_drop,
    show p+m.length+(k-p-m.length)=k by lia,sP]
def Kd{p q:Nat}{a:Array cp}(h:p<=q)(c:q<=a.size):a.toList=a.toList.take p++(a.extract p q).toList++a.toList.drop q:=by
 rw[xdR,Z6];have b:a.toList.take p++(a.toList.drop p).take (q-p)=a.toList.take q:=by rw[<- PZ p (a.toList.take q),List.take_take,List.drop_take,Nat.min_eq_left h]
 rw[b,PZ]
def Gz{p q:Nat}{m:List cp}{a:Array cp}(h:p<=q)(c:q<=a.size)(b:m.Perm (a.extract p q).toList):(wr p m 0 a).Perm a:=by
 have d:m.length=q-p:=by rw[b.length_eq];simp;lia
 rw[xdk,Ji (by lia),show p+m.length=q by lia];have e:=Kd h c;exact(List.Perm.append_right _ (List.Perm.append_left _ b)).trans (by rw[<- e])
def Runs(r:ah->Int)(d:Array cp):List (Nat × Nat × Nat)->Nat->Nat->Prop
 |[],a,b=>a=b
 | (s,n,_) :: c,a,b=>s=a/\1<=n/\Up r d s (s+n)/\Runs r d c (s+n) b
section
variable {r:ah->Int}{xs d:Array cp}
theorem Runs.le:∀ {e} {a b},Runs r xs e a b->a+e.length<=b
 |[],a,b,h=>by simp only[Runs] at h;simp;lia
 | (s,n,p) :: c,a,b,h=>by obtain⟨rfl,g,_,f⟩:=h;have:=Runs.le f;simp only[gi];lia
theorem Runs.append:∀ {l e} {a b},Runs r xs (l++e) a b↔∃ c,Runs r xs l a c/\Runs r xs e c b
 |[],e,a,b=>by simp[Runs]
 | (s,n,p) :: k,e,a,b=>by
  constructor
  ·rintro⟨j,i,h,m⟩;obtain⟨c,g,f⟩:=Runs.append.mp m;exact⟨c,⟨j,i,h,g⟩,f⟩
  ·rintro⟨c,⟨j,i,h,g⟩,f⟩;exact⟨j,i,h,Runs.append.mpr ⟨c,g,f⟩⟩
def Up.congr(h:Up r xs a b)(e:∀ k,a<=k->k<b->d[k]? = xs[k]?):Up r d a b:=λi j f g c=>by rw[dh (e i f (by lia)),dh (e j (by lia) c)];exact h i j f g c
theorem Runs.congr:∀ {f} {a b},Runs r xs f a b->(∀ k,a<=k->k<b->d[k]? = xs[k]?)->Runs r d f a b
 |[],a,b,h,_=>h
 | (s,n,p) :: c,a,b,h,e=>by obtain⟨rfl,j,i,g⟩:=h;have l:=g.le;exact⟨rfl,j,i.congr λk u v=>e k u (by lia),Runs.congr g λk u v=>e k (by lia) v⟩
def Up.glue(k:Up r xs a b)(g:Up r xs b c)(h:∀ i j,a<=i->i<b->b<=j->j<c->R r xs i<=R r xs j):Up r xs a c:=λi j u v w=>by
 by_cases e:j<b
 ·exact k i j u v e
 ·by_cases f:i<b
  ·exact h i j u f (by lia) w
  ·exact g i j (by lia) v w
end
section
variable {prog:cy}{w:c9}{A:fz}{E:ah->aI->Prop}{s:aI}{κ:yB}{r:ah->Int}{P:ah->Prop}
def AllP.extract(h:AllP P o)(i j:Nat):AllP P (o.extract i j):=λp a=>h p (by
 rw[xdR,Z6] at a;exact VA (P1 a))
def eF(h:i+k<j)(a:j<=o.size):R r (o.extract i j) k=R r o (i+k):=by apply dh;rw[VZ,if_pos (by lia)]
def Up.extract(h:Up r o i j)(d:i<=j)(c:j<=o.size):Up r (o.extract i j) 0 (o.extract i j).size:=λa b _ g f=>by
 have e:(o.extract i j).size=j-i:=by simp only[V0];lia
 rw[eF (by lia) c,eF (by lia) c];exact h _ _ (by lia) (by lia) (by lia)
def z9(hz:o+C+nb<=I.size)(hk:k<C)(V:U<=nb)(B:Up r I o (o+C))(L:Up r I (o+C) (o+C+nb))(n:∀ i,i<k->R r I (o+i)<=R r I (o+C)) (NJ:R r I (o+C)<R r I (o+k)) (BD:∀ i,i<U->R r I (o+C+i)<R r I (o+C-1)) (AB:∀ i,U<=i->i<nb->R r I (o+C-1)<=R r I (o+C+i))(W:cC r (I.extract (o+k) (o+C)) (I.extract (o+C) (o+C+U)) m) :
  Up r (wr (o+k) m.toList 0 I) o (o+C+nb)/\(wr (o+k) m.toList 0 I).Perm I/\∀ j,j<o\/o+C+nb<=j->(wr (o+k) m.toList 0 I)[j]? = I[j]? := by
 obtain⟨v,Q⟩:=W;have G:(I.extract (o+k) (o+C)).toList++(I.extract (o+C) (o+C+U)).toList=(I.extract (o+k) (o+C+U)).toList:=by rw[<- Array.toList_append,Array.extract_append_extract,show min (o+k) (o+C)=o+k by lia,show max (o+C) (o+C+U)=o+C+U by lia]
 rw[G] at v;have S:m.toList.length=C+U-k:=by rw[v.length_eq];simp;lia
 have hw:o+k+m.toList.length<=I.size:=by lia
 have d:=zR (o+k) m.toList 0 I (by lia);rw[Qr,S] at d
 have z:∀ (j:Nat) p,m.toList[j]? = some p->∃ i,o+k<=i/\i<o+C+U/\r p.1=R r I i:=λj p e=>by
  have T:p∈(I.extract (o+k) (o+C+U)).toList:=v.mem_iff.mp (oj e);obtain⟨i,f⟩:=List.getElem?_of_mem T;rw[sP,VZ] at f;split at f
  ·exact⟨o+k+i,by lia,by lia,(sT f).symm⟩
  ·cases f
 have l:∀ i,o+k<=i->i<o+C+U->R r I (o+C)<=R r I i:=λi b a=>by
  by_cases c:i<o+C
  ·exact FC (LW NJ) (B (o+k) i (by lia) b c)
  ·exact L (o+C) i (cE _) (by lia) (by lia)
 have t:∀ i,o+k<=i->i<o+C+U->R r I i<=R r I (o+C-1):=λi b a=>by
  by_cases c:i<o+C
  ·exact B i (o+C-1) (by lia) (by lia) (by lia)
  ·have:=BD (i-(o+C)) (by lia);rw[show o+C+(i-(o+C))=i by lia] at this;lia
 have u:∀ j,j<C+U-k->∃ i,o+k<=i/\i<o+C+U/\R r (wr (o+k) m.toList 0 I) (o+k+j)=R r I i:=λj K=>by
  have e:=d (o+k+j);rw[if_pos (by lia),show o+k+j-(o+k)=j by lia] at e;have N:j<m.toList.length:=by lia
  obtain⟨i,b,a,c⟩:=z j m.toList[j] (rh N);rw[rh N] at e;exact⟨i,b,a,(sT e).trans c⟩
 have g:∀ j,j<o+k\/o+C+U<=j->(wr (o+k) m.toList 0 I)[j]? = I[j]? := λj K=>by have e:=d j;rw[if_neg (by lia)] at e;exact e
 refine⟨?_,Gz (by lia) (by lia) v,λj K=>g j (by lia)⟩;have U1:Up r (wr (o+k) m.toList 0 I) o (o+k):=Up.congr (λi j b a c=>B i j b a (by lia)) λj b a=>g j (.inl a);have Z:Up r (wr (o+k) m.toList 0 I) (o+k) (o+C+U):=λi j b a c=>by
  have F:=d i;have D:=d j;rw[if_pos (by lia)] at F D;have J:i-(o+k)<m.toList.length:=by lia
  have H:j-(o+k)<m.toList.length:=by lia
  rw[rh J] at F;rw[rh H] at D;rw[sT F,sT D];by_cases O:i=j
  ·subst O;exact A3 _
  ·exact(TN.mp Q) _ _ J H (by lia)
 have Y:Up r (wr (o+k) m.toList 0 I) (o+C+U) (o+C+nb):=Up.congr (λi j b a c=>L i j (by lia) a c) λj b a=>g j (.inr b);refine(U1.glue Z λi j b a c X=>?_).glue Y λi j b a c X=>?_
 ·obtain⟨q,y,x,h⟩:=u (j-(o+k)) (by lia);rw[show o+k+(j-(o+k))=j by lia] at h;rw[h,dh (g i (.inl a))];have:=n (i-o) (by lia);rw[show o+(i-o)=i by lia] at this;exact FC this (l q y x)
 ·have M:=AB (j-(o+C)) (by lia) (by lia);rw[show o+C+(j-(o+C))=j by lia] at M;rw[dh (g j (.inr c))];by_cases f:i<o+k
  ·rw[dh (g i (.inl f))];have:=n (i-o) (by lia);rw[show o+(i-o)=i by lia] at this;have:=l (o+C-1) (by lia) (by lia);lia
  ·obtain⟨q,y,x,h⟩:=u (i-(o+k)) (by lia);rw[show o+k+(i-(o+k))=i by lia] at h;rw[h];exact FC (t q y x) M
structure St(r:ah->Int)(κ:yB)(gI:Array cp)(st:eA)(ps:List (Nat × Nat × Nat))(lo:Nat):Prop where
 kind:fS st=κ
 failed:uk st=none
 perm:(bS st).Perm gI
 pend:nS st=ps.toArray
 runs:Runs r (bS st) ps 0 lo
def St.size{b:Array cp}{a:eA}{c:List (Nat × Nat × Nat)}{d:Nat}(h:St r κ b a c d):(bS a).size=b.size:=h.perm.size_eq
def Cz{a:List (Nat × Nat × Nat)}(h:i+1<a.length):∃ b x y c,a=b++x :: y :: c/\b.length=i:=by refine⟨a.take i,a[i],a[i+1],a.drop (i+2),?_,by rw[lI];lia⟩;rw[<- B3 (by lia),<- B3 (by lia),PZ]
def mJ{m:eA}{X:Array cp}{ps:List (Nat × Nat × Nat)}{M i:Nat}{Q:Bool->eA->Prop}(C:sj prog w A s κ r P)(hP:AllP P X)(H:St r κ X m ps M)(IU:M<=X.size)(S:i+1<ps.length)(h:∀ q k9,St r κ X q k9 M->k9.length+1=ps.length->k9≠[]->(∀ k,M<=k->(bS q)[k]? = (bS m)[k]?)->Q true q):wpS (aE prog w) A E s (mergeAt' i) Q m:=by
 obtain⟨u,⟨d,e,v⟩,⟨sb,t,pb⟩,p,rfl,IQ⟩:=Cz S;have hz:=H.size;have y:AllP P (bS m):=hP.perm H.perm;obtain⟨c,O,af⟩:=Runs.append.mp H.runs;obtain⟨rfl,n1,L,rfl,n2,K,N⟩:=af;have a0:=N.le;have a3:=O.le
 have ab:((nS m).setIfInBounds i (d,e+t,v)).eraseIdxIfInBounds (i+1)=(u++(d,e+t,v) :: p).toArray:=by rw[H.pend];apply V2.mp;simp[<- IQ,List.eraseIdx_append_of_length_le]
 have new:∀ xs g,xs.Perm (bS m)->(∀ j,j<d\/d+e+t<=j->xs[j]? = (bS m)[j]?)->Up r xs d (d+(e+t)) ->
   St r κ X (SortSt.mk' (fS m) xs (u++(d,e+t,v) :: p).toArray g (uk m)) (u++(d,e+t,v) :: p) M:=λxs g hp ho hu =>
  ⟨H.kind,H.failed,hp.trans H.perm,rfl,Runs.append.mpr ⟨d,O.congr λk _ I=>ho k (.inl I),rfl,by lia,hu,by
   rw[show d+(e+t)=d+e+t by lia];exact N.congr λk I _=>ho k (.inr I)⟩⟩
 have D:(u++(d,e+t,v) :: p).length+1=(u++(d,e,v) :: (d+e,t,pb) :: p).length:=by simp;lia
 have e0:(nS m)[i]? = some (d,e,v):=by rw[H.pend,<- IQ];simp
 have e1:(nS m)[i+1]? = some (d+e,t,pb):=by rw[H.pend,<- IQ];simp
 refine dc (wpS_get ?_);rw[e0,e1];refine dc (Fu ?_);rw[ab];refine dc (aP (xs:=bS m) (by lia) λkb Z=>dc (dg (arr:=bS m) C H.kind y (y.at Z) (by lia) (by lia) L λk a4 S0 NM=>?_));have ar:=sT (r:=r) Z;dsimp only;by_cases z:e-k=0
 ·rw[if_pos (by simpa using z)];refine dz (h _ _ (new (bS m) (gallopOf m) (Array.Perm.refl _) (λ_ _=>rfl) ?_) D (by simp) λ_ _=>rfl);rw[show d+(e+t)=d+e+t by lia];refine L.glue K λi j J G V h4=>?_;have:=CT (S0 (i-d) (by lia));rw[show d+(i-d)=i by lia] at this;have:=K (d+e) j (cE _) V h4;lia
 ·rw[if_neg (by simpa using z)];refine dc (aP (xs:=bS m) (by lia) λka o=>dc (dg (arr:=bS m) C H.kind y (y.at o) (by lia) (by lia) K λl SX y4 SY=>?_));have U:=sT (r:=r) o;rw[show d+k+(e-k)-1=d+e-1 by lia] at U;dsimp only;by_cases z2:l=0
  ·rw[if_pos (by simpa using z2)];refine dz (h _ _ (new (bS m) (gallopOf m) (Array.Perm.refl _) (λ_ _=>rfl) ?_) D (by simp) λ_ _=>rfl);rw[show d+(e+t)=d+e+t by lia];refine L.glue K λi j J G V h4=>?_;have:=wg (SY (j-(d+e)) (by lia) (by lia));rw[show d+e+(j-(d+e))=j by lia] at this;have:=L i (d+e-1) J (by lia) (by lia);lia
  ·rw[if_neg (by simpa using z2)];have ae:∀ i,i<k->R r (bS m) (d+i)<=R r (bS m) (d+e):=λi S=>by have:=CT (S0 i S);lia
   have NJ:R r (bS m) (d+e)<R r (bS m) (d+k):=by have:=Br (NM k (cE _) (by lia));lia
   have BD:∀ i,i<l->R r (bS m) (d+e+i)<R r (bS m) (d+e-1):=λi S=>by have:=Ij (y4 i S);lia
   have AB:∀ i,l<=i->i<t->R r (bS m) (d+e-1)<=R r (bS m) (d+e+i):=λi J G=>by have:=wg (SY i J G);lia
   have sx:((bS m).extract (d+k) (d+e)).size=e-k:=by simp only[V0];lia
   have sy:((bS m).extract (d+e) (d+e+l)).size=l:=by simp only[V0];lia
   have ux:Up r ((bS m).extract (d+k) (d+e)) 0 ((bS m).extract (d+k) (d+e)).size:=Up.extract (λi j J G V=>L i j (by lia) G V) (by lia) (by lia);have uy:Up r ((bS m).extract (d+e) (d+e+l)) 0 ((bS m).extract (d+e) (d+e+l)).size:=Up.extract (λi j J G V=>K i j J G (by lia)) (by lia) (by lia);have W:R r ((bS m).extract (d+e) (d+e+l)) 0<=R r ((bS m).extract (d+k) (d+e)) 0:=by rw[eF (by lia) (by lia),eF (by lia) (by lia)];exact LW NJ
   have T:∀ j,j<((bS m).extract (d+e) (d+e+l)).size->R r ((bS m).extract (d+e) (d+e+l)) j<=R r ((bS m).extract (d+k) (d+e)) (((bS m).extract (d+k) (d+e)).size-1):=λj hj=>by rw[sx,eF (by lia) (by lia),eF (by lia) (by lia),show d+k+(e-k-1)=d+e-1 by lia];exact LW (BD j (by lia))
   have Y:∀ n q,cC r ((bS m).extract (d+k) (d+e)) ((bS m).extract (d+e) (d+e+l)) n->Mg (SortSt.mk' (fS m) (bS m) (u++(d,e+t,v) :: p).toArray (gallopOf m) (uk m)) q ->
     Q true (SortSt.mk' (fS q) (wr (d+k) n.toList 0 (bS q)) (nS q) (gallopOf q) (uk q)):=λn q F x=>by
    obtain⟨g,rfl⟩:=x;obtain⟨m1,m2,m3⟩:=z9 (by lia) (by lia) SX L K ae NJ BD AB F;exact h _ _ (new _ g m2 m3 (by rw[show d+(e+t)=d+e+t by lia];exact m1)) D (by simp) λk I=>m3 k (.inr (by lia))
   have B:∀ n q,cC r ((bS m).extract (d+k) (d+e)) ((bS m).extract (d+e) (d+e+l)) n->Mg (SortSt.mk' (fS m) (bS m) (u++(d,e+t,v) :: p).toArray (gallopOf m) (uk m)) q ->
     uk q=none:=λn q _ x=>by
    obtain⟨g,rfl⟩:=x;exact H.failed
   by_cases z3:e-k<=l
   ·rw[if_pos z3];refine dc (uv (a:=(bS m).extract (d+k) (d+e)) (b:=(bS m).extract (d+e) (d+e+l)) C H.kind (y.extract _ _) (y.extract _ _) ux uy (by lia) (by lia) W T λn q F x=>?_);refine dc (Fu (dc (wpS_get ?_)));have f:=Y n q F x;have f2:=B n q F x;refine dz ?_;show Q (uk q).isNone _;rw[f2];exact f
   ·rw[if_neg z3];refine dc (uf (a:=(bS m).extract (d+k) (d+e)) (b:=(bS m).extract (d+e) (d+e+l)) C H.kind (y.extract _ _) (y.extract _ _) ux uy (by lia) (by lia) W T λn q F x=>?_);refine dc (Fu (dc (wpS_get ?_)));have f:=Y n q F x;have f2:=B n q F x;refine dz ?_;show Q (uk q).isNone _;rw[f2];exact f
theorem Runs.modify(k:∀ x,(f x).1=x.1/\(f x).2.1=x.2.1):∀ {j} {i a b},Runs r o j a b->Runs r o (j.modify i f) a b
 |[],_,_,_,h=>by simpa using h
 | (s,n,p) :: c,0,a,b,h=>by obtain⟨g,d⟩:=k (s,n,p);rw[List.modify_zero_cons];have e:f (s,n,p)=(s,n,(f (s,n,p)).2.2):=Prod.ext g (Prod.ext d rfl);rw[e];exact h
 | (s,n,p) :: c,i+1,a,b,h=>by obtain⟨g,d,m,l⟩:=h;exact⟨g,d,m,Runs.modify k l⟩
def St.win{e:Array cp}{c f:eA}{d:List (Nat × Nat × Nat)}{b h:Nat}(H:St r κ e c d b)(a:qa b h c f):St r κ e f d b :=
 ⟨a.kind.trans H.kind,a.failed.trans H.failed,a.perm.trans H.perm,a.pend.trans H.pend,H.runs.congr λk _ g=>a.out k (.inl g)⟩
def wpS_sortRuns{v:eA}{Q:Unit->eA->Prop}(C:sj prog w A s κ r P)(hk:fS v=κ)(T:AllP P (bS v))(hp:nS v = #[])(hf:uk v=none)(h:∀ b,(bS b).Perm (bS v)->uk b=none->Up r (bS b) 0 (bS v).size->Q () b):wpS (aE prog w) A E s sortRuns' Q v:=by
 rw[sortRuns'_eq];refine dc (wpS_get ?_);generalize ha:bS v=a at *
 have H0:St r κ a v [] 0:=⟨hk,hf,by rw[ha],by rw[hp],rfl⟩
 refine dc (x3 (uj (I:=λx c b=>∃ l g,c=(none,g)/\St r κ a b l g/\g<=a.size/\x<=g) (Q:=λc b=>∃ l,c=(none,a.size)/\St r κ a b l a.size) ?kH ?fin ⟨[],0,rfl,H0,gy _,cE _⟩) ?post)
 case fin =>
  rintro c b ⟨l,g,rfl,H,h1,h2⟩;have:g=a.size:=by lia
  subst this;exact⟨l,rfl,H⟩
 case post =>
  rintro c b ⟨l,rfl,H⟩;have l0:=H.runs.le;refine dc (x3 (uj (I:=λy c b=>c=(none,())/\∃ d,St r κ a b d a.size/\d.length+y<=a.size) (Q:=λc b=>c=(none,())/\∃ d,St r κ a b d a.size/\d.length<=1) ?mF' ?Zc ⟨rfl,l,H,by lia⟩) ?mG')
  case Zc =>
   rintro c b ⟨rfl,d,D,hl⟩;exact⟨rfl,d,D,by lia⟩
  case mG' =>
   rintro c b ⟨rfl,d,D,hl⟩;refine dz (h b D.perm D.failed ?_);have q:=D.runs
   match d,hl,q with
   |[],_,q =>have q:0=a.size:=q;intro i j _ _ hj;lia
   |[(s',n',p')],_,q =>obtain⟨rfl,_,S,e⟩:=q;rw[<- e];exact S
  case mF' =>
   rintro y c GA _ hy ⟨rfl,d,D,hl⟩;refine dc (wpS_get ?_);have ep:(nS GA).size=d.length:=by rw[D.pend];simp
   by_cases z:(nS GA).size<=1
   ·rw[if_pos z];exact dz ⟨rfl,d,D,by lia⟩
   ·rw[if_neg z];exact dc (mJ C T D (cE _) (by(repeat' split)<;>lia) λA7 Z M O _ _=>dz ⟨rfl,Z,M,by lia⟩)
 case kH =>
  rintro x c GA _ hx ⟨l,g,rfl,H,h1,h2⟩;by_cases z:g >= a.size
  ·rw[if_pos z];have:g=a.size:=by lia
   subst this;exact dz ⟨l,rfl,H⟩
  ·rw[if_neg z];have hz:=H.size;refine dc (wpS_countRun C H.kind (T.perm H.perm) (by lia) (by lia) λm A7 hw AG FV S=>?_);have M:=H.win hw;dsimp only;refine Jr (K:=?K) ?pk λn=>?main;case main =>
    by_cases z2:m<minRun' a.size a.size 0
    ·rw[if_pos z2];refine dc (wpS_lift (DS ⟨rfl,?_⟩));refine dc (wpS_binarySort C M.kind (T.perm M.perm) (by clear n;have:=M.size;lia) (by clear n;lia) S λW N L=>?_);have H3:=M.win N;have b1:1<=min (a.size-g) (minRun' a.size a.size 0):=by clear n;lia
     have b2:g+min (a.size-g) (minRun' a.size a.size 0)<=a.size:=by clear n;lia
     clear N;generalize min (a.size-g) (minRun' a.size a.size 0)=B at *
     revert B W;exact n
    ·rw[if_neg z2];exact n _ M _ S AG (by lia)
   intro W H3 B L b1 b2;refine dc (wpS_get ?_);have J:∀ b d,St r κ a b d g->Up r (bS b) g (g+B)->∃ l V,((none:Option Unit),g+B)=(none,V)/\St r κ a (setPending b ((nS b).push (g,B,0))) l V/\V<=a.size/\x+1<=V:=λb d G u =>
    ⟨d++[(g,B,0)],g+B,rfl,⟨G.kind,G.failed,G.perm,by rw[G.pend];simp,Runs.append.mpr ⟨g,G.runs,rfl,b1,u,rfl⟩⟩,b2,by lia⟩
   cases hb:(nS W).back? with
   |none =>exact dc (Fu (dz (J W l H3 L)))
   |some t =>
    obtain⟨s1,o,p1⟩:=t;dsimp only;generalize power' a.size (2*s1+o) (2*s1+o+o+B) a.size=X;refine dc (x3 (uj (I:=λy c b=>c=(none,())/\∃ d,St r κ a b d g/\Up r (bS b) g (g+B))
     ?_ (λ_ _ q=>q) ⟨rfl,l,H3,L⟩) ?_)
    ·rintro y c F _ hy ⟨rfl,d,p,R⟩;refine dc (wpS_get ?_);have ep:(nS F).size=d.length:=by rw[p.pend];simp
     by_cases z3:(nS F).size>1
     ·rw[if_pos z3];have e4:(nS F)[(nS F).size-2]? = some ((nS F)[(nS F).size-2]'(by lia)):=getElem?_pos _ _ (by lia);rw[e4];generalize (nS F)[(nS F).size-2]'(by lia)=tt;obtain⟨t1,t2,U⟩:=tt;dsimp only;by_cases z4:U<=X
      ·rw[if_pos z4];exact dz ⟨rfl,d,p,R⟩
      ·rw[if_neg z4];exact dc (mJ C T p h1 (by lia) λMA Y H5 O _ UO=>dz ⟨rfl,Y,H5,R.congr λk hk _=>UO k hk⟩)
     ·rw[if_neg z3];exact dz ⟨rfl,d,p,R⟩
    ·rintro c F ⟨rfl,d,p,R⟩;refine dc (Fu (dc (Fu (dz ?_))));refine J _ (d.modify (d.length-1) λx=>(x.1,x.2.1,X)) ⟨p.kind,p.failed,p.perm,?_,Runs.modify (f:=λx=>(x.1,x.2.1,X)) (λ_=>⟨rfl,rfl⟩) p.runs⟩ R;rw[p.pend];simp
def gm (h:d5) (a:ai) (b:List ah):d5:=((h.update a (Obj.mapSeq λ_=>#[])).push (seqObj "tuple" b.toArray 0)).push (seqObj "list" #[] 0)
def uI(d:b≠a)(c:b<h.objs.size):(gm h a o).get? b=h.get? b:=by
 unfold gm;rw[VG _ _ _ (by rw[size_push',T5];exact gS (HZ c)),
  VG _ _ _ (by rw[T5];exact gS c),Heap.get?_update_ne _ _ _ _ d]
def ug(c:o.Perm (pairsOf C))(h:Up r o 0 C.length):(o.map (·.2)).toList.Perm C/\(o.map (·.2)).toList.Pairwise λx y=>r x<=r y:=by
 have d:o.toList.Perm (C.zip C):=by rw[<- pairsOf_toList];exact xdk.mp c
 have m:∀ p,p∈o.toList->p.1=p.2:=λp b=>(mem_zip_self (d.mem_iff.mp b)).1;have e:(o.map (·.2)).toList=o.toList.map (·.1):=by rw[Array.toList_map];exact A0 λp b=>(m p b).symm
 have q:o.size=C.length:=by rw[c.size_eq,pairsOf_size]
 rw[e];refine⟨?_,?_⟩
 ·have a:=d.map (·.1);rwa[xei (cE _)] at a
 ·rw[TN];intro i j l k f;have g:i<o.size:=by simpa using l
  have n:j<o.size:=by simpa using k
  have a:=h i j (gy _) (D4 f) (by lia);rw[Km g,Km n] at a;simpa using a
def tD {F:PySem.Fin->aI->Prop} (k:s.heap.get? a=some (seqObj "list" o.toArray n)) (z:o.length<=bG) (K:∀ v∈o,P v)(H:2<=o.length->∀ Q,Q κ { s with heap:=gm s.heap a o }->bq (aE prog w) A (keyKind' o.toArray) Q E { s with heap:=gm s.heap a o }) (C:2<=o.length->sj prog w A { s with heap:=gm s.heap a o } κ r P) (h:∀ c:Array ah,c.toList.Perm o->(c.toList.Pairwise λx y=>r x<=r y)->F (.done (.ret .none)) { s with heap:=sortedHeap s.heap a o c }) :
  bq (aE prog w) A (Builtin.«list.sort» ⟨[.ref a],[]⟩) F E s:=by
 rw[list_sort_plain];have u:a<s.heap.objs.size:=fA k;refine ax (listItems_at k rfl ?_);refine ax (listUpdate_at k rfl ?_ (by simpa using z) (gy _));obtain⟨q,D⟩:∃ q,(s.heap.update a (Obj.mapSeq λ_=>#[])).get? a=some (seqObj "list" #[] q):=⟨_,get?_update_seq k (λ_=>#[])⟩
 refine ax (seqEpoch_at D rfl ?_);refine ax (wpAny_newTuple ?_ (by simpa using z));refine ax (wpAny_newList ?_ (gy _));refine zk ?_;have l:(gm s.heap a o).get? a=some (seqObj "list" #[] q):=by unfold gm;rw[VG _ _ _ (by rw[size_push',T5];exact gS (HZ u)),VG _ _ _ (by rw[T5];exact gS u)];exact D
 have G:o.toArray.size=o.length:=by simp
 have g:∀ b:eA,(bS b).Perm (pairsOf o)->Up r (bS b) 0 o.length->F (.done (.ret .none)) { s with heap:=sortedHeap s.heap a o ((bS b).map (·.2)) }:=by intro b d m;obtain⟨L,f⟩:=ug d m;exact h _ L f
 by_cases f:o.toArray.size<2
 ·rw[if_pos f,if_pos f];refine ax (bI ?_);refine ax (bI ?_);refine ax (seqEpoch_at l rfl ?_);refine ax (listUpdate_at l rfl ?_ (gy _) (by rw[Array.size_map];show(pairsOf o).size<=_;rw[pairsOf_size];lia));simp only[bne_self_eq_false,vT,if_false];refine bI (g (SortSt.mk' general' (o.toArray.zip o.toArray) #[] 7 none) (Array.Perm.refl _) ?_);intro i j _ R S;have:i=j:=by lia
  subst this;exact A3 _
 ·rw[if_neg f,if_neg f];refine ax (H (by lia) _ ?_);refine ax (ua (wpS_sortRuns (Q:=λ_ b=>(bS b).Perm (pairsOf o)/\uk b=none/\Up r (bS b) 0 o.length) (C (by lia)) rfl (λp d=>?_) rfl rfl λb N M B=>⟨N,M,?_⟩) ?_ λ_ _ e=>e)
  ·have t:p∈(pairsOf o).toList:=d;rw[pairsOf_toList] at t;exact K _ (mem_zip_self t).2
  ·have e:(bS (SortSt.mk' κ (o.toArray.zip o.toArray) #[] 7 none)).size=o.length:=pairsOf_size o;rw[e] at B;exact B
  ·rintro⟨⟨⟩,b⟩ O ⟨rfl,d,J,m⟩;refine ax (seqEpoch_at l rfl ?_);refine ax (listUpdate_at l rfl ?_ (gy _) (by refine kD (T7 ((Array.size_map ..).trans (d.size_eq.trans (pairsOf_size _)))) ?_;lia));rw[J];simp only[bne_self_eq_false,vT,if_false];exact bI (g b d m)
end
end Jn
section
open PySem PySem.Spec PyProof.Rows
namespace L2
def vj:Key->Key->Bool
 |.inl i,.inl j=>decide (i<j)
 |.inr x,.inr y=>yi x y
 |_,_=>false
def kK:List Key->List Key->Bool
 |a :: d,b :: c=>if a=b then kK d c else vj a b
 |_,_=>false
def w8:Key->Bool
 |.inl _=>true
 |.inr _=>false
def mv(k:List Key):List Bool:=k.map w8
def Jw(x:Str):yi x x=false:=by unfold yi;simp[List.lt_irrefl]
def MK(h:yi x y=true)(g:yi y z=true):yi x z=true:=by
 unfold yi at *
 simp only[decide_eq_true_eq] at *
 exact List.lt_trans h g
def gR{x y:Str}(h:x.cps.toList=y.cps.toList):x=y:=by cases x;cases y;simp only at h;rw[V2.mp h]
def Jb{x y:Str}(h:yi x y=false)(g:yi y x=false):x=y:=by
 unfold yi at *
 simp only[decide_eq_false_iff_not] at *
 apply gR;exact List.le_antisymm (List.not_lt.mp g) (List.not_lt.mp h)
def yz(a:Key):vj a a=false:=by cases a with|inl i=>simp[vj]|inr x=>exact Jw x
def Lr(h:vj a b=true)(g:vj b c=true):vj a c=true:=by cases a<;>cases b<;>cases c<;>simp only[vj,decide_eq_true_eq] at *<;>first|lia|contradiction|exact MK h g
def HN(e:w8 a=w8 b)(h:vj a b=false)(g:vj b a=false):a=b:=by
 cases a<;>cases b<;>simp only[vj,w8,decide_eq_false_iff_not] at *
 ·congr 1;lia
 ·cases e
 ·cases e
 ·congr 1;exact Jb h g
theorem Bf:∀ a:List Key,kK a a=false
 |[]=>rfl
 |a :: b=>by unfold kK;rw[if_pos rfl];exact Bf b
theorem yq:∀ {a b c},kK a b=true->kK b c=true->kK a c=true
 |[],_,_,h,_=>by simp[kK] at h
 |_ :: _,[],_,h,_=>by simp[kK] at h
 |_ :: _,_ :: _,[],_,g=>by simp[kK] at g
 |a :: l,b :: k,c :: j,h,g=>by
  unfold kK at h g ⊢;by_cases f:a=b
  ·subst f;rw[if_pos rfl] at h;by_cases d:a=c
   ·subst d;rw[if_pos rfl] at g ⊢;exact yq h g
   ·rw[if_neg d] at g ⊢;exact g
  ·rw[if_neg f] at h;by_cases d:b=c
   ·subst d;rw[if_neg f];exact h
   ·rw[if_neg d] at g;have t:=Lr h g;have i:a≠c:=λe=>by subst e;rw[yz] at t;cases t
    rw[if_neg i];exact t
theorem yo:∀ {a b},mv a=mv b->kK a b=false->kK b a=false->a=b
 |[],[],_,_,_=>rfl
 |[],_ :: _,e,_,_=>by simp[mv] at e
 |_ :: _,[],e,_,_=>by simp[mv] at e
 |a :: f,b :: d,e,h,g=>by
  simp only[mv,eR,List.cons.injEq] at e;unfold kK at h g;by_cases c:a=b
  ·subst c;rw[if_pos rfl] at h g;rw[yo (e.2) h g]
  ·rw[if_neg c] at h;rw[if_neg (Ne.symm c)] at g;exact absurd (HN e.1 h g) c
theorem count_le{a:Type}(p q:a->Bool):∀ (l:List a),(∀ x∈l,p x=true->q x=true)->l.countP p<=l.countP q
 |[],_=>cE _
 |x :: l,h=>by have c:=count_le p q l λy b=>h y (eI _ b);cases e:p x<;>cases d:q x<;>simp_all<;>lia
theorem uX{b:Type}(p q:b->Bool)(a:b)(e:p a=false)(d:q a=true):∀ (l:List b),a∈l->(∀ x∈l,p x=true->q x=true)->l.countP p<l.countP q
 |[],m,_=>by cases m
 |x :: l,m,h=>by
  rw[List.countP_cons,List.countP_cons];rcases dQ.mp m with rfl|m
  ·have:=count_le p q l λy c=>h y (eI _ c);rw[e,d];simp;lia
  ·have f:=uX p q a e d l m λy c=>h y (eI _ c);cases i:p x<;>cases g:q x<;>simp_all<;>lia
def NR(L:List (List Key))(k:List Key):Int:=(L.countP λj=>kK j k:Nat)
def wz(e:mv a=mv b)(d:a∈L):decide (NR L a<NR L b)=kK a b:=by
 unfold NR
 cases h:kK a b with
 |true =>have:=uX (λj=>kK j a) (λj=>kK j b) a (Bf a) h L d λx _ c=>yq c h;exact decide_eq_true (by lia)
 |false =>
  apply decide_eq_false
  cases g:kK b a with
  |false=>rw[yo e h g];lia
  |true =>have:=count_le (λj=>kK j b) (λj=>kK j a) L λx _ c=>yq c g;lia
def unV:V->Option Key
 |.int i=>some (.inl i)
 |.str x=>some (.inr x)
 |_=>none
def NB(k:Key):unV (kV k)=some k:=by cases k<;>rfl
theorem Gs:∀ k:List Key,(k.map kV).filterMap unV=k
 |[]=>rfl
 |a :: b=>by rw[eR,TV,NB,Gs b]
def wV(H:Hp):ah->List Key
 |.ref b=>match H b with
  |some (.tup a)=>a.filterMap unV
  |_=>[]
 |_=>[]
def eO(h:H b=some (.tup (k.map kV))):wV H (.ref b)=k:=by simp only[wV,h];exact Gs k
section
variable {c:cy}{w:c9}{A:fz}{E:ah->aI->Prop}{s:aI}{Q:Bool->aI->Prop}
def Ls(f:RelV (kV a) u)(d:RelV (kV b) v)(e:w8 a=w8 b)(q:Q (vj a b) s):bq (aE c w) A (oneLt' false u v) Q E s:=by
 refine PySem.W.kat_one u v ?_
 cases a with
 |inl i =>
  cases b with
  |inr x=>cases e
  |inl j =>obtain⟨t,rfl⟩:=f;obtain⟨g,rfl⟩:=d;exact lt_int q
 |inr x =>
  cases b with
  |inl j=>cases e
  |inr y =>obtain⟨t,rfl⟩:=f;obtain⟨g,rfl⟩:=d;exact PySem.P.lt_str q
def Mf(f:RelV (kV a) u)(d:RelV (kV b) v)(e:w8 a=w8 b)(q:Q (decide (a=b)) s):bq (aE c w) A (eqBool u v) Q E s:=by
 cases a with
 |inl i =>
  cases b with
  |inr x=>cases e
  |inl j =>obtain⟨t,rfl⟩:=f;obtain⟨g,rfl⟩:=d;refine wpAny_eqBool_int ?_;rw[<- cU'];exact q
 |inr x =>
  cases b with
  |inl j=>cases e
  |inr y =>obtain⟨t,rfl⟩:=f;obtain⟨g,rfl⟩:=d;refine wpAny_eqBool_str ?_;rw[<- cV'];exact q
def DX(k m:List Key)(f d:List ah)(i:Nat)(p:Vals (k.map kV) f)(n:Vals (m.map kV) d)(e:mv k=mv m)(G:o=false)(q:Q (kK k m) s) :
  PySem.W.KatLex c w A true o Q (f.zip d) i s:=by
 induction k generalizing m f d i with
 |nil =>
  cases m with
  |cons b m=>simp[mv] at e
  |nil =>rw[Paired.n0 p,Paired.n0 n];subst G;exact PySem.W.kat_nil q
 |cons a k F =>
  cases m with
  |nil=>simp[mv] at e
  |cons b m =>
   obtain⟨u,f,rfl,l,D⟩:=Paired.c p;obtain⟨v,d,rfl,g,B⟩:=Paired.c n;simp only[mv,eR,List.cons.injEq] at e;refine PySem.W.kat_cons (Mf l g e.1 (PySem.W.kat_go (λh=>PySem.W.kat_yes ?_) (λh=>PySem.W.kat_no ?_)))
   ·have h:=of_decide_eq_true h;subst h;unfold kK at q;rw[if_pos rfl] at q;exact F m _ _ (i+1) D B e.2 q
   ·have h:=of_decide_eq_false h;unfold kK at q;rw[if_neg h] at q;by_cases r:i=0
    ·subst r
     cases a with
     |inr x =>
      cases b with
      |inl j=>cases e.1
      |inr y =>obtain⟨t,rfl⟩:=l;obtain⟨z,rfl⟩:=g;exact oneLt_str q
     |inl i =>
      cases b with
      |inr x=>cases e.1
      |inl j =>obtain⟨t,rfl⟩:=l;obtain⟨z,rfl⟩:=g;exact oneLt_int q
    ·rw[show(true && i == 0)=false by simp[r]];exact Ls l g e.1 q
end
section
variable {X:Cx}{d:List (ai × Obj)}{e:St}{H:Hp}{s:aI}
def Inv.tup(I:Inv X d e H s)(h:H b=some (.tup o)):∃ a:List ah,Vals o a/\IsTup s.heap b a.toArray:=(I.bT b _ h).2
def Cd(I:Inv X d e H s)(h:∀ b o,s.heap.get? b=some o->C.heap.get? b=some o) :
  Jn.sj X.prog X.w A C (tuples' true) (λv=>NR L (wV H v)) (λv=>∃ b k,v=.ref b/\H b=some (.tup (k.map kV))/\mv k=b0 :: U/\k∈L):=by
 rintro x y ⟨b,k,rfl,j,t,p⟩ ⟨c,m,rfl,i,r,M⟩ Q E q;obtain⟨n,g,o,B,P,K,F⟩:=I.tup j;obtain⟨l,f,G,z,O,J,D⟩:=I.tup i;have a:mv k=mv m:=t.trans r.symm;simp only[eO j,eO i] at q;rw[wz a p] at q;refine PySem.W.kat_lt (h _ _ B) F (h _ _ z) D (DX k m n l 0 g f a ?_ q)
 ·have w:=g.length;have u:=f.length;have N:k.length=m.length:=by have:=congrArg List.length a;simpa[mv] using this
  simp only[cx] at w u;exact decide_eq_false (by simp only[kg];lia)
def kat_tups(I:Inv X d e H s){q:aI}(J:∀ b o,s.heap.get? b=some o->q.heap.get? b=some o){p:Bool}{E:List Bool}{h:List V}{l:List (List Key)}{c:List ah}(L:d8 H h l)(w:Vals h c)(A:∀ k∈l,mv k=p :: E) :
  ∃ g:List ah,PySem.W.KatTups q.heap c g/\g.length=c.length/\∀ f∈g,(p=true->∃ i t,f=Value.int i t)/\(p=false->∃ x t,f=Value.str x t):=by
 induction h generalizing l c with
 |nil =>rw[Paired.n0 w];exact⟨[],.nil,rfl,by simp⟩
 |cons y h K =>
  obtain⟨k,l,rfl,⟨b,rfl,N⟩,t⟩:=Paired.c L;obtain⟨v,c,rfl,rfl,G⟩:=Paired.c w;obtain⟨g,Q,P,O⟩:=K t G λj M=>A j (eI _ M);have m:=A k eK;obtain⟨B,F,o,R,T,Y,S⟩:=I.tup N
  cases k with
  |nil=>simp[mv] at m
  |cons a k =>
   obtain⟨u,B,rfl,r,W⟩:=Paired.c F;simp only[mv,eR,List.cons.injEq] at m;refine⟨u :: g,.cons (J _ _ R) T S rfl Q,by simp[P],λf n=>?_⟩;rcases dQ.mp n with rfl|n
   ·cases a with
    |inr x =>obtain⟨D,rfl⟩:=r;exact⟨(λz=>by rw[<- m.1] at z;cases z),λ_=>⟨_,_,rfl⟩⟩
    |inl i =>obtain⟨D,rfl⟩:=r;exact⟨λ_=>⟨_,_,rfl⟩,λz=>by rw[<- m.1] at z;cases z⟩
   ·exact O f n
end
def d8.of{H:Hp}{g:List (List Key)}(d:List ah)(h:∀ v∈d,∃ b k,v=Value.ref b/\H b=some (.tup (k.map kV))/\k∈g):∃ f,d8 H f (d.map (wV H))/\Vals f d:=by
 induction d with
 |nil=>exact⟨[],.nil,.nil⟩
 |cons v d i =>obtain⟨f,a,c⟩:=i λu j=>h u (eI _ j);obtain⟨b,k,rfl,e,_⟩:=h v eK;exact⟨.ref b :: f,.cons ⟨b,rfl,by rw[eO e];exact e⟩ a,.cons rfl c⟩
end L2
end
namespace Jn
open PySem PyProof.Rows
section
variable {f:cy}{w:c9}{A:fz}{E:ah->aI->Prop}{s:aI}{κ:yB}{r:ah->Int}{P:ah->Prop}
def qR{T:String}{r d:ai}{n:Nat}{P:Nat->ah->Prop}{k:d5->Prop}{R:Result->aI->Prop}(K:PySem.W.KdlSrc f w T r d n P k)(q:A.handled=none)(j:k s.heap)(p:n<=bG)(u:∀ g i h c,(∀ b o,s.heap.get? b=some o->g.get? b=some o)->g.get? s.heap.objs.size=some { cls:=.type "list",data:=.seq h c }->ItemsOf P h n->R (.ok (.ret (.ref s.heap.objs.size))) { s with heap:=g,toks:=i }) :
  xD (aE f w) A (.builtin "proto.collect" ⟨[.ref r],[]⟩) R s:=by
 have a:=K.there _ j;have t:(s.heap.push { cls:=.type "list",data:=.seq ([]:List ah).toArray }).get? s.heap.objs.size=some { cls:=.type "list",data:=.seq ([]:List ah).toArray }:=jI _ rfl;refine DL F.entry_proto_collect ?_;refine ax (t5 ?_);refine bI ⟨DM F.plain_list_iadd _,DL F.entry_list_iadd ?_⟩;exact PySem.W.kdl_extend K q (K.keep _ _ j λb _ o e=>eS _ e) s.heap.objs.size (P9 a.1) (P9 a.2) _ 0 t (λg i y x l v m=>u g i y x (λb o e=>l b o (gS (fA e)) (eS _ e)) v m) p
def uJ{T:String}{r d:ai}{n:Nat}{P:Nat->ah->Prop}{i:d5->Prop}{Q:List ah->aI->Prop}(K:PySem.W.KdlSrc f w T r d n P i)(m:A.handled=none)(q:i s.heap)(l:n<=bG)(p:∀ e g a,(∀ b o,s.heap.get? b=some o->e.get? b=some o)->s.heap.objs.size<=e.objs.size->ItemsOf P a n->Q a.toList { s with heap:=e,toks:=g }):bq (aE f w) A (collect (.ref r)) Q E s:=by
 exact ax (wpAny_runValue (qR K m q l λe g a c j h k=>ax (wpAny_load h (bI (p e g a j (D4 (fA h)) k)))))
def n8{D:Drawn->Prop}{R:List ah->Prop}(u:∀ (t:fz) (F:ah->aI->Prop) (H:List ah->aI->Prop),t.handled=A.handled->(∀ c i k d,D d->R c->(∀ b o,s.heap.get? b=some o->i.get? b=some o)->s.heap.objs.size<=i.objs.size->H c { s with heap:=i,toks:=k,drawn:=d })->bq (aE f w) t (collect v) H F s) (O:∀ c,R c->c.length<=bG) (N:∀ c,R c->∀ v∈c,P v) (L:∀ c,R c->2<=c.length->∀ (t:fz) (F:ah->aI->Prop) (j:aI),(∀ b o,s.heap.get? b=some o->j.heap.get? b=some o)->∀ (Q:yB->aI->Prop),Q κ j->bq (aE f w) t (keyKind' c.toArray) Q F j) (C:∀ (j:aI),(∀ b o,s.heap.get? b=some o->j.heap.get? b=some o)->sj f w A.in1.in1 j κ r P) (h:∀ (c:List ah) (z:d5) (a:ai) (g:List ah) (n k:Nat) d,D d->R c->g.Perm c->(g.Pairwise λx y=>r x<=r y)->(∀ b o,s.heap.get? b=some o->z.get? b=some o)->s.heap.objs.size<=a->z.get? a=some (seqObj "list" g.toArray n)->Q (.ref a) { s with heap:=z,toks:=k,drawn:=d }) :
  bq (aE f w) A (call (.builtin "sorted") [v]) Q E s:=by
 refine Calls.call_function_entry kind_sorted plain_sorted entry_sorted (args_sorted1 _) ?_;refine ax (bI ?_);refine ax (u _ _ _ rfl λc i k d M q p K=>?_);have J:=O c q;refine ax (wpAny_newList ?_ (by simpa using J));have B:(i.push (seqObj "list" c.toArray 0)).get? i.objs.size=some (seqObj "list" c.toArray 0):=jI _ rfl;have l:∀ b o,s.heap.get? b=some o->(gm (i.push (seqObj "list" c.toArray 0)) i.objs.size c).get? b=some o:=λb o e=>by have m:b<i.objs.size:=fA (p b o e);rw[uI (gS m) (by rw[size_push'];exact HZ m)];exact eS _ (p b o e)
 refine ax (zk (HC slot_list_sort ⟨_,B,rfl⟩ entry_list_sort (tD B J (N c q) (λG=>L c q G _ _ _ l) (λG=>C _ l) λg T S=>⟨_,rfl,?_⟩) (args_list_sort _)))
 obtain⟨n,e⟩:=sortedHeap_at B;refine bI ⟨_,rfl,h c _ i.objs.size g.toList n k d M q T S (λb o e=>?_) K (by rw[Array.toArray_toList];exact e)⟩;have m:b<i.objs.size:=fA (p b o e);rw[sortedHeap_old (gS m) (by rw[size_push'];exact HZ m)];exact eS _ (p b o e)
end
end Jn
section
open PySem PySem.Spec PyProof.Rows
namespace L2
def vZ:ah->List Key
 |.int i _=>[.inl i]
 |.str x _=>[.inr x]
 |_=>[]
def tK(h:RelV (kV k) v):vZ v=[k]:=by
 cases k with
 |inl i=>obtain⟨t,rfl⟩:=h;rfl
 |inr x=>obtain⟨t,rfl⟩:=h;rfl
def z_:kK [a] [b]=vj a b:=by
 unfold kK;by_cases e:a=b
 ·subst e;rw[if_pos rfl,yz];rfl
 ·rw[if_neg e]
def Ff{a:cy}{w:c9}{A:fz}{s:aI}{b:Bool}{L:List Key} :
  Jn.sj a w A s oneType' (λv=>NR (L.map λk=>[k]) (vZ v)) (λv=>∃ k,RelV (kV k) v/\w8 k=b/\k∈L):=by
 rintro x y ⟨k,e,c,g⟩ ⟨m,d,f,h⟩ Q E q;simp only[tK e,tK d] at q;rw[wz (by simp[mv,c,f]) (fq.mpr ⟨k,g,rfl⟩),z_] at q
 cases k with
 |inl i =>
  cases m with
  |inr y=>rw[<- f] at c;cases c
  |inl j =>obtain⟨t,rfl⟩:=e;obtain⟨u,rfl⟩:=d;exact oneLt_int q
 |inr x =>
  cases m with
  |inl y=>rw[<- f] at c;cases c
  |inr j =>obtain⟨t,rfl⟩:=e;obtain⟨u,rfl⟩:=d;exact oneLt_str q
def ints_of{b:List Key}{a:List ah}(r:Vals (b.map kV) a)(h:∀ k∈b,w8 k=true):∃ c,IntsAre a c:=by
 induction b generalizing a with
 |nil=>rw[Paired.n0 r];exact⟨[],.nil⟩
 |cons k b e =>
  obtain⟨v,a,rfl,r,d⟩:=Paired.c r;obtain⟨c,q⟩:=e d λj f=>h j (eI _ f);have:=h k eK
  cases k with
  |inr x=>cases this
  |inl i=>obtain⟨t,rfl⟩:=r;exact⟨_,.cons i t q⟩
def Hz{b:List Key}{a:List ah}(r:Vals (b.map kV) a)(h:∀ k∈b,w8 k=false):∃ c,StrsAre a c:=by
 induction b generalizing a with
 |nil=>rw[Paired.n0 r];exact⟨[],.nil⟩
 |cons k b e =>
  obtain⟨v,a,rfl,r,d⟩:=Paired.c r;obtain⟨c,q⟩:=e d λj f=>h j (eI _ f);have:=h k eK
  cases k with
  |inl x=>cases this
  |inr i=>obtain⟨t,rfl⟩:=r;exact⟨_,.cons i t q⟩
def yx{c:cy}{w:c9}{A:fz}{E:ah->aI->Prop}{s:aI}{b:Bool}{e:List Key}{a:List ah}(r:Vals (e.map kV) a)(h:∀ k∈e,w8 k=b)(g:2<=a.length){Q:yB->aI->Prop}(q:Q oneType' s) :
  bq (aE c w) A (keyKind' a.toArray) Q E s:=by
 match a,g with
 |j :: i :: a,_ =>
  cases b with
  |true=>obtain⟨f,d⟩:=ints_of r h;rw[keyKind_ints d];exact bI q
  |false=>obtain⟨f,d⟩:=Hz r h;rw[keyKind_strs d];exact bI q
def mem_keys{d:List Key}{c:List ah}(r:Vals (d.map kV) c)(v:ah)(h:v∈c):∃ k,RelV (kV k) v/\k∈d:=by
 induction d generalizing c with
 |nil=>rw[Paired.n0 r] at h;cases h
 |cons k d f =>
  obtain⟨u,c,rfl,r,e⟩:=Paired.c r;rcases dQ.mp h with rfl|h
  ·exact⟨k,r,eK⟩
  ·obtain⟨j,a,b⟩:=f e h;exact⟨j,a,eI _ b⟩
def keys_map{b:List Key}{a:List ah}(r:Vals (b.map kV) a):a.map vZ=b.map λk=>[k]:=by
 induction b generalizing a with
 |nil=>rw[Paired.n0 r];rfl
 |cons k b d =>obtain⟨u,a,rfl,r,c⟩:=Paired.c r;rw[eR,eR,tK r,d c]
def yI{d:List Key}(a:List ah)(h:∀ v∈a,∃ k,RelV (kV k) v/\k∈d):∃ b:List Key,Vals (b.map kV) a:=by
 induction a with
 |nil=>exact⟨[],.nil⟩
 |cons v a e =>obtain⟨b,r⟩:=e λu f=>h u (eI _ f);obtain⟨k,c,_⟩:=h v eK;exact⟨k :: b,.cons c r⟩
def Ax:∀ {a b:List Key},(a.map λk=>[k]).Perm (b.map λk=>[k])->a.Perm b:=λ{a b} h=>by have:=h.map (λl:List Key=>l.head?);simp only[kM] at this;have e:∀ l:List Key,l.map ((λl:List Key=>l.head?) ∘ λk=>[k])=l.map some:=λl=>A0 λ_ _=>rfl;rw[e,e] at this;have:=this.filterMap id;simpa using this
section
variable {X:Cx}
def wy(K:ay):List V->Hp->VK->Prop:=λf H Q=>match f with
 |[.ref p]=>∃ c b,(eP K H p (c.map kV)\/∃ e,Rd H p (.dK e)/\c=e.map (·.1))/\(∀ k∈c,w8 k=b) /\
   ∀ (d:List Key) (l:ai),d.Perm c->(d.Pairwise λa b=>vj b a=false)->H l=none->Q (.ref l) (upd H l (.lst (d.map kV)))
 |_=>False
def xu (hc:X.calm=true):oa X (.builtin "sorted") (wy X.K):=by
 intro ab s aw H xs us Q I r h;unfold wy at h;split at h
 ·rename_i p;obtain⟨m,b,f,M,q⟩:=h;obtain⟨u,rfl,ru⟩:=Vals.one r;cases ru;have g9:m.length<=bG:=by
   rcases f with f|⟨ae,e,rfl⟩
   ·obtain⟨j,c,U,K⟩:=I.list f;simpa using K
   ·obtain⟨z,_⟩:=(I.rd e)
    simpa using z
  refine Jn.n8 (D:=(· = s.drawn)) (κ:=oneType') (P:=λv=>∃ k,RelV (kV k) v/\w8 k=b/\k∈m) (λA' E' Q' hA hQ=>?_) (λj c=>?_) (λj c v T=>?_) (λj c h2 A' E' s' E Q' q'=>yx c M h2 q') (λs' E=>Ff) λj W a l n Z d hd c C pw E ha eo=>?_
  ·rcases f with f|⟨ae,e,rfl⟩
   ·obtain⟨j,c,U,K⟩:=I.list f;refine collect_list U.isList (hQ j _ s.toks _ rfl c (λb o e=>?_) ?_) (by have:=c.length;lia)
    ·rw[Heap.get?_update_ne _ _ _ _ (gS (fA e))];exact eS _ e
    ·rw[T5,size_push'];exact T_ _
   ·obtain⟨z,y,j,w,dd⟩:=(I.rd e)
    obtain⟨ep,da⟩:=dd.dictAt;have af:j.length=ae.length:=w.length.symm;refine Jn.uJ (PySem.W.kdl_dict y) (hA.trans (I.ok.hd hc)) da (by lia) λW Z Y E K I0=>hQ _ W Z _ rfl ?_ E K;have go:∀ {J:List (Key × V)} {B:List (Key × ah)} g,KV J B->g.length=B.length->(∀ (i:Nat) v,g[i]? = some v->∃ k x,B[i]? = some (k,x)/\LZ k v=true)->Vals ((J.map (·.1)).map kV) g:=by
     intro J B g rl
     induction rl generalizing g with
     |nil=>intro f _;cases g with
      |nil=>exact .nil
      |cons _ _=>cases f
     |@cons p1 q1 J B r1 rs ih =>
      intro f hi
      cases g with
      |nil=>cases f
      |cons v g =>obtain⟨k,x,e1,e2⟩:=hi 0 v rfl;simp only[List.getElem?_cons_zero,Option.some.injEq] at e1;subst e1;refine .cons ?_ (ih g (by simpa using f) λi v h=>hi (i+1) v (by simpa using h));have O:p1.1=k:=r1.1;show RelV (kV p1.1) v;rw[O];rcases A5 e2 with⟨i,t,rfl,rfl⟩|⟨x,t,rfl,rfl⟩<;>exact⟨t,rfl⟩
    exact go Y.toList w (by rw[A4];exact I0.1) λi v h=>I0.2 i v (by simpa using h)
  ·have:=c.length;rw[cx] at this;lia
  ·obtain⟨k,rk,mk⟩:=mem_keys c v T;exact⟨k,rk,M k mk,mk⟩
  ·subst hd;obtain⟨S,N⟩:=yI l λv T=>mem_keys c v (C.mem_iff.mp T);have F:S.Perm m:=Ax (by rw[<- keys_map N,<- keys_map c];exact C.map _);refine⟨.ref a,_,I.laid E ha (show n4 X.prog X.w _ W _ (.lst (S.map kV)) from⟨by rw[cx,F.length_eq];exact g9,l,n,N,eo⟩),rfl,q S _ F ?_ (I.bT.fresh ha)⟩;have A:(l.map vZ).Pairwise λx y=>NR (m.map λk=>[k]) x<=NR (m.map λk=>[k]) y:=A2.mpr pw;rw[keys_map N,A2] at A;refine A.imp_of_mem λ{x y} R G ar=>?_;have R:=F.mem_iff.mp R;have G:=F.mem_iff.mp G;rw[<- z_,<- wz (L:=m.map λk=>[k]) (by simp[mv,M x R,M y G]) (fq.mpr ⟨y,G,rfl⟩)];exact decide_eq_false (by lia)
 ·exact h.elim
end
end L2
namespace L2.Q
set_option genInjectivity true
inductive D where
 |non|bl (b:Bool)|int (i:Int)|str (x:Str)
 |list (xs:List D)|tup (xs:List D)|dK (ae:List (Key × D))|dT (ae:List (List Key × D))
mutual
def D.flat:D->Bool
 |.list _=>false
 |.dK _=>false
 |.dT _=>false
 |.tup xs=>eh xs
 |_=>true
def eh:List D->Bool
 |[]=>true
 |x :: xs=>x.flat && eh xs
end
theorem iw:∀ {a},eh a=true↔∀ x∈a,x.flat=true
 |[]=>by simp[eh]
 |x :: a=>by simp[eh,iw]
def jW:eh (a++o)=(eh a && eh o):=by
 induction a with
 |nil=>simp[eh]
 |cons x a b=>simp[eh,b,Bool.and_assoc]
def tf:Key->Bool
 |.inl _=>true
 |.inr x=>decide (x.length<=bG)
def Ze(a:List (Key × D)):Prop:=a.length<=bG/\∀ p∈a,tf p.1=true
def Zf(a:List (List Key × D)):Prop:=a.length<=bG/\∀ p∈a,p.1.length<=bG/\∀ k∈p.1,tf k=true
mutual
inductive Rep(K:ay)(H:Hp):D->V->Prop
 |non:Rep K H .non .non
 |bl (b:Bool):Rep K H (.bl b) (.bl b)
 |int (i:Int):Rep K H (.int i) (.int i)
 |str {x:Str}:x.length<=bG->Rep K H (.str x) (.str x)
 |list {a:ai} {vs:List V} {ds:List D}:vs.length<=bG->eP K H a vs->b9 K H ds vs->Rep K H (.list ds) (.ref a)
 |tup {a:ai} {vs:List V} {ds:List D}:vs.length<=bG->H a=some (.tup vs)->b9 K H ds vs->Rep K H (.tup ds) (.ref a)
 |dK {a:ai} {vs:List V} {ae:List (Key × D)}:Ze ae->Rd H a (.dK ((ae.map (·.1)).zip vs))->b9 K H (ae.map (·.2)) vs->Rep K H (.dK ae) (.ref a)
 |dT {a:ai} {vs:List V} {ae:List (List Key × D)}:Zf ae->Rd H a (.dT ((ae.map (·.1)).zip vs))->b9 K H (ae.map (·.2)) vs->Rep K H (.dT ae) (.ref a)
inductive b9(K:ay)(H:Hp):List D->List V->Prop
 |nil:b9 K H [] []
 |cons {d:D} {v:V} {ds:List D} {vs:List V}:Rep K H d v->b9 K H ds vs->b9 K H (d :: ds) (v :: vs)
end
def Rep.ind{K:ay}{H:Hp}{m1:D->V->Prop}{j:List D->List V->Prop}(y:m1 .non .non)(u:∀ b,m1 (.bl b) (.bl b))(q:∀ i,m1 (.int i) (.int i))(l:∀ x,x.length<=bG->m1 (.str x) (.str x))(n:∀ a c f,c.length<=bG->eP K H a c->b9 K H f c->j f c->m1 (.list f) (.ref a)) (k:∀ a c f,c.length<=bG->H a=some (.tup c)->b9 K H f c->j f c->m1 (.tup f) (.ref a))(p:∀ a c g,Ze g->Rd H a (.dK ((g.map (·.1)).zip c))->b9 K H (g.map (·.2)) c->j (g.map (·.2)) c->m1 (.dK g) (.ref a)) (w:∀ a c g,Zf g->Rd H a (.dT ((g.map (·.1)).zip c))->b9 K H (g.map (·.2)) c->j (g.map (·.2)) c->m1 (.dT g) (.ref a))(m:j [] []) (t:∀ d v f c,Rep K H d v->b9 K H f c->m1 d v->j f c->j (d :: f) (v :: c)):(∀ {d v},Rep K H d v->m1 d v)/\∀ {f c},b9 K H f c->j f c :=
 ⟨λr=>Rep.rec y u q (λh=>l _ h) (λz s r e=>n _ _ _ z s r e) (λz s r e=>k _ _ _ z s r e) (λz s r e=>p _ _ _ z s r e) (λz s r e=>w _ _ _ z s r e) m (λr s a b=>t _ _ _ _ r s a b) r,
  λr=>b9.rec y u q (λh=>l _ h) (λz s r e=>n _ _ _ z s r e) (λz s r e=>k _ _ _ z s r e) (λz s r e=>p _ _ _ z s r e) (λz s r e=>w _ _ _ z s r e) m (λr s a b=>t _ _ _ _ r s a b) r⟩
def sQ.k'(e:Rd H a (.dK o)):sQ H a (kV k) (gV o k):=.inl ⟨o,k,e,rfl,rfl⟩
def sQ.t'(e:Rd H a (.dT o))(c:H b=some (.tup (k.map kV))):sQ H a (.ref b) (gV o k):=.inr ⟨o,k,b,e,rfl,c,rfl⟩
def bE.rd(s:bE H C)(h:Rd H a u):Rd C a u:=h.imp (s _ _) λ⟨o,e⟩=>⟨o,s _ _ e⟩
def Rep.K3{K:ay}(s:bE H o):(∀ {d} {v},Rep K H d v->Rep K o d v)/\∀ {g} {f},b9 K H g f->b9 K o g f :=
 Rep.ind .non .bl .int (λ_ h=>.str h) (λ_ _ _ z h _ c=>.list z (s.lst h) c) (λ_ _ _ z h _ c=>.tup z (s _ _ h) c) (λ_ _ _ e h _ c=>.dK e (bE.rd s h) c) (λ_ _ _ e h _ c=>.dT e (bE.rd s h) c) .nil λ_ _ _ _ _ _ a b=>.cons a b
def Rep.same{K:ay}(s:bE H o)(r:Rep K H d v):Rep K o d v:=(Rep.K3 s).1 r
def b9.same{K:ay}(s:bE H I)(r:b9 K H C o):b9 K I C o:=(Rep.K3 s).2 r
def b9.ind{K:ay}{H:Hp}{m:List D->List V->Prop}(e:m [] [])(f:∀ d v c a,Rep K H d v->b9 K H c a->m c a->m (d :: c) (v :: a)):∀ {c a},b9 K H c a->m c a :=
 λr=>(Rep.ind (m1:=λ_ _=>True) trivial (λ_=>trivial) (λ_=>trivial) (λ_ _=>trivial) (λ_ _ _ _ _ _ _=>trivial) (λ_ _ _ _ _ _ _=>trivial) (λ_ _ _ _ _ _ _=>trivial) (λ_ _ _ _ _ _ _=>trivial) e λd v c a r s _ b=>f d v c a r s b).2 r
def b9.length{K:ay}(r:b9 K H a vs):a.length=vs.length :=
 b9.ind (m:=λa vs=>a.length=vs.length) rfl (λ_ _ _ _ _ _ b=>by rw[gi,gi,b]) r
def b9.append{K:ay}(r:b9 K H b a)(t:b9 K H C o):b9 K H (b++C) (a++o) :=
 b9.ind (m:=λb a=>b9 K H (b++C) (a++o)) t (λ_ _ _ _ h _ c=>.cons h c) r
def b9.get{K:ay}{H:Hp}{b:List D}{a:List V}{i:Nat}{d:D}(r:b9 K H b a)(e:b[i]? = some d):∃ v,a[i]? = some v/\Rep K H d v :=
 b9.ind (m:=λb a=>∀ i d,b[i]? = some d->∃ v,a[i]? = some v/\Rep K H d v) (λi d e=>by simp at e) (λ_ _ _ _ h _ c i d e=>by
  cases i with
  |zero=>simp at e;subst e;exact⟨_,rfl,h⟩
  |succ i =>
   obtain⟨v,f,r⟩:=c i d (by simpa using e);exact⟨v,by simpa using f,r⟩) r i d e
def b9.bI'{K:ay}{H:Hp}{a:List D}{vs:List V}{i:Nat}{v:V}(r:b9 K H a vs)(e:vs[i]? = some v):∃ d,a[i]? = some d/\Rep K H d v :=
 b9.ind (m:=λa vs=>∀ i v,vs[i]? = some v->∃ d,a[i]? = some d/\Rep K H d v) (λi d e=>by simp at e) (λ_ _ _ _ h _ b i d e=>by
  cases i with
  |zero=>simp at e;subst e;exact⟨_,rfl,h⟩
  |succ i =>
   obtain⟨v,c,r⟩:=b i d (by simpa using e);exact⟨v,by simpa using c,r⟩) r i v e
def b9.drop{K:ay}(n:Nat)(r:b9 K H b a):b9 K H (b.drop n) (a.drop n) :=
 b9.ind (m:=λb a=>∀ n,b9 K H (b.drop n) (a.drop n)) (λn=>by rw[List.drop_nil,List.drop_nil];exact .nil) (λ_ _ _ _ h d c n=>by
  cases n with
  |zero=>exact .cons h d
  |succ n=>exact c n) r n
def b9.n0{K:ay}(h:b9 K H [] o):o=[]:=by cases h;rfl
def b9.c{K:ay}(h:b9 K H (d :: o) vs):∃ u a,vs=u :: a/\Rep K H d u/\b9 K H o a:=by
 cases h with
 |cons r b=>exact⟨_,_,rfl,r,b⟩
def b9.take{K:ay}(n:Nat)(r:b9 K H b a):b9 K H (b.take n) (a.take n) :=
 b9.ind (m:=λb a=>∀ n,b9 K H (b.take n) (a.take n)) (λn=>by rw[List.take_nil,List.take_nil];exact .nil) (λ_ _ _ _ h d c n=>by
  cases n with
  |zero=>exact .nil
  |succ n=>exact .cons h (c n)) r n
mutual
inductive df(K:ay)(Hs H:Hp)(fl:Bool):D->V->List ai->Prop
 |sh {d:D} {v:V}:(fl=true->d.flat=true)->Rep K Hs d v->df K Hs H fl d v []
 |list {a:ai} {vs:List V} {ds:List D} {As:List ai}:vs.length<=bG->H a=some (.lst vs)->aH K Hs H fl ds vs As->df K Hs H fl (.list ds) (.ref a) (a :: As)
 |tup {a:ai} {vs:List V} {ds:List D} {As:List ai}:vs.length<=bG->Hs a=some (.tup vs)->eh ds=false->aH K Hs H fl ds vs As->df K Hs H fl (.tup ds) (.ref a) As
 |dK {a:ai} {vs:List V} {ae:List (Key × D)} {As:List ai}:Ze ae->H a=some (.dK ((ae.map (·.1)).zip vs))->aH K Hs H fl (ae.map (·.2)) vs As->df K Hs H fl (.dK ae) (.ref a) (a :: As)
 |dT {a:ai} {vs:List V} {ae:List (List Key × D)} {As:List ai}:Zf ae->H a=some (.dT ((ae.map (·.1)).zip vs))->aH K Hs H fl (ae.map (·.2)) vs As->df K Hs H fl (.dT ae) (.ref a) (a :: As)
inductive aH(K:ay)(Hs H:Hp)(fl:Bool):List D->List V->List ai->Prop
 |nil:aH K Hs H fl [] [] []
 |cons {d:D} {v:V} {ds:List D} {vs:List V} {As Bs:List ai}:df K Hs H fl d v As->aH K Hs H fl ds vs Bs->aH K Hs H fl (d :: ds) (v :: vs) (As++Bs)
end
def Own(H:Hp)(a:ai):Prop:=∃ o,H a=some o/\∀ b,o≠.tup b
section
variable {K:ay}{Hs j H H':Hp}{g:Bool}
def Own.ne(h:Own H a):H a≠none:=by obtain⟨_,e,_⟩:=h;rw[e];exact λz=>nomatch z
def Own.y_(h:Own H a):H a≠some (.tup o):=by obtain⟨_,e,n⟩:=h;rw[e];exact λz=>n o (Option.some.inj z)
def df.ind{m1:D->V->List ai->Prop}{l:List D->List V->List ai->Prop}(q:∀ d v,(g=true->d.flat=true)->Rep K Hs d v->m1 d v [])(u:∀ a e i c,e.length<=bG->H a=some (.lst e)->aH K Hs H g i e c->l i e c->m1 (.list i) (.ref a) (a :: c)) (p:∀ a e i c,e.length<=bG->Hs a=some (.tup e)->eh i=false->aH K Hs H g i e c->l i e c->m1 (.tup i) (.ref a) c)(w:∀ a e k c,Ze k->H a=some (.dK ((k.map (·.1)).zip e))->aH K Hs H g (k.map (·.2)) e c->l (k.map (·.2)) e c->m1 (.dK k) (.ref a) (a :: c)) (y:∀ a e k c,Zf k->H a=some (.dT ((k.map (·.1)).zip e))->aH K Hs H g (k.map (·.2)) e c->l (k.map (·.2)) e c->m1 (.dT k) (.ref a) (a :: c))(t:l [] [] []) (x:∀ d v i e c m,df K Hs H g d v c->aH K Hs H g i e m->m1 d v c->l i e m->l (d :: i) (v :: e) (c++m)):(∀ {d v c},df K Hs H g d v c->m1 d v c)/\∀ {i e c},aH K Hs H g i e c->l i e c :=
 ⟨λr=>df.rec (λf r=>q _ _ f r) (λz s r h=>u _ _ _ _ z s r h) (λz s n r h=>p _ _ _ _ z s n r h) (λz s r h=>w _ _ _ _ z s r h) (λz s r h=>y _ _ _ _ z s r h) t (λr s a b=>x _ _ _ _ _ _ r s a b) r,
  λr=>aH.rec (λf r=>q _ _ f r) (λz s r h=>u _ _ _ _ z s r h) (λz s n r h=>p _ _ _ _ z s n r h) (λz s r h=>w _ _ _ _ z s r h) (λz s r h=>y _ _ _ _ z s r h) t (λr s a b=>x _ _ _ _ _ _ r s a b) r⟩
def BE{a:ai}{p:Prop}(h:a∈([]:List ai)):p:=absurd h sM
def df.fr':(∀ {d} {v} {c},df K Hs H g d v c->∀ a∈c,Own H a)/\∀ {l} {f} {c},aH K Hs H g l f c->∀ a∈c,Own H a :=
 df.ind (λ_ _ _ _ a h=>BE h) (λ_ _ _ _ _ e _ b a h=>(dQ.mp h).elim (λz=>z ▸ ⟨_,e,λ_ z=>nomatch z⟩) (b a)) (λ_ _ _ _ _ _ _ _ b=>b) (λ_ _ _ _ _ e _ b a h=>(dQ.mp h).elim (λz=>z ▸ ⟨_,e,λ_ z=>nomatch z⟩) (b a)) (λ_ _ _ _ _ e _ b a h=>(dQ.mp h).elim (λz=>z ▸ ⟨_,e,λ_ z=>nomatch z⟩) (b a)) (λa h=>BE h) λ_ _ _ _ _ _ _ _ k i a h=>(kA.mp h).elim (k a) (i a)
def df.own(r:df K Hs H g d v o):∀ a∈o,Own H a:=df.fr'.1 r
def aH.own(r:aH K Hs H g I C o):∀ a∈o,Own H a:=df.fr'.2 r
def df.Hi(s:bE Hs j):(∀ {d} {v} {c},df K Hs H g d v c->(∀ a∈c,H' a=H a)->df K j H' g d v c)/\∀ {l} {i} {c},aH K Hs H g l i c->(∀ a∈c,H' a=H a)->aH K j H' g l i c :=
 df.ind (λ_ _ f r _=>.sh f (r.same s)) (λ_ _ _ _ z e _ b k=>.list z ((k _ eK).trans e) (b λa h=>k a (eI _ h))) (λ_ _ _ _ z e n _ b k=>.tup z (s _ _ e) n (b k)) (λ_ _ _ _ z e _ b k=>.dK z ((k _ eK).trans e) (b λa h=>k a (eI _ h))) (λ_ _ _ _ z e _ b k=>.dT z ((k _ eK).trans e) (b λa h=>k a (eI _ h))) (λ_=>.nil) λ_ _ _ _ _ _ _ _ p m k=>.cons (p λa h=>k a (sL _ h)) (m λa h=>k a (kR _ h))
def df.gE(s:bE Hs j)(r:df K Hs H g d v o)(k:∀ a∈o,H' a=H a):df K j H' g d v o:=(df.Hi s).1 r k
def aH.gE(s:bE Hs j)(r:aH K Hs H g I C o)(k:∀ a∈o,H' a=H a):aH K j H' g I C o:=(df.Hi s).2 r k
def df.grow(s:bE Hs j)(t:bE H H')(r:df K Hs H g d v C):df K j H' g d v C :=
 r.gE s λa h=>by
  cases e:H a with
  |none=>exact absurd e (r.own a h).ne
  |some o=>exact t a o e
def aH.grow(s:bE Hs j)(t:bE H H')(r:aH K Hs H g I C U):aH K j H' g I C U :=
 r.gE s λa h=>by
  cases e:H a with
  |none=>exact absurd e (r.own a h).ne
  |some o=>exact t a o e
def df.rep2{G:Hp}(s:bE Hs G):(∀ {d} {v} {c},df K Hs H g d v c->(∀ a∈c,G a=H a)->Rep K G d v)/\∀ {i} {f} {c},aH K Hs H g i f c->(∀ a∈c,G a=H a)->b9 K G i f :=
 df.ind (λ_ _ _ r _=>r.same s) (λ_ _ _ _ z e _ b k=>.list z (.inl (.inl ((k _ eK).trans e))) (b λa h=>k a (eI _ h))) (λ_ _ _ _ z e n _ b k=>.tup z (s _ _ e) (b k)) (λ_ _ _ _ z e _ b k=>.dK z (.inl ((k _ eK).trans e)) (b λa h=>k a (eI _ h))) (λ_ _ _ _ z e _ b k=>.dT z (.inl ((k _ eK).trans e)) (b λa h=>k a (eI _ h))) (λ_=>.nil) λ_ _ _ _ _ _ _ _ m l k=>.cons (m λa h=>k a (sL _ h)) (l λa h=>k a (kR _ h))
def df.rep(s:bE Hs G)(r:df K Hs H g d v o)(k:∀ a∈o,G a=H a):Rep K G d v:=(df.rep2 s).1 r k
def aH.reps(s:bE Hs G)(r:aH K Hs H g C o I)(k:∀ a∈I,G a=H a):b9 K G C o:=(df.rep2 s).2 r k
def Rep.Ar(t:∀ a c,H a=some (.tup c)->G a=some (.tup c)):(∀ {d} {v},Rep K H d v->d.flat=true->Rep K G d v)/\∀ {k} {c},b9 K H k c->eh k=true->b9 K G k c :=
 Rep.ind (λ_=>.non) (λb _=>.bl b) (λi _=>.int i) (λ_ h _=>.str h) (λ_ _ _ _ _ _ _ f=>by simp[D.flat] at f) (λ_ _ _ z e _ l f=>.tup z (t _ _ e) (l (by simpa[D.flat] using f))) (λ_ _ _ _ _ _ _ f=>by simp[D.flat] at f) (λ_ _ _ _ _ _ _ f=>by simp[D.flat] at f) (λ_=>.nil) λ_ _ _ _ _ _ n m f=>by simp only[eh,mn] at f;exact .cons (n f.1) (m f.2)
def Rep.fY(t:∀ a b,H a=some (.tup b)->G a=some (.tup b))(r:Rep K H d v)(f:d.flat=true):Rep K G d v:=(Rep.Ar t).1 r f
def b9.fY(t:∀ a b,H a=some (.tup b)->G a=some (.tup b))(r:b9 K H o b)(f:eh o=true):b9 K G o b:=(Rep.Ar t).2 r f
def b9.owned(r:b9 K Hs a b)(f:eh a=true):aH K Hs H g a b [] :=
 b9.ind (m:=λa b=>eh a=true->aH K Hs H g a b []) (λ_=>.nil) (λ_ _ _ _ h _ c f=>by
  simp only[eh,mn] at f;exact .cons (.sh (λ_=>f.1) h) (c f.2)) r f
def b9.MT(r:b9 K Hs b a):aH K Hs H false b a [] :=
 b9.ind (m:=λb a=>aH K Hs H false b a []) .nil (λ_ _ _ _ h _ c=>.cons (.sh (λz=>Bool.noConfusion z) h) c) r
def df.fs':(∀ {d} {v} {f},df K Hs H g d v f->df K Hs H false d v f)/\∀ {i} {h} {f},aH K Hs H g i h f->aH K Hs H false i h f :=
 df.ind (λ_ _ _ r=>.sh (λz=>Bool.noConfusion z) r) (λ_ _ _ _ z e _ c=>.list z e c) (λ_ _ _ _ z e n _ c=>.tup z e n c) (λ_ _ _ _ z e _ c=>.dK z e c) (λ_ _ _ _ z e _ c=>.dT z e c) .nil λ_ _ _ _ _ _ _ _ a b=>.cons a b
def df.Zg(r:df K Hs H g d v o):df K Hs H false d v o:=df.fs'.1 r
def aH.Zg(r:aH K Hs H g C o I):aH K Hs H false C o I:=df.fs'.2 r
def df.HW(t:∀ a h,Hs a=some (.tup h)->G a=some (.tup h)):(∀ {d} {v} {i},df K Hs H true d v i->df K G H true d v i)/\∀ {k} {h} {i},aH K Hs H true k h i->aH K G H true k h i :=
 df.ind (λ_ _ f r=>.sh f (r.fY t (f rfl))) (λ_ _ _ _ z e _ c=>.list z e c) (λ_ _ _ _ z e n _ c=>.tup z (t _ _ e) n c) (λ_ _ _ _ z e _ c=>.dK z e c) (λ_ _ _ _ z e _ c=>.dT z e c) .nil λ_ _ _ _ _ _ _ _ a b=>.cons a b
def df.leaves(t:∀ a b,Hs a=some (.tup b)->G a=some (.tup b))(r:df K Hs H true d v o):df K G H true d v o:=(df.HW t).1 r
def aH.ind{m:List D->List V->List ai->Prop}(h:m [] [] [])(i:∀ d v c a e f,df K Hs H g d v e->aH K Hs H g c a f->m c a f->m (d :: c) (v :: a) (e++f)):∀ {c a e},aH K Hs H g c a e->m c a e :=
 λr=>(df.ind (m1:=λ_ _ _=>True) (λ_ _ _ _=>trivial) (λ_ _ _ _ _ _ _ _=>trivial) (λ_ _ _ _ _ _ _ _ _=>trivial) (λ_ _ _ _ _ _ _ _=>trivial) (λ_ _ _ _ _ _ _ _=>trivial) h λd v c a e f r s _ b=>i d v c a e f r s b).2 r
def aH.append(r:aH K Hs H g b a c)(t:aH K Hs H g C o I):aH K Hs H g (b++C) (a++o) (c++I) :=
 aH.ind (m:=λb a c=>aH K Hs H g (b++C) (a++o) (c++I)) t (λ_ _ _ _ _ _ h _ d=>by
  rw[r9];exact .cons h d) r
def aH.n0(h:aH K Hs H g [] o C):o=[]/\C=[]:=by cases h;exact⟨rfl,rfl⟩
def aH.c(h:aH K Hs H g (d :: o) vs C):∃ u a A B,vs=u :: a/\C=A++B/\df K Hs H g d u A/\aH K Hs H g o a B:=by
 cases h with
 |cons r b=>exact⟨_,_,_,_,rfl,rfl,r,b⟩
def aH.length(r:aH K Hs H g a vs o):a.length=vs.length :=
 aH.ind (m:=λa vs _=>a.length=vs.length) rfl (λ_ _ _ _ _ _ _ _ b=>by rw[gi,gi,b]) r
end
def ft':HO->Prop
 |.dK _=>False
 |.dT _=>False
 |.wc _ _=>False
 |_=>True
def JY(H b:Hp):Prop:=∀ a o,ft' o->H a=some o->b a=some o
structure NV where
 is:Hp->Hp->ai->List ai->Prop
 gE:∀ {Hs aC H H'} {a} {As},JY Hs aC->(∀ b∈As,H' b=H b)->is Hs H a As->is aC H' a As
 own:∀ {Hs H} {a} {As},is Hs H a As->∀ b∈As,Own H b
def lW(s:bE H C):JY H C:=λa o _ e=>s a o e
inductive Sl where
 |sh (d:D)|ow (fl:Bool) (d:D)
 |xc (a:ai)
 |ob (a:ai) (p:NV)
abbrev Env:=List (Option Sl)
inductive S1(K:ay)(Hs H:Hp):Option Sl->Option V->List ai->Prop
 |non {o:Option V}:S1 K Hs H none o []
 |sh {d:D} {v:V}:Rep K Hs d v->S1 K Hs H (some (.sh d)) (some v) []
 |xc {a:ai}:S1 K Hs H (some (.xc a)) (some (.ref a)) []
 |ow {As:List ai} {fl:Bool} {d:D} {v:V}:As≠[]->df K Hs H fl d v As->S1 K Hs H (some (.ow fl d)) (some v) As
 |ob {As:List ai} {a:ai} {p:NV}:p.is Hs H a As->S1 K Hs H (some (.ob a p)) (some (.ref a)) As
inductive SR(K:ay)(Hs H:Hp):Env->St->List ai->Prop
 |nil:SR K Hs H [] [] []
 |cons {ρ:Env} {σ:St} {tot As:List ai} {s:Option Sl} {o:Option V}:S1 K Hs H s o As->SR K Hs H ρ σ tot->SR K Hs H (s :: ρ) (o :: σ) (As++tot)
structure Wf(Hs H:Hp):Prop where
 sub:bE Hs H
 kU:∀ a vs,H a=some (.tup vs)->Hs a=some (.tup vs)
structure dA(K:ay)(Hs:Hp)(ρ:Env)(σ:St)(H:Hp)(tot:List ai):Prop where
 sr:SR K Hs H ρ σ tot
 wf:Wf Hs H
 ti:tot.Nodup
 own:∀ a∈tot,Hs a=none
structure gd(Hs H aC H':Hp):Prop where
 all:bE H H'
 sh:bE Hs aC
 wf:Wf aC H'
 new:∀ a,aC a≠none->Hs a≠none\/H a=none
section
variable {K:ay}{Hs H q H' u C:Hp}
def gd.refl(w:Wf Hs H):gd Hs H Hs H:=⟨bE.refl _,bE.refl _,w,λ_ h=>.inl h⟩
def gd.trans(a:gd Hs H q H')(b:gd q H' u C):gd Hs H u C :=
 ⟨a.all.trans b.all,a.sh.trans b.sh,b.wf,λc h=>by
  rcases b.new c h with h|h
  ·exact a.new c h
  ·exact .inr (a.all.free h)⟩
def gd.sR(g:gd Hs H q H')(h:Hs a=none)(b:H a≠none):q a=none:=by
 cases e:q a with
 |none=>rfl
 |some o =>
  rcases g.new a (by rw[e];exact λz=>nomatch z) with z|z
  ·exact absurd h z
  ·exact absurd z b
def SR.non(s:SR K Hs H ab U I):SR K Hs H (none :: ab) (o :: U) I:=.cons .non s
def SR.sh(r:Rep K Hs d v)(s:SR K Hs H U I o):SR K Hs H (some (.sh d) :: U) (some v :: I) o:=.cons (.sh r) s
def SR.xc(s:SR K Hs H U I o):SR K Hs H (some (.xc a) :: U) (some (.ref a) :: I) o:=.cons .xc s
def SR.ow(n:As≠[])(r:df K Hs H fl d v As)(s:SR K Hs H U I o):SR K Hs H (some (.ow fl d) :: U) (some v :: I) (As++o):=.cons (.ow n r) s
def SR.own(s:SR K Hs H U I o):∀ a∈o,Own H a:=by
 induction s with
 |nil=>exact λa h=>BE h
 |cons h _ b=>exact λa m=>(kA.mp m).elim (λm=>by
   cases h with
   |ow _ r=>exact r.own a m
   |@ob _ _ p r=>exact p.own r a m
   |_=>exact BE m) (b a)
def S1.map(f:∀ {d} {v},Rep K Hs d v->Rep K q d v)(g:∀ {c} {d} {v} {b},df K Hs H c d v b->(∀ a∈b,H' a=H a)->df K q H' c d v b)(n:JY Hs q)(h:S1 K Hs H s o b)(k:∀ a∈b,H' a=H a):S1 K q H' s o b:=by
 cases h with
 |non=>exact .non
 |sh r=>exact .sh (f r)
 |xc=>exact .xc
 |ow e r=>exact .ow e (g r k)
 |@ob _ _ p r=>exact .ob (p.gE n k r)
def SR.map(f:∀ {d} {v},Rep K Hs d v->Rep K q d v)(g:∀ {c} {d} {v} {b},df K Hs H c d v b->(∀ a∈b,H' a=H a)->df K q H' c d v b)(n:JY Hs q)(r:SR K Hs H U I o):(∀ a∈o,H' a=H a)->SR K q H' U I o:=by
 induction r with
 |nil=>exact λ_=>.nil
 |cons h _ e=>exact λk=>.cons (h.map f g n λa m=>k a (sL _ m)) (e λa m=>k a (kR _ m))
def S1.gE(s:bE Hs q)(h:S1 K Hs H x o I)(k:∀ a∈I,H' a=H a):S1 K q H' x o I:=h.map (·.same s) (·.gE s) (lW s) k
def SR.gE(s:bE Hs q)(r:SR K Hs H U I o)(k:∀ a∈o,H' a=H a):SR K q H' U I o:=r.map (·.same s) (·.gE s) (lW s) k
def dA.grow(r:dA K Hs ab U H I)(g:gd Hs H q H'):dA K q ab U H' I :=
 ⟨r.sr.gE g.sh λa h=>by
  cases e:H a with
  |none=>exact absurd e (r.sr.own a h).ne
  |some o=>exact g.all a o e,g.wf,r.ti,λa h=>g.sR (r.own a h) (r.sr.own a h).ne⟩
def N_(K:ay)(Hs H:Hp)(c:List ai)(e:Sl)(v:V):Prop:=match e with
 |.sh d=>Rep K Hs d v
 |.ow f d=>∃ b,b≠[]/\df K Hs H f d v b/\∀ a∈b,a∈c
 |.xc a=>v=.ref a
 |.ob a p=>v=.ref a/\∃ b,p.is Hs H a b/\∀ a∈b,a∈c
def SR.all(s:SR K Hs H ab U I):∃ F:Nat->List ai,(∀ i b,ab[i]? = some b->∃ o,U[i]? = some o/\S1 K Hs H b o (F i))/\(∀ i,(F i).Sublist I)/\(I.Nodup->∀ i j,i≠j->∀ a∈F i,a∉F j):=by
 induction s with
 |nil=>exact⟨λ_=>[],λi b e=>by simp at e,λi=>HM _,λ_ i j _ a h=>BE h⟩
 |@cons _ _ _ r _ _ h s p =>
  obtain⟨F,f,g,k⟩:=p;refine⟨λi=>i.casesOn r F,λi b e=>?_,λi=>?_,λn i j c a m=>?_⟩
  ·cases i with
   |zero=>cases e;exact⟨_,rfl,h⟩
   |succ i=>exact f i b e
  ·cases i with
   |zero=>exact Z7 _ _
   |succ i=>exact(g i).trans (PK _ _)
  ·obtain⟨_,l,d⟩:=ui.mp n
   cases i with
   |zero =>
    cases j with
    |zero=>exact absurd rfl c
    |succ j=>exact λz=>d a m a ((g j).subset z) rfl
   |succ i =>
    cases j with
    |zero=>exact λz=>d a z a ((g i).subset m) rfl
    |succ j=>exact k l i j (λz=>c (by rw[z])) a m
def SR.get{i:Nat}(s:SR K Hs H U I o)(e:U[i]? = some (some sl)):∃ v,I[i]? = some (some v)/\N_ K Hs H o sl v:=by
 obtain⟨F,f,g,_⟩:=s.all;obtain⟨_,b,h⟩:=f i _ e;have m:=λa (h:a∈F i)=>(g i).subset h;generalize F i=d at h m
 cases h with
 |sh r=>exact⟨_,b,r⟩
 |xc=>exact⟨_,b,rfl⟩
 |ow c r=>exact⟨_,b,_,c,r,m⟩
 |ob r=>exact⟨_,b,rfl,_,r,m⟩
def wK{a:Type}{l:List a}{x:a}(e:l[i]? = some x):l.set i x=l:=by obtain⟨h,rfl⟩:=k7.mp e;exact List.set_getElem_self h
def SR.chg(s:SR K Hs H U I j):∀ i,j.Nodup->∃ l:List ai,l.Sublist j/\(∀ p,U[i]? = some p->∃ o,I[i]? = some o/\S1 K Hs H p o l)/\∀ {q H'} {p} {o} {B},bE Hs q->(∀ a∈j,a∉l->H' a=H a)->S1 K q H' p o B->B.Nodup->(∀ a∈B,a∈j->a∈l) ->
  ∃ t:List ai,t.Nodup/\(∀ a∈t,a∈B\/a∈j/\a∉l)/\(B=[]->t.Sublist j)/\(B=l->t=j)/\SR K q H' (U.set i p) (I.set i o) t:=by
 induction s with
 |nil=>exact λi n=>⟨[],.slnil,λ_ e=>by simp at e,λ_ _ _ _ _=>⟨[],n,λa h=>BE h,λ_=>.slnil,λ_=>rfl,.nil⟩⟩
 |@cons _ _ j l _ _ h s N =>
  intro i n;obtain⟨M,J,r⟩:=ui.mp n
  cases i with
  |zero =>
   refine⟨l,Z7 _ _,λ_ e=>by cases e;exact⟨_,rfl,h⟩,λ{_ _ _ _ B} S k F w v=>⟨B++j,ui.mpr ⟨w,J,λa P b L e=>?_⟩,λa m=>?_,λe=>?_,λe=>by rw[e],.cons F (s.gE S λa m=>k a (kR _ m) λz=>r a z a m rfl)⟩⟩
   ·subst e;exact r a (v a P (kR _ L)) a L rfl
   ·exact(kA.mp m).imp id λm=>⟨kR _ m,λz=>r a z a m rfl⟩
   ·subst e;exact PK _ _
  |succ i =>
   obtain⟨A,G,f,g⟩:=N i J;have E:∀ a∈l,a∉A:=λa m z=>r a m a (G.subset z) rfl;refine⟨A,G.trans (PK _ _),f,λS k F w v=>?_⟩;obtain⟨t,a,b,c,d,e⟩:=g S (λa m=>k a (kR _ m)) F w λa m z=>v a m (kR _ z);refine⟨l++t,ui.mpr ⟨M,a,λx D y O e=>?_⟩,λx m=>?_,λe=>(c e).append_left _,λe=>by rw[d e],.cons (h.gE S λa m=>k a (sL _ m) (E a m)) e⟩
   ·subst e;rcases b x O with z|z
    ·exact E x D (v x z (sL _ D))
    ·exact r x D x z.1 rfl
   ·rcases kA.mp m with z|z
    ·exact .inr ⟨sL _ z,E x z⟩
    ·exact(b x z).imp id λz=>⟨kR _ z.1,z.2⟩
end
inductive Md where
 |sh|ow (fl:Bool)|bo|wb (a:ai) (p:NV)
def RM(K:ay)(c H:Hp):Md->D->V->List ai->Prop
 |.sh,d,v,b=>b=[]/\Rep K c d v
 |.ow e,d,v,b=>df K c H e d v b/\b≠[]
 |.bo,d,v,b=>b=[]/\Rep K H d v
 |.wb a p,d,v,b=>Rep K H d v/\p.is c H a b
inductive EI(K:ay)(Hs H:Hp):List (Md × D)->List V->List ai->Prop
 |nil:EI K Hs H [] [] []
 |cons {m:Md} {d:D} {v:V} {ps:List (Md × D)} {vs:List V} {As Bs:List ai}:RM K Hs H m d v As->EI K Hs H ps vs Bs->EI K Hs H ((m,d) :: ps) (v :: vs) (As++Bs)
section
variable {K:ay}{Hs H c H':Hp}
def RM.own{m:Md}{d:D}{v:V}{b:List ai}(r:RM K Hs H m d v b):∀ a∈b,Own H a:=by
 cases m with
 |sh=>obtain⟨rfl,_⟩:=r;exact λa h=>BE h
 |ow e=>exact df.own r.1
 |bo=>obtain⟨rfl,_⟩:=r;exact λa h=>BE h
 |wb _ p=>exact p.own r.2
def RM.grow(r:RM K Hs H m d v o)(g:gd Hs H c H'):RM K c H' m d v o:=by
 cases m with
 |sh=>exact⟨r.1,r.2.same g.sh⟩
 |ow a=>exact⟨df.grow g.sh g.all r.1,r.2⟩
 |bo=>exact⟨r.1,r.2.same g.all⟩
 |wb _ p=>exact⟨r.1.same g.all,p.gE (lW g.sh) (λb h=>let ⟨_,e,_⟩:=p.own r.2 b h;(g.all _ _ e).trans e.symm) r.2⟩
def RM.rep(w:Wf Hs H)(r:RM K Hs H m d v o):Rep K H d v:=by
 cases m with
 |sh=>exact r.2.same w.sub
 |ow a=>exact df.rep w.sub r.1 λ_ _=>rfl
 |bo=>exact r.2
 |wb=>exact r.1
def RM.flat(w:Wf Hs H)(r:RM K Hs H m d v o)(f:d.flat=true):Rep K Hs d v:=(r.rep w).fY w.kU f
def EI.reps(w:Wf Hs H){a:List (Md × D)}(r:EI K Hs H a o C):b9 K H (a.map (·.2)) o:=by
 induction r with
 |nil=>exact .nil
 |cons r _ b=>exact .cons (r.rep w) b
end
abbrev WE:=Env->(Md->D->Prop)->Prop
abbrev WT:=Env->(Bool->Prop)->Prop
abbrev WA:=Env->(List (Md × D)->Prop)->Prop
structure gC where
 nx:Env->Prop
 rt:Md->D->Prop
 bk:Env->Prop:=fun _=>False
 ct:Env->Prop:=fun _=>False
abbrev WS:=gC->Env->Prop
def cR(c H:Hp)(b:List ai):Prop:=b.Nodup/\∀ a∈b,c a=none/\H a=none
def oC(K:ay)(t:WE):TE:=λh H i=>∃ f e a Q,dA K f e h H a/\t e Q /\
 ∀ v c b m d g,gd f H b c->RM K b c m d v g->cR b H g->Q m d->i v c
def EJ(K:ay)(t:WT):TT:=λf H h=>∃ d c a Q,dA K d c f H a/\t c Q/\∀ b e g,gd d H g e->Q b->h b e
def tpA(K:ay)(t:WA):TA:=λi H j=>∃ g d a Q,dA K g d i H a/\t d Q /\
 ∀ e c b f h,gd g H b c->EI K b c f e h->cR b H h->Q f->j e c
def BF(K:ay)(L:Str->Hp->Prop)(t:WS):TS:=λD l H=>∃ g k i E,dA K g k l H i/\t E k /\ (∀ e b c f h,bE g c->dA K c f e b h->E.nx f->D.nx e b) /\ (∀ e b c f h,bE g c->dA K c f e b h->E.bk f->D.bk e b) /\ (∀ e b c f h,bE g c->dA K c f e b h->E.ct f->D.ct e b) /\ (∀ v b c m d j,bE g c->Wf c b->RM K c b m d v j->j.Nodup->(∀ a∈j,c a=none)->E.rt m d->D.rt v b) /\
 ∀ n b,bE g b->E.rt (.ow false) (.str n)->L n b
def pq{K:ay}{L:Str->Hp->Prop}{t:WS}{D:Ends}{q:St}{H:Hp}{G:Prop}(x:BF K L t D q H)(k:∀ g l i E,dA K g l q H i->t E l -> (∀ e b c f j,bE g c->dA K c f e b j->E.nx f->D.nx e b) -> (∀ e b c f j,bE g c->dA K c f e b j->E.bk f->D.bk e b) -> (∀ e b c f j,bE g c->dA K c f e b j->E.ct f->D.ct e b) -> (∀ v b c m d p,bE g c->Wf c b->RM K c b m d v p->p.Nodup->(∀ a∈p,c a=none)->E.rt m d->D.rt v b) -> (∀ n b,bE g b->E.rt (.ow false) (.str n)->L n b)->G):G :=
 by
 obtain⟨g,l,i,E,r,h,z,y,w,u,s⟩:=x;exact k g l i E r h z y w u s
def bN{K:ay}{L:Str->Hp->Prop}{t:WS}{D:Ends}{p:St}{H:Hp}{G:Prop}(x:BF K L t D p H)(k:∀ i l g E,dA K i l p H g->t E l -> (∀ e c b f j,bE i b->dA K b f e c j->E.nx f->D.nx e c) -> (∀ e c b f j,bE i b->dA K b f e c j->E.bk f->D.bk e c) -> (∀ e c b f j,bE i b->dA K b f e c j->E.ct f->D.ct e c) -> (∀ v c b m d n,bE i b->Wf b c->RM K b c m d v n->n.Nodup->(∀ a∈n,b a=none)->E.rt m d->D.rt v c)->G):G :=
 pq x λi l g E q h w u s r _=>k i l g E q h w u s r
def iF{h g f e:Type _}{A B C:h->g->f->e->Prop}{G:Prop}(x:∃ a b c d,A a b c d/\B a b c d/\C a b c d)(k:∀ a b c d,A a b c d->B a b c d->C a b c d->G):G :=
 by
 obtain⟨a,b,c,d,p,q,r⟩:=x;exact k a b c d p q r
abbrev QE(X:Cx)(K:ay)(e:Expr)(t:WE):Prop:=PE X e (oC K t)
abbrev QT(X:Cx)(K:ay)(e:Expr)(t:WT):Prop:=PT X e (EJ K t)
abbrev QW(X:Cx)(K:ay)(e:Expr)(t:WT):Prop:=PW X e (EJ K t)
abbrev QA(X:Cx)(K:ay)(a:List Expr)(t:WA):Prop:=PA X a (tpA K t)
abbrev QS(X:Cx)(K:ay)(L:Str->Hp->Prop)(a:kf)(t:WS):Prop:=PS X a (BF K L t)
abbrev y8(X:Cx)(K:ay)(L:Str->Hp->Prop)(a:List kf)(t:WS):Prop:=nh X a (BF K L t)
abbrev L0:Str->Hp->Prop:=λ_ _=>True
end L2.Q
namespace L2.Q
structure Kt{α:Type}(f:α->Prop):Type where
def de{b:Type}(a:b){f:b->Prop}(_:Kt f):Prop:=f a
mutual
def D.py:D->PyData
 |.non=>.none
 |.bl b=>.bool b
 |.int i=>.int i
 |.str x=>.str x
 |.list xs=>.list (rq xs)
 |.tup xs=>.tuple (rq xs)
 |.dK _=>.none
 |.dT _=>.none
def rq:List D->List PyData
 |[]=>[]
 |x :: xs=>x.py :: rq xs
end
def fI:Nat->D->Bool
 |_,.non=>true
 |_,.bl _=>true
 |_,.int _=>true
 |_,.str x=>PyData.strOk x
 |n+1,.list a=>a.all (fI n)
 |n+1,.tup a=>a.all (fI n)
 |_,_=>false
def nE(x y:D):Bool:=PyData.eqv x.py y.py
def D.ty:D->String
 |.non => "NoneType"
 |.bl _ => "bool"
 |.int _ => "int"
 |.str _ => "str"
 |.list _ => "list"
 |.tup _ => "tuple"
 |.dK _ => "dict"
 |.dT _ => "dict"
def D.key1:D->Option Key
 |.int i=>some (.inl i)
 |.str x=>some (.inr x)
 |_=>none
def fG:List D->Option (List Key)
 |[]=>some []
 |x :: a=>match x.key1,fG a with
  |some k,some b=>some (k :: b)
  |_,_=>none
section
variable {a:Type}[DecidableEq a]{b:Type}
def gL(d:List (a × b))(k:a):Option b:=(d.find? λc=>decide (c.1=k)).map (·.2)
def vk(d:List (a × b))(k:a)(v:b):List (a × b) :=
 if (d.any λc=>decide (c.1=k))=true then d.map (λc=>if c.1=k then (c.1,v) else c) else d++[(k,v)]
end
def Rep.l22{K:ay}:(∀ {d} {v},Rep K H d v->∀ n,fI n d=true->L2.Rep K H d.py v)/\∀ {c} {e},b9 K H c e->∀ n,(∀ d∈c,fI n d=true)->L2.b9 K H (rq c) e :=
 Rep.ind (λ_ _=>.none) (λb _ _=>.bool b) (λi _ _=>.int i) (λ_ _ _ _=>.str _) (λ_ _ _ _ h _ a n o=>by
   cases n with
   |zero=>simp[fI] at o
   |succ n=>exact .list h (a n (by simpa[fI] using o)))
  (λ_ _ _ _ h _ a n o=>by
   cases n with
   |zero=>simp[fI] at o
   |succ n=>exact .tuple (.inl (.inl h)) (a n (by simpa[fI] using o)))
  (λ_ _ _ _ _ _ _ n o=>by cases n<;>simp[fI] at o) (λ_ _ _ _ _ _ _ n o=>by cases n<;>simp[fI] at o) (λ_ _=>.nil)
  λ_ _ _ _ _ _ g f n o=>.cons (g n (o _ eK)) (f n λd m=>o d (eI _ m))
def Rep.l2{K:ay}(r:Rep K H d v)(o:fI n d=true):L2.Rep K H d.py v:=Rep.l22.1 r n o
def yQ(c:∀ d,fI n d=true->d.py.canLay0=true/\d.py.depth<=n)(a:List D)(h:∀ x∈a,fI n x=true):PyData.canLayAll0 (rq a)=true/\PyData.depthAll (rq a)<=n:=by
 induction a with
 |nil=>exact⟨rfl,gy _⟩
 |cons x a b =>have g:=c x (h x eK);have f:=b λy e=>h y (eI _ e);simp only[rq,PyData.canLayAll0,PyData.depthAll,g.1,f.1,Bool.and_self,true_and];lia
def jR(n:Nat):∀ d,fI n d=true->d.py.canLay0=true/\d.py.depth<=n:=by
 have b:∀ n x,fI n (.str x)=true->(D.str x).py.canLay0=true/\(D.str x).py.depth<=n:=λn x h=>by
  have h:PyData.strOk x=true:=by cases n<;>simpa[fI] using h
  exact⟨by simpa[D.py,PyData.canLay0] using h,gy _⟩
 induction n with
 |zero =>
  intro d h
  cases d with
  |str x=>exact b _ x h
  |non=>exact⟨rfl,gy _⟩
  |bl _=>exact⟨rfl,gy _⟩
  |int _=>exact⟨rfl,gy _⟩
  |_=>simp[fI] at h
 |succ n c =>
  intro d h
  cases d with
  |str x=>exact b _ x h
  |non=>exact⟨rfl,gy _⟩
  |bl _=>exact⟨rfl,gy _⟩
  |int _=>exact⟨rfl,gy _⟩
  |list a =>
   have h:∀ x∈a,fI n x=true:=by simpa[fI] using h
   have:=yQ c a h;simp only[D.py,PyData.canLay0,PyData.depth];exact⟨this.1,by lia⟩
  |tup a =>
   have h:∀ x∈a,fI n x=true:=by simpa[fI] using h
   have:=yQ c a h;simp only[D.py,PyData.canLay0,PyData.depth];exact⟨this.1,by lia⟩
  |dK _=>simp[fI] at h
  |dT _=>simp[fI] at h
mutual
def D.nb:D->Bool
 |.bl _=>false
 |.list xs=>sv xs
 |.tup xs=>sv xs
 |.dK _=>false
 |.dT _=>false
 |_=>true
def sv:List D->Bool
 |[]=>true
 |x :: xs=>x.nb && sv xs
end
mutual
theorem lZ:∀ x y,x.nb=true->y.nb=true->(nE x y=true↔x=y)
 |.non,y,_,hy=>by cases y<;>simp_all [nE,D.py,PyData.eqv,D.nb]
 |.bl _,y,hx,_=>by simp[D.nb] at hx
 |.int i,y,_,hy=>by cases y<;>simp_all [nE,D.py,PyData.eqv,D.nb]
 |.str i,y,_,hy=>by cases y<;>simp_all [nE,D.py,PyData.eqv,D.nb]
 |.dK _,y,hx,_=>by simp[D.nb] at hx
 |.dT _,y,hx,_=>by simp[D.nb] at hx
 |.list xs,y,hx,hy=>by
  cases y with
  |list ys =>have:=qI xs ys (by simpa[D.nb] using hx) (by simpa[D.nb] using hy);simp only[nE,D.py,PyData.eqv,D.list.injEq];exact this
  |_=>simp_all [nE,D.py,PyData.eqv,D.nb]
 |.tup xs,y,hx,hy=>by
  cases y with
  |tup ys =>have:=qI xs ys (by simpa[D.nb] using hx) (by simpa[D.nb] using hy);simp only[nE,D.py,PyData.eqv,D.tup.injEq];exact this
  |_=>simp_all [nE,D.py,PyData.eqv,D.nb]
theorem qI:∀ xs ys,sv xs=true->sv ys=true->(PyData.eqvAll (rq xs) (rq ys)=true↔xs=ys)
 |[],[],_,_=>by simp[rq,PyData.eqvAll]
 |[],_ :: _,_,_=>by simp[rq,PyData.eqvAll]
 |_ :: _,[],_,_=>by simp[rq,PyData.eqvAll]
 |x :: xs,y :: ys,hx,hy=>by simp only[sv,mn] at hx hy;have h1:=lZ x y hx.1 hy.1;have h2:=qI xs ys hx.2 hy.2;simp only[rq,PyData.eqvAll,mn,List.cons.injEq];exact and_congr h1 h2
end
section
variable {K:ay}{H:Hp}
def Rep.key(r:Rep K H d v)(h:d.key1=some k):v=kV k:=by cases r<;>simp[D.key1] at h<;>subst h<;>rfl
def b9.keys(r:b9 K H b o)(h:fG b=some C):o=C.map kV:=by
 induction b generalizing o C with
 |nil=>simp[fG] at h;subst h;exact r.n0
 |cons d b f =>
  obtain⟨u,g,rfl,r,e⟩:=r.c;unfold fG at h
  cases a:d.key1 with
  |none=>rw[a] at h;simp at h
  |some k =>
   cases c:fG b with
   |none=>rw[a,c] at h;simp at h
   |some i =>rw[a,c] at h;simp at h;subst h;rw[eR,r.key a,f e c]
def Rep.w_(r:Rep K H (.tup C) v)(h:fG C=some o):∃ b,v=.ref b/\H b=some (.tup (o.map kV)):=by
 cases r with
 |tup _ e a=>exact⟨_,rfl,by rw[e,a.keys h]⟩
end
section
variable {a:Type}[DecidableEq a]{K:ay}{H:Hp}
def zip_get{k:a}{b:List (a × D)}{c:List V}(h:b9 K H (b.map (·.2)) c):match gL b k with
  |some d=>∃ v,gV ((b.map (·.1)).zip c) k=some v/\Rep K H d v
  |none=>gV ((b.map (·.1)).zip c) k=none:=by
 induction b generalizing c with
 |nil=>rfl
 |cons p b i =>
  obtain⟨u,j,rfl,r,g⟩:=b9.c h;by_cases e:p.1=k
  ·have f:gL (p :: b) k=some p.2:=by simp[gL,e]
   rw[f];exact⟨_,by simp only[eR,TY];exact Au e,r⟩
  ·have f:gL (p :: b) k=gL b k:=by simp[gL,e]
   rw[f];have:=i g;simp only[eR,TY,AA (p:=(p.1,_)) e];exact this
def Hr{k:a}{c:List (a × D)}{b:List V}(h:c.length=b.length):((c.map (·.1)).zip b).any (λd=>decide (d.1=k))=c.any λd=>decide (d.1=k):=by
 induction c generalizing b with
 |nil=>rfl
 |cons p c e =>
  cases b with
  |nil=>simp at h
  |cons v b =>simp only[eR,TY,Fs];rw[e (by simpa using h)]
end
section
variable {K:ay}{b H:Hp}
def NW(w:Wf b H)(d:H p=none)(f:∀ c,o≠.tup c):gd b H b (upd H p o) :=
 ⟨(bE.refl H).upd d,bE.refl _,⟨w.sub.upd d,λa c e=>by
  by_cases h:a=p
  ·subst h;rw[eT] at e;exact absurd (Option.some.inj e) (f c)
  ·rw[dr h] at e;exact w.kU a c e⟩,λ_ h=>.inl h⟩
def Zh(w:Wf b H)(c:H p=none):gd b H (upd b p (.tup vs)) (upd H p (.tup vs)) :=
 ⟨(bE.refl H).upd c,(bE.refl b).upd (w.sub.free c),⟨λa o e=>by
  by_cases h:a=p
  ·subst h;rw[eT] at e ⊢;exact e
  ·rw[dr h] at e ⊢;exact w.sub a o e,λa vs e=>by
  by_cases h:a=p
  ·subst h;rw[eT] at e ⊢;exact e
  ·rw[dr h] at e ⊢;exact w.kU a vs e⟩,λa h=>by
  by_cases e:a=p
  ·subst e;exact .inr c
  ·rw[dr e] at h;exact .inl h⟩
def cR.nil:cR b H []:=⟨oo,λa h=>nomatch h⟩
def cR.of(s:bE H o)(f:cR b o C):cR b H C:=⟨f.1,λa h=>⟨(f.2 a h).1,s.free (f.2 a h).2⟩⟩
abbrev Fin(K:ay)(b H:Hp)(g:Md->D->Prop)(f:VK):Prop:=∀ v c a m d e,gd b H a c->RM K a c m d v e->cR a H e->g m d->f v c
def Fin.after(f:Fin K b H I C)(g:gd b H o U):Fin K o U I C:=λv h e m d i a r c q=>f v h e m d i (g.trans a) r (c.of g.all) q
def Fin.sh(f:Fin K b H C o)(w:Wf b H)(r:Rep K b d v)(q:C .sh d):o v H:=f v H b .sh d [] (gd.refl w) ⟨rfl,r⟩ cR.nil q
def Fin.flat(f:Fin K b H C o)(w:Wf b H)(r:Rep K H d v)(a:d.flat=true)(q:C .sh d):o v H:=f.sh w (r.fY w.kU a) q
def Fin.bo(f:Fin K b H C o)(w:Wf b H)(r:Rep K H d v)(q:C .bo d):o v H:=f v H b .bo d [] (gd.refl w) ⟨rfl,r⟩ cR.nil q
def xa(m:Md)(d:D):Md:=match m with
 |.sh=>.sh
 |_=>bif d.flat then .sh else .bo
def Fin.xa(f:Fin K b H I C)(w:Wf b H)(r:Rep K H d v)(c:m=.sh->Rep K b d v)(q:I (xa m d) d):C v H:=by
 have o:I (bif d.flat then .sh else .bo) d->C v H:=λq=>by
  cases a:d.flat with
  |true=>exact f.flat w r a (by simpa[a] using q)
  |false=>exact f.bo w r (by simpa[a] using q)
 cases m with
 |sh=>exact f.sh w (c rfl) q
 |_=>exact o q
def Fin.lst(f:Fin K b H U I)(w:Wf b H)(e:o.length<=bG)(r:b9 K H o C)(d:eh o=true)(q:U (.ow true) (.list o)):∀ p,H p=none->I (.ref p) (upd H p (.lst C)):=λp c =>
 f _ _ b (.ow true) (.list o) [p] (NW w c λ_ z=>nomatch z) ⟨.list (by rw[<- r.length];exact e) eT ((r.fY w.kU d).owned d),by simp⟩ ⟨by simp,λa h=>by
  obtain rfl:a=p:=by simpa using h
  exact⟨w.sub.free c,c⟩⟩ q
def Fin.Zi(f:Fin K b H U I)(w:Wf b H)(d:o.length<=bG)(r:b9 K b o C)(q:U (.ow false) (.list o)):∀ p,H p=none->I (.ref p) (upd H p (.lst C)):=λp c =>
 f _ _ b (.ow false) (.list o) [p] (NW w c λ_ z=>nomatch z) ⟨.list (by rw[<- r.length];exact d) eT r.MT,by simp⟩ ⟨by simp,λa h=>by
  obtain rfl:a=p:=by simpa using h
  exact⟨w.sub.free c,c⟩⟩ q
def Fin.tup(f:Fin K b H I C)(w:Wf b H)(c:o.length<=bG)(r:b9 K H o vs)(d:eh o=true)(q:I .sh (.tup o)):∀ p,H p=none->C (.ref p) (upd H p (.tup vs)):=λp a =>
 f _ _ (upd b p (.tup vs)) .sh (.tup o) [] (Zh w a) ⟨rfl,.tup (by rw[<- r.length];exact c) eT ((r.fY w.kU d).same ((bE.refl b).upd (w.sub.free a)))⟩ cR.nil q
end
section
variable {X:Cx}{K:ay}
def PE.imp(h:PE X e o)(i:∀ a H Q,C a H Q->o a H Q):PE X e C:=λb s a H Q I q=>h b s a H Q I (i a H Q q)
def PT.imp(h:PT X e o)(i:∀ a H Q,C a H Q->o a H Q):PT X e C:=λb s a H Q I q=>h b s a H Q I (i a H Q q)
def PW.imp(h:PW X e o)(i:∀ a H Q,C a H Q->o a H Q):PW X e C:=λc b s a H Q I q=>h c b s a H Q I (i a H Q q)
def PA.imp(h:PA X e o)(i:∀ a H Q,C a H Q->o a H Q):PA X e C:=λp b s a H Q I q=>h p b s a H Q I (i a H Q q)
def Zj:Option (Option Sl)->(Md->D->Prop)->Prop
 |some (some (.sh d)),Q=>Q .sh d
 |some (some (.ow _ d)),Q=>Q .bo d
 |_,_=>False
def ag(i:Nat):WE:=λa Q=>Zj a[i]? Q
def Nz(h:PE X e (kr i)):QE X K e (ag i):=by
 refine PE.imp h λm H q l=>iF l λs g j Q b h f=>?_;unfold ag at h
 cases e:g[i]? with
 |none=>rw[e] at h;exact h.elim
 |some o =>
  cases o with
  |none=>rw[e] at h;exact h.elim
  |some k =>
   obtain⟨v,c,r⟩:=b.sr.get e;rw[e] at h
   cases k with
   |sh d=>exact⟨v,c,Fin.sh f b.wf r h⟩
   |xc a=>exact h.elim
   |ob a p=>exact h.elim
   |ow n d =>obtain⟨t,_,r,_⟩:=r;exact⟨v,c,Fin.bo f b.wf (r.rep b.wf.sub λ_ _=>rfl) h⟩
def qv(i:Nat)(d:autoParam (X.N[i]? = some x) bv)(b:V6 X.env.scope x:=by first|exact Or.inl rfl|exact Or.inr (Or.inl rfl)|exact Or.inr (Or.inr rfl))(c:autoParam (dw x) tw) (a:autoParam ((x == ("__classdict__" : Str))=false) tw):QE X K (.Name x o) (ag i):=Nz (Uo d b c a)
def wC(d:D):WE:=λ_ Q=>Q .sh d
def xZ(h:PE X e (tC v))(r:∀ H,Rep K H d v):QE X K e (wC d) :=
 PE.imp h λg H j c=>iF c λk i a Q b h f=>Fin.sh f b.wf (r _) h
def ao{i j a}:QE X K (.Constant (.int i) j a) (wC (.int i)):=xZ hW' λ_=>.int i
def aJ{i j a}(h:autoParam (i.length<=bG) tw):QE X K (.Constant (.str i) j a) (wC (.str i)):=xZ hZ' λ_=>.str h
def vn{i j a}:QE X K (.Constant (.bool i) j a) (wC (.bl i)):=xZ hX' λ_=>.bl i
def DQ{j a}:QE X K (.Constant .none j a) (wC .non):=xZ hY' λ_=>.non
def fx'(h:W7 X.mg x z)(b:autoParam (Gl X x) bv)(c:autoParam (dw x) tw)(a:autoParam (z.length<=bG) tw):QE X K (.Name x o) (wC (.str z)):=xZ (Om h b c) λ_=>.str a
def UR(h:SQ X.mg x i)(a:autoParam (Gl X x) bv)(b:autoParam (dw x) tw):QE X K (.Name x o) (wC (.int i)):=xZ (O3 h a b) λ_=>.int i
abbrev W2:=Md->D->Md->D->(Md->D->Prop)->Prop
abbrev W1:=Md->D->(Md->D->Prop)->Prop
def kX(K:ay)(r:R2)(f:W2):Prop:=∀ a H m x v e n y u d c b,Wf a H->RM K a H m x v e->RM K a H n y u d->f m x n y c->Fin K a H c b->r v u H b
def Br1(K:ay)(r:V->Hp->VK->Prop)(f:W1):Prop:=∀ a H m x v d c b,Wf a H->RM K a H m x v d->f m x c->Fin K a H c b->r v H b
def av(f:W2)(c b:WE):WE:=λa Q=>c a λm x=>b a λn y=>f m x n y Q
def dy(f:W1)(b:WE):WE:=λa Q=>b a λm x=>f m x Q
variable {a b:Expr}{c d i:WE}{e:Pos}
def lg(D:kX K r f)(p:St)(H:Hp)(l:VK)(h:oC K (av f c d) p H l):MB r (oC K c) (oC K d) p H l:=by obtain⟨G,q,g,Q,s,h,k⟩:=h;exact⟨G,q,g,_,s,h,λv P E m x M t z O B=>⟨E,q,g,_,s.grow t,B,λu J F n y L j w N A=>D F J m x v M n y u L Q l j.wf (z.grow j) w A (Fin.after k (t.trans j))⟩⟩
def S5(g:eJ X (qS o) r)(k:kX K r f)(j:QE X K a c)(h:QE X K b d):QE X K (.BinOp a o b e) (av f c d):=PE.imp (dx' g j h) (lg k)
def mM'(t:Wm X (unaryOp o) r)(w:Br1 K r f)(u:QE X K a c):QE X K (.UnaryOp o a e) (dy f c):=by exact PE.imp (ja' t u) λE H z s=>iF s λA l g Q n h j=>⟨A,l,g,_,n,h,λv B y m x D k p F q=>w y B m x v D Q z k.wf p q (Fin.after j k)⟩
def fO(g:eJ X (iX o) r)(l:kX K r f)(k:QE X K a c)(j:QE X K b d)(h:HG o b=false:=by first|exact dE' _|rfl):QE X K (.Compare a [o] [b] e) (av f c d):=PE.imp (jt' g k j h) (lg l)
def wB(t:WE):WT:=λf Q=>t f λ_ x=>match x with
 |.bl b=>Q b
 |_=>False
def CN(j:St)(H:Hp)(n:Bool->Hp->Prop)(h:EJ K (wB t) j H n):aG' (oC K t) j H n:=by
 obtain⟨w,p,f,Q,q,h,g⟩:=h;refine⟨w,p,f,_,q,h,λv y u m x A l s z k=>?_⟩;have r:=s.rep l.wf
 cases r with
 |bl b=>exact⟨b,rfl,g b y u l k⟩
 |_=>exact k.elim
def aA(t:eJ X (iX o) r)(z:kX K r f)(y:QE X K a c)(w:QE X K b d)(u:HG o b=false:=by first|exact dE' _|rfl):QT X K (.Compare a [o] [b] e) (wB (av f c d)):=by
 refine PT.imp (ju' t y w u) λn H F h=>?_;obtain⟨B,p,g,Q,q,h,j⟩:=h;refine lg z n H _ ⟨B,p,g,_,q,h,λv D A m x G l s E k=>?_⟩;have r:=s.rep l.wf
 cases r with
 |bl b=>exact⟨b,rfl,j b D A l k⟩
 |_=>exact k.elim
def cU(h:QE X K a t)(g:autoParam (∀ f,isTrue a X.env f=(do let v <- f;standAt a.pos;holding [v] (truthy v))) vw):QT X K a (wB t):=PT.imp (ig' h g) CN
def jf(f g:W2)(c d i:WE):WE:=λh Q=>c h λm x=>d h λn y=>f m x n y λ_ z=>match z with
 |.bl k=>if k=true then i h λl w=>g n y l w Q else Q .sh (.bl false)
 |_=>False
end
section
variable {X:Cx}{K:ay}{a b c:Expr}{j o p:WE}{d:Pos}
def oK(Z:kX K r f)(UT:kX K C g)(J:St)(H:Hp)(s:VK)(h:oC K (jf f g j o p) J H s):aH' r C (oC K j) (oC K o) (oC K p) J H s:=by
 obtain⟨Hs,t,e,Q,A,h,F⟩:=h;refine⟨Hs,t,e,_,A,h,λv H1 I m x As E T f1 Y=>⟨I,t,e,_,A.grow E,Y,λu H2 U n y O q L f2 W=>?_⟩⟩;refine Z U H2 m x v As n y u O _ _ q.wf (T.grow q) L W λz H3 M m3 d3 ab i S f3 B=>?_;have P:=S.rep i.wf
 cases P with
 |bl k =>
  refine⟨k,rfl,?_⟩;have N:Fin K M H3 Q s:=Fin.after F ((E.trans q).trans i)
  cases k with
  |false=>exact N.sh i.wf (.bl false) B
  |true =>exact⟨M,t,e,_,((A.grow E).grow q).grow i,B,λw H4 AI l z G D R f4 V=>UT AI H4 n y u O l z w G Q s D.wf ((L.grow i).grow D) R V (Fin.after N D)⟩
 |_=>exact B.elim
def Jo(h:eJ X (iX I) r)(e:eJ X (iX C) U)(n:kX K r f)(q:kX K U g)(m:QE X K a j)(l:QE X K b o)(k:QE X K c p)(i:lastMarks [I,C] [b,c]=false:=by with_unfolding_all rfl):QE X K (.Compare a [I,C] [b,c] d) (jf f g j o p):=PE.imp (jv' h e m l k i) (oK n q)
def k_(w:eJ X (iX I) r)(u:eJ X (iX C) U)(D:kX K r f)(F:kX K U g)(B:QE X K a j)(A:QE X K b o)(z:QE X K c p)(y:lastMarks [I,C] [b,c]=false:=by with_unfolding_all rfl):QT X K (.Compare a [I,C] [b,c] d) (wB (jf f g j o p)):=by
 refine PT.imp (jw' w u B A z y) λn H M h=>?_;obtain⟨G,q,e,Q,s,h,i⟩:=h;refine oK D F n H _ ⟨G,q,e,_,s,h,λv J E m x N l t L k=>?_⟩;have r:=t.rep l.wf
 cases r with
 |bl b=>exact⟨b,rfl,i b J E l k⟩
 |_=>exact k.elim
def bL'(t u:WT):WT:=λe Q=>t e λc=>if c=true then u e Q else Q false
def oI(t u:WT):WT:=λe Q=>t e λc=>if c=true then Q true else u e Q
def nI(t:WT):WT:=λe Q=>t e λc=>Q (!c)
variable {g k:WT}{e:List Expr}
def qD{t u:WT}{f:Bool->TT}{q:St}{H:Hp}{s:Bool->Hp->Prop}{G:Bool->(Bool->Prop)->Env->Prop}(h:EJ K (λm Q=>t m λc=>G c Q m) q H s)(i:∀ c n r m l Q,dA K r m q n l->G c Q m->(∀ b v x,gd r n x v->Q b->s b v)->f c q n s):EJ K t q H λc n=>f c q n s:=by
 obtain⟨D,m,l,Q,y,h,w⟩:=h;exact⟨D,m,l,_,y,h,λc n r z A=>i c n r m l Q (y.grow z) A λb v x B=>w b v x (z.trans B)⟩
def Jz(f:QT X K a g):QW X K (.BoolOp .And [a] d) g:=pw_and1 f
def cM(f:QT X K a g):QW X K (.BoolOp .Or [a] d) g:=pw_or1 f
def Ld(w:QT X K a g)(v:QW X K (.BoolOp .And (b :: e) d) k):QW X K (.BoolOp .And (a :: b :: e) d) (bL' g k):=by
 refine PW.imp (pw_and w v) λn H x h=>?_;refine qD (u:=k) (f:=λc n l Q=>if c=true then EJ K k n l Q else Q false l) h λc l s t m Q r q i=>?_
 cases c with
 |true=>exact⟨s,t,m,Q,r,q,i⟩
 |false=>exact i false l s (gd.refl r.wf) q
def dW(w:QT X K a g)(v:QW X K (.BoolOp .Or (b :: e) d) k):QW X K (.BoolOp .Or (a :: b :: e) d) (oI g k):=by
 refine PW.imp (pw_or w v) λn H x h=>?_;refine qD (u:=k) (f:=λc n l Q=>if c=true then Q true l else EJ K k n l Q) h λc l s t m Q r q i=>?_
 cases c with
 |true=>exact i true l s (gd.refl r.wf) q
 |false=>exact⟨s,t,m,Q,r,q,i⟩
def tj(h:QW X K a g):QT X K a g:=h _
def bL(s:QT X K a g):QT X K (.UnaryOp .Not a d) (nI g):=by exact PT.imp (ik' s) λm H w h=>qD (u:=g) (f:=λc m l Q=>Q (!c) l) h λc l t v n Q r q i=>i _ l t (gd.refl r.wf) q
def fJ(j o:WE):WE:=λf Q=>j f λ_ x=>match x with
 |.bl c=>if c=true then o f Q else Q .sh (.bl false)
 |_=>False
def UU(j o:WE):WE:=λf Q=>j f λ_ x=>match x with
 |.bl c=>if c=true then Q .sh (.bl true) else o f Q
 |_=>False
def xm(j:WE):WE:=λf Q=>j f λ_ x=>match x with
 |.bl c=>Q .sh (.bl (!c))
 |_=>False
def j9{f}(h:QE X K a j):QE X K (.BoolOp f [a] d) j:=ip' h
def iH(y:QE X K a j)(w:QE X K (.BoolOp .And (b :: e) d) o):QE X K (.BoolOp .And (a :: b :: e) d) (fJ j o):=by
 refine PE.imp (iq' y w) λB H E u=>iF u λA q f Q s h l=>?_;refine⟨A,q,f,_,s,h,λv F z m x G i t D n=>?_⟩;have r:=t.rep i.wf
 cases r with
 |bl c =>
  refine⟨c,rfl,?_⟩
  cases c with
  |true=>exact⟨z,q,f,Q,s.grow i,n,Fin.after l i⟩
  |false=>exact Fin.sh (Fin.after l i) i.wf (.bl false) n
 |_=>exact n.elim
def fy'(y:QE X K a j)(w:QE X K (.BoolOp .Or (b :: e) d) o):QE X K (.BoolOp .Or (a :: b :: e) d) (UU j o):=by
 refine PE.imp (ir' y w) λB H E u=>iF u λA q f Q s h l=>?_;refine⟨A,q,f,_,s,h,λv F z m x G i t D n=>?_⟩;have r:=t.rep i.wf
 cases r with
 |bl c =>
  refine⟨c,rfl,?_⟩
  cases c with
  |true=>exact Fin.sh (Fin.after l i) i.wf (.bl true) n
  |false=>exact⟨z,q,f,Q,s.grow i,n,Fin.after l i⟩
 |_=>exact n.elim
def Hu(w:QE X K a j):QE X K (.UnaryOp .Not a d) (xm j):=by
 refine PE.imp (is' w) λz H D u=>iF u λy q f Q s h l=>?_;refine⟨y,q,f,_,s,h,λv E B m x F i t A n=>?_⟩;have r:=t.rep i.wf
 cases r with
 |bl c=>exact⟨c,rfl,Fin.sh (Fin.after l i) i.wf (.bl _) n⟩
 |_=>exact n.elim
def Zk:D->Option Bool
 |.non=>some false
 |.bl b=>some b
 |.int i=>some (i != 0)
 |.str x=>some ((x.length:Int) != 0)
 |.list f=>some !f.isEmpty
 |.tup f=>some !f.isEmpty
 |.dK h=>none
 |.dT h=>none
def EK(t:WE):WT:=λf Q=>t f λ_ x=>∃ b,Zk x=some b/\Q b
end
def ip:W2:=λm x n y Q=>match x,y with
 |.int i,.int j=>Q .sh (.int (i+j))
 |.str i,.str j=>i.length+j.length<=bG/\Q .sh (.str (i++j))
 |.list a,.list b=>a.length+b.length<=bG/\((eh a=true/\eh b=true/\Q (.ow true) (.list (a++b)))\/(m=.sh/\n=.sh/\Q (.ow false) (.list (a++b))))
 |.tup a,.tup b=>a≠[]/\a.length+b.length<=bG/\eh a=true/\eh b=true/\Q .sh (.tup (a++b))
 |_,_=>False
def S6(P:Int->Int->(Md->D->Prop)->Prop):W2:=λ_ x _ y Q=>match x,y with
 |.int i,.int j=>P i j Q
 |_,_=>False
def is2(P:Int->Int->(Md->D->Prop)->Prop)(S:Str->Str->(Md->D->Prop)->Prop):W2:=λ_ x _ y Q=>match x,y with
 |.int i,.int j=>P i j Q
 |.str i,.str j=>S i j Q
 |_,_=>False
def UW:W2:=S6 λi j Q=>Q .sh (.int (i-j))
def CC:W2:=S6 λi j Q=>Sf i j/\Q .sh (.int (i*j))
def AJ:W2:=S6 λi j Q=>(0<j/\j<1073741824)/\Q .sh (.int (i / j))
def mw:W2:=S6 λi j Q=>0<j/\Q .sh (.int (i % j))
def AK:W2:=is2 (λi j Q=>Q .sh (.bl (decide (i<j)))) λi j Q=>Q .sh (.bl (yi i j))
def CD:W2:=is2 (λi j Q=>Q .sh (.bl (decide (i<=j)))) λi j Q=>Q .sh (.bl (!yi j i))
def Kb:W2:=S6 λi j Q=>Q .sh (.bl (decide (j<i)))
def fP:W2:=λ_ x _ y Q=>match x,y with
 |.int i,.int j=>Q .sh (.bl (decide (i=j)))
 |.str i,.str j=>Q .sh (.bl (decide (i=j)))
 |.bl i,.bl j=>Q .sh (.bl (decide (i=j)))
 |_,_=>fI 12 x=true/\fI 12 y=true/\Q .sh (.bl (nE x y))
def BG:W2:=λ_ x _ y Q=>match x,y with
 |.int i,.int j=>Q .sh (.bl (!decide (i=j)))
 |.str i,.str j=>Q .sh (.bl (!decide (i=j)))
 |.bl i,.bl j=>Q .sh (.bl (!decide (i=j)))
 |_,_=>fI 12 x=true/\fI 12 y=true/\Q .sh (.bl (!nE x y))
def D.Zm:D->Bool
 |.non=>true
 |_=>false
def bN':W2:=λ_ x _ y Q=>match y with
 |.non=>Q .sh (.bl x.Zm)
 |_=>False
def iG:D->Bool
 |.non=>true
 |.bl _=>true
 |.int _=>true
 |.str _=>true
 |_=>false
def inD(x:D)(a:List D):Bool:=a.any λy=>nE y x
def y9(a:Bool):W2:=λ_ x _ y Q=>match y with
 |.str j=>match x with
  |.str i=>Q .sh (.bl (if a then !EF i j else EF i j))
  |_=>False
 |.list b=>iG x=true/\b.all iG=true/\Q .sh (.bl (if a then !inD x b else inD x b))
 |.tup b=>iG x=true/\b.all iG=true/\Q .sh (.bl (if a then !inD x b else inD x b))
 |.dK c=>∃ k,x.key1=some k/\Q .sh (.bl (if a then !(gL c k).isSome else (gL c k).isSome))
 |.dT c=>match x with
  |.tup e=>∃ d,fG e=some d/\Q .sh (.bl (if a then !(gL c d).isSome else (gL c d).isSome))
  |_=>False
 |_=>False
section
variable {K:ay}
def Ad(f:Fin K I H C o)(w:Wf I H)(h:x.length<=bG)(q:C .sh (.str x)):o (.str x) H:=f.sh w (.str h) q
def aL(i j:Str):(i++j).length=i.length+j.length:=by show(i.cps++j.cps).size=_;simp[Str.length]
def FQ:kX K (λx y H Q=>Dz K x y H Q\/aP' K x y H Q) ip:=by
 intro X H m x v Z n y u Y W V w k g h f;have M:=k.rep w;have l:=g.rep w
 cases M with
 |int i=>cases l with
  |int j=>exact .inl (f.sh w (.int _) h)
  |_=>exact h.elim
 |str T=>cases l with
  |str S=>exact .inl ⟨h.1,Ad f w (by rw[aL];exact h.1) h.2⟩
  |_=>exact h.elim
 |list P d b=>cases l with
  |list O t a =>
   have A:=b.length;have E:=a.length;have p:=h.1;rcases h.2 with⟨r,B,q⟩|⟨rfl,rfl,q⟩
   ·exact .inl ⟨_,_,d,t,by lia,f.lst w (by rw[kz];exact p) (b.append a) (by rw[jW,r,B];rfl) q⟩
   ·obtain⟨_,k⟩:=k;obtain⟨_,g⟩:=g
    cases k with
    |list J z F=>cases g with
     |list G s c =>have A:=F.length;have E:=c.length;exact .inl ⟨_,_,bE.seq w.sub z,bE.seq w.sub s,by lia,f.Zi w (by rw[kz];exact p) (F.append c) q⟩
  |_=>exact h.elim
 |tup L d b=>cases l with
  |tup R t a =>
   have A:=b.length;have E:=a.length;obtain⟨N,p,r,B,q⟩:=h;refine .inr ⟨_,_,_,_,rfl,rfl,.inl (.inl d),.inl (.inl t),?_,by lia,?_⟩
   ·intro e;subst e;exact N (PR.mp A)
   ·refine⟨λe=>?_,λ_=>f.tup w (by rw[kz];exact p) (b.append a) (by rw[jW,r,B];rfl) q⟩;subst e;cases a;rw[ng] at q;exact f.flat w (.tup L d b) (by simpa[D.flat] using r) q
  |_=>exact h.elim
 |_=>exact h.elim
def FW{H:Hp}{x y:D}{v u:V}{m n:Md}{P:Int->Int->(Md->D->Prop)->Prop}{S:Str->Str->(Md->D->Prop)->Prop}{Q:Md->D->Prop}{G:Prop}(b:Rep K H x v)(a:Rep K H y u)(h:is2 P S m x n y Q)(k:∀ i j,v=.int i->u=.int j->P i j Q->G)(c:∀ i j,v=.str i->u=.str j->S i j Q->G):G:=by
 cases b with
 |int i=>cases a with
  |int j=>exact k i j rfl rfl h
  |_=>exact h.elim
 |str e=>cases a with
  |str d=>exact c _ _ rfl rfl h
  |_=>exact h.elim
 |_=>exact h.elim
def mO{H:Hp}{x y:D}{v u:V}{m n:Md}{P:Int->Int->(Md->D->Prop)->Prop}{Q:Md->D->Prop}{G:Prop}(b:Rep K H x v)(a:Rep K H y u)(h:S6 P m x n y Q)(k:∀ i j,v=.int i->u=.int j->P i j Q->G):G:=by
 cases b with
 |int i=>cases a with
  |int j=>exact k i j rfl rfl h
  |_=>exact h.elim
 |_=>exact h.elim
def Mp:kX K Hf UW:=by
 intro k H m x v p n y u l g e w b a h f;exact mO (b.rep w) (a.rep w) h λi j d c q=>by subst d c;exact f.sh w (.int _) q
def Kq:kX K Hx CC:=by
 intro k H m x v p n y u l g e w b a h f;exact mO (b.rep w) (a.rep w) h λi j d c q=>by subst d c;exact⟨q.1,f.sh w (.int _) q.2⟩
def Ks:kX K Hy AJ:=by
 intro k H m x v p n y u l g e w b a h f;exact mO (b.rep w) (a.rep w) h λi j d c q=>by subst d c;exact⟨q.1,f.sh w (.int _) q.2⟩
def La:kX K JL mw:=by
 intro k H m x v p n y u l g e w b a h f;exact mO (b.rep w) (a.rep w) h λi j d c q=>by subst d c;exact⟨q.1,f.sh w (.int _) q.2⟩
def xM:kX K bk' Kb:=by
 intro k H m x v p n y u l g e w b a h f;exact mO (b.rep w) (a.rep w) h λi j d c q=>by subst d c;exact f.sh w (.bl _) q
def lC:kX K bi' AK:=by
 intro k H m x v p n y u l g e w d c h f;exact FW (d.rep w) (c.rep w) h (λi j b a q=>by
  subst b a;exact f.sh w (.bl _) q) λi j b a q=>by
  subst b a;exact f.sh w (.bl _) q
def pL:kX K bj' CD:=by
 intro k H m x v p n y u l g e w d c h f;exact FW (d.rep w) (c.rep w) h (λi j b a q=>by
  subst b a;exact f.sh w (.bl _) q) λi j b a q=>by
  subst b a;exact f.sh w (.bl _) q
def eq_data(w:Wf I H)(d:Rep K H x v)(c:Rep K H y u)(f:Fin K I H C o)(h:fI 12 x=true/\fI 12 y=true/\C .sh (.bl (nE x y))):bm' K v u H o:=by obtain⟨b,a,q⟩:=h;have g:=jR 12 x b;have e:=jR 12 y a;exact⟨x.py,y.py,d.l2 b,c.l2 a,g.1,e.1,by lia,f.sh w (.bl _) q⟩
def ne_data(w:Wf I H)(d:Rep K H x v)(c:Rep K H y u)(f:Fin K I H C o)(h:fI 12 x=true/\fI 12 y=true/\C .sh (.bl (!nE x y))):bn' K v u H o:=by obtain⟨b,a,q⟩:=h;have g:=jR 12 x b;have e:=jR 12 y a;exact⟨x.py,y.py,d.l2 b,c.l2 a,g.1,e.1,by lia,f.sh w (.bl _) q⟩
def aX:kX K (W3 K) fP:=by
 intro l H m x v q n y u p k g w e c h f;have b:=e.rep w;have a:=c.rep w;have d:=λh=>eq_data w b a f h
 cases b with
 |int i=>cases a with
  |int j=>exact f.sh w (.bl _) h
  |_=>exact d h
 |str i=>cases a with
  |str j=>exact f.sh w (.bl _) h
  |_=>exact d h
 |bl i=>cases a with
  |bl j=>exact f.sh w (.bl _) h
  |_=>exact d h
 |_=>exact d h
def rA:kX K (W4 K) BG:=by
 intro l H m x v q n y u p k g w e c h f;have b:=e.rep w;have a:=c.rep w;have d:=λh=>ne_data w b a f h
 cases b with
 |int i=>cases a with
  |int j=>exact f.sh w (.bl _) h
  |_=>exact d h
 |str i=>cases a with
  |str j=>exact f.sh w (.bl _) h
  |_=>exact d h
 |bl i=>cases a with
  |bl j=>exact f.sh w (.bl _) h
  |_=>exact d h
 |_=>exact d h
def Jd(r:Rep K H x v):decide (v=V.non)=x.Zm:=by cases r<;>first|rfl|exact decide_eq_false (λz=>nomatch z)
def Kf:kX K (λx y H Q=>y=.non/\Q (.bl (decide (x=.non))) H) bN':=by
 intro j H m x v l n y u k i g w b a h f;have d:=b.rep w;have c:=a.rep w;have e:=Jd d
 cases c with
 |non=>exact⟨rfl,by rw[e];exact f.sh w (.bl _) h⟩
 |_=>exact h.elim
def mY(r:Rep K H x v)(h:iG x=true):EA v=true:=by cases r<;>first|rfl|(simp[iG] at h)
def JH(r:Rep K H x v)(s:Rep K H y u)(h:iG x=true)(g:iG y=true):FK v u=nE x y:=by cases r<;>simp[iG] at h<;>cases s<;>simp[iG] at g<;>rfl
def Lk(r:Rep K H x v)(h:iG x=true)(c:b9 K H a b)(g:a.all iG=true):b.all EA=true/\Wy v b=inD x a:=by
 induction a generalizing b with
 |nil=>rw[c.n0];exact⟨rfl,rfl⟩
 |cons y a e =>
  obtain⟨u,b,rfl,s,d⟩:=c.c;simp only[D2,mn] at g;obtain⟨i,f⟩:=e d g.2;refine⟨by simp only[D2,mY s g.1,i,Bool.and_self],?_⟩;unfold Wy inD at *
  rw[Fs,Fs,f,JH s r g.1 h]
def rE{a:Type}[DecidableEq a]{H:Hp}{k:a}{b:List (a × D)}{c:List V}(r:b9 K H (b.map (·.2)) c):(gV ((b.map (·.1)).zip c) k).isSome=(gL b k).isSome:=by
 have:=zip_get (k:=k) r;split at this
 ·rename_i e;obtain⟨v,d,_⟩:=this;rw[d,e];rfl
 ·rename_i e;rw[this,e];rfl
def nq:kX K (W8 K o) (y9 o):=by
 intro R H m x v T n y u S Q D w G F h f;have a:=G.rep w;have J:=F.rep w
 cases J with
 |str j=>cases a with
  |str i=>exact f.sh w (.bl _) h
  |_=>exact h.elim
 |list z s q =>
  obtain⟨d,A,c⟩:=h;obtain⟨p,l⟩:=Lk a d q A;have t:=mY a d;have g:Wz K o v (.ref _) H D:=⟨_,_,rfl,.inl s,t,p,by rw[l];exact f.sh w (.bl _) c⟩
  cases a<;>exact .inr g
 |tup _ s q =>
  obtain⟨d,A,c⟩:=h;obtain⟨p,l⟩:=Lk a d q A;have t:=mY a d;have g:Wz K o v (.ref _) H D:=⟨_,_,rfl,.inr (.inl (.inl s)),t,p,by rw[l];exact f.sh w (.bl _) c⟩
  cases a<;>exact .inr g
 |dK N e q =>obtain⟨k,r,c⟩:=h;have O:=a.key r;subst O;have B:=rE (k:=k) q;cases k<;>exact .inl ⟨_,sQ.k' e,by rw[B];exact f.sh w (.bl _) c⟩
 |dT N e q =>
  cases a with
  |tup E p L =>obtain⟨M,r,c⟩:=h;obtain⟨b,P,l⟩:=Rep.w_ (.tup E p L) r;cases P;have B:=rE (k:=M) q;exact .inl ⟨_,sQ.t' e l,by rw[B];exact f.sh w (.bl _) c⟩
  |_=>exact h.elim
 |_=>exact h.elim
end
section
variable {X:Cx}{K:ay}{a b:Expr}{d e:WE}{c:Pos}
def K9(f:autoParam (X.K=K) bv):eJ X (qS .Add) (λx y H Q=>Dz K x y H Q\/aP' K x y H Q):=by subst f;exact Hk.or kt'
def bJ(g:QE X K a d)(f:QE X K b e)(h:autoParam (X.K=K) bv):QE X K (.BinOp a .Add b c) (av ip d e):=S5 (K9 h) FQ g f
def Li(g:QE X K a d)(f:QE X K b e):QE X K (.BinOp a .Sub b c) (av UW d e):=S5 IK Mp g f
def sE(g:QE X K a d)(f:QE X K b e):QE X K (.BinOp a .Mult b c) (av CC d e):=S5 Hb Kq g f
def nJ(g:QE X K a d)(f:QE X K b e):QE X K (.BinOp a .FloorDiv b c) (av AJ d e):=S5 HR Ks g f
def cY(g:QE X K a d)(f:QE X K b e):QE X K (.BinOp a .Mod b c) (av mw d e):=S5 HB La g f
def zh:W1:=λ_ x Q=>match x with
 |.int i=>Q .sh (.int (-i))
 |_=>False
def Mh:Br1 K (rU λi=>.int (-i)) zh:=by
 intro n H m x v p l k w g h f;have j:=g.rep w
 cases j with
 |int i=>exact⟨i,rfl,f.sh w (.int _) h⟩
 |_=>exact h.elim
def mQ(f:QE X K a d):QE X K (.UnaryOp .USub a c) (dy zh d):=mM' ji' Mh f
end
def cv:WA:=λ_ Q=>Q []
def aq(b:WE)(t:WA):WA:=λa Q=>b a λm x=>t a λc=>Q ((m,x) :: c)
def EL:Md × D->Bool
 | (.sh,_)=>true
 | (_,d)=>d.flat
def S8:Md × D->Bool
 | (.bo,d)=>d.flat
 | (.wb ..,d)=>d.flat
 |_=>true
def UX:Md × D->Bool
 | (.ow true,_)=>true
 | (_,d)=>d.flat
def Jq(a:List (Md × D)):Md:=bif a.all EL then .sh else bif a.all S8 then .ow (a.all UX) else .bo
def GQ(a:List (Md × D)):Md:=bif a.all S8 then .ow (a.all UX) else .bo
def kL(t:WA):WE:=λb Q=>t b λa=>a.length<=bG/\Q (Jq a) (.tup (a.map (·.2)))
def kC(t:WA):WE:=λb Q=>t b λa=>a.length<=bG/\Q (GQ a) (.list (a.map (·.2)))
section
variable {X:Cx}{K:ay}{e:Expr}{g:List Expr}{j:WE}{t:WA}{i:Pos}{c H:Hp}
def au:QA X K [] cv:=PA.imp og λk H m d=>iF d λc l a Q b h f=>f [] H c [] [] (gd.refl b.wf) .nil cR.nil h
def cR.app(f:cR aT H U)(o:∀ a∈U,C a≠none)(d:cR I C Bs)(s:bE H C)(k:∀ a,aT a=none->C a≠none->I a=none):cR I H (U++Bs) :=
 ⟨ui.mpr ⟨f.1,d.1,λa m b l e=>by subst e;exact o a m (d.2 a l).2⟩,λa h=>by
  rcases kA.mp h with h|h
  ·exact⟨k a (f.2 a h).1 (o a h),(f.2 a h).2⟩
  ·exact⟨(d.2 a h).1,s.free (d.2 a h).2⟩⟩
def aa(A:QE X K e j)(z:QA X K g t)(y:autoParam (aR X e g) bv):QA X K (e :: g) (aq j t):=by exact PA.imp (lP A z y) λM H O w=>iF w λc l b Q n h f=>⟨c,l,b,_,n,h,λv P G m x S k p F u=>⟨G,l,b,_,n.grow k,u,λq L J N R d r E s=>f (v :: q) L J _ _ (k.trans d) (.cons (p.grow d) r) (F.app (λa h=>(p.own a h).ne) E k.all λa D B=>d.sR D B) s⟩⟩
def EI.sh(w:Wf c H){a:List (Md × D)}(r:EI K c H a b k):a.all EL=true->b9 K c (a.map (·.2)) b:=by
 induction r with
 |nil=>exact λ_=>.nil
 |@cons m d v a b k n r l f =>
  intro h;simp only[D2,mn] at h;refine .cons ?_ (f h.2)
  cases m with
  |sh=>exact r.2
  |_=>exact r.flat w h.1
def EI.ow(w:Wf c H){f:List (Md × D)}(r:EI K c H f n As):f.all S8=true->(o=true->f.all UX=true)->∃ a,a.Sublist As/\(f.all EL=false->a≠[])/\aH K c H o (f.map (·.2)) n a:=by
 induction r with
 |nil=>exact λ_ _=>⟨[],HM _,(λz=>Bool.noConfusion z),.nil⟩
 |@cons m d v f n s A r F B =>
  intro h l;simp only[D2,mn] at h l;obtain⟨a,x,y,q⟩:=B h.2 λz=>(l z).2;have u:([]++a).Sublist (s++A):=by simpa using x.trans (PK _ _)
  have p:d.flat=true->EL (m,d)=true->∃ a,a.Sublist (s++A)/\(((m,d) :: f).all EL=false->a≠[])/\aH K c H o (((m,d) :: f).map (·.2)) (v :: n) a:=λk E =>
   ⟨[]++a,u,λz=>y (by rw[D2,E] at z;simpa using z),.cons (.sh (λ_=>k) (r.flat w k)) q⟩
  cases m with
  |sh=>exact⟨[]++a,u,λz=>y (by simpa[EL] using z),.cons (.sh (λz=>(l z).1) r.2) q⟩
  |bo=>exact p h.1 h.1
  |wb=>exact p h.1 h.1
  |ow b =>
   cases k:d.flat with
   |true=>exact p k k
   |false =>
    refine⟨s++a,x.append_left _,λ_ z=>r.2 (TQ.mp z).1,.cons ?_ q⟩
    cases o with
    |false=>exact df.Zg r.1
    |true =>
     have:=(l rfl).1
     cases b with
     |true=>exact r.1
     |false=>simp[UX,k] at this
theorem uR:∀ {a:List (Md × D)},eh (a.map (·.2))=true->a.all EL=true
 |[],_=>rfl
 | (m,d) :: a,h=>by simp only[eR,eh,mn] at h;simp only[D2,mn];exact⟨by cases m<;>simp[EL,h.1],uR h.2⟩
def bZ{D}(h:QA X K g t):QE X K (.Tuple g D i) (kL t):=by
 refine PE.imp (dM' h) λR H V J=>iF J λc B n Q E h f=>?_;refine⟨c,B,n,_,E,h,λvs W T m Y k s x F=>?_⟩;obtain⟨S,q⟩:=F;have A:=(s.reps k.wf)
 have M:=A.length;rw[cx] at M;refine⟨by lia,λp L=>?_⟩;have b:=Zh (vs:=vs) k.wf L;have l:=Fin.after f k;unfold Jq at q
 cases d:m.all EL with
 |true =>rw[d] at q;exact l _ _ _ .sh _ [] b ⟨rfl,.tup (by lia) eT ((s.sh k.wf d).same b.sh)⟩ cR.nil q
 |false =>
  rw[d] at q
  cases w:m.all S8 with
  |false =>rw[w] at q;exact l _ _ _ .bo _ [] b ⟨rfl,.tup (by lia) eT (A.same b.all)⟩ cR.nil q
  |true =>
   rw[w] at q;obtain⟨P,r,G,y⟩:=s.ow k.wf w λz=>z;have O:eh (m.map (·.2))=false:=by
    cases N:eh (m.map (·.2)) with
    |false=>rfl
    |true=>rw[uR N] at d;cases d
   have u:=y.own;exact f _ _ _ (.ow _) _ P (k.trans b) ⟨.tup (by lia) eT O (y.grow b.sh b.all),G d⟩ ⟨r.nodup x.1,λa v=>⟨b.sR (x.2 a (r.subset v)).1 (u a v).ne,(x.2 a (r.subset v)).2⟩⟩ q
def bQ(h:QA X K g t):QE X K (.List g i) (kC t):=by
 refine PE.imp (aM' h) λN H S J=>iF J λc B r Q E h f=>?_;refine⟨c,B,r,_,E,h,λD T R G V b A w F=>?_⟩;obtain⟨P,q⟩:=F;have y:=(A.reps b.wf)
 have L:=y.length;rw[cx] at L;refine⟨by lia,λp n=>?_⟩;have d:=NW (o:=.lst D) b.wf n λ_ z=>nomatch z;have v:=Fin.after f b;unfold GQ at q
 cases u:G.all S8 with
 |false =>rw[u] at q;exact v _ _ _ .bo _ [] d ⟨rfl,.list (by lia) (.inl (.inl eT)) (y.same d.all)⟩ cR.nil q
 |true =>
  rw[u] at q;obtain⟨M,s,O,x⟩:=A.ow b.wf u λz=>z;have k:=x.own;refine f _ _ _ (.ow _) _ (p :: M) (b.trans d) ⟨.list (by lia) eT (x.grow d.sh d.all),by simp⟩ ⟨om.mpr ⟨λm=>(k p m).ne n,s.nodup w.1⟩,λa l=>?_⟩ q;rcases dQ.mp l with rfl|l
  ·exact⟨b.wf.sub.free n,b.all.free n⟩
  ·exact⟨d.sR (w.2 a (s.subset l)).1 (k a l).ne,(w.2 a (s.subset l)).2⟩
end
def b9.fT{K:ay}(r:b9 K H o C)(h:fT o i=some d):∃ v,L2.fT C i=some v/\Rep K H d v:=by
 unfold L2.fT at *
 rw[<- r.length]
 cases e:y1 o.length i with
 |none=>rw[e] at h;cases h
 |some j =>rw[e] at h;exact r.get h
def bX:W2:=λm x _ y Q=>match x with
 |.list a=>match y with
  |.int i=>∃ d,fT a i=some d/\de d (f:=λd=>Q (xa m d) d) ⟨⟩
  |_=>False
 |.tup a=>match y with
  |.int i=>∃ d,fT a i=some d/\de d (f:=λd=>Q (xa m d) d) ⟨⟩
  |_=>False
 |.str z=>match y with
  |.int i=>∃ c,fT z.cps.toList i=some c/\Q .sh (.str ⟨#[c]⟩)
  |_=>False
 |.dK b=>∃ k d,y.key1=some k/\gL b k=some d/\de d (f:=λd=>Q (xa m d) d) ⟨⟩
 |.dT b=>match y with
  |.tup g=>∃ e d,fG g=some e/\gL b e=some d/\de d (f:=λd=>Q (xa m d) d) ⟨⟩
  |_=>False
 |_=>False
def bO'(K:ay):R2:=λx y H Q=>WZ K x y H Q\/∃ a v,x=.ref a/\sQ H a y (some v)/\Q v H
def Ba(c:Nat):(⟨#[c]⟩:Str).length<=bG:=by show 1<=bG;decide
def RM.here{K:ay}(w:Wf o H)(r:RM K o H m d v C):(m=.sh/\Rep K o d v)\/(m≠.sh/\Rep K H d v):=by
 cases m with
 |sh=>exact .inl ⟨rfl,r.2⟩
 |_=>exact .inr ⟨(λz=>nomatch z),r.rep w⟩
section
variable {X:Cx}{K:ay}
def Ox:kX K (bO' K) bX:=by
 intro L H m x v U n y u I C o w O N h f;have A:=N.rep w;have a:∀ G:Hp,bE G H->(∀ d v,Rep K G d v->Rep K H d v/\(m=.sh->Rep K L d v))->Rep K G x v->bO' K v u H o:=by
  intro G D B P
  cases P with
  |list z s q =>
   cases A with
   |int i =>obtain⟨d,e,h⟩:=h;obtain⟨g,t,p⟩:=q.fT e;obtain⟨l,j⟩:=B _ _ p;exact .inl (.inl ⟨_,g,bE.seq D s,t,f.xa w l j h⟩)
   |_=>exact h.elim
  |tup _ s q =>
   cases A with
   |int i =>obtain⟨d,e,h⟩:=h;obtain⟨g,t,p⟩:=q.fT e;obtain⟨l,j⟩:=B _ _ p;exact .inl (.inr ⟨_,g,.inl (.inl (D _ _ s)),t,f.xa w l j h⟩)
   |_=>exact h.elim
  |str T =>
   cases A with
   |int i =>obtain⟨c,e,h⟩:=h;exact .inl ⟨T,c,e,f.sh w (.str (Ba c)) h⟩
   |_=>exact h.elim
  |dK S s q =>obtain⟨k,d,E,F,h⟩:=h;have V:=A.key E;subst V;have z:=zip_get (k:=k) q;rw[F] at z;obtain⟨g,t,p⟩:=z;obtain⟨l,j⟩:=B _ _ p;exact .inr ⟨_,g,rfl,by rw[<- t];exact sQ.k' (bE.rd D s),f.xa w l j h⟩
  |dT S s q =>
   cases A with
   |tup M Z Q =>obtain⟨R,d,E,F,h⟩:=h;obtain⟨b,W,Y⟩:=Rep.w_ (.tup M Z Q) E;cases W;have z:=zip_get (k:=R) q;rw[F] at z;obtain⟨g,t,p⟩:=z;obtain⟨l,j⟩:=B _ _ p;exact .inr ⟨_,g,rfl,by rw[<- t];exact sQ.t' (bE.rd D s) Y,f.xa w l j h⟩
   |_=>exact h.elim
  |_=>exact h.elim
 rcases O.here w with⟨J,r⟩|⟨J,r⟩
 ·exact a L w.sub (λd v q=>And.intro (q.same w.sub) λ_=>q) r
 ·exact a H (bE.refl H) (λd v q=>And.intro q λz=>absurd z J) r
def fA'(r:X.A.units+64<f7)(k:autoParam (X.K=K) bv):Ap X (bO' K):=by subst k;refine Ap.or Gk ?_;intro b c d s m H x y v u Q I f e h j;obtain⟨a,w,rfl,g,q⟩:=h;cases f;exact tail_any (kY' I g) F.slot_dict_getitem.lookup (kT' (by lia) I g e λn p l i=>⟨w,H,l,i,q⟩) j
variable {a b:Expr}{e d:WE}{c:Pos}
def ck(i:QE X K a e)(h:QE X K b d)(g:Ww b:=by exact λ_ _=>rfl)(j:autoParam (X.K=K) bv)(f:autoParam (X.A.units+64<f7) u0):QE X K (.Subscript a b c) (av bX e d):=PE.imp (aT' (fA' f j) i h g) (lg Ox)
end
def i6{b:Type}(a:List b)(c d:Option Int):List b:=(a.drop (HT.dk a.length 0 c)).take (HT.dk a.length a.length d-HT.dk a.length 0 c)
abbrev WO:=Env->(Option Int->Prop)->Prop
def bB:WO:=λ_ Q=>Q none
def dX(t:WE):WO:=λa Q=>t a λ_ x=>match x with
 |.int i=>Q (some i)
 |_=>False
def UY(m:Md)(x:D)(b c:Option Int)(Q:Md->D->Prop):Prop:=match x with
 |.str z=>Q .sh (.str (pV z b c))
 |.list a=>(eh a=true/\Q (.ow true) (.list (i6 a b c)))\/(m=.sh/\Q (.ow false) (.list (i6 a b c)))
 |.tup a=>eh a=true/\¬ (HT.dk a.length 0 b=0/\HT.dk a.length a.length c=a.length)/\Q .sh (.tup (i6 a b c))
 |_=>False
def sA(d:WE)(b c:WO):WE:=λa Q=>d a λm x=>b a λe=>c a λf=>UY m x e f Q
def tpO(K:ay)(t:WO):TO:=λe H g=>∃ c b a Q,dA K c b e H a/\t b Q/\∀ o d f,gd c H f d->Q o->g o d
abbrev QO(X:Cx)(K:ay)(e:Option Expr)(t:WO):Prop:=PO X e (tpO K t)
def Ca(z:Str)(a b:Option Int):(pV z a b).length<=z.length:=by unfold pV Str.length;simp only[kg,lI,DV,A4];lia
def gr{b:Type}(a:List b)(c d:Option Int):(i6 a c d).length<=a.length:=by unfold i6;rw[lI,DV];lia
def rC{a c:Option Int}(h:eh o=true):eh (i6 o a c)=true:=by
 rw[iw] at *
 intro x b;exact h x (VA (P1 b))
section
variable {X:Cx}{K:ay}{e:Expr}{a b:Option Expr}{c:WE}{g j:WO}{d k:Pos}
def cT:QO X K none bB:=λi s l H Q I h=>km' i s l H Q I (by
 obtain⟨p,q,m,r,n,h,f⟩:=h;exact f none H p (gd.refl n.wf) h)
def bY(h:QE X K e c):QO X K (some e) (dX c):=λl s t H Q I z=>kn' h l s t H Q I (by
 obtain⟨B,u,n,F,w,h,f⟩:=z;refine⟨B,u,n,_,w,h,λv D A m x G q y E p=>?_⟩;have r:=y.rep q.wf
 cases r with
 |int i=>exact⟨i,rfl,f _ D A q p⟩
 |_=>exact p.elim)
def l_{a b:Option Int}(r:b9 K H C o):b9 K H (i6 C a b) (MV o a b):=by unfold i6 MV;rw[r.length];exact(r.drop _).take _
def mS'(u:autoParam (X.K=K) bv):Sj X (λx a b H Q=>bl' K x a b H Q\/dZ' K x a b H Q):=by
 subst u;intro f s i H x v m l a b n Q I p t r q h;rcases h with h|h
 ·exact LR f s i H x v m l a b n Q I p t r q h
 ·exact kr' f s i H x v m l a b n Q I p t r q h
def cP(T:QE X K e c)(R:QO X K a g)(S:QO X K b j)(V:autoParam (X.K=K) bv):QE X K (.Subscript e (.Slice a b none k) d) (sA c g j):=by
 refine PE.imp (kq' (mS' V) T R S) λU H o O=>iF O λC y r Q A h f=>?_;refine⟨C,y,r,_,A,h,λv H1 Y m x As E J f1 M=>⟨Y,y,r,_,A.grow E,M,λl H2 Z D L=>⟨Z,y,r,_,(A.grow E).grow D,L,λu I W p i=>?_⟩⟩⟩;have w:=(J.grow D).grow p;have n:Fin K W I Q o:=Fin.after f ((E.trans D).trans p);have G:=w.rep p.wf
 cases G with
 |str t=>exact .inl ⟨t,n.sh p.wf (.str (kD (Ca _ _ _) t)) i⟩
 |list z s q =>
  have t:=q.length;rcases i with⟨B,i⟩|⟨rfl,i⟩
  ·exact .inl ⟨_,s,n.lst p.wf (kD (gr _ _ _) (by lia)) (l_ q) (rC B) i⟩
  ·obtain⟨_,w⟩:=w
   cases w with
   |list z' F N =>exact .inl ⟨_,bE.seq p.wf.sub F,n.Zi p.wf (kD (gr _ _ _) (by lia)) (l_ N) i⟩
 |tup z s q =>have t:=q.length;obtain⟨B,P,i⟩:=i;exact .inr ⟨_,_,rfl,.inl (.inl s),by rw[<- t];exact P,n.tup p.wf (kD (gr _ _ _) (by lia)) (l_ q) (rC B) i⟩
 |_=>exact i.elim
end
def gX:W1:=λ_ x Q=>match x with
 |.str z=>Q .sh (.int z.length)
 |.list a=>Q .sh (.int a.length)
 |.tup a=>Q .sh (.int a.length)
 |.dK b=>Q .sh (.int b.length)
 |.dT b=>Q .sh (.int b.length)
 |_=>False
def tq(T:String):W1:=λ_ x Q=>Q .sh (.bl (SF x.ty T))
def Ki(K:ay)(r:List V->Hp->VK->Prop)(f:W1):Prop:=∀ a H m x v d c b,Wf a H->RM K a H m x v d->f m x c->Fin K a H c b->r [v] H b
section
variable {X:Cx}{K:ay}{e:Expr}{b:WE}{c p:Pos}{x:Str}{g T:String}
def n6(t:Ki K r f)(j:St)(H:Hp)(i:VK)(h:oC K (dy f b) j H i):Wo r (Uu (oC K b) MR) j H i:=by obtain⟨w,l,a,Q,n,h,d⟩:=h;exact⟨w,l,a,_,n,h,λv y u m x z k q A s=>t u y m x v z Q i k.wf q s (Fin.after d k)⟩
def aG(m:oa X (.builtin g) r)(n:Ki K r f)(j:X.mg x=none)(h:mN x=some (.builtin g))(l:QE X K e b)(a:autoParam (aR X e []) bv) (i:x ≠ "__name__" := by decide) (d:autoParam (dw x) tw) (k:autoParam (Gl X x) bv):QE X K (.Call (.Name x p) [e] [] c) (dy f b) :=
 PE.imp (Wq m k j h (lP l og a) i d a) (n6 n)
def qb(m:oa X (.type T) r)(n:Ki K r f)(j:X.mg x=none)(h:mN x=some (.type T))(l:QE X K e b)(a:autoParam (aR X e []) bv) (i:x ≠ "__name__" := by decide) (d:autoParam (dw x) tw) (k:autoParam (Gl X x) bv):QE X K (.Call (.Name x p) [e] [] c) (dy f b) :=
 PE.imp (kb' m k j h (lP l og a) i d a) (n6 n)
def JV(k:(d == rX)=false)(x:y6 s.heap d I U)(l:(I.size:Int)<2 ^ 63)(h:∀ t a,Q (.int I.size t) { s with toks:=a }):bq (aE C w) A (call (.builtin "len") [.ref d]) Q E s:=by
 refine Calls.call_function_entry kind_len plain_len entry_len (args_len1 _) ?_;have f:MeetsIn C w (Builtin.«dict.__len__» ⟨[.ref d],[]⟩) (λ_ R s=>y6 s.heap d I U/\R (.ok (.ret (.int I.size s.toks))) { s with toks:=s.toks+1 }):=.of_wp λA R s m=>by obtain⟨j,h⟩:=m;obtain⟨o,i,q,n⟩:=j;show bq _ _ (dictSize d >>= _) _ _ s;refine ax (ax (TH i n (bI ?_)));refine ax (wpAny_pendingCount_other k ?_);refine wpAny_ret_mkInt ?_;rw[Qr];exact h
 refine ax (bI ?_);refine ax (TC x.typ F.slot_dict_len (call_meetsIn F.slot_dict_len x.typ F.entry_dict_len (F.args_dict_len_1 _) f ⟨x,?_⟩))
 refine ax (zk (bI ?_));refine ax (wpAny_letGo ?_);rw[if_neg (by lia)];rw[if_neg (by lia)];exact ax (wpAny_mkInt (bI ⟨_,rfl,h _ _⟩))
def az (y:autoParam (X.K=K) bv):oa X (.builtin "len") (λi H Q=>WY K i H Q\/∃ a f,i=[.ref a]/\Rd H a (.dT f)/\Q (.int f.length) H):=by
 subst y;intro d s k H i l Q I r h;rcases h with h|⟨a,f,rfl,w,q⟩
 ·exact Am d s k H i l Q I r h
 ·obtain⟨u,rfl,m⟩:=Vals.one r;cases m;obtain⟨z,v,G,j,o,F,M,E,D,B,A,L⟩:=(I.rd w)
  have n:F.size=f.length:=by have:=congrArg List.length A;rw[A4,cx] at this;rw[this];exact j.length.symm
  exact JV v ⟨o,E,D,B⟩ (by rw[kQ] at z;lia) λt J=>⟨.int f.length,H,I.tok _,⟨t,by rw[n]⟩,q⟩
def aO:Ki K (λd H Q=>WY K d H Q\/∃ a i,d=[.ref a]/\Rd H a (.dT i)/\Q (.int i.length) H) gX:=by
 intro u H m x v y t r w j h f;have k:=j.rep w
 cases k with
 |str n=>exact .inl ⟨n,f.sh w (.int _) h⟩
 |list z s q=>exact .inl (.inl ⟨_,s,by rw[<- q.length];exact f.sh w (.int _) h⟩)
 |tup _ s q=>exact .inl (.inr (.inl ⟨_,.inl (.inl s),by rw[<- q.length];exact f.sh w (.int _) h⟩))
 |dK l s q=>exact .inl (.inr (.inr ⟨_,s,by
   have:=q.length;rw[cx] at this;rw[T4,cx,<- this,T9];exact f.sh w (.int _) h⟩))
 |dT l s q=>exact .inr ⟨_,_,rfl,s,by
   have:=q.length;rw[cx] at this;rw[T4,cx,<- this,T9];exact f.sh w (.int _) h⟩
 |_=>exact h.elim
end
section
variable {X:Cx}{K:ay}{e a:Expr}{g:WE}{c p:Pos}{T:String}
def zy (M:autoParam (X.K=K) bv):oa X (.builtin "isinstance") (λw H Q=>∃ x d T,w=[x,.ty T]/\Rep K H d x/\bh' T=true/\Q (.bl (SF d.ty T)) H):=by
 subst M;intro m s D H w R Q I r h;obtain⟨x,d,T,rfl,F,L,q⟩:=h;obtain⟨u,v,rfl,j,E⟩:=Vals.two r;obtain rfl:v=Value.type T:=E;have k:T∈["str", "int", "bool", "list", "tuple", "dict"]:=by simpa[bh'] using L
 have f:∀ A,EP X m D Q (.bool (SF d.ty T)) { s with toks:=A }:=λA=>⟨.bl (SF d.ty T),H,I.tok A,rfl,q⟩
 cases F with
 |non=>exact Ut I j .non (jM X.K _ T (by simp) k) f
 |bl b=>exact Ut I j (.bl b) (jM X.K _ T (by simp) k) f
 |int i=>exact Ut I j (.int i) (jM X.K _ T (by simp) k) f
 |str y=>exact Ut I j (.str _) (jM X.K _ T (by simp) k) f
 |list z l B =>cases j;obtain⟨J,_,G,_⟩:=I.list l;obtain⟨o,t,n,_⟩:=G.isList;exact yn Z1 I.iN ⟨o,t,n⟩ (jM X.K "list" T (by simp) k) (λz=>nomatch z) f
 |tup _ l B=>exact Ut I j (.tup l) (jM X.K _ T (by simp) k) f
 |dK _ l B =>cases j;obtain⟨_,_,P,_,p⟩:=I.rd l;obtain⟨o,N,O,t,n,_⟩:=p;exact yn Vv I.iN ⟨o,t,n.1⟩ (jM X.K "dict" T (by simp) k) (λz=>nomatch z) f
 |dT _ l B =>cases j;obtain⟨_,_,w,_,o,N,O,t,n,_⟩:=I.rd l;exact yn Vv I.iN ⟨o,t,n.1⟩ (jM X.K "dict" T (by simp) k) (λz=>nomatch z) f
def gF (u:X.mg "isinstance" = none) (y:QE X K e g) (t:PE X a (tC (.ty T))) (z:autoParam (bh' T=true) bv) (w:Gl X "isinstance" := by rfl) (A:autoParam (X.K=K) bv) (i:autoParam (fN (e :: [a]) X.env=(false,dn e X.env) :: fN [a] X.env) bv) (r:autoParam (aR X a []) bv) (q:autoParam (bM X c [a]) bv) :
  QE X K (.Call (.Name "isinstance" p) [e,a] [] c) (dy (tq T) g):=by
 refine PE.imp (Wq (zy A) w u qx (lP y (lP t og r) i) (by decide) (by decide) i q) λD H G s=>iF s λB j b Q k h f=>?_;refine⟨B,j,b,_,k,h,λv J F m x L d l E n=>⟨v,x,T,rfl,l.rep d.wf,z,Fin.sh (Fin.after f d) d.wf (.bl _) n⟩⟩
def Hq(r:Rep K H d v)(h:Zk d=some b):aI' K v H b:=by
 cases r with
 |non=>cases h;rfl
 |bl b=>cases h;rfl
 |int i=>cases h;rfl
 |str f =>cases h;exact⟨f,rfl⟩
 |list z s q =>cases h;refine .inl ⟨_,s,?_⟩;cases q<;>rfl
 |tup _ s q =>cases h;refine .inr (.inl ⟨_,.inl (.inl s),?_⟩);cases q<;>rfl
 |dK _ s q=>cases h
 |dT _ s q=>cases h
def jA(w:QE X K e g)(t:autoParam (∀ d,isTrue e X.env d=(do let v <- d;standAt e.pos;holding [v] (truthy v))) vw)(y:autoParam (X.K=K) bv):QT X K e (EK g):=by subst y;refine PT.imp (jz' w t) λD H F s=>iF s λA k i Q l h f=>?_;refine⟨A,k,i,_,l,h,λv B z m x G j n E r=>?_⟩;obtain⟨b,u,q⟩:=r;exact⟨b,Hq (n.rep j.wf) u,f b B z j q⟩
end
def oP:Key->D
 |.inl i=>.int i
 |.inr x=>.str x
def zZ:W1:=λm x Q=>match x with
 |.list a=>(eh a=true/\Q (.ow true) (.list a))\/(m=.sh/\Q (.ow false) (.list a))
 |.tup a=>(eh a=true/\Q (.ow true) (.list a))\/(m=.sh/\Q (.ow false) (.list a))
 |.dT c=>Q (.ow true) (.list (c.map λb=>.tup (b.1.map oP)))
 |_=>False
section
variable {X:Cx}{K:ay}
theorem iD:∀ {a:List Key},(∀ k∈a,tf k=true)->b9 K H (a.map oP) (a.map kV)
 |[],_=>.nil
 |k :: a,h=>by
  refine .cons ?_ (iD λj m=>h j (eI _ m));have:=h k eK
  cases k with
  |inl i=>exact .int i
  |inr x=>exact .str (by simpa[tf] using this)
theorem jj:∀ (a:List Key),eh (a.map oP)=true
 |[]=>rfl
 |k :: a=>by simp only[eR,eh,jj a,Bool.and_true];cases k<;>rfl
def v8(t:d8 H c a)(h:∀ l∈a,l.length<=bG/\∀ k∈l,tf k=true):b9 K H (a.map λl=>.tup (l.map oP)) c:=by
 induction c generalizing a with
 |nil=>rw[show a=[] from Paired.n0 t];exact .nil
 |cons y c f =>obtain⟨k,a,rfl,⟨b,rfl,e⟩,d⟩:=Paired.c t;exact .cons (.tup (by rw[cx];exact(h _ eK).1) e (iD (h _ eK).2)) (f d λl m=>h l (eI _ m))
theorem mC:∀ (a:List (List Key)),eh (a.map λl=>.tup (l.map oP))=true
 |[]=>rfl
 |l :: a=>by simp only[eR,eh,mC a,Bool.and_true,D.flat,jj]
def oH (c:autoParam (X.calm=true) bv) (d:autoParam (X.K=K) bv):oa X (.type "list") (λb H Q=>(∃ p a,b=[.ref p]/\(eP K H p a\/kN K H p a)/\∀ l,H l=none->Q (.ref l) (upd H l (.lst a)))\/vI b H Q):=by subst d;exact kH'.or (xW c)
def zG:Ki K (λn H Q=>(∃ p c,n=[.ref p]/\(eP K H p c\/kN K H p c)/\∀ l,H l=none->Q (.ref l) (upd H l (.lst c)))\/vI n H Q) zZ:=by
 intro J H m x v L G F w b h f;have D:=b.rep w
 cases D with
 |list z s q =>
  have i:=q.length;rcases h with⟨j,h⟩|⟨rfl,h⟩
  ·exact .inl ⟨_,_,rfl,.inl s,f.lst w (by lia) q j h⟩
  ·obtain⟨_,b⟩:=b
   cases b with
   |list A d g =>exact .inl ⟨_,_,rfl,.inl (bE.seq w.sub d),f.Zi w (by lia) g h⟩
 |tup z s q =>
  have i:=q.length;rcases h with⟨j,h⟩|⟨rfl,h⟩
  ·exact .inl ⟨_,_,rfl,.inr (.inl (.inl s)),f.lst w (by lia) q j h⟩
  ·obtain⟨_,b⟩:=b
   cases b with
   |tup A d g =>exact .inl ⟨_,_,rfl,.inr (.inl (.inl (w.sub _ _ d))),f.Zi w (by lia) g h⟩
 |@dT _ B k t s q =>
  refine .inr ⟨_,s,λc l u i=>?_⟩;have a:=q.length;rw[cx] at a;have e:((k.map (·.1)).zip B).map (·.1)=k.map (·.1):=xei (by rw[cx];exact T7 a);rw[e] at u;have r:=v8 (K:=K) u (λl m=>by
   obtain⟨p,E,rfl⟩:=fq.mp m;exact t.2 p E)
  have y:=mC (k.map (·.1));rw[kM] at r y;exact f.lst w (by rw[cx];exact t.1) r y h l i
 |_=>exact h.elim
end
section
variable {K:ay}{f H:Hp}
def dA.S9(i:Nat)(s:dA K f U I H tot)(h:S1 K f H sl o C)(k:C.Nodup)(j:∀ a∈C,f a=none/\a∉tot):∃ e,(∀ a∈e,a∈tot\/a∈C)/\dA K f (U.set i sl) (I.set i o) H e:=by obtain⟨_,_,_,g⟩:=s.sr.chg i s.ti;obtain⟨t,a,b,_,_,c⟩:=g (bE.refl _) (λ_ _ _=>rfl) h k λa h z=>absurd z (j a h).2;have b:=λx d=>(b x d).symm.imp And.left id;exact⟨t,b,c,s.wf,a,λx d=>(b x d).elim (s.own x) λz=>(j x z).1⟩
def asg:Md->D->Option Sl
 |.sh,d=>some (.sh d)
 |.ow a,d=>some (.ow a d)
 |_,d=>bif d.flat then some (.sh d) else none
def dA.set(i:Nat)(s:dA K f C o H tot)(r:RM K f H m d v As)(j:As.Nodup)(k:∀ a∈As,f a=none/\a∉tot)(e:asg m d=some I) :
  ∃ g,dA K f (C.set i (some I)) (o.set i (some v)) H g:=by
 have b:Rep K f d v->∃ g,dA K f (C.set i (some (.sh d))) (o.set i (some v)) H g:=λr=>(s.S9 i (.sh r) oo λa h=>BE h).imp λ_=>And.right
 cases m with
 |sh=>cases e;exact b r.2
 |ow l =>cases e;exact(s.S9 i (.ow r.2 r.1) j k).imp λ_=>And.right
 |_ =>
  cases c:d.flat with
  |true =>simp only[asg,c,cond_true,Option.some.injEq] at e;subst e;exact b (r.flat s.wf c)
  |false=>simp[asg,c] at e
end
section
variable {X:Cx}{K:ay}{e c:Expr}{l:WE}{G:WT}{j:Pos}{y:kf}{a b B:List kf}{t u:WS}
def PS.imp{l g:TS}(h:PS X y l)(i:∀ D d H,g D d H->l D d H):PS X y g:=λf s d H D I q=>h f s d H D I (i D d H q)
def nh.imp{l g:TS}(h:nh X a l)(i:∀ D d H,g D d H->l D d H):nh X a g:=λf s d H D I q=>h f s d H D I (i D d H q)
def aW:WS:=λE d=>E.nx d
def cf(t u:WS):WS:=λE d=>t { E with nx:=u E } d
def ft(l:WE):WS:=λE d=>l d E.rt
def Ep(l:WE):WS:=λE d=>l d λ_ _=>E.nx d
def eL(i:Nat)(l:WE):WS:=λE f=>l f λm d=>match asg m d with
 |some g=>E.nx (f.set i (some g))
 |none=>False
def eB(c:WT)(t u:WS):WS:=λE d=>c d λb=>if b=true then t E d else u E d
def fC:WS:=λ_ _=>False
def Gx:WS:=λE d=>E.ct d
def aB:y8 X K L [] aW:=nh.imp dk' λD f H m=>bN m λn g d E i h k _ _ _=>k f H n g d (bE.refl _) i h
def Fe{D:Ends}(h:BF K L (cf t u) D o H):Uq (BF K L t) (BF K L u) D o H:=by
 obtain⟨S,J,w,E,M,h,N,F,A,z,x⟩:=h;refine⟨S,J,w,{ E with nx:=u E },M,h,λV W Q P O s R q=>?_,F,A,z,x⟩;exact⟨Q,P,O,E,R,q,λk g i p r f=>N k g i p r (s.trans f),λk g i p r f=>F k g i p r (s.trans f),λk g i p r f=>A k g i p r (s.trans f),
  λv g i m d T f=>z v g i m d T (s.trans f),λn g f=>x n g (s.trans f)⟩
def aj(f:QS X K L y t)(d:y8 X K L B u):y8 X K L (y :: B) (cf t u):=nh.imp (Wd f d) λD g H h=>Fe h
def ak(d:QS X K L y t):y8 X K L [y] t:=Wg d
def cN:y8 X K L a fC:=nh.imp iB' λD g H f=>bN f λm i d E k h _ _ _ _=>h
def Dn:QS X K L y fC:=PS.imp iA' λD g H f=>bN f λm i d E k h _ _ _ _=>h
def tG:QS X K L (.Continue j) Gx:=PS.imp iz' λD f H m=>bN m λn g d E i h q p k _=>k f H n g d (bE.refl _) i h
def aK(w:QE X K e l):QS X K L (.Return (some e) j) (ft l):=PS.imp (RA w) λD M H s=>bN s λA k f E n h P O N r =>
 ⟨A,k,f,_,n,h,λv F z m d J g p i q=>r v F z m d J g.sh g.wf p i.1 (λa x=>(i.2 a x).1) q⟩
def gW(i:Nat):WS:=λE f=>match f[i]? with
 |some (some (.sh d))=>E.rt .sh d
 |some (some (.ow g d))=>E.rt (.ow g) d
 |_=>False
def SR.at{n:Env}{m:St}{tot:List ai}{i:Nat}{p:Bool}{d:D}{q H:Hp}(s:SR K q H n m tot)(e:n[i]? = some (some (.ow p d))):∃ v k,m[i]? = some (some v)/\k≠[]/\df K q H p d v k/\k.Sublist tot:=by
 obtain⟨F,f,g,_⟩:=s.all;obtain⟨_,x,h⟩:=f i _ e;have g:=g i;generalize F i=k at h g
 cases h with
 |ow w r=>exact⟨_,k,x,w,r,g⟩
def fW{i:Nat}(z:PE X e (kr i)):QS X K L (.Return (some e) j) (gW i):=PS.imp (RA z) λD J H x=>bN x λq M s E f h P O N p=>by
 unfold gW at h;split at h
 ·rename_i d m;obtain⟨v,k,r⟩:=f.sr.get m;exact⟨v,k,p v H q .sh d [] (bE.refl _) f.wf ⟨rfl,r⟩ oo (λa g=>nomatch g) h⟩
 ·rename_i A d m;obtain⟨v,F,k,w,r,n⟩:=f.sr.at m;exact⟨v,k,p v H q (.ow A) d F (bE.refl _) f.wf ⟨r,w⟩ (n.nodup f.ti) (λa g=>f.own a (n.subset g)) h⟩
 ·exact h.elim
def za(w:QE X K e l)(s:autoParam (nL e none j.line X.env=pure false) bv):QS X K L (.Expr e j) (Ep l):=PS.imp (Mb w s) λD n H r=>bN r λz g f E i h q N M J =>
 ⟨z,g,f,_,i,h,λv A x m d P k F O p=>q n A x g f k.sh (i.grow k) p⟩
def aD(i:Nat){x:Str}{f:Pos}(O:QE X K e l)(J:autoParam (nL e (some (.Name x f)) j.line X.env=pure false) bv) (N:autoParam (j8 X x) u') (P:autoParam (X.N.Nodup) u0) (M:autoParam (X.N[i]? = some x) bv) (p:autoParam (Loc X.env.scope x) wx):QS X K L (.Assign [.Name x f] e j) (eL i l):=PS.imp (Ur P M p O J N) λD V H p=>bN p λS w k E n h F o Z Y=>by
 refine⟨S,w,k,_,n,h,λv T R m d C s A q g=>?_⟩
 cases e:asg m d with
 |none=>rw[e] at g;exact g.elim
 |some W =>rw[e] at g;obtain⟨Q,z⟩:=(n.grow s).set i A q.1 (λa r=>⟨(q.2 a r).1,λm=>(n.sr.own a m).ne (q.2 a r).2⟩) e;exact F _ T R _ Q s.sh z g
def aM(I:QT X K c G)(ha:y8 X K L a t)(U:y8 X K L b u):QS X K L (.If c a b j) (eB G t u):=PS.imp (dn' I ha U) λD ab H C=>pq C λHs Q x E R h o Z Y W V=>by
 refine⟨Hs,Q,x,_,R,h,λk H1 P i T=>?_⟩;have J:∀ q w s r O,bE P s->dA K s r q w O->E.nx r->D.nx q w:=λz g p M N f=>o z g p M N (i.sh.trans f);have F:∀ q w s r O,bE P s->dA K s r q w O->E.bk r->D.bk q w:=λz g p M N f=>Z z g p M N (i.sh.trans f);have A:∀ q w s r O,bE P s->dA K s r q w O->E.ct r->D.ct q w:=λz g p M N f=>Y z g p M N (i.sh.trans f)
 cases k with
 |true=>exact⟨P,Q,x,E,R.grow i,T,J,F,A,(λv g p m d S f=>W v g p m d S (i.sh.trans f)),λn g f=>V n g (i.sh.trans f)⟩
 |false=>exact⟨P,Q,x,E,R.grow i,T,J,F,A,(λv g p m d S f=>W v g p m d S (i.sh.trans f)),λn g f=>V n g (i.sh.trans f)⟩
def ER(d H:Hp)(f:List ai):Hp:=λa=>if a∈f then H a else d a
def gZ(n:∀ a∈I,C a=none):bE C (ER C H I):=λa o e=>by unfold ER;rw[if_neg λm=>by rw[n a m] at e;cases e];exact e
def Fq(w:Wf I H)(o:∀ a∈C,Own H a):Wf (ER I H C) H:=⟨λa u e=>by
  unfold ER at e;by_cases m:a∈C
  ·rw[if_pos m] at e;exact e
  ·rw[if_neg m] at e;exact w.sub a u e,λa d e=>by
  unfold ER;rw[if_neg λm=>(o a m).y_ e];exact w.kU a d e⟩
def shS:Sl->Sl
 |.sh d=>.sh d
 |.ow _ d=>.sh d
 |.xc a=>.xc a
 |.ob a p=>.ob a p
def shC:Sl->Sl
 |.sh d=>.sh d
 |.ow _ d=>.sh d
 |.xc a=>.xc a
 |.ob a _=>.xc a
def U0(i:Nat)(d:Env):Env:=match d[i]? with
 |some (some f)=>d.set i (some (shS f))
 |_=>d
def dA.mT'(i:Nat)(s:dA K o C I H U)(e:C[i]? = some (some (.ow fl d))):∃ m A,(∀ a∈m,o a=none)/\(∀ a∈m,Own H a)/\dA K (ER o H m) (C.set i (some (.sh d))) I H A:=by
 obtain⟨m,v,f,g⟩:=s.sr.chg i s.ti;obtain⟨_,z,h⟩:=f _ e;have n:∀ a∈m,o a=none:=λx k=>s.own x (v.subset k);have w:∀ a∈m,Own H a:=λx k=>s.sr.own x (v.subset k)
 cases h with
 |ow D r =>obtain⟨t,a,b,_,_,c⟩:=g (gZ n) (λ_ _ _=>rfl) (.sh (r.rep (gZ n) λx k=>if_pos k)) oo λa h=>BE h;rw[wK z] at c;refine⟨m,t,n,w,c,Fq s.wf w,a,λx k=>?_⟩;obtain⟨p,q⟩:=(b x k).resolve_left sM;exact(if_neg q).trans (s.own x p)
def dA.wc(i:Nat)(s:dA K C U I H o):∃ f m,bE C f/\dA K f (U0 i U) I H m:=by
 unfold U0;split
 ·rename_i g e
  cases g with
  |ow n d =>obtain⟨_,t,k,_,h⟩:=s.mT' i e;exact⟨_,t,gZ k,h⟩
  |_ =>rw[<- wK e] at s;exact⟨C,o,bE.refl _,s⟩
 ·exact⟨C,o,bE.refl _,s⟩
def rL(i:Nat)(t:WS):WS:=λE d=>t E (U0 i d)
def Dc{D:Ends}(h:BF K L (rL i t) D o H):BF K L t D o H:=by
 obtain⟨S,R,w,E,x,h,M,J,F,A,z⟩:=h;obtain⟨O,N,s,P⟩:=x.wc i;exact⟨O,_,N,E,P,h,λp g k q r f=>M p g k q r (s.trans f),λp g k q r f=>J p g k q r (s.trans f),λp g k q r f=>F p g k q r (s.trans f),
  λv g k m d Q f=>A v g k m d Q (s.trans f),λn g f=>z n g (s.trans f)⟩
def cO(i:Nat)(h:QS X K L y t):QS X K L y (rL i t):=PS.imp h λD d H h=>Dc h
def lN(f h g i:Hp):Hp:=λa=>match i a with
 |some (.tup d)=>some (.tup d)
 |_=>match h a with
  |none=>g a
  |some _=>f a
def gj(w:Wf U C)(s:bE C aC)(m:Wf aC I):gd U C (lN U C aC I) I:=by
 have g:bE C I:=s.trans m.sub;have i:∀ a d,I a=some (.tup d)->lN U C aC I a=some (.tup d):=λa d e=>by unfold lN;rw[e]
 have k:∀ a,(∀ d,I a≠some (.tup d))->lN U C aC I a=match C a with
  |none=>aC a
  |some _=>U a:=λa h=>by
  unfold lN;split
  ·rename_i d e;exact absurd e (h d)
  ·rfl
 refine⟨g,λa o e=>?_,⟨λa o e=>?_,i⟩,λa h=>?_⟩
 ·have p:=w.sub a o e;have n:=g a o p;by_cases f:∃ d,o=.tup d
  ·obtain⟨d,rfl⟩:=f;exact i a d n
  ·rw[k a λd z=>f ⟨d,by rw[n] at z;exact Option.some.inj z⟩,p];exact e
 ·by_cases f:∃ d,I a=some (.tup d)
  ·obtain⟨d,z⟩:=f;rw[i a d z] at e;rw[z];exact e
  ·rw[k a λd z=>f ⟨d,z⟩] at e
   cases q:C a with
   |none=>rw[q] at e;exact m.sub a o e
   |some u =>rw[q] at e;have:=w.sub a o e;exact g a o this
 ·cases q:C a with
  |none=>exact .inr rfl
  |some u =>
   refine .inl ?_;by_cases f:∃ d,I a=some (.tup d)
   ·obtain⟨d,z⟩:=f;have:=g a u q;rw[z] at this;cases this;rw[w.kU a d q];exact λz=>nomatch z
   ·rw[k a λd z=>f ⟨d,z⟩,q] at h;exact h
def A_{k f d i:Hp}{a:ai}(s:bE f d)(h:d a=none)(o:Own i a):lN k f d i a=none/\f a=none:=by
 have g:=s.free h;refine⟨?_,g⟩;unfold lN;split
 ·rename_i m e;exact absurd e o.y_
 ·rw[g];exact h
def NX:Md->D->Md
 |.ow true,_=>.ow true
 |_,d=>bif d.flat then .sh else .bo
def pA(w:Wf U C)(s:bE C o)(k:Wf o I)(r:RM K o I m d v As)(q:As.Nodup)(n:∀ a∈As,o a=none) :
  ∃ i,RM K (lN U C o I) I (NX m d) d v i/\cR (lN U C o I) C i:=by
 have g:=gj w s k;have f:∃ i,RM K (lN U C o I) I (bif d.flat then .sh else .bo) d v i/\cR (lN U C o I) C i:=by
  cases x:d.flat with
  |true=>exact⟨[],⟨rfl,(r.rep k).fY g.wf.kU x⟩,cR.nil⟩
  |false=>exact⟨[],⟨rfl,r.rep k⟩,cR.nil⟩
 cases m with
 |sh=>exact f
 |bo=>exact f
 |wb=>exact f
 |ow z =>
  cases z with
  |false=>exact f
  |true=>exact⟨As,⟨df.leaves (λa p e=>g.wf.kU a p (k.sub _ _ e)) r.1,r.2⟩,q,λa h=>A_ s (n a h) (r.own a h)⟩
abbrev gv:=List D->(Md->D->Prop)->Prop
def gJ(K:ay)(p:gv):Sp:=λn H q _=>∃ i k,b9 K H i n/\p i k /\
 ∀ v g f m d h,bE H f->Wf f g->RM K f g m d v h->h.Nodup->(∀ a∈h,f a=none)->k m d->q v g
def wG(n:Nat)(f:List D):Env:=f.map (λd=>some (.sh d))++List.replicate (n-f.length) none
abbrev j3(n:Nat)(f:gv)(w:WS):Prop:=∀ d Q,f d Q->w { nx:=λ_=>Q .sh .non,rt:=Q } (wG n d)
def SR.start(r:b9 K H g o):SR K H H (g.map (λd=>some (.sh d))++List.replicate n none) (o.map some++List.replicate n none) []:=by
 induction g generalizing o with
 |nil =>
  rw[r.n0]
  induction n with
  |zero=>exact .nil
  |succ n f=>exact .non f
 |cons d g f =>obtain⟨u,i,rfl,r,h⟩:=r.c;exact .sh r (f h)
def zY(h:gJ K I C H o E)(M:j3 (N.length) I t) :
  BF K L0 t { nx:=λ_ f=>o .non f,rt:=o } (start N C) H:=by
 obtain⟨A,p,x,L,g⟩:=h;have O:=x.length;refine⟨H,wG N.length A,[],{ nx:=λ_=>p .sh .non,rt:=p },⟨?_,⟨bE.refl _,λ_ _ e=>e⟩,oo,λa h=>nomatch h⟩,M A p L,?_,?_,?_,?_,λ_ _ _ _=>trivial⟩
 ·unfold wG start;rw[O];exact SR.start x
 ·exact λD f i F z s k q=>g .non f i .sh .non [] s k.wf ⟨rfl,.non⟩ oo (λa h=>nomatch h) q
 ·exact λD f i F z s k q=>q.elim
 ·exact λD f i F z s k q=>q.elim
 ·exact λv f i m d P s w r J n q=>g v f i m d P s w r J n q
def bQ'.ok{P:cy}{y:kf}{N i:List Str}(F:vi K x o y f fd)(S:Bi N i (fF y))(m:∀ g Q,I g Q->g.length=i.length)(D:∀ h A d s H E,ja k (A.deeper (ri o (fF y) s.heap.objs.size f h))->y8 (se kB P w K U C N o (fF y) f h A d s H E).uS K L0 (oz y) t)(v:j3 (N.length) I t):mS P w K U C kB (k+1) f fd i (gJ K I) :=
 F.ok S (λp H Q E zq=>by obtain⟨g,z,q,n,_⟩:=zq;rw[<- q.length];exact m g z n) λh A d s H p Q E r n=>⟨_,D h A d s H E r,zY n v⟩
def aU(h:gv)(t:WA):WE:=λg Q=>t g λi=>h (i.map (·.2)) λm d=>de (m,d) (f:=λp=>Q (NX p.1 p.2) p.2) ⟨⟩
def Ah{p:gv}{t:WA}{n:St}{H:Hp}{x:VK}{E:XK}(h:oC K (aU p t) n H x):aN' (gJ K p) [] E (tpA K t) n H x:=by obtain⟨O,z,i,Q,A,h,f⟩:=h;refine⟨O,z,i,_,A,h,λS Z W T R g D V J=>?_⟩;refine⟨_,_,by rw[ng];exact D.reps g.wf,J,λv P Y m d R s w r L k q=>?_⟩;obtain⟨M,F,N⟩:=pA g.wf s w r L k;exact Fin.after f g v P _ (NX m d) d M (gj g.wf s w) F N q
def aV{k:Nat}{x:Str}{i:List Str}{f:gv}{p:Pos}{d:List Expr}{t:WA}(C:SK X.prog X.w X.K X.mg X.base k x i (gJ K f))(s:QA X K (e :: d) t)(q:autoParam (Gl X x) bv)(g:autoParam (dw x) tw)(r:autoParam (aR X e d) bv) (m:autoParam (bM X j d) bv) (n:ja k X.A:=by exact ja.mono (by assumption) (by decide)):QE X K (.Call (.Name x p) (e :: d) [] j) (aU f t):=PE.imp (Gm C n s q g r m) λv H w h=>Ah h
end
abbrev WG:=D->Env->(Env->Prop)->Prop
def tpG(K:ay)(g:WG):TG:=λv j H k=>∃ c e b d Q,dA K c e j H b/\Rep K c d v/\g d e Q/\∀ h i f,dA K c i h H f->(∀ a∈f,a∈b)->Q i->k h H
abbrev QG(X:Cx)(K:ay)(e:Expr)(g:WG):Prop:=PG X e (tpG K g)
def gN(i:Nat):WG:=λd a Q=>Q (a.set i (some (.sh d)))
abbrev N0:=List D->Env->(Env->Prop)->Prop
def mU'(K:ay)(g:N0):RH:=λk j H l=>∃ c d b f Q,dA K c d j H b/\b9 K c f k/\g f d Q/\∀ h i e,dA K c i h H e->(∀ a∈e,a∈b)->Q i->l h H
abbrev Zn(X:Cx)(K:ay)(a:List Expr)(g:N0):Prop:=D9 X a (mU' K g)
def uw:N0:=λb a Q=>b=[]/\Q a
def fM(g:WG)(c:N0):N0:=λa b Q=>match a with
 |d :: a=>g d b λe=>c a e Q
 |[]=>False
def gT(n:Nat)(c:N0):WG:=λd b Q=>match d with
 |.tup a=>a.length=n/\c a b Q
 |_=>False
section
variable {X:Cx}{K:ay}{e:Expr}{c:List Expr}{g:WG}{j:N0}{f:Pos}
def PG.imp(h:PG X e t)(i:∀ v a H Q,o v a H Q->t v a H Q):PG X e o:=λb s a H v u Q I r q=>h b s a H v u Q I r (i v a H Q q)
def D9.imp(h:D9 X c t)(i:∀ v a H Q,o v a H Q->t v a H Q):D9 X c o:=λb s a H v u Q I r q=>h b s a H v u Q I r (i v a H Q q)
def dA.Oa(i:Nat)(s:dA K C U I H o)(r:Rep K C d v):∃ k,(∀ a∈k,a∈o)/\dA K C (U.set i (some (.sh d))) (I.set i (some v)) H k:=by obtain⟨t,a,b⟩:=s.S9 i (.sh r) oo λa h=>BE h;exact⟨t,λx l=>(a x l).resolve_right sM,b⟩
def aF(i:Nat)(p:autoParam (j8 X x) u')(q:autoParam (X.N.Nodup) u0)(n:autoParam (X.N[i]? = some x) bv)(l:autoParam (Loc X.env.scope x) wx):QG X K (.Name x f) (gN i) :=
 PG.imp (iC' q n l p) λv w H z u=>by obtain⟨A,y,a,d,Q,b,r,h,k⟩:=u;obtain⟨t,m,s⟩:=b.Oa i r;exact k _ _ t s m h
def pQ:Zn X K [] uw:=D9.imp iF' λv b H n l=>by obtain⟨p,d,a,m,Q,i,r,h,k⟩:=l;obtain⟨rfl,h⟩:=h;cases r;exact⟨rfl,k b d a i (λ_ z=>z) h⟩
def cX(x:QG X K e g)(w:Zn X K c j)(u:autoParam ((Fh (e :: c) X.env).map (·.2)=assign e X.env :: (Fh c X.env).map (·.2)) bv):Zn X K (e :: c) (fM g j) :=
 D9.imp (iG' x w u) λv F H L B=>by
  obtain⟨i,l,b,J,Q,n,r,h,k⟩:=B
  cases r with
  |nil=>exact h.elim
  |cons r p=>exact⟨_,_,rfl,i,l,b,_,_,n,r,h,λG z A y t q=>⟨i,z,A,_,Q,y,p,q,λm E d D s=>k m E d D λa h=>t a (s a h)⟩⟩
def vY(h:Zn X K c j)(p:autoParam ((Fh c X.env).length=n) bv)(m:autoParam ((Fh c X.env).findIdx? (·.1)=none) bv)(q:autoParam (X.calm=true) bv):QG X K (.Tuple c k f) (gT n j) :=
 PG.imp (iI' q h p m) λv u H w s=>by
  obtain⟨t,l,a,d,Q,b,r,h,k⟩:=s
  cases r with
  |tup z e i=>exact⟨_,_,rfl,.inl (.inl (b.wf.sub _ _ e)),by rw[<- i.length];exact h.1,t,l,a,_,Q,b,i,h.2,k⟩
  |_=>exact h.elim
end
abbrev WI:=Env->(List D->Prop)->Prop
structure oZ(K:ay)(J:It)(ds:List D)(C:Hp->Hp->Prop):Prop where
 go:∀ i Hs H,C Hs H->Wf Hs H->i<ds.length->J.go i H
 pT:∀ i Hs H x H' d,C Hs H->Wf Hs H->ds[i]? = some d->J.pT i H x H'->∃ aC,gd Hs H aC H'/\Rep K aC d x
 stop:∀ Hs H,C Hs H->Wf Hs H->J.stop ds.length H
abbrev BP(K:ay)(b:Hp)(J:It)(a:List D):Prop:=oZ K J a λG _=>bE b G
def nQ(a:List D):List D:=a.mapIdx λi x=>.tup [.int i,x]
section
variable {K:ay}{Hs:Hp}{J:It}{ds:List D}{C b:Hp->Hp->Prop}{a:ai}
def oZ.imp(S:oZ K J ds C)(h:∀ Hs H,b Hs H->C Hs H):oZ K J ds b:=⟨λi Hs H c=>S.go i Hs H (h _ _ c),λi Hs H x e d c=>S.pT i Hs H x e d (h _ _ c),λHs H c=>S.stop Hs H (h _ _ c)⟩
def oZ.seq(c:b9 K Hs ds o)(S:fD J o λH=>bE Hs H):BP K Hs J ds where
 go:=λi G H s w h=>S.go i H (s.trans w.sub) (by rw[<- c.length];exact h)
 pT:=λi G H x k d s w h y=>by
  have j:i<ds.length:=by
   rcases Nat.lt_or_ge i ds.length with q|q
   ·exact q
   ·rw[DU q] at h;cases h
  obtain⟨e,z⟩:=S.pT i H x k (s.trans w.sub) (by rw[<- c.length];exact j) y;subst e;obtain⟨l,f,g⟩:=c.bI' z;rw[h] at f;cases f;exact⟨G,gd.refl w,g.same s⟩
 stop:=λG H s w=>by rw[c.length];exact S.stop H (s.trans w.sub)
abbrev yt(K:ay)(a:ai)(ds:List D)(C:Hp->Hp->Prop):Prop:=∀ Hs H,C Hs H->Wf Hs H->∃ c,eP K H a c/\b9 K Hs ds c
def oZ.list(h:yt K a ds C):oZ K (Wi K a) ds C where
 go:=λi G H c w k=>by obtain⟨e,q,f⟩:=h G H c w;exact⟨e,e[i]'(by rw[<- f.length];exact k),q,by simp⟩
 pT:=λi G H x n d c w l y=>by obtain⟨e,q,f⟩:=h G H c w;obtain⟨rfl,y⟩:=y;obtain⟨m,g,j⟩:=f.bI' (y e q);rw[l] at g;cases g;exact⟨G,gd.refl w,j⟩
 stop:=λG H c w=>by obtain⟨e,q,f⟩:=h G H c w;exact⟨e,q,by rw[f.length];exact cE _⟩
def oZ.enum(h:yt K a ds C):oZ K (Ite K a) (nQ ds) C where
 go:=λi G H c w f=>by
  obtain⟨vs,q,e⟩:=h G H c w;have f:i<ds.length:=by simpa[nQ] using f
  exact⟨vs,vs[i]'(by rw[<- e.length];exact f),q,by simp⟩
 pT:=λi G H x r d c w j y=>by
  obtain⟨vs,q,e⟩:=h G H c w;obtain⟨p,v,rfl,l,rfl,y⟩:=y;obtain⟨n,m,k⟩:=e.bI' (y vs q);have:d=.tup [.int i,n]:=by simp only[nQ,List.getElem?_mapIdx,m,Ua] at j;cases j;rfl
  subst this;have g:=Zh (vs:=[.int i,v]) w l;exact⟨_,g,.tup (vs:=[.int i,v]) Gf eT (.cons (.int _) (.cons (k.same g.sh) .nil))⟩
 stop:=λG H c w=>by obtain⟨vs,q,e⟩:=h G H c w;exact⟨vs,q,by rw[nQ,List.length_mapIdx,e.length];exact cE _⟩
def sH(s:eP K Hs a o)(d:b9 K Hs ds o):yt K a ds λG _=>bE Hs G:=λG H c w=>⟨o,bE.seq (c.trans w.sub) s,d.same c⟩
end
def tpI(K:ay)(h:WI):TI:=λg H R=>∃ e c a Q,dA K e c g H a/\h c Q/\∀ J f d b,gd e H d f->BP K d J b->b.length<=bG->Q b->R J f
abbrev QI(X:Cx)(K:ay)(c a:Expr)(b:WI):Prop:=PI X c a (tpI K b)
def pW:Md->Prop
 |.wb .. => False
 |.bo=>False
 |_=>True
def e_(c:WE):WI:=λa Q=>c a λm d=>pW m/\match d with
 |.list b=>Q b
 |_=>False
def zj(c:WE):WI:=λa Q=>c a λm d=>pW m/\match d with
 |.tup b=>Q b
 |_=>False
def bT'(z:Str):List D:=z.cps.toList.map λc=>.str ⟨#[c]⟩
def D_(b:WE):WI:=λa Q=>b a λ_ d=>match d with
 |.str z=>Q (bT' z)
 |_=>False
def gD(a:Int)(n:Nat):List D:=(List.range n).map λi=>.int (a+(i:Nat))
def dq(b:WE):WI:=λa Q=>b a λ_ d=>match d with
 |.int j=>j<=16777216/\-(2 ^ 62)<=j/\Q (gD 0 j.toNat)
 |_=>False
def vM(c b:WE):WI:=λa Q=>c a λ_ x=>b a λ_ y=>match x with
 |.int i=>match y with
  |.int j=>j-i<=16777216/\(-(2 ^ 62)<=i/\i<2 ^ 62/\-(2 ^ 62)<=j/\j<2 ^ 62)/\Q (gD i (j-i).toNat)
  |_=>False
 |_=>False
section
variable {X:Cx}{K:ay}{e C A:Expr}{o F:WE}{B p:Pos}
def PI.imp(h:PI X A U t)(i:∀ a H R,t' a H R->t a H R):PI X A U t':=λb s a H R I q=>h b s a H R I (i a H R q)
def fD.imp{J:It}(s:fD J vs c)(h:∀ H,I H->c H):fD J vs I:=⟨λi H q=>s.go i H (h H q),λi H x a q=>s.pT i H x a (h H q),λH q=>s.stop H (h H q)⟩
def RM.tX(g:gd Hs H I U)(r:RM K I U m d v As)(f:cR I H As)(h:pW m):∃ b,gd Hs H b U/\Rep K b d v:=by
 have n:∀ a∈As,I a=none:=λa i=>(f.2 a i).1;have c:Rep K (ER I U As) d v->∃ b,gd Hs H b U/\Rep K b d v:=λz=>by
  refine⟨ER I U As,⟨g.all,g.sh.trans (gZ n),Fq g.wf r.own,λa h=>?_⟩,z⟩;unfold ER at h;by_cases m:a∈As
  ·exact .inr (f.2 a m).2
  ·rw[if_neg m] at h;exact g.new a h
 cases m with
 |sh=>exact⟨I,g,r.2⟩
 |bo=>exact h.elim
 |wb=>exact h.elim
 |ow j=>exact c (df.rep (gZ n) r.1 λa i=>by unfold ER;rw[if_pos i])
def eU(t:QE X K e o)(u:autoParam (X.K=K) bv):QI X K A e (e_ o):=by
 subst u;refine PI.imp (ds' t) λG H R r=>iF r λD g b Q i h k=>⟨D,g,b,_,i,h,λv E J m d M w n x a=>?_⟩
 obtain⟨q,a⟩:=a;obtain⟨y,f,l⟩:=n.tX w x q
 cases l with
 |list z s c=>exact⟨_,rfl,⟨_,bE.seq f.wf.sub s⟩,k _ E y _ f (.seq c (fD.imp (DP X.K _ _) λL j=>bE.seq j s)) (by rw[c.length];exact z) a⟩
 |_=>exact a.elim
def Ft(t:QE X K e o)(G:autoParam (X.K=K) bv):QI X K A e (zj o):=by
 refine PI.imp (dt' t) λE H R r=>iF r λy g b Q i h k=>⟨y,g,b,_,i,h,λv D J m d M u n w a=>?_⟩
 obtain⟨q,a⟩:=a;obtain⟨x,f,l⟩:=n.tX u w q
 cases l with
 |tup z s c=>exact⟨_,rfl,⟨_,.inl (.inl (f.wf.sub _ _ s))⟩,k _ D x _ f (.seq c (fD.imp (zq X.K _ _) λL j=>.inl (.inl (j _ _ s)))) (by rw[c.length];exact z) a⟩
 |_=>exact a.elim
theorem vg:∀ (l:List Nat),b9 K H (l.map λc=>.str ⟨#[c]⟩) (l.map λc=>V.str ⟨#[c]⟩)
 |[]=>.nil
 |c :: l=>.cons (.str (Ba c)) (vg l)
def Kv(n:QE X K e o):QI X K A e (D_ o):=by
 refine PI.imp (Ms n) λu H R l=>iF l λs f a Q g h k=>⟨s,f,a,_,g,h,λv t q m d x c i w b=>?_⟩
 have r:=i.rep c.wf
 cases r with
 |str j=>exact⟨_,rfl,k _ t q _ c (.seq (vg _) (fD.imp (Jx _) λ_ _=>trivial)) (by rw[cx,A4];exact j) b⟩
 |_=>exact b.elim
theorem mR(a:Int):∀ (l:List Nat),b9 K H (l.map λi=>.int (a+(i:Nat))) (l.map λi=>V.int (a+(i:Nat)))
 |[]=>.nil
 |c :: l=>.cons (.int _) (mR a l)
def cQ (q:X.mg "range" = none) (t:QE X K e o) (s:Gl X "range" := by rfl) (n:autoParam (aR X e []) bv) (w:autoParam (fN [e] X.env=[(false,dn e X.env)]) bv):QI X K A (.Call (.Name "range" p) [e] [] B) (dq o):=by
 refine PI.imp (iS' s q (lP t og n) w) λD H R l=>iF l λy f b Q g h k=>⟨y,f,b,_,g,h,λv z x m d J c i G a=>?_⟩
 have r:=i.rep c.wf
 cases r with
 |int j =>obtain⟨E,u,a⟩:=a;exact⟨j,rfl,u,by lia,k _ z x _ c (.seq (mR 0 _) (fD.imp (zr _ _) λ_ _=>trivial)) (by rw[cx,T1,kQ];lia) a⟩
 |_=>exact a.elim
def Jh (G:X.mg "range" = none) (L:QE X K e o) (S:QE X K C F) (J:Gl X "range" := by rfl) (E:autoParam (fN (e :: [C]) X.env=(false,dn e X.env) :: fN [C] X.env) bv) (z:autoParam (aR X C []) bv) (N:autoParam (fN [e,C] X.env=[(false,dn e X.env),(false,dn C X.env)]) bv) (f:autoParam (fN [C] X.env=[(false,dn C X.env)]) bv):QI X K A (.Call (.Name "range" p) [e,C] [] B) (vM o F):=by
 refine PI.imp (iT' J G (lP L (lP S og z) E) N f) λW H R D=>iF D λT g a Q l h k=>⟨T,g,a,_,l,h,λv U O m d As q t I x=>⟨O,g,a,_,l.grow q,x,λu V P n y Bs c s Z b=>?_⟩⟩
 have r:=(t.grow c).rep c.wf;have w:=s.rep c.wf
 cases r with
 |int i=>cases w with
  |int j =>obtain⟨Y,M,b⟩:=b;exact⟨i,j,rfl,M,k _ V P _ (q.trans c) (.seq (mR i _) (fD.imp (zr _ _) λ_ _=>trivial)) (by rw[cx,T1,kQ];lia) b⟩
  |_=>exact b.elim
 |_=>exact b.elim
section
variable {X:Cx}{K:ay}{e A:Expr}{o:WE}{B p:Pos}
def bV'(K:ay)(h:WI):TI:=λg H R=>∃ f d a Q,dA K f d g H a/\h d Q/\∀ J c i b,gd f H i c->BP K c J b->b.length<=bG->Q b->R J c
abbrev S_(X:Cx)(K:ay)(A a:Expr)(b:WI):Prop:=PI X A a (bV' K b)
def jZ(h:QI X K A I U):S_ X K A I U:=PI.imp h λm H R d=>iF d λj b a Q c h k=>⟨j,b,a,Q,c,h,λJ l i f g w z q=>k J l i f g (w.imp λG H s=>g.wf.sub.trans s) z q⟩
def h_(o:WE):WI:=λa Q=>o a λ_ d=>match d with
 |.list b=>Q b
 |_=>False
def rF(o:WE):WI:=λa Q=>o a λ_ d=>match d with
 |.tup b=>Q b
 |_=>False
def wF(o:WE):WI:=λa Q=>o a λ_ d=>match d with
 |.list b=>Q (nQ b)
 |_=>False
def jE(n:QE X K e o)(q:autoParam (X.K=K) bv):S_ X K A e (h_ o):=by
 subst q;refine PI.imp (ds' n) λx H R l=>iF l λu g a Q i h k=>⟨u,g,a,_,i,h,λv w t m d D f j y c=>?_⟩
 have r:=j.rep f.wf
 cases r with
 |list z s b=>exact⟨_,rfl,⟨_,s⟩,k _ w t _ f (.list (sH s b)) (by rw[b.length];exact z) c⟩
 |_=>exact c.elim
def su(q:QE X K e o)(y:autoParam (X.K=K) bv):S_ X K A e (rF o):=by
 refine PI.imp (dt' q) λx H R n=>iF n λu g a Q i h k=>⟨u,g,a,_,i,h,λv w t m d G f l D c=>?_⟩
 have r:=l.rep f.wf
 cases r with
 |tup z s b=>exact⟨_,rfl,⟨_,.inl (.inl s)⟩,k _ w t _ f (.seq b (fD.imp (zq X.K _ _) λE j=>.inl (.inl (j _ _ s)))) (by rw[b.length];exact z) c⟩
 |_=>exact c.elim
def JD (q:X.mg "enumerate" = none) (u:QE X K e o) (w:autoParam (X.K=K) bv) (t:Gl X "enumerate" := by rfl) (n:autoParam (aR X e []) bv) (x:autoParam (fN [e] X.env=[(false,dn e X.env)]) bv) :
  S_ X K (.Tuple I kk U) (.Call (.Name "enumerate" p) [e] [] B) (wF o):=by
 subst w;refine PI.imp (HH t q (lP u og n) x) λG H R l=>iF l λD g a Q i h k=>⟨D,g,a,_,i,h,λv E y m d L f j J c=>?_⟩
 have r:=j.rep f.wf
 cases r with
 |list z s b=>exact⟨_,rfl,⟨_,s⟩,k _ E y _ f (.enum (sH s b)) (by rw[nQ,List.length_mapIdx,b.length];exact z) c⟩
 |_=>exact c.elim
end
def jD(g:WG)(b:WS)(E:gC):List D->Env->Prop
 |[],a=>E.nx a
 |x :: c,a=>g x a λd=>b { E with nx:=jD g b E c,ct:=jD g b E c,bk:=E.nx } d
def qA(c:WI)(g:WG)(b:WS):WS:=λE a=>c a λd=>jD g b E d a
variable {j:WI}{g:WG}{b:WS}{f:List kf}
def b_(hi:QI X K A I j)(hg:QG X K A g)(hb:y8 X K L f b)(hs:autoParam (∀ x,LJ I X.env x=pure x) vw)(hp:PassesOwn (aE X.prog X.w) X.A X.env X.xe:=by first|exact PassesOwn.never|exact PassesOwn.leaving)(hc:autoParam (X.calm=true) bv) :
  QS X K L (.For A I f [] B) (qA j g b):=by
 refine PS.imp (iW' hp hc hi hg hb hs) λD U H hx=>pq hx λHs ab q E sr h k1 k2 k3 k4 kx=>?_;refine⟨Hs,ab,q,_,sr,h,λJ H1 Y a w S hz q1=>?_⟩;refine⟨λi m U H=>m=a.length-i/\i<=a.length/\∃ G z W,bE Y G/\dA K G z U H W/\jD g b E (a.drop i) z,⟨a.length,by simp,gy _,Y,ab,q,bE.refl _,sr.grow w,by simpa using q1⟩,?_⟩;rintro i m n9 V ⟨rfl,hi,R,fw,e7,s,u,P⟩;by_cases Q:i<a.length
 ·refine .inr ⟨S.go i R V s u.wf Q,λwm T=>∃ G z W,bE Y G/\dA K G z wm T W/\jD g b E (a.drop (i+1)) z,λwm T h3=>⟨a.length-(i+1),by lia,rfl,Q,h3⟩,λx T y=>?_⟩;obtain⟨fo,g3,rd⟩:=S.pT i R V x T a[i] s u.wf (by simp[Q]) y;rw[B3 Q] at P;have r:=s.trans g3.sh;refine⟨fo,fw,e7,a[i],_,u.grow g3,rd,P,λae nK U4 N3 _ q4=>?_⟩;refine⟨fo,nK,U4,_,N3,q4,?_,?_,?_,?_,λn l c=>kx n l ((w.sh.trans r).trans c)⟩
  ·exact λZ l k O N c M t=>⟨k,O,N,r.trans c,M,t⟩
  ·exact λZ l k O N c M t=>k1 Z l k O N ((w.sh.trans r).trans c) M t
  ·exact λZ l k O N c M t=>⟨k,O,N,r.trans c,M,t⟩
  ·exact λv l k m d As c=>k4 v l k m d As ((w.sh.trans r).trans c)
 ·have e:i=a.length:=by lia
  subst e;refine .inl ⟨S.stop R V s u.wf,?_⟩;rw[P5] at P;exact k1 n9 V R fw e7 (w.sh.trans s) u P
def bw(xs:List D)(c:Nat->Env->Prop)(s:c 0 a)(n:∀ i x a,xs[i]? = some x->c i a->∀ N:Env->Prop,(∀ h,c (i+1) h->N h)->g x a λm=>b { E with nx:=N,ct:=N,bk:=E.nx } m) (q:∀ a,c xs.length a->E.nx a):jD g b E xs a:=by
 have t:∀ k i a,i+k=xs.length->c i a->jD g b E (xs.drop i) a:=by
  intro k
  induction k with
  |zero =>
   intro i a e p;have:i=xs.length:=by lia
   subst this;rw[P5];exact q a p
  |succ k l =>
   intro i a e p;have d:i<xs.length:=by lia
   rw[B3 d];exact n i xs[i] a (by simp[d]) p _ λu r=>l (i+1) u (by lia) r
 have:=t xs.length 0 a (by lia) s;simpa using this
def wM(c:WT)(b:WS):WS:=λE a=>∃ (i:Env->Prop) (h:Env->Nat),i a/\∀ a,i a->c a λk=>if k=true then b { E with nx:=λd=>i d/\h d<h a,ct:=λd=>i d/\h d<h a,bk:=E.nx } a else E.nx a
def pJ(hc:QT X K c tc)(hb:y8 X K L f b)(hp:PassesOwn (aE X.prog X.w) X.A X.env X.xe:=by first|exact PassesOwn.never|exact PassesOwn.leaving):QS X K L (.While c f [] B) (wM tc b):=by
 refine PS.imp (iK' hp hc hb) λD V H hx=>pq hx λO ab P E sr h Z k2 k3 k4 kx=>?_;obtain⟨U,M,p0,u⟩:=h;refine⟨λm V H=>∃ s i y,bE O s/\dA K s i V H y/\U i/\M i=m,⟨_,O,ab,P,bE.refl _,sr,p0,rfl⟩,?_⟩;rintro m n9 H2 ⟨aS,x,S,W,Q,p2,rfl⟩;refine⟨aS,x,S,_,Q,u x p2,λk H3 R N Y=>?_⟩
 cases k with
 |false=>exact Z n9 H3 R x S (W.trans N.sh) (Q.grow N) Y
 |true =>
  refine⟨λI H'=>∃ s i y,bE O s/\dA K s i I H' y/\U i/\M i<M x,λI H' zq=>by obtain⟨s,i,y,a,b,c,d⟩:=zq;exact⟨M i,d,s,i,y,a,b,c,rfl⟩,?_⟩;have w:bE O R:=W.trans N.sh;refine⟨R,x,S,_,Q.grow N,Y,?_,?_,?_,?_,λn t l=>kx n t (w.trans l)⟩
  ·exact λT t q J G l z r=>⟨q,J,G,w.trans l,z,r.1,r.2⟩
  ·exact λT t q J G l z r=>Z T t q J G (w.trans l) z r
  ·exact λT t q J G l z r=>⟨q,J,G,w.trans l,z,r.1,r.2⟩
  ·exact λv t q m d As l=>k4 v t q m d As (w.trans l)
end
def vt:WT:=λ_ Q=>Q true
def bW'(m:Md)(d:D):Prop:=d.flat=true\/m=.ow true
def f9(g:WG)(e:WT)(c:WE):List D->Env->(List D->Prop)->Prop
 |[],_,k=>k []
 |x :: h,i,k=>g x i λa=>e a λb=>if b=true then c a λm d=>bW' m d/\f9 g e c h a (λf=>k (d :: f)) else f9 g e c h a k
def xY(b:Nat)(c:List Nat)(a:Env):Env:=List.replicate b none++c.map λj=>(a[j]?).join.map shC
def dD(c:WI)(g:WG)(f:WT)(e:WE)(d:Nat)(h:List Nat):WE:=λb Q=>c b λi=>f9 g f e i (xY d h b) λa=>Q (.ow true) (.list a)
section
variable {X:Cx}{K:ay}
theorem jr{k H G:Hp}(c:dA K k C I H U)(g:Hp):∀ (f:List Nat),SR K H g (f.map λj=>(C[j]?).join.map shC) (f.map λj=>(I[j]?).join) []
 |[]=>.nil
 |j :: f=>by
  have b:=jr c g f (G:=G);simp only[eR]
  cases e:C[j]? with
  |none=>exact .non b
  |some o =>
   cases o with
   |none=>exact .non b
   |some h =>
    obtain⟨v,i,r⟩:=c.sr.get e;rw[i]
    cases h with
    |sh d=>exact .sh (Rep.same c.wf.sub r) b
    |xc a=>subst r;exact .xc b
    |ob a p=>obtain⟨r,_⟩:=r;subst r;exact .xc b
    |ow l d =>obtain⟨m,_,r,_⟩:=r;exact .sh (r.rep c.wf.sub λ_ _=>rfl) b
theorem lA(s:SR K H G C o []):∀ n,SR K H G (List.replicate n none++C) (List.replicate n none++o) []
 |0=>s
 |n+1=>.non (lA s n)
def SR.heap(s:SR K I H C o []):SR K I U C o []:=s.gE (bE.refl _) λa h=>nomatch h
def jQ(w:Wf C H)(n:C p=none)(e:∀ d,o≠.tup d):Wf C (upd H p o):=⟨λb u q=>by
  rw[dr (λz=>by subst z;rw[n] at q;cases q)];exact w.sub b u q,λb a q=>by
  by_cases c:b=p
  ·subst c;rw[eT] at q;exact absurd (Option.some.inj q) (e a)
  ·rw[dr c] at q;exact w.kU b a q⟩
structure CompI(K:ay)(H1:Hp)(b:ai)(acc:List D)(ys:List V)(As:List ai)(Hs:Hp)(ρ:Env)(τ:St)(H:Hp):Prop where
 sm:bE H1 Hs
 sr:dA K Hs ρ τ H []
 eD:H b=some (.lst ys)
 nD:Hs b=none
 ra:aH K Hs H true acc ys As
 nd:(b :: As).Nodup
 own:∀ a∈As,Hs a=none
def CompI.grow(c:CompI K H1 b o U As Hs I C H)(g:gd Hs H aC H'):CompI K H1 b o U As aC I C H' :=
 ⟨c.sm.trans g.sh,c.sr.grow g,g.all _ _ c.eD,g.sR c.nD (by rw[c.eD];exact λz=>nomatch z),c.ra.grow g.sh g.all,c.nd,λa d=>g.sR (c.own a d) (c.ra.own a d).ne⟩
def CompI.push(c:CompI K H1 b I U As o ae ab H)(r:RM K o H m d v C)(n:bW' m d)(p:C.Nodup)(w:∀ a∈C,o a=none/\a∉b :: As):∃ s,CompI K H1 b (I++[d]) (U++[v]) s o ae ab (upd H b (.lst (U++[v]))):=by
 obtain⟨B,i,l⟩:∃ B,B.Sublist C/\df K o H true d v B:=by
  rcases n with k|rfl
  ·exact⟨[],HM _,.sh (λ_=>k) (r.flat c.sr.wf k)⟩
  ·exact⟨C,List.Sublist.refl _,r.1⟩
 obtain⟨j,q⟩:=om.mp c.nd;have g:=λa f=>w a (i.subset f);refine⟨As++(B++[]),c.sm,⟨c.sr.sr.heap,jQ c.sr.wf c.nD (λ_ z=>nomatch z),oo,λa h=>nomatch h⟩,eT,c.nD,(c.ra.gE (bE.refl _) λa f=>dr λz=>j (by subst z;exact f)).append (.cons (l.gE (bE.refl _) λa f=>dr λz=>(g a f).2 (by subst z;exact eK)) .nil),?_,?_⟩
 ·rw[ng];refine om.mpr ⟨λm=>(kA.mp m).elim j λm=>(g b m).2 eK,ui.mpr ⟨q,i.nodup p,λx u y t e=>(g y t).2 (e ▸ eI _ u)⟩⟩
 ·rw[ng];exact λa f=>(kA.mp f).elim (c.own a) λm=>(g a m).1
def yr(h:oC K (dD wi g I C o U) ar H Qv):zN (bV' K wi) (tpG K g) (EJ K I) (oC K C) o U ar H Qv:=by
 obtain⟨Hs,aw,Z,Q,sr,h,f⟩:=h;refine⟨Hs,aw,Z,_,sr,h,λJ q aT l O S hz q1 b hb=>?_⟩;have st:CompI K q b [] [] [] q (xY o U aw) (pI o U ar) (upd q b (.lst [])):=by
  refine⟨bE.refl _,⟨lA (jr (G:=q) (sr.grow O) _ U) o,⟨(bE.refl q).upd hb,λa xs e=>?_⟩,oo,λa h=>nomatch h⟩,eT,hb,.nil,by simp,λa h=>nomatch h⟩;by_cases s:a=b
  ·subst s;rw[eT] at e;cases e
  ·rw[dr s] at e;exact e
 refine⟨λi m af B=>m=l.length-i/\i<=l.length/\∃ E P j r D,CompI K q b j r D E P af B/\j.length<=i/\f9 g I C (l.drop i) P (λn=>Q (.ow true) (.list (j++n))), ⟨l.length,by simp,gy _,q,_,[],[],[],st,cE _,by simpa using q1⟩,?_⟩
 rintro i m af B ⟨rfl,hi,E,P,j,r,D,c,la,u⟩;by_cases M:i<l.length
 ·refine .inr ⟨S.go i E B c.sm c.sr.wf M,
   λF v H4=>∃ W p d,CompI K q b j r D W p F H4/\(∃ L,CompI K q b (j++[d]) (r++[v]) L W p F (upd H4 b (.lst (r++[v]))))/\f9 g I C (l.drop (i+1)) p (λn=>Q (.ow true) (.list (j++d :: n))),
   λF N=>∃ w V,CompI K q b j r D w V F N/\f9 g I C (l.drop (i+1)) V (λn=>Q (.ow true) (.list (j++n))),?_,?_,?_⟩
  ·rintro F v H4 ⟨W,p,d,T,⟨L,A⟩,q4⟩;have ab:=T.ra.length;exact⟨r,l.length-(i+1),T.eD,by lia,by lia,rfl,M,W,p,j++[d],r++[v],L,A,by rw[kz];simpa using la,by simpa using q4⟩
  ·rintro F N ⟨w,V,t,q3⟩;exact⟨l.length-(i+1),by lia,rfl,M,w,V,j,r,D,t,by lia,q3⟩
  ·intro x N y;obtain⟨w,g3,rd⟩:=S.pT i E B x N l[i] c.sm c.sr.wf (by simp[M]) y;rw[B3 M] at u;have t:=c.grow g3;refine⟨w,P,[],l[i],_,t.sr,rd,u,λY p U4 N3 m4 q4=>?_⟩;have t4:U4=[]:=xdP.mpr λa s=>nomatch m4 a s;subst t4;have T:CompI K q b j r D w p Y N:=⟨t.sm,N3,t.eD,t.nD,t.ra,t.nd,t.own⟩
   refine⟨w,p,[],_,N3,q4,λk H5 qB g5 q5=>?_⟩;have A:=T.grow g5
   cases k with
   |false=>exact⟨qB,p,A,q5⟩
   |true =>
    refine⟨qB,p,[],_,A.sr,q5,λv H6 ae m6 d6 a0 g6 r6 R q6=>?_⟩;have c6:=A.grow g6;refine⟨ae,p,d6,c6,c6.push r6 q6.1 R.1 λa s=>⟨(R.2 a s).1,λm=>?_⟩,q6.2⟩;rcases dQ.mp m with rfl|m
    ·have:=(R.2 _ s).2;rw[A.eD] at this;cases this
    ·exact(A.ra.own a m).ne (R.2 a s).2
 ·have e:i=l.length:=by lia
  subst e;refine .inl ⟨S.stop E B c.sm c.sr.wf,?_⟩;rw[P5] at u;have u:Q (.ow true) (.list (j++[])):=u;rw[ng] at u;have ab:=c.ra.length;have rm:RM K E B (.ow true) (.list j) (.ref b) (b :: D):=⟨.list (by lia) c.eD c.ra,by simp⟩
  obtain⟨L,r',fr⟩:=pA O.wf c.sm c.sr.wf rm c.nd λa s=>(dQ.mp s).elim (λz=>z ▸ c.nD) (c.own a);exact Fin.after f O (.ref b) B _ (.ow true) (.list j) L (gj O.wf c.sm c.sr.wf) r' fr u
def EC.imp(h:EC X o t)(i:∀ a H Q,C a H Q->t a H Q):EC X o C:=λb s a H Q I q=>h b s a H Q I (i a H Q q)
abbrev Zo(X:Cx)(K:ay)(a:List Expr)(t:WT):Prop:=EC X a (EJ K t)
def b8:Zo X K [] vt:=EC.imp Hm λe H g c=>iF c λd f a Q b h k=>k true H d (gd.refl b.wf) h
def jz(h:QT X K c t):Zo X K [c] t:=Ik h
def cj(f:S_ X K tg I wi)(i:∀ {C c b a} {q:(tn++cn).Nodup},QG (bh X o C (tn++cn) c b a) K tg g) (l:∀ {C c b a},Zo (bh X o C (tn++cn) c b a) K U tc) (j:∀ {C c b a},QE (bh X o C (tn++cn) c b a) K ab te)(e:autoParam (∀ x,LJ I X.env x=pure x) vw) (d:(tn++cn).Nodup:=by decide +kernel) (O:fj X o tn cn ix:=by exact fj.by (by assumption) (by decide +kernel)) (k:autoParam (X.calm=true) bv):QE X K (.ListComp ab [⟨tg,I,U,0⟩] o ae) (dD wi g tc te tn.length ix) :=
 PE.imp (Hw k f O (λ_ _ _ _=>i (q:=d)) (λ_ _ _ _=>l) (λ_ _ _ _=>j) e) λm H n h=>yr h
end
def bV(p:D->Bool)(f:D->D)(i:Env->Prop):∀ e c k,i c -> (∀ x∈e,∀ c,i c->∀ t:Env->Prop,∀ s:Env->D->Prop,(∀ a,i a->p x=false->t a)->(∀ a,i a->p x=true->s a (f x))->g x c λj=>C j λb=>if b=true then o j λm d=>bW' m d/\s j d else t j) ->
  k ((e.filter p).map f)->f9 g C o e c k
 |[],_,k,_,_,h=>h
 |x :: e,c,k,u,n,h=>by
  refine n x eK c u _ _ (λa r q=>?_) (λa r q=>?_)
  ·exact bV p f i e a k r (λy l=>n y (eI _ l)) (by simpa[q] using h)
  ·exact bV p f i e a _ r (λy l=>n y (eI _ l)) (by simpa[q] using h)
def Upd(K:ay)(h H:Hp)(i:St)(k:Bool)(v:V)(j:Bool->D->Env)(f:List ai):Prop:=∀ b d e g c,bE h b->Wf b d->(∀ a,h a=none->H a≠none->b a=none)->(e=true->k=true) ->
  df K b d e g v c->c≠[]->c.Nodup->(∀ a∈c,b a=none/\(a∈f\/H a=none))->(∀ a,H a≠none->a∉f->d a=H a)->∃ l,dA K b (j e g) i d l
structure Place(K:ay)(Hs H:Hp)(σ:St)(fl:Bool)(d:D)(v:V)(up:Bool->D->Env):Prop where
 ex:∃ iA,df K Hs H fl d v iA/\iA≠[]/\iA.Nodup/\(∀ a∈iA,Hs a=none)/\Upd K Hs H σ fl v up iA
def Upd.node{K:ay}(k:Upd K Hs H ab fl (.ref a) up (a :: A))(g:gd Hs H I H2)(c:∀ x∈a :: A,Hs x=none/\H x≠none)(m:∀ j,o≠.tup j)(n:U=true->fl=true)(r:df K I (upd H2 a o) U d2 (.ref a) (a :: C)) (l:C.Nodup) (t:a∉C) (p:∀ x∈C,x∈A\/(I x=none/\H x=none)):∃ s,dA K I (up U d2) ab (upd H2 a o) s:=by
 have d:∀ x∈a :: A,I x=none:=λx i=>g.sR (c x i).1 (c x i).2;refine k I _ U d2 (a :: C) g.sh (jQ g.wf (d a eK) m) (λb h f=>g.sR h f) n r (VD _ _) (om.mpr ⟨t,l⟩) (λb e=>?_) λb h f=>?_
 ·rcases dQ.mp e with rfl|e
  ·exact⟨d _ eK,.inl eK⟩
  ·exact(p b e).elim (λq=>⟨d b (eI _ q),.inl (eI _ q)⟩) λq=>⟨q.1,.inr q.2⟩
 ·rw[dr λz=>f (by subst z;exact eK)]
  cases q:H b with
  |none=>exact absurd q h
  |some o=>exact g.all b o q
abbrev WP:=Env->(Bool->D->(Bool->D->Env)->Prop)->Prop
def tpP(K:ay)(t:WP):TE:=λc H j=>∃ i e a Q,dA K i e c H a/\t e Q/\∀ v b h g d f,gd i H h b->Place K h b c g d v f->Q g d f->j v b
abbrev QP(X:Cx)(K:ay)(e:Expr)(t:WP):Prop:=PE X e (tpP K t)
section
variable {K:ay}{k H:Hp}{o:St}{l:Bool}{d:D}{v:V}
def df.ne2:(∀ {d} {v} {a},df K k H true d v a->d.flat=false->a≠[])/\∀ {b} {c} {a},aH K k H true b c a->eh b=false->a≠[] :=
 df.ind (λ_ _ f _ h=>by rw[f rfl] at h;cases h) (λ_ _ _ _ _ _ _ _ _=>VD _ _) (λ_ _ _ _ _ _ n _ g _=>g n) (λ_ _ _ _ _ _ _ _ _=>VD _ _) (λ_ _ _ _ _ _ _ _ _=>VD _ _) (λh=>by simp[eh] at h) λd _ _ _ _ _ _ _ j i h=>by
   cases e:d.flat with
   |false=>exact λz=>j e (TQ.mp z).1
   |true =>simp only[eh,e,VY] at h;exact λz=>i h (TQ.mp z).2
def df.ne(r:df K k H true d v C)(h:d.flat=false):C≠[]:=df.ne2.1 r h
def k5(i:Nat):WP:=λa Q=>match a[i]? with
 |some (some (.ow l d))=>Q l d λb c=>a.set i (some (.ow b c))
 |_=>False
def SR.put(i:Nat)(s:SR K k H I o C)(e:I[i]? = some (some (.ow l d)))(n:C.Nodup) :
  ∃ v j,o[i]? = some (some v)/\j≠[]/\df K k H l d v j/\j.Sublist C/\∀ p q w z m,bE k p->df K p q w z v m->m≠[]->m.Nodup->(∀ a∈m,a∈C->a∈j)->(∀ a∈C,a∉j->q a=H a) ->
   ∃ y,y.Nodup/\(∀ a∈y,a∈C\/a∈m)/\SR K p q (I.set i (some (.ow w z))) o y:=by
 obtain⟨j,D,f,g⟩:=s.chg i n;obtain⟨_,A,h⟩:=f _ e
 cases h with
 |ow G r =>refine⟨_,j,A,G,r,D,λp q w z m E F u M L B=>?_⟩;obtain⟨t,a,b,_,_,c⟩:=g E B (.ow u F) M L;rw[wK A] at c;exact⟨t,a,λx J=>(b x J).symm.imp And.left id,c⟩
def aQ{X:Cx}(h:PE X e (kr i)):QP X K e (k5 i):=PE.imp h λo H V G=>iF G λk T t Q b h f=>by
 unfold k5 at h;split at h
 ·rename_i l d M;obtain⟨v,S,L,D,r,n,g⟩:=SR.put i b.sr M b.ti;refine⟨v,L,f v H k l d _ (gd.refl b.wf) ⟨S,r,D,n.nodup b.ti,λa h=>b.own a (n.subset h),λO P J N F A s E _ B c R p w=>?_⟩ h⟩;obtain⟨u,x,y,z⟩:=g O P J N F A B c R (λa j m=>(p a j).2.elim id λq=>absurd q (b.sr.own a m).ne) λa j m=>w a (b.sr.own a j).ne m;exact⟨u,z,s,x,λa h=>(y a h).elim (λq=>E a (b.own a q) (b.sr.own a q).ne) λq=>(p a q).1⟩
 ·exact h.elim
def df.wk(h:C=true->l=true)(r:df K k H l d v I):df K k H C d v I:=by
 cases C with
 |false=>exact r.Zg
 |true=>rw[h rfl] at r;exact r
def aH.wk{l a:Bool}{d:List D}{v:List V}{b:List ai}(h:a=true->l=true)(r:aH K k H l d v b):aH K k H a d v b:=by
 cases a with
 |false=>exact r.Zg
 |true=>rw[h rfl] at r;exact r
def aH.at(r:aH K k H l M vs I)(e:M[j]? = some d)(n:I.Nodup) :
  ∃ v B,vs[j]? = some v/\df K k H l d v B/\B.Sublist I/\∀ t u s E i,bE k t->(s=true->l=true)->df K t u s E v i->i.Nodup->(∀ a∈i,a∈I->a∈B)->(∀ a∈I,a∉B->u a=H a) ->
   ∃ p,p.Nodup/\(∀ a∈p,(a∈I/\a∉B)\/a∈i)/\(i≠[]->p≠[])/\aH K t u s (M.set j E) vs p:=by
 induction M generalizing vs I j with
 |nil=>simp at e
 |cons x M W =>
  obtain⟨v,Y,A,B,rfl,rfl,r,S⟩:=r.c;obtain⟨V,T,D⟩:=ui.mp n
  cases j with
  |zero =>
   simp at e;subst e;refine⟨v,A,rfl,r,Z7 _ _,λt u s E i G J O R N F=>⟨i++B,ui.mpr ⟨R,T,λa f b L e=>?_⟩,λa h=>?_,λP z=>P (TQ.mp z).1,.cons O ((S.wk J).gE G λa h=>F a (kR _ h) λz=>D a z a h rfl)⟩⟩
   ·subst e;exact D a (N a f (kR _ L)) a L rfl
   ·rcases kA.mp h with w|w
    ·exact .inr w
    ·exact .inl ⟨kR _ w,λz=>D a z a w rfl⟩
  |succ j =>
   obtain⟨v,C,a,b,c,g⟩:=W S (by simpa using e) T;have Q:∀ x∈A,x∉C:=λx X m=>D x X x (c.subset m) rfl;refine⟨v,C,by simpa using a,b,c.trans (PK _ _),λt u s E i G J O R N F=>?_⟩;obtain⟨p,x,y,w,z⟩:=g t u s E i G J O R (λa f m=>N a f (kR _ m)) λa f m=>F a (kR _ f) m;refine⟨A++p,ui.mpr ⟨V,x,λa f b L e=>?_⟩,λa h=>?_,λP q=>w P (TQ.mp q).2,.cons ((r.wk J).gE G λa h=>F a (sL _ h) (Q a h)) z⟩
   ·subst e;rcases y a L with q|q
    ·exact D a f a q.1 rfl
    ·exact Q a f (N a q (sL _ f))
   ·rcases kA.mp h with q|q
    ·exact .inl ⟨sL _ q,Q a q⟩
    ·exact(y a q).imp (λq=>⟨kR _ q.1,q.2⟩) id
def K1{b:Type}{a:List b}{i:Int}{x:b}(h:fT a i=some x):∃ j,y1 a.length i=some j/\a[j]? = some x:=by
 unfold L2.fT at h
 cases e:y1 a.length i with
 |none=>rw[e] at h;cases h
 |some j=>rw[e] at h;exact⟨j,rfl,h⟩
def KQ{b:Type}{a:List b}{i:Int}{j:Nat}{x:b}(h:y1 a.length i=some j)(e:a[j]? = some x):fT a i=some x:=by unfold L2.fT;rw[h];exact e
end
section
variable {X:Cx}{K:ay}{e:Expr}{p:WP}{n:WE}{l o i:Pos}
def nT(a:Bool)(m:Md)(d:D):Option Bool:=match m with
 |.sh=>some (a && d.flat)
 |.ow b=>some (a && b)
 |_=>bif d.flat then some a else none
def mz(p:WP)(n:WE):WS:=λE a=>p a λg d c=>match d with
 |.list b=>n a λm x=>b.length<bG/\match nT g m x with
  |some f=>E.nx (c f (.list (b++[x])))
  |none=>False
 |_=>False
def Eh(w:Wf U H)(r:RM K U H m d v As)(h:nT C m d=some I):(I=true->C=true)/\∃ B,B.Sublist As/\df K U H I d v B:=by
 cases m with
 |sh =>cases h;exact⟨λz=>by cases C<;>simp_all,[],HM _,.sh (λz=>by cases C<;>simp_all) r.2⟩
 |ow b =>cases h;refine⟨λz=>by cases C<;>simp_all,As,List.Sublist.refl _,r.1.wk λz=>by cases C<;>simp_all⟩
 |_ =>
  cases a:d.flat with
  |true =>simp only[nT,a,cond_true,Option.some.injEq] at h;subst h;exact⟨id,[],HM _,.sh (λ_=>a) (r.flat w a)⟩
  |false=>simp[nT,a] at h
def Place.put(D:Place K aT U ab fl (.list xs) v up)(g:gd aT U I H2) :
  ∃ a d A,v=.ref a/\H2 a=some (.lst d)/\U a=some (.lst d)/\aH K I H2 fl xs d A/\(a :: A).Nodup/\(∀ x∈a :: A,I x=none/\U x≠none) /\
   ∀ j m f C,(j=true->fl=true)->aH K I H2 j m f C->f.length<=bG->C.Nodup->a∉C->(∀ x∈C,x∈A\/(I x=none/\U x=none))->∃ J,dA K I (up j (.list m)) ab (upd H2 a (.lst f)) J:=by
 obtain⟨N,r,E,F,q,k⟩:=D.ex
 cases r with
 |sh w _=>exact absurd rfl E
 |@list a d _ A u e t =>
  have L:=g.all _ _ e;have M:=t.grow g.sh g.all;have h:∀ x∈a :: A,aT x=none/\U x≠none:=λx c=>⟨q x c,by
   rcases dQ.mp c with rfl|c
   ·rw[e];exact λz=>nomatch z
   ·exact(t.own x c).ne⟩
  exact⟨a,d,A,rfl,L,e,M,F,λx c=>⟨g.sR (h x c).1 (h x c).2,(h x c).2⟩,λj m f C w B u s y H=>k.node g h (λ_ z=>by cases z) w (.list u eT (B.gE (bE.refl _) λb G=>dr λz=>y (by subst z;exact G))) s y H⟩
def Place.isL(w:Wf I C)(c:Place K I C U fl (.list xs) v up):∃ a b,v=.ref a/\eP K C a b:=by
 obtain⟨j,r,f,h,d,k⟩:=c.ex
 cases r with
 |sh q _=>exact absurd rfl f
 |list m e g=>exact⟨_,_,rfl,.inl (.inl e)⟩
def bz (ho:QP X K e p) (he:QE X K f n) (hK:autoParam (X.K=K) bv) (hs:autoParam (nL (.Call (.Attribute e "append" l) [f] [] o) none i.line X.env=pure false) bv) (oy:autoParam (t9 e "append" X.env (dn e X.env)=dn e X.env) bv) (U:autoParam (((ub o (fN [f] X.env)).all (λx=>!x.1) && (zt o (zo [] X.env)).all (λx=>x.1.isSome)
   && decide ([f].length+([]:List qV).length+(if ([]:List qV).isEmpty then 0 else 1)<30))=true) bv)
  (c:autoParam ((l.endLine == o.line)=true) bv) (P:autoParam (aR X f []) bv) (I:autoParam (bM X o []) bv) :
  QS X K L (.Expr (.Call (.Attribute e "append" l) [f] [] o) i) (mz p n):=by
 subst hK;refine PS.imp (Mb (IJ PySem.F.plainAttrs_list PySem.F.slot_list_append PySem.F.type_list_append Sn ho (lP he og P) oy U c P I) hs) λD Y H b=>bN b λHs w j E G h k1 k2 k3 k4=>?_;refine⟨Hs,w,j,_,G,h,λv W aT fl d up s O N=>?_⟩
 cases d with
 |list Z =>
  obtain⟨V,C,e1,s1⟩:=O.isL s.wf;subst e1;refine⟨.inl ⟨rfl,_,s1⟩,aT,w,j,_,G.grow s,N,λy H2 u m x As r r2 T g=>?_⟩;obtain⟨Q,g⟩:=g;obtain⟨a,F,A,ea,f,_,M,nd,R,k⟩:=O.put r;cases ea;have hl:=M.length;refine⟨V,F,y,rfl,rfl,f,by lia,?_⟩
  cases q:nT fl m x with
  |none=>rw[q] at g;exact g.elim
  |some gx =>
   rw[q] at g;obtain⟨S,B,J,rb⟩:=Eh r.wf r2 q;obtain⟨na,nA⟩:=om.mp nd;have t:∀ x∈B,u x=none/\W x=none:=λx b=>T.2 x (J.subset b);have c1:(A++(B++[])).Nodup:=by rw[ng];exact ui.mpr ⟨nA,J.nodup T.1,λx b z Q e=>by subst e;exact(R x (eI _ b)).2 (t x Q).2⟩
   have c2:V∉A++(B++[]):=by
    rw[ng];intro m;rcases kA.mp m with m|m
    ·exact na m
    ·exact(R _ eK).2 (t _ m).2
   have c3:∀ x∈A++(B++[]),x∈A\/(u x=none/\W x=none):=by rw[ng];intro x b;exact(kA.mp b).imp id λz=>t x z
   obtain⟨e7,g7⟩:=k gx (Z++[x]) (F++[y]) (A++(B++[])) S ((M.wk S).append (.cons rb .nil)) (by rw[kz];simp;lia) c1 c2 c3;exact k1 Y _ u _ e7 (s.sh.trans r.sh) g7 g
 |_=>exact N.elim
def yJ:WE:=λ_ Q=>Q (.ow true) (.dK [])
def yV:WE:=λ_ Q=>Q (.ow true) (.dT [])
def Je:QE X K (.Dict [] [] i) yJ:=PE.imp le' λr H t j=>iF j λq s g Q d h f=>λa c =>
 f _ _ q (.ow true) (.dK []) [a] (NW d.wf c λ_ z=>nomatch z) ⟨.dK ⟨gy _,λp k=>nomatch k⟩ eT .nil,by simp⟩ ⟨by simp,λb m=>by
  obtain rfl:b=a:=by simpa using m
  exact⟨d.wf.sub.free c,c⟩⟩ h
def G6:QE X K (.Dict [] [] i) yV:=PE.imp lf' λr H t j=>iF j λq s g Q d h f=>λa c =>
 f _ _ q (.ow true) (.dT []) [a] (NW d.wf c λ_ z=>nomatch z) ⟨.dT ⟨gy _,λp k=>nomatch k⟩ eT .nil,by simp⟩ ⟨by simp,λb m=>by
  obtain rfl:b=a:=by simpa using m
  exact⟨d.wf.sub.free c,c⟩⟩ h
section
variable {a:Type}[DecidableEq a]
def Bg{t H:Hp}{s:Bool}{k:a}{d:D}{v:V}(r:df K t H s d v []){c:List (a × D)}{j:List V}{w:List ai}(m:aH K t H s (c.map (·.2)) j w):∃ f g,g.Sublist w /\
  aH K t H s ((c.map λb=>if b.1=k then (b.1,d) else b).map (·.2)) f g/\((c.map (·.1)).zip j).map (λb=>if b.1=k then (b.1,v) else b)=(((c.map λb=>if b.1=k then (b.1,d) else b)).map (·.1)).zip f:=by
 induction c generalizing j w with
 |nil=>exact⟨[],[],HM _,.nil,rfl⟩
 |cons p c z =>
  obtain⟨u,j,A,B,rfl,rfl,q,m⟩:=aH.c m;obtain⟨f,g,x,y,e⟩:=z m;by_cases h:p.1=k
  ·refine⟨v :: f,[]++g,by simpa using x.trans (PK _ _),?_,?_⟩
   ·simp only[eR,h,if_true];exact .cons r y
   ·simp only[eR,TY,h,if_true,e]
  ·refine⟨u :: f,A++g,x.append_left _,?_,?_⟩
   ·simp only[eR,h,if_false];exact .cons q y
   ·simp only[eR,TY,h,if_false,e]
def BW{j H:Hp}{g:Bool}{k:a}{d:D}{v:V}(r:df K j H g d v []){b:List (a × D)}{c:List V}{m:List ai}(q:aH K j H g (b.map (·.2)) c m) :
  ∃ s t,t.Sublist m/\aH K j H g ((vk b k d).map (·.2)) s t/\putK ((b.map (·.1)).zip c) k v=((vk b k d).map (·.1)).zip s:=by
 have f:=q.length;rw[cx] at f;unfold putK vk;rw[Hr f]
 cases h:b.any λu=>decide (u.1=k) with
 |true =>exact Bg r q
 |false =>
  simp only[vT,if_false];refine⟨c++[v],m++([]++[]),by simp,?_,?_⟩
  ·rw[kS];exact q.append (.cons r .nil)
  ·rw[kS,List.zip_append (by rw[cx];exact f)];rfl
def yD{c H:Hp}{h:Bool}{k:a}{d:D}{v:V}(r:Rep K c d v)(s:d.flat=true){b:List (a × D)}{g:List V}{m:List ai}(q:aH K c H h (b.map (·.2)) g m) :
  ∃ f j,j.Sublist m/\aH K c H h ((vk b k d).map (·.2)) f j/\putK ((b.map (·.1)).zip g) k v=((vk b k d).map (·.1)).zip f:=BW (.sh (λ_=>s) r) q
def vC{b:Type}(c:List (a × b))(k:a)(v:b):(vk c k v).length<=c.length+1:=by
 unfold vk;split
 ·rw[cx];exact Nat.le_add_right _ _
 ·simp
def uN{b:Type}{d:List (a × b)}{k:a}{v:b}{p:a × b}(h:p∈vk d k v):p.1=k\/p.1∈d.map (·.1):=by
 unfold vk at h;split at h
 ·obtain⟨q,f,e⟩:=fq.mp h;by_cases c:q.1=k
  ·rw[if_pos c] at e;subst e;exact .inl c
  ·rw[if_neg c] at e;subst e;exact .inr (fq.mpr ⟨q,f,rfl⟩)
 ·rcases kA.mp h with h|h
  ·exact .inr (fq.mpr ⟨p,h,rfl⟩)
  ·have:p=(k,v):=by simpa using h
   subst this;exact .inl rfl
end
abbrev Zr:=Env->(Md->D->Env->Prop)->Prop
def tpZ(K:ay)(t:Zr):TE:=λf H q=>∃ j g a Q,dA K j g f H a/\t g Q/\∀ v c b m d r h k,bE j b->dA K b h f c k->RM K b c m d v r->Q m d h->q v c
def fJ'(n:WE):Zr:=λa Q=>n a λm d=>Q m d a
def O1{e:Expr}{n:WE}(h:QE X K e n):PE X e (tpZ K (fJ' n)):=PE.imp h λw H y q=>iF q λs b a Q c h f=>⟨s,b,a,_,c,h,λv t r m d u g j x k=>f v t r m d u b a g.sh (c.grow g) j k⟩
def Ga(p:WP)(m:WE)(j:Zr):WS:=λE b=>j b λ_ x b=>p b λg d c=>m b λ_ y=>x.flat=true/\match d with
 |.dK a=>∃ k,y.key1=some k/\a.length<bG/\E.nx (c g (.dK (vk a k x)))
 |.dT a=>match y with
  |.tup h=>∃ f,fG h=some f/\a.length<bG/\E.nx (c g (.dT (vk a f x)))
  |_=>False
 |_=>False
def Eg(p:WP)(b a:WE):WS:=Ga p b (fJ' a)
def ue(r:Rep K H d v)(h:d.key1=some k):tf k=true:=by
 cases r<;>simp[D.key1] at h<;>subst h
 ·rfl
 ·rename_i a;simp[tf,a]
def uP(r:b9 K H c I)(h:fG c=some C):C.length=c.length/\∀ k∈C,tf k=true:=by
 induction c generalizing I C with
 |nil=>simp[fG] at h;subst h;exact⟨rfl,λk t=>nomatch t⟩
 |cons d c s =>
  obtain⟨u,v,rfl,r,q⟩:=r.c;unfold fG at h
  cases f:d.key1 with
  |none=>rw[f] at h;simp at h
  |some k =>
   cases m:fG c with
   |none=>rw[f,m] at h;simp at h
   |some w =>
    rw[f,m] at h;simp at h;subst h;obtain⟨a,b⟩:=s q m;refine⟨by simp[a],λj g=>?_⟩;rcases dQ.mp g with rfl|g
    ·exact ue r f
    ·exact b j g
def Cj{a b c:Expr}{tk:WE}{tv:Zr}{g:Pos}(ho:QP X K a p)(hi:QE X K b tk)(hv:PE X c (tpZ K tv))(hs:autoParam (nL c (some (.Subscript a b g)) i.line X.env=pure false) bv)(hu:autoParam (X.A.units+64<f7) u0) :
  QS X K L (.Assign [.Subscript a b g] c i) (Ga p tk tv):=by
 refine PS.imp (la' (by lia) ho hi hv hs) λD ab H j=>bN j λHs af O E sr h k1 k2 k3 k4=>?_;refine⟨Hs,af,O,_,sr,h,λv H1 aT m1 x aw iL EV s1 ku r1 q1=>⟨aT,iL,EV,_,ku,q1,λu H2 aS fl d up g2 p2 q2=>⟨aS,iL,EV,_,ku.grow g2,q2,λy H3 M m3 yd ar f r3 f3 t=>?_⟩⟩⟩;obtain⟨j,t⟩:=t;have rx:Rep K M x v:=((r1.grow g2).grow f).flat f.wf j;have P:=r3.rep f.wf;obtain⟨iA,r,ne,nd,S,k⟩:=p2.ex;have sm:bE Hs M:=(s1.trans g2.sh).trans f.sh;have lv:∀ x∈iA,aS x=none/\H2 x≠none:=λx j=>⟨S x j,(r.own x j).ne⟩
 cases r with
 |sh hf _=>exact absurd rfl ne
 |@dK J N ae A W e w =>
  obtain⟨Y,G,F,q⟩:=t;have ey:=P.key G;subst ey;obtain⟨T,V⟩:=om.mp nd;obtain⟨ws,Bs,m,Q,ew⟩:=yD rx j (w.grow f.sh f.all);have I:ae.length=N.length:=by have:=w.length;rwa[cx] at this
  refine⟨J,_,rfl,IL.k (f.all _ _ e) (by rw[T4,cx,<- I,T9];exact F),?_⟩;rw[ew];have B:J∉Bs:=λz=>T (m.subset z);obtain⟨e7,U⟩:=k.node f lv (λ_ z=>by cases z) id (.dK ⟨kD (vC _ _ _) F,λp C=>(uN C).elim (λz=>by rw[z];exact ue P G) λz=>by obtain⟨R,Z,e'⟩:=fq.mp z;rw[<- e'];exact W.2 R Z⟩ eT (Q.gE (bE.refl _) λb s=>dr λz=>B (by subst z;exact s))) (m.nodup V) B λb s=>.inl (m.subset s)
  exact k1 ab _ M _ e7 sm U q
 |@dT J N ae A W e w =>
  cases P with
  |tup t1 e1 S7 =>
   obtain⟨Y,G,F,q⟩:=t;obtain⟨b,eb,e5⟩:=Rep.w_ (.tup t1 e1 S7) G;cases eb;obtain⟨kl,ko⟩:=uP S7 G;obtain⟨T,V⟩:=om.mp nd;obtain⟨ws,Bs,m,Q,ew⟩:=yD rx j (w.grow f.sh f.all);have I:ae.length=N.length:=by have:=w.length;rwa[cx] at this
   refine⟨J,_,rfl,IL.t (f.all _ _ e) e5 (by rw[T4,cx,<- I,T9];exact F),?_⟩;rw[ew];have B:J∉Bs:=λz=>T (m.subset z);have l1:=S7.length;obtain⟨e7,U⟩:=k.node f lv (λ_ z=>by cases z) id (.dT ⟨kD (vC _ _ _) F,λp C=>(uN C).elim (λz=>by rw[z];exact⟨by lia,ko⟩) λz=>by obtain⟨R,Z,e'⟩:=fq.mp z;rw[<- e'];exact W.2 R Z⟩ eT (Q.gE (bE.refl _) λb s=>dr λz=>B (by subst z;exact s))) (m.nodup V) B λb s=>.inl (m.subset s)
   exact k1 ab _ M _ e7 sm U q
  |_=>exact t.elim
 |_=>exact t.elim
def Bd{a b c:Expr}{g f:WE}{d:Pos}(m:QP X K a p)(q:QE X K b g)(h:QE X K c f)(k:autoParam (nL c (some (.Subscript a b d)) i.line X.env=pure false) bv)(j:autoParam (X.A.units+64<f7) u0) :
  QS X K L (.Assign [.Subscript a b d] c i) (Eg p g f):=Cj m q (O1 h) k j
end
abbrev WJ:=Env->Str->(Str->Prop)->Prop
section
variable {X:Cx}{K:ay}{e:Expr}{c:WE}{j:WJ}
def jC:List D->Option (List Str)
 |[]=>some []
 |.str x :: a=>(jC a).map (x :: ·)
 |_ :: _=>none
def oO(f c:WE):WE:=λb Q=>f b λ_ x=>match x with
 |.str z=>c b λ_ y=>match y with
  |.list d=>∃ a,jC d=some a/\(a.map (·.length)).sum+a.length*z.length<=16777216/\Q .sh (.str (Str.join z a))
  |_=>False
 |_=>False
def BX(r:b9 K H a b)(q:Vals b f)(h:jC a=some o):StrsAre f o:=by
 induction a generalizing b f o with
 |nil =>simp[jC] at h;subst h;have:=r.n0;subst this;rw[Paired.n0 q];exact .nil
 |cons d a m =>
  obtain⟨v,b,rfl,i,g⟩:=r.c;obtain⟨u,f,rfl,l,k⟩:=Paired.c q
  cases i with
  |str p =>
   simp only[jC] at h
   cases e:jC a with
   |none=>rw[e] at h;cases h
   |some n =>rw[e] at h;cases h;obtain⟨t,rfl⟩:=l;exact .cons _ t (m g k e)
  |_=>simp[jC] at h
def GR (E:autoParam (X.K=K) bv):Wx X "str.join" (λx g H Q=>∃ z a f d b,x=.str z/\g=[.ref a]/\eP K H a d/\b9 K H f d/\jC f=some b/\(b.map (·.length)).sum+b.length*z.length<=16777216/\Q (.str (Str.join z b)) H):=by subst E;intro i s F H x g v G Q I m r h;obtain⟨z,a,f,d,b,rfl,rfl,D,w,e,B,q⟩:=h;obtain⟨t,rfl⟩:=m;obtain⟨u,rfl,p⟩:=Vals.one r;cases p;obtain⟨A,n,y,_⟩:=I.list D;exact join_list y.isList (by simpa using BX w n e) B λl k=>⟨.str _,H,I.tok _,⟨l,rfl⟩,by rw[show Txt.join z b=Str.join z b from StrLaws.glued_eq_join z b];exact q⟩
theorem iz:∀ {zs},(Str.join z zs).length<=(zs.map (·.length)).sum+zs.length*z.length
 |[]=>by exact kD (show Str.empty.length<=0 by decide) (gy _)
 |[x]=>by simp[Str.join]
 |x :: y :: r=>by have a:=iz (z:=z) (zs:=y :: r);show(x++z++Str.join z (y :: r)).length<=_;rw[aL,aL];simp only[eR,List.sum_cons,gi,Nat.add_mul,Nat.one_mul] at a ⊢;lia
def zH(L:QE X K o U)(M:QE X K e c)(N:autoParam (X.K=K) bv) (G:autoParam (t9 o "join" X.env (dn o X.env)=dn o X.env) bv) (A:autoParam (((ub I (fN [e] X.env)).all (λx=>!x.1) && (zt I (zo [] X.env)).all (λx=>x.1.isSome)
   && decide ([e].length+([]:List qV).length+(if ([]:List qV).isEmpty then 0 else 1)<30))=true) bv)
  (a:autoParam ((C.endLine == I.line)=true) bv) (t:autoParam (aR X e []) bv) (w:autoParam (bM X I []) bv) :
  QE X K (.Call (.Attribute o "join" C) [e] [] I) (oO U c):=by
 subst N;refine PE.imp (IJ PySem.F.plainAttrs_str PySem.F.slot_str_join PySem.F.type_str_join GR L (lP M og t) G A a t w) λR H Qv J=>iF J λP k b Q l h f=>?_;refine⟨P,k,b,_,l,h,λv H1 O m x As i F Y p=>?_⟩;have r:=F.rep i.wf
 cases r with
 |str d =>
  refine⟨rfl,O,k,b,_,l.grow i,p,λy H2 Z T S V g E W n=>?_⟩;have D:=E.rep g.wf
  cases D with
  |list z s B =>obtain⟨u,e,d,q⟩:=n;exact⟨_,_,_,_,u,rfl,rfl,s,B,e,d,Fin.sh (Fin.after f (i.trans g)) g.wf (.str (kD iz (by rw[kQ];exact d))) q⟩
  |_=>exact n.elim
 |_=>exact p.elim
def w_(k:List Key):D:=.tup (k.map oP)
def Qm:W1:=λ_ x Q=>match x with
 |.list g=>∃ f h,g=f.map w_/\(∀ k∈f,mv k=true :: h)/\∀ d:List (List Key),d.Perm f->(d.Pairwise λa b=>kK b a=false)->Q (.ow true) (.list (d.map w_))
 |_=>False
def yM{H:Hp}{b:List Key}{d:List V}(r:b9 K H (b.map oP) d):d=b.map kV/\∀ k∈b,tf k=true:=by
 induction b generalizing d with
 |nil=>exact⟨r.n0,λk h=>nomatch h⟩
 |cons k b l =>
  obtain⟨u,n,rfl,f,g⟩:=b9.c r;obtain⟨e,o⟩:=l g;subst e
  cases k with
  |inl i=>cases f;exact⟨rfl,λj a=>by rcases dQ.mp a with rfl|a;rfl;exact o j a⟩
  |inr x =>
   cases f with
   |str m=>exact⟨rfl,λj a=>by rcases dQ.mp a with rfl|a;simp[tf,m];exact o j a⟩
def JT{H:Hp}{a:List (List Key)}{b:List V}(r:b9 K H (a.map w_) b):d8 H b a/\∀ k∈a,k.length<=bG/\∀ j∈k,tf j=true:=by
 induction a generalizing b with
 |nil=>rw[r.n0];exact⟨.nil,λk h=>nomatch h⟩
 |cons k a l =>
  obtain⟨u,p,rfl,g,f⟩:=b9.c r;obtain⟨t,o⟩:=l f
  cases g with
  |tup m e q =>
   obtain⟨n,i⟩:=yM q;subst n;exact⟨.cons ⟨_,rfl,e⟩ t,λj d=>by
    rcases dQ.mp d with rfl|d
    ·exact⟨by simpa using m,i⟩
    ·exact o j d⟩
def sZ:mN "sorted" = some (.builtin "sorted"):=by decide +kernel
end
abbrev Plan:=List (WE ⊕ Nat)
def nf':Option (Option Sl)->Option (Md × D)
 |some (some (.sh d))=>some (.sh,d)
 |some (some (.ow a d))=>some (.ow a,d)
 |_=>none
def fK':gv:=λb Q=>∃ a:List Int,b=[.list (a.map .int)]/\a.length<=63/\∀ m,Q m (.bl true)
theorem ints_rep{K:ay}:∀ (a:List Int),b9 K H (a.map .int) (a.map V.int)
 |[]=>.nil
 |n :: a=>.cons (.int n) (ints_rep a)
def CP{K:ay}{H:Hp}{a:ai}{b:List Int}{E:XK}(c:b.length<=63)(f:eP K H a (b.map V.int)):gJ K fK' [.ref a] H (λv _=>v=.bl true) E:=by refine⟨[.list (b.map .int)],λ_ d=>d=.bl true,.cons (.list (by rw[cx];exact kD c (by decide)) f (ints_rep b)) .nil,⟨b,rfl,c,λ_=>rfl⟩,?_⟩;intro v i h m d j s w r g e q;subst q;have:=r.rep w;cases this;rfl
abbrev sg(x:Str):List Nat:=x.cps.toList
def dY(x y:Str):sg (x++y)=sg x++sg y:=by show(x.cps++y.cps).toList=_;simp[sg]
def iW(x y z:Str):x++y++z=x++(y++z):=gR (by rw[<- sg,<- sg];simp only[dY,r9])
def empty_app(x:Str):Str.empty++x=x:=gR (by rw[<- sg,dY];rfl)
def okS(x:Str):Prop:=∀ c∈sg x,c<0x110000
def Ia(x:Str):PyData.strOk x=true↔okS x:=by unfold PyData.strOk okS sg;rw[Array.all_eq_true'];simp
def ng'{a:Type}(x:a)(l:List a):fT (x :: l) 0=some x:=by simp[L2.fT,y1]
def nh'{a:Type}(x y:a)(l:List a):fT (x :: y :: l) 1=some y:=by have:=qo (xs:=x :: y :: l) (j:=1) rfl;exact this
def ni'{a:Type}(x y z:a)(l:List a):fT (x :: y :: z :: l) 2=some z:=by have:=qo (xs:=x :: y :: z :: l) (j:=2) rfl;exact this
def Lp:Str.empty.length=0:=by decide
end L2.Q
namespace L2.Q.R
section
variable {f:D->Prop}{k:Kt f}
def Qf:de .non k=f .non:=rfl
def Ru:de (.bl b) k=f (.bl b):=rfl
def P_:de (.int i) k=f (.int i):=rfl
def Q3:de (.str x) k=f (.str x):=rfl
def NZ:de (.list o) k=f (.list o):=rfl
def QB:de (.tup o) k=f (.tup o):=rfl
def RP:de (.dK o) k=f (.dK o):=rfl
def RJ:de (.dT o) k=f (.dT o):=rfl
end
def N5{f:Bool->Prop}{k:Kt f}:de true k=f true:=rfl
def M8{f:Bool->Prop}{k:Kt f}:de false k=f false:=rfl
def Rj{d:D}{f:Md × D->Prop}{k:Kt f}:de (Md.sh,d) k=f (.sh,d):=rfl
def QF{b:Bool}{d:D}{f:Md × D->Prop}{k:Kt f}:de (Md.ow b,d) k=f (.ow b,d):=rfl
def QM{d:D}{f:Option Sl->Prop}{k:Kt f}:de (some (.sh d)) k=f (some (.sh d)):=rfl
def PL{b:Bool}{d:D}{f:Option Sl->Prop}{k:Kt f}:de (some (.ow b d)) k=f (some (.ow b d)):=rfl
def Sq{p:Bool}{f:Option Bool->Prop}{k:Kt f}:de (some p) k=f (some p):=rfl
def Ri{d:D}{f:Option (Option Sl)->Prop}{k:Kt f}:de (some (some (.sh d))) k=f (some (some (.sh d))):=rfl
def Qi{b:Bool}{d:D}{f:Option (Option Sl)->Prop}{k:Kt f}:de (some (some (.ow b d))) k=f (some (some (.ow b d))):=rfl
section
variable {E:gC}{e:Env}{Q:Md->D->Prop}{B:Bool->Prop}{t u:WS}{h v C H F:WE}{A G:WT}{r:WA}{i j n:Nat}{m q:Md}{d:D}{I:gv}{p:WP}{R:List (Md × D)->Prop}
def PJ:aW E e=E.nx e:=rfl
def Rm:cf t u E e=t { E with nx:=u E } e:=rfl
def RB:ft h E e=h e E.rt:=rfl
def Ra:Ep h E e=h e λ_ _=>E.nx e:=rfl
def put(a:Option Sl)(k:Sl->Prop):Prop:=match a with
 |some s=>k s
 |none=>False
def Rk:put (some (.sh d)) k=k (.sh d):=rfl
def Qu:put (some (.ow b d)) k=k (.ow b d):=rfl
def R0:eL i h E e=h e λm d=>de (asg m d) (f:=λo=>put o λa=>E.nx (e.set i (some a))) ⟨⟩:=rfl
def RC:eB A t u E e=A e λb=>de b (f:=λb=>if b=true then t E e else u E e) ⟨⟩:=rfl
def O9:fC E e=False:=rfl
def Qq:Gx E e=E.ct e:=rfl
def Qo:gW i E e=de e[i]? (f:=λo=>match o with
 |some (some (.sh d))=>E.rt .sh d
 |some (some (.ow a d))=>E.rt (.ow a) d
 |_=>False) ⟨⟩:=rfl
def R6:rL i t E e=t E (U0 i e):=rfl
-- tests
def bol(d:D)(B:Bool->Prop):Prop:=match d with
 |.bl b=>B b
 |_=>False
def PN:bol (.bl b) B=B b:=rfl
def wB_:wB h e B=h e λ_ x=>de x (f:=λx=>bol x B) ⟨⟩:=rfl
def RN:EK h e B=h e λ_ x=>de x (f:=λx=>∃ b,Zk x=some b/\B b) ⟨⟩:=rfl
def RQ:nI A e B=A e λc=>B (!c):=rfl
def SJ:bL' A G e B=A e λc=>de c (f:=λc=>if c=true then G e B else B false) ⟨⟩:=rfl
def nk':oI A G e B=A e λc=>de c (f:=λc=>if c=true then B true else G e B) ⟨⟩:=rfl
def RT:vt e B=B true:=rfl
-- expressions
def Sg:ag i e Q=de e[i]? (f:=λo=>Zj o Q) ⟨⟩:=rfl
def Nv:Zj (some (some (.sh d))) Q=Q .sh d:=rfl
def OJ:Zj (some (some (.ow b d))) Q=Q .bo d:=rfl
def wC_:wC d e Q=Q .sh d:=rfl
def nm':av f v C e Q=v e λm x=>C e λn y=>f m x n y Q:=rfl
def nn':dy f v e Q=v e λm x=>f m x Q:=rfl
def Ni:jf f g v C H e Q=v e λm x=>C e λn y=>f m x n y λ_ z=>de z (f:=λz=>bol z λk=>de k (f:=λk=>if k=true then H e λl w=>g n y l w Q else Q .sh (.bl false)) ⟨⟩) ⟨⟩:=by rfl
def Px:fJ v C e Q=v e λ_ x=>de x (f:=λx=>bol x λc=>de c (f:=λc=>if c=true then C e Q else Q .sh (.bl false)) ⟨⟩) ⟨⟩:=by unfold fJ de bol;rfl
def Sd:UU v C e Q=v e λ_ x=>de x (f:=λx=>bol x λc=>de c (f:=λc=>if c=true then Q .sh (.bl true) else C e Q) ⟨⟩) ⟨⟩:=by unfold UU de bol;rfl
def Q6:xm v e Q=v e λ_ x=>de x (f:=λx=>bol x λc=>Q .sh (.bl (!c))) ⟨⟩:=by unfold xm de bol;rfl
def PQ:aq h r e R=h e λm x=>r e λa=>R ((m,x) :: a):=rfl
def RW:cv e R=R []:=rfl
def Rr:kL r e Q=r e λa=>a.length<=bG/\Q (Jq a) (.tup (a.map (·.2))):=rfl
def Rp:kC r e Q=r e λa=>a.length<=bG/\Q (GQ a) (.list (a.map (·.2))):=rfl
def Q9:aU I r e Q=r e λa=>I (a.map (·.2)) λm d=>de (m,d) (f:=λp=>Q (NX p.1 p.2) p.2) ⟨⟩:=rfl
-- operators
section
variable {x y:Str}{a b:Int}{g l:List D}{o:List (Key × D)}
def Od:ip m (.int a) q (.int b) Q=Q .sh (.int (a+b)):=rfl
def N7:ip m (.str x) q (.str y) Q=(x.length+y.length<=bG/\Q .sh (.str (x++y))):=rfl
def Oi:ip m (.list g) q (.list l) Q=(g.length+l.length<=bG/\((eh g=true/\eh l=true/\Q (.ow true) (.list (g++l)))\/(m=.sh/\q=.sh/\Q (.ow false) (.list (g++l))))):=rfl
def Nx:UW m (.int a) q (.int b) Q=Q .sh (.int (a-b)):=rfl
def Nm:CC m (.int a) q (.int b) Q=(Sf a b/\Q .sh (.int (a*b))):=rfl
def Pg:AJ m (.int a) q (.int b) Q=((0<b/\b<1073741824)/\Q .sh (.int (a / b))):=rfl
def Pb:mw m (.int a) q (.int b) Q=(0<b/\Q .sh (.int (a % b))):=rfl
def QL:AK m (.int a) q (.int b) Q=Q .sh (.bl (decide (a<b))):=rfl
def QJ:CD m (.int a) q (.int b) Q=Q .sh (.bl (decide (a<=b))):=rfl
def Pz:Kb m (.int a) q (.int b) Q=Q .sh (.bl (decide (b<a))):=rfl
def Q7:fP m (.int a) q (.int b) Q=Q .sh (.bl (decide (a=b))):=rfl
def Rh:fP m (.str x) q (.str y) Q=Q .sh (.bl (decide (x=y))):=rfl
def R7:fP m (.list g) q d Q=(fI 12 (.list g)=true/\fI 12 d=true/\Q .sh (.bl (nE (.list g) d))):=by cases d<;>rfl
def Q_:BG m (.int a) q (.int b) Q=Q .sh (.bl (!decide (a=b))):=rfl
def QZ:BG m (.str x) q (.str y) Q=Q .sh (.bl (!decide (x=y))):=rfl
def R8:BG m (.list g) q d Q=(fI 12 (.list g)=true/\fI 12 d=true/\Q .sh (.bl (!nE (.list g) d))):=by cases d<;>rfl
def Rx:bN' m d q .non Q=Q .sh (.bl d.Zm):=rfl
def Ry:y9 U m (.str x) q (.str y) Q=Q .sh (.bl (if U then !EF x y else EF x y)):=rfl
def Su:y9 U m d q (.tup l) Q=(iG d=true/\l.all iG=true/\Q .sh (.bl (if U then !inD d l else inD d l))):=rfl
def RG:y9 U m d q (.dK o) Q = ∃ k,d.key1=some k/\Q .sh (.bl (if U then !(gL o k).isSome else (gL o k).isSome)):=rfl
def Ro:zh m (.int a) Q=Q .sh (.int (-a)):=rfl
def R9:bX m (.list g) q (.int a) Q = ∃ d,fT g a=some d/\de d (f:=λd=>Q (xa m d) d) ⟨⟩:=rfl
def Rn:bX m (.tup g) q (.int a) Q = ∃ d,fT g a=some d/\de d (f:=λd=>Q (xa m d) d) ⟨⟩:=rfl
def R3:bX m (.str x) q (.int a) Q = ∃ c,fT x.cps.toList a=some c/\Q .sh (.str ⟨#[c]⟩):=rfl
def Rc:gX m (.str x) Q=Q .sh (.int x.length):=rfl
def QV:gX m (.list g) Q=Q .sh (.int g.length):=rfl
def Py:gX m (.tup g) Q=Q .sh (.int g.length):=rfl
def Rt{T:String}:tq T m d Q=Q .sh (.bl (SF d.ty T)):=rfl
def Nr:zZ m (.list g) Q=((eh g=true/\Q (.ow true) (.list g))\/(m=.sh/\Q (.ow false) (.list g))):=rfl
def OD:zZ m (.tup g) Q=((eh g=true/\Q (.ow true) (.list g))\/(m=.sh/\Q (.ow false) (.list g))):=rfl
def no':sA h U th e Q=h e λm x=>U e λc=>th e λf=>UY m x c f Q:=rfl
def M_:bB e O=O none:=rfl
def int'(d:D)(k:Int->Prop):Prop:=match d with
 |.int i=>k i
 |_=>False
def Qh:int' (.int a) k=k a:=rfl
def Qg:dX h e O=h e λ_ x=>de x (f:=λx=>int' x λi=>O (some i)) ⟨⟩:=by unfold dX de int';rfl
def Rz{c f:Option Int}:UY m (.str x) c f Q=Q .sh (.str (pV x c f)):=rfl
def Rq{c f:Option Int}:UY m (.list g) c f Q=((eh g=true/\Q (.ow true) (.list (i6 g c f)))\/(m=.sh/\Q (.ow false) (.list (i6 g c f)))):=rfl
def Rv{c f:Option Int}:UY m (.tup g) c f Q=(eh g=true/\¬ (HT.dk g.length 0 c=0/\HT.dk g.length g.length f=g.length)/\Q .sh (.tup (i6 g c f))):=rfl
end
-- texts
def Oy(d:D)(k:Str->Prop):Prop:=match d with
 |.str x=>k x
 |_=>False
def Rg:Oy (.str x) k=k x:=rfl
def CY(d:D)(k:List D->Prop):Prop:=match d with
 |.list x=>k x
 |_=>False
def Nt:CY (.list x) k=k x:=rfl
def O5:oO F h e Q=F e λ_ x=>de x (f:=λx=>Oy x λz=>h e λ_ y=>de y (f:=λy=>CY y λb=>∃ a,jC b=some a/\(a.map (·.length)).sum+a.length*z.length<=16777216/\Q .sh (.str (Str.join z a))) ⟨⟩) ⟨⟩:=by unfold oO de Oy CY;rfl
-- places
def np'{P:Bool->D->(Bool->D->Env)->Prop}:k5 i e P=de e[i]? (f:=λo=>match o with
 |some (some (.ow b d))=>P b d λa c=>e.set i (some (.ow a c))
 |_=>False) ⟨⟩:=rfl
def fl'(o:Option Bool)(k:Bool->Prop):Prop:=match o with
 |some b=>k b
 |none=>False
def Nb:fl' (some b) k=k b:=rfl
def RZ:mz p h E e=p e λg d b=>de d (f:=λd=>CY d λa=>h e λm x=>a.length<bG/\de (nT g m x) (f:=λo=>fl' o λc=>E.nx (b c (.list (a++[x])))) ⟨⟩) ⟨⟩:=by unfold mz de CY fl';rfl
def Ot:yJ e Q=Q (.ow true) (.dK []):=rfl
def Np:yV e Q=Q (.ow true) (.dT []):=rfl
def dct(d y:D)(f:List (Key × D)->Prop)(c:List (List Key × D)->List D->Prop):Prop:=match d with
 |.dK a=>f a
 |.dT a=>match y with
  |.tup b=>c a b
  |_=>False
 |_=>False
def RL:dct (.dK U) y o k2=o U:=rfl
def Q8:Eg p U o E e=o e λ_ x=>p e λg d b=>U e λ_ y=>x.flat=true/\de d (f:=λd=>dct d y (λa=>∃ k,y.key1=some k/\a.length<bG/\E.nx (b g (.dK (vk a k x)))) (λa l=>∃ c,fG l=some c/\a.length<bG/\E.nx (b g (.dT (vk a c x))))) ⟨⟩:=by rfl
-- loops
variable {a:List D->Prop}
def RV:qA o g b E e=o e λc=>jD g b E c e:=rfl
def NP:e_ h e a=h e λm d=>pW m/\de d (f:=λd=>CY d a) ⟨⟩:=by unfold e_ de CY;rfl
def OB(d:D)(k:List D->Prop):Prop:=match d with
 |.tup x=>k x
 |_=>False
def Qk:OB (.tup x) k=k x:=rfl
def QQ:zj h e a=h e λm d=>pW m/\de d (f:=λd=>OB d a) ⟨⟩:=by unfold zj de OB;rfl
def P0:D_ h e a=h e λ_ d=>de d (f:=λd=>Oy d λz=>a (bT' z)) ⟨⟩:=by unfold D_ de Oy;rfl
def Pn:dq h e a=h e λ_ d=>de d (f:=λd=>int' d λj=>j<=16777216/\-(2 ^ 62)<=j/\a (gD 0 j.toNat)) ⟨⟩:=by unfold dq de int';rfl
def O6:vM v C e a=v e λ_ x=>C e λ_ y=>de x (f:=λx=>int' x λi=>de y (f:=λy=>int' y λj=>j-i<=16777216/\(-(2 ^ 62)<=i/\i<2 ^ 62/\-(2 ^ 62)<=j/\j<2 ^ 62)/\a (gD i (j-i).toNat)) ⟨⟩) ⟨⟩:=by unfold vM de int';rfl
def M7:pW .sh=True:=rfl
def M6:pW (.ow b)=True:=rfl
def gN_:gN i d e N=N (e.set i (some (.sh d))):=rfl
def gT_:gT n o d e N=de d (f:=λd=>OB d λb=>b.length=n/\o b e N) ⟨⟩:=by unfold gT de OB;rfl
def QD:fM g o (d :: U) e N=g d e λb=>o U b N:=rfl
def R4:uw [] e N=N e:=by simp[uw]
def PB:dD o g A h U ix e Q=o e λc=>f9 g A h c (xY U ix e) λb=>Q (.ow true) (.list b):=rfl
end
def B{c:Bool}{f:Bool->Prop}{k:Kt f}(b:c=true->f true)(a:c=false->f false):de c k:=by
 cases c with
 |true=>exact b rfl
 |false=>exact a rfl
def D{p:Prop}[Decidable p]{f:Bool->Prop}{k:Kt f}(b:p->f true)(a:¬ p->f false):de (decide p) k :=
 B (λh=>b (of_decide_eq_true h)) λh=>a (of_decide_eq_false h)
def T{c:Bool}{f:Bool->Prop}{k:Kt f}(h:c=true)(a:f true):de c k:=by subst h;exact a
def F{c:Bool}{f:Bool->Prop}{k:Kt f}(h:c=false)(a:f false):de c k:=by subst h;exact a
end L2.Q.R
namespace L2
end L2
namespace L2.Q
section
variable {X:Cx}{K:ay}{e c:Expr}{g i:WE}{d p:Pos}
def wD1(f b:WE):WE:=λa Q=>f a λ_ x=>b a λ_ y=>∃ k,x.key1=some k/\y.flat=true/\Q (.ow true) (.dK [(k,y)])
def GF(Z:QE X K e g)(NC:QE X K c i):QE X K (.Dict [some e] [c] d) (wD1 g i):=by
 refine PE.imp (lj' (lh' Z NC lg') rfl rfl (by simp) (by simp)) λab H Qv W=>iF W λs F l Q t h D=>λa w=>?_;have B:gd s H s (upd H a (.dK [])):=NW t.wf w λ_ z=>nomatch z;refine⟨s,F,l,_,t.grow B,h,λv H1 U m x As r S f1 T=>⟨U,F,l,_,(t.grow B).grow r,T,λu N E n y Bs j R f2 A=>?_⟩⟩;obtain⟨k,M,L,A⟩:=A;have G:=(S.grow j).rep j.wf;have I:=G.key M;subst I;have P:=R.flat j.wf L;have q:=(B.trans r).trans j;have c:N a=some (.dK []):=j.all _ _ (r.all _ _ eT);have V:s a=none:=t.wf.sub.free w;have J:E a=none:=j.sR (r.sR V (by rw[eT];exact λz=>nomatch z)) (by rw[r.all _ _ eT];exact λz=>nomatch z);refine⟨c,[(k,u)],rfl,by simp,?_⟩;have C:gd s H E (upd N a (.dK [(k,u)])):=⟨λb o f=>by rw[dr (zI f w)];exact q.all b o f,q.sh,⟨λb o f=>by rw[dr (zI f J)];exact q.wf.sub b o f,λb O f=>by
  by_cases z:b=a
  ·subst z;rw[eT] at f;cases f
  ·rw[dr z] at f;exact q.wf.kU b O f⟩,q.new⟩
 exact D (.ref a) _ E (.ow true) (.dK [(k,y)]) [a] C ⟨.dK ⟨by rw[kQ];simp,λp Y=>by
  have:p=(k,y):=by simpa using Y
  subst this;exact ue G M⟩ eT (.cons (.sh (λ_=>L) P) .nil),by simp⟩ ⟨by simp,λb f=>by
  obtain rfl:b=a:=by simpa using f
  exact⟨J,w⟩⟩ A
def yP:W1:=λ_ x Q=>match x with
 |.list l=>∃ h b,l=h.map oP/\(∀ k∈h,w8 k=b)/\∀ f:List Key,f.Perm h->(f.Pairwise λa b=>vj b a=false)->Q (.ow true) (.list (f.map oP))
 |.dK j=>∃ b,(∀ p∈j,w8 p.1=b)/\∀ f:List Key,f.Perm (j.map (·.1))->(f.Pairwise λa b=>vj b a=false)->Q (.ow true) (.list (f.map oP))
 |_=>False
def Eu:Ki K (wy K) yP:=by
 intro Q H m x v R P O w G h f;have J:=G.rep w
 cases J with
 |list z s q =>obtain⟨M,b,rfl,B,h⟩:=h;obtain⟨e,L⟩:=yM q;subst e;exact⟨M,b,.inl s,B,λn l j u A=>f.lst w (by rw[cx,j.length_eq];simpa using z) (iD λk t=>L k (j.mem_iff.mp t)) (jj n) (h n j u) l A⟩
 |@dK a F D E e q =>
  obtain⟨b,B,h⟩:=h;have r:=q.length;rw[cx] at r;have N:(((D.map (·.1)).zip F).map (·.1))=D.map (·.1):=by rw[xei (by rw[cx];lia)]
  refine⟨D.map (·.1),b,.inr ⟨_,e,N.symm⟩,λk t=>?_,λn l j u A=>?_⟩
  ·obtain⟨p,y,rfl⟩:=fq.mp t;exact B p y
  ·refine f.lst w (by rw[cx,j.length_eq,cx];exact E.1) (iD λk t=>?_) (jj n) (h n j u) l A;obtain⟨p,y,rfl⟩:=fq.mp (j.mem_iff.mp t);exact E.2 p y
 |_=>exact h.elim
def Mv (a:autoParam (X.calm=true) bv) (b:autoParam (X.K=K) bv):oa X (.builtin "sorted") (wy K):=by subst b;exact xu a
end
abbrev WIL:=Env->(List D->Prop)->Prop
end L2.Q
namespace L2.Q.R
section
variable {a:Env}{Q:Md->L2.Q.D->Prop}{b e:WE}{d:L2.Q.D}{c:List L2.Q.D->Prop}
def ns':wD1 e b a Q=e a λ_ x=>b a λ_ y=>∃ k,x.key1=some k/\y.flat=true/\Q (.ow true) (.dK [(k,y)]):=rfl
def O4:wF b a c=b a λ_ d=>de d (f:=λd=>CY d λg=>c (nQ g)) ⟨⟩:=by unfold wF de CY;rfl
def O8:h_ b a c=b a λ_ d=>de d (f:=λd=>CY d c) ⟨⟩:=by unfold h_ de CY;rfl
def Rb:rF b a c=b a λ_ d=>de d (f:=λd=>OB d c) ⟨⟩:=by unfold rF de OB;rfl
end
end L2.Q.R
namespace L2
open Builtin Builtin.Str Builtin.Int
section
variable {a:cy}{w:c9}{A:fz}{E:ah->aI->Prop}{s:aI}{x:Str}{n:Int}{t u:Tok}
def tE(d:MulOk x n)(h:∀ e k,Q (.str (Txt.mul x n) e) { s with toks:=k }):bq (aE a w) A (qS .Mult (.int n u) (.str x t)) Q E s:=by
 refine lm_binaryOp_repeat_right (by decide) (λf=>typeIs_int f n u) (Fm s x t) F.fills_int_mul noFill_str_mul F.slot_int_mul lm_noRepeat_int repeat_str F.slot_int_index.lookup (call_gives F.slot_int_mul (typeIs_int s n u) F.entry_int_mul (F.args_int_mul_2 _ _) (AutoIntG3.int___mul___int_str_0 n u x t) ⟨rfl,Fm _ x t,call_gives F.slot_str_mul (Fm _ x t) F.entry_str_mul (F.args_str_mul_2 _ _) (gives_str_mul x n t u d.1 d.2.1 d.2.2) ?_⟩)
 unfold Txt.mul at h;by_cases b:n<1
 ·rw[if_pos b];have c:=h s.toks (s.toks+1);rw[if_pos b] at c;exact⟨by decide,c⟩
 ·rw[if_neg b];refine post_val_or_made (λg=>fits_reps (d.2.2 b (by simpa using g))) λe k=>?_;have c:=h e k;rw[if_neg b] at c;exact c
end
def AR(n:Int)(z:Str):Str:=⟨(List.replicate n.toNat z.cps.toList).flatten.toArray⟩
theorem oE(b:Array Nat):∀ k a,(List.replicate k b).foldl (· ++ ·) a=a++(List.replicate k b.toList).flatten.toArray
 |0,a=>by simp
 |k+1,a=>by rw[xd0,zC,oE b k,xd0,xee];apply Array.ext';simp
def Ho(h:1<=n):Txt.mul z n=AR n z:=by
 unfold Txt.mul AR;rw[if_neg (by lia)];by_cases b:n=1
 ·subst b;simp
 ·by_cases a:z.length=0
  ·have d:z.cps = #[]:=xdO a;rw[if_pos (by simp[a])];obtain⟨c⟩:=z;cases d;simp
  ·rw[if_neg (by simp[b,a]),oE];simp
def Jv:R2:=λx y H Q=>match x,y with
 |.int n,.str z=>(1<=n/\n<=100/\z.length<=100)/\Q (.str (AR n z)) H
 |_,_=>False
section
variable {X:Cx}
def Hh:eJ X (qS .Mult) Jv:=by
 intro a s j H x y v u Q I d c h;unfold Jv at h;split at h
 ·rename_i n z;obtain⟨⟨f,m,e⟩,q⟩:=h;obtain⟨t,rfl⟩:=d;obtain⟨b,rfl⟩:=c;refine tE ⟨?_,λ_ _=>?_,λ_ _=>?_⟩ λb k=>⟨.str (AR n z),H,I.tok _,⟨_,by rw[Ho f]⟩,q⟩
  ·have i:¬ n < -(2 ^ 63:Int):=by lia
   have g:¬ n >= 2 ^ 63:=by lia
   rw[decide_eq_false i,decide_eq_false g];rfl
  ·have:(2 ^ 63-1:Int) / 100<=(2 ^ 63-1) / n:=by apply Int.le_ediv_of_mul_le (by lia);lia
   lia
  ·have:z.length*n.toNat<=100*100:=Nat.mul_le_mul e (by lia);have l:=kQ;simp only[tooLong,decide_eq_false_iff_not];lia
 ·exact h.elim
def sC(a:List Int):Nat->Int
 |0=>0
 |1=>a.getD 0 0
 |j+2=>if a.getD (j+1) 0>sC a (j+1) then a.getD (j+1) 0 else sC a (j+1)
end
section
variable {a:cy}{w:c9}{A:fz}{R:Result->aI->Prop}{I:ai}{g f:List ai}{P:Nat->ah->Prop}{l:Nat->d5->Prop}
def By(W:Walks a w A.in1 I g f C.length P l)(Y:∀ i v,P i v->∃ t,v=.int (C.getD i 0) t)(S:ai)(EW:S∉g)(d:ah) :
  ∀ k j s c m,C.length-j=k->j<=C.length->l j s.heap->((j=0/\m = #[])\/(0<j/\∃ t,m = #[.int (sC C j) t,.int (sC C j) t])) ->
  s.heap.get? S=some { cls:=.type "list",dict:=none,data:=.seq m c,slots:=#[] } ->
  (∀ v O B,(C=[]/\v=d\/C≠[]/\∃ t,v=.int (sC C C.length) t)->(∀ b o,b∉f->b≠S->s.heap.get? b=some o->O.get? b=some o)->R (.ok (.ret v)) { s with heap:=O,toks:=B }) ->
  xD (aE a w) A (.builtin "max.loop" ⟨[.ref I,.none,.ref S],[("default",d)]⟩) R s:=by
 have E:S∉f:=λh=>EW (W.sub _ h);have ab:(toString "max" ++ toString ".loop" : String) = "max.loop" := by decide
 intro k
 induction k with
 |zero =>
  intro j s c m hk hj X r G x;have L:j=C.length:=by lia
  refine DL F.entry_max_loop ?_;refine ax (PF G rfl ?_);refine ax (wpAny_tryCatch (W.done s _ _ (L ▸ X) λO B q=>?_));have u:=q S _ E G;rcases r with⟨N,rfl⟩|⟨N,t,rfl⟩
  ·exact ax (DS (bI (x d _ B (.inl ⟨PR.mp (by lia),rfl⟩) λb o n p e=>q b o n e)))
  ·show bq _ A.in1 (updateSeq S (λ_=>#[]) >>= _) _ _ _;refine ax ?_;refine TK u rfl (ax (wpAny_letGo (bI ?_)));refine x _ _ B (.inr ⟨λz=>by rw[z] at L;simp at L;lia,t,by rw[L]⟩) λb o n p e=>(D3 _ _ (Ne.symm p)).trans (q b o n e)
 |succ k Z =>
  intro j s c m hk hj X r G x;have Q:j<C.length:=by lia
  refine DL F.entry_max_loop ?_;refine ax (PF G rfl ?_);refine ax (wpAny_tryCatch (W.item j s _ _ Q X λv O B hP U q=>?_));have u:=q S _ E G;obtain⟨V,rfl⟩:=Y j v hP;rcases r with⟨N,rfl⟩|⟨N,t,rfl⟩
  ·subst N;show bq _ A.in1 (updateSeq S (λ_=>#[_,_]) >>= _) _ _ _;refine ax ?_;refine TK u rfl ?_;refine bI ⟨DM F.plain_max_loop _,Z 1 _ _ _ (by lia) Q (W.frame _ _ _ U λb Ta o e=>?_) (.inr ⟨by lia,V,rfl⟩) (HV _ u rfl) λy K J D H=>?_⟩
   ·exact(D3 _ _ (λh:S=b=>EW (by rw[h];exact Ta))).trans e
   ·exact x y K J D λb o n p e=>H b o n p ((D3 _ _ (Ne.symm p)).trans (q b o n e))
  ·obtain⟨j,rfl⟩:∃ i,j=i+1:=⟨j-1,by lia⟩
   show bq _ A.in1 (tryCatch (holding [_,_] (richCompare .Gt _ _ >>= _)) _ >>= _) _ _ _;refine ax (wpAny_tryCatch (zk (ax (CmpOf.ints_gt (P:=λi v=>(i=0/\v=.int (C.getD (j+1) 0) V)\/(i=1/\v=.int (sC C (j+1)) t)) (λi=>if i=0 then C.getD (j+1) 0 else sC C (j+1)) (λi v h=>?_) 0 1 _ _ _ _ _ (.inl ⟨rfl,rfl⟩) (.inr ⟨rfl,rfl⟩) ?_))))
   ·rcases h with⟨rfl,rfl⟩|⟨rfl,rfl⟩<;>exact⟨_,rfl⟩
   refine ax (zk (AZ ?_));refine ax (wpAny_letGo (bI ?_));simp only[if_true,show ¬ 1=0 by decide,if_false];have T:sC C (j+1+1)=if C.getD (j+1) 0>sC C (j+1) then C.getD (j+1) 0 else sC C (j+1):=rfl;by_cases M:C.getD (j+1) 0>sC C (j+1)
   ·rw[if_pos M] at T;simp only[M,decide_true,if_true];refine ax ?_;refine TK u rfl (ax (wpAny_letGo ?_));refine bI ⟨DM F.plain_max_loop _,Z (j+2) _ _ _ (by lia) Q (W.frame _ _ _ U λb Ta o e=>?_) (.inr ⟨by lia,V,by rw[T]⟩) (HV _ u rfl) λy K J D H=>?_⟩
    ·exact(D3 _ _ (λh:S=b=>EW (by rw[h];exact Ta))).trans e
    ·exact x y K J D λb o n p e=>H b o n p ((D3 _ _ (Ne.symm p)).trans (q b o n e))
   ·rw[if_neg M] at T;simp only[M,decide_false,vT,if_false];exact ax (wpAny_letGo (bI ⟨DM F.plain_max_loop _,Z (j+2) _ c _ (by lia) Q U (.inr ⟨by lia,t,by rw[T]⟩) u λy K J D H=>x y K J D λb o n p e=>H b o n p (q b o n e)⟩))
end
end L2
namespace L2
section
variable {X:Cx}{K:ay}{e k:Expr}{j c:TE}{p f g:Pos}
def Be (a v:ah):argsOk "max" ⟨[a],[(Str.ofString "default",v)]⟩:=by unfold argsOk;kernel_rfl
def EY(K:ay):R2:=λx y H Q=>match x,y with
 |.ref a,.int d=>∃ b:List Int,eP K H a (b.map V.int)/\Q (.int (if b=[] then d else sC b b.length)) H
 |_,_=>False
def Bh(h:EY K x y H Q):∃ a d b,x=.ref a/\y=.int d/\eP K H a (b.map V.int)/\Q (.int (if b=[] then d else sC b b.length)) H:=by
 unfold EY at h;split at h
 ·obtain⟨b,l,i⟩:=h;exact⟨_,_,b,rfl,rfl,l,i⟩
 ·exact h.elim
def Hj (U:X.calm=true) (hg:Gl X "max") (A:X.mg "max" = none) (G:mN "max" = some (.builtin "max")) (he:PE X e j) (hd:PE X k c)(L:autoParam (aR X e []) bv) :
  PE X (.Call (.Name "max" p) [e] [⟨some "default",k,g⟩] f) (MB (EY X.K) j c):=by
 intro r s D H Q I h;refine LH (B7 I hg A G ?_ (by decide) (by decide));refine PyProof.Rows.callWith_kw ?_ (by rw[L];rfl) (by rw[L];rfl) rfl rfl;rw[L];refine Calls.spliced_cons (cK (he r s D H _ I h) λu s1 S=>L2.eM S λx H1 I1 E q1=>Calls.spliced_nil ?_);refine kws_cons (cK (hd r s1 D H1 _ I1 q1) λv2 m S=>L2.eM S λy H2 T r2 q2=>kws_nil ?_);obtain⟨a,d,B,rfl,rfl,J,q⟩:=Bh (q2)
 ·have _:=U;cases E;obtain⟨c,rfl⟩:=r2;obtain⟨l,Y,pl,hz⟩:=T.list J;have Z:m.heap.IsList a l.toArray:=pl.isList;obtain⟨o,M,Rl,n,FR⟩:=id Z;have z:=Y.length;rw[cx] at z;have h9:a≠m.heap.objs.size:=gS (fA M);have SG:X.A.in1.handled=none:=T.ok.hd U;have ab:(toString "max" ++ toString ".loop" : String) = "max.loop" := by decide
  refine kmb_tree F.kind_max F.plain_max F.entry_max (Be _ _) ?_;refine ax (LP (rfl) ?_);refine ax (bI ?_);refine ax (wpAny_pyIter_list Z ?_);refine ax (t5 ?_);have hw:Walks X.prog X.w X.A.in1 m.heap.objs.size [m.heap.objs.size,a] [m.heap.objs.size] B.length (λi v=>l.toArray[i]? = some v) (λi h=>h.IsListIter m.heap.objs.size a i/\h.IsList a l.toArray):=by have:=Walks.list (prog:=X.prog) (w:=X.w) SG m.heap.objs.size a h9 l.toArray;rwa[show l.toArray.size=B.length by rw[z];exact kg ..] at this
  have O:(m.heap.push { cls:=.type "list_iterator",data:=.fields #[.ref a,.int 0 0] }).objs.size=m.heap.objs.size+1:=size_push' ..;have N:=fA M;refine bI ⟨DM F.plain_max_loop _,By hw (λi v G=>?_) (m.heap.push { cls:=.type "list_iterator",data:=.fields #[.ref a,.int 0 0] }).objs.size (λA=>by
    rcases dQ.mp A with e|A
    ·rw[O] at e;exact absurd e (Nat.succ_ne_self _)
    ·have e:=hV.mp A;rw[O] at e;exact absurd N (by rw[<- e];exact Nat.not_lt.mpr (T_ _))) (.int d c) _ 0 _ _ #[] rfl (gy _) ⟨⟨_,eS _ (jI _ rfl),rfl,rfl⟩,⟨_,eS _ (eS _ M),Rl,n,FR⟩⟩ (.inl ⟨rfl,rfl⟩)
   (jI _ rfl) λv h' tk hP hk=>?_⟩
  ·have W:l[i]? = some v:=by simpa using G
   have C:i<B.length:=by have:=(k7.mp W).1;lia
   obtain⟨w',e1,E⟩:=Y.get (i:=i) (x:=V.int B[i]) (by simp[C]);rw[W] at e1;cases e1;obtain⟨t,rfl⟩:=E;exact⟨t,by simp[List.getD,C]⟩
  ·have I3:Inv X r D H2 { m with heap:=h',toks:=tk }:=T.kept λb o e=>by have R:=fA e;exact hk b o (λA=>by rw[hV.mp A] at R;exact vS _ R) (by rw[O];exact gS (HZ R)) (eS _ (eS _ e))
   refine⟨_,H2,I3,?_,q⟩;rcases hP with⟨P,rfl⟩|⟨P,t,rfl⟩
   ·rw[if_pos P];exact⟨_,rfl⟩
   ·rw[if_neg P];exact⟨_,rfl⟩
end
end L2
namespace L2.Q
section
variable {X:Cx}{K:ay}{e t a b:Expr}{k g:WE}{p c o:Pos}{x:Str}
def U9:W1:=λ_ x Q=>match x with
 |.list f=>∃ d:List Bool,f=d.map D.bl/\Q .sh (.bl (d.all (λb=>b)))
 |_=>False
def Mw{H:Hp}{d:List Bool}{f:List V}(r:b9 K H (d.map D.bl) f):f=d.map V.bl:=by
 induction d generalizing f with
 |nil=>exact r.n0
 |cons b d j =>obtain⟨u,l,rfl,i,h⟩:=b9.c r;cases i;rw[j h];rfl
def zM:Ki K (W5 K) U9:=by
 intro r H m x v u n l w d h f;have i:=d.rep w
 cases i with
 |list z s q =>obtain⟨j,rfl,h⟩:=h;cases Mw q;exact⟨j,s,f.sh w (.bl _) h⟩
 |_=>exact h.elim
def Bc:W1:=λ_ x Q=>match x with
 |.list d=>eh d=true/\Q .sh (.tup d)
 |_=>False
def Et:Ki K (λi H Q=>∃ p d,i=[.ref p]/\((eP K H p d/\∀ l,H l=none->Q (.ref l) (upd H l (.tup d)))\/(kN K H p d/\Q (.ref p) H))) Bc:=by
 intro A H m x v B y u w j h f;have n:=j.rep w
 cases n with
 |list z s q =>have r:=q.length;exact⟨_,_,rfl,.inl ⟨s,f.tup w (by lia) q h.1 h.2⟩⟩
 |_=>exact h.elim
def Kg (h:autoParam (X.K=K) bv):oa X (.type "tuple") (λf H Q=>∃ p d,f=[.ref p]/\((eP K H p d/\∀ l,H l=none->Q (.ref l) (upd H l (.tup d)))\/(kN K H p d/\Q (.ref p) H))):=by subst h;exact kI'
def uT(n:Int)(z:Str):(AR n z).length=n.toNat*z.length:=by unfold AR Str.length;rw[kg,len_rep,A4]
def CZ:W2:=λ_ x _ y Q=>match x,y with
 |.int n,.str z=>(1<=n/\n<=100/\z.length<=100)/\Q .sh (.str (AR n z))
 |_,_=>False
def G7:kX K Jv CZ:=by
 intro E H m x v G n y u F D B w l j h f;have q:=l.rep w;have d:=j.rep w
 cases q with
 |int i=>cases d with
  |str s =>refine⟨h.1,Ad f w ?_ h.2⟩;obtain⟨⟨A,z,r⟩,_⟩:=h;rw[uT,kQ];have:=Nat.mul_le_mul (show i.toNat<=100 by lia) r;lia
  |_=>exact h.elim
 |_=>cases d<;>exact h.elim
def K7(f:QE X K a k)(d:QE X K b g):QE X K (.BinOp a .Mult b c) (av CZ k g):=S5 Hh G7 f d
def Cy:W2:=λ_ x _ y Q=>match x,y with
 |.list h,.int d=>∃ f:List Int,h=f.map D.int/\Q .sh (.int (if f=[] then d else sC f f.length))
 |_,_=>False
def Fb{H:Hp}{d:List Int}{f:List V}(r:b9 K H (d.map D.int) f):f=d.map V.int:=by
 induction d generalizing f with
 |nil=>exact r.n0
 |cons b d j =>obtain⟨u,l,rfl,i,h⟩:=b9.c r;cases i;rw[j h];rfl
def Jg:kX K (EY K) Cy:=by
 intro E H m x v G n y u F D B w l j h f;have r:=l.rep w;have i:=j.rep w
 cases r with
 |list z s q=>cases i with
  |int d =>obtain⟨A,rfl,h⟩:=h;cases Fb q;exact⟨A,s,f.sh w (.int _) h⟩
  |_=>exact h.elim
 |_=>cases i<;>exact h.elim
def Fw:mN "max" = some (.builtin "max"):=by decide +kernel
def Ly (h:Gl X "max") (f:X.mg "max" = none) (i:QE X K e k) (j:QE X K t g) (l:autoParam (X.calm=true) bv) (m:autoParam (X.K=K) bv) (d:autoParam (aR X e []) bv):QE X K (.Call (.Name "max" p) [e] [⟨some "default",t,o⟩] c) (av Cy k g):=by
 subst m;exact PE.imp (Hj l h f Fw i j d) (lg Jg)
def Jf:R2:=λx y H Q=>match x,y with
 |.int i,.int j=>Q (.int (if j>i then j else i)) H
 |_,_=>False
def J9:W2:=λ_ x _ y Q=>match x,y with
 |.int i,.int j=>Q .sh (.int (if j>i then j else i))
 |_,_=>False
def G3:kX K Jf J9:=by
 intro A H m x v D n y u B z s w q l h f;have r:=q.rep w;have d:=l.rep w
 cases r with
 |int i=>cases d with
  |int j=>exact f.sh w (.int _) h
  |_=>exact h.elim
 |_=>cases d<;>exact h.elim
def J2 (j:autoParam (X.calm=true) bv):oa X (.builtin "max") λf H Q=>∃ x y,f=[x,y]/\Jf x y H Q:=λd s h H f i Q I r l=>by
 obtain⟨x,y,e,q⟩:=l;subst e;unfold Jf at q;split at q
 ·exact jB' j d s h H _ i Q I r ⟨_,_,rfl,q⟩
 ·exact q.elim
end
end L2.Q
namespace L2.Q.R
section
variable {Q:Md->L2.Q.D->Prop}{m d:Md}{c:List L2.Q.D}{a b:Int}{x:Str}
def Sv:U9 m (.list c) Q = ∃ e:List Bool,c=e.map L2.Q.D.bl/\Q .sh (.bl (e.all (λb=>b))):=rfl
def Oo:Bc m (.list c) Q=(eh c=true/\Q .sh (.tup c)):=rfl
def Qp:CZ m (.int a) d (.str x) Q=((1<=a/\a<=100/\x.length<=100)/\Q .sh (.str (AR a x))):=rfl
def Qs:Cy m (.list c) d (.int a) Q = ∃ e:List Int,c=e.map L2.Q.D.int/\Q .sh (.int (if e=[] then a else sC e e.length)):=rfl
end
end L2.Q.R
namespace L2.Q
end L2.Q
end
namespace TS
open PySem PySem.SetTable
def fk:Nat->Nat->Nat
 |0,s=>s
 |k+1,s=>5*fk k s+1
def Kc(a b s:Nat):fk (a+b) s=fk b (fk a s):=by
 induction b with
 |zero=>rfl
 |succ b c=>show 5*fk (a+b) s+1=5*fk b (fk a s)+1;rw[c]
def Bk(n s:Nat):4*fk n s+1=5 ^ n*(4*s+1):=by
 induction n with
 |zero=>simp[fk]
 |succ n a =>
  show 4*(5*fk n s+1)+1=5 ^ (n+1)*(4*s+1)
  rw[D5,VP (5 ^ n) 5,P8,<- a];lia
def El(m:Nat):∃ q,5 ^ 2 ^ m=1+2 ^ (m+2)*q/\q % 2=1:=by
 induction m with
 |zero=>exact⟨1,by decide,by decide⟩
 |succ m a =>
  obtain⟨q,e,o⟩:=a;refine⟨q+2 ^ (m+1)*(q*q),?_,?_⟩
  ·have b:5 ^ 2 ^ (m+1)=(5 ^ 2 ^ m) ^ 2:=by rw[D5 2 m,Nat.pow_mul]
   rw[b,e];have d:2 ^ (m+1+2)=2*2 ^ (m+2):=by rw[show m+1+2=(m+2)+1 by lia,D5];lia
   have c:2 ^ (m+2)=2*2 ^ (m+1):=by rw[show m+2=(m+1)+1 by lia,D5];lia
   rw[d,c];generalize 2 ^ (m+1)=y;rw[Nat.pow_two];simp only[Nat.mul_add,Nat.add_mul,Nat.one_mul,Nat.mul_one];have g:2*y*q*(2*y*q)=2*(2*y)*(y*(q*q)):=by simp only[P8,Nat.mul_left_comm,VP]
   have f:2*(2*y)*q=2*y*q+2*y*q:=by rw[P8 2 (2*y) q];lia
   rw[g,f];lia
  ·have:2 ^ (m+1)*(q*q) % 2=0:=by rw[D5,VP (2 ^ m) 2,P8,Nat.mul_mod_right]
   lia
def Ie(m x:Nat):∃ r,fk (2 ^ m) x=x+2 ^ m*r/\r % 2=1:=by
 obtain⟨q,e,o⟩:=El m;have c:=Bk (2 ^ m) x;rw[e] at c;refine⟨q*(4*x+1),?_,?_⟩
 ·have a:2 ^ (m+2)=4*2 ^ m:=by rw[Nat.pow_add];lia
  rw[a,Nat.add_mul,Nat.one_mul,P8,P8] at c;lia
 ·rw[Nat.mul_mod,o,Nat.one_mul];lia
def KH(m s e:Nat):∃ k,k+1<=2 ^ m/\fk k s % 2 ^ m=e % 2 ^ m:=by
 induction m with
 |zero=>exact⟨0,by decide,by simp[Nat.mod_one]⟩
 |succ m g =>
  obtain⟨k,l,h⟩:=g;have f:2 ^ (m+1)=2 ^ m*2:=D5 ..;have d:0<2 ^ m:=Nat.pow_pos (by decide);have b:∀ a:Nat,a % (2 ^ m*2)=a % 2 ^ m+2 ^ m*(a / 2 ^ m % 2):=λa=>Nat.mod_mul;by_cases c:fk k s / 2 ^ m % 2=e / 2 ^ m % 2
  ·exact⟨k,by lia,by rw[f,b,b,h,c]⟩
  ·refine⟨k+2 ^ m,by lia,?_⟩;obtain⟨r,i,j⟩:=Ie m (fk k s);rw[Kc,i,f,b,b,Nat.add_mul_mod_self_left,h,Nat.add_mul_div_left _ _ d];have:(fk k s / 2 ^ m+r) % 2=e / 2 ^ m % 2:=by lia
   rw[this]
def xi(M:Nat)(p:Probe):Probe :=
 if p.more>0 then { p with j:=p.j+1,more:=p.more-1 } else
 { p with j:=(leap M p.i p.perturb).1,more:=runEnd M (leap M p.i p.perturb).1-(leap M p.i p.perturb).1,i:=(leap M p.i p.perturb).1,perturb:=(leap M p.i p.perturb).2 }
def ps(M:Nat)(h:Int):Nat->Probe
 |0=>{ j:=bits h % (M+1),more:=runEnd M (bits h % (M+1))-bits h % (M+1),i:=bits h % (M+1),perturb:=bits h,dummy:=none }
 |n+1=>xi M (ps M h n)
def J(M:Nat)(h:Int)(n:Nat):Nat:=(ps M h n).j
def v9(h:i<=M):i<=runEnd M i/\runEnd M i<=M/\runEnd M i<=i+9:=by unfold runEnd;split<;>lia
theorem Ii(M:Nat)(h:Int):∀ n,(ps M h n).i<=M/\(ps M h n).j+(ps M h n).more<=M/\(ps M h n).dummy=none/\(ps M h n).more<=9
 |0=>by have e:bits h % (M+1)<=M:=VJ (Qw _ (VQ _));have:=v9 e;exact⟨e,by show bits h % (M+1)+(runEnd M (bits h % (M+1))-bits h % (M+1))<=M;lia,rfl,by show runEnd M (bits h % (M+1))-bits h % (M+1)<=9;lia⟩
 |n+1=>by
  obtain⟨a,b,c,d⟩:=Ii M h n;show(xi M (ps M h n)).i<=M/\_/\(xi M (ps M h n)).dummy=none/\_;unfold xi;by_cases f:(ps M h n).more>0
  ·simp only[f,if_true];show _/\(xi M (ps M h n)).j+(xi M (ps M h n)).more<=M/\_/\(xi M (ps M h n)).more<=9;simp only[xi,f,if_true];exact⟨a,by lia,c,by lia⟩
  ·simp only[f,if_false];show _/\(xi M (ps M h n)).j+(xi M (ps M h n)).more<=M/\_/\(xi M (ps M h n)).more<=9;simp only[xi,f,if_false];have e:(leap M (ps M h n).i (ps M h n).perturb).1<=M:=VJ (Qw _ (VQ _));have:=v9 e;exact⟨e,by lia,c,by lia⟩
def cd'(M:Nat)(h:Int)(n:Nat):J M h n<=M:=by have:=Ii M h n;unfold J;lia
theorem zX(M:Nat)(h:Int)(n:Nat):∀ r,r<=(ps M h n).more->ps M h (n+r)={ ps M h n with j:=(ps M h n).j+r,more:=(ps M h n).more-r }
 |0,_=>rfl
 |r+1,a=>by show xi M (ps M h (n+r))=_;rw[zX M h n r (by exact D4 ‹_›)];unfold xi;rw[if_pos (show(ps M h n).more-r>0 by lia)];simp only[Probe.mk.injEq,true_and,and_true];lia
def lp(M:Nat)(h:Int):Nat->Nat × Nat
 |0=>(bits h % (M+1),bits h)
 |k+1=>leap M (lp M h k).1 (lp M h k).2
def mB(M:Nat)(h:Int):Nat->Nat
 |0=>0
 |k+1=>mB M h k+(runEnd M (lp M h k).1-(lp M h k).1)+1
theorem Iz(M:Nat)(h:Int):∀ k,(lp M h k).1<=M
 |0=>VJ (Qw _ (VQ _))
 |k+1=>VJ (Qw _ (VQ _))
theorem yl(M:Nat)(h:Int):∀ k,mB M h k<=10*k
 |0=>cE _
 |k+1=>by have:=yl M h k;have:=v9 (Iz M h k);show mB M h k+_+1<=_;lia
theorem u6(M:Nat)(h:Int):∀ k,ps M h (mB M h k)={ j:=(lp M h k).1,more:=runEnd M (lp M h k).1-(lp M h k).1,i:=(lp M h k).1,perturb:=(lp M h k).2,dummy:=none }
 |0=>rfl
 |k+1=>by have a:=u6 M h k;have e:=zX M h (mB M h k) (runEnd M (lp M h k).1-(lp M h k).1) (by rw[a];exact cE _);show xi M (ps M h (mB M h k+(runEnd M (lp M h k).1-(lp M h k).1)))=_;rw[e,a];unfold xi;rw[if_neg (by simp)];rfl
theorem Fy(M:Nat)(h:Int):∀ k,(lp M h k).2=bits h / 32 ^ k
 |0=>by simp[lp]
 |k+1=>by show(lp M h k).2 / 32=_;rw[Fy M h k,Nat.div_div_eq_div_mul,D5]
def G4(h:Int):bits h<2 ^ 64:=by unfold bits;lia
theorem Bv(M:Nat)(h:Int):∀ k,(lp M h (13+k)).1 % (M+1)=fk k (lp M h 13).1 % (M+1)
 |0=>rfl
 |k+1=>by
  have e:(lp M h (13+k)).2=0:=by rw[Fy];exact Nat.div_eq_of_lt (sN (G4 h) (kD (by decide:2 ^ 64<=32 ^ 13) (Nat.pow_le_pow_right (by decide) (by lia))))
  show(leap M (lp M h (13+k)).1 (lp M h (13+k)).2).1 % (M+1)=_;rw[e];show((lp M h (13+k)).1*5+1+0 / 32) % (M+1) % (M+1)=(5*fk k (lp M h 13).1+1) % (M+1);rw[Nat.mod_mod,Nat.zero_div,Qr,Nat.add_mod,Nat.mul_mod,Bv M h k,<- Nat.mul_mod,<- Nat.add_mod,VP]
def cover(c:M+1=2 ^ m)(h:Int)(b:e<=M):∃ k,k<=M+13/\(lp M h k).1=e:=by obtain⟨k,a,q⟩:=KH m (lp M h 13).1 e;rw[<- c] at a q;refine⟨13+k,by lia,?_⟩;have:=Bv M h k;rw[q] at this;rwa[Nat.mod_eq_of_lt (VL (Iz M h _)),Nat.mod_eq_of_lt (VL b)] at this
def Lz(M:Nat)(h:Int)(k:Nat):J M h (mB M h k)=(lp M h k).1:=by unfold J;rw[u6]
def x_(s:M+1=2 ^ m)(h:Int)(a:Nat->Bool)(p:e<=M)(l:a e=false):∃ n,n<=10*(M+13)/\a (J M h n)=false/\∀ k<n,a (J M h k)=true:=by
 obtain⟨k,i,q⟩:=cover s h p;have r:=yl M h k;have d:a (J M h (mB M h k))=false:=by rw[Lz,q];exact l
 generalize mB M h k=b at r d;have v:∀ b,a (J M h b)=false->∃ n,n<=b/\a (J M h n)=false/\∀ k<n,a (J M h k)=true:=by
  intro b
  induction b using Nat.strongRecOn with
  |ind b j =>
   intro d;by_cases c:∃ k,k<b/\a (J M h k)=false
   ·obtain⟨k,u,t⟩:=c;obtain⟨n,w,g,f⟩:=j k u t;exact⟨n,by lia,g,f⟩
   ·refine⟨b,cE _,d,λk i=>?_⟩
    cases z:a (J M h k) with
    |true=>rfl
    |false=>exact absurd ⟨k,i,z⟩ c
 obtain⟨n,w,g,f⟩:=v b d;exact⟨n,by lia,g,f⟩
def Up(xs:Array Nat):Prop:=∀ i j:Nat,i<j->j<xs.size->xs.getD i 0<xs.getD j 0
def uL{a:Array Nat}{i d d':Nat}(h:i<a.size):a.getD i d=a.getD i d':=by simp[Array.getD,h]
def pZ{g:Array Nat}(U:Up g)(j:Nat):∀ a f b,b-f<=a->f<=b->b<=g.size->(∀ i<f,g.getD i 0<j)->(∀ i,b<=i->i<g.size->j<=g.getD i 0) ->
  below.go g j a f b<=g.size/\(∀ i<below.go g j a f b,g.getD i 0<j)/\(∀ i,below.go g j a f b<=i->i<g.size->j<=g.getD i 0)
 |0,f,b,q,r,l,k,h=>by
  obtain rfl:f=b:=by lia
  exact⟨l,k,h⟩
 |a+1,f,b,q,r,l,k,h=>by
  unfold below.go;by_cases c:f<b
  ·rw[if_pos c];have m:(f+b) / 2<g.size:=by lia
   by_cases d:g.getD ((f+b) / 2) j<j
   ·rw[if_pos d];rw[uL m] at d;refine pZ U j a _ _ (by lia) (by lia) l (λi n=>?_) h;by_cases e:i=(f+b) / 2
    ·rw[e];exact d
    ·exact xek (U i _ (by lia) m) d
   ·rw[if_neg d];rw[uL (d':=0) m] at d;refine pZ U j a _ _ (by lia) (by lia) (by lia) k λi n p=>?_;by_cases e:i=(f+b) / 2
    ·rw[e];lia
    ·have:=U ((f+b) / 2) i (by lia) p;lia
  ·rw[if_neg c];obtain rfl:f=b:=by lia
   exact⟨l,k,h⟩
def bu(U:Up o)(j:Nat):below o j<=o.size/\(∀ i<below o j,o.getD i 0<j)/\(∀ i,below o j<=i->i<o.size->j<=o.getD i 0) :=
 pZ U j o.size 0 o.size (by lia) (by lia) (cE _) (λi h=>absurd h (LV i)) λi b a=>by lia
def below_at(U:Up o)(h:i<o.size):below o (o.getD i 0)=i:=by
 obtain⟨a,b,c⟩:=bu U (o.getD i 0);by_cases e:below o (o.getD i 0)<i
 ·have:=c _ (cE _) (by lia);have:=U _ i e h;lia
 ·by_cases d:i<below o (o.getD i 0)
  ·have:=b i d;lia
  ·lia
def ye(U:Up o)(h:i<o.size):below o (o.getD i 0+1)=i+1:=by
 obtain⟨a,b,c⟩:=bu U (o.getD i 0+1);by_cases e:below o (o.getD i 0+1)<i+1
 ·have:=c i (by lia) h;lia
 ·by_cases d:i+1<below o (o.getD i 0+1)
  ·have:=b (i+1) d;have:=U i (i+1) (by lia) (by lia);lia
  ·lia
def taken(a:Array Nat)(j:Nat):Bool:=a[below a j]? == some j
def Ay{a:Array Nat}{i j:Nat}(h:a[i]? = some j):i<a.size/\a.getD i 0=j:=by obtain⟨b,c⟩:=Ub.mp h;exact⟨b,by simp[Array.getD,b,c]⟩
def zO{a:Array Nat}{i:Nat}(h:i<a.size):a[i]? = some (a.getD i 0):=by simp[Array.getD,h]
def fU{a:Array Nat}(U:Up a){j:Nat}:taken a j=true↔∃ i,i<a.size/\a.getD i 0=j:=by
 unfold taken;rw[beq_iff_eq];constructor
 ·intro h;exact⟨_,Ay h⟩
 ·rintro⟨i,h,rfl⟩;rw[below_at U h];exact zO h
def pO{a:Array Nat}(U:Up a){j:Nat}(h:taken a j=true):below a j<a.size/\a.getD (below a j) 0=j:=by unfold taken at h;rw[beq_iff_eq] at h;exact Ay h
def c7{b:Type}(a:Array b){p:Nat}(x:b)(h:p<=a.size):(insertAt a p x).size=a.size+1:=by unfold insertAt;simp;lia
def MQ{b:Type}(a:Array b){p:Nat}(x:b)(h:p<=a.size)(i:Nat):(insertAt a p x)[i]? = if i<p then a[i]? else if i=p then some x else a[i-1]? := by
 unfold insertAt;have f:((a.extract 0 p).push x).size=p+1:=by simp;exact Nat.min_eq_left ‹_›
 by_cases e:i<p
 ·rw[if_pos e,Array.getElem?_append_left (by lia),Array.getElem?_push,if_neg (by simp;lia),VZ];rw[if_pos (by lia)];simp
 ·rw[if_neg e];by_cases d:i=p
  ·rw[if_pos d,Array.getElem?_append_left (by lia),Array.getElem?_push,if_pos (by simp;lia)]
  ·rw[if_neg d,Array.getElem?_append_right (by lia),f,VZ];by_cases c:i-(p+1)<min a.size a.size-p
   ·rw[if_pos c];congr 1;lia
   ·rw[if_neg c,Qz (by lia)]
def dI(h:p<=o.size)(i:Nat):(insertAt o p x).getD i 0=if i<p then o.getD i 0 else if i=p then x else o.getD (i-1) 0:=by
 have e:∀ (a:Array Nat) k,a.getD k 0=a[k]?.getD 0:=λa k=>by simp[LX]
 rw[e,MQ o x h];split
 ·rw[e]
 ·split
  ·rfl
  ·rw[e]
def Fx(U:Up o)(p:taken o j=false):Up (insertAt o (below o j) j):=by
 obtain⟨a,b,c⟩:=bu U j;have m:∀ i,i<o.size->o.getD i 0≠j:=λi q e=>by have:=(fU U).mpr ⟨i,q,e⟩;rw[p] at this;cases this
 intro i k d n;rw[c7 o j a] at n;rw[dI a,dI a];by_cases l:k<below o j
 ·rw[if_pos (by lia),if_pos l];exact U i k d (by lia)
 ·rw[if_neg l];by_cases h:k=below o j
  ·rw[if_pos h,if_pos (by lia)];exact b i (by lia)
  ·rw[if_neg h];by_cases g:i<below o j
   ·rw[if_pos g];exact U i (k-1) (by lia) (by lia)
   ·rw[if_neg g];by_cases f:i=below o j
    ·rw[if_pos f];have:=c (k-1) (by lia) (by lia);have:=m (k-1) (by lia);lia
    ·rw[if_neg f];exact U (i-1) (k-1) (by lia) (by lia)
def zW(U:Up o)(d:taken o j=false):taken (insertAt o (below o j) j) k=(decide (k=j) || taken o k):=by
 have a:=(bu U j).1;have g:=Fx U d;apply zD.mpr;rw[fU g,VX,decide_eq_true_eq,fU U];rw[c7 o j a];constructor
 ·rintro⟨i,f,e⟩;rw[dI a] at e;by_cases b:i<below o j
  ·rw[if_pos b] at e;exact .inr ⟨i,by lia,e⟩
  ·rw[if_neg b] at e;by_cases c:i=below o j
   ·rw[if_pos c] at e;exact .inl e.symm
   ·rw[if_neg c] at e;exact .inr ⟨i-1,by lia,e⟩
 ·rintro(rfl|⟨i,f,e⟩)
  ·exact⟨below o k,by lia,by rw[dI a,if_neg (by lia),if_pos rfl]⟩
  ·by_cases b:i<below o j
   ·exact⟨i,by lia,by rw[dI a,if_pos b];exact e⟩
   ·exact⟨i+1,by lia,by rw[dI a,if_neg (by lia),if_neg (by lia)];exact e⟩
def Reach(M:Nat)(a:Array Nat)(h:Int)(j:Nat):Prop:=∃ n,n<=10*(M+13)/\J M h n=j/\∀ k<n,taken a (J M h k)=true
structure TI{α:Type}(t:SetTable)(es:Array (Int × α)):Prop where
 pw:∃ m,t.mask+1=2 ^ m/\3<=m
 sz:t.place.size=es.size
 up:Up t.place
 le:∀ i,i<t.place.size->t.place.getD i 0<=t.mask
 dm:t.dummies = #[]
 few:es.size*5<t.mask*3
 path:∀ i h x,es[i]? = some (h,x)->Reach t.mask t.place h (t.place.getD i 0)
section
variable {d:Type}{t:SetTable}{es:Array (Int × d)}
def TI.slot(T:TI t es)(j:Nat):t.slot j=if taken t.place j then .live (below t.place j) else .empty:=by
 unfold SetTable.slot taken;dsimp only;split
 ·rfl
 ·have:has t.dummies j=false:=by rw[T.dm];rfl
  rw[this];rfl
def TI.fits(T:TI t es):t.fits es.size=true:=by have:=T.few;simp only[SetTable.fits,fill,T.dm,T.sz,mn,beq_iff_eq,decide_eq_true_eq,true_and];simp;lia
def TI.odd(T:TI t es):t.gaveWay=false:=by
 obtain⟨m,h,a⟩:=T.pw;unfold SetTable.gaveWay;rw[beq_eq_false_iff_ne];have:2 ^ m=2*2 ^ (m-1):=by rw[show m=(m-1)+1 by lia,D5];simp;lia
 lia
def TI.free(T:TI t es):∃ e,e<=t.mask/\taken t.place e=false:=by
 have k:=T.few;have j:=T.sz;by_cases c:∃ e,e<=t.mask/\taken t.place e=false
 ·exact c
 ·exfalso;have a:∀ e,e<=t.mask->taken t.place e=true:=λe f=>by
   cases z:taken t.place e with
   |true=>rfl
   |false=>exact absurd ⟨e,f,z⟩ c
  have h:∀ e,e<=t.mask->e<=below t.place e:=by
   intro e
   induction e with
   |zero=>intro _;exact gy _
   |succ e i =>
    intro f;have g:=pO T.up (a e (by lia));obtain⟨_,b,c⟩:=bu T.up (e+1);by_cases z:below t.place e<below t.place (e+1)
    ·lia
    ·have:=c (below t.place e) (by lia) g.1;lia
  have:=h t.mask (cE _);have:=(pO T.up (a t.mask (cE _))).1;lia
def TI.put(T:TI t es)(v:j<=t.mask)(r:taken t.place j=false)(s:Reach t.mask t.place h j)(f:o.mask=t.mask)(c:o.place=insertAt t.place (below t.place j) j)(A:o.dummies = #[])(z:(es.size+1)*5<t.mask*3):TI o (insertAt es (below t.place j) (h,x)):=by
 have a:=(bu T.up j).1;have p:below t.place j<=es.size:=by rw[<- T.sz];exact a
 refine⟨by rw[f];exact T.pw,by rw[c,c7 _ _ a,c7 _ _ p,T.sz],by rw[c];exact Fx T.up r,λi w=>?_,A,by rw[c7 _ _ p,f];exact z,λi g y e=>?_⟩
 ·rw[c,c7 _ _ a] at w;rw[c,dI a,f];split
  ·exact T.le i (by lia)
  ·split
   ·exact v
   ·exact T.le (i-1) (by lia)
 ·have b:∀ {g} {k},Reach t.mask t.place g k->Reach o.mask o.place g k:=λ{g k} zq=>by obtain⟨n,m,l,B⟩:=zq;exact⟨n,by rw[f];exact m,by rw[f];exact l,λq u=>by
   rw[c,f,zW T.up r,B q u,Bool.or_true]⟩
  rw[MQ es _ p] at e;rw[c,dI a,<- c];by_cases m:i<below t.place j
  ·rw[if_pos m] at e ⊢;exact b (T.path i g y e)
  ·rw[if_neg m] at e ⊢;by_cases l:i=below t.place j
   ·rw[if_pos l] at e ⊢;cases e;exact b s
   ·rw[if_neg l] at e ⊢;exact b (T.path (i-1) g y e)
end
theorem gf{b:Type}[DecidableEq b]:∀ {l m:List b},l.Nodup->(∀ x∈l,x∈m)->l.length<=m.length
 |[],_,_,_=>gy _
 |x :: l,m,a,h=>by rw[om] at a;have d:=h x eK;have:=gf (m:=m.erase x) a.2 λy c=>(List.mem_erase_of_ne (λe=>a.1 (by rw[<- e];exact c))).mpr (h y (eI _ c));rw[List.length_erase_of_mem d] at this;have:0<m.length:=Vz d;simp only[gi];lia
def ly(a:Array (Option Nat))(j:Nat):Bool:=(a.getD j (some 0)).isSome
def sI(h:Int)(a:Array (Option Nat)):∀ b k,(∀ q<mB M h k,ly a (J M h q)=true)->(∃ K,k<=K/\K<k+b/\K<=M+13/\ly a (lp M h K).1=false) ->
  ∃ j n,layClean.free M a b (lp M h k).1 (lp M h k).2=some j/\J M h n=j/\n<=10*(M+13)/\ly a j=false/\∀ q<n,ly a (J M h q)=true
 |0,k,_,⟨K,A,y,_⟩=>by lia
 |b+1,k,s,⟨K,A,y,x,l⟩=>by
  have d:∀ r,r<=runEnd M (lp M h k).1-(lp M h k).1->J M h (mB M h k+r)=(lp M h k).1+r:=λr p=>by unfold J;rw[zX M h (mB M h k) r (by rw[u6];exact p),u6]
  have w:=v9 (Iz M h k);have e:∀ r,(a.getD ((lp M h k).1+r) (some 0)).isNone = !ly a ((lp M h k).1+r):=λr=>by unfold ly;cases a.getD ((lp M h k).1+r) (some 0)<;>rfl
  unfold layClean.free
  cases t:(List.range (runEnd M (lp M h k).1+1-(lp M h k).1)).find? λr=>(a.getD ((lp M h k).1+r) (some 0)).isNone with
  |some r =>
   obtain⟨i,u,B⟩:=List.find?_range_eq_some.mp t;have u:r<runEnd M (lp M h k).1+1-(lp M h k).1:=by simpa using u
   rw[e] at i;have i:ly a ((lp M h k).1+r)=false:=by simpa using i
   have c:∀ q<mB M h k+r,ly a (J M h q)=true:=λq m=>by
    by_cases z:q<mB M h k
    ·exact s q z
    ·have:=B (q-mB M h k) (by lia);rw[e] at this;have f:=d (q-mB M h k) (by lia);rw[show mB M h k+(q-mB M h k)=q by lia] at f;rw[f];simpa using this
   refine⟨_,mB M h k+r,rfl,d r (by lia),?_,i,c⟩;have D:=yl M h K;by_cases z:mB M h k+r<=mB M h K
   ·lia
   ·have:=c (mB M h K) (by lia);rw[Lz,l] at this;cases this
  |none =>
   have v:=List.find?_eq_none.mp t;have g:∀ r,r<=runEnd M (lp M h k).1-(lp M h k).1->ly a ((lp M h k).1+r)=true:=λr p=>by have:=v r (by simp;lia);rw[e] at this;simpa using this
   have E:K≠k:=λz=>by subst z;have:=g 0 (gy _);rw[Qr,l] at this;cases this
   refine sI h a b (k+1) (λq m=>?_) ⟨K,by lia,by lia,x,l⟩;by_cases z:q<mB M h k
   ·exact s q z
   ·have m:q<mB M h k+(runEnd M (lp M h k).1-(lp M h k).1)+1:=m;have f:=d (q-mB M h k) (by lia);rw[show mB M h k+(q-mB M h k)=q by lia] at f;rw[f];exact g _ (by lia)
structure OI(M:Nat)(hs:List Int)(owner:Array (Option Nat)):Prop where
 sz:owner.size=M+1
 lt:∀ j v:Nat,owner[j]? = some (some v)->v<hs.length
 inj:∀ j j' v:Nat,owner[j]? = some (some v)->owner[j']? = some (some v)->j=j'
 all:∀ v:Nat,v<hs.length->∃ j:Nat,owner[j]? = some (some v)
 path:∀ j v:Nat,owner[j]? = some (some v)->∃ n,n<=10*(M+13)/\J M (hs.getD v 0) n=j/\∀ q<n,ly owner (J M (hs.getD v 0) q)=true
def uG(h:j<o.size):ly o j=true↔∃ v,o[j]? = some (some v):=by
 unfold ly;rw[D7 h];simp only[Array.getD,h,dite_true,Option.some.injEq]
 cases a:o[j] with
 |none =>have:o.getInternal j h=none:=a;rw[this];simp
 |some v =>have:o.getInternal j h=some v:=a;rw[this];simp
def OI.free(O:OI M C o)(s:C.length<=M):∃ e,e<=M/\ly o e=false:=by
 by_cases c:∃ e,e<=M/\ly o e=false
 ·exact c
 ·exfalso;have d:∀ e,e<=M->∃ v,o[e]? = some (some v):=λe l=>by
   refine(uG (by rw[O.sz];lia)).mp ?_
   cases z:ly o e with
   |true=>rfl
   |false=>exact absurd ⟨e,l,z⟩ c
  have h:((List.range (M+1)).map λj=>(o.getD j none).getD 0).Nodup:=by rw[TL,A2];refine List.Pairwise.imp_of_mem ?_ (TL.mp List.nodup_range);intro a b n m p z;obtain⟨r,g⟩:=d a (by have:=vF.mp n;lia);obtain⟨q,f⟩:=d b (by have:=vF.mp m;lia);rw[LX,LX,g,f] at z;subst z;exact p (O.inj _ _ _ g f)
  have:=gf h λx i=>by obtain⟨j,k,rfl⟩:=fq.mp i;obtain⟨v,e⟩:=d j (by have:=vF.mp k;lia);rw[LX,e];exact vF.mpr (O.lt _ _ e)
  simp at this;lia
def OI.lay(A:M+1=2 ^ m)(O:OI M C o)(w:C.length<=M)(h:Int) :
  ∃ j,layClean.free M o (turns M) (bits h % (M+1)) (bits h)=some j/\OI M (C++[h]) (o.setIfInBounds j (some C.length)):=by
 obtain⟨e,y,x⟩:=O.free w;obtain⟨K,B,l⟩:=cover A h y;obtain⟨j,n,J,s,H,G,F⟩:=sI h o (turns M) 0 (λq f=>absurd f (LV q)) ⟨K,gy _,by unfold turns;lia,B,by rw[l];exact x⟩;refine⟨j,J,?_⟩;have r:j<o.size:=by rw[O.sz,<- s];exact VL (cd' M h n)
 have a:∀ i,(o.setIfInBounds j (some C.length))[i]? = if j=i then some (some C.length) else o[i]? := λi=>by
  by_cases z:j=i
  ·subst z;simp[r]
  ·simp[z]
 have p:∀ i,ly o i=true->ly (o.setIfInBounds j (some C.length)) i=true:=λi d=>by
  unfold ly at d ⊢;rw[LX] at d ⊢;rw[a];split
  ·rfl
  ·exact d
 have D:∀ v,o[j]?≠some (some v):=λv z=>by have:=(uG r).mpr ⟨v,z⟩;rw[G] at this;cases this
 refine⟨by rw[Array.size_setIfInBounds];exact O.sz,λi v z=>?_,λi u v z b=>?_,λv g=>?_,λi v z=>?_⟩
 ·rw[a] at z;split at z
  ·cases z;simp
  ·have:=O.lt i v z;simp;lia
 ·rw[a] at z b;split at z
  ·cases z;split at b
   ·lia
   ·exact absurd (O.lt _ _ b) (vS _)
  ·split at b
   ·cases b;exact absurd (O.lt _ _ z) (vS _)
   ·exact O.inj i u v z b
 ·simp at g;by_cases c:v=C.length
  ·exact⟨j,by rw[a,if_pos rfl,c]⟩
  ·obtain⟨i,d⟩:=O.all v (by lia);refine⟨i,?_⟩;rw[a,if_neg (λz=>D v (by rw[z];exact d))];exact d
 ·rw[a] at z;split at z
  ·rename_i k;cases z;refine⟨n,H,?_,λq f=>p _ ?_⟩
   ·rw[xE,DT (cE _)];simp[s,k]
   ·have:=F q f;simpa using this
  ·have g:=O.lt i v z;obtain⟨t,P,N,L⟩:=O.path i v z;have E:(C++[h]).getD v 0=C.getD v 0:=by rw[xE,xE,HK g]
   rw[E];exact⟨t,P,N,λq f=>p _ (L q f)⟩
def OI.nil(M:Nat):OI M [] (Array.replicate (M+1) none):=by
 have a:∀ (j v:Nat),¬ (Array.replicate (M+1) none)[j]? = some (some v):=λj v z=>by rw[Array.getElem?_replicate] at z;split at z<;>cases z
 exact⟨by simp,λj v z=>absurd z (a j v),λj c v z _=>absurd z (a j v),λv b=>absurd b (LV v),λj v z=>absurd z (a j v)⟩
def G9(s:M+1=2 ^ m)(d:Array Int)(r:d.size<=M):∃ a,layClean M d=some a/\OI M d.toList a:=by
 have t:∀ l b a,OI M b a->b.length+l.length<=M->∃ c,l.foldl (λf h=>do
   let (a,k) ← f
   let j ← layClean.free M a (turns M) (bits h % (M+1)) (bits h)
   pure (a.setIfInBounds j (some k),k+1)) (some (a,b.length))=some (c,b.length+l.length)/\OI M (b++l) c:=by
  intro l
  induction l with
  |nil=>intro b a O _;exact⟨a,rfl,by rw[ng];exact O⟩
  |cons h l p =>
   intro b a O q;rw[gi] at q;obtain⟨j,e,v⟩:=O.lay s (by lia) h;obtain⟨n,u,i⟩:=p (b++[h]) _ v (by simp;lia);refine⟨n,?_,by rw[r9] at i;exact i⟩;rw[zC];have:(do
    let (a,k) ← (some (a,b.length):Option (Array (Option Nat) × Nat))
    let j ← layClean.free M a (turns M) (bits h % (M+1)) (bits h)
    pure (a.setIfInBounds j (some k),k+1))=some (a.setIfInBounds j (some b.length),(b++[h]).length):=by
    simp[e]
   rw[this,u];simp;lia
 obtain⟨o,e,O⟩:=t d.toList [] _ (OI.nil M) (by simpa using r);refine⟨o,?_,by simpa using O⟩;unfold layClean;rw[<- Array.foldl_toList];have g:=e;simp only[P6] at g;rw[g];rfl
theorem jK:∀ d a,3<=a->n<2 ^ (a+d)->∃ b,3<=b/\sizeAbove.go n d (2 ^ a)=2 ^ b/\n<2 ^ b/\(2 ^ b<=2*n\/b=a)
 |0,a,f,h=>⟨a,f,rfl,by simpa using h,.inr rfl⟩
 |d+1,a,f,h=>by
  unfold sizeAbove.go;by_cases c:2 ^ a<=n
  ·rw[if_pos c];obtain⟨b,j,g,i,e⟩:=jK d (a+1) (by lia) (by rw[show a+1+d=a+(d+1) by lia];exact h);refine⟨b,j,by rw[D5] at g;exact g,i,?_⟩;rcases e with e|e
   ·exact .inl e
   ·left;rw[e,D5];lia
  ·rw[if_neg c];exact⟨a,f,rfl,by lia,.inr rfl⟩
def nj(h:n<2 ^ 60):∃ b,3<=b/\sizeAbove n=2 ^ b/\n<2 ^ b/\(2 ^ b<=2*n\/b=3) :=
 jK 64 3 (cE _) (xek h (by decide))
section
variable {c:Type}
def bK(M:Nat)(a:Array (Option Nat)):List (Nat × Nat):=(List.range (M+1)).filterMap λj=>(a.getD j none).map (j,·)
def eQ:p∈bK M C↔p.1<M+1/\C[p.1]? = some (some p.2):=by
 unfold bK;rw[xd7];constructor
 ·rintro⟨j,a,e⟩;rw[LX] at e
  cases h:C[j]? with
  |none=>rw[h] at e;cases e
  |some o =>
   rw[h] at e
   cases o with
   |none=>cases e
   |some v =>cases e;exact⟨vF.mp a,h⟩
 ·rintro⟨d,b⟩;exact⟨p.1,vF.mpr d,by rw[LX,b];rfl⟩
def uz(M:Nat)(d:Array (Option Nat)):((bK M d).map (·.1)).Pairwise (· < ·):=by
 unfold bK;rw[A2,List.pairwise_filterMap];refine List.Pairwise.imp ?_ List.pairwise_lt_range;intro a b i p f q e
 cases h:d.getD a none with
 |none=>rw[h] at f;cases f
 |some x =>
  cases g:d.getD b none with
  |none=>rw[g] at e;cases e
  |some y =>rw[h] at f;rw[g] at e;cases f;cases e;exact i
def v5{l:List Nat}(h:l.Pairwise (· < ·)):Up l.toArray:=λi j d a=>by
 have a:j<l.length:=by simpa using a
 have:=TN.mp h i j (by lia) a d;have e:∀ k b,l.toArray.getD k 0=l[k]:=λk b=>by simp[Array.getD,b]
 rw[e i (by lia),e j a];exact this
theorem vX{g:Type}{f:c->Option g}:∀ {l:List c},(∀ x∈l,(f x).isSome=true)->(l.filterMap f).length=l.length/\∀ i:Nat,(l.filterMap f)[i]? = (l[i]?).bind f
 |[],_=>⟨rfl,λi=>by simp⟩
 |x :: l,h=>by
  obtain⟨a,b⟩:=vX λy j=>h y (eI _ j);have d:=h x eK
  cases e:f x with
  |none=>rw[e] at d;cases d
  |some y =>
   rw[TV,e];refine⟨by simp[a],λi=>?_⟩
   cases i with
   |zero=>simp[e]
   |succ i=>simpa using b i
def vO(a:Array (Int × c)):(List.range a.size).filterMap (λi=>a[i]?)=a.toList:=by
 apply T2;intro i;rw[(vX λx b=>by
  have:=vF.mp b;simp[this]).2 i]
 by_cases h:i<a.size
 ·rw[TX h,sP];rfl
 ·rw[DU (by simpa using h),DU (by simpa using h)];rfl
def HJ{M m finger moves:Nat}{led plain:Bool}(H:M+1=2 ^ m)(R:3<=m){es:Array (Int × c)}(T:es.size*5<M*3) :
  ∃ t b,laid M finger moves led plain (es.map (·.1))=some (t,b)/\t.plain=plain/\t.led=led/\t.mask=M/\TI t (b.filterMap λi=>es[i]?)/\(b.filterMap λi=>es[i]?).size=es.size/\(b.filterMap λi=>es[i]?).toList.Perm es.toList/\b.toList.Perm (List.range es.size):=by
 obtain⟨a,e,O⟩:=G9 H (es.map (·.1)) (by rw[Array.size_map];lia);have Q:(es.map (·.1)).toList.length=es.size:=by simp
 refine⟨{ mask:=M,place:=((bK M a).map (·.1)).toArray,dummies:=#[],finger,led,moves,plain },((bK M a).map (·.2)).toArray,?_,rfl,rfl,rfl,?_⟩
 ·unfold laid;rw[e];rfl
 have s:∀ p∈bK M a,p.2<es.size:=λp d=>by have:=O.lt _ _ (eQ.mp d).2;lia
 have P:((bK M a).map (·.2)).Nodup:=by rw[TL,A2];have:=uz M a;rw[A2] at this;refine List.Pairwise.imp_of_mem ?_ this;intro p q d D o z;have:=O.inj _ _ _ (eQ.mp d).2 (by rw[z];exact(eQ.mp D).2);lia
 have A:((bK M a).map (·.2)).Perm (List.range es.size):=by
  refine(List.perm_ext_iff_of_nodup P List.nodup_range).mpr λv=>⟨λu=>?_,λu=>?_⟩
  ·obtain⟨p,d,rfl⟩:=fq.mp u;exact vF.mpr (s p d)
  ·obtain⟨j,y⟩:=O.all v (by rw[Q];exact vF.mp u);have w:=(Ub.mp y).1;rw[O.sz] at w;exact fq.mpr ⟨(j,v),eQ.mpr ⟨w,y⟩,rfl⟩
 have g:(bK M a).length=es.size:=by have:=A.length_eq;simpa using this
 have G:(((bK M a).map (·.2)).toArray.filterMap λi=>es[i]?).toList=(bK M a).filterMap λp=>es[p.2]? := by rw[Array.toList_filterMap,xd8];rfl
 obtain⟨X,W⟩:=vX (l:=bK M a) (f:=λp=>es[p.2]?) λp d=>by simp[s p d]
 have F:∀ i:Nat,(((bK M a).map (·.2)).toArray.filterMap λi=>es[i]?)[i]? = ((bK M a)[i]?).bind λp=>es[p.2]? := λi=>by rw[<- sP,G];exact W i
 have E:(((bK M a).map (·.2)).toArray.filterMap λi=>es[i]?).size=es.size:=by rw[<- A4,G,X,g]
 have B:∀ i:Nat,∀ p,(bK M a)[i]? = some p->((bK M a).map (·.1)).toArray.getD i 0=p.1:=λi p d=>by simp[d]
 have N:∀ j,ly a j=true->j<=M->taken ((bK M a).map (·.1)).toArray j=true:=λj y V=>by
  obtain⟨v,u⟩:=(uG (by rw[O.sz];lia)).mp y;obtain⟨i,r⟩:=zv.mp (eQ.mpr (show((j,v):Nat × Nat).1<M+1/\a[((j,v):Nat × Nat).1]? = some (some ((j,v):Nat × Nat).2) from⟨by lia,u⟩));exact(fU (v5 (uz M a))).mpr ⟨i,by
   have:=(k7.mp r).1;simpa using this,B i _ r⟩
 refine⟨?_,E,?_,by simpa using A⟩
 ·refine⟨⟨m,H,R⟩,?_,v5 (uz M a),λi r=>?_,rfl,by rw[E];exact T,λi h x k=>?_⟩
  ·rw[E];simp[g]
  ·have r:i<(bK M a).length:=by simpa using r
   have J:=rh r;show((bK M a).map (·.1)).toArray.getD i 0<=M;rw[B i _ J];have:=(eQ.mp (oj J)).1;lia
  ·rw[F] at k
   cases d:(bK M a)[i]? with
   |none=>rw[d] at k;cases k
   |some p =>
    rw[d] at k;have k:es[p.2]? = some (h,x):=k;have Z:=eQ.mp (oj d);obtain⟨n,Y,L,K⟩:=O.path _ _ Z.2;have S:(es.map (·.1)).toList.getD p.2 0=h:=by rw[xE,sP,Array.getElem?_map,k];rfl
    rw[S] at L K;refine⟨n,Y,?_,λq D=>N _ (K q D) (cd' M h q)⟩;rw[B i _ d];exact L
 ·rw[G];have:=A.filterMap λi=>es[i]?;rw[vO,xd8] at this;exact this
def zB{t:SetTable}{es:Array (Int × c)}(r:es.size<=10000) :
  ∃ f a,t.relaid (es.map (·.1)) (grown es.size)=some (f,a)/\f.plain=t.plain/\f.led=t.led/\sizeAbove (grown es.size)<=16777216/\(es.size<=1000->f.mask<=8191)/\TI f (a.filterMap λi=>es[i]?)/\(a.filterMap λi=>es[i]?).size=es.size/\(a.filterMap λi=>es[i]?).toList.Perm es.toList/\a.toList.Perm (List.range es.size):=by
 have p:grown es.size=es.size*4:=by unfold grown;rw[if_neg (by lia)]
 obtain⟨b,g,e,u,d⟩:=nj (n:=es.size*4) (by lia);have s:8<=2 ^ b:=Nat.pow_le_pow_right (n:=2) (by decide) g;unfold relaid;rw[p,e];obtain⟨f,a,m,l,k,h,j⟩:=HJ (M:=2 ^ b-1) (by lia) g (es:=es) (by lia);refine⟨f,a,m,l,k,?_,λq=>?_,j⟩
 ·rcases d with d|rfl
  ·lia
  ·decide
 ·rw[h];rcases d with d|rfl
  ·lia
  ·decide
end
section
variable {d:Type}{t:SetTable}{f:Array (Int × d)}
def vB(T:TI t f)(g:Nat->Int)(h:Int):∀ i n,(∃ N,n<=N/\N<n+i/\taken t.place (J t.mask h N)=false) ->
  ∃ j,n<=j/\j<n+i/\(∀ q,n<=q->q<j->taken t.place (J t.mask h q)=true/\g (below t.place (J t.mask h q))≠h) /\ ((taken t.place (J t.mask h j)=false/\probe.go t g h i (ps t.mask h n)=some (.empty (J t.mask h j) none)) \/ (taken t.place (J t.mask h j)=true/\g (below t.place (J t.mask h j))=h/\probe.go t g h i (ps t.mask h n)=some (.candidate (J t.mask h j) (below t.place (J t.mask h j)) (ps t.mask h (j+1)))))
 |0,n,⟨N,r,p,_⟩=>by lia
 |i+1,n,⟨N,r,p,l⟩=>by
  unfold probe.go;have k:=T.slot (J t.mask h n);have m:=(Ii t.mask h n).2.2.1;by_cases c:taken t.place (J t.mask h n)=true
  ·rw[if_pos c] at k;have k:t.slot (ps t.mask h n).j=.live (below t.place (J t.mask h n)):=k;rw[k];dsimp only;by_cases e:g (below t.place (J t.mask h n))=h
   ·rw[if_pos (by simpa using e)];exact⟨n,cE _,by lia,λq a b=>by lia,.inr ⟨c,e,rfl⟩⟩
   ·rw[if_neg (by simpa using e)];have w:N≠n:=λz=>by rw[z,c] at l;cases l
    obtain⟨j,A,y,v,u⟩:=vB T g h i (n+1) ⟨N,by lia,by lia,l⟩;refine⟨j,by lia,by lia,λq x s=>?_,u⟩;by_cases z:q=n
    ·subst z;exact⟨c,e⟩
    ·exact v q (by lia) s
  ·have c:taken t.place (J t.mask h n)=false:=by simpa using c
   rw[if_neg (by rw[c];exact nX)] at k;have k:t.slot (ps t.mask h n).j=.empty:=k;rw[k];rw[m];exact⟨n,cE _,by lia,λq a b=>by lia,.inl ⟨c,rfl⟩⟩
end
section
variable {d:cy}{w:c9}{K:Type}[DecidableEq K]{c:KeyKind d w K}
abbrev aZ(c:KeyKind d w K)(k:List K):Int:=tupleKeyHash c k
def Dy(c:KeyKind d w K)(p:List K × ai):Int × ah:=(aZ c p.1,.ref p.2)
structure Td(c:KeyKind d w K)(h:d5)(a:ai)(ks:List (List K × ai)):Prop where
 ob:∃ o es ep t,h.get? a=some o/\o.ExactSet/\o.data=.set es ep t/\TI t es/\t.mask<=8191/\t.led=(!w.params.followText "set-order")/\es.toList=ks.map (Dy c)
 nd:(ks.map (·.1)).Nodup
 is:∀ p∈ks,IsTupleKey c h p.1 p.2
variable {A:fz}{E:ah->aI->Prop}{s:aI}
def lB(l:IsTupleKey c s.heap k a)(h:Q false s):bq (aE d w) A (ofAClassStatement 8 (.ref a)) Q E s:=by
 have x:=l.typeIs;obtain⟨o,g,n,p,_,t,q⟩:=l;unfold ofAClassStatement;refine ax (wpAny_typeOf x ?_);refine ax ?_;refine bI ?_;refine ax (PF p t ?_);refine ax ?_;rw[<- V1];refine TJ _ (λb r f=>r.1=none/\f=s/\∀ v∈b,carriedByValue v=true) _ ?_ ?_ _ _ ⟨rfl,rfl,q.byValue⟩
 ·rintro v b r f ⟨j,rfl,i⟩;have m:=i v eK;have e:ofAClassStatement 7 v=pure false:=by
   cases v with
   |ref a=>cases m
   |_=>rfl
  rw[e];exact ax (bI (bI ⟨rfl,rfl,λu y=>i u (eI _ y)⟩))
 ·rintro⟨B,z⟩ f ⟨j,rfl,_⟩;subst j;exact bI h
def jq(p:IsTupleKey c s.heap k a)(x:∀ k v,c.is k v=true->v.scannable=true)(h:∀ b,Q b s):bq (aE d w) A (hashByValue 8 (.ref a)) Q E s:=by
 have D:=p.typeIs;obtain⟨o,e,n,z,_,B,q⟩:=p;have j:∀ v∈e.toList,v.scannable=true:=by
  generalize e.toList=l at q
  induction q with
  |nil=>intro v g;cases g
  |cons G _ y =>
   intro v g;rcases dQ.mp g with rfl|g
   ·exact x _ _ G
   ·exact y v g
 refine ax (wpAny_specialOf D F.slot_tuple_hash.lookup ?_);refine ax (PF z B ?_);dsimp only[Option.getD];refine ax ?_;rw[<- V1];refine TJ _ (λf r i=>i=s/\∀ v∈f,v.scannable=true) _ ?_ ?_ _ _ ⟨rfl,j⟩
 ·rintro v f r i ⟨rfl,m⟩;rw[hashByValue_scannable 7 (m v eK)];refine ax (bI ?_);split
  ·exact bI (bI (h _))
  ·exact bI ⟨rfl,λu H=>m u (eI _ H)⟩
 ·rintro⟨t,J⟩ i ⟨rfl,_⟩
  cases t with
  |none=>exact bI (h true)
  |some b=>exact bI (h b)
end
local macro_rules | `(tactic| walk_at $s:str) => do
 let x:=s.getString
 if x.startsWith "PV" then `(tactic| exact $(Lean.mkIdent (.str (.str (.num (.str (.str (.str .anonymous "_private") "PySem") "SetOps") 0) "PySem") (x.drop 2).toString)))
 else Lean.Macro.throwUnsupported
abbrev yO:Array (Int × ah)->Nat->Int:=by walk_at "PVstoredHashAt"
abbrev Jl:Array (Int × ah)->Option (SetTable × Array Nat)->Sem (Array (Int × ah) × SetTable):=by walk_at "PVreordered"
abbrev pF:Array (Int × ah)->SetTable->Bool:=by walk_at "PVdrawn"
def uo:Array (Int × ah)->Nat->Int:=yO
def rZ(a:Array (Int × ah))(i:Nat):uo a i=(a[i]?.map (·.1)).getD 0:=rfl
section
variable {d:cy}{w:c9}{K:Type}[DecidableEq K]{c:KeyKind d w K}{A:fz}{E:ah->aI->Prop}{s:aI}
def xG(m:IsTupleKey c s.heap k a)(p:∀ y∈o,∃ f b,y=.ref b/\IsTupleKey c s.heap f b)(h:Q false s):bq (aE d w) A (searchCouldBeSeen (.ref a) o) Q E s:=by
 refine ax ?_;refine TJ _ (λe r i=>r.1=none/\i=s/\∀ y∈e,∃ f b,y=.ref b/\IsTupleKey c s.heap f b) _ ?_ ?_ _ _ ⟨rfl,rfl,p⟩
 ·rintro y e r i ⟨l,rfl,g⟩;obtain⟨f,b,rfl,n⟩:=g y eK;dsimp only;split
  ·exact bI ⟨rfl,rfl,λu j=>g u (eI _ j)⟩
  ·exact ax (wpAny_eqIsQuiet_tuple m (ax (wpAny_eqIsQuiet_tuple n (ax (lB m (ax (lB n (bI ⟨rfl,rfl,λu j=>g u (eI _ j)⟩))))))))
 ·rintro⟨t,q⟩ i ⟨l,rfl,_⟩;subst l;exact bI h
def Ny{K G:Prop}(a:K)(h:K->G):G:=h a
def rY{a x:ai}{k:List K}{m:List (List K × ai)}{o:Obj}{l:Array (Int × ah)}{ep:Nat}{t:SetTable}(hu:A.units<f7)(U:s.heap.get? a=some o)(hd:o.data=.set l ep t)(T:TI t l)(Y:l.toList=m.map (Dy c))(Dp:∀ p∈m,IsTupleKey c s.heap p.1 p.2) (Z:IsTupleKey c s.heap k x) {Q:SetFound->aI->Prop} (W:k∈m.map (·.1)->Q (.there none) s)(g:Nat) (ab:g<=10*(t.mask+13)) (L:taken t.place (J t.mask (aZ c k) g)=false) (Ta:∀ q<g,taken t.place (J t.mask (aZ c k) q)=true)(Wv:k∉m.map (·.1)->Q (.free (J t.mask (aZ c k) g) false) s) :
  ∀ j n f,f.getD (t.probeStart (aZ c k))=ps t.mask (aZ c k) n->n<=g->g<n+j -> (∀ q<n,∀ p,m[below t.place (J t.mask (aZ c k) q)]? = some p->p.1≠k)->bq (aE d w) A (setSearchFrom a (.ref x) (aZ c k) true j f) Q E s
 |0,n,f,_,h1,h2,_=>by lia
 |j+1,n,f,ox,h1,h2,hq=>by
  have u:∀ i:Nat,l[i]? = (m[i]?).map (Dy c):=λi=>by rw[<- sP,Y,ki]
  refine ax (DJ U hd T.fits ?_);dsimp only;rw[if_neg (by rw[T.odd];exact nX)];obtain⟨h,a1,a2,a3,a4⟩:=vB T (uo l) (aZ c k) (10*turns t.mask) n ⟨g,h1,by unfold turns;lia,L⟩;have Iy:h<=g:=by
   by_cases z:h<=g
   ·exact z
   ·have:=(a3 g h1 (by lia)).1;rw[L] at this;cases this
  rcases a4 with⟨H,v⟩|⟨H,v,c3⟩
  ·have v:t.probe (uo l) (aZ c k) (f.getD (t.probeStart (aZ c k)))=some (.empty (J t.mask (aZ c k) h) none):=by rw[ox];exact v
   have e:h=g:=by
    by_cases z:h<g
    ·have:=Ta h z;rw[H] at this;cases this
    ·lia
   have v:t.probe (yO l) (aZ c k) (f.getD (t.probeStart (aZ c k)))=some (.empty (J t.mask (aZ c k) h) none):=v;rw[v];rw[e];refine bI (Wv λhm=>?_);obtain⟨p,S,rfl⟩:=fq.mp hm;obtain⟨i,X⟩:=zv.mp S;have G:l[i]? = some (aZ c p.1,.ref p.2):=by rw[u,X];rfl
   have V:i<t.place.size:=by rw[T.sz];exact(Ub.mp G).1
   obtain⟨r,b1,b2,b3⟩:=T.path i _ _ G;have bt:below t.place (J t.mask (aZ c p.1) r)=i:=by rw[b2];exact below_at T.up V
   have M:taken t.place (J t.mask (aZ c p.1) r)=true:=by rw[b2];exact(fU T.up).mpr ⟨i,V,rfl⟩
   have eW:r<g:=by
    by_cases z:g<r
    ·have:=b3 g z;rw[L] at this;cases this
    ·have:r≠g:=λz=>by rw[z,L] at M;cases M
     lia
   by_cases z:r<n
   ·exact hq r z p (by rw[bt];exact X) rfl
   ·refine(a3 r (by lia) (by lia)).2 ?_;rw[bt,rZ,G];rfl
  ·have c3:t.probe (yO l) (aZ c k) (f.getD (t.probeStart (aZ c k)))=some (.candidate (J t.mask (aZ c k) h) (below t.place (J t.mask (aZ c k) h)) (ps t.mask (aZ c k) (h+1))):=by rw[ox];exact c3
   rw[c3];dsimp only;have M:=pO T.up H;have P:t.slot (J t.mask (aZ c k) h)=.live (below t.place (J t.mask (aZ c k) h)):=by rw[T.slot,if_pos H]
   generalize X:below t.place (J t.mask (aZ c k) h)=i at M v P ⊢;have ae:i<l.size:=by rw[<- T.sz];exact M.1
   obtain⟨p,S⟩:∃ p,m[i]? = some p:=by
    have:i<m.length:=by have:=congrArg List.length Y;simp at this;lia
    exact⟨_,rh this⟩
   have G:l[i]? = some (aZ c p.1,.ref p.2):=by rw[u,S];rfl
   have R:=oj S;have h9:h≠g:=λz=>by rw[z,L] at H;cases H
   have B:¬ p.1=k->bq (aE d w) A (setSearchFrom a (.ref x) (aZ c k) true j (some (ps t.mask (aZ c k) (h+1)))) Q E s:=λI =>
    rY hu U hd T Y Dp Z W g ab L Ta Wv j (h+1) (some (ps t.mask (aZ c k) (h+1))) rfl (by lia) (by lia) λq Zt D F=>by
     by_cases z:q<n
     ·exact hq q z D F
     ·by_cases z2:q=h
      ·subst z2;rw[X,S] at F;cases F;exact I
      ·intro e';have:=(a3 q (by lia) (by lia)).2;refine this ?_;rw[rZ,u,F];show aZ c D.1=_;rw[e']
   have ic:p.1=k->k∈m.map (·.1):=λe=>e ▸ fq.mpr ⟨p,R,rfl⟩;have N:∀ y∈List.map (λx=>x.snd) (Array.filter (λx=>x.fst == aZ c k) l).toList,∃ k' b,y=.ref b/\IsTupleKey c s.heap k' b:=λy hy=>by obtain⟨e',W_,rfl⟩:=fq.mp hy;rw[Array.toList_filter] at W_;have:=(DZ.mp W_).1;rw[Y] at this;obtain⟨D,F,rfl⟩:=fq.mp this;exact⟨D.1,D.2,rfl,Dp D F⟩
   refine Ny ?pk (K:=?K) λO=>?main;case main =>
    split
    ·refine ax (xG Z N ?_);exact O
    ·exact O
   rw[G];refine ax (zk (wpAny_eqBool_tuple hu (Dp p R) Z ?_));refine ax (DJ U hd T.fits ?_);by_cases e:p.1=k
   ·rw[if_pos (by simp[e])];exact bI (W (ic e))
   ·rw[if_neg (by simp[e])];have C:t.sameMemory t.moves t.mask=some true:=by unfold sameMemory;rw[if_pos (by simp)]
    rw[C];dsimp only;rw[if_pos rfl,P];dsimp only;rw[G];refine ax ?_;unfold isSame;dsimp only;rw[if_pos (by simp)];refine bI (ax (bI ?_));rw[if_pos rfl];dsimp only;rw[if_neg (by simp[e])];exact B e
end
def qU{k n:Type}{f:k->n}:∀ {l g},l.Perm g->∀ {m},g=m.map f->∃ c:List k,l=c.map f/\c.Perm m:=by
 intro l g p
 induction p with
 |nil=>intro m e;exact⟨m,by rw[<- e],.refl _⟩
 |cons x _ s =>
  intro m e
  cases m with
  |nil=>cases e
  |cons y m =>simp only[eR,List.cons.injEq] at e;obtain⟨c,j,d⟩:=s e.2;exact⟨y :: c,by rw[eR,<- j,e.1],d.cons _⟩
 |swap x y l =>
  intro m e
  match m,e with
  |a :: b :: m,e =>simp only[eR,List.cons.injEq] at e;exact⟨b :: a :: m,by simp[e.1,e.2.1,e.2.2],.swap ..⟩
 |trans _ _ i h =>intro m e;obtain⟨c,j,d⟩:=h e;obtain⟨r,t,q⟩:=i j;exact⟨r,t,q.trans d⟩
def xj{b:Type}(a:Array b)(p:Nat)(x:b):(insertAt a p x).toList=a.toList.take p++x :: a.toList.drop p:=by unfold insertAt;simp;rw[PY (by simp)]
def qK(a:(o.filterMap λi=>C[i]?).size=C.size)(h:Q (o.filterMap λi=>C[i]?,t) s):bq (aE I w) A (Jl C (some (t,o))) Q E s:=by
 show bq _ _ (if ((o.filterMap λi=>C[i]?).size != C.size)=true then (do unsupported "internal:set-table-lost-an-element";pure (o.filterMap λi=>C[i]?,t)) else pure (o.filterMap λi=>C[i]?,t)) _ _ _;rw[if_neg (by simp[a])];exact bI h
section
variable {f:cy}{w:c9}{K:Type}[DecidableEq K]{d:KeyKind f w K}{A:fz}{E:ah->aI->Prop}{s:aI}
def IsTupleKey.gE(g:IsTupleKey d h k a)(e:∀ o,h.get? a=some o->C.get? a=some o):IsTupleKey d C k a:=by obtain⟨o,b,n,c,r⟩:=g;exact⟨o,b,n,e o c,r⟩
def Td.ne(S:Td d h a C)(i:IsTupleKey d h k x):x≠a:=by obtain⟨⟨o,m,p,t,j,c,_⟩,_,_⟩:=S;obtain⟨l,b,n,e,g,_⟩:=i;intro z;subst z;rw[j] at e;cases e;rw[c.1] at g;exact absurd g (by decide)
def Ku(S:Td d s.heap a C)(U:IsTupleKey d s.heap k x)(hz:C.length<1000)(hu:A.units<f7)(oi:∀ k v,d.is k v=true->v.scannable=true)(h:∀ b u g,Heap.SameBut a s.heap u->Td d u a g->(k∈C.map (·.1)/\g=C\/k∉C.map (·.1)/\g.Perm ((k,x) :: C))->Q b { s with heap:=u }) :
  bq (aE f w) A (setAddHashed a (.ref x) (aZ d k)) Q E s:=by
 obtain⟨⟨o,es,ep,t,F,G,y,T,hM,hL,he⟩,nd,is⟩:=id S;have a0:es.size=C.length:=by have:=congrArg List.length he;simpa using this
 obtain⟨m,hm,_⟩:=T.pw;obtain⟨e0,ar,af⟩:=T.free;obtain⟨Y,n1,I,n3⟩:=x_ hm (aZ d k) (taken t.place) ar af;refine zk (ax (DJ F y T.fits ?_));dsimp only;have a3:byScan (.ref x) es=false:=rfl;refine ax ?_;refine rY hu F y T he is U (λO=>?_) Y n1 I n3 (λUO=>?_) 100000 0 none rfl (gy _) (by lia) λq hq=>absurd hq (LV q)
 ·dsimp only;refine bI ?_;have e:s={ s with heap:=s.heap }:=by cases s;rfl
  exact h _ _ C (Heap.SameBut.refl a s.heap) S (.inl ⟨O,rfl⟩)
 ·dsimp only;generalize hj:J t.mask (aZ d k) Y=j at I ⊢;have ae:j<=t.mask:=by rw[<- hj];exact cd' ..
  have ab:Reach t.mask t.place (aZ d k) j:=⟨Y,n1,hj,n3⟩
  refine ax (DJ F y T.fits ?_);have Z:t.put j=({ t with place:=insertAt t.place (below t.place j) j,dummies:=#[] },below t.place j):=by
   unfold SetTable.put;have:has t.dummies j=false:=by rw[T.dm];rfl
   simp only[this,vT,if_false];rw[T.dm]
  rw[Z];have O:(insertAt es (below t.place j) (aZ d k,.ref x)).toList=(C.take (below t.place j)++(k,x) :: C.drop (below t.place j)).map (Dy d):=by rw[xj,he,kS,eR,List.map_take,List.map_drop];rfl
  have z:(C.take (below t.place j)++(k,x) :: C.drop (below t.place j)).Perm ((k,x) :: C):=by refine List.perm_middle.trans ?_;rw[PZ]
  have Tf:below t.place j<=es.size:=by rw[<- T.sz];exact(bu T.up j).1
  have P:(insertAt es (below t.place j) (aZ d k,Value.ref x)).size=es.size+1:=c7 _ _ Tf;have D:∀ u,Heap.SameBut a s.heap u->∀ g:List (List K × ai),g.Perm ((k,x) :: C)->∀ p∈g,IsTupleKey d u p.1 p.2:=λu sb g W p hp=>by
   have:IsTupleKey d s.heap p.1 p.2:=by
    rcases dQ.mp (W.mem_iff.mp hp) with rfl|hp
    ·exact U
    ·exact is p hp
   exact IsTupleKey.gE this λo' n5=>sb.extBut _ _ (S.ne this) n5
  have B:∀ g:List (List K × ai),g.Perm ((k,x) :: C)->(g.map (·.1)).Nodup:=λg W=>by rw[(W.map _).nodup_iff,eR,om];exact⟨UO,nd⟩
  have n:∀ N:Bool,bq (aE f w) A (do
    storeSet a (insertAt es (below t.place j) (aZ d k,.ref x)) { t with place:=insertAt t.place (below t.place j) j,dummies:=#[],plain:=N }
    if (!false && ({ t with place:=insertAt t.place (below t.place j) j,dummies:=#[],plain:=N }:SetTable).tooFull)=true then do
      setRelay a (grown (es.size+1))
      pure true
     else pure true) Q E s:=λN=>by
   generalize L:({ t with place:=insertAt t.place (below t.place j) j,dummies:=#[],plain:=N }:SetTable)=r;have M:r.mask=t.mask:=by rw[<- L]
   have V:r.place=insertAt t.place (below t.place j) j:=by rw[<- L]
   have td:r.dummies = #[]:=by rw[<- L]
   have H:r.fill=es.size+1:=by unfold SetTable.fill;rw[V,td,c7 _ _ (bu T.up j).1,T.sz];simp
   refine ax (wpAny_storeSet_of F y ?_ (by rw[P,kQ];lia));have R:(s.heap.update a (Obj.putSet (insertAt es (below t.place j) (aZ d k,.ref x)) r)).get? a=some { o with data:=.set (insertAt es (below t.place j) (aZ d k,.ref x)) (ep+1) r }:=by have:=HV (Obj.putSet (insertAt es (below t.place j) (aZ d k,.ref x)) r) F (by rw[putSet_of _ _ y];rfl);rw[putSet_of _ _ y] at this;exact this
   have Dx:=Heap.SameBut.update s.heap a (Obj.putSet (insertAt es (below t.place j) (aZ d k,.ref x)) r);by_cases c:r.tooFull=true
   ·rw[if_pos (by rw[c];rfl)];have aw:r.fits (insertAt es (below t.place j) (aZ d k,Value.ref x)).size=true:=by have:=T.few;simp only[SetTable.fits,H,mn,beq_iff_eq,decide_eq_true_eq];rw[V,c7 _ _ (bu T.up j).1,P,T.sz,M];exact⟨rfl,by lia⟩
    obtain⟨t2,l,r1,r2,r3,r4,r5,r6,r7,r8,_⟩:=zB (es:=insertAt es (below t.place j) (aZ d k,Value.ref x)) (by lia);rw[P] at r1 r4;refine ax (ax (DJ R rfl aw ?_));dsimp only;rw[if_neg (by rw[kQ];lia)];refine ax ?_;rw[r1];obtain⟨g,ek,X⟩:=qU r8 O;refine qK r7 ?_;refine wpAny_storeSet_of R rfl ?_ (by rw[r7,P,kQ];lia);refine bI ?_;have Tg:=Dx.trans (Heap.SameBut.update _ a (Obj.putSet (l.filterMap λi=>(insertAt es (below t.place j) (aZ d k,Value.ref x))[i]?) t2));have FI:=HV (Obj.putSet (l.filterMap λi=>(insertAt es (below t.place j) (aZ d k,Value.ref x))[i]?) t2) R (by rw[putSet_of _ _ rfl];rfl);exact h true _ g Tg ⟨⟨_,_,_,_,FI,G,rfl,r6,r5 (by lia),by rw[r3,<- L];exact hL,ek⟩,B g (X.trans z),D _ Tg g (X.trans z)⟩ (.inr ⟨UO,X.trans z⟩)
   ·rw[if_neg (by simpa using c)];refine bI ?_;have sf:(es.size+1)*5<t.mask*3:=by unfold SetTable.tooFull at c;rw[H,M] at c;simpa using c
    exact h true _ _ Dx ⟨⟨_,_,_,_,R,G,rfl,T.put ae I ab M V td sf,by rw[M];exact hM,by rw[<- L];exact hL,O⟩,B _ z,D _ Dx _ z⟩ (.inr ⟨UO,z⟩)
  split
  ·refine ax (jq U oi λb=>?_)
   cases b with
   |true=>exact n t.plain
   |false=>exact n false
  ·exact ax (bI (n t.plain))
end
end TS
namespace TS
open PySem PySem.SetTable PyProof.Rows
section
variable {a:cy}{w:c9}{A:fz}{R:Result->aI->Prop}{I:ai}{d c:List ai}{n:Nat}{P:Nat->ah->Prop}{f:Nat->d5->Prop}
def DK(W:Walks a w A.in1 I d c n P f)(S:ai)(Z:S∉d)(p:Nat->d5->Prop)(j:∀ i h g,p i h->(∀ b o,b∉c->h.get? b=some o->g.get? b=some o)->p i g)(K:∀ i v r C Q,P i v->p i r.heap->(∀ b g l,Heap.SameBut S r.heap g->p (i+1) g->Q b { r with heap:=g,toks:=l })->bq (aE a w) A.in1 (setAdd S v) Q C r) :
  ∀ k i s,n-i=k->i<=n->f i s.heap->p i s.heap -> (∀ g l,p n g->(∀ b o,b∉c->b≠S->s.heap.get? b=some o->g.get? b=some o)->R (.ok (.ret .none)) { s with heap:=g,toks:=l }) ->
   xD (aE a w) A (.builtin "set.update.loop" ⟨[.ref S,.ref I],[]⟩) R s:=by
 intro k
 induction k with
 |zero =>
  intro i s N O u B D;have M:i=n:=by lia
  subst M;refine DL F.entry_set_update_loop ?_;refine ax (W.done s _ _ u λg l q=>?_);show bq _ A.in1 (ret Value.none) _ _ _;exact bI (D g l (j _ _ _ B q) λb o m _ e=>q b o m e)
 |succ k L =>
  intro i s N O u B D;have H:i<n:=by lia
  refine DL F.entry_set_update_loop ?_;refine ax (W.item i s _ _ H u λv g l T X q=>?_);refine ax (zk (K i v _ _ _ T (j _ _ _ B q) λb U J G y=>?_));refine bI ⟨DM F.plain_set_update_loop _,L (i+1) _ (by lia) H (W.frame _ _ _ X λb m o e=>?_) y λV t x Y=>?_⟩
  ·exact G.extBut b o (λz=>Z (by rw[<- z];exact m)) e
  ·exact D V t x λb o m E e=>Y b o m E (G.extBut b o E (q b o m e))
end
section
variable {f:cy}{w:c9}{A:fz}{E:ah->aI->Prop}{s:aI}
def zF(a:ah)(h:Q₁ (.ref s.heap.objs.size) { s with heap:=s.heap.push { cls:=.type "set",dict:=none,data:=.set #[] 0 (.fresh 0 0 (!w.params.followText "set-order")) } }) :
  xD (aE f w) A (.call (.builtin "set.__new__") ⟨[.type "set",a],[]⟩) (wants Q₁ E) s:=by
 refine codeAny_of_tree ?_;refine ax (LP (F.newCall_set_1 a) (bI ⟨DM F.plain_set_new _,DL F.entry_set_new ?_⟩));unfold Builtin.«set.__new__» Builtin.Frozenset.newClass;have b:=sub_set_self;obtain⟨i,g,d,c,e⟩:=s
 wp_walk
 refine PD (bI ?_);dsimp only;refine ax (wpAny_alloc (bI ?_));exact bI h
def qQ(hh:A.handled=none)(hl:s.heap.IsList l C)(g:Nat->d5->Prop)(W:∀ h,h.get? s.heap.objs.size=some { cls:=.type "set",dict:=none,data:=.set #[] 0 (.fresh 0 0 (!w.params.followText "set-order")) }->(∀ b o,s.heap.get? b=some o->h.get? b=some o)->g 0 h) (p:∀ i h a,g i h->(∀ b o,b<=s.heap.objs.size->h.get? b=some o->a.get? b=some o)->g i a) (kH:∀ i v m O Q,C[i]? = some v->g i m.heap->(∀ b a k,Heap.SameBut s.heap.objs.size m.heap a->g (i+1) a->Q b { m with heap:=a,toks:=k }) ->
   bq (aE f w) A.in1.in1.in1 (setAdd s.heap.objs.size v) Q O m)
  (h:∀ a k,g C.size a->(∀ b o,b<s.heap.objs.size->s.heap.get? b=some o->a.get? b=some o)->Q (.ref s.heap.objs.size) { s with heap:=a,toks:=k }) :
  bq (aE f w) A (call (.type "set") [.ref l]) Q E s:=by
 obtain⟨c,tl,a0⟩:=F.called_set.mro;have aw:=F.called_set.made;have a3:=F.called_set.sub;refine wpAny_call (codeAny_of_tree ?_);show bq _ _ (callAny (.type "set") _) _ _ _;refine bI ⟨Code.quiet_builtin _ (by decide +kernel),DL F.entry_type_call ?_⟩;rw[Around.under_plain (weight_type_call_type "set" [.ref l] []) rfl];have h1:=F.called_set.notType;have h2:=F.called_set.canCreate;have a5:=F.typeCall_set_1 (.ref l);repeat (any_goals (first|assumption|wp_step))
 refine codeAny_mono (zF (.ref l) (E:=E) (Q₁:=λn X=>n=.ref s.heap.objs.size/\X={ s with heap:=s.heap.push { cls:=.type "set",dict:=none,data:=.set #[] 0 (.fresh 0 0 (!w.params.followText "set-order")) } }) ⟨rfl,rfl⟩) λr X K=>?_
 cases r with
 |error e=>exact K
 |ok fl =>
  cases fl with
  |ret n =>
   obtain⟨rfl,rfl⟩:=K;generalize ar:(!w.params.followText "set-order")=d at W ⊢;have V:(s.heap.push { cls:=.type "set",dict:=none,data:=.set #[] 0 (.fresh 0 0 d) }).get? s.heap.objs.size=some { cls:=.type "set",dict:=none,data:=.set #[] 0 (.fresh 0 0 d) }:=jI _ rfl;have hT:Shared.TypeIs { s with heap:=s.heap.push { cls:=.type "set",dict:=none,data:=.set #[] 0 (.fresh 0 0 d) } } (.ref s.heap.objs.size) "set" := ⟨_,V,rfl⟩
   have a4:=F.called_set.init.lookup;have a6:=F.called_set.init.bind (.ref s.heap.objs.size);repeat (any_goals (first|assumption|wp_step))
   refine codeAny_mono (codeAny_call_builtin (R:=wants (λr S=>r=.none/\∃ a k,S={ s with heap:=a,toks:=k }/\g C.size a /\ (∀ b o,b<s.heap.objs.size->s.heap.get? b=some o->a.get? b=some o)) E) F.called_set.init.plain F.entry_set_init (check_set_init_1 hT ?_)) λH S j=>?_
   ·obtain⟨ol,I,Z,T,t⟩:=hl;obtain⟨af,G,ae,D⟩:=ol;simp only at Z t;subst Z;subst t;have B:(s.heap.push { cls:=.type "set",dict:=none,data:=.set #[] 0 (.fresh 0 0 d) }).get? l=some { cls:=.type "list",dict:=G,data:=.seq C T,slots:=D }:=eS _ I;have ab:=F.sub_list_set;have U:=F.sub_list_frozenset;have h9:(Value.type "list" == Value.type "dict")=false:=by decide
    have Y:(s.heap.push { cls:=.type "set",dict:=none,data:=.set #[] 0 (.fresh 0 0 d) }).IsList l C:=⟨_,B,rfl,T,rfl⟩
    unfold Builtin.«set.__init__» noKeywords Builtin.Frozenset.updateFrom;generalize N:pyIter=PI
    wp_walk
    subst N;refine wpAny_pyIter_list Y ?_;refine ax (wpAny_runValue ?_);have q:l<s.heap.objs.size:=fA I;have M:A.in1.in1.in1.handled=none:=by simp[hh]
    have x:(s.heap.push { cls:=.type "set",dict:=none,data:=.set #[] 0 (.fresh 0 0 d) }).objs.size=s.heap.objs.size+1:=VH ..;have z:l≠(s.heap.push { cls:=.type "set",dict:=none,data:=.set #[] 0 (.fresh 0 0 d) }).objs.size:=by rw[x];exact gS (HZ q)
    have EW:s.heap.objs.size∉[(s.heap.push { cls:=.type "set",dict:=none,data:=.set #[] 0 (.fresh 0 0 d) }).objs.size,l]:=by rw[x];simp only[dQ,hV,sM,or_false,not_or];exact⟨gS (VM _),P9 q⟩
    refine DK (Walks.list M _ l z C) s.heap.objs.size EW g (λi h a L hk=>p i h a L λb o u e=>hk b o ?_ e) (λi v m O Q' hP L hq=>kH i v m O Q' hP L hq) (C.size-0) 0 _ (by lia) (gy _) ⟨⟨_,jI _ rfl,rfl,rfl⟩,(Y.push _)⟩ ?hS0 ?hR
    ·rw[x];simp only[dQ,sM,or_false];exact gS (VL u)
    case hS0 =>
     exact W _ (eS _ V) λb o e=>eS _ (eS _ e)
    case hR =>
     intro a Zu P J;show bq _ _ _ _ _ _;refine bI ?_;show bq _ _ (ret Value.none) _ _ _;refine bI ⟨rfl,a,Zu,rfl,P,λb o u e=>?_⟩;refine J b o ?_ (gS u) (eS _ (eS _ e));rw[x];simp only[dQ,sM,or_false];exact gS (HZ u)
   ·cases H with
    |error e=>exact j
    |ok y =>
     cases y with
     |ret r =>
      obtain⟨rfl,a,k,rfl,P,J⟩:=j;repeat (any_goals (first|assumption|wp_step))
      exact h _ _ P J
     |_=>exact j.elim
  |_=>exact K.elim
end
def rG:Manifest.owners.lookup (String.ofList ['r','o','t','a','r','e','t','i','_','t','e','s'].reverse)=some Manifest.sig_set_iterator:=by kernel_rfl
def bF:Slot "set_iterator" "__next__" "set_iterator.__next__" :=
 .of (owner := "set_iterator") (n := "__next__") (by rw[typeLookup_type,builtinLookup_eq_fast];kernel_rfl) (by decide +kernel) (by decide +kernel) (by decide +kernel) (by first|exact .inl (by decide +kernel)|exact .inr (by decide +kernel)) (by rw[isSubtype_type];kernel_rfl)
def nu:entryFor table "set_iterator.__next__" = some Builtin.«set_iterator.__next__» := entryFor_of_tree (by kernel_rfl)
def pN (a:ah):argsOk "set_iterator.__next__" ⟨[a],[]⟩:=by unfold argsOk;rw[signature?_of (n:=['_','_','t','x','e','n','_','_']) (by kernel_rfl) rG];kernel_rfl
def jk:Slot "set_iterator" "__iter__" "set_iterator.__iter__" :=
 .of (owner := "set_iterator") (n := "__iter__") (by rw[typeLookup_type,builtinLookup_eq_fast];kernel_rfl) (by decide +kernel) (by decide +kernel) (by decide +kernel) (by first|exact .inl (by decide +kernel)|exact .inr (by decide +kernel)) (by rw[isSubtype_type];kernel_rfl)
def nF:entryFor table "set.__iter__" = some Builtin.«frozenset.__iter__» :=
 entryFor_alias (id' := "frozenset.__iter__") (by kernel_rfl) rfl (by decide +kernel) (by kernel_rfl)
theorem jB{a:Type}:∀ (l:List a) i h,(l[i] :: l.eraseIdx i).Perm l
 |x :: l,0,_=>.refl _
 |x :: l,i+1,h=>by have b:=jB l i (by simpa using h);exact(List.Perm.swap _ _ _).trans (b.cons x)
theorem Ai{f:Type}(c:Nat->Nat):∀ (b k:Nat) a (d:Array f),a.length=b->(pickOrder.go c b k a d).toList.Perm (d.toList++a)
 |0,k,a,d,h=>by have:a=[]:=PR.mp h;subst this;unfold pickOrder.go;rw[ng]
 |b+1,k,a,d,h=>by unfold pickOrder.go;have e:c k % a.length<a.length:=Qw _ (by lia);rw[rh e];refine(Ai c b (k+1) _ _ (by rw[List.length_eraseIdx];split<;>lia)).trans ?_;rw[QN,r9];exact List.Perm.append_left _ (jB _ _ e)
def lR{c:Type}(a:Nat->Nat)(b:Array c):(pickOrder a b).toList.Perm b.toList:=by unfold pickOrder;have:=Ai a b.size 0 b.toList #[] (by simp);simpa using this
section
variable {prog:cy}{w:c9}{A:fz}{E:ah->aI->Prop}{s:aI}
def rW(a:n≠0)(h:∀ i d,i<n->Q i { s with drawn:=d }):bq M A (choose o n) Q E s:=λb p _=>⟨a,h _ _ (Qw _ (Nat.pos_of_ne_zero a))⟩
def Ib{e:Type}(n:Nat):∀ (a:List e) s Q,a.length=n->(∀ b d,b.Perm a->Q b { s with drawn:=d })->bq (aE prog w) A (drawOrder n a) Q E s:=by
 induction n with
 |zero =>intro a s Q h q;have:a=[]:=PR.mp h;subst this;exact bI (q [] s.drawn (.refl _))
 |succ n g =>
  intro a s Q h q
  cases a with
  |nil=>cases h
  |cons x a =>refine ax (rW (by simp) λi d c=>?_);rw[rh c];exact ax (g _ _ _ (by rw[List.length_eraseIdx,if_pos c];simp at h ⊢;lia) λb j f=>bI (q _ j ((f.cons _).trans (jB _ _ c))))
def xk(h:d5)(I:ai)(b:ah)(i:Nat)(a:ai)(n c:Nat):Prop :=
 h.get? I=some { cls:=.type "set_iterator",dict:=none,data:=.fields #[b,.int i 0,.ref a,.int n 0,.int c 0],slots:=#[] }
def EX(h:d5)(a:ai)(b:Array (Int × ah))(c:Nat)(t:SetTable):Prop:=∃ o,h.get? a=some o/\o.data=.set b c t
variable {a I:ai}{c:Array (Int × ah)}{d:Nat}{t:SetTable}{first:ah}{i n:Nat}
def xk.typeIs (h:xk s.heap I first i a n d):s.TypeIs (.ref I) "set_iterator" := ⟨_,h,rfl⟩
def Al(g:xk s.heap I first i a n d)(h:bq (aE prog w) A.in1 (Builtin.«set_iterator.__next__» ⟨[.ref I],[]⟩) (λj f=>∃ v,j=.done (.ret v)/\Q (some v) f) (λe f=>bq (aE prog w) A (isInstance e (.type "StopIteration")) (λb k=>b=true/\Q none k) E f) s) :
  bq (aE prog w) A (pyNext (.ref I)) Q E s:=by
 refine ax (wpAny_attempt (TC g.typeIs bF (HC bF g.typeIs nu ?_ (pN _))))
 refine ua h (λj f zq=>by obtain⟨v,e,q⟩:=zq;exact⟨v,e,bI q⟩) λe f q=>?_;refine ax (ua q (λb k l=>?_) λ_ _ x=>x);obtain⟨e,q⟩:=l;subst e;exact bI q
def zm{P:Fin->aI->Prop}{Q:Option ah->aI->Prop}(h:A.handled=none)(j:∀ f,(∀ b o,s.heap.get? b=some o->f.get? b=some o)->Q none { s with heap:=f }) :
  bq (aE prog w) A.in1 (newExc (.type "StopIteration") [] >>= λe=>raiseNew e) P (λe g=>bq (aE prog w) A (isInstance e (.type "StopIteration")) (λb k=>b=true/\Q none k) E g) s:=by
 refine ax ?_;refine ax (t5 ?_ (by size_fits));refine ax (LP (by first|rfl|(simp only[firstArgMember];rfl)) ?_);refine t5 ?_ (by size_fits);refine ax (wpAny_handled ?_);rw[show A.in1.handled=none from h];refine ax (bI (wpAny_throw ?_));refine wpAny_isInstance ⟨_,jI _ rfl,rfl⟩ isSubtype_stop ⟨rfl,?_⟩;exact j _ λb o e=>eS _ (eS _ e)
def iK{Q:Option ah->aI->Prop}{g:Nat}{r:Option (ah × Nat)}(y:A.handled=none)(P:a≠I)(f:xk s.heap I (.int g 0) i a c.size d)(M:EX s.heap a c d t)(z:t.fits c.size=true)(u:∀ O N q,q r s->bq (aE prog w) O (setNext a g i d) q N s)(G:∀ x j h,r=some (x,j)->xk h I (.int j 0) (i+1) a c.size d->Heap.SameBut I s.heap h->Q (some x) { s with heap:=h }) (F:∀ h,r=none->(∀ b o,b≠I->s.heap.get? b=some o->h.get? b=some o)->Q none { s with heap:=h }) :
  bq (aE prog w) A (pyNext (.ref I)) Q E s:=by
 obtain⟨o,v,B⟩:=M;refine Al f ?_;refine ax (LP rfl ?_);refine ax (wpAny_fieldsOf f rfl ?_);refine ax (wpAny_setEntries_of v B z ?_);rw[if_neg (by simp)];refine ax (u _ _ _ ?_)
 cases r with
 |some p =>obtain⟨x,j⟩:=p;exact ax (Pw f (by simp) λJ m l=>ax (Pw m (by simp) λH K L=>bI ⟨x,rfl,G x j H rfl (by unfold xk;simpa[rg] using K) (l.trans L)⟩))
 |none =>exact ax (Pw f (by simp) λJ m l=>zm y λh k=>F h rfl λb o D e=>k b o (l.extBut b o D e))
def nZ{Q:Option ah->aI->Prop}{T:ai}{h:List Nat}{q:Obj}{z:Nat}(B:A.handled=none)(f:xk s.heap I (.ref T) i a c.size d)(K:EX s.heap a c d t)(u:t.fits c.size=true)(F:s.heap.get? T=some q) (l:q.data=.seq (h.map λ(k:Nat)=>Value.int k 0).toArray z)(H:∀ k e g,h[i]? = some k->c[k]? = some e->xk g I (.ref T) (i+1) a c.size d->Heap.SameBut I s.heap g->Q (some e.2) { s with heap:=g }) (L:∀ k∈h,k<c.size) (G:∀ g,h[i]? = none->(∀ b o,b≠I->s.heap.get? b=some o->g.get? b=some o)->Q none { s with heap:=g }) :
  bq (aE prog w) A (pyNext (.ref I)) Q E s:=by
 obtain⟨o,r,v⟩:=K;refine Al f ?_;refine ax (LP rfl ?_);refine ax (wpAny_fieldsOf f rfl ?_);refine ax (wpAny_setEntries_of r v u ?_);rw[if_neg (by simp)];refine ax (PF F l ?_);simp only[D6,List.getElem?_toArray,ki]
 cases j:h[i]? with
 |some k =>have y:=L k (oj j);refine ax ?_;refine ax (DJ r v u ?_);simp only[D6];rw[if_neg (by simp),D7 y];exact bI (ax (Pw f (by simp) λx m p=>bI ⟨_,rfl,H k c[k] x j (D7 y) (by unfold xk;simpa[rg] using m) p⟩))
 |none =>exact ax (Pw f (by simp) λx m p=>ax (Pw m (by simp) λM N J=>zm B λg k=>G g j λb o D e=>k b o ((p.trans J).extBut b o D e)))
def qw (a:ah):argsOk "set_iterator.__iter__" ⟨[a],[]⟩:=by unfold argsOk;rw[signature?_of (n:=['_','_','r','e','t','i','_','_']) (by kernel_rfl) rG];kernel_rfl
def nO:entryFor table "set_iterator.__iter__" = some Builtin.«dict_keyiterator.__iter__» :=
 entryFor_alias (id' := "dict_keyiterator.__iter__") (by kernel_rfl) rfl (by decide +kernel) (by kernel_rfl)
def lq(b:xk s.heap I first i a n d)(h:Q (.ref I) s):bq (aE prog w) A (pyIter (.ref I)) Q E s:=by exact wpAny_pyIter_slot b.typeIs jk (HC jk b.typeIs nO (bI ⟨_,rfl, "set_iterator",_,b.typeIs,bF.lookup,h⟩) (qw _))
def rT {b:Nat} {Q:Option (ah × Nat)->aI->Prop} (k:w.params.followText "set-order" = true) (l:EX s.heap a c d t) (g:t.fits c.size=true)(h:Q (((pickOrder (w.params.setOrder a d) c)[i]?).map λe=>(e.2,b)) s):bq (aE prog w) A (setNext a b i d) Q E s:=by
 obtain⟨o,f,j⟩:=l;refine ax (DJ f j g ?_);refine ax (ax (PD (bI ?_)));rw[if_pos (by exact k),if_neg (by simp)];refine ax ?_;refine ax (DJ f j g ?_);refine ax (ax (PD (bI ?_)));rw[if_pos (by exact k)];exact ax (PD (bI (bI h)))
def oG {b:Nat} {Q:Option (ah × Nat)->aI->Prop} (m:w.params.followText "set-order" = false) (g:t.led=true) (p:(!t.plain && decide (c.size>1))=false) (q:EX s.heap a c d t) (k:t.fits c.size=true)(h:Q (match c[below t.place b]?,t.place[below t.place b]? with
  |some (_,x),some j=>some (x,j+1)
  |_,_=>none) s):bq (aE prog w) A (setNext a b i d) Q E s:=by
 obtain⟨o,f,l⟩:=q;refine ax (DJ f l k ?_);refine ax (ax (PD (bI ?_)));rw[if_neg (by rw[show(aE prog w).w.params.followText "set-order" = false from m];exact nX)];have e:pF c t=(!t.plain && decide (c.size>1)):=rfl;unfold pF at e;rw[e,p,if_neg nX];refine ax ?_;show bq _ _ (if (!t.led && !c.isEmpty)=true then unsupported "set:maker-not-led" else pure ()) _ _ s;rw[if_neg (by rw[g];simp)];exact bI (bI h)
def PV(b:List (Int × ah))(i:Nat)(v:ah):Prop:=∃ e,b[i]? = some e/\v=e.2
def xk.keep(x:xk h I first i a n d)(e:∀ o,h.get? I=some o->C.get? I=some o):xk C I first i a n d:=e _ x
def EX.keep(x:EX h a c d t)(e:∀ o,h.get? a=some o->C.get? a=some o):EX C a c d t:=let ⟨o,b,r⟩:=x;⟨o,e _ b,r⟩
def zE (G:A.handled=none) (B:a≠I) (f:w.params.followText "set-order" = true) (u:t.fits c.size=true) :
  Walks prog w A I [I,a] [I] c.size (PV (pickOrder (w.params.setOrder a d) c).toList) (λi h=>(∃ j:Nat,xk h I (.int j 0) i a c.size d)/\EX h a c d t) where
 sub:=λb f=>by simp at f;simp[f]
 frame:=λ_ _ _ zq F=>by obtain⟨⟨g,x⟩,y⟩:=zq;exact⟨⟨g,x.keep λo e=>F I (by simp) o e⟩,y.keep λo e=>F a (by simp) o e⟩
 item:=λi s Q E M zj m=>by
  obtain⟨⟨g,x⟩,y⟩:=zj
  have l:(pickOrder (w.params.setOrder a d) c).size=c.size:=by have:=(lR (w.params.setOrder a d) c).length_eq;simpa using this
  refine iK G B x y u (r:=((pickOrder (w.params.setOrder a d) c)[i]?).map λe=>(e.2,g)) (λL K J q=>rT f y u q) (λv H p e D z=>?_) λp e k=>?_
  ·rw[D7 (by lia)] at e;cases e;exact m _ p s.toks ⟨_,by rw[sP];exact D7 (by lia),rfl⟩ ⟨⟨_,D⟩,y.keep λo e=>z.extBut _ _ B e⟩ λb o f e=>z.extBut b o (λh=>f (by simp[h])) e
  ·rw[D7 (by lia)] at e;cases e
 done:=λs Q E zx m=>by
  obtain⟨⟨g,x⟩,y⟩:=zx
  have l:(pickOrder (w.params.setOrder a d) c).size=c.size:=by have:=(lR (w.params.setOrder a d) c).length_eq;simpa using this
  refine iK G B x y u (r:=((pickOrder (w.params.setOrder a d) c)[c.size]?).map λe=>(e.2,g)) (λL K J q=>rT f y u q) (λv H p e D z=>?_) λp e k=>?_
  ·rw[Qz (by lia)] at e;cases e
  ·exact m p s.toks λb o f e=>k b o (λh=>f (by simp[h])) e
 self:=λ_ _ _ _ zk m=>by obtain⟨⟨g,x⟩,y⟩:=zk;exact lq x m
def slotAt(t:SetTable):Nat->Nat
 |0=>0
 |i+1=>t.place.getD i 0+1
def jJ(U:Up t.place)(h:i<=t.place.size):below t.place (slotAt t i)=i:=by
 cases i with
 |zero =>
  obtain⟨_,b,_⟩:=bu U 0;by_cases z:below t.place 0=0
  ·exact z
  ·exact absurd (b 0 (Nat.pos_of_ne_zero z)) (LV _)
 |succ i=>exact ye U (by lia)
def xn (H:A.handled=none) (u:a≠I) (f:w.params.followText "set-order" = false) (D:t.led=true) (J:(!t.plain && decide (c.size>1))=false) (U:Up t.place) (P:t.place.size=c.size) (l:t.fits c.size=true) :
  Walks prog w A I [I,a] [I] c.size (PV c.toList) (λi h=>xk h I (.int (slotAt t i:Nat) 0) i a c.size d/\EX h a c d t) where
 sub:=λb f=>by simp at f;simp[f]
 frame:=λ_ _ _ ⟨x,y⟩ F=>⟨x.keep λo e=>F I (by simp) o e,y.keep λo e=>F a (by simp) o e⟩
 item:=λi s Q E G ⟨x,y⟩ g=>by
  have m:=jJ (t:=t) U (i:=i) (by lia);have z:c[below t.place (slotAt t i)]? = some c[i]:=by rw[m];exact D7 G
  have L:t.place[below t.place (slotAt t i)]? = some (t.place.getD i 0):=by rw[m];exact zO (by lia)
  refine iK H u x y l (r:=some (c[i].2,t.place.getD i 0+1)) (λO N M q=>oG f D J y l (by rw[z,L];exact q)) (λv K j e B p=>?_) λj e k=>nomatch e;cases e;exact g _ j s.toks ⟨_,by rw[sP];exact D7 G,rfl⟩ ⟨B,y.keep λo e=>p.extBut _ _ u e⟩ λb o f e=>p.extBut b o (λh=>f (by simp[h])) e
 done:=λs Q E ⟨x,y⟩ g=>by
  have m:=jJ (t:=t) U (i:=c.size) (by lia);have z:c[below t.place (slotAt t c.size)]? = none:=by rw[m];exact Qz (cE _)
  refine iK H u x y l (r:=none) (λO N M q=>oG f D J y l (by rw[z];exact q)) (λv K j e B p=>nomatch e) λj e k=>?_;exact g j s.toks λb o f e=>k b o (λh=>f (by simp[h])) e
 self:=λ_ _ _ _ ⟨x,y⟩ g=>lq x g
def xT{T:ai}{m:List Nat}{M:Nat}(J:A.handled=none)(N:a≠I)(B:T≠I)(K:t.fits c.size=true)(G:m.Perm (List.range c.size)) :
  Walks prog w A I [I,a,T] [I] c.size (PV (m.filterMap λk=>c[k]?)) (λi h=>xk h I (.ref T) i a c.size d/\EX h a c d t/\∃ o,h.get? T=some o/\o.data=.seq (m.map λ(k:Nat)=>Value.int k 0).toArray M):=by
 have H:m.length=c.size:=by simpa using G.length_eq
 have D:∀ k∈m,k<c.size:=λk g=>vF.mp (G.mem_iff.mp g);obtain⟨R,O⟩:=vX (l:=m) (f:=λk=>c[k]?) λk g=>by simp[D k g]
 exact {
  sub:=λb p=>by simp at p;simp[p]
  frame:=λ_ _ _ zq g=>by obtain⟨x,y,o,z,j⟩:=zq;exact⟨x.keep λo e=>g I (by simp) o e,y.keep λo e=>g a (by simp) o e,o,g T (by simp) o z,j⟩
  item:=λi s Q E P zj q=>by
   obtain⟨x,y,o,z,j⟩:=zj
   refine nZ J x y K z j (λk e r v L F u=>?_) D λr e k=>?_
   ·refine q _ r s.toks ⟨e,by rw[O,v];exact L,rfl⟩ ⟨F,y.keep λo e=>u.extBut _ _ N e,o,u.extBut _ _ B z,j⟩ λb o p e=>u.extBut b o (λh=>p (by simp[h])) e
   ·rw[rh (by lia)] at e;cases e
  done:=λs Q E zx q=>by
   obtain⟨x,y,o,z,j⟩:=zx
   refine nZ J x y K z j (λk e r v L F u=>?_) D λr e k=>?_
   ·rw[DU (by lia)] at v;cases v
   ·exact q r s.toks λb o p e=>k b o (λh=>p (by simp[h])) e
  self:=λ_ _ _ _ ⟨x,_⟩ q=>lq x q }
end
section
variable {j:cy}{w:c9}{A:fz}{E:ah->aI->Prop}{s:aI}{a:ai}{o:Obj}{g:Array (Int × ah)}{l:Nat}{t:SetTable}
def BZ (v:A.handled=none) (f:s.heap.get? a=some o) (x:o.ExactSet) (n:o.data=.set g l t) (m:t.fits g.size=true) (U:Up t.place) (K:t.place.size=g.size) (M:t.led=(!w.params.followText "set-order")) (L:g.size<=bG)(h:∀ I y d G H B,(∀ b o,s.heap.get? b=some o->y.get? b=some o)->s.heap.objs.size<=I->(∀ b∈G,b=a\/s.heap.objs.size<=b)->B.Perm g.toList ->
   Walks j w A I G [I] g.size (PV B) H->H 0 y->Q (.ref I) { s with heap:=y,drawn:=d }):bq (aE j w) A (pyIter (.ref a)) Q E s:=by
 have D:s.TypeIs (.ref a) "set" := ⟨o,f,x.1⟩
 have z:a<s.heap.objs.size:=fA f;refine wpAny_pyIter_slot D F.slot_set_iter (HC F.slot_set_iter D nF ?_ (F.args_set_iter_1 _));refine ax (LP rfl ?_);refine ax ?_;refine ax (wpAny_setEntries_of f n m (bI ?_));refine ax ?_;refine ax (DJ f n m ?_);refine ax (ax (PD (bI ?_)));refine bI ?_;have N:pF g t=(!t.plain && decide (g.size>1)):=rfl;unfold pF at N;show bq _ _ (if (!w.params.followText "set-order" && (!t.plain && decide (g.size>1)))=true then _ else _) _ _ s
 cases c:w.params.followText "set-order" with
 |true =>
  refine ax (bI ?_);refine ax (wpAny_setEpoch_of f n m ?_);refine ax (t5 ?_);refine bI ⟨_,rfl, "set_iterator",_,⟨_,jI _ rfl,rfl⟩,bF.lookup,?_⟩;have r:(s.heap.push { cls:=.type "set_iterator",data:=.fields #[rg 0,rg 0,.ref a,rg g.size,rg l] }).get? a=some o:=eS _ f;exact h s.heap.objs.size _ s.drawn _ _ _ (λb o e=>eS _ e) (cE _) (λb c=>by
   rcases dQ.mp c with rfl|c
   ·exact .inr (cE _)
   ·exact .inl (hV.mp c)) (lR _ _) (zE v (gS z) c m) ⟨⟨0,jI _ rfl⟩,o,r,n⟩
 |false =>
  cases O:(!t.plain && decide (g.size>1)) with
  |false =>
   refine ax (bI ?_);refine ax (wpAny_setEpoch_of f n m ?_);refine ax (t5 ?_);refine bI ⟨_,rfl, "set_iterator",_,⟨_,jI _ rfl,rfl⟩,bF.lookup,?_⟩;have r:(s.heap.push { cls:=.type "set_iterator",data:=.fields #[rg 0,rg 0,.ref a,rg g.size,rg l] }).get? a=some o:=eS _ f;exact h s.heap.objs.size _ s.drawn _ _ _ (λb o e=>eS _ e) (cE _) (λb c=>by
    rcases dQ.mp c with rfl|c
    ·exact .inr (cE _)
    ·exact .inl (hV.mp c)) (.refl _) (xn v (gS z) c (by rw[M,c];rfl) O U K m) ⟨jI _ rfl,o,r,n⟩
  |true =>
   refine ax (Ib g.size (List.range g.size) s _ (by simp) λp d u=>?_);refine ax (t5 ?_ ?hzz);case hzz =>
    have:=u.length_eq;rw[T1] at this;show(p.map λ(i:Nat)=>rg i).toArray.size<=bG;rw[kg,cx,this];exact L
   have J:(s.heap.push { cls:=.type "tuple",data:=.seq (p.map λ(i:Nat)=>rg i).toArray }).get? a=some o:=eS _ f;refine ax (wpAny_setEpoch_of J n m ?_);refine ax (t5 ?_);refine bI ⟨_,rfl, "set_iterator",_,⟨_,jI _ rfl,rfl⟩,bF.lookup,?_⟩;have q:(s.heap.push { cls:=.type "tuple",data:=.seq (p.map λ(i:Nat)=>rg i).toArray }).objs.size=s.heap.objs.size+1:=VH ..;refine h (s.heap.push { cls:=.type "tuple",data:=.seq (p.map λ(i:Nat)=>rg i).toArray }).objs.size _ d [(s.heap.push { cls:=.type "tuple",data:=.seq (p.map λ(i:Nat)=>rg i).toArray }).objs.size,a,s.heap.objs.size] _ (p.filterMap λk=>g[k]?) (λb o e=>eS _ (eS _ e)) (by rw[q];exact T_ _) (λb c=>?_) ?_ (xT v (by rw[q];exact gS (HZ z)) (by rw[q];exact gS (VM _)) m u) ⟨jI _ rfl,⟨o,eS _ J,n⟩,_,eS _ (jI _ rfl),rfl⟩
   ·rcases dQ.mp c with rfl|c
    ·exact .inr (by rw[q];exact T_ _)
    ·rcases dQ.mp c with rfl|c
     ·exact .inl rfl
     ·rw[hV.mp c];exact .inr (cE _)
   ·have:=u.filterMap λk=>g[k]?;rw[vO] at this;exact this
def Cq (d:s.TypeIs (.ref a) "set") (h:Q false s):bq (aE j w) A (Builtin.List.listLengthHint (.ref a)) Q E s:=by
 refine ax (wpAny_specialOf d PySem.F.slot_set_len.lookup ?_);generalize c:("set.__len__" : String)=f
 wp_delta
 subst c;exact ax (wpAny_isInstance (b:=true) d (by rw[isSubtype_type];kernel_rfl) (wpAny_ite_split (λe=>absurd e (by decide)) (λ_=>wpAny_ite_split (λ_=>ax (wpAny_typeOf d (bI h))) (λe=>absurd (by decide +kernel) e))))
def HQ {R:Result->aI->Prop} (hh:A.handled=none) (J:s.heap.get? a=some o) (n:o.ExactSet) (hd:o.data=.set g l t) (hf:t.fits g.size=true) (U:Up t.place) (Z:t.place.size=g.size) (hl:t.led=(!w.params.followText "set-order")) (T:g.size<=bG)(S:ai) (u:S≠a) (k:ah) (i:Nat) (V:s.heap.get? S=some { cls:=.type "list",data:=.seq #[] i }) (hR:∀ M B d G q y,(∀ b o,b≠S->s.heap.get? b=some o->M.get? b=some o)->M.get? S=some { cls:=.type "list",dict:=none,data:=.seq G q,slots:=#[] }->y.Perm g.toList->ItemsOf (PV y) G g.size->R (.ok (.ret k)) { s with heap:=M,toks:=B,drawn:=d }) :
  bq (aE j w) A.in1 (Builtin.List.listExtendWith (.ref S) (.ref a) k) (λN m=>match N with|.done f=>R (.ok f) m|.again q=>q.quiet=true/\xD (aE j w) A q R m) (λe m=>R (.error e) m) s:=by
 have hT:s.TypeIs (.ref a) "set" := ⟨o,J,n.1⟩
 have L:=fA V;refine ax (wpAny_typeOf hT ?_);have h1:Builtin.List.listSameRef (.ref S) (.ref a)=false:=by simp[Builtin.List.listSameRef,u]
 simp only[h1,show(Value.type "set" == Value.type "list")=false by decide,show(Value.type "set" == Value.type "tuple")=false by decide,Bool.or_false,vT,if_false];refine ax (BZ hh J n hd hf U Z hl T λI h2 d fp St y D hI K C W Q=>?_);have X:S∉fp:=λF=>by
  rcases K S F with z|z
  ·exact u z
  ·exact absurd L (Nat.not_lt.mpr z)
 have r:∀ h c B,St 0 h->(∀ b o,b≠S->s.heap.get? b=some o->h.get? b=some o) ->
   h.get? S=some { cls:=.type "list",data:=.seq #[] c }->xD (aE j w) A (.builtin "list.extend.loop" ⟨[.ref S,.ref I,k],[]⟩) R { s with heap:=h,toks:=B,drawn:=d }:=by
  intro h c B Y hk x;refine codeAny_extend_loopS W.toS T S X k g.size 0 _ #[] c rfl (gy _) Y x (ItemsOf.nil _) λm G q F AU I0=>?_;rw[Moved.eq_with F];refine hR m.heap m.toks d G q y (λb o p e=>F.heap b o (λO=>?_) (hk b o p e)) AU C I0;rcases dQ.mp O with e'|O
  ·exact p e'
  ·exact absurd (fA e) (by rw[hV.mp O];exact Nat.not_lt.mpr hI)
 have x:h2.get? S=some { cls:=.type "list",data:=.seq #[] i }:=D _ _ V;refine ax (zk (Cq ⟨o,D _ _ J,n.1⟩ ?_));refine wpAny_ite_split (λ_=>?_) (λ_=>bI ⟨DM PySem.F.plain_extend_loop _,r _ i _ Q (λb o _ e=>D b o e) x⟩);refine ax (DS ?_);refine ax ?_;refine ax (TK x rfl ?_);have v:=HV (Obj.mapSeq (·.push Value.none)) x rfl;refine TK v rfl ?_;have H:=HV (Obj.mapSeq (·.pop)) v rfl;refine bI ⟨DM PySem.F.plain_extend_loop _,r _ _ _ ?_ (λb o p e=>?_) H⟩
 ·refine W.frame 0 _ _ Q λb p o e=>?_;have P:b≠S:=λh=>X (h ▸ p);exact(D3 _ _ (Ne.symm P)).trans ((D3 _ _ (Ne.symm P)).trans e)
 ·exact(D3 _ _ (Ne.symm p)).trans ((D3 _ _ (Ne.symm p)).trans (D _ _ e))
def xO(h:ItemsOf (PV I) C n)(m:I.length=n):C.toList=I.map (·.2):=by
 apply T2;intro i;rw[ki];by_cases f:i<n
 ·have c:i<C.size:=by rw[h.1];exact f
  have b:C[i]? = some C[i]:=D7 c;obtain⟨e,k,d⟩:=h.2 i C[i] b;rw[sP,b,k,d];rfl
 ·rw[DU (by rw[A4,h.1];lia),DU (by lia)];rfl
def kJ {R:Result->aI->Prop} (y:A.handled=none) (n:s.heap.get? a=some o) (k:o.ExactSet) (B:o.data=.set g l t) (z:t.fits g.size=true) (U:Up t.place) (r:t.place.size=g.size) (x:t.led=(!w.params.followText "set-order")) (v:g.size<=bG)(G:∀ c i d h m f,(∀ b o,s.heap.get? b=some o->c.get? b=some o)->c.get? s.heap.objs.size=some { cls:=.type "list",dict:=none,data:=.seq h m,slots:=#[] }->f.Perm g.toList->ItemsOf (PV f) h g.size->R (.ok (.ret (.ref s.heap.objs.size))) { s with heap:=c,toks:=i,drawn:=d }) :
  xD (aE j w) A (.builtin "proto.collect" ⟨[.ref a],[]⟩) R s:=by
 have J:a<s.heap.objs.size:=fA n;have D:(s.heap.push { cls:=.type "list",data:=.seq ([]:List ah).toArray }).get? s.heap.objs.size=some { cls:=.type "list",data:=.seq ([]:List ah).toArray }:=jI _ rfl;refine DL F.entry_proto_collect ?_;refine ax (t5 ?_);refine bI ⟨DM F.plain_list_iadd _,DL F.entry_list_iadd ?_⟩;exact HQ y (eS _ n) k B z U r x v s.heap.objs.size (P9 J) _ 0 D λc i d h m f p H u q =>
  G c i d h m f (λb o e=>p b o (gS (fA e)) (eS _ e)) H u q
def um (x:A.handled=none) (r:s.heap.get? a=some o) (h:o.ExactSet) (z:o.data=.set g l t) (y:t.fits g.size=true) (U:Up t.place) (q:t.place.size=g.size) (v:t.led=(!w.params.followText "set-order")) (u:g.size<=bG)(B:∀ e f d i,(∀ b o,s.heap.get? b=some o->e.get? b=some o)->s.heap.objs.size<=e.objs.size->i.Perm (g.toList.map (·.2))->Q i { s with heap:=e,toks:=f,drawn:=d }):bq (aE j w) A (collect (.ref a)) Q E s:=by
 refine ax (wpAny_runValue (kJ x r h z y U q v u λe f d D c F n m k p=>?_));refine ax (wpAny_load m ?_);refine bI (B e f d _ n (D4 (fA m)) ?_);rw[xO p (by rw[k.length_eq];simp)];exact k.map _
end
section
variable {d:cy}{w:c9}{K:Type}[DecidableEq K]{a:KeyKind d w K}{A:fz}{E:ah->aI->Prop}{s:aI}
def Dd{α:Type}(b:Bool):TI (α:=α) (SetTable.fresh 0 0 b) #[] :=
 ⟨⟨3,rfl,cE _⟩,rfl,λi j h c=>absurd c (LV _),λi f=>absurd f (LV _),rfl,(by show 0*5<7*3;decide),λi h x e=>by simp at e⟩
def rH{l:ai}{f:Array ah}{j:List (List K × ai)}{Q:ah->aI->Prop}(hh:A.handled=none)(hu:A.units+8<f7)(U:s.heap.IsList l f)(V:f.toList=j.map λp=>Value.ref p.2)(W:∀ p∈j,IsTupleKey a s.heap p.1 p.2) (hz:j.length<=1000) (X:∀ k v,a.is k v=true->v.scannable=true)(h:∀ u N n,Td a u s.heap.objs.size n->(∀ k,k∈n.map (·.1)↔k∈j.map (·.1))->(∀ p∈n,p∈j)->(∀ b o,s.heap.get? b=some o->u.get? b=some o)->Q (.ref s.heap.objs.size) { s with heap:=u,toks:=N }) :
  bq (aE d w) A (call (.type "set") [.ref l]) Q E s:=by
 have P:∀ p∈j,p.2<s.heap.objs.size:=λp g=>by obtain⟨o,_,_,m,_⟩:=W p g;exact fA m
 refine qQ hh U (λi h=>∃ n,Td a h s.heap.objs.size n/\(∀ k,k∈n.map (·.1)↔k∈(j.take i).map (·.1))/\(∀ p∈n,p∈j)/\n.length<=i/\∀ p∈j,IsTupleKey a h p.1 p.2) (λh e k=>?_) (λi h u ⟨n,S,B,x,O,y⟩ k=>?_) (λi v T E' Q' I ⟨n,S,B,x,O,y⟩ q=>?_) λu N ⟨n,S,B,x,O,y⟩ k=>?_
 ·exact⟨[],⟨⟨_,#[],0,_,e,⟨rfl,rfl,rfl⟩,rfl,Dd _,(by show 7<=8191;decide),rfl,rfl⟩,oo,λp g=>nomatch g⟩,λk=>by simp,(λp g=>nomatch g),cE _,λp g=>IsTupleKey.gE (W p g) λo m=>k _ _ m⟩
 ·obtain⟨⟨o,es,ep,t,m,r⟩,Y,C⟩:=S;exact⟨n,⟨⟨o,es,ep,t,k _ _ (cE _) m,r⟩,Y,λp g=>IsTupleKey.gE (C p g) λo m=>k _ _ (D4 (P p (x p g))) m⟩,B,x,O,λp g=>IsTupleKey.gE (y p g) λo m=>k _ _ (D4 (P p g)) m⟩
 ·have F:f.toList[i]? = some v:=by rw[sP];exact I
  rw[V,ki] at F
  cases J:j[i]? with
  |none=>rw[J] at F;cases F
  |some p =>
   rw[J] at F;cases F;have g:=oj J;have ab:i<j.length:=(k7.mp J).1;have M:(j.take (i+1)).map (·.1)=(j.take i).map (·.1)++[p.1]:=by rw[yA,J,kS];rfl
   unfold setAdd;refine zk (ax (wpAny_pyHash_tuple (by show A.units+3<f7;lia) (y p g) ?_));refine Ku (s:={ T with toks:=T.toks+(p.1.length+1) }) S (y p g) (by lia) (by show A.units+3<f7;lia) X λb u Z R S' c=>?_;refine q b u _ R ⟨Z,S',λk=>?_,λG H=>?_,?_,λG H=>IsTupleKey.gE (y G H) λo m=>R.extBut _ _ (gS (P G H)) m⟩
   ·rw[M,kA,hV,<- B];rcases c with⟨D,rfl⟩|⟨D,L⟩
    ·exact⟨.inl,λz=>z.elim id λe=>e ▸ D⟩
    ·rw[(L.map _).mem_iff,eR,dQ];exact⟨λz=>z.symm,λz=>z.symm⟩
   ·rcases c with⟨D,rfl⟩|⟨D,L⟩
    ·exact x G H
    ·rcases dQ.mp (L.mem_iff.mp H) with rfl|z
     ·exact g
     ·exact x G z
   ·rcases c with⟨D,rfl⟩|⟨D,L⟩
    ·exact Nat.le_succ_of_le ‹_›
    ·rw[L.length_eq];simp;lia
 ·have e:f.size=j.length:=by have:=congrArg List.length V;simpa using this
  rw[e,xS] at B;exact h u N n S B x λb o m=>k b o (fA m) m
end
end TS
section
open PySem PySem.Spec PyProof.Rows
namespace L2
section
variable {X:Cx}{c:List (ai × Obj)}{e:St}{H:Hp}{s:aI}
def Inv.drawn{d}(I:Inv X c e H s):Inv X c e H { s with drawn:=d }:=⟨I.ok,I.os,I.bare,I.base,I.loc,I.cell,I.free,I.B6,I.pin,I.bT,I.len⟩
def Eb:∀ (k:Key) (v:ah),(i3 o w).is k v=true->v.scannable=true:=λk v h=>by rcases A5 h with⟨i,t,rfl,rfl⟩|⟨x,t,rfl,rfl⟩<;>rfl
def jb(K:ay):V->Hp->VK->Prop:=λx H Q=>match x with
 |.ref p=>∃ f g j i,eP K H p f/\f.length<=1000/\d8 H f g/\(∀ k∈g,mv k=j :: i) /\
   ∀ h d l,d8 H h d->d.Nodup->(∀ k,k∈d↔k∈g)->(d.Pairwise λa b=>kK b a=false)->H l=none->Q (.ref l) (upd H l (.lst h))
 |_=>False
def d8.pairs(h:d8 H f j)(l:Vals f i):∃ a:List (List Key × ai),i=a.map (λp=>Value.ref p.2)/\a.map (·.1)=j/\∀ p∈a,H p.2=some (.tup (p.1.map kV)):=by
 induction f generalizing j i with
 |nil=>exact⟨[],Paired.n0 l,(Paired.n0 h).symm,λp d=>nomatch d⟩
 |cons y f n =>
  obtain⟨k,j,rfl,⟨b,rfl,g⟩,t⟩:=Paired.c h;obtain⟨v,i,rfl,rfl,m⟩:=Paired.c l;obtain⟨a,u,r,q⟩:=n t m;refine⟨(k,b) :: a,by rw[u];rfl,by rw[<- r];rfl,λp d=>?_⟩;rcases dQ.mp d with rfl|d
  ·exact g
  ·exact q p d
end
section
variable {X:Cx}{e:Expr}{r:TE}{p j g l:Pos}
def ur (hc:X.calm=true) (hu:X.A.units+64<f7) (hg:Gl X "sorted") (hm:X.mg "sorted" = none) (a0:Gl X "set") (FV:X.mg "set" = none) (he:PE X e r)(E:mN "sorted" = some (.builtin "sorted")) (aw:mN "set" = some (.type "set"))(jS:autoParam (aR X e []) bv) (hs:autoParam (fN [.Call (.Name "set" j) [e] [] l] X.env=(false,dn (.Call (.Name "set" j) [e] [] l) X.env) :: fN [] X.env) bv) :
  PE X (.Call (.Name "sorted" p) [.Call (.Name "set" j) [e] [] l] [] g) (tUn (jb X.K) r):=by
 intro N s a6 H Q I h;refine LH (B7 I hg hm E ?_ (by decide) (by decide));refine PyProof.Rows.callWith_builtin1 ?_ hs rfl;refine Calls.spliced_cons ?_;refine LH (B7 I a0 FV aw ?_ (by decide) (by decide));refine PyProof.Rows.callWith_type1 ?_ jS rfl;rw[jS];refine Calls.spliced_cons (cK (he N s a6 H _ I h) λu s1 cq=>L2.eM cq λx Y K r1 L=>Calls.spliced_nil ?_);have L:jb X.K x Y Q:=L;obtain⟨a,rfl⟩:∃ a,x=.ref a:=by
  unfold jb at L;split at L
  ·exact⟨_,rfl⟩
  ·exact L.elim
 obtain⟨ys,O,b0,sh,hl,a8,ht,EB,q⟩:=L;cases r1;obtain⟨vs,rv,pl,hz⟩:=K.list hl;obtain⟨xs,ex,C,hx⟩:=ht.pairs rv;have SG:X.A.handled=none:=K.ok.hd hc;have a5:xs.length=ys.length:=by rw[rv.length,ex,cx]
 have Dp:∀ p∈xs,IsTupleKey (i3 X.prog X.w) s1.heap p.1 p.2:=λp F=>by obtain⟨us,ru,o,e1,c1,n1,d1⟩:=K.tup (hx p F);exact⟨o,us.toArray,n1,e1,c1,d1,by simpa using aX' ru⟩
 refine TS.rH SG (by lia) pl.isList (by simpa using ex) Dp (by lia) Eb λh2 tk B S m1 m2 kp=>?_;refine Calls.spliced_nil ?_;obtain⟨⟨o,es,ep,t,ho,a3,hd,T,hM,hL,Tb⟩,nd,is⟩:=S;have af:es.toList.map (·.2)=B.map λp=>Value.ref p.2:=by rw[Tb,kM];rfl
 have a7:B.length<=1000:=by
  have:=TS.gf nd (m:=O) λk hk=>by rw[<- C];exact(m1 k).mp hk
  rw[cx] at this;have:O.length=xs.length:=by rw[<- C,cx]
  lia
 have ae:es.size=B.length:=by have:=congrArg List.length Tb;simpa using this
 have ab:∀ p∈B,p.1∈O:=λp F=>by rw[<- C];exact fq.mpr ⟨p,m2 p F,rfl⟩
 have z:∀ w:List ah,w.Perm (B.map λp=>Value.ref p.2)->∀ v∈w,∃ b k,v=.ref b/\Y b=some (.tup (k.map kV))/\k∈O:=λw A v E=>by obtain⟨p,F,rfl⟩:=fq.mp (A.mem_iff.mp E);exact⟨p.2,p.1,rfl,hx p (m2 p F),ab p F⟩
 have V:s1.heap.objs.size<=h2.objs.size:=D4 (fA ho);refine Jn.n8 (D:=λ_=>True) (κ:=tuples' true) (R:=λw=>w.Perm (B.map λp=>Value.ref p.2)) (P:=λv=>∃ b k,v=.ref b/\Y b=some (.tup (k.map kV))/\mv k=b0 :: sh/\k∈O) (λA' E' Q' hA hQ=>TS.um (hA.trans SG) ho a3 hd T.fits T.up T.sz hL (by rw[ae,kQ];lia) λh' Zu d w J ar A=>hQ w h' Zu d trivial (by rw[<- af];exact A) J ar) (λw A=>by rw[A.length_eq,cx,kQ];lia) (λw A v E=>?_) (λw A ba A' E' s' J Q' q'=>?_) (λs' J=>Cd K λb o e=>J b o (kp b o e)) λw h' a' G n Zu d _ A pm pw J ha eo=>?_
 ·obtain⟨b,k,e1,e2,U⟩:=z w A v E;exact⟨b,k,e1,e2,EB k U,U⟩
 ·obtain⟨zs,z1,Z⟩:=d8.of w (z w A);obtain⟨fs,f1,f2,f3⟩:=kat_tups K (λb o e=>J b o (kp b o e)) z1 Z λk hk=>by obtain⟨v,E,rfl⟩:=fq.mp hk;obtain⟨b,k,rfl,e2,U⟩:=z w A v E;rw[eO e2];exact EB k U
  cases b0 with
  |true =>refine PySem.W.kat_kind (T:=.type "int") f1 (by lia) (λf hf=>?_) (by decide) q';obtain⟨i,t,rfl⟩:=(f3 f hf).1 rfl;exact .now
  |false =>refine PySem.W.kat_kind (T:=.type "str") f1 (by lia) (λf hf=>?_) (by decide) q';obtain⟨i,t,rfl⟩:=(f3 f hf).2 rfl;exact .now
 ·have W:=pm.trans A;obtain⟨zs,z1,Z⟩:=d8.of G λv E=>z _ W v E;have zl:=Z.length;have ol:=W.length_eq;rw[cx] at ol;have a4:(B.map λp=>Value.ref p.2).map (wV Y)=B.map (·.1):=by rw[kM];exact A0 λp F=>eO (hx p (m2 p F))
  have M:(G.map (wV Y)).Perm (B.map (·.1)):=by rw[<- a4];exact W.map _
  refine⟨.ref a',_,(K.laid (λb o e=>J b o (kp b o e)) (kD V ha) (show n4 X.prog X.w _ h' _ (.lst zs) from⟨by rw[kQ];lia,G,n,Z,eo⟩)).drawn,rfl,
   q zs _ _ z1 (M.nodup_iff.mpr nd) (λk=>by rw[M.mem_iff,m1,C]) ?_ (K.bT.fresh (kD V ha))⟩
  rw[A2];refine pw.imp_of_mem λ{x y} mx my a9=>?_;obtain⟨b,k,rfl,hb,kk⟩:=z _ W x mx;obtain⟨c,m,rfl,L8,km⟩:=z _ W y my;rw[eO hb,eO L8] at *
  have:=wz ((EB m km).trans (EB k kk).symm) km;rw[<- this];exact decide_eq_false (by lia)
end
end L2
end
namespace TS
open PySem PySem.SetTable PyProof.Rows
structure WI(t:SetTable)(n:Nat):Prop where
 up:Up t.place
 fits:t.fits n=true
end TS
section
open PySem PySem.Spec PyProof.Rows
namespace L2
end L2
namespace L2.Q
section
variable {X:Cx}{K:ay}{e:Expr}{i:WE}{p d c g:Pos}
def Mq:mN "set" = some (.type "set"):=by decide +kernel
def iR:W1:=λ_ x Q=>match x with
 |.list j=>∃ (h:List (List Key)) (l:List Bool),j=h.map w_/\h.length<=1000/\(∀ k∈h,mv k=true :: l)/\∀ f:List (List Key),f.Nodup->(∀ k,k∈f↔k∈h)->(f.Pairwise λa b=>kK b a=false)->Q (.ow true) (.list (f.map w_))
 |_=>False
def tW:Br1 K (jb K) iR:=by
 intro Q H m x v R P O w B h f;have E:=B.rep w
 cases E with
 |list z s q =>obtain⟨t,A,rfl,N,J,h⟩:=h;obtain⟨y,G⟩:=JT q;have L:=q.length;rw[cx] at L;refine⟨_,t,true,A,s,by lia,y,J,λM a l u r b F j=>?_⟩;have D:=v8 (K:=K) u λk n=>G k ((b k).mp n);have:a.length<=t.length:=TS.gf r λk n=>(b k).mp n;exact f.lst w (by rw[cx,kQ];lia) D (mC a) (h a r b F) l j
 |_=>exact h.elim
def xJ (u:X.mg "sorted" = none) (G:X.mg "set" = none) (y:QE X K e i) (z:autoParam (X.calm=true) bv) (A:autoParam (X.K=K) bv) (r:autoParam (aR X e []) bv) (t:autoParam (fN [.Call (.Name "set" d) [e] [] g] X.env=(false,dn (.Call (.Name "set" d) [e] [] g) X.env) :: fN [] X.env) bv) (s:autoParam (X.A.units+64<f7) u0) (w:Gl X "sorted" := by rfl) (b:Gl X "set" := by rfl) :
  QE X K (.Call (.Name "sorted" p) [.Call (.Name "set" d) [e] [] g] [] c) (dy iR i):=by
 subst A;exact PE.imp (ur z s w u b G y sZ Mq r t) λL H D zq=>by obtain⟨E,k,a,Q,l,h,f⟩:=zq;exact⟨E,k,a,_,l,h,λv F B m x J j n M q=>tW B F m x v J Q D j.wf n q (Fin.after f j)⟩
end
end L2.Q
namespace L2.Q.R
section
variable {Q:Md->L2.Q.D->Prop}{m:Md}{c:List L2.Q.D}
def JW:iR m (.list c) Q = ∃ (e:List (List Key)) (f:List Bool),c=e.map w_/\e.length<=1000/\(∀ k∈e,mv k=true :: f)/\∀ d:List (List Key),d.Nodup->(∀ k,k∈d↔k∈e)->(d.Pairwise λa b=>kK b a=false)->Q (.ow true) (.list (d.map w_)):=rfl
end
end L2.Q.R
namespace L2
section
def Vals.rev(h:Vals a b):Vals a.reverse b.reverse:=by
 induction a generalizing b with
 |nil=>rw[Paired.n0 h];exact .nil
 |cons x a d =>obtain⟨v,b,rfl,r,c⟩:=Paired.c h;rw[pS,pS];exact Vals.append (d c) (.cons r .nil)
end
end L2
namespace L2.Q
section
variable {K:ay}
def b9.rev(r:b9 K H a o):b9 K H a.reverse o.reverse:=by
 induction a generalizing o with
 |nil=>rw[r.n0];exact .nil
 |cons d a c =>obtain⟨u,e,rfl,r,b⟩:=r.c;rw[pS,pS];exact(c b).append (.cons r .nil)
end
end L2.Q
namespace L2.Q.R
end L2.Q.R
namespace L2
open Builtin Builtin.Str Builtin.Int
end L2
namespace L2.Q
section
variable {X:Cx}{K:ay}{a b:Expr}{g:WE}{l:Pos}
def DB(c:List D)(x:D):Bool:=c.any λz=>nE z x
def cl'(d:Bool):W2:=λ_ x _ y Q=>∃ c,(y=.list c\/y=.tup c)/\fI 12 x=true/\fI 12 y=true/\Q .sh (.bl (if d then !DB c x else DB c x))
def cm'(K:ay)(f:Bool):R2:=λx y H Q=>∃ d e c,L2.Rep K H d x/\L2.Rep K H e y/\(e=.list c\/e=.tuple c)/\d.canLay0=true/\PyData.canLayAll0 c=true/\d.depth<=60/\Q (.bl (if f then !(c.any λz=>PyData.eqv z d) else c.any λz=>PyData.eqv z d)) H
def J1(A:X.A.units+64<f7):eJ X (iX .In) (cm' X.K false):=by
 intro i s w H x y v u Q I n m h;obtain⟨d,e,z,t,r,p,k,j,B,q⟩:=h;obtain⟨E,f⟩:=t.reads I n;obtain⟨D,c⟩:=r.reads I m;rcases p with rfl|rfl
 ·exact PySem.SeqAt.in_list_reads c f j k (by lia) ⟨.bl _,H,I,rfl,q⟩
 ·exact PySem.SeqAt.in_tuple_reads c f j k (by lia) ⟨.bl _,H,I,rfl,q⟩
def ol'(d:autoParam (X.K=K) bv)(c:autoParam (X.A.units+64<f7) u0):eJ X (iX .In) (cm' K false):=by subst d;exact J1 c
def HF(c:List D)(x:D):((rq c).any λz=>PyData.eqv z x.py)=DB c x:=by
 induction c with
 |nil=>rfl
 |cons y c d =>rw[rq,Fs,d];rfl
def Mr:kX K (cm' K o) (cl' o):=by
 intro z H m x v B n y u A t s w p k h f;obtain⟨j,i,d,c,q⟩:=h;have r:=jR 12 x d;have e:=jR 12 y c;refine⟨x.py,y.py,rq j,(p.rep w).l2 d,(k.rep w).l2 c,?_,r.1,?_,by lia,?_⟩
 ·rcases i with rfl|rfl
  ·exact .inl rfl
  ·exact .inr rfl
 ·rcases i with rfl|rfl
  ·exact e.1
  ·exact e.1
 ·rw[HF];exact f.sh w (.bl _) q
def Zv(o:Option (Option Sl))(k:List D->Prop):Prop:=match o with
 |some (some (.ow true (.list c)))=>k c
 |_=>False
def intD(y:D)(k:Int->Prop):Prop:=match y with
 |.int i=>k i
 |_=>False
def Vc(d:D):Md:=bif d.flat then .sh else .ow true
def sU(i:Nat)(g:WE):WS:=λE c=>Zv c[i]? λe=>g c λ_ y=>intD y λk=>∃ d,L2.fT e k=some d/\E.rt (Vc d) d
def uU(he:PE X a (kr i))(hb:QE X K b g)(U:Ww b:=by exact λ_ _=>rfl)(hK:autoParam (X.K=K) bv):QS X K L (.Return (some (.Subscript a b l)) o) (sU i g) :=
 PS.imp (RA (aT' (kIx hK) he hb U)) λD ab H I=>bN I λHs S n E s h k1 k2 k3 O=>by
 unfold sU Zv at h;split at h
 ·rename_i xs e1;obtain⟨v,R,e2,Z,r,F⟩:=s.sr.at e1
  cases r with
  |sh _ _=>exact absurd rfl Z
  |@list a T _ R z e J =>
   refine⟨_,e2,Hs,S,n,_,s,h,λu Q P m y Bs f W f1 M=>?_⟩;have V:=W.rep f.wf
   cases V with
   |int k =>
    obtain⟨d,e3,q⟩:=M;obtain⟨j,ej,ed⟩:=K1 e3;have N:R.Nodup:=(om.mp (F.nodup s.ti)).2;obtain⟨w,B,ew,Y,G,_⟩:=J.at ed N;have x:∀ c∈B,c∈n:=λc p=>F.subset (eI _ (G.subset p));have A:=Y.grow f.sh f.all;refine .inl ⟨T,w,.inl (.inl (f.all _ _ e)),KQ (by rw[<- J.length];exact ej) ew,?_⟩;have C:=s.grow f
    cases t:d.flat with
    |true =>rw[Vc,t] at q;exact O w Q P .sh d [] f.sh f.wf ⟨rfl,(A.rep f.wf.sub λ_ _=>rfl).fY f.wf.kU t⟩ oo (λc p=>BE p) q
    |false =>rw[Vc,t] at q;exact O w Q P (.ow true) d B f.sh f.wf ⟨A,A.ne t⟩ (G.nodup N) (λc p=>C.own c (x c p)) q
   |_=>exact M.elim
 ·exact h.elim
end
end L2.Q
namespace L2.Q.R
section
variable {g:Env}{j:WE}{m l:Md}{x:L2.Q.D}{e:List L2.Q.D}{Q:Md->L2.Q.D->Prop}
def Oq:sU i j E g=de g[i]? (f:=λo=>Zv o λa=>j g λ_ y=>de y (f:=λy=>intD y λk=>∃ d,fT a k=some d/\de d (f:=λd=>E.rt (Vc d) d) ⟨⟩) ⟨⟩) ⟨⟩:=rfl
def Qj:Zv (some (some (.ow true (.list e)))) k=k e:=rfl
def QH:intD (.int i) k=k i:=rfl
def QR:cl' o m x l (.list e) Q=(fI 12 x=true/\fI 12 (.list e)=true/\Q .sh (.bl (if o then !DB e x else DB e x))):=by apply propext;exact⟨λzq=>by obtain⟨d,h,a,b,c⟩:=zq;rcases h with h|h<;>cases h;exact⟨a,b,c⟩,λzj=>by obtain⟨a,b,c⟩:=zj;exact⟨e,.inl rfl,a,b,c⟩⟩
end
end L2.Q.R
namespace L2
section
variable {f:cy}{w:c9}{A:fz}{E:ah->aI->Prop}{s:aI}
def Jp{i:Type}[DecidableEq i]{a:HeapKind f w i}{d b:ai}{h:List (i × ai × ah)}{k:i}{r:ah}{Q:ah->aI->Prop}(B:a.room A)(t:a.is s.heap k b)(H:s.heap.DictOfH a d h)(hz:h.length<=bG)(L:∀ p,atKey h k=some p->Q p.2 { s with toks:=s.toks+a.draws k }) (K:atKey h k=none->∀ u,u.DictOfH a d (storedH h k b r)->Heap.SameBut d s.heap u->Q r { s with heap:=u,toks:=s.toks+a.draws k }):bq (aE f w) A (dictSetDefault d (.ref b) r) Q E s:=by
 obtain⟨o,N,M,g,J,c,l,F,n⟩:=H;unfold dictSetDefault;try with_reducible refine zk ?_
 refine ax (a.pyHash B t (ax (wpAny_dictFind_heap B t g c l F n (λv=>?_) λj p D=>?_)))
 ·have z:=atKey_none_of_get v;refine ax (DS (ax (wpAny_updateDictKeys (hz:=by have e:=size_of_entries l;lia) g c (bI (K z _ ?_ (Heap.SameBut.update ..))))));rw[storedH_new z];refine⟨_,_,M+1,HV _ g (Obj.isFreed_of_dict (Obj.data_mapDictKeys c _)),J.mapDictKeys _,Obj.data_mapDictKeys c _,by simp[l,entryOfKey],λx m=>?_,?_⟩
  ·rcases kA.mp m with q|q
   ·exact a.keeps (F x q) g c (Heap.SameBut.update ..)
   ·obtain rfl:=hV.mp q;exact a.keeps t g c (Heap.SameBut.update ..)
  ·rw[kS];refine ui.mpr ⟨n,by simp,λx m y G e=>?_⟩;obtain rfl:y=k:=by simpa using G
   exact not_mem_keys_of_get v (e ▸ m)
 ·refine ax (TH g c ?_);rw[entry_at l j,D];exact ax (DS (bI (L _ (atKey_of_get n D))))
def Er{i:Type}[DecidableEq i](g:HeapKind f w i)(d b:ai)(t:(d == rX)=false)(r:ah) :
  MeetsIn f w (Builtin.«dict.setdefault» ⟨[.ref d,.ref b,r],[]⟩) (λA R s=>g.room A.in1/\∃ k e,g.is s.heap k b/\s.heap.DictOfH g d e/\e.length<=bG /\ (∀ p,atKey e k=some p->R (.ok (.ret p.2)) { s with toks:=s.toks+g.draws k }) /\ (atKey e k=none->∀ h,h.DictOfH g d (storedH e k b r)->Heap.SameBut d s.heap h->R (.ok (.ret r)) { s with heap:=h,toks:=s.toks+g.draws k })) :=
 .of_wp λA R s x=>by obtain⟨m,k,e,n,j,l,v,u⟩:=x;refine ax (ax (wpAny_notOrdered_dict j.typeIs ?_));refine(bI ?_);refine(show bq _ _ (if (d == rX)=true then _ else (dictSetDefault d (Value.ref b) r >>= _)) _ _ s from ?_);rw[if_neg (by rw[t];decide)];exact ax (Jp m n j l (λp q=>bI ⟨p.2,rfl,v p q⟩) λq h a c=>bI ⟨r,rfl,u q h a c⟩)
end
section
variable {X:Cx}{d:List (ai × Obj)}{f:St}{H:Hp}{s:aI}{a b:ai}{A:fz}{E:ah->aI->Prop}
def CG(G:A.units+1<f7)(I:Inv X d f H s)(e:H a=some (.dT o))(x:H b=some (.tup (k.map kV)))(Z:o.length<bG)(B:RelV v r)(N:∀ j n l,gV o k=some j->Inv X d f H l->RelV j n->Q n l) (M:gV o k=none->∀ l,Inv X d f (upd H a (.dT (putK o k v))) l->Q r l) :
  bq (aE X.prog X.w) A (call (.builtin "dict.setdefault") [.ref a,.ref b,r]) Q E s:=by
 obtain⟨z,u,m,h,y⟩:=en' I.bT e;have F:m.length<=bG:=by rw[<- Paired.length h];exact z
 have K:(putK o k v).length<=bG:=by have:=WH o k v;lia
 have g:=h.val k;refine call_meetsIn PySem.F.slot_dict_setdefault y.typeIs PySem.F.entry_dict_setdefault (PySem.F.args_dict_setdefault_3 _ _ _) (Er (Fn (i3 X.prog X.w)) a b u r) ⟨TF G,k,m,M0 I.bT x,y,F,λp D=>?_,λL C W J=>?_⟩
 ·rw[D] at g
  cases i:gV o k with
  |none=>rw[i] at g;exact g.elim
  |some j=>rw[i] at g;exact N j _ _ i (I.tok _) g
 ·have i:gV o k=none:=by
   rw[L] at g
   cases i:gV o k with
   |none=>rfl
   |some j=>rw[i] at g;exact g.elim
  refine M i _ ?_;obtain⟨q,T,V,t,S,R,P,_,O⟩:=W;refine UA I (by rw[e];exact True.intro) J ⟨q,t⟩ ⟨K,u,_,(h.put k x B).keeps λc Y w=>?_,q,T,V,t,S,R,P,O⟩;rw[dr (cW' w e λz=>nomatch z)];exact w
end
def tSd(i g h:TE):TE:=λe H Q=>i e H λx f=>∃ a,x=.ref a/\WQ f a/\g e f λy j=>h e j λz d=>∃ c k b,d a=some (.dT c)/\y=.ref b/\d b=some (.tup (k.map kV))/\c.length<bG /\ (∀ v,gV c k=some v->Q v d)/\(gV c k=none->Q z (upd d a (.dT (putK c k z))))
def Pk {X:Cx} (J:X.A.units+1<f7) (K:PE X o g) (N:PE X e U) (M:PE X f tx) (m:M2 X o "setdefault" C e f fm):PE X (.Call (.Attribute o "setdefault" C) [e,f] [] fm) (tSd g U tx):=by intro c s i H Q I h;refine wpAny_Call_method m.base m.few m.line PySem.F.plainAttrs_dict PySem.F.slot_dict_setdefault PySem.F.type_dict_setdefault (cK (K c s i H _ I h) λu t T=>?_);obtain⟨x,H1,q,A,a,O,d,G⟩:=T;subst O;cases (A);have g:=ev' q d;refine⟨g.1,g.2.1,?_⟩;rw[m.trees];refine Calls.callWith_builtin rfl (Calls.evalArgs_plain (Calls.spliced_cons (cK (N c t i H1 _ q G) λiv r V=>L2.eM V λy H2 Y w F=>Calls.spliced_cons (cK (M c r i H2 _ Y F) λfv s3 zq=>?_))));obtain⟨z,Z,W,p,ae,k,b,S,R,P,L,E,D⟩:=zq;refine Calls.spliced_nil ?_;subst R;cases (w);exact CG J W S P L p (λn w' v j l B=>⟨n,Z,l,B,E n j⟩) λj v l=>⟨z,_,l,p,D j⟩
end L2
namespace L2.Q
section
variable {X:Cx}{K:ay}{a b c:Expr}{I C t:WE}{J F M:Pos}
def onD(x:D)(f:List (Key × D)->Prop)(g:List (List Key × D)->Prop):Prop:=match x with
 |.dK d=>f d
 |.dT d=>g d
 |_=>False
def Vd(y:D)(k:List D->Prop):Prop:=match y with
 |.tup d=>k d
 |_=>False
def KL(o:Option D)(m n:Md)(z:D)(Q:Md->D->Prop):Prop:=match o with
 |some d=>Q (xa m d) d
 |none=>Q n z
def Tj(I C t:WE):WE:=λd Q=>I d λm x=>onD x (λe=>C d λ_ y=>t d λn z=>∃ k,y.key1=some k/\KL (gL e k) m n z Q) (λe=>C d λ_ y=>t d λn z=>Vd y λg=>∃ f,fG g=some f/\KL (gL e f) m n z Q)
def Ei(hx:oC K (Tj I C t) ab H Qv):ew' (oC K I) (oC K C) (oC K t) ab H Qv:=iF hx λHs R A Q S h W=>by
 refine⟨Hs,R,A,_,S,h,λv O Z m x As B r1 f1 q1=>?_⟩
 have V:∀ {o} {d? : Option D} {L f N p} {w} {n} {z} {P},gd Z O N L->gd N L p f->RM K p f n z w P->cR p L P->(match d? with
   |some d=>∃ v,o=some v/\Rep K f d v/\(m=.sh->Rep K p d v)
   |none=>o=none)->KL d? m n z Q->Qv (o.getD w) f:=by
  intro o d? L f N p w n z P j i T Y l q
  cases d? with
  |none=>rw[show o=none from l];exact W w f p n z P ((B.trans j).trans i) T (Y.of (B.trans j).all) q
  |some d =>obtain⟨U,e,u1,u2⟩:=l;rw[e];exact(Fin.after W ((B.trans j).trans i)).xa i.wf u1 u2 q
 have E:∀ G:Hp,bE G O->(∀ f p,gd Z O p f->∀ d v,Rep K G d v->Rep K f d v/\(m=.sh->Rep K p d v))->Rep K G x v->∃ a,v=.ref a/\WQ O a/\oC K C ab O λy L=>oC K t ab L λz f=>∃ o,sQ f a y o/\Qv (o.getD z) f:=by
  intro G sg up r
  cases r with
  |dK kk s q =>
   refine⟨_,rfl,.inl ⟨_,bE.rd sg s⟩,Z,R,A,_,S.grow B,q1,λu L N n y Bs j r2 f2 q2=>⟨N,R,A,_,(S.grow B).grow j,q2,λw f p n3 z P i T Y q3=>?_⟩⟩;have ry:=(r2.grow i).rep i.wf;obtain⟨k,hk,q4⟩:=q3;have ev:=ry.key hk;subst ev;refine⟨_,sQ.k' (bE.rd (j.trans i).all (bE.rd sg s)),V j i T Y ?_ q4⟩;have z:=zip_get (k:=k) q;split
   ·rename_i d e;rw[e] at z;obtain⟨U,e',r'⟩:=z;exact⟨U,e',up _ _ (j.trans i) _ _ r'⟩
   ·rename_i e;rw[e] at z;exact z
  |dT kk s q =>
   refine⟨_,rfl,.inr ⟨_,bE.rd sg s⟩,Z,R,A,_,S.grow B,q1,λu L N n y Bs j r2 f2 q2=>⟨N,R,A,_,(S.grow B).grow j,q2,λw f p n3 z P i T Y q3=>?_⟩⟩;have ry:=(r2.grow i).rep i.wf
   cases ry with
   |tup t2 e2 p2 =>
    obtain⟨k,hk,q4⟩:=q3;obtain⟨b',eb,e3⟩:=Rep.w_ (.tup t2 e2 p2) hk;cases eb;refine⟨_,sQ.t' (bE.rd (j.trans i).all (bE.rd sg s)) e3,V j i T Y ?_ q4⟩;have z:=zip_get (k:=k) q;split
    ·rename_i d e;rw[e] at z;obtain⟨U,e',r'⟩:=z;exact⟨U,e',up _ _ (j.trans i) _ _ r'⟩
    ·rename_i e;rw[e] at z;exact z
   |_=>exact q3.elim
  |_=>exact q1.elim
 rcases r1.here B.wf with⟨hm,r⟩|⟨hm,r⟩
 ·exact E Z B.wf.sub (λf p g d v q=>⟨q.same (B.wf.sub.trans g.all),λ_=>q.same g.sh⟩) r
 ·exact E O (bE.refl O) (λf p g d v q=>⟨q.same g.all,λz=>absurd z hm⟩) r
def Ht (h:QE X K a I) (g:QE X K b C) (f:QE X K c t) (e:M2 X a "get" F b c M:=by exact⟨rfl,rfl,rfl,rfl⟩) (j:autoParam (X.A.units+64<f7) u0):QE X K (.Call (.Attribute a "get" F) [b,c] [] M) (Tj I C t) :=
 PE.imp (lm' (by lia) h g f e) λi H k d=>Ei d
def Ve(d x:D):D:=match d with
 |.list e=>.list (e++[x])
 |d=>d
def oS:List (List Key × D)->List Key->D->List (List Key × D)
 |[],k,x=>[(k,.list [x])]
 |p :: r,k,x=>if p.1=k then (p.1,Ve p.2 x) :: r else p :: oS r k x
def Tn(d:List (List Key × D))(k:List Key):List (List Key × D):=match gL d k with
 |some _=>d
 |none=>d++[(k,.list [])]
def Fl:Option D->Prop
 |none=>True
 |some (.list d)=>d.length<bG
 |_=>False
def Zw(o:Option (Option Sl))(k:List (List Key × D)->Prop):Prop:=match o with
 |some (some (.ow true (.dT d)))=>k d
 |_=>False
def Zx(i:Nat)(h j:WE):WS:=λE d=>Zw d[i]? λf=>h d λ_ y=>Vd y λg=>∃ e,fG g=some e/\f.length<bG/\Fl (gL f e) /\
 j (d.set i (some (.ow true (.dT (Tn f e))))) λ_ x=>x.flat=true/\E.nx (d.set i (some (.ow true (.dT (oS f e x)))))
def bC{d e:Type}[DecidableEq d](p:d × e)(r:List (d × e))(k:d):gL (p :: r) k=if p.1=k then some p.2 else gL r k:=by by_cases h:p.1=k<;>simp[gL,h]
def KD:∀ {g},gL g k=some d->∃ j,(g.map (·.2))[j]? = some d/\(∀ f:List V,f.length=g.length->gV ((g.map (·.1)).zip f) k=f[j]?) /\
  ∀ x,(oS g k x).map (·.1)=g.map (·.1)/\(oS g k x).map (·.2)=(g.map (·.2)).set j (Ve d x)
 |[],h=>by simp[gL] at h
 |p :: g,h=>by
  rw[bC] at h;by_cases e:p.1=k
  ·rw[if_pos e] at h;cases h;refine⟨0,rfl,λf i=>?_,λx=>?_⟩
   ·cases f with
    |nil=>cases i
    |cons v f=>exact Au e
   ·simp[oS,e]
  ·rw[if_neg e] at h;obtain⟨j,n,m,l⟩:=KD h;refine⟨j+1,by simpa using n,λf i=>?_,λx=>?_⟩
   ·cases f with
    |nil=>cases i
    |cons v f =>show gV ((p.1,v) :: (g.map (·.1)).zip f) k=_;rw[AA e,m f (by simpa using i)];rfl
   ·simp[oS,e,l x]
theorem rB:∀ {f:List (List Key × D)},gL f k=none->gL (f++[(k,d)]) k=some d
 |[],_=>by simp[gL]
 |p :: f,h=>by
  rw[bC] at h;by_cases e:p.1=k
  ·rw[if_pos e] at h;cases h
  ·rw[if_neg e] at h;rw[HL,bC,if_neg e,rB h]
theorem vp:∀ {d},gL d k=none->oS (d++[(k,.list [])]) k x=oS d k x
 |[],_=>by simp[oS,Ve]
 |p :: d,h=>by
  rw[bC] at h;by_cases e:p.1=k
  ·rw[if_pos e] at h;cases h
  ·rw[if_neg e] at h;rw[HL,oS,oS,if_neg e,if_neg e,vp h]
def dA.place(f:dA K Hs U o H ab)(e:U[i]? = some (some (.ow fl d))):∃ v,o[i]? = some (some v)/\Place K Hs H o fl d v λl n=>U.set i (some (.ow l n)):=by obtain⟨v,R,N,E,r,p,g⟩:=SR.put i f.sr e f.ti;refine⟨v,N,R,r,E,p.nodup f.ti,λa h=>f.own a (p.subset h),λO P l n L B u G _ D j Q s A=>?_⟩;obtain⟨w,x,y,z⟩:=g O P l n L B D j Q (λa k m=>(s a k).2.elim id λq=>absurd q (f.sr.own a m).ne) λa k m=>A a (f.sr.own a k).ne m;exact⟨w,z,u,x,λa h=>(y a h).elim (λq=>G a (f.own a q) (f.sr.own a q).ne) λq=>(s a q).1⟩
def wO(Q:dA K U af ab H ar)(e1:af[i]? = some (some (.ow true (.dT o))))(hg:gL o ks=some (.list xs)) :
  ∃ a Z c d,ab[i]? = some (some (.ref a))/\H a=some (.dT Z)/\gV Z ks=some (.ref c)/\H c=some (.lst d)/\d.length=xs.length /\
   ∀ x y,x.flat=true->Rep K U x y->d.length<bG->∃ e7,dA K U (af.set i (some (.ow true (.dT (oS o ks x))))) ab (upd H c (.lst (d++[y]))) e7:=by
 obtain⟨v,e2,pl⟩:=Q.place e1;obtain⟨iA,r,ne,nd,f,k⟩:=pl.ex
 cases r with
 |sh Y _=>exact absurd rfl ne
 |@dT u P _ A V e R =>
  obtain⟨S,G⟩:=om.mp nd;obtain⟨j,ej,ev,es⟩:=KD hg;obtain⟨w,B,e3,r3,s,g⟩:=R.at ej G;have hl:P.length=o.length:=by have:=R.length;rw[cx] at this;exact this.symm
  cases r3 with
  |sh Y _=>exact absurd (Y rfl) (by simp[D.flat])
  |@list c d _ B' hz ec W =>
   have O:c∈A:=s.subset eK;refine⟨u,_,c,d,e2,e,(ev P hl).trans e3,ec,W.length.symm,λx y hx rx hw=>?_⟩;have N:u≠c:=λz=>S (z ▸ O);obtain⟨nc,nB⟩:=om.mp (s.nodup G);have r4:df K U (upd H c (.lst (d++[y]))) true (.list (xs++[x])) (.ref c) (c :: B'):=by have:=(W.gE (H':=upd H c (.lst (d++[y]))) (bE.refl _) λb n=>dr λz=>nc (z ▸ n)).append (aH.cons (.sh (λ_=>hx) rx) .nil);rw[ng,ng] at this;exact .list (by rw[kz];exact hw) eT this
   obtain⟨T,n2,y2,_,r5⟩:=g U (upd H c (.lst (d++[y]))) true _ _ (bE.refl _) id r4 (s.nodup G) (λ_ h _=>h) (λb _ E=>dr λz=>E (z ▸ eK));have l:∀ b∈T,b∈A:=λb n=>(y2 b n).elim (λq=>q.1) λq=>s.subset q;obtain⟨L,k2⟩:=es x;have kl:(oS o ks x).length=o.length:=by have:=congrArg List.length L;simpa using this
   refine k U _ true (.dT (oS o ks x)) (u :: T) (bE.refl _) (jQ Q.wf (f c (eI _ O)) λ_ z=>nomatch z) (λ_ h _=>h) id (.dT ⟨by rw[kl];exact V.1,λp hp=>?_⟩ (by rw[dr N,L];exact e) (by rw[k2];exact r5)) (by simp) (om.mpr ⟨λz=>S (l _ z),n2⟩) (λb n=>?_) λb _ E=>dr λz=>E (z ▸ eI _ O)
   ·have:p.1∈o.map (·.1):=L ▸ List.mem_map_of_mem hp;obtain⟨p',jv,e'⟩:=fq.mp this;rw[<- e'];exact V.2 p' jv
   ·have m:b∈u :: A:=(dQ.mp n).elim (λz=>z ▸ eK) λz=>eI _ (l b z);exact⟨f b m,.inl m⟩
def Gu{E:WE}{B H:Hp}{d:Env}{h:St}{e:List ai}{i:Nat}{z:List (List Key × D)}{s:List Key}{xs:List D}{a:ai}{A:List (List Key × V)}{j:V}{R:Env->Prop}{G:Hp->Prop}(n:dA K B d h H e)(o:d[i]? = some (some (.ow true (.dT z))))(N:gL z s=some (.list xs))(hz:xs.length<bG)(g:h[i]? = some (some (.ref a))) (Z:H a=some (.dT A)) (Y:gV A s=some j) (q:E d λ_ x=>x.flat=true/\R (d.set i (some (.ow true (.dT (oS z s x)))))) (k1:∀ H' aC bP dv,bE B aC->dA K aC bP h H' dv->R bP->G H') :
  WB K "list" j H/\Uu (oC K E) MR h H λus H2=>aW' j us H2 λ_ H3=>G H3:=by
 obtain⟨a',f,c,ws,W,T,S,f4,f5,f6⟩:=wO n o N;have v:a'=a:=by rw[W] at g;cases g;rfl
 subst v;have u:f=A:=by rw[T] at Z;cases Z;rfl
 subst u;have w:j=.ref c:=by rw[S] at Y;cases Y;rfl
 subst w;refine⟨.inl ⟨rfl,_,.inl (.inl f4)⟩,B,d,e,_,n,q,λy H2 aS m x Cs k r2 ab p=>?_⟩;obtain⟨L,p⟩:=p;obtain⟨b',r,U,l,Q,P,O,h4,h5,h6⟩:=wO (n.grow k) o N;have v:b'=a':=by rw[W] at Q;cases Q;rfl
 subst v;have u:r=f:=by rw[k.all _ _ T] at P;cases P;rfl
 subst u;have w:U=c:=by rw[S] at O;cases O;rfl
 subst w;obtain⟨e7,g7⟩:=h6 x y L (r2.flat k.wf L) (by lia);exact⟨U,l,y,rfl,rfl,h4,by lia,k1 _ aS _ e7 k.sh g7 p⟩
def set_own{f:Type}{d:List f}{i:Nat}{x:f}(h:d[i]? = some x):d.set i x=d:=by
 apply T2;intro j;rw[List.getElem?_set];split
 ·rename_i e;subst e;have:=(k7.mp h).1;rw[if_pos this,h]
 ·rfl
def Nh {L:Str->Hp->Prop} {i:Nat} {T l S p4 R:Pos} (he:PE X a (kr i)) (O:QE X K b C) (hc:QE X K c t) (hK:autoParam (X.K=K) bv) (hm:M2 X a "setdefault" T b (.List [] l) S:=by exact⟨rfl,rfl,rfl,rfl⟩) (hs:autoParam (nL (.Call (.Attribute (.Call (.Attribute a "setdefault" T) [b,.List [] l] [] S) "append" p4) [c] [] R) none J.line X.env=pure false) bv) (oy:autoParam (t9 (.Call (.Attribute a "setdefault" T) [b,.List [] l] [] S) "append" X.env (dn (.Call (.Attribute a "setdefault" T) [b,.List [] l] [] S) X.env)=dn (.Call (.Attribute a "setdefault" T) [b,.List [] l] [] S) X.env) bv) (sf:autoParam (((ub R (fN [c] X.env)).all (λx=>!x.1) && (zt R (zo [] X.env)).all (λx=>x.1.isSome)
   && decide ([c].length+([]:List qV).length+(if ([]:List qV).isEmpty then 0 else 1)<30))=true) bv)
  (N:autoParam ((p4.endLine == R.line)=true) bv) (oQ:autoParam (aR X c []) bv) (ve:autoParam (bM X R []) bv) (hu:autoParam (X.A.units+64<f7) u0) :
  QS X K L (.Expr (.Call (.Attribute (.Call (.Attribute a "setdefault" T) [b,.List [] l] [] S) "append" p4) [c] [] R) J) (Zx i C t):=by
 subst hK;refine PS.imp (Mb (IJ PySem.F.plainAttrs_list PySem.F.slot_list_append PySem.F.type_list_append Sn (Pk (by lia) he O (bQ (K:=X.K) au) hm) (lP hc og oQ) oy sf N oQ ve) hs) λD a4 H B=>bN B λHs ab Y E Z h k1 k2 k3 k4=>?_;unfold Zx Zw at h;split at h
 ·rename_i j e1;obtain⟨v,e2,pl⟩:=Z.place e1;obtain⟨iA,r,ne,nd,a3,k⟩:=pl.ex;have lv:∀ x∈iA,Hs x=none/\H x≠none:=λx B=>⟨a3 x B,(r.own x B).ne⟩
  cases r with
  |sh hf _=>exact absurd rfl ne
  |@dT W G _ A kk e U =>
   refine⟨_,e2,W,rfl,.inr ⟨_,.inl e⟩,Hs,ab,Y,_,Z,h,λu H2 aS m y Bs g2 r2 f2 q2=>?_⟩;refine⟨aS,ab,Y,λm d=>m=.ow true/\d=.list [],Z.grow g2,⟨gy _,rfl,rfl⟩,λw H3 fo n z Cs g3 r3 f3 q3=>?_⟩;obtain⟨rfl,rfl⟩:=q3;have ry:=(r2.grow g3).rep g3.wf
   cases ry with
   |tup t2 ey l =>
    obtain⟨f,hk,hz,EB,q⟩:=q2;obtain⟨b',eb,e3⟩:=Rep.w_ (.tup t2 ey l) hk;cases eb;have g:=g2.trans g3;have hl:j.length=G.length:=by have:=U.length;rwa[cx] at this
    have af:=Z.grow g;have o:=zip_get (k:=f) (U.reps Z.wf.sub λ_ _=>rfl);refine⟨_,f,_,g.all _ _ e,rfl,e3,by rw[T4,cx,<- hl,T9];exact hz,λv' P=>?_,λP=>?_⟩
    ·cases s:gL j f with
     |none=>rw[s] at o;rw[o] at P;cases P
     |some d =>
      rw[s] at EB
      cases d with
      |list xs =>rw[show Tn j f=j by unfold Tn;rw[s],set_own e1] at q;exact Gu af e1 s EB e2 (g.all _ _ e) P q λH' aC bP dv s1 s2 q'=>k1 a4 H' aC bP dv (g.sh.trans s1) s2 q'
      |_=>exact EB.elim
    ·have s:gL j f=none:=by
      cases s:gL j f with
      |none=>rfl
      |some d=>rw[s] at o;obtain⟨v',z,_⟩:=o;rw[z] at P;cases P
     rw[show Tn j f=j++[(f,.list [])] by unfold Tn;rw[s]] at q;obtain⟨r3,_⟩:=r3
     cases r3 with
     |sh hf _=>exact absurd (hf rfl) (by simp[Q.D.flat])
     |@list c ws _ B' hw ec i7 =>
      cases i7;obtain⟨na,nA⟩:=om.mp nd;have fc:=f3.2 c eK;have Zy:H c=none:=g2.all.free fc.2;have cA:∀ b∈W :: A,b≠c:=λb O z=>by
       subst z;rcases dQ.mp O with rfl|O
       ·rw[e] at Zy;cases Zy
       ·exact(U.own _ O).ne Zy
      have ek:putK ((j.map (·.1)).zip G) f (V.ref c)=((j++[(f,Q.D.list [])]).map (·.1)).zip (G++[V.ref c]):=by have:=Uy f ((j.map (·.1)).zip G);rw[P] at this;unfold putK;rw[this,if_neg (by decide),kS,List.zip_append (by rw[cx];exact hl)];rfl
      obtain⟨kl,ko⟩:=uP l hk;have l1:=l.length;have aw:=U.grow g.sh g.all;have ar:aH X.K fo (upd H3 W (.dT (((j++[(f,Q.D.list [])]).map (·.1)).zip (G++[V.ref c])))) true ((j++[(f,Q.D.list [])]).map (·.2)) (G++[V.ref c]) (A++[c]):=by have q1:=aw.gE (H':=upd H3 W (.dT (((j++[(f,Q.D.list [])]).map (·.1)).zip (G++[V.ref c])))) (bE.refl _) λb O=>dr λz=>na (z ▸ O);have q2:=q1.append (aH.cons (df.list hw ((dr λz=>cA W eK z.symm).trans ec) .nil) .nil);rw[show(j++[(f,Q.D.list [])]).map (·.2)=j.map (·.2)++[Q.D.list []] by simp];exact q2
      obtain⟨e7,g7⟩:=k.node g lv (λ_ z=>by cases z) id (.dT ⟨by rw[kz];exact hz,λp hp=>(kA.mp hp).elim (kk.2 p) λz=>by
        obtain rfl:p=(f,.list []):=by simpa using z
        exact⟨by show f.length<=_;lia,ko⟩⟩ eT ar)
       (ui.mpr ⟨nA,by simp,λx B y hy z=>cA x (eI _ B) (by rw[z];simpa using hy)⟩) (λz=>(kA.mp z).elim na λz=>cA W eK (by simpa using z))
       (λx B=>(kA.mp B).imp id λz=>by
        obtain rfl:x=c:=by simpa using z
        exact⟨fc.1,Zy⟩)
      rw[ek];have hi:i<ab.length:=(k7.mp e1).1;refine Gu (xs:=[]) g7 (by simp[hi]) (rB s) (by rw[kQ];decide) e2 eT (by rw[<- ek,kS',if_pos rfl]) ?_ λH' aC bP dv s1 s2 q'=>k1 a4 H' aC bP dv (g.sh.trans s1) s2 q';simp only[List.set_set,vp s];exact q
   |_=>exact q2.elim
 ·exact h.elim
end
end L2.Q
namespace L2
end L2
namespace L2.Q
end L2.Q
namespace L2.Q.R
section
variable {a:Env}{E:gC}{c e d h:WE}{m:Md}{x y:L2.Q.D}{b:List L2.Q.D}{Q:Md->L2.Q.D->Prop}{i k:Nat}
def Sy:Tj c e d a Q=c a λm x=>de x (f:=λx=>onD x (λg=>e a λ_ y=>d a λn z=>∃ k,y.key1=some k/\KL (gL g k) m n z Q) (λg=>e a λ_ y=>d a λn z=>de y (f:=λy=>Vd y λb=>∃ j,fG b=some j/\KL (gL g j) m n z Q) ⟨⟩)) ⟨⟩:=rfl
def RX:onD (.dT o) f g=g o:=rfl
def Ss{k:List L2.Q.D->Prop}:Vd (.tup b) k=k b:=rfl
def ow':Zx i h c E a=de a[i]? (f:=λo=>Zw o λj=>h a λ_ y=>de y (f:=λy=>Vd y λb=>∃ g,fG b=some g/\j.length<bG/\Fl (gL j g) /\
 c (a.set i (some (.ow true (.dT (Tn j g))))) λ_ x=>x.flat=true/\E.nx (a.set i (some (.ow true (.dT (oS j g x)))))) ⟨⟩) ⟨⟩:=rfl
def RK{f:List (List Key × L2.Q.D)}{k:List (List Key × L2.Q.D)->Prop}:Zw (some (some (.ow true (.dT f)))) k=k f:=rfl
end
end L2.Q.R
namespace L2
section
def sU'{a:Type}(b:List a)(k:Nat)(y:a):List a:=b.take k++y :: b.drop k
end
end L2
namespace L2.Q
section
variable {X:Cx}{K:ay}{L:Str->Hp->Prop}{e c j:Expr}{p:WP}{i:WE}{b f g:Pos}
def Az:mN "int" = some (.type "int"):=by decide +kernel
def co'(p:WP)(i:WE):WS:=λE h=>p h λn d l=>match d with
 |.list k=>i h λm y=>m=.ow true/\match y with
  |.list a=>eh a=true/\k.length+a.length<=bG/\E.nx (l n (.list (k++a)))
  |_=>False
 |_=>False
def KZ (ho:QP X K e p) (he:QE X K c i) (hK:autoParam (X.K=K) bv) (U:autoParam (nL (.Call (.Attribute e "extend" b) [c] [] f) none g.line X.env=pure false) bv) (Y:autoParam (t9 e "extend" X.env (dn e X.env)=dn e X.env) bv) (T:autoParam (((ub f (fN [c] X.env)).all (λx=>!x.1) && (zt f (zo [] X.env)).all (λx=>x.1.isSome)
   && decide ([c].length+([]:List qV).length+(if ([]:List qV).isEmpty then 0 else 1)<30))=true) bv)
  (l:autoParam ((b.endLine == f.line)=true) bv) (N:autoParam (aR X c []) bv) (S:autoParam (bM X f []) bv) :
  QS X K L (.Expr (.Call (.Attribute e "extend" b) [c] [] f) g) (co' p i):=by
 subst hK;refine PS.imp (Mb (IJ PySem.F.plainAttrs_list PySem.F.slot_list_extend PySem.F.type_list_extend kN' ho (lP he og N) Y T l N S) U) λD ae H u=>bN u λHs z q E F h I k2 k3 k4=>?_;refine⟨Hs,z,q,_,F,h,λv H1 aT fl d up w M J=>?_⟩
 cases d with
 |list Q =>
  obtain⟨a1,R,e1,V⟩:=M.isL w.wf;refine⟨by subst e1;exact .inl ⟨rfl,_,V⟩,aT,z,q,_,F.grow w,J,λy H2 aS m x As s W f2 n=>?_⟩;obtain⟨rfl,n⟩:=n;obtain⟨a,B,A,ea,c,ab,G,o,hn,k⟩:=M.put s;obtain⟨r,Z⟩:=W
  cases r with
  |sh _ _=>exact absurd rfl Z
  |list hz j P =>obtain⟨O,hl,n⟩:=n;obtain⟨C,t⟩:=om.mp o;have l1:=G.length;have l2:=P.length;refine⟨a,_,B,_,ea,rfl,c,j,by lia,?_⟩;obtain⟨e7,g7⟩:=k fl (Q++_) (B++_) (A++[]) id (G.append (b9.owned ((P.reps s.wf.sub λ_ _=>rfl).fY s.wf.kU O) O)) (by rw[kz];lia) (by simpa using t) (by simpa using C) (λx u=>.inl (by simpa using u));exact I _ _ aS _ e7 (w.sh.trans s.sh) g7 n
  |_=>exact n.elim
 |_=>exact J.elim
end
end L2.Q
namespace L2.Q.R
section
variable {c:Env}{E:gC}{e:WE}{m:Md}{Q:Md->L2.Q.D->Prop}{p:WP}{a b:List L2.Q.D}{k:List L2.Q.D->Prop}
def Tp(d:L2.Q.D)(k:List L2.Q.D->Prop):Prop:=match d with
 |.list a=>k a
 |_=>False
def R5:Tp (.list a) k=k a:=rfl
def SN:co' p e E c=p c λh d g=>de d (f:=λd=>Tp d λa=>e c λm y=>m=.ow true/\de y (f:=λy=>Tp y λb=>eh b=true/\a.length+b.length<=bG/\E.nx (g h (.list (a++b)))) ⟨⟩) ⟨⟩:=rfl
def Qn:KL (some d) m n z Q=Q (xa m d) d:=rfl
def QX:KL none m n z Q=Q n z:=rfl
end
end L2.Q.R
namespace L2
section
variable {X:Cx}{f:Expr}
def Itv(K:ay)(a:ai)(n:Nat):It :=
 ⟨λi H=>i<n/\∃ b,eP K H a b/\b.length=n,λi H x c=>c=H/\∀ b,eP K H a b->b.length=n->b[n-1-i]? = some x,λi _=>i=n⟩
def Dr{P:cy}{K:ay}(a l:ai)(n:Nat):Turn P w K f (Itv K a n) [l] l (λi h=>h.IsRevIter l a ((n:Int)-1-(i:Int))) where
 mem:=by simp
 obj:=λi h g b m=>by
  have e:b=l:=by simpa using m
  subst e;obtain⟨o,e,c,d⟩:=g;exact⟨o,e,λv z=>by rw[d] at z;cases z⟩
 keep:=λi h r g k=>g.at λo e=>k l (by simp) o e
 item:=by
  intro X A t B T i j s O H E I q g y;subst A t B;obtain⟨hi,Q,S,hl⟩:=y;obtain⟨Z,W,p,hz⟩:=I.list S;have R:Q[n-1-i]? = some (Q[n-1-i]'(by lia)):=rh _;obtain⟨u,U,Y⟩:=W.get R;obtain⟨L,J,f2,G,F,D⟩:=q l (by simp);have M:(n:Int)-1-(i:Int)=((n-1-i:Nat):Int):=by lia
  rw[M] at g;refine wpAny_pyNext_rev_item g p.isList (x:=u) (by simpa using U) λr N V=>?_;have e2:((n-1-i:Nat):Int)-1=(n:Int)-1-((i+1:Nat):Int):=by lia
  rw[e2] at N;have I1:Inv X j O H { s with heap:=r }:=I.turned (t':=s.toks) (λb o m e=>(V.2 b m).trans e) L J G F D;obtain⟨o,e,c,d⟩:=id N;exact⟨u,rfl,Se (s:={ s with heap:=r }) e c d (by decide) ⟨_,H,I1,Y,⟨rfl,λys C _=>by rw[I.az' C S];exact R⟩,N,λb m=>(q b m).1⟩⟩
 done:=by
  intro X A t B T i j s O H E I q g y;subst A t B;obtain⟨L,J,f2,G,F,D⟩:=q l (by simp);have M:(n:Int)-1-(i:Int) = -1:=by have:i=n:=y;lia
  rw[M] at g;exact wpAny_pyNext_rev_end (I.ok.hd T) g λr eb=>⟨rfl,I.turned (t':=s.toks) (λb o m e=>eb b o m e) L J G F D⟩
 self:=λ_ _ _ _ _ g h=>wpAny_pyIter_revIter g h
def ox'(K:ay)(g:TA):TI:=λd H R=>g d H λe c=>∃ a b,e=[.ref a]/\eP K c a b/\R (Itv K a b.length) c
def Ln:mN "reversed" = some (.type "reversed"):=by decide +kernel
def Kr (z:Gl X "reversed") (y:X.mg "reversed" = none) (B:PA X [a] U) (w:autoParam (fN [a] X.env=[(false,dn a X.env)]) bv) :
  PI X f (.Call (.Name "reversed" p) [a] [] C) (ox' X.K U):=by
 intro c s k H R I h;refine Call_ (B7 I z y Ln (PyProof.Rows.callWith_type1 (cK (B C c s k H _ I h) λJ g E=>L2.eM E λG F d t u=>?_) w rfl));obtain⟨l,j,e,x,q⟩:=u;subst e
 cases t with
 |cons r n =>
  cases n;cases r;obtain⟨i,m,v,K⟩:=d.list x;have L:=m.length;have D:i.toArray.size-1=j.length-1-(0:Int):=by simp;lia
  refine call_reversed_list v.isList ?_;rw[D];refine wpAny_pyIter_revIter ⟨_,jI _ rfl,rfl,rfl⟩ ?_;refine⟨g.heap.objs.size,[g.heap.objs.size],_,_,F,rfl,d.kept λb o e=>eS _ e,Dr l _ j.length,⟨_,jI _ rfl,rfl,rfl⟩,λb A=>?_,q⟩;have e:b=g.heap.objs.size:=by simpa using A
  subst e;exact d.IB (cE _) (d.bT.fresh (cE _))
def Ig(K:ay)(a:ai)(b:List V):fD (Itv K a b.length) b.reverse (λH=>eP K H a b) where
 go:=λi H h c=>⟨by simpa using c,b,h,rfl⟩
 pT:=λi H x d h c y=>by refine⟨y.1,?_⟩;rw[List.getElem?_reverse (by simpa using c)];exact y.2 b h rfl
 stop:=λH h=>vE
end
end L2
namespace L2.Q
section
variable {X:Cx}{K:ay}{e:Expr}{a:WE}{b p:Pos}{c:Expr}
def Jc(a:WE):WI:=λf Q=>a f λm d=>pW m/\match d with
 |.list g=>Q g.reverse
 |_=>False
def Ml (y:X.mg "reversed" = none) (B:QE X K e a) (D:autoParam (X.K=K) bv) (A:Gl X "reversed" := by rfl) (x:autoParam (aR X e []) bv) (G:autoParam (fN [e] X.env=[(false,dn e X.env)]) bv) :
  QI X K c (.Call (.Name "reversed" p) [e] [] b) (Jc a):=by
 subst D;refine PI.imp (Kr A y (lP B og x) G) λN H R w=>iF w λL l g Q n h k=>⟨L,l,g,_,n,h,λv M O m d S E t F f=>?_⟩
 obtain⟨u,f⟩:=f;obtain⟨J,j,r⟩:=t.tX E F u
 cases r with
 |list z s i=>exact⟨_,_,rfl,bE.seq j.wf.sub s,k _ M J _ j (.seq i.rev (fD.imp (Ig X.K _ _) λP q=>bE.seq q s)) (by rw[vE,i.length];exact z) f⟩
 |_=>exact f.elim
end
end L2.Q
namespace L2.Q.R
section
variable {a:Env}{b:WE}{Q:List L2.Q.D->Prop}
def Qc:Jc b a Q=b a λm d=>pW m/\de d (f:=λd=>Tp d λc=>Q c.reverse) ⟨⟩:=rfl
end
end L2.Q.R
namespace L2
open PySem.SeqAt
end L2
namespace L2.Q
open PySem.SeqAt
end L2.Q
namespace L2.Q.R
open PySem.SeqAt
end L2.Q.R
namespace L2
open PySem.SeqAt
end L2
namespace L2.Q
open PySem.SeqAt
end L2.Q
namespace L2.Q.R
open PySem.SeqAt
end L2.Q.R
namespace L2
end L2
namespace L2.Q
section
variable {K:ay}
def yg(m:Md)(d:D):Prop:=d.flat=true\/m=.sh
def fQ(g:WG)(e:WT)(c:WE):List D->Env->(List D->Prop)->Prop
 |[],_,k=>k []
 |x :: h,i,k=>g x i λa=>e a λb=>if b=true then c a λm d=>yg m d/\fQ g e c h a (λf=>k (d :: f)) else fQ g e c h a k
def uO(c:WI)(g:WG)(f:WT)(e:WE)(d:Nat)(h:List Nat):WE:=λb Q=>c b λi=>fQ g f e i (xY d h b) λa=>Q .bo (.list a)
structure kI(K:ay)(H1:Hp)(b:ai)(acc:List D)(ys:List V)(As:List ai)(Hs:Hp)(ρ:Env)(τ:St)(H:Hp):Prop where
 sm:bE H1 Hs
 sr:dA K Hs ρ τ H []
 eD:H b=some (.lst ys)
 nD:Hs b=none
 ra:aH K Hs H false acc ys As
 nd:(b :: As).Nodup
 own:∀ a∈As,Hs a=none
def kI.grow{k:Hp}{b:ai}{d:List D}{h:List V}{l:List ai}{Hs H j H':Hp}{f:Env}{e:St}(c:kI K k b d h l Hs f e H)(g:gd Hs H j H'):kI K k b d h l j f e H' :=
 ⟨c.sm.trans g.sh,c.sr.grow g,g.all _ _ c.eD,g.sR c.nD (by rw[c.eD];exact λz=>nomatch z),c.ra.grow g.sh g.all,c.nd,λa i=>g.sR (c.own a i) (c.ra.own a i).ne⟩
def kI.push{w:Hp}{b:ai}{g:List D}{l:List V}{n k:List ai}{i H:Hp}{q:Env}{p:St}{m:Md}{d:D}{v:V}(c:kI K w b g l n i q p H)(r:RM K i H m d v k)(E:yg m d)(F:k.Nodup)(N:∀ a∈k,i a=none/\a∉b :: n):∃ J,kI K w b (g++[d]) (l++[v]) J i q p (upd H b (.lst (l++[v]))):=by
 obtain⟨B,s,A⟩:∃ B,B.Sublist k/\df K i H false d v B:=by
  rcases E with u|rfl
  ·exact⟨[],HM _,.sh (λ_=>u) (r.flat c.sr.wf u)⟩
  ·exact⟨[],HM _,.sh (λz=>nomatch z) r.2⟩
 obtain⟨t,G⟩:=om.mp c.nd;have j:=λa f=>N a (s.subset f);refine⟨n++(B++[]),c.sm,⟨c.sr.sr.heap,jQ c.sr.wf c.nD (λ_ z=>nomatch z),oo,λa h=>nomatch h⟩,eT,c.nD,(c.ra.gE (bE.refl _) λa f=>dr λz=>t (by subst z;exact f)).append (.cons (A.gE (bE.refl _) λa f=>dr λz=>(j a f).2 (by subst z;exact eK)) .nil),?_,?_⟩
 ·rw[ng];refine om.mpr ⟨λm=>(kA.mp m).elim t λm=>(j b m).2 eK,ui.mpr ⟨G,s.nodup F,λx M y L e=>(j y L).2 (e ▸ eI _ M)⟩⟩
 ·rw[ng];exact λa f=>(kA.mp f).elim (c.own a) λm=>(j a m).1
def wX{wi:WI}{g:WG}{N:WT}{M:WE}{L:Nat}{O:List Nat}{I:St}{H:Hp}{Qv:VK}(h:oC K (uO wi g N M L O) I H Qv):zN (bV' K wi) (tpG K g) (EJ K N) (oC K M) L O I H Qv:=by
 obtain⟨Hs,ar,U,Q,sr,h,f⟩:=h;refine⟨Hs,ar,U,_,sr,h,λJ q aT l V S hz q1 b hb=>?_⟩;have st:kI K q b [] [] [] q (xY L O ar) (pI L O I) (upd q b (.lst [])):=by
  refine⟨bE.refl _,⟨lA (jr (G:=q) (sr.grow V) _ O) L,⟨(bE.refl q).upd hb,λa xs e=>?_⟩,oo,λa h=>nomatch h⟩,eT,hb,.nil,by simp,λa h=>nomatch h⟩;by_cases s:a=b
  ·subst s;rw[eT] at e;cases e
  ·rw[dr s] at e;exact e
 refine⟨λi m af B=>m=l.length-i/\i<=l.length/\∃ E W j r D,kI K q b j r D E W af B/\j.length<=i/\fQ g N M (l.drop i) W (λn=>Q .bo (.list (j++n))), ⟨l.length,by simp,gy _,q,_,[],[],[],st,cE _,by simpa using q1⟩,?_⟩
 rintro i m af B ⟨rfl,hi,E,W,j,r,D,c,la,u⟩;by_cases R:i<l.length
 ·refine .inr ⟨S.go i E B c.sm c.sr.wf R,
   λF v H4=>∃ o p d,kI K q b j r D o p F H4/\(∃ P,kI K q b (j++[d]) (r++[v]) P o p F (upd H4 b (.lst (r++[v]))))/\fQ g N M (l.drop (i+1)) p (λn=>Q .bo (.list (j++d :: n))),
   λF T=>∃ w Z,kI K q b j r D w Z F T/\fQ g N M (l.drop (i+1)) Z (λn=>Q .bo (.list (j++n))),?_,?_,?_⟩
  ·rintro F v H4 ⟨o,p,d,Y,⟨P,A⟩,q4⟩;have ab:=Y.ra.length;exact⟨r,l.length-(i+1),Y.eD,by lia,by lia,rfl,R,o,p,j++[d],r++[v],P,A,by rw[kz];simpa using la,by simpa using q4⟩
  ·rintro F T ⟨w,Z,t,q3⟩;exact⟨l.length-(i+1),by lia,rfl,R,w,Z,j,r,D,t,by lia,q3⟩
  ·intro x T y;obtain⟨w,g3,rd⟩:=S.pT i E B x T l[i] c.sm c.sr.wf (by simp[R]) y;rw[B3 R] at u;have t:=c.grow g3;refine⟨w,W,[],l[i],_,t.sr,rd,u,λC p U4 N3 m4 q4=>?_⟩;have t4:U4=[]:=xdP.mpr λa s=>nomatch m4 a s;subst t4;have Y:kI K q b j r D w p C T:=⟨t.sm,N3,t.eD,t.nD,t.ra,t.nd,t.own⟩
   refine⟨w,p,[],_,N3,q4,λk H5 qB g5 q5=>?_⟩;have A:=Y.grow g5
   cases k with
   |false=>exact⟨qB,p,A,q5⟩
   |true =>
    refine⟨qB,p,[],_,A.sr,q5,λv H6 ae m6 d6 aw g6 r6 X q6=>?_⟩;have c6:=A.grow g6;refine⟨ae,p,d6,c6,c6.push r6 q6.1 X.1 λa s=>⟨(X.2 a s).1,λm=>?_⟩,q6.2⟩;rcases dQ.mp m with rfl|m
    ·have:=(X.2 _ s).2;rw[A.eD] at this;cases this
    ·exact(A.ra.own a m).ne (X.2 a s).2
 ·have e:i=l.length:=by lia
  subst e;refine .inl ⟨S.stop E B c.sm c.sr.wf,?_⟩;rw[P5] at u;have u:Q .bo (.list (j++[])):=u;rw[ng] at u;have ab:=c.ra.length;have rm:RM K E B (.ow false) (.list j) (.ref b) (b :: D):=⟨.list (by lia) c.eD c.ra,by simp⟩
  obtain⟨P,r',fr⟩:=pA V.wf c.sm c.sr.wf rm c.nd λa s=>(dQ.mp s).elim (λz=>z ▸ c.nD) (c.own a);exact Fin.after f V (.ref b) B _ .bo (.list j) P (gj V.wf c.sm c.sr.wf) r' fr u
end
def mH{g:WG}{t:WT}{s:WE}(p:D->Bool)(f:D->D)(i:Env->Prop):∀ e c k,i c -> (∀ x∈e,∀ c,i c->∀ v:Env->Prop,∀ u:Env->D->Prop,(∀ a,i a->p x=false->v a)->(∀ a,i a->p x=true->u a (f x))->g x c λj=>t j λb=>if b=true then s j λm d=>yg m d/\u j d else v j) ->
  k ((e.filter p).map f)->fQ g t s e c k
 |[],_,k,_,_,h=>h
 |x :: e,c,k,w,n,h=>by
  refine n x eK c w _ _ (λa r q=>?_) (λa r q=>?_)
  ·exact mH p f i e a k r (λy l=>n y (eI _ l)) (by simpa[q] using h)
  ·exact mH p f i e a _ r (λy l=>n y (eI _ l)) (by simpa[q] using h)
end L2.Q
namespace L2.Q.R
def NK{a:L2.Q.Env}{Q:Md->L2.Q.D->Prop}{d:WT}{f:WE}{c:WI}{g:WG}{e:Nat}{h:List Nat}:uO c g d f e h a Q=c a λi=>fQ g d f i (xY e h a) λb=>Q .bo (.list b):=rfl
end L2.Q.R
namespace L2.Q
def gl'(o:Option Sl):Bool:=match o with
 |none=>true
 |some (.sh _)=>true
 |_=>false
def iQ(a:Env):Bool:=a.all gl'
section
variable {K:ay}{a:WE}
def SR.iQ{i H f j:Hp}{b:Env}{d:St}{c:List ai}(s:SR K i H b d c)(h:iQ b=true)(g:bE i f):SR K f j b d []:=by
 induction s with
 |nil=>exact .nil
 |cons q _ e =>
  simp only[L2.Q.iQ,D2,mn] at h
  cases q with
  |non=>exact .non (e h.2)
  |sh r=>exact .sh (r.same g) (e h.2)
  |_=>simp[gl'] at h
def dA.iQ{e H:Hp}{b:Env}{d:St}{c:List ai}(s:dA K e b d H c)(h:iQ b=true):dA K H b d H [] :=
 ⟨s.sr.iQ h s.wf.sub,⟨λ_ _ z=>z,λ_ _ z=>z⟩,oo,λ_ m=>nomatch m⟩
def G8(i:Nat)(a:WE):WS:=λE b=>a b λ_ d=>iQ b=true/\E.nx (b.set i (some (.sh d)))
end
end L2.Q
namespace L2.Q.R
def QC{b:WE}{i:Nat}{E:gC}{a:L2.Q.Env}:G8 i b E a=b a λ_ d=>de d (f:=λd=>iQ a=true/\E.nx (a.set i (some (.sh d)))) ⟨⟩:=rfl
def Oz{a:L2.Q.Env}:iQ (none :: a)=iQ a:=rfl
def Ng{d:L2.Q.D}{a:L2.Q.Env}:iQ (some (.sh d) :: a)=iQ a:=rfl
def Nk:iQ []=true:=rfl
end L2.Q.R
namespace L2
open PySem.Calls
end L2
end
namespace PySem
open Sem (wp)
open Builtin Builtin.Str
def Bt{b:cy}{w:c9}{A:fz}{E:ah->aI->Prop}{s:aI}{x y:Str}{t u:Tok}{Q:ah->aI->Prop}(f:(y.length == 0)=false)(g:x.length<=bG)(d:(partsBetween x (occurrences x y 0 x.length (x.length+1)) y.length).length<=bG)(e:∀ l k,l.map (·.1)=Txt.split x y->Q (.ref s.heap.objs.size) { s with heap:=s.heap.push { cls:=.type "list",data:=.seq (strValues l).toArray },toks:=k }) :
  bq (aE b w) A (call (.builtin "str.split") [.str x t,.str y u]) Q E s:=by
 cases a:(decide (x.length<y.length) || decide (Builtin.Str.strKind x<Builtin.Str.strKind y))
 ·cases c:(occurrences x y 0 x.length (x.length+1)).isEmpty
  ·refine call_meets F.slot_str_split (Fm _ _ _) F.entry_str_split (F.args_str_split_2 _ _) (meets_str_split_sep x y t u a f c g d) ?_;show wants Q E _ { s with toks:=_,heap:=s.heap.push { cls:=.type "list",data:=.seq (strsFrom s.toks (partsBetween x (occurrences x y 0 x.length (x.length+1)) y.length)).toArray } };rw[strsFrom_eq];exact e (numbered s.toks _) _ ((numbered_texts _ _).trans ((if_neg (ne_true_of_eq_false a)).trans (if_neg (ne_true_of_eq_false c))).symm)
  ·exact call_meets F.slot_str_split (Fm _ _ _) F.entry_str_split (F.args_str_split_2 _ _) (meets_str_split_not_found x y t u a f c) (e [(x,t)] s.toks ((if_neg (ne_true_of_eq_false a)).trans (if_pos c)).symm)
 ·exact call_meets F.slot_str_split (Fm _ _ _) F.entry_str_split (F.args_str_split_2 _ _) (meets_str_split_cannot_occur x y t u a) (e [(x,t)] s.toks (if_pos a).symm)
end PySem
namespace PySem
open Builtin Builtin.Str StrLaws
theorem q_(x y:Str)(b:Nat)(g:1<=y.length):∀ (c:List Nat) (a f:Nat),ChainG x y b a c f->c=[]\/c.length+a<=b
 |[],_,_,_=>.inl rfl
 |d :: r,a,f,h=>by
  have j:=h.1;have i:=h.2.1.1;rcases q_ x y b g r _ f h.2.2.2 with e|e
  ·subst e;right;simp;lia
  ·right;simp only[gi];lia
theorem rO(x:Str)(w:Nat):∀ (b:List Nat) (a:Nat),(partsFrom x w a b).length=b.length+1
 |[],_=>rfl
 |d :: r,a=>by show(partsFrom x w _ r).length+1=_;rw[rO x w r];rfl
def mU(x y:Str)(a:1<=y.length):(partsBetween x (occurrences x y 0 x.length (x.length+1)) y.length).length<=x.length+1:=by
 obtain⟨f,b,_⟩:=occ_tight x y a;rw[partsBetween_eq,rO];rcases q_ x y x.length a _ 0 f b with e|e
 ·rw[e];simp
 ·lia
def sJ(x y:Str)(a:1<=y.length):(Txt.split x y).length<=x.length+1:=by
 unfold Txt.split;split
 ·simp
 ·split
  ·simp
  ·exact mU x y a
end PySem
section
open PySem PySem.Spec PyProof.Rows
namespace L2
open PySem.Calls
section
variable {X:Cx}
theorem qZ:∀ l:List (Str × Tok),Vals ((l.map (·.1)).map V.str) (PySem.strValues l)
 |[]=>.nil
 |p :: l=>.cons ⟨p.2,rfl⟩ (qZ l)
def DG:Wx X "str.split" (λx e H Q=>∃ z y,x=.str z/\e=[.str y]/\1<=y.length/\z.length<=1000000/\∀ p,H p=none->Q (.ref p) (upd H p (.lst ((Txt.split z y).map V.str)))):=by intro a s n H x r v w Q I f g h;obtain⟨z,y,rfl,rfl,b,j,q⟩:=h;obtain⟨t,rfl⟩:=f;obtain⟨u,rfl,i⟩:=Vals.one g;obtain⟨t',rfl⟩:=i;have m:=mU z y b;refine Bt (beq_eq_false_iff_ne.mpr (by lia)) (kD j (by decide)) (kD m (by rw[kQ];lia)) λl k c=>?_;have d:=I.WC (t':=k) (qZ l) (by rw[cx,c];exact kD (sJ z y b) (by rw[kQ];lia));rw[c] at d;exact⟨.ref _,_,d,rfl,q _ I.fresh⟩
end
end L2
namespace L2.Q
theorem sX:∀ {a:List Str},p∈a->p.length<=(Str.join y a).length
 |[],h=>nomatch h
 |[x],h=>by rw[hV.mp h];exact cE _
 |x :: z :: r,h=>by
  show _<=(x++y++Str.join y (z :: r)).length;rw[aL,aL];rcases dQ.mp h with rfl|h
  ·lia
  ·have:=sX (y:=y) h;lia
def xf(h:p∈Txt.split x y):p.length<=x.length:=by have:=sX (y:=y) h;rwa[StrLaws.join_split] at this
theorem qL{K:ay}:∀ {l:List Str},(∀ x∈l,x.length<=bG)->b9 K H (l.map .str) (l.map V.str)
 |[],_=>.nil
 |x :: l,h=>.cons (.str (h x eK)) (qL λy a=>h y (eI _ a))
theorem nY:∀ l:List Str,eh (l.map D.str)=true
 |[]=>rfl
 |x :: l=>by simp[eh,nY l,D.flat]
def Bb(b c:WE):WE:=λa Q=>b a λ_ x=>match x with
 |.str z=>c a λ_ y=>match y with
  |.str s=>1<=s.length/\z.length<=1000000/\Q (.ow true) (.list ((Txt.split z s).map .str))
  |_=>False
 |_=>False
section
variable {X:Cx}{K:ay}{o e:Expr}{c d:WE}{a b:Pos}
def JN (N:QE X K o c) (O:QE X K e d) (F:autoParam (t9 o "split" X.env (dn o X.env)=dn o X.env) bv) (A:autoParam (((ub b (fN [e] X.env)).all (λx=>!x.1) && (zt b (zo [] X.env)).all (λx=>x.1.isSome) && decide ([e].length+([]:List qV).length+(if ([]:List qV).isEmpty then 0 else 1)<30))=true) bv) (g:autoParam ((a.endLine == b.line)=true) bv) (u:autoParam (aR X e []) bv) (z:autoParam (bM X b []) bv) :
  QE X K (.Call (.Attribute o "split" a) [e] [] b) (Bb c d):=by
 refine PE.imp (IJ PySem.F.plainAttrs_str PySem.F.slot_str_split PySem.F.type_str_split DG N (lP O og u) F A g u z) λT H U L=>iF L λS l i Q n h f=>?_;refine⟨S,l,i,_,n,h,λv H1 R m x As k E C t=>?_⟩;have r:=E.rep k.wf
 cases r with
 |str J =>
  refine⟨rfl,R,l,i,_,n.grow k,t,λy H2 I W V Y j D Z s=>?_⟩;have B:=D.rep j.wf
  cases B with
  |str G =>
   obtain⟨w,P,q⟩:=s;refine⟨_,_,rfl,rfl,w,P,Fin.lst (Fin.after f (k.trans j)) j.wf ?_ (qL λp M=>?_) (nY _) q⟩
   ·rw[cx];exact kD (sJ _ _ w) (by rw[kQ];lia)
   ·exact kD (xf M) J
  |_=>exact s.elim
 |_=>exact t.elim
end
end L2.Q
namespace L2.Q.R
section
variable {a:L2.Q.Env}{b c:WE}{Q:Md->L2.Q.D->Prop}
def Pr:Bb b c a Q=b a λ_ x=>de x (f:=λx=>Oy x λz=>c a λ_ y=>de y (f:=λy=>Oy y λs=>1<=s.length/\z.length<=1000000/\Q (.ow true) (.list ((Txt.split z s).map .str))) ⟨⟩) ⟨⟩:=rfl
end
end L2.Q.R
namespace L2.Q
open PySem.StrLaws PySem.Builtin.Str
def d7{c:Nat}{x r:List Nat}(h:c∉x):(x++c :: r).takeWhile (· != c)=x/\(x++c :: r).dropWhile (· != c)=c :: r:=by
 induction x with
 |nil=>simp
 |cons a x b =>
  have d:(a != c)=true:=by simp;intro e;exact h (by simp[e])
  have:=b λm=>h (eI _ m);simp[d,this.1,this.2]
def vh{c:Nat}{x:List Nat}(h:c∉x):x.takeWhile (· != c)=x/\x.dropWhile (· != c)=[]:=by
 induction x with
 |nil=>simp
 |cons a x b =>
  have d:(a != c)=true:=by simp;intro e;exact h (by simp[e])
  have:=b λm=>h (eI _ m);simp[d,this.1,this.2]
def ie(y a b:Str)(r:List Str):sg (Str.join y (a :: b :: r))=sg a++(sg y++sg (Str.join y (b :: r))):=by show sg (a++y++Str.join y (b :: r))=_;rw[dY,dY,r9]
theorem vm{c:Nat}{y:Str}{s:List Nat}(g:sg y=c :: s):∀ {ps qs:List Str},ps≠[]->qs≠[]->(∀ p∈ps,c∉sg p)->(∀ p∈qs,c∉sg p)->sg (Str.join y ps)=sg (Str.join y qs)->ps=qs
 |[],_,h,_,_,_,_=>absurd rfl h
 |_,[],_,h,_,_,_=>absurd rfl h
 |[a],[b],_,_,_,_,e=>by rw[gR (show sg a=sg b from e)]
 |[a],b :: l :: r,_,_,f,d,e=>by rw[ie,g] at e;have e:sg a=_:=e;have:=congrArg (List.dropWhile (· != c)) e;rw[(vh (f a (by simp))).2,HL,(d7 (d b (by simp))).2] at this;cases this
 |a :: m :: r,[b],_,_,f,d,e=>by rw[ie,g] at e;have e:_=sg b:=e;have:=congrArg (List.dropWhile (· != c)) e;rw[(vh (d b (by simp))).2,HL,(d7 (f a (by simp))).2] at this;cases this
 |a :: m :: r,b :: l :: t,_,_,f,d,e=>by rw[ie,ie,g,HL,HL] at e;have k:=congrArg (List.takeWhile (· != c)) e;have j:=congrArg (List.dropWhile (· != c)) e;rw[(d7 (f a (by simp))).1,(d7 (d b (by simp))).1] at k;rw[(d7 (f a (by simp))).2,(d7 (d b (by simp))).2] at j;have n:=List.append_cancel_left (List.cons.inj j).2;rw[gR k,vm g (ps:=m :: r) (qs:=l :: t) (by simp) (by simp) (λp i=>f p (eI _ i)) (λp i=>d p (eI _ i)) n]
def E_(x y:Str):Txt.split x y≠[]:=by
 unfold Txt.split;split
 ·simp
 ·split
  ·simp
  ·rw[partsBetween_eq];obtain⟨p,r,e⟩:=partsFrom_ne x y.length 0 (occurrences x y 0 x.length (x.length+1));rw[e];simp
def xK{c:Nat}{a:List Str}(h:a≠[])(b:∀ p∈a,c∉sg p):Txt.split (Str.join ⟨#[c]⟩ a) ⟨#[c]⟩=a :=
 vm (c:=c) (s:=[]) rfl (E_ _ _) h (split_free _ c) b (by rw[join_split])
end L2.Q
namespace L2
abbrev RI:=Key ⊕ List Key
section
variable {prog:cy}{w:c9}
inductive cV(prog:cy)(w:c9)(h:d5):RI->ah->Prop
 |one {k:Key} {v:ah}:(i3 prog w).is k v=true->cV prog w h (.inl k) v
 |tup {ks:List Key} {a:ai}:IsTupleKey (i3 prog w) h ks a->cV prog w h (.inr ks) (.ref a)
inductive bO(prog:cy)(w:c9)(h:d5):List RI->List ah->Prop
 |nil:bO prog w h [] []
 |cons {i:RI} {v:ah} {is:List RI} {vs:List ah}:cV prog w h i v->bO prog w h is vs->bO prog w h (i :: is) (v :: vs)
def cV.inj(a:cV prog w h x v)(b:cV prog w h y v):x=y:=by
 cases a with
 |one a =>
  cases b with
  |one b=>rw[(i3 prog w).inj _ _ _ a b]
  |tup b=>exact absurd ((i3 prog w).byValue _ _ a) (by simp[carriedByValue])
 |tup a =>
  cases b with
  |one b=>exact absurd ((i3 prog w).byValue _ _ b) (by simp[carriedByValue])
  |tup b=>rw[a.inj b]
def bO.inj(a:bO prog w h x o)(b:bO prog w h y o):x=y:=by
 induction a generalizing y with
 |nil=>cases b;rfl
 |cons a _ c =>
  cases b with
  |cons b t=>rw[a.inj b,c t]
def cV.keeps{f g}(a:cV prog w h x v)(c:h.get? d=some o)(e:o.data=.dict f g)(b:Heap.SameBut d h C):cV prog w C x v:=by
 cases a with
 |one a=>exact .one a
 |tup a=>exact .tup (a.keeps c e b)
def bO.keeps{g i}(a:bO prog w h x C)(e:h.get? d=some o)(f:o.data=.dict g i)(c:Heap.SameBut d h I):bO prog w I x C:=by
 induction a with
 |nil=>exact .nil
 |cons a _ b=>exact .cons (a.keeps e f c) b
def kh (prog:cy) (w:c9) (h:d5) (r:List RI) (a:ai):Prop:=∃ o b n,h.get? a=some o/\o.cls=.type "tuple"/\o.data=.seq b n/\bO prog w h r b.toList
def kh.typeIs {s:aI} {r:List RI} {a:ai} (x:kh prog w s.heap r a):s.TypeIs (.ref a) "tuple" := let ⟨o,_,_,b,c,_⟩:=x;⟨o,b,c⟩
def kh.inj(p:kh prog w h x a)(q:kh prog w h y a):x=y:=by obtain⟨o,i,n,f,_,e,d⟩:=p;obtain⟨j,l,k,c,_,b,g⟩:=q;rw[f] at c;cases c;rw[e] at b;cases b;exact d.inj g
def kh.keeps{l m}(x:kh prog w h r a)(g:h.get? d=some o)(i:o.data=.dict l m)(f:Heap.SameBut d h C):kh prog w C r a:=by obtain⟨u,b,n,e,k,c,j⟩:=x;refine⟨u,b,n,(f.2 a λz=>?_).trans e,k,c,j.keeps g i f⟩;rw[z,g] at e;cases e;rw[i] at c;cases c
def yZ(prog:cy)(w:c9):RI->Int
 |.inl k=>(i3 prog w).hash k
 |.inr a=>tupleKeyHash (i3 prog w) a
def uD(prog:cy)(w:c9)(r:List RI):Int:=reduceHash (Builtin.Tuple.tupleHashOf (r.map (yZ prog w)))
def oV:RI->Nat
 |.inl _=>1
 |.inr a=>a.length+1
def qH(r:List RI):Nat:=(r.map oV).sum+1
variable {A:fz}{E:ah->aI->Prop}{s:aI}
def cV.hash(a:A.units<f7)(x:cV prog w s.heap i v)(h:Q (yZ prog w i) { s with toks:=s.toks+oV i }):bq (aE prog w) A (pyHash v) Q E s:=by
 cases x with
 |one x=>exact(i3 prog w).pyHash x h
 |tup x=>exact wpAny_pyHash_tuple a x h
def Ck{r:List RI}{a:ai}{Q:Int->aI->Prop}(B:A.units+1<f7)(x:kh prog w s.heap r a)(h:Q (uD prog w r) { s with toks:=s.toks+qH r }):bq (aE prog w) A (pyHash (.ref a)) Q E s:=by
 have z:=x.typeIs;obtain⟨o,m,n,D,_,G,F⟩:=x;refine PySem.W.pyHash_slot z PySem.F.slot_tuple_hash PySem.F.entry_tuple_hash (PySem.F.args_tuple_hash_1 _) (beq_builtin_none _) (.inr (by lia)) ?_;show bq _ _ (Builtin.Tuple.tupleItemsOf (.ref a) >>= _) _ _ s;refine ax (wpAny_tupleItemsOf D G (ax ?_));rw[<- V1];refine TJ _ (λg b k=>∃ c f,r=c++f/\bO prog w s.heap f g/\b.toList=c.map (yZ prog w)/\k={ s with toks:=s.toks+(c.map oV).sum }) _ ?_ ?_ _ _ ⟨[],r,rfl,F,rfl,rfl⟩
 ·rintro v g b k ⟨c,f,rfl,q,t,rfl⟩
  cases q with
  |@cons i _ j _ y p =>
   refine ax (cV.hash (by exact B) y ?_);have fin:∃ d l,c++i :: j=d++l/\bO prog w s.heap l g/\(b.push (yZ prog w i)).toList=d.map (yZ prog w)/\({ s with toks:=s.toks+(c.map oV).sum+oV i }:aI)={ s with toks:=s.toks+(d.map oV).sum } :=
    ⟨c++[i],j,by simp,p,by simp[t],by simp[Nat.add_assoc]⟩
   first
    |exact bI fin
    |exact ax (bI (bI fin))
 ·rintro b k ⟨c,f,e,q,t,rfl⟩;cases q;rw[ng] at e;subst e;show bq _ _ (retInt (Builtin.Tuple.tupleHashOf b.toList)) _ _ _;rw[t];exact ax (wpAny_mkInt (bI ⟨_,_,rfl,by
   have u:=h;unfold uD qH at u;exact u⟩))
def sO (f:s.heap.get? a=some o) (j:o.cls=.type "tuple") (i:o.data=.seq C n)(g:∀ v∈C.toList,∀ Q:Bool->aI->Prop,Q true s->bq (aE prog w) A (eqIsQuiet m v) Q E s) (h:Q true s):bq (aE prog w) A (eqIsQuiet (m+1) (.ref a)) Q E s:=by
 have e:s.TypeIs (.ref a) "tuple" := ⟨o,f,j⟩
 unfold eqIsQuiet;refine ax (wpAny_specialOf e PySem.F.slot_tuple_eq.lookup ?_);refine ax (wpAny_isInstance e isSubtype_tuple_tuple ?_);refine ax (PF f i (ax ?_));rw[<- V1];refine TJ _ (λb r d=>r.1=none/\d=s/\∀ v∈b,v∈C.toList) _ ?_ ?_ _ _ ⟨rfl,rfl,λ_ z=>z⟩
 ·rintro v b r d ⟨_,rfl,c⟩;exact ax (g v (c v eK) _ (bI ⟨rfl,rfl,λu z=>c u (eI _ z)⟩))
 ·rintro⟨l,k⟩ d ⟨z,rfl,_⟩;subst z;exact bI h
def bO.mem(x:bO prog w h r o):∀ v∈o,∃ i,cV prog w h i v:=by
 induction x with
 |nil=>intro v z;cases z
 |cons a _ b =>
  intro v z;rcases dQ.mp z with rfl|z
  ·exact⟨_,a⟩
  ·exact b v z
def cV.quiet(x:cV prog w s.heap i v)(h:Q true s):bq (aE prog w) A (eqIsQuiet (m+1) v) Q E s:=by
 cases x with
 |one x =>rw[eqIsQuiet_byValue _ ((i3 prog w).byValue _ _ x)];exact bI h
 |tup x =>obtain⟨o,a,n,c,f,e,d⟩:=x;refine sO c f e (λv b Q q=>?_) h;rw[eqIsQuiet_byValue _ (d.byValue v b)];exact bI q
def zu(x:kh prog w s.heap r a)(h:Q true s):bq (aE prog w) A (eqIsQuiet 8 (.ref a)) Q E s:=by obtain⟨o,b,n,d,g,f,e⟩:=x;refine sO d g f (λv c Q q=>?_) h;obtain⟨i,y⟩:=e.mem v c;exact y.quiet q
end
end L2
namespace L2.Q
def EZ:RI->D
 |.inl k=>oP k
 |.inr a=>.tup (a.map oP)
def qE(r:List RI):D:=.tup (r.map EZ)
theorem u5:∀ {x y},oP x=oP y->x=y
 |.inl _,.inl _,h=>by cases h;rfl
 |.inr _,.inr _,h=>by cases h;rfl
 |.inl _,.inr _,h=>nomatch h
 |.inr _,.inl _,h=>nomatch h
theorem map_inj{a c:Type}{f:a->c}(b:∀ x y,f x=f y->x=y):∀ {l m:List a},l.map f=m.map f->l=m
 |[],[],_=>rfl
 |x :: l,y :: m,h=>by injection h with h1 h2;rw[b x y h1,map_inj b h2]
theorem GJ:∀ {x y:RI},EZ x=EZ y->x=y
 |.inl _,.inl _,h=>by rw[u5 h]
 |.inr _,.inr _,h=>by injection h with h;rw[map_inj (λ_ _=>u5) h]
 |.inl (.inl _),.inr _,h=>nomatch h
 |.inl (.inr _),.inr _,h=>nomatch h
 |.inr _,.inl (.inl _),h=>nomatch h
 |.inr _,.inl (.inr _),h=>nomatch h
def DY(h:qE x=qE y):x=y:=by injection h with h;exact map_inj (λ_ _=>GJ) h
theorem qi:∀ a:List Key,sv (a.map oP)=true
 |[]=>rfl
 |.inl _ :: a=>by simp[sv,D.nb,oP,qi a]
 |.inr _ :: a=>by simp[sv,D.nb,oP,qi a]
theorem mV:∀ r:List RI,sv (r.map EZ)=true
 |[]=>rfl
 |.inl (.inl _) :: r=>by simp[sv,D.nb,EZ,oP,mV r]
 |.inl (.inr _) :: r=>by simp[sv,D.nb,EZ,oP,mV r]
 |.inr a :: r=>by simp[sv,D.nb,EZ,qi a,mV r]
def JB(x y:List RI):nE (qE x) (qE y)=decide (x=y):=by rw[zD,decide_eq_true_iff,lZ (qE x) (qE y) (mV x) (mV y)];exact⟨DY,λz=>by rw[z]⟩
section
variable {b:cy}{w:c9}{h:d5}
def sS(x:(i3 b w).is k v=true):Reads h v (oP k).py []:=by
 rcases A5 x with⟨i,t,rfl,rfl⟩|⟨y,t,rfl,rfl⟩
 ·exact .int i t
 ·exact .str y t
def wZ(x:ItemsAre (i3 b w) C o):ReadsAll h o (rq (C.map oP)) []:=by
 induction x with
 |nil=>exact .nil
 |cons a _ c=>exact .cons (sS a) c
def xr(x:cV b w h i v):Reads h v (EZ i).py []:=by
 cases x with
 |one x=>exact sS x
 |tup x =>obtain⟨o,a,n,c,f,e,d⟩:=x;exact .tuple c f e (wZ d)
def uc(x:bO b w h r o):ReadsAll h o (rq (r.map EZ)) []:=by
 induction x with
 |nil=>exact .nil
 |cons a _ c=>exact .cons (xr a) c
def row_reads(x:kh b w h r a):Reads h (.ref a) (qE r).py []:=by obtain⟨o,c,n,d,g,f,e⟩:=x;exact .tuple d g f (uc e)
end
def ph(c:cy)(w:c9):HeapKind c w (List RI) where
 is:=λh r a=>kh c w h r a/\fI 12 (qE r)=true
 hash:=uD c w
 draws:=qH
 room:=λA=>A.units+13<f7
 inj:=λx y=>x.1.inj y.1
 keeps:=λx l m k=>⟨x.1.keeps l m k,x.2⟩
 pyHash:=λj x h=>Ck (by lia) x.1 h
 eqBool:=λ{A E s x y a b Q} j f d h=>by have i:=jR 12 _ f.2;have g:=jR 12 _ d.2;have e:=PySem.SeqAt.eqAt_reads (qE x).py (qE y).py A s _ _ _ _ (row_reads f.1) (row_reads d.1) i.1 g.1 (by lia);have q:PyData.eqv (qE x).py (qE y).py=decide (x=y):=JB x y;rw[q] at e;exact e c w E Q h
 quiet:=λx h=>zu x.1 h
def GH(P:cy)(w:c9)(a:ai)(b:List (List RI × ai × ah)):HO:=.ext λh=>∃ o c d,h.get? a=some o/\o.ExactDict/\o.data=.dict c d/\c.toList=b.map (entryOfKey (ph P w))/\(b.map (·.1)).Nodup
def B_(H:Hp):RI->V->Prop
 |.inl k,y=>y=kV k
 |.inr a,y=>∃ c,y=.ref c/\H c=some (.tup (a.map kV))
def ky(H:Hp)(r:List RI)(b:ai):Prop:=fI 12 (qE r)=true/\∃ a,H b=some (.tup a)/\Paired (B_ H) r a
section
variable {P:cy}{w:c9}{H:Hp}{h:d5}
theorem vz(f:kE P w H h):∀ {r} {b} {d},Paired (B_ H) r b->Vals b d->bO P w h r d
 |_,_,_,.nil,.nil=>.nil
 |_,_,_,.cons (a:=i) p j,.cons q g=>.cons (match i,p with
  |.inl k,p=>.one (MX (by rw[<- show _=kV k from p];exact q))
  |.inr l,p=>by
   obtain⟨c,rfl,e⟩:=p;cases (q);exact .tup (M0 f e)) (vz f j g)
def vy(c:kE P w H h)(x:ky H r b):(ph P w).is h r b:=by
 obtain⟨d,j,e,p⟩:=x;obtain⟨_,a,q,o,i,g,n,f⟩:=(c b _ e)
 exact⟨⟨o,a.toArray,n,i,g,f,by simpa using vz c p q⟩,d⟩
def MY(a:kE P w H h)(e:H p=some (GH P w p C))(b:∀ x∈C,ky H x.1 x.2.1):h.DictOfH (ph P w) p C:=by
 obtain⟨⟨o,k,l,j,i,g,f,d⟩,_,_⟩:=(a p _ e)
 exact⟨o,k,l,j,i,g,f,λx c=>vy a (b x c),d⟩
def ky.Vf(x:ky H r b)(e:H p=some o)(l:∀ a,o≠.tup a):ky (upd H p C) r b:=by
 have g:∀ {c} {a},H c=some (.tup a)->upd H p C c=some (.tup a):=λ{c a} z=>by rw[dr (λq=>by rw[q,e] at z;cases z;exact l a rfl)];exact z
 obtain⟨f,a,j,q⟩:=x;refine⟨f,a,g j,?_⟩;clear j f
 induction q with
 |nil=>exact .nil
 |@cons i y s a d _ m =>
  refine .cons ?_ m
  match i,d with
  |.inl k,d=>exact d
  |.inr n,d =>obtain⟨c,rfl,z⟩:=d;exact⟨c,rfl,g z⟩
end
section
variable {X:Cx}{c:List (ai × Obj)}{f:St}{H:Hp}{s:aI}{p b:ai}{d:List (List RI × ai × ah)}{r:List RI}{A:fz}{E:ah->aI->Prop}
def mW{P:cy}(a:A.units+14<f7):(ph P w).room A.in1:=by show A.units+1+13<f7;lia
def Gy(j:A.units+14<f7)(I:Inv X c f H s)(e:H p=some (GH X.prog X.w p d))(k:(p == rX)=false)(i:∀ x∈d,ky H x.1 x.2.1)(g:ky H r b)(h:∀ a,Inv X c f H a->Q (.bool (!(atKey d r).isSome)) a):bq (aE X.prog X.w) A (iX .NotIn (.ref b) (.ref p)) Q E s :=
 wpAny_notIn_heap (mW j) (vy I.bT g) k (MY I.bT e i) (h _ (I.tok _))
def zL(j:A.units+14<f7)(I:Inv X c f H s)(e:H p=some (GH X.prog X.w p d))(i:∀ x∈d,ky H x.1 x.2.1)(g:ky H r b)(k:atKey d r=some q)(h:∀ a,Inv X c f H a->Q q.2 a):bq (aE X.prog X.w) A (getItem (.ref p) (.ref b)) Q E s :=
 wpAny_getItem_heap (mW j) (vy I.bT g) (MY I.bT e i) k (h _ (I.tok _))
def zA(u:A.units+14<f7)(I:Inv X c f H s)(e:H p=some (GH X.prog X.w p d))(t:∀ x∈d,ky H x.1 x.2.1)(n:ky H r b)(G:d.length<=bG)(h:∀ l,Inv X c f (upd H p (GH X.prog X.w p (storedH d r b v))) l->Q () l):bq (aE X.prog X.w) A (setItem (.ref p) (.ref b) v) Q E s:=by
 refine wpAny_setItem_heap (mW u) (vy I.bT n) (MY I.bT e t) λK F w=>h _ ?_;obtain⟨q,i,j,g,m,D,B,_,y⟩:=F;exact UA I (by rw[e];exact True.intro) w ⟨q,g⟩ ⟨⟨q,i,j,g,m,D,B,y⟩,⟨q,g⟩,λJ m zq k=>by obtain⟨o,i,j,a,z⟩:=zq;exact⟨o,i,j,k o a,z⟩⟩
end
def RD(P:cy)(w:c9)(H:Hp)(p:ai)(b:List (List RI × V)):Prop:=∃ a:List (List RI × ai × ah),(p == rX)=false/\H p=some (GH P w p a)/\a.length<=bG /\
 Paired (λ(q:List RI × V) (x:List RI × ai × ah)=>q.1=x.1/\ky H x.1 x.2.1/\RelV q.2 x.2.2) b a
section
variable {H:Hp}
def Bl(x:Paired (λ(q:List RI × V) (x:List RI × ai × ah)=>q.1=x.1/\ky H x.1 x.2.1/\RelV q.2 x.2.2) C o)(k:List RI):rj (gV C k) ((atKey o k).map (·.2)):=by
 induction x with
 |nil=>exact True.intro
 |@cons p q c b h t a =>
  unfold gV atKey at *
  rw[D1,D1,h.1];by_cases e:q.1=k
  ·rw[decide_eq_true e];exact h.2.2
  ·rw[decide_eq_false e];exact a
def pY(x:Paired (λ(q:List RI × V) (x:List RI × ai × ah)=>q.1=x.1/\ky H x.1 x.2.1/\RelV q.2 x.2.2) C o):∀ q∈o,ky H q.1 q.2.1:=by
 induction x with
 |nil=>intro q a;cases a
 |cons h _ b =>
  intro q a;rcases dQ.mp a with rfl|a
  ·exact h.2.1
  ·exact b q a
end
def CK(P:cy)(w:c9)(g f:TE):TE:=λd H Q=>g d H λx h=>f d h λy c=>∃ a b e r v,x=.ref a/\y=.ref b/\RD P w c a e/\ky c r b/\gV e r=some v/\Q v c
def Bo(P:cy)(w:c9)(f g:TE):TE:=λd H Q=>f d H λy h=>g d h λx c=>∃ a b e r,x=.ref a/\y=.ref b/\RD P w c a e/\ky c r b/\Q (.bl (!(gV e r).isSome)) c
section
variable {X:Cx}{o i e f:Expr}{j t:Pos}{m g A:TE}
def yw (I:Inv X C U H s) (x:RD X.prog X.w H a ae):s.TypeIs (.ref a) "dict" := by obtain⟨b,_,e,_,p⟩:=x;exact(MY I.bT e (pY p)).typeIs
def Hv(L:X.A.units+14<f7)(P:PE X o m)(R:PE X i g)(M:WK i):PE X (.Subscript o i j) (CK X.prog X.w m g):=by intro c s n H Q I h;refine eq' PySem.F.slot_dict_getitem.lookup M (cK (P c s n H _ I h) λu z W=>L2.eM W λx U Z D G=>cK (R c z n U _ Z G) λJ s2 V=>?_);obtain⟨y,C,w,B,a,b,ae,r,v,T,S,d,N,l,F⟩:=V;subst T S;obtain rfl:u=Value.ref a:=D;obtain rfl:J=Value.ref b:=B;have g:=yw w d;obtain⟨xs,_,e,_,p⟩:=d;obtain⟨w',K,E⟩:=rj.some_of (by rw[<- l];exact Bl p r);obtain⟨q,O,k⟩:=nV.mp K;exact⟨g,zL L w e (pY p) N O λs3 Y=>⟨v,C,Y,by rw[k];exact E,F⟩⟩
def BJ(D:X.A.units+14<f7)(J:PE X i g)(G:PE X o m):PC X .NotIn i o (Bo X.prog X.w g m):=by intro c s k H Q I h;refine cK (J c s k H _ I h) λB l N=>L2.eM N λy T R n z=>cK (G c l k T _ R z) λu Y M=>?_;obtain⟨x,S,P,v,a,b,Z,r,L,K,d,E,w⟩:=M;subst L K;obtain rfl:u=Value.ref a:=v;obtain rfl:B=Value.ref b:=n;obtain⟨V,F,e,_,p⟩:=d;have q:=(Bl p r).Uz;rw[VW] at q;exact Gy D P e F (pY p) E λW O=>⟨_,S,O,by rw[<- q];rfl,w⟩
def Lg(P:cy)(w:c9)(m g A:TE):TS:=λD d H=>A d H λv q=>m d q λx p=>g d p λy l=>∃ a b h r,x=.ref a/\y=.ref b/\RD P w l a h/\ky l r b/\gV h r=none/\h.length<bG /\
 ∀ k,RD P w k a (h++[(r,v)])->(∀ c,c≠a->k c=l c)->(∃ n,k a=some (.ext n))->D.nx d k
def J0{H:Hp}{a:ai}{o:HO}{k:d5->Prop}(e:H a=some (.ext k)){d:List (List RI × V)}{c:List (List RI × ai × ah)}(x:Paired (λ(q:List RI × V) (x:List RI × ai × ah)=>q.1=x.1/\ky H x.1 x.2.1/\RelV q.2 x.2.2) d c){r:List RI}{b:ai}{v:V}{u:ah}(p:ky H r b)(n:RelV v u) :
  Paired (λ(q:List RI × V) (x:List RI × ai × ah)=>q.1=x.1/\ky (upd H a o) x.1 x.2.1/\RelV q.2 x.2.2) (d++[(r,v)]) (c++[(r,b,u)]):=by
 induction x with
 |nil=>exact .cons ⟨rfl,p.Vf e (λ_ z=>nomatch z),n⟩ .nil
 |cons h _ l=>exact .cons ⟨h.1,h.2.1.Vf e (λ_ z=>nomatch z),h.2.2⟩ l
def Hl(S:X.A.units+14<f7)(W:PE X o m)(Y:PE X i g)(R:PE X f A)(T:nL f (some (.Subscript o i t)) j.line X.env=pure false) :
  PS X (.Assign [.Subscript o i t] f j) (Lg X.prog X.w m g A):=by
 intro k s w H D I h;refine wpAny_Assign_Subscript (cK (R k s w H _ I h) λu0 J E=>L2.eM E λv H1 I1 M P=>cK (W k J w H1 _ I1 P) λu G E=>L2.eM E λx H2 I2 L O=>cK (Y k G w H2 _ I2 O) λQ s3 dE=>?_) T;obtain⟨y,H3,I3,K,a,b,ae,r,U,C,d,F,l,lz,N⟩:=dE;subst U C;obtain rfl:u=Value.ref a:=L;obtain rfl:Q=Value.ref b:=K;obtain⟨B,V,e,z,p⟩:=d;have n:atKey B r=none:=by
  have q:=(Bl p r).Uz;rw[l,VW] at q
  cases z:atKey B r with
  |none=>rfl
  |some _=>rw[z] at q;cases q
 have xl:B.length=ae.length:=(Paired.length p).symm;refine zA S I3 e (pY p) F z λs4 I4=>⟨w,_,I4,?_⟩
 rw[storedH_new n];exact N _ ⟨_,V,eT,by rw[kz,Z9];lia,J0 e p F M⟩ (λc Z=>dr Z) ⟨_,eT⟩
def MJ(P:cy)(w:c9):TE:=λ_ H Q=>∀ p,H p=none->RD P w (upd H p (GH P w p [])) p []->Q (.ref p) (upd H p (GH P w p []))
def Ju:PE X (.Dict [] [] j) (MJ X.prog X.w):=λb s l H Q I h =>
 wpAny_Dict_empty ⟨.ref s.heap.objs.size,_,I.laid (o:=GH X.prog X.w s.heap.objs.size []) (λ_ _ q=>eS _ q) (cE _) ⟨⟨_,#[],0,jI _ rfl,⟨rfl,rfl,rfl⟩,rfl,rfl,oo⟩,⟨_,jI _ rfl⟩,λp n zq k=>by obtain⟨o,c,d,a,z⟩:=zq;exact⟨o,c,d,k o a,z⟩⟩,rfl,
  h _ (I.bT.fresh (cE _)) ⟨[],beq_eq_false_iff_ne.mpr (Ne.symm (gS I.big)),eT,gy _,.nil⟩⟩
end
def GL(a:List (List RI)):List (List RI × V):=a.zipIdx.map λq=>(q.1,V.int q.2)
structure dC(K:ay)(P:cy)(w:c9)(H:Hp)(x dx rp pp:ai)(rs:List (List RI)):Prop where
 ins:∃ C,H x=some (.ins C dx [("rows",.ref rp),("places",.ref pp)])/\wo K C/\wq K C "rows"/\wq K C "places"
 own:H dx=some (.own x)
 rows:∃ bs:List ai,H rp=some (.lst (bs.map .ref))/\Paired (ky H) rs bs
 places:RD P w H pp (GL rs)
 nd:rs.Nodup
def De(a:List (List RI))(r:List RI):GL (a++[r])=GL a++[(r,V.int a.length)]:=by unfold GL;rw[List.zipIdx_append,kS];simp
def vP(h:r∉o):gV (GL o) r=none:=by unfold gV GL;rw[Option.map_eq_none_iff,List.find?_eq_none];intro q a;obtain⟨⟨y,k⟩,b,rfl⟩:=fq.mp a;have:=PH.mp b;simp only[decide_eq_true_eq];rintro rfl;exact h (oj this)
def u_{a:List (List RI)}{r:List RI}(c:a.Nodup){k:Nat}(h:a[k]? = some r):gV (GL a) r=some (.int k):=by
 unfold gV GL;rw[nV];have:∃ q,(a.zipIdx.map λq=>(q.1,V.int q.2)).find? (λd=>decide (d.1=r))=some q:=by rw[<- VR,List.find?_isSome];exact⟨(r,.int k),fq.mpr ⟨(r,k),PH.mpr h,rfl⟩,by simp⟩
 obtain⟨q,b⟩:=this;refine⟨q,b,?_⟩;obtain⟨⟨y,j⟩,i,rfl⟩:=fq.mp (List.mem_of_find?_eq_some b);have e:y=r:=by have:=List.find?_some b;simpa using this
 subst e;have l:=PH.mp i;obtain⟨n,g⟩:=k7.mp l;obtain⟨m,f⟩:=k7.mp h;have:j=k:=(xeh c).mp (g.trans f.symm);rw[this]
def KY(K:ay)(b:TE):TE:=Wo (λa H Q=>∃ x n,a=[x]/\dG' K x H n/\Q (.int n) H) (Uu b MR)
def cr'(K:ay)(P:cy)(w:c9):TS :=
 Uq (dm' (tB (Bo P w (kr 1) (FH K (kr 0) "places"))) (Uq (Lg P w (FH K (kr 0) "places") (kr 1) (KY K (FH K (kr 0) "rows"))) (dl' (tBM K "list" aW' (FH K (kr 0) "rows") (Uu (kr 1) MR))))
  dj')
 (Wh (CK P w (FH K (kr 0) "places") (kr 1)))
def dC.fld{K:ay}{P:cy}(S:dC K P w H x I U pp rs)(e:o[0]? = some (some (.ref x))) : (Q (.ref U) H->FH K (kr 0) "rows" o H Q)/\(Q (.ref pp) H->FH K (kr 0) "places" o H Q):=by
 obtain⟨C,i,c,b,a⟩:=S.ins;exact⟨λq=>⟨_,e,x,C,I,_,_,rfl,i,c,b,rfl,q⟩,λq=>⟨_,e,x,C,I,_,_,rfl,i,c,a,by
  have z:(("places" : Str) == "rows")=false:=by decide +kernel
  simp[List.lookup,z],q⟩⟩
def Hc{K:ay}{P:cy}{D:Ends}(S:dC K P w H x dx I U o)(p:ky H r b)(u:o.length<bG)(h:∀ f a k,dC K P w f x dx I U a->(r∈o/\a=o\/r∉o/\a=o++[r])->a[k]? = some r->(∀ c,c≠I->c≠U->f c=H c)->D.rt (.int (k:Nat)) f) :
  cr' K P w D [some (.ref x),some (.ref b)] H:=by
 have t:∀ f a k,dC K P w f x dx I U a->(r∈o/\a=o\/r∉o/\a=o++[r])->a[k]? = some r->(∀ c,c≠I->c≠U->f c=H c)->ky f r b->Wh (CK P w (FH K (kr 0) "places") (kr 1)) D [some (.ref x),some (.ref b)] f:=λf a k B e1 X e3 N =>
by
  unfold Wh CK;exact(B.fld rfl).2 ⟨_,rfl,U,b,_,r,_,rfl,rfl,B.places,N,u_ B.nd X,h f a k B e1 X e3⟩
 refine⟨_,rfl,(S.fld rfl).2 ⟨U,b,_,r,rfl,rfl,S.places,p,_,rfl,?_⟩⟩;by_cases m:r∈o
 ·obtain⟨k,W⟩:=zv.mp m;rw[u_ S.nd W];exact t H o k S (.inl ⟨m,rfl⟩) W (λ_ _ _=>rfl) p
 ·rw[vP m];obtain⟨g,e,R⟩:=S.rows;have Y:g.length=o.length:=(Paired.length R).symm;refine(S.fld rfl).1 ⟨.ref I,o.length,rfl,.inl ⟨_,.inl (.inl e),by rw[cx,Y]⟩,(S.fld rfl).2 ⟨_,rfl,U,b,_,r,rfl,rfl,S.places,p,vP m,?_,λi d4 n E=>?_⟩⟩
  ·unfold GL;rw[cx,List.length_zipIdx];exact u
  obtain⟨C,s,c,T,n2⟩:=S.ins;obtain⟨ab,_,v,_,_⟩:=S.places;have j:I≠U:=λz=>by rw[z,v] at e;cases e
  have M:x≠U:=λz=>by rw[z,v] at s;cases s
  have L:x≠I:=λz=>by rw[z,e] at s;cases s
  have J:dx≠U:=λz=>by have:=S.own;rw[z,v] at this;cases this
  have G:dx≠I:=λz=>by have:=S.own;rw[z,e] at this;cases this
  have A:i I=some (.lst (g.map .ref)):=by rw[n I j];exact e
  have V:i x=some (.ins C dx [("rows",.ref I),("places",.ref U)]):=by rw[n x M];exact s
  have F:∀ {q} {d},ky H q d->ky (upd i I (.lst (g.map .ref++[.ref b]))) q d:=λ{q d} z=>by
   obtain⟨Z,E⟩:=E;have z4:ky i q d:=by
    have:i=upd H U (.ext Z):=funext λc=>by
     by_cases O:c=U
     ·rw[O,E,eT]
     ·rw[n c O,dr O]
    rw[this];exact z.Vf v (λ_ z=>nomatch z)
   exact z4.Vf A (λ_ z=>nomatch z)
  refine⟨_,rfl,x,C,dx,_,_,rfl,V,c,T,rfl,?_,_,rfl,I,g.map .ref,.ref b,rfl,rfl,A,by rw[cx,Y];exact u,?_⟩
  ·exact .inl ⟨rfl,_,.inl (.inl A)⟩
  refine t _ (o++[r]) o.length ⟨⟨C,by rw[dr L];exact V,c,T,n2⟩,by rw[dr G,n dx J];exact S.own,⟨g++[b],by rw[eT,kS];rfl,?_⟩,?_,?_⟩ (.inr ⟨m,rfl⟩) (by simp) (λc h1 h2=>by rw[dr h1,n c h2]) (F p)
  ·have go:∀ {l} {Q},Paired (ky H) l Q->Paired (ky (upd i I (.lst (g.map .ref++[.ref b])))) (l++[r]) (Q++[b]):=by
    intro l Q z
    induction z with
    |nil=>exact .cons (F p) .nil
    |cons y _ ih=>exact .cons (F y) ih
   exact go R
  ·rw[De];obtain⟨xs,a1,a2,a3,a4⟩:=d4;refine⟨xs,a1,by rw[dr (Ne.symm j)];exact a2,a3,Paired.imp' (λq y z=>⟨z.1,z.2.1.Vf A (λ_ z=>nomatch z),z.2.2⟩) a4⟩
  ·rw[ui];exact⟨S.nd,by simp,λy hy z u q=>by rw[hV.mp u] at q;exact m (q ▸ hy)⟩
section
variable {X:Cx}{e:Expr}{b:TE}{p a:Pos}
def JQ (g:Gl X "len") (f:X.mg "len" = none) (h:PE X e b) (c:autoParam (aR X e []) bv) (d:autoParam (bM X a []) bv):PE X (.Call (.Name "len" p) [e] [] a) (KY X.K b) :=
 Wq Wn g f aN (lP h og c) (by decide) (by decide) c d
def G5 (i:X.A.units+14<f7) (v:Gl X "len") (u:X.mg "len" = none)(d:∀ p,PE X (.Name "self" p) (kr 0)) (h:∀ p,PE X (.Name "row" p) (kr 1))(g:∀ p f,t9 (.Name "self" p) f X.env (dn (.Name "self" p) X.env)=dn (.Name "self" p) X.env)(w:autoParam (HG .NotIn (.Attribute (.Name "self" p2) "places" p3)=false) bv) (n:∀ p,WK (.Name "row" p)) (s:autoParam (nL (.Call (.Name "len" q1) [.Attribute (.Name "self" q2) "rows" q3] [] q4) (some (.Subscript (.Attribute (.Name "self" p5) "places" p6) (.Name "row" p7) p8)) p9.line X.env=pure false) bv) (m:autoParam (fN [.Attribute (.Name "self" q2) "rows" q3] X.env=(false,dn (.Attribute (.Name "self" q2) "rows" q3) X.env) :: fN [] X.env) bv) (l:autoParam (bM X q4 []) bv) (r:autoParam (nL (.Call (.Attribute (.Attribute (.Name "self" U) "rows" I) "append" q7) [.Name "row" C] [] o) none r1.line X.env=pure false) bv) (t:autoParam (t9 (.Attribute (.Name "self" U) "rows" I) "append" X.env (dn (.Attribute (.Name "self" U) "rows" I) X.env)=dn (.Attribute (.Name "self" U) "rows" I) X.env) bv) (q:autoParam (((ub o (fN [.Name "row" C] X.env)).all (λx=>!x.1) && (zt o (zo [] X.env)).all (λx=>x.1.isSome)
   && decide ([Expr.Name "row" C].length+([]:List qV).length+(if ([]:List qV).isEmpty then 0 else 1)<30))=true) bv)
  (c:autoParam ((q7.endLine == o.line)=true) bv) (j:autoParam (fN [.Name "row" C] X.env=(false,dn (.Name "row" C) X.env) :: fN [] X.env) bv) (k:autoParam (bM X o []) bv) :
  nh X [.If (.Compare (.Name "row" p1) [.NotIn] [.Attribute (.Name "self" p2) "places" p3] p4) [.Assign [.Subscript (.Attribute (.Name "self" p5) "places" p6) (.Name "row" p7) p8] (.Call (.Name "len" q1) [.Attribute (.Name "self" q2) "rows" q3] [] q4) p9,
     .Expr (.Call (.Attribute (.Attribute (.Name "self" U) "rows" I) "append" q7) [.Name "row" C] [] o) r1] [] r2,
   .Return (some (.Subscript (.Attribute (.Name "self" r3) "places" r4) (.Name "row" r5) r6)) r2] (cr' X.K X.prog X.w) :=
 Wd (dn' (ie' (BJ i (h _) (Si (d _) (g _ _))) w) (Wd (Hl i (Si (d _) (g _ _)) (h _) (JQ v u (Si (d _) (g _ _)) m l) s) (Wg (Mb (IJ PySem.F.plainAttrs_list PySem.F.slot_list_append PySem.F.type_list_append Sn (Si (d _) (g _ _)) (lP (h _) og j) t q c j k) r)))
   dk')
  (Wg (RA (Hv i (Si (d _) (g _ _)) (h _) (n _))))
end
def z7 (K:ay) (P:cy) (w:c9):TS:=Uq (aL' K (kr 0) (dL' MR) "rows") (aL' K (kr 0) (MJ P w) "places")
def Cw {K:ay} {P:cy} {D:Ends} (g:H x=some (.ins C o [])) (f:H o=some (.own x)) (c:wo K C) (q:wq K C "rows") (p:wq K C "places")(h:∀ k b d,dC K P w k x o b d []->k x=some (.ins C o [("rows",.ref b),("places",.ref d)])->H b=none->H d=none->(∀ a,a≠x->a≠b->a≠d->k a=H a)->D.nx [some (.ref x)] k):z7 K P w D [some (.ref x)] H:=by
 refine⟨gy _,λb j=>⟨_,rfl,x,C,o,[],rfl,?_,c,q,by decide,?_⟩⟩
 ·rw[dr (λz=>by rw[z,j] at g;cases g)];exact g
 have m:x≠b:=λz=>by rw[z,j] at g;cases g
 have A:o≠b:=λz=>by rw[z,j] at f;cases f
 have i:o≠x:=λz=>by rw[z,g] at f;cases f
 intro d e t;have l:d≠x:=λz=>by rw[z,eT] at e;cases e
 rw[dr l] at e;have n:d≠b:=λz=>by rw[z,eT] at e;cases e
 rw[dr n] at e;have y:o≠d:=λz=>by rw[z,e] at f;cases f
 refine⟨_,rfl,x,C,o,[("rows",.ref b)],rfl,by rw[dr (Ne.symm l),eT];rfl,c,p,(by show 1<1000;decide),?_⟩;have z:gp "places" (.ref d) [("rows",.ref b)]=[(("rows" : Str),V.ref b),("places",.ref d)]:=by rfl
 refine h _ b d ⟨⟨C,eT,c,q,p⟩,by rw[dr i,dr y,dr i,dr A];exact f,⟨[],?_,.nil⟩,?_,oo⟩ eT j e λa r v u=>by rw[dr r,dr u,dr r,dr v]
 ·rw[dr (Ne.symm m),dr (Ne.symm n),dr (Ne.symm m),eT];rfl
 ·obtain⟨s,G,F,E,B⟩:=t;refine⟨s,G,by rw[dr l];exact F,E,?_⟩;cases B;exact .nil
section
variable {X:Cx}
def Fd (a:∀ p,PE X (.Name "self" p) (kr 0))(c:autoParam (nL (.List [] p3) (some (.Attribute (.Name "self" p1) "rows" p2)) p4.line X.env=pure false) bv) (b:autoParam (nL (.Dict [] [] C) (some (.Attribute (.Name "self" U) "places" I)) o.line X.env=pure false) bv) :
  nh X [.Assign [.Attribute (.Name "self" p1) "rows" p2] (.List [] p3) p4,.Assign [.Attribute (.Name "self" U) "places" I] (.Dict [] [] C) o] (z7 X.K X.prog X.w) :=
 Wd (dJ' (a _) (aM' og) c) (Wg (dJ' (a _) Ju b))
end
def vH(K:ay)(P:cy)(w:c9):Sp:=λi H Q E=>∃ x h e f b a r,i=[.ref x,.ref b]/\dC K P w H x h e f a/\ky H r b/\a.length<bG /\
 ∀ g d k,dC K P w g x h e f d->(r∈a/\d=a\/r∉a/\d=a++[r])->d[k]? = some r->(∀ c,c≠e->c≠f->g c=H c)->Q (.int (k:Nat)) g
def pU (K:ay) (P:cy) (w:c9):Sp:=λf H Q E=>∃ x d C,f=[.ref x]/\H x=some (.ins C d [])/\H d=some (.own x)/\wo K C/\wq K C "rows"/\wq K C "places" /\
 ∀ e b c,dC K P w e x d b c []->e x=some (.ins C d [("rows",.ref b),("places",.ref c)])->H b=none->H c=none->(∀ a,a≠x->a≠b->a≠c->e a=H a)->Q .non e
section
variable {P:cy}{w:c9}{K:ay}{i:Str->Option ah}{d:d5}{x a:Str}{g:kf}{f:ai}{j:sF}
def Ir (F:vi K x a g f j) (S:Bi ["self", "row"] ["self", "row"] (fF g))(u:∀ k A c s H E,ja 0 (A.deeper (ri a (fF g) s.heap.objs.size f k))->nh (se kB P w K i d ["self", "row"] a (fF g) f k A c s H E).uS (oz g) (cr' K P w)) :
  mS P w K i d kB 1 f j ["self", "row"] (vH K P w) :=
 F.ok S (λl H Q E zq=>by obtain⟨_,_,_,_,_,_,_,e,_⟩:=zq;rw[e];rfl) λk A c s H l Q E p t=>by obtain⟨x,B,y,z,b,v,r,e,m,q,n,h⟩:=t;subst e;exact⟨_,u k A c s H E p,Hc m q n h⟩
def Ex (F:vi K x a g f j) (S:Bi ["self"] ["self"] (fF g))(u:∀ k A b s H E,ja 0 (A.deeper (ri a (fF g) s.heap.objs.size f k))->nh (se kB P w K i d ["self"] a (fF g) f k A b s H E).uS (oz g) (z7 K P w)) :
  mS P w K i d kB 1 f j ["self"] (pU K P w) :=
 F.ok S (λl H Q E zq=>by obtain⟨_,_,_,e,_⟩:=zq;rw[e];rfl) λk A b s H l Q E p t=>by obtain⟨x,v,C,e,r,q,c,n,m,h⟩:=t;subst e;exact⟨_,u k A b s H E p,Cw r q c n m h⟩
end
def tF(a:Hp)(c:List ai)(H:Hp):Hp:=λb=>if b∈c then H b else a b
def jT(h:b∈o):tF C o H b=H b:=by unfold tF;rw[if_pos h]
def cG(h:b∉C):tF o C H b=o b:=by unfold tF;rw[if_neg h]
def vU(n:JY U I)(k:∀ b∈C,H' b=H b):JY (tF U C H) (tF I C H'):=λa o d e=>by
 by_cases h:a∈C
 ·rw[jT h] at e ⊢;rw[k a h];exact e
 ·rw[cG h] at e ⊢;exact n a o d e
def kY(w:Wf C H):bE (tF C I H) H:=λa o e=>by
 by_cases h:a∈I
 ·rw[jT h] at e;exact e
 ·rw[cG h] at e;exact w.sub a o e
section
variable {K:ay}{P:cy}{w:c9}{G j:Hp}{x g a f:ai}{l:List (List RI)}
def ky.mono(n:∀ c d,G c=some (.tup d)->j c=some (.tup d))(h:ky G r b):ky j r b:=by
 obtain⟨p,d,e,q⟩:=h;refine⟨p,d,n _ _ e,?_⟩;clear e p
 induction q with
 |nil=>exact .nil
 |@cons i y u d m _ s =>
  refine .cons ?_ s
  match i,m with
  |.inl k,m=>exact m
  |.inr t,m =>obtain⟨c,rfl,z⟩:=m;exact⟨c,rfl,n _ _ z⟩
def dC.moves(h:dC K P w G x g a f l)(t:∀ c b,G c=some (.tup b)->j c=some (.tup b))(k:∀ c∈[x,g,a,f],j c=G c):dC K P w j x g a f l:=by obtain⟨⟨C,n,m⟩,e,⟨p,r,q⟩,⟨d,y,v,u,s⟩,i⟩:=h;refine⟨⟨C,(k x (by simp)).trans n,m⟩,(k g (by simp)).trans e,⟨p,(k a (by simp)).trans r,Paired.imp' (λ_ _ z=>z.mono t) q⟩,⟨d,y,(k f (by simp)).trans v,u,Paired.imp' (λ_ _ z=>⟨z.1,z.2.1.mono t,z.2.2⟩) s⟩,i⟩
def dC.at(h:dC K P w G x g a f l):∀ c∈[x,g,a,f],∃ o,G c=some o/\ft' o/\∀ vs,o≠.tup vs:=by
 obtain⟨⟨C,e,p⟩,d,⟨q,i,r⟩,⟨m,u,k,t,s⟩,n⟩:=h;intro c b;simp only[dQ,sM,or_false] at b;rcases b with rfl|rfl|rfl|rfl
 ·exact⟨_,e,trivial,λ_ z=>nomatch z⟩
 ·exact⟨_,d,trivial,λ_ z=>nomatch z⟩
 ·exact⟨_,i,trivial,λ_ z=>nomatch z⟩
 ·exact⟨_,k,trivial,λ_ z=>nomatch z⟩
def dC.near(n:JY G j)(h:dC K P w G x g a f l):dC K P w j x g a f l :=
 h.moves (λc i e=>n c _ trivial e) λc b=>by obtain⟨o,e,d,_⟩:=h.at c b;rw[e];exact n c o d e
end
def OU:RI->Bool
 |.inl k=>tf k
 |.inr a=>decide (a.length<=bG) && a.all tf
def OV(r:List RI):Bool:=decide (r.length<=bG) && r.all OU
def sD(K:ay)(P:cy)(w:c9)(C:ai)(o:Bool)(j:List (List RI)):NV where
 is:=λm H x g=>(∀ r∈j,OV r=true)/\∃ f a c,dC K P w (tF m g H) x f a c j/\tF m g H x=some (.ins C f [("rows",.ref a),("places",.ref c)])/\g=bif o then [a,c] else []
 gE:=λn k zq=>by obtain⟨h,f,a,c,s,i,e⟩:=zq;exact⟨h,f,a,c,s.near (vU n k),vU n k _ _ trivial i,e⟩
 own:=λzj b d=>by
  obtain⟨h,f,a,c,s,i,e⟩:=zj
  cases o with
  |false=>rw[e] at d;exact nomatch d
  |true =>obtain⟨u,l,_,p⟩:=s.at b (.tail _ (.tail _ (by rw[e] at d;exact d)));rw[jT d] at l;exact⟨u,l,p⟩
abbrev E1:=Bool->List (List RI)->NV
section
variable {K:ay}{d H:Hp}
def Hg(h:ky d r b)(f:OV r=true):Rep K d (qE r) (.ref b):=by
 obtain⟨m,l,e,p⟩:=h;simp only[OV,mn,decide_eq_true_eq,xI] at f;refine .tup (by rw[<- Paired.length p];exact f.1) e ?_;have j:=f.2;clear e f m
 induction p with
 |nil=>exact .nil
 |@cons i y t l a _ n =>
  refine .cons ?_ (n λz q=>j z (eI _ q));have g:=j i eK
  match i,a with
  |.inl (.inl k),a=>rw[show y=.int k from a];exact .int k
  |.inl (.inr k),a=>rw[show y=.str k from a];exact .str (by simpa[OU,tf] using g)
  |.inr s,a =>obtain⟨c,rfl,z⟩:=a;simp only[OU,mn,decide_eq_true_eq] at g;exact .tup (by rw[cx];exact g.1) z (iD (xI.mp g.2))
def Dm{b:List Key}{c:List V}(h:b9 K d (b.map oP) c):c=b.map kV/\b.all tf=true:=by
 induction b generalizing c with
 |nil=>rw[b9.n0 h];exact⟨rfl,rfl⟩
 |cons k b f =>
  obtain⟨u,g,rfl,r,t⟩:=b9.c h;obtain⟨e,a⟩:=f t;rw[e]
  cases k with
  |inl i=>cases r;exact⟨rfl,by simpa[tf] using a⟩
  |inr y=>cases r with|str z=>exact⟨rfl,by simp only[D2,tf,mn,decide_eq_true_eq];exact⟨z,a⟩⟩
def Js(h:Rep K d (qE r) v)(n:fI 12 (qE r)=true):∃ b,v=.ref b/\ky d r b/\OV r=true:=by
 cases h with
 |@tup a l _ z e m =>
  have c:Paired (B_ d) r l/\∀ i∈r,OU i=true:=by
   clear e z n
   induction r generalizing l with
   |nil=>rw[b9.n0 m];exact⟨.nil,λi h=>nomatch h⟩
   |cons i r t =>
    obtain⟨u,A,rfl,f,y⟩:=b9.c m;obtain⟨p,q⟩:=t y;have g:B_ d i u/\OU i=true:=by
     match i,f with
     |.inl (.inl k),f=>cases f;exact⟨rfl,rfl⟩
     |.inl (.inr k),f=>cases f with|str z=>exact⟨rfl,by simpa[OU,tf] using z⟩
     |.inr B,f =>
      cases f with
      |tup z e w =>obtain⟨s,a⟩:=Dm w;refine⟨⟨_,rfl,by rw[e,s]⟩,?_⟩;simp only[OU,mn,decide_eq_true_eq];exact⟨by rw[s,cx] at z;exact z,a⟩
    exact⟨.cons g.1 p,λj x=>(dQ.mp x).elim (λz=>z ▸ g.2) (q j)⟩
  refine⟨a,rfl,⟨n,l,e,c.1⟩,?_⟩;simp only[OV,mn,decide_eq_true_eq,xI];exact⟨by rw[Paired.length c.1];exact z,c.2⟩
def SR.ob(h:p.is d H a As)(s:SR K d H C o tot):SR K d H (some (.ob a p) :: C) (some (.ref a) :: o) (As++tot):=.cons (.ob h) s
def SR.cs'(i:Nat)(s:SR K d H I C o)(e:I[i]? = some (some (.ob a p)))(n:o.Nodup) :
  ∃ j,C[i]? = some (some (.ref a))/\p.is d H a j/\j.Sublist o/\∀ l m q,bE d l->q.is l m a j->(∀ b∈o,b∉j->m b=H b)->SR K l m (I.set i (some (.ob a q))) C o:=by
 obtain⟨j,u,f,g⟩:=s.chg i n;obtain⟨_,v,h⟩:=f _ e
 cases h with
 |ob r =>refine⟨j,v,r,u,λl m q w x k=>?_⟩;obtain⟨t,_,_,_,c,z⟩:=g w k (.ob x) (u.nodup n) λa h _=>h;rw[wK v,c rfl] at z;exact z
def dA.O7 {P:cy} {w:c9} {C a:ai} {u:List (List RI)} {y:Env} {x:St} {j:List ai} (i:Nat) (q:dA K d y x H j) (e:y[i]? = some (some (.ob a (sD K P w C true u)))):∃ k f h,x[i]? = some (some (.ref a))/\(∀ r∈u,OV r=true)/\dC K P w H a k f h u/\H a=some (.ins C k [("rows",.ref f),("places",.ref h)])/\f∈j/\h∈j /\
  ∀ p l v,bE d p->Wf p l->(∀ r∈v,OV r=true)->dC K P w l a k f h v->(∀ b∈j,b≠f->b≠h->l b=H b)->(∀ b∈j,p b=none)->dA K p (y.set i (some (.ob a (sD K P w C true v)))) x l j:=by
 obtain⟨Z,W,⟨Q,k,f,h,S,D,F⟩,J,g⟩:=SR.cs' i q.sr e q.ti;have F:Z=[f,h]:=F;subst F;have G:dC K P w H a k f h u:=S.near (lW (kY q.wf));have E:=kY q.wf _ _ D;refine⟨k,f,h,W,Q,G,E,J.subset (by simp),J.subset (by simp),λp l v s A X Y R B=>?_⟩;have t:∀ c∈[a,k,f,h],tF p [f,h] l c=l c:=λc T=>by
  by_cases m:c∈[f,h]
  ·exact jT m
  ·obtain⟨o,z,_⟩:=S.at c T;rw[cG m] at z ⊢;rw[s _ _ z,A.sub _ _ (s _ _ z)]
 have L:a∉[f,h]:=λm=>by
  obtain⟨U,M,_⟩:=G.rows;obtain⟨I,_,N,_⟩:=G.places;simp only[dQ,sM,or_false] at m;rcases m with rfl|rfl
  ·rw[E] at M;cases M
  ·rw[E] at N;cases N
 rw[cG L] at D;refine⟨g p l _ s ⟨X,k,f,h,Y.moves (λc O z=>?_) t,by rw[cG L];exact s _ _ D,rfl⟩ λb V n=>R b V (λz=>n (by simp[z])) λz=>n (by simp[z]),A,q.ti,B⟩;by_cases m:c∈[f,h]
 ·rw[jT m];exact z
 ·rw[cG m];exact A.kU c O z
def dC.wf{P:cy}{w:c9}{f:Hp}{a r b e:ai}{k:List (List RI)}(S:dC K P w f a r b e k)(i:Wf d H)(l:d b=none)(p:d e=none)(j:∀ c,c≠b->c≠e->f c=H c):Wf d f :=
 ⟨λc o z=>(j c (λq=>by rw[q,l] at z;cases z) λq=>by rw[q,p] at z;cases z).trans (i.sub c o z),λc h z=>by
  by_cases m:c∈[b,e]
  ·obtain⟨o,g,_,n⟩:=S.at c (.tail _ (.tail _ m));rw[z] at g;cases g;exact absurd rfl (n h)
  ·simp only[dQ,sM,or_false,not_or] at m;rw[j c m.1 m.2] at z;exact i.kU c h z⟩
end
def pC(K:ay)(P:cy)(w:c9)(C:ai)(j:List (List RI)->gv):Sp:=λk H l _=>∃ x f h g i,k=.ref x :: g/\(sD K P w C false f).is H H x []/\b9 K H h g/\j f h i /\
 ∀ v c b m d e,bE H b->Wf b c->RM K b c m d v e->e.Nodup->(∀ a∈e,b a=none)->i m d->l v c
def jd(n:Nat)(a:ai)(p:NV)(b:List D):Env:=some (.ob a p) :: (b.map (λd=>some (.sh d))++List.replicate (n-(b.length+1)) none)
section
variable {K:ay}{P:cy}{w:c9}{C:ai}{b:List (List RI)->gv}{t:WS}
def yc(h:pC K P w C b I H o E)(F:∀ a f i Q,b f i Q->t { nx:=λ_=>Q .sh .non,rt:=Q } (jd N.length a (sD K P w C false f) i)) :
  BF K L0 t { nx:=λ_ c=>o .non c,rt:=o } (start N I) H:=by
 obtain⟨x,f,i,L,n,rfl,A,p,D,g⟩:=h;have G:=p.length;refine⟨H,jd N.length x (sD K P w C false f) i,[],{ nx:=λ_=>n .sh .non,rt:=n },⟨?_,⟨bE.refl _,λ_ _ e=>e⟩,oo,λa h=>nomatch h⟩,F x f i n D,?_,?_,?_,?_,λ_ _ _ _=>trivial⟩
 ·unfold jd start;rw[G];exact .ob A (SR.start p)
 ·exact λy c j z u s k q=>g .non c j .sh .non [] s k.wf ⟨rfl,.non⟩ oo (λa h=>nomatch h) q
 ·exact λy c j z u s k q=>q.elim
 ·exact λy c j z u s k q=>q.elim
 ·exact λv c j m d J s w r B l q=>g v c j m d J s w r B l q
def ct'.ok{h:kf}{N j:List Str}(F:vi K x o h f fd)(S:Bi N j (fF h))(l:∀ g d Q,b g d Q->d.length+1=j.length)(v:∀ i A c s H E,ja k (A.deeper (ri o (fF h) s.heap.objs.size f i))->y8 (se kB P w K U I N o (fF h) f i A c s H E).uS K L0 (oz h) t)(r:∀ a g d Q,b g d Q->t { nx:=λ_=>Q .sh .non,rt:=Q } (jd N.length a (sD K P w C false g) d)):mS P w K U I kB (k+1) f fd j (pC K P w C b) :=
 F.ok S (λn H Q E zq=>by obtain⟨x,g,d,y,u,e,_,p,m,_⟩:=zq;rw[e,gi,<- p.length];exact l g d u m) λi A c s H n Q E q m=>⟨_,v i A c s H E q,yc m r⟩
end
def ym(h:E1)(i:Nat)(e:List (List RI)->gv)(t:WA):WE:=λb Q=>∃ a o c,b[i]? = some (some (.ob a (h o c)))/\t b λg=>e c (g.map (·.2)) λm d=>de (m,d) (f:=λp=>Q (NX p.1 p.2) p.2) ⟨⟩
def yE(d:E1)(i:Nat)(t:WE):WE:=λb Q=>∃ a o c,b[i]? = some (some (.ob a (d o c)))/\t b λ_ y=>∃ (k:Nat) (r:List RI),y=.int k/\c[k]? = some r/\Q .sh (qE r)
def JZ(c:E1)(i:Nat):WS:=λE b=>∀ a,E.nx (b.set i (some (.ob a (c true []))))
def JG{b c:Type}{R:b->c->Prop}{l:List b}{m:List c}(p:Paired R l m){k:Nat}{x:b}(h:l[k]? = some x):∃ y,m[k]? = some y/\R x y:=by
 induction p generalizing k with
 |nil=>simp at h
 |cons a _ d =>
  cases k with
  |zero=>simp at h;subst h;exact⟨_,rfl,a⟩
  |succ k=>exact d (by simpa using h)
section
variable {X:Cx}{K:ay}{L:Str->Hp->Prop}{C:ai}{l e:Expr}{A:List Expr}{i:Nat}{t:WA}{I:WE}{m:Str}{j g p q:Pos}{f:ai}{J:sF}{B:List Str}{k:Nat}{G:List (List RI)->gv}
def yh{P:cy}(c:Wf U H)(h:(sD K P w C o rs).is U H a As):(sD K P w C false rs).is H H a []:=by
 obtain⟨d,x,r,v,s,i,e⟩:=h;have n:JY (tF U As H) (tF H [] H):=λb u _ z=>by exact kY c b u z
 exact⟨d,x,r,v,s.near n,n _ _ trivial i,rfl⟩
def Bu(h0:PE X l (kr i))(c:wo X.K C)(hm:Meth X.K C m f)(F:mS X.prog X.w X.K X.mg X.base kB k f J B (pC K X.prog X.w C G))(hr:ja k X.A)(D:Binds X.K J B [])(ha:QA X K (e :: A) t)(hK:autoParam (X.K=K) bv) (N:(m == ("rows" : Str))=false/\(m == ("places" : Str))=false:=by decide +kernel) (W:autoParam (aR X e A) bv) (Z:autoParam (bM X g A) bv) (ht:autoParam (dn (.Call (.Attribute l m j) (e :: A) [] g) X.env=(do
   let M ← eval l X.env
   standAt j.atName
   let (f,n) ← holding [M] (getMethod M m pl)
   callWith g f n (ub g (fN (e :: A) X.env)) (zt g (zo [] X.env)))) bv):QE X K (.Call (.Attribute l m j) (e :: A) [] g) (ym (sD K X.prog X.w C) i G t):=by
 subst hK;refine PE.imp (dP' h0 c hm F hr D (.nil) WU ha W Z ht) λae H Qv hx=>iF hx λHs P x Q y h f=>?_;obtain⟨a,o,E,e1,h⟩:=h;obtain⟨v,e2,rfl,As,U,_⟩:=y.sr.get e1;have O:=yh y.wf U;obtain⟨_,dx,rp,pp,s1,i1,_⟩:=id O;refine⟨_,e2,a,dx,_,rfl,i1,?_,Hs,P,x,_,y,h,λR H1 aT B ab u S f1 V=>?_⟩
 ·simp[List.lookup,N.1,N.2]
 ·refine⟨a,E,_,R,_,by rw[ng],(sD X.K X.prog X.w C false E).gE (lW u.all) (λb D=>nomatch D) O,S.reps u.wf,V,λv H' aC m d As s w r Y z q=>?_⟩;obtain⟨iA,T,fr⟩:=pA u.wf s w r Y z;exact Fin.after f u v H' _ (NX m d) d iA (gj u.wf s w) T fr q
def Af (h0:PE X l (kr i)) (n:QE X K e I) (hK:autoParam (X.K=K) bv) (D:autoParam (t9 l "rows" X.env (dn l X.env)=dn l X.env) bv) (Z:Ww e:=by exact λ_ _=>rfl) (Y:autoParam (X.A.units+64<f7) u0) :
  QE X K (.Subscript (.Attribute l "rows" p) e q) (yE (sD K X.prog X.w C) i I):=by
 subst hK;refine PE.imp (aT' (fA' Y rfl) (Si h0 D) n Z) λab H Qv W=>iF W λHs N s Q w h f=>?_;obtain⟨a,o,rs,e1,h⟩:=h;obtain⟨v,e2,rfl,As,F,_⟩:=w.sr.get e1;have Tq:=yh w.wf F;obtain⟨_,dx,P,pp,E,i1,_⟩:=id Tq;obtain⟨C',V,c,T,_⟩:=E.ins;refine⟨_,e2,a,C',dx,_,.ref P,rfl,V,c,T,rfl,Hs,N,s,_,w,h,λu H2 aS m y lT d x f2 S=>?_⟩;obtain⟨k,r,rfl,M,q⟩:=S;have x:=x.rep d.wf;cases x;obtain⟨bs,b1,b2⟩:=E.rows;obtain⟨b,n,R⟩:=JG b2 M;refine .inl (.inl ⟨_,.ref b,.inl (.inl (d.all _ _ b1)),KQ ?_ (by rw[ki,n];rfl),(Fin.after f d).sh d.wf (Hg (R.mono λc O z=>d.wf.kU c O (d.all _ _ z)) (F.1 r (oj M))) q⟩);have U:k<bs.length:=(k7.mp n).1;unfold y1;simp[U]
def Ih (M:Mk X.K C ae) (c:wo X.K C) (n1:wq X.K C "rows") (n2:wq X.K C "places") (F:mS X.prog X.w X.K X.mg X.base kB k ae af ["self"] (pU X.K X.prog X.w)) (hr:ja (k+1) X.A) (hm:X.mg "Sheet" = some (.ref C)) (a:Binds X.K af ["self"] []) (hg:Gl X "Sheet" := by rfl) (hK:autoParam (X.K=K) bv) (hs:autoParam (nL (.Call (.Name "Sheet" p) [] [] q) (some (.Name y U)) g.line X.env=pure false) bv) (hf:autoParam (j8 X y) u') (hN:autoParam (X.N.Nodup) u0) (hi:autoParam (X.N[i]? = some y) bv) (hy:autoParam (Loc X.env.scope y) wx) :
  QS X K L (.Assign [.Name y U] (.Call (.Name "Sheet" p) [] [] q) g) (JZ (sD K X.prog X.w C) i):=by
 subst hK;refine PS.imp (Ur hN hi hy (jW' M F hr hg hm a .nil WU) hs hf) λD ar H hx=>bN hx λQ aw V E O h k1 k2 k3 k4=>?_;intro x v hx hd ne;refine⟨x,v,C,rfl,eT,by rw[dr ne,eT],c,n1,n2,λw d u S nv T R kp=>⟨rfl,?_⟩⟩;have px:u≠x:=λz=>by rw[z,eT] at R;cases R
 have rx:d≠x:=λz=>by rw[z,eT] at T;cases T
 rw[dr px] at R;rw[dr rx] at T;have pd:u≠v:=λz=>by rw[z,eT] at R;cases R
 have rd:d≠v:=λz=>by rw[z,eT] at T;cases T
 rw[dr pd] at R;rw[dr rd] at T;have Z:∀ b∈[x,v,d,u],H b=none:=by intro b a;simp only[dQ,sM,or_false] at a;rcases a with rfl|rfl|rfl|rfl<;>assumption
 have ab:d≠u:=λz=>by obtain⟨bs,b1,_⟩:=S.rows;obtain⟨xs,_,a2,_⟩:=S.places;rw[z,a2] at b1;cases b1
 have N:∀ b,b∉[x,v,d,u]->w b=H b:=λb a=>by simp only[dQ,sM,or_false,not_or] at a;rw[kp b a.1 a.2.2.1 a.2.2.2,dr a.1,dr a.2.1]
 have nt:∀ b o,H b=some o->b∉[x,v,d,u]:=λb o z m=>by rw[Z b m] at z;cases z
 have wf:Wf Q w:=⟨λb o z=>(N b (nt b o (O.wf.sub b o z))).trans (O.wf.sub b o z),λb W z=>by
  by_cases a:b∈[x,v,d,u]
  ·obtain⟨o,z2,_,n⟩:=S.at b a;rw[z] at z2;cases z2;exact absurd rfl (n W)
  ·rw[N b a] at z;exact O.wf.kU b W z⟩
 have sm:bE Q (tF Q [x,v] w):=λb o z=>by rw[cG λm=>nt b o (O.wf.sub b o z) (sL [d,u] m)];exact z
 have ZC:Wf (tF Q [x,v] w) w:=⟨kY wf,λb W z=>sm _ _ (wf.kU b W z)⟩
 have P:∀ c∈[x,v,d,u],tF (tF Q [x,v] w) [d,u] w c=w c:=λc Y=>by
  by_cases m:c∈[d,u]
  ·exact jT m
  ·rw[cG m,jT ((kA (s:=[x,v]).mp Y).resolve_right m)]
 have is:(sD X.K X.prog X.w C true []).is (tF Q [x,v] w) w x [d,u]:=⟨(λr z=>nomatch z),v,d,u,S.moves (λc ys z=>by
  by_cases Y:c∈[d,u]
  ·rw[jT Y];exact z
  ·rw[cG Y];exact ZC.kU c ys z) P,by rw[P x (by simp)];exact nv,rfl⟩
 have nb:∀ b∈V,b∉[x,v,d,u]:=λb a m=>(O.sr.own b a).ne (Z b m);have UZ:dA X.K (tF Q [x,v] w) aw ar w V:=⟨O.sr.gE sm λb a=>N b (nb b a),ZC,O.ti,λb m=>by rw[cG λq=>nb b m (sL [d,u] q)];exact O.own b m⟩
 obtain⟨dv,_,t3⟩:=UZ.S9 i (.ob is) (by simp[ab]) λb m=>⟨by
  simp only[dQ,sM,or_false] at m;rcases m with rfl|rfl
  ·rw[cG (by simp[rx,rd])];exact O.wf.sub.free (Z _ (by simp))
  ·rw[cG (by simp[px,pd])];exact O.wf.sub.free (Z _ (by simp)),λz=>nb b z (.tail _ (.tail _ m))⟩
 exact k1 _ w _ _ dv sm t3 (h x)
end
end L2.Q
namespace L2
def Vg(a c:Int)(n:Nat):It:=⟨λi _=>i<n,λi H x b=>b=H/\x=.int (a+i*c),λi _=>n<=i⟩
def t8{P:cy}{K:ay}(f:ai)(j c:Int)(n:Nat):Turn P w K C (Vg j c n) [f] f (λi h=>IsRangeIter h f (j+(i:Nat)*c) ((n:Int)-(i:Nat)) c) where
 mem:=by simp
 obj:=λi h a b g=>by
  have e:b=f:=by simpa using g
  subst e;exact⟨_,a,λv z=>by
   have M:Data.fields _=Data.cell v:=z;cases M⟩
 keep:=λi h m a k=>k f (by simp) _ a
 item:=by intro X u p x r i d s G H E I l a q;subst u p x;obtain⟨F,D,Q,B,A,y⟩:=l f (by simp);have W:=Walks.range (prog:=X.prog) (w:=X.w) (I.ok.hd r) f j c n;refine W.item i s _ _ q a λv m J O L N=>?_;obtain⟨t,rfl⟩:=O;have S:Inv X d G H { s with heap:=m,toks:=J }:=I.turned (λb o g e=>N b o (by simpa using g) e) F D B A y;exact⟨_,rfl,Se (s:={ s with heap:=m,toks:=J }) (n := "range_iterator") L rfl rfl (by decide) ⟨.int (j+i*c),H,S,⟨t,rfl⟩,⟨rfl,rfl⟩,L,λb g=>(l b g).1⟩⟩
 done:=by intro X u p x r i d s G H E I l a q;subst u p x;obtain⟨F,D,Q,B,A,y⟩:=l f (by simp);exact wpAny_pyNext_range_end (I.ok.hd r) a (by have:n<=i:=q;lia) λm R=>⟨rfl,I.turned (t':=s.toks) (λb o g e=>R b o g e) F D B A y⟩
 self:=λ_ _ _ _ _ a h=>wpAny_pyIter_rangeiter a h
def AV(a b c:Int):Nat:=(Builtin.Range.rangeSize a b c).toNat
def Nu(d:c = -1\/c=2):((AV a b c:Nat):Int)=Builtin.Range.rangeSize a b c:=by
 unfold AV Builtin.Range.rangeSize;rcases d with rfl|rfl
 ·rw[if_neg (by decide),show -(-1:Int)=1 from rfl];split<;>lia
 ·rw[if_pos (by decide)];split<;>lia
def Df(d:c = -1\/c=2)(h:-16777216<=a/\a<=16777216/\-16777216<=b/\b<=16777216):Builtin.Range.small a b c=true:=by
 unfold Builtin.Range.small Builtin.Range.rangeSize;rcases d with rfl|rfl
 ·simp only[Builtin.Range.rangeFitsLong,mn,VX,decide_eq_true_eq,beq_iff_eq,show ¬ (-1:Int)>0 by decide,if_false,show -(-1:Int)=1 from rfl];split<;>lia
 ·simp only[Builtin.Range.rangeFitsLong,mn,VX,decide_eq_true_eq,beq_iff_eq,show(2:Int)>0 by decide,if_true];split<;>lia
section
variable {X:Cx}{d:Expr}
def Pu(e:TA):TI:=λa H R=>e a H λb f=>∃ i j c:Int,b=[.int i,.int j,.int c]/\(c = -1\/c=2)/\(-16777216<=i/\i<=16777216/\-16777216<=j/\j<=16777216)/\R (Vg i c (AV i j c)) f
def yL (G:Gl X "range") (F:X.mg "range" = none) (J:PA X [a,b,c] U) (E:autoParam (fN [a,b,c] X.env=[(false,dn a X.env),(false,dn b X.env),(false,dn c X.env)]) bv) (y:autoParam (fN [b,c] X.env=[(false,dn b X.env),(false,dn c X.env)]) bv) :
  PI X d (.Call (.Name "range" p) [a,b,c] [] C) (Pu U):=by
 intro f s w H R I h;refine Call_ (B7 I G F boot_range (PyProof.Rows.callWith_type1 (cK (J C f s w H _ I h) λN x K=>L2.eM K λM z L A D=>?_) (by rw[E,y]) (by rw[y];rfl)));obtain⟨i,j,c,e,l,m,q⟩:=D;subst e
 cases A with
 |cons r g =>
  cases g with
  |cons B g =>
   cases g with
   |cons k g =>
    cases g;obtain⟨t,rfl⟩:=r;obtain⟨u,rfl⟩:=B;obtain⟨v,rfl⟩:=k;refine call_range_3 (by rcases l with rfl|rfl<;>decide) ?_ (Or.inl (PyProof.noPylong_small (by lia)));refine wpAny_pyIter_range (IsRange.new ..) (Df l m) ?_;have n:Inv X f w z { x with heap:=x.heap.push { cls:=.type "range",data:=.fields #[.int i t,.int j u,.int c v] } }:=L.kept λb o e=>eS _ e;refine⟨_,[_],_,_,z,rfl,n.kept λb o e=>eS _ e,t8 _ i c (AV i j c),?_,λb m=>?_,q⟩
    ·show IsRangeIter _ _ (i+0*c) (((AV i j c:Nat):Int)-0) c;rw[Nu l];simp only[Int.natCast_zero,Int.zero_mul,Int.add_zero,Int.sub_zero];exact jI _ rfl
    ·have e:=hV.mp m;subst e;exact n.IB (cE _) (n.bT.fresh (cE _))
end
end L2
namespace L2.Q
def ZD(a c:Int)(n:Nat):List D:=(List.range n).map λi=>.int (a+(i:Nat)*c)
def Fo(e d b:WE):WI:=λa Q=>e a λ_ x=>d a λ_ y=>b a λ_ z=>match x with
 |.int i=>match y with
  |.int j=>match z with
   |.int c=>(c = -1\/c=2)/\(-16777216<=i/\i<=16777216/\-16777216<=j/\j<=16777216)/\AV i j c<=16777216/\Q (ZD i c (AV i j c))
   |_=>False
  |_=>False
 |_=>False
def Dh(b c:Int)(n:Nat):fD (Vg b c n) ((List.range n).map λi=>V.int (b+(i:Nat)*c)) (λ_=>True) where
 go:=λi H _ h=>by simpa[Vg] using h
 pT:=λi H x d _ a h=>by
  have a:i<n:=by simpa using a
  obtain⟨rfl,rfl⟩:=h;refine⟨rfl,?_⟩;simp[a]
 stop:=λH _=>by simp[Vg]
theorem vD{K:ay}(a c:Int):∀ (l:List Nat),b9 K H (l.map λi=>.int (a+(i:Nat)*c)) (l.map λi=>V.int (a+(i:Nat)*c))
 |[]=>.nil
 |_ :: l=>.cons (.int _) (vD a c l)
section
variable {X:Cx}{K:ay}{e b a q:Expr}{l o f:WE}{g p:Pos}
def Jy (V:X.mg "range" = none) (Y:QE X K e l) (NC:QE X K b o) (B:QE X K a f) (W:Gl X "range" := by rfl) (T:autoParam (fN (e :: [b,a]) X.env=(false,dn e X.env) :: fN [b,a] X.env) bv) (P:autoParam (fN (b :: [a]) X.env=(false,dn b X.env) :: fN [a] X.env) bv) (UG:autoParam (aR X a []) bv) (U:autoParam (fN [e,b,a] X.env=[(false,dn e X.env),(false,dn b X.env),(false,dn a X.env)]) bv) (F:autoParam (fN [b,a] X.env=[(false,dn b X.env),(false,dn a X.env)]) bv):QI X K q (.Call (.Name "range" p) [e,b,a] [] g) (Fo l o f):=by
 refine PI.imp (yL W V (lP Y (lP NC (lP B og UG) P) T) U F) λae H R S=>iF S λHs x s Q z h k=>⟨Hs,x,s,_,z,h,λv H1 aT m d As E L f1 O=>⟨aT,x,s,_,z.grow E,O,λu H2 aS n y Bs D J f2 N=>⟨aS,x,s,_,(z.grow E).grow D,N,λu3 H3 I n3 y3 ab w G f3 t=>?_⟩⟩⟩
 have r:=((L.grow D).grow w).rep w.wf;have M:=(J.grow w).rep w.wf;have A:=G.rep w.wf
 cases r with
 |int i=>cases M with
  |int j=>cases A with
   |int c =>obtain⟨C,Z,h3,t⟩:=t;exact⟨i,j,c,rfl,C,Z,k _ H3 I _ ((E.trans D).trans w) (.seq (vD i c _) (fD.imp (Dh _ _ _) λ_ _=>trivial)) (by rw[cx,T1,kQ];lia) t⟩
   |_=>exact t.elim
  |_=>exact t.elim
 |_=>exact t.elim
end
abbrev GE:=Str × Tok × Str × Tok
def ZE(w:c9)(e:GE):DictEntry:=⟨Uc w.params e.1,.str e.1 e.2.1,.str e.2.2.1 e.2.2.2⟩
structure GlD(w:c9)(K:ay)(mg:Str->Option ah)(x:Str)(ae:List (Str × Str)):Prop where
 ex:∃ (a:ai) (es:List GE) (n:Nat),mg x=some (.ref a)/\K.lookup a=some { cls:=.type "dict",data:=.dict (es.map (ZE w)).toArray n }/\es.map (fun e=>(e.1,e.2.2.1))=ae
def KP(c:List (Str × Str))(b:WE):WE:=λa Q=>b a λ_ d=>∃ y v,d=.str y/\c.lookup y=some v/\v.length<=bG/\Q .sh (.str v)
def H_{a:List GE}{y v:Str}(h:(a.map λe:GE=>(e.1,e.2.2.1)).lookup y=some v)(P:cy)(w:c9):∃ t,findBy (i3 P w).is (a.map (ZE w)).toArray (.inr y)=some (.str v t):=by
 unfold findBy;rw[List.find?_toArray]
 induction a with
 |nil=>simp at h
 |cons e a b =>
  rw[eR,VB] at h;rw[eR,D1];have c:(i3 P w).is (.inr y) (ZE w e).key=decide (y=e.1):=by refine(KeyKind.is_eq_decide (V3 P w e.1 e.2.1) (.inr y)).trans ?_;by_cases z:y=e.1<;>simp[z]
  rw[c];by_cases z:y=e.1
  ·rw[z,beq_self_eq_true] at h;cases h;rw[decide_eq_true z];exact⟨_,rfl⟩
  ·rw[beq_eq_false_iff_ne.mpr z] at h;rw[decide_eq_false z];exact b h
section
variable {X:Cx}{K:ay}{e:Expr}{c:WE}{x:Str}{g:List (Str × Str)}{p b:Pos}
def ZF(h:GlD X.w X.K X.mg x g)(he:QE X K e c)(U:autoParam (Gl X x) bv)(S:autoParam (dw x) tw)(Z:WK e:=by exact λ_ _=>rfl):QE X K (.Subscript (.Name x p) e b) (KP g c):=by
 obtain⟨a,G,n,o,C,rfl⟩:=h.ex;intro i s M H Qv I W;obtain⟨L,N,A,Q,O,h,f⟩:=W;refine eq' PySem.F.slot_dict_getitem.lookup Z (Wb I U o (cK (he i s M H (λy u=>∃ k m d w,gd L H k u/\RM K k u m d y w/\∃ z v,d=.str z/\(G.map λe:GE=>(e.1,e.2.2.1)).lookup z=some v/\v.length<=bG/\Q .sh (.str v)) I ⟨L,N,A,_,O,h,λv H1 k m d w j B f1 T=>⟨k,m,d,w,j,B,T⟩⟩) λiv P dE=>?_) S);obtain⟨y,u,J,R,k,m,d,w,j,B,z,v,ed,l,V,q⟩:=dE;subst ed;have r:=B.rep j.wf;cases r;have E:=J.iN _ _ C;obtain⟨t,Y⟩:=H_ l X.prog X.w;have F:P.heap.MapOf (i3 X.prog X.w) a (findBy (i3 X.prog X.w).is (G.map (ZE X.w)).toArray):=⟨_,_,n,E,⟨rfl,rfl,rfl⟩,rfl,λen D=>by
  obtain⟨ge,_,rfl⟩:=fq.mp (List.mem_toArray.mp D);exact⟨.inr ge.1,V3 _ _ _ _,rfl⟩,λ_=>rfl⟩
 obtain⟨tk,rfl⟩:=R;exact⟨F.typeIs,wpAny_getItem_of (V3 _ _ _ _) F Y ⟨.str v,u,J.tok _,⟨t,rfl⟩,(Fin.after f j).sh j.wf (.str V) q⟩⟩
end
end L2.Q
namespace L2.Q
open PySem.W
def yS(d:WT)(i:Nat)(c:WE):WS:=λE a=>d a λb=>if b=true then gW i E a else c a E.rt
section
variable {X:Cx}{K:ay}{L:Str->Hp->Prop}{e j:Expr}{f k:Pos}{g:WG}{b:WS}
def uH(i:Nat)(M:S_ X K j I wi)(N:∀ {C n l c} {q:(tn++cn).Nodup},QG (bh X o C (tn++cn) n l c) K j g) (Y:∀ {C n l c},Zo (bh X o C (tn++cn) n l c) K ab tc) (Q:∀ {C n l c},QE (bh X o C (tn++cn) n l c) K ae te)(u:autoParam (nL (.ListComp ae [⟨j,I,ab,0⟩] o f) (some (.Name x U)) WX.line X.env=pure true) bv) (J:autoParam (∀ x,LJ I X.env x=pure x) vw) (P:autoParam (j8 X x) u') (S:autoParam (X.N.Nodup) u0) (W:autoParam (X.N[i]? = some x) bv) (t:autoParam (Loc X.env.scope x) wx) (F:(tn++cn).Nodup:=by decide +kernel) (O:fj X o tn cn ix:=by exact fj.by (by assumption) (by decide +kernel)) (R:autoParam (X.calm=true) bv) :
  QS X K L (.Assign [.Name x U] (.ListComp ae [⟨j,I,ab,0⟩] o f) WX) (G8 i (uO wi g tc te tn.length ix)) :=
 PS.imp (xF S W t R M O (λ_ _ _ _=>N (q:=F)) (λ_ _ _ _=>Y) (λ_ _ _ _=>Q) u J P) λD Z H t=>bN t λV z r E w h G k2 k3 k4=>by refine wX ⟨V,z,r,_,w,h,λv y aT m d As p B f1 s=>?_⟩;obtain⟨a,s⟩:=s;obtain⟨T,A⟩:=((w.grow p).iQ a).set i (m:=.sh) ⟨rfl,B.rep p.wf⟩ oo (λ_ m=>nomatch m) rfl;exact G _ y y _ T (p.sh.trans p.wf.sub) A s
def Ez(R:QT X K c C)(S:PE X I (kr i))(Q:QE X K e o):QS X K L (.Return (some (.IfExp c I e k)) f) (yS C i o) :=
 PS.imp (RA (iu' R S Q)) λD Z H P=>bN P λW t p E A h k1 k2 U u=>⟨W,t,p,_,A,h,λb J y s l=>by
  have n:=A.grow s
  cases b with
  |false=>exact⟨y,t,p,_,n,l,λv Y V m d z F M G N=>u v Y V m d z (s.sh.trans F.sh) F.wf M G.1 (λa q=>(G.2 a q).1) N⟩
  |true =>
   have l:gW i E t:=l;unfold gW at l;split at l
   ·rename_i d x;obtain⟨v,w,r⟩:=n.sr.get x;exact⟨v,w,u v J y .sh d [] s.sh n.wf ⟨rfl,r⟩ oo (λa q=>nomatch q) l⟩
   ·rename_i T d x;obtain⟨v,z,w,O,r,B⟩:=n.sr.at x;exact⟨v,w,u v J y (.ow T) d z s.sh n.wf ⟨r,O⟩ (B.nodup n.ti) (λa q=>n.own a (B.subset q)) l⟩
   ·exact l.elim⟩
end
end L2.Q
end
namespace L2.Q.R
open L2.Q PySem
section
variable {a:L2.Q.Env}{E:gC}{b:WS}
def Ow:yS C i o E a=C a λb=>de b (f:=λb=>if b=true then gW i E a else o a E.rt) ⟨⟩:=rfl
end
end L2.Q.R
section
open PySem PySem.Spec PyProof.Rows
namespace L2
def oH'(K:ay)(h:TE)(f g e:TO):TE:=λb H Q=>h b H λx m=>f b m λl j=>g b j λu i=>e b i λk c =>
 ∃ a d,x=.ref a/\l=none/\u=none/\k=some (-1)/\eP K c a d/\∀ p,c p=none->Q (.ref p) (upd c p (.lst d.reverse))
section
variable {X:Cx}{e c:Expr}{n:TE}{f g:Option Expr}{j m i:TO}{d o:Pos}
def Lq(he:PE X e n)(U:PO X f j)(Y:PO X g m)(Z:PO X (some c) i):PE X (.Subscript e (.Slice f g (some c) o) d) (oH' X.K n j m i):=by intro p s y H Q I h;refine Subscript_ (cK (he p s y H _ I h) λv M w=>L2.eM w λx H1 I1 N S=>?_);refine wpAny_Slice (cK (U p M y H1 _ I1 S) λF L w=>L2.eM w λl H2 I2 W R=>cK (Y p L y H2 _ I2 R) λD K w=>L2.eM w λu H3 I3 T P=>cK (Z p K y H3 _ I3 P) λE t w=>L2.eM w λk H4 I4 V O=>?_);obtain⟨a,J,rfl,rfl,rfl,rfl,C,q⟩:=O;cases N;have B:Inv X p y H4 { t with heap:=t.heap.push { cls:=.type "slice",data:=.fields #[F,D,E] } }:=I4.kept (t':=t.toks) λb ob q=>eS _ q;obtain⟨its,r,z,G⟩:=B.list C;have A:its.length=J.length:=r.length.symm;show bq (aE X.prog X.w) X.A (subscriptTail e (.Slice f g (some c) o) (.ref a) (.ref t.heap.objs.size)) (EP X p y Q) X.xe { t with heap:=t.heap.push { cls:=.type "slice",data:=.fields #[F,D,E] } };refine tail_any (ops:=[.ref a,.ref t.heap.objs.size]) z.isList.typeIs PySem.slot_list_getitem.lookup ?_ (by with_unfolding_all rfl);refine wpAny_getItem_list_slice z.isList (Heap.IsSliceOf.new ..) W T V (by decide) ?_ (by rw[kg,A];exact G);rw[PySem.W.krv_pick];have I6:=B.WC (its:=its.reverse) (t':=t.toks) r.rev (by rw[vE];exact G);refine⟨.ref _,_,?_,rfl,q _ (B.bT.fresh (cE _))⟩;simpa using I6
end
end L2
namespace L2.Q
def Ew{K:ay}{H:Hp}{c:List D}:∀ {g f e},b9 K H c f->b9 K H g e->b9 K H (c.reverse++g) (f.reverse++e):=by
 induction c with
 |nil=>intro _ _ _ h r;cases h;exact r
 |cons d c i=>intro _ _ _ h r;cases h with|cons a b=>rw[pS,pS,r9,r9];exact i b (.cons a r)
section
variable {X:Cx}{K:ay}{e i:Expr}{d:WE}{j n:Option Expr}{b c a:WO}{g o:Pos}
def cw'(d:WE)(b c a:WO):WE:=λf Q=>d f λ_ x=>b f λl=>c f λu=>a f λk=>R.Tp x λh=>l=none/\u=none/\k=some (-1)/\eh h=true/\Q (.ow true) (.list h.reverse)
def N6(C:QE X K e d)(F:QO X K j b)(Z:QO X K n c)(V:QO X K (some i) a)(I:autoParam (X.K=K) bv):QE X K (.Subscript e (.Slice j n (some i) o) g) (cw' d b c a):=by
 subst I;refine PE.imp (Lq C F Z V) λab H Qv E=>iF E λHs t r Q w h f=>?_;refine⟨Hs,t,r,_,w,h,λv H1 aT m x As D O f1 S=>⟨aT,t,r,_,w.grow D,S,λl H2 aS B R=>⟨aS,t,r,_,(w.grow D).grow B,R,λu H3 U G P=>⟨U,t,r,_,((w.grow D).grow B).grow G,P,λk H4 AI A y=>?_⟩⟩⟩⟩;have N:=((O.grow B).grow G).grow A;have J:Fin X.K AI H4 Q Qv:=Fin.after f (((D.trans B).trans G).trans A);have M:=N.rep A.wf
 cases M with
 |list z s q =>obtain⟨F,T,Y,fl,y⟩:=y;refine⟨_,_,rfl,F,T,Y,s,λp W=>?_⟩;have L:=Ew q .nil;rw[ng,ng] at L;exact J.lst A.wf (by have:=q.length;rw[vE];lia) L (iw.mpr λx E=>iw.mp fl x (List.mem_reverse.mp E)) y p W
 |_=>exact y.elim
end
end L2.Q
end
namespace L2.Q.R
open L2.Q PySem
def Sx{g:WE}{d e c:WO}{a:L2.Q.Env}{Q:Md->L2.Q.D->Prop}:cw' g d e c a Q=g a λ_ x=>d a λl=>e a λu=>c a λk=>de x (f:=λx=>Tp x λb=>l=none/\u=none/\k=some (-1)/\eh b=true/\Q (.ow true) (.list b.reverse)) ⟨⟩:=rfl
end L2.Q.R
section
open PySem PySem.Spec PyProof.Rows
namespace L2.Q
def bQ'.mk{P:cy}{w:c9}{K:ay}{e:Str->Option ah}{a:d5}{x:Str}{c:kf}{f:ai}{p:sF}{g:gv}{t:WS}(m:e x=some (.ref f))(F:vi K x x c f p)(N:List Str)(n k:Nat)(u:j3 (N.length) g t)(y:∀ {d} {A} {b} {s} {H} {E},{_:ja k (A.deeper (ri x (fF c) s.heap.objs.size f d))}->{_:(A.deeper (ri x (fF c) s.heap.objs.size f d)).units+64<f7}->{_:N.Nodup} -> {_:(se kB P w K e a N x (fF c) f d A b s H E).uS.env.scope=fF c/\(se kB P w K e a N x (fF c) f d A b s H E).uS.N=N}->y8 (se kB P w K e a N x (fF c) f d A b s H E).uS K L0 (oz c) t)(S:Bi N (N.take n) (fF c):=by exact⟨rfl,rfl,rfl,by decide +kernel,rfl,by decide +kernel,by decide +kernel⟩) (v:autoParam ((N.take n).length=n) bv) (B:∀ r j q D d z us,us.length=(N.take n).length->bindArgs (tT x x (ya c) (oz c) (fF c) .none r j q D d z) ⟨us,[]⟩=pure ((N.take n).zip us):=by
   intro _ _ _ _ _ _ us h;iterate 13 all_goals rcases us with _|⟨_,us⟩<;>first|rfl|(simp at h;done)|skip) (i:∀ ds Q,g ds Q->ds.length=n:=by intro ds Q h;(repeat obtain⟨_,h⟩:=h);subst_vars;rfl):SK P w K e a (k+1) x (N.take n) (gJ K g)/\mS P w K e a kB (k+1) f p (N.take n) (gJ K g) :=
 have G:=bQ'.ok F S (λds Q h=>(i ds Q h).trans v.symm) (λ_ _ _ _ _ _ l=>@y _ _ _ _ _ _ l l.units S.nd ⟨rfl,rfl⟩) u
 ⟨F.cal m G B,G⟩
def ct'.mk{P:cy}{w:c9}{K:ay}{i:Str->Option ah}{d:d5}{C:ai}{x b:Str}{e:kf}{f:ai}{p:sF}{j:List (List RI)->gv}{t:WS}(F:vi K x b e f p)(N:List Str)(n k:Nat)(q:∀ a rs ds Q,j rs ds Q->t { nx:=λ_=>Q .sh .non,rt:=Q } (jd N.length a (sD K P w C false rs) ds)) (u:∀ {g} {A} {c} {s} {H} {E},{_:ja k (A.deeper (ri b (fF e) s.heap.objs.size f g))}->{_:(A.deeper (ri b (fF e) s.heap.objs.size f g)).units+64<f7}->{_:N.Nodup} -> {_:(se kB P w K i d N b (fF e) f g A c s H E).uS.env.scope=fF e/\(se kB P w K i d N b (fF e) f g A c s H E).uS.N=N}->y8 (se kB P w K i d N b (fF e) f g A c s H E).uS K L0 (oz e) t) (S:Bi N (N.take n) (fF e):=by exact⟨rfl,rfl,rfl,by decide +kernel,rfl,by decide +kernel,by decide +kernel⟩) (r:autoParam ((N.take n).length=n) bv) (l:∀ rs ds Q,j rs ds Q->ds.length+1=n:=by intro rs ds Q h;(repeat obtain⟨_,h⟩:=h);subst_vars;rfl):mS P w K i d kB (k+1) f p (N.take n) (pC K P w C j) :=
 ct'.ok F S (λrs ds Q h=>(l rs ds Q h).trans r.symm) (λ_ _ _ _ _ _ m=>@u _ _ _ _ _ _ m m.units S.nd ⟨rfl,rfl⟩) q
def KS(b d:Hp):Hp:=λc=>match d c with
 |some (.tup a)=>some (.tup a)
 |_=>b c
def GC(b:bE Hs H'):bE Hs (KS Hs H')/\Wf (KS Hs H') H'/\∀ c,(∀ a,H' c≠some (.tup a))->KS Hs H' c=Hs c:=by
 have d:∀ c,(∀ a,H' c≠some (.tup a))->KS Hs H' c=Hs c:=λc h=>by
  unfold KS;split
  ·rename_i a e;exact absurd e (h a)
  ·rfl
 refine⟨λc o q=>?_,⟨λc o q=>?_,λc a q=>by unfold KS;rw[q]⟩,d⟩
 ·unfold KS;split
  ·rename_i a e;rw[b c o q] at e;exact e ▸ rfl
  ·exact q
 ·unfold KS at q;split at q
  ·rename_i a e;rw[e];exact q
  ·exact b c o q
abbrev SpW:=List (List RI)->List D->(List (List RI)->Int->Prop)->Prop
abbrev WAW:=Env->(List D->Prop)->Prop
end L2.Q
end
namespace L2.Q.R
open L2.Q PySem
end L2.Q.R
section
open PySem PySem.Spec PyProof.Rows
namespace L2.Q
open PySem.W
def GN(c:List Int):NV where
 is:=λ_ H a f=>f=[a]/\H a=some (.lst (c.map V.int))/\c.length<=bG
 gE:=λ_ k zq=>by obtain⟨e,h,z⟩:=zq;subst e;exact⟨rfl,(k _ eK).trans h,z⟩
 own:=λzj b d=>by obtain⟨e,h,_⟩:=zj;rw[e,hV] at d;subst d;exact⟨_,h,λ_ z=>nomatch z⟩
abbrev k6(a:ai)(b:List Int):Option Sl:=some (.ob a (GN b))
section
variable {K:ay}{Hs H f h:Hp}{d:Env}{j:St}{c:List ai}{i:Nat}{a:ai}{k ys:List Int}
def dA.ls(b:dA K Hs d j H c)(e:d[i]? = some (k6 a k)):j[i]? = some (some (.ref a))/\H a=some (.lst (k.map V.int))/\k.length<=bG/\a∈c:=by obtain⟨_,m,⟨rfl,l,z⟩,g,_⟩:=SR.cs' i b.sr e b.ti;exact⟨m,l,z,g.subset eK⟩
def dA.Dv(l:dA K Hs d j H c)(e:d[i]? = some (k6 a k))(s:bE Hs f)(w:Wf f h)(t:h a=some (.lst (ys.map V.int)))(z:ys.length<=bG)(p:∀ b∈c,b≠a->h b=H b)(m:∀ b∈c,f b=none):dA K f (d.set i (k6 a ys)) j h c:=by obtain⟨_,_,⟨rfl,_,_⟩,_,g⟩:=SR.cs' i l.sr e l.ti;exact⟨g f h _ s ⟨rfl,t,z⟩ λb r n=>p b r λq=>n (q ▸ eK),w,l.ti,m⟩
end
def xP(i:Nat):WE:=λc Q=>∃ a b,c[i]? = some (k6 a b)/\Q .bo (.list (b.map .int))
def Cp(i:Nat):WS:=λE b=>∀ a,E.nx (b.set i (k6 a []))
abbrev xt:=Env->(D->Env->Prop)->Prop
abbrev KW:=Env->(List D->Env->Prop)->Prop
def ZG(K:ay)(t:xt):TE:=λc H j=>∃ g e a Q,dA K g e c H a/\t e Q /\
 ∀ v h b d f i,bE g b->dA K b f c h i->d.flat=true->Rep K b d v->Q d f->j v h
def O_(K:ay)(t:KW):TA:=λd H k=>∃ h e a Q,dA K h e d H a/\t e Q /\
 ∀ f i c b g j,bE h c->dA K c g d i j->eh b=true->b9 K c b f->Q b g->k f i
abbrev tI(X:Cx)(K:ay)(e:Expr)(t:xt):Prop:=PE X e (ZG K t)
abbrev ZH(X:Cx)(K:ay)(a:List Expr)(t:KW):Prop:=PA X a (O_ K t)
def GO(b:WE):xt:=λa Q=>b a λ_ d=>d.flat=true/\Q d a
def Eo:KW:=λa Q=>Q [] a
def mj(b:xt)(t:KW):KW:=λa Q=>b a λd c=>t c λf e=>Q (d :: f) e
def Cm(t:KW):xt:=λb Q=>t b λa c=>a.length<=bG/\Q (.tup a) c
def yX(i:Nat):xt:=λb Q=>∃ a c x,b[i]? = some (k6 a (c++[x]))/\Q (.int x) (b.set i (k6 a c))
def t6(i:Nat)(t:xt):WS:=λE c=>t c λd e=>∃ a b,e[i]? = some (k6 a b)/\E.rt (.wb a (GN b)) d
def En(j:Nat)(t:xt):WS:=λE a=>t a λd b=>E.nx (b.set j (some (.sh d)))
abbrev OW:=List Int->List D->(List Int->D->Prop)->Prop
abbrev K0:=Env->(List D->Prop)->Prop
def tQ:K0:=λ_ Q=>Q []
def Gh(b:WE)(t:K0):K0:=λa Q=>b a λ_ d=>d.flat=true/\t a λc=>Q (d :: c)
def oI'(K:ay)(i:Nat)(t:K0):TA:=λj H l=>∃ g b c Q a k,dA K g b j H c/\b[i]? = some (k6 a k)/\t b Q/\∀ e h f d,gd g H f h->eh d=true->b9 K f d e->Q d->l (e++[.ref a]) h
abbrev ZI(X:Cx)(K:ay)(i:Nat)(a:List Expr)(t:K0):Prop:=PA X a (oI' K i t)
def lL(i:Nat)(f:OW)(t:K0):xt:=λb Q=>∃ a c,b[i]? = some (k6 a c)/\t b λg=>f c g λe d=>Q d (b.set i (k6 a e))
def LK(j:E1)(g h:Nat)(t:xt):WS:=λE e=>(∃ l m,e[g]? = some (k6 l m))/\(∃ a b,e[h]? = some (some (.ob a (j true b))))/\t e λd i=>∃ a b l f r,i[h]? = some (some (.ob a (j true b)))/\i[g]? = some (k6 l f)/\b.length<bG/\f.length<bG /\
 d=qE r/\fI 12 (qE r)=true/\∀ c k,(r∈b/\c=b\/r∉b/\c=b++[r])->c[k]? = some r->E.nx ((i.set h (some (.ob a (j true c)))).set g (k6 l (f++[((k:Nat):Int)])))
def Kp(a:ai)(H b:Hp):Prop:=∀ c o,c≠a->H c=some o->b c=some o
def tZ(K:ay)(i:OW):Sp:=λh H j _=>∃ a e f g Q,h=g++[.ref a]/\H a=some (.lst (e.map V.int))/\e.length<=bG/\eh f=true/\b9 K H f g/\i e f Q /\
 ∀ v b c d,Kp a H b->b a=some (.lst (c.map V.int))->c.length<=bG->d.flat=true->Rep K b d v->Q c d->j v b
def E2(a:ai)(Q:List Int->D->Prop):Md->D->Prop
 |.wb b p,d=>d.flat=true/\∃ c,b=a/\p=GN c/\Q c d
 |_,_=>False
def gh(n:Nat)(a:ai)(c:List Int)(b:List D):Env:=b.map (λd=>some (.sh d))++(k6 a c :: List.replicate (n-(b.length+1)) none)
theorem SR.gr'{K:ay}{Hs H:Hp}:∀ a:St,SR K Hs H (List.replicate a.length none) a []
 |[]=>.nil
 |_ :: a=>.non (SR.gr' a)
def SR.pre{K:ay}{e H:Hp}{c:List D}{b:List V}{g:Env}{f:St}{a:List ai}(s:SR K e H g f a)(r:b9 K e c b):SR K e H (c.map (λd=>some (.sh d))++g) (b.map some++f) a :=
 b9.ind (m:=λc b=>SR K e H (c.map (λd=>some (.sh d))++g) (b.map some++f) a) s (λ_ _ _ _ h _ i=>.sh h i) r
def K2(a:ai)(H:Hp):Hp:=λc=>if c=a then none else H c
def Ke{a:ai}{H b:Hp}(s:bE (K2 a H) b):Kp a H b:=λc o n e=>s c o (by unfold K2;rw[if_neg n];exact e)
section
variable {P:cy}{w:c9}{K:ay}{i:Str->Option ah}{b:d5}{N:List Str}{E:XK}{g:OW}{t:WS}{j:List V}{H:Hp}{l:VK}
def xN(h:tZ K g j H l E)(W:∀ a k u Q,k.length<=bG->g k u Q->t { nx:=λ_=>False,rt:=E2 a Q } (gh N.length a k u)) :
  BF K L0 t { nx:=λ_ p=>l .non p,rt:=l } (start N j) H:=by
 obtain⟨a,k,u,R,Q,rfl,e,z,f,F,V,y⟩:=h;have X:=F.length;have B:∀ c x,H c=some (.tup x)->K2 a H c=some (.tup x):=λc x q=>by unfold K2;rw[if_neg λn=>by rw[n,e] at q;cases q];exact q
 refine⟨K2 a H,gh N.length a k u,[a],{ nx:=λ_=>False,rt:=E2 a Q },⟨?_,⟨λc o q=>?_,B⟩,by simp,λc h=>?_⟩,W a k u Q z V,?_,?_,?_,?_,λ_ _ _ _=>trivial⟩
 ·unfold gh start;rw[kS,kz,X,r9];exact SR.pre (.ob (As:=[a]) (tot:=[]) ⟨rfl,e,z⟩ (by have n:=SR.gr' (K:=K) (Hs:=K2 a H) (H:=H) (List.replicate (N.length-(R.length+1)) none);rwa[Z8] at n)) (F.fY B f)
 ·unfold K2 at q;split at q
  ·cases q
  ·exact q
 ·rw[hV.mp h];unfold K2;rw[if_pos rfl]
 ·exact λJ p A L G s D q=>q.elim
 ·exact λJ p A L G s D q=>q.elim
 ·exact λJ p A L G s D q=>q.elim
 ·intro v p A m d As s O r Z T q;have q:E2 a Q m d:=q;unfold E2 at q;split at q
  ·obtain⟨Y,M,rfl,rfl,S⟩:=q;obtain⟨r,_,e,z⟩:=r;exact y v p M d (Ke (s.trans O.sub)) e z Y r S
  ·exact q.elim
def oJ'.mk{x:Str}{d:kf}{f:ai}{O:sF}(m:i x=some (.ref f))(F:vi K x x d f O)(N:List Str)(n k:Nat)(u:∀ q r Q,g q r Q->r.length+1=n)(J:∀ a q r Q,q.length<=bG->g q r Q->t { nx:=λ_=>False,rt:=E2 a Q } (gh N.length a q r)) (M:∀ {p:ah} {A:fz} {c:List PySem.Env} {s:aI} {H:Hp} {E:XK},{_:ja k (A.deeper (ri x (fF d) s.heap.objs.size f p))}->{_:(A.deeper (ri x (fF d) s.heap.objs.size f p)).units+64<f7}->{_:N.Nodup} -> {_:(se kB P w K i b N x (fF d) f p A c s H E).uS.env.scope=fF d/\(se kB P w K i b N x (fF d) f p A c s H E).uS.N=N}->y8 (se kB P w K i b N x (fF d) f p A c s H E).uS K L0 (oz d) t) (S:Bi N (N.take n) (fF d):=by exact⟨rfl,rfl,rfl,by decide +kernel,rfl,by decide +kernel,by decide +kernel⟩) (L:autoParam ((N.take n).length=n) bv) (T:∀ (G y D:ah) (V:Option ai) (p R:ah) (us:List ah),us.length=(N.take n).length->bindArgs (tT x x (ya d) (oz d) (fF d) .none G y D V p R) ⟨us,[]⟩=pure ((N.take n).zip us):=by
   intro _ _ _ _ _ _ us h;iterate 13 all_goals rcases us with _|⟨_,us⟩<;>first|rfl|(simp at h;done)|skip):SK P w K i b (k+1) x (N.take n) (tZ K g) :=
 F.cal m (F.ok S (λj H Q E zq=>by obtain⟨a,q,r,us,W,e,_,_,_,B,v,_⟩:=zq;rw[e,kz,<- B.length,L];exact u q r W v) λp A c s H j Q E z v=>⟨_,@M _ _ _ _ _ _ z z.units S.nd ⟨rfl,rfl⟩,xN v J⟩) T
end
section
variable {X:Cx}{K:ay}{E:XK}{e:Expr}{A:List Expr}{I:WE}{B:xt}{J:KW}{G:K0}{n w M p:Pos}{L:Str->Hp->Prop}{i:Nat}
def vd(j:PE X e (kr i)):QE X K e (xP i):=PE.imp j λm H s g=>iF g λt r d Q b h f=>by obtain⟨a,c,e,q⟩:=h;obtain⟨l,k,z,_⟩:=b.ls e;exact⟨_,l,Fin.bo f b.wf (.list (by rw[cx];exact z) (.inl (.inl k)) (ints_rep c)) q⟩
def yU(i:Nat){y:Str}{c:Pos}(T:autoParam (X.K=K) bv)(s:autoParam (nL (.List [] p) (some (.Name y c)) n.line X.env=pure false) bv)(u:autoParam (j8 X y) u')(x:autoParam (X.N.Nodup) u0)(t:autoParam (X.N[i]? = some y) bv)(q:autoParam (Loc X.env.scope y) wx) :
  QS X K L (.Assign [.Name y c] (.List [] p) n) (Cp i):=by
 refine PS.imp (Ur x t q (aM' og) s u) λD O H r=>bN r λN P j E d h l S R Q=>⟨gy _,λa f=>?_⟩
 have g:=NW (o:=.lst []) d.wf f λ_ z=>nomatch z;obtain⟨F,_,k⟩:=(d.grow g).S9 i (.ob (p:=GN []) (As:=[a]) ⟨rfl,eT,gy _⟩) (by simp) λb v=>by rw[hV.mp v];exact⟨d.wf.sub.free f,λm=>(d.sr.own a m).ne f⟩
 exact l _ _ N _ F (bE.refl _) k (h a)
def tY(h:QE X K e I):tI X K e (GO I):=PE.imp h λt H x l=>by obtain⟨r,g,a,Q,j,h,f⟩:=l;exact⟨r,g,a,_,j,h,λv s q m d y c k u b=>f v s q d g a c.sh (j.grow c) b.1 (k.flat c.wf b.1) b.2⟩
def F_:ZH X K [] Eo:=PA.imp og λj H k d=>by obtain⟨g,b,a,Q,c,h,f⟩:=d;exact f [] H g [] b a (bE.refl _) c rfl .nil h
def lQ(z:tI X K e B)(y:ZH X K A J)(x:autoParam (aR X e A) bv):ZH X K (e :: A) (mj B J):=PA.imp (lP z y x) λZ H o u=>by obtain⟨V,c,a,Q,j,h,f⟩:=u;exact⟨V,c,a,_,j,h,λv C S d t Y k s O m r=>⟨S,t,Y,_,s,r,λg W T R F P b D N l q=>f (v :: g) W T (d :: R) F P (k.trans b) D (by simp[eh,O,N]) (.cons (m.same b) l) q⟩⟩
def Fi{j}(h:ZH X K A J):tI X K (.Tuple A j n) (Cm J):=PE.imp (dM' h) λy H F r=>by obtain⟨v,d,a,Q,k,h,f⟩:=r;refine⟨v,d,a,_,k,h,λvs N D u q x l c t b m=>?_⟩;have z:=b.length;refine⟨by lia,λp s=>?_⟩;have g:=Zh (vs:=vs) c.wf s;exact f _ _ _ (.tup u) q x (l.trans g.sh) (c.grow g) t (.tup (by lia) eT (b.same g.sh)) m.2
def vK (u:PE X e (kr i)) (t:autoParam (X.K=K) bv) (k:autoParam (t9 e "pop" X.env (dn e X.env)=dn e X.env) bv) (c:autoParam ((w.endLine == M.line)=true) bv):tI X K (.Call (.Attribute e "pop" w) [] [] M) (yX i):=by subst t;refine PE.imp (ei' PySem.F.plainAttrs_list PySem.F.slot_list_pop PySem.F.type_list_pop ej' u k c) λD H O r=>?_;obtain⟨y,F,g,Q,d,⟨a,N,x,h,q⟩,f⟩:=r;obtain⟨v,j,z,m⟩:=d.ls h;have s:=d.own a m;refine⟨_,v,.inl ⟨rfl,_,.inl (.inl j)⟩,a,_,.int x,rfl,rfl,j,by simp,?_⟩;rw[kS,List.map_singleton,List.dropLast_concat];exact f _ _ y (.int x) _ g (bE.refl _) (d.Dv h (bE.refl _) (jQ d.wf s λ_ z=>nomatch z) eT (by rw[kz] at z;exact Nat.le_of_add_right_le z) (λb _ l=>dr l) d.own) rfl (.int x) q
def mL(i:Nat)(u:tI X K e B):QS X K L (.Return (some e) n) (t6 i B) :=
 PS.imp (RA u) λD O H t=>bN t λF g f W k h R Q P s=>⟨F,g,f,_,k,h,λv N y d V T l c S r q=>by
  obtain⟨a,j,e,q⟩:=q;obtain⟨_,x,z,m⟩:=c.ls e;exact s v N y (.wb a (GN j)) d [a] l c.wf ⟨r.same c.wf.sub,rfl,x,z⟩ (by simp) (λb h=>by rw[hV.mp h];exact c.own a m) q⟩
def Ae(j:Nat){y:Str}{b:Pos}(P:tI X K e B)(F:autoParam (nL e (some (.Name y b)) n.line X.env=pure false) bv)(O:autoParam (j8 X y) u')(Q:autoParam (X.N.Nodup) u0)(N:autoParam (X.N[j]? = some y) bv)(x:autoParam (Loc X.env.scope y) wx) :
  QS X K L (.Assign [.Name y b] e n) (En j B) :=
 PS.imp (Ur Q N x P F O) λD V H z=>bN z λS f c E' g h u Z Y W=>⟨S,f,c,_,g,h,λv T R d U C k r o l q=>by
  obtain⟨t,s⟩:=r.set j (m:=.sh) (As:=[]) ⟨rfl,l⟩ oo (λa h=>nomatch h) rfl;exact u _ T R _ t k s q⟩
def lU(h:PE X e (kr i))(g:autoParam (aR X e []) bv):ZI X K i [e] tQ:=PA.imp (lP h og g) λl H s d=>by obtain⟨k,m,c,Q,a,r,b,j,q,f⟩:=d;exact⟨_,(b.ls j).1,f [] H k [] (gd.refl b.wf) rfl .nil q⟩
def Dl(D:QE X K e I)(z:ZI X K i A G)(y:autoParam (aR X e A) bv):ZI X K i (e :: A) (Gh I G):=PA.imp (lP D z y) λV H Y x=>by obtain⟨S,j,b,Q,a,q,k,N,h,f⟩:=x;exact⟨S,j,b,_,k,h,λv Z P m d o g t W c=>⟨P,j,b,_,a,q,k.grow g,N,c.2,λr T R O l F s u=>f (v :: r) T R (d :: O) (g.trans l) (by simp[eh,c.1,F]) (.cons ((t.flat g.wf c.1).same l.sh) s) u⟩⟩
def lJ{k:Nat}{x:Str}{ps:List Str}{N:OW}(C:SK X.prog X.w X.K X.mg X.base k x ps (tZ K N))(hr:ja k X.A)(ha:ZI X K i (e :: A) G)(hK:autoParam (X.K=K) bv)(hg:autoParam (Gl X x) bv)(U:autoParam (dw x) tw)(he:autoParam (aR X e A) bv) (lS:autoParam (bM X n A) bv):tI X K (.Call (.Name x p) (e :: A) [] n) (lL i N G):=by
 subst hK;refine PE.imp (Gm C hr ha hg U he lS) λab H Qv h=>?_;obtain⟨Hs,V,g,Q,F,⟨a,u,t,h⟩,f⟩:=h;refine⟨Hs,V,g,_,a,u,F,t,h,λD H1 aT ds s fd Z q1=>?_⟩;have j:=F.grow s;obtain⟨_,e2,z,m⟩:=j.ls t;have hn:=j.own a m;refine⟨a,u,ds,D,_,by rw[ng],e2,z,fd,Z.same s.wf.sub,q1,λv H' ys d P T W S Y q3=>?_⟩;obtain⟨O,y,nt⟩:=GC (Hs:=aT) (H':=H') λc o q=>P c o (λz=>by rw[z,hn] at q;cases q) (s.wf.sub c o q);have R:∀ b∈g,b≠a->H' b=H1 b:=λb l r=>by obtain⟨o,q,_⟩:=j.sr.own b l;rw[q];exact P b o r q
 refine f v H' _ d _ g (s.sh.trans O) (j.Dv t O y T W R λb l=>?_) S (Y.fY y.kU S) q3;rw[nt b λD z=>?_]
 ·exact j.own b l
 ·by_cases r:b=a
  ·rw[r,T] at z;cases z
  ·rw[R b l r] at z;exact(j.sr.own b l).y_ z
def IW {C:ai} {T N k:Nat} {m g:Expr} {q j:Pos} {P:ai} {Q:sF} {pl:Sem Bool} (hy:PE X m (kr T)) (hx:PE X g (kr N)) (c:wo X.K C) (hm:Meth X.K C "put" P) (F:mS X.prog X.w X.K X.mg X.base kB k P Q ["self", "row"] (vH X.K X.prog X.w)) (V:ja k X.A) (hb:Binds X.K Q ["self", "row"] [])(he:tI X K e B) (h9:N≠T) (hK:autoParam (X.K=K) bv) (hs:autoParam (nL (.Call (.Attribute m "append" w) [.Call (.Attribute g "put" q) [e] [] j] [] p) none n.line X.env=pure false) bv) (oy:autoParam (t9 m "append" X.env (dn m X.env)=dn m X.env) bv) (sf:autoParam (((ub p (fN [.Call (.Attribute g "put" q) [e] [] j] X.env)).all (λx=>!x.1) && (zt p (zo [] X.env)).all (λx=>x.1.isSome)
   && decide ([Expr.Call (.Attribute g "put" q) [e] [] j].length+([]:List qV).length+(if ([]:List qV).isEmpty then 0 else 1)<30))=true) bv)
  (s:autoParam ((w.endLine == p.line)=true) bv) (oQ:autoParam (fN [.Call (.Attribute g "put" q) [e] [] j] X.env=(false,dn (.Call (.Attribute g "put" q) [e] [] j) X.env) :: fN [] X.env) bv) (ve:autoParam (bM X p []) bv)
  (ox:autoParam (aR X e []) bv) (lS:autoParam (bM X j []) bv)
  (ht:autoParam (dn (.Call (.Attribute g "put" q) [e] [] j) X.env=(do
   let ov ← eval g X.env
   standAt q.atName
   let (f,v) ← holding [ov] (getMethod ov "put" pl)
   callWith j f v (ub j (fN [e] X.env)) (zt j (zo [] X.env)))) bv) :
  QS X K L (.Expr (.Call (.Attribute m "append" w) [.Call (.Attribute g "put" q) [e] [] j] [] p) n) (LK (sD K X.prog X.w C) T N B):=by
 subst hK;refine PS.imp (Mb (IJ PySem.F.plainAttrs_list PySem.F.slot_list_append PySem.F.type_list_append Sn hy (lP (dP' (E:=E0) hx c hm F V hb .nil WU (lP he og ox) ox lS ht) og oQ) oy sf s oQ ve) hs) λD a3 H hx=>bN hx λHs a4 Y E S h k1 k2 k3 k4=>?_;obtain⟨⟨l,ys,m⟩,⟨a,fe,g⟩,h⟩:=h;obtain⟨ev,el,_,_⟩:=S.ls m;obtain⟨u,eu,rfl,Bs,ae,_⟩:=S.sr.get g;have Tq:=yh S.wf ae;obtain⟨_,a0,a5,a6,s1,i1,_⟩:=id Tq;rw[cG (by simp)] at i1;refine⟨_,ev,.inl ⟨rfl,_,.inl (.inl el)⟩,_,eu,a,a0,_,rfl,i1,?_,Hs,a4,Y,_,S,h,λw1 H2 aS d fw e7 s2 t fl r2 U=>?_⟩
 ·have z1:(("put" : Str) == "rows")=false:=by decide +kernel
  have z2:(("put" : Str) == "places")=false:=by decide +kernel
  simp[List.lookup,z1,z2]
 obtain⟨a',rs,l',xs,o,eM,Vh,af,Vi,rfl,ab,U⟩:=U;obtain⟨b,rfl,rb,Z⟩:=Js r2 ab;obtain⟨dx,rp,pp,e3,sm,S2,_,mr,mp,g3⟩:=t.O7 N eM;have aw:=eu.symm.trans e3;cases aw;have Vj:=ev.symm.trans (t.ls Vh).1;cases Vj;refine⟨a,dx,rp,pp,b,rs,o,rfl,S2,rb.mono (λc ys z=>t.wf.sub _ _ z),af,λH3 i7 kk S3 O hk kp=>?_⟩;have y:=S3.wf t.wf (t.own _ mr) (t.own _ mp) kp;have W:=g3 aS H3 i7 (bE.refl _) y (λr V=>by
  rcases O with⟨_,rfl⟩|⟨_,rfl⟩
  ·exact sm r V
  ·exact(kA.mp V).elim (sm r) λz=>by rw[hV.mp z];exact Z) S3 (λb _=>kp b) t.own
 have R:(fw.set N (some (.ob a (sD X.K X.prog X.w C true i7))))[T]? = some (k6 l xs):=by rw[Z_ h9];exact Vh
 obtain⟨_,ar,_,m3⟩:=W.ls R;refine⟨l,_,.int kk,rfl,rfl,ar,by rw[cx];exact Vi,?_⟩;exact k1 a3 _ aS _ e7 s2 (W.Dv (ys:=xs++[(kk:Int)]) R (bE.refl _) (jQ y (W.own l m3) λ_ z=>nomatch z) (by rw[eT,kS];rfl) (by rw[kz];exact Vi) (λb _ nb=>dr nb) W.own) (U i7 kk O hk)
end
def aH.last{K:ay}{h H:Hp}{g:Bool}{b:List D}{d:D}{c:List V}{i:List ai}(r:aH K h H g (b++[d]) c i):∃ a u A B,c=a++[u]/\i=A++B/\aH K h H g b a A/\df K h H g d u B:=by
 induction b generalizing c i with
 |nil =>obtain⟨u,a,A,B,rfl,rfl,q,f⟩:=aH.c r;obtain⟨rfl,rfl⟩:=f.n0;exact⟨[],u,[],A,rfl,by simp,.nil,q⟩
 |cons x b m =>obtain⟨u,a,A,B,rfl,rfl,q,f⟩:=aH.c r;obtain⟨e,j,p,n,rfl,rfl,l,k⟩:=m f;exact⟨u :: e,j,A++p,n,rfl,by simp,.cons q l,k⟩
section
variable {X:Cx}{K:ay}{e C a b:Expr}{I w s:xt}{n G c p:Pos}{L:Str->Hp->Prop}{j F:Nat}
def Jt(i j:Nat):WS:=λE d=>∃ f y,d[j]? = some (some (.ow true (.list (f++[y]))))/\y.flat=false/\E.nx ((d.set j (some (.ow true (.list f)))).set i (some (.ow true y)))
def yF(i:Nat){x:Str}{f:Pos}(h0:PE X e (kr j))(hK:autoParam (X.K=K) bv) (oy:autoParam (t9 e "pop" X.env (dn e X.env)=dn e X.env) bv) (l:autoParam ((c.endLine == G.line)=true) bv) (hs:autoParam (nL (.Call (.Attribute e "pop" c) [] [] G) (some (.Name x f)) n.line X.env=pure false) bv) (hf:autoParam (j8 X x) u') (hN:autoParam (X.N.Nodup) u0) (hi:autoParam (X.N[i]? = some x) bv) (P:autoParam (Loc X.env.scope x) wx) :
  QS X K L (.Assign [.Name x f] (.Call (.Attribute e "pop" c) [] [] G) n) (Jt i j):=by
 subst hK;refine PS.imp (Ur hN hi P (ei' PySem.F.plainAttrs_list PySem.F.slot_list_pop PySem.F.type_list_pop ej' h0 oy l) hs hf) λD R H P=>bN P λQ ab tot E k h k1 k2 k3 k4=>?_;obtain⟨ys,y,ej,fy,q⟩:=h;obtain⟨As,m,g1,g⟩:=k.sr.chg j k.ti;obtain⟨o,Z,s1⟩:=g1 _ ej;have J:=m.nodup k.ti
 cases s1 with
 |ow ne r =>
  cases r with
  |sh _ _=>exact absurd rfl ne
  |@list a vs _ A W U rs =>
   obtain⟨v,u,A1,B,rfl,rfl,r1,V⟩:=rs.last;obtain⟨O,M⟩:=om.mp J;obtain⟨N,CM,dj⟩:=ui.mp M;refine⟨_,Z,.inl ⟨rfl,_,.inl (.inl U)⟩,a,_,u,rfl,rfl,U,by simp,?_⟩;rw[List.dropLast_concat];have hn:Q a=none:=k.own a (m.subset eK);have Y:∀ b:ai,b∈A1++B->upd H a (.lst v) b=H b:=λb d=>dr λz=>O (z ▸ d);obtain⟨t,tn,S,_,_,T⟩:=g (H':=upd H a (.lst v)) (bE.refl _) (λb _ d=>dr λz=>d (z ▸ eK)) (S1.ow (As:=a :: A1) (by simp) (.list (ds:=ys) (by rw[kz] at W;exact Nat.le_of_add_right_le W) eT (r1.gE (bE.refl _) λb d=>Y b (sL _ d)))) (om.mpr ⟨λz=>O (sL _ z),N⟩) λb d _=>(dQ.mp d).elim (λz=>z ▸ eK) λz=>eI _ (sL _ z);have sz:R.set j (some (.ref a))=R:=by obtain⟨hj,e⟩:=k7.mp Z;rw[<- e];exact List.set_getElem_self hj
   rw[sz] at T;have ZC:Wf Q (upd H a (.lst v)):=jQ k.wf hn λ_ z=>nomatch z;have s:∀ b∈t,b∈tot:=λb d=>(S b d).elim (λz=>m.subset ((dQ.mp z).elim (λz=>z ▸ eK) λz=>eI _ (sL _ z))) And.left;obtain⟨t3,_,s3⟩:=dA.S9 (tot:=t) i ⟨T,ZC,tn,λb d=>k.own b (s b d)⟩ (.ow (df.ne2.1 V fy) ((df.Hi (bE.refl _)).1 V λb d=>Y b (kR _ d))) CM λb d=>⟨k.own b (m.subset (eI _ (kR _ d))),λz=>by
    rcases S b z with z|⟨_,z⟩
    ·rcases dQ.mp z with rfl|z
     ·exact O (kR _ d)
     ·exact dj b z b d rfl
    ·exact z (eI _ (kR _ d))⟩
   exact k1 _ _ Q _ t3 (bE.refl _) s3 q
def Tv(f:W2)(w s:xt):xt:=λg Q=>w g λx h=>s h λy i=>f .sh x .sh y λ_ d=>d.flat=true/\Q d i
def wN{r:R2}{f:W2}(V:kX K r f)(l:St)(H:Hp)(k:VK)(h:ZG K (Tv f w s) l H k):MB r (ZG K w) (ZG K s) l H k:=by obtain⟨Z,A,i,Q,B,h,f⟩:=h;exact⟨Z,A,i,_,B,h,λv H1 W x P EV D O f1 J N=>⟨W,P,EV,_,O,N,λu U Y y R T t z f2 E M=>V Y U .sh x v [] .sh y u [] _ k z.wf ⟨rfl,J.same t⟩ ⟨rfl,E⟩ M λv o S m d As g r _ q=>f v o S d R T (D.trans (t.trans g.sh)) (z.grow g) q.1 (r.flat g.wf q.1) q.2⟩⟩
def Oh{d:Operator}{r:R2}{f:W2}(g:eJ X (qS d) r)(k:kX K r f)(i:tI X K a w)(h:tI X K b s):tI X K (.BinOp a d b n) (Tv f w s):=PE.imp (dx' g i h) (wN k)
def JX(f:tI X K a w)(d:tI X K b s)(g:autoParam (X.K=K) bv):tI X K (.BinOp a .Add b n) (Tv ip w s):=Oh (K9 g) FQ f d
def CJ{x:Str}{k:String}{r:R2}{f:W2}(Z:oa X (.builtin k) λt H Q=>∃ x y,t=[x,y]/\r x y H Q)(br:kX K r f)(W:X.mg x=none)(T:mN x=some (.builtin k))(U:tI X K a w)(o:tI X K b s)(l:autoParam (fN [a,b] X.env=(false,dn a X.env) :: fN [b] X.env) bv) (R:autoParam (aR X b []) bv) (V:x ≠ "__name__" := by decide) (J:autoParam (dw x) tw) (O:autoParam (bM X n [b]) bv) (Y:autoParam (Gl X x) bv):tI X K (.Call (.Name x p) [a,b] [] n) (Tv f w s):=by
 refine PE.imp (Wq Z Y W T (lP U (lP o og R) l) V J l O) λm H Qv h=>?_;obtain⟨Hs,q,g,Q,z,h,f⟩:=wN br m H Qv h;exact⟨Hs,q,g,Q,z,h,λv H1 aT x S EV B P f1 E N=>by
  obtain⟨aS,fw,e7,Q2,g7,h2,d⟩:=f v H1 aT x S EV B P f1 E N;exact⟨aS,fw,e7,Q2,g7,h2,λu H2 fo y AO i A Kj f3 D M=>⟨v,u,rfl,d u H2 fo y AO i A Kj f3 D M⟩⟩⟩
def Cv(F:Nat)(t:xt):WS:=λE g=>(∃ l i,g[F]? = some (k6 l i))/\t g λd h=>∃ l f k,h[F]? = some (k6 l f)/\f.length<bG/\d=.int k/\E.nx (h.set F (k6 l (f++[k])))
def uC (W:PE X C (kr F)) (o:tI X K e I) (U:autoParam (X.K=K) bv) (Z:autoParam (nL (.Call (.Attribute C "append" c) [e] [] p) none n.line X.env=pure false) bv) (R:autoParam (t9 C "append" X.env (dn C X.env)=dn C X.env) bv) (O:autoParam (((ub p (fN [e] X.env)).all (λx=>!x.1) && (zt p (zo [] X.env)).all (λx=>x.1.isSome)
   && decide ([e].length+([]:List qV).length+(if ([]:List qV).isEmpty then 0 else 1)<30))=true) bv)
  (f:autoParam ((c.endLine == p.line)=true) bv) (u:autoParam (aR X e []) bv) (N:autoParam (bM X p []) bv) :
  QS X K L (.Expr (.Call (.Attribute C "append" c) [e] [] p) n) (Cv F I):=by
 subst U;refine PS.imp (Mb (IJ PySem.F.plainAttrs_list PySem.F.slot_list_append PySem.F.type_list_append Sn W (lP o og u) R O f u N) Z) λD B H Y=>bN Y λHs J i E t h V k2 k3 k4=>?_;obtain⟨⟨l,ys,C⟩,h⟩:=h;obtain⟨v,el,_,_⟩:=t.ls C;refine⟨_,v,.inl ⟨rfl,_,.inl (.inl el)⟩,Hs,J,i,_,t,h,λw1 H2 aS d fw e7 P g fl Q m=>?_⟩;obtain⟨l',M,k,A,y,rfl,m⟩:=m;obtain⟨r,q,_,T⟩:=g.ls A;have r:=v.symm.trans r;cases r;cases Q;refine⟨l,_,.int k,rfl,rfl,q,by rw[cx];exact y,?_⟩;exact V B _ aS _ e7 P (g.Dv (ys:=M++[k]) A (bE.refl _) (jQ g.wf (g.own l T) λ_ z=>nomatch z) (by rw[eT,kS];rfl) (by rw[kz];exact y) (λb _ S=>dr S) g.own) m
end
end L2.Q
end
namespace L2.Q.R
open L2.Q PySem
section
variable {Q:Md->L2.Q.D->Prop}{e:L2.Q.D->L2.Q.Env->Prop}{h:List L2.Q.D->L2.Q.Env->Prop}{n:List L2.Q.D->Prop}{b:L2.Q.Env}{E:gC}{l:WE}{c:xt}{g:KW}{k:K0}{i j:Nat}{m:OW}
def Q4:xP i b Q=de b[i]? (f:=λo=>∃ a d,o=some (k6 a d)/\Q .bo (.list (d.map .int))) ⟨⟩:=rfl
def Q0:Cp i E b = ∀ a,E.nx (b.set i (k6 a [])):=rfl
def Sw:GO l b e=l b λ_ d=>de d (f:=λd=>d.flat=true/\e d b) ⟨⟩:=rfl
def Qx:Eo b h=h [] b:=rfl
def Pj:mj c g b h=c b λd a=>g a λp f=>h (d :: p) f:=rfl
def Q5:Cm g b e=g b λa d=>a.length<=bG/\e (.tup a) d:=rfl
def PX:t6 i c E b=c b λd p=>∃ a f,p[i]? = some (k6 a f)/\E.rt (.wb a (GN f)) d:=rfl
def QK:En j c E b=c b λd a=>E.nx (a.set j (some (.sh d))):=rfl
def Rf:tQ b n=n []:=rfl
def NT:lL i m k b e = ∃ a f,b[i]? = some (k6 a f)/\k b λq=>m f q λp d=>e d (b.set i (k6 a p)):=rfl
end
end L2.Q.R
section
open PySem PySem.Spec PyProof.Rows
namespace L2.Q
end L2.Q
end
local macro_rules | `(tactic| walk_at "q") => do
 let nm (s:String):Lean.Ident:=Lean.mkIdent ((s.splitOn ".").foldl Lean.Name.mkStr .anonymous)
 let ds ← ("Sx Ow Q4 Q0 Sw Qx Pj Q5 PX QK Rf NT Qf Ru P_ Q3 NZ QB RP RJ N5 M8 Rj QF QM PL Sq Ri Qi PJ Qc SN R5 Qn QX Sy RX Ss ow' RK Rm RB Ra Rk Qu R0 RC O9 Qq Qo R6 PN wB_ RN RQ SJ nk' RT Sg Nv OJ wC_ nm' nn' Ni Px Sd Pr QC Q6 PQ RW Rr Rp Q9 Od N7 Oi Nx Nm Pg Pb QL QJ Pz Q7 Rh R7 Q_ QZ R8 Sv Oo Qp Qs JW NK Rx Ry Su RG Ro R9 Rn R3 Rc QV Py Rt Nr OD no' M_ Qh Qg Rz Rq Rv Rg Nt O5 np' Nb RZ Ot Np RL Q8 RV NP Qk QQ P0 Pn O6 M7 M6 gN_ gT_ QD R4 PB ns' O4 O8 Rb Oq Qj QH QR".splitOn " ").toArray.mapM fun s=>`(Lean.Parser.Tactic.simpLemma| ↓$(nm ("L2.Q.R." ++ s)):ident)
 let us ← ("L2.Q.R.Oz L2.Q.R.Ng L2.Q.R.Nk L2.Q.nf' L2.Q.Vc L2.Q.Jq L2.Q.GQ L2.Q.EL L2.Q.S8 L2.Q.UX L2.Q.NX L2.Q.jC L2.Q.U0 L2.Q.shS L2.Q.shC L2.Q.nT L2.Q.xY L2.Q.asg L2.Q.xa L2.Q.wG L2.Q.D.flat L2.Q.eh L2.Q.D.Zm L2.Q.D.ty L2.Q.Zk L2.Q.D.key1 L2.Q.fG L2.Q.Qm L2.Q.yP List.length_map List.map_cons List.map_nil List.length_cons List.length_nil List.replicate_succ List.replicate_zero List.cons_append List.nil_append List.append_nil List.getElem?_cons_zero List.getElem?_cons_succ List.getElem?_nil List.set_cons_zero List.set_cons_succ List.all_cons List.all_nil Option.some.injEq Option.join_some Option.map_some Option.map_none Nat.reduceAdd Nat.reduceSub true_and and_true Bool.and_true Bool.true_and Bool.and_false Bool.false_and Bool.not_true Bool.not_false Bool.false_eq_true if_true if_false decide_true decide_false reduceIte cond_true cond_false PySem.sizeLine_eq L2.Q.ng' L2.Q.nh' L2.Q.ni' L2.Q.aL L2.Q.Lp L2.Q.empty_app Nat.zero_add exists_eq_left' Int.reduceLT Int.reduceLE Int.reducePow Int.reduceNeg Int.reduceToNat Int.reduceAdd Int.reduceMul Int.reduceSub Nat.reduceLeDiff Nat.reduceLT false_or or_false and_self L2.R_".splitOn " ").toArray.mapM fun s=>`(Lean.Parser.Tactic.simpLemma| $(nm s):ident)
 let as:Lean.TSyntaxArray [`Lean.Parser.Tactic.simpStar,`Lean.Parser.Tactic.simpErase,`Lean.Parser.Tactic.simpLemma]:=(ds++us).map fun x=>⟨x.raw⟩
 `(tactic| simp -dsimp only [$as,*])
section
open PySem PySem.Spec PyProof.Rows
namespace L2.Q.ZJ
def small{n:Nat}(h:n<=10000):n<=bG:=kD h (by decide)
def vW{n:Nat}(h:n<=10000):n<bG:=xd6 h (by decide)
def isLet(c:Nat):Bool:=decide (97<=c/\c<=122)
abbrev abc:Str := "abcdefghijklmnopqrstuvwxyz"
def qg:sg abc=(List.range 26).map (97 + ·):=by decide +kernel
def KR{i:Int}(a:0<=i)(b:i<26):∃ c,fT (sg abc) i=some c/\isLet c=true:=by
 refine⟨97+i.toNat,?_,?_⟩
 ·have:fT (sg abc) i.toNat=some (97+i.toNat):=qo (by
   rw[qg];have:i.toNat<26:=by lia
   simp[this])
  rwa[oq a] at this
 ·simp[isLet];lia
def Ha(x:Int):∃ c,fT (sg abc) (x % 26)=some c/\isLet c=true:=KR (x6 _ (by decide)) (x5 _ (by decide))
def lets(x:Str):Prop:=∀ c∈sg x,isLet c=true
def Open(x:Str):Prop:=1<=x.length/\x.length<=6/\lets x
def pf (x:Str):Prop:=x = "*"\/Open x
def uZ{x y:Str}(d:lets x)(b:lets y):lets (x++y):=λc a=>by rw[dY] at a;exact(kA.mp a).elim (d c) (b c)
def BV{c:Nat}(h:isLet c=true):lets ⟨#[c]⟩:=λd a=>by
 have:d=c:=by simpa[sg] using a
 rw[this];exact h
def pK{x:Str}(h:lets x)(a b:Option Int):lets (pV x a b):=λc d=>by exact h c (VA (P1 d))
def gw(c:Nat):(⟨#[c]⟩:Str).length=1:=rfl
def pf.len{x:Str}(h:pf x):x.length<=6:=by
 rcases h with rfl|h
 ·decide
 ·exact h.2.1
def pf.ok{x:Str}(h:pf x):PyData.strOk x=true:=by
 rw[Ia];rcases h with rfl|h
 ·have:sg "*" = [42]:=by decide +kernel
  intro c a;rw[this] at a;have:c=42:=by simpa using a
  lia
 ·intro c a;have:=h.2.2 c a;simp[isLet] at this;lia
theorem aY:∀ (l:List Str),eh (l.map D.str)=true
 |[]=>rfl
 |x :: l=>by simp[eh,aY l,D.flat]
theorem dB:∀ (l:List Int),eh (l.map D.int)=true
 |[]=>rfl
 |x :: l=>by simp[eh,dB l,D.flat]
def Du(l:List Str)(x:Str):l.map D.str++[D.str x]=(l++[x]).map D.str:=by simp
def ints_app(l:List Int)(x:Int):l.map D.int++[D.int x]=(l++[x]).map D.int:=by simp
def gQ{n i:Nat}{b:Int}{x:D}(h:(gD b n)[i]? = some x):i<n/\x=.int (b+(i:Nat)):=by
 unfold gD at h;rw[ki] at h;by_cases a:i<n
 ·rw[TX a] at h;exact⟨a,(Option.some.inj h).symm⟩
 ·rw[DU (by simpa using a)] at h;cases h
def g8(a:Int)(n:Nat):(gD a n).length=n:=by simp[gD]
def pD{a:Int}{n:Nat}{x:D}(h:x∈gD a n):∃ i:Nat,i<n/\x=.int (a+i):=by obtain⟨i,b⟩:=zv.mp h;exact⟨i,gQ b⟩
def fL{a:Type}(l:List a):l.filter (λ_=>true)=l:=xd2.mpr λ_ _=>rfl
def fX (x:Str):Bool:=(decide (1<=x.length/\x.length<=6) && (sg x).all isLet) || decide (x = "*")
def cD{x:Str}:fX x=true↔pf x:=by
 unfold fX pf Open lets;simp only[VX,mn,decide_eq_true_eq,xI];constructor
 ·rintro(⟨⟨c,b⟩,a⟩|h)
  ·exact .inr ⟨c,b,a⟩
  ·exact .inl h
 ·rintro(h|⟨c,b,a⟩)
  ·exact .inr h
  ·exact .inl ⟨⟨c,b⟩,a⟩
abbrev iE:=Int × Str × Int
def E3(s:iE):List Key:=[.inl s.1,.inr s.2.1,.inl s.2.2]
def yk(s:iE):D:=.tup [.int s.1,.str s.2.1,.int s.2.2]
def mD(b:Int)(a:List iE):D:=.tup [.int b,.list (a.map yk)]
def Vk(a:Int)(s:iE):Prop:=0<=s.1/\s.1<a/\pf s.2.1/\0<=s.2.2/\s.2.2<a
def eq_self{x:D}(h:x.nb=true):nE x x=true:=(lZ x x h h).mpr rfl
def Dg{s t:iE}(h:E3 s=E3 t):s=t:=by obtain⟨a,b,c⟩:=s;obtain⟨f,e,d⟩:=t;simp[E3] at h;obtain⟨rfl,rfl,rfl⟩:=h;rfl
def ltP(s t:iE):Bool:=kK (E3 s) (E3 t)
theorem zV{P:iE->Prop}:∀ {a:List (List Key)},(∀ k∈a,∃ s,k=E3 s/\P s)->∃ l:List iE,a=l.map E3/\∀ s∈l,P s
 |[],_=>⟨[],rfl,λs h=>nomatch h⟩
 |k :: a,h=>by
  obtain⟨s,rfl,p⟩:=h k eK;obtain⟨l,rfl,q⟩:=zV λk c=>h k (eI _ c);refine⟨s :: l,rfl,λt b=>?_⟩;rcases dQ.mp b with rfl|b
  ·exact p
  ·exact q t b
abbrev Kn:=List (List Key × D)
def Ja{a:List Str}{i:Int}(c:0<=i)(d:i<a.length):∃ n,n∈a/\fT (a.map D.str) i=some (.str n):=by
 have b:i.toNat<a.length:=by lia
 refine⟨a[i.toNat],VC b,?_⟩;have:=qo (xs:=a.map D.str) (j:=i.toNat) (v:=.str a[i.toNat]) (by simp[b]);rwa[oq c] at this
def name_mod{a:List Str}(x:Int)(h:1<=a.length):∃ n,n∈a/\fT (a.map D.str) (x % (a.length:Int))=some (.str n) :=
 Ja (x6 _ (by lia)) (x5 _ (by lia))
def pR{a:Type}(f:a->D)(l:List a)(b c:Option Int):i6 (l.map f) b c=(i6 l b c).map f:=by unfold i6;rw[cx,List.map_take,List.map_drop]
def yN{a:Type}{l:List a}{b c:Option Int}{x:a}(h:x∈i6 l b c):x∈l:=VA (P1 h)
def Tw(c d:List iE):Prop:=d.Nodup/\(∀ s,s∈d↔s∈c)/\(d.Pairwise λa b=>ltP b a=false)
def rK{a b:Type}{f:a->b}{l:List a}(h:(l.map f).Nodup):l.Nodup:=by rw[List.Nodup,A2] at h;exact h.imp λc e=>c (by rw[e])
def Tw.len{a b:List iE}(M:Tw a b):b.length<=a.length:=TS.gf M.1 λs c=>(M.2.1 s).mp c
def Iu{l:List iE}(P:List D->Prop)(p:l.length<=1000)(k:∀ c,Tw l c->P (c.map yk)):∃ (f:List (List Key)) (j:List Bool),l.map yk=f.map w_/\f.length<=1000/\(∀ k∈f,mv k=true :: j) /\
  ∀ d:List (List Key),d.Nodup->(∀ k,k∈d↔k∈f)->(d.Pairwise λa b=>kK b a=false)->P (d.map w_):=by
 refine⟨l.map E3,[false,true],by rw[kM];rfl,by simpa using p,?_,λd n i m=>?_⟩
 ·intro k h;obtain⟨s,_,rfl⟩:=fq.mp h;rfl
 ·obtain⟨c,rfl,r⟩:=zV λk h=>by obtain⟨s,q,rfl⟩:=fq.mp ((i k).mp h);exact⟨s,rfl,q⟩
  have e:(c.map E3).map w_=c.map yk:=by rw[kM];rfl
  rw[e];refine k c ⟨rK n,λs=>⟨λg=>r s g,λg=>?_⟩,A2.mp m⟩;obtain⟨u,t,e⟩:=fq.mp ((i (E3 s)).mpr (fq.mpr ⟨s,g,rfl⟩));rw[<- Dg e];exact t
def Mj{a:List iE}{i:Nat}{x:D}(h:(a.map yk)[i]? = some x):∃ p d r,x=.tup [.int p,.str d,.int r]/\(p,d,r)∈a/\a.take (i+1)=a.take i++[(p,d,r)]:=by
 rw[ki] at h
 cases e:a[i]? with
 |none=>rw[e] at h;cases h
 |some s =>rw[e] at h;cases h;obtain⟨p,d,r⟩:=s;exact⟨p,d,r,rfl,oj e,by rw[yA,e];rfl⟩
def Tw.ok{many:Int}{l a:List iE}(h:∀ s∈l,Vk many s)(M:Tw l a):∀ s∈a,Vk many s:=λs b=>h s ((M.2.1 s).mp b)
inductive Rw where
 |st (w d:Str) (j:Int)
 |nt (j:Int)
 |jn (w:Str) (ps:List Int)
def dS:Rw->D
 |.st w d j=>.tup [.str w,.str d,.int j]
 |.nt j=>.tup [.str "not",.int j]
 |.jn w a=>.tup [.str w,.tup (a.map .int)]
def tJ(k:Int):Rw->Prop
 |.st w d j=>(w = "some"\/w = "all")/\pf d/\0<=j/\j<k
 |.nt j=>0<=j/\j<k
 |.jn w a=>(w = "and"\/w = "or")/\a.length<=200/\∀ p∈a,0<=p/\p<k
def kc(l:List Rw):Prop:=∀ (i:Nat) (r:Rw),l[i]? = some r->tJ i r
def qf:Rw->List Int
 |.st _ _ j=>[j]
 |.nt j=>[j]
 |.jn _ a=>a
theorem tR:∀ r:Rw,(dS r).flat=true
 |.st _ _ _=>rfl
 |.nt _=>rfl
 |.jn _ a=>by simp[dS,D.flat,eh,dB]
theorem uM:∀ l:List Rw,eh (l.map dS)=true
 |[]=>rfl
 |r :: l=>by simp[eh,tR r,uM l]
def kc.app{l:List Rw}{r:Rw}(h:kc l)(b:tJ l.length r):kc (l++[r]):=λi x a=>by
 by_cases c:i<l.length
 ·rw[HK c] at a;exact h i x a
 ·rw[DT (by lia)] at a;by_cases d:i=l.length
  ·subst d;rw[Qb] at a;cases a;exact b
  ·rw[DU (by simp;lia)] at a;cases a
def kc.nil:kc []:=λi r h=>by simp at h
def BO(l:List Int):Int:=l.foldl (λb x=>if x>b then x else b) 0
def dep(a:List Int):Rw->Int
 |.st _ _ j=>a.getD j.toNat 0+1
 |.nt j=>a.getD j.toNat 0
 |.jn _ b=>BO (b.map λp=>a.getD p.toNat 0)
def E4:List Int->List Rw->List Int
 |a,[]=>a
 |a,r :: l=>E4 (a++[dep a r]) l
def deps(l:List Rw):List Int:=E4 [] l
theorem vN:∀ (l m:List Rw) (a:List Int),E4 a (l++m)=E4 (E4 a l) m
 |[],_,_=>rfl
 |r :: l,m,a=>vN l m (a++[dep a r])
def Ds(l:List Rw)(r:Rw):deps (l++[r])=deps l++[dep (deps l) r]:=by unfold deps;rw[vN];rfl
theorem wj:∀ (l:List Rw) (a:List Int),(E4 a l).length=a.length+l.length
 |[],_=>rfl
 |r :: l,a=>by show(E4 (a++[dep a r]) l).length=_;rw[wj l];simp;lia
def kW(l:List Rw):(deps l).length=l.length:=by unfold deps;rw[wj];simp
def depth(l:List Rw):Int:=(deps l).getD (l.length-1) 0
theorem Gv:∀ (l:List Int) (b:Int),0<=b->0<=l.foldl (λb x=>if x>b then x else b) b
 |[],b,h=>h
 |x :: l,b,h=>by simp only[zC];refine Gv l _ ?_;split<;>lia
def KN(l:List Int):0<=BO l:=Gv l 0 (by decide)
def pH{a:List Int}(h:∀ d∈a,0<=d)(i:Nat):0<=a.getD i 0:=by
 rw[xE]
 cases e:a[i]? with
 |none=>exact A3 _
 |some x=>exact h x (oj e)
theorem J_{a:List Int}(h:∀ d∈a,0<=d):∀ r:Rw,0<=dep a r
 |.st _ _ j=>by have:=pH h j.toNat;simp only[dep];lia
 |.nt j=>pH h _
 |.jn _ b=>KN _
theorem zU:∀ (l:List Rw) (b:List Int),(∀ d∈b,0<=d)->∀ d∈E4 b l,0<=d
 |[],_,h=>h
 |r :: l,b,h=>zU l _ λd a=>by
  rcases kA.mp a with a|a
  ·exact h d a
  ·rw[hV.mp a];exact J_ h r
def zK(l:List Rw):∀ d∈deps l,0<=d:=zU l [] λd a=>nomatch a
def K5{a:List Int}(h:∀ n∈a,0<=n):(if a=[] then 0 else sC a a.length)=BO a:=by
 have f:∀ j,j<a.length->sC a (j+1)=BO (a.take (j+1)):=by
  intro j
  induction j with
  |zero =>
   intro b
   cases a with
   |nil=>simp at b
   |cons n a =>have:=h n eK;show n=BO [n];simp only[BO,zC,VF];split<;>lia
  |succ j d =>
   intro b;rw[xdG b];simp only[BO,P4,zC,VF];have e:=d (by lia);unfold BO at e;rw[<- e];have g:a.getD (j+1) 0=a[j+1]:=by simp[List.getD,b]
   show(if a.getD (j+1) 0>sC a (j+1) then a.getD (j+1) 0 else sC a (j+1))=_;rw[g]
 by_cases c:a=[]
 ·subst c;rfl
 ·rw[if_neg c];have i:0<a.length:=List.length_pos_iff.mpr c;have:=f (a.length-1) (by lia);rw[show a.length-1+1=a.length by lia,xS] at this;exact this
def tV{l:List Rw}{j:Int}(b:0<=j)(c:j<l.length):fT ((deps l).map D.int) j=some (.int ((deps l).getD j.toNat 0)):=by
 have a:j.toNat<(deps l).length:=by rw[kW];lia
 have:=qo (xs:=(deps l).map D.int) (j:=j.toNat) (v:=.int ((deps l).getD j.toNat 0)) (by simp[a,List.getD]);rwa[oq b] at this
def zi:∀ {w:Str},(w = "and"\/w = "or")->w ≠ "some"/\w ≠ "all"/\w ≠ "not" := by rintro w (rfl|rfl)<;>decide +kernel
def cy':∀ {w:Str},(w = "some"\/w = "all")->w ≠ "not"/\w ≠ "and"/\w ≠ "or" := by rintro w (rfl|rfl)<;>decide +kernel
def E5:("not" : Str) ≠ "some"/\("not" : Str) ≠ "all" := by decide +kernel
theorem rw_ok{k:Int}:∀ {r:Rw} (n:Nat),tJ k r->fI (n+2) (dS r)=true
 |.st w d j,n,h=>by
  have b:=h.2.1.ok;have a:PyData.strOk w=true:=by rcases h.1 with rfl|rfl<;>decide +kernel
  simp[dS,fI,b,a]
 |.nt j,n,h=>by
  have a:PyData.strOk "not" = true:=by decide +kernel
  simp[dS,fI,a]
 |.jn w c,n,h=>by
  have a:PyData.strOk w=true:=by rcases h.1 with rfl|rfl<;>decide +kernel
  simp[dS,fI,a]
def nU{l:List Rw}(h:kc l)(n:Nat):fI (n+3) (.list (l.map dS))=true:=by simp only[fI,LS,xI];intro r a;obtain⟨i,b⟩:=zv.mp a;exact rw_ok n (h i r b)
theorem z8:∀ l:List Int,sv (l.map D.int)=true
 |[]=>rfl
 |x :: l=>by simp[sv,z8 l,D.nb]
theorem wQ:∀ l:List Rw,sv (l.map dS)=true
 |[]=>rfl
 |.st _ _ _ :: l=>by simp[sv,wQ l,dS,D.nb]
 |.nt _ :: l=>by simp[sv,wQ l,dS,D.nb]
 |.jn _ a :: l=>by simp[sv,wQ l,dS,D.nb,z8]
def dG(n:Nat):List Int:=(List.range n).map λi=>((i:Nat):Int)
def wW(n:Nat):(dG n).length=n:=by simp[dG]
def M9{l:List Int}(h:l.Pairwise (· < ·)):l.Nodup:=h.imp λh=>by lia
def Lv(many:Int)(a:List iE):Prop:=∀ s∈a,Vk many s
def bj(l:List iE)(s:Int)(d:Str):List Int:=(l.filter λt=>decide (t.1=s) && decide (t.2.1=d)).map (·.2.2)
def qz{l:List iE}{s:Int}{d:Str}{x:Int}:x∈bj l s d↔(s,d,x)∈l:=by
 unfold bj;rw[fq];constructor
 ·rintro⟨⟨p,q,r⟩,a,rfl⟩;obtain⟨b,e⟩:=DZ.mp a;simp only[mn,decide_eq_true_eq] at e;rw[<- e.1,<- e.2];exact b
 ·exact λh=>⟨_,DZ.mpr ⟨h,by simp⟩,rfl⟩
def Ey(l:List iE)(s:Int)(d:Str):(bj l s d).length<=l.length:=by unfold bj;rw[cx];exact List.length_filter_le _ _
def DE(l:List iE)(a:Kn):Prop:=∀ s d,gL a [.inl s,.inr d]=if bj l s d=[] then none else some (.list ((bj l s d).map .int))
def vQ(k a:List Key)(x:D):∀ (b:Kn),gL (oS b k x) a=if a=k then some (match gL b k with
  |none=>.list [x]
  |some d=>Ve d x) else gL b a
 |[]=>by
  rw[oS,bC];by_cases h:a=k
  ·rw[if_pos h.symm,if_pos h];rfl
  ·rw[if_neg λe=>h e.symm,if_neg h]
 |p :: r=>by
  rw[oS];by_cases e:p.1=k
  ·rw[if_pos e,bC];by_cases h:a=k
   ·rw[if_pos h,h,bC p r k,if_pos e,if_pos e]
   ·rw[if_neg h,bC p r a,if_neg λz=>h (z.symm.trans e),if_neg λz=>h (z.symm.trans e)]
  ·rw[if_neg e,bC,vQ k a x r];by_cases h:a=k
   ·rw[if_pos h,h,bC p r k,if_neg e,if_neg e,if_pos rfl]
   ·rw[if_neg h,bC p r a,if_neg h]
theorem Bx(k:List Key)(x:D):∀ (a:Kn),(oS a k x).length<=a.length+1
 |[]=>by simp[oS]
 |p :: r=>by have:=Bx k x r;rw[oS];split<;>simp only[gi]<;>lia
def DE.nil:DE [] []:=λs d=>rfl
def DE.put{l:List iE}{b:Kn}(h:DE l b)(p:Int)(n:Str)(r:Int):DE (l++[(p,n,r)]) (oS b [.inl p,.inr n] (.int r)):=by
 intro s d;rw[vQ];have a:bj (l++[(p,n,r)]) s d=bj l s d++if p=s/\n=d then [r] else []:=by
  unfold bj;rw[List.filter_append,kS];congr 1;by_cases e:p=s/\n=d
  ·simp[e.1,e.2]
  ·rw[if_neg e,List.filter_cons_of_neg (by simpa using e)];rfl
 by_cases e:p=s/\n=d
 ·rw[if_pos e] at a;obtain⟨rfl,rfl⟩:=e;rw[a,if_pos rfl,h p n,if_neg (show ¬ bj l p n++[r]=[] by simp)];by_cases z:bj l p n=[]
  ·rw[if_pos z,z];rfl
  ·rw[if_neg z];simp[Ve]
 ·rw[if_neg e,ng] at a;rw[a,if_neg λz=>e ?_,h s d];simp only[List.cons.injEq,Sum.inl.injEq,Sum.inr.injEq,and_true] at z;exact⟨z.1.symm,z.2.symm⟩
abbrev Tr:=Int->Bool
def BM(l:List iE)(a:List Tr):Rw->Tr
 |.st w d j=>λs=>if w = "some" then (bj l s d).any (a.getD j.toNat λ_=>false) else (bj l s d).all (a.getD j.toNat λ_=>false)
 |.nt j=>λs=>!(a.getD j.toNat (λ_=>false) s)
 |.jn w b=>λs=>if w = "and" then b.all (λp=>a.getD p.toNat (λ_=>false) s) else b.any (λp=>a.getD p.toNat (λ_=>false) s)
def GP(l:List iE):List Tr->List Rw->List Tr
 |a,[]=>a
 |a,r :: b=>GP l (a++[BM l a r]) b
def rV(l:List iE)(a:List Rw):List Tr:=GP l [] a
theorem uK(l:List iE):∀ (a b:List Rw) (c:List Tr),GP l c (a++b)=GP l (GP l c a) b
 |[],_,_=>rfl
 |r :: a,b,c=>uK l a b (c++[BM l c r])
def Ed(l:List iE)(a:List Rw)(r:Rw):rV l (a++[r])=rV l a++[BM l (rV l a) r]:=by unfold rV;rw[uK];rfl
theorem vL(l:List iE):∀ (b:List Rw) (a:List Tr),(GP l a b).length=a.length+b.length
 |[],a=>rfl
 |r :: b,a=>by rw[GP,vL l b,kz,gi,gi,P6];lia
def qt(l:List iE)(a:List Rw):(rV l a).length=a.length:=by unfold rV;rw[vL];simp
def mE(a:Int)(t:Tr):D:=.list ((dG a.toNat).map λi=>.bl (t i))
def kO{a s:Int}(b:0<=s)(d:s<a)(t:Tr):fT ((dG a.toNat).map λi=>D.bl (t i)) s=some (.bl (t s)):=by
 have c:s.toNat<a.toNat:=by lia
 have:=qo (xs:=(dG a.toNat).map λi=>D.bl (t i)) (by
  rw[ki,dG,ki,TX c];show some (D.bl (t s.toNat))=_;rw[oq b])
 rwa[oq b] at this
def uW{many j:Int}{a:List Tr}(c:0<=j)(d:j<a.length):fT (a.map (mE many)) j=some (mE many (a.getD j.toNat λ_=>false)):=by
 have b:j.toNat<a.length:=by lia
 have:=qo (v:=mE many (a.getD j.toNat λ_=>false)) (by
  rw[ki,xE,rh b];rfl)
 rwa[oq c] at this
def yj{l:List iE}{a:Kn}(h:DE l a){s:Int}{d:Str}{n:Md}{Q:Md->D->Prop}(q:∀ m,Q m (.list ((bj l s d).map .int))):KL (gL a [.inl s,.inr d]) .sh n (.list []) Q:=by
 rw[h s d];by_cases z:bj l s d=[]
 ·have:=q n;rw[z] at this;rw[if_pos z];exact this
 ·rw[if_neg z];exact q _
def oM(n:Nat):gD 0 n=(dG n).map D.int:=by unfold gD dG;rw[kM];exact A0 λi _=>by simp
def Lj(x:Int){m:Int}(h:0<m):0<=x % m/\x % m<m:=⟨x6 _ (by lia),x5 _ h⟩
def GU(f:Int->Int):Rw->Rw
 |.st w d j=>.st w d (f j)
 |.nt j=>.nt (f j)
 |.jn w a=>.jn w (a.map f)
def fR:Rw->List RI
 |.st w d j=>[.inl (.inr w),.inl (.inr d),.inl (.inl j)]
 |.nt j=>[.inl (.inr "not"),.inl (.inl j)]
 |.jn w a=>[.inl (.inr w),.inr (a.map Sum.inl)]
theorem Ec:∀ r:Rw,qE (fR r)=dS r
 |.st _ _ _=>rfl
 |.nt _=>rfl
 |.jn _ a=>by simp[qE,fR,dS,EZ,oP,Function.comp_def]
theorem yC:∀ {x y:Rw},fR x=fR y->x=y
 |.st _ _ _,.st _ _ _,h=>by simp[fR] at h;obtain⟨rfl,rfl,rfl⟩:=h;rfl
 |.nt _,.nt _,h=>by simp[fR] at h;rw[h]
 |.jn _ b,.jn _ a,h=>by simp[fR] at h;obtain⟨rfl,h⟩:=h;have:b=a:=map_inj (λ_ _ z=>Sum.inl.inj z) h;rw[this]
 |.st _ _ _,.nt _,h=>by simp[fR] at h
 |.st _ _ _,.jn _ _,h=>by simp[fR] at h
 |.nt _,.st _ _ _,h=>by simp[fR] at h
 |.nt _,.jn _ _,h=>by simp[fR] at h
 |.jn _ _,.st _ _ _,h=>by simp[fR] at h
 |.jn _ _,.nt _,h=>by simp[fR] at h
theorem dO{k:Int}:∀ {r:Rw},tJ k r->∀ j∈qf r,0<=j/\j<k
 |.st _ _ _,h,j,a=>by rw[hV.mp a];exact h.2.2
 |.nt _,h,j,a=>by rw[hV.mp a];exact h
 |.jn _ _,h,j,a=>h.2.2 j a
theorem Lh{k a:Int}{f:Int->Int}:∀ {r:Rw},tJ k r->(∀ j∈qf r,0<=f j/\f j<a)->tJ a (GU f r)
 |.st _ _ _,h,g=>⟨h.1,h.2.1,g _ (hV.mpr rfl)⟩
 |.nt _,h,g=>g _ (hV.mpr rfl)
 |.jn _ _,h,g=>⟨h.1,by simpa[GU] using h.2.1,λp b=>by
  obtain⟨j,c,rfl⟩:=fq.mp b;exact g j c⟩
def Mz(a:D)(f:Int->Int)(j:Int):Prop:=(∃ b:List Int,a=.list (b.map .int)/\0<=j/\b[j.toNat]? = some (f j))\/∃ c:List (Key × D),a=.dK c/\gL c (Sum.inl j:Key)=some (.int (f j))
def AW(W:List Int)(j:Int):List Int:=if j∈W then W else W++[j]
def mZ(l:List Rw)(W:List Int)(k:Int):List Int:=if k∈W then (match l[k.toNat]? with
 |some r=>(qf r).foldl AW W
 |none=>W) else W
def fZ(a:Nat):List Int:=(List.range (a+1)).map λi:Nat=>(a:Int)-(i:Int)
def xV(l:List Rw)(a:Nat):List Int:=(fZ a).foldl (mZ l) [(a:Int)]
def bx(l:List Rw)(a:Nat):List Int:=((List.range (a+1)).map λi:Nat=>(i:Int)).filter λk=>decide (k∈xV l a)
def JK{W:List Int}{j x:Int}:x∈AW W j↔x∈W\/x=j:=by
 unfold AW;split
 ·rename_i h;exact⟨.inl,λz=>z.elim id λe=>e ▸ h⟩
 ·simp
theorem eV{x:Int}:∀ (a W:List Int),x∈a.foldl AW W↔x∈W\/x∈a
 |[],W=>by simp
 |j :: a,W=>by rw[zC,eV a,JK,dQ,or_assoc]
def J8{W:List Int}{j:Int}(h:W.Nodup):(AW W j).Nodup:=by
 unfold AW;split
 ·exact h
 ·rename_i n;exact ui.mpr ⟨h,by simp,λa d b c e=>n (by rw[<- hV.mp c,<- e];exact d)⟩
theorem uB:∀ (a W:List Int),W.Nodup->(a.foldl AW W).Nodup
 |[],_,h=>h
 |j :: a,W,h=>uB a _ (J8 h)
def Bp{W:List Int}(c:W.Nodup){n:Nat}(h:∀ x∈W,0<=x/\x<n):W.length<=n:=by
 have:(W.map Int.toNat).Nodup:=TL.mpr (A2.mpr (List.Pairwise.imp_of_mem (λ{a b} i g e z=>e (by have:=h a i;have:=h b g;lia)) (TL.mp c)));have:=this.length_le_of_subset (l₂:=List.range n) λx f=>by obtain⟨y,d,rfl⟩:=fq.mp f;have:=h y d;exact vF.mpr (by lia)
 simpa using this
structure wY(l:List Rw)(last:Nat)(m:Int)(W:List Int):Prop where
 nd:W.Nodup
 lst:(last:Int)∈W
 bd:∀ k∈W,0<=k/\k<=last
 cl:∀ k∈W,m<=k->∀ r,l[k.toNat]? = some r->∀ j∈qf r,j∈W
def wY.step{l:List Rw}{b:Nat}{k:Int}{W:List Int}(m:kc l)(s:0<=k)(h:wY l b (k+1) W):wY l b k (mZ l W k):=by
 unfold mZ;by_cases f:k∈W
 ·rw[if_pos f]
  cases e:l[k.toNat]? with
  |none =>
   refine⟨h.nd,h.lst,h.bd,λx c g r a j d=>?_⟩;by_cases z:x=k
   ·rw[z,e] at a;cases a
   ·exact h.cl x c (by lia) r a j d
  |some p =>
   have n:=m _ _ e;have i:=dO n;refine⟨uB _ _ h.nd,(eV _ _).mpr (.inl h.lst),λx c=>?_,λx c g r a j d=>?_⟩
   ·rcases (eV _ _).mp c with z|z
    ·exact h.bd x z
    ·have:=i x z;have:=h.bd k f;lia
   ·rcases (eV _ _).mp c with z|z
    ·by_cases q:x=k
     ·rw[q,e] at a;cases a;exact(eV _ _).mpr (.inr d)
     ·exact(eV _ _).mpr (.inl (h.cl x z (by lia) r a j d))
    ·have:=i x z;lia
 ·rw[if_neg f];refine⟨h.nd,h.lst,h.bd,λx c g r a j d=>?_⟩;by_cases z:x=k
  ·exact absurd (z ▸ c) f
  ·exact h.cl x c (by lia) r a j d
theorem lD{l:List Rw}{last:Nat}(b:kc l):∀ i,i<=last+1->wY l last ((last:Int)+1-i) (((fZ last).take i).foldl (mZ l) [(last:Int)])
 |0,_=>⟨by simp,by simp,λk a=>by rw[hV.mp a];lia,λk a d=>by rw[hV.mp a] at d;lia⟩
 |i+1,f=>by
  have c:=lD (last:=last) b i (by lia);have e:(fZ last).take (i+1)=(fZ last).take i++[(last:Int)-i]:=by rw[yA];unfold fZ;rw[ki,TX (by lia)];rfl
  rw[e,P4,zC,VF];have:=wY.step (k:=last-i) b (by lia) (by rw[show last-i+1=(last:Int)+1-i by lia];exact c);rw[show last+1-((i+1:Nat):Int)=last-i by lia];exact this
def iC{l:List Rw}{last:Nat}(a:kc l):wY l last 0 (xV l last):=by have:=lD a (last+1) (cE _);rw[PY (by simp[fZ]),show last+1-((last+1:Nat):Int)=0 by lia] at this;exact this
def ir{l:List Rw}{a:Nat}(b:kc l){k:Int}:k∈bx l a↔k∈xV l a:=by unfold bx;rw[DZ,decide_eq_true_iff];refine⟨λh=>h.2,λh=>⟨?_,h⟩⟩;have:=(iC b).bd k h;exact fq.mpr ⟨k.toNat,vF.mpr (by lia),by lia⟩
def jx{l:List Rw}{a:Nat}:(bx l a).Pairwise (· < ·):=by refine List.Pairwise.filter _ (A2.mpr ?_);exact List.pairwise_lt_range.imp λh=>by lia
def OX(l:List Rw)(a:Nat)(k:Int):Int:=((bx l a).idxOf k:Nat)
def ZK(l:List Rw)(k:Int):Rw:=(l[k.toNat]?).getD (.nt 0)
def pz(l:List Rw)(last:Nat):List Rw:=(bx l last).map λk=>GU (OX l last) (ZK l k)
def cI{l:List Int}(a:l.Nodup){i:Nat}{k:Int}(h:l[i]? = some k):l.idxOf k=i:=by obtain⟨b,e⟩:=k7.mp h;rw[<- e];exact a.idxOf_getElem i b
def gk(l:List Rw)(a:Nat):(bx l a).Nodup:=(jx).imp λh=>by lia
def gP{l:List Rw}{last:Nat}(a:kc l){k:Int}(h:k∈bx l last):0<=k/\k<=last:=(iC a).bd k ((ir a).mp h)
def Bq{l:List Rw}{a:Nat}(b:kc l){k:Int}(h:k∈bx l a){r:Rw}(c:l[k.toNat]? = some r):∀ j∈qf r,j∈bx l a:=λj d=>(ir b).mpr ((iC b).cl k ((ir b).mp h) (gP b h).1 r c j d)
def Gg{l:List Int}(a:l.Pairwise (· < ·)){i:Nat}{j k:Int}(d:l[i]? = some k)(e:j∈l)(h:j<k):l.idxOf j<i:=by
 obtain⟨m,b⟩:=zv.mp e;have c:l.Nodup:=a.imp λh=>by lia
 rw[cI c b];by_cases z:m<i
 ·exact z
 ·obtain⟨f,p⟩:=k7.mp d;obtain⟨g,n⟩:=k7.mp b;by_cases q:m=i
  ·subst q;lia
  ·have:=TN.mp a i m f g (by lia);lia
structure Sm(α:Type) where
 H:Rw->(Int->α)->α
 z:α
 cg:∀ {r:Rw} {g g':Int->α},(∀ j∈qf r,g j=g' j)->H r g=H r g'
 rn:∀ (f:Int->Int) (r:Rw) (g:Int->α),H (GU f r) g=H r fun j=>g (f j)
section
variable {a:Type}(S:Sm a)
def Sm.vals(l:List Rw):List a:=l.foldl (λv r=>v++[S.H r λj=>v.getD j.toNat S.z]) []
def Sm.at(l:List Rw)(k:Int):a:=(S.vals l).getD k.toNat S.z
def qd(l:List Rw)(r:Rw):S.vals (l++[r])=S.vals l++[S.H r (S.at l)]:=by unfold Sm.vals;rw[P4];rfl
def Cr(l:List Rw):∀ m:List Rw,∃ w,S.vals (l++m)=S.vals l++w:=by
 intro m;unfold Sm.vals;rw[P4];generalize l.foldl (λv r=>v++[S.H r λj=>v.getD j.toNat S.z]) []=v
 induction m generalizing v with
 |nil=>exact⟨[],by simp⟩
 |cons r m b =>obtain⟨w,e⟩:=b (v++[S.H r λj=>v.getD j.toNat S.z]);exact⟨_ :: w,by rw[zC,e,r9];rfl⟩
def iJ(l:List Rw):(S.vals l).length=l.length:=by
 unfold Sm.vals;suffices h:∀ (l:List Rw) v,(l.foldl (λv r=>v++[S.H r λj=>v.getD j.toNat S.z]) v).length=v.length+l.length by simpa using h l []
 intro l
 induction l with
 |nil=>intro v;rfl
 |cons r l b=>intro v;rw[zC,b];simp;lia
def vR{l m:List Rw}{k:Int}(h:k.toNat<l.length):S.at (l++m) k=S.at l k:=by obtain⟨w,e⟩:=Cr S l m;unfold Sm.at;rw[e,xE,xE,HK (by rw[iJ];exact h)]
def vG{l:List Rw}(d:kc l){k:Nat}{r:Rw}(h:l[k]? = some r):S.at l k=S.H r (S.at l):=by
 obtain⟨f,e⟩:=k7.mp h;have c:l=(l.take k++[r])++l.drop (k+1):=by have:=B3 f;rw[e] at this;rw[r9,TR,<- this,PZ]
 have b:(l.take k).length=k:=by rw[lI];lia
 have i:S.at l k=S.at (l.take k++[r]) k:=by
  conv=>lhs;rw[c]
  exact vR S (by simp;lia)
 rw[i];unfold Sm.at;rw[qd,xE,DT (by rw[iJ];simp;lia)];rw[iJ,b];simp only[D6,Qb];refine S.cg λj g=>?_;have:=dO (d k r h) j g;conv=>rhs;rw[c,r9]
 exact(vR S (by rw[b];lia)).symm
end
def sY{l:List Rw}{a:Nat}(b:kc l):(a:Int)∈bx l a:=(ir b).mpr (iC b).lst
def Mt{l:List Rw}{a i:Nat}{k:Int}(h:(bx l a)[i]? = some k):OX l a k=i:=by unfold OX;rw[cI (gk l a) h]
def Gn{l:List Rw}{a:Nat}(c:kc l)(w:a<l.length){i:Nat}{r:Rw}(h:(pz l a)[i]? = some r):∃ k b,(bx l a)[i]? = some k/\l[k.toNat]? = some b/\tJ k b/\r=GU (OX l a) b/\∀ j∈qf b,∃ m:Nat,m<i/\(bx l a)[m]? = some j:=by
 unfold pz at h;rw[ki] at h
 cases e:(bx l a)[i]? with
 |none=>rw[e] at h;cases h
 |some k =>
  rw[e] at h;cases h;have p:=oj e;obtain⟨t,v⟩:=gP c p;have u:k.toNat<l.length:=by lia
  have f:l[k.toNat]? = some (ZK l k):=by unfold ZK;rw[rh u];rfl
  have d:=c _ _ f;rw[oq t] at d;refine⟨k,_,rfl,f,d,rfl,λj q=>?_⟩;have s:=Bq c p f j q;have g:=Gg jx e s (dO d j q).2;obtain⟨m,n⟩:=zv.mp s;rw[cI (gk l a) n] at g;exact⟨m,g,n⟩
def Gj{l:List Rw}{a:Nat}(b:kc l)(d:a<l.length):kc (pz l a):=λi r h=>by obtain⟨k,n,_,_,c,rfl,g⟩:=Gn b d h;refine Lh c λj f=>?_;obtain⟨m,p,e⟩:=g j f;rw[Mt e];lia
def pM(l:List Rw)(a:Nat):(pz l a).length=(bx l a).length:=by unfold pz;rw[cx]
def GD{g:Type}(S:Sm g){l:List Rw}{a:Nat}(b:kc l)(c:a<l.length):∀ (i:Nat) (k:Int),(bx l a)[i]? = some k->S.at (pz l a) i=S.at l k:=by
 intro i
 induction i using Nat.strongRecOn with
 |ind i q =>
  intro k h;have d:i<(pz l a).length:=by rw[pM];exact(k7.mp h).1
  obtain⟨x,n,f,v,w,u,t⟩:=Gn b c (rh d);rw[h] at f;cases f;have p:=(gP b (oj h)).1;rw[vG S (Gj b c) (rh d),u,S.rn];have:S.at l k=S.H n (S.at l):=by have:=vG S b v;rwa[oq p] at this
  rw[this];refine S.cg λj s=>?_;obtain⟨m,r,e⟩:=t j s;rw[Mt e];exact q m r j e
def DW{l:List Rw}{a:Nat}(b:kc l):(bx l a)[(bx l a).length-1]? = some (a:Int):=by
 obtain⟨m,c⟩:=zv.mp (sY b);obtain⟨e,f⟩:=k7.mp c;by_cases z:m=(bx l a).length-1
 ·rw[<- z];exact c
 ·have d:(bx l a).length-1<(bx l a).length:=by lia
  have:=TN.mp (jx) m _ e d (by lia);have:=(gP b (VC d)).2;lia
def Ef{l:List Rw}{a:Nat}(b:kc l):1<=(bx l a).length:=Vz (sY b)
def Ej{b:Type}(S:Sm b){l:List Rw}{last:Nat}(a:kc l)(c:last<l.length):S.at (pz l last) (((pz l last).length-1:Nat):Int)=S.at l last:=by have:=GD S a c _ _ (DW a);rw[pM];exact this
def DF(x y:Rw):Bool:=decide (fR y=fR x)
def gp(a:List Rw)(x:Rw):List Rw × Int:=if a.any (DF x)=true then (a,(a.findIdx (DF x):Nat)) else (a++[x],(a.length:Nat))
def uY{b:List Rw}{x:Rw}:b.any (DF x)=true↔fR x∈b.map fR:=by rw[HP,fq];exact⟨λzq=>by obtain⟨y,a,e⟩:=zq;exact⟨y,a,of_decide_eq_true e⟩,λzj=>by obtain⟨y,a,e⟩:=zj;exact⟨y,a,decide_eq_true e⟩⟩
def Fp{c:List Rw}{x:Rw}(g:(c.map fR).Nodup)(f:kc c)(j:tJ c.length x):((gp c x).1.map fR).Nodup/\kc (gp c x).1/\(gp c x).1[(gp c x).2.toNat]? = some x/\0<=(gp c x).2/\(gp c x).2<(gp c x).1.length/\(∃ m,(gp c x).1=c++m/\∀ r∈m,r=x)/\(gp c x).1.length<=c.length+1:=by
 unfold gp;by_cases h:c.any (DF x)=true
 ·rw[if_pos h];have i:c.findIdx (DF x)<c.length:=List.findIdx_lt_length.mpr (HP.mp h);have e:DF x c[c.findIdx (DF x)]=true:=List.findIdx_getElem;refine⟨g,f,?_,Int.natCast_nonneg _,by simpa using i,⟨[],by simp,λ_ z=>nomatch z⟩,by simp⟩;simp only[D6];rw[rh i,yC (of_decide_eq_true e)]
 ·rw[if_neg h];refine⟨?_,f.app j,by simp,Int.natCast_nonneg _,by simp;lia,⟨[x],rfl,λr z=>hV.mp z⟩,by simp⟩;rw[kS];exact ui.mpr ⟨g,by simp,λa k b d e=>h (uY.mpr (by
   have d:b=fR x:=by simpa using d
   rw[<- d,<- e];exact k))⟩
def Ky{a:List Rw}{x:Rw}{c:List (List RI)}{k:Nat}(d:(a.map fR).Nodup)(h:fR x∈a.map fR/\c=a.map fR\/fR x∉a.map fR/\c=a.map fR++[fR x])(b:c[k]? = some (fR x)):c=(gp a x).1.map fR/\(k:Int)=(gp a x).2:=by
 unfold gp;rcases h with⟨m,rfl⟩|⟨m,rfl⟩
 ·rw[if_pos (uY.mpr m)];refine⟨rfl,?_⟩;obtain⟨j,g⟩:=k7.mp b;have f:a.findIdx (DF x)<a.length:=List.findIdx_lt_length.mpr (HP.mp (uY.mpr m));have e:DF x a[a.findIdx (DF x)]=true:=List.findIdx_getElem;have i:(a.map fR)[a.findIdx (DF x)]'(by rw[cx];exact f)=(a.map fR)[k]:=by rw[g,List.getElem_map];exact of_decide_eq_true e
  have:=(xeh d).mp i;simp only;lia
 ·rw[if_neg (λz=>m (uY.mp z))];refine⟨by simp,?_⟩;simp only;by_cases z:k<(a.map fR).length
  ·rw[HK z] at b;exact absurd (oj b) m
  ·rw[DT (by lia)] at b;have:k-(a.map fR).length<1:=by have:=(k7.mp b).1;simpa using this
   rw[cx] at this z;lia
inductive Hd where
 |st (w d:Str)
 |ot (w:Str)
def An:Hd->D
 |.st w d=>.tup [.str w,.str d]
 |.ot w=>.tup [.str w]
abbrev md (w:Str):Prop:=w = "some"\/w = "all"
def mh:List Str->Option (List Hd)
 |[]=>some []
 |[w]=>if md w then none else some [.ot w]
 |w :: d :: a=>if md w then (if fX d=true then (mh a).map (Hd.st w d :: ·) else none) else (mh (d :: a)).map (Hd.ot w :: ·)
def hw:Hd->List Str
 |.st w d=>[w,d]
 |.ot w=>[w]
def OY:Hd->Prop
 |.st w d=>md w/\pf d
 |.ot w=>¬ md w
theorem ou:∀ (b:List Str) (a:List Hd),mh b=some a->a.flatMap hw=b/\∀ h∈a,OY h
 |[],a,h=>by cases h;exact⟨rfl,λ_ z=>nomatch z⟩
 |[w],a,h=>by
  unfold mh at h;split at h
  ·cases h
  ·rename_i n;cases h;exact⟨rfl,λx c=>by rw[hV.mp c];exact n⟩
 |w :: d :: b,a,h=>by
  unfold mh at h;split at h
  ·rename_i n;split at h
   ·rename_i i;obtain⟨t,e,rfl⟩:=nV.mp h;obtain⟨g,f⟩:=ou b t e;exact⟨by rw[T3,g];rfl,λx c=>(dQ.mp c).elim (λz=>z ▸ ⟨n,cD.mp i⟩) (f x)⟩
   ·cases h
  ·rename_i n;obtain⟨t,e,rfl⟩:=nV.mp h;obtain⟨g,f⟩:=ou (d :: b) t e;exact⟨by rw[T3,g];rfl,λx c=>(dQ.mp c).elim (λz=>z ▸ n) (f x)⟩
def pX{b:List Str}{a:List Hd}(h:mh b=some a):a.length<=b.length:=by
 rw[<- (ou b a h).1];clear h
 induction a with
 |nil=>exact cE _
 |cons x a c=>cases x<;>(simp only[T3,kz,gi,hw,P6];lia)
def BQ:Hd->Option Nat
 |.st _ _=>some 1
 |.ot w=>if w = "not" then some 1 else if w = "yes" then some 0 else if w = "both" then some 2 else if w = "no" then some 0 else if w = "either" then some 2 else none
def oi:Nat->List Hd->Bool
 |0,b=>b.isEmpty
 |_+1,[]=>false
 |n+1,h :: b=>match BQ h with
  |some a=>oi (n+a) b
  |none=>false
def iO:Nat->List Str->Bool
 |0,b=>b.isEmpty
 |_+1,[]=>false
 |n+1,[w]=>if md w then false else match BQ (.ot w) with
  |some a=>iO (n+a) []
  |none=>false
 |n+1,w :: d :: b=>if md w then fX d && iO (n+1) b else match BQ (.ot w) with
  |some a=>iO (n+a) (d :: b)
  |none=>false
def BR(n:Nat):iO n []=decide (n=0):=by cases n<;>rfl
def t_(n:Nat):oi n []=decide (n=0):=by cases n<;>rfl
def qp:∀ (b:List Str) (n:Nat),iO n b=match mh b with
  |some c=>oi n c
  |none=>false
 |[],n=>by rw[BR];exact(t_ n).symm
 |[w],n=>by
  unfold mh
  cases n with
  |zero =>
   by_cases h:md w
   ·rw[if_pos h];rfl
   ·rw[if_neg h];rfl
  |succ n =>
   unfold iO;by_cases h:md w
   ·rw[if_pos h,if_pos h]
   ·rw[if_neg h,if_neg h];show _=oi (n+1) [.ot w];unfold oi
    cases BQ (.ot w) with
    |none=>rfl
    |some a=>show iO (n+a) []=oi (n+a) [];rw[BR,t_]
 |w :: d :: b,n=>by
  unfold mh
  cases n with
  |zero =>
   split
   ·rename_i c e
    cases c with
    |nil =>
     split at e
     ·split at e
      ·obtain⟨_,_,z⟩:=nV.mp e;cases z
      ·cases e
     ·obtain⟨_,_,z⟩:=nV.mp e;cases z
    |cons _ _=>rfl
   ·rfl
  |succ n =>
   unfold iO;by_cases h:md w
   ·rw[if_pos h,if_pos h,qp b (n+1)]
    cases fX d with
    |false=>rfl
    |true =>
     cases mh b with
     |none=>rfl
     |some c=>rfl
   ·rw[if_neg h,if_neg h]
    cases e:BQ (.ot w) with
    |none =>
     cases mh (d :: b) with
     |none=>rfl
     |some c=>show false=oi (n+1) (.ot w :: c);unfold oi;rw[e]
    |some a =>
     show iO (n+a) (d :: b)=_;rw[qp (d :: b) (n+a)]
     cases mh (d :: b) with
     |none=>rfl
     |some c=>show oi (n+a) c=oi (n+1) (.ot w :: c);conv=>rhs;unfold oi;rw[e]
def ZL(w:Str):List Int->Option (Rw × List Int)
 |x :: y :: t=>some (.jn w [x,y],t)
 |_=>none
def ZM(f:Int->Rw):List Int->Option (Rw × List Int)
 |x :: t=>some (f x,t)
 |[]=>none
def BU(h:Hd)(a:List Int):Option (Rw × List Int):=match h with
 |.st w d=>ZM (.st w d) a
 |.ot w=>if w = "not" then ZM .nt a else if w = "yes" then some (.jn "and" [],a) else if w = "both" then ZL "and" a else if w = "no" then some (.jn "or" [],a) else if w = "either" then ZL "or" a else none
def Vm(h:Hd)(o:Option (List Rw × List Int)):Option (List Rw × List Int):=o.bind λp=>(BU h p.2).map λq=>((gp p.1 q.1).1,(gp p.1 q.1).2 :: q.2)
def vv(a:List Hd):Option (List Rw × List Int):=a.foldr Vm (some ([],[]))
def Gq(h:Hd)(st:List Int):match BU h st with
  |some (_,t)=>BQ h=some (st.length-t.length)/\t.length<=st.length
  |none=>∀ a,BQ h=some a->st.length<a:=by
 have c:∀ f:Int->Rw,match ZM f st with
  |some (_,t)=>some 1=some (st.length-t.length)/\t.length<=st.length
  |none=>∀ a,some 1=some a->st.length<a:=λf=>by
  cases st with
  |nil=>intro a e;cases e;exact Nat.one_pos
  |cons x t=>exact⟨by simp,by simp⟩
 have b:∀ w:Str,match ZL w st with
  |some (_,t)=>some 2=some (st.length-t.length)/\t.length<=st.length
  |none=>∀ a,some 2=some a->st.length<a:=λw=>by
  rcases st with _|⟨x,_|⟨y,t⟩⟩
  ·intro a e;cases e;exact Nat.two_pos
  ·intro a e;cases e;exact Nat.one_lt_two
  ·exact⟨by simp;lia,by simp;lia⟩
 cases h with
 |st w d=>exact c _
 |ot w =>
  unfold BU BQ;dsimp only;by_cases l:w = "not"
  ·rw[if_pos l,if_pos l];exact c _
  rw[if_neg l,if_neg l];by_cases k:w = "yes"
  ·rw[if_pos k,if_pos k];exact⟨by simp,cE _⟩
  rw[if_neg k,if_neg k];by_cases j:w = "both"
  ·rw[if_pos j,if_pos j];exact b _
  rw[if_neg j,if_neg j];by_cases i:w = "no"
  ·rw[if_pos i,if_pos i];exact⟨by simp,cE _⟩
  rw[if_neg i,if_neg i];by_cases g:w = "either"
  ·rw[if_pos g,if_pos g];exact b _
  rw[if_neg g,if_neg g];exact λa e=>nomatch e
def pB(h:Hd)(a:List Hd):vv (h :: a)=Vm h (vv a):=rfl
def Aw(d:List Hd):∀ n,oi n d=true↔∃ p,vv d=some p/\p.2.length=n:=by
 induction d with
 |nil =>
  intro n;rw[t_,decide_eq_true_eq];constructor
  ·intro e;exact⟨_,rfl,e.symm⟩
  ·rintro⟨p,e,l⟩;cases e;exact l.symm
 |cons h d f =>
  intro n;rw[pB];unfold Vm
  cases n with
  |zero =>refine⟨λe=>(nomatch e),λ⟨p,e,l⟩=>?_⟩;obtain⟨q,_,e⟩:=VS.mp e;obtain⟨r,_,rfl⟩:=nV.mp e;simp at l
  |succ n =>
   constructor
   ·intro e;unfold oi at e;split at e
    ·rename_i a g;obtain⟨p,j,l⟩:=(f _).mp e;rw[j];have R:=Gq h p.2
     cases b:BU h p.2 with
     |none=>rw[b] at R;have:=R a g;lia
     |some q =>rw[b] at R;obtain⟨c,k⟩:=R;rw[g] at c;have c:=Option.some.inj c;refine⟨_,by rw[xej,b];rfl,?_⟩;simp only[gi];lia
    ·cases e
   ·rintro⟨p,e,l⟩;obtain⟨q,i,e⟩:=VS.mp e;obtain⟨⟨r,t⟩,b,rfl⟩:=nV.mp e;have R:=Gq h q.2;rw[b] at R;obtain⟨c,k⟩:=R;unfold oi;rw[c];refine(f _).mpr ⟨q,i,?_⟩;simp only[gi] at l;lia
def mG(o:Option (List Str)):Option (List Str):=o.bind λa=>if a.length<=200 then some a else none
def pE:List (Option (List Str))->Option (List (List Str))
 |[]=>some []
 |none :: _=>none
 |some w :: l=>(pE l).map (w :: ·)
def fu (w:Str):Str:=if w = "and" then "yes" else "no"
def CV:fu "or" = "no" := by decide +kernel
def cB (w:Str):Str:=if w = "and" then "both" else "either"
def OZ(j:Str):List (List Str)->List Str
 |[]=>[]
 |[p]=>p
 |p :: q :: l=>j :: (p++OZ j (q :: l))
def ZN(w:Str):List (List Str)->List Str
 |[]=>[fu w]
 |p :: l=>OZ (cB w) (p :: l)
def LB(r:Rw)(g:Int->Option (List Str)):Option (List Str):=mG (match r with
 |.st w d j=>(g j).map λa=>w :: d :: a
 |.nt j=>(g j).map λa => "not" :: a
 |.jn w b=>(pE (b.map g)).map (ZN w))
def WA:Sm (Option (List Str)) where
 H:=LB
 z:=none
 cg:=λ{r g b} h=>by
  cases r with
  |st w d j=>show mG ((g j).map _)=mG ((b j).map _);rw[h j (hV.mpr rfl)]
  |nt j=>show mG ((g j).map _)=mG ((b j).map _);rw[h j (hV.mpr rfl)]
  |jn w a =>have h:∀ j∈a,g j=b j:=h;show mG ((pE (a.map g)).map _)=mG ((pE (a.map b)).map _);rw[A0 h]
 rn:=λf r g=>by
  cases r with
  |st w d j=>rfl
  |nt j=>rfl
  |jn w a=>show mG ((pE ((a.map f).map g)).map _)=mG ((pE (a.map λj=>g (f j))).map _);rw[kM];rfl
structure Vn(hs:List Hd)(rs:List Rw)(st:List Int):Prop where
 nd:(rs.map fR).Nodup
 sc:kc rs
 ln:rs.length<=hs.length
 sl:st.length<=hs.length
 bd:∀ x∈st,0<=x/\x<rs.length
 ws:∃ GV:List (List Str),st.map (WA.at rs)=GV.map some/\GV.flatten=hs.flatMap hw
def u9{a:List Str}(h:a.length<=200):mG (some a)=some a:=by unfold mG;rw[xej,if_pos h]
def fH {h:Hd} {st t:List Int} {r:Rw} (p:OY h) (e:BU h st=some (r,t)):(∃ w d x,h=.st w d/\md w/\st=x :: t/\r=.st w d x)\/(∃ x,h=.ot "not"/\st=x :: t/\r=.nt x)\/(∃ w v:Str,h=.ot w/\(w = "yes"/\v = "and"\/w = "no"/\v = "or")/\t=st/\r=.jn v [])\/∃ (w v:Str) (x y:Int),h=.ot w/\(w = "both"/\v = "and"\/w = "either"/\v = "or")/\st=x :: y :: t/\r=.jn v [x,y]:=by
 have g:∀ f:Int->Rw,ZM f st=some (r,t)->∃ x,st=x :: t/\r=f x:=λf e=>by
  cases st with
  |nil=>cases e
  |cons x n=>cases e;exact⟨x,rfl,rfl⟩
 have c:∀ w:Str,ZL w st=some (r,t)->∃ x y,st=x :: y :: t/\r=.jn w [x,y]:=λw e=>by
  rcases st with _|⟨x,_|⟨y,n⟩⟩
  ·cases e
  ·cases e
  ·cases e;exact⟨x,y,rfl,rfl⟩
 cases h with
 |st w d =>obtain⟨x,a,b⟩:=g _ e;exact .inl ⟨w,d,x,rfl,p.1,a,b⟩
 |ot w =>
  unfold BU at e;dsimp only at e;by_cases m:w = "not"
  ·rw[if_pos m] at e;obtain⟨x,a,b⟩:=g _ e;exact .inr (.inl ⟨x,by rw[m],a,b⟩)
  rw[if_neg m] at e;by_cases l:w = "yes"
  ·rw[if_pos l] at e;cases e;exact .inr (.inr (.inl ⟨w, "and",rfl,.inl ⟨l,rfl⟩,rfl,rfl⟩))
  rw[if_neg l] at e;by_cases k:w = "both"
  ·rw[if_pos k] at e;obtain⟨x,y,a,b⟩:=c _ e;exact .inr (.inr (.inr ⟨w, "and",x,y,rfl,.inl ⟨k,rfl⟩,a,b⟩))
  rw[if_neg k] at e;by_cases j:w = "no"
  ·rw[if_pos j] at e;cases e;exact .inr (.inr (.inl ⟨w, "or",rfl,.inr ⟨j,rfl⟩,rfl,rfl⟩))
  rw[if_neg j] at e;by_cases i:w = "either"
  ·rw[if_pos i] at e;obtain⟨x,y,a,b⟩:=c _ e;exact .inr (.inr (.inr ⟨w, "or",x,y,rfl,.inr ⟨i,rfl⟩,a,b⟩))
  rw[if_neg i] at e;cases e
def G_(k:List Hd):(∀ h∈k,OY h)->(k.flatMap hw).length<=200->∀ B A,vv k=some (B,A)->Vn k B A:=by
 induction k with
 |nil =>intro _ _ B A e;cases e;exact⟨oo,kc.nil,cE _,cE _,λx z=>(nomatch z),[],rfl,rfl⟩
 |cons h k ih =>
  intro T z B A e;have Y:(k.flatMap hw).length<=200:=by rw[T3,kz] at z;lia
  rw[pB] at e;obtain⟨⟨c,N⟩,e0,e⟩:=VS.mp e;obtain⟨⟨r,t⟩,hr,e⟩:=nV.mp e;cases e;obtain⟨nd,o,ln,sl,E,F,g,ef⟩:=ih (λx f=>T x (eI _ f)) Y c N e0;have s:=T h eK;have K:tJ c.length r/\(∀ x∈t,x∈N)/\t.length<=N.length/\∃ (l:List Str) (i:List (List Str)),t.map (WA.at c)=i.map some/\l++i.flatten=(h :: k).flatMap hw/\(l.length<=200->WA.H r (WA.at c)=some l):=by
   rw[T3,<- ef];have W:∀ {w v a b:Str},(w=a/\v = "and"\/w=b/\v = "or")->v = "and"\/v = "or" := λh=>h.imp And.right And.right;rcases fH s hr with⟨w,d,x,rfl,M,rfl,rfl⟩|⟨x,rfl,rfl,rfl⟩|⟨w,v,rfl,u,rfl,rfl⟩|⟨w,v,x,y,rfl,u,rfl,rfl⟩
   ·rcases F with _|⟨q,i⟩<;>simp only[eR,P7,List.cons.injEq,reduceCtorEq] at g
    refine⟨⟨M,s.2,E x (by simp)⟩,λy L=>by simp[L],by simp,w :: d :: q,i,g.2,by simp[hw],λn=>?_⟩;show mG ((WA.at c x).map _)=_;rw[g.1];exact u9 n
   ·rcases F with _|⟨q,i⟩<;>simp only[eR,P7,List.cons.injEq,reduceCtorEq] at g
    refine⟨E x (by simp),λy L=>by simp[L],by simp, "not" :: q,i,g.2,by simp[hw],λn=>?_⟩;show mG ((WA.at c x).map _)=_;rw[g.1];exact u9 n
   ·refine⟨⟨W u,by simp,λp D=>nomatch D⟩,λx f=>f,cE _,[w],F,g,rfl,λn=>?_⟩;rcases u with⟨rfl,rfl⟩|⟨rfl,rfl⟩
    ·rfl
    ·show mG (some [fu "or"])=_;rw[CV];rfl
   ·rcases F with _|⟨q,_|⟨Z,i⟩⟩<;>simp only[eR,P7,List.cons.injEq,reduceCtorEq,and_false] at g
    refine⟨⟨W u,by simp,λp D=>?_⟩,λx f=>by simp[f],by simp;lia,w :: (q++Z),i,g.2.2,by simp[hw],λn=>?_⟩
    ·simp only[dQ,sM,or_false] at D;rcases D with rfl|rfl<;>exact E _ (by simp)
    ·show mG ((pE [WA.at c x,WA.at c y]).map (ZN v))=_;rw[g.1,g.2.1,show w=cB v by rcases u with⟨rfl,rfl⟩|⟨rfl,rfl⟩<;>decide +kernel];exact u9 n
  obtain⟨X,J,tl,l,i,e1,V,e3⟩:=K;obtain⟨U,S,I,R,C,⟨m,Q,p7⟩,p8⟩:=Fp nd o X;have O:∀ x:Int,0<=x/\x<c.length->WA.at (gp c r).1 x=WA.at c x:=λx f=>by rw[Q];exact vR WA (by lia)
  have G:l.length<=200:=by have:=congrArg List.length V;rw[kz] at this;lia
  have H:WA.at (gp c r).1 (gp c r).2=some l:=by have:=vG WA S I;rw[oq R] at this;rw[this,<- e3 G];exact WA.cg λj hj=>O j (dO X j hj)
  have P:∀ x∈t,0<=x/\x<c.length:=λx f=>E x (J x f);refine⟨U,S,by show(gp c r).1.length<=_;rw[gi];lia,by simp only[gi];lia,λx f=>?_,l :: i,?_,V⟩
  ·rcases dQ.mp f with rfl|f
   ·exact⟨R,C⟩
   ·have:=P x f;rw[Q,kz];exact⟨this.1,by lia⟩
  ·rw[eR,eR,H,<- e1];congr 1;exact A0 λx f=>O x (P x f)
def slK(a:L2.Q.Env):Nat:=match a.getD 2 none with
 |some (.sh (.int k))=>k.toNat
 |_=>0
def ig{w:Str}(b:¬ md w)(n:Nat)(l:List Str):iO (n+1) (w :: l)=match BQ (.ot w) with
  |some a=>iO (n+a) l
  |none=>false:=by
 cases l with
 |nil=>show(if md w then false else _)=_;rw[if_neg b]
 |cons d l=>show(if md w then _ else _)=_;rw[if_neg b]
def qN {w:Str} (h:w = "yes"\/w = "no"):¬ md w/\BQ (.ot w)=some 0:=by rcases h with rfl|rfl<;>decide +kernel
def Cu {w:Str} (h:w = "both"\/w = "either"):¬ md w/\BQ (.ot w)=some 2:=by rcases h with rfl|rfl<;>decide +kernel
def uE:¬ md "not"/\BQ (.ot "not")=some 1:=by decide +kernel
def GZ(x:Str)(l:List Str):inD (.str x) (l.map D.str)=decide (x∈l):=by
 unfold inD;rw[zD,HP,decide_eq_true_iff];constructor
 ·rintro⟨y,a,e⟩;obtain⟨c,d,rfl⟩:=fq.mp a;have:=(lZ (.str c) (.str x) rfl rfl).mp e;cases this;exact d
 ·intro b;exact⟨.str x,fq.mpr ⟨x,b,rfl⟩,(lZ (.str x) (.str x) rfl rfl).mpr rfl⟩
def cW(w x y:Str):inD (.str w) [.str x,.str y]=decide (w=x\/w=y):=by rw[show[D.str x,D.str y]=[x,y].map D.str from rfl,GZ];congr 1;simp
theorem pP(j:Str)(p:List Str):∀ l:List (List Str),OZ j (l++[p])=(l.map (j :: ·)).flatten++p
 |[]=>rfl
 |[q]=>by simp[OZ]
 |q :: r :: l=>by have:=pP j p (r :: l);show j :: (q++OZ j ((r :: l)++[p]))=_;rw[this];simp
def E7(o:Option (List Str)):Prop:=∀ a,o=some a->a.length<=200/\∀ w∈a,PyData.strOk w=true/\w.length<=6
def Cg(w:Str):PyData.strOk (fu w)=true/\(fu w).length<=6/\PyData.strOk (cB w)=true/\(cB w).length<=6:=by unfold fu cB;split<;>decide +kernel
def Ov{k:Int}{r:Rw}{g:Int->Option (List Str)}(f:tJ k r)(v:∀ j,E7 (g j)):E7 (LB r g):=by
 intro L e;obtain⟨X,u,e⟩:=VS.mp e;split at e
 ·rename_i G;cases e;refine⟨G,?_⟩
  cases r with
  |st w d j =>
   obtain⟨p,s,rfl⟩:=nV.mp (u);have K:PyData.strOk w=true/\w.length<=6:=by rcases f.1 with rfl|rfl<;>decide +kernel
   intro x a;rcases dQ.mp a with rfl|a
   ·exact K
   rcases dQ.mp a with rfl|a
   ·exact⟨f.2.1.ok,f.2.1.len⟩
   ·exact(v j p s).2 x a
  |nt j =>
   obtain⟨p,s,rfl⟩:=nV.mp (u);intro x a;rcases dQ.mp a with rfl|a
   ·decide +kernel
   ·exact(v j p s).2 x a
  |jn w A =>
   obtain⟨l,H,rfl⟩:=nV.mp (u);have b:∀ (c:List Int) m,pE (c.map g)=some m->∀ p∈m,∀ x∈p,PyData.strOk x=true/\x.length<=6:=λc=>by
    induction c with
    |nil=>intro m e;cases e;exact λ_ z=>nomatch z
    |cons q c E =>
     intro m e;rw[eR] at e
     cases t:g q with
     |none=>rw[t] at e;cases e
     |some p =>rw[t] at e;obtain⟨B,J,rfl⟩:=nV.mp (e);exact λy h=>(dQ.mp h).elim (λz=>z ▸ (v q p t).2) (E B J y)
   have b:=b A l H;have D:∀ m:List (List Str),(∀ p∈m,∀ x∈p,PyData.strOk x=true/\x.length<=6)->∀ x∈OZ (cB w) m,PyData.strOk x=true/\x.length<=6:=λm=>by
    rcases m.eq_nil_or_concat with rfl|⟨n,p,rfl⟩
    ·exact λ_ x a=>nomatch a
    ·intro i x a;rw[List.concat_eq_append] at a i;rw[pP] at a;rcases kA.mp a with a|a
     ·obtain⟨y,h,a⟩:=List.mem_flatten.mp a;obtain⟨q,F,rfl⟩:=fq.mp h;rcases dQ.mp a with rfl|a
      ·exact⟨(Cg w).2.2.1,(Cg w).2.2.2⟩
      ·exact i q (sL _ F) x a
     ·exact i p (by simp) x a
   cases l with
   |nil =>intro x a;rw[hV.mp a];exact⟨(Cg w).1,(Cg w).2.1⟩
   |cons p l=>exact D _ b
 ·cases e
def zx{l:List Rw}(d:kc l):∀ i,i<=l.length->∀ o∈WA.vals (l.take i),E7 o:=by
 intro i
 induction i with
 |zero=>intro _ o a;rw[List.take_zero] at a;exact nomatch a
 |succ i b =>
  intro g o a;have c:i<l.length:=by lia
  rw[xdG c,qd] at a;rcases kA.mp a with a|a
  ·exact b (by lia) o a
  ·rw[hV.mp a];refine Ov (d i _ (rh c)) λj=>?_;show E7 ((WA.vals (l.take i)).getD j.toNat none);rw[xE]
   cases e:(WA.vals (l.take i))[j.toNat]? with
   |none=>exact λf z=>nomatch z
   |some o=>exact b (by lia) o (oj e)
def gy'(f:Int->Bool):D->Bool
 |.int o=>f o
 |_=>false
def DR(f:Int->Bool)(l:List Int):((l.map D.int).filter (gy' f)).map id=(l.filter f).map .int:=by rw[List.map_id,List.filter_map];rfl
def uq(f:Int->Bool)(l:List Int):decide ((0:Int)<((l.filter f).length:Nat))=l.any f:=by
 rw[zD,decide_eq_true_iff,HP];constructor
 ·intro h;obtain⟨x,a⟩:=List.exists_mem_of_length_pos (l:=l.filter f) (by lia);exact⟨x,(DZ.mp a).1,(DZ.mp a).2⟩
 ·rintro⟨x,a,e⟩;have:=Vz (DZ.mpr ⟨a,e⟩);lia
def t7(f:Int->Bool)(l:List Int):decide (((l.filter λx=>!f x).length:Nat)=(0:Int))=l.all f:=by
 rw[zD,decide_eq_true_iff,xI];constructor
 ·intro h x a;have h:(l.filter λx=>!f x).length=0:=by lia
  cases e:f x with
  |true=>rfl
  |false =>have:=Vz (DZ (p:=λx=>!f x).mpr ⟨a,show(!f x)=true by rw[e];rfl⟩);lia
 ·intro h;have:l.filter (λx=>!f x)=[]:=List.filter_eq_nil_iff.mpr λx a=>by rw[h x a];decide
  rw[this];rfl
def Ce{b:Bool}{P R:Prop}(c:b=true->P)(a:b=false->R):if b=true then P else R:=by cases b<;>simp_all
def gz'{a:Type}{l:List a}{d:a}(f:a->D)(h:1<=l.length):fT (l.map f) (-1)=some (f (l.getD (l.length-1) d)):=by
 have b:l≠[]:=λz=>by rw[z] at h;simp at h
 have e:l=l.dropLast++[l.getD (l.length-1) d]:=by rw[xE,<- List.getLast?_eq_getElem?,xdV b];exact(Z5 b).symm
 conv=>lhs;rw[e]
 rw[kS];exact aS' _ _
def g_{d:WT}{b:List (Option Sl)}{a:List Int}{f:Int->Bool}{E:List D->Prop}(l:∀ q∈a,∀ g:Bool->Prop,g (f q)->d (some (.sh (.int q)) :: b) g)(m:E ((a.filter f).map .int)):f9 (gN 0) d (ag 0) (a.map D.int) (none :: b) E:=by
 refine bV (gy' f) id (λc=>∃ o,c=o :: b) _ _ _ ⟨_,rfl⟩ ?_ ?_
 ·rintro y j c ⟨o,rfl⟩ p n i h;obtain⟨q,k,rfl⟩:=fq.mp j;walk_at "q";refine l q k _ ?_;exact Ce (λe=>⟨.inl rfl,h _ ⟨_,rfl⟩ e⟩) λe=>i _ ⟨_,rfl⟩ e
 ·rw[DR];exact m
def i9(l:List iE):Sm Tr where
 H:=λr g=>match r with
  |.st w d j=>λs=>if w = "some" then (bj l s d).any (g j) else (bj l s d).all (g j)
  |.nt j=>λs=>!(g j s)
  |.jn w b=>λs=>if w = "and" then b.all (λp=>g p s) else b.any (λp=>g p s)
 z:=λ_=>false
 cg:=λ{r g i} h=>by
  cases r with
  |st w d j=>simp only[h j (hV.mpr rfl)]
  |nt j=>simp only[h j (hV.mpr rfl)]
  |jn w b =>
   funext s;have e:∀ p∈b,g p s=i p s:=λp c=>by rw[h p c]
   simp only;rw[zD];split
   ·rw[xI,xI];exact⟨λz p a=>by rw[<- e p a];exact z p a,λz p a=>by rw[e p a];exact z p a⟩
   ·rw[HP,HP];exact⟨λzq=>by obtain⟨p,a,z⟩:=zq;exact⟨p,a,by rw[<- e p a];exact z⟩,λzj=>by obtain⟨p,a,z⟩:=zj;exact⟨p,a,by rw[e p a];exact z⟩⟩
 rn:=λf r g=>by
  cases r with
  |st w d j=>rfl
  |nt j=>rfl
  |jn w b=>funext s;simp[GU,LS,List.any_map,Function.comp_def]
def Di(l:List iE)(a:List Rw):(i9 l).vals a=rV l a:=by
 suffices h:∀ v:List Tr,a.foldl (λv r=>v++[(i9 l).H r λj=>v.getD j.toNat (i9 l).z]) v=GP l v a from h []
 induction a with
 |nil=>exact λ_=>rfl
 |cons r a b =>
  intro v;rw[zC,b];have:BM l v r=(i9 l).H r λj=>v.getD j.toNat (i9 l).z:=by cases r<;>rfl
  rw[GP,this]
def xv:Sm Int where
 H:=λr g=>match r with
  |.st _ _ j=>g j+1
  |.nt j=>g j
  |.jn _ a=>BO (a.map g)
 z:=0
 cg:=λ{r g b} h=>by
  cases r with
  |st w d j=>simp only[h j (hV.mpr rfl)]
  |nt j=>simp only[h j (hV.mpr rfl)]
  |jn w a=>exact congrArg BO (A0 h)
 rn:=λf r g=>by
  cases r with
  |st w d j=>rfl
  |nt j=>rfl
  |jn w a=>simp[GU,Function.comp_def]
def wI(a:List Rw):xv.vals a=deps a:=by
 suffices h:∀ v:List Int,a.foldl (λv r=>v++[xv.H r λj=>v.getD j.toNat xv.z]) v=E4 v a from h []
 induction a with
 |nil=>exact λ_=>rfl
 |cons r a b =>
  intro v;rw[zC,b];have:dep v r=xv.H r λj=>v.getD j.toNat xv.z:=by cases r<;>rfl
  rw[E4,this]
def DH:Hd->D
 |.st w d=>.tup [.str w,.str d]
 |.ot w=>.tup [.str w,.str ""]
theorem uQ:∀ a:List Hd,eh (a.map DH)=true
 |[]=>rfl
 |h :: a=>by cases h<;>exact uQ a
def CW(a:List Hd):a.foldr Vm none=none:=by
 induction a with
 |nil=>rfl
 |cons h a b=>rw[List.foldr_cons,b];rfl
def Jk(b a:List Hd):vv (b++a)=b.foldr Vm (vv a):=by unfold vv;rw[List.foldr_append]
def wA{B:Type}(S:Sm B){h:Hd}{J:List Hd}{c:List Rw}{k t:List Int}{r:Rw}(I:Vn J c k)(s:OY h)(e:BU h k=some (r,t)):S.at (gp c r).1 (gp c r).2=S.H r (S.at c)/\∀ x∈t,S.at (gp c r).1 x=S.at c x:=by
 have l:tJ c.length r/\∀ x∈t,x∈k:=by
  have z:∀ {w v a b:Str},(w=a/\v = "and"\/w=b/\v = "or")->v = "and"\/v = "or" := λh=>h.imp And.right And.right;rcases fH s e with⟨w,d,x,rfl,H,rfl,rfl⟩|⟨x,rfl,rfl,rfl⟩|⟨w,v,rfl,n,rfl,rfl⟩|⟨w,v,x,y,rfl,n,rfl,rfl⟩
  ·exact⟨⟨H,s.2,I.bd x (by simp)⟩,λy f=>by simp[f]⟩
  ·exact⟨I.bd x (by simp),λy f=>by simp[f]⟩
  ·exact⟨⟨z n,by simp,λp g=>nomatch g⟩,λy f=>f⟩
  ·refine⟨⟨z n,by simp,λp g=>?_⟩,λy f=>by simp[f]⟩;simp only[dQ,sM,or_false] at g;rcases g with rfl|rfl
   ·exact I.bd _ (by simp)
   ·exact I.bd _ (by simp)
 obtain⟨A,i⟩:=l;obtain⟨O,G,F,E,N,⟨m,D,M⟩,L⟩:=Fp I.nd I.sc A;have q:∀ x:Int,0<=x/\x<c.length->S.at (gp c r).1 x=S.at c x:=λx u=>by rw[D];exact vR S (by lia)
 refine⟨?_,λx u=>q x (I.bd x (i x u))⟩;have:=vG S G F;rw[oq E] at this;rw[this];exact S.cg λj K=>q j (dO A j K)
def I_{d:Type}(S:Sm d)(f:d->D){h:Hd}{k:List Hd}{c:List Rw}{g t:List Int}{r:Rw}(I:Vn k c g)(i:OY h)(e:BU h g=some (r,t)):(((gp c r).2 :: t).map λx=>f (S.at (gp c r).1 x)).reverse=(t.map λx=>f (S.at c x)).reverse++[f (S.H r (S.at c))]:=by obtain⟨a,b⟩:=wA S I i e;rw[eR,pS,a,A0 λx j=>by rw[b x j]]
structure E8(ws:List Str)(hs:List Hd)(rs:List Rw)(x:Int):Prop where
 hd:mh ws=some hs
 run:vv hs=some (rs,[x])
 len:ws.length<=200
def Tx.sen{a:List Str}(h:iO 1 a=true)(l:a.length<=200):∃ b c x,E8 a b c x:=by
 rw[qp] at h
 cases e:mh a with
 |none=>rw[e] at h;cases h
 |some b =>rw[e] at h;obtain⟨⟨c,g⟩,f,d⟩:=(Aw b 1).mp h;obtain⟨x,rfl⟩:=List.length_eq_one_iff.mp d;exact⟨b,c,x,e,f,l⟩
section
variable {c:List Str}{a:List Hd}{b:List Rw}{x:Int}
def E8.take(s:E8 c a b x)(i:Nat):∃ b f,vv (a.reverse.take i).reverse=some (b,f)/\Vn (a.reverse.take i).reverse b f:=by
 obtain⟨j,k⟩:=ou c a s.hd;have p:a=(a.reverse.drop i).reverse++(a.reverse.take i).reverse:=by rw[<- List.reverse_append,PZ,P2]
 have z:(a.flatMap hw).length<=200:=by rw[j];exact s.len
 have d:=s.run
 cases e:vv (a.reverse.take i).reverse with
 |none =>rw[p,Jk,e,CW] at d;cases d
 |some q =>refine⟨q.1,q.2,rfl,G_ _ (λh g=>k h (by rw[p];exact kR _ g)) ?_ _ _ e⟩;rw[p,List.flatMap_append,kz] at z;lia
def E8.step(s:E8 c a b x){i:Nat}{h:Hd}{d:List Rw}{e:List Int}(j:a.reverse[i]? = some h)(k:vv (a.reverse.take i).reverse=some (d,e)):OY h/\Vn (a.reverse.take i).reverse d e/\e.length<=200/\∃ r t,BU h e=some (r,t)/\vv (a.reverse.take (i+1)).reverse=some ((gp d r).1,(gp d r).2 :: t):=by
 obtain⟨v,p⟩:=ou c a s.hd;obtain⟨_,_,m,I⟩:=s.take i;rw[k] at m;cases m;obtain⟨_,_,l,_⟩:=s.take (i+1);have f:vv (a.reverse.take (i+1)).reverse=(BU h e).map λq=>((gp d q.1).1,(gp d q.1).2 :: q.2):=by rw[show(a.reverse.take (i+1)).reverse=h :: (a.reverse.take i).reverse by rw[yA,j];simp,pB,k];rfl
 have n:=I.sl;have u:=pX s.hd;have:=s.len;rw[vE,lI,vE] at n;refine⟨p h (List.mem_reverse.mp (oj j)),I,by lia,?_⟩
 cases g:BU h e with
 |none=>rw[g] at f;rw[f] at l;cases l
 |some q=>exact⟨q.1,q.2,rfl,by rw[f,g];rfl⟩
end
def Ge{w:Str}{l:List Str}{b:List Hd}(h:md w)(e:mh (w :: l)=some b):∃ d a c,l=d :: a/\fX d=true/\mh a=some c/\b=.st w d :: c:=by
 cases l with
 |nil=>unfold mh at e;rw[if_pos h] at e;cases e
 |cons d a =>
  unfold mh at e;rw[if_pos h] at e;split at e
  ·obtain⟨t,f,rfl⟩:=nV.mp e;exact⟨d,a,t,rfl,‹_›,f,rfl⟩
  ·cases e
def Fg{w:Str}{l:List Str}{a:List Hd}(h:¬ md w)(e:mh (w :: l)=some a):∃ b,mh l=some b/\a=.ot w :: b:=by
 cases l with
 |nil=>unfold mh at e;rw[if_neg h] at e;cases e;exact⟨[],rfl,rfl⟩
 |cons d f =>unfold mh at e;rw[if_neg h] at e;obtain⟨t,c,rfl⟩:=nV.mp e;exact⟨t,c,rfl⟩
def zb:WS :=
 (cf (eB (oI (wB (av fP (av bX (ag 0) (wC (.int 0))) (wC (.str "some")))) (wB (av fP (av bX (ag 0) (wC (.int 0))) (wC (.str "all")))))
 (ft (kC (aq (av bX (ag 0) (wC (.int 2))) cv)))
 aW)
 (cf (eB (wB (av fP (av bX (ag 0) (wC (.int 0))) (wC (.str "not"))))
 (ft (kC (aq (av bX (ag 0) (wC (.int 1))) cv)))
 aW)
 (ft (dy zZ (av bX (ag 0) (wC (.int 1)))))))
def pG:gv:=λa Q=>∃ (r:Rw) (k:Int),a=[dS r]/\tJ k r/\Q (.ow true) (.list ((qf r).map D.int))
def Ip:j3 1 pG zb:=by
 rintro i Q ⟨r,k,rfl,c,h⟩;unfold zb
 cases r with
 |st w d j =>
  obtain⟨a,_⟩:=c;rw[show dS (.st w d j)=.tup [.str w,.str d,.int j] from rfl];walk_at "q";refine R.D (λe=>?_) λe=>?_
  ·walk_at "q";exact h
  ·walk_at "q";refine R.D (λe=>?_) λf=>?_
   ·walk_at "q";exact h
   ·exact absurd a (by simp[e,f])
 |nt j =>rw[show dS (.nt j)=.tup [.str "not",.int j] from rfl];walk_at "q";refine R.F (decide_eq_false E5.1) ?_;walk_at "q";refine R.F (decide_eq_false E5.2) ?_;walk_at "q";exact h
 |jn w b =>obtain⟨a,g,_⟩:=c;rw[show dS (.jn w b)=.tup [.str w,.tup (b.map .int)] from rfl];walk_at "q";refine R.F (decide_eq_false (zi a).1) ?_;walk_at "q";refine R.F (decide_eq_false (zi a).2.1) ?_;walk_at "q";refine R.F (decide_eq_false (zi a).2.2) ?_;walk_at "q";exact .inl ⟨dB b,h⟩
def j4:WS :=
 (cf (eB (oI (wB (av fP (av bX (ag 0) (wC (.int 0))) (wC (.str "some")))) (wB (av fP (av bX (ag 0) (wC (.int 0))) (wC (.str "all")))))
 (ft (kL (aq (av bX (ag 0) (wC (.int 0))) (aq (av bX (ag 0) (wC (.int 1))) (aq (av bX (ag 1) (av bX (ag 0) (wC (.int 2)))) cv)))))
 aW)
 (cf (eB (wB (av fP (av bX (ag 0) (wC (.int 0))) (wC (.str "not"))))
 (ft (kL (aq (av bX (ag 0) (wC (.int 0))) (aq (av bX (ag 1) (av bX (ag 0) (wC (.int 1)))) cv))))
 aW)
 (ft (kL (aq (av bX (ag 0) (wC (.int 0))) (aq (dy Bc (dD (rF (av bX (ag 0) (wC (.int 1)))) (gN 0) vt (av bX (ag 1) (ag 0)) 1 [1])) cv))))))
def iM:gv:=λb Q=>∃ (k:Int) (r:Rw) (a:D) (f:Int->Int),b=[dS r,a]/\tJ k r/\(∀ j∈qf r,Mz a f j)/\Q .sh (dS (GU f r))
def zJ{b:D}{f:Int->Int}{j:Int}{d:Md}{Q:Md->D->Prop}(h:Mz b f j)(q:Q .sh (.int (f j))):bX .sh b d (.int j) Q:=by
 rcases h with⟨c,rfl,g,e⟩|⟨i,rfl,e⟩
 ·have a:fT (c.map D.int) j=some (.int (f j)):=by have:=qo (xs:=c.map D.int) (by rw[ki,e];rfl);rwa[oq g] at this
  exact⟨_,a,q⟩
 ·exact⟨.inl j,.int (f j),rfl,e,q⟩
def ZO(f:Int->Int):D->D
 |.int j=>.int (f j)
 |d=>d
def qT:j3 2 iM j4:=by
 rintro F Q ⟨k,r,a,f,rfl,n,i,h⟩;unfold j4
 cases r with
 |st w d j =>
  obtain⟨b,B,y,v⟩:=n;have c:∀ l:Md->D->Prop,l .sh (.int (f j))->bX .sh a .sh (.int j) l:=λl q=>zJ (i j (hV.mpr rfl)) q;rw[show dS (.st w d j)=.tup [.str w,.str d,.int j] from rfl];walk_at "q";refine R.D (λe=>?_) λe=>?_
  ·walk_at "q";refine c _ ?_;walk_at "q";exact h
  ·walk_at "q";refine R.D (λe=>?_) λu=>?_
   ·walk_at "q";refine c _ ?_;walk_at "q";exact h
   ·exact absurd b (by simp[e,u])
 |nt j =>rw[show dS (.nt j)=.tup [.str "not",.int j] from rfl];walk_at "q";refine R.F (decide_eq_false E5.1) ?_;walk_at "q";refine R.F (decide_eq_false E5.2) ?_;walk_at "q";refine zJ (i j (hV.mpr rfl)) ?_;walk_at "q";exact h
 |jn w g =>
  obtain⟨b,A,z⟩:=n;rw[show dS (.jn w g)=.tup [.str w,.tup (g.map .int)] from rfl];walk_at "q";refine R.F (decide_eq_false (zi b).1) ?_;walk_at "q";refine R.F (decide_eq_false (zi b).2.1) ?_;walk_at "q";refine R.F (decide_eq_false (zi b).2.2) ?_;walk_at "q";refine bV (λ_=>true) (ZO f) (λm=>∃ o,m=[o,some (.sh a)]) _ _ _ ⟨_,rfl⟩ ?_ ?_
  ·rintro x p m ⟨o,rfl⟩ H G E t;obtain⟨j,s,rfl⟩:=fq.mp p;walk_at "q";refine zJ (i j s) ?_;exact⟨.inl rfl,t _ ⟨_,rfl⟩ rfl⟩
  ·have e:((g.map D.int).filter λ_=>true).map (ZO f)=(g.map f).map D.int:=by rw[xd2.mpr (λ_ _=>rfl),kM,kM];rfl
   rw[e];exact⟨dB _,h⟩
def rJ:WS :=
 (cf (eB (oI (nI (wB (dy (tq "str") (ag 0)))) (nI (wB (jf CD CD (wC (.int 1)) (dy gX (ag 0)) (wC (.int 6))))))
 (ft (wC (.bl false)))
 aW)
 (ft (dy U9 (dD (D_ (ag 0)) (gN 0) vt (av (y9 false) (ag 0) (wC (.str "abcdefghijklmnopqrstuvwxyz"))) 1 []))))
def JC{c:Nat}:EF ⟨#[c]⟩ abc=isLet c:=by
 rw[GK];have:abc.cps.toList=(List.range 26).map (97 + ·):=qg;rw[this];apply zD.mpr;simp only[decide_eq_true_eq,isLet,fq,vF];constructor
 ·rintro⟨i,a,rfl⟩;lia
 ·intro h;exact⟨c-97,by lia,by lia⟩
def oh:gv:=λa Q=>∃ x:Str,a=[.str x]/\Q .sh (.bl (decide (1<=x.length/\x.length<=6) && (sg x).all isLet))
def BK:j3 1 oh rJ:=by
 rintro i Q ⟨x,rfl,h⟩;unfold rJ;walk_at "q";refine R.F rfl ?_;walk_at "q";refine R.D (λf=>?_) λf=>?_
 ·walk_at "q";refine R.B (λa=>?_) λa=>?_;rotate_left
  ·have a:x.length<=6:=by simp at a;lia
   walk_at "q"
   refine bV (λ_=>true) (λd=>match d with
    |.str z=>.bl (EF z abc)
    |d=>d) (λb=>∃ o,b=[o]) _ _ _ ⟨_,rfl⟩ ?_ ?_
   ·rintro y e b ⟨o,rfl⟩ k j _ a;obtain⟨c,g,rfl⟩:=fq.mp e;walk_at "q";exact⟨.inl rfl,a _ ⟨_,rfl⟩ rfl⟩
   ·rw[fL];refine⟨(sg x).map isLet,?_,?_⟩
    ·unfold bT';rw[kM,kM];refine A0 λc _=>?_;show D.bl (EF ⟨#[c]⟩ abc)=_;rw[JC];rfl
    ·rw[decide_eq_true (by lia),VY] at h;rw[LS];exact h
  ·have a:¬ x.length<=6:=by simp at a;lia
   walk_at "q";rw[decide_eq_false (by lia),Bool.false_and] at h;exact h
 ·walk_at "q";rw[decide_eq_false (by lia),Bool.false_and] at h;exact h
def oN:WS :=
 (ft (fJ (dy (tq "int") (ag 0)) (xm (dy (tq "bool") (ag 0)))))
def lr:gv:=λa Q=>∃ d:D,a=[d]/\Q .sh (.bl (decide (d.ty = "int")))
def xQ:j3 1 lr oN:=by
 rintro a Q ⟨d,rfl,h⟩;unfold oN;walk_at "q";cases d<;>first
  | (refine R.F rfl ?_;walk_at "q";exact h)
  | (refine R.T rfl ?_;walk_at "q";first|exact h|(refine R.T rfl ?_;walk_at "q";exact h)|(refine R.F rfl ?_;walk_at "q";exact h))
def jU:WS :=
 (eB (nI (wB (dy (tq "str") (ag 0))))
 fC
 aW)
def il:gv:=λa Q=>∃ t:Str,a=[.str t]/\Q .sh .non
def qM:j3 1 il jU:=by rintro a Q ⟨t,rfl,h⟩;unfold jU;walk_at "q";refine R.F rfl ?_;walk_at "q";exact h
def Ab:WS :=
 (cf (eB (wB (av fP (dy gX (xP 0)) (wC (.int 0))))
 fC
 aW)
 (t6 0 (yX 0)))
def gq:OW:=λb c Q=>c=[]/\∃ a x,b=a++[x]/\Q a (.int x)
def Ac(b a Q)(h:gq b a Q):a.length+1=1:=by rw[h.1];rfl
def JM:∀ a b c Q,b.length<=bG->gq b c Q->Ab { nx:=λ_=>False,rt:=E2 a Q } (gh 1 a b c):=by rintro a b c Q e ⟨rfl,d,x,rfl,h⟩;unfold Ab gh;walk_at "q";refine⟨_,_,rfl,?_⟩;walk_at "q";refine R.F (decide_eq_false (by simp;lia)) ?_;walk_at "q";exact⟨a,d,x,rfl,a,d,rfl,rfl,_,rfl,rfl,h⟩
def gO:WS :=
 (cf (eB (wB (av fP (dy gX (ag 1)) (wC (.int 0))))
 (ft (kC (aq (KP [("and", "yes"),("or", "no")] (ag 0)) cv)))
 aW)
 (cf (eL 2 (kC cv))
 (cf (rL 1 (qA (e_ (sA (ag 1) bB (dX (dy zh (wC (.int 1)))))) (gN 3)
 (co' (k5 2) (av ip (kC (aq (KP [("and", "both"),("or", "either")] (ag 0)) cv)) (ag 3)))))
 (ft (av ip (ag 2) (av bX (ag 1) (dy zh (wC (.int 1)))))))))
def tN(p:List Str):D:=.list (p.map .str)
def gb:gv:=λa Q=>∃ (w:Str) (l:List (List Str)),a=[.str w,.list (l.map tN)]/\(w = "and"\/w = "or")/\l.length<=200/\(∀ p∈l,p.length<=200)/\Q (.ow true) (.list ((ZN w l).map .str))
def Dt{a:Type}(l:List a):i6 l none (some (-1))=l.dropLast:=by unfold i6;rw[List.dropLast_eq_take];simp only[HT.dk];rw[if_pos (by decide)];show List.take (((l.length:Int) + -1).toNat-0) (l.drop 0)=_;rw[List.drop_zero,Nat.sub_zero];congr 1;lia
def nP:j3 4 gb gO:=by
 rintro L Q ⟨w,l,rfl,r,K,c,h⟩;have u:List.lookup w [(("and" : Str),("yes" : Str)),("or", "no")]=some (fu w)/\(fu w).length<=16777216:=by rcases r with rfl|rfl<;>decide +kernel
 have t:List.lookup w [(("and" : Str),("both" : Str)),("or", "either")]=some (cB w)/\(cB w).length<=16777216:=by rcases r with rfl|rfl<;>decide +kernel
 unfold gO;walk_at "q";refine R.D (λe=>?_) λe=>?_
 ·have:l=[]:=PR.mp (by lia);subst this;walk_at "q";unfold KP;walk_at "q";exact⟨w,_,rfl,u.1,u.2,h⟩
 walk_at "q";refine .inr ?_;rw[Dt,<- List.map_dropLast];have H:l.dropLast.length<=200:=by rw[List.length_dropLast];lia
 have v:∀ m:List (List Str),m.length<=200->(∀ p∈m,p.length<=200)->((m.map (cB w :: ·)).flatten).length<=m.length*201:=λm=>by
  induction m with
  |nil=>intro _ _;simp
  |cons p m E =>intro G s;have:=E (by simp at G;lia) λq a=>s q (eI _ a);have:=s p eK;simp only[eR,xee,kz,gi];lia
 have g:∀ i,∀ p∈l.dropLast.take i,p.length<=200:=λi p h=>c p (xdT _ (P1 h));refine bw _ (λi d=>∃ f,d=[some (.sh (.str w)),some (.sh (.list (l.map tN))),some (.ow true (.list (((l.dropLast.take i).map (cB w :: ·)).flatten.map .str))),f]) ⟨none,rfl⟩ ?_ ?_
 ·rintro i x d n ⟨f,rfl⟩ N F;rw[ki] at n;obtain⟨p,a,rfl⟩:=nV.mp n;have B:=c p (xdT _ (oj a));have k:=v (l.dropLast.take i) (by rw[lI];lia) (g i);rw[lI] at k;have A:((l.dropLast.take (i+1)).map (cB w :: ·)).flatten=((l.dropLast.take i).map (cB w :: ·)).flatten++(cB w :: p):=by rw[yA,a];simp
  have j:=F _ ⟨some (.sh (tN p)),by rw[A]⟩;rw[show tN p=.list (p.map .str) from rfl] at *
  walk_at "q";unfold KP;walk_at "q";rw[kS,eR] at j;exact⟨w,_,rfl,t.1,t.2,by lia,.inl ⟨aY p,aY p,by lia,j⟩⟩
 ·rintro d ⟨f,rfl⟩;have b:l≠[]:=λz=>e (by rw[z];rfl);have y:=(Z5 b).symm;have D:ZN w l=OZ (cB w) l:=by
   cases l with
   |nil=>exact absurd rfl b
   |cons _ _=>rfl
  have J:fT (l.map tN) (-1)=some (tN (l.getLast b)):=by
   conv=>lhs;rw[y,kS]
   exact aS' _ _
  have B:=c _ (List.getLast_mem b);have k:=v l.dropLast H λq a=>c q (xdT _ a);rw[D,y,pP,kS] at h;generalize l.getLast b=q at *
  rw[cx,xS];walk_at "q";refine⟨_,J,?_⟩;rw[show tN q=.list (q.map .str) from rfl];walk_at "q";exact⟨by lia,.inl ⟨aY _,aY _,h⟩⟩
def gG:WS :=
 (cf (eB (wB (av AK (ag 1) (dy gX (ag 0))))
 (ft (av bX (ag 0) (ag 1)))
 aW)
 (ft (wC (.int 0))))
def bf:gv:=λb Q=>∃ (a:List Int) (k:Int),b=[.list (a.map .int),.int k]/\0<=k/\Q .sh (.int (a.getD k.toNat 0))
def nM:j3 2 bf gG:=by
 rintro e Q ⟨a,k,rfl,d,h⟩;unfold gG;walk_at "q";refine R.D (λc=>?_) λc=>?_
 ·walk_at "q";have b:k.toNat<a.length:=by lia
  refine⟨.int a[k.toNat],?_,?_⟩
  ·have:=qo (xs:=a.map D.int) (j:=k.toNat) (v:=.int a[k.toNat]) (by simp[b]);rwa[oq d] at this
  ·show Q .sh _;simpa[List.getD,b] using h
 ·walk_at "q";have:a.getD k.toNat 0=0:=by
   have:a.length<=k.toNat:=by lia
   simp[List.getD,DU this]
  rwa[this] at h
def jY:WS :=
 (cf (eL 2 (wC (.str "abcdefghijklmnopqrstuvwxyz")))
 (cf (eL 3 (av ip (wC (.int 1)) (av mw (ag 0) (wC (.int 6)))))
 (cf (eL 0 (av AJ (ag 0) (wC (.int 6))))
 (cf (eL 4 (kC cv))
 (cf (qA (dq (ag 3)) (gN 5)
 (cf (mz (k5 4) (av mw (ag 0) (wC (.int 26))))
 (eL 0 (av AJ (ag 0) (wC (.int 26))))))
 (cf (eL 6 (oO (wC (.str "")) (dD (h_ (ag 4)) (gN 0) vt (av bX (ag 1) (ag 0)) 1 [2])))
 (cf (eB (wB (av fP (av mw (av AJ (ag 1) (wC (.int 6))) (wC (.int 3))) (wC (.int 1))))
 (ft (dD (vM (wC (.int 1)) (wC (.int 7))) (gN 0) vt (sA (av CZ (wC (.int 6)) (ag 1)) bB (dX (ag 0))) 1 [6]))
 aW)
 (cf (eL 7 (av mw (ag 1) (ag 3)))
 (cf (eL 8 (kC cv))
 (cf (qA (dq (wC (.int 6))) (gN 5)
 (cf (eL 9 (av bX (ag 2) (av mw (av ip (av bX (ag 4) (ag 7)) (av CC (wC (.int 5)) (ag 5))) (wC (.int 26)))))
 (mz (k5 8) (av ip (av ip (sA (ag 6) bB (dX (ag 7))) (ag 9)) (sA (ag 6) (dX (av ip (ag 7) (wC (.int 1)))) bB)))))
 (gW 8)))))))))))
def vq{n d:Nat}{k:Int}(b:0<=k)(a:k<=n):HT.dk n d (some k)=k.toNat:=by simp only[HT.dk];rw[if_neg (by lia)];lia
def yR{x:Str}{k:Int}(b:0<=k)(a:k<=x.length):(pV x none (some k)).length=k.toNat:=by
 unfold pV Str.length at *
 simp only[kg,lI,DV,A4];rw[vq b (by simpa using a)];simp[HT.dk];lia
def JS{x:Str}{k:Int}(b:0<=k)(a:k<=x.length):(pV x (some k) none).length=x.length-k.toNat:=by
 unfold pV Str.length at *
 rw[vq b (by simpa using a)];simp[HT.dk]
def Ek{n:Int}{z:Str}(h:lets z):lets (AR n z):=λc d=>by obtain⟨l,b,a⟩:=List.mem_flatten.mp d;rw[List.eq_of_mem_replicate b] at a;exact h c a
theorem nW:∀ (l:List Str),jC (l.map D.str)=some l
 |[]=>rfl
 |x :: l=>by simp[jC,nW l]
def Io{p:Int}(a:0<=p)(b:p<26):fT (sg abc) p=some (97+p.toNat):=by
 have:fT (sg abc) p.toNat=some (97+p.toNat):=qo (by
  rw[qg];have:p.toNat<26:=by lia
  simp[this])
 rwa[oq a] at this
theorem jF:∀ l:List Nat,sg (Str.join "" (l.map λc=>(⟨#[c]⟩:Str)))=l
 |[]=>by decide +kernel
 |[c]=>rfl
 |c :: d :: l=>by have a:=jF (d :: l);show sg ((⟨#[c]⟩:Str) ++ "" ++ Str.join "" ((d :: l).map λc=>(⟨#[c]⟩:Str)))=_;rw[dY,dY,a,show sg ("" : Str)=[] by decide +kernel];rfl
theorem wH:∀ l:List Nat,(l.map λ_=>1).sum=l.length
 |[]=>rfl
 |x :: l=>by simp[wH l];lia
def jg:gv:=λb Q=>∃ c t:Int,b=[.int c,.int t]/\∀ a:List Str,a.length=6->(∀ n∈a,Open n)->Q (.ow true) (.list (a.map .str))
def qP:j3 10 jg jY:=by
 rintro ds Q ⟨c,t,rfl,h⟩;unfold jY;walk_at "q";have s0:=x6 c (show 6≠0 by decide);have s1:=x5 c (show 0<6 by decide);generalize g9:1+c % 6=e at *
 refine⟨by lia,by lia,?_⟩;refine bw _ (λi l=>∃ (B:Int) (g:List Int) (o:Option Sl),g.length=i/\(∀ p∈g,0<=p/\p<26)/\l=[some (.sh (.int B)),some (.sh (.int t)),some (.sh (.str abc)),some (.sh (.int e)),some (.ow true (.list (g.map .int))),o,none,none,none,none]) ⟨_,[],_,rfl,(λp s=>nomatch s),rfl⟩ ?_ ?_
 ·rintro i x l K ⟨B,g,o,E,s,rfl⟩ N P;obtain⟨u,rfl⟩:=gQ K;walk_at "q";refine⟨by lia,?_⟩;rw[ints_app];refine P _ ⟨_,g++[B % 26],_,by simp[E],λp A=>?_,rfl⟩;rcases kA.mp A with w|w
  ·exact s p w
  ·rw[hV.mp w];exact⟨x6 _ (by decide),x5 _ (by decide)⟩
 rintro l ⟨B,g,o,E,s,rfl⟩;rw[g8] at E;walk_at "q";have I:(Str.ofString "").length=0:=by decide
 refine bV (λ_=>true) (λd=>match d with
  |.int p=>.str ⟨#[97+p.toNat]⟩
  |d=>d) (λl=>∃ o,l=[o,some (.sh (.str abc))]) _ _ _ ⟨_,rfl⟩ ?_ ?_
 ·rintro y J l ⟨o,rfl⟩ N1 U _ S;obtain⟨p,A,rfl⟩:=fq.mp J;walk_at "q";exact⟨_,Io (s p A).1 (s p A).2,.inl rfl,S _ ⟨_,rfl⟩ rfl⟩
 rw[fL];refine⟨(g.map λp=>97+p.toNat).map λc=>⟨#[c]⟩,?_,?_,?_⟩
 ·rw[kM,<- nW,kM,kM];rfl
 ·rw[I,kM,Nat.mul_zero,Qr];show((g.map λp=>97+p.toNat).map λ_=>1).sum<=_;rw[wH,cx];lia
 have L:=jF (g.map λp=>97+p.toNat);generalize Str.join "" ((g.map λp=>97+p.toNat).map λc=>(⟨#[c]⟩:Str))=a at L ⊢;have X:a.length=e.toNat:=by
  have:(sg a).length=e.toNat:=by rw[L,cx,E]
  rw[<- this];unfold sg Str.length;simp
 have z:lets a:=λV T=>by rw[L] at T;obtain⟨p,A,rfl⟩:=fq.mp T;have:=s p A;simp[isLet];lia
 refine R.D (λ_=>?_) λ_=>?_
 ·walk_at "q"
  refine bV (λ_=>true) (λd=>match d with
   |.int k=>.str (pV (AR 6 a) none (some k))
   |d=>d) (λl=>∃ o,l=[o,some (.sh (.str a))]) _ _ _ ⟨_,rfl⟩ ?_ ?_
  ·rintro y J l ⟨o,rfl⟩ N1 U _ S;obtain⟨i,u,rfl⟩:=pD J;walk_at "q";exact⟨by lia,.inl rfl,S _ ⟨_,rfl⟩ rfl⟩
  ·rw[fL]
   have C:(List.map (λd=>match d with
    |.int k=>D.str (pV (AR 6 a) none (some k))
    |d=>d) (gD 1 6))=((List.range 6).map λi=>pV (AR 6 a) none (some (1+(i:Nat):Int))).map D.str:=by
    unfold gD;rw[kM,kM];rfl
   rw[C];refine h _ (by simp) λn m=>?_;obtain⟨i,u,rfl⟩:=fq.mp m;have u:i<6:=by simpa using u
   have r:(pV (AR 6 a) none (some (1+i:Int))).length=(1+(i:Int)).toNat:=yR (by lia) (by rw[uT,X];simp;lia);exact⟨by rw[r];lia,by rw[r];lia,pK (Ek z) _ _⟩
 ·walk_at "q";refine⟨by lia,?_⟩;have W:=x6 t (show e≠0 by lia);have a1:=x5 t (show 0<e by lia);generalize t % e=f at *
  have r:(pV a none (some f)).length=f.toNat:=yR W (by lia);have H:(pV a (some (f+1)) none).length=a.length-(f+1).toNat:=JS (by lia) (by lia);refine bw _ (λi l=>∃ (b:List Str) (G F:Option Sl),b.length=i/\(∀ n∈b,Open n)/\l=[some (.sh (.int B)),some (.sh (.int t)),some (.sh (.str abc)),some (.sh (.int e)),some (.ow true (.list (g.map .int))),G,some (.sh (.str a)),some (.sh (.int f)),some (.ow true (.list (b.map .str))),F]) ⟨[],_,_,rfl,(λn m=>nomatch m),rfl⟩ ?_ ?_
  ·rintro i x l K ⟨b,G,F,m,M,rfl⟩ N P;obtain⟨u,rfl⟩:=gQ K;have u:i<6:=u;walk_at "q";have O:f.toNat<g.length:=by lia
   refine⟨.int g[f.toNat],?_,?_⟩
   ·have:=qo (xs:=g.map D.int) (j:=f.toNat) (v:=.int g[f.toNat]) (by simp[O]);rwa[oq W] at this
   walk_at "q";obtain⟨V,Z,Y⟩:=Ha (g[f.toNat]+5*(0+i));refine⟨.inl ⟨by lia,by lia⟩,V,Z,?_⟩;refine⟨by rw[r,gw];lia,by rw[r,H,gw];lia,by lia,?_⟩;rw[Du];refine P _ ⟨b++[_],_,_,by simp[m],λn Iy=>?_,rfl⟩;rcases kA.mp Iy with w|w
   ·exact M n w
   ·obtain rfl:n=_:=by simpa using w
    refine⟨?_,?_,uZ (uZ (pK z _ _) (BV Y)) (pK z _ _)⟩
    ·rw[aL,aL,r,H,gw];lia
    ·rw[aL,aL,r,H,gw];lia
  ·rintro l ⟨b,G,F,m,M,rfl⟩;rw[g8] at m;walk_at "q";exact h b m M
def jP:WS :=
 (cf (eL 3 (kC cv))
 (cf (qA (dq (dy gX (ag 0))) (gN 4)
 (cf (eL 5 (av mw (av CC (av ip (av mw (av bX (ag 0) (ag 4)) (wC (.int 2147483647))) (wC (.int 1))) (av ip (wC (.int 48271)) (av CC (wC (.int 7)) (ag 4)))) (wC (.int 2147483647))))
 (cf (eL 6 (av bX (ag 2) (av mw (av AJ (ag 5) (ag 1)) (dy gX (ag 2)))))
 (rL 6 (mz (k5 3) (kL (aq (av mw (ag 5) (ag 1)) (aq (ag 6) (aq (av mw (av AJ (ag 5) (av CC (ag 1) (dy gX (ag 2)))) (ag 1)) cv)))))))))
 (gW 3)))
def iI:gv:=λd Q=>∃ (b:List Int) (c:Int) (a:List Str),d=[.list (b.map .int),.int c,.list (a.map .str)]/\b.length<=200/\1<=c/\c<=20/\1<=a.length/\a.length<=20/\(∀ n∈a,pf n)/\∀ l:List iE,(∀ s∈l,Vk c s)->l.length=b.length->Q (.ow true) (.list (l.map yk))
def qX:j3 7 iI jP:=by
 rintro S Q ⟨b,a,c,rfl,R,P,y,w,O,B,h⟩;unfold jP;walk_at "q";refine⟨by lia,by lia,?_⟩;refine bw _ (λi g=>∃ (l:List iE) (p m k:Option Sl),(∀ s∈l,Vk a s)/\l.length=i/\g=[some (.sh (.list (b.map .int))),some (.sh (.int a)),some (.sh (.list (c.map .str))),some (.ow true (.list (l.map yk))),p,m,k]) ⟨[],_,_,_,(λs f=>nomatch f),rfl,rfl⟩ ?_ ?_
 ·rintro i x g z ⟨l,p,m,k,f,r,rfl⟩ N E;obtain⟨u,rfl⟩:=gQ z;have u:i<b.length:=by lia
  walk_at "q";have G:fT (b.map D.int) (0+i)=some (.int b[i]):=by have:=qo (xs:=b.map D.int) (j:=i) (v:=.int b[i]) (by simp[u]);rwa[Int.zero_add]
  refine⟨_,G,?_⟩;walk_at "q";have V:=x6 b[i] (show 2147483647≠0 by decide);have T:=x5 b[i] (show 0<2147483647 by decide);refine⟨.inl ⟨by lia,by lia⟩,.inl ⟨by lia,by lia⟩,⟨by lia,by lia⟩,by lia,?_⟩;generalize (b[i] % 2147483647+1)*(48271+7*(0+i)) % 2147483647=d;obtain⟨n,A,e⟩:=name_mod (d / a) w;refine⟨.str n,e,?_⟩;walk_at "q";have M:=x6 d (show a≠0 by lia);have L:=x5 d (show 0<a by lia);have K:=x6 (d / (a*c.length)) (show a≠0 by lia);have J:=x5 (d / (a*c.length)) (show 0<a by lia);have W:a*c.length<=20*20:=Int.mul_le_mul y (by lia) (by lia) (by lia);have H:0<a*c.length:=Int.mul_pos (by lia) (by lia);refine⟨by lia,.inl ⟨by lia,by lia⟩,⟨H,by lia⟩,by lia,by lia,?_⟩;rw[show l.map yk++[D.tup [D.int (d % a),D.str n,D.int (d / (a*c.length) % a)]]=(l++[((d % a,n,d / (a*(c.length:Int)) % a):iE)]).map yk by simp[yk]];refine E _ ⟨_,_,_,_,λs F=>?_,by simp[r],rfl⟩;rcases kA.mp F with t|t
  ·exact f s t
  ·rw[hV.mp t];exact⟨M,L,B n A,K,J⟩
 ·rintro g ⟨l,p,m,k,f,r,rfl⟩;rw[g8] at r;walk_at "q";exact h l f (by lia)
def cz:WS :=
 (eB (wB (av AK (ag 7) (wC (.int 3))))
 (mz (k5 3) (wC (.str "not")))
 (eB (wB (av AK (ag 7) (wC (.int 6))))
 (eL 3 (av ip (ag 3) (kC (aq (av bX (kC (aq (wC (.str "some")) (aq (wC (.str "all")) cv))) (av mw (av AJ (ag 6) (wC (.int 9))) (wC (.int 2)))) (aq (av bX (ag 2) (av mw (av AJ (ag 6) (wC (.int 18))) (dy gX (ag 2)))) cv)))))
 (cf (mz (k5 3) (av bX (kC (aq (wC (.str "both")) (aq (wC (.str "either")) cv))) (av mw (av AJ (ag 6) (wC (.int 9))) (wC (.int 2)))))
 (eL 4 (av ip (ag 4) (wC (.int 1)))))))
def b7:WS :=
 (eB (bL' (wB (av AK (ag 7) (wC (.int 2)))) (wB (av Kb (ag 4) (wC (.int 1)))))
 (cf (mz (k5 3) (av bX (kC (aq (wC (.str "yes")) (aq (wC (.str "no")) cv))) (ag 7)))
 (eL 4 (av UW (ag 4) (wC (.int 1)))))
 cz)
def dU:WS :=
 (cf (qA (dq (ag 4)) (gN 5)
 (mz (k5 3) (av bX (kC (aq (wC (.str "yes")) (aq (wC (.str "no")) cv))) (av mw (av mw (av CC (av CC (av ip (av mw (ag 1) (wC (.int 1000003))) (wC (.int 3))) (av ip (ag 5) (wC (.int 5)))) (wC (.int 48271))) (wC (.int 10007))) (wC (.int 2))))))
 (gW 3))
def jG:WS :=
 (cf (eL 3 (kC cv))
 (cf (eL 4 (wC (.int 1)))
 (cf (qA (dq (dy gX (ag 0))) (gN 5)
 (cf (eL 6 (av mw (av CC (av ip (av mw (av bX (ag 0) (ag 5)) (wC (.int 2147483647))) (wC (.int 1))) (av ip (wC (.int 48271)) (av CC (wC (.int 7)) (ag 5)))) (wC (.int 2147483647))))
 (cf (eL 7 (av mw (ag 6) (wC (.int 9))))
 b7)))
 dU)))
def mI(w:Str):Prop:=w.length<=6/\32∉sg w
def tM{w:Str}(h:pf w):mI w:=by
 refine⟨h.len,λz=>?_⟩;rcases h with rfl|h
 ·exact absurd z (by decide +kernel)
 ·have:=h.2.2 32 z;cases this
def gY:gv:=λe Q=>∃ (c:List Int) (d:Int) (a:List Str),e=[.list (c.map .int),.int d,.list (a.map .str)]/\c.length<=55/\1<=a.length/\a.length<=100/\(∀ n∈a,pf n)/\∀ (b:List Str) (y:Str),(y = "yes"\/y = "no")->iO 1 (b++[y])=true->b.length<=111->(∀ w∈b++[y],mI w)->Q (.ow true) (.list ((b++[y]).map .str))
abbrev WIv(i:List Int)(d:Int)(h:List Str)(m:Nat)(c:L2.Q.Env):Prop:=∃ (b:List Str) (n:Nat) (g f e:Option Sl),c=[some (.sh (.list (i.map .int))),some (.sh (.int d)),some (.sh (.list (h.map .str))),some (.ow true (.list (b.map .str))),some (.sh (.int ((n+1:Nat):Int))),g,f,e]/\(∀ a,iO 1 (b++a)=iO (n+1) a)/\b.length+n<=m/\∀ w∈b,mI w
def Ag{a b:List Str}(h:∀ w∈a,mI w)(g:∀ w∈b,mI w):∀ w∈a++b,mI w:=λw c=>(kA.mp c).elim (h w) (g w)
def ZQ{w:Str}(h:mI w):∀ v∈[w],mI v:=λv a=>by rw[hV.mp a];exact h
def rN(x y:Str){i:Int}(b:0<=i)(a:i<2):∃ w,fT [D.str x,D.str y] i=some (.str w)/\(w=x\/w=y):=by
 have:i=0\/i=1:=by lia
 rcases this with rfl|rfl
 ·exact⟨x,rfl,.inl rfl⟩
 ·exact⟨y,rfl,.inr rfl⟩
def wD{u:List Int}{l a:Int}{c f:List Str}{n m:Nat}{i:Option Sl}{E:gC}(V:1<=c.length)(L:∀ n∈c,pf n)(W:m<=1000)(K:∀ b,iO 1 (f++b)=iO (n+1) b)(X:f.length+n<=m)(Q:∀ w∈f,mI w)(J:∀ x,WIv u l c (m+2) x->E.nx x) :
  cz E [some (.sh (.list (u.map .int))),some (.sh (.int l)),some (.sh (.list (c.map .str))),some (.ow true (.list (f.map .str))),some (.sh (.int ((n+1:Nat):Int))),i,some (.sh (.int a)),some (.sh (.int (a % 9)))]:=by
 have T:=x6 a (show 9≠0 by decide);have S:=x5 a (show 0<9 by decide);have z:=x6 (a / 9) (show 2≠0 by decide);have y:=x5 (a / 9) (show 0<2 by decide);have P:=x6 (a / 18) (show(c.length:Int)≠0 by lia);have Z:=x5 (a / 18) (show(0:Int)<c.length by lia);have s:∀ g (k:Nat),(∀ b,iO (n+1) (g++b)=iO (k+1) b)->g.length+k<=n+2->(∀ w∈g,mI w)->∀ i r p,E.nx [some (.sh (.list (u.map .int))),some (.sh (.int l)),some (.sh (.list (c.map .str))),some (.ow true (.list (f.map .str++g.map .str))),some (.sh (.int ((k+1:Nat):Int))),i,r,p]:=λg k N Y M i r p =>
  J _ ⟨f++g,k,i,r,p,by rw[kS],λb=>by rw[r9,K,N],by rw[kz];lia,Ag Q M⟩
 unfold cz;walk_at "q";refine R.D (λe=>?_) λe=>?_
 ·walk_at "q";refine⟨by lia,?_⟩;exact s ["not"] n (λb=>by rw[TR,ig uE.1,uE.2]) (by simp;lia) (ZQ (by unfold mI;decide +kernel)) _ _ _
 walk_at "q";refine R.D (λO=>?_) λO=>?_
 ·obtain⟨w,t,h⟩:=rN "some" "all" z y;have B:=qo (xs:=c.map D.str) (j:=(a / 18 % (c.length:Int)).toNat) (by
   rw[ki,rh (by lia)];rfl)
  rw[oq P] at B;have F:=L _ (VC (n:=(a / 18 % (c.length:Int)).toNat) (by lia));generalize c[(a / 18 % (c.length:Int)).toNat]'(by lia)=d at *
  have H:∀ b,iO (n+1) ([w,d]++b)=iO (n+1) b:=λb=>by show(if md w then _ else _)=_;rw[if_pos h,cD.mpr F,VY];rfl
  have G:∀ v∈[w,d],mI v:=λv A=>by
   simp only[dQ,sM,or_false] at A;rcases A with rfl|rfl
   ·unfold mI;rcases h with rfl|rfl<;>decide +kernel
   ·exact tM F
  have:=s [w,d] n H (by simp;lia) G;walk_at "q";refine⟨_,t,?_⟩;walk_at "q";refine⟨by lia,_,B,?_⟩;walk_at "q";exact⟨by lia,.inl ⟨aY f,this _ _ _⟩⟩
 ·obtain⟨w,t,h⟩:=rN "both" "either" z y;have:=s [w] (n+1) (λb=>by rw[TR,ig (Cu h).1,(Cu h).2]) (by simp;lia) (ZQ (by unfold mI;rcases h with rfl|rfl<;>decide +kernel));walk_at "q";refine⟨_,t,?_⟩;walk_at "q";refine⟨by lia,?_⟩;exact this _ _ _
def Es{s:List Int}{i a:Int}{h d:List Str}{n m:Nat}{g:Option Sl}{E:gC}(x:1<=h.length)(A:∀ n∈h,pf n)(y:m<=1000)(p:∀ b,iO 1 (d++b)=iO (n+1) b)(z:d.length+n<=m)(t:∀ w∈d,mI w)(l:∀ v,WIv s i h (m+2) v->E.nx v) :
  b7 E [some (.sh (.list (s.map .int))),some (.sh (.int i)),some (.sh (.list (h.map .str))),some (.ow true (.list (d.map .str))),some (.sh (.int ((n+1:Nat):Int))),g,some (.sh (.int a)),some (.sh (.int (a % 9)))]:=by
 have B:=x6 a (show(9:Int)≠0 by decide);have K:=x5 a (show(0:Int)<9 by decide);have D:∀ (f:List Str) (c:Nat),(∀ b,iO (n+1) (f++b)=iO (c+1) b)->f.length+c<=n+2->(∀ w∈f,mI w)->∀ g k j,E.nx [some (.sh (.list (s.map .int))),some (.sh (.int i)),some (.sh (.list (h.map .str))),some (.ow true (.list (d.map .str++f.map .str))),some (.sh (.int ((c+1:Nat):Int))),g,k,j]:=λf c G M F g k j =>
  l _ ⟨d++f,c,g,k,j,by rw[kS],λb=>by rw[r9,p,G],by rw[kz];lia,Ag t F⟩
 obtain⟨L,r⟩:∃ w,w=cz:=⟨_,rfl⟩
 unfold b7;rw[<- r];walk_at "q";refine R.D (λe=>?_) λe=>?_;rotate_left
 ·walk_at "q";rw[r];exact wD x A y p z t l
 walk_at "q";refine R.D (λJ=>?_) λJ=>?_;rotate_left
 ·walk_at "q";rw[r];exact wD x A y p z t l
 obtain⟨w,H,u⟩:=rN "yes" "no" B e;obtain⟨c,rfl⟩:∃ c,n=c+1:=⟨n-1,by lia⟩
 have:=D [w] c (λb=>by rw[TR,ig (qN u).1,(qN u).2]) (by simp;lia) (ZQ (by unfold mI;rcases u with rfl|rfl<;>decide +kernel));walk_at "q";refine⟨_,H,?_⟩;walk_at "q";refine⟨by lia,?_⟩;rw[show((c+1+1:Nat):Int)-1=((c+1:Nat):Int) by lia];exact this _ _ _
def sV:j3 8 gY jG:=by
 rintro C Q ⟨f,r,u,rfl,o,O,X,R,h⟩;obtain⟨W,k⟩:∃ w,w=b7:=⟨_,rfl⟩
 obtain⟨V,L⟩:∃ w,w=dU:=⟨_,rfl⟩
 unfold jG;rw[<- k,<- L];walk_at "q";refine⟨by lia,by lia,?_⟩;refine bw _ (λi c=>WIv f r u (2*i) c) ⟨[],0,none,none,none,rfl,λa=>rfl,by simp,λ_ z=>nomatch z⟩ ?_ ?_
 ·rintro i x c A ⟨p,n,d,t,s,rfl,B,E,G⟩ N F;obtain⟨Z,rfl⟩:=gQ A;have M:i<f.length:=by lia
  have K:=qo (xs:=f.map D.int) (j:=i) (v:=.int f[i]) (by simp[M]);rw[show i=0+(i:Int) by lia] at K;walk_at "q";refine⟨_,K,?_⟩;walk_at "q";rw[k];refine⟨.inl ⟨by lia,by lia⟩,.inr ⟨by lia,by lia⟩,?_⟩;refine Es O R (by lia) B E G ?_;intro T P;exact F T P
 ·rintro c ⟨p,n,d,t,s,rfl,B,E,G⟩;rw[g8] at E;rw[L];unfold dU;walk_at "q";refine⟨by lia,by lia,?_⟩;rw[D6];refine bw _ (λj c=>∃ (b:List Str) (d:Option Sl),c=[some (.sh (.list (f.map .int))),some (.sh (.int r)),some (.sh (.list (u.map .str))),some (.ow true (.list (b.map .str))),some (.sh (.int ((n+1:Nat):Int))),d,t,s]/\(∀ a,iO 1 (b++a)=iO (n+1-j) a)/\b.length=p.length+j/\(∀ w∈b,mI w)/\(0<j->∃ (H:List Str) (y:Str),b=H++[y]/\(y = "yes"\/y = "no"))) ⟨p,d,rfl,B,rfl,G,λz=>absurd z (vS 0)⟩ ?_ ?_
  ·rintro j x c A ⟨b,d,rfl,m,l,J,_⟩ N F;obtain⟨Y,rfl⟩:=gQ A;walk_at "q";obtain⟨y,S,e⟩:=rN "yes" "no" (x6 _ (by decide)) (x5 _ (by decide));refine⟨.inr ⟨by lia,by lia⟩,.inr ⟨by lia,by lia⟩,_,S,?_⟩;have:=F [some (.sh (.list (f.map .int))),some (.sh (.int r)),some (.sh (.list (u.map .str))),some (.ow true (.list (b.map .str++[.str y]))),some (.sh (.int ((n+1:Nat):Int))),some (.sh (.int (0+j))),t,s] ⟨b++[y],_,by rw[kS];rfl,λa=>by
    rw[r9,m,show n+1-j=(n-j)+1 by lia,TR,ig (qN e).1,(qN e).2,show n+1-(j+1)=n-j by lia];rfl,by rw[kz,l];rfl,Ag J (ZQ (by unfold mI;rcases e with rfl|rfl<;>decide +kernel)),λ_=>⟨b,y,rfl,e⟩⟩
   walk_at "q";exact⟨by lia,this⟩
  ·rintro c ⟨b,d,rfl,m,l,J,g⟩;rw[g8] at m l g;obtain⟨H,y,rfl,e⟩:=g (by lia);have k:=m [];rw[ng,Qb] at k;rw[kz,Z9] at l;walk_at "q";exact h H y e k (by lia) J
def jV:WS :=
 (cf (eL 1 (kC cv))
 (cf (eL 2 (wC (.int 0)))
 (cf (wM (wB (av AK (ag 2) (dy gX (ag 0))))
 (eB (wB (av (y9 false) (av bX (ag 0) (ag 2)) (kL (aq (wC (.str "some")) (aq (wC (.str "all")) cv)))))
 (cf (mz (k5 1) (kL (aq (av bX (ag 0) (ag 2)) (aq (av bX (ag 0) (av ip (ag 2) (wC (.int 1)))) cv))))
 (eL 2 (av ip (ag 2) (wC (.int 2)))))
 (cf (mz (k5 1) (kL (aq (av bX (ag 0) (ag 2)) (aq (wC (.str "")) cv))))
 (eL 2 (av ip (ag 2) (wC (.int 1)))))))
 (ft (cw' (ag 1) bB bB (dX (dy zh (wC (.int 1)))))))))
def eG:gv:=λc Q=>∃ (a:List Str) (b:List Hd),c=[.list (a.map .str)]/\a.length<=10000/\mh a=some b/\Q (.ow true) (.list (b.reverse.map DH))
def rP:j3 3 eG jV:=by
 rintro J Q ⟨a,p,rfl,G,A,h⟩;unfold jV;walk_at "q";refine⟨λc=>∃ (k:Nat) (t l:List Hd),c=[some (.sh (.list (a.map .str))),some (.ow true (.list (t.map DH))),some (.sh (.int k))]/\k<=a.length/\t.length<=k/\mh (a.drop k)=some l/\t++l=p,λc=>a.length-slK c,⟨0,[],p,rfl,gy _,cE _,A,rfl⟩,?_⟩;rintro c ⟨k,t,l,rfl,H,E,b,e⟩;walk_at "q";by_cases r:k<a.length;rotate_left
 ·have:k=a.length:=by lia
  subst this;rw[P5] at b;cases b;rw[ng] at e;subst e;rw[if_neg (by simp)];rw[List.map_reverse] at h;exact⟨uQ t,h⟩
 rw[if_pos (decide_eq_true (by lia))];have B:=B3 r;have i:=qo (xs:=a.map D.str) (j:=k) (v:=.str a[k]) (by simp[r]);rw[B] at b;generalize a[k]=w at *
 refine⟨_,i,?_⟩;walk_at "q";refine⟨rfl,rfl,?_⟩;rw[cW];refine R.D (λg=>?_) λg=>?_
 ·obtain⟨d,F,f,s,_,m,rfl⟩:=Ge g b;have n:k+1<a.length:=by have:=congrArg List.length s;rw[DV,gi] at this;lia
  have x:=qo (xs:=a.map D.str) (j:=k+1) (v:=.str a[k+1]) (by simp[n]);have u:=B3 n;rw[s] at u;obtain⟨z,y⟩:=List.cons.inj u;rw[<- z] at x;walk_at "q";refine⟨_,i,?_⟩;walk_at "q";refine⟨_,x,?_⟩;walk_at "q";refine⟨by lia,⟨k+2,t++[.st w d],f,?_,by lia,by simp;lia,by rw[<- m,y],by rw[<- e];simp⟩,?_⟩
  ·rw[kS];rfl
  ·show a.length-((k:Int)+2).toNat<a.length-(k:Int).toNat;lia
 ·obtain⟨f,m,rfl⟩:=Fg g b;walk_at "q";refine⟨_,i,?_⟩;walk_at "q";refine⟨by lia,⟨k+1,t++[.ot w],f,?_,by lia,by simp;lia,m,by rw[<- e];simp⟩,?_⟩
  ·rw[kS];rfl
  ·show a.length-((k:Int)+1).toNat<a.length-(k:Int).toNat;lia
def bA:WS :=
 (cf (eB (wB (av fP (ag 0) (wC (.str "some"))))
 (ft (av Kb (dy gX (dD (h_ (ag 5)) (gN 0) (EK (av bX (ag 1) (ag 0))) (ag 0) 1 [4])) (wC (.int 0))))
 aW)
 (ft (av fP (dy gX (dD (h_ (ag 5)) (gN 0) (nI (EK (av bX (ag 1) (ag 0)))) (ag 0) 1 [4])) (wC (.int 0)))))
def eZ:WS :=
 (cf (rL 1 (rL 2 (eL 5 (Tj (ag 3) (kL (aq (ag 2) (aq (ag 1) cv))) (kC cv)))))
 bA)
def dZ:gv:=λc Q=>∃ (w d:Str) (p a:Int) (l:List iE) (b:Kn) (t:Tr),c=[.str w,.str d,.int p,.dT b,mE a t]/\md w/\DE l b/\Lv a l/\Q .sh (.bl (if w = "some" then (bj l p d).any t else (bj l p d).all t))
def Gr {w d:Str} {p a:Int} {l:List iE} {B:Kn} {t:Tr} {g:Sl} {Q:Md->D->Prop} (r:g=.sh (.list ((bj l p d).map .int))\/g=.ow true (.list ((bj l p d).map .int))) (x:md w) (v:Lv a l) (h:Q .sh (.bl (if w = "some" then (bj l p d).any t else (bj l p d).all t))):bA { nx:=λ_=>Q .sh .non,rt:=Q } [some (.sh (.str w)),some (.sh (.str d)),some (.sh (.int p)),some (.sh (.dT B)),some (.sh (mE a t)),some g]:=by
 have A:∀ q∈bj l p d,0<=q/\q<a:=λq k=>(v _ (qz.mp k)).2.2.2;generalize bj l p d=s at *
 unfold bA mE;have u:∀ f b E,(∀ q,f q=(if b=true then t q else !t q))->E ((s.filter f).map .int)->f9 (gN 0) (if b=true then EK (av bX (ag 1) (ag 0)) else nI (EK (av bX (ag 1) (ag 0)))) (ag 0) (s.map D.int) [none,some (.sh (.list ((dG a.toNat).map λi=>.bl (t i))))] E:=λf b E y z=>by
  refine g_ (λq k F e=>?_) z;obtain⟨n,m⟩:=A q k;rw[y q] at e
  cases b with
  |true =>rw[if_pos rfl] at e ⊢;walk_at "q";refine Exists.intro _ (And.intro (kO n m t) ?_);walk_at "q";exact e
  |false =>rw[if_neg (by simp)] at e ⊢;walk_at "q";refine Exists.intro _ (And.intro (kO n m t) ?_);walk_at "q";exact e
 have j:("all" : Str) ≠ "some" := by decide +kernel
 rcases x with rfl|rfl
 ·rw[if_pos rfl,<- uq] at h;have:=u t true (λc=>Q .sh (.bl (decide ((0:Int)<c.length)))) (λq=>rfl) (by rw[cx];exact h);rcases r with rfl|rfl
  ·walk_at "q";exact this
  ·walk_at "q";exact this
 ·rw[if_neg j,<- t7] at h;have:=u (λq=>!t q) false (λc=>Q .sh (.bl (decide ((c.length:Int)=0)))) (λq=>rfl) (by rw[cx];exact h);rcases r with rfl|rfl
  ·walk_at "q";refine R.F (decide_eq_false j) ?_;walk_at "q";exact this
  ·walk_at "q";refine R.F (decide_eq_false j) ?_;walk_at "q";exact this
def kj:j3 6 dZ eZ:=by
 rintro i Q ⟨w,d,p,b,l,j,t,rfl,e,f,c,h⟩;obtain⟨g,a⟩:∃ w,w=bA:=⟨_,rfl⟩
 unfold eZ;rw[<- a];walk_at "q";rw[f p d];by_cases z:bj l p d=[]
 ·rw[if_pos z];walk_at "q";rw[a];exact Gr (.inr (by rw[z];rfl)) e c h
 ·rw[if_neg z];walk_at "q";rw[a];exact Gr (.inl rfl) e c h
def gM:WS :=
 (cf (rL 0 (qA (zj (ag 0)) (gN 2)
 (eB (oI (nI (wB (dy (tq "int") (ag 2)))) (oI (wB (dy (tq "bool") (ag 2))) (nI (wB (jf CD AK (wC (.int 0)) (ag 2) (ag 1))))))
 (ft (wC (.bl false)))
 aW)))
 (ft (wC (.bl true))))
def cu:gv:=λb Q=>∃ (a:List Int) (k:Int),(b=[.tup (a.map .int),.int k])/\(∀ p∈a,0<=p/\p<k)/\Q .sh (.bl true)
def nG:j3 3 cu gM:=by
 rintro g Q ⟨b,k,rfl,d,h⟩;unfold gM;walk_at "q";refine bw _ (λi a=>∃ o,a=[some (.sh (.tup (b.map .int))),some (.sh (.int k)),o]) ⟨_,rfl⟩ ?_ ?_
 ·rintro i x a c ⟨o,rfl⟩ N f;obtain⟨p,e,rfl⟩:=fq.mp (oj c);have:=d p e;walk_at "q";refine R.F rfl ?_;walk_at "q";refine R.F rfl ?_;walk_at "q";refine R.T (decide_eq_true this.1) ?_;walk_at "q";refine R.F (by rw[decide_eq_true this.2];rfl) ?_;walk_at "q";exact f _ ⟨_,rfl⟩
 ·rintro a ⟨o,rfl⟩;walk_at "q";exact h
def oU:WS :=
 (cf (eL 1 yV)
 (cf (rL 0 (qA (e_ (av bX (ag 0) (wC (.int 1)))) (gT 3 (fM (gN 2) (fM (gN 3) (fM (gN 4) uw))))
 (rL 4 (rL 3 (rL 2 (Zx 1 (kL (aq (ag 2) (aq (ag 3) cv))) (ag 4)))))))
 (gW 1)))
def gU:gv:=λc Q=>∃ (a:Int) (l:List iE),c=[mD a l]/\l.length<=1000/\∀ b,DE l b->Q (.ow true) (.dT b)
def wU:j3 5 gU oU:=by
 rintro w Q ⟨b,l,rfl,u,h⟩;unfold oU mD;walk_at "q";refine bw _ (λi e=>∃ (a:Kn) (j g f:Option Sl),DE (l.take i) a/\a.length<=i/\e=[some (.sh (.tup [.int b,.list (l.map yk)])),some (.ow true (.dT a)),j,g,f]) ⟨[],_,_,_,DE.nil,by simp,rfl⟩ ?_ ?_
 ·rintro i x e k ⟨a,j,g,f,c,m,rfl⟩ N s;have n:=(k7.mp k).1;rw[cx] at n;obtain⟨p,d,r,rfl,v,t⟩:=Mj k;walk_at "q";refine⟨by lia,?_,s _ ⟨_,_,_,_,by rw[t];exact c.put p d r,by have:=Bx [.inl p,.inr d] (.int r) a;lia,rfl⟩⟩;rw[c p d];have:=Ey (l.take i) p d;rw[lI] at this;split
  ·trivial
  ·show List.length _<_;rw[cx];exact vW (by lia)
 ·rintro e ⟨a,j,g,f,c,m,rfl⟩;rw[cx,xS] at c;walk_at "q";exact h a c
def jH:WS :=
 (cf (eB (wB (av fP (av bX (ag 0) (wC (.int 0))) (wC (.str "some"))))
 (rL 1 (ft (av Kb (dy gX (dD (h_ (Tj (ag 2) (kL (aq (ag 1) (aq (av bX (ag 0) (wC (.int 1))) cv))) (kC cv))) (gN 0) (EK (av bX (av bX (ag 1) (av bX (ag 2) (wC (.int 2)))) (ag 0))) (ag 0) 1 [3,0])) (wC (.int 0)))))
 aW)
 (cf (eB (wB (av fP (av bX (ag 0) (wC (.int 0))) (wC (.str "all"))))
 (rL 1 (ft (av fP (dy gX (dD (h_ (Tj (ag 2) (kL (aq (ag 1) (aq (av bX (ag 0) (wC (.int 1))) cv))) (kC cv))) (gN 0) (nI (EK (av bX (av bX (ag 1) (av bX (ag 2) (wC (.int 2)))) (ag 0)))) (ag 0) 1 [3,0])) (wC (.int 0)))))
 aW)
 (cf (eB (wB (av fP (av bX (ag 0) (wC (.int 0))) (wC (.str "not"))))
 (ft (xm (av bX (av bX (ag 3) (av bX (ag 0) (wC (.int 1)))) (ag 1))))
 aW)
 (cf (eB (wB (av fP (av bX (ag 0) (wC (.int 0))) (wC (.str "and"))))
 (ft (av fP (dy gX (dD (rF (av bX (ag 0) (wC (.int 1)))) (gN 0) (nI (EK (av bX (av bX (ag 1) (ag 0)) (ag 2)))) (ag 0) 1 [3,1])) (wC (.int 0))))
 aW)
 (ft (av Kb (dy gX (dD (rF (av bX (ag 0) (wC (.int 1)))) (gN 0) (EK (av bX (av bX (ag 1) (ag 0)) (ag 2))) (ag 0) 1 [3,1])) (wC (.int 0))))))))
def ji:gv:=λd Q=>∃ (r:Rw) (s a:Int) (l:List iE) (c:Kn) (b:List Tr),d=[dS r,.int s,.dT c,.list (b.map (mE a))]/\DE l c/\Lv a l/\tJ b.length r/\(0<=s/\s<a)/\Q .sh (.bl (BM l b r s))
def rM:j3 4 ji jH:=by
 rintro J Q ⟨r,s,many,l,K,g,rfl,F,E,n,e,h⟩;unfold jH
 cases r with
 |st w d j =>
  obtain⟨i,H,v,u⟩:=n;rw[show dS (.st w d j)=.tup [.str w,.str d,.int j] from rfl];have k:=uW (many:=many) v u;rcases i with rfl|rfl
  ·walk_at "q";refine yj F λm=>?_;walk_at "q";refine g_ (f:=λq=>g.getD j.toNat (λ_=>false) q) (λq b A c=>?_) ?_
   ·have a:=(E _ (qz.mp b)).2.2.2;have y:0<=q:=a.1;have x:q<many:=a.2;walk_at "q";refine⟨_,k,?_⟩;refine Exists.intro _ (And.intro (kO y x _) ?_);walk_at "q";exact c
   try rw[cx]
   rw[uq];exact h
  ·walk_at "q";refine R.D (λz=>absurd z (by decide +kernel)) λ_=>?_;walk_at "q";refine yj F λm=>?_;walk_at "q";refine g_ (f:=λq=>!g.getD j.toNat (λ_=>false) q) (λq b A c=>?_) ?_
   ·have a:=(E _ (qz.mp b)).2.2.2;have y:0<=q:=a.1;have x:q<many:=a.2;walk_at "q";refine⟨_,k,?_⟩;refine Exists.intro _ (And.intro (kO y x _) ?_);walk_at "q";exact c
   try rw[cx]
   rw[t7];exact h
 |nt j =>obtain⟨v,u⟩:=n;have k:=uW (many:=many) v u;rw[show dS (.nt j)=.tup [.str "not",.int j] from rfl];walk_at "q";refine R.D (λz=>absurd z E5.1) λ_=>?_;walk_at "q";refine R.D (λz=>absurd z E5.2) λ_=>?_;walk_at "q";refine⟨_,k,?_⟩;exact Exists.intro _ (And.intro (kO e.1 e.2 _) h)
 |jn w B =>
  obtain⟨i,G,D⟩:=n;have t:=zi i;rw[show dS (.jn w B)=.tup [.str w,.tup (B.map .int)] from rfl];walk_at "q";refine R.D (λz=>absurd z t.1) λ_=>?_;walk_at "q";refine R.D (λz=>absurd z t.2.1) λ_=>?_;walk_at "q";refine R.D (λz=>absurd z t.2.2) λ_=>?_;walk_at "q";rcases i with rfl|rfl
  ·refine R.D (λ_=>?_) λz=>absurd rfl z;walk_at "q";refine g_ (f:=λp=>!g.getD p.toNat (λ_=>false) s) (λq b A c=>?_) ?_
   ·have a:=D q b;walk_at "q";refine⟨_,uW (many:=many) a.1 a.2,?_⟩;refine Exists.intro _ (And.intro (kO e.1 e.2 _) ?_);walk_at "q";exact c
   try rw[cx]
   rw[t7];exact h
  ·refine R.D (λz=>absurd z (by decide +kernel)) λ_=>?_;walk_at "q";refine g_ (f:=λp=>g.getD p.toNat (λ_=>false) s) (λq b A c=>?_) ?_
   ·have a:=D q b;walk_at "q";refine⟨_,uW (many:=many) a.1 a.2,?_⟩;refine Exists.intro _ (And.intro (kO e.1 e.2 _) ?_);walk_at "q";exact c
   try rw[cx]
   rw[uq];exact h
def jO:WS :=
 (cf (eL 1 (kC cv))
 (cf (rL 0 (qA (e_ (ag 0)) (gN 2)
 (eB (wB (av (y9 false) (av bX (ag 2) (wC (.int 0))) (kL (aq (wC (.str "some")) (aq (wC (.str "all")) cv)))))
 (mz (k5 1) (av ip (av bX (ag 1) (av bX (ag 2) (wC (.int 2)))) (wC (.int 1))))
 (eB (wB (av fP (av bX (ag 2) (wC (.int 0))) (wC (.str "not"))))
 (mz (k5 1) (av bX (ag 1) (av bX (ag 2) (wC (.int 1)))))
 (mz (k5 1) (av Cy (dD (rF (av bX (ag 2) (wC (.int 1)))) (gN 0) vt (av bX (ag 1) (ag 0)) 1 [1]) (wC (.int 0))))))))
 (ft (av bX (ag 1) (dy zh (wC (.int 1)))))))
def iB:gv:=λb Q=>∃ (a:List Rw),b=[.list (a.map dS)]/\kc a/\1<=a.length/\a.length<=2000/\Q .sh (.int (depth a))
def qJ:j3 3 iB jO:=by
 rintro M Q ⟨a,rfl,y,H,L,h⟩;unfold jO;walk_at "q";refine bw _ (λi l=>∃ f:Option Sl,l=[some (.sh (.list (a.map dS))),some (.ow true (.list ((deps (a.take i)).map D.int))),f]) ⟨_,rfl⟩ ?_ ?_
 ·rintro i x l g ⟨f,rfl⟩ N G;rw[ki] at g
  cases e:a[i]? with
  |none=>rw[e] at g;cases g
  |some r =>
   rw[e] at g;cases g;have c:=y i r e;have K:i<a.length:=(k7.mp e).1;have b:((a.take i).length:Int)=i:=by rw[lI];lia
   have z:=zK (a.take i);have A:deps (a.take (i+1))=deps (a.take i)++[dep (deps (a.take i)) r]:=by rw[yA,e];exact Ds _ _
   have t:(deps (a.take i)).length<16777216:=by rw[kW,lI];lia
   have k:∀ v:Int,v=dep (deps (a.take i)) r->∀ f:Option Sl,N [some (.sh (.list (a.map dS))),some (.ow true (.list ((deps (a.take i)).map D.int++[D.int v]))),f]:=λv B f=>by subst B;refine G _ ⟨f,?_⟩;rw[A,kS];rfl
   cases r with
   |st w d j =>
    rw[show dS (.st w d j)=.tup [.str w,.str d,.int j] from rfl];walk_at "q";refine⟨rfl,rfl,?_⟩;refine R.T ?_ ?_
    ·rcases c.1 with rfl|rfl<;>decide +kernel
    walk_at "q";exact⟨_,tV c.2.2.1 (by rw[b];exact c.2.2.2),by rw[cx,kQ];exact t,k _ rfl _⟩
   |nt j =>rw[show dS (.nt j)=.tup [.str "not",.int j] from rfl];walk_at "q";refine⟨rfl,rfl,R.F (by decide +kernel) ?_⟩;walk_at "q";exact⟨_,tV c.1 (by rw[b];exact c.2),by rw[cx,kQ];exact t,k _ rfl _⟩
   |jn w m =>
    rw[show dS (.jn w m)=.tup [.str w,.tup (m.map .int)] from rfl];walk_at "q";refine⟨rfl,rfl,R.F ?_ ?_⟩
    ·rcases c.1 with rfl|rfl<;>decide +kernel
    walk_at "q";refine R.F (decide_eq_false (zi c.1).2.2) ?_;walk_at "q";refine bV (λ_=>true) (ZO λp=>(deps (a.take i)).getD p.toNat 0) (λl=>∃ o,l=[o,some (.sh (.list ((deps (a.take i)).map D.int)))]) _ _ _ ⟨_,rfl⟩ ?_ ?_
    ·rintro x g l ⟨o,rfl⟩ P O _ s;obtain⟨p,E,rfl⟩:=fq.mp g;have u:=c.2.2 p E;walk_at "q";exact⟨_,tV u.1 (by rw[b];exact u.2),.inl rfl,s _ ⟨_,rfl⟩ rfl⟩
    ·have J:((m.map D.int).filter λ_=>true).map (ZO λp=>(deps (a.take i)).getD p.toNat 0)=(m.map λp=>(deps (a.take i)).getD p.toNat 0).map D.int:=by rw[xd2.mpr (λ_ _=>rfl),kM,kM];rfl
     refine⟨_,J,t,k _ ?_ _⟩;exact K5 λn F=>by obtain⟨p,_,rfl⟩:=fq.mp F;exact pH z _
 ·rintro l ⟨f,rfl⟩;rw[cx,xS];walk_at "q";refine⟨_,gz' (d:=0) D.int (by rw[kW];exact H),?_⟩;rw[kW];walk_at "q";exact h
def rR:WS :=
 (ft (UU (aU oh (aq (ag 0) cv)) (fJ (dy (tq "str") (ag 0)) (av fP (ag 0) (wC (.str "*"))))))
def ju:gv:=λa Q=>∃ x:Str,a=[.str x]/\Q .sh (.bl (fX x))
def zc:j3 1 ju rR:=by
 rintro a Q ⟨x,rfl,h⟩;unfold rR;walk_at "q";refine⟨_,rfl,?_⟩;unfold fX at h;walk_at "q";refine R.B (λe=>?_) λe=>?_
 ·walk_at "q";rw[e] at h;exact h
 ·walk_at "q";refine R.T rfl ?_;walk_at "q";rw[e] at h;exact h
def xx:WS :=
 (ft (fJ (aU lr (aq (ag 1) cv)) (jf CD AK (wC (.int 0)) (ag 1) (ag 0))))
def eN:gv:=λa Q=>∃ k j:Int,a=[.int k,.int j]/\Q .sh (.bl (decide (0<=j/\j<k)))
def xR:j3 2 eN xx:=by
 rintro b Q ⟨k,j,rfl,h⟩;walk_at "q";refine⟨_,rfl,?_⟩;walk_at "q";refine R.D (λa=>?_) λa=>?_
 ·walk_at "q";rwa[show decide (0<=j/\j<k)=decide (j<k) by simp[a]] at h
 ·walk_at "q";rwa[decide_eq_false (by lia)] at h
def du:WS :=
 (cf (eB (wB (av fP (av bX (ag 0) (wC (.int 0))) (KP [("and", "yes"),("or", "no")] (ag 2))))
 (t6 1 (GO (kL (aq (ag 2) (aq (kL cv) cv)))))
 aW)
 (eB (wB (av fP (av bX (ag 0) (wC (.int 0))) (KP [("and", "both"),("or", "either")] (ag 2))))
 (cf (En 3 (lL 1 gq tQ))
 (cf (En 4 (lL 1 gq tQ))
 (rL 4 (rL 3 (t6 1 (GO (kL (aq (ag 2) (aq (kL (aq (ag 3) (aq (ag 4) cv))) cv)))))))))
 aW))
def cH:WS :=
 (cf (qA (zj (kL (aq (wC (.str "and")) (aq (wC (.str "or")) cv)))) (gN 2)
 du)
 fC)
def iV:WS :=
 (cf (eB (oI (wB (av fP (av bX (ag 0) (wC (.int 0))) (wC (.str "some")))) (wB (av fP (av bX (ag 0) (wC (.int 0))) (wC (.str "all")))))
 (t6 1 (Cm (mj (GO (av bX (ag 0) (wC (.int 0)))) (mj (GO (av bX (ag 0) (wC (.int 1)))) (mj (lL 1 gq tQ) Eo)))))
 aW)
 (cf (eB (wB (av fP (av bX (ag 0) (wC (.int 0))) (wC (.str "not"))))
 (t6 1 (Cm (mj (GO (wC (.str "not"))) (mj (lL 1 gq tQ) Eo))))
 aW)
 cH))
def lH:OW:=λb c Q=>∃ (h:Hd) (a t:List Int) (r:Rw),c=[An h]/\OY h/\b=a.reverse/\BU h a=some (r,t)/\Q t.reverse (dS r)
def xX(b a Q)(h:lH b a Q):a.length+1=2:=by obtain⟨_,_,_,_,rfl,_⟩:=h;rfl
def n_ {a:ai} {w b:Str} {c:List Int} {E:gC} {h g:Option Sl} (d:b = "and"\/b = "or") (k:w≠fu b->w≠cB b->E.nx [some (.sh (.tup [.str w])),k6 a c.reverse,some (.sh (.str b)),h,g]) (l:w=fu b->E.rt (.wb a (GN c.reverse)) (dS (.jn b [])))(n:w=cB b->∃ x y t,c=x :: y :: t/\E.rt (.wb a (GN t.reverse)) (dS (.jn b [x,y]))):du E [some (.sh (.tup [.str w])),k6 a c.reverse,some (.sh (.str b)),h,g]:=by
 have j:List.lookup b [(("and" : Str),("yes" : Str)),("or", "no")]=some (fu b)/\(fu b).length<=16777216:=by rcases d with rfl|rfl<;>decide +kernel
 have i:List.lookup b [(("and" : Str),("both" : Str)),("or", "either")]=some (cB b)/\(cB b).length<=16777216:=by rcases d with rfl|rfl<;>decide +kernel
 unfold du;walk_at "q";unfold KP;walk_at "q";refine⟨b,_,rfl,j.1,j.2,?_⟩;refine R.D (λe=>?_) λe=>?_
 ·walk_at "q";exact⟨a,c.reverse,rfl,l e⟩
 walk_at "q";refine⟨b,_,rfl,i.1,i.2,?_⟩;refine R.D (λf=>?_) λf=>?_
 ·obtain⟨x,y,t,rfl,m⟩:=n f;rw[pS,pS];walk_at "q";refine⟨a,_,rfl,rfl,_,_,rfl,?_⟩;walk_at "q";refine⟨a,_,rfl,rfl,_,_,rfl,?_⟩;walk_at "q";exact⟨a,_,rfl,m⟩
 ·walk_at "q";exact k e f
def C_:∀ a k l Q,k.length<=bG->lH k l Q->iV { nx:=λ_=>False,rt:=E2 a Q } (gh 5 a k l):=by
 rintro a k l Q E ⟨h,p,t,r,rfl,A,rfl,e,q⟩;have b:E2 a Q (.wb a (GN t.reverse)) (dS r):=⟨tR r,_,rfl,rfl,q⟩
 have g:∀ w:Str,¬ md w->w ≠ "not"->cH { nx:=λ_=>False,rt:=E2 a Q } [some (.sh (.tup [.str w])),k6 a p.reverse,none,none,none]->iV { nx:=λ_=>False,rt:=E2 a Q } (gh 5 a p.reverse [An (.ot w)]):=λw s B h=>by
  obtain⟨m,f⟩:∃ w,w=cH:=⟨_,rfl⟩
  rw[show An (.ot w)=.tup [.str w] from rfl];unfold iV gh;rw[<- f];walk_at "q";refine R.F (decide_eq_false λz=>s (.inl z)) ?_;walk_at "q";refine R.F (decide_eq_false λz=>s (.inr z)) ?_;walk_at "q";refine R.F (decide_eq_false B) ?_;walk_at "q";rw[f];exact h
 rcases fH A e with⟨w,d,x,rfl,D,rfl,rfl⟩|⟨x,rfl,rfl,rfl⟩|⟨w,v,rfl,j,rfl,rfl⟩|⟨w,v,x,y,rfl,j,rfl,rfl⟩
 ·rw[show An (.st w d)=.tup [.str w,.str d] from rfl];obtain⟨m,f⟩:∃ w,w=cH:=⟨_,rfl⟩
  unfold iV gh;rw[pS,<- f];rcases D with rfl|rfl
  ·walk_at "q";exact⟨a,_,rfl,rfl,_,_,rfl,a,_,rfl,b⟩
  ·walk_at "q";refine R.F (by decide +kernel) ?_;walk_at "q";exact⟨a,_,rfl,rfl,_,_,rfl,a,_,rfl,b⟩
 ·rw[show An (.ot "not")=.tup [.str "not"] from rfl];obtain⟨m,f⟩:∃ w,w=cH:=⟨_,rfl⟩
  unfold iV gh;rw[pS,<- f];walk_at "q";refine R.F (by decide +kernel) ?_;walk_at "q";refine R.F (by decide +kernel) ?_;walk_at "q";exact⟨a,_,rfl,rfl,_,_,rfl,a,_,rfl,b⟩
 ·have i:¬ md w/\w ≠ "not" := by rcases j with⟨rfl,_⟩|⟨rfl,_⟩<;>decide +kernel
  refine g w i.1 i.2 ?_;obtain⟨u,c⟩:∃ w,w=du:=⟨_,rfl⟩
  unfold cH;rw[<- c];walk_at "q";unfold jD;walk_at "q";rw[c];rcases j with⟨rfl,rfl⟩|⟨rfl,rfl⟩
  ·exact n_ (.inl rfl) (λn _=>absurd (by decide +kernel) n) (λ_=>b) λz=>absurd z (by decide +kernel)
  ·refine n_ (.inl rfl) (λ_ _=>?_) (λz=>absurd z (by decide +kernel)) λz=>absurd z (by decide +kernel);rw[<- c];unfold jD;walk_at "q";rw[c];exact n_ (.inr rfl) (λn _=>absurd (by decide +kernel) n) (λ_=>b) λz=>absurd z (by decide +kernel)
 ·have i:¬ md w/\w ≠ "not" := by rcases j with⟨rfl,_⟩|⟨rfl,_⟩<;>decide +kernel
  refine g w i.1 i.2 ?_;obtain⟨u,c⟩:∃ w,w=du:=⟨_,rfl⟩
  unfold cH;rw[<- c];walk_at "q";unfold jD;walk_at "q";rw[c];rcases j with⟨rfl,rfl⟩|⟨rfl,rfl⟩
  ·exact n_ (.inl rfl) (λ_ n=>absurd (by decide +kernel) n) (λz=>absurd z (by decide +kernel)) λ_=>⟨x,y,t,rfl,b⟩
  ·refine n_ (.inl rfl) (λ_ _=>?_) (λz=>absurd z (by decide +kernel)) λz=>absurd z (by decide +kernel);rw[<- c];unfold jD;walk_at "q";rw[c];exact n_ (.inr rfl) (λ_ n=>absurd (by decide +kernel) n) (λz=>absurd z (by decide +kernel)) λ_=>⟨x,y,t,rfl,b⟩
def dH:WS :=
 (yS (wB (av CD (dy gX (ag 3)) (wC (.int 200)))) 3 (wC .non))
def dN:WS :=
 (cf (eB (oI (wB (av fP (av bX (ag 0) (wC (.int 0))) (wC (.str "some")))) (wB (av fP (av bX (ag 0) (wC (.int 0))) (wC (.str "all")))))
 (eL 3 (av ip (kC (aq (av bX (ag 0) (wC (.int 0))) (aq (av bX (ag 0) (wC (.int 1))) cv))) (av bX (ag 2) (wC (.int 0)))))
 (eB (wB (av fP (av bX (ag 0) (wC (.int 0))) (wC (.str "not"))))
 (eL 3 (av ip (kC (aq (wC (.str "not")) cv)) (av bX (ag 2) (wC (.int 0)))))
 (eL 3 (aU gb (aq (av bX (ag 0) (wC (.int 0))) (aq (ag 2) cv))))))
 dH)
def oW:WS :=
 (cf (G8 2 (uO (h_ (aU pG (aq (ag 0) cv))) (gN 0) vt (av bX (ag 1) (ag 0)) 1 [1]))
 (cf (eB (wB (av (cl' false) (wC .non) (ag 2)))
 (ft (wC .non))
 aW)
 dN))
def vx:Option (List Str)->D
 |none=>.non
 |some a=>.list (a.map .str)
def lM:gv:=λc Q=>∃ (k:Int) (r:Rw) (a:List (Option (List Str))),c=[dS r,.list (a.map vx)]/\tJ k r/\k<=a.length/\(∀ o∈a,E7 o)/\(LB r (λj=>a.getD j.toNat none)=none->Q .sh .non)/\∀ b,LB r (λj=>a.getD j.toNat none)=some b->Q (.ow true) (.list (b.map .str))
theorem Aq:∀ c:List (Option (List Str)),(pE c=none->DB (c.map vx) .non=true)/\∀ l,pE c=some l->c.map vx=l.map tN/\DB (c.map vx) .non=false
 |[]=>⟨λz=>(nomatch z),λl z=>by cases z;exact⟨rfl,rfl⟩⟩
 |none :: c=>⟨λ_=>rfl,λl z=>(nomatch z)⟩
 |some w :: c=>by
  obtain⟨g,f⟩:=Aq c;have d:nE (.list (w.map .str)) .non=false:=rfl;refine⟨λz=>?_,λl z=>?_⟩
  ·have z:(pE c).map (w :: ·)=none:=z;show(nE (.list (w.map .str)) .non || DB (c.map vx) .non)=true;rw[g (Option.map_eq_none_iff.mp z),Bool.or_true]
  ·have z:(pE c).map (w :: ·)=some l:=z;obtain⟨m,e,rfl⟩:=nV.mp z;obtain⟨a,b⟩:=f m e;refine⟨by rw[eR,a];rfl,?_⟩;show(nE (.list (w.map .str)) .non || DB (c.map vx) .non)=false;rw[d,b];rfl
def Og{o:Option (List Str)}(h:E7 o)(n:Nat):fI (n+1) (vx o)=true:=by
 cases o with
 |none=>rfl
 |some a =>show(a.map D.str).all (fI n)=true;rw[LS,xI];intro w b;have:=((h a rfl).2 w b).1;cases n<;>exact this
def okB{d:D}:yg .sh d:=by unfold yg;simp
def uh{Q:Md->D->Prop}{X:List Str}{o0 o1 o2:Option Sl}(c:mG (some X)=none->Q .sh .non)(b:∀ a,mG (some X)=some a->Q (.ow true) (.list (a.map .str))):dH { nx:=λ_=>Q .sh .non,rt:=Q } [o0,o1,o2,some (.ow true (.list (X.map .str)))]:=by
 unfold dH;walk_at "q";refine R.D (λe=>?_) λe=>?_
 ·walk_at "q";exact b X (u9 (by lia))
 ·walk_at "q";refine c ?_;unfold mG;rw[xej,if_neg (by lia)]
def Im{Q:Md->D->Prop}{k:Int}{r:Rw}{g:Int->Option (List Str)}{l:List (List Str)}{o1:Option Sl}(i:tJ k r)(y:∀ j,E7 (g j))(h:pE ((qf r).map g)=some l)(v:LB r g=none->Q .sh .non)(u:∀ c,LB r g=some c->Q (.ow true) (.list (c.map .str))) :
  dN { nx:=λ_=>Q .sh .non,rt:=Q } [some (.sh (dS r)),o1,some (.sh (.list (l.map tN))),none]:=by
 obtain⟨M,t⟩:∃ w,w=dH:=⟨_,rfl⟩
 unfold dN;rw[<- t];have s:∀ j,pE [g j]=some l->∃ p,g j=some p/\l=[p]/\p.length<=200:=λj e=>by
  cases b:g j with
  |none=>rw[b] at e;cases e
  |some p=>rw[b] at e;cases e;exact⟨p,rfl,rfl,(y j p b).1⟩
 cases r with
 |st w d j =>
  obtain⟨p,b,rfl,B⟩:=s j h;have a:=uh (o0:=some (.sh (.tup [.str w,.str d,.int j]))) (o1:=o1) (o2:=some (.sh (.list [tN p]))) (λz=>v (by show mG ((g j).map _)=none;rw[b];exact z)) λc z=>u c (by show mG ((g j).map _)=some c;rw[b];exact z);rw[<- t] at a;rw[show dS (.st w d j)=.tup [.str w,.str d,.int j] from rfl,show[p].map tN=[tN p] from rfl,show tN p=.list (p.map .str) from rfl] at *
  walk_at "q";refine R.D (λe=>?_) λe=>?_
  ·walk_at "q";exact⟨by lia,.inl ⟨aY p,a⟩⟩
  ·walk_at "q";refine R.T (decide_eq_true (i.1.resolve_left e)) ?_;walk_at "q";exact⟨by lia,.inl ⟨aY p,a⟩⟩
 |nt j =>
  obtain⟨p,b,rfl,B⟩:=s j h;have a:=uh (o0:=some (.sh (.tup [.str "not",.int j]))) (o1:=o1) (o2:=some (.sh (.list [tN p]))) (λz=>v (by show mG ((g j).map _)=none;rw[b];exact z)) λc z=>u c (by show mG ((g j).map _)=some c;rw[b];exact z);rw[<- t] at a;rw[show dS (.nt j)=.tup [.str "not",.int j] from rfl,show[p].map tN=[tN p] from rfl,show tN p=.list (p.map .str) from rfl] at *
  walk_at "q";refine R.F (decide_eq_false E5.1) ?_;walk_at "q";refine R.F (decide_eq_false E5.2) ?_;walk_at "q";exact⟨by lia,.inl ⟨aY p,a⟩⟩
 |jn w f =>
  have h:pE (f.map g)=some l:=h;have A:∀ (n:List Int) m,pE (n.map g)=some m->m.length=n.length/\∀ p∈m,p.length<=200:=λn=>by
   induction n with
   |nil=>intro m e;cases e;exact⟨rfl,λ_ z=>nomatch z⟩
   |cons q n G =>
    intro m e;rw[eR] at e
    cases b:g q with
    |none=>rw[b] at e;cases e
    |some p =>rw[b] at e;obtain⟨E,L,rfl⟩:=nV.mp (e);obtain⟨J,H⟩:=G E L;exact⟨by rw[gi,gi,J],λx K=>(dQ.mp K).elim (λz=>z ▸ (y q p b).1) (H x)⟩
  obtain⟨O,F⟩:=A f l h;have N:=i.2.1;have a:=uh (o0:=some (.sh (.tup [.str w,.tup (f.map .int)]))) (o1:=o1) (o2:=some (.sh (.list (l.map tN)))) (λz=>v (by show mG ((pE (f.map g)).map _)=none;rw[h];exact z)) λc z=>u c (by show mG ((pE (f.map g)).map _)=some c;rw[h];exact z);rw[<- t] at a;rw[show dS (.jn w f)=.tup [.str w,.tup (f.map .int)] from rfl];walk_at "q";refine R.F (decide_eq_false (zi i.1).1) ?_;walk_at "q";refine R.F (decide_eq_false (zi i.1).2.1) ?_;walk_at "q";refine R.F (decide_eq_false (zi i.1).2.2) ?_;walk_at "q";exact⟨w,l,rfl,i.1,by lia,F,a⟩
def Ci{r:Rw}{g:Int->Option (List Str)}(h:pE ((qf r).map g)=none):LB r g=none:=by
 have a:∀ j,pE [g j]=none->g j=none:=λj e=>by
  cases c:g j with
  |none=>rfl
  |some p=>rw[c] at e;cases e
 cases r with
 |st w d j=>show mG ((g j).map _)=none;rw[a j h];rfl
 |nt j=>show mG ((g j).map _)=none;rw[a j h];rfl
 |jn w b=>show mG ((pE (b.map g)).map _)=none;rw[show pE (b.map g)=none from h];rfl
def w6:j3 4 lM oW:=by
 rintro P Q ⟨k,r,a,rfl,h,O,B,m,F⟩;obtain⟨M,p⟩:∃ w,w=dN:=⟨_,rfl⟩
 unfold oW;rw[<- p];walk_at "q";refine⟨r,k,rfl,h,?_⟩;walk_at "q";have G:=dO h;have u:∀ j:Int,E7 (a.getD j.toNat none):=λj=>by
  rw[xE]
  cases e:a[j.toNat]? with
  |none=>exact λL z=>nomatch z
  |some o=>exact B o (oj e)
 refine mH (λ_=>true) (λd=>match d with
  |.int j=>vx (a.getD j.toNat none)
  |d=>d) (λi=>∃ o,i=[o,some (.sh (.list (a.map vx)))]) _ _ _ ⟨none,rfl⟩ ?_ ?_
 ·rintro y A i ⟨o,rfl⟩ R K _ b;obtain⟨j,E,rfl⟩:=fq.mp A;obtain⟨x,N⟩:=G j E;have g:=qo (v:=vx (a.getD j.toNat none)) (by
   rw[ki,xE,rh (by lia)];rfl)
  rw[oq x] at g;walk_at "q";refine⟨_,g,?_⟩;have b:K [some (.sh (.int j)),some (.sh (.list (a.map vx)))] (vx (a.getD j.toNat none)):=b _ ⟨_,rfl⟩ rfl
  cases n:a.getD j.toNat none with
  |none =>rw[n] at b;show de D.non _;walk_at "q";exact⟨okB,b⟩
  |some o =>rw[n] at b;show de (D.list (o.map .str)) _;walk_at "q";exact⟨okB,b⟩
 rw[fL,kM];obtain⟨t,s⟩:=Aq ((qf r).map λj=>a.getD j.toNat none);rw[kM] at t s;refine⟨rfl,?_,?_⟩
 ·show(List.map _ _).all (fI 11)=true;rw[LS,xI];exact λj _=>Og (u j) 10
 cases f:pE ((qf r).map λj=>a.getD j.toNat none) with
 |none =>have g:=t f;show de (DB (List.map (vx ∘ λj=>a.getD j.toNat none) (qf r)) D.non) _;rw[g];walk_at "q";exact m (Ci f)
 |some l =>obtain⟨J,H⟩:=s l f;show de (DB (List.map (vx ∘ λj=>a.getD j.toNat none) (qf r)) D.non) _;rw[H];walk_at "q";rw[p];have c:=Im (o1:=some (.sh (.list (a.map vx)))) h u f m F;rw[<- J] at c;exact c
def cL:WS :=
 (eB (wB (av (y9 false) (ag 4) (kL (aq (wC (.str "some")) (aq (wC (.str "all")) cv)))))
 (mz (k5 3) (dD (dq (av bX (ag 0) (wC (.int 0)))) (gN 0) vt (aU dZ (aq (ag 4) (aq (ag 1) (aq (ag 0) (aq (ag 2) (aq (ag 3) cv)))))) 1 [5,2,6,4]))
 (cf (Jt 7 3)
 (eB (wB (av fP (ag 4) (wC (.str "both"))))
 (mz (k5 3) (dD (dq (av bX (ag 0) (wC (.int 0)))) (gN 0) vt (fJ (av bX (ag 2) (ag 0)) (av bX (ag 1) (ag 0))) 1 [7,6]))
 (mz (k5 3) (dD (dq (av bX (ag 0) (wC (.int 0)))) (gN 0) vt (UU (av bX (ag 2) (ag 0)) (av bX (ag 1) (ag 0))) 1 [7,6])))))
def a_:WS :=
 (eB (wB (av fP (ag 4) (wC (.str "not"))))
 (mz (k5 3) (dD (dq (av bX (ag 0) (wC (.int 0)))) (gN 0) vt (xm (av bX (ag 1) (ag 0))) 1 [6]))
 cL)
def bU:WS :=
 (cf (eB (wB (av (y9 false) (ag 4) (kL (aq (wC (.str "yes")) (aq (wC (.str "no")) cv)))))
 (cf (mz (k5 3) (dD (dq (av bX (ag 0) (wC (.int 0)))) (gN 0) vt (av fP (ag 1) (wC (.str "yes"))) 1 [4]))
 Gx)
 aW)
 (cf (Jt 6 3)
 a_))
def lX:WS :=
 (cf (eL 2 (aU gU (aq (ag 0) cv)))
 (cf (eL 3 (kC cv))
 (cf (qA (e_ (aU eG (aq (ag 1) cv))) (gT 2 (fM (gN 4) (fM (gN 5) uw)))
 bU)
 (sU 3 (dy zh (wC (.int 1)))))))
def jL:gv:=λe Q=>∃ (a:Int) (l:List iE) (b:List Str) (d:List Hd) (c:List Rw) (x:Int),e=[mD a l,.list (b.map .str)]/\1<=a/\a<=20/\Lv a l/\l.length<=1000/\E8 b d c x/\Q (.ow true) (mE a ((i9 l).at c x))
def lu{e:WE}{b:List (Option Sl)}{a:Int}{f:Tr}{E:List D->Prop}(i:∀ (p:Int) (g:Md->D->Prop),0<=p->p<a->g .sh (.bl (f p))->e (some (.sh (.int p)) :: b) g)(j:E ((dG a.toNat).map λs=>.bl (f s))):f9 (gN 0) vt e (gD 0 a.toNat) (none :: b) E:=by
 refine bV (λ_=>true) (λd=>match d with
  |.int s=>.bl (f s)
  |d=>d) (λc=>∃ o,c=o :: b) _ _ _ ⟨_,rfl⟩ ?_ ?_
 ·rintro y h c ⟨o,rfl⟩ t r _ l;obtain⟨k,n,rfl⟩:=pD h;walk_at "q";exact i _ _ (by lia) (by lia) ⟨.inl rfl,l _ ⟨_,rfl⟩ rfl⟩
 ·rw[fL]
  have m:(gD 0 a.toNat).map (λd=>match d with
   |.int s=>D.bl (f s)
   |d=>d)=(dG a.toNat).map λs=>.bl (f s):=by rw[oM,kM];rfl
  rw[m];exact j
def qu {E:gC} {f e c i b:Option Sl} {w d:Str} {a:List D} {y:D} (j:y.flat=false) (n:¬ (w = "yes"\/w = "no")) (h:a_ E [f,e,c,some (.ow true (.list a)),some (.sh (.str w)),some (.sh (.str d)),some (.ow true y),b]):bU E [f,e,c,some (.ow true (.list (a++[y]))),some (.sh (.str w)),some (.sh (.str d)),i,b]:=by
 obtain⟨k,g⟩:∃ w,w=a_:=⟨_,rfl⟩
 unfold bU;rw[<- g];walk_at "q";refine⟨rfl,rfl,?_⟩;rw[cW];refine R.F (decide_eq_false n) ?_;walk_at "q";refine⟨_,_,rfl,j,?_⟩;rw[g];exact h
def tO:j3 8 jL lX:=by
 rintro ds Q ⟨a,l,P,o,T,x,rfl,m1,m2,U,hl,s,h⟩;obtain⟨w0,J⟩:∃ w,w=bU:=⟨_,rfl⟩
 unfold lX mD;rw[<- J];have wl:=s.len;walk_at "q";refine⟨a,l,rfl,by lia,λY hk=>?_⟩;walk_at "q";refine⟨P,o,rfl,by lia,s.hd,?_⟩;walk_at "q";refine bw _ (λi O=>∃ T K z u m k,vv (o.reverse.take i).reverse=some (T,K)/\O=[some (.sh (.tup [.int a,.list (l.map yk)])),some (.sh (.list (P.map .str))),some (.ow true (.dT Y)),some (.ow true (.list (K.map λx=>mE a ((i9 l).at T x)).reverse)),z,u,m,k]) ⟨[],[],none,none,none,none,rfl,rfl⟩ ?_ ?_
 ·rintro i y O B ⟨b,K,z,u,m,k,H,rfl⟩ N hN;rw[ki] at B;obtain⟨hd,hh,rfl⟩:=nV.mp B;obtain⟨Z,I,S,r,t,e,en⟩:=s.step hh H;have D:∀ f:Tr,f=(i9 l).H r ((i9 l).at b)->∀ z u m k,N [some (.sh (.tup [.int a,.list (l.map yk)])),some (.sh (.list (P.map .str))),some (.ow true (.dT Y)),some (.ow true (.list ((t.map λx=>mE a ((i9 l).at b x)).reverse++[mE a f]))),z,u,m,k]:=λf hf z u m k=>hN _ ⟨_,_,z,u,m,k,en,by rw[I_ (i9 l) (mE a) I Z e,hf]⟩;rcases fH Z e with⟨w,d,x,rfl,L,rfl,rfl⟩|⟨x,rfl,rfl,rfl⟩|⟨w,v,rfl,E,rfl,rfl⟩|⟨w,v,x,y,rfl,E,rfl,rfl⟩
  ·obtain⟨A,V,n3⟩:=cy' L;have C:¬ (w = "yes"\/w = "no"):=by rcases L with rfl|rfl<;>decide +kernel
   rw[show DH (.st w d)=.tup [.str w,.str d] from rfl,eR,pS];walk_at "q";rw[J];refine qu rfl C ?_;unfold a_ cL;walk_at "q";refine R.F (decide_eq_false A) ?_;walk_at "q";refine⟨rfl,rfl,?_⟩;rw[cW];refine R.T (decide_eq_true L) ?_;rw[gi] at S;walk_at "q";have j:((t.map λx=>mE a ((i9 l).at b x)).reverse).length<16777216:=by rw[vE,cx];lia
   refine⟨by lia,by lia,lu (λp M g c q=>?_) ⟨j,D _ rfl _ _ _ _⟩⟩;walk_at "q";exact⟨w,d,p,a,l,Y,_,rfl,L,hk,U,q⟩
  ·have A:¬ (("not" : Str) = "yes"\/("not" : Str) = "no"):=by decide +kernel
   rw[show DH (.ot "not")=.tup [.str "not",.str ""] from rfl,eR,pS];walk_at "q";rw[J];refine qu rfl A ?_;obtain⟨w2,e2⟩:∃ w,w=cL:=⟨_,rfl⟩
   unfold a_;rw[<- e2];rw[gi] at S;walk_at "q";have j:((t.map λx=>mE a ((i9 l).at b x)).reverse).length<16777216:=by rw[vE,cx];lia
   refine⟨by lia,by lia,lu (λp M g c q=>?_) ⟨j,D _ rfl _ _ _ _⟩⟩;have ea:=kO g c ((i9 l).at b x);unfold mE;walk_at "q";exact Exists.intro _ (And.intro ea q)
  ·have B:w = "yes"\/w = "no" := E.imp And.left And.left;rw[show DH (.ot w)=.tup [.str w,.str ""] from rfl];walk_at "q";rw[J];obtain⟨w1,e1⟩:∃ w,w=a_:=⟨_,rfl⟩
   unfold bU;rw[<- e1];walk_at "q";refine⟨rfl,rfl,?_⟩;rw[cW];refine R.T (decide_eq_true B) ?_;walk_at "q";have j:((t.map λx=>mE a ((i9 l).at b x)).reverse).length<16777216:=by rw[vE,cx];lia
   refine⟨by lia,by lia,lu (λp M g c q=>?_) ⟨j,D _ rfl _ _ _ _⟩⟩;have G:(i9 l).H (.jn v []) ((i9 l).at b) p=decide (w = "yes"):=by
    have n:("or" : Str) ≠ "and"/\("no" : Str) ≠ "yes" := by decide +kernel
    rcases E with⟨rfl,rfl⟩|⟨rfl,rfl⟩
    ·rw[decide_eq_true rfl];rfl
    ·rw[decide_eq_false n.2];show(if ("or" : Str) = "and" then true else false)=false;rw[if_neg n.1]
   rw[G] at q;walk_at "q";exact q
  ·have B:w = "both"\/w = "either" := E.imp And.left And.left;have A:¬ (w = "yes"\/w = "no")/\¬ (w = "some"\/w = "all")/\w ≠ "not" := by rcases B with rfl|rfl<;>decide +kernel
   rw[show DH (.ot w)=.tup [.str w,.str ""] from rfl,eR,eR,pS,pS];walk_at "q";rw[J];refine qu rfl A.1 ?_;unfold a_ cL;rw[gi,gi] at S;walk_at "q";refine R.F (decide_eq_false A.2.2) ?_;walk_at "q";refine⟨rfl,rfl,?_⟩;rw[cW];refine R.F (decide_eq_false A.2.1) ?_;walk_at "q";refine⟨_,_,rfl,rfl,?_⟩;walk_at "q";have j:((t.map λx=>mE a ((i9 l).at b x)).reverse).length<16777216:=by rw[vE,cx];lia
   have V:("either" : Str) ≠ "both"/\("or" : Str) ≠ "and" := by decide +kernel
   rcases E with⟨rfl,rfl⟩|⟨rfl,rfl⟩
   ·refine R.T (decide_eq_true rfl) ?_;walk_at "q";refine⟨by lia,by lia,lu (λp M g c q=>?_) ⟨j,D _ rfl _ _ _ _⟩⟩;have X:=kO g c ((i9 l).at b x);have W:=kO g c ((i9 l).at b y);have G:(i9 l).H (.jn "and" [x,y]) ((i9 l).at b) p=((i9 l).at b x p && (i9 l).at b y p):=by show(if ("and" : Str) = "and" then [x,y].all (λq=>(i9 l).at b q p) else [x,y].any (λq=>(i9 l).at b q p))=_;rw[if_pos rfl];simp
    rw[G] at q;unfold mE;walk_at "q";refine Exists.intro _ (And.intro X ?_)
    cases F:(i9 l).at b x p with
    |false=>rw[F] at q;walk_at "q";exact q
    |true=>rw[F] at q;walk_at "q";exact Exists.intro _ (And.intro W q)
   ·refine R.F (decide_eq_false V.1) ?_;walk_at "q";refine⟨by lia,by lia,lu (λp M g c q=>?_) ⟨j,D _ rfl _ _ _ _⟩⟩;have X:=kO g c ((i9 l).at b x);have W:=kO g c ((i9 l).at b y);have G:(i9 l).H (.jn "or" [x,y]) ((i9 l).at b) p=((i9 l).at b x p || (i9 l).at b y p):=by show(if ("or" : Str) = "and" then [x,y].all (λq=>(i9 l).at b q p) else [x,y].any (λq=>(i9 l).at b q p))=_;rw[if_neg V.2];simp
    rw[G] at q;unfold mE;walk_at "q";refine Exists.intro _ (And.intro X ?_)
    cases F:(i9 l).at b x p with
    |true=>rw[F] at q;walk_at "q";exact q
    |false=>rw[F] at q;walk_at "q";exact Exists.intro _ (And.intro W q)
 ·rintro O ⟨b,K,z,u,m,k,H,rfl⟩;rw[cx,xS,P2] at H;rw[s.run] at H;cases H;walk_at "q";exact⟨_,rfl,h⟩
def iY:WS :=
 (cf (eB (oI (nI (wB (dy (tq "tuple") (ag 0)))) (oI (wB (av AK (dy gX (ag 0)) (wC (.int 2)))) (nI (wB (dy (tq "str") (av bX (ag 0) (wC (.int 0))))))))
 (ft (wC (.bl false)))
 aW)
 (cf (eB (wB (av (y9 false) (av bX (ag 0) (wC (.int 0))) (kL (aq (wC (.str "and")) (aq (wC (.str "or")) cv)))))
 (ft (fJ (av fP (dy gX (ag 0)) (wC (.int 2))) (fJ (dy (tq "tuple") (av bX (ag 0) (wC (.int 1)))) (aU cu (aq (av bX (ag 0) (wC (.int 1))) (aq (ag 1) cv))))))
 aW)
 (cf (eB (wB (av fP (av bX (ag 0) (wC (.int 0))) (wC (.str "not"))))
 (ft (fJ (av fP (dy gX (ag 0)) (wC (.int 2))) (aU cu (aq (sA (ag 0) (dX (wC (.int 1))) bB) (aq (ag 1) cv)))))
 aW)
 (ft (fJ (av (y9 false) (av bX (ag 0) (wC (.int 0))) (kL (aq (wC (.str "some")) (aq (wC (.str "all")) cv)))) (fJ (av fP (dy gX (ag 0)) (wC (.int 3))) (fJ (dy (tq "str") (av bX (ag 0) (wC (.int 1)))) (aU cu (aq (sA (ag 0) (dX (wC (.int 2))) bB) (aq (ag 1) cv))))))))))
def gK:gv:=λa Q=>∃ (r:Rw) (k:Int),a=[dS r,.int k]/\tJ k r/\Q .sh (.bl true)
def ql:j3 2 gK iY:=by
 rintro t Q ⟨r,k,rfl,e,h⟩;unfold iY
 cases r with
 |st w d j =>obtain⟨b,s,m,l⟩:=e;obtain⟨i,g,f⟩:=cy' b;rw[show dS (.st w d j)=.tup [.str w,.str d,.int j] from rfl];walk_at "q";refine R.F rfl ?_;walk_at "q";refine R.F rfl ?_;walk_at "q";refine R.F rfl ?_;walk_at "q";rw[cW];refine⟨rfl,rfl,R.F (decide_eq_false λz=>z.elim g f) ?_⟩;walk_at "q";refine R.F (decide_eq_false i) ?_;walk_at "q";rw[cW,decide_eq_true b];refine⟨rfl,rfl,?_⟩;walk_at "q";refine R.T rfl ?_;walk_at "q";refine R.T rfl ?_;walk_at "q";refine⟨by decide,[j],k,rfl,λp a=>by rw[hV.mp a];exact⟨m,l⟩,?_⟩;walk_at "q";exact h
 |nt j =>rw[show dS (.nt j)=.tup [.str "not",.int j] from rfl];walk_at "q";refine R.F rfl ?_;walk_at "q";refine R.F rfl ?_;walk_at "q";refine R.F rfl ?_;walk_at "q";rw[cW];refine⟨rfl,rfl,R.F (by decide +kernel) ?_⟩;walk_at "q";refine R.T rfl ?_;walk_at "q";refine⟨by decide,[j],k,rfl,λp a=>by rw[hV.mp a];exact e,?_⟩;walk_at "q";exact h
 |jn w c =>obtain⟨b,n,a⟩:=e;rw[show dS (.jn w c)=.tup [.str w,.tup (c.map .int)] from rfl];walk_at "q";refine R.F rfl ?_;walk_at "q";refine R.F rfl ?_;walk_at "q";refine R.F rfl ?_;walk_at "q";rw[cW];refine⟨rfl,rfl,R.T (decide_eq_true b) ?_⟩;walk_at "q";refine R.T rfl ?_;walk_at "q";refine R.T rfl ?_;walk_at "q";refine⟨c,k,rfl,a,?_⟩;walk_at "q";exact h
def jc:WS :=
 (cf (eL 2 (aU gU (aq (ag 0) cv)))
 (cf (eL 3 (kC cv))
 (cf (rL 1 (qA (e_ (ag 1)) (gN 4)
 (mz (k5 3) (dD (dq (av bX (ag 0) (wC (.int 0)))) (gN 0) vt (aU ji (aq (ag 3) (aq (ag 0) (aq (ag 2) (aq (ag 1) cv))))) 1 [3,2,4]))))
 (sU 3 (dy zh (wC (.int 1)))))))
def dR:gv:=λc Q=>∃ (a:Int) (l:List iE) (b:List Rw),c=[mD a l,.list (b.map dS)]/\0<=a/\a<=20/\Lv a l/\l.length<=1000/\kc b/\1<=b.length/\b.length<=2000/\Q (.ow true) (mE a ((rV l b).getD (b.length-1) λ_=>false))
def qy:j3 5 dR jc:=by
 rintro M Q ⟨a,l,b,rfl,H,G,p,t,w,E,J,h⟩;unfold jc mD;walk_at "q";refine⟨a,l,rfl,t,λm v=>?_⟩;walk_at "q";refine bw _ (λi c=>∃ j:Option Sl,c=[some (.sh (.tup [.int a,.list (l.map yk)])),some (.sh (.list (b.map dS))),some (.ow true (.dT m)),some (.ow true (.list ((rV l (b.take i)).map (mE a)))),j]) ⟨_,rfl⟩ ?_ ?_
 ·rintro i x c f ⟨j,rfl⟩ N A;rw[ki] at f
  cases e:b[i]? with
  |none=>rw[e] at f;cases f
  |some r =>
   rw[e] at f;cases f;have z:=w i r e;have L:i<b.length:=(k7.mp e).1;walk_at "q";have g:((rV l (b.take i)).length:Int)=i:=by rw[qt,lI];lia
   refine⟨by lia,by lia,bV (λ_=>true) (λd=>match d with
    |.int s=>.bl (BM l (rV l (b.take i)) r s)
    |d=>d) (λc=>∃ o,c=[o,some (.sh (.list ((rV l (b.take i)).map (mE a)))),some (.sh (.dT m)),some (.sh (dS r))]) _ _ _ ⟨_,rfl⟩ ?_ ?_⟩
   ·rintro y u c ⟨o,rfl⟩ P O _ B;obtain⟨k,K,rfl⟩:=pD u;walk_at "q";refine⟨r,_,a,l,m,rV l (b.take i),rfl,v,p,by rw[g];exact z,⟨by lia,by lia⟩,?_⟩;walk_at "q";exact⟨.inl rfl,B _ ⟨_,rfl⟩ rfl⟩
   ·rw[fL]
    have F:(gD 0 a.toNat).map (λd=>match d with
     |.int s=>D.bl (BM l (rV l (b.take i)) r s)
     |d=>d)=(dG a.toNat).map λs=>.bl (BM l (rV l (b.take i)) r s):=by rw[oM,kM];rfl
    rw[F];have n:(rV l (b.take i)).map (mE a)++[D.list ((dG a.toNat).map λs=>.bl (BM l (rV l (b.take i)) r s))]=(rV l (b.take (i+1))).map (mE a):=by rw[yA,e,show(some r).toList=[r] from rfl,Ed,kS];rfl
    rw[n];exact⟨by lia,A _ ⟨_,rfl⟩⟩
 ·rintro c ⟨j,rfl⟩;rw[cx,xS];walk_at "q";refine⟨_,gz' (d:=λ_=>false) (mE a) (by rw[qt];exact E),?_⟩;rw[qt];exact h
def iU:WS :=
 (cf (Cp 1)
 (cf (qA (e_ (aU eG (aq (ag 0) cv))) (gT 2 (fM (gN 2) (fM (gN 3) uw)))
 (eB (wB (av (y9 false) (ag 2) (kL (aq (wC (.str "yes")) (aq (wC (.str "no")) cv)))))
 (Cv 1 (GO (wC (.int 0))))
 (eB (wB (av (y9 false) (ag 2) (kL (aq (wC (.str "some")) (aq (wC (.str "all")) cv)))))
 (Cv 1 (Tv ip (yX 1) (GO (wC (.int 1)))))
 (eB (wB (av BG (ag 2) (wC (.str "not"))))
 (Cv 1 (Tv J9 (yX 1) (yX 1)))
 aW))))
 (ft (av bX (xP 1) (dy zh (wC (.int 1)))))))
def gH:gv:=λd Q=>∃ (a:List Str) (c:List Hd) (b:List Rw) (x:Int),d=[.list (a.map .str)]/\E8 a c b x/\Q .sh (.int (xv.at b x))
def Fv(a:List Rw)(x:Int):0<=xv.at a x:=by unfold Sm.at;rw[wI];exact pH (zK a) _
def qG:j3 4 gH iU:=by
 rintro Y Q ⟨u,F,z,x,rfl,s,h⟩;unfold iU;walk_at "q";intro a;have V:=s.len;refine⟨u,F,rfl,by lia,s.hd,?_⟩;walk_at "q";refine bw _ (λi p=>∃ z l c b,vv (F.reverse.take i).reverse=some (z,l)/\p=[some (.sh (.list (u.map .str))),k6 a (l.map λx=>xv.at z x).reverse,c,b]) ⟨[],[],none,none,rfl,rfl⟩ ?_ ?_
 ·rintro i y p j ⟨g,l,c,b,k,rfl⟩ N L;rw[ki] at j;obtain⟨G,K,rfl⟩:=nV.mp j;obtain⟨E,I,D,r,t,e,M⟩:=s.step K k;have m:∀ d:Int,d=xv.H r (xv.at g)->∀ c b,N [some (.sh (.list (u.map .str))),k6 a ((t.map λx=>xv.at g x).reverse++[d]),c,b]:=λd G c b=>by refine L _ ⟨_,_,c,b,M,?_⟩;obtain⟨P,O⟩:=wA xv I E e;rw[eR,pS,P,<- G,A0 λx J=>O x J]
  rcases fH E e with⟨w,d,x,rfl,A,rfl,rfl⟩|⟨x,rfl,rfl,rfl⟩|⟨w,v,rfl,B,rfl,rfl⟩|⟨w,v,x,y,rfl,B,rfl,rfl⟩
  ·obtain⟨f,X,W⟩:=cy' A;have H:¬ (w = "yes"\/w = "no"):=by rcases A with rfl|rfl<;>decide +kernel
   rw[show DH (.st w d)=.tup [.str w,.str d] from rfl,eR,pS];walk_at "q";refine⟨rfl,rfl,?_⟩;rw[cW];refine R.F (decide_eq_false H) ?_;walk_at "q";refine⟨rfl,rfl,?_⟩;rw[cW];refine R.T (decide_eq_true A) ?_;rw[gi] at D;refine⟨⟨a,_,rfl⟩,a,_,_,rfl,rfl,rfl,a,_,_,rfl,?_,rfl,m _ rfl _ _⟩;rw[vE,cx];exact vW (by lia)
  ·have n:=uE;have f:¬ (("not" : Str) = "yes"\/("not" : Str) = "no")/\¬ (("not" : Str) = "some"\/("not" : Str) = "all"):=by decide +kernel
   rw[show DH (.ot "not")=.tup [.str "not",.str ""] from rfl,eR,pS];walk_at "q";refine⟨rfl,rfl,?_⟩;rw[cW];refine R.F (decide_eq_false f.1) ?_;walk_at "q";refine⟨rfl,rfl,?_⟩;rw[cW];refine R.F (decide_eq_false f.2) ?_;walk_at "q";exact m _ rfl _ _
  ·have j:w = "yes"\/w = "no" := B.imp And.left And.left;rw[show DH (.ot w)=.tup [.str w,.str ""] from rfl];walk_at "q";refine⟨rfl,rfl,?_⟩;rw[cW];refine R.T (decide_eq_true j) ?_;refine⟨⟨a,_,rfl⟩,rfl,a,_,_,rfl,?_,rfl,m _ rfl _ _⟩;rw[vE,cx];exact vW (by lia)
  ·have j:w = "both"\/w = "either" := B.imp And.left And.left;have f:¬ (w = "yes"\/w = "no")/\¬ (w = "some"\/w = "all")/\w ≠ "not" := by rcases j with rfl|rfl<;>decide +kernel
   rw[show DH (.ot w)=.tup [.str w,.str ""] from rfl,eR,eR,pS,pS];walk_at "q";refine⟨rfl,rfl,?_⟩;rw[cW];refine R.F (decide_eq_false f.1) ?_;walk_at "q";refine⟨rfl,rfl,?_⟩;rw[cW];refine R.F (decide_eq_false f.2.1) ?_;walk_at "q";refine R.T (by simpa using f.2.2) ?_;rw[gi,gi] at D;have T:=Fv g x;have S:=Fv g y;refine⟨⟨a,_,rfl⟩,a,_,_,rfl,a,_,_,rfl,rfl,a,_,_,rfl,?_,rfl,m _ ?_ _ _⟩
   ·rw[vE,cx];exact vW (by lia)
   ·show _=BO [xv.at g x,xv.at g y];simp only[BO,zC,VF];split<;>split<;>(try split)<;>lia
 ·rintro p ⟨g,l,c,b,k,rfl⟩;rw[cx,xS,P2] at k;rw[s.run] at k;cases k;walk_at "q";exact⟨a,_,rfl,_,rfl,h⟩
def cJ:WS :=
 (cf (eB (wB (av fP (av mw (ag 2) (wC (.int 8))) (wC (.int 3))))
 (cf (eL 4 (av mw (av AJ (ag 2) (wC (.int 8))) (wC (.int 3))))
 (cf (wM (wB (av AK (dy gX (ag 3)) (wC (.int 199))))
 (eB (wB (av fP (ag 4) (wC (.int 0))))
 (eL 3 (av ip (kC (aq (wC (.str "not")) cv)) (ag 3)))
 (eL 3 (av ip (kC (aq (av bX (kC (aq (wC (.str "some")) (aq (wC (.str "all")) cv))) (av UW (ag 4) (wC (.int 1)))) (aq (av bX (ag 1) (av mw (dy gX (ag 3)) (dy gX (ag 1)))) cv))) (ag 3)))))
 (eB (wB (av AK (dy gX (ag 3)) (wC (.int 200))))
 (eL 3 (av ip (kC (aq (wC (.str "not")) cv)) (ag 3)))
 aW)))
 aW)
 (gW 3))
def j5:WS :=
 (cf (eL 2 (aU bf (aq (ag 0) (aq (wC (.int 4)) cv))))
 (cf (eL 3 (aU gY (aq (sA (ag 0) (dX (wC (.int 6))) (dX (wC (.int 41)))) (aq (aU bf (aq (ag 0) (aq (wC (.int 3)) cv))) (aq (ag 1) cv)))))
 cJ))
def iu:gv:=λd Q=>∃ (c:List Int) (a:List Str),d=[.list (c.map .int),.list (a.map .str)]/\1<=a.length/\a.length<=100/\(∀ n∈a,pf n)/\∀ b:List Str,iO 1 b=true->b.length<=200->(∀ w∈b,mI w)->Q (.ow true) (.list (b.map .str))
def slL(a:L2.Q.Env):Nat:=match a.getD 3 none with
 |some (.ow _ (.list l))=>l.length
 |_=>0
def IV{Q:Md->D->Prop}{x:D}{f j:List Str}{g:Int}(F:1<=f.length)(G:∀ n∈f,pf n)(s:iO 1 j=true)(N:j.length<=112)(A:∀ w∈j,mI w)(h:∀ j:List Str,iO 1 j=true->j.length<=200->(∀ w∈j,mI w)->Q (.ow true) (.list (j.map .str))) :
  cJ { nx:=λ_=>Q .sh .non,rt:=Q } [some (.sh x),some (.sh (.list (f.map .str))),some (.sh (.int g)),some (.ow true (.list (j.map .str))),none]:=by
 unfold cJ;walk_at "q";refine R.D (λe=>?_) λe=>?_;rotate_left
 ·walk_at "q";exact h j s (by lia) A
 have m:∀ c:List Str,iO 1 c=true->(∀ w∈c,mI w)->iO 1 ("not" :: c)=true/\∀ w∈("not" : Str) :: c,mI w:=λc a b=>⟨by rw[ig uE.1,uE.2];exact a,λw s=>(dQ.mp s).elim (λz=>by rw[z];unfold mI;decide +kernel) (b w)⟩
 have M:=x6 (g / 8) (show 3≠0 by decide);have L:=x5 (g / 8) (show 0<3 by decide);walk_at "q";generalize g / 8 % 3=k at *
 refine⟨λp=>∃ c:List Str,p=[some (.sh x),some (.sh (.list (f.map .str))),some (.sh (.int g)),some (.ow true (.list (c.map .str))),some (.sh (.int k))]/\iO 1 c=true/\c.length<=200/\∀ w∈c,mI w,λp=>300-slL p,⟨j,rfl,s,by lia,A⟩,?_⟩;rintro p ⟨c,rfl,r,E,t⟩;walk_at "q";by_cases O:c.length<199;rotate_left
 ·rw[if_neg (by simp;lia)];refine R.D (λu=>?_) λu=>?_
  ·obtain⟨a,b⟩:=m c r t;walk_at "q";exact⟨by lia,.inl ⟨aY c,h _ a (by rw[gi];lia) b⟩⟩
  ·walk_at "q";exact h c r E t
 rw[if_pos (decide_eq_true (by lia))];refine R.D (λu=>?_) λu=>?_
 ·obtain⟨a,b⟩:=m c r t;walk_at "q";refine⟨by lia,.inl ⟨aY c,⟨_,rfl,a,by rw[gi];lia,b⟩,?_⟩⟩;show 300-(D.str "not" :: c.map D.str).length<300-(c.map D.str).length;rw[gi,cx];lia
 ·obtain⟨w,H,B⟩:=rN "some" "all" (i:=k-1) (by lia) (by lia);obtain⟨d,K,J⟩:=name_mod c.length F;have y:=G d K;walk_at "q";refine⟨_,H,?_⟩;walk_at "q";refine⟨by lia,_,J,?_⟩;walk_at "q";refine⟨by lia,.inl ⟨aY c,⟨w :: d :: c,rfl,?_,by rw[gi,gi];lia,λv l=>?_⟩,?_⟩⟩
  ·show(if md w then fX d && iO 1 c else _)=true;rw[if_pos B,cD.mpr y,r];rfl
  ·rcases dQ.mp l with rfl|l
   ·unfold mI;rcases B with rfl|rfl<;>decide +kernel
   rcases dQ.mp l with rfl|l
   ·exact tM y
   ·exact t v l
  ·show 300-(D.str w :: D.str d :: c.map D.str).length<300-(c.map D.str).length;rw[gi,gi,cx];lia
def Aj(l:List Int)(a b:Option Int):i6 (l.map D.int) a b=(i6 l a b).map D.int:=by unfold i6;rw[cx,List.map_take,List.map_drop]
def Pq{d:Type}(c:List d)(a b:Nat):(i6 c (some (a:Int)) (some ((a+b:Nat):Int))).length<=b:=by
 unfold i6;rw[lI];have:HT.dk c.length c.length (some ((a+b:Nat):Int))-HT.dk c.length 0 (some a)<=b:=by simp only[HT.dk];rw[if_neg (by lia),if_neg (by lia)];lia
 lia
def qY:j3 5 iu j5:=by
 rintro v Q ⟨a,b,rfl,e,j,f,h⟩;obtain⟨t,g⟩:∃ w,w=cJ:=⟨_,rfl⟩
 unfold j5;rw[<- g];walk_at "q";refine⟨a,4,rfl,by decide,?_⟩;generalize a.getD _ 0=d;walk_at "q";refine .inl ⟨dB a,a,3,rfl,by decide,?_⟩;generalize a.getD _ 0=n;walk_at "q";rw[Aj];have m:=Pq a 6 35;rw[show((6:Nat):Int)=6 from rfl,show((6+35:Nat):Int)=41 from rfl] at m;generalize i6 a (some 6) (some 41)=l at *
 refine⟨l,n,b,rfl,by lia,e,j,f,λi y u k s p=>?_⟩;have c:(i++[y]).length<=112:=by simp;lia
 generalize i++[y]=r at *
 walk_at "q";rw[g];exact IV e f k c p h
def mF:WS :=
 (cf (eB (oI (nI (wB (dy (tq "tuple") (ag 1)))) (wB (av Kb (dy gX (ag 1)) (wC (.int 200)))))
 (ft (wC (.bl false)))
 aW)
 (ft (dy U9 (dD (rF (ag 1)) (gN 0) vt (aU eN (aq (ag 1) (aq (ag 0) cv))) 1 [0]))))
def jX:gv:=λb Q=>∃ (k:Int) (a:List Int),b=[.int k,.tup (a.map .int)]/\a.length<=200/\Q .sh (.bl (a.all λp=>decide (0<=p/\p<k)))
def ud:j3 2 jX mF:=by
 rintro i Q ⟨k,b,rfl,g,h⟩;unfold mF;walk_at "q";refine R.F rfl ?_;walk_at "q";refine R.F (decide_eq_false (by lia)) ?_;walk_at "q"
 refine bV (λ_=>true) (λd=>match d with
  |.int p=>.bl (decide (0<=p/\p<k))
  |d=>d) (λa=>∃ o,a=[o,some (.sh (.int k))]) _ _ _ ⟨_,rfl⟩ ?_ ?_
 ·rintro y c a ⟨o,rfl⟩ l j _ e;obtain⟨p,f,rfl⟩:=fq.mp c;walk_at "q";exact⟨_,_,rfl,.inl rfl,e _ ⟨_,rfl⟩ rfl⟩
 ·rw[fL];refine⟨b.map λp=>decide (0<=p/\p<k),by rw[kM,kM];rfl,?_⟩;rw[LS];exact h
def tH:WS :=
 (cf (eB (nI (wB (aU ju (aq (ag 0) cv))))
 fC
 aW)
 (gW 0))
def j6:gv:=λa Q=>∃ x:Str,a=[.str x]/\fX x=true/\Q .sh (.str x)
def uF:j3 1 j6 tH:=by rintro a Q ⟨x,rfl,e,h⟩;walk_at "q";refine⟨_,rfl,?_⟩;rw[e];walk_at "q";exact h
def eY:WS :=
 (cf (eB (oI (nI (wB (dy (tq "list") (ag 0)))) (nI (wB (jf CD CD (wC (.int 1)) (dy gX (ag 0)) (ag 1)))))
 (ft (wC (.bl false)))
 aW)
 (cf (qA (dq (dy gX (ag 0))) (gN 2)
 (eB (nI (wB (aU gK (aq (av bX (ag 0) (ag 2)) (aq (ag 2) cv)))))
 (ft (wC (.bl false)))
 aW))
 (ft (wC (.bl true)))))
def cF:gv:=λa Q=>∃ (l:List Rw) (k:Int),a=[.list (l.map dS),.int k]/\kc l/\1<=l.length/\(l.length:Int)<=k/\l.length<=2000/\Q .sh (.bl true)
def rw_at{l:List Rw}{i:Int}(b:0<=i)(c:i<l.length):∃ r,l[i.toNat]? = some r/\fT (l.map dS) i=some (dS r):=by
 have a:i.toNat<l.length:=by lia
 refine⟨l[i.toNat],by simp[a],?_⟩;have:=qo (xs:=l.map dS) (j:=i.toNat) (v:=dS l[i.toNat]) (by simp[a]);rwa[oq b] at this
def rw_tup(r:Rw):∃ a,dS r=.tup a/\eh a=true:=by
 cases r with
 |st w d j=>exact⟨_,rfl,rfl⟩
 |nt j=>exact⟨_,rfl,rfl⟩
 |jn w b=>exact⟨_,rfl,by simp[eh,D.flat,dB]⟩
def j7:j3 3 cF eY:=by
 rintro u Q ⟨l,k,rfl,e,t,g,s,h⟩;unfold eY;walk_at "q";refine R.F rfl ?_;walk_at "q";refine R.T (decide_eq_true (by lia)) ?_;walk_at "q";refine R.F (by rw[decide_eq_true g];rfl) ?_;walk_at "q";refine⟨by lia,by lia,?_⟩;refine bw _ (λi a=>∃ o,a=[some (.sh (.list (l.map dS))),some (.sh (.int k)),o]) ⟨_,rfl⟩ ?_ ?_
 ·rintro i x a j ⟨o,rfl⟩ N m;obtain⟨b,rfl⟩:=gQ j;have b:i<l.length:=by simpa using b
  obtain⟨r,d,n⟩:=rw_at (l:=l) (i:=0+(i:Int)) (by lia) (by lia);have f:=e i r (by rw[show(0+(i:Int)).toNat=i by lia] at d;exact d);obtain⟨p,c,_⟩:=rw_tup r;walk_at "q";refine⟨_,n,?_⟩;rw[c];walk_at "q";refine⟨r,0+(i:Int),by rw[c],by rw[Int.zero_add];exact f,?_⟩;walk_at "q";exact m _ ⟨_,rfl⟩
 ·rintro a ⟨o,rfl⟩;walk_at "q";exact h
def d_(a:E1):WS :=
 (cf (eL 2 (wD1 (ag 1) (wC (.bl true))))
 (cf (qA (Fo (ag 1) (dy zh (wC (.int 1))) (dy zh (wC (.int 1)))) (gN 3)
 (eB (wB (av (y9 false) (ag 3) (ag 2)))
 (qA (e_ (aU pG (aq (yE a 0 (ag 3)) cv))) (gN 4)
 (Eg (k5 2) (ag 4) (wC (.bl true))))
 aW))
 (ft (dy yP (ag 2)))))
def dF:List (List RI)->gv:=λb c Q=>∃ (l:List Rw) (a:Nat),b=l.map fR/\kc l/\c=[.int a]/\a<l.length/\l.length<=10000/\Q (.ow true) (.list ((bx l a).map .int))
def Jj(a:Nat):ZD (a:Int) (-1) (AV (a:Int) (-1) (-1))=(fZ a).map D.int:=by
 have e:AV a (-1) (-1)=a+1:=by unfold AV Builtin.Range.rangeSize;rw[if_neg (by decide),if_pos (by lia),show -(-1:Int)=1 from rfl];lia
 rw[e];unfold ZD fZ;rw[kM];refine A0 λi _=>?_;simp only[Function.comp];congr 1;lia
def xA(W:List Int):List (Key × D):=W.map λj=>(.inl j,.bl true)
def NQ(W:List Int)(k:Int):(gL (xA W) (.inl k:Key)).isSome=decide (k∈W):=by
 unfold gL xA
 induction W with
 |nil=>rfl
 |cons x W a =>
  rw[eR,D1];by_cases z:x=k
  ·subst z;simp
  ·have:decide ((Sum.inl x:Key)=Sum.inl k)=false:=by simpa using z
   rw[this];rw[show(decide (k∈x :: W))=decide (k∈W) from by simp[Ne.symm z]];exact a
def Ob(W:List Int)(j:Int):vk (xA W) (.inl j:Key) (.bl true)=xA (AW W j):=by
 unfold vk AW;have e:((xA W).any λa=>decide (a.1=(.inl j:Key)))=decide (j∈W):=by rw[zD];simp[xA]
 rw[e];by_cases h:j∈W
 ·rw[if_pos (decide_eq_true h),if_pos h];unfold xA;rw[kM];refine A0 λx _=>?_;simp only[Function.comp];split<;>rfl
 ·rw[if_neg (by simpa using h),if_neg h];simp[xA]
def K4{l:List Rw}{last:Nat}(g:kc l){Q:Md->D->Prop}(h:Q (.ow true) (.list ((bx l last).map .int))):yP .bo (.dK (xA (xV l last))) Q:=by
 have I:=iC (last:=last) g;refine⟨true,λp n=>?_,λi c m=>?_⟩
 ·obtain⟨j,_,rfl⟩:=fq.mp n;rfl
 ·have u:(xA (xV l last)).map (·.1)=(xV l last).map λx=>(Sum.inl x:Key):=by simp[xA,Function.comp_def]
  rw[u] at c;have f:∀ k∈i,∃ x,k=(Sum.inl x:Key):=λk f=>by obtain⟨x,_,e⟩:=fq.mp (c.mem_iff.mp f);exact⟨x,e.symm⟩
  have d:i=(bx l last).map λx=>(Sum.inl x:Key):=by
   refine List.Perm.eq_of_pairwise (λa b r q t s=>?_) m ?_ (c.trans ?_)
   ·obtain⟨x,rfl⟩:=f a r;obtain⟨y,v,rfl⟩:=fq.mp q;simp only[vj,decide_eq_false_iff_not] at t s;congr 1;lia
   ·refine A2.mpr (jx.imp λh=>?_);simp only[vj,decide_eq_false_iff_not];lia
   ·refine List.Perm.map _ ((List.perm_ext_iff_of_nodup I.nd ?_).mpr λx=>(ir g).symm);exact jx.imp λh=>by lia
  rw[d,kM];exact h
def Av{l:List Rw}{k:Nat}{r:Rw}(h:l[k]? = some r):(l.map fR)[k]? = some (fR r):=by rw[ki,h];rfl
def Em{last i:Nat}{x:D}(h:((fZ last).map D.int)[i]? = some x):i<=last/\x=.int ((last:Int)-i)/\(fZ last).take (i+1)=(fZ last).take i++[(last:Int)-i]:=by
 rw[ki] at h;have a:i<last+1:=by
  by_cases z:i<last+1
  ·exact z
  ·rw[DU (by simp[fZ];lia)] at h;cases h
 have e:(fZ last)[i]? = some ((last:Int)-i):=by unfold fZ;rw[ki,TX a];rfl
 rw[e] at h;cases h;exact⟨by lia,rfl,by rw[yA,e];rfl⟩
def jy(m:E1):∀ a t y Q,dF t y Q->d_ m { nx:=λ_=>Q .sh .non,rt:=Q } (jd 5 a (m false t) y):=by
 rintro a t y Q ⟨l,last,rfl,s,rfl,L,K,h⟩;unfold d_ jd;walk_at "q";refine And.intro (.inl rfl) (And.intro ⟨by lia,by lia,by lia,by lia⟩ (And.intro ?_ ?_))
 ·have:AV last (-1) (-1)=last+1:=by unfold AV Builtin.Range.rangeSize;rw[if_neg (by decide),if_pos (by lia),show -(-1:Int)=1 from rfl];lia
  exact kD (T7 this) (by lia)
 ·show jD _ _ _ (ZD last (-1) (AV last (-1) (-1))) _;rw[Jj];refine bw _ (λi d=>∃ f b,d=[some (.ob a (m false (l.map fR))),some (.sh (.int last)),some (.ow true (.dK (xA (((fZ last).take i).foldl (mZ l) [last])))),f,b]) ⟨_,_,rfl⟩ ?_ ?_
  ·rintro i x d c ⟨f,b,rfl⟩ N E;obtain⟨O,rfl,F⟩:=Em c;have I:=lD (last:=last) s i (by lia);have nx:∀ f b,N [some (.ob a (m false (l.map fR))),some (.sh (.int last)),some (.ow true (.dK (xA (mZ l (((fZ last).take i).foldl (mZ l) [last]) (last-i))))),f,b]:=λf b=>E _ ⟨f,b,by rw[F,P4];rfl⟩;generalize ((fZ last).take i).foldl (mZ l) [last]=W at *
   generalize M:(last:Int)-i=k at *
   walk_at "q"
   have g:mZ l W k=if k∈W then (match l[k.toNat]? with
    |some r=>(qf r).foldl AW W
    |none=>W) else W:=rfl
   rw[NQ];refine R.D (λp=>?_) λp=>?_
   ·obtain⟨A,J⟩:=I.bd k p;have H:k.toNat<l.length:=by lia
    obtain⟨r,v⟩:∃ r,l[k.toNat]? = some r:=⟨_,rh H⟩
    rw[if_pos p,v] at g;have u:=s _ _ v;rw[oq A] at u;walk_at "q";refine⟨a,false,l.map fR,rfl,k.toNat,fR r,by rw[oq A],Av v,?_⟩;rw[Ec];refine⟨r,k,rfl,u,?_⟩;walk_at "q";have G:=dO u;refine bw _ (λi d=>∃ b,d=[some (.ob a (m false (l.map fR))),some (.sh (.int last)),some (.ow true (.dK (xA (((qf r).take i).foldl AW W)))),some (.sh (.int k)),b]) ⟨_,rfl⟩ ?_ ?_
    ·rintro i x d c ⟨b,rfl⟩ P w;rw[ki] at c
     cases e:(qf r)[i]? with
     |none=>rw[e] at c;cases c
     |some j =>
      rw[e] at c;cases c;have B:(qf r).take (i+1)=(qf r).take i++[j]:=by rw[yA,e];rfl
      have D:(xA (((qf r).take i).foldl AW W)).length<=10001:=by
       unfold xA;rw[cx];refine kD (Bp (uB _ _ I.nd) (n:=last+1) λx c=>?_) (by lia);rcases (eV _ _).mp c with z|z
       ·have:=I.bd x z;lia
       ·have:=G x (P1 z);lia
      walk_at "q";refine⟨by lia,?_⟩;rw[Ob];exact w _ ⟨_,by rw[B,P4];rfl⟩
    ·rintro d ⟨b,rfl⟩;rw[cx,xS];have g:mZ l W k=(qf r).foldl AW W:=g;rw[<- g];exact nx _ _
   ·rw[if_neg p] at g;rw[g] at nx;walk_at "q";exact nx _ _
  ·rintro d ⟨f,b,rfl⟩;rw[cx,xS];walk_at "q";exact K4 s h
def vo:WS :=
 (cf (eB (oI (nI (wB (dy (tq "tuple") (ag 1)))) (oI (wB (av fP (dy gX (ag 1)) (wC (.int 0)))) (nI (wB (dy (tq "str") (av bX (ag 1) (wC (.int 0))))))))
 (ft (wC (.bl false)))
 aW)
 (cf (eB (oI (wB (av fP (av bX (ag 1) (wC (.int 0))) (wC (.str "some")))) (wB (av fP (av bX (ag 1) (wC (.int 0))) (wC (.str "all")))))
 (ft (fJ (av fP (dy gX (ag 1)) (wC (.int 3))) (fJ (aU ju (aq (av bX (ag 1) (wC (.int 1))) cv)) (aU eN (aq (ag 0) (aq (av bX (ag 1) (wC (.int 2))) cv))))))
 aW)
 (cf (eB (wB (av fP (av bX (ag 1) (wC (.int 0))) (wC (.str "not"))))
 (ft (fJ (av fP (dy gX (ag 1)) (wC (.int 2))) (aU eN (aq (ag 0) (aq (av bX (ag 1) (wC (.int 1))) cv)))))
 aW)
 (cf (eB (oI (wB (av fP (av bX (ag 1) (wC (.int 0))) (wC (.str "and")))) (wB (av fP (av bX (ag 1) (wC (.int 0))) (wC (.str "or")))))
 (ft (fJ (av fP (dy gX (ag 1)) (wC (.int 2))) (aU jX (aq (ag 0) (aq (av bX (ag 1) (wC (.int 1))) cv)))))
 aW)
 (ft (wC (.bl false)))))))
def sW:gv:=λa Q=>∃ (k:Int) (r:Rw),a=[.int k,dS r]/\tJ k r/\Q .sh (.bl true)
def Dq:j3 2 sW vo:=by
 rintro s Q ⟨k,r,rfl,g,h⟩;unfold vo
 cases r with
 |st w d j =>
  obtain⟨a,l,c,b⟩:=g;rw[show dS (.st w d j)=.tup [.str w,.str d,.int j] from rfl];walk_at "q";refine R.F rfl ?_;walk_at "q";refine R.F rfl ?_;walk_at "q";refine R.F rfl ?_;walk_at "q";refine R.D (λe=>?_) λe=>?_
  ·walk_at "q";refine R.T rfl ?_;walk_at "q";refine⟨_,rfl,?_⟩;walk_at "q";refine R.T (cD.mpr l) ?_;walk_at "q";refine⟨_,_,rfl,?_⟩;rw[decide_eq_true ⟨c,b⟩];exact h
  ·walk_at "q";refine R.T (decide_eq_true (a.resolve_left e)) ?_;walk_at "q";refine R.T rfl ?_;walk_at "q";refine⟨_,rfl,?_⟩;walk_at "q";refine R.T (cD.mpr l) ?_;walk_at "q";refine⟨_,_,rfl,?_⟩;rw[decide_eq_true ⟨c,b⟩];exact h
 |nt j =>obtain⟨c,b⟩:=g;rw[show dS (.nt j)=.tup [.str "not",.int j] from rfl];walk_at "q";refine R.F rfl ?_;walk_at "q";refine R.F rfl ?_;walk_at "q";refine R.F rfl ?_;walk_at "q";refine R.F (decide_eq_false E5.1) ?_;walk_at "q";refine R.F (decide_eq_false E5.2) ?_;walk_at "q";refine R.T rfl ?_;walk_at "q";refine⟨_,_,rfl,?_⟩;rw[decide_eq_true ⟨c,b⟩];exact h
 |jn w f =>
  obtain⟨a,i,n⟩:=g;rw[show dS (.jn w f)=.tup [.str w,.tup (f.map .int)] from rfl];walk_at "q";refine R.F rfl ?_;walk_at "q";refine R.F rfl ?_;walk_at "q";refine R.F rfl ?_;walk_at "q";refine R.F (decide_eq_false (zi a).1) ?_;walk_at "q";refine R.F (decide_eq_false (zi a).2.1) ?_;walk_at "q";refine R.F (decide_eq_false (zi a).2.2) ?_;walk_at "q";have m:(f.all λp=>decide (0<=p/\p<k))=true:=xI.mpr λp h=>decide_eq_true (n p h);refine R.D (λe=>?_) λe=>?_
  ·walk_at "q";refine R.T rfl ?_;walk_at "q";refine⟨_,_,rfl,i,?_⟩;rw[m];exact h
  ·walk_at "q";refine R.T (decide_eq_true (a.resolve_left e)) ?_;walk_at "q";refine R.T rfl ?_;walk_at "q";refine⟨_,_,rfl,i,?_⟩;rw[m];exact h
def cZ:WS :=
 (cf (eB (wB (av fP (av ip (ag 2) (wC (.int 1))) (dy gX (ag 0))))
 fC
 aW)
 (cf (mz (k5 1) (kL (aq (av bX (ag 0) (ag 2)) (aq (aU j6 (aq (av bX (ag 0) (av ip (ag 2) (wC (.int 1)))) cv)) cv))))
 (eL 2 (av ip (ag 2) (wC (.int 2))))))
def oX:WS :=
 (cf (eL 1 (kC cv))
 (cf (eL 2 (wC (.int 0)))
 (cf (wM (wB (av AK (ag 2) (dy gX (ag 0))))
 (eB (oI (wB (av fP (av bX (ag 0) (ag 2)) (wC (.str "some")))) (wB (av fP (av bX (ag 0) (ag 2)) (wC (.str "all")))))
 cZ
 (cf (mz (k5 1) (kL (aq (av bX (ag 0) (ag 2)) cv)))
 (eL 2 (av ip (ag 2) (wC (.int 1)))))))
 (gW 1))))
def lV:gv:=λc Q=>∃ (a:List Str) (b:List Hd),c=[.list (a.map .str)]/\a.length<=10000/\mh a=some b/\Q (.ow true) (.list (b.map An))
def xq:j3 3 lV oX:=by
 rintro X Q ⟨c,s,rfl,V,L,h⟩;obtain⟨P,x⟩:∃ w,w=cZ:=⟨_,rfl⟩
 unfold oX;rw[<- x];walk_at "q";refine⟨λl=>∃ (k:Nat) (t e:List Hd),l=[some (.sh (.list (c.map .str))),some (.ow true (.list (t.map An))),some (.sh (.int k))]/\k<=c.length/\t.length<=k/\mh (c.drop k)=some e/\t++e=s,λl=>c.length-slK l,⟨0,[],s,rfl,gy _,cE _,L,rfl⟩,?_⟩;rintro l ⟨k,t,e,rfl,W,S,f,m⟩;walk_at "q";by_cases B:k<c.length;rotate_left
 ·have:k=c.length:=by lia
  subst this;rw[P5] at f;cases f;rw[ng] at m;subst m;rw[if_neg (by simp)];exact h
 rw[if_pos (decide_eq_true (by lia))];have N:=B3 B;have n:=qo (xs:=c.map D.str) (j:=k) (v:=.str c[k]) (by simp[B]);rw[N] at f;generalize c[k]=w at *
 refine⟨_,n,?_⟩;have A:md w->∀ E:gC,(∀ i,(∃ (k:Nat) (t e:List Hd),i=[some (.sh (.list (c.map .str))),some (.ow true (.list (t.map An))),some (.sh (.int k))]/\k<=c.length/\t.length<=k/\mh (c.drop k)=some e/\t++e=s)->c.length-slK i<c.length-k->E.nx i)->cZ E [some (.sh (.list (c.map .str))),some (.ow true (.list (t.map An))),some (.sh (.int k))]:=λK E M=>by
  obtain⟨d,T,r,F,O,g,rfl⟩:=Ge K f;have y:k+1<c.length:=by have:=congrArg List.length F;rw[DV,gi] at this;lia
  have H:=qo (xs:=c.map D.str) (j:=k+1) (v:=.str c[k+1]) (by simp[y]);have G:=B3 y;rw[F] at G;obtain⟨J,p⟩:=List.cons.inj G;rw[<- J] at H;unfold cZ;walk_at "q";refine R.F (decide_eq_false (by lia)) ?_;walk_at "q";refine⟨_,n,?_⟩;walk_at "q";refine⟨_,H,?_⟩;walk_at "q";refine⟨d,rfl,O,?_⟩;walk_at "q";refine⟨by lia,M _ ⟨k+2,t++[.st w d],r,?_,by lia,by simp;lia,by rw[<- g,p],by rw[<- m];simp⟩ ?_⟩
  ·rw[kS];rfl
  ·show c.length-(((k:Int)+2).toNat)<_;lia
 walk_at "q";refine R.D (λu=>?_) λu=>?_
 ·rw[x];exact A (.inl u) _ λi a b=>⟨a,b⟩
 ·walk_at "q";refine⟨_,n,?_⟩;walk_at "q";refine R.D (λg=>?_) λg=>?_
  ·rw[x];exact A (.inr g) _ λi a b=>⟨a,b⟩
  ·obtain⟨r,p,rfl⟩:=Fg (λz=>z.elim u g) f;walk_at "q";refine⟨_,n,?_⟩;walk_at "q";refine⟨by lia,⟨k+1,t++[.ot w],r,?_,by lia,by simp;lia,p,by rw[<- m];simp⟩,?_⟩
   ·rw[kS];rfl
   ·show c.length-(((k:Int)+1).toNat)<c.length-k;lia
def d9(a:E1):WS :=
 (cf (eL 2 yJ)
 (cf (eL 3 (kC cv))
 (cf (qA (e_ (ym a 0 dF (aq (ag 1) cv))) (gN 4)
 (cf (Eg (k5 2) (ag 4) (dy gX (ag 3)))
 (mz (k5 3) (aU iM (aq (yE a 0 (ag 4)) (aq (ag 2) cv))))))
 (gW 3))))
def dJ:List (List RI)->gv:=λb c Q=>∃ (l:List Rw) (a:Nat),b=l.map fR/\kc l/\c=[.int a]/\a<l.length/\l.length<=10000/\Q (.ow true) (.list ((pz l a).map dS))
def GY(a:List Int):List (Key × D):=a.zipIdx.map λq=>(.inl q.1,.int (q.2:Nat))
def J3{a:List Int}(b:a.Nodup){j:Int}(h:j∈a):gL (GY a) (.inl j:Key)=some (.int (a.idxOf j:Nat)):=by
 obtain⟨m,d⟩:=zv.mp h;rw[cI b d];unfold gL GY;rw[nV];have:∃ q,(a.zipIdx.map λq=>((.inl q.1:Key),D.int q.2)).find? (λf=>decide (f.1=(.inl j:Key)))=some q:=by rw[<- VR,List.find?_isSome];exact⟨(.inl j,.int m),fq.mpr ⟨(j,m),PH.mpr d,rfl⟩,by simp⟩
 obtain⟨q,c⟩:=this;refine⟨q,c,?_⟩;obtain⟨⟨y,n⟩,g,rfl⟩:=fq.mp (List.mem_of_find?_eq_some c);have e:y=j:=by have:=List.find?_some c;simpa using this
 subst e;have i:a[n]? = some y:=PH.mp g;rw[<- cI b d,cI b i]
def Kw{a:List Int}{k:Int}(h:k∉a):vk (GY a) (.inl k:Key) (.int (a.length:Nat))=GY (a++[k]):=by
 unfold vk;have e:((GY a).any λb=>decide (b.1=(.inl k:Key)))=false:=by rw[List.any_eq_false];intro q c;obtain⟨⟨y,n⟩,d,rfl⟩:=fq.mp c;have f:a[n]? = some y:=PH.mp d;simp only[decide_eq_true_eq];intro z;exact h (Sum.inl.inj z ▸ oj f)
 rw[e];unfold GY;simp[List.zipIdx_append]
def jt(A:E1):∀ a t y Q,dJ t y Q->d9 A { nx:=λ_=>Q .sh .non,rt:=Q } (jd 5 a (A false t) y):=by
 rintro a t y Q ⟨l,b,rfl,f,rfl,S,R,h⟩;unfold d9 jd;walk_at "q";refine⟨a,false,l.map fR,rfl,l,b,rfl,f,rfl,S,R,?_⟩;walk_at "q";have X:(bx l b).length<=10001:=kD (Bp (gk l b) (n:=b+1) λx c=>by have:=gP f c;lia) (by lia);refine bw _ (λi s=>∃ w,s=[some (.ob a (A false (l.map fR))),some (.sh (.int b)),some (.ow true (.dK (GY ((bx l b).take i)))),some (.ow true (.list (((pz l b).take i).map dS))),w]) ⟨_,rfl⟩ ?_ ?_
 ·rintro i x s c ⟨w,rfl⟩ N T;rw[ki] at c
  cases e:(bx l b)[i]? with
  |none=>rw[e] at c;cases c
  |some k =>
   rw[e] at c;cases c;have F:=oj e;obtain⟨E,Z⟩:=gP f F;have o:=(k7.mp e).1;have W:k.toNat<l.length:=by lia
   obtain⟨r,p⟩:∃ r,l[k.toNat]? = some r:=⟨_,rh W⟩
   have v:=f _ _ p;rw[oq E] at v;have M:(bx l b).take (i+1)=(bx l b).take i++[k]:=by rw[yA,e];rfl
   have L:(pz l b).take (i+1)=(pz l b).take i++[GU (OX l b) r]:=by rw[yA];unfold pz;rw[ki,e];simp[ZK,p]
   have D:(((pz l b).take i).map dS).length=i:=by rw[cx,lI];unfold pz;rw[cx];lia
   have B:((bx l b).take i).length=i:=by rw[lI];lia
   have P:k∉(bx l b).take i:=λz=>by
    obtain⟨m,d⟩:=zv.mp z;rw[List.getElem?_take] at d;split at d
    ·have:=cI (gk l b) d;rw[cI (gk l b) e] at this;lia
    ·cases d
   have O:(GY ((bx l b).take i)).length=i:=by unfold GY;rw[cx,List.length_zipIdx,B]
   walk_at "q";have J:((pz l b).take i).length=i:=by rw[cx] at D;exact D
   rw[J];have u:=Kw P;rw[B,<- M] at u;rw[u];refine⟨by lia,a,false,l.map fR,rfl,k.toNat,fR r,by rw[oq E],Av p,?_⟩;rw[Ec];have g:((bx l b).take (i+1)).Nodup:=(List.take_sublist _ _).nodup (gk l b);refine⟨k,r,_,OX l b,rfl,v,λj G=>.inr ⟨_,rfl,?_⟩,?_⟩
   ·have H:=Bq f F p j G;have Y:=Gg jx e H (dO v j G).2;obtain⟨m,d⟩:=zv.mp H;have V:=cI (gk l b) d;have K:((bx l b).take (i+1))[m]? = some j:=by rw[List.getElem?_take,if_pos (by lia)];exact d
    rw[J3 g (oj K),cI g K];unfold OX;rw[V]
   ·walk_at "q";refine⟨by lia,?_⟩;rw[tR];have z:=T _ ⟨some (.sh (.int k)),rfl⟩;rw[L,kS] at z;simp only[cond_true,de];rw[cx,J,u];exact z
 ·rintro s ⟨w,rfl⟩;rw[cx];have e:(pz l b).take (bx l b).length=pz l b:=PY (by unfold pz;rw[cx];exact cE _);rw[e];walk_at "q";exact h
def mK:WS :=
 (cf (eB (oI (nI (wB (dy (tq "list") (ag 0)))) (nI (wB (jf CD CD (wC (.int 1)) (dy gX (ag 0)) (wC (.int 2000))))))
 (ft (wC (.bl false)))
 aW)
 (ft (dy U9 (dD (wF (ag 0)) (gT 2 (fM (gN 0) (fM (gN 1) uw))) vt (aU sW (aq (ag 0) (aq (ag 1) cv))) 2 []))))
def jN:gv:=λa Q=>∃ l:List Rw,a=[.list (l.map dS)]/\kc l/\1<=l.length/\l.length<=2000/\Q .sh (.bl true)
def tL:j3 1 jN mK:=by
 rintro m Q ⟨l,rfl,j,k,f,h⟩;unfold mK;walk_at "q";refine R.F rfl ?_;walk_at "q";refine R.T (decide_eq_true (by lia)) ?_;walk_at "q";refine R.F (by rw[decide_eq_true (by lia)];rfl) ?_;walk_at "q";refine bV (λ_=>true) (λ_=>.bl true) (λc=>∃ o d,c=[o,d]) _ _ _ ⟨_,_,rfl⟩ ?_ ?_
 ·rintro y g c ⟨o,d,rfl⟩ p n _ f;obtain⟨i,a⟩:=zv.mp g;unfold nQ at a;rw[List.getElem?_mapIdx,ki] at a
  cases e:l[i]? with
  |none=>rw[e] at a;cases a
  |some r =>rw[e] at a;cases a;walk_at "q";exact⟨_,_,rfl,j i r e,.inl rfl,f _ ⟨_,_,rfl⟩ rfl⟩
 ·rw[fL];refine⟨(nQ (l.map dS)).map λ_=>true,by rw[kM];rfl,?_⟩;rw[LS,show(nQ (l.map dS)).all ((λb=>b) ∘ λ_=>true)=true from xI.mpr λ_ _=>rfl];exact h
def lE(a:E1):WS :=
 (cf (Ep (aU il (aq (ag 0) cv)))
 (cf (eL 1 (Bb (ag 0) (wC (.str " "))))
 (cf (eB (wB (av Kb (dy gX (ag 1)) (wC (.int 200))))
 fC
 aW)
 (cf (JZ a 2)
 (cf (Cp 3)
 (cf (qA (Jc (aU lV (aq (ag 1) cv))) (gN 4)
 (LK a 3 2 (lL 3 lH (Gh (ag 4) tQ))))
 (cf (eB (wB (av BG (dy gX (xP 3)) (wC (.int 1))))
 fC
 aW)
 (ft (ym a 2 dJ (aq (av bX (xP 3) (wC (.int 0))) cv))))))))))
def Tx(a:List Str):Prop:=iO 1 a=true/\a.length<=200
def qh(a:List Str):List Rw:=match mh a with
 |none=>[]
 |some c=>match vv c with
  |some (b,[x])=>pz b x.toNat
  |_=>[]
def bW:gv:=λa Q=>∃ t:Str,a=[.str t]/\t.length<=1000000/\Tx (Txt.split t " ")/\Q (.ow true) (.list ((qh (Txt.split t " ")).map dS))
def JF(a:List Rw)(r:Rw):r∈(gp a r).1:=by
 unfold gp;split
 ·rename_i h;obtain⟨y,b,e⟩:=HP.mp h;rw[<- yC (of_decide_eq_true e)];exact b
 ·simp
def mX(G:E1):∀ w Q,bW w Q->lE G { nx:=λ_=>Q .sh .non,rt:=Q } (wG 5 w):=by
 rintro w Q ⟨t,rfl,K,A,h⟩;walk_at "q";refine⟨t,rfl,?_⟩;walk_at "q";refine⟨by decide +kernel,K,?_⟩;generalize Txt.split t " " = m at *
 obtain⟨u,c,x,s⟩:=Tx.sen A.1 A.2;have Z:=s.len;refine R.F (decide_eq_false (by lia)) ?_;walk_at "q";intro a;walk_at "q";intro b;refine⟨m,u,rfl,by lia,s.hd,?_⟩;walk_at "q";rw[<- List.map_reverse];refine bw _ (λi l=>∃ c d p,vv (u.reverse.take i).reverse=some (c,d)/\l=[some (.sh (.str t)),some (.ow true (.list (m.map .str))),some (.ob a (G true (c.map fR))),k6 b d.reverse,p]) ⟨[],[],none,rfl,rfl⟩ ?_ ?_
 ·rintro i x l D ⟨c,d,p,f,rfl⟩ N V;rw[ki] at D;obtain⟨g,T,rfl⟩:=nV.mp D;obtain⟨L,I,o,r,y,e,E⟩:=s.step T f;obtain⟨_,_,F,H⟩:=s.take (i+1);rw[E] at F;cases F;have B:=I.ln;have O:=pX s.hd;have z:=H.sl;rw[vE,lI,vE] at B z;rw[gi] at z;obtain⟨j,S⟩:=zv.mp (JF c r);have n:=H.sc j r S;have W:(An g).flat=true:=by cases g<;>rfl
  refine⟨⟨b,_,rfl⟩,⟨a,_,rfl⟩,b,d.reverse,rfl,W,g,d,y,r,rfl,L,rfl,e,?_⟩;refine⟨a,c.map fR,b,y.reverse,fR r,rfl,rfl,?_,?_,(Ec r).symm,by rw[Ec];exact rw_ok 10 n,λC k M P=>?_⟩
  ·rw[cx,kQ];lia
  ·rw[vE,kQ];lia
  ·obtain⟨rfl,X⟩:=Ky I.nd M P;refine V _ ⟨_,_,some (.sh (An g)),E,?_⟩;rw[X];simp
 ·rintro l ⟨U,d,p,f,rfl⟩;rw[cx,xS,P2] at f;rw[s.run] at f;cases f;obtain⟨_,_,v,I⟩:=s.take u.reverse.length;rw[xS,P2] at v I;rw[s.run] at v;cases v;obtain⟨J,Y⟩:=I.bd x eK;have B:=I.ln;have O:=pX s.hd;rw[show qh m=pz c x.toNat by unfold qh;rw[s.hd];simp only[s.run]] at h;walk_at "q";refine⟨b,_,rfl,?_⟩;walk_at "q";refine R.F (by simp) ?_;walk_at "q";refine⟨a,true,c.map fR,rfl,?_⟩;walk_at "q";refine⟨b,_,rfl,?_⟩;walk_at "q";refine⟨.int x,rfl,?_⟩;walk_at "q";exact⟨c,x.toNat,rfl,I.sc,by rw[oq J],by lia,by lia,h⟩
def nR:WS :=
 (eB (nI (wB (aU jN (aq (ag 0) cv))))
 fC
 aW)
def fV:gv:=λa Q=>∃ l:List Rw,a=[.list (l.map dS)]/\kc l/\1<=l.length/\l.length<=2000/\Q .sh .non
def m_:j3 1 fV nR:=by rintro d Q ⟨l,rfl,a,c,b,h⟩;walk_at "q";refine⟨l,rfl,a,c,b,?_⟩;walk_at "q";exact h
def FZ:WS :=
 (cf (Ep (aU fV (aq (ag 0) cv)))
 (cf (eL 1 (kC cv))
 (cf (rL 0 (qA (e_ (ag 0)) (gN 2)
 (mz (k5 1) (aU lM (aq (ag 2) (aq (ag 1) cv))))))
 (cf (eB (wB (av bN' (av bX (ag 1) (dy zh (wC (.int 1)))) (wC .non)))
 fC
 aW)
 (ft (oO (wC (.str " ")) (av bX (ag 1) (dy zh (wC (.int 1))))))))))
def Ak:gv:=λb Q=>∃ (l:List Rw) (a:List Str),b=[.list (l.map dS)]/\kc l/\1<=l.length/\l.length<=2000/\WA.at l ((l.length-1:Nat):Int)=some a/\Q .sh (.str (Str.join " " a))
theorem lO:∀ (l:List Str),jC (l.map D.str)=some l
 |[]=>rfl
 |x :: l=>by rw[eR];unfold jC;rw[lO l];rfl
theorem yp(k:Nat):∀ (l:List Str),(∀ w∈l,w.length<=k)->(l.map (·.length)).sum<=l.length*k
 |[],_=>by simp
 |w :: l,h=>by have:=yp k l λx a=>h x (eI _ a);have:=h w eK;simp only[eR,List.sum_cons,gi,Nat.succ_mul];lia
def J5:j3 3 Ak FZ:=by
 rintro M Q ⟨l,a,rfl,d,E,D,t,h⟩;unfold FZ;walk_at "q";refine⟨l,rfl,d,E,D,?_⟩;walk_at "q";refine bw _ (λi k=>∃ n,k=[some (.sh (.list (l.map dS))),some (.ow true (.list ((WA.vals (l.take i)).map vx))),n]) ⟨none,rfl⟩ ?_ ?_
 ·rintro i x k f ⟨n,rfl⟩ N B;rw[ki] at f;obtain⟨r,p,rfl⟩:=nV.mp f;have L:=(k7.mp p).1;have A:WA.vals (l.take (i+1))=WA.vals (l.take i)++[WA.H r (WA.at (l.take i))]:=by rw[yA,p];exact qd WA _ _
  have c:(WA.vals (l.take i)).length=i:=by rw[iJ,lI];lia
  have b:=B _ ⟨some (.sh (dS r)),rfl⟩;rw[A,kS] at b;generalize u:WA.vals (l.take i)=m at *
  have g:∀ o∈m,E7 o:=u ▸ zx d i (by lia);have H:WA.H r (WA.at (l.take i))=LB r λj=>m.getD j.toNat none:=by rw[<- u];rfl
  rw[H] at b;walk_at "q";refine⟨i,r,m,rfl,d i r p,by lia,g,λz=>?_,λa z=>?_⟩
  ·rw[z] at b;walk_at "q";exact⟨by lia,b⟩
  ·rw[z] at b;walk_at "q";exact⟨by lia,b⟩
 ·rintro k ⟨n,rfl⟩;rw[cx,xS];have g:=zx d l.length (cE _);rw[xS] at g;have v:fT ((WA.vals l).map vx) (-1)=some (.list (a.map .str)):=by
   have c:=iJ WA l;have s:WA.vals l≠[]:=λz=>by rw[z] at c;simp at c;lia
   have F:=(Z5 s).symm;have G:(WA.vals l).getLast s=some a:=by rw[<- t];unfold Sm.at;rw[D6,<- c,xE,<- List.getLast?_eq_getElem?,xdV s];rfl
   conv=>lhs;rw[F,kS,G]
   exact aS' _ _
  have w:E7 (some a):=by
   rw[<- t];unfold Sm.at;rw[xE]
   cases e:(WA.vals l)[((l.length-1:Nat):Int).toNat]? with
   |none=>exact λa z=>nomatch z
   |some o=>exact g o (oj e)
  obtain⟨J,y⟩:=w a rfl;have K:=yp 6 a λx f=>(y x f).2;walk_at "q";refine⟨_,v,?_⟩;walk_at "q";refine⟨_,v,?_⟩;walk_at "q";exact⟨a,lO a,by rw[show(Str.ofString " ").length=1 by decide +kernel,Nat.mul_one];lia,h⟩
def kZ:WS :=
 (cf (eB (oI (nI (wB (aU cF (aq (ag 10) (aq (wC (.int 6)) cv))))) (oI (wB (av BG (dy gX (aU dR (aq (ag 5) (aq (ag 10) cv)))) (ag 2))) (wB (av BG (ag 8) (ag 9)))))
 (ft (wC (.bl false)))
 aW)
 (cf (mz (k5 10) (kL (aq (wC (.str "and")) (aq (kL cv) cv))))
 (cf (mz (k5 8) (kL (aq (wC (.str "or")) (aq (kL cv) cv))))
 (ft (av fP (aU bW (aq (ag 7) cv)) (ag 9))))))
def vV:WS :=
 (cf (eL 10 (aU bW (aq (av ip (av ip (wC (.str "either not some ")) (av bX (ag 4) (wC (.int 1)))) (wC (.str " yes no"))) cv)))
 kZ)
def vJ:WS :=
 (cf (eL 9 (dy zZ (ag 8)))
 (cf (eB (oI (wB (av BG (aU Ak (aq (ag 8) cv)) (ag 7))) (wB (av BG (ag 8) (ag 9))))
 (ft (wC (.bl false)))
 aW)
 vV))
def oY:WS :=
 (cf (eB (wB (av BG (aU dR (aq (ag 5) (aq (ag 8) cv))) (aU jL (aq (ag 5) (aq (ag 6) cv)))))
 (ft (wC (.bl false)))
 aW)
 vJ)
def Bm:WS :=
 (cf (eB (oI (nI (wB (aU cF (aq (ag 8) (aq (dy gX (ag 6)) cv))))) (wB (av BG (aU iB (aq (ag 8) cv)) (aU gH (aq (ag 6) cv)))))
 (ft (wC (.bl false)))
 aW)
 oY)
def yH:WS :=
 (cf (eL 7 (oO (wC (.str " ")) (ag 6)))
 (cf (eL 8 (aU bW (aq (ag 7) cv)))
 Bm))
def qF:WS :=
 (cf (eL 6 (aU iu (aq (ag 0) (aq (av ip (ag 4) (sA (ag 3) (dX (wC (.int 3))) bB)) cv))))
 yH)
def K_:WS :=
 (cf (eL 1 (aU bf (aq (ag 0) (aq (wC (.int 0)) cv))))
 (cf (eL 2 (av ip (wC (.int 1)) (av mw (ag 1) (wC (.int 6)))))
 (cf (eL 3 (aU jg (aq (aU bf (aq (ag 0) (aq (wC (.int 1)) cv))) (aq (aU bf (aq (ag 0) (aq (wC (.int 2)) cv))) cv))))
 (cf (eL 4 (av ip (av ip (kC (aq (wC (.str "*")) cv)) (sA (ag 3) bB (dX (wC (.int 3))))) (sA (sA (kC (aq (wC (.str "yes")) (aq (wC (.str "no")) (aq (wC (.str "not")) (aq (wC (.str "some")) (aq (wC (.str "all")) (aq (wC (.str "both")) (aq (wC (.str "either")) cv)))))))) (dX (av mw (av AJ (ag 1) (wC (.int 6))) (wC (.int 5)))) bB) bB (dX (wC (.int 3))))))
 (cf (rL 2 (eL 5 (kL (aq (ag 2) (aq (dy iR (aU iI (aq (sA (ag 0) (dX (wC (.int 41))) (dX (wC (.int 63)))) (aq (ag 2) (aq (ag 4) cv))))) cv)))))
 qF)))))
def Ph:(" " : Str)=⟨#[32]⟩:=by decide +kernel
def FN:(" " : Str).length=1:=by decide +kernel
def join_cons (a:Str) {r:List Str} (h:r≠[]):Str.join " " (a :: r)=a++(" " ++ Str.join " " r):=by
 cases r with
 |nil=>exact absurd rfl h
 |cons b r =>refine gR ?_;have:=ie " " a b r;unfold sg at this;rw[this];have d:=dY a (" " ++ Str.join " " (b :: r));have c:=dY " " (Str.join " " (b :: r));unfold sg at d c;rw[d,c]
def iW(a b c:Str):a++b++c=a++(b++c):=gR (by
 have g:=dY (a++b) c;have f:=dY a b;have e:=dY a (b++c);have d:=dY b c;unfold sg at *
 rw[g,f,e,d,r9])
theorem join_snoc (w:Str):∀ (c:List Str),c≠[]->Str.join " " (c++[w])=Str.join " " c++(" " ++ w)
 |[],h=>absurd rfl h
 |[a],_=>join_cons a (by simp)
 |a :: b :: r,_=>by rw[HL,join_cons a (by simp),join_snoc w (b :: r) (by simp),join_cons a (by simp),iW,iW]
theorem iz:∀ (zs:List Str),zs≠[]->(Str.join " " zs).length+1=(zs.map (·.length)).sum+zs.length
 |[],h=>absurd rfl h
 |[a],_=>by simp[show Str.join " " [a]=a from rfl]
 |a :: b :: r,_=>by have c:=iz (b :: r) (by simp);rw[join_cons a (by simp),aL,aL,FN];simp only[eR,List.sum_cons,gi] at c ⊢;lia
def join_max(a:List Str)(k:Nat)(h:∀ w∈a,w.length<=k):(a.map (·.length)).sum<=a.length*k:=yp k a h
def v_ {a:List Str} (h:a≠[]) (b:∀ p∈a,32∉sg p):Txt.split (Str.join " " a) " " = a:=by rw[Ph];exact xK h b
def Ko(a:Int)(t:Tr):mE a t=.list (((dG a.toNat).map t).map .bl):=by rw[kM];rfl
def Fj(l:List Bool):fI 12 (.list (l.map .bl))=true:=by simp[fI]
def K8(l:List Bool):nE (.list (l.map .bl)) (.list (l.map .bl))=true:=by
 simp only[nE,D.py,PyData.eqv]
 induction l with
 |nil=>simp[rq,PyData.eqvAll]
 |cons b l a=>cases b<;>simp[rq,D.py,PyData.eqv,PyData.eqvAll,a]
abbrev ZR:gv:=fK'
def zQ(a:List Rw):nE (.list (a.map dS)) (.list (a.map dS))=true:=eq_self (wQ a)
structure ZS(ws:List Str)(rs:List Rw)(x:Int):Prop where
 sc:kc (qh ws)
 l1:1<=(qh ws).length
 l2:(qh ws).length<=ws.length
 rd:Tx ws
 Vr:∀ (α:Type) (S:Sm α),S.at (qh ws) (((qh ws).length-1:Nat):Int)=S.at rs x
 wa:WA.at (qh ws) (((qh ws).length-1:Nat):Int)=some ws
def E8.sc{a:List Str}{c:List Hd}{b:List Rw}{x:Int}(s:E8 a c b x):ZS a b x:=by
 have e:qh a=pz b x.toNat:=by unfold qh;rw[s.hd];simp only[s.run]
 obtain⟨_,_,g,I⟩:=s.take c.reverse.length;rw[xS,P2] at g I;rw[s.run] at g;cases g;obtain⟨k,n⟩:=I.bd x eK;have r:=I.ln;have t:=pX s.hd;have q:(bx b x.toNat).length<=x.toNat+1:=Bp (gk b x.toNat) λy l=>by have:=gP I.sc l;lia
 have j:∀ h (S:Sm h),S.at (qh a) (((qh a).length-1:Nat):Int)=S.at b x:=λh S=>by have:=Ej S I.sc (last:=x.toNat) (by lia);rw[oq k] at this;rw[e];exact this
 refine⟨by rw[e];exact Gj I.sc (by lia),by rw[e,pM];exact Ef I.sc,by rw[e,pM];lia,⟨by rw[qp,s.hd];exact(Aw c 1).mpr ⟨_,s.run,rfl⟩,s.len⟩,j,?_⟩;rw[j];obtain⟨m,d,f⟩:=I.ws
 cases m with
 |nil=>simp at d
 |cons p i =>
  simp only[eR,P7,List.cons.injEq] at d;have:i=[]:=by
   cases i with
   |nil=>rfl
   |cons _ _=>simp at d
  subst this;rw[d.1,<- (ou a c s.hd).1,<- f];simp
def Lb {Q:Md->D->Prop} {r p n k j:Option Sl} {a:Int} {l:List iE} {c d:List Str} {i y:List Rw} {x f:Int} {t:Str} (E:1<=a) (u:a<=20) (v:Lv a l) (w:l.length<=1000) (s:ZS c i x) (b:ZS d y f) (A:d.length<=6) (e:Txt.split t " " = c) (g:t.length<=1000000) (h:∀ m,Q m (.bl true)) :
  kZ { nx:=λ_=>Q .sh .non,rt:=Q } [r,p,some (.sh (.int a)),n,k,some (.ow true (mD a l)),j,some (.sh (.str t)),some (.ow true (.list ((qh c).map dS))),some (.ow true (.list ((qh c).map dS))),some (.ow true (.list ((qh d).map dS)))]:=by
 have z:=s.rd.2;have F:=s.l2;have G:=b.l2;unfold kZ;walk_at "q";refine⟨_,6,rfl,b.sc,b.l1,by lia,by lia,?_⟩;walk_at "q";refine⟨a,l,_,rfl,by lia,u,v,w,b.sc,b.l1,by lia,?_⟩;generalize (rV l (qh d)).getD _ _=B;unfold mE;walk_at "q";refine R.F (by rw[wW,decide_eq_true (by lia)];rfl) ?_;walk_at "q";refine⟨nU s.sc 9,nU s.sc 9,R.F (by rw[zQ];rfl) ?_⟩;walk_at "q";refine⟨by lia,?_⟩;refine⟨by lia,t,rfl,g,by rw[e];exact s.rd,?_⟩;rw[e];walk_at "q";exact⟨nU s.sc 9,nU s.sc 9,by rw[zQ];exact h _⟩
def oth {n:Str} (a:pf n):iO 1 [("either" : Str), "not", "some",n, "yes", "no"]=true/\Txt.split ("either not some " ++ n ++ " yes no") " " = [("either" : Str), "not", "some",n, "yes", "no"]/\("either not some " ++ n ++ " yes no").length<=100:=by
 have d:md "some" := .inl rfl;have g:("either not some " : Str) = "either" ++ (" " ++ ("not" ++ (" " ++ ("some" ++ " ")))):=by decide +kernel
 have f:(" yes no" : Str) = " " ++ ("yes" ++ (" " ++ "no")):=by decide +kernel
 have c:("either not some " : Str).length=16/\(" yes no" : Str).length=7:=by decide +kernel
 refine⟨?_,?_,?_⟩
 ·rw[ig (Cu (.inr rfl)).1,(Cu (.inr rfl)).2];show iO (0+1+1) _=true;rw[ig uE.1,uE.2];show(if md "some" then fX n && iO (0+1+1) ["yes", "no"] else _)=true;rw[if_pos d,cD.mpr a,VY,ig (qN (.inl rfl)).1,(qN (.inl rfl)).2];show iO (0+1) ["no"]=true;rw[ig (qN (.inr rfl)).1,(qN (.inr rfl)).2];rfl
 ·have e : "either not some " ++ n ++ " yes no" = Str.join " " [("either" : Str), "not", "some",n, "yes", "no"]:=by rw[join_cons _ (by simp),join_cons _ (by simp),join_cons _ (by simp),join_cons _ (by simp),join_cons _ (by simp),g,f];simp only[iW];rfl
  rw[e];refine v_ (by simp) λp b=>?_;have k:32∉sg ("either" : Str)/\32∉sg ("not" : Str)/\32∉sg ("some" : Str)/\32∉sg ("yes" : Str)/\32∉sg ("no" : Str):=by decide +kernel
  simp only[dQ,sM,or_false] at b;rcases b with rfl|rfl|rfl|rfl|rfl|rfl
  ·exact k.1
  ·exact k.2.1
  ·exact k.2.2.1
  ·exact(tM a).2
  ·exact k.2.2.2.1
  ·exact k.2.2.2.2
 ·rw[aL,aL,c.1,c.2];have:=a.len;lia
def Nj {Q:Md->D->Prop} {F g e E f:Option Sl} {a:Int} {l:List iE} {names b:List Str} {n:Str} {v:List Hd} {d:List Rw} {x:Int} {t:Str} (u:1<=a) (i:a<=20) (j:Lv a l) (k:l.length<=1000) (H:pf n) (K:names[1]? = some n) (B:E8 b v d x) (s:ZS b d x) (G:Txt.split t " " = b) (J:Str.join " " b=t) (z:t.length<=1000000) (h:∀ m,Q m (.bl true)) :
  oY { nx:=λ_=>Q .sh .non,rt:=Q } [F,g,some (.sh (.int a)),e,some (.ow true (.list (names.map .str))),some (.ow true (mD a l)),some (.ow true (.list (b.map .str))),some (.sh (.str t)),some (.ow true (.list ((qh b).map dS))),E,f]:=by
 have O:=s.rd.2;have P:=s.l2;obtain⟨y,c⟩:∃ w,w=kZ:=⟨_,rfl⟩
 unfold oY vJ vV;rw[<- c];walk_at "q";refine⟨a,l,_,rfl,by lia,i,j,k,s.sc,s.l1,by lia,?_⟩;have L:(rV l (qh b)).getD ((qh b).length-1) (λ_=>false)=(i9 l).at d x:=by have:=s.Vr _ (i9 l);rw[<- this];unfold Sm.at;rw[Di,D6];rfl
 rw[L,Ko];walk_at "q";refine⟨a,l,b,v,d,x,rfl,u,i,j,k,B,?_⟩;rw[Ko];walk_at "q";refine⟨Fj _,Fj _,R.F (by rw[K8];rfl) ?_⟩;walk_at "q";refine .inl ⟨uM _,?_⟩;refine⟨_,b,rfl,s.sc,s.l1,by lia,s.wa,?_⟩;rw[J];walk_at "q";obtain⟨g,r,e⟩:=oth H;obtain⟨S,T,N,A⟩:=Tx.sen g (by simp);have p:=A.sc;refine⟨nU s.sc 9,nU s.sc 9,R.F (by rw[zQ];rfl) ?_⟩;have M:=qo (xs:=names.map D.str) (by rw[ki,K];rfl);walk_at "q";refine⟨_,M,?_⟩;walk_at "q";rw[aL,aL] at e;refine⟨by lia,by lia,_,rfl,by rw[aL,aL];lia,by rw[r];exact p.rd,?_⟩;rw[r];walk_at "q";rw[c];exact Lb u i j k s p (by simp) G z h
def Oj{Q:Md->D->Prop}{N M L K v:Option Sl}{B:List Int}{g:Int}{l:List iE}{k:List Str}{a b c d e f:Str}(P:1<=g)(O:g<=20)(S:Lv g l)(V:l.length<=1000)(j:∀ n∈[a,b,c,d,e,f],pf n)(W:∀ n∈k,pf n)(I:k.length<=7)(h:∀ m,Q m (.bl true)) :
  qF { nx:=λ_=>Q .sh .non,rt:=Q } [some (.sh (.list (B.map .int))),N,some (.sh (.int g)),some (.ow true (.list ([a,b,c,d,e,f].map .str))),some (.ow true (.list ((("*" : Str) :: a :: b :: c :: k).map .str))),some (.ow true (mD g l)),none,M,L,K,v]:=by
 obtain⟨o,G⟩:∃ w,w=oY:=⟨_,rfl⟩
 unfold qF yH Bm;rw[<- G];generalize Z:sA (ag 3) (dX (wC (.int 3))) bB=S1;walk_at "q";rw[<- Z];refine .inl ⟨rfl,?_⟩;rw[show i6 [D.str a,.str b,.str c,.str d,.str e,.str f] (some 3) none=[D.str d,.str e,.str f] from rfl];walk_at "q";refine⟨by lia,.inl ⟨by simp[eh,D.flat,aY],?_⟩⟩;refine⟨B,("*" : Str) :: a :: b :: c :: (k++[d,e,f]),by simp,by simp,by simp;lia,λn p=>?_,λi y J H=>?_⟩
 ·simp only[dQ,kA,sM,or_false] at p;rcases p with rfl|rfl|rfl|rfl|p|rfl|rfl|rfl
  ·exact .inl rfl
  ·exact j _ (by simp)
  ·exact j _ (by simp)
  ·exact j _ (by simp)
  ·exact W _ p
  ·exact j _ (by simp)
  ·exact j _ (by simp)
  ·exact j _ (by simp)
 obtain⟨T,A,x,u⟩:=Tx.sen y J;have s:=u.sc;have E:i≠[]:=λz=>by rw[z] at y;cases y
 have U:=join_max i 6 λw z=>(H w z).1;have jl:=iz i E;have r:=v_ E λw z=>(H w z).2;have F:=s.l1;have C:=s.l2;walk_at "q";refine⟨i,lO i,by rw[show(Str.ofString " ").length=1 from FN,Nat.mul_one];lia,?_⟩;generalize X:Str.join " " i=t at *
 refine⟨t,rfl,by lia,by rw[r];exact s.rd,?_⟩;rw[r];walk_at "q";refine⟨_,_,rfl,s.sc,F,by lia,by lia,?_⟩;walk_at "q";refine⟨_,rfl,s.sc,F,by lia,?_⟩;have Y:depth (qh i)=xv.at A x:=by have:=s.Vr _ xv;rw[<- this];unfold Sm.at;rw[wI,D6];rfl
 walk_at "q";refine⟨i,T,A,x,rfl,u,?_⟩;walk_at "q";refine R.F (by rw[Y,decide_eq_true rfl];rfl) ?_;walk_at "q";rw[G];exact Nj P O S V (j a (by simp)) (names:=("*" : Str) :: a :: b :: c :: k) rfl u s r X (by lia) h
def E9:List Str:=["yes", "no", "not", "some", "all", "both", "either"]
def Pa:j3 11 ZR K_:=by
 rintro ds Q ⟨k,rfl,hl,h⟩;obtain⟨w5,x⟩:∃ w,w=qF:=⟨_,rfl⟩
 unfold K_;rw[<- x];walk_at "q";refine⟨k,0,rfl,by decide,?_⟩;generalize k.getD _ 0=i
 walk_at "q";refine⟨k,1,rfl,by decide,?_⟩;generalize k.getD _ 0=c1;walk_at "q";refine⟨k,2,rfl,by decide,?_⟩;generalize k.getD _ 0=U;walk_at "q";refine⟨c1,U,rfl,λm L K=>?_⟩;obtain⟨a,b,c,d,e,f,rfl⟩:∃ a b c d e f,m=[a,b,c,d,e,f]:=by
  rcases m with _|⟨a,_|⟨b,_|⟨c,_|⟨d,_|⟨e,_|⟨f,_|⟨g,p⟩⟩⟩⟩⟩⟩⟩<;>simp at L
  exact⟨a,b,c,d,e,f,rfl⟩
 generalize KG:sA (ag 3) bB (dX (wC (.int 3)))=S1;generalize W:sA (sA _ _ _) bB _=S2;generalize UG:sA (ag 0) _ _=S3;walk_at "q";rw[<- KG];refine .inl ⟨rfl,?_⟩;rw[show i6 [D.str a,.str b,.str c,.str d,.str e,.str f] none (some 3)=[D.str a,.str b,.str c] from rfl];walk_at "q";refine .inl ?_;rw[<- W];walk_at "q";have V:∀ n∈E9,pf n:=λn r=>cD.mp (xI.mp (by decide +kernel) n r);have u:i6 (i6 [D.str "yes",D.str "no",D.str "not",D.str "some",D.str "all",D.str "both",D.str "either"] (some (i / 6 % 5)) none) none (some 3)=(i6 (i6 E9 (some (i / 6 % 5)) none) none (some 3)).map D.str:=by rw[show[D.str "yes",D.str "no",D.str "not",D.str "some",D.str "all",D.str "both",D.str "either"]=E9.map D.str from rfl,pR,pR]
 have v:∀ n∈i6 (i6 E9 (some (i / 6 % 5)) none) none (some 3),pf n:=λn r=>V n (yN (yN r));have T:(i6 (i6 E9 (some (i / 6 % 5)) none) none (some 3)).length<=7:=by have a:=gr (i6 E9 (some (i / 6 % 5)) none) none (some 3);have b:=gr E9 (some (i / 6 % 5)) none;have c:E9.length=7:=rfl;lia
 generalize i6 (i6 E9 (some (i / 6 % 5)) none) none (some 3)=R at *
 refine .inl (.inl ⟨?_,by rw[u,cx];lia,.inl ⟨by rw[u];exact aY _,?_⟩⟩)
 ·show eh (i6 (E9.map D.str) (some (i / 6 % 5)) none)=true;rw[pR];exact aY _
 rw[<- UG];refine .inl ⟨dB k,?_⟩;have C:=pR D.int k (some 41) (some 63);have hc:=gr k (some 41) (some 63);generalize i6 k (some 41) (some 63)=I at *
 have hm:=Lj i (show 0<6 by decide)
 have t:∀ n∈[a,b,c,d,e,f],pf n:=λn z=>.inr (K n z);generalize A:1+i % 6=s at *
 refine⟨I,s,("*" : Str) :: a :: b :: c :: R,by rw[C,u];rfl,by lia,by lia,by lia,by simp,by simp;lia,λn r=>?_,λl X Z=>?_⟩
 ·simp only[dQ] at r;rcases r with rfl|rfl|rfl|rfl|r
  ·exact .inl rfl
  ·exact t _ (by simp)
  ·exact t _ (by simp)
  ·exact t _ (by simp)
  ·exact v _ r
 walk_at "q";obtain⟨S,B,H,G,F,E⟩:=Iu (λy=>∃ j,Tw l j/\y=j.map yk) (by lia) λj M=>⟨j,M,rfl⟩
 refine⟨S,B,H,G,F,λO N P J=>?_⟩;obtain⟨j,M,o⟩:=E O N P J;rw[o];have y4:=M.len;have Y:=M.ok X;rw[x,u];exact Oj (by lia) (by lia) Y (by lia) t v T h
def top(i:Nat):kf:=PySem.Challenge.pw_kinlook_k26_sentences_read.main.body.getD i (.Pass ⟨0,0,0,0⟩)
def Il:kf->List kf
 |.ClassDef _ _ _ b .. => b
 |_=>[]
abbrev Fc(i j:Nat):kf:=(Il (top i)).getD j (.Pass ⟨0,0,0,0⟩)
abbrev lY:kf:=Fc 9 1
abbrev jo:kf:=Fc 9 0
abbrev tU:kf:=top 57
structure Txt(w:c9)(K:ay)(mg:Str->Option ah):Prop where
 Vs:mg "all" = none
 ZT:mg "bool" = none
 cF':mg "enumerate" = none
 ZU:mg "int" = none
 tP:mg "isinstance" = none
 hU:mg "len" = none
 Tz:mg "list" = none
 ZV:mg "max" = none
 xB:mg "range" = none
 cG':mg "reversed" = none
 cH':mg "set" = none
 ZW:mg "sorted" = none
 LD:mg "str" = none
 Pm:mg "tuple" = none
 cI':W7 mg "HIDDEN" "*"
 cJ':W7 mg "LETTERS" "abcdefghijklmnopqrstuvwxyz"
 cK':SQ mg "MOST_LETTERS" 6
 cL':SQ mg "MOST_ROWS" 2000
 cM':SQ mg "MOST_PARTS" 200
 ZX:SQ mg "MOST_WORDS" 200
 gH':GlD w K mg "ALONE" [("and", "yes"),("or", "no")]
 gI':GlD w K mg "JOINTS" [("and", "both"),("or", "either")]
section
variable {P:cy}{w:c9}{K:ay}{b:Str->Option ah}{a:d5}
structure ShT(P:cy)(w:c9)(K:ay)(b:Str->Option ah)(a:d5)(C fi fp:ai)(di dp:sF)(Pp:ai)(pi':sF)(Pt:ai)(pj':sF):Prop where
 gl:b "Sheet" = some (.ref C)
 mkk:Mk K C fi
 cls:wo K C
 n1:wq K C "rows"
 n2:wq K C "places"
 init:mS P w K b a kB 1 fi di ["self"] (pU K P w)
 bi:Binds K di ["self"] []
 pm':Meth K C "put" fp
 put:mS P w K b a kB 1 fp dp ["self", "row"] (vH K P w)
 bp:Binds K dp ["self", "row"] []
 pn':Meth K C "rows_read" Pp
 po':Binds K pi' ["self", "last"] []
 pp':Meth K C "scroll_to" Pt
 pq':Binds K pj' ["self", "last"] []
def Hn:Bi ["self", "row"] ["self", "row"] (fF lY):=⟨rfl,rfl,rfl,by decide +kernel,rfl,by decide +kernel,by decide +kernel⟩
def Jm {f:ai} {d:sF} (F:vi K "put" "Sheet.put" lY f d) (g:b "len" = none):mS P w K b a kB 1 f d ["self", "row"] (vH K P w) :=
 Ir F Hn λi A c s H E e=>G5 (by have h:=e.units;show(A.deeper (ri "Sheet.put" (fF lY) s.heap.objs.size f i)).units+14<f7;lia) rfl g (λ_=>Uo rfl (.inl rfl)) (λ_=>Uo rfl (.inl rfl)) (λ_ _=>rfl) rfl (λ_ _ _=>rfl)
def Ea:Bi ["self"] ["self"] (fF jo):=⟨rfl,rfl,rfl,by decide +kernel,rfl,by decide +kernel,by decide +kernel⟩
def Dw {f:ai} {d:sF} (F:vi K "__init__" "Sheet.__init__" jo f d):mS P w K b a kB 1 f d ["self"] (pU K P w) :=
 Ex F Ea λg A c s H E e=>Fd (λ_=>Uo rfl (.inl rfl))
end
def us1{a:List ah}(h:a.length=1):∃ c,a=[c]:=by
 cases a with
 |nil=>simp at h
 |cons c a =>
 cases a with
 |nil=>exact⟨_,rfl⟩
 |cons b a=>simp at h
def us2{a:List ah}(h:a.length=2):∃ d c,a=[d,c]:=by
 cases a with
 |nil=>simp at h
 |cons d a =>
 cases a with
 |nil=>simp at h
 |cons c a =>
 cases a with
 |nil=>exact⟨_,_,rfl⟩
 |cons b a=>simp at h
abbrev FA(K:ay)(x:Str)(s:kf):Prop:=∃ (f:ai) (e:ah) (d i:Option ai) (j:Array (Option ah)) (g a c b h:ah),mM K iP x=some (some (.ref f))/\K.lookup f=some ⟨e,d,.func (tT x x (ya s) (oz s) (fF s) .none g a c i b h),j⟩/\DI K b x=true/\yv K (.ref f)=true
def bD{K:ay}{h:d5}{b:Str->Option ah}{x:Str}{s:kf}(X:K.In h)(G:h.Ns iP b)(a:FA K x s):∃ f d,b x=some (.ref f)/\vi K x x s f d:=by obtain⟨f,_,_,_,_,_,_,_,_,_,a,l,c,k⟩:=a;exact⟨_,_,B1 X G a,Sz l c k⟩
def Ou{K:ay}{x:Str}{s:kf}{f:ai}{h:ah}{g m:Option ai}{n:Array (Option ah)}{i b e d j:ah}(a:mM K iP x=some (some (.ref f)))(l:K.lookup f=some ⟨h,g,.func (tT x x (ya s) (oz s) (fF s) .none i b e m d j),n⟩)(c:DI K d x=true)(k:yv K (.ref f)=true):FA K x s:=⟨_,_,_,_,_,_,_,_,_,_,a,l,c,k⟩
set_option maxHeartbeats 0 in
def all_mk {l:Z4} {w:c9} {K:ay} {h:d5} {f:Str->Option ah} {fa:ai} (X:K.In h) (G:h.Ns iP f) (p:f "law" = some (.ref fa))(a0:FA K "drawn" (top 7))(a1:FA K "renumbered" (top 8))(a2:FA K "is_open" (top 14))(a3:FA K "is_deed" (top 15))(a4:FA K "is_whole" (top 17))(a5:FA K "is_ahead" (top 21))(a6:FA K "are_parts" (top 22))(a7:FA K "is_row" (top 23))(a8:FA K "is_scroll" (top 24))(a9:FA K "check_scroll" (top 25))(f3:FA K "read_deed" (top 27))(fy:FA K "check_text" (top 32))(fx:FA K "heads_of" (top 33))(fw:FA K "taken" (top 34))(fv:FA K "row_of" (top 35))(fo:FA K "read_sentence" (top 36))(fm:FA K "words_joined" (top 37))(fl:FA K "words_of" (top 38))(fh:FA K "tell" (top 39))(fg:FA K "_law_cell_at" (top 41))(ff:FA K "_law_deeds" (top 42))(fe:FA K "_law_steps" (top 43))(fc:FA K "_law_words" (top 44))(fb:FA K "_law_marks" (top 45))(e9:FA K "_law_step_said" (top 46))(e8:FA K "_law_said" (top 47))(e7:FA K "_law_numbers" (top 48))(e6:FA K "_law_is_row" (top 49))(e5:FA K "_law_is_scroll" (top 50))(e4:FA K "_law_out" (top 51))(e3:FA K "_law_truth" (top 52))(e2:FA K "_law_truths" (top 53))(e1:FA K "_law_depth" (top 54))(e0:FA K "_law_nested" (top 55))(ez:FA K "_law_drawn" (top 56))(ey:mM K iP "law" = some (some (.ref I))) (d2:K.lookup I=some ⟨j2,k1,.func (tT "law" "law" (ya tU) (oz tU) (fF tU) .none U d4 cb ek o ab),j1⟩) (ew:DI K o "law" = true) (d3:yv K (.ref I)=true)(Vs:mM K iP "all" = some none)(ZT:mM K iP "bool" = some none)(eu:mM K iP "enumerate" = some none)(ZU:mM K iP "int" = some none)(tP:mM K iP "isinstance" = some none)(hU:mM K iP "len" = some none)(Tz:mM K iP "list" = some none)(ZV:mM K iP "max" = some none)(xB:mM K iP "range" = some none)(et:mM K iP "reversed" = some none)(es:mM K iP "set" = some none)(ZW:mM K iP "sorted" = some none)(LD:mM K iP "str" = some none)(Pm:mM K iP "tuple" = some none){b4:Tok} (er:mM K iP "HIDDEN" = some (some (.str "*" b4))){b3:Tok} (ep:mM K iP "LETTERS" = some (some (.str "abcdefghijklmnopqrstuvwxyz" b3))){b2:Tok} (eo:mM K iP "MOST_LETTERS" = some (some (.int 6 b2))){b1:Tok} (en:mM K iP "MOST_ROWS" = some (some (.int 2000 b1))){b0:Tok} (el:mM K iP "MOST_PARTS" = some (some (.int 200 b0))){bt:Tok} (ZX:mM K iP "MOST_WORDS" = some (some (.int 200 bt))){F br:Nat} {E D B A:Tok} (bp:mM K iP "ALONE" = some (some (.ref F))) (bl:K.lookup F=some { cls:=.type "dict",data:=.dict #[⟨Uc w.params "and",.str "and" E,.str "yes" D⟩,⟨Uc w.params "or",.str "or" B,.str "no" A⟩] br }) {z bg:Nat} {y x u t:Tok} (bc:mM K iP "JOINTS" = some (some (.ref z))) (bb:K.lookup z=some { cls:=.type "dict",data:=.dict #[⟨Uc w.params "and",.str "and" y,.str "both" x⟩,⟨Uc w.params "or",.str "or" u,.str "either" t⟩] bg }) {C J H N M:ai} (sa:mM K iP "Sheet" = some (some (.ref C))) (s1:Z3 K C=true) (s4:yv K (.ref C)=true) (s5:TB K C Str.empty=true) (s6:Vu K C=true) (s7:Z0 K C=true) (s8:tS K (.ref C) "__setattr__" = some (some (.builtin "object.__setattr__"))) (s9:tS K (.ref C) "rows" = some none) (s0:tS K (.ref C) "places" = some none) (hi:tS K (.ref C) "__init__" = some (some (.ref J))) (ed:K.lookup J=some ⟨kp,k0,.func (tT "__init__" "Sheet.__init__" (ya jo) (oz jo) (fF jo) .none kb ks kn kv ea ke),kl⟩) (ej:DI K ea "Sheet.__init__" = true) (ee:yv K (.ref J)=true) (eg:LG K (.ref J)=true) (hp:tS K (.ref C) "put" = some (some (.ref H))) (ec:K.lookup H=some ⟨ko,kx,.func (tT "put" "Sheet.put" (ya lY) (oz lY) (fF lY) .none ka kq km ku d6 kd),kk⟩) (ei:DI K d6 "Sheet.put" = true) (n:yv K (.ref H)=true) (ef:LG K (.ref H)=true) (eb:tS K (.ref C) "rows_read" = some (some (.ref N))) (ba:K.lookup N=some ⟨j0,jw,.func (tT "rows_read" "Sheet.rows_read" (ya (Fc 9 3)) (oz (Fc 9 3)) (fF (Fc 9 3)) .none jv js jn jm aw jl),i8⟩) (ar:DI K aw "Sheet.rows_read" = true) (r:yv K (.ref N)=true) (af:LG K (.ref N)=true) (AG:tS K (.ref C) "scroll_to" = some (some (.ref M))) (Z:K.lookup M=some ⟨i7,i5,.func (tT "scroll_to" "Sheet.scroll_to" (ya (Fc 9 4)) (oz (Fc 9 4)) (fF (Fc 9 4)) .none i4 i2 i1 i0 ae iy),iv⟩) (b6:DI K ae "Sheet.scroll_to" = true) (q:yv K (.ref M)=true) (b5:LG K (.ref M)=true)
  : ∃ fd:sF,(∀ (s:aI) (v:ah),BindsTo s fd ⟨[v],[]⟩ [("_law_script",v)])/\∀ b:d5,K.In b->b.Ns iP f->mS l.prog w K f b kB 8 fa fd ["_law_script"] (gJ K ZR):=by
 have e:=p.symm.trans (B1 X G ey);cases e;have T:Txt w K f:=⟨xC X G Vs,xC X G ZT,xC X G eu,xC X G ZU,xC X G tP,xC X G hU,xC X G Tz,xC X G ZV,xC X G xB,xC X G et,xC X G es,xC X G ZW,xC X G LD,xC X G Pm,⟨_,B1 X G er⟩,⟨_,B1 X G ep⟩,⟨_,B1 X G eo⟩,⟨_,B1 X G en⟩,⟨_,B1 X G el⟩,⟨_,B1 X G ZX⟩,⟨_,[("and",E, "yes",D),("or",B, "no",A)],_,B1 X G bp,bl,rfl⟩,⟨_,[("and",y, "both",x),("or",u, "either",t)],_,B1 X G bc,bb,rfl⟩⟩
 obtain⟨_,_,m0,F0⟩:=bD X G a0;obtain⟨_,_,m1,F1⟩:=bD X G a1;obtain⟨_,_,m2,F2⟩:=bD X G a2;obtain⟨_,_,m3,F3⟩:=bD X G a3;obtain⟨_,_,m4,F4⟩:=bD X G a4;obtain⟨_,_,m5,F5⟩:=bD X G a5;obtain⟨_,_,m6,F6⟩:=bD X G a6;obtain⟨_,_,m7,F7⟩:=bD X G a7;obtain⟨_,_,m8,F8⟩:=bD X G a8;obtain⟨_,_,m9,F9⟩:=bD X G a9;obtain⟨_,_,d1,hv⟩:=bD X G f3;obtain⟨_,_,d0,ht⟩:=bD X G fy;obtain⟨_,_,dx,hs⟩:=bD X G fx;obtain⟨_,_,dv,hq⟩:=bD X G fw;obtain⟨_,_,dt,ho⟩:=bD X G fv;obtain⟨_,_,dp,hn⟩:=bD X G fo;obtain⟨_,_,dm,hk⟩:=bD X G fm;obtain⟨_,_,dj,hj⟩:=bD X G fl;obtain⟨_,_,di,hh⟩:=bD X G fh;obtain⟨_,_,dd,hg⟩:=bD X G fg;obtain⟨_,_,da,hc⟩:=bD X G ff;obtain⟨_,_,c8,hb⟩:=bD X G fe;obtain⟨_,_,c6,ha⟩:=bD X G fc;obtain⟨_,_,c5,g9⟩:=bD X G fb;obtain⟨_,_,c4,g7⟩:=bD X G e9;obtain⟨_,_,c3,g6⟩:=bD X G e8;obtain⟨_,_,c2,g5⟩:=bD X G e7;obtain⟨_,_,c1,g4⟩:=bD X G e6;obtain⟨_,_,c0,g0⟩:=bD X G e5;obtain⟨_,_,cw,gz⟩:=bD X G e4;obtain⟨_,_,ct,gx⟩:=bD X G e3;obtain⟨_,_,cq,gs⟩:=bD X G e2;obtain⟨_,_,cm,gg⟩:=bD X G e1;obtain⟨_,_,cg,gc⟩:=bD X G e0;obtain⟨_,_,cc,f6⟩:=bD X G ez;have f5:=Sz (st:=tU) d2 ew d3;refine⟨tT "law" "law" (ya tU) (oz tU) (fF tU) .none U d4 cb ek o ab,λs v=>.of_eq rfl,λb _ _=>?_⟩;have Gi:=Sz (st:=jo) ed ej ee;have Gp:=Sz (st:=lY) ec ei n;have P:=Sz (st:=(Fc 9 3)) ba ar r;have O:=Sz (st:=(Fc 9 4)) Z b6 q;have c:ShT l.prog w K f b C J H _ _ N _ M _:=⟨B1 X G sa,⟨s1,hi,eg,s4⟩,⟨s5,s6,s7,s8⟩,s9,s0,Dw Gi,Gi.binds λ_ _ _ _ _ _ Y g=>by obtain⟨_,rfl⟩:=us1 g;rfl,⟨hp,ef,n⟩,Jm Gp (xC X G hU),Gp.binds λ_ _ _ _ _ _ Y g=>by obtain⟨_,_,rfl⟩:=us2 g;rfl,⟨eb,af,r⟩,P.binds λ_ _ _ _ _ _ Y g=>by obtain⟨_,_,rfl⟩:=us2 g;rfl,⟨AG,b5,q⟩,O.binds λ_ _ _ _ _ _ Y g=>by obtain⟨_,_,rfl⟩:=us2 g;rfl⟩
 have a:=@bQ'.mk l.prog w K f b;have ml:=@oJ'.mk l.prog w K f b;have mo:=@ct'.mk l.prog w K f b C;obtain C0:=(a m0 F0 ["row"] 1 0 Ip (aj (aM (tj (dW (aA gu aX (ck (qv 0) ao) aJ) (cM (aA gu aX (ck (qv 0) ao) aJ)))) (ak (aK (bQ (aa (ck (qv 0) ao) au))))
   aB)
   (aj (aM (aA gu aX (ck (qv 0) ao) aJ)
   (ak (aK (bQ (aa (ck (qv 0) ao) au))))
   aB)
   (ak (aK (qb oH zG T.Tz p_ (ck (qv 0) ao))))))).1
 obtain C1:=(a m1 F1 ["row", "numbers"] 2 0 qT (aj (aM (tj (dW (aA gu aX (ck (qv 0) ao) aJ) (cM (aA gu aX (ck (qv 0) ao) aJ)))) (ak (aK (bZ (aa (ck (qv 0) ao) (aa (ck (qv 0) ao) (aa (ck (qv 1) (ck (qv 0) ao)) au))))))
   aB)
   (aj (aM (aA gu aX (ck (qv 0) ao) aJ)
   (ak (aK (bZ (aa (ck (qv 0) ao) (aa (ck (qv 1) (ck (qv 0) ao)) au)))))
   aB)
   (ak (aK (bZ (aa (ck (qv 0) ao) (aa (qb Kg Et T.Pm je (cj (tn:=["part"]) (cn:=["numbers"]) (ix:=[1]) (su (ck (qv 0) ao)) (aF 0) b8 (ck (qv 1) (qv 0)))) au)))))))).1
 obtain C2:=(a m2 F2 ["thing"] 1 0 BK (aj (aM (tj (dW (bL (cU (gF T.tP (qv 0) (gB T.LD oJ)))) (cM (bL (k_ i_ i_ pL pL ao (aG az aO T.hU aN (qv 0)) (UR T.cK')))))) (ak (aK vn))
   aB)
   (ak (aK (aG bq' zM T.Vs BL (cj (tn:=["sign"]) (cn:=[]) (ix:=[]) (jZ (Kv (qv 0))) (aF 0) b8 (fO iN nq (qv 0) (fx' T.cJ')))))))).1
 obtain C4:=(a m4 F4 ["thing"] 1 0 xQ (ak (aK (iH (gF T.tP (qv 0) (gB T.ZU Az)) (j9 (Hu (gF T.tP (qv 0) (gB T.ZT Ao)))))))).1;obtain ik:=(a d0 ht ["thing"] 1 0 qM (ak (aM (bL (cU (gF T.tP (qv 0) (gB T.LD oJ))))
   cN
   aB))).1
 obtain W:=ml dv hq ["waiting"] 1 0 Ac JM (aj (aM (aA gu aX (aG az aO T.hU aN (vd (pv 0))) ao)
   cN
   aB)
   (ak (mL 0 (vK (pv 0)))))
 obtain ic:=(a dm hk ["word", "parts", "words", "part"] 2 0 nP (aj (aM (aA gu aX (aG az aO T.hU aN (qv 1)) ao) (ak (aK (bQ (aa (ZF T.gH' (qv 0)) au))))
   aB)
   (aj (aD 2 (bQ au))
   (aj (cO 1 (b_ (eU (cP (qv 1) cT (bY (mQ ao)))) (aF 3)
   (ak (KZ (aQ (pv 2)) (bJ (bQ (aa (ZF T.gI' (qv 0)) au)) (qv 3))))))
   (ak (aK (bJ (qv 2) (ck (qv 1) (mQ ao))))))))).1
 obtain L:=(a dd hg ["_law_script", "_law_k"] 2 0 nM (aj (aM (aA fK lC (qv 1) (aG az aO T.hU aN (qv 0))) (ak (aK (ck (qv 0) (qv 1))))
   aB)
   (ak (aK ao)))).1
 obtain h9:=(a da hc ["_law_cell", "_law_turn", "_law_letters", "_law_size", "_law_places", "_law_k", "_law_word", "_law_at", "_law_found", "_law_sign"] 2 0 qP (aj (aD 2 aJ) (aj (aD 3 (bJ ao (cY (qv 0) ao))) (aj (aD 0 (nJ (qv 0) ao)) (aj (aD 4 (bQ au)) (aj (b_ (cQ T.xB (qv 3)) (aF 5) (aj (bz (aQ (pv 4)) (cY (qv 0) ao)) (ak (aD 0 (nJ (qv 0) ao))))) (aj (aD 6 (zH aJ (cj (tn:=["_law_k"]) (cn:=["_law_letters"]) (ix:=[2]) (jE (qv 4)) (aF 0) b8 (ck (qv 1) (qv 0))))) (aj (aM (aA gu aX (cY (nJ (qv 1) ao) ao) ao) (ak (aK (cj (tn:=["_law_k"]) (cn:=["_law_word"]) (ix:=[6]) (jZ (Jh T.xB ao ao)) (aF 0) b8 (cP (K7 ao (qv 1)) cT (bY (qv 0))))))
   aB)
   (aj (aD 7 (cY (qv 1) (qv 3)))
   (aj (aD 8 (bQ au))
   (aj (b_ (cQ T.xB ao) (aF 5)
   (aj (aD 9 (ck (qv 2) (cY (bJ (ck (qv 4) (qv 7)) (sE ao (qv 5))) ao)))
   (ak (bz (aQ (pv 8)) (bJ (bJ (cP (qv 6) cT (bY (qv 7))) (qv 9)) (cP (qv 6) (bY (bJ (qv 7) ao)) cT))))))
   (ak (fW (pv 8)))))))))))))).1
 obtain h8:=(a c8 hb ["_law_cells", "_law_many", "_law_deeds_here", "_law_found", "_law_k", "_law_number", "_law_deed"] 3 0 qX (aj (aD 3 (bQ au)) (aj (b_ (cQ T.xB (aG az aO T.hU aN (qv 0))) (aF 4) (aj (aD 5 (cY (sE (bJ (cY (ck (qv 0) (qv 4)) ao) ao) (bJ ao (sE ao (qv 4)))) ao)) (aj (aD 6 (ck (qv 2) (cY (nJ (qv 5) (qv 1)) (aG az aO T.hU aN (qv 2))))) (ak (cO 6 (bz (aQ (pv 3)) (bZ (aa (cY (qv 5) (qv 1)) (aa (qv 6) (aa (cY (nJ (qv 5) (sE (qv 1) (aG az aO T.hU aN (qv 2)))) (qv 1)) au)))))))))) (ak (fW (pv 3)))))).1
 obtain h7:=(a c6 ha ["_law_cells", "_law_tail", "_law_names", "_law_words_here", "_law_need", "_law_k", "_law_number", "_law_way"] 3 0 sV (aj (aD 3 (bQ au)) (aj (aD 4 ao) (aj (b_ (cQ T.xB (aG az aO T.hU aN (qv 0))) (aF 5) (aj (aD 6 (cY (sE (bJ (cY (ck (qv 0) (qv 5)) ao) ao) (bJ ao (sE ao (qv 5)))) ao)) (aj (aD 7 (cY (qv 6) ao)) (ak (aM (tj (Ld (aA fK lC (qv 7) ao) (Jz (aA oA xM (qv 4) ao)))) (aj (bz (aQ (pv 3)) (ck (bQ (aa aJ (aa aJ au))) (qv 7))) (ak (aD 4 (Li (qv 4) ao)))) (ak (aM (aA fK lC (qv 7) ao) (ak (bz (aQ (pv 3)) aJ)) (ak (aM (aA fK lC (qv 7) ao) (ak (aD 3 (bJ (qv 3) (bQ (aa (ck (bQ (aa aJ (aa aJ au))) (cY (nJ (qv 6) ao) ao)) (aa (ck (qv 2) (cY (nJ (qv 6) ao) (aG az aO T.hU aN (qv 2)))) au)))))) (aj (bz (aQ (pv 3)) (ck (bQ (aa aJ (aa aJ au))) (cY (nJ (qv 6) ao) ao))) (ak (aD 4 (bJ (qv 4) ao))))))))))))) (aj (b_ (cQ T.xB (qv 4)) (aF 5) (ak (bz (aQ (pv 3)) (ck (bQ (aa aJ (aa aJ au))) (cY (cY (sE (sE (bJ (cY (qv 1) ao) ao) (bJ (qv 5) ao)) ao) ao) ao))))) (ak (fW (pv 3)))))))).1
 obtain V:=(a c5 g9 ["_law_words_here", "_law_found", "_law_at"] 1 0 rP (aj (aD 1 (bQ au)) (aj (aD 2 ao) (aj (pJ (aA fK lC (qv 2) (aG az aO T.hU aN (qv 0))) (ak (aM (aA iN nq (ck (qv 0) (qv 2)) (bZ (aa aJ (aa aJ au)))) (aj (bz (aQ (pv 1)) (bZ (aa (ck (qv 0) (qv 2)) (aa (ck (qv 0) (bJ (qv 2) ao)) au)))) (ak (aD 2 (bJ (qv 2) ao)))) (aj (bz (aQ (pv 1)) (bZ (aa (ck (qv 0) (qv 2)) (aa aJ au)))) (ak (aD 2 (bJ (qv 2) ao))))))) (ak (aK (N6 (qv 1) cT cT (bY (mQ ao))))))))).1
 obtain h6:=(a c4 g7 ["_law_word", "_law_deed", "_law_p", "_law_out_here", "_law_part", "_law_goals"] 5 0 kj (aj (cO 1 (cO 2 (aD 5 (Ht (qv 3) (bZ (aa (qv 2) (aa (qv 1) au))) (bQ au))))) (aj (aM (aA gu aX (qv 0) aJ) (ak (aK (fO oA xM (aG az aO T.hU aN (cj (tn:=["_law_q"]) (cn:=["_law_part"]) (ix:=[4]) (jE (qv 5)) (aF 0) (jz (jA (ck (qv 1) (qv 0)))) (qv 0))) ao)))
   aB)
   (ak (aK (fO gu aX (aG az aO T.hU aN (cj (tn:=["_law_q"]) (cn:=["_law_part"]) (ix:=[4]) (jE (qv 5)) (aF 0) (jz (bL (jA (ck (qv 1) (qv 0))))) (qv 0))) ao)))))).1
 obtain j:=(a c2 g5 ["_law_some", "_law_k", "_law_j"] 2 0 nG (aj (cO 0 (b_ (Ft (qv 0)) (aF 2) (ak (aM (tj (dW (bL (cU (gF T.tP (qv 2) (gB T.ZU Az)))) (dW (cU (gF T.tP (qv 2) (gB T.ZT Ao))) (cM (bL (k_ i_ fK pL lC ao (qv 2) (qv 1))))))) (ak (aK vn))
   aB))))
   (ak (aK vn)))).1
 obtain R:=(a cw gz ["_law_m", "_law_found", "_law_p", "_law_deed", "_law_r"] 1 0 wU (aj (aD 1 G6) (aj (cO 0 (b_ (eU (ck (qv 0) ao)) (vY (cX (aF 2) (cX (aF 3) (cX (aF 4) pQ)))) (ak (cO 4 (cO 3 (cO 2 (Nh (pv 1) (bZ (aa (qv 2) (aa (qv 3) au))) (qv 4)))))))) (ak (fW (pv 1)))))).1
 obtain h3:=(a ct gx ["_law_row", "_law_p", "_law_out_here", "_law_lists"] 4 0 rM (aj (aM (aA gu aX (ck (qv 0) ao) aJ) (ak (cO 1 (aK (fO oA xM (aG az aO T.hU aN (cj (tn:=["_law_q"]) (cn:=["_law_lists", "_law_row"]) (ix:=[3,0]) (jE (Ht (qv 2) (bZ (aa (qv 1) (aa (ck (qv 0) ao) au))) (bQ au))) (aF 0) (jz (jA (ck (ck (qv 1) (ck (qv 2) ao)) (qv 0)))) (qv 0))) ao))))
   aB)
   (aj (aM (aA gu aX (ck (qv 0) ao) aJ)
   (ak (cO 1 (aK (fO gu aX (aG az aO T.hU aN (cj (tn:=["_law_q"]) (cn:=["_law_lists", "_law_row"]) (ix:=[3,0]) (jE (Ht (qv 2) (bZ (aa (qv 1) (aa (ck (qv 0) ao) au))) (bQ au))) (aF 0) (jz (bL (jA (ck (ck (qv 1) (ck (qv 2) ao)) (qv 0))))) (qv 0))) ao))))
   aB)
   (aj (aM (aA gu aX (ck (qv 0) ao) aJ)
   (ak (aK (Hu (ck (ck (qv 3) (ck (qv 0) ao)) (qv 1)))))
   aB)
   (aj (aM (aA gu aX (ck (qv 0) ao) aJ)
   (ak (aK (fO gu aX (aG az aO T.hU aN (cj (tn:=["_law_j"]) (cn:=["_law_lists", "_law_p"]) (ix:=[3,1]) (su (ck (qv 0) ao)) (aF 0) (jz (bL (jA (ck (ck (qv 1) (qv 0)) (qv 2))))) (qv 0))) ao)))
   aB)
   (ak (aK (fO oA xM (aG az aO T.hU aN (cj (tn:=["_law_j"]) (cn:=["_law_lists", "_law_p"]) (ix:=[3,1]) (su (ck (qv 0) ao)) (aF 0) (jz (jA (ck (ck (qv 1) (qv 0)) (qv 2)))) (qv 0))) ao)))))))).1
 obtain h2:=(a cm gg ["_law_scroll", "_law_found", "_law_row"] 1 0 qJ (aj (aD 1 (bQ au)) (aj (cO 0 (b_ (eU (qv 0)) (aF 2) (ak (aM (aA iN nq (ck (qv 2) ao) (bZ (aa aJ (aa aJ au)))) (ak (bz (aQ (pv 1)) (bJ (ck (qv 1) (ck (qv 2) ao)) ao))) (ak (aM (aA gu aX (ck (qv 2) ao) aJ) (ak (bz (aQ (pv 1)) (ck (qv 1) (ck (qv 2) ao)))) (ak (bz (aQ (pv 1)) (Ly rfl T.ZV (cj (tn:=["_law_j"]) (cn:=["_law_found"]) (ix:=[1]) (su (ck (qv 2) ao)) (aF 0) b8 (ck (qv 1) (qv 0))) ao))))))))) (ak (aK (ck (qv 1) (mQ ao))))))).1
 obtain C3:=(a m3 F3 ["thing"] 1 1 zc (ak (aK (fy' (aV C2 (aa (qv 0) au)) (j9 (iH (gF T.tP (qv 0) (gB T.LD oJ)) (j9 (fO gu aX (qv 0) (fx' T.cI'))))))))).1;obtain C5:=(a m5 F5 ["k", "thing"] 2 1 xR (ak (aK (iH (aV C4 (aa (qv 1) au)) (j9 (Jo i_ fK pL lC ao (qv 1) (qv 0))))))).1;obtain ih:=ml dt ho ["head", "waiting", "word", "first", "second"] 2 1 xX C_ (λ{_ _ _ _ _ _ d hu nd _}=>(aj (aM (tj (dW (aA gu aX (ck (qv 0) ao) aJ) (cM (aA gu aX (ck (qv 0) ao) aJ)))) (ak (mL 1 (Fi (lQ (tY (ck (qv 0) ao)) (lQ (tY (ck (qv 0) ao)) (lQ (lJ W (d.mono (by decide)) (lU (pv 1))) F_))))))
   aB)
   (aj (aM (aA gu aX (ck (qv 0) ao) aJ)
   (ak (mL 1 (Fi (lQ (tY aJ) (lQ (lJ W (d.mono (by decide)) (lU (pv 1))) F_)))))
   aB)
   (aj (b_ (Ft (bZ (aa aJ (aa aJ au)))) (aF 2)
   (aj (aM (aA gu aX (ck (qv 0) ao) (ZF T.gH' (qv 2)))
   (ak (mL 1 (tY (bZ (aa (qv 2) (aa (bZ au) au))))))
   aB)
   (ak (aM (aA gu aX (ck (qv 0) ao) (ZF T.gI' (qv 2)))
   (aj (Ae 3 (lJ W (d.mono (by decide)) (lU (pv 1))))
   (aj (Ae 4 (lJ W (d.mono (by decide)) (lU (pv 1))))
   (ak (cO 4 (cO 3 (mL 1 (tY (bZ (aa (qv 2) (aa (bZ (aa (qv 3) (aa (qv 4) au))) au))))))))))
   aB))))
   (ak Dn)))))
 obtain ib:=(a dj hj ["row", "told", "parts", "words"] 2 1 w6 (aj (uH 2 (tn:=["part"]) (cn:=["told"]) (ix:=[1]) (jE (aV C0 (aa (qv 0) au))) (aF 0) b8 (ck (qv 1) (qv 0))) (aj (aM (aA ol' Mr DQ (qv 2)) (ak (aK DQ))
   aB)
   (aj (aM (tj (dW (aA gu aX (ck (qv 0) ao) aJ) (cM (aA gu aX (ck (qv 0) ao) aJ))))
   (ak (aD 3 (bJ (bQ (aa (ck (qv 0) ao) (aa (ck (qv 0) ao) au))) (ck (qv 2) ao))))
   (ak (aM (aA gu aX (ck (qv 0) ao) aJ)
   (ak (aD 3 (bJ (bQ (aa aJ au)) (ck (qv 2) ao))))
   (ak (aD 3 (aV ic (aa (ck (qv 0) ao) (aa (qv 2) au))))))))
   (ak (Ez (aA i_ pL (aG az aO T.hU aN (qv 3)) (UR T.ZX)) (pv 3) DQ)))))).1
 obtain h5:=(a c3 g6 ["_law_m", "_law_words_here", "_law_out_here", "_law_stack", "_law_word", "_law_deed", "_law_part", "_law_other"] 2 1 tO (aj (aD 2 (aV R (aa (qv 0) au))) (aj (aD 3 (bQ au)) (aj (b_ (eU (aV V (aa (qv 1) au))) (vY (cX (aF 4) (cX (aF 5) pQ))) (aj (aM (aA iN nq (qv 4) (bZ (aa aJ (aa aJ au)))) (aj (bz (aQ (pv 3)) (cj (tn:=["_law_p"]) (cn:=["_law_word"]) (ix:=[4]) (jZ (cQ T.xB (ck (qv 0) ao))) (aF 0) b8 (fO gu aX (qv 1) aJ))) (ak tG))
   aB)
   (aj (yF 6 (pv 3))
   (ak (aM (aA gu aX (qv 4) aJ)
   (ak (bz (aQ (pv 3)) (cj (tn:=["_law_p"]) (cn:=["_law_part"]) (ix:=[6]) (jZ (cQ T.xB (ck (qv 0) ao))) (aF 0) b8 (Hu (ck (qv 1) (qv 0))))))
   (ak (aM (aA iN nq (qv 4) (bZ (aa aJ (aa aJ au))))
   (ak (bz (aQ (pv 3)) (cj (tn:=["_law_p"]) (cn:=["_law_deed", "_law_out_here", "_law_part", "_law_word"]) (ix:=[5,2,6,4]) (jZ (cQ T.xB (ck (qv 0) ao))) (aF 0) b8 (aV h6 (aa (qv 4) (aa (qv 1) (aa (qv 0) (aa (qv 2) (aa (qv 3) au)))))))))
   (aj (yF 7 (pv 3))
   (ak (aM (aA gu aX (qv 4) aJ)
   (ak (bz (aQ (pv 3)) (cj (tn:=["_law_p"]) (cn:=["_law_other", "_law_part"]) (ix:=[7,6]) (jZ (cQ T.xB (ck (qv 0) ao))) (aF 0) b8 (iH (ck (qv 2) (qv 0)) (j9 (ck (qv 1) (qv 0)))))))
   (ak (bz (aQ (pv 3)) (cj (tn:=["_law_p"]) (cn:=["_law_other", "_law_part"]) (ix:=[7,6]) (jZ (cQ T.xB (ck (qv 0) ao))) (aF 0) b8 (fy' (ck (qv 2) (qv 0)) (j9 (ck (qv 1) (qv 0)))))))))))))))))
   (ak (uU (pv 3) (mQ ao))))))).1
 obtain h4:=(a c1 g4 ["_law_row", "_law_k"] 2 1 ql (aj (aM (tj (dW (bL (cU (gF T.tP (qv 0) (gB T.Pm je)))) (dW (aA fK lC (aG az aO T.hU aN (qv 0)) ao) (cM (bL (cU (gF T.tP (ck (qv 0) ao) (gB T.LD oJ)))))))) (ak (aK vn))
   aB)
   (aj (aM (aA iN nq (ck (qv 0) ao) (bZ (aa aJ (aa aJ au))))
   (ak (aK (iH (fO gu aX (aG az aO T.hU aN (qv 0)) ao) (iH (gF T.tP (ck (qv 0) ao) (gB T.Pm je)) (j9 (aV j (aa (ck (qv 0) ao) (aa (qv 1) au))))))))
   aB)
   (aj (aM (aA gu aX (ck (qv 0) ao) aJ)
   (ak (aK (iH (fO gu aX (aG az aO T.hU aN (qv 0)) ao) (j9 (aV j (aa (cP (qv 0) (bY ao) cT) (aa (qv 1) au)))))))
   aB)
   (ak (aK (iH (fO iN nq (ck (qv 0) ao) (bZ (aa aJ (aa aJ au)))) (iH (fO gu aX (aG az aO T.hU aN (qv 0)) ao) (iH (gF T.tP (ck (qv 0) ao) (gB T.LD oJ)) (j9 (aV j (aa (cP (qv 0) (bY ao) cT) (aa (qv 1) au))))))))))))).1
 obtain Q:=(a cq gs ["_law_m", "_law_scroll", "_law_out_here", "_law_lists", "_law_row"] 2 1 qy (aj (aD 2 (aV R (aa (qv 0) au))) (aj (aD 3 (bQ au)) (aj (cO 1 (b_ (eU (qv 1)) (aF 4) (ak (bz (aQ (pv 3)) (cj (tn:=["_law_p"]) (cn:=["_law_lists", "_law_out_here", "_law_row"]) (ix:=[3,2,4]) (jZ (cQ T.xB (ck (qv 0) ao))) (aF 0) b8 (aV h3 (aa (qv 3) (aa (qv 0) (aa (qv 2) (aa (qv 1) au)))))))))) (ak (uU (pv 3) (mQ ao))))))).1
 obtain h1:=(a cg gc ["_law_words_here", "_law_stack", "_law_word", "_law_deed"] 1 1 qG (aj (yU 1) (aj (b_ (eU (aV V (aa (qv 0) au))) (vY (cX (aF 2) (cX (aF 3) pQ))) (ak (aM (aA iN nq (qv 2) (bZ (aa aJ (aa aJ au)))) (ak (uC (pv 1) (tY ao))) (ak (aM (aA iN nq (qv 2) (bZ (aa aJ (aa aJ au)))) (ak (uC (pv 1) (JX (vK (pv 1)) (tY ao)))) (ak (aM (aA IY rA (qv 2) aJ) (ak (uC (pv 1) (CJ J2 G3 T.ZV Fw (vK (pv 1)) (vK (pv 1)))))
   aB)))))))
   (ak (aK (ck (vd (pv 1)) (mQ ao))))))).1
 obtain hz:=(a cc f6 ["_law_script", "_law_names", "_law_turn", "_law_words_here", "_law_way"] 2 1 qY (aj (aD 2 (aV L (aa (qv 0) (aa ao au)))) (aj (aD 3 (aV h7 (aa (cP (qv 0) (bY ao) (bY ao)) (aa (aV L (aa (qv 0) (aa ao au))) (aa (qv 1) au))))) (aj (aM (aA gu aX (cY (qv 2) ao) ao) (aj (aD 4 (cY (nJ (qv 2) ao) ao)) (aj (pJ (aA fK lC (aG az aO T.hU aN (qv 3)) ao) (ak (aM (aA gu aX (qv 4) ao) (ak (aD 3 (bJ (bQ (aa aJ au)) (qv 3)))) (ak (aD 3 (bJ (bQ (aa (ck (bQ (aa aJ (aa aJ au))) (Li (qv 4) ao)) (aa (ck (qv 1) (cY (aG az aO T.hU aN (qv 3)) (aG az aO T.hU aN (qv 1)))) au))) (qv 3))))))) (ak (aM (aA fK lC (aG az aO T.hU aN (qv 3)) ao) (ak (aD 3 (bJ (bQ (aa aJ au)) (qv 3))))
   aB))))
   aB)
   (ak (fW (pv 3))))))).1
 obtain C6:=(a m6 F6 ["k", "thing"] 2 2 ud (aj (aM (tj (dW (bL (cU (gF T.tP (qv 1) (gB T.Pm je)))) (cM (aA oA xM (aG az aO T.hU aN (qv 1)) (UR T.cM'))))) (ak (aK vn))
   aB)
   (ak (aK (aG bq' zM T.Vs BL (cj (tn:=["part"]) (cn:=["k"]) (ix:=[0]) (su (qv 1)) (aF 0) b8 (aV C5 (aa (qv 1) (aa (qv 0) au))))))))).1
 obtain iq:=(a d1 hv ["word"] 1 2 uF (aj (aM (bL (cU (aV C3 (aa (qv 0) au))))
   cN
   aB)
   (ak (fW (pv 0))))).1
 obtain S:=(a c0 g0 ["_law_found", "_law_most", "_law_k"] 2 2 j7 (aj (aM (tj (dW (bL (cU (gF T.tP (qv 0) (gB T.Tz p_)))) (cM (bL (k_ i_ i_ pL pL ao (aG az aO T.hU aN (qv 0)) (qv 1)))))) (ak (aK vn))
   aB)
   (aj (b_ (cQ T.xB (aG az aO T.hU aN (qv 0))) (aF 2)
   (ak (aM (bL (cU (aV h4 (aa (ck (qv 0) (qv 2)) (aa (qv 2) au)))))
   (ak (aK vn))
   aB)))
   (ak (aK vn))))).1
 obtain hy:=mo P ["self", "last", "wanted", "k", "part"] 2 2 (jy (sD K l.prog w C)) (aj (aD 2 (GF (qv 1) vn)) (aj (b_ (Jy T.xB (qv 1) (mQ ao) (mQ ao)) (aF 3) (ak (aM (aA iN nq (qv 3) (qv 2)) (ak (b_ (eU (aV C0 (aa (Af (C:=C) (pv 0) (qv 3)) au))) (aF 4) (ak (Bd (aQ (pv 2)) (qv 4) vn))))
   aB)))
   (ak (aK (aG Mv Eu T.ZW sZ (qv 2))))))
 obtain C7:=(a m7 F7 ["k", "thing"] 2 3 Dq (aj (aM (tj (dW (bL (cU (gF T.tP (qv 1) (gB T.Pm je)))) (dW (aA gu aX (aG az aO T.hU aN (qv 1)) ao) (cM (bL (cU (gF T.tP (ck (qv 1) ao) (gB T.LD oJ)))))))) (ak (aK vn))
   aB)
   (aj (aM (tj (dW (aA gu aX (ck (qv 1) ao) aJ) (cM (aA gu aX (ck (qv 1) ao) aJ))))
   (ak (aK (iH (fO gu aX (aG az aO T.hU aN (qv 1)) ao) (iH (aV C3 (aa (ck (qv 1) ao) au)) (j9 (aV C5 (aa (qv 0) (aa (ck (qv 1) ao) au))))))))
   aB)
   (aj (aM (aA gu aX (ck (qv 1) ao) aJ)
   (ak (aK (iH (fO gu aX (aG az aO T.hU aN (qv 1)) ao) (j9 (aV C5 (aa (qv 0) (aa (ck (qv 1) ao) au)))))))
   aB)
   (aj (aM (tj (dW (aA gu aX (ck (qv 1) ao) aJ) (cM (aA gu aX (ck (qv 1) ao) aJ))))
   (ak (aK (iH (fO gu aX (aG az aO T.hU aN (qv 1)) ao) (j9 (aV C6 (aa (qv 0) (aa (ck (qv 1) ao) au)))))))
   aB)
   (ak (aK vn))))))).1
 obtain ij:=(a dx hs ["words", "heads", "k"] 1 3 xq (aj (aD 1 (bQ au)) (aj (aD 2 ao) (aj (pJ (aA fK lC (qv 2) (aG az aO T.hU aN (qv 0))) (ak (aM (tj (dW (aA gu aX (ck (qv 0) (qv 2)) aJ) (cM (aA gu aX (ck (qv 0) (qv 2)) aJ)))) (aj (aM (aA gu aX (bJ (qv 2) ao) (aG az aO T.hU aN (qv 0)))
   cN
   aB)
   (aj (bz (aQ (pv 1)) (bZ (aa (ck (qv 0) (qv 2)) (aa (aV iq (aa (ck (qv 0) (bJ (qv 2) ao)) au)) au))))
   (ak (aD 2 (bJ (qv 2) ao)))))
   (aj (bz (aQ (pv 1)) (bZ (aa (ck (qv 0) (qv 2)) au)))
   (ak (aD 2 (bJ (qv 2) ao)))))))
   (ak (fW (pv 1))))))).1
 obtain hx:=mo O ["self", "last", "numbers", "scroll", "k"] 2 3 (jt (sD K l.prog w C)) (λ{_ _ _ _ _ _ d hu nd _}=>(aj (aD 2 Je) (aj (aD 3 (bQ au)) (aj (b_ (eU (Bu (pv 0) c.cls c.pn' hy (d.mono (by decide)) c.po' (aa (qv 1) au))) (aF 4) (aj (Bd (aQ (pv 2)) (qv 4) (aG az aO T.hU aN (qv 3))) (ak (bz (aQ (pv 3)) (aV C1 (aa (Af (C:=C) (pv 0) (qv 4)) (aa (qv 2) au))))))) (ak (fW (pv 3)))))))
 obtain C8:=(a m8 F8 ["thing"] 1 4 tL (aj (aM (tj (dW (bL (cU (gF T.tP (qv 0) (gB T.Tz p_)))) (cM (bL (k_ i_ i_ pL pL ao (aG az aO T.hU aN (qv 0)) (UR T.cL')))))) (ak (aK vn))
   aB)
   (ak (aK (aG bq' zM T.Vs BL (cj (tn:=["k", "row"]) (cn:=[]) (ix:=[]) (JD T.cF' (qv 0)) (vY (cX (aF 0) (cX (aF 1) pQ))) b8 (aV C7 (aa (qv 0) (aa (qv 1) au))))))))).1
 obtain m:=(a dp hn ["text", "words", "sheet", "waiting", "head"] 1 4 (mX (sD K l.prog w C)) (λ{_ _ _ _ _ _ d hu nd _}=>(aj (za (aV ik (aa (qv 0) au))) (aj (aD 1 (JN (qv 0) aJ)) (aj (aM (aA oA xM (aG az aO T.hU aN (qv 1)) (UR T.ZX))
   cN
   aB)
   (aj (Ih (i:=2) c.mkk c.cls c.n1 c.n2 c.init (d.mono (by decide)) c.gl c.bi)
   (aj (yU 3)
   (aj (b_ (Ml T.cG' (aV ij (aa (qv 1) au))) (aF 4)
   (ak (IW (pv 3) (pv 2) c.cls c.pm' c.put (d.mono (by decide)) c.bp (lJ ih (d.mono (by decide)) (Dl (qv 4) (lU (pv 3)))) (by decide))))
   (aj (aM (aA IY rA (aG az aO T.hU aN (vd (pv 3))) ao)
   cN
   aB)
   (ak (aK (Bu (pv 2) c.cls c.pp' hx (d.mono (by decide)) c.pq' (aa (ck (vd (pv 3)) ao) au))))))))))))).1
 obtain C9:=(a m9 F9 ["thing"] 1 5 m_ (ak (aM (bL (cU (aV C8 (aa (qv 0) au))))
   cN
   aB))).1
 obtain ia:=(a di hh ["scroll", "told", "row"] 1 6 J5 (aj (za (aV C9 (aa (qv 0) au))) (aj (aD 1 (bQ au)) (aj (cO 0 (b_ (eU (qv 0)) (aF 2) (ak (bz (aQ (pv 1)) (aV ib (aa (qv 2) (aa (qv 1) au))))))) (aj (aM (aA js' Kf (ck (qv 1) (mQ ao)) DQ)
   cN
   aB)
   (ak (aK (zH aJ (ck (qv 1) (mQ ao)))))))))).1
 exact(a p f5 ["_law_script", "_law_first", "_law_many", "_law_pool", "_law_names", "_law_m", "_law_words_here", "_law_text", "_law_found", "_law_kept", "_law_other"] 1 7 Pa (aj (aD 1 (aV L (aa (qv 0) (aa ao au)))) (aj (aD 2 (bJ ao (cY (qv 1) ao))) (aj (aD 3 (aV h9 (aa (aV L (aa (qv 0) (aa ao au))) (aa (aV L (aa (qv 0) (aa ao au))) au)))) (aj (aD 4 (bJ (bJ (bQ (aa aJ au)) (cP (qv 3) cT (bY ao))) (cP (cP (bQ (aa aJ (aa aJ (aa aJ (aa aJ (aa aJ (aa aJ (aa aJ au)))))))) (bY (cY (nJ (qv 1) ao) ao)) cT) cT (bY ao)))) (by(refine aj ?_ ?_);(with_reducible refine cO 2 ?_);(with_reducible refine aD 5 ?_ ?_ ?_ ?_ ?_ ?_);(with_reducible refine bZ ?_);(with_reducible refine aa ?_ ?_ ?_);(exact(qv 2));(with_reducible refine aa ?_ ?_ ?_);(exact(xJ T.ZW T.cH' (aV h8 (aa (cP (qv 0) (bY ao) (bY ao)) (aa (qv 2) (aa (qv 4) au))))));(exact au);(rfl);(rfl);(rfl);(first|exact .inl rfl|exact .inr rfl);(assumption);(rfl);(exact Or.inl rfl);(exact(aj (aD 6 (aV hz (aa (qv 0) (aa (bJ (qv 4) (cP (qv 3) (bY ao) cT)) au)))) (aj (aD 7 (zH aJ (qv 6))) (aj (aD 8 (aV m (aa (qv 7) au))) (aj (aM (tj (dW (bL (cU (aV S (aa (qv 8) (aa (aG az aO T.hU aN (qv 6)) au))))) (cM (aA IY rA (aV h2 (aa (qv 8) au)) (aV h1 (aa (qv 6) au)))))) (ak (aK vn))
   aB)
   (aj (aM (aA IY rA (aV Q (aa (qv 5) (aa (qv 8) au))) (aV h5 (aa (qv 5) (aa (qv 6) au))))
   (ak (aK vn))
   aB)
   (aj (aD 9 (qb oH zG T.Tz p_ (qv 8)))
   (aj (aM (tj (dW (aA IY rA (aV ia (aa (qv 8) au)) (qv 7)) (cM (aA IY rA (qv 8) (qv 9)))))
   (ak (aK vn))
   aB)
   (aj (aD 10 (aV m (aa (bJ (bJ aJ (ck (qv 4) ao)) aJ) au)))
   (aj (aM (tj (dW (bL (cU (aV S (aa (qv 10) (aa ao au))))) (dW (aA IY rA (aG az aO T.hU aN (aV Q (aa (qv 5) (aa (qv 10) au)))) (qv 2)) (cM (aA IY rA (qv 8) (qv 9))))))
   (ak (aK vn))
   aB)
   (aj (bz (aQ (pv 10)) (bZ (aa aJ (aa (bZ au) au))))
   (aj (bz (aQ (pv 8)) (bZ (aa aJ (aa (bZ au) au))))
   (ak (aK (fO gu aX (aV m (aa (qv 7) au)) (qv 9)))))))))))))))))))))).2
def walk{l:Z4}{q:cy}{c:List Str}{y:(Str->Option ah)->d5->Prop}{j:c9->d5->Prop}{d:DefRec}{K:Params->ay}(p:l.most=some 63)(A:d.params.defaults=[])(t:∀ (w:c9) (h:d5),j w h->(K w.params).In h)(F:∀ (w:c9) (e:Str->Option ah) (i:ai) (h:d5),(K w.params).In h->h.Ns iP e->e d.name=some (.ref i) ->
   ∃ g:sF,(∀ (s:aI) (u:ah),BindsTo s g ⟨[u],[]⟩ [("_law_script",u)])/\∀ b:d5,(K w.params).In b->b.Ns iP e->mS l.prog w (K w.params) e b kB 8 i g ["_law_script"] (gJ (K w.params) ZR)) :
  PySem.W.WalkO q c y j l.row.toRowW d [] (λf m=>PySem.call f m) :=
 L2.lz' (n:=63) (k:=8) (x := "_law_script") (CX:=λ_=>kB) (sp:=λw=>gJ (K w.params) ZR) p (by decide) A ⟨rfl,by decide,by decide⟩ t F (λw H a B r D v=>CP r v) λ_ _ _ _ _ z=>z
end L2.Q.ZJ
end
open PySem PySem.W PyProof.Rows
namespace PySem.W.Fast
def tw7406701835792177087:=0
def tw17604253386435164707:=0
def tw17876146899383813914:=0
def tw2854398481645737193:=0
def tw16482712257380362788:=0
def tw5715517641048870071:=0
def tw10336913936438491206:=0
def tw7314643170836526713:=0
def tw441249202955866430:=0
def tw9958343481062448036:=0
def tw9636209821740146691:=0
def tw2622395333088942884:=0
def tw3305867797621278814:=0
def tw16791458602313764514:=0
def tw8525370099107376312:=0
def tw3521070032775494232:=0
def tw6257361760656074587:=0
def tw10521903751199032442:=0
def tw2620067321145151232:=0
def tw14061431922303378974:=0
def tw8875271959248045187:=0
def tw11391804949026091155:=0
def tw915703518478135781:=0
def tw13412953072437467946:=0
def tw5309951919931834802:=0
def tw8737221273263980331:=0
def tw1660805642026745312:=0
def tw16902964160772855432:=0
def tw11087764448741394650:=0
def tw5020849130966137114:=0
def tw1034570933442776287:=0
def tw17085023610502161701:=0
def tw13377678831159758421:=0
def tw17109668248833162955:=0
def tw11952796529564972712:=0
def tw15140159816955504579:=0
def tw9866176359780984409:=0
def tw13523206886904665538:=0
def tw14701038459748821412:=0
def tw12639647130942511174:=0
def tw13083775229164829203:=0
def tw7618521661804004378:=0
def tw9536807272195778582:=0
def tw35815535783387165:=0
def tw7996008399236937758:=0
def tw4483273311372375260:=0
def tw5573249709420389014:=0
def tw2842448780000693031:=0
def tw17683468371773249124:=0
def tw3256195204750562494:=0
def tw18060896558362711754:=0
def tw293408818449822730:=0
def tw17703172023885297669:=0
def tw7571608198558355429:=0
def tw8194159212199067410:=0
def tw18082343296214370309:=0
def tw7161447670206294696:=0
def tw16578710127161626302:=0
def tw3037945728731989599:=0
def tw10631695053920063444:=0
def tw2107336164302661079:=0
def tw5805496655308987117:=0
def tw7304815503610661606:=0
def tw14888465329312794595:=0
def tw9105385359224392563:=0
def tw18006451573860066475:=0
def tw1605347165384827215:=0
def tw1864052389331813073:=0
def tw16863723922531249528:=0
def tw11086206455082653828:=0
def tw14589912409692969088:=0
def tw7123000506341013748:=0
def tw7435900534410828398:=0
def tw2809843197237259342:=0
def tw1726188760025795492:=0
def tw8674750806653358188:=0
def tw16054290966060615635:=0
def tw14118262846930472739:=0
def tw11351005620568799242:=0
def tw16437958360751818026:=0
def tw8395076301217968201:=0
def tw9210461260088084707:=0
def tw15496467878550697278:=0
def tw17016083507732306443:=0
def tw5726015066063007667:=0
def tw10296620168214041986:=0
def tw3632584620595227468:=0
def tw6660040402139001894:=0
def tw6052600205998671017:=0
def tw2225803405076456741:=0
def tw3242333540480375311:=0
def tw10097782930220476033:=0
def tw10876133492649821819:=0
def tw6190247093082677198:=0
def tw15940733691596007529:=0
def tw11943788105055215943:=0
def tw2709409797805310045:=0
def tw17857105866896057088:=0
def tw7051884773386000561:=0
def tw7299166205627137473:=0
def tw1305394805763061295:=0
def tw17736238913348209962:=0
def tw9378527715103994961:=0
def tw259575402341529520:=0
def tw12070847518216430391:=0
def tw1310500753465003696:=0
def tw11785579756546338104:=0
def tw9486624618029742703:=0
def tw18080251251993548203:=0
def tw13977129253822312360:=0
def tw6686284704378405758:=0
def tw17421901676248150352:=0
def tw432579192785721210:=0
def tw2603142650171273871:=0
def tw9699873542420501396:=0
def tw11767685832281172091:=0
def tw9522730457745967822:=0
def tw18274550934844551820:=0
def tw15367226004074855668:=0
def tw17971996213931554492:=0
def tw4307111960810749794:=0
def tw16675505499326909772:=0
def tw13255882455749829738:=0
def tw18335734856717096979:=0
def tw6627548931835826931:=0
def tw4738086840158460285:=0
def tw16259317109586982809:=0
def tw3949300143705963379:=0
def tw12519294957648430398:=0
def tw2420325720974257122:=0
def tw7406651474128813396:=0
def tw3567375347151408377:=0
def tw13672183626707851053:=0
def tw15186069352340404440:=0
def tw16008016556657737410:=0
def tw13975310785416291768:=0
def tw623881520618239036:=0
def tw1069242454637297554:=0
def tw5306679557175305575:=0
def tw13401662474555208583:=0
def tw17776287561848744055:=0
def tw7790951460727411796:=0
def tw7798888714800364451:=0
def tw9961301693833334863:=0
def tw7810783329232499768:=0
def tw718946632250210762:=0
def tw13013136552827901068:=0
def tw8611106358106512855:=0
def tw10352771362476332804:=0
def tw9807893389625695698:=0
def tw10318568930458675750:=0
def tw17939768344448752460:=0
def tw9615103706449524414:=0
def tw17707752205964513349:=0
def tw7329912962203360740:=0
def tw2651952802508941320:=0
def tw10672445513655574473:=0
def tw9504178844876003774:=0
def tw1447690289960057065:=0
def tw14139380128608545788:=0
def tw18370008651908877855:=0
def tw4269479111687113011:=0
def tw5616255139245518633:=0
def tw12719581273268023435:=0
def tw17135384967054204534:=0
def tw807628390694783383:=0
def tw15949577692933968868:=0
def tw8496184029607897362:=0
def tw7310853968223619970:=0
def tw9918036965983237834:=0
def tw17843576207145559187:=0
def tw4854066314666034091:=0
def tw3020934607065413298:=0
def tw18043086849459045557:=0
def tw16851019300263681586:=0
def tw17416538167450770686:=0
def tw2277308459270131210:=0
def tw16768049910859034476:=0
def tw2346147437809253912:=0
def tw6739828120948213140:=0
def tw1868323926359862442:=0
def tw294747103310012325:=0
def tw6508412776259895832:=0
def tw8012884182386209874:=0
def tw5605550478909771256:=0
def tw17322702904574586340:=0
def tw8454942315645126543:=0
def tw2572799258765596866:=0
def tw15930198167849811631:=0
def tw6505081357024249633:=0
def tw5552673719248311056:=0
def tw5561141487139761319:=0
def tw6647366209999219643:=0
def tw2866904755321832635:=0
def tw18273578735695973545:=0
def tw2184458526324047095:=0
def tw10480068784101792963:=0
def tw1801027052789840502:=0
def tw2982422940132480837:=0
def tw321068240718132740:=0
def tw11600069207325000881:=0
def tw17641784130802779793:=0
def tw15297734908334032644:=0
def tw11520112544482629137:=0
def tw1210159739609173006:=0
def tw11766400386222521211:=0
def tw8072174061946858148:=0
def tw5636024730863314507:=0
def tw7922787797769903460:=0
def tw14915220141982038791:=0
def tw3928373283497635594:=0
def tw11898988552697260254:=0
def tw18074223809633463092:=0
def tw6188315283733680575:=0
def tw17339178793423733493:=0
def tw5927330013113914921:=0
def tw16252550155952389232:=0
def tw9900618537445813275:=0
def tw4401748729280526171:=0
def tw5309645058161188542:=0
def tw16030181118201979664:=0
def tw15099397569144514845:=0
def tw13113244019491601063:=0
def tw14566731564184108435:=0
def tw2004878442117729073:=0
def tw18243249644692371259:=0
def tw17800176726391754642:=0
def tw5043183641478023304:=0
def tw16231034644484105956:=0
def tw17694149738369415716:=0
def tw16643819524543973326:=0
def tw4014771409026693515:=0
def tw12578696727078728670:=0
def tw15468965650262932015:=0
def tw10758993784556330604:=0
def tw3851010242664737087:=0
def tw14702711104108990210:=0
def tw16354956930768838948:=0
def tw11967066076632730157:=0
def tw5265290895224944423:=0
def tw15710122940821859311:=0
def tw3605323585864309807:=0
def tw12398231715833230339:=0
def tw9848478697287138593:=0
def tw12683865351368280152:=0
def tw8307027839942006271:=0
def tw3792516632318270677:=0
def tw9000698537314966842:=0
def tw5039520904013680141:=0
def tw7631876713835802239:=0
def tw5561590545002593543:=0
def tw694495049051324005:=0
def tw16843976345816459333:=0
def tw673751949919907446:=0
def tw17927402007430151668:=0
def tw12900197316940269224:=0
def tw3606559433783336049:=0
def tw14556078898496587827:=0
def tw598666890660756101:=0
def tw7541344974107494718:=0
def tw1848632771042037670:=0
def tw15935667557589566700:=0
def tw17187074042036196451:=0
def tw9639471950979497813:=0
def tw13797978219752082803:=0
def tw12066464401624984030:=0
def tw1310663681588249812:=0
def tw15428431863997311770:=0
def tw11350329016694810992:=0
def tw17515858628964222057:=0
def tw16453887364849600383:=0
def tw12836248946237459250:=0
def tw3937299497005534353:=0
def tw18320707733794426809:=0
def tw14113996907217196003:=0
def tw69991374777450711:=0
def tw660960342982722627:=0
def tw16818737201804825916:=0
def tw16904192830842405034:=0
def tw1186284317597038329:=0
def tw1149986932714025779:=0
def tw15751615687251001051:=0
def tw11547133521782469770:=0
def tw4702336186663220181:=0
def tw15357806009534967856:=0
def tw15635769461591788697:=0
def tw16183843178383515658:=0
def tw6259454730631013119:=0
def tw9650365000996406336:=0
def tw15068594916707532342:=0
def tw16641336654423983625:=0
def tw15656973235387569021:=0
def tw5298137906804372084:=0
def tw2159470948842950395:=0
def tw8921551665059012771:=0
def tw12371274319615557217:=0
def tw8221132892467596745:=0
def tw1728898535931173918:=0
def tw4389698349084599114:=0
def tw17438201133154095881:=0
def tw9864377885584056502:=0
def tw15500419964193466264:=0
def tw9444170185176233259:=0
def tw3699926343416361440:=0
def tw4604630086341717556:=0
def tw17680409935502190134:=0
def tw3790720175707419885:=0
def tw6431213728525819507:=0
def tw14931259000055323690:=0
def tw7178807270950850411:=0
def tw2632412879670955054:=0
def tw6937205278438923527:=0
def tw15849237094636353380:=0
def tw12738241554724023881:=0
def tw17531280334920809500:=0
def tw18089590882994536396:=0
def tw13331871024660023751:=0
def tw1556153030264264408:=0
def tw11289698119067024498:=0
def tw11287660616157529129:=0
def tw10312806372846880555:=0
def tw4241390698864789750:=0
def tw3593318563306303441:=0
def tw7322092026658338692:=0
def tw5800142805288239737:=0
def tw13427817413763311658:=0
def tw13135549305900297488:=0
def tw10256105747021400443:=0
end PySem.W.Fast
set_option maxRecDepth 100000 in
set_option maxHeartbeats 0 in
theorem PySem.Challenge.cw_kinlook_k26_sentences_read_holds : PySem.Challenge.rw_kinlook_k26_sentences_read.Holds := by
 w_on;o_law;k_head;(case hw=>w_witness2)
 k_fill
 refine L2.Q.ZJ.walk (l:=PySem.Challenge.rw_kinlook_k26_sentences_read) rfl rfl (λw h Y=>PySem.W.kIn_of Y) ?F
 case F =>
  intro w mg fa h KX G UE
  refine' L2.Q.ZJ.all_mk KX G UE ..
  all_goals first|k_is|k_exc|kit_is|(refine' L2.Q.ZJ.Ou ..<;>first|k_is|skip)|skip
