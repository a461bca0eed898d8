import PyProof.Rows.All
import Wide.All
import OpenK.AllK
import Wide.FinOn
import Lean
import PyProof.EqAt
import PyProof.EqKinds
import PyProof.TupleCall
import PyProof.CompUse
import PyProof.NeData
import PyProof.WalksEnum
import PyProof.EnumMake
import PyProof.ZipIter
import PyProof.Rows.EnumRows
import PyProof.Rows.FactsT2
import KE.KDictList
import PyProof.Rows.SortRuns
import PyProof.Rows.SortWalk
import KE.KSortTup
import PyProof.Rows.SortStr
import PyProof.ListRange
import PyProof.StrOps2
import PyProof.StrBlock2
import PyProof.AutoIntG3
import PyProof.ListMulRight
import PyProof.Rows.ListMulArg
import PyProof.Rows.CallKwBuiltin
import PyProof.Rows.StrMul
import KE.KMinBuiltin
import PyProof.TupleKey
import PyProof.SetKind
import PyProof.Rows.SetFrom
import PyProof.DictWalks
import KE.KRevIter
import PyProof.AutoSeq1
import KE.KItem
import PyProof.MeetsSeq
import PyProof.FactsAll.list_4
import PyProof.DictUpdate
import Wide.Seal
import PyProof.SeqI3
import PySem.Challenge.RW_kinlook_k56_no_shallower_lack
open PySem renaming wpAny_bind->av,Value->ag,wpAny_pure->aT,Addr->ai,sizeLine->bG,Shared->aI,model->aE,wpAny->aS,Program->cf,World->cw,mainGlobals->iF,compareOp->gI,tupleKind->iL,bootBuiltins->k7,starEach->g7,Heap->df,Around->ft,wpAny_newObj_type->tm,eval->dE,sizeLine_eq->mB,sysModules->mE,cLine->fA,wpAny_truthy_bool->zI,wpAny_holding->vn,wpAny_mono->oS,swapsWith->nS,cellsFrom->ot,foldedSetIterable->BU,wpAny_dictEntries->B1,binaryOp->nV,codeAny_builtin->B3,Stmt->h8,FuncData->qE,wpAny_call_entry->E4,wpAny_callSpecial?_slot->PR,attributeBase->DV,wpAny_rule->zS,plainId_quiet->DZ,wpAny_Call_Name_kw->LJ,tupleKind_room_in1->LM,Scope->lT,rawInt->pf,wpAny_typeNameOfWhole_keyiter->Uu,wpAny_setField_rec->PY,wpAny_passesOwn->LN,codeAny->xA,wpAny_specialOf->LP,behindInMarks->Ic,wpAny_setState_of->PZ,keywordEach->E5,wpAny_typeNameOf_keyiter->Uv,wpAny_askSetting->P1,entryOfKey->E6,assignEach->E7,wpAny_pyIter_list->R7,Keyword->AX,wpAny_isInstance->R8,sliceBounds->LS,wpAny_of_eq->LV,wpAny_dictEpoch->R9,wpAny_updateSeq->R_,size_of_entries->Sb
open PySem.W renaming Frag->aC,mg_none_of->tF,nsIn->md,findIn->sC,fnOf->sD,kia_one->yA,keepIn->xB,codeIn->B4,emptyDict->Iq,instObj->Iy,mg_of->IA,isFn->IB,plainGet->Sd,hasDictIn->Uw,kitx_dict->Ux,plainGet_of->WX,lookIn->Uy,plainOver->WY,kitx_list->WZ,takerIn->W0,makesIn->W3,OpenLaw->W4
open List renaming length_map->b4,mem_cons_of_mem->eI,mem_cons_self->eh,mem_map->c9,getElem?_eq_some_iff->h9,mem_cons->eu,mem_singleton->ic,getElem?_map->g9,mem_append->hJ,mem_append_right->lI,map_map->fE,map_cons->gL,size_toArray->kA,mem_of_getElem?->nh,length_append->mG,length_cons->k8,map_append->kS,getElem?_eq_getElem->tI,length_take->lP,nodup_cons->ny,nodup_append->pj,nodup_nil->mI,getElem?_append_right->B5,mem_append_left->yB,mem_iff_getElem?->z0,take_add_one->vt,pairwise_map->vv,getD_eq_getElem?_getD->D1,not_mem_nil->vw,append_nil->tJ,getElem?_eq_none->B6,pairwise_iff_getElem->E8,all_eq_true->yT,foldl_cons->xC,getElem?_append_left->IC,mem_range->y6,map_congr_left->D2,take_length->AY,append_assoc->B7,drop_eq_getElem_cons->LW,sublist_append_right->LX,replicate_succ->E9,mem_zipIdx_iff_getElem?->P4,mem_filter->B8,length_eq_zero_iff->LZ,lookup_cons->D3,take_of_length_le->L4,find?_cons->D4,any_eq_true->Fc,flatten_cons->IE,length_drop->IG,any_cons->D5,mem_of_mem_take->P5,ext_getElem?->L5,all_cons->Fh,getElem_mem->L6,map_fst_zip->L7,append_eq_nil_iff->Se,length_pos_of_mem->Sf,take_append_drop->Sg,length_zip->L8,mem_of_find?_eq_some->Uz,foldl_append->P6,mem_of_mem_drop->Si,filterMap_cons->Sj,nil_sublist->P7,zip_cons_cons->Sn,any_eq_false->Sq,length_range->Sr,all_map->L9,getElem?_set_ne->UA,getElem_inj->Ss,cons_ne_nil->Sv,extract_eq_drop_take->W5,getElem?_range->UB,sublist_append_left->W6,getElem?_take->UC,getElem?_cons_zero->W7,foldl_nil->Sw,pairwise_lt_range->W8,take_succ_eq_append_getElem->xdH,length_singleton->W9,drop_length->UD,mem_iff_getElem->W_,getElem?_mapIdx->Za,length_nil->UE,find?_some->UG,filter_eq_self->Zb,length_mapIdx->Zc,reverse_perm->Zd,cons_append->Ze,getElem_map->Zf
open PySem.Heap renaming get?_push_of_some->eL,get?_push_size->ip,lt_size->e8,get?_update_other->D6,get?_update_self->D7,size_update->Mb,get?_push_ne->P8,size_push->My,get?_update_ne->Zg
open Nat renaming le_refl->cK,ne_of_lt->fz,zero_le->f7,lt_of_lt_of_le->qS,le_trans->kE,lt_succ_of_lt->AZ,lt_irrefl->xD,le_of_lt->MA,mul_le_mul->MB,lt_succ_self->P9,le_of_eq->IH,le_succ->II,add_sub_of_le->Sx,ne_of_gt->MD,le_of_not_lt->Zh,lt_of_le_of_lt->xdx,lt_of_succ_lt->Zi,le_of_succ_le->Zj,not_lt_zero->UH,add_comm->Sy,sub_self->Sz,min_self->SD,zero_add->UI,add_zero->UJ
open PyProof.Rows renaming wpS_bind->cx,arrOf->bI,wpS_pure->de,Keyed->b3,SortSt->dz,kindOf->fw,pendingOf->mM,wpS_forRange->tN,failedOf->tP,envOfC->pz,wpS_mono->xE,SortKind->y8,wpS_modify->Fm,size_push'->IJ
open Bool renaming and_eq_true->k9,false_ne_true->nX,false_eq_true->xI,eq_iff_iff->z5
open Int renaming toNat_of_nonneg->qV,le_refl->An,toNat_natCast->IL,le_trans->Fn,le_of_lt->MG,emod_lt_of_pos->Zk
open Array renaming getElem?_toList->vx,length_toList->y9,getElem?_eq_getElem->D8,getElem?_eq_none->Qb,toList_push->ML,getElem?_extract->UK,perm_iff_toList_perm->Zm,getElem?_eq_some_iff->Zn,size_extract->UL,toList_inj->UM,eq_empty_of_size_eq_zero->xdL,toArray_toList->Zo,toList_extract->Zq,toList_reverse->Zr,append_empty->Zt,size_reverse->Zu,forIn_toList->Zv
open Option renaming map_eq_some_iff->MQ,isSome_iff_exists->Qr,isSome_map->SF,map_some->SG
def bv:Lean.Syntax:=(Lean.Unhygienic.run `(tacticSeq|rfl)).raw
local macro_rules | `(command| def $i:declId $s:optDeclSig $v:declVal)=>`(command| noncomputable def $i:declId $s:optDeclSig $v:declVal)
local macro_rules | `(command| abbrev $i:declId $s:optDeclSig $v:declVal)=>`(command| noncomputable abbrev $i:declId $s:optDeclSig $v:declVal)
set_option compiler.extract_closed false
set_option hygiene false
local macro_rules
|`(tactic|walk_at"a")=>`(tactic|intro Hs H m x v As n y u Bs Qd Qv w rx ry h f)
|`(tactic|walk_at"b")=>`(tactic|intro pins s σ H x y v u Q I rx ry h)
set_option hygiene true
def L2.e9{α β:Type _}{A B C:α->β->Prop}{G:Prop}(x:∃ a b,A a b/\B a b/\C a b)(k:∀ a b,A a b->B a b->C a b->G):G :=
 let ⟨a,b,p,q,r⟩:=x
 k a b p q r
set_option Elab.async false
set_option linter.all false
set_option maxHeartbeats 4000000
set_option maxRecDepth 100000
set_option linter.defProp false
section
open PySem PySem.Spec PyProof.Rows
set_option bootstrap.genMatcherCode false
set_option genSizeOf false
namespace L2
abbrev Key:=Sum Int Str
def IQ:Key->ag->Bool
 |.inl k,v=>Value.isInt k v
 |.inr x,v=>Value.isStrOf x v
def fI'(w:cw):Key->Int
 |.inl k=>hashInt k
 |.inr x=>hashStr w x
theorem Ap:∀ {k:Key} {v:ag},IQ k v=true->(∃ i t,k=Sum.inl i/\v=Value.int i t)\/(∃ x t,k=Sum.inr x/\v=Value.str x t)
 |.inl i,v,h=>by obtain⟨t,e⟩:=Value.isInt_shape h;exact .inl ⟨i,t,rfl,e⟩
 |.inr x,v,h=>by obtain⟨t,e⟩:=Value.isStrOf_shape h;exact .inr ⟨x,t,rfl,e⟩
def bN'(i:Int)(t:Tok):IQ (.inl i) (.int i t)=true:=by simp[IQ,Value.isInt]
def bO'(x:Str)(t:Tok):IQ (.inr x) (.str x t)=true:=by simp[IQ,Value.isStrOf]
def bP'(a b:Int):decide ((Sum.inl a:Key)=Sum.inl b)=(a == b):=by
 by_cases e:a=b
 ·subst e;simp
 ·have h:¬ (Sum.inl a:Key)=Sum.inl b:=λq=>e (Sum.inl.inj q);rw[decide_eq_false h];exact(beq_eq_false_iff_ne.mpr e).symm
def bQ'(a b:Str):decide ((Sum.inr a:Key)=Sum.inr b)=decide (a=b):=by
 by_cases e:a=b
 ·subst e;simp
 ·have h:¬ (Sum.inr a:Key)=Sum.inr b:=λq=>e (Sum.inr.inj q);rw[decide_eq_false h,decide_eq_false e]
def fJ'(a:Int)(b:Str):decide ((Sum.inl a:Key)=Sum.inr b)=false:=decide_eq_false (λq=>nomatch q)
def fK'(a:Str)(b:Int):decide ((Sum.inr a:Key)=Sum.inl b)=false:=decide_eq_false (λq=>nomatch q)
def iq(prog:cf)(w:cw):PySem.KeyKind prog w Key where
 is:=IQ
 hash:=fI' w
 inj:=λv a b ha hb=>by
  rcases Ap ha with⟨i,t,rfl,rfl⟩|⟨x,t,rfl,rfl⟩
  ·rcases Ap hb with⟨j,u,rfl,e⟩|⟨y,u,rfl,e⟩
   ·injection e with e1 _;rw[e1]
   ·exact nomatch e
  ·rcases Ap hb with⟨j,u,rfl,e⟩|⟨y,u,rfl,e⟩
   ·exact nomatch e
   ·injection e with e1 _;rw[e1]
 byValue:=λk v h=>by rcases Ap h with⟨i,t,rfl,rfl⟩|⟨x,t,rfl,rfl⟩<;>rfl
 pyHash:=λhv h=>by
  rcases Ap hv with⟨i,t,rfl,rfl⟩|⟨x,t,rfl,rfl⟩
  ·exact wpAny_pyHash_int h
  ·exact wpAny_pyHash_str h
 eqBool:=λhu hv h=>by
  rcases Ap hu with⟨i,t,rfl,rfl⟩|⟨x,t,rfl,rfl⟩
  ·rcases Ap hv with⟨j,u,rfl,rfl⟩|⟨y,u,rfl,rfl⟩
   ·rw[bP'] at h;exact wpAny_eqBool_int h
   ·rw[fJ'] at h;exact SeqAt.EqAt.int_str i t y u _ _ _ _ h
  ·rcases Ap hv with⟨j,u,rfl,rfl⟩|⟨y,u,rfl,rfl⟩
   ·rw[fK'] at h;exact SeqAt.EqAt.str_int x t j u _ _ _ _ h
   ·rw[bQ'] at h;exact wpAny_eqBool_str h
 «strs» := λk x t v h=>by
  rcases Ap h with⟨i,u,rfl,e⟩|⟨y,u,rfl,e⟩
  ·exact nomatch e
  ·injection e with e1 _;subst e1;cases v<;>rfl
def fL'(prog:cf)(w:cw)(k:Key)(v:ag):(iq prog w).is k v=IQ k v:=rfl
def fM'(prog:cf)(w:cw)(i:Int)(t:Tok):(iq prog w).is (.inl i) (.int i t)=true:=bN' i t
def fN'(prog:cf)(w:cw)(x:Str)(t:Tok):(iq prog w).is (.inr x) (.str x t)=true:=bO' x t
inductive V where
 |non|bl (b:Bool)|int (i:Int)|str (x:Str)|vE (b:Array UInt8)|B9 (b:UInt64)|ref (a:ai)|ty (n:String)
 deriving DecidableEq
set_option genInjectivity false
def RelV:V->ag->Prop
 |.non,u=>u=Value.none
 |.bl b,u=>u=Value.bool b
 |.int i,u=>∃ t,u=Value.int i t
 |.str x,u=>∃ t,u=Value.str x t
 |.vE b,u=>∃ t,u=Value.bytes b t
 |.B9 b,u=>∃ t,u=Value.float b t
 |.ref a,u=>u=Value.ref a
 |.ty n,u=>u=Value.type n
abbrev Vals:List V->List ag->Prop:=Paired RelV
def Vals.length(r:Vals xs us):xs.length=us.length:=Paired.length r
theorem Vals.get:∀ {xs:List V} {us:List ag} {i:Nat} {x:V},Vals xs us->xs[i]? = some x->∃ u,us[i]? = some u/\RelV x u
 |_,_,_,_,.nil,e=>by simp at e
 |_,_,0,_,.cons r _,e=>by simp at e;subst e;exact⟨_,rfl,r⟩
 |_,_,i+1,x,.cons _ t,e=>by obtain⟨u,h1,h2⟩:=Vals.get t (by simpa using e);exact⟨u,by simpa using h1,h2⟩
theorem Vals.append:∀ {xs ys:List V} {us ws:List ag},Vals xs us->Vals ys ws->Vals (xs++ys) (us++ws)
 |_,_,_,_,.nil,s=>s
 |_,_,_,_,.cons r t,s=>.cons r (Vals.append t s)
theorem Vals.take:∀ {xs:List V} {us:List ag} (n:Nat),Vals xs us->Vals (xs.take n) (us.take n)
 |_,_,0,_=>.nil
 |_,_,_+1,.nil=>.nil
 |_,_,n+1,.cons r t=>.cons r (Vals.take n t)
theorem Vals.drop:∀ {xs:List V} {us:List ag} (n:Nat),Vals xs us->Vals (xs.drop n) (us.drop n)
 |_,_,0,r=>r
 |_,_,_+1,.nil=>.nil
 |_,_,n+1,.cons _ t=>Vals.drop n t
def pE:Option V->Option ag->Prop
 |some v,some u=>RelV v u
 |none,none=>True
 |_,_=>False
def KV{κ:Type}:List (κ × V)->List (κ × ag)->Prop:=Paired λ(p:κ × V) (q:κ × ag)=>p.1=q.1/\RelV p.2 q.2
def kV:Key->V
 |.inl i=>.int i
 |.inr x=>.str x
inductive HO where
 |lst (xs:List V)
 |tup (xs:List V)
 |dK (kvs:List (Key × V))|dT (kvs:List (List Key × V))
 |set (S:Int->Bool) (n:Nat)
 |ins (C dx:ai) (fs:List (Str × V))
 |own (x:ai)
 |xd (fs:List (Str × V))
 |met (f x:ai)
 |Zw (lo hi:Int)
 |fR (o:Obj) (u:HO)
 |zh (ps:Array ag)
 |ext (φ:df->Prop)
abbrev Hp:=ai->Option HO
def upd(H:Hp)(a:ai)(o:HO):Hp:=λb=>if b=a then some o else H b
def d5:upd H a o a=some o:=by unfold upd;rw[if_pos rfl]
def b6(h:b≠a):upd H a o b=H b:=by unfold upd;rw[if_neg h]
def Zx{H:Hp}{a b:ai}{o u:HO}(h:H a=some o)(h':H b=some u)(d:o≠u):a≠b:=by intro e;subst e;rw[h] at h';exact d (Option.some.inj h')
def Au{H:Hp}{a b:ai}{o:HO}(h:H a=some o)(h':H b=none):a≠b:=by intro e;subst e;rw[h] at h';cases h'
section
variable (P:cf)(w:cw)
def kz(H:Hp)(h:df)(a:ai):HO->Prop
 |.lst xs=>xs.length<=bG/\∃ (its:List ag) (n:Nat),Vals xs its/\h.get? a=some { cls:=.type "list",data:=.seq its.toArray n }
 |.tup xs=>xs.length<=bG/\∃ its:List ag,Vals xs its/\IsTup h a its.toArray
 |.dK kvs=>kvs.length<=bG/\(a == mE)=false/\∃ vs,KV kvs vs/\h.DictOf (iq P w) a vs
 |.dT kvs=>kvs.length<=bG/\(a == mE)=false/\∃ xs:List (List Key × ai × ag),
   Paired (λ(p:List Key × V) (q:List Key × ai × ag)=>p.1=q.1/\H q.2.1=some (.tup (p.1.map kV))/\RelV p.2 q.2.2) kvs xs /\
   ∃ o es ep,h.get? a=some o/\o.ExactDict/\o.data=.dict es ep/\es.toList=xs.map (E6 (iL (iq P w)))/\(xs.map (·.1)).Nodup
 |.set S n=>h.SetOf (intKind P w) a S n
 |.ins C dx fs=>H dx=some (.own a)/\fs.length<=1000/\dx≠a/\h.get? a=some (Iy C dx) /\
   ∃ mA,h.Ns1 dx mA/\(∀ f,pE (fs.lookup f) (mA f))/\PySem.Within mA (fs.map (·.1))
 |.own _=>∃ o,h.get? a=some o
 |.xd fs=>∃ mA,h.Ns1 a mA/\∀ f,pE (fs.lookup f) (mA f)
 |.Zw lo hi=>∃ t u v,h.get? a=some { cls:=.type "range",data:=.fields #[.int lo t,.int hi u,.int 1 v] }
 |.fR o u=>h.get? a=some o/\kz H h a u
 |.zh ps=>h.get? a=some { cls:=.none,data:=.fields ps }
 |.met f x=>h.get? a=some (PySem.W.methodObj (.ref f) (.ref x))
 |.ext φ=>φ h/\(∃ o,h.get? a=some o)/\∀ h1 h2:df,φ h1->(∀ o,h1.get? a=some o->h2.get? a=some o)->φ h2
def kf(H:Hp)(h:df):Prop:=∀ a o,H a=some o->kz P w H h a o
end
section
variable {P:cf}{w:cw}{H H':Hp}{h h':df}{a:ai}{o:HO}
def kz.lt(x:kz P w H h a o):a<h.objs.size:=by
 cases o with
 |lst xs=>obtain⟨_,_,_,_,e⟩:=x;exact e8 e
 |tup xs=>obtain⟨_,_,_,p⟩:=x;exact p.lt
 |dK kvs=>obtain⟨_,_,_,_,o,_,_,e,_⟩:=x;exact e8 e
 |dT kvs=>obtain⟨_,_,_,_,o,_,_,e,_⟩:=x;exact e8 e
 |set S n=>obtain⟨o,_,_,_,e,_⟩:=x;exact e8 e
 |ins C dx fs=>obtain⟨_,_,_,e,_⟩:=x;exact e8 e
 |own y=>obtain⟨_,e⟩:=x;exact e8 e
 |xd fs=>obtain⟨_,⟨_,_,_,e,_⟩,_⟩:=x;exact e8 e
 |Zw lo hi=>obtain⟨_,_,_,e⟩:=x;exact e8 e
 |fR ob u=>obtain⟨e,_⟩:=x;exact e8 e
 |zh ps=>exact e8 (x)
 |met f y=>exact e8 (x)
 |ext φ=>obtain⟨_,⟨_,e⟩,_⟩:=x;exact e8 e
theorem Paired.UN{α β:Type}{F G:α->β->Prop}:∀ {SJ:List α} {l₂:List β},Paired F SJ l₂->(∀ a b,F a b->G a b)->Paired G SJ l₂
 |_,_,.nil,_=>.nil
 |_,_,.cons r t,f=>.cons (f _ _ r) (Paired.UN t f)
def Paired.imp'{α β:Type}{F G:α->β->Prop}(f:∀ a b,F a b->G a b){SJ:List α}{l₂:List β}(r:Paired F SJ l₂):Paired G SJ l₂:=Paired.UN r f
def kz.hX(x:kz P w H h a o)(k:∀ b u,(b=a\/H b=some (.own a))->h.get? b=some u->h'.get? b=some u)(ho:∀ b,H b=some (.own a)->H' b=some (.own a)) (ht:∀ b xs,H b=some (.tup xs)->H' b=some (.tup xs)):kz P w H' h' a o:=by
 induction o with
 |lst xs=>obtain⟨z,its,n,r,e⟩:=x;exact⟨z,its,n,r,k _ _ (.inl rfl) e⟩
 |tup xs=>obtain⟨z,its,r,ob,e,c⟩:=x;exact⟨z,its,r,ob,k _ _ (.inl rfl) e,c⟩
 |dK kvs=>obtain⟨z,y,vs,r,ob,es,ep,e,c⟩:=x;exact⟨z,y,vs,r,ob,es,ep,k _ _ (.inl rfl) e,c⟩
 |dT kvs =>obtain⟨z,y,xs,r,ob,es,ep,e,c⟩:=x;exact⟨z,y,xs,Paired.UN r λp q z=>⟨z.1,ht _ _ z.2.1,z.2.2⟩,ob,es,ep,k _ _ (.inl rfl) e,c⟩
 |set S n=>obtain⟨ob,es,ep,t,e,c⟩:=x;exact⟨ob,es,ep,t,k _ _ (.inl rfl) e,c⟩
 |ins C dx fs =>obtain⟨d,z,ne,e,mA,⟨od,es,ep,e2,c⟩,r⟩:=x;exact⟨ho _ d,z,ne,k _ _ (.inl rfl) e,mA,⟨od,es,ep,k _ _ (.inr d) e2,c⟩,r⟩
 |own y=>obtain⟨ob,e⟩:=x;exact⟨ob,k _ _ (.inl rfl) e⟩
 |xd fs=>obtain⟨mA,⟨od,es,ep,e,c⟩,r⟩:=x;exact⟨mA,⟨od,es,ep,k _ _ (.inl rfl) e,c⟩,r⟩
 |Zw lo hi=>obtain⟨t,u,v,e⟩:=x;exact⟨t,u,v,k _ _ (.inl rfl) e⟩
 |fR ob u ih=>obtain⟨e,q⟩:=x;exact⟨k _ _ (.inl rfl) e,ih q⟩
 |zh ps =>have e:h.get? a=some { cls:=.none,data:=.fields ps }:=x;exact k a _ (.inl rfl) e
 |met f y =>have e:h.get? a=some (PySem.W.methodObj (.ref f) (.ref y)):=x;exact k a _ (.inl rfl) e
 |ext φ=>obtain⟨p,⟨o,e⟩,st⟩:=x;exact⟨st _ _ p λo q=>k _ _ (.inl rfl) q,⟨o,k _ _ (.inl rfl) e⟩,st⟩
def kf.lt(x:kf P w H h)(e:H a=some o):a<h.objs.size:=(x a o e).lt
def kf.fresh(x:kf P w H h)(e:h.objs.size<=a):H a=none:=by
 cases q:H a with
 |none=>rfl
 |some u=>exact absurd (qS (x.lt q) e) (xD _)
def kf.kept(x:kf P w H h)(k:∀ b u,h.get? b=some u->h'.get? b=some u):kf P w H h':=λa o e =>
 (x a o e).hX (λb u _ q=>k b u q) (λ_ q=>q) λ_ _ q=>q
def kf.laid(x:kf P w H h)(k:∀ b u,h.get? b=some u->h'.get? b=some u)(hp:h.objs.size<=a)(new:kz P w (upd H a o) h' a o):kf P w (upd H a o) h':=λb u e=>by
 have hn:=x.fresh hp;by_cases hb:b=a
 ·subst hb;rw[d5] at e;cases e;exact new
 ·rw[b6 hb] at e;exact(x b u e).hX (λc v _ q=>k c v q) (λc q=>by rw[b6 (Au q hn)];exact q) λc xs q=>by rw[b6 (Au q hn)];exact q
end
def Rd(H:Hp)(a:ai)(u:HO):Prop:=H a=some u\/∃ o,H a=some (.fR o u)
def Rd.ok{P:cf}(r:Rd H a u)(x:kf P w H h):kz P w H h a u:=by
 rcases r with r|⟨o,r⟩
 ·exact x a u r
 ·obtain⟨_,q⟩:=x a _ r;exact q
def SK:Option HO->Prop
 |some (.lst _)=>True
 |some (.dK _)=>True
 |some (.dT _)=>True
 |some (.set _ _)=>True
 |some (.ins _ _ _)=>True
 |some (.ext _)=>True
 |_=>False
section
variable {P:cf}{w:cw}{H:Hp}{h h':df}{x e:ai}{o':HO}
def kf.write(ok:kf P w H h)(mu:SK (H x))(he:e=x\/H e=some (.own x))(k:∀ b u,b≠e->h.get? b=some u->h'.get? b=some u)(Cb:∃ u,h'.get? e=some u)(new:kz P w (upd H x o') h' x o'):kf P w (upd H x o') h':=λb u q=>by
 have bR':∀ c y,H c=some (.own y)->c≠x:=λc y r z=>by subst z;rw[r] at mu;exact mu
 have fO':∀ c xs,H c=some (.tup xs)->c≠x:=λc xs r z=>by subst z;rw[r] at mu;exact mu
 by_cases hb:b=x
 ·subst hb;rw[d5] at q;cases q;exact new
 ·rw[b6 hb] at q;by_cases MR:b=e
  ·have q':H b=some (.own x):=by
    rcases he with z|z
    ·exact absurd (MR.trans z) hb
    ·rw[MR];exact z
   rw[q] at q';cases q';obtain⟨v,hv⟩:=Cb;exact⟨v,by rw[MR];exact hv⟩
  ·refine(ok b u q).hX (λc v hc r=>k c v ?_ r) (λc r=>by rw[b6 (bR' c b r)];exact r) λc xs r=>by rw[b6 (fO' c xs r)];exact r
   rcases hc with rfl|hc
   ·exact MR
   ·rintro rfl;rcases he with z|z
    ·exact bR' c b hc z
    ·rw[hc] at z;cases z;exact hb rfl
end
structure Un(fs ex:List ai)(H H':Hp)(h h':df):Prop where
 keep:∀ b o,h.get? b=some o->H b=none->b∉fs->b∉ex->h'.get? b=some o
 slot:∀ b o,h.get? b=some o->H b=none->b∈fs->b∉ex->∃ sl,h'.get? b=some { o with slots:=sl }
 free:∀ b o,h.get? b=some o->H b=none->b∉ex->H' b=none
 there:∀ b o,h.get? b=some o->b∉ex->∃ o',h'.get? b=some o'
 kB:∀ b xs,H b=some (.tup xs)->H' b=some (.tup xs)
 Ct:∀ b o u,H b=some (.fR o u)->H' b=some (.fR o u)
 D9:∀ b ps,H b=some (.zh ps)->∃ more,H' b=some (.zh (ps++more))
section
variable {fs ex:List ai}{H H1:Hp}{h h1 h':df}{a x e:ai}{o:HO}
def Un.any(u:Un fs ex H H1 h h1)(q:h.get? b=some ob)(n:H b=none)(hx:b∉ex):∃ sl,h1.get? b=some { ob with slots:=sl }:=by
 by_cases hb:b∈fs
 ·exact u.slot b ob q n hb hx
 ·exact⟨ob.slots,u.keep b ob q n hb hx⟩
def Un.kept(k:∀ b u,h.get? b=some u->h'.get? b=some u):Un fs ex H H h h' :=
 ⟨λb ob q _ _ _=>k b ob q,λb ob q _ _ _=>⟨ob.slots,k b ob q⟩,λ_ _ _ n _=>n,λb ob q _=>⟨ob,k b ob q⟩,λ_ _ q=>q,λ_ _ _ q=>q,λ_ ps q=>⟨#[],by rw[q];simp⟩⟩
def Un.refl:Un fs ex H H h h:=Un.kept λ_ _ q=>q
def Un.laid(k:∀ b u,h.get? b=some u->h'.get? b=some u)(hp:h.objs.size<=a)(hn:H a=none):Un fs ex H (upd H a o) h h' where
 keep:=λb u q _ _ _=>k b u q
 slot:=λb u q _ _ _=>⟨u.slots,k b u q⟩
 free:=λb u q n _=>by rw[b6 (fz (qS (e8 q) hp))];exact n
 there:=λb u q _=>⟨u,k b u q⟩
 kB:=λb xs q=>by rw[b6 (Au q hn)];exact q
 Ct:=λb u xs q=>by rw[b6 (Au q hn)];exact q
 D9:=λb ps q=>⟨#[],by rw[b6 (Au q hn),q];simp⟩
def Un.write(mu:SK (H x))(he:e=x\/H e=some (.own x))(k:∀ b u,b≠e->h.get? b=some u->h'.get? b=some u)(Cb:∃ u,h'.get? e=some u):Un fs ex H (upd H x o) h h':=by
 have hx:∀ b,H b=none->b≠x:=λb n z=>by subst z;rw[n] at mu;exact mu
 have hb:∀ b,H b=none->b≠e:=λb n z=>by
  subst z;rcases he with r|r
  ·exact hx b n r
  ·rw[n] at r;cases r
 have hm:∀ b u,H b=some u->¬ SK (some u)->b≠x:=λb u q nm z=>by subst z;rw[q] at mu;exact nm mu
 refine⟨λb u q n _ _=>k b u (hb b n) q,λb u q n _ _=>⟨u.slots,k b u (hb b n) q⟩,λb u q n _=>by rw[b6 (hx b n)];exact n,λb u q _=>?_,
  λb xs q=>by rw[b6 (hm b _ q λz=>z)];exact q,λb u xs q=>by rw[b6 (hm b _ q λz=>z)];exact q,λb ps q=>⟨#[],by rw[b6 (hm b _ q λz=>z),q];simp⟩⟩
 by_cases MR:b=e
 ·subst MR;exact Cb
 ·exact⟨u,k b u MR q⟩
end
def UO(h:df)(H:Hp):List ai:=(List.range h.objs.size).filter λa=>(H a).isSome
def Fs(h:df)(H:Hp):df:=PySem.W.hideAll h (UO h H)
def fP'(h:df)(H:Hp):(Fs h H).objs.size=h.objs.size:=PySem.W.hideAll_size _ _
def fQ'(e:h.get? b=some o)(n:H b=none):(Fs h H).get? b=some o :=
 PySem.W.hideAll_get _ e λhm=>by have q:(H b).isSome=true:=(B8.mp hm).2;rw[n] at q;simp at q
def fR'(e:(Fs h H).get? b=some o):h.get? b=some o/\H b=none:=by
 have e':h.get? b=some o:=PySem.W.of_hideAll (UO h H) e;refine⟨e',?_⟩
 cases q:H b with
 |none=>rfl
 |some x =>have hm:b∈UO h H:=B8.mpr ⟨y6.mpr (e8 e'),by simp[q]⟩;have z:(Fs h H).get? b=none:=PySem.W.hideAll_none (UO h H) hm;rw[z] at e;cases e
structure Mod(K:aC)(mg:Str->Option ag)(base:df):Prop where
 UQ:K.In base
 glob:base.Ns iF mg
 blt:∃ mb,base.Ns builtinsNs mb/\∀ x:Str,x ≠ "__name__"->mb x=k7 x
 nolimit:base.NoLimit
structure Cx where
 prog:cf
 w:cw
 K:aC
 mg:Str->Option ag
 base:df
 A:ft
 N:List Str
 lh:aI
 pS:Hp
 env:Env
 outer:List Env
 stack:List Env
 ex:List ai
 fn:Str->Bool
 calm:Bool
 pn:List (ai × Obj)
 xe:ag->aI->Prop
abbrev aQ(X:Cx)(e:Expr)(es:List Expr):Prop:=g7 (e :: es) X.env=(false,dE e X.env) :: g7 es X.env
abbrev cM (x:Str):Prop:=(x == ("__debug__" : Str))=false
abbrev lD(X:Cx)(x:Str):Prop:=X.fn x=true\/X.env.scope.names.lookup x=some .local
abbrev bR(X:Cx)(p:Pos)(es:List Expr):Prop:=(backTo p (g7 es X.env)).any (·.1)=false
def CB(l:List Env):List ai:=l.filterMap (·.frame)
abbrev Cx.fs(X:Cx):List ai:=CB X.outer
def UR(sc:lT)(x:Str):Prop:=sc.names.lookup x=some .local\/sc.names.lookup x=some .cell\/sc.names.lookup x=some .free
def Loc(sc:lT)(x:Str):Prop:=sc.names.lookup x=some .local\/sc.names.lookup x=some .cell
def Look(env:Env)(h:df)(m:Str->Option ag)(x:Str)(u:ag):Prop :=
 (env.kindOf x=some .local/\m x=some u)\/((env.kindOf x=some .cell\/env.kindOf x=some .free)/\∃ c,env.cells.lookup x=some c/\h.IsCell c (some u))
structure Cx.Ok(X:Cx):Prop where
 mod:Mod X.K X.mg X.base
 kind:X.env.scope.kind=.function
 glob:X.env.globals=iF
 blt:X.env.builtins=builtinsNs
 above:X.lh.heap.objs.size<=X.env.locals
 inj:∀ x y c,X.env.cells.lookup x=some c->X.env.cells.lookup y=some c->x=y
 has:∀ x,(X.env.kindOf x=some .cell\/X.env.kindOf x=some .free)->∃ c,X.env.cells.lookup x=some c
 SN:∀ x c,X.fn x=true->X.env.cells.lookup x=some c->X.lh.heap.objs.size<=c
 hd:X.calm=true->X.A.handled=none
 frames:X.A.frames=some X.stack
 UT:X.stack=X.outer\/(X.stack=X.env :: X.outer/\X.env.frame=some X.env.locals)
 UU:∀ b∈X.ex,b≠X.env.locals/\∀ x c,X.env.cells.lookup x=some c->c≠b
 bs:∀ b o,X.base.get? b=some o->X.lh.heap.get? b=some o/\X.pS b=none
 Fu:X.base.objs.size<=X.lh.heap.objs.size
 SQ:∀ b o,X.base.get? b=some o->b∉X.ex
 SV:∀ b∈X.ex,b∉X.fs
 A2:X.lh.heap.FunFrames X.base X.outer
 MS:∀ b∈X.fs,X.pS b=none
structure Inv(X:Cx)(pins:List (ai × Obj))(σ:List (Option V))(H:Hp)(s:aI):Prop where
 ok:X.Ok
 os:s.os=X.lh.os
 bare:AllBare s.gens
 base:Un X.fs X.ex X.pS H X.lh.heap s.heap
 loc:∃ m,s.heap.Ns X.env.locals m/\∀ (i:Nat) (x:Str) (v:V),X.N[i]? = some x->σ[i]? = some (some v)->UR X.env.scope x->∃ u,RelV v u/\Look X.env s.heap m x u
 cell:∀ x c,X.env.cells.lookup x=some c->∃ v,s.heap.IsCell c v
 free:H X.env.locals=none
 AA:∀ x c,X.env.cells.lookup x=some c->H c=none
 pin:∀ p∈X.pn++pins,s.heap.get? p.1=some p.2/\H p.1=none/\p.1≠X.env.locals/\p.1∉X.fs/\∀ v,p.2.data≠.cell v
 bP:kf X.prog X.w H s.heap
 len:σ.length=X.N.length
section
variable {X:Cx}{pins:List (ai × Obj)}{σ:List (Option V)}{H H':Hp}{s:aI}{h':df}
def Cx.Ok.fS'(ok:X.Ok)(e:X.base.get? b=some o):b∉X.fs:=λhb=>by have:=(ok.A2.mem hb).1;rw[e] at this;cases this
def Inv.bs(I:Inv X pins σ H s):∀ b o,X.base.get? b=some o->s.heap.get? b=some o/\H b=none:=λb o e =>
 ⟨I.base.keep b o (I.ok.bs b o e).1 (I.ok.bs b o e).2 (I.ok.fS' e) (I.ok.SQ b o e),I.base.free b o (I.ok.bs b o e).1 (I.ok.bs b o e).2 (I.ok.SQ b o e)⟩
def Inv.bk(I:Inv X pins σ H s):∀ b o,X.base.get? b=some o->s.heap.get? b=some o:=λb o e=>(I.bs b o e).1
def Inv.mod(I:Inv X pins σ H s):Mod X.K X.mg X.base:=I.ok.mod
def Inv.kC(I:Inv X pins σ H s):X.K.In s.heap:=I.ok.mod.UQ.keeps I.bk
def Inv.lt(I:Inv X pins σ H s):X.env.locals<s.heap.objs.size:=let ⟨_,hn,_⟩:=I.loc;hn.lt
def Inv.sz(I:Inv X pins σ H s):X.lh.heap.objs.size<=s.heap.objs.size:=kE I.ok.above (MA I.lt)
def Inv.fT'(I:Inv X pins σ H s)(h:s.heap.objs.size<=a):a∉X.fs:=λhb=>by obtain⟨_,o,ho,_⟩:=I.ok.A2.mem hb;exact absurd (qS (e8 ho) (kE I.sz h)) (xD _)
def Inv.MV(I:Inv X pins σ H s):∀ x c,X.env.cells.lookup x=some c->c≠X.env.locals:=λx c e z=>by obtain⟨v,o,ho,hd⟩:=I.cell x c e;obtain⟨m,⟨o',es,ep,rg,Ee,_⟩,_⟩:=I.loc;rw[z,rg] at ho;cases ho;rw[Ee] at hd;cases hd
def Inv.A2(I:Inv X pins σ H s):s.heap.FunFrames X.base X.outer:=by
 have all:∀ l,(∀ b∈CB l,b∈X.fs)->X.lh.heap.FunFrames X.base l->s.heap.FunFrames X.base l:=by
  intro l
  induction l with
  |nil=>intro _ _;trivial
  |cons env r ih =>intro hs hl;obtain⟨hk,⟨L,o,hf,hn,ho,hd⟩,hr⟩:=hl;have hL:L∈X.fs:=hs L (by unfold CB;rw[Sj,hf];exact eh);obtain⟨sl,e⟩:=I.base.slot L o ho (I.ok.MS L hL) hL λz=>I.ok.SV L z hL;exact⟨hk,⟨L,_,hf,hn,e,hd⟩,ih (λb hb=>hs b (by unfold CB;rw[Sj,hf];exact eI _ hb)) hr⟩
 exact all X.outer (λ_ hb=>hb) I.ok.A2
def Inv.stack(I:Inv X pins σ H s):s.heap.FunFrames X.base X.stack:=by
 rcases I.ok.UT with e|⟨e,hf⟩
 ·rw[e];exact I.A2
 ·rw[e];obtain⟨m,hn,_⟩:=I.loc;refine .cons (by rw[I.ok.kind];decide) hf hn ?_ I.A2;exact Heap.get?_none_of_le (kE I.ok.Fu I.ok.above)
def Inv.Zy(I:Inv X pins σ H s):∀ b∈CB X.stack,b∈X.env.locals :: X.fs:=λb hb=>by
 rcases I.ok.UT with e|⟨e,hf⟩
 ·rw[e] at hb;exact eI _ hb
 ·rw[e] at hb;unfold CB at hb;rw[Sj,hf] at hb;exact hb
def Inv.bS'(I:Inv X pins σ H s):∀ b∈CB X.stack,H b=none:=λb hb=>by
 rcases eu.mp (I.Zy b hb) with e|hb
 ·rw[e];exact I.free
 ·obtain⟨_,o,ho,_⟩:=I.ok.A2.mem hb;exact I.base.free b o ho (I.ok.MS b hb) λz=>I.ok.SV b z hb
def Inv.step{g':Array GenState}{t':Nat}{d':Drawn}{ch:List ai}(I:Inv X pins σ H s)(EA:∀ b∈ch,(b∈X.ex\/X.lh.heap.objs.size<=b)/\b≠X.env.locals/\(∀ x c,X.env.cells.lookup x=some c->c≠b)/\∀ p∈X.pn++pins,p.1≠b)(keep:∀ b o,b≠X.env.locals->b∉X.fs->b∉ch->s.heap.get? b=some o->H b=none->h'.get? b=some o)(slot:∀ b o,b≠X.env.locals->b∈X.fs->b∉ch->s.heap.get? b=some o->H b=none->∃ sl,h'.get? b=some { o with slots:=sl }) (free:∀ b o,b∉ch->s.heap.get? b=some o->H b=none->H' b=none) (there:∀ b o,b∉ch->s.heap.get? b=some o->∃ o',h'.get? b=some o') (kB:∀ b xs,H b=some (.tup xs)->H' b=some (.tup xs)) (Ct:∀ b o u,H b=some (.fR o u)->H' b=some (.fR o u)) (D9:∀ b ps,H b=some (.zh ps)->∃ more,H' b=some (.zh (ps++more))) (ns:∀ m,s.heap.Ns X.env.locals m->h'.Ns X.env.locals m) (bP:kf X.prog X.w H' h') (hg:AllBare g') :
  Inv X pins σ H' { s with heap:=h',gens:=g',drawn:=d',toks:=t' }:=by
 have neL:∀ b o,X.lh.heap.get? b=some o->b≠X.env.locals:=λb o e=>fz (qS (e8 e) I.ok.above);have UW:∀ b o,X.lh.heap.get? b=some o->b∉X.ex->b∉ch:=λb o e hx hb=>by
  rcases (EA b hb).1 with z|z
  ·exact hx z
  ·exact absurd (qS (e8 e) z) (xD _)
 have cellK:∀ x c,X.env.cells.lookup x=some c->∀ v,s.heap.IsCell c v->h'.IsCell c v:=λx c e v dc=>by
  obtain⟨o,ho,hd⟩:=dc;have SW:c∉ch:=λz=>(EA c z).2.2.1 x c e rfl;by_cases hc:c∈X.fs
  ·obtain⟨sl,q⟩:=slot c o (I.MV x c e) hc SW ho (I.AA x c e);exact⟨_,q,hd⟩
  ·exact⟨o,keep c o (I.MV x c e) hc SW ho (I.AA x c e),hd⟩
 refine⟨I.ok,I.os,hg,⟨λb o e n hb hx=>?_,λb o e n hb hx=>?_,λb o e n hx=>?_,λb o e hx=>?_,λb xs e=>kB b xs (I.base.kB b xs e),λb o xs e=>Ct b o xs (I.base.Ct b o xs e),λb ps e=>?_⟩,?_,λx c e=>?_,?_,λx c e=>?_,λp hp=>?_,bP,I.len⟩
 ·exact keep b o (neL b o e) hb (UW b o e hx) (I.base.keep b o e n hb hx) (I.base.free b o e n hx)
 ·obtain⟨sl,e1⟩:=I.base.slot b o e n hb hx;obtain⟨UX,e2⟩:=slot b _ (neL b o e) hb (UW b o e hx) e1 (I.base.free b o e n hx);exact⟨UX,e2⟩
 ·obtain⟨o',e1⟩:=I.base.there b o e hx;exact free b o' (UW b o e hx) e1 (I.base.free b o e n hx)
 ·obtain⟨o',e1⟩:=I.base.there b o e hx;exact there b o' (UW b o e hx) e1
 ·obtain⟨m1,e1⟩:=I.base.D9 b ps e;obtain⟨m2,e2⟩:=D9 b _ e1;exact⟨m1++m2,by rw[e2,Array.append_assoc]⟩
 ·obtain⟨m,hn,hl⟩:=I.loc;refine⟨m,ns m hn,λi x v e1 e2 e3=>?_⟩;obtain⟨u,r,l⟩:=hl i x v e1 e2 e3;refine⟨u,r,?_⟩;rcases l with l|⟨k,c,e,z⟩
  ·exact .inl l
  ·exact .inr ⟨k,c,e,cellK x c e _ z⟩
 ·obtain⟨v,z⟩:=I.cell x c e;exact⟨v,cellK x c e v z⟩
 ·obtain⟨m,⟨o,_,_,ho,_⟩,_⟩:=I.loc;exact free _ o (λz=>(EA _ z).2.1 rfl) ho I.free
 ·obtain⟨v,o,ho,hd⟩:=I.cell x c e;exact free c o (λz=>(EA c z).2.2.1 x c e rfl) ho (I.AA x c e)
 ·obtain⟨e,n,ne,nf,d⟩:=I.pin p hp;have SW:p.1∉ch:=λz=>(EA p.1 z).2.2.2 p hp rfl;exact⟨keep p.1 p.2 ne nf SW e n,free p.1 p.2 SW e n,ne,nf,d⟩
def Inv.un{t':Nat}(I:Inv X pins σ H s)(u:Un X.fs [] H H' s.heap h')(bP:kf X.prog X.w H' h'):Inv X pins σ H' { s with heap:=h',toks:=t' }:=by
 obtain⟨m,⟨o,es,ep,ho,r⟩,_⟩:=id I.loc;obtain⟨sl,hL⟩:=u.any ho I.free (by simp);exact I.step (ch:=[]) (λ_ z=>nomatch z) (λb o _ hb _ e n=>u.keep b o e n hb (by simp)) (λb o _ hb _ e n=>u.slot b o e n hb (by simp)) (λb o _ e n=>u.free b o e n (by simp)) (λb o _ e=>u.there b o e (by simp)) u.kB u.Ct u.D9 (λm' hm=>by
  obtain⟨o',FC,ep',rg,r'⟩:=hm;rw[ho] at rg;cases rg;exact⟨_,FC,ep',hL,r'⟩) bP I.bare
def Inv.call{g':Array GenState}{t':Nat}{d':Drawn}{ch:List ai}(I:Inv X pins σ H s)(u:Un (CB X.stack) ch H H' s.heap h')(bP:kf X.prog X.w H' h')(hg:AllBare g')(EA:∀ b∈ch,(b∈X.ex\/X.lh.heap.objs.size<=b)/\b≠X.env.locals/\(∀ x c,X.env.cells.lookup x=some c->c≠b)/\∀ p∈X.pn++pins,p.1≠b) :
  Inv X pins σ H' { s with heap:=h',gens:=g',drawn:=d',toks:=t' }:=by
 obtain⟨m,⟨o,es,ep,ho,r⟩,_⟩:=id I.loc;obtain⟨sl,hL⟩:=u.any ho I.free λz=>(EA _ z).2.1 rfl;exact I.step EA (λb o hL hb hc e n=>u.keep b o e n (λz=>(eu.mp (I.Zy b z)).elim hL hb) hc) (λb o _ _ hc e n=>u.any e n hc) (λb o hc e n=>u.free b o e n hc) (λb o hc e=>u.there b o e hc) u.kB u.Ct u.D9 (λm' hm=>by
  obtain⟨o',FC,ep',rg,r'⟩:=hm;rw[ho] at rg;cases rg;exact⟨_,FC,ep',hL,r'⟩) bP hg
def Inv.turned{t':Nat}{it:ai}(I:Inv X pins σ H s)(k:∀ b o,b≠it->s.heap.get? b=some o->h'.get? b=some o)(hn:H it=none)(hL:it≠X.env.locals)(h1:it∈X.ex\/X.lh.heap.objs.size<=it) (h2:∀ x c,X.env.cells.lookup x=some c->c≠it) (h3:∀ p∈X.pn++pins,p.1≠it):Inv X pins σ H { s with heap:=h',toks:=t' }:=by
 have IU:∀ b u,H b=some u->b≠it:=λb u e z=>by rw[z,hn] at e;cases e
 refine I.step (ch:=[it]) (λb hb=>?_) (λb o _ _ hc e _=>k b o (λz=>hc (by simp[z])) e) (λb o _ _ hc e _=>⟨o.slots,k b o (λz=>hc (by simp[z])) e⟩) (λ_ _ _ _ n=>n) (λb o hc e=>⟨o,k b o (λz=>hc (by simp[z])) e⟩) (λ_ _ e=>e) (λ_ _ _ e=>e) (λb ps e=>⟨#[],by rw[e];simp⟩) (λm hm=>?_) (λb u e=>?_) I.bare
 ·have e:b=it:=by simpa using hb
  subst e;exact⟨h1,hL,h2,h3⟩
 ·obtain⟨o,es,ep,ho,r⟩:=hm;exact⟨o,es,ep,k _ o (Ne.symm hL) ho,r⟩
 ·refine(I.bP b u e).hX (λc v hc q=>k c v ?_ q) (λ_ q=>q) λ_ _ q=>q;rcases hc with z|z
  ·rw[z];exact IU b u e
  ·exact IU c _ z
def Inv.tok(I:Inv X pins σ H s)(t:Nat):Inv X pins σ H { s with toks:=t }:=I.un Un.refl I.bP
def Inv.kept(I:Inv X pins σ H s)(k:∀ b u,s.heap.get? b=some u->h'.get? b=some u):Inv X pins σ H { s with heap:=h',toks:=t' }:=I.un (Un.kept k) (I.bP.kept k)
def Inv.laid(I:Inv X pins σ H s)(k:∀ b u,s.heap.get? b=some u->h'.get? b=some u)(hp:s.heap.objs.size<=a)(new:kz X.prog X.w (upd H a o) h' a o) :
  Inv X pins σ (upd H a o) { s with heap:=h',toks:=t' }:=I.un (Un.laid k hp (I.bP.fresh hp)) (I.bP.laid k hp new)
def Inv.write(I:Inv X pins σ H s)(mu:SK (H x))(he:e=x\/H e=some (.own x))(k:∀ b u,b≠e->s.heap.get? b=some u->h'.get? b=some u)(Cb:∃ u,h'.get? e=some u)(new:kz X.prog X.w (upd H x o) h' x o):Inv X pins σ (upd H x o) { s with heap:=h',toks:=t' }:=I.un (Un.write mu he k Cb) (I.bP.write mu he k Cb new)
def Inv.bU'(I:Inv X pins σ H s)(h:∀ p∈fU',s.heap.get? p.1=some p.2/\H p.1=none/\p.1≠X.env.locals/\p.1∉X.fs/\∀ v,p.2.data≠.cell v):Inv X fU' σ H s :=
 ⟨I.ok,I.os,I.bare,I.base,I.loc,I.cell,I.free,I.AA,λp hp=>(hJ.mp hp).elim (λz=>I.pin p (yB _ z)) (h p),I.bP,I.len⟩
def bV'{N:List Str}(hN:N.Nodup){i j:Nat}{x:Str}(a:N[i]? = some x)(b:N[j]? = some x):i=j:=by obtain⟨h1,e1⟩:=h9.mp a;obtain⟨h2,e2⟩:=h9.mp b;exact(Ss hN).mp (e1.trans e2.symm)
def bW'{M:Model}{A:ft}{E:ag->aI->Prop}{i:Nat}{x:Str}{v:V}{u:ag}{Q:Unit->aI->Prop}(I:Inv X pins σ H s)(hN:X.N.Nodup)(hi:X.N[i]? = some x)(hx:Loc X.env.scope x)(r:RelV v u)(h:∀ s',Inv X pins (σ.set i (some v)) H s'->(∃ a,Heap.SameBut a s.heap s'.heap/\(a=X.env.locals\/X.env.cells.lookup x=some a))->Q () s') (hf:lD X x:=by first|exact .inl rfl|exact .inr rfl|assumption):aS M A (storeName X.env x u) Q E s:=by
 obtain⟨m,hn,hl⟩:=id I.loc;have fV':(X.env.scope.kind == .class || (X.env.scope.kind == .module && X.env.locals != X.env.globals))=false:=by rw[I.ok.kind];rfl
 have bX':i<σ.length:=by rw[I.len];exact(h9.mp hi).1
 have MV:=I.MV;have tracked:∀ {a:ai} {h':df},(∃ o,s.heap.get? a=some o/\H a=none)->Heap.SameBut a s.heap h'->kf X.prog X.w H h':=λ{a h'} ha hs b ob e=>by
  obtain⟨_,_,bY'⟩:=ha;refine(I.bP b ob e).hX (λc w' hc q=>(hs.2 c ?_).trans q) (λ_ q=>q) λ_ _ q=>q;rintro rfl;rcases hc with rfl|hc
  ·rw[bY'] at e;cases e
  ·rw[bY'] at hc;cases hc
 rcases hx with hk|hk
 ·refine wpAny_storeName_local hk hn (λh' CC hs=>?_) fV';obtain⟨oL,_,_,IX,_⟩:=id hn;refine h _ ⟨I.ok,I.os,I.bare,⟨λb o e n hb hx=>?_,λb o e n hb hx=>?_,I.base.free,λb o e hx=>?_,I.base.kB,I.base.Ct,I.base.D9⟩,⟨_,CC,λj y v' e1 e2 e3=>?_⟩,λy c e=>?_,I.free,I.AA,λp hp=>?_,tracked ⟨oL,IX,I.free⟩ hs,by simpa using I.len⟩ ⟨_,hs,.inl rfl⟩
  ·exact(hs.2 b (fz (qS (e8 e) I.ok.above))).trans (I.base.keep b o e n hb hx)
  ·obtain⟨sl,e1⟩:=I.base.slot b o e n hb hx;exact⟨sl,(hs.2 b (fz (qS (e8 e) I.ok.above))).trans e1⟩
  ·obtain⟨o',e1⟩:=I.base.there b o e hx;exact⟨o',(hs.2 b (fz (qS (e8 e) I.ok.above))).trans e1⟩
  ·by_cases hj:j=i
   ·subst hj;rw[hi] at e1;cases e1;rw[List.getElem?_set_self bX'] at e2;cases e2;exact⟨u,r,.inl ⟨hk,by simp⟩⟩
   ·rw[UA (Ne.symm hj)] at e2;obtain⟨u',r',q⟩:=hl j y v' e1 e2 e3;refine⟨u',r',?_⟩;rcases q with⟨k,e⟩|⟨k,c,e,z⟩
    ·refine .inl ⟨k,?_⟩;have:y≠x:=λe=>hj (bV' hN e1 (e ▸ hi));simp[this,e]
    ·exact .inr ⟨k,c,e,z.sameBut hs (MV y c e)⟩
  ·obtain⟨w',z⟩:=I.cell y c e;exact⟨w',z.sameBut hs (MV y c e)⟩
  ·obtain⟨e,n,ne,nf,d⟩:=I.pin p hp;exact⟨(hs.2 p.1 ne).trans e,n,ne,nf,d⟩
 ·have Zz:X.fn x=true:=by
   rcases hf with z|z
   ·exact z
   ·rw[z] at hk;cases hk
  obtain⟨c,hc⟩:=I.ok.has x (.inl hk);obtain⟨w',z⟩:=I.cell x c hc;refine wpAny_storeName_cell I.ok.kind hk hc z (λh' SX hs=>?_);obtain⟨oc,IY,fW'⟩:=id z;refine h { s with heap:=h' } ⟨I.ok,I.os,I.bare,⟨λb o e n hb hx=>?_,λb o e n hb hx=>?_,I.base.free,λb o e hx=>?_,I.base.kB,I.base.Ct,I.base.D9⟩,⟨m,hn.sameBut hs (Ne.symm (MV x c hc)),λj y v' e1 e2 e3=>?_⟩,λy c' e=>?_,I.free,I.AA,λp hp=>?_,tracked ⟨oc,IY,I.AA x c hc⟩ hs,by simpa using I.len⟩ ⟨c,hs,.inr hc⟩
  ·exact(hs.2 b (fz (qS (e8 e) (I.ok.SN x c Zz hc)))).trans (I.base.keep b o e n hb hx)
  ·obtain⟨sl,e1⟩:=I.base.slot b o e n hb hx;exact⟨sl,(hs.2 b (fz (qS (e8 e) (I.ok.SN x c Zz hc)))).trans e1⟩
  ·obtain⟨o',e1⟩:=I.base.there b o e hx;exact⟨o',(hs.2 b (fz (qS (e8 e) (I.ok.SN x c Zz hc)))).trans e1⟩
  ·by_cases hj:j=i
   ·subst hj;rw[hi] at e1;cases e1;rw[List.getElem?_set_self bX'] at e2;cases e2;exact⟨u,r,.inr ⟨.inl hk,c,hc,SX⟩⟩
   ·rw[UA (Ne.symm hj)] at e2;obtain⟨u',r',q⟩:=hl j y v' e1 e2 e3;refine⟨u',r',?_⟩;rcases q with q|⟨k,c',e,z'⟩
    ·exact .inl q
    ·refine .inr ⟨k,c',e,z'.sameBut hs ?_⟩;rintro rfl;exact hj (bV' hN e1 (I.ok.inj _ _ _ e hc ▸ hi))
  ·by_cases UY:c'=c
   ·subst UY;exact⟨_,SX⟩
   ·obtain⟨w2,z2⟩:=I.cell y c' e;exact⟨w2,z2.sameBut hs UY⟩
  ·obtain⟨e,n,ne,nf,d⟩:=I.pin p hp;refine⟨(hs.2 p.1 ?_).trans e,n,ne,nf,d⟩;intro q;rw[q,IY] at e;have q':oc=p.2:=Option.some.inj e;exact d w' (by rw[<- q'];exact fW')
def bZ'(I:Inv X pins σ H s)(hN:X.N.Nodup)(hi:X.N[i]? = some x)(hx:Loc X.env.scope x)(r:RelV v u)(h:∀ s',Inv X pins (σ.set i (some v)) H s'->Q () s') (hf:lD X x:=by first|exact .inl rfl|exact .inr rfl|assumption):aS M A (storeName X.env x u) Q E s :=
 bW' I hN hi hx r (λs' I' _=>h s' I') hf
def Inv.fX'(I:Inv X pins σ H s)(ho:s'.os=s.os)(u:Un (CB X.stack) ch H H' s.heap s'.heap)(bP:kf X.prog X.w H' s'.heap)(hg:AllBare s'.gens)(EA:∀ b∈ch,(b∈X.ex\/X.lh.heap.objs.size<=b)/\b≠X.env.locals/\(∀ x c,X.env.cells.lookup x=some c->c≠b)/\∀ p∈X.pn++pins,p.1≠b):Inv X pins σ H' s':=by
 obtain⟨h',g',d',t',o'⟩:=s';have e:o'=s.os:=ho;subst e;exact I.call u bP hg EA
end
abbrev XK:=ag->Option ai->Hp->Prop
abbrev St:=List (Option V)
abbrev VK:=V->Hp->Prop
abbrev TE:=St->Hp->VK->Prop
abbrev TT:=St->Hp->(Bool->Hp->Prop)->Prop
abbrev TA:=St->Hp->(List V->Hp->Prop)->Prop
structure Ends where
 nx:St->Hp->Prop
 rt:VK
 bk:St->Hp->Prop:=fun _ _=>False
 ct:St->Hp->Prop:=fun _ _=>False
abbrev TS:=Ends->St->Hp->Prop
def EP(X:Cx)(pins:List (ai × Obj))(σ:St)(Q:VK)(u:ag)(s':aI):Prop:=∃ v H',Inv X pins σ H' s'/\RelV v u/\Q v H'
def TP(X:Cx)(pins:List (ai × Obj))(σ:St)(Q:Bool->Hp->Prop)(b:Bool)(s':aI):Prop:=∃ H',Inv X pins σ H' s'/\Q b H'
def AP(X:Cx)(pins:List (ai × Obj))(σ:St)(Q:List V->Hp->Prop)(us:List ag)(s':aI):Prop:=∃ vs H',Inv X pins σ H' s'/\Vals vs us/\Q vs H'
def SP(X:Cx)(pins:List (ai × Obj))(D:Ends)(f:Flow)(s':aI):Prop :=
 match f with
 |.next=>∃ b9 H',Inv X pins b9 H' s'/\D.nx b9 H'
 |.brk=>∃ b9 H',Inv X pins b9 H' s'/\D.bk b9 H'
 |.cont=>∃ b9 H',Inv X pins b9 H' s'/\D.ct b9 H'
 |.ret u=>∃ v b9 H',Inv X pins b9 H' s'/\RelV v u/\D.rt v H'
def PE(X:Cx)(e:Expr)(t:TE):Prop :=
 ∀ pins s σ H Q,Inv X pins σ H s->t σ H Q->aS (aE X.prog X.w) X.A (dE e X.env) (EP X pins σ Q) X.xe s
def PT(X:Cx)(e:Expr)(t:TT):Prop :=
 ∀ pins s σ H Q,Inv X pins σ H s->t σ H Q->aS (aE X.prog X.w) X.A (isTrue e X.env (dE e X.env)) (TP X pins σ Q) X.xe s
def PW(X:Cx)(e:Expr)(t:TT):Prop :=
 ∀ whole pins s σ H Q,Inv X pins σ H s->t σ H Q->aS (aE X.prog X.w) X.A (isTrue e X.env whole) (TP X pins σ Q) X.xe s
def PA(X:Cx)(es:List Expr)(t:TA):Prop :=
 ∀ pos pins s σ H Q,Inv X pins σ H s->t σ H Q->aS (aE X.prog X.w) X.A (spliced (backTo pos (g7 es X.env))) (AP X pins σ Q) X.xe s
def PS(X:Cx)(st:h8)(t:TS):Prop :=
 ∀ pins s σ H D,Inv X pins σ H s->t D σ H->aS (aE X.prog X.w) X.A (exec st X.env) (SP X pins D) X.xe s
def mh(X:Cx)(st:List h8)(t:TS):Prop :=
 ∀ pins s σ H D,Inv X pins σ H s->t D σ H->aS (aE X.prog X.w) X.A (execs st X.env) (SP X pins D) X.xe s
def cp{α:Type}{t:Sem α}{Q Q':α->aI->Prop}{M:Model}{A:ft}{E:ag->aI->Prop}{s:aI}(h:aS M A t Q E s)(hQ:∀ a s,Q a s->Q' a s):aS M A t Q' E s:=oS h hQ λ_ _ x=>x
section
variable {X:Cx}
def kg(i:Nat):TE:=λσ H Q=>∃ v,σ[i]? = some (some v)/\Q v H
def tC(v:V):TE:=λ_ H Q=>Q v H
def SY (hN:X.N[i]? = some x) (hv:UR X.env.scope x) (hd:cM x:=by decide) (tS:(x == ("__classdict__" : Str))=false:=by decide):PE X (.Name x pos) (kg i):=by
 intro pins s σ H Q I h;obtain⟨v,e,h⟩:=h;obtain⟨m,hn,hl⟩:=I.loc;obtain⟨u,r,l⟩:=hl i x v hN e hv;have fin:EP X pins σ Q u s:=⟨v,H,I,r,h⟩
 rcases l with⟨hk,hm⟩|⟨hk,c,hc,ca'⟩
 ·exact wpAny_Name (wpAny_loadName_local I.ok.kind hk hn hm fin) hd
 ·rcases hk with hk|hk
  ·exact wpAny_Name (wpAny_loadName_cell I.ok.kind hk hc ca' fin) hd
  ·exact wpAny_Name (wpAny_loadName_free I.ok.kind hk hc ca' fin tS) hd
def fY'{i j pos}:PE X (.Constant (.int i) j pos) (tC (.int i)):=λ_ _ _ H _ I h=>wpAny_Constant_int ⟨.int i,H,I.tok _,⟨_,rfl⟩,h⟩
def fZ'{b j pos}:PE X (.Constant (.bool b) j pos) (tC (.bl b)):=λ_ _ _ H _ I h=>Constant_bool ⟨.bl b,H,I,rfl,h⟩
def ga'{j pos}:PE X (.Constant .none j pos) (tC .non):=λ_ _ _ H _ I h=>Constant_none ⟨.non,H,I,rfl,h⟩
def gb'{x j pos}:PE X (.Constant (.str x) j pos) (tC (.str x)):=λ_ _ _ H _ I h=>Calls.Constant_str ⟨.str x,H,I.tok _,⟨_,rfl⟩,h⟩
def Gl(X:Cx)(x:Str):Prop:=X.env.kindOf x=some .globalImplicit
def ZC(I:Inv X pins σ H s)(hg:Gl X x)(hm:X.mg x=some u)(h:Q u s)(hd:cM x:=by decide):aS (aE X.prog X.w) X.A (dE (.Name x pos) X.env) Q E s :=
 Calls.Name_function_global I.ok.kind hg (Calls.loadGlobal_global (by rw[I.ok.glob];exact I.mod.glob.keeps I.bk) hm h) hd
def FD(I:Inv X pins σ H s)(hg:Gl X x)(hm:X.mg x=none)(hv:k7 x=some u)(h:Q u s)(hn:x ≠ "__name__" := by decide) (hd:cM x:=by decide):aS (aE X.prog X.w) X.A (dE (.Name x pos) X.env) Q E s:=by
 obtain⟨mb,h1,h2⟩:=I.mod.blt;exact Calls.Name_function_global I.ok.kind hg (Calls.loadGlobal_builtin (by rw[I.ok.glob];exact I.mod.glob.keeps I.bk) hm (by rw[I.ok.blt];exact h1.keeps I.bk) ((h2 x hn).trans hv) h) hd
def cb'(hg:Gl X x)(hm:X.mg x=some u)(r:RelV v u)(hd:cM x:=by decide):PE X (.Name x pos) (tC v) :=
 λ_ _ _ H _ I h=>ZC I hg hm ⟨v,H,I,r,h⟩ hd
def gc' (hg:Gl X x) (hm:X.mg x=none) (hv:k7 x=some u) (r:RelV v u) (hn:x ≠ "__name__" := by decide) (hd:cM x:=by decide):PE X (.Name x pos) (tC v) :=
 λ_ _ _ H _ I h=>FD I hg hm hv ⟨v,H,I,r,h⟩ hn hd
variable {a b:Expr}{ta tb:TE}{pos:Pos}
def PC(X:Cx)(op:CmpOp)(a b:Expr)(t:TE):Prop :=
 ∀ pins s σ H Q,Inv X pins σ H s->t σ H Q ->
  aS (aE X.prog X.w) X.A (dE a X.env) (λv fo=>aS (aE X.prog X.w) X.A (dE b X.env) (λu zi=>aS (aE X.prog X.w) X.A (gI op v u) (EP X pins σ Q) X.xe zi) X.xe fo) X.xe s
def tB(t:TE):TT:=λσ H Q=>t σ H λx H1=>∃ c,x=.bl c/\Q c H1
def gd'(h:PC X op a b t)(h1:Ic op b=false:=by first|exact pT' _ (by decide) (by decide)|rfl):PT X (.Compare a [op] [b] pos) (tB t):=by intro pins s σ H Q I hw;refine wpAny_isTrue_Compare1 (cp (h pins s σ H _ I hw) λv s1 h1=>cp h1 λu s2 h2=>cp h2 λc s3 ck=>L2.e9 ck λx H1 I1 r1 q1=>?_) h1;obtain⟨d,rfl,q⟩:=q1;cases r1;exact zI ⟨H1,I1,q⟩
def ge'(h:PE X e t)(he:∀ whole,isTrue e X.env whole=(do let v <- whole;standAt e.pos;holding [v] (truthy v)):=by intro _;rfl):PT X e (tB t):=by intro pins s σ H Q I hw;refine isTrue_plain (cp (h pins s σ H _ I hw) λv s1 ck=>L2.e9 ck λx H1 I1 r1 q1=>?_) (he _);obtain⟨d,rfl,q⟩:=q1;cases r1;exact zI ⟨H1,I1,q⟩
variable {tA UZ:TT}{rest:List Expr}
def gf'(t u:TT):TT:=λσ H Q=>t σ H λc H1=>if c=true then u σ H1 Q else Q false H1
def tOr(t u:TT):TT:=λσ H Q=>t σ H λc H1=>if c=true then Q true H1 else u σ H1 Q
def gh'(t:TT):TT:=λσ H Q=>t σ H λc H1=>Q (!c) H1
def pw_and1(ha:PT X a tA):PW X (.BoolOp .And [a] pos) tA:=by
 intro wh pins s σ H Q I h;refine isTrue_and (cp (ha pins s σ H Q I h) λc s1 e=>?_)
 cases c with
 |true=>exact isTrue_and_nil e
 |false=>exact e
def pw_or1(ha:PT X a tA):PW X (.BoolOp .Or [a] pos) tA:=by
 intro wh pins s σ H Q I h;refine isTrue_or (cp (ha pins s σ H Q I h) λc s1 e=>?_)
 cases c with
 |false=>exact isTrue_or_nil e
 |true=>exact e
def pw_and(ha:PT X a tA)(hb:PW X (.BoolOp .And (b :: rest) pos) UZ):PW X (.BoolOp .And (a :: b :: rest) pos) (gf' tA UZ):=by
 intro wh pins s σ H Q I h;refine isTrue_and (cp (ha pins s σ H _ I h) λc s1 dc=>?_);obtain⟨H1,I1,q1⟩:=dc
 cases c with
 |true=>exact hb wh pins s1 σ H1 Q I1 q1
 |false=>exact⟨H1,I1,q1⟩
def pw_or(ha:PT X a tA)(hb:PW X (.BoolOp .Or (b :: rest) pos) UZ):PW X (.BoolOp .Or (a :: b :: rest) pos) (tOr tA UZ):=by
 intro wh pins s σ H Q I h;refine isTrue_or (cp (ha pins s σ H _ I h) λc s1 dc=>?_);obtain⟨H1,I1,q1⟩:=dc
 cases c with
 |true=>exact⟨H1,I1,q1⟩
 |false=>exact hb wh pins s1 σ H1 Q I1 q1
def gi'(ha:PT X a tA):PT X (.UnaryOp .Not a pos) (gh' tA):=by intro pins s σ H Q I h;exact isTrue_not (ha pins s σ H (λc H1=>Q (!c) H1) I h)
def gj'(ta tb:TE):TE:=λσ H Q=>ta σ H λx H1=>∃ c,x=.bl c/\if c=true then tb σ H1 Q else Q (.bl false) H1
def gk'(ta tb:TE):TE:=λσ H Q=>ta σ H λx H1=>∃ c,x=.bl c/\if c=true then Q (.bl true) H1 else tb σ H1 Q
def gl'(ta:TE):TE:=λσ H Q=>ta σ H λx H1=>∃ c,x=.bl c/\Q (.bl (!c)) H1
def gm'{op}(h:PE X a t):PE X (.BoolOp op [a] pos) t:=λpins s σ H Q I hw=>BoolOp_one (h pins s σ H Q I hw)
def gn'(ha:PE X a ta)(hb:PE X (.BoolOp .And (b :: rest) pos) tb):PE X (.BoolOp .And (a :: b :: rest) pos) (gj' ta tb):=by
 intro pins s σ H Q I h;refine BoolOp_and (cp (ha pins s σ H _ I h) λv s1 ck=>L2.e9 ck λx H1 I1 r1 q1=>?_);obtain⟨c,rfl,q1⟩:=q1;cases r1;refine zI ?_
 cases c with
 |true=>exact hb pins s1 σ H1 Q I1 q1
 |false=>exact⟨.bl false,H1,I1,rfl,q1⟩
def gp'(ha:PE X a ta)(hb:PE X (.BoolOp .Or (b :: rest) pos) tb):PE X (.BoolOp .Or (a :: b :: rest) pos) (gk' ta tb):=by
 intro pins s σ H Q I h;refine BoolOp_or (cp (ha pins s σ H _ I h) λv s1 ck=>L2.e9 ck λx H1 I1 r1 q1=>?_);obtain⟨c,rfl,q1⟩:=q1;cases r1;refine zI ?_
 cases c with
 |false=>exact hb pins s1 σ H1 Q I1 q1
 |true=>exact⟨.bl true,H1,I1,rfl,q1⟩
def gq'(ha:PE X a ta):PE X (.UnaryOp .Not a pos) (gl' ta):=by intro pins s σ H Q I h;refine UnaryOp_ (cp (ha pins s σ H _ I h) λv s1 ck=>L2.e9 ck λx H1 I1 r1 q1=>?_);obtain⟨c,rfl,q1⟩:=q1;cases r1;exact not_of (zI ⟨.bl (!c),H1,I1,rfl,q1⟩)
def tIf(t:TT)(ta tb:TE):TE:=λσ H Q=>t σ H λc H1=>if c=true then ta σ H1 Q else tb σ H1 Q
def cc'(hc:PT X c tA)(ha:PE X a ta)(hb:PE X b tb):PE X (.IfExp c a b pos) (tIf tA ta tb):=by
 intro pins s σ H Q I h;refine wpAny_IfExp (cp (hc pins s σ H _ I h) λd s1 dc=>?_);obtain⟨H1,I1,q1⟩:=dc
 cases d with
 |true=>exact ha pins s1 σ H1 Q I1 q1
 |false=>exact hb pins s1 σ H1 Q I1 q1
end
def fe(K:aC)(H:Hp)(a:ai)(xs:List V):Prop :=
 Rd H a (.lst xs) \/
  ∃ (o:Obj) (its:Array ag) (n:Nat),K.lookup a=some o/\o.cls=.type "list"/\o.dict=none/\o.data=.seq its n/\its.size<=bG/\Vals xs its.toList
def kL(K:aC)(H:Hp)(a:ai)(xs:List V):Prop :=
 Rd H a (.tup xs) \/
  ∃ (o:Obj) (its:Array ag) (n:Nat),K.lookup a=some o/\o.cls=.type "tuple"/\o.data=.seq its n/\its.size<=bG/\Vals xs its.toList
def gs':ag->Option V
 |.none=>some .non
 |.bool b=>some (.bl b)
 |.int i _=>some (.int i)
 |.str x _=>some (.str x)
 |.bytes b _=>some (.vE b)
 |.float b _=>some (.B9 b)
 |.ref a=>some (.ref a)
 |.type n=>some (.ty n)
 |_=>none
def RelV.abs(r:RelV x u):gs' u=some x:=by
 cases x with
 |non=>cases r;rfl
 |bl _=>cases r;rfl
 |int _=>obtain⟨t,rfl⟩:=r;rfl
 |str _=>obtain⟨t,rfl⟩:=r;rfl
 |vE _=>obtain⟨t,rfl⟩:=r;rfl
 |B9 _=>obtain⟨t,rfl⟩:=r;rfl
 |ref _=>cases r;rfl
 |ty _=>cases r;rfl
def RelV.inj(r:RelV x u)(q:RelV y u):x=y:=Option.some.inj (r.abs.symm.trans q.abs)
theorem Vals.inj:∀ {xs ys:List V} {us:List ag},Vals xs us->Vals ys us->xs=ys
 |_,_,_,.nil,.nil=>rfl
 |_,_,_,.cons r t,.cons r' t'=>by rw[r.inj r',Vals.inj t t']
section
variable {X:Cx}{pins:List (ai × Obj)}{σ:St}{H:Hp}{s:aI}{a:ai}{xs ys:List V}
def Inv.list(I:Inv X pins σ H s)(h:fe X.K H a xs):∃ its:List ag,Vals xs its/\PlainL s.heap a its.toArray/\xs.length<=bG:=by
 rcases h with h|⟨o,its,n,hk,hc,hd,hs,hz,r⟩
 ·obtain⟨z,its,n,r,e⟩:=h.ok I.bP;exact⟨its,r,⟨_,n,e,rfl,rfl,rfl⟩,z⟩
 ·refine⟨its.toList,r,⟨o,n,I.kC a o hk,hc,hd,by simpa using hs⟩,?_⟩;have e:=r.length;simp only[y9] at e;lia
def Inv.tuple(I:Inv X pins σ H s)(h:kL X.K H a xs):∃ its:List ag,Vals xs its/\IsTup s.heap a its.toArray/\xs.length<=bG:=by
 rcases h with h|⟨o,its,n,hk,hc,hs,hz,r⟩
 ·obtain⟨z,its,r,p⟩:=h.ok I.bP;exact⟨its,r,p,z⟩
 ·refine⟨its.toList,r,⟨o,I.kC a o hk,hc,n,by simpa using hs⟩,?_⟩;have e:=r.length;simp only[y9] at e;lia
def Inv.cd'(I:Inv X pins σ H s)(h:fe X.K H a xs)(h':fe X.K H a ys):xs=ys:=by
 obtain⟨its,r,⟨o,n,e,_,_,d⟩,_⟩:=I.list h;obtain⟨MX,r',⟨o',n',e',_,_,d'⟩,_⟩:=I.list h';rw[e] at e';cases e';rw[d] at d';injection d' with d1 _;have:its=MX:=by simpa using congrArg Array.toList d1
 subst this;exact r.inj r'
def Inv.gt'(I:Inv X pins σ H s)(h:kL X.K H a xs)(h':kL X.K H a ys):xs=ys:=by
 obtain⟨its,r,⟨o,e,_,n,d⟩,_⟩:=I.tuple h;obtain⟨MX,r',⟨o',e',_,n',d'⟩,_⟩:=I.tuple h';rw[e] at e';cases e';rw[d] at d';injection d' with d1 _;have:its=MX:=by simpa using congrArg Array.toList d1
 subst this;exact r.inj r'
end
abbrev Cx.wish(X:Cx)(E:ag->aI->Prop):Cx:={ X with xe:=E }
abbrev Cx.tT(X:Cx):Cx:=X.wish λ_ _=>False
def Cx.Ok.wish{X:Cx}(ok:X.Ok)(E:ag->aI->Prop):(X.wish E).Ok :=
 ⟨ok.mod,ok.kind,ok.glob,ok.blt,ok.above,ok.inj,ok.has,ok.SN,ok.hd,ok.frames,ok.UT,ok.UU,ok.bs,ok.Fu,ok.SQ,ok.SV,ok.A2,ok.MS⟩
def Cx.Ok.IZ{X:Cx}(ok:(X.wish E).Ok):X.Ok :=
 ⟨ok.mod,ok.kind,ok.glob,ok.blt,ok.above,ok.inj,ok.has,ok.SN,ok.hd,ok.frames,ok.UT,ok.UU,ok.bs,ok.Fu,ok.SQ,ok.SV,ok.A2,ok.MS⟩
section
variable {X:Cx}{pins:List (ai × Obj)}{σ:St}{H:Hp}{s:aI}{E:ag->aI->Prop}
def Inv.wish(I:Inv X pins σ H s)(E:ag->aI->Prop):Inv (X.wish E) pins σ H s:=⟨I.ok.wish E,I.os,I.bare,I.base,I.loc,I.cell,I.free,I.AA,I.pin,I.bP,I.len⟩
def Inv.IZ(I:Inv (X.wish E) pins σ H s):Inv X pins σ H s:=⟨I.ok.IZ,I.os,I.bare,I.base,I.loc,I.cell,I.free,I.AA,I.pin,I.bP,I.len⟩
def SP.IZ{D:Ends}(h:SP (X.wish E) pins D f s'):SP X pins D f s':=by
 cases f with
 |next=>obtain⟨b9,H',I,q⟩:=h;exact⟨b9,H',I.IZ,q⟩
 |brk=>obtain⟨b9,H',I,q⟩:=h;exact⟨b9,H',I.IZ,q⟩
 |cont=>obtain⟨b9,H',I,q⟩:=h;exact⟨b9,H',I.IZ,q⟩
 |ret u=>obtain⟨v,b9,H',I,r,q⟩:=h;exact⟨v,b9,H',I.IZ,r,q⟩
def mh.tT{st:List h8}(h:mh X.tT st t):mh X st t:=λpins s σ H D I hw =>
 oS (h pins s σ H D (I.wish _) hw) (λ_ _ q=>q.IZ) λ_ _ z=>False.elim z
end
section
variable {X:Cx}{st:h8}{rest:List h8}{t u:TS}{e:Expr}{te:TE}{pos:Pos}
def ce':TS:=λD σ H=>D.nx σ H
def S0(t u:TS):TS:=λD σ H=>t { D with nx:=u D } σ H
def cf':mh X [] ce':=λ_ _ σ H _ I h=>wpAny_execs_nil ⟨σ,H,I,h⟩
def U0(h1:PS X st t)(h2:mh X rest u):mh X (st :: rest) (S0 t u):=by
 intro pins s σ H D I h;refine wpAny_execs_cons (cp (h1 pins s σ H { D with nx:=u D } I h) λf s1 q=>?_)
 cases f with
 |next =>obtain⟨b9,H',I',q⟩:=q;exact h2 pins s1 b9 H' D I' q
 |ret v=>exact q
 |brk=>exact q
 |cont=>exact q
def U4(h1:PS X st t):mh X [st] t:=by
 intro pins s σ H D I h;refine wpAny_execs_cons (cp (h1 pins s σ H D I h) λf s1 q=>?_)
 cases f with
 |next=>exact wpAny_execs_nil q
 |ret v=>exact q
 |brk=>exact q
 |cont=>exact q
def Inv.quiet(I:Inv X pins σ H s):interactive X.env=false:=by simp[interactive,I.ok.kind]
def cg'(te:TE):TS:=λD σ H=>te σ H λ_ H1=>D.nx σ H1
def S4(he:PE X e te)(hs:autoParam (nS e none pos.line X.env=pure false) bv):PS X (.Expr e pos) (cg' te):=by intro pins s σ H D I h;exact wpAny_Expr_any (cp (he pins s σ H _ I h) λv s1 ck=>L2.e9 ck λx H1 I1 r1 q1=>⟨σ,H1,I1,q1⟩) I.quiet hs
def U5(te:TE):TS:=λD σ H=>te σ H D.rt
def S5(he:PE X e te):PS X (.Return (some e) pos) (U5 te):=by intro pins s σ H D I h;exact wpAny_Return_some (cp (he pins s σ H _ I h) λv s1 ck=>L2.e9 ck λx H1 I1 r1 q1=>⟨x,σ,H1,I1,r1,q1⟩)
def ch'(c:TT)(t u:TS):TS:=λD σ H=>c σ H λb H1=>if b=true then t D σ H1 else u D σ H1
def ci'(hc:PT X c tc)(ha:mh X a t)(hb:mh X b u):PS X (.If c a b pos) (ch' tc t u):=by
 intro pins s σ H D I h;refine wpAny_If (cp (hc pins s σ H _ I h) λd s1 dc=>?_);obtain⟨H1,I1,q1⟩:=dc
 cases d with
 |true=>exact ha pins s1 σ H1 D I1 q1
 |false=>exact hb pins s1 σ H1 D I1 q1
def gu':TS:=λ_ _ _=>False
def gv':mh X sts gu':=λ_ _ _ _ _ _ h=>h.elim
end
abbrev TG:=V->St->Hp->(St->Hp->Prop)->Prop
abbrev QN:=List V->St->Hp->(St->Hp->Prop)->Prop
def PG(X:Cx)(target:Expr)(t:TG):Prop :=
 ∀ pins s σ H v u Q,Inv X pins σ H s->RelV v u->t v σ H Q ->
  aS (aE X.prog X.w) X.A (assign target X.env u) (λ_ s'=>∃ b9 H',Inv X pins b9 H' s'/\Q b9 H') X.xe s
def EB(X:Cx)(ts:List Expr)(t:QN):Prop :=
 ∀ pins s σ H vs us Q,Inv X pins σ H s->Vals vs us->t vs σ H Q ->
  aS (aE X.prog X.w) X.A (assignInOrder ((E7 ts X.env).map (·.2)) us) (λ_ s'=>∃ b9 H',Inv X pins b9 H' s'/\Q b9 H') X.xe s
section
variable {X:Cx}{pos:Pos}
def ZD(i:Nat):TG:=λv σ H Q=>Q (σ.set i (some v)) H
def gw'(hN:X.N.Nodup)(hi:X.N[i]? = some x)(hx:Loc X.env.scope x)(hf:lD X x:=by first|exact .inl rfl|exact .inr rfl|assumption):PG X (.Name x pos) (ZD i):=by intro pins s σ H v u Q I r h;exact wpAny_assign_Name (bZ' I hN hi hx r (λs' I'=>⟨_,H,I',h⟩) hf)
def gx':QN:=λvs σ H Q=>vs=[]/\Q σ H
def gy'(t:TG)(u:QN):QN:=λvs σ H Q=>∃ v r,vs=v :: r/\t v σ H λb9 H'=>u r b9 H' Q
def gz':EB X [] gx':=by intro pins s σ H vs us Q I r h;obtain⟨e,h⟩:=h;subst e;cases r;exact assignInOrder_nil ⟨σ,H,I,h⟩
def gA'(h1:PG X e t)(h2:EB X es u)(hs:autoParam ((E7 (e :: es) X.env).map (·.2)=assign e X.env :: (E7 es X.env).map (·.2)) bv):EB X (e :: es) (gy' t u):=by
 intro pins s σ H vs us Q I r h;obtain⟨v,vr,e1,h⟩:=h;subst e1
 cases r with
 |cons r rr =>rw[hs];refine assignInOrder_cons (cp (h1 pins s σ H _ _ _ I r h) λ_ s1 dc=>?_);obtain⟨sF,H1,I1,q1⟩:=dc;exact h2 pins s1 sF H1 _ _ Q I1 rr q1
def gB'(K:aC)(n:Nat)(t:QN):TG:=λv σ H Q=>∃ a xs,v=.ref a/\kL K H a xs/\xs.length=n/\t xs σ H Q
def gC'(hc:X.calm=true)(h:EB X es t)(hn:autoParam ((E7 es X.env).length=n) bv) (rh:autoParam ((E7 es X.env).findIdx? (·.1)=none) bv):PG X (.Tuple es k pos) (gB' X.K n t):=by
 intro pins s σ H v u Q I r hw;obtain⟨a,xs,e1,hq,hl,hw⟩:=hw;subst e1;cases r;obtain⟨its,rv,ht,hz⟩:=I.tuple hq;refine assign_Tuple_tuple (I.ok.hd hc) ht (by simp[hn,<- hl,rv.length]) rh λh' hx=>?_;have I1:Inv X pins σ H { s with heap:=h' }:=I.kept λb o e=>hx b o (fz (e8 e)) e;exact h pins _ σ H xs _ Q I1 (by simpa using rv) hw
def cj'(te:TE)(g:TG):TS:=λD σ H=>te σ H λx H1=>g x σ H1 D.nx
def ZE(hN:X.N.Nodup)(hi:X.N[i]? = some x)(hx:Loc X.env.scope x)(he:PE X e te)(hs:autoParam (nS e (some (.Name x pos')) pos.line X.env=pure false) bv)(hf:lD X x:=by first|exact .inl rfl|exact .inr rfl|assumption) :
  PS X (.Assign [.Name x pos'] e pos) (cj' te (ZD i)):=by
 intro pins s σ H D I h;refine wpAny_Assign_Name (cp (he pins s σ H _ I h) λv s1 ck=>L2.e9 ck λy H1 I1 r1 q1=>?_) hs;exact bZ' I1 hN hi hx r1 (λs2 I2=>⟨_,H1,I2,q1⟩) hf
def gD'(c:TT)(tb:TS):TS:=λD σ H=>∃ W:Nat->St->Hp->Prop,(∃ m,W m σ H)/\∀ m σ H,W m σ H ->
 c σ H λb H1=>if b=true then ∃ N:St->Hp->Prop,(∀ b9 H',N b9 H'->∃ m',m'<m/\W m' b9 H')/\tb { D with nx:=N,ct:=N,bk:=D.nx } σ H1 else D.nx σ H1
def gE'(hp:PassesOwn (aE X.prog X.w) X.A X.env X.xe)(hc:PT X c tc)(hb:mh X body tb):PS X (.While c body [] pos) (gD' tc tb):=by
 intro pins s σ H D I h;obtain⟨W,⟨m0,w0⟩,turn⟩:=h;refine wpAny_While (codeAny_whileLoop (λn s'=>∃ b9 H',Inv X pins b9 H' s'/\W n b9 H') ?_ m0 ⟨σ,H,I,w0⟩);rintro n s1 ⟨sF,H1,I1,w1⟩;refine LN hp (cp (hc pins s1 sF H1 _ I1 (turn n sF H1 w1)) λb s2 dc=>?_);obtain⟨H2,I2,q2⟩:=dc
 cases b with
 |true =>
  obtain⟨N,hN,q2⟩:=q2;refine LN hp (cp (hb pins s2 sF H2 _ I2 q2) λf s3 q3=>?_)
  cases f with
  |next =>obtain⟨rq,H3,I3,n3⟩:=q3;obtain⟨m',hm,w3⟩:=hN rq H3 n3;exact⟨m',hm,rq,H3,I3,w3⟩
  |cont =>obtain⟨rq,H3,I3,n3⟩:=q3;obtain⟨m',hm,w3⟩:=hN rq H3 n3;exact⟨m',hm,rq,H3,I3,w3⟩
  |brk=>exact q3
  |ret v=>exact q3
 |false =>exact wpAny_execs_nil ⟨sF,H2,I2,q2⟩
end
structure It where
 go:Nat->Hp->Prop
 nE:Nat->Hp->V->Hp->Prop
 stop:Nat->Hp->Prop
def zk(X:Cx)(pins:List (ai × Obj))(H:Hp)(b:ai):Prop :=
 H b=none/\b≠X.env.locals/\b∉X.fs/\(b∈X.ex\/X.lh.heap.objs.size<=b)/\(∀ x c,X.env.cells.lookup x=some c->c≠b)/\∀ p∈X.pn++pins,p.1≠b
def Inv.I0{X:Cx}(I:Inv X pins σ H s)(hb:s.heap.objs.size<=b)(hn:H' b=none):zk X pins H' b:=by
 refine⟨hn,MD (qS I.lt hb),I.fT' hb,.inr (kE I.sz hb),λx c e z=>?_,λp hp z=>?_⟩
 ·obtain⟨v,q⟩:=I.cell x c e;exact absurd (qS q.lt (by rw[z];exact hb)) (xD _)
 ·exact absurd (qS (e8 (I.pin p hp).1) (by rw[z];exact hb)) (xD _)
structure Turn(P:cf)(w:cw)(K:aC)(tg:Expr)(J:It)(fp:List ai)(it:ai)(tn:Nat->df->Prop):Prop where
 mem:it∈fp
 obj:∀ i h,tn i h->∀ b∈fp,∃ o,h.get? b=some o/\∀ v,o.data≠.cell v
 keep:∀ i h h',tn i h->(∀ b∈fp,∀ o,h.get? b=some o->h'.get? b=some o)->tn i h'
 item:∀ (X:Cx),X.prog=P->X.w=w->X.K=K->X.calm=true->∀ i pins s σ H E,Inv X pins σ H s->(∀ b∈fp,zk X pins H b)->tn i s.heap->J.go i H ->
  aS (aE P w) X.A (pyNext (.ref it)) (fun r s1=>∃ u,r=some u /\
   aS (aE P w) X.A (letOwnedTupleGo tg (.ref it) u) (fun _ s2=>∃ x H',Inv X pins σ H' s2/\RelV x u/\J.nE i H x H'/\tn (i+1) s2.heap/\∀ b∈fp,H' b=none) E s1) E s
 done:∀ (X:Cx),X.prog=P->X.w=w->X.K=K->X.calm=true->∀ i pins s σ H E,Inv X pins σ H s->(∀ b∈fp,zk X pins H b)->tn i s.heap->J.stop i H ->
  aS (aE P w) X.A (pyNext (.ref it)) (fun r s1=>r=none/\Inv X pins σ H s1) E s
 self:∀ (A:ft) (i:Nat) (s:aI) (Q:ag->aI->Prop) (E:ag->aI->Prop),tn i s.heap->Q (.ref it) s->aS (aE P w) A (pyIter (.ref it)) Q E s
abbrev TI:=St->Hp->(It->Hp->Prop)->Prop
def ZF(X:Cx)(pins:List (ai × Obj))(σ:St)(tg:Expr)(R:It->Hp->Prop)(ZG:ag)(s2:aI):Prop :=
 ∃ (it:ai) (fp:List ai) (tn:Nat->df->Prop) (J:It) (H':Hp),ZG=.ref it/\Inv X pins σ H' s2/\Turn X.prog X.w X.K tg J fp it tn/\tn 0 s2.heap/\(∀ b∈fp,zk X pins H' b)/\R J H'
def PI(X:Cx)(tg iter:Expr)(wi:TI):Prop :=
 ∀ pins s σ H R,Inv X pins σ H s->wi σ H R ->
  aS (aE X.prog X.w) X.A (dE iter X.env) (λv s1=>aS (aE X.prog X.w) X.A (pyIter v) (ZF X pins σ tg R) X.xe s1) X.xe s
def QY(ho:s.heap.get? it=some o)(hc:o.cls=.type n)(hd:o.data=.fields vs)(hn:["enumerate", "zip", "dict_itemiterator", "dict_reverseitemiterator", "odict_iterator", "itertools.zip_longest", "itertools.pairwise"].contains n=false) (hQ:Q () s):aS M A (letOwnedTupleGo tg (.ref it) u) Q E s:=by
 cases tg<;>first
  |exact aT hQ
  | (cases u<;>first
     |exact aT hQ
     | (refine av (wpAny_load ho ?_)
        rw[hc,hd];show aS M A (if (["enumerate", "zip", "dict_itemiterator", "dict_reverseitemiterator", "odict_iterator", "itertools.zip_longest", "itertools.pairwise"].contains n && vs[0]? == some (pf _))=true then _ else _) Q E s;rw[if_neg (by intro h;rw[hn,Bool.false_and] at h;cases h)];exact aT hQ))
def U6(K:aC)(a:ai):It :=
 ⟨λi H=>∃ xs x,fe K H a xs/\xs[i]? = some x,λi H x H'=>H'=H/\∀ xs,fe K H a xs->xs[i]? = some x,λi H=>∃ xs,fe K H a xs/\xs.length<=i⟩
def ZH(K:aC)(a:ai):It :=
 ⟨λi H=>∃ xs x,kL K H a xs/\xs[i]? = some x,λi H x H'=>H'=H/\∀ xs,kL K H a xs->xs[i]? = some x,λi H=>∃ xs,kL K H a xs/\xs.length<=i⟩
def Ri(lo:Int)(n:Nat):It:=⟨λi _=>i<n,λi H x H'=>H'=H/\x=.int (lo+i),λi _=>n<=i⟩
def gF'{P:cf}{K:aC}(a it:ai):Turn P w K tg (U6 K a) [it] it (λi h=>h.IsListIter it a i) where
 mem:=by simp
 obj:=λi h st b hb=>by
  have e:b=it:=by simpa using hb
  subst e;obtain⟨o,e,c,d⟩:=st;exact⟨o,e,λv z=>by rw[d] at z;cases z⟩
 keep:=λi h h' st k=>st.at λo e=>k it (by simp) o e
 item:=by intro X hP hw hK hc i pins s σ H E I hf st hg;subst hP hw hK;obtain⟨xs,x,hq,hx⟩:=hg;obtain⟨its,rv,p,hz⟩:=I.list hq;obtain⟨u,hu,ru⟩:=rv.get hx;obtain⟨f0,f1,f2,f3,f4,f5⟩:=hf it (by simp);refine wpAny_pyNext_list_item st p.isList (x:=u) (by simpa using hu) λh' aw sb=>?_;have I1:Inv X pins σ H { s with heap:=h' }:=I.turned (t':=s.toks) (λb o hb e=>(sb.2 b hb).trans e) f0 f1 f3 f4 f5;obtain⟨o,e,c,d⟩:=id aw;exact⟨u,rfl,QY (s:={ s with heap:=h' }) e c d (by decide) ⟨x,H,I1,ru,⟨rfl,λys hy=>by rw[I.cd' hy hq];exact hx⟩,aw,λb hb=>(hf b hb).1⟩⟩
 done:=by intro X hP hw hK hc i pins s σ H E I hf st hg;subst hP hw hK;obtain⟨xs,hq,hx⟩:=hg;obtain⟨its,rv,p,hz⟩:=I.list hq;obtain⟨f0,f1,f2,f3,f4,f5⟩:=hf it (by simp);have hl:=rv.length;exact wpAny_pyNext_list_end (I.ok.hd hc) st p.isList (by simp;lia) λh' eb=>⟨rfl,I.turned (t':=s.toks) (λb o hb e=>eb b o hb e) f0 f1 f3 f4 f5⟩
 self:=λ_ _ _ _ _ st h=>wpAny_pyIter_listiter st h
def gG'{P:cf}{K:aC}(a it:ai):Turn P w K tg (ZH K a) [it] it (λi h=>h.IsTupleIter it a i) where
 mem:=by simp
 obj:=λi h st b hb=>by
  have e:b=it:=by simpa using hb
  subst e;obtain⟨o,e,c,d⟩:=st;exact⟨o,e,λv z=>by rw[d] at z;cases z⟩
 keep:=λi h h' st k=>st.at λo e=>k it (by simp) o e
 item:=by intro X hP hw hK hc i pins s σ H E I hf st hg;subst hP hw hK;obtain⟨xs,x,hq,hx⟩:=hg;obtain⟨its,rv,p,hz⟩:=I.tuple hq;obtain⟨u,hu,ru⟩:=rv.get hx;obtain⟨f0,f1,f2,f3,f4,f5⟩:=hf it (by simp);refine wpAny_pyNext_tuple_item st (show s.heap.IsTuple a its.toArray from p) (x:=u) (by simpa using hu) λh' aw sb=>?_;have I1:Inv X pins σ H { s with heap:=h' }:=I.turned (t':=s.toks) (λb o hb e=>(sb.2 b hb).trans e) f0 f1 f3 f4 f5;obtain⟨o,e,c,d⟩:=id aw;exact⟨u,rfl,QY (s:={ s with heap:=h' }) e c d (by decide) ⟨x,H,I1,ru,⟨rfl,λys hy=>by rw[I.gt' hy hq];exact hx⟩,aw,λb hb=>(hf b hb).1⟩⟩
 done:=by intro X hP hw hK hc i pins s σ H E I hf st hg;subst hP hw hK;obtain⟨xs,hq,hx⟩:=hg;obtain⟨its,rv,p,hz⟩:=I.tuple hq;obtain⟨f0,f1,f2,f3,f4,f5⟩:=hf it (by simp);have hl:=rv.length;exact wpAny_pyNext_tuple_end (I.ok.hd hc) st (show s.heap.IsTuple a its.toArray from p) (by simp;lia) λh' eb=>⟨rfl,I.turned (t':=s.toks) (λb o hb e=>eb b o hb e) f0 f1 f3 f4 f5⟩
 self:=λ_ _ _ _ _ st h=>wpAny_pyIter_tupleiter st h
def gH'{P:cf}{K:aC}(it:ai)(lo:Int)(n:Nat):Turn P w K tg (Ri lo n) [it] it (λi h=>IsRangeIter h it (lo+(i:Nat)*1) ((n:Int)-(i:Nat)) 1) where
 mem:=by simp
 obj:=λi h st b hb=>by
  have e:b=it:=by simpa using hb
  subst e;exact⟨_,st,λv z=>by
   have z':Data.fields _=Data.cell v:=z;cases z'⟩
 keep:=λi h h' st k=>k it (by simp) _ st
 item:=by intro X hP hw hK hc i pins s σ H E I hf st hg;subst hP hw hK;obtain⟨f0,f1,f2,f3,f4,f5⟩:=hf it (by simp);have W:=Walks.range (prog:=X.prog) (w:=X.w) (I.ok.hd hc) it lo 1 n;refine W.item i s _ _ hg st λv h' tk hv aw kk=>?_;obtain⟨t,rfl⟩:=hv;have I1:Inv X pins σ H { s with heap:=h',toks:=tk }:=I.turned (λb o hb e=>kk b o (by simpa using hb) e) f0 f1 f3 f4 f5;refine⟨_,rfl,QY (s:={ s with heap:=h',toks:=tk }) (n := "range_iterator") aw rfl rfl (by decide) ⟨.int (lo+i),H,I1,⟨t,?_⟩,⟨rfl,rfl⟩,aw,λb hb=>(hf b hb).1⟩⟩;rw[Int.mul_one]
 done:=by intro X hP hw hK hc i pins s σ H E I hf st hg;subst hP hw hK;obtain⟨f0,f1,f2,f3,f4,f5⟩:=hf it (by simp);exact wpAny_pyNext_range_end (I.ok.hd hc) st (by have:n<=i:=hg;lia) λh' eb=>⟨rfl,I.turned (t':=s.toks) (λb o hb e=>eb b o hb e) f0 f1 f3 f4 f5⟩
 self:=λ_ _ _ _ _ st h=>wpAny_pyIter_rangeiter st h
section
variable {X:Cx}{tg:Expr}
def gI'(K:aC)(tl:TE):TI:=λσ H R=>tl σ H λx H1=>∃ a,x=.ref a/\(∃ xs,fe K H1 a xs)/\R (U6 K a) H1
def gJ'(K:aC)(tl:TE):TI:=λσ H R=>tl σ H λx H1=>∃ a,x=.ref a/\(∃ xs,kL K H1 a xs)/\R (ZH K a) H1
def ck'(hl:PE X l tl):PI X tg l (gI' X.K tl):=by
 intro pins s σ H R I h;refine cp (hl pins s σ H _ I h) λv s1 ck=>L2.e9 ck λx H1 I1 r1 q1=>?_;obtain⟨a,e,⟨xs,hq⟩,q⟩:=q1;subst e;cases r1;obtain⟨its,rv,p,hz⟩:=I1.list hq;refine R7 p.isList ?_;refine⟨s1.heap.objs.size,[s1.heap.objs.size],_,_,H1,rfl,I1.kept λb o e=>eL _ e,gF' a _,⟨_,ip _ rfl,rfl,rfl⟩,λb hb=>?_,q⟩;have e:b=s1.heap.objs.size:=by simpa using hb
 subst e;exact I1.I0 (cK _) (I1.bP.fresh (cK _))
def gK'(hl:PE X l tl):PI X tg l (gJ' X.K tl):=by
 intro pins s σ H R I h;refine cp (hl pins s σ H _ I h) λv s1 ck=>L2.e9 ck λx H1 I1 r1 q1=>?_;obtain⟨a,e,⟨xs,hq⟩,q⟩:=q1;subst e;cases r1;obtain⟨its,rv,p,hz⟩:=I1.tuple hq;refine wpAny_pyIter_tuple (p) ?_;refine⟨s1.heap.objs.size,[s1.heap.objs.size],_,_,H1,rfl,I1.kept λb o e=>eL _ e,gG' a _,⟨_,ip _ rfl,rfl,rfl⟩,λb hb=>?_,q⟩;have e:b=s1.heap.objs.size:=by simpa using hb
 subst e;exact I1.I0 (cK _) (I1.bP.fresh (cK _))
def gL'{R:It->Hp->Prop}{lo hi:Int}(I:Inv X pins σ H s)(h1:-(2 ^ 62)<=lo)(h2:lo<2 ^ 62)(h3:-(2 ^ 62)<=hi)(h4:hi<2 ^ 62)(q:R (Ri lo (hi-lo).toNat) H):aS (aE X.prog X.w) X.A (pyIter (.ref s.heap.objs.size)) (ZF X pins σ tg R) E { s with heap:=s.heap.push { cls:=.type "range",data:=.fields #[.int lo t,.int hi u,.int 1 v] },toks:=tk }:=by
 refine wpAny_pyIter_range (IsRange.new ..) (small_one h1 h2 h3 h4) ?_;have I1:Inv X pins σ H { s with heap:=s.heap.push { cls:=.type "range",data:=.fields #[.int lo t,.int hi u,.int 1 v] },toks:=tk }:=I.kept λb o e=>eL _ e;refine⟨(s.heap.push { cls:=.type "range",data:=.fields #[.int lo t,.int hi u,.int 1 v] }).objs.size,[(s.heap.push { cls:=.type "range",data:=.fields #[.int lo t,.int hi u,.int 1 v] }).objs.size],_,_,H,rfl,
  I1.kept λb o e=>eL _ e,gH' _ lo (hi-lo).toNat,?_,λb hb=>?_,q⟩
 ·have e1:lo+((0:Nat):Int)*1=lo:=by simp
  have e2:(((hi-lo).toNat:Nat):Int)-((0:Nat):Int)=Builtin.Range.rangeSize lo hi 1:=by rw[rangeSize_one];split<;>lia
  rw[e1,e2];exact ip _ rfl
 ·have e:b=(s.heap.push { cls:=.type "range",data:=.fields #[.int lo t,.int hi u,.int 1 v] }).objs.size:=by simpa using hb
  subst e;exact I1.I0 (cK _) (I1.bP.fresh (cK _))
def gM'(ta:TA):TI:=λσ H R=>ta σ H λvs H1=>∃ j:Int,vs=[.int j]/\-(2 ^ 62)<=j/\j<2 ^ 62/\R (Ri 0 j.toNat) H1
def gN' (hg:Gl X "range") (hm:X.mg "range" = none) (ha:PA X [a] ta) (hs:autoParam (g7 [a] X.env=[(false,dE a X.env)]) bv):PI X tg (.Call (.Name "range" p) [a] [] pos) (gM' ta):=by
 intro pins s σ H R I h;refine Call_ (FD I hg hm boot_range (PyProof.Rows.callWith_type1 (cp (ha pos pins s σ H _ I h) λus s1 ck=>L2.e9 ck λvs H1 I1 r1 q1=>?_) hs rfl));obtain⟨j,e,q1,q2,q⟩:=q1;subst e
 cases r1 with
 |cons r rr =>cases rr;obtain⟨t,rfl⟩:=r;exact call_range_1 (gL' I1 (by lia) (by lia) q1 q2 (by simpa using q))
def gO'(wi:TI)(g:TG)(tb:TS):TS:=λD σ H=>wi σ H λJ H1=>∃ W:Nat->Nat->St->Hp->Prop,(∃ m,W 0 m σ H1)/\∀ i m σ H,W i m σ H -> (J.stop i H/\D.nx σ H)\/(J.go i H/\∃ N:St->Hp->Prop,(∀ b9 H',N b9 H'->∃ m',m'<m/\W (i+1) m' b9 H')/\∀ x H',J.nE i H x H'->g x σ H' λkU H2=>tb { D with nx:=N,ct:=N,bk:=D.nx } kU H2)
def S6(fp:List ai)(h:df):List (ai × Obj):=fp.filterMap λb=>(h.get? b).map λo=>(b,o)
def U7(hb:b∈fp)(e:h.get? b=some o):(b,o)∈S6 fp h:=List.mem_filterMap.mpr ⟨b,hb,by rw[e];rfl⟩
def gP'(hp:p∈S6 fp h):p.1∈fp/\h.get? p.1=some p.2:=by
 obtain⟨b,hb,e⟩:=List.mem_filterMap.mp hp
 cases q:h.get? b with
 |none=>rw[q] at e;cases e
 |some o =>rw[q] at e;have e':(b,o)=p:=Option.some.inj e;subst e';exact⟨hb,q⟩
def Inv.pinned(I:Inv X pins σ H s)(hf:∀ b∈fp,zk X pins H b)(ho:∀ b∈fp,∃ o,s.heap.get? b=some o/\∀ v,o.data≠.cell v):Inv X (pins++S6 fp s.heap) σ H s :=
 I.bU' λp hp=>(hJ.mp hp).elim (λz=>I.pin p (lI _ z)) λz=>by obtain⟨hb,e⟩:=gP' z;obtain⟨f0,f1,f2,_⟩:=hf p.1 hb;obtain⟨o,e',d⟩:=ho p.1 hb;rw[e] at e';cases e';exact⟨e,f0,f1,f2,d⟩
def Inv.U8(I:Inv X (pins++pl) σ H s):Inv X pins σ H s:=I.bU' λp hp=>I.pin p (lI _ (yB _ hp))
def cl'(hp:PassesOwn (aE X.prog X.w) X.A X.env X.xe)(hc:X.calm=true)(hi:PI X tg iter wi)(hg:PG X tg g)(hb:mh X body tb)(hs:∀ x,BU iter X.env x=pure x:=by intro _;rfl):PS X (.For tg iter body [] pos) (gO' wi g tb):=by
 intro pins s σ H D I h;refine wpAny_For (cp (hi pins s σ H _ I h) λv s1 h1=>cp h1 λZG s2 h2=>?_) hs;obtain⟨it,fp,tn,J,H2,e,I2,T,A3,f2,W,⟨m0,w0⟩,turn⟩:=h2;subst e
 -- what stays true of the iterator's objects through the loop
 have stat:∀ {H':Hp},(∀ b∈fp,H' b=none)->∀ b∈fp,zk X pins H' b:=λhn b hb=>⟨hn b hb,(f2 b hb).2⟩
 refine codeAny_forLoop_any (λn s'=>∃ i b9 H',Inv X pins b9 H' s'/\tn i s'.heap/\(∀ b∈fp,H' b=none)/\W i n b9 H') ?_ m0 ⟨0,σ,H2,I2,A3,λb hb=>(f2 b hb).1,w0⟩;rintro n s3 ⟨i,rq,H3,I3,A4,fr3,w3⟩;rcases turn i n rq H3 w3 with⟨stop,qn⟩|⟨go,N,hN,step⟩
 ·refine LN hp (cp (T.done X rfl rfl rfl hc i pins s3 rq H3 X.xe I3 (stat fr3) A4 stop) λr s4 dc=>?_);obtain⟨hr,I4⟩:=dc;subst hr;exact wpAny_execs_nil ⟨rq,H3,I4,qn⟩
 ·refine LN hp (cp (T.item X rfl rfl rfl hc i pins s3 rq H3 X.xe I3 (stat fr3) A4 go) λr s4 dc=>?_);obtain⟨u,hr,h4⟩:=dc;subst hr;refine LN hp (cp h4 λ_ s5 dc=>?_);obtain⟨x,H5,I5,r5,y5,MY,U9⟩:=dc;have I5':=I5.pinned (stat U9) (T.obj _ _ MY);refine LN hp (cp (hg _ s5 rq H5 x u _ I5' r5 (step x H5 y5)) λ_ s6 dc=>?_);obtain⟨σ6,H6,I6,q6⟩:=dc;refine LN hp (cp (hb _ s6 σ6 H6 _ I6 q6) λf s7 q7=>?_);have again:∀ {CD:St} {H7:Hp},Inv X (pins++S6 fp s5.heap) CD H7 s7->N CD H7->∃ m,m<n/\∃ i b9 H',Inv X pins b9 H' s7/\tn i s7.heap/\(∀ b∈fp,H' b=none)/\W i m b9 H':=λ{CD H7} I7 n7=>by obtain⟨m',hm,w7⟩:=hN CD H7 n7;refine⟨m',hm,i+1,CD,H7,I7.U8,T.keep _ _ _ MY λb hb o e=>(I7.pin (b,o) (lI _ (lI _ (U7 hb e)))).1,λb hb=>?_,w7⟩;obtain⟨o,e,d⟩:=T.obj _ _ MY b hb;exact(I7.pin (b,o) (lI _ (lI _ (U7 hb e)))).2.1
  cases f with
  |next=>obtain⟨CD,H7,I7,n7⟩:=q7;exact again I7 n7
  |cont=>obtain⟨CD,H7,I7,n7⟩:=q7;exact again I7 n7
  |brk=>obtain⟨CD,H7,I7,q7⟩:=q7;exact⟨CD,H7,I7.U8,q7⟩
  |ret v=>obtain⟨x7,CD,H7,I7,r7,q7⟩:=q7;exact⟨x7,CD,H7,I7.U8,r7,q7⟩
end
abbrev R2:=V->V->Hp->VK->Prop
def dP(X:Cx)(f:ag->ag->Sem ag)(r:R2):Prop :=
 ∀ pins s σ H x y v u Q,Inv X pins σ H s->RelV x v->RelV y u->r x y H Q ->
  aS (aE X.prog X.w) X.A (f v u) (EP X pins σ Q) X.xe s
def U_(X:Cx)(f:ag->Sem ag)(r:V->Hp->VK->Prop):Prop :=
 ∀ pins s σ H x v Q,Inv X pins σ H s->RelV x v->r x H Q ->
  aS (aE X.prog X.w) X.A (f v) (EP X pins σ Q) X.xe s
def kM(X:Cx)(f:ag)(r:List V->Hp->VK->Prop):Prop :=
 ∀ pins s σ H xs us Q,Inv X pins σ H s->Vals xs us->r xs H Q ->
  aS (aE X.prog X.w) X.A (call f us) (EP X pins σ Q) X.xe s
def cn'(X:Cx)(r:V->Hp->(Bool->Hp->Prop)->Prop):Prop :=
 ∀ pins s σ H x v Q,Inv X pins σ H s->RelV x v->r x H Q ->
  aS (aE X.prog X.w) X.A (truthy v) (TP X pins σ Q) X.xe s
def Rj(r:R2)(ta tb:TE):TE:=λσ H Q=>ta σ H λx H1=>tb σ H1 λy H2=>r x y H2 Q
def tUn(r:V->Hp->VK->Prop)(ta:TE):TE:=λσ H Q=>ta σ H λx H1=>r x H1 Q
def rI(C:Int->Int->Prop)(g:Int->Int->V):R2:=λx y H Q=>∃ i j,x=.int i/\y=.int j/\C i j/\Q (g i j) H
def MZ(g:Int->Int->V):R2:=λx y H Q=>∃ i j,x=.int i/\y=.int j/\Q (g i j) H
def rU(g:Int->V):V->Hp->VK->Prop:=λx H Q=>∃ i,x=.int i/\Q (g i) H
section
variable {X:Cx}{a b:Expr}{ta tb:TE}{pos:Pos}
def ZI(ha:PE X a ta)(hb:PE X b tb){pins:List (ai × Obj)}{s:aI}{σ:St}{H:Hp}{R:V->V->Hp->Prop}(I:Inv X pins σ H s)(h:ta σ H λx H1=>tb σ H1 λy H2=>R x y H2) {Q:ag->aI->Prop} {f:ag->ag->Sem ag}(hf:∀ v u s2 x y H2,Inv X pins σ H2 s2->RelV x v->RelV y u->R x y H2->aS (aE X.prog X.w) X.A (f v u) Q X.xe s2) :
  aS (aE X.prog X.w) X.A (dE a X.env) (λv fo=>aS (aE X.prog X.w) X.A (dE b X.env) (λu zi=>aS (aE X.prog X.w) X.A (f v u) Q X.xe zi) X.xe fo) X.xe s:=by
 refine cp (ha pins s σ H _ I h) λv s1 ck=>L2.e9 ck λx H1 I1 r1 q1=>?_;refine cp (hb pins s1 σ H1 _ I1 q1) λu s2 ck=>L2.e9 ck λy H2 I2 r2 q2=>?_;exact hf v u s2 x y H2 I2 r1 r2 q2
def gS'{op:Operator}{r:R2}(ho:dP X (nV op) r)(ha:PE X a ta)(hb:PE X b tb):PE X (.BinOp a op b pos) (Rj r ta tb):=by intro pins s σ H Q I h;exact wpAny_BinOp (ZI ha hb I h λv u s2 x y H2 I2 rx ry q=>ho pins s2 σ H2 x y v u Q I2 rx ry q)
def gT'(ho:U_ X (unaryOp op) r)(ha:PE X a ta):PE X (.UnaryOp op a pos) (tUn r ta):=by intro pins s σ H Q I h;exact UnaryOp_ (cp (ha pins s σ H _ I h) λv s1 ck=>L2.e9 ck λx H1 I1 r1 q1=>ho pins s1 σ H1 x v Q I1 r1 q1)
def ZJ{f:ag->ag->Sem ag}{C:Int->Int->Prop}{g:Int->Int->Int}(rule:∀ (i j:Int) (t u:Tok) (s:aI) (Q:ag->aI->Prop) (E:ag->aI->Prop),C i j->Q (.int (g i j) s.toks) { s with toks:=s.toks+1 }->aS (aE X.prog X.w) X.A (f (.int i t) (.int j u)) Q E s) :
  dP X f (rI C λi j=>.int (g i j)):=by
 walk_at"b";obtain⟨i,j,rfl,rfl,hc,q⟩:=h;obtain⟨t,rfl⟩:=rx;obtain⟨t',rfl⟩:=ry;exact rule i j t t' s _ _ hc ⟨.int (g i j),H,I.tok _,⟨_,rfl⟩,q⟩
def cp'{f:ag->ag->Sem ag}{g:Int->Int->Int}(rule:∀ (i j:Int) (t u:Tok) (s:aI) (Q:ag->aI->Prop) (E:ag->aI->Prop),Q (.int (g i j) s.toks) { s with toks:=s.toks+1 }->aS (aE X.prog X.w) X.A (f (.int i t) (.int j u)) Q E s) :
  dP X f (MZ λi j=>.int (g i j)):=by
 walk_at"b";obtain⟨i,j,rfl,rfl,q⟩:=h;obtain⟨t,rfl⟩:=rx;obtain⟨t',rfl⟩:=ry;exact rule i j t t' s _ _ ⟨.int (g i j),H,I.tok _,⟨_,rfl⟩,q⟩
def ZK{f:ag->ag->Sem ag}{g:Int->Int->Bool}(rule:∀ (i j:Int) (t u:Tok) (s:aI) (Q:ag->aI->Prop) (E:ag->aI->Prop),Q (.bool (g i j)) s->aS (aE X.prog X.w) X.A (f (.int i t) (.int j u)) Q E s) :
  dP X f (MZ λi j=>.bl (g i j)):=by
 walk_at"b";obtain⟨i,j,rfl,rfl,q⟩:=h;obtain⟨t,rfl⟩:=rx;obtain⟨t',rfl⟩:=ry;exact rule i j t t' s _ _ ⟨.bl (g i j),H,I,rfl,q⟩
def gU'(i j:Int):Prop:=0<j/\j<1073741824
def M0(i j:Int):Prop:=(-(2 ^ 64)<i/\i<2 ^ 64)\/(-(2 ^ 64)<j/\j<2 ^ 64)
def M0.ok(h:M0 i j):IntMulOk i j:=by
 rcases h with⟨h1,h2⟩|⟨h1,h2⟩
 ·exact .of_left (intBits_le_64 h1 h2)
 ·exact .of_right (intBits_le_64 h1 h2)
def gV':dP X (nV .Add) (MZ λi j=>.int (i+j)):=cp' λ_ _ _ _ _ _ _ q=>add_int q
def gW':dP X (nV .Sub) (MZ λi j=>.int (i-j)):=cp' λ_ _ _ _ _ _ _ q=>sub_int q
def gX':dP X (nV .Mult) (rI M0 λi j=>.int (i*j)):=ZJ λ_ _ _ _ _ _ _ hc q=>mul_int q hc.ok
def gY':dP X (nV .FloorDiv) (rI gU' λi j=>.int (i / j)):=ZJ λi j _ _ _ _ _ hc q=>by have h1:0<j:=hc.1;have h2:j<1073741824:=hc.2;exact floordiv_int (by lia) (by rw[Int.fdiv_eq_ediv_of_nonneg i (by lia)];exact q) (.inl (PyProof.noPylong_small (by lia)))
def gZ':dP X (nV .Mod) (rI (λ_ j=>0<j) λi j=>.int (i % j)):=ZJ λi j _ _ _ _ _ hc q=>by exact mod_int' (by lia) (by rw[Int.fmod_eq_emod_of_nonneg i (by lia)];exact q)
def unI{f:ag->Sem ag}{g:Int->Int}(rule:∀ (i:Int) (t:Tok) (s:aI) (Q:ag->aI->Prop) (E:ag->aI->Prop),Q (.int (g i) s.toks) { s with toks:=s.toks+1 }->aS (aE X.prog X.w) X.A (f (.int i t)) Q E s) :
  U_ X f (rU λi=>.int (g i)):=by
 intro pins s σ H x v Q I rx h;obtain⟨i,rfl,q⟩:=h;obtain⟨t,rfl⟩:=rx;exact rule i t s _ _ ⟨.int (g i),H,I.tok _,⟨_,rfl⟩,q⟩
def hf':U_ X (unaryOp .USub) (rU λi=>.int (-i)):=unI λ_ _ _ _ _ q=>neg_int q
end
def cq':V->V->Bool
 |.non,.non=>true|.non,.int _=>true|.int _,.non=>true|.non,.bl _=>true|.bl _,.non=>true|.non,.str _=>true|.str _,.non=>true
 |.int _,.int _=>true|.bl _,.bl _=>true|.str _,.str _=>true|.vE _,.vE _=>true
 |.int _,.str _=>true|.str _,.int _=>true|.bl _,.str _=>true|.str _,.bl _=>true
 |_,_=>false
def rEq:R2:=λx y H Q=>cq' x y=true/\Q (.bl (decide (x=y))) H
def rNe:R2:=λx y H Q=>cq' x y=true/\Q (.bl (!decide (x=y))) H
def cr':decide (V.int i=V.int j)=(i == j):=by rw[z5];simp
def cs':decide (V.bl i=V.bl j)=(i == j):=by rw[z5];simp
def ct':decide (V.str i=V.str j)=(i == j):=by rw[z5];simp
def cu':decide (V.vE i=V.vE j)=(i.toList == j.toList):=by rw[z5];cases i;cases j;simp
section
variable {X:Cx}{a b c:Expr}{ta tb tc:TE}{pos:Pos}
def ja(I:Inv X pins σ H s)(q:Q (.bl k) H)(e:k=k'):EP X pins σ Q (.bool k') s:=by subst e;exact⟨.bl k,H,I,rfl,q⟩
def ht':dP X (gI .Eq) rEq:=by
 walk_at"b";obtain⟨hs,q⟩:=h
 cases x with
 |non =>
  cases rx
  cases y with
  |non=>cases ry;exact PySem.EqNone.eq_none_none (ja I q (by simp))
  |bl j=>cases ry;exact PySem.EqNone.eq_none_bool (ja I q (by simp))
  |int j=>obtain⟨t',rfl⟩:=ry;exact PySem.EqNone.eq_none_int (ja I q (by simp))
  |str j=>obtain⟨t',rfl⟩:=ry;exact PySem.EqNone.eq_none_str (ja I q (by simp))
  |_=>exact absurd (hs) nX
 |bl i =>
  cases rx
  cases y with
  |non=>cases ry;exact PySem.EqNone.eq_bool_none (ja I q (by simp))
  |bl j=>cases ry;exact eq_bool (ja I q cs')
  |str j=>obtain⟨t',rfl⟩:=ry;exact PySem.EqMixed.eq_bool_str (ja I q (by simp))
  |_=>exact absurd (hs) nX
 |int i =>
  obtain⟨t,rfl⟩:=rx
  cases y with
  |non=>cases ry;exact PySem.EqNone.eq_int_none (ja I q (by simp))
  |int j=>obtain⟨t',rfl⟩:=ry;exact eq_int (ja I q cr')
  |str j=>obtain⟨t',rfl⟩:=ry;exact PySem.EqMixed.eq_int_str (ja I q (by simp))
  |_=>exact absurd (hs) nX
 |str i =>
  obtain⟨t,rfl⟩:=rx
  cases y with
  |non=>cases ry;exact PySem.EqNone.eq_str_none (ja I q (by simp))
  |bl j=>cases ry;exact PySem.EqMixed.eq_str_bool (ja I q (by simp))
  |int j=>obtain⟨t',rfl⟩:=ry;exact PySem.EqMixed.eq_str_int (ja I q (by simp))
  |str j=>obtain⟨t',rfl⟩:=ry;exact eq_str (ja I q ct')
  |_=>exact absurd (hs) nX
 |vE i =>
  obtain⟨t,rfl⟩:=rx
  cases y with
  |vE j=>obtain⟨t',rfl⟩:=ry;exact PySem.W.eq_bytes (ja I q cu')
  |_=>exact absurd (hs) nX
 |_=>cases y<;>exact absurd (hs) nX
def hu':dP X (gI .NotEq) rNe:=by
 walk_at"b";obtain⟨hs,q⟩:=h
 cases x with
 |non =>
  cases rx
  cases y with
  |non=>cases ry;exact PySem.EqNone.ne_none_none (ja I q (by simp))
  |bl j=>cases ry;exact PySem.EqNone.ne_none_bool (ja I q (by simp))
  |int j=>obtain⟨t',rfl⟩:=ry;exact PySem.EqNone.ne_none_int (ja I q (by simp))
  |str j=>obtain⟨t',rfl⟩:=ry;exact PySem.EqNone.ne_none_str (ja I q (by simp))
  |_=>exact absurd (hs) nX
 |bl i =>
  cases rx
  cases y with
  |non=>cases ry;exact PySem.EqNone.ne_bool_none (ja I q (by simp))
  |bl j=>cases ry;exact ne_bool (ja I q (congrArg not cs'))
  |str j=>obtain⟨t',rfl⟩:=ry;exact PySem.EqMixed.ne_bool_str (ja I q (by simp))
  |_=>exact absurd (hs) nX
 |int i =>
  obtain⟨t,rfl⟩:=rx
  cases y with
  |non=>cases ry;exact PySem.EqNone.ne_int_none (ja I q (by simp))
  |int j=>obtain⟨t',rfl⟩:=ry;exact ne_int (ja I q (congrArg not cr'))
  |str j=>obtain⟨t',rfl⟩:=ry;exact PySem.EqMixed.ne_int_str (ja I q (by simp))
  |_=>exact absurd (hs) nX
 |str i =>
  obtain⟨t,rfl⟩:=rx
  cases y with
  |non=>cases ry;exact PySem.EqNone.ne_str_none (ja I q (by simp))
  |bl j=>cases ry;exact PySem.EqMixed.ne_str_bool (ja I q (by simp))
  |int j=>obtain⟨t',rfl⟩:=ry;exact PySem.EqMixed.ne_str_int (ja I q (by simp))
  |str j=>obtain⟨t',rfl⟩:=ry;exact ne_str (ja I q (congrArg not ct'))
  |_=>exact absurd (hs) nX
 |vE i =>
  obtain⟨t,rfl⟩:=rx
  cases y with
  |vE j=>obtain⟨t',rfl⟩:=ry;exact PySem.W.ne_bytes (ja I q (congrArg not cu'))
  |_=>exact absurd (hs) nX
 |_=>cases y<;>exact absurd (hs) nX
def hw':dP X (gI .Lt) (MZ λi j=>.bl (decide (i<j))):=ZK λ_ _ _ _ _ _ _ q=>lt_int q
def hx':dP X (gI .LtE) (MZ λi j=>.bl (decide (i<=j))):=ZK λ_ _ _ _ _ _ _ q=>le_int q
def hy':dP X (gI .Gt) (MZ λi j=>.bl (decide (j<i))):=ZK λ_ _ _ _ _ _ _ q=>gt_int q
def hA':dP X (gI .Lt) (λx y H Q=>∃ i j,x=.str i/\y=.str j/\Q (.bl (decide (i.cps.toList<j.cps.toList))) H):=by intro pins s σ H x y v u Q I rx ry h;obtain⟨i,j,rfl,rfl,q⟩:=h;obtain⟨t,rfl⟩:=rx;obtain⟨t',rfl⟩:=ry;exact lt_str (ja I q rfl)
def hC':dP X (gI .In) (λx y H Q=>∃ i j,x=.str i/\y=.str j/\Q (.bl (!(Builtin.Str.occurrences j i 0 j.length 1).isEmpty)) H):=by intro pins s σ H x y v u Q I rx ry h;obtain⟨i,j,rfl,rfl,q⟩:=h;obtain⟨t,rfl⟩:=rx;obtain⟨t',rfl⟩:=ry;exact in_str (ja I q rfl)
def hD':dP X (gI .IsNot) (λx y H Q=>y=.non/\Q (.bl (!decide (x=.non))) H):=by
 walk_at"b";obtain⟨rfl,q⟩:=h;cases ry;refine isnot_none_gen (ja I q ?_);cases x<;>first
  | (cases rx;rfl)
  | (obtain⟨t,rfl⟩:=rx;rfl)
def hE':dP X (gI .NotIn) (λx y H Q=>∃ i j,x=.str i/\y=.str j/\Q (.bl (!(!(Builtin.Str.occurrences j i 0 j.length 1).isEmpty))) H):=by intro pins s σ H x y v u Q I rx ry h;obtain⟨i,j,rfl,rfl,q⟩:=h;obtain⟨t,rfl⟩:=rx;obtain⟨t',rfl⟩:=ry;exact notIn_str (ja I q rfl)
def dP.or(h:dP X f r)(h':dP X f r'):dP X f (λx y H Q=>r x y H Q\/r' x y H Q):=by
 intro pins s σ H x y v u Q I rx ry q;rcases q with q|q
 ·exact h pins s σ H x y v u Q I rx ry q
 ·exact h' pins s σ H x y v u Q I rx ry q
def cv'(b:Expr)(h:op≠.In:=by decide)(h2:op≠.NotIn:=by decide):Ic op b=false:=by
 have e1:(op == CmpOp.In)=false:=by cases op<;>first|rfl|exact absurd rfl h
 have e2:(op == CmpOp.NotIn)=false:=by cases op<;>first|rfl|exact absurd rfl h2
 cases b<;>simp[Ic,e1,e2]
def hF'{op:CmpOp}{r:R2}(ho:dP X (gI op) r)(ha:PE X a ta)(hb:PE X b tb)(hm:Ic op b=false):PE X (.Compare a [op] [b] pos) (Rj r ta tb):=by intro pins s σ H Q I h;exact wpAny_Compare1 (ZI ha hb I h λv u s2 x y H2 I2 rx ry q=>ho pins s2 σ H2 x y v u Q I2 rx ry q) hm
def ZL(t:TE):TT:=λσ H Q=>t σ H λx H'=>∃ k,x=.bl k/\Q k H'
def hG'(ho:dP X (gI op) r)(ha:PE X a ta)(hb:PE X b tb)(hm:Ic op b=false):PT X (.Compare a [op] [b] pos) (ZL (Rj r ta tb)):=by
 intro pins s σ H Q I h;refine wpAny_isTrue_Compare1 (cp (ha pins s σ H _ I h) λv s1 ck=>L2.e9 ck λx H1 I1 r1 q1=>cp (hb pins s1 σ H1 _ I1 q1) λu s2 ck=>L2.e9 ck λy H2 I2 r2 q2 =>
  cp (ho pins s2 σ H2 x y v u _ I2 r1 r2 q2) λc s3 ⟨z,H3,I3,r3,k,e,q3⟩=>?_) hm
 subst e;cases r3;exact zI ⟨H3,I3,q3⟩
def ZM(r r':R2)(ta tb tc:TE):TE:=λσ H Q=>ta σ H λx H1=>tb σ H1 λy H2=>r x y H2 λz H3=>∃ k,z=.bl k /\ (if k=true then tc σ H3 λw' H4=>r' y w' H4 Q else Q (.bl false) H3)
def hH'(ho:dP X (gI op) r)(rg:dP X (gI op') r')(ha:PE X a ta)(hb:PE X b tb)(hc:PE X c tc)(hm:lastMarks [op,op'] [b,c]=false:=by with_unfolding_all rfl):PE X (.Compare a [op,op'] [b,c] pos) (ZM r r' ta tb tc):=by
 intro pins s σ H Q I h;refine Compare_chain (cp (ha pins s σ H _ I h) λv s1 ck=>L2.e9 ck λx H1 I1 r1 q1=>chain_link (cp (hb pins s1 σ H1 _ I1 q1) λu s2 ck=>L2.e9 ck λy H2 I2 r2 q2 =>
  cp (ho pins s2 σ H2 x y v u _ I2 r1 r2 q2) λd s3 ⟨z,H3,I3,r3,k,e,q3⟩=>?_)) hm
 subst e;cases r3;refine zI ?_
 cases k with
 |false=>exact ite_ff ⟨.bl false,H3,I3,rfl,q3⟩
 |true=>exact ite_tt (chain_last (cp (hc pins s3 σ H3 _ I3 q3) λw' s4 ⟨z',H4,I4,r4,q4⟩=>rg pins s4 σ H4 y z' u w' Q I4 r2 r4 q4))
def hI'(ho:dP X (gI op) r)(rg:dP X (gI op') r')(ha:PE X a ta)(hb:PE X b tb)(hc:PE X c tc)(hm:lastMarks [op,op'] [b,c]=false:=by with_unfolding_all rfl):PT X (.Compare a [op,op'] [b,c] pos) (ZL (ZM r r' ta tb tc)):=by
 intro pins s σ H Q I h;refine isTrue_chain (cp (ha pins s σ H _ I h) λv s1 ck=>L2.e9 ck λx H1 I1 r1 q1=>test_link (cp (hb pins s1 σ H1 _ I1 q1) λu s2 ck=>L2.e9 ck λy H2 I2 r2 q2 =>
  cp (ho pins s2 σ H2 x y v u _ I2 r1 r2 q2) λd s3 ⟨z,H3,I3,r3,k,e,q3⟩=>?_)) hm
 subst e;cases r3;refine zI ?_
 cases k with
 |false =>obtain⟨k',e',q'⟩:=q3;cases e';exact ite_ff ⟨H3,I3,q'⟩
 |true =>refine ite_tt (test_last (cp (hc pins s3 σ H3 _ I3 q3) λw' s4 ⟨z',H4,I4,r4,q4⟩=>cp (rg pins s4 σ H4 y z' u w' _ I4 r2 r4 q4) λd' s5 dc=>?_));obtain⟨z2,H5,I5,r5,k2,e2,q5⟩:=dc;subst e2;cases r5;exact zI ⟨H5,I5,q5⟩
def ZN(K:aC)(x:V)(H:Hp)(k:Bool):Prop :=
 match x with
 |.non=>k=false
 |.bl b=>k=b
 |.int i=>k=(i != 0)
 |.str y=>y.length<=bG/\k=((y.length:Int) != 0)
 |.vE y=>y.size<=bG/\k=((y.size:Int) != 0)
 |.ref p=>(∃ xs,fe K H p xs/\k = !xs.isEmpty)\/(∃ xs,kL K H p xs/\k = !xs.isEmpty)\/∃ kvs,H p=some (.dK kvs)/\k = !kvs.isEmpty
 |_=>False
def hJ'{κ:Type}{kvs:List (κ × V)}{vs:List (κ × ag)}(r:KV kvs vs):(!vs.isEmpty) = !kvs.isEmpty:=by cases r<;>rfl
def cw'(r:Vals xs its):(!its.toArray.isEmpty) = !xs.isEmpty:=by cases r<;>simp
def ZO:(bG:Nat)<2 ^ 63:=by rw[mB];decide
def hK':cn' X (λx H Q=>∃ k,ZN X.K x H k/\Q k H):=by
 intro pins s σ H x v Q I rx h;obtain⟨k,e,q⟩:=h;have hs:bG=16777216:=mB
 cases x with
 |non =>cases rx;have e':k=false:=e;subst e';exact truthy_none ⟨H,I,q⟩
 |bl b =>cases rx;have e':k=b:=e;subst e';exact zI ⟨H,I,q⟩
 |int i =>obtain⟨t,rfl⟩:=rx;have e':k=(i != 0):=e;subst e';exact PySem.P.truthy_int ⟨H,I,q⟩
 |str y =>obtain⟨t,rfl⟩:=rx;obtain⟨hy,e'⟩:y.length<=bG/\k=((y.length:Int) != 0):=e;subst e';exact PySem.P.truthy_str (by lia) ⟨H,I.tok _,q⟩
 |vE y =>obtain⟨t,rfl⟩:=rx;obtain⟨hy,e'⟩:y.size<=bG/\k=((y.size:Int) != 0):=e;subst e';exact PySem.W.truthy_bytes (by lia) ⟨H,I.tok _,q⟩
 |ref p =>
  cases rx;have e':(∃ xs,fe X.K H p xs/\k = !xs.isEmpty)\/(∃ xs,kL X.K H p xs/\k = !xs.isEmpty)\/∃ kvs,H p=some (.dK kvs)/\k = !kvs.isEmpty:=e;rcases e' with⟨xs,hx,e'⟩|⟨xs,hx,e'⟩|⟨kvs,hx,e'⟩
  ·subst e';obtain⟨its,r,pl,hz⟩:=I.list hx;have hlen:=r.length;exact wpAny_truthy_list pl.isList (by simp only[kA];lia) ⟨H,I.tok _,by rw[cw' r];exact q⟩
  ·subst e';obtain⟨its,r,pl,hz⟩:=I.tuple hx;have hlen:=r.length;exact truthy_tuple pl (by simp only[kA];lia) ⟨H,I.tok _,by rw[cw' r];exact q⟩
  ·subst e';obtain⟨hz,hS,vs,r,m⟩:kvs.length<=bG/\(p == mE)=false/\∃ vs,KV kvs vs/\s.heap.DictOf (iq X.prog X.w) p vs:=I.bP p _ hx;have hlen:kvs.length=vs.length:=Paired.length r;exact wpAny_truthy_dict hS m (by lia) ⟨H,I.tok _,by rw[hJ' r];exact q⟩
 |_=>exact(e).elim
def hL'(ha:PE X a ta)(he:∀ whole,isTrue a X.env whole=(do let v <- whole;standAt a.pos;holding [v] (truthy v))) :
  PT X a (λσ H Q=>ta σ H λx H'=>∃ k,ZN X.K x H' k/\Q k H'):=by
 intro pins s σ H Q I h;exact isTrue_plain (cp (ha pins s σ H _ I h) λv s1 ck=>L2.e9 ck λx H1 I1 r1 q1=>hK' pins s1 σ H1 x v Q I1 r1 q1) (he _)
def hM':dP X (nV .Add) (λx y H Q=>∃ i j,x=.str i/\y=.str j/\i.length+j.length<=bG/\Q (.str (i++j)) H):=by intro pins s σ H x y v u Q I rx ry h;obtain⟨i,j,rfl,rfl,hz,q⟩:=h;obtain⟨t,rfl⟩:=rx;obtain⟨t',rfl⟩:=ry;exact add_str (λt' tk=>⟨.str (i++j),H,I.tok _,⟨_,rfl⟩,q⟩) hz
def vals1(r:Vals [x] us):∃ u,us=[u]/\RelV x u:=by
 cases r with
 |cons r1 r2=>cases r2;exact⟨_,rfl,r1⟩
def vals2(r:Vals [x,y] us):∃ u w',us=[u,w']/\RelV x u/\RelV y w':=by
 cases r with
 |cons r1 r2 =>
  cases r2 with
  |cons r3 r4=>cases r4;exact⟨_,_,rfl,r1,r3⟩
def hO' (hc:X.calm=true):kM X (.builtin "min") (λxs H Q=>∃ i j,xs=[.int i,.int j]/\Q (.int (if j<i then j else i)) H):=by
 intro pins s σ H xs us Q I r h;obtain⟨i,j,rfl,q⟩:=h;obtain⟨u,w',rfl,⟨t,rfl⟩,⟨t',rfl⟩⟩:=vals2 r;refine min_two_ints (I.ok.hd hc) λh' tk k=>⟨_,H,I.kept k,?_,q⟩
 by_cases hj:j<i
 ·rw[if_pos hj,if_pos hj];exact⟨_,rfl⟩
 ·rw[if_neg hj,if_neg hj];exact⟨_,rfl⟩
def cx'(K:aC)(x:V)(H:Hp)(n:Nat):Prop :=
 match x with
 |.str y=>y.length<=bG/\n=y.length
 |.vE y=>y.size<=bG/\n=y.size
 |.ref p=>(∃ xs,fe K H p xs/\n=xs.length)\/∃ xs,kL K H p xs/\n=xs.length
 |_=>False
def Va:kM X (.builtin "len") (λxs H Q=>∃ x n,xs=[x]/\cx' X.K x H n/\Q (.int n) H):=by
 intro pins s σ H xs us Q I r h;obtain⟨x,n,rfl,e,q⟩:=h;obtain⟨u,rfl,rx⟩:=vals1 r;have hs:bG=16777216:=mB
 cases x with
 |str y =>obtain⟨t,rfl⟩:=rx;obtain⟨hy,e'⟩:y.length<=bG/\n=y.length:=e;subst e';exact len_str (by lia) ⟨.int _,H,I.tok _,⟨_,rfl⟩,q⟩
 |vE y =>obtain⟨t,rfl⟩:=rx;obtain⟨hy,e'⟩:y.size<=bG/\n=y.size:=e;subst e';exact PySem.W.len_bytes (by lia) ⟨.int _,H,I.tok _,⟨_,rfl⟩,q⟩
 |ref p =>
  cases rx;have e':(∃ xs,fe X.K H p xs/\n=xs.length)\/∃ xs,kL X.K H p xs/\n=xs.length:=e;rcases e' with⟨xs,hx,e'⟩|⟨xs,hx,e'⟩
  ·subst e';obtain⟨its,r',pl,hz⟩:=I.list hx;have hlen:=r'.length;exact Calls.call_len_list pl.isList (by simp only[kA];lia) ⟨.int xs.length,H,I.tok _,⟨_,by simp only[kA];rw[hlen]⟩,q⟩
  ·subst e';obtain⟨its,r',pl,hz⟩:=I.tuple hx;have hlen:=r'.length;exact len_tuple pl (by simp only[kA];lia) ⟨.int xs.length,H,I.tok _,⟨_,by simp only[kA];rw[hlen]⟩,q⟩
 |_=>exact(e).elim
end
structure Nc(h:df)(x dx C:ai)(mA:Str->Option ag):Prop where
 obj:h.get? x=some (Iy C dx)
 ns:h.Ns1 dx mA
 ne:dx≠x
def lookIn_ns{h:df}{dx:ai}{mA:Str->Option ag}(n:h.Ns1 dx mA):∃ od,h.get? dx=some od/\∀ name,Uy name od=some (mA name):=by
 obtain⟨o,es,ep,ho,hd,hk,_,hm⟩:=n;refine⟨o,ho,λname=>?_⟩;have e:=hm name;unfold nsFind findBy at e;rw[<- Array.find?_toList] at e;unfold Uy;rw[hd];dsimp only;split
 ·rename_i y q;rw[q] at e;exact congrArg some e
 ·rename_i q;rw[q] at e;have a:es.toList.any (·.refKey)=false:=by rw[Sq];intro y hy;obtain⟨z,t,Vb⟩:=hk y (Array.mem_toList_iff.mp hy);simp[DictEntry.refKey,Vb]
  have a':¬ es.toList.any (·.refKey)=true:=by rw[a];exact nX
  rw[if_neg a'];exact congrArg some e
def Nc.look(I:Nc h x dx C mA):∃ od,PySem.W.InstAt h x (Iy C dx) C (some od)/\∀ name,Uy name od=some (mA name) :=
 let ⟨od,ho,hl⟩:=lookIn_ns I.ns
 ⟨od,⟨I.obj,rfl,rfl,ho⟩,hl⟩
section
variable {prog:cf}{w:cw}{A:ft}{E:ag->aI->Prop}{s:aI}{K:aC}{x dx C f:ai}{mA:Str->Option ag}{name:Str}{v:ag}
def get_map(X:K.In s.heap)(I:Nc s.heap x dx C mA)(hg:Sd K C name=true)(hh:Uw K C=true)(ha:sC K (.ref C) name=some none) (hv:mA name=some v) (vF:PySem.W.handedIn v=true) (h:Q v { s with toks:=s.toks+1 }) :
  aS (aE prog w) A (getAttr (.ref x) name expr) Q E s:=by
 obtain⟨od,J,hl⟩:=I.look;exact PySem.W.get_value X J (WX hg).1 (PySem.W.findObj_own hh ha rfl (by rw[hl,hv])) vF h
def hQ'(X:K.In s.heap)(I:Nc s.heap x dx C mA)(hg:Sd K C name=true)(hf:sC K (.ref C) name=some (some (.ref f))) (ht:IB K (.ref f)=true) (hv:mA name=none) (h:Q (.ref f,[.ref x]) s) :
  aS (aE prog w) A (getMethod (.ref x) name pl) Q E s:=by
 obtain⟨od,J,hl⟩:=I.look;exact PySem.W.method_fn X J (WX hg).1 (WX hg).2 hf (beq_iff_eq.mp ht) (by show(Uy name od).map (·.isSome)=some false;rw[hl,hv];rfl) h
def hR'(X:K.In s.heap)(I:Nc s.heap x dx C mA)(hs:sC K (.ref C) "__setattr__" = some (some (.builtin "object.__setattr__"))) (hp:WY K C=true) (ht:W0 K C name=some none) (hh:Uw K C=true)(hw:PySem.Within mA ns) (fN:ns.length<=bG)(h:∀ h',Nc h' x dx C (λy=>if y=name then some v else mA y)->Heap.SameBut dx s.heap h'->Q () { s with heap:=h',toks:=s.toks+2 }) :
  aS (aE prog w) A (setAttr (.ref x) name v) Q E s:=by
 obtain⟨od,J,hl⟩:=I.look;refine PySem.W.set_plain X J hs (PySem.W.osa_open X J hp ht λb=>?_);obtain⟨cd,hc,Ee⟩:=PySem.W.any_some hh;have hx:s.heap.get? x=some ⟨.ref C,some dx,.plain,#[]⟩:=I.obj;refine av (aT (av (av (wpAny_loadPart hx (av (PySem.W.Looks.here (PySem.W.looks_clsIn X hc) ?_))))));rw[Ee];refine aT (av (aT (av ?_)));refine wpAny_nsSet1 I.ns λh' FE pT=>?_;obtain⟨oD,esD,epD,hoD,hdD,hcD⟩:=FE.count (PySem.Within.cons name v hw);refine av (wpAny_lookBehind hoD (by rw[hdD];exact pastItsLine_dict (kE hcD (by rw[k8];lia))) ?_);exact aT (h _ ⟨(pT.2 _ (Ne.symm I.ne)).trans I.obj,FE,I.ne⟩ pT)
def hW'{R:Result->aI->Prop}(X:K.In s.heap)(hm:W3 K C=true)(hi:sC K (.ref C) "__init__" = some (some (.ref f))) (hf:PySem.W.typeIn K (.ref f)=some (.type "function"))(h:xA (aE prog w) (A.under (.builtin "type.__call__" ⟨.ref C :: vs,kw⟩)) (.call (.ref f) ⟨.ref (s.heap.objs.size+1) :: vs,kw⟩) (PySem.W.InitBack (s.heap.objs.size+1) R) { s with heap:=(s.heap.push Iq).push (Iy C s.heap.objs.size) }) :
  xA (aE prog w) A (.call (.ref C) ⟨vs,kw⟩) R s:=by
 obtain⟨hh,g,d,t,os⟩:=s;exact PySem.W.make_core (PySem.W.makes_of X hm) (PySem.W.looks_findIn X hi) (λself=>PySem.W.bind_fn X self hf) (.inl rfl) h
end
def jv(f:Str)(v:V):List (Str × V)->List (Str × V)
 |[]=>[(f,v)]
 | (g,x) :: r=>if g=f then (g,v) :: r else (g,x) :: jv f v r
theorem cy'(f g:Str)(v:V):∀ fs:List (Str × V),(jv f v fs).lookup g=if g=f then some v else fs.lookup g
 |[]=>by
  show List.lookup g [(f,v)]=_;by_cases h:g=f
  ·have hb:(g == f)=true:=beq_iff_eq.mpr h;simp only[List.lookup,hb,if_pos h]
  ·have hb:(g == f)=false:=beq_eq_false_iff_ne.mpr h;simp only[List.lookup,hb,if_neg h]
 | (k,x) :: r=>by
  have ih:=cy' f g v r;rw[show jv f v ((k,x) :: r)=(if k=f then (k,v) :: r else (k,x) :: jv f v r) from rfl];by_cases hk:k=f
  ·rw[if_pos hk];by_cases h:g=k
   ·have hb:(g == k)=true:=beq_iff_eq.mpr h;simp only[List.lookup,hb,if_pos (h.trans hk)]
   ·have hb:(g == k)=false:=beq_eq_false_iff_ne.mpr h;simp only[List.lookup,hb,if_neg (λe:g=f=>h (e.trans hk.symm))]
  ·rw[if_neg hk];by_cases h:g=k
   ·have hb:(g == k)=true:=beq_iff_eq.mpr h;simp only[List.lookup,hb,if_neg (λe:g=f=>hk (h.symm.trans e))]
   ·have hb:(g == k)=false:=beq_eq_false_iff_ne.mpr h;simp only[List.lookup,hb];exact ih
theorem ZP(f:Str)(v:V):∀ fs:List (Str × V),f∈(jv f v fs).map (·.1)/\∀ g,g∈fs.map (·.1)->g∈(jv f v fs).map (·.1)
 |[]=>⟨by simp[jv],λg h=>by simp at h⟩
 | (k,x) :: r=>by
  obtain⟨i1,i2⟩:=ZP f v r;rw[show jv f v ((k,x) :: r)=(if k=f then (k,v) :: r else (k,x) :: jv f v r) from rfl];by_cases hk:k=f
  ·rw[if_pos hk];subst hk;exact⟨by simp,λg h=>by simpa using h⟩
  ·rw[if_neg hk];refine⟨?_,λg h=>?_⟩
   ·rw[gL];exact eI _ i1
   ·rw[gL] at h ⊢;rcases eu.mp h with e|e
    ·exact eu.mpr (.inl e)
    ·exact eI _ (i2 g e)
theorem cz'(f:Str)(v:V):∀ fs:List (Str × V),(jv f v fs).length<=fs.length+1
 |[]=>by simp[jv]
 | (k,x) :: r=>by
  have ih:=cz' f v r;rw[show jv f v ((k,x) :: r)=(if k=f then (k,v) :: r else (k,x) :: jv f v r) from rfl];by_cases hk:k=f
  ·rw[if_pos hk,k8,k8];lia
  ·rw[if_neg hk,k8,k8];lia
def pE.some_of(r:pE (some v) o):∃ u,o=some u/\RelV v u:=by
 cases o with
 |none=>exact(r).elim
 |some u=>exact⟨u,rfl,r⟩
def pE.none_of(r:pE none o):o=none:=by
 cases o with
 |none=>rfl
 |some u=>exact(r).elim
def hX'(r:RelV v u):PySem.W.handedIn u=true:=by
 cases v with
 |non=>cases (show u=Value.none from r);rfl
 |bl b=>cases (r);rfl
 |int i=>obtain⟨t,e⟩:=(r);cases e;rfl
 |str x=>obtain⟨t,e⟩:=(r);cases e;rfl
 |vE b=>obtain⟨t,e⟩:=(r);cases e;rfl
 |B9 b=>obtain⟨t,e⟩:=(r);cases e;rfl
 |ref a=>cases (r);rfl
 |ty n=>cases (r);rfl
section
variable {P:cf}{w:cw}{H:Hp}{h:df}{a C dx:ai}{fs:List (Str × V)}
def Rl(bP:kf P w H h)(e:H a=some (.ins C dx fs)):∃ mA,Nc h a dx C mA/\(∀ f,pE (fs.lookup f) (mA f))/\PySem.Within mA (fs.map (·.1))/\fs.length<=1000/\H dx=some (.own a):=by
 obtain⟨d,z,ne,ob,mA,n,r,q⟩:=(bP a _ e)
 exact⟨mA,⟨ob,n,ne⟩,r,q,z,d⟩
end
structure vS(K:aC)(C:ai):Prop where
 pg:Sd K C Str.empty=true
 hd:Uw K C=true
 po:WY K C=true
 sa:sC K (.ref C) "__setattr__" = some (some (.builtin "object.__setattr__"))
def vS.get{K:aC}(c:vS K C)(f:Str):Sd K C f=true:=c.pg
def vT(K:aC)(C:ai)(f:Str):Prop:=sC K (.ref C) f=some none
def vT.hY'{K:aC}(n:vT K C f):W0 K C f=some none:=by unfold W0;rw[show sC K (.ref C) f=some none from n];rfl
structure Meth(K:aC)(C:ai)(m:Str)(f:ai):Prop where
 at_:sC K (.ref C) m=some (some (.ref f))
 fn:IB K (.ref f)=true
 kp:xB K (.ref f)=true
section
variable {X:Cx}{pins:List (ai × Obj)}{σ:St}{H:Hp}{s:aI}{a C dx:ai}{fs:List (Str × V)}{f:Str}{v:V}{A:ft}{E:ag->aI->Prop}
def hZ'(I:Inv X pins σ H s)(e:H a=some (.ins C dx fs))(c:vS X.K C)(n:vT X.K C f)(l:fs.lookup f=some v)(h:∀ u s',Inv X pins σ H s'->RelV v u->Q u s'):aS (aE X.prog X.w) A (getAttr (.ref a) f b) Q E s:=by
 obtain⟨mA,O,r,_,_,_⟩:=Rl I.bP e;obtain⟨u,hu,ru⟩:=pE.some_of (by rw[<- l];exact r f);exact get_map I.kC O (c.get f) c.hd n hu (hX' ru) (h u _ (I.tok _) ru)
def ic'(I:Inv X pins σ H s)(e:H a=some (.ins C dx fs))(c:vS X.K C)(k:Meth X.K C m g)(l:fs.lookup m=none)(h:Q (.ref g,[.ref a]) s):aS (aE X.prog X.w) A (getMethod (.ref a) m pl) Q E s:=by
 obtain⟨mA,O,r,_,_,_⟩:=Rl I.bP e;have hn:mA m=none:=pE.none_of (by rw[<- l];exact r m);exact hQ' I.kC O (c.get m) k.at_ k.fn hn h
def ie'(I:Inv X pins σ H s)(e:H a=some (.ins C dx fs))(c:vS X.K C)(n:vT X.K C f)(hl:fs.length<1000)(ry:RelV y u)(h:∀ s',Inv X pins σ (upd H a (.ins C dx (jv f y fs))) s'->Q () s'):aS (aE X.prog X.w) A (setAttr (.ref a) f u) Q E s:=by
 obtain⟨mA,O,r,wi,_,ho⟩:=Rl I.bP e;have hz:(fs.map (·.1)).length<=bG:=by rw[b4,mB];lia
 refine hR' I.kC O c.sa c.po n.hY' c.hd wi hz λh' O' sb=>h _ ?_;have hd:∃ o,h'.get? dx=some o:=let ⟨o,_,_,e',_⟩:=O'.ns;⟨o,e'⟩
 refine I.write (by rw[e];exact True.intro) (.inr ho) (λb q hb z=>(sb.2 b hb).trans z) hd ?_;refine⟨by rw[b6 O.ne];exact ho,?_,O.ne,O'.obj,_,O'.ns,λg=>?_,λg hg=>?_⟩
 ·have:=cz' f y fs;lia
 ·show pE ((jv f y fs).lookup g) (if g=f then some u else mA g);rw[cy'];by_cases q:g=f
  ·rw[if_pos q,if_pos q];exact ry
  ·rw[if_neg q,if_neg q];exact r g
 ·by_cases q:g=f
  ·rw[q];exact(ZP f y fs).1
  ·refine(ZP f y fs).2 g (wi g λz=>hg ?_);show(if g=f then some u else mA g)=none;rw[if_neg q];exact z
def Inv.made(I:Inv X pins σ H s):Inv X pins σ (upd (upd H s.heap.objs.size (.own (s.heap.objs.size+1))) (s.heap.objs.size+1) (.ins C s.heap.objs.size [])) { s with heap:=(s.heap.push Iq).push (Iy C s.heap.objs.size) }:=by
 have e1:(s.heap.push Iq).get? s.heap.objs.size=some Iq:=ip s.heap rfl;have e2:((s.heap.push Iq).push (Iy C s.heap.objs.size)).get? (s.heap.objs.size+1)=some (Iy C s.heap.objs.size):=by have:=ip (s.heap.push Iq) (o:=Iy C s.heap.objs.size) rfl;rwa[My] at this
 have e3:(s.heap.push Iq).Ns s.heap.objs.size (λ_=>none):=⟨Iq,#[],_,e1,rfl,(λe he=>absurd he (by simp)),λ_=>rfl⟩
 have I1:=I.laid (a:=s.heap.objs.size) (o:=.own (s.heap.objs.size+1)) (t':=s.toks) (λb u q=>eL _ q) (cK _) ⟨_,e1⟩;refine I1.laid (t':=s.toks) (λb u q=>eL _ q) (IH (My _ _)) ?_;have ne:s.heap.objs.size≠s.heap.objs.size+1:=fz (P9 _);refine⟨by rw[b6 ne,d5],f7 _,ne,e2,λ_=>none,(Heap.Ns1.of_empty e3).at λo q=>eL _ q,λ_=>True.intro,λy hy=>absurd rfl hy⟩
def ig'(hb:DV e f env (dE e env)=dE e env)(h:aS (aE prog w) A (dE e env) (λo fo=>aS (aE prog w) A (getAttr o f true) Q E fo) E s):aS (aE prog w) A (dE (.Attribute e f pos) env) Q E s :=
 Attribute_any_ h (by rw[arm_eval_Attribute,hb])
end
def FG(K:aC)(ta:TE)(f:Str):TE:=λσ H Q=>ta σ H λx H1=>∃ a C dx fs v,x=.ref a/\H1 a=some (.ins C dx fs)/\vS K C/\vT K C f/\fs.lookup f=some v/\Q v H1
def ZQ(K:aC)(ta tv:TE)(f:Str):TS:=λD σ H=>tv σ H λy H1=>ta σ H1 λx H2=>∃ a C dx fs,x=.ref a/\H2 a=some (.ins C dx fs)/\vS K C/\vT K C f/\fs.length<1000 /\
 D.nx σ (upd H2 a (.ins C dx (jv f y fs)))
section
variable {X:Cx}{o e value:Expr}{f:Str}{pos pos':Pos}{ta tv:TE}
def Rm(he:PE X e ta)(hb:DV e f X.env (dE e X.env)=dE e X.env):PE X (.Attribute e f pos) (FG X.K ta f):=by intro pins s σ H Q I h;refine ig' hb (cp (he pins s σ H _ I h) λu s1 dc=>?_);obtain⟨x,H1,I1,rx,a,C,dx,fs,v,ex,ea,c,n,l,q⟩:=dc;subst ex;obtain rfl:u=Value.ref a:=rx;exact hZ' I1 ea c n l λu' s2 I2 ru=>⟨v,H1,I2,ru,q⟩
def cA'(ha:PE X o ta)(hv:PE X value tv)(hs:nS value (some (.Attribute o f pos')) pos.line X.env=pure false):PS X (.Assign [.Attribute o f pos'] value pos) (ZQ X.K ta tv f):=by intro pins s σ H D I h;refine plainObj_wpAny_Assign_Attribute (cp (hv pins s σ H _ I h) λu s1 ck=>L2.e9 ck λy H1 I1 ry q=>cp (ha pins s1 σ H1 _ I1 q) λov s2 dc=>?_) hs;obtain⟨x,H2,I2,rx,a,C,dx,fs,ex,ea,c,n,l,q2⟩:=dc;subst ex;obtain rfl:ov=Value.ref a:=rx;exact ie' I2 ea c n l ry λs3 I3=>⟨σ,_,I3,q2⟩
end
section
variable {X:Cx}{pins:List (ai × Obj)}{σ:St}{H:Hp}{s:aI}{A:ft}{E:ag->aI->Prop}{Q:ag->aI->Prop}{c:ag}{b:Bool}
inductive A5(K:aC)(H:Hp):V->ag->Prop where
 |non:A5 K H .non (.type "NoneType")
 |bl (x:Bool):A5 K H (.bl x) (.type "bool")
 |int (i:Int):A5 K H (.int i) (.type "int")
 |str (x:Str):A5 K H (.str x) (.type "str")
 |B9 (x:UInt64):A5 K H (.B9 x) (.type "float")
 |lst {a:ai} {xs:List V} (e:H a=some (.lst xs)):A5 K H (.ref a) (.type "list")
 |fR {a:ai} {o:Obj} {xs:List V} (e:H a=some (.fR o (.lst xs))):A5 K H (.ref a) (.type "list")
 |tup {a:ai} {xs:List V} (e:H a=some (.tup xs)):A5 K H (.ref a) (.type "tuple")
 |dK {a:ai} {kvs:List (Key × V)} (e:H a=some (.dK kvs)):A5 K H (.ref a) (.type "dict")
 |dT {a:ai} {kvs:List (List Key × V)} (e:H a=some (.dT kvs)):A5 K H (.ref a) (.type "dict")
 |ins {a C dx:ai} {fs:List (Str × V)} (e:H a=some (.ins C dx fs)) (cl:vS K C) (ha:sC K (.ref C) "__class__" = some (some (.builtin "object.__class__")))
   (hn:PySem.W.specialIn K (.builtin "object.__class__") "__get__" = some (some (.builtin "getset_descriptor.__get__"))) (htk:PySem.W.takesIn K (.builtin "object.__class__")=some true)
   (hm:PySem.W.mroIn K C (.type "object")=some true):A5 K H (.ref a) (.ref C)
def S7(I:Inv X pins σ H s)(rx:RelV x u)(ty:A5 X.K H x t)(e:PySem.W.kitOne X.K t c=some b)(h:∀ tk,Q (.bool b) { s with toks:=tk }) :
  aS (aE X.prog X.w) A (call (.builtin "isinstance") [u,c]) Q E s:=by
 cases ty with
 |non=>cases (show u=Value.none from rx);exact yA PySem.W.kitx_none I.kC True.intro e (λz=>nomatch z) h
 |bl y=>cases (show u=Value.bool y from rx);exact yA PySem.W.kitx_bool I.kC True.intro e (λz=>nomatch z) h
 |int i=>obtain⟨t,q⟩:=(rx);cases q;exact yA PySem.W.kitx_int I.kC True.intro e (λz=>nomatch z) h
 |str y=>obtain⟨t,q⟩:=(show ∃ t,u=Value.str y t from rx);cases q;exact yA PySem.W.kitx_str I.kC True.intro e (λz=>nomatch z) h
 |B9 y=>obtain⟨t,q⟩:=(rx);cases q;exact yA PySem.W.kitx_float I.kC True.intro e (λz=>nomatch z) h
 |@lst a xs ea =>
  cases (show u=Value.ref a from rx);obtain⟨_,_,n,_,h1⟩:=(I.bP a _ ea)
  exact yA WZ I.kC ⟨_,h1,rfl⟩ e (λz=>nomatch z) h
 |@fR a ob xs ea =>
  cases (show u=Value.ref a from rx);obtain⟨_,_,_,n,_,h1⟩:=(I.bP a _ ea)
  exact yA WZ I.kC ⟨_,h1,rfl⟩ e (λz=>nomatch z) h
 |@tup a xs ea =>
  cases (show u=Value.ref a from rx);obtain⟨_,_,_,p⟩:=(I.bP a _ ea)
  obtain⟨o,h1,h2,_⟩:=p;exact yA PySem.W.kitx_tuple I.kC ⟨o,h1,h2⟩ e (λz=>nomatch z) h
 |@dK a kvs ea =>
  cases (show u=Value.ref a from rx);obtain⟨_,_,vs,_,p⟩:=(I.bP a _ ea)
  obtain⟨o,es,ep,h1,h2,_⟩:=p;exact yA Ux I.kC ⟨o,h1,h2.1⟩ e (λz=>nomatch z) h
 |@dT a kvs ea =>
  cases (show u=Value.ref a from rx);obtain⟨_,_,xs,_,o,es,ep,h1,h2,_⟩:=(I.bP a _ ea)
  exact yA Ux I.kC ⟨o,h1,h2.1⟩ e (λz=>nomatch z) h
 |@ins a C dx fs ea cl ha hn htk hm =>cases (show u=Value.ref a from rx);obtain⟨mA,O,_⟩:=Rl I.bP ea;obtain⟨od,J,_⟩:=O.look;exact yA (PySem.W.kitx_own (cl.get _) cl.hd ha hn htk hm) I.kC J e (λz=>nomatch z) h
end
structure iN(k:Nat)(A:ft):Prop where
 hd:A.handled=none
 dp:A.depth+3*k+5<recursionLimit
 un:A.units+16*k+200<fA
def iN.mono(r:iN k A)(h:j<=k):iN j A:=⟨r.hd,by have:=r.dp;lia,by have:=r.un;lia⟩
def iN.deeper(r:iN (k+1) A)(env:Env):iN k (A.deeper env) :=
 ⟨r.hd,by have:=r.dp;show A.depth+1+3*k+5<_;lia,by have:=r.un;show A.units+3+16*k+200<_;lia⟩
def ih' {A:ft} {C:ai} {us:List ag} {kw:List (Str × ag)}:(A.under (.builtin "type.__call__" ⟨.ref C :: us,kw⟩)).depth=A.depth+1:=by first|rfl|simp[Around.under,Code.weight,Code.isCreation,Code.isGuard,Code.isCaller,Code.frames,Code.isFrame,guardIds]
def ii' {A:ft} {C:ai} {us:List ag} {kw:List (Str × ag)}:(A.under (.builtin "type.__call__" ⟨.ref C :: us,kw⟩)).units=A.units+1:=by first|rfl|simp[Around.under,Code.cUnits,Code.frames,Code.isFrame]
def iN.make (r:iN (k+1) A) (C:ai) (us:List ag) (kw:List (Str × ag)):iN k (A.under (.builtin "type.__call__" ⟨.ref C :: us,kw⟩)) :=
 ⟨r.hd,by have:=r.dp;rw[ih'];lia,by have:=r.un;rw[ii'];lia⟩
def iN.depth(r:iN k A):A.depth<recursionLimit:=by have:=r.dp;lia
def iN.units(r:iN k A):A.units+64<fA:=by have:=r.un;lia
def Nn:TA:=λ_ H Q=>Q [] H
def S8(ta:TE)(tr:TA):TA:=λσ H Q=>ta σ H λx H1=>tr σ H1 λxs H2=>Q (x :: xs) H2
section
variable {X:Cx}{e:Expr}{es:List Expr}{te:TE}{t:TA}{pos:Pos}
def t5:PA X [] Nn:=λ_ _ _ _ H Q I h=>Calls.spliced_nil ⟨[],H,I,.nil,h⟩
def nI(ha:PE X e te)(hr:PA X es t)(hs:autoParam (aQ X e es) bv):PA X (e :: es) (S8 te t):=by intro pos pins s σ H Q I h;rw[hs];refine Calls.spliced_cons (cp (ha pins s σ H _ I h) λu s1 ck=>L2.e9 ck λx H1 I1 r1 q1=>?_);exact cp (hr pos pins s1 σ H1 _ I1 q1) λus s2 ck=>L2.e9 ck λxs H2 I2 r2 q2=>⟨x :: xs,H2,I2,.cons r1 r2,q2⟩
def ij'(t:TA):TE:=λσ H Q=>t σ H λxs H1=>xs.length<=bG/\∀ p,H1 p=none->Q (.ref p) (upd H1 p (.tup xs))
def cC'(t:TA):TE:=λσ H Q=>t σ H λxs H1=>xs.length<=bG/\∀ p,H1 p=none->Q (.ref p) (upd H1 p (.lst xs))
def cD'{x1}(h:PA X es t):PE X (.Tuple es x1 pos) (ij' t):=by intro pins s σ H Q I hq;refine wpAny_Tuple_spliced (cp (h pos pins s σ H _ I hq) λus s1 ⟨xs,H1,I1,r,z,q⟩=>⟨by rw[<- r.length];exact z,?_⟩);have hf:H1 s1.heap.objs.size=none:=I1.bP.fresh (cK _);refine⟨.ref s1.heap.objs.size,upd H1 s1.heap.objs.size (.tup xs),I1.laid (λb u e=>eL _ e) (cK _) ?_,rfl,q _ hf⟩;exact⟨z,us,r,⟨_,ip _ rfl,rfl,_,rfl⟩⟩
def cE'(h:PA X es t):PE X (.List es pos) (cC' t):=by intro pins s σ H Q I hq;refine wpAny_List_spliced (cp (h pos pins s σ H _ I hq) λus s1 ⟨xs,H1,I1,r,z,q⟩=>⟨by rw[<- r.length];exact z,?_⟩);have hf:H1 s1.heap.objs.size=none:=I1.bP.fresh (cK _);refine⟨.ref s1.heap.objs.size,upd H1 s1.heap.objs.size (.lst xs),I1.laid (λb u e=>eL _ e) (cK _) ?_,rfl,q _ hf⟩;exact⟨z,us,0,r,ip _ rfl⟩
end
abbrev Sp:=List V->Hp->VK->XK->Prop
abbrev Jn:=List Env->Hp->aI->XK->ag->aI->Prop
structure Nw(P:cf)(w:cw)(K:aC)(mg:Str->Option ag)(base:df)(A:ft)(outer:List Env)(s:aI)(H:Hp):Prop where
 frames:A.frames=some outer
 mod:Mod K mg base
 bs:∀ b o,base.get? b=some o->s.heap.get? b=some o/\H b=none
 Fu:base.objs.size<=s.heap.objs.size
 A2:s.heap.FunFrames base outer
 MS:∀ b∈CB outer,H b=none
 bP:kf P w H s.heap
 bare:AllBare s.gens
def CE(outer:List Env)(P:cf)(w:cw)(H:Hp)(s:aI)(Q:VK)(u:ag)(s':aI):Prop :=
 ∃ v H',s'.os=s.os/\AllBare s'.gens/\Un (CB outer) [] H H' s.heap s'.heap/\kf P w H' s'.heap/\RelV v u/\Q v H'
def CR(CX:Jn)(outer:List Env)(P:cf)(w:cw)(H:Hp)(s:aI)(Q:VK)(E:XK)(r:Result)(s':aI):Prop :=
 match r with
 |.ok (.ret u)=>CE outer P w H s Q u s'
 |.ok _=>False
 |.error e=>CX outer H s E e s'
structure ki(P:cf)(w:cw)(K:aC)(mg:Str->Option ag)(base:df)(CX:Jn)(k:Nat)(f:ai)(fd:qE)(ps:List Str)(sp:Sp):Prop where
 len:∀ vs H Q E,sp vs H Q E->vs.length=ps.length
 run:∀ (A:ft) (outer:List Env) (s:aI) (H:Hp) (args:Args) (us:List ag) (vs:List V) (Q:VK) (E:XK),iN k A->Nw P w K mg base A outer s H->BindsTo s fd args (ps.zip us)->Vals vs us->sp vs H Q E ->
  xA (aE P w) A (.call (.ref f) args) (CR CX outer P w H s Q E) s
def ki.imp{P:cf}{K:aC}{ps:List Str}(F:ki P w K mg base CX k f fd ps sp)(h:∀ vs H Q E,sp' vs H Q E->sp vs H Q E):ki P w K mg base CX k f fd ps sp' :=
 ⟨λvs H Q E q=>F.len vs H Q E (h _ _ _ _ q),λA outer s H args us vs Q E hr he hb hv hs=>F.run A outer s H args us vs Q E hr he hb hv (h _ _ _ _ hs)⟩
def Nw.make{P:cf}{K:aC}(e:Nw P w K mg base A outer s H)(C:ai)(us:List ag)(kw:List (Str × ag)) :
  Nw P w K mg base (A.under (.builtin "type.__call__" ⟨.ref C :: us,kw⟩)) outer s H:=⟨by first|exact e.frames|(simpa[Around.under,Code.envs,Code.isFrame,pushEnvs] using e.frames),e.mod,e.bs,e.Fu,e.A2,e.MS,e.bP,e.bare⟩
section
variable {X:Cx}{pins:List (ai × Obj)}{σ:St}{H:Hp}{s s':aI}
def Inv.cF'(I:Inv X pins σ H s):Nw X.prog X.w X.K X.mg X.base X.A X.stack s H :=
 ⟨I.ok.frames,I.ok.mod,I.bs,kE I.ok.Fu I.sz,I.stack,I.bS',I.bP,I.bare⟩
def Inv.after(I:Inv X pins σ H s)(h:CE X.stack X.prog X.w H s Q u s'):EP X pins σ Q u s':=by obtain⟨v,H',os,bare,un,bP,r,q⟩:=h;obtain⟨hh,g,d,t,os'⟩:=s';obtain rfl:os'=s.os:=os;exact⟨v,H',I.call un bP bare (λb z=>absurd z (by simp)),r,q⟩
end
def ZR(sp:Sp)(rL:List V)(E:XK)(t:TA):TE:=λσ H Q=>t σ H λvs H1=>sp (vs++rL) H1 Q E
def im'(C:ai)(m:Str)(sp:Sp)(rL:List V)(E:XK)(ta:TE)(t:TA):TE:=λσ H Q=>ta σ H λx H1=>∃ a dx fs,x=.ref a/\H1 a=some (.ins C dx fs)/\fs.lookup m=none /\
 t σ H1 λvs H2=>sp (x :: (vs++rL)) H2 Q E
def io'(C:ai)(sp:Sp)(rL:List V)(E:XK)(t:TA):TE:=λσ H Q=>t σ H λvs H1=>∀ x dx,H1 x=none->H1 dx=none->dx≠x ->
 sp (.ref x :: (vs++rL)) (upd (upd H1 dx (.own x)) x (.ins C dx [])) (λv H2=>v=.non/\Q (.ref x) H2) E
def Binds(K:aC)(fd:qE)(ps:List Str)(ds:List ag):Prop :=
 ∀ (s:aI) (us:List ag),K.In s.heap->(us++ds).length=ps.length->BindsTo s fd ⟨us,[]⟩ (ps.zip (us++ds))
def Binds.all{K:aC}{ps:List Str}(h:∀ us:List ag,us.length=ps.length->bindArgs fd ⟨us,[]⟩=pure (ps.zip us)):Binds K fd ps []:=λs us _ hl=>by rw[tJ] at hl ⊢;exact .of_eq (h us hl)
def Passes(CX:Jn)(X:Cx)(E:XK):Prop:=∀ pins σ H s e s',Inv X pins σ H s->CX X.stack H s E e s'->X.xe e s'
section
variable {X:Cx}{CX:Jn}{k:Nat}{f C:ai}{fd:qE}{ps:List Str}{sp:Sp}{rL:List V}{ds:List ag}{E:XK}{x m:Str}{p pos apos:Pos}{e o:Expr}{es:List Expr}{ta:TE}{t:TA}
def cG'(F:ki X.prog X.w X.K X.mg X.base CX k f fd ps sp)(hr:iN k X.A)(hb:Binds X.K fd ps ds)(hd:Vals rL ds)(hx:Passes CX X E)(I:Inv X pins σ H s) (r:Vals vs us) (h:sp (vs++rL) H Q E):aS (aE X.prog X.w) X.A (call (.ref f) us) (EP X pins σ Q) X.xe s:=by
 have r2:Vals (vs++rL) (us++ds):=r.append hd;have hl:(us++ds).length=ps.length:=by rw[<- r2.length];exact F.len _ _ _ _ h
 refine wpAny_call (codeAny_mono (F.run X.A X.stack s H ⟨us,[]⟩ (us++ds) (vs++rL) Q E hr I.cF' (hb s us I.kC hl) r2 h) λr s' hq=>?_)
 cases r with
 |error e=>exact hx pins σ H s e s' I hq
 |ok fl =>
  cases fl with
  |ret u=>exact I.after hq
  |next=>exact False.elim hq
  |brk=>exact False.elim hq
  |cont=>exact False.elim hq
def ip'(F:ki X.prog X.w X.K X.mg X.base CX k f fd ps sp)(hr:iN k X.A)(hg:Gl X x)(hm:X.mg x=some (.ref f))(hk:xB X.K (.ref f)=true)(hb:Binds X.K fd ps ds)(hd:Vals rL ds)(hx:Passes CX X E)(ha:PA X (e :: es) t) (rS:cM x:=by decide) (he:autoParam (aQ X e es) bv) (mN:autoParam (bR X pos es) bv) :
  PE X (.Call (.Name x p) (e :: es) [] pos) (ZR sp rL E t):=by
 intro pins s σ H Q I h;refine LJ (ZC I hg hm ?_ rS);refine PySem.W.callWith_K I.ok.mod.UQ hk (cp (ha pos pins s σ H _ I h) λus s1 ck=>L2.e9 ck λvs H1 I1 r q=>⟨I1.kC,?_⟩) he mN;exact cG' F hr hb hd hx I1 r q
def cH'(he:PE X o ta)(c:vS X.K C)(hm:Meth X.K C m f)(F:ki X.prog X.w X.K X.mg X.base CX k f fd ps sp)(hr:iN k X.A)(hb:Binds X.K fd ps ds)(hd:Vals rL ds)(hx:Passes CX X E)(ha:PA X (e :: es) t)(rh:autoParam (aQ X e es) bv) (mN:autoParam (bR X pos es) bv) (ht:autoParam (dE (.Call (.Attribute o m apos) (e :: es) [] pos) X.env=(do
   let ov ← eval o X.env
   standAt apos.atName
   let (f,first) ← holding [ov] (getMethod ov m pl)
   callWith pos f first (backTo pos (g7 (e :: es) X.env)) (backToKw pos (E5 [] X.env)))) bv) :
  PE X (.Call (.Attribute o m apos) (e :: es) [] pos) (im' C m sp rL E ta t):=by
 intro pins s σ H Q I h;refine PySem.W.methodCall_KW (cp (he pins s σ H _ I h) λu s1 dc=>?_) ht;obtain⟨x,H1,I1,rx,a,dx,fs,ex,ea,l,q⟩:=dc;subst ex;obtain rfl:u=Value.ref a:=rx;refine ic' I1 ea c hm l ?_;refine PySem.W.callWith_K I.ok.mod.UQ hm.kp (cp (ha pos pins s1 σ H1 _ I1 q) λus s2 ck=>L2.e9 ck λvs H2 I2 r q2=>⟨I2.kC,?_⟩) rh mN;exact cG' (vs:=.ref a :: vs) F hr hb hd hx I2 (.cons rfl r) q2
structure Mk(K:aC)(C f:ai):Prop where
 makes:W3 K C=true
 init:sC K (.ref C) "__init__" = some (some (.ref f))
 fn:IB K (.ref f)=true
 kp:xB K (.ref C)=true
def iq'(M:Mk X.K C f)(F:ki X.prog X.w X.K X.mg X.base CX k f fd ps sp)(hr:iN (k+1) X.A)(hb:Binds X.K fd ps ds)(hd:Vals rL ds)(hx:Passes CX X E) (I:Inv X pins σ H s) (r:Vals vs us)(h:∀ x dx,H x=none->H dx=none->dx≠x->sp (.ref x :: (vs++rL)) (upd (upd H dx (.own x)) x (.ins C dx [])) (λv H2=>v=.non/\Q (.ref x) H2) E) :
  aS (aE X.prog X.w) X.A (call (.ref C) us) (EP X pins σ Q) X.xe s:=by
 have hq:=h (s.heap.objs.size+1) s.heap.objs.size (I.bP.fresh (II _)) (I.bP.fresh (cK _)) (fz (P9 _));have I2:=Inv.made (C:=C) I;have r2:Vals (V.ref (s.heap.objs.size+1) :: (vs++rL)) (Value.ref (s.heap.objs.size+1) :: (us++ds)):=.cons rfl (r.append hd);have hl:(Value.ref (s.heap.objs.size+1) :: us++ds).length=ps.length:=by have e:=r2.length;rw[F.len _ _ _ _ hq] at e;exact e.symm
 refine wpAny_call (hW' I.kC M.makes M.init (beq_iff_eq.mp M.fn) (codeAny_mono (F.run _ X.stack _ _ ⟨Value.ref (s.heap.objs.size+1) :: us,[]⟩ (Value.ref (s.heap.objs.size+1) :: (us++ds)) _ _ E (hr.make C us []) (I2.cF'.make C us []) (hb _ (Value.ref (s.heap.objs.size+1) :: us) I2.kC hl) r2 hq) λr s' S9=>?_))
 cases r with
 |error e=>exact hx pins σ _ _ e s' I2 S9
 |ok fl =>
  cases fl with
  |ret u =>obtain⟨v,H',I3,rv,ev,q3⟩:=I2.after S9;subst ev;exact⟨rv,⟨V.ref (s.heap.objs.size+1),H',I3,rfl,q3⟩⟩
  |next=>exact False.elim S9
  |brk=>exact False.elim S9
  |cont=>exact False.elim S9
def ir'(M:Mk X.K C f)(F:ki X.prog X.w X.K X.mg X.base CX k f fd ps sp)(hr:iN (k+1) X.A)(hg:Gl X x)(hm:X.mg x=some (.ref C))(hb:Binds X.K fd ps ds)(hd:Vals rL ds)(hx:Passes CX X E)(rS:cM x:=by decide):PE X (.Call (.Name x p) [] [] pos) (io' C sp rL E Nn):=by
 intro pins s σ H Q I h;refine LJ (ZC I hg hm ?_ rS);exact PySem.W.callWith_K0 I.kC M.kp (iq' M F hr hb hd hx I .nil h)
end
structure A6(N P:List Str)(sc:lT):Prop where
 kind:sc.kind=.function
 co:sc.isCoroutine=false
 gen:sc.isGenerator=false
 nd:N.Nodup
 pre:N.take P.length=P
 par:∀ x∈P,sc.names.lookup x=some .local\/sc.names.lookup x=some .cell
 is':∀ y∈sc.names,y.2≠.free
theorem cI'{fw:Str->Option NameKind}:∀ {binds:List (Str × ag)} {m:Str->Option ag},(∀ v,(x,v)∉binds)->bindL fw binds m x=m x
 |[],_,_=>rfl
 | (n,v) :: r,m,h=>by
  unfold bindL;rw[cI' λw hw=>h w (eI _ hw)];split
  ·have:x≠n:=by rintro rfl;exact h v eh
   simp[this]
  ·rfl
theorem cJ'{fw:Str->Option NameKind}:∀ {binds:List (Str × ag)} {m:Str->Option ag},(∀ v,(x,v)∉binds)->bindC fw binds m x=m x
 |[],_,_=>rfl
 | (n,v) :: r,m,h=>by
  unfold bindC;rw[cJ' λw hw=>h w (eI _ hw)];split
  ·rfl
  ·have:x≠n:=by rintro rfl;exact h v eh
   simp[this]
def cK'{fw:Str->Option NameKind}:∀ {P:List Str} {vs:List ag} {i:Nat} {m:Str->Option ag},P.Nodup->P[i]? = some x->vs[i]? = some v->fw x=some .local ->
  bindL fw (P.zip vs) m x=some v
 |[],_,_,_,_,h,_,_=>by simp at h
 |_ :: _,[],_,_,_,_,h,_=>by simp at h
 |p :: P,w :: vs,0,m,nd,h1,h2,hk=>by simp at h1 h2;subst h1;subst h2;show bindL fw ((p,w) :: P.zip vs) m p=_;unfold bindL;rw[cI' λv hv=>(ny.mp nd).1 (List.of_mem_zip hv).1,if_pos hk];simp
 |p :: P,w :: vs,i+1,m,nd,h1,h2,hk=>by unfold bindL;exact cK' (ny.mp nd).2 (by simpa using h1) (by simpa using h2) hk
def cL'{fw:Str->Option NameKind}:∀ {P:List Str} {vs:List ag} {i:Nat} {m:Str->Option ag},P.Nodup->P[i]? = some x->vs[i]? = some v->fw x≠some .local ->
  bindC fw (P.zip vs) m x=some v
 |[],_,_,_,_,h,_,_=>by simp at h
 |_ :: _,[],_,_,_,_,h,_=>by simp at h
 |p :: P,w :: vs,0,m,nd,h1,h2,hk=>by simp at h1 h2;subst h1;subst h2;show bindC fw ((p,w) :: P.zip vs) m p=_;unfold bindC;rw[cJ' λv hv=>(ny.mp nd).1 (List.of_mem_zip hv).1,if_neg hk];simp
 |p :: P,w :: vs,i+1,m,nd,h1,h2,hk=>by unfold bindC;exact cL' (ny.mp nd).2 (by simpa using h1) (by simpa using h2) hk
def start(N:List Str)(vs:List V):St:=vs.map some++List.replicate (N.length-vs.length) none
def rV(CX:Jn)(P:cf)(w:cw)(K:aC)(mg:Str->Option ag)(base:df)(N:List Str)(qual:Str)(scope:lT)(f:ai)(cd:ag)(A:ft)(outer:List Env)(s:aI)(H:Hp)(E:XK):Cx where
 prog:=P
 w:=w
 K:=K
 mg:=mg
 base:=base
 A:=A.deeper (pz qual scope s.heap.objs.size f cd)
 N:=N
 lh:=s
 pS:=H
 env:=pz qual scope s.heap.objs.size f cd
 outer:=outer
 stack:=pz qual scope s.heap.objs.size f cd :: outer
 ex:=[]
 calm:=true
 fn:=λ_=>true
 pn:=[]
 xe:=λe s'=>aS (aE P w) (A.deeper (pz qual scope s.heap.objs.size f cd)) (leaving (pz qual scope s.heap.objs.size f cd) e) (λ_ JA=>CX outer H s E e JA) (λe' JA=>CX outer H s E e' JA) s'
def cM'{sc:lT}{n:Nat}{x:Str}(h:sc.names.lookup x=some .cell):∃ c,(ot n sc.names []).lookup x=some c:=by have q:=PySem.W.cellsFrom_some sc.names n [] (.inl h);exact Qr.mp q
def it'{CX:Jn}{P:cf}{w:cw}{K:aC}{mg:Str->Option ag}{base:df}{N ps:List Str}{qual:Str}{scope:lT}{f:ai}{cd:ag}{A:ft}{outer:List Env}{s s1:aI}{H:Hp}{E:XK}{us:List ag}{vs:List V}(S:A6 N ps scope) (hd:A.handled=none) (e0:Nw P w K mg base A outer s H) (hl:vs.length=ps.length) (r:Vals vs us)(x:InCallC s s.heap.objs.size (bindL (pz qual scope s.heap.objs.size f cd).kindOf (ps.zip us) λ_=>none) (ot (s.heap.objs.size+1) scope.names []) (bindC (pz qual scope s.heap.objs.size f cd).kindOf (ps.zip us) λ_=>none) s1) :
  Inv (rV CX P w K mg base N qual scope f cd A outer s H E) [] (start N vs) H s1:=by
 have mN:ps.length<=N.length:=by have:=congrArg List.length S.pre;rw[lP] at this;lia
 obtain⟨h1,tk,rfl,hk⟩:=x.done;have S_:∀ b:ai,b∉(rV CX P w K mg base N qual scope f cd A outer s H E).ex:=λb z=>absurd (show b∈([]:List ai) from z) (by simp);refine⟨⟨e0.mod,S.kind,rfl,rfl,cK _,λy z c h1 h2=>?_,λy hy=>?_,λy c _ h=>?_,λ_=>hd,Around.frames_deeper e0.frames,.inr ⟨rfl,rfl⟩,λb z=>absurd z (S_ b),e0.bs,e0.Fu,λb _ _=>S_ b,λb z=>absurd z (S_ b),e0.A2,e0.MS⟩,
  rfl,e0.bare,Un.kept hk,⟨_,x.toInCall.ns,λi y v h1 h2 h3=>?_⟩,λy c h=>⟨_,x.cell y c h⟩,e0.bP.fresh (cK _),λy c h=>?_,λp hp=>absurd (show p∈([]:List (ai × Obj)) from hp) (by simp),e0.bP.kept hk,?_⟩
 ·exact name_of_addr x.apart (PySem.mem_of_lookup h1) (PySem.mem_of_lookup h2)
 ·have hy:scope.names.lookup y=some .cell\/scope.names.lookup y=some .free:=hy;rcases hy with hy|hy
  ·exact cM' hy
  ·exact absurd rfl (S.is' _ (PySem.mem_of_lookup hy))
 ·exact MA (x.above y c (PySem.mem_of_lookup h))
 ·have hi:i<vs.length:=by
   unfold start at h2;by_cases hi:i<vs.length
   ·exact hi
   ·rw[B5 (by simpa using hi)] at h2;rw[List.getElem?_replicate] at h2;split at h2<;>cases h2
  have ha:vs[i]? = some v:=by
   unfold start at h2;rw[IC (by simpa using hi),g9] at h2
   cases e:vs[i]? with
   |none=>rw[e] at h2;cases h2
   |some a=>rw[e] at h2;cases h2;rfl
  obtain⟨u,hu,rv⟩:=r.get ha;have hp:ps[i]? = some y:=by rw[<- S.pre,List.getElem?_take_of_lt (by lia)];exact h1
  have ndP:ps.Nodup:=by rw[<- S.pre];exact S.nd.sublist (List.take_sublist _ _)
  refine⟨u,rv,?_⟩;rcases S.par y (nh hp) with k|k
  ·exact .inl ⟨k,cK' ndP hp hu k⟩
  ·obtain⟨c,e⟩:=cM' k;refine .inr ⟨.inl k,c,e,?_⟩;have q:=x.cell y c e;rw[cL' ndP hp hu (by show scope.names.lookup y≠_;rw[k];decide)] at q;exact q
 ·exact e0.bP.fresh (MA (x.above y c (PySem.mem_of_lookup h)))
 ·unfold start;show _=N.length;rw[mG,b4,List.length_replicate];lia
def iu'{P:cf}{K:aC}{dV kV doc pm dk ct oc:ag}{N ps:List Str} (lk:K.lookup f=some ⟨oc,od,.func (sD name qual params body scope dV kV doc pm an dk ct),EC⟩) (tS:B4 K dk qual=true) (S:A6 N ps scope)(len:∀ vs H Q E,sp vs H Q E->vs.length=ps.length)(CF:∀ (A:ft) (outer:List Env) (s:aI) (H:Hp) (vs:List V) (Q:VK) (E:XK),iN k (A.deeper (pz qual scope s.heap.objs.size f dk))->sp vs H Q E ->
   ∃ t,mh (rV CX P w K mg base N qual scope f dk A outer s H E) body t/\t { nx:=λ_ H'=>Q .non H',rt:=Q } (start N vs) H) :
  ki P w K mg base CX (k+1) f (sD name qual params body scope dV kV doc pm an dk ct) ps sp:=by
 refine⟨len,λA outer s H args us vs Q E hr e0 hb r JJ=>?_⟩;have hl:=len _ _ _ _ JJ;have KX:K.In s.heap:=e0.mod.UQ.keeps λb o e=>(e0.bs b o e).1;have lim:s.heap.NoLimit:=e0.mod.nolimit.keeps λb o e=>(e0.bs b o e).1;have iw':∀ y∈ps.zip us,scope.names.lookup y.1=some .local\/(scope.names.lookup y.1=some .cell/\((ot (s.heap.objs.size+1) scope.names []).lookup y.1).isSome=true):=λ⟨n,v⟩ hy=>by
  rcases S.par n (List.of_mem_zip hy).1 with q|q
  ·exact .inl q
  ·exact .inr ⟨q,PySem.W.cellsFrom_some _ _ _ (.inl q)⟩
 refine codeAny_call_function hr.depth (KX _ _ lk) rfl S.co S.gen rfl (PySem.W.codeRec_of KX tS) (hb _ _ _ _ ?_);refine wpAny_newFunctionEnv_cells S.kind iw' λenv he s1 x=>?_;subst he;refine⟨lim.keeps x.toInCall.keep,codeAny_func ?_⟩;obtain⟨t,ht,hq⟩:=CF A outer s H vs Q E (hr.deeper _) JJ;have I:Inv (rV CX P w K mg base N qual scope f dk A outer s H E) [] (start N vs) H s1:=it' S hr.hd e0 hl r x;refine oS (ht [] s1 (start N vs) H _ I hq) (λfl s' hs=>?_) λe s' hs=>hs;have fin:∀ {b9:St} {H':Hp} {v:V} {u:ag},Inv (rV CX P w K mg base N qual scope f dk A outer s H E) [] b9 H' s'->RelV v u->Q v H'->CE outer P w H s Q u s' :=
  λ{b9 H' v u} J rv q=>⟨v,H',J.os,J.bare,J.base,J.bP,rv,q⟩
 cases fl with
 |ret u =>obtain⟨v,b9,H',J,rv,q⟩:=hs;exact fin J rv q
 |next =>obtain⟨b9,H',J,q⟩:=hs;exact fin (v:=V.non) J rfl q
 |brk =>obtain⟨_,_,_,q⟩:=hs;exact False.elim q
 |cont =>obtain⟨_,_,_,q⟩:=hs;exact False.elim q
section
variable {X:Cx}{x:Str}{p pos:Pos}{e:Expr}{es:List Expr}{t:TA}{id T:String}{r:List V->Hp->VK->Prop}
def Vc(r:List V->Hp->VK->Prop)(t:TA):TE:=λσ H Q=>t σ H λvs H1=>r vs H1 Q
def Vd (hc:kM X (.builtin id) r) (hg:Gl X x) (hm:X.mg x=none) (hv:k7 x=some (.builtin id)) (ha:PA X (e :: es) t) (hn:x ≠ "__name__" := by decide) (rS:cM x:=by decide) (he:autoParam (aQ X e es) bv) (mN:autoParam (bR X pos es) bv):PE X (.Call (.Name x p) (e :: es) [] pos) (Vc r t):=by
 intro pins s σ H Q I h;refine LJ (FD I hg hm hv ?_ hn rS);exact PyProof.Rows.callWith_builtin1 (cp (ha pos pins s σ H _ I h) λus s1 ck=>L2.e9 ck λvs H1 I1 r1 q1=>hc pins s1 σ H1 vs us Q I1 r1 q1) he mN
def ix' (hc:kM X (.type T) r) (hg:Gl X x) (hm:X.mg x=none) (hv:k7 x=some (.type T)) (ha:PA X (e :: es) t) (hn:x ≠ "__name__" := by decide) (rS:cM x:=by decide) (he:autoParam (aQ X e es) bv) (mN:autoParam (bR X pos es) bv):PE X (.Call (.Name x p) (e :: es) [] pos) (Vc r t):=by
 intro pins s σ H Q I h;refine LJ (FD I hg hm hv ?_ hn rS);exact PyProof.Rows.callWith_type1 (cp (ha pos pins s σ H _ I h) λus s1 ck=>L2.e9 ck λvs H1 I1 r1 q1=>hc pins s1 σ H1 vs us Q I1 r1 q1) he mN
end
end L2
end
namespace HT
open PySem PyProof.Rows
section
open PySem.SeqAt
open PySem.AutoSeq1 (wpAny_loadPart')
open PySem.MeetsSeq PySem.MeetsSeq2 PySem.MeetsSeq3
end
section
variable {prog:cf}{w:cw}{A:ft}{E:ag->aI->Prop}{s:aI}
def iy'(ht:IsTup s.heap t vs.toArray)(hb:IsTup s.heap b ws.toArray)(hv:vs≠[])(h1:ws=[]->Q (.ref t) s) (h2:ws≠[]->Q (.ref s.heap.objs.size) { s with heap:=s.heap.push { cls:=.type "tuple",data:=.seq (vs++ws).toArray } }) (fN:vs.length+ws.length<=bG):aS (aE prog w) A (nV .Add (.ref t) (.ref b)) Q E s:=by
 obtain⟨⟨cls,dd,data,sl⟩,ho,hc,n,hd⟩:=id ht;obtain⟨⟨iz',NC,data2,Ve⟩,FH,ZS,n2,hd2⟩:=id hb;subst hc hd ZS hd2;have e:vs.toArray++ws.toArray=(vs++ws).toArray:=by simp
 by_cases hw:ws=[]
 ·exact concat_meets ⟨_,ho,rfl⟩ ⟨_,FH,rfl⟩ noFill_tuple_add seq_tuple_add PySem.F.slot_tuple_add PySem.F.entry_tuple_add (PySem.F.args_tuple_add_2 _ _) (tuple_addW1 t b vs.toArray ws.toArray n n2 dd NC sl Ve (by simpa using hv) (by simp[hw])) ⟨ho,FH,h1 hw⟩
 ·refine concat_meets ⟨_,ho,rfl⟩ ⟨_,FH,rfl⟩ noFill_tuple_add seq_tuple_add PySem.F.slot_tuple_add PySem.F.entry_tuple_add (PySem.F.args_tuple_add_2 _ _) (tuple_addW2 t b vs.toArray ws.toArray n n2 dd NC sl Ve (by simpa using hv) (by simpa using hw) (by rw[kA,kA];exact fN)) ⟨ho,FH,?_⟩
  rw[e];exact h2 hw
def cS(n d:Nat):Option Int->Nat
 |none=>d
 |some v=>if v<0 then (v+(n:Int)).toNat else min v.toNat n
def cO'(v:Int)(n d:Nat):(if v<0 then max (v+(n:Int)) 0 else min v (n:Int))=((cS n d (some v):Nat):Int):=by
 show(if v<0 then max (v+n) 0 else min v n)=(((if v<0 then (v+n).toNat else min v.toNat n):Nat):Int)
 by_cases hv:v<0
 ·simp only[if_pos hv];lia
 ·simp only[if_neg hv];lia
def iA'(lo hi:Option Int)(n:Nat):Builtin.Slice.sliceAdjust lo hi 1 (n:Int)=(((cS n 0 lo:Nat):Int),((cS n n hi:Nat):Int)):=by
 refine Prod.ext ?_ ?_
 ·cases lo with
  |none=>rfl
  |some v=>exact cO' v n 0
 ·cases hi with
  |none=>rfl
  |some v=>exact cO' v n n
def iB'(i j:Nat):Builtin.Slice.slicePlaces (i:Int) (j:Int) 1=j-i:=by unfold Builtin.Slice.slicePlaces;split<;>lia
def cP'(p:IsPart v o)(h:Q o s):aS (aE prog w) A (Builtin.Slice.slicePartIndex v) Q E s:=by
 cases p with
 |none=>exact slicePart_none h
 |int i t=>exact slicePart_int h
def iC'{sl:ai}{vl vu:ag}{lo hi:Option Int}{n:Nat}{Q:Int × Int × Nat->aI->Prop}(hs:s.heap.IsSliceOf sl vl vu .none)(pl:IsPart vl lo)(pu:IsPart vu hi)(h:Q (((cS n 0 lo:Nat):Int),1,cS n n hi-cS n 0 lo) s):aS (aE prog w) A (Builtin.Slice.sliceApplied (.ref sl) (pure (n:Int))) Q E s:=by
 obtain⟨os,Ta,sL,A7⟩:=id hs;refine av (av (wpAny_field Ta A7 rfl (av (wpAny_field Ta A7 rfl (av (wpAny_field Ta A7 rfl (aT ?_)))))));refine av (slicePart_none ?_);refine av (cP' pl (av (cP' pu (av (aT ?_)))));show aS _ _ (match Builtin.Slice.sliceAdjust lo hi 1 n with|(lo,hi)=>pure (lo,(1:Int),Builtin.Slice.slicePlaces lo hi 1)) _ _ s;rw[iA' lo hi n];show aS _ _ (pure (((cS n 0 lo:Nat):Int),1,Builtin.Slice.slicePlaces ((cS n 0 lo:Nat):Int) ((cS n n hi:Nat):Int) 1)) _ _ s;rw[iB'];exact aT h
def iD'(xs:Array ag)(i k:Nat):((List.range k).filterMap λ(m:Nat)=>xs[((i:Int)+(m:Int)*1).toNat]?).toArray=((xs.toList.drop i).take k).toArray:=by
 have e:(λ(m:Nat)=>xs[(i+(m:Int)*1).toNat]?)=λm=>xs[i+m]? := by
  funext m;have:(i+(m:Int)*1).toNat=i+m:=by lia
  rw[this]
 rw[e];have:=pick_run xs i k;rw[List.filterMap_map] at this;have e2:((λx=>xs[x]?) ∘ λx=>i+x)=λm=>xs[i+m]? := rfl;rw[e2] at this;rw[this]
def iE'{lo hi:Option Int}(ht:IsTup s.heap t items)(hs:s.heap.IsSliceOf sl vl vu .none)(pl:IsPart vl lo)(pu:IsPart vu hi)(hw:¬ (cS items.size 0 lo=0/\cS items.size items.size hi=items.size))(h:Q (.ref s.heap.objs.size) { s with heap:=s.heap.push { cls:=.type "tuple",data:=.seq ((items.toList.drop (cS items.size 0 lo)).take (cS items.size items.size hi-cS items.size 0 lo)).toArray } }) (fN:items.size<=bG):aS (aE prog w) A (getItem (.ref t) (.ref sl)) Q E s:=by
 have Vf:sizeOk (.seq ((items.toList.drop (cS items.size 0 lo)).take (cS items.size items.size hi-cS items.size 0 lo)).toArray):=by show((items.toList.drop (cS items.size 0 lo)).take (cS items.size items.size hi-cS items.size 0 lo)).toArray.size<=bG;rw[kA,lP,IG,y9];lia
 obtain⟨os,Ta,sL,A7⟩:=id hs;have hTs:s.TypeIs (.ref sl) "slice" := ⟨os,Ta,sL⟩
 unfold getItem;try with_reducible refine vn ?_
 first|refine av (aT ?_)|skip
 refine av (wpAny_sequenceKey ht.typeIs (by decide) ?_);refine av (PR ht.typeIs PyProof.Rows.slot_tuple_getitem (E4 PyProof.Rows.slot_tuple_getitem ht.typeIs entry_tuple_getitem ?_ (args_tuple_getitem _ _)))
 show aS _ _ (Builtin.Tuple.tupleItemsOf (.ref t) >>= _) _ _ s;refine av (tupleItemsOf_ ht ?_);refine av (wpAny_typeOf hTs ?_);refine av (iC' hs pl pu ?_);have Tb:¬ ((((cS items.size 0 lo:Nat):Int) == 0 && (1:Int) == 1 && (cS items.size items.size hi-cS items.size 0 lo) == items.size)=true):=by intro q;rw[k9,k9] at q;have q1:((cS items.size 0 lo:Nat):Int)=0:=eq_of_beq q.1.1;have q2:cS items.size items.size hi-cS items.size 0 lo=items.size:=eq_of_beq q.2;exact hw ⟨by lia,by lia⟩
 show aS _ _ (if (((cS items.size 0 lo:Nat):Int) == 0 && 1 == 1 && (cS items.size items.size hi-cS items.size 0 lo) == items.size)=true then _ else _) _ _ s;rw[if_neg Tb,iD'];first
  |exact av (tm (aT ⟨_,rfl,aT h⟩) Vf)
  |exact av (tm (av (aT (aT ⟨_,rfl,aT h⟩))) Vf)
  |exact av (av (tm (aT (aT ⟨_,rfl,aT h⟩)) Vf))
  |exact av (av (tm (aT ⟨_,rfl,aT h⟩) Vf))
end
end HT
section
open PySem PySem.Spec PyProof.Rows
namespace L2
abbrev TO:=St->Hp->(Option Int->Hp->Prop)->Prop
def PO(X:Cx)(e:Option Expr)(t:TO):Prop :=
 ∀ pins s σ H Q,Inv X pins σ H s->t σ H Q ->
  aS (aE X.prog X.w) X.A (evalPart e X.env) (λu s'=>∃ o H',Inv X pins σ H' s'/\IsPart u o/\Q o H') X.xe s
def iG':TO:=λ_ H Q=>Q none H
def iH'(t:TE):TO:=λσ H Q=>t σ H λx H1=>∃ i,x=.int i/\Q (some i) H1
section
variable {X:Cx}{e:Expr}{te:TE}{lo hi:Option Expr}{tl th:TO}{pos p2:Pos}
def iI':PO X none iG':=by intro pins s σ H Q I h;exact aT ⟨none,H,I,.none,h⟩
def iJ'(h:PE X e te):PO X (some e) (iH' te):=by intro pins s σ H Q I hw;refine cp (h pins s σ H _ I hw) λu s1 ck=>L2.e9 ck λx H1 I1 r1 q1=>?_;obtain⟨i,rfl,q⟩:=q1;obtain⟨t,rfl⟩:=r1;exact⟨some i,H1,I1,.int i t,q⟩
def Rn(X:Cx)(r:V->Option Int->Option Int->Hp->VK->Prop):Prop :=
 ∀ pins s σ H x v vl vu lo hi sl Q,Inv X pins σ H s->RelV x v->s.heap.IsSliceOf sl vl vu .none->IsPart vl lo->IsPart vu hi->r x lo hi H Q ->
  ∃ T id,typeLookup (.type T) "__getitem__" = pure (some (.builtin id))/\s.TypeIs v T/\aS (aE X.prog X.w) X.A (getItem v (.ref sl)) (EP X pins σ Q) X.xe s
def tSl(r:V->Option Int->Option Int->Hp->VK->Prop)(te:TE)(tl th:TO):TE:=λσ H Q=>te σ H λx H1=>tl σ H1 λl H2=>th σ H2 λu H3=>r x l u H3 Q
def iL'(hr:Rn X r)(he:PE X e te)(hl:PO X lo tl)(hu:PO X hi th):PE X (.Subscript e (.Slice lo hi none p2) pos) (tSl r te tl th):=by intro pins s σ H Q I h;refine Subscript_ (cp (he pins s σ H _ I h) λv s1 ck=>L2.e9 ck λx H1 I1 r1 q1=>?_);refine wpAny_Slice (cp (hl pins s1 σ H1 _ I1 q1) λvl s2 ck=>L2.e9 ck λl H2 I2 pl q2=>cp (hu pins s2 σ H2 _ I2 q2) λvu s3 ck=>L2.e9 ck λu H3 I3 pu q3=>?_);refine aT ?_;have I4:Inv X pins σ H3 { s3 with heap:=s3.heap.push { cls:=.type "slice",data:=.fields #[vl,vu,.none] } }:=I3.kept λb ob q=>eL _ q;obtain⟨T,id,hT,ht,hg⟩:=hr pins { s3 with heap:=s3.heap.push { cls:=.type "slice",data:=.fields #[vl,vu,.none] } } σ H3 x v vl vu l u s3.heap.objs.size Q I4 r1 (Heap.IsSliceOf.new ..) pl pu q3;exact tail_any ht hT hg (by with_unfolding_all rfl)
def ND(xs:List V)(lo hi:Option Int):List V:=(xs.drop (HT.cS xs.length 0 lo)).take (HT.cS xs.length xs.length hi-HT.cS xs.length 0 lo)
def cQ'(xs:List V)(lo hi:Option Int):(ND xs lo hi).length<=xs.length:=by unfold ND;rw[lP,IG];lia
def cR'(K:aC):V->Option Int->Option Int->Hp->VK->Prop:=λx lo hi H Q=>∃ a xs,x=.ref a/\kL K H a xs /\
 ¬ (HT.cS xs.length 0 lo=0/\HT.cS xs.length xs.length hi=xs.length)/\∀ p,H p=none->Q (.ref p) (upd H p (.tup (ND xs lo hi)))
def iM':Rn X (cR' X.K):=by
 intro pins s σ H x v vl vu lo hi sl Q I rx hs pl pu h;obtain⟨a,xs,rfl,hx,hw,q⟩:=h;cases rx;obtain⟨its,r,ht,hz⟩:=I.tuple hx;have hlen:its.toArray.size=xs.length:=by rw[kA];exact r.length.symm
 refine⟨"tuple",_,PyProof.Rows.slot_tuple_getitem.lookup,ht.typeIs,?_⟩;refine HT.iE' ht hs pl pu (by rw[hlen];exact hw) ?_ (by rw[hlen];exact hz);rw[hlen];refine⟨.ref s.heap.objs.size,_,I.laid (λb ob q=>eL _ q) (cK _) ?_,rfl,q _ (I.bP.fresh (cK _))⟩;exact⟨kE (cQ' xs lo hi) hz,_,(r.drop (HT.cS xs.length 0 lo)).take (HT.cS xs.length xs.length hi-HT.cS xs.length 0 lo),IsTup.new _ _⟩
def ZT(K:aC):R2:=λx y H Q=>∃ a b xs ys,x=.ref a/\y=.ref b/\kL K H a xs/\kL K H b ys/\xs≠[]/\xs.length+ys.length<=bG /\ (ys=[]->Q (.ref a) H)/\(ys≠[]->∀ p,H p=none->Q (.ref p) (upd H p (.tup (xs++ys))))
def Vals.ZU(r:Vals xs us):us=[]↔xs=[]:=by
 cases r with
 |nil=>simp
 |cons _ _=>simp
def iN':dP X (nV .Add) (ZT X.K):=by intro pins s σ H x y v u Q I rx ry h;obtain⟨a,b,xs,ys,rfl,rfl,ha,hb,hx,hz,q1,q2⟩:=h;cases rx;cases ry;obtain⟨its,r1,p1,_⟩:=I.tuple ha;obtain⟨Vg,r2,p2,_⟩:=I.tuple hb;refine HT.iy' p1 p2 (λz=>hx (r1.ZU.mp z)) (λz=>⟨.ref a,H,I,rfl,q1 (r2.ZU.mp z)⟩) (λz=>?_) (by rw[<- r1.length,<- r2.length];exact hz);refine⟨.ref s.heap.objs.size,_,I.laid (λb ob q=>eL _ q) (cK _) ?_,rfl,q2 (λw=>z (r2.ZU.mpr w)) _ (I.bP.fresh (cK _))⟩;exact⟨by rw[mG];exact hz,_,r1.append r2,IsTup.new _ _⟩
end
def rX(n:Nat)(i:Int):Option Nat:=if 0<=i then (if i<n then some i.toNat else none) else if -(n:Int)<=i then some (i+n).toNat else none
def gi{α:Type}(xs:List α)(i:Int):Option α:=(rX xs.length i).bind λj=>xs[j]?
def iO'(h:rX n i=some j):seqIndex? i n=some j/\j<n/\-(n:Int)<=i/\i<n:=by
 unfold rX at h;by_cases h0:0<=i
 ·rw[if_pos h0] at h;by_cases h1:i<n
  ·rw[if_pos h1] at h;have e:i.toNat=j:=Option.some.inj h;exact⟨by rw[seqIndex_of h0 h1,e],by lia,by lia,h1⟩
  ·rw[if_neg h1] at h;cases h
 ·rw[if_neg h0] at h;by_cases h1:-n<=i
  ·rw[if_pos h1] at h;have e:(i+n).toNat=j:=Option.some.inj h;exact⟨by rw[seqIndex_neg (by lia) h1,e],by lia,h1,by lia⟩
  ·rw[if_neg h1] at h;cases h
def ZV{α:Type}{xs:List α}{i:Int}{v:α}(h:gi xs i=some v):∃ j,seqIndex? i xs.length=some j/\xs[j]? = some v/\j<xs.length/\-(xs.length:Int)<=i/\i<xs.length:=by
 unfold gi at h
 cases e:rX xs.length i with
 |none=>rw[e] at h;cases h
 |some j =>rw[e] at h;obtain⟨h1,h2,h3,h4⟩:=iO' e;exact⟨j,h1,h,h2,h3,h4⟩
def FI{α:Type}{xs:List α}{j:Nat}{v:α}(h:xs[j]? = some v):gi xs (j:Int)=some v:=by
 have hj:j<xs.length:=(h9.mp h).1;have e:rX xs.length j=some j:=by unfold rX;rw[if_pos (by lia),if_pos (by lia)];simp
 unfold gi;rw[e];exact h
def Vh{α:Type}(xs:List α)(v:α):gi (xs++[v]) (-1)=some v:=by
 have hl:(xs++[v]).length=xs.length+1:=by simp
 have e:rX (xs++[v]).length (-1)=some xs.length:=by unfold rX;rw[hl,if_neg (by decide),if_pos (by lia)];congr 1;lia
 unfold gi;rw[e];simp
def Vi(b:Expr):Prop:=∀ o i,subscripted b false o i=operate [o,i] (getItem o i)
def A8(X:Cx)(r:R2):Prop :=
 ∀ value slice pins s σ H x y v u Q,Inv X pins σ H s->RelV x v->RelV y u->r x y H Q ->
  subscripted slice false v u=operate [v,u] (getItem v u)->aS (aE X.prog X.w) X.A (subscriptTail value slice v u) (EP X pins σ Q) X.xe s
def MtR(X:Cx)(id:String)(r:V->List V->Hp->VK->Prop):Prop :=
 ∀ pins s σ H x xs v us Q,Inv X pins σ H s->RelV x v->Vals xs us->r x xs H Q ->
  aS (aE X.prog X.w) X.A (call (.builtin id) (v :: us)) (EP X pins σ Q) X.xe s
section
variable {X:Cx}{a b:Expr}{ta tb:TE}{pos:Pos}
def A8.or(h:A8 X r)(h':A8 X r'):A8 X (λx y H Q=>r x y H Q\/r' x y H Q):=by
 intro value slice pins s σ H x y v u Q I rx ry q hs;rcases q with q|q
 ·exact h value slice pins s σ H x y v u Q I rx ry q hs
 ·exact h' value slice pins s σ H x y v u Q I rx ry q hs
def ZW{r:R2}(hr:A8 X r)(ha:PE X a ta)(hb:PE X b tb)(hs:Vi b):PE X (.Subscript a b pos) (Rj r ta tb):=by intro pins s σ H Q I h;exact Subscript_ (ZI ha hb I h λv u s2 x y H2 I2 rx ry q=>hr a b pins s2 σ H2 x y v u Q I2 rx ry q (hs _ _))
def cT'(K:aC):R2:=λx y H Q=>∃ p xs i v,x=.ref p/\y=.int i/\fe K H p xs/\gi xs i=some v/\Q v H
def cU'(K:aC):R2:=λx y H Q=>∃ p xs i v,x=.ref p/\y=.int i/\kL K H p xs/\gi xs i=some v/\Q v H
def cV':R2:=λx y H Q=>∃ z i c,x=.str z/\y=.int i/\z.length<=bG/\gi z.cps.toList i=some c/\Q (.str ⟨#[c]⟩) H
def iP':A8 X (cT' X.K):=by
 intro value slice pins s σ H x y v u Q I rx ry h hs;obtain⟨p,xs,i,z,rfl,rfl,hq,he,q⟩:=h;cases rx;obtain⟨t,rfl⟩:=ry;obtain⟨its,r,pl,hz⟩:=I.list hq;obtain⟨j,h1,h2,h3,h4,h5⟩:=ZV he;obtain⟨w,ew,nK⟩:=r.get h2;have hl:=r.length;have hn:=ZO;have fin:EP X pins σ Q w s:=⟨z,H,I,nK,q⟩
 by_cases h0:0<=i
 ·have hj:i.toNat=j:=by rw[seqIndex_of h0 h5] at h1;exact Option.some.inj h1
  exact item_listR pl.isList h0 (by lia) (by rw[hj];simpa using ew) fin hs
 ·have hj:(i+its.toArray.size).toNat=j:=by rw[seqIndex_neg (by lia) h4] at h1;rw[kA,<- hl];exact Option.some.inj h1
  exact subscriptTail_builtinR pl.isList.typeIs slot_list_getitem.lookup (wpAny_getItem_list_neg pl.isList (by lia) (by rw[kA]<;>lia) (by lia) (by rw[hj];simpa using ew) ⟨rfl,fin⟩) hs
def iQ':A8 X (cU' X.K):=by
 intro value slice pins s σ H x y v u Q I rx ry h hs;obtain⟨p,xs,i,z,rfl,rfl,hq,he,q⟩:=h;cases rx;obtain⟨t,rfl⟩:=ry;obtain⟨its,r,pl,hz⟩:=I.tuple hq;obtain⟨j,h1,h2,h3,h4,h5⟩:=ZV he;obtain⟨w,ew,nK⟩:=r.get h2;have hl:=r.length;have hn:=ZO;have fin:EP X pins σ Q w s:=⟨z,H,I,nK,q⟩
 exact subscriptTail_builtinR pl.typeIs slot_tuple_getitem.lookup (getItem_tuple pl (by lia) (by lia) (by rw[kA,<- hl];exact h1) (by simpa using ew) ⟨rfl,fin⟩) hs
def iR':A8 X cV':=by
 intro value slice pins s σ H x y v u Q I rx ry h hs;obtain⟨z,i,c,rfl,rfl,hz,he,q⟩:=h;obtain⟨t,rfl⟩:=rx;obtain⟨t',rfl⟩:=ry;obtain⟨j,h1,h2,h3,h4,h5⟩:=ZV he;have hl:z.cps.toList.length=z.length:=by simp[Str.length]
 rw[hl] at h1 h4 h5;have hn:=ZO;exact tail_any (typeIs_str s z t) slot_str_getitem.lookup (getItem_str (by
  have e1:decide (i < -(2 ^ 63:Int))=false:=decide_eq_false (by lia);have e2:decide (i >= 2 ^ 63)=false:=decide_eq_false (by lia);rw[e1,e2,Bool.or_false]) (by rw[h1];simpa using h2) ⟨.str ⟨#[c]⟩,H,I.tok _,⟨_,rfl⟩,q⟩) hs
def rIx(K:aC):R2:=λx y H Q=>cT' K x y H Q\/cU' K x y H Q\/cV' x y H Q
def iT':A8 X (rIx X.K):=iP'.or (iQ'.or iR')
def iU'(lo hi:Option Int)(n:Nat):(LS lo hi none n).1=((HT.cS n 0 lo:Nat):Int)/\(LS lo hi none n).2.1=((HT.cS n n hi:Nat):Int)/\(LS lo hi none n).2.2=1:=by
 refine⟨?_,?_,rfl⟩
 ·cases lo with
  |none=>simp[LS,HT.cS]
  |some i =>
   simp only[LS,HT.cS,Option.getD_none,show 1>0 by decide,if_true];by_cases h:i<0
   ·simp only[h,if_true]<;>lia
   ·simp only[h,if_false]<;>lia
 ·cases hi with
  |none=>simp[LS,HT.cS]
  |some i =>
   simp only[LS,HT.cS,Option.getD_none,show 1>0 by decide,if_true];by_cases h:i<0
   ·simp only[h,if_true]<;>lia
   ·simp only[h,if_false]<;>lia
def iV'(its:List ag)(lo hi:Option Int):slicePick its.toArray lo hi none=((its.drop (HT.cS its.length 0 lo)).take (HT.cS its.length its.length hi-HT.cS its.length 0 lo)).toArray:=by obtain⟨h1,h2,h3⟩:=iU' lo hi its.toArray.size;unfold slicePick;rw[h1,h2,h3];simp only[sliceRange_one,pick_run,kA]<;>rfl
def iW'(K:aC):V->Option Int->Option Int->Hp->VK->Prop:=λx lo hi H Q=>∃ a xs,x=.ref a/\fe K H a xs/\∀ p,H p=none->Q (.ref p) (upd H p (.lst (ND xs lo hi)))
def iX':Rn X (iW' X.K):=by intro pins s σ H x v vl vu lo hi sl Q I rx hs pl pu h;obtain⟨a,xs,rfl,hx,q⟩:=h;cases rx;obtain⟨its,r,ht,hz⟩:=I.list hx;have hlen:=r.length;refine⟨"list",_,slot_list_getitem.lookup,ht.isList.typeIs,?_⟩;refine wpAny_getItem_list_slice ht.isList hs pl pu .none (by simp) ?_ (by rw[kA]<;>lia);rw[iV',<- hlen];refine⟨.ref s.heap.objs.size,_,I.laid (λb ob q=>eL _ q) (cK _) ?_,rfl,q _ (I.bP.fresh (cK _))⟩;exact⟨kE (cQ' xs lo hi) hz,_,0,(r.drop (HT.cS xs.length 0 lo)).take (HT.cS xs.length xs.length hi-HT.cS xs.length 0 lo),ip _ rfl⟩
def ED:V->Bool
 |.non=>true
 |.bl _=>true
 |.int _=>true
 |.str _=>true
 |_=>false
def FK:V->V->Bool
 |.non,.non=>true
 |.bl a,.bl b=>a == b
 |.bl a,.int b=>(if a then 1 else 0) == b
 |.int a,.bl b=>a == (if b then 1 else 0)
 |.int a,.int b=>a == b
 |.str a,.str b=>a == b
 |_,_=>false
def iY'(ry:RelV y u)(rx:RelV x v)(fy:ED y=true)(fx:ED x=true):SeqAt.EqAt A s u v (FK y x):=by
 cases y with
 |non =>
  cases ry
  cases x with
  |non=>cases rx;exact SeqAt.EqAt.same _
  |bl b=>cases rx;exact SeqAt.EqAt.none_bool b
  |int b=>obtain⟨t,rfl⟩:=rx;exact SeqAt.EqAt.none_int b t
  |str b=>obtain⟨t,rfl⟩:=rx;exact SeqAt.EqAt.none_str b t
  |_=>exact absurd (fx) nX
 |bl a =>
  cases ry
  cases x with
  |non=>cases rx;exact SeqAt.EqAt.bool_none a
  |bl b=>cases rx;exact SeqAt.EqAt.bool_bool a b
  |int b=>obtain⟨t,rfl⟩:=rx;exact SeqAt.EqAt.bool_int a b t
  |str b=>obtain⟨t,rfl⟩:=rx;exact SeqAt.EqAt.bool_str a b t
  |_=>exact absurd (fx) nX
 |int a =>
  obtain⟨t',rfl⟩:=ry
  cases x with
  |non=>cases rx;exact SeqAt.EqAt.int_none a t'
  |bl b=>cases rx;exact SeqAt.EqAt.int_bool a t' b
  |int b=>obtain⟨t,rfl⟩:=rx;exact SeqAt.EqAt.int_int a t' b t
  |str b=>obtain⟨t,rfl⟩:=rx;exact SeqAt.EqAt.int_str a t' b t
  |_=>exact absurd (fx) nX
 |str a =>
  obtain⟨t',rfl⟩:=ry
  cases x with
  |non=>cases rx;exact SeqAt.EqAt.str_none a t'
  |bl b=>cases rx;exact SeqAt.EqAt.str_bool a t' b
  |int b=>obtain⟨t,rfl⟩:=rx;exact SeqAt.EqAt.str_int a t' b t
  |str b=>obtain⟨t,rfl⟩:=rx;exact SeqAt.EqAt.str_str a t' b t
  |_=>exact absurd (fx) nX
 |_=>exact absurd (fy) nX
def xS(x:V)(u:ag):Bool:=match u with
 |.none=>FK .non x
 |.bool b=>FK (.bl b) x
 |.int i _=>FK (.int i) x
 |.str z _=>FK (.str z) x
 |_=>false
def cW'(r:RelV y u)(f:ED y=true):xS x u=FK y x:=by
 cases y with
 |non=>cases r;rfl
 |bl b=>cases r;rfl
 |int i=>obtain⟨t,rfl⟩:=r;rfl
 |str z=>obtain⟨t,rfl⟩:=r;rfl
 |_=>exact absurd (f) nX
theorem Tc:∀ {xs:List V} {us:List ag},Vals xs us->xs.all ED=true->us.any (xS x)=xs.any λy=>FK y x
 |_,_,.nil,_=>rfl
 |y :: xs,u :: us,.cons r t,f=>by rw[Fh,k9] at f;rw[D5,D5,cW' r f.1,Tc t f.2]
theorem Td(rx:RelV x v)(fx:ED x=true):∀ {xs:List V} {us:List ag},Vals xs us->xs.all ED=true->∀ u∈us,SeqAt.EqAt A s u v (xS x u)
 |_,_,.nil,_=>λu hu=>by cases hu
 |y :: xs,u :: us,.cons r t,f=>λu' hu=>by
  rw[Fh,k9] at f;rcases eu.mp hu with rfl|hu
  ·rw[cW' r f.1];exact iY' r rx f.1 fx
  ·exact Td rx fx t f.2 u' hu
def Vj(x:V)(xs:List V):Bool:=xs.any λy=>FK y x
def Te(K:aC)(neg:Bool):R2:=λx y H Q=>∃ p xs,y=.ref p/\(fe K H p xs\/kL K H p xs)/\ED x=true/\xs.all ED=true/\Q (.bl (if neg then !Vj x xs else Vj x xs)) H
def iZ':dP X (gI .In) (Te X.K false):=by
 walk_at"b";obtain⟨p,xs,rfl,hq,fx,fs,q⟩:=h;cases ry;rcases hq with hq|hq
 ·obtain⟨its,r,pl,hz⟩:=I.list hq;refine SeqAt.in_listAt (xS x) pl.isList (λw hw=>Td rx fx r fs w (by simpa using hw)) ⟨.bl _,H,I,rfl,?_⟩;rw[show its.toArray.any (xS x)=its.any (xS x) by simp,Tc r fs];exact q
 ·obtain⟨its,r,pl,hz⟩:=I.tuple hq;refine SeqAt.in_tupleAt (xS x) pl (λw hw=>Td rx fx r fs w (by simpa using hw)) ⟨.bl _,H,I,rfl,?_⟩;rw[show its.toArray.any (xS x)=its.any (xS x) by simp,Tc r fs];exact q
def ja':dP X (gI .NotIn) (Te X.K true):=by
 walk_at"b";obtain⟨p,xs,rfl,hq,fx,fs,q⟩:=h;cases ry;rcases hq with hq|hq
 ·obtain⟨its,r,pl,hz⟩:=I.list hq;refine SeqAt.notIn_listAt (xS x) pl.isList (λw hw=>Td rx fx r fs w (by simpa using hw)) ⟨.bl _,H,I,rfl,?_⟩;rw[show its.toArray.any (xS x)=its.any (xS x) by simp,Tc r fs];exact q
 ·obtain⟨its,r,pl,hz⟩:=I.tuple hq;refine SeqAt.notIn_tupleAt (xS x) pl (λw hw=>Td rx fx r fs w (by simpa using hw)) ⟨.bl _,H,I,rfl,?_⟩;rw[show its.toArray.any (xS x)=its.any (xS x) by simp,Tc r fs];exact q
def kM.or(h:kM X f r)(h':kM X f r'):kM X f (λxs H Q=>r xs H Q\/r' xs H Q):=by
 intro pins s σ H xs us Q I rs q;rcases q with q|q
 ·exact h pins s σ H xs us Q I rs q
 ·exact h' pins s σ H xs us Q I rs q
def jb':kM X (.type "list") (λxs H Q=>∃ p ys,xs=[.ref p]/\(fe X.K H p ys\/kL X.K H p ys)/\∀ l,H l=none->Q (.ref l) (upd H l (.lst ys))):=by
 intro pins s σ H xs us Q I r h;obtain⟨p,ys,rfl,hq,q⟩:=h;obtain⟨u,rfl,rx⟩:=vals1 r;cases rx;have fin:∀ its,Vals ys its->ys.length<=bG->∀ h' c',(∀ b o',s.heap.get? b=some o'->h'.get? b=some o') ->
   h'.get? s.heap.objs.size=some { cls:=.type "list",dict:=none,data:=.seq its.toArray c',slots:=#[] }->EP X pins σ Q (.ref s.heap.objs.size) { s with heap:=h' }:=λits r' hz h' c' kp e =>
  ⟨.ref s.heap.objs.size,_,I.laid kp (cK _) (show kz X.prog X.w _ h' _ (.lst ys) from⟨hz,its,c',r',e⟩),rfl,q _ (I.bP.fresh (cK _))⟩
 rcases hq with hq|hq
 ·obtain⟨its,r',pl,hz⟩:=I.list hq;have hlen:=r'.length;obtain⟨o,ho,hc,n,hd⟩:=pl.isList;exact call_list_seq p (.inl rfl) ho hc hd (λh' c' kp e=>fin its r' hz h' c' kp e) (by simp only[kA]<;>lia)
 ·obtain⟨its,r',pl,hz⟩:=I.tuple hq;have hlen:=r'.length;obtain⟨o,ho,hc,n,hd⟩:=pl;exact call_list_seq p (.inr rfl) ho hc hd (λh' c' kp e=>fin its r' hz h' c' kp e) (by simp only[kA]<;>lia)
def jc':kM X (.type "tuple") (λxs H Q=>∃ p ys,xs=[.ref p]/\((fe X.K H p ys/\∀ l,H l=none->Q (.ref l) (upd H l (.tup ys)))\/(kL X.K H p ys/\Q (.ref p) H))):=by
 intro pins s σ H xs us Q I r h;obtain⟨p,ys,rfl,h⟩:=h;obtain⟨u,rfl,rx⟩:=vals1 r;cases rx;rcases h with⟨hq,q⟩|⟨hq,q⟩
 ·obtain⟨its,r',pl,hz⟩:=I.list hq;have hlen:=r'.length;refine call_tuple_list pl.isList (λh' kp=>?_) (by simp only[kA]<;>lia);have I1:Inv X pins σ H { s with heap:=h' }:=I.kept kp;have I2:Inv X pins σ (upd H h'.objs.size (.tup ys)) { s with heap:=h'.push { cls:=.type "tuple",data:=.seq its.toArray } } :=
   I1.laid (λb o e=>eL _ e) (cK _) (⟨hz,its,r',IsTup.new _ _⟩)
  exact⟨.ref h'.objs.size,_,I2,rfl,q _ (I1.bP.fresh (cK _))⟩
 ·obtain⟨its,r',pl,hz⟩:=I.tuple hq;exact call_tuple_same pl ⟨.ref p,H,I,rfl,q⟩
def ZX(K:aC)(T:String)(x:V)(H:Hp):Prop:=match x with
 |.str _=>T = "str"
 |.int _=>T = "int"
 |.ref p=>(T = "list"/\∃ xs,fe K H p xs)\/(T = "tuple"/\∃ o,K.lookup p=some o/\o.cls=.type "tuple"/\o.dict=none) \/
   (T = "dict"/\((∃ kvs,H p=some (.dK kvs))\/∃ kvs,H p=some (.dT kvs)))\/(T = "set"/\∃ S n,H p=some (.set S n))
 |_=>False
def jd'{T:String}(I:Inv X pins σ H s)(r:RelV x v)(ty:ZX X.K T x H) :
  s.TypeIs v T/\∀ a,v=.ref a->∃ ob,s.heap.get? a=some ob/\ob.dict=none:=by
 cases x with
 |str z =>obtain⟨t,rfl⟩:=r;cases (ty);exact⟨typeIs_str s z t,λ_ e=>nomatch e⟩
 |int i =>obtain⟨t,rfl⟩:=r;cases (ty);exact⟨typeIs_int s i t,λ_ e=>nomatch e⟩
 |ref p =>
  cases r;rcases ty with⟨rfl,xs,hq⟩|⟨rfl,o,hk,hc,hd⟩|⟨rfl,hk⟩|⟨rfl,S,n,hk⟩
  ·obtain⟨its,_,pl,_⟩:=I.list hq;refine⟨pl.isList.typeIs,λa e=>?_⟩;cases e;obtain⟨o,n,e,c,hd,_⟩:=pl;exact⟨o,e,hd⟩
  ·refine⟨⟨o,I.kC p o hk,hc⟩,λa e=>?_⟩;cases e;exact⟨o,I.kC _ o hk,hd⟩
  ·have z:∃ o,s.heap.get? p=some o/\o.ExactDict:=by
    rcases hk with⟨kvs,hk⟩|⟨kvs,hk⟩
    ·obtain⟨_,_,_,_,o,_,_,e,ex,_⟩:=I.bP p _ hk;exact⟨o,e,ex⟩
    ·obtain⟨_,_,_,_,o,_,_,e,ex,_⟩:=I.bP p _ hk;exact⟨o,e,ex⟩
   obtain⟨o,e,ex⟩:=z;refine⟨⟨o,e,ex.1⟩,λa e2=>?_⟩;cases e2;exact⟨o,e,ex.2.1⟩
  ·obtain⟨o,_,_,_,e,ex,_⟩:=I.bP p _ hk;refine⟨⟨o,e,ex.1⟩,λa e2=>?_⟩;cases e2;exact⟨o,e,ex.2.1⟩
 |_=>exact False.elim ty
def tBM(K:aC)(T:String)(r:V->List V->Hp->VK->Prop)(to:TE)(t:TA):TE:=λσ H Q=>to σ H λx H1=>ZX K T x H1/\t σ H1 λxs H2=>r x xs H2 Q
variable {o e:Expr}{es:List Expr}{to:TE}{t:TA}{name:Str}{apos kc:Pos}{T id:String}{r:V->List V->Hp->VK->Prop}
def Vk (pa:PlainAttrs T) (slot:Slot T name id) (Ro:typeOf (.builtin id)=pure (.type "method_descriptor")) (hm:MtR X id r) (ho:PE X o to) (ha:PA X (e :: es) t)(FL:autoParam (DV o name X.env (dE o X.env)=dE o X.env) bv) (FP:autoParam (((backTo kc (g7 (e :: es) X.env)).all (λx=>!x.1) && (backToKw kc (E5 [] X.env)).all (λx=>x.1.isSome)
   && decide ((e :: es).length+([]:List AX).length+(if ([]:List AX).isEmpty then 0 else 1)<30))=true) bv)
  (hline:autoParam ((apos.endLine == kc.line)=true) bv) (hs:autoParam (aQ X e es) bv) (FR:autoParam (bR X kc es) bv) :
  PE X (.Call (.Attribute o name apos) (e :: es) [] kc) (tBM X.K T r to t):=by
 intro pins s σ H Q I h;refine wpAny_Call_method_late FL FP hline rfl (cp (ho pins s σ H _ I h) λv s1 dc=>?_);obtain⟨x,H1,I1,r1,ty,q1⟩:=dc;obtain⟨h1,h2⟩:=jd' I1 r1 ty;refine⟨T,id,pa,slot,Ro,h1,h2,?_⟩;have hA:=ha kc pins s1 σ H1 _ I1 q1;rw[hs] at hA ⊢;refine Calls.callWith_builtin (by show(false || (backTo kc (g7 es X.env)).any (·.1))=false;rw[FR]<;>rfl) (Calls.evalArgs_plain ?_);exact cp hA λus s2 ck=>L2.e9 ck λvs H2 I2 r2 q2=>hm pins s2 σ H2 x vs v us Q I2 r1 r2 q2
end
def MtM(X:Cx)(id:String)(r:V->List V->Hp->VK->Prop):Prop :=
 ∀ pins s σ H x xs v us Q,Inv X pins σ H s->RelV x v->Vals xs us->r x xs H Q ->
  aS (aE X.prog X.w) X.A (call (.builtin id) (v :: us)) (EP X pins σ Q) X.xe s
def Vals.one{x:V}{us:List ag}(h:Vals [x] us):∃ u,us=[u]/\RelV x u:=by cases h;rename_i r h;cases h;exact⟨_,rfl,‹_›⟩
def Vals.two{x y:V}{us:List ag}(h:Vals [x,y] us):∃ u v,us=[u,v]/\RelV x u/\RelV y v:=by cases h;rename_i r h;cases h;rename_i q h;cases h;exact⟨_,_,rfl,‹_›,‹_›⟩
theorem Vals.zero:∀ {us:List ag},Vals [] us->us=[]
 |_,.nil=>rfl
section
variable {X:Cx}{pins:List (ai × Obj)}{σ:St}{H:Hp}{s:aI}{l:ai}{xs ys:List V}
def Inv.cY'{its MX:List ag}{n:Nat}{f:Array ag->Array ag}{t':Nat}(I:Inv X pins σ H s)(hH:H l=some (.lst xs))(e:s.heap.get? l=some { cls:=.type "list",data:=.seq its.toArray n }) (hf:f its.toArray=MX.toArray) (hv:Vals ys MX) (hz:ys.length<=bG) :
  Inv X pins σ (upd H l (.lst ys)) { s with heap:=s.heap.update l (Obj.mapSeq f),toks:=t' }:=by
 have q:=PySem.IsL.update e f;rw[hf] at q;refine I.write (by rw[hH];exact trivial) (.inl rfl) (λb' u hb hu=>(D6 s.heap (Obj.mapSeq f) (Ne.symm hb)).trans hu) ⟨_,q⟩ ?_;exact⟨hz,MX,_,hv,q⟩
def Inv.ZY(I:Inv X pins σ H s)(hv:Vals ys its)(hz:ys.length<=bG) :
  Inv X pins σ (upd H s.heap.objs.size (.lst ys)) { s with heap:=s.heap.push { cls:=.type "list",data:=.seq its.toArray },toks:=t' } :=
 I.laid (λ_ _ q=>eL _ q) (cK _) ⟨hz,its,0,hv,ip _ rfl⟩
def Inv.fresh(I:Inv X pins σ H s):H s.heap.objs.size=none:=I.bP.fresh (cK _)
def Inv.cZ' (I:Inv X pins σ H s) (hH:H l=some (.lst xs)):xs.length<=bG/\∃ (its:List ag) (n:Nat),Vals xs its/\xs.length=its.length/\s.heap.get? l=some { cls:=.type "list",data:=.seq its.toArray n }:=by obtain⟨z,its,n,r,e⟩:=I.bP l _ hH;exact⟨z,its,n,r,r.length,e⟩
end
section
variable {X:Cx}
def ZZ:V->List V->Hp->VK->Prop:=λx vs H Q=>∃ l xs y,x=.ref l/\vs=[y]/\H l=some (.lst xs)/\xs.length<bG/\Q .non (upd H l (.lst (xs++[y])))
def Vl:MtM X "list.append" ZZ:=by intro pins s σ H x vs v us Q I rx rv h;obtain⟨l,xs,y,rfl,rfl,hH,hz,q⟩:=h;cases rx;obtain⟨u,rfl,ru⟩:=rv.one;obtain⟨z,its,n,r,hl,e⟩:=I.cZ' hH;refine call_meets F.slot_list_append ⟨_,e,rfl⟩ F.entry_list_append (F.args_list_append_2 _ _) (PySem.list_append l its.toArray n u (by rw[kA];lia)) ⟨e,?_⟩;refine⟨.non,_,I.cY' hH e (by simp) (r.append (.cons ru .nil)) ?_,rfl,q⟩;rw[mG,W9];lia
def len_rep{α:Type}(xs:List α)(k:Nat):(List.replicate k xs).flatten.length=k*xs.length:=by
 induction k with
 |zero=>simp
 |succ k ih=>rw[E9,IE,mG,ih,Nat.succ_mul,Sy]
end
section
set_option maxRecDepth 100000 in
end
section
variable {κ:Type}[DecidableEq κ]
def fS(kvs:List (κ × V))(k:κ):Option V:=(kvs.find? λkv=>decide (kv.1=k)).map (·.2)
def putK(kvs:List (κ × V))(k:κ)(v:V):List (κ × V) :=
 if (kvs.any λkv=>decide (kv.1=k))=true then kvs.map (λkv=>if kv.1=k then (kv.1,v) else kv) else kvs++[(k,v)]
def AB{p:κ × V}{r:List (κ × V)}{k:κ}(e:p.1=k):fS (p :: r) k=some p.2:=by simp[fS,D4,e]
def AF{p:κ × V}{r:List (κ × V)}{k:κ}(e:¬ p.1=k):fS (p :: r) k=fS r k:=by simp[fS,D4,e]
theorem Tf(k:κ):∀ kvs:List (κ × V),(kvs.any λkv=>decide (kv.1=k))=(fS kvs k).isSome
 |[]=>rfl
 |p :: r=>by
  rw[D5];by_cases e:p.1=k
  ·simp only[AB e,decide_eq_true e,Bool.true_or,Option.isSome_some]
  ·rw[AF e,decide_eq_false e,Bool.false_or];exact Tf k r
theorem da'(k j:κ)(y:V):∀ kvs:List (κ × V),fS (kvs.map λkv=>if kv.1=k then (kv.1,y) else kv) j=(fS kvs j).map λx=>if j=k then y else x
 |[]=>rfl
 |p :: r=>by
  have ih:=da' k j y r;rw[gL];by_cases h:p.1=k
  ·rw[if_pos h];by_cases e:p.1=j
   ·rw[AB (p:=(p.1,y)) e,AB e,SG,if_pos (e.symm.trans h)]
   ·rw[AF (p:=(p.1,y)) e,AF e,ih]
  ·rw[if_neg h];by_cases e:p.1=j
   ·rw[AB e,AB e,SG,if_neg (λz=>h (e.trans z))]
   ·rw[AF e,AF e,ih]
theorem db'(k j:κ)(y:V):∀ kvs:List (κ × V),fS kvs k=none->fS (kvs++[(k,y)]) j=if j=k then some y else fS kvs j
 |[],_=>by
  by_cases e:k=j
  ·rw[if_pos e.symm];exact AB e
  ·rw[if_neg (λz=>e z.symm)];exact AF e
 |p :: r,hn=>by
  rw[Ze];have hk:¬ p.1=k:=λz=>by rw[AB z] at hn;cases hn
  rw[AF hk] at hn;have ih:=db' k j y r hn;by_cases e:p.1=j
  ·rw[AB e,AB e,if_neg (λz=>hk (e.trans z))]
  ·rw[AF e,AF e,ih]
def jf'(kvs:List (κ × V))(k j:κ)(y:V):fS (putK kvs k y) j=if j=k then some y else fS kvs j:=by
 unfold putK;by_cases a:(kvs.any λkv=>decide (kv.1=k))=true
 ·rw[if_pos a,da'];rw[Tf] at a;by_cases e:j=k
  ·obtain⟨x,hx⟩:=Qr.mp a;rw[if_pos e,e,hx,SG,if_pos rfl]
  ·rw[if_neg e]
   cases fS kvs j with
   |none=>rfl
   |some x=>rw[SG,if_neg e]
 ·rw[if_neg a];refine db' k j y kvs ?_;rw[Tf] at a
  cases q:fS kvs k with
  |none=>rfl
  |some x=>rw[q] at a;exact(a rfl).elim
def Vm(kvs:List (κ × V))(k:κ)(v:V):(putK kvs k v).length<=kvs.length+1:=by
 unfold putK;split
 ·rw[b4];exact Nat.le_add_right _ _
 ·rw[mG,k8,UE];exact cK _
def pE.NF(r:pE o u):o.isSome=u.isSome:=by
 cases o with
 |none=>cases u with
  |none=>rfl
  |some _=>exact(r).elim
 |some _=>cases u with
  |none=>exact(r).elim
  |some _=>rfl
def pE.getD(r:pE o u)(rd:RelV d d'):RelV (o.getD d) (u.getD d'):=by
 cases o with
 |none=>cases u with
  |none=>exact rd
  |some _=>exact(r).elim
 |some _=>cases u with
  |none=>exact(r).elim
  |some _=>exact r
def KV.val{kvs:List (κ × V)}{vs:List (κ × ag)}(r:KV kvs vs)(k:κ):pE (fS kvs k) (valueAt vs k):=by
 induction r with
 |nil=>exact True.intro
 |@cons p q ps qs h t ih =>
  obtain⟨h1,h2⟩:=h;by_cases e:p.1=k
  ·have e':q.1=k:=h1.symm.trans e;have b:valueAt (q :: qs) k=some q.2:=by simp[valueAt,D4,e']
   rw[AB e,b];exact h2
  ·have e':¬ q.1=k:=λz=>e (h1.trans z);have b:valueAt (q :: qs) k=valueAt qs k:=by simp[valueAt,D4,e']
   rw[AF e,b];exact ih
def KV.any(r:KV kvs vs)(k:κ):(kvs.any λkv=>decide (kv.1=k))=vs.any λkv=>decide (kv.1=k):=by
 induction r with
 |nil=>rfl
 |cons h t ih=>rw[D5,D5,ih,h.1]
def KV.repl(r:KV kvs vs)(k:κ)(ry:RelV y u) :
  KV (kvs.map λkv=>if kv.1=k then (kv.1,y) else kv) (vs.map λkv=>if kv.1=k then (kv.1,u) else kv):=by
 induction r with
 |nil=>exact .nil
 |@cons p q ps qs h t ih =>
  rw[gL,gL];refine .cons ?_ ih;obtain⟨h1,h2⟩:=h;by_cases e:p.1=k
  ·rw[if_pos e,if_pos (h1.symm.trans e)];exact⟨h1,ry⟩
  ·rw[if_neg e,if_neg (λz=>e (h1.trans z))];exact⟨h1,h2⟩
def KV.put(r:KV kvs vs)(k:κ)(ry:RelV y u):KV (putK kvs k y) (stored vs k u):=by
 unfold putK stored;rw[r.any k];by_cases e:(vs.any λkv=>decide (kv.1=k))=true
 ·rw[if_pos e,if_pos e];exact r.repl k ry
 ·rw[if_neg e,if_neg e];exact Paired.snoc r ⟨rfl,ry⟩
def KV.length(r:KV kvs vs):kvs.length=vs.length:=Paired.length r
end
def JY{P:cf}(r:RelV (kV k) u):(iq P w).is k u=true:=by
 cases k with
 |inl i=>obtain⟨t,e⟩:=(r);subst e;exact fM' P w i t
 |inr x=>obtain⟨t,e⟩:=(r);subst e;exact fN' P w x t
theorem dc'{P:cf}:∀ {ks:List Key} {us:List ag},Vals (ks.map kV) us->ItemsAre (iq P w) ks us
 |[],_,r=>by rw[List.map_nil] at r;cases r;exact .nil
 |k :: ks,_,r=>by
  cases r with
  |cons h t=>exact .cons (JY h) (dc' t)
abbrev KT(H:Hp):List (List Key × V)->List (List Key × ai × ag)->Prop:=Paired λp q=>p.1=q.1/\H q.2.1=some (.tup (p.1.map kV))/\RelV p.2 q.2.2
def KT.val{H:Hp}{kvs:List (List Key × V)}{xs:List (List Key × ai × ag)}(r:KT H kvs xs)(k:List Key):pE (fS kvs k) ((atKey xs k).map (·.2)):=by
 induction r with
 |nil=>exact True.intro
 |@cons p q ps qs h t ih =>
  obtain⟨h1,_,h2⟩:=h;by_cases e:p.1=k
  ·have e':q.1=k:=h1.symm.trans e;have b:atKey (q :: qs) k=some q.2:=by simp[atKey,D4,e']
   rw[AB e,b];exact h2
  ·have e':¬ q.1=k:=λz=>e (h1.trans z);have b:atKey (q :: qs) k=atKey qs k:=by simp[atKey,D4,e']
   rw[AF e,b];exact ih
def KT.repl(r:KT H kvs xs)(k:List Key)(ry:RelV y u) :
  KT H (kvs.map λkv=>if kv.1=k then (kv.1,y) else kv) (xs.map (putAt k u)):=by
 induction r with
 |nil=>exact .nil
 |@cons p q ps qs h t ih =>
  rw[gL,gL];refine .cons ?_ ih;obtain⟨h1,h2,h3⟩:=h;unfold putAt;by_cases e:p.1=k
  ·rw[if_pos e,if_pos (h1.symm.trans e)];exact⟨h1,h2,ry⟩
  ·rw[if_neg e,if_neg (λz=>e (h1.trans z))];exact⟨h1,h2,h3⟩
def KT.put(r:KT H kvs xs)(k:List Key)(hb:H b=some (.tup (k.map kV)))(ry:RelV y u) :
  KT H (putK kvs k y) (storedH xs k b u):=by
 have e:(kvs.any λkv=>decide (kv.1=k))=(atKey xs k).isSome:=by rw[Tf,(r.val k).NF,SF]
 unfold putK storedH;rw[e];by_cases q:(atKey xs k).isSome=true
 ·rw[if_pos q,if_pos q];exact r.repl k ry
 ·rw[if_neg q,if_neg q];exact Paired.snoc r ⟨rfl,hb,ry⟩
def KT.keeps(r:KT H kvs xs)(ht:∀ b ys,H b=some (.tup ys)->H' b=some (.tup ys)):KT H' kvs xs :=
 Paired.UN r λ_ _ z=>⟨z.1,ht _ _ z.2.1,z.2.2⟩
section
variable {P:cf}{w:cw}{H:Hp}{h:df}{a:ai}
def NH(ok:kf P w H h)(e:Rd H a u):kz P w H h a u:=e.ok ok
def Kb(ok:kf P w H h)(e:Rd H a (.dK kvs)):kvs.length<=bG/\(a == mE)=false/\∃ vs,KV kvs vs/\h.DictOf (iq P w) a vs :=
 show kz P w H h a (.dK kvs) from NH ok e
def de'(ok:kf P w H h)(e:H a=some (.dK kvs)):kvs.length<=bG/\(a == mE)=false/\∃ vs,KV kvs vs/\h.DictOf (iq P w) a vs:=Kb ok (.inl e)
def Ki(ok:kf P w H h)(e:H a=some (.tup (ks.map kV))):(iL (iq P w)).is h ks a:=by
 obtain⟨_,its,r,o,h1,h2,n,h3⟩:=(ok a _ e)
 exact⟨o,its.toArray,n,h1,h2,h3,by simpa using dc' r⟩
def NJ(ok:kf P w H h)(e:Rd H a (.dT kvs)):kvs.length<=bG/\(a == mE)=false /\
  ∃ xs,KT H kvs xs/\h.DictOfH (iL (iq P w)) a xs:=by
 obtain⟨z,y,xs,r,o,es,ep,h1,h2,h3,h4,h5⟩:=(NH ok e)
 refine⟨z,y,xs,r,o,es,ep,h1,h2,h3,h4,λx hx=>?_,h5⟩;have all:∀ {l:List (List Key × V)} {m:List (List Key × ai × ag)},KT H l m->∀ x∈m,(iL (iq P w)).is h x.1 x.2.1:=by
  intro l m q
  induction q with
  |nil=>intro x hx;exact nomatch hx
  |@cons p q ps qs hq t ih =>
   intro x hx;rcases eu.mp hx with e|hx
   ·subst e;exact Ki ok (by rw[<- hq.1];exact hq.2.1)
   ·exact ih x hx
 exact all r x hx
def Tg(ok:kf P w H h)(e:H a=some (.dT kvs)):kvs.length<=bG/\(a == mE)=false /\
  ∃ xs,KT H kvs xs/\h.DictOfH (iL (iq P w)) a xs:=NJ ok (.inl e)
end
def r9(H:Hp)(a:ai)(y:V)(r:Option V):Prop :=
 (∃ kvs k,Rd H a (.dK kvs)/\y=kV k/\r=fS kvs k)\/∃ kvs k b,Rd H a (.dT kvs)/\y=.ref b/\H b=some (.tup (k.map kV))/\r=fS kvs k
def Kj(H:Hp)(a:ai)(y v:V)(H':Hp):Prop :=
 (∃ kvs k,H a=some (.dK kvs)/\y=kV k/\kvs.length<bG/\H'=upd H a (.dK (putK kvs k v))) \/
 ∃ kvs k b,H a=some (.dT kvs)/\y=.ref b/\H b=some (.tup (k.map kV))/\kvs.length<bG/\H'=upd H a (.dT (putK kvs k v))
def Kj.k{H:Hp}{a:ai}{kvs:List (Key × V)}{k:Key}{v:V}(e:H a=some (.dK kvs))(hl:kvs.length<bG):Kj H a (kV k) v (upd H a (.dK (putK kvs k v))):=.inl ⟨kvs,k,e,rfl,hl,rfl⟩
def Kj.t{H:Hp}{a b:ai}{kvs:List (List Key × V)}{k:List Key}{v:V}(e:H a=some (.dT kvs))(eb:H b=some (.tup (k.map kV)))(hl:kvs.length<bG) :
  Kj H a (.ref b) v (upd H a (.dT (putK kvs k v))):=.inr ⟨kvs,k,b,e,rfl,eb,hl,rfl⟩
section
variable {X:Cx}{pins:List (ai × Obj)}{σ:St}{H:Hp}{s:aI}{a:ai}{y v:V}{u r:ag}{o:Option V}{A:ft}{E:ag->aI->Prop}
def Inv.big(I:Inv X pins σ H s):mE<s.heap.objs.size:=by have h:iF<s.heap.objs.size:=(I.mod.glob.keeps I.bk).lt;exact Nat.lt_trans (by decide) h
def jg'(hu:A.units+1<fA)(I:Inv X pins σ H s)(g:r9 H a y (some v))(ry:RelV y u)(h:∀ w' s',Inv X pins σ H s'->RelV v w'->Q w' s') :
  aS (aE X.prog X.w) A (getItem (.ref a) u) Q E s:=by
 rcases g with⟨kvs,k,e,ey,l⟩|⟨kvs,k,b,e,ey,eb,l⟩
 ·subst ey;obtain⟨z,hd,vs,rel,dd⟩:=Kb I.bP e;obtain⟨w',hw,nK⟩:=pE.some_of (by rw[l];exact rel.val k);exact wpAny_getItem_of (JY ry) dd.mapOf hw (h w' _ (I.tok _) nK)
 ·subst ey;cases (ry);obtain⟨z,hd,xs,rel,dd⟩:=NJ I.bP e;obtain⟨w',hw,nK⟩:=pE.some_of (by rw[l];exact rel.val k);obtain⟨p,hp,hp2⟩:=MQ.mp hw;refine wpAny_getItem_heap (LM hu) (Ki I.bP eb) dd hp ?_;rw[hp2];exact h w' _ (I.tok _) nK
def ji'(hu:A.units+1<fA)(I:Inv X pins σ H s)(g:r9 H a y o)(ry:RelV y u)(h:∀ s',Inv X pins σ H s'->Q (.bool o.isSome) s') :
  aS (aE X.prog X.w) A (gI .In u (.ref a)) Q E s:=by
 rcases g with⟨kvs,k,e,ey,l⟩|⟨kvs,k,b,e,ey,eb,l⟩
 ·subst ey;obtain⟨z,hd,vs,rel,dd⟩:=Kb I.bP e;refine wpAny_in_of (JY ry) hd dd.mapOf ?_;rw[<- (rel.val k).NF,<- l];exact h _ (I.tok _)
 ·subst ey;cases (ry);obtain⟨z,hd,xs,rel,dd⟩:=NJ I.bP e;refine wpAny_in_heap (LM hu) (Ki I.bP eb) hd dd ?_;have q:=(rel.val k).NF;rw[SF] at q;rw[<- q,<- l];exact h _ (I.tok _)
def jj'(hu:A.units+1<fA)(I:Inv X pins σ H s)(g:r9 H a y o)(ry:RelV y u)(h:∀ s',Inv X pins σ H s'->Q (.bool (!o.isSome)) s') :
  aS (aE X.prog X.w) A (gI .NotIn u (.ref a)) Q E s:=by
 rcases g with⟨kvs,k,e,ey,l⟩|⟨kvs,k,b,e,ey,eb,l⟩
 ·subst ey;obtain⟨z,hd,vs,rel,dd⟩:=Kb I.bP e;refine wpAny_notIn_of (JY ry) hd dd.mapOf ?_;rw[<- (rel.val k).NF,<- l];exact h _ (I.tok _)
 ·subst ey;cases (ry);obtain⟨z,hd,xs,rel,dd⟩:=NJ I.bP e;refine wpAny_notIn_heap (LM hu) (Ki I.bP eb) hd dd ?_;have q:=(rel.val k).NF;rw[SF] at q;rw[<- q,<- l];exact h _ (I.tok _)
def Rp(I:Inv X pins σ H s)(mu:SK (H a))(hs:Heap.SameBut a s.heap h')(he:∃ q,h'.get? a=some q)(new:kz X.prog X.w (upd H a ob) h' a ob) :
  Inv X pins σ (upd H a ob) { s with heap:=h',toks:=t' } :=
 I.write mu (.inl rfl) (λb q hb z=>(hs.2 b hb).trans z) he new
def df'{P:cf}(z:kvs.length<=bG)(hd:(a == mE)=false)(rel:KV kvs vs)(dd:h'.DictOf (iq P w) a vs) :
  kz P w H' h' a (.dK kvs):=⟨z,hd,vs,rel,dd⟩
def jk'(hu:A.units+1<fA)(I:Inv X pins σ H s)(g:Kj H a y v H')(ry:RelV y u)(rv:RelV v r)(h:∀ s',Inv X pins σ H' s'->Q () s') :
  aS (aE X.prog X.w) A (setItem (.ref a) u r) Q E s:=by
 rcases g with⟨kvs,k,e,ey,l,eH⟩|⟨kvs,k,b,e,ey,eb,l,eH⟩
 ·subst ey eH;obtain⟨z,hd,vs,rel,dd⟩:=de' I.bP e;have hz:vs.length<=bG:=by rw[<- rel.length];exact z
  have hl:(putK kvs k v).length<=bG:=by have:=Vm kvs k v;lia
  refine wpAny_setItem_pairs (JY ry) dd λh' AG hs=>h _ ?_;have he:∃ q,h'.get? a=some q:=let ⟨q,_,_,hq,_⟩:=AG;⟨q,hq⟩
  exact Rp I (by rw[e];exact True.intro) hs he (df' hl hd (rel.put k rv) AG)
 ·subst ey eH;cases (ry);obtain⟨z,hd,xs,rel,dd⟩:=Tg I.bP e;have hz:xs.length<=bG:=by rw[<- Paired.length rel];exact z
  have hl:(putK kvs k v).length<=bG:=by have:=Vm kvs k v;lia
  refine wpAny_setItem_heap (LM hu) (Ki I.bP eb) dd λh' AG hs=>h _ ?_;obtain⟨q,es,ep,hq,h2,h3,h4,_,h5⟩:=AG;refine Rp I (by rw[e];exact True.intro) hs ⟨q,hq⟩ ⟨hl,hd,_,(rel.put k eb rv).keeps λc ys ec=>?_,q,es,ep,hq,h2,h3,h4,h5⟩;rw[b6 (Zx ec e (λz=>nomatch z))];exact ec
end
section
variable {X:Cx}{pins:List (ai × Obj)}{σ:St}{H:Hp}{s:aI}{a:ai}{kvs:List (Key × V)}{A:ft}{E:ag->aI->Prop}
def jl' (I:Inv X pins σ H s) (e:Rd H a (.dK kvs)) (h:∀ t s',Inv X pins σ H s'->Q (.int kvs.length t) s'):aS (aE X.prog X.w) A (call (.builtin "len") [.ref a]) Q E s:=by obtain⟨z,hd,vs,rel,dd⟩:=Kb I.bP e;refine call_len_dict hd dd (by rw[<- rel.length];rw[mB] at z;lia) ?_;rw[<- rel.length];exact h _ _ (I.tok _)
end
def Z0(i:Expr):Prop:=∀ ov iv,subscripted i false ov iv=operate [ov,iv] (getItem ov iv)
def jm'{T id:String}(hl:typeLookup (.type T) "__getitem__" = pure (some (.builtin id))) (hs:Z0 slice)(h:aS (aE prog w) A (dE value env) (λo fo=>aS (aE prog w) A (dE slice env) (λi zi=>zi.TypeIs o T/\aS (aE prog w) A (getItem o i) Q E zi) E fo) E s) :
  aS (aE prog w) A (dE (.Subscript value slice pos) env) Q E s:=by
 refine Subscript_ (oS h (λo fo h₁=>oS h₁ (λi zi Ti=>?_) λ_ _ x=>x) λ_ _ x=>x);obtain⟨hT,Ti⟩:=Ti;refine av ?_;refine av (LP hT hl ?_);have fin:aS (aE prog w) A (subscripted slice false o i) (λr dA=>aS (aE prog w) A (letTemporaryGo value o r >>= λ_=>pure r) Q E dA) E zi:=by rw[hs o i];exact wpAny_operating (oS Ti (λr dA Vn=>av (wpAny_letTemporaryGo (aT Vn))) λ_ _ x=>x)
 first
  |exact aT (av fin)
  |exact av (aT (av fin))
  |exact av fin
def jn' {X:Cx} (I:Inv X pins σ H s) (g:r9 H a y o):s.TypeIs (.ref a) "dict" := by
 rcases g with⟨kvs,k,e,_,_⟩|⟨kvs,k,b,e,_,_,_⟩
 ·obtain⟨_,_,vs,_,dd⟩:=Kb I.bP e;exact dd.typeIs
 ·obtain⟨_,_,xs,_,dd⟩:=NJ I.bP e;exact dd.typeIs
def jo'(td ty tv:TE):TS:=λD σ H=>tv σ H λv H1=>td σ H1 λx H2=>ty σ H2 λy H3=>∃ a H4,x=.ref a/\Kj H3 a y v H4/\D.nx σ H4
section
variable {X:Cx}{o i value:Expr}{pos pos':Pos}{td ty tv:TE}
def jp'(hu:X.A.units+1<fA)(ho:PE X o td)(hi:PE X i ty)(hv:PE X value tv)(hs:nS value (some (.Subscript o i pos')) pos.line X.env=pure false) :
  PS X (.Assign [.Subscript o i pos'] value pos) (jo' td ty tv):=by
 intro pins s σ H D I h;refine wpAny_Assign_Subscript (cp (hv pins s σ H _ I h) λr s1 ck=>L2.e9 ck λv H1 I1 rv q1=>cp (ho pins s1 σ H1 _ I1 q1) λu s2 ck=>L2.e9 ck λx H2 I2 rx q2=>cp (hi pins s2 σ H2 _ I2 q2) λiv s3 dc=>?_) hs;obtain⟨y,H3,I3,ry,a,H4,ex,g,q3⟩:=dc;subst ex;obtain rfl:u=Value.ref a:=rx;exact jk' hu I3 g ry rv λs4 I4=>⟨σ,H4,I4,q3⟩
end
def dg' {P:cf} (h:df) (hb:mE<h.objs.size):kz P w H (h.push { cls:=.type "dict",data:=.dict #[] }) h.objs.size (.dK []) :=
 ⟨f7 _,beq_eq_false_iff_ne.mpr (Ne.symm (fz hb)),[],.nil,Heap.DictOf.new h⟩
def jq' {P:cf} (h:df) (hb:mE<h.objs.size):kz P w H (h.push { cls:=.type "dict",data:=.dict #[] }) h.objs.size (.dT []) :=
 ⟨f7 _,beq_eq_false_iff_ne.mpr (Ne.symm (fz hb)),[],.nil,_,#[],0,ip _ rfl,⟨rfl,rfl,rfl⟩,rfl,rfl,mI⟩
def jr':TE:=λ_ H Q=>∀ p,H p=none->Q (.ref p) (upd H p (.dK []))
def js':TE:=λ_ H Q=>∀ p,H p=none->Q (.ref p) (upd H p (.dT []))
section
variable {X:Cx}{pos:Pos}
def jt':PE X (.Dict [] [] pos) jr':=λpins s σ H Q I h =>
 wpAny_Dict_empty ⟨.ref s.heap.objs.size,_,I.laid (λ_ _ q=>eL _ q) (cK _) (dg' s.heap I.big),rfl,h _ (I.bP.fresh (cK _))⟩
def ju':PE X (.Dict [] [] pos) js':=λpins s σ H Q I h =>
 wpAny_Dict_empty ⟨.ref s.heap.objs.size,_,I.laid (λ_ _ q=>eL _ q) (cK _) (jq' s.heap I.big),rfl,h _ (I.bP.fresh (cK _))⟩
end
def Z1:List (TE × TE)->St->Hp->(List (V × V)->Hp->Prop)->Prop
 |[],_,H,Q=>Q [] H
 | (tk,tv) :: r,σ,H,Q=>tk σ H λx H1=>tv σ H1 λy H2=>Z1 r σ H2 λps H3=>Q ((x,y) :: ps) H3
abbrev VV:List (V × V)->List (ag × ag)->Prop:=Paired λp q=>RelV p.1 q.1/\RelV p.2 q.2
def Vo(X:Cx)(pos:Pos)(keys:List (Option Expr))(values:List Expr)(NM:List (TE × TE)):Prop :=
 ∀ pins s σ H Q,Inv X pins σ H s->Z1 NM σ H Q ->
  aS (aE X.prog X.w) X.A (evalPairs (pairTrees keys values X.env pos)) (λvs s'=>∃ ps H',Inv X pins σ H' s'/\VV ps vs/\Q ps H') X.xe s
def jv'{X:Cx}:Vo X pos [] [] []:=λpins s σ H Q I h=>pairTrees_nil_walk ⟨[],H,I,.nil,h⟩
def jw'{X:Cx}(hk:PE X k tk)(hv:PE X v tv)(hr:Vo X pos ks vs NM) :
  Vo X pos (some k :: ks) (v :: vs) ((tk,tv) :: NM):=λpins s σ H Q I h =>
 pairTrees_cons_walk (cp (hk pins s σ H _ I h) λu s1 ck=>L2.e9 ck λx H1 I1 rx q1=>cp (hv pins s1 σ H1 _ I1 q1) λw2 s2 ck=>L2.e9 ck λy H2 I2 ry q2 =>
  cp (hr pins s2 σ H2 _ I2 q2) λws s3 ck=>L2.e9 ck λps H3 I3 rel q3=>⟨(x,y) :: ps,H3,I3,.cons ⟨rx,ry⟩ rel,q3⟩)
def Tj(kvs more:List (Key × V)):List (Key × V):=more.foldl (λacc kv=>putK acc kv.1 kv.2) kvs
def KV.merge:∀ {more:List (Key × V)} {rs:List (Key × ag)} {kvs:List (Key × V)} {vs:List (Key × ag)},KV more rs->KV kvs vs->KV (Tj kvs more) (merged vs rs):=by
 intro more rs kvs vs r
 induction r generalizing kvs vs with
 |nil=>intro q;exact q
 |@cons p q ps qs h t ih =>
  intro r0;have e:KV (putK kvs p.1 p.2) (stored vs q.1 q.2):=by have:=r0.put p.1 h.2;rw[<- h.1];exact this
  exact ih e
theorem dh':∀ (more kvs:List (Key × V)),(Tj kvs more).length<=kvs.length+more.length
 |[],kvs=>by show kvs.length<=kvs.length+0;lia
 |p :: r,kvs=>by have h1:=dh' r (putK kvs p.1 p.2);have h2:=Vm kvs p.1 p.2;show(Tj (putK kvs p.1 p.2) r).length<=_;rw[k8];lia
theorem di'{P:cf}:∀ {kvs:List (Key × V)} {ws:List (ag × ag)},VV (kvs.map λkv=>(kV kv.1,kv.2)) ws->∃ rs,Carries (iq P w) ws rs/\KV kvs rs
 |[],_,r=>by rw[List.map_nil] at r;cases r;exact⟨[],True.intro,.nil⟩
 |p :: kvs,_,r=>by
  cases r with
  |@cons a b as bs h t =>obtain⟨rs,c,q⟩:=di' t;obtain⟨b1,b2⟩:=b;exact⟨(p.1,b2) :: rs,⟨JY h.1,rfl,c⟩,.cons ⟨rfl,h.2⟩ q⟩
def jx'(NM:List (TE × TE)):TE:=λσ H Q=>∀ p,H p=none->Z1 NM σ (upd H p (.dK [])) λps H2=>H2 p=some (.dK [])/\∃ kvs:List (Key × V),ps=kvs.map (λkv=>(kV kv.1,kv.2))/\kvs.length<=15/\Q (.ref p) (upd H2 p (.dK (Tj [] kvs)))
def jy'{X:Cx}(h:Vo X pos keys values NM)(FT:keys.all (·.isSome)=true)(hl:keys.length=values.length)(h0:keys≠[])(h15:keys.length<=15):PE X (.Dict keys values pos) (jx' NM):=by
 intro pins s σ H Q I q;have hn:=I.bP.fresh (cK s.heap.objs.size);have I1:=I.laid (t':=s.toks) (λ_ _ q=>eL _ q) (cK _) (dg' s.heap I.big);refine wpAny_Dict_walk (knd:=iq X.prog X.w) FT hl h0 h15 (cp (h pins _ σ _ _ I1 (q _ hn)) λws s2 dc=>?_);obtain⟨ps,H2,I2,rel,e,kvs,ep,lk,q2⟩:=dc;subst ep;obtain⟨rs,c,rk⟩:=di' (P:=X.prog) (w:=X.w) rel;obtain⟨z,hd,vs0,r0,dd⟩:=de' I2.bP e;cases r0;refine⟨rs,c,dd,λh' AG hs=>⟨.ref s.heap.objs.size,_,?_,rfl,q2⟩⟩;have hz:(Tj [] kvs).length<=bG:=by have h1:=dh' kvs [];rw[UE] at h1;rw[mB];lia
 have he:∃ q,h'.get? s.heap.objs.size=some q:=let ⟨q,_,_,hq,_⟩:=AG;⟨q,hq⟩
 exact Rp I2 (by rw[e];exact True.intro) hs he (df' hz hd (rk.merge .nil) AG)
structure M2(X:Cx)(o:Expr)(m:Str)(apos:Pos)(e f:Expr)(kc:Pos):Prop where
 base:DV o m X.env (dE o X.env)=dE o X.env
 few:((backTo kc (g7 [e,f] X.env)).all (fun x=>!x.1) && (backToKw kc (E5 [] X.env)).all (fun x=>x.1.isSome)
  && decide (([e,f]:List Expr).length+([]:List AX).length+(if ([]:List AX).isEmpty then 0 else 1)<30))=true
 line:(apos.endLine == kc.line)=true
 trees:backTo kc (g7 [e,f] X.env)=[(false,dE e X.env),(false,dE f X.env)]
def Vp(H:Hp)(a:ai):Prop:=(∃ kvs,Rd H a (.dK kvs))\/∃ kvs,Rd H a (.dT kvs)
def dj'{X:Cx}(I:Inv X pins σ H s)(d:Vp H a) :
  s.TypeIs (.ref a) "dict"/\(∀ b,Value.ref a=.ref b->∃ ob,s.heap.get? b=some ob/\ob.dict=none)/\(a == mE)=false:=by
 rcases d with⟨kvs,e⟩|⟨kvs,e⟩
 ·obtain⟨_,hd,vs,_,dd⟩:=Kb I.bP e;refine⟨dd.typeIs,λb q=>?_,hd⟩;cases q;obtain⟨ob,_,_,h1,h2,_⟩:=dd;exact⟨ob,h1,h2.2.1⟩
 ·obtain⟨_,hd,xs,_,dd⟩:=NJ I.bP e;refine⟨dd.typeIs,λb q=>?_,hd⟩;cases q;obtain⟨ob,_,_,h1,h2,_⟩:=dd;exact⟨ob,h1,h2.2.1⟩
section
variable {X:Cx}{pins:List (ai × Obj)}{σ:St}{H:Hp}{s:aI}{a:ai}{y d:V}{u r:ag}{o:Option V}{A:ft}{E:ag->aI->Prop}
def jB'(hu:A.units+1<fA)(I:Inv X pins σ H s)(g:r9 H a y o)(ry:RelV y u)(rd:RelV d r)(h:∀ w' s',Inv X pins σ H s'->RelV (o.getD d) w'->Q w' s') :
  aS (aE X.prog X.w) A (call (.builtin "dict.get") [.ref a,u,r]) Q E s:=by
 rcases g with⟨kvs,k,e,ey,l⟩|⟨kvs,k,b,e,ey,eb,l⟩
 ·subst ey;obtain⟨z,hd,vs,rel,dd⟩:=Kb I.bP e;refine call_meetsIn PySem.F.slot_dict_get dd.typeIs PySem.F.entry_dict_get (PySem.F.args_dict_get_3 _ _ _) (meets_dict_get_default (iq X.prog X.w) a (JY ry) hd r) ⟨_,dd.mapOf,h _ _ (I.tok _) ?_⟩;rw[l];exact(rel.val k).getD rd
 ·subst ey;cases (ry);obtain⟨z,hd,xs,rel,dd⟩:=NJ I.bP e;refine call_meetsIn PySem.F.slot_dict_get dd.typeIs PySem.F.entry_dict_get (PySem.F.args_dict_get_3 _ _ _) (meetsH_dict_get_default (iL (iq X.prog X.w)) a b hd r) ⟨LM hu,k,xs,Ki I.bP eb,dd,h _ _ (I.tok _) ?_⟩;rw[l];exact(rel.val k).getD rd
end
def dk'(td ty tx:TE):TE:=λσ H Q=>td σ H λx H1=>∃ a,x=.ref a/\Vp H1 a/\ty σ H1 λy H2=>tx σ H2 λz H3=>∃ o,r9 H3 a y o/\Q (o.getD z) H3
section
variable {X:Cx}{o e f:Expr}{apos kc:Pos}{td ty tx:TE}
def jC' (hu:X.A.units+1<fA) (ho:PE X o td) (he:PE X e ty) (hf:PE X f tx) (m:M2 X o "get" apos e f kc):PE X (.Call (.Attribute o "get" apos) [e,f] [] kc) (dk' td ty tx):=by
 intro pins s σ H Q I h;refine wpAny_Call_method m.base m.few m.line PySem.F.plainAttrs_dict PySem.F.slot_dict_get PySem.F.type_dict_get (cp (ho pins s σ H _ I h) λu s1 dc=>?_);obtain⟨x,H1,I1,rx,a,ex,d,q1⟩:=dc;subst ex;obtain rfl:u=Value.ref a:=rx;obtain⟨t1,t2,_⟩:=dj' I1 d;refine⟨t1,t2,?_⟩;rw[m.trees];refine Calls.callWith_builtin rfl (Calls.evalArgs_plain (Calls.spliced_cons (cp (he pins s1 σ H1 _ I1 q1) λiv s2 ck=>L2.e9 ck λy H2 I2 ry q2 =>
  Calls.spliced_cons (cp (hf pins s2 σ H2 _ I2 q2) λfv s3 ⟨z,H3,I3,rz,ov,g,q3⟩=>Calls.spliced_nil ?_))))
 exact jB' hu I3 g ry rz λw' s4 I4 nK=>⟨_,H3,I4,nK,q3⟩
end
end L2
end
namespace Att
open PySem PySem.W PySem.Calls PyProof.Rows
def jD'{P:Params}:∀ (ns:List Int) (vs:List ag),WellAll P h vs (ns.map WData.int)->IntsAre vs ns:=by
 intro ns
 induction ns with
 |nil =>intro vs w;cases w;exact .nil
 |cons n ns ih =>
  intro vs w
  cases w with
  |cons a b =>cases a;exact .cons _ _ (ih _ b)
def jE'{l:OpenLaw}{n:Nat}(hn:l.most=some n){P:Params}{h:df}{args:List WData}{vals:List ag}(Kk:l.row.toRowW.claim.pre args=true) (Z2:WellAll P h vals args) :
  ∃ a vs ns,vals=[Value.ref a]/\args=[WData.list (ns.map WData.int)]/\h.get? a=some { cls:=.type "list",data:=.seq vs.toArray }/\IntsAre vs ns/\ns.length<=n:=by
 have Tn:WShape.hasAll [] args [.list .int]=true:=(pre_splitW Kk).1;have hc:l.pre.holds [] { args:=args }=true:=(pre_splitW Kk).2;obtain⟨d,r,rfl,h1,h2⟩:=hasAllW_cons Tn;obtain rfl:=hasAllW_nil h2;obtain⟨xs,rfl,h3⟩:=hasW_list h1;obtain⟨ns,rfl⟩:=items_int h3;have hlen:ns.length<=n:=by
  have h4:(WTm.not (.lt (.lit (.int n)) (.len (.arg 0)))).holds [] { args:=[.list (ns.map .int)] }=true:=by have h4:=(holds_andW hc).1;rw[hn] at h4;exact h4
  have h5:=condW_of h4 (w_not (w_lt w_lit (w_len_list (w_arg rfl))));refine Zh λq=>?_;first
   | (rw[decide_eq_true q'] at h5;exact absurd h5 (by decide))
   | (simp at h5;lia)
 cases Z2 with
 |cons w1 w2 =>
  cases w2
  cases w1 with
  |list ho FT=>exact⟨_,_,ns,rfl,rfl,ho,jD' ns _ FT,hlen⟩
def jF'(l:OpenLaw)(args:List WData):l.row.toRowW.claim.post args (.bool true) args=true :=
 postW_of (by first|rfl|decide|simp[WShape.has,WShape.arms,WShape.armsAll]) (w_eq_bool (w_res rfl) w_lit) rfl
def jG'{l:OpenLaw}{n:Nat}{q:cf}{loose:List Str}{XP:(Str->Option ag)->df->Prop}{YP:cw->df->Prop}{d:DefRec}(hn:l.most=some n) (To:d.params.defaults=[])(call:∀ (w:cw) (lh fo:aI) (mg mb:Str->Option ag) (fa:ai) (o:Obj) (pm cd doc:ag) (a:ai) (vs:List ag) (ns:List Int),
   Ground q loose [] XP w lh mg mb fo.heap->YP w fo.heap ->
   fo.heap.get? fa=some o->o.data=.func (docDef d.name d.params d.body d.scope pm cd doc)->fo.heap.CodeRec cd d.name->mg d.name=some (.ref fa) ->
   fo.heap.get? a=some { cls:=.type "list",data:=.seq vs.toArray }->IntsAre vs ns->ns.length<=n->fo.gens = #[] ->
   xA (aE l.prog w) callerA (.call (.ref fa) ⟨[.ref a],[]⟩) (λr s'=>r=.ok (.ret (.bool true))/\OldK fo.heap s'.heap/\s'.os=fo.os/\AllBare s'.gens) fo) :
  WalkO q loose XP YP l.row.toRowW d [] (λf vs=>PySem.call f vs):=by
 intro w lh fo mg mb G Y fa o pm cd doc dV kV ho hd tS hD Tp hg args vals as Kk hlay hrd Z2 CH;obtain rfl:dV=.none:=Dflts.none hD To;obtain rfl:kV=.none:=Dflts.noKw hD;obtain⟨a,vs,ns,rfl,rfl,Z3,hints,hlen⟩:=jE' hn Kk Z2;refine enter_call (codeAny_mono (call w lh fo mg mb fa o pm cd doc a vs ns G Y ho (fd_plain hd) tS Tp Z3 hints hlen hg) λr s' hq=>?_);obtain⟨rfl,h2,h3,h4⟩:=hq;exact⟨.inl ⟨.bool true,.bool true,[],rfl,λ_=>rfl,.bool true,jF' l _,λ_=>⟨List.Pairwise.nil,λ_ hm=>(nomatch hm)⟩⟩,h2,h3,h4⟩
end Att
section
open PySem PySem.Spec PyProof.Rows
namespace L2
theorem dm':∀ {vs:List ag} {ns:List Int},IntsAre vs ns->Vals (ns.map V.int) vs
 |_,_,.nil=>.nil
 |_,_,.cons n t h=>.cons ⟨t,rfl⟩ (dm' h)
def Only(H:Hp):Prop:=∀ b,H b=none\/∃ o xs,H b=some (.fR o (.lst xs))
def jH'{P:cf}{K:aC}(KX:K.In fo.heap) (hns:fo.heap.Ns iF mg) (hb:fo.heap.Ns builtinsNs mb) (Z4:∀ x:Str,x ≠ "__name__"->mb x=k7 x) (jI':fo.heap.NoLimit) (hg:fo.gens = #[])(ha:fo.heap.get? a=some { cls:=.type "list",data:=.seq vs.toArray }) (hi:IntsAre vs ns) (hl:ns.length<=bG) (hr:iN k callerA) (F:∀ base:df,K.In base->base.Ns iF mg->ki P w K mg base CX k fa fd [x] sp) (jJ':∀ (s:aI) (u:ag),BindsTo s fd ⟨[u],[]⟩ [(x,u)]) (JJ:∀ H:Hp,Only H->fe K H a (ns.map V.int)->sp [.ref a] H (λv _=>v=.bl true) λ_ _ _=>False) (Z5:∀ H e s',CX [] H fo (λ_ _ _=>False) e s'->False) :
  xA (aE P w) callerA (.call (.ref fa) ⟨[.ref a],[]⟩) (λr s'=>r=.ok (.ret (.bool true))/\OldK fo.heap s'.heap/\s'.os=fo.os/\AllBare s'.gens) fo:=by
 have rv:=dm' hi;have jK':=hi.length
 -- from an abstract heap in which nothing but the script may be tracked
 have core:∀ H:Hp,Only H->fe K H a (ns.map V.int)->kf P w H fo.heap->(∀ b,H b≠none->b=a)->(H a≠none->K.lookup a=none) ->
   xA (aE P w) callerA (.call (.ref fa) ⟨[.ref a],[]⟩) (λr s'=>r=.ok (.ret (.bool true))/\OldK fo.heap s'.heap/\s'.os=fo.os/\AllBare s'.gens) fo:=by
  intro H hO hS bP hA hK;have dp':∀ {b:ai} {o:Obj},fo.heap.get? b=some o->H b=none->(Fs fo.heap H).get? b=some o:=λe n=>fQ' e n;have S_:∀ {b:ai} {o:Obj} {es:Array DictEntry} {ep:Nat},fo.heap.get? b=some o->o.data=.dict es ep->H b=none:=λ{b o es ep} e d=>by
   cases q:H b with
   |none=>rfl
   |some u =>have e':b=a:=hA b (by rw[q];simp);subst e';rw[ha] at e;cases e;have d':Data.seq vs.toArray _=Data.dict es ep:=d;cases d'
  have Vq:∀ {b:ai} {m:Str->Option ag},fo.heap.Ns b m->(Fs fo.heap H).Ns b m:=λ{b m} ⟨o,es,ep,e,d,r⟩=>⟨o,es,ep,dp' e (S_ e d),d,r⟩
  have hKb:K.In (Fs fo.heap H):=λb o e=>dp' (KX b o e) (by
   cases q:H b with
   |none=>rfl
   |some u =>
    have e':b=a:=hA b (by rw[q];simp);subst e';rw[hK (by rw[q];simp)] at e;cases e)
  have hM:Mod K mg (Fs fo.heap H):=⟨hKb,Vq hns,⟨mb,Vq hb,Z4⟩,let ⟨mc,h1,h2⟩:=jI';⟨mc,Vq h1,h2⟩⟩
  have e0:Nw P w K mg (Fs fo.heap H) callerA [] fo H:=⟨rfl,hM,λb o e=>fR' e,IH (fP' _ _),trivial,λb hb=>absurd (show b∈([]:List ai) from hb) (by simp),bP,.of_eq hg⟩
  refine codeAny_mono ((F _ hKb (Vq hns)).run callerA [] fo H ⟨[.ref a],[]⟩ [.ref a] [.ref a] _ _ hr e0 (jJ' fo (.ref a)) (.cons rfl .nil) (JJ H hO hS)) λr s' h=>?_
  cases r with
  |error e=>exact(Z5 H e s' h).elim
  |ok fl =>
   cases fl with
   |next=>exact False.elim h
   |brk=>exact False.elim h
   |cont=>exact False.elim h
   |ret u =>
    obtain⟨v,H',os,bare,un,jL',r',q⟩:=h;have q':v=.bl true:=q;subst q';obtain rfl:u=Value.bool true:=r';refine⟨rfl,OldK.of_keep λb o e=>?_,os,bare⟩
    cases q:H b with
    |none=>exact un.keep b o e q (by intro z;exact absurd (show b∈([]:List ai) from z) (by simp)) (by simp)
    |some u =>
     rcases hO b with z|⟨ob,xs,z⟩
     ·rw[q] at z;cases z
     ·have z2:=un.Ct b ob _ z;obtain⟨e1,_⟩:=bP b _ z;obtain⟨e2,_⟩:=jL' b _ z2;rw[e] at e1;cases e1;exact e2
 cases hk:K.lookup a with
 |some o =>
  -- the script is one of the module's own objects
  have e:=KX a o hk;rw[ha] at e;cases e;refine core (λ_=>none) (λ_=>.inl rfl) (.inr ⟨_,vs.toArray,_,hk,rfl,rfl,rfl,by rw[kA,jK'];exact hl,by simpa using rv⟩) (λb u z=>by have z':none=some u:=z;cases z') (λb z=>absurd rfl z) λz=>absurd rfl z
 |none =>
  refine core (λb=>if b=a then some (.fR { cls:=.type "list",data:=.seq vs.toArray } (.lst (ns.map V.int))) else none) (λb=>?_) (.inl (.inr ⟨{ cls:=.type "list",data:=.seq vs.toArray },if_pos rfl⟩)) (λb u z=>?_) (λb z=>?_) λ_=>hk
  ·by_cases hb:b=a
   ·exact .inr ⟨_,_,if_pos hb⟩
   ·exact .inl (if_neg hb)
  ·by_cases hb:b=a
   ·have z':=(if_pos hb).symm.trans z;cases z';subst hb;exact⟨ha,by rw[b4];exact hl,vs,_,rv,ha⟩
   ·have z':=(if_neg hb).symm.trans z;cases z'
  ·by_cases hb:b=a
   ·exact hb
   ·exact absurd (if_neg hb) z
def jM'{l:W4}{n k:Nat}{q:cf}{loose:List Str}{XP:(Str->Option ag)->df->Prop}{YP:cw->df->Prop}{d:DefRec}{K:Params->aC}{CX:cw->Jn}{sp:cw->Sp}{x:Str}(hn:l.most=some n) (FE:n<=bG) (To:d.params.defaults=[]) (hr:iN k callerA)(hY:∀ (w:cw) (h:df),YP w h->(K w.params).In h)(F:∀ (w:cw) (mg:Str->Option ag) (fa:ai) (h:df),(K w.params).In h->h.Ns iF mg->mg d.name=some (.ref fa) ->
   ∃ fd:qE,(∀ (s:aI) (u:ag),BindsTo s fd ⟨[u],[]⟩ [(x,u)]) /\
    ∀ base:df,(K w.params).In base->base.Ns iF mg->ki l.prog w (K w.params) mg base (CX w) k fa fd [x] (sp w))
  (JJ:∀ (w:cw) (H:Hp) (a:ai) (ns:List Int),ns.length<=n->Only H->fe (K w.params) H a (ns.map V.int)->sp w [.ref a] H (λv _=>v=.bl true) λ_ _ _=>False)
  (Z5:∀ (w:cw) (H:Hp) (s:aI) (e:ag) (s':aI),CX w [] H s (λ_ _ _=>False) e s'->False) :
  PySem.W.WalkO q loose XP YP l.row.toRowW d [] (λf vs=>PySem.call f vs):=by
 refine Att.jG' hn To λw lh fo mg mb fa o pm cd doc a vs ns G Y ho hd tS Tp Z3 hints hlen hg=>?_;have KX:=hY w _ Y;obtain⟨fd,hb,hF⟩:=F w mg fa _ KX G.T.g Tp;exact jH' KX G.T.g G.T.b G.T.builtins G.T.nolimit hg Z3 hints (kE hlen FE) hr hF hb (λH hO hS=>JJ w H a ns hlen hO hS) λH e s'=>Z5 w H fo e s'
def wa(s:h8):Arguments:=match s with
 |.FunctionDef _ a _ _ _ _ _ _ _ _=>a
 |_=>{ posonlyargs:=[],args:=[],vararg:=none,kwonlyargs:=[],kw_defaults:=[],kwarg:=none,defaults:=[] }
def mP(s:h8):List h8:=match s with
 |.FunctionDef _ _ b _ _ _ _ _ _ _=>b
 |_=>[]
def eW(s:h8):lT:=match s with
 |.FunctionDef _ _ _ _ _ _ sc _ _ _=>sc
 |_=>{ kind:=.function,names:=[],isGenerator:=false,isCoroutine:=false }
abbrev iA:Jn:=λ_ _ _ _ _ _=>False
abbrev E0:XK:=λ_ _ _=>False
def Vr{X:Cx}:Passes iA X E0:=λ_ _ _ _ _ _ _ h=>h.elim
structure sM(K:aC)(x qual:Str)(st:h8)(f:ai)(fd:qE):Prop where
 ex:∃ (oc:ag) (od:Option ai) (kV doc pm:ag) (an:Option ai) (dk ct:ag) (EC:Array (Option ag)),
  fd=sD x qual (wa st) (mP st) (eW st) .none kV doc pm an dk ct/\K.lookup f=some ⟨oc,od,.func fd,EC⟩/\B4 K dk qual=true
 kp:xB K (.ref f)=true
section
variable {P:cf}{w:cw}{K:aC}{mg:Str->Option ag}{base:df}
def sM.ok{st:h8}{N ps:List Str}(F:sM K x qual st f fd)(S:A6 N ps (eW st))(len:∀ vs H Q E,sp vs H Q E->vs.length=ps.length)(CF:∀ (dk:ag) (A:ft) (outer:List Env) (s:aI) (H:Hp) (vs:List V) (Q:VK) (E:XK),iN k (A.deeper (pz qual (eW st) s.heap.objs.size f dk))->sp vs H Q E ->
   ∃ t,mh (rV iA P w K mg base N qual (eW st) f dk A outer s H E).tT (mP st) t/\t { nx:=λ_ H'=>Q .non H',rt:=Q } (start N vs) H):ki P w K mg base iA (k+1) f fd ps sp:=by
 obtain⟨oc,od,kV,doc,pm,an,dk,ct,EC,rfl,lk,tS⟩:=F.ex;refine iu' lk tS S len λA outer s H vs Q E hr JJ=>?_;obtain⟨t,h,q⟩:=CF dk A outer s H vs Q E hr JJ;exact⟨t,h.tT,q⟩
def sM.binds{st:h8}{ps:List Str}(F:sM K x qual st f fd)(h:∀ (kV doc pm:ag) (an:Option ai) (dk ct:ag) (us:List ag),us.length=ps.length->bindArgs (sD x qual (wa st) (mP st) (eW st) .none kV doc pm an dk ct) ⟨us,[]⟩=pure (ps.zip us)):Binds K fd ps []:=by
 obtain⟨oc,od,kV,doc,pm,an,dk,ct,EC,rfl,lk,tS⟩:=F.ex;exact .all (h kV doc pm an dk ct)
def NR{st:h8}{kV doc pm dk ct:ag}(l:K.lookup f=some ⟨oc,od,.func (sD x qual (wa st) (mP st) (eW st) .none kV doc pm an dk ct),EC⟩)(c:B4 K dk qual=true) (k:xB K (.ref f)=true):sM K x qual st f (sD x qual (wa st) (mP st) (eW st) .none kV doc pm an dk ct):=⟨⟨oc,od,kV,doc,pm,an,dk,ct,EC,rfl,l,c⟩,k⟩
end
section
variable {X:Cx}
def pv(i:Nat)(hN:autoParam (X.N[i]? = some x) bv)(hv:UR X.env.scope x:=by first|exact Or.inl rfl|exact Or.inr (Or.inl rfl)|exact Or.inr (Or.inr rfl))(hd:cM x:=by decide) (tS:(x == ("__classdict__" : Str))=false:=by decide):PE X (.Name x pos) (kg i):=SY hN hv hd tS
end
def bt(H H':Hp):Prop:=∀ b o,H b=some o->H' b=some o
def bt.refl(H:Hp):bt H H:=λ_ _ h=>h
def bt.trans(a:bt H H1)(b:bt H1 H2):bt H H2:=λc o h=>b c o (a c o h)
def bt.free(e:bt H H')(h:H' l=Option.none):H l=Option.none:=by
 cases q:H l with
 |none=>rfl
 |some o =>rw[e l o q] at h;cases h
def bt.seq{K:aC}(e:bt H H')(h:fe K H a xs):fe K H' a xs:=by
 rcases h with(h|⟨o,h⟩)|h
 ·exact .inl (.inl (e _ _ h))
 ·exact .inl (.inr ⟨o,e _ _ h⟩)
 ·exact .inr h
end L2
namespace L2
def sN(env:Env):List (Str × NameKind)->List (Str × ai)->List (Str × ai)
 |[],cs=>cs
 | (n,k) :: r,cs=>sN env r (if k == NameKind.free then (n,(env.cells.lookup n).getD 0) :: cs else cs)
def gj(env:Env):∀ names cs,(∀ y∈names,y.2=.free->∃ c,env.cells.lookup y.1=some c) -> (forIn names cs λx r=>match x with
   | (name,kind)=>if (kind == NameKind.free)=true then do let a <- cellOf env name;pure (ForInStep.yield ((name,a) :: r)) else pure (ForInStep.yield r):Sem (List (Str × ai)))=pure (sN env names cs)
 |[],cs,_=>rfl
 | (n,k) :: r,cs,h=>by
  rw[List.forIn_cons];have ih:=gj env r;by_cases hk:k=.free
  ·subst hk;obtain⟨c,e⟩:=h (n,.free) eh rfl;have e2:cellOf env n=pure c:=by unfold cellOf;rw[e]
   have e3:sN env ((n,.free) :: r) cs=sN env r ((n,c) :: cs):=by show sN env r (if (NameKind.free == NameKind.free)=true then (n,(env.cells.lookup n).getD 0) :: cs else cs)=_;rw[e];rfl
   rw[e3,<- ih ((n,c) :: cs) λy hy=>h y (eI _ hy)];simp only[beq_self_eq_true,if_true,e2];rfl
  ·have hb:(k == NameKind.free)=false:=by simpa using hk
   have e3:sN env ((n,k) :: r) cs=sN env r cs:=by show sN env r (if (k == NameKind.free)=true then _ else cs)=_;rw[hb];rfl
   rw[e3,<- ih cs λy hy=>h y (eI _ hy)];simp only[hb,xI,if_false];rfl
def oE(h:∀ y∈scope.names,y.2=.free->∃ c,env.cells.lookup y.1=some c):closureFor scope env=pure (sN env scope.names []):=by have:=gj env scope.names [] h;rw[<- bind_pure (forIn scope.names [] _)] at this;exact this
theorem nU:∀ {names} {cs},(∀ y∈names,y.2=.free->∃ c,env.cells.lookup y.1=some c)->(∀ y d,cs.lookup y=some d->env.cells.lookup y=some d) -> (sN env names cs).lookup x=some c->env.cells.lookup x=some c
 |[],cs,_,h,e=>h x c e
 | (n,k) :: r,cs,hf,h,e=>by
  refine nU (λy hy=>hf y (eI _ hy)) ?_ e;intro y d hd;by_cases hk:k=.free
  ·subst hk;obtain⟨c',e'⟩:=hf (n,.free) eh rfl;simp only[beq_self_eq_true,if_true,e',Option.getD_some,D3] at hd
   cases hb:y == n with
   |true=>rw[hb] at hd;have:y=n:=eq_of_beq hb;subst this;rw[e'];exact hd
   |false=>rw[hb] at hd;exact h y d hd
  ·have hb:(k == NameKind.free)=false:=by simpa using hk
   simp only[hb,xI,if_false] at hd;exact h y d hd
theorem jz:∀ {names} {cs},((x,NameKind.free)∈names\/∃ c,cs.lookup x=some c)->∃ c,(sN env names cs).lookup x=some c
 |[],cs,h=>by
  rcases h with h|h
  ·exact nomatch h
  ·exact h
 | (n,k) :: r,cs,h=>by
  refine jz (names:=r) ?_;rcases h with h|⟨c,h⟩
  ·rcases eu.mp h with e|h
   ·cases e;refine .inr ⟨(env.cells.lookup x).getD 0,?_⟩;simp only[beq_self_eq_true,if_true,D3]
   ·exact .inl h
  ·refine .inr ?_;by_cases hk:(k == NameKind.free)=true
   ·simp only[hk,if_true,D3]
    cases hb:x == n with
    |true=>exact⟨_,rfl⟩
    |false=>exact⟨c,h⟩
   ·simp only[hk,if_false];exact⟨c,h⟩
def b_(X:Cx)(scope:lT)(C:ai)(N:List Str)(fp:List ai)(dA:aI)(eJ:Hp):Cx :=
 { X with N:=N,lh:=dA,pS:=eJ,env:=compEnvC scope (sN X.env scope.names []) C X.env,outer:=X.stack,stack:=X.stack,ex:=fp,fn:=λ_=>false,pn:=[],xe:=λ_ _=>False }
def A9(X:Cx)(ifs:List Expr)(t:TT):Prop :=
 ∀ pins s σ H Q,Inv X pins σ H s->t σ H Q ->
  aS (aE X.prog X.w) X.A (forIn ifs true λc r=>if r=true then do let ok <- isTrue c X.env (dE c X.env);pure (ForInStep.yield ok) else pure (ForInStep.yield r)) (TP X pins σ Q) X.xe s
def jN':TT:=λ_ H Q=>Q true H
def Fv{X:Cx}:A9 X [] jN':=λ_ _ _ H _ I h=>wpAny_tests_nil ⟨H,I,h⟩
def E_{X:Cx}(h:PT X c t):A9 X [c] t:=λpins s σ H Q I hw=>wpAny_tests_one (h pins s σ H Q I hw)
def fK{R:Result->aI->Prop}(I:Nat->aI->Prop)(E:ag->aI->Prop)(turn:∀ n s,I n s->aS (aE prog w) A (pyNext it) (λr fo=>match r with
   |none=>R (.ok .next) fo
   |some v=>aS (aE prog w) A (letOwnedTupleGo target it v) (λ_ lh=>aS (aE prog w) A (assign target env v) (λ_ zi =>
     aS (aE prog w) A (forIn ifs true λc r=>if r=true then do let ok <- isTrue c env (dE c env);pure (ForInStep.yield ok) else pure (ForInStep.yield r)) (λok dA =>
      if ok=true then aS (aE prog w) A (dE elt env) (λx dr' =>
       aS (aE prog w) A (call (.builtin "list.append") [acc,x]) (λ_ ds'=>∃ m,m<n/\I m ds') E dr') E dA
      else ∃ m,m<n/\I m dA) E zi) E lh) E fo) E s)
  (hE:∀ e s',E e s'->notedBy (aE prog w) A env (λe s'=>R (.error e) s') e s')
  (n:Nat) (h:I n s) :
  xA (aE prog w) A (.compLoop (.ListComp elt [⟨target,iter,ifs,0⟩] scope pos) 0 it acc env) R s:=by
 refine codeAny_loop rfl I (λn s hI=>?_) n h;refine wpAny_noted ?_;refine oS ?_ (λ_ _ q=>q) hE;refine av (wpAny_standAt (av (oS (turn n s hI) (λr fo h₁=>?_) λ_ _ h'=>h')))
 cases r with
 |none=>exact aT h₁
 |some v =>
  refine av (oS h₁ (λ_ lh h₀=>?_) λ_ _ h'=>h');refine av (oS h₀ (λ_ zi Ti=>av (oS Ti (λok dA Vn=>?_) λ_ _ h'=>h')) λ_ _ h'=>h')
  cases ok with
  |false=>exact aT ⟨rfl,Vn⟩
  |true =>exact av (av (oS Vn (λx dr' jO'=>av (oS jO' (λ_ ds' jP'=>aT (aT ⟨rfl,jP'⟩)) λ_ _ h'=>h')) λ_ _ h'=>h'))
def qK(tn:Nat)(ix:List Nat)(σ:St):St:=List.replicate tn none++ix.map λj=>(σ[j]?).join
def wu(wi:TI)(g:TG)(tc:TT)(te:TE)(tn:Nat)(ix:List Nat):TE:=λσ H Q=>wi σ H λJ H1=>∀ D,H1 D=none ->
 ∃ W:Nat->Nat->St->Hp->Prop,(∃ m,W 0 m (qK tn ix σ) (upd H1 D (.lst [])))/\∀ i m τ H,W i m τ H -> (J.stop i H/\Q (.ref D) H)\/(J.go i H/\∃ (N1:St->V->Hp->Prop) (N2:St->Hp->Prop), (∀ EE v H4,N1 EE v H4->∃ ys m',H4 D=some (.lst ys)/\ys.length<bG/\m'<m/\W (i+1) m' EE (upd H4 D (.lst (ys++[v])))) /\ (∀ EE H3,N2 EE H3->∃ m',m'<m/\W (i+1) m' EE H3) /\
   ∀ x H',J.nE i H x H'->g x τ H' λEE H2=>tc EE H2 λb H3=>if b=true then te EE H3 (N1 EE) else N2 EE H3)
section
variable {X:Cx}{scope:lT}{tn cn:List Str}{ix:List Nat}
structure bN(X:Cx)(scope:lT)(tn cn:List Str)(ix:List Nat):Prop where
 kind:scope.kind=.function
 Z6:∀ y∈scope.names,y.2≠.cell
 free:∀ y∈scope.names,y.2=.free->X.env.scope.names.lookup y.1=some .cell\/X.env.scope.names.lookup y.1=some .free
 names:∀ y∈scope.names,y.2=.local->scope.names.lookup y.1=some .local
 len:ix.length=cn.length
 cap:∀ (k j:Nat),ix[k]? = some j->∃ y,cn[k]? = some y/\X.N[j]? = some y/\(X.env.scope.names.lookup y=some .cell\/X.env.scope.names.lookup y=some .free)/\(y,NameKind.free)∈scope.names /\
  ((relabel scope X.env).names.lookup y=some .cell\/(relabel scope X.env).names.lookup y=some .free)
 all:∀ x,(relabel scope X.env).names.lookup x=some .cell\/(relabel scope X.env).names.lookup x=some .free->(x,NameKind.free)∈scope.names
end
def Tq(scope:lT)(env:Env)(C:ai):List (Str × ai):=ot (C+1) scope.names (sN env scope.names [])
def zJ:∀ names n acc,(∀ y c,acc.lookup y=some c->c<n)->(∀ x y c,acc.lookup x=some c->acc.lookup y=some c->x=y) ->
  ∀ x y c,(ot n names acc).lookup x=some c->(ot n names acc).lookup y=some c->x=y
 |[],_,_,_,hi,x,y,c,h1,h2=>hi x y c h1 h2
 | (nm,k) :: r,n,acc,hb,hi,x,y,c,h1,h2=>by
  unfold ot at h1 h2;split at h1
  ·rename_i hk;rw[if_pos hk] at h2;refine zJ r (n+1) ((nm,n) :: acc) (λy c e=>?_) (λx y c e1 e2=>?_) x y c h1 h2
   ·rw[D3] at e
    cases hq:y == nm with
    |true=>rw[hq] at e;cases e;exact P9 _
    |false=>rw[hq] at e;exact AZ (hb y c e)
   ·rw[D3] at e1 e2
    cases hq:x == nm with
    |true =>
     rw[hq] at e1;cases e1
     cases hz:y == nm with
     |true=>rw[eq_of_beq hq,eq_of_beq hz]
     |false=>rw[hz] at e2;exact absurd (hb y _ e2) (xD _)
    |false =>
     rw[hq] at e1
     cases hz:y == nm with
     |true=>rw[hz] at e2;cases e2;exact absurd (hb x _ e1) (xD _)
     |false=>rw[hz] at e2;exact hi x y c e1 e2
  ·rename_i hk;rw[if_neg hk] at h2;exact zJ r n acc hb hi x y c h1 h2
theorem uw:∀ names n acc x,(x,NameKind.cell)∉names->(ot n names acc).lookup x=acc.lookup x
 |[],_,_,_,_=>rfl
 | (nm,k) :: r,n,acc,x,h=>by
  unfold ot;have hr:(x,NameKind.cell)∉r:=λz=>h (eI _ z);split
  ·rename_i hk;rw[uw r _ _ x hr,D3];have:(x == nm)=false:=by
    cases hq:x == nm with
    |false=>rfl
    |true=>exact absurd (by rw[eq_of_beq hq,<- eq_of_beq hk];exact eh) h
   rw[this]
  ·exact uw r n acc x hr
theorem Aw:∀ names n acc x c,(ot n names acc).lookup x=some c->n<=c\/acc.lookup x=some c
 |[],_,_,_,_,h=>.inr h
 | (nm,k) :: r,n,acc,x,c,h=>by
  unfold ot at h;split at h
  ·rcases Aw r (n+1) _ x c h with z|z
   ·exact .inl (by lia)
   ·rw[D3] at z
    cases hq:x == nm with
    |true=>rw[hq] at z;cases z;exact .inl (cK _)
    |false=>rw[hq] at z;exact .inr z
  ·exact Aw r n acc x c h
theorem rF:∀ names n acc x,(∃ c,acc.lookup x=some c)->∃ c,(ot n names acc).lookup x=some c
 |[],_,_,_,h=>h
 | (nm,k) :: r,n,acc,x,⟨c,h⟩=>by
  unfold ot;split
  ·refine rF r (n+1) _ x ?_;rw[D3]
   cases hq:x == nm with
   |true=>exact⟨_,rfl⟩
   |false=>exact⟨c,h⟩
  ·exact rF r n acc x ⟨c,h⟩
theorem vC:∀ names n acc x,(x,NameKind.cell)∈names->∃ c,(ot n names acc).lookup x=some c/\n<=c
 |[],_,_,_,h=>nomatch h
 | (nm,k) :: r,n,acc,x,h=>by
  unfold ot;by_cases hr:(x,NameKind.cell)∈r
  ·split
   ·obtain⟨c,e,z⟩:=vC r (n+1) ((nm,n) :: acc) x hr;exact⟨c,e,by lia⟩
   ·exact vC r n acc x hr
  ·rcases eu.mp h with e|z
   ·cases e;rw[if_pos (by rfl),uw r _ _ _ hr];exact⟨n,by simp[D3],cK _⟩
   ·exact absurd z hr
theorem jM:∀ names h acc,(∀ x c,acc.lookup x=some c->∃ v,h.IsCell c v)->∀ x c,(ot h.objs.size names acc).lookup x=some c->∃ v,(pushCells h names).IsCell c v
 |[],_,_,hc,x,c,e=>hc x c e
 | (nm,k) :: r,h,acc,hc,x,c,e=>by
  unfold pushCells;unfold ot at e;split at e
  ·rename_i hk;rw[if_pos hk];refine jM r (h.push { cls:=.type "cell",data:=.cell none }) ((nm,h.objs.size) :: acc) (λy d z=>?_) x c (by rw[My];exact e);rw[D3] at z
   cases hq:y == nm with
   |true=>rw[hq] at z;cases z;exact⟨none,_,ip _ rfl,rfl⟩
   |false =>rw[hq] at z;obtain⟨v,o,ho,hd⟩:=hc y d z;exact⟨v,o,eL _ ho,hd⟩
  ·rename_i hk;rw[if_neg hk];exact jM r h acc hc x c e
def cV (hc:∀ x c,cl.lookup x=some c->∃ v,s.heap.IsCell c v)(hQ:∀ h',h'.Ns s.heap.objs.size (λ_=>none)->(∀ b o,s.heap.get? b=some o->h'.get? b=some o)->(∀ x c,(ot (s.heap.objs.size+1) scope.names cl).lookup x=some c->∃ v,h'.IsCell c v) ->
   Q (newEnv scope s.heap.objs.size globals (ot (s.heap.objs.size+1) scope.names cl) qual none .none (some env) builtinsNs) { s with heap:=h' }) :
  aS M A (newFunctionEnv scope globals cl [] qual none .none (some env)) Q E s:=by
 simp only[newFunctionEnv,Option.isSome_some,if_true];refine av (wpAny_alloc ?_);refine av (wpAny_layCells _ (λname kind cells=>by cases hkc:kind == NameKind.cell<;>simp[hkc]) _ _ _ _ ?_);rw[show({ s with heap:=s.heap.push { cls:=.type "dict",data:=.dict #[] } }:aI).heap.objs.size=s.heap.objs.size+1 from My ..];refine av ?_;refine aT (aT (hQ _ ((Heap.Ns.new s.heap (.type "dict")).keeps (pushCells_keeps _ _)) (λb o e=>pushCells_keeps _ _ b o (eL _ e)) λx c e=>?_));refine jM scope.names (s.heap.push { cls:=.type "dict",data:=.dict #[] }) cl (λy d z=>?_) x c (by rw[My];exact e);obtain⟨v,o,ho,hd⟩:=hc y d z;exact⟨v,o,eL _ ho,hd⟩
def aO(X:Cx)(scope:lT)(C:ai)(N:List Str)(fp:List ai)(dA:aI)(eJ:Hp):Cx :=
 { X with N:=N,lh:=dA,pS:=eJ,env:=compEnvC scope (Tq scope X.env C) C X.env,outer:=X.stack,stack:=X.stack,ex:=fp,fn:=λx=>scope.names.lookup x == some .cell,pn:=[],xe:=λ_ _=>False }
section
variable {X:Cx}{tg iter elt:Expr}{ifs:List Expr}{scope:lT}{pos:Pos}{wi:TI}{g:TG}{tc:TT}{te:TE}{tn cn:List Str}{ix:List Nat}
structure cU(X:Cx)(scope:lT)(tn cn:List Str)(ix:List Nat):Prop where
 kind:scope.kind=.function
 free:∀ y∈scope.names,y.2=.free->X.env.scope.names.lookup y.1=some .cell\/X.env.scope.names.lookup y.1=some .free
 names:∀ y∈scope.names,y.2=.local->scope.names.lookup y.1=some .local
 len:ix.length=cn.length
 cap:∀ (k j:Nat),ix[k]? = some j->∃ y,cn[k]? = some y/\X.N[j]? = some y/\(X.env.scope.names.lookup y=some .cell\/X.env.scope.names.lookup y=some .free)/\(y,NameKind.free)∈scope.names /\
  ((relabel scope X.env).names.lookup y=some .cell\/(relabel scope X.env).names.lookup y=some .free)/\(y,NameKind.cell)∉scope.names
 all:∀ x,(relabel scope X.env).names.lookup x=some .cell\/(relabel scope X.env).names.lookup x=some .free->(x,NameKind.free)∈scope.names\/(x,NameKind.cell)∈scope.names
def v8(O:cU X scope tn cn ix)(I:Inv X pins σ H s)(hf:∀ b∈fp,zk X pins H b)(hfs:∀ b∈fp,b<s.heap.objs.size)(hC:s.heap.objs.size<=C) : (aO X scope C (tn++cn) fp s H).Ok:=by
 have NS:∀ y∈scope.names,y.2=.free->∃ c,X.env.cells.lookup y.1=some c:=λy hy hk=>I.ok.has y.1 (O.free y hy hk);have sub:∀ x c,(sN X.env scope.names []).lookup x=some c->X.env.cells.lookup x=some c:=λx c e=>nU NS (λy d h=>by simp at h) e;have clt:∀ x c,(sN X.env scope.names []).lookup x=some c->c<C+1:=λx c e=>by obtain⟨v,hv⟩:=I.cell x c (sub x c e);exact AZ (qS hv.lt hC)
 refine⟨I.ok.mod,O.kind,I.ok.glob,I.ok.blt,hC,zJ _ _ _ clt λx y c h1 h2=>I.ok.inj x y c (sub x c h1) (sub y c h2),λx hx=>?_,λx c h e=>?_,I.ok.hd,I.ok.frames,.inl rfl,λb hb=>⟨?_,λx c e=>?_⟩,
  I.bs,kE I.ok.Fu I.sz,λb o e hb=>?_,λb hb=>?_,I.stack,I.bS'⟩
 ·rcases O.all x hx with z|z
  ·exact rF _ _ _ _ (jz (.inl z))
  ·obtain⟨c,e,_⟩:=vC scope.names (C+1) (sN X.env scope.names []) x z;exact⟨c,e⟩
 ·have h:scope.names.lookup x=some .cell:=eq_of_beq h;obtain⟨c',e',z⟩:=vC scope.names (C+1) (sN X.env scope.names []) x (PySem.mem_of_lookup h);have e:(Tq scope X.env C).lookup x=some c:=e;unfold Tq at e;rw[e'] at e;cases e;exact kE hC (Zj z)
 ·exact fz (qS (hfs b hb) hC)
 ·rcases Aw _ _ _ _ _ e with z|z
  ·exact MD (qS (hfs b hb) (kE hC (Zj z)))
  ·exact(hf b hb).2.2.2.2.1 x c (sub x c z)
 ·rcases (hf b hb).2.2.2.1 with z|z
  ·exact I.ok.SQ b o e z
  ·exact absurd (qS (e8 e) (kE I.ok.Fu z)) (xD _)
 ·intro hz;rcases eu.mp (I.Zy b hz) with e|e
  ·exact(hf b hb).2.1 e
  ·exact(hf b hb).2.2.1 e
def qD{P:ag->aI->Prop}(hc:X.calm=true)(hi:PI X tg iter wi)(O:cU X scope tn cn ix)(hg:∀ C fp dA eJ,PG (aO X scope C (tn++cn) fp dA eJ) tg g) (sL:∀ C fp dA eJ,A9 (aO X scope C (tn++cn) fp dA eJ) ifs tc) (he:∀ C fp dA eJ,PE (aO X scope C (tn++cn) fp dA eJ) elt te)(hs:∀ x,BU iter X.env x=pure x) (I:Inv X pins σ H s) (h:wu wi g tc te tn.length ix σ H Q)(fin:∀ (C D:ai) m H5 s6 r,Inv X pins σ H5 s6->s6.heap.Ns C m->H5 C=none->zk X pins H5 C->Q (.ref D) H5->compPost (aE X.prog X.w) X.A X.xe use P (.ref D) C (.ok r) s6) :
  aS (aE X.prog X.w) X.A (comprehension (.ListComp elt [⟨tg,iter,ifs,0⟩] scope pos) scope X.env du' (newList []) false (dE iter X.env) use) P X.xe s:=by
 have NS:∀ y∈scope.names,y.2=.free->∃ c,X.env.cells.lookup y.1=some c:=λy hy hk=>I.ok.has y.1 (O.free y hy hk);have sub:∀ x c,(sN X.env scope.names []).lookup x=some c->X.env.cells.lookup x=some c:=λx c e=>nU NS (λy d h=>by simp at h) e;refine wpAny_comprehension_free rfl hs (oE NS) O.kind O.names (cp (hi pins s σ H _ I h) λv s1 h1=>cp h1 λZG s2 h2=>?_);obtain⟨it,fp,Vs,J,H2,e,I2,T,A3,f2,h2⟩:=h2;subst e;obtain⟨W,⟨m0,w0⟩,turn⟩:=h2 s2.heap.objs.size (I2.bP.fresh (cK _));refine tm ?_;have I3:Inv X pins σ (upd H2 s2.heap.objs.size (.lst [])) { s2 with heap:=s2.heap.push { cls:=.type "list",data:=.seq ([]:List ag).toArray } }:=I2.ZY .nil (f7 _);generalize hD:s2.heap.objs.size=D at *
 generalize Z7:({ s2 with heap:=s2.heap.push { cls:=.type "list",data:=.seq ([]:List ag).toArray } }:aI)=s3 at *
 have k23:∀ b o,s2.heap.get? b=some o->s3.heap.get? b=some o:=λb o e=>by rw[<- Z7];exact eL _ e
 have f3:∀ b∈fp,zk X pins (upd H2 D (.lst [])) b:=λb hb=>by obtain⟨f0,fr⟩:=f2 b hb;obtain⟨o,ho,_⟩:=T.obj _ _ A3 b hb;refine⟨?_,fr⟩;rw[b6 (fz (by rw[<- hD];exact e8 ho))];exact f0
 have A4:Vs 0 s3.heap:=T.keep _ _ _ A3 λb hb o e=>k23 b o e;have lt3:∀ b∈fp,b<s3.heap.objs.size:=λb hb=>by obtain⟨o,ho,_⟩:=T.obj _ _ A4 b hb;exact e8 ho
 refine cV (λx c e=>I3.cell x c (sub x c e)) (λh₁ jU' Rq Z8=>?_)
 -- the block's context
 have Bi:=v8 O I3 f3 lt3 (cK _);have I4:Inv (aO X scope s3.heap.objs.size (tn++cn) fp s3 (upd H2 D (.lst []))) [] (qK tn.length ix σ) (upd H2 D (.lst [])) { s3 with heap:=h₁ }:=by
  refine⟨Bi,rfl,I3.bare,Un.kept Rq,⟨_,jU',λi x v e1 e2 e3=>?_⟩,λx c e=>?_,I3.bP.fresh (cK _),λx c e=>(Aw _ _ _ _ _ e).elim (λz=>I3.bP.fresh (Zj z)) λz=>I3.AA x c (sub x c z),λp hp=>absurd hp (by simp[aO]),I3.bP.kept Rq,?_⟩
  ·have kX:tn.length<=i:=by
    by_cases q:i<tn.length
    ·unfold qK at e2;rw[IC (by simpa using q),List.getElem?_replicate] at e2;simp[q] at e2
    ·lia
   unfold qK at e2;rw[B5 (by simpa using kX),List.length_replicate,g9] at e2;have e1:(tn++cn)[i]? = some x:=e1;rw[B5 kX] at e1
   cases q:ix[i-tn.length]? with
   |none=>rw[q] at e2;cases e2
   |some j =>
    rw[q] at e2;obtain⟨y,c1,c2,c3,c4,c5,c6⟩:=O.cap _ _ q;rw[c1] at e1;cases e1;have e2:σ[j]?.join=some v:=Option.some.inj e2;have ej:σ[j]? = some (some v):=by
     cases z:σ[j]? with
     |none=>rw[z] at e2;cases e2
     |some o=>rw[z] at e2;exact congrArg some e2
    obtain⟨m,hn,hl⟩:=I3.loc;obtain⟨u,r,l⟩:=hl j x v c2 ej (c3.elim (λz=>.inr (.inl z)) λz=>.inr (.inr z));refine⟨u,r,.inr ⟨c5,?_⟩⟩;rcases l with⟨hk,_⟩|⟨hk,c,UY,Z8⟩
    ·have hk:X.env.scope.names.lookup x=some .local:=hk;rcases c3 with z|z
     ·rw[z] at hk;cases hk
     ·rw[z] at hk;cases hk
    ·obtain⟨c',SX⟩:=jz (Or.inl c4);have:=sub x c' SX;rw[UY] at this;cases this;obtain⟨o,ho,hd⟩:=Z8;exact⟨c,(uw _ _ _ _ c6).trans SX,o,Rq _ _ ho,hd⟩
  ·exact Z8 x c e
  ·show(qK tn.length ix σ).length=(tn++cn).length;unfold qK;simp[O.len]
 -- from the block back to the body
 have back:∀ {τ} {H'} {s'},Inv (aO X scope s3.heap.objs.size (tn++cn) fp s3 (upd H2 D (.lst []))) [] τ H' s'->Inv X pins σ H' s':=λ{τ H' s'} I' =>
  Inv.fX' I3 I'.os I'.base I'.bP I'.bare λb hb=>by obtain⟨_,f1,_,f3',f4,f5⟩:=f3 b hb;exact⟨f3',f1,f4,f5⟩
 have Z9:∀ {H'},(∀ b∈fp,H' b=none)->∀ b∈fp,zk (aO X scope s3.heap.objs.size (tn++cn) fp s3 (upd H2 D (.lst []))) [] H' b:=λhn b hb =>
  ⟨hn b hb,(Bi.UU b hb).1,Bi.SV b hb,.inl hb,(Bi.UU b hb).2,λp hp=>absurd hp (by simp[aO])⟩
 have loop:∀ s4:aI,Inv (aO X scope s3.heap.objs.size (tn++cn) fp s3 (upd H2 D (.lst []))) [] (qK tn.length ix σ) (upd H2 D (.lst [])) s4->Vs 0 s4.heap ->
   xA (aE X.prog X.w) X.A (.compLoop (.ListComp elt [⟨tg,iter,ifs,0⟩] scope pos) 0 (.ref it) (.ref D) (compEnvC scope (Tq scope X.env s3.heap.objs.size) s3.heap.objs.size X.env)) (compPost (aE X.prog X.w) X.A X.xe use P (.ref D) s3.heap.objs.size) s4:=by
  intro s4 I4 CL;refine fK (λn s'=>∃ i τ H',Inv (aO X scope s3.heap.objs.size (tn++cn) fp s3 (upd H2 D (.lst []))) [] τ H' s'/\Vs i s'.heap/\(∀ b∈fp,H' b=none)/\W i n τ H') (λ_ _=>False) ?_ (λ_ _ z=>z.elim) m0 ⟨0,_,_,I4,CL,λb hb=>(f3 b hb).1,w0⟩
  rintro n s5 ⟨i,τ,H5,I5,MY,U9,w5⟩;rcases turn i n τ H5 w5 with⟨stop,qn⟩|⟨go,N1,N2,hN1,Z_,step⟩
  ·refine cp (T.done (aO X scope s3.heap.objs.size (tn++cn) fp s3 (upd H2 D (.lst []))) rfl rfl rfl hc i [] s5 τ H5 (λ_ _=>False) I5 (Z9 U9) MY stop) λr s6 dc=>?_;obtain⟨hr,I6⟩:=dc;subst hr;have J6:=back I6;obtain⟨m,hn,_⟩:=I6.loc;exact fin _ D m H5 s6 _ J6 hn I6.free (I3.I0 (cK _) I6.free) qn
  ·refine cp (T.item (aO X scope s3.heap.objs.size (tn++cn) fp s3 (upd H2 D (.lst []))) rfl rfl rfl hc i [] s5 τ H5 (λ_ _=>False) I5 (Z9 U9) MY go) λr s6 dc=>?_;obtain⟨u,hr,h6⟩:=dc;subst hr;refine cp h6 λ_ s7 dc=>?_;obtain⟨x,H7,I7,r7,y7,st7,fr7⟩:=dc;have I7':=I7.pinned (Z9 fr7) (T.obj _ _ st7);refine cp (hg _ _ _ _ _ s7 τ H7 x u _ I7' r7 (step x H7 y7)) λ_ s8 dc=>?_;obtain⟨Rr,H8,I8,q8⟩:=dc;refine cp (sL _ _ _ _ _ s8 Rr H8 _ I8 q8) λok s9 dc=>?_;obtain⟨H9,I9,q9⟩:=dc;have again:∀ {s'} {H'} {m'},Inv (aO X scope s3.heap.objs.size (tn++cn) fp s3 (upd H2 D (.lst []))) ([]++S6 fp s7.heap) Rr H' s'->m'<n->W (i+1) m' Rr H' ->
     ∃ m,m<n/\∃ i τ H',Inv (aO X scope s3.heap.objs.size (tn++cn) fp s3 (upd H2 D (.lst []))) [] τ H' s'/\Vs i s'.heap/\(∀ b∈fp,H' b=none)/\W i m τ H':=λ{s' H' m'} J hm w'=>by
    refine⟨m',hm,i+1,Rr,H',J.U8,T.keep _ _ _ st7 λb hb o e=>(J.pin (b,o) (lI _ (lI _ (U7 hb e)))).1,λb hb=>?_,w'⟩;obtain⟨o,e,d⟩:=T.obj _ _ st7 b hb;exact(J.pin (b,o) (lI _ (lI _ (U7 hb e)))).2.1
   cases ok with
   |false =>obtain⟨m',hm,w'⟩:=Z_ _ _ q9;exact again I9 hm w'
   |true =>refine cp (he _ _ _ _ _ s9 Rr H9 _ I9 q9) λx9 s10 ck=>L2.e9 ck λv10 H10 I10 r10 q10=>?_;obtain⟨ys,m',hH,hz,hm,w'⟩:=hN1 _ _ _ q10;refine cp (Vl _ s10 Rr H10 (.ref D) [v10] (.ref D) [x9] (λ_ H'=>H'=upd H10 D (.lst (ys++[v10]))) I10 rfl (.cons r10 .nil) ⟨D,ys,v10,rfl,rfl,hH,hz,rfl⟩) λ_ s11 ck=>L2.e9 ck λ_ H11 I11 _ q11=>?_;subst q11;exact again I11 hm w'
 exact codeAny_compStart_list (loop _ I4 (T.keep _ _ _ A4 λb hb o e=>Rq b o e)) (T.self _ 0 _ _ _ (T.keep _ _ _ A4 λb hb o e=>Rq b o e) (loop _ I4 (T.keep _ _ _ A4 λb hb o e=>Rq b o e)))
def uo(hc:X.calm=true)(hi:PI X tg iter wi)(O:cU X scope tn cn ix)(hg:∀ C fp dA eJ,PG (aO X scope C (tn++cn) fp dA eJ) tg g) (sL:∀ C fp dA eJ,A9 (aO X scope C (tn++cn) fp dA eJ) ifs tc) (he:∀ C fp dA eJ,PE (aO X scope C (tn++cn) fp dA eJ) elt te)(hs:∀ x,BU iter X.env x=pure x:=by intro _;rfl):PE X (.ListComp elt [⟨tg,iter,ifs,0⟩] scope pos) (wu wi g tc te tn.length ix):=by
 intro pins s σ H Q I h;exact qD hc hi O hg sL he hs I h λC D m H5 s6 r J6 hn hf ⟨_,g1,_,g3,g4,g5⟩ qn=>⟨m,hn,λh' Vt=>⟨.ref D,H5,J6.turned (λb o hb e=>Vt.extBut b o hb e) hf g1 g3 g4 g5,rfl,qn⟩⟩
theorem zr:∀ (names:List (Str × NameKind)) (n:Nat) (acc:List (Str × ai)),(∀ y∈names,y.2≠.cell)->ot n names acc=acc
 |[],_,_,_=>rfl
 | (nm,k) :: r,n,acc,h=>by unfold ot;rw[if_neg λz=>h (nm,k) eh (eq_of_beq z)];exact zr r n acc λy hy=>h y (eI _ hy)
def mC(O:bN X scope tn cn ix)(C:ai)(N:List Str)(fp:List ai)(s:aI)(H:Hp):aO X scope C N fp s H=b_ X scope C N fp s H:=by
 unfold aO b_ Tq;rw[zr _ _ _ O.Z6];have:(λx=>scope.names.lookup x == some NameKind.cell)=λ_=>false:=by
  funext x
  cases e:scope.names.lookup x with
  |none=>rfl
  |some k =>have:=O.Z6 _ (PySem.mem_of_lookup e);cases k<;>simp_all
 rw[this]
def vf(O:bN X scope tn cn ix):cU X scope tn cn ix :=
 ⟨O.kind,O.free,O.names,O.len,λk j h=>by
  obtain⟨y,a,b,c,d,e⟩:=O.cap k j h;exact⟨y,a,b,c,d,e,λz=>O.Z6 _ z rfl⟩,λx h=>.inl (O.all x h)⟩
def Ci{du':Pos}{use:Option (ag->Sem Unit)}{P:ag->aI->Prop}(hc:X.calm=true)(hi:PI X tg iter wi)(O:bN X scope tn cn ix)(hg:∀ C fp dA eJ,PG (b_ X scope C (tn++cn) fp dA eJ) tg g) (sL:∀ C fp dA eJ,A9 (b_ X scope C (tn++cn) fp dA eJ) ifs tc) (he:∀ C fp dA eJ,PE (b_ X scope C (tn++cn) fp dA eJ) elt te)(hs:∀ x,BU iter X.env x=pure x) {pins:List (ai × Obj)} {s:aI} {σ:St} {H:Hp} {Q:V->Hp->Prop} (I:Inv X pins σ H s) (h:wu wi g tc te tn.length ix σ H Q)(fin:∀ (C D:ai) (m:Str->Option ag) (H5:Hp) (s6:aI) (r:Flow),Inv X pins σ H5 s6->s6.heap.Ns C m->H5 C=none->zk X pins H5 C->Q (.ref D) H5->compPost (aE X.prog X.w) X.A X.xe use P (.ref D) C (.ok r) s6) :
  aS (aE X.prog X.w) X.A (comprehension (.ListComp elt [⟨tg,iter,ifs,0⟩] scope pos) scope X.env du' (newList []) false (dE iter X.env) use) P X.xe s :=
 qD hc hi (vf O) (λC fp dA eJ=>by rw[mC O];exact hg C fp dA eJ) (λC fp dA eJ=>by rw[mC O];exact sL C fp dA eJ) (λC fp dA eJ=>by rw[mC O];exact he C fp dA eJ) hs I h fin
def FQ(hc:X.calm=true)(hi:PI X tg iter wi)(O:bN X scope tn cn ix)(hg:∀ C fp dA eJ,PG (b_ X scope C (tn++cn) fp dA eJ) tg g) (sL:∀ C fp dA eJ,A9 (b_ X scope C (tn++cn) fp dA eJ) ifs tc) (he:∀ C fp dA eJ,PE (b_ X scope C (tn++cn) fp dA eJ) elt te)(hs:∀ x,BU iter X.env x=pure x:=by intro _;rfl):PE X (.ListComp elt [⟨tg,iter,ifs,0⟩] scope pos) (wu wi g tc te tn.length ix) :=
 uo hc hi (vf O) (λC fp dA eJ=>by rw[mC O];exact hg C fp dA eJ) (λC fp dA eJ=>by rw[mC O];exact sL C fp dA eJ) (λC fp dA eJ=>by rw[mC O];exact he C fp dA eJ) hs
def vM{i:Nat}{x:Str}{pos' Vu:Pos}(hN:X.N.Nodup)(FU:X.N[i]? = some x)(hx:Loc X.env.scope x)(hc:X.calm=true)(hi:PI X tg iter wi)(O:bN X scope tn cn ix)(hg:∀ C fp dA eJ,PG (b_ X scope C (tn++cn) fp dA eJ) tg g) (sL:∀ C fp dA eJ,A9 (b_ X scope C (tn++cn) fp dA eJ) ifs tc) (he:∀ C fp dA eJ,PE (b_ X scope C (tn++cn) fp dA eJ) elt te)(hsw:nS (.ListComp elt [⟨tg,iter,ifs,0⟩] scope pos) (some (.Name x pos')) Vu.line X.env=pure true)(hs:∀ x,BU iter X.env x=pure x:=by intro _;rfl) (hf:lD X x:=by first|exact .inl rfl|exact .inr rfl|assumption) :
  PS X (.Assign [.Name x pos'] (.ListComp elt [⟨tg,iter,ifs,0⟩] scope pos) Vu) (cj' (wu wi g tc te tn.length ix) (ZD i)):=by
 intro pins s σ H D0 I h;rw[exec_Assign_Name_used _ _ _ _ hsw];refine av (wpAny_standAt (av ?_));show aS _ _ (do let _ <- comprehension (.ListComp elt [⟨tg,iter,ifs,0⟩] scope pos) scope X.env _ (newList []) false (dE iter X.env) (some (assign (.Name x pos') X.env))) _ _ s;refine av (oS (Ci (use:=some (assign (.Name x pos') X.env)) (P:=λ_ s'=>SP X pins D0 .next s') hc hi O hg sL he hs I h λC D m H5 s6 r J6 hn hfr ⟨_,g1,_,g3,g4,g5⟩ qn=>?_) (λ_ s' hq=>aT (aT hq)) λ_ _ e=>e);refine(show aS _ _ (assign (.Name x pos') X.env (.ref D)) _ _ s6 from wpAny_assign_Name (bW' J6 hN FU hx (v:=.ref D) rfl (λs7 I7 dc=>?_) hf));obtain⟨a,sb,ha⟩:=dc;have hCa:C≠a:=by
  rcases ha with rfl|ha
  ·exact g1
  ·exact Ne.symm (g4 _ a ha)
 refine⟨m,hn.sameBut sb hCa,λh' Vt=>⟨_,H5,?_,qn⟩⟩;exact I7.turned (t':=s7.toks) (λb o hb e=>Vt.extBut b o hb e) hfr g1 g3 g4 g5
end
def Rt (a b:String):Bool:=a == b || (a == "bool" && b == "int")
def ac' (b:String):Bool:=["str", "int", "bool", "list", "tuple", "dict"].contains b
def i_ (K:aC) (a b:String) (ha:a∈["NoneType", "bool", "int", "str", "list", "tuple", "dict"]) (hb:b∈["str", "int", "bool", "list", "tuple", "dict"]):PySem.W.kitOne K (.type a) (.type b)=some (Rt a b):=by simp only[eu,vw,or_false] at ha hb;rcases ha with rfl|rfl|rfl|rfl|rfl|rfl|rfl<;>rcases hb with rfl|rfl|rfl|rfl|rfl|rfl<;>kernel_rfl
section
variable {X:Cx}
def dP.imp(h:dP X f r)(hi:∀ x y H Q,r' x y H Q->r x y H Q):dP X f r' :=
 λpins s σ H x y v u Q I rx ry q=>h pins s σ H x y v u Q I rx ry (hi x y H Q q)
def Nr(K:aC):R2:=λx y H Q=>∃ l b xs zs,x=.ref l/\y=.ref b/\fe K H l xs/\fe K H b zs/\xs.length+zs.length<=bG/\∀ p,H p=none->Q (.ref p) (upd H p (.lst (xs++zs)))
def Hj:dP X (nV .Add) (Nr X.K):=by
 walk_at"b";obtain⟨l,b,xs,zs,rfl,rfl,hH,hB,hz,q⟩:=h;cases rx;cases ry;obtain⟨its,r,pl,z⟩:=I.list hH;obtain⟨Vg,r2,pl2,z2⟩:=I.list hB;have hl:=r.length;have Kx:=r2.length;obtain⟨⟨cls,dd,data,sl⟩,ho,hc,n,hd⟩:=id pl.isList;obtain⟨⟨iz',NC,data2,Ve⟩,FH,ZS,n2,hd2⟩:=id pl2.isList;subst hc hd ZS hd2;have ea:its.toArray++Vg.toArray=(its++Vg).toArray:=by simp
 refine concat_meets ⟨_,ho,rfl⟩ ⟨_,FH,rfl⟩ noFill_list_add seq_list_add PySem.F.slot_list_add PySem.F.entry_list_add (PySem.F.args_list_add_2 _ _) (list_addW l b its.toArray Vg.toArray n n2 dd NC sl Ve (by simp only[kA];lia)) ⟨ho,FH,?_⟩;rw[ea];exact⟨.ref _,_,I.ZY (r.append r2) (by rw[mG];lia),rfl,q _ I.fresh⟩
def Af(K:aC):R2:=λx y H Q=>match x,y with
 |.int i,.int j=>Q (.int (i+j)) H
 |.str i,.str j=>i.length+j.length<=bG/\Q (.str (i++j)) H
 |.ref a,.ref b=>∃ xs zs,fe K H a xs/\fe K H b zs/\xs.length+zs.length<=bG/\∀ p,H p=none->Q (.ref p) (upd H p (.lst (xs++zs)))
 |_,_=>False
def HH:dP X (nV .Add) (Af X.K):=by
 refine(gV'.or (hM'.or Hj)).imp λx y H Q h=>?_;unfold Af at h;split at h
 ·exact .inl ⟨_,_,rfl,rfl,h⟩
 ·exact .inr (.inl ⟨_,_,rfl,rfl,h.1,h.2⟩)
 ·obtain⟨xs,zs,h1,h2,h3,h4⟩:=h;exact .inr (.inr ⟨_,_,xs,zs,rfl,rfl,h1,h2,h3,h4⟩)
 ·exact h.elim
def Hq:R2:=λx y H Q=>match x,y with
 |.int i,.int j=>Q (.int (i-j)) H
 |_,_=>False
def GJ:dP X (nV .Sub) Hq:=gW'.imp λx y H Q h=>by
 unfold Hq at h;split at h
 ·exact⟨_,_,rfl,rfl,h⟩
 ·exact h.elim
def Gv:R2:=λx y H Q=>match x,y with
 |.int i,.int j=>M0 i j/\Q (.int (i*j)) H
 |_,_=>False
def HR:dP X (nV .Mult) Gv:=gX'.imp λx y H Q h=>by
 unfold Gv at h;split at h
 ·exact⟨_,_,rfl,rfl,h.1,h.2⟩
 ·exact h.elim
def Gx:R2:=λx y H Q=>match x,y with
 |.int i,.int j=>(0<j/\j<1073741824)/\Q (.int (i / j)) H
 |_,_=>False
def Ik:dP X (nV .FloorDiv) Gx:=gY'.imp λx y H Q h=>by
 unfold Gx at h;split at h
 ·exact⟨_,_,rfl,rfl,h.1,h.2⟩
 ·exact h.elim
def Ew:R2:=λx y H Q=>match x,y with
 |.int i,.int j=>0<j/\Q (.int (i % j)) H
 |_,_=>False
def Fd:dP X (nV .Mod) Ew:=gZ'.imp λx y H Q h=>by
 unfold Ew at h;split at h
 ·exact⟨_,_,rfl,rfl,h.1,h.2⟩
 ·exact h.elim
def x2(x y:Str):Bool:=decide (x.cps.toList<y.cps.toList)
def ad':R2:=λx y H Q=>match x,y with
 |.int i,.int j=>Q (.bl (decide (i<j))) H
 |.str i,.str j=>Q (.bl (x2 i j)) H
 |_,_=>False
def nj:dP X (gI .Lt) ad':=(hw'.or hA').imp λx y H Q h=>by
 unfold ad' at h;split at h
 ·exact .inl ⟨_,_,rfl,rfl,h⟩
 ·exact .inr ⟨_,_,rfl,rfl,h⟩
 ·exact h.elim
def zU:dP X (gI .LtE) (λx y H Q=>∃ i j,x=.str i/\y=.str j/\Q (.bl (!x2 j i)) H):=by intro pins s σ H x y v u Q I rx ry h;obtain⟨i,j,rfl,rfl,q⟩:=h;obtain⟨t,rfl⟩:=rx;obtain⟨t',rfl⟩:=ry;exact PySem.P.le_str ⟨.bl _,H,I,rfl,q⟩
def ae':R2:=λx y H Q=>match x,y with
 |.int i,.int j=>Q (.bl (decide (i<=j))) H
 |.str i,.str j=>Q (.bl (!x2 j i)) H
 |_,_=>False
def iT:dP X (gI .LtE) ae':=(hx'.or zU).imp λx y H Q h=>by
 unfold ae' at h;split at h
 ·exact .inl ⟨_,_,rfl,rfl,h⟩
 ·exact .inr ⟨_,_,rfl,rfl,h⟩
 ·exact h.elim
def af':R2:=λx y H Q=>match x,y with
 |.int i,.int j=>Q (.bl (decide (j<i))) H
 |_,_=>False
def Dr:dP X (gI .Gt) af':=hy'.imp λx y H Q h=>by
 unfold af' at h;split at h
 ·exact⟨_,_,rfl,rfl,h⟩
 ·exact h.elim
def Inv.rd(I:Inv X pins σ H s)(e:Rd H a u):kz X.prog X.w H s.heap a u:=e.elim (I.bP a _) λ⟨o,e⟩=>(I.bP a _ e).2
def Vv(K:aC):List V->Hp->VK->Prop:=λxs H Q=>match xs with
 |[.str y]=>y.length<=bG/\Q (.int y.length) H
 |[.ref p]=>(∃ ys,fe K H p ys/\Q (.int ys.length) H)\/(∃ ys,kL K H p ys/\Q (.int ys.length) H)\/∃ kvs,Rd H p (.dK kvs)/\Q (.int kvs.length) H
 |_=>False
def xM:kM X (.builtin "len") (Vv X.K):=by
 intro pins s σ H xs us Q I r h;unfold Vv at h;split at h
 ·exact Va pins s σ H _ us Q I r ⟨_,_,rfl,⟨h.1,rfl⟩,h.2⟩
 ·rcases h with⟨ys,h1,h2⟩|⟨ys,h1,h2⟩|⟨kvs,h1,h2⟩
  ·exact Va pins s σ H _ us Q I r ⟨_,_,rfl,.inl ⟨ys,h1,rfl⟩,h2⟩
  ·exact Va pins s σ H _ us Q I r ⟨_,_,rfl,.inr ⟨ys,h1,rfl⟩,h2⟩
  ·obtain⟨u,rfl,ru⟩:=vals1 r;cases ru;exact jl' I h1 λt s' I'=>⟨.int kvs.length,H,I',⟨t,rfl⟩,h2⟩
 ·exact h.elim
def ag'(K:aC):R2:=λx y H Q=>match x,y with
 |.ref p,.int i=>(∃ xs v,fe K H p xs/\gi xs i=some v/\Q v H)\/∃ xs v,kL K H p xs/\gi xs i=some v/\Q v H
 |.str z,.int i=>z.length<=bG/\∃ c,gi z.cps.toList i=some c/\Q (.str ⟨#[c]⟩) H
 |_,_=>False
def Jl:A8 X (ag' X.K):=by
 intro value slice pins s σ H x y v u Q I rx ry h hs;refine iT' value slice pins s σ H x y v u Q I rx ry ?_ hs;unfold ag' at h;split at h
 ·rcases h with⟨xs,w,h1,h2,h3⟩|⟨xs,w,h1,h2,h3⟩
  ·exact .inl ⟨_,xs,_,w,rfl,rfl,h1,h2,h3⟩
  ·exact .inr (.inl ⟨_,xs,_,w,rfl,rfl,h1,h2,h3⟩)
 ·obtain⟨h1,c,h2,h3⟩:=h;exact .inr (.inr ⟨_,_,c,rfl,rfl,h1,h2,h3⟩)
 ·exact h.elim
def zo(z:Str)(lo hi:Option Int):Str:=⟨((z.cps.toList.drop (HT.cS z.length 0 lo)).take (HT.cS z.length z.length hi-HT.cS z.length 0 lo)).toArray⟩
end
def za(l:List Nat)(lo hi:Option Int)(h:((l.drop (HT.cS l.length 0 lo)).take (HT.cS l.length l.length hi-HT.cS l.length 0 lo)).length=l.length) : (l.drop (HT.cS l.length 0 lo)).take (HT.cS l.length l.length hi-HT.cS l.length 0 lo)=l:=by
 generalize HT.cS l.length 0 lo=a at *
 by_cases hl:l.length=0
 ·have:l=[]:=LZ.mp hl;subst this;simp
 ·rw[lP,IG] at h;have h1:a=0:=by lia
  subst h1;rw[List.drop_zero];exact L4 (by lia)
def zL(lo hi:Option Int)(n:Nat):Builtin.Str.strSliceIndices lo hi 1 n=(List.range (HT.cS n n hi-HT.cS n 0 lo)).map (HT.cS n 0 lo + ·):=by
 have e1:(match lo with|none=>0|some i=>max 0 (min (if i<0 then i+n else i) n))=((HT.cS n 0 lo:Nat):Int):=by
  cases lo with
  |none=>simp[HT.cS]
  |some i =>
   simp only[HT.cS];by_cases h:i<0
   ·simp only[h,if_true]<;>lia
   ·simp only[h,if_false]<;>lia
 have e2:(match hi with|none=>n|some i=>max 0 (min (if i<0 then i+n else i) n))=((HT.cS n n hi:Nat):Int):=by
  cases hi with
  |none=>simp[HT.cS]
  |some i =>
   simp only[HT.cS];by_cases h:i<0
   ·simp only[h,if_true]<;>lia
   ·simp only[h,if_false]<;>lia
 rw[<- sliceRange_one,<- e1,<- e2];cases lo<;>cases hi<;>rfl
section
variable {X:Cx}
def part_of(h:IsPart v o):∃ p:Option (Int × Tok),v=partValue p/\p.map (·.1)=o:=by
 cases h with
 |none=>exact⟨none,rfl,rfl⟩
 |int i t=>exact⟨some (i,t),rfl,rfl⟩
def ah'(K:aC):V->Option Int->Option Int->Hp->VK->Prop:=λx lo hi H Q=>match x with
 |.str z=>z.length<=bG/\Q (.str (zo z lo hi)) H
 |.ref a=>∃ xs,fe K H a xs/\∀ p,H p=none->Q (.ref p) (upd H p (.lst (ND xs lo hi)))
 |_=>False
def Ka:Rn X (λx lo hi H Q=>∃ z,x=.str z/\z.length<=bG/\Q (.str (zo z lo hi)) H):=by
 intro pins s σ H x v vl vu lo hi sl Q I rx hs pl pu h;obtain⟨z,rfl,hz,q⟩:=h;obtain⟨t,rfl⟩:=rx;obtain⟨p1,rfl,e1⟩:=part_of pl;obtain⟨p2,rfl,e2⟩:=part_of pu;refine⟨"str",_,F.slot_str_getitem.lookup,typeIs_str s z t,wpAny_getItem_str_slice (st:=none) hs rfl ?_⟩;have hl:z.cps.toList.length=z.length:=by simp[Str.length]
 have ep:slicePicked z p1 p2 none=(List.range (HT.cS z.length z.length hi-HT.cS z.length 0 lo)).map (HT.cS z.length 0 lo + ·):=by unfold slicePicked;rw[e1,e2];exact zL lo hi z.length
 have ef:(slicePicked z p1 p2 none).filterMap (z.cps[·]?)=(z.cps.toList.drop (HT.cS z.length 0 lo)).take (HT.cS z.length z.length hi-HT.cS z.length 0 lo):=by rw[ep];exact pick_run z.cps _ _
 unfold sliceMade;split
 ·rename_i hc;have hw:(slicePicked z p1 p2 none).length=z.length:=by simpa using hc
  have:zo z lo hi=z:=by
   unfold zo;have e3:((z.cps.toList.drop (HT.cS z.cps.toList.length 0 lo)).take (HT.cS z.cps.toList.length z.cps.toList.length hi-HT.cS z.cps.toList.length 0 lo)).length=z.cps.toList.length:=by
    rw[hl,lP,IG,hl];rw[ep,b4,Sr] at hw;have h1:HT.cS z.length z.length hi<=z.length:=by
     cases hi with
     |none=>simp[HT.cS]
     |some i=>simp only[HT.cS];split<;>lia
    lia
   have:=za z.cps.toList lo hi e3;rw[hl] at this;rw[this]
  rw[this] at q;exact⟨.str z,H,I,⟨t,rfl⟩,q⟩
 ·rw[ef];exact⟨by
   show(zo z lo hi).length<=bG;unfold zo Str.length;simp only[kA,lP,IG,hl];lia,⟨.str (zo z lo hi),H,I.tok _,⟨_,rfl⟩,q⟩⟩
def JQ:Rn X (ah' X.K):=by
 intro pins s σ H x v vl vu lo hi sl Q I rx hs pl pu h;unfold ah' at h;split at h
 ·exact Ka pins s σ H _ v vl vu lo hi sl Q I rx hs pl pu ⟨_,rfl,h.1,h.2⟩
 ·obtain⟨xs,h1,h2⟩:=h;exact iX' pins s σ H _ v vl vu lo hi sl Q I rx hs pl pu ⟨_,xs,rfl,h1,h2⟩
 ·exact h.elim
def Ts(z:Str):It:=⟨λi _=>i<z.cps.size,λi H x H'=>H'=H/\∃ c,z.cps[i]? = some c/\x=.str ⟨#[c]⟩,λi _=>z.cps.size<=i⟩
def uF {P:cf} {K:aC} (Ro:ty = "str_ascii_iterator"\/ty = "str_iterator") :
  Turn P w K tg (Ts z) [it] it (λi h=>h.IsStrIter it ty z t i/\i<=z.cps.size) where
 mem:=by simp
 obj:=λi h st b hb=>by
  have e:b=it:=by simpa using hb
  subst e;obtain⟨⟨o,e,c,d⟩,_⟩:=st;exact⟨o,e,λv z=>by rw[d] at z;cases z⟩
 keep:=λi h h' st k=>let ⟨⟨o,e,c,d⟩,l⟩:=st;⟨⟨o,k it (by simp) o e,c,d⟩,l⟩
 item:=by
  intro X hP hw hK hc i pins s σ H E I hf st hg;subst hP hw hK;obtain⟨f0,f1,f2,f3,f4,f5⟩:=hf it (by simp);obtain⟨st,_⟩:=st;have hg:i<z.cps.size:=hg;have W:Walks X.prog X.w X.A it [it] [it] z.cps.size (SignAt z) (λi h=>h.IsStrIter it ty z t i):=by
   rcases Ro with rfl|rfl
   ·exact Walks.strAscii (I.ok.hd hc) it z t
   ·exact Walks.strWide (I.ok.hd hc) it z t
  refine W.item i s _ _ hg st λv h' tk hv aw kk=>?_;obtain⟨c,u,ec,rfl⟩:=hv;have I1:Inv X pins σ H { s with heap:=h',toks:=tk }:=I.turned (λb o hb e=>kk b o (by simpa using hb) e) f0 f1 f3 f4 f5;obtain⟨o,e,c',d⟩:=id aw;exact⟨_,rfl,QY (s:={ s with heap:=h',toks:=tk }) e c' d (by rcases Ro with rfl|rfl<;>decide) ⟨.str ⟨#[c]⟩,H,I1,⟨u,rfl⟩,⟨rfl,c,ec,rfl⟩,⟨aw,hg⟩,λb hb=>(hf b hb).1⟩⟩
 done:=by
  intro X hP hw hK hc i pins s σ H E I hf st hg;subst hP hw hK;obtain⟨f0,f1,f2,f3,f4,f5⟩:=hf it (by simp);obtain⟨st,hle⟩:=st;have hg:z.cps.size<=i:=hg;have e:i=z.cps.size:=Nat.le_antisymm hle hg;subst e;have W:Walks X.prog X.w X.A it [it] [it] z.cps.size (SignAt z) (λi h=>h.IsStrIter it ty z t i):=by
   rcases Ro with rfl|rfl
   ·exact Walks.strAscii (I.ok.hd hc) it z t
   ·exact Walks.strWide (I.ok.hd hc) it z t
  exact W.done s _ _ st λh' tk kk=>⟨rfl,I.turned (λb o hb e=>kk b o (by simpa using hb) e) f0 f1 f3 f4 f5⟩
 self:=λA i s Q E st h=>by
  rcases Ro with rfl|rfl
  ·exact wpAny_pyIter_striter_ascii st.1 h
  ·exact wpAny_pyIter_striter_wide st.1 h
def Ke(hl:PE X l tl):PI X tg l (λσ H R=>tl σ H λx H1=>∃ z,x=.str z/\R (Ts z) H1):=by
 intro pins s σ H R I h;refine cp (hl pins s σ H _ I h) λv s1 ck=>L2.e9 ck λx H1 I1 r1 q1=>?_;obtain⟨z,rfl,q⟩:=q1;obtain⟨t,rfl⟩:=r1;have fp:∀ b∈[s1.heap.objs.size],zk X pins H1 b:=λb hb=>by
  have e:b=s1.heap.objs.size:=by simpa using hb
  subst e;exact I1.I0 (cK _) (I1.bP.fresh (cK _))
 cases ha:z.cps.all (· < 128)
 ·exact wpAny_pyIter_wide ha ⟨s1.heap.objs.size,[s1.heap.objs.size],_,_,H1,rfl,I1.kept λb o e=>eL _ e,uF (.inr rfl),⟨⟨_,ip _ rfl,rfl,rfl⟩,f7 _⟩,fp,q⟩
 ·exact wpAny_pyIter_ascii ha ⟨s1.heap.objs.size,[s1.heap.objs.size],_,_,H1,rfl,I1.kept λb o e=>eL _ e,uF (.inl rfl),⟨⟨_,ip _ rfl,rfl,rfl⟩,f7 _⟩,fp,q⟩
end
structure gh(J:It)(its:List V)(cond:Hp->Prop):Prop where
 go:∀ i H,cond H->i<its.length->J.go i H
 nE:∀ i H x H',cond H->i<its.length->J.nE i H x H'->H'=H/\its[i]? = some x
 stop:∀ H,cond H->J.stop its.length H
def Vw(z:Str):List V:=z.cps.toList.map λc=>.str ⟨#[c]⟩
def Ge(z:Str):gh (Ts z) (Vw z) (λ_=>True) where
 go:=λi H _ h=>by simpa[Vw,Ts] using h
 nE:=λi H x H' _ _ h=>by obtain⟨rfl,c,e,rfl⟩:=h;refine⟨rfl,?_⟩;unfold Vw;rw[g9,vx,e];rfl
 stop:=λH _=>by simp[Vw,Ts]
def CQ(K:aC)(a:ai)(xs:List V):gh (U6 K a) xs (λH=>fe K H a xs) where
 go:=λi H h hi=>⟨xs,xs[i],h,by simp[hi]⟩
 nE:=λi H x H' h _ y=>⟨y.1,y.2 xs h⟩
 stop:=λH h=>⟨xs,h,cK _⟩
def Ht(K:aC)(a:ai)(xs:List V):gh (ZH K a) xs (λH=>kL K H a xs) where
 go:=λi H h hi=>⟨xs,xs[i],h,by simp[hi]⟩
 nE:=λi H x H' h _ y=>⟨y.1,y.2 xs h⟩
 stop:=λH h=>⟨xs,h,cK _⟩
def Ae(lo:Int)(n:Nat):List V:=(List.range n).map λi=>.int (lo+(i:Nat))
def Ip(lo:Int)(n:Nat):gh (Ri lo n) (Ae lo n) (λ_=>True) where
 go:=λi H _ h=>by simpa[Ae,Ri] using h
 nE:=λi H x H' _ hi h=>by
  have hi:i<n:=by simpa[Ae] using hi
  obtain⟨rfl,rfl⟩:=h;refine⟨rfl,?_⟩;simp[Ae,hi]
 stop:=λH _=>by simp[Ae,Ri]
def ai'(J:It)(g:TG)(tb:TS)(D:Ends)(σ:St)(H:Hp):Prop :=
 ∃ W:Nat->Nat->St->Hp->Prop,(∃ m,W 0 m σ H)/\∀ i m σ H,W i m σ H -> (J.stop i H/\D.nx σ H)\/(J.go i H/\∃ N:St->Hp->Prop,(∀ b9 H',N b9 H'->∃ m',m'<m/\W (i+1) m' b9 H')/\∀ x H',J.nE i H x H'->g x σ H' λkU H2=>tb { D with nx:=N,ct:=N,bk:=D.nx } kU H2)
mutual
inductive Rep(K:aC)(H:Hp):PyData->V->Prop
 |none:Rep K H .none .non
 |bool (b:Bool):Rep K H (.bool b) (.bl b)
 |int (i:Int):Rep K H (.int i) (.int i)
 |str (x:Str):Rep K H (.str x) (.str x)
 |list {a:ai} {vs:List V} {ds:List PyData}:fe K H a vs->bS K H ds vs->Rep K H (.list ds) (.ref a)
 |tuple {a:ai} {vs:List V} {ds:List PyData}:kL K H a vs->bS K H ds vs->Rep K H (.tuple ds) (.ref a)
inductive bS(K:aC)(H:Hp):List PyData->List V->Prop
 |nil:bS K H [] []
 |cons {d:PyData} {v:V} {ds:List PyData} {vs:List V}:Rep K H d v->bS K H ds vs->bS K H (d :: ds) (v :: vs)
end
section
variable {X:Cx}{pins:List (ai × Obj)}{σ:St}{H:Hp}{s:aI}
mutual
theorem Rep.reads(I:Inv X pins σ H s):∀ {d} {v} {u},Rep X.K H d v->RelV v u->∃ as,Reads s.heap u d as
 |_,_,_,.none,r=>by cases (r);exact⟨_,.none⟩
 |_,_,_,.bool b,r=>by cases (r);exact⟨_,.bool b⟩
 |_,_,_,.int i,r=>by obtain⟨t,e⟩:=r;subst e;exact⟨_,.int i t⟩
 |_,_,_,.str x,r=>by obtain⟨t,e⟩:=r;subst e;exact⟨_,.str x t⟩
 |_,_,_,.list h hs,r=>by cases r;obtain⟨its,rv,pl,_⟩:=I.list h;obtain⟨o,e,c,n,d⟩:=pl.isList;obtain⟨as,q⟩:=bS.reads I hs rv;exact⟨_,.list e c d q⟩
 |_,_,_,.tuple h hs,r=>by cases r;obtain⟨its,rv,⟨o,e,c,n,d⟩,_⟩:=I.tuple h;obtain⟨as,q⟩:=bS.reads I hs rv;exact⟨_,.tuple e c d q⟩
theorem bS.reads(I:Inv X pins σ H s):∀ {ds} {vs} {us},bS X.K H ds vs->Vals vs us->∃ as,ReadsAll s.heap us ds as
 |_,_,_,.nil,.nil=>⟨_,.nil⟩
 |_,_,_,.cons h hs,.cons r rs=>by obtain⟨as,q⟩:=Rep.reads I h r;obtain⟨bs,q'⟩:=bS.reads I hs rs;exact⟨_,.cons q q'⟩
end
def aj'(K:aC):R2:=λx y H Q=>∃ d e,Rep K H d x/\Rep K H e y/\d.canLay0=true/\e.canLay0=true/\d.depth<=60/\Q (.bl (PyData.eqv d e)) H
def ak'(K:aC):R2:=λx y H Q=>∃ d e,Rep K H d x/\Rep K H e y/\d.canLay0=true/\e.canLay0=true/\d.depth<=60/\Q (.bl (!PyData.eqv d e)) H
def K8(hu:X.A.units+64<fA):dP X (gI .Eq) (aj' X.K):=by intro pins s σ H x y v u Q I rx ry h;obtain⟨d,e,h1,h2,h3,h4,h5,q⟩:=h;obtain⟨as,r1⟩:=h1.reads I rx;obtain⟨bs,r2⟩:=h2.reads I ry;exact PySem.SeqAt.rcAt_reads r1 r2 h3 h4 (by lia) X.prog X.w X.xe _ ⟨.bl _,H,I,rfl,q⟩
def Je(hu:X.A.units+64<fA):dP X (gI .NotEq) (ak' X.K):=by intro pins s σ H x y v u Q I rx ry h;obtain⟨d,e,h1,h2,h3,h4,h5,q⟩:=h;obtain⟨as,r1⟩:=h1.reads I rx;obtain⟨bs,r2⟩:=h2.reads I ry;exact PySem.SeqAt.rcNeAt_reads r1 r2 h3 h4 (by lia) X.prog X.w X.xe _ ⟨.bl _,H,I,rfl,q⟩
def Vx(K:aC):R2:=λx y H Q=>match x,y with
 |.int i,.int j=>Q (.bl (decide (i=j))) H
 |.str i,.str j=>Q (.bl (decide (i=j))) H
 |.bl i,.bl j=>Q (.bl (decide (i=j))) H
 |_,_=>aj' K x y H Q
def I_(hu:X.A.units+64<fA):dP X (gI .Eq) (Vx X.K):=(ht'.or (K8 hu)).imp λx y H Q h=>by
 unfold Vx at h;split at h
 ·refine .inl ⟨rfl,?_⟩;simpa using h
 ·refine .inl ⟨rfl,?_⟩;simpa using h
 ·refine .inl ⟨rfl,?_⟩;simpa using h
 ·exact .inr h
def Vy(K:aC):R2:=λx y H Q=>match x,y with
 |.int i,.int j=>Q (.bl (!decide (i=j))) H
 |.str i,.str j=>Q (.bl (!decide (i=j))) H
 |.bl i,.bl j=>Q (.bl (!decide (i=j))) H
 |_,_=>ak' K x y H Q
def K6(hu:X.A.units+64<fA):dP X (gI .NotEq) (Vy X.K):=(hu'.or (Je hu)).imp λx y H Q h=>by
 unfold Vy at h;split at h
 ·refine .inl ⟨rfl,?_⟩;simpa using h
 ·refine .inl ⟨rfl,?_⟩;simpa using h
 ·refine .inl ⟨rfl,?_⟩;simpa using h
 ·exact .inr h
def Vz(K:aC):List V->Hp->VK->Prop:=λxs H Q=>match xs with
 |[.ref a]=>∃ bs:List Bool,fe K H a (bs.map V.bl)/\Q (.bl (bs.all id)) H
 |_=>False
def yz (hc:X.calm=true):kM X (.builtin "all") (Vz X.K):=by
 intro pins s σ H xs us Q I r h;unfold Vz at h;split at h
 ·rename_i a;obtain⟨bs,e,q⟩:=h;obtain⟨u,rfl,ru⟩:=Vals.one r;cases ru;obtain⟨its,rv,pl,hz⟩:=I.list e;have hl:s.heap.IsList a its.toArray:=pl.isList;obtain⟨o,ho,IY,n,t9⟩:=id hl;have hlen:=rv.length;rw[b4] at hlen;refine call_all_walk (R7 hl ?_);have iX:a≠s.heap.objs.size:=fz (e8 ho);have KG:X.A.in1.handled=none:=I.ok.hd hc;refine⟨s.heap.objs.size,_,_,_,_,_,λi=>bs.getD i true,rfl,Walks.list KG s.heap.objs.size a iX its.toArray,⟨⟨_,ip _ rfl,rfl,rfl⟩,⟨_,eL _ ho,IY,n,t9⟩⟩,?_,λh' tk hk=>?_⟩
  ·intro i v s' Q' E' hv hq;have vF:its[i]? = some v:=by simpa using hv
   have hi:i<bs.length:=by have:=(h9.mp vF).1;lia
   obtain⟨w',e1,r1⟩:=rv.get (i:=i) (x:=V.bl bs[i]) (by simp[hi]);rw[vF] at e1;cases e1;cases (r1);have e2:bs.getD i true=bs[i]:=by simp[List.getD,hi]
   have hq:Q' (bs.getD i true) s':=hq;rw[e2] at hq;exact zI hq
  ·have e3:((List.range its.toArray.size).all λi=>bs.getD i true)=bs.all id:=by
    rw[kA,<- hlen];apply z5.mpr;simp only[yT,y6,id];constructor
    ·intro h b hb;obtain⟨i,hi,rfl⟩:=W_.mp hb;have:=h i hi;simpa[List.getD,hi] using this
    ·intro h i hi;have:=h bs[i] (L6 hi);simpa[List.getD,hi] using this
   rw[e3];exact⟨.bl (bs.all id),H,I.kept λb o e=>hk b o (by simp;exact fz (e8 e)) (eL _ e),rfl,q⟩
 ·exact h.elim
end
end L2
namespace L2
section
variable {X:Cx}{pins:List (ai × Obj)}{σ:St}{H:Hp}{s:aI}{h':df}
def Inv.Ni{t':Nat}{fp:List ai}(I:Inv X pins σ H s)(hf:∀ b∈fp,zk X pins H b)(k:∀ b o,b∉fp->s.heap.get? b=some o->h'.get? b=some o):Inv X pins σ H { s with heap:=h',toks:=t' }:=by
 have IU:∀ b u,H b=some u->b∉fp:=λb u e z=>by rw[(hf b z).1] at e;cases e
 refine I.step (λb hb=>?_) (λb o _ _ hc e _=>k b o hc e) (λb o _ _ hc e _=>⟨o.slots,k b o hc e⟩) (λ_ _ _ _ n=>n) (λb o hc e=>⟨o,k b o hc e⟩) (λ_ _ e=>e) (λ_ _ _ e=>e) (λb ps e=>⟨#[],by rw[e];simp⟩) (λm hm=>?_) (λb u e=>?_) I.bare
 ·obtain⟨f0,f1,f2,f3,f4,f5⟩:=hf b hb;exact⟨f3,f1,f4,f5⟩
 ·obtain⟨o,es,ep,ho,r⟩:=hm;exact⟨o,es,ep,k _ o (λz=>(hf _ z).2.1 rfl) ho,r⟩
 ·refine(I.bP b u e).hX (λc v hc q=>k c v ?_ q) (λ_ q=>q) λ_ _ q=>q;rcases hc with z|z
  ·rw[z];exact IU b u e
  ·exact IU c _ z
def Inv.ki'{t':Nat}{fp:List ai}{p:ai}{xs:List V}(I:Inv X pins σ H s)(hf:∀ b∈fp,zk X pins H b)(k:∀ b o,b∉fp->s.heap.get? b=some o->h'.get? b=some o)(hp:s.heap.objs.size<=p)(new:kz X.prog X.w (upd H p (.tup xs)) h' p (.tup xs)):Inv X pins σ (upd H p (.tup xs)) { s with heap:=h',toks:=t' }:=by
 have hn:=I.bP.fresh hp;have IU:∀ b u,H b=some u->b∉fp:=λb u e z=>by rw[(hf b z).1] at e;cases e
 have lt:∀ b o,s.heap.get? b=some o->b≠p:=λb o e=>fz (qS (e8 e) hp);refine I.step (λb hb=>?_) (λb o _ _ hc e _=>k b o hc e) (λb o _ _ hc e _=>⟨o.slots,k b o hc e⟩) (λb o _ e n=>by rw[b6 (lt b o e)];exact n) (λb o hc e=>⟨o,k b o hc e⟩) (λ_ _ e=>by rw[b6 (Au e hn)];exact e) (λ_ _ _ e=>by rw[b6 (Au e hn)];exact e) (λb ps e=>⟨#[],by rw[b6 (Au e hn),e];simp⟩) (λm hm=>?_) (λb u e=>?_) I.bare
 ·obtain⟨f0,f1,f2,f3,f4,f5⟩:=hf b hb;exact⟨f3,f1,f4,f5⟩
 ·obtain⟨o,es,ep,ho,r⟩:=hm;exact⟨o,es,ep,k _ o (λz=>(hf _ z).2.1 rfl) ho,r⟩
 ·by_cases hb:b=p
  ·subst hb;rw[d5] at e;cases e;exact new
  ·rw[b6 hb] at e;refine(I.bP b u e).hX (λc v hc q=>k c v ?_ q) (λc q=>by rw[b6 (Au q hn)];exact q) λc xs q=>by rw[b6 (Au q hn)];exact q
   rcases hc with z|z
   ·rw[z];exact IU b u e
   ·exact IU c _ z
end
def Ite(K:aC)(a:ai):It :=
 ⟨λi H=>∃ xs x,fe K H a xs/\xs[i]? = some x,λi H x H'=>∃ p v,x=.ref p/\H p=none/\H'=upd H p (.tup [.int i,v])/\∀ xs,fe K H a xs->xs[i]? = some v,λi H=>∃ xs,fe K H a xs/\xs.length<=i⟩
def Du:(2:Nat)<=bG:=by rw[mB];decide
def yF{P:cf}{w:cw}{K:aC}{elts:List Expr}{k:Nat}{pos:Pos}(a e it:ai)(hei:e≠it):Turn P w K (.Tuple elts k pos) (Ite K a) [e,it] e (λi h=>(∃ old,IsEnum h e it i old)/\h.IsListIter it a i) where
 mem:=by simp
 obj:=λi h ⟨⟨old,he⟩,st⟩ b hb=>by
  rcases eu.mp hb with rfl|hb
  ·exact⟨_,he,λv z=>nomatch z⟩
  ·have e:b=it:=by simpa using hb
   subst e;obtain⟨o,e,c,d⟩:=st;exact⟨o,e,λv z=>by rw[d] at z;cases z⟩
 keep:=λi h h' ⟨⟨old,he⟩,st⟩ k=>⟨⟨old,k e (by simp) _ he⟩,st.at λo e=>k it (by simp) o e⟩
 item:=by
  intro X hP hw hK hc i pins s σ H E I hf st hg;subst hP hw hK;obtain⟨xs,x,hq,hx⟩:=hg;obtain⟨its,rv,p,hz⟩:=I.list hq;obtain⟨u,hu,ru⟩:=rv.get hx;obtain⟨⟨old,he⟩,hit⟩:=st;refine wpAny_pyNext_enum_item he hit p.isList (x:=u) (by simpa using hu) hei λh1 ho kj' hT fN hk=>⟨_,rfl,?_⟩
  refine wpAny_letOwnedTupleGo_enum (s:={ s with heap:=h1,toks:=s.toks+1 }) ho λh2 Tt pT=>?_;have ke:∀ b o,b∉[e,it]->s.heap.get? b=some o->h2.get? b=some o:=λb o hb q=>(pT.2 b λz=>hb (by simp[z])).trans (hk b o (λz=>hb (by simp[z])) (λz=>hb (by simp[z])) q);have eK:e<s.heap.objs.size:=e8 he;have hT2:h2.get? s.heap.objs.size=some { cls:=.type "tuple",data:=.seq #[.int i s.toks,u] }:=(pT.2 _ (MD eK)).trans hT;have I1:Inv X pins σ (upd H s.heap.objs.size (.tup [.int i,x])) { s with heap:=h2,toks:=s.toks+1 } :=
   I.ki' hf ke (cK _) ⟨Du,[.int i s.toks,u],.cons ⟨s.toks,rfl⟩ (.cons ru .nil),_,hT2,rfl,_,rfl⟩
  refine⟨.ref s.heap.objs.size,_,I1,rfl,⟨_,x,rfl,I.fresh,rfl,λys hy=>by rw[I.cd' hy hq];exact hx⟩,⟨⟨u,by simpa using Tt⟩,kj'.at λo q=>(pT.2 it hei.symm).trans q⟩,λb hb=>?_⟩;rw[b6]
  ·exact(hf b hb).1
  ·rcases eu.mp hb with rfl|hb
   ·exact fz eK
   ·have e:b=it:=by simpa using hb
    subst e;obtain⟨o,q,_⟩:=hit;exact fz (e8 q)
 done:=by intro X hP hw hK hc i pins s σ H E I hf st hg;subst hP hw hK;obtain⟨xs,hq,hx⟩:=hg;obtain⟨its,rv,p,hz⟩:=I.list hq;obtain⟨⟨old,he⟩,hit⟩:=st;have hl:=rv.length;exact wpAny_pyNext_enum_end (I.ok.hd hc) he hit p.isList (by simp;lia) λh' eb=>⟨rfl,I.Ni (t':=s.toks) hf λb o hb q=>eb b o (λz=>hb (by simp[z])) q⟩
 self:=λ_ _ _ _ _ ⟨⟨old,he⟩,_⟩ h=>wpAny_pyIter_enum he h
def Kg(h:b∈[n+1,n]):n<=b:=by simp at h;lia
section
variable {X:Cx}
def Mr(K:aC)(ta:TA):TI:=λσ H R=>ta σ H λvs H1=>∃ a,vs=[.ref a]/\(∃ xs,fe K H1 a xs)/\R (Ite K a) H1
def yG (hg:Gl X "enumerate") (hm:X.mg "enumerate" = none) (ha:PA X [a] ta) (hs:autoParam (g7 [a] X.env=[(false,dE a X.env)]) bv) :
  PI X (.Tuple elts k tp) (.Call (.Name "enumerate" p) [a] [] pos) (Mr X.K ta):=by
 intro pins s σ H R I h;refine Call_ (FD I hg hm boot_enumerate (PyProof.Rows.callWith_type1 (cp (ha pos pins s σ H _ I h) λus s1 ck=>L2.e9 ck λvs H1 I1 r1 q1=>?_) hs rfl));obtain⟨l,e,⟨xs,hq⟩,q⟩:=q1;subst e
 cases r1 with
 |cons r rr =>cases rr;cases r;obtain⟨its,rv,pl,hz⟩:=I1.list hq;refine call_enumerate_list pl.isList λh2 he hit fN hk=>?_;refine wpAny_pyIter_enum he ?_;refine⟨s1.heap.objs.size+1,[s1.heap.objs.size+1,s1.heap.objs.size],_,_,H1,rfl,I1.kept hk,yF l _ _ (Nat.succ_ne_self _),⟨⟨_,he⟩,hit⟩,λb hb=>?_,q⟩;have e:s1.heap.objs.size<=b:=Kg hb;exact I1.I0 e (I1.bP.fresh e)
end
def FV(sc:lT)(names:List (Str × NameKind)):List (Str × NameKind):=names.map λy=>if (y.2 == NameKind.free && sc.kind == .function && sc.names.lookup y.1 == some .cell)=true then (y.1,NameKind.cell) else (y.1,y.2)
def KL(o:Option NameKind):Bool:=o == some .cell || o == some .free
def CG(sc scope:lT)(N cn:List Str)(ix:List Nat):Bool :=
 scope.kind == .function && scope.names.all (λy=>y.2 != .cell) && scope.names.all (λy=>y.2 != .free || KL (sc.names.lookup y.1)) && scope.names.all (λy=>y.2 != .local || scope.names.lookup y.1 == some .local) &&
 ix.length == cn.length && (List.range ix.length).all (λk=>match ix[k]?,cn[k]? with
  |some j,some y=>N[j]? == some y && KL (sc.names.lookup y) && scope.names.contains (y,NameKind.free) && KL ((FV sc scope.names).lookup y)
  |_,_=>false) &&
 (FV sc scope.names).all (λy=>!(y.2 == .cell || y.2 == .free) || scope.names.contains (y.1,NameKind.free))
def iz(h:KL o=true):o=some .cell\/o=some .free:=by unfold KL at h;simpa using h
def bN.of{X:Cx}(x3:X.env.scope=sc)(hN:X.N=N)(h:CG sc scope N cn ix=true):bN X scope tn cn ix:=by
 unfold CG at h;simp only[k9] at h;obtain⟨⟨⟨⟨⟨⟨h1,h2⟩,h3⟩,h4⟩,h5⟩,h6⟩,h7⟩:=h;rw[yT] at h2 h3 h4 h6 h7;have Tv:(relabel scope X.env).names=FV sc scope.names:=by rw[<- x3];rfl
 refine⟨by simpa using h1,λy hy=>by simpa using h2 y hy,λy hy hk=>?_,λy hy hk=>?_,by simpa using h5,λk j hk=>?_,λx hx=>?_⟩
 ·have:=h3 y hy;rw[hk] at this;rw[x3];exact iz (by simpa using this)
 ·have:=h4 y hy;rw[hk] at this;simpa using this
 ·have i7:k<ix.length:=(h9.mp hk).1;have:=h6 k (y6.mpr i7);rw[hk] at this
  cases e:cn[k]? with
  |none=>rw[e] at this;cases this
  |some y =>rw[e] at this;simp only[k9] at this;obtain⟨⟨⟨a1,a2⟩,a3⟩,a4⟩:=this;refine⟨y,rfl,by rw[hN];simpa using a1,by rw[x3];exact iz a2,by simpa using a3,by rw[Tv];exact iz a4⟩
 ·rw[Tv] at hx;have mem:∃ k,(x,k)∈FV sc scope.names/\(k=.cell\/k=.free):=by
   rcases hx with hx|hx
   ·exact⟨_,PySem.mem_of_lookup hx,.inl rfl⟩
   ·exact⟨_,PySem.mem_of_lookup hx,.inr rfl⟩
  obtain⟨k,hm,hk⟩:=mem;have:=h7 _ hm;rcases hk with rfl|rfl<;>simpa using this
def bN.by{X:Cx}(c:X.env.scope=sc/\X.N=N)(h:CG sc scope N cn ix=true):bN X scope tn cn ix:=.of c.1 c.2 h
structure Ru(P:cf)(w:cw)(K:aC)(mg:Str->Option ag)(base:df)(k:Nat)(x:Str)(ps:List Str)(sp:Sp):Prop where
 ex:∃ g fd,mg x=some (.ref g)/\xB K (.ref g)=true/\Binds K fd ps []/\ki P w K mg base iA k g fd ps sp
section
variable {X:Cx}{k:Nat}{x:Str}{ps:List Str}{sp:Sp}{p pos:Pos}{e:Expr}{es:List Expr}{t:TA}
def DG(C:Ru X.prog X.w X.K X.mg X.base k x ps sp)(hr:iN k X.A)(ha:PA X (e :: es) t)(hg:autoParam (Gl X x) bv)(rS:cM x:=by decide)(he:autoParam (aQ X e es) bv) (mN:autoParam (bR X pos es) bv):PE X (.Call (.Name x p) (e :: es) [] pos) (ZR sp [] E0 t):=by
 obtain⟨g,fd,hm,hk,hb,F⟩:=C.ex;exact ip' F hr hg hm hk hb .nil Vr ha rS he mN
end
def sM.VA{P:cf}{K:aC}{st:h8}{ps:List Str}(F:sM K x qual st f fd)(hm:mg x=some (.ref f))(G:ki P w K mg base iA k f fd ps sp)(h:∀ kV doc pm an dk ct us,us.length=ps.length->bindArgs (sD x qual (wa st) (mP st) (eW st) .none kV doc pm an dk ct) ⟨us,[]⟩=pure (ps.zip us)):Ru P w K mg base k x ps sp :=
 ⟨f,fd,hm,F.kp,F.binds h,G⟩
def VB(mg:Str->Option ag)(x:Str)(z:Str):Prop:=∃ t,mg x=some (.str z t)
def Tw(mg:Str->Option ag)(x:Str)(i:Int):Prop:=∃ t,mg x=some (.int i t)
def Ny{X:Cx}(h:VB X.mg x z)(hg:autoParam (Gl X x) bv)(hd:cM x:=by decide):PE X (.Name x pos) (tC (.str z)):=by obtain⟨t,e⟩:=h;exact cb' hg e ⟨t,rfl⟩ hd
def Mw{X:Cx}(h:Tw X.mg x i)(hg:autoParam (Gl X x) bv)(hd:cM x:=by decide):PE X (.Name x pos) (tC (.int i)):=by obtain⟨t,e⟩:=h;exact cb' hg e ⟨t,rfl⟩ hd
def zH:k7 "str" = some (.type "str"):=by decide +kernel
def xF:k7 "int" = some (.type "int"):=by decide +kernel
def zQ:k7 "bool" = some (.type "bool"):=by decide +kernel
def nQ:k7 "list" = some (.type "list"):=by decide +kernel
def gK:k7 "tuple" = some (.type "tuple"):=by decide +kernel
def nR:k7 "isinstance" = some (.builtin "isinstance"):=by decide +kernel
def qb:k7 "all" = some (.builtin "all"):=by decide +kernel
def bL:k7 "len" = some (.builtin "len"):=by decide +kernel
def lL {X:Cx} {T:String} (hm:X.mg x=none) (hv:k7 x=some (.type T)) (hg:autoParam (Gl X x) bv) (hn:x ≠ "__name__" := by decide) (hd:cM x:=by decide):PE X (.Name x pos) (tC (.ty T)) :=
 gc' hg hm hv rfl hn hd
def EF(i j:Str):Bool:=!(Builtin.Str.occurrences j i 0 j.length 1).isEmpty
def Fj(c:Nat)(j:Str):EF ⟨#[c]⟩ j=decide (c∈j.cps.toList):=PySem.StrLaws.found_one j c
def NV(K:aC)(neg:Bool):R2:=λx y H Q=>match x,y with
 |.str i,.str j=>Q (.bl (if neg then !EF i j else EF i j)) H
 |_,.ref p=>(∃ o,r9 H p x o/\Q (.bl (if neg then !o.isSome else o.isSome)) H)\/Te K neg x y H Q
 |_,_=>False
def Jv{X:Cx}(hu:X.A.units+64<fA):dP X (gI .In) (NV X.K false):=by
 walk_at"b";unfold NV at h;split at h
 ·exact hC' pins s σ H _ _ v u Q I rx ry ⟨_,_,rfl,rfl,h⟩
 ·rcases h with⟨o,g,q⟩|h
  ·cases ry;exact ji' (by lia) I g rx λs3 I3=>⟨.bl o.isSome,H,I3,rfl,q⟩
  ·exact iZ' pins s σ H _ _ v u Q I rx ry h
 ·exact h.elim
def zO{X:Cx}(hu:X.A.units+64<fA):dP X (gI .NotIn) (NV X.K true):=by
 walk_at"b";unfold NV at h;split at h
 ·exact hE' pins s σ H _ _ v u Q I rx ry ⟨_,_,rfl,rfl,h⟩
 ·rcases h with⟨o,g,q⟩|h
  ·cases ry;exact jj' (by lia) I g rx λs3 I3=>⟨.bl (!o.isSome),H,I3,rfl,q⟩
  ·exact ja' pins s σ H _ _ v u Q I rx ry h
 ·exact h.elim
def bt.upd(h:bt H H')(hp:H' p=none):bt H (upd H' p o):=λb u e=>by have e':=h b u e;rw[b6 (Au e' hp)];exact e'
def bt.lst{K:aC}(e:bt H H')(h:fe K H a xs):fe K H' a xs:=e.seq h
def bt.tup{K:aC}(e:bt H H')(h:kL K H a xs):kL K H' a xs:=by
 rcases h with(h|⟨o,h⟩)|h
 ·exact .inl (.inl (e _ _ h))
 ·exact .inl (.inr ⟨o,e _ _ h⟩)
 ·exact .inr h
section
variable {X:Cx}{K:aC}
def kF(hK:autoParam (X.K=K) bv)(hu:X.A.units+64<fA:=by assumption):dP X (gI .Eq) (Vx K):=by subst hK;exact I_ hu
def kNe(hK:autoParam (X.K=K) bv)(hu:X.A.units+64<fA:=by assumption):dP X (gI .NotEq) (Vy K):=by subst hK;exact K6 hu
def kC(hK:autoParam (X.K=K) bv)(hu:X.A.units+64<fA:=by assumption):dP X (gI .In) (NV K false):=by subst hK;exact Jv hu
def yo(hK:autoParam (X.K=K) bv)(hu:X.A.units+64<fA:=by assumption):dP X (gI .NotIn) (NV K true):=by subst hK;exact zO hu
def Tx (hc:autoParam (X.calm=true) bv) (hK:autoParam (X.K=K) bv):kM X (.builtin "all") (Vz K):=by subst hK;exact yz hc
end
def Qs{α:Type}{a:α}{p:α->Prop}:(∃ v,a=v/\p v)↔p a:=⟨λ⟨_,e,h⟩=>e ▸ h,λh=>⟨a,rfl,h⟩⟩
abbrev Tz:=Array DictEntry
def wc(h:df)(d:ai)(es:Tz)(ep:Nat):Prop:=∃ o,h.get? d=some o/\o.ExactDict/\o.data=.dict es ep
def wc.typ {s:aI} {d:ai} {es:Tz} {ep:Nat} (x:wc s.heap d es ep):s.TypeIs (.ref d) "dict" := let ⟨o,e,c,_⟩:=x;⟨o,e,c.1⟩
section
variable {prog:cf}{w:cw}{A:ft}{E:ag->aI->Prop}{s:aI}{d it:ai}{es:Tz}{ep i:Nat}
def uZ{Q:ag->aI->Prop}(lo:(d == mE)=false)(x:wc s.heap d es ep)(q:Q (.ref s.heap.objs.size) { s with heap:=s.heap.push { cls:=.type "dict_keyiterator",data:=.fields #[.ref d,.int 0 0,.int es.size 0,.int ep 0] } }):aS (aE prog w) A (pyIter (.ref d)) Q E s:=by
 obtain⟨o,ho,hc,KP⟩:=id x;refine wpAny_pyIter_slot x.typ F.slot_dict_iter (E4 F.slot_dict_iter x.typ F.entry_dict_iter ?_ (F.args_dict_iter_1 _));refine av ?_;refine av (wpAny_notOrdered_dict x.typ ?_);refine(aT ?_);refine(show aS _ _ (Builtin.Dict.showsAll d >>= _) _ _ s from ?_);unfold Builtin.Dict.showsAll;rw[if_neg (by rw[lo];decide)];refine av (aT (av (B1 ho KP (av (R9 ho KP (av (tm (aT ⟨_,rfl, "dict_keyiterator",_,⟨_,ip _ rfl,rfl⟩,F.slot_dict_keyiterator_next.lookup,?_⟩))))))));simpa[pf] using q
def uM(hit:s.heap.IsKeyIter it d i es.size ep)(x:wc s.heap d es ep)(hx:i<es.size)(q:∀ h',h'.IsKeyIter it d (i+1) es.size ep->Heap.SameBut it s.heap h'->Q (some es[i].key) { s with heap:=h' }):aS (aE prog w) A (pyNext (.ref it)) Q E s:=by
 obtain⟨o,ho,hc,hd⟩:=id hit;obtain⟨od,t9,tS,Bn⟩:=id x;have ty:=hit.typeIs;refine av (wpAny_attempt (PR ty F.slot_dict_keyiterator_next (E4 F.slot_dict_keyiterator_next ty F.entry_dict_keyiterator_next ?_ (F.args_dict_keyiterator_next_1 _))));refine av (aT (av (av ?_)));first|refine av (Uu ty (aT ?_))|refine av (Uv ty (aT ?_))
 refine av (wpAny_fieldsOf ho hd ?_);refine(show aS _ _ (if (Value.ref d == Value.none)=true then _ else _) _ _ s from ?_);refine av (aT (av (B1 t9 Bn ?_)));rw[if_neg (by intro h;simp at h)];refine av (aT (av (R9 t9 Bn ?_)));rw[if_neg (by intro h;simp at h)];refine aT ?_;simp only[show ¬ (i<0) by lia,if_false,IL,D8 hx];refine av ?_;first|refine av (Uu ty (aT ?_))|refine av (Uv ty (aT ?_))
 refine av (wpAny_isOneOf_keyiter ty ?_);refine(show aS _ _ (setField (.ref it) 1 (pf (i+1)) >>= _) _ _ s from av (wpAny_setField ho hd (by simp) ?_));have dy':(s.heap.update it (Obj.mapFields (·.setIfInBounds 1 (pf (i+1))))).IsKeyIter it d (i+1) es.size ep :=
  ⟨_,D7 _ ho (Obj.isFreed_of_fields (Obj.data_mapFields hd _)),(Obj.cls_mapFields ..).trans hc,by rw[Obj.data_mapFields hd];simp[pf]⟩
 refine av (vn (av (wpAny_isOneOf_keyiter dy'.typeIs ?_)));refine(aT (aT ⟨_,rfl,aT (q _ dy' (Heap.SameBut.update ..))⟩))
def uQ(hh:A.handled=none)(hit:s.heap.IsKeyIter it d es.size es.size ep)(x:wc s.heap d es ep)(q:∀ h',Heap.ExtBut it s.heap h'->Q none { s with heap:=h' }) :
  aS (aE prog w) A (pyNext (.ref it)) Q E s:=by
 obtain⟨o,ho,hc,hd⟩:=id hit;obtain⟨od,t9,tS,Bn⟩:=id x;have ty:=hit.typeIs;refine av (wpAny_attempt (PR ty F.slot_dict_keyiterator_next (E4 F.slot_dict_keyiterator_next ty F.entry_dict_keyiterator_next ?_ (F.args_dict_keyiterator_next_1 _))));refine av (aT (av (av ?_)));first|refine av (Uu ty (aT ?_))|refine av (Uv ty (aT ?_))
 refine av (wpAny_fieldsOf ho hd ?_);refine(show aS _ _ (if (Value.ref d == Value.none)=true then _ else _) _ _ s from ?_);refine av (aT (av (B1 t9 Bn ?_)));rw[if_neg (by intro h;simp at h)];refine av (aT (av (R9 t9 Bn ?_)));rw[if_neg (by intro h;simp at h)];refine aT ?_;simp only[show ¬ (es.size<0) by lia,if_false,IL,Qb (cK es.size)];refine av ?_;first|refine av (Uu ty (aT ?_))|refine av (Uv ty (aT ?_))
 refine(show aS _ _ (setField (.ref it) 0 .none >>= _) _ _ s from av (wpAny_setField ho hd (by simp) ?_));refine(av ?_);refine av (tm ?_ (by size_fits));refine av (LV (by first|rfl|(simp only[firstArgMember];rfl)) (tm ?_ (by size_fits)));refine av (wpAny_handled ?_);rw[show A.in1.handled=none from hh];refine av (aT (wpAny_throw ?_));refine av (R8 ⟨_,ip _ rfl,rfl⟩ isSubtype_stop ?_);exact aT (q _ (((Heap.SameBut.update ..).extBut.push _).push _))
def wc.at(x:wc h d es ep)(e:∀ o,h.get? d=some o->h'.get? d=some o):wc h' d es ep:=let ⟨o,ho,r⟩:=x;⟨o,e o ho,r⟩
def wc.lt(x:wc h d es ep):d<h.objs.size:=let ⟨_,e,_⟩:=x;e8 e
def xj(hh:A.handled=none)(I:ai)(iX:d≠I):Walks prog w A I [I,d] [I] es.size (λi v=>∃ e,es[i]? = some e/\v=e.key) (λi h=>h.IsKeyIter I d i es.size ep/\wc h d es ep) where
 sub:=λb hb=>by simp at hb;simp[hb]
 frame:=λ_ _ _ st hk=>⟨st.1.at λo e=>hk I (by simp) o e,st.2.at λo e=>hk d (by simp) o e⟩
 item:=λi s Q E hi st hQ=>uM st.1 st.2 hi λh' a b=>hQ _ h' s.toks ⟨es[i],by simp[hi],rfl⟩ ⟨a,st.2.at λo e=>b.extBut d o iX e⟩ λc o hb e=>b.extBut c o (λh=>hb (by simp[h])) e
 done:=λs Q E st hQ=>uQ hh st.1 st.2 λh' he'=>hQ h' s.toks λb o hb e=>he' b o (λh=>hb (by simp[h])) e
 self:=λ_ _ _ _ st hQ=>wpAny_pyIter_keyiter st.1 hQ
def Hv (lo:(d == mE)=false):PySem.W.KdlSrc prog w "dict" d d es.size (λi v=>∃ e,es[i]? = some e/\v=e.key) (λh=>wc h d es ep) where
 type:=λ_ x=>x.typ
 there:=λ_ x=>⟨x.lt,x.lt⟩
 keep:=λ_ _ x hk=>x.at λo e=>hk d (.inl rfl) o e
 notList:=by decide
 notTuple:=by decide
 hint:=λ_ _ _ _ x hq=>PySem.W.kdl_hint_dict x.typ hq
 iter:=λ_ _ hh x=>⟨_,_,(λ_ _ hq=>uZ lo x hq),xj hh _ (fz x.lt),⟨⟨_,ip _ rfl,rfl,rfl⟩,x.at λo e=>eL _ e⟩⟩
end
def Paired.n0{α β:Type}{R:α->β->Prop}{bs:List β}(h:Paired R [] bs):bs=[]:=by cases h;rfl
def Paired.c{α β:Type}{R:α->β->Prop}{a:α}{as:List α}{bs:List β}(h:Paired R (a :: as) bs):∃ b cs,bs=b :: cs/\R a b/\Paired R as cs:=by
 cases h with
 |cons r t=>exact⟨_,_,rfl,r,t⟩
def cR(H:Hp)(ys:List V)(ks:List (List Key)):Prop:=Paired (λ(v:V) (k:List Key)=>∃ b,v=.ref b/\H b=some (.tup (k.map kV))) ys ks
section
variable {X:Cx}
def uO:List V->Hp->VK->Prop:=λxs H Q=>match xs with
 |[.ref p]=>∃ kvs,Rd H p (.dT kvs)/\∀ ys l,cR H ys (kvs.map (·.1))->H l=none->Q (.ref l) (upd H l (.lst ys))
 |_=>False
def zK (h:Paired (λ(p:List Key × V) (q:List Key × ai × ag)=>p.1=q.1/\H q.2.1=some (.tup (p.1.map kV))/\RelV p.2 q.2.2) kvs xs) :
  cR H (xs.map λq=>.ref q.2.1) (kvs.map (·.1))/\Vals (xs.map λq=>.ref q.2.1) ((xs.map (E6 (iL (iq prog w)))).map (·.key)):=by
 induction h with
 |nil=>exact⟨.nil,.nil⟩
 |cons r t ih=>exact⟨.cons ⟨_,rfl,r.2.1⟩ ih.1,.cons rfl ih.2⟩
def vK (hc:X.calm=true):kM X (.type "list") uO:=by
 intro pins s σ H xs us Q I r h;unfold uO at h;split at h
 ·rename_i p;obtain⟨kvs,e,q⟩:=h;obtain⟨u,rfl,ru⟩:=Vals.one r;cases ru;obtain⟨z,y,ps,rel,o,es,ep,h1,h2,h3,h4,h5⟩:=(I.rd e)
  obtain⟨ta,va⟩:=zK rel;have hlen:es.size=kvs.length:=by have:=congrArg List.length h4;rw[y9,b4] at this;rw[this];exact rel.length.symm
  refine PySem.W.kdl_call (Hv y) (I.ok.hd hc) ⟨o,h1,h2,h3⟩ (by lia) λh' tk acc c kp eo KS=>?_;have hv:acc.toList=(ps.map (E6 (iL (iq X.prog X.w)))).map (·.key):=by
   apply L5;intro i;by_cases hi:i<es.size
   ·have wm:i<acc.size:=by rw[KS.1];exact hi
    obtain⟨en,e1,e2⟩:=KS.2 i acc[i] (by simp[wm]);rw[<- h4,g9,vx,vx,e1];simp[wm,e2]
   ·rw[<- h4,g9,vx,vx,Qb (by rw[KS.1];lia),Qb (by lia)];rfl
  refine⟨.ref s.heap.objs.size,_,I.laid kp (cK _) (show kz X.prog X.w _ h' _ (.lst (ps.map λq=>.ref q.2.1)) from⟨?_,acc.toList,c,?_,?_⟩),rfl,q _ _ ta (I.bP.fresh (cK _))⟩
  ·rw[b4,<- rel.length];exact z
  ·rw[hv];exact va
  ·rw[Zo];exact eo
 ·exact h.elim
end
end L2
end
namespace FX
open PySem PyProof.Rows
def R(r:ag->Int)(xs:Array b3)(i:Nat):Int:=match xs[i]? with
 |some p=>r p.1
 |none=>0
def cJ(h:xs[i]? = ys[j]?):R r xs i=R r ys j:=by unfold R;rw[h]
def pV(prog:cf)(w:cw)(A:ft)(s:aI)(κ:y8)(r:ag->Int)(P:ag->Prop):Prop :=
 ∀ x y,P x->P y->∀ Q E,Q (decide (r x<r y)) s->aS (aE prog w) A (keyLt' κ x y) Q E s
def AllP(P:ag->Prop)(xs:Array b3):Prop:=∀ p∈xs.toList,P p.1
def AllP.perm{P:ag->Prop}(h:AllP P xs)(hp:ys.Perm xs):AllP P ys:=λp hm=>h p ((Zm.mp hp).mem_iff.mp hm)
def AllP.at{P:ag->Prop}{xs:Array b3}(h:AllP P xs){i:Nat}{p:b3}(e:xs[i]? = some p):P p.1:=h p (by
 obtain⟨hi,rfl⟩:=Zn.mp e;simp)
structure n4(lo hi:Nat)(st aw:dz):Prop where
 kind:fw aw=fw st
 failed:tP aw=tP st
 pend:mM aw=mM st
 perm:(bI aw).Perm (bI st)
 out:∀ k,k<lo\/hi<=k->(bI aw)[k]? = (bI st)[k]?
def n4.refl(lo hi:Nat)(st:dz):n4 lo hi st st:=⟨rfl,rfl,rfl,Array.Perm.refl _,λ_ _=>rfl⟩
def n4.trans{lo hi:Nat}{a b c:dz}(h:n4 lo hi a b)(g:n4 lo hi b c):n4 lo hi a c :=
 ⟨g.kind.trans h.kind,g.failed.trans h.failed,g.pend.trans h.pend,g.perm.trans h.perm,λk hk=>(g.out k hk).trans (h.out k hk)⟩
def n4.mono{lo hi NW kX:Nat}{a b:dz}(h:n4 lo hi a b)(h1:NW<=lo)(h2:hi<=kX):n4 NW kX a b :=
 ⟨h.kind,h.failed,h.pend,h.perm,λk hk=>h.out k (by lia)⟩
def n4.size{lo hi:Nat}{a b:dz}(h:n4 lo hi a b):(bI b).size=(bI a).size:=h.perm.size_eq
def Up(r:ag->Int)(xs:Array b3)(lo hi:Nat):Prop:=∀ i j,lo<=i->i<=j->j<hi->R r xs i<=R r xs j
def Down(r:ag->Int)(xs:Array b3)(lo hi:Nat):Prop:=∀ i j,lo<=i->i<=j->j<hi->R r xs j<=R r xs i
def uX(hs:src<xs.size)(hd:d<=src)(k:Nat) :
  R r (bubble xs src d) k=if k=src-d then R r xs src else if src-d<k/\k<=src then R r xs (k-1) else R r xs k:=by
 have e:=getElem?_bubble hs d hd k;by_cases h1:k=src-d
 ·rw[if_pos h1] at e ⊢;exact cJ e
 ·rw[if_neg h1] at e ⊢;by_cases h2:src-d<k/\k<=src
  ·rw[if_pos h2] at e ⊢;exact cJ e
  ·rw[if_neg h2] at e ⊢;exact cJ e
def nW(hj:j<=xs.size)(k:Nat) :
  R r (mirror xs i j ((j-i) / 2)) k=if i<=k/\k<j then R r xs (i+j-1-k) else R r xs k:=by
 have e:=getElem?_mirror_all (i:=i) hj k;by_cases h1:i<=k/\k<j
 ·rw[if_pos h1] at e ⊢;exact cJ e
 ·rw[if_neg h1] at e ⊢;exact cJ e
def bA(hj:j<=xs.size)(heq:∀ k,i<=k->k<j->R r xs k=R r xs (j-1))(k:Nat) :
  R r (mirror xs i j ((j-i) / 2)) k=R r xs k:=by
 rw[nW hj];split
 ·rw[heq _ (by lia) (by lia),heq k (by lia) (by lia)]
 ·rfl
section
variable {prog:cf}{w:cw}{A:ft}{E:ag->aI->Prop}{s:aI}{κ:y8}{r:ag->Int}{P:ag->Prop}
def qI{st:dz}{x y:b3}{Q:Option Bool->dz->Prop}(C:pV prog w A s κ r P)(hk:fw st=κ)(hx:P x.1)(hy:P y.1)(h:Q (some (decide (r x.1<r y.1))) st) :
  wpS (aE prog w) A E s (lt' x y) Q st:=by
 rw[lt'_eq];refine cx (wpS_get ?_);rw[hk];exact cx (wpS_lift (wpAny_attempt (C x.1 y.1 hx hy _ _ ⟨rfl,de h⟩)))
def aK{xs:Array b3}{i:Nat}{Q:b3->dz->Prop}{st:dz}(hi:i<xs.size)(h:∀ p,xs[i]? = some p->Q p st):wpS (aE prog w) A E s (elem' xs i) Q st:=by rw[elem'_eq,getElem?_pos xs i hi];exact de (h _ (getElem?_pos xs i hi))
def jA{st:dz}{i j:Nat}{Q:Option Bool->dz->Prop}(C:pV prog w A s κ r P)(hk:fw st=κ)(hP:AllP P (bI st))(hi:i<(bI st).size)(hj:j<(bI st).size)(h:Q (some (decide (R r (bI st) i<R r (bI st) j))) st):wpS (aE prog w) A E s (ltAt' i j) Q st:=by
 refine cx (wpS_get ?_);refine cx (aK hi λp ep=>cx (aK hj λq eq=>qI C hk (hP.at ep) (hP.at eq) ?_));have e1:R r (bI st) i=r p.1:=by unfold R;rw[ep]
 have e2:R r (bI st) j=r q.1:=by unfold R;rw[eq]
 rw[<- e1,<- e2];exact h
def cO{st:dz}{i j:Nat}{Q:Unit->dz->Prop}(h:Q () (setArr st (mirror (bI st) i j ((j-i) / 2)))) :
  wpS (aE prog w) A E s (reverseSlice' i j) Q st:=by
 rw[reverseSlice'_eq];exact Fm h
def fj{st:dz}{i j:Nat}(hj:j<=(bI st).size):n4 i j st (setArr st (mirror (bI st) i j ((j-i) / 2))) :=
 ⟨rfl,rfl,rfl,mirror_perm _ _ _ _,λk hk=>by
  have e:=getElem?_mirror_all (i:=i) hj k;rw[if_neg (by lia)] at e;exact e⟩
def wM{st:dz}{lo src d:Nat}(hs:src<(bI st).size)(hd:lo+d<=src):n4 lo (src+1) st (setArr st (bubble (bI st) src d)) :=
 ⟨rfl,rfl,rfl,bubble_perm _ _ _,λk hk=>by
  have e:=getElem?_bubble hs d (by lia) k;rw[if_neg (by lia),if_neg (by lia)] at e;exact e⟩
def wpS_binarySort{st:dz}{lo n ok:Nat}{Q:Bool->dz->Prop}(C:pV prog w A s κ r P)(hk:fw st=κ)(hP:AllP P (bI st))(hn:lo+n<=(bI st).size)(bP:ok<=n)(hs:Up r (bI st) lo (lo+ok))(h:∀ aw,n4 lo (lo+n) st aw->Up r (bI aw) lo (lo+n)->Q true aw):wpS (aE prog w) A E s (binarySort' lo n ok) Q st:=by
 refine cx (xE (tN (I:=λk c aw=>c=(none,())/\n4 lo (lo+n) st aw/\Up r (bI aw) lo (lo+min k n)) (Q:=λc aw=>c=(none,())/\n4 lo (lo+n) st aw/\Up r (bI aw) lo (lo+n)) ?step ?fin ?init) ?post)
 case post =>
  rintro c aw ⟨rfl,kN,gS⟩;exact de (h aw kN gS)
 case init =>
  refine⟨rfl,.refl _ _ _,λi j hl mn hj=>?_⟩;by_cases h1:ok=0
  ·have:i=j:=by lia
   subst this;exact An _
  ·exact hs i j hl mn (by lia)
 case fin =>
  rintro c aw ⟨hc,kN,gS⟩;refine⟨hc,kN,?_⟩;rwa[show min (max (max ok 1) n) n=n by lia] at gS
 case step =>
  rintro k c aw hak hkn ⟨rfl,kN,gS⟩;rw[show min k n=k by lia] at gS;have fN:=kN.size;have i7:fw aw=κ:=kN.kind.trans hk;have n5:=hP.perm kN.perm;refine cx (xE (tN (I:=λx c FY=>FY=aw/\∃ l r',c=(none,l,r')/\l<=r'/\r'<=k/\r'-l<=k-x /\ (∀ i,lo<=i->i<lo+l->R r (bI aw) i<=R r (bI aw) (lo+k))/\(∀ i,lo+r'<=i->i<lo+k->R r (bI aw) (lo+k)<R r (bI aw) i)) (Q:=λc FY=>FY=aw/\∃ l r',c=(none,l,r')/\l<=k /\ (∀ i,lo<=i->i<lo+l->R r (bI aw) i<=R r (bI aw) (lo+k))/\(∀ i,lo+l<=i->i<lo+k->R r (bI aw) (lo+k)<R r (bI aw) i)) ?kl' ?km' ?kn') ?ko')
  case kn'=>exact⟨rfl,0,k,rfl,by lia,by lia,by lia,λi _ hi=>by lia,λi h1 h2=>by lia⟩
  case km' =>
   rintro c FY ⟨rfl,l,r',rfl,hlr,hrk,hm,CH,EG⟩;have:l=r':=by lia
   subst this;exact⟨rfl,l,l,rfl,hrk,CH,EG⟩
  case kl' =>
   rintro x c FY _ hxk ⟨rfl,l,r',rfl,hlr,hrk,hm,CH,EG⟩;dsimp only;by_cases wo:l >= r'
   ·rw[if_pos wo];have:l=r':=by lia
    subst this;exact de ⟨rfl,l,l,rfl,hrk,CH,EG⟩
   ·rw[if_neg wo];refine cx (jA C i7 n5 (by lia) (by lia) ?_);by_cases AH:R r (bI FY) (lo+k)<R r (bI FY) (lo+(l+r') / 2)
    ·simp only[AH,decide_true,if_true];exact de ⟨rfl,l,(l+r') / 2,rfl,by lia,by lia,by lia,CH,λi h1 h2=>Int.lt_of_lt_of_le AH (gS _ _ (by lia) h1 h2)⟩
    ·simp only[AH,decide_false,xI,if_false];exact de ⟨rfl,(l+r') / 2+1,r',rfl,by lia,by lia,by lia,λi h0 h1=>Fn (gS i (lo+(l+r') / 2) h0 (by lia) (by lia)) (Int.not_lt.mp AH),EG⟩
  case ko' =>
   rintro c FY ⟨rfl,l,r',rfl,hlk,CH,EG⟩;show wpS _ _ _ _ (do moveDown' (lo+k) (lo+l);pure (ForInStep.yield (none,()))) _ _;rw[moveDown'_eq];have GA:lo+k<(bI FY).size:=by lia
   refine cx (Fm (de ⟨rfl,kN.trans ((wM GA (by lia)).mono (cK _) (by lia)),?_⟩));intro i j hl mn hj;rw[uX GA (by lia),uX GA (by lia),show lo+k-(lo+k-(lo+l))=lo+l by lia]
   repeat' split
   all_goals first
    | (exfalso;lia)
    |exact An _
    |exact CH _ (by lia) (by lia)
    |exact MG (EG _ (by lia) (by lia))
    |exact gS _ _ (by lia) (by lia) (by lia)
end
def ascL(lo a nrem:Nat):StateT dz Sem AscSt :=
 forIn [a:nrem] ((none,a):AscSt) λ_ __s=>do
  let __x ← ltAt' (lo + __s.snd) (lo + __s.snd - 1)
  match __x with
  |some smaller=>if smaller=true then pure (ForInStep.done (none,__s.snd)) else pure (ForInStep.yield (none,__s.snd+1))
  |_=>pure (ForInStep.done (some none,__s.snd))
def yV(lo n nrem:Nat):StateT dz Sem (Option Nat):=do
 reverseSlice' lo (lo+n)
 let __s ← ascL lo n nrem
 match __s.fst with
 |some r=>pure r
 |none=>pure (some __s.snd)
def Kz(lo n nrem:Nat):StateT dz Sem DescSt :=
 forIn [n:nrem] ((none,n,0):DescSt) λ_ __s=>do
  let __x ← ltAt' (lo + __s.snd.fst) (lo + __s.snd.fst - 1)
  match __x with
  |some smaller =>
   if smaller=true then
    if __s.snd.snd>0 then do
     reverseSlice' (lo+__s.snd.fst-(__s.snd.snd+1)) (lo+__s.snd.fst)
     pure (ForInStep.yield (none,__s.snd.fst+1,0))
    else pure (ForInStep.yield (none,__s.snd.fst+1,0))
   else do
    let __x ← ltAt' (lo+__s.snd.fst - 1) (lo+__s.snd.fst)
    match __x with
    |some larger =>
     if larger=true then pure (ForInStep.done (none,__s.snd.fst,__s.snd.snd))
     else pure (ForInStep.yield (none,__s.snd.fst+1,__s.snd.snd+1))
    |_=>pure (ForInStep.done (some none,__s.snd.fst,__s.snd.snd))
  |_=>pure (ForInStep.done (some none,__s.snd.fst,__s.snd.snd))
def kW(lo n nrem:Nat):StateT dz Sem (Option Nat):=do
 liftM (rule "list.sort.descending-run")
 let __s ← Kz lo (n+1) nrem
 match __s.fst with
 |some r=>pure r
 |none =>
  if __s.snd.snd>0 then do
   reverseSlice' (lo+__s.snd.fst-(__s.snd.snd+1)) (lo+__s.snd.fst)
   yV lo __s.snd.fst nrem
  else yV lo __s.snd.fst nrem
def pQ(lo nrem:Nat):countRun' lo nrem=(do
  let __s ← ascL lo 1 nrem
  match __s.fst with
  |some r=>pure r
  |none =>
   if (__s.snd == nrem)=true then pure (some __s.snd)
   else if __s.snd>1 then do
    let __x ← ltAt' lo (lo+__s.snd - 1)
    match __x with
    |some dz'=>if dz'=true then pure (some __s.snd) else do
      reverseSlice' lo (lo+__s.snd)
      kW lo __s.snd nrem
    |_=>pure none
   else kW lo __s.snd nrem):=by
 rw[countRun'_eq];dsimp only;congr 1;funext __s;obtain⟨r,n⟩:=__s
 cases r with
 |some r=>rfl
 |none =>
  dsimp only;split
  ·rfl
  ·split
   ·congr 1;funext x
    cases x with
    |none=>rfl
    |some dz' =>
     dsimp only;split
     ·rfl
     ·congr 1;funext _r
      (congr 1;funext _u;congr 1;congr 1;funext s2;obtain⟨r2,n2,q2⟩:=s2;cases r2 with
       |some r2=>rfl
       |none=>(dsimp only;split;(congr 1;funext _v;(congr 1;funext _w;congr 1;(funext s3;obtain⟨r3,n3⟩:=s3;cases r3<;>rfl)));(congr 1;funext _w;congr 1;(funext s3;obtain⟨r3,n3⟩:=s3;cases r3<;>rfl))))
   ·(congr 1;funext _u;congr 1;congr 1;funext s2;obtain⟨r2,n2,q2⟩:=s2;cases r2 with
     |some r2=>rfl
     |none=>(dsimp only;split;(congr 1;funext _v;(congr 1;funext _w;congr 1;(funext s3;obtain⟨r3,n3⟩:=s3;cases r3<;>rfl)));(congr 1;funext _w;congr 1;(funext s3;obtain⟨r3,n3⟩:=s3;cases r3<;>rfl))))
section
variable {prog:cf}{w:cw}{A:ft}{E:ag->aI->Prop}{s:aI}{κ:y8}{r:ag->Int}{P:ag->Prop}
def uV{st:dz}{lo a nrem:Nat}{Q:AscSt->dz->Prop}(C:pV prog w A s κ r P)(hk:fw st=κ)(hP:AllP P (bI st))(hn:lo+nrem<=(bI st).size)(ha:1<=a)(han:a<=nrem)(hs:Up r (bI st) lo (lo+a))(h:∀ n,a<=n->n<=nrem->Up r (bI st) lo (lo+n)->(n=nrem\/R r (bI st) (lo+n)<R r (bI st) (lo+n-1))->Q (none,n) st) :
  wpS (aE prog w) A E s (ascL lo a nrem) Q st:=by
 refine tN (I:=λx c aw=>aw=st/\c=(none,x)/\Up r (bI st) lo (lo+x)) ?step ?fin ⟨rfl,rfl,hs⟩;case fin =>
  rintro c aw ⟨rfl,rfl,gS⟩;rw[show max a nrem=nrem by lia] at gS ⊢;exact h nrem han (cK _) gS (.inl rfl)
 case step =>
  rintro x c aw hax hxn ⟨rfl,rfl,gS⟩;refine cx (jA C hk hP (by lia) (by lia) ?_);by_cases AH:R r (bI aw) (lo+x)<R r (bI aw) (lo+x-1)
  ·simp only[AH,decide_true,if_true];exact de (h x hax (by lia) gS (.inr AH))
  ·simp only[AH,decide_false,xI,if_false];refine de ⟨rfl,rfl,λi j hl mn hj=>?_⟩;by_cases TB:j<lo+x
   ·exact gS i j hl mn TB
   ·have Bz:j=lo+x:=by lia
    subst Bz;by_cases kX:i=lo+x
    ·subst kX;exact An _
    ·exact Fn (gS i (lo+x-1) hl (by lia) (by lia)) (Int.not_lt.mp AH)
def lW{st:dz}{lo n nrem:Nat}{Q:Option Nat->dz->Prop}(C:pV prog w A s κ r P)(hk:fw st=κ)(hP:AllP P (bI st))(hn:lo+nrem<=(bI st).size)(h1:1<=n)(GB:n<=nrem)(hs:Down r (bI st) lo (lo+n)) (h:∀ m aw,n4 lo (lo+nrem) st aw->1<=m->m<=nrem->Up r (bI aw) lo (lo+m)->Q (some m) aw) :
  wpS (aE prog w) A E s (yV lo n nrem) Q st:=by
 have fN:lo+n<=(bI st).size:=by lia
 refine cx (cO ?_);have kN:=fj (i:=lo) fN;refine cx (uV C (kN.kind.trans hk) (hP.perm kN.perm) (by rw[kN.size];exact hn) h1 GB ?_ λm AI x5 hsm _=>de (h m _ (kN.mono (cK _) (by lia)) (by lia) x5 hsm));intro i j hl mn hj;rw[nW fN,nW fN,if_pos (by lia),if_pos (by lia)];exact hs _ _ (by lia) (by lia) (by lia)
def yZ{st:dz}{lo n nrem:Nat}{Q:DescSt->dz->Prop}(C:pV prog w A s κ r P)(hk:fw st=κ)(hP:AllP P (bI st))(hn:lo+nrem<=(bI st).size)(h1:1<=n)(GB:n<=nrem)(hs:Down r (bI st) lo (lo+n))(h:∀ m wq aw,n4 lo (lo+nrem) st aw->n<=m->m<=nrem->Down r (bI aw) lo (lo+m)->wq+1<=m->(∀ i,lo+m-(wq+1)<=i->i<lo+m->R r (bI aw) i=R r (bI aw) (lo+m-1))->Q (none,m,wq) aw) :
  wpS (aE prog w) A E s (Kz lo n nrem) Q st:=by
 refine tN (I:=λx c aw=>∃ wq,c=(none,x,wq)/\n4 lo (lo+nrem) st aw/\Down r (bI aw) lo (lo+x)/\wq+1<=x /\ (∀ i,lo+x-(wq+1)<=i->i<lo+x->R r (bI aw) i=R r (bI aw) (lo+x-1))) ?step ?fin ⟨0,rfl,.refl _ _ _,hs,by lia,λi h1 h2=>by congr 1;lia⟩
 case fin =>
  rintro c aw ⟨wq,rfl,kN,gS,hq,he⟩;rw[show max n nrem=nrem by lia] at gS hq he ⊢;exact h nrem wq aw kN GB (cK _) gS hq he
 case step =>
  rintro x c aw hax hxn ⟨wq,rfl,kN,gS,hq,he⟩;dsimp only;have hz:=kN.size;have fN:lo+x<=(bI aw).size:=by lia
  have i7:=kN.kind.trans hk;have n5:=hP.perm kN.perm;refine cx (jA C i7 n5 (by lia) (by lia) ?_);by_cases AH:R r (bI aw) (lo+x)<R r (bI aw) (lo+x-1)
  ·simp only[AH,decide_true,if_true];have dA':∀ xs:Array b3,(∀ k,R r xs k=R r (bI aw) k)->Down r xs lo (lo+(x+1)):=by
    intro xs hkk i j hl mn hj;rw[hkk,hkk];by_cases TB:j<lo+x
    ·exact gS i j hl mn TB
    ·have Bz:j=lo+x:=by lia
     subst Bz;by_cases kX:i=lo+x
     ·subst kX;exact An _
     ·exact Fn (MG AH) (gS i (lo+x-1) hl (by lia) (by lia))
   by_cases TC:wq>0
   ·rw[if_pos TC];refine cx (cO (de ⟨0,rfl,kN.trans ((fj fN).mono (by lia) (by lia)),dA' _ (bA fN he),by lia,λi h1 h2=>by congr 1;lia⟩))
   ·rw[if_neg TC];exact de ⟨0,rfl,kN,dA' _ (λ_=>rfl),by lia,λi h1 h2=>by congr 1;lia⟩
  ·simp only[AH,decide_false,xI,if_false];refine cx (jA C i7 n5 (by lia) (by lia) ?_);by_cases dC':R r (bI aw) (lo+x-1)<R r (bI aw) (lo+x)
   ·simp only[dC',decide_true,if_true];exact de (h x wq aw kN hax (by lia) gS hq he)
   ·simp only[dC',decide_false,xI,if_false];have dD':R r (bI aw) (lo+x)=R r (bI aw) (lo+x-1):=by lia
    refine de ⟨wq+1,rfl,kN,λi j hl mn hj=>?_,by lia,λi h1 h2=>?_⟩
    ·by_cases TB:j<lo+x
     ·exact gS i j hl mn TB
     ·have Bz:j=lo+x:=by lia
      subst Bz;by_cases kX:i=lo+x
      ·subst kX;exact An _
      ·rw[dD'];exact gS i (lo+x-1) hl (by lia) (by lia)
    ·rw[show lo+(x+1)-1=lo+x by lia];by_cases NX:i=lo+x
     ·subst NX;rfl
     ·rw[dD'];exact he i (by lia) (by lia)
def gA{st:dz}{lo n nrem:Nat}{Q:Option Nat->dz->Prop}(C:pV prog w A s κ r P)(hk:fw st=κ)(hP:AllP P (bI st))(hn:lo+nrem<=(bI st).size)(GB:n+1<=nrem)(hs:Down r (bI st) lo (lo+(n+1))) (h:∀ m aw,n4 lo (lo+nrem) st aw->1<=m->m<=nrem->Up r (bI aw) lo (lo+m)->Q (some m) aw) :
  wpS (aE prog w) A E s (kW lo n nrem) Q st:=by
 refine cx (wpS_lift (zS ⟨rfl,?_⟩));refine cx (yZ C hk hP hn (by lia) GB hs λm wq aw kN AI x5 gS hq he=>?_);dsimp only;have hz:=kN.size;have fN:lo+m<=(bI aw).size:=by lia
 have i7:=kN.kind.trans hk;have n5:=hP.perm kN.perm;by_cases TC:wq>0
 ·rw[if_pos TC];have hW:=fj (i:=lo+m-(wq+1)) fN;refine cx (cO (lW C (hW.kind.trans i7) (n5.perm hW.perm) (by rw[hW.size,hz];exact hn) (by lia) x5 ?_ λm2 A3 TF=>h m2 A3 ((kN.trans (hW.mono (by lia) (by lia))).trans TF)));intro i j hl mn hj;rw[bA fN he,bA fN he];exact gS i j hl mn hj
 ·rw[if_neg TC];exact lW C i7 n5 (by rw[hz];exact hn) (by lia) x5 gS λm2 A3 TF=>h m2 A3 (kN.trans TF)
def wpS_countRun{st:dz}{lo nrem:Nat}{Q:Option Nat->dz->Prop}(C:pV prog w A s κ r P)(hk:fw st=κ)(hP:AllP P (bI st))(hn:lo+nrem<=(bI st).size)(h1:1<=nrem)(h:∀ m aw,n4 lo (lo+nrem) st aw->1<=m->m<=nrem->Up r (bI aw) lo (lo+m)->Q (some m) aw) :
  wpS (aE prog w) A E s (countRun' lo nrem) Q st:=by
 rw[pQ];refine cx (uV C hk hP hn (cK 1) h1 (λi j hl mn hj=>by
  have:i=j:=by lia
  subst this;exact An _) λn hn1 FE ox hor=>?_)
 by_cases GB:n=nrem
 ·rw[if_pos (by simpa using GB)];exact de (h n st (.refl _ _ _) hn1 FE ox)
 ·rw[if_neg (by simpa using GB)];have eK:R r (bI st) (lo+n)<R r (bI st) (lo+n-1):=hor.resolve_left GB;by_cases hgt:n>1
  ·rw[if_pos hgt];refine cx (jA C hk hP (by lia) (by lia) ?_);by_cases dG':R r (bI st) lo<R r (bI st) (lo+n-1)
   ·simp only[dG',decide_true,if_true];exact de (h n st (.refl _ _ _) hn1 FE ox)
   ·simp only[dG',decide_false,xI,if_false];have fN:lo+n<=(bI st).size:=by lia
    have FT:∀ k,lo<=k->k<lo+n->R r (bI st) k=R r (bI st) (lo+n-1):=by intro k hl hk;have a1:=ox lo k (by lia) hl hk;have a2:=ox k (lo+n-1) hl (by lia) (by lia);lia
    have hW:=fj (i:=lo) fN;refine cx (cO (gA C (hW.kind.trans hk) (hP.perm hW.perm) (by rw[hW.size];exact hn) (by lia) ?_ λm2 A3 TF=>h m2 A3 ((hW.mono (cK _) (by lia)).trans TF)));intro i j hl mn hj;rw[bA fN FT,bA fN FT];by_cases hjn:j<lo+n
    ·rw[FT i hl (by lia),FT j (by lia) hjn];exact An _
    ·have Bz:j=lo+n:=by lia
     subst Bz;by_cases kX:i=lo+n
     ·subst kX;exact An _
     ·rw[FT i hl (by lia)];exact MG eK
  ·rw[if_neg hgt];have ky':n=1:=by lia
   subst ky';refine gA C hk hP hn (by lia) ?_ h;intro i j hl mn hj;by_cases kX:i=j
   ·subst kX;exact An _
   ·have FU:i=lo:=by lia
    have hj1:j=lo+1:=by lia
    subst FU;subst hj1;exact MG eK
end
def FW(left:Bool)(key:b3)(arr:Array b3)(base i:Nat):StateT dz Sem (Option Bool):=do
 let x ← elem' arr (base+i)
 if left then lt' x key else return (<- lt' key x).map (!·)
def jL:Bool->b3->Array b3->Nat->Nat->Nat->StateT dz Sem (Option Nat):=sortPriv% PySem.Builtin.gallop
section
variable {prog:cf}{w:cw}{A:ft}{E:ag->aI->Prop}{s:aI}{κ:y8}{r:ag->Int}{P:ag->Prop}
def gp(r:ag->Int)(left:Bool)(key:b3)(arr:Array b3)(base i:Nat):Bool :=
 if left then decide (R r arr (base+i)<r key.1) else !decide (r key.1<R r arr (base+i))
def cY{st:dz}{left:Bool}{key:b3}{arr:Array b3}{base i:Nat}{Q:Option Bool->dz->Prop}(C:pV prog w A s κ r P)(hk:fw st=κ)(hP:AllP P arr)(hy:P key.1)(hi:base+i<arr.size)(h:Q (some (gp r left key arr base i)) st):wpS (aE prog w) A E s (FW left key arr base i) Q st:=by
 refine cx (aK hi λp ep=>?_);have e1:R r arr (base+i)=r p.1:=by unfold R;rw[ep]
 unfold gp at h;rw[e1] at h
 cases left with
 |true =>exact qI C hk (hP.at ep) hy h
 |false =>exact cx (qI C hk hy (hP.at ep) (de h))
def Bp(hu:Up r arr base (base+n))(mn:i<=j)(hj:j<n)(h:gp r left key arr base j=true):gp r left key arr base i=true:=by
 have q:=hu (base+i) (base+j) (by lia) (by lia) (by lia);unfold gp at h ⊢
 cases left with
 |true=>simp only[if_true,decide_eq_true_eq] at h ⊢;lia
 |false=>simp only[xI,if_false,Bool.not_eq_true',decide_eq_false_iff_not] at h ⊢;lia
def cG{st:dz}{left:Bool}{key:b3}{arr:Array b3}{base n hint:Nat}{Q:Option Nat->dz->Prop}(C:pV prog w A s κ r P)(hk:fw st=κ)(hP:AllP P arr)(hy:P key.1)(hn:base+n<=arr.size)(hh:hint<n)(hu:Up r arr base (base+n))(h:∀ k,k<=n->(∀ i,i<k->gp r left key arr base i=true)->(∀ i,k<=i->i<n->gp r left key arr base i=false)->Q (some k) st):wpS (aE prog w) A E s (jL left key arr base n hint) Q st:=by
 have mono:∀ {i j},i<=j->j<n->gp r left key arr base j=true->gp r left key arr base i=true:=λa b c=>Bp hu a b c;have VC:∀ {i j},i<=j->j<n->gp r left key arr base i=false->gp r left key arr base j=false:=λ{i j} a b c=>by
  cases q:gp r left key arr base j with
  |false=>rfl
  |true=>rw[mono a b q] at c;cases c
 refine cx (cY C hk hP hy (by lia) ?_);dsimp only
 cases q0:gp r left key arr base hint with
 |true =>
  refine cx (xE (tN (I:=λx c aw=>aw=st/\∃ lst gV,c=(none,lst,gV)/\lst<gV/\lst<n-hint/\x+1<=gV/\gp r left key arr base (hint+lst)=true) (Q:=λc aw=>aw=st/\∃ lst gV,c=(none,lst,gV)/\lst<gV/\lst<n-hint/\gp r left key arr base (hint+lst)=true/\(n-hint<=gV\/gp r left key arr base (hint+gV)=false)) ?step ?fin ?init) ?post)
  case init=>exact⟨rfl,0,1,rfl,by lia,by lia,by lia,q0⟩
  case fin =>
   rintro c aw ⟨rfl,lst,gV,rfl,h1,h2,h3,h4⟩;exact⟨rfl,lst,gV,rfl,h1,h2,h4,.inl (by lia)⟩
  case step =>
   rintro x c aw _ hx ⟨rfl,lst,gV,rfl,h1,h2,h3,h4⟩;dsimp only;by_cases wo:gV >= n-hint
   ·rw[if_pos wo];exact de ⟨rfl,lst,gV,rfl,h1,h2,h4,.inl wo⟩
   ·rw[if_neg wo];refine cx (cY C hk hP hy (by lia) ?_)
    cases q:gp r left key arr base (hint+gV) with
    |true =>exact de ⟨rfl,_,_,rfl,by lia,by lia,by lia,q⟩
    |false =>exact de ⟨rfl,lst,gV,rfl,h1,h2,h4,.inr q⟩
  case post =>
   rintro c aw ⟨rfl,lst,gV,rfl,h1,h2,h4,h5⟩;generalize aw=st at *
   have hl:∀ i,i<hint+lst+1->gp r left key arr base i=true:=λi hi=>mono (by lia) (by lia) h4;have EG:∀ i,hint+min gV (n-hint)<=i->i<n->gp r left key arr base i=false:=λi hi dr=>by
    rcases h5 with h5|h5
    ·lia
    ·by_cases z:n-hint<=gV
     ·lia
     ·exact VC (by lia) dr h5
   have hlh:hint+lst+1<=hint+min gV (n-hint):=by lia
   have hhn:hint+min gV (n-hint)<=n:=by lia
   generalize hint+lst+1=lo at *
   generalize hint+min gV (n-hint)=hi at *
   refine cx (xE (tN (I:=λx c aw=>aw=st/\∃ l u,c=(none,l,u)/\l<=u/\u<=n/\u-l<=n-x/\(∀ i,i<l->gp r left key arr base i=true)/\(∀ i,u<=i->i<n->gp r left key arr base i=false)) (Q:=λc aw=>aw=st/\∃ l,c=(none,l,l)/\l<=n/\(∀ i,i<l->gp r left key arr base i=true)/\(∀ i,l<=i->i<n->gp r left key arr base i=false)) ?kA' ?kB' ?kC') ?postA)
   case kC'=>exact⟨rfl,lo,hi,rfl,hlh,hhn,by lia,hl,EG⟩
   case kB' =>
    rintro c aw ⟨rfl,l,u,rfl,h1,h2,h3,h4,h5⟩;have:l=u:=by lia
    subst this;exact⟨rfl,l,rfl,h2,h4,h5⟩
   case kA' =>
    rintro x c aw _ hx ⟨rfl,l,u,rfl,h1,h2,h3,h4,h5⟩;dsimp only;by_cases wo:l >= u
    ·rw[if_pos wo];have:l=u:=by lia
     subst this;exact de ⟨rfl,l,rfl,h2,h4,h5⟩
    ·rw[if_neg wo];refine cx (cY C hk hP hy (by lia) ?_)
     cases q:gp r left key arr base (l+(u-l) / 2) with
     |true =>exact de ⟨rfl,_,_,rfl,by lia,by lia,by lia,λi hi=>mono (by lia) (by lia) q,h5⟩
     |false =>exact de ⟨rfl,_,_,rfl,by lia,by lia,by lia,h4,λi hi dr=>VC (by lia) dr q⟩
   case postA =>
    rintro c aw ⟨rfl,l,rfl,h2,h4,h5⟩;exact de (h l h2 h4 h5)
 |false =>
  refine cx (xE (tN (I:=λx c aw=>aw=st/\∃ lst gV,c=(none,lst,gV)/\lst<gV/\lst<hint+1/\x+1<=gV/\gp r left key arr base (hint-lst)=false) (Q:=λc aw=>aw=st/\∃ lst gV,c=(none,lst,gV)/\lst<gV/\lst<hint+1/\gp r left key arr base (hint-lst)=false/\(hint+1<=gV\/gp r left key arr base (hint-gV)=true)) ?kD' ?fin2 ?kE') ?kF')
  case kE'=>exact⟨rfl,0,1,rfl,by lia,by lia,by lia,q0⟩
  case fin2 =>
   rintro c aw ⟨rfl,lst,gV,rfl,h1,h2,h3,h4⟩;exact⟨rfl,lst,gV,rfl,h1,h2,h4,.inl (by lia)⟩
  case kD' =>
   rintro x c aw _ hx ⟨rfl,lst,gV,rfl,h1,h2,h3,h4⟩;dsimp only;by_cases wo:gV >= hint+1
   ·rw[if_pos wo];exact de ⟨rfl,lst,gV,rfl,h1,h2,h4,.inl wo⟩
   ·rw[if_neg wo];refine cx (cY C hk hP hy (by lia) ?_)
    cases q:gp r left key arr base (hint-gV) with
    |true =>exact de ⟨rfl,lst,gV,rfl,h1,h2,h4,.inr q⟩
    |false =>exact de ⟨rfl,_,_,rfl,by lia,by lia,by lia,q⟩
  case kF' =>
   rintro c aw ⟨rfl,lst,gV,rfl,h1,h2,h4,h5⟩;generalize aw=st at *
   have hl:∀ i,i<hint+1-min gV (hint+1)->gp r left key arr base i=true:=λi hi=>by
    rcases h5 with h5|h5
    ·lia
    ·by_cases z:hint+1<=gV
     ·lia
     ·exact mono (by lia) (by lia) h5
   have EG:∀ i,hint-lst<=i->i<n->gp r left key arr base i=false:=λi hi dr=>VC (by lia) dr h4;have hlh:hint+1-min gV (hint+1)<=hint-lst:=by lia
   have hhn:hint-lst<=n:=by lia
   generalize hint+1-min gV (hint+1)=lo at *
   generalize hint-lst=hi at *
   refine cx (xE (tN (I:=λx c aw=>aw=st/\∃ l u,c=(none,l,u)/\l<=u/\u<=n/\u-l<=n-x/\(∀ i,i<l->gp r left key arr base i=true)/\(∀ i,u<=i->i<n->gp r left key arr base i=false)) (Q:=λc aw=>aw=st/\∃ l,c=(none,l,l)/\l<=n/\(∀ i,i<l->gp r left key arr base i=true)/\(∀ i,l<=i->i<n->gp r left key arr base i=false)) ?kG' ?kH' ?kI') ?kJ')
   case kI'=>exact⟨rfl,lo,hi,rfl,hlh,hhn,by lia,hl,EG⟩
   case kH' =>
    rintro c aw ⟨rfl,l,u,rfl,h1,h2,h3,h4,h5⟩;have:l=u:=by lia
    subst this;exact⟨rfl,l,rfl,h2,h4,h5⟩
   case kG' =>
    rintro x c aw _ hx ⟨rfl,l,u,rfl,h1,h2,h3,h4,h5⟩;dsimp only;by_cases wo:l >= u
    ·rw[if_pos wo];have:l=u:=by lia
     subst this;exact de ⟨rfl,l,rfl,h2,h4,h5⟩
    ·rw[if_neg wo];refine cx (cY C hk hP hy (by lia) ?_)
     cases q:gp r left key arr base (l+(u-l) / 2) with
     |true =>exact de ⟨rfl,_,_,rfl,by lia,by lia,by lia,λi hi=>mono (by lia) (by lia) q,h5⟩
     |false =>exact de ⟨rfl,_,_,rfl,by lia,by lia,by lia,h4,λi hi dr=>VC (by lia) dr q⟩
   case kJ' =>
    rintro c aw ⟨rfl,l,rfl,h2,h4,h5⟩;exact de (h l h2 h4 h5)
end
abbrev Le(r:ag->Int)(x y:b3):Prop:=r x.1<=r y.1
def sP(e:xs[i]? = some p):R r xs i=r p.1:=by unfold R;rw[e]
def JT(h:i<xs.size):R r xs i=r xs[i].1:=sP (getElem?_pos xs i h)
structure MI(r:ag->Int)(a b out:Array b3)(ia ib:Nat):Prop where
 ha:ia<=a.size
 hb:ib<=b.size
 perm:out.toList.Perm (a.toList.take ia++b.toList.take ib)
 up:out.toList.Pairwise (Le r)
 la:∀ x∈out.toList,∀ i,ia<=i->i<a.size->r x.1<=R r a i
 lb:∀ x∈out.toList,∀ j,ib<=j->j<b.size->r x.1<=R r b j
section
variable {r:ag->Int}{a b out:Array b3}{ia ib:Nat}
def wG{α:Type}{l:List α}{i:Nat}{x:α}(h:l[i]? = some x):l.take (i+1)=l.take i++[x]:=by rw[vt,h];rfl
def MI.pX(M:MI r a b out ia ib)(hA:Up r a 0 a.size)(hB:Up r b 0 b.size)(e:b[ib]? = some y)(hl:ia<a.size->R r b ib<=R r a ia):MI r a b (out.push y) ia (ib+1):=by
 have hib:ib<b.size:=(Zn.mp e).1;have ey:=sP (r:=r) e;refine⟨M.ha,hib,?_,?_,?_,?_⟩
 ·rw[ML,wG (by simpa using e),<- B7];exact M.perm.append_right _
 ·rw[ML,List.pairwise_append];refine⟨M.up,by simp,λx hx z hz=>?_⟩;have:z=y:=by simpa using hz
  subst this;show r x.1<=r z.1;rw[<- ey];exact M.lb x hx ib (cK _) hib
 ·intro x hx i hi hia;rw[ML] at hx;rcases hJ.mp hx with hx|hx
  ·exact M.la x hx i hi hia
  ·have:x=y:=by simpa using hx
   subst this;rw[<- ey];exact Fn (hl (by lia)) (hA ia i (f7 _) hi hia)
 ·intro x hx j hj hjb;rw[ML] at hx;rcases hJ.mp hx with hx|hx
  ·exact M.lb x hx j (by lia) hjb
  ·have:x=y:=by simpa using hx
   subst this;rw[<- ey];exact hB ib j (f7 _) (by lia) hjb
def MI.swap(M:MI r a b out ia ib):MI r b a out ib ia:=⟨M.hb,M.ha,M.perm.trans List.perm_append_comm,M.up,M.lb,M.la⟩
def MI.qL(M:MI r a b out ia ib)(hA:Up r a 0 a.size)(hB:Up r b 0 b.size)(e:a[ia]? = some y)(hl:ib<b.size->R r a ia<=R r b ib):MI r a b (out.push y) (ia+1) ib:=(M.swap.pX hB hA e hl).swap
def pN{xs:Array b3}{i k:Nat}(h:i+k<xs.size):xs.extract i (i+(k+1))=(xs.extract i (i+k)).push xs[i+k]:=by apply UM.mp;rw[ML];simp only[Zq,W5];rw[show i+(k+1)-i=k+1 by lia,show i+k-i=k by lia,vt];congr 1;simp[h]
theorem MI.GH(hA:Up r a 0 a.size)(hB:Up r b 0 b.size):∀ k {out} {ib},MI r a b out ia ib->ib+k<=b.size->(ia<a.size->∀ i,i<k->R r b (ib+i)<=R r a ia)->MI r a b (out++b.extract ib (ib+k)) ia (ib+k)
 |0,out,ib,M,h1,h2=>by have:b.extract ib (ib+0) = #[]:=xdL (by simp only[UL];lia);rw[this];simpa using M
 |k+1,out,ib,M,h1,h2=>by have q:=MI.GH hA hB k M (by lia) λha i hi=>h2 ha i (by lia);have e:b[ib+k]? = some b[ib+k]:=getElem?_pos b (ib+k) (by lia);have z:=q.pX hA hB e λha=>h2 ha k (by lia);rw[pN (by lia),Array.append_push];exact z
def MI.GL(hA:Up r a 0 a.size)(hB:Up r b 0 b.size)(k:Nat)(M:MI r a b out ia ib)(h1:ia+k<=a.size)(h2:ib<b.size->∀ i,i<k->R r a (ia+i)<=R r b ib):MI r a b (out++a.extract ia (ia+k)) (ia+k) ib:=(MI.GH hB hA k M.swap h1 h2).swap
def bO(r:ag->Int)(a b out:Array b3):Prop:=out.toList.Perm (a.toList++b.toList)/\out.toList.Pairwise (Le r)
def MI.whole(M:MI r a b out a.size b.size):bO r a b out:=by refine⟨?_,M.up⟩;have h:=M.perm;rw[L4 (by simp),L4 (by simp)] at h;exact h
def MI.Mm(M:MI r a b out ia b.size)(hA:Up r a 0 a.size)(hB:Up r b 0 b.size):bO r a b (out++a.extract ia a.size++b.extract b.size b.size):=by
 have e:b.extract b.size b.size = #[]:=by simp
 rw[e,Zt];have ha:=M.ha;have q:=MI.GL hA hB (a.size-ia) M (by lia) λhb=>absurd hb (xD _);rw[show ia+(a.size-ia)=a.size by exact Sx ‹_›] at q;exact q.whole
def MI.LR(M:MI r a b out a.size ib)(hA:Up r a 0 a.size)(hB:Up r b 0 b.size):bO r a b (out++a.extract a.size a.size++b.extract ib b.size):=by
 have e:a.extract a.size a.size = #[]:=by simp
 rw[e,Zt];have hb:=M.hb;have q:=MI.GH hA hB (b.size-ib) M (by lia) λha=>absurd ha (xD _);rw[show ib+(b.size-ib)=b.size by exact Sx ‹_›] at q;exact q.whole
def MI.Rv(M:MI r a b out ia ib)(hA:Up r a 0 a.size)(hB:Up r b 0 b.size)(e:ib=b.size):bO r a b (out++a.extract ia a.size++b.extract ib b.size):=by subst e;exact M.Mm hA hB
def MI.Rx(M:MI r a b out ia ib)(hA:Up r a 0 a.size)(hB:Up r b 0 b.size)(e:ia=a.size):bO r a b (out++a.extract ia a.size++b.extract ib b.size):=by subst e;exact M.LR hA hB
def MI.Nt(M:MI r a b out ia ib)(hA:Up r a 0 a.size)(hB:Up r b 0 b.size)(hia:ia+1=a.size)(hg:∀ j,j<b.size->R r b j<=R r a ia):bO r a b (out++b.extract ib b.size++a.extract ia a.size):=by have hb:=M.hb;have q:=MI.GH hA hB (b.size-ib) M (by lia) λha i hi=>hg _ (by lia);rw[show ib+(b.size-ib)=b.size by exact Sx ‹_›] at q;have z:=MI.GL hA hB (a.size-ia) q (by lia) λhb=>absurd hb (xD _);rw[show ia+(a.size-ia)=a.size by lia] at z;exact z.whole
def MI.start(hA:Up r a 0 a.size)(hB:Up r b 0 b.size):MI r a b #[] 0 0:=⟨f7 _,f7 _,by simp,by simp,λx hx=>by simp at hx,λx hx=>by simp at hx⟩
end
def bw:Nat->StateT dz Sem Unit:=sortPriv% PySem.Builtin.setMinGallop
def t_:Array b3->Array b3->StateT dz Sem (Array b3):=sortPriv% PySem.Builtin.mergeLo
def ue:Array b3->Array b3->StateT dz Sem (Array b3):=sortPriv% PySem.Builtin.mergeHi
def jm(g:Nat):bw g=modify λs=>SortSt.mk' (fw s) (bI s) (mM s) g (tP s):=rfl
def Mg(st aw:dz):Prop:=∃ g,aw=SortSt.mk' (fw st) (bI st) (mM st) g (tP st)
def Mg.refl(st:dz):Mg st st:=⟨gallopOf st,rfl⟩
def Mg.kind{st aw:dz}(h:Mg st aw):fw aw=fw st:=by obtain⟨g,rfl⟩:=h;rfl
def Mg.set{st aw:dz}(h:Mg st aw)(g:Nat):Mg st (SortSt.mk' (fw aw) (bI aw) (mM aw) g (tP aw)):=by obtain⟨g',rfl⟩:=h;exact⟨g,rfl⟩
section
variable {prog:cf}{w:cw}{A:ft}{E:ag->aI->Prop}{s:aI}{r:ag->Int}
def gJ{st:dz}{g:Nat}{Q:Unit->dz->Prop}(h:Q () (SortSt.mk' (fw st) (bI st) (mM st) g (tP st))):wpS (aE prog w) A E s (bw g) Q st:=by rw[jm];exact Fm h
def BL(h:gp r false key arr base i=true):R r arr (base+i)<=r key.1:=by unfold gp at h;simp only[xI,if_false,Bool.not_eq_true',decide_eq_false_iff_not] at h;lia
def yl(h:gp r false key arr base i=false):r key.1<R r arr (base+i):=by unfold gp at h;simp only[xI,if_false,Bool.not_eq_false',decide_eq_true_eq] at h;exact h
def Gm(h:gp r true key arr base i=true):R r arr (base+i)<r key.1:=by unfold gp at h;simp only[if_true,decide_eq_true_eq] at h;exact h
def uP(h:gp r true key arr base i=false):r key.1<=R r arr (base+i):=by unfold gp at h;simp only[if_true,decide_eq_false_iff_not] at h;lia
end
def Mg.trans{a b c:dz}(h:Mg a b)(g:Mg b c):Mg a c:=by obtain⟨x,rfl⟩:=h;obtain⟨y,rfl⟩:=g;exact⟨y,rfl⟩
def GZ{K G:Prop}(pk:K)(h:K->G):G:=h pk
abbrev SM:=StateT dz Sem
abbrev L1:=Option (Array b3) × Array b3 × Nat × Nat × Nat
abbrev N0:=Option (Array b3) × Array b3 × Nat × Nat × Nat × Nat
abbrev L3:=Option (Array b3) × Array b3 × Nat × Nat × Nat × Nat × Nat
def KW(a b out:Array b3)(ia ib:Nat):Array b3:=out++a.extract ia a.size++b.extract ib b.size
def TH(a b out:Array b3)(ia ib:Nat):Array b3:=out++b.extract ib b.size++a.extract ia a.size
def lo3(a b:Array b3)(mg ac bc ia ib:Nat)(out:Array b3):SM (ForInStep L3):=elem' a ia >>= λp =>
 if (ia+1+1 == a.size)=true then pure (.done (some (TH a b (out.push p) (ia+1) ib),out.push p,ia+1,ib,mg,ac,bc))
 else if (decide (ac<7) && decide (bc<7))=true then pure (.done (none,out.push p,ia+1,ib,mg,ac,bc)) else pure (.yield (none,out.push p,ia+1,ib,mg,ac,bc))
def N4(a b:Array b3)(mg ac bc ia ib:Nat)(out:Array b3):SM (ForInStep L3):=elem' a ia >>= λp=>jL true p b ib (b.size-ib) 0 >>= λx=>match x with
 |some k=>if k>0 then
   if (ib+k == b.size)=true then pure (.done (some (KW a b (out++b.extract ib (ib+k)) ia (ib+k)),out++b.extract ib (ib+k),ia,ib+k,mg,ac,k))
   else lo3 a b mg ac k ia (ib+k) (out++b.extract ib (ib+k))
  else lo3 a b mg ac k ia ib out
 |_=>pure (.done (some (KW a b out ia ib),out,ia,ib,mg,ac,bc))
def lo1(a b:Array b3)(mg ac bc ia ib:Nat)(out:Array b3):SM (ForInStep L3):=elem' b ib >>= λp =>
 if (ib+1 == b.size)=true then pure (.done (some (KW a b (out.push p) ia (ib+1)),out.push p,ia,ib+1,mg,ac,bc)) else N4 a b mg ac bc ia (ib+1) (out.push p)
def lo0(a b:Array b3)(mg ac bc ia ib:Nat)(out:Array b3):SM (ForInStep L3):=bw mg >>= λ_=>elem' b ib >>= λp=>jL false p a ia (a.size-ia) 0 >>= λx=>match x with
 |some k=>if k>0 then
   if (ia+k+1 == a.size)=true then pure (.done (some (TH a b (out++a.extract ia (ia+k)) (ia+k) ib),out++a.extract ia (ia+k),ia+k,ib,mg,k,bc))
   else if (ia+k == a.size)=true then pure (.done (some (KW a b (out++a.extract ia (ia+k)) (ia+k) ib),out++a.extract ia (ia+k),ia+k,ib,mg,k,bc))
   else lo1 a b mg k bc (ia+k) ib (out++a.extract ia (ia+k))
  else lo1 a b mg k bc ia ib out
 |_=>pure (.done (some (KW a b out ia ib),out,ia,ib,mg,ac,bc))
def loG(a b:Array b3)(_:Nat)(s:L3):SM (ForInStep L3) :=
 if s.2.2.2.2.1>1 then lo0 a b (s.2.2.2.2.1-1) s.2.2.2.2.2.1 s.2.2.2.2.2.2 s.2.2.1 s.2.2.2.1 s.2.1 else lo0 a b s.2.2.2.2.1 s.2.2.2.2.2.1 s.2.2.2.2.2.2 s.2.2.1 s.2.2.2.1 s.2.1
def loA(a b:Array b3)(mg bc ia ib:Nat)(out:Array b3):SM (ForInStep N0):=elem' b ib >>= λp =>
 if (ib+1 == b.size)=true then pure (.done (some (KW a b (out.push p) ia (ib+1)),out.push p,ia,ib+1,0,bc+1))
 else if bc+1 >= mg then pure (.done (none,out.push p,ia,ib+1,0,bc+1)) else pure (.yield (none,out.push p,ia,ib+1,0,bc+1))
def loB(a b:Array b3)(mg ac ia ib:Nat)(out:Array b3):SM (ForInStep N0):=elem' a ia >>= λp =>
 if (ia+1+1 == a.size)=true then pure (.done (some (TH a b (out.push p) (ia+1) ib),out.push p,ia+1,ib,ac+1,0))
 else if ac+1 >= mg then pure (.done (none,out.push p,ia+1,ib,ac+1,0)) else pure (.yield (none,out.push p,ia+1,ib,ac+1,0))
def loI(a b:Array b3)(mg:Nat)(_:Nat)(s:N0):SM (ForInStep N0):=elem' b s.2.2.2.1 >>= λpb=>elem' a s.2.2.1 >>= λpa=>lt' pb pa >>= λx=>match x with
 |some w=>if w=true then loA a b mg s.2.2.2.2.2 s.2.2.1 s.2.2.2.1 s.2.1 else loB a b mg s.2.2.2.2.1 s.2.2.1 s.2.2.2.1 s.2.1
 |_=>pure (.done (some (KW a b s.2.1 s.2.2.1 s.2.2.2.1),s.2.1,s.2.2.1,s.2.2.2.1,s.2.2.2.2.1,s.2.2.2.2.2))
def loP (a b:Array b3) (mg:Nat) (t:N0):SM (ForInStep L1):=(liftM (rule "list.sort.gallop"):SM Unit) >>= λ_ =>
 forIn [:a.size+b.size] ((none,t.2.1,t.2.2.1,t.2.2.2.1,mg+1,t.2.2.2.2.1,t.2.2.2.2.2):L3) (loG a b) >>= λu=>match u.1 with
 |some r=>pure (.done (some r,u.2.1,u.2.2.1,u.2.2.2.1,u.2.2.2.2.1))
 |none=>bw (u.2.2.2.2.1+1) >>= λ_=>pure (.yield (none,u.2.1,u.2.2.1,u.2.2.2.1,u.2.2.2.2.1+1))
def loO(a b:Array b3)(_:Nat)(s:L1):SM (ForInStep L1):=forIn [:a.size+b.size] ((none,s.2.1,s.2.2.1,s.2.2.2.1,0,0):N0) (loI a b s.2.2.2.2) >>= λt=>match t.1 with
 |some r=>pure (.done (some r,t.2.1,t.2.2.1,t.2.2.2.1,s.2.2.2.2))
 |none=>loP a b s.2.2.2.2 t
def loM (a b:Array b3):SM (Array b3):=(liftM (rule "list.sort.merge-lo"):SM Unit) >>= λ_=>elem' b 0 >>= λy =>
 if (1 == b.size)=true then pure (KW a b #[y] 0 1)
 else if (0+1 == a.size)=true then pure (TH a b #[y] 0 1)
 else get >>= λst=>forIn [:a.size+b.size] ((none,#[y],0,1,gallopOf st):L1) (loO a b) >>= λt=>match t.1 with
 |some r=>pure r
 |none=>(liftM (unsupported (α:=Array b3) "internal:list.sort.merge-bound"):SM (Array b3))
set_option smartUnfolding false in
def vD:t_=loM:=rfl
section
variable {prog:cf}{w:cw}{A:ft}{E:ag->aI->Prop}{s:aI}{κ:y8}{r:ag->Int}{P:ag->Prop}{a b out:Array b3}{mg ac bc ia ib N:Nat}{st:dz}
structure MC(prog:cf)(w:cw)(A:ft)(s:aI)(κ:y8)(r:ag->Int)(P:ag->Prop)(a b:Array b3):Prop where
 C:pV prog w A s κ r P
 pa:AllP P a
 pb:AllP P b
 hA:Up r a 0 a.size
 hB:Up r b 0 b.size
 hl:∀ i,i<a.size->R r b 0<=R r a i
 hg:∀ j,j<b.size->R r b j<=R r a (a.size-1)
def HS{β:Type}(r:ag->Int)(a b:Array b3)(c:Option (Array b3) × β):Prop:=∃ out rest,c=(some out,rest)/\bO r a b out
def LY(r:ag->Int)(a b:Array b3)(N:Nat)(c:L3):Prop:=∃ out ia ib mg ac bc,c=(none,out,ia,ib,mg,ac,bc)/\MI r a b out ia ib/\ia+1<a.size/\ib<b.size/\N<=ia+ib
def LI(r:ag->Int)(a b:Array b3)(N:Nat)(c:N0):Prop:=∃ out ia ib ac bc,c=(none,out,ia,ib,ac,bc)/\MI r a b out ia ib/\ia+1<a.size/\ib<b.size/\N<=ia+ib
def MC.last(c:MC prog w A s κ r P a b)(M:MI r a b out ia ib)(z:ia+1=a.size):bO r a b (TH a b out ia ib):=M.Nt c.hA c.hB z λj hj=>by have:=c.hg j hj;rwa[show a.size-1=ia by lia] at this
def Dl(c:MC prog w A s κ r P a b)(M:MI r a b out ia ib)(h1:ia+1<a.size)(lt:R r a ia<=R r b ib)(h2:ib<b.size)(hN:N<=ia+ib)(D:∀ c,HS r a b c->Q (.done c) st)(Y:∀ c,LY r a b N c->Q (.done c) st/\Q (.yield c) st):wpS (aE prog w) A E s (lo3 a b mg ac bc ia ib out) Q st:=by
 refine cx (aK (by lia) λp e=>?_);have M2:=M.qL c.hA c.hB e λ_=>lt;by_cases z:ia+1+1=a.size
 ·rw[if_pos (by simpa using z)];exact de (D _ ⟨_,_,rfl,c.last M2 z⟩)
 ·rw[if_neg (by simpa using z)];have y:=Y _ ⟨_,_,_,mg,ac,bc,rfl,M2,by lia,h2,by lia⟩;split
  ·exact de y.1
  ·exact de y.2
def Jc(c:MC prog w A s κ r P a b)(hk:fw st=κ)(M:MI r a b out ia ib)(h1:ia+1<a.size)(h2:ib<b.size)(hN:N<=ia+ib)(D:∀ c,HS r a b c->Q (.done c) st)(Y:∀ c,LY r a b N c->Q (.done c) st/\Q (.yield c) st):wpS (aE prog w) A E s (N4 a b mg ac bc ia ib out) Q st:=by
 refine cx (aK (by lia) λp e=>cx (cG c.C hk c.pb (c.pa.at e) (by lia) (by lia) (λi j u v w=>c.hB i j (by lia) v (by lia)) λl Ry Kx Rz=>?_));have ra:=sP (r:=r) e;dsimp only;have lt:ib+l<b.size->R r a ia<=R r b (ib+l):=λz=>by have:=uP (Rz l (cK _) (by lia));lia
 by_cases l0:l>0
 ·have M5:=MI.GH c.hA c.hB l M (by lia) λ_ i hi=>by have:=Gm (Kx i hi);lia
  rw[if_pos l0];by_cases z:ib+l=b.size
  ·rw[if_pos (by simpa using z)];exact de (D _ ⟨_,_,rfl,M5.Rv c.hA c.hB z⟩)
  ·rw[if_neg (by simpa using z)];exact Dl c M5 h1 (lt (by lia)) (by lia) (by lia) D Y
 ·rw[if_neg l0];obtain rfl:l=0:=by lia
  exact Dl c M h1 (lt h2) h2 hN D Y
def Ea(c:MC prog w A s κ r P a b)(hk:fw st=κ)(M:MI r a b out ia ib)(h1:ia+1<a.size)(lt:R r b ib<=R r a ia)(h2:ib<b.size)(hN:N<=ia+ib)(D:∀ c,HS r a b c->Q (.done c) st)(Y:∀ c,LY r a b N c->Q (.done c) st/\Q (.yield c) st):wpS (aE prog w) A E s (lo1 a b mg ac bc ia ib out) Q st:=by
 refine cx (aK h2 λp e=>?_);have M4:=M.pX c.hA c.hB e λ_=>lt;by_cases z:ib+1=b.size
 ·rw[if_pos (by simpa using z)];exact de (D _ ⟨_,_,rfl,M4.Rv c.hA c.hB z⟩)
 ·rw[if_neg (by simpa using z)];exact Jc c hk M4 h1 (by lia) (by lia) D Y
def Km(c:MC prog w A s κ r P a b)(hk:fw st=κ)(M:MI r a b out ia ib)(h1:ia+1<a.size)(h2:ib<b.size)(hN:N<=ia+ib)(D:∀ aw,Mg st aw->∀ c,HS r a b c->Q (.done c) aw)(Y:∀ aw,Mg st aw->∀ c,LY r a b N c->Q (.done c) aw/\Q (.yield c) aw):wpS (aE prog w) A E s (lo0 a b mg ac bc ia ib out) Q st:=by
 have g:=(Mg.refl st).set mg;refine cx (gJ ?_);refine cx (aK h2 λp e=>cx (cG c.C (g.kind.trans hk) c.pa (c.pb.at e) (by lia) (by lia) (λi j u v w=>c.hA i j (by lia) v (by lia)) λk VD CM N9=>?_));have rb:=sP (r:=r) e;dsimp only;have lt:ia+k<a.size->R r b ib<=R r a (ia+k):=λz=>by have:=yl (N9 k (cK _) (by lia));lia
 by_cases k0:k>0
 ·have M3:=MI.GL c.hA c.hB k M (by lia) λ_ i hi=>by have:=BL (CM i hi);lia
  rw[if_pos k0];by_cases z:ia+k+1=a.size
  ·rw[if_pos (by simpa using z)];exact de (D _ g _ ⟨_,_,rfl,c.last M3 z⟩)
  ·rw[if_neg (by simpa using z)];by_cases z2:ia+k=a.size
   ·rw[if_pos (by simpa using z2)];exact de (D _ g _ ⟨_,_,rfl,M3.Rx c.hA c.hB z2⟩)
   ·rw[if_neg (by simpa using z2)];exact Ea c (g.kind.trans hk) M3 (by lia) (lt (by lia)) h2 (by lia) (D _ g) (Y _ g)
 ·rw[if_neg k0];obtain rfl:k=0:=by lia
  exact Ea c (g.kind.trans hk) M h1 (lt (by lia)) h2 hN (D _ g) (Y _ g)
def KH(c:MC prog w A s κ r P a b)(M:MI r a b out ia ib)(h1:ia+1<a.size)(lt:R r b ib<=R r a ia)(h2:ib<b.size)(hN:N<=ia+ib+1)(D:∀ c,HS r a b c->Q (.done c) st)(Y:∀ c,LI r a b N c->Q (.done c) st/\Q (.yield c) st):wpS (aE prog w) A E s (loA a b mg bc ia ib out) Q st:=by
 refine cx (aK h2 λp e=>?_);have M2:=M.pX c.hA c.hB e λ_=>lt;by_cases z:ib+1=b.size
 ·rw[if_pos (by simpa using z)];exact de (D _ ⟨_,_,rfl,M2.Rv c.hA c.hB z⟩)
 ·rw[if_neg (by simpa using z)];have y:=Y _ ⟨_,_,_,0,bc+1,rfl,M2,h1,by lia,hN⟩;split
  ·exact de y.1
  ·exact de y.2
def J7(c:MC prog w A s κ r P a b)(M:MI r a b out ia ib)(h1:ia+1<a.size)(lt:R r a ia<=R r b ib)(h2:ib<b.size)(hN:N<=ia+ib+1)(D:∀ c,HS r a b c->Q (.done c) st)(Y:∀ c,LI r a b N c->Q (.done c) st/\Q (.yield c) st):wpS (aE prog w) A E s (loB a b mg ac ia ib out) Q st:=by
 refine cx (aK (by lia) λp e=>?_);have M2:=M.qL c.hA c.hB e λ_=>lt;by_cases z:ia+1+1=a.size
 ·rw[if_pos (by simpa using z)];exact de (D _ ⟨_,_,rfl,c.last M2 z⟩)
 ·rw[if_neg (by simpa using z)];have y:=Y _ ⟨_,_,_,ac+1,0,rfl,M2,by lia,h2,by lia⟩;split
  ·exact de y.1
  ·exact de y.2
def IW(c:MC prog w A s κ r P a b)(hk:fw st=κ)(M:MI r a b out ia ib)(h1:ia+1<a.size)(h2:ib<b.size)(hN:N<=ia+ib+1)(D:∀ c,HS r a b c->Q (.done c) st)(Y:∀ c,LI r a b N c->Q (.done c) st/\Q (.yield c) st):wpS (aE prog w) A E s (loI a b mg x (none,out,ia,ib,ac,bc)) Q st:=by
 refine cx (aK h2 λpb eb=>cx (aK (show ia<a.size by lia) λpa ea=>cx (qI c.C hk (c.pb.at eb) (c.pa.at ea) ?_)));have rb:R r b ib=r pb.1:=sP eb;have ra:R r a ia=r pa.1:=sP ea;dsimp only;by_cases hw:r pb.1<r pa.1
 ·rw[if_pos (decide_eq_true hw)];exact KH c M h1 (by lia) h2 hN D Y
 ·rw[if_neg (by simpa using hw)];exact J7 c M h1 (by lia) h2 hN D Y
def Kp(c:MC prog w A s κ r P a b)(hk:fw st=κ)(M:MI r a b out ia ib)(h1:ia+1<a.size)(h2:ib<b.size)(hN:N<=ia+ib)(D:∀ aw,Mg st aw->∀ c,HS r a b c->Q (.done c) aw)(Y:∀ aw,Mg st aw->∀ out ia ib mg,MI r a b out ia ib->ia+1<a.size->ib<b.size->N<=ia+ib->Q (.yield (none,out,ia,ib,mg)) aw):wpS (aE prog w) A E s (loP a b mg (none,out,ia,ib,ac,bc)) Q st:=by
 refine cx (wpS_lift (zS ⟨rfl,?_⟩));refine cx (xE (tN (I:=λ_ c aw=>Mg st aw/\LY r a b N c) (Q:=λc aw=>Mg st aw/\(HS r a b c\/LY r a b N c)) ?step ?fin ⟨.refl st,_,_,_,_,_,_,rfl,M,h1,h2,hN⟩) ?post);case fin =>
  rintro c aw ⟨hm,q⟩;exact⟨hm,.inr q⟩
 case step =>
  rintro y c1 GN _ _ ⟨hm,out,ia,ib,mg,ac,bc,rfl,M,h1,h2,hN⟩;unfold loG;split<;>exact Km c (hm.kind.trans hk) M h1 h2 hN (λaw g c q=>⟨hm.trans g,.inl q⟩) λaw g c q=>⟨⟨hm.trans g,.inr q⟩,hm.trans g,q⟩
 case post =>
  rintro c aw ⟨hm,⟨o,rest,rfl,hM⟩|⟨out,ia,ib,mg,ac,bc,rfl,M,h1,h2,hN⟩⟩
  ·exact de (D _ hm _ ⟨_,_,rfl,hM⟩)
  ·exact cx (gJ (de (Y _ (hm.set _) _ _ _ _ M h1 h2 hN)))
def Jh(c:MC prog w A s κ r P a b)(hk:fw st=κ)(M:MI r a b out ia ib)(h1:ia+1<a.size)(h2:ib<b.size)(hN:N<=ia+ib)(D:∀ aw,Mg st aw->∀ c,HS r a b c->Q (.done c) aw)(Y:∀ aw,Mg st aw->∀ out ia ib mg,MI r a b out ia ib->ia+1<a.size->ib<b.size->N+1<=ia+ib->Q (.yield (none,out,ia,ib,mg)) aw):wpS (aE prog w) A E s (loO a b x (none,out,ia,ib,mg)) Q st:=by
 refine cx (xE (tN (I:=λy c aw=>aw=st/\LI r a b (N+y) c) (Q:=λc aw=>aw=st/\(HS r a b c\/LI r a b (N+1) c)) ?step ?fin ⟨rfl,_,_,_,_,_,rfl,M,h1,h2,hN⟩) ?post);case fin =>
  rintro c aw ⟨rfl,o,ia',ib',ac,bc,rfl,M',q1,q2,q3⟩;exact⟨rfl,.inr ⟨_,_,_,_,_,rfl,M',q1,q2,by lia⟩⟩
 case step =>
  rintro y c1 GN _ hy ⟨rfl,o,ia',ib',ac,bc,rfl,M',q1,q2,q3⟩;exact IW (N:=N+y+1) c hk M' q1 q2 (by lia) (λc q=>⟨rfl,.inl q⟩) λc q=>by obtain⟨o,ia,ib,ac,bc,rfl,M,h1,h2,h3⟩:=q;exact⟨⟨rfl,.inr ⟨_,_,_,_,_,rfl,M,h1,h2,by lia⟩⟩,rfl,_,_,_,_,_,rfl,M,h1,h2,by lia⟩
 case post =>
  rintro c1 aw ⟨rfl,⟨o,rest,rfl,hM⟩|⟨o,ia,ib,ac,bc,rfl,M',q1,q2,q3⟩⟩
  ·exact de (D _ (.refl _) _ ⟨_,_,rfl,hM⟩)
  ·exact Kp c hk M' q1 q2 q3 D Y
def sH{st:dz}{a b:Array b3}{Q:Array b3->dz->Prop}(C:pV prog w A s κ r P)(hk:fw st=κ)(hPa:AllP P a)(hPb:AllP P b)(hA:Up r a 0 a.size)(hB:Up r b 0 b.size)(na:1<=a.size)(nb:1<=b.size)(h0:R r b 0<=R r a 0) (hg:∀ j,j<b.size->R r b j<=R r a (a.size-1)) (h:∀ out aw,bO r a b out->Mg st aw->Q out aw):wpS (aE prog w) A E s (t_ a b) Q st:=by
 have c:MC prog w A s κ r P a b:=⟨C,hPa,hPb,hA,hB,λi hi=>Fn h0 (hA 0 i (cK _) (f7 _) hi),hg⟩
 rw[vD];refine cx (wpS_lift (zS ⟨rfl,?_⟩));refine cx (aK nb λy0 e0=>?_);have M1:MI r a b #[y0] 0 1:=(MI.start hA hB).pX hA hB e0 λ_=>h0;by_cases c1:1=b.size
 ·rw[if_pos (by simpa using c1)];exact de (h _ _ (M1.Rv hA hB c1) (.refl st))
 ·rw[if_neg (by simpa using c1)];by_cases c2:0+1=a.size
  ·rw[if_pos (by simpa using c2)];exact de (h _ _ (c.last M1 c2) (.refl st))
  ·rw[if_neg (by simpa using c2)];refine cx (wpS_get ?_);refine cx (xE (tN (I:=λx c aw=>Mg st aw/\∃ out ia ib mg,c=(none,out,ia,ib,mg)/\MI r a b out ia ib/\ia+1<a.size/\ib<b.size/\x+1<=ia+ib) (Q:=λc aw=>Mg st aw/\HS r a b c) ?step ?fin ⟨.refl st,_,_,_,_,rfl,M1,by lia,by lia,by lia⟩) ?post)
   case fin =>
    rintro c aw ⟨_,out,ia,ib,mg,rfl,M,h1,h2,h3⟩;lia
   case post =>
    rintro c aw ⟨hm,out,rest,rfl,hM⟩;exact de (h out aw hM hm)
   case step =>
    rintro x c1 GN _ hx ⟨AI,out,ia,ib,mg,rfl,M,h1,h2,h3⟩;exact Jh c (AI.kind.trans hk) M h1 h2 h3 (λaw g c q=>⟨AI.trans g,q⟩) λaw g out ia ib mg M h1 h2 h3=>⟨AI.trans g,_,_,_,_,rfl,M,h1,h2,h3⟩
end
abbrev nr(r:ag->Int)(v:ag):Int:=-r v
structure MH(r:ag->Int)(a b out:Array b3)(na nb:Nat):Prop where
 ha:na<=a.size
 hb:nb<=b.size
 mi:MI (nr r) a.reverse b.reverse out (a.size-na) (b.size-nb)
section
variable {r:ag->Int}{a b out:Array b3}{na nb:Nat}
def Dg{xs:Array b3}{i:Nat}(h0:0<i)(h:i<=xs.size):xs.reverse[xs.size-i]? = xs[i-1]? := by rw[Array.getElem?_reverse (by lia)];congr 1;lia
def vX{xs:Array b3}{i:Nat}(h0:0<i)(h:i<=xs.size):R (nr r) xs.reverse (xs.size-i) = -R r xs (i-1):=by have e:xs[i-1]? = some (xs[i-1]'(by lia)):=getElem?_pos xs (i-1) (by lia);rw[sP e,sP ((Dg h0 h).trans e)]
def mV{xs:Array b3}(U:Up r xs 0 xs.size):Up (nr r) xs.reverse 0 xs.reverse.size:=λi j _ h2 h3=>by rw[Zu] at h3;have a:=vX (r:=r) (xs:=xs) (i:=xs.size-i) (by lia) (by lia);have b:=vX (r:=r) (xs:=xs) (i:=xs.size-j) (by lia) (by lia);rw[show xs.size-(xs.size-i)=i by lia] at a;rw[show xs.size-(xs.size-j)=j by lia] at b;rw[a,b];have:=U (xs.size-j-1) (xs.size-i-1) (f7 _) (by lia) (by lia);lia
def MH.swap(M:MH r a b out na nb):MH r b a out nb na:=⟨M.hb,M.ha,M.mi.swap⟩
def MH.qL(M:MH r a b out na nb)(hA:Up r a 0 a.size)(hB:Up r b 0 b.size)(h0:0<na)(e:a[na-1]? = some y)(hl:0<nb->R r b (nb-1)<=R r a (na-1)):MH r a b (out.push y) (na-1) nb:=by
 have ha:=M.ha;have q:=M.mi.qL (mV hA) (mV hB) ((Dg h0 ha).trans e) λh=>by
  have hn:0<nb:=by simp at h;lia
  rw[vX h0 ha,vX hn M.hb];have:=hl hn;lia
 exact⟨by lia,M.hb,by rw[show a.size-(na-1)=a.size-na+1 by lia];exact q⟩
def MH.pX(M:MH r a b out na nb)(hA:Up r a 0 a.size)(hB:Up r b 0 b.size)(h0:0<nb)(e:b[nb-1]? = some y)(hl:0<na->R r a (na-1)<=R r b (nb-1)):MH r a b (out.push y) na (nb-1):=(M.swap.qL hB hA h0 e hl).swap
def MH.GL(hA:Up r a 0 a.size)(hB:Up r b 0 b.size)(k:Nat){p:Nat}(M:MH r a b out na nb)(h1:p+k=na)(h2:0<nb->∀ i,p<=i->i<na->R r b (nb-1)<=R r a i):MH r a b (out++(a.extract p na).reverse) p nb:=by
 have ha:=M.ha;have q:=MI.GL (mV hA) (mV hB) k M.mi (by simp;lia) λh i hi=>by
  have hn:0<nb:=by simp at h;lia
  have:=h2 hn (na-i-1) (by lia) (by lia);rw[vX hn M.hb,show a.size-na+i=a.size-(na-i) by lia,vX (by lia) (by lia)];lia
 have e:a.reverse.extract (a.size-na) (a.size-na+k)=(a.extract p na).reverse:=by rw[Array.reverse_extract];congr 1<;>lia
 rw[e] at q;exact⟨by lia,M.hb,by rw[show a.size-p=a.size-na+k by lia];exact q⟩
def MH.GH(hA:Up r a 0 a.size)(hB:Up r b 0 b.size)(k:Nat){p:Nat}(M:MH r a b out na nb)(h1:p+k=nb)(h2:0<na->∀ i,p<=i->i<nb->R r a (na-1)<=R r b i):MH r a b (out++(b.extract p nb).reverse) na p:=(MH.GL hB hA k M.swap h1 h2).swap
def MH.whole(M:MH r a b out 0 0):bO r a b out.reverse:=by
 have m:=M.mi;simp only[Nat.sub_zero,<- Zu (xs:=a),<- Zu (xs:=b)] at m;obtain⟨p,q⟩:=m.whole;simp only[Zr] at p ⊢;refine⟨?_,?_⟩
 ·rw[Zr];exact(Zd _).trans (p.trans ((Zd _).append (Zd _)))
 ·rw[Zr,List.pairwise_reverse];exact q.imp λh=>by simp only[Le,nr] at *;lia
def oO(x y:Array b3):(x++y.reverse).reverse=y++x.reverse:=by apply UM.mp;simp
def MH.Rx(M:MH r a b out na nb)(hA:Up r a 0 a.size)(hB:Up r b 0 b.size)(e:na=0):bO r a b (a.extract 0 na++b.extract 0 nb++out.reverse):=by
 subst e;have z:=MH.GH hA hB nb (p:=0) M (by exact Sy ..) λha=>absurd ha (xD _);have q:=z.whole;rw[oO] at q;have e2:a.extract 0 0 = #[]:=by simp
 rw[e2,Array.empty_append];exact q
def MH.Rv(M:MH r a b out na nb)(hA:Up r a 0 a.size)(hB:Up r b 0 b.size)(e:nb=0):bO r a b (a.extract 0 na++b.extract 0 nb++out.reverse):=by
 subst e;have z:=MH.GL hA hB na (p:=0) M (by exact Sy ..) λhb=>absurd hb (xD _);have q:=z.whole;rw[oO] at q;have e2:b.extract 0 0 = #[]:=by simp
 rw[e2,Zt];exact q
def MH.uY(M:MH r a b out na nb)(hA:Up r a 0 a.size)(hB:Up r b 0 b.size)(e:nb=1)(hl:∀ i,i<a.size->R r b 0<=R r a i):bO r a b (b.extract 0 nb++a.extract 0 na++out.reverse):=by subst e;have ha:=M.ha;have z:=MH.GL hA hB na (p:=0) M (by exact Sy ..) λ_ i _ hi=>hl i (by lia);have z2:=MH.GH hA hB 1 (p:=0) z (by exact Sy ..) λh=>absurd h (xD _);have q:=z2.whole;rw[oO,oO] at q;rw[Array.append_assoc];exact q
def MH.start(hA:Up r a 0 a.size)(hB:Up r b 0 b.size):MH r a b #[] a.size b.size:=⟨cK _,cK _,by rw[Sz,Sz];exact MI.start (mV hA) (mV hB)⟩
end
abbrev S1:=Option (Array b3) × Nat × Nat × Array b3 × Nat
abbrev S2:=Option (Array b3) × Nat × Nat × Array b3 × Nat × Nat
abbrev S3:=Option (Array b3) × Nat × Nat × Array b3 × Nat × Nat × Nat
def K0(a b out:Array b3)(na nb:Nat):Array b3:=a.extract 0 na++b.extract 0 nb++out.reverse
def VF(a b out:Array b3)(na nb:Nat):Array b3:=b.extract 0 nb++a.extract 0 na++out.reverse
def hi3(a b:Array b3)(mg ac bc na nb:Nat)(out:Array b3):SM (ForInStep S3):=elem' a (na-1) >>= λp =>
 if (na-1 == 0)=true then pure (.done (some (K0 a b (out.push p) (na-1) nb),na-1,nb,out.push p,mg,ac,bc))
 else if (decide (ac<7) && decide (bc<7))=true then pure (.done (none,na-1,nb,out.push p,mg,ac,bc)) else pure (.yield (none,na-1,nb,out.push p,mg,ac,bc))
def wm(a b:Array b3)(mg ac bc na nb:Nat)(out:Array b3):SM (ForInStep S3):=elem' a (na-1) >>= λp=>jL true p b 0 nb (nb-1) >>= λx=>match x with
 |some k=>if nb-k>0 then
   if (k == 1)=true then pure (.done (some (VF a b (out++(b.extract k nb).reverse) na k),na,k,out++(b.extract k nb).reverse,mg,ac,nb-k))
   else if (k == 0)=true then pure (.done (some (K0 a b (out++(b.extract k nb).reverse) na k),na,k,out++(b.extract k nb).reverse,mg,ac,nb-k))
   else hi3 a b mg ac (nb-k) na k (out++(b.extract k nb).reverse)
  else hi3 a b mg ac (nb-k) na nb out
 |_=>pure (.done (some (K0 a b out na nb),na,nb,out,mg,ac,bc))
def BD(a b:Array b3)(mg ac bc na nb:Nat)(out:Array b3):SM (ForInStep S3):=elem' b (nb-1) >>= λp =>
 if (nb-1 == 1)=true then pure (.done (some (VF a b (out.push p) na (nb-1)),na,nb-1,out.push p,mg,ac,bc)) else wm a b mg ac bc na (nb-1) (out.push p)
def FU(a b:Array b3)(mg ac bc na nb:Nat)(out:Array b3):SM (ForInStep S3):=bw mg >>= λ_=>elem' b (nb-1) >>= λp=>jL false p a 0 na (na-1) >>= λx=>match x with
 |some k=>if na-k>0 then
   if (k == 0)=true then pure (.done (some (K0 a b (out++(a.extract k na).reverse) k nb),k,nb,out++(a.extract k na).reverse,mg,na-k,bc))
   else BD a b mg (na-k) bc k nb (out++(a.extract k na).reverse)
  else BD a b mg (na-k) bc na nb out
 |_=>pure (.done (some (K0 a b out na nb),na,nb,out,mg,ac,bc))
def hiG(a b:Array b3)(_:Nat)(s:S3):SM (ForInStep S3) :=
 if s.2.2.2.2.1>1 then FU a b (s.2.2.2.2.1-1) s.2.2.2.2.2.1 s.2.2.2.2.2.2 s.2.1 s.2.2.1 s.2.2.2.1 else FU a b s.2.2.2.2.1 s.2.2.2.2.2.1 s.2.2.2.2.2.2 s.2.1 s.2.2.1 s.2.2.2.1
def hiA(a b:Array b3)(mg ac na nb:Nat)(out:Array b3):SM (ForInStep S2):=elem' a (na-1) >>= λp =>
 if (na-1 == 0)=true then pure (.done (some (K0 a b (out.push p) (na-1) nb),na-1,nb,out.push p,ac+1,0))
 else if ac+1 >= mg then pure (.done (none,na-1,nb,out.push p,ac+1,0)) else pure (.yield (none,na-1,nb,out.push p,ac+1,0))
def hiB(a b:Array b3)(mg bc na nb:Nat)(out:Array b3):SM (ForInStep S2):=elem' b (nb-1) >>= λp =>
 if (nb-1 == 1)=true then pure (.done (some (VF a b (out.push p) na (nb-1)),na,nb-1,out.push p,0,bc+1))
 else if bc+1 >= mg then pure (.done (none,na,nb-1,out.push p,0,bc+1)) else pure (.yield (none,na,nb-1,out.push p,0,bc+1))
def hiI(a b:Array b3)(mg:Nat)(_:Nat)(s:S2):SM (ForInStep S2):=elem' b (s.2.2.1-1) >>= λpb=>elem' a (s.2.1-1) >>= λpa=>lt' pb pa >>= λx=>match x with
 |some w=>if w=true then hiA a b mg s.2.2.2.2.1 s.2.1 s.2.2.1 s.2.2.2.1 else hiB a b mg s.2.2.2.2.2 s.2.1 s.2.2.1 s.2.2.2.1
 |_=>pure (.done (some (K0 a b s.2.2.2.1 s.2.1 s.2.2.1),s.2.1,s.2.2.1,s.2.2.2.1,s.2.2.2.2.1,s.2.2.2.2.2))
def hiP (a b:Array b3) (mg:Nat) (t:S2):SM (ForInStep S1):=(liftM (rule "list.sort.gallop"):SM Unit) >>= λ_ =>
 forIn [:a.size+b.size] ((none,t.2.1,t.2.2.1,t.2.2.2.1,mg+1,t.2.2.2.2.1,t.2.2.2.2.2):S3) (hiG a b) >>= λu=>match u.1 with
 |some r=>pure (.done (some r,u.2.1,u.2.2.1,u.2.2.2.1,u.2.2.2.2.1))
 |none=>bw (u.2.2.2.2.1+1) >>= λ_=>pure (.yield (none,u.2.1,u.2.2.1,u.2.2.2.1,u.2.2.2.2.1+1))
def hiO(a b:Array b3)(_:Nat)(s:S1):SM (ForInStep S1):=forIn [:a.size+b.size] ((none,s.2.1,s.2.2.1,s.2.2.2.1,0,0):S2) (hiI a b s.2.2.2.2) >>= λt=>match t.1 with
 |some r=>pure (.done (some r,t.2.1,t.2.2.1,t.2.2.2.1,s.2.2.2.2))
 |none=>hiP a b s.2.2.2.2 t
def hiM (a b:Array b3):SM (Array b3):=(liftM (rule "list.sort.merge-hi"):SM Unit) >>= λ_=>elem' a (a.size-1) >>= λy =>
 if (a.size-1 == 0)=true then pure (K0 a b #[y] (a.size-1) b.size)
 else if (b.size == 1)=true then pure (VF a b #[y] (a.size-1) b.size)
 else get >>= λst=>forIn [:a.size+b.size] ((none,a.size-1,b.size,#[y],gallopOf st):S1) (hiO a b) >>= λt=>match t.1 with
 |some r=>pure r
 |none=>(liftM (unsupported (α:=Array b3) "internal:list.sort.merge-bound"):SM (Array b3))
set_option smartUnfolding false in
def wg:ue=hiM:=rfl
section
variable {prog:cf}{w:cw}{A:ft}{E:ag->aI->Prop}{s:aI}{κ:y8}{r:ag->Int}{P:ag->Prop}{a b out:Array b3}{mg ac bc na nb N:Nat}{st:dz}{Q:ForInStep S3->dz->Prop}
def HD(r:ag->Int)(a b:Array b3)(Q:ForInStep S3->dz->Prop)(st:dz):Prop:=∀ o rest,bO r a b o->Q (.done (some o,rest)) st
def HY(r:ag->Int)(a b:Array b3)(N:Nat)(Q:ForInStep S3->dz->Prop)(st:dz):Prop :=
 ∀ o na nb mg ac bc,MH r a b o na nb->1<=na->2<=nb->na+nb<=N->Q (.done (none,na,nb,o,mg,ac,bc)) st/\Q (.yield (none,na,nb,o,mg,ac,bc)) st
def Dq(c:MC prog w A s κ r P a b)(M:MH r a b out na nb)(h1:0<na)(lt:R r b (nb-1)<=R r a (na-1))(h2:2<=nb)(hN:na+nb<=N)(D:HD r a b Q st)(Y:HY r a b N Q st):wpS (aE prog w) A E s (hi3 a b mg ac bc na nb out) Q st:=by
 have ha:=M.ha;refine cx (aK (by lia) λp e=>?_);have M2:=M.qL c.hA c.hB h1 e λ_=>lt;by_cases z:na-1=0
 ·rw[if_pos (by simpa using z)];exact de (D _ _ (M2.Rx c.hA c.hB z))
 ·rw[if_neg (by simpa using z)];have y:=Y _ _ _ mg ac bc M2 (by lia) h2 (by lia);split
  ·exact de y.1
  ·exact de y.2
def JR(c:MC prog w A s κ r P a b)(hk:fw st=κ)(M:MH r a b out na nb)(h1:0<na)(h2:2<=nb)(hN:na+nb<=N)(D:HD r a b Q st)(Y:HY r a b N Q st):wpS (aE prog w) A E s (wm a b mg ac bc na nb out) Q st:=by
 have ha:=M.ha;have hb:=M.hb;refine cx (aK (by lia) λp e=>cx (cG c.C hk c.pb (c.pa.at e) (by lia) (by lia) (λi j u v w=>c.hB i j u v (by lia)) λl Ry Kx Rz=>?_));have ra:=sP (r:=r) e;dsimp only;have lt:0<l->R r b (l-1)<=R r a (na-1):=λz=>by have:=Gm (Kx (l-1) (by exact Nat.sub_lt ‹_› Nat.one_pos));rw[UI] at this;lia
 by_cases l0:nb-l>0
 ·have M5:=MH.GH c.hA c.hB (nb-l) (p:=l) M (by exact Sx ‹_›) λ_ i BD wm=>by have:=uP (Rz i BD wm);rw[UI] at this;lia
  rw[if_pos l0];by_cases z4:l=1
  ·rw[if_pos (by simpa using z4)];exact de (D _ _ (M5.uY c.hA c.hB z4 c.hl))
  ·rw[if_neg (by simpa using z4)];by_cases z6:l=0
   ·rw[if_pos (by simpa using z6)];exact de (D _ _ (M5.Rv c.hA c.hB z6))
   ·rw[if_neg (by simpa using z6)];exact Dq c M5 h1 (lt (by lia)) (by lia) (by lia) D Y
 ·rw[if_neg l0];obtain rfl:l=nb:=by lia
  exact Dq c M h1 (lt (by exact Zi ‹_›)) h2 hN D Y
def D_(c:MC prog w A s κ r P a b)(hk:fw st=κ)(M:MH r a b out na nb)(h1:0<na)(h2:2<=nb)(lt:R r a (na-1)<=R r b (nb-1))(hN:na+nb<=N)(D:HD r a b Q st)(Y:HY r a b N Q st):wpS (aE prog w) A E s (BD a b mg ac bc na nb out) Q st:=by
 have hb:=M.hb;refine cx (aK (by lia) λp e=>?_);have M4:=M.pX c.hA c.hB (by exact Zi ‹_›) e λ_=>lt;by_cases z:nb-1=1
 ·rw[if_pos (by simpa using z)];exact de (D _ _ (M4.uY c.hA c.hB z c.hl))
 ·rw[if_neg (by simpa using z)];exact JR c hk M4 h1 (by lia) (by lia) D Y
def JP(c:MC prog w A s κ r P a b)(hk:fw st=κ)(M:MH r a b out na nb)(h1:0<na)(h2:2<=nb)(hN:na+nb<=N)(D:∀ aw,Mg st aw->HD r a b Q aw)(Y:∀ aw,Mg st aw->HY r a b N Q aw):wpS (aE prog w) A E s (FU a b mg ac bc na nb out) Q st:=by
 have ha:=M.ha;have hb:=M.hb;have g:=(Mg.refl st).set mg;refine cx (gJ ?_);refine cx (aK (by lia) λp e=>cx (cG c.C (g.kind.trans hk) c.pa (c.pb.at e) (by lia) (by exact Nat.sub_lt ‹_› Nat.one_pos) (λi j u v w=>c.hA i j u v (by lia)) λk VD CM N9=>?_));have rb:=sP (r:=r) e;dsimp only;have lt:0<k->R r a (k-1)<=R r b (nb-1):=λz=>by have:=BL (CM (k-1) (by exact Nat.sub_lt ‹_› Nat.one_pos));rw[UI] at this;lia
 by_cases k0:na-k>0
 ·have M3:=MH.GL c.hA c.hB (na-k) (p:=k) M (by exact Sx ‹_›) λ_ i BD wm=>by have:=yl (N9 i BD wm);rw[UI] at this;lia
  rw[if_pos k0];by_cases z:k=0
  ·rw[if_pos (by simpa using z)];exact de (D _ g _ _ (M3.Rx c.hA c.hB z))
  ·rw[if_neg (by simpa using z)];exact D_ c (g.kind.trans hk) M3 (by lia) h2 (lt (by lia)) (by lia) (D _ g) (Y _ g)
 ·rw[if_neg k0];obtain rfl:k=na:=by lia
  exact D_ c (g.kind.trans hk) M h1 h2 (lt h1) hN (D _ g) (Y _ g)
def HI(r:ag->Int)(a b:Array b3)(N:Nat)(c:S2):Prop:=∃ na nb out ac bc,c=(none,na,nb,out,ac,bc)/\MH r a b out na nb/\1<=na/\2<=nb/\na+nb<=N
def Kw{Q:ForInStep S2->dz->Prop}(c:MC prog w A s κ r P a b)(M:MH r a b out na nb)(h1:0<na)(lt:R r b (nb-1)<=R r a (na-1))(h2:2<=nb)(hN:na+nb<=N+1)(D:∀ c,HS r a b c->Q (.done c) st)(Y:∀ c,HI r a b N c->Q (.done c) st/\Q (.yield c) st):wpS (aE prog w) A E s (hiA a b mg ac na nb out) Q st:=by
 have ha:=M.ha;refine cx (aK (by lia) λp e=>?_);have M2:=M.qL c.hA c.hB h1 e λ_=>lt;by_cases z:na-1=0
 ·rw[if_pos (by simpa using z)];exact de (D _ ⟨_,_,rfl,M2.Rx c.hA c.hB z⟩)
 ·rw[if_neg (by simpa using z)];have y:=Y _ ⟨_,_,_,ac+1,0,rfl,M2,by lia,h2,by lia⟩;split
  ·exact de y.1
  ·exact de y.2
def KC{Q:ForInStep S2->dz->Prop}(c:MC prog w A s κ r P a b)(M:MH r a b out na nb)(h1:0<na)(lt:R r a (na-1)<=R r b (nb-1))(h2:2<=nb)(hN:na+nb<=N+1)(D:∀ c,HS r a b c->Q (.done c) st)(Y:∀ c,HI r a b N c->Q (.done c) st/\Q (.yield c) st):wpS (aE prog w) A E s (hiB a b mg bc na nb out) Q st:=by
 have hb:=M.hb;refine cx (aK (by lia) λp e=>?_);have M2:=M.pX c.hA c.hB (by exact Zi ‹_›) e λ_=>lt;by_cases z:nb-1=1
 ·rw[if_pos (by simpa using z)];exact de (D _ ⟨_,_,rfl,M2.uY c.hA c.hB z c.hl⟩)
 ·rw[if_neg (by simpa using z)];have y:=Y _ ⟨_,_,_,0,bc+1,rfl,M2,h1,by lia,by lia⟩;split
  ·exact de y.1
  ·exact de y.2
def Kc{Q:ForInStep S2->dz->Prop}{x:Nat}(c:MC prog w A s κ r P a b)(hk:fw st=κ)(M:MH r a b out na nb)(h1:0<na)(h2:2<=nb)(hN:na+nb<=N+1)(D:∀ c,HS r a b c->Q (.done c) st)(Y:∀ c,HI r a b N c->Q (.done c) st/\Q (.yield c) st):wpS (aE prog w) A E s (hiI a b mg x (none,na,nb,out,ac,bc)) Q st:=by
 have ha:=M.ha;have hb:=M.hb;refine cx (aK (show nb-1<b.size by lia) λpb eb=>cx (aK (show na-1<a.size by lia) λpa ea=>cx (qI c.C hk (c.pb.at eb) (c.pa.at ea) ?_)));have rb:R r b (nb-1)=r pb.1:=sP eb;have ra:R r a (na-1)=r pa.1:=sP ea;dsimp only;by_cases hw:r pb.1<r pa.1
 ·rw[if_pos (decide_eq_true hw)];exact Kw c M h1 (by lia) h2 hN D Y
 ·rw[if_neg (by simpa using hw)];exact KC c M h1 (by lia) h2 hN D Y
def JD{Q:ForInStep S1->dz->Prop}(c:MC prog w A s κ r P a b)(hk:fw st=κ)(M:MH r a b out na nb)(h1:0<na)(h2:2<=nb)(hN:na+nb<=N)(D:∀ aw,Mg st aw->∀ c,HS r a b c->Q (.done c) aw)(Y:∀ aw,Mg st aw->∀ out na nb mg,MH r a b out na nb->1<=na->2<=nb->na+nb<=N->Q (.yield (none,na,nb,out,mg)) aw):wpS (aE prog w) A E s (hiP a b mg (none,na,nb,out,ac,bc)) Q st:=by
 refine cx (wpS_lift (zS ⟨rfl,?_⟩));refine cx (xE (tN (I:=λ_ c aw=>Mg st aw/\∃ na nb out mg ac bc,c=(none,na,nb,out,mg,ac,bc)/\MH r a b out na nb/\1<=na/\2<=nb/\na+nb<=N) (Q:=λc aw=>Mg st aw/\(HS r a b c\/∃ na nb out mg ac bc,c=(none,na,nb,out,mg,ac,bc)/\MH r a b out na nb/\1<=na/\2<=nb/\na+nb<=N)) ?step ?fin ⟨.refl st,_,_,_,_,_,_,rfl,M,h1,h2,hN⟩) ?post)
 case fin =>
  rintro c aw ⟨hm,q⟩;exact⟨hm,.inr q⟩
 case step =>
  rintro y c1 GN _ _ ⟨hm,na,nb,out,mg,ac,bc,rfl,M,h1,h2,hN⟩;unfold hiG;split<;>exact JP c (hm.kind.trans hk) M h1 h2 hN (λaw g o rest hM=>⟨hm.trans g,.inl ⟨o,rest,rfl,hM⟩⟩) λaw g o na nb mg ac bc M h1 h2 hN=>⟨⟨hm.trans g,.inr ⟨_,_,_,_,_,_,rfl,M,h1,h2,hN⟩⟩,hm.trans g,_,_,_,_,_,_,rfl,M,h1,h2,hN⟩
 case post =>
  rintro c aw ⟨hm,⟨o,rest,rfl,hM⟩|⟨na,nb,out,mg,ac,bc,rfl,M,h1,h2,hN⟩⟩
  ·exact de (D _ hm _ ⟨_,_,rfl,hM⟩)
  ·exact cx (gJ (de (Y _ (hm.set _) _ _ _ _ M h1 h2 hN)))
def JC{Q:ForInStep S1->dz->Prop}{x:Nat}(c:MC prog w A s κ r P a b)(hk:fw st=κ)(M:MH r a b out na nb)(h1:0<na)(h2:2<=nb)(hN:na+nb<=N+1)(D:∀ aw,Mg st aw->∀ c,HS r a b c->Q (.done c) aw)(Y:∀ aw,Mg st aw->∀ out na nb mg,MH r a b out na nb->1<=na->2<=nb->na+nb<=N->Q (.yield (none,na,nb,out,mg)) aw):wpS (aE prog w) A E s (hiO a b x (none,na,nb,out,mg)) Q st:=by
 have hb:=M.hb;refine cx (xE (tN (I:=λy c aw=>aw=st/\HI r a b (N+1-y) c) (Q:=λc aw=>aw=st/\(HS r a b c\/HI r a b N c)) ?step ?fin ⟨rfl,_,_,_,_,_,rfl,M,h1,h2,hN⟩) ?post);case fin =>
  rintro c aw ⟨rfl,na',sd,o,ac,bc,rfl,M',q1,q2,q3⟩;exact⟨rfl,.inr ⟨_,_,_,_,_,rfl,M',q1,q2,by lia⟩⟩
 case step =>
  rintro y c1 GN _ hy ⟨rfl,na',sd,o,ac,bc,rfl,M',q1,q2,q3⟩;exact Kc (N:=N-y) c hk M' q1 q2 (by lia) (λc q=>⟨rfl,.inl q⟩) λc q=>by obtain⟨na,nb,o,ac,bc,rfl,M,h1,h2,h3⟩:=q;exact⟨⟨rfl,.inr ⟨_,_,_,_,_,rfl,M,h1,h2,by lia⟩⟩,rfl,_,_,_,_,_,rfl,M,h1,h2,by lia⟩
 case post =>
  rintro c1 aw ⟨rfl,⟨o,rest,rfl,hM⟩|⟨na,nb,o,ac,bc,rfl,M',q1,q2,q3⟩⟩
  ·exact de (D _ (.refl _) _ ⟨_,_,rfl,hM⟩)
  ·exact JD c hk M' q1 q2 q3 D Y
def rE{st:dz}{a b:Array b3}{Q:Array b3->dz->Prop}(C:pV prog w A s κ r P)(hk:fw st=κ)(hPa:AllP P a)(hPb:AllP P b)(hA:Up r a 0 a.size)(hB:Up r b 0 b.size)(na:1<=a.size)(nb:1<=b.size)(h0:R r b 0<=R r a 0) (hg:∀ j,j<b.size->R r b j<=R r a (a.size-1)) (h:∀ out aw,bO r a b out->Mg st aw->Q out aw):wpS (aE prog w) A E s (ue a b) Q st:=by
 have c:MC prog w A s κ r P a b:=⟨C,hPa,hPb,hA,hB,λi hi=>Fn h0 (hA 0 i (cK _) (f7 _) hi),hg⟩
 rw[wg];refine cx (wpS_lift (zS ⟨rfl,?_⟩));refine cx (aK (by lia) λy0 e0=>?_);have M1:MH r a b #[y0] (a.size-1) b.size:=(MH.start hA hB).qL hA hB na e0 λ_=>hg _ (by lia);by_cases c1:a.size-1=0
 ·rw[if_pos (by simpa using c1)];exact de (h _ _ (M1.Rx hA hB c1) (.refl st))
 ·rw[if_neg (by simpa using c1)];by_cases c2:b.size=1
  ·rw[if_pos (by simpa using c2)];exact de (h _ _ (M1.uY hA hB c2 c.hl) (.refl st))
  ·rw[if_neg (by simpa using c2)];refine cx (wpS_get ?_);refine cx (xE (tN (I:=λx c aw=>Mg st aw/\∃ na nb out mg,c=(none,na,nb,out,mg)/\MH r a b out na nb/\1<=na/\2<=nb/\na+nb<=a.size+b.size-x) (Q:=λc aw=>Mg st aw/\HS r a b c) ?step ?fin ⟨.refl st,_,_,_,_,rfl,M1,by lia,by lia,by lia⟩) ?post)
   case fin =>
    rintro c aw ⟨_,na,nb,out,mg,rfl,M,h1,h2,h3⟩;lia
   case post =>
    rintro c aw ⟨hm,out,rest,rfl,hM⟩;exact de (h out aw hM hm)
   case step =>
    rintro x c1 GN _ hx ⟨AI,na,nb,out,mg,rfl,M,h1,h2,h3⟩;exact JC c (AI.kind.trans hk) M h1 h2 (by lia) (λaw g c q=>⟨AI.trans g,q⟩) λaw g out na nb mg M h1 h2 h3=>⟨AI.trans g,_,_,_,_,rfl,M,h1,h2,h3⟩
end
def wr(p:Nat)(m:List b3)(n:Nat)(xs:Array b3):Array b3:=(m.zipIdx n).foldl (λa (q:b3 × Nat)=>a.setIfInBounds (p+q.2) q.1) xs
theorem zT(p:Nat):∀ m n xs,p+n+m.length<=xs.size->∀ k:Nat,(wr p m n xs)[k]? = if p+n<=k/\k<p+n+m.length then m[k-(p+n)]? else xs[k]?
 |[],n,xs,h,k=>by rw[if_neg (by simp only[UE];lia)];rfl
 |q :: m,n,xs,h,k=>by
  have ih:=zT p m (n+1) (xs.setIfInBounds (p+n) q) (by rw[Array.size_setIfInBounds];simp only[k8] at h;lia) k;have e:wr p (q :: m) n xs=wr p m (n+1) (xs.setIfInBounds (p+n) q):=by unfold wr;rw[List.zipIdx_cons,xC]
  simp only[k8] at h ⊢;rw[e,ih];by_cases h1:p+(n+1)<=k/\k<p+(n+1)+m.length
  ·rw[if_pos h1,if_pos (by lia),show k-(p+n)=(k-(p+(n+1)))+1 by lia,List.getElem?_cons_succ]
  ·rw[if_neg h1];by_cases h2:k=p+n
   ·subst h2;rw[if_pos (by lia),Sz,W7,Array.getElem?_setIfInBounds_self_of_lt (by lia)]
   ·rw[if_neg (by lia),Array.getElem?_setIfInBounds_ne (by lia)]
def Ga(h:p+m.length<=xs.size):(wr p m 0 xs).toList=xs.toList.take p++m++xs.toList.drop (p+m.length):=by
 have hl:xs.toList.length=xs.size:=by simp
 apply L5;intro k;have e:=zT p m 0 xs h k;rw[UJ] at e;rw[vx,e];by_cases h1:k<p
 ·rw[if_neg (by lia),B7,IC (by rw[lP];lia),List.getElem?_take_of_lt h1,vx]
 ·by_cases h2:k<p+m.length
  ·rw[if_pos (by lia),B7,B5 (by rw[lP];lia),lP,show min p xs.toList.length=p by lia,IC (by lia)]
  ·rw[if_neg (by lia),B7,B5 (by rw[lP];lia),lP,show min p xs.toList.length=p by lia,B5 (by lia),List.getElem?_drop,
    show p+m.length+(k-p-m.length)=k by lia,vx]
def JM{p q:Nat}{xs:Array b3}(h:p<=q)(h2:q<=xs.size):xs.toList=xs.toList.take p++(xs.extract p q).toList++xs.toList.drop q:=by
 rw[Zq,W5];have e1:xs.toList.take p++(xs.toList.drop p).take (q-p)=xs.toList.take q:=by rw[<- Sg p (xs.toList.take q),List.take_take,List.drop_take,Nat.min_eq_left h]
 rw[e1,Sg]
def HF{p q:Nat}{m:List b3}{xs:Array b3}(h:p<=q)(h2:q<=xs.size)(hm:m.Perm (xs.extract p q).toList):(wr p m 0 xs).Perm xs:=by
 have hl:m.length=q-p:=by rw[hm.length_eq];simp;lia
 rw[Zm,Ga (by lia),show p+m.length=q by lia];have e:=JM h h2;exact(List.Perm.append_right _ (List.Perm.append_left _ hm)).trans (by rw[<- e])
def Runs(r:ag->Int)(xs:Array b3):List (Nat × Nat × Nat)->Nat->Nat->Prop
 |[],a,b=>a=b
 | (s,n,_) :: rest,a,b=>s=a/\1<=n/\Up r xs s (s+n)/\Runs r xs rest (s+n) b
section
variable {r:ag->Int}{xs ys:Array b3}
theorem Runs.le:∀ {ps} {a b},Runs r xs ps a b->a+ps.length<=b
 |[],a,b,h=>by simp only[Runs] at h;simp;lia
 | (s,n,p) :: rest,a,b,h=>by obtain⟨rfl,h1,_,h3⟩:=h;have:=Runs.le h3;simp only[k8];lia
theorem Runs.append:∀ {ps qs} {a b},Runs r xs (ps++qs) a b↔∃ c,Runs r xs ps a c/\Runs r xs qs c b
 |[],qs,a,b=>by simp[Runs]
 | (s,n,p) :: rest,qs,a,b=>by
  constructor
  ·rintro⟨h1,h2,h3,h4⟩;obtain⟨c,h5,h6⟩:=Runs.append.mp h4;exact⟨c,⟨h1,h2,h3,h5⟩,h6⟩
  ·rintro⟨c,⟨h1,h2,h3,h5⟩,h6⟩;exact⟨h1,h2,h3,Runs.append.mpr ⟨c,h5,h6⟩⟩
def Up.congr(h:Up r xs a b)(e:∀ k,a<=k->k<b->ys[k]? = xs[k]?):Up r ys a b:=λi j h1 h2 h3=>by rw[cJ (e i h1 (by lia)),cJ (e j (by lia) h3)];exact h i j h1 h2 h3
theorem Runs.congr:∀ {ps} {a b},Runs r xs ps a b->(∀ k,a<=k->k<b->ys[k]? = xs[k]?)->Runs r ys ps a b
 |[],a,b,h,_=>h
 | (s,n,p) :: rest,a,b,h,e=>by obtain⟨rfl,h1,h2,h3⟩:=h;have l:=h3.le;exact⟨rfl,h1,h2.congr λk u v=>e k u (by lia),Runs.congr h3 λk u v=>e k (by lia) v⟩
def Up.glue(h1:Up r xs a b)(h2:Up r xs b c)(h:∀ i j,a<=i->i<b->b<=j->j<c->R r xs i<=R r xs j):Up r xs a c:=λi j u v w=>by
 by_cases hj:j<b
 ·exact h1 i j u v hj
 ·by_cases hi:i<b
  ·exact h i j u hi (by lia) w
  ·exact h2 i j (by lia) v w
end
section
variable {prog:cf}{w:cw}{A:ft}{E:ag->aI->Prop}{s:aI}{κ:y8}{r:ag->Int}{P:ag->Prop}
def AllP.extract(h:AllP P xs)(i j:Nat):AllP P (xs.extract i j):=λp hp=>h p (by
 rw[Zq,W5] at hp;exact Si (P5 hp))
def dq(h:i+k<j)(hj:j<=xs.size):R r (xs.extract i j) k=R r xs (i+k):=by apply cJ;rw[UK,if_pos (by lia)]
def Up.extract(h:Up r xs i j)(mn:i<=j)(hj:j<=xs.size):Up r (xs.extract i j) 0 (xs.extract i j).size:=λa b _ h2 h3=>by
 have e:(xs.extract i j).size=j-i:=by simp only[UL];lia
 rw[dq (by lia) hj,dq (by lia) hj];exact h _ _ (by lia) (by lia) (by lia)
def xN(hz:sa+na+nb<=xs.size)(hk:k<na)(hnb:sd<=nb)(hA:Up r xs sa (sa+na))(hB:Up r xs (sa+na) (sa+na+nb))(lo1:∀ i,i<k->R r xs (sa+i)<=R r xs (sa+na)) (N4:R r xs (sa+na)<R r xs (sa+k)) (BD:∀ i,i<sd->R r xs (sa+na+i)<R r xs (sa+na-1)) (wm:∀ i,sd<=i->i<nb->R r xs (sa+na-1)<=R r xs (sa+na+i))(hm:bO r (xs.extract (sa+k) (sa+na)) (xs.extract (sa+na) (sa+na+sd)) m) :
  Up r (wr (sa+k) m.toList 0 xs) sa (sa+na+nb)/\(wr (sa+k) m.toList 0 xs).Perm xs/\∀ j,j<sa\/sa+na+nb<=j->(wr (sa+k) m.toList 0 xs)[j]? = xs[j]? := by
 obtain⟨mp,mu⟩:=hm;have eab:(xs.extract (sa+k) (sa+na)).toList++(xs.extract (sa+na) (sa+na+sd)).toList=(xs.extract (sa+k) (sa+na+sd)).toList:=by rw[<- Array.toList_append,Array.extract_append_extract,show min (sa+k) (sa+na)=sa+k by lia,show max (sa+na) (sa+na+sd)=sa+na+sd by lia]
 rw[eab] at mp;have ml:m.toList.length=na+sd-k:=by rw[mp.length_eq];simp;lia
 have hw:sa+k+m.toList.length<=xs.size:=by lia
 have get:=zT (sa+k) m.toList 0 xs (by lia);rw[UJ,ml] at get
 -- every merged item is one of the qf'
 have mem:∀ (j:Nat) p,m.toList[j]? = some p->∃ i,sa+k<=i/\i<sa+na+sd/\r p.1=R r xs i:=λj p e=>by
  have hp:p∈(xs.extract (sa+k) (sa+na+sd)).toList:=mp.mem_iff.mp (nh e);obtain⟨i,hi⟩:=List.getElem?_of_mem hp;rw[vx,UK] at hi;split at hi
  ·exact⟨sa+k+i,by lia,by lia,(sP hi).symm⟩
  ·cases hi
 have low:∀ i,sa+k<=i->i<sa+na+sd->R r xs (sa+na)<=R r xs i:=λi h1 h2=>by
  by_cases h3:i<sa+na
  ·exact Fn (MG N4) (hA (sa+k) i (by lia) h1 h3)
  ·exact hB (sa+na) i (cK _) (by lia) (by lia)
 have high:∀ i,sa+k<=i->i<sa+na+sd->R r xs i<=R r xs (sa+na-1):=λi h1 h2=>by
  by_cases h3:i<sa+na
  ·exact hA i (sa+na-1) (by lia) (by lia) (by lia)
  ·have:=BD (i-(sa+na)) (by lia);rw[show sa+na+(i-(sa+na))=i by lia] at this;lia
 have Rin:∀ j,j<na+sd-k->∃ i,sa+k<=i/\i<sa+na+sd/\R r (wr (sa+k) m.toList 0 xs) (sa+k+j)=R r xs i:=λj hj=>by
  have e:=get (sa+k+j);rw[if_pos (by lia),show sa+k+j-(sa+k)=j by lia] at e;have Bz:j<m.toList.length:=by lia
  obtain⟨i,h1,h2,h3⟩:=mem j m.toList[j] (tI Bz);rw[tI Bz] at e;exact⟨i,h1,h2,(sP e).trans h3⟩
 have RA:∀ j,j<sa+k\/sa+na+sd<=j->(wr (sa+k) m.toList 0 xs)[j]? = xs[j]? := λj hj=>by have e:=get j;rw[if_neg (by lia)] at e;exact e
 refine⟨?_,HF (by lia) (by lia) mp,λj hj=>RA j (by lia)⟩;have U1:Up r (wr (sa+k) m.toList 0 xs) sa (sa+k):=Up.congr (λi j h1 h2 h3=>hA i j h1 h2 (by lia)) λj h1 h2=>RA j (.inl h2);have U2:Up r (wr (sa+k) m.toList 0 xs) (sa+k) (sa+na+sd):=λi j h1 h2 h3=>by
  have ei:=get i;have ej:=get j;rw[if_pos (by lia)] at ei ej;have li:i-(sa+k)<m.toList.length:=by lia
  have lj:j-(sa+k)<m.toList.length:=by lia
  rw[tI li] at ei;rw[tI lj] at ej;rw[sP ei,sP ej];by_cases mn:i=j
  ·subst mn;exact An _
  ·exact(E8.mp mu) _ _ li lj (by lia)
 have U3:Up r (wr (sa+k) m.toList 0 xs) (sa+na+sd) (sa+na+nb):=Up.congr (λi j h1 h2 h3=>hB i j (by lia) h2 h3) λj h1 h2=>RA j (.inr h1);refine(U1.glue U2 λi j h1 h2 h3 h4=>?_).glue U3 λi j h1 h2 h3 h4=>?_
 ·obtain⟨q,q1,q2,q3⟩:=Rin (j-(sa+k)) (by lia);rw[show sa+k+(j-(sa+k))=j by lia] at q3;rw[q3,cJ (RA i (.inl h2))];have:=lo1 (i-sa) (by lia);rw[show sa+(i-sa)=i by lia] at this;exact Fn this (low q q1 q2)
 ·have e2:=wm (j-(sa+na)) (by lia) (by lia);rw[show sa+na+(j-(sa+na))=j by lia] at e2;rw[cJ (RA j (.inr h3))];by_cases hi:i<sa+k
  ·rw[cJ (RA i (.inl hi))];have:=lo1 (i-sa) (by lia);rw[show sa+(i-sa)=i by lia] at this;have:=low (sa+na-1) (by lia) (by lia);lia
  ·obtain⟨q,q1,q2,q3⟩:=Rin (i-(sa+k)) (by lia);rw[show sa+k+(i-(sa+k))=i by lia] at q3;rw[q3];exact Fn (high q q1 q2) e2
structure St(r:ag->Int)(κ:y8)(fF:Array b3)(st:dz)(ps:List (Nat × Nat × Nat))(lo:Nat):Prop where
 kind:fw st=κ
 failed:tP st=none
 perm:(bI st).Perm fF
 pend:mM st=ps.toArray
 runs:Runs r (bI st) ps 0 lo
def St.size{fF:Array b3}{st:dz}{ps:List (Nat × Nat × Nat)}{lo:Nat}(h:St r κ fF st ps lo):(bI st).size=fF.size:=h.perm.size_eq
def CW{ps:List (Nat × Nat × Nat)}(h:i+1<ps.length):∃ pre x y post,ps=pre++x :: y :: post/\pre.length=i:=by refine⟨ps.take i,ps[i],ps[i+1],ps.drop (i+2),?_,by rw[lP];lia⟩;rw[<- LW (by lia),<- LW (by lia),Sg]
def jU{st:dz}{fF:Array b3}{ps:List (Nat × Nat × Nat)}{lo i:Nat}{Q:Bool->dz->Prop}(C:pV prog w A s κ r P)(hP:AllP P fF)(H:St r κ fF st ps lo)(CH:lo<=fF.size)(hi:i+1<ps.length)(h:∀ aw kP,St r κ fF aw kP lo->kP.length+1=ps.length->kP≠[]->(∀ k,lo<=k->(bI aw)[k]? = (bI st)[k]?)->Q true aw):wpS (aE prog w) A E s (mergeAt' i) Q st:=by
 obtain⟨pre,⟨sa,na,pa⟩,⟨sb,nb,pb⟩,post,rfl,Kk⟩:=CW hi;have hz:=H.size;have n5:AllP P (bI st):=hP.perm H.perm;obtain⟨c,hr1,VG⟩:=Runs.append.mp H.runs;obtain⟨rfl,n1,u1,rfl,n2,u2,hr3⟩:=VG;have le3:=hr3.le;have le1:=hr1.le
 -- the new pending list
 have kQ':((mM st).setIfInBounds i (sa,na+nb,pa)).eraseIdxIfInBounds (i+1)=(pre++(sa,na+nb,pa) :: post).toArray:=by rw[H.pend];apply UM.mp;simp[<- Kk,List.eraseIdx_append_of_length_le]
 have new:∀ xs g,xs.Perm (bI st)->(∀ j,j<sa\/sa+na+nb<=j->xs[j]? = (bI st)[j]?)->Up r xs sa (sa+(na+nb)) ->
   St r κ fF (SortSt.mk' (fw st) xs (pre++(sa,na+nb,pa) :: post).toArray g (tP st)) (pre++(sa,na+nb,pa) :: post) lo:=λxs g hp ho hu =>
  ⟨H.kind,H.failed,hp.trans H.perm,rfl,Runs.append.mpr ⟨sa,hr1.congr λk _ hk=>ho k (.inl hk),rfl,by lia,hu,by
   rw[show sa+(na+nb)=sa+na+nb by lia];exact hr3.congr λk hk _=>ho k (.inr hk)⟩⟩
 have len:(pre++(sa,na+nb,pa) :: post).length+1=(pre++(sa,na,pa) :: (sa+na,nb,pb) :: post).length:=by simp;lia
 have e0:(mM st)[i]? = some (sa,na,pa):=by rw[H.pend,<- Kk];simp
 have e1:(mM st)[i+1]? = some (sa+na,nb,pb):=by rw[H.pend,<- Kk];simp
 refine cx (wpS_get ?_);rw[e0,e1];refine cx (Fm ?_);rw[kQ'];refine cx (aK (xs:=bI st) (by lia) λkb ekb=>cx (cG (arr:=bI st) C H.kind n5 (n5.at ekb) (by lia) (by lia) u1 λk VD CM N9=>?_));have rkb:=sP (r:=r) ekb;dsimp only;by_cases z:na-k=0
 ·rw[if_pos (by simpa using z)];refine de (h _ _ (new (bI st) (gallopOf st) (Array.Perm.refl _) (λ_ _=>rfl) ?_) len (by simp) λ_ _=>rfl);rw[show sa+(na+nb)=sa+na+nb by lia];refine u1.glue u2 λi j h1 h2 h3 h4=>?_;have:=BL (CM (i-sa) (by lia));rw[show sa+(i-sa)=i by lia] at this;have:=u2 (sa+na) j (cK _) h3 h4;lia
 ·rw[if_neg (by simpa using z)];refine cx (aK (xs:=bI st) (by lia) λka eka=>cx (cG (arr:=bI st) C H.kind n5 (n5.at eka) (by lia) (by lia) u2 λl Ry Kx Rz=>?_));have rka:=sP (r:=r) eka;rw[show sa+k+(na-k)-1=sa+na-1 by lia] at rka;dsimp only;by_cases z2:l=0
  ·rw[if_pos (by simpa using z2)];refine de (h _ _ (new (bI st) (gallopOf st) (Array.Perm.refl _) (λ_ _=>rfl) ?_) len (by simp) λ_ _=>rfl);rw[show sa+(na+nb)=sa+na+nb by lia];refine u1.glue u2 λi j h1 h2 h3 h4=>?_;have:=uP (Rz (j-(sa+na)) (by lia) (by lia));rw[show sa+na+(j-(sa+na))=j by lia] at this;have:=u1 i (sa+na-1) h1 (by lia) (by lia);lia
  ·rw[if_neg (by simpa using z2)];have lo1:∀ i,i<k->R r (bI st) (sa+i)<=R r (bI st) (sa+na):=λi hi=>by have:=BL (CM i hi);lia
   have N4:R r (bI st) (sa+na)<R r (bI st) (sa+k):=by have:=yl (N9 k (cK _) (by lia));lia
   have BD:∀ i,i<l->R r (bI st) (sa+na+i)<R r (bI st) (sa+na-1):=λi hi=>by have:=Gm (Kx i hi);lia
   have wm:∀ i,l<=i->i<nb->R r (bI st) (sa+na-1)<=R r (bI st) (sa+na+i):=λi h1 h2=>by have:=uP (Rz i h1 h2);lia
   have sx:((bI st).extract (sa+k) (sa+na)).size=na-k:=by simp only[UL];lia
   have sy:((bI st).extract (sa+na) (sa+na+l)).size=l:=by simp only[UL];lia
   have ux:Up r ((bI st).extract (sa+k) (sa+na)) 0 ((bI st).extract (sa+k) (sa+na)).size:=Up.extract (λi j h1 h2 h3=>u1 i j (by lia) h2 h3) (by lia) (by lia);have uy:Up r ((bI st).extract (sa+na) (sa+na+l)) 0 ((bI st).extract (sa+na) (sa+na+l)).size:=Up.extract (λi j h1 h2 h3=>u2 i j h1 h2 (by lia)) (by lia) (by lia);have h00:R r ((bI st).extract (sa+na) (sa+na+l)) 0<=R r ((bI st).extract (sa+k) (sa+na)) 0:=by rw[dq (by lia) (by lia),dq (by lia) (by lia)];exact MG N4
   have hgg:∀ j,j<((bI st).extract (sa+na) (sa+na+l)).size->R r ((bI st).extract (sa+na) (sa+na+l)) j<=R r ((bI st).extract (sa+k) (sa+na)) (((bI st).extract (sa+k) (sa+na)).size-1):=λj hj=>by rw[sx,dq (by lia) (by lia),dq (by lia) (by lia),show sa+k+(na-k-1)=sa+na-1 by lia];exact MG (BD j (by lia))
   have fin:∀ out aw,bO r ((bI st).extract (sa+k) (sa+na)) ((bI st).extract (sa+na) (sa+na+l)) out->Mg (SortSt.mk' (fw st) (bI st) (pre++(sa,na+nb,pa) :: post).toArray (gallopOf st) (tP st)) aw ->
     Q true (SortSt.mk' (fw aw) (wr (sa+k) out.toList 0 (bI aw)) (mM aw) (gallopOf aw) (tP aw)):=λout aw hm hg=>by
    obtain⟨g,rfl⟩:=hg;obtain⟨m1,m2,m3⟩:=xN (by lia) (by lia) Ry u1 u2 lo1 N4 BD wm hm;exact h _ _ (new _ g m2 m3 (by rw[show sa+(na+nb)=sa+na+nb by lia];exact m1)) len (by simp) λk hk=>m3 k (.inr (by lia))
   have fin2:∀ out aw,bO r ((bI st).extract (sa+k) (sa+na)) ((bI st).extract (sa+na) (sa+na+l)) out->Mg (SortSt.mk' (fw st) (bI st) (pre++(sa,na+nb,pa) :: post).toArray (gallopOf st) (tP st)) aw ->
     tP aw=none:=λout aw _ hg=>by
    obtain⟨g,rfl⟩:=hg;exact H.failed
   by_cases z3:na-k<=l
   ·rw[if_pos z3];refine cx (sH (a:=(bI st).extract (sa+k) (sa+na)) (b:=(bI st).extract (sa+na) (sa+na+l)) C H.kind (n5.extract _ _) (n5.extract _ _) ux uy (by lia) (by lia) h00 hgg λout aw hm hg=>?_);refine cx (Fm (cx (wpS_get ?_)));have f:=fin out aw hm hg;have f2:=fin2 out aw hm hg;refine de ?_;show Q (tP aw).isNone _;rw[f2];exact f
   ·rw[if_neg z3];refine cx (rE (a:=(bI st).extract (sa+k) (sa+na)) (b:=(bI st).extract (sa+na) (sa+na+l)) C H.kind (n5.extract _ _) (n5.extract _ _) ux uy (by lia) (by lia) h00 hgg λout aw hm hg=>?_);refine cx (Fm (cx (wpS_get ?_)));have f:=fin out aw hm hg;have f2:=fin2 out aw hm hg;refine de ?_;show Q (tP aw).isNone _;rw[f2];exact f
theorem Runs.modify(hf:∀ x,(f x).1=x.1/\(f x).2.1=x.2.1):∀ {ps} {i a b},Runs r xs ps a b->Runs r xs (ps.modify i f) a b
 |[],_,_,_,h=>by simpa using h
 | (s,n,p) :: rest,0,a,b,h=>by obtain⟨h1,h2⟩:=hf (s,n,p);rw[List.modify_zero_cons];have e:f (s,n,p)=(s,n,(f (s,n,p)).2.2):=Prod.ext h1 (Prod.ext h2 rfl);rw[e];exact h
 | (s,n,p) :: rest,i+1,a,b,h=>by obtain⟨h1,h2,h3,h4⟩:=h;exact⟨h1,h2,h3,Runs.modify hf h4⟩
def St.win{fF:Array b3}{st aw:dz}{ps:List (Nat × Nat × Nat)}{lo hi:Nat}(H:St r κ fF st ps lo)(hw:n4 lo hi st aw):St r κ fF aw ps lo :=
 ⟨hw.kind.trans H.kind,hw.failed.trans H.failed,hw.perm.trans H.perm,hw.pend.trans H.pend,H.runs.congr λk _ hk=>hw.out k (.inl hk)⟩
def wpS_sortRuns{st:dz}{Q:Unit->dz->Prop}(C:pV prog w A s κ r P)(hk:fw st=κ)(hP:AllP P (bI st))(hp:mM st = #[])(hf:tP st=none)(h:∀ aw,(bI aw).Perm (bI st)->tP aw=none->Up r (bI aw) 0 (bI st).size->Q () aw):wpS (aE prog w) A E s sortRuns' Q st:=by
 rw[sortRuns'_eq];refine cx (wpS_get ?_);generalize ha:bI st=fF at *
 have H0:St r κ fF st [] 0:=⟨hk,hf,by rw[ha],by rw[hp],rfl⟩
 refine cx (xE (tN (I:=λx c aw=>∃ ps lo,c=(none,lo)/\St r κ fF aw ps lo/\lo<=fF.size/\x<=lo) (Q:=λc aw=>∃ ps,c=(none,fF.size)/\St r κ fF aw ps fF.size) ?step ?fin ⟨[],0,rfl,H0,f7 _,cK _⟩) ?post)
 case fin =>
  rintro c aw ⟨ps,lo,rfl,H,h1,h2⟩;have:lo=fF.size:=by lia
  subst this;exact⟨ps,rfl,H⟩
 case post =>
  rintro c aw ⟨ps,rfl,H⟩;have l0:=H.runs.le;refine cx (xE (tN (I:=λy c aw=>c=(none,())/\∃ kP,St r κ fF aw kP fF.size/\kP.length+y<=fF.size) (Q:=λc aw=>c=(none,())/\∃ kP,St r κ fF aw kP fF.size/\kP.length<=1) ?kS' ?VH ⟨rfl,ps,H,by lia⟩) ?kT')
  case VH =>
   rintro c aw ⟨rfl,kP,H',hl⟩;exact⟨rfl,kP,H',by lia⟩
  case kT' =>
   rintro c aw ⟨rfl,kP,H',hl⟩;refine de (h aw H'.perm H'.failed ?_);have q:=H'.runs
   match kP,hl,q with
   |[],_,q =>have q:0=fF.size:=q;intro i j _ _ hj;lia
   |[(s',n',p')],_,q =>obtain⟨rfl,_,hu,e⟩:=q;rw[<- e];exact hu
  case kS' =>
   rintro y c GN _ hy ⟨rfl,kP,H',hl⟩;refine cx (wpS_get ?_);have ep:(mM GN).size=kP.length:=by rw[H'.pend];simp
   by_cases z:(mM GN).size<=1
   ·rw[if_pos z];exact de ⟨rfl,kP,H',by lia⟩
   ·rw[if_neg z];exact cx (jU C hP H' (cK _) (by(repeat' split)<;>lia) λA3 ps2 H2 hlen _ _=>de ⟨rfl,ps2,H2,by lia⟩)
 case step =>
  rintro x c GN _ hx ⟨ps,lo,rfl,H,h1,h2⟩;by_cases z:lo >= fF.size
  ·rw[if_pos z];have:lo=fF.size:=by lia
   subst this;exact de ⟨ps,rfl,H⟩
  ·rw[if_neg z];have hz:=H.size;refine cx (wpS_countRun C H.kind (hP.perm H.perm) (by lia) (by lia) λm A3 hw AI x5 hu=>?_);have H2:=H.win hw;dsimp only;refine GZ (K:=?K) ?pk λkey=>?main;case main =>
    by_cases z2:m<minRun' fF.size fF.size 0
    ·rw[if_pos z2];refine cx (wpS_lift (zS ⟨rfl,?_⟩));refine cx (wpS_binarySort C H2.kind (hP.perm H2.perm) (by clear key;have:=H2.size;lia) (by clear key;lia) hu λA4 hw3 hu3=>?_);have H3:=H2.win hw3;have b1:1<=min (fF.size-lo) (minRun' fF.size fF.size 0):=by clear key;lia
     have b2:lo+min (fF.size-lo) (minRun' fF.size fF.size 0)<=fF.size:=by clear key;lia
     clear hw3;generalize min (fF.size-lo) (minRun' fF.size fF.size 0)=nn at *
     revert nn A4;exact key
    ·rw[if_neg z2];exact key _ H2 _ hu AI (by lia)
   intro A4 H3 nn hu3 b1 b2;refine cx (wpS_get ?_);have push:∀ aw kP,St r κ fF aw kP lo->Up r (bI aw) lo (lo+nn)->∃ ps NW,((none:Option Unit),lo+nn)=(none,NW)/\St r κ fF (setPending aw ((mM aw).push (lo,nn,0))) ps NW/\NW<=fF.size/\x+1<=NW:=λaw kP G u =>
    ⟨kP++[(lo,nn,0)],lo+nn,rfl,⟨G.kind,G.failed,G.perm,by rw[G.pend];simp,Runs.append.mpr ⟨lo,G.runs,rfl,b1,u,rfl⟩⟩,b2,by lia⟩
   cases hb:(mM A4).back? with
   |none =>exact cx (Fm (de (push A4 ps H3 hu3)))
   |some t =>
    obtain⟨s1,n1,p1⟩:=t;dsimp only;generalize power' fF.size (2*s1+n1) (2*s1+n1+n1+nn) fF.size=pw;refine cx (xE (tN (I:=λy c aw=>c=(none,())/\∃ kP,St r κ fF aw kP lo/\Up r (bI aw) lo (lo+nn))
     ?_ (λ_ _ q=>q) ⟨rfl,ps,H3,hu3⟩) ?_)
    ·rintro y c CL _ hy ⟨rfl,kP,H4,TJ⟩;refine cx (wpS_get ?_);have ep:(mM CL).size=kP.length:=by rw[H4.pend];simp
     by_cases z3:(mM CL).size>1
     ·rw[if_pos z3];have e4:(mM CL)[(mM CL).size-2]? = some ((mM CL)[(mM CL).size-2]'(by lia)):=getElem?_pos _ _ (by lia);rw[e4];generalize (mM CL)[(mM CL).size-2]'(by lia)=tt;obtain⟨t1,t2,kU'⟩:=tt;dsimp only;by_cases z4:kU'<=pw
      ·rw[if_pos z4];exact de ⟨rfl,kP,H4,TJ⟩
      ·rw[if_neg z4];exact cx (jU C hP H4 h1 (by lia) λMY ps5 H5 hlen _ VJ=>de ⟨rfl,ps5,H5,TJ.congr λk hk _=>VJ k hk⟩)
     ·rw[if_neg z3];exact de ⟨rfl,kP,H4,TJ⟩
    ·rintro c CL ⟨rfl,kP,H4,TJ⟩;refine cx (Fm (cx (Fm (de ?_))));refine push _ (kP.modify (kP.length-1) λx=>(x.1,x.2.1,pw)) ⟨H4.kind,H4.failed,H4.perm,?_,Runs.modify (f:=λx=>(x.1,x.2.1,pw)) (λ_=>⟨rfl,rfl⟩) H4.runs⟩ TJ;rw[H4.pend];simp
def dD (h:df) (a:ai) (vs:List ag):df:=((h.update a (Obj.mapSeq λ_=>#[])).push (seqObj "tuple" vs.toArray 0)).push (seqObj "list" #[] 0)
def kI(hb:b≠a)(eK:b<h.objs.size):(dD h a vs).get? b=h.get? b:=by
 unfold dD;rw[P8 _ _ _ (by rw[IJ,Mb];exact fz (AZ eK)),
  P8 _ _ _ (by rw[Mb];exact fz eK),Zg _ _ _ _ hb]
def sI(hp:xs.Perm (pairsOf vs))(hs:Up r xs 0 vs.length):(xs.map (·.2)).toList.Perm vs/\(xs.map (·.2)).toList.Pairwise λx y=>r x<=r y:=by
 have hl:xs.toList.Perm (vs.zip vs):=by rw[<- pairsOf_toList];exact Zm.mp hp
 have TK:∀ p,p∈xs.toList->p.1=p.2:=λp n9=>(mem_zip_self (hl.mem_iff.mp n9)).1;have e:(xs.map (·.2)).toList=xs.toList.map (·.1):=by rw[Array.toList_map];exact D2 λp n9=>(TK p n9).symm
 have fN:xs.size=vs.length:=by rw[hp.size_eq,pairsOf_size]
 rw[e];refine⟨?_,?_⟩
 ·have h1:=hl.map (·.1);rwa[L7 (cK _)] at h1
 ·rw[E8];intro i j hi hj mn;have kX:i<xs.size:=by simpa using hi
  have Bz:j<xs.size:=by simpa using hj
  have h1:=hs i j (f7 _) (MA mn) (by lia);rw[JT kX,JT Bz] at h1;simpa using h1
def iH {F:PySem.Fin->aI->Prop} (ho:s.heap.get? a=some (seqObj "list" vs.toArray n)) (fN:vs.length<=bG) (hP:∀ v∈vs,P v)(hk:2<=vs.length->∀ Q,Q κ { s with heap:=dD s.heap a vs }->aS (aE prog w) A (keyKind' vs.toArray) Q E { s with heap:=dD s.heap a vs }) (C:2<=vs.length->pV prog w A { s with heap:=dD s.heap a vs } κ r P) (h:∀ out:Array ag,out.toList.Perm vs->(out.toList.Pairwise λx y=>r x<=r y)->F (.done (.ret .none)) { s with heap:=sortedHeap s.heap a vs out }) :
  aS (aE prog w) A (Builtin.«list.sort» ⟨[.ref a],[]⟩) F E s:=by
 rw[list_sort_plain];have ha:a<s.heap.objs.size:=e8 ho;refine av (listItems_at ho rfl ?_);refine av (listUpdate_at ho rfl ?_ (by simpa using fN) (f7 _));obtain⟨e1,GO⟩:∃ e1,(s.heap.update a (Obj.mapSeq λ_=>#[])).get? a=some (seqObj "list" #[] e1):=⟨_,get?_update_seq ho (λ_=>#[])⟩
 refine av (seqEpoch_at GO rfl ?_);refine av (wpAny_newTuple ?_ (by simpa using fN));refine av (wpAny_newList ?_ (f7 _));refine vn ?_;have VL:(dD s.heap a vs).get? a=some (seqObj "list" #[] e1):=by unfold dD;rw[P8 _ _ _ (by rw[IJ,Mb];exact fz (AZ ha)),P8 _ _ _ (by rw[Mb];exact fz ha)];exact GO
 have hvz:vs.toArray.size=vs.length:=by simp
 have fin:∀ aw:dz,(bI aw).Perm (pairsOf vs)->Up r (bI aw) 0 vs.length->F (.done (.ret .none)) { s with heap:=sortedHeap s.heap a vs ((bI aw).map (·.2)) }:=by intro aw hp hs;obtain⟨h1,h2⟩:=sI hp hs;exact h _ h1 h2
 by_cases h2:vs.toArray.size<2
 ·rw[if_pos h2,if_pos h2];refine av (aT ?_);refine av (aT ?_);refine av (seqEpoch_at VL rfl ?_);refine av (listUpdate_at VL rfl ?_ (f7 _) (by rw[Array.size_map];show(pairsOf vs).size<=_;rw[pairsOf_size];lia));simp only[bne_self_eq_false,xI,if_false];refine aT (fin (SortSt.mk' general' (vs.toArray.zip vs.toArray) #[] 7 none) (Array.Perm.refl _) ?_);intro i j _ mn hj;have:i=j:=by lia
  subst this;exact An _
 ·rw[if_neg h2,if_neg h2];refine av (hk (by lia) _ ?_);refine av (oS (wpS_sortRuns (Q:=λ_ aw=>(bI aw).Perm (pairsOf vs)/\tP aw=none/\Up r (bI aw) 0 vs.length) (C (by lia)) rfl (λp hp=>?_) rfl rfl λaw a1 a2 a3=>⟨a1,a2,?_⟩) ?_ λ_ _ e=>e)
  ·have n9:p∈(pairsOf vs).toList:=hp;rw[pairsOf_toList] at n9;exact hP _ (mem_zip_self n9).2
  ·have e:(bI (SortSt.mk' κ (vs.toArray.zip vs.toArray) #[] 7 none)).size=vs.length:=pairsOf_size vs;rw[e] at a3;exact a3
  ·rintro⟨⟨⟩,aw⟩ s' ⟨rfl,hp,hf,hs⟩;refine av (seqEpoch_at VL rfl ?_);refine av (listUpdate_at VL rfl ?_ (f7 _) (by refine kE (IH ((Array.size_map ..).trans (hp.size_eq.trans (pairsOf_size _)))) ?_;lia));rw[hf];simp only[bne_self_eq_false,xI,if_false];exact aT (fin aw hp hs)
def o_ (h:df) (vs:List ag):df:=((h.push (seqObj "list" #[] 0)).update h.objs.size (Obj.mapSeq (· ++ vs.toArray))).push (seqObj "list" vs.toArray 0)
def k_(hb:h.get? b=some o):(dD (o_ h vs) (h.objs.size+1) vs).get? b=some o:=by
 have eK:b<h.objs.size:=e8 hb;have e:(o_ h vs).get? b=some o:=by unfold o_;rw[P8 _ _ _ (by rw[Mb,IJ];exact fz (AZ eK)),Zg _ _ _ _ (fz eK),P8 _ _ _ (fz eK)];exact hb
 rw[kI (fz (AZ eK)) (e8 e)];exact e
def yc(hl:s.heap.IsList l vs.toArray)(fN:vs.length<=bG)(hP:∀ v∈vs,P v)(hk:2<=vs.length->∀ A' E' s',(∀ b o,s.heap.get? b=some o->s'.heap.get? b=some o)->∀ Q,Q κ s'->aS (aE prog w) A' (keyKind' vs.toArray) Q E' s')(C:2<=vs.length->∀ s',(∀ b o,s.heap.get? b=some o->s'.heap.get? b=some o)->pV prog w A.in1.in1 s' κ r P)(h:∀ h' (out:List ag) n,out.Perm vs->(out.Pairwise λx y=>r x<=r y)->(∀ b o,s.heap.get? b=some o->h'.get? b=some o)->h'.get? (s.heap.objs.size+1)=some (seqObj "list" out.toArray n)->Q (.ref (s.heap.objs.size+1)) { s with heap:=h' }) :
  aS (aE prog w) A (call (.builtin "sorted") [.ref l]) Q E s:=by
 refine Calls.call_function_entry kind_sorted plain_sorted entry_sorted (args_sorted1 _) ?_;refine av (aT ?_);refine av (collect_list hl ?_ fN);refine av (wpAny_newList ?_ (by simpa using fN));have ed':((s.heap.push (seqObj "list" #[] 0)).update s.heap.objs.size (Obj.mapSeq (· ++ vs.toArray))).objs.size=s.heap.objs.size+1:=by rw[Mb,IJ]
 have IX:(o_ s.heap vs).get? (s.heap.objs.size+1)=some (seqObj "list" vs.toArray 0):=by rw[<- ed'];exact ip _ rfl
 rw[ed'];refine av (vn (E4 slot_list_sort ⟨_,IX,rfl⟩ entry_list_sort (iH (r:=r) IX fN hP (λh2=>hk h2 _ _ _ λb o e=>k_ e) (λh2=>?_) λout a1 a2=>⟨_,rfl,?_⟩) (args_list_sort _)))
 ·exact C h2 _ λb o e=>k_ e
 ·obtain⟨n,e⟩:=sortedAll_at s.heap vs out;refine aT ⟨_,rfl,h (sortedAll s.heap vs out) out.toList n a1 a2 (λb o e=>sortedAll_old e) (by rw[Zo];exact e)⟩
end
end FX
section
open PySem PySem.Spec PyProof.Rows
namespace L2
def oa:Key->Key->Bool
 |.inl i,.inl j=>decide (i<j)
 |.inr x,.inr y=>x2 x y
 |_,_=>false
def kG:List Key->List Key->Bool
 |a :: as,b :: bs=>if a=b then kG as bs else oa a b
 |_,_=>false
def oy:Key->Bool
 |.inl _=>true
 |.inr _=>false
def mz(k:List Key):List Bool:=k.map oy
def Fg(x:Str):x2 x x=false:=by unfold x2;simp[List.lt_irrefl]
def Iz(h:x2 x y=true)(g:x2 y z=true):x2 x z=true:=by
 unfold x2 at *
 simp only[decide_eq_true_eq] at *
 exact List.lt_trans h g
def zx{x y:Str}(h:x.cps.toList=y.cps.toList):x=y:=by cases x;cases y;simp only at h;rw[UM.mp h]
def Ek{x y:Str}(h:x2 x y=false)(g:x2 y x=false):x=y:=by
 unfold x2 at *
 simp only[decide_eq_false_iff_not] at *
 apply zx;exact List.le_antisymm (List.not_lt.mp g) (List.not_lt.mp h)
def xZ(a:Key):oa a a=false:=by cases a with|inl i=>simp[oa]|inr x=>exact Fg x
def JW(h:oa a b=true)(g:oa b c=true):oa a c=true:=by cases a<;>cases b<;>cases c<;>simp only[oa,decide_eq_true_eq] at *<;>first|lia|contradiction|exact Iz h g
def Hc(e:oy a=oy b)(h:oa a b=false)(g:oa b a=false):a=b:=by
 cases a<;>cases b<;>simp only[oa,oy,decide_eq_false_iff_not] at *
 ·congr 1;lia
 ·cases e
 ·cases e
 ·congr 1;exact Ek h g
theorem Ab:∀ a:List Key,kG a a=false
 |[]=>rfl
 |a :: as=>by unfold kG;rw[if_pos rfl];exact Ab as
theorem yX:∀ {a b c},kG a b=true->kG b c=true->kG a c=true
 |[],_,_,h,_=>by simp[kG] at h
 |_ :: _,[],_,h,_=>by simp[kG] at h
 |_ :: _,_ :: _,[],_,g=>by simp[kG] at g
 |a :: as,b :: bs,c :: cs,h,g=>by
  unfold kG at h g ⊢;by_cases e1:a=b
  ·subst e1;rw[if_pos rfl] at h;by_cases e2:a=c
   ·subst e2;rw[if_pos rfl] at g ⊢;exact yX h g
   ·rw[if_neg e2] at g ⊢;exact g
  ·rw[if_neg e1] at h;by_cases e2:b=c
   ·subst e2;rw[if_neg e1];exact h
   ·rw[if_neg e2] at g;have t:=JW h g;have ne:a≠c:=λe=>by subst e;rw[xZ] at t;cases t
    rw[if_neg ne];exact t
theorem sX:∀ {a b},mz a=mz b->kG a b=false->kG b a=false->a=b
 |[],[],_,_,_=>rfl
 |[],_ :: _,e,_,_=>by simp[mz] at e
 |_ :: _,[],e,_,_=>by simp[mz] at e
 |a :: as,b :: bs,e,h,g=>by
  simp only[mz,gL,List.cons.injEq] at e;unfold kG at h g;by_cases e1:a=b
  ·subst e1;rw[if_pos rfl] at h g;rw[sX (e.2) h g]
  ·rw[if_neg e1] at h;rw[if_neg (Ne.symm e1)] at g;exact absurd (Hc e.1 h g) e1
theorem count_le{α:Type}(p q:α->Bool):∀ (l:List α),(∀ x∈l,p x=true->q x=true)->l.countP p<=l.countP q
 |[],_=>cK _
 |x :: l,h=>by have ih:=count_le p q l λy hy=>h y (eI _ hy);cases hp:p x<;>cases hq:q x<;>simp_all<;>lia
theorem uW{α:Type}(p q:α->Bool)(a:α)(ha:p a=false)(hb:q a=true):∀ (l:List α),a∈l->(∀ x∈l,p x=true->q x=true)->l.countP p<l.countP q
 |[],m,_=>by cases m
 |x :: l,m,h=>by
  rw[List.countP_cons,List.countP_cons];rcases eu.mp m with rfl|m
  ·have:=count_le p q l λy hy=>h y (eI _ hy);rw[ha,hb];simp;lia
  ·have ih:=uW p q a ha hb l m λy hy=>h y (eI _ hy);cases hp:p x<;>cases hq:q x<;>simp_all<;>lia
def GP(L:List (List Key))(k:List Key):Int:=(L.countP λj=>kG j k:Nat)
def qO(e:mz a=mz b)(ma:a∈L):decide (GP L a<GP L b)=kG a b:=by
 unfold GP
 cases h:kG a b with
 |true =>have:=uW (λj=>kG j a) (λj=>kG j b) a (Ab a) h L ma λx _ hx=>yX hx h;exact decide_eq_true (by lia)
 |false =>
  apply decide_eq_false
  cases g:kG b a with
  |false=>rw[sX e h g];lia
  |true =>have:=count_le (λj=>kG j b) (λj=>kG j a) L λx _ hx=>yX hx g;lia
def unV:V->Option Key
 |.int i=>some (.inl i)
 |.str x=>some (.inr x)
 |_=>none
def Nq(k:Key):unV (kV k)=some k:=by cases k<;>rfl
theorem Dh:∀ k:List Key,(k.map kV).filterMap unV=k
 |[]=>rfl
 |a :: as=>by rw[gL,Sj,Nq,Dh as]
def vP(H:Hp):ag->List Key
 |.ref b=>match H b with
  |some (.tup xs)=>xs.filterMap unV
  |_=>[]
 |_=>[]
def eY(h:H b=some (.tup (k.map kV))):vP H (.ref b)=k:=by simp only[vP,h];exact Dh k
section
variable {prog:cf}{w:cw}{A:ft}{E:ag->aI->Prop}{s:aI}{Q:Bool->aI->Prop}
def J2(ru:RelV (kV a) u)(rv:RelV (kV b) v)(e:oy a=oy b)(q:Q (oa a b) s):aS (aE prog w) A (oneLt' false u v) Q E s:=by
 refine PySem.W.kat_one u v ?_
 cases a with
 |inl i =>
  cases b with
  |inr x=>cases e
  |inl j =>obtain⟨t,rfl⟩:=ru;obtain⟨t',rfl⟩:=rv;exact lt_int q
 |inr x =>
  cases b with
  |inl j=>cases e
  |inr y =>obtain⟨t,rfl⟩:=ru;obtain⟨t',rfl⟩:=rv;exact PySem.P.lt_str q
def IV(ru:RelV (kV a) u)(rv:RelV (kV b) v)(e:oy a=oy b)(q:Q (decide (a=b)) s):aS (aE prog w) A (eqBool u v) Q E s:=by
 cases a with
 |inl i =>
  cases b with
  |inr x=>cases e
  |inl j =>obtain⟨t,rfl⟩:=ru;obtain⟨t',rfl⟩:=rv;refine wpAny_eqBool_int ?_;rw[<- bP'];exact q
 |inr x =>
  cases b with
  |inl j=>cases e
  |inr y =>obtain⟨t,rfl⟩:=ru;obtain⟨t',rfl⟩:=rv;refine wpAny_eqBool_str ?_;rw[<- bQ'];exact q
def Cg(k m:List Key)(us vs:List ag)(i:Nat)(ha:Vals (k.map kV) us)(hb:Vals (m.map kV) vs)(e:mz k=mz m)(hf:fin=false)(q:Q (kG k m) s) :
  PySem.W.KatLex prog w A true fin Q (us.zip vs) i s:=by
 induction k generalizing m us vs i with
 |nil =>
  cases m with
  |cons b m=>simp[mz] at e
  |nil =>rw[Paired.n0 ha,Paired.n0 hb];subst hf;exact PySem.W.kat_nil q
 |cons a k ih =>
  cases m with
  |nil=>simp[mz] at e
  |cons b m =>
   obtain⟨u,us,rfl,ra,rk⟩:=Paired.c ha;obtain⟨v,vs,rfl,rb,rm⟩:=Paired.c hb;simp only[mz,gL,List.cons.injEq] at e;refine PySem.W.kat_cons (IV ra rb e.1 (PySem.W.kat_go (λh=>PySem.W.kat_yes ?_) (λh=>PySem.W.kat_no ?_)))
   ·have h:=of_decide_eq_true h;subst h;unfold kG at q;rw[if_pos rfl] at q;exact ih m _ _ (i+1) rk rm e.2 q
   ·have h:=of_decide_eq_false h;unfold kG at q;rw[if_neg h] at q;by_cases h0:i=0
    ·subst h0
     cases a with
     |inr x =>
      cases b with
      |inl j=>cases e.1
      |inr y =>obtain⟨t,rfl⟩:=ra;obtain⟨t',rfl⟩:=rb;exact oneLt_str q
     |inl i =>
      cases b with
      |inr x=>cases e.1
      |inl j =>obtain⟨t,rfl⟩:=ra;obtain⟨t',rfl⟩:=rb;exact oneLt_int q
    ·rw[show(true && i == 0)=false by simp[h0]];exact J2 ra rb e.1 q
end
section
variable {X:Cx}{pins:List (ai × Obj)}{σ:St}{H:Hp}{s:aI}
def Inv.tup(I:Inv X pins σ H s)(h:H b=some (.tup xs)):∃ its:List ag,Vals xs its/\IsTup s.heap b its.toArray:=(I.bP b _ h).2
def B_(I:Inv X pins σ H s)(kp:∀ b o,s.heap.get? b=some o->s'.heap.get? b=some o) :
  FX.pV X.prog X.w A s' (tuples' true) (λv=>GP L (vP H v)) (λv=>∃ b k,v=.ref b/\H b=some (.tup (k.map kV))/\mz k=b0 :: sh/\k∈L):=by
 rintro x y ⟨b,k,rfl,hb,hk,mk⟩ ⟨c,m,rfl,hc,hm,mm⟩ Q E q;obtain⟨us,ru,o,e1,c1,n1,d1⟩:=I.tup hb;obtain⟨vs,rv,o',e2,c2,n2,d2⟩:=I.tup hc;have sh':mz k=mz m:=hk.trans hm.symm;simp only[eY hb,eY hc] at q;rw[qO sh' mk] at q;refine PySem.W.kat_lt (kp _ _ e1) d1 (kp _ _ e2) d2 (Cg k m us vs 0 ru rv sh' ?_ q)
 ·have h1:=ru.length;have h2:=rv.length;have h3:k.length=m.length:=by have:=congrArg List.length sh';simpa[mz] using this
  simp only[b4] at h1 h2;exact decide_eq_false (by simp only[kA];lia)
def kat_tups(I:Inv X pins σ H s){s':aI}(kp:∀ b o,s.heap.get? b=some o->s'.heap.get? b=some o){b0:Bool}{sh:List Bool}{ys:List V}{ks:List (List Key)}{vs:List ag}(ht:cR H ys ks)(hv:Vals ys vs)(hs:∀ k∈ks,mz k=b0 :: sh) :
  ∃ fs:List ag,PySem.W.KatTups s'.heap vs fs/\fs.length=vs.length/\∀ f∈fs,(b0=true->∃ i t,f=Value.int i t)/\(b0=false->∃ x t,f=Value.str x t):=by
 induction ys generalizing ks vs with
 |nil =>rw[Paired.n0 hv];exact⟨[],.nil,rfl,by simp⟩
 |cons y ys ih =>
  obtain⟨k,ks,rfl,⟨b,rfl,hb⟩,t⟩:=Paired.c ht;obtain⟨v,vs,rfl,rfl,rs⟩:=Paired.c hv;obtain⟨fs,f1,f2,f3⟩:=ih t rs λj hj=>hs j (eI _ hj);have hk:=hs k eh;obtain⟨us,ru,o,e1,c1,n1,d1⟩:=I.tup hb
  cases k with
  |nil=>simp[mz] at hk
  |cons a k =>
   obtain⟨u,us,rfl,ra,rr⟩:=Paired.c ru;simp only[mz,gL,List.cons.injEq] at hk;refine⟨u :: fs,.cons (kp _ _ e1) c1 d1 rfl f1,by simp[f2],λf hf=>?_⟩;rcases eu.mp hf with rfl|hf
   ·cases a with
    |inr x =>obtain⟨tk,rfl⟩:=ra;exact⟨(λz=>by rw[<- hk.1] at z;cases z),λ_=>⟨_,_,rfl⟩⟩
    |inl i =>obtain⟨tk,rfl⟩:=ra;exact⟨λ_=>⟨_,_,rfl⟩,λz=>by rw[<- hk.1] at z;cases z⟩
   ·exact f3 f hf
end
def vz(K:aC):List V->Hp->VK->Prop:=λxs H Q=>match xs with
 |[.ref p]=>∃ ys ks sh,fe K H p ys/\cR H ys ks/\(∀ k∈ks,mz k=true :: sh) /\
   ∀ zs ms l,cR H zs ms->ms.Perm ks->(ms.Pairwise λa b=>kG b a=false)->H l=none->Q (.ref l) (upd H l (.lst zs))
 |_=>False
def cR.keys(h:cR H ys ks)(hv:Vals ys vs):vs.map (vP H)=ks/\∀ v∈vs,∃ b k,v=.ref b/\H b=some (.tup (k.map kV))/\k∈ks:=by
 induction ys generalizing ks vs with
 |nil=>rw[Paired.n0 hv,show ks=[] from Paired.n0 h];exact⟨rfl,by simp⟩
 |cons y ys ih =>
  obtain⟨k,ks,rfl,⟨b,rfl,g⟩,t⟩:=Paired.c h;obtain⟨v,vs,rfl,rfl,rs⟩:=Paired.c hv;obtain⟨e,m⟩:=ih t rs;refine⟨by rw[gL,eY g,e],λv hv=>?_⟩;rcases eu.mp hv with rfl|hv
  ·exact⟨b,k,rfl,g,eh⟩
  ·obtain⟨b',k',e1,e2,e3⟩:=m v hv;exact⟨b',k',e1,e2,eI _ e3⟩
def cR.of{H:Hp}{ks:List (List Key)}(vs:List ag)(h:∀ v∈vs,∃ b k,v=Value.ref b/\H b=some (.tup (k.map kV))/\k∈ks):∃ zs,cR H zs (vs.map (vP H))/\Vals zs vs:=by
 induction vs with
 |nil=>exact⟨[],.nil,.nil⟩
 |cons v vs ih =>obtain⟨zs,a,c⟩:=ih λu hu=>h u (eI _ hu);obtain⟨b,k,rfl,e,_⟩:=h v eh;exact⟨.ref b :: zs,.cons ⟨b,rfl,by rw[eY e];exact e⟩ a,.cons rfl c⟩
section
variable {X:Cx}
def vL:kM X (.builtin "sorted") (vz X.K):=by
 intro pins s σ H xs us Q I r h;unfold vz at h;split at h
 ·rename_i p;obtain⟨ys,ks,sh,hl,ht,hs,q⟩:=h;obtain⟨u,rfl,ru⟩:=Vals.one r;cases ru;obtain⟨vs,rv,pl,hz⟩:=I.list hl;obtain⟨ek,mem⟩:=ht.keys rv;have hlen:=rv.length;refine FX.yc (κ:=tuples' true) (P:=λv=>∃ b k,v=.ref b/\H b=some (.tup (k.map kV))/\mz k=true :: sh/\k∈ks) pl.isList (by lia) (λv hv=>?_) (λh2 A' E' s' kp Q' q'=>?_) (λh2 s' kp=>B_ I kp) λh' out n pm pw kp eo=>?_
  ·obtain⟨b,k,e1,e2,e3⟩:=mem v hv;exact⟨b,k,e1,e2,hs k e3,e3⟩
  ·obtain⟨fs,f1,f2,f3⟩:=kat_tups I kp ht rv hs;refine PySem.W.kat_kind (T:=.type "int") f1 (by lia) (λf hf=>?_) (by decide) q';obtain⟨i,t,rfl⟩:=(f3 f hf).1 rfl;exact .now
  ·obtain⟨zs,z1,z2⟩:=cR.of out λv hv=>mem v (pm.mem_iff.mp hv);have zl:=z2.length;have ol:=pm.length_eq;have pms:(out.map (vP H)).Perm ks:=by rw[<- ek];exact pm.map _
   refine⟨.ref (s.heap.objs.size+1),_,I.laid kp (II _) (show kz X.prog X.w _ h' _ (.lst zs) from⟨by lia,out,n,z2,eo⟩),rfl,
    q zs _ _ z1 pms ?_ (I.bP.fresh (II _))⟩
   rw[vv];refine pw.imp_of_mem λ{x y} mx my hle=>?_;obtain⟨b,k,rfl,hb,kk⟩:=mem x (pm.mem_iff.mp mx);obtain⟨c,m,rfl,hc,km⟩:=mem y (pm.mem_iff.mp my);rw[eY hb,eY hc] at *
   have:=qO ((hs m km).trans (hs k kk).symm) km;rw[<- this];exact decide_eq_false (by lia)
 ·exact h.elim
end
end L2
end
namespace FX
open PySem PyProof.Rows
section
variable {prog:cf}{w:cw}{A:ft}{E:ag->aI->Prop}{s:aI}{κ:y8}{r:ag->Int}{P:ag->Prop}
def pU{T:String}{r d:ai}{n:Nat}{P:Nat->ag->Prop}{OK:df->Prop}{R:Result->aI->Prop}(K:PySem.W.KdlSrc prog w T r d n P OK)(hh:A.handled=none)(bP:OK s.heap)(hn:n<=bG)(hR:∀ h' tk acc c,(∀ b o,s.heap.get? b=some o->h'.get? b=some o)->h'.get? s.heap.objs.size=some { cls:=.type "list",data:=.seq acc c }->ItemsOf P acc n->R (.ok (.ret (.ref s.heap.objs.size))) { s with heap:=h',toks:=tk }) :
  xA (aE prog w) A (.builtin "proto.collect" ⟨[.ref r],[]⟩) R s:=by
 have hth:=K.there _ bP;have hS:(s.heap.push { cls:=.type "list",data:=.seq ([]:List ag).toArray }).get? s.heap.objs.size=some { cls:=.type "list",data:=.seq ([]:List ag).toArray }:=ip _ rfl;refine B3 F.entry_proto_collect ?_;refine av (tm ?_);refine aT ⟨DZ F.plain_list_iadd _,B3 F.entry_list_iadd ?_⟩;exact PySem.W.kdl_extend K hh (K.keep _ _ bP λb _ o e=>eL _ e) s.heap.objs.size (MD hth.1) (MD hth.2) _ 0 hS (λh' tk CY c' kp eo ia=>hR h' tk CY c' (λb o e=>kp b o (fz (e8 e)) (eL _ e)) eo ia) hn
def rP{T:String}{r d:ai}{n:Nat}{P:Nat->ag->Prop}{OK:df->Prop}{Q:List ag->aI->Prop}(K:PySem.W.KdlSrc prog w T r d n P OK)(hh:A.handled=none)(bP:OK s.heap)(hn:n<=bG)(hQ:∀ h' tk acc,(∀ b o,s.heap.get? b=some o->h'.get? b=some o)->s.heap.objs.size<=h'.objs.size->ItemsOf P acc n->Q acc.toList { s with heap:=h',toks:=tk }):aS (aE prog w) A (collect (.ref r)) Q E s:=by
 exact av (wpAny_runValue (pU K hh bP hn λh' tk acc c kp eo ia=>av (wpAny_load eo (aT (hQ h' tk acc kp (MA (e8 eo)) ia)))))
def mj{D:Drawn->Prop}{R:List ag->Prop}(kX':∀ (A':ft) (E':ag->aI->Prop) (Q':List ag->aI->Prop),A'.handled=A.handled->(∀ vs h1 tk d,D d->R vs->(∀ b o,s.heap.get? b=some o->h1.get? b=some o)->s.heap.objs.size<=h1.objs.size->Q' vs { s with heap:=h1,toks:=tk,drawn:=d })->aS (aE prog w) A' (collect v) Q' E' s) (fN:∀ vs,R vs->vs.length<=bG) (hP:∀ vs,R vs->∀ v∈vs,P v) (hk:∀ vs,R vs->2<=vs.length->∀ (A':ft) (E':ag->aI->Prop) (s':aI),(∀ b o,s.heap.get? b=some o->s'.heap.get? b=some o)->∀ (Q:y8->aI->Prop),Q κ s'->aS (aE prog w) A' (keyKind' vs.toArray) Q E' s') (C:∀ (s':aI),(∀ b o,s.heap.get? b=some o->s'.heap.get? b=some o)->pV prog w A.in1.in1 s' κ r P) (h:∀ (vs:List ag) (h':df) (a:ai) (out:List ag) (n tk:Nat) d,D d->R vs->out.Perm vs->(out.Pairwise λx y=>r x<=r y)->(∀ b o,s.heap.get? b=some o->h'.get? b=some o)->s.heap.objs.size<=a->h'.get? a=some (seqObj "list" out.toArray n)->Q (.ref a) { s with heap:=h',toks:=tk,drawn:=d }) :
  aS (aE prog w) A (call (.builtin "sorted") [v]) Q E s:=by
 refine Calls.call_function_entry kind_sorted plain_sorted entry_sorted (args_sorted1 _) ?_;refine av (aT ?_);refine av (kX' _ _ _ rfl λvs h1 tk d hd hR kp hz=>?_);have ef':=fN vs hR;refine av (wpAny_newList ?_ (by simpa using ef'));have IX:(h1.push (seqObj "list" vs.toArray 0)).get? h1.objs.size=some (seqObj "list" vs.toArray 0):=ip _ rfl;have old:∀ b o,s.heap.get? b=some o->(dD (h1.push (seqObj "list" vs.toArray 0)) h1.objs.size vs).get? b=some o:=λb o e=>by have eK:b<h1.objs.size:=e8 (kp b o e);rw[kI (fz eK) (by rw[IJ];exact AZ eK)];exact eL _ (kp b o e)
 refine av (vn (E4 slot_list_sort ⟨_,IX,rfl⟩ entry_list_sort (iH IX ef' (hP vs hR) (λh2=>hk vs hR h2 _ _ _ old) (λh2=>C _ old) λout a1 a2=>⟨_,rfl,?_⟩) (args_list_sort _)))
 obtain⟨n,e⟩:=sortedHeap_at IX;refine aT ⟨_,rfl,h vs _ h1.objs.size out.toList n tk d hd hR a1 a2 (λb o e=>?_) hz (by rw[Zo];exact e)⟩;have eK:b<h1.objs.size:=e8 (kp b o e);rw[sortedHeap_old (fz eK) (by rw[IJ];exact AZ eK)];exact eL _ (kp b o e)
end
end FX
section
open PySem PySem.Spec PyProof.Rows
namespace L2
def iW:ag->List Key
 |.int i _=>[.inl i]
 |.str x _=>[.inr x]
 |_=>[]
def jR(h:RelV (kV k) v):iW v=[k]:=by
 cases k with
 |inl i=>obtain⟨t,rfl⟩:=h;rfl
 |inr x=>obtain⟨t,rfl⟩:=h;rfl
def sY:kG [a] [b]=oa a b:=by
 unfold kG;by_cases e:a=b
 ·subst e;rw[if_pos rfl,xZ];rfl
 ·rw[if_neg e]
def uA{prog:cf}{w:cw}{A:ft}{s:aI}{b:Bool}{L:List Key} :
  FX.pV prog w A s oneType' (λv=>GP (L.map λk=>[k]) (iW v)) (λv=>∃ k,RelV (kV k) v/\oy k=b/\k∈L):=by
 rintro x y ⟨k,rk,ik,mk⟩ ⟨m,rm,im,mm⟩ Q E q;simp only[jR rk,jR rm] at q;rw[qO (by simp[mz,ik,im]) (c9.mpr ⟨k,mk,rfl⟩),sY] at q
 cases k with
 |inl i =>
  cases m with
  |inr y=>rw[<- im] at ik;cases ik
  |inl j =>obtain⟨t,rfl⟩:=rk;obtain⟨u,rfl⟩:=rm;exact oneLt_int q
 |inr x =>
  cases m with
  |inl y=>rw[<- im] at ik;cases ik
  |inr j =>obtain⟨t,rfl⟩:=rk;obtain⟨u,rfl⟩:=rm;exact oneLt_str q
def ints_of{ks:List Key}{vs:List ag}(r:Vals (ks.map kV) vs)(h:∀ k∈ks,oy k=true):∃ ns,IntsAre vs ns:=by
 induction ks generalizing vs with
 |nil=>rw[Paired.n0 r];exact⟨[],.nil⟩
 |cons k ks ih =>
  obtain⟨v,vs,rfl,r,rs⟩:=Paired.c r;obtain⟨ns,q⟩:=ih rs λj hj=>h j (eI _ hj);have:=h k eh
  cases k with
  |inr x=>cases this
  |inl i=>obtain⟨t,rfl⟩:=r;exact⟨_,.cons i t q⟩
def Gk{ks:List Key}{vs:List ag}(r:Vals (ks.map kV) vs)(h:∀ k∈ks,oy k=false):∃ ns,StrsAre vs ns:=by
 induction ks generalizing vs with
 |nil=>rw[Paired.n0 r];exact⟨[],.nil⟩
 |cons k ks ih =>
  obtain⟨v,vs,rfl,r,rs⟩:=Paired.c r;obtain⟨ns,q⟩:=ih rs λj hj=>h j (eI _ hj);have:=h k eh
  cases k with
  |inl x=>cases this
  |inr i=>obtain⟨t,rfl⟩:=r;exact⟨_,.cons i t q⟩
def pF{prog:cf}{w:cw}{A:ft}{E:ag->aI->Prop}{s:aI}{b:Bool}{ks:List Key}{vs:List ag}(r:Vals (ks.map kV) vs)(h:∀ k∈ks,oy k=b)(h2:2<=vs.length){Q:y8->aI->Prop}(q:Q oneType' s) :
  aS (aE prog w) A (keyKind' vs.toArray) Q E s:=by
 match vs,h2 with
 |v1 :: v2 :: vs,_ =>
  cases b with
  |true=>obtain⟨ns,hI⟩:=ints_of r h;rw[keyKind_ints hI];exact aT q
  |false=>obtain⟨ns,hI⟩:=Gk r h;rw[keyKind_strs hI];exact aT q
def mem_keys{ks:List Key}{vs:List ag}(r:Vals (ks.map kV) vs)(v:ag)(h:v∈vs):∃ k,RelV (kV k) v/\k∈ks:=by
 induction ks generalizing vs with
 |nil=>rw[Paired.n0 r] at h;cases h
 |cons k ks ih =>
  obtain⟨u,vs,rfl,r,rs⟩:=Paired.c r;rcases eu.mp h with rfl|h
  ·exact⟨k,r,eh⟩
  ·obtain⟨j,a,b⟩:=ih rs h;exact⟨j,a,eI _ b⟩
def keys_map{ks:List Key}{vs:List ag}(r:Vals (ks.map kV) vs):vs.map iW=ks.map λk=>[k]:=by
 induction ks generalizing vs with
 |nil=>rw[Paired.n0 r];rfl
 |cons k ks ih =>obtain⟨u,vs,rfl,r,rs⟩:=Paired.c r;rw[gL,gL,jR r,ih rs]
def jQ{ks:List Key}(vs:List ag)(h:∀ v∈vs,∃ k,RelV (kV k) v/\k∈ks):∃ ms:List Key,Vals (ms.map kV) vs:=by
 induction vs with
 |nil=>exact⟨[],.nil⟩
 |cons v vs ih =>obtain⟨ms,r⟩:=ih λu hu=>h u (eI _ hu);obtain⟨k,rk,_⟩:=h v eh;exact⟨k :: ms,.cons rk r⟩
def qQ:∀ {ms ks:List Key},(ms.map λk=>[k]).Perm (ks.map λk=>[k])->ms.Perm ks:=λ{ms ks} h=>by have:=h.map (λl:List Key=>l.head?);simp only[fE] at this;have e:∀ l:List Key,l.map ((λl:List Key=>l.head?) ∘ λk=>[k])=l.map some:=λl=>D2 λ_ _=>rfl;rw[e,e] at this;have:=this.filterMap id;simpa using this
section
variable {X:Cx}
def uf(K:aC):List V->Hp->VK->Prop:=λxs H Q=>match xs with
 |[.ref p]=>∃ ks b,(fe K H p (ks.map kV)\/∃ kvs,Rd H p (.dK kvs)/\ks=kvs.map (·.1))/\(∀ k∈ks,oy k=b) /\
   ∀ (ms:List Key) (l:ai),ms.Perm ks->(ms.Pairwise λa b=>oa b a=false)->H l=none->Q (.ref l) (upd H l (.lst (ms.map kV)))
 |_=>False
def wH (hc:X.calm=true):kM X (.builtin "sorted") (uf X.K):=by
 intro pins s σ H xs us Q I r h;unfold uf at h;split at h
 ·rename_i p;obtain⟨ks,b,hl,hb,q⟩:=h;obtain⟨u,rfl,ru⟩:=Vals.one r;cases ru;have fN:ks.length<=bG:=by
   rcases hl with hl|⟨kvs,e,rfl⟩
   ·obtain⟨vs,rv,pl,hz⟩:=I.list hl;simpa using hz
   ·obtain⟨z,_⟩:=(I.rd e)
    simpa using z
  refine FX.mj (D:=(· = s.drawn)) (κ:=oneType') (P:=λv=>∃ k,RelV (kV k) v/\oy k=b/\k∈ks) (λA' E' Q' hA hQ=>?_) (λvs rv=>?_) (λvs rv v hv=>?_) (λvs rv h2 A' E' s' kp Q' q'=>pF rv hb h2 q') (λs' kp=>uA) λvs h' a out n tk d hd rv pm pw kp ha eo=>?_
  ·rcases hl with hl|⟨kvs,e,rfl⟩
   ·obtain⟨vs,rv,pl,hz⟩:=I.list hl;refine collect_list pl.isList (hQ vs _ s.toks _ rfl rv (λb o e=>?_) ?_) (by have:=rv.length;lia)
    ·rw[Zg _ _ _ _ (fz (e8 e))];exact eL _ e
    ·rw[Mb,IJ];exact II _
   ·obtain⟨z,y,vs,rel,dd⟩:=(I.rd e)
    obtain⟨ep,da⟩:=dd.dictAt;have hlen:vs.length=kvs.length:=rel.length.symm;refine FX.rP (PySem.W.kdl_dict y) (hA.trans (I.ok.hd hc)) da (by lia) λh' tk acc kp hz KS=>hQ _ h' tk _ rfl ?_ kp hz;have go:∀ {l1:List (Key × V)} {l2:List (Key × ag)} ac,KV l1 l2->ac.length=l2.length->(∀ (i:Nat) v,ac[i]? = some v->∃ k x,l2[i]? = some (k,x)/\IQ k v=true)->Vals ((l1.map (·.1)).map kV) ac:=by
     intro l1 l2 ac rl
     induction rl generalizing ac with
     |nil=>intro hl _;cases ac with
      |nil=>exact .nil
      |cons _ _=>cases hl
     |@cons p1 q1 l1 l2 r1 rs ih =>
      intro hl hi
      cases ac with
      |nil=>cases hl
      |cons v ac =>obtain⟨k,x,e1,e2⟩:=hi 0 v rfl;simp only[W7,Option.some.injEq] at e1;subst e1;refine .cons ?_ (ih ac (by simpa using hl) λi v h=>hi (i+1) v (by simpa using h));have r11:p1.1=k:=r1.1;show RelV (kV p1.1) v;rw[r11];rcases Ap e2 with⟨i,t,rfl,rfl⟩|⟨x,t,rfl,rfl⟩<;>exact⟨t,rfl⟩
    exact go acc.toList rel (by rw[y9];exact KS.1) λi v h=>KS.2 i v (by simpa using h)
  ·have:=rv.length;rw[b4] at this;lia
  ·obtain⟨k,rk,mk⟩:=mem_keys rv v hv;exact⟨k,rk,hb k mk,mk⟩
  ·subst hd;obtain⟨ms,rm⟩:=jQ out λv hv=>mem_keys rv v (pm.mem_iff.mp hv);have pk:ms.Perm ks:=qQ (by rw[<- keys_map rm,<- keys_map rv];exact pm.map _);refine⟨.ref a,_,I.laid kp ha (show kz X.prog X.w _ h' _ (.lst (ms.map kV)) from⟨by rw[b4,pk.length_eq];exact fN,out,n,rm,eo⟩),rfl,q ms _ pk ?_ (I.bP.fresh ha)⟩;have TL:(out.map iW).Pairwise λx y=>GP (ks.map λk=>[k]) x<=GP (ks.map λk=>[k]) y:=vv.mpr pw;rw[keys_map rm,vv] at TL;refine TL.imp_of_mem λ{x y} mx my hle=>?_;have mx:=pk.mem_iff.mp mx;have my:=pk.mem_iff.mp my;rw[<- sY,<- qO (L:=ks.map λk=>[k]) (by simp[mz,hb x mx,hb y my]) (c9.mpr ⟨y,my,rfl⟩)];exact decide_eq_false (by lia)
 ·exact h.elim
end
def jj:HO->Prop
 |.dK _=>True
 |.dT _=>True
 |_=>False
section
variable {X:Cx}{pins:List (ai × Obj)}{σ:St}{H:Hp}{s:aI}
def Inv.qj{p:ai}{u v:HO}(I:Inv X pins σ H s)(e:H p=some u)(nt:∀ xs,u≠.tup xs)(no:∀ y,u≠.own y)(nf:∀ o w,X.pS p≠some (.fR o w))(nb:∀ ps,X.pS p≠some (.zh ps))(new:kz X.prog X.w (upd H p v) s.heap p v):Inv X pins σ (upd H p v) s:=by
 have ne:∀ {b},H b=none->b≠p:=λh z=>by subst z;rw[e] at h;cases h
 have ht:∀ b xs,H b=some (.tup xs)->upd H p v b=some (.tup xs):=λb xs q=>by rw[b6 λz=>by subst z;rw[e] at q;cases q;exact nt _ rfl];exact q
 refine⟨I.ok,I.os,I.bare,⟨I.base.keep,I.base.slot,λb o q n hx=>?_,I.base.there,λb xs q=>ht b xs (I.base.kB b xs q),λb o w q=>?_,λb ps q=>?_⟩,I.loc,I.cell,?_,λx c q=>?_,λq hq=>?_,λb o q=>?_,I.len⟩
 ·have:=I.base.free b o q n hx;rw[b6 (ne this)];exact this
 ·rw[b6 λz=>by subst z;exact nf _ _ q];exact I.base.Ct b o w q
 ·rw[b6 λz=>by subst z;exact nb _ q];exact I.base.D9 b ps q
 ·rw[b6 (ne I.free)];exact I.free
 ·rw[b6 (ne (I.AA x c q))];exact I.AA x c q
 ·obtain⟨a,b,c⟩:=I.pin q hq;exact⟨a,by rw[b6 (ne b)];exact b,c⟩
 ·by_cases z:b=p
  ·subst z;rw[d5] at q;cases q;exact new
  ·rw[b6 z] at q;refine(I.bP b o q).hX (λ_ _ _ h=>h) (λc h=>?_) ht;rw[b6 λz=>by subst z;rw[e] at h;cases h;exact no _ rfl];exact h
def Inv.J8{p:ai}{u:HO}(I:Inv X pins σ H s)(e:H p=some u)(hu:jj u):(∀ o w,X.pS p≠some (.fR o w))/\∀ ps,X.pS p≠some (.zh ps) :=
 ⟨λo w z=>by have:=I.base.Ct p o w z;rw[e] at this;cases this;exact hu,λps z=>by obtain⟨m,this⟩:=I.base.D9 p ps z;rw[e] at this;cases this;exact hu⟩
def Inv.freeze{p:ai}{u:HO}{o:Obj}(I:Inv X pins σ H s)(e:H p=some u)(hu:jj u)(ho:s.heap.get? p=some o):Inv X pins σ (upd H p (.fR o u)) s:=by
 obtain⟨nf,nb⟩:=I.J8 e hu;refine I.qj e (λxs z=>by subst z;exact hu) (λy z=>by subst z;exact hu) nf nb ⟨ho,(I.bP p u e).hX (λ_ _ _ h=>h) (λc h=>?_) λc xs h=>?_⟩
 ·rw[b6 λz=>by subst z;rw[e] at h;cases h;exact hu];exact h
 ·rw[b6 λz=>by subst z;rw[e] at h;cases h;exact hu];exact h
def Inv.VM{p:ai}{u:HO}{o:Obj}(I:Inv X pins σ H s)(e:H p=some (.fR o u))(nf:∀ o w,X.pS p≠some (.fR o w))(nb:∀ ps,X.pS p≠some (.zh ps)):Inv X pins σ (upd H p u) s:=by
 have ob:kz X.prog X.w H s.heap p (.fR o u):=I.bP p _ e;refine I.qj e (λxs z=>nomatch z) (λy z=>nomatch z) nf nb (ob.2.hX (λ_ _ _ h=>h) (λc h=>?_) λc xs h=>?_)
 ·rw[b6 λz=>by subst z;rw[e] at h;cases h];exact h
 ·rw[b6 λz=>by subst z;rw[e] at h;cases h];exact h
def GU(X:Cx)(N:St->Hp->Prop):St->Hp->Prop:=λσ H=>N σ H\/∃ p u o,H p=some (.fR o u)/\(∀ o w,X.pS p≠some (.fR o w))/\(∀ ps,X.pS p≠some (.zh ps))/\N σ (upd H p u)
def aD'(X:Cx)(N:V->Hp->Prop):V->Hp->Prop:=λv H=>N v H\/∃ p u o,H p=some (.fR o u)/\(∀ o w,X.pS p≠some (.fR o w))/\(∀ ps,X.pS p≠some (.zh ps))/\N v (upd H p u)
def Fq{st:h8}{t:TS}(h:PS X st t):PS X st (λD σ H=>t { D with nx:=GU X D.nx,bk:=GU X D.bk,ct:=GU X D.ct,rt:=aD' X D.rt } σ H):=by
 intro pins s σ H D I q;refine cp (h pins s σ H _ I q) λf s1 z=>?_
 cases f with
 |next =>
  obtain⟨sF,H1,I1,n|⟨p,u,o,e,nf,nb,n⟩⟩:=z
  ·exact⟨sF,H1,I1,n⟩
  ·exact⟨sF,_,I1.VM e nf nb,n⟩
 |cont =>
  obtain⟨sF,H1,I1,n|⟨p,u,o,e,nf,nb,n⟩⟩:=z
  ·exact⟨sF,H1,I1,n⟩
  ·exact⟨sF,_,I1.VM e nf nb,n⟩
 |brk =>
  obtain⟨sF,H1,I1,n|⟨p,u,o,e,nf,nb,n⟩⟩:=z
  ·exact⟨sF,H1,I1,n⟩
  ·exact⟨sF,_,I1.VM e nf nb,n⟩
 |ret v =>
  obtain⟨x1,sF,H1,I1,r1,n|⟨p,u,o,e,nf,nb,n⟩⟩:=z
  ·exact⟨x1,sF,H1,I1,r1,n⟩
  ·exact⟨x1,sF,_,I1.VM e nf nb,r1,n⟩
end
def Oy(p:ai)(o:Obj)(ks:List V):It :=
 ⟨λi H=>i<ks.length/\∃ u,H p=some (.fR o u),λi H x H'=>H'=H/\ks[i]? = some x,λi H=>i=ks.length/\∃ u,H p=some (.fR o u)⟩
def ye{P:cf}{w:cw}{K:aC}{tg:Expr}(p it:ai){o:Obj}{es:Tz}{ep:Nat}{ks:List V}(hx:o.ExactDict)(hd:o.data=.dict es ep)(hl:es.size=ks.length)(hk:∀ (i:Nat) x,ks[i]? = some x->∃ e,es[i]? = some e/\RelV x e.key):Turn P w K tg (Oy p o ks) [it] it (λi h=>h.IsKeyIter it p i es.size ep) where
 mem:=by simp
 obj:=λi h st b hb=>by
  have e:b=it:=by simpa using hb
  subst e;obtain⟨o,e,c,d⟩:=st;exact⟨o,e,λv z=>by rw[d] at z;cases z⟩
 keep:=λi h h' st k=>st.at λo e=>k it (by simp) o e
 item:=by
  intro X hP hw hK hc i pins s σ H E I hf st hg;subst hP hw hK;obtain⟨hi,u,hfz⟩:=hg;have ob:kz X.prog X.w H s.heap p (.fR o u):=I.bP p _ hfz;obtain⟨e,he,rk⟩:=hk i ks[i] (tI hi);obtain⟨f0,f1,f2,f3,f4,f5⟩:=hf it (by simp);have kX:i<es.size:=by lia
  have he':es[i]=e:=by rw[D8 kX] at he;exact Option.some.inj he
  refine uM st ⟨o,ob.1,hx,hd⟩ kX λh' aw sb=>?_;have I1:Inv X pins σ H { s with heap:=h' }:=I.turned (t':=s.toks) (λb o hb e=>(sb.2 b hb).trans e) f0 f1 f3 f4 f5;obtain⟨o2,e2,c2,d2⟩:=id aw;exact⟨_,rfl,QY (s:={ s with heap:=h' }) e2 c2 d2 (by decide) ⟨ks[i],H,I1,by rw[he'];exact rk,⟨rfl,tI hi⟩,aw,λb hb=>(hf b hb).1⟩⟩
 done:=by
  intro X hP hw hK hc i pins s σ H E I hf st hg;subst hP hw hK;obtain⟨hi,u,hfz⟩:=hg;have ob:kz X.prog X.w H s.heap p (.fR o u):=I.bP p _ hfz;obtain⟨f0,f1,f2,f3,f4,f5⟩:=hf it (by simp);have kX:i=es.size:=by lia
  subst kX;exact uQ (I.ok.hd hc) st ⟨o,ob.1,hx,hd⟩ λh' eb=>⟨rfl,I.turned (t':=s.toks) (λb o hb e=>eb b o hb e) f0 f1 f3 f4 f5⟩
 self:=λ_ _ _ _ _ st h=>wpAny_pyIter_keyiter st h
def wz{prog:cf}{w:cw}:∀ {el} {vs},Pairs (iq prog w) el vs->∀ {kvs},KV kvs vs->el.length=kvs.length/\∀ (i:Nat) x,(kvs.map λkv=>kV kv.1)[i]? = some x->∃ e,el[i]? = some e/\RelV x e.key:=by
 intro el vs h
 induction h with
 |nil =>intro kvs r;cases r;exact⟨rfl,λi x hx=>by simp at hx⟩
 |@cons e kv es vs hk hv _ ih =>
  intro kvs r
  cases r with
  |@cons p q l1 l2 r1 rs =>
   obtain⟨a,b⟩:=ih rs;refine⟨by rw[k8,k8,a],λi x hx=>?_⟩
   cases i with
   |zero =>simp only[gL,W7,Option.some.injEq] at hx;subst hx;refine⟨e,rfl,?_⟩;rw[r1.1];rcases Ap hk with⟨i,t,e1,e2⟩|⟨x,t,e1,e2⟩<;>rw[e1,e2]<;>exact⟨t,rfl⟩
   |succ i=>exact b i x (by simpa using hx)
def ni(H:Hp)(u:HO)(ks:List V):Prop:=match u with
 |.dK kvs=>ks=kvs.map λkv=>kV kv.1
 |.dT kvs=>cR H ks (kvs.map (·.1))
 |_=>False
def M9(X:Cx)(tl:TE):TI:=λσ H R=>tl σ H λx H1=>∃ p u,x=.ref p/\jj u /\ ((H1 p=some u/\∀ o ks,(∀ o' w,X.pS p≠some (.fR o' w))->(∀ ps,X.pS p≠some (.zh ps))->ni H1 u ks->R (Oy p o ks) (upd H1 p (.fR o u)))\/∃ o,H1 p=some (.fR o u)/\∀ ks,ni H1 u ks->R (Oy p o ks) H1)
def t7{P:cf}{w:cw}{H:Hp}{h:df}{p:ai}{u:HO}(hu:jj u)(ob:kz P w H h p u):∃ o es ep ks,h.get? p=some o/\o.ExactDict/\o.data=.dict es ep/\(p == mE)=false/\es.size=ks.length/\(∀ (i:Nat) x,ks[i]? = some x->∃ e,es[i]? = some e/\RelV x e.key)/\ni H u ks:=by
 cases u with
 |dK kvs =>
  obtain⟨z,y,vs,rel,o,es,ep,h1,h2,h3,h4,h5,h6⟩:=ob;obtain⟨a,b⟩:=wz h5 rel;refine⟨o,es,ep,_,h1,h2,h3,y,?_,λi x hx=>?_,rfl⟩
  ·rw[b4,<- a,y9]
  ·obtain⟨e,he,r⟩:=b i x hx;exact⟨e,by rw[<- vx];exact he,r⟩
 |dT kvs =>
  obtain⟨z,y,ps,rel,o,es,ep,h1,h2,h3,h4,h5⟩:=ob;obtain⟨ta,va⟩:=zK rel;refine⟨o,es,ep,_,h1,h2,h3,y,?_,λi x hx=>?_,ta⟩
  ·have:=congrArg List.length h4;rw[y9,b4] at this;rw[this,b4]
  ·obtain⟨w,hw,nK⟩:=va.get hx;rw[g9,<- h4,vx] at hw;obtain⟨e,he,rfl⟩:=MQ.mp hw;exact⟨e,he,nK⟩
 |_=>exact hu.elim
def Fe{X:Cx}{e tg:Expr}{tl:TE}(he:PE X e tl):PI X tg e (M9 X tl):=by
 intro pins s σ H R I h;refine cp (he pins s σ H _ I h) λv s1 ck=>L2.e9 ck λx H1 I1 r1 q1=>?_;obtain⟨p,u,e,hu,q⟩:=q1;subst e;cases r1;have fin:∀ {H2:Hp} {o} {es} {ep} {ks},s1.heap.get? p=some o->o.ExactDict->o.data=.dict es ep->(p == mE)=false->es.size=ks.length->(∀ (i:Nat) x,ks[i]? = some x->∃ e,es[i]? = some e/\RelV x e.key)->Inv X pins σ H2 s1->R (Oy p o ks) H2 ->
   aS (aE X.prog X.w) X.A (pyIter (.ref p)) (ZF X pins σ tg R) X.xe s1:=by
  intro H2 o es ep ks ho hx hd lo hl hk I2 q;refine uZ lo ⟨o,ho,hx,hd⟩ ?_;refine⟨s1.heap.objs.size,[s1.heap.objs.size],_,_,_,rfl,I2.kept λb o e=>eL _ e,ye p _ hx hd hl hk,⟨_,ip _ rfl,rfl,rfl⟩,λb hb=>?_,q⟩;have e:b=s1.heap.objs.size:=by simpa using hb
  subst e;exact I2.I0 (cK _) (I2.bP.fresh (cK _))
 rcases q with⟨hp,q⟩|⟨o,hp,q⟩
 ·obtain⟨o,es,ep,ks,ho,hx,hd,lo,hl,hk,GA⟩:=t7 hu (I1.bP p u hp);obtain⟨nf,nb⟩:=I1.J8 hp hu;exact fin ho hx hd lo hl hk (I1.freeze hp hu ho) (q o ks nf nb GA)
 ·have ob:kz X.prog X.w H1 s1.heap p (.fR o u):=I1.bP p _ hp;obtain⟨o',es,ep,ks,ho,hx,hd,lo,hl,hk,GA⟩:=t7 hu ob.2;have e:o'=o:=by have:=ob.1;rw[ho] at this;exact Option.some.inj this
  subst e;exact fin ho hx hd lo hl hk I1 (q ks GA)
end L2
namespace L2.Q
set_option genInjectivity true
inductive D where
 |non|bl (b:Bool)|int (i:Int)|str (x:Str)
 |list (xs:List D)|tup (xs:List D)|dK (kvs:List (Key × D))|dT (kvs:List (List Key × D))
mutual
def D.flat:D->Bool
 |.list _=>false
 |.dK _=>false
 |.dT _=>false
 |.tup xs=>dQ xs
 |_=>true
def dQ:List D->Bool
 |[]=>true
 |x :: xs=>x.flat && dQ xs
end
theorem jY:∀ {xs},dQ xs=true↔∀ x∈xs,x.flat=true
 |[]=>by simp[dQ]
 |x :: xs=>by simp[dQ,jY]
def eN:dQ (xs++ys)=(dQ xs && dQ ys):=by
 induction xs with
 |nil=>simp[dQ]
 |cons x xs ih=>simp[dQ,ih,Bool.and_assoc]
def sQ:Key->Bool
 |.inl _=>true
 |.inr x=>decide (x.length<=bG)
def VN(kvs:List (Key × D)):Prop:=kvs.length<=bG/\∀ p∈kvs,sQ p.1=true
def TN(kvs:List (List Key × D)):Prop:=kvs.length<=bG/\∀ p∈kvs,p.1.length<=bG/\∀ k∈p.1,sQ k=true
mutual
inductive Rep(K:aC)(H:Hp):D->V->Prop
 |non:Rep K H .non .non
 |bl (b:Bool):Rep K H (.bl b) (.bl b)
 |int (i:Int):Rep K H (.int i) (.int i)
 |str {x:Str}:x.length<=bG->Rep K H (.str x) (.str x)
 |list {a:ai} {vs:List V} {ds:List D}:vs.length<=bG->fe K H a vs->bS K H ds vs->Rep K H (.list ds) (.ref a)
 |tup {a:ai} {vs:List V} {ds:List D}:vs.length<=bG->H a=some (.tup vs)->bS K H ds vs->Rep K H (.tup ds) (.ref a)
 |dK {a:ai} {vs:List V} {kvs:List (Key × D)}:VN kvs->Rd H a (.dK ((kvs.map (·.1)).zip vs))->bS K H (kvs.map (·.2)) vs->Rep K H (.dK kvs) (.ref a)
 |dT {a:ai} {vs:List V} {kvs:List (List Key × D)}:TN kvs->Rd H a (.dT ((kvs.map (·.1)).zip vs))->bS K H (kvs.map (·.2)) vs->Rep K H (.dT kvs) (.ref a)
inductive bS(K:aC)(H:Hp):List D->List V->Prop
 |nil:bS K H [] []
 |cons {d:D} {v:V} {ds:List D} {vs:List V}:Rep K H d v->bS K H ds vs->bS K H (d :: ds) (v :: vs)
end
def Rep.ind{K:aC}{H:Hp}{m1:D->V->Prop}{m2:List D->List V->Prop}(h0:m1 .non .non)(hb:∀ b,m1 (.bl b) (.bl b))(hi:∀ i,m1 (.int i) (.int i))(hs:∀ x,x.length<=bG->m1 (.str x) (.str x))(hl:∀ a vs ds,vs.length<=bG->fe K H a vs->bS K H ds vs->m2 ds vs->m1 (.list ds) (.ref a)) (ht:∀ a vs ds,vs.length<=bG->H a=some (.tup vs)->bS K H ds vs->m2 ds vs->m1 (.tup ds) (.ref a))(hk:∀ a vs kvs,VN kvs->Rd H a (.dK ((kvs.map (·.1)).zip vs))->bS K H (kvs.map (·.2)) vs->m2 (kvs.map (·.2)) vs->m1 (.dK kvs) (.ref a)) (hT:∀ a vs kvs,TN kvs->Rd H a (.dT ((kvs.map (·.1)).zip vs))->bS K H (kvs.map (·.2)) vs->m2 (kvs.map (·.2)) vs->m1 (.dT kvs) (.ref a))(hn:m2 [] []) (hc:∀ d v ds vs,Rep K H d v->bS K H ds vs->m1 d v->m2 ds vs->m2 (d :: ds) (v :: vs)):(∀ {d v},Rep K H d v->m1 d v)/\∀ {ds vs},bS K H ds vs->m2 ds vs :=
 ⟨λr=>Rep.rec h0 hb hi (λh=>hs _ h) (λz s r ih=>hl _ _ _ z s r ih) (λz s r ih=>ht _ _ _ z s r ih) (λz s r ih=>hk _ _ _ z s r ih) (λz s r ih=>hT _ _ _ z s r ih) hn (λr s a b=>hc _ _ _ _ r s a b) r,
  λr=>bS.rec h0 hb hi (λh=>hs _ h) (λz s r ih=>hl _ _ _ z s r ih) (λz s r ih=>ht _ _ _ z s r ih) (λz s r ih=>hk _ _ _ z s r ih) (λz s r ih=>hT _ _ _ z s r ih) hn (λr s a b=>hc _ _ _ _ r s a b) r⟩
def r9.k'(e:Rd H a (.dK kvs)):r9 H a (kV k) (fS kvs k):=.inl ⟨kvs,k,e,rfl,rfl⟩
def r9.t'(e:Rd H a (.dT kvs))(eb:H b=some (.tup (k.map kV))):r9 H a (.ref b) (fS kvs k):=.inr ⟨kvs,k,b,e,rfl,eb,rfl⟩
def bt.rd(s:bt H H')(h:Rd H a u):Rd H' a u:=h.imp (s _ _) λ⟨o,e⟩=>⟨o,s _ _ e⟩
def Rep.K3{K:aC}(s:bt H H'):(∀ {d} {v},Rep K H d v->Rep K H' d v)/\∀ {ds} {vs},bS K H ds vs->bS K H' ds vs :=
 Rep.ind .non .bl .int (λ_ h=>.str h) (λ_ _ _ z h _ ih=>.list z (s.lst h) ih) (λ_ _ _ z h _ ih=>.tup z (s _ _ h) ih) (λ_ _ _ kk h _ ih=>.dK kk (bt.rd s h) ih) (λ_ _ _ kk h _ ih=>.dT kk (bt.rd s h) ih) .nil λ_ _ _ _ _ _ a b=>.cons a b
def Rep.same{K:aC}(s:bt H H')(r:Rep K H d v):Rep K H' d v:=(Rep.K3 s).1 r
def bS.same{K:aC}(s:bt H H')(r:bS K H ds vs):bS K H' ds vs:=(Rep.K3 s).2 r
def bS.ind{K:aC}{H:Hp}{m:List D->List V->Prop}(hn:m [] [])(hc:∀ d v ds vs,Rep K H d v->bS K H ds vs->m ds vs->m (d :: ds) (v :: vs)):∀ {ds vs},bS K H ds vs->m ds vs :=
 λr=>(Rep.ind (m1:=λ_ _=>True) trivial (λ_=>trivial) (λ_=>trivial) (λ_ _=>trivial) (λ_ _ _ _ _ _ _=>trivial) (λ_ _ _ _ _ _ _=>trivial) (λ_ _ _ _ _ _ _=>trivial) (λ_ _ _ _ _ _ _=>trivial) hn λd v ds vs r s _ b=>hc d v ds vs r s b).2 r
def bS.length{K:aC}(r:bS K H ds vs):ds.length=vs.length :=
 bS.ind (m:=λds vs=>ds.length=vs.length) rfl (λ_ _ _ _ _ _ ih=>by rw[k8,k8,ih]) r
def bS.append{K:aC}(r:bS K H ds vs)(t:bS K H es ws):bS K H (ds++es) (vs++ws) :=
 bS.ind (m:=λds vs=>bS K H (ds++es) (vs++ws)) t (λ_ _ _ _ h _ ih=>.cons h ih) r
def bS.get{K:aC}{H:Hp}{ds:List D}{vs:List V}{i:Nat}{d:D}(r:bS K H ds vs)(e:ds[i]? = some d):∃ v,vs[i]? = some v/\Rep K H d v :=
 bS.ind (m:=λds vs=>∀ i d,ds[i]? = some d->∃ v,vs[i]? = some v/\Rep K H d v) (λi d e=>by simp at e) (λ_ _ _ _ h _ ih i d e=>by
  cases i with
  |zero=>simp at e;subst e;exact⟨_,rfl,h⟩
  |succ i =>
   obtain⟨v,e1,r⟩:=ih i d (by simpa using e);exact⟨v,by simpa using e1,r⟩) r i d e
def bS.aF'{K:aC}{H:Hp}{ds:List D}{vs:List V}{i:Nat}{v:V}(r:bS K H ds vs)(e:vs[i]? = some v):∃ d,ds[i]? = some d/\Rep K H d v :=
 bS.ind (m:=λds vs=>∀ i v,vs[i]? = some v->∃ d,ds[i]? = some d/\Rep K H d v) (λi d e=>by simp at e) (λ_ _ _ _ h _ ih i d e=>by
  cases i with
  |zero=>simp at e;subst e;exact⟨_,rfl,h⟩
  |succ i =>
   obtain⟨v,e1,r⟩:=ih i d (by simpa using e);exact⟨v,by simpa using e1,r⟩) r i v e
def bS.drop{K:aC}(n:Nat)(r:bS K H ds vs):bS K H (ds.drop n) (vs.drop n) :=
 bS.ind (m:=λds vs=>∀ n,bS K H (ds.drop n) (vs.drop n)) (λn=>by rw[List.drop_nil,List.drop_nil];exact .nil) (λ_ _ _ _ h hs ih n=>by
  cases n with
  |zero=>exact .cons h hs
  |succ n=>exact ih n) r n
def bS.n0{K:aC}(h:bS K H [] vs):vs=[]:=by cases h;rfl
def bS.c{K:aC}(h:bS K H (d :: ds) vs):∃ u us,vs=u :: us/\Rep K H d u/\bS K H ds us:=by
 cases h with
 |cons r rs=>exact⟨_,_,rfl,r,rs⟩
def bS.take{K:aC}(n:Nat)(r:bS K H ds vs):bS K H (ds.take n) (vs.take n) :=
 bS.ind (m:=λds vs=>∀ n,bS K H (ds.take n) (vs.take n)) (λn=>by rw[List.take_nil,List.take_nil];exact .nil) (λ_ _ _ _ h hs ih n=>by
  cases n with
  |zero=>exact .nil
  |succ n=>exact .cons h (ih n)) r n
mutual
inductive cc(K:aC)(Hs H:Hp)(fl:Bool):D->V->List ai->Prop
 |sh {d:D} {v:V}:(fl=true->d.flat=true)->Rep K Hs d v->cc K Hs H fl d v []
 |list {a:ai} {vs:List V} {ds:List D} {As:List ai}:vs.length<=bG->H a=some (.lst vs)->az K Hs H fl ds vs As->cc K Hs H fl (.list ds) (.ref a) (a :: As)
 |tup {a:ai} {vs:List V} {ds:List D} {As:List ai}:vs.length<=bG->Hs a=some (.tup vs)->dQ ds=false->az K Hs H fl ds vs As->cc K Hs H fl (.tup ds) (.ref a) As
 |dK {a:ai} {vs:List V} {kvs:List (Key × D)} {As:List ai}:VN kvs->H a=some (.dK ((kvs.map (·.1)).zip vs))->az K Hs H fl (kvs.map (·.2)) vs As->cc K Hs H fl (.dK kvs) (.ref a) (a :: As)
 |dT {a:ai} {vs:List V} {kvs:List (List Key × D)} {As:List ai}:TN kvs->H a=some (.dT ((kvs.map (·.1)).zip vs))->az K Hs H fl (kvs.map (·.2)) vs As->cc K Hs H fl (.dT kvs) (.ref a) (a :: As)
inductive az(K:aC)(Hs H:Hp)(fl:Bool):List D->List V->List ai->Prop
 |nil:az K Hs H fl [] [] []
 |cons {d:D} {v:V} {ds:List D} {vs:List V} {As Bs:List ai}:cc K Hs H fl d v As->az K Hs H fl ds vs Bs->az K Hs H fl (d :: ds) (v :: vs) (As++Bs)
end
def Own(H:Hp)(a:ai):Prop:=∃ o,H a=some o/\∀ vs,o≠.tup vs
section
variable {K:aC}{Hs ax H H':Hp}{fl:Bool}
def Own.ne(h:Own H a):H a≠none:=by obtain⟨_,e,_⟩:=h;rw[e];exact λz=>nomatch z
def Own.xq(h:Own H a):H a≠some (.tup vs):=by obtain⟨_,e,n⟩:=h;rw[e];exact λz=>n vs (Option.some.inj z)
def cc.ind{m1:D->V->List ai->Prop}{m2:List D->List V->List ai->Prop}(hs:∀ d v,(fl=true->d.flat=true)->Rep K Hs d v->m1 d v [])(hl:∀ a vs ds As,vs.length<=bG->H a=some (.lst vs)->az K Hs H fl ds vs As->m2 ds vs As->m1 (.list ds) (.ref a) (a :: As)) (ht:∀ a vs ds As,vs.length<=bG->Hs a=some (.tup vs)->dQ ds=false->az K Hs H fl ds vs As->m2 ds vs As->m1 (.tup ds) (.ref a) As)(hk:∀ a vs kvs As,VN kvs->H a=some (.dK ((kvs.map (·.1)).zip vs))->az K Hs H fl (kvs.map (·.2)) vs As->m2 (kvs.map (·.2)) vs As->m1 (.dK kvs) (.ref a) (a :: As)) (hT:∀ a vs kvs As,TN kvs->H a=some (.dT ((kvs.map (·.1)).zip vs))->az K Hs H fl (kvs.map (·.2)) vs As->m2 (kvs.map (·.2)) vs As->m1 (.dT kvs) (.ref a) (a :: As))(hn:m2 [] [] []) (hc:∀ d v ds vs As Bs,cc K Hs H fl d v As->az K Hs H fl ds vs Bs->m1 d v As->m2 ds vs Bs->m2 (d :: ds) (v :: vs) (As++Bs)):(∀ {d v As},cc K Hs H fl d v As->m1 d v As)/\∀ {ds vs As},az K Hs H fl ds vs As->m2 ds vs As :=
 ⟨λr=>cc.rec (λf r=>hs _ _ f r) (λz s r ih=>hl _ _ _ _ z s r ih) (λz s n r ih=>ht _ _ _ _ z s n r ih) (λz s r ih=>hk _ _ _ _ z s r ih) (λz s r ih=>hT _ _ _ _ z s r ih) hn (λr s a b=>hc _ _ _ _ _ _ r s a b) r,
  λr=>az.rec (λf r=>hs _ _ f r) (λz s r ih=>hl _ _ _ _ z s r ih) (λz s n r ih=>ht _ _ _ _ z s n r ih) (λz s r ih=>hk _ _ _ _ z s r ih) (λz s r ih=>hT _ _ _ _ z s r ih) hn (λr s a b=>hc _ _ _ _ _ _ r s a b) r⟩
def AJ{a:ai}{p:Prop}(h:a∈([]:List ai)):p:=absurd h vw
def cc.eg':(∀ {d} {v} {As},cc K Hs H fl d v As->∀ a∈As,Own H a)/\∀ {ds} {vs} {As},az K Hs H fl ds vs As->∀ a∈As,Own H a :=
 cc.ind (λ_ _ _ _ a h=>AJ h) (λ_ _ _ _ _ e _ ih a h=>(eu.mp h).elim (λz=>z ▸ ⟨_,e,λ_ z=>nomatch z⟩) (ih a)) (λ_ _ _ _ _ _ _ _ ih=>ih) (λ_ _ _ _ _ e _ ih a h=>(eu.mp h).elim (λz=>z ▸ ⟨_,e,λ_ z=>nomatch z⟩) (ih a)) (λ_ _ _ _ _ e _ ih a h=>(eu.mp h).elim (λz=>z ▸ ⟨_,e,λ_ z=>nomatch z⟩) (ih a)) (λa h=>AJ h) λ_ _ _ _ _ _ _ _ i1 i2 a h=>(hJ.mp h).elim (i1 a) (i2 a)
def cc.own(r:cc K Hs H fl d v As):∀ a∈As,Own H a:=cc.eg'.1 r
def az.own(r:az K Hs H fl ds vs As):∀ a∈As,Own H a:=cc.eg'.2 r
def cc.Jr(s:bt Hs ax):(∀ {d} {v} {As},cc K Hs H fl d v As->(∀ a∈As,H' a=H a)->cc K ax H' fl d v As)/\∀ {ds} {vs} {As},az K Hs H fl ds vs As->(∀ a∈As,H' a=H a)->az K ax H' fl ds vs As :=
 cc.ind (λ_ _ f r _=>.sh f (r.same s)) (λ_ _ _ _ z e _ ih k=>.list z ((k _ eh).trans e) (ih λa h=>k a (eI _ h))) (λ_ _ _ _ z e n _ ih k=>.tup z (s _ _ e) n (ih k)) (λ_ _ _ _ z e _ ih k=>.dK z ((k _ eh).trans e) (ih λa h=>k a (eI _ h))) (λ_ _ _ _ z e _ ih k=>.dT z ((k _ eh).trans e) (ih λa h=>k a (eI _ h))) (λ_=>.nil) λ_ _ _ _ _ _ _ _ i1 i2 k=>.cons (i1 λa h=>k a (yB _ h)) (i2 λa h=>k a (lI _ h))
def cc.hX(s:bt Hs ax)(r:cc K Hs H fl d v As)(k:∀ a∈As,H' a=H a):cc K ax H' fl d v As:=(cc.Jr s).1 r k
def az.hX(s:bt Hs ax)(r:az K Hs H fl ds vs As)(k:∀ a∈As,H' a=H a):az K ax H' fl ds vs As:=(cc.Jr s).2 r k
def cc.grow(s:bt Hs ax)(t:bt H H')(r:cc K Hs H fl d v As):cc K ax H' fl d v As :=
 r.hX s λa h=>by
  cases e:H a with
  |none=>exact absurd e (r.own a h).ne
  |some o=>exact t a o e
def az.grow(s:bt Hs ax)(t:bt H H')(r:az K Hs H fl ds vs As):az K ax H' fl ds vs As :=
 r.hX s λa h=>by
  cases e:H a with
  |none=>exact absurd e (r.own a h).ne
  |some o=>exact t a o e
def cc.rep2{G:Hp}(s:bt Hs G):(∀ {d} {v} {As},cc K Hs H fl d v As->(∀ a∈As,G a=H a)->Rep K G d v)/\∀ {ds} {vs} {As},az K Hs H fl ds vs As->(∀ a∈As,G a=H a)->bS K G ds vs :=
 cc.ind (λ_ _ _ r _=>r.same s) (λ_ _ _ _ z e _ ih k=>.list z (.inl (.inl ((k _ eh).trans e))) (ih λa h=>k a (eI _ h))) (λ_ _ _ _ z e n _ ih k=>.tup z (s _ _ e) (ih k)) (λ_ _ _ _ z e _ ih k=>.dK z (.inl ((k _ eh).trans e)) (ih λa h=>k a (eI _ h))) (λ_ _ _ _ z e _ ih k=>.dT z (.inl ((k _ eh).trans e)) (ih λa h=>k a (eI _ h))) (λ_=>.nil) λ_ _ _ _ _ _ _ _ i1 i2 k=>.cons (i1 λa h=>k a (yB _ h)) (i2 λa h=>k a (lI _ h))
def cc.rep(s:bt Hs G)(r:cc K Hs H fl d v As)(k:∀ a∈As,G a=H a):Rep K G d v:=(cc.rep2 s).1 r k
def az.reps(s:bt Hs G)(r:az K Hs H fl ds vs As)(k:∀ a∈As,G a=H a):bS K G ds vs:=(cc.rep2 s).2 r k
def Rep.zG(t:∀ a vs,H a=some (.tup vs)->G a=some (.tup vs)):(∀ {d} {v},Rep K H d v->d.flat=true->Rep K G d v)/\∀ {ds} {vs},bS K H ds vs->dQ ds=true->bS K G ds vs :=
 Rep.ind (λ_=>.non) (λb _=>.bl b) (λi _=>.int i) (λ_ h _=>.str h) (λ_ _ _ _ _ _ _ f=>by simp[D.flat] at f) (λ_ _ _ z e _ ih f=>.tup z (t _ _ e) (ih (by simpa[D.flat] using f))) (λ_ _ _ _ _ _ _ f=>by simp[D.flat] at f) (λ_ _ _ _ _ _ _ f=>by simp[D.flat] at f) (λ_=>.nil) λ_ _ _ _ _ _ i1 i2 f=>by simp only[dQ,k9] at f;exact .cons (i1 f.1) (i2 f.2)
def Rep.gG(t:∀ a vs,H a=some (.tup vs)->G a=some (.tup vs))(r:Rep K H d v)(f:d.flat=true):Rep K G d v:=(Rep.zG t).1 r f
def bS.gG(t:∀ a vs,H a=some (.tup vs)->G a=some (.tup vs))(r:bS K H ds vs)(f:dQ ds=true):bS K G ds vs:=(Rep.zG t).2 r f
def bS.owned(r:bS K Hs ds vs)(f:dQ ds=true):az K Hs H fl ds vs [] :=
 bS.ind (m:=λds vs=>dQ ds=true->az K Hs H fl ds vs []) (λ_=>.nil) (λ_ _ _ _ h _ ih f=>by
  simp only[dQ,k9] at f;exact .cons (.sh (λ_=>f.1) h) (ih f.2)) r f
def bS.Jb(r:bS K Hs ds vs):az K Hs H false ds vs [] :=
 bS.ind (m:=λds vs=>az K Hs H false ds vs []) .nil (λ_ _ _ _ h _ ih=>.cons (.sh (λz=>Bool.noConfusion z) h) ih) r
def cc.eh':(∀ {d} {v} {As},cc K Hs H fl d v As->cc K Hs H false d v As)/\∀ {ds} {vs} {As},az K Hs H fl ds vs As->az K Hs H false ds vs As :=
 cc.ind (λ_ _ _ r=>.sh (λz=>Bool.noConfusion z) r) (λ_ _ _ _ z e _ ih=>.list z e ih) (λ_ _ _ _ z e n _ ih=>.tup z e n ih) (λ_ _ _ _ z e _ ih=>.dK z e ih) (λ_ _ _ _ z e _ ih=>.dT z e ih) .nil λ_ _ _ _ _ _ _ _ a b=>.cons a b
def cc.VP(r:cc K Hs H fl d v As):cc K Hs H false d v As:=cc.eh'.1 r
def az.VP(r:az K Hs H fl ds vs As):az K Hs H false ds vs As:=cc.eh'.2 r
def cc.Gy(t:∀ a vs,Hs a=some (.tup vs)->G a=some (.tup vs)):(∀ {d} {v} {As},cc K Hs H true d v As->cc K G H true d v As)/\∀ {ds} {vs} {As},az K Hs H true ds vs As->az K G H true ds vs As :=
 cc.ind (λ_ _ f r=>.sh f (r.gG t (f rfl))) (λ_ _ _ _ z e _ ih=>.list z e ih) (λ_ _ _ _ z e n _ ih=>.tup z (t _ _ e) n ih) (λ_ _ _ _ z e _ ih=>.dK z e ih) (λ_ _ _ _ z e _ ih=>.dT z e ih) .nil λ_ _ _ _ _ _ _ _ a b=>.cons a b
def cc.leaves(t:∀ a vs,Hs a=some (.tup vs)->G a=some (.tup vs))(r:cc K Hs H true d v As):cc K G H true d v As:=(cc.Gy t).1 r
def az.ind{m:List D->List V->List ai->Prop}(hn:m [] [] [])(hc:∀ d v ds vs As Bs,cc K Hs H fl d v As->az K Hs H fl ds vs Bs->m ds vs Bs->m (d :: ds) (v :: vs) (As++Bs)):∀ {ds vs As},az K Hs H fl ds vs As->m ds vs As :=
 λr=>(cc.ind (m1:=λ_ _ _=>True) (λ_ _ _ _=>trivial) (λ_ _ _ _ _ _ _ _=>trivial) (λ_ _ _ _ _ _ _ _ _=>trivial) (λ_ _ _ _ _ _ _ _=>trivial) (λ_ _ _ _ _ _ _ _=>trivial) hn λd v ds vs As Bs r s _ b=>hc d v ds vs As Bs r s b).2 r
def az.append(r:az K Hs H fl ds vs As)(t:az K Hs H fl es ws Bs):az K Hs H fl (ds++es) (vs++ws) (As++Bs) :=
 az.ind (m:=λds vs As=>az K Hs H fl (ds++es) (vs++ws) (As++Bs)) t (λ_ _ _ _ _ _ h _ ih=>by
  rw[B7];exact .cons h ih) r
def az.n0(h:az K Hs H fl [] vs As):vs=[]/\As=[]:=by cases h;exact⟨rfl,rfl⟩
def az.c(h:az K Hs H fl (d :: ds) vs As):∃ u us A B,vs=u :: us/\As=A++B/\cc K Hs H fl d u A/\az K Hs H fl ds us B:=by
 cases h with
 |cons r rs=>exact⟨_,_,_,_,rfl,rfl,r,rs⟩
def az.length(r:az K Hs H fl ds vs As):ds.length=vs.length :=
 az.ind (m:=λds vs _=>ds.length=vs.length) rfl (λ_ _ _ _ _ _ _ _ ih=>by rw[k8,k8,ih]) r
end
def ei':HO->Prop
 |.dK _=>False
 |.dT _=>False
 |.fR _ _=>False
 |_=>True
def GV(H H':Hp):Prop:=∀ a o,ei' o->H a=some o->H' a=some o
structure OB where
 is:Hp->Hp->ai->List ai->Prop
 hX:∀ {Hs ax H H'} {a} {As},GV Hs ax->(∀ b∈As,H' b=H b)->is Hs H a As->is ax H' a As
 own:∀ {Hs H} {a} {As},is Hs H a As->∀ b∈As,Own H b
def iB(s:bt H H'):GV H H':=λa o _ e=>s a o e
inductive Sl where
 |sh (d:D)|ow (fl:Bool) (d:D)
 |xc (a:ai)
 |ob (a:ai) (p:OB)
abbrev Env:=List (Option Sl)
inductive S1(K:aC)(Hs H:Hp):Option Sl->Option V->List ai->Prop
 |non {o:Option V}:S1 K Hs H none o []
 |sh {d:D} {v:V}:Rep K Hs d v->S1 K Hs H (some (.sh d)) (some v) []
 |xc {a:ai}:S1 K Hs H (some (.xc a)) (some (.ref a)) []
 |ow {As:List ai} {fl:Bool} {d:D} {v:V}:As≠[]->cc K Hs H fl d v As->S1 K Hs H (some (.ow fl d)) (some v) As
 |ob {As:List ai} {a:ai} {p:OB}:p.is Hs H a As->S1 K Hs H (some (.ob a p)) (some (.ref a)) As
inductive SR(K:aC)(Hs H:Hp):Env->St->List ai->Prop
 |nil:SR K Hs H [] [] []
 |cons {ρ:Env} {σ:St} {ah As:List ai} {s:Option Sl} {o:Option V}:S1 K Hs H s o As->SR K Hs H ρ σ ah->SR K Hs H (s :: ρ) (o :: σ) (As++ah)
structure Wf(Hs H:Hp):Prop where
 sub:bt Hs H
 kB:∀ a vs,H a=some (.tup vs)->Hs a=some (.tup vs)
structure dv(K:aC)(Hs:Hp)(ρ:Env)(σ:St)(H:Hp)(ah:List ai):Prop where
 sr:SR K Hs H ρ σ ah
 wf:Wf Hs H
 oz:ah.Nodup
 own:∀ a∈ah,Hs a=none
structure fk(Hs H ax H':Hp):Prop where
 all:bt H H'
 sh:bt Hs ax
 wf:Wf ax H'
 new:∀ a,ax a≠none->Hs a≠none\/H a=none
section
variable {K:aC}{Hs H ax H' ej' H'':Hp}
def fk.refl(w:Wf Hs H):fk Hs H Hs H:=⟨bt.refl _,bt.refl _,w,λ_ h=>.inl h⟩
def fk.trans(a:fk Hs H ax H')(b:fk ax H' ej' H''):fk Hs H ej' H'' :=
 ⟨a.all.trans b.all,a.sh.trans b.sh,b.wf,λc h=>by
  rcases b.new c h with h|h
  ·exact a.new c h
  ·exact .inr (a.all.free h)⟩
def fk.ox(g:fk Hs H ax H')(h:Hs a=none)(h':H a≠none):ax a=none:=by
 cases e:ax a with
 |none=>rfl
 |some o =>
  rcases g.new a (by rw[e];exact λz=>nomatch z) with z|z
  ·exact absurd h z
  ·exact absurd z h'
def SR.non(s:SR K Hs H ρ σ ah):SR K Hs H (none :: ρ) (o :: σ) ah:=.cons .non s
def SR.sh(r:Rep K Hs d v)(s:SR K Hs H ρ σ ah):SR K Hs H (some (.sh d) :: ρ) (some v :: σ) ah:=.cons (.sh r) s
def SR.xc(s:SR K Hs H ρ σ ah):SR K Hs H (some (.xc a) :: ρ) (some (.ref a) :: σ) ah:=.cons .xc s
def SR.ow(n:As≠[])(r:cc K Hs H fl d v As)(s:SR K Hs H ρ σ ah):SR K Hs H (some (.ow fl d) :: ρ) (some v :: σ) (As++ah):=.cons (.ow n r) s
def SR.own(s:SR K Hs H ρ σ ah):∀ a∈ah,Own H a:=by
 induction s with
 |nil=>exact λa h=>AJ h
 |cons h _ ih=>exact λa m=>(hJ.mp m).elim (λm=>by
   cases h with
   |ow _ r=>exact r.own a m
   |@ob _ _ p r=>exact p.own r a m
   |_=>exact AJ m) (ih a)
def S1.map(hr:∀ {d} {v},Rep K Hs d v->Rep K ax d v)(ho:∀ {fl} {d} {v} {As},cc K Hs H fl d v As->(∀ a∈As,H' a=H a)->cc K ax H' fl d v As)(n:GV Hs ax)(h:S1 K Hs H s o As)(k:∀ a∈As,H' a=H a):S1 K ax H' s o As:=by
 cases h with
 |non=>exact .non
 |sh r=>exact .sh (hr r)
 |xc=>exact .xc
 |ow ne r=>exact .ow ne (ho r k)
 |@ob _ _ p r=>exact .ob (p.hX n k r)
def SR.map(hr:∀ {d} {v},Rep K Hs d v->Rep K ax d v)(ho:∀ {fl} {d} {v} {As},cc K Hs H fl d v As->(∀ a∈As,H' a=H a)->cc K ax H' fl d v As)(n:GV Hs ax)(r:SR K Hs H ρ σ ah):(∀ a∈ah,H' a=H a)->SR K ax H' ρ σ ah:=by
 induction r with
 |nil=>exact λ_=>.nil
 |cons h _ ih=>exact λk=>.cons (h.map hr ho n λa m=>k a (yB _ m)) (ih λa m=>k a (lI _ m))
def S1.hX(s:bt Hs ax)(h:S1 K Hs H x o As)(k:∀ a∈As,H' a=H a):S1 K ax H' x o As:=h.map (·.same s) (·.hX s) (iB s) k
def SR.hX(s:bt Hs ax)(r:SR K Hs H ρ σ ah)(k:∀ a∈ah,H' a=H a):SR K ax H' ρ σ ah:=r.map (·.same s) (·.hX s) (iB s) k
def dv.grow(r:dv K Hs ρ σ H ah)(g:fk Hs H ax H'):dv K ax ρ σ H' ah :=
 ⟨r.sr.hX g.sh λa h=>by
  cases e:H a with
  |none=>exact absurd e (r.sr.own a h).ne
  |some o=>exact g.all a o e,g.wf,r.oz,λa h=>g.ox (r.own a h) (r.sr.own a h).ne⟩
def M_(K:aC)(Hs H:Hp)(ah:List ai)(sl:Sl)(v:V):Prop:=match sl with
 |.sh d=>Rep K Hs d v
 |.ow fl d=>∃ As,As≠[]/\cc K Hs H fl d v As/\∀ a∈As,a∈ah
 |.xc a=>v=.ref a
 |.ob a p=>v=.ref a/\∃ As,p.is Hs H a As/\∀ a∈As,a∈ah
def SR.all(s:SR K Hs H ρ σ ah):∃ F:Nat->List ai,(∀ i sl,ρ[i]? = some sl->∃ o,σ[i]? = some o/\S1 K Hs H sl o (F i))/\(∀ i,(F i).Sublist ah)/\(ah.Nodup->∀ i j,i≠j->∀ a∈F i,a∉F j):=by
 induction s with
 |nil=>exact⟨λ_=>[],λi sl e=>by simp at e,λi=>P7 _,λ_ i j _ a h=>AJ h⟩
 |@cons _ _ _ As _ _ h s ih =>
  obtain⟨F,f,g,k⟩:=ih;refine⟨λi=>i.casesOn As F,λi sl e=>?_,λi=>?_,λn i j ne a m=>?_⟩
  ·cases i with
   |zero=>cases e;exact⟨_,rfl,h⟩
   |succ i=>exact f i sl e
  ·cases i with
   |zero=>exact W6 _ _
   |succ i=>exact(g i).trans (LX _ _)
  ·obtain⟨_,n2,n3⟩:=pj.mp n
   cases i with
   |zero =>
    cases j with
    |zero=>exact absurd rfl ne
    |succ j=>exact λz=>n3 a m a ((g j).subset z) rfl
   |succ i =>
    cases j with
    |zero=>exact λz=>n3 a z a ((g i).subset m) rfl
    |succ j=>exact k n2 i j (λz=>ne (by rw[z])) a m
def SR.get{i:Nat}(s:SR K Hs H ρ σ ah)(e:ρ[i]? = some (some sl)):∃ v,σ[i]? = some (some v)/\M_ K Hs H ah sl v:=by
 obtain⟨F,f,g,_⟩:=s.all;obtain⟨_,e1,h⟩:=f i _ e;have m:=λa (h:a∈F i)=>(g i).subset h;generalize F i=As at h m
 cases h with
 |sh r=>exact⟨_,e1,r⟩
 |xc=>exact⟨_,e1,rfl⟩
 |ow ne r=>exact⟨_,e1,_,ne,r,m⟩
 |ob r=>exact⟨_,e1,rfl,_,r,m⟩
def qt{α:Type}{l:List α}{x:α}(e:l[i]? = some x):l.set i x=l:=by obtain⟨h,rfl⟩:=h9.mp e;exact List.set_getElem_self h
def SR.chg(s:SR K Hs H ρ σ ah):∀ i,ah.Nodup->∃ As:List ai,As.Sublist ah/\(∀ sl,ρ[i]? = some sl->∃ o,σ[i]? = some o/\S1 K Hs H sl o As)/\∀ {ax H'} {sl} {o} {B},bt Hs ax->(∀ a∈ah,a∉As->H' a=H a)->S1 K ax H' sl o B->B.Nodup->(∀ a∈B,a∈ah->a∈As) ->
  ∃ t:List ai,t.Nodup/\(∀ a∈t,a∈B\/a∈ah/\a∉As)/\(B=[]->t.Sublist ah)/\(B=As->t=ah)/\SR K ax H' (ρ.set i sl) (σ.set i o) t:=by
 induction s with
 |nil=>exact λi n=>⟨[],.slnil,λ_ e=>by simp at e,λ_ _ _ _ _=>⟨[],n,λa h=>AJ h,λ_=>.slnil,λ_=>rfl,.nil⟩⟩
 |@cons _ _ ah As _ _ h s ih =>
  intro i n;obtain⟨n1,n2,n3⟩:=pj.mp n
  cases i with
  |zero =>
   refine⟨As,W6 _ _,λ_ e=>by cases e;exact⟨_,rfl,h⟩,λ{_ _ _ _ B} S k h' nd dj=>⟨B++ah,pj.mpr ⟨nd,n2,λa ha b hb e=>?_⟩,λa m=>?_,λe=>?_,λe=>by rw[e],.cons h' (s.hX S λa m=>k a (lI _ m) λz=>n3 a z a m rfl)⟩⟩
   ·subst e;exact n3 a (dj a ha (lI _ hb)) a hb rfl
   ·exact(hJ.mp m).imp id λm=>⟨lI _ m,λz=>n3 a z a m rfl⟩
   ·subst e;exact LX _ _
  |succ i =>
   obtain⟨A,sb,f,g⟩:=ih i n2;have hA:∀ a∈As,a∉A:=λa m z=>n3 a m a (sb.subset z) rfl;refine⟨A,sb.trans (LX _ _),f,λS k h' nd dj=>?_⟩;obtain⟨t,a,b,c,d,e⟩:=g S (λa m=>k a (lI _ m)) h' nd λa m z=>dj a m (lI _ z);refine⟨As++t,pj.mpr ⟨n1,a,λx hx y hy e=>?_⟩,λx m=>?_,λe=>(c e).append_left _,λe=>by rw[d e],.cons (h.hX S λa m=>k a (yB _ m) (hA a m)) e⟩
   ·subst e;rcases b x hy with z|z
    ·exact hA x hx (dj x z (yB _ hx))
    ·exact n3 x hx x z.1 rfl
   ·rcases hJ.mp m with z|z
    ·exact .inr ⟨yB _ z,hA x z⟩
    ·exact(b x z).imp id λz=>⟨lI _ z.1,z.2⟩
end
inductive Md where
 |sh|ow (fl:Bool)|bo|wb (a:ai) (p:OB)
def RM(K:aC)(Hs H:Hp):Md->D->V->List ai->Prop
 |.sh,d,v,As=>As=[]/\Rep K Hs d v
 |.ow fl,d,v,As=>cc K Hs H fl d v As/\As≠[]
 |.bo,d,v,As=>As=[]/\Rep K H d v
 |.wb a p,d,v,As=>Rep K H d v/\p.is Hs H a As
inductive Dp(K:aC)(Hs H:Hp):List (Md × D)->List V->List ai->Prop
 |nil:Dp K Hs H [] [] []
 |cons {m:Md} {d:D} {v:V} {ps:List (Md × D)} {vs:List V} {As Bs:List ai}:RM K Hs H m d v As->Dp K Hs H ps vs Bs->Dp K Hs H ((m,d) :: ps) (v :: vs) (As++Bs)
section
variable {K:aC}{Hs H ax H':Hp}
def RM.own{m:Md}{d:D}{v:V}{As:List ai}(r:RM K Hs H m d v As):∀ a∈As,Own H a:=by
 cases m with
 |sh=>obtain⟨rfl,_⟩:=r;exact λa h=>AJ h
 |ow fl=>exact cc.own r.1
 |bo=>obtain⟨rfl,_⟩:=r;exact λa h=>AJ h
 |wb _ p=>exact p.own r.2
def RM.grow(r:RM K Hs H m d v As)(g:fk Hs H ax H'):RM K ax H' m d v As:=by
 cases m with
 |sh=>exact⟨r.1,r.2.same g.sh⟩
 |ow fl=>exact⟨cc.grow g.sh g.all r.1,r.2⟩
 |bo=>exact⟨r.1,r.2.same g.all⟩
 |wb _ p=>exact⟨r.1.same g.all,p.hX (iB g.sh) (λb h=>let ⟨_,e,_⟩:=p.own r.2 b h;(g.all _ _ e).trans e.symm) r.2⟩
def RM.rep(w:Wf Hs H)(r:RM K Hs H m d v As):Rep K H d v:=by
 cases m with
 |sh=>exact r.2.same w.sub
 |ow fl=>exact cc.rep w.sub r.1 λ_ _=>rfl
 |bo=>exact r.2
 |wb=>exact r.1
def RM.flat(w:Wf Hs H)(r:RM K Hs H m d v As)(f:d.flat=true):Rep K Hs d v:=(r.rep w).gG w.kB f
def Dp.reps(w:Wf Hs H){ps:List (Md × D)}(r:Dp K Hs H ps vs As):bS K H (ps.map (·.2)) vs:=by
 induction r with
 |nil=>exact .nil
 |cons r _ ih=>exact .cons (r.rep w) ih
end
abbrev WE:=Env->(Md->D->Prop)->Prop
abbrev WT:=Env->(Bool->Prop)->Prop
abbrev WA:=Env->(List (Md × D)->Prop)->Prop
structure jG where
 nx:Env->Prop
 rt:Md->D->Prop
 bk:Env->Prop:=fun _=>False
 ct:Env->Prop:=fun _=>False
abbrev WS:=jG->Env->Prop
def cB(ax H:Hp)(As:List ai):Prop:=As.Nodup/\∀ a∈As,ax a=none/\H a=none
def oB(K:aC)(t:WE):TE:=λσ H Qv=>∃ Hs ρ ah Q,dv K Hs ρ σ H ah/\t ρ Q /\
 ∀ v H' ax m d As,fk Hs H ax H'->RM K ax H' m d v As->cB ax H As->Q m d->Qv v H'
def GW(K:aC)(t:WT):TT:=λσ H Qv=>∃ Hs ρ ah Q,dv K Hs ρ σ H ah/\t ρ Q/\∀ b H' ax,fk Hs H ax H'->Q b->Qv b H'
def tpA(K:aC)(t:WA):TA:=λσ H Qv=>∃ Hs ρ ah Q,dv K Hs ρ σ H ah/\t ρ Q /\
 ∀ vs H' ax ps As,fk Hs H ax H'->Dp K ax H' ps vs As->cB ax H As->Q ps->Qv vs H'
def x6(K:aC)(L:Str->Hp->Prop)(t:WS):TS:=λD σ H=>∃ Hs ρ ah E,dv K Hs ρ σ H ah/\t E ρ /\ (∀ b9 H' ax bT cv,bt Hs ax->dv K ax bT b9 H' cv->E.nx bT->D.nx b9 H') /\ (∀ b9 H' ax bT cv,bt Hs ax->dv K ax bT b9 H' cv->E.bk bT->D.bk b9 H') /\ (∀ b9 H' ax bT cv,bt Hs ax->dv K ax bT b9 H' cv->E.ct bT->D.ct b9 H') /\ (∀ v H' ax m d As,bt Hs ax->Wf ax H'->RM K ax H' m d v As->As.Nodup->(∀ a∈As,ax a=none)->E.rt m d->D.rt v H') /\
 ∀ n H',bt Hs H'->E.rt (.ow false) (.str n)->L n H'
def jT{K:aC}{L:Str->Hp->Prop}{t:WS}{D:Ends}{σ:St}{H:Hp}{G:Prop}(x:x6 K L t D σ H)(k:∀ Hs ρ ah E,dv K Hs ρ σ H ah->t E ρ -> (∀ b9 H' ax bT cv,bt Hs ax->dv K ax bT b9 H' cv->E.nx bT->D.nx b9 H') -> (∀ b9 H' ax bT cv,bt Hs ax->dv K ax bT b9 H' cv->E.bk bT->D.bk b9 H') -> (∀ b9 H' ax bT cv,bt Hs ax->dv K ax bT b9 H' cv->E.ct bT->D.ct b9 H') -> (∀ v H' ax m d As,bt Hs ax->Wf ax H'->RM K ax H' m d v As->As.Nodup->(∀ a∈As,ax a=none)->E.rt m d->D.rt v H') -> (∀ n H',bt Hs H'->E.rt (.ow false) (.str n)->L n H')->G):G :=
 by
 obtain⟨Hs,ρ,ah,E,sr,h,k1,k2,k3,k4,kx⟩:=x;exact k Hs ρ ah E sr h k1 k2 k3 k4 kx
def cD{K:aC}{L:Str->Hp->Prop}{t:WS}{D:Ends}{σ:St}{H:Hp}{G:Prop}(x:x6 K L t D σ H)(k:∀ Hs ρ ah E,dv K Hs ρ σ H ah->t E ρ -> (∀ b9 H' ax bT cv,bt Hs ax->dv K ax bT b9 H' cv->E.nx bT->D.nx b9 H') -> (∀ b9 H' ax bT cv,bt Hs ax->dv K ax bT b9 H' cv->E.bk bT->D.bk b9 H') -> (∀ b9 H' ax bT cv,bt Hs ax->dv K ax bT b9 H' cv->E.ct bT->D.ct b9 H') -> (∀ v H' ax m d As,bt Hs ax->Wf ax H'->RM K ax H' m d v As->As.Nodup->(∀ a∈As,ax a=none)->E.rt m d->D.rt v H')->G):G :=
 jT x λHs ρ ah E sr h k1 k2 k3 k4 _=>k Hs ρ ah E sr h k1 k2 k3 k4
def i9{α β γ δ:Type _}{A B C:α->β->γ->δ->Prop}{G:Prop}(x:∃ a b c d,A a b c d/\B a b c d/\C a b c d)(k:∀ a b c d,A a b c d->B a b c d->C a b c d->G):G :=
 by
 obtain⟨a,b,c,d,p,q,r⟩:=x;exact k a b c d p q r
abbrev QE(X:Cx)(K:aC)(e:Expr)(t:WE):Prop:=PE X e (oB K t)
abbrev QT(X:Cx)(K:aC)(e:Expr)(t:WT):Prop:=PT X e (GW K t)
abbrev QW(X:Cx)(K:aC)(e:Expr)(t:WT):Prop:=PW X e (GW K t)
abbrev QA(X:Cx)(K:aC)(es:List Expr)(t:WA):Prop:=PA X es (tpA K t)
abbrev QS(X:Cx)(K:aC)(L:Str->Hp->Prop)(st:h8)(t:WS):Prop:=PS X st (x6 K L t)
abbrev x8(X:Cx)(K:aC)(L:Str->Hp->Prop)(st:List h8)(t:WS):Prop:=mh X st (x6 K L t)
abbrev L0:Str->Hp->Prop:=λ_ _=>True
end L2.Q
namespace L2.Q
structure Kt{α:Type}(f:α->Prop):Type where
def cy{α:Type}(a:α){f:α->Prop}(_:Kt f):Prop:=f a
mutual
def D.py:D->PyData
 |.non=>.none
 |.bl b=>.bool b
 |.int i=>.int i
 |.str x=>.str x
 |.list xs=>.list (ya xs)
 |.tup xs=>.tuple (ya xs)
 |.dK _=>.none
 |.dT _=>.none
def ya:List D->List PyData
 |[]=>[]
 |x :: xs=>x.py :: ya xs
end
def gu:Nat->D->Bool
 |_,.non=>true
 |_,.bl _=>true
 |_,.int _=>true
 |_,.str x=>PyData.strOk x
 |n+1,.list xs=>xs.all (gu n)
 |n+1,.tup xs=>xs.all (gu n)
 |_,_=>false
def yb(x y:D):Bool:=PyData.eqv x.py y.py
def D.ty:D->String
 |.non => "NoneType"
 |.bl _ => "bool"
 |.int _ => "int"
 |.str _ => "str"
 |.list _ => "list"
 |.tup _ => "tuple"
 |.dK _ => "dict"
 |.dT _ => "dict"
def D.key1:D->Option Key
 |.int i=>some (.inl i)
 |.str x=>some (.inr x)
 |_=>none
def cW:List D->Option (List Key)
 |[]=>some []
 |x :: xs=>match x.key1,cW xs with
  |some k,some ks=>some (k :: ks)
  |_,_=>none
section
variable {κ:Type}[DecidableEq κ]{β:Type}
def dS(kvs:List (κ × β))(k:κ):Option β:=(kvs.find? λkv=>decide (kv.1=k)).map (·.2)
def k5(kvs:List (κ × β))(k:κ)(v:β):List (κ × β) :=
 if (kvs.any λkv=>decide (kv.1=k))=true then kvs.map (λkv=>if kv.1=k then (kv.1,v) else kv) else kvs++[(k,v)]
end
def Rep.l22{K:aC}:(∀ {d} {v},Rep K H d v->∀ n,gu n d=true->L2.Rep K H d.py v)/\∀ {ds} {vs},bS K H ds vs->∀ n,(∀ d∈ds,gu n d=true)->L2.bS K H (ya ds) vs :=
 Rep.ind (λ_ _=>.none) (λb _ _=>.bool b) (λi _ _=>.int i) (λ_ _ _ _=>.str _) (λ_ _ _ _ h _ ih n o=>by
   cases n with
   |zero=>simp[gu] at o
   |succ n=>exact .list h (ih n (by simpa[gu] using o)))
  (λ_ _ _ _ h _ ih n o=>by
   cases n with
   |zero=>simp[gu] at o
   |succ n=>exact .tuple (.inl (.inl h)) (ih n (by simpa[gu] using o)))
  (λ_ _ _ _ _ _ _ n o=>by cases n<;>simp[gu] at o) (λ_ _ _ _ _ _ _ n o=>by cases n<;>simp[gu] at o) (λ_ _=>.nil)
  λ_ _ _ _ _ _ i1 i2 n o=>.cons (i1 n (o _ eh)) (i2 n λd m=>o d (eI _ m))
def Rep.l2{K:aC}(r:Rep K H d v)(o:gu n d=true):L2.Rep K H d.py v:=Rep.l22.1 r n o
def yP(ih:∀ d,gu n d=true->d.py.canLay0=true/\d.py.depth<=n)(xs:List D)(h:∀ x∈xs,gu n x=true):PyData.canLayAll0 (ya xs)=true/\PyData.depthAll (ya xs)<=n:=by
 induction xs with
 |nil=>exact⟨rfl,f7 _⟩
 |cons x xs ih2 =>have h1:=ih x (h x eh);have h2:=ih2 λy hy=>h y (eI _ hy);simp only[ya,PyData.canLayAll0,PyData.depthAll,h1.1,h2.1,Bool.and_self,true_and];lia
def m_(n:Nat):∀ d,gu n d=true->d.py.canLay0=true/\d.py.depth<=n:=by
 have st:∀ n x,gu n (.str x)=true->(D.str x).py.canLay0=true/\(D.str x).py.depth<=n:=λn x h=>by
  have h:PyData.strOk x=true:=by cases n<;>simpa[gu] using h
  exact⟨by simpa[D.py,PyData.canLay0] using h,f7 _⟩
 induction n with
 |zero =>
  intro d h
  cases d with
  |str x=>exact st _ x h
  |non=>exact⟨rfl,f7 _⟩
  |bl _=>exact⟨rfl,f7 _⟩
  |int _=>exact⟨rfl,f7 _⟩
  |_=>simp[gu] at h
 |succ n ih =>
  intro d h
  cases d with
  |str x=>exact st _ x h
  |non=>exact⟨rfl,f7 _⟩
  |bl _=>exact⟨rfl,f7 _⟩
  |int _=>exact⟨rfl,f7 _⟩
  |list xs =>
   have h:∀ x∈xs,gu n x=true:=by simpa[gu] using h
   have:=yP ih xs h;simp only[D.py,PyData.canLay0,PyData.depth];exact⟨this.1,by lia⟩
  |tup xs =>
   have h:∀ x∈xs,gu n x=true:=by simpa[gu] using h
   have:=yP ih xs h;simp only[D.py,PyData.canLay0,PyData.depth];exact⟨this.1,by lia⟩
  |dK _=>simp[gu] at h
  |dT _=>simp[gu] at h
mutual
def D.nb:D->Bool
 |.bl _=>false
 |.list xs=>AK xs
 |.tup xs=>AK xs
 |.dK _=>false
 |.dT _=>false
 |_=>true
def AK:List D->Bool
 |[]=>true
 |x :: xs=>x.nb && AK xs
end
mutual
theorem xY:∀ x y,x.nb=true->y.nb=true->(yb x y=true↔x=y)
 |.non,y,_,hy=>by cases y<;>simp_all [yb,D.py,PyData.eqv,D.nb]
 |.bl _,y,hx,_=>by simp[D.nb] at hx
 |.int i,y,_,hy=>by cases y<;>simp_all [yb,D.py,PyData.eqv,D.nb]
 |.str i,y,_,hy=>by cases y<;>simp_all [yb,D.py,PyData.eqv,D.nb]
 |.dK _,y,hx,_=>by simp[D.nb] at hx
 |.dT _,y,hx,_=>by simp[D.nb] at hx
 |.list xs,y,hx,hy=>by
  cases y with
  |list ys =>have:=ph xs ys (by simpa[D.nb] using hx) (by simpa[D.nb] using hy);simp only[yb,D.py,PyData.eqv,D.list.injEq];exact this
  |_=>simp_all [yb,D.py,PyData.eqv,D.nb]
 |.tup xs,y,hx,hy=>by
  cases y with
  |tup ys =>have:=ph xs ys (by simpa[D.nb] using hx) (by simpa[D.nb] using hy);simp only[yb,D.py,PyData.eqv,D.tup.injEq];exact this
  |_=>simp_all [yb,D.py,PyData.eqv,D.nb]
theorem ph:∀ xs ys,AK xs=true->AK ys=true->(PyData.eqvAll (ya xs) (ya ys)=true↔xs=ys)
 |[],[],_,_=>by simp[ya,PyData.eqvAll]
 |[],_ :: _,_,_=>by simp[ya,PyData.eqvAll]
 |_ :: _,[],_,_=>by simp[ya,PyData.eqvAll]
 |x :: xs,y :: ys,hx,hy=>by simp only[AK,k9] at hx hy;have h1:=xY x y hx.1 hy.1;have h2:=ph xs ys hx.2 hy.2;simp only[ya,PyData.eqvAll,k9,List.cons.injEq];exact and_congr h1 h2
end
section
variable {K:aC}{H:Hp}
def Rep.key(r:Rep K H d v)(h:d.key1=some k):v=kV k:=by cases r<;>simp[D.key1] at h<;>subst h<;>rfl
def bS.keys(r:bS K H ds vs)(h:cW ds=some ks):vs=ks.map kV:=by
 induction ds generalizing vs ks with
 |nil=>simp[cW] at h;subst h;exact r.n0
 |cons d ds ih =>
  obtain⟨u,us,rfl,r,rs⟩:=r.c;unfold cW at h
  cases e1:d.key1 with
  |none=>rw[e1] at h;simp at h
  |some k =>
   cases e2:cW ds with
   |none=>rw[e1,e2] at h;simp at h
   |some qa =>rw[e1,e2] at h;simp at h;subst h;rw[gL,r.key e1,ih rs e2]
def Rep.yi(r:Rep K H (.tup ds) v)(h:cW ds=some ks):∃ b,v=.ref b/\H b=some (.tup (ks.map kV)):=by
 cases r with
 |tup _ e rs=>exact⟨_,rfl,by rw[e,rs.keys h]⟩
end
section
variable {κ:Type}[DecidableEq κ]{K:aC}{H:Hp}
def zip_get{k:κ}{kvs:List (κ × D)}{vs:List V}(h:bS K H (kvs.map (·.2)) vs):match dS kvs k with
  |some d=>∃ v,fS ((kvs.map (·.1)).zip vs) k=some v/\Rep K H d v
  |none=>fS ((kvs.map (·.1)).zip vs) k=none:=by
 induction kvs generalizing vs with
 |nil=>rfl
 |cons p kvs ih =>
  obtain⟨u,us,rfl,r,rs⟩:=bS.c h;by_cases e:p.1=k
  ·have e1:dS (p :: kvs) k=some p.2:=by simp[dS,e]
   rw[e1];exact⟨_,by simp only[gL,Sn];exact AB e,r⟩
  ·have e1:dS (p :: kvs) k=dS kvs k:=by simp[dS,e]
   rw[e1];have:=ih rs;simp only[gL,Sn,AF (p:=(p.1,_)) e];exact this
def Gb{k:κ}{kvs:List (κ × D)}{vs:List V}(h:kvs.length=vs.length):((kvs.map (·.1)).zip vs).any (λkv=>decide (kv.1=k))=kvs.any λkv=>decide (kv.1=k):=by
 induction kvs generalizing vs with
 |nil=>rfl
 |cons p kvs ih =>
  cases vs with
  |nil=>simp at h
  |cons v vs =>simp only[gL,Sn,D5];rw[ih (by simpa using h)]
end
section
variable {K:aC}{Hs H:Hp}
def RB(w:Wf Hs H)(hp:H p=none)(ho:∀ vs,o≠.tup vs):fk Hs H Hs (upd H p o) :=
 ⟨(bt.refl H).upd hp,bt.refl _,⟨w.sub.upd hp,λa vs e=>by
  by_cases h:a=p
  ·subst h;rw[d5] at e;exact absurd (Option.some.inj e) (ho vs)
  ·rw[b6 h] at e;exact w.kB a vs e⟩,λ_ h=>.inl h⟩
def VQ(w:Wf Hs H)(hp:H p=none):fk Hs H (upd Hs p (.tup vs)) (upd H p (.tup vs)) :=
 ⟨(bt.refl H).upd hp,(bt.refl Hs).upd (w.sub.free hp),⟨λa o e=>by
  by_cases h:a=p
  ·subst h;rw[d5] at e ⊢;exact e
  ·rw[b6 h] at e ⊢;exact w.sub a o e,λa vs e=>by
  by_cases h:a=p
  ·subst h;rw[d5] at e ⊢;exact e
  ·rw[b6 h] at e ⊢;exact w.kB a vs e⟩,λa h=>by
  by_cases e:a=p
  ·subst e;exact .inr hp
  ·rw[b6 e] at h;exact .inl h⟩
def cB.nil:cB Hs H []:=⟨mI,λa h=>nomatch h⟩
def cB.of(s:bt H H')(f:cB Hs H' As):cB Hs H As:=⟨f.1,λa h=>⟨(f.2 a h).1,s.free (f.2 a h).2⟩⟩
abbrev Fin(K:aC)(Hs H:Hp)(Qd:Md->D->Prop)(Qv:VK):Prop:=∀ v H' ax m d As,fk Hs H ax H'->RM K ax H' m d v As->cB ax H As->Qd m d->Qv v H'
def Fin.after(f:Fin K Hs H Qd Qv)(g:fk Hs H ax H'):Fin K ax H' Qd Qv:=λv H2 bE m d As g2 r fr q=>f v H2 bE m d As (g.trans g2) r (fr.of g.all) q
def Fin.sh(f:Fin K Hs H Qd Qv)(w:Wf Hs H)(r:Rep K Hs d v)(q:Qd .sh d):Qv v H:=f v H Hs .sh d [] (fk.refl w) ⟨rfl,r⟩ cB.nil q
def Fin.flat(f:Fin K Hs H Qd Qv)(w:Wf Hs H)(r:Rep K H d v)(hf:d.flat=true)(q:Qd .sh d):Qv v H:=f.sh w (r.gG w.kB hf) q
def Fin.bo(f:Fin K Hs H Qd Qv)(w:Wf Hs H)(r:Rep K H d v)(q:Qd .bo d):Qv v H:=f v H Hs .bo d [] (fk.refl w) ⟨rfl,r⟩ cB.nil q
def ua(m:Md)(d:D):Md:=match m with
 |.sh=>.sh
 |_=>bif d.flat then .sh else .bo
def Fin.ua(f:Fin K Hs H Qd Qv)(w:Wf Hs H)(r:Rep K H d v)(rs:m=.sh->Rep K Hs d v)(q:Qd (ua m d) d):Qv v H:=by
 have o:Qd (bif d.flat then .sh else .bo) d->Qv v H:=λq=>by
  cases hf:d.flat with
  |true=>exact f.flat w r hf (by simpa[hf] using q)
  |false=>exact f.bo w r (by simpa[hf] using q)
 cases m with
 |sh=>exact f.sh w (rs rfl) q
 |_=>exact o q
def Fin.lst(f:Fin K Hs H Qd Qv)(w:Wf Hs H)(hz:ds.length<=bG)(r:bS K H ds vs)(hf:dQ ds=true)(q:Qd (.ow true) (.list ds)):∀ p,H p=none->Qv (.ref p) (upd H p (.lst vs)):=λp hp =>
 f _ _ Hs (.ow true) (.list ds) [p] (RB w hp λ_ z=>nomatch z) ⟨.list (by rw[<- r.length];exact hz) d5 ((r.gG w.kB hf).owned hf),by simp⟩ ⟨by simp,λa h=>by
  obtain rfl:a=p:=by simpa using h
  exact⟨w.sub.free hp,hp⟩⟩ q
def Fin.VR(f:Fin K Hs H Qd Qv)(w:Wf Hs H)(hz:ds.length<=bG)(r:bS K Hs ds vs)(q:Qd (.ow false) (.list ds)):∀ p,H p=none->Qv (.ref p) (upd H p (.lst vs)):=λp hp =>
 f _ _ Hs (.ow false) (.list ds) [p] (RB w hp λ_ z=>nomatch z) ⟨.list (by rw[<- r.length];exact hz) d5 r.Jb,by simp⟩ ⟨by simp,λa h=>by
  obtain rfl:a=p:=by simpa using h
  exact⟨w.sub.free hp,hp⟩⟩ q
def Fin.tup(f:Fin K Hs H Qd Qv)(w:Wf Hs H)(hz:ds.length<=bG)(r:bS K H ds vs)(hf:dQ ds=true)(q:Qd .sh (.tup ds)):∀ p,H p=none->Qv (.ref p) (upd H p (.tup vs)):=λp hp =>
 f _ _ (upd Hs p (.tup vs)) .sh (.tup ds) [] (VQ w hp) ⟨rfl,.tup (by rw[<- r.length];exact hz) d5 ((r.gG w.kB hf).same ((bt.refl Hs).upd (w.sub.free hp)))⟩ cB.nil q
end
section
variable {X:Cx}{K:aC}
def PE.imp(h:PE X e te)(i:∀ σ H Q,AO σ H Q->te σ H Q):PE X e AO:=λpins s σ H Q I q=>h pins s σ H Q I (i σ H Q q)
def PT.imp(h:PT X e te)(i:∀ σ H Q,AO σ H Q->te σ H Q):PT X e AO:=λpins s σ H Q I q=>h pins s σ H Q I (i σ H Q q)
def PW.imp(h:PW X e te)(i:∀ σ H Q,AO σ H Q->te σ H Q):PW X e AO:=λwh pins s σ H Q I q=>h wh pins s σ H Q I (i σ H Q q)
def PA.imp(h:PA X e te)(i:∀ σ H Q,AO σ H Q->te σ H Q):PA X e AO:=λp pins s σ H Q I q=>h p pins s σ H Q I (i σ H Q q)
def VS:Option (Option Sl)->(Md->D->Prop)->Prop
 |some (some (.sh d)),Q=>Q .sh d
 |some (some (.ow _ d)),Q=>Q .bo d
 |_,_=>False
def ae(i:Nat):WE:=λρ Q=>VS ρ[i]? Q
def MF(h:PE X e (kg i)):QE X K e (ae i):=by
 refine PE.imp h λσ H Qv hx=>i9 hx λHs ρ ah Q sr h f=>?_;unfold ae at h
 cases e:ρ[i]? with
 |none=>rw[e] at h;exact h.elim
 |some o =>
  cases o with
  |none=>rw[e] at h;exact h.elim
  |some sl =>
   obtain⟨v,e1,r⟩:=sr.sr.get e;rw[e] at h
   cases sl with
   |sh d=>exact⟨v,e1,Fin.sh f sr.wf r h⟩
   |xc a=>exact h.elim
   |ob a p=>exact h.elim
   |ow fl d =>obtain⟨As,_,r,_⟩:=r;exact⟨v,e1,Fin.bo f sr.wf (r.rep sr.wf.sub λ_ _=>rfl) h⟩
def qv(i:Nat)(hN:autoParam (X.N[i]? = some x) bv)(hv:UR X.env.scope x:=by first|exact Or.inl rfl|exact Or.inr (Or.inl rfl)|exact Or.inr (Or.inr rfl))(hd:cM x:=by decide) (tS:(x == ("__classdict__" : Str))=false:=by decide):QE X K (.Name x pos) (ae i):=MF (SY hN hv hd tS)
def wC(d:D):WE:=λ_ Q=>Q .sh d
def vI(h:PE X e (tC v))(r:∀ H,Rep K H d v):QE X K e (wC d) :=
 PE.imp h λσ H Qv hx=>i9 hx λHs ρ ah Q sr h f=>Fin.sh f sr.wf (r _) h
def aq{i j pos}:QE X K (.Constant (.int i) j pos) (wC (.int i)):=vI fY' λ_=>.int i
def bH{i j pos}(h:i.length<=bG:=by decide):QE X K (.Constant (.str i) j pos) (wC (.str i)):=vI gb' λ_=>.str h
def se{i j pos}:QE X K (.Constant (.bool i) j pos) (wC (.bl i)):=vI fZ' λ_=>.bl i
def BV{j pos}:QE X K (.Constant .none j pos) (wC .non):=vI ga' λ_=>.non
def em'(h:VB X.mg x z)(hg:autoParam (Gl X x) bv)(hd:cM x:=by decide)(hz:z.length<=bG:=by decide):QE X K (.Name x pos) (wC (.str z)):=vI (Ny h hg hd) λ_=>.str hz
def aH'(h:Tw X.mg x i)(hg:autoParam (Gl X x) bv)(hd:cM x:=by decide):QE X K (.Name x pos) (wC (.int i)):=vI (Mw h hg hd) λ_=>.int i
abbrev W2:=Md->D->Md->D->(Md->D->Prop)->Prop
abbrev W1:=Md->D->(Md->D->Prop)->Prop
def kQ(K:aC)(r:R2)(f:W2):Prop:=∀ Hs H m x v As n y u Bs Qd Qv,Wf Hs H->RM K Hs H m x v As->RM K Hs H n y u Bs->f m x n y Qd->Fin K Hs H Qd Qv->r v u H Qv
def Br1(K:aC)(r:V->Hp->VK->Prop)(f:W1):Prop:=∀ Hs H m x v As Qd Qv,Wf Hs H->RM K Hs H m x v As->f m x Qd->Fin K Hs H Qd Qv->r v H Qv
def ay(f:W2)(ta tb:WE):WE:=λρ Q=>ta ρ λm x=>tb ρ λn y=>f m x n y Q
def eP(f:W1)(ta:WE):WE:=λρ Q=>ta ρ λm x=>f m x Q
variable {a b:Expr}{ta tb tc:WE}{pos:Pos}
def iG(br:kQ K r f)(σ:St)(H:Hp)(Qv:VK)(h:oB K (ay f ta tb) σ H Qv):Rj r (oB K ta) (oB K tb) σ H Qv:=by obtain⟨Hs,ρ,ah,Q,sr,h,fin⟩:=h;exact⟨Hs,ρ,ah,_,sr,h,λv H1 bq m x As g1 r1 f1 q1=>⟨bq,ρ,ah,_,sr.grow g1,q1,λu H2 bE n y Bs g2 r2 f2 q2=>br bE H2 m x v As n y u Bs Q Qv g2.wf (r1.grow g2) r2 q2 (Fin.after fin (g1.trans g2))⟩⟩
def OG(ho:dP X (nV op) r)(br:kQ K r f)(ha:QE X K a ta)(hb:QE X K b tb):QE X K (.BinOp a op b pos) (ay f ta tb):=PE.imp (gS' ho ha hb) (iG br)
def la'(ho:U_ X (unaryOp op) r)(br:Br1 K r f)(ha:QE X K a ta):QE X K (.UnaryOp op a pos) (eP f ta):=by exact PE.imp (gT' ho ha) λσ H Qv hx=>i9 hx λHs ρ ah Q sr h fin=>⟨Hs,ρ,ah,_,sr,h,λv H1 bq m x As g1 r1 f1 q1=>br bq H1 m x v As Q Qv g1.wf r1 q1 (Fin.after fin g1)⟩
def rG(ho:dP X (gI op) r)(br:kQ K r f)(ha:QE X K a ta)(hb:QE X K b tb)(hm:Ic op b=false:=by first|exact cv' _|rfl):QE X K (.Compare a [op] [b] pos) (ay f ta tb):=PE.imp (hF' ho ha hb hm) (iG br)
def wB(t:WE):WT:=λρ Q=>t ρ λ_ x=>match x with
 |.bl b=>Q b
 |_=>False
def Ah(σ:St)(H:Hp)(Qv:Bool->Hp->Prop)(h:GW K (wB t) σ H Qv):ZL (oB K t) σ H Qv:=by
 obtain⟨Hs,ρ,ah,Q,sr,h,fin⟩:=h;refine⟨Hs,ρ,ah,_,sr,h,λv H1 bq m x As g1 r1 f1 q1=>?_⟩;have r:=r1.rep g1.wf
 cases r with
 |bl b=>exact⟨b,rfl,fin b H1 bq g1 q1⟩
 |_=>exact q1.elim
def aH(ho:dP X (gI op) r)(br:kQ K r f)(ha:QE X K a ta)(hb:QE X K b tb)(hm:Ic op b=false:=by first|exact cv' _|rfl):QT X K (.Compare a [op] [b] pos) (wB (ay f ta tb)):=by
 refine PT.imp (hG' ho ha hb hm) λσ H Qv h=>?_;obtain⟨Hs,ρ,ah,Q,sr,h,fin⟩:=h;refine iG br σ H _ ⟨Hs,ρ,ah,_,sr,h,λv H1 bq m x As g1 r1 f1 q1=>?_⟩;have r:=r1.rep g1.wf
 cases r with
 |bl b=>exact⟨b,rfl,fin b H1 bq g1 q1⟩
 |_=>exact q1.elim
def fL(h:QE X K a t)(he:∀ whole,isTrue a X.env whole=(do let v <- whole;standAt a.pos;holding [v] (truthy v)):=by intro _;rfl):QT X K a (wB t):=PT.imp (ge' h he) Ah
def gU(f g:W2)(ta tb tc:WE):WE:=λρ Q=>ta ρ λm x=>tb ρ λn y=>f m x n y λ_ z=>match z with
 |.bl k=>if k=true then tc ρ λl w=>g n y l w Q else Q .sh (.bl false)
 |_=>False
end
section
variable {X:Cx}{K:aC}{a b c:Expr}{ta tb tc:WE}{pos:Pos}
def mL(br:kQ K r f)(TQ:kQ K r' g)(σ:St)(H:Hp)(Qv:VK)(h:oB K (gU f g ta tb tc) σ H Qv):ZM r r' (oB K ta) (oB K tb) (oB K tc) σ H Qv:=by
 obtain⟨Hs,ρ,ah,Q,sr,h,fin⟩:=h;refine⟨Hs,ρ,ah,_,sr,h,λv H1 bq m x As g1 r1 f1 q1=>⟨bq,ρ,ah,_,sr.grow g1,q1,λu H2 bE n y Bs g2 r2 f2 q2=>?_⟩⟩;refine br bE H2 m x v As n y u Bs _ _ g2.wf (r1.grow g2) r2 q2 λz H3 e7 m3 d3 RC g3 r3 f3 q3=>?_;have rr:=r3.rep g3.wf
 cases rr with
 |bl k =>
  refine⟨k,rfl,?_⟩;have VH:Fin K e7 H3 Q Qv:=Fin.after fin ((g1.trans g2).trans g3)
  cases k with
  |false=>exact VH.sh g3.wf (.bl false) q3
  |true =>exact⟨e7,ρ,ah,_,((sr.grow g1).grow g2).grow g3,q3,λw H4 RG l z RH g4 r4 f4 q4=>TQ RG H4 n y u Bs l z w RH Q Qv g4.wf ((r2.grow g3).grow g4) r4 q4 (Fin.after VH g4)⟩
 |_=>exact q3.elim
def HB(ho:dP X (gI op) r)(rg:dP X (gI op') r')(br:kQ K r f)(TQ:kQ K r' g)(ha:QE X K a ta)(hb:QE X K b tb)(hc:QE X K c tc)(hm:lastMarks [op,op'] [b,c]=false:=by with_unfolding_all rfl):QE X K (.Compare a [op,op'] [b,c] pos) (gU f g ta tb tc):=PE.imp (hH' ho rg ha hb hc hm) (mL br TQ)
def jy(ho:dP X (gI op) r)(rg:dP X (gI op') r')(br:kQ K r f)(TQ:kQ K r' g)(ha:QE X K a ta)(hb:QE X K b tb)(hc:QE X K c tc)(hm:lastMarks [op,op'] [b,c]=false:=by with_unfolding_all rfl):QT X K (.Compare a [op,op'] [b,c] pos) (wB (gU f g ta tb tc)):=by
 refine PT.imp (hI' ho rg ha hb hc hm) λσ H Qv h=>?_;obtain⟨Hs,ρ,ah,Q,sr,h,fin⟩:=h;refine mL br TQ σ H _ ⟨Hs,ρ,ah,_,sr,h,λv H1 bq m x As g1 r1 f1 q1=>?_⟩;have r:=r1.rep g1.wf
 cases r with
 |bl b=>exact⟨b,rfl,fin b H1 bq g1 q1⟩
 |_=>exact q1.elim
def RJ(t u:WT):WT:=λρ Q=>t ρ λc=>if c=true then u ρ Q else Q false
def wt(t u:WT):WT:=λρ Q=>t ρ λc=>if c=true then Q true else u ρ Q
def wx(t:WT):WT:=λρ Q=>t ρ λc=>Q (!c)
variable {tA tB:WT}{rest:List Expr}
def oX{t u:WT}{f:Bool->TT}{σ:St}{H:Hp}{Qv:Bool->Hp->Prop}{G:Bool->(Bool->Prop)->Env->Prop}(h:GW K (λρ Q=>t ρ λc=>G c Q ρ) σ H Qv)(i:∀ c H1 bq ρ ah Q,dv K bq ρ σ H1 ah->G c Q ρ->(∀ b H' ax,fk bq H1 ax H'->Q b->Qv b H')->f c σ H1 Qv):GW K t σ H λc H1=>f c σ H1 Qv:=by
 obtain⟨Hs,ρ,ah,Q,sr,h,fin⟩:=h;exact⟨Hs,ρ,ah,_,sr,h,λc H1 bq g1 q1=>i c H1 bq ρ ah Q (sr.grow g1) q1 λb H' ax g2=>fin b H' ax (g1.trans g2)⟩
def nY(ha:QT X K a tA):QW X K (.BoolOp .And [a] pos) tA:=pw_and1 ha
def dX(ha:QT X K a tA):QW X K (.BoolOp .Or [a] pos) tA:=pw_or1 ha
def tL(ha:QT X K a tA)(hb:QW X K (.BoolOp .And (b :: rest) pos) tB):QW X K (.BoolOp .And (a :: b :: rest) pos) (RJ tA tB):=by
 refine PW.imp (pw_and ha hb) λσ H Qv h=>?_;refine oX (u:=tB) (f:=λc σ H1 Q=>if c=true then GW K tB σ H1 Q else Q false H1) h λc H1 bq ρ ah Q sr q fin=>?_
 cases c with
 |true=>exact⟨bq,ρ,ah,Q,sr,q,fin⟩
 |false=>exact fin false H1 bq (fk.refl sr.wf) q
def gF(ha:QT X K a tA)(hb:QW X K (.BoolOp .Or (b :: rest) pos) tB):QW X K (.BoolOp .Or (a :: b :: rest) pos) (wt tA tB):=by
 refine PW.imp (pw_or ha hb) λσ H Qv h=>?_;refine oX (u:=tB) (f:=λc σ H1 Q=>if c=true then Q true H1 else GW K tB σ H1 Q) h λc H1 bq ρ ah Q sr q fin=>?_
 cases c with
 |true=>exact fin true H1 bq (fk.refl sr.wf) q
 |false=>exact⟨bq,ρ,ah,Q,sr,q,fin⟩
def w8(h:QW X K a tA):QT X K a tA:=h _
def cT(ha:QT X K a tA):QT X K (.UnaryOp .Not a pos) (wx tA):=by exact PT.imp (gi' ha) λσ H Qv h=>oX (u:=tA) (f:=λc σ H1 Q=>Q (!c) H1) h λc H1 bq ρ ah Q sr q fin=>fin _ H1 bq (fk.refl sr.wf) q
def lM(ta tb:WE):WE:=λρ Q=>ta ρ λ_ x=>match x with
 |.bl c=>if c=true then tb ρ Q else Q .sh (.bl false)
 |_=>False
def VW(ta tb:WE):WE:=λρ Q=>ta ρ λ_ x=>match x with
 |.bl c=>if c=true then Q .sh (.bl true) else tb ρ Q
 |_=>False
def xu(ta:WE):WE:=λρ Q=>ta ρ λ_ x=>match x with
 |.bl c=>Q .sh (.bl (!c))
 |_=>False
def sW{op}(h:QE X K a ta):QE X K (.BoolOp op [a] pos) ta:=gm' h
def sO(ha:QE X K a ta)(hb:QE X K (.BoolOp .And (b :: rest) pos) tb):QE X K (.BoolOp .And (a :: b :: rest) pos) (lM ta tb):=by
 refine PE.imp (gn' ha hb) λσ H Qv hx=>i9 hx λHs ρ ah Q sr h fin=>?_;refine⟨Hs,ρ,ah,_,sr,h,λv H1 bq m x As g1 r1 f1 q1=>?_⟩;have r:=r1.rep g1.wf
 cases r with
 |bl c =>
  refine⟨c,rfl,?_⟩
  cases c with
  |true=>exact⟨bq,ρ,ah,Q,sr.grow g1,q1,Fin.after fin g1⟩
  |false=>exact Fin.sh (Fin.after fin g1) g1.wf (.bl false) q1
 |_=>exact q1.elim
def lb'(ha:QE X K a ta)(hb:QE X K (.BoolOp .Or (b :: rest) pos) tb):QE X K (.BoolOp .Or (a :: b :: rest) pos) (VW ta tb):=by
 refine PE.imp (gp' ha hb) λσ H Qv hx=>i9 hx λHs ρ ah Q sr h fin=>?_;refine⟨Hs,ρ,ah,_,sr,h,λv H1 bq m x As g1 r1 f1 q1=>?_⟩;have r:=r1.rep g1.wf
 cases r with
 |bl c =>
  refine⟨c,rfl,?_⟩
  cases c with
  |true=>exact Fin.sh (Fin.after fin g1) g1.wf (.bl true) q1
  |false=>exact⟨bq,ρ,ah,Q,sr.grow g1,q1,Fin.after fin g1⟩
 |_=>exact q1.elim
def J1(ha:QE X K a ta):QE X K (.UnaryOp .Not a pos) (xu ta):=by
 refine PE.imp (gq' ha) λσ H Qv hx=>i9 hx λHs ρ ah Q sr h fin=>?_;refine⟨Hs,ρ,ah,_,sr,h,λv H1 bq m x As g1 r1 f1 q1=>?_⟩;have r:=r1.rep g1.wf
 cases r with
 |bl c=>exact⟨c,rfl,Fin.sh (Fin.after fin g1) g1.wf (.bl _) q1⟩
 |_=>exact q1.elim
def TR(t:WT)(ta tb:WE):WE:=λρ Q=>t ρ λc=>if c=true then ta ρ Q else tb ρ Q
def aJ'(hc:QT X K c tA)(ha:QE X K a ta)(hb:QE X K b tb):QE X K (.IfExp c a b pos) (TR tA ta tb):=by
 refine PE.imp (cc' hc ha hb) λσ H Qv hx=>i9 hx λHs ρ ah Q sr h fin=>?_;refine⟨Hs,ρ,ah,_,sr,h,λk H1 bq g1 q1=>?_⟩
 cases k with
 |true=>exact⟨bq,ρ,ah,Q,sr.grow g1,q1,Fin.after fin g1⟩
 |false=>exact⟨bq,ρ,ah,Q,sr.grow g1,q1,Fin.after fin g1⟩
def VX:D->Option Bool
 |.non=>some false
 |.bl b=>some b
 |.int i=>some (i != 0)
 |.str x=>some ((x.length:Int) != 0)
 |.list xs=>some !xs.isEmpty
 |.tup xs=>some !xs.isEmpty
 |.dK kvs=>none
 |.dT kvs=>none
def OI(t:WE):WT:=λρ Q=>t ρ λ_ x=>∃ b,VX x=some b/\Q b
end
def mS:W2:=λm x n y Q=>match x,y with
 |.int i,.int j=>Q .sh (.int (i+j))
 |.str i,.str j=>i.length+j.length<=bG/\Q .sh (.str (i++j))
 |.list xs,.list ys=>xs.length+ys.length<=bG/\((dQ xs=true/\dQ ys=true/\Q (.ow true) (.list (xs++ys)))\/(m=.sh/\n=.sh/\Q (.ow false) (.list (xs++ys))))
 |.tup xs,.tup ys=>xs≠[]/\xs.length+ys.length<=bG/\dQ xs=true/\dQ ys=true/\Q .sh (.tup (xs++ys))
 |_,_=>False
def RK(P:Int->Int->(Md->D->Prop)->Prop):W2:=λ_ x _ y Q=>match x,y with
 |.int i,.int j=>P i j Q
 |_,_=>False
def is2(P:Int->Int->(Md->D->Prop)->Prop)(S:Str->Str->(Md->D->Prop)->Prop):W2:=λ_ x _ y Q=>match x,y with
 |.int i,.int j=>P i j Q
 |.str i,.str j=>S i j Q
 |_,_=>False
def TV:W2:=RK λi j Q=>Q .sh (.int (i-j))
def TX:W2:=RK λi j Q=>M0 i j/\Q .sh (.int (i*j))
def qc:W2:=RK λi j Q=>(0<j/\j<1073741824)/\Q .sh (.int (i / j))
def og:W2:=RK λi j Q=>0<j/\Q .sh (.int (i % j))
def K2:W2:=is2 (λi j Q=>Q .sh (.bl (decide (i<j)))) λi j Q=>Q .sh (.bl (x2 i j))
def EH:W2:=is2 (λi j Q=>Q .sh (.bl (decide (i<=j)))) λi j Q=>Q .sh (.bl (!x2 j i))
def VY:W2:=RK λi j Q=>Q .sh (.bl (decide (j<i)))
def kr:W2:=λ_ x _ y Q=>match x,y with
 |.int i,.int j=>Q .sh (.bl (decide (i=j)))
 |.str i,.str j=>Q .sh (.bl (decide (i=j)))
 |.bl i,.bl j=>Q .sh (.bl (decide (i=j)))
 |_,_=>gu 12 x=true/\gu 12 y=true/\Q .sh (.bl (yb x y))
def VZ:W2:=λ_ x _ y Q=>match x,y with
 |.int i,.int j=>Q .sh (.bl (!decide (i=j)))
 |.str i,.str j=>Q .sh (.bl (!decide (i=j)))
 |.bl i,.bl j=>Q .sh (.bl (!decide (i=j)))
 |_,_=>gu 12 x=true/\gu 12 y=true/\Q .sh (.bl (!yb x y))
def D.V0:D->Bool
 |.non=>true
 |_=>false
def Gj:W2:=λ_ x _ y Q=>match y with
 |.non=>Q .sh (.bl (!x.V0))
 |_=>False
def jo:D->Bool
 |.non=>true
 |.bl _=>true
 |.int _=>true
 |.str _=>true
 |_=>false
def inD(x:D)(ys:List D):Bool:=ys.any λy=>yb y x
def EI(neg:Bool):W2:=λ_ x _ y Q=>match y with
 |.str j=>match x with
  |.str i=>Q .sh (.bl (if neg then !EF i j else EF i j))
  |_=>False
 |.list ys=>jo x=true/\ys.all jo=true/\Q .sh (.bl (if neg then !inD x ys else inD x ys))
 |.tup ys=>jo x=true/\ys.all jo=true/\Q .sh (.bl (if neg then !inD x ys else inD x ys))
 |.dK kvs=>∃ k,x.key1=some k/\Q .sh (.bl (if neg then !(dS kvs k).isSome else (dS kvs k).isSome))
 |.dT kvs=>match x with
  |.tup xs=>∃ ks,cW xs=some ks/\Q .sh (.bl (if neg then !(dS kvs ks).isSome else (dS kvs ks).isSome))
  |_=>False
 |_=>False
section
variable {K:aC}
def Im(f:Fin K Hs H Qd Qv)(w:Wf Hs H)(h:x.length<=bG)(q:Qd .sh (.str x)):Qv (.str x) H:=f.sh w (.str h) q
def bW(i j:Str):(i++j).length=i.length+j.length:=by show(i.cps++j.cps).size=_;simp[Str.length]
def Kr:kQ K (λx y H Q=>Af K x y H Q\/ZT K x y H Q) mS:=by
 walk_at"a";have r1:=rx.rep w;have r2:=ry.rep w
 cases r1 with
 |int i=>cases r2 with
  |int j=>exact .inl (f.sh w (.int _) h)
  |_=>exact h.elim
 |str hi=>cases r2 with
  |str hj=>exact .inl ⟨h.1,Im f w (by rw[bW];exact h.1) h.2⟩
  |_=>exact h.elim
 |list z1 s1 q1=>cases r2 with
  |list z2 s2 q2 =>
   have l1:=q1.length;have l2:=q2.length;have hz:=h.1;rcases h.2 with⟨f1,f2,q⟩|⟨rfl,rfl,q⟩
   ·exact .inl ⟨_,_,s1,s2,by lia,f.lst w (by rw[mG];exact hz) (q1.append q2) (by rw[eN,f1,f2];rfl) q⟩
   ·obtain⟨_,rx⟩:=rx;obtain⟨_,ry⟩:=ry
    cases rx with
    |list z1' s1' RL=>cases ry with
     |list z2' s2' q2' =>have l1:=RL.length;have l2:=q2'.length;exact .inl ⟨_,_,bt.seq w.sub s1',bt.seq w.sub s2',by lia,f.VR w (by rw[mG];exact hz) (RL.append q2') q⟩
  |_=>exact h.elim
 |tup t1 s1 q1=>cases r2 with
  |tup t2 s2 q2 =>
   have l1:=q1.length;have l2:=q2.length;obtain⟨iX,hz,f1,f2,q⟩:=h;refine .inr ⟨_,_,_,_,rfl,rfl,.inl (.inl s1),.inl (.inl s2),?_,by lia,?_⟩
   ·intro e;subst e;exact iX (LZ.mp l1)
   ·refine⟨λe=>?_,λ_=>f.tup w (by rw[mG];exact hz) (q1.append q2) (by rw[eN,f1,f2];rfl) q⟩;subst e;cases q2;rw[tJ] at q;exact f.flat w (.tup t1 s1 q1) (by simpa[D.flat] using f1) q
  |_=>exact h.elim
 |_=>exact h.elim
def DN{H:Hp}{x y:D}{v u:V}{m n:Md}{P:Int->Int->(Md->D->Prop)->Prop}{S:Str->Str->(Md->D->Prop)->Prop}{Q:Md->D->Prop}{G:Prop}(r1:Rep K H x v)(r2:Rep K H y u)(h:is2 P S m x n y Q)(k:∀ i j,v=.int i->u=.int j->P i j Q->G)(ks:∀ i j,v=.str i->u=.str j->S i j Q->G):G:=by
 cases r1 with
 |int i=>cases r2 with
  |int j=>exact k i j rfl rfl h
  |_=>exact h.elim
 |str hi=>cases r2 with
  |str hj=>exact ks _ _ rfl rfl h
  |_=>exact h.elim
 |_=>exact h.elim
def lg{H:Hp}{x y:D}{v u:V}{m n:Md}{P:Int->Int->(Md->D->Prop)->Prop}{Q:Md->D->Prop}{G:Prop}(r1:Rep K H x v)(r2:Rep K H y u)(h:RK P m x n y Q)(k:∀ i j,v=.int i->u=.int j->P i j Q->G):G:=by
 cases r1 with
 |int i=>cases r2 with
  |int j=>exact k i j rfl rfl h
  |_=>exact h.elim
 |_=>exact h.elim
def Ja:kQ K Hq TV:=by
 walk_at"a";exact lg (rx.rep w) (ry.rep w) h λi j e1 e2 q=>by subst e1 e2;exact f.sh w (.int _) q
def Ko:kQ K Gv TX:=by
 walk_at"a";exact lg (rx.rep w) (ry.rep w) h λi j e1 e2 q=>by subst e1 e2;exact⟨q.1,f.sh w (.int _) q.2⟩
def Jo:kQ K Gx qc:=by
 walk_at"a";exact lg (rx.rep w) (ry.rep w) h λi j e1 e2 q=>by subst e1 e2;exact⟨q.1,f.sh w (.int _) q.2⟩
def Kd:kQ K Ew og:=by
 walk_at"a";exact lg (rx.rep w) (ry.rep w) h λi j e1 e2 q=>by subst e1 e2;exact⟨q.1,f.sh w (.int _) q.2⟩
def Jq:kQ K af' VY:=by
 walk_at"a";exact lg (rx.rep w) (ry.rep w) h λi j e1 e2 q=>by subst e1 e2;exact f.sh w (.bl _) q
def wJ:kQ K ad' K2:=by
 intro Hs H m x v As n y u Bs Qd Qv w rx ry h f;exact DN (rx.rep w) (ry.rep w) h (λi j e1 e2 q=>by
  subst e1 e2;exact f.sh w (.bl _) q) λi j e1 e2 q=>by
  subst e1 e2;exact f.sh w (.bl _) q
def qF:kQ K ae' EH:=by
 intro Hs H m x v As n y u Bs Qd Qv w rx ry h f;exact DN (rx.rep w) (ry.rep w) h (λi j e1 e2 q=>by
  subst e1 e2;exact f.sh w (.bl _) q) λi j e1 e2 q=>by
  subst e1 e2;exact f.sh w (.bl _) q
def eq_data(w:Wf Hs H)(rx:Rep K H x v)(ry:Rep K H y u)(f:Fin K Hs H Qd Qv)(h:gu 12 x=true/\gu 12 y=true/\Qd .sh (.bl (yb x y))):aj' K v u H Qv:=by obtain⟨h1,h2,q⟩:=h;have l1:=m_ 12 x h1;have l2:=m_ 12 y h2;exact⟨x.py,y.py,rx.l2 h1,ry.l2 h2,l1.1,l2.1,by lia,f.sh w (.bl _) q⟩
def ne_data(w:Wf Hs H)(rx:Rep K H x v)(ry:Rep K H y u)(f:Fin K Hs H Qd Qv)(h:gu 12 x=true/\gu 12 y=true/\Qd .sh (.bl (!yb x y))):ak' K v u H Qv:=by obtain⟨h1,h2,q⟩:=h;have l1:=m_ 12 x h1;have l2:=m_ 12 y h2;exact⟨x.py,y.py,rx.l2 h1,ry.l2 h2,l1.1,l2.1,by lia,f.sh w (.bl _) q⟩
def bK:kQ K (Vx K) kr:=by
 walk_at"a";have r1:=rx.rep w;have r2:=ry.rep w;have d:=λh=>eq_data w r1 r2 f h
 cases r1 with
 |int i=>cases r2 with
  |int j=>exact f.sh w (.bl _) h
  |_=>exact d h
 |str i=>cases r2 with
  |str j=>exact f.sh w (.bl _) h
  |_=>exact d h
 |bl i=>cases r2 with
  |bl j=>exact f.sh w (.bl _) h
  |_=>exact d h
 |_=>exact d h
def JZ:kQ K (Vy K) VZ:=by
 walk_at"a";have r1:=rx.rep w;have r2:=ry.rep w;have d:=λh=>ne_data w r1 r2 f h
 cases r1 with
 |int i=>cases r2 with
  |int j=>exact f.sh w (.bl _) h
  |_=>exact d h
 |str i=>cases r2 with
  |str j=>exact f.sh w (.bl _) h
  |_=>exact d h
 |bl i=>cases r2 with
  |bl j=>exact f.sh w (.bl _) h
  |_=>exact d h
 |_=>exact d h
def Hd(r:Rep K H x v):decide (v=V.non)=x.V0:=by cases r<;>first|rfl|exact decide_eq_false (λz=>nomatch z)
def El:kQ K (λx y H Q=>y=.non/\Q (.bl (!decide (x=.non))) H) Gj:=by
 walk_at"a";have r1:=rx.rep w;have r2:=ry.rep w;have e:=Hd r1
 cases r2 with
 |non=>exact⟨rfl,by rw[e];exact f.sh w (.bl _) h⟩
 |_=>exact h.elim
def j4(r:Rep K H x v)(h:jo x=true):ED v=true:=by cases r<;>first|rfl|(simp[jo] at h)
def G7(r:Rep K H x v)(s:Rep K H y u)(h:jo x=true)(g:jo y=true):FK v u=yb x y:=by cases r<;>simp[jo] at h<;>cases s<;>simp[jo] at g<;>rfl
def Ky(r:Rep K H x v)(h:jo x=true)(rs:bS K H ys us)(g:ys.all jo=true):us.all ED=true/\Vj v us=inD x ys:=by
 induction ys generalizing us with
 |nil=>rw[rs.n0];exact⟨rfl,rfl⟩
 |cons y ys ih =>
  obtain⟨u,us,rfl,s,ss⟩:=rs.c;simp only[Fh,k9] at g;obtain⟨e1,e2⟩:=ih ss g.2;refine⟨by simp only[Fh,j4 s g.1,e1,Bool.and_self],?_⟩;unfold Vj inD at *
  rw[D5,D5,e2,G7 s r g.1 h]
def qM{κ:Type}[DecidableEq κ]{H:Hp}{k:κ}{kvs:List (κ × D)}{vs:List V}(r:bS K H (kvs.map (·.2)) vs):(fS ((kvs.map (·.1)).zip vs) k).isSome=(dS kvs k).isSome:=by
 have:=zip_get (k:=k) r;split at this
 ·rename_i e;obtain⟨v,e1,_⟩:=this;rw[e1,e];rfl
 ·rename_i e;rw[this,e];rfl
def vQ:kQ K (NV K neg) (EI neg):=by
 walk_at"a";have r1:=rx.rep w;have r2:=ry.rep w
 cases r2 with
 |str j=>cases r1 with
  |str i=>exact f.sh w (.bl _) h
  |_=>exact h.elim
 |list z s q =>
  obtain⟨h1,h2,h3⟩:=h;obtain⟨e1,e2⟩:=Ky r1 h1 q h2;have h4:=j4 r1 h1;have g:Te K neg v (.ref _) H Qv:=⟨_,_,rfl,.inl s,h4,e1,by rw[e2];exact f.sh w (.bl _) h3⟩
  cases r1<;>exact .inr g
 |tup _ s q =>
  obtain⟨h1,h2,h3⟩:=h;obtain⟨e1,e2⟩:=Ky r1 h1 q h2;have h4:=j4 r1 h1;have g:Te K neg v (.ref _) H Qv:=⟨_,_,rfl,.inr (.inl (.inl s)),h4,e1,by rw[e2];exact f.sh w (.bl _) h3⟩
  cases r1<;>exact .inr g
 |dK kk e q =>obtain⟨k,hk,h3⟩:=h;have ev:=r1.key hk;subst ev;have eg:=qM (k:=k) q;cases k<;>exact .inl ⟨_,r9.k' e,by rw[eg];exact f.sh w (.bl _) h3⟩
 |dT kk e q =>
  cases r1 with
  |tup t1 e1 q1 =>obtain⟨ks,hk,h3⟩:=h;obtain⟨b,eb,e2⟩:=Rep.yi (.tup t1 e1 q1) hk;cases eb;have eg:=qM (k:=ks) q;exact .inl ⟨_,r9.t' e e2,by rw[eg];exact f.sh w (.bl _) h3⟩
  |_=>exact h.elim
 |_=>exact h.elim
end
section
variable {X:Cx}{K:aC}{a b:Expr}{ta tb:WE}{pos:Pos}
def Nk(hK:autoParam (X.K=K) bv):dP X (nV .Add) (λx y H Q=>Af K x y H Q\/ZT K x y H Q):=by subst hK;exact HH.or iN'
def dO(ha:QE X K a ta)(hb:QE X K b tb)(hK:autoParam (X.K=K) bv):QE X K (.BinOp a .Add b pos) (ay mS ta tb):=OG (Nk hK) Kr ha hb
def JG(ha:QE X K a ta)(hb:QE X K b tb):QE X K (.BinOp a .Sub b pos) (ay TV ta tb):=OG GJ Ja ha hb
def Ji(ha:QE X K a ta)(hb:QE X K b tb):QE X K (.BinOp a .Mult b pos) (ay TX ta tb):=OG HR Ko ha hb
def eQ(ha:QE X K a ta)(hb:QE X K b tb):QE X K (.BinOp a .FloorDiv b pos) (ay qc ta tb):=OG Ik Jo ha hb
def dI(ha:QE X K a ta)(hb:QE X K b tb):QE X K (.BinOp a .Mod b pos) (ay og ta tb):=OG Fd Kd ha hb
def Dx:W1:=λ_ x Q=>match x with
 |.int i=>Q .sh (.int (-i))
 |_=>False
def Kf:Br1 K (rU λi=>.int (-i)) Dx:=by
 intro Hs H m x v As Qd Qv w rx h f;have r1:=rx.rep w
 cases r1 with
 |int i=>exact⟨i,rfl,f.sh w (.int _) h⟩
 |_=>exact h.elim
def pY(ha:QE X K a ta):QE X K (.UnaryOp .USub a pos) (eP Dx ta):=la' hf' Kf ha
end
def cE:WA:=λ_ Q=>Q []
def ao(te:WE)(t:WA):WA:=λρ Q=>te ρ λm x=>t ρ λps=>Q ((m,x) :: ps)
def DB:Md × D->Bool
 | (.sh,_)=>true
 | (_,d)=>d.flat
def GY:Md × D->Bool
 | (.bo,d)=>d.flat
 | (.wb ..,d)=>d.flat
 |_=>true
def TY:Md × D->Bool
 | (.ow true,_)=>true
 | (_,d)=>d.flat
def rK(ps:List (Md × D)):Md:=bif ps.all DB then .sh else bif ps.all GY then .ow (ps.all TY) else .bo
def FN(ps:List (Md × D)):Md:=bif ps.all GY then .ow (ps.all TY) else .bo
def kH(t:WA):WE:=λρ Q=>t ρ λps=>ps.length<=bG/\Q (rK ps) (.tup (ps.map (·.2)))
def qf(t:WA):WE:=λρ Q=>t ρ λps=>ps.length<=bG/\Q (FN ps) (.list (ps.map (·.2)))
section
variable {X:Cx}{K:aC}{e:Expr}{es:List Expr}{te:WE}{t:WA}{pos:Pos}{Hs H:Hp}
def au:QA X K [] cE:=PA.imp t5 λσ H Qv hx=>i9 hx λHs ρ ah Q sr h f=>f [] H Hs [] [] (fk.refl sr.wf) .nil cB.nil h
def cB.app(f1:cB bq H As)(o:∀ a∈As,H1 a≠none)(f2:cB bE H1 Bs)(s:bt H H1)(k:∀ a,bq a=none->H1 a≠none->bE a=none):cB bE H (As++Bs) :=
 ⟨pj.mpr ⟨f1.1,f2.1,λa ha b hb e=>by subst e;exact o a ha (f2.2 a hb).2⟩,λa h=>by
  rcases hJ.mp h with h|h
  ·exact⟨k a (f1.2 a h).1 (o a h),(f1.2 a h).2⟩
  ·exact⟨(f2.2 a h).1,s.free (f2.2 a h).2⟩⟩
def aa(ha:QE X K e te)(hr:QA X K es t)(hs:autoParam (aQ X e es) bv):QA X K (e :: es) (ao te t):=by exact PA.imp (nI ha hr hs) λσ H Qv hx=>i9 hx λHs ρ ah Q sr h f=>⟨Hs,ρ,ah,_,sr,h,λv H1 bq m x As g1 r1 f1 q1=>⟨bq,ρ,ah,_,sr.grow g1,q1,λvs H2 bE ps Bs g2 r2 f2 q2=>f (v :: vs) H2 bE _ _ (g1.trans g2) (.cons (r1.grow g2) r2) (f1.app (λa h=>(r1.own a h).ne) f2 g1.all λa h1 h2=>g2.ox h1 h2) q2⟩⟩
def Dp.sh(w:Wf Hs H){ps:List (Md × D)}(r:Dp K Hs H ps vs As):ps.all DB=true->bS K Hs (ps.map (·.2)) vs:=by
 induction r with
 |nil=>exact λ_=>.nil
 |@cons m d v ps vs As Bs r rs ih =>
  intro h;simp only[Fh,k9] at h;refine .cons ?_ (ih h.2)
  cases m with
  |sh=>exact r.2
  |_=>exact r.flat w h.1
def Dp.ow(w:Wf Hs H){ps:List (Md × D)}(r:Dp K Hs H ps vs As):ps.all GY=true->(fl=true->ps.all TY=true)->∃ Bs,Bs.Sublist As/\(ps.all DB=false->Bs≠[])/\az K Hs H fl (ps.map (·.2)) vs Bs:=by
 induction r with
 |nil=>exact λ_ _=>⟨[],P7 _,(λz=>Bool.noConfusion z),.nil⟩
 |@cons m d v ps vs A1 Cs r rs ih =>
  intro h hf;simp only[Fh,k9] at h hf;obtain⟨Bs,sb,ne,q⟩:=ih h.2 λz=>(hf z).2;have sk:([]++Bs).Sublist (A1++Cs):=by simpa using sb.trans (LX _ _)
  have B9:d.flat=true->DB (m,d)=true->∃ Bs,Bs.Sublist (A1++Cs)/\(((m,d) :: ps).all DB=false->Bs≠[])/\az K Hs H fl (((m,d) :: ps).map (·.2)) (v :: vs) Bs:=λhd ho =>
   ⟨[]++Bs,sk,λz=>ne (by rw[Fh,ho] at z;simpa using z),.cons (.sh (λ_=>hd) (r.flat w hd)) q⟩
  cases m with
  |sh=>exact⟨[]++Bs,sk,λz=>ne (by simpa[DB] using z),.cons (.sh (λz=>(hf z).1) r.2) q⟩
  |bo=>exact B9 h.1 h.1
  |wb=>exact B9 h.1 h.1
  |ow b =>
   cases hd:d.flat with
   |true=>exact B9 hd hd
   |false =>
    refine⟨A1++Bs,sb.append_left _,λ_ z=>r.2 (Se.mp z).1,.cons ?_ q⟩
    cases fl with
    |false=>exact cc.VP r.1
    |true =>
     have:=(hf rfl).1
     cases b with
     |true=>exact r.1
     |false=>simp[TY,hd] at this
theorem pB:∀ {ps:List (Md × D)},dQ (ps.map (·.2))=true->ps.all DB=true
 |[],_=>rfl
 | (m,d) :: ps,h=>by simp only[gL,dQ,k9] at h;simp only[Fh,k9];exact⟨by cases m<;>simp[DB,h.1],pB h.2⟩
def bV{x1}(h:QA X K es t):QE X K (.Tuple es x1 pos) (kH t):=by
 refine PE.imp (cD' h) λσ H Qv hx=>i9 hx λHs ρ ah Q sr h f=>?_;refine⟨Hs,ρ,ah,_,sr,h,λvs H1 bq ps As g1 r1 f1 q1=>?_⟩;obtain⟨hz,q⟩:=q1;have rl:=(r1.reps g1.wf)
 have hl:=rl.length;rw[b4] at hl;refine⟨by lia,λp hp=>?_⟩;have g2:=VQ (vs:=vs) g1.wf hp;have fin:=Fin.after f g1;unfold rK at q
 cases h1:ps.all DB with
 |true =>rw[h1] at q;exact fin _ _ _ .sh _ [] g2 ⟨rfl,.tup (by lia) d5 ((r1.sh g1.wf h1).same g2.sh)⟩ cB.nil q
 |false =>
  rw[h1] at q
  cases h2:ps.all GY with
  |false =>rw[h2] at q;exact fin _ _ _ .bo _ [] g2 ⟨rfl,.tup (by lia) d5 (rl.same g2.all)⟩ cB.nil q
  |true =>
   rw[h2] at q;obtain⟨Bs,sb,nz,ro⟩:=r1.ow g1.wf h2 λz=>z;have iX:dQ (ps.map (·.2))=false:=by
    cases hf:dQ (ps.map (·.2)) with
    |false=>rfl
    |true=>rw[pB hf] at h1;cases h1
   have own:=ro.own;exact f _ _ _ (.ow _) _ Bs (g1.trans g2) ⟨.tup (by lia) d5 iX (ro.grow g2.sh g2.all),nz h1⟩ ⟨sb.nodup f1.1,λa ha=>⟨g2.ox (f1.2 a (sb.subset ha)).1 (own a ha).ne,(f1.2 a (sb.subset ha)).2⟩⟩ q
def dG(h:QA X K es t):QE X K (.List es pos) (qf t):=by
 refine PE.imp (cE' h) λσ H Qv hx=>i9 hx λHs ρ ah Q sr h f=>?_;refine⟨Hs,ρ,ah,_,sr,h,λvs H1 bq ps As g1 r1 f1 q1=>?_⟩;obtain⟨hz,q⟩:=q1;have rl:=(r1.reps g1.wf)
 have hl:=rl.length;rw[b4] at hl;refine⟨by lia,λp hp=>?_⟩;have g2:=RB (o:=.lst vs) g1.wf hp λ_ z=>nomatch z;have fin:=Fin.after f g1;unfold FN at q
 cases h2:ps.all GY with
 |false =>rw[h2] at q;exact fin _ _ _ .bo _ [] g2 ⟨rfl,.list (by lia) (.inl (.inl d5)) (rl.same g2.all)⟩ cB.nil q
 |true =>
  rw[h2] at q;obtain⟨Bs,sb,nz,ro⟩:=r1.ow g1.wf h2 λz=>z;have own:=ro.own;refine f _ _ _ (.ow _) _ (p :: Bs) (g1.trans g2) ⟨.list (by lia) d5 (ro.grow g2.sh g2.all),by simp⟩ ⟨ny.mpr ⟨λm=>(own p m).ne hp,sb.nodup f1.1⟩,λa ha=>?_⟩ q;rcases eu.mp ha with rfl|ha
  ·exact⟨g1.wf.sub.free hp,g1.all.free hp⟩
  ·exact⟨g2.ox (f1.2 a (sb.subset ha)).1 (own a ha).ne,(f1.2 a (sb.subset ha)).2⟩
end
def bS.gi{K:aC}(r:bS K H ds vs)(h:gi ds i=some d):∃ v,L2.gi vs i=some v/\Rep K H d v:=by
 unfold L2.gi at *
 rw[<- r.length]
 cases e:rX ds.length i with
 |none=>rw[e] at h;cases h
 |some j =>rw[e] at h;exact r.get h
def bX:W2:=λm x _ y Q=>match x with
 |.list xs=>match y with
  |.int i=>∃ d,gi xs i=some d/\cy d (f:=λd=>Q (ua m d) d) ⟨⟩
  |_=>False
 |.tup xs=>match y with
  |.int i=>∃ d,gi xs i=some d/\cy d (f:=λd=>Q (ua m d) d) ⟨⟩
  |_=>False
 |.str z=>match y with
  |.int i=>∃ c,gi z.cps.toList i=some c/\Q .sh (.str ⟨#[c]⟩)
  |_=>False
 |.dK kvs=>∃ k d,y.key1=some k/\dS kvs k=some d/\cy d (f:=λd=>Q (ua m d) d) ⟨⟩
 |.dT kvs=>match y with
  |.tup ys=>∃ ks d,cW ys=some ks/\dS kvs ks=some d/\cy d (f:=λd=>Q (ua m d) d) ⟨⟩
  |_=>False
 |_=>False
def aL'(K:aC):R2:=λx y H Q=>ag' K x y H Q\/∃ a v,x=.ref a/\r9 H a y (some v)/\Q v H
def wZ(c:Nat):(⟨#[c]⟩:Str).length<=bG:=by show 1<=bG;decide
def RM.here{K:aC}(w:Wf Hs H)(r:RM K Hs H m d v As):(m=.sh/\Rep K Hs d v)\/(m≠.sh/\Rep K H d v):=by
 cases m with
 |sh=>exact .inl ⟨rfl,r.2⟩
 |_=>exact .inr ⟨(λz=>nomatch z),r.rep w⟩
section
variable {X:Cx}{K:aC}
def Mu:kQ K (aL' K) bX:=by
 walk_at"a";have r2:=ry.rep w;have core:∀ G:Hp,bt G H->(∀ d v,Rep K G d v->Rep K H d v/\(m=.sh->Rep K Hs d v))->Rep K G x v->aL' K v u H Qv:=by
  intro G sg up r1
  cases r1 with
  |list z s q =>
   cases r2 with
   |int i =>obtain⟨d,e,h⟩:=h;obtain⟨v',e',r'⟩:=q.gi e;obtain⟨u1,u2⟩:=up _ _ r';exact .inl (.inl ⟨_,v',bt.seq sg s,e',f.ua w u1 u2 h⟩)
   |_=>exact h.elim
  |tup _ s q =>
   cases r2 with
   |int i =>obtain⟨d,e,h⟩:=h;obtain⟨v',e',r'⟩:=q.gi e;obtain⟨u1,u2⟩:=up _ _ r';exact .inl (.inr ⟨_,v',.inl (.inl (sg _ _ s)),e',f.ua w u1 u2 h⟩)
   |_=>exact h.elim
  |str hz =>
   cases r2 with
   |int i =>obtain⟨c,e,h⟩:=h;exact .inl ⟨hz,c,e,f.sh w (.str (wZ c)) h⟩
   |_=>exact h.elim
  |dK kk s q =>obtain⟨k,d,hk,hg,h⟩:=h;have ev:=r2.key hk;subst ev;have z:=zip_get (k:=k) q;rw[hg] at z;obtain⟨v',e',r'⟩:=z;obtain⟨u1,u2⟩:=up _ _ r';exact .inr ⟨_,v',rfl,by rw[<- e'];exact r9.k' (bt.rd sg s),f.ua w u1 u2 h⟩
  |dT kk s q =>
   cases r2 with
   |tup t2 e2 q2 =>obtain⟨ks,d,hk,hg,h⟩:=h;obtain⟨b,eb,e3⟩:=Rep.yi (.tup t2 e2 q2) hk;cases eb;have z:=zip_get (k:=ks) q;rw[hg] at z;obtain⟨v',e',r'⟩:=z;obtain⟨u1,u2⟩:=up _ _ r';exact .inr ⟨_,v',rfl,by rw[<- e'];exact r9.t' (bt.rd sg s) e3,f.ua w u1 u2 h⟩
   |_=>exact h.elim
  |_=>exact h.elim
 rcases rx.here w with⟨hm,r⟩|⟨hm,r⟩
 ·exact core Hs w.sub (λd v q=>And.intro (q.same w.sub) λ_=>q) r
 ·exact core H (bt.refl H) (λd v q=>And.intro q λz=>absurd z hm) r
def aM'(hu:X.A.units+64<fA)(hK:autoParam (X.K=K) bv):A8 X (aL' K):=by subst hK;refine A8.or Jl ?_;intro value slice pins s σ H x y v u Q I rx ry h hs;obtain⟨a,w,rfl,g,q⟩:=h;cases rx;exact tail_any (jn' I g) F.slot_dict_getitem.lookup (jg' (by lia) I g ry λw' s3 I3 nK=>⟨w,H,I3,nK,q⟩) hs
variable {a b:Expr}{ta tb:WE}{pos:Pos}
def b5(ha:QE X K a ta)(hb:QE X K b tb)(hs:Vi b:=by exact λ_ _=>rfl)(hK:autoParam (X.K=K) bv)(hu:X.A.units+64<fA:=by assumption):QE X K (.Subscript a b pos) (ay bX ta tb):=PE.imp (ZW (aM' hu hK) ha hb hs) (iG Mu)
end
def kK{α:Type}(xs:List α)(lo hi:Option Int):List α:=(xs.drop (HT.cS xs.length 0 lo)).take (HT.cS xs.length xs.length hi-HT.cS xs.length 0 lo)
abbrev WO:=Env->(Option Int->Prop)->Prop
def iD:WO:=λ_ Q=>Q none
def j_(t:WE):WO:=λρ Q=>t ρ λ_ x=>match x with
 |.int i=>Q (some i)
 |_=>False
def V1(m:Md)(x:D)(lo hi:Option Int)(Q:Md->D->Prop):Prop:=match x with
 |.str z=>Q .sh (.str (zo z lo hi))
 |.list xs=>(dQ xs=true/\Q (.ow true) (.list (kK xs lo hi)))\/(m=.sh/\Q (.ow false) (.list (kK xs lo hi)))
 |.tup xs=>dQ xs=true/\¬ (HT.cS xs.length 0 lo=0/\HT.cS xs.length xs.length hi=xs.length)/\Q .sh (.tup (kK xs lo hi))
 |_=>False
def Lc(te:WE)(tl th:WO):WE:=λρ Q=>te ρ λm x=>tl ρ λlo=>th ρ λhi=>V1 m x lo hi Q
def tpO(K:aC)(t:WO):TO:=λσ H Qv=>∃ Hs ρ ah Q,dv K Hs ρ σ H ah/\t ρ Q/\∀ o H' ax,fk Hs H ax H'->Q o->Qv o H'
abbrev QO(X:Cx)(K:aC)(e:Option Expr)(t:WO):Prop:=PO X e (tpO K t)
def vA(z:Str)(lo hi:Option Int):(zo z lo hi).length<=z.length:=by unfold zo Str.length;simp only[kA,lP,IG,y9];lia
def fD{α:Type}(xs:List α)(lo hi:Option Int):(kK xs lo hi).length<=xs.length:=by unfold kK;rw[lP,IG];lia
def qU{lo hi:Option Int}(h:dQ xs=true):dQ (kK xs lo hi)=true:=by
 rw[jY] at *
 intro x hx;exact h x (Si (P5 hx))
section
variable {X:Cx}{K:aC}{e:Expr}{lo hi:Option Expr}{te:WE}{tl th:WO}{pos p2:Pos}
def nZ:QO X K none iD:=λpins s σ H Q I h=>iI' pins s σ H Q I (by
 obtain⟨Hs,ρ,ah,Qd,sr,h,f⟩:=h;exact f none H Hs (fk.refl sr.wf) h)
def eG(h:QE X K e te):QO X K (some e) (j_ te):=λpins s σ H Q I hh=>iJ' h pins s σ H Q I (by
 obtain⟨Hs,ρ,ah,Qd,sr,h,f⟩:=hh;refine⟨Hs,ρ,ah,_,sr,h,λv H1 bq m x As g1 r1 f1 q1=>?_⟩;have r:=r1.rep g1.wf
 cases r with
 |int i=>exact⟨i,rfl,f _ H1 bq g1 q1⟩
 |_=>exact q1.elim)
def jC{lo hi:Option Int}(r:bS K H ds vs):bS K H (kK ds lo hi) (ND vs lo hi):=by unfold kK ND;rw[r.length];exact(r.drop _).take _
def lf'(hK:autoParam (X.K=K) bv):Rn X (λx lo hi H Q=>ah' K x lo hi H Q\/cR' K x lo hi H Q):=by
 subst hK;intro pins s σ H x v vl vu lo hi sl Q I rx hs pl pu h;rcases h with h|h
 ·exact JQ pins s σ H x v vl vu lo hi sl Q I rx hs pl pu h
 ·exact iM' pins s σ H x v vl vu lo hi sl Q I rx hs pl pu h
def il(he:QE X K e te)(hl:QO X K lo tl)(hh:QO X K hi th)(hK:autoParam (X.K=K) bv):QE X K (.Subscript e (.Slice lo hi none p2) pos) (Lc te tl th):=by
 refine PE.imp (iL' (lf' hK) he hl hh) λσ H Qv hx=>i9 hx λHs ρ ah Q sr h f=>?_;refine⟨Hs,ρ,ah,_,sr,h,λv H1 bq m x As g1 r1 f1 q1=>⟨bq,ρ,ah,_,sr.grow g1,q1,λl H2 bE g2 q2=>⟨bE,ρ,ah,_,(sr.grow g1).grow g2,q2,λu H3 e7 g3 q3=>?_⟩⟩⟩;have r3:=(r1.grow g2).grow g3;have fin:Fin K e7 H3 Q Qv:=Fin.after f ((g1.trans g2).trans g3);have rr:=r3.rep g3.wf
 cases rr with
 |str hz=>exact .inl ⟨hz,fin.sh g3.wf (.str (kE (vA _ _ _) hz)) q3⟩
 |list z s q =>
  have hz:=q.length;rcases q3 with⟨hf,q3⟩|⟨rfl,q3⟩
  ·exact .inl ⟨_,s,fin.lst g3.wf (kE (fD _ _ _) (by lia)) (jC q) (qU hf) q3⟩
  ·obtain⟨_,r3⟩:=r3
   cases r3 with
   |list z' s' q' =>exact .inl ⟨_,bt.seq g3.wf.sub s',fin.VR g3.wf (kE (fD _ _ _) (by lia)) (jC q') q3⟩
 |tup z s q =>have hz:=q.length;obtain⟨hf,hn,q3⟩:=q3;exact .inr ⟨_,_,rfl,.inl (.inl s),by rw[<- hz];exact hn,fin.tup g3.wf (kE (fD _ _ _) (by lia)) (jC q) (qU hf) q3⟩
 |_=>exact q3.elim
end
def oi:W1:=λ_ x Q=>match x with
 |.str z=>Q .sh (.int z.length)
 |.list xs=>Q .sh (.int xs.length)
 |.tup xs=>Q .sh (.int xs.length)
 |.dK kvs=>Q .sh (.int kvs.length)
 |.dT kvs=>Q .sh (.int kvs.length)
 |_=>False
def BE(T:String):W1:=λ_ x Q=>Q .sh (.bl (Rt x.ty T))
def DC(K:aC)(r:List V->Hp->VK->Prop)(f:W1):Prop:=∀ Hs H m x v As Qd Qv,Wf Hs H->RM K Hs H m x v As->f m x Qd->Fin K Hs H Qd Qv->r [v] H Qv
section
variable {X:Cx}{K:aC}{e:Expr}{te:WE}{pos p:Pos}{x:Str}{id T:String}
def lZ(br:DC K r f)(σ:St)(H:Hp)(Qv:VK)(h:oB K (eP f te) σ H Qv):Vc r (S8 (oB K te) Nn) σ H Qv:=by obtain⟨Hs,ρ,ah,Q,sr,h,fin⟩:=h;exact⟨Hs,ρ,ah,_,sr,h,λv H1 bq m x As g1 r1 f1 q1=>br bq H1 m x v As Q Qv g1.wf r1 q1 (Fin.after fin g1)⟩
def aL(hc:kM X (.builtin id) r)(br:DC K r f)(hm:X.mg x=none)(hv:k7 x=some (.builtin id))(he:QE X K e te)(hs:autoParam (aQ X e []) bv) (hn:x ≠ "__name__" := by decide) (rS:cM x:=by decide) (hg:autoParam (Gl X x) bv):QE X K (.Call (.Name x p) [e] [] pos) (eP f te) :=
 PE.imp (Vd hc hg hm hv (nI he t5 hs) hn rS hs) (lZ br)
def eZ(hc:kM X (.type T) r)(br:DC K r f)(hm:X.mg x=none)(hv:k7 x=some (.type T))(he:QE X K e te)(hs:autoParam (aQ X e []) bv) (hn:x ≠ "__name__" := by decide) (rS:cM x:=by decide) (hg:autoParam (Gl X x) bv):QE X K (.Call (.Name x p) [e] [] pos) (eP f te) :=
 PE.imp (ix' hc hg hm hv (nI he t5 hs) hn rS hs) (lZ br)
def GR(hd:(d == mE)=false)(x:wc s.heap d es ep)(lg':(es.size:Int)<2 ^ 63)(h:∀ t t',Q (.int es.size t) { s with toks:=t' }):aS (aE prog w) A (call (.builtin "len") [.ref d]) Q E s:=by
 refine Calls.call_function_entry kind_len plain_len entry_len (args_len1 _) ?_;have mt:MeetsIn prog w (Builtin.«dict.__len__» ⟨[.ref d],[]⟩) (λ_ R s=>wc s.heap d es ep/\R (.ok (.ret (.int es.size s.toks))) { s with toks:=s.toks+1 }):=.of_wp λA R s dc=>by obtain⟨hm,h⟩:=dc;obtain⟨o,ho,hc,KP⟩:=hm;show aS _ _ (dictSize d >>= _) _ _ s;refine av (av (B1 ho KP (aT ?_)));refine av (wpAny_pendingCount_other hd ?_);refine wpAny_ret_mkInt ?_;rw[UJ];exact h
 refine av (aT ?_);refine av (PR x.typ F.slot_dict_len (call_meetsIn F.slot_dict_len x.typ F.entry_dict_len (F.args_dict_len_1 _) mt ⟨x,?_⟩))
 refine av (vn (aT ?_));refine av (wpAny_letGo ?_);rw[if_neg (by lia)];rw[if_neg (by lia)];exact av (wpAny_mkInt (aT ⟨_,rfl,h _ _⟩))
def aF (hK:autoParam (X.K=K) bv):kM X (.builtin "len") (λxs H Q=>Vv K xs H Q\/∃ a kvs,xs=[.ref a]/\Rd H a (.dT kvs)/\Q (.int kvs.length) H):=by
 subst hK;intro pins s σ H xs us Q I r h;rcases h with h|⟨a,kvs,rfl,ha,q⟩
 ·exact xM pins s σ H xs us Q I r h
 ·obtain⟨u,rfl,ru⟩:=Vals.one r;cases ru;obtain⟨z,hd,ys,rel,o,es,ep,h1,h2,h3,h4,h5⟩:=(I.rd ha)
  have hl:es.size=kvs.length:=by have:=congrArg List.length h4;rw[y9,b4] at this;rw[this];exact rel.length.symm
  exact GR hd ⟨o,h1,h2,h3⟩ (by rw[mB] at z;lia) λt t'=>⟨.int kvs.length,H,I.tok _,⟨t,by rw[hl]⟩,q⟩
def bU:DC K (λxs H Q=>Vv K xs H Q\/∃ a kvs,xs=[.ref a]/\Rd H a (.dT kvs)/\Q (.int kvs.length) H) oi:=by
 intro Hs H m x v As Qd Qv w rx h f;have r1:=rx.rep w
 cases r1 with
 |str hz=>exact .inl ⟨hz,f.sh w (.int _) h⟩
 |list z s q=>exact .inl (.inl ⟨_,s,by rw[<- q.length];exact f.sh w (.int _) h⟩)
 |tup _ s q=>exact .inl (.inr (.inl ⟨_,.inl (.inl s),by rw[<- q.length];exact f.sh w (.int _) h⟩))
 |dK kk s q=>exact .inl (.inr (.inr ⟨_,s,by
   have:=q.length;rw[b4] at this;rw[L8,b4,<- this,SD];exact f.sh w (.int _) h⟩))
 |dT kk s q=>exact .inr ⟨_,_,rfl,s,by
   have:=q.length;rw[b4] at this;rw[L8,b4,<- this,SD];exact f.sh w (.int _) h⟩
 |_=>exact h.elim
end
section
variable {X:Cx}{K:aC}{e e2:Expr}{te:WE}{pos p:Pos}{T:String}
def yu (hK:autoParam (X.K=K) bv):kM X (.builtin "isinstance") (λxs H Q=>∃ x d T,xs=[x,.ty T]/\Rep K H d x/\ac' T=true/\Q (.bl (Rt d.ty T)) H):=by
 subst hK;intro pins s σ H xs us Q I r h;obtain⟨x,d,T,rfl,rd,hT,q⟩:=h;obtain⟨u,v,rfl,ru,rv⟩:=Vals.two r;obtain rfl:v=Value.type T:=rv;have hb:T∈["str", "int", "bool", "list", "tuple", "dict"]:=by simpa[ac'] using hT
 have fin:∀ tk,EP X pins σ Q (.bool (Rt d.ty T)) { s with toks:=tk }:=λtk=>⟨.bl (Rt d.ty T),H,I.tok tk,rfl,q⟩
 cases rd with
 |non=>exact S7 I ru .non (i_ X.K _ T (by simp) hb) fin
 |bl b=>exact S7 I ru (.bl b) (i_ X.K _ T (by simp) hb) fin
 |int i=>exact S7 I ru (.int i) (i_ X.K _ T (by simp) hb) fin
 |str y=>exact S7 I ru (.str _) (i_ X.K _ T (by simp) hb) fin
 |list z s' q' =>cases ru;obtain⟨its,_,pl,_⟩:=I.list s';obtain⟨o,h1,h2,_⟩:=pl.isList;exact yA WZ I.kC ⟨o,h1,h2⟩ (i_ X.K "list" T (by simp) hb) (λz=>nomatch z) fin
 |tup _ s' q'=>exact S7 I ru (.tup s') (i_ X.K _ T (by simp) hb) fin
 |dK _ s' q' =>cases ru;obtain⟨_,_,vs,_,p⟩:=I.rd s';obtain⟨o,es,ep,h1,h2,_⟩:=p;exact yA Ux I.kC ⟨o,h1,h2.1⟩ (i_ X.K "dict" T (by simp) hb) (λz=>nomatch z) fin
 |dT _ s' q' =>cases ru;obtain⟨_,_,xs,_,o,es,ep,h1,h2,_⟩:=I.rd s';exact yA Ux I.kC ⟨o,h1,h2.1⟩ (i_ X.K "dict" T (by simp) hb) (λz=>nomatch z) fin
def lE (hm:X.mg "isinstance" = none) (he:QE X K e te) (ht:PE X e2 (tC (.ty T))) (hT:autoParam (ac' T=true) bv) (hg:Gl X "isinstance" := by rfl) (hK:autoParam (X.K=K) bv) (hs:autoParam (g7 (e :: [e2]) X.env=(false,dE e X.env) :: g7 [e2] X.env) bv) (pT:autoParam (aQ X e2 []) bv) (mN:autoParam (bR X pos [e2]) bv) :
  QE X K (.Call (.Name "isinstance" p) [e,e2] [] pos) (eP (BE T) te):=by
 refine PE.imp (Vd (yu hK) hg hm nR (nI he (nI ht t5 pT) hs) (by decide) (by decide) hs mN) λσ H Qv hx=>i9 hx λHs ρ ah Q sr h f=>?_;refine⟨Hs,ρ,ah,_,sr,h,λv H1 bq m x As g1 r1 f1 q1=>⟨v,x,T,rfl,r1.rep g1.wf,hT,Fin.sh (Fin.after f g1) g1.wf (.bl _) q1⟩⟩
def Hm(r:Rep K H d v)(h:VX d=some b):ZN K v H b:=by
 cases r with
 |non=>cases h;rfl
 |bl b=>cases h;rfl
 |int i=>cases h;rfl
 |str hz =>cases h;exact⟨hz,rfl⟩
 |list z s q =>cases h;refine .inl ⟨_,s,?_⟩;cases q<;>rfl
 |tup _ s q =>cases h;refine .inr (.inl ⟨_,.inl (.inl s),?_⟩);cases q<;>rfl
 |dK _ s q=>cases h
 |dT _ s q=>cases h
def jF(ha:QE X K e te)(he:∀ whole,isTrue e X.env whole=(do let v <- whole;standAt e.pos;holding [v] (truthy v)):=by intro _;rfl)(hK:autoParam (X.K=K) bv):QT X K e (OI te):=by subst hK;refine PT.imp (hL' ha he) λσ H Qv hx=>i9 hx λHs ρ ah Q sr h f=>?_;refine⟨Hs,ρ,ah,_,sr,h,λv H1 bq m x As g1 r1 f1 q1=>?_⟩;obtain⟨b,hb,q⟩:=q1;exact⟨b,Hm (r1.rep g1.wf) hb,f b H1 bq g1 q⟩
end
def iO:Key->D
 |.inl i=>.int i
 |.inr x=>.str x
def v_:W1:=λm x Q=>match x with
 |.list xs=>(dQ xs=true/\Q (.ow true) (.list xs))\/(m=.sh/\Q (.ow false) (.list xs))
 |.tup xs=>(dQ xs=true/\Q (.ow true) (.list xs))\/(m=.sh/\Q (.ow false) (.list xs))
 |.dT kvs=>Q (.ow true) (.list (kvs.map λkv=>.tup (kv.1.map iO)))
 |_=>False
section
variable {X:Cx}{K:aC}
theorem dN:∀ {ks:List Key},(∀ k∈ks,sQ k=true)->bS K H (ks.map iO) (ks.map kV)
 |[],_=>.nil
 |k :: ks,h=>by
  refine .cons ?_ (dN λj m=>h j (eI _ m));have:=h k eh
  cases k with
  |inl i=>exact .int i
  |inr x=>exact .str (by simpa[sQ] using this)
theorem d9:∀ (ks:List Key),dQ (ks.map iO)=true
 |[]=>rfl
 |k :: ks=>by simp only[gL,dQ,d9 ks,Bool.and_true];cases k<;>rfl
def oH(t:cR H ys ks)(h:∀ l∈ks,l.length<=bG/\∀ k∈l,sQ k=true):bS K H (ks.map λl=>.tup (l.map iO)) ys:=by
 induction ys generalizing ks with
 |nil=>rw[show ks=[] from Paired.n0 t];exact .nil
 |cons y ys ih =>obtain⟨k,ks,rfl,⟨b,rfl,e⟩,t2⟩:=Paired.c t;exact .cons (.tup (by rw[b4];exact(h _ eh).1) e (dN (h _ eh).2)) (ih t2 λl m=>h l (eI _ m))
theorem gC:∀ (ks:List (List Key)),dQ (ks.map λl=>.tup (l.map iO))=true
 |[]=>rfl
 |l :: ks=>by simp only[gL,dQ,gC ks,Bool.and_true,D.flat,d9]
def g_ (hc:autoParam (X.calm=true) bv) (hK:autoParam (X.K=K) bv):kM X (.type "list") (λxs H Q=>(∃ p ys,xs=[.ref p]/\(fe K H p ys\/kL K H p ys)/\∀ l,H l=none->Q (.ref l) (upd H l (.lst ys)))\/uO xs H Q):=by subst hK;exact jb'.or (vK hc)
def sE:DC K (λxs H Q=>(∃ p ys,xs=[.ref p]/\(fe K H p ys\/kL K H p ys)/\∀ l,H l=none->Q (.ref l) (upd H l (.lst ys)))\/uO xs H Q) v_:=by
 intro Hs H m x v As Qd Qv w rx h f;have r1:=rx.rep w
 cases r1 with
 |list z s q =>
  have hl:=q.length;rcases h with⟨hf,h⟩|⟨rfl,h⟩
  ·exact .inl ⟨_,_,rfl,.inl s,f.lst w (by lia) q hf h⟩
  ·obtain⟨_,rx⟩:=rx
   cases rx with
   |list z' s' q' =>exact .inl ⟨_,_,rfl,.inl (bt.seq w.sub s'),f.VR w (by lia) q' h⟩
 |tup z s q =>
  have hl:=q.length;rcases h with⟨hf,h⟩|⟨rfl,h⟩
  ·exact .inl ⟨_,_,rfl,.inr (.inl (.inl s)),f.lst w (by lia) q hf h⟩
  ·obtain⟨_,rx⟩:=rx
   cases rx with
   |tup z' s' q' =>exact .inl ⟨_,_,rfl,.inr (.inl (.inl (w.sub _ _ s'))),f.VR w (by lia) q' h⟩
 |@dT _ vs kvs kk s q =>
  refine .inr ⟨_,s,λys l ht hl=>?_⟩;have hlen:=q.length;rw[b4] at hlen;have e:((kvs.map (·.1)).zip vs).map (·.1)=kvs.map (·.1):=L7 (by rw[b4];exact IH hlen);rw[e] at ht;have rr:=oH (K:=K) ht (λl m=>by
   obtain⟨p,hp,rfl⟩:=c9.mp m;exact kk.2 p hp)
  have ff:=gC (kvs.map (·.1));rw[fE] at rr ff;exact f.lst w (by rw[b4];exact kk.1) rr ff h l hl
 |_=>exact h.elim
end
section
variable {K:aC}{Hs H:Hp}
def dv.V2(i:Nat)(s:dv K Hs ρ σ H ah)(h:S1 K Hs H sl o As)(nd:As.Nodup)(dj:∀ a∈As,Hs a=none/\a∉ah):∃ cv,(∀ a∈cv,a∈ah\/a∈As)/\dv K Hs (ρ.set i sl) (σ.set i o) H cv:=by obtain⟨_,_,_,g⟩:=s.sr.chg i s.oz;obtain⟨t,a,b,_,_,c⟩:=g (bt.refl _) (λ_ _ _=>rfl) h nd λa h z=>absurd z (dj a h).2;have b:=λx hx=>(b x hx).symm.imp And.left id;exact⟨t,b,c,s.wf,a,λx hx=>(b x hx).elim (s.own x) λz=>(dj x z).1⟩
def asg:Md->D->Option Sl
 |.sh,d=>some (.sh d)
 |.ow fl,d=>some (.ow fl d)
 |_,d=>bif d.flat then some (.sh d) else none
def dv.set(i:Nat)(s:dv K Hs ρ σ H ah)(r:RM K Hs H m d v As)(nd:As.Nodup)(dj:∀ a∈As,Hs a=none/\a∉ah)(e:asg m d=some sl) :
  ∃ cv,dv K Hs (ρ.set i (some sl)) (σ.set i (some v)) H cv:=by
 have shc:Rep K Hs d v->∃ cv,dv K Hs (ρ.set i (some (.sh d))) (σ.set i (some v)) H cv:=λr=>(s.V2 i (.sh r) mI λa h=>AJ h).imp λ_=>And.right
 cases m with
 |sh=>cases e;exact shc r.2
 |ow fl =>cases e;exact(s.V2 i (.ow r.2 r.1) nd dj).imp λ_=>And.right
 |_ =>
  cases hf:d.flat with
  |true =>simp only[asg,hf,cond_true,Option.some.injEq] at e;subst e;exact shc (r.flat s.wf hf)
  |false=>simp[asg,hf] at e
end
section
variable {X:Cx}{K:aC}{e c:Expr}{te:WE}{tc:WT}{pos:Pos}{st:h8}{a b rest:List h8}{t u:WS}
def PS.imp{te AO:TS}(h:PS X st te)(i:∀ D σ H,AO D σ H->te D σ H):PS X st AO:=λpins s σ H D I q=>h pins s σ H D I (i D σ H q)
def mh.imp{te AO:TS}(h:mh X a te)(i:∀ D σ H,AO D σ H->te D σ H):mh X a AO:=λpins s σ H D I q=>h pins s σ H D I (i D σ H q)
def bj:WS:=λE ρ=>E.nx ρ
def cq(t u:WS):WS:=λE ρ=>t { E with nx:=u E } ρ
def fT(te:WE):WS:=λE ρ=>te ρ E.rt
def nq(te:WE):WS:=λE ρ=>te ρ λ_ _=>E.nx ρ
def fq(i:Nat)(te:WE):WS:=λE ρ=>te ρ λm d=>match asg m d with
 |some sl=>E.nx (ρ.set i (some sl))
 |none=>False
def iP(c:WT)(t u:WS):WS:=λE ρ=>c ρ λb=>if b=true then t E ρ else u E ρ
def uT:WS:=λ_ _=>False
def aD:x8 X K L [] bj:=mh.imp cf' λD σ H hx=>cD hx λHs ρ ah E sr h k1 _ _ _=>k1 σ H Hs ρ ah (bt.refl _) sr h
def Bf{D:Ends}(h:x6 K L (cq t u) D σ H):S0 (x6 K L t) (x6 K L u) D σ H:=by
 obtain⟨Hs,ρ,ah,E,sr,h,k1,k2,k3,k4,kx⟩:=h;refine⟨Hs,ρ,ah,{ E with nx:=u E },sr,h,λb9 H' ax bT cv s EJ q=>?_,k2,k3,k4,kx⟩;exact⟨ax,bT,cv,E,EJ,q,λkU H2 bE hZ fh s2=>k1 kU H2 bE hZ fh (s.trans s2),λkU H2 bE hZ fh s2=>k2 kU H2 bE hZ fh (s.trans s2),λkU H2 bE hZ fh s2=>k3 kU H2 bE hZ fh (s.trans s2),
  λv H2 bE m d As s2=>k4 v H2 bE m d As (s.trans s2),λn H2 s2=>kx n H2 (s.trans s2)⟩
def aj(h1:QS X K L st t)(h2:x8 X K L rest u):x8 X K L (st :: rest) (cq t u):=mh.imp (U0 h1 h2) λD σ H h=>Bf h
def ak(h1:QS X K L st t):x8 X K L [st] t:=U4 h1
def qy:x8 X K L a uT:=mh.imp gv' λD σ H hx=>cD hx λHs ρ ah E sr h _ _ _ _=>h
def aG(he:QE X K e te):QS X K L (.Return (some e) pos) (fT te):=PS.imp (S5 he) λD σ H hx=>cD hx λHs ρ ah E sr h k1 k2 k3 k4 =>
 ⟨Hs,ρ,ah,_,sr,h,λv H1 bq m d As g1 r1 f1 q1=>k4 v H1 bq m d As g1.sh g1.wf r1 f1.1 (λa ha=>(f1.2 a ha).1) q1⟩
def jq(i:Nat):WS:=λE ρ=>match ρ[i]? with
 |some (some (.sh d))=>E.rt .sh d
 |some (some (.ow fl d))=>E.rt (.ow fl) d
 |_=>False
def SR.at{ρ:Env}{σ:St}{ah:List ai}{i:Nat}{fl:Bool}{d:D}{Hs H:Hp}(s:SR K Hs H ρ σ ah)(e:ρ[i]? = some (some (.ow fl d))):∃ v As,σ[i]? = some (some v)/\As≠[]/\cc K Hs H fl d v As/\As.Sublist ah:=by
 obtain⟨F,f,g,_⟩:=s.all;obtain⟨_,e1,h⟩:=f i _ e;have g:=g i;generalize F i=As at h g
 cases h with
 |ow ne r=>exact⟨_,As,e1,ne,r,g⟩
def dw{i:Nat}(he:PE X e (kg i)):QS X K L (.Return (some e) pos) (jq i):=PS.imp (S5 he) λD σ H hx=>cD hx λHs ρ ah E sr h k1 k2 k3 k4=>by
 unfold jq at h;split at h
 ·rename_i d e1;obtain⟨v,e2,r⟩:=sr.sr.get e1;exact⟨v,e2,k4 v H Hs .sh d [] (bt.refl _) sr.wf ⟨rfl,r⟩ mI (λa ha=>nomatch ha) h⟩
 ·rename_i fl d e1;obtain⟨v,As,e2,ne,r,sb⟩:=sr.sr.at e1;exact⟨v,e2,k4 v H Hs (.ow fl) d As (bt.refl _) sr.wf ⟨r,ne⟩ (sb.nodup sr.oz) (λa ha=>sr.own a (sb.subset ha)) h⟩
 ·exact h.elim
def fX(he:QE X K e te)(hs:autoParam (nS e none pos.line X.env=pure false) bv):QS X K L (.Expr e pos) (nq te):=PS.imp (S4 he hs) λD σ H hx=>cD hx λHs ρ ah E sr h k1 k2 k3 k4 =>
 ⟨Hs,ρ,ah,_,sr,h,λv H1 bq m d As g1 r1 f1 q1=>k1 σ H1 bq ρ ah g1.sh (sr.grow g1) q1⟩
def aB(i:Nat){x:Str}{pos':Pos}(he:QE X K e te)(hs:autoParam (nS e (some (.Name x pos')) pos.line X.env=pure false) bv) (hf:lD X x:=by first|exact .inl rfl|exact .inr rfl|assumption) (hN:X.N.Nodup:=by assumption) (hi:autoParam (X.N[i]? = some x) bv) (hx:Loc X.env.scope x:=by first|exact .inl rfl|exact .inr rfl):QS X K L (.Assign [.Name x pos'] e pos) (fq i te):=PS.imp (ZE hN hi hx he hs hf) λD σ H hx=>cD hx λHs ρ ah E sr h k1 k2 k3 k4=>by
 refine⟨Hs,ρ,ah,_,sr,h,λv H1 bq m d As g1 r1 f1 q1=>?_⟩
 cases e:asg m d with
 |none=>rw[e] at q1;exact q1.elim
 |some sl =>rw[e] at q1;obtain⟨cv,s'⟩:=(sr.grow g1).set i r1 f1.1 (λa ha=>⟨(f1.2 a ha).1,λm=>(sr.sr.own a m).ne (f1.2 a ha).2⟩) e;exact k1 _ H1 bq _ cv g1.sh s' q1
def bf(hc:QT X K c tc)(ha:x8 X K L a t)(hb:x8 X K L b u):QS X K L (.If c a b pos) (iP tc t u):=PS.imp (ci' hc ha hb) λD σ H hx=>jT hx λHs ρ ah E sr h k1 k2 k3 k4 kx=>by
 refine⟨Hs,ρ,ah,_,sr,h,λk H1 bq g1 q1=>?_⟩;have k1':∀ b9 H' ax bT cv,bt bq ax->dv K ax bT b9 H' cv->E.nx bT->D.nx b9 H':=λkU H2 bE hZ fh s2=>k1 kU H2 bE hZ fh (g1.sh.trans s2);have k2':∀ b9 H' ax bT cv,bt bq ax->dv K ax bT b9 H' cv->E.bk bT->D.bk b9 H':=λkU H2 bE hZ fh s2=>k2 kU H2 bE hZ fh (g1.sh.trans s2);have k3':∀ b9 H' ax bT cv,bt bq ax->dv K ax bT b9 H' cv->E.ct bT->D.ct b9 H':=λkU H2 bE hZ fh s2=>k3 kU H2 bE hZ fh (g1.sh.trans s2)
 cases k with
 |true=>exact⟨bq,ρ,ah,E,sr.grow g1,q1,k1',k2',k3',(λv H2 bE m d As s2=>k4 v H2 bE m d As (g1.sh.trans s2)),λn H2 s2=>kx n H2 (g1.sh.trans s2)⟩
 |false=>exact⟨bq,ρ,ah,E,sr.grow g1,q1,k1',k2',k3',(λv H2 bE m d As s2=>k4 v H2 bE m d As (g1.sh.trans s2)),λn H2 s2=>kx n H2 (g1.sh.trans s2)⟩
def EK(Hs H:Hp)(As:List ai):Hp:=λa=>if a∈As then H a else Hs a
def gH(n:∀ a∈As,Hs a=none):bt Hs (EK Hs H As):=λa o e=>by unfold EK;rw[if_neg λm=>by rw[n a m] at e;cases e];exact e
def DQ(w:Wf Hs H)(o:∀ a∈As,Own H a):Wf (EK Hs H As) H:=⟨λa u e=>by
  unfold EK at e;by_cases m:a∈As
  ·rw[if_pos m] at e;exact e
  ·rw[if_neg m] at e;exact w.sub a u e,λa vs e=>by
  unfold EK;rw[if_neg λm=>(o a m).xq e];exact w.kB a vs e⟩
def shS:Sl->Sl
 |.sh d=>.sh d
 |.ow _ d=>.sh d
 |.xc a=>.xc a
 |.ob a p=>.ob a p
def V3:Sl->Sl
 |.sh d=>.sh d
 |.ow _ d=>.sh d
 |.xc a=>.xc a
 |.ob a _=>.xc a
def T1(i:Nat)(ρ:Env):Env:=match ρ[i]? with
 |some (some sl)=>ρ.set i (some (shS sl))
 |_=>ρ
def dv.lh'(i:Nat)(s:dv K Hs ρ σ H ah)(e:ρ[i]? = some (some (.ow fl d))):∃ As cv,(∀ a∈As,Hs a=none)/\(∀ a∈As,Own H a)/\dv K (EK Hs H As) (ρ.set i (some (.sh d))) σ H cv:=by
 obtain⟨As,sb,f,g⟩:=s.sr.chg i s.oz;obtain⟨_,e1,h⟩:=f _ e;have hn:∀ a∈As,Hs a=none:=λx hx=>s.own x (sb.subset hx);have ho:∀ a∈As,Own H a:=λx hx=>s.sr.own x (sb.subset hx)
 cases h with
 |ow ne r =>obtain⟨t,a,b,_,_,c⟩:=g (gH hn) (λ_ _ _=>rfl) (.sh (r.rep (gH hn) λx hx=>if_pos hx)) mI λa h=>AJ h;rw[qt e1] at c;refine⟨As,t,hn,ho,c,DQ s.wf ho,a,λx hx=>?_⟩;obtain⟨p,q⟩:=(b x hx).resolve_left vw;exact(if_neg q).trans (s.own x p)
def dv.fR(i:Nat)(s:dv K Hs ρ σ H ah):∃ ax cv,bt Hs ax/\dv K ax (T1 i ρ) σ H cv:=by
 unfold T1;split
 ·rename_i sl e
  cases sl with
  |ow fl d =>obtain⟨_,t,hn,_,s'⟩:=s.lh' i e;exact⟨_,t,gH hn,s'⟩
  |_ =>rw[<- qt e] at s;exact⟨Hs,ah,bt.refl _,s⟩
 ·exact⟨Hs,ah,bt.refl _,s⟩
def gx(i:Nat)(t:WS):WS:=λE ρ=>t E (T1 i ρ)
def C_{D:Ends}(h:x6 K L (gx i t) D σ H):x6 K L t D σ H:=by
 obtain⟨Hs,ρ,ah,E,sr,h,k1,k2,k3,k4,kx⟩:=h;obtain⟨ax,cv,s,EJ⟩:=sr.fR i;exact⟨ax,_,cv,E,EJ,h,λkU H2 bE hZ fh s2=>k1 kU H2 bE hZ fh (s.trans s2),λkU H2 bE hZ fh s2=>k2 kU H2 bE hZ fh (s.trans s2),λkU H2 bE hZ fh s2=>k3 kU H2 bE hZ fh (s.trans s2),
  λv H2 bE m d As s2=>k4 v H2 bE m d As (s.trans s2),λn H2 s2=>kx n H2 (s.trans s2)⟩
def aJ(i:Nat)(h:QS X K L st t):QS X K L st (gx i t):=PS.imp h λD σ H h=>C_ h
def j8(bq H1 ax H':Hp):Hp:=λa=>match H' a with
 |some (.tup vs)=>some (.tup vs)
 |_=>match H1 a with
  |none=>ax a
  |some _=>bq a
def gm(w:Wf bq H1)(s:bt H1 ax)(w':Wf ax H'):fk bq H1 (j8 bq H1 ax H') H':=by
 have sa:bt H1 H':=s.trans w'.sub;have tp:∀ a vs,H' a=some (.tup vs)->j8 bq H1 ax H' a=some (.tup vs):=λa vs e=>by unfold j8;rw[e]
 have nt:∀ a,(∀ vs,H' a≠some (.tup vs))->j8 bq H1 ax H' a=match H1 a with
  |none=>ax a
  |some _=>bq a:=λa h=>by
  unfold j8;split
  ·rename_i vs e;exact absurd e (h vs)
  ·rfl
 refine⟨sa,λa o e=>?_,⟨λa o e=>?_,tp⟩,λa h=>?_⟩
 ·have e1:=w.sub a o e;have e2:=sa a o e1;by_cases ht:∃ vs,o=.tup vs
  ·obtain⟨vs,rfl⟩:=ht;exact tp a vs e2
  ·rw[nt a λvs z=>ht ⟨vs,by rw[e2] at z;exact Option.some.inj z⟩,e1];exact e
 ·by_cases ht:∃ vs,H' a=some (.tup vs)
  ·obtain⟨vs,z⟩:=ht;rw[tp a vs z] at e;rw[z];exact e
  ·rw[nt a λvs z=>ht ⟨vs,z⟩] at e
   cases q:H1 a with
   |none=>rw[q] at e;exact w'.sub a o e
   |some u =>rw[q] at e;have:=w.sub a o e;exact sa a o this
 ·cases q:H1 a with
  |none=>exact .inr rfl
  |some u =>
   refine .inl ?_;by_cases ht:∃ vs,H' a=some (.tup vs)
   ·obtain⟨vs,z⟩:=ht;have:=sa a u q;rw[z] at this;cases this;rw[w.kB a vs q];exact λz=>nomatch z
   ·rw[nt a λvs z=>ht ⟨vs,z⟩,q] at h;exact h
def wW{bq H1 ax H':Hp}{a:ai}(s:bt H1 ax)(h:ax a=none)(o:Own H' a):j8 bq H1 ax H' a=none/\H1 a=none:=by
 have h1:=s.free h;refine⟨?_,h1⟩;unfold j8;split
 ·rename_i vs e;exact absurd e o.xq
 ·rw[h1];exact h
def OL:Md->D->Md
 |.ow true,_=>.ow true
 |_,d=>bif d.flat then .sh else .bo
def rR(w:Wf bq H1)(s:bt H1 ax)(w':Wf ax H')(r:RM K ax H' m d v As)(nd:As.Nodup)(own:∀ a∈As,ax a=none) :
  ∃ iE,RM K (j8 bq H1 ax H') H' (OL m d) d v iE/\cB (j8 bq H1 ax H') H1 iE:=by
 have g:=gm w s w';have other:∃ iE,RM K (j8 bq H1 ax H') H' (bif d.flat then .sh else .bo) d v iE/\cB (j8 bq H1 ax H') H1 iE:=by
  cases hf:d.flat with
  |true=>exact⟨[],⟨rfl,(r.rep w').gG g.wf.kB hf⟩,cB.nil⟩
  |false=>exact⟨[],⟨rfl,r.rep w'⟩,cB.nil⟩
 cases m with
 |sh=>exact other
 |bo=>exact other
 |wb=>exact other
 |ow fl =>
  cases fl with
  |false=>exact other
  |true=>exact⟨As,⟨cc.leaves (λa vs e=>g.wf.kB a vs (w'.sub _ _ e)) r.1,r.2⟩,nd,λa h=>wW s (own a h) (r.own a h)⟩
abbrev fP:=List D->(Md->D->Prop)->Prop
def fO(K:aC)(sp:fP):Sp:=λvs H Qv _=>∃ ds Qd,bS K H ds vs/\sp ds Qd /\
 ∀ v H' ax m d As,bt H ax->Wf ax H'->RM K ax H' m d v As->As.Nodup->(∀ a∈As,ax a=none)->Qd m d->Qv v H'
def tY(n:Nat)(ds:List D):Env:=ds.map (λd=>some (.sh d))++List.replicate (n-ds.length) none
abbrev ku(n:Nat)(sp:fP)(w:WS):Prop:=∀ ds Q,sp ds Q->w { nx:=λ_=>Q .sh .non,rt:=Q } (tY n ds)
def SR.start(r:bS K H ds vs):SR K H H (ds.map (λd=>some (.sh d))++List.replicate n none) (vs.map some++List.replicate n none) []:=by
 induction ds generalizing vs with
 |nil =>
  rw[r.n0]
  induction n with
  |zero=>exact .nil
  |succ n ih=>exact .non ih
 |cons d ds ih =>obtain⟨u,us,rfl,r,rs⟩:=r.c;exact .sh r (ih rs)
def yh(h:fO K sp vs H Qv E)(hp:ku (N.length) sp t) :
  x6 K L0 t { nx:=λ_ H'=>Qv .non H',rt:=Qv } (start N vs) H:=by
 obtain⟨ds,Qd,rs,hs,fin⟩:=h;have hl:=rs.length;refine⟨H,tY N.length ds,[],{ nx:=λ_=>Qd .sh .non,rt:=Qd },⟨?_,⟨bt.refl _,λ_ _ e=>e⟩,mI,λa h=>nomatch h⟩,hp ds Qd hs,?_,?_,?_,?_,λ_ _ _ _=>trivial⟩
 ·unfold tY start;rw[hl];exact SR.start rs
 ·exact λb9 H' ax bT cv s sr q=>fin .non H' ax .sh .non [] s sr.wf ⟨rfl,.non⟩ mI (λa h=>nomatch h) q
 ·exact λb9 H' ax bT cv s sr q=>q.elim
 ·exact λb9 H' ax bT cv s sr q=>q.elim
 ·exact λv H' ax m d As s w r nd own q=>fin v H' ax m d As s w r nd own q
def aN'.ok{P:cf}{st:h8}{N ps:List Str}(F:sM K x qual st f fd)(S:A6 N ps (eW st))(len:∀ ds Q,sp ds Q->ds.length=ps.length)(CF:∀ dk A outer s H E,iN k (A.deeper (pz qual (eW st) s.heap.objs.size f dk))->x8 (rV iA P w K mg base N qual (eW st) f dk A outer s H E).tT K L0 (mP st) t)(hp:ku (N.length) sp t):ki P w K mg base iA (k+1) f fd ps (fO K sp) :=
 F.ok S (λvs H Q E ⟨ds,Qd,rs,hs,_⟩=>by rw[<- rs.length];exact len ds Qd hs) λdk A outer s H vs Q E hr hs=>⟨_,CF dk A outer s H E hr,yh hs hp⟩
def aP(sp:fP)(t:WA):WE:=λρ Q=>t ρ λps=>sp (ps.map (·.2)) λm d=>cy (m,d) (f:=λp=>Q (OL p.1 p.2) p.2) ⟨⟩
def xK{sp:fP}{t:WA}{σ:St}{H:Hp}{Qv:VK}{E:XK}(h:oB K (aP sp t) σ H Qv):ZR (fO K sp) [] E (tpA K t) σ H Qv:=by obtain⟨Hs,ρ,ah,Q,sr,h,f⟩:=h;refine⟨Hs,ρ,ah,_,sr,h,λvs H1 bq ps As g1 r1 f1 q1=>?_⟩;refine⟨_,_,by rw[tJ];exact r1.reps g1.wf,q1,λv H' ax m d As s w r nd own q=>?_⟩;obtain⟨iE,r',fr⟩:=rR g1.wf s w r nd own;exact Fin.after f g1 v H' _ (OL m d) d iE (gm g1.wf s w) r' fr q
def aU{k:Nat}{x:Str}{ps:List Str}{sp:fP}{p:Pos}{es:List Expr}{t:WA}(C:Ru X.prog X.w X.K X.mg X.base k x ps (fO K sp))(ha:QA X K (e :: es) t)(hg:autoParam (Gl X x) bv)(rS:cM x:=by decide)(he:autoParam (aQ X e es) bv) (mN:autoParam (bR X pos es) bv) (hr:iN k X.A:=by exact iN.mono (by assumption) (by decide)):QE X K (.Call (.Name x p) (e :: es) [] pos) (aP sp t):=PE.imp (DG C hr ha hg rS he mN) λσ H Qv h=>xK h
end
abbrev WG:=D->Env->(Env->Prop)->Prop
def T2(K:aC)(g:WG):TG:=λv σ H Qv=>∃ Hs ρ ah d Q,dv K Hs ρ σ H ah/\Rep K Hs d v/\g d ρ Q/\∀ b9 bT cv,dv K Hs bT b9 H cv->(∀ a∈cv,a∈ah)->Q bT->Qv b9 H
abbrev QG(X:Cx)(K:aC)(e:Expr)(g:WG):Prop:=PG X e (T2 K g)
def gN(i:Nat):WG:=λd ρ Q=>Q (ρ.set i (some (.sh d)))
abbrev OO:=List D->Env->(Env->Prop)->Prop
def li'(K:aC)(g:OO):QN:=λvs σ H Qv=>∃ Hs ρ ah ds Q,dv K Hs ρ σ H ah/\bS K Hs ds vs/\g ds ρ Q/\∀ b9 bT cv,dv K Hs bT b9 H cv->(∀ a∈cv,a∈ah)->Q bT->Qv b9 H
abbrev V4(X:Cx)(K:aC)(es:List Expr)(g:OO):Prop:=EB X es (li' K g)
def qC:OO:=λds ρ Q=>ds=[]/\Q ρ
def cQ(g:WG)(gs:OO):OO:=λds ρ Q=>match ds with
 |d :: ds=>g d ρ λbT=>gs ds bT Q
 |[]=>False
def gT(n:Nat)(gs:OO):WG:=λd ρ Q=>match d with
 |.tup ds=>ds.length=n/\gs ds ρ Q
 |_=>False
section
variable {X:Cx}{K:aC}{e:Expr}{es:List Expr}{g:WG}{gs:OO}{pos:Pos}
def PG.imp(h:PG X e t)(i:∀ v σ H Q,t' v σ H Q->t v σ H Q):PG X e t':=λpins s σ H v u Q I r q=>h pins s σ H v u Q I r (i v σ H Q q)
def EB.imp(h:EB X es t)(i:∀ v σ H Q,t' v σ H Q->t v σ H Q):EB X es t':=λpins s σ H v u Q I r q=>h pins s σ H v u Q I r (i v σ H Q q)
def dv.Nf(i:Nat)(s:dv K Hs ρ σ H ah)(r:Rep K Hs d v):∃ cv,(∀ a∈cv,a∈ah)/\dv K Hs (ρ.set i (some (.sh d))) (σ.set i (some v)) H cv:=by obtain⟨t,a,b⟩:=s.V2 i (.sh r) mI λa h=>AJ h;exact⟨t,λx hx=>(a x hx).resolve_right vw,b⟩
def aA(i:Nat)(hf:lD X x:=by first|exact .inl rfl|exact .inr rfl|assumption)(hN:X.N.Nodup:=by assumption)(hi:autoParam (X.N[i]? = some x) bv)(hx:Loc X.env.scope x:=by first|exact .inl rfl|exact .inr rfl):QG X K (.Name x pos) (gN i) :=
 PG.imp (gw' hN hi hx hf) λv σ H Qv dc=>by obtain⟨Hs,ρ,ah,d,Q,sr,r,h,k⟩:=dc;obtain⟨t,m,s⟩:=sr.Nf i r;exact k _ _ t s m h
def lu:V4 X K [] qC:=EB.imp gz' λv σ H Qv dc=>by obtain⟨Hs,ρ,ah,ds,Q,sr,r,h,k⟩:=dc;obtain⟨rfl,h⟩:=h;cases r;exact⟨rfl,k σ ρ ah sr (λ_ z=>z) h⟩
def bC(h1:QG X K e g)(h2:V4 X K es gs)(hs:autoParam ((E7 (e :: es) X.env).map (·.2)=assign e X.env :: (E7 es X.env).map (·.2)) bv):V4 X K (e :: es) (cQ g gs) :=
 EB.imp (gA' h1 h2 hs) λv σ H Qv dc=>by
  obtain⟨Hs,ρ,ah,ds,Q,sr,r,h,k⟩:=dc
  cases r with
  |nil=>exact h.elim
  |cons r rs=>exact⟨_,_,rfl,Hs,ρ,ah,_,_,sr,r,h,λkU hZ fh kD m2 q2=>⟨Hs,hZ,fh,_,Q,kD,rs,q2,λrq RN lj' sr3 m3=>k rq RN lj' sr3 λa h=>m2 a (m3 a h)⟩⟩
def qR(h:V4 X K es gs)(hn:autoParam ((E7 es X.env).length=n) bv)(rh:autoParam ((E7 es X.env).findIdx? (·.1)=none) bv)(hc:autoParam (X.calm=true) bv):QG X K (.Tuple es k pos) (gT n gs) :=
 PG.imp (gC' hc h hn rh) λv σ H Qv dc=>by
  obtain⟨Hs,ρ,ah,d,Q,sr,r,h,k⟩:=dc
  cases r with
  |tup z e rs=>exact⟨_,_,rfl,.inl (.inl (sr.wf.sub _ _ e)),by rw[<- rs.length];exact h.1,Hs,ρ,ah,_,Q,sr,rs,h.2,k⟩
  |_=>exact h.elim
end
abbrev WI:=Env->(List D->Prop)->Prop
structure ji(K:aC)(J:It)(ds:List D)(C:Hp->Hp->Prop):Prop where
 go:∀ i Hs H,C Hs H->Wf Hs H->i<ds.length->J.go i H
 nE:∀ i Hs H x H' d,C Hs H->Wf Hs H->ds[i]? = some d->J.nE i H x H'->∃ ax,fk Hs H ax H'/\Rep K ax d x
 stop:∀ Hs H,C Hs H->Wf Hs H->J.stop ds.length H
abbrev zV(K:aC)(Hs:Hp)(J:It)(ds:List D):Prop:=ji K J ds λG _=>bt Hs G
def eU(xs:List D):List D:=xs.mapIdx λi x=>.tup [.int i,x]
section
variable {K:aC}{Hs:Hp}{J:It}{ds:List D}{C C':Hp->Hp->Prop}{a:ai}
def ji.imp(S:ji K J ds C)(h:∀ Hs H,C' Hs H->C Hs H):ji K J ds C':=⟨λi Hs H c=>S.go i Hs H (h _ _ c),λi Hs H x H' d c=>S.nE i Hs H x H' d (h _ _ c),λHs H c=>S.stop Hs H (h _ _ c)⟩
def ji.seq(rs:bS K Hs ds vs)(S:gh J vs λH=>bt Hs H):zV K Hs J ds where
 go:=λi G H s w h=>S.go i H (s.trans w.sub) (by rw[<- rs.length];exact h)
 nE:=λi G H x H' d s w h y=>by
  have hi:i<ds.length:=by
   rcases Nat.lt_or_ge i ds.length with q|q
   ·exact q
   ·rw[B6 q] at h;cases h
  obtain⟨e,z⟩:=S.nE i H x H' (s.trans w.sub) (by rw[<- rs.length];exact hi) y;subst e;obtain⟨d',ed,rd⟩:=rs.aF' z;rw[h] at ed;cases ed;exact⟨G,fk.refl w,rd.same s⟩
 stop:=λG H s w=>by rw[rs.length];exact S.stop H (s.trans w.sub)
abbrev zM(K:aC)(a:ai)(ds:List D)(C:Hp->Hp->Prop):Prop:=∀ Hs H,C Hs H->Wf Hs H->∃ vs,fe K H a vs/\bS K Hs ds vs
def ji.list(h:zM K a ds C):ji K (U6 K a) ds C where
 go:=λi G H c w hi=>by obtain⟨vs,q,rs⟩:=h G H c w;exact⟨vs,vs[i]'(by rw[<- rs.length];exact hi),q,by simp⟩
 nE:=λi G H x H' d c w hd y=>by obtain⟨vs,q,rs⟩:=h G H c w;obtain⟨rfl,y⟩:=y;obtain⟨d',ed,rd⟩:=rs.aF' (y vs q);rw[hd] at ed;cases ed;exact⟨G,fk.refl w,rd⟩
 stop:=λG H c w=>by obtain⟨vs,q,rs⟩:=h G H c w;exact⟨vs,q,by rw[rs.length];exact cK _⟩
def ji.enum(h:zM K a ds C):ji K (Ite K a) (eU ds) C where
 go:=λi G H c w hi=>by
  obtain⟨vs,q,rs⟩:=h G H c w;have hi:i<ds.length:=by simpa[eU] using hi
  exact⟨vs,vs[i]'(by rw[<- rs.length];exact hi),q,by simp⟩
 nE:=λi G H x H' d c w hd y=>by
  obtain⟨vs,q,rs⟩:=h G H c w;obtain⟨p,v,rfl,hp,rfl,y⟩:=y;obtain⟨d',ed,rd⟩:=rs.aF' (y vs q);have:d=.tup [.int i,d']:=by simp only[eU,Za,ed,SG] at hd;cases hd;rfl
  subst this;have g:=VQ (vs:=[.int i,v]) w hp;exact⟨_,g,.tup (vs:=[.int i,v]) Du d5 (.cons (.int _) (.cons (rd.same g.sh) .nil))⟩
 stop:=λG H c w=>by obtain⟨vs,q,rs⟩:=h G H c w;exact⟨vs,q,by rw[eU,Zc,rs.length];exact cK _⟩
def j9(s:fe K Hs a vs)(rs:bS K Hs ds vs):zM K a ds λG _=>bt Hs G:=λG H c w=>⟨vs,bt.seq (c.trans w.sub) s,rs.same c⟩
end
def tpI(K:aC)(wi:WI):TI:=λσ H R=>∃ Hs ρ ah Q,dv K Hs ρ σ H ah/\wi ρ Q/\∀ J H' ax ds,fk Hs H ax H'->zV K ax J ds->ds.length<=bG->Q ds->R J H'
abbrev QI(X:Cx)(K:aC)(tg iter:Expr)(wi:WI):Prop:=PI X tg iter (tpI K wi)
def q_:Md->Prop
 |.wb .. => False
 |.bo=>False
 |_=>True
def cH(te:WE):WI:=λρ Q=>te ρ λm d=>q_ m/\match d with
 |.list xs=>Q xs
 |_=>False
def aO'(z:Str):List D:=z.cps.toList.map λc=>.str ⟨#[c]⟩
def Bu(te:WE):WI:=λρ Q=>te ρ λ_ d=>match d with
 |.str z=>Q (aO' z)
 |_=>False
def iu(lo:Int)(n:Nat):List D:=(List.range n).map λi=>.int (lo+(i:Nat))
def dU(te:WE):WI:=λρ Q=>te ρ λ_ d=>match d with
 |.int j=>j<=16777216/\-(2 ^ 62)<=j/\Q (iu 0 j.toNat)
 |_=>False
section
variable {X:Cx}{K:aC}{e e2 tg:Expr}{te RP:WE}{pos p:Pos}
def PI.imp(h:PI X tg iter t)(i:∀ σ H R,t' σ H R->t σ H R):PI X tg iter t':=λpins s σ H R I q=>h pins s σ H R I (i σ H R q)
def gh.imp{J:It}(s:gh J vs c)(h:∀ H,c' H->c H):gh J vs c':=⟨λi H q=>s.go i H (h H q),λi H x H' q=>s.nE i H x H' (h H q),λH q=>s.stop H (h H q)⟩
def RM.yf(g:fk Hs H bq H1)(r:RM K bq H1 m d v As)(f:cB bq H As)(h:q_ m):∃ bE,fk Hs H bE H1/\Rep K bE d v:=by
 have n:∀ a∈As,bq a=none:=λa ha=>(f.2 a ha).1;have pub:Rep K (EK bq H1 As) d v->∃ bE,fk Hs H bE H1/\Rep K bE d v:=λz=>by
  refine⟨EK bq H1 As,⟨g.all,g.sh.trans (gH n),DQ g.wf r.own,λa h=>?_⟩,z⟩;unfold EK at h;by_cases m:a∈As
  ·exact .inr (f.2 a m).2
  ·rw[if_neg m] at h;exact g.new a h
 cases m with
 |sh=>exact⟨bq,g,r.2⟩
 |bo=>exact h.elim
 |wb=>exact h.elim
 |ow fl=>exact pub (cc.rep (gH n) r.1 λa ha=>by unfold EK;rw[if_pos ha])
def cC(he:QE X K e te)(hK:autoParam (X.K=K) bv):QI X K tg e (cH te):=by
 subst hK;refine PI.imp (ck' he) λσ H R hx=>i9 hx λHs ρ ah Q sr h k=>⟨Hs,ρ,ah,_,sr,h,λv H1 bq m d As g1 r1 f1 q1=>?_⟩
 obtain⟨nb,q1⟩:=q1;obtain⟨bE,g2,r2⟩:=r1.yf g1 f1 nb
 cases r2 with
 |list z s rs=>exact⟨_,rfl,⟨_,bt.seq g2.wf.sub s⟩,k _ H1 bE _ g2 (.seq rs (gh.imp (CQ X.K _ _) λH' s'=>bt.seq s' s)) (by rw[rs.length];exact z) q1⟩
 |_=>exact q1.elim
theorem uN:∀ (l:List Nat),bS K H (l.map λc=>.str ⟨#[c]⟩) (l.map λc=>V.str ⟨#[c]⟩)
 |[]=>.nil
 |c :: l=>.cons (.str (wZ c)) (uN l)
def KZ(he:QE X K e te):QI X K tg e (Bu te):=by
 refine PI.imp (Ke he) λσ H R hx=>i9 hx λHs ρ ah Q sr h k=>⟨Hs,ρ,ah,_,sr,h,λv H1 bq m d As g1 r1 f1 q1=>?_⟩
 have r:=r1.rep g1.wf
 cases r with
 |str hz=>exact⟨_,rfl,k _ H1 bq _ g1 (.seq (uN _) (gh.imp (Ge _) λ_ _=>trivial)) (by rw[b4,y9];exact hz) q1⟩
 |_=>exact q1.elim
theorem qw(lo:Int):∀ (l:List Nat),bS K H (l.map λi=>.int (lo+(i:Nat))) (l.map λi=>V.int (lo+(i:Nat)))
 |[]=>.nil
 |c :: l=>.cons (.int _) (qw lo l)
def dH (hm:X.mg "range" = none) (he:QE X K e te) (hg:Gl X "range" := by rfl) (hs:autoParam (aQ X e []) bv) (gS:autoParam (g7 [e] X.env=[(false,dE e X.env)]) bv):QI X K tg (.Call (.Name "range" p) [e] [] pos) (dU te):=by
 refine PI.imp (gN' hg hm (nI he t5 hs) gS) λσ H R hx=>i9 hx λHs ρ ah Q sr h k=>⟨Hs,ρ,ah,_,sr,h,λv H1 bq m d As g1 r1 f1 q1=>?_⟩
 have r:=r1.rep g1.wf
 cases r with
 |int j =>obtain⟨h1,h2,q1⟩:=q1;exact⟨j,rfl,h2,by lia,k _ H1 bq _ g1 (.seq (qw 0 _) (gh.imp (Ip _ _) λ_ _=>trivial)) (by rw[b4,Sr,mB];lia) q1⟩
 |_=>exact q1.elim
section
variable {X:Cx}{K:aC}{e tg:Expr}{te:WE}{pos p:Pos}
def tV(te:WE):WI:=λρ Q=>te ρ λm d=>q_ m/\match d with
 |.list xs=>Q (eU xs)
 |_=>False
def Ig (hm:X.mg "enumerate" = none) (he:QE X K e te) (hK:autoParam (X.K=K) bv) (hg:Gl X "enumerate" := by rfl) (hs:autoParam (aQ X e []) bv) (gS:autoParam (g7 [e] X.env=[(false,dE e X.env)]) bv) :
  QI X K (.Tuple elts kk tp) (.Call (.Name "enumerate" p) [e] [] pos) (tV te):=by
 subst hK;refine PI.imp (yG hg hm (nI he t5 hs) gS) λσ H R hx=>i9 hx λHs ρ ah Q sr h k=>⟨Hs,ρ,ah,_,sr,h,λv H1 bq m d As g1 r1 f1 q1=>?_⟩
 obtain⟨nb,q1⟩:=q1;obtain⟨bE,g2,r2⟩:=r1.yf g1 f1 nb
 cases r2 with
 |list z s rs=>exact⟨_,rfl,⟨_,bt.seq g2.wf.sub s⟩,k _ H1 bE _ g2 (.enum (j9 s rs)) (by rw[eU,Zc,rs.length];exact z) q1⟩
 |_=>exact q1.elim
def ew'(K:aC)(wi:WI):TI:=λσ H R=>∃ Hs ρ ah Q,dv K Hs ρ σ H ah/\wi ρ Q/\∀ J H' ax ds,fk Hs H ax H'->zV K H' J ds->ds.length<=bG->Q ds->R J H'
abbrev OQ(X:Cx)(K:aC)(tg iter:Expr)(wi:WI):Prop:=PI X tg iter (ew' K wi)
def mO(h:QI X K tg iter wi):OQ X K tg iter wi:=PI.imp h λσ H R hx=>i9 hx λHs ρ ah Q sr h k=>⟨Hs,ρ,ah,Q,sr,h,λJ H' ax ds g w z q=>k J H' ax ds g (w.imp λG H s=>g.wf.sub.trans s) z q⟩
def mY(te:WE):WI:=λρ Q=>te ρ λ_ d=>match d with
 |.list xs=>Q xs
 |_=>False
def lR(te:WE):WI:=λρ Q=>te ρ λ_ d=>match d with
 |.tup xs=>Q xs
 |_=>False
def tO(te:WE):WI:=λρ Q=>te ρ λ_ d=>match d with
 |.list xs=>Q (eU xs)
 |_=>False
def qY(he:QE X K e te)(hK:autoParam (X.K=K) bv):OQ X K tg e (mY te):=by
 subst hK;refine PI.imp (ck' he) λσ H R hx=>i9 hx λHs ρ ah Q sr h k=>⟨Hs,ρ,ah,_,sr,h,λv H1 bq m d As g1 r1 f1 q1=>?_⟩
 have r:=r1.rep g1.wf
 cases r with
 |list z s rs=>exact⟨_,rfl,⟨_,s⟩,k _ H1 bq _ g1 (.list (j9 s rs)) (by rw[rs.length];exact z) q1⟩
 |_=>exact q1.elim
def lB(he:QE X K e te)(hK:autoParam (X.K=K) bv):OQ X K tg e (lR te):=by
 refine PI.imp (gK' he) λσ H R hx=>i9 hx λHs ρ ah Q sr h k=>⟨Hs,ρ,ah,_,sr,h,λv H1 bq m d As g1 r1 f1 q1=>?_⟩
 have r:=r1.rep g1.wf
 cases r with
 |tup z s rs=>exact⟨_,rfl,⟨_,.inl (.inl s)⟩,k _ H1 bq _ g1 (.seq rs (gh.imp (Ht X.K _ _) λH' s'=>.inl (.inl (s' _ _ s)))) (by rw[rs.length];exact z) q1⟩
 |_=>exact q1.elim
def Ib (hm:X.mg "enumerate" = none) (he:QE X K e te) (hK:autoParam (X.K=K) bv) (hg:Gl X "enumerate" := by rfl) (hs:autoParam (aQ X e []) bv) (gS:autoParam (g7 [e] X.env=[(false,dE e X.env)]) bv) :
  OQ X K (.Tuple elts kk tp) (.Call (.Name "enumerate" p) [e] [] pos) (tO te):=by
 subst hK;refine PI.imp (yG hg hm (nI he t5 hs) gS) λσ H R hx=>i9 hx λHs ρ ah Q sr h k=>⟨Hs,ρ,ah,_,sr,h,λv H1 bq m d As g1 r1 f1 q1=>?_⟩
 have r:=r1.rep g1.wf
 cases r with
 |list z s rs=>exact⟨_,rfl,⟨_,s⟩,k _ H1 bq _ g1 (.enum (j9 s rs)) (by rw[eU,Zc,rs.length];exact z) q1⟩
 |_=>exact q1.elim
end
def gW(g:WG)(b:WS)(E:jG):List D->Env->Prop
 |[],ρ=>E.nx ρ
 |x :: xs,ρ=>g x ρ λw9=>b { E with nx:=gW g b E xs,ct:=gW g b E xs,bk:=E.nx } w9
def qh(wi:WI)(g:WG)(b:WS):WS:=λE ρ=>wi ρ λds=>gW g b E ds ρ
variable {wi:WI}{g:WG}{b:WS}{body:List h8}
def bQ(hi:QI X K tg iter wi)(hg:QG X K tg g)(hb:x8 X K L body b)(hs:∀ x,BU iter X.env x=pure x:=by intro _;rfl)(hp:PassesOwn (aE X.prog X.w) X.A X.env X.xe:=by first|exact PassesOwn.never|exact PassesOwn.leaving)(hc:autoParam (X.calm=true) bv) :
  QS X K L (.For tg iter body [] pos) (qh wi g b):=by
 refine PS.imp (cl' hp hc hi hg hb hs) λD σ H hx=>jT hx λHs ρ ah E sr h k1 k2 k3 k4 kx=>?_;refine⟨Hs,ρ,ah,_,sr,h,λJ H1 bq ds g1 S hz q1=>?_⟩;refine⟨λi m σ H=>m=ds.length-i/\i<=ds.length/\∃ ax bT cv,bt bq ax/\dv K ax bT σ H cv/\gW g b E (ds.drop i) bT,⟨ds.length,by simp,f7 _,bq,ρ,ah,bt.refl _,sr.grow g1,by simpa using q1⟩,?_⟩;rintro i m kU H2 ⟨rfl,hi,bE,hZ,fh,s2,kD,q2⟩;by_cases eK:i<ds.length
 ·refine .inr ⟨S.go i bE H2 s2 kD.wf eK,λrq H3=>∃ ax bT cv,bt bq ax/\dv K ax bT rq H3 cv/\gW g b E (ds.drop (i+1)) bT,λrq H3 h3=>⟨ds.length-(i+1),by lia,rfl,eK,h3⟩,λx H3 y=>?_⟩;obtain⟨e7,g3,rd⟩:=S.nE i bE H2 x H3 ds[i] s2 kD.wf (by simp[eK]) y;rw[LW eK] at q2;have s3:=s2.trans g3.sh;refine⟨e7,hZ,fh,ds[i],_,kD.grow g3,rd,q2,λσ4 yk T3 RQ _ q4=>?_⟩;refine⟨e7,yk,T3,_,RQ,q4,?_,?_,?_,?_,λn H5 s5=>kx n H5 ((g1.sh.trans s3).trans s5)⟩
  ·exact λDE H5 lS ub ui s5 uj q5=>⟨lS,ub,ui,s3.trans s5,uj,q5⟩
  ·exact λDE H5 lS ub ui s5 uj q5=>k1 DE H5 lS ub ui ((g1.sh.trans s3).trans s5) uj q5
  ·exact λDE H5 lS ub ui s5 uj q5=>⟨lS,ub,ui,s3.trans s5,uj,q5⟩
  ·exact λv H5 lS m d As s5=>k4 v H5 lS m d As ((g1.sh.trans s3).trans s5)
 ·have e:i=ds.length:=by lia
  subst e;refine .inl ⟨S.stop bE H2 s2 kD.wf,?_⟩;rw[UD] at q2;exact k1 kU H2 bE hZ fh (g1.sh.trans s2) kD q2
def aW(xs:List D)(Pv:Nat->Env->Prop)(h0:Pv 0 ρ)(hs:∀ i x ρ,xs[i]? = some x->Pv i ρ->∀ N:Env->Prop,(∀ bT,Pv (i+1) bT->N bT)->g x ρ λw9=>b { E with nx:=N,ct:=N,bk:=E.nx } w9) (hd:∀ ρ,Pv xs.length ρ->E.nx ρ):gW g b E xs ρ:=by
 have go:∀ k i ρ,i+k=xs.length->Pv i ρ->gW g b E (xs.drop i) ρ:=by
  intro k
  induction k with
  |zero =>
   intro i ρ e p;have:i=xs.length:=by lia
   subst this;rw[UD];exact hd ρ p
  |succ k ih =>
   intro i ρ e p;have hi:i<xs.length:=by lia
   rw[LW hi];exact hs i xs[i] ρ (by simp[hi]) p _ λhZ h2=>ih (i+1) hZ (by lia) h2
 have:=go xs.length 0 ρ (by lia) h0;simpa using this
def Dn(c:WT)(b:WS):WS:=λE ρ=>∃ (Pv:Env->Prop) (μ:Env->Nat),Pv ρ/\∀ ρ,Pv ρ->c ρ λk=>if k=true then b { E with nx:=λbT=>Pv bT/\μ bT<μ ρ,ct:=λbT=>Pv bT/\μ bT<μ ρ,bk:=E.nx } ρ else E.nx ρ
def Az(hc:QT X K c tc)(hb:x8 X K L body b)(hp:PassesOwn (aE X.prog X.w) X.A X.env X.xe:=by first|exact PassesOwn.never|exact PassesOwn.leaving):QS X K L (.While c body [] pos) (Dn tc b):=by
 refine PS.imp (gE' hp hc hb) λD σ H hx=>jT hx λHs ρ ah E sr h k1 k2 k3 k4 kx=>?_;obtain⟨Pv,μ,p0,turn⟩:=h;refine⟨λm σ H=>∃ ax bT cv,bt Hs ax/\dv K ax bT σ H cv/\Pv bT/\μ bT=m,⟨_,Hs,ρ,ah,bt.refl _,sr,p0,rfl⟩,?_⟩;rintro m kU H2 ⟨bE,hZ,fh,s2,kD,p2,rfl⟩;refine⟨bE,hZ,fh,_,kD,turn hZ p2,λk H3 e7 g3 q3=>?_⟩
 cases k with
 |false=>exact k1 kU H3 e7 hZ fh (s2.trans g3.sh) (kD.grow g3) q3
 |true =>
  refine⟨λb9 H'=>∃ ax bT cv,bt Hs ax/\dv K ax bT b9 H' cv/\Pv bT/\μ bT<μ hZ,λb9 H' ⟨ax,bT,cv,a,b,c,d⟩=>⟨μ bT,d,ax,bT,cv,a,b,c,rfl⟩,?_⟩;have s3:bt Hs e7:=s2.trans g3.sh;refine⟨e7,hZ,fh,_,kD.grow g3,q3,?_,?_,?_,?_,λn H5 s5=>kx n H5 (s3.trans s5)⟩
  ·exact λDE H5 lS ub ui s5 uj q5=>⟨lS,ub,ui,s3.trans s5,uj,q5.1,q5.2⟩
  ·exact λDE H5 lS ub ui s5 uj q5=>k1 DE H5 lS ub ui (s3.trans s5) uj q5
  ·exact λDE H5 lS ub ui s5 uj q5=>⟨lS,ub,ui,s3.trans s5,uj,q5.1,q5.2⟩
  ·exact λv H5 lS m d As s5=>k4 v H5 lS m d As (s3.trans s5)
end
def uk:WT:=λ_ Q=>Q true
def aP'(m:Md)(d:D):Prop:=d.flat=true\/m=.ow true
def iJ(g:WG)(tc:WT)(te:WE):List D->Env->(List D->Prop)->Prop
 |[],_,k=>k []
 |x :: xs,ρ,k=>g x ρ λw9=>tc w9 λb=>if b=true then te w9 λm d=>aP' m d/\iJ g tc te xs w9 (λout=>k (d :: out)) else iJ g tc te xs w9 k
def Hw(tn:Nat)(ix:List Nat)(ρ:Env):Env:=List.replicate tn none++ix.map λj=>(ρ[j]?).join.map V3
def cL(wi:WI)(g:WG)(tc:WT)(te:WE)(tn:Nat)(ix:List Nat):WE:=λρ Q=>wi ρ λds=>iJ g tc te ds (Hw tn ix ρ) λout=>Q (.ow true) (.list out)
section
variable {X:Cx}{K:aC}
theorem mR{Hs H G:Hp}(sr:dv K Hs ρ σ H ah)(G':Hp):∀ (ix:List Nat),SR K H G' (ix.map λj=>(ρ[j]?).join.map V3) (ix.map λj=>(σ[j]?).join) []
 |[]=>.nil
 |j :: ix=>by
  have ih:=mR sr G' ix (G:=G);simp only[gL]
  cases e:ρ[j]? with
  |none=>exact .non ih
  |some o =>
   cases o with
   |none=>exact .non ih
   |some sl =>
    obtain⟨v,e1,r⟩:=sr.sr.get e;rw[e1]
    cases sl with
    |sh d=>exact .sh (Rep.same sr.wf.sub r) ih
    |xc a=>subst r;exact .xc ih
    |ob a p=>obtain⟨r,_⟩:=r;subst r;exact .xc ih
    |ow fl d =>obtain⟨As,_,r,_⟩:=r;exact .sh (r.rep sr.wf.sub λ_ _=>rfl) ih
theorem qx(s:SR K H G ρ σ []):∀ n,SR K H G (List.replicate n none++ρ) (List.replicate n none++σ) []
 |0=>s
 |n+1=>.non (qx s n)
def SR.heap(s:SR K Hs H ρ σ []):SR K Hs H' ρ σ []:=s.hX (bt.refl _) λa h=>nomatch h
def uB(w:Wf Hs H)(n:Hs p=none)(ho:∀ vs,o≠.tup vs):Wf Hs (upd H p o):=⟨λb u q=>by
  rw[b6 (λz=>by subst z;rw[n] at q;cases q)];exact w.sub b u q,λb us q=>by
  by_cases hb:b=p
  ·subst hb;rw[d5] at q;exact absurd (Option.some.inj q) (ho us)
  ·rw[b6 hb] at q;exact w.kB b us q⟩
structure CompI(K:aC)(H1:Hp)(b:ai)(acc:List D)(ys:List V)(As:List ai)(Hs:Hp)(ρ:Env)(τ:St)(H:Hp):Prop where
 sm:bt H1 Hs
 sr:dv K Hs ρ τ H []
 eD:H b=some (.lst ys)
 nD:Hs b=none
 ra:az K Hs H true acc ys As
 nd:(b :: As).Nodup
 own:∀ a∈As,Hs a=none
def CompI.grow(c:CompI K H1 b acc ys As Hs ρ τ H)(g:fk Hs H ax H'):CompI K H1 b acc ys As ax ρ τ H' :=
 ⟨c.sm.trans g.sh,c.sr.grow g,g.all _ _ c.eD,g.ox c.nD (by rw[c.eD];exact λz=>nomatch z),c.ra.grow g.sh g.all,c.nd,λa ha=>g.ox (c.own a ha) (c.ra.own a ha).ne⟩
def CompI.push(c:CompI K H1 b acc ys As Hs ρ τ H)(r:RM K Hs H m d v Bs)(ok:aP' m d)(nb:Bs.Nodup)(fb:∀ a∈Bs,Hs a=none/\a∉b :: As):∃ iE,CompI K H1 b (acc++[d]) (ys++[v]) iE Hs ρ τ (upd H b (.lst (ys++[v]))):=by
 obtain⟨B,sb,rb⟩:∃ B,B.Sublist Bs/\cc K Hs H true d v B:=by
  rcases ok with hf|rfl
  ·exact⟨[],P7 _,.sh (λ_=>hf) (r.flat c.sr.wf hf)⟩
  ·exact⟨Bs,List.Sublist.refl _,r.1⟩
 obtain⟨na,nA⟩:=ny.mp c.nd;have V5:=λa ha=>fb a (sb.subset ha);refine⟨As++(B++[]),c.sm,⟨c.sr.sr.heap,uB c.sr.wf c.nD (λ_ z=>nomatch z),mI,λa h=>nomatch h⟩,d5,c.nD,(c.ra.hX (bt.refl _) λa ha=>b6 λz=>na (by subst z;exact ha)).append (.cons (rb.hX (bt.refl _) λa ha=>b6 λz=>(V5 a ha).2 (by subst z;exact eh)) .nil),?_,?_⟩
 ·rw[tJ];refine ny.mpr ⟨λm=>(hJ.mp m).elim na λm=>(V5 b m).2 eh,pj.mpr ⟨nA,sb.nodup nb,λx hx y hy e=>(V5 y hy).2 (e ▸ eI _ hx)⟩⟩
 ·rw[tJ];exact λa ha=>(hJ.mp ha).elim (c.own a) λm=>(V5 a m).1
def jO(h:oB K (cL wi g tc te tn ix) σ H Qv):wu (ew' K wi) (T2 K g) (GW K tc) (oB K te) tn ix σ H Qv:=by
 obtain⟨Hs,ρ,ah,Q,sr,h,f⟩:=h;refine⟨Hs,ρ,ah,_,sr,h,λJ H1 bq ds g1 S hz q1 b hb=>?_⟩;have st:CompI K H1 b [] [] [] H1 (Hw tn ix ρ) (qK tn ix σ) (upd H1 b (.lst [])):=by
  refine⟨bt.refl _,⟨qx (mR (G:=H1) (sr.grow g1) _ ix) tn,⟨(bt.refl H1).upd hb,λa xs e=>?_⟩,mI,λa h=>nomatch h⟩,d5,hb,.nil,by simp,λa h=>nomatch h⟩;by_cases ha:a=b
  ·subst ha;rw[d5] at e;cases e
  ·rw[b6 ha] at e;exact e
 refine⟨λi m τ H2=>m=ds.length-i/\i<=ds.length/\∃ bE hZ acc ys As,CompI K H1 b acc ys As bE hZ τ H2/\acc.length<=i/\iJ g tc te (ds.drop i) hZ (λout=>Q (.ow true) (.list (acc++out))), ⟨ds.length,by simp,f7 _,H1,_,[],[],[],st,cK _,by simpa using q1⟩,?_⟩
 rintro i m τ H2 ⟨rfl,hi,bE,hZ,acc,ys,As,c,la,q2⟩;by_cases eK:i<ds.length
 ·refine .inr ⟨S.go i bE H2 c.sm c.sr.wf eK,
   λRT v H4=>∃ RG yk d,CompI K H1 b acc ys As RG yk RT H4/\(∃ iE,CompI K H1 b (acc++[d]) (ys++[v]) iE RG yk RT (upd H4 b (.lst (ys++[v]))))/\iJ g tc te (ds.drop (i+1)) yk (λout=>Q (.ow true) (.list (acc++d :: out))),
   λRT H3=>∃ e7 RN,CompI K H1 b acc ys As e7 RN RT H3/\iJ g tc te (ds.drop (i+1)) RN (λout=>Q (.ow true) (.list (acc++out))),?_,?_,?_⟩
  ·rintro RT v H4 ⟨RG,yk,d,c4,⟨iE,c5⟩,q4⟩;have lya:=c4.ra.length;exact⟨ys,ds.length-(i+1),c4.eD,by lia,by lia,rfl,eK,RG,yk,acc++[d],ys++[v],iE,c5,by rw[mG];simpa using la,by simpa using q4⟩
  ·rintro RT H3 ⟨e7,RN,c3,q3⟩;exact⟨ds.length-(i+1),by lia,rfl,eK,e7,RN,acc,ys,As,c3,by lia,q3⟩
  ·intro x H3 y;obtain⟨e7,g3,rd⟩:=S.nE i bE H2 x H3 ds[i] c.sm c.sr.wf (by simp[eK]) y;rw[LW eK] at q2;have c3:=c.grow g3;refine⟨e7,hZ,[],ds[i],_,c3.sr,rd,q2,λτ4 yk T3 RQ m4 q4=>?_⟩;have t4:T3=[]:=List.eq_nil_iff_forall_not_mem.mpr λa ha=>nomatch m4 a ha;subst t4;have c4:CompI K H1 b acc ys As e7 yk τ4 H3:=⟨c3.sm,RQ,c3.eD,c3.nD,c3.ra,c3.nd,c3.own⟩
   refine⟨e7,yk,[],_,RQ,q4,λk H5 lS g5 q5=>?_⟩;have c5:=c4.grow g5
   cases k with
   |false=>exact⟨lS,yk,c5,q5⟩
   |true =>
    refine⟨lS,yk,[],_,c5.sr,q5,λv H6 Hs6 m6 d6 As6 g6 r6 f6 q6=>?_⟩;have c6:=c5.grow g6;refine⟨Hs6,yk,d6,c6,c6.push r6 q6.1 f6.1 λa ha=>⟨(f6.2 a ha).1,λm=>?_⟩,q6.2⟩;rcases eu.mp m with rfl|m
    ·have:=(f6.2 _ ha).2;rw[c5.eD] at this;cases this
    ·exact(c5.ra.own a m).ne (f6.2 a ha).2
 ·have e:i=ds.length:=by lia
  subst e;refine .inl ⟨S.stop bE H2 c.sm c.sr.wf,?_⟩;rw[UD] at q2;have q2:Q (.ow true) (.list (acc++[])):=q2;rw[tJ] at q2;have lya:=c.ra.length;have rm:RM K bE H2 (.ow true) (.list acc) (.ref b) (b :: As):=⟨.list (by lia) c.eD c.ra,by simp⟩
  obtain⟨iE,r',fr⟩:=rR g1.wf c.sm c.sr.wf rm c.nd λa ha=>(eu.mp ha).elim (λz=>z ▸ c.nD) (c.own a);exact Fin.after f g1 (.ref b) H2 _ (.ow true) (.list acc) iE (gm g1.wf c.sm c.sr.wf) r' fr q2
def A9.imp(h:A9 X ifs t)(i:∀ σ H Q,t' σ H Q->t σ H Q):A9 X ifs t':=λpins s σ H Q I q=>h pins s σ H Q I (i σ H Q q)
abbrev T4(X:Cx)(K:aC)(ifs:List Expr)(t:WT):Prop:=A9 X ifs (GW K t)
def bJ:T4 X K [] uk:=A9.imp Fv λσ H Qv hx=>i9 hx λHs ρ ah Q sr h k=>k true H Hs (fk.refl sr.wf) h
def yj(h:QT X K c t):T4 X K [c] t:=E_ h
def eE(hi:OQ X K tg iter wi)(hg:∀ {C fp dA eJ} {q:(tn++cn).Nodup},QG (b_ X scope C (tn++cn) fp dA eJ) K tg g) (sL:∀ {C fp dA eJ},T4 (b_ X scope C (tn++cn) fp dA eJ) K ifs tc) (he:∀ {C fp dA eJ},QE (b_ X scope C (tn++cn) fp dA eJ) K elt te)(hs:∀ x,BU iter X.env x=pure x:=by intro _;rfl) (nd:(tn++cn).Nodup:=by decide +kernel) (O:bN X scope tn cn ix:=by exact bN.by (by assumption) (by decide +kernel)) (hc:autoParam (X.calm=true) bv):QE X K (.ListComp elt [⟨tg,iter,ifs,0⟩] scope pos) (cL wi g tc te tn.length ix) :=
 PE.imp (FQ hc hi O (λ_ _ _ _=>hg (q:=nd)) (λ_ _ _ _=>sL) (λ_ _ _ _=>he) hs) λσ H Qv h=>jO h
end
def aN(p:D->Bool)(f:D->D)(Iv:Env->Prop):∀ xs ρ k,Iv ρ -> (∀ x∈xs,∀ ρ,Iv ρ->∀ N1:Env->Prop,∀ N2:Env->D->Prop,(∀ bT,Iv bT->p x=false->N1 bT)->(∀ bT,Iv bT->p x=true->N2 bT (f x))->g x ρ λw9=>tc w9 λb=>if b=true then te w9 λm d=>aP' m d/\N2 w9 d else N1 w9) ->
  k ((xs.filter p).map f)->iJ g tc te xs ρ k
 |[],_,k,_,_,h=>h
 |x :: xs,ρ,k,iv,hs,h=>by
  refine hs x eh ρ iv _ _ (λbT iv' hp=>?_) (λbT iv' hp=>?_)
  ·exact aN p f Iv xs bT k iv' (λy hy=>hs y (eI _ hy)) (by simpa[hp] using h)
  ·exact aN p f Iv xs bT _ iv' (λy hy=>hs y (eI _ hy)) (by simpa[hp] using h)
def Upd(K:aC)(Hs H:Hp)(σ:St)(fl:Bool)(v:V)(up:Bool->D->Env)(iE:List ai):Prop:=∀ bE H2 eR d2 k6,bt Hs bE->Wf bE H2->(∀ a,Hs a=none->H a≠none->bE a=none)->(eR=true->fl=true) ->
  cc K bE H2 eR d2 v k6->k6≠[]->k6.Nodup->(∀ a∈k6,bE a=none/\(a∈iE\/H a=none))->(∀ a,H a≠none->a∉iE->H2 a=H a)->∃ fh,dv K bE (up eR d2) σ H2 fh
structure Place(K:aC)(Hs H:Hp)(σ:St)(fl:Bool)(d:D)(v:V)(up:Bool->D->Env):Prop where
 ex:∃ iE,cc K Hs H fl d v iE/\iE≠[]/\iE.Nodup/\(∀ a∈iE,Hs a=none)/\Upd K Hs H σ fl v up iE
def Upd.node{K:aC}(k:Upd K Hs H σ fl (.ref a) up (a :: A))(g:fk Hs H bE H2)(own:∀ x∈a :: A,Hs x=none/\H x≠none)(ho:∀ vs,o≠.tup vs)(hf:eR=true->fl=true)(r:cc K bE (upd H2 a o) eR d2 (.ref a) (a :: C)) (nC:C.Nodup) (V6:a∉C) (hC:∀ x∈C,x∈A\/(bE x=none/\H x=none)):∃ fh,dv K bE (up eR d2) σ (upd H2 a o) fh:=by
 have hn:∀ x∈a :: A,bE x=none:=λx hx=>g.ox (own x hx).1 (own x hx).2;refine k bE _ eR d2 (a :: C) g.sh (uB g.wf (hn a eh) ho) (λb h1 h2=>g.ox h1 h2) hf r (Sv _ _) (ny.mpr ⟨V6,nC⟩) (λb hb=>?_) λb h1 h2=>?_
 ·rcases eu.mp hb with rfl|hb
  ·exact⟨hn _ eh,.inl eh⟩
  ·exact(hC b hb).elim (λq=>⟨hn b (eI _ q),.inl (eI _ q)⟩) λq=>⟨q.1,.inr q.2⟩
 ·rw[b6 λz=>h2 (by subst z;exact eh)]
  cases q:H b with
  |none=>exact absurd q h1
  |some o=>exact g.all b o q
abbrev WP:=Env->(Bool->D->(Bool->D->Env)->Prop)->Prop
def tpP(K:aC)(t:WP):TE:=λσ H Qv=>∃ Hs ρ ah Q,dv K Hs ρ σ H ah/\t ρ Q/\∀ v H' ax fl d up,fk Hs H ax H'->Place K ax H' σ fl d v up->Q fl d up->Qv v H'
abbrev QP(X:Cx)(K:aC)(e:Expr)(t:WP):Prop:=PE X e (tpP K t)
section
variable {K:aC}{Hs H ax H':Hp}{σ:St}{fl:Bool}{d:D}{v:V}{up:Bool->D->Env}
def Place.grow(p:Place K Hs H σ fl d v up)(g:fk Hs H ax H'):Place K ax H' σ fl d v up:=by
 obtain⟨iE,r,ne,nd,own,k⟩:=p.ex;refine⟨iE,r.grow g.sh g.all,ne,nd,λa h=>g.ox (own a h) (r.own a h).ne,λbE H2 eR d2 k6 s2 w2 n2 hf r2 ne2 yn o2 st=>?_⟩;refine k bE H2 eR d2 k6 (g.sh.trans s2) w2 (λa h1 h2=>n2 a (g.ox h1 h2) ?_) hf r2 ne2 yn (λa h=>⟨(o2 a h).1,(o2 a h).2.imp id g.all.free⟩) λa h1 h2=>?_
 ·cases e:H a with
  |none=>exact absurd e h2
  |some o=>rw[g.all a o e];exact λz=>nomatch z
 ·cases e:H a with
  |none=>exact absurd e h1
  |some o =>have:=g.all a o e;rw[<- this];exact st a (by rw[this];exact λz=>nomatch z) h2
def cc.ne2:(∀ {d} {v} {As},cc K Hs H true d v As->d.flat=false->As≠[])/\∀ {ds} {vs} {As},az K Hs H true ds vs As->dQ ds=false->As≠[] :=
 cc.ind (λ_ _ f _ h=>by rw[f rfl] at h;cases h) (λ_ _ _ _ _ _ _ _ _=>Sv _ _) (λ_ _ _ _ _ _ n _ ih _=>ih n) (λ_ _ _ _ _ _ _ _ _=>Sv _ _) (λ_ _ _ _ _ _ _ _ _=>Sv _ _) (λh=>by simp[dQ] at h) λd _ _ _ _ _ _ _ i1 i2 h=>by
   cases e:d.flat with
   |false=>exact λz=>i1 e (Se.mp z).1
   |true =>simp only[dQ,e,Bool.true_and] at h;exact λz=>i2 h (Se.mp z).2
def cc.ne(r:cc K Hs H true d v As)(h:d.flat=false):As≠[]:=cc.ne2.1 r h
def cc.nil_of(r:cc K Hs H fl d v As)(h:d.flat=true):As=[]:=by
 cases r with
 |sh _ _=>rfl
 |tup _ _ n _=>simp[D.flat,n] at h
 |_=>simp[D.flat] at h
def qk(i:Nat):WP:=λρ Q=>match ρ[i]? with
 |some (some (.ow fl d))=>Q fl d λeR d2=>ρ.set i (some (.ow eR d2))
 |_=>False
def SR.put(i:Nat)(s:SR K Hs H ρ σ ah)(e:ρ[i]? = some (some (.ow fl d)))(n:ah.Nodup) :
  ∃ v As,σ[i]? = some (some v)/\As≠[]/\cc K Hs H fl d v As/\As.Sublist ah/\∀ bE H2 eR d2 k6,bt Hs bE->cc K bE H2 eR d2 v k6->k6≠[]->k6.Nodup->(∀ a∈k6,a∈ah->a∈As)->(∀ a∈ah,a∉As->H2 a=H a) ->
   ∃ fh,fh.Nodup/\(∀ a∈fh,a∈ah\/a∈k6)/\SR K bE H2 (ρ.set i (some (.ow eR d2))) σ fh:=by
 obtain⟨As,sb,f,g⟩:=s.chg i n;obtain⟨_,e1,h⟩:=f _ e
 cases h with
 |ow ne r =>refine⟨_,As,e1,ne,r,sb,λbE H2 eR d2 k6 s2 r2 ne2 yn dj st=>?_⟩;obtain⟨t,a,b,_,_,c⟩:=g s2 st (.ow ne2 r2) yn dj;rw[qt e1] at c;exact⟨t,a,λx hx=>(b x hx).symm.imp And.left id,c⟩
def bh{X:Cx}(h:PE X e (kg i)):QP X K e (qk i):=PE.imp h λσ H Qv hx=>i9 hx λHs ρ ah Q sr h f=>by
 unfold qk at h;split at h
 ·rename_i fl d e1;obtain⟨v,As,e2,ne,r,sb,g⟩:=SR.put i sr.sr e1 sr.oz;refine⟨v,e2,f v H Hs fl d _ (fk.refl sr.wf) ⟨As,r,ne,sb.nodup sr.oz,λa h=>sr.own a (sb.subset h),λbE H2 eR d2 k6 s2 w2 n2 _ r2 ne2 yn o2 st=>?_⟩ h⟩;obtain⟨t2,x,y,z⟩:=g bE H2 eR d2 k6 s2 r2 ne2 yn (λa ha m=>(o2 a ha).2.elim id λq=>absurd q (sr.sr.own a m).ne) λa ha m=>st a (sr.sr.own a ha).ne m;exact⟨t2,z,w2,x,λa h=>(y a h).elim (λq=>n2 a (sr.own a q) (sr.sr.own a q).ne) λq=>(o2 a q).1⟩
 ·exact h.elim
def cc.wk(h:eR=true->fl=true)(r:cc K Hs H fl d v As):cc K Hs H eR d v As:=by
 cases eR with
 |false=>exact r.VP
 |true=>rw[h rfl] at r;exact r
def az.wk{fl eR:Bool}{d:List D}{v:List V}{As:List ai}(h:eR=true->fl=true)(r:az K Hs H fl d v As):az K Hs H eR d v As:=by
 cases eR with
 |false=>exact r.VP
 |true=>rw[h rfl] at r;exact r
def az.at(r:az K Hs H fl ds vs As)(e:ds[j]? = some d)(n:As.Nodup) :
  ∃ v B,vs[j]? = some v/\cc K Hs H fl d v B/\B.Sublist As/\∀ bE H2 eR d2 B2,bt Hs bE->(eR=true->fl=true)->cc K bE H2 eR d2 v B2->B2.Nodup->(∀ a∈B2,a∈As->a∈B)->(∀ a∈As,a∉B->H2 a=H a) ->
   ∃ k6,k6.Nodup/\(∀ a∈k6,(a∈As/\a∉B)\/a∈B2)/\(B2≠[]->k6≠[])/\az K bE H2 eR (ds.set j d2) vs k6:=by
 induction ds generalizing vs As j with
 |nil=>simp at e
 |cons x ds ih =>
  obtain⟨v,us,A,B,rfl,rfl,r,rs⟩:=r.c;obtain⟨n1,n2,n3⟩:=pj.mp n
  cases j with
  |zero =>
   simp at e;subst e;refine⟨v,A,rfl,r,W6 _ _,λbE H2 eR d2 B2 s2 hf r2 yn dj st=>⟨B2++B,pj.mpr ⟨yn,n2,λa ha b hb e=>?_⟩,λa h=>?_,λne z=>ne (Se.mp z).1,.cons r2 ((rs.wk hf).hX s2 λa h=>st a (lI _ h) λz=>n3 a z a h rfl)⟩⟩
   ·subst e;exact n3 a (dj a ha (lI _ hb)) a hb rfl
   ·rcases hJ.mp h with w|w
    ·exact .inr w
    ·exact .inl ⟨lI _ w,λz=>n3 a z a w rfl⟩
  |succ j =>
   obtain⟨v,C,a,b,c,g⟩:=ih rs (by simpa using e) n2;have hA:∀ x∈A,x∉C:=λx hx m=>n3 x hx x (c.subset m) rfl;refine⟨v,C,by simpa using a,b,c.trans (LX _ _),λbE H2 eR d2 B2 s2 hf r2 yn dj st=>?_⟩;obtain⟨k6,x,y,w,z⟩:=g bE H2 eR d2 B2 s2 hf r2 yn (λa ha m=>dj a ha (lI _ m)) λa ha m=>st a (lI _ ha) m;refine⟨A++k6,pj.mpr ⟨n1,x,λa ha b hb e=>?_⟩,λa h=>?_,λne q=>w ne (Se.mp q).2,.cons ((r.wk hf).hX s2 λa h=>st a (yB _ h) (hA a h)) z⟩
   ·subst e;rcases y a hb with q|q
    ·exact n3 a ha a q.1 rfl
    ·exact hA a ha (dj a q (yB _ ha))
   ·rcases hJ.mp h with q|q
    ·exact .inl ⟨yB _ q,hA a q⟩
    ·exact(y a q).imp (λq=>⟨lI _ q.1,q.2⟩) id
def aR'(p:WP)(t:WE):WP:=λρ Q=>p ρ λfl d up=>t ρ λ_ y=>fl=true/\match y with
 |.int i=>match d with
  |.list ds=>∃ j d',rX ds.length i=some j/\ds[j]? = some d'/\d'.flat=false/\Q true d' λeR d2=>up eR (.list (ds.set j d2))
  |.tup ds=>∃ j d',rX ds.length i=some j/\ds[j]? = some d'/\d'.flat=false/\Q true d' λeR d2=>up eR (.tup (ds.set j d2))
  |_=>False
 |_=>False
def Cq{α:Type}{xs:List α}{i:Int}{j:Nat}{x:α}(h:rX xs.length i=some j)(e:xs[j]? = some x):gi xs i=some x:=by unfold L2.gi;rw[h];exact e
def Ba{ds:List D}{j:Nat}{d:D}(e:ds[j]? = some d)(h:d.flat=false):dQ ds=false:=by
 cases q:dQ ds with
 |false=>rfl
 |true=>rw[jY.mp q d (nh e)] at h;cases h
def x_{ds:List D}{j:Nat}{d d2:D}(e:ds[j]? = some d)(h:d2.flat=false):dQ (ds.set j d2)=false:=by have hj:j<ds.length:=(h9.mp e).1;exact Ba (j:=j) (by simp[hj]) h
def Ln{X:Cx}{a b:Expr}{p:WP}{t:WE}{pos:Pos}(ha:QP X K a p)(hb:QE X K b t)(hs:Vi b:=by exact λ_ _=>rfl)(hK:autoParam (X.K=K) bv)(hu:X.A.units+64<fA:=by assumption):QP X K (.Subscript a b pos) (aR' p t):=by
 refine PE.imp (ZW (aM' hu hK) ha hb hs) λσ H Qv hx=>i9 hx λHs ρ ah Q sr h f=>?_;refine⟨Hs,ρ,ah,_,sr,h,λv H1 bq fl d up g1 p1 q1=>⟨bq,ρ,ah,_,sr.grow g1,q1,λu H2 bE m y As g2 r2 f2 q2=>?_⟩⟩;have p2:=p1.grow g2;have gg:=g1.trans g2;obtain⟨rfl,q2⟩:=q2;have ry:=r2.rep g2.wf
 cases ry with
 |int i =>
  obtain⟨iE,r,ne,nd,own,k⟩:=p2.ex
  cases r with
  |sh hf _=>exact absurd rfl ne
  |@list a0 vs0 ds0 A0 hz e rs =>
   obtain⟨j,d',e1,e2,hd,q⟩:=q2;obtain⟨na,nb⟩:=ny.mp nd;obtain⟨w,B,e3,r3,sb,g⟩:=rs.at e2 nb;refine .inl (.inl ⟨_,w,.inl (.inl e),Cq (by rw[<- rs.length];exact e1) e3,f w H2 bE true d' _ gg ⟨B,r3,r3.ne hd,sb.nodup nb,λa h=>own a (eI _ (sb.subset h)),λe7 H3 T5 d3 RC s3 w3 n3 hf r4 ne3 nd3 o3 st=>?_⟩ q⟩);have aw:∀ x∈A0,x∉B->H3 x=H2 x:=λx hx m=>st x (rs.own x hx).ne m;obtain⟨RH,x4,y4,z4,r5⟩:=g e7 H3 T5 d3 RC s3 hf r4 nd3 (λa ha m=>(o3 a ha).2.elim id λq=>absurd q (rs.own a m).ne) aw;have eA:H3 a0=H2 a0:=st a0 (by rw[e];exact λz=>nomatch z) λm=>na (sb.subset m);have cl:∀ a∈RH,e7 a=none/\(a∈a0 :: A0\/H2 a=none):=λa h=>by
    rcases y4 a h with⟨m,_⟩|m
    ·exact⟨n3 a (own a (eI _ m)) (rs.own a m).ne,.inl (eI _ m)⟩
    ·exact⟨(o3 a m).1,(o3 a m).2.imp (λq=>eI _ (sb.subset q)) id⟩
   refine k e7 H3 T5 (.list _) (_ :: RH) s3 w3 n3 hf (.list hz (eA.trans e) r5) (by simp) (ny.mpr ⟨λm=>?_,x4⟩) (λa h=>?_) λa h1 h2=>st a h1 λm=>h2 (eI _ (sb.subset m))
   ·rcases y4 _ m with⟨q,_⟩|q
    ·exact na q
    ·rcases (o3 _ q).2 with q|q
     ·exact na (sb.subset q)
     ·rw[e] at q;cases q
   ·rcases eu.mp h with rfl|h
    ·exact⟨n3 _ (own _ eh) (by rw[e];exact λz=>nomatch z),.inl eh⟩
    ·exact cl a h
  |tup hz e hn rs =>
   obtain⟨j,d',e1,e2,hd,q⟩:=q2;obtain⟨w,B,e3,r3,sb,g⟩:=rs.at e2 nd;refine .inl (.inr ⟨_,w,.inl (.inl (g2.wf.sub _ _ e)),Cq (by rw[<- rs.length];exact e1) e3,f w H2 bE true d' _ gg ⟨B,r3,r3.ne hd,sb.nodup nd,λa h=>own a (sb.subset h),λe7 H3 T5 d3 RC s3 w3 n3 hf r4 ne3 nd3 o3 st=>?_⟩ q⟩);obtain⟨RH,x4,y4,z4,r5⟩:=g e7 H3 T5 d3 RC s3 hf r4 nd3 (λa ha m=>(o3 a ha).2.elim id λq=>absurd q (rs.own a m).ne) (λx hx m=>st x (rs.own x hx).ne m);have FE:dQ (List.set _ j d3)=false:=x_ e2 (by
    cases hh:d3.flat with
    |false=>rfl
    |true=>exact absurd (r4.nil_of hh) ne3)
   refine k e7 H3 T5 (.tup _) RH s3 w3 n3 hf (.tup hz (s3 _ _ e) FE r5) (z4 ne3) x4 (λa h=>?_) λa h1 h2=>st a h1 λm=>h2 (sb.subset m);rcases y4 a h with⟨m,_⟩|m
   ·exact⟨n3 a (own a m) (rs.own a m).ne,.inl m⟩
   ·exact⟨(o3 a m).1,(o3 a m).2.imp (λq=>sb.subset q) id⟩
  |_=>exact q2.elim
 |_=>exact q2.elim
end
section
variable {X:Cx}{K:aC}{e:Expr}{p:WP}{te:WE}{apos kc pos:Pos}
def mF(fl:Bool)(m:Md)(d:D):Option Bool:=match m with
 |.sh=>some (fl && d.flat)
 |.ow b=>some (fl && b)
 |_=>bif d.flat then some fl else none
def BF(p:WP)(te:WE):WS:=λE ρ=>p ρ λfl d up=>match d with
 |.list xs=>te ρ λm x=>xs.length<bG/\match mF fl m x with
  |some eR=>E.nx (up eR (.list (xs++[x])))
  |none=>False
 |_=>False
def Am(w:Wf Hs H)(r:RM K Hs H m d v As)(h:mF fl m d=some eR):(eR=true->fl=true)/\∃ B,B.Sublist As/\cc K Hs H eR d v B:=by
 cases m with
 |sh =>cases h;exact⟨λz=>by cases fl<;>simp_all,[],P7 _,.sh (λz=>by cases fl<;>simp_all) r.2⟩
 |ow b =>cases h;refine⟨λz=>by cases fl<;>simp_all,As,List.Sublist.refl _,r.1.wk λz=>by cases fl<;>simp_all⟩
 |_ =>
  cases hf:d.flat with
  |true =>simp only[mF,hf,cond_true,Option.some.injEq] at h;subst h;exact⟨id,[],P7 _,.sh (λ_=>hf) (r.flat w hf)⟩
  |false=>simp[mF,hf] at h
def Place.put(pl:Place K bq H1 σ fl (.list xs) v up)(g:fk bq H1 bE H2) :
  ∃ a vs A,v=.ref a/\H2 a=some (.lst vs)/\H1 a=some (.lst vs)/\az K bE H2 fl xs vs A/\(a :: A).Nodup/\(∀ x∈a :: A,bE x=none/\H1 x≠none) /\
   ∀ eR ys ws C,(eR=true->fl=true)->az K bE H2 eR ys ws C->ws.length<=bG->C.Nodup->a∉C->(∀ x∈C,x∈A\/(bE x=none/\H1 x=none))->∃ fh,dv K bE (up eR (.list ys)) σ (upd H2 a (.lst ws)) fh:=by
 obtain⟨iE,r,ne,nd,own,k⟩:=pl.ex
 cases r with
 |sh hf _=>exact absurd rfl ne
 |@list a vs _ A hz e rs =>
  have e2:=g.all _ _ e;have G0:=rs.grow g.sh g.all;have hw:∀ x∈a :: A,bq x=none/\H1 x≠none:=λx hx=>⟨own x hx,by
   rcases eu.mp hx with rfl|hx
   ·rw[e];exact λz=>nomatch z
   ·exact(rs.own x hx).ne⟩
  exact⟨a,vs,A,rfl,e2,e,G0,nd,λx hx=>⟨g.ox (hw x hx).1 (hw x hx).2,(hw x hx).2⟩,λeR ys ws C hf nK hz ndC V6 hC=>k.node g hw (λ_ z=>by cases z) hf (.list hz d5 (nK.hX (bt.refl _) λb hb=>b6 λz=>V6 (by subst z;exact hb))) ndC V6 hC⟩
def Place.isL(w:Wf bq H1)(pl:Place K bq H1 σ fl (.list xs) v up):∃ a vs,v=.ref a/\fe K H1 a vs:=by
 obtain⟨iE,r,ne,nd,own,k⟩:=pl.ex
 cases r with
 |sh hf _=>exact absurd rfl ne
 |list hz e rs=>exact⟨_,_,rfl,.inl (.inl e)⟩
def gn (ho:QP X K e p) (he:QE X K e2 te) (hK:autoParam (X.K=K) bv) (hs:autoParam (nS (.Call (.Attribute e "append" apos) [e2] [] kc) none pos.line X.env=pure false) bv) (FL:autoParam (DV e "append" X.env (dE e X.env)=dE e X.env) bv) (FP:autoParam (((backTo kc (g7 [e2] X.env)).all (λx=>!x.1) && (backToKw kc (E5 [] X.env)).all (λx=>x.1.isSome)
   && decide ([e2].length+([]:List AX).length+(if ([]:List AX).isEmpty then 0 else 1)<30))=true) bv)
  (hline:autoParam ((apos.endLine == kc.line)=true) bv) (DF:autoParam (aQ X e2 []) bv) (FR:autoParam (bR X kc []) bv) :
  QS X K L (.Expr (.Call (.Attribute e "append" apos) [e2] [] kc) pos) (BF p te):=by
 subst hK;refine PS.imp (S4 (Vk PySem.F.plainAttrs_list PySem.F.slot_list_append PySem.F.type_list_append Vl ho (nI he t5 DF) FL FP hline DF FR) hs) λD σ H hx=>cD hx λHs ρ ah E sr h k1 k2 k3 k4=>?_;refine⟨Hs,ρ,ah,_,sr,h,λv H1 bq fl d up g1 p1 q1=>?_⟩
 cases d with
 |list xs =>
  obtain⟨a1,vs1,e1,s1⟩:=p1.isL g1.wf;subst e1;refine⟨.inl ⟨rfl,_,s1⟩,bq,ρ,ah,_,sr.grow g1,q1,λy H2 bE m x As g2 r2 f2 q2=>?_⟩;obtain⟨hz,q2⟩:=q2;obtain⟨a,vs,A,ea,e2,_,rs,nd,hn,k⟩:=p1.put g2;cases ea;have hl:=rs.length;refine⟨a1,vs,y,rfl,rfl,e2,by lia,?_⟩
  cases hp:mF fl m x with
  |none=>rw[hp] at q2;exact q2.elim
  |some eR =>
   rw[hp] at q2;obtain⟨hf,B,sb,rb⟩:=Am g2.wf r2 hp;obtain⟨na,nA⟩:=ny.mp nd;have fB:∀ x∈B,bE x=none/\H1 x=none:=λx hx=>f2.2 x (sb.subset hx);have c1:(A++(B++[])).Nodup:=by rw[tJ];exact pj.mpr ⟨nA,sb.nodup f2.1,λx hx z hz e=>by subst e;exact(hn x (eI _ hx)).2 (fB x hz).2⟩
   have c2:a1∉A++(B++[]):=by
    rw[tJ];intro m;rcases hJ.mp m with m|m
    ·exact na m
    ·exact(hn _ eh).2 (fB _ m).2
   have c3:∀ x∈A++(B++[]),x∈A\/(bE x=none/\H1 x=none):=by rw[tJ];intro x hx;exact(hJ.mp hx).imp id λz=>fB x z
   obtain⟨fh,kD⟩:=k eR (xs++[x]) (vs++[y]) (A++(B++[])) hf ((rs.wk hf).append (.cons rb .nil)) (by rw[mG];simp;lia) c1 c2 c3;exact k1 σ _ bE _ fh (g1.sh.trans g2.sh) kD q2
 |_=>exact q1.elim
def xP:WE:=λ_ Q=>Q (.ow true) (.dK [])
def iM:WE:=λ_ Q=>Q (.ow true) (.dT [])
def Ih:QE X K (.Dict [] [] pos) xP:=PE.imp jt' λσ H Qv hx=>i9 hx λHs ρ ah Q sr h f=>λa ha =>
 f _ _ Hs (.ow true) (.dK []) [a] (RB sr.wf ha λ_ z=>nomatch z) ⟨.dK ⟨f7 _,λp hp=>nomatch hp⟩ d5 .nil,by simp⟩ ⟨by simp,λb hb=>by
  obtain rfl:b=a:=by simpa using hb
  exact⟨sr.wf.sub.free ha,ha⟩⟩ h
def gY:QE X K (.Dict [] [] pos) iM:=PE.imp ju' λσ H Qv hx=>i9 hx λHs ρ ah Q sr h f=>λa ha =>
 f _ _ Hs (.ow true) (.dT []) [a] (RB sr.wf ha λ_ z=>nomatch z) ⟨.dT ⟨f7 _,λp hp=>nomatch hp⟩ d5 .nil,by simp⟩ ⟨by simp,λb hb=>by
  obtain rfl:b=a:=by simpa using hb
  exact⟨sr.wf.sub.free ha,ha⟩⟩ h
section
variable {κ:Type}[DecidableEq κ]
def yC{Hs H:Hp}{fl:Bool}{k:κ}{d:D}{v:V}(r:cc K Hs H fl d v []){kvs:List (κ × D)}{vs:List V}{As:List ai}(qs:az K Hs H fl (kvs.map (·.2)) vs As):∃ ws Bs,Bs.Sublist As /\
  az K Hs H fl ((kvs.map λkv=>if kv.1=k then (kv.1,d) else kv).map (·.2)) ws Bs/\((kvs.map (·.1)).zip vs).map (λkv=>if kv.1=k then (kv.1,v) else kv)=(((kvs.map λkv=>if kv.1=k then (kv.1,d) else kv)).map (·.1)).zip ws:=by
 induction kvs generalizing vs As with
 |nil=>exact⟨[],[],P7 _,.nil,rfl⟩
 |cons p kvs ih =>
  obtain⟨u,vs,A,B,rfl,rfl,q,qs⟩:=az.c qs;obtain⟨ws,Bs,sb,rs,e⟩:=ih qs;by_cases h:p.1=k
  ·refine⟨v :: ws,[]++Bs,by simpa using sb.trans (LX _ _),?_,?_⟩
   ·simp only[gL,h,if_true];exact .cons r rs
   ·simp only[gL,Sn,h,if_true,e]
  ·refine⟨u :: ws,A++Bs,sb.append_left _,?_,?_⟩
   ·simp only[gL,h,if_false];exact .cons q rs
   ·simp only[gL,Sn,h,if_false,e]
def Aq{Hs H:Hp}{fl:Bool}{k:κ}{d:D}{v:V}(r:cc K Hs H fl d v []){kvs:List (κ × D)}{vs:List V}{As:List ai}(q:az K Hs H fl (kvs.map (·.2)) vs As) :
  ∃ ws Bs,Bs.Sublist As/\az K Hs H fl ((k5 kvs k d).map (·.2)) ws Bs/\putK ((kvs.map (·.1)).zip vs) k v=((k5 kvs k d).map (·.1)).zip ws:=by
 have hl:=q.length;rw[b4] at hl;unfold putK k5;rw[Gb hl]
 cases h:kvs.any λkv=>decide (kv.1=k) with
 |true =>exact yC r q
 |false =>
  simp only[xI,if_false];refine⟨vs++[v],As++([]++[]),by simp,?_,?_⟩
  ·rw[kS];exact q.append (.cons r .nil)
  ·rw[kS,List.zip_append (by rw[b4];exact hl)];rfl
def zm{Hs H:Hp}{fl:Bool}{k:κ}{d:D}{v:V}(r:Rep K Hs d v)(hd:d.flat=true){kvs:List (κ × D)}{vs:List V}{As:List ai}(q:az K Hs H fl (kvs.map (·.2)) vs As) :
  ∃ ws Bs,Bs.Sublist As/\az K Hs H fl ((k5 kvs k d).map (·.2)) ws Bs/\putK ((kvs.map (·.1)).zip vs) k v=((k5 kvs k d).map (·.1)).zip ws:=Aq (.sh (λ_=>hd) r) q
def e_{β:Type}(kvs:List (κ × β))(k:κ)(v:β):(k5 kvs k v).length<=kvs.length+1:=by
 unfold k5;split
 ·rw[b4];exact Nat.le_add_right _ _
 ·simp
def oK{β:Type}{kvs:List (κ × β)}{k:κ}{v:β}{p:κ × β}(h:p∈k5 kvs k v):p.1=k\/p.1∈kvs.map (·.1):=by
 unfold k5 at h;split at h
 ·obtain⟨q,hq,e⟩:=c9.mp h;by_cases hk:q.1=k
  ·rw[if_pos hk] at e;subst e;exact .inl hk
  ·rw[if_neg hk] at e;subst e;exact .inr (c9.mpr ⟨q,hq,rfl⟩)
 ·rcases hJ.mp h with h|h
  ·exact .inr (c9.mpr ⟨p,h,rfl⟩)
  ·have:p=(k,v):=by simpa using h
   subst this;exact .inl rfl
end
abbrev DH:=Env->(Md->D->Env->Prop)->Prop
def EL(K:aC)(t:DH):TE:=λσ H Qv=>∃ Hs ρ ah Q,dv K Hs ρ σ H ah/\t ρ Q/\∀ v H' ax m d As bT cv,bt Hs ax->dv K ax bT σ H' cv->RM K ax H' m d v As->Q m d bT->Qv v H'
def V7(te:WE):DH:=λρ Q=>te ρ λm d=>Q m d ρ
def JH{e:Expr}{te:WE}(h:QE X K e te):PE X e (EL K (V7 te)):=PE.imp h λσ H Qv hx=>i9 hx λHs ρ ah Q sr h f=>⟨Hs,ρ,ah,_,sr,h,λv H1 bq m d As g1 r1 f1 q1=>f v H1 bq m d As ρ ah g1.sh (sr.grow g1) r1 q1⟩
def uJ(p:WP)(tk:WE)(tv:DH):WS:=λE ρ=>tv ρ λ_ x ρ=>p ρ λfl d up=>tk ρ λ_ y=>x.flat=true/\match d with
 |.dK kvs=>∃ k,y.key1=some k/\kvs.length<bG/\E.nx (up fl (.dK (k5 kvs k x)))
 |.dT kvs=>match y with
  |.tup ys=>∃ ks,cW ys=some ks/\kvs.length<bG/\E.nx (up fl (.dT (k5 kvs ks x)))
  |_=>False
 |_=>False
def pH(p:WP)(tk tv:WE):WS:=uJ p tk (V7 tv)
def rD(r:Rep K H d v)(h:d.key1=some k):sQ k=true:=by
 cases r<;>simp[D.key1] at h<;>subst h
 ·rfl
 ·rename_i hz;simp[sQ,hz]
def u_(r:bS K H ds vs)(h:cW ds=some ks):ks.length=ds.length/\∀ k∈ks,sQ k=true:=by
 induction ds generalizing vs ks with
 |nil=>simp[cW] at h;subst h;exact⟨rfl,λk hk=>nomatch hk⟩
 |cons d ds ih =>
  obtain⟨u,us,rfl,r,rs⟩:=r.c;unfold cW at h
  cases e1:d.key1 with
  |none=>rw[e1] at h;simp at h
  |some k =>
   cases e2:cW ds with
   |none=>rw[e1,e2] at h;simp at h
   |some qa =>
    rw[e1,e2] at h;simp at h;subst h;obtain⟨a,b⟩:=ih rs e2;refine⟨by simp[a],λj hj=>?_⟩;rcases eu.mp hj with rfl|hj
    ·exact rD r e1
    ·exact b j hj
def uE{a b c:Expr}{tk:WE}{tv:DH}{pos':Pos}(ho:QP X K a p)(hi:QE X K b tk)(hv:PE X c (EL K tv))(hs:autoParam (nS c (some (.Subscript a b pos')) pos.line X.env=pure false) bv)(hu:X.A.units+64<fA:=by assumption) :
  QS X K L (.Assign [.Subscript a b pos'] c pos) (uJ p tk tv):=by
 refine PS.imp (jp' (by lia) ho hi hv hs) λD σ H hx=>cD hx λHs ρ ah E sr h k1 k2 k3 k4=>?_;refine⟨Hs,ρ,ah,_,sr,h,λv H1 bq m1 x As1 w9 ey' s1 sR r1 q1=>⟨bq,w9,ey',_,sR,q1,λu H2 bE fl d up g2 p2 q2=>⟨bE,w9,ey',_,sR.grow g2,q2,λy H3 e7 m3 yd RC g3 r3 f3 q3=>?_⟩⟩⟩;obtain⟨hx,q3⟩:=q3;have rx:Rep K e7 x v:=((r1.grow g2).grow g3).flat g3.wf hx;have ry:=r3.rep g3.wf;obtain⟨iE,r,ne,nd,own,k⟩:=p2.ex;have sm:bt Hs e7:=(s1.trans g2.sh).trans g3.sh;have lv:∀ x∈iE,bE x=none/\H2 x≠none:=λx hx=>⟨own x hx,(r.own x hx).ne⟩
 cases r with
 |sh hf _=>exact absurd rfl ne
 |@dK a0 vs kvs A kk e rs =>
  obtain⟨key,hk,hz,q⟩:=q3;have ey:=ry.key hk;subst ey;obtain⟨na,nA⟩:=ny.mp nd;obtain⟨ws,Bs,sb,nK,ew⟩:=zm rx hx (rs.grow g3.sh g3.all);have hl:kvs.length=vs.length:=by have:=rs.length;rwa[b4] at this
  refine⟨a0,_,rfl,Kj.k (g3.all _ _ e) (by rw[L8,b4,<- hl,SD];exact hz),?_⟩;rw[ew];have nB:a0∉Bs:=λz=>na (sb.subset z);obtain⟨fh,kD⟩:=k.node g3 lv (λ_ z=>by cases z) id (.dK ⟨kE (e_ _ _ _) hz,λp hp=>(oK hp).elim (λz=>by rw[z];exact rD ry hk) λz=>by obtain⟨p',n9,e'⟩:=c9.mp z;rw[<- e'];exact kk.2 p' n9⟩ d5 (nK.hX (bt.refl _) λb hb=>b6 λz=>nB (by subst z;exact hb))) (sb.nodup nA) nB λb hb=>.inl (sb.subset hb)
  exact k1 σ _ e7 _ fh sm kD q
 |@dT a0 vs kvs A kk e rs =>
  cases ry with
  |tup t1 e1 RL =>
   obtain⟨key,hk,hz,q⟩:=q3;obtain⟨b,eb,e5⟩:=Rep.yi (.tup t1 e1 RL) hk;cases eb;obtain⟨kl,ko⟩:=u_ RL hk;obtain⟨na,nA⟩:=ny.mp nd;obtain⟨ws,Bs,sb,nK,ew⟩:=zm rx hx (rs.grow g3.sh g3.all);have hl:kvs.length=vs.length:=by have:=rs.length;rwa[b4] at this
   refine⟨a0,_,rfl,Kj.t (g3.all _ _ e) e5 (by rw[L8,b4,<- hl,SD];exact hz),?_⟩;rw[ew];have nB:a0∉Bs:=λz=>na (sb.subset z);have l1:=RL.length;obtain⟨fh,kD⟩:=k.node g3 lv (λ_ z=>by cases z) id (.dT ⟨kE (e_ _ _ _) hz,λp hp=>(oK hp).elim (λz=>by rw[z];exact⟨by lia,ko⟩) λz=>by obtain⟨p',n9,e'⟩:=c9.mp z;rw[<- e'];exact kk.2 p' n9⟩ d5 (nK.hX (bt.refl _) λb hb=>b6 λz=>nB (by subst z;exact hb))) (sb.nodup nA) nB λb hb=>.inl (sb.subset hb)
   exact k1 σ _ e7 _ fh sm kD q
  |_=>exact q3.elim
 |_=>exact q3.elim
def ir{a b c:Expr}{tk tv:WE}{pos':Pos}(ho:QP X K a p)(hi:QE X K b tk)(hv:QE X K c tv)(hs:autoParam (nS c (some (.Subscript a b pos')) pos.line X.env=pure false) bv)(hu:X.A.units+64<fA:=by assumption) :
  QS X K L (.Assign [.Subscript a b pos'] c pos) (pH p tk tv):=uE ho hi (JH hv) hs hu
end
abbrev WJ:=Env->Str->(Str->Prop)->Prop
section
variable {X:Cx}{K:aC}{e:Expr}{j:WJ}
def Lg:List D->Option (List Str)
 |[]=>some []
 |.str x :: xs=>(Lg xs).map (x :: ·)
 |_ :: _=>none
def yi(k:List Key):D:=.tup (k.map iO)
def tK:W1:=λ_ x Q=>match x with
 |.list xs=>∃ ks sh,xs=ks.map yi/\(∀ k∈ks,mz k=true :: sh)/\∀ ms:List (List Key),ms.Perm ks->(ms.Pairwise λa b=>kG b a=false)->Q (.ow true) (.list (ms.map yi))
 |_=>False
def rO{H:Hp}{ks:List Key}{vs:List V}(r:bS K H (ks.map iO) vs):vs=ks.map kV/\∀ k∈ks,sQ k=true:=by
 induction ks generalizing vs with
 |nil=>exact⟨r.n0,λk h=>nomatch h⟩
 |cons k ks ih =>
  obtain⟨u,us,rfl,r1,rs⟩:=bS.c r;obtain⟨e,o⟩:=ih rs;subst e
  cases k with
  |inl i=>cases r1;exact⟨rfl,λj hj=>by rcases eu.mp hj with rfl|hj;rfl;exact o j hj⟩
  |inr x =>
   cases r1 with
   |str hz=>exact⟨rfl,λj hj=>by rcases eu.mp hj with rfl|hj;simp[sQ,hz];exact o j hj⟩
def HX{H:Hp}{ks:List (List Key)}{vs:List V}(r:bS K H (ks.map yi) vs):cR H vs ks/\∀ k∈ks,k.length<=bG/\∀ j∈k,sQ j=true:=by
 induction ks generalizing vs with
 |nil=>rw[r.n0];exact⟨.nil,λk h=>nomatch h⟩
 |cons k ks ih =>
  obtain⟨u,us,rfl,r1,rs⟩:=bS.c r;obtain⟨t,o⟩:=ih rs
  cases r1 with
  |tup hz e q =>
   obtain⟨e2,o2⟩:=rO q;subst e2;exact⟨.cons ⟨_,rfl,e⟩ t,λj hj=>by
    rcases eu.mp hj with rfl|hj
    ·exact⟨by simpa using hz,o2⟩
    ·exact o j hj⟩
def Cm:DC K (vz K) tK:=by
 intro Hs H m x v As Qd Qv w rx h f;have r1:=rx.rep w
 cases r1 with
 |list z s q =>obtain⟨ks,sh,rfl,hs,h⟩:=h;obtain⟨ta,ok⟩:=HX q;have hl:=q.length;rw[b4] at hl;refine⟨_,ks,sh,s,ta,hs,λzs ms l tz pm pw hl'=>?_⟩;have rr:=oH (K:=K) tz λk hk=>ok k (pm.mem_iff.mp hk);exact f.lst w (by rw[b4,pm.length_eq];lia) rr (gC ms) (h ms pm pw) l hl'
 |_=>exact h.elim
def Jz (hK:autoParam (X.K=K) bv):kM X (.builtin "sorted") (vz K):=by subst hK;exact vL
def j5:k7 "sorted" = some (.builtin "sorted"):=by decide +kernel
end
def SR.addrs{K:aC}(s:SR K Hs H ρ σ ah)(n:ah.Nodup):∃ F:Nat->List ai,(∀ i fl d,ρ[i]? = some (some (.ow fl d))->∃ v,σ[i]? = some (some v)/\F i≠[]/\cc K Hs H fl d v (F i))/\(∀ i,(F i).Sublist ah)/\∀ i j,i≠j->∀ a∈F i,a∉F j:=by
 obtain⟨F,f,g,k⟩:=s.all;refine⟨F,λi fl d e=>?_,g,k n⟩;obtain⟨_,e1,h⟩:=f i _ e;generalize F i=As at h
 cases h with
 |ow ne r=>exact⟨_,e1,ne,r⟩
abbrev Plan:=List (WE ⊕ Nat)
def V8:Plan->List Nat
 |[]=>[]
 |.inl _ :: r=>V8 r
 |.inr i :: r=>i :: V8 r
def V9:Option (Option Sl)->Option (Md × D)
 |some (some (.sh d))=>some (.sh,d)
 |some (some (.ow fl d))=>some (.ow fl,d)
 |_=>none
def kY:Plan->Env->(List (Md × D)->Prop)->Prop
 |[],_,Q=>Q []
 |.inl t :: r,ρ,Q=>t ρ λm x=>kY r ρ λps=>Q ((m,x) :: ps)
 |.inr i :: r,ρ,Q=>match V9 ρ[i]? with
  |some p=>kY r ρ λps=>Q (p :: ps)
  |none=>False
def tpM(K:aC)(pl:Plan):TA:=λσ H Qv=>∃ (Hs:Hp) (ρ:Env) (ah:List ai) (F:Nat->List ai) (Q:List (Md × D)->Prop),dv K Hs ρ σ H ah/\(∀ i fl d,ρ[i]? = some (some (.ow fl d))->∃ v,σ[i]? = some (some v)/\F i≠[]/\cc K Hs H fl d v (F i))/\(∀ i,(F i).Sublist ah)/\(∀ i j,i≠j->∀ a∈F i,a∉F j) /\
 kY pl ρ Q/\∀ vs H' ax ps As,fk Hs H ax H'->Dp K ax H' ps vs As->As.Nodup->(∀ a∈As,ax a=none/\(H a=none\/∃ i∈V8 pl,a∈F i))->Q ps->Qv vs H'
abbrev QM(X:Cx)(K:aC)(es:List Expr)(pl:Plan):Prop:=PA X es (tpM K pl)
section
variable {X:Cx}{K:aC}{e:Expr}{es:List Expr}{te:WE}{pl:Plan}{pos:Pos}
def Ed:QM X K [] []:=PA.imp t5 λσ H Qv hx=>by obtain⟨Hs,ρ,ah,F,Q,sr,h1,h2,h3,h,f⟩:=hx;exact f [] H Hs [] [] (fk.refl sr.wf) .nil mI (λa h=>AJ h) h
def lx'(ha:QE X K e te)(hr:QM X K es pl)(hs:autoParam (aQ X e es) bv):QM X K (e :: es) (.inl te :: pl):=by
 refine PA.imp (nI ha hr hs) λσ H Qv dc=>?_;obtain⟨Hs,ρ,ah,F,Q,sr,h1,h2,h3,h,f⟩:=dc;refine⟨Hs,ρ,ah,_,sr,h,λv H1 bq m x As g1 r1 f1 q1=>⟨bq,ρ,ah,F,_,sr.grow g1,(λi fl d e=>?_),h2,h3,q1,λvs H2 bE ps Bs g2 r2 yn o2 q2=>?_⟩⟩
 ·obtain⟨v,a,b,c⟩:=h1 i fl d e;exact⟨v,a,b,c.grow g1.sh g1.all⟩
 ·refine f (v :: vs) H2 bE _ _ (g1.trans g2) (.cons (r1.grow g2) r2) (pj.mpr ⟨f1.1,yn,λa ha b hb e=>?_⟩) (λa ha=>?_) q2
  ·subst e;rcases (o2 a hb).2 with z|⟨i,_,z⟩
   ·exact(r1.own a ha).ne z
   ·exact(sr.sr.own a ((h2 i).subset z)).ne (f1.2 a ha).2
  ·rcases hJ.mp ha with z|z
   ·exact⟨g2.ox (f1.2 a z).1 (r1.own a z).ne,.inl (f1.2 a z).2⟩
   ·exact⟨(o2 a z).1,(o2 a z).2.imp g1.all.free id⟩
def aU'(ha:PE X e (kg i))(hr:QM X K es pl)(hi:i∉V8 pl:=by decide)(hs:autoParam (aQ X e es) bv):QM X K (e :: es) (.inr i :: pl):=by
 refine PA.imp (nI ha hr hs) λσ H Qv dc=>?_;obtain⟨Hs,ρ,ah,F,Q,sr,h1,h2,h3,h,f⟩:=dc;unfold kY at h
 cases hm:V9 ρ[i]? with
 |none=>rw[hm] at h;exact h.elim
 |some p =>
  rw[hm] at h;have key:∃ v A,σ[i]? = some (some v)/\RM K Hs H p.1 p.2 v A/\A.Nodup/\∀ a∈A,a∈F i:=by
   cases e1:ρ[i]? with
   |none=>rw[e1] at hm;cases hm
   |some o =>
    cases o with
    |none=>rw[e1] at hm;cases hm
    |some sl =>
     cases sl with
     |sh d =>rw[e1] at hm;cases hm;obtain⟨v,a,b⟩:=sr.sr.get e1;exact⟨v,[],a,⟨rfl,b⟩,mI,λa h=>nomatch h⟩
     |xc a=>rw[e1] at hm;cases hm
     |ob a p=>rw[e1] at hm;cases hm
     |ow fl d =>rw[e1] at hm;cases hm;obtain⟨v,a,b,c⟩:=h1 i fl d e1;exact⟨v,F i,a,⟨c,b⟩,(h2 i).nodup sr.oz,λa h=>h⟩
  obtain⟨v,A,ev,rm,V_,hA⟩:=key;refine⟨v,ev,Hs,ρ,ah,F,_,sr,h1,h2,h3,h,λvs H2 bE ps Bs g2 r2 yn o2 q2=>?_⟩;refine f (v :: vs) H2 bE _ _ g2 (.cons (rm.grow g2) r2) (pj.mpr ⟨V_,yn,λa ha b hb e=>?_⟩) (λa ha=>?_) q2
  ·subst e;rcases (o2 a hb).2 with z|⟨j,hj,z⟩
   ·exact(rm.own a ha).ne z
   ·exact h3 i j (λz=>hi (by rw[z];exact hj)) a (hA a ha) z
  ·rcases hJ.mp ha with z|z
   ·have:a∈ah:=(h2 i).subset (hA a z);exact⟨g2.ox (sr.own a this) (sr.sr.own a this).ne,.inr ⟨i,eh,hA a z⟩⟩
   ·exact⟨(o2 a z).1,(o2 a z).2.imp id λ⟨j,hj,q⟩=>⟨j,eI _ hj,q⟩⟩
def Av(pl:Plan):WS:=λE ρ=>kY pl ρ λps=>ps.length<=bG/\E.rt (rK ps) (.tup (ps.map (·.2)))
def wU{x1}(h:QM X K es pl):QS X K L (.Return (some (.Tuple es x1 qs')) pos) (Av pl):=by
 refine PS.imp (S5 (cD' h)) λD σ H hx=>cD hx λHs ρ ah E sr h k1 k2 k3 k4=>?_;obtain⟨F,h1,h2,h3⟩:=sr.sr.addrs sr.oz;refine⟨Hs,ρ,ah,F,_,sr,h1,h2,h3,h,λvs H1 bq ps As g1 r1 nd1 o1 q1=>?_⟩;obtain⟨hz,q⟩:=q1;have rl:=r1.reps g1.wf;have hl:=rl.length;rw[b4] at hl;refine⟨by lia,λp hp=>?_⟩;have g2:=VQ (vs:=vs) g1.wf hp;have sm:bt Hs (upd bq p (.tup vs)):=g1.sh.trans g2.sh;unfold rK at q
 cases e1:ps.all DB with
 |true =>rw[e1] at q;exact k4 _ _ _ .sh _ [] sm g2.wf ⟨rfl,.tup (by lia) d5 ((r1.sh g1.wf e1).same g2.sh)⟩ mI (λa h=>nomatch h) q
 |false =>
  rw[e1] at q
  cases e2:ps.all GY with
  |false =>rw[e2] at q;exact k4 _ _ _ .bo _ [] sm g2.wf ⟨rfl,.tup (by lia) d5 (rl.same g2.all)⟩ mI (λa h=>nomatch h) q
  |true =>
   rw[e2] at q;obtain⟨Bs,sb,nz,ro⟩:=r1.ow g1.wf e2 λz=>z;have iX:dQ (ps.map (·.2))=false:=by
    cases hf:dQ (ps.map (·.2)) with
    |false=>rfl
    |true=>rw[pB hf] at e1;cases e1
   exact k4 _ _ _ (.ow _) _ Bs sm g2.wf ⟨.tup (by lia) d5 iX (ro.grow g2.sh g2.all),nz e1⟩ (sb.nodup nd1) (λa ha=>g2.ox (o1 a (sb.subset ha)).1 (ro.own a ha).ne) q
end
def ez':fP:=λds Q=>∃ ns:List Int,ds=[.list (ns.map .int)]/\ns.length<=63/\∀ m,Q m (.bl true)
theorem ints_rep{K:aC}:∀ (ns:List Int),bS K H (ns.map .int) (ns.map V.int)
 |[]=>.nil
 |n :: ns=>.cons (.int n) (ints_rep ns)
def Bc{K:aC}{H:Hp}{a:ai}{ns:List Int}{E:XK}(hl:ns.length<=63)(hS:fe K H a (ns.map V.int)):fO K ez' [.ref a] H (λv _=>v=.bl true) E:=by refine⟨[.list (ns.map .int)],λ_ d=>d=.bl true,.cons (.list (by rw[b4];exact kE hl (by decide)) hS (ints_rep ns)) .nil,⟨ns,rfl,hl,λ_=>rfl⟩,?_⟩;intro v H' ax m d As s w r nd own q;subst q;have:=r.rep w;cases this;rfl
abbrev sg(x:Str):List Nat:=x.cps.toList
def Dt(x y:Str):sg (x++y)=sg x++sg y:=by show(x.cps++y.cps).toList=_;simp[sg]
def empty_app(x:Str):Str.empty++x=x:=zx (by rw[<- sg,Dt];rfl)
def okS(x:Str):Prop:=∀ c∈sg x,c<0x110000
def Fo(x:Str):PyData.strOk x=true↔okS x:=by unfold PyData.strOk okS sg;rw[Array.all_eq_true'];simp
def lz'{α:Type}(x:α)(l:List α):gi (x :: l) 0=some x:=by simp[L2.gi,rX]
def lA'{α:Type}(x y:α)(l:List α):gi (x :: y :: l) 1=some y:=by have:=FI (xs:=x :: y :: l) (j:=1) rfl;exact this
def lB'{α:Type}(x y z:α)(l:List α):gi (x :: y :: z :: l) 2=some z:=by have:=FI (xs:=x :: y :: z :: l) (j:=2) rfl;exact this
def JK:Str.empty.length=0:=by decide
end L2.Q
namespace L2.Q.R
section
variable {f:D->Prop}{k:Kt f}
def Q3:cy (.bl b) k=f (.bl b):=rfl
def PQ:cy (.int i) k=f (.int i):=rfl
def O_:cy (.str x) k=f (.str x):=rfl
def Lk:cy (.list xs) k=f (.list xs):=rfl
def Og:cy (.tup xs) k=f (.tup xs):=rfl
def QD:cy (.dK xs) k=f (.dK xs):=rfl
def Qy:cy (.dT xs) k=f (.dT xs):=rfl
end
def MK{f:Bool->Prop}{k:Kt f}:cy true k=f true:=rfl
def Ld{f:Bool->Prop}{k:Kt f}:cy false k=f false:=rfl
def Pk{d:D}{f:Md × D->Prop}{k:Kt f}:cy (Md.sh,d) k=f (.sh,d):=rfl
def O5{b:Bool}{d:D}{f:Md × D->Prop}{k:Kt f}:cy (Md.ow b,d) k=f (.ow b,d):=rfl
def O7{d:D}{f:Option Sl->Prop}{k:Kt f}:cy (some (.sh d)) k=f (some (.sh d)):=rfl
def PB{b:Bool}{d:D}{f:Option Sl->Prop}{k:Kt f}:cy (some (.ow b d)) k=f (some (.ow b d)):=rfl
def Pj{p:Md × D}{f:Option (Md × D)->Prop}{k:Kt f}:cy (some p) k=f (some p):=rfl
def QH{p:Bool}{f:Option Bool->Prop}{k:Kt f}:cy (some p) k=f (some p):=rfl
def Ow{d:D}{f:Option (Option Sl)->Prop}{k:Kt f}:cy (some (some (.sh d))) k=f (some (some (.sh d))):=rfl
def Oz{b:Bool}{d:D}{f:Option (Option Sl)->Prop}{k:Kt f}:cy (some (some (.ow b d))) k=f (some (some (.ow b d))):=rfl
section
variable {E:jG}{ρ:Env}{Q:Md->D->Prop}{B:Bool->Prop}{t u:WS}{te ta tb tc:WE}{tt tu:WT}{tar:WA}{i j n:Nat}{m m':Md}{d d':D}{sp:fP}{p:WP}{R:List (Md × D)->Prop}
def O4:bj E ρ=E.nx ρ:=rfl
def Q_:cq t u E ρ=t { E with nx:=u E } ρ:=rfl
def Q4:fT te E ρ=te ρ E.rt:=rfl
def O2:nq te E ρ=te ρ λ_ _=>E.nx ρ:=rfl
def put(sl:Option Sl)(k:Sl->Prop):Prop:=match sl with
 |some s=>k s
 |none=>False
def Oe:put (some (.sh d)) k=k (.sh d):=rfl
def PJ:put (some (.ow b d)) k=k (.ow b d):=rfl
def Rf:fq i te E ρ=te ρ λm d=>cy (asg m d) (f:=λo=>put o λsl=>E.nx (ρ.set i (some sl))) ⟨⟩:=rfl
def QZ:iP tt t u E ρ=tt ρ λb=>cy b (f:=λb=>if b=true then t E ρ else u E ρ) ⟨⟩:=rfl
def Mv:uT E ρ=False:=rfl
def Oo:jq i E ρ=cy ρ[i]? (f:=λo=>match o with
 |some (some (.sh d))=>E.rt .sh d
 |some (some (.ow fl d))=>E.rt (.ow fl) d
 |_=>False) ⟨⟩:=rfl
def Pz:Av pl E ρ=kY pl ρ λps=>ps.length<=bG/\E.rt (rK ps) (.tup (ps.map (·.2))):=rfl
def JB:kY [] ρ R=R []:=rfl
def Nu:kY (.inl te :: r) ρ R=te ρ λm x=>kY r ρ λps=>R ((m,x) :: ps):=rfl
def mov(o:Option (Md × D))(k:Md × D->Prop):Prop:=match o with
 |some p=>k p
 |none=>False
def Lb{p:Md × D}{k:Md × D->Prop}:mov (some p) k=k p:=rfl
def Lp:kY (.inr i :: r) ρ R=cy (V9 ρ[i]?) (f:=λo=>mov o λp=>kY r ρ λps=>R (p :: ps)) ⟨⟩:=rfl
def Qu:gx i t E ρ=t E (T1 i ρ):=rfl
-- tests
def bol(d:D)(B:Bool->Prop):Prop:=match d with
 |.bl b=>B b
 |_=>False
def N8:bol (.bl b) B=B b:=rfl
def wB_:wB te ρ B=te ρ λ_ x=>cy x (f:=λx=>bol x B) ⟨⟩:=rfl
def Rh:OI te ρ B=te ρ λ_ x=>cy x (f:=λx=>∃ b,VX x=some b/\B b) ⟨⟩:=rfl
def QF:wx tt ρ B=tt ρ λc=>B (!c):=rfl
def Q9:RJ tt tu ρ B=tt ρ λc=>cy c (f:=λc=>if c=true then tu ρ B else B false) ⟨⟩:=rfl
def lD':wt tt tu ρ B=tt ρ λc=>cy c (f:=λc=>if c=true then B true else tu ρ B) ⟨⟩:=rfl
def QV:uk ρ B=B true:=rfl
-- expressions
def Qn:ae i ρ Q=cy ρ[i]? (f:=λo=>VS o Q) ⟨⟩:=rfl
def Mi:VS (some (some (.sh d))) Q=Q .sh d:=rfl
def Ma:VS (some (some (.ow b d))) Q=Q .bo d:=rfl
def wC_:wC d ρ Q=Q .sh d:=rfl
def lF':ay f ta tb ρ Q=ta ρ λm x=>tb ρ λn y=>f m x n y Q:=rfl
def lG':eP f ta ρ Q=ta ρ λm x=>f m x Q:=rfl
def Mt:gU f g ta tb tc ρ Q=ta ρ λm x=>tb ρ λn y=>f m x n y λ_ z=>cy z (f:=λz=>bol z λk=>cy k (f:=λk=>if k=true then tc ρ λl w=>g n y l w Q else Q .sh (.bl false)) ⟨⟩) ⟨⟩:=by rfl
def OD:lM ta tb ρ Q=ta ρ λ_ x=>cy x (f:=λx=>bol x λc=>cy c (f:=λc=>if c=true then tb ρ Q else Q .sh (.bl false)) ⟨⟩) ⟨⟩:=by unfold lM cy bol;rfl
def QR:VW ta tb ρ Q=ta ρ λ_ x=>cy x (f:=λx=>bol x λc=>cy c (f:=λc=>if c=true then Q .sh (.bl true) else tb ρ Q) ⟨⟩) ⟨⟩:=by unfold VW cy bol;rfl
def Oa:xu ta ρ Q=ta ρ λ_ x=>cy x (f:=λx=>bol x λc=>Q .sh (.bl (!c))) ⟨⟩:=by unfold xu cy bol;rfl
def lH':TR tt ta tb ρ Q=tt ρ λc=>cy c (f:=λc=>if c=true then ta ρ Q else tb ρ Q) ⟨⟩:=rfl
def Qe:ao te tar ρ R=te ρ λm x=>tar ρ λps=>R ((m,x) :: ps):=rfl
def Rg:cE ρ R=R []:=rfl
def QX:kH tar ρ Q=tar ρ λps=>ps.length<=bG/\Q (rK ps) (.tup (ps.map (·.2))):=rfl
def Ql:qf tar ρ Q=tar ρ λps=>ps.length<=bG/\Q (FN ps) (.list (ps.map (·.2))):=rfl
def Ob:aP sp tar ρ Q=tar ρ λps=>sp (ps.map (·.2)) λm d=>cy (m,d) (f:=λp=>Q (OL p.1 p.2) p.2) ⟨⟩:=rfl
-- operators
section
variable {x y:Str}{a b:Int}{xs ys:List D}{kvs:List (Key × D)}{OS:List (List Key × D)}
def LC:mS m (.int a) m' (.int b) Q=Q .sh (.int (a+b)):=rfl
def Ls:mS m (.str x) m' (.str y) Q=(x.length+y.length<=bG/\Q .sh (.str (x++y))):=rfl
def Mq:mS m (.list xs) m' (.list ys) Q=(xs.length+ys.length<=bG/\((dQ xs=true/\dQ ys=true/\Q (.ow true) (.list (xs++ys)))\/(m=.sh/\m'=.sh/\Q (.ow false) (.list (xs++ys))))):=rfl
def Mh:TV m (.int a) m' (.int b) Q=Q .sh (.int (a-b)):=rfl
def NK:TX m (.int a) m' (.int b) Q=(M0 a b/\Q .sh (.int (a*b))):=rfl
def Mf:qc m (.int a) m' (.int b) Q=((0<b/\b<1073741824)/\Q .sh (.int (a / b))):=rfl
def Lz:og m (.int a) m' (.int b) Q=(0<b/\Q .sh (.int (a % b))):=rfl
def Qc:K2 m (.int a) m' (.int b) Q=Q .sh (.bl (decide (a<b))):=rfl
def Ou:EH m (.int a) m' (.int b) Q=Q .sh (.bl (decide (a<=b))):=rfl
def Pn:VY m (.int a) m' (.int b) Q=Q .sh (.bl (decide (b<a))):=rfl
def PX:kr m (.int a) m' (.int b) Q=Q .sh (.bl (decide (a=b))):=rfl
def N7:kr m (.str x) m' (.str y) Q=Q .sh (.bl (decide (x=y))):=rfl
def Ot:VZ m (.int a) m' (.int b) Q=Q .sh (.bl (!decide (a=b))):=rfl
def O3:Gj m d m' .non Q=Q .sh (.bl (!d.V0)):=rfl
def Qg:EI neg m (.str x) m' (.str y) Q=Q .sh (.bl (if neg then !EF x y else EF x y)):=rfl
def Q0:EI neg m d m' (.dK kvs) Q = ∃ k,d.key1=some k/\Q .sh (.bl (if neg then !(dS kvs k).isSome else (dS kvs k).isSome)):=rfl
def QB:EI neg m (.tup xs) m' (.dT OS) Q = ∃ ks,cW xs=some ks/\Q .sh (.bl (if neg then !(dS OS ks).isSome else (dS OS ks).isSome)):=rfl
def Qx:Dx m (.int a) Q=Q .sh (.int (-a)):=rfl
def Qo:bX m (.list xs) m' (.int a) Q = ∃ d,gi xs a=some d/\cy d (f:=λd=>Q (ua m d) d) ⟨⟩:=rfl
def QK:bX m (.tup xs) m' (.int a) Q = ∃ d,gi xs a=some d/\cy d (f:=λd=>Q (ua m d) d) ⟨⟩:=rfl
def Qj:bX m (.str x) m' (.int a) Q = ∃ c,gi x.cps.toList a=some c/\Q .sh (.str ⟨#[c]⟩):=rfl
def Q6:bX m (.dT OS) m' (.tup ys) Q = ∃ ks d',cW ys=some ks/\dS OS ks=some d'/\cy d' (f:=λd'=>Q (ua m d') d') ⟨⟩:=rfl
def Pu:oi m (.str x) Q=Q .sh (.int x.length):=rfl
def Ol:oi m (.list xs) Q=Q .sh (.int xs.length):=rfl
def P_:oi m (.tup xs) Q=Q .sh (.int xs.length):=rfl
def QC{T:String}:BE T m d Q=Q .sh (.bl (Rt d.ty T)):=rfl
def NB:v_ m (.tup xs) Q=((dQ xs=true/\Q (.ow true) (.list xs))\/(m=.sh/\Q (.ow false) (.list xs))):=rfl
def Li:v_ m (.dT OS) Q=Q (.ow true) (.list (OS.map λkv=>.tup (kv.1.map iO))):=rfl
def lI':Lc te tl th ρ Q=te ρ λm x=>tl ρ λlo=>th ρ λhi=>V1 m x lo hi Q:=rfl
def K_:iD ρ O=O none:=rfl
def int'(d:D)(k:Int->Prop):Prop:=match d with
 |.int i=>k i
 |_=>False
def Qa:int' (.int a) k=k a:=rfl
def Ph:j_ te ρ O=te ρ λ_ x=>cy x (f:=λx=>int' x λi=>O (some i)) ⟨⟩:=by unfold j_ cy int';rfl
def QQ{lo hi:Option Int}:V1 m (.str x) lo hi Q=Q .sh (.str (zo x lo hi)):=rfl
def Q8{lo hi:Option Int}:V1 m (.list xs) lo hi Q=((dQ xs=true/\Q (.ow true) (.list (kK xs lo hi)))\/(m=.sh/\Q (.ow false) (.list (kK xs lo hi)))):=rfl
end
-- texts
def aV'(d:D)(k:Str->Prop):Prop:=match d with
 |.str x=>k x
 |_=>False
def Ov:aV' (.str x) k=k x:=rfl
def DI(d:D)(k:List D->Prop):Prop:=match d with
 |.list x=>k x
 |_=>False
def Lw:DI (.list x) k=k x:=rfl
-- places
def lJ'{P:Bool->D->(Bool->D->Env)->Prop}:qk i ρ P=cy ρ[i]? (f:=λo=>match o with
 |some (some (.ow fl d))=>P fl d λeR d2=>ρ.set i (some (.ow eR d2))
 |_=>False) ⟨⟩:=rfl
def fl'(o:Option Bool)(k:Bool->Prop):Prop:=match o with
 |some b=>k b
 |none=>False
def Lf:fl' (some b) k=k b:=rfl
def Qq:BF p te E ρ=p ρ λfl d up=>cy d (f:=λd=>DI d λxs=>te ρ λm x=>xs.length<bG/\cy (mF fl m x) (f:=λo=>fl' o λeR=>E.nx (up eR (.list (xs++[x])))) ⟨⟩) ⟨⟩:=by unfold BF cy DI fl';rfl
def M7:xP ρ Q=Q (.ow true) (.dK []):=rfl
def Lh:iM ρ Q=Q (.ow true) (.dT []):=rfl
def dct(d y:D)(k1:List (Key × D)->Prop)(k2:List (List Key × D)->List D->Prop):Prop:=match d with
 |.dK kvs=>k1 kvs
 |.dT kvs=>match y with
  |.tup ys=>k2 kvs ys
  |_=>False
 |_=>False
def Ra:dct (.dK kvs) y k1 k2=k1 kvs:=rfl
def Qh:dct (.dT kvs) (.tup ys) k1 k2=k2 kvs ys:=rfl
def PL:pH p tk tv E ρ=tv ρ λ_ x=>p ρ λfl d up=>tk ρ λ_ y=>x.flat=true/\cy d (f:=λd=>dct d y (λkvs=>∃ k,y.key1=some k/\kvs.length<bG/\E.nx (up fl (.dK (k5 kvs k x)))) (λkvs ys=>∃ ks,cW ys=some ks/\kvs.length<bG/\E.nx (up fl (.dT (k5 kvs ks x))))) ⟨⟩:=by rfl
-- loops
variable {LQ:List D->Prop}
def Q7:qh wi g b E ρ=wi ρ λds=>gW g b E ds ρ:=rfl
def Lj:cH te ρ LQ=te ρ λm d=>q_ m/\cy d (f:=λd=>DI d LQ) ⟨⟩:=by unfold cH cy DI;rfl
def T6(d:D)(k:List D->Prop):Prop:=match d with
 |.tup x=>k x
 |_=>False
def N6:T6 (.tup x) k=k x:=rfl
def Oh:Bu te ρ LQ=te ρ λ_ d=>cy d (f:=λd=>aV' d λz=>LQ (aO' z)) ⟨⟩:=by unfold Bu cy aV';rfl
def M6:dU te ρ LQ=te ρ λ_ d=>cy d (f:=λd=>int' d λj=>j<=16777216/\-(2 ^ 62)<=j/\LQ (iu 0 j.toNat)) ⟨⟩:=by unfold dU cy int';rfl
def La:q_ .sh=True:=rfl
def K9:q_ (.ow b)=True:=rfl
def gN_:gN i d ρ N=N (ρ.set i (some (.sh d))):=rfl
def gT_:gT n gs d ρ N=cy d (f:=λd=>T6 d λds=>ds.length=n/\gs ds ρ N) ⟨⟩:=by unfold gT cy T6;rfl
def Pg:cQ g gs (d :: ds) ρ N=g d ρ λbT=>gs ds bT N:=rfl
def Qf:qC [] ρ N=N ρ:=by simp[qC]
def N_:cL wi g tt te tn ix ρ Q=wi ρ λds=>iJ g tt te ds (Hw tn ix ρ) λout=>Q (.ow true) (.list out):=rfl
end
def B{c:Bool}{f:Bool->Prop}{k:Kt f}(h1:c=true->f true)(h2:c=false->f false):cy c k:=by
 cases c with
 |true=>exact h1 rfl
 |false=>exact h2 rfl
def D{p:Prop}[Decidable p]{f:Bool->Prop}{k:Kt f}(h1:p->f true)(h2:¬ p->f false):cy (decide p) k :=
 B (λh=>h1 (of_decide_eq_true h)) λh=>h2 (of_decide_eq_false h)
def T{c:Bool}{f:Bool->Prop}{k:Kt f}(h:c=true)(h1:f true):cy c k:=by subst h;exact h1
def F{c:Bool}{f:Bool->Prop}{k:Kt f}(h:c=false)(h1:f false):cy c k:=by subst h;exact h1
end L2.Q.R
namespace L2
end L2
namespace L2.Q
section
variable {X:Cx}{K:aC}{e e2:Expr}{te RP:WE}{pos p:Pos}
def wD1(tk tv:WE):WE:=λρ Q=>tk ρ λ_ x=>tv ρ λ_ y=>∃ k,x.key1=some k/\y.flat=true/\Q (.ow true) (.dK [(k,y)])
def Fl(he:QE X K e te)(Tt:QE X K e2 RP):QE X K (.Dict [some e] [e2] pos) (wD1 te RP):=by
 refine PE.imp (jy' (jw' he Tt jv') rfl rfl (by simp) (by simp)) λσ H Qv hx=>i9 hx λHs ρ ah Q sr h fin=>λa ha=>?_;have g0:fk Hs H Hs (upd H a (.dK [])):=RB sr.wf ha λ_ z=>nomatch z;refine⟨Hs,ρ,ah,_,sr.grow g0,h,λv H1 bq m x As g1 r1 f1 q1=>⟨bq,ρ,ah,_,(sr.grow g0).grow g1,q1,λu H2 bE n y Bs g2 r2 f2 q2=>?_⟩⟩;obtain⟨k,ek,fy,q2⟩:=q2;have rx:=(r1.grow g2).rep g2.wf;have ex:=rx.key ek;subst ex;have ry:=r2.flat g2.wf fy;have gg:=(g0.trans g1).trans g2;have e2:H2 a=some (.dK []):=g2.all _ _ (g1.all _ _ d5);have nH:Hs a=none:=sr.wf.sub.free ha;have n2:bE a=none:=g2.ox (g1.ox nH (by rw[d5];exact λz=>nomatch z)) (by rw[g1.all _ _ d5];exact λz=>nomatch z);refine⟨e2,[(k,u)],rfl,by simp,?_⟩;have g3:fk Hs H bE (upd H2 a (.dK [(k,u)])):=⟨λb o hb=>by rw[b6 (Au hb ha)];exact gg.all b o hb,gg.sh,⟨λb o hb=>by rw[b6 (Au hb n2)];exact gg.wf.sub b o hb,λb vs hb=>by
  by_cases z:b=a
  ·subst z;rw[d5] at hb;cases hb
  ·rw[b6 z] at hb;exact gg.wf.kB b vs hb⟩,gg.new⟩
 exact fin (.ref a) _ bE (.ow true) (.dK [(k,y)]) [a] g3 ⟨.dK ⟨by rw[mB];simp,λp hp=>by
  have:p=(k,y):=by simpa using hp
  subst this;exact rD rx ek⟩ d5 (.cons (.sh (λ_=>fy) ry) .nil),by simp⟩ ⟨by simp,λb hb=>by
  obtain rfl:b=a:=by simpa using hb
  exact⟨n2,ha⟩⟩ q2
def xm:W1:=λ_ x Q=>match x with
 |.list xs=>∃ ks b,xs=ks.map iO/\(∀ k∈ks,oy k=b)/\∀ ms:List Key,ms.Perm ks->(ms.Pairwise λa b=>oa b a=false)->Q (.ow true) (.list (ms.map iO))
 |.dK kvs=>∃ b,(∀ p∈kvs,oy p.1=b)/\∀ ms:List Key,ms.Perm (kvs.map (·.1))->(ms.Pairwise λa b=>oa b a=false)->Q (.ow true) (.list (ms.map iO))
 |_=>False
def CP:DC K (uf K) xm:=by
 intro Hs H m x v As Qd Qv w rx h f;have r1:=rx.rep w
 cases r1 with
 |list z s q =>obtain⟨ks,b,rfl,hb,h⟩:=h;obtain⟨e,ok⟩:=rO q;subst e;exact⟨ks,b,.inl s,hb,λms l pm pw hl=>f.lst w (by rw[b4,pm.length_eq];simpa using z) (dN λk hk=>ok k (pm.mem_iff.mp hk)) (d9 ms) (h ms pm pw) l hl⟩
 |@dK a vs kvs kk e q =>
  obtain⟨b,hb,h⟩:=h;have hlen:=q.length;rw[b4] at hlen;have ez:(((kvs.map (·.1)).zip vs).map (·.1))=kvs.map (·.1):=by rw[L7 (by rw[b4];lia)]
  refine⟨kvs.map (·.1),b,.inr ⟨_,e,ez.symm⟩,λk hk=>?_,λms l pm pw hl=>?_⟩
  ·obtain⟨p,hp,rfl⟩:=c9.mp hk;exact hb p hp
  ·refine f.lst w (by rw[b4,pm.length_eq,b4];exact kk.1) (dN λk hk=>?_) (d9 ms) (h ms pm pw) l hl;obtain⟨p,hp,rfl⟩:=c9.mp (pm.mem_iff.mp hk);exact kk.2 p hp
 |_=>exact h.elim
def KD (hc:autoParam (X.calm=true) bv) (hK:autoParam (X.K=K) bv):kM X (.builtin "sorted") (uf K):=by subst hK;exact wH hc
end
abbrev WIL:=Env->(List D->Prop)->Prop
section
variable {X:Cx}{K:aC}
def fC(i:Nat)(hi:OQ X K tg iter wi)(hg:∀ {C fp dA eJ} {q:(tn++cn).Nodup},QG (b_ X scope C (tn++cn) fp dA eJ) K tg g) (sL:∀ {C fp dA eJ},T4 (b_ X scope C (tn++cn) fp dA eJ) K ifs tc) (he:∀ {C fp dA eJ},QE (b_ X scope C (tn++cn) fp dA eJ) K elt te)(hsw:autoParam (nS (.ListComp elt [⟨tg,iter,ifs,0⟩] scope pos) (some (.Name x pos')) Vu.line X.env=pure true) bv) (hs:∀ x,BU iter X.env x=pure x:=by intro _;rfl) (hf:lD X x:=by first|exact .inl rfl|exact .inr rfl|assumption) (hN:X.N.Nodup:=by assumption) (FU:autoParam (X.N[i]? = some x) bv) (hx:Loc X.env.scope x:=by first|exact .inl rfl|exact .inr rfl) (nd:(tn++cn).Nodup:=by decide +kernel) (O:bN X scope tn cn ix:=by exact bN.by (by assumption) (by decide +kernel)) (hc:autoParam (X.calm=true) bv) :
  QS X K L (.Assign [.Name x pos'] (.ListComp elt [⟨tg,iter,ifs,0⟩] scope pos) Vu) (fq i (cL wi g tc te tn.length ix)) :=
 PS.imp (vM hN FU hx hc hi O (λ_ _ _ _=>hg (q:=nd)) (λ_ _ _ _=>sL) (λ_ _ _ _=>he) hsw hs hf) λD σ H hx=>cD hx λHs ρ ah E sr h k1 k2 k3 k4=>by
  refine jO ⟨Hs,ρ,ah,_,sr,h,λv H1 bq m d As g1 r1 f1 q1=>?_⟩
  cases e:asg m d with
  |none=>rw[e] at q1;exact q1.elim
  |some sl =>rw[e] at q1;obtain⟨cv,s'⟩:=(sr.grow g1).set i r1 f1.1 (λa ha=>⟨(f1.2 a ha).1,λm=>(sr.sr.own a m).ne (f1.2 a ha).2⟩) e;exact k1 _ H1 bq _ cv g1.sh s' q1
end
end L2.Q
namespace L2.Q.R
section
variable {ρ:Env}{Q:Md->L2.Q.D->Prop}{te tk:WE}{i:Nat}{d:L2.Q.D}{p:WP}{LQ:List L2.Q.D->Prop}
def lM':wD1 tk te ρ Q=tk ρ λ_ x=>te ρ λ_ y=>∃ k,x.key1=some k/\y.flat=true/\Q (.ow true) (.dK [(k,y)]):=rfl
def Nh:tV te ρ LQ=te ρ λm d=>q_ m/\cy d (f:=λd=>DI d λxs=>LQ (eU xs)) ⟨⟩:=by unfold tV cy DI;rfl
def Lx:tO te ρ LQ=te ρ λ_ d=>cy d (f:=λd=>DI d λxs=>LQ (eU xs)) ⟨⟩:=by unfold tO cy DI;rfl
def Mz:mY te ρ LQ=te ρ λ_ d=>cy d (f:=λd=>DI d LQ) ⟨⟩:=by unfold mY cy DI;rfl
def Pa:lR te ρ LQ=te ρ λ_ d=>cy d (f:=λd=>T6 d LQ) ⟨⟩:=by unfold lR cy T6;rfl
def wpAt(d:L2.Q.D)(i:Int)(P:Bool->L2.Q.D->(Bool->L2.Q.D->Env)->Prop)(up:Bool->L2.Q.D->Env):Prop:=match d with
 |.list ds=>∃ j d',rX ds.length i=some j/\ds[j]? = some d'/\d'.flat=false/\cy d' (f:=λd'=>P true d' λeR d2=>up eR (.list (ds.set j d2))) ⟨⟩
 |.tup ds=>∃ j d',rX ds.length i=some j/\ds[j]? = some d'/\d'.flat=false/\cy d' (f:=λd'=>P true d' λeR d2=>up eR (.tup (ds.set j d2))) ⟨⟩
 |_=>False
section
variable {P:Bool->L2.Q.D->(Bool->L2.Q.D->Env)->Prop}{up:Bool->L2.Q.D->Env}{ds:List L2.Q.D}{j:Int}
def OJ:wpAt (.list ds) j P up = ∃ k d',rX ds.length j=some k/\ds[k]? = some d'/\d'.flat=false/\cy d' (f:=λd'=>P true d' λeR d2=>up eR (.list (ds.set k d2))) ⟨⟩:=rfl
def QJ:aR' p te ρ P=p ρ λfl d up=>te ρ λ_ y=>fl=true/\cy y (f:=λy=>int' y λi=>cy d (f:=λd=>wpAt d i P up) ⟨⟩) ⟨⟩:=by rfl
end
end
end L2.Q.R
namespace L2
open Builtin Builtin.Str Builtin.Int
def uS(n:Int)(z:Str):Str:=⟨(List.replicate n.toNat z.cps.toList).flatten.toArray⟩
theorem lY(xs:Array Nat):∀ k acc,(List.replicate k xs).foldl (· ++ ·) acc=acc++(List.replicate k xs.toList).flatten.toArray
 |0,acc=>by simp
 |k+1,acc=>by rw[E9,xC,lY xs k,E9,IE];apply Array.ext';simp
def Ep(h:1<=n):Txt.mul z n=uS n z:=by
 unfold Txt.mul uS;rw[if_neg (by lia)];by_cases h1:n=1
 ·subst h1;simp
 ·by_cases h0:z.length=0
  ·have hz:z.cps = #[]:=xdL h0;rw[if_pos (by simp[h0])];obtain⟨c⟩:=z;cases hz;simp
  ·rw[if_neg (by simp[h1,h0]),lY];simp
def KJ:R2:=λx y H Q=>match x,y with
 |.int n,.str z=>(1<=n/\n<=100/\z.length<=100)/\Q (.str (uS n z)) H
 |_,_=>False
section
def sv(ns:List Int):Nat->Int
 |0=>0
 |1=>ns.getD 0 0
 |j+2=>if ns.getD (j+1) 0>sv ns (j+1) then ns.getD (j+1) 0 else sv ns (j+1)
end
section
variable {prog:cf}{w:cw}{A:ft}{R:Result->aI->Prop}{I:ai}{fp wr:List ai}{P:Nat->ag->Prop}{St:Nat->df->Prop}
def xJ(W:Walks prog w A.in1 I fp wr ns.length P St)(lN':∀ i v,P i v->∃ t,v=.int (ns.getD i 0) t)(S:ai)(ER:S∉fp)(d:ag) :
  ∀ k j s c items,ns.length-j=k->j<=ns.length->St j s.heap->((j=0/\items = #[])\/(0<j/\∃ t,items = #[.int (sv ns j) t,.int (sv ns j) t])) ->
  s.heap.get? S=some { cls:=.type "list",dict:=none,data:=.seq items c,slots:=#[] } ->
  (∀ v h' tk,(ns=[]/\v=d\/ns≠[]/\∃ t,v=.int (sv ns ns.length) t)->(∀ b o,b∉wr->b≠S->s.heap.get? b=some o->h'.get? b=some o)->R (.ok (.ret v)) { s with heap:=h',toks:=tk }) ->
  xA (aE prog w) A (.builtin "max.loop" ⟨[.ref I,.none,.ref S],[("default",d)]⟩) R s:=by
 have hSw:S∉wr:=λh=>ER (W.sub _ h);have lO':(toString "max" ++ toString ".loop" : String) = "max.loop" := by decide
 intro k
 induction k with
 |zero =>
  intro j s c items hk hj rh hit hS hR;have dr:j=ns.length:=by lia
  refine B3 F.entry_max_loop ?_;refine av (wpAny_seqItems hS rfl ?_);refine av (wpAny_tryCatch (W.done s _ _ (dr ▸ rh) λh' tk i7=>?_));have AQ:=i7 S _ hSw hS;rcases hit with⟨h0,rfl⟩|⟨h0,t,rfl⟩
  ·exact av (zS (aT (hR d _ tk (.inl ⟨LZ.mp (by lia),rfl⟩) λb o BG w_ e=>i7 b o BG e)))
  ·show aS _ A.in1 (updateSeq S (λ_=>#[]) >>= _) _ _ _;refine av ?_;refine R_ AQ rfl (av (wpAny_letGo (aT ?_)));refine hR _ _ tk (.inr ⟨λz=>by rw[z] at dr;simp at dr;lia,t,by rw[dr]⟩) λb o BG w_ e=>(D6 _ _ (Ne.symm w_)).trans (i7 b o BG e)
 |succ k ih =>
  intro j s c items hk hj rh hit hS hR;have eK:j<ns.length:=by lia
  refine B3 F.entry_max_loop ?_;refine av (wpAny_seqItems hS rfl ?_);refine av (wpAny_tryCatch (W.item j s _ _ eK rh λv h' tk hP T7 i7=>?_));have AQ:=i7 S _ hSw hS;obtain⟨t1,rfl⟩:=lN' j v hP;rcases hit with⟨h0,rfl⟩|⟨h0,t,rfl⟩
  ·subst h0;show aS _ A.in1 (updateSeq S (λ_=>#[_,_]) >>= _) _ _ _;refine av ?_;refine R_ AQ rfl ?_;refine aT ⟨DZ F.plain_max_loop _,ih 1 _ _ _ (by lia) eK (W.frame _ _ _ T7 λb hbf o e=>?_) (.inr ⟨by lia,t1,rfl⟩) (D7 _ AQ rfl) λv' Lv T8 n5 T9=>?_⟩
   ·exact(D6 _ _ (λh:S=b=>ER (by rw[h];exact hbf))).trans e
   ·exact hR v' Lv T8 n5 λb o BG w_ e=>T9 b o BG w_ ((D6 _ _ (Ne.symm w_)).trans (i7 b o BG e))
  ·obtain⟨j,rfl⟩:∃ i,j=i+1:=⟨j-1,by lia⟩
   show aS _ A.in1 (tryCatch (holding [_,_] (richCompare .Gt _ _ >>= _)) _ >>= _) _ _ _;refine av (wpAny_tryCatch (vn (av (CmpOf.ints_gt (P:=λi v=>(i=0/\v=.int (ns.getD (j+1) 0) t1)\/(i=1/\v=.int (sv ns (j+1)) t)) (λi=>if i=0 then ns.getD (j+1) 0 else sv ns (j+1)) (λi v h=>?_) 0 1 _ _ _ _ _ (.inl ⟨rfl,rfl⟩) (.inr ⟨rfl,rfl⟩) ?_))))
   ·rcases h with⟨rfl,rfl⟩|⟨rfl,rfl⟩<;>exact⟨_,rfl⟩
   refine av (vn (zI ?_));refine av (wpAny_letGo (aT ?_));simp only[if_true,show ¬ 1=0 by decide,if_false];have e2:sv ns (j+1+1)=if ns.getD (j+1) 0>sv ns (j+1) then ns.getD (j+1) 0 else sv ns (j+1):=rfl;by_cases hb:ns.getD (j+1) 0>sv ns (j+1)
   ·rw[if_pos hb] at e2;simp only[hb,decide_true,if_true];refine av ?_;refine R_ AQ rfl (av (wpAny_letGo ?_));refine aT ⟨DZ F.plain_max_loop _,ih (j+2) _ _ _ (by lia) eK (W.frame _ _ _ T7 λb hbf o e=>?_) (.inr ⟨by lia,t1,by rw[e2]⟩) (D7 _ AQ rfl) λv' Lv T8 n5 T9=>?_⟩
    ·exact(D6 _ _ (λh:S=b=>ER (by rw[h];exact hbf))).trans e
    ·exact hR v' Lv T8 n5 λb o BG w_ e=>T9 b o BG w_ ((D6 _ _ (Ne.symm w_)).trans (i7 b o BG e))
   ·rw[if_neg hb] at e2;simp only[hb,decide_false,xI,if_false];exact av (wpAny_letGo (aT ⟨DZ F.plain_max_loop _,ih (j+2) _ c _ (by lia) eK T7 (.inr ⟨by lia,t,by rw[e2]⟩) AQ λv' Lv T8 n5 T9=>hR v' Lv T8 n5 λb o BG w_ e=>T9 b o BG w_ (i7 b o BG e)⟩))
end
end L2
namespace L2
section
variable {X:Cx}{K:aC}{e e2:Expr}{te td:TE}{p pos aZ':Pos}
def yI (a v:ag):argsOk "max" ⟨[a],[(Str.ofString "default",v)]⟩:=by unfold argsOk;kernel_rfl
def BJ(K:aC):R2:=λx y H Q=>match x,y with
 |.ref a,.int d=>∃ ns:List Int,fe K H a (ns.map V.int)/\Q (.int (if ns=[] then d else sv ns ns.length)) H
 |_,_=>False
def Ac(h:BJ K x y H Q):∃ a d ns,x=.ref a/\y=.int d/\fe K H a (ns.map V.int)/\Q (.int (if ns=[] then d else sv ns ns.length)) H:=by
 unfold BJ at h;split at h
 ·obtain⟨ns,h1,h2⟩:=h;exact⟨_,_,ns,rfl,rfl,h1,h2⟩
 ·exact h.elim
def G5 (hc:X.calm=true) (hg:Gl X "max") (hm:X.mg "max" = none) (hv:k7 "max" = some (.builtin "max")) (he:PE X e te) (hd:PE X e2 td)(hs:autoParam (aQ X e []) bv) :
  PE X (.Call (.Name "max" p) [e] [⟨some "default",e2,aZ'⟩] pos) (Rj (BJ X.K) te td):=by
 intro pins s σ H Q I h;refine LJ (FD I hg hm hv ?_ (by decide) (by decide));refine PyProof.Rows.callWith_kw ?_ (by rw[hs];rfl) (by rw[hs];rfl) rfl rfl;rw[hs];refine Calls.spliced_cons (cp (he pins s σ H _ I h) λu s1 ck=>L2.e9 ck λx H1 I1 r1 q1=>Calls.spliced_nil ?_);refine kws_cons (cp (hd pins s1 σ H1 _ I1 q1) λv2 s2 ck=>L2.e9 ck λy H2 I2 r2 q2=>kws_nil ?_);obtain⟨a,d,ns,rfl,rfl,hsq,q⟩:=Ac (q2)
 ·have _:=hc;cases r1;obtain⟨td,rfl⟩:=r2;obtain⟨its,rv,pl,hz⟩:=I2.list hsq;have hl:s2.heap.IsList a its.toArray:=pl.isList;obtain⟨o,ho,IY,n,t9⟩:=id hl;have hlen:=rv.length;rw[b4] at hlen;have iX:a≠s2.heap.objs.size:=fz (e8 ho);have KG:X.A.in1.handled=none:=I2.ok.hd hc;have lO':(toString "max" ++ toString ".loop" : String) = "max.loop" := by decide
  refine kmb_tree F.kind_max F.plain_max F.entry_max (yI _ _) ?_;refine av (LV (rfl) ?_);refine av (aT ?_);refine av (R7 hl ?_);refine av (tm ?_);have hw:Walks X.prog X.w X.A.in1 s2.heap.objs.size [s2.heap.objs.size,a] [s2.heap.objs.size] ns.length (λi v=>its.toArray[i]? = some v) (λi h=>h.IsListIter s2.heap.objs.size a i/\h.IsList a its.toArray):=by have:=Walks.list (prog:=X.prog) (w:=X.w) KG s2.heap.objs.size a iX its.toArray;rwa[show its.toArray.size=ns.length by rw[hlen];exact kA ..] at this
  have hS:(s2.heap.push { cls:=.type "list_iterator",data:=.fields #[.ref a,.int 0 0] }).objs.size=s2.heap.objs.size+1:=IJ ..;have hal:=e8 ho;refine aT ⟨DZ F.plain_max_loop _,xJ hw (λi v hv=>?_) (s2.heap.push { cls:=.type "list_iterator",data:=.fields #[.ref a,.int 0 0] }).objs.size (λhm=>by
    rcases eu.mp hm with e|hm
    ·rw[hS] at e;exact absurd e (Nat.succ_ne_self _)
    ·have e:=ic.mp hm;rw[hS] at e;exact absurd hal (by rw[<- e];exact Nat.not_lt.mpr (II _))) (.int d td) _ 0 _ _ #[] rfl (f7 _) ⟨⟨_,eL _ (ip _ rfl),rfl,rfl⟩,⟨_,eL _ (eL _ ho),IY,n,t9⟩⟩ (.inl ⟨rfl,rfl⟩)
   (ip _ rfl) λv h' tk hP hk=>?_⟩
  ·have vF:its[i]? = some v:=by simpa using hv
   have hi:i<ns.length:=by have:=(h9.mp vF).1;lia
   obtain⟨w',e1,r1⟩:=rv.get (i:=i) (x:=V.int ns[i]) (by simp[hi]);rw[vF] at e1;cases e1;obtain⟨t,rfl⟩:=r1;exact⟨t,by simp[List.getD,hi]⟩
  ·have I3:Inv X pins σ H2 { s2 with heap:=h',toks:=tk }:=I2.kept λb o e=>by have eK:=e8 e;exact hk b o (λhm=>by rw[ic.mp hm] at eK;exact xD _ eK) (by rw[hS];exact fz (AZ eK)) (eL _ (eL _ e))
   refine⟨_,H2,I3,?_,q⟩;rcases hP with⟨h0,rfl⟩|⟨h0,t,rfl⟩
   ·rw[if_pos h0];exact⟨_,rfl⟩
   ·rw[if_neg h0];exact⟨_,rfl⟩
end
end L2
namespace L2.Q
section
variable {X:Cx}{K:aC}{e e2 a b:Expr}{ta tb:WE}{p pos aZ':Pos}{x:Str}{id:String}
def OU:W1:=λ_ x Q=>match x with
 |.list xs=>∃ bs:List Bool,xs=bs.map D.bl/\Q .sh (.bl (bs.all (λb=>b)))
 |_=>False
def DR{H:Hp}{bs:List Bool}{vs:List V}(r:bS K H (bs.map D.bl) vs):vs=bs.map V.bl:=by
 induction bs generalizing vs with
 |nil=>exact r.n0
 |cons b bs ih =>obtain⟨u,us,rfl,r1,rs⟩:=bS.c r;cases r1;rw[ih rs];rfl
def qg:DC K (Vz K) OU:=by
 intro Hs H m x v As Qd Qv w rx h f;have r1:=rx.rep w
 cases r1 with
 |list z s q =>obtain⟨bs,rfl,h⟩:=h;cases DR q;exact⟨bs,s,f.sh w (.bl _) h⟩
 |_=>exact h.elim
def qT:W1:=λ_ x Q=>match x with
 |.list xs=>dQ xs=true/\Q .sh (.tup xs)
 |_=>False
def oZ:DC K (λxs H Q=>∃ p ys,xs=[.ref p]/\((fe K H p ys/\∀ l,H l=none->Q (.ref l) (upd H l (.tup ys)))\/(kL K H p ys/\Q (.ref p) H))) qT:=by
 intro Hs H m x v As Qd Qv w rx h f;have r1:=rx.rep w
 cases r1 with
 |list z s q =>have hl:=q.length;exact⟨_,_,rfl,.inl ⟨s,f.tup w (by lia) q h.1 h.2⟩⟩
 |_=>exact h.elim
def y_ (hK:autoParam (X.K=K) bv):kM X (.type "tuple") (λxs H Q=>∃ p ys,xs=[.ref p]/\((fe K H p ys/\∀ l,H l=none->Q (.ref l) (upd H l (.tup ys)))\/(kL K H p ys/\Q (.ref p) H))):=by subst hK;exact jc'
def nF(n:Int)(z:Str):(uS n z).length=n.toNat*z.length:=by unfold uS Str.length;rw[kA,len_rep,y9]
def Ay:W2:=λ_ x _ y Q=>match x,y with
 |.list xs,.int d=>∃ ns:List Int,xs=ns.map D.int/\Q .sh (.int (if ns=[] then d else sv ns ns.length))
 |_,_=>False
def vm{H:Hp}{bs:List Int}{vs:List V}(r:bS K H (bs.map D.int) vs):vs=bs.map V.int:=by
 induction bs generalizing vs with
 |nil=>exact r.n0
 |cons b bs ih =>obtain⟨u,us,rfl,r1,rs⟩:=bS.c r;cases r1;rw[ih rs];rfl
def Fz:kQ K (BJ K) Ay:=by
 walk_at"a";have r1:=rx.rep w;have r2:=ry.rep w
 cases r1 with
 |list z s q=>cases r2 with
  |int d =>obtain⟨ns,rfl,h⟩:=h;cases vm q;exact⟨ns,s,f.sh w (.int _) h⟩
  |_=>exact h.elim
 |_=>cases r2<;>exact h.elim
def Dj:k7 "max" = some (.builtin "max"):=by decide +kernel
def Df:k7 "min" = some (.builtin "min"):=by decide +kernel
def Ks (hg:Gl X "max") (hm:X.mg "max" = none) (he:QE X K e ta) (hd:QE X K e2 tb) (hc:autoParam (X.calm=true) bv) (hK:autoParam (X.K=K) bv) (hs:autoParam (aQ X e []) bv):QE X K (.Call (.Name "max" p) [e] [⟨some "default",e2,aZ'⟩] pos) (ay Ay ta tb):=by
 subst hK;exact PE.imp (G5 hc hg hm Dj he hd hs) (iG Fz)
def Hb:R2:=λx y H Q=>match x,y with
 |.int i,.int j=>Q (.int (if j<i then j else i)) H
 |_,_=>False
def Ck:W2:=λ_ x _ y Q=>match x,y with
 |.int i,.int j=>Q .sh (.int (if j<i then j else i))
 |_,_=>False
def yw:kQ K Hb Ck:=by
 walk_at"a";have r1:=rx.rep w;have r2:=ry.rep w
 cases r1 with
 |int i=>cases r2 with
  |int j=>exact f.sh w (.int _) h
  |_=>exact h.elim
 |_=>cases r2<;>exact h.elim
def z9(hc:kM X (.builtin id) λxs H Q=>∃ x y,xs=[x,y]/\r x y H Q)(br:kQ K r f)(hm:X.mg x=none)(hv:k7 x=some (.builtin id))(ha:QE X K a ta)(hb:QE X K b tb)(hs:autoParam (g7 [a,b] X.env=(false,dE a X.env) :: g7 [b] X.env) bv) (pT:autoParam (aQ X b []) bv) (hn:x ≠ "__name__" := by decide) (rS:cM x:=by decide) (mN:autoParam (bR X pos [b]) bv) (hg:autoParam (Gl X x) bv):QE X K (.Call (.Name x p) [a,b] [] pos) (ay f ta tb):=by
 refine PE.imp (Vd hc hg hm hv (nI ha (nI hb t5 pT) hs) hn rS hs mN) λσ H Qv h=>?_;obtain⟨Hs,ρ,ah,Q,sr,h,fin⟩:=iG br σ H Qv h;exact⟨Hs,ρ,ah,Q,sr,h,λv H1 bq m x As g1 r1 f1 q1=>by
  obtain⟨bE,hZ,fh,Q2,kD,h2,fin2⟩:=fin v H1 bq m x As g1 r1 f1 q1;exact⟨bE,hZ,fh,Q2,kD,h2,λu H2 e7 n y Bs g2 r2 f2 q2=>⟨v,u,rfl,fin2 u H2 e7 n y Bs g2 r2 f2 q2⟩⟩⟩
def Eb (hc:autoParam (X.calm=true) bv):kM X (.builtin "min") λxs H Q=>∃ x y,xs=[x,y]/\Hb x y H Q:=λpins s σ H xs us Q I r dc=>by
 obtain⟨x,y,e,q⟩:=dc;subst e;unfold Hb at q;split at q
 ·exact hO' hc pins s σ H _ us Q I r ⟨_,_,rfl,q⟩
 ·exact q.elim
end
end L2.Q
namespace L2.Q.R
section
variable {Q:Md->L2.Q.D->Prop}{m m':Md}{xs:List L2.Q.D}{a b:Int}
def Rb:OU m (.list xs) Q = ∃ bs:List Bool,xs=bs.map L2.Q.D.bl/\Q .sh (.bl (bs.all (λb=>b))):=rfl
def Ml:qT m (.list xs) Q=(dQ xs=true/\Q .sh (.tup xs)):=rfl
def O8:Ay m (.list xs) m' (.int a) Q = ∃ ns:List Int,xs=ns.map L2.Q.D.int/\Q .sh (.int (if ns=[] then a else sv ns ns.length)):=rfl
def Pq:Ck m (.int a) m' (.int b) Q=Q .sh (.int (if b<a then b else a)):=rfl
end
end L2.Q.R
namespace L2.Q
end L2.Q
end
namespace TS
open PySem PySem.SetTable
def Up(xs:Array Nat):Prop:=∀ i j:Nat,i<j->j<xs.size->xs.getD i 0<xs.getD j 0
def vd{xs:Array Nat}{i d d':Nat}(h:i<xs.size):xs.getD i d=xs.getD i d':=by simp[Array.getD,h]
def nP{xs:Array Nat}(U:Up xs)(j:Nat):∀ fuel lo hi,hi-lo<=fuel->lo<=hi->hi<=xs.size->(∀ i<lo,xs.getD i 0<j)->(∀ i,hi<=i->i<xs.size->j<=xs.getD i 0) ->
  below.go xs j fuel lo hi<=xs.size/\(∀ i<below.go xs j fuel lo hi,xs.getD i 0<j)/\(∀ i,below.go xs j fuel lo hi<=i->i<xs.size->j<=xs.getD i 0)
 |0,lo,hi,hf,h1,h2,h3,h4=>by
  obtain rfl:lo=hi:=by lia
  exact⟨h2,h3,h4⟩
 |fuel+1,lo,hi,hf,h1,h2,h3,h4=>by
  unfold below.go;by_cases c:lo<hi
  ·rw[if_pos c];have hm:(lo+hi) / 2<xs.size:=by lia
   by_cases d:xs.getD ((lo+hi) / 2) j<j
   ·rw[if_pos d];rw[vd hm] at d;refine nP U j fuel _ _ (by lia) (by lia) h2 (λi kX=>?_) h4;by_cases e:i=(lo+hi) / 2
    ·rw[e];exact d
    ·exact Nat.lt_trans (U i _ (by lia) hm) d
   ·rw[if_neg d];rw[vd (d':=0) hm] at d;refine nP U j fuel _ _ (by lia) (by lia) (by lia) h3 λi kX hs=>?_;by_cases e:i=(lo+hi) / 2
    ·rw[e];lia
    ·have:=U ((lo+hi) / 2) i (by lia) hs;lia
  ·rw[if_neg c];obtain rfl:lo=hi:=by lia
   exact⟨h2,h3,h4⟩
def cZ(U:Up xs)(j:Nat):below xs j<=xs.size/\(∀ i<below xs j,xs.getD i 0<j)/\(∀ i,below xs j<=i->i<xs.size->j<=xs.getD i 0) :=
 nP U j xs.size 0 xs.size (by lia) (by lia) (cK _) (λi h=>absurd h (UH i)) λi h1 h2=>by lia
def below_at(U:Up xs)(h:i<xs.size):below xs (xs.getD i 0)=i:=by
 obtain⟨a,b,c⟩:=cZ U (xs.getD i 0);by_cases h1:below xs (xs.getD i 0)<i
 ·have:=c _ (cK _) (by lia);have:=U _ i h1 h;lia
 ·by_cases h2:i<below xs (xs.getD i 0)
  ·have:=b i h2;lia
  ·lia
def wI(U:Up xs)(h:i<xs.size):below xs (xs.getD i 0+1)=i+1:=by
 obtain⟨a,b,c⟩:=cZ U (xs.getD i 0+1);by_cases h1:below xs (xs.getD i 0+1)<i+1
 ·have:=c i (by lia) h;lia
 ·by_cases h2:i+1<below xs (xs.getD i 0+1)
  ·have:=b (i+1) h2;have:=U i (i+1) (by lia) (by lia);lia
  ·lia
def taken(xs:Array Nat)(j:Nat):Bool:=xs[below xs j]? == some j
def G9{xs:Array Nat}{i j:Nat}(h:xs[i]? = some j):i<xs.size/\xs.getD i 0=j:=by obtain⟨h1,h2⟩:=Zn.mp h;exact⟨h1,by simp[Array.getD,h1,h2]⟩
def xV{xs:Array Nat}{i:Nat}(h:i<xs.size):xs[i]? = some (xs.getD i 0):=by simp[Array.getD,h]
def wY{xs:Array Nat}(U:Up xs){j:Nat}:taken xs j=true↔∃ i,i<xs.size/\xs.getD i 0=j:=by
 unfold taken;rw[beq_iff_eq];constructor
 ·intro h;exact⟨_,G9 h⟩
 ·rintro⟨i,h,rfl⟩;rw[below_at U h];exact xV h
def Bq{α:Type}(xs:Array α){p:Nat}(x:α)(h:p<=xs.size):(insertAt xs p x).size=xs.size+1:=by unfold insertAt;simp;lia
def Rl{α:Type}(xs:Array α){p:Nat}(x:α)(h:p<=xs.size)(i:Nat):(insertAt xs p x)[i]? = if i<p then xs[i]? else if i=p then some x else xs[i-1]? := by
 unfold insertAt;have hs:((xs.extract 0 p).push x).size=p+1:=by simp;exact Nat.min_eq_left ‹_›
 by_cases h1:i<p
 ·rw[if_pos h1,Array.getElem?_append_left (by lia),Array.getElem?_push,if_neg (by simp;lia),UK];rw[if_pos (by lia)];simp
 ·rw[if_neg h1];by_cases h2:i=p
  ·rw[if_pos h2,Array.getElem?_append_left (by lia),Array.getElem?_push,if_pos (by simp;lia)]
  ·rw[if_neg h2,Array.getElem?_append_right (by lia),hs,UK];by_cases h3:i-(p+1)<min xs.size xs.size-p
   ·rw[if_pos h3];congr 1;lia
   ·rw[if_neg h3,Qb (by lia)]
def vg(h:p<=xs.size)(i:Nat):(insertAt xs p x).getD i 0=if i<p then xs.getD i 0 else if i=p then x else xs.getD (i-1) 0:=by
 have e:∀ (ys:Array Nat) k,ys.getD k 0=ys[k]?.getD 0:=λys k=>by simp[Array.getD_eq_getD_getElem?]
 rw[e,Rl xs x h];split
 ·rw[e]
 ·split
  ·rfl
  ·rw[e]
def KQ(U:Up xs)(hj:taken xs j=false):Up (insertAt xs (below xs j) j):=by
 obtain⟨a,b,c⟩:=cZ U j;have ne:∀ i,i<xs.size->xs.getD i 0≠j:=λi hi e=>by have:=(wY U).mpr ⟨i,hi,e⟩;rw[hj] at this;cases this
 intro i k hik hk;rw[Bq xs j a] at hk;rw[vg a,vg a];by_cases h1:k<below xs j
 ·rw[if_pos (by lia),if_pos h1];exact U i k hik (by lia)
 ·rw[if_neg h1];by_cases h2:k=below xs j
  ·rw[if_pos h2,if_pos (by lia)];exact b i (by lia)
  ·rw[if_neg h2];by_cases h3:i<below xs j
   ·rw[if_pos h3];exact U i (k-1) (by lia) (by lia)
   ·rw[if_neg h3];by_cases h4:i=below xs j
    ·rw[if_pos h4];have:=c (k-1) (by lia) (by lia);have:=ne (k-1) (by lia);lia
    ·rw[if_neg h4];exact U (i-1) (k-1) (by lia) (by lia)
theorem jB{α:Type}[DecidableEq α]:∀ {l m:List α},l.Nodup->(∀ x∈l,x∈m)->l.length<=m.length
 |[],_,_,_=>f7 _
 |x :: l,m,nd,h=>by rw[ny] at nd;have hx:=h x eh;have:=jB (m:=m.erase x) nd.2 λy hy=>(List.mem_erase_of_ne (λe=>nd.1 (by rw[<- e];exact hy))).mpr (h y (eI _ hy));rw[List.length_erase_of_mem hx] at this;have:0<m.length:=Sf hx;simp only[k8];lia
section
variable {α:Type}
def zf(M:Nat)(owner:Array (Option Nat)):List (Nat × Nat):=(List.range (M+1)).filterMap λj=>(owner.getD j none).map (j,·)
def Hi(M:Nat)(owner:Array (Option Nat)):((zf M owner).map (·.1)).Pairwise (· < ·):=by
 unfold zf;rw[vv,List.pairwise_filterMap];refine List.Pairwise.imp ?_ W8;intro a b He p hp q hq
 cases h1:owner.getD a none with
 |none=>rw[h1] at hp;cases hp
 |some x =>
  cases h2:owner.getD b none with
  |none=>rw[h2] at hq;cases hq
  |some y =>rw[h1] at hp;rw[h2] at hq;cases hp;cases hq;exact He
def Bv{l:List Nat}(h:l.Pairwise (· < ·)):Up l.toArray:=λi j mn hj=>by
 have hj:j<l.length:=by simpa using hj
 have:=E8.mp h i j (by lia) hj mn;have e:∀ k hk,l.toArray.getD k 0=l[k]:=λk hk=>by simp[Array.getD,hk]
 rw[e i (by lia),e j hj];exact this
theorem xU{β:Type}{f:α->Option β}:∀ {l:List α},(∀ x∈l,(f x).isSome=true)->(l.filterMap f).length=l.length/\∀ i:Nat,(l.filterMap f)[i]? = (l[i]?).bind f
 |[],_=>⟨rfl,λi=>by simp⟩
 |x :: l,h=>by
  obtain⟨a,b⟩:=xU λy hy=>h y (eI _ hy);have hx:=h x eh
  cases e:f x with
  |none=>rw[e] at hx;cases hx
  |some y =>
   rw[Sj,e];refine⟨by simp[a],λi=>?_⟩
   cases i with
   |zero=>simp[e]
   |succ i=>simpa using b i
def tW(es:Array (Int × α)):(List.range es.size).filterMap (λi=>es[i]?)=es.toList:=by
 apply L5;intro i;rw[(xU λx hx=>by
  have:=y6.mp hx;simp[this]).2 i]
 by_cases h:i<es.size
 ·rw[UB h,vx];rfl
 ·rw[B6 (by simpa using h),B6 (by simpa using h)];rfl
end
local macro_rules | `(tactic| walk_at $s:str) => do
 let x:=s.getString
 if x.startsWith "PV" then `(tactic| exact $(Lean.mkIdent (.str (.str (.num (.str (.str (.str .anonymous "_private") "PySem") "SetOps") 0) "PySem") (x.drop 2).toString)))
 else Lean.Macro.throwUnsupported
abbrev oN:Array (Int × ag)->SetTable->Bool:=by walk_at "PVdrawn"
abbrev Ds:Bool->Sem Unit:=by walk_at "PVgaveWayHere"
def qJ{α β:Type}{f:α->β}:∀ {l l2},l.Perm l2->∀ {m},l2=m.map f->∃ m':List α,l=m'.map f/\m'.Perm m:=by
 intro l l2 p
 induction p with
 |nil=>intro m e;exact⟨m,by rw[<- e],.refl _⟩
 |cons x _ ih =>
  intro m e
  cases m with
  |nil=>cases e
  |cons y m =>simp only[gL,List.cons.injEq] at e;obtain⟨m',e1,p1⟩:=ih e.2;exact⟨y :: m',by rw[gL,<- e1,e.1],p1.cons _⟩
 |swap x y l =>
  intro m e
  match m,e with
  |a :: b :: m,e =>simp only[gL,List.cons.injEq] at e;exact⟨b :: a :: m,by simp[e.1,e.2.1,e.2.2],.swap ..⟩
 |trans _ _ ih1 ih2 =>intro m e;obtain⟨m',e1,p1⟩:=ih2 e;obtain⟨m2,e2,p2⟩:=ih1 e1;exact⟨m2,e2,p2.trans p1⟩
def vV{α:Type}(xs:Array α)(p:Nat)(x:α):(insertAt xs p x).toList=xs.toList.take p++x :: xs.toList.drop p:=by unfold insertAt;simp;rw[L4 (by simp)]
end TS
namespace TS
open PySem PySem.SetTable PyProof.Rows
section
variable {prog:cf}{w:cw}{A:ft}{R:Result->aI->Prop}{I:ai}{fp wr:List ai}{n:Nat}{P:Nat->ag->Prop}{St:Nat->df->Prop}
def CJ(W:Walks prog w A.in1 I fp wr n P St)(S:ai)(ER:S∉fp)(SI:Nat->df->Prop)(keep:∀ i h h',SI i h->(∀ b o,b∉wr->h.get? b=some o->h'.get? b=some o)->SI i h')(step:∀ i v s' E' Q,P i v->SI i s'.heap->(∀ b h' tk,Heap.SameBut S s'.heap h'->SI (i+1) h'->Q b { s' with heap:=h',toks:=tk })->aS (aE prog w) A.in1 (setAdd S v) Q E' s') :
  ∀ k i s,n-i=k->i<=n->St i s.heap->SI i s.heap -> (∀ h' tk,SI n h'->(∀ b o,b∉wr->b≠S->s.heap.get? b=some o->h'.get? b=some o)->R (.ok (.ret .none)) { s with heap:=h',toks:=tk }) ->
   xA (aE prog w) A (.builtin "set.update.loop" ⟨[.ref S,.ref I],[]⟩) R s:=by
 intro k
 induction k with
 |zero =>
  intro i s hk hi rh hS hR;have dr:i=n:=by lia
  subst dr;refine B3 F.entry_set_update_loop ?_;refine av (W.done s _ _ rh λh' tk i7=>?_);show aS _ A.in1 (ret Value.none) _ _ _;exact aT (hR h' tk (keep _ _ _ hS i7) λb o hb _ e=>i7 b o hb e)
 |succ k ih =>
  intro i s hk hi rh hS hR;have eK:i<n:=by lia
  refine B3 F.entry_set_update_loop ?_;refine av (W.item i s _ _ eK rh λv h' tk hP T7 i7=>?_);refine av (vn (step i v _ _ _ hP (keep _ _ _ hS i7) λb h2 tk2 sb hS2=>?_));refine aT ⟨DZ F.plain_set_update_loop _,ih (i+1) _ (by lia) eK (W.frame _ _ _ T7 λb hb o e=>?_) hS2 λh3 tk3 hS3 N9=>?_⟩
  ·exact sb.extBut b o (λz=>ER (by rw[<- z];exact hb)) e
  ·exact hR h3 tk3 hS3 λb o hb w_ e=>N9 b o hb w_ (sb.extBut b o w_ (i7 b o hb e))
end
section
variable {prog:cf}{w:cw}{A:ft}{E:ag->aI->Prop}{s:aI}
def yt(a:ag)(h:Q₁ (.ref s.heap.objs.size) { s with heap:=s.heap.push { cls:=.type "set",dict:=none,data:=.set #[] 0 (.fresh 0 0 (!w.params.followText "set-order")) } }) :
  xA (aE prog w) A (.call (.builtin "set.__new__") ⟨[.type "set",a],[]⟩) (wants Q₁ E) s:=by
 refine codeAny_of_tree ?_;refine av (LV (F.newCall_set_1 a) (aT ⟨DZ F.plain_set_new _,B3 F.entry_set_new ?_⟩));unfold Builtin.«set.__new__» Builtin.Frozenset.newClass;have lW':=sub_set_self;obtain⟨hp,g,d,tk,os⟩:=s
 wp_walk
 refine P1 (aT ?_);dsimp only;refine av (wpAny_alloc (aT ?_));exact aT h
def qp(hh:A.handled=none)(hl:s.heap.IsList l items)(SI:Nat->df->Prop)(h0:∀ h,h.get? s.heap.objs.size=some { cls:=.type "set",dict:=none,data:=.set #[] 0 (.fresh 0 0 (!w.params.followText "set-order")) }->(∀ b o,s.heap.get? b=some o->h.get? b=some o)->SI 0 h) (keep:∀ i h h',SI i h->(∀ b o,b<=s.heap.objs.size->h.get? b=some o->h'.get? b=some o)->SI i h') (step:∀ i v s' E' Q,items[i]? = some v->SI i s'.heap->(∀ b h' tk,Heap.SameBut s.heap.objs.size s'.heap h'->SI (i+1) h'->Q b { s' with heap:=h',toks:=tk }) ->
   aS (aE prog w) A.in1.in1.in1 (setAdd s.heap.objs.size v) Q E' s')
  (h:∀ h' tk,SI items.size h'->(∀ b o,b<s.heap.objs.size->s.heap.get? b=some o->h'.get? b=some o)->Q (.ref s.heap.objs.size) { s with heap:=h',toks:=tk }) :
  aS (aE prog w) A (call (.type "set") [.ref l]) Q E s:=by
 obtain⟨c,tl,qu'⟩:=F.called_set.mro;have qv':=F.called_set.made;have lW':=F.called_set.sub;refine wpAny_call (codeAny_of_tree ?_);show aS _ _ (callAny (.type "set") _) _ _ _;refine aT ⟨Code.quiet_builtin _ (by decide +kernel),B3 F.entry_type_call ?_⟩;rw[Around.under_plain (weight_type_call_type "set" [.ref l] []) rfl];have h1:=F.called_set.notType;have h2:=F.called_set.canCreate;have hct:=F.typeCall_set_1 (.ref l);repeat (any_goals (first|assumption|wp_step))
 refine codeAny_mono (yt (.ref l) (E:=E) (Q₁:=λobj fo=>obj=.ref s.heap.objs.size/\fo={ s with heap:=s.heap.push { cls:=.type "set",dict:=none,data:=.set #[] 0 (.fresh 0 0 (!w.params.followText "set-order")) } }) ⟨rfl,rfl⟩) λr fo hr=>?_
 cases r with
 |error e=>exact hr
 |ok fl =>
  cases fl with
  |ret obj =>
   obtain⟨rfl,rfl⟩:=hr;generalize qx':(!w.params.followText "set-order")=led at h0 ⊢;have hS:(s.heap.push { cls:=.type "set",dict:=none,data:=.set #[] 0 (.fresh 0 0 led) }).get? s.heap.objs.size=some { cls:=.type "set",dict:=none,data:=.set #[] 0 (.fresh 0 0 led) }:=ip _ rfl;have hT:Shared.TypeIs { s with heap:=s.heap.push { cls:=.type "set",dict:=none,data:=.set #[] 0 (.fresh 0 0 led) } } (.ref s.heap.objs.size) "set" := ⟨_,hS,rfl⟩
   have hli:=F.called_set.init.lookup;have hbi:=F.called_set.init.bind (.ref s.heap.objs.size);repeat (any_goals (first|assumption|wp_step))
   refine codeAny_mono (codeAny_call_builtin (R:=wants (λr zi=>r=.none/\∃ h' tk,zi={ s with heap:=h',toks:=tk }/\SI items.size h' /\ (∀ b o,b<s.heap.objs.size->s.heap.get? b=some o->h'.get? b=some o)) E) F.called_set.init.plain F.entry_set_init (check_set_init_1 hT ?_)) λlX' zi ba'=>?_
   ·obtain⟨ol,ng,NS,nl,hdl⟩:=hl;obtain⟨qz',lY',qA',lZ'⟩:=ol;simp only at NS hdl;subst NS;subst hdl;have ma':(s.heap.push { cls:=.type "set",dict:=none,data:=.set #[] 0 (.fresh 0 0 led) }).get? l=some { cls:=.type "list",dict:=lY',data:=.seq items nl,slots:=lZ' }:=eL _ ng;have qB':=F.sub_list_set;have qC':=F.sub_list_frozenset;have iX:(Value.type "list" == Value.type "dict")=false:=by decide
    have Ry:(s.heap.push { cls:=.type "set",dict:=none,data:=.set #[] 0 (.fresh 0 0 led) }).IsList l items:=⟨_,ma',rfl,nl,rfl⟩
    unfold Builtin.«set.__init__» noKeywords Builtin.Frozenset.updateFrom;generalize hPI:pyIter=PI
    wp_walk
    subst hPI;refine R7 Ry ?_;refine av (wpAny_runValue ?_);have hlS:l<s.heap.objs.size:=e8 ng;have hh3:A.in1.in1.in1.handled=none:=by simp[hh]
    have fN:(s.heap.push { cls:=.type "set",dict:=none,data:=.set #[] 0 (.fresh 0 0 led) }).objs.size=s.heap.objs.size+1:=My ..;have md':l≠(s.heap.push { cls:=.type "set",dict:=none,data:=.set #[] 0 (.fresh 0 0 led) }).objs.size:=by rw[fN];exact fz (AZ hlS)
    have ER:s.heap.objs.size∉[(s.heap.push { cls:=.type "set",dict:=none,data:=.set #[] 0 (.fresh 0 0 led) }).objs.size,l]:=by rw[fN];simp only[eu,ic,vw,or_false,not_or];exact⟨fz (P9 _),MD hlS⟩
    refine CJ (Walks.list hh3 _ l md' items) s.heap.objs.size ER SI (λi h h' hi hk=>keep i h h' hi λb o hb e=>hk b o ?_ e) (λi v s' E' Q' hP hi hq=>step i v s' E' Q' hP hi hq) (items.size-0) 0 _ (by lia) (f7 _) ⟨⟨_,ip _ rfl,rfl,rfl⟩,(Ry.push _)⟩ ?hS0 ?hR
    ·rw[fN];simp only[eu,vw,or_false];exact fz (Nat.lt_succ_of_le hb)
    case hS0 =>
     exact h0 _ (eL _ hS) λb o e=>eL _ (eL _ e)
    case hR =>
     intro h' Wa AQ i7;show aS _ _ _ _ _ _;refine aT ?_;show aS _ _ (ret Value.none) _ _ _;refine aT ⟨rfl,h',Wa,rfl,AQ,λb o hb e=>?_⟩;refine i7 b o ?_ (fz hb) (eL _ (eL _ e));rw[fN];simp only[eu,vw,or_false];exact fz (AZ hb)
   ·cases lX' with
    |error e=>exact ba'
    |ok mf' =>
     cases mf' with
     |ret r =>
      obtain⟨rfl,h',tk,rfl,AQ,i7⟩:=ba';repeat (any_goals (first|assumption|wp_step))
      exact h _ _ AQ i7
     |_=>exact ba'.elim
  |_=>exact hr.elim
end
def qG:Manifest.owners.lookup (String.ofList ['r','o','t','a','r','e','t','i','_','t','e','s'].reverse)=some Manifest.sig_set_iterator:=by kernel_rfl
def bx:Slot "set_iterator" "__next__" "set_iterator.__next__" :=
 .of (owner := "set_iterator") (n := "__next__") (by rw[typeLookup_type,builtinLookup_eq_fast];kernel_rfl) (by decide +kernel) (by decide +kernel) (by decide +kernel) (by first|exact .inl (by decide +kernel)|exact .inr (by decide +kernel)) (by rw[isSubtype_type];kernel_rfl)
def lO:entryFor table "set_iterator.__next__" = some Builtin.«set_iterator.__next__» := entryFor_of_tree (by kernel_rfl)
def oY (a:ag):argsOk "set_iterator.__next__" ⟨[a],[]⟩:=by unfold argsOk;rw[signature?_of (n:=['_','_','t','x','e','n','_','_']) (by kernel_rfl) qG];kernel_rfl
def gf:Slot "set_iterator" "__iter__" "set_iterator.__iter__" :=
 .of (owner := "set_iterator") (n := "__iter__") (by rw[typeLookup_type,builtinLookup_eq_fast];kernel_rfl) (by decide +kernel) (by decide +kernel) (by decide +kernel) (by first|exact .inl (by decide +kernel)|exact .inr (by decide +kernel)) (by rw[isSubtype_type];kernel_rfl)
def lU:entryFor table "set.__iter__" = some Builtin.«frozenset.__iter__» :=
 entryFor_alias (id' := "frozenset.__iter__") (by kernel_rfl) rfl (by decide +kernel) (by kernel_rfl)
theorem ie{α:Type}:∀ (l:List α) i h,(l[i] :: l.eraseIdx i).Perm l
 |x :: l,0,_=>.refl _
 |x :: l,i+1,h=>by have ih:=ie l i (by simpa using h);exact(List.Perm.swap _ _ _).trans (ih.cons x)
theorem z_{α:Type}(next:Nat->Nat):∀ (fuel k:Nat) left (out:Array α),left.length=fuel->(pickOrder.go next fuel k left out).toList.Perm (out.toList++left)
 |0,k,left,out,h=>by have:left=[]:=LZ.mp h;subst this;unfold pickOrder.go;rw[tJ]
 |fuel+1,k,left,out,h=>by unfold pickOrder.go;have eK:next k % left.length<left.length:=Nat.mod_lt _ (by lia);rw[tI eK];refine(z_ next fuel (k+1) _ _ (by rw[List.length_eraseIdx];split<;>lia)).trans ?_;rw[ML,B7];exact List.Perm.append_left _ (ie _ _ eK)
def jJ{α:Type}(next:Nat->Nat)(xs:Array α):(pickOrder next xs).toList.Perm xs.toList:=by unfold pickOrder;have:=z_ next xs.size 0 xs.toList #[] (by simp);simpa using this
section
variable {prog:cf}{w:cw}{A:ft}{E:ag->aI->Prop}{s:aI}
def qd(hn:n≠0)(h:∀ i d,i<n->Q i { s with drawn:=d }):aS M A (choose src n) Q E s:=λΓ p _=>⟨hn,h _ _ (Nat.mod_lt _ (Nat.pos_of_ne_zero hn))⟩
def Hl{α:Type}(n:Nat):∀ (xs:List α) s Q,xs.length=n->(∀ ys d,ys.Perm xs->Q ys { s with drawn:=d })->aS (aE prog w) A (drawOrder n xs) Q E s:=by
 induction n with
 |zero =>intro xs s Q h q;have:xs=[]:=LZ.mp h;subst this;exact aT (q [] s.drawn (.refl _))
 |succ n ih =>
  intro xs s Q h q
  cases xs with
  |nil=>cases h
  |cons x xs =>refine av (qd (by simp) λi d hi=>?_);rw[tI hi];exact av (ih _ _ _ (by rw[List.length_eraseIdx,if_pos hi];simp at h ⊢;lia) λys d' py=>aT (q _ d' ((py.cons _).trans (ie _ _ hi))))
def xa(h:df)(I:ai)(first:ag)(i:Nat)(a:ai)(n ep:Nat):Prop :=
 h.get? I=some { cls:=.type "set_iterator",dict:=none,data:=.fields #[first,.int i 0,.ref a,.int n 0,.int ep 0],slots:=#[] }
def EV(h:df)(a:ai)(es:Array (Int × ag))(ep:Nat)(t:SetTable):Prop:=∃ o,h.get? a=some o/\o.data=.set es ep t
variable {a I:ai}{es:Array (Int × ag)}{ep:Nat}{t:SetTable}{first:ag}{i n:Nat}
def xa.typeIs (h:xa s.heap I first i a n ep):s.TypeIs (.ref I) "set_iterator" := ⟨_,h,rfl⟩
def wV(hit:xa s.heap I first i a n ep)(h:aS (aE prog w) A.in1 (Builtin.«set_iterator.__next__» ⟨[.ref I],[]⟩) (λfin s'=>∃ v,fin=.done (.ret v)/\Q (some v) s') (λe s'=>aS (aE prog w) A (isInstance e (.type "StopIteration")) (λb JA=>b=true/\Q none JA) E s') s) :
  aS (aE prog w) A (pyNext (.ref I)) Q E s:=by
 refine av (wpAny_attempt (PR hit.typeIs bx (E4 bx hit.typeIs lO ?_ (oY _))))
 refine oS h (λfin s' ⟨v,e,q⟩=>⟨v,e,aT q⟩) λe s' q=>?_;refine av (oS q (λb JA dc=>?_) λ_ _ x=>x);obtain⟨e,q⟩:=dc;subst e;exact aT q
def z7{P:Fin->aI->Prop}{Q:Option ag->aI->Prop}(hh:A.handled=none)(hQ:∀ h',(∀ b o,s.heap.get? b=some o->h'.get? b=some o)->Q none { s with heap:=h' }) :
  aS (aE prog w) A.in1 (newExc (.type "StopIteration") [] >>= λe=>raiseNew e) P (λe s'=>aS (aE prog w) A (isInstance e (.type "StopIteration")) (λb JA=>b=true/\Q none JA) E s') s:=by
 refine av ?_;refine av (tm ?_ (by size_fits));refine av (LV (by first|rfl|(simp only[firstArgMember];rfl)) ?_);refine tm ?_ (by size_fits);refine av (wpAny_handled ?_);rw[show A.in1.handled=none from hh];refine av (aT (wpAny_throw ?_));refine R8 ⟨_,ip _ rfl,rfl⟩ isSubtype_stop ⟨rfl,?_⟩;exact hQ _ λb o e=>eL _ (eL _ e)
def f9{Q:Option ag->aI->Prop}{slot:Nat}{r:Option (ag × Nat)}(hh:A.handled=none)(iX:a≠I)(hit:xa s.heap I (.int slot 0) i a es.size ep)(OV:EV s.heap a es ep t)(hf:t.fits es.size=true)(hr:∀ A' E' Q',Q' r s->aS (aE prog w) A' (setNext a slot i ep) Q' E' s)(h1:∀ x nx h',r=some (x,nx)->xa h' I (.int nx 0) (i+1) a es.size ep->Heap.SameBut I s.heap h'->Q (some x) { s with heap:=h' }) (h2:∀ h',r=none->(∀ b o,b≠I->s.heap.get? b=some o->h'.get? b=some o)->Q none { s with heap:=h' }) :
  aS (aE prog w) A (pyNext (.ref I)) Q E s:=by
 obtain⟨o,ho,hd⟩:=OV;refine wV hit ?_;refine av (LV rfl ?_);refine av (wpAny_fieldsOf hit rfl ?_);refine av (wpAny_setEntries_of ho hd hf ?_);rw[if_neg (by simp)];refine av (hr _ _ _ ?_)
 cases r with
 |some p =>obtain⟨x,nx⟩:=p;exact av (PY hit (by simp) λg1 e1 EW=>av (PY e1 (by simp) λg2 e2 T_=>aT ⟨x,rfl,h1 x nx g2 rfl (by unfold xa;simpa[pf] using e2) (EW.trans T_)⟩))
 |none =>exact av (PY hit (by simp) λg1 e1 EW=>z7 hh λh' k=>h2 h' rfl λb o hb e=>k b o (EW.extBut b o hb e))
def mZ{Q:Option ag->aI->Prop}{T:ai}{ix:List Nat}{oT:Obj}{kT:Nat}(hh:A.handled=none)(hit:xa s.heap I (.ref T) i a es.size ep)(OV:EV s.heap a es ep t)(hf:t.fits es.size=true)(hT:s.heap.get? T=some oT) (hTd:oT.data=.seq (ix.map λ(k:Nat)=>Value.int k 0).toArray kT)(h1:∀ k e h',ix[i]? = some k->es[k]? = some e->xa h' I (.ref T) (i+1) a es.size ep->Heap.SameBut I s.heap h'->Q (some e.2) { s with heap:=h' }) (NX:∀ k∈ix,k<es.size) (h2:∀ h',ix[i]? = none->(∀ b o,b≠I->s.heap.get? b=some o->h'.get? b=some o)->Q none { s with heap:=h' }) :
  aS (aE prog w) A (pyNext (.ref I)) Q E s:=by
 obtain⟨o,ho,hd⟩:=OV;refine wV hit ?_;refine av (LV rfl ?_);refine av (wpAny_fieldsOf hit rfl ?_);refine av (wpAny_setEntries_of ho hd hf ?_);rw[if_neg (by simp)];refine av (wpAny_seqItems hT hTd ?_);simp only[IL,List.getElem?_toArray,g9]
 cases hk:ix[i]? with
 |some k =>have LB:=NX k (nh hk);refine av ?_;refine av (PZ ho hd hf ?_);simp only[IL];rw[if_neg (by simp),D8 LB];exact aT (av (PY hit (by simp) λg1 e1 EW=>aT ⟨_,rfl,h1 k es[k] g1 hk (D8 LB) (by unfold xa;simpa[pf] using e1) EW⟩))
 |none =>exact av (PY hit (by simp) λg1 e1 EW=>av (PY e1 (by simp) λg2 e2 T_=>z7 hh λh' k=>h2 h' hk λb o hb e=>k b o ((EW.trans T_).extBut b o hb e)))
def n_ (a:ag):argsOk "set_iterator.__iter__" ⟨[a],[]⟩:=by unfold argsOk;rw[signature?_of (n:=['_','_','r','e','t','i','_','_']) (by kernel_rfl) qG];kernel_rfl
def lN:entryFor table "set_iterator.__iter__" = some Builtin.«dict_keyiterator.__iter__» :=
 entryFor_alias (id' := "dict_keyiterator.__iter__") (by kernel_rfl) rfl (by decide +kernel) (by kernel_rfl)
def j6(hit:xa s.heap I first i a n ep)(h:Q (.ref I) s):aS (aE prog w) A (pyIter (.ref I)) Q E s:=by exact wpAny_pyIter_slot hit.typeIs gf (E4 gf hit.typeIs lN (aT ⟨_,rfl, "set_iterator",_,hit.typeIs,bx.lookup,h⟩) (n_ _))
def pL {slot:Nat} {Q:Option (ag × Nat)->aI->Prop} (hb:w.params.followText "set-order" = true) (OV:EV s.heap a es ep t) (hf:t.fits es.size=true)(h:Q (((pickOrder (w.params.setOrder a ep) es)[i]?).map λe=>(e.2,slot)) s):aS (aE prog w) A (setNext a slot i ep) Q E s:=by
 obtain⟨o,ho,hd⟩:=OV;refine av (PZ ho hd hf ?_);refine av (av (P1 (aT ?_)));rw[if_pos (by exact hb),if_neg (by simp)];refine av ?_;refine av (PZ ho hd hf ?_);refine av (av (P1 (aT ?_)));rw[if_pos (by exact hb)];exact av (P1 (aT (aT h)))
def mW {slot:Nat} {Q:Option (ag × Nat)->aI->Prop} (hb:w.params.followText "set-order" = false) (hl:t.led=true) (RV:(!t.plain && decide (es.size>1))=false) (OV:EV s.heap a es ep t) (hf:t.fits es.size=true)(h:Q (match es[below t.place slot]?,t.place[below t.place slot]? with
  |some (_,x),some j=>some (x,j+1)
  |_,_=>none) s):aS (aE prog w) A (setNext a slot i ep) Q E s:=by
 obtain⟨o,ho,hd⟩:=OV;refine av (PZ ho hd hf ?_);refine av (av (P1 (aT ?_)));rw[if_neg (by rw[show(aE prog w).w.params.followText "set-order" = false from hb];exact nX)];have e0:oN es t=(!t.plain && decide (es.size>1)):=rfl;unfold oN at e0;rw[e0,RV,if_neg nX];refine av ?_;show aS _ _ (if (!t.led && !es.isEmpty)=true then unsupported "set:maker-not-led" else pure ()) _ _ s;rw[if_neg (by rw[hl];simp)];exact aT (aT h)
def PV(ys:List (Int × ag))(i:Nat)(v:ag):Prop:=∃ e,ys[i]? = some e/\v=e.2
def xa.keep(x:xa h I first i a n ep)(e:∀ o,h.get? I=some o->h'.get? I=some o):xa h' I first i a n ep:=e _ x
def EV.keep(x:EV h a es ep t)(e:∀ o,h.get? a=some o->h'.get? a=some o):EV h' a es ep t:=let ⟨o,ho,r⟩:=x;⟨o,e _ ho,r⟩
def xH (hh:A.handled=none) (iX:a≠I) (hb:w.params.followText "set-order" = true) (hf:t.fits es.size=true) :
  Walks prog w A I [I,a] [I] es.size (PV (pickOrder (w.params.setOrder a ep) es).toList) (λi h=>(∃ slot:Nat,xa h I (.int slot 0) i a es.size ep)/\EV h a es ep t) where
 sub:=λb hb=>by simp at hb;simp[hb]
 frame:=λ_ _ _ ⟨⟨sl,x⟩,y⟩ hk=>⟨⟨sl,x.keep λo e=>hk I (by simp) o e⟩,y.keep λo e=>hk a (by simp) o e⟩
 item:=λi s Q E hi ⟨⟨sl,x⟩,y⟩ hQ=>by
  have hlen:(pickOrder (w.params.setOrder a ep) es).size=es.size:=by have:=(jJ (w.params.setOrder a ep) es).length_eq;simpa using this
  refine f9 hh iX x y hf (r:=((pickOrder (w.params.setOrder a ep) es)[i]?).map λe=>(e.2,sl)) (λA' E' Q' q=>pL hb y hf q) (λv nx h' e x' sb=>?_) λh' e k=>?_
  ·rw[D8 (by lia)] at e;cases e;exact hQ _ h' s.toks ⟨_,by rw[vx];exact D8 (by lia),rfl⟩ ⟨⟨_,x'⟩,y.keep λo e=>sb.extBut _ _ iX e⟩ λb o hb e=>sb.extBut b o (λh=>hb (by simp[h])) e
  ·rw[D8 (by lia)] at e;cases e
 done:=λs Q E ⟨⟨sl,x⟩,y⟩ hQ=>by
  have hlen:(pickOrder (w.params.setOrder a ep) es).size=es.size:=by have:=(jJ (w.params.setOrder a ep) es).length_eq;simpa using this
  refine f9 hh iX x y hf (r:=((pickOrder (w.params.setOrder a ep) es)[es.size]?).map λe=>(e.2,sl)) (λA' E' Q' q=>pL hb y hf q) (λv nx h' e x' sb=>?_) λh' e k=>?_
  ·rw[Qb (by lia)] at e;cases e
  ·exact hQ h' s.toks λb o hb e=>k b o (λh=>hb (by simp[h])) e
 self:=λ_ _ _ _ ⟨⟨sl,x⟩,y⟩ hQ=>j6 x hQ
def slotAt(t:SetTable):Nat->Nat
 |0=>0
 |i+1=>t.place.getD i 0+1
def iY(U:Up t.place)(h:i<=t.place.size):below t.place (slotAt t i)=i:=by
 cases i with
 |zero =>
  obtain⟨_,b,_⟩:=cZ U 0;by_cases z:below t.place 0=0
  ·exact z
  ·exact absurd (b 0 (Nat.pos_of_ne_zero z)) (UH _)
 |succ i=>exact wI U (by lia)
def vR (hh:A.handled=none) (iX:a≠I) (hb:w.params.followText "set-order" = false) (hl:t.led=true) (RV:(!t.plain && decide (es.size>1))=false) (U:Up t.place) (hz:t.place.size=es.size) (hf:t.fits es.size=true) :
  Walks prog w A I [I,a] [I] es.size (PV es.toList) (λi h=>xa h I (.int (slotAt t i:Nat) 0) i a es.size ep/\EV h a es ep t) where
 sub:=λb hb=>by simp at hb;simp[hb]
 frame:=λ_ _ _ ⟨x,y⟩ hk=>⟨x.keep λo e=>hk I (by simp) o e,y.keep λo e=>hk a (by simp) o e⟩
 item:=λi s Q E hi ⟨x,y⟩ hQ=>by
  have Wb:=iY (t:=t) U (i:=i) (by lia);have e1:es[below t.place (slotAt t i)]? = some es[i]:=by rw[Wb];exact D8 hi
  have e2:t.place[below t.place (slotAt t i)]? = some (t.place.getD i 0):=by rw[Wb];exact xV (by lia)
  refine f9 hh iX x y hf (r:=some (es[i].2,t.place.getD i 0+1)) (λA' E' Q' q=>mW hb hl RV y hf (by rw[e1,e2];exact q)) (λv nx h' e x' sb=>?_) λh' e k=>nomatch e;cases e;exact hQ _ h' s.toks ⟨_,by rw[vx];exact D8 hi,rfl⟩ ⟨x',y.keep λo e=>sb.extBut _ _ iX e⟩ λb o hb e=>sb.extBut b o (λh=>hb (by simp[h])) e
 done:=λs Q E ⟨x,y⟩ hQ=>by
  have Wb:=iY (t:=t) U (i:=es.size) (by lia);have e1:es[below t.place (slotAt t es.size)]? = none:=by rw[Wb];exact Qb (cK _)
  refine f9 hh iX x y hf (r:=none) (λA' E' Q' q=>mW hb hl RV y hf (by rw[e1];exact q)) (λv nx h' e x' sb=>nomatch e) λh' e k=>?_;exact hQ h' s.toks λb o hb e=>k b o (λh=>hb (by simp[h])) e
 self:=λ_ _ _ _ ⟨x,y⟩ hQ=>j6 x hQ
def vH{T:ai}{ix:List Nat}{kT:Nat}(hh:A.handled=none)(iX:a≠I)(hTI:T≠I)(hf:t.fits es.size=true)(hp:ix.Perm (List.range es.size)) :
  Walks prog w A I [I,a,T] [I] es.size (PV (ix.filterMap λk=>es[k]?)) (λi h=>xa h I (.ref T) i a es.size ep/\EV h a es ep t/\∃ o,h.get? T=some o/\o.data=.seq (ix.map λ(k:Nat)=>Value.int k 0).toArray kT):=by
 have hlen:ix.length=es.size:=by simpa using hp.length_eq
 have NX:∀ k∈ix,k<es.size:=λk hk=>y6.mp (hp.mem_iff.mp hk);obtain⟨f1,f2⟩:=xU (l:=ix) (f:=λk=>es[k]?) λk hk=>by simp[NX k hk]
 exact {
  sub:=λb hb=>by simp at hb;simp[hb]
  frame:=λ_ _ _ ⟨x,y,o,z,zd⟩ hk=>⟨x.keep λo e=>hk I (by simp) o e,y.keep λo e=>hk a (by simp) o e,o,hk T (by simp) o z,zd⟩
  item:=λi s Q E hi ⟨x,y,o,z,zd⟩ hQ=>by
   refine mZ hh x y hf z zd (λk e h' e1 e2 x' sb=>?_) NX λh' e k=>?_
   ·refine hQ _ h' s.toks ⟨e,by rw[f2,e1];exact e2,rfl⟩ ⟨x',y.keep λo e=>sb.extBut _ _ iX e,o,sb.extBut _ _ hTI z,zd⟩ λb o hb e=>sb.extBut b o (λh=>hb (by simp[h])) e
   ·rw[tI (by lia)] at e;cases e
  done:=λs Q E ⟨x,y,o,z,zd⟩ hQ=>by
   refine mZ hh x y hf z zd (λk e h' e1 e2 x' sb=>?_) NX λh' e k=>?_
   ·rw[B6 (by lia)] at e1;cases e1
   ·exact hQ h' s.toks λb o hb e=>k b o (λh=>hb (by simp[h])) e
  self:=λ_ _ _ _ ⟨x,_⟩ hQ=>j6 x hQ }
end
section
variable {prog:cf}{w:cw}{A:ft}{E:ag->aI->Prop}{s:aI}{a:ai}{o:Obj}{es:Array (Int × ag)}{ep:Nat}{t:SetTable}
def By (hh:A.handled=none) (ho:s.heap.get? a=some o) (hex:o.ExactSet) (hd:o.data=.set es ep t) (hf:t.fits es.size=true) (U:Up t.place) (hz:t.place.size=es.size) (hl:t.led=(!w.params.followText "set-order")) (hn:es.size<=bG)(h:∀ I h2 d fp St ys,(∀ b o,s.heap.get? b=some o->h2.get? b=some o)->s.heap.objs.size<=I->(∀ b∈fp,b=a\/s.heap.objs.size<=b)->ys.Perm es.toList ->
   Walks prog w A I fp [I] es.size (PV ys) St->St 0 h2->Q (.ref I) { s with heap:=h2,drawn:=d }):aS (aE prog w) A (pyIter (.ref a)) Q E s:=by
 have hT:s.TypeIs (.ref a) "set" := ⟨o,ho,hex.1⟩
 have eK:a<s.heap.objs.size:=e8 ho;refine wpAny_pyIter_slot hT F.slot_set_iter (E4 F.slot_set_iter hT lU ?_ (F.args_set_iter_1 _));refine av (LV rfl ?_);refine av ?_;refine av (wpAny_setEntries_of ho hd hf (aT ?_));refine av ?_;refine av (PZ ho hd hf ?_);refine av (av (P1 (aT ?_)));refine aT ?_;have e0:oN es t=(!t.plain && decide (es.size>1)):=rfl;unfold oN at e0;show aS _ _ (if (!w.params.followText "set-order" && (!t.plain && decide (es.size>1)))=true then _ else _) _ _ s
 cases hb:w.params.followText "set-order" with
 |true =>
  refine av (aT ?_);refine av (wpAny_setEpoch_of ho hd hf ?_);refine av (tm ?_);refine aT ⟨_,rfl, "set_iterator",_,⟨_,ip _ rfl,rfl⟩,bx.lookup,?_⟩;have rg:(s.heap.push { cls:=.type "set_iterator",data:=.fields #[pf 0,pf 0,.ref a,pf es.size,pf ep] }).get? a=some o:=eL _ ho;exact h s.heap.objs.size _ s.drawn _ _ _ (λb o e=>eL _ e) (cK _) (λb hb=>by
   rcases eu.mp hb with rfl|hb
   ·exact .inr (cK _)
   ·exact .inl (ic.mp hb)) (jJ _ _) (xH hh (fz eK) hb hf) ⟨⟨0,ip _ rfl⟩,o,rg,hd⟩
 |false =>
  cases RV:(!t.plain && decide (es.size>1)) with
  |false =>
   refine av (aT ?_);refine av (wpAny_setEpoch_of ho hd hf ?_);refine av (tm ?_);refine aT ⟨_,rfl, "set_iterator",_,⟨_,ip _ rfl,rfl⟩,bx.lookup,?_⟩;have rg:(s.heap.push { cls:=.type "set_iterator",data:=.fields #[pf 0,pf 0,.ref a,pf es.size,pf ep] }).get? a=some o:=eL _ ho;exact h s.heap.objs.size _ s.drawn _ _ _ (λb o e=>eL _ e) (cK _) (λb hb=>by
    rcases eu.mp hb with rfl|hb
    ·exact .inr (cK _)
    ·exact .inl (ic.mp hb)) (.refl _) (vR hh (fz eK) hb (by rw[hl,hb];rfl) RV U hz hf) ⟨ip _ rfl,o,rg,hd⟩
  |true =>
   refine av (Hl es.size (List.range es.size) s _ (by simp) λix d hp=>?_);refine av (tm ?_ ?hzz);case hzz =>
    have:=hp.length_eq;rw[Sr] at this;show(ix.map λ(i:Nat)=>pf i).toArray.size<=bG;rw[kA,b4,this];exact hn
   have GO:(s.heap.push { cls:=.type "tuple",data:=.seq (ix.map λ(i:Nat)=>pf i).toArray }).get? a=some o:=eL _ ho;refine av (wpAny_setEpoch_of GO hd hf ?_);refine av (tm ?_);refine aT ⟨_,rfl, "set_iterator",_,⟨_,ip _ rfl,rfl⟩,bx.lookup,?_⟩;have Wc:(s.heap.push { cls:=.type "tuple",data:=.seq (ix.map λ(i:Nat)=>pf i).toArray }).objs.size=s.heap.objs.size+1:=My ..;refine h (s.heap.push { cls:=.type "tuple",data:=.seq (ix.map λ(i:Nat)=>pf i).toArray }).objs.size _ d [(s.heap.push { cls:=.type "tuple",data:=.seq (ix.map λ(i:Nat)=>pf i).toArray }).objs.size,a,s.heap.objs.size] _ (ix.filterMap λk=>es[k]?) (λb o e=>eL _ (eL _ e)) (by rw[Wc];exact II _) (λb hb=>?_) ?_ (vH hh (by rw[Wc];exact fz (AZ eK)) (by rw[Wc];exact fz (P9 _)) hf hp) ⟨ip _ rfl,⟨o,eL _ GO,hd⟩,_,eL _ (ip _ rfl),rfl⟩
   ·rcases eu.mp hb with rfl|hb
    ·exact .inr (by rw[Wc];exact II _)
    ·rcases eu.mp hb with rfl|hb
     ·exact .inl rfl
     ·rw[ic.mp hb];exact .inr (cK _)
   ·have:=hp.filterMap λk=>es[k]?;rw[tW] at this;exact this
def Ao (hT:s.TypeIs (.ref a) "set") (h:Q false s):aS (aE prog w) A (Builtin.List.listLengthHint (.ref a)) Q E s:=by
 refine av (LP hT PySem.F.slot_set_len.lookup ?_);generalize Wd:("set.__len__" : String)=id0
 wp_delta
 subst Wd;exact av (R8 (b:=true) hT (by rw[isSubtype_type];kernel_rfl) (wpAny_ite_split (λHe=>absurd He (by decide)) (λ_=>wpAny_ite_split (λ_=>av (wpAny_typeOf hT (aT h))) (λHe=>absurd (by decide +kernel) He))))
def G3 {R:Result->aI->Prop} (hh:A.handled=none) (ho:s.heap.get? a=some o) (hex:o.ExactSet) (hd:o.data=.set es ep t) (hf:t.fits es.size=true) (U:Up t.place) (hz:t.place.size=es.size) (hl:t.led=(!w.params.followText "set-order")) (hn:es.size<=bG)(S:ai) (hSa:S≠a) (res:ag) (c₀:Nat) (hS:s.heap.get? S=some { cls:=.type "list",data:=.seq #[] c₀ }) (hR:∀ h' tk d CY c' ys,(∀ b o,b≠S->s.heap.get? b=some o->h'.get? b=some o)->h'.get? S=some { cls:=.type "list",dict:=none,data:=.seq CY c',slots:=#[] }->ys.Perm es.toList->ItemsOf (PV ys) CY es.size->R (.ok (.ret res)) { s with heap:=h',toks:=tk,drawn:=d }) :
  aS (aE prog w) A.in1 (Builtin.List.listExtendWith (.ref S) (.ref a) res) (λfin s'=>match fin with|.done f=>R (.ok f) s'|.again c'=>c'.quiet=true/\xA (aE prog w) A c' R s') (λe s'=>R (.error e) s') s:=by
 have hT:s.TypeIs (.ref a) "set" := ⟨o,ho,hex.1⟩
 have hSl:=e8 hS;refine av (wpAny_typeOf hT ?_);have h1:Builtin.List.listSameRef (.ref S) (.ref a)=false:=by simp[Builtin.List.listSameRef,hSa]
 simp only[h1,show(Value.type "set" == Value.type "list")=false by decide,show(Value.type "set" == Value.type "tuple")=false by decide,Bool.or_false,xI,if_false];refine av (By hh ho hex hd hf U hz hl hn λI h2 d fp St ys kp hI hfp hp W st=>?_);have ER:S∉fp:=λhm=>by
  rcases hfp S hm with z|z
  ·exact hSa z
  ·exact absurd hSl (Nat.not_lt.mpr z)
 have key:∀ h c₁ tk,St 0 h->(∀ b o,b≠S->s.heap.get? b=some o->h.get? b=some o) ->
   h.get? S=some { cls:=.type "list",data:=.seq #[] c₁ }->xA (aE prog w) A (.builtin "list.extend.loop" ⟨[.ref S,.ref I,res],[]⟩) R { s with heap:=h,toks:=tk,drawn:=d }:=by
  intro h c₁ tk rh hk Ua;refine codeAny_extend_loopS W.toS hn S ER res es.size 0 _ #[] c₁ rfl (f7 _) rh Ua (ItemsOf.nil _) λs' CY c' hm AQ KS=>?_;rw[Moved.eq_with hm];refine hR s'.heap s'.toks d CY c' ys (λb o hb e=>hm.heap b o (λTK=>?_) (hk b o hb e)) AQ hp KS;rcases eu.mp TK with e'|TK
  ·exact hb e'
  ·exact absurd (e8 e) (by rw[ic.mp TK];exact Nat.not_lt.mpr hI)
 have Ua:h2.get? S=some { cls:=.type "list",data:=.seq #[] c₀ }:=kp _ _ hS;refine av (vn (Ao ⟨o,kp _ _ ho,hex.1⟩ ?_));refine wpAny_ite_split (λ_=>?_) (λ_=>aT ⟨DZ PySem.F.plain_extend_loop _,key _ c₀ _ st (λb o _ e=>kp b o e) Ua⟩);refine av (zS ?_);refine av ?_;refine av (R_ Ua rfl ?_);have eI':=D7 (Obj.mapSeq (·.push Value.none)) Ua rfl;refine R_ eI' rfl ?_;have ml':=D7 (Obj.mapSeq (·.pop)) eI' rfl;refine aT ⟨DZ PySem.F.plain_extend_loop _,key _ _ _ ?_ (λb o hb e=>?_) ml'⟩
 ·refine W.frame 0 _ _ st λb hb o e=>?_;have w_:b≠S:=λh=>ER (h ▸ hb);exact(D6 _ _ (Ne.symm w_)).trans ((D6 _ _ (Ne.symm w_)).trans e)
 ·exact(D6 _ _ (Ne.symm hb)).trans ((D6 _ _ (Ne.symm hb)).trans (kp _ _ e))
def wy(h:ItemsOf (PV ys) acc n)(hn:ys.length=n):acc.toList=ys.map (·.2):=by
 apply L5;intro i;rw[g9];by_cases hi:i<n
 ·have kX:i<acc.size:=by rw[h.1];exact hi
  have e1:acc[i]? = some acc[i]:=D8 kX;obtain⟨e,he,hv⟩:=h.2 i acc[i] e1;rw[vx,e1,he,hv];rfl
 ·rw[B6 (by rw[y9,h.1];lia),B6 (by lia)];rfl
def jk {R:Result->aI->Prop} (hh:A.handled=none) (ho:s.heap.get? a=some o) (hex:o.ExactSet) (hd:o.data=.set es ep t) (hf:t.fits es.size=true) (U:Up t.place) (hz:t.place.size=es.size) (hl:t.led=(!w.params.followText "set-order")) (hn:es.size<=bG)(hR:∀ h' tk d CY c' ys,(∀ b o,s.heap.get? b=some o->h'.get? b=some o)->h'.get? s.heap.objs.size=some { cls:=.type "list",dict:=none,data:=.seq CY c',slots:=#[] }->ys.Perm es.toList->ItemsOf (PV ys) CY es.size->R (.ok (.ret (.ref s.heap.objs.size))) { s with heap:=h',toks:=tk,drawn:=d }) :
  xA (aE prog w) A (.builtin "proto.collect" ⟨[.ref a],[]⟩) R s:=by
 have eK:a<s.heap.objs.size:=e8 ho;have hS:(s.heap.push { cls:=.type "list",data:=.seq ([]:List ag).toArray }).get? s.heap.objs.size=some { cls:=.type "list",data:=.seq ([]:List ag).toArray }:=ip _ rfl;refine B3 F.entry_proto_collect ?_;refine av (tm ?_);refine aT ⟨DZ F.plain_list_iadd _,B3 F.entry_list_iadd ?_⟩;exact G3 hh (eL _ ho) hex hd hf U hz hl hn s.heap.objs.size (MD eK) _ 0 hS λh' tk d CY c' ys kp eo hp ia =>
  hR h' tk d CY c' ys (λb o e=>kp b o (fz (e8 e)) (eL _ e)) eo hp ia
def rM (hh:A.handled=none) (ho:s.heap.get? a=some o) (hex:o.ExactSet) (hd:o.data=.set es ep t) (hf:t.fits es.size=true) (U:Up t.place) (hz:t.place.size=es.size) (hl:t.led=(!w.params.followText "set-order")) (hn:es.size<=bG)(hQ:∀ h' tk d vs,(∀ b o,s.heap.get? b=some o->h'.get? b=some o)->s.heap.objs.size<=h'.objs.size->vs.Perm (es.toList.map (·.2))->Q vs { s with heap:=h',toks:=tk,drawn:=d }):aS (aE prog w) A (collect (.ref a)) Q E s:=by
 refine av (wpAny_runValue (jk hh ho hex hd hf U hz hl hn λh' tk d acc c ys kp eo hp ia=>?_));refine av (wpAny_load eo ?_);refine aT (hQ h' tk d _ kp (MA (e8 eo)) ?_);rw[wy ia (by rw[hp.length_eq];simp)];exact hp.map _
end
end TS
section
open PySem PySem.Spec PyProof.Rows
namespace L2
section
variable {X:Cx}{pins:List (ai × Obj)}{σ:St}{H:Hp}{s:aI}
def Inv.drawn{d}(I:Inv X pins σ H s):Inv X pins σ H { s with drawn:=d }:=⟨I.ok,I.os,I.bare,I.base,I.loc,I.cell,I.free,I.AA,I.pin,I.bP,I.len⟩
def BX:∀ (k:Key) (v:ag),(iq prog w).is k v=true->v.scannable=true:=λk v h=>by rcases Ap h with⟨i,t,rfl,rfl⟩|⟨x,t,rfl,rfl⟩<;>rfl
end
end L2
end
namespace TS
open PySem PySem.SetTable PyProof.Rows
structure WI(t:SetTable)(n:Nat):Prop where
 up:Up t.place
 fits:t.fits n=true
def WI.sz{t:SetTable}{n:Nat}(W:WI t n):t.place.size=n:=by have:=W.fits;simp only[SetTable.fits,k9,beq_iff_eq] at this;exact this.1
def jr(t:SetTable)(n:Nat):WI (t.standIn n) n:=⟨λi j h1 h2=>by
 have h2:j<n:=by simpa[SetTable.standIn] using h2
 simp[SetTable.standIn,Array.getD,show i<n by lia,h2,h1],by simp[SetTable.standIn,SetTable.fits,SetTable.fill];lia⟩
def Dd(led:Bool):WI (SetTable.fresh 0 0 led) 0:=⟨λi j _ h=>absurd h (UH _),rfl⟩
section
variable {t:SetTable}{es:Array (Int × ag)}
def yp{j:Nat}(h:∀ i,t.slot j≠.live i):taken t.place j=false:=by
 unfold SetTable.slot at h;unfold taken
 cases e:t.place[below t.place j]? == some j with
 |false=>rfl
 |true =>simp only[e,if_true] at h;exact absurd rfl (h _)
theorem nO{f:Nat->Int}{h:Int}{j:Nat}{dm:Option Nat}:∀ fuel p,(∀ d,p.dummy=some d->taken t.place d=false)->probe.go t f h fuel p=some (.empty j dm)->taken t.place (dm.getD j)=false
 |0,_,_,e=>nomatch e
 |fuel+1,p,hd,e=>by
  have ad:∀ q:Probe,(t.advance q).dummy=q.dummy:=λq=>by unfold SetTable.advance;split<;>rfl
  unfold probe.go at e
  cases s:t.slot p.j with
  |empty =>
   rw[s] at e;simp only[Option.some.injEq,Met.empty.injEq] at e;obtain⟨rfl,rfl⟩:=e
   cases d:p.dummy with
   |none=>exact yp (j:=p.j) λi z=>by rw[s] at z;cases z
   |some _=>exact hd _ d
  |dummy =>rw[s] at e;refine nO fuel _ (λd z=>?_) e;rw[ad] at z;cases z;exact yp λi z=>by rw[s] at z;cases z
  |live i =>
   rw[s] at e;simp only at e;split at e
   ·cases e
   ·exact nO fuel _ (λd z=>hd d (by rw[ad] at z;exact z)) e
def Er{h:Int}{j:Nat}{b:Bool}(e:t.freeSlot h=some (j,b)):taken t.place j=false:=by
 unfold SetTable.freeSlot at e;split at e
 ·rename_i j' dm q;simp only[Option.some.injEq,Prod.mk.injEq] at e;rw[<- e.1];exact nO _ _ (λd (z:none=some d)=>nomatch z) q
 ·cases e
def Bj(W:WI t es.size)(h:Int)(x:ag):(layNew t es h x).1.toList.Perm ((h,x) :: es.toList)/\WI (layNew t es h x).2.1 (layNew t es h x).1.size/\(layNew t es h x).2.1.led=t.led:=by
 unfold layNew;split
 ·rename_i slot wd e;have hb:=(cZ W.up slot).1;refine⟨?_,?_,?_⟩
  ·show(insertAt es (below t.place slot) (h,x)).toList.Perm _;rw[vV];refine List.perm_middle.trans ?_;rw[Sg]
  ·show WI (SetTable.orStandIn _ (insertAt es (below t.place slot) (h,x)).size) (insertAt es (below t.place slot) (h,x)).size;unfold SetTable.orStandIn;split
   ·exact⟨KQ W.up (Er e),‹_›⟩
   ·exact jr _ _
  ·show(SetTable.orStandIn _ _).led=_;unfold SetTable.orStandIn;split<;>rfl
 ·exact⟨by rw[ML];exact List.perm_append_comm,by rw[Array.size_push];exact jr _ _,rfl⟩
def G_(t:SetTable)(es:Array (Int × ag))(n:Nat):(relayAll t es n).1.toList.Perm es.toList/\WI (relayAll t es n).2.1 (relayAll t es n).1.size/\(relayAll t es n).2.1.led=t.led:=by
 unfold relayAll;split
 ·rename_i t' order e;have hr:∃ owner:Array (Option Nat),t'={ mask:=sizeAbove n-1,place:=((zf (sizeAbove n-1) owner).map (·.1)).toArray,dummies:=#[],finger:=t.finger,led:=t.led,moves:=t.movedTo (sizeAbove n-1),plain:=t.plain }:=by
   unfold SetTable.relaid SetTable.laid at e
   cases o:layClean (sizeAbove n-1) (es.map (·.1)) with
   |none=>rw[o] at e;cases e
   |some owner=>rw[o] at e;cases e;exact⟨owner,rfl⟩
  obtain⟨owner,rfl⟩:=hr;dsimp only;split
  ·rename_i c;rw[k9] at c;refine⟨?_,⟨Bv (Hi _ _),c.2⟩,rfl⟩;rw[Array.toList_filterMap];have p:=(List.isPerm_iff.mp (show order.toList.isPerm (List.range es.size)=true from c.1)).filterMap λi=>es[i]?;rw[tW] at p;exact p
  ·exact⟨.refl _,jr _ _,rfl⟩
 ·exact⟨.refl _,jr _ _,rfl⟩
end
section
variable {prog:cf}{w:cw}{K:Type}[DecidableEq K]{knd:KeyKind prog w K}
def Ub(knd:KeyKind prog w K)(p:K × ag):Int × ag:=(knd.hash p.1,p.2)
structure Wg(knd:KeyKind prog w K)(h:df)(a:ai)(ks:List (K × ag)):Prop where
 ob:∃ o es ep t,h.get? a=some o/\o.ExactSet/\o.data=.set es ep t/\WI t es.size/\t.led=(!w.params.followText "set-order")/\es.toList=ks.map (Ub knd)
 nd:(ks.map (·.1)).Nodup
 is:∀ p∈ks,knd.is p.1 p.2=true
variable {A:ft}{E:ag->aI->Prop}{s:aI}
def yx{b:Bool}{Q:Unit->aI->Prop}(h:Q () s):aS (aE prog w) A (Ds b) Q E s:=by
 cases b with
 |false=>exact aT h
 |true=>exact zS h
def Ft{a:ai}{x:ag}{k:K}{ks:List (K × ag)}{Q:Bool->aI->Prop}(S:Wg knd s.heap a ks)(hx:knd.is k x=true)(hz:ks.length<1000)(x3:∀ k v,knd.is k v=true->v.scannable=true)(h:∀ b h' qa,Heap.SameBut a s.heap h'->Wg knd h' a qa->(k∈ks.map (·.1)/\qa=ks\/k∉ks.map (·.1)/\qa.Perm ((k,x) :: ks))->Q b { s with heap:=h' }) :
  aS (aE prog w) A (setAddHashed a x (knd.hash k)) Q E s:=by
 obtain⟨⟨o,es,ep,t,ho,hex,hd,T,hL,he⟩,nd,is⟩:=id S;have hlen:es.size=ks.length:=by have:=congrArg List.length he;simpa using this
 have hel:ElemsOf knd es.toList:=λe hm=>by rw[he] at hm;obtain⟨p,hp,rfl⟩:=c9.mp hm;exact⟨⟨p.1,is p hp,rfl⟩,x3 _ _ (is p hp)⟩
 have Vt:scanBound=4096:=rfl;refine vn (av (PZ ho hd T.fits ?_));dsimp only;rw[byScan_of (x3 _ _ hx) (by lia) hel];refine av ?_;refine av (zS ?_);refine av (wpAny_setScan_of hx ho hd T.fits hel ?_)
 cases hr:List.findIdx? (λe=>knd.is k e.2) es.toList with
 |some j =>
  refine aT (aT ?_);obtain⟨hj,hpj,_⟩:=List.findIdx?_eq_some_iff_getElem.mp hr;have hm:es.toList[j]∈ks.map (Ub knd):=by rw[<- he];exact L6 hj
  obtain⟨p,hp,ep'⟩:=c9.mp hm;rw[<- ep'] at hpj;have hk:k=p.1:=knd.inj p.2 k p.1 hpj (is p hp);exact h _ _ ks (Heap.SameBut.refl a s.heap) S (.inl ⟨c9.mpr ⟨p,hp,hk.symm⟩,rfl⟩)
 |none =>
  have VJ:k∉ks.map (·.1):=λhm=>by obtain⟨p,hp,rfl⟩:=c9.mp hm;have:=List.findIdx?_eq_none_iff.mp hr (Ub knd p) (by rw[he];exact c9.mpr ⟨p,hp,rfl⟩);rw[show knd.is p.1 (Ub knd p).2=true from is p hp] at this;cases this
  obtain⟨l1,l2,l3⟩:=Bj T (knd.hash k) x;generalize layNew t es (knd.hash k) x=W at *
  obtain⟨qq,t1,wd,gv⟩:=W;have l1:qq.toList.Perm ((k,x) :: ks |>.map (Ub knd)):=by rw[gL,<- he];exact l1
  -- the set with these things
  have fin:∀ h' o' FC t' ep' b,Heap.SameBut a s.heap h'->h'.get? a=some o'->o'.ExactSet->o'.data=.set FC ep' t'->FC.toList.Perm qq.toList->WI t' FC.size->t'.led=t.led->Q b { s with heap:=h' }:=λh' o' FC t' ep' b sb e1 e2 e3 e4 e5 e6=>by
   obtain⟨qa,ek,pk⟩:=qJ (e4.trans l1) rfl;refine h b h' qa sb ⟨⟨o',FC,ep',t',e1,e2,e3,e5,by rw[e6];exact hL,ek⟩,?_,λp hp=>?_⟩ (.inr ⟨VJ,pk⟩)
   ·rw[(pk.map _).nodup_iff,gL,ny];exact⟨VJ,nd⟩
   ·rcases eu.mp (pk.mem_iff.mp hp) with rfl|hp
    ·exact hx
    ·exact is p hp
  have s1:qq.size=es.size+1:=by have:=l1.length_eq;simp at this;lia
  dsimp only at l2 l3 ⊢;refine av (yx ?_);have main:∀ t':SetTable,t'.place=t1.place->t'.fits qq.size=true->t'.led=t.led->aS (aE prog w) A (do
    storeSet a qq t'
    if (!wd && t'.tooFull)=true then do
      Ds (relayAll t' qq (grown qq.size)).2.2
      storeSet a (relayAll t' qq (grown qq.size)).1 (relayAll t' qq (grown qq.size)).2.1
      pure (some true)
     else pure (some true)) (λr s'=>aS (aE prog w) A (match r with|some added=>pure added|none=>setAddHashedIn a x (knd.hash k) 99999) Q E s') E s:=λt' tp tf tl=>by
   refine av (wpAny_storeSet_of ho hd ?_ (by rw[s1,mB];lia));have GO:(s.heap.update a (Obj.putSet qq t')).get? a=some { o with data:=.set qq (ep+1) t' }:=by have:=D7 (Obj.putSet qq t') ho (by rw[putSet_of _ _ hd];rfl);rw[putSet_of _ _ hd] at this;exact this
   have EW:=Heap.SameBut.update s.heap a (Obj.putSet qq t');split
   ·obtain⟨r1,r2,r3⟩:=G_ t' qq (grown qq.size);generalize relayAll t' qq (grown qq.size)=V at *
    obtain⟨es2,t2,g2⟩:=V;dsimp only at r1 r2 r3 ⊢;have s2:=r1.length_eq;simp only[y9] at s2;refine av (yx ?_);refine av (wpAny_storeSet_of GO rfl ?_ (by rw[s2,s1,mB];lia));refine aT (aT ?_);have T_:=EW.trans (Heap.SameBut.update _ a (Obj.putSet es2 t2));have FH:=D7 (Obj.putSet es2 t2) GO (by rw[putSet_of _ _ rfl];rfl);exact fin _ _ es2 t2 _ true T_ FH hex rfl r1 r2 (r3.trans tl)
   ·refine aT (aT ?_);exact fin _ _ qq t' _ true EW GO hex rfl (.refl _) ⟨by rw[tp];exact l2.up,tf⟩ tl
  split
  ·refine av ?_;rw[hashByValue_scannable 8 (x3 _ _ hx)];refine aT ?_;split
   ·exact main _ rfl l2.fits l3
   ·exact main _ rfl l2.fits l3
  ·exact av (aT (main _ rfl l2.fits l3))
end
section
variable {prog:cf}{w:cw}{K:Type}[DecidableEq K]{knd:KeyKind prog w K}{A:ft}{E:ag->aI->Prop}{s:aI}
def oR{l:ai}{items:Array ag}{xs:List (K × ag)}{Q:ag->aI->Prop}(hh:A.handled=none)(hl:s.heap.IsList l items)(hi:items.toList=xs.map (·.2))(BH:∀ p∈xs,knd.is p.1 p.2=true) (hz:xs.length<=1000) (x3:∀ k v,knd.is k v=true->v.scannable=true)(h:∀ h' tk ks,Wg knd h' s.heap.objs.size ks->(∀ k,k∈ks.map (·.1)↔k∈xs.map (·.1))->(∀ p∈ks,p∈xs)->(∀ b o,s.heap.get? b=some o->h'.get? b=some o)->Q (.ref s.heap.objs.size) { s with heap:=h',toks:=tk }) :
  aS (aE prog w) A (call (.type "set") [.ref l]) Q E s:=by
 refine qp hh hl (λi h=>∃ ks,Wg knd h s.heap.objs.size ks/\(∀ k,k∈ks.map (·.1)↔k∈(xs.take i).map (·.1))/\(∀ p∈ks,p∈xs)/\ks.length<=i) (λh e k=>?_) (λi h h' ⟨ks,S,m1,m2,m3⟩ k=>?_) (λi v s' E' Q' hv ⟨ks,S,m1,m2,m3⟩ q=>?_) λh' tk ⟨ks,S,m1,m2,m3⟩ k=>?_
 ·exact⟨[],⟨⟨_,#[],0,_,e,⟨rfl,rfl,rfl⟩,rfl,Dd _,rfl,rfl⟩,mI,λp hp=>nomatch hp⟩,λk=>by simp,(λp hp=>nomatch hp),cK _⟩
 ·obtain⟨⟨o,es,ep,t,ho,r⟩,nd,is⟩:=S;exact⟨ks,⟨⟨o,es,ep,t,k _ _ (cK _) ho,r⟩,nd,is⟩,m1,m2,m3⟩
 ·have vF:items.toList[i]? = some v:=by rw[vx];exact hv
  rw[hi,g9] at vF
  cases ex:xs[i]? with
  |none=>rw[ex] at vF;cases vF
  |some p =>
   rw[ex] at vF;cases vF;have hp:=nh ex;have hil:i<xs.length:=(h9.mp ex).1;have tk1:(xs.take (i+1)).map (·.1)=(xs.take i).map (·.1)++[p.1]:=by rw[vt,ex,kS];rfl
   refine vn (av (knd.pyHash (BH p hp) ?_));refine Ft S (BH p hp) (by lia) x3 λb h' qa sb S' c=>?_;refine q b h' _ sb ⟨qa,S',λk=>?_,λp' n9=>?_,?_⟩
   ·rw[tk1,hJ,ic,<- m1];rcases c with⟨c1,rfl⟩|⟨c1,c2⟩
    ·exact⟨.inl,λz=>z.elim id λe=>e ▸ c1⟩
    ·rw[(c2.map _).mem_iff,gL,eu];exact⟨λz=>z.symm,λz=>z.symm⟩
   ·rcases c with⟨c1,rfl⟩|⟨c1,c2⟩
    ·exact m2 p' n9
    ·rcases eu.mp (c2.mem_iff.mp n9) with rfl|z
     ·exact hp
     ·exact m2 p' z
   ·rcases c with⟨c1,rfl⟩|⟨c1,c2⟩
    ·lia
    ·rw[c2.length_eq];simp;lia
 ·have e:items.size=xs.length:=by have:=congrArg List.length hi;simpa using this
  rw[e,AY] at m1;exact h h' tk ks S m1 m2 λb o ho=>k b o (e8 ho) ho
end
end TS
section
open PySem PySem.Spec PyProof.Rows
namespace L2
def gR(K:aC):V->Hp->VK->Prop:=λx H Q=>match x with
 |.ref p=>∃ (ks:List Key) (b:Bool),fe K H p (ks.map kV)/\ks.length<=1000/\(∀ k∈ks,oy k=b) /\
   ∀ (ms:List Key) l,ms.Nodup->(∀ k,k∈ms↔k∈ks)->(ms.Pairwise λa b=>oa b a=false)->H l=none->Q (.ref l) (upd H l (.lst (ms.map kV)))
 |_=>False
def v9(h:Vals (ks.map kV) vs):∃ xs:List (Key × ag),vs=xs.map (·.2)/\xs.map (·.1)=ks/\∀ p∈xs,RelV (kV p.1) p.2:=by
 induction ks generalizing vs with
 |nil=>exact⟨[],Paired.n0 h,rfl,λp hp=>nomatch hp⟩
 |cons k ks ih =>
  obtain⟨v,vs,rfl,r,rs⟩:=Paired.c h;obtain⟨xs,e1,e2,e3⟩:=ih rs;refine⟨(k,v) :: xs,by rw[e1];rfl,by rw[<- e2];rfl,λp hp=>?_⟩;rcases eu.mp hp with rfl|hp
  ·exact r
  ·exact e3 p hp
section
variable {X:Cx}{e:Expr}{te:TE}{p p2 pos OW:Pos}
def sU (hc:X.calm=true) (hg:Gl X "sorted") (hm:X.mg "sorted" = none) (hg2:Gl X "set") (x5:X.mg "set" = none) (he:PE X e te)(hv:k7 "sorted" = some (.builtin "sorted")) (hv2:k7 "set" = some (.type "set"))(pT:autoParam (aQ X e []) bv) (hs:autoParam (g7 [.Call (.Name "set" p2) [e] [] OW] X.env=(false,dE (.Call (.Name "set" p2) [e] [] OW) X.env) :: g7 [] X.env) bv) :
  PE X (.Call (.Name "sorted" p) [.Call (.Name "set" p2) [e] [] OW] [] pos) (tUn (gR X.K) te):=by
 intro pins s σ H Q I h;refine LJ (FD I hg hm hv ?_ (by decide) (by decide));refine PyProof.Rows.callWith_builtin1 ?_ hs rfl;refine Calls.spliced_cons ?_;refine LJ (FD I hg2 x5 hv2 ?_ (by decide) (by decide));refine PyProof.Rows.callWith_type1 ?_ pT rfl;rw[pT];refine Calls.spliced_cons (cp (he pins s σ H _ I h) λu s1 ck=>L2.e9 ck λx H1 I1 r1 q1=>Calls.spliced_nil ?_);have q1:gR X.K x H1 Q:=q1;obtain⟨a,rfl⟩:∃ a,x=.ref a:=by
  unfold gR at q1;split at q1
  ·exact⟨_,rfl⟩
  ·exact q1.elim
 obtain⟨ks,b,hl,hz1,hb,q⟩:=q1;cases r1;obtain⟨vs,rv,pl,hz⟩:=I1.list hl;obtain⟨xs,ex,ek,hx⟩:=v9 rv;have KG:X.A.handled=none:=I1.ok.hd hc;have hlen:xs.length=ks.length:=by rw[<- ek,b4]
 have BH:∀ p∈xs,(iq X.prog X.w).is p.1 p.2=true:=λp hp=>by
  obtain⟨k,v⟩:=p;have r:=hx _ hp;rw[fL']
  cases k with
  |inl i=>obtain⟨t,e⟩:=r;rw[show v=_ from e];exact bN' ..
  |inr x=>obtain⟨t,e⟩:=r;rw[show v=_ from e];exact bO' ..
 refine TS.oR KG pl.isList (by simpa using ex) BH (by lia) BX λh2 tk qa S m1 m2 kp=>?_;refine Calls.spliced_nil ?_;obtain⟨⟨o,es,ep,t,ho,hex,hd,T,hL,hes⟩,nd,is⟩:=S;have mo':es.toList.map (·.2)=qa.map (·.2):=by rw[hes,fE];rfl
 have qG':qa.length<=1000:=by
  have:=TS.jB nd (m:=ks) λk hk=>by rw[<- ek];exact(m1 k).mp hk
  rw[b4] at this;lia
 have mp':es.size=qa.length:=by have:=congrArg List.length hes;simpa using this
 have mq':∀ p∈qa,p.1∈ks:=λp hp=>by rw[<- ek];exact c9.mpr ⟨p,m2 p hp,rfl⟩
 have mem:∀ oj:List ag,oj.Perm (qa.map (·.2))->∀ v∈oj,∃ k,RelV (kV k) v/\k∈ks:=λoj pv v hv=>by obtain⟨p,hp,rfl⟩:=c9.mp (pv.mem_iff.mp hv);exact⟨p.1,hx p (m2 p hp),mq' p hp⟩
 have h12:s1.heap.objs.size<=h2.objs.size:=MA (e8 ho);refine FX.mj (D:=λ_=>True) (κ:=oneType') (R:=λoj=>oj.Perm (qa.map (·.2))) (P:=λv=>∃ k,RelV (kV k) v/\oy k=b/\k∈ks) (λA' E' Q' hA hQ=>TS.rM (hA.trans KG) ho hex hd T.fits T.up T.sz hL (by rw[mp',mB];lia) λh' Wa d oj Uc hz' pv=>hQ oj h' Wa d trivial (by rw[<- mo'];exact pv) Uc hz') (λoj pv=>by rw[pv.length_eq,b4,mB];lia) (λoj pv v hv=>?_) (λoj pv h2' A' E' s' Uc Q' q'=>?_) (λs' Uc=>uA) λoj h' a' out n Wa d _ pv pm pw Uc ha eo=>?_
 ·obtain⟨k,rk,mk⟩:=mem oj pv v hv;exact⟨k,rk,hb k mk,mk⟩
 ·obtain⟨ms,rm⟩:=jQ oj (mem oj pv);refine pF (b:=b) rm (λk hk=>?_) h2' q';have:(oj.map iW)=ms.map λk=>[k]:=keys_map rm;have CM:[k]∈oj.map iW:=by rw[this];exact c9.mpr ⟨k,hk,rfl⟩
  obtain⟨v,hv,e⟩:=c9.mp CM;obtain⟨k',rk,mk⟩:=mem oj pv v hv;rw[jR rk] at e;cases e;exact hb _ mk
 ·have pm2:=pm.trans pv;obtain⟨ms,rm⟩:=jQ out (mem _ pm2);have ekk:(qa.map (·.2)).map iW=(qa.map (·.1)).map λk=>[k]:=by rw[fE,fE];exact D2 λp hp=>jR (hx p (m2 p hp))
  have pk:ms.Perm (qa.map (·.1)):=qQ (by rw[<- keys_map rm,<- ekk];exact pm2.map _);have hml:ms.length=qa.length:=by simpa using pk.length_eq
  have eO':∀ k∈ms,k∈ks:=λk hk=>by rw[<- ek];exact(m1 k).mp (pk.mem_iff.mp hk)
  refine⟨.ref a',_,(I1.laid (λb o e=>Uc b o (kp b o e)) (kE h12 ha) (show kz X.prog X.w _ h' _ (.lst (ms.map kV)) from⟨by rw[b4,mB];lia,out,n,rm,eo⟩)).drawn,rfl,
   q ms _ (pk.nodup_iff.mpr nd) (λk=>by rw[pk.mem_iff,m1,ek]) ?_ (I1.bP.fresh (kE h12 ha))⟩
  have TL:(out.map iW).Pairwise λx y=>GP (ks.map λk=>[k]) x<=GP (ks.map λk=>[k]) y:=vv.mpr pw;rw[keys_map rm,vv] at TL;refine TL.imp_of_mem λ{x y} mx my hle=>?_;have mx:=eO' x mx;have my:=eO' y my;rw[<- sY,<- qO (L:=ks.map λk=>[k]) (by simp[mz,hb x mx,hb y my]) (c9.mpr ⟨y,my,rfl⟩)];exact decide_eq_false (by lia)
end
end L2
namespace L2.Q
section
variable {X:Cx}{K:aC}{e:Expr}{te:WE}{p p2 pos OW:Pos}
def JV:k7 "set" = some (.type "set"):=by decide +kernel
def gb:W1:=λ_ x Q=>match x with
 |.list xs=>∃ (ks:List Key) (b:Bool),xs=ks.map iO/\ks.length<=1000/\(∀ k∈ks,oy k=b)/\∀ ms:List Key,ms.Nodup->(∀ k,k∈ms↔k∈ks)->(ms.Pairwise λa b=>oa b a=false)->Q (.ow true) (.list (ms.map iO))
 |_=>False
def rQ:Br1 K (gR K) gb:=by
 intro Hs H m x v As Qd Qv w rx h f;have r1:=rx.rep w
 cases r1 with
 |list z s q =>obtain⟨ks,b,rfl,hz,hb,h⟩:=h;obtain⟨e,ok⟩:=rO q;subst e;refine⟨ks,b,s,hz,hb,λms l nd mm pw hl=>?_⟩;have:ms.length<=ks.length:=TS.jB nd λk hk=>(mm k).mp hk;exact f.lst w (by rw[b4,mB];lia) (dN λk hk=>ok k ((mm k).mp hk)) (d9 ms) (h ms nd mm pw) l hl
 |_=>exact h.elim
def wN (hm:X.mg "sorted" = none) (x5:X.mg "set" = none) (he:QE X K e te) (hc:autoParam (X.calm=true) bv) (hK:autoParam (X.K=K) bv) (pT:autoParam (aQ X e []) bv) (hs:autoParam (g7 [.Call (.Name "set" p2) [e] [] OW] X.env=(false,dE (.Call (.Name "set" p2) [e] [] OW) X.env) :: g7 [] X.env) bv) (hg:Gl X "sorted" := by rfl) (hg2:Gl X "set" := by rfl) :
  QE X K (.Call (.Name "sorted" p) [.Call (.Name "set" p2) [e] [] OW] [] pos) (eP gb te):=by
 subst hK;exact PE.imp (sU hc hg hm hg2 x5 he j5 JV pT hs) λσ H Qv ⟨Hs,ρ,ah,Q,sr,h,fin⟩=>⟨Hs,ρ,ah,_,sr,h,λv H1 bq m x As g1 r1 f1 q1=>rQ bq H1 m x v As Q Qv g1.wf r1 q1 (Fin.after fin g1)⟩
end
end L2.Q
namespace L2.Q.R
section
variable {Q:Md->L2.Q.D->Prop}{m:Md}{xs:List L2.Q.D}
def Iu:gb m (.list xs) Q = ∃ (ks:List Key) (b:Bool),xs=ks.map iO/\ks.length<=1000/\(∀ k∈ks,oy k=b)/\∀ ms:List Key,ms.Nodup->(∀ k,k∈ms↔k∈ks)->(ms.Pairwise λa b=>oa b a=false)->Q (.ow true) (.list (ms.map iO)):=rfl
end
end L2.Q.R
namespace L2
end L2
namespace L2.Q
end L2.Q
namespace L2.Q.R
end L2.Q.R
namespace L2
open Builtin Builtin.Str Builtin.Int
section
variable {prog:cf}{w:cw}{A:ft}{E:ag->aI->Prop}{s:aI}{x:Str}{n:Int}{t u:Tok}
def jX(bP:MulOk x n)(h:∀ t' k,Q (.str (Txt.mul x n) t') { s with toks:=k }):aS (aE prog w) A (nV .Mult (.str x t) (.int n u)) Q E s:=by
 refine P.mul_str bP.1 bP.2.1 bP.2.2 ?_;unfold Txt.mul at h;by_cases h1:n<1
 ·rw[if_pos h1];have h':=h s.toks (s.toks+1);rw[if_pos h1] at h';exact⟨by decide,h'⟩
 ·rw[if_neg h1];refine post_val_or_made (λhc=>fits_reps (bP.2.2 h1 (by simpa using hc))) λt' k=>?_;have h':=h t' k;rw[if_neg h1] at h';exact h'
end
def J9:R2:=λx y H Q=>KJ y x H Q
def GK{X:Cx}:dP X (nV .Mult) J9:=by
 intro pins s σ H y x u v Q I ry rx h;unfold J9 KJ at h;split at h
 ·rename_i n z;obtain⟨⟨h1,h2,h3⟩,q⟩:=h;obtain⟨t,rfl⟩:=rx;obtain⟨t',rfl⟩:=ry;refine jX ⟨?_,λ_ _=>?_,λ_ _=>?_⟩ λt' k=>⟨.str (uS n z),H,I.tok _,⟨_,by rw[Ep h1]⟩,q⟩
  ·have a1:¬ n < -(2 ^ 63:Int):=by lia
   have a2:¬ n >= 2 ^ 63:=by lia
   rw[decide_eq_false a1,decide_eq_false a2];rfl
  ·have:(2 ^ 63-1:Int) / 100<=(2 ^ 63-1) / n:=by apply Int.le_ediv_of_mul_le (by lia);lia
   lia
  ·have:z.length*n.toNat<=100*100:=MB h3 (by lia);have hs:=mB;simp only[tooLong,decide_eq_false_iff_not];lia
 ·exact h.elim
end L2
namespace L2.Q
section
def intD(y:D)(k:Int->Prop):Prop:=match y with
 |.int i=>k i
 |_=>False
def mu'(d:D):Md:=bif d.flat then .sh else .ow true
end
end L2.Q
namespace L2.Q.R
section
def P0:intD (.int i) k=k i:=rfl
end
end L2.Q.R
namespace L2
section
variable {prog:cf}{w:cw}{A:ft}{E:ag->aI->Prop}{s:aI}
def EY{κ:Type}[DecidableEq κ]{kd:HeapKind prog w κ}{d b:ai}{xs:List (κ × ai × ag)}{k:κ}{r:ag}{Q:ag->aI->Prop}(hu:kd.room A)(hk:kd.is s.heap k b)(hm:s.heap.DictOfH kd d xs)(hz:xs.length<=bG)(h1:∀ p,atKey xs k=some p->Q p.2 { s with toks:=s.toks+kd.draws k }) (h2:atKey xs k=none->∀ h',h'.DictOfH kd d (storedH xs k b r)->Heap.SameBut d s.heap h'->Q r { s with heap:=h',toks:=s.toks+kd.draws k }):aS (aE prog w) A (dictSetDefault d (.ref b) r) Q E s:=by
 obtain⟨o,es,ep,ho,hc,hd,he,BH,hn⟩:=hm;unfold dictSetDefault;try with_reducible refine vn ?_
 refine av (kd.pyHash hu hk (av (wpAny_dictFind_heap hu hk ho hd he BH hn (λno=>?_) λj p hj=>?_)))
 ·have nk:=atKey_none_of_get no;refine av (zS (av (wpAny_updateDictKeys (hz:=by have e:=Sb he;lia) ho hd (aT (h2 nk _ ?_ (Heap.SameBut.update ..))))));rw[storedH_new nk];refine⟨_,_,ep+1,D7 _ ho (Obj.isFreed_of_dict (Obj.data_mapDictKeys hd _)),hc.mapDictKeys _,Obj.data_mapDictKeys hd _,by simp[he,E6],λx hx=>?_,?_⟩
  ·rcases hJ.mp hx with q|q
   ·exact kd.keeps (BH x q) ho hd (Heap.SameBut.update ..)
   ·obtain rfl:=ic.mp q;exact kd.keeps hk ho hd (Heap.SameBut.update ..)
  ·rw[kS];refine pj.mpr ⟨hn,by simp,λx hx y hy e=>?_⟩;obtain rfl:y=k:=by simpa using hy
   exact not_mem_keys_of_get no (e ▸ hx)
 ·refine av (B1 ho hd ?_);rw[entry_at he j,hj];exact av (zS (aT (h1 _ (atKey_of_get hn hj))))
def Bh{κ:Type}[DecidableEq κ](kd:HeapKind prog w κ)(d b:ai)(hd:(d == mE)=false)(r:ag) :
  MeetsIn prog w (Builtin.«dict.setdefault» ⟨[.ref d,.ref b,r],[]⟩) (λA R s=>kd.room A.in1/\∃ k xs,kd.is s.heap k b/\s.heap.DictOfH kd d xs/\xs.length<=bG /\ (∀ p,atKey xs k=some p->R (.ok (.ret p.2)) { s with toks:=s.toks+kd.draws k }) /\ (atKey xs k=none->∀ h',h'.DictOfH kd d (storedH xs k b r)->Heap.SameBut d s.heap h'->R (.ok (.ret r)) { s with heap:=h',toks:=s.toks+kd.draws k })) :=
 .of_wp λA R s dc=>by obtain⟨hu,k,xs,hk,hm,hz,h1,h2⟩:=dc;refine av (av (wpAny_notOrdered_dict hm.typeIs ?_));refine(aT ?_);refine(show aS _ _ (if (d == mE)=true then _ else (dictSetDefault d (Value.ref b) r >>= _)) _ _ s from ?_);rw[if_neg (by rw[hd];decide)];exact av (EY hu hk hm hz (λp q=>aT ⟨p.2,rfl,h1 p q⟩) λq h' a c=>aT ⟨r,rfl,h2 q h' a c⟩)
end
section
variable {X:Cx}{pins:List (ai × Obj)}{σ:St}{H:Hp}{s:aI}{a b:ai}{A:ft}{E:ag->aI->Prop}
def BZ(hu:A.units+1<fA)(I:Inv X pins σ H s)(e:H a=some (.dT kvs))(eb:H b=some (.tup (k.map kV)))(hl:kvs.length<bG)(rv:RelV v r)(h1:∀ v' w' s',fS kvs k=some v'->Inv X pins σ H s'->RelV v' w'->Q w' s') (h2:fS kvs k=none->∀ s',Inv X pins σ (upd H a (.dT (putK kvs k v))) s'->Q r s') :
  aS (aE X.prog X.w) A (call (.builtin "dict.setdefault") [.ref a,.ref b,r]) Q E s:=by
 obtain⟨z,hd,xs,rel,dd⟩:=Tg I.bP e;have hz:xs.length<=bG:=by rw[<- Paired.length rel];exact z
 have hp:(putK kvs k v).length<=bG:=by have:=Vm kvs k v;lia
 have vl:=rel.val k;refine call_meetsIn PySem.F.slot_dict_setdefault dd.typeIs PySem.F.entry_dict_setdefault (PySem.F.args_dict_setdefault_3 _ _ _) (Bh (iL (iq X.prog X.w)) a b hd r) ⟨LM hu,k,xs,Ki I.bP eb,dd,hz,λp n9=>?_,λhn h' AG hs=>?_⟩
 ·rw[n9] at vl
  cases ev:fS kvs k with
  |none=>rw[ev] at vl;exact vl.elim
  |some v'=>rw[ev] at vl;exact h1 v' _ _ ev (I.tok _) vl
 ·have ev:fS kvs k=none:=by
   rw[hn] at vl
   cases ev:fS kvs k with
   |none=>rfl
   |some v'=>rw[ev] at vl;exact vl.elim
  refine h2 ev _ ?_;obtain⟨q,es,ep,hq,g2,g3,g4,_,g5⟩:=AG;refine Rp I (by rw[e];exact True.intro) hs ⟨q,hq⟩ ⟨hp,hd,_,(rel.put k eb rv).keeps λc ys ec=>?_,q,es,ep,hq,g2,g3,g4,g5⟩;rw[b6 (Zx ec e λz=>nomatch z)];exact ec
end
def tSd(td ty tx:TE):TE:=λσ H Q=>td σ H λx H1=>∃ a,x=.ref a/\Vp H1 a/\ty σ H1 λy H2=>tx σ H2 λz H3=>∃ kvs k b,H3 a=some (.dT kvs)/\y=.ref b/\H3 b=some (.tup (k.map kV))/\kvs.length<bG /\ (∀ v,fS kvs k=some v->Q v H3)/\(fS kvs k=none->Q z (upd H3 a (.dT (putK kvs k z))))
def Ng {X:Cx} (hu:X.A.units+1<fA) (ho:PE X o td) (he:PE X e ty) (hf:PE X f tx) (m:M2 X o "setdefault" apos e f kc):PE X (.Call (.Attribute o "setdefault" apos) [e,f] [] kc) (tSd td ty tx):=by intro pins s σ H Q I h;refine wpAny_Call_method m.base m.few m.line PySem.F.plainAttrs_dict PySem.F.slot_dict_setdefault PySem.F.type_dict_setdefault (cp (ho pins s σ H _ I h) λu s1 dc=>?_);obtain⟨x,H1,I1,rx,a,ex,d,q1⟩:=dc;subst ex;cases (rx);have td:=dj' I1 d;refine⟨td.1,td.2.1,?_⟩;rw[m.trees];refine Calls.callWith_builtin rfl (Calls.evalArgs_plain (Calls.spliced_cons (cp (he pins s1 σ H1 _ I1 q1) λiv s2 ck=>L2.e9 ck λy H2 I2 ry q2=>Calls.spliced_cons (cp (hf pins s2 σ H2 _ I2 q2) λfv s3 ⟨z,H3,I3,rz,kvs,k,b,e1,e2,e3,hl,q3,q4⟩=>Calls.spliced_nil ?_))));subst e2;cases (ry);exact BZ hu I3 e1 e3 hl rz (λv' w' s' ev I' r'=>⟨v',H3,I',r',q3 v' ev⟩) λev s' I'=>⟨z,_,I',rz,q4 ev⟩
end L2
namespace L2.Q
section
variable {X:Cx}{K:aC}{a b c:Expr}{ta tb tc:WE}{pos apos kc:Pos}
def onD(x:D)(f:List (Key × D)->Prop)(g:List (List Key × D)->Prop):Prop:=match x with
 |.dK kvs=>f kvs
 |.dT kvs=>g kvs
 |_=>False
def Ud(y:D)(k:List D->Prop):Prop:=match y with
 |.tup ys=>k ys
 |_=>False
def HC(o:Option D)(m n:Md)(z:D)(Q:Md->D->Prop):Prop:=match o with
 |some d=>Q (ua m d) d
 |none=>Q n z
def OX(ta tb tc:WE):WE:=λρ Q=>ta ρ λm x=>onD x (λkvs=>tb ρ λ_ y=>tc ρ λn z=>∃ k,y.key1=some k/\HC (dS kvs k) m n z Q) (λkvs=>tb ρ λ_ y=>tc ρ λn z=>Ud y λys=>∃ ks,cW ys=some ks/\HC (dS kvs ks) m n z Q)
def De(hx:oB K (OX ta tb tc) σ H Qv):dk' (oB K ta) (oB K tb) (oB K tc) σ H Qv:=i9 hx λHs ρ ah Q sr h fin=>by
 refine⟨Hs,ρ,ah,_,sr,h,λv H1 bq m x As g1 r1 f1 q1=>?_⟩
 have got:∀ {o} {d? : Option D} {H2 H3 bE e7} {w} {n} {z} {Cs},fk bq H1 bE H2->fk bE H2 e7 H3->RM K e7 H3 n z w Cs->cB e7 H2 Cs->(match d? with
   |some d=>∃ v,o=some v/\Rep K H3 d v/\(m=.sh->Rep K e7 d v)
   |none=>o=none)->HC d? m n z Q->Qv (o.getD w) H3:=by
  intro o d? H2 H3 bE e7 w n z Cs g2 g3 r3 f3 l q
  cases d? with
  |none=>rw[show o=none from l];exact fin w H3 e7 n z Cs ((g1.trans g2).trans g3) r3 (f3.of (g1.trans g2).all) q
  |some d =>obtain⟨v',e,u1,u2⟩:=l;rw[e];exact(Fin.after fin ((g1.trans g2).trans g3)).ua g3.wf u1 u2 q
 have core:∀ G:Hp,bt G H1->(∀ H3 e7,fk bq H1 e7 H3->∀ d v,Rep K G d v->Rep K H3 d v/\(m=.sh->Rep K e7 d v))->Rep K G x v->∃ a,v=.ref a/\Vp H1 a/\oB K tb σ H1 λy H2=>oB K tc σ H2 λz H3=>∃ o,r9 H3 a y o/\Qv (o.getD z) H3:=by
  intro G sg up r
  cases r with
  |dK kk s q =>
   refine⟨_,rfl,.inl ⟨_,bt.rd sg s⟩,bq,ρ,ah,_,sr.grow g1,q1,λu H2 bE n y Bs g2 r2 f2 q2=>⟨bE,ρ,ah,_,(sr.grow g1).grow g2,q2,λw H3 e7 n3 z Cs g3 r3 f3 q3=>?_⟩⟩;have ry:=(r2.grow g3).rep g3.wf;obtain⟨k,hk,q4⟩:=q3;have ev:=ry.key hk;subst ev;refine⟨_,r9.k' (bt.rd (g2.trans g3).all (bt.rd sg s)),got g2 g3 r3 f3 ?_ q4⟩;have z:=zip_get (k:=k) q;split
   ·rename_i d e;rw[e] at z;obtain⟨v',e',r'⟩:=z;exact⟨v',e',up _ _ (g2.trans g3) _ _ r'⟩
   ·rename_i e;rw[e] at z;exact z
  |dT kk s q =>
   refine⟨_,rfl,.inr ⟨_,bt.rd sg s⟩,bq,ρ,ah,_,sr.grow g1,q1,λu H2 bE n y Bs g2 r2 f2 q2=>⟨bE,ρ,ah,_,(sr.grow g1).grow g2,q2,λw H3 e7 n3 z Cs g3 r3 f3 q3=>?_⟩⟩;have ry:=(r2.grow g3).rep g3.wf
   cases ry with
   |tup t2 e2 p2 =>
    obtain⟨k,hk,q4⟩:=q3;obtain⟨b',eb,e3⟩:=Rep.yi (.tup t2 e2 p2) hk;cases eb;refine⟨_,r9.t' (bt.rd (g2.trans g3).all (bt.rd sg s)) e3,got g2 g3 r3 f3 ?_ q4⟩;have z:=zip_get (k:=k) q;split
    ·rename_i d e;rw[e] at z;obtain⟨v',e',r'⟩:=z;exact⟨v',e',up _ _ (g2.trans g3) _ _ r'⟩
    ·rename_i e;rw[e] at z;exact z
   |_=>exact q3.elim
  |_=>exact q1.elim
 rcases r1.here g1.wf with⟨hm,r⟩|⟨hm,r⟩
 ·exact core bq g1.wf.sub (λH3 e7 g d v q=>⟨q.same (g1.wf.sub.trans g.all),λ_=>q.same g.sh⟩) r
 ·exact core H1 (bt.refl H1) (λH3 e7 g d v q=>⟨q.same g.all,λz=>absurd z hm⟩) r
def Ca (ha:QE X K a ta) (hb:QE X K b tb) (hc:QE X K c tc) (hm:M2 X a "get" apos b c kc:=by exact⟨rfl,rfl,rfl,rfl⟩) (hu:X.A.units+64<fA:=by assumption):QE X K (.Call (.Attribute a "get" apos) [b,c] [] kc) (OX ta tb tc) :=
 PE.imp (jC' (by lia) ha hb hc hm) λσ H Qv hx=>De hx
def Ue(d x:D):D:=match d with
 |.list xs=>.list (xs++[x])
 |d=>d
def nL:List (List Key × D)->List Key->D->List (List Key × D)
 |[],k,x=>[(k,.list [x])]
 |p :: r,k,x=>if p.1=k then (p.1,Ue p.2 x) :: r else p :: nL r k x
def RW(kvs:List (List Key × D))(k:List Key):List (List Key × D):=match dS kvs k with
 |some _=>kvs
 |none=>kvs++[(k,.list [])]
def Di:Option D->Prop
 |none=>True
 |some (.list xs)=>xs.length<bG
 |_=>False
def Wh(o:Option (Option Sl))(k:List (List Key × D)->Prop):Prop:=match o with
 |some (some (.ow true (.dT kvs)))=>k kvs
 |_=>False
def Wi(i:Nat)(tk te:WE):WS:=λE ρ=>Wh ρ[i]? λkvs=>tk ρ λ_ y=>Ud y λys=>∃ ks,cW ys=some ks/\kvs.length<bG/\Di (dS kvs ks) /\
 te (ρ.set i (some (.ow true (.dT (RW kvs ks))))) λ_ x=>x.flat=true/\E.nx (ρ.set i (some (.ow true (.dT (nL kvs ks x)))))
def aZ{κ β:Type}[DecidableEq κ](p:κ × β)(r:List (κ × β))(k:κ):dS (p :: r) k=if p.1=k then some p.2 else dS r k:=by by_cases h:p.1=k<;>simp[dS,h]
def K4:∀ {kvs},dS kvs k=some d->∃ j,(kvs.map (·.2))[j]? = some d/\(∀ vs:List V,vs.length=kvs.length->fS ((kvs.map (·.1)).zip vs) k=vs[j]?) /\
  ∀ x,(nL kvs k x).map (·.1)=kvs.map (·.1)/\(nL kvs k x).map (·.2)=(kvs.map (·.2)).set j (Ue d x)
 |[],h=>by simp[dS] at h
 |p :: kvs,h=>by
  rw[aZ] at h;by_cases e:p.1=k
  ·rw[if_pos e] at h;cases h;refine⟨0,rfl,λvs hl=>?_,λx=>?_⟩
   ·cases vs with
    |nil=>cases hl
    |cons v vs=>exact AB e
   ·simp[nL,e]
  ·rw[if_neg e] at h;obtain⟨j,h1,h2,h3⟩:=K4 h;refine⟨j+1,by simpa using h1,λvs hl=>?_,λx=>?_⟩
   ·cases vs with
    |nil=>cases hl
    |cons v vs =>show fS ((p.1,v) :: (kvs.map (·.1)).zip vs) k=_;rw[AF e,h2 vs (by simpa using hl)];rfl
   ·simp[nL,e,h3 x]
theorem qe:∀ {kvs:List (List Key × D)},dS kvs k=none->dS (kvs++[(k,d)]) k=some d
 |[],_=>by simp[dS]
 |p :: kvs,h=>by
  rw[aZ] at h;by_cases e:p.1=k
  ·rw[if_pos e] at h;cases h
  ·rw[if_neg e] at h;rw[Ze,aZ,if_neg e,qe h]
theorem vy:∀ {kvs},dS kvs k=none->nL (kvs++[(k,.list [])]) k x=nL kvs k x
 |[],_=>by simp[nL,Ue]
 |p :: kvs,h=>by
  rw[aZ] at h;by_cases e:p.1=k
  ·rw[if_pos e] at h;cases h
  ·rw[if_neg e] at h;rw[Ze,nL,nL,if_neg e,if_neg e,vy h]
def dv.place(sr:dv K Hs ρ σ H ah)(e:ρ[i]? = some (some (.ow fl d))):∃ v,σ[i]? = some (some v)/\Place K Hs H σ fl d v λeR d2=>ρ.set i (some (.ow eR d2)):=by obtain⟨v,As,e2,ne,r,sb,g⟩:=SR.put i sr.sr e sr.oz;refine⟨v,e2,As,r,ne,sb.nodup sr.oz,λa h=>sr.own a (sb.subset h),λbE H2 eR d2 k6 s2 w2 n2 _ r2 ne2 yn o2 st=>?_⟩;obtain⟨t2,x,y,z⟩:=g bE H2 eR d2 k6 s2 r2 ne2 yn (λa ha m=>(o2 a ha).2.elim id λq=>absurd q (sr.sr.own a m).ne) λa ha m=>st a (sr.sr.own a ha).ne m;exact⟨t2,z,w2,x,λa h=>(y a h).elim (λq=>n2 a (sr.own a q) (sr.sr.own a q).ne) λq=>(o2 a q).1⟩
def vq(sr:dv K Hs ρ σ H ah)(e1:ρ[i]? = some (some (.ow true (.dT kvs))))(hg:dS kvs ks=some (.list xs)) :
  ∃ a RX c ws,σ[i]? = some (some (.ref a))/\H a=some (.dT RX)/\fS RX ks=some (.ref c)/\H c=some (.lst ws)/\ws.length=xs.length /\
   ∀ x y,x.flat=true->Rep K Hs x y->ws.length<bG->∃ fh,dv K Hs (ρ.set i (some (.ow true (.dT (nL kvs ks x))))) σ (upd H c (.lst (ws++[y]))) fh:=by
 obtain⟨v,e2,pl⟩:=sr.place e1;obtain⟨iE,r,ne,nd,own,k⟩:=pl.ex
 cases r with
 |sh hf _=>exact absurd rfl ne
 |@dT a0 vs _ A kk e rs =>
  obtain⟨na,nA⟩:=ny.mp nd;obtain⟨j,ej,ev,es⟩:=K4 hg;obtain⟨w,B,e3,r3,sb,g⟩:=rs.at ej nA;have hl:vs.length=kvs.length:=by have:=rs.length;rw[b4] at this;exact this.symm
  cases r3 with
  |sh hf _=>exact absurd (hf rfl) (by simp[D.flat])
  |@list c ws _ B' hz ec fI =>
   have cA:c∈A:=sb.subset eh;refine⟨a0,_,c,ws,e2,e,(ev vs hl).trans e3,ec,fI.length.symm,λx y hx rx hw=>?_⟩;have hca:a0≠c:=λz=>na (z ▸ cA);obtain⟨nc,nB⟩:=ny.mp (sb.nodup nA);have r4:cc K Hs (upd H c (.lst (ws++[y]))) true (.list (xs++[x])) (.ref c) (c :: B'):=by have:=(fI.hX (H':=upd H c (.lst (ws++[y]))) (bt.refl _) λb hb=>b6 λz=>nc (z ▸ hb)).append (az.cons (.sh (λ_=>hx) rx) .nil);rw[tJ,tJ] at this;exact .list (by rw[mG];exact hw) d5 this
   obtain⟨k6,n2,y2,_,r5⟩:=g Hs (upd H c (.lst (ws++[y]))) true _ _ (bt.refl _) id r4 (sb.nodup nA) (λ_ h _=>h) (λb _ nb=>b6 λz=>nb (z ▸ eh));have in2:∀ b∈k6,b∈A:=λb hb=>(y2 b hb).elim (λq=>q.1) λq=>sb.subset q;obtain⟨k1,k2⟩:=es x;have kl:(nL kvs ks x).length=kvs.length:=by have:=congrArg List.length k1;simpa using this
   refine k Hs _ true (.dT (nL kvs ks x)) (a0 :: k6) (bt.refl _) (uB sr.wf (own c (eI _ cA)) λ_ z=>nomatch z) (λ_ h _=>h) id (.dT ⟨by rw[kl];exact kk.1,λp hp=>?_⟩ (by rw[b6 hca,k1];exact e) (by rw[k2];exact r5)) (by simp) (ny.mpr ⟨λz=>na (in2 _ z),n2⟩) (λb hb=>?_) λb _ nb=>b6 λz=>nb (z ▸ eI _ cA)
   ·have:p.1∈kvs.map (·.1):=k1 ▸ List.mem_map_of_mem hp;obtain⟨p',n9,e'⟩:=c9.mp this;rw[<- e'];exact kk.2 p' n9
   ·have hb':b∈a0 :: A:=(eu.mp hb).elim (λz=>z ▸ eh) λz=>eI _ (in2 b z);exact⟨own b hb',.inl hb'⟩
def Dy{te:WE}{Hs H:Hp}{ρ:Env}{σ:St}{ah:List ai}{i:Nat}{kvs:List (List Key × D)}{ks:List Key}{xs:List D}{a:ai}{RX:List (List Key × V)}{v':V}{R:Env->Prop}{G:Hp->Prop}(sr:dv K Hs ρ σ H ah)(e1:ρ[i]? = some (some (.ow true (.dT kvs))))(hg:dS kvs ks=some (.list xs))(hz:xs.length<bG)(eσ:σ[i]? = some (some (.ref a))) (eH:H a=some (.dT RX)) (ev:fS RX ks=some v') (q:te ρ λ_ x=>x.flat=true/\R (ρ.set i (some (.ow true (.dT (nL kvs ks x)))))) (k1:∀ H' ax bT cv,bt Hs ax->dv K ax bT σ H' cv->R bT->G H') :
  ZX K "list" v' H/\S8 (oB K te) Nn σ H λus H2=>ZZ v' us H2 λ_ H3=>G H3:=by
 obtain⟨a',kv',c,ws,f1,f2,f3,f4,f5,f6⟩:=vq sr e1 hg;have ea:a'=a:=by rw[f1] at eσ;cases eσ;rfl
 subst ea;have ek:kv'=RX:=by rw[f2] at eH;cases eH;rfl
 subst ek;have e':v'=.ref c:=by rw[f3] at ev;cases ev;rfl
 subst e';refine⟨.inl ⟨rfl,_,.inl (.inl f4)⟩,Hs,ρ,ah,_,sr,q,λy H2 bE m x Cs g2 r2 fr2 q2=>?_⟩;obtain⟨hx,q2⟩:=q2;obtain⟨b',om,c2,ws2,h1,h2,h3,h4,h5,h6⟩:=vq (sr.grow g2) e1 hg;have ea:b'=a':=by rw[f1] at h1;cases h1;rfl
 subst ea;have ek:om=kv':=by rw[g2.all _ _ f2] at h2;cases h2;rfl
 subst ek;have e':c2=c:=by rw[f3] at h3;cases h3;rfl
 subst e';obtain⟨fh,kD⟩:=h6 x y hx (r2.flat g2.wf hx) (by lia);exact⟨c2,ws2,y,rfl,rfl,h4,by lia,k1 _ bE _ fh g2.sh kD q2⟩
def set_own{α:Type}{ρ:List α}{i:Nat}{x:α}(h:ρ[i]? = some x):ρ.set i x=ρ:=by
 apply L5;intro j;rw[List.getElem?_set];split
 ·rename_i e;subst e;have:=(h9.mp h).1;rw[if_pos this,h]
 ·rfl
def Ly {L:Str->Hp->Prop} {i:Nat} {p1 p2 p3 p4 p5:Pos} (he:PE X a (kg i)) (hb:QE X K b tb) (hc:QE X K c tc) (hK:autoParam (X.K=K) bv) (hm:M2 X a "setdefault" p1 b (.List [] p2) p3:=by exact⟨rfl,rfl,rfl,rfl⟩) (hs:autoParam (nS (.Call (.Attribute (.Call (.Attribute a "setdefault" p1) [b,.List [] p2] [] p3) "append" p4) [c] [] p5) none pos.line X.env=pure false) bv) (FL:autoParam (DV (.Call (.Attribute a "setdefault" p1) [b,.List [] p2] [] p3) "append" X.env (dE (.Call (.Attribute a "setdefault" p1) [b,.List [] p2] [] p3) X.env)=dE (.Call (.Attribute a "setdefault" p1) [b,.List [] p2] [] p3) X.env) bv) (FP:autoParam (((backTo p5 (g7 [c] X.env)).all (λx=>!x.1) && (backToKw p5 (E5 [] X.env)).all (λx=>x.1.isSome)
   && decide ([c].length+([]:List AX).length+(if ([]:List AX).isEmpty then 0 else 1)<30))=true) bv)
  (hline:autoParam ((p4.endLine == p5.line)=true) bv) (DF:autoParam (aQ X c []) bv) (FR:autoParam (bR X p5 []) bv) (hu:X.A.units+64<fA:=by assumption) :
  QS X K L (.Expr (.Call (.Attribute (.Call (.Attribute a "setdefault" p1) [b,.List [] p2] [] p3) "append" p4) [c] [] p5) pos) (Wi i tb tc):=by
 subst hK;refine PS.imp (S4 (Vk PySem.F.plainAttrs_list PySem.F.slot_list_append PySem.F.type_list_append Vl (Ng (by lia) he hb (dG (K:=X.K) au) hm) (nI hc t5 DF) FL FP hline DF FR) hs) λD σ H hx=>cD hx λHs ρ ah E sr h k1 k2 k3 k4=>?_;unfold Wi Wh at h;split at h
 ·rename_i kvs e1;obtain⟨v,e2,pl⟩:=sr.place e1;obtain⟨iE,r,ne,nd,own,k⟩:=pl.ex;have lv:∀ x∈iE,Hs x=none/\H x≠none:=λx hx=>⟨own x hx,(r.own x hx).ne⟩
  cases r with
  |sh hf _=>exact absurd rfl ne
  |@dT a0 vs _ A kk e rs =>
   refine⟨_,e2,a0,rfl,.inr ⟨_,.inl e⟩,Hs,ρ,ah,_,sr,h,λu H2 bE m y Bs g2 r2 f2 q2=>?_⟩;refine⟨bE,ρ,ah,λm d=>m=.ow true/\d=.list [],sr.grow g2,⟨f7 _,rfl,rfl⟩,λw H3 e7 n z Cs g3 r3 f3 q3=>?_⟩;obtain⟨rfl,rfl⟩:=q3;have ry:=(r2.grow g3).rep g3.wf
   cases ry with
   |tup t2 ey p2 =>
    obtain⟨ks,hk,hz,Tn,q⟩:=q2;obtain⟨b',eb,e3⟩:=Rep.yi (.tup t2 ey p2) hk;cases eb;have g:=g2.trans g3;have hl:kvs.length=vs.length:=by have:=rs.length;rwa[b4] at this
    have srg:=sr.grow g;have zg:=zip_get (k:=ks) (rs.reps sr.wf.sub λ_ _=>rfl);refine⟨_,ks,_,g.all _ _ e,rfl,e3,by rw[L8,b4,<- hl,SD];exact hz,λv' ev=>?_,λev=>?_⟩
    ·cases hg:dS kvs ks with
     |none=>rw[hg] at zg;rw[zg] at ev;cases ev
     |some d =>
      rw[hg] at Tn
      cases d with
      |list xs =>rw[show RW kvs ks=kvs by unfold RW;rw[hg],set_own e1] at q;exact Dy srg e1 hg Tn e2 (g.all _ _ e) ev q λH' ax bT cv s1 s2 q'=>k1 σ H' ax bT cv (g.sh.trans s1) s2 q'
      |_=>exact Tn.elim
    ·have hg:dS kvs ks=none:=by
      cases hg:dS kvs ks with
      |none=>rfl
      |some d=>rw[hg] at zg;obtain⟨v',z,_⟩:=zg;rw[z] at ev;cases ev
     rw[show RW kvs ks=kvs++[(ks,.list [])] by unfold RW;rw[hg]] at q;obtain⟨r3,_⟩:=r3
     cases r3 with
     |sh hf _=>exact absurd (hf rfl) (by simp[Q.D.flat])
     |@list c ws _ B' hw ec fI =>
      cases fI;obtain⟨na,nA⟩:=ny.mp nd;have fc:=f3.2 c eh;have Wj:H c=none:=g2.all.free fc.2;have cA:∀ b∈a0 :: A,b≠c:=λb hb z=>by
       subst z;rcases eu.mp hb with rfl|hb
       ·rw[e] at Wj;cases Wj
       ·exact(rs.own _ hb).ne Wj
      have ek:putK ((kvs.map (·.1)).zip vs) ks (V.ref c)=((kvs++[(ks,Q.D.list [])]).map (·.1)).zip (vs++[V.ref c]):=by have:=Tf ks ((kvs.map (·.1)).zip vs);rw[ev] at this;unfold putK;rw[this,if_neg (by decide),kS,List.zip_append (by rw[b4];exact hl)];rfl
      obtain⟨kl,ko⟩:=u_ p2 hk;have l1:=p2.length;have rs3:=rs.grow g.sh g.all;have rs4:az X.K e7 (upd H3 a0 (.dT (((kvs++[(ks,Q.D.list [])]).map (·.1)).zip (vs++[V.ref c])))) true ((kvs++[(ks,Q.D.list [])]).map (·.2)) (vs++[V.ref c]) (A++[c]):=by have q1:=rs3.hX (H':=upd H3 a0 (.dT (((kvs++[(ks,Q.D.list [])]).map (·.1)).zip (vs++[V.ref c])))) (bt.refl _) λb hb=>b6 λz=>na (z ▸ hb);have q2:=q1.append (az.cons (cc.list hw ((b6 λz=>cA a0 eh z.symm).trans ec) .nil) .nil);rw[show(kvs++[(ks,Q.D.list [])]).map (·.2)=kvs.map (·.2)++[Q.D.list []] by simp];exact q2
      obtain⟨fh,kD⟩:=k.node g lv (λ_ z=>by cases z) id (.dT ⟨by rw[mG];exact hz,λp hp=>(hJ.mp hp).elim (kk.2 p) λz=>by
        obtain rfl:p=(ks,.list []):=by simpa using z
        exact⟨by show ks.length<=_;lia,ko⟩⟩ d5 rs4)
       (pj.mpr ⟨nA,by simp,λx hx y hy z=>cA x (eI _ hx) (by rw[z];simpa using hy)⟩) (λz=>(hJ.mp z).elim na λz=>cA a0 eh (by simpa using z))
       (λx hx=>(hJ.mp hx).imp id λz=>by
        obtain rfl:x=c:=by simpa using z
        exact⟨fc.1,Wj⟩)
      rw[ek];have hi:i<ρ.length:=(h9.mp e1).1;refine Dy (xs:=[]) kD (by simp[hi]) (qe hg) (by rw[mB];decide) e2 d5 (by rw[<- ek,jf',if_pos rfl]) ?_ λH' ax bT cv s1 s2 q'=>k1 σ H' ax bT cv (g.sh.trans s1) s2 q';simp only[List.set_set,vy hg];exact q
   |_=>exact q2.elim
 ·exact h.elim
end
end L2.Q
namespace L2
def Gf:R2:=λx y H Q=>match x,y with
 |.str z,.int n=>(0<=n/\n<=100/\z.length<=100)/\Q (.str (uS n z)) H
 |_,_=>False
def Gr{X:Cx}:dP X (nV .Mult) Gf:=by
 walk_at"b";unfold Gf at h;split at h
 ·rename_i z n;obtain⟨⟨h1,h2,h3⟩,q⟩:=h;by_cases hn:n<1
  ·obtain⟨t,rfl⟩:=rx;obtain⟨t',rfl⟩:=ry;have e:n=0:=by lia
   subst e;refine jX ⟨by decide,λz=>absurd hn z,λz=>absurd hn z⟩ λt' k=>⟨.str (uS 0 z),H,I.tok _,⟨t',by rw[show Txt.mul z 0=uS 0 z from by unfold Txt.mul uS;rw[if_pos hn];rfl]⟩,q⟩
  ·exact GK pins s σ H (.str z) (.int n) v u Q I rx ry ⟨⟨by lia,h2,h3⟩,q⟩
 ·exact h.elim
end L2
namespace L2.Q
section
variable {X:Cx}{K:aC}{a b c:Expr}{ta tb:WE}{pos:Pos}
def Bk:W2:=λ_ x _ y Q=>match x with
 |.str z=>match y with
  |.int n=>(0<=n/\n<=100/\z.length<=100)/\Q .sh (.str (uS n z))
  |_=>False
 |_=>False
def Ei:kQ K Gf Bk:=by
 walk_at"a";have r1:=rx.rep w;have r2:=ry.rep w
 cases r1 with
 |str hz=>cases r2 with
  |int n =>obtain⟨hh,q⟩:=h;refine⟨hh,f.sh w (.str ?_) q⟩;rw[nF,mB];have:n.toNat*Str.length _<=100*100:=MB (by lia) hh.2.2;lia
  |_=>exact h.elim
 |_=>exact h.elim
def K5(ha:QE X K a ta)(hb:QE X K b tb):QE X K (.BinOp a .Mult b pos) (ay Bk ta tb):=OG Gr Ei ha hb
def SR.take(i:Nat)(s:SR K Hs H ρ σ ah)(e:ρ[i]? = some (some (.ow fl d)))(n:ah.Nodup) :
  ∃ v As cv,σ[i]? = some (some v)/\cc K Hs H fl d v As/\As.Sublist ah/\cv.Sublist ah/\(∀ a∈As,a∉cv)/\SR K Hs H (ρ.set i none) σ cv:=by
 obtain⟨As,sb,f,g⟩:=s.chg i n;obtain⟨_,e1,h⟩:=f _ e
 cases h with
 |@ow _ _ _ v _ r =>obtain⟨t,_,b,c,_,q⟩:=g (bt.refl _) (λ_ _ _=>rfl) (.non (o:=some v)) mI λa h=>AJ h;rw[qt e1] at q;exact⟨_,As,t,e1,r,sb,c rfl,λa m z=>((b a z).resolve_left vw).2 m,q⟩
end
end L2.Q
namespace L2.Q.R
section
variable {ρ:Env}{E:jG}{te tb tc tk:WE}{m m':Md}{x y:L2.Q.D}{ys:List L2.Q.D}{Q:Md->L2.Q.D->Prop}{i k:Nat}
def Oq{a:Int}{x:Str}:Bk m (.str x) m' (.int a) Q=((0<=a/\a<=100/\x.length<=100)/\Q .sh (.str (uS a x))):=rfl
def Qm:OX te tb tc ρ Q=te ρ λm x=>cy x (f:=λx=>onD x (λkvs=>tb ρ λ_ y=>tc ρ λn z=>∃ k,y.key1=some k/\HC (dS kvs k) m n z Q) (λkvs=>tb ρ λ_ y=>tc ρ λn z=>cy y (f:=λy=>Ud y λys=>∃ ks,cW ys=some ks/\HC (dS kvs ks) m n z Q) ⟨⟩)) ⟨⟩:=rfl
def Rc:onD (.dT kvs) f g=g kvs:=rfl
def QL{k:List L2.Q.D->Prop}:Ud (.tup ys) k=k ys:=rfl
def mB':Wi i tk te E ρ=cy ρ[i]? (f:=λo=>Wh o λkvs=>tk ρ λ_ y=>cy y (f:=λy=>Ud y λys=>∃ ks,cW ys=some ks/\kvs.length<bG/\Di (dS kvs ks) /\
 te (ρ.set i (some (.ow true (.dT (RW kvs ks))))) λ_ x=>x.flat=true/\E.nx (ρ.set i (some (.ow true (.dT (nL kvs ks x)))))) ⟨⟩) ⟨⟩:=rfl
def Qi{kvs:List (List Key × L2.Q.D)}{k:List (List Key × L2.Q.D)->Prop}:Wh (some (some (.ow true (.dT kvs)))) k=k kvs:=rfl
end
end L2.Q.R
namespace L2
section
variable {X:Cx}
def Wk(K:aC):List V->Hp->VK->Prop:=λxs H Q=>match xs with
 |[.ref a]=>∃ bs:List Bool,fe K H a (bs.map V.bl)/\Q (.bl (bs.any id)) H
 |_=>False
def yU (hc:X.calm=true):kM X (.builtin "any") (Wk X.K):=by
 intro pins s σ H xs us Q I r h;unfold Wk at h;split at h
 ·rename_i a;obtain⟨bs,e,q⟩:=h;obtain⟨u,rfl,ru⟩:=Vals.one r;cases ru;obtain⟨its,rv,pl,hz⟩:=I.list e;have hl:s.heap.IsList a its.toArray:=pl.isList;obtain⟨o,ho,IY,n,t9⟩:=id hl;have hlen:=rv.length;rw[b4] at hlen;refine call_any_walk (R7 hl ?_);have iX:a≠s.heap.objs.size:=fz (e8 ho);have KG:X.A.in1.handled=none:=I.ok.hd hc;refine⟨s.heap.objs.size,_,_,_,_,_,λi=>bs.getD i false,rfl,Walks.list KG s.heap.objs.size a iX its.toArray,⟨⟨_,ip _ rfl,rfl,rfl⟩,⟨_,eL _ ho,IY,n,t9⟩⟩,?_,λh' tk hk=>?_⟩
  ·intro i v s' Q' E' hv hq;have vF:its[i]? = some v:=by simpa using (hv)
   have hi:i<bs.length:=by have:=(h9.mp vF).1;lia
   obtain⟨w',e1,r1⟩:=rv.get (i:=i) (x:=V.bl bs[i]) (by simp[hi]);rw[vF] at e1;cases e1;cases (r1);have hq:Q' (bs.getD i false) s':=hq;rw[show bs.getD i false=bs[i] by simp[List.getD,hi]] at hq;exact zI hq
  ·have e3:((List.range its.toArray.size).any λi=>bs.getD i false)=bs.any id:=by
    rw[kA,<- hlen];apply z5.mpr;simp only[Fc,y6,id];constructor
    ·rintro⟨i,hi,h⟩;exact⟨bs[i],L6 hi,by simpa[List.getD,hi] using h⟩
    ·rintro⟨b,hb,h⟩;obtain⟨i,hi,rfl⟩:=W_.mp hb;exact⟨i,hi,by simpa[List.getD,hi] using h⟩
   rw[e3];exact⟨.bl (bs.any id),H,I.kept λb o e=>hk b o (by simp;exact fz (e8 e)) (eL _ e),rfl,q⟩
 ·exact h.elim
end
end L2
namespace L2.Q
section
variable {X:Cx}{K:aC}{e e3:Expr}
def eT' (hc:autoParam (X.calm=true) bv) (hK:autoParam (X.K=K) bv):kM X (.builtin "any") (Wk K):=by subst hK;exact yU hc
def Dw:k7 "any" = some (.builtin "any"):=by decide +kernel
def Wl:W1:=λ_ x Q=>match x with
 |.list xs=>∃ bs:List Bool,xs=bs.map D.bl/\Q .sh (.bl (bs.any (λb=>b)))
 |_=>False
def Ec:DC K (Wk K) Wl:=by
 intro Hs H m x v As Qd Qv w rx h f;have r1:=rx.rep w
 cases r1 with
 |list z s q =>obtain⟨bs,rfl,h⟩:=h;cases DR q;exact⟨bs,s,f.sh w (.bl _) h⟩
 |_=>exact h.elim
def xF:k7 "int" = some (.type "int"):=by decide +kernel
def Place.short(pl:Place K bq H1 σ fl (.list xs) v up)(e:v=.ref a)(h:H1 a=some (.lst vs)):vs.length<=bG:=by
 subst e;rcases pl.ex with⟨iE,r,ne,_⟩
 cases r with
 |sh _ _=>exact absurd rfl ne
 |list hz e3 _=>rw[h] at e3;cases e3;exact hz
end
end L2.Q
namespace L2.Q.R
section
variable {m:Md}{Q:Md->L2.Q.D->Prop}{xs:List L2.Q.D}{k:List L2.Q.D->Prop}
def bf'(d:L2.Q.D)(k:List L2.Q.D->Prop):Prop:=match d with
 |.list xs=>k xs
 |_=>False
def Qt:bf' (.list xs) k=k xs:=rfl
def Ox:HC (some d) m n z Q=Q (ua m d) d:=rfl
def O9:HC none m n z Q=Q n z:=rfl
def Qp:Wl m (.list xs) Q = ∃ bs:List Bool,xs=bs.map L2.Q.D.bl/\Q .sh (.bl (bs.any (λb=>b))):=rfl
end
end L2.Q.R
namespace L2
open PySem.SeqAt
end L2
namespace L2.Q
open PySem.SeqAt
end L2.Q
namespace L2.Q.R
open PySem.SeqAt
end L2.Q.R
namespace L2
open PySem.SeqAt
section
variable {X:Cx}
def Fb(K:aC):R2:=λx y H Q=>∃ l xs n,x=.ref l/\y=.int n/\fe K H l xs/\0<=n/\n<=4000/\xs.length<=1000/\∀ p,H p=none->Q (.ref p) (upd H p (.lst (List.replicate n.toNat xs).flatten))
def Ag(h:Vals xs vs)(k:Nat):Vals (List.replicate k xs).flatten (List.replicate k vs).flatten:=by
 induction k with
 |zero=>exact .nil
 |succ k ih=>rw[E9,E9,IE,IE];exact h.append ih
def uD{α:Type}(xs:List α)(k:Nat):(List.replicate k xs).flatten.length=xs.length*k:=by
 induction k with
 |zero=>rfl
 |succ k ih=>rw[E9,IE,mG,ih,Nat.mul_succ];lia
def Gd:dP X (nV .Mult) (Fb X.K):=by
 walk_at"b";obtain⟨l,xs,n,rfl,rfl,hH,h0,h1,h2,q⟩:=h;cases rx;obtain⟨t,rfl⟩:=ry;obtain⟨its,r,pl,z⟩:=I.list hH;have hl:=r.length;obtain⟨⟨cls,dd,data,sl⟩,ho,hc,k,hd⟩:=id pl.isList;subst hc hd;have hm:its.toArray.size*n.toNat<=1000*4000:=MB (by rw[kA];lia) (by lia);have fN:=mB;refine wpAny_binaryOp_repeat_ref (by decide) ⟨_,ho,rfl⟩ (λs'=>typeIs_int s' n t) noFill_list_mul PySem.F.fills_int_mul PySem.F.slot_int_rmul repeat_list PySem.F.slot_int_index.lookup (call_meets PySem.F.slot_int_rmul (typeIs_int s n t) PySem.F.entry_int_rmul (PySem.F.args_int_rmul_2 _ _) (lm_int_rmul_list_any n t l its.toArray k dd sl) ⟨ho,rfl,⟨_,ho,rfl⟩,call_meets PySem.F.slot_list_mul ⟨_,ho,rfl⟩ PySem.F.entry_list_mul (PySem.F.args_list_mul_2 _ _) (lm_list_mul_any l its.toArray k dd sl n t (by simp[Builtin.List.listFitsIndex];lia) (by lia) (by simp only[Builtin.List.listTooLong,decide_eq_true_eq];lia)) ⟨ho,?_⟩⟩)
 rw[listMul_foldl_if];exact⟨.ref _,_,I.ZY (Ag r _) (by
  rw[uD];have:xs.length*n.toNat<=1000*4000:=MB h2 (by lia);lia),rfl,q _ I.fresh⟩
end
end L2
namespace L2.Q
open PySem.SeqAt
section
variable {X:Cx}{K:aC}{a b:Expr}{ta tb:WE}{pos:Pos}
def A_:W2:=λ_ x _ y Q=>match x with
 |.list xs=>match y with
  |.int n=>(0<=n/\n<=4000/\xs.length<=1000)/\dQ xs=true/\Q (.ow true) (.list (List.replicate n.toNat xs).flatten)
  |_=>False
 |_=>False
def CN(h:bS K H xs vs)(k:Nat):bS K H (List.replicate k xs).flatten (List.replicate k vs).flatten:=by
 induction k with
 |zero=>exact .nil
 |succ k ih=>rw[E9,E9,IE,IE];exact h.append ih
def zN(h:dQ xs=true)(k:Nat):dQ (List.replicate k xs).flatten=true:=by
 induction k with
 |zero=>rfl
 |succ k ih=>rw[E9,IE,eN,h,ih];rfl
def En:kQ K (Fb K) A_:=by
 walk_at"a";have r1:=rx.rep w;have r2:=ry.rep w
 cases r1 with
 |list z s q=>cases r2 with
  |int n =>obtain⟨⟨h0,h1,h2⟩,fl,h⟩:=h;have hl:=q.length;refine⟨_,_,_,rfl,rfl,s,h0,h1,by lia,?_⟩;refine f.lst w ?_ (CN q _) (zN fl _) h;rw[uD,mB];have:List.length _*n.toNat<=1000*4000:=MB h2 (by lia);exact kE this (by decide)
  |_=>exact h.elim
 |_=>exact h.elim
def NT(hK:autoParam (X.K=K) bv):dP X (nV .Mult) (Fb K):=by subst hK;exact Gd
def Ku(ha:QE X K a ta)(hb:QE X K b tb)(hK:autoParam (X.K=K) bv):QE X K (.BinOp a .Mult b pos) (ay A_ ta tb):=OG (NT hK) En ha hb
end
end L2.Q
namespace L2.Q.R
open PySem.SeqAt
section
variable {Q:Md->L2.Q.D->Prop}{m m':Md}{xs:List L2.Q.D}{a:Int}
def Pb:A_ m (.list xs) m' (.int a) Q=((0<=a/\a<=4000/\xs.length<=1000)/\dQ xs=true/\Q (.ow true) (.list (List.replicate a.toNat xs).flatten)):=rfl
end
end L2.Q.R
namespace L2
end L2
namespace L2.Q
section
def mvE(i j:Nat)(hs xs:List D)(ρ:Env):Env:=(ρ.set j none).set i (some (.ow true (.list (hs++[.list xs]))))
def mvV(i j:Nat)(hs xs:List D)(ρ:Env):Env:=((mvE i j hs xs ρ).map (Option.map V3)).set j (some (.sh (.list xs)))
def bg'(o:Option Sl)(k:Sl->Prop):Prop:=match o with
 |some s=>k s
 |none=>False
end
end L2.Q
namespace L2.Q.R
end L2.Q.R
namespace L2
def yH(sc scope:lT)(N cn:List Str)(ix:List Nat):Bool :=
 scope.kind == .function && scope.names.all (λy=>y.2 != .free || KL (sc.names.lookup y.1)) && scope.names.all (λy=>y.2 != .local || scope.names.lookup y.1 == some .local) &&
 ix.length == cn.length && (List.range ix.length).all (λk=>match ix[k]?,cn[k]? with
  |some j,some y=>N[j]? == some y && KL (sc.names.lookup y) && scope.names.contains (y,NameKind.free) && KL ((FV sc scope.names).lookup y) && !scope.names.contains (y,NameKind.cell)
  |_,_=>false) &&
 (FV sc scope.names).all (λy=>!(y.2 == .cell || y.2 == .free) || scope.names.contains (y.1,NameKind.free) || scope.names.contains (y.1,NameKind.cell))
def cU.of{X:Cx}{sc scope:lT}{N tn cn:List Str}{ix:List Nat}(x3:X.env.scope=sc)(hN:X.N=N)(h:yH sc scope N cn ix=true):cU X scope tn cn ix:=by
 unfold yH at h;simp only[k9] at h;obtain⟨⟨⟨⟨⟨h1,h3⟩,h4⟩,h5⟩,h6⟩,h7⟩:=h;rw[yT] at h3 h4 h6 h7;have Tv:(relabel scope X.env).names=FV sc scope.names:=by rw[<- x3];rfl
 refine⟨by simpa using h1,λy hy hk=>?_,λy hy hk=>?_,by simpa using h5,λk j hk=>?_,λx hx=>?_⟩
 ·have:=h3 y hy;rw[hk] at this;rw[x3];exact iz (by simpa using this)
 ·have:=h4 y hy;rw[hk] at this;simpa using this
 ·have i7:k<ix.length:=(h9.mp hk).1;have:=h6 k (y6.mpr i7);rw[hk] at this
  cases e:cn[k]? with
  |none=>rw[e] at this;cases this
  |some y =>rw[e] at this;simp only[k9] at this;obtain⟨⟨⟨⟨a1,a2⟩,a3⟩,a4⟩,a5⟩:=this;refine⟨y,rfl,by rw[hN];simpa using a1,by rw[x3];exact iz a2,by simpa using a3,by rw[Tv];exact iz a4,by simpa using a5⟩
 ·rw[Tv] at hx;have mem:∃ k,(x,k)∈FV sc scope.names/\(k=.cell\/k=.free):=by
   rcases hx with hx|hx
   ·exact⟨_,PySem.mem_of_lookup hx,.inl rfl⟩
   ·exact⟨_,PySem.mem_of_lookup hx,.inr rfl⟩
  obtain⟨k,hm,hk⟩:=mem;have:=h7 _ hm;rcases hk with rfl|rfl<;>simpa using this
def cU.by{X:Cx}{sc scope:lT}{N tn cn:List Str}{ix:List Nat}(c:X.env.scope=sc/\X.N=N)(h:yH sc scope N cn ix=true):cU X scope tn cn ix:=.of c.1 c.2 h
def rlS(sc scope:lT):lT:={ scope with names:=FV sc scope.names }
def bN.inC{X:Cx}{sc scope Wm:lT}{C:ai}{N fp:_}{s:aI}{H:Hp}{tn cn:List Str}{ix:List Nat}(x3:X.env.scope=sc)(h:CG (rlS sc Wm) scope N cn ix=true):bN (aO X Wm C N fp s H) scope tn cn ix :=
 bN.of (by
  show relabel Wm X.env=rlS sc Wm;rw[<- x3];rfl) rfl h
end L2
namespace L2.Q
section
variable {X:Cx}{K:aC}
def zj{tg iter elt:Expr}{ifs:List Expr}{scope:lT}{pos:Pos}{wi:WI}{g:WG}{tc:WT}{te:WE}{tn cn:List Str}{ix:List Nat}(hi:OQ X K tg iter wi)(hg:∀ {C fp dA eJ} {q:(tn++cn).Nodup},QG (aO X scope C (tn++cn) fp dA eJ) K tg g) (sL:∀ {C fp dA eJ},T4 (aO X scope C (tn++cn) fp dA eJ) K ifs tc) (he:∀ {C fp dA eJ},QE (aO X scope C (tn++cn) fp dA eJ) K elt te)(hs:∀ x,BU iter X.env x=pure x:=by intro _;rfl) (nd:(tn++cn).Nodup:=by decide +kernel) (O:cU X scope tn cn ix:=by exact cU.by (by assumption) (by decide +kernel)) (hc:autoParam (X.calm=true) bv):QE X K (.ListComp elt [⟨tg,iter,ifs,0⟩] scope pos) (cL wi g tc te tn.length ix) :=
 PE.imp (uo hc hi O (λ_ _ _ _=>hg (q:=nd)) (λ_ _ _ _=>sL) (λ_ _ _ _=>he) hs) λσ H Qv h=>jO h
end
end L2.Q
namespace L2.Q.R
end L2.Q.R
namespace L2
section
variable {X:Cx}{o i value:Expr}{pos pos':Pos}{td ty tv:TE}
def M8(td ty tv:TE):TS:=λD σ H=>tv σ H λv H1=>td σ H1 λx H2=>ty σ H2 λy H3=>∃ a xs,∃ j:Int,x=.ref a/\y=.int j/\H3 a=some (.lst xs)/\0<=j/\j<xs.length/\D.nx σ (upd H3 a (.lst (xs.set j.toNat v)))
def CK(r:RelV v u)(h:Vals xs us)(k:Nat):Vals (xs.set k v) (us.set k u):=by
 induction h generalizing k with
 |nil=>exact .nil
 |cons a _ ih =>
  cases k with
  |zero=>exact .cons r ‹_›
  |succ k=>exact .cons a (ih k)
def Ii(ho:PE X o td)(hi:PE X i ty)(hv:PE X value tv)(hs:nS value (some (.Subscript o i pos')) pos.line X.env=pure false) :
  PS X (.Assign [.Subscript o i pos'] value pos) (M8 td ty tv):=by
 intro pins s σ H D I h;refine wpAny_Assign_Subscript (cp (hv pins s σ H _ I h) λr s1 ck=>L2.e9 ck λv H1 I1 rv q1=>cp (ho pins s1 σ H1 _ I1 q1) λu s2 ck=>L2.e9 ck λx H2 I2 rx q2=>cp (hi pins s2 σ H2 _ I2 q2) λiv s3 dc=>?_) hs;obtain⟨y,H3,I3,ry,a,xs,j,ex,ey,g,h0,h1,q3⟩:=dc;subst ex ey;obtain rfl:u=Value.ref a:=rx;obtain⟨t,rfl⟩:=ry;obtain⟨z,its,n,r',hl,e⟩:=I3.cZ' g;have hsl:bG<2 ^ 62:=by rw[mB];decide
 exact PySem.W.ki_setAt e h0 (by lia) (by rw[kA];lia) ⟨σ,_,I3.cY' g e (by simp) (CK rv r' _) (by simpa using z),q3⟩
end
end L2
namespace L2.Q
section
variable {X:Cx}{K:aC}{L:Str->Hp->Prop}{a b c e2:Expr}{p:WP}{tk tv:WE}{pos pos':Pos}
def az.put(r:cc K Hs H fl d v [])(k:Nat)(q:az K Hs H fl ds vs As):∃ Bs,Bs.Sublist As/\az K Hs H fl (ds.set k d) (vs.set k v) Bs:=by
 induction k generalizing ds vs As with
 |zero =>
  cases ds with
  |nil=>obtain⟨rfl,rfl⟩:=q.n0;exact⟨[],List.Sublist.refl _,q⟩
  |cons x ds =>obtain⟨u,us,A,B,rfl,rfl,_,q2⟩:=q.c;exact⟨[]++B,LX _ _,az.cons r q2⟩
 |succ k ih =>
  cases ds with
  |nil=>obtain⟨rfl,rfl⟩:=q.n0;exact⟨[],List.Sublist.refl _,q⟩
  |cons x ds =>obtain⟨u,us,A,B,rfl,rfl,r1,q2⟩:=q.c;obtain⟨Bs,sb,q3⟩:=ih q2;exact⟨A++Bs,List.Sublist.append (List.Sublist.refl _) sb,az.cons r1 q3⟩
def Gu(p:WP)(tk tv:WE):WS:=λE ρ=>tv ρ λ_ x=>p ρ λfl d up=>tk ρ λ_ j=>x.flat=true/\R.bf' d λxs=>intD j λj=>0<=j/\j<xs.length/\E.nx (up fl (.list (xs.set j.toNat x)))
def FZ(ho:QP X K a p)(hi:QE X K b tk)(hv:QE X K c tv)(hs:autoParam (nS c (some (.Subscript a b pos')) pos.line X.env=pure false) bv) :
  QS X K L (.Assign [.Subscript a b pos'] c pos) (Gu p tk tv):=by
 refine PS.imp (Ii ho hi hv hs) λD σ H hx=>cD hx λHs ρ ah E sr h k1 k2 k3 k4=>?_;refine⟨Hs,ρ,ah,_,sr,h,λv H1 bq m1 x As1 g1 r1 f1 q1=>⟨bq,ρ,ah,_,sr.grow g1,q1,λu H2 bE fl d up g2 p2 q2=>⟨bE,ρ,ah,_,(sr.grow g1).grow g2,q2,λy H3 e7 m3 yd RC g3 r3 f3 q3=>?_⟩⟩⟩;obtain⟨hx,q3⟩:=q3;have rx:Rep K e7 x v:=((r1.grow g2).grow g3).flat g3.wf hx;have ry:=r3.rep g3.wf
 cases d with
 |list xs =>
  cases ry with
  |int j =>obtain⟨h0,h1,q3⟩:=q3;obtain⟨a,vs,A,ea,e2,e21,rs,nd,hn,k⟩:=p2.put g3;obtain⟨nA,V_⟩:=ny.mp nd;have hl:=rs.length;have hz0:=p2.short ea e21;obtain⟨B,sb,rb⟩:=az.put (cc.sh (λ_=>hx) rx) j.toNat rs;refine⟨a,vs,j,ea,rfl,e2,h0,by lia,?_⟩;obtain⟨fh,kD⟩:=k fl _ _ B id rb (by rw[List.length_set];lia) (sb.nodup V_) (λz=>nA (sb.subset z)) (λx hx=>.inl (sb.subset hx));exact k1 _ _ e7 _ fh ((g1.sh.trans g2.sh).trans g3.sh) kD q3
  |_=>exact q3.elim
 |_=>exact q3.elim
end
end L2.Q
namespace L2.Q.R
section
variable {tk tv:WE}{ρ:L2.Q.Env}{E:jG}{p:WP}
def Oi:Gu p tk tv E ρ=tv ρ λ_ x=>p ρ λfl d up=>tk ρ λ_ j=>x.flat=true/\cy d (f:=λd=>bf' d λxs=>cy j (f:=λj=>intD j λj=>0<=j/\j<xs.length/\E.nx (up fl (.list (xs.set j.toNat x)))) ⟨⟩) ⟨⟩:=rfl
end
end L2.Q.R
namespace L2.Q
structure DJ(H G:Hp):Prop where
 tup:∀ a vs,H a=some (.tup vs)->G a=some (.tup vs)
 lst:∀ a vs,Rd H a (.lst vs)->Rd G a (.lst vs)
 dct:∀ a u,jj u->Rd H a u->Rd G a u
 els:GV H G
section
variable {K:aC}{H G Hs Gs:Hp}{p:ai}{u:HO}{o:Obj}
def DJ.rep2(s:DJ H G):(∀ {d} {v},Rep K H d v->Rep K G d v)/\∀ {ds} {vs},bS K H ds vs->bS K G ds vs :=
 Rep.ind .non .bl .int (λ_ h=>.str h) (λ_ _ _ z h _ ih=>.list z (h.imp (s.lst _ _) id) ih) (λ_ _ _ z h _ ih=>.tup z (s.tup _ _ h) ih) (λ_ _ _ kk h _ ih=>.dK kk (s.dct _ _ trivial h) ih) (λ_ _ _ kk h _ ih=>.dT kk (s.dct _ _ trivial h) ih) .nil λ_ _ _ _ _ _ a b=>.cons a b
def DJ.rep(s:DJ H G)(r:Rep K H d v):Rep K G d v:=s.rep2.1 r
def DJ.JL(s:DJ Hs Gs):(∀ {d} {v} {As},cc K Hs H fl d v As->(∀ a∈As,G a=H a)->cc K Gs G fl d v As)/\∀ {ds} {vs} {As},az K Hs H fl ds vs As->(∀ a∈As,G a=H a)->az K Gs G fl ds vs As :=
 cc.ind (λ_ _ f r _=>.sh f (s.rep r)) (λ_ _ _ _ z e _ ih k=>.list z ((k _ eh).trans e) (ih λa h=>k a (eI _ h))) (λ_ _ _ _ z e n _ ih k=>.tup z (s.tup _ _ e) n (ih k)) (λ_ _ _ _ z e _ ih k=>.dK z ((k _ eh).trans e) (ih λa h=>k a (eI _ h))) (λ_ _ _ _ z e _ ih k=>.dT z ((k _ eh).trans e) (ih λa h=>k a (eI _ h))) (λ_=>.nil) λ_ _ _ _ _ _ _ _ i1 i2 k=>.cons (i1 λa h=>k a (yB _ h)) (i2 λa h=>k a (lI _ h))
def DJ.sr(s:DJ Hs Gs)(r:SR K Hs H ρ σ ah)(k:∀ a∈ah,G a=H a):SR K Gs G ρ σ ah:=r.map s.rep s.JL.1 s.els k
def wQ(hu:jj u)(e:H p=some u):DJ H (upd H p (.fR o u)):=by
 have ne:∀ {a} {w},(w≠u)->Rd H a w->a≠p:=λhw h z=>by
  subst z;rcases h with h|⟨ob,h⟩
  ·rw[e] at h;cases h;exact hw rfl
  ·rw[e] at h;cases h;exact hu
 have mv:∀ {a} {w},a≠p->Rd H a w->Rd (upd H p (.fR o u)) a w:=λn h=>h.imp (λh=>by rw[b6 n];exact h) λ⟨ob,h⟩=>⟨ob,by rw[b6 n];exact h⟩
 refine⟨λa vs h=>?_,λa vs h=>mv (ne (λz=>by subst z;exact hu) h) h,λa w hw h=>?_,λa w hw h=>by rw[b6 λz=>by subst z;rw[e] at h;cases h;cases u<;>first|exact hw|exact hu];exact h⟩
 ·rw[b6 (ne (λz=>by subst z;exact hu) (.inl h))];exact h
 ·by_cases z:a=p
  ·subst z;rcases h with h|⟨ob,h⟩
   ·rw[e] at h;cases h;exact .inr ⟨o,d5⟩
   ·rw[e] at h;cases h;exact hu.elim
  ·exact mv z h
def lr(hu:jj u)(e:H p=some (.fR o u)):DJ H (upd H p u):=by
 have ne:∀ {a} {w},(w≠u)->(∀ ob x,w≠.fR ob x)->Rd H a w->a≠p:=λhw hf h z=>by
  subst z;rcases h with h|⟨ob,h⟩
  ·rw[e] at h;cases h;exact hf _ _ rfl
  ·rw[e] at h;cases h;exact hw rfl
 have mv:∀ {a} {w},a≠p->Rd H a w->Rd (upd H p u) a w:=λn h=>h.imp (λh=>by rw[b6 n];exact h) λ⟨ob,h⟩=>⟨ob,by rw[b6 n];exact h⟩
 refine⟨λa vs h=>?_,λa vs h=>mv (ne (w:=.lst vs) (λz=>by subst z;exact hu) (λ_ _ z=>nomatch z) h) h,λa w hw h=>?_,λa w hw h=>by rw[b6 λz=>by subst z;rw[e] at h;cases h;exact hw];exact h⟩
 ·rw[b6 (ne (w:=.tup vs) (λz=>by subst z;exact hu) (λ_ _ z=>nomatch z) (.inl h))];exact h
 ·by_cases z:a=p
  ·subst z;rcases h with h|⟨ob,h⟩
   ·rw[e] at h;cases h;exact hw.elim
   ·rw[e] at h;cases h;exact .inl d5
  ·exact mv z h
def dv.qj(s:dv K Hs ρ σ H ah)(e:Hs p=some w)(hw:∀ vs,w≠.tup vs)(hx:∀ vs,x≠.tup vs)(m:DJ Hs (upd Hs p x)):dv K (upd Hs p x) ρ σ (upd H p x) ah:=by
 have np:∀ a∈ah,a≠p:=λa h z=>by subst z;rw[s.own a h] at e;cases e
 refine⟨m.sr s.sr λa h=>b6 (np a h),⟨λa o h=>?_,λa vs h=>?_⟩,s.oz,λa h=>by rw[b6 (np a h)];exact s.own a h⟩
 ·by_cases z:a=p
  ·subst z;rw[d5] at h ⊢;exact h
  ·rw[b6 z] at h ⊢;exact s.wf.sub a o h
 ·by_cases z:a=p
  ·subst z;rw[d5] at h;cases h;exact absurd rfl (hx _)
  ·rw[b6 z] at h ⊢;exact s.wf.kB a vs h
def RM.thw(hu:jj u)(e:Hs p=some (.fR o u))(w:Wf Hs H)(hn:∀ a∈As,Hs a=none)(r:RM K Hs H m d v As):RM K (upd Hs p u) (upd H p u) m d v As:=by
 cases m with
 |sh=>exact⟨r.1,(lr hu e).rep r.2⟩
 |bo=>exact⟨r.1,(lr hu (w.sub _ _ e)).rep r.2⟩
 |wb _ q=>exact⟨(lr hu (w.sub _ _ e)).rep r.1,q.hX (λa o n h=>by rw[b6 λz=>by subst z;rw[e] at h;cases h;exact n];exact h) (λb h=>b6 λz=>by subst z;rw[hn b h] at e;cases e) r.2⟩
 |ow fl=>exact⟨(lr hu e).JL.1 r.1 (λa h=>b6 λz=>by subst z;rw[hn a h] at e;cases e),r.2⟩
def tZ(e:Hs p=some u)(s:bt (upd Hs p (.fR o u)) bE):bt Hs (upd bE p u):=λa w h=>by
 by_cases z:a=p
 ·subst z;rw[e] at h;cases h;exact d5
 ·rw[b6 z];exact s a w (by rw[b6 z];exact h)
def ji.dct(e:Hs p=some (.fR o u))(rs:bS K Hs ds ks):ji K (Oy p o ks) ds λG _=>bt Hs G where
 go:=λi G H s w h=>⟨by rw[<- rs.length];exact h,u,w.sub _ _ (s _ _ e)⟩
 nE:=λi G H x H' d s w h y=>by obtain⟨y1,y2⟩:=y;subst y1;obtain⟨v,ev,r⟩:=rs.get h;rw[y2] at ev;cases ev;exact⟨G,fk.refl w,r.same s⟩
 stop:=λG H s w=>⟨rs.length,u,w.sub _ _ (s _ _ e)⟩
end
def Fw:D->Option (List D)
 |.dK kvs=>some (kvs.map λkv=>iO kv.1)
 |.dT kvs=>some (kvs.map λkv=>yi kv.1)
 |_=>none
def G4(te:WE)(g:WG)(b:WS):WS:=λE ρ=>te ρ λm x=>m=.sh/\∃ ds,Fw x=some ds/\gW g b E ds ρ
section
variable {X:Cx}{K:aC}{L:Str->Hp->Prop}{e tg:Expr}{pos:Pos}{te:WE}{g:WG}{b:WS}{body:List h8}
def pM{J:It}(S:ji K J ds λG _=>bt bq G)(sr:dv K bq ρ σ H1 ah)(q1:gW g b E ds ρ)(hL:∀ n H,L n H)(k1:∀ b9 H' ax bT cv,bt bq ax->dv K ax bT b9 H' cv->E.nx bT->D'.nx b9 H')(k4:∀ v H' ax m d As,bt bq ax->Wf ax H'->RM K ax H' m d v As->As.Nodup->(∀ a∈As,ax a=none)->E.rt m d->D'.rt v H'):ai' J (T2 K g) (x6 K L b) D' σ H1:=by
 refine⟨λi m σ H=>m=ds.length-i/\i<=ds.length/\∃ ax bT cv,bt bq ax/\dv K ax bT σ H cv/\gW g b E (ds.drop i) bT,⟨ds.length,by simp,f7 _,bq,ρ,ah,bt.refl _,sr,by simpa using q1⟩,?_⟩;rintro i m kU H2 ⟨rfl,hi,bE,hZ,fh,s2,kD,q2⟩;by_cases eK:i<ds.length
 ·refine .inr ⟨S.go i bE H2 s2 kD.wf eK,λrq H3=>∃ ax bT cv,bt bq ax/\dv K ax bT rq H3 cv/\gW g b E (ds.drop (i+1)) bT,λrq H3 h3=>⟨ds.length-(i+1),by lia,rfl,eK,h3⟩,λx H3 y=>?_⟩;obtain⟨e7,g3,rd⟩:=S.nE i bE H2 x H3 ds[i] s2 kD.wf (by simp[eK]) y;rw[LW eK] at q2;have s3:=s2.trans g3.sh;refine⟨e7,hZ,fh,ds[i],_,kD.grow g3,rd,q2,λσ4 yk T3 RQ _ q4=>?_⟩;refine⟨e7,yk,T3,_,RQ,q4,?_,?_,?_,?_,λn H5 _ _=>hL n H5⟩
  ·exact λDE H5 lS ub ui s5 uj q5=>⟨lS,ub,ui,s3.trans s5,uj,q5⟩
  ·exact λDE H5 lS ub ui s5 uj q5=>k1 DE H5 lS ub ui (s3.trans s5) uj q5
  ·exact λDE H5 lS ub ui s5 uj q5=>⟨lS,ub,ui,s3.trans s5,uj,q5⟩
  ·exact λv H5 lS m d As s5=>k4 v H5 lS m d As (s3.trans s5)
 ·have e:i=ds.length:=by lia
  subst e;refine .inl ⟨S.stop bE H2 s2 kD.wf,?_⟩;rw[UD] at q2;exact k1 kU H2 bE hZ fh s2 kD q2
def xn(r:Rep K Hs x (.ref a))(w:Wf Hs H)(A7:Fw x=some ds)(hu:jj u)(e:Rd Hs a u)(h:ni H u ks):bS K Hs ds ks:=by
 have one:∀ {w},jj w->Rd Hs a w->w=u:=λ{w} hw r2=>by
  rcases e with e|⟨o,e⟩<;>rcases r2 with z|⟨o2,z⟩<;>rw[e] at z<;>cases z
  ·rfl
  ·exact hu.elim
  ·exact hw.elim
  ·rfl
 cases r with
 |@dK _ vs kvs kk rd q =>cases A7;have:=one (w:=.dK _) trivial rd;subst this;have hl:=q.length;rw[b4] at hl;have e1:((kvs.map (·.1)).zip vs).map (·.1)=kvs.map (·.1):=L7 (by rw[b4];exact IH hl);have e2:=congrArg (List.map kV) e1;rw[fE] at e2;rw[h,show(kvs.map λkv=>iO kv.1)=(kvs.map (·.1)).map iO by rw[fE];rfl];refine(show bS K Hs _ (((kvs.map (·.1)).zip vs).map (kV ∘ λx=>x.1)) from ?_);rw[e2];exact dN λk hk=>by obtain⟨p,hp,rfl⟩:=c9.mp hk;exact kk.2 p hp
 |@dT _ vs kvs kk rd q =>cases A7;have:=one (w:=.dT _) trivial rd;subst this;have h:cR H ks _:=h;have hl:=q.length;rw[b4] at hl;rw[L7 (by rw[b4];exact IH hl)] at h;rw[show(kvs.map λkv=>yi kv.1)=(kvs.map (·.1)).map yi by rw[fE];rfl];exact(oH h λk hk=>by obtain⟨p,hp,rfl⟩:=c9.mp hk;exact kk.2 p hp).gG w.kB (gC _)
 |_=>cases A7
def Hf(he:QE X K e te)(hg:QG X K tg g)(hb:x8 X K L body b)(hL:∀ n H,L n H)(hs:∀ x,BU e X.env x=pure x:=by intro _;rfl)(hp:PassesOwn (aE X.prog X.w) X.A X.env X.xe:=by first|exact PassesOwn.never|exact PassesOwn.leaving)(hc:autoParam (X.calm=true) bv) :
  QS X K L (.For tg e body [] pos) (G4 te g b):=by
 refine PS.imp (Fq (cl' hp hc (Fe he) hg hb hs)) λD σ H hx=>jT hx λHs ρ ah E sr h k1 k2 k3 k4 kx=>?_;refine⟨Hs,ρ,ah,_,sr,h,λv H1 bq m x As g1 r1 f1 q1=>?_⟩;obtain⟨rfl,ds,A7,q1⟩:=q1;obtain⟨rfl,r1⟩:=r1;have sR:=sr.grow g1;have go:∀ {a} {u},v=.ref a->jj u->Rd bq a u->∃ p u,v=.ref p/\jj u/\((H1 p=some u/\∀ o ks,(∀ o' w,X.pS p≠some (.fR o' w))->(∀ ps,X.pS p≠some (.zh ps))->ni H1 u ks->ai' (Oy p o ks) (T2 K g) (x6 K L b) { D with nx:=GU X D.nx,bk:=GU X D.bk,ct:=GU X D.ct,rt:=aD' X D.rt } σ (upd H1 p (.fR o u))) \/
   ∃ o,H1 p=some (.fR o u)/\∀ ks,ni H1 u ks->ai' (Oy p o ks) (T2 K g) (x6 K L b) { D with nx:=GU X D.nx,bk:=GU X D.bk,ct:=GU X D.ct,rt:=aD' X D.rt } σ H1):=by
  intro a u ev hu rd;subst ev;refine⟨a,u,rfl,hu,?_⟩;rcases rd with rd|⟨o,rd⟩
  ·refine .inl ⟨g1.wf.sub _ _ rd,λo ks nf nb hk=>?_⟩;have rs:=(wQ (o:=o) hu rd).rep2.2 (xn r1 g1.wf A7 hu (.inl rd) hk);have sf:=sR.qj (x:=.fR o u) rd (λvs z=>by subst z;exact hu) (λvs z=>nomatch z) (wQ hu rd);refine pM (.dct d5 rs) sf q1 hL (λb9 H' ax bT cv s' EJ n=>.inr ⟨a,u,o,?_,nf,nb,?_⟩) λv H' ax m d As s' w' r' OY CC n=>.inr ⟨a,u,o,?_,nf,nb,?_⟩
   ·exact EJ.wf.sub _ _ (s' _ _ d5)
   ·have e:=s' _ _ (d5);exact k1 b9 _ _ bT cv (g1.sh.trans (tZ rd s')) (EJ.qj e (λvs z=>nomatch z) (λvs z=>by subst z;exact hu) (lr hu e)) n
   ·exact w'.sub _ _ (s' _ _ d5)
   ·have e:=s' _ _ (d5);refine k4 v _ _ m d As (g1.sh.trans (tZ rd s')) ⟨λb ob h=>?_,λb vs h=>?_⟩ (r'.thw hu e w' CC) OY (λb hb=>?_) n
    ·by_cases z:b=a
     ·subst z;rw[d5] at h ⊢;exact h
     ·rw[b6 z] at h ⊢;exact w'.sub b ob h
    ·by_cases z:b=a
     ·subst z;rw[d5] at h;cases h;exact hu.elim
     ·rw[b6 z] at h ⊢;exact w'.kB b vs h
    ·rw[b6 λz=>by subst z;rw[CC _ hb] at e;cases e];exact CC b hb
  ·refine .inr ⟨o,g1.wf.sub _ _ rd,λks hk=>?_⟩;have rs:=xn r1 g1.wf A7 hu (.inr ⟨o,rd⟩) hk;exact pM (.dct rd rs) sR q1 hL (λb9 H' ax bT cv s' EJ n=>.inl (k1 b9 H' ax bT cv (g1.sh.trans s') EJ n)) λv H' ax m d As s' w' r' OY CC n=>.inl (k4 v H' ax m d As (g1.sh.trans s') w' r' OY CC n)
 cases r1 with
 |dK kk rd q=>exact go (u:=.dK _) rfl trivial rd
 |dT kk rd q=>exact go (u:=.dT _) rfl trivial rd
 |_=>cases A7
end
end L2.Q
namespace L2.Q.R
section
variable {E:jG}{ρ:Env}{te:WE}{g:WG}{b:WS}{ts:List (List Key × L2.Q.D)}{P:List L2.Q.D->Prop}
def eX'(d:L2.Q.D)(P:List L2.Q.D->Prop):Prop:=∃ ds,Fw d=some ds/\P ds
def Oc:eX' (.dT ts) P=P (ts.map λkv=>yi kv.1):=propext ⟨λ⟨_,e,h⟩=>by cases e;exact h,λh=>⟨_,rfl,h⟩⟩
def Om:G4 te g b E ρ=te ρ λm x=>m=.sh/\cy x (f:=λx=>eX' x λds=>gW g b E ds ρ) ⟨⟩:=rfl
end
end L2.Q.R
namespace L2
section
variable {prog:cf}{w:cw}{A:ft}{E:ag->aI->Prop}{s:aI}{κ:Type}[DecidableEq κ]{knd:KeyKind prog w κ}
def ou(hu:(iL knd).room A)(Vb:(iL knd).is s.heap k b)(hm:s.heap.DictOfH (iL knd) d xs)(Wn:k∉xs.map (·.1))(fN:xs.length<=bG)(hQ:∀ h',h'.DictOfH (iL knd) d (xs++[(k,b,v)])->Heap.SameBut d s.heap h'->Q () { s with heap:=h' }):aS (aE prog w) A (dictSetHashed d (.ref b) ((iL knd).hash k) v) Q E s:=by
 obtain⟨o,es,ep,ho,hc,hd,he,BH,hn⟩:=hm;unfold dictSetHashed;try with_reducible refine vn ?_
 refine av (wpAny_dictFind_heap hu Vb ho hd he BH hn (λTb=>?_) λj p hj=>?_)
 ·refine av (zS (wpAny_updateDictKeys (hz:=by have e:=Sb he;lia) ho hd (hQ _ ⟨_,_,ep+1,D7 _ ho (Obj.isFreed_of_dict (Obj.data_mapDictKeys hd _)),hc.mapDictKeys _,Obj.data_mapDictKeys hd _,?_,?_,?_⟩ (Heap.SameBut.update ..))))
  ·simp[he,E6]
  ·intro x hx;rcases hJ.mp hx with hx|hx
   ·exact(iL knd).keeps (BH x hx) ho hd (Heap.SameBut.update ..)
   ·simp only[ic] at hx;subst hx;exact(iL knd).keeps Vb ho hd (Heap.SameBut.update ..)
  ·rw[kS,pj];refine⟨hn,by simp,?_⟩;intro x hx y hy;simp only[gL,List.map_nil,ic] at hy;subst hy;exact λe=>Wn (e ▸ hx)
 ·exact absurd (c9.mpr ⟨_,nh hj,rfl⟩) Wn
def rH(hk:(iL knd).is s.heap k b)(h:Q false s):aS (aE prog w) A (Builtin.Dict.quietEq (.ref b)) Q E s:=by exact av (LP (IsTupleKey.typeIs hk) F.slot_tuple_eq.lookup (aT h))
def wD{es:List DictEntry}(h:(es.map (·.hash)).Nodup)(e:DictEntry)(he:e∈es):((es.filter (·.hash == e.hash)).length<=1):=by
 induction es with
 |nil=>simp
 |cons x es ih =>
  obtain⟨h1,h2⟩:=ny.mp h;have none:∀ {y:DictEntry},y.hash∉es.map (·.hash)->es.filter (·.hash == y.hash)=[]:=λhy=>List.filter_eq_nil_iff.mpr λz hz q=>hy (c9.mpr ⟨z,hz,beq_iff_eq.mp q⟩);rcases eu.mp he with rfl|he
  ·rw[List.filter_cons,none h1];split<;>simp
  ·rw[List.filter_cons,if_neg]
   ·exact ih h2 he
   ·intro q;exact h1 (c9.mpr ⟨e,he,(beq_iff_eq.mp q).symm⟩)
def pZ{id:String}{d:ai}{o:Obj}{es ep}{xs:List (List κ × ai × ag)}{Q:Array DictEntry->aI->Prop}(ho:s.heap.get? d=some o)(hd:o.data=.dict es ep)(he:es.toList=xs.map (E6 (iL knd)))(BH:∀ x∈xs,(iL knd).is s.heap x.1 x.2.1)(hh:(xs.map λx=>(iL knd).hash x.1).Nodup) (h:Q es s):aS (aE prog w) A (Builtin.Dict.entriesForEmpty id d) Q E s:=by
 refine av (B1 ho hd ?_);have hn:(es.toList.map (·.hash)).Nodup:=by rw[he,fE];exact hh
 refine av ?_;rw[<- Zv];refine wpAny_forIn_list _ (λrest _ s'=>s'=s/\∀ e∈rest,e∈es.toList) _ ?_ ?_ _ _ ⟨rfl,λe h=>h⟩
 ·rintro x rest b s' ⟨rfl,hr⟩;have hx:=hr x eh;have hx2:=hx;rw[he] at hx2;obtain⟨y,hy,rfl⟩:=c9.mp hx2;refine av (rH (BH y hy) ?_);have one:=wD hn _ hx;have sz:¬ (es.filter (·.hash == (E6 (iL knd) y).hash)).size>1:=by rw[<- y9,Array.toList_filter];lia
  rw[if_neg sz];exact aT ⟨rfl,λe h=>hr e (eI _ h)⟩
 ·rintro b s' ⟨rfl,_⟩;exact aT h
def vN{nm:String}{d o:ai}{xs ys:List (List κ × ai × ag)}{Q:Unit->aI->Prop}(hu:(iL knd).room A)(Wo:d≠o)(hoS:(o == mE)=false)(hd:s.heap.DictOfH (iL knd) d xs)(ho:s.heap.DictOfH (iL knd) o ys)(dj:∀ y∈ys,y.1∉xs.map (·.1)) (hh:(ys.map λx=>(iL knd).hash x.1).Nodup) (fN:xs.length+ys.length<=bG) (hQ:∀ h',h'.DictOfH (iL knd) d (xs++ys)->Heap.SameBut d s.heap h'->Q () { s with heap:=h' }) :
  aS (aE prog w) A (Builtin.Dict.mergeDict nm d o) Q E s:=by
 obtain⟨od,esd,epd,t9,tS,Bn,hed,qL',hnd⟩:=id hd;obtain⟨oo,yv,epo,Ug,hco,RZ,Cb,bi',Tb⟩:=id ho;have hlen:yv.size=ys.length:=Sb Cb;unfold Builtin.Dict.mergeDict;rw[if_neg (by simpa using Wo)];unfold Builtin.Dict.showsAll;rw[if_neg (by rw[hoS];exact nX)];refine av (aT ?_);refine av (B1 Ug RZ ?_);have loop:aS (aE prog w) A (do
   let epoch ← dictEpoch o
   let l ← dictEntries o
   forIn [:l.size] PUnit.unit λi _=>(do
     let l' ← dictEntries o
     match l'[i]? with
      |some e=>do
       holding [e.key,e.val] (dictSetHashed d e.key e.hash e.val)
       let ep' ← dictEpoch o
       if (ep' != epoch)=true then do
         (unsupported (toString nm++toString ":source-changed-during-callback"):Sem PUnit)
         pure (ForInStep.yield PUnit.unit)
        else pure (ForInStep.yield PUnit.unit)
      |_=>do
       (unsupported "internal:dict-merge" : Sem PUnit)
       pure (ForInStep.yield PUnit.unit):Sem (ForInStep PUnit))
   pure ()) Q E s:=by
  refine av (R9 Ug RZ ?_);refine av (B1 Ug RZ ?_);refine av ?_;rw[Std.Legacy.Range.forIn_eq_forIn_range'];refine wpAny_forIn_list _ (λrest _ s'=>∃ h' i,s'={ s with heap:=h' }/\rest=List.range' i (yv.size-i)/\i<=yv.size/\h'.DictOfH (iL knd) d (xs++ys.take i)/\h'.get? o=some oo/\Heap.SameBut d s.heap h')
   _ ?_ ?_ _ _ ⟨s.heap,0,rfl,by simp,f7 _,by simpa using hd,Ug,Heap.SameBut.refl _ _⟩
  ·rintro x rest b s' ⟨h',i,rfl,hr,hi,Ee,bj',gS⟩;have eK:i<yv.size:=by
    rcases Nat.lt_or_ge i yv.size with h|h
    ·exact h
    ·rw[Nat.sub_eq_zero_of_le h] at hr;simp at hr
   obtain⟨rfl,mJ'⟩:x=i/\rest=List.range' (i+1) (yv.size-(i+1)):=by
    have e:yv.size-i=(yv.size-(i+1))+1:=by lia
    rw[e,List.range'_succ] at hr;injection hr with h1 h2;exact⟨h1,h2⟩
   refine av (B1 bj' RZ ?_);have hx:x<ys.length:=by lia
   have ey:yv[x]? = some (E6 (iL knd) ys[x]):=by rw[entry_at Cb,tI hx];rfl
   rw[ey];have hy:ys[x]∈ys:=L6 hx;have hk0:=bi' _ hy;have VD:(iL knd).is h' ys[x].1 ys[x].2.1:=(iL knd).keeps hk0 t9 Bn gS;have tl:(ys.take x).length=x:=by rw[lP];lia
   have Wn:ys[x].1∉(xs++ys.take x).map (·.1):=by
    rw[kS];intro q;rcases hJ.mp q with q|q
    ·exact dj _ hy q
    ·obtain⟨z,hz,e⟩:=c9.mp q;obtain⟨j,hj,ej⟩:=List.mem_take_iff_getElem.mp hz;exact absurd (by rw[Zf,Zf,ej];exact e) (E8.mp Tb j x (by rw[b4];lia) (by rw[b4];exact hx) (by lia))
   refine av (vn (ou hu VD Ee Wn (by rw[mG];lia) λLv mL' Wq=>?_));have eZ':Lv.get? o=some oo:=(Wq.2 o (Ne.symm Wo)).trans bj';refine av (R9 eZ' RZ ?_);rw[if_neg (by simp)];refine aT ⟨Lv,x+1,rfl,mJ',eK,?_,eZ',gS.trans Wq⟩;rw[xdH hx,<- B7];exact mL'
  ·rintro b s' ⟨h',i,rfl,hr,hi,Ee,bj',gS⟩;have dr:i=yv.size:=by
    rcases Nat.lt_or_ge i yv.size with h|h
    ·have e:yv.size-i=(yv.size-(i+1))+1:=by lia
     rw[e,List.range'_succ] at hr;exact nomatch hr
    ·exact Nat.le_antisymm hi h
   refine aT (hQ h' ?_ gS);rw[dr,hlen,AY] at Ee;exact Ee
 dsimp only;split
 ·refine av (B1 t9 Bn ?_);split
  ·rename_i mM';have hxs:xs=[]:=by have h0:esd = #[]:=Array.isEmpty_iff.mp mM';have:=Sb hed;rw[h0] at this;exact LZ.mp this.symm
   subst hxs;refine av (pZ Ug RZ Cb bi' hh ?_);split
   ·have hto:yv.size<=bG+1:=by lia
    refine av (wpAny_updateDictKeysTo t9 Bn (aT (hQ _ ⟨_,_,epd+1,D7 _ t9 (Obj.isFreed_of_dict (Obj.data_mapDictKeys Bn _)),tS.mapDictKeys _,
     Obj.data_mapDictKeys Bn _,by simpa using Cb,λx hx=>(iL knd).keeps (bi' x hx) t9 Bn (Heap.SameBut.update ..),by simpa using Tb⟩ (Heap.SameBut.update ..))) hto)
   ·rename_i iX;have h0:yv = #[]:=Array.isEmpty_iff.mp (by simpa using iX);have hm0:ys=[]:=LZ.mp (by rw[<- hlen,h0];rfl);subst hm0;exact aT (hQ _ hd (Heap.SameBut.refl _ _))
  ·exact loop
 ·exact loop
def rN(knd:KeyKind prog w κ)(d o:ai)(Wo:d≠o)(hoS:(o == mE)=false) :
  MeetsIn prog w (Builtin.«dict.update» ⟨[.ref d,.ref o],[]⟩) (λA R s=>(iL knd).room A.in1/\∃ xs ys,s.heap.DictOfH (iL knd) d xs/\s.heap.DictOfH (iL knd) o ys/\(∀ y∈ys,y.1∉xs.map (·.1))/\(ys.map λx=>(iL knd).hash x.1).Nodup/\xs.length+ys.length<=bG /\
   ∀ h',h'.DictOfH (iL knd) d (xs++ys)->Heap.SameBut d s.heap h'->R (.ok (.ret .none)) { s with heap:=h' }) :=
 .of_wp λA R s dc=>by
  obtain⟨hu,xs,ys,hd,ho,dj,hh,fN,h⟩:=dc;refine av ?_;refine av (wpAny_notOrdered_dict hd.typeIs ?_);refine aT ?_;show aS _ _ (Builtin.Dict.updateFrom "dict.update" d (.ref o) [] .none) _ _ s;refine av (wpAny_typeOf ho.typeIs ?_);refine av ?_;refine av ?_
  ·unfold Builtin.Dict.readDirectly;exact av (R8 ho.typeIs isSubtype_dict_dict (av (LP ho.typeIs F.slot_dict_iter.lookup (aT (av (aT (vN hu Wo hoS hd ho dj hh fN λh' Ee gS=>av (aT (aT ⟨.none,rfl,h h' Ee gS⟩)))))))))
end
def Nv(p q:Int):Int:=reduceHash (Builtin.Tuple.tupleHashOf [hashInt p,hashInt q])
def Cu:((List.range 12).flatMap λp:Nat=>(List.range 12).map λq:Nat=>Nv p q).Nodup:=by decide +kernel
def Bl{f:Nat->Nat->Int}:∀ {n m},((List.range n).flatMap λp:Nat=>(List.range m).map λq:Nat=>f p q).Nodup->∀ {a b c d},a<n->c<n->b<m->d<m->f a b=f c d->a=c/\b=d:=by
 intro n m h a b c d ha hc hb hd e;obtain⟨h1,h2⟩:=List.pairwise_flatMap.mp h;by_cases z:a=c
 ·subst z;refine⟨rfl,?_⟩;have h3:=h1 a (y6.mpr ha);by_cases y:b=d
  ·exact y
  ·exfalso;have h4:=vv.mp h3;have h5:=(E8.mp h4)
   rcases Nat.lt_or_gt_of_ne y with y|y
   ·exact h5 b d (by simpa using hb) (by simpa using hd) y (by simpa using e)
   ·exact h5 d b (by simpa using hd) (by simpa using hb) y (by simpa using e.symm)
 ·exfalso;have h5:=E8.mp h2;have key:∀ {a b c d},a<n->c<n->b<m->d<m->a<c->f a b≠f c d:=λ{a b c d} ha hc hb hd y e=>by have:=h5 a c (by simpa using ha) (by simpa using hc) y;simp only[List.getElem_range] at this;exact this _ (c9.mpr ⟨b,y6.mpr hb,rfl⟩) _ (c9.mpr ⟨d,y6.mpr hd,rfl⟩) e
  rcases Nat.lt_or_gt_of_ne z with y|y
  ·exact key ha hc hb hd y e
  ·exact key hc ha hd hb y e.symm
def Uh(k:List Key):Prop:=∃ i j:Nat,i<12/\j<12/\k=[.inl (i:Int),.inl (j:Int)]
def HW{P:cf}{w:cw}{ks:List (List Key)}(h:∀ k∈ks,Uh k)(nd:ks.Nodup):(ks.map λk=>(iL (iq P w)).hash k).Nodup:=by refine vv.mpr (List.Pairwise.imp_of_mem (λ{a b} ha hb ne e=>?_) nd);obtain⟨i,j,hi,hj,rfl⟩:=h a ha;obtain⟨k,l,hk,hl,rfl⟩:=h b hb;obtain⟨rfl,rfl⟩:=Bl Cu hi hk hj hl e;exact ne rfl
def KT.append(r:KT H kvs xs)(q:KT H more ys):KT H (kvs++more) (xs++ys):=by
 induction r with
 |nil=>exact q
 |cons h t ih=>exact .cons h ih
def KT.keys(r:KT H kvs xs):xs.map (·.1)=kvs.map (·.1):=by
 induction r with
 |nil=>rfl
 |cons h t ih=>rw[gL,gL,ih,h.1]
section
variable {X:Cx}
def Ff (hu:X.A.units+1<fA):MtR X "dict.update" (λx xs H Q=>∃ a b kvs more,x=.ref a/\xs=[.ref b]/\a≠b/\H a=some (.dT kvs)/\H b=some (.dT more)/\(∀ p∈more,p.1∉kvs.map (·.1)/\Uh p.1)/\kvs.length+more.length<=bG/\Q .non (upd H a (.dT (kvs++more)))):=by
 intro pins s σ H x vs v us Q I rx rv h;obtain⟨a,b,kvs,more,rfl,rfl,He,e,eb,dr,fN,q⟩:=h;cases (rx);obtain⟨u,rfl,ru⟩:=Vals.one rv;cases (ru);obtain⟨z,hd,xs,rel,dd⟩:=Tg I.bP e;obtain⟨z2,hd2,ys,bl',NC⟩:=Tg I.bP eb;have l1:=Paired.length rel;have l2:=Paired.length bl';have k1:=KT.keys rel;have k2:=KT.keys bl';have ndy:(ys.map (·.1)).Nodup:=by obtain⟨_,_,_,_,_,_,_,_,n⟩:=id NC;exact n
 have hk:∀ k∈ys.map (·.1),k∉kvs.map (·.1)/\Uh k:=λk hk=>by rw[k2] at hk;obtain⟨p,hp,rfl⟩:=c9.mp hk;exact dr p hp
 refine call_meetsIn PySem.F.slot_dict_update dd.typeIs PySem.F.entry_dict_update (PySem.F.args_dict_update_2 _ _) (rN (iq X.prog X.w) a b He hd2) ⟨LM hu,xs,ys,dd,NC,λy hy=>?_,?_,by lia,λh' AG hs=>?_⟩
 ·rw[k1];exact(hk _ (c9.mpr ⟨y,hy,rfl⟩)).1
 ·have:=HW (P:=X.prog) (w:=X.w) (λk h=>(hk k h).2) ndy;rwa[fE] at this
 ·obtain⟨qo,es,ep,hq,g2,g3,g4,_,g5⟩:=AG;have ob:kz X.prog X.w (upd H a (.dT (kvs++more))) h' a (.dT (kvs++more)):=by refine⟨by rw[mG];lia,hd,_,(KT.append rel bl').keeps λc zs ec=>?_,qo,es,ep,hq,g2,g3,g4,g5⟩;rw[b6 (Zx ec e λz=>nomatch z)];exact ec
  exact⟨.non,_,Rp I (by rw[e];exact True.intro) hs ⟨qo,hq⟩ ob,rfl,q⟩
end
end L2
namespace L2.Q
section
variable {X:Cx}{K:aC}{L:Str->Hp->Prop}{e e2:Expr}{i j:Nat}{apos kc pos:Pos}
def HG(o:Option (Option Sl))(k:List (List Key × D)->Prop):Prop:=match o with
 |some (some (.ow true (.dT kvs)))=>k kvs
 |_=>False
def z8(h:HG o k):∃ kvs,o=some (some (.ow true (.dT kvs)))/\k kvs:=by
 unfold HG at h;split at h
 ·exact⟨_,rfl,h⟩
 ·exact h.elim
def cc.Wr(r:cc K Hs H true (.dT kvs) v As):∃ a vs A,v=.ref a/\As=a :: A/\TN kvs/\H a=some (.dT ((kvs.map (·.1)).zip vs))/\az K Hs H true (kvs.map (·.2)) vs A:=by
 cases r with
 |sh hf _=>exact absurd (hf rfl) (by simp[D.flat])
 |dT z e rs=>exact⟨_,_,_,rfl,rfl,z,e,rs⟩
def Es(i j:Nat):WS:=λE ρ=>HG ρ[i]? λkvs=>HG ρ[j]? λmore=>(∀ p∈more,p.1∉kvs.map (·.1)/\Uh p.1)/\dQ (more.map (·.2))=true/\kvs.length+more.length<=bG/\E.nx (ρ.set i (some (.ow true (.dT (kvs++more)))))
def HN(hu:X.A.units+1<fA)(hi:PE X e (kg i))(hj:PE X e2 (kg j))(hK:autoParam (X.K=K) bv)(mn:i≠j:=by decide) (FL:autoParam (DV e "update" X.env (dE e X.env)=dE e X.env) bv) (FP:autoParam (((backTo kc (g7 [e2] X.env)).all (λx=>!x.1) && (backToKw kc (E5 [] X.env)).all (λx=>x.1.isSome)
   && decide ([e2].length+([]:List AX).length+(if ([]:List AX).isEmpty then 0 else 1)<30))=true) bv)
  (hline:autoParam ((apos.endLine == kc.line)=true) bv) (DF:autoParam (aQ X e2 []) bv) (FR:autoParam (bR X kc []) bv)
  (hs:autoParam (nS (.Call (.Attribute e "update" apos) [e2] [] kc) none pos.line X.env=pure false) bv) :
  QS X K L (.Expr (.Call (.Attribute e "update" apos) [e2] [] kc) pos) (Es i j):=by
 subst hK;refine PS.imp (S4 (Vk PySem.F.plainAttrs_dict PySem.F.slot_dict_update PySem.F.type_dict_update (Ff hu) hi (nI hj t5 DF) FL FP hline DF FR) hs) λD σ H hx=>cD hx λHs ρ ah E sr h k1 k2 k3 k4=>?_;obtain⟨kvs,ei,h⟩:=z8 h;obtain⟨more,ej,dr,hf,fN,q⟩:=z8 h;obtain⟨u,Ai,ev,ne,ri,si,up⟩:=SR.put i sr.sr ei sr.oz;obtain⟨a,vs,A,rfl,rfl,kk,ea,rs⟩:=ri.Wr;obtain⟨u2,Aj,_,ev2,rj,sj,_,dj,srn⟩:=SR.take j sr.sr ej sr.oz;obtain⟨b,ws,B,rfl,rfl,kk2,eb,G0⟩:=rj.Wr;have He:a≠b:=λz=>by obtain⟨v',iE,ev',_,r',s'⟩:=SR.at srn (by rw[UA (Ne.symm mn)];exact ei);obtain⟨a',_,_,rfl,rfl,_⟩:=r'.Wr;cases ev.symm.trans ev';exact dj b eh (z ▸ s'.subset eh)
 have l1:kvs.length=vs.length:=by have:=rs.length;rwa[b4] at this
 have l2:more.length=ws.length:=by have:=G0.length;rwa[b4] at this
 have z1:((kvs.map (·.1)).zip vs).map (·.1)=kvs.map (·.1):=L7 (by rw[b4];lia);have z2:((more.map (·.1)).zip ws).map (·.1)=more.map (·.1):=L7 (by rw[b4];lia);refine⟨_,ev,.inr (.inr (.inl ⟨rfl,.inr ⟨_,ea⟩⟩)),_,ev2,a,b,_,_,rfl,rfl,He,ea,eb,λp hp=>?_,by rw[L8,L8,b4,b4];lia,?_⟩
 ·have:p.1∈more.map (·.1):=by rw[<- z2];exact c9.mpr ⟨p,hp,rfl⟩
  obtain⟨p',n9,e'⟩:=c9.mp this;rw[z1,<- e'];exact dr p' n9
 have ez:(kvs.map (·.1)).zip vs++(more.map (·.1)).zip ws=((kvs++more).map (·.1)).zip (vs++ws):=by rw[kS,List.zip_append (by rw[b4];lia)]
 rw[ez];obtain⟨nA,V_⟩:=ny.mp (si.nodup sr.oz);have nK:az X.K Hs H true (more.map (·.2)) ws []:=bS.owned ((G0.reps sr.wf.sub λ_ _=>rfl).gG sr.wf.kB hf) hf;have rr:cc X.K Hs (upd H a (.dT (((kvs++more).map (·.1)).zip (vs++ws)))) true (.dT (kvs++more)) (.ref a) (a :: A):=by refine .dT ⟨by rw[mG];exact fN,λp hp=>(hJ.mp hp).elim (kk.2 p) (kk2.2 p)⟩ d5 ?_;have:=(rs.append nK).hX (H':=upd H a (.dT (((kvs++more).map (·.1)).zip (vs++ws)))) (bt.refl _) λc hc=>b6 λz=>nA (by subst z;simpa using hc);simpa using this
 obtain⟨fh,n2,i2,s2⟩:=up Hs _ true _ (a :: A) (bt.refl _) rr (Sv _ _) (si.nodup sr.oz) (λc hc _=>hc) (λc _ nc=>b6 λz=>nc (z ▸ eh));have Ha:Hs a=none:=sr.own a (si.subset eh);exact k1 _ _ Hs _ fh (bt.refl _) ⟨s2,uB sr.wf Ha (λ_ z=>nomatch z),n2,λc hc=>(i2 c hc).elim (sr.own c) λm=>sr.own c (si.subset m)⟩ q
end
end L2.Q
namespace L2.Q.R
def mU':HG (some (some (.ow true (.dT kvs)))) k=k kvs:=rfl
def PN:Es i j E ρ=cy ρ[i]? (f:=λo=>HG o λkvs=>cy ρ[j]? (f:=λo=>HG o λmore=>(∀ p∈more,p.1∉kvs.map (·.1)/\Uh p.1)/\dQ (more.map (·.2))=true/\kvs.length+more.length<=bG/\E.nx (ρ.set i (some (.ow true (.dT (kvs++more)))))) ⟨⟩) ⟨⟩:=rfl
end L2.Q.R
namespace L2
def vZ{prog:cf}{w:cw}{A:ft}{E:ag->aI->Prop}{s:aI}{d:ai}{es:Tz}{ep:Nat}{Q:Bool->aI->Prop}(hd:(d == mE)=false)(x:wc s.heap d es ep)(lg':(es.size:Int)<2 ^ 63)(h:∀ t',Q (!es.isEmpty) { s with toks:=t' }):aS (aE prog w) A (truthy (.ref d)) Q E s:=by
 have iX:((es.size:Int) != 0) = !es.isEmpty:=by
  unfold Array.isEmpty
  cases e:es.size with
  |zero=>rfl
  |succ n=>simp;lia
 have mt:MeetsIn prog w (Builtin.«dict.__len__» ⟨[.ref d],[]⟩) (λ_ R s=>wc s.heap d es ep/\R (.ok (.ret (.int es.size s.toks))) { s with toks:=s.toks+1 }):=.of_wp λA R s dc=>by obtain⟨hm,h⟩:=dc;obtain⟨o,ho,hc,KP⟩:=hm;show aS _ _ (dictSize d >>= _) _ _ s;refine av (av (B1 ho KP (aT ?_)));refine av (wpAny_pendingCount_other hd ?_);refine wpAny_ret_mkInt ?_;rw[UJ];exact h
 have key:aS (aE prog w) A (runValue (.builtin "len" ⟨[.ref d],[]⟩)) (λr s'=>(∃ t,r=.int es.size t)/\Q (!es.isEmpty) s') E s:=by
  refine wpAny_runValue (B3 entry_len ?_);refine oS (Q:=λfin s'=>∃ r,fin=.done (.ret r)/\(∃ t,r=.int es.size t)/\Q (!es.isEmpty) s') ?_ (λfin s' h'=>by obtain⟨r,rfl,hq⟩:=h';exact hq) λ_ _ e=>e;refine av (aT ?_);refine av (PR x.typ F.slot_dict_len (call_meetsIn F.slot_dict_len x.typ F.entry_dict_len (F.args_dict_len_1 _) mt ⟨x,?_⟩))
  refine av (vn (aT ?_));refine av (wpAny_letGo ?_);rw[if_neg (by lia)];rw[if_neg (by lia)];exact av (wpAny_mkInt (aT ⟨_,rfl,⟨_,rfl⟩,h _⟩))
 first
  |refine av (wpAny_callSpecial?_none x.typ noBool_dict ?_)
  |refine av (aT (av (wpAny_callSpecial?_none x.typ noBool_dict ?_)))
 first
  |refine av (LP x.typ F.slot_dict_len.lookup ?_)
  |refine av (aT (av (LP x.typ F.slot_dict_len.lookup ?_)))
 first
  |exact av (oS key (λr s' h'=>by obtain⟨⟨t,rfl⟩,hq⟩:=h';exact aT (iX ▸ hq)) λ_ _ e=>e)
  |exact av (aT (av (oS key (λr s' h'=>by obtain⟨⟨t,rfl⟩,hq⟩:=h';exact aT (iX ▸ hq)) λ_ _ e=>e)))
def J4{X:Cx}:cn' X (λx H Q=>∃ a kvs,x=.ref a/\H a=some (.dT kvs)/\Q (!kvs.isEmpty) H):=by
 intro pins s σ H x v Q I rx h;obtain⟨a,kvs,rfl,e,q⟩:=h;cases rx;obtain⟨z,hd,xs,rel,o,es,ep,ho,hc,KP,he,_,_⟩:=Tg I.bP e;have l1:=Paired.length rel;have l2:=Sb he;have hs:bG=16777216:=mB;refine vZ hd ⟨o,ho,hc,KP⟩ (by lia) λt=>⟨H,I.tok _,?_⟩
 have:(!es.isEmpty) = !kvs.isEmpty:=by
  unfold Array.isEmpty
  cases kvs with
  |nil=>rw[show es.size=0 by rw[l2,<- l1];rfl];rfl
  |cons p r=>rw[show es.size=r.length+1 by rw[l2,<- l1];rfl];rfl
 rw[this];exact q
end L2
namespace L2.Q
def Fx(i:Nat):WT:=λρ Q=>HG ρ[i]? λkvs=>Q (!kvs.isEmpty)
def Hh{X:Cx}{K:aC}{e:Expr}{i:Nat}(ha:PE X e (kg i))(he:∀ whole,isTrue e X.env whole=(do let v <- whole;standAt e.pos;holding [v] (truthy v)):=by intro _;rfl)(hK:autoParam (X.K=K) bv):QT X K e (Fx i):=by
 intro pins s σ H Qv I hx;obtain⟨Hs,ρ,ah,Q,sr,h,f⟩:=hx;obtain⟨kvs,ei,h⟩:=z8 h;obtain⟨v,As,ev,ne,r,sb⟩:=sr.sr.at ei;obtain⟨a,vs,A,rfl,rfl,kk,ea,rs⟩:=r.Wr;have l1:kvs.length=vs.length:=by have:=rs.length;rwa[b4] at this
 refine isTrue_plain (cp (ha pins s σ H (λx H'=>x=.ref a/\H'=H) I ⟨_,ev,rfl,rfl⟩) λv s1 ck=>L2.e9 ck λx H1 I1 r1 q1=>?_) (he _);obtain⟨rfl,rfl⟩:=q1;refine J4 pins s1 σ H1 _ v Qv I1 r1 ⟨a,_,rfl,ea,?_⟩;refine f _ H1 Hs (fk.refl sr.wf) ?_;have:((kvs.map (·.1)).zip vs).isEmpty=kvs.isEmpty:=by
  cases kvs with
  |nil=>rfl
  |cons p r=>cases vs with
   |nil=>simp at l1
   |cons q t=>rfl
 rw[this];exact h
end L2.Q
namespace L2.Q.R
def Px{i:Nat}{ρ:L2.Q.Env}{Q:Bool->Prop}:Fx i ρ Q=cy ρ[i]? (f:=λo=>HG o λkvs=>cy (!kvs.isEmpty) (f:=Q) ⟨⟩) ⟨⟩:=rfl
end L2.Q.R
namespace L2
abbrev RI:=Key ⊕ List Key
section
variable {prog:cf}{w:cw}
inductive cF(prog:cf)(w:cw)(h:df):RI->ag->Prop
 |one {k:Key} {v:ag}:(iq prog w).is k v=true->cF prog w h (.inl k) v
 |tup {ks:List Key} {a:ai}:IsTupleKey (iq prog w) h ks a->cF prog w h (.inr ks) (.ref a)
inductive bz(prog:cf)(w:cw)(h:df):List RI->List ag->Prop
 |nil:bz prog w h [] []
 |cons {i:RI} {v:ag} {is:List RI} {vs:List ag}:cF prog w h i v->bz prog w h is vs->bz prog w h (i :: is) (v :: vs)
def cF.inj(a:cF prog w h x v)(b:cF prog w h y v):x=y:=by
 cases a with
 |one a =>
  cases b with
  |one b=>rw[(iq prog w).inj _ _ _ a b]
  |tup b=>exact absurd ((iq prog w).byValue _ _ a) (by simp[carriedByValue])
 |tup a =>
  cases b with
  |one b=>exact absurd ((iq prog w).byValue _ _ b) (by simp[carriedByValue])
  |tup b=>rw[a.inj b]
def bz.inj(a:bz prog w h x vs)(b:bz prog w h y vs):x=y:=by
 induction a generalizing y with
 |nil=>cases b;rfl
 |cons a _ ih =>
  cases b with
  |cons b t=>rw[a.inj b,ih t]
def cF.keeps{es ep}(a:cF prog w h x v)(ho:h.get? d=some o)(hd:o.data=.dict es ep)(hs:Heap.SameBut d h h'):cF prog w h' x v:=by
 cases a with
 |one a=>exact .one a
 |tup a=>exact .tup (a.keeps ho hd hs)
def bz.keeps{es ep}(a:bz prog w h x vs)(ho:h.get? d=some o)(hd:o.data=.dict es ep)(hs:Heap.SameBut d h h'):bz prog w h' x vs:=by
 induction a with
 |nil=>exact .nil
 |cons a _ ih=>exact .cons (a.keeps ho hd hs) ih
def jl (prog:cf) (w:cw) (h:df) (r:List RI) (a:ai):Prop:=∃ o items n,h.get? a=some o/\o.cls=.type "tuple"/\o.data=.seq items n/\bz prog w h r items.toList
def jl.typeIs {s:aI} {r:List RI} {a:ai} (x:jl prog w s.heap r a):s.TypeIs (.ref a) "tuple" := let ⟨o,_,_,ho,hc,_⟩:=x;⟨o,ho,hc⟩
def jl.inj(p:jl prog w h x a)(q:jl prog w h y a):x=y:=by obtain⟨o,i,n,h1,_,h2,h3⟩:=p;obtain⟨o',i',n',g1,_,g2,g3⟩:=q;rw[h1] at g1;cases g1;rw[h2] at g2;cases g2;exact h3.inj g3
def jl.keeps{es ep}(x:jl prog w h r a)(ho:h.get? d=some o)(hd:o.data=.dict es ep)(hs:Heap.SameBut d h h'):jl prog w h' r a:=by obtain⟨u,items,n,h1,h2,h3,h4⟩:=x;refine⟨u,items,n,(hs.2 a λz=>?_).trans h1,h2,h3,h4.keeps ho hd hs⟩;rw[z,ho] at h1;cases h1;rw[hd] at h3;cases h3
def yE(prog:cf)(w:cw):RI->Int
 |.inl k=>(iq prog w).hash k
 |.inr ks=>tupleKeyHash (iq prog w) ks
def qZ(prog:cf)(w:cw)(r:List RI):Int:=reduceHash (Builtin.Tuple.tupleHashOf (r.map (yE prog w)))
def lV:RI->Nat
 |.inl _=>1
 |.inr ks=>ks.length+1
def nJ(r:List RI):Nat:=(r.map lV).sum+1
variable {A:ft}{E:ag->aI->Prop}{s:aI}
def cF.hash(hu:A.units<fA)(x:cF prog w s.heap i v)(h:Q (yE prog w i) { s with toks:=s.toks+lV i }):aS (aE prog w) A (pyHash v) Q E s:=by
 cases x with
 |one x=>exact(iq prog w).pyHash x h
 |tup x=>exact wpAny_pyHash_tuple hu x h
def Cy{r:List RI}{a:ai}{Q:Int->aI->Prop}(hu:A.units+1<fA)(x:jl prog w s.heap r a)(h:Q (qZ prog w r) { s with toks:=s.toks+nJ r }):aS (aE prog w) A (pyHash (.ref a)) Q E s:=by
 have ty:=x.typeIs;obtain⟨o,items,n,ho,_,hd,hi⟩:=x;refine PySem.W.pyHash_slot ty PySem.F.slot_tuple_hash PySem.F.entry_tuple_hash (PySem.F.args_tuple_hash_1 _) (beq_builtin_none _) (.inr (by lia)) ?_;show aS _ _ (Builtin.Tuple.tupleItemsOf (.ref a) >>= _) _ _ s;refine av (wpAny_tupleItemsOf ho hd (av ?_));rw[<- Zv];refine wpAny_forIn_list _ (λrest b s'=>∃ done left,r=done++left/\bz prog w s.heap left rest/\b.toList=done.map (yE prog w)/\s'={ s with toks:=s.toks+(done.map lV).sum }) _ ?_ ?_ _ _ ⟨[],r,rfl,hi,rfl,rfl⟩
 ·rintro v rest b s' ⟨done,left,rfl,hl,hb,rfl⟩
  cases hl with
  |@cons i _ fa' _ x1 hl' =>
   refine av (cF.hash (by exact hu) x1 ?_);have fin:∃ d l,done++i :: fa'=d++l/\bz prog w s.heap l rest/\(b.push (yE prog w i)).toList=d.map (yE prog w)/\({ s with toks:=s.toks+(done.map lV).sum+lV i }:aI)={ s with toks:=s.toks+(d.map lV).sum } :=
    ⟨done++[i],fa',by simp,hl',by simp[hb],by simp[Nat.add_assoc]⟩
   first
    |exact aT fin
    |exact av (aT (aT fin))
 ·rintro b s' ⟨done,left,e,hl,hb,rfl⟩;cases hl;rw[tJ] at e;subst e;show aS _ _ (retInt (Builtin.Tuple.tupleHashOf b.toList)) _ _ _;rw[hb];exact av (wpAny_mkInt (aT ⟨_,_,rfl,by
   have h':=h;unfold qZ nJ at h';exact h'⟩))
def qH (ho:s.heap.get? a=some o) (hc:o.cls=.type "tuple") (hd:o.data=.seq items n)(hv:∀ v∈items.toList,∀ Q:Bool->aI->Prop,Q true s->aS (aE prog w) A (eqIsQuiet m v) Q E s) (h:Q true s):aS (aE prog w) A (eqIsQuiet (m+1) (.ref a)) Q E s:=by
 have ty:s.TypeIs (.ref a) "tuple" := ⟨o,ho,hc⟩
 unfold eqIsQuiet;refine av (LP ty PySem.F.slot_tuple_eq.lookup ?_);refine av (R8 ty isSubtype_tuple_tuple ?_);refine av (wpAny_seqItems ho hd (av ?_));rw[<- Zv];refine wpAny_forIn_list _ (λrest r s'=>r.1=none/\s'=s/\∀ v∈rest,v∈items.toList) _ ?_ ?_ _ _ ⟨rfl,rfl,λ_ z=>z⟩
 ·rintro v rest r s' ⟨_,rfl,all⟩;exact av (hv v (all v eh) _ (aT ⟨rfl,rfl,λu z=>all u (eI _ z)⟩))
 ·rintro⟨r1,r2⟩ s' ⟨z,rfl,_⟩;subst z;exact aT h
def bz.mem(x:bz prog w h r vs):∀ v∈vs,∃ i,cF prog w h i v:=by
 induction x with
 |nil=>intro v z;cases z
 |cons a _ ih =>
  intro v z;rcases eu.mp z with rfl|z
  ·exact⟨_,a⟩
  ·exact ih v z
def cF.quiet(x:cF prog w s.heap i v)(h:Q true s):aS (aE prog w) A (eqIsQuiet (m+1) v) Q E s:=by
 cases x with
 |one x =>rw[eqIsQuiet_byValue _ ((iq prog w).byValue _ _ x)];exact aT h
 |tup x =>obtain⟨o,items,n,ho,hc,hd,hi⟩:=x;refine qH ho hc hd (λv hv Q q=>?_) h;rw[eqIsQuiet_byValue _ (hi.byValue v hv)];exact aT q
def wX(x:jl prog w s.heap r a)(h:Q true s):aS (aE prog w) A (eqIsQuiet 8 (.ref a)) Q E s:=by obtain⟨o,items,n,ho,hc,hd,hi⟩:=x;refine qH ho hc hd (λv hv Q q=>?_) h;obtain⟨i,y⟩:=hi.mem v hv;exact y.quiet q
end
end L2
namespace L2.Q
def EX:RI->D
 |.inl k=>iO k
 |.inr ks=>.tup (ks.map iO)
def oC(r:List RI):D:=.tup (r.map EX)
theorem u9:∀ {x y},iO x=iO y->x=y
 |.inl _,.inl _,h=>by cases h;rfl
 |.inr _,.inr _,h=>by cases h;rfl
 |.inl _,.inr _,h=>nomatch h
 |.inr _,.inl _,h=>nomatch h
theorem map_inj{α β:Type}{f:α->β}(hf:∀ x y,f x=f y->x=y):∀ {l m:List α},l.map f=m.map f->l=m
 |[],[],_=>rfl
 |x :: l,y :: m,h=>by injection h with h1 h2;rw[hf x y h1,map_inj hf h2]
theorem Hn:∀ {x y:RI},EX x=EX y->x=y
 |.inl _,.inl _,h=>by rw[u9 h]
 |.inr _,.inr _,h=>by injection h with h;rw[map_inj (λ_ _=>u9) h]
 |.inl (.inl _),.inr _,h=>nomatch h
 |.inl (.inr _),.inr _,h=>nomatch h
 |.inr _,.inl (.inl _),h=>nomatch h
 |.inr _,.inl (.inr _),h=>nomatch h
def Bx(h:oC x=oC y):x=y:=by injection h with h;exact map_inj (λ_ _=>Hn) h
theorem nT:∀ ks:List Key,AK (ks.map iO)=true
 |[]=>rfl
 |.inl _ :: ks=>by simp[AK,D.nb,iO,nT ks]
 |.inr _ :: ks=>by simp[AK,D.nb,iO,nT ks]
theorem jW:∀ r:List RI,AK (r.map EX)=true
 |[]=>rfl
 |.inl (.inl _) :: r=>by simp[AK,D.nb,EX,iO,jW r]
 |.inl (.inr _) :: r=>by simp[AK,D.nb,EX,iO,jW r]
 |.inr ks :: r=>by simp[AK,D.nb,EX,nT ks,jW r]
def Ej(x y:List RI):yb (oC x) (oC y)=decide (x=y):=by rw[z5,decide_eq_true_iff,xY (oC x) (oC y) (jW x) (jW y)];exact⟨Bx,λz=>by rw[z]⟩
section
variable {prog:cf}{w:cw}{h:df}
def p_(x:(iq prog w).is k v=true):Reads h v (iO k).py []:=by
 rcases Ap x with⟨i,t,rfl,rfl⟩|⟨y,t,rfl,rfl⟩
 ·exact .int i t
 ·exact .str y t
def v7(x:ItemsAre (iq prog w) ks vs):ReadsAll h vs (ya (ks.map iO)) []:=by
 induction x with
 |nil=>exact .nil
 |cons a _ ih=>exact .cons (p_ a) ih
def wL(x:cF prog w h i v):Reads h v (EX i).py []:=by
 cases x with
 |one x=>exact p_ x
 |tup x =>obtain⟨o,items,n,ho,hc,hd,hi⟩:=x;exact .tuple ho hc hd (v7 hi)
def sV(x:bz prog w h r vs):ReadsAll h vs (ya (r.map EX)) []:=by
 induction x with
 |nil=>exact .nil
 |cons a _ ih=>exact .cons (wL a) ih
def row_reads(x:jl prog w h r a):Reads h (.ref a) (oC r).py []:=by obtain⟨o,items,n,ho,hc,hd,hi⟩:=x;exact .tuple ho hc hd (sV hi)
end
def oM(prog:cf)(w:cw):HeapKind prog w (List RI) where
 is:=λh r a=>jl prog w h r a/\gu 12 (oC r)=true
 hash:=qZ prog w
 draws:=nJ
 room:=λA=>A.units+13<fA
 inj:=λx y=>x.1.inj y.1
 keeps:=λx ho hd hs=>⟨x.1.keeps ho hd hs,x.2⟩
 pyHash:=λhu x h=>Cy (by lia) x.1 h
 eqBool:=λ{A E s x y a b Q} hu hx hy h=>by have l1:=m_ 12 _ hx.2;have l2:=m_ 12 _ hy.2;have e:=PySem.SeqAt.eqAt_reads (oC x).py (oC y).py A s _ _ _ _ (row_reads hx.1) (row_reads hy.1) l1.1 l2.1 (by lia);have q:PyData.eqv (oC x).py (oC y).py=decide (x=y):=Ej x y;rw[q] at e;exact e prog w E Q h
 quiet:=λx h=>wX x.1 h
def HK(P:cf)(w:cw)(a:ai)(xs:List (List RI × ai × ag)):HO:=.ext λh=>∃ o es ep,h.get? a=some o/\o.ExactDict/\o.data=.dict es ep/\es.toList=xs.map (E6 (oM P w))/\(xs.map (·.1)).Nodup
def Cr(H:Hp):RI->V->Prop
 |.inl k,y=>y=kV k
 |.inr ks,y=>∃ c,y=.ref c/\H c=some (.tup (ks.map kV))
def jI(H:Hp)(r:List RI)(b:ai):Prop:=gu 12 (oC r)=true/\∃ ys,H b=some (.tup ys)/\Paired (Cr H) r ys
section
variable {P:cf}{w:cw}{H:Hp}{h:df}
theorem um(ok:kf P w H h):∀ {r} {ys} {vs},Paired (Cr H) r ys->Vals ys vs->bz P w h r vs
 |_,_,_,.nil,.nil=>.nil
 |_,_,_,.cons (a:=i) p ps,.cons q qs=>.cons (match i,p with
  |.inl k,p=>.one (JY (by rw[<- show _=kV k from p];exact q))
  |.inr ks,p=>by
   obtain⟨c,rfl,e⟩:=p;cases (q);exact .tup (Ki ok e)) (um ok ps qs)
def tM(ok:kf P w H h)(x:jI H r b):(oM P w).is h r b:=by
 obtain⟨o1,ys,e,p⟩:=x;obtain⟨_,its,q,o,h1,h2,n,h3⟩:=(ok b _ e)
 exact⟨⟨o,its.toArray,n,h1,h2,h3,by simpa using um ok p q⟩,o1⟩
def NH(ok:kf P w H h)(e:H p=some (HK P w p xs))(ks:∀ x∈xs,jI H x.1 x.2.1):h.DictOfH (oM P w) p xs:=by
 obtain⟨⟨o,es,ep,h1,h2,h3,h4,h5⟩,_,_⟩:=(ok p _ e)
 exact⟨o,es,ep,h1,h2,h3,h4,λx hx=>tM ok (ks x hx),h5⟩
def jI.Ui(x:jI H r b)(e:H p=some o)(no:∀ ys,o≠.tup ys):jI (upd H p ob) r b:=by
 have go:∀ {c} {ys},H c=some (.tup ys)->upd H p ob c=some (.tup ys):=λ{c ys} z=>by rw[b6 (λq=>by rw[q,e] at z;cases z;exact no ys rfl)];exact z
 obtain⟨o1,ys,e1,q⟩:=x;refine⟨o1,ys,go e1,?_⟩;clear e1 o1
 induction q with
 |nil=>exact .nil
 |@cons i y is ys hi _ ih =>
  refine .cons ?_ ih
  match i,hi with
  |.inl k,hi=>exact hi
  |.inr ks,hi =>obtain⟨c,rfl,z⟩:=hi;exact⟨c,rfl,go z⟩
end
section
variable {X:Cx}{pins:List (ai × Obj)}{σ:St}{H:Hp}{s:aI}{p b:ai}{xs:List (List RI × ai × ag)}{r:List RI}{A:ft}{E:ag->aI->Prop}
def kZ{P:cf}(hu:A.units+14<fA):(oM P w).room A.in1:=by show A.units+1+13<fA;lia
def Ij(hu:A.units+14<fA)(I:Inv X pins σ H s)(e:H p=some (HK X.prog X.w p xs))(hp:(p == mE)=false)(ks:∀ x∈xs,jI H x.1 x.2.1)(rb:jI H r b)(h:∀ s',Inv X pins σ H s'->Q (.bool (!(atKey xs r).isSome)) s'):aS (aE X.prog X.w) A (gI .NotIn (.ref b) (.ref p)) Q E s :=
 wpAny_notIn_heap (kZ hu) (tM I.bP rb) hp (NH I.bP e ks) (h _ (I.tok _))
def zB(hu:A.units+14<fA)(I:Inv X pins σ H s)(e:H p=some (HK X.prog X.w p xs))(ks:∀ x∈xs,jI H x.1 x.2.1)(rb:jI H r b)(hq:atKey xs r=some q)(h:∀ s',Inv X pins σ H s'->Q q.2 s'):aS (aE X.prog X.w) A (getItem (.ref p) (.ref b)) Q E s :=
 wpAny_getItem_heap (kZ hu) (tM I.bP rb) (NH I.bP e ks) hq (h _ (I.tok _))
def zq(hu:A.units+14<fA)(I:Inv X pins σ H s)(e:H p=some (HK X.prog X.w p xs))(ks:∀ x∈xs,jI H x.1 x.2.1)(rb:jI H r b)(hz:xs.length<=bG)(h:∀ s',Inv X pins σ (upd H p (HK X.prog X.w p (storedH xs r b v))) s'->Q () s'):aS (aE X.prog X.w) A (setItem (.ref p) (.ref b) v) Q E s:=by
 refine wpAny_setItem_heap (kZ hu) (tM I.bP rb) (NH I.bP e ks) λh' AG hs=>h _ ?_;obtain⟨q,es,ep,hq,h2,h3,h4,_,h5⟩:=AG;exact Rp I (by rw[e];exact True.intro) hs ⟨q,hq⟩ ⟨⟨q,es,ep,hq,h2,h3,h4,h5⟩,⟨q,hq⟩,λh1 h2 ⟨o,es,ep,a,z⟩ k=>⟨o,es,ep,k o a,z⟩⟩
end
def RD(P:cf)(w:cw)(H:Hp)(p:ai)(kvs:List (List RI × V)):Prop:=∃ xs:List (List RI × ai × ag),(p == mE)=false/\H p=some (HK P w p xs)/\xs.length<=bG /\
 Paired (λ(q:List RI × V) (x:List RI × ai × ag)=>q.1=x.1/\jI H x.1 x.2.1/\RelV q.2 x.2.2) kvs xs
section
variable {H:Hp}
def zy(x:Paired (λ(q:List RI × V) (x:List RI × ai × ag)=>q.1=x.1/\jI H x.1 x.2.1/\RelV q.2 x.2.2) kvs xs)(k:List RI):pE (fS kvs k) ((atKey xs k).map (·.2)):=by
 induction x with
 |nil=>exact True.intro
 |@cons p q ps qs h t ih =>
  unfold fS atKey at *
  rw[D4,D4,h.1];by_cases e:q.1=k
  ·rw[decide_eq_true e];exact h.2.2
  ·rw[decide_eq_false e];exact ih
def n8(x:Paired (λ(q:List RI × V) (x:List RI × ai × ag)=>q.1=x.1/\jI H x.1 x.2.1/\RelV q.2 x.2.2) kvs xs):∀ q∈xs,jI H q.1 q.2.1:=by
 induction x with
 |nil=>intro q hq;cases hq
 |cons h _ ih =>
  intro q hq;rcases eu.mp hq with rfl|hq
  ·exact h.2.1
  ·exact ih q hq
end
def Cj(P:cf)(w:cw)(td ty:TE):TE:=λσ H Q=>td σ H λx H1=>ty σ H1 λy H2=>∃ a b kvs r v,x=.ref a/\y=.ref b/\RD P w H2 a kvs/\jI H2 r b/\fS kvs r=some v/\Q v H2
def yM(P:cf)(w:cw)(ty td:TE):TE:=λσ H Q=>ty σ H λy H1=>td σ H1 λx H2=>∃ a b kvs r,x=.ref a/\y=.ref b/\RD P w H2 a kvs/\jI H2 r b/\Q (.bl (!(fS kvs r).isSome)) H2
section
variable {X:Cx}{o i e value:Expr}{pos pos':Pos}{td ty tv:TE}
def ym (I:Inv X pins σ H s) (x:RD X.prog X.w H a kvs):s.TypeIs (.ref a) "dict" := by obtain⟨xs,_,e,_,p⟩:=x;exact(NH I.bP e (n8 p)).typeIs
def Em(hu:X.A.units+14<fA)(ho:PE X o td)(hi:PE X i ty)(hs:Z0 i):PE X (.Subscript o i pos) (Cj X.prog X.w td ty):=by intro pins s σ H Q I h;refine jm' PySem.F.slot_dict_getitem.lookup hs (cp (ho pins s σ H _ I h) λu s1 ck=>L2.e9 ck λx H1 I1 rx q1=>cp (hi pins s1 σ H1 _ I1 q1) λiv s2 dc=>?_);obtain⟨y,H2,I2,ry,a,b,kvs,r,v,ex,ey,d,hr,l,q2⟩:=dc;subst ex ey;obtain rfl:u=Value.ref a:=rx;obtain rfl:iv=Value.ref b:=ry;have ty:=ym I2 d;obtain⟨xs,_,e,_,p⟩:=d;obtain⟨w',hw,nK⟩:=pE.some_of (by rw[<- l];exact zy p r);obtain⟨q,hq,hq2⟩:=MQ.mp hw;exact⟨ty,zB hu I2 e (n8 p) hr hq λs3 I3=>⟨v,H2,I3,by rw[hq2];exact nK,q2⟩⟩
def zR(hu:X.A.units+14<fA)(hi:PE X i ty)(ho:PE X o td):PC X .NotIn i o (yM X.prog X.w ty td):=by intro pins s σ H Q I h;refine cp (hi pins s σ H _ I h) λiv s1 ck=>L2.e9 ck λy H1 I1 ry q1=>cp (ho pins s1 σ H1 _ I1 q1) λu s2 dc=>?_;obtain⟨x,H2,I2,rx,a,b,kvs,r,ex,ey,d,hr,q2⟩:=dc;subst ex ey;obtain rfl:u=Value.ref a:=rx;obtain rfl:iv=Value.ref b:=ry;obtain⟨xs,hp,e,_,p⟩:=d;have q:=(zy p r).NF;rw[SF] at q;exact Ij hu I2 e hp (n8 p) hr λs3 I3=>⟨_,H2,I3,by rw[<- q];rfl,q2⟩
def Jf(P:cf)(w:cw)(td ty tv:TE):TS:=λD σ H=>tv σ H λv H1=>td σ H1 λx H2=>ty σ H2 λy H3=>∃ a b kvs r,x=.ref a/\y=.ref b/\RD P w H3 a kvs/\jI H3 r b/\fS kvs r=none/\kvs.length<bG /\
 ∀ H4,RD P w H4 a (kvs++[(r,v)])->(∀ c,c≠a->H4 c=H3 c)->(∃ φ,H4 a=some (.ext φ))->D.nx σ H4
def K7{H:Hp}{a:ai}{o:HO}{φ:df->Prop}(e:H a=some (.ext φ)){kvs:List (List RI × V)}{xs:List (List RI × ai × ag)}(x:Paired (λ(q:List RI × V) (x:List RI × ai × ag)=>q.1=x.1/\jI H x.1 x.2.1/\RelV q.2 x.2.2) kvs xs){r:List RI}{b:ai}{v:V}{u:ag}(hb:jI H r b)(hv:RelV v u) :
  Paired (λ(q:List RI × V) (x:List RI × ai × ag)=>q.1=x.1/\jI (upd H a o) x.1 x.2.1/\RelV q.2 x.2.2) (kvs++[(r,v)]) (xs++[(r,b,u)]):=by
 induction x with
 |nil=>exact .cons ⟨rfl,hb.Ui e (λ_ z=>nomatch z),hv⟩ .nil
 |cons h _ ih=>exact .cons ⟨h.1,h.2.1.Ui e (λ_ z=>nomatch z),h.2.2⟩ ih
def Ir(hu:X.A.units+14<fA)(ho:PE X o td)(hi:PE X i ty)(hv:PE X value tv)(hs:nS value (some (.Subscript o i pos')) pos.line X.env=pure false) :
  PS X (.Assign [.Subscript o i pos'] value pos) (Jf X.prog X.w td ty tv):=by
 intro pins s σ H D I h;refine wpAny_Assign_Subscript (cp (hv pins s σ H _ I h) λu0 s1 ck=>L2.e9 ck λv H1 I1 rv q1=>cp (ho pins s1 σ H1 _ I1 q1) λu s2 ck=>L2.e9 ck λx H2 I2 rx q2=>cp (hi pins s2 σ H2 _ I2 q2) λiv s3 dc=>?_) hs;obtain⟨y,H3,I3,ry,a,b,kvs,r,ex,ey,d,hr,l,lz,q3⟩:=dc;subst ex ey;obtain rfl:u=Value.ref a:=rx;obtain rfl:iv=Value.ref b:=ry;obtain⟨xs,hp,e,z,p⟩:=d;have n:atKey xs r=none:=by
  have q:=(zy p r).NF;rw[l,SF] at q
  cases z:atKey xs r with
  |none=>rfl
  |some _=>rw[z] at q;cases q
 have xl:xs.length=kvs.length:=(Paired.length p).symm;refine zq hu I3 e (n8 p) hr z λs4 I4=>⟨σ,_,I4,?_⟩
 rw[storedH_new n];exact q3 _ ⟨_,hp,d5,by rw[mG,W9];lia,K7 e p hr rv⟩ (λc hc=>b6 hc) ⟨_,d5⟩
def Jw(P:cf)(w:cw):TE:=λ_ H Q=>∀ p,H p=none->RD P w (upd H p (HK P w p [])) p []->Q (.ref p) (upd H p (HK P w p []))
def Ey:PE X (.Dict [] [] pos) (Jw X.prog X.w):=λpins s σ H Q I h =>
 wpAny_Dict_empty ⟨.ref s.heap.objs.size,_,I.laid (o:=HK X.prog X.w s.heap.objs.size []) (λ_ _ q=>eL _ q) (cK _) ⟨⟨_,#[],0,ip _ rfl,⟨rfl,rfl,rfl⟩,rfl,rfl,mI⟩,⟨_,ip _ rfl⟩,λh1 h2 ⟨o,es,ep,a,z⟩ k=>⟨o,es,ep,k o a,z⟩⟩,rfl,
  h _ (I.bP.fresh (cK _)) ⟨[],beq_eq_false_iff_ne.mpr (Ne.symm (fz I.big)),d5,f7 _,.nil⟩⟩
end
def HL(rs:List (List RI)):List (List RI × V):=rs.zipIdx.map λq=>(q.1,V.int q.2)
structure cj(K:aC)(P:cf)(w:cw)(H:Hp)(x dx rp pp:ai)(rs:List (List RI)):Prop where
 ins:∃ C,H x=some (.ins C dx [("rows",.ref rp),("places",.ref pp)])/\vS K C/\vT K C "rows"/\vT K C "places"
 own:H dx=some (.own x)
 rows:∃ bs:List ai,H rp=some (.lst (bs.map .ref))/\Paired (jI H) rs bs
 places:RD P w H pp (HL rs)
 nd:rs.Nodup
def Be(rs:List (List RI))(r:List RI):HL (rs++[r])=HL rs++[(r,V.int rs.length)]:=by unfold HL;rw[List.zipIdx_append,kS];simp
def uq(h:r∉rs):fS (HL rs) r=none:=by unfold fS HL;rw[Option.map_eq_none_iff,List.find?_eq_none];intro q hq;obtain⟨⟨y,k⟩,hm,rfl⟩:=c9.mp hq;have:=P4.mp hm;simp only[decide_eq_true_eq];rintro rfl;exact h (nh this)
def tR{rs:List (List RI)}{r:List RI}(nd:rs.Nodup){k:Nat}(h:rs[k]? = some r):fS (HL rs) r=some (.int k):=by
 unfold fS HL;rw[MQ];have:∃ q,(rs.zipIdx.map λq=>(q.1,V.int q.2)).find? (λkv=>decide (kv.1=r))=some q:=by rw[<- Qr,List.find?_isSome];exact⟨(r,.int k),c9.mpr ⟨(r,k),P4.mpr h,rfl⟩,by simp⟩
 obtain⟨q,hq⟩:=this;refine⟨q,hq,?_⟩;obtain⟨⟨y,j⟩,hm,rfl⟩:=c9.mp (Uz hq);have e:y=r:=by have:=UG hq;simpa using this
 subst e;have hj:=P4.mp hm;obtain⟨j1,j2⟩:=h9.mp hj;obtain⟨k1,k2⟩:=h9.mp h;have:j=k:=(Ss nd).mp (j2.trans k2.symm);rw[this]
def Jy(K:aC)(ta:TE):TE:=Vc (λxs H Q=>∃ x n,xs=[x]/\cx' K x H n/\Q (.int n) H) (S8 ta Nn)
def bm'(K:aC)(P:cf)(w:cw):TS :=
 S0 (ch' (tB (yM P w (kg 1) (FG K (kg 0) "places"))) (S0 (Jf P w (FG K (kg 0) "places") (kg 1) (Jy K (FG K (kg 0) "rows"))) (cg' (tBM K "list" ZZ (FG K (kg 0) "rows") (S8 (kg 1) Nn))))
  ce')
 (U5 (Cj P w (FG K (kg 0) "places") (kg 1)))
def cj.fld{K:aC}{P:cf}(S:cj K P w H x dx rp pp rs)(e:σ[0]? = some (some (.ref x))) : (Q (.ref rp) H->FG K (kg 0) "rows" σ H Q)/\(Q (.ref pp) H->FG K (kg 0) "places" σ H Q):=by
 obtain⟨C,i,c,n1,n2⟩:=S.ins;exact⟨λq=>⟨_,e,x,C,dx,_,_,rfl,i,c,n1,rfl,q⟩,λq=>⟨_,e,x,C,dx,_,_,rfl,i,c,n2,by
  have z:(("places" : Str) == "rows")=false:=by decide +kernel
  simp[List.lookup,z],q⟩⟩
def Ia{K:aC}{P:cf}{D:Ends}(S:cj K P w H x dx rp pp rs)(hr:jI H r b)(hz:rs.length<bG)(h:∀ H' fI k,cj K P w H' x dx rp pp fI->(r∈rs/\fI=rs\/r∉rs/\fI=rs++[r])->fI[k]? = some r->(∀ c,c≠rp->c≠pp->H' c=H c)->D.rt (.int (k:Nat)) H') :
  bm' K P w D [some (.ref x),some (.ref b)] H:=by
 -- the end: self.places[row]
 have fin:∀ H' fI k,cj K P w H' x dx rp pp fI->(r∈rs/\fI=rs\/r∉rs/\fI=rs++[r])->fI[k]? = some r->(∀ c,c≠rp->c≠pp->H' c=H c)->jI H' r b->U5 (Cj P w (FG K (kg 0) "places") (kg 1)) D [some (.ref x),some (.ref b)] H':=λH' fI k S' e1 e2 e3 Ws =>
by
  unfold U5 Cj;exact(S'.fld rfl).2 ⟨_,rfl,pp,b,_,r,_,rfl,rfl,S'.places,Ws,tR S'.nd e2,h H' fI k S' e1 e2 e3⟩
 refine⟨_,rfl,(S.fld rfl).2 ⟨pp,b,_,r,rfl,rfl,S.places,hr,_,rfl,?_⟩⟩;by_cases m:r∈rs
 ·obtain⟨k,hk⟩:=z0.mp m;rw[tR S.nd hk];exact fin H rs k S (.inl ⟨m,rfl⟩) hk (λ_ _ _=>rfl) hr
 ·rw[uq m];obtain⟨bs,e,pr⟩:=S.rows;have bl:bs.length=rs.length:=(Paired.length pr).symm;refine(S.fld rfl).1 ⟨.ref rp,rs.length,rfl,.inl ⟨_,.inl (.inl e),by rw[b4,bl]⟩,(S.fld rfl).2 ⟨_,rfl,pp,b,_,r,rfl,rfl,S.places,hr,uq m,?_,λH4 d4 k4 x4=>?_⟩⟩
  ·unfold HL;rw[b4,List.length_zipIdx];exact hz
  obtain⟨C,hi,c,n1,n2⟩:=S.ins;obtain⟨xs0,_,ep,_,_⟩:=S.places;have ne1:rp≠pp:=λz=>by rw[z,ep] at e;cases e
  have ne2:x≠pp:=λz=>by rw[z,ep] at hi;cases hi
  have ne3:x≠rp:=λz=>by rw[z,e] at hi;cases hi
  have ne4:dx≠pp:=λz=>by have:=S.own;rw[z,ep] at this;cases this
  have ne5:dx≠rp:=λz=>by have:=S.own;rw[z,e] at this;cases this
  have e4:H4 rp=some (.lst (bs.map .ref)):=by rw[k4 rp ne1];exact e
  have i9:H4 x=some (.ins C dx [("rows",.ref rp),("places",.ref pp)]):=by rw[k4 x ne2];exact hi
  have up:∀ {q} {d},jI H q d->jI (upd H4 rp (.lst (bs.map .ref++[.ref b]))) q d:=λ{q d} z=>by
   obtain⟨φ,x4⟩:=x4;have z4:jI H4 q d:=by
    have:H4=upd H pp (.ext φ):=funext λc=>by
     by_cases hc:c=pp
     ·rw[hc,x4,d5]
     ·rw[k4 c hc,b6 hc]
    rw[this];exact z.Ui ep (λ_ z=>nomatch z)
   exact z4.Ui e4 (λ_ z=>nomatch z)
  refine⟨_,rfl,x,C,dx,_,_,rfl,i9,c,n1,rfl,?_,_,rfl,rp,bs.map .ref,.ref b,rfl,rfl,e4,by rw[b4,bl];exact hz,?_⟩
  ·exact .inl ⟨rfl,_,.inl (.inl e4)⟩
  refine fin _ (rs++[r]) rs.length ⟨⟨C,by rw[b6 ne3];exact i9,c,n1,n2⟩,by rw[b6 ne5,k4 dx ne4];exact S.own,⟨bs++[b],by rw[d5,kS];rfl,?_⟩,?_,?_⟩ (.inr ⟨m,rfl⟩) (by simp) (λc h1 h2=>by rw[b6 h1,k4 c h2]) (up hr)
  ·have go:∀ {l} {ds},Paired (jI H) l ds->Paired (jI (upd H4 rp (.lst (bs.map .ref++[.ref b])))) (l++[r]) (ds++[b]):=by
    intro l ds z
    induction z with
    |nil=>exact .cons (up hr) .nil
    |cons y _ ih=>exact .cons (up y) ih
   exact go pr
  ·rw[Be];obtain⟨xs,a1,a2,a3,a4⟩:=d4;refine⟨xs,a1,by rw[b6 (Ne.symm ne1)];exact a2,a3,Paired.imp' (λq y z=>⟨z.1,z.2.1.Ui e4 (λ_ z=>nomatch z),z.2.2⟩) a4⟩
  ·rw[pj];exact⟨S.nd,by simp,λy hy z hz q=>by rw[ic.mp hz] at q;exact m (q ▸ hy)⟩
section
variable {X:Cx}{e:Expr}{te:TE}{p pos:Pos}
def Fi (hg:Gl X "len") (hm:X.mg "len" = none) (he:PE X e te) (hs:autoParam (aQ X e []) bv) (mN:autoParam (bR X pos []) bv):PE X (.Call (.Name "len" p) [e] [] pos) (Jy X.K te) :=
 Vd Va hg hm bL (nI he t5 hs) (by decide) (by decide) hs mN
def Hg (hu:X.A.units+14<fA) (hg:Gl X "len") (hm:X.mg "len" = none)(n0:∀ p,PE X (.Name "self" p) (kg 0)) (n1:∀ p,PE X (.Name "row" p) (kg 1))(b0:∀ p f,DV (.Name "self" p) f X.env (dE (.Name "self" p) X.env)=dE (.Name "self" p) X.env)(c1:autoParam (Ic .NotIn (.Attribute (.Name "self" p2) "places" p3)=false) bv) (sl:∀ p,Z0 (.Name "row" p)) (s1:autoParam (nS (.Call (.Name "len" q1) [.Attribute (.Name "self" q2) "rows" q3] [] q4) (some (.Subscript (.Attribute (.Name "self" p5) "places" p6) (.Name "row" p7) p8)) p9.line X.env=pure false) bv) (t1:autoParam (g7 [.Attribute (.Name "self" q2) "rows" q3] X.env=(false,dE (.Attribute (.Name "self" q2) "rows" q3) X.env) :: g7 [] X.env) bv) (t2:autoParam (bR X q4 []) bv) (s2:autoParam (nS (.Call (.Attribute (.Attribute (.Name "self" q5) "rows" q6) "append" q7) [.Name "row" q8] [] q9) none r1.line X.env=pure false) bv) (FL:autoParam (DV (.Attribute (.Name "self" q5) "rows" q6) "append" X.env (dE (.Attribute (.Name "self" q5) "rows" q6) X.env)=dE (.Attribute (.Name "self" q5) "rows" q6) X.env) bv) (FP:autoParam (((backTo q9 (g7 [.Name "row" q8] X.env)).all (λx=>!x.1) && (backToKw q9 (E5 [] X.env)).all (λx=>x.1.isSome)
   && decide ([Expr.Name "row" q8].length+([]:List AX).length+(if ([]:List AX).isEmpty then 0 else 1)<30))=true) bv)
  (hline:autoParam ((q7.endLine == q9.line)=true) bv) (DF:autoParam (g7 [.Name "row" q8] X.env=(false,dE (.Name "row" q8) X.env) :: g7 [] X.env) bv) (FR:autoParam (bR X q9 []) bv) :
  mh X [.If (.Compare (.Name "row" p1) [.NotIn] [.Attribute (.Name "self" p2) "places" p3] p4) [.Assign [.Subscript (.Attribute (.Name "self" p5) "places" p6) (.Name "row" p7) p8] (.Call (.Name "len" q1) [.Attribute (.Name "self" q2) "rows" q3] [] q4) p9,
     .Expr (.Call (.Attribute (.Attribute (.Name "self" q5) "rows" q6) "append" q7) [.Name "row" q8] [] q9) r1] [] r2,
   .Return (some (.Subscript (.Attribute (.Name "self" r3) "places" r4) (.Name "row" r5) r6)) r2] (bm' X.K X.prog X.w) :=
 U0 (ci' (gd' (zR hu (n1 _) (Rm (n0 _) (b0 _ _))) c1) (U0 (Ir hu (Rm (n0 _) (b0 _ _)) (n1 _) (Fi hg hm (Rm (n0 _) (b0 _ _)) t1 t2) s1) (U4 (S4 (Vk PySem.F.plainAttrs_list PySem.F.slot_list_append PySem.F.type_list_append Vl (Rm (n0 _) (b0 _ _)) (nI (n1 _) t5 DF) FL FP hline DF FR) s2)))
   cf')
  (U4 (S5 (Em hu (Rm (n0 _) (b0 _ _)) (n1 _) (sl _))))
end
def yJ (K:aC) (P:cf) (w:cw):TS:=S0 (ZQ K (kg 0) (cC' Nn) "rows") (ZQ K (kg 0) (Jw P w) "places")
def Cw {K:aC} {P:cf} {D:Ends} (hi:H x=some (.ins C dx [])) (ho:H dx=some (.own x)) (c:vS K C) (n1:vT K C "rows") (n2:vT K C "places")(h:∀ H' rp pp,cj K P w H' x dx rp pp []->H' x=some (.ins C dx [("rows",.ref rp),("places",.ref pp)])->H rp=none->H pp=none->(∀ a,a≠x->a≠rp->a≠pp->H' a=H a)->D.nx [some (.ref x)] H'):yJ K P w D [some (.ref x)] H:=by
 refine⟨f7 _,λrp hr=>⟨_,rfl,x,C,dx,[],rfl,?_,c,n1,by decide,?_⟩⟩
 ·rw[b6 (λz=>by rw[z,hr] at hi;cases hi)];exact hi
 have x1:x≠rp:=λz=>by rw[z,hr] at hi;cases hi
 have d1:dx≠rp:=λz=>by rw[z,hr] at ho;cases ho
 have dx1:dx≠x:=λz=>by rw[z,hi] at ho;cases ho
 intro pp hp rd;have p1:pp≠x:=λz=>by rw[z,d5] at hp;cases hp
 rw[b6 p1] at hp;have p2:pp≠rp:=λz=>by rw[z,d5] at hp;cases hp
 rw[b6 p2] at hp;have d2:dx≠pp:=λz=>by rw[z,hp] at ho;cases ho
 refine⟨_,rfl,x,C,dx,[("rows",.ref rp)],rfl,by rw[b6 (Ne.symm p1),d5];rfl,c,n2,(by show 1<1000;decide),?_⟩;have z:jv "places" (.ref pp) [("rows",.ref rp)]=[(("rows" : Str),V.ref rp),("places",.ref pp)]:=by rfl
 refine h _ rp pp ⟨⟨C,d5,c,n1,n2⟩,by rw[b6 dx1,b6 d2,b6 dx1,b6 d1];exact ho,⟨[],?_,.nil⟩,?_,mI⟩ d5 hr hp λa h1 h2 h3=>by rw[b6 h1,b6 h3,b6 h1,b6 h2]
 ·rw[b6 (Ne.symm x1),b6 (Ne.symm p2),b6 (Ne.symm x1),d5];rfl
 ·obtain⟨xs,a1,a2,a3,a4⟩:=rd;refine⟨xs,a1,by rw[b6 p1];exact a2,a3,?_⟩;cases a4;exact .nil
section
variable {X:Cx}
def Br (n0:∀ p,PE X (.Name "self" p) (kg 0))(s1:autoParam (nS (.List [] p3) (some (.Attribute (.Name "self" p1) "rows" p2)) p4.line X.env=pure false) bv) (s2:autoParam (nS (.Dict [] [] q3) (some (.Attribute (.Name "self" q1) "places" q2)) q4.line X.env=pure false) bv) :
  mh X [.Assign [.Attribute (.Name "self" p1) "rows" p2] (.List [] p3) p4,.Assign [.Attribute (.Name "self" q1) "places" q2] (.Dict [] [] q3) q4] (yJ X.K X.prog X.w) :=
 U0 (cA' (n0 _) (cE' t5) s1) (U4 (cA' (n0 _) Ey s2))
end
def uU(K:aC)(P:cf)(w:cw):Sp:=λvs H Q E=>∃ x dx rp pp b rs r,vs=[.ref x,.ref b]/\cj K P w H x dx rp pp rs/\jI H r b/\rs.length<bG /\
 ∀ H' fI k,cj K P w H' x dx rp pp fI->(r∈rs/\fI=rs\/r∉rs/\fI=rs++[r])->fI[k]? = some r->(∀ c,c≠rp->c≠pp->H' c=H c)->Q (.int (k:Nat)) H'
def oW (K:aC) (P:cf) (w:cw):Sp:=λvs H Q E=>∃ x dx C,vs=[.ref x]/\H x=some (.ins C dx [])/\H dx=some (.own x)/\vS K C/\vT K C "rows"/\vT K C "places" /\
 ∀ H' rp pp,cj K P w H' x dx rp pp []->H' x=some (.ins C dx [("rows",.ref rp),("places",.ref pp)])->H rp=none->H pp=none->(∀ a,a≠x->a≠rp->a≠pp->H' a=H a)->Q .non H'
section
variable {P:cf}{w:cw}{K:aC}{mg:Str->Option ag}{base:df}{x qual:Str}{st:h8}{f:ai}{fd:qE}
def G8 (F:sM K x qual st f fd) (S:A6 ["self", "row"] ["self", "row"] (eW st))(CF:∀ dk A outer s H E,iN 0 (A.deeper (pz qual (eW st) s.heap.objs.size f dk))->mh (rV iA P w K mg base ["self", "row"] qual (eW st) f dk A outer s H E).tT (mP st) (bm' K P w)) :
  ki P w K mg base iA 1 f fd ["self", "row"] (uU K P w) :=
 F.ok S (λvs H Q E ⟨_,_,_,_,_,_,_,e,_⟩=>by rw[e];rfl) λdk A outer s H vs Q E hr dc=>by obtain⟨x,dx,rp,pp,b,rs,r,e,sh,hb,hz,h⟩:=dc;subst e;exact⟨_,CF dk A outer s H E hr,Ia sh hb hz h⟩
def Cz (F:sM K x qual st f fd) (S:A6 ["self"] ["self"] (eW st))(CF:∀ dk A outer s H E,iN 0 (A.deeper (pz qual (eW st) s.heap.objs.size f dk))->mh (rV iA P w K mg base ["self"] qual (eW st) f dk A outer s H E).tT (mP st) (yJ K P w)) :
  ki P w K mg base iA 1 f fd ["self"] (oW K P w) :=
 F.ok S (λvs H Q E ⟨_,_,_,e,_⟩=>by rw[e];rfl) λdk A outer s H vs Q E hr dc=>by obtain⟨x,dx,C,e,hi,ho,c,n1,n2,h⟩:=dc;subst e;exact⟨_,CF dk A outer s H E hr,Cw hi ho c n1 n2 h⟩
end
def qA(Hs:Hp)(As:List ai)(H:Hp):Hp:=λb=>if b∈As then H b else Hs b
def iU(h:b∈As):qA Hs As H b=H b:=by unfold qA;rw[if_pos h]
def cu(h:b∉As):qA Hs As H b=Hs b:=by unfold qA;rw[if_neg h]
def uh(n:GV Hs ax)(k:∀ b∈As,H' b=H b):GV (qA Hs As H) (qA ax As H'):=λa o d e=>by
 by_cases h:a∈As
 ·rw[iU h] at e ⊢;rw[k a h];exact e
 ·rw[cu h] at e ⊢;exact n a o d e
def dC(w:Wf Hs H):bt (qA Hs As H) H:=λa o e=>by
 by_cases h:a∈As
 ·rw[iU h] at e;exact e
 ·rw[cu h] at e;exact w.sub a o e
section
variable {K:aC}{P:cf}{w:cw}{G G':Hp}{x dx rp pp:ai}{rs:List (List RI)}
def jI.mono(n:∀ c ys,G c=some (.tup ys)->G' c=some (.tup ys))(h:jI G r b):jI G' r b:=by
 obtain⟨o1,ys,e,q⟩:=h;refine⟨o1,ys,n _ _ e,?_⟩;clear e o1
 induction q with
 |nil=>exact .nil
 |@cons i y is ys hi _ ih =>
  refine .cons ?_ ih
  match i,hi with
  |.inl k,hi=>exact hi
  |.inr ks,hi =>obtain⟨c,rfl,z⟩:=hi;exact⟨c,rfl,n _ _ z⟩
def cj.moves(h:cj K P w G x dx rp pp rs)(t:∀ c ys,G c=some (.tup ys)->G' c=some (.tup ys))(k:∀ c∈[x,dx,rp,pp],G' c=G c):cj K P w G' x dx rp pp rs:=by obtain⟨⟨C,i1,i2⟩,ow,⟨bs,b1,b2⟩,⟨xs,a1,a2,a3,a4⟩,nd⟩:=h;refine⟨⟨C,(k x (by simp)).trans i1,i2⟩,(k dx (by simp)).trans ow,⟨bs,(k rp (by simp)).trans b1,Paired.imp' (λ_ _ z=>z.mono t) b2⟩,⟨xs,a1,(k pp (by simp)).trans a2,a3,Paired.imp' (λ_ _ z=>⟨z.1,z.2.1.mono t,z.2.2⟩) a4⟩,nd⟩
def cj.at(h:cj K P w G x dx rp pp rs):∀ c∈[x,dx,rp,pp],∃ o,G c=some o/\ei' o/\∀ vs,o≠.tup vs:=by
 obtain⟨⟨C,i1,i2⟩,ow,⟨bs,b1,b2⟩,⟨xs,a1,a2,a3,a4⟩,nd⟩:=h;intro c hc;simp only[eu,vw,or_false] at hc;rcases hc with rfl|rfl|rfl|rfl
 ·exact⟨_,i1,trivial,λ_ z=>nomatch z⟩
 ·exact⟨_,ow,trivial,λ_ z=>nomatch z⟩
 ·exact⟨_,b1,trivial,λ_ z=>nomatch z⟩
 ·exact⟨_,a2,trivial,λ_ z=>nomatch z⟩
def cj.near(n:GV G G')(h:cj K P w G x dx rp pp rs):cj K P w G' x dx rp pp rs :=
 h.moves (λc ys e=>n c _ trivial e) λc hc=>by obtain⟨o,e,d,_⟩:=h.at c hc;rw[e];exact n c o d e
end
def OZ:RI->Bool
 |.inl k=>sQ k
 |.inr ks=>decide (ks.length<=bG) && ks.all sQ
def HM(r:List RI):Bool:=decide (r.length<=bG) && r.all OZ
def kR(K:aC)(P:cf)(w:cw)(C:ai)(o:Bool)(rs:List (List RI)):OB where
 is:=λHs H x As=>(∀ r∈rs,HM r=true)/\∃ dx rp pp,cj K P w (qA Hs As H) x dx rp pp rs/\qA Hs As H x=some (.ins C dx [("rows",.ref rp),("places",.ref pp)])/\As=bif o then [rp,pp] else []
 hX:=λn k ⟨sm,dx,rp,pp,s,i,e⟩=>⟨sm,dx,rp,pp,s.near (uh n k),uh n k _ _ trivial i,e⟩
 own:=λ⟨sm,dx,rp,pp,s,i,e⟩ b hb=>by
  cases o with
  |false=>rw[e] at hb;exact nomatch hb
  |true =>obtain⟨u,h1,_,h2⟩:=s.at b (.tail _ (.tail _ (by rw[e] at hb;exact hb)));rw[iU hb] at h1;exact⟨u,h1,h2⟩
abbrev vb:=Bool->List (List RI)->OB
section
variable {K:aC}{Hs H:Hp}
def Gz(h:jI Hs r b)(sm:HM r=true):Rep K Hs (oC r) (.ref b):=by
 obtain⟨ok,ys,e,p⟩:=h;simp only[HM,k9,decide_eq_true_eq,yT] at sm;refine .tup (by rw[<- Paired.length p];exact sm.1) e ?_;have Wt:=sm.2;clear e sm ok
 induction p with
 |nil=>exact .nil
 |@cons i y is ys hi _ ih =>
  refine .cons ?_ (ih λz hz=>Wt z (eI _ hz));have hm:=Wt i eh
  match i,hi with
  |.inl (.inl k),hi=>rw[show y=.int k from hi];exact .int k
  |.inl (.inr k),hi=>rw[show y=.str k from hi];exact .str (by simpa[OZ,sQ] using hm)
  |.inr ks,hi =>obtain⟨c,rfl,z⟩:=hi;simp only[OZ,k9,decide_eq_true_eq] at hm;exact .tup (by rw[b4];exact hm.1) z (dN (yT.mp hm.2))
def Bb{ks:List Key}{vs:List V}(h:bS K Hs (ks.map iO) vs):vs=ks.map kV/\ks.all sQ=true:=by
 induction ks generalizing vs with
 |nil=>rw[bS.n0 h];exact⟨rfl,rfl⟩
 |cons k ks ih =>
  obtain⟨u,us,rfl,r,t⟩:=bS.c h;obtain⟨e,a⟩:=ih t;rw[e]
  cases k with
  |inl i=>cases r;exact⟨rfl,by simpa[sQ] using a⟩
  |inr y=>cases r with|str z=>exact⟨rfl,by simp only[Fh,sQ,k9,decide_eq_true_eq];exact⟨z,a⟩⟩
def GX(h:Rep K Hs (oC r) v)(ok:gu 12 (oC r)=true):∃ b,v=.ref b/\jI Hs r b/\HM r=true:=by
 cases h with
 |@tup a vs _ z e rs =>
  have key:Paired (Cr Hs) r vs/\∀ i∈r,OZ i=true:=by
   clear e z ok
   induction r generalizing vs with
   |nil=>rw[bS.n0 rs];exact⟨.nil,λi h=>nomatch h⟩
   |cons i r ih =>
    obtain⟨u,us,rfl,h1,h2⟩:=bS.c rs;obtain⟨p,q⟩:=ih h2;have one:Cr Hs i u/\OZ i=true:=by
     match i,h1 with
     |.inl (.inl k),h1=>cases h1;exact⟨rfl,rfl⟩
     |.inl (.inr k),h1=>cases h1 with|str z=>exact⟨rfl,by simpa[OZ,sQ] using z⟩
     |.inr ks,h1 =>
      cases h1 with
      |tup z e fI =>obtain⟨e2,a⟩:=Bb fI;refine⟨⟨_,rfl,by rw[e,e2]⟩,?_⟩;simp only[OZ,k9,decide_eq_true_eq];exact⟨by rw[e2,b4] at z;exact z,a⟩
    exact⟨.cons one.1 p,λj hj=>(eu.mp hj).elim (λz=>z ▸ one.2) (q j)⟩
  refine⟨a,rfl,⟨ok,vs,e,key.1⟩,?_⟩;simp only[HM,k9,decide_eq_true_eq,yT];exact⟨by rw[Paired.length key.1];exact z,key.2⟩
def SR.ob(h:p.is Hs H a As)(s:SR K Hs H ρ σ ah):SR K Hs H (some (.ob a p) :: ρ) (some (.ref a) :: σ) (As++ah):=.cons (.ob h) s
def SR.bg'(i:Nat)(s:SR K Hs H ρ σ ah)(e:ρ[i]? = some (some (.ob a p)))(n:ah.Nodup) :
  ∃ As,σ[i]? = some (some (.ref a))/\p.is Hs H a As/\As.Sublist ah/\∀ bE H2 q,bt Hs bE->q.is bE H2 a As->(∀ b∈ah,b∉As->H2 b=H b)->SR K bE H2 (ρ.set i (some (.ob a q))) σ ah:=by
 obtain⟨As,sb,f,g⟩:=s.chg i n;obtain⟨_,e1,h⟩:=f _ e
 cases h with
 |ob r =>refine⟨As,e1,r,sb,λbE H2 q s2 h2 k=>?_⟩;obtain⟨t,_,_,_,c,z⟩:=g s2 k (.ob h2) (sb.nodup n) λa h _=>h;rw[qt e1,c rfl] at z;exact z
def dv.JS {P:cf} {w:cw} {C a:ai} {rs:List (List RI)} {ρ:Env} {σ:St} {ah:List ai} (i:Nat) (sr:dv K Hs ρ σ H ah) (e:ρ[i]? = some (some (.ob a (kR K P w C true rs)))):∃ dx rp pp,σ[i]? = some (some (.ref a))/\(∀ r∈rs,HM r=true)/\cj K P w H a dx rp pp rs/\H a=some (.ins C dx [("rows",.ref rp),("places",.ref pp)])/\rp∈ah/\pp∈ah /\
  ∀ bE H2 G0,bt Hs bE->Wf bE H2->(∀ r∈G0,HM r=true)->cj K P w H2 a dx rp pp G0->(∀ b∈ah,b≠rp->b≠pp->H2 b=H b)->(∀ b∈ah,bE b=none)->dv K bE (ρ.set i (some (.ob a (kR K P w C true G0)))) σ H2 ah:=by
 obtain⟨Cs,e1,⟨sm,dx,rp,pp,S,iS,eC⟩,sb,g⟩:=SR.bg' i sr.sr e sr.oz;have eC:Cs=[rp,pp]:=eC;subst eC;have S1:cj K P w H a dx rp pp rs:=S.near (iB (dC sr.wf));have i1:=dC sr.wf _ _ iS;refine⟨dx,rp,pp,e1,sm,S1,i1,sb.subset (by simp),sb.subset (by simp),λbE H2 G0 s w2 Wt S2 kp own=>?_⟩;have cell:∀ c∈[a,dx,rp,pp],qA bE [rp,pp] H2 c=H2 c:=λc hc=>by
  by_cases m:c∈[rp,pp]
  ·exact iU m
  ·obtain⟨o,z,_⟩:=S.at c hc;rw[cu m] at z ⊢;rw[s _ _ z,w2.sub _ _ (s _ _ z)]
 have na:a∉[rp,pp]:=λm=>by
  obtain⟨bs,b1,_⟩:=S1.rows;obtain⟨xs,_,a2,_⟩:=S1.places;simp only[eu,vw,or_false] at m;rcases m with rfl|rfl
  ·rw[i1] at b1;cases b1
  ·rw[i1] at a2;cases a2
 rw[cu na] at iS;refine⟨g bE H2 _ s ⟨Wt,dx,rp,pp,S2.moves (λc ys z=>?_) cell,by rw[cu na];exact s _ _ iS,rfl⟩ λb hb n=>kp b hb (λz=>n (by simp[z])) λz=>n (by simp[z]),w2,sr.oz,own⟩;by_cases m:c∈[rp,pp]
 ·rw[iU m];exact z
 ·rw[cu m];exact w2.kB c ys z
end
def nu(K:aC)(P:cf)(w:cw)(C:ai)(xh:List (List RI)->fP):Sp:=λvs H Qv _=>∃ x rs ds oj Qd,vs=.ref x :: oj/\(kR K P w C false rs).is H H x []/\bS K H ds oj/\xh rs ds Qd /\
 ∀ v H' ax m d As,bt H ax->Wf ax H'->RM K ax H' m d v As->As.Nodup->(∀ a∈As,ax a=none)->Qd m d->Qv v H'
def b8(n:Nat)(a:ai)(p:OB)(ds:List D):Env:=some (.ob a p) :: (ds.map (λd=>some (.sh d))++List.replicate (n-(ds.length+1)) none)
section
variable {K:aC}{P:cf}{w:cw}{C:ai}{xh:List (List RI)->fP}{t:WS}
def vO(h:nu K P w C xh vs H Qv E)(hp:∀ a rs ds Q,xh rs ds Q->t { nx:=λ_=>Q .sh .non,rt:=Q } (b8 N.length a (kR K P w C false rs) ds)) :
  x6 K L0 t { nx:=λ_ H'=>Qv .non H',rt:=Qv } (start N vs) H:=by
 obtain⟨x,rs,ds,oj,Qd,rfl,sh,re,hs,fin⟩:=h;have hl:=re.length;refine⟨H,b8 N.length x (kR K P w C false rs) ds,[],{ nx:=λ_=>Qd .sh .non,rt:=Qd },⟨?_,⟨bt.refl _,λ_ _ e=>e⟩,mI,λa h=>nomatch h⟩,hp x rs ds Qd hs,?_,?_,?_,?_,λ_ _ _ _=>trivial⟩
 ·unfold b8 start;rw[hl];exact .ob sh (SR.start re)
 ·exact λb9 H' ax bT cv s sr q=>fin .non H' ax .sh .non [] s sr.wf ⟨rfl,.non⟩ mI (λa h=>nomatch h) q
 ·exact λb9 H' ax bT cv s sr q=>q.elim
 ·exact λb9 H' ax bT cv s sr q=>q.elim
 ·exact λv H' ax m d As s w r nd own q=>fin v H' ax m d As s w r nd own q
def bo'.ok{st:h8}{N ps:List Str}(F:sM K x qual st f fd)(S:A6 N ps (eW st))(len:∀ rs ds Q,xh rs ds Q->ds.length+1=ps.length)(CF:∀ dk A outer s H E,iN k (A.deeper (pz qual (eW st) s.heap.objs.size f dk))->x8 (rV iA P w K mg base N qual (eW st) f dk A outer s H E).tT K L0 (mP st) t)(hp:∀ a rs ds Q,xh rs ds Q->t { nx:=λ_=>Q .sh .non,rt:=Q } (b8 N.length a (kR K P w C false rs) ds)):ki P w K mg base iA (k+1) f fd ps (nu K P w C xh) :=
 F.ok S (λvs H Q E ⟨x,rs,ds,oj,Qd,e,_,re,hs,_⟩=>by rw[e,k8,<- re.length];exact len rs ds Qd hs) λdk A outer s H vs Q E hr hs=>⟨_,CF dk A outer s H E hr,vO hs hp⟩
end
def xT(SP:vb)(i:Nat)(xh:List (List RI)->fP)(t:WA):WE:=λρ Q=>∃ a o rs,ρ[i]? = some (some (.ob a (SP o rs)))/\t ρ λps=>xh rs (ps.map (·.2)) λm d=>cy (m,d) (f:=λp=>Q (OL p.1 p.2) p.2) ⟨⟩
def zF(SP:vb)(i:Nat)(t:WE):WE:=λρ Q=>∃ a o rs,ρ[i]? = some (some (.ob a (SP o rs)))/\t ρ λ_ y=>∃ (k:Nat) (r:List RI),y=.int k/\rs[k]? = some r/\Q .sh (oC r)
def KY(SP:vb)(i:Nat):WS:=λE ρ=>∀ a,E.nx (ρ.set i (some (.ob a (SP true []))))
def Eu{α β:Type}{R:α->β->Prop}{l:List α}{m:List β}(p:Paired R l m){k:Nat}{x:α}(h:l[k]? = some x):∃ y,m[k]? = some y/\R x y:=by
 induction p generalizing k with
 |nil=>simp at h
 |cons a _ ih =>
  cases k with
  |zero=>simp at h;subst h;exact⟨_,rfl,a⟩
  |succ k=>exact ih (by simpa using h)
section
variable {X:Cx}{K:aC}{L:Str->Hp->Prop}{C:ai}{e0 e:Expr}{es:List Expr}{i:Nat}{t:WA}{te:WE}{m:Str}{apos pos p q:Pos}{f:ai}{fd:qE}{ps:List Str}{k:Nat}{xh:List (List RI)->fP}
def Dz{P:cf}(wf:Wf Hs H)(h:(kR K P w C o rs).is Hs H a As):(kR K P w C false rs).is H H a []:=by
 obtain⟨sm,dx,rp,pp,s,i,e⟩:=h;have n:GV (qA Hs As H) (qA H [] H):=λb u _ z=>by exact dC wf b u z
 exact⟨sm,dx,rp,pp,s.near n,n _ _ trivial i,rfl⟩
def xW(h0:PE X e0 (kg i))(c:vS X.K C)(hm:Meth X.K C m f)(F:ki X.prog X.w X.K X.mg X.base iA k f fd ps (nu K X.prog X.w C xh))(hr:iN k X.A)(hb:Binds X.K fd ps [])(ha:QA X K (e :: es) t)(hK:autoParam (X.K=K) bv) (hn:(m == ("rows" : Str))=false/\(m == ("places" : Str))=false:=by decide +kernel) (rh:autoParam (aQ X e es) bv) (mN:autoParam (bR X pos es) bv) (ht:autoParam (dE (.Call (.Attribute e0 m apos) (e :: es) [] pos) X.env=(do
   let ov ← eval e0 X.env
   standAt apos.atName
   let (f,first) ← holding [ov] (getMethod ov m pl)
   callWith pos f first (backTo pos (g7 (e :: es) X.env)) (backToKw pos (E5 [] X.env)))) bv):QE X K (.Call (.Attribute e0 m apos) (e :: es) [] pos) (xT (kR K X.prog X.w C) i xh t):=by
 subst hK;refine PE.imp (cH' h0 c hm F hr hb (.nil) Vr ha rh mN ht) λσ H Qv hx=>i9 hx λHs ρ ah Q sr h f=>?_;obtain⟨a,o,rs,e1,h⟩:=h;obtain⟨v,e2,rfl,As,is,_⟩:=sr.sr.get e1;have Wu:=Dz sr.wf is;obtain⟨_,dx,rp,pp,s1,i1,_⟩:=id Wu;refine⟨_,e2,a,dx,_,rfl,i1,?_,Hs,ρ,ah,_,sr,h,λvs H1 bq ps As1 g1 r1 f1 q1=>?_⟩
 ·simp[List.lookup,hn.1,hn.2]
 ·refine⟨a,rs,_,vs,_,by rw[tJ],(kR X.K X.prog X.w C false rs).hX (iB g1.all) (λb hb=>nomatch hb) Wu,r1.reps g1.wf,q1,λv H' ax m d As s w r nd own q=>?_⟩;obtain⟨iE,r',fr⟩:=rR g1.wf s w r nd own;exact Fin.after f g1 v H' _ (OL m d) d iE (gm g1.wf s w) r' fr q
def xx (h0:PE X e0 (kg i)) (hb:QE X K e te) (hK:autoParam (X.K=K) bv) (hba:autoParam (DV e0 "rows" X.env (dE e0 X.env)=dE e0 X.env) bv) (hs:Vi e:=by exact λ_ _=>rfl) (hu:X.A.units+64<fA:=by assumption) :
  QE X K (.Subscript (.Attribute e0 "rows" p) e q) (zF (kR K X.prog X.w C) i te):=by
 subst hK;refine PE.imp (ZW (aM' hu rfl) (Rm h0 hba) hb hs) λσ H Qv hx=>i9 hx λHs ρ ah Q sr h f=>?_;obtain⟨a,o,rs,e1,h⟩:=h;obtain⟨v,e2,rfl,As,is,_⟩:=sr.sr.get e1;have Wu:=Dz sr.wf is;obtain⟨_,dx,rp,pp,s1,i1,_⟩:=id Wu;obtain⟨C',i2,c,n1,_⟩:=s1.ins;refine⟨_,e2,a,C',dx,_,.ref rp,rfl,i2,c,n1,rfl,Hs,ρ,ah,_,sr,h,λu H2 bE m y k6 g2 r2 f2 q2=>?_⟩;obtain⟨k,r,rfl,hk,q⟩:=q2;have r2:=r2.rep g2.wf;cases r2;obtain⟨bs,b1,b2⟩:=s1.rows;obtain⟨b,hb,rb⟩:=Eu b2 hk;refine .inl (.inl ⟨_,.ref b,.inl (.inl (g2.all _ _ b1)),Cq ?_ (by rw[g9,hb];rfl),(Fin.after f g2).sh g2.wf (Gz (rb.mono λc ys z=>g2.wf.kB c ys (g2.all _ _ z)) (is.1 r (nh hk))) q⟩);have hl:k<bs.length:=(h9.mp hb).1;unfold rX;simp[hl]
def Hy (M:Mk X.K C mX') (c:vS X.K C) (n1:vT X.K C "rows") (n2:vT X.K C "places") (F:ki X.prog X.w X.K X.mg X.base iA k mX' fdi ["self"] (oW X.K X.prog X.w)) (hr:iN (k+1) X.A) (hm:X.mg "Sheet" = some (.ref C)) (hb:Binds X.K fdi ["self"] []) (hg:Gl X "Sheet" := by rfl) (hK:autoParam (X.K=K) bv) (hs:autoParam (nS (.Call (.Name "Sheet" p) [] [] q) (some (.Name y pos')) pos.line X.env=pure false) bv) (hf:lD X y:=by first|exact .inl rfl|exact .inr rfl|assumption) (hN:X.N.Nodup:=by assumption) (hi:autoParam (X.N[i]? = some y) bv) (hy:Loc X.env.scope y:=by first|exact .inl rfl|exact .inr rfl) :
  QS X K L (.Assign [.Name y pos'] (.Call (.Name "Sheet" p) [] [] q) pos) (KY (kR K X.prog X.w C) i):=by
 subst hK;refine PS.imp (ZE hN hi hy (ir' M F hr hg hm hb .nil Vr) hs hf) λD σ H hx=>cD hx λHs ρ ah E sr h k1 k2 k3 k4=>?_;intro x dx hx hd ne;refine⟨x,dx,C,rfl,d5,by rw[b6 ne,d5],c,n1,n2,λH' rp pp S kX R0 R1 kp=>⟨rfl,?_⟩⟩;have px:pp≠x:=λz=>by rw[z,d5] at R1;cases R1
 have rx:rp≠x:=λz=>by rw[z,d5] at R0;cases R0
 rw[b6 px] at R1;rw[b6 rx] at R0;have pd:pp≠dx:=λz=>by rw[z,d5] at R1;cases R1
 have rd:rp≠dx:=λz=>by rw[z,d5] at R0;cases R0
 rw[b6 pd] at R1;rw[b6 rd] at R0;have fr:∀ b∈[x,dx,rp,pp],H b=none:=by intro b hb;simp only[eu,vw,or_false] at hb;rcases hb with rfl|rfl|rfl|rfl<;>assumption
 have rp':rp≠pp:=λz=>by obtain⟨bs,b1,_⟩:=S.rows;obtain⟨xs,_,a2,_⟩:=S.places;rw[z,a2] at b1;cases b1
 have keep:∀ b,b∉[x,dx,rp,pp]->H' b=H b:=λb hb=>by simp only[eu,vw,or_false,not_or] at hb;rw[kp b hb.1 hb.2.2.1 hb.2.2.2,b6 hb.1,b6 hb.2.1]
 have nt:∀ b o,H b=some o->b∉[x,dx,rp,pp]:=λb o z m=>by rw[fr b m] at z;cases z
 have wf:Wf Hs H':=⟨λb o z=>(keep b (nt b o (sr.wf.sub b o z))).trans (sr.wf.sub b o z),λb vs z=>by
  by_cases hb:b∈[x,dx,rp,pp]
  ·obtain⟨o,z2,_,n⟩:=S.at b hb;rw[z] at z2;cases z2;exact absurd rfl (n vs)
  ·rw[keep b hb] at z;exact sr.wf.kB b vs z⟩
 have sm:bt Hs (qA Hs [x,dx] H'):=λb o z=>by rw[cu λm=>nt b o (sr.wf.sub b o z) (yB [rp,pp] m)];exact z
 have wf2:Wf (qA Hs [x,dx] H') H':=⟨dC wf,λb vs z=>sm _ _ (wf.kB b vs z)⟩
 have cell:∀ c∈[x,dx,rp,pp],qA (qA Hs [x,dx] H') [rp,pp] H' c=H' c:=λc hc=>by
  by_cases m:c∈[rp,pp]
  ·exact iU m
  ·rw[cu m,iU ((hJ (s:=[x,dx]).mp hc).resolve_right m)]
 have is:(kR X.K X.prog X.w C true []).is (qA Hs [x,dx] H') H' x [rp,pp]:=⟨(λr z=>nomatch z),dx,rp,pp,S.moves (λc ys z=>by
  by_cases hc:c∈[rp,pp]
  ·rw[iU hc];exact z
  ·rw[cu hc];exact wf2.kB c ys z) cell,by rw[cell x (by simp)];exact kX,rfl⟩
 have nb:∀ b∈ah,b∉[x,dx,rp,pp]:=λb hb m=>(sr.sr.own b hb).ne (fr b m);have EJ:dv X.K (qA Hs [x,dx] H') ρ σ H' ah:=⟨sr.sr.hX sm λb hb=>keep b (nb b hb),wf2,sr.oz,λb m=>by rw[cu λq=>nb b m (yB [rp,pp] q)];exact sr.own b m⟩
 obtain⟨cv,_,t3⟩:=EJ.V2 i (.ob is) (by simp[rp']) λb m=>⟨by
  simp only[eu,vw,or_false] at m;rcases m with rfl|rfl
  ·rw[cu (by simp[rx,rd])];exact sr.wf.sub.free (fr _ (by simp))
  ·rw[cu (by simp[px,pd])];exact sr.wf.sub.free (fr _ (by simp)),λz=>nb b z (.tail _ (.tail _ m))⟩
 exact k1 _ H' _ _ cv sm t3 (h x)
end
end L2.Q
namespace L2
def Uj(lo c:Int)(n:Nat):It:=⟨λi _=>i<n,λi H x H'=>H'=H/\x=.int (lo+i*c),λi _=>n<=i⟩
def rC{P:cf}{K:aC}(it:ai)(lo c:Int)(n:Nat):Turn P w K tg (Uj lo c n) [it] it (λi h=>IsRangeIter h it (lo+(i:Nat)*c) ((n:Int)-(i:Nat)) c) where
 mem:=by simp
 obj:=λi h st b hb=>by
  have e:b=it:=by simpa using hb
  subst e;exact⟨_,st,λv z=>by
   have z':Data.fields _=Data.cell v:=z;cases z'⟩
 keep:=λi h h' st k=>k it (by simp) _ st
 item:=by intro X hP hw hK hc i pins s σ H E I hf st hg;subst hP hw hK;obtain⟨f0,f1,f2,f3,f4,f5⟩:=hf it (by simp);have W:=Walks.range (prog:=X.prog) (w:=X.w) (I.ok.hd hc) it lo c n;refine W.item i s _ _ hg st λv h' tk hv aw kk=>?_;obtain⟨t,rfl⟩:=hv;have I1:Inv X pins σ H { s with heap:=h',toks:=tk }:=I.turned (λb o hb e=>kk b o (by simpa using hb) e) f0 f1 f3 f4 f5;exact⟨_,rfl,QY (s:={ s with heap:=h',toks:=tk }) (n := "range_iterator") aw rfl rfl (by decide) ⟨.int (lo+i*c),H,I1,⟨t,rfl⟩,⟨rfl,rfl⟩,aw,λb hb=>(hf b hb).1⟩⟩
 done:=by intro X hP hw hK hc i pins s σ H E I hf st hg;subst hP hw hK;obtain⟨f0,f1,f2,f3,f4,f5⟩:=hf it (by simp);exact wpAny_pyNext_range_end (I.ok.hd hc) st (by have:n<=i:=hg;lia) λh' eb=>⟨rfl,I.turned (t':=s.toks) (λb o hb e=>eb b o hb e) f0 f1 f3 f4 f5⟩
 self:=λ_ _ _ _ _ st h=>wpAny_pyIter_rangeiter st h
def AR(a b c:Int):Nat:=(Builtin.Range.rangeSize a b c).toNat
def Nx(hc:c = -1\/c=2):((AR a b c:Nat):Int)=Builtin.Range.rangeSize a b c:=by
 unfold AR Builtin.Range.rangeSize;rcases hc with rfl|rfl
 ·rw[if_neg (by decide),show -(-1:Int)=1 from rfl];split<;>lia
 ·rw[if_pos (by decide)];split<;>lia
def CZ(hc:c = -1\/c=2)(h:-16777216<=a/\a<=16777216/\-16777216<=b/\b<=16777216):Builtin.Range.small a b c=true:=by
 unfold Builtin.Range.small Builtin.Range.rangeSize;rcases hc with rfl|rfl
 ·simp only[Builtin.Range.rangeFitsLong,k9,Bool.or_eq_true,decide_eq_true_eq,beq_iff_eq,show ¬ (-1:Int)>0 by decide,if_false,show -(-1:Int)=1 from rfl];split<;>lia
 ·simp only[Builtin.Range.rangeFitsLong,k9,Bool.or_eq_true,decide_eq_true_eq,beq_iff_eq,show(2:Int)>0 by decide,if_true];split<;>lia
section
variable {X:Cx}{tg:Expr}
def MN(ta:TA):TI:=λσ H R=>ta σ H λvs H1=>∃ i j c:Int,vs=[.int i,.int j,.int c]/\(c = -1\/c=2)/\(-16777216<=i/\i<=16777216/\-16777216<=j/\j<=16777216)/\R (Uj i c (AR i j c)) H1
def yL (hg:Gl X "range") (hm:X.mg "range" = none) (ha:PA X [a,b,c] ta) (hs:autoParam (g7 [a,b,c] X.env=[(false,dE a X.env),(false,dE b X.env),(false,dE c X.env)]) bv) (pT:autoParam (g7 [b,c] X.env=[(false,dE b X.env),(false,dE c X.env)]) bv) :
  PI X tg (.Call (.Name "range" p) [a,b,c] [] pos) (MN ta):=by
 intro pins s σ H R I h;refine Call_ (FD I hg hm boot_range (PyProof.Rows.callWith_type1 (cp (ha pos pins s σ H _ I h) λus s1 ck=>L2.e9 ck λvs H1 I1 r1 q1=>?_) (by rw[hs,pT]) (by rw[pT];rfl)));obtain⟨i,j,c,e,hc,hb,q⟩:=q1;subst e
 cases r1 with
 |cons r rr =>
  cases rr with
  |cons r' rr =>
   cases rr with
   |cons r'' rr =>
    cases rr;obtain⟨t,rfl⟩:=r;obtain⟨u,rfl⟩:=r';obtain⟨v,rfl⟩:=r'';refine call_range_3 (by rcases hc with rfl|rfl<;>decide) ?_ (Or.inl (PyProof.noPylong_small (by lia)));refine wpAny_pyIter_range (IsRange.new ..) (CZ hc hb) ?_;have I2:Inv X pins σ H1 { s1 with heap:=s1.heap.push { cls:=.type "range",data:=.fields #[.int i t,.int j u,.int c v] } }:=I1.kept λb o e=>eL _ e;refine⟨_,[_],_,_,H1,rfl,I2.kept λb o e=>eL _ e,rC _ i c (AR i j c),?_,λb hb=>?_,q⟩
    ·show IsRangeIter _ _ (i+0*c) (((AR i j c:Nat):Int)-0) c;rw[Nx hc];simp only[Int.natCast_zero,Int.zero_mul,Int.add_zero,Int.sub_zero];exact ip _ rfl
    ·have e:=ic.mp hb;subst e;exact I2.I0 (cK _) (I2.bP.fresh (cK _))
end
end L2
namespace L2.Q
def Wv(lo c:Int)(n:Nat):List D:=(List.range n).map λi=>.int (lo+(i:Nat)*c)
def Dk(ta tb tc:WE):WI:=λρ Q=>ta ρ λ_ x=>tb ρ λ_ y=>tc ρ λ_ z=>match x with
 |.int i=>match y with
  |.int j=>match z with
   |.int c=>(c = -1\/c=2)/\(-16777216<=i/\i<=16777216/\-16777216<=j/\j<=16777216)/\AR i j c<=16777216/\Q (Wv i c (AR i j c))
   |_=>False
  |_=>False
 |_=>False
def CV(lo c:Int)(n:Nat):gh (Uj lo c n) ((List.range n).map λi=>V.int (lo+(i:Nat)*c)) (λ_=>True) where
 go:=λi H _ h=>by simpa[Uj] using h
 nE:=λi H x H' _ hi h=>by
  have hi:i<n:=by simpa using hi
  obtain⟨rfl,rfl⟩:=h;refine⟨rfl,?_⟩;simp[hi]
 stop:=λH _=>by simp[Uj]
theorem uL{K:aC}(lo c:Int):∀ (l:List Nat),bS K H (l.map λi=>.int (lo+(i:Nat)*c)) (l.map λi=>V.int (lo+(i:Nat)*c))
 |[]=>.nil
 |_ :: l=>.cons (.int _) (uL lo c l)
section
variable {X:Cx}{K:aC}{e e2 e3 tg:Expr}{te RP te3:WE}{pos p:Pos}
def GQ (hm:X.mg "range" = none) (he:QE X K e te) (Tt:QE X K e2 RP) (he3:QE X K e3 te3) (hg:Gl X "range" := by rfl) (hs:autoParam (g7 (e :: [e2,e3]) X.env=(false,dE e X.env) :: g7 [e2,e3] X.env) bv) (pT:autoParam (g7 (e2 :: [e3]) X.env=(false,dE e2 X.env) :: g7 [e3] X.env) bv) (Z7:autoParam (aQ X e3 []) bv) (gS:autoParam (g7 [e,e2,e3] X.env=[(false,dE e X.env),(false,dE e2 X.env),(false,dE e3 X.env)]) bv) (Wq:autoParam (g7 [e2,e3] X.env=[(false,dE e2 X.env),(false,dE e3 X.env)]) bv):QI X K tg (.Call (.Name "range" p) [e,e2,e3] [] pos) (Dk te RP te3):=by
 refine PI.imp (yL hg hm (nI he (nI Tt (nI he3 t5 Z7) pT) hs) gS Wq) λσ H R hx=>i9 hx λHs ρ ah Q sr h k=>⟨Hs,ρ,ah,_,sr,h,λv H1 bq m d As g1 r1 f1 q1=>⟨bq,ρ,ah,_,sr.grow g1,q1,λu H2 bE n y Bs g2 r2 f2 q2=>⟨bE,ρ,ah,_,(sr.grow g1).grow g2,q2,λu3 H3 e7 n3 y3 Bs3 g3 r3 f3 q3=>?_⟩⟩⟩
 have r:=((r1.grow g2).grow g3).rep g3.wf;have r':=(r2.grow g3).rep g3.wf;have r'':=r3.rep g3.wf
 cases r with
 |int i=>cases r' with
  |int j=>cases r'' with
   |int c =>obtain⟨h1,h2,h3,q3⟩:=q3;exact⟨i,j,c,rfl,h1,h2,k _ H3 e7 _ ((g1.trans g2).trans g3) (.seq (uL i c _) (gh.imp (CV _ _ _) λ_ _=>trivial)) (by rw[b4,Sr,mB];lia) q3⟩
   |_=>exact q3.elim
  |_=>exact q3.elim
 |_=>exact q3.elim
end
def KN(K:aC):List V->Hp->VK->Prop:=λxs H Q=>∃ (p:ai) (ns:List Int),xs=[.ref p]/\fe K H p (ns.map V.int)/\0<ns.length/\∀ M,M∈ns->(∀ a∈ns,a<=M)->Q (.int M) H
theorem mH:∀ {ns} {its},Vals (ns.map V.int) its->∃ xs:List (Int × Tok),its=xs.map (λp=>.int p.1 p.2)/\ns=xs.map (·.1)
 |[],its,h=>by cases h;exact⟨[],rfl,rfl⟩
 |n :: ns,its,h=>by
  cases h with
  |cons r h =>obtain⟨t,rfl⟩:=r;obtain⟨xs,rfl,e⟩:=mH h;exact⟨(n,t) :: xs,rfl,by rw[e];rfl⟩
def Mx {X:Cx} {K:aC} (hc:autoParam (X.calm=true) bv) (hK:autoParam (X.K=K) bv):kM X (.builtin "max") (KN K):=by
 subst hK;intro pins s σ H xs us Q I r h;obtain⟨p,ns,rfl,sq,hl,q⟩:=h;obtain⟨u,rfl,e⟩:=vals1 r;obtain rfl:u=Value.ref p:=e;obtain⟨its,rv,pl,_⟩:=I.list sq;obtain⟨ys,rfl,rfl⟩:=mH rv;have hI:intItems ys.toArray=(ys.map λp=>Value.int p.1 p.2).toArray:=by simp[intItems]
 rw[b4] at hl;refine max_intList (I.ok.hd hc) (by rw[hI];exact pl.isList) (by simpa using hl) λv h' tk hv k=>?_;obtain⟨b1,b2⟩:=argBest_gt (numAt ys.toArray) (ys.toArray.size-1);generalize argBest (λi j=>decide (numAt ys.toArray i>numAt ys.toArray j)) (ys.toArray.size-1)=b at *
 obtain⟨t,rfl⟩:=intItems_at hv;have num:∀ i,(h:i<ys.length)->numAt ys.toArray i=(ys[i]).1:=λi h=>by simp[numAt,h]
 have sz:ys.toArray.size=ys.length:=by simp
 refine⟨.int (numAt ys.toArray b),H,I.kept k,⟨t,rfl⟩,q _ ?_ λa ha=>?_⟩
 ·rw[num b (by lia)];exact c9.mpr ⟨_,L6 _,rfl⟩
 ·obtain⟨y,hy,rfl⟩:=c9.mp ha;obtain⟨i,hi,rfl⟩:=W_.mp hy;rw[<- num i hi];exact b2 i (by lia)
def IK:W1:=λ_ x Q=>match x with
 |.list xs=>∃ ns:List Int,xs=ns.map D.int/\0<ns.length/\∀ M,M∈ns->(∀ a∈ns,a<=M)->Q .sh (.int M)
 |_=>False
def Fp{K:aC}:DC K (KN K) IK:=by
 intro Hs H m x v As Qd Qv w rx h f;have r1:=rx.rep w
 cases r1 with
 |list z s q =>obtain⟨ns,rfl,hl,h⟩:=h;cases vm q;exact⟨_,ns,rfl,s,hl,λM h1 h2=>f.sh w (.int _) (h M h1 h2)⟩
 |_=>exact h.elim
def aN'.mk{P:cf}{w:cw}{K:aC}{mg:Str->Option ag}{base:df}{x:Str}{st:h8}{f:ai}{fd:qE}{sp:fP}{t:WS}(m:mg x=some (.ref f))(F:sM K x x st f fd)(N:List Str)(n k:Nat)(hp:ku (N.length) sp t)(hb:∀ {dk} {A} {outer} {s} {H} {E},{_:iN k (A.deeper (pz x (eW st) s.heap.objs.size f dk))}->{_:(A.deeper (pz x (eW st) s.heap.objs.size f dk)).units+64<fA}->{_:N.Nodup} -> {_:(rV iA P w K mg base N x (eW st) f dk A outer s H E).tT.env.scope=eW st/\(rV iA P w K mg base N x (eW st) f dk A outer s H E).tT.N=N}->x8 (rV iA P w K mg base N x (eW st) f dk A outer s H E).tT K L0 (mP st) t)(S:A6 N (N.take n) (eW st):=by exact⟨rfl,rfl,rfl,by decide +kernel,rfl,by decide +kernel,by decide +kernel⟩) (hl:autoParam ((N.take n).length=n) bv) (bi:∀ kV doc pm an dk ct us,us.length=(N.take n).length->bindArgs (sD x x (wa st) (mP st) (eW st) .none kV doc pm an dk ct) ⟨us,[]⟩=pure ((N.take n).zip us):=by
   intro _ _ _ _ _ _ us h;iterate 13 all_goals rcases us with _|⟨_,us⟩<;>first|rfl|(simp at h;done)|skip) (len:∀ ds Q,sp ds Q->ds.length=n:=by intro ds Q h;(repeat obtain⟨_,h⟩:=h);subst_vars;rfl):Ru P w K mg base (k+1) x (N.take n) (fO K sp)/\ki P w K mg base iA (k+1) f fd (N.take n) (fO K sp) :=
 have G:=aN'.ok F S (λds Q h=>(len ds Q h).trans hl.symm) (λ_ _ _ _ _ _ hr=>@hb _ _ _ _ _ _ hr hr.units S.nd ⟨rfl,rfl⟩) hp
 ⟨F.VA m G bi,G⟩
def bo'.mk{P:cf}{w:cw}{K:aC}{mg:Str->Option ag}{base:df}{C:ai}{x qual:Str}{st:h8}{f:ai}{fd:qE}{xh:List (List RI)->fP}{t:WS}(F:sM K x qual st f fd)(N:List Str)(n k:Nat)(hp:∀ a rs ds Q,xh rs ds Q->t { nx:=λ_=>Q .sh .non,rt:=Q } (b8 N.length a (kR K P w C false rs) ds)) (hb:∀ {dk} {A} {outer} {s} {H} {E},{_:iN k (A.deeper (pz qual (eW st) s.heap.objs.size f dk))}->{_:(A.deeper (pz qual (eW st) s.heap.objs.size f dk)).units+64<fA}->{_:N.Nodup} -> {_:(rV iA P w K mg base N qual (eW st) f dk A outer s H E).tT.env.scope=eW st/\(rV iA P w K mg base N qual (eW st) f dk A outer s H E).tT.N=N}->x8 (rV iA P w K mg base N qual (eW st) f dk A outer s H E).tT K L0 (mP st) t) (S:A6 N (N.take n) (eW st):=by exact⟨rfl,rfl,rfl,by decide +kernel,rfl,by decide +kernel,by decide +kernel⟩) (hl:autoParam ((N.take n).length=n) bv) (len:∀ rs ds Q,xh rs ds Q->ds.length+1=n:=by intro rs ds Q h;(repeat obtain⟨_,h⟩:=h);subst_vars;rfl):ki P w K mg base iA (k+1) f fd (N.take n) (nu K P w C xh) :=
 bo'.ok F S (λrs ds Q h=>(len rs ds Q h).trans hl.symm) (λ_ _ _ _ _ _ hr=>@hb _ _ _ _ _ _ hr hr.units S.nd ⟨rfl,rfl⟩) hp
def ve(p q:ai)(H:Hp):Hp:=λc=>if c=p\/c=q then none else H c
def uv(h1:c≠p)(h2:c≠q):ve p q H c=H c:=by unfold ve;rw[if_neg λz=>z.elim h1 h2]
def zX(w:bt Hs H)(n1:Hs p=none)(n2:Hs q=none):bt Hs (ve p q H):=λc o z=>by rw[uv (λe=>by rw[e,n1] at z;cases z) λe=>by rw[e,n2] at z;cases z];exact w c o z
def DL(Hs H':Hp):Hp:=λc=>match H' c with
 |some (.tup vs)=>some (.tup vs)
 |_=>Hs c
def Gh(kk:bt Hs H'):bt Hs (DL Hs H')/\Wf (DL Hs H') H'/\∀ c,(∀ vs,H' c≠some (.tup vs))->DL Hs H' c=Hs c:=by
 have nt:∀ c,(∀ vs,H' c≠some (.tup vs))->DL Hs H' c=Hs c:=λc h=>by
  unfold DL;split
  ·rename_i vs e;exact absurd e (h vs)
  ·rfl
 refine⟨λc o q=>?_,⟨λc o q=>?_,λc vs q=>by unfold DL;rw[q]⟩,nt⟩
 ·unfold DL;split
  ·rename_i vs e;rw[kk c o q] at e;exact e ▸ rfl
  ·exact q
 ·unfold DL at q;split at q
  ·rename_i vs e;rw[e];exact q
  ·exact kk c o q
abbrev O0:=List (List RI)->List D->(List (List RI)->Int->Prop)->Prop
def dF (K:aC) (P:cf) (w:cw) (C:ai) (sp:O0):Sp:=λvs H Qv _=>∃ x dx rp pp rs ds us Q,vs=.ref x :: us/\(∀ r∈rs,HM r=true)/\cj K P w H x dx rp pp rs/\H x=some (.ins C dx [("rows",.ref rp),("places",.ref pp)])/\bS K (ve rp pp H) ds us/\sp rs ds Q /\
 ∀ H' fI k,(∀ r∈fI,HM r=true)->cj K P w H' x dx rp pp fI->(∀ c o,c≠rp->c≠pp->H c=some o->H' c=some o)->Q fI k->Qv (.int k) H'
def R3(SP:vb)(a:ai)(Q:List (List RI)->Int->Prop):Md->D->Prop:=λm d=>∃ rs k,m=.wb a (SP true rs)/\d=.int k/\Q rs k
def qN:O0:=λrs ds Q=>∃ r,ds=[oC r]/\gu 12 (oC r)=true/\rs.length<bG/\∀ fI (k:Nat),(r∈rs/\fI=rs\/r∉rs/\fI=rs++[r])->fI[k]? = some r->Q fI k
section
variable {K:aC}{P:cf}{w:cw}{C:ai}{mg:Str->Option ag}{base:df}{sp:O0}{t:WS}
def cj.ne(S:cj K P w H x dx rp pp rs):x≠rp/\x≠pp/\rp≠pp:=by obtain⟨C,i,_⟩:=S.ins;obtain⟨bs,b1,_⟩:=S.rows;obtain⟨xs,_,a2,_⟩:=S.places;exact⟨(λz=>by rw[z,b1] at i;cases i),(λz=>by rw[z,a2] at i;cases i),(λz=>by rw[z,a2] at b1;cases b1)⟩
def fe'{ps:List Str}(F:ki P w K mg base iA k f fd ps (uU K P w)):ki P w K mg base iA k f fd ps (dF K P w C qN) :=
 F.imp λvs H Q E dc=>by
  obtain⟨x,dx,rp,pp,rs,ds,us,Q',e,sm,S,i,re,⟨r,ed,ok,hz,hq⟩,fin⟩:=dc;subst e ed;obtain⟨u,us,rfl,r1,r2⟩:=bS.c re;rw[bS.n0 r2];obtain⟨b,rfl,rb,smb⟩:=GX r1 ok;have sb:∀ c ys,ve rp pp H c=some (.tup ys)->H c=some (.tup ys):=λc ys z=>by
   unfold ve at z;split at z
   ·cases z
   ·exact z
  refine⟨x,dx,rp,pp,b,rs,r,rfl,S,rb.mono sb,hz,λH' fI k S' hr hk kp=>fin H' fI k (λr' Ws=>?_) S' (λc o h1 h2 z=>by rw[kp c h1 h2];exact z) (hq fI k hr hk)⟩;rcases hr with⟨_,rfl⟩|⟨_,rfl⟩
  ·exact sm r' Ws
  ·exact(hJ.mp Ws).elim (sm r') λz=>by rw[ic.mp z];exact smb
def vU(h:dF K P w C sp vs H Qv E)(hp:∀ a rs ds Q,sp rs ds Q->t { nx:=λ_=>False,rt:=R3 (kR K P w C) a Q } (b8 N.length a (kR K P w C true rs) ds)) :
  x6 K L0 t { nx:=λ_ H'=>Qv .non H',rt:=Qv } (start N vs) H:=by
 obtain⟨x,dx,rp,pp,rs,ds,us,Q,rfl,sm,S,i,re,hs,fin⟩:=h;have hl:=re.length;obtain⟨n1,n2,n3⟩:=S.ne;have ho:qA (ve rp pp H) [rp,pp] H=H:=funext λc=>by unfold qA ve;split<;>simp_all
 refine⟨ve rp pp H,b8 N.length x (kR K P w C true rs) ds,[rp,pp],{ nx:=λ_=>False,rt:=R3 (kR K P w C) x Q },⟨?_,⟨λc o z=>?_,λc ys z=>?_⟩,by simp[n3],λc hc=>?_⟩,hp x rs ds Q hs,?_,?_,?_,?_,λ_ _ _ _=>trivial⟩
 ·unfold b8 start;rw[hl];exact .ob (As:=[rp,pp]) ⟨sm,dx,rp,pp,by rw[ho];exact S,by rw[ho];exact i,rfl⟩ ((SR.start re).hX (bt.refl _) λa h=>nomatch h)
 ·unfold ve at z;split at z
  ·cases z
  ·exact z
 ·obtain⟨bs,b1,_⟩:=S.rows;obtain⟨xs,_,a2,_⟩:=S.places;rw[uv (λe=>by rw[e,b1] at z;cases z) λe=>by rw[e,a2] at z;cases z];exact z
 ·unfold ve;rw[if_pos (by simpa using hc)]
 ·exact λb9 H' ax bT cv s sr q=>q.elim
 ·exact λb9 H' ax bT cv s sr q=>q.elim
 ·exact λb9 H' ax bT cv s sr q=>q.elim
 ·rintro v H' ax m d As s wf r nd own ⟨fI,k,rfl,rfl,q⟩;obtain⟨r,sm',dx',rp',pp',S',i',eA⟩:=r;cases r;have hx:=dC wf _ _ i';have kp:∀ c o,c≠rp->c≠pp->H c=some o->H' c=some o:=λc o h1 h2 z=>wf.sub _ _ (s _ _ (by rw[uv h1 h2];exact z));rw[kp x _ n1 n2 i] at hx;cases hx;exact fin H' fI k sm' (S'.near (iB (dC wf))) kp q
def bt'.mk{st:h8}(F:sM K x qual st f fd)(N:List Str)(n k:Nat)(hp:∀ a rs ds Q,sp rs ds Q->t { nx:=λ_=>False,rt:=R3 (kR K P w C) a Q } (b8 N.length a (kR K P w C true rs) ds)) (hb:∀ {dk} {A} {outer} {s} {H} {E},{_:iN k (A.deeper (pz qual (eW st) s.heap.objs.size f dk))}->{_:(A.deeper (pz qual (eW st) s.heap.objs.size f dk)).units+64<fA}->{_:N.Nodup} -> {_:(rV iA P w K mg base N qual (eW st) f dk A outer s H E).tT.env.scope=eW st/\(rV iA P w K mg base N qual (eW st) f dk A outer s H E).tT.N=N}->x8 (rV iA P w K mg base N qual (eW st) f dk A outer s H E).tT K L0 (mP st) t) (S:A6 N (N.take n) (eW st):=by exact⟨rfl,rfl,rfl,by decide +kernel,rfl,by decide +kernel,by decide +kernel⟩) (hl:autoParam ((N.take n).length=n) bv) (len:∀ rs ds Q,sp rs ds Q->ds.length+1=n:=by intro rs ds Q h;(repeat obtain⟨_,h⟩:=h);subst_vars;rfl):ki P w K mg base iA (k+1) f fd (N.take n) (dF K P w C sp) :=
 F.ok S (λvs H Q E ⟨x,dx,rp,pp,rs,ds,us,Q',e,_,_,_,re,hs,_⟩=>by rw[e,k8,<- re.length];exact(len rs ds Q' hs).trans hl.symm) λdk A outer s H vs Q E hr hs=>⟨_,@hb _ _ _ _ _ _ hr hr.units S.nd ⟨rfl,rfl⟩,vU hs hp⟩
def bt'.VA{x:Str}{st:h8}{f:ai}{fd:qE}{k n:Nat}{N:List Str}(m:mg x=some (.ref f))(F:sM K x x st f fd)(G:ki P w K mg base iA k f fd (N.take n) (dF K P w C sp))(bi:∀ kV doc pm an dk ct us,us.length=(N.take n).length->bindArgs (sD x x (wa st) (mP st) (eW st) .none kV doc pm an dk ct) ⟨us,[]⟩=pure ((N.take n).zip us):=by
   intro _ _ _ _ _ _ us h;iterate 13 all_goals rcases us with _|⟨_,us⟩<;>first|rfl|(simp at h;done)|skip):Ru P w K mg base k x (N.take n) (dF K P w C sp):=F.VA m G bi
def SR.apart{p:OB}{i j:Nat}(s:SR K Hs H ρ σ ah)(n:ah.Nodup)(ei:ρ[i]? = some (some (.ob a p)))(ej:ρ[j]? = some (some (.ow fl d))):∃ v As Bs,σ[j]? = some (some v)/\cc K Hs H fl d v Bs/\p.is Hs H a As/\∀ b∈As,b∉Bs:=by
 obtain⟨F,f,_,k⟩:=s.all;obtain⟨_,e1,h1⟩:=f i _ ei;obtain⟨_,e2,h2⟩:=f j _ ej;have k:=k n i j λz=>by subst z;rw[ei] at ej;cases ej
 generalize F i=A at h1 k;generalize F j=B at h2 k
 cases h1 with
 |ob r=>cases h2 with
  |ow _ q=>exact⟨_,_,_,e2,q,r,k⟩
end
abbrev EZ:=Env->(List D->Prop)->Prop
def Ww(K:aC)(Hs H:Hp)(ρ:Env)(σ:St)(rp pp:ai):Prop:=∀ (j:Nat) fl d,ρ[j]? = some (some (.ow fl d))->∃ v Bs,σ[j]? = some (some v)/\cc K Hs H fl d v Bs/\rp∉Bs/\pp∉Bs
def ff'(K:aC)(t:EZ):TA:=λσ H Qv=>∃ Hs ρ ah Q rp pp,dv K Hs ρ σ H ah/\rp∈ah/\pp∈ah/\Ww K Hs H ρ σ rp pp/\t ρ Q/\∀ vs H' ax ds,fk Hs H ax H'->bS K (ve rp pp H') ds vs->Q ds->Qv vs H'
abbrev Pl(X:Cx)(K:aC)(es:List Expr)(t:EZ):Prop:=PA X es (ff' K t)
def sJ:EZ:=λ_ Q=>Q []
def jP(te:WE)(t:EZ):EZ:=λρ Q=>te ρ λm d=>GY (m,d)=true/\t ρ λds=>Q (d :: ds)
def R4:Option (Option Sl)->(D->Prop)->Prop
 |some (some (.sh d)),q=>q d
 |some (some (.ow _ d)),q=>q d
 |_,_=>False
def iK(j:Nat)(t:EZ):EZ:=λρ Q=>R4 ρ[j]? λd=>t ρ λds=>Q (d :: ds)
def iI(SP:vb)(i:Nat)(sp:O0)(t:EZ):DH:=λρ Q=>∃ a rs,ρ[i]? = some (some (.ob a (SP true rs)))/\t ρ λds=>sp rs ds λfI k=>Q .sh (.int k) (ρ.set i (some (.ob a (SP true fI))))
def bu'(tc:WT)(ta tb:DH):DH:=λρ Q=>tc ρ λb=>if b=true then ta ρ Q else tb ρ Q
def zp(SP:vb)(i:Nat)(t:DH):WS:=λE ρ=>t ρ λ_ d bT=>∃ a rs,bT[i]? = some (some (.ob a (SP true rs)))/\E.rt (.wb a (SP true rs)) d
def Ie(j:Nat)(t:DH):WS:=λE ρ=>t ρ λ_ d bT=>d.flat=true/\E.nx (bT.set j (some (.sh d)))
section
variable {X:Cx}{K:aC}{L:Str->Hp->Prop}{C:ai}{e e0 a b c:Expr}{es:List Expr}{te:WE}{t:EZ}{tz ta tb:DH}{tc:WT}{i j k:Nat}{pos apos p:Pos}{f:ai}{fd:qE}{ps:List Str}{sp:O0}{m:Str}
def Ww.grow(h:Ww K Hs H ρ σ rp pp)(g:fk Hs H ax H'):Ww K ax H' ρ σ rp pp:=λj fl d e =>
 let ⟨v,Bs,e1,r,n⟩:=h j fl d e
 ⟨v,Bs,e1,cc.grow g.sh g.all r,n⟩
def cc.Wd(r:cc K Hs H fl d v Bs)(s:bt Hs (ve rp pp H))(n1:rp∉Bs)(n2:pp∉Bs):Rep K (ve rp pp H) d v:=cc.rep s r λa h=>uv (λz=>n1 (z ▸ h)) λz=>n2 (z ▸ h)
def t6:Pl X K [] sJ:=PA.imp t5 λσ H Qv hx=>by obtain⟨Hs,ρ,ah,Q,rp,pp,sr,mr,mp,ap,h,f⟩:=hx;exact f [] H Hs [] (fk.refl sr.wf) .nil h
def g8(h0:PE X e (kg j))(hr:Pl X K es t)(hs:autoParam (aQ X e es) bv):Pl X K (e :: es) (iK j t):=PA.imp (nI h0 hr hs) λσ H Qv hx=>by
 obtain⟨Hs,ρ,ah,Q,rp,pp,sr,mr,mp,ap,h,f⟩:=hx;have sub:∀ {ax H'},fk Hs H ax H'->bt ax (ve rp pp H'):=λg=>zX g.wf.sub ((sr.grow g).own _ mr) ((sr.grow g).own _ mp);have h:R4 ρ[j]? λd=>t ρ λds=>Q (d :: ds):=h;unfold R4 at h;split at h
 ·rename_i d e;obtain⟨v,ev,r⟩:=sr.sr.get e;exact⟨v,ev,Hs,ρ,ah,_,rp,pp,sr,mr,mp,ap,h,λvs H' ax ds g rs q=>f (v :: vs) H' ax (d :: ds) g (.cons (Rep.same (g.sh.trans (sub g)) r) rs) q⟩
 ·rename_i fl d e;obtain⟨v,Bs,ev,r,n1,n2⟩:=ap _ _ _ e;exact⟨v,ev,Hs,ρ,ah,_,rp,pp,sr,mr,mp,ap,h,λvs H' ax ds g rs q=>f (v :: vs) H' ax (d :: ds) g (.cons ((cc.grow g.sh g.all r).Wd (sub g) n1 n2) rs) q⟩
 ·exact h.elim
def pA(ha:QE X K e te)(hr:Pl X K es t)(hs:autoParam (aQ X e es) bv):Pl X K (e :: es) (jP te t):=PA.imp (nI ha hr hs) λσ H Qv hx=>by
 obtain⟨Hs,ρ,ah,Q,rp,pp,sr,mr,mp,ap,h,f⟩:=hx;refine⟨Hs,ρ,ah,_,sr,h,λv H1 bq m d As g1 r1 f1 q1=>⟨bq,ρ,ah,_,rp,pp,sr.grow g1,mr,mp,ap.grow g1,q1.2,λvs H' ax ds g rs q=>f (v :: vs) H' ax (d :: ds) (g1.trans g) (.cons ?_ rs) q⟩⟩;have sub:bt ax (ve rp pp H'):=zX g.wf.sub (((sr.grow g1).grow g).own _ mr) (((sr.grow g1).grow g).own _ mp);have r2:=r1.grow g;have fl:d.flat=true->Rep K (ve rp pp H') d v:=λz=>(r2.flat g.wf z).same sub;have q0:=q1.1;have nn:∀ b∈ah,b∉As:=λb hb z=>(sr.sr.own b hb).ne (f1.2 b z).2
 cases m with
 |sh=>exact r2.2.same sub
 |ow b=>exact r2.1.Wd sub (nn _ mr) (nn _ mp)
 |bo=>exact fl q0
 |wb=>exact fl q0
def Iw{bq H1 H':Hp}{ρ:Env}{σ:St}{ah:List ai}{a dx rp pp:ai}{rs:List (List RI)}(sr:dv K bq ρ σ H1 ah)(S:cj K X.prog X.w H' a dx rp pp rs)(mr:rp∈ah)(mp:pp∈ah)(kp:∀ c o,c≠rp->c≠pp->H1 c=some o->H' c=some o):bt bq (DL bq H')/\Wf (DL bq H') H'/\(∀ b∈ah,b≠rp->b≠pp->H' b=H1 b)/\∀ b∈ah,DL bq H' b=none:=by
 have kk:∀ b∈ah,b≠rp->b≠pp->H' b=H1 b:=λb hb h1 h2=>by obtain⟨o,q,_⟩:=sr.sr.own b hb;rw[q];exact kp b o h1 h2 q
 obtain⟨s2,w2,nt⟩:=Gh λc o q=>kp c o (λz=>by rw[z,sr.own _ mr] at q;cases q) (λz=>by rw[z,sr.own _ mp] at q;cases q) (sr.wf.sub c o q);refine⟨s2,w2,kk,λb hb=>?_⟩;rw[nt b λvs z=>?_]
 ·exact sr.own b hb
 ·by_cases m:b∈[rp,pp]
  ·obtain⟨o,z2,_,n⟩:=S.at b (.tail _ (.tail _ m));rw[z] at z2;cases z2;exact n vs rfl
  ·simp only[eu,vw,or_false,not_or] at m;rw[kk b hb m.1 m.2] at z;exact(sr.sr.own b hb).xq z
def Jp (hx:EL K (iI (kR K X.prog X.w C) i sp t) σ H Qv):∃ x dx rp pp,σ[i]? = some (some (.ref x))/\H x=some (.ins C dx [("rows",.ref rp),("places",.ref pp)])/\∀ G:List V->Hp->Prop,(∀ vs H1,dF K X.prog X.w C sp (.ref x :: vs) H1 Qv E0->G vs H1)->ff' K t σ H G:=by
 obtain⟨Hs,ρ,ah,Q,sr,⟨a,rs,ea,h⟩,f⟩:=hx;obtain⟨dx,rp,pp,e1,sm,S,ins,mr,mp,_⟩:=sr.JS i ea;refine⟨a,dx,rp,pp,e1,ins,λG hG=>⟨Hs,ρ,ah,_,rp,pp,sr,mr,mp,λj fl d ej=>?_,h,λvs H1 bq ds g r q=>hG vs H1 ?_⟩⟩
 ·obtain⟨v,As,Bs,ev,r,⟨_,dx',rp',pp',S',i',eA⟩,n⟩:=sr.sr.apart sr.oz ea ej;have hx:=dC sr.wf _ _ i';rw[ins] at hx;cases hx;rw[eA] at n;exact⟨v,Bs,ev,r,n _ (by simp),n _ (by simp)⟩
 ·have sR:=sr.grow g;obtain⟨dx1,rp1,pp1,_,sm1,S1,fg',mr1,mp1,g3⟩:=sR.JS i ea;have e:=(g.all _ _ ins).symm.trans fg';cases e;refine⟨a,dx,rp,pp,rs,ds,vs,_,rfl,sm,S1,fg',r,q,λH' fI k sm' S' kp q=>?_⟩;obtain⟨s2,w2,kk,nn⟩:=Iw sR S' mr mp kp;exact f _ H' _ .sh (.int k) [] _ ah (g.sh.trans s2) (g3 _ H' fI s2 w2 sm' S' kk nn) ⟨rfl,.int k⟩ q
def tE(h0:PE X e0 (kg i))(c:vS X.K C)(hm:Meth X.K C m f)(F:ki X.prog X.w X.K X.mg X.base iA k f fd ps (dF K X.prog X.w C sp))(hr:iN k X.A)(hb:Binds X.K fd ps [])(ha:Pl X K (e :: es) t)(hK:autoParam (X.K=K) bv) (hn:(m == ("rows" : Str))=false/\(m == ("places" : Str))=false:=by decide +kernel) (rh:autoParam (aQ X e es) bv) (mN:autoParam (bR X pos es) bv) (ht:autoParam (dE (.Call (.Attribute e0 m apos) (e :: es) [] pos) X.env=(do
   let ov ← eval e0 X.env
   standAt apos.atName
   let (f,first) ← holding [ov] (getMethod ov m pl)
   callWith pos f first (backTo pos (g7 (e :: es) X.env)) (backToKw pos (E5 [] X.env)))) bv):PE X (.Call (.Attribute e0 m apos) (e :: es) [] pos) (EL K (iI (kR K X.prog X.w C) i sp t)):=by
 refine PE.imp (cH' h0 c hm F hr hb (.nil) Vr ha rh mN ht) λσ H Qv hx=>?_;obtain⟨x,dx,rp,pp,e1,i1,h⟩:=Jp hx;exact⟨_,e1,x,dx,_,rfl,i1,by simp[List.lookup,hn.1,hn.2],h _ λvs H1 q=>by
  rw[tJ];exact q⟩
def Ez(G:Ru X.prog X.w X.K X.mg X.base k x ps (dF K X.prog X.w C sp))(h0:PE X e (kg i))(ha:Pl X K es t)(hr:iN k X.A)(hK:autoParam (X.K=K) bv)(hg:autoParam (Gl X x) bv)(rS:cM x:=by decide)(he:autoParam (aQ X e es) bv) (mN:autoParam (bR X pos es) bv):PE X (.Call (.Name x p) (e :: es) [] pos) (EL K (iI (kR K X.prog X.w C) i sp t)):=by
 refine PE.imp (DG G hr (nI h0 ha he) hg rS he mN) λσ H Qv hx=>?_;obtain⟨x,dx,rp,pp,e1,i1,h⟩:=Jp hx;exact⟨_,e1,h _ λvs H1 q=>by
  show dF _ _ _ _ _ (.ref x :: vs++[]) _ _ _;rw[tJ];exact q⟩
def LK(hc:QT X K c tc)(ha:PE X a (EL K ta))(hb:PE X b (EL K tb)):PE X (.IfExp c a b pos) (EL K (bu' tc ta tb)):=PE.imp (cc' hc ha hb) λσ H Qv hx=>by
 obtain⟨Hs,ρ,ah,Q,sr,h,f⟩:=hx;refine⟨Hs,ρ,ah,_,sr,h,λb H1 bq g q=>?_⟩
 cases b with
 |true=>exact⟨bq,ρ,ah,_,sr.grow g,q,λv H' ax m d As bT cv s=>f v H' ax m d As bT cv (g.sh.trans s)⟩
 |false=>exact⟨bq,ρ,ah,_,sr.grow g,q,λv H' ax m d As bT cv s=>f v H' ax m d As bT cv (g.sh.trans s)⟩
def Aa(i:Nat)(he:PE X e (EL K tz))(hK:autoParam (X.K=K) bv):QS X K L (.Return (some e) pos) (zp (kR K X.prog X.w C) i tz) :=
 PS.imp (S5 he) λD σ H hx=>cD hx λHs ρ ah E' sr h k1 k2 k3 k4=>⟨Hs,ρ,ah,_,sr,h,λv H1 bq m d As bT cv s1 sR r1 q=>by
  obtain⟨a,rs,e,q⟩:=q;obtain⟨Cs,_,is,sb,_⟩:=SR.bg' i sR.sr e sR.oz;exact k4 v H1 bq (.wb a _) d Cs s1 sR.wf ⟨r1.rep sR.wf,is⟩ (sb.nodup sR.oz) (λb h=>sR.own b (sb.subset h)) q⟩
def F_(j:Nat)(he:PE X e (EL K tz))(hs:autoParam (nS e (some (.Name y pos')) pos.line X.env=pure false) bv)(hf:lD X y:=by first|exact .inl rfl|exact .inr rfl|assumption)(hN:X.N.Nodup:=by assumption)(hi:autoParam (X.N[j]? = some y) bv)(hy:Loc X.env.scope y:=by first|exact .inl rfl|exact .inr rfl) :
  QS X K L (.Assign [.Name y pos'] e pos) (Ie j tz) :=
 PS.imp (ZE hN hi hy he hs hf) λD σ H hx=>cD hx λHs ρ ah E' sr h k1 k2 k3 k4=>⟨Hs,ρ,ah,_,sr,h,λv H1 bq m d As bT cv s1 sR r1 q=>by
  obtain⟨t,s⟩:=sR.set j (m:=.sh) ⟨rfl,r1.flat sR.wf q.1⟩ mI (λa h=>nomatch h) rfl;exact k1 _ H1 bq _ t s1 s q.2⟩
end
end L2.Q
end
namespace L2.Q.R
open L2.Q PySem
section
variable {Qz:Md->L2.Q.D->L2.Q.Env->Prop}{Qw:List L2.Q.D->Prop}{ρ:L2.Q.Env}{E:jG}{te tk:WE}{tz ta tb:DH}{t:EZ}{tc:WT}{i j:Nat}{SP:vb}{pw:WP}
def Qk:V7 te ρ Qz=te ρ λm d=>cy (m,d) (f:=λp=>Qz p.1 p.2 ρ) ⟨⟩:=rfl
def Od:sJ ρ Qw=Qw []:=rfl
def Mj:jP te t ρ Qw=te ρ λm d=>cy (m,d) (f:=λp=>GY p=true/\t ρ λds=>Qw (p.2 :: ds)) ⟨⟩:=rfl
def Lq:iK j t ρ Qw=R4 ρ[j]? λd=>t ρ λds=>Qw (d :: ds):=rfl
def O6:R4 (some (some (.sh d))) q=q d:=rfl
def Py:R4 (some (some (.ow b d))) q=q d:=rfl
def Q5:bu' tc ta tb ρ Qz=tc ρ λb=>cy b (f:=λb=>if b=true then ta ρ Qz else tb ρ Qz) ⟨⟩:=rfl
def N5:zp SP i tz E ρ=tz ρ λ_ d bT=>cy d (f:=λd=>∃ a rs,bT[i]? = some (some (.ob a (SP true rs)))/\E.rt (.wb a (SP true rs)) d) ⟨⟩:=rfl
def O1:Ie j tz E ρ=tz ρ λ_ d bT=>cy d (f:=λd=>d.flat=true/\E.nx (bT.set j (some (.sh d)))) ⟨⟩:=rfl
def MT:uJ pw tk tz E ρ=tz ρ λ_ x ρ=>cy x (f:=λx=>pw ρ λfl d up=>tk ρ λ_ y=>x.flat=true/\cy d (f:=λd=>dct d y (λkvs=>∃ k,y.key1=some k/\kvs.length<bG/\E.nx (up fl (.dK (k5 kvs k x)))) (λkvs ys=>∃ ks,cW ys=some ks/\kvs.length<bG/\E.nx (up fl (.dT (k5 kvs ks x))))) ⟨⟩) ⟨⟩:=by rfl
end
end L2.Q.R
section
open PySem PySem.Spec PyProof.Rows
namespace L2.Q
section
variable {X:Cx}{K:aC}
def xO:dP X (gI .IsNot) (λx y H Q=>∃ i j,x=.bl i/\y=.bl j/\Q (.bl (!(i == j))) H):=by intro pins s σ H x y v u Q I rx ry h;obtain⟨i,j,rfl,rfl,q⟩:=h;cases rx;cases ry;exact isnot_bool (ja I q rfl)
def Bo:W2:=λ_ x _ y Q=>match x,y with
 |.bl i,.bl j=>Q .sh (.bl (!(i == j)))
 |_,_=>False
def yR:kQ K (λx y H Q=>∃ i j,x=.bl i/\y=.bl j/\Q (.bl (!(i == j))) H) Bo:=by
 walk_at"a";have r1:=rx.rep w;have r2:=ry.rep w
 cases r1 with
 |bl i=>cases r2 with
  |bl j=>exact⟨i,j,rfl,rfl,f.sh w (.bl _) h⟩
  |_=>exact h.elim
 |_=>exact h.elim
end
namespace R
def Oj{m m':Md}{i j:Bool}{Q:Md->L2.Q.D->Prop}:Bo m (.bl i) m' (.bl j) Q=Q .sh (.bl (!(i == j))):=rfl
end R
end L2.Q
end
local macro_rules | `(tactic| walk_at "q") => do
 let nm (s:String):Lean.Ident:=Lean.mkIdent ((s.splitOn ".").foldl Lean.Name.mkStr .anonymous)
 let ds ← ("Qk Od Mj Lq O6 Py Q5 N5 O1 MT Q3 PQ O_ Lk Og QD Qy MK Ld Pk O5 O7 PB Pj QH Ow Oz O4 mU' PN Px Qt Ox O9 Qp Oq Qm Rc QL mB' Qi Q_ Q4 O2 Oe PJ Rf QZ Mv Oo Pz JB Nu Lb Lp Qu N8 wB_ Rh QF Q9 lD' QV Qn Mi Ma wC_ lF' lG' Mt OD QR Oa lH' Qe Rg QX Ql Ob LC Ls Mq Mh NK Mf Lz Qc Ou Pn PX N7 Ot Rb Ml O8 Pq Pb Oi Om Oc Iu Oj O3 Qg Q0 QB Qx Qo QK Qj Q6 Pu Ol P_ QC NB Li lI' K_ Qa Ph QQ Q8 Ov Lw lJ' Lf Qq M7 Lh Ra Qh PL Q7 Lj N6 Oh M6 La K9 gN_ gT_ Pg Qf N_ lM' Nh Lx Mz Pa QJ OJ P0".splitOn " ").toArray.mapM fun s=>`(Lean.Parser.Tactic.simpLemma| ↓$(nm ("L2.Q.R." ++ s)):ident)
 let us ← ("L2.Q.mvE L2.Q.mvV L2.Q.V9 L2.Q.mu' L2.Q.rK L2.Q.FN L2.Q.DB L2.Q.GY L2.Q.TY L2.Q.OL L2.Q.Lg L2.Q.T1 L2.Q.shS L2.Q.V3 L2.Q.mF L2.Q.Hw L2.Q.asg L2.Q.ua L2.Q.tY L2.Q.D.flat L2.Q.dQ L2.Q.D.V0 L2.Q.D.ty L2.Q.VX L2.Q.D.key1 L2.Q.cW L2.Q.tK L2.Q.xm List.length_map List.map_cons List.map_nil List.length_cons List.length_nil List.replicate_succ List.replicate_zero List.cons_append List.nil_append List.append_nil List.getElem?_cons_zero List.getElem?_cons_succ List.getElem?_nil List.set_cons_zero List.set_cons_succ List.all_cons List.all_nil Option.some.injEq Option.join_some Option.map_some Option.map_none Nat.reduceAdd Nat.reduceSub true_and and_true Bool.and_true Bool.true_and Bool.and_false Bool.false_and Bool.not_true Bool.not_false Bool.false_eq_true if_true if_false decide_true decide_false reduceIte cond_true cond_false PySem.sizeLine_eq L2.Q.lz' L2.Q.lA' L2.Q.lB' L2.Q.bW L2.Q.JK L2.Q.empty_app Nat.zero_add exists_eq_left' Int.reduceLT Int.reduceLE Int.reducePow Int.reduceNeg Int.reduceToNat Int.reduceAdd Int.reduceMul Int.reduceSub Nat.reduceLeDiff Nat.reduceLT false_or or_false and_self L2.Qs".splitOn " ").toArray.mapM fun s=>`(Lean.Parser.Tactic.simpLemma| $(nm s):ident)
 let as:Lean.TSyntaxArray [`Lean.Parser.Tactic.simpStar,`Lean.Parser.Tactic.simpErase,`Lean.Parser.Tactic.simpLemma]:=(ds++us).map fun x=>⟨x.raw⟩
 `(tactic| simp -dsimp only [$as,*])
section
open PySem PySem.Spec PyProof.Rows
namespace L2.Q.Wx
def small(h:n<=10000):n<=bG:=kE h (by decide)
def DW(h:n<=10000):n<bG:=xdx h (by decide)
def isLet(c:Nat):Bool:=decide (97<=c/\c<=122)
abbrev abc:Str := "abcdefghijklmnopqrstuvwxyz"
def uH:sg abc=(List.range 26).map (97 + ·):=by decide +kernel
def J3(h0:0<=i)(h1:i<26):∃ c,gi (sg abc) i=some c/\isLet c=true:=by
 refine⟨97+i.toNat,?_,?_⟩
 ·have:gi (sg abc) i.toNat=some (97+i.toNat):=FI (by
   rw[uH];have:i.toNat<26:=by lia
   simp[this])
  rwa[qV h0] at this
 ·simp[isLet];lia
def xR(x:Int):∃ c,gi (sg abc) (x % 26)=some c/\isLet c=true:=J3 (Int.emod_nonneg _ (by decide)) (Zk _ (by decide))
def lets(x:Str):Prop:=∀ c∈sg x,isLet c=true
def Open(x:Str):Prop:=1<=x.length/\x.length<=6/\lets x
def xi (x:Str):Prop:=x = "*"\/Open x
def pD(hx:lets x)(hy:lets y):lets (x++y):=λc hc=>by rw[Dt] at hc;exact(hJ.mp hc).elim (hx c) (hy c)
def ju(h:isLet c=true):lets ⟨#[c]⟩:=λd hd=>by
 have:d=c:=by simpa[sg] using hd
 rw[this];exact h
def BW(h:lets x)(lo hi:Option Int):lets (zo x lo hi):=λc hc=>by exact h c (Si (P5 hc))
def aV(c:Nat):(⟨#[c]⟩:Str).length=1:=rfl
def xi.ok(h:xi x):PyData.strOk x=true:=by
 rw[Fo];rcases h with rfl|h
 ·have:sg "*" = [42]:=by decide +kernel
  intro c hc;rw[this] at hc;have:c=42:=by simpa using hc
  lia
 ·intro c hc;have:=h.2.2 c hc;simp[isLet] at this;lia
abbrev dy:=Int × Str × Int
def vi(s:dy):List Key:=[.inl s.1,.inr s.2.1,.inl s.2.2]
def yy(s:dy):D:=.tup [.int s.1,.str s.2.1,.int s.2.2]
def mD(many:Int)(steps:List dy):D:=.tup [.int many,.list (steps.map yy)]
def Wy(many:Int)(s:dy):Prop:=0<=s.1/\s.1<many/\xi s.2.1/\0<=s.2.2/\s.2.2<many
def Jt(n:Nat)(h:Wy many s):gu (n+1) (yy s)=true:=by have:=h.2.2.1.ok;simp[gu,yy,this]
def Nz{many:Int}{l:List dy}(n:Nat)(h:∀ s∈l,Wy many s):gu (n+2) (.list (l.map yy))=true:=by simp only[gu,L9,yT];intro s hs;exact Jt n (h s hs)
def ltP(s t:dy):Bool:=kG (vi s) (vi t)
theorem zZ{P:dy->Prop}:∀ {ks:List (List Key)},(∀ k∈ks,∃ s,k=vi s/\P s)->∃ l:List dy,ks=l.map vi/\∀ s∈l,P s
 |[],_=>⟨[],rfl,λs h=>nomatch h⟩
 |k :: ks,h=>by
  obtain⟨s,rfl,p⟩:=h k eh;obtain⟨l,rfl,q⟩:=zZ λk hk=>h k (eI _ hk);refine⟨s :: l,rfl,λt ht=>?_⟩;rcases eu.mp ht with rfl|ht
  ·exact p
  ·exact q t ht
abbrev Kn:=List (List Key × D)
def DM(P:dy->Prop)(kvs:Kn):Prop:=(∀ p∈kvs,∃ s,p.1=vi s/\P s)/\(kvs.map (·.1)).Nodup
def Ad{κ β:Type}[DecidableEq κ](kvs:List (κ × β))(k:κ)(v:β):(k5 kvs k v).map (·.1)=if k∈kvs.map (·.1) then kvs.map (·.1) else kvs.map (·.1)++[k]:=by
 unfold k5;by_cases h:k∈kvs.map (·.1)
 ·have:(kvs.any λkv=>decide (kv.1=k))=true:=by obtain⟨p,hp,e⟩:=c9.mp h;exact Fc.mpr ⟨p,hp,decide_eq_true e⟩
  rw[if_pos this,if_pos h,fE];apply D2;intro p _;show(if p.1=k then (p.1,v) else p).1=p.1;split<;>rfl
 ·grind
def DM.put{P:dy->Prop}(h:DM P kvs)(hs:P s):DM P (k5 kvs (vi s) d):=by
 refine⟨λp hp=>?_,?_⟩
 ·rcases oK hp with e|e
  ·exact⟨s,e,hs⟩
  ·obtain⟨q,hq,e⟩:=c9.mp e;rw[<- e];exact h.1 q hq
 ·rw[Ad];split
  ·exact h.2
  ·rename_i hn;exact pj.mpr ⟨h.2,by simp,λa ha b hb e=>by
    have:b=vi s:=by simpa using hb
    subst this;subst e;exact hn ha⟩
def DM.nil{P:dy->Prop}:DM P []:=⟨(λp hp=>nomatch hp),mI⟩
def DM.sorted{P:dy->Prop}(h:DM P kvs)(k:∀ steps:List dy,(steps.map vi).Perm (kvs.map (·.1))->(∀ s∈steps,P s)->steps.Pairwise (λa b=>ltP a b=true)->steps.length=kvs.length->Q (.ow true) (.list (steps.map yy))) :
  tK (.ow true) (.list (kvs.map λkv=>.tup (kv.1.map iO))) Q:=by
 refine⟨kvs.map (·.1),[false,true],by rw[fE];rfl,λk hk=>?_,λms pm pw=>?_⟩
 ·obtain⟨p,hp,rfl⟩:=c9.mp hk;obtain⟨s,e,_⟩:=h.1 p hp;rw[e];rfl
 ·obtain⟨l,rfl,hl⟩:=zZ λk hk=>by obtain⟨p,hp,e⟩:=c9.mp (pm.mem_iff.mp hk);rw[<- e];exact h.1 p hp
  have e:(l.map vi).map yi=l.map yy:=by rw[fE];rfl
  rw[e];refine k l pm hl ?_ (by have:=pm.length_eq;simpa using this);have nd:(l.map vi).Nodup:=pm.nodup_iff.mpr h.2;rw[vv] at pw;have OY:l.Pairwise λa b=>vi a≠vi b:=by rw[List.Nodup,vv] at nd;exact nd
  refine(pw.and OY).imp λ{a b} ⟨h1,h2⟩=>?_;unfold ltP
  cases h3:kG (vi a) (vi b) with
  |true=>rfl
  |false=>exact absurd (sX (a:=vi a) (b:=vi b) rfl h3 h1) h2
theorem aX:∀ (l:List Int),dQ (l.map D.int)=true
 |[]=>rfl
 |x :: l=>by simp[dQ,aX l,D.flat]
def kO{lo:Int}(h:(iu lo n)[i]? = some x):i<n/\x=.int (lo+(i:Nat)):=by
 unfold iu at h;rw[g9] at h;by_cases hi:i<n
 ·grind
 ·rw[B6 (by simpa using hi)] at h;cases h
def jt(lo:Int)(n:Nat):(iu lo n).length=n:=by simp[iu]
def jw{lo:Int}(h:x∈iu lo n):∃ i:Nat,i<n/\x=.int (lo+i):=by obtain⟨i,hi⟩:=z0.mp h;exact⟨i,kO hi⟩
def FJ{names:List Str}{i:Int}(h0:0<=i)(h1:i<names.length):∃ n,n∈names/\gi (names.map D.str) i=some (.str n):=by
 have hn:i.toNat<names.length:=by lia
 refine⟨names[i.toNat],L6 hn,?_⟩;have:=FI (xs:=names.map D.str) (j:=i.toNat) (v:=.str names[i.toNat]) (by simp[hn]);rwa[qV h0] at this
def name_mod{names:List Str}(x:Int)(h:1<=names.length):∃ n,n∈names/\gi (names.map D.str) (x % (names.length:Int))=some (.str n) :=
 FJ (Int.emod_nonneg _ (by lia)) (Zk _ (by lia))
def ug(l:List Int)(lo hi:Option Int):kK (l.map D.int) lo hi=(kK l lo hi).map D.int:=by unfold kK;rw[b4,List.map_take,List.map_drop]
def GD{l:List Int}{i:Nat}{x:D}(h:(l.map D.int)[i]? = some x):∃ c,c∈l/\x=.int c:=by grind
def vh{n d:Nat}{k:Int}(h0:0<=k)(h1:k<=n):HT.cS n d (some k)=k.toNat:=by simp only[HT.cS];rw[if_neg (by lia)];lia
theorem dR{α:Type}[DecidableEq α]:∀ {l m:List α},l.Nodup->(∀ x∈l,x∈m)->l.length<=m.length
 |[],_,_,_=>f7 _
 |x :: l,m,nd,h=>by obtain⟨hx,nd⟩:=ny.mp nd;have hm:=h x eh;have:=dR nd λy hy=>(List.mem_erase_of_ne (λe=>by subst e;exact hx hy)).mpr (h y (eI _ hy));rw[List.length_erase_of_mem hm] at this;have:=Sf hm;simp only[k8];lia
def aR(n:Nat):List Int:=(List.range n).map λi=>((i:Nat):Int)
def c7(n:Nat):(aR n).length=n:=by simp[aR]
def h_:x∈aR n↔0<=x/\x<n:=by
 unfold aR;rw[c9];constructor
 ·rintro⟨i,hi,rfl⟩;have:=y6.mp hi;lia
 ·intro ⟨h0,h1⟩;exact⟨x.toNat,y6.mpr (by lia),by lia⟩
theorem zb:∀ {l m:List Int},l.Pairwise (· < ·)->m.Pairwise (· < ·)->(∀ x,x∈l↔x∈m)->l=m
 |[],[],_,_,_=>rfl
 |[],y :: m,_,_,h=>absurd ((h y).mpr eh) (by simp)
 |x :: l,[],_,_,h=>absurd ((h x).mp eh) (by simp)
 |x :: l,y :: m,hl,hm,h=>by
  obtain⟨a1,a2⟩:=List.pairwise_cons.mp hl;obtain⟨b1,b2⟩:=List.pairwise_cons.mp hm;have e:x=y:=by
   rcases eu.mp ((h x).mp eh) with e|e
   ·exact e
   ·rcases eu.mp ((h y).mpr eh) with e'|e'
    ·exact e'.symm
    ·have:=b1 x e;have:=a1 y e';lia
  subst e;rw[zb a2 b2 λz=>⟨λhz=>by
   rcases eu.mp ((h z).mp (eI _ hz)) with e|e
   ·subst e;exact absurd (a1 z hz) (by lia)
   ·exact e,λhz=>by
   rcases eu.mp ((h z).mpr (eI _ hz)) with e|e
   ·subst e;exact absurd (b1 z hz) (by lia)
   ·exact e⟩]
def Bg{l:List Int}(h:l.Pairwise (· < ·)):l.Nodup:=h.imp λh=>by lia
def qB(many:Int)(steps:List dy):Prop:=∀ s∈steps,Wy many s
def zE{ks:List Int}{x:Int}:((Sum.inl x:Key)∈ks.map λx=>(Sum.inl x:Key))↔x∈ks:=by grind
def GC{κ β:Type}[DecidableEq κ]{kvs:List (κ × β)}{k:κ}:(kvs.any λkv=>decide (kv.1=k))=true↔k∈kvs.map (·.1):=by grind
theorem tD{κ β:Type}[DecidableEq κ]:∀ {kvs:List (κ × β)} {k:κ},(dS kvs k).isSome=true↔k∈kvs.map (·.1)
 |[],k=>by simp[dS]
 |p :: kvs,k=>by
  have ih:=tD (kvs:=kvs) (k:=k);rw[gL,eu];by_cases h:p.1=k
  ·subst h;simp[dS]
  ·have:dS (p :: kvs) k=dS kvs k:=by simp[dS,h]
   rw[this,ih];exact⟨.inr,λz=>z.elim (λe=>absurd e.symm h) id⟩
abbrev Pr:=Str × Int
def LD(p:Pr):D:=.tup [.str p.1,.int p.2]
def xk(steps:List dy)(s:Int):List Pr:=(steps.filter λt=>decide (t.1=s)).map (·.2)
def zt(many:Int)(steps:List dy):List D:=(aR many.toNat).map λs=>.list ((xk steps s).map LD)
def R5(many:Int)(steps:List dy):D:=.list (zt many steps)
def Js(many:Int):((iu 0 many.toNat).filter λ_=>true).map (λ_=>D.list [])=zt many []:=by unfold zt iu aR;rw[Zb.mpr λ_ _=>rfl,fE,fE];rfl
def GF(steps:List dy)(h0:0<=s)(h1:s<many):(zt many steps)[s.toNat]? = some (.list ((xk steps s).map LD)):=by
 have:s.toNat<many.toNat:=by lia
 simp[zt,aR,this,qV h0]
def jN(many:Int)(steps:List dy):(zt many steps).length=many.toNat:=by simp[zt,aR]
def Eh{n:Nat}{i:Int}(h0:0<=i)(h1:i<n):rX n i=some i.toNat:=by unfold rX;rw[if_pos h0,if_pos h1]
def BK(steps:List dy)(p:Int)(d:Str)(r s:Int):xk (steps++[(p,d,r)]) s=if p=s then xk steps s++[(d,r)] else xk steps s:=by
 unfold xk;by_cases h:p=s
 ·simp[h]
 ·simp[h]
def Jx(steps:List dy)(d:Str)(r:Int)(h0:0<=p)(h1:p<many):(zt many steps).set p.toNat (.list ((xk steps p).map LD++[.tup [.str d,.int r]]))=zt many (steps++[(p,d,r)]):=by
 apply L5;intro i;by_cases hi:i<many.toNat
 ·have e:∀ st,(zt many st)[i]? = some (.list ((xk st i).map LD)):=λst=>by have:=GF (many:=many) (s:=i) st (by lia) (by lia);simpa using this
  rw[e,BK];by_cases hp:p=i
  ·subst hp;simp[jN,hi,LD]
  ·rw[if_neg hp,UA (by lia),e]
 ·rw[B6 (by rw[List.length_set,jN];lia),B6 (by rw[jN];lia)]
def MP{many s:Int}(steps:List dy)(h0:0<=s)(h1:s<many):gi (zt many steps) s=some (.list ((xk steps s).map LD)) :=
 Cq (Eh h0 (by rw[jN];lia)) (GF steps h0 h1)
def G6(h:p∈xk steps s):∃ t∈steps,t.1=s/\t.2=p:=by obtain⟨t,ht,e⟩:=c9.mp h;obtain⟨ht,hs⟩:=B8.mp ht;exact⟨t,ht,of_decide_eq_true hs,e⟩
def Hu(h:t∈steps):t.2∈xk steps t.1:=c9.mpr ⟨t,B8.mpr ⟨h,decide_eq_true rfl⟩,rfl⟩
def Hz(steps:List dy)(s:Int):(xk steps s).length<=steps.length:=by unfold xk;rw[b4];exact List.length_filter_le _ _
abbrev P2:=Int × Int
def ky(p:P2):List Key:=[.inl p.1,.inl p.2]
def BI(p:P2):D:=.tup [.int p.1,.int p.2]
def oV(h:ky p=ky q):p=q:=by obtain⟨a,b⟩:=p;obtain⟨c,d⟩:=q;simp only[ky,List.cons.injEq,Sum.inl.injEq,and_true] at h;rw[h.1,h.2]
theorem zz:∀ (l:List P2),dQ (l.map BI)=true
 |[]=>rfl
 |x :: l=>by simp[dQ,zz l,BI,D.flat]
def Nj{l:List P2}{i:Nat}{x:D}(h:(l.map BI)[i]? = some x):∃ p q,x=.tup [.int p,.int q]/\(p,q)∈l/\l.take (i+1)=l.take i++[(p,q)]:=by
 rw[g9] at h
 cases e:l[i]? with
 |none=>rw[e] at h;cases h
 |some s =>rw[e] at h;cases h;exact⟨s.1,s.2,rfl,nh e,by rw[vt,e];rfl⟩
def ly(many:Int)(p:P2):Prop:=(0<=p.1/\p.1<many)/\0<=p.2/\p.2<many
def qX{ks:List P2}{x:P2}:ky x∈ks.map ky↔x∈ks:=by rw[c9];exact⟨λ⟨y,hy,e⟩=>oV e ▸ hy,λh=>⟨x,h,rfl⟩⟩
def Lr{l:List Pr}{i:Nat}{x:D}(h:(l.map LD)[i]? = some x):∃ d e,x=.tup [.str d,.int e]/\(d,e)∈l/\l.take (i+1)=l.take i++[(d,e)]:=by
 rw[g9] at h
 cases e:l[i]? with
 |none=>rw[e] at h;cases h
 |some s =>rw[e] at h;cases h;exact⟨s.1,s.2,rfl,nh e,by rw[vt,e];rfl⟩
def xQ:(d,e)∈xk steps s↔(s,d,e)∈steps:=by
 constructor
 ·intro h;obtain⟨t,ht,e1,e2⟩:=G6 h;obtain⟨a,b,c⟩:=t;cases e1;cases e2;exact ht
 ·exact λh=>Hu h
def vp{α:Type}{l:List α}{i:Nat}{x:α}{P:α->Prop}(tk:l.take (i+1)=l.take i++[x])(h:∀ y∈l.take i,P y)(hx:P x):∀ y∈l.take (i+1),P y:=λy hy=>by grind
def qm(x:Int)(h:0<m):0<=x % m/\x % m<m:=⟨Int.emod_nonneg _ (by lia),Zk _ h⟩
def pO(h0:-1000<=b)(h1:b<=10000000000):M0 a b:=.inr ⟨by lia,by lia⟩
def CT(l:List Str)(lo hi:Option Int):kK (l.map D.str) lo hi=(kK l lo hi).map D.str:=by unfold kK;rw[b4,List.map_take,List.map_drop]
def Jd{α:Type}{l:List α}{a b:Int}(h0:0<=a)(h1:a<b)(h2:a<l.length):1<=(kK l (some a) (some b)).length/\(kK l (some a) (some b)).length<=l.length/\∀ x∈kK l (some a) (some b),x∈l:=by
 have e:HT.cS l.length 0 (some a)=a.toNat:=vh h0 (by lia);have e2:a.toNat<HT.cS l.length l.length (some b):=by simp only[HT.cS];rw[if_neg (by lia)];lia
 unfold kK;rw[e,lP,IG];exact⟨by lia,by lia,λx hx=>Si (P5 hx)⟩
def bY{α:Type}(l:List α):l.filter (λ_=>true)=l:=Zb.mpr λ_ _=>rfl
inductive Rw where
 |st (w d:Str) (j:Int)
 |nt (j:Int)
 |jn (w:Str) (ps:List Int)
def eS:Rw->D
 |.st w d j=>.tup [.str w,.str d,.int j]
 |.nt j=>.tup [.str "not",.int j]
 |.jn w ps=>.tup [.str w,.tup (ps.map .int)]
def oI(k:Int):Rw->Prop
 |.st w d j=>(w = "some"\/w = "all")/\xi d/\0<=j/\j<k
 |.nt j=>0<=j/\j<k
 |.jn w ps=>(w = "and"\/w = "or")/\ps.length<=200/\∀ p∈ps,0<=p/\p<k
def gX(l:List Rw):Prop:=∀ (i:Nat) (r:Rw),l[i]? = some r->oI i r
def sA:Rw->List Int
 |.st _ _ j=>[j]
 |.nt j=>[j]
 |.jn _ ps=>ps
theorem Fy:∀ r:Rw,(eS r).flat=true
 |.st _ _ _=>rfl
 |.nt _=>rfl
 |.jn _ ps=>by simp[eS,D.flat,dQ,aX]
def Ho(l:List Rw)(r:Rw):l.map eS++[eS r]=(l++[r]).map eS:=by simp
def gX.app(h:gX l)(hr:oI l.length r):gX (l++[r]):=λi x hx=>by
 by_cases hi:i<l.length
 ·rw[IC hi] at hx;exact h i x hx
 ·grind
def gX.nil:gX []:=λi r h=>by simp at h
def sT(l:List Int):Int:=l.foldl (λb x=>if x>b then x else b) 0
def dep(ds:List Int):Rw->Int
 |.st _ _ j=>ds.getD j.toNat 0+1
 |.nt j=>ds.getD j.toNat 0
 |.jn _ ps=>sT (ps.map λp=>ds.getD p.toNat 0)
def E1:List Int->List Rw->List Int
 |ds,[]=>ds
 |ds,r :: l=>E1 (ds++[dep ds r]) l
def deps(l:List Rw):List Int:=E1 [] l
theorem uC:∀ (l m:List Rw) (ds:List Int),E1 ds (l++m)=E1 (E1 ds l) m
 |[],_,_=>rfl
 |r :: l,m,ds=>uC l m (ds++[dep ds r])
def gw(l:List Rw)(r:Rw):deps (l++[r])=deps l++[dep (deps l) r]:=by unfold deps;rw[uC];rfl
theorem u5:∀ (l:List Rw) (ds:List Int),(E1 ds l).length=ds.length+l.length
 |[],_=>rfl
 |r :: l,ds=>by show(E1 (ds++[dep ds r]) l).length=_;rw[u5 l];simp;lia
def eX(l:List Rw):(deps l).length=l.length:=by unfold deps;rw[u5];simp
def depth(l:List Rw):Int:=(deps l).getD (l.length-1) 0
def zP(l:List Rw)(r:Rw):depth (l++[r])=dep (deps l) r:=by
 unfold depth;rw[gw,D1];have:(l++[r]).length-1=(deps l).length:=by rw[eX];simp
 rw[this,B5 (cK _),Sz];rfl
theorem DK:∀ (l:List Int) (b:Int),0<=b->0<=l.foldl (λb x=>if x>b then x else b) b
 |[],b,h=>h
 |x :: l,b,h=>by simp only[xC];refine DK l _ ?_;split<;>lia
def Dm(l:List Int):0<=sT l:=DK l 0 (by decide)
def fY{ds:List Int}(h:∀ d∈ds,0<=d)(i:Nat):0<=ds.getD i 0:=by
 rw[D1]
 cases e:ds[i]? with
 |none=>exact An _
 |some x=>exact h x (nh e)
theorem DY{ds:List Int}(h:∀ d∈ds,0<=d):∀ r:Rw,0<=dep ds r
 |.st _ _ j=>by have:=fY h j.toNat;simp only[dep];lia
 |.nt j=>fY h _
 |.jn _ ps=>Dm _
theorem xG:∀ (l:List Rw) (ds:List Int),(∀ d∈ds,0<=d)->∀ d∈E1 ds l,0<=d
 |[],_,h=>h
 |r :: l,ds,h=>xG l _ λd hd=>by
  rcases hJ.mp hd with hd|hd
  ·exact h d hd
  ·rw[ic.mp hd];exact DY h r
def pC(l:List Rw):∀ d∈deps l,0<=d:=xG l [] λd hd=>nomatch hd
def Jm(h:∀ n∈ns,0<=n):(if ns=[] then 0 else sv ns ns.length)=sT ns:=by
 have go:∀ j,j<ns.length->sv ns (j+1)=sT (ns.take (j+1)):=by
  intro j
  induction j with
  |zero =>
   intro hj
   cases ns with
   |nil=>simp at hj
   |cons n ns =>have:=h n eh;show n=sT [n];simp only[sT,xC,Sw];split<;>lia
  |succ j ih =>
   intro hj;rw[xdH hj];simp only[sT,P6,xC,Sw];have e:=ih (by lia);unfold sT at e;rw[<- e];have e2:ns.getD (j+1) 0=ns[j+1]:=by simp[ hj]
   show(if ns.getD (j+1) 0>sv ns (j+1) then ns.getD (j+1) 0 else sv ns (j+1))=_;rw[e2]
 by_cases h0:ns=[]
 ·subst h0;rfl
 ·rw[if_neg h0];have hl:0<ns.length:=List.length_pos_iff.mpr h0;have:=go (ns.length-1) (by lia);rw[show ns.length-1+1=ns.length by lia,AY] at this;exact this
def sZ(h0:0<=j)(h1:j<l.length):gi ((deps l).map D.int) j=some (.int ((deps l).getD j.toNat 0)):=by
 have hj:j.toNat<(deps l).length:=by rw[eX];lia
 have:=FI (xs:=(deps l).map D.int) (j:=j.toNat) (v:=.int ((deps l).getD j.toNat 0)) (by simp[hj]);rwa[qV h0] at this
def AU:∀ {w:Str},(w = "and"\/w = "or")->w ≠ "some"/\w ≠ "all"/\w ≠ "not" := by rintro w (rfl|rfl)<;>decide +kernel
def bv':∀ {w:Str},(w = "some"\/w = "all")->w ≠ "not"/\w ≠ "and"/\w ≠ "or" := by rintro w (rfl|rfl)<;>decide +kernel
def LG:("not" : Str) ≠ "some"/\("not" : Str) ≠ "all" := by decide +kernel
def aM(l:List dy)(s:Int)(d:Str):List Int:=(l.filter λt=>decide (t.1=s) && decide (t.2.1=d)).map (·.2.2)
def bB:x∈aM l s d↔(s,d,x)∈l:=by
 unfold aM;rw[c9];constructor
 ·grind
 ·exact λh=>⟨_,B8.mpr ⟨h,by simp⟩,rfl⟩
def uG(l:List dy)(s:Int)(d:Str):(aM l s d).length<=l.length:=by unfold aM;rw[b4];exact List.length_filter_le _ _
def zv(l:List dy)(kvs:Kn):Prop:=∀ s d,dS kvs [.inl s,.inr d]=if aM l s d=[] then none else some (.list ((aM l s d).map .int))
def ur(k k':List Key)(x:D):∀ (kvs:Kn),dS (nL kvs k x) k'=if k'=k then some (match dS kvs k with
  |none=>.list [x]
  |some d=>Ue d x) else dS kvs k'
 |[]=>by
  rw[nL,aZ];by_cases h:k'=k
  ·rw[if_pos h.symm,if_pos h];rfl
  ·rw[if_neg λe=>h e.symm,if_neg h]
 |p :: r=>by
  rw[nL];by_cases e:p.1=k
  ·rw[if_pos e,aZ];by_cases h:k'=k
   ·rw[if_pos h,h,aZ p r k,if_pos e,if_pos e]
   ·rw[if_neg h,aZ p r k',if_neg λz=>h (z.symm.trans e),if_neg λz=>h (z.symm.trans e)]
  ·rw[if_neg e,aZ,ur k k' x r];by_cases h:k'=k
   ·rw[if_pos h,h,aZ p r k,if_neg e,if_neg e,if_pos rfl]
   ·rw[if_neg h,aZ p r k',if_neg h]
theorem yN(k:List Key)(x:D):∀ (kvs:Kn),(nL kvs k x).length<=kvs.length+1
 |[]=>by simp[nL]
 |p :: r=>by have:=yN k x r;rw[nL];split<;>simp only[k8]<;>lia
def zv.nil:zv [] []:=λs d=>rfl
def zv.put(h:zv l kvs)(p:Int)(n:Str)(r:Int):zv (l++[(p,n,r)]) (nL kvs [.inl p,.inr n] (.int r)):=by
 intro s d;rw[ur];have ee:aM (l++[(p,n,r)]) s d=aM l s d++if p=s/\n=d then [r] else []:=by
  unfold aM;rw[List.filter_append,kS];congr 1;by_cases e:p=s/\n=d
  ·simp[e.1,e.2]
  ·rw[if_neg e,List.filter_cons_of_neg (by simpa using e)];rfl
 by_cases e:p=s/\n=d
 ·rw[if_pos e] at ee;obtain⟨rfl,rfl⟩:=e;rw[ee,if_pos rfl,h p n,if_neg (show ¬ aM l p n++[r]=[] by simp)];by_cases z:aM l p n=[]
  ·rw[if_pos z,z];rfl
  ·rw[if_neg z];simp[Ue]
 ·rw[if_neg e,tJ] at ee;rw[ee,if_neg λz=>e ?_,h s d];simp only[List.cons.injEq,Sum.inl.injEq,Sum.inr.injEq,and_true] at z;exact⟨z.1.symm,z.2.symm⟩
def int_at{l:List Int}{i:Nat}{x:D}(h:(l.map D.int)[i]? = some x):∃ c,x=.int c/\c∈l/\l.take (i+1)=l.take i++[c]:=by
 rw[g9] at h
 cases e:l[i]? with
 |none=>rw[e] at h;cases h
 |some s =>rw[e] at h;cases h;exact⟨s,rfl,nh e,by rw[vt,e];rfl⟩
abbrev Tr:=Int->Bool
def ng(l:List dy)(ts:List Tr):Rw->Tr
 |.st w d j=>λs=>if w = "some" then (aM l s d).any (ts.getD j.toNat λ_=>false) else (aM l s d).all (ts.getD j.toNat λ_=>false)
 |.nt j=>λs=>!(ts.getD j.toNat (λ_=>false) s)
 |.jn w ps=>λs=>if w = "and" then ps.all (λp=>ts.getD p.toNat (λ_=>false) s) else ps.any (λp=>ts.getD p.toNat (λ_=>false) s)
def HP(l:List dy):List Tr->List Rw->List Tr
 |ts,[]=>ts
 |ts,r :: rs=>HP l (ts++[ng l ts r]) rs
def jS(l:List dy)(rs:List Rw):List Tr:=HP l [] rs
theorem tU(l:List dy):∀ (a b:List Rw) (ts:List Tr),HP l ts (a++b)=HP l (HP l ts a) b
 |[],_,_=>rfl
 |r :: a,b,ts=>tU l a b (ts++[ng l ts r])
def gQ(l:List dy)(a:List Rw)(r:Rw):jS l (a++[r])=jS l a++[ng l (jS l a) r]:=by unfold jS;rw[tU];rfl
theorem uR(l:List dy):∀ (rs:List Rw) (ts:List Tr),(HP l ts rs).length=ts.length+rs.length
 |[],ts=>rfl
 |r :: rs,ts=>by rw[HP,uR l rs,mG,k8,k8,UE];lia
def fH(l:List dy)(rs:List Rw):(jS l rs).length=rs.length:=by unfold jS;rw[uR];simp
def gy(many:Int)(t:Tr):D:=.list ((aR many.toNat).map λi=>.bl (t i))
def lF(h0:0<=s)(h1:s<many)(t:Tr):gi ((aR many.toNat).map λi=>D.bl (t i)) s=some (.bl (t s)):=by
 have hs:s.toNat<many.toNat:=by lia
 have:=FI (xs:=(aR many.toNat).map λi=>D.bl (t i)) (by
  rw[g9,aR,g9,UB hs];show some (D.bl (t s.toNat))=_;rw[qV h0])
 rwa[qV h0] at this
def lC{many j:Int}{ts:List Tr}(h0:0<=j)(h1:j<ts.length):gi (ts.map (gy many)) j=some (gy many (ts.getD j.toNat λ_=>false)):=by
 have hj:j.toNat<ts.length:=by lia
 have:=FI (v:=gy many (ts.getD j.toNat λ_=>false)) (by
  rw[g9,D1,tI hj];rfl)
 rwa[qV h0] at this
def zW(h:zv l kvs)(q:∀ m,Q m (.list ((aM l s d).map .int))):HC (dS kvs [.inl s,.inr d]) .sh n (.list []) Q:=by
 rw[h s d];by_cases z:aM l s d=[]
 ·have:=q n;rw[z] at this;rw[if_pos z];exact this
 ·rw[if_neg z];exact q _
def fG(n:Nat):iu 0 n=(aR n).map D.int:=by unfold iu aR;rw[fE];exact D2 λi _=>by simp
def bw'(f:Int->Bool):D->Bool
 |.int o=>f o
 |_=>false
def uz(f:Int->Bool)(l:List Int):((l.map D.int).filter (bw' f)).map id=(l.filter f).map .int:=by rw[List.map_id,List.filter_map];rfl
def Gg(f:Int->Bool)(l:List Int):decide ((0:Int)<((l.filter f).length:Nat))=l.any f:=by
 rw[z5,decide_eq_true_iff,Fc];constructor
 ·intro h;obtain⟨x,hx⟩:=List.exists_mem_of_length_pos (l:=l.filter f) (by lia);exact⟨x,(B8.mp hx).1,(B8.mp hx).2⟩
 ·rintro⟨x,hx,e⟩;have:=Sf (B8.mpr ⟨hx,e⟩);lia
def Gw(f:Int->Bool)(l:List Int):decide (((l.filter λx=>!f x).length:Nat)=(0:Int))=l.all f:=by
 rw[z5,decide_eq_true_iff,yT];constructor
 ·intro h x hx
  cases e:f x with
  |true=>rfl
  |false =>have:=Sf (B8 (p:=λx=>!f x).mpr ⟨hx,show(!f x)=true by rw[e];rfl⟩);lia
 ·intro h;have:l.filter (λx=>!f x)=[]:=List.filter_eq_nil_iff.mpr λx hx=>by rw[h x hx];decide
  rw[this];rfl
def zc{steps:List dy}{i:Nat}{x:D}(h:(steps.map yy)[i]? = some x):∃ p d r,x=.tup [.int p,.str d,.int r]/\(p,d,r)∈steps/\steps.take (i+1)=steps.take i++[(p,d,r)]:=by
 rw[g9] at h
 cases e:steps[i]? with
 |none=>rw[e] at h;cases h
 |some s =>rw[e] at h;cases h;obtain⟨p,d,r⟩:=s;exact⟨p,d,r,rfl,nh e,by rw[vt,e];rfl⟩
def t8{P R:Prop}(h1:b=true->P)(h2:b=false->R):if b=true then P else R:=by cases b<;>simp_all
def J_{T U:Tr}(h0:0<=p)(h1:p<many)(hp:U p=true)(ho:∀ i,i≠p->U i=T i):((aR many.toNat).map λi=>D.bl (T i)).set p.toNat (.bl true)=(aR many.toNat).map λi=>D.bl (U i):=by
 apply L5;intro i;rw[List.getElem?_set,b4,c7,g9,g9];unfold aR;rw[g9];by_cases hi:i<many.toNat
 ·grind
 ·grind
abbrev Mp:=List (P2 × D)
def eT(mp:Mp):List P2:=mp.map (·.1)
def gE(mp:Mp):Kn:=mp.map λx=>(ky x.1,x.2)
def oh(mp:Mp):(gE mp).map (·.1)=(eT mp).map ky:=by simp[gE,eT]
def fZ(mp:Mp):(gE mp).length=mp.length:=by simp[gE]
def kJ(mp:Mp)(x:P2):(dS (gE mp) (ky x)).isSome=decide (x∈eT mp):=by rw[z5,tD,oh,qX,decide_eq_true_eq]
def zA(h:x∈eT mp):∃ d,dS (gE mp) (ky x)=some d/\(x,d)∈mp:=by
 have:(dS (gE mp) (ky x)).isSome=true:=by rw[kJ];exact decide_eq_true h
 obtain⟨d,e⟩:=Qr.mp this;obtain⟨q,hq,e'⟩:=MQ.mp e;obtain⟨y,hy,rfl⟩:=c9.mp (Uz hq);have e2:ky y.1=ky x:=by simpa using UG hq
 have e3:=oV e2;refine⟨d,e,?_⟩;rw[<- e3,<- e'];exact hy
def yS{mp:Mp}{x:P2}(d:D)(h:x∉eT mp):k5 (gE mp) (ky x) d=gE (mp++[(x,d)]):=by unfold k5;rw[if_neg λz=>h (qX.mp (by rw[<- oh];exact GC.mp z))];simp[gE]
def Uk(l:List dy)(ks:List P2)(p:P2):Prop:=∃ d e,(p.1,d,e)∈l/\∀ o,(p.2,d,o)∈l->(e,o)∈ks
def Rk(l:List dy):Nat->P2->Prop
 |0,_=>False
 |n+1,p=>Rk l n p\/∃ d e,(p.1,d,e)∈l/\∀ o,(p.2,d,o)∈l->Rk l n (e,o)
def Rk.mono(h:n<=m)(r:Rk l n p):Rk l m p:=by
 induction h with
 |refl=>exact r
 |step _ ih=>exact .inl ih
def vj(l:List dy)(n:Nat)(p:P2):Prop:=Rk l n p/\∀ m,m<n->¬ Rk l m p
def vj.uniq(a:vj l n p)(b:vj l m p):n=m:=by
 rcases Nat.lt_trichotomy n m with h|h|h
 ·exact absurd a.1 (b.2 n h)
 ·exact h
 ·exact absurd b.1 (a.2 m h)
def TrD(l:List dy)(k:Nat)(p:P2)(d:D):Prop:=∃ s e,d=.tup [.int k,.str s,.int e]/\(p.1,s,e)∈l/\∀ o,(p.2,s,o)∈l->∃ j,j<k/\Rk l j (e,o)
structure xo(many:Int)(l:List dy)(n:Nat)(mp:Mp):Prop where
 nd:(eT mp).Nodup
 oP:∀ x∈mp,ly many x.1/\∃ k,k<=n/\vj l k x.1/\TrD l k x.1 x.2
 all:∀ p,ly many p->Rk l n p->p∈eT mp
 Wz:mp.Pairwise fun x y=>∀ j k,vj l j x.1->vj l k y.1->j<=k
def xo.nil:xo many l 0 []:=⟨mI,(λx hx=>nomatch hx),(λp _ r=>r.elim),.nil⟩
section
variable {many:Int}{l:List dy}{n:Nat}{mp:Mp}
def xo.mem(h:xo many l n mp)(hp:ly many p):p∈eT mp↔Rk l n p:=by refine⟨λm=>?_,h.all p hp⟩;obtain⟨x,hx,rfl⟩:=c9.mp m;obtain⟨_,k,hk,fs,_⟩:=h.oP x hx;exact fs.1.mono hk
def xo.mss(h:xo many l n mp)(dr:qB many l):Uk l (eT mp) p↔∃ d e,(p.1,d,e)∈l/\∀ o,(p.2,d,o)∈l->Rk l n (e,o):=by
 constructor
 ·rintro⟨d,e,he,ho⟩;exact⟨d,e,he,λo hm=>(h.mem ⟨(dr _ he).2.2.2,(dr _ hm).2.2.2⟩).mp (ho o hm)⟩
 ·rintro⟨d,e,he,ho⟩;exact⟨d,e,he,λo hm=>(h.mem ⟨(dr _ he).2.2.2,(dr _ hm).2.2.2⟩).mpr (ho o hm)⟩
def pairs_len{ks:List P2}(nd:ks.Nodup)(h:∀ x∈ks,ly many x):ks.length<=many.toNat*many.toNat:=by have:=dR (m:=(aR many.toNat).flatMap λa=>(aR many.toNat).map λb=>(a,b)) nd λx hx=>List.mem_flatMap.mpr ⟨x.1,h_.mpr (by have:=h x hx;unfold ly at this;lia),c9.mpr ⟨x.2,h_.mpr (by have:=h x hx;unfold ly at this;lia),rfl⟩⟩;refine kE this (IH ?_);rw[List.length_flatMap,show(λa=>((aR many.toNat).map λb=>(a,b)).length)=λ_:Int=>many.toNat from funext λa=>by rw[b4,c7],List.map_const',List.sum_replicate_nat,c7]
def xo.len(h:xo many l n mp)(hm:many<=8):mp.length<=64:=by
 have:=pairs_len h.nd λx hx=>by obtain⟨y,hy,rfl⟩:=c9.mp hx;exact(h.oP y hy).1
 rw[eT,b4] at this;have:many.toNat*many.toNat<=8*8:=MB (by lia) (by lia);lia
def by'(l:List dy)(ks:List P2)(n:Nat)(p:P2)(d:D):Prop:=∃ s e,d=.tup [.int n,.str s,.int e]/\(p.1,s,e)∈l/\∀ o,(p.2,s,o)∈l->(e,o)∈ks
structure Ul(many:Int)(l:List dy)(mp:Mp)(n:Nat)(fm:Mp):Prop where
 nd:(eT fm).Nodup
 oP:∀ x∈fm,ly many x.1/\x.1∉eT mp/\by' l (eT mp) n x.1 x.2
 all:∀ p,ly many p->p∉eT mp->Uk l (eT mp) p->p∈eT fm
def xo.next(h:xo many l n mp)(dr:qB many l)(x:Ul many l mp (n+1) fm):xo many l (n+1) (mp++fm):=by
 have fs:∀ y∈fm,vj l (n+1) y.1:=λy hy=>by obtain⟨i,nm,s,e,_,he,ho⟩:=x.oP y hy;exact⟨.inr ((h.mss dr).mp ⟨s,e,he,ho⟩),λm hm r=>nm ((h.mem i).mpr (r.mono (by lia)))⟩
 refine⟨?_,λy hy=>?_,λp hp r=>?_,?_⟩
 ·rw[eT,kS];refine pj.mpr ⟨h.nd,x.nd,λa ha b hb e=>?_⟩;obtain⟨y,hy,rfl⟩:=c9.mp hb;exact(x.oP y hy).2.1 (e ▸ ha)
 ·rcases hJ.mp hy with hy|hy
  ·obtain⟨i,k,hk,z⟩:=h.oP y hy;exact⟨i,k,by lia,z⟩
  ·obtain⟨i,nm,s,e,ed,he,ho⟩:=x.oP y hy;exact⟨i,n+1,cK _,fs y hy,s,e,ed,he,λo hm=>⟨n,P9 n,(h.mem ⟨(dr _ he).2.2.2,(dr _ hm).2.2.2⟩).mp (ho o hm)⟩⟩
 ·rw[eT,kS,hJ];by_cases e:p∈eT mp
  ·exact .inl e
  ·refine .inr (x.all p hp e ?_);rcases r with r|r
   ·exact absurd ((h.mem hp).mpr r) e
   ·exact(h.mss dr).mpr r
 ·refine List.pairwise_append.mpr ⟨h.Wz,List.Pairwise.imp_of_mem (λ{a b} ha hb _ j k hj hk=>?_) (List.pairwise_of_forall λ_ _=>trivial),λa ha b hb j k hj hk=>?_⟩
  ·rw[hj.uniq (fs a ha),hk.uniq (fs b hb)];exact cK _
  ·obtain⟨_,k',i7,f,_⟩:=h.oP a ha;rw[hj.uniq f,hk.uniq (fs b hb)];lia
def Ar(h:xo many l n mp)(dr:qB many l)(x:Ul many l mp m [])(hp:ly many p):∀ k,Rk l (n+k) p->Rk l n p:=by
 intro k
 induction k generalizing p with
 |zero=>exact id
 |succ k ih =>
  rintro(r|⟨d,e,he,ho⟩)
  ·exact ih hp r
  ·by_cases z:p∈eT mp
   ·exact(h.mem hp).mp z
   ·have:=x.all p hp z ((h.mss dr).mpr ⟨d,e,he,λo hm=>ih ⟨(dr _ he).2.2.2,(dr _ hm).2.2.2⟩ (ho o hm)⟩);exact nomatch this
structure All(many:Int)(l:List dy)(mp:Mp):Prop where
 nd:(eT mp).Nodup
 oP:∀ x∈mp,ly many x.1/\∃ k,vj l k x.1/\TrD l k x.1 x.2
 all:∀ p,ly many p->∀ k,Rk l k p->p∈eT mp
 Wz:mp.Pairwise fun x y=>∀ j k,vj l j x.1->vj l k y.1->j<=k
 len:mp.length<=64
def xo.end(h:xo many l n mp)(hm:many<=8)(dr:qB many l)(x:Ul many l mp m []):All many l mp:=by
 refine⟨h.nd,λy hy=>?_,λp hp k r=>h.all p hp ?_,h.Wz,h.len hm⟩
 ·obtain⟨i,k,_,z⟩:=h.oP y hy;exact⟨i,k,z⟩
 ·exact Ar h dr x hp k (r.mono (by lia))
end
def HV(f:Int->Int):Rw->Rw
 |.st w d j=>.st w d (f j)
 |.nt j=>.nt (f j)
 |.jn w ps=>.jn w (ps.map f)
def eB:Rw->List RI
 |.st w d j=>[.inl (.inr w),.inl (.inr d),.inl (.inl j)]
 |.nt j=>[.inl (.inr "not"),.inl (.inl j)]
 |.jn w ps=>[.inl (.inr w),.inr (ps.map Sum.inl)]
theorem Ak:∀ r:Rw,oC (eB r)=eS r
 |.st _ _ _=>rfl
 |.nt _=>rfl
 |.jn _ ps=>by simp[oC,eB,eS,EX,iO]
theorem Il:∀ {x y:Rw},eB x=eB y->x=y
 |.st _ _ _,.st _ _ _,h=>by simp[eB] at h;obtain⟨rfl,rfl,rfl⟩:=h;rfl
 |.nt _,.nt _,h=>by simp[eB] at h;rw[h]
 |.jn _ ps,.jn _ qs,h=>by simp[eB] at h;obtain⟨rfl,h⟩:=h;have:ps=qs:=map_inj (λ_ _ z=>Sum.inl.inj z) h;rw[this]
 |.st _ _ _,.nt _,h=>by simp[eB] at h
 |.st _ _ _,.jn _ _,h=>by simp[eB] at h
 |.nt _,.st _ _ _,h=>by simp[eB] at h
 |.nt _,.jn _ _,h=>by simp[eB] at h
 |.jn _ _,.st _ _ _,h=>by simp[eB] at h
 |.jn _ _,.nt _,h=>by simp[eB] at h
theorem fu:∀ {r:Rw},oI k r->∀ j∈sA r,0<=j/\j<k
 |.st _ _ _,h,j,hj=>by rw[ic.mp hj];exact h.2.2
 |.nt _,h,j,hj=>by rw[ic.mp hj];exact h
 |.jn _ _,h,j,hj=>h.2.2 j hj
theorem Kq:∀ {r:Rw},oI k r->(∀ j∈sA r,0<=f j/\f j<k')->oI k' (HV f r)
 |.st _ _ _,h,g=>⟨h.1,h.2.1,g _ (ic.mpr rfl)⟩
 |.nt _,h,g=>g _ (ic.mpr rfl)
 |.jn _ _,h,g=>⟨h.1,by simpa[HV] using h.2.1,λp hp=>by
  obtain⟨j,hj,rfl⟩:=c9.mp hp;exact g j hj⟩
def JN(num:D)(f:Int->Int)(j:Int):Prop:=(∃ ns:List Int,num=.list (ns.map .int)/\0<=j/\ns[j.toNat]? = some (f j))\/∃ kvs:List (Key × D),num=.dK kvs/\dS kvs (Sum.inl j:Key)=some (.int (f j))
def AV(W:List Int)(j:Int):List Int:=if j∈W then W else W++[j]
def lK(l:List Rw)(W:List Int)(k:Int):List Int:=if k∈W then (match l[k.toNat]? with
 |some r=>(sA r).foldl AV W
 |none=>W) else W
def eV(last:Nat):List Int:=(List.range (last+1)).map λi:Nat=>(last:Int)-(i:Int)
def wO(l:List Rw)(last:Nat):List Int:=(eV last).foldl (lK l) [(last:Int)]
def aY(l:List Rw)(last:Nat):List Int:=((List.range (last+1)).map λi:Nat=>(i:Int)).filter λk=>decide (k∈wO l last)
def Gn{W:List Int}:x∈AV W j↔x∈W\/x=j:=by
 unfold AV;split
 ·grind
 ·simp
theorem dM:∀ (js W:List Int),x∈js.foldl AV W↔x∈W\/x∈js
 |[],W=>by simp
 |j :: js,W=>by rw[xC,dM js,Gn,eu,or_assoc]
def Jk{W:List Int}(h:W.Nodup):(AV W j).Nodup:=by
 unfold AV;split
 ·exact h
 ·grind
theorem rT:∀ (js W:List Int),W.Nodup->(js.foldl AV W).Nodup
 |[],_,h=>h
 |j :: js,W,h=>rT js _ (Jk h)
def yg{W:List Int}(nd:W.Nodup){n:Nat}(h:∀ x∈W,0<=x/\x<n):W.length<=n:=by
 have:(W.map Int.toNat).Nodup:=List.nodup_iff_pairwise_ne.mpr (vv.mpr (List.Pairwise.imp_of_mem (λ{a b} ha hb e z=>e (by have:=h a ha;have:=h b hb;lia)) (List.nodup_iff_pairwise_ne.mp nd)));have:=this.length_le_of_subset (l₂:=List.range n) λx hx=>by grind
 simpa using this
structure wF(l:List Rw)(last:Nat)(m:Int)(W:List Int):Prop where
 nd:W.Nodup
 lst:(last:Int)∈W
 bd:∀ k∈W,0<=k/\k<=last
 cl:∀ k∈W,m<=k->∀ r,l[k.toNat]? = some r->∀ j∈sA r,j∈W
def wF.step{W:List Int}(sc:gX l)(k0:0<=k)(h:wF l last (k+1) W):wF l last k (lK l W k):=by
 unfold lK;by_cases hk:k∈W
 ·rw[if_pos hk]
  cases e:l[k.toNat]? with
  |none =>
   refine⟨h.nd,h.lst,h.bd,λx hx hm r hr j hj=>?_⟩;by_cases z:x=k
   ·rw[z,e] at hr;cases hr
   ·exact h.cl x hx (by lia) r hr j hj
  |some r0 =>
   have ok:=sc _ _ e;have dl:=fu ok;refine⟨rT _ _ h.nd,(dM _ _).mpr (.inl h.lst),λx hx=>?_,λx hx hm r hr j hj=>?_⟩
   ·rcases (dM _ _).mp hx with z|z
    ·exact h.bd x z
    ·have:=dl x z;have:=h.bd k hk;lia
   ·rcases (dM _ _).mp hx with z|z
    ·by_cases q:x=k
     ·rw[q,e] at hr;cases hr;exact(dM _ _).mpr (.inr hj)
     ·exact(dM _ _).mpr (.inl (h.cl x z (by lia) r hr j hj))
    ·have:=dl x z;lia
 ·rw[if_neg hk];refine⟨h.nd,h.lst,h.bd,λx hx hm r hr j hj=>?_⟩;by_cases z:x=k
  ·exact absurd (z ▸ hx) hk
  ·exact h.cl x hx (by lia) r hr j hj
theorem jZ{l:List Rw}{last:Nat}(sc:gX l):∀ i,i<=last+1->wF l last ((last:Int)+1-i) (((eV last).take i).foldl (lK l) [(last:Int)])
 |0,_=>⟨by simp,by simp,λk hk=>by rw[ic.mp hk];lia,λk hk hm=>by rw[ic.mp hk] at hm;lia⟩
 |i+1,hi=>by
  have ih:=jZ (last:=last) sc i (by lia);have e:(eV last).take (i+1)=(eV last).take i++[(last:Int)-i]:=by rw[vt];unfold eV;rw[g9,UB (by lia)];rfl
  rw[e,P6,xC,Sw];have:=wF.step (k:=last-i) sc (by lia) (by rw[show last-i+1=(last:Int)+1-i by lia];exact ih);rw[show last+1-((i+1:Nat):Int)=last-i by lia];exact this
def gr{l:List Rw}{last:Nat}(sc:gX l):wF l last 0 (wO l last):=by have:=jZ sc (last+1) (cK _);rw[L4 (by simp[eV]),show last+1-((last+1:Nat):Int)=0 by lia] at this;exact this
def gB(sc:gX l):k∈aY l last↔k∈wO l last:=by unfold aY;rw[B8,decide_eq_true_iff];refine⟨λh=>h.2,λh=>⟨?_,h⟩⟩;have:=(gr sc).bd k h;exact c9.mpr ⟨k.toNat,y6.mpr (by lia),by lia⟩
def ig:(aY l last).Pairwise (· < ·):=by exact List.Pairwise.filter _ (vv.mpr (W8.imp λh=>by lia))
def Pm(l:List Rw)(last:Nat)(k:Int):Int:=((aY l last).idxOf k:Nat)
def WB(l:List Rw)(k:Int):Rw:=(l[k.toNat]?).getD (.nt 0)
def oq(l:List Rw)(last:Nat):List Rw:=(aY l last).map λk=>HV (Pm l last) (WB l k)
def bZ{l:List Int}(nd:l.Nodup){i:Nat}{k:Int}(h:l[i]? = some k):l.idxOf k=i:=by grind
def d8(l:List Rw)(last:Nat):(aY l last).Nodup:=(ig).imp λh=>by lia
def fW(sc:gX l)(h:k∈aY l last):0<=k/\k<=last:=(gr sc).bd k ((gB sc).mp h)
def zu(sc:gX l)(h:k∈aY l last)(hr:l[k.toNat]? = some r):∀ j∈sA r,j∈aY l last:=λj hj=>(gB sc).mpr ((gr sc).cl k ((gB sc).mp h) (fW sc h).1 r hr j hj)
def Dv{l:List Int}(pw:l.Pairwise (· < ·)){i:Nat}{j k:Int}(hk:l[i]? = some k)(hj:j∈l)(h:j<k):l.idxOf j<i:=by
 obtain⟨m,hm⟩:=z0.mp hj;have nd:l.Nodup:=pw.imp λh=>by lia
 rw[bZ nd hm];by_cases z:m<i
 ·exact z
 ·obtain⟨hi,ei⟩:=h9.mp hk;obtain⟨WC,em⟩:=h9.mp hm;by_cases q:m=i
  ·subst q;lia
  ·have:=E8.mp pw i m hi WC (by lia);lia
structure Sm(α:Type) where
 H:Rw->(Int->α)->α
 z:α
 cg:∀ {r:Rw} {g g':Int->α},(∀ j∈sA r,g j=g' j)->H r g=H r g'
 rn:∀ (f:Int->Int) (r:Rw) (g:Int->α),H (HV f r) g=H r fun j=>g (f j)
section
variable {α:Type}(S:Sm α)
def Sm.vals(l:List Rw):List α:=l.foldl (λv r=>v++[S.H r λj=>v.getD j.toNat S.z]) []
def Sm.at(l:List Rw)(k:Int):α:=(S.vals l).getD k.toNat S.z
def Cp(l:List Rw)(r:Rw):S.vals (l++[r])=S.vals l++[S.H r (S.at l)]:=by unfold Sm.vals;rw[P6];rfl
def Cv(l:List Rw):∀ m:List Rw,∃ w,S.vals (l++m)=S.vals l++w:=by
 intro m;unfold Sm.vals;rw[P6];generalize l.foldl (λv r=>v++[S.H r λj=>v.getD j.toNat S.z]) []=v
 induction m generalizing v with
 |nil=>exact⟨[],by simp⟩
 |cons r m ih =>obtain⟨w,e⟩:=ih (v++[S.H r λj=>v.getD j.toNat S.z]);exact⟨_ :: w,by rw[xC,e,B7];rfl⟩
def oG(l:List Rw):(S.vals l).length=l.length:=by
 unfold Sm.vals;suffices h:∀ (l:List Rw) v,(l.foldl (λv r=>v++[S.H r λj=>v.getD j.toNat S.z]) v).length=v.length+l.length by simpa using h l []
 intro l
 induction l with
 |nil=>intro v;rfl
 |cons r l ih=>intro v;rw[xC,ih];simp;lia
def mq(h:k.toNat<l.length):S.at (l++m) k=S.at l k:=by obtain⟨w,e⟩:=Cv S l m;unfold Sm.at;rw[e,D1,D1,IC (by rw[oG];exact h)]
def ud{l:List Rw}(sc:gX l){k:Nat}{r:Rw}(h:l[k]? = some r):S.at l k=S.H r (S.at l):=by
 obtain⟨hk,e⟩:=h9.mp h;have el:l=(l.take k++[r])++l.drop (k+1):=by have:=LW hk;rw[e] at this;rw[B7,List.singleton_append,<- this,Sg]
 have tl:(l.take k).length=k:=by rw[lP];lia
 have e1:S.at l k=S.at (l.take k++[r]) k:=by
  conv=>lhs;rw[el]
  exact mq S (by simp;lia)
 rw[e1];unfold Sm.at;rw[Cp,D1,B5 (by rw[oG];simp;lia)];rw[oG,tl];simp only[IL,Sz];refine S.cg λj hj=>?_;have:=fu (sc k r h) j hj;conv=>rhs;rw[el,B7]
 exact(mq S (by rw[tl];lia)).symm
end
def pK(sc:gX l):(last:Int)∈aY l last:=(gB sc).mpr (gr sc).lst
def Ju{l:List Rw}{last i:Nat}{k:Int}(h:(aY l last)[i]? = some k):Pm l last k=i:=by unfold Pm;rw[bZ (d8 l last) h]
def Ef{l:List Rw}{last:Nat}(sc:gX l)(hl:last<l.length){i:Nat}{r:Rw}(h:(oq l last)[i]? = some r):∃ k r0,(aY l last)[i]? = some k/\l[k.toNat]? = some r0/\oI k r0/\r=HV (Pm l last) r0/\∀ j∈sA r0,∃ m:Nat,m<i/\(aY l last)[m]? = some j:=by
 unfold oq at h;rw[g9] at h
 cases e:(aY l last)[i]? with
 |none=>rw[e] at h;cases h
 |some k =>
  rw[e] at h;cases h;have hk:=nh e;obtain⟨k0,k1⟩:=fW sc hk;have LB:k.toNat<l.length:=by lia
  have hr:l[k.toNat]? = some (WB l k):=by unfold WB;rw[tI LB];rfl
  have ok:=sc _ _ hr;rw[qV k0] at ok;refine⟨k,_,rfl,hr,ok,rfl,λj hj=>?_⟩;have Um:=zu sc hk hr j hj;have lt:=Dv ig e Um (fu ok j hj).2;obtain⟨m,hm⟩:=z0.mp Um;rw[bZ (d8 l last) hm] at lt;exact⟨m,lt,hm⟩
def Eg{l:List Rw}{last:Nat}(sc:gX l)(hl:last<l.length):gX (oq l last):=λi r h=>by obtain⟨k,r0,_,_,ok,rfl,hd⟩:=Ef sc hl h;refine Kq ok λj hj=>?_;obtain⟨m,hm,e⟩:=hd j hj;rw[Ju e];lia
def nM(l:List Rw)(last:Nat):(oq l last).length=(aY l last).length:=by unfold oq;rw[b4]
def Ex{α:Type}(S:Sm α){l:List Rw}{last:Nat}(sc:gX l)(hl:last<l.length):∀ (i:Nat) (k:Int),(aY l last)[i]? = some k->S.at (oq l last) i=S.at l k:=by
 intro i
 induction i using Nat.strongRecOn with
 |ind i ih =>
  intro k h;have hi:i<(oq l last).length:=by rw[nM];exact(h9.mp h).1
  obtain⟨k',r0,e1,e2,ok,er,hd⟩:=Ef sc hl (tI hi);rw[h] at e1;cases e1;have k0:=(fW sc (nh h)).1;rw[ud S (Eg sc hl) (tI hi),er,S.rn];have:S.at l k=S.H r0 (S.at l):=by have:=ud S sc e2;rwa[qV k0] at this
  rw[this];refine S.cg λj hj=>?_;obtain⟨m,hm,e⟩:=hd j hj;rw[Ju e];exact ih m hm j e
def Bt(sc:gX l):(aY l last)[(aY l last).length-1]? = some (last:Int):=by
 obtain⟨m,hm⟩:=z0.mp (pK sc);obtain⟨h1,h2⟩:=h9.mp hm;by_cases z:m=(aY l last).length-1
 ·rw[<- z];exact hm
 ·have h3:(aY l last).length-1<(aY l last).length:=by lia
  have:=E8.mp (ig) m _ h1 h3 (by lia);have:=(fW sc (L6 h3)).2;lia
def Ax(sc:gX l):1<=(aY l last).length:=Sf (pK sc)
def tX{α:Type}(S:Sm α){l:List Rw}{last:Nat}(sc:gX l)(hl:last<l.length):S.at (oq l last) (((oq l last).length-1:Nat):Int)=S.at l last:=by have:=Ex S sc hl _ _ (Bt sc);rw[nM];exact this
def DS(x y:Rw):Bool:=decide (eB y=eB x)
def jv(rs:List Rw)(x:Rw):List Rw × Int:=if rs.any (DS x)=true then (rs,(rs.findIdx (DS x):Nat)) else (rs++[x],(rs.length:Nat))
def u6{rs:List Rw}{x:Rw}:rs.any (DS x)=true↔eB x∈rs.map eB:=by rw[Fc,c9];exact⟨λ⟨y,hy,e⟩=>⟨y,hy,of_decide_eq_true e⟩,λ⟨y,hy,e⟩=>⟨y,hy,decide_eq_true e⟩⟩
def DP{rs:List Rw}{x:Rw}(nd:(rs.map eB).Nodup)(sc:gX rs)(ok:oI rs.length x):((jv rs x).1.map eB).Nodup/\gX (jv rs x).1/\(jv rs x).1[(jv rs x).2.toNat]? = some x/\0<=(jv rs x).2/\(jv rs x).2<(jv rs x).1.length/\(∃ m,(jv rs x).1=rs++m/\∀ r∈m,r=x)/\(jv rs x).1.length<=rs.length+1:=by
 unfold jv;by_cases h:rs.any (DS x)=true
 ·rw[if_pos h];have hl:rs.findIdx (DS x)<rs.length:=List.findIdx_lt_length.mpr (Fc.mp h);have e:DS x rs[rs.findIdx (DS x)]=true:=List.findIdx_getElem;refine⟨nd,sc,?_,Int.natCast_nonneg _,by simpa using hl,⟨[],by simp,λ_ z=>nomatch z⟩,by simp⟩;simp only[IL];rw[tI hl,Il (of_decide_eq_true e)]
 ·rw[if_neg h];refine⟨?_,sc.app ok,by simp,Int.natCast_nonneg _,by simp;lia,⟨[x],rfl,λr z=>ic.mp z⟩,by simp⟩;rw[kS];exact pj.mpr ⟨nd,by simp,λa ha b hb e=>h (u6.mpr (by
   have hb:b=eB x:=by simpa using hb
   rw[<- hb,<- e];exact ha))⟩
def Jg{rs:List Rw}{x:Rw}{fI:List (List RI)}{k:Nat}(nd:(rs.map eB).Nodup)(h:eB x∈rs.map eB/\fI=rs.map eB\/eB x∉rs.map eB/\fI=rs.map eB++[eB x])(hk:fI[k]? = some (eB x)):fI=(jv rs x).1.map eB/\(k:Int)=(jv rs x).2:=by
 unfold jv;rcases h with⟨m,rfl⟩|⟨m,rfl⟩
 ·rw[if_pos (u6.mpr m)];refine⟨rfl,?_⟩;obtain⟨h1,h2⟩:=h9.mp hk;have hl:rs.findIdx (DS x)<rs.length:=List.findIdx_lt_length.mpr (Fc.mp (u6.mpr m));have e:DS x rs[rs.findIdx (DS x)]=true:=List.findIdx_getElem;have e2:(rs.map eB)[rs.findIdx (DS x)]'(by rw[b4];exact hl)=(rs.map eB)[k]:=by rw[h2,Zf];exact of_decide_eq_true e
  have:=(Ss nd).mp e2;lia
 ·rw[if_neg (λz=>m (u6.mp z))];refine⟨by simp,?_⟩;by_cases z:k<(rs.map eB).length
  ·rw[IC z] at hk;exact absurd (nh hk) m
  ·rw[B5 (by lia)] at hk;have:k-(rs.map eB).length<1:=by have:=(h9.mp hk).1;simpa using this
   rw[b4] at this z;lia
theorem rw_ok:∀ {r:Rw} (n:Nat),oI k r->gu (n+2) (eS r)=true
 |.st w d j,n,h=>by
  have h1:=h.2.1.ok;have h2:PyData.strOk w=true:=by rcases h.1 with rfl|rfl<;>decide +kernel
  simp[eS,gu,h1,h2]
 |.nt j,n,h=>by
  have h2:PyData.strOk "not" = true:=by decide +kernel
  simp[eS,gu,h2]
 |.jn w ps,n,h=>by
  have h2:PyData.strOk w=true:=by rcases h.1 with rfl|rfl<;>decide +kernel
  simp[eS,gu,h2]
def j3(n:Nat)(ps:List Int):List Int:=(aR n).filter λk=>decide (k∈ps)
def uK{n:Nat}{ps:List Int}(h:∀ p∈ps,0<=p/\p<n){x:Int}:x∈j3 n ps↔x∈ps:=by unfold j3;rw[B8,decide_eq_true_iff,h_];exact⟨λz=>z.2,λz=>⟨h x z,z⟩⟩
def KR(n:Nat)(ps:List Int):(j3 n ps).Pairwise (· < ·):=by exact List.Pairwise.filter _ (vv.mpr (W8.imp λh=>by lia))
def Kv{n:Nat}{ps:List Int}(h:∀ p∈ps,0<=p/\p<n):(j3 n ps).length<=ps.length:=dR (Bg (KR n ps)) λx hx=>(uK h).mp hx
def Hk{n:Nat}{ps:List Int}(h:∀ p∈ps,0<=p/\p<n)(hl:ps.length<=200){G:List Key->Prop}(q:G ((j3 n ps).map λx=>(Sum.inl x:Key))):∃ (ks:List Key) (b:Bool),ps.map D.int=ks.map iO/\ks.length<=1000/\(∀ k∈ks,oy k=b)/\∀ ms:List Key,ms.Nodup->(∀ k,k∈ms↔k∈ks)->(ms.Pairwise λa b=>oa b a=false)->G ms:=by
 refine⟨ps.map λx=>(Sum.inl x:Key),true,by rw[fE];rfl,by rw[b4];lia,λk hk=>?_,λms nd hm pw=>?_⟩
 ·obtain⟨x,_,rfl⟩:=c9.mp hk;rfl
 ·have hk:∃ l:List Int,ms=l.map λx=>(Sum.inl x:Key):=by
   refine⟨ms.map λk=>(match k with
    |.inl x=>x
    |.inr _=>0),?_⟩
   rw[fE];refine(List.map_id ms).symm.trans (D2 λk hk=>?_);obtain⟨x,_,rfl⟩:=c9.mp ((hm k).mp hk);rfl
  obtain⟨l,rfl⟩:=hk;have OY:l.Nodup:=by
   unfold List.Nodup at *
   rw[vv] at nd;exact nd.imp λh e=>h (by rw[e])
  have up:l.Pairwise (· < ·):=by
   rw[vv] at pw;refine(pw.and OY).imp λ{a b} ⟨h1,h2⟩=>?_;have h1:¬ b<a:=by simpa[oa] using h1
   lia
  have:l=j3 n ps:=zb up (KR n ps) λx=>by rw[uK h,<- zE,hm,zE]
  rw[this];exact q
def ti(l:List Rw)(jn:Str)(ms:List Int):List Rw × Int:=if ms.length=1 then (l,ms.getD 0 0) else jv l (.jn jn ms)
def tj(l:List Rw)(w d jn:Str)(ps:List Int):List Rw × Int:=jv (ti l jn (j3 l.length ps)).1 (.st w d (ti l jn (j3 l.length ps)).2)
structure Uo(l:List Rw)(w d jn:Str)(ps:List Int):Prop where
 w:w = "some"\/w = "all"
 d:xi d
 j:jn = "and"\/jn = "or"
 nd:(l.map eB).Nodup
 sc:gX l
 pi:∀ p∈ps,0<=p/\p<l.length
 pl:ps.length<=200
 ll:l.length<=5000
def JF{w d jn:Str}{ps:List Int}(h:Uo l w d jn ps):((ti l jn (j3 l.length ps)).1.map eB).Nodup/\gX (ti l jn (j3 l.length ps)).1/\(0<=(ti l jn (j3 l.length ps)).2/\(ti l jn (j3 l.length ps)).2<(ti l jn (j3 l.length ps)).1.length)/\(∃ m,(ti l jn (j3 l.length ps)).1=l++m)/\(ti l jn (j3 l.length ps)).1.length<=l.length+1/\oI l.length (.jn jn (j3 l.length ps)) /\
  ∀ (α:Type) (S:Sm α),(∀ x,S.H (.jn jn [x]) (S.at l)=S.at l x)->S.at (ti l jn (j3 l.length ps)).1 (ti l jn (j3 l.length ps)).2=S.H (.jn jn (j3 l.length ps)) (S.at l):=by
 have ml:=Kv h.pi;have mm:∀ p∈j3 l.length ps,0<=p/\p<l.length:=λp hp=>h.pi p ((uK h.pi).mp hp);have hl:=h.pl;have ok:oI l.length (.jn jn (j3 l.length ps)):=⟨h.j,by lia,mm⟩
 unfold ti;split
 ·rename_i e;obtain⟨x,ex⟩:=List.length_eq_one_iff.mp e;rw[ex] at mm ⊢;refine⟨h.nd,h.sc,mm x (by simp),⟨[],by simp⟩,II _,ex ▸ ok,λα S one=>(one x).symm⟩
 ·obtain⟨p1,p2,p3,p4,p5,⟨m,p6,p7⟩,p8⟩:=DP h.nd h.sc ok;refine⟨p1,p2,⟨p4,p5⟩,⟨m,p6⟩,p8,ok,λα S _=>?_⟩;have:=ud S p2 p3;rw[qV p4] at this;rw[this];refine S.cg λj hj=>?_;have:=fu ok j hj;rw[p6];exact mq S (by lia)
def NZ{w d jn:Str}{ps:List Int}(h:Uo l w d jn ps):((tj l w d jn ps).1.map eB).Nodup/\gX (tj l w d jn ps).1/\(0<=(tj l w d jn ps).2/\(tj l w d jn ps).2<(tj l w d jn ps).1.length)/\(∃ m,(tj l w d jn ps).1=l++m)/\(tj l w d jn ps).1.length<=l.length+2 /\
  ∀ (α:Type) (S:Sm α),(∀ x,S.H (.jn jn [x]) (S.at l)=S.at l x)->S.at (tj l w d jn ps).1 (tj l w d jn ps).2=S.H (.st w d 0) λ_=>S.H (.jn jn (j3 l.length ps)) (S.at l):=by
 obtain⟨i1,i2,i3,⟨m1,i4⟩,i5,_,i6⟩:=JF h;unfold tj;have ok:oI (ti l jn (j3 l.length ps)).1.length (.st w d (ti l jn (j3 l.length ps)).2):=⟨h.w,h.d,i3⟩
 obtain⟨p1,p2,p3,p4,p5,⟨m,p6,p7⟩,p8⟩:=DP i1 i2 ok;refine⟨p1,p2,⟨p4,p5⟩,⟨m1++m,by rw[p6,i4,B7]⟩,by lia,λα S one=>?_⟩;have:=ud S p2 p3;rw[qV p4] at this;rw[this,<- i6 α S one];refine(S.rn (λ_=>(ti l jn (j3 l.length ps)).2) (.st w d 0) _).trans (S.cg λj _=>?_);rw[p6];exact mq S (by lia)
def xX(nd:(l.map eB).Nodup)(ok:oI l.length x)(hl:l.length<=6000)(q:Q ((jv l x).1.map eB) (jv l x).2):qN (l.map eB) [eS x] Q :=
 ⟨eB x,by rw[Ak],by rw[Ak];exact rw_ok 10 ok,by rw[b4];exact DW (by lia),λfI k hr hk=>by
  obtain⟨rfl,e⟩:=Jg nd hr hk;rw[e];exact q⟩
def zC(l:List dy):Sm Tr where
 H:=λr g=>match r with
  |.st w d j=>λs=>if w = "some" then (aM l s d).any (g j) else (aM l s d).all (g j)
  |.nt j=>λs=>!(g j s)
  |.jn w ps=>λs=>if w = "and" then ps.all (λp=>g p s) else ps.any (λp=>g p s)
 z:=λ_=>false
 cg:=λ{r g g'} h=>by
  cases r with
  |st w d j=>simp only[h j (ic.mpr rfl)]
  |nt j=>simp only[h j (ic.mpr rfl)]
  |jn w ps =>
   funext s;have e:∀ p∈ps,g p s=g' p s:=λp hp=>by rw[h p hp]
   simp only;rw[z5];split
   ·grind
   ·grind
 rn:=λf r g=>by
  cases r with
  |st w d j=>rfl
  |nt j=>rfl
  |jn w ps=>funext s;simp[HV,L9,List.any_map,Function.comp_def]
def Ce(l:List dy)(rs:List Rw):(zC l).vals rs=jS l rs:=by
 suffices h:∀ v:List Tr,rs.foldl (λv r=>v++[(zC l).H r λj=>v.getD j.toNat (zC l).z]) v=HP l v rs from h []
 induction rs with
 |nil=>exact λ_=>rfl
 |cons r rs ih =>
  intro v;rw[xC,ih];have:ng l v r=(zC l).H r λj=>v.getD j.toNat (zC l).z:=by cases r<;>rfl
  rw[HP,this]
def xt:Sm Int where
 H:=λr g=>match r with
  |.st _ _ j=>g j+1
  |.nt j=>g j
  |.jn _ ps=>sT (ps.map g)
 z:=0
 cg:=λ{r g g'} h=>by
  cases r with
  |st w d j=>simp only[h j (ic.mpr rfl)]
  |nt j=>simp only[h j (ic.mpr rfl)]
  |jn w ps=>exact congrArg sT (D2 h)
 rn:=λf r g=>by
  cases r with
  |st w d j=>rfl
  |nt j=>rfl
  |jn w ps=>simp[HV,Function.comp_def]
def uI(rs:List Rw):xt.vals rs=deps rs:=by
 suffices h:∀ v:List Int,rs.foldl (λv r=>v++[xt.H r λj=>v.getD j.toNat xt.z]) v=E1 v rs from h []
 induction rs with
 |nil=>exact λ_=>rfl
 |cons r rs ih =>
  intro v;rw[xC,ih];have:dep v r=xt.H r λj=>v.getD j.toNat xt.z:=by cases r<;>rfl
  rw[E1,this]
def J5(l:List Rw)(k:Int):0<=xt.at l k:=by unfold Sm.at;rw[uI];exact fY (pC l) _
theorem tQ:∀ (l:List Int) (b x:Int),x<=b\/x∈l->x<=l.foldl (λb x=>if x>b then x else b) b
 |[],b,x,h=>h.elim id λh=>nomatch h
 |y :: l,b,x,h=>by
  rw[xC];refine tQ l _ x ?_;rcases h with h|h
  ·exact .inl (by split<;>lia)
  ·grind
theorem yQ:∀ (l:List Int) (b c:Int),b<=c->(∀ x∈l,x<=c)->l.foldl (λb x=>if x>b then x else b) b<=c
 |[],b,c,h,_=>h
 |y :: l,b,c,h,g=>by rw[xC];refine yQ l _ c ?_ λx hx=>g x (eI _ hx);have:=g y eh;split<;>lia
def MJ (l:List dy) (g:Int->Tr) (x:Int):(zC l).H (.jn "and" [x]) g=g x:=by funext s;simp[zC]
def Nb(jn:Str)(h:0<=g x):xt.H (.jn jn [x]) g=g x:=by show sT [g x]=g x;simp only[sT,xC,Sw];split<;>lia
def DX (l:List dy) (d:Str) (j:Int) (g:Int->Tr) (z:Int):(zC l).H (.st "some" d j) g z=(aM l z d).any (g j):=by show(if ("some" : Str) = "some" then (aM l z d).any (g j) else (aM l z d).all (g j))=_;exact if_pos rfl
def Jj (l:List dy) (ms:List Int) (g:Int->Tr) (z:Int):(zC l).H (.jn "and" ms) g z=ms.all λn=>g n z:=by show(if ("and" : Str) = "and" then ms.all (λn=>g n z) else ms.any (λn=>g n z))=_;exact if_pos rfl
def nh'{α:Type}{l:List α}{d:α}(f:α->D)(h:1<=l.length):gi (l.map f) (-1)=some (f (l.getD (l.length-1) d)):=by
 have iX:l≠[]:=λz=>by rw[z] at h;simp at h
 have e:l=l.dropLast++[l.getD (l.length-1) d]:=by rw[D1,<- List.getLast?_eq_getElem?,List.getLast?_eq_some_getLast iX];exact(List.dropLast_concat_getLast iX).symm
 conv=>lhs;rw[e]
 rw[kS];exact Vh _ _
abbrev Nm:=List (P2 × Int)
def DT(nm:Nm):Mp:=nm.map λx=>(x.1,.int x.2)
def BM(nm:Nm)(x:P2):Int:=((nm.find? λy=>decide (y.1=x)).map (·.2)).getD 0
def xr(h:x∈nm.map (·.1)):dS (gE (DT nm)) (ky x)=some (.int (BM nm x))/\(x,BM nm x)∈nm:=by
 induction nm with
 |nil=>exact nomatch h
 |cons y nm ih =>
  unfold BM dS gE DT at *
  by_cases e:y.1=x
  ·grind
  ·have e2:¬ ky y.1=ky x:=λz=>e (oV z);simp only[gL,D4,e,e2];obtain⟨a,b⟩:=ih ((eu.mp h).resolve_left λz=>e z.symm);exact⟨a,eI _ b⟩
def vk(l:List dy)(nm:Nm)(q:Int)(s:Str)(e:Int):List Int:=(aM l q s).map λo=>BM nm (e,o)
structure LH(steps:List dy)(mp:Mp)(i:Nat)(l:List Rw)(nm:Nm):Prop where
 nd:(l.map eB).Nodup
 sc:gX l
 ll:l.length<=2*i
 ks:nm.map (·.1)=(eT mp).take i
 bd:∀ x∈nm,0<=x.2/\x.2<l.length
 va:∀ x∈nm,∀ k:Nat,vj steps k x.1->(zC steps).at l x.2 x.1.1=true/\(zC steps).at l x.2 x.1.2=false/\xt.at l x.2=k
def LH.nil(steps:List dy)(mp:Mp):LH steps mp 0 [] []:=⟨by simp,gX.nil,by simp,by simp,(λx h=>nomatch h),λx h=>nomatch h⟩
section
variable {many:Int}{steps:List dy}{mp:Mp}{i:Nat}{l:List Rw}{nm:Nm}{p q e:Int}{k:Nat}{s:Str}
def All.ahead(ha:All many steps mp)(dr:qB many steps)(hx:mp[i]? = some ((p,q),.tup [.int k,.str s,.int e])):vj steps k (p,q)/\(p,s,e)∈steps/\ly many (p,q)/\∀ o,(q,s,o)∈steps->(e,o)∈(eT mp).take i/\∃ j,j<k/\vj steps j (e,o):=by
 have hm:=nh hx;obtain⟨hp,k',fs,s',e',ed,he,ho⟩:=ha.oP _ hm;simp only[D.tup.injEq,List.cons.injEq,D.int.injEq,D.str.injEq,and_true] at ed;obtain⟨e1,rfl,rfl⟩:=ed;have e1:k=k':=by lia
 subst e1;refine⟨fs,he,hp,λo hm=>?_⟩;obtain⟨j,hj,r⟩:=ho o hm;obtain⟨y,hy,ey⟩:=c9.mp (ha.all (e,o) ⟨(dr _ he).2.2.2,(dr _ hm).2.2.2⟩ j r);obtain⟨_,k2,E2,_⟩:=ha.oP y hy;rw[ey] at E2;have CM:k2<=j:=Zh λz=>E2.2 j z r;refine⟨?_,k2,by lia,E2⟩;obtain⟨i2,wm⟩:=z0.mp hy;obtain⟨h1,g1⟩:=h9.mp hx;obtain⟨h2,g2⟩:=h9.mp wm;have lt:i2<i:=by
  rcases Nat.lt_trichotomy i2 i with z|z|z
  ·exact z
  ·subst z;rw[g1] at g2;rw[<- g2] at ey;rw[<- ey] at E2;have:=fs.uniq E2;lia
  ·have:=E8.mp ha.Wz i i2 h1 h2 z k k2 (by rw[g1];exact fs) (by rw[g2,ey];exact E2);lia
 rw[<- ey];exact z0.mpr ⟨i2,by rw[UC,if_pos lt,eT,g9,wm];rfl⟩
def LH.step (h:LH steps mp i l nm) (ha:All many steps mp) (dr:qB many steps) (hz:steps.length<=200) (hx:mp[i]? = some ((p,q),.tup [.int k,.str s,.int e])):Uo l "some" s "and" (vk steps nm q s e)/\LH steps mp (i+1) (tj l "some" s "and" (vk steps nm q s e)).1 (nm++[((p,q),(tj l "some" s "and" (vk steps nm q s e)).2)]):=by
 obtain⟨fs,he,hp,ho⟩:=ha.ahead dr hx;have hi:=(h9.mp hx).1;have al:=ha.len;have nb:∀ o,(q,s,o)∈steps->((e,o),BM nm (e,o))∈nm:=λo hm=>(xr (by rw[h.ks];exact(ho o hm).1)).2;have ll:=h.ll;have el:=uG steps q s;have ok:Uo l "some" s "and" (vk steps nm q s e):=⟨.inl rfl,(dr _ he).2.2.1,.inl rfl,h.nd,h.sc,λn hn=>by
  obtain⟨o,hm,rfl⟩:=c9.mp hn;exact h.bd _ (nb o (bB.mp hm)),by unfold vk;rw[b4];lia,by lia⟩
 obtain⟨o1,o2,o3,⟨m,o4⟩,o5,o6⟩:=NZ ok;have mm:∀ n,n∈j3 l.length (vk steps nm q s e)↔∃ o,(q,s,o)∈steps/\BM nm (e,o)=n:=λn=>by rw[uK ok.pi];unfold vk;rw[c9];exact⟨λ⟨o,a,b⟩=>⟨o,bB.mp a,b⟩,λ⟨o,a,b⟩=>⟨o,bB.mpr a,b⟩⟩
 have tk:(eT mp).take (i+1)=(eT mp).take i++[(p,q)]:=by rw[vt,eT,g9,hx];rfl
 refine⟨ok,o1,o2,by lia,by rw[kS,h.ks,tk];rfl,λx hx=>?_,λx hx k2 E2=>?_⟩
 ·rcases hJ.mp hx with z|z
  ·have:=h.bd x z;rw[o4,mG];lia
  ·rw[ic.mp z];exact o3
 ·rcases hJ.mp hx with z|z
  ·have b:=h.bd x z;rw[o4,mq _ (by lia),mq _ (by lia)];exact h.va x z k2 E2
  ·rw[ic.mp z] at E2 ⊢;rw[E2.uniq fs,o6 _ _ (MJ steps _),o6 _ xt λx=>Nb _ (J5 l x)];have vo:∀ o,(hm:(q,s,o)∈steps)->(zC steps).at l (BM nm (e,o)) e=true/\(zC steps).at l (BM nm (e,o)) o=false/\∃ j:Nat,j<k/\vj steps j (e,o)/\xt.at l (BM nm (e,o))=j:=λo hm=>by obtain⟨_,j,hj,f⟩:=ho o hm;obtain⟨a,b,c⟩:=h.va _ (nb o hm) j f;exact⟨a,b,j,hj,f,c⟩
   refine⟨?_,?_,?_⟩
   ·rw[DX,Fc];refine⟨e,bB.mpr he,?_⟩;rw[Jj,yT];intro n hn;obtain⟨o,hm,rfl⟩:=(mm n).mp hn;exact(vo o hm).1
   ·rw[DX,Sq];intro o hm;rw[Jj,yT];intro z;have:=z _ ((mm _).mpr ⟨o,bB.mp hm,rfl⟩);rw[(vo o (bB.mp hm)).2.1] at this;cases this
   ·show sT ((j3 l.length (vk steps nm q s e)).map (xt.at l))+1=k;have k1:1<=k:=by
     cases k with
     |zero=>exact fs.1.elim
     |succ k=>lia
    have up:=yQ ((j3 l.length (vk steps nm q s e)).map (xt.at l)) 0 (k-1:Int) (by lia) λx hx=>by obtain⟨n,hn,rfl⟩:=c9.mp hx;obtain⟨o,hm,rfl⟩:=(mm n).mp hn;obtain⟨_,_,j,hj,_,ej⟩:=vo o hm;lia
    have nn:=Dm ((j3 l.length (vk steps nm q s e)).map (xt.at l));unfold sT at nn ⊢;generalize hM:((j3 l.length (vk steps nm q s e)).map (xt.at l)).foldl (λb x=>if x>b then x else b) 0=M at *
    refine Classical.byContradiction λz=>?_;refine fs.2 (M.toNat+1) (by lia) (.inr ⟨s,e,he,λo hm=>?_⟩);obtain⟨_,_,j,hj,f,ej⟩:=vo o hm;have:=tQ ((j3 l.length (vk steps nm q s e)).map (xt.at l)) 0 j (.inr (c9.mpr ⟨_,(mm _).mpr ⟨o,hm,rfl⟩,ej⟩));exact f.1.mono (by lia)
end
def pR:WS :=
 (cq (iP (wt (wx (wB (eP (BE "str") (ae 0)))) (wx (wB (gU EH EH (wC (.int 1)) (eP oi (ae 0)) (wC (.int 6))))))
 (fT (wC (.bl false)))
 bj)
 (fT (eP OU (cL (Bu (ae 0)) (gN 0) uk (ay (EI false) (ae 0) (wC (.str "abcdefghijklmnopqrstuvwxyz"))) 1 []))))
def Hx:EF ⟨#[c]⟩ abc=isLet c:=by
 rw[Fj];have:abc.cps.toList=(List.range 26).map (97 + ·):=uH;rw[this];apply z5.mpr;simp only[decide_eq_true_eq,isLet,c9,y6];constructor
 ·rintro⟨i,hi,rfl⟩;lia
 ·intro h;exact⟨c-97,by lia,by lia⟩
def l_:fP:=λds Q=>∃ x:Str,ds=[.str x]/\Q .sh (.bl (decide (1<=x.length/\x.length<=6) && (sg x).all isLet))
def xf:ku 1 l_ pR:=by
 rintro ds Q ⟨x,rfl,h⟩;unfold pR;walk_at "q";refine R.F rfl ?_;walk_at "q";refine R.D (λh1=>?_) λh1=>?_
 ·walk_at "q";refine R.B (λh2=>?_) λh2=>?_;rotate_left
  ·have h2:x.length<=6:=by simp at h2;lia
   walk_at "q"
   refine aN (λ_=>true) (λd=>match d with
    |.str z=>.bl (EF z abc)
    |d=>d) (λρ=>∃ o,ρ=[o]) _ _ _ ⟨_,rfl⟩ ?_ ?_
   ·rintro y hy ρ ⟨o,rfl⟩ N1 N2 _ h2;obtain⟨c,hc,rfl⟩:=c9.mp hy;walk_at "q";exact⟨.inl rfl,h2 _ ⟨_,rfl⟩ rfl⟩
   ·rw[bY];refine⟨(sg x).map isLet,?_,?_⟩
    ·unfold aO';rw[fE,fE];refine D2 λc _=>?_;show D.bl (EF ⟨#[c]⟩ abc)=_;rw[Hx];rfl
    ·rw[decide_eq_true (by lia),Bool.true_and] at h;rw[L9];exact h
  ·have h2:¬ x.length<=6:=by simp at h2;lia
   walk_at "q";rw[decide_eq_false (by lia),Bool.false_and] at h;exact h
 ·walk_at "q";rw[decide_eq_false (by lia),Bool.false_and] at h;exact h
def mK:WS :=
 (fT (lM (eP (BE "int") (ae 0)) (xu (eP (BE "bool") (ae 0)))))
def kh:fP:=λds Q=>∃ d:D,ds=[d]/\Q .sh (.bl (decide (d.ty = "int")))
def vJ:ku 1 kh mK:=by
 rintro ds Q ⟨d,rfl,h⟩;unfold mK;walk_at "q";cases d<;>first
  | (refine R.F rfl ?_;walk_at "q";exact h)
  | (refine R.T rfl ?_;walk_at "q";first|exact h|(refine R.T rfl ?_;walk_at "q";exact h)|(refine R.F rfl ?_;walk_at "q";exact h))
def gP:WS :=
 (iP (wx (wB (gU EH K2 (wC (.int 0)) (ae 1) (ay bX (ae 0) (wC (.int 0))))))
 uT
 bj)
def b7:fP:=λds Q=>∃ (many:Int) (l:List dy) (s:Int),ds=[mD many l,.int s]/\0<=s/\s<many/\Q .sh .non
def oJ:ku 2 b7 gP:=by rintro ds Q ⟨many,l,s,rfl,h0,h1,h⟩;unfold gP mD;walk_at "q";refine R.T (decide_eq_true h0) ?_;walk_at "q";refine R.F (by simp[h1]) ?_;walk_at "q";exact h
def qu:WS :=
 (cq (fq 1 iM)
 (cq (gx 0 (qh (cH (ay bX (ae 0) (wC (.int 1)))) (gT 3 (cQ (gN 2) (cQ (gN 3) (cQ (gN 4) qC))))
 (gx 4 (gx 3 (gx 2 (Wi 1 (kH (ao (ae 2) (ao (ae 3) cE))) (ae 4)))))))
 (jq 1)))
def fJ:fP:=λds Q=>∃ (many:Int) (l:List dy),ds=[mD many l]/\l.length<=1000/\∀ kvs,zv l kvs->Q (.ow true) (.dT kvs)
def yr:ku 5 fJ qu:=by
 rintro ds Q ⟨many,l,rfl,hz,h⟩;unfold qu mD;walk_at "q";refine aW _ (λi ρ=>∃ (kvs:Kn) (o2 o3 o4:Option Sl),zv (l.take i) kvs/\kvs.length<=i/\ρ=[some (.sh (.tup [.int many,.list (l.map yy)])),some (.ow true (.dT kvs)),o2,o3,o4]) ⟨[],_,_,_,zv.nil,by simp,rfl⟩ ?_ ?_
 ·rintro i x ρ hx ⟨kvs,o2,o3,o4,hw,hk,rfl⟩ N hN;have hi:=(h9.mp hx).1;rw[b4] at hi;obtain⟨p,d,r,rfl,hs,et⟩:=zc hx;walk_at "q";refine⟨by lia,?_,hN _ ⟨_,_,_,_,by rw[et];exact hw.put p d r,by have:=yN [.inl p,.inr d] (.int r) kvs;lia,rfl⟩⟩;rw[hw p d];have:=uG (l.take i) p d;rw[lP] at this;split
  ·trivial
  ·show List.length _<_;rw[b4];exact DW (by lia)
 ·rintro ρ ⟨kvs,o2,o3,o4,hw,hk,rfl⟩;rw[b4,AY] at hw;walk_at "q";exact h kvs hw
def mX:WS :=
 (cq (fq 1 (cL (dU (ay bX (ae 0) (wC (.int 0)))) (gN 0) uk (qf cE) 1 []))
 (cq (gx 0 (qh (cH (ay bX (ae 0) (wC (.int 1)))) (gT 3 (cQ (gN 2) (cQ (gN 3) (cQ (gN 4) qC))))
 (gx 4 (gx 3 (BF (aR' (qk 1) (ae 2)) (kH (ao (ae 3) (ao (ae 4) cE))))))))
 (jq 1)))
def j7:fP:=λds Q=>∃ (many:Int) (steps:List dy),ds=[mD many steps]/\(0<=many/\many<=1000)/\qB many steps/\steps.length<=10000/\Q (.ow true) (R5 many steps)
def wK:ku 5 j7 mX:=by
 rintro ds Q ⟨many,steps,rfl,hm,dr,hl,h⟩;unfold mX mD;walk_at "q";refine⟨by lia,by lia,?_⟩;refine aN (λ_=>true) (λ_=>.list []) (λρ=>∃ o,ρ=[o]) _ _ _ ⟨_,rfl⟩ ?_ ?_
 ·rintro x hx ρ ⟨o,rfl⟩ N1 N2 n1 n2;walk_at "q";exact⟨.inr rfl,n2 _ ⟨_,rfl⟩ rfl⟩
 rw[Js];refine aW _ (λi ρ=>∃ o2 o3 o4,ρ=[some (.sh (.tup [.int many,.list (steps.map yy)])),some (.ow true (.list (zt many (steps.take i)))),o2,o3,o4]) ⟨none,none,none,by simp⟩ ?_ ?_
 ·rintro i x ρ hx ⟨o2,o3,o4,rfl⟩ N hN;obtain⟨p,d,r,rfl,hs,ht⟩:=zc hx;have ok:=dr _ hs;walk_at "q";refine⟨p.toNat,.list ((xk (steps.take i) p).map LD),Eh ok.1 (by rw[jN];have:=ok.2.1;lia),GF _ ok.1 ok.2.1,rfl,?_⟩;walk_at "q";refine⟨?_,?_⟩
  ·have:=Hz (steps.take i) p;have:(steps.take i).length<=steps.length:=by rw[lP];lia
   lia
  ·refine hN _ ⟨some (.sh (.int p)),some (.sh (.str d)),some (.sh (.int r)),?_⟩;rw[Jx _ _ _ ok.1 ok.2.1,<- ht]
 ·rintro ρ ⟨o2,o3,o4,rfl⟩;walk_at "q";rw[AY];exact h
def yq:WS :=
 (cq (iP (wt (wB (ay kr (ay bX (ae 0) (wC (.int 0))) (wC (.str "some")))) (wB (ay kr (ay bX (ae 0) (wC (.int 0))) (wC (.str "all")))))
 (fT (qf (ao (ay bX (ae 0) (wC (.int 2))) cE)))
 bj)
 (cq (iP (wB (ay kr (ay bX (ae 0) (wC (.int 0))) (wC (.str "not"))))
 (fT (qf (ao (ay bX (ae 0) (wC (.int 1))) cE)))
 bj)
 (fT (eP v_ (ay bX (ae 0) (wC (.int 1)))))))
def oA:fP:=λds Q=>∃ (r:Rw) (k:Int),ds=[eS r]/\oI k r/\Q (.ow true) (.list ((sA r).map D.int))
def Gq:ku 1 oA yq:=by
 rintro ds Q ⟨r,k,rfl,hr,h⟩;unfold yq
 cases r with
 |st w d j =>
  obtain⟨hw,_⟩:=hr;rw[show eS (.st w d j)=.tup [.str w,.str d,.int j] from rfl];walk_at "q";refine R.D (λe=>?_) λe=>?_
  ·walk_at "q";exact h
  ·walk_at "q";refine R.D (λe=>?_) λe2=>?_
   ·walk_at "q";exact h
   ·exact absurd hw (by simp[e,e2])
 |nt j =>rw[show eS (.nt j)=.tup [.str "not",.int j] from rfl];walk_at "q";refine R.F (decide_eq_false LG.1) ?_;walk_at "q";refine R.F (decide_eq_false LG.2) ?_;walk_at "q";exact h
 |jn w ps =>obtain⟨hw,hl,_⟩:=hr;rw[show eS (.jn w ps)=.tup [.str w,.tup (ps.map .int)] from rfl];walk_at "q";refine R.F (decide_eq_false (AU hw).1) ?_;walk_at "q";refine R.F (decide_eq_false (AU hw).2.1) ?_;walk_at "q";refine R.F (decide_eq_false (AU hw).2.2) ?_;walk_at "q";exact .inl ⟨aX ps,h⟩
def jf:WS :=
 (cq (iP (wt (wB (ay kr (ay bX (ae 0) (wC (.int 0))) (wC (.str "some")))) (wB (ay kr (ay bX (ae 0) (wC (.int 0))) (wC (.str "all")))))
 (fT (kH (ao (ay bX (ae 0) (wC (.int 0))) (ao (ay bX (ae 0) (wC (.int 1))) (ao (ay bX (ae 1) (ay bX (ae 0) (wC (.int 2)))) cE)))))
 bj)
 (cq (iP (wB (ay kr (ay bX (ae 0) (wC (.int 0))) (wC (.str "not"))))
 (fT (kH (ao (ay bX (ae 0) (wC (.int 0))) (ao (ay bX (ae 1) (ay bX (ae 0) (wC (.int 1)))) cE))))
 bj)
 (fT (kH (ao (ay bX (ae 0) (wC (.int 0))) (ao (eP qT (cL (lR (ay bX (ae 0) (wC (.int 1)))) (gN 0) uk (ay bX (ae 1) (ae 0)) 1 [1])) cE))))))
def gk:fP:=λds Q=>∃ (k:Int) (r:Rw) (num:D) (f:Int->Int),ds=[eS r,num]/\oI k r/\(∀ j∈sA r,JN num f j)/\Q .sh (eS (HV f r))
def yO{num:D}(h:JN num f j)(q:Q .sh (.int (f j))):bX .sh num m' (.int j) Q:=by
 rcases h with⟨ns,rfl,j0,e⟩|⟨kvs,rfl,e⟩
 ·have a:gi (ns.map D.int) j=some (.int (f j)):=by have:=FI (xs:=ns.map D.int) (by rw[g9,e];rfl);rwa[qV j0] at this
  exact⟨_,a,q⟩
 ·exact⟨.inl j,.int (f j),rfl,e,q⟩
def WD(f:Int->Int):D->D
 |.int j=>.int (f j)
 |d=>d
def pW:ku 2 gk jf:=by
 rintro ds Q ⟨k,r,num,f,rfl,ok,hn,h⟩;unfold jf
 cases r with
 |st w d j =>
  obtain⟨hw,hd,j0,j1⟩:=ok;have fin:∀ Q':Md->D->Prop,Q' .sh (.int (f j))->bX .sh num .sh (.int j) Q':=λQ' q=>yO (hn j (ic.mpr rfl)) q;rw[show eS (.st w d j)=.tup [.str w,.str d,.int j] from rfl];walk_at "q";refine R.D (λe=>?_) λe=>?_
  ·walk_at "q";refine fin _ ?_;walk_at "q";exact h
  ·walk_at "q";refine R.D (λe=>?_) λe2=>?_
   ·walk_at "q";refine fin _ ?_;walk_at "q";exact h
   ·exact absurd hw (by simp[e,e2])
 |nt j =>rw[show eS (.nt j)=.tup [.str "not",.int j] from rfl];walk_at "q";refine R.F (decide_eq_false LG.1) ?_;walk_at "q";refine R.F (decide_eq_false LG.2) ?_;walk_at "q";refine yO (hn j (ic.mpr rfl)) ?_;walk_at "q";exact h
 |jn w ps =>
  obtain⟨hw,hl,hp⟩:=ok;rw[show eS (.jn w ps)=.tup [.str w,.tup (ps.map .int)] from rfl];walk_at "q";refine R.F (decide_eq_false (AU hw).1) ?_;walk_at "q";refine R.F (decide_eq_false (AU hw).2.1) ?_;walk_at "q";refine R.F (decide_eq_false (AU hw).2.2) ?_;walk_at "q";refine aN (λ_=>true) (WD f) (λρ=>∃ o,ρ=[o,some (.sh num)]) _ _ _ ⟨_,rfl⟩ ?_ ?_
  ·rintro x hx ρ ⟨o,rfl⟩ N1 N2 h1 h2;obtain⟨j,hj,rfl⟩:=c9.mp hx;walk_at "q";exact yO (hn j hj) ⟨.inl rfl,h2 _ ⟨_,rfl⟩ rfl⟩
  ·have e:((ps.map D.int).filter λ_=>true).map (WD f)=(ps.map f).map D.int:=by rw[Zb.mpr (λ_ _=>rfl),fE,fE];rfl
   rw[e];exact⟨aX _,h⟩
def je:WS :=
 (cq (gx 2 (qh (cH (ae 2)) (gN 3)
 (gx 3 (gx 1 (iP (wB (ay (EI true) (kH (ao (ae 1) (ao (ae 3) cE))) (ae 0)))
 (fT (wC (.bl false)))
 bj)))))
 (fT (wC (.bl true))))
def gq:fP:=λds Q=>∃ (mp:Mp) (e:Int) (os:List Int),ds=[.dT (gE mp),.int e,.list (os.map .int)]/\∀ b,(b=true↔∀ o∈os,(e,o)∈eT mp)->Q .sh (.bl b)
def pJ:ku 4 gq je:=by
 rintro ds Q ⟨mp,e,os,rfl,h⟩;unfold je;walk_at "q";refine aW _ (λi ρ=>∃ o3,(∀ o∈os.take i,(e,o)∈eT mp)/\ρ=[some (.sh (.dT (gE mp))),some (.sh (.int e)),some (.sh (.list (os.map .int))),o3]) ⟨_,(λp hp=>by simp at hp),rfl⟩ ?_ ?_
 ·rintro i x ρ hx ⟨o3,hi,rfl⟩ N hN;obtain⟨o,rfl,hm,tk⟩:=int_at hx;walk_at "q";have e1:=kJ mp (e,o);unfold ky at e1;rw[e1];by_cases z:(e,o)∈eT mp
  ·rw[decide_eq_true z];walk_at "q";exact hN _ ⟨_,vp tk hi z,rfl⟩
  ·rw[decide_eq_false z];walk_at "q";exact h false ⟨(λy=>by cases y),λy=>absurd (y o hm) z⟩
 ·rintro ρ ⟨o3,hi,rfl⟩;rw[b4,AY] at hi;walk_at "q";exact h true ⟨λ_=>hi,λ_=>rfl⟩
def lq:WS :=
 (cq (iP (wB (ay kr (ay bX (ae 2) (wC (.int 0))) (wC (.str "not"))))
 (fT (xu (ay bX (ay bX (ae 1) (ay bX (ae 2) (wC (.int 1)))) (ae 3))))
 bj)
 (cq (iP (wB (ay kr (ay bX (ae 2) (wC (.int 0))) (wC (.str "and"))))
 (fT (eP OU (cL (lR (ay bX (ae 2) (wC (.int 1)))) (gN 0) uk (ay bX (ay bX (ae 2) (ae 0)) (ae 1)) 1 [3,1])))
 bj)
 (cq (iP (wB (ay kr (ay bX (ae 2) (wC (.int 0))) (wC (.str "or"))))
 (fT (eP Wl (cL (lR (ay bX (ae 2) (wC (.int 1)))) (gN 0) uk (ay bX (ay bX (ae 2) (ae 0)) (ae 1)) 1 [3,1])))
 bj)
 (cq (gx 3 (fq 4 (cL (mY (OX (ae 0) (kH (ao (ae 3) (ao (ay bX (ae 2) (wC (.int 1))) cE))) (qf cE))) (gN 0) uk (ay bX (ay bX (ae 2) (ay bX (ae 1) (wC (.int 2)))) (ae 0)) 1 [2,1])))
 (fT (TR (wB (ay kr (ay bX (ae 2) (wC (.int 0))) (wC (.str "some")))) (eP Wl (ae 4)) (eP OU (ae 4))))))))
def iV:fP:=λds Q=>∃ (kvs:Kn) (l:List dy) (many:Int) (ts:List Tr) (r:Rw) (s:Int),ds=[.dT kvs,.list (ts.map (gy many)),eS r,.int s]/\zv l kvs/\qB many l/\oI ts.length r/\0<=s/\s<many/\Q .sh (.bl (ng l ts r s))
def rJ:ku 5 iV lq:=by
 rintro ds Q ⟨kvs,l,many,ts,r,s,rfl,hw,dr,hr,s0,s1,h⟩;unfold lq
 cases r with
 |nt j =>rw[show eS (.nt j)=.tup [.str "not",.int j] from rfl];walk_at "q";refine⟨_,lC hr.1 hr.2,?_⟩;unfold gy;walk_at "q";refine⟨_,lF s0 s1 _,?_⟩;walk_at "q";exact h
 |jn w ps =>
  rw[show eS (.jn w ps)=.tup [.str w,.tup (ps.map .int)] from rfl];walk_at "q";refine R.F (decide_eq_false (AU hr.1).2.2) ?_;walk_at "q";have el:=hr.2.2;refine R.D (λe=>?_) λe=>?_
  ·rw[show ng l ts (.jn w ps) s=ps.all λp=>ts.getD p.toNat (λ_=>false) s from if_pos e] at h;walk_at "q"
   refine aN (λ_=>true) (λd=>match d with
    |.int p=>.bl (ts.getD p.toNat (λ_=>false) s)
    |d=>d) (λρ=>∃ o,ρ=[o,some (.sh (.int s)),some (.sh (.list (ts.map (gy many))))]) _ _ _ ⟨_,rfl⟩ ?_ ?_
   ·rintro y hy ρ ⟨o,rfl⟩ N1 N2 _ h2;obtain⟨p,hp,rfl⟩:=c9.mp hy;walk_at "q";refine⟨_,lC (el p hp).1 (el p hp).2,?_⟩;unfold gy;walk_at "q";exact⟨_,lF s0 s1 _,.inl rfl,h2 _ ⟨_,rfl⟩ rfl⟩
   ·rw[bY];refine⟨ps.map λp=>ts.getD p.toNat (λ_=>false) s,by rw[fE,fE];rfl,?_⟩;rw[L9];exact h
  ·rw[show ng l ts (.jn w ps) s=ps.any λp=>ts.getD p.toNat (λ_=>false) s from if_neg e] at h;walk_at "q";refine R.T (decide_eq_true (hr.1.resolve_left e)) ?_;walk_at "q"
   refine aN (λ_=>true) (λd=>match d with
    |.int p=>.bl (ts.getD p.toNat (λ_=>false) s)
    |d=>d) (λρ=>∃ o,ρ=[o,some (.sh (.int s)),some (.sh (.list (ts.map (gy many))))]) _ _ _ ⟨_,rfl⟩ ?_ ?_
   ·rintro y hy ρ ⟨o,rfl⟩ N1 N2 _ h2;obtain⟨p,hp,rfl⟩:=c9.mp hy;walk_at "q";refine⟨_,lC (el p hp).1 (el p hp).2,?_⟩;unfold gy;walk_at "q";exact⟨_,lF s0 s1 _,.inl rfl,h2 _ ⟨_,rfl⟩ rfl⟩
   ·rw[bY];refine⟨ps.map λp=>ts.getD p.toNat (λ_=>false) s,by rw[fE,fE];rfl,?_⟩;rw[List.any_map];exact h
 |st w d j =>
  rw[show eS (.st w d j)=.tup [.str w,.str d,.int j] from rfl];walk_at "q";refine R.F (decide_eq_false (bv' hr.1).1) ?_;walk_at "q";refine R.F (decide_eq_false (bv' hr.1).2.1) ?_;walk_at "q";refine R.F (decide_eq_false (bv' hr.1).2.2) ?_;walk_at "q";refine zW hw λm=>?_;walk_at "q"
  refine aN (λ_=>true) (λy=>match y with
   |.int p=>.bl (ts.getD j.toNat (λ_=>false) p)
   |y=>y) (λρ=>∃ o,ρ=[o,some (.sh (.tup [.str w,.str d,.int j])),some (.sh (.list (ts.map (gy many))))]) _ _ _ ⟨_,rfl⟩ ?_ ?_
  ·rintro y hy ρ ⟨o,rfl⟩ N1 N2 _ h2;obtain⟨p,hp,rfl⟩:=c9.mp hy;have n9:=(dr _ (bB.mp hp)).2.2.2;walk_at "q";refine⟨_,lC hr.2.2.1 hr.2.2.2,?_⟩;unfold gy;walk_at "q";exact⟨_,lF n9.1 n9.2 _,.inl rfl,h2 _ ⟨_,rfl⟩ rfl⟩
  ·rw[bY]
   have eb:((aM l s d).map D.int).map (λy=>match y with
    |.int p=>D.bl (ts.getD j.toNat (λ_=>false) p)
    |y=>y)=((aM l s d).map λp=>ts.getD j.toNat (λ_=>false) p).map D.bl:=by rw[fE,fE];rfl
   rw[eb];refine R.D (λe=>?_) λe=>?_
   ·rw[show ng l ts (.st w d j) s=(aM l s d).any (ts.getD j.toNat λ_=>false) from if_pos e] at h;walk_at "q";refine⟨_,rfl,?_⟩;rw[List.any_map];exact h
   ·rw[show ng l ts (.st w d j) s=(aM l s d).all (ts.getD j.toNat λ_=>false) from if_neg e] at h;walk_at "q";refine⟨_,rfl,?_⟩;rw[L9];exact h
def fQ:WS :=
 (cq (iP (wB (ay K2 (ae 1) (eP oi (ae 0))))
 (fT (ay bX (ae 0) (ae 1)))
 bj)
 (fT (wC (.int 0))))
def a_:fP:=λds Q=>∃ (ns:List Int) (k:Int),ds=[.list (ns.map .int),.int k]/\0<=k/\Q .sh (.int (ns.getD k.toNat 0))
def lJ:ku 2 a_ fQ:=by
 rintro ds Q ⟨ns,k,rfl,hk,h⟩;unfold fQ;walk_at "q";refine R.D (λhl=>?_) λhl=>?_
 ·walk_at "q";have hn:k.toNat<ns.length:=by lia
  refine⟨.int ns[k.toNat],?_,?_⟩
  ·have:=FI (xs:=ns.map D.int) (j:=k.toNat) (v:=.int ns[k.toNat]) (by simp[hn]);rwa[qV hk] at this
  ·show Q .sh _;simpa[ hn] using h
 ·walk_at "q";have:ns.getD k.toNat 0=0:=by
   have:ns.length<=k.toNat:=by lia
   simp[ B6 this]
  rwa[this] at h
def iZ:WS :=
 (cq (fq 1 (wC (.str "abcdefghijklmnopqrstuvwxyz")))
 (cq (fq 2 (ay mS (ay bX (ae 1) (ay og (ay qc (ae 0) (wC (.int 6))) (wC (.int 26)))) (ay Bk (ay bX (ae 1) (ay og (ay qc (ae 0) (wC (.int 156))) (wC (.int 26)))) (ay og (ay qc (ae 0) (wC (.int 4056))) (wC (.int 5))))))
 (gx 2 (fT (Lc (ay bX (qf (ao (qf (ao (ae 2) (ao (ay mS (ae 2) (wC (.str "a"))) (ao (wC (.str "*")) cE)))) (ao (qf (ao (wC (.str "*")) (ao (ae 2) (ao (ay mS (wC (.str "b")) (Lc (ae 2) (j_ (wC (.int 1))) iD)) cE)))) cE))) (ay og (ae 0) (wC (.int 2)))) iD (j_ (ay mS (wC (.int 1)) (ay og (ay qc (ae 0) (wC (.int 2))) (wC (.int 3))))))))))
def gM:fP:=λds Q=>∃ c:Int,ds=[.int c]/\∀ names:List Str,1<=names.length->names.length<=3->(∀ n∈names,xi n)->Q (.ow true) (.list (names.map .str))
def BP(h:lets x)(n:Int):lets (uS n x):=λc hc=>by obtain⟨y,hy,hc⟩:=List.mem_flatten.mp hc;rw[List.eq_of_mem_replicate hy] at hc;exact h c hc
def qz:ku 3 gM iZ:=by
 rintro ds Q ⟨c,rfl,h⟩;unfold iZ;walk_at "q";obtain⟨c1,e1,l1⟩:=xR (c / 6);obtain⟨c2,e2,l2⟩:=xR (c / 156);have h5:=qm (c / 4056) (show 0<5 by decide);generalize c / 4056 % 5=k at *
 refine⟨c1,e1,c2,e2,?_⟩;have hl:(⟨#[c1]⟩++uS k ⟨#[c2]⟩:Str).length=1+k.toNat:=by rw[bW,nF,aV,aV];lia
 have hb:lets (⟨#[c1]⟩++uS k ⟨#[c2]⟩:Str):=pD (ju l1) (BP (ju l2) k);have hr:(uS k ⟨#[c2]⟩).length=k.toNat:=by rw[nF,aV];lia
 have ha:("a" : Str)=⟨#[97]⟩:=by decide +kernel
 have Z4:("b" : Str)=⟨#[98]⟩:=by decide +kernel
 rw[hr,ha,Z4,aV,aV,aV,aV];generalize (⟨#[c1]⟩++uS k ⟨#[c2]⟩:Str)=base at *
 have hc:=vA base (some 1) none;have d1:xi base:=.inr ⟨by lia,by lia,hb⟩;have d2:xi (base ++ ⟨#[97]⟩):=.inr ⟨by rw[bW,aV];lia,by rw[bW,aV];lia,pD hb (ju rfl)⟩;have d3:xi (⟨#[98]⟩++zo base (some 1) none):=.inr ⟨by rw[bW,aV];lia,by rw[bW,aV];lia,pD (ju rfl) (BW hb _ _)⟩;generalize base ++ ⟨#[97]⟩=w2 at *
 generalize ⟨#[98]⟩++zo base (some 1) none=w3 at *
 refine⟨⟨h5.1,by lia,by lia⟩,by lia,by lia,by lia,?_⟩;have fin:∀ ns:List Str,ns.length=3->(∀ n∈ns,xi n)->Q (.ow true) (.list (kK (ns.map .str) none (some (1+c / 2 % 3)))):=λns e hd=>by
  rw[CT];have hc:=Jd (l:=ns) (a:=0) (b:=1+c / 2 % 3) (by lia) (by lia) (by lia);have e2:kK ns none (some (1+c / 2 % 3))=kK ns (some 0) (some (1+c / 2 % 3)):=by unfold kK;rw[vh (An 0) (by lia)];rfl
  rw[e2];exact h _ hc.1 (by lia) λn hn=>hd n (hc.2.2 n hn)
 rcases (show c % 2=0\/c % 2=1 by lia) with e|e
 ·rw[e];refine⟨_,rfl,?_⟩;walk_at "q";refine .inl (fin [base,w2, "*"] rfl λn hn=>?_);simp only[eu,vw,or_false] at hn;rcases hn with rfl|rfl|rfl
  ·exact d1
  ·exact d2
  ·exact .inl rfl
 ·rw[e];refine⟨_,rfl,?_⟩;walk_at "q";refine .inl (fin ["*",base,w3] rfl λn hn=>?_);simp only[eu,vw,or_false] at hn;rcases hn with rfl|rfl|rfl
  ·exact .inl rfl
  ·exact d1
  ·exact d3
def gO:WS :=
 (cq (fq 2 (qf (ao (kH (ao (wC (.str "and")) (ao (kH cE) cE))) cE)))
 (cq (gx 0 (qh (cH (Lc (ae 0) (j_ (wC (.int 28))) (j_ (wC (.int 63))))) (gN 3)
 (cq (fq 4 (eP oi (ae 2)))
 (iP (wB (ay K2 (ay og (ae 3) (wC (.int 4))) (wC (.int 2))))
 (BF (qk 2) (kH (ao (wC (.str "some")) (ao (ay bX (ae 1) (ay og (ay qc (ae 3) (wC (.int 4))) (eP oi (ae 1)))) (ao (ay TV (ay TV (ae 4) (wC (.int 1))) (ay og (ay qc (ae 3) (wC (.int 12))) (ay Ck (ae 4) (wC (.int 4))))) cE)))))
 (cq (fq 5 (cL (dU (ay og (ay qc (ae 3) (wC (.int 4))) (wC (.int 4)))) (gN 0) uk (ay og (ay qc (ay qc (ae 1) (wC (.int 16))) (ay mS (ay TX (wC (.int 3)) (ae 0)) (wC (.int 1)))) (ae 2)) 1 [3,4]))
 (BF (qk 2) (kH (ao (ay bX (qf (ao (wC (.str "and")) (ao (wC (.str "or")) cE))) (ay og (ae 3) (wC (.int 2)))) (ao (eP qT (ae 5)) cE)))))))))
 (jq 2)))
def Pp:Rw->Prop
 |.st w _ _=>w = "some"
 |.nt _=>False
 |.jn _ _=>True
def fU:fP:=λds Q=>∃ (ns:List Int) (names:List Str),ds=[.list (ns.map .int),.list (names.map .str)]/\ns.length<=63/\1<=names.length/\(∀ n∈names,xi n)/\∀ rs:List Rw,gX rs->(∀ r∈rs,Pp r)->rs.length<=64->Q (.ow true) (.list (rs.map eS))
def n6:ku 6 fU gO:=by
 rintro ds Q ⟨ns,names,rfl,Pt,n1,hd,h⟩;unfold gO;walk_at "q";refine .inl ⟨aX ns,?_⟩;rw[ug];have hc:=fD ns (some 28) (some 63);generalize kK ns (some 28) (some 63)=cells at *
 refine aW _ (λi ρ=>∃ (rs:List Rw) (o3 o4 o5:Option Sl),gX rs/\(∀ r∈rs,Pp r)/\rs.length=i+1/\ρ=[some (.sh (.list (ns.map .int))),some (.sh (.list (names.map .str))),some (.ow true (.list (rs.map eS))),o3,o4,o5]) ⟨[.jn "and" []],_,_,_,gX.nil.app ⟨.inl rfl,by simp,λ_ z=>nomatch z⟩,(λr z=>by rw[ic.mp z];trivial),rfl,rfl⟩ ?_ ?_
 ·rintro i x ρ hx ⟨rs,o3,o4,o5,sc,ps,hl,rfl⟩ N hN;have hi:i<cells.length:=by have:=(h9.mp hx).1;simpa using this
  obtain⟨c,rfl,_,_⟩:=int_at hx;have put:∀ r:Rw,oI rs.length r->Pp r->∀ o3 o4 o5,N [some (.sh (.list (ns.map .int))),some (.sh (.list (names.map .str))),some (.ow true (.list (rs.map eS++[eS r]))),o3,o4,o5]:=λr ok pr o3 o4 o5=>hN _ ⟨rs++[r],_,_,_,sc.app ok,(λx hx=>(hJ.mp hx).elim (ps x) λz=>by rw[ic.mp z];exact pr),by rw[mG,hl];rfl,by rw[Ho]⟩;obtain⟨n,hn,e⟩:=name_mod (c / 4) n1;walk_at "q";refine R.D (λ_=>?_) λ_=>?_
  ·walk_at "q";refine⟨by lia,.str n,e,?_⟩;walk_at "q";generalize hM:(if (4:Int)<rs.length then (4:Int) else rs.length)=M;have mi:=qm (c / 12) (show 0<M by lia);generalize c / 12 % M=y at *
   exact⟨by lia,by lia,put (.st "some" n (rs.length-1-y)) ⟨.inl rfl,hd n hn,by lia,by lia⟩ rfl _ _ _⟩
  ·walk_at "q"
   refine⟨by lia,by lia,aN (λ_=>true) (λd=>match d with
    |.int k=>.int (c / 16 / (3*k+1) % rs.length)
    |d=>d) (λρ=>∃ o,ρ=[o,some (.sh (.int c)),some (.sh (.int rs.length))]) _ _ _ ⟨_,rfl⟩ ?_ ?_⟩
   ·rintro y hy ρ ⟨o,rfl⟩ N1 N2 _ h2;obtain⟨k,hk,rfl⟩:=jw hy;walk_at "q";exact⟨pO (by lia) (by lia),⟨by lia,by lia⟩,by lia,.inl rfl,h2 _ ⟨_,rfl⟩ rfl⟩
   ·rw[bY]
    have hp:∃ ps:List Int,(iu 0 (c / 4 % 4).toNat).map (λd=>match d with
      |.int k=>.int (c / 16 / (3*k+1) % rs.length)
      |d=>d)=ps.map D.int/\ps.length<=4/\∀ p∈ps,0<=p/\p<rs.length:=by
     refine⟨(aR (c / 4 % 4).toNat).map λk=>c / 16 / (3*k+1) % rs.length,by rw[fG,fE,fE];rfl,by rw[b4,c7];lia,λp hp=>?_⟩;obtain⟨k,_,rfl⟩:=c9.mp hp;exact qm _ (by lia)
    obtain⟨ps,e2,pl,pb⟩:=hp;rw[e2];have fin:∀ w:Str,w = "and"\/w = "or"->∀ o3 o4 o5,N [some (.sh (.list (ns.map .int))),some (.sh (.list (names.map .str))),some (.ow true (.list (rs.map eS++[.tup [.str w,.tup (ps.map .int)]]))),o3,o4,o5]:=λw hw=>put (.jn w ps) ⟨hw,by lia,pb⟩ trivial;rcases (by lia : c % 2=0\/c % 2=1) with e3|e3
    ·rw[e3];refine⟨_,rfl,?_⟩;walk_at "q";refine⟨aX _,by lia,?_⟩;rw[aX];exact fin _ (.inl rfl) _ _ _
    ·rw[e3];refine⟨_,rfl,?_⟩;walk_at "q";refine⟨aX _,by lia,?_⟩;rw[aX];exact fin _ (.inr rfl) _ _ _
 ·rintro ρ ⟨rs,o3,o4,o5,sc,ps,hl,rfl⟩;rw[b4] at hl;walk_at "q";exact h rs sc ps (by lia)
def dY:WS :=
 (cq (iP (wB (ay kr (ay bX (ae 1) (wC (.int 0))) (wC (.str "and"))))
 (fT (cL (dU (ay bX (ae 0) (wC (.int 0)))) (gN 0) uk (ay kr (eP oi (cL (lR (ay bX (ae 2) (wC (.int 1)))) (gN 0) (wx (OI (ay bX (ay bX (ae 1) (ae 0)) (ae 2)))) (ae 0) 1 [1,0])) (wC (.int 0))) 1 [2,1]))
 bj)
 (cq (iP (wB (ay kr (ay bX (ae 1) (wC (.int 0))) (wC (.str "or"))))
 (fT (cL (dU (ay bX (ae 0) (wC (.int 0)))) (gN 0) uk (ay VY (eP oi (cL (lR (ay bX (ae 2) (wC (.int 1)))) (gN 0) (OI (ay bX (ay bX (ae 1) (ae 0)) (ae 2))) (ae 0) 1 [1,0])) (wC (.int 0))) 1 [2,1]))
 bj)
 (cq (fq 3 (ay A_ (qf (ao (wC (.bl false)) cE)) (ay bX (ae 0) (wC (.int 0)))))
 (cq (gx 0 (qh (cH (ay bX (ae 0) (wC (.int 1)))) (gN 4)
 (iP (RJ (wB (ay kr (ay bX (ae 4) (wC (.int 1))) (ay bX (ae 1) (wC (.int 1))))) (OI (ay bX (ay bX (ae 2) (ay bX (ae 1) (wC (.int 2)))) (ay bX (ae 4) (wC (.int 2))))))
 (Gu (qk 3) (ay bX (ae 4) (wC (.int 0))) (wC (.bl true)))
 bj)))
 (jq 3)))))
def dg:fP:=λds Q=>∃ (many:Int) (l:List dy) (r:Rw) (ts:List Tr),ds=[mD many l,eS r,.list (ts.map (gy many))]/\(0<=many/\many<=8)/\qB many l/\Pp r/\oI ts.length r/\Q (.ow true) (gy many (ng l ts r))
def jh:ku 5 dg dY:=by
 rintro ds Q ⟨many,l,r,ts,rfl,hm,dr,pr,ok,h⟩;unfold dY mD
 cases r with
 |nt j=>exact pr.elim
 |jn w ps =>
  rw[show eS (.jn w ps)=.tup [.str w,.tup (ps.map .int)] from rfl];walk_at "q";have el:=ok.2.2;refine R.D (λe=>?_) λe=>?_
  ·rw[show ng l ts (.jn w ps)=λs=>ps.all λp=>ts.getD p.toNat (λ_=>false) s from funext λs=>if_pos e] at h;walk_at "q"
   refine⟨by lia,by lia,aN (λ_=>true) (λd=>match d with
    |.int s=>.bl (ps.all λp=>ts.getD p.toNat (λ_=>false) s)
    |d=>d) (λρ=>∃ o,ρ=[o,some (.sh (.list (ts.map (gy many)))),some (.sh (.tup [.str w,.tup (ps.map .int)]))]) _ _ _ ⟨_,rfl⟩ ?_ ?_⟩
   ·rintro y hy ρ ⟨o,rfl⟩ N1 N2 _ h2;obtain⟨k,hk,rfl⟩:=jw hy;walk_at "q";refine aN (bw' λp=>!(ts.getD p.toNat (λ_=>false) (0+k))) id (λρ=>∃ o,ρ=[o,some (.sh (.list (ts.map (gy many)))),some (.sh (.int (0+k)))]) _ _ _ ⟨_,rfl⟩ ?_ ?_
    ·rintro y hy ρ ⟨o,rfl⟩ M1 M2 m1 m2;obtain⟨p,hp,rfl⟩:=c9.mp hy;walk_at "q";refine⟨_,lC (el p hp).1 (el p hp).2,?_⟩;unfold gy;walk_at "q";refine⟨_,lF (by lia) (by lia) _,?_⟩;walk_at "q";exact t8 (λz=>⟨.inl rfl,m2 _ ⟨_,rfl⟩ z⟩) λz=>m1 _ ⟨_,rfl⟩ z
    ·rw[uz,b4,Gw];exact⟨.inl rfl,h2 _ ⟨_,rfl⟩ rfl⟩
   ·rw[bY,fG,fE];exact h
  ·rw[show ng l ts (.jn w ps)=λs=>ps.any λp=>ts.getD p.toNat (λ_=>false) s from funext λs=>if_neg e] at h;walk_at "q";refine R.T (decide_eq_true (ok.1.resolve_left e)) ?_;walk_at "q"
   refine⟨by lia,by lia,aN (λ_=>true) (λd=>match d with
    |.int s=>.bl (ps.any λp=>ts.getD p.toNat (λ_=>false) s)
    |d=>d) (λρ=>∃ o,ρ=[o,some (.sh (.list (ts.map (gy many)))),some (.sh (.tup [.str w,.tup (ps.map .int)]))]) _ _ _ ⟨_,rfl⟩ ?_ ?_⟩
   ·rintro y hy ρ ⟨o,rfl⟩ N1 N2 _ h2;obtain⟨k,hk,rfl⟩:=jw hy;walk_at "q";refine aN (bw' λp=>ts.getD p.toNat (λ_=>false) (0+k)) id (λρ=>∃ o,ρ=[o,some (.sh (.list (ts.map (gy many)))),some (.sh (.int (0+k)))]) _ _ _ ⟨_,rfl⟩ ?_ ?_
    ·rintro y hy ρ ⟨o,rfl⟩ M1 M2 m1 m2;obtain⟨p,hp,rfl⟩:=c9.mp hy;walk_at "q";refine⟨_,lC (el p hp).1 (el p hp).2,?_⟩;unfold gy;walk_at "q";refine⟨_,lF (by lia) (by lia) _,?_⟩;walk_at "q";exact t8 (λz=>⟨.inl rfl,m2 _ ⟨_,rfl⟩ z⟩) λz=>m1 _ ⟨_,rfl⟩ z
    ·rw[uz,b4,Gg];exact⟨.inl rfl,h2 _ ⟨_,rfl⟩ rfl⟩
   ·rw[bY,fG,fE];exact h
 |st w d j =>
  subst pr;rw[show eS (.st "some" d j)=.tup [.str "some",.str d,.int j] from rfl];walk_at "q";refine R.F (decide_eq_false (by decide +kernel)) ?_;walk_at "q";refine R.F (decide_eq_false (by decide +kernel)) ?_;walk_at "q";have rep:∀ n:Nat,(List.replicate n [D.bl false]).flatten=(aR n).map λ_=>D.bl false:=λn=>by rw[List.flatten_replicate_singleton,aR,fE];exact(List.map_const' ..).symm ▸ (by rw[Sr])
  refine⟨by lia,?_⟩;rw[rep];refine aW _ (λi ρ=>∃ o4,ρ=[some (.sh (.tup [.int many,.list (l.map yy)])),some (.sh (.tup [.str "some",.str d,.int j])),some (.sh (.list (ts.map (gy many)))),some (.ow true (gy many λs=>(aM (l.take i) s d).any (ts.getD j.toNat λ_=>false))),o4]) ⟨_,rfl⟩ ?_ ?_
  ·rintro i x ρ hx ⟨o4,rfl⟩ N hN;obtain⟨p,d',r,rfl,hs,et⟩:=zc hx;have hi:=dr _ hs;rw[et] at hN;have es:∀ s,aM (l.take i++[(p,d',r)]) s d=aM (l.take i) s d++if p=s/\d'=d then [r] else []:=λs=>by
    unfold aM;rw[List.filter_append,kS];congr 1;by_cases e:p=s/\d'=d
    ·simp[e.1,e.2]
    ·rw[if_neg e,List.filter_cons_of_neg (by simpa using e)];rfl
   have hN:∀ (U:Tr) o4,(∀ s,U s=((aM (l.take i) s d).any (ts.getD j.toNat λ_=>false) || (if p=s/\d'=d then [r] else []).any (ts.getD j.toNat λ_=>false)))->N [some (.sh (.tup [.int many,.list (l.map yy)])),some (.sh (.tup [.str "some",.str d,.int j])),some (.sh (.list (ts.map (gy many)))),some (.ow true (.list ((aR many.toNat).map λi=>.bl (U i)))),o4]:=λU o4 hU=>hN _ ⟨o4,by
    rw[show U=λs=>(aM (l.take i++[(p,d',r)]) s d).any (ts.getD j.toNat λ_=>false) from funext λs=>by rw[hU,es,List.any_append]];rfl⟩
   generalize hT:(λs=>(aM (l.take i) s d).any (ts.getD j.toNat λ_=>false))=T;have hT:∀ s,(aM (l.take i) s d).any (ts.getD j.toNat λ_=>false)=T s:=λs=>congrFun hT s;simp only[hT] at hN;rw[show gy many T=.list ((aR many.toNat).map λi=>.bl (T i)) from rfl];walk_at "q";refine R.D (λe=>?_) λe=>?_
   ·walk_at "q";refine⟨_,lC ok.2.2.1 ok.2.2.2,?_⟩;rw[show gy many (ts.getD j.toNat λ_=>false)=.list ((aR many.toNat).map λi=>.bl (ts.getD j.toNat (λ_=>false) i)) from rfl];walk_at "q";refine⟨_,lF hi.2.2.2.1 hi.2.2.2.2 _,?_⟩;walk_at "q";refine R.B (λz=>?_) λz=>?_
    ·walk_at "q";rw[c7];refine⟨hi.1,by have:=hi.2.1;simp only at this;lia,?_⟩;rw[J_ (U:=λs=>T s || decide (p=s)) hi.1 hi.2.1 (by simp) λi hi=>by simp[Ne.symm hi]];refine hN _ _ λs=>?_;by_cases e2:p=s
     ·rw[if_pos ⟨e2,e⟩,decide_eq_true e2,D5,z];rfl
     ·rw[if_neg λy=>e2 y.1,decide_eq_false e2];rfl
    ·walk_at "q";refine hN T _ λs=>?_;split
     ·rw[D5,z];simp
     ·simp
   ·walk_at "q";refine hN T _ λs=>?_;rw[if_neg λy=>e y.2];simp
  ·rintro ρ ⟨o4,rfl⟩;rw[b4,AY];walk_at "q";exact h
def ql:WS :=
 (fT (VW (aP l_ (ao (ae 0) cE)) (lM (eP (BE "str") (ae 0)) (ay kr (ae 0) (wC (.str "*"))))))
def uc (x:Str):Bool:=(decide (1<=x.length/\x.length<=6) && (sg x).all isLet) || decide (x = "*")
def lX:uc x=true↔xi x:=by
 unfold uc xi Open lets;simp only[Bool.or_eq_true,k9,decide_eq_true_eq,yT];constructor
 ·grind
 ·grind
def mJ:fP:=λds Q=>∃ x:Str,ds=[.str x]/\Q .sh (.bl (uc x))
def yW:ku 1 mJ ql:=by
 rintro ds Q ⟨x,rfl,h⟩;unfold ql;walk_at "q";refine⟨_,rfl,?_⟩;unfold uc at h;walk_at "q";refine R.B (λe=>?_) λe=>?_
 ·walk_at "q";rw[e] at h;exact h
 ·walk_at "q";refine R.T rfl ?_;walk_at "q";rw[e] at h;exact h
def oU:WS :=
 (cq (gx 0 (qh (cH (ay bX (ae 0) (ae 3))) (gT 2 (cQ (gN 5) (cQ (gN 6) qC)))
 (gx 5 (gx 4 (iP (wB (aP gq (ao (ae 2) (ao (ae 6) (ao (OX (ae 1) (kH (ao (ae 4) (ao (ae 5) cE))) (qf cE)) cE)))))
 (Av [.inr 5,.inr 6])
 bj)))))
 (fT (wC .non)))
def fM:fP:=λds Q=>∃ (many:Int) (l:List dy) (kvs:Kn) (mp:Mp) (p q:Int),ds=[R5 many l,.dT kvs,.dT (gE mp),.int p,.int q]/\zv l kvs/\ly many (p,q)/\(∀ d e,(p,d,e)∈l->(∀ o,(q,d,o)∈l->(e,o)∈eT mp)->Q .sh (.tup [.str d,.int e]))/\(¬ Uk l (eT mp) (p,q)->Q .sh .non)
def xg(h:zv l kvs)(q:∀ m,Q m (.list ((aM l s d).map .int))):HC (dS kvs [.inl s,.inr d]) .sh n (.list []) Q:=by
 rw[h s d];by_cases z:aM l s d=[]
 ·rw[if_pos z];have:=q n;rw[z] at this;exact this
 ·rw[if_neg z];exact q .sh
def nG:ku 7 fM oU:=by
 rintro ds Q ⟨many,l,kvs,mp,p,q,rfl,hw,hp,h1,h2⟩;walk_at "q";refine⟨_,MP l hp.1.1 hp.1.2,?_⟩;walk_at "q";refine aW _ (λj ρ=>∃ (o5 o6:Option Sl),(∀ t∈(xk l p).take j,¬ ∀ o,(q,t.1,o)∈l->(t.2,o)∈eT mp)/\ρ=[some (.sh (R5 many l)),some (.sh (.dT kvs)),some (.sh (.dT (gE mp))),some (.sh (.int p)),some (.sh (.int q)),o5,o6]) ⟨_,_,(λp hp=>by simp at hp),rfl⟩ ?_ ?_
 ·rintro j x ρ hx ⟨o5,o6,hj,rfl⟩ N hN;obtain⟨d,e,rfl,x5,tk2⟩:=Lr hx;walk_at "q";refine xg hw λm=>?_;refine⟨mp,e,aM l q d,rfl,λb hb=>?_⟩;walk_at "q";have hb:b=true↔∀ o,(q,d,o)∈l->(e,o)∈eT mp:=hb.trans ⟨λz o ho=>z o (bB.mpr ho),λz o ho=>z o (bB.mp ho)⟩;refine R.B (λz=>?_) λz=>?_
  ·walk_at "q";exact h1 d e (xQ.mp x5) (hb.mp z)
  ·walk_at "q";exact hN _ ⟨_,_,vp tk2 hj (λy=>by rw[hb.mpr y] at z;exact nomatch z),rfl⟩
 ·rintro ρ ⟨o5,o6,hj,rfl⟩;rw[b4,AY] at hj;walk_at "q";exact h2 λ⟨d,e,he,ho⟩=>hj (d,e) (xQ.mpr he) ho
def qP:WS :=
 (cq (nq (aP b7 (ao (ae 0) (ao (ae 1) cE))))
 (nq (aP b7 (ao (ae 0) (ao (ae 2) cE)))))
def dB:fP:=λds Q=>∃ (many:Int) (l:List dy) (p q:Int),ds=[mD many l,.int p,.int q]/\ly many (p,q)/\Q .sh .non
def pP:ku 3 dB qP:=by rintro ds Q ⟨many,l,p,q,rfl,a,h⟩;walk_at "q";refine⟨many,l,p,rfl,a.1.1,a.1.2,?_⟩;walk_at "q";refine⟨many,l,q,rfl,a.2.1,a.2.2,?_⟩;walk_at "q";exact h
def vG:WS :=
 (fT (lM (aP kh (ao (ae 1) cE)) (gU EH K2 (wC (.int 0)) (ae 1) (ae 0))))
def dJ:fP:=λds Q=>∃ k j:Int,ds=[.int k,.int j]/\Q .sh (.bl (decide (0<=j/\j<k)))
def vW:ku 2 dJ vG:=by
 rintro ds Q ⟨k,j,rfl,h⟩;walk_at "q";refine⟨_,rfl,?_⟩;walk_at "q";refine R.D (λh1=>?_) λh1=>?_
 ·walk_at "q";rwa[show decide (0<=j/\j<k)=decide (j<k) by simp[h1]] at h
 ·walk_at "q";rwa[decide_eq_false (by lia)] at h
def sG:WS :=
 (cq (fq 2 (aP fJ (ao (ae 0) cE)))
 (cq (fq 3 (qf cE))
 (cq (gx 1 (qh (cH (ae 1)) (gN 4)
 (BF (qk 3) (cL (dU (ay bX (ae 0) (wC (.int 0)))) (gN 0) uk (aP iV (ao (ae 3) (ao (ae 2) (ao (ae 1) (ao (ae 0) cE))))) 1 [4,3,2]))))
 (jq 3))))
def jd:fP:=λds Q=>∃ (many:Int) (l:List dy) (rs:List Rw),ds=[mD many l,.list (rs.map eS)]/\0<=many/\many<=20/\qB many l/\l.length<=1000/\gX rs/\rs.length<=2000/\Q (.ow true) (.list ((jS l rs).map (gy many)))
def tH:ku 5 jd sG:=by
 rintro ds Q ⟨many,l,rs,rfl,m0,m1,dr,hz,hs,hl,h⟩;walk_at "q";refine⟨many,l,rfl,hz,λkvs hw=>?_⟩;walk_at "q";refine aW _ (λi ρ=>∃ o4:Option Sl,ρ=[some (.sh (.tup [.int many,.list (l.map yy)])),some (.sh (.list (rs.map eS))),some (.ow true (.dT kvs)),some (.ow true (.list ((jS l (rs.take i)).map (gy many)))),o4]) ⟨_,rfl⟩ ?_ ?_
 ·rintro i x ρ hx ⟨o4,rfl⟩ N hN;rw[g9] at hx
  cases e:rs[i]? with
  |none=>rw[e] at hx;cases hx
  |some r =>
   rw[e] at hx;cases hx;have hr:=hs i r e;have hi:i<rs.length:=(h9.mp e).1;walk_at "q";have hlen:((jS l (rs.take i)).length:Int)=i:=by rw[fH,lP];lia
   refine⟨by lia,by lia,aN (λ_=>true) (λd=>match d with
    |.int s=>.bl (ng l (jS l (rs.take i)) r s)
    |d=>d) (λρ=>∃ o,ρ=[o,some (.sh (eS r)),some (.sh (.list ((jS l (rs.take i)).map (gy many)))),some (.sh (.dT kvs))]) _ _ _ ⟨_,rfl⟩ ?_ ?_⟩
   ·rintro y hy ρ ⟨o,rfl⟩ N1 N2 _ h2;obtain⟨k,hk,rfl⟩:=jw hy;walk_at "q";refine⟨kvs,l,many,jS l (rs.take i),r,_,rfl,hw,dr,by rw[hlen];exact hr,by lia,by lia,?_⟩;walk_at "q";exact⟨.inl rfl,h2 _ ⟨_,rfl⟩ rfl⟩
   ·rw[bY]
    have eb:(iu 0 many.toNat).map (λd=>match d with
     |.int s=>D.bl (ng l (jS l (rs.take i)) r s)
     |d=>d)=(aR many.toNat).map λs=>.bl (ng l (jS l (rs.take i)) r s):=by rw[fG,fE];rfl
    rw[eb];have st:(jS l (rs.take i)).map (gy many)++[D.list ((aR many.toNat).map λs=>.bl (ng l (jS l (rs.take i)) r s))]=(jS l (rs.take (i+1))).map (gy many):=by rw[vt,e,show(some r).toList=[r] from rfl,gQ,kS];rfl
    rw[st];exact⟨by lia,hN _ ⟨_,rfl⟩⟩
 ·rintro ρ ⟨o4,rfl⟩;rw[b4,AY];walk_at "q";exact h
def bu:WS :=
 (iP (RJ (wB (ay K2 (ay mS (ay bX (ae 8) (wC (.int 0))) (ae 5)) (ae 1))) (wB (ay VZ (ay og (ay qc (ay qc (ae 3) (wC (.int 2))) (ay mS (ay TX (ae 6) (ae 6)) (wC (.int 1)))) (wC (.int 4))) (wC (.int 1)))))
 (cq (fq 9 (ay bX (ae 8) (wC (.int 2))))
 (cq (iP (RJ (wB (ay kr (ay og (ay qc (ay qc (ae 3) (wC (.int 3))) (ay mS (ae 6) (wC (.int 1)))) (wC (.int 2))) (wC (.int 1)))) (wB (ay K2 (ay mS (ae 9) (ae 5)) (ae 1))))
 (fq 9 (ay mS (ae 9) (ae 5)))
 bj)
 (pH (qk 4) (kH (ao (ay mS (ay bX (ae 8) (wC (.int 0))) (ae 5)) (ao (ay bX (ae 8) (wC (.int 1))) (ao (ae 9) cE)))) (wC (.bl true)))))
 bj)
def bD:WS :=
 (cq (gx 0 (qh (tV (Lc (ae 0) (j_ (wC (.int 4))) (j_ (wC (.int 28))))) (gT 2 (cQ (gN 6) (cQ (gN 7) qC)))
 (cq (fq 8 (kH (ao (ay og (ae 7) (ae 5)) (ao (ay bX (ae 2) (ay og (ay qc (ay qc (ae 7) (ae 5)) (ae 5)) (eP oi (ae 2)))) (ao (ay og (ay qc (ae 7) (ae 5)) (ae 5)) cE)))))
 (cq (pH (qk 4) (ae 8) (wC (.bl true)))
 bu))))
 (Av [.inr 1,.inl (eP tK (eP v_ (ae 4)))]))
def fV:WS :=
 (cq (fq 3 (aP a_ (ao (ae 0) (ao (wC (.int 2)) cE))))
 (cq (fq 4 iM)
 (cq (gx 1 (fq 5 (ae 1)))
 (cq (iP (wB (ay kr (ay og (ae 3) (wC (.int 2))) (wC (.int 1))))
 (fq 5 (ay qc (ay mS (ae 1) (wC (.int 1))) (wC (.int 2))))
 bj)
 bD))))
def StN(many:Int)(names:List Str)(t:dy):Prop:=Wy many t/\t.2.1∈names
def BR{l:List Int}{i:Nat}{x:D}(h:(eU (l.map D.int))[i]? = some x):∃ c,x=.tup [.int i,.int c]/\i<l.length:=by
 unfold eU at h;rw[Za,g9] at h
 cases e:l[i]? with
 |none=>rw[e] at h;cases h
 |some c=>rw[e] at h;cases h;exact⟨c,rfl,(h9.mp e).1⟩
def eO:fP:=λds Q=>∃ (ns:List Int) (many:Int) (names:List Str),ds=[.list (ns.map .int),.int many,.list (names.map .str)]/\ns.length<=63/\(1<=many/\many<=8)/\1<=names.length/\(∀ n∈names,xi n) /\
 ∀ l:List dy,qB many l->l.length<=126->Q (.ow true) (mD many l)
def iC{N B:L2.Q.Env->Prop}{Q:Md->D->Prop}{ns:List Int}{many first low c a e:Int}{i:Nat}{n:Str}{names:List Str}{kvs:Kn}{o9:Option Sl}(hm:1<=many/\many<=8)(CH:1<=low/\low<=many)(hd:∀ n∈names,xi n)(hi:i<64)(ha:0<=a/\a<low)(he:0<=e/\e<low)(hn:n∈names)(hk:DM (StN many names) kvs)(hz:kvs.length<=500)(hN:∀ om o9,DM (StN many names) om->om.length<=kvs.length+1->N [some (.sh (.list (ns.map .int))),some (.sh (.int many)),some (.sh (.list (names.map .str))),some (.sh (.int first)),some (.ow true (.dT om)),some (.sh (.int low)),some (.sh (.int i)),some (.sh (.int c)),some (.sh (.tup [.int a,.str n,.int e])),o9]) :
  bu { nx:=N,ct:=N,bk:=B,rt:=Q } [some (.sh (.list (ns.map .int))),some (.sh (.int many)),some (.sh (.list (names.map .str))),some (.sh (.int first)),some (.ow true (.dT kvs)),some (.sh (.int low)),some (.sh (.int i)),some (.sh (.int c)),some (.sh (.tup [.int a,.str n,.int e])),o9]:=by
 unfold bu;have sq:0<=(i:Int)*i/\(i:Int)*i<=63*63:=⟨Int.mul_nonneg (by lia) (by lia),Int.mul_le_mul (by lia) (by lia) (by lia) (by lia)⟩
 have skip:=hN kvs o9 hk (by lia);have put:∀ f:Int,a+low<many->0<=f->f<many->kvs.length<16777216/\N [some (.sh (.list (ns.map .int))),some (.sh (.int many)),some (.sh (.list (names.map .str))),some (.sh (.int first)),some (.ow true (.dT (k5 kvs (vi (a+low,n,f)) (.bl true)))),some (.sh (.int low)),some (.sh (.int i)),some (.sh (.int c)),some (.sh (.tup [.int a,.str n,.int e])),some (.sh (.int f))]:=λf e1 f0 f1 =>
  ⟨by lia,hN _ _ (hk.put ⟨⟨(by lia : 0<=a+low),e1,hd n hn,f0,f1⟩,hn⟩) (e_ kvs _ _)⟩
 walk_at "q";refine R.D (λe1=>?_) λe1=>?_
 ·walk_at "q";refine⟨pO (by lia) (by lia),by lia,?_⟩;by_cases e2:first / 2 / (i*i+1) % 4=1
  ·rw[decide_eq_true e2];walk_at "q";exact skip
  ·rw[decide_eq_false e2];walk_at "q";refine⟨by lia,R.D (λe3=>?_) λe3=>?_⟩
   ·walk_at "q";refine R.D (λe4=>?_) λe4=>?_
    ·walk_at "q";exact put _ e1 (by lia) e4
    ·walk_at "q";exact put _ e1 he.1 (by lia)
   ·walk_at "q";exact put _ e1 he.1 (by lia)
 ·walk_at "q";exact skip
def dW{Q:Md->D->Prop}{ns:List Int}{many first low:Int}{names:List Str}(Pt:ns.length<=63)(hm:1<=many/\many<=8)(CH:1<=low/\low<=many)(n1:1<=names.length)(hd:∀ n∈names,xi n)(h:∀ l:List dy,qB many l->l.length<=126->Q (.ow true) (mD many l)):bD { nx:=λ_=>Q .sh .non,rt:=Q } [some (.sh (.list (ns.map .int))),some (.sh (.int many)),some (.sh (.list (names.map .str))),some (.sh (.int first)),some (.ow true (.dT [])),some (.sh (.int low)),none,none,none,none]:=by
 obtain⟨w0,e0⟩:∃ w0,w0=bu:=⟨_,rfl⟩
 unfold bD;walk_at "q";refine .inl ⟨aX ns,?_⟩;rw[ug];have hc:=fD ns (some 4) (some 28);generalize kK ns (some 4) (some 28)=cells at *
 refine aW _ (λi ρ=>∃ (kvs:Kn) (o6 o7 o8 o9:Option Sl),DM (StN many names) kvs/\kvs.length<=2*i/\ρ=[some (.sh (.list (ns.map .int))),some (.sh (.int many)),some (.sh (.list (names.map .str))),some (.sh (.int first)),some (.ow true (.dT kvs)),some (.sh (.int low)),o6,o7,o8,o9]) ⟨[],_,_,_,_,DM.nil,f7 _,rfl⟩ ?_ ?_
 ·rintro i x ρ hx ⟨kvs,o6,o7,o8,o9,hk,hz,rfl⟩ N hN;obtain⟨c,rfl,hi⟩:=BR hx;have a1:=qm c (show 0<low by lia);have a3:=qm (c / low) (show 0<low by lia);obtain⟨n,hn,e⟩:=name_mod (c / low / low) n1;walk_at "q";refine⟨by lia,by lia,by lia,by lia,.str n,e,?_⟩;walk_at "q";refine⟨by lia,by lia,by lia,?_⟩;subst e0;refine iC hm CH hd (by lia) a1 a3 hn (hk.put (s:=(c % low,n,c / low % low)) ⟨⟨a1.1,(by lia : c % low<many),hd n hn,a3.1,(by lia : c / low % low<many)⟩,hn⟩) (kE (e_ kvs _ _) (by lia)) λom o9 CM WH=>hN _ ⟨om,_,_,_,_,CM,?_,rfl⟩;have:=e_ kvs [Sum.inl (c % low),Sum.inr n,Sum.inl (c / low % low)] (D.bl true);lia
 ·rintro ρ ⟨kvs,o6,o7,o8,o9,hk,hz,rfl⟩;have hl:(eU (cells.map D.int)).length=cells.length:=by simp[eU]
  have fin:tK (.ow true) (.list (kvs.map λkv=>.tup (kv.1.map iO))) (λm x=>Q (rK [(.sh,.int many),(m,x)]) (.tup [.int many,x])):=hk.sorted λl pm hs up hl=>h l (λs m=>(hs s m).1) (by lia);walk_at "q";exact fin
def lH:ku 10 eO fV:=by
 rintro ds Q ⟨ns,many,names,rfl,Pt,hm,n1,hd,h⟩;obtain⟨w4,e4⟩:∃ w4,w4=bD:=⟨_,rfl⟩
 unfold fV;rw[<- e4];walk_at "q";refine⟨ns,2,rfl,by decide,?_⟩;walk_at "q";refine R.D (λ_=>?_) λ_=>?_
 ·walk_at "q";rw[e4];exact dW Pt hm (by lia) n1 hd h
 ·walk_at "q";rw[e4];exact dW Pt hm (by lia) n1 hd h
def bM:WS :=
 (qh (dU (ay bX (ae 0) (wC (.int 0)))) (gN 6)
 (qh (dU (ay bX (ae 0) (wC (.int 0)))) (gN 7)
 (iP (RJ (OI (ay bX (ay bX (ae 2) (eP Dx (wC (.int 1)))) (ae 6))) (wx (OI (ay bX (ay bX (ae 2) (eP Dx (wC (.int 1)))) (ae 7)))))
 (gx 7 (gx 6 (pH (qk 4) (kH (ao (ae 6) (ao (ae 7) cE))) (ay Ck (ay bX (ae 3) (eP Dx (wC (.int 1)))) (OX (ae 4) (kH (ao (ae 6) (ao (ae 7) cE))) (ay bX (ae 3) (eP Dx (wC (.int 1)))))))))
 bj)))
def iR:WS :=
 (cq (fq 2 (qf cE))
 (cq (fq 3 (qf cE))
 (cq (fq 4 iM)
 (cq (gx 1 (qh (cH (ae 1)) (gN 5)
 (cq (BF (qk 2) (aP dg (ao (ae 0) (ao (ae 5) (ao (ae 2) cE)))))
 (cq (iP (wB (ay kr (ay bX (ae 5) (wC (.int 0))) (wC (.str "some"))))
 (BF (qk 3) (ay mS (ay bX (ae 3) (ay bX (ae 5) (wC (.int 2)))) (wC (.int 1))))
 (BF (qk 3) (eP IK (ay mS (qf (ao (wC (.int 0)) cE)) (cL (lR (ay bX (ae 5) (wC (.int 1)))) (gN 0) uk (ay bX (ae 1) (ae 0)) 1 [3])))))
 bM))))
 (jq 4)))))
def AW(many:Int)(l:List dy)(kvs:Kn):Prop:=∀ kv∈kvs,∃ (x:P2) (n:Nat),kv=(ky x,.int n)/\ly many x/\Rk l n x
def AW.put(h:AW many l kvs)(hx:ly many x)(r:Rk l n x):AW many l (k5 kvs (ky x) (.int n)):=λkv hk=>by
 unfold k5 at hk;split at hk
 ·obtain⟨q,hq,e⟩:=c9.mp hk;by_cases z:q.1=ky x
  ·rw[if_pos z] at e;exact⟨x,n,by rw[<- e,z],hx,r⟩
  ·rw[if_neg z] at e;exact e ▸ h q hq
 ·rcases hJ.mp hk with z|z
  ·exact h kv z
  ·exact⟨x,n,ic.mp z,hx,r⟩
def AW.get(h:AW many l kvs)(g:dS kvs (ky x)=some d):∃ n:Nat,d=.int n/\ly many x/\Rk l n x:=by
 obtain⟨kv,hk,rfl⟩:=MQ.mp g;obtain⟨y,n,e,i,r⟩:=h kv (Uz hk);have e2:kv.1=ky x:=by simpa using UG hk
 rw[e] at e2 ⊢;rw[oV e2] at i r;exact⟨n,rfl,i,r⟩
def Sep(l:List dy)(rs:List Rw):Prop:=∀ (k:Nat) (p q:Int),k<rs.length->(jS l rs).getD k (λ_=>false) p=true->(jS l rs).getD k (λ_=>false) q=false->Rk l ((deps rs).getD k 0).toNat (p,q)
def Sep.row(h:Sep l rs)(ok:oI rs.length r)(pr:Pp r)(hp:ng l (jS l rs) r p=true)(hq:ng l (jS l rs) r q=false):Rk l (dep (deps rs) r).toNat (p,q):=by
 cases r with
 |nt j=>exact pr.elim
 |st w d j =>subst pr;obtain⟨e,he,te⟩:=Fc.mp hp;have nn:=fY (pC rs) j.toNat;rw[show(dep (deps rs) (.st "some" d j)).toNat=((deps rs).getD j.toNat 0).toNat+1 by simp only[dep];lia];refine .inr ⟨d,e,bB.mp he,λo ho=>?_⟩;have jb:=ok.2.2;exact h j.toNat e o (by lia) te (by simpa using Sq.mp hq o (bB.mpr ho))
 |jn w ps =>
  have le:∀ n∈ps,((deps rs).getD n.toNat 0).toNat<=(dep (deps rs) (.jn w ps)).toNat:=λn hn=>by have:(deps rs).getD n.toNat 0<=dep (deps rs) (.jn w ps):=tQ _ 0 _ (.inr (c9.mpr ⟨n,hn,rfl⟩));lia
  have fin:∀ n∈ps,(jS l rs).getD n.toNat (λ_=>false) p=true->(jS l rs).getD n.toNat (λ_=>false) q=false->Rk l (dep (deps rs) (.jn w ps)).toNat (p,q):=λn hn a b=>by have jb:=ok.2.2 n hn;exact(h n.toNat p q (by lia) a b).mono (le n hn)
  by_cases e:w = "and"
  ·rw[show ng l (jS l rs) (.jn w ps)=λs=>ps.all λn=>(jS l rs).getD n.toNat (λ_=>false) s from funext λs=>if_pos e] at hp hq;obtain⟨n,hn,z⟩:=List.all_eq_false.mp hq;exact fin n hn (yT.mp hp n hn) (by simpa using z)
  ·rw[show ng l (jS l rs) (.jn w ps)=λs=>ps.any λn=>(jS l rs).getD n.toNat (λ_=>false) s from funext λs=>if_neg e] at hp hq;obtain⟨n,hn,z⟩:=Fc.mp hp;exact fin n hn z (by simpa using Sq.mp hq n hn)
def Sep.app(h:Sep l rs)(ok:oI rs.length r)(pr:Pp r):Sep l (rs++[r]):=λk p q hk hp hq=>by
 have h1:=fH l rs;have h2:=eX rs;rw[mG,W9] at hk;rw[gQ,D1] at hp hq;rw[gw,D1];by_cases z:k<rs.length
 ·rw[IC (by lia),<- D1] at hp hq ⊢;exact h k p q z hp hq
 ·rw[B5 (by lia),h1,show k-rs.length=0 by lia] at hp hq;rw[B5 (by lia),h2,show k-rs.length=0 by lia];exact h.row ok pr hp hq
def gD:fP:=λds Q=>∃ (many:Int) (l:List dy) (rs:List Rw),ds=[mD many l,.list (rs.map eS)]/\(0<=many/\many<=8)/\qB many l/\gX rs/\(∀ r∈rs,Pp r)/\rs.length<=64/\∀ kvs,AW many l kvs->kvs.length<=5000->Q (.ow true) (.dT kvs)
def jH{N B:L2.Q.Env->Prop}{Q:Md->D->Prop}{many dp:Int}{l:List dy}{rows row:D}{ts:List Tr}{T:Tr}{ds:List Int}{kvs:Kn}{o6 o7:Option Sl}(hm:0<=many/\many<=8)(d0:0<=dp)(hT:∀ p q,T p=true->T q=false->Rk l dp.toNat (p,q))(ls:AW many l kvs)(hz:kvs.length<=10000)(hN:∀ om o6 o7,AW many l om->om.length<=kvs.length+64->N [some (.sh (mD many l)),some (.sh rows),some (.ow true (.list ((ts++[T]).map (gy many)))),some (.ow true (.list ((ds++[dp]).map .int))),some (.ow true (.dT om)),some (.sh row),o6,o7]) :
  bM { nx:=N,ct:=N,bk:=B,rt:=Q } [some (.sh (mD many l)),some (.sh rows),some (.ow true (.list ((ts++[T]).map (gy many)))),some (.ow true (.list ((ds++[dp]).map .int))),some (.ow true (.dT kvs)),some (.sh row),o6,o7]:=by
 have lt:gi ((ts++[T]).map (gy many)) (-1)=some (gy many T):=by rw[kS];exact Vh _ _
 have ld:gi ((ds++[dp]).map D.int) (-1)=some (.int dp):=by rw[kS];exact Vh _ _
 generalize (ts++[T]).map (gy many)=tl at *
 generalize (ds++[dp]).map D.int=dl at *
 unfold bM mD at *
 walk_at "q";refine⟨by lia,by lia,aW _ (λi ρ=>∃ (om:Kn) (o6 o7:Option Sl),AW many l om/\om.length<=kvs.length+8*i/\ρ=[some (.sh (.tup [.int many,.list (l.map yy)])),some (.sh rows),some (.ow true (.list tl)),some (.ow true (.list dl)),some (.ow true (.dT om)),some (.sh row),o6,o7]) ⟨kvs,_,_,ls,by lia,rfl⟩ ?_ ?_⟩
 ·rintro i x ρ hx ⟨om,o6,o7,Uq,WH,rfl⟩ N2 Z_;obtain⟨hi,rfl⟩:=kO hx;walk_at "q";refine⟨by lia,by lia,aW _ (λj ρ=>∃ (DU:Kn) (o7:Option Sl),AW many l DU/\DU.length<=om.length+j/\ρ=[some (.sh (.tup [.int many,.list (l.map yy)])),some (.sh rows),some (.ow true (.list tl)),some (.ow true (.list dl)),some (.ow true (.dT DU)),some (.sh row),some (.sh (.int (0+i))),o7]) ⟨om,_,Uq,by lia,rfl⟩ ?_ ?_⟩
  ·rintro j x ρ hx ⟨DU,o7,Ur,hz3,rfl⟩ N3 hN3;obtain⟨hj,rfl⟩:=kO hx;have hp:ly many (0+i,0+j):=⟨⟨(by lia : (0:Int)<=0+i),(by lia : 0+i<many)⟩,(by lia : (0:Int)<=0+j),(by lia : 0+j<many)⟩
   generalize (0+i:Int)=p at *
   generalize (0+j:Int)=q at *
   have skip:=λo7=>hN3 _ ⟨DU,o7,Ur,by lia,rfl⟩;walk_at "q";refine⟨_,lt,?_⟩;rw[show gy many T=.list ((aR many.toNat).map λi=>.bl (T i)) from rfl];walk_at "q";refine⟨_,lF hp.1.1 hp.1.2 _,?_⟩;walk_at "q";refine R.B (λz=>?_) λz=>?_
   ·walk_at "q";refine⟨_,lt,?_⟩;rw[show gy many T=.list ((aR many.toNat).map λi=>.bl (T i)) from rfl];walk_at "q";refine⟨_,lF hp.2.1 hp.2.2 _,?_⟩;walk_at "q";refine R.B (λz2=>?_) λz2=>?_
    ·have rk:=hT p q z (by simpa using z2);have pt:∀ m:Nat,Rk l m (p,q)->DU.length<16777216/\N3 [some (.sh (.tup [.int many,.list (l.map yy)])),some (.sh rows),some (.ow true (.list tl)),some (.ow true (.list dl)),some (.ow true (.dT (k5 DU [.inl p,.inl q] (.int m)))),some (.sh row),some (.sh (.int p)),some (.sh (.int q))]:=λm r=>⟨by lia,hN3 _ ⟨_,_,Ur.put hp r,by have:=e_ DU (ky (p,q)) (.int m);lia,rfl⟩⟩
     obtain⟨dn,rfl⟩:=Int.eq_ofNat_of_zero_le d0;walk_at "q";refine⟨_,ld,?_⟩;walk_at "q";refine⟨_,ld,?_⟩;walk_at "q"
     cases g:dS DU ([.inl p,.inl q]:List Key) with
     |none =>walk_at "q";rw[ite_self];exact pt dn rk
     |some d =>
      obtain⟨n,rfl,_,r2⟩:=Ur.get (x:=(p,q)) g;walk_at "q";split
      ·exact pt n r2
      ·exact pt dn rk
    ·walk_at "q";exact skip _
   ·walk_at "q";exact skip _
  ·rintro ρ ⟨DU,o7,Ur,hz3,rfl⟩;rw[jt] at hz3;exact Z_ _ ⟨DU,_,_,Ur,by lia,rfl⟩
 ·rintro ρ ⟨om,o6,o7,Uq,WH,rfl⟩;rw[jt] at WH;exact hN om _ _ Uq (by lia)
def qi:ku 8 gD iR:=by
 rintro ds Q ⟨many,l,rs,rfl,hm,dr,sc,ps,hl,h⟩;obtain⟨w0,e0⟩:∃ w0,w0=bM:=⟨_,rfl⟩
 unfold iR;rw[<- e0];walk_at "q";refine aW _ (λi ρ=>∃ (kvs:Kn) (o5 o6 o7:Option Sl),Sep l (rs.take i)/\AW many l kvs/\kvs.length<=64*i/\ρ=[some (.sh (mD many l)),some (.sh (.list (rs.map eS))),some (.ow true (.list ((jS l (rs.take i)).map (gy many)))),some (.ow true (.list ((deps (rs.take i)).map .int))),some (.ow true (.dT kvs)),o5,o6,o7]) ⟨[],_,_,_,(λk p q hk=>absurd hk (UH _)),(λ_ z=>nomatch z),f7 _,rfl⟩ ?_ ?_
 ·rintro i x ρ hx ⟨kvs,o5,o6,o7,sp,ls,hz,rfl⟩ N hN;rw[g9] at hx
  cases e:rs[i]? with
  |none=>rw[e] at hx;cases hx
  |some r =>
  rw[e] at hx;cases hx;have ok:=sc i r e;have pr:=ps r (nh e);have hi:=(h9.mp e).1;have tl:(rs.take i).length=i:=by rw[lP];lia
  have tk:rs.take (i+1)=rs.take i++[r]:=by rw[vt,e];rfl
  have Bi:oI (rs.take i).length r:=by rw[tl];exact ok
  have sp2:=sp.app Bi pr;rw[tk] at hN;walk_at "q";refine⟨many,l,r,jS l (rs.take i),rfl,hm,dr,pr,by rw[fH];exact Bi,?_⟩;have st:(jS l (rs.take i)).map (gy many)++[gy many (ng l (jS l (rs.take i)) r)]=(jS l (rs.take i++[r])).map (gy many):=by rw[gQ,kS];rfl
  walk_at "q";rw[st];refine⟨by rw[fH,tl];lia,?_⟩;have nn:0<=dep (deps (rs.take i)) r:=DY (pC _) r;have fin:∀ E:jG,E={ nx:=N,ct:=N,bk:=E.bk,rt:=Q }->w0 E [some (.sh (mD many l)),some (.sh (.list (rs.map eS))),some (.ow true (.list ((jS l (rs.take i++[r])).map (gy many)))),some (.ow true (.list ((deps (rs.take i)).map .int++[.int (dep (deps (rs.take i)) r)]))),some (.ow true (.dT kvs)),some (.sh (eS r)),o6,o7]:=λE hE=>by rw[hE,e0,gQ,show(deps (rs.take i)).map D.int++[D.int (dep (deps (rs.take i)) r)]=(deps (rs.take i)++[dep (deps (rs.take i)) r]).map .int by simp];refine jH hm nn (λp q=>sp.row Bi pr) ls (by lia) λom o6 o7 Uq WH=>hN _ ⟨om,_,_,_,sp2,Uq,by lia,by rw[gQ,gw]⟩
  cases r with
  |nt j=>exact pr.elim
  |st w d j =>subst pr;rw[show eS (.st "some" d j)=.tup [.str "some",.str d,.int j] from rfl] at fin ⊢;walk_at "q";refine⟨_,sZ Bi.2.2.1 Bi.2.2.2,?_⟩;walk_at "q";exact⟨by rw[eX,tl];lia,fin _ rfl⟩
  |jn w ps =>
   rw[show eS (.jn w ps)=.tup [.str w,.tup (ps.map .int)] from rfl] at fin ⊢;walk_at "q";refine R.F (decide_eq_false (AU ok.1).1) ?_;walk_at "q";refine aN (λ_=>true) (WD λp=>(deps (rs.take i)).getD p.toNat 0) (λρ=>∃ o,ρ=[o,some (.sh (.list ((deps (rs.take i)).map .int)))]) _ _ _ ⟨_,rfl⟩ ?_ ?_
   ·rintro y hy ρ ⟨o,rfl⟩ N1 N2 _ h2;obtain⟨p,hp,rfl⟩:=c9.mp hy;walk_at "q";exact⟨_,sZ (Bi.2.2 p hp).1 (Bi.2.2 p hp).2,.inl rfl,h2 _ ⟨_,rfl⟩ rfl⟩
   ·rw[bY,show(ps.map D.int).map (WD λp=>(deps (rs.take i)).getD p.toNat 0)=(ps.map λp=>(deps (rs.take i)).getD p.toNat 0).map .int by rw[fE,fE];rfl];have pl:=ok.2.1;refine⟨by rw[b4,b4];lia,.inl ⟨aX _,0 :: ps.map λp=>(deps (rs.take i)).getD p.toNat 0,rfl,by simp,λM hM1 hM2=>⟨by rw[eX,tl];lia,?_⟩⟩⟩;have eM:M=dep (deps (rs.take i)) (.jn w ps):=by exact Int.le_antisymm (tQ _ 0 M ((eu.mp hM1).imp (λz=>by lia) id)) (yQ _ 0 M (hM2 0 eh) λx hx=>hM2 x (eI _ hx))
    rw[eM];walk_at "q";exact fin _ rfl
 ·rintro ρ ⟨kvs,o5,o6,o7,sp,ls,hz,rfl⟩;rw[b4] at hz;walk_at "q";exact h kvs ls (by lia)
def jE:WS :=
 (cq (fq 4 iM)
 (cq (qh (dU (eP oi (ae 0))) (gN 5)
 (qh (dU (eP oi (ae 0))) (gN 6)
 (gx 6 (gx 5 (iP (wB (ay (EI true) (kH (ao (ae 5) (ao (ae 6) cE))) (ae 2)))
 (cq (fq 7 (aP fM (ao (ae 0) (ao (ae 1) (ao (ae 2) (ao (ae 5) (ao (ae 6) cE)))))))
 (iP (wB (ay Gj (ae 7) (wC .non)))
 (gx 3 (pH (qk 4) (kH (ao (ae 5) (ao (ae 6) cE))) (kH (ao (ae 3) (ao (ay bX (ae 7) (wC (.int 0))) (ao (ay bX (ae 7) (wC (.int 1))) cE))))))
 bj))
 bj)))))
 (jq 4)))
def d_:fP:=λds Q=>∃ (many:Int) (l:List dy) (kvs:Kn) (mp:Mp) (n:Nat),ds=[R5 many l,.dT kvs,.dT (gE mp),.int n]/\(0<=many/\many<=8)/\zv l kvs/\∀ fm,Ul many l mp n fm->Q (.ow true) (.dT (gE fm))
structure E3(many:Int)(l:List dy)(mp:Mp)(n:Nat)(V:P2->Prop)(fm:Mp):Prop where
 nd:(eT fm).Nodup
 oP:∀ x∈fm,ly many x.1/\x.1∉eT mp/\by' l (eT mp) n x.1 x.2
 WK:∀ x∈eT fm,V x
 all:∀ p,ly many p->V p->p∉eT mp->Uk l (eT mp) p->p∈eT fm
def E3.skip{V W:P2->Prop}(h:E3 many l mp n V fm)(hV:∀ x,V x->W x)(hn:∀ p,ly many p->W p->¬ V p->p∉eT mp->¬ Uk l (eT mp) p):E3 many l mp n W fm:=⟨h.nd,h.oP,λx hx=>hV x (h.WK x hx),λp hp hw z ms=>by
 by_cases v:V p
 ·exact h.all p hp v z ms
 ·exact absurd ms (hn p hp hw v z)⟩
def E3.put{V W:P2->Prop}(h:E3 many l mp n V fm)(hV:∀ x,V x->W x)(hn:∀ p,ly many p->W p->¬ V p->p=x)(hx:ly many x)(hm:x∉eT mp)(gd:by' l (eT mp) n x d)(nv:¬ V x)(hw:W x):E3 many l mp n W (fm++[(x,d)]):=by
 have e:eT (fm++[(x,d)])=eT fm++[x]:=by simp[eT]
 refine⟨?_,λy hy=>?_,λy hy=>?_,λp hp w z ms=>?_⟩
 ·rw[e];exact pj.mpr ⟨h.nd,by simp,λa ha b hb e=>nv (by rw[<- ic.mp hb,<- e];exact h.WK a ha)⟩
 ·rcases hJ.mp hy with hy|hy
  ·exact h.oP y hy
  ·rw[ic.mp hy];exact⟨hx,hm,gd⟩
 ·rw[e] at hy;rcases hJ.mp hy with hy|hy
  ·exact hV y (h.WK y hy)
  ·rw[ic.mp hy];exact hw
 ·rw[e,hJ,ic];by_cases v:V p
  ·exact .inl (h.all p hp v z ms)
  ·exact .inr (hn p hp w v)
def E3.len{V:P2->Prop}(h:E3 many l mp n V fm)(hm:many<=8):fm.length<=64:=by
 have:=pairs_len h.nd λx hx=>by obtain⟨y,hy,rfl⟩:=c9.mp hx;exact(h.oP y hy).1
 rw[eT,b4] at this;have:many.toNat*many.toNat<=8*8:=MB (by lia) (by lia);lia
def su:ku 8 d_ jE:=by
 rintro ds Q ⟨many,l,kvs,mp,n,rfl,hm,hw,h⟩;unfold jE R5;walk_at "q";rw[jN];refine⟨by lia,by lia,?_⟩;refine aW _ (λi ρ=>∃ (fm:Mp) (o5 o6 o7:Option Sl),E3 many l mp n (λx=>x.1<i) fm/\ρ=[some (.sh (.list (zt many l))),some (.sh (.dT kvs)),some (.sh (.dT (gE mp))),some (.sh (.int n)),some (.ow true (.dT (gE fm))),o5,o6,o7]) ⟨[],_,_,_,⟨mI,(λx hx=>nomatch hx),(λx hx=>nomatch hx),λp hp v=>?_⟩,rfl⟩ ?_ ?_
 ·have:=hp.1.1;lia
 ·rintro i x ρ hx ⟨fm,o5,o6,o7,hf,rfl⟩ N hN;obtain⟨hi,rfl⟩:=kO hx;walk_at "q";rw[jN];refine⟨by lia,by lia,?_⟩;refine aW _ (λj ρ=>∃ (fm:Mp) (o6 o7:Option Sl),E3 many l mp n (λx=>x.1<i\/(x.1=i/\x.2<j)) fm/\ρ=[some (.sh (.list (zt many l))),some (.sh (.dT kvs)),some (.sh (.dT (gE mp))),some (.sh (.int n)),some (.ow true (.dT (gE fm))),some (.sh (.int (0+i))),o6,o7]) ⟨fm,_,_,hf.skip (λx h=>.inl h) (λp hp w v=>?_),rfl⟩ ?_ ?_
  ·have:=hp.2.1;lia
  ·rintro j x ρ hx ⟨fm,o6,o7,hf,rfl⟩ N hN;obtain⟨hj,rfl⟩:=kO hx;have hfl:=hf.len hm.2;have hp:ly many (0+i,0+j):=⟨⟨(by lia : (0:Int)<=0+i),(by lia : 0+i<many)⟩,(by lia : (0:Int)<=0+j),(by lia : 0+j<many)⟩
   have only:∀ p:P2,(p.1<i\/(p.1=i/\p.2<((j+1:Nat):Int)))->¬ (p.1<i\/(p.1=i/\p.2<j))->p=((0+i:Int),(0+j:Int)):=λp w v=>by obtain⟨a,b⟩:=p;rw[show a=0+i by lia,show b=0+j by lia]
   have up:∀ x:P2,(x.1<i\/(x.1=i/\x.2<j))->(x.1<i\/(x.1=i/\x.2<((j+1:Nat):Int))):=λx h=>by lia
   generalize hx0:(0+i:Int)=p at *
   generalize hy0:(0+j:Int)=q at *
   walk_at "q";have e1:=kJ mp (p,q);unfold ky at e1;rw[e1];by_cases z:(p,q)∈eT mp
   ·rw[decide_eq_true z];walk_at "q";exact hN _ ⟨fm,_,_,hf.skip up λx _ w v y=>absurd (only x w v ▸ z) y,rfl⟩
   ·rw[decide_eq_false z];walk_at "q";refine⟨many,l,kvs,mp,p,q,rfl,hw,hp,λd e he ho=>?_,λms=>?_⟩
    ·walk_at "q";have e2:=yS (x:=(p,q)) (.tup [.int n,.str d,.int e]) λy=>by have:=hf.WK _ y;simp only at this;lia
     unfold ky at e2;rw[fZ,e2];exact⟨by lia,hN _ ⟨_,_,_,hf.put up (λx _ w v=>only x w v) hp z ⟨d,e,rfl,he,ho⟩ (λy=>by simp only at y;lia) (by simp only;lia),rfl⟩⟩
    ·walk_at "q";exact hN _ ⟨fm,_,_,hf.skip up λx _ w v y=>only x w v ▸ ms,rfl⟩
  ·rintro ρ ⟨fm,o6,o7,hf,rfl⟩;rw[jt] at hf;exact hN _ ⟨fm,_,_,_,hf.skip (λx h=>by lia) (λp hp w v=>by have:=hp.2.2;lia),rfl⟩
 ·rintro ρ ⟨fm,o5,o6,o7,hf,rfl⟩;rw[jt] at hf;walk_at "q";exact h fm ⟨hf.nd,hf.oP,λp hp=>hf.all p hp (by have:=hp.1.2;lia)⟩
def kj:WS :=
 (cq (iP (wt (wx (wB (eP (BE "tuple") (ae 1)))) (wB (ay VY (eP oi (ae 1)) (wC (.int 200)))))
 (fT (wC (.bl false)))
 bj)
 (fT (eP OU (cL (lR (ae 1)) (gN 0) uk (aP dJ (ao (ae 1) (ao (ae 0) cE))) 1 [0]))))
def jc:fP:=λds Q=>∃ (k:Int) (ps:List Int),ds=[.int k,.tup (ps.map .int)]/\ps.length<=200/\Q .sh (.bl (ps.all λp=>decide (0<=p/\p<k)))
def rZ:ku 2 jc kj:=by
 rintro ds Q ⟨k,ps,rfl,hl,h⟩;unfold kj;walk_at "q";refine R.F rfl ?_;walk_at "q";refine R.F (decide_eq_false (by lia)) ?_;walk_at "q"
 refine aN (λ_=>true) (λd=>match d with
  |.int p=>.bl (decide (0<=p/\p<k))
  |d=>d) (λρ=>∃ o,ρ=[o,some (.sh (.int k))]) _ _ _ ⟨_,rfl⟩ ?_ ?_
 ·rintro y hy ρ ⟨o,rfl⟩ N1 N2 _ h2;obtain⟨p,hp,rfl⟩:=c9.mp hy;walk_at "q";exact⟨_,_,rfl,.inl rfl,h2 _ ⟨_,rfl⟩ rfl⟩
 ·rw[bY];refine⟨ps.map λp=>decide (0<=p/\p<k),by rw[fE,fE];rfl,?_⟩;rw[L9];exact h
def dZ(SP:vb):WS :=
 (cq (fq 5 (eP gb (ae 4)))
 (cq (gx 3 (Ie 6 (bu' (wB (ay kr (eP oi (ae 5)) (wC (.int 1)))) (V7 (ay bX (ae 5) (wC (.int 0)))) (iI SP 0 qN (jP (kH (ao (ae 3) (ao (eP qT (ae 5)) cE))) sJ)))))
 (gx 6 (gx 2 (gx 1 (zp SP 0 (iI SP 0 qN (jP (kH (ao (ae 1) (ao (ae 2) (ao (ae 6) cE)))) sJ))))))))
def du:O0:=λrs ds Q=>∃ (l:List Rw) (w d jn:Str) (ps:List Int),rs=l.map eB/\ds=[.str w,.str d,.str jn,.list (ps.map .int)]/\Uo l w d jn ps/\Q ((tj l w d jn ps).1.map eB) (tj l w d jn ps).2
def jg(SP:vb):∀ a rs ds Q,du rs ds Q->dZ SP { nx:=λ_=>False,rt:=R3 SP a Q } (b8 7 a (SP true rs) ds):=by
 rintro a rs ds Q ⟨l,w,d,jn,ps,rfl,rfl,h,hq⟩;unfold dZ b8;walk_at "q";refine Hk h.pi h.pl ?_;walk_at "q";have I:=JF h;have ll:=h.ll;have fin:∀ l2 x,ti l jn (j3 l.length ps)=(l2,x)->∀ o5,zp SP 0 (iI SP 0 qN (jP (kH (ao (ae 1) (ao (ae 2) (ao (ae 6) cE)))) sJ)) { nx:=λ_=>False,rt:=R3 SP a Q } [some (.ob a (SP true (l2.map eB))),some (.sh (.str w)),some (.sh (.str d)),some (.sh (.str jn)),some (.sh (.list (ps.map .int))),o5,some (.sh (.int x))]:=λl2 x e o5=>by rw[e] at I;obtain⟨i1,i2,i3,i4,i5,_⟩:=I;unfold tj at hq;rw[e] at hq;refine⟨a,l2.map eB,rfl,?_⟩;walk_at "q";exact xX (x:=.st w d x) i1 ⟨h.w,h.d,i3⟩ (by simp only at i5;lia) ⟨a,_,rfl,_,_,rfl,rfl,hq⟩
 refine R.D (λe=>?_) λe=>?_
 ·obtain⟨x,ex⟩:=List.length_eq_one_iff.mp (show(j3 l.length ps).length=1 by lia);walk_at "q";refine⟨.int x,by rw[ex];rfl,?_⟩;walk_at "q";exact fin l x (by unfold ti;rw[if_pos (by lia),ex];rfl) _
 ·walk_at "q";refine⟨a,l.map eB,rfl,?_⟩;walk_at "q";rw[show((j3 l.length ps).map λx=>(Sum.inl x:Key)).map iO=(j3 l.length ps).map D.int by rw[fE];rfl];exact⟨aX _,xX h.nd I.2.2.2.2.2.1 (by lia) (fin _ _ (by unfold ti;rw[if_neg (by lia)]) _)⟩
def dh(SP:vb):WS :=
 (cq (fq 2 (wD1 (ae 1) (wC (.bl true))))
 (cq (qh (Dk (ae 1) (eP Dx (wC (.int 1))) (eP Dx (wC (.int 1)))) (gN 3)
 (iP (wB (ay (EI false) (ae 3) (ae 2)))
 (qh (cH (aP oA (ao (zF SP 0 (ae 3)) cE))) (gN 4)
 (pH (qk 2) (ae 4) (wC (.bl true))))
 bj))
 (fT (eP xm (ae 2)))))
def cN:List (List RI)->fP:=λrs ds Q=>∃ (l:List Rw) (last:Nat),rs=l.map eB/\gX l/\ds=[.int last]/\last<l.length/\l.length<=10000/\Q (.ow true) (.list ((aY l last).map .int))
def HQ(last:Nat):Wv (last:Int) (-1) (AR (last:Int) (-1) (-1))=(eV last).map D.int:=by
 have e:AR last (-1) (-1)=last+1:=by unfold AR Builtin.Range.rangeSize;rw[if_neg (by decide),if_pos (by lia),show -(-1:Int)=1 from rfl];lia
 rw[e];unfold Wv eV;rw[fE];refine D2 λi _=>?_;simp only[Function.comp];congr 1;lia
def xv(W:List Int):List (Key × D):=W.map λj=>(.inl j,.bl true)
def Np(W:List Int)(k:Int):(dS (xv W) (.inl k:Key)).isSome=decide (k∈W):=by
 unfold dS xv
 induction W with
 |nil=>rfl
 |cons x W ih =>
  rw[gL,D4];by_cases z:x=k
  ·subst z;simp
  ·grind
def Ms(W:List Int)(j:Int):k5 (xv W) (.inl j:Key) (.bl true)=xv (AV W j):=by
 unfold k5 AV;have e:((xv W).any λkv=>decide (kv.1=(.inl j:Key)))=decide (j∈W):=by rw[z5];simp[xv]
 rw[e];by_cases h:j∈W
 ·rw[if_pos (decide_eq_true h),if_pos h];unfold xv;rw[fE];refine D2 λx _=>?_;simp only[Function.comp];split<;>rfl
 ·rw[if_neg (by simpa using h),if_neg h];simp[xv]
def K1(sc:gX l)(h:Q (.ow true) (.list ((aY l last).map .int))):xm .bo (.dK (xv (wO l last))) Q:=by
 have I:=gr (last:=last) sc;refine⟨true,λp hp=>?_,λms pm pw=>?_⟩
 ·obtain⟨j,_,rfl⟩:=c9.mp hp;rfl
 ·have ek:(xv (wO l last)).map (·.1)=(wO l last).map λx=>(Sum.inl x:Key):=by simp[xv]
  rw[ek] at pm;have hk:∀ k∈ms,∃ x,k=(Sum.inl x:Key):=λk hk=>by obtain⟨x,_,e⟩:=c9.mp (pm.mem_iff.mp hk);exact⟨x,e.symm⟩
  have hms:ms=(aY l last).map λx=>(Sum.inl x:Key):=by
   refine List.Perm.eq_of_pairwise (λa b ha hb h1 h2=>?_) pw ?_ (pm.trans ?_)
   ·obtain⟨x,rfl⟩:=hk a ha;obtain⟨y,hy,rfl⟩:=c9.mp hb;simp only[oa,decide_eq_false_iff_not] at h1 h2;congr 1;lia
   ·refine vv.mpr (ig.imp λh=>?_);simp only[oa,decide_eq_false_iff_not];lia
   ·exact List.Perm.map _ ((List.perm_ext_iff_of_nodup I.nd (ig.imp λh=>by lia)).mpr λx=>(gB sc).symm)
  rw[hms,fE];exact h
def yK{l:List Rw}{k:Nat}{r:Rw}(h:l[k]? = some r):(l.map eB)[k]? = some (eB r):=by rw[g9,h];rfl
def Bm(h:((eV last).map D.int)[i]? = some x):i<=last/\x=.int ((last:Int)-i)/\(eV last).take (i+1)=(eV last).take i++[(last:Int)-i]:=by
 rw[g9] at h;have hi:i<last+1:=by
  by_cases z:i<last+1
  ·exact z
  ·rw[B6 (by simp[eV];lia)] at h;cases h
 have e:(eV last)[i]? = some ((last:Int)-i):=by unfold eV;rw[g9,UB hi];rfl
 rw[e] at h;cases h;exact⟨by lia,rfl,by rw[vt,e];rfl⟩
def gZ(SP:vb):∀ a rs ds Q,cN rs ds Q->dh SP { nx:=λ_=>Q .sh .non,rt:=Q } (b8 5 a (SP false rs) ds):=by
 rintro a rs ds Q ⟨l,last,rfl,sc,rfl,hl,hz,h⟩;unfold dh b8;walk_at "q";refine And.intro (.inl rfl) (And.intro ⟨by lia,by lia,by lia,by lia⟩ (And.intro ?_ ?_))
 ·have:AR last (-1) (-1)=last+1:=by unfold AR Builtin.Range.rangeSize;rw[if_neg (by decide),if_pos (by lia),show -(-1:Int)=1 from rfl];lia
  exact kE (IH this) (by lia)
 ·show gW _ _ _ (Wv last (-1) (AR last (-1) (-1))) _;rw[HQ];refine aW _ (λi ρ=>∃ o3 o4,ρ=[some (.ob a (SP false (l.map eB))),some (.sh (.int last)),some (.ow true (.dK (xv (((eV last).take i).foldl (lK l) [last])))),o3,o4]) ⟨_,_,rfl⟩ ?_ ?_
  ·rintro i x ρ hx ⟨o3,o4,rfl⟩ N hN;obtain⟨hi,rfl,et⟩:=Bm hx;have I:=jZ (last:=last) sc i (by lia);have nx:∀ o3 o4,N [some (.ob a (SP false (l.map eB))),some (.sh (.int last)),some (.ow true (.dK (xv (lK l (((eV last).take i).foldl (lK l) [last]) (last-i))))),o3,o4]:=λo3 o4=>hN _ ⟨o3,o4,by rw[et,P6];rfl⟩;generalize ((eV last).take i).foldl (lK l) [last]=W at *
   generalize hk:(last:Int)-i=k at *
   walk_at "q"
   have st:lK l W k=if k∈W then (match l[k.toNat]? with
    |some r=>(sA r).foldl AV W
    |none=>W) else W:=rfl
   rw[Np];refine R.D (λi7=>?_) λi7=>?_
   ·obtain⟨k0,k1⟩:=I.bd k i7;have LB:k.toNat<l.length:=by lia
    obtain⟨r,hr⟩:∃ r,l[k.toNat]? = some r:=⟨_,tI LB⟩
    rw[if_pos i7,hr] at st;have ok:=sc _ _ hr;rw[qV k0] at ok;walk_at "q";refine⟨a,false,l.map eB,rfl,k.toNat,eB r,by rw[qV k0],yK hr,?_⟩;rw[Ak];refine⟨r,k,rfl,ok,?_⟩;walk_at "q";have dl:=fu ok;refine aW _ (λi ρ=>∃ o4,ρ=[some (.ob a (SP false (l.map eB))),some (.sh (.int last)),some (.ow true (.dK (xv (((sA r).take i).foldl AV W)))),some (.sh (.int k)),o4]) ⟨_,rfl⟩ ?_ ?_
    ·rintro i x ρ hx ⟨o4,rfl⟩ N' hN';rw[g9] at hx
     cases e:(sA r)[i]? with
     |none=>rw[e] at hx;cases hx
     |some j =>
      rw[e] at hx;cases hx;have tk:(sA r).take (i+1)=(sA r).take i++[j]:=by rw[vt,e];rfl
      have hln:(xv (((sA r).take i).foldl AV W)).length<=10001:=by
       unfold xv;rw[b4];refine kE (yg (rT _ _ I.nd) (n:=last+1) λx hx=>?_) (by lia);rcases (dM _ _).mp hx with z|z
       ·have:=I.bd x z;lia
       ·have:=dl x (P5 z);lia
      walk_at "q";refine⟨by lia,?_⟩;rw[Ms];exact hN' _ ⟨_,by rw[tk,P6];rfl⟩
    ·rintro ρ ⟨o4,rfl⟩;rw[b4,AY];have st:lK l W k=(sA r).foldl AV W:=st;rw[<- st];exact nx _ _
   ·rw[if_neg i7] at st;rw[st] at nx;walk_at "q";exact nx _ _
  ·rintro ρ ⟨o3,o4,rfl⟩;rw[b4,AY];walk_at "q";exact K1 sc h
def tG:WS :=
 (cq (fq 1 (aP j7 (ao (ae 0) cE)))
 (cq (fq 2 (aP fJ (ao (ae 0) cE)))
 (cq (fq 3 iM)
 (cq (fq 4 (wC (.int 1)))
 (cq (fq 5 (aP d_ (ao (ae 1) (ao (ae 2) (ao (ae 3) (ao (ae 4) cE))))))
 (cq (Dn (Fx 5)
 (cq (Es 3 5)
 (cq (fq 4 (ay mS (ae 4) (wC (.int 1))))
 (fq 5 (aP d_ (ao (ae 1) (ao (ae 2) (ao (ae 3) (ao (ae 4) cE)))))))))
 (jq 3)))))))
def d7:fP:=λds Q=>∃ (many:Int) (l:List dy),ds=[mD many l]/\(0<=many/\many<=8)/\qB many l/\l.length<=1000/\∀ mp,All many l mp->Q (.ow true) (.dT (gE mp))
theorem pG:∀ (fm:Mp),(∀ x∈fm,∃ n s e,x.2=.tup [.int n,.str s,.int e])->dQ ((gE fm).map (·.2))=true
 |[],_=>rfl
 |x :: fm,h=>by obtain⟨n,s,e,z⟩:=h x eh;have:=pG fm λy hy=>h y (eI _ hy);simp only[gE,gL,dQ] at this ⊢;rw[z,this];rfl
def rA:ku 6 d7 tG:=by
 rintro ds Q ⟨many,l,rfl,hm,dr,hl,h⟩;walk_at "q";refine⟨many,l,rfl,by lia,dr,by lia,?_⟩;walk_at "q";refine⟨many,l,rfl,by lia,λkvs hw=>?_⟩;walk_at "q";refine⟨many,l,kvs,[],1,rfl,hm,hw,λfm hf=>?_⟩;walk_at "q";refine⟨λρ=>∃ (n:Nat) (mp fm:Mp),xo many l n mp/\Ul many l mp (n+1) fm/\ρ=[some (.sh (mD many l)),some (.ow true (R5 many l)),some (.ow true (.dT kvs)),some (.ow true (.dT (gE mp))),some (.sh (.int ((n+1:Nat):Int))),some (.ow true (.dT (gE fm)))],
  λρ=>match ρ with
   |[_,_,_,some (.ow _ (.dT kv)),_,_]=>64-kv.length
   |_=>0,⟨0,[],fm,xo.nil,hf,rfl⟩,?_⟩
 rintro ρ ⟨n,mp,fm,hr,hf,rfl⟩;walk_at "q"
 cases fm with
 |nil =>rw[show(!(gE ([]:Mp)).isEmpty)=false from rfl];walk_at "q";exact h mp (hr.end hm.2 dr hf)
 |cons x fm =>
  rw[show(!(gE (x :: fm)).isEmpty)=true from rfl];walk_at "q";have VG:=hr.next dr hf;have Kx:=VG.len hm.2;rw[mG,k8] at Kx;refine⟨λp hp=>?_,pG _ λy hy=>let ⟨s,e,z,_⟩:=(hf.oP y hy).2.2;⟨_,s,e,z⟩,by rw[fZ,fZ,k8];lia,?_⟩
  ·obtain⟨y,hy,rfl⟩:=c9.mp hp;obtain⟨⟨⟨a0,a1⟩,b0,b1⟩,nm,_⟩:=hf.oP y hy;refine⟨λz=>nm ?_,y.1.1.toNat,y.1.2.toNat,by lia,by lia,?_⟩
   ·rw[oh] at z;exact qX.mp z
   ·show ky y.1=_;unfold ky;rw[qV a0,qV b0]
  ·refine⟨many,l,kvs,mp++x :: fm,n+2,by rw[show gE (mp++x :: fm)=gE mp++gE (x :: fm) from kS];rfl,hm,hw,λfm2 hf2=>?_⟩;walk_at "q";refine⟨⟨n+1,mp++x :: fm,fm2,VG,hf2,?_⟩,?_⟩
   ·rw[show gE (mp++x :: fm)=gE mp++gE (x :: fm) from kS];rfl
   ·rw[mG,fZ,fZ,k8];lia
def mQ(SP:vb):WS :=
 (cq (fq 5 (ay bX (ay bX (ae 2) (ae 4)) (wC (.int 1))))
 (cq (fq 6 (ay bX (ay bX (ae 2) (ae 4)) (wC (.int 2))))
 (cq (gx 5 (gx 6 (fq 7 (cL (mY (OX (ae 3) (kH (ao (ay bX (ae 4) (wC (.int 1))) (ao (ae 5) cE))) (qf cE))) (gN 0) uk (ay bX (ae 2) (kH (ao (ae 1) (ao (ae 0) cE)))) 1 [6,1]))))
 (zp SP 0 (iI SP 0 du (jP (wC (.str "some")) (iK 5 (jP (wC (.str "and")) (iK 7 sJ)))))))))
def jK:O0:=λrs ds Q=>∃ (many:Int) (steps:List dy) (kvs:Kn) (mp:Mp) (i:Nat) (l:List Rw) (nm:Nm) (p q:Int) (k:Nat) (s:Str) (e:Int),rs=l.map eB/\ds=[.dT (gE (DT nm)),.dT (gE mp),.dT kvs,.tup [.int p,.int q]]/\zv steps kvs/\All many steps mp/\qB many steps/\steps.length<=200/\LH steps mp i l nm /\
 mp[i]? = some ((p,q),.tup [.int k,.str s,.int e])/\Q ((tj l "some" s "and" (vk steps nm q s e)).1.map eB) (tj l "some" s "and" (vk steps nm q s e)).2
def vY(SP:vb):∀ a rs ds Q,jK rs ds Q->mQ SP { nx:=λ_=>False,rt:=R3 SP a Q } (b8 8 a (SP true rs) ds):=by
 rintro a rs ds Q ⟨many,steps,kvs,mp,i,l,nm,p,q,k,s,e,rfl,rfl,hw,ha,dr,hz,h,hx,hq⟩;obtain⟨ok,_⟩:=h.step ha dr hz hx;obtain⟨_,he,_,ho⟩:=ha.ahead dr hx;have hm:=nh hx;have g:dS (gE mp) [.inl p,.inl q]=some (.tup [.int k,.str s,.int e]):=by obtain⟨d,e1,hd⟩:=zA (c9.mpr ⟨_,hm,rfl⟩);obtain⟨i1,g1⟩:=z0.mp hd;obtain⟨a1,b1⟩:=h9.mp g1;obtain⟨a2,b2⟩:=h9.mp hx;have:i1=i:=(Ss (h₀:=by rw[eT,b4];exact a1) (h₁:=by rw[eT,b4];exact a2) ha.nd).mp (by simp[eT,b1,b2]);subst this;rw[g1] at hx;cases hx;exact e1
 unfold mQ b8;walk_at "q";refine⟨_,_,rfl,g,?_⟩;walk_at "q";refine⟨_,_,rfl,g,?_⟩;walk_at "q";refine zW hw λm=>?_;walk_at "q"
 refine aN (λ_=>true) (λy=>match y with
  |.int o=>.int (BM nm (e,o))
  |y=>y) (λρ=>∃ o,ρ=[o,some (.sh (.int e)),some (.sh (.dT (gE (DT nm))))]) _ _ _ ⟨_,rfl⟩ ?_ ?_
 ·rintro y hy ρ ⟨o,rfl⟩ N1 N2 _ h2;obtain⟨c,hc,rfl⟩:=c9.mp hy;walk_at "q";have g2:=(xr (by rw[h.ks];exact(ho c (bB.mp hc)).1)).1;exact⟨_,_,rfl,g2,⟨.inl rfl,h2 _ ⟨_,rfl⟩ rfl⟩⟩
 ·rw[bY,show((aM steps q s).map D.int).map (λy=>match y with
   |.int o=>D.int (BM nm (e,o))
   |y=>y)=(vk steps nm q s e).map D.int by unfold vk;rw[fE,fE];rfl]
  refine⟨a,l.map eB,rfl,?_⟩;walk_at "q";exact⟨l,_,s,_,_,rfl,rfl,ok,⟨a,_,rfl,_,_,rfl,rfl,hq⟩⟩
def vB:WS :=
 (cq (iP (wt (wx (wB (eP (BE "tuple") (ae 1)))) (wt (wB (ay kr (eP oi (ae 1)) (wC (.int 0)))) (wx (wB (eP (BE "str") (ay bX (ae 1) (wC (.int 0))))))))
 (fT (wC (.bl false)))
 bj)
 (cq (iP (wt (wB (ay kr (ay bX (ae 1) (wC (.int 0))) (wC (.str "some")))) (wB (ay kr (ay bX (ae 1) (wC (.int 0))) (wC (.str "all")))))
 (fT (lM (ay kr (eP oi (ae 1)) (wC (.int 3))) (lM (aP mJ (ao (ay bX (ae 1) (wC (.int 1))) cE)) (aP dJ (ao (ae 0) (ao (ay bX (ae 1) (wC (.int 2))) cE))))))
 bj)
 (cq (iP (wB (ay kr (ay bX (ae 1) (wC (.int 0))) (wC (.str "not"))))
 (fT (lM (ay kr (eP oi (ae 1)) (wC (.int 2))) (aP dJ (ao (ae 0) (ao (ay bX (ae 1) (wC (.int 1))) cE)))))
 bj)
 (cq (iP (wt (wB (ay kr (ay bX (ae 1) (wC (.int 0))) (wC (.str "and")))) (wB (ay kr (ay bX (ae 1) (wC (.int 0))) (wC (.str "or")))))
 (fT (lM (ay kr (eP oi (ae 1)) (wC (.int 2))) (aP jc (ao (ae 0) (ao (ay bX (ae 1) (wC (.int 1))) cE)))))
 bj)
 (fT (wC (.bl false)))))))
def qW:fP:=λds Q=>∃ (k:Int) (r:Rw),ds=[.int k,eS r]/\oI k r/\Q .sh (.bl true)
def Dc:ku 2 qW vB:=by
 rintro ds Q ⟨k,r,rfl,hr,h⟩;unfold vB
 cases r with
 |st w d j =>
  obtain⟨hw,hd,h0,h1⟩:=hr;rw[show eS (.st w d j)=.tup [.str w,.str d,.int j] from rfl];walk_at "q";refine R.F rfl ?_;walk_at "q";refine R.F rfl ?_;walk_at "q";refine R.F rfl ?_;walk_at "q";refine R.D (λe=>?_) λe=>?_
  ·walk_at "q";refine R.T rfl ?_;walk_at "q";refine⟨_,rfl,?_⟩;walk_at "q";refine R.T (lX.mpr hd) ?_;walk_at "q";refine⟨_,_,rfl,?_⟩;rw[decide_eq_true ⟨h0,h1⟩];exact h
  ·walk_at "q";refine R.T (decide_eq_true (hw.resolve_left e)) ?_;walk_at "q";refine R.T rfl ?_;walk_at "q";refine⟨_,rfl,?_⟩;walk_at "q";refine R.T (lX.mpr hd) ?_;walk_at "q";refine⟨_,_,rfl,?_⟩;rw[decide_eq_true ⟨h0,h1⟩];exact h
 |nt j =>obtain⟨h0,h1⟩:=hr;rw[show eS (.nt j)=.tup [.str "not",.int j] from rfl];walk_at "q";refine R.F rfl ?_;walk_at "q";refine R.F rfl ?_;walk_at "q";refine R.F rfl ?_;walk_at "q";refine R.F (decide_eq_false LG.1) ?_;walk_at "q";refine R.F (decide_eq_false LG.2) ?_;walk_at "q";refine R.T rfl ?_;walk_at "q";refine⟨_,_,rfl,?_⟩;rw[decide_eq_true ⟨h0,h1⟩];exact h
 |jn w ps =>
  obtain⟨hw,hl,hp⟩:=hr;rw[show eS (.jn w ps)=.tup [.str w,.tup (ps.map .int)] from rfl];walk_at "q";refine R.F rfl ?_;walk_at "q";refine R.F rfl ?_;walk_at "q";refine R.F rfl ?_;walk_at "q";refine R.F (decide_eq_false (AU hw).1) ?_;walk_at "q";refine R.F (decide_eq_false (AU hw).2.1) ?_;walk_at "q";refine R.F (decide_eq_false (AU hw).2.2) ?_;walk_at "q";have ha:(ps.all λp=>decide (0<=p/\p<k))=true:=yT.mpr λp h=>decide_eq_true (hp p h);refine R.D (λe=>?_) λe=>?_
  ·walk_at "q";refine R.T rfl ?_;walk_at "q";refine⟨_,_,rfl,hl,?_⟩;rw[ha];exact h
  ·walk_at "q";refine R.T (decide_eq_true (hw.resolve_left e)) ?_;walk_at "q";refine R.T rfl ?_;walk_at "q";refine⟨_,_,rfl,hl,?_⟩;rw[ha];exact h
def cX(SP:vb):WS :=
 (cq (fq 2 xP)
 (cq (fq 3 (qf cE))
 (cq (qh (cH (xT SP 0 cN (ao (ae 1) cE))) (gN 4)
 (cq (pH (qk 2) (ae 4) (eP oi (ae 3)))
 (BF (qk 3) (aP gk (ao (zF SP 0 (ae 4)) (ao (ae 2) cE))))))
 (jq 3))))
def cP:List (List RI)->fP:=λrs ds Q=>∃ (l:List Rw) (last:Nat),rs=l.map eB/\gX l/\ds=[.int last]/\last<l.length/\l.length<=10000/\Q (.ow true) (.list ((oq l last).map eS))
def HZ(ks:List Int):List (Key × D):=ks.zipIdx.map λq=>(.inl q.1,.int (q.2:Nat))
def JX(nd:ks.Nodup)(h:j∈ks):dS (HZ ks) (.inl j:Key)=some (.int (ks.idxOf j:Nat)):=by
 obtain⟨m,hm⟩:=z0.mp h;rw[bZ nd hm];unfold dS HZ;rw[MQ];have:∃ q,(ks.zipIdx.map λq=>((.inl q.1:Key),D.int q.2)).find? (λkv=>decide (kv.1=(.inl j:Key)))=some q:=by rw[<- Qr,List.find?_isSome];exact⟨(.inl j,.int m),c9.mpr ⟨(j,m),P4.mpr hm,rfl⟩,by simp⟩
 obtain⟨q,hq⟩:=this;refine⟨q,hq,?_⟩;obtain⟨⟨y,n⟩,hn,rfl⟩:=c9.mp (Uz hq);have e:y=j:=by have:=UG hq;simpa using this
 subst e;have CC:ks[n]? = some y:=P4.mp hn;rw[<- bZ nd hm,bZ nd CC]
def Kh(h:k∉ks):k5 (HZ ks) (.inl k:Key) (.int (ks.length:Nat))=HZ (ks++[k]):=by
 unfold k5;have e:((HZ ks).any λkv=>decide (kv.1=(.inl k:Key)))=false:=by rw[Sq];intro q hq;obtain⟨⟨y,n⟩,hn,rfl⟩:=c9.mp hq;have CC:ks[n]? = some y:=P4.mp hn;simp only[decide_eq_true_eq];intro z;exact h (Sum.inl.inj z ▸ nh CC)
 rw[e];unfold HZ;simp[List.zipIdx_append]
def iw(SP:vb):∀ a rs ds Q,cP rs ds Q->cX SP { nx:=λ_=>Q .sh .non,rt:=Q } (b8 5 a (SP false rs) ds):=by
 rintro a rs ds Q ⟨l,last,rfl,sc,rfl,hl,hz,h⟩;unfold cX b8;walk_at "q";refine⟨a,false,l.map eB,rfl,l,last,rfl,sc,rfl,hl,hz,?_⟩;walk_at "q";have rl:(aY l last).length<=10001:=kE (yg (d8 l last) (n:=last+1) λx hx=>by have:=fW sc hx;lia) (by lia);refine aW _ (λi ρ=>∃ o4,ρ=[some (.ob a (SP false (l.map eB))),some (.sh (.int last)),some (.ow true (.dK (HZ ((aY l last).take i)))),some (.ow true (.list (((oq l last).take i).map eS))),o4]) ⟨_,rfl⟩ ?_ ?_
 ·rintro i x ρ hx ⟨o4,rfl⟩ N hN;rw[g9] at hx
  cases e:(aY l last)[i]? with
  |none=>rw[e] at hx;cases hx
  |some k =>
   rw[e] at hx;cases hx;have hk:=nh e;obtain⟨k0,k1⟩:=fW sc hk;have hi:=(h9.mp e).1;have LB:k.toNat<l.length:=by lia
   obtain⟨r,hr⟩:∃ r,l[k.toNat]? = some r:=⟨_,tI LB⟩
   have ok:=sc _ _ hr;rw[qV k0] at ok;have tk:(aY l last).take (i+1)=(aY l last).take i++[k]:=by rw[vt,e];rfl
   have ts:(oq l last).take (i+1)=(oq l last).take i++[HV (Pm l last) r]:=by rw[vt];unfold oq;rw[g9,e];simp[WB,hr]
   have sl:(((oq l last).take i).map eS).length=i:=by rw[b4,lP];unfold oq;rw[b4];lia
   have tl:((aY l last).take i).length=i:=by rw[lP];lia
   have nk:k∉(aY l last).take i:=λz=>by
    obtain⟨m,hm⟩:=z0.mp z;rw[UC] at hm;split at hm
    ·have:=bZ (d8 l last) hm;rw[bZ (d8 l last) e] at this;lia
    ·cases hm
   have nml:(HZ ((aY l last).take i)).length=i:=by unfold HZ;rw[b4,List.length_zipIdx,tl]
   walk_at "q";have UX:((oq l last).take i).length=i:=by rw[b4] at sl;exact sl
   rw[UX];have pe:=Kh nk;rw[tl,<- tk] at pe;rw[pe];refine⟨by lia,a,false,l.map eB,rfl,k.toNat,eB r,by rw[qV k0],yK hr,?_⟩;rw[Ak];have ndt:((aY l last).take (i+1)).Nodup:=(List.take_sublist _ _).nodup (d8 l last);refine⟨k,r,_,Pm l last,rfl,ok,λj hj=>.inr ⟨_,rfl,?_⟩,?_⟩
   ·have Um:=zu sc hk hr j hj;have lt:=Dv ig e Um (fu ok j hj).2;obtain⟨m,hm⟩:=z0.mp Um;have em:=bZ (d8 l last) hm;have WC:((aY l last).take (i+1))[m]? = some j:=by rw[UC,if_pos (by lia)];exact hm
    rw[JX ndt (nh WC),bZ ndt WC];unfold Pm;rw[em]
   ·walk_at "q";refine⟨by lia,?_⟩;rw[Fy];have z:=hN _ ⟨some (.sh (.int k)),rfl⟩;rw[ts,kS] at z;rw[b4,UX,pe];exact z
 ·rintro ρ ⟨o4,rfl⟩;rw[b4];have e:(oq l last).take (aY l last).length=oq l last:=L4 (by unfold oq;rw[b4];exact cK _);rw[e];walk_at "q";exact h
def sS:WS :=
 (cq (nq (aP dB (ao (ae 0) (ao (ae 1) (ao (ae 2) cE)))))
 (cq (fq 3 (aP d7 (ao (ae 0) cE)))
 (gx 2 (gx 1 (fT (TR (wB (ay (EI false) (kH (ao (ae 1) (ao (ae 2) cE))) (ae 3))) (ay bX (ay bX (ae 3) (kH (ao (ae 1) (ao (ae 2) cE)))) (wC (.int 0))) (wC .non)))))))
def iQ:fP:=λds Q=>∃ (many:Int) (l:List dy) (p q:Int),ds=[mD many l,.int p,.int q]/\(0<=many/\many<=8)/\qB many l/\l.length<=1000/\ly many (p,q)/\(∃ n,Rk l n (p,q))/\∀ k,vj l k (p,q)->Q .sh (.int k)
def rB:ku 4 iQ sS:=by rintro ds Q ⟨many,l,p,q,rfl,hm,dr,hl,a,⟨n,hn⟩,h⟩;walk_at "q";refine⟨many,l,p,q,rfl,a,?_⟩;walk_at "q";refine⟨many,l,rfl,hm,dr,hl,λmp ha=>?_⟩;walk_at "q";have e1:=kJ mp (p,q);unfold ky at e1;have z:=ha.all _ a n hn;rw[e1,decide_eq_true z];walk_at "q";obtain⟨d,e,hd⟩:=zA z;obtain⟨_,k,hk,s,x,rfl,_⟩:=ha.oP _ hd;refine⟨_,_,rfl,e,?_⟩;walk_at "q";exact h k hk
def wR(SP:vb):WS :=
 (cq (nq (aP dB (ao (ae 0) (ao (ae 1) (ao (ae 2) cE)))))
 (cq (fq 3 (aP d7 (ao (ae 0) cE)))
 (cq (gx 2 (gx 1 (iP (wB (ay (EI true) (kH (ao (ae 1) (ao (ae 2) cE))) (ae 3)))
 (fT (wC .non))
 bj)))
 (cq (fq 4 (aP fJ (ao (ae 0) cE)))
 (cq (KY SP 5)
 (cq (fq 6 iM)
 (cq (gx 3 (G4 (ae 3) (gN 7)
 (uJ (qk 6) (ae 7) (iI SP 5 jK (iK 6 (iK 3 (iK 4 (iK 7 sJ))))))))
 (gx 2 (gx 1 (fT (xT SP 5 cP (ao (ay bX (ae 6) (kH (ao (ae 1) (ao (ae 2) cE)))) cE))))))))))))
def bA'(l:List dy)(rs:List Rw)(s:Int):Bool:=(jS l rs).getD (rs.length-1) (λ_=>false) s
def mU:fP:=λds Q=>∃ (many:Int) (l:List dy) (p q:Int) (k:Nat),ds=[mD many l,.int p,.int q]/\(0<=many/\many<=8)/\qB many l/\l.length<=200/\ly many (p,q)/\vj l k (p,q) /\
 ∀ rs,gX rs->1<=rs.length->rs.length<=128->depth rs=k->bA' l rs p=true->bA' l rs q=false->Q (.ow true) (.list (rs.map eS))
def NQ{mp:Mp}{i:Nat}{x:D}(h:((gE mp).map λkv=>yi kv.1)[i]? = some x):∃ y,mp[i]? = some y/\x=BI y.1:=by
 rw[g9,gE,g9] at h
 cases e:mp[i]? with
 |none=>rw[e] at h;cases h
 |some y=>rw[e] at h;cases h;exact⟨y,rfl,rfl⟩
def Cd(sc:gX l)(hl:last<l.length):(aY l last).length<=l.length:=yg (d8 l last) λx hx=>by have:=fW sc hx;lia
def yD(SP:vb):∀ ds Q,mU ds Q->wR SP { nx:=λ_=>Q .sh .non,rt:=Q } (tY 8 ds):=by
 rintro ds Q ⟨many,l,p,q,k,rfl,hm,dr,hl,hp,fs,h⟩;walk_at "q";refine⟨many,l,p,q,rfl,hp,?_⟩;walk_at "q";refine⟨many,l,rfl,hm,dr,by lia,λmp ha=>?_⟩;walk_at "q";have e1:=kJ mp (p,q);unfold ky at e1;have z:=ha.all _ hp k fs.1;rw[e1,decide_eq_true z];walk_at "q";refine⟨many,l,rfl,by lia,λkvs hw=>?_⟩;walk_at "q";intro a;walk_at "q";refine aW _ (λi ρ=>∃ (rs:List Rw) (nm:Nm) (o7:Option Sl),LH l mp i rs nm/\ρ=[some (.sh (mD many l)),some (.sh (.int p)),some (.sh (.int q)),some (.sh (.dT (gE mp))),some (.ow true (.dT kvs)),some (.ob a (SP true (rs.map eB))),some (.ow true (.dT (gE (DT nm)))),o7]) ⟨[],[],_,LH.nil _ _,rfl⟩ ?_ ?_
 ·rintro i x ρ hx ⟨rs,nm,o7,I,rfl⟩ N hN;obtain⟨⟨⟨u,v⟩,d⟩,hy,rfl⟩:=NQ hx;obtain⟨_,k2,_,s,e,ed,_⟩:=ha.oP _ (nh hy);subst ed;rw[show BI (u,v)=.tup [.int u,.int v] from rfl];have st:=(I.step ha dr hl hy).2;have al:=ha.len;have hi:=(h9.mp hy).1;have nl:nm.length<=i:=by have:=congrArg List.length I.ks;rw[b4,lP] at this;lia
  have nn:(u,v)∉eT (DT nm):=λz=>by
   have z:(u,v)∈nm.map (·.1):=by simpa[eT,DT] using z
   rw[I.ks] at z;obtain⟨j,hj⟩:=z0.mp z;rw[UC] at hj;split at hj
   ·rename_i lt;have h2:(eT mp)[i]? = some (u,v):=by rw[eT,g9,hy];rfl
    obtain⟨a1,b1⟩:=h9.mp hj;obtain⟨a2,b2⟩:=h9.mp h2;have:=(Ss ha.nd).mp (b1.trans b2.symm);lia
   ·cases hj
  walk_at "q";refine⟨a,rs.map eB,rfl,?_⟩;walk_at "q";refine⟨many,l,kvs,mp,i,rs,nm,u,v,k2,s,e,rfl,rfl,hw,ha,dr,hl,I,hy,?_⟩;walk_at "q";generalize tj rs "some" s "and" (vk l nm v s e)=W at st ⊢;have e2:=yS (.int W.2) nn;unfold ky at e2;refine⟨by rw[fZ,DT,b4];lia,?_⟩;rw[e2,show DT nm++[((u,v),D.int W.2)]=DT (nm++[((u,v),W.2)]) by simp[DT]];exact hN _ ⟨W.1,_,_,st,rfl⟩
 ·rintro ρ ⟨rs,nm,o7,I,rfl⟩;rw[b4,fZ] at I;have hk:(p,q)∈nm.map (·.1):=by rw[I.ks,L4 (by rw[eT,b4];exact cK _)];exact z
  obtain⟨g,hm⟩:=xr hk;generalize BM nm (p,q)=n at *
  obtain⟨n0,n1⟩:=I.bd _ hm;obtain⟨v1,v2,v3⟩:=I.va _ hm k fs;have al:=ha.len;have rl:=I.ll;walk_at "q";refine⟨a,true,rs.map eB,rfl,?_⟩;walk_at "q";refine⟨_,_,rfl,g,?_⟩;walk_at "q";obtain⟨n',rfl⟩:=Int.eq_ofNat_of_zero_le n0;have n1:n'<rs.length:=by simpa using n1
  refine⟨rs,n',rfl,I.sc,rfl,n1,by lia,?_⟩;have w1:=tX (zC l) I.sc n1;have w2:=tX xt I.sc n1;have hlen:(oq rs n').length<=rs.length:=by rw[nM];exact Cd I.sc n1
  have no':1<=(oq rs n').length:=by rw[nM];exact Ax I.sc
  have sc:=Eg I.sc n1;rw[<- w1] at v1 v2;rw[<- w2] at v3;unfold Sm.at at v1 v2 v3;rw[Ce,IL] at v1 v2;rw[uI,IL] at v3;walk_at "q";exact h _ sc no' (by lia) v3 v1 v2
def lA:WS :=
 (cq (iP (wt (wx (wB (eP (BE "list") (ae 0)))) (wx (wB (gU EH EH (wC (.int 1)) (eP oi (ae 0)) (wC (.int 2000))))))
 (fT (wC (.bl false)))
 bj)
 (fT (eP OU (cL (tO (ae 0)) (gT 2 (cQ (gN 0) (cQ (gN 1) qC))) uk (aP qW (ao (ae 0) (ao (ae 1) cE))) 2 []))))
def eF:fP:=λds Q=>∃ l:List Rw,ds=[.list (l.map eS)]/\gX l/\1<=l.length/\l.length<=2000/\Q .sh (.bl true)
def rW:ku 1 eF lA:=by
 rintro ds Q ⟨l,rfl,hs,h1,h2,h⟩;unfold lA;walk_at "q";refine R.F rfl ?_;walk_at "q";refine R.T (decide_eq_true (by lia)) ?_;walk_at "q";refine R.F (by rw[decide_eq_true (by lia)];rfl) ?_;walk_at "q";refine aN (λ_=>true) (λ_=>.bl true) (λρ=>∃ o o',ρ=[o,o']) _ _ _ ⟨_,_,rfl⟩ ?_ ?_
 ·rintro y hy ρ ⟨o,o',rfl⟩ N1 N2 _ h2;obtain⟨i,hi⟩:=z0.mp hy;unfold eU at hi;rw[Za,g9] at hi
  cases e:l[i]? with
  |none=>rw[e] at hi;cases hi
  |some r =>rw[e] at hi;cases hi;walk_at "q";exact⟨_,_,rfl,hs i r e,.inl rfl,h2 _ ⟨_,_,rfl⟩ rfl⟩
 ·rw[bY];refine⟨(eU (l.map eS)).map λ_=>true,by rw[fE];rfl,?_⟩;rw[L9,show(eU (l.map eS)).all ((λb=>b) ∘ λ_=>true)=true from yT.mpr λ_ _=>rfl];exact h
def lG:WS :=
 (iP (wx (wB (aP eF (ao (ae 0) cE))))
 uT
 bj)
def cI:fP:=λds Q=>∃ l:List Rw,ds=[.list (l.map eS)]/\gX l/\1<=l.length/\l.length<=2000/\Q .sh .non
def lQ:ku 1 cI lG:=by rintro ds Q ⟨l,rfl,hs,h1,h2,h⟩;walk_at "q";refine⟨l,rfl,hs,h1,h2,?_⟩;walk_at "q";exact h
def Hr:WS :=
 (cq (nq (aP cI (ao (ae 1) cE)))
 (cq (nq (aP b7 (ao (ae 0) (ao (ae 2) cE))))
 (fT (ay bX (ay bX (aP jd (ao (ae 0) (ao (ae 1) cE))) (eP Dx (wC (.int 1)))) (ae 2)))))
def pq:fP:=λds Q=>∃ (many:Int) (l:List dy) (rs:List Rw) (s:Int),ds=[mD many l,.list (rs.map eS),.int s]/\0<=many/\many<=20/\qB many l/\l.length<=1000/\gX rs/\1<=rs.length/\rs.length<=2000/\0<=s/\s<many/\Q .sh (.bl (bA' l rs s))
def H_:ku 3 pq Hr:=by rintro ds Q ⟨many,l,rs,s,rfl,m0,m1,dr,hz,sc,h1,h2,s0,s1,h⟩;walk_at "q";refine⟨rs,rfl,sc,h1,h2,?_⟩;walk_at "q";refine⟨many,l,s,rfl,s0,s1,?_⟩;walk_at "q";refine⟨many,l,rs,rfl,m0,m1,dr,hz,sc,h2,?_⟩;walk_at "q";refine⟨_,nh' (d:=λ_=>false) (gy many) (by rw[fH];exact h1),?_⟩;unfold gy;walk_at "q";refine⟨_,lF s0 s1 _,?_⟩;rw[fH];exact h
def wA:WS :=
 (cq (nq (aP cI (ao (ae 0) cE)))
 (cq (fq 1 (qf cE))
 (cq (gx 0 (qh (cH (ae 0)) (gN 2)
 (cq (fq 3 (ay Ay (cL (mY (aP oA (ao (ae 2) cE))) (gN 0) uk (ay bX (ae 1) (ae 0)) 1 [1]) (wC (.int 0))))
 (BF (qk 1) (TR (wt (wB (ay kr (ay bX (ae 2) (wC (.int 0))) (wC (.str "some")))) (wB (ay kr (ay bX (ae 2) (wC (.int 0))) (wC (.str "all"))))) (ay mS (ae 3) (wC (.int 1))) (ae 3))))))
 (fT (ay bX (ae 1) (eP Dx (wC (.int 1))))))))
def jV:fP:=λds Q=>∃ l:List Rw,ds=[.list (l.map eS)]/\gX l/\1<=l.length/\l.length<=2000/\Q .sh (.int (depth l))
def wj:ku 4 jV wA:=by
 rintro ds Q ⟨l,rfl,hs,h1,h2,h⟩;walk_at "q";refine⟨l,rfl,hs,h1,h2,?_⟩;walk_at "q";refine aW _ (λi ρ=>∃ o2 o3:Option Sl,ρ=[some (.sh (.list (l.map eS))),some (.ow true (.list ((deps (l.take i)).map D.int))),o2,o3]) ⟨_,_,rfl⟩ ?_ ?_
 ·rintro i x ρ hx ⟨o2,o3,rfl⟩ N hN;rw[g9] at hx
  cases e:l[i]? with
  |none=>rw[e] at hx;cases hx
  |some r =>
   rw[e] at hx;cases hx;have hr:=hs i r e;have hi:i<l.length:=(h9.mp e).1;walk_at "q";refine⟨r,i,rfl,hr,?_⟩;walk_at "q";have hlen:((l.take i).length:Int)=i:=by rw[lP];lia
   have hd:∀ p∈sA r,0<=p/\p<i:=by
    cases r with
    |st w d j=>intro p hp;rw[ic.mp hp];exact hr.2.2
    |nt j=>intro p hp;rw[ic.mp hp];exact hr
    |jn w ps=>exact hr.2.2
   have nn:=pC (l.take i);have step:deps (l.take (i+1))=deps (l.take i)++[dep (deps (l.take i)) r]:=by rw[vt,e];exact gw _ _
   have eK:(deps (l.take i)).length<16777216:=by rw[eX,lP];lia
   refine aN (λ_=>true) (λd=>match d with
    |.int p=>.int ((deps (l.take i)).getD p.toNat 0)
    |d=>d) (λρ=>∃ o,ρ=[o,some (.sh (.list ((deps (l.take i)).map D.int)))]) _ _ _ ⟨_,rfl⟩ ?_ ?_
   ·rintro y hy ρ ⟨o,rfl⟩ N1 N2 _ h2;obtain⟨p,hp,rfl⟩:=c9.mp hy;walk_at "q";exact⟨_,sZ (hd p hp).1 (by rw[hlen];exact(hd p hp).2),⟨.inl rfl,h2 _ ⟨_,rfl⟩ rfl⟩⟩
   ·rw[bY];refine⟨(sA r).map λp=>(deps (l.take i)).getD p.toNat 0,by rw[fE,fE];rfl,?_⟩;rw[Jm (λn hn=>by
     obtain⟨p,_,rfl⟩:=c9.mp hn;exact fY nn _)]
    have one:∀ x:Int,0<=x->sT [x]=x:=λx hx=>by simp only[sT,xC,Sw];split<;>lia
    have fin:∀ v:Int,v=dep (deps (l.take i)) r->∀ o2 o3:Option Sl,N [some (.sh (.list (l.map eS))),some (.ow true (.list ((deps (l.take i)).map D.int++[D.int v]))),o2,o3]:=λv hv o2 o3=>by subst hv;refine hN _ ⟨o2,o3,?_⟩;rw[step,kS];rfl
    cases r with
    |st w d j =>
     rw[show eS (.st w d j)=.tup [.str w,.str d,.int j] from rfl];walk_at "q";have ev:sT ((sA (.st w d j)).map λp=>(deps (l.take i)).getD p.toNat 0)+1=dep (deps (l.take i)) (.st w d j):=by show sT [_]+1=_;rw[one _ (fY nn _)];rfl
     refine R.D (λe=>?_) λe=>?_
     ·walk_at "q";exact⟨eK,fin _ ev _ _⟩
     ·walk_at "q";refine R.T (decide_eq_true (hr.1.resolve_left e)) ?_;walk_at "q";exact⟨eK,fin _ ev _ _⟩
    |nt j =>rw[show eS (.nt j)=.tup [.str "not",.int j] from rfl];walk_at "q";refine R.F (decide_eq_false LG.1) ?_;walk_at "q";refine R.F (decide_eq_false LG.2) ?_;walk_at "q";exact⟨eK,fin _ (one _ (fY nn _)) _ _⟩
    |jn w ps =>rw[show eS (.jn w ps)=.tup [.str w,.tup (ps.map .int)] from rfl];walk_at "q";refine R.F (decide_eq_false (AU hr.1).1) ?_;walk_at "q";refine R.F (decide_eq_false (AU hr.1).2.1) ?_;walk_at "q";exact⟨eK,fin _ rfl _ _⟩
 ·rintro ρ ⟨o2,o3,rfl⟩;rw[b4,AY];walk_at "q";refine⟨.int (depth l),?_,h⟩;have iX:l≠[]:=by intro z;subst z;simp at h1
  obtain⟨l',r,rfl⟩:∃ l' r,l=l'++[r]:=⟨l.dropLast,l.getLast iX,(List.dropLast_concat_getLast iX).symm⟩
  rw[gw,zP,kS];exact Vh _ _
def jx:WS :=
 (cq (fq 8 (aP iQ (ao (ae 3) (ao (ay bX (ae 7) (wC (.int 0))) (ao (ay bX (ae 7) (wC (.int 1))) cE)))))
 (cq (iP (wt (wx (wB (eP (BE "int") (ae 8)))) (wt (wB (eP (BE "bool") (ae 8))) (wx (wB (gU EH EH (wC (.int 1)) (ae 8) (ay bX (ae 4) (ae 7)))))))
 (fT (wC (.bl false)))
 bj)
 (cq (fq 9 (aP mU (ao (ae 3) (ao (ay bX (ae 7) (wC (.int 0))) (ao (ay bX (ae 7) (wC (.int 1))) cE)))))
 (cq (iP (wt (wx (wB (aP eF (ao (ae 9) cE)))) (wB (ay VZ (aP jV (ao (ae 9) cE)) (ae 8))))
 (fT (wC (.bl false)))
 bj)
 (iP (wt (wB (ay Bo (aP pq (ao (ae 3) (ao (ae 9) (ao (ay bX (ae 7) (wC (.int 0))) cE)))) (wC (.bl true)))) (wB (ay Bo (aP pq (ao (ae 3) (ao (ae 9) (ao (ay bX (ae 7) (wC (.int 1))) cE)))) (wC (.bl false)))))
 (fT (wC (.bl false)))
 bj)))))
def oF:WS :=
 (cq (qh (cH (Lc (ay mS (Lc (ae 5) (j_ (ae 6)) iD) (ae 5)) iD (j_ (wC (.int 4))))) (gN 7)
 jx)
 (fT (wC (.bl true))))
def Kl:WS :=
 (cq (fq 1 (ay mS (wC (.int 1)) (ay og (aP a_ (ao (ae 0) (ao (wC (.int 0)) cE))) (wC (.int 7)))))
 (cq (fq 2 (aP gM (ao (aP a_ (ao (ae 0) (ao (wC (.int 1)) cE))) cE)))
 (cq (fq 3 (aP eO (ao (ae 0) (ao (ae 1) (ao (ae 2) cE)))))
 (cq (fq 4 (aP gD (ao (ae 3) (ao (aP fU (ao (ae 0) (ao (ae 2) cE))) cE))))
 (cq (fq 5 (eP v_ (ae 4)))
 (cq (fq 6 (ay og (aP a_ (ao (ae 0) (ao (wC (.int 3)) cE))) (ay mS (eP oi (ae 5)) (wC (.int 1)))))
 oF))))))
abbrev WL:fP:=ez'
def zY{α:Type}{l:List α}{lo hi:Option Int}{x:α}(h:x∈kK l lo hi):x∈l:=Si (P5 h)
def np'(h:AW many l kvs):∃ ks:List P2,(kvs.map λkv=>D.tup (kv.1.map iO))=ks.map BI/\(∀ x∈ks,(dS kvs (ky x)).isSome=true)/\ks.length=kvs.length:=by
 have:∀ (k2:Kn),(∀ kv∈k2,kv∈kvs)->∃ ks:List P2,(k2.map λkv=>D.tup (kv.1.map iO))=ks.map BI/\(∀ x∈ks,(dS kvs (ky x)).isSome=true)/\ks.length=k2.length:=by
  intro k2
  induction k2 with
  |nil=>exact λ_=>⟨[],rfl,(λ_ z=>nomatch z),rfl⟩
  |cons kv k2 ih =>
   intro hs;obtain⟨ks,e,g,n⟩:=ih λx hx=>hs x (eI _ hx);obtain⟨x,m,ek,_⟩:=h kv (hs kv eh);refine⟨x :: ks,by rw[gL,gL,e,ek];rfl,λy hy=>?_,by rw[k8,n];rfl⟩;rcases eu.mp hy with rfl|hy
   ·rw[tD];exact c9.mpr ⟨kv,hs kv eh,by rw[ek]⟩
   ·exact g y hy
 exact this kvs λ_ h=>h
def pI(l:List P2)(lo hi:Option Int):kK (l.map BI) lo hi=(kK l lo hi).map BI:=by unfold kK;rw[b4,List.map_take,List.map_drop]
def J0:∀ {n:Nat},Rk l n p->∃ k,vj l k p:=λ{n}=>by
 induction n using Nat.strongRecOn with
 |ind n ih =>
  intro r;by_cases z:∃ m,m<n/\Rk l m p
  ·obtain⟨m,hm,r2⟩:=z;exact ih m hm r2
  ·exact⟨n,r,λm hm r2=>z ⟨m,hm,r2⟩⟩
def Bw{N B:L2.Q.Env->Prop}{Q:Md->D->Prop}{v0 v2 v5 v6 o8 o9:Option Sl}{many p q:Int}{l:List dy}{kvs:Kn}{n:Nat}(hm:1<=many/\many<=8)(dr:qB many l)(hl:l.length<=126)(g:dS kvs [.inl p,.inl q]=some (.int n))(hp:ly many (p,q))(r:Rk l n (p,q))(hN:∀ o8 o9,N [v0,some (.sh (.int many)),v2,some (.ow true (mD many l)),some (.ow true (.dT kvs)),v5,v6,some (.sh (.tup [.int p,.int q])),o8,o9]) :
  jx { nx:=N,ct:=N,bk:=B,rt:=Q } [v0,some (.sh (.int many)),v2,some (.ow true (mD many l)),some (.ow true (.dT kvs)),v5,v6,some (.sh (.tup [.int p,.int q])),o8,o9]:=by
 obtain⟨k,fs⟩:=J0 r;have kn:k<=n:=Zh λz=>fs.2 n z r;have k1:1<=k:=by
  cases k with
  |zero=>exact fs.1.elim
  |succ k=>lia
 unfold jx;walk_at "q";refine⟨many,l,p,q,rfl,by lia,dr,by lia,hp,⟨n,r⟩,λk' fs'=>?_⟩;rw[fs'.uniq fs];walk_at "q";refine R.F rfl ?_;walk_at "q";refine R.F rfl ?_;walk_at "q";refine R.T (decide_eq_true (by lia)) ?_;walk_at "q";refine⟨_,_,rfl,g,?_⟩;walk_at "q";refine R.F (by rw[decide_eq_true (by lia)];rfl) ?_;walk_at "q";refine⟨many,l,p,q,k,rfl,by lia,dr,by lia,hp,fs,λrs sc r1 r2 dp tp tq=>?_⟩;walk_at "q";refine⟨rs,rfl,sc,r1,by lia,?_⟩;walk_at "q";refine⟨rs,rfl,sc,r1,by lia,?_⟩;rw[dp];walk_at "q";refine⟨many,l,rs,p,rfl,by lia,by lia,dr,by lia,sc,r1,by lia,hp.1.1,hp.1.2,?_⟩;rw[tp];walk_at "q";refine R.F rfl ?_;walk_at "q";refine⟨many,l,rs,q,rfl,by lia,by lia,dr,by lia,sc,r1,by lia,hp.2.1,hp.2.2,?_⟩;rw[tq];walk_at "q";refine R.F rfl ?_;walk_at "q";exact hN _ _
def Et{Q:Md->D->Prop}{ns:List Int}{many at0:Int}{names:List Str}{l:List dy}{kvs:Kn}{ks:List P2}(hm:1<=many/\many<=8)(dr:qB many l)(hl:l.length<=126)(ls:AW many l kvs)(hk:∀ x∈ks,(dS kvs (ky x)).isSome=true)(kl:ks.length<=5000)(h:∀ m,Q m (.bl true)) :
  oF { nx:=λ_=>Q .sh .non,rt:=Q } [some (.sh (.list (ns.map .int))),some (.sh (.int many)),some (.ow true (.list (names.map .str))),some (.ow true (mD many l)),some (.ow true (.dT kvs)),some (.ow true (.list (ks.map BI))),some (.sh (.int at0)),none,none,none]:=by
 obtain⟨w0,e0⟩:∃ w,w=jx:=⟨_,rfl⟩
 unfold oF;rw[<- e0];have fl:∀ l:List P2,dQ (l.map BI)=true:=zz;have cl:=fD ks (some at0) none;walk_at "q";refine .inl ⟨fl _,by rw[pI,b4];lia,.inl ⟨by rw[pI];exact fl _,fl _,.inl ⟨by rw[pI,<- kS];exact fl _,?_⟩⟩⟩;rw[pI,<- kS,pI];refine aW _ (λi ρ=>∃ (o7 o8 o9:Option Sl),ρ=[some (.sh (.list (ns.map .int))),some (.sh (.int many)),some (.ow true (.list (names.map .str))),some (.ow true (mD many l)),some (.ow true (.dT kvs)),some (.ow true (.list (ks.map BI))),some (.sh (.int at0)),o7,o8,o9]) ⟨_,_,_,rfl⟩ ?_ ?_
 ·rintro i x ρ hx ⟨o7,o8,o9,rfl⟩ N hN;obtain⟨p,q,rfl,x5,_⟩:=Nj hx;have GA:(p,q)∈ks:=(hJ.mp (zY x5)).elim zY id;obtain⟨d,hd⟩:=Qr.mp (hk _ GA);obtain⟨n,rfl,hp,r⟩:=ls.get hd;walk_at "q";rw[e0];exact Bw hm dr hl hd hp r λo8 o9=>hN _ ⟨_,_,_,rfl⟩
 ·rintro ρ ⟨o7,o8,o9,rfl⟩;walk_at "q";exact h _
def NP:ku 10 WL Kl:=by
 rintro ds Q ⟨ns,rfl,Pt,h⟩;obtain⟨w6,e6⟩:∃ w,w=oF:=⟨_,rfl⟩
 unfold Kl;rw[<- e6];walk_at "q";refine⟨ns,0,rfl,by decide,?_⟩;generalize ns.getD _ 0=c0;obtain⟨many,em,hm⟩:∃ many:Int,many=1+c0 % 7/\1<=many/\many<=8:=⟨_,rfl,by lia,by lia⟩
 walk_at "q";rw[<- em];refine⟨ns,1,rfl,by decide,?_⟩;generalize ns.getD _ 0=c1;walk_at "q";refine⟨c1,rfl,λnames n1 n3 hd=>?_⟩;walk_at "q";refine⟨ns,many,names,rfl,Pt,hm,n1,hd,λl dr hl=>?_⟩;walk_at "q";refine⟨ns,names,rfl,Pt,n1,hd,λrs sc ps rl=>?_⟩;walk_at "q";refine⟨many,l,rs,rfl,by lia,dr,sc,ps,rl,λkvs ls kl=>?_⟩;obtain⟨ks,ek,hk,el⟩:=np' ls;walk_at "q";rw[ek];refine⟨ns,3,rfl,by decide,?_⟩;walk_at "q";refine⟨by lia,?_⟩;rw[e6];exact Et hm dr hl ls hk (by lia) h
def top(i:Nat):h8:=PySem.Challenge.pw_kinlook_k56_no_shallower_lack.main.body.getD i (.Pass ⟨0,0,0,0⟩)
def Io:h8->List h8
 |.ClassDef _ _ _ b .. => b
 |_=>[]
abbrev zD(i j:Nat):h8:=(Io (top i)).getD j (.Pass ⟨0,0,0,0⟩)
abbrev jD:h8:=zD 18 1
abbrev iy:h8:=zD 18 0
abbrev cz:h8:=top 45
abbrev rY:h8:=top 47
structure Txt(K:aC)(mg:Str->Option ag):Prop where
 fo':mg "_law_j" = none
 Pw:mg "all" = none
 WM:mg "any" = none
 WN:mg "bool" = none
 WQ:mg "enumerate" = none
 WR:mg "int" = none
 BO:mg "isinstance" = none
 oQ:mg "len" = none
 R6:mg "list" = none
 WU:mg "max" = none
 WV:mg "min" = none
 BQ:mg "range" = none
 bC':mg "set" = none
 Us:mg "sorted" = none
 Ut:mg "str" = none
 PD:mg "tuple" = none
 bD':VB mg "HIDDEN" "*"
 bE':VB mg "LETTERS" "abcdefghijklmnopqrstuvwxyz"
 bF':Tw mg "MOST_LETTERS" 6
 bG':Tw mg "MOST_ROWS" 2000
 bH':Tw mg "MOST_PARTS" 200
section
variable {P:cf}{w:cw}{K:aC}{mg:Str->Option ag}{base:df}
structure ShT(P:cf)(w:cw)(K:aC)(mg:Str->Option ag)(base:df)(C fi fp:ai)(di dp:qE)(PF:ai)(ns':qE)(PH:ai)(nt':qE)(PK:ai)(nu':qE):Prop where
 gl:mg "Sheet" = some (.ref C)
 mkk:Mk K C fi
 cls:vS K C
 n1:vT K C "rows"
 n2:vT K C "places"
 init:ki P w K mg base iA 1 fi di ["self"] (oW K P w)
 bi:Binds K di ["self"] []
 fp':Meth K C "put" fp
 put:ki P w K mg base iA 1 fp dp ["self", "row"] (uU K P w)
 bp:Binds K dp ["self", "row"] []
 nw':Meth K C "put_over" PF
 nx':Binds K ns' ["self", "word", "deed", "joint", "parts"] []
 ny':Meth K C "rows_read" PH
 nz':Binds K nt' ["self", "last"] []
 nA':Meth K C "scroll_to" PK
 nB':Binds K nu' ["self", "last"] []
def HJ:A6 ["self", "row"] ["self", "row"] (eW jD):=⟨rfl,rfl,rfl,by decide +kernel,rfl,by decide +kernel,by decide +kernel⟩
def Eo {f:ai} {fd:qE} (F:sM K "put" "Sheet.put" jD f fd) (hl:mg "len" = none):ki P w K mg base iA 1 f fd ["self", "row"] (uU K P w) :=
 G8 F HJ λdk A outer s H E hr=>Hg (by have h:=hr.units;show(A.deeper (pz "Sheet.put" (eW jD) s.heap.objs.size f dk)).units+14<fA;lia) rfl hl (λ_=>SY rfl (.inl rfl)) (λ_=>SY rfl (.inl rfl)) (λ_ _=>rfl) rfl (λ_ _ _=>rfl)
def Al:A6 ["self"] ["self"] (eW iy):=⟨rfl,rfl,rfl,by decide +kernel,rfl,by decide +kernel,by decide +kernel⟩
def Bd {f:ai} {fd:qE} (F:sM K "__init__" "Sheet.__init__" iy f fd):ki P w K mg base iA 1 f fd ["self"] (oW K P w) :=
 Cz F Al λdk A outer s H E hr=>Br (λ_=>SY rfl (.inl rfl))
end
def us1{us:List ag}(h:us.length=1):∃ a0,us=[a0]:=by
 cases us with
 |nil=>simp at h
 |cons a0 us =>
 cases us with
 |nil=>exact⟨_,rfl⟩
 |cons b us=>simp at h
def us2{us:List ag}(h:us.length=2):∃ a0 a1,us=[a0,a1]:=by
 cases us with
 |nil=>simp at h
 |cons a0 us =>
 cases us with
 |nil=>simp at h
 |cons a1 us =>
 cases us with
 |nil=>exact⟨_,_,rfl⟩
 |cons b us=>simp at h
def us5{us:List ag}(h:us.length=5):∃ a0 a1 a2 a3 a4,us=[a0,a1,a2,a3,a4]:=by
 cases us with
 |nil=>simp at h
 |cons a0 us =>
 cases us with
 |nil=>simp at h
 |cons a1 us =>
 cases us with
 |nil=>simp at h
 |cons a2 us =>
 cases us with
 |nil=>simp at h
 |cons a3 us =>
 cases us with
 |nil=>simp at h
 |cons a4 us =>
 cases us with
 |nil=>exact⟨_,_,_,_,_,rfl⟩
 |cons b us=>simp at h
abbrev FA(K:aC)(x:Str)(s:h8):Prop:=∃ (f:ai) (oc:ag) (od an:Option ai) (EC:Array (Option ag)) (kV doc pm dk ct:ag),md K iF x=some (some (.ref f))/\K.lookup f=some ⟨oc,od,.func (sD x x (wa s) (mP s) (eW s) .none kV doc pm an dk ct),EC⟩/\B4 K dk x=true/\xB K (.ref f)=true
def bF{K:aC}{h:df}{mg:Str->Option ag}{x:Str}{s:h8}(X:K.In h)(G:h.Ns iF mg)(a:FA K x s):∃ f fd,mg x=some (.ref f)/\sM K x x s f fd:=by obtain⟨f,_,_,_,_,_,_,_,_,_,a,l,c,k⟩:=a;exact⟨_,_,IA X G a,NR l c k⟩
def L_{K:aC}{x:Str}{s:h8}{f:ai}{oc:ag}{od an:Option ai}{EC:Array (Option ag)}{kV doc pm dk ct:ag}(a:md K iF x=some (some (.ref f)))(l:K.lookup f=some ⟨oc,od,.func (sD x x (wa s) (mP s) (eW s) .none kV doc pm an dk ct),EC⟩)(c:B4 K dk x=true)(k:xB K (.ref f)=true):FA K x s:=⟨_,_,_,_,_,_,_,_,_,_,a,l,c,k⟩
set_option maxHeartbeats 0 in
def all_mk {l:W4} {w:cw} {K:aC} {h:df} {mg:Str->Option ag} {fa:ai} (X:K.In h) (G:h.Ns iF mg) (hfa:mg "law" = some (.ref fa))(a0:FA K "is_open" (top 4))(a1:FA K "is_deed" (top 5))(a2:FA K "is_whole" (top 11))(a3:FA K "check_state" (top 12))(a4:FA K "ways_of" (top 13))(a5:FA K "exits_of" (top 14))(a6:FA K "drawn" (top 16))(a7:FA K "renumbered" (top 17))(a8:FA K "all_missed" (top 20))(a9:FA K "step_missed" (top 21))(a10:FA K "missed_in" (top 22))(a11:FA K "misses_of" (top 23))(a12:FA K "check_both" (top 24))(a13:FA K "missed_at" (top 25))(a14:FA K "put_lack" (top 26))(a15:FA K "lack_of" (top 27))(a16:FA K "is_ahead" (top 31))(a17:FA K "are_parts" (top 32))(a18:FA K "is_row" (top 33))(a19:FA K "is_scroll" (top 34))(a20:FA K "check_scroll" (top 35))(a21:FA K "row_holds" (top 36))(a22:FA K "truths_of" (top 37))(a23:FA K "holds" (top 38))(a24:FA K "depth_of" (top 39))(a25:FA K "_law_cell_at" (top 41))(a26:FA K "_law_deeds" (top 42))(a27:FA K "_law_machine" (top 43))(a28:FA K "_law_scroll" (top 44))(a29:FA K "_law_row_holds" cz)(a30:FA K "_law_least" (top 46))(a31:md K iF "law" = some (some (.ref f31))) (l31:K.lookup f31=some ⟨o31,d31,.func (sD "law" "law" (wa rY) (mP rY) (eW rY) .none v31 j31 p31 e31 r31 u31),t31⟩) (c31:B4 K r31 "law" = true) (k31:xB K (.ref f31)=true)(fo':md K iF "_law_j" = some none)(Pw:md K iF "all" = some none)(WM:md K iF "any" = some none)(WN:md K iF "bool" = some none)(WQ:md K iF "enumerate" = some none)(WR:md K iF "int" = some none)(BO:md K iF "isinstance" = some none)(oQ:md K iF "len" = some none)(R6:md K iF "list" = some none)(WU:md K iF "max" = some none)(WV:md K iF "min" = some none)(BQ:md K iF "range" = some none)(bC':md K iF "set" = some none)(Us:md K iF "sorted" = some none)(Ut:md K iF "str" = some none)(PD:md K iF "tuple" = some none){oi':Tok} (bD':md K iF "HIDDEN" = some (some (.str "*" oi'))){oj':Tok} (bE':md K iF "LETTERS" = some (some (.str "abcdefghijklmnopqrstuvwxyz" oj'))){ol':Tok} (bF':md K iF "MOST_LETTERS" = some (some (.int 6 ol'))){om':Tok} (bG':md K iF "MOST_ROWS" = some (some (.int 2000 om'))){on':Tok} (bH':md K iF "MOST_PARTS" = some (some (.int 200 on'))){C fi fp PF PH PK:ai} (sa:md K iF "Sheet" = some (some (.ref C))) (s1:W3 K C=true) (s4:xB K (.ref C)=true) (s5:Sd K C Str.empty=true) (s6:Uw K C=true) (s7:WY K C=true) (s8:sC K (.ref C) "__setattr__" = some (some (.builtin "object.__setattr__"))) (s9:sC K (.ref C) "rows" = some none) (s0:sC K (.ref C) "places" = some none)(hi:sC K (.ref C) "__init__" = some (some (.ref fi))) (hli:K.lookup fi=some ⟨hoi,hdi,.func (sD "__init__" "Sheet.__init__" (wa iy) (mP iy) (eW iy) .none hvi hji hqi hei hyi hui),hti⟩) (hci:B4 K hyi "Sheet.__init__" = true) (hki:xB K (.ref fi)=true) (hfi:IB K (.ref fi)=true)(hp:sC K (.ref C) "put" = some (some (.ref fp))) (hlp:K.lookup fp=some ⟨hop,hdp,.func (sD "put" "Sheet.put" (wa jD) (mP jD) (eW jD) .none hvp hjp hqp hep hyp hup),htp⟩) (hcp:B4 K hyp "Sheet.put" = true) (hkp:xB K (.ref fp)=true) (hfp:IB K (.ref fp)=true)(hm0:sC K (.ref C) "put_over" = some (some (.ref PF))) (ox':K.lookup PF=some ⟨rv',rx',.func (sD "put_over" "Sheet.put_over" (wa (zD 18 2)) (mP (zD 18 2)) (eW (zD 18 2)) .none ry' rz' rA' rB' oy' rC'),rD'⟩) (oz':B4 K oy' "Sheet.put_over" = true) (fv':xB K (.ref PF)=true) (oA':IB K (.ref PF)=true)(AI:sC K (.ref C) "rows_read" = some (some (.ref PH))) (oB':K.lookup PH=some ⟨rE',rF',.func (sD "rows_read" "Sheet.rows_read" (wa (zD 18 3)) (mP (zD 18 3)) (eW (zD 18 3)) .none rG' rH' rI' rJ' oC' rK'),rL'⟩) (oD':B4 K oC' "Sheet.rows_read" = true) (fw':xB K (.ref PH)=true) (oE':IB K (.ref PH)=true)(x5:sC K (.ref C) "scroll_to" = some (some (.ref PK))) (oF':K.lookup PK=some ⟨rM',rN',.func (sD "scroll_to" "Sheet.scroll_to" (wa (zD 18 4)) (mP (zD 18 4)) (eW (zD 18 4)) .none rO' rP' rQ' rR' oG' rS'),rT'⟩) (oH':B4 K oG' "Sheet.scroll_to" = true) (fx':xB K (.ref PK)=true) (oI':IB K (.ref PK)=true)
  : ∃ fd:qE,(∀ (s:aI) (v:ag),BindsTo s fd ⟨[v],[]⟩ [("_law_script",v)])/\∀ base:df,K.In base->base.Ns iF mg->ki l.prog w K mg base iA 8 fa fd ["_law_script"] (fO K WL):=by
 have e:=hfa.symm.trans (IA X G a31);cases e;have T:Txt K mg:=⟨tF X G fo',tF X G Pw,tF X G WM,tF X G WN,tF X G WQ,tF X G WR,tF X G BO,tF X G oQ,tF X G R6,tF X G WU,tF X G WV,tF X G BQ,tF X G bC',tF X G Us,tF X G Ut,tF X G PD,⟨_,IA X G bD'⟩,⟨_,IA X G bE'⟩,⟨_,IA X G bF'⟩,⟨_,IA X G bG'⟩,⟨_,IA X G bH'⟩⟩
 obtain⟨_,_,m0,F0⟩:=bF X G a0;obtain⟨_,_,m1,F1⟩:=bF X G a1;obtain⟨_,_,m2,F2⟩:=bF X G a2;obtain⟨_,_,m3,F3⟩:=bF X G a3;obtain⟨_,_,m4,F4⟩:=bF X G a4;obtain⟨_,_,m5,F5⟩:=bF X G a5;obtain⟨_,_,m6,F6⟩:=bF X G a6;obtain⟨_,_,m7,F7⟩:=bF X G a7;obtain⟨_,_,m8,F8⟩:=bF X G a8;obtain⟨_,_,m9,F9⟩:=bF X G a9;obtain⟨_,_,m10,F10⟩:=bF X G a10;obtain⟨_,_,m11,F11⟩:=bF X G a11;obtain⟨_,_,m12,F12⟩:=bF X G a12;obtain⟨_,_,m13,F13⟩:=bF X G a13;obtain⟨_,_,m14,F14⟩:=bF X G a14;obtain⟨_,_,m15,F15⟩:=bF X G a15;obtain⟨_,_,m16,F16⟩:=bF X G a16;obtain⟨_,_,m17,F17⟩:=bF X G a17;obtain⟨_,_,m18,F18⟩:=bF X G a18;obtain⟨_,_,m19,F19⟩:=bF X G a19;obtain⟨_,_,m20,F20⟩:=bF X G a20;obtain⟨_,_,m21,F21⟩:=bF X G a21;obtain⟨_,_,m22,F22⟩:=bF X G a22;obtain⟨_,_,m23,F23⟩:=bF X G a23;obtain⟨_,_,m24,F24⟩:=bF X G a24;obtain⟨_,_,m25,F25⟩:=bF X G a25;obtain⟨_,_,m26,F26⟩:=bF X G a26;obtain⟨_,_,m27,F27⟩:=bF X G a27;obtain⟨_,_,m28,F28⟩:=bF X G a28;obtain⟨_,_,m29,F29⟩:=bF X G a29;obtain⟨_,_,m30,F30⟩:=bF X G a30;have F31:=NR (st:=rY) l31 c31 k31;refine⟨sD "law" "law" (wa rY) (mP rY) (eW rY) .none v31 j31 p31 e31 r31 u31,λs v=>.of_eq rfl,λbase _ _=>?_⟩;have Gi:=NR (st:=iy) hli hci hki;have Gp:=NR (st:=jD) hlp hcp hkp;have Gm0:=NR (st:=(zD 18 2)) ox' oz' fv';have Gm1:=NR (st:=(zD 18 3)) oB' oD' fw';have Gm2:=NR (st:=(zD 18 4)) oF' oH' fx';have Sh:ShT l.prog w K mg base C fi fp _ _ PF _ PH _ PK _:=⟨IA X G sa,⟨s1,hi,hfi,s4⟩,⟨s5,s6,s7,s8⟩,s9,s0,Bd Gi,Gi.binds λ_ _ _ _ _ _ us hl=>by obtain⟨_,rfl⟩:=us1 hl;rfl,⟨hp,hfp,hkp⟩,Eo Gp (tF X G oQ),Gp.binds λ_ _ _ _ _ _ us hl=>by obtain⟨_,_,rfl⟩:=us2 hl;rfl,⟨hm0,oA',fv'⟩,Gm0.binds λ_ _ _ _ _ _ us hl=>by obtain⟨_,_,_,_,_,rfl⟩:=us5 hl;rfl,⟨AI,oE',fw'⟩,Gm1.binds λ_ _ _ _ _ _ us hl=>by obtain⟨_,_,rfl⟩:=us2 hl;rfl,⟨x5,oI',fx'⟩,Gm2.binds λ_ _ _ _ _ _ us hl=>by obtain⟨_,_,rfl⟩:=us2 hl;rfl⟩
 have mk:=@aN'.mk l.prog w K mg base;have mo:=@bo'.mk l.prog w K mg base C;have mw:=@bt'.mk K l.prog w C mg base;obtain C0:=(mk m0 F0 ["thing"] 1 0 xf (aj (bf (w8 (gF (cT (fL (lE T.BO (qv 0) (lL T.Ut zH)))) (dX (cT (jy iT iT qF qF aq (aL aF bU T.oQ bL (qv 0)) (aH' T.bF')))))) (ak (aG se))
   aD)
   (ak (aG (aL Tx qg T.Pw qb (eE (tn:=["sign"]) (cn:=[]) (ix:=[]) (mO (KZ (qv 0))) (aA 0) bJ (rG kC vQ (qv 0) (em' T.bE')))))))).1
 obtain C2:=(mk m2 F2 ["thing"] 1 0 vJ (ak (aG (sO (lE T.BO (qv 0) (lL T.WR xF)) (sW (J1 (lE T.BO (qv 0) (lL T.WN zQ)))))))).1;obtain C3:=(mk m3 F3 ["m", "state"] 2 0 oJ (ak (bf (cT (jy iT nj qF wJ aq (qv 1) (b5 (qv 0) aq)))
   qy
   aD))).1
 obtain C4:=(mk m4 F4 ["m", "ways", "start", "deed", "end"] 1 0 yr (aj (aB 1 gY) (aj (aJ 0 (bQ (cC (b5 (qv 0) aq)) (qR (bC (aA 2) (bC (aA 3) (bC (aA 4) lu)))) (ak (aJ 4 (aJ 3 (aJ 2 (Ly (pv 1) (bV (aa (qv 2) (aa (qv 3) au))) (qv 4)))))))) (ak (dw (pv 1)))))).1
 obtain C5:=(mk m5 F5 ["m", "exits", "start", "deed", "end"] 1 0 wK (aj (fC 1 (tn:=["state"]) (cn:=[]) (ix:=[]) (mO (dH T.BQ (b5 (qv 0) aq))) (aA 0) bJ (dG au)) (aj (aJ 0 (bQ (cC (b5 (qv 0) aq)) (qR (bC (aA 2) (bC (aA 3) (bC (aA 4) lu)))) (ak (aJ 4 (aJ 3 (gn (Ln (bh (pv 1)) (qv 2)) (bV (aa (qv 3) (aa (qv 4) au))))))))) (ak (dw (pv 1)))))).1
 obtain C6:=(mk m6 F6 ["row"] 1 0 Gq (aj (bf (w8 (gF (aH kF bK (b5 (qv 0) aq) bH) (dX (aH kF bK (b5 (qv 0) aq) bH)))) (ak (aG (dG (aa (b5 (qv 0) aq) au))))
   aD)
   (aj (bf (aH kF bK (b5 (qv 0) aq) bH)
   (ak (aG (dG (aa (b5 (qv 0) aq) au))))
   aD)
   (ak (aG (eZ g_ sE T.R6 nQ (b5 (qv 0) aq))))))).1
 obtain C7:=(mk m7 F7 ["row", "numbers"] 2 0 pW (aj (bf (w8 (gF (aH kF bK (b5 (qv 0) aq) bH) (dX (aH kF bK (b5 (qv 0) aq) bH)))) (ak (aG (bV (aa (b5 (qv 0) aq) (aa (b5 (qv 0) aq) (aa (b5 (qv 1) (b5 (qv 0) aq)) au))))))
   aD)
   (aj (bf (aH kF bK (b5 (qv 0) aq) bH)
   (ak (aG (bV (aa (b5 (qv 0) aq) (aa (b5 (qv 1) (b5 (qv 0) aq)) au)))))
   aD)
   (ak (aG (bV (aa (b5 (qv 0) aq) (aa (eZ y_ oZ T.PD gK (eE (tn:=["part"]) (cn:=["numbers"]) (ix:=[1]) (lB (b5 (qv 0) aq)) (aA 0) bJ (b5 (qv 1) (qv 0)))) au)))))))).1
 obtain C8:=(mk m8 F8 ["missed", "end", "others", "other"] 3 0 pJ (aj (aJ 2 (bQ (cC (qv 2)) (aA 3) (ak (aJ 3 (aJ 1 (bf (aH yo vQ (bV (aa (qv 1) (aa (qv 3) au))) (qv 0)) (ak (aG se))
   aD))))))
   (ak (aG se)))).1
 obtain C21:=(mk m21 F21 ["ways", "truths", "row", "state", "ends"] 4 0 rJ (aj (bf (aH kF bK (b5 (qv 2) aq) bH) (ak (aG (J1 (b5 (b5 (qv 1) (b5 (qv 2) aq)) (qv 3)))))
   aD)
   (aj (bf (aH kF bK (b5 (qv 2) aq) bH)
   (ak (aG (aL Tx qg T.Pw qb (eE (tn:=["part"]) (cn:=["state", "truths"]) (ix:=[3,1]) (lB (b5 (qv 2) aq)) (aA 0) bJ (b5 (b5 (qv 2) (qv 0)) (qv 1))))))
   aD)
   (aj (bf (aH kF bK (b5 (qv 2) aq) bH)
   (ak (aG (aL eT' Ec T.WM Dw (eE (tn:=["part"]) (cn:=["state", "truths"]) (ix:=[3,1]) (lB (b5 (qv 2) aq)) (aA 0) bJ (b5 (b5 (qv 2) (qv 0)) (qv 1))))))
   aD)
   (aj (aJ 3 (fC 4 (tn:=["end"]) (cn:=["row", "truths"]) (ix:=[2,1]) (qY (Ca (qv 0) (bV (aa (qv 3) (aa (b5 (qv 2) aq) au))) (dG au))) (aA 0) bJ (b5 (b5 (qv 2) (b5 (qv 1) aq)) (qv 0))))
   (ak (aG (aJ' (aH kF bK (b5 (qv 2) aq) bH) (aL eT' Ec T.WM Dw (qv 4)) (aL Tx qg T.Pw qb (qv 4)))))))))).1
 obtain WW:=(mk m25 F25 ["_law_script", "_law_k"] 2 0 lJ (aj (bf (aH nj wJ (qv 1) (aL aF bU T.oQ bL (qv 0))) (ak (aG (b5 (qv 0) (qv 1))))
   aD)
   (ak (aG aq)))).1
 obtain C26:=(mk m26 F26 ["_law_cell", "_law_letters", "_law_base"] 1 0 qz (aj (aB 1 bH) (aj (aB 2 (dO (b5 (qv 1) (dI (eQ (qv 0) aq) aq)) (K5 (b5 (qv 1) (dI (eQ (qv 0) aq) aq)) (dI (eQ (qv 0) aq) aq)))) (ak (aJ 2 (aG (il (b5 (dG (aa (dG (aa (qv 2) (aa (dO (qv 2) bH) (aa bH au)))) (aa (dG (aa bH (aa (qv 2) (aa (dO bH (il (qv 2) (eG aq) nZ)) au)))) au))) (dI (qv 0) aq)) nZ (eG (dO aq (dI (eQ (qv 0) aq) aq)))))))))).1
 obtain C28:=(mk m28 F28 ["_law_script", "_law_deeds_here", "_law_rows", "_law_cell", "_law_count", "_law_parts"] 2 0 n6 (aj (aB 2 (dG (aa (bV (aa bH (aa (bV au) au))) au))) (aj (aJ 0 (bQ (cC (il (qv 0) (eG aq) (eG aq))) (aA 3) (aj (aB 4 (aL aF bU T.oQ bL (qv 2))) (ak (bf (aH nj wJ (dI (qv 3) aq) aq) (ak (gn (bh (pv 2)) (bV (aa bH (aa (b5 (qv 1) (dI (eQ (qv 3) aq) (aL aF bU T.oQ bL (qv 1)))) (aa (JG (JG (qv 4) aq) (dI (eQ (qv 3) aq) (z9 Eb yw T.WV Df (qv 4) aq))) au)))))) (aj (fC 5 (tn:=["_law_k"]) (cn:=["_law_cell", "_law_count"]) (ix:=[3,4]) (mO (dH T.BQ (dI (eQ (qv 3) aq) aq))) (aA 0) bJ (dI (eQ (eQ (qv 1) aq) (dO (Ji aq (qv 0)) aq)) (qv 2))) (ak (gn (bh (pv 2)) (bV (aa (b5 (dG (aa bH (aa bH au))) (dI (qv 3) aq)) (aa (eZ y_ oZ T.PD gK (qv 5)) au))))))))))) (ak (dw (pv 2)))))).1
 obtain C29:=(mk m29 F29 ["_law_m", "_law_row", "_law_held", "_law_found", "_law_step"] 3 0 jh (aj (bf (aH kF bK (b5 (qv 1) aq) bH) (ak (aG (zj (tn:=["_law_state"]) (cn:=["_law_held", "_law_row"]) (ix:=[2,1]) (mO (dH T.BQ (b5 (qv 0) aq))) (aA 0) bJ (rG kF bK (aL aF bU T.oQ bL (eE (tn:=["_law_j"]) (cn:=["_law_held", "_law_state"]) (ix:=[1,0]) (lB (b5 (qv 2) aq)) (O:=bN.inC (sc:=eW cz) rfl (by decide +kernel)) (aA 0) (yj (cT (jF (b5 (b5 (qv 1) (qv 0)) (qv 2))))) (qv 0))) aq))))
   aD)
   (aj (bf (aH kF bK (b5 (qv 1) aq) bH)
   (ak (aG (zj (tn:=["_law_state"]) (cn:=["_law_held", "_law_row"]) (ix:=[2,1]) (mO (dH T.BQ (b5 (qv 0) aq))) (aA 0) bJ (rG Dr Jq (aL aF bU T.oQ bL (eE (tn:=["_law_j"]) (cn:=["_law_held", "_law_state"]) (ix:=[1,0]) (lB (b5 (qv 2) aq)) (O:=bN.inC (sc:=eW cz) rfl (by decide +kernel)) (aA 0) (yj (jF (b5 (b5 (qv 1) (qv 0)) (qv 2)))) (qv 0))) aq))))
   aD)
   (aj (aB 3 (Ku (dG (aa se au)) (b5 (qv 0) aq)))
   (aj (aJ 0 (bQ (cC (b5 (qv 0) aq)) (aA 4)
   (ak (bf (w8 (tL (aH kF bK (b5 (qv 4) aq) (b5 (qv 1) aq)) (nY (jF (b5 (b5 (qv 2) (b5 (qv 1) aq)) (b5 (qv 4) aq))))))
   (ak (FZ (bh (pv 3)) (b5 (qv 4) aq) se))
   aD))))
   (ak (dw (pv 3)))))))).1
 obtain C1:=(mk m1 F1 ["thing"] 1 1 yW (ak (aG (lb' (aU C0 (aa (qv 0) au)) (sW (sO (lE T.BO (qv 0) (lL T.Ut zH)) (sW (rG kF bK (qv 0) (em' T.bD'))))))))).1;obtain C9:=(mk m9 F9 ["exits", "ways", "missed", "p", "q", "deed", "end"] 5 1 nG (aj (aJ 0 (bQ (cC (b5 (qv 0) (qv 3))) (qR (bC (aA 5) (bC (aA 6) lu))) (ak (aJ 5 (aJ 4 (bf (fL (aU C8 (aa (qv 2) (aa (qv 6) (aa (Ca (qv 1) (bV (aa (qv 4) (aa (qv 5) au))) (dG au)) au))))) (ak (wU (aU' (pv 5) (aU' (pv 6) Ed))))
   aD))))))
   (ak (aG BV)))).1
 obtain C12:=(mk m12 F12 ["m", "p", "q"] 3 1 pP (aj (fX (aU C3 (aa (qv 0) (aa (qv 1) au)))) (ak (fX (aU C3 (aa (qv 0) (aa (qv 2) au))))))).1
 obtain C16:=(mk m16 F16 ["k", "thing"] 2 1 vW (ak (aG (sO (aU C2 (aa (qv 1) au)) (sW (HB iT nj qF wJ aq (qv 1) (qv 0))))))).1;obtain C22:=(mk m22 F22 ["m", "scroll", "ways", "truths", "row"] 2 1 tH (aj (aB 2 (aU C4 (aa (qv 0) au))) (aj (aB 3 (dG au)) (aj (aJ 1 (bQ (cC (qv 1)) (aA 4) (ak (gn (bh (pv 3)) (eE (tn:=["state"]) (cn:=["row", "truths", "ways"]) (ix:=[4,3,2]) (mO (dH T.BQ (b5 (qv 0) aq))) (aA 0) bJ (aU C21 (aa (qv 3) (aa (qv 2) (aa (qv 1) (aa (qv 0) au)))))))))) (ak (dw (pv 3))))))).1
 obtain C27:=(mk m27 F27 ["_law_script", "_law_many", "_law_deeds_here", "_law_first", "_law_known", "_law_low", "_law_k", "_law_cell", "_law_step", "_law_end"] 3 1 lH (aj (aB 3 (aU WW (aa (qv 0) (aa aq au)))) (aj (aB 4 gY) (aj (aJ 1 (aB 5 (qv 1))) (aj (bf (aH kF bK (dI (qv 3) aq) aq) (ak (aB 5 (eQ (dO (qv 1) aq) aq)))
   aD)
   (aj (aJ 0 (bQ (Ig T.WQ (il (qv 0) (eG aq) (eG aq))) (qR (bC (aA 6) (bC (aA 7) lu)))
   (aj (aB 8 (bV (aa (dI (qv 7) (qv 5)) (aa (b5 (qv 2) (dI (eQ (eQ (qv 7) (qv 5)) (qv 5)) (aL aF bU T.oQ bL (qv 2)))) (aa (dI (eQ (qv 7) (qv 5)) (qv 5)) au)))))
   (aj (ir (bh (pv 4)) (qv 8) se)
   (ak (bf (w8 (tL (aH nj wJ (dO (b5 (qv 8) aq) (qv 5)) (qv 1)) (nY (aH kNe JZ (dI (eQ (eQ (qv 3) aq) (dO (Ji (qv 6) (qv 6)) aq)) aq) aq))))
   (aj (aB 9 (b5 (qv 8) aq))
   (aj (bf (w8 (tL (aH kF bK (dI (eQ (eQ (qv 3) aq) (dO (qv 6) aq)) aq) aq) (nY (aH nj wJ (dO (qv 9) (qv 5)) (qv 1)))))
   (ak (aB 9 (dO (qv 9) (qv 5))))
   aD)
   (ak (ir (bh (pv 4)) (bV (aa (dO (b5 (qv 8) aq) (qv 5)) (aa (b5 (qv 8) aq) (aa (qv 9) au)))) se))))
   aD))))))
   (ak (wU (aU' (pv 1) (lx' (aL Jz Cm T.Us j5 (eZ g_ sE T.R6 nQ (qv 4))) Ed)))))))))).1
 obtain C30:=(mk m30 F30 ["_law_m", "_law_rows", "_law_held", "_law_depths", "_law_least_here", "_law_row", "_law_p", "_law_q"] 2 1 qi (aj (aB 2 (dG au)) (aj (aB 3 (dG au)) (aj (aB 4 gY) (aj (aJ 1 (bQ (cC (qv 1)) (aA 5) (aj (gn (bh (pv 2)) (aU C29 (aa (qv 0) (aa (qv 5) (aa (qv 2) au))))) (aj (bf (aH kF bK (b5 (qv 5) aq) bH) (ak (gn (bh (pv 3)) (dO (b5 (qv 3) (b5 (qv 5) aq)) aq))) (ak (gn (bh (pv 3)) (aL Mx Fp T.WU Dj (dO (dG (aa aq au)) (eE (tn:=["_law_j"]) (cn:=["_law_depths"]) (ix:=[3]) (lB (b5 (qv 5) aq)) (aA 0) bJ (b5 (qv 1) (qv 0)))))))) (ak (bQ (dH T.BQ (b5 (qv 0) aq)) (aA 6) (ak (bQ (dH T.BQ (b5 (qv 0) aq)) (aA 7) (ak (bf (w8 (tL (jF (b5 (b5 (qv 2) (pY aq)) (qv 6))) (nY (cT (jF (b5 (b5 (qv 2) (pY aq)) (qv 7))))))) (ak (aJ 7 (aJ 6 (ir (bh (pv 4)) (bV (aa (qv 6) (aa (qv 7) au))) (z9 Eb yw T.WV Df (b5 (qv 3) (pY aq)) (Ca (qv 4) (bV (aa (qv 6) (aa (qv 7) au))) (b5 (qv 3) (pY aq))))))))
   aD))))))))))
   (ak (dw (pv 4)))))))).1
 obtain C10:=(mk m10 F10 ["exits", "ways", "missed", "turn", "found", "p", "q", "step"] 4 2 su (aj (aB 4 gY) (aj (bQ (dH T.BQ (aL aF bU T.oQ bL (qv 0))) (aA 5) (ak (bQ (dH T.BQ (aL aF bU T.oQ bL (qv 0))) (aA 6) (ak (aJ 6 (aJ 5 (bf (aH yo vQ (bV (aa (qv 5) (aa (qv 6) au))) (qv 2)) (aj (aB 7 (aU C9 (aa (qv 0) (aa (qv 1) (aa (qv 2) (aa (qv 5) (aa (qv 6) au))))))) (ak (bf (aH hD' El (qv 7) BV) (ak (aJ 3 (ir (bh (pv 4)) (bV (aa (qv 5) (aa (qv 6) au))) (bV (aa (qv 3) (aa (b5 (qv 7) aq) (aa (b5 (qv 7) aq) au)))))))
   aD)))
   aD)))))))
   (ak (dw (pv 4)))))).1
 obtain C17:=(mk m17 F17 ["k", "thing"] 2 2 rZ (aj (bf (w8 (gF (cT (fL (lE T.BO (qv 1) (lL T.PD gK)))) (dX (aH Dr Jq (aL aF bU T.oQ bL (qv 1)) (aH' T.bH'))))) (ak (aG se))
   aD)
   (ak (aG (aL Tx qg T.Pw qb (eE (tn:=["part"]) (cn:=["k"]) (ix:=[0]) (lB (qv 1)) (aA 0) bJ (aU C16 (aa (qv 1) (aa (qv 0) au))))))))).1
 obtain C32:=mw Gm0 ["self", "word", "deed", "joint", "parts", "different", "inner"] 5 2 (jg (kR K l.prog w C)) (λ{_ _ _ _ _ _ hr hu nd _}=>(aj (aB 5 (wN T.Us T.bC' (qv 4))) (aj (aJ 3 (F_ 6 (LK (aH kF bK (aL aF bU T.oQ bL (qv 5)) aq) (JH (b5 (qv 5) aq)) (tE (pv 0) Sh.cls Sh.fp' (fe' Sh.put) (hr.mono (by decide)) Sh.bp (pA (bV (aa (qv 3) (aa (eZ y_ oZ T.PD gK (qv 5)) au))) t6))))) (ak (aJ 6 (aJ 2 (aJ 1 (Aa 0 (tE (pv 0) Sh.cls Sh.fp' (fe' Sh.put) (hr.mono (by decide)) Sh.bp (pA (bV (aa (qv 1) (aa (qv 2) (aa (qv 6) au)))) t6))))))))))
 obtain C33:=mo Gm1 ["self", "last", "wanted", "k", "part"] 2 2 (gZ (kR K l.prog w C)) (aj (aB 2 (Fl (qv 1) se)) (aj (bQ (GQ T.BQ (qv 1) (pY aq) (pY aq)) (aA 3) (ak (bf (aH kC vQ (qv 3) (qv 2)) (ak (bQ (cC (aU C6 (aa (xx (C:=C) (pv 0) (qv 3)) au))) (aA 4) (ak (ir (bh (pv 2)) (qv 4) se))))
   aD)))
   (ak (aG (aL KD CP T.Us j5 (qv 2))))))
 obtain C11:=(mk m11 F11 ["m", "exits", "ways", "missed", "turn", "found"] 1 3 rA (λ{_ _ _ _ _ _ hr hu nd _}=>(aj (aB 1 (aU C5 (aa (qv 0) au))) (aj (aB 2 (aU C4 (aa (qv 0) au))) (aj (aB 3 gY) (aj (aB 4 aq) (aj (aB 5 (aU C10 (aa (qv 1) (aa (qv 2) (aa (qv 3) (aa (qv 4) au)))))) (aj (Az (Hh (pv 5)) (aj (HN (xdx (Nat.add_le_add_left (by decide:1<=64) _) hu) (pv 3) (pv 5)) (aj (aB 4 (dO (qv 4) aq)) (ak (aB 5 (aU C10 (aa (qv 1) (aa (qv 2) (aa (qv 3) (aa (qv 4) au)))))))))) (ak (dw (pv 3))))))))))).1
 obtain C14:=bt'.VA m14 F14 (mw F14 ["sheet", "numbers", "missed", "ways", "pair", "deed", "end", "parts"] 5 3 (vY (kR K l.prog w C)) (λ{_ _ _ _ _ _ hr hu nd _}=>(aj (aB 5 (b5 (b5 (qv 2) (qv 4)) aq)) (aj (aB 6 (b5 (b5 (qv 2) (qv 4)) aq)) (aj (aJ 5 (aJ 6 (fC 7 (tn:=["other"]) (cn:=["end", "numbers"]) (ix:=[6,1]) (qY (Ca (qv 3) (bV (aa (b5 (qv 4) aq) (aa (qv 5) au))) (dG au))) (aA 0) bJ (b5 (qv 2) (bV (aa (qv 1) (aa (qv 0) au))))))) (ak (Aa 0 (tE (pv 0) Sh.cls Sh.nw' C32 (hr.mono (by decide)) Sh.nx' (pA bH (g8 (pv 5) (pA bH (g8 (pv 7) t6))))))))))))
 obtain C18:=(mk m18 F18 ["k", "thing"] 2 3 Dc (aj (bf (w8 (gF (cT (fL (lE T.BO (qv 1) (lL T.PD gK)))) (gF (aH kF bK (aL aF bU T.oQ bL (qv 1)) aq) (dX (cT (fL (lE T.BO (b5 (qv 1) aq) (lL T.Ut zH)))))))) (ak (aG se))
   aD)
   (aj (bf (w8 (gF (aH kF bK (b5 (qv 1) aq) bH) (dX (aH kF bK (b5 (qv 1) aq) bH))))
   (ak (aG (sO (rG kF bK (aL aF bU T.oQ bL (qv 1)) aq) (sO (aU C1 (aa (b5 (qv 1) aq) au)) (sW (aU C16 (aa (qv 0) (aa (b5 (qv 1) aq) au))))))))
   aD)
   (aj (bf (aH kF bK (b5 (qv 1) aq) bH)
   (ak (aG (sO (rG kF bK (aL aF bU T.oQ bL (qv 1)) aq) (sW (aU C16 (aa (qv 0) (aa (b5 (qv 1) aq) au)))))))
   aD)
   (aj (bf (w8 (gF (aH kF bK (b5 (qv 1) aq) bH) (dX (aH kF bK (b5 (qv 1) aq) bH))))
   (ak (aG (sO (rG kF bK (aL aF bU T.oQ bL (qv 1)) aq) (sW (aU C17 (aa (qv 0) (aa (b5 (qv 1) aq) au)))))))
   aD)
   (ak (aG se))))))).1
 obtain C34:=mo Gm2 ["self", "last", "numbers", "scroll", "k"] 2 3 (iw (kR K l.prog w C)) (λ{_ _ _ _ _ _ hr hu nd _}=>(aj (aB 2 Ih) (aj (aB 3 (dG au)) (aj (bQ (cC (xW (pv 0) Sh.cls Sh.ny' C33 (hr.mono (by decide)) Sh.nz' (aa (qv 1) au))) (aA 4) (aj (ir (bh (pv 2)) (qv 4) (aL aF bU T.oQ bL (qv 3))) (ak (gn (bh (pv 3)) (aU C7 (aa (xx (C:=C) (pv 0) (qv 4)) (aa (qv 2) au))))))) (ak (dw (pv 3)))))))
 obtain C13:=(mk m13 F13 ["m", "p", "q", "missed"] 3 4 rB (aj (fX (aU C12 (aa (qv 0) (aa (qv 1) (aa (qv 2) au))))) (aj (aB 3 (aU C11 (aa (qv 0) au))) (ak (aJ 2 (aJ 1 (aG (aJ' (aH kC vQ (bV (aa (qv 1) (aa (qv 2) au))) (qv 3)) (b5 (b5 (qv 3) (bV (aa (qv 1) (aa (qv 2) au)))) aq) BV)))))))).1
 obtain C15:=(mk m15 F15 ["m", "p", "q", "missed", "ways", "sheet", "numbers", "pair"] 3 4 (yD (kR K l.prog w C)) (λ{_ _ _ _ _ _ hr hu nd _}=>(aj (fX (aU C12 (aa (qv 0) (aa (qv 1) (aa (qv 2) au))))) (aj (aB 3 (aU C11 (aa (qv 0) au))) (aj (aJ 2 (aJ 1 (bf (aH yo vQ (bV (aa (qv 1) (aa (qv 2) au))) (qv 3)) (ak (aG BV))
   aD)))
   (aj (aB 4 (aU C4 (aa (qv 0) au)))
   (aj (Hy (i:=5) Sh.mkk Sh.cls Sh.n1 Sh.n2 Sh.init (hr.mono (by decide)) Sh.gl Sh.bi)
   (aj (aB 6 gY)
   (aj (aJ 3 (Hf (qv 3) (aA 7)
   (ak (uE (bh (pv 6)) (qv 7) (Ez C14 (pv 5) (g8 (pv 6) (g8 (pv 3) (g8 (pv 4) (g8 (pv 7) t6)))) (hr.mono (by decide))))) (λ_ _=>trivial)))
   (ak (aJ 2 (aJ 1 (aG (xW (pv 5) Sh.cls Sh.nA' C34 (hr.mono (by decide)) Sh.nB' (aa (b5 (qv 6) (bV (aa (qv 1) (aa (qv 2) au)))) au))))))))))))))).1
 obtain C19:=(mk m19 F19 ["thing"] 1 4 rW (aj (bf (w8 (gF (cT (fL (lE T.BO (qv 0) (lL T.R6 nQ)))) (dX (cT (jy iT iT qF qF aq (aL aF bU T.oQ bL (qv 0)) (aH' T.bG')))))) (ak (aG se))
   aD)
   (ak (aG (aL Tx qg T.Pw qb (eE (tn:=["k", "row"]) (cn:=[]) (ix:=[]) (Ib T.WQ (qv 0)) (qR (bC (aA 0) (bC (aA 1) lu))) bJ (aU C18 (aa (qv 0) (aa (qv 1) au))))))))).1
 obtain C20:=(mk m20 F20 ["thing"] 1 5 lQ (ak (bf (cT (fL (aU C19 (aa (qv 0) au))))
   qy
   aD))).1
 obtain C23:=(mk m23 F23 ["m", "scroll", "state"] 3 6 H_ (aj (fX (aU C20 (aa (qv 1) au))) (aj (fX (aU C3 (aa (qv 0) (aa (qv 2) au)))) (ak (aG (b5 (b5 (aU C22 (aa (qv 0) (aa (qv 1) au))) (pY aq)) (qv 2))))))).1
 obtain C24:=(mk m24 F24 ["scroll", "depths", "row", "deepest"] 1 6 wj (aj (fX (aU C20 (aa (qv 0) au))) (aj (aB 1 (dG au)) (aj (aJ 0 (bQ (cC (qv 0)) (aA 2) (aj (aB 3 (Ks rfl T.WU (eE (tn:=["part"]) (cn:=["depths"]) (ix:=[1]) (qY (aU C6 (aa (qv 2) au))) (aA 0) bJ (b5 (qv 1) (qv 0))) aq)) (ak (gn (bh (pv 1)) (aJ' (w8 (gF (aH kF bK (b5 (qv 2) aq) bH) (dX (aH kF bK (b5 (qv 2) aq) bH)))) (dO (qv 3) aq) (qv 3))))))) (ak (aG (b5 (qv 1) (pY aq)))))))).1
 exact(mk hfa F31 ["_law_script", "_law_many", "_law_deeds_here", "_law_m", "_law_least_here", "_law_some", "_law_at", "_law_pair", "_law_found", "_law_rows"] 1 7 NP (aj (aB 1 (dO aq (dI (aU WW (aa (qv 0) (aa aq au))) aq))) (aj (aB 2 (aU C26 (aa (aU WW (aa (qv 0) (aa aq au))) au))) (aj (aB 3 (aU C27 (aa (qv 0) (aa (qv 1) (aa (qv 2) au))))) (aj (aB 4 (aU C30 (aa (qv 3) (aa (aU C28 (aa (qv 0) (aa (qv 2) au))) au)))) (aj (aB 5 (eZ g_ sE T.R6 nQ (qv 4))) (aj (aB 6 (dI (aU WW (aa (qv 0) (aa aq au))) (dO (aL aF bU T.oQ bL (qv 5)) aq))) (aj (bQ (cC (il (dO (il (qv 5) (eG (qv 6)) nZ) (qv 5)) nZ (eG aq))) (aA 7) (aj (aB 8 (aU C13 (aa (qv 3) (aa (b5 (qv 7) aq) (aa (b5 (qv 7) aq) au))))) (aj (bf (w8 (gF (cT (fL (lE T.BO (qv 8) (lL T.WR xF)))) (gF (fL (lE T.BO (qv 8) (lL T.WN zQ))) (dX (cT (jy iT iT qF qF aq (qv 8) (b5 (qv 4) (qv 7)))))))) (ak (aG se))
   aD)
   (aj (aB 9 (aU C15 (aa (qv 3) (aa (b5 (qv 7) aq) (aa (b5 (qv 7) aq) au)))))
   (aj (bf (w8 (gF (cT (fL (aU C19 (aa (qv 9) au)))) (dX (aH kNe JZ (aU C24 (aa (qv 9) au)) (qv 8)))))
   (ak (aG se))
   aD)
   (ak (bf (w8 (gF (aH xO yR (aU C23 (aa (qv 3) (aa (qv 9) (aa (b5 (qv 7) aq) au)))) se) (dX (aH xO yR (aU C23 (aa (qv 3) (aa (qv 9) (aa (b5 (qv 7) aq) au)))) se))))
   (ak (aG se))
   aD)))))))
   (ak (aG se)))))))))).2
def walk{l:W4}{q:cf}{loose:List Str}{XP:(Str->Option ag)->df->Prop}{YP:cw->df->Prop}{d:DefRec}{K:Params->aC}(hn:l.most=some 63)(To:d.params.defaults=[])(hY:∀ (w:cw) (h:df),YP w h->(K w.params).In h)(F:∀ (w:cw) (mg:Str->Option ag) (fa:ai) (h:df),(K w.params).In h->h.Ns iF mg->mg d.name=some (.ref fa) ->
   ∃ fd:qE,(∀ (s:aI) (u:ag),BindsTo s fd ⟨[u],[]⟩ [("_law_script",u)])/\∀ base:df,(K w.params).In base->base.Ns iF mg->ki l.prog w (K w.params) mg base iA 8 fa fd ["_law_script"] (fO (K w.params) WL)) :
  PySem.W.WalkO q loose XP YP l.row.toRowW d [] (λf vs=>PySem.call f vs) :=
 L2.jM' (n:=63) (k:=8) (x := "_law_script") (CX:=λ_=>iA) (sp:=λw=>fO (K w.params) WL) hn (by decide) To ⟨rfl,by decide,by decide⟩ hY F (λw H a ns hl hO hS=>Bc hl hS) λ_ _ _ _ _ z=>z
end L2.Q.Wx
end
open PySem PySem.W PyProof.Rows
namespace PySem.W.Fast
def tw16017128861097991957:=0
def tw15965882843432998226:=0
def tw12106424635445661296:=0
def tw15872871714718970597:=0
def tw15060381463819572655:=0
def tw8772495424839607846:=0
def tw14414950861999006618:=0
def tw9874018942248808423:=0
def tw14275436183671463853:=0
def tw14363060268267371822:=0
def tw11372548946664405897:=0
def tw15763920537078281923:=0
def tw4345944708399800802:=0
def tw14481337378622793721:=0
def tw2043855900135106849:=0
def tw10307030123633693978:=0
def tw5910195612075592449:=0
def tw10029454333920029593:=0
def tw8645623525480415381:=0
def tw17741905121979233230:=0
def tw8418619643931549204:=0
def tw5978271132606193842:=0
def tw13248920719974061835:=0
def tw15664952751742837097:=0
def tw5487598123118560403:=0
def tw7043610535958926418:=0
def tw6501300195513282849:=0
def tw12982342776147662535:=0
def tw5925648480190899842:=0
def tw3586426721128483540:=0
def tw10897741472829561553:=0
def tw1736987620127954386:=0
def tw16847387983219119147:=0
def tw7107572643759706019:=0
def tw13028727884648330368:=0
def tw9310612227933752193:=0
def tw8301098909100718502:=0
def tw11814398485982388500:=0
def tw41252409053800119:=0
def tw4261075762715946929:=0
def tw7929946113219401974:=0
def tw18147621612944608273:=0
def tw6122602340799267890:=0
def tw11097625674087118988:=0
def tw18150518770103462014:=0
def tw13763349420431913161:=0
def tw383314572382892580:=0
def tw16218338070569163909:=0
def tw96107601772584546:=0
def tw4128970063974550379:=0
def tw13019483435122629140:=0
def tw7717559422949366585:=0
def tw3378346354160963720:=0
def tw4438942660376242010:=0
def tw2988585732293914519:=0
def tw21438292811932627:=0
def tw5269335823607020801:=0
def tw12439812234718451250:=0
def tw3146548344170495496:=0
def tw15271922968786236413:=0
def tw17427997631620688897:=0
def tw1162086392177981206:=0
def tw435885154770680659:=0
def tw9595919687174295529:=0
def tw3986087836797778389:=0
def tw15921610753339476486:=0
def tw323495576963019634:=0
def tw3948174964810686862:=0
def tw10333277312436240128:=0
def tw1393772145762763824:=0
def tw11267047368615751663:=0
def tw1228187803698073720:=0
def tw12393270595192618300:=0
def tw15349750104528742035:=0
def tw15665662142148340055:=0
def tw3314359771222272798:=0
def tw13039095511119173319:=0
def tw1110180249901564287:=0
def tw7458862937810018657:=0
def tw3426769697215026784:=0
def tw1505915711299780490:=0
def tw15805093908373930952:=0
def tw7680041815242051430:=0
def tw7430795522073985342:=0
def tw6092875486373739379:=0
def tw12858433043574816822:=0
def tw9644267375220676942:=0
def tw4441418493445565326:=0
def tw8034560419114863438:=0
def tw6725757662888583028:=0
def tw14680597282515210104:=0
def tw10045181021149148571:=0
def tw15029732843248209313:=0
def tw4148980424261871576:=0
def tw10424490046633842597:=0
def tw1583186746461813221:=0
def tw8981266346502090624:=0
def tw18241079282693545504:=0
def tw3968711068556057468:=0
def tw13367638679477619840:=0
def tw17334218471971521020:=0
def tw1132639437840289932:=0
def tw12282637603137300492:=0
def tw7985136781659045106:=0
def tw12555523239110016625:=0
def tw14750138367220336162:=0
def tw8925732239301294641:=0
def tw1915839494683147416:=0
def tw10748275174872108283:=0
def tw8204114483378899785:=0
def tw2138468550897031926:=0
def tw16588793433022090176:=0
def tw8238272382439381653:=0
def tw15674991953182536882:=0
def tw7246196473318271714:=0
def tw7431470168417455476:=0
def tw10505991109322889215:=0
def tw3917326840266290235:=0
def tw4906454438468428228:=0
def tw13961772851007481955:=0
def tw9524180481194595172:=0
def tw5717657713172744239:=0
def tw10930082447766513624:=0
def tw3969487818021075860:=0
def tw4577760388634649085:=0
def tw14069193362108161075:=0
def tw9026060645197102771:=0
def tw28107024728005177:=0
def tw11649724473219426047:=0
def tw10766393758983296458:=0
def tw11514141337623985172:=0
def tw1112108321251286415:=0
def tw11489742585893089198:=0
def tw12841159046322977850:=0
def tw7672167113503557765:=0
def tw15595276127995189293:=0
def tw4686493271813657300:=0
def tw10124000548138358543:=0
def tw9373537490022940885:=0
def tw9791272967327832694:=0
def tw14426272881512753317:=0
def tw14331296865739619124:=0
def tw2279840620292450016:=0
def tw12973099694405284187:=0
def tw8846559974547097380:=0
def tw4581370929503752659:=0
def tw6831603121962640514:=0
def tw14671470140028398544:=0
def tw13617598973073279215:=0
def tw4555605224413631904:=0
def tw9366316673746227214:=0
def tw18215109310125781297:=0
end PySem.W.Fast
set_option maxRecDepth 100000 in
set_option maxHeartbeats 0 in
theorem PySem.Challenge.cw_kinlook_k56_no_shallower_lack_holds : PySem.Challenge.rw_kinlook_k56_no_shallower_lack.Holds := by
 w_on;o_law;k_head;(case hw=>w_witness2)
 k_fill
 refine L2.Q.Wx.walk (l:=PySem.Challenge.rw_kinlook_k56_no_shallower_lack) rfl rfl (λw h Y=>PySem.W.kIn_of Y) ?F
 case F =>
  intro w mg fa h KX G Tp
  refine' L2.Q.Wx.all_mk KX G Tp ..
  all_goals first|k_is|k_exc|kit_is|(refine' L2.Q.Wx.L_ ..<;>first|k_is|skip)|skip
