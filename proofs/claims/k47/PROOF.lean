import PyProof.Rows.All
import Wide.All
import OpenK.AllK
import Wide.FinOn
import Lean
import PyProof.EqAt
import PyProof.EqKinds
import PyProof.TupleCall
import PyProof.CompUse
import PyProof.NeData
import PyProof.WalksEnum
import PyProof.EnumMake
import PyProof.ZipIter
import PyProof.Rows.EnumRows
import PyProof.Rows.FactsT2
import KE.KDictList
import PyProof.Rows.SortRuns
import PyProof.Rows.SortWalk
import KE.KSortTup
import PyProof.Rows.SortStr
import PyProof.ListRange
import PyProof.StrOps2
import PyProof.StrBlock2
import PyProof.AutoIntG3
import PyProof.ListMulRight
import PyProof.Rows.ListMulArg
import PyProof.Rows.CallKwBuiltin
import PyProof.Rows.StrMul
import KE.KMinBuiltin
import PyProof.TupleKey
import PyProof.SetKind
import PyProof.Rows.SetFrom
import PyProof.DictWalks
import KE.KRevIter
import PyProof.AutoSeq1
import PyProof.P3Eq
import PyProof.MeetsSeq3
import PyProof.FactsAll.list_2
import PyProof.FactsAll.tuple_2
import PyProof.Rows.RowHeap
import PyProof.FactsAll.list_3
import PySem.Challenge.RW_kinlook_k47_whole_least_is_one
open PySem renaming wpAny_bind->aw,Value->ae,wpAny_pure->bG,Shared->ax,Addr->ah,sizeLine->bX,starEach->b4,model->aI,wpAny->bq,PyData->cK,Program->d5,compareOp->gI,Around->e7,World->eC,Heap->df,eval->dn,bootBuiltins->kK,sizeLine_eq->j3,mainGlobals->kL,cLine->e9,wpAny_newObj_type->rV,wpAny_holding->tf,wpAny_setState_of->zD,assignEach->oP,backTo->kA,wpAny_Call_Name_kw->CF,wpAny_call_entry->Bn,binaryOp->oq,sysModules->ti,codeAny_builtin->Bz,attributeBase->zI,wpAny_mono->vk,rawInt->mE,Keyword->oQ,wpAny_truthy_bool->FP,foldedSetIterable->FR,swapsWith->xh,wpAny_typeNameOfWhole_keyiter->PD,wpAny_callSpecial?_slot->NF,tupleKind_room_in1->K0,wpAny_setField_rec->K2,wpAny_passesOwn->FT,plainId_quiet->Ee,wpAny_dictEntries->Lc,keywordEach->CH,wpAny_typeNameOf_keyiter->PF,wpAny_askSetting->Lv,tupleKind->BD,wpAny_rule->CL,NameKind->zS,behindInMarks->LB,sliceBounds->FU
open PySem.W renaming Frag->aE,kia_one->vn,mg_none_of->z5,nsIn->vt,fnOf->yb,keepIn->FV,kat_kind->LD,codeIn->LG,kitx_dict->PH,kitx_list->Sw,instObj->Sx,OpenLaw->Sy
open List renaming mem_cons_of_mem->dr,length_map->b6,mem_cons_self->dk,mem_map->b5,mem_append_right->fS,mem_append->eR,mem_cons->eB,getElem?_eq_some_iff->iE,getElem?_eq_getElem->kB,nodup_append->gV,map_map->fe,map_cons->gd,mem_append_left->kc,sublist_append_right->mG,size_toArray->iF,pairwise_map->iO,mem_of_getElem?->k7,getElem?_map->kM,nodup_cons->kN,mem_singleton->nI,length_append->ot,length_take->nK,pairwise_iff_getElem->xi,getElem?_eq_none->tj,length_cons->oS,drop_eq_getElem_cons->An,mem_range->n5,nodup_nil->n9,getElem_mem->rX,mem_filter->qf,getElem?_append_right->CM,getD_eq_getElem?_getD->EA,append_nil->vv,append_assoc->Ap,zip_cons_cons->BE,getElem?_append_left->FX,take_length->Au,map_congr_left->CY,eraseIdx_cons_succ->FY,map_append->AA,ext_getElem?->Dp,take_add_one->Dx,replicate_succ->EB,filter_eq_self->EC,mem_iff_getElem?->GA,sublist_append_left->LH,length_drop->ED,length_singleton->LJ,nil_sublist->EE,any_eq_true->EF,length_eraseIdx->LM,flatten_cons->GB,all_cons->DB,any_cons->DC,all_eq_true->GH,append_eq_nil_iff->NH,take_append_drop->NJ,nodup_iff_pairwise_ne->PJ,nil_append->GL,getElem?_set_ne->NK,pairwise_append->NM,filterMap_cons->NP,map_fst_zip->LN,eraseIdx_eq_take_drop_succ->Sz,length_eq_zero_iff->PK,find?_cons->LP,take_of_length_le->PL,mem_of_mem_take->PN,mem_iff_getElem->PQ,not_mem_nil->NQ,extract_eq_drop_take->SD,mem_of_mem_eraseIdx->SF,pairwise_cons->PR,getElem_idxOf->PX,getElem?_cons_zero->SG,getLast_eq_getElem->SJ,length_range->PY,getElem?_set_self->SK,length_pos_of_mem->SN,drop_of_length_le->SQ,eraseIdxIfInBounds_toArray->V4,perm_append_comm->SV,cons_ne_nil->PZ,length_filter_le->SW,mem_of_mem_drop->SX,getElem?_mapIdx->SY,length_nil->P0,length_zip->P1,filter_map->P4,all_map->NR,mem_filterMap->S0,filterMap_map->S4,length_mapIdx->S5,map_take->P5,map_drop->P6,lookup_cons->S6,drop_length->S7,nodup_range->S8
open PySem.Heap renaming get?_push_of_some->gu,lt_size->eW,get?_push_size->kP,get?_update_self->EG,get?_update_other->NS,size_update->GN,get?_push_ne->LS,get?_update_ne->S9
open Nat renaming le_refl->cx,ne_of_lt->gi,zero_le->fE,lt_of_lt_of_le->oa,le_trans->iP,lt_succ_of_lt->xk,le_of_lt->xl,lt_irrefl->vw,zero_add->vx,pow_succ->BF,not_lt_zero->GO,le_succ->EH,add_sub_of_le->NT,lt_or_ge->GP,mul_assoc->LV,ne_of_gt->LW,le_of_eq->LX,add_zero->LZ,lt_of_succ_lt->S_,le_of_lt_succ->P7,lt_succ_of_le->P8,mod_lt->L4,lt_of_le_of_lt->xdL,lt_trans->Ta,add_comm->P9,min_self->P_,mul_comm->Qa,succ_pos->Qb
open PyProof.Rows renaming wpS_bind->ck,arrOf->bp,wpS_pure->dc,Keyed->bS,SortSt->dS,kindOf->ft,pendingOf->k8,wpS_forRange->qh,SortKind->pd,failedOf->qk,wpS_mono->tq,seqObj->pe,wpS_modify->DE,size_push'->DF
open Bool renaming false_ne_true->kf,and_eq_true->lT,false_eq_true->pf,eq_iff_iff->pj,and_true->Qc
open Array renaming getElem?_toList->mh,toList_push->px,getElem?_eq_getElem->BG,getD_eq_getD_getElem?->GU,length_toList->BH,getElem?_eq_none->EI,getElem?_eq_some_iff->L5,size_extract->GV,eq_empty_of_size_eq_zero->Qe,append_assoc->NV,getElem?_extract->Qf,toArray_toList->Qg,perm_iff_toList_perm->Tb,toList_inj->Qh,toList_extract->Tc,append_empty->Td
open Int renaming toNat_of_nonneg->BI,le_refl->sf,le_trans->yi,le_of_lt->GW,toNat_natCast->NW,emod_lt_of_pos->Qi,mul_nonneg->NX,emod_nonneg->Qj
open Option renaming map_eq_some_iff->GY,isSome_map->Te,getD_some->Tf
def bv:Lean.Syntax:=(Lean.Unhygienic.run `(tacticSeq|rfl)).raw
local macro_rules | `(command| def $i:declId $s:optDeclSig $v:declVal)=>`(command| noncomputable def $i:declId $s:optDeclSig $v:declVal)
local macro_rules | `(command| abbrev $i:declId $s:optDeclSig $v:declVal)=>`(command| noncomputable abbrev $i:declId $s:optDeclSig $v:declVal)
set_option compiler.extract_closed false
def L2.g7{α β:Type _}{A B C:α->β->Prop}{G:Prop}(x:∃ a b,A a b/\B a b/\C a b)(k:∀ a b,A a b->B a b->C a b->G):G :=
 let ⟨a,b,p,q,r⟩:=x
 k a b p q r
set_option Elab.async false
set_option linter.all false
set_option maxHeartbeats 4000000
set_option maxRecDepth 100000
set_option linter.defProp false
section
open PySem PySem.Spec PyProof.Rows
set_option bootstrap.genMatcherCode false
set_option genSizeOf false
namespace L2
abbrev Key:=Sum Int Str
def EJ:Key->ae->Bool
 |.inl k,v=>Value.isInt k v
 |.inr x,v=>Value.isStrOf x v
def bw'(w:eC):Key->Int
 |.inl k=>hashInt k
 |.inr x=>hashStr w x
theorem AB:∀ {k:Key} {v:ae},EJ k v=true->(∃ i t,k=Sum.inl i/\v=Value.int i t)\/(∃ x t,k=Sum.inr x/\v=Value.str x t)
 |.inl i,v,h=>by obtain⟨t,e⟩:=Value.isInt_shape h;exact .inl ⟨i,t,rfl,e⟩
 |.inr x,v,h=>by obtain⟨t,e⟩:=Value.isStrOf_shape h;exact .inr ⟨x,t,rfl,e⟩
def Tg(i:Int)(t:Tok):EJ (.inl i) (.int i t)=true:=by simp[EJ,Value.isInt]
def Ti(x:Str)(t:Tok):EJ (.inr x) (.str x t)=true:=by simp[EJ,Value.isStrOf]
def V5(a b:Int):decide ((Sum.inl a:Key)=Sum.inl b)=(a == b):=by
 by_cases e:a=b
 ·subst e;simp
 ·have h:¬ (Sum.inl a:Key)=Sum.inl b:=λq=>e (Sum.inl.inj q);rw[decide_eq_false h];exact(beq_eq_false_iff_ne.mpr e).symm
def V6(a b:Str):decide ((Sum.inr a:Key)=Sum.inr b)=decide (a=b):=by
 by_cases e:a=b
 ·subst e;simp
 ·have h:¬ (Sum.inr a:Key)=Sum.inr b:=λq=>e (Sum.inr.inj q);rw[decide_eq_false h,decide_eq_false e]
def bx'(a:Int)(b:Str):decide ((Sum.inl a:Key)=Sum.inr b)=false:=decide_eq_false (λq=>nomatch q)
def by'(a:Str)(b:Int):decide ((Sum.inr a:Key)=Sum.inl b)=false:=decide_eq_false (λq=>nomatch q)
def kg(prog:d5)(w:eC):PySem.KeyKind prog w Key where
 is:=EJ
 hash:=bw' w
 inj:=λv a b ha hb=>by
  rcases AB ha with⟨i,t,rfl,rfl⟩|⟨x,t,rfl,rfl⟩
  ·rcases AB hb with⟨j,u,rfl,e⟩|⟨y,u,rfl,e⟩
   ·injection e with e1 _;rw[e1]
   ·exact nomatch e
  ·rcases AB hb with⟨j,u,rfl,e⟩|⟨y,u,rfl,e⟩
   ·exact nomatch e
   ·injection e with e1 _;rw[e1]
 byValue:=λk v h=>by rcases AB h with⟨i,t,rfl,rfl⟩|⟨x,t,rfl,rfl⟩<;>rfl
 pyHash:=λhv h=>by
  rcases AB hv with⟨i,t,rfl,rfl⟩|⟨x,t,rfl,rfl⟩
  ·exact wpAny_pyHash_int h
  ·exact wpAny_pyHash_str h
 eqBool:=λhu hv h=>by
  rcases AB hu with⟨i,t,rfl,rfl⟩|⟨x,t,rfl,rfl⟩
  ·rcases AB hv with⟨j,u,rfl,rfl⟩|⟨y,u,rfl,rfl⟩
   ·rw[V5] at h;exact wpAny_eqBool_int h
   ·rw[bx'] at h;exact SeqAt.EqAt.int_str i t y u _ _ _ _ h
  ·rcases AB hv with⟨j,u,rfl,rfl⟩|⟨y,u,rfl,rfl⟩
   ·rw[by'] at h;exact SeqAt.EqAt.str_int x t j u _ _ _ _ h
   ·rw[V6] at h;exact wpAny_eqBool_str h
 «strs» := λk x t v h=>by
  rcases AB h with⟨i,u,rfl,e⟩|⟨y,u,rfl,e⟩
  ·exact nomatch e
  ·injection e with e1 _;subst e1;cases v<;>rfl
def V7(prog:d5)(w:eC)(k:Key)(v:ae):(kg prog w).is k v=EJ k v:=rfl
def bz'(prog:d5)(w:eC)(i:Int)(t:Tok):(kg prog w).is (.inl i) (.int i t)=true:=Tg i t
def bA'(prog:d5)(w:eC)(x:Str)(t:Tok):(kg prog w).is (.inr x) (.str x t)=true:=Ti x t
inductive V where
 |non|bl (b:Bool)|int (i:Int)|str (x:Str)|tF (b:Array UInt8)|DH (b:UInt64)|ref (a:ah)|ty (n:String)
 deriving DecidableEq
set_option genInjectivity false
def RelV:V->ae->Prop
 |.non,u=>u=Value.none
 |.bl b,u=>u=Value.bool b
 |.int i,u=>∃ t,u=Value.int i t
 |.str x,u=>∃ t,u=Value.str x t
 |.tF b,u=>∃ t,u=Value.bytes b t
 |.DH b,u=>∃ t,u=Value.float b t
 |.ref a,u=>u=Value.ref a
 |.ty n,u=>u=Value.type n
abbrev Vals:List V->List ae->Prop:=Paired RelV
def Vals.length(r:Vals xs us):xs.length=us.length:=Paired.length r
theorem Vals.get:∀ {xs:List V} {us:List ae} {i:Nat} {x:V},Vals xs us->xs[i]? = some x->∃ u,us[i]? = some u/\RelV x u
 |_,_,_,_,.nil,e=>by simp at e
 |_,_,0,_,.cons r _,e=>by simp at e;subst e;exact⟨_,rfl,r⟩
 |_,_,i+1,x,.cons _ t,e=>by obtain⟨u,h1,h2⟩:=Vals.get t (by simpa using e);exact⟨u,by simpa using h1,h2⟩
theorem Vals.set(r:RelV x u):∀ {xs:List V} {us:List ae} (i:Nat),Vals xs us->Vals (xs.set i x) (us.set i u)
 |_,_,_,.nil=>.nil
 |_,_,0,.cons _ t=>.cons r t
 |_,_,i+1,.cons q t=>.cons q (Vals.set r i t)
theorem Vals.append:∀ {xs ys:List V} {us ws:List ae},Vals xs us->Vals ys ws->Vals (xs++ys) (us++ws)
 |_,_,_,_,.nil,s=>s
 |_,_,_,_,.cons r t,s=>.cons r (Vals.append t s)
theorem Vals.take:∀ {xs:List V} {us:List ae} (n:Nat),Vals xs us->Vals (xs.take n) (us.take n)
 |_,_,0,_=>.nil
 |_,_,_+1,.nil=>.nil
 |_,_,n+1,.cons r t=>.cons r (Vals.take n t)
theorem Vals.drop:∀ {xs:List V} {us:List ae} (n:Nat),Vals xs us->Vals (xs.drop n) (us.drop n)
 |_,_,0,r=>r
 |_,_,_+1,.nil=>.nil
 |_,_,n+1,.cons _ t=>Vals.drop n t
def xo:Option V->Option ae->Prop
 |some v,some u=>RelV v u
 |none,none=>True
 |_,_=>False
def KV{κ:Type}:List (κ × V)->List (κ × ae)->Prop:=Paired λ(p:κ × V) (q:κ × ae)=>p.1=q.1/\RelV p.2 q.2
def kV:Key->V
 |.inl i=>.int i
 |.inr x=>.str x
inductive HO where
 |lst (xs:List V)
 |tup (xs:List V)
 |dK (kvs:List (Key × V))|dT (kvs:List (List Key × V))
 |set (S:Int->Bool) (n:Nat)
 |ins (C dx:ah) (fs:List (Str × V))
 |own (x:ah)
 |xd (fs:List (Str × V))
 |met (f x:ah)
 |Tj (lo hi:Int)
 |pz (o:Obj) (u:HO)
 |G0 (ps:Array ae)
 |ext (φ:df->Prop)
abbrev Hp:=ah->Option HO
def upd(H:Hp)(a:ah)(o:HO):Hp:=λb=>if b=a then some o else H b
def ic:upd H a o a=some o:=by unfold upd;rw[if_pos rfl]
def fF(h:b≠a):upd H a o b=H b:=by unfold upd;rw[if_neg h]
def V8{H:Hp}{a b:ah}{o u:HO}(h:H a=some o)(h':H b=some u)(d:o≠u):a≠b:=by intro e;subst e;rw[h] at h';exact d (Option.some.inj h')
def xt{H:Hp}{a b:ah}{o:HO}(h:H a=some o)(h':H b=none):a≠b:=by intro e;subst e;rw[h] at h';cases h'
section
variable (P:d5)(w:eC)
def iS(H:Hp)(h:df)(a:ah):HO->Prop
 |.lst xs=>xs.length<=bX/\∃ (its:List ae) (n:Nat),Vals xs its/\h.get? a=some { cls:=.type "list",data:=.seq its.toArray n }
 |.tup xs=>xs.length<=bX/\∃ its:List ae,Vals xs its/\IsTup h a its.toArray
 |.dK kvs=>kvs.length<=bX/\(a == ti)=false/\∃ vs,KV kvs vs/\h.DictOf (kg P w) a vs
 |.dT kvs=>kvs.length<=bX/\(a == ti)=false/\∃ xs:List (List Key × ah × ae),
   Paired (λ(p:List Key × V) (q:List Key × ah × ae)=>p.1=q.1/\H q.2.1=some (.tup (p.1.map kV))/\RelV p.2 q.2.2) kvs xs /\
   ∃ o es ep,h.get? a=some o/\o.ExactDict/\o.data=.dict es ep/\es.toList=xs.map (entryOfKey (BD (kg P w)))/\(xs.map (·.1)).Nodup
 |.set S n=>h.SetOf (intKind P w) a S n
 |.ins C dx fs=>H dx=some (.own a)/\fs.length<=1000/\dx≠a/\h.get? a=some (Sx C dx) /\
   ∃ mA,h.Ns1 dx mA/\(∀ f,xo (fs.lookup f) (mA f))/\PySem.Within mA (fs.map (·.1))
 |.own _=>∃ o,h.get? a=some o
 |.xd fs=>∃ mA,h.Ns1 a mA/\∀ f,xo (fs.lookup f) (mA f)
 |.Tj lo hi=>∃ t u v,h.get? a=some { cls:=.type "range",data:=.fields #[.int lo t,.int hi u,.int 1 v] }
 |.pz o u=>h.get? a=some o/\iS H h a u
 |.G0 ps=>h.get? a=some { cls:=.none,data:=.fields ps }
 |.met f x=>h.get? a=some (PySem.W.methodObj (.ref f) (.ref x))
 |.ext φ=>φ h/\(∃ o,h.get? a=some o)/\∀ h1 h2:df,φ h1->(∀ o,h1.get? a=some o->h2.get? a=some o)->φ h2
def iX(H:Hp)(h:df):Prop:=∀ a o,H a=some o->iS P w H h a o
end
section
variable {P:d5}{w:eC}{H H':Hp}{h h':df}{a:ah}{o:HO}
def iS.lt(x:iS P w H h a o):a<h.objs.size:=by
 cases o with
 |lst xs=>obtain⟨_,_,_,_,e⟩:=x;exact eW e
 |tup xs=>obtain⟨_,_,_,p⟩:=x;exact p.lt
 |dK kvs=>obtain⟨_,_,_,_,o,_,_,e,_⟩:=x;exact eW e
 |dT kvs=>obtain⟨_,_,_,_,o,_,_,e,_⟩:=x;exact eW e
 |set S n=>obtain⟨o,_,_,_,e,_⟩:=x;exact eW e
 |ins C dx fs=>obtain⟨_,_,_,e,_⟩:=x;exact eW e
 |own y=>obtain⟨_,e⟩:=x;exact eW e
 |xd fs=>obtain⟨_,⟨_,_,_,e,_⟩,_⟩:=x;exact eW e
 |Tj lo hi=>obtain⟨_,_,_,e⟩:=x;exact eW e
 |pz ob u=>obtain⟨e,_⟩:=x;exact eW e
 |G0 ps=>exact eW (x)
 |met f y=>exact eW (x)
 |ext φ=>obtain⟨_,⟨_,e⟩,_⟩:=x;exact eW e
theorem Paired.Tn{α β:Type}{F G:α->β->Prop}:∀ {V9:List α} {V_:List β},Paired F V9 V_->(∀ a b,F a b->G a b)->Paired G V9 V_
 |_,_,.nil,_=>.nil
 |_,_,.cons r t,f=>.cons (f _ _ r) (Paired.Tn t f)
def iS.fz(x:iS P w H h a o)(k:∀ b u,(b=a\/H b=some (.own a))->h.get? b=some u->h'.get? b=some u)(ho:∀ b,H b=some (.own a)->H' b=some (.own a)) (ht:∀ b xs,H b=some (.tup xs)->H' b=some (.tup xs)):iS P w H' h' a o:=by
 induction o with
 |lst xs=>obtain⟨z,its,n,r,e⟩:=x;exact⟨z,its,n,r,k _ _ (.inl rfl) e⟩
 |tup xs=>obtain⟨z,its,r,ob,e,c⟩:=x;exact⟨z,its,r,ob,k _ _ (.inl rfl) e,c⟩
 |dK kvs=>obtain⟨z,y,vs,r,ob,es,ep,e,c⟩:=x;exact⟨z,y,vs,r,ob,es,ep,k _ _ (.inl rfl) e,c⟩
 |dT kvs =>obtain⟨z,y,xs,r,ob,es,ep,e,c⟩:=x;exact⟨z,y,xs,Paired.Tn r λp q z=>⟨z.1,ht _ _ z.2.1,z.2.2⟩,ob,es,ep,k _ _ (.inl rfl) e,c⟩
 |set S n=>obtain⟨ob,es,ep,t,e,c⟩:=x;exact⟨ob,es,ep,t,k _ _ (.inl rfl) e,c⟩
 |ins C dx fs =>obtain⟨d,z,ne,e,mA,⟨od,es,ep,e2,c⟩,r⟩:=x;exact⟨ho _ d,z,ne,k _ _ (.inl rfl) e,mA,⟨od,es,ep,k _ _ (.inr d) e2,c⟩,r⟩
 |own y=>obtain⟨ob,e⟩:=x;exact⟨ob,k _ _ (.inl rfl) e⟩
 |xd fs=>obtain⟨mA,⟨od,es,ep,e,c⟩,r⟩:=x;exact⟨mA,⟨od,es,ep,k _ _ (.inl rfl) e,c⟩,r⟩
 |Tj lo hi=>obtain⟨t,u,v,e⟩:=x;exact⟨t,u,v,k _ _ (.inl rfl) e⟩
 |pz ob u ih=>obtain⟨e,q⟩:=x;exact⟨k _ _ (.inl rfl) e,ih q⟩
 |G0 ps =>have e:h.get? a=some { cls:=.none,data:=.fields ps }:=x;exact k a _ (.inl rfl) e
 |met f y =>have e:h.get? a=some (PySem.W.methodObj (.ref f) (.ref y)):=x;exact k a _ (.inl rfl) e
 |ext φ=>obtain⟨p,⟨o,e⟩,st⟩:=x;exact⟨st _ _ p λo q=>k _ _ (.inl rfl) q,⟨o,k _ _ (.inl rfl) e⟩,st⟩
def iX.lt(x:iX P w H h)(e:H a=some o):a<h.objs.size:=(x a o e).lt
def iX.fresh(x:iX P w H h)(e:h.objs.size<=a):H a=none:=by
 cases q:H a with
 |none=>rfl
 |some u=>exact absurd (oa (x.lt q) e) (vw _)
def iX.kept(x:iX P w H h)(k:∀ b u,h.get? b=some u->h'.get? b=some u):iX P w H h':=λa o e =>
 (x a o e).fz (λb u _ q=>k b u q) (λ_ q=>q) λ_ _ q=>q
def iX.laid(x:iX P w H h)(k:∀ b u,h.get? b=some u->h'.get? b=some u)(hp:h.objs.size<=a)(new:iS P w (upd H a o) h' a o):iX P w (upd H a o) h':=λb u e=>by
 have hn:=x.fresh hp;by_cases hb:b=a
 ·subst hb;rw[ic] at e;cases e;exact new
 ·rw[fF hb] at e;exact(x b u e).fz (λc v _ q=>k c v q) (λc q=>by rw[fF (xt q hn)];exact q) λc xs q=>by rw[fF (xt q hn)];exact q
end
def Rd(H:Hp)(a:ah)(u:HO):Prop:=H a=some u\/∃ o,H a=some (.pz o u)
def Rd.ok{P:d5}(r:Rd H a u)(x:iX P w H h):iS P w H h a u:=by
 rcases r with r|⟨o,r⟩
 ·exact x a u r
 ·obtain⟨_,q⟩:=x a _ r;exact q
def NZ:Option HO->Prop
 |some (.lst _)=>True
 |some (.dK _)=>True
 |some (.dT _)=>True
 |some (.set _ _)=>True
 |some (.ins _ _ _)=>True
 |some (.ext _)=>True
 |_=>False
section
variable {P:d5}{w:eC}{H:Hp}{h h':df}{x e:ah}{o':HO}
def iX.write(ok:iX P w H h)(mu:NZ (H x))(he:e=x\/H e=some (.own x))(k:∀ b u,b≠e->h.get? b=some u->h'.get? b=some u)(L6:∃ u,h'.get? e=some u)(new:iS P w (upd H x o') h' x o'):iX P w (upd H x o') h':=λb u q=>by
 have Wa:∀ c y,H c=some (.own y)->c≠x:=λc y r z=>by subst z;rw[r] at mu;exact mu
 have bB':∀ c xs,H c=some (.tup xs)->c≠x:=λc xs r z=>by subst z;rw[r] at mu;exact mu
 by_cases hb:b=x
 ·subst hb;rw[ic] at q;cases q;exact new
 ·rw[fF hb] at q;by_cases He:b=e
  ·have q':H b=some (.own x):=by
    rcases he with z|z
    ·exact absurd (He.trans z) hb
    ·rw[He];exact z
   rw[q] at q';cases q';obtain⟨v,hv⟩:=L6;exact⟨v,by rw[He];exact hv⟩
  ·refine(ok b u q).fz (λc v hc r=>k c v ?_ r) (λc r=>by rw[fF (Wa c b r)];exact r) λc xs r=>by rw[fF (bB' c xs r)];exact r
   rcases hc with rfl|hc
   ·exact He
   ·rintro rfl;rcases he with z|z
    ·exact Wa c b hc z
    ·rw[hc] at z;cases z;exact hb rfl
end
structure Un(fs ex:List ah)(H H':Hp)(h h':df):Prop where
 keep:∀ b o,h.get? b=some o->H b=none->b∉fs->b∉ex->h'.get? b=some o
 slot:∀ b o,h.get? b=some o->H b=none->b∈fs->b∉ex->∃ sl,h'.get? b=some { o with slots:=sl }
 free:∀ b o,h.get? b=some o->H b=none->b∉ex->H' b=none
 there:∀ b o,h.get? b=some o->b∉ex->∃ o',h'.get? b=some o'
 kC:∀ b xs,H b=some (.tup xs)->H' b=some (.tup xs)
 yk:∀ b o u,H b=some (.pz o u)->H' b=some (.pz o u)
 AF:∀ b ps,H b=some (.G0 ps)->∃ more,H' b=some (.G0 (ps++more))
section
variable {fs ex:List ah}{H H1 H2:Hp}{h h1 h2 h':df}{a x e:ah}{o:HO}
def Un.any(u:Un fs ex H H1 h h1)(q:h.get? b=some ob)(n:H b=none)(hx:b∉ex):∃ sl,h1.get? b=some { ob with slots:=sl }:=by
 by_cases hb:b∈fs
 ·exact u.slot b ob q n hb hx
 ·exact⟨ob.slots,u.keep b ob q n hb hx⟩
def Un.trans(a:Un fs ex H H1 h h1)(b:Un fs ex H1 H2 h1 h2):Un fs ex H H2 h h2 where
 keep:=λc ob q n hc hx=>b.keep c ob (a.keep c ob q n hc hx) (a.free c ob q n hx) hc hx
 slot:=λc ob q n hc hx=>by obtain⟨sl,e1⟩:=a.slot c ob q n hc hx;obtain⟨To,e2⟩:=b.slot c _ e1 (a.free c ob q n hx) hc hx;exact⟨To,e2⟩
 free:=λc ob q n hx=>by obtain⟨o',e1⟩:=a.there c ob q hx;exact b.free c o' e1 (a.free c ob q n hx) hx
 there:=λc ob q hx=>by obtain⟨o',e1⟩:=a.there c ob q hx;exact b.there c o' e1 hx
 kC:=λc xs q=>b.kC c xs (a.kC c xs q)
 yk:=λc ob xs q=>b.yk c ob xs (a.yk c ob xs q)
 AF:=λc ps q=>by obtain⟨m1,e1⟩:=a.AF c ps q;obtain⟨m2,e2⟩:=b.AF c _ e1;exact⟨m1++m2,by rw[e2,NV]⟩
def Un.kept(k:∀ b u,h.get? b=some u->h'.get? b=some u):Un fs ex H H h h' :=
 ⟨λb ob q _ _ _=>k b ob q,λb ob q _ _ _=>⟨ob.slots,k b ob q⟩,λ_ _ _ n _=>n,λb ob q _=>⟨ob,k b ob q⟩,λ_ _ q=>q,λ_ _ _ q=>q,λ_ ps q=>⟨#[],by rw[q];simp⟩⟩
def Un.refl:Un fs ex H H h h:=Un.kept λ_ _ q=>q
def Un.laid(k:∀ b u,h.get? b=some u->h'.get? b=some u)(hp:h.objs.size<=a)(hn:H a=none):Un fs ex H (upd H a o) h h' where
 keep:=λb u q _ _ _=>k b u q
 slot:=λb u q _ _ _=>⟨u.slots,k b u q⟩
 free:=λb u q n _=>by rw[fF (gi (oa (eW q) hp))];exact n
 there:=λb u q _=>⟨u,k b u q⟩
 kC:=λb xs q=>by rw[fF (xt q hn)];exact q
 yk:=λb u xs q=>by rw[fF (xt q hn)];exact q
 AF:=λb ps q=>⟨#[],by rw[fF (xt q hn),q];simp⟩
def Un.write(mu:NZ (H x))(he:e=x\/H e=some (.own x))(k:∀ b u,b≠e->h.get? b=some u->h'.get? b=some u)(L6:∃ u,h'.get? e=some u):Un fs ex H (upd H x o) h h':=by
 have hx:∀ b,H b=none->b≠x:=λb n z=>by subst z;rw[n] at mu;exact mu
 have hb:∀ b,H b=none->b≠e:=λb n z=>by
  subst z;rcases he with r|r
  ·exact hx b n r
  ·rw[n] at r;cases r
 have hm:∀ b u,H b=some u->¬ NZ (some u)->b≠x:=λb u q nm z=>by subst z;rw[q] at mu;exact nm mu
 refine⟨λb u q n _ _=>k b u (hb b n) q,λb u q n _ _=>⟨u.slots,k b u (hb b n) q⟩,λb u q n _=>by rw[fF (hx b n)];exact n,λb u q _=>?_,
  λb xs q=>by rw[fF (hm b _ q λz=>z)];exact q,λb u xs q=>by rw[fF (hm b _ q λz=>z)];exact q,λb ps q=>⟨#[],by rw[fF (hm b _ q λz=>z),q];simp⟩⟩
 by_cases He:b=e
 ·subst He;exact L6
 ·exact⟨u,k b u He q⟩
end
def Qk(h:df)(H:Hp):List ah:=(List.range h.objs.size).filter λa=>(H a).isSome
def DI(h:df)(H:Hp):df:=PySem.W.hideAll h (Qk h H)
def bC'(h:df)(H:Hp):(DI h H).objs.size=h.objs.size:=PySem.W.hideAll_size _ _
def bD'(e:h.get? b=some o)(n:H b=none):(DI h H).get? b=some o :=
 PySem.W.hideAll_get _ e λhm=>by have q:(H b).isSome=true:=(qf.mp hm).2;rw[n] at q;simp at q
def bE'(e:(DI h H).get? b=some o):h.get? b=some o/\H b=none:=by
 have e':h.get? b=some o:=PySem.W.of_hideAll (Qk h H) e;refine⟨e',?_⟩
 cases q:H b with
 |none=>rfl
 |some x =>have hm:b∈Qk h H:=qf.mpr ⟨n5.mpr (eW e'),by simp[q]⟩;have z:(DI h H).get? b=none:=PySem.W.hideAll_none (Qk h H) hm;rw[z] at e;cases e
def bF'(g h:df)(L:ah):List (ah × Obj):=(List.range h.objs.size).filterMap λa=>if a=L\/(g.get? a).isSome=true then none else (h.get? a).map λo=>(a,o)
def rest(g h:df)(L d:ah):List (ah × Obj):=(bF' g h L).filter λp=>decide (p.1≠d)
structure Mod(K:aE)(mg:Str->Option ae)(base:df):Prop where
 yn:K.In base
 glob:base.Ns kL mg
 blt:∃ mb,base.Ns builtinsNs mb/\∀ x:Str,x ≠ "__name__"->mb x=kK x
 nolimit:base.NoLimit
structure Cx where
 prog:d5
 w:eC
 K:aE
 mg:Str->Option ae
 base:df
 A:e7
 N:List Str
 kQ:ax
 N0:Hp
 env:Env
 outer:List Env
 stack:List Env
 ex:List ah
 fn:Str->Bool
 calm:Bool
 pn:List (ah × Obj)
 xe:ae->ax->Prop
def AG(l:List Env):List ah:=l.filterMap (·.frame)
abbrev Cx.fs(X:Cx):List ah:=AG X.outer
def Ql(sc:Scope)(x:Str):Prop:=sc.names.lookup x=some .local\/sc.names.lookup x=some .cell\/sc.names.lookup x=some .free
def Loc(sc:Scope)(x:Str):Prop:=sc.names.lookup x=some .local\/sc.names.lookup x=some .cell
def Look(env:Env)(h:df)(m:Str->Option ae)(x:Str)(u:ae):Prop :=
 (env.kindOf x=some .local/\m x=some u)\/((env.kindOf x=some .cell\/env.kindOf x=some .free)/\∃ c,env.cells.lookup x=some c/\h.IsCell c (some u))
structure Cx.Ok(X:Cx):Prop where
 mod:Mod X.K X.mg X.base
 kind:X.env.scope.kind=.function
 glob:X.env.globals=kL
 blt:X.env.builtins=builtinsNs
 above:X.kQ.heap.objs.size<=X.env.locals
 inj:∀ x y c,X.env.cells.lookup x=some c->X.env.cells.lookup y=some c->x=y
 has:∀ x,(X.env.kindOf x=some .cell\/X.env.kindOf x=some .free)->∃ c,X.env.cells.lookup x=some c
 N3:∀ x c,X.fn x=true->X.env.cells.lookup x=some c->X.kQ.heap.objs.size<=c
 hd:X.calm=true->X.A.handled=none
 frames:X.A.frames=some X.stack
 Qm:X.stack=X.outer\/(X.stack=X.env :: X.outer/\X.env.frame=some X.env.locals)
 Qn:∀ b∈X.ex,b≠X.env.locals/\∀ x c,X.env.cells.lookup x=some c->c≠b
 bs:∀ b o,X.base.get? b=some o->X.kQ.heap.get? b=some o/\X.N0 b=none
 EK:X.base.objs.size<=X.kQ.heap.objs.size
 N4:∀ b o,X.base.get? b=some o->b∉X.ex
 N5:∀ b∈X.ex,b∉X.fs
 AH:X.kQ.heap.FunFrames X.base X.outer
 L7:∀ b∈X.fs,X.N0 b=none
structure Inv(X:Cx)(pins:List (ah × Obj))(σ:List (Option V))(H:Hp)(s:ax):Prop where
 ok:X.Ok
 os:s.os=X.kQ.os
 bare:AllBare s.gens
 base:Un X.fs X.ex X.N0 H X.kQ.heap s.heap
 loc:∃ m,s.heap.Ns X.env.locals m/\∀ (i:Nat) (x:Str) (v:V),X.N[i]? = some x->σ[i]? = some (some v)->Ql X.env.scope x->∃ u,RelV v u/\Look X.env s.heap m x u
 cell:∀ x c,X.env.cells.lookup x=some c->∃ v,s.heap.IsCell c v
 free:H X.env.locals=none
 AI:∀ x c,X.env.cells.lookup x=some c->H c=none
 pin:∀ p∈X.pn++pins,s.heap.get? p.1=some p.2/\H p.1=none/\p.1≠X.env.locals/\p.1∉X.fs/\∀ v,p.2.data≠.cell v
 b9:iX X.prog X.w H s.heap
 len:σ.length=X.N.length
section
variable {X:Cx}{pins:List (ah × Obj)}{σ:List (Option V)}{H H':Hp}{s:ax}{h':df}
def Cx.Ok.bG'(ok:X.Ok)(e:X.base.get? b=some o):b∉X.fs:=λhb=>by have:=(ok.AH.mem hb).1;rw[e] at this;cases this
def Inv.bs(I:Inv X pins σ H s):∀ b o,X.base.get? b=some o->s.heap.get? b=some o/\H b=none:=λb o e =>
 ⟨I.base.keep b o (I.ok.bs b o e).1 (I.ok.bs b o e).2 (I.ok.bG' e) (I.ok.N4 b o e),I.base.free b o (I.ok.bs b o e).1 (I.ok.bs b o e).2 (I.ok.N4 b o e)⟩
def Inv.bk(I:Inv X pins σ H s):∀ b o,X.base.get? b=some o->s.heap.get? b=some o:=λb o e=>(I.bs b o e).1
def Inv.mod(I:Inv X pins σ H s):Mod X.K X.mg X.base:=I.ok.mod
def Inv.mn(I:Inv X pins σ H s):X.K.In s.heap:=I.ok.mod.yn.keeps I.bk
def Inv.lt(I:Inv X pins σ H s):X.env.locals<s.heap.objs.size:=let ⟨_,hn,_⟩:=I.loc;hn.lt
def Inv.sz(I:Inv X pins σ H s):X.kQ.heap.objs.size<=s.heap.objs.size:=iP I.ok.above (xl I.lt)
def Inv.bH'(I:Inv X pins σ H s)(h:s.heap.objs.size<=a):a∉X.fs:=λhb=>by obtain⟨_,o,ho,_⟩:=I.ok.AH.mem hb;exact absurd (oa (eW ho) (iP I.sz h)) (vw _)
def Inv.HC(I:Inv X pins σ H s):∀ x c,X.env.cells.lookup x=some c->c≠X.env.locals:=λx c e z=>by obtain⟨v,o,ho,hd⟩:=I.cell x c e;obtain⟨m,⟨o',es,ep,og,Tp,_⟩,_⟩:=I.loc;rw[z,og] at ho;cases ho;rw[Tp] at hd;cases hd
def Inv.AH(I:Inv X pins σ H s):s.heap.FunFrames X.base X.outer:=by
 have all:∀ l,(∀ b∈AG l,b∈X.fs)->X.kQ.heap.FunFrames X.base l->s.heap.FunFrames X.base l:=by
  intro l
  induction l with
  |nil=>intro _ _;trivial
  |cons env r ih =>intro hs hl;obtain⟨hk,⟨L,o,hf,hn,ho,hd⟩,hr⟩:=hl;have hL:L∈X.fs:=hs L (by unfold AG;rw[NP,hf];exact dk);obtain⟨sl,e⟩:=I.base.slot L o ho (I.ok.L7 L hL) hL λz=>I.ok.N5 L z hL;exact⟨hk,⟨L,_,hf,hn,e,hd⟩,ih (λb hb=>hs b (by unfold AG;rw[NP,hf];exact dr _ hb)) hr⟩
 exact all X.outer (λ_ hb=>hb) I.ok.AH
def Inv.stack(I:Inv X pins σ H s):s.heap.FunFrames X.base X.stack:=by
 rcases I.ok.Qm with e|⟨e,hf⟩
 ·rw[e];exact I.AH
 ·rw[e];obtain⟨m,hn,_⟩:=I.loc;refine .cons (by rw[I.ok.kind];decide) hf hn ?_ I.AH;exact Heap.get?_none_of_le (iP I.ok.EK I.ok.above)
def Inv.Tq(I:Inv X pins σ H s):∀ b∈AG X.stack,b∈X.env.locals :: X.fs:=λb hb=>by
 rcases I.ok.Qm with e|⟨e,hf⟩
 ·rw[e] at hb;exact dr _ hb
 ·rw[e] at hb;unfold AG at hb;rw[NP,hf] at hb;exact hb
def Inv.Wb(I:Inv X pins σ H s):∀ b∈AG X.stack,H b=none:=λb hb=>by
 rcases eB.mp (I.Tq b hb) with e|hb
 ·rw[e];exact I.free
 ·obtain⟨_,o,ho,_⟩:=I.ok.AH.mem hb;exact I.base.free b o ho (I.ok.L7 b hb) λz=>I.ok.N5 b z hb
def Inv.step{g':Array GenState}{t':Nat}{d':Drawn}{ch:List ah}(I:Inv X pins σ H s)(yv:∀ b∈ch,(b∈X.ex\/X.kQ.heap.objs.size<=b)/\b≠X.env.locals/\(∀ x c,X.env.cells.lookup x=some c->c≠b)/\∀ p∈X.pn++pins,p.1≠b)(keep:∀ b o,b≠X.env.locals->b∉X.fs->b∉ch->s.heap.get? b=some o->H b=none->h'.get? b=some o)(slot:∀ b o,b≠X.env.locals->b∈X.fs->b∉ch->s.heap.get? b=some o->H b=none->∃ sl,h'.get? b=some { o with slots:=sl }) (free:∀ b o,b∉ch->s.heap.get? b=some o->H b=none->H' b=none) (there:∀ b o,b∉ch->s.heap.get? b=some o->∃ o',h'.get? b=some o') (kC:∀ b xs,H b=some (.tup xs)->H' b=some (.tup xs)) (yk:∀ b o u,H b=some (.pz o u)->H' b=some (.pz o u)) (AF:∀ b ps,H b=some (.G0 ps)->∃ more,H' b=some (.G0 (ps++more))) (ns:∀ m,s.heap.Ns X.env.locals m->h'.Ns X.env.locals m) (b9:iX X.prog X.w H' h') (hg:AllBare g') :
  Inv X pins σ H' { s with heap:=h',gens:=g',drawn:=d',toks:=t' }:=by
 have Wc:∀ b o,X.kQ.heap.get? b=some o->b≠X.env.locals:=λb o e=>gi (oa (eW e) I.ok.above);have Qo:∀ b o,X.kQ.heap.get? b=some o->b∉X.ex->b∉ch:=λb o e hx hb=>by
  rcases (yv b hb).1 with z|z
  ·exact hx z
  ·exact absurd (oa (eW e) z) (vw _)
 have cellK:∀ x c,X.env.cells.lookup x=some c->∀ v,s.heap.IsCell c v->h'.IsCell c v:=λx c e v eI=>by
  obtain⟨o,ho,hd⟩:=eI;have N6:c∉ch:=λz=>(yv c z).2.2.1 x c e rfl;by_cases hc:c∈X.fs
  ·obtain⟨sl,q⟩:=slot c o (I.HC x c e) hc N6 ho (I.AI x c e);exact⟨_,q,hd⟩
  ·exact⟨o,keep c o (I.HC x c e) hc N6 ho (I.AI x c e),hd⟩
 refine⟨I.ok,I.os,hg,⟨λb o e n hb hx=>?_,λb o e n hb hx=>?_,λb o e n hx=>?_,λb o e hx=>?_,λb xs e=>kC b xs (I.base.kC b xs e),λb o xs e=>yk b o xs (I.base.yk b o xs e),λb ps e=>?_⟩,?_,λx c e=>?_,?_,λx c e=>?_,λp hp=>?_,b9,I.len⟩
 ·exact keep b o (Wc b o e) hb (Qo b o e hx) (I.base.keep b o e n hb hx) (I.base.free b o e n hx)
 ·obtain⟨sl,e1⟩:=I.base.slot b o e n hb hx;obtain⟨To,e2⟩:=slot b _ (Wc b o e) hb (Qo b o e hx) e1 (I.base.free b o e n hx);exact⟨To,e2⟩
 ·obtain⟨o',e1⟩:=I.base.there b o e hx;exact free b o' (Qo b o e hx) e1 (I.base.free b o e n hx)
 ·obtain⟨o',e1⟩:=I.base.there b o e hx;exact there b o' (Qo b o e hx) e1
 ·obtain⟨m1,e1⟩:=I.base.AF b ps e;obtain⟨m2,e2⟩:=AF b _ e1;exact⟨m1++m2,by rw[e2,NV]⟩
 ·obtain⟨m,hn,hl⟩:=I.loc;refine⟨m,ns m hn,λi x v e1 e2 e3=>?_⟩;obtain⟨u,r,l⟩:=hl i x v e1 e2 e3;refine⟨u,r,?_⟩;rcases l with l|⟨k,c,e,z⟩
  ·exact .inl l
  ·exact .inr ⟨k,c,e,cellK x c e _ z⟩
 ·obtain⟨v,z⟩:=I.cell x c e;exact⟨v,cellK x c e v z⟩
 ·obtain⟨m,⟨o,_,_,ho,_⟩,_⟩:=I.loc;exact free _ o (λz=>(yv _ z).2.1 rfl) ho I.free
 ·obtain⟨v,o,ho,hd⟩:=I.cell x c e;exact free c o (λz=>(yv c z).2.2.1 x c e rfl) ho (I.AI x c e)
 ·obtain⟨e,n,ne,nf,d⟩:=I.pin p hp;have N6:p.1∉ch:=λz=>(yv p.1 z).2.2.2 p hp rfl;exact⟨keep p.1 p.2 ne nf N6 e n,free p.1 p.2 N6 e n,ne,nf,d⟩
def Inv.un{t':Nat}(I:Inv X pins σ H s)(u:Un X.fs [] H H' s.heap h')(b9:iX X.prog X.w H' h'):Inv X pins σ H' { s with heap:=h',toks:=t' }:=by
 obtain⟨m,⟨o,es,ep,ho,r⟩,_⟩:=id I.loc;obtain⟨sl,hL⟩:=u.any ho I.free (by simp);exact I.step (ch:=[]) (λ_ z=>nomatch z) (λb o _ hb _ e n=>u.keep b o e n hb (by simp)) (λb o _ hb _ e n=>u.slot b o e n hb (by simp)) (λb o _ e n=>u.free b o e n (by simp)) (λb o _ e=>u.there b o e (by simp)) u.kC u.yk u.AF (λm' hm=>by
  obtain⟨o',Tr,N7,og,r'⟩:=hm;rw[ho] at og;cases og;exact⟨_,Tr,N7,hL,r'⟩) b9 I.bare
def Inv.call{g':Array GenState}{t':Nat}{d':Drawn}{ch:List ah}(I:Inv X pins σ H s)(u:Un (AG X.stack) ch H H' s.heap h')(b9:iX X.prog X.w H' h')(hg:AllBare g')(yv:∀ b∈ch,(b∈X.ex\/X.kQ.heap.objs.size<=b)/\b≠X.env.locals/\(∀ x c,X.env.cells.lookup x=some c->c≠b)/\∀ p∈X.pn++pins,p.1≠b) :
  Inv X pins σ H' { s with heap:=h',gens:=g',drawn:=d',toks:=t' }:=by
 obtain⟨m,⟨o,es,ep,ho,r⟩,_⟩:=id I.loc;obtain⟨sl,hL⟩:=u.any ho I.free λz=>(yv _ z).2.1 rfl;exact I.step yv (λb o hL hb hc e n=>u.keep b o e n (λz=>(eB.mp (I.Tq b z)).elim hL hb) hc) (λb o _ _ hc e n=>u.any e n hc) (λb o hc e n=>u.free b o e n hc) (λb o hc e=>u.there b o e hc) u.kC u.yk u.AF (λm' hm=>by
  obtain⟨o',Tr,N7,og,r'⟩:=hm;rw[ho] at og;cases og;exact⟨_,Tr,N7,hL,r'⟩) b9 hg
def Inv.turned{t':Nat}{it:ah}(I:Inv X pins σ H s)(k:∀ b o,b≠it->s.heap.get? b=some o->h'.get? b=some o)(hn:H it=none)(hL:it≠X.env.locals)(h1:it∈X.ex\/X.kQ.heap.objs.size<=it) (h2:∀ x c,X.env.cells.lookup x=some c->c≠it) (h3:∀ p∈X.pn++pins,p.1≠it):Inv X pins σ H { s with heap:=h',toks:=t' }:=by
 have EL:∀ b u,H b=some u->b≠it:=λb u e z=>by rw[z,hn] at e;cases e
 refine I.step (ch:=[it]) (λb hb=>?_) (λb o _ _ hc e _=>k b o (λz=>hc (by simp[z])) e) (λb o _ _ hc e _=>⟨o.slots,k b o (λz=>hc (by simp[z])) e⟩) (λ_ _ _ _ n=>n) (λb o hc e=>⟨o,k b o (λz=>hc (by simp[z])) e⟩) (λ_ _ e=>e) (λ_ _ _ e=>e) (λb ps e=>⟨#[],by rw[e];simp⟩) (λm hm=>?_) (λb u e=>?_) I.bare
 ·have e:b=it:=by simpa using hb
  subst e;exact⟨h1,hL,h2,h3⟩
 ·obtain⟨o,es,ep,ho,r⟩:=hm;exact⟨o,es,ep,k _ o (Ne.symm hL) ho,r⟩
 ·refine(I.b9 b u e).fz (λc v hc q=>k c v ?_ q) (λ_ q=>q) λ_ _ q=>q;rcases hc with z|z
  ·rw[z];exact EL b u e
  ·exact EL c _ z
def Inv.tok(I:Inv X pins σ H s)(t:Nat):Inv X pins σ H { s with toks:=t }:=I.un Un.refl I.b9
def Inv.kept(I:Inv X pins σ H s)(k:∀ b u,s.heap.get? b=some u->h'.get? b=some u):Inv X pins σ H { s with heap:=h',toks:=t' }:=I.un (Un.kept k) (I.b9.kept k)
def Inv.laid(I:Inv X pins σ H s)(k:∀ b u,s.heap.get? b=some u->h'.get? b=some u)(hp:s.heap.objs.size<=a)(new:iS X.prog X.w (upd H a o) h' a o) :
  Inv X pins σ (upd H a o) { s with heap:=h',toks:=t' }:=I.un (Un.laid k hp (I.b9.fresh hp)) (I.b9.laid k hp new)
def Inv.write(I:Inv X pins σ H s)(mu:NZ (H x))(he:e=x\/H e=some (.own x))(k:∀ b u,b≠e->s.heap.get? b=some u->h'.get? b=some u)(L6:∃ u,h'.get? e=some u)(new:iS X.prog X.w (upd H x o) h' x o):Inv X pins σ (upd H x o) { s with heap:=h',toks:=t' }:=I.un (Un.write mu he k L6) (I.b9.write mu he k L6 new)
def Inv.Wd(I:Inv X pins σ H s)(h:∀ p∈bI',s.heap.get? p.1=some p.2/\H p.1=none/\p.1≠X.env.locals/\p.1∉X.fs/\∀ v,p.2.data≠.cell v):Inv X bI' σ H s :=
 ⟨I.ok,I.os,I.bare,I.base,I.loc,I.cell,I.free,I.AI,λp hp=>(eR.mp hp).elim (λz=>I.pin p (kc _ z)) (h p),I.b9,I.len⟩
def Wg{N:List Str}(hN:N.Nodup){i j:Nat}{x:Str}(a:N[i]? = some x)(b:N[j]? = some x):i=j:=by obtain⟨h1,e1⟩:=iE.mp a;obtain⟨h2,e2⟩:=iE.mp b;exact(List.getElem_inj hN).mp (e1.trans e2.symm)
def Wh{M:Model}{A:e7}{E:ae->ax->Prop}{i:Nat}{x:Str}{v:V}{u:ae}{Q:Unit->ax->Prop}(I:Inv X pins σ H s)(hN:X.N.Nodup)(hi:X.N[i]? = some x)(hx:Loc X.env.scope x)(r:RelV v u)(h:∀ s',Inv X pins (σ.set i (some v)) H s'->(∃ a,Heap.SameBut a s.heap s'.heap/\(a=X.env.locals\/X.env.cells.lookup x=some a))->Q () s') (hf:X.fn x=true\/X.env.scope.names.lookup x=some .local:=by first|exact .inl rfl|exact .inr rfl|assumption):bq M A (storeName X.env x u) Q E s:=by
 obtain⟨m,hn,hl⟩:=id I.loc;have bJ':(X.env.scope.kind == .class || (X.env.scope.kind == .module && X.env.locals != X.env.globals))=false:=by rw[I.ok.kind];rfl
 have Wi:i<σ.length:=by rw[I.len];exact(iE.mp hi).1
 have HC:=I.HC;have tracked:∀ {a:ah} {h':df},(∃ o,s.heap.get? a=some o/\H a=none)->Heap.SameBut a s.heap h'->iX X.prog X.w H h':=λ{a h'} ha hs b ob e=>by
  obtain⟨_,_,Wj⟩:=ha;refine(I.b9 b ob e).fz (λc w' hc q=>(hs.2 c ?_).trans q) (λ_ q=>q) λ_ _ q=>q;rintro rfl;rcases hc with rfl|hc
  ·rw[Wj] at e;cases e
  ·rw[Wj] at hc;cases hc
 rcases hx with hk|hk
 ·refine wpAny_storeName_local hk hn (λh' Ts hs=>?_) bJ';obtain⟨oL,_,_,yy,_⟩:=id hn;refine h _ ⟨I.ok,I.os,I.bare,⟨λb o e n hb hx=>?_,λb o e n hb hx=>?_,I.base.free,λb o e hx=>?_,I.base.kC,I.base.yk,I.base.AF⟩,⟨_,Ts,λj y v' e1 e2 e3=>?_⟩,λy c e=>?_,I.free,I.AI,λp hp=>?_,tracked ⟨oL,yy,I.free⟩ hs,by simpa using I.len⟩ ⟨_,hs,.inl rfl⟩
  ·exact(hs.2 b (gi (oa (eW e) I.ok.above))).trans (I.base.keep b o e n hb hx)
  ·obtain⟨sl,e1⟩:=I.base.slot b o e n hb hx;exact⟨sl,(hs.2 b (gi (oa (eW e) I.ok.above))).trans e1⟩
  ·obtain⟨o',e1⟩:=I.base.there b o e hx;exact⟨o',(hs.2 b (gi (oa (eW e) I.ok.above))).trans e1⟩
  ·by_cases hj:j=i
   ·subst hj;rw[hi] at e1;cases e1;rw[SK Wi] at e2;cases e2;exact⟨u,r,.inl ⟨hk,by simp⟩⟩
   ·rw[NK (Ne.symm hj)] at e2;obtain⟨u',r',q⟩:=hl j y v' e1 e2 e3;refine⟨u',r',?_⟩;rcases q with⟨k,e⟩|⟨k,c,e,z⟩
    ·refine .inl ⟨k,?_⟩;have:y≠x:=λe=>hj (Wg hN e1 (e ▸ hi));simp[this,e]
    ·exact .inr ⟨k,c,e,z.sameBut hs (HC y c e)⟩
  ·obtain⟨w',z⟩:=I.cell y c e;exact⟨w',z.sameBut hs (HC y c e)⟩
  ·obtain⟨e,n,ne,nf,d⟩:=I.pin p hp;exact⟨(hs.2 p.1 ne).trans e,n,ne,nf,d⟩
 ·have Tt:X.fn x=true:=by
   rcases hf with z|z
   ·exact z
   ·rw[z] at hk;cases hk
  obtain⟨c,hc⟩:=I.ok.has x (.inl hk);obtain⟨w',z⟩:=I.cell x c hc;refine wpAny_storeName_cell I.ok.kind hk hc z (λh' AJ hs=>?_);obtain⟨oc,Qp,bK'⟩:=id z;refine h { s with heap:=h' } ⟨I.ok,I.os,I.bare,⟨λb o e n hb hx=>?_,λb o e n hb hx=>?_,I.base.free,λb o e hx=>?_,I.base.kC,I.base.yk,I.base.AF⟩,⟨m,hn.sameBut hs (Ne.symm (HC x c hc)),λj y v' e1 e2 e3=>?_⟩,λy c' e=>?_,I.free,I.AI,λp hp=>?_,tracked ⟨oc,Qp,I.AI x c hc⟩ hs,by simpa using I.len⟩ ⟨c,hs,.inr hc⟩
  ·exact(hs.2 b (gi (oa (eW e) (I.ok.N3 x c Tt hc)))).trans (I.base.keep b o e n hb hx)
  ·obtain⟨sl,e1⟩:=I.base.slot b o e n hb hx;exact⟨sl,(hs.2 b (gi (oa (eW e) (I.ok.N3 x c Tt hc)))).trans e1⟩
  ·obtain⟨o',e1⟩:=I.base.there b o e hx;exact⟨o',(hs.2 b (gi (oa (eW e) (I.ok.N3 x c Tt hc)))).trans e1⟩
  ·by_cases hj:j=i
   ·subst hj;rw[hi] at e1;cases e1;rw[SK Wi] at e2;cases e2;exact⟨u,r,.inr ⟨.inl hk,c,hc,AJ⟩⟩
   ·rw[NK (Ne.symm hj)] at e2;obtain⟨u',r',q⟩:=hl j y v' e1 e2 e3;refine⟨u',r',?_⟩;rcases q with q|⟨k,c',e,z'⟩
    ·exact .inl q
    ·refine .inr ⟨k,c',e,z'.sameBut hs ?_⟩;rintro rfl;exact hj (Wg hN e1 (I.ok.inj _ _ _ e hc ▸ hi))
  ·by_cases L8:c'=c
   ·subst L8;exact⟨_,AJ⟩
   ·obtain⟨w2,z2⟩:=I.cell y c' e;exact⟨w2,z2.sameBut hs L8⟩
  ·obtain⟨e,n,ne,nf,d⟩:=I.pin p hp;refine⟨(hs.2 p.1 ?_).trans e,n,ne,nf,d⟩;intro q;rw[q,Qp] at e;have q':oc=p.2:=Option.some.inj e;exact d w' (by rw[<- q'];exact bK')
def Wk(I:Inv X pins σ H s)(hN:X.N.Nodup)(hi:X.N[i]? = some x)(hx:Loc X.env.scope x)(r:RelV v u)(h:∀ s',Inv X pins (σ.set i (some v)) H s'->Q () s') (hf:X.fn x=true\/X.env.scope.names.lookup x=some .local:=by first|exact .inl rfl|exact .inr rfl|assumption):bq M A (storeName X.env x u) Q E s :=
 Wh I hN hi hx r (λs' I' _=>h s' I') hf
def Inv.bL'(I:Inv X pins σ H s)(ho:s'.os=s.os)(u:Un (AG X.stack) ch H H' s.heap s'.heap)(b9:iX X.prog X.w H' s'.heap)(hg:AllBare s'.gens)(yv:∀ b∈ch,(b∈X.ex\/X.kQ.heap.objs.size<=b)/\b≠X.env.locals/\(∀ x c,X.env.cells.lookup x=some c->c≠b)/\∀ p∈X.pn++pins,p.1≠b):Inv X pins σ H' s':=by
 obtain⟨h',g',d',t',o'⟩:=s';have e:o'=s.os:=ho;subst e;exact I.call u b9 hg yv
end
abbrev XK:=ae->Option ah->Hp->Prop
abbrev St:=List (Option V)
abbrev VK:=V->Hp->Prop
abbrev TE:=St->Hp->VK->Prop
abbrev TT:=St->Hp->(Bool->Hp->Prop)->Prop
abbrev TA:=St->Hp->(List V->Hp->Prop)->Prop
structure Ends where
 nx:St->Hp->Prop
 rt:VK
 bk:St->Hp->Prop:=fun _ _=>False
 ct:St->Hp->Prop:=fun _ _=>False
abbrev TS:=Ends->St->Hp->Prop
def EP(X:Cx)(pins:List (ah × Obj))(σ:St)(Q:VK)(u:ae)(s':ax):Prop:=∃ v H',Inv X pins σ H' s'/\RelV v u/\Q v H'
def TP(X:Cx)(pins:List (ah × Obj))(σ:St)(Q:Bool->Hp->Prop)(b:Bool)(s':ax):Prop:=∃ H',Inv X pins σ H' s'/\Q b H'
def AP(X:Cx)(pins:List (ah × Obj))(σ:St)(Q:List V->Hp->Prop)(us:List ae)(s':ax):Prop:=∃ vs H',Inv X pins σ H' s'/\Vals vs us/\Q vs H'
def SP(X:Cx)(pins:List (ah × Obj))(D:Ends)(f:Flow)(s':ax):Prop :=
 match f with
 |.next=>∃ cq H',Inv X pins cq H' s'/\D.nx cq H'
 |.brk=>∃ cq H',Inv X pins cq H' s'/\D.bk cq H'
 |.cont=>∃ cq H',Inv X pins cq H' s'/\D.ct cq H'
 |.ret u=>∃ v cq H',Inv X pins cq H' s'/\RelV v u/\D.rt v H'
def PE(X:Cx)(e:Expr)(t:TE):Prop :=
 ∀ (pins:List (ah × Obj)) (s:ax) (σ:St) (H:Hp) (Q:VK),Inv X pins σ H s->t σ H Q->bq (aI X.prog X.w) X.A (dn e X.env) (EP X pins σ Q) X.xe s
def PT(X:Cx)(e:Expr)(t:TT):Prop :=
 ∀ (pins:List (ah × Obj)) (s:ax) (σ:St) (H:Hp) (Q:Bool->Hp->Prop),Inv X pins σ H s->t σ H Q->bq (aI X.prog X.w) X.A (isTrue e X.env (dn e X.env)) (TP X pins σ Q) X.xe s
def PW(X:Cx)(e:Expr)(t:TT):Prop :=
 ∀ (whole:Sem ae) (pins:List (ah × Obj)) (s:ax) (σ:St) (H:Hp) (Q:Bool->Hp->Prop),Inv X pins σ H s->t σ H Q->bq (aI X.prog X.w) X.A (isTrue e X.env whole) (TP X pins σ Q) X.xe s
def PA(X:Cx)(es:List Expr)(t:TA):Prop :=
 ∀ (pos:Pos) (pins:List (ah × Obj)) (s:ax) (σ:St) (H:Hp) (Q:List V->Hp->Prop),Inv X pins σ H s->t σ H Q->bq (aI X.prog X.w) X.A (spliced (kA pos (b4 es X.env))) (AP X pins σ Q) X.xe s
def PS(X:Cx)(st:Stmt)(t:TS):Prop :=
 ∀ (pins:List (ah × Obj)) (s:ax) (σ:St) (H:Hp) (D:Ends),Inv X pins σ H s->t D σ H->bq (aI X.prog X.w) X.A (exec st X.env) (SP X pins D) X.xe s
def mI(X:Cx)(st:List Stmt)(t:TS):Prop :=
 ∀ (pins:List (ah × Obj)) (s:ax) (σ:St) (H:Hp) (D:Ends),Inv X pins σ H s->t D σ H->bq (aI X.prog X.w) X.A (execs st X.env) (SP X pins D) X.xe s
def dz{α:Type}{t:Sem α}{Q Q':α->ax->Prop}{M:Model}{A:e7}{E:ae->ax->Prop}{s:ax}(h:bq M A t Q E s)(hQ:∀ a s,Q a s->Q' a s):bq M A t Q' E s:=vk h hQ λ_ _ x=>x
section
variable {X:Cx}
def ER(i:Nat):TE:=λσ H Q=>∃ v,σ[i]? = some (some v)/\Q v H
def tC(v:V):TE:=λ_ H Q=>Q v H
def Wl (hN:X.N[i]? = some x) (hv:Ql X.env.scope x) (hd:(x == ("__debug__" : Str))=false:=by decide) (tI:(x == ("__classdict__" : Str))=false:=by decide):PE X (.Name x pos) (ER i):=by
 intro pins s σ H Q I h;obtain⟨v,e,h⟩:=h;obtain⟨m,hn,hl⟩:=I.loc;obtain⟨u,r,l⟩:=hl i x v hN e hv;have fin:EP X pins σ Q u s:=⟨v,H,I,r,h⟩
 rcases l with⟨hk,hm⟩|⟨hk,c,hc,Wm⟩
 ·exact wpAny_Name (wpAny_loadName_local I.ok.kind hk hn hm fin) hd
 ·rcases hk with hk|hk
  ·exact wpAny_Name (wpAny_loadName_cell I.ok.kind hk hc Wm fin) hd
  ·exact wpAny_Name (wpAny_loadName_free I.ok.kind hk hc Wm fin tI) hd
def bM'{i j pos}:PE X (.Constant (.int i) j pos) (tC (.int i)):=λ_ _ _ H _ I h=>wpAny_Constant_int ⟨.int i,H,I.tok _,⟨_,rfl⟩,h⟩
def bN'{b j pos}:PE X (.Constant (.bool b) j pos) (tC (.bl b)):=λ_ _ _ H _ I h=>Constant_bool ⟨.bl b,H,I,rfl,h⟩
def bO'{j pos}:PE X (.Constant .none j pos) (tC .non):=λ_ _ _ H _ I h=>Constant_none ⟨.non,H,I,rfl,h⟩
def bP'{x j pos}:PE X (.Constant (.str x) j pos) (tC (.str x)):=λ_ _ _ H _ I h=>Calls.Constant_str ⟨.str x,H,I.tok _,⟨_,rfl⟩,h⟩
def Gl(X:Cx)(x:Str):Prop:=X.env.kindOf x=some .globalImplicit
def bQ'(I:Inv X pins σ H s)(hg:Gl X x)(hm:X.mg x=some u)(h:Q u s)(hd:(x == ("__debug__" : Str))=false:=by decide):bq (aI X.prog X.w) X.A (dn (.Name x pos) X.env) Q E s :=
 Calls.Name_function_global I.ok.kind hg (Calls.loadGlobal_global (by rw[I.ok.glob];exact I.mod.glob.keeps I.bk) hm h) hd
def AK(I:Inv X pins σ H s)(hg:Gl X x)(hm:X.mg x=none)(hv:kK x=some u)(h:Q u s)(hn:x ≠ "__name__" := by decide) (hd:(x == ("__debug__" : Str))=false:=by decide):bq (aI X.prog X.w) X.A (dn (.Name x pos) X.env) Q E s:=by
 obtain⟨mb,h1,h2⟩:=I.mod.blt;exact Calls.Name_function_global I.ok.kind hg (Calls.loadGlobal_builtin (by rw[I.ok.glob];exact I.mod.glob.keeps I.bk) hm (by rw[I.ok.blt];exact h1.keeps I.bk) ((h2 x hn).trans hv) h) hd
def bR' (hg:Gl X x) (hm:X.mg x=none) (hv:kK x=some u) (r:RelV v u) (hn:x ≠ "__name__" := by decide) (hd:(x == ("__debug__" : Str))=false:=by decide):PE X (.Name x pos) (tC v) :=
 λ_ _ _ H _ I h=>AK I hg hm hv ⟨v,H,I,r,h⟩ hn hd
variable {a b:Expr}{ta tb:TE}{pos:Pos}
def tB(t:TE):TT:=λσ H Q=>t σ H λx H1=>∃ c,x=.bl c/\Q c H1
def bS'(h:PE X e t)(he:∀ whole,isTrue e X.env whole=(do let v <- whole;standAt e.pos;holding [v] (truthy v)):=by intro _;rfl):PT X e (tB t):=by intro pins s σ H Q I hw;refine isTrue_plain (dz (h pins s σ H _ I hw) λv s1 dQ=>L2.g7 dQ λx H1 I1 r1 q1=>?_) (he _);obtain⟨d,rfl,q⟩:=q1;cases r1;exact FP ⟨H1,I1,q⟩
variable {tA Qq:TT}{rest:List Expr}
def bT'(t u:TT):TT:=λσ H Q=>t σ H λc H1=>if c=true then u σ H1 Q else Q false H1
def tOr(t u:TT):TT:=λσ H Q=>t σ H λc H1=>if c=true then Q true H1 else u σ H1 Q
def bV'(t:TT):TT:=λσ H Q=>t σ H λc H1=>Q (!c) H1
def pw_and1(ha:PT X a tA):PW X (.BoolOp .And [a] pos) tA:=by
 intro wh pins s σ H Q I h;refine isTrue_and (dz (ha pins s σ H Q I h) λc s1 e=>?_)
 cases c with
 |true=>exact isTrue_and_nil e
 |false=>exact e
def pw_or1(ha:PT X a tA):PW X (.BoolOp .Or [a] pos) tA:=by
 intro wh pins s σ H Q I h;refine isTrue_or (dz (ha pins s σ H Q I h) λc s1 e=>?_)
 cases c with
 |false=>exact isTrue_or_nil e
 |true=>exact e
def pw_and(ha:PT X a tA)(hb:PW X (.BoolOp .And (b :: rest) pos) Qq):PW X (.BoolOp .And (a :: b :: rest) pos) (bT' tA Qq):=by
 intro wh pins s σ H Q I h;refine isTrue_and (dz (ha pins s σ H _ I h) λc s1 eI=>?_);obtain⟨H1,I1,q1⟩:=eI
 cases c with
 |true=>exact hb wh pins s1 σ H1 Q I1 q1
 |false=>exact⟨H1,I1,q1⟩
def pw_or(ha:PT X a tA)(hb:PW X (.BoolOp .Or (b :: rest) pos) Qq):PW X (.BoolOp .Or (a :: b :: rest) pos) (tOr tA Qq):=by
 intro wh pins s σ H Q I h;refine isTrue_or (dz (ha pins s σ H _ I h) λc s1 eI=>?_);obtain⟨H1,I1,q1⟩:=eI
 cases c with
 |true=>exact⟨H1,I1,q1⟩
 |false=>exact hb wh pins s1 σ H1 Q I1 q1
def bW'(ha:PT X a tA):PT X (.UnaryOp .Not a pos) (bV' tA):=by intro pins s σ H Q I h;exact isTrue_not (ha pins s σ H (λc H1=>Q (!c) H1) I h)
def bX'(ta tb:TE):TE:=λσ H Q=>ta σ H λx H1=>∃ c,x=.bl c/\if c=true then tb σ H1 Q else Q (.bl false) H1
def bY'{op}(h:PE X a t):PE X (.BoolOp op [a] pos) t:=λpins s σ H Q I hw=>BoolOp_one (h pins s σ H Q I hw)
def bZ'(ha:PE X a ta)(hb:PE X (.BoolOp .And (b :: rest) pos) tb):PE X (.BoolOp .And (a :: b :: rest) pos) (bX' ta tb):=by
 intro pins s σ H Q I h;refine BoolOp_and (dz (ha pins s σ H _ I h) λv s1 dQ=>L2.g7 dQ λx H1 I1 r1 q1=>?_);obtain⟨c,rfl,q1⟩:=q1;cases r1;refine FP ?_
 cases c with
 |true=>exact hb pins s1 σ H1 Q I1 q1
 |false=>exact⟨.bl false,H1,I1,rfl,q1⟩
end
def fh(K:aE)(H:Hp)(a:ah)(xs:List V):Prop :=
 Rd H a (.lst xs) \/
  ∃ (o:Obj) (its:Array ae) (n:Nat),K.lookup a=some o/\o.cls=.type "list"/\o.dict=none/\o.data=.seq its n/\its.size<=bX/\Vals xs its.toList
def ox(K:aE)(H:Hp)(a:ah)(xs:List V):Prop :=
 Rd H a (.tup xs) \/
  ∃ (o:Obj) (its:Array ae) (n:Nat),K.lookup a=some o/\o.cls=.type "tuple"/\o.data=.seq its n/\its.size<=bX/\Vals xs its.toList
def ca':ae->Option V
 |.none=>some .non
 |.bool b=>some (.bl b)
 |.int i _=>some (.int i)
 |.str x _=>some (.str x)
 |.bytes b _=>some (.tF b)
 |.float b _=>some (.DH b)
 |.ref a=>some (.ref a)
 |.type n=>some (.ty n)
 |_=>none
def RelV.abs(r:RelV x u):ca' u=some x:=by
 cases x with
 |non=>cases r;rfl
 |bl _=>cases r;rfl
 |int _=>obtain⟨t,rfl⟩:=r;rfl
 |str _=>obtain⟨t,rfl⟩:=r;rfl
 |tF _=>obtain⟨t,rfl⟩:=r;rfl
 |DH _=>obtain⟨t,rfl⟩:=r;rfl
 |ref _=>cases r;rfl
 |ty _=>cases r;rfl
def RelV.inj(r:RelV x u)(q:RelV y u):x=y:=Option.some.inj (r.abs.symm.trans q.abs)
theorem Vals.inj:∀ {xs ys:List V} {us:List ae},Vals xs us->Vals ys us->xs=ys
 |_,_,_,.nil,.nil=>rfl
 |_,_,_,.cons r t,.cons r' t'=>by rw[r.inj r',Vals.inj t t']
section
variable {X:Cx}{pins:List (ah × Obj)}{σ:St}{H:Hp}{s:ax}{a:ah}{xs ys:List V}
def Inv.list(I:Inv X pins σ H s)(h:fh X.K H a xs):∃ its:List ae,Vals xs its/\PlainL s.heap a its.toArray/\xs.length<=bX:=by
 rcases h with h|⟨o,its,n,hk,hc,hd,hs,hz,r⟩
 ·obtain⟨z,its,n,r,e⟩:=h.ok I.b9;exact⟨its,r,⟨_,n,e,rfl,rfl,rfl⟩,z⟩
 ·refine⟨its.toList,r,⟨o,n,I.mn a o hk,hc,hd,by simpa using hs⟩,?_⟩;have e:=r.length;simp only[BH] at e;lia
def Inv.tuple(I:Inv X pins σ H s)(h:ox X.K H a xs):∃ its:List ae,Vals xs its/\IsTup s.heap a its.toArray/\xs.length<=bX:=by
 rcases h with h|⟨o,its,n,hk,hc,hs,hz,r⟩
 ·obtain⟨z,its,r,p⟩:=h.ok I.b9;exact⟨its,r,p,z⟩
 ·refine⟨its.toList,r,⟨o,I.mn a o hk,hc,n,by simpa using hs⟩,?_⟩;have e:=r.length;simp only[BH] at e;lia
def Inv.Wn(I:Inv X pins σ H s)(h:fh X.K H a xs)(h':fh X.K H a ys):xs=ys:=by
 obtain⟨its,r,⟨o,n,e,_,_,d⟩,_⟩:=I.list h;obtain⟨N8,r',⟨o',n',e',_,_,d'⟩,_⟩:=I.list h';rw[e] at e';cases e';rw[d] at d';injection d' with d1 _;have:its=N8:=by simpa using congrArg Array.toList d1
 subst this;exact r.inj r'
end
abbrev Cx.wish(X:Cx)(E:ae->ax->Prop):Cx:={ X with xe:=E }
abbrev Cx.EV(X:Cx):Cx:=X.wish λ_ _=>False
def Cx.Ok.wish{X:Cx}(ok:X.Ok)(E:ae->ax->Prop):(X.wish E).Ok :=
 ⟨ok.mod,ok.kind,ok.glob,ok.blt,ok.above,ok.inj,ok.has,ok.N3,ok.hd,ok.frames,ok.Qm,ok.Qn,ok.bs,ok.EK,ok.N4,ok.N5,ok.AH,ok.L7⟩
def Cx.Ok.EW{X:Cx}(ok:(X.wish E).Ok):X.Ok :=
 ⟨ok.mod,ok.kind,ok.glob,ok.blt,ok.above,ok.inj,ok.has,ok.N3,ok.hd,ok.frames,ok.Qm,ok.Qn,ok.bs,ok.EK,ok.N4,ok.N5,ok.AH,ok.L7⟩
section
variable {X:Cx}{pins:List (ah × Obj)}{σ:St}{H:Hp}{s:ax}{E:ae->ax->Prop}
def Inv.wish(I:Inv X pins σ H s)(E:ae->ax->Prop):Inv (X.wish E) pins σ H s:=⟨I.ok.wish E,I.os,I.bare,I.base,I.loc,I.cell,I.free,I.AI,I.pin,I.b9,I.len⟩
def Inv.EW(I:Inv (X.wish E) pins σ H s):Inv X pins σ H s:=⟨I.ok.EW,I.os,I.bare,I.base,I.loc,I.cell,I.free,I.AI,I.pin,I.b9,I.len⟩
def SP.EW{D:Ends}(h:SP (X.wish E) pins D f s'):SP X pins D f s':=by
 cases f with
 |next=>obtain⟨cq,H',I,q⟩:=h;exact⟨cq,H',I.EW,q⟩
 |brk=>obtain⟨cq,H',I,q⟩:=h;exact⟨cq,H',I.EW,q⟩
 |cont=>obtain⟨cq,H',I,q⟩:=h;exact⟨cq,H',I.EW,q⟩
 |ret u=>obtain⟨v,cq,H',I,r,q⟩:=h;exact⟨v,cq,H',I.EW,r,q⟩
def mI.EV{st:List Stmt}(h:mI X.EV st t):mI X st t:=λpins s σ H D I hw =>
 vk (h pins s σ H D (I.wish _) hw) (λ_ _ q=>q.EW) λ_ _ z=>False.elim z
end
section
variable {X:Cx}{st:Stmt}{rest:List Stmt}{t u:TS}{e:Expr}{te:TE}{pos:Pos}
def cb':TS:=λD σ H=>D.nx σ H
def Wo(t u:TS):TS:=λD σ H=>t { D with nx:=u D } σ H
def cc':mI X [] cb':=λ_ _ σ H _ I h=>wpAny_execs_nil ⟨σ,H,I,h⟩
def Wq(h1:PS X st t)(h2:mI X rest u):mI X (st :: rest) (Wo t u):=by
 intro pins s σ H D I h;refine wpAny_execs_cons (dz (h1 pins s σ H { D with nx:=u D } I h) λf s1 q=>?_)
 cases f with
 |next =>obtain⟨cq,H',I',q⟩:=q;exact h2 pins s1 cq H' D I' q
 |ret v=>exact q
 |brk=>exact q
 |cont=>exact q
def Wr(h1:PS X st t):mI X [st] t:=by
 intro pins s σ H D I h;refine wpAny_execs_cons (dz (h1 pins s σ H D I h) λf s1 q=>?_)
 cases f with
 |next=>exact wpAny_execs_nil q
 |ret v=>exact q
 |brk=>exact q
 |cont=>exact q
def Inv.quiet(I:Inv X pins σ H s):interactive X.env=false:=by simp[interactive,I.ok.kind]
def cd'(te:TE):TS:=λD σ H=>te σ H λ_ H1=>D.nx σ H1
def Qr(he:PE X e te)(hs:autoParam (xh e none pos.line X.env=pure false) bv):PS X (.Expr e pos) (cd' te):=by intro pins s σ H D I h;exact wpAny_Expr_any (dz (he pins s σ H _ I h) λv s1 dQ=>L2.g7 dQ λx H1 I1 r1 q1=>⟨σ,H1,I1,q1⟩) I.quiet hs
def ce'(te:TE):TS:=λD σ H=>te σ H D.rt
def Tv(he:PE X e te):PS X (.Return (some e) pos) (ce' te):=by intro pins s σ H D I h;exact wpAny_Return_some (dz (he pins s σ H _ I h) λv s1 dQ=>L2.g7 dQ λx H1 I1 r1 q1=>⟨x,σ,H1,I1,r1,q1⟩)
def cf'(c:TT)(t u:TS):TS:=λD σ H=>c σ H λb H1=>if b=true then t D σ H1 else u D σ H1
def cg'(hc:PT X c tc)(ha:mI X a t)(hb:mI X b u):PS X (.If c a b pos) (cf' tc t u):=by
 intro pins s σ H D I h;refine wpAny_If (dz (hc pins s σ H _ I h) λd s1 eI=>?_);obtain⟨H1,I1,q1⟩:=eI
 cases d with
 |true=>exact ha pins s1 σ H1 D I1 q1
 |false=>exact hb pins s1 σ H1 D I1 q1
def ch':TS:=λ_ _ _=>False
def ci':mI X sts ch':=λ_ _ _ _ _ _ h=>h.elim
end
abbrev TG:=V->St->Hp->(St->Hp->Prop)->Prop
abbrev L9:=List V->St->Hp->(St->Hp->Prop)->Prop
def PG(X:Cx)(target:Expr)(t:TG):Prop :=
 ∀ (pins:List (ah × Obj)) (s:ax) (σ:St) (H:Hp) (v:V) (u:ae) (Q:St->Hp->Prop),Inv X pins σ H s->RelV v u->t v σ H Q ->
  bq (aI X.prog X.w) X.A (assign target X.env u) (λ_ s'=>∃ cq H',Inv X pins cq H' s'/\Q cq H') X.xe s
def BM(X:Cx)(ts:List Expr)(t:L9):Prop :=
 ∀ (pins:List (ah × Obj)) (s:ax) (σ:St) (H:Hp) (vs:List V) (us:List ae) (Q:St->Hp->Prop),Inv X pins σ H s->Vals vs us->t vs σ H Q ->
  bq (aI X.prog X.w) X.A (assignInOrder ((oP ts X.env).map (·.2)) us) (λ_ s'=>∃ cq H',Inv X pins cq H' s'/\Q cq H') X.xe s
section
variable {X:Cx}{pos:Pos}
def Tw(i:Nat):TG:=λv σ H Q=>Q (σ.set i (some v)) H
def Tx(hN:X.N.Nodup)(hi:X.N[i]? = some x)(hx:Loc X.env.scope x)(hf:X.fn x=true\/X.env.scope.names.lookup x=some .local:=by first|exact .inl rfl|exact .inr rfl|assumption):PG X (.Name x pos) (Tw i):=by intro pins s σ H v u Q I r h;exact wpAny_assign_Name (Wk I hN hi hx r (λs' I'=>⟨_,H,I',h⟩) hf)
def cj':L9:=λvs σ H Q=>vs=[]/\Q σ H
def ck'(t:TG)(u:L9):L9:=λvs σ H Q=>∃ v r,vs=v :: r/\t v σ H λcq H'=>u r cq H' Q
def Ws:BM X [] cj':=by intro pins s σ H vs us Q I r h;obtain⟨e,h⟩:=h;subst e;cases r;exact assignInOrder_nil ⟨σ,H,I,h⟩
def Tz(h1:PG X e t)(h2:BM X es u)(hs:autoParam ((oP (e :: es) X.env).map (·.2)=assign e X.env :: (oP es X.env).map (·.2)) bv):BM X (e :: es) (ck' t u):=by
 intro pins s σ H vs us Q I r h;obtain⟨v,vr,e1,h⟩:=h;subst e1
 cases r with
 |cons r rr =>rw[hs];refine assignInOrder_cons (dz (h1 pins s σ H _ _ _ I r h) λ_ s1 eI=>?_);obtain⟨Mb,H1,I1,q1⟩:=eI;exact h2 pins s1 Mb H1 _ _ Q I1 rr q1
def cl'(K:aE)(n:Nat)(t:L9):TG:=λv σ H Q=>∃ a xs,v=.ref a/\ox K H a xs/\xs.length=n/\t xs σ H Q
def Wt(hc:X.calm=true)(h:BM X es t)(hn:autoParam ((oP es X.env).length=n) bv) (mM:autoParam ((oP es X.env).findIdx? (·.1)=none) bv):PG X (.Tuple es k pos) (cl' X.K n t):=by
 intro pins s σ H v u Q I r hw;obtain⟨a,xs,e1,hq,hl,hw⟩:=hw;subst e1;cases r;obtain⟨its,rv,ht,hz⟩:=I.tuple hq;refine assign_Tuple_tuple (I.ok.hd hc) ht (by simp[hn,<- hl,rv.length]) mM λh' hx=>?_;have I1:Inv X pins σ H { s with heap:=h' }:=I.kept λb o e=>hx b o (gi (eW e)) e;exact h pins _ σ H xs _ Q I1 (by simpa using rv) hw
def TB(te:TE)(g:TG):TS:=λD σ H=>te σ H λx H1=>g x σ H1 D.nx
def Wu(he:PE X e te)(hg:PG X tg g)(hs:autoParam (swapsWithSole [tg] e pos.line X.env=pure false) bv)(hw:autoParam (swappedStores [tg] e X.env=pure none) bv) (h1:autoParam ((oP [tg] X.env).map (·.2)=[assign tg X.env]) bv):PS X (.Assign [tg] e pos) (TB te g):=by
 intro pins s σ H D I h;refine wpAny_Assign_stores (dz (he pins s σ H _ I h) λv s1 dQ=>L2.g7 dQ λx H1 I1 r1 q1=>?_) hs hw;rw[h1];exact dz (hg pins s1 σ H1 x v _ I1 r1 q1) λ_ s2 q=>q
def TC(hN:X.N.Nodup)(hi:X.N[i]? = some x)(hx:Loc X.env.scope x)(he:PE X e te)(hs:autoParam (xh e (some (.Name x pos')) pos.line X.env=pure false) bv)(hf:X.fn x=true\/X.env.scope.names.lookup x=some .local:=by first|exact .inl rfl|exact .inr rfl|assumption) :
  PS X (.Assign [.Name x pos'] e pos) (TB te (Tw i)):=by
 intro pins s σ H D I h;refine wpAny_Assign_Name (dz (he pins s σ H _ I h) λv s1 dQ=>L2.g7 dQ λy H1 I1 r1 q1=>?_) hs;exact Wk I1 hN hi hx r1 (λs2 I2=>⟨_,H1,I2,q1⟩) hf
def cm'(c:TT)(tb:TS):TS:=λD σ H=>∃ W:Nat->St->Hp->Prop,(∃ m,W m σ H)/\∀ m σ H,W m σ H ->
 c σ H λb H1=>if b=true then ∃ N:St->Hp->Prop,(∀ cq H',N cq H'->∃ m',m'<m/\W m' cq H')/\tb { D with nx:=N,ct:=N,bk:=D.nx } σ H1 else D.nx σ H1
def cn'(hp:PassesOwn (aI X.prog X.w) X.A X.env X.xe)(hc:PT X c tc)(hb:mI X body tb):PS X (.While c body [] pos) (cm' tc tb):=by
 intro pins s σ H D I h;obtain⟨W,⟨m0,w0⟩,turn⟩:=h;refine wpAny_While (codeAny_whileLoop (λn s'=>∃ cq H',Inv X pins cq H' s'/\W n cq H') ?_ m0 ⟨σ,H,I,w0⟩);rintro n s1 ⟨Mb,H1,I1,w1⟩;refine FT hp (dz (hc pins s1 Mb H1 _ I1 (turn n Mb H1 w1)) λb s2 eI=>?_);obtain⟨H2,I2,q2⟩:=eI
 cases b with
 |true =>
  obtain⟨N,hN,q2⟩:=q2;refine FT hp (dz (hb pins s2 Mb H2 _ I2 q2) λf s3 q3=>?_)
  cases f with
  |next =>obtain⟨sj,H3,I3,n3⟩:=q3;obtain⟨m',hm,w3⟩:=hN sj H3 n3;exact⟨m',hm,sj,H3,I3,w3⟩
  |cont =>obtain⟨sj,H3,I3,n3⟩:=q3;obtain⟨m',hm,w3⟩:=hN sj H3 n3;exact⟨m',hm,sj,H3,I3,w3⟩
  |brk=>exact q3
  |ret v=>exact q3
 |false =>exact wpAny_execs_nil ⟨Mb,H2,I2,q2⟩
end
structure It where
 go:Nat->Hp->Prop
 qq:Nat->Hp->V->Hp->Prop
 stop:Nat->Hp->Prop
def yA(X:Cx)(pins:List (ah × Obj))(H:Hp)(b:ah):Prop :=
 H b=none/\b≠X.env.locals/\b∉X.fs/\(b∈X.ex\/X.kQ.heap.objs.size<=b)/\(∀ x c,X.env.cells.lookup x=some c->c≠b)/\∀ p∈X.pn++pins,p.1≠b
def Inv.Qs{X:Cx}(I:Inv X pins σ H s)(hb:s.heap.objs.size<=b)(hn:H' b=none):yA X pins H' b:=by
 refine⟨hn,LW (oa I.lt hb),I.bH' hb,.inr (iP I.sz hb),λx c e z=>?_,λp hp z=>?_⟩
 ·obtain⟨v,q⟩:=I.cell x c e;exact absurd (oa q.lt (by rw[z];exact hb)) (vw _)
 ·exact absurd (oa (eW (I.pin p hp).1) (by rw[z];exact hb)) (vw _)
structure Turn(P:d5)(w:eC)(K:aE)(tg:Expr)(J:It)(fp:List ah)(it:ah)(tn:Nat->df->Prop):Prop where
 mem:it∈fp
 obj:∀ i h,tn i h->∀ b∈fp,∃ o,h.get? b=some o/\∀ v,o.data≠.cell v
 keep:∀ i h h',tn i h->(∀ b∈fp,∀ o,h.get? b=some o->h'.get? b=some o)->tn i h'
 item:∀ (X:Cx),X.prog=P->X.w=w->X.K=K->X.calm=true->∀ (i:Nat) (pins:List (ah × Obj)) (s:ax) (σ:St) (H:Hp) (E:ae->ax->Prop),Inv X pins σ H s->(∀ b∈fp,yA X pins H b)->tn i s.heap->J.go i H ->
  bq (aI P w) X.A (pyNext (.ref it)) (fun r s1=>∃ u,r=some u /\
   bq (aI P w) X.A (letOwnedTupleGo tg (.ref it) u) (fun _ s2=>∃ x H',Inv X pins σ H' s2/\RelV x u/\J.qq i H x H'/\tn (i+1) s2.heap/\∀ b∈fp,H' b=none) E s1) E s
 done:∀ (X:Cx),X.prog=P->X.w=w->X.K=K->X.calm=true->∀ (i:Nat) (pins:List (ah × Obj)) (s:ax) (σ:St) (H:Hp) (E:ae->ax->Prop),Inv X pins σ H s->(∀ b∈fp,yA X pins H b)->tn i s.heap->J.stop i H ->
  bq (aI P w) X.A (pyNext (.ref it)) (fun r s1=>r=none/\Inv X pins σ H s1) E s
 self:∀ (A:e7) (i:Nat) (s:ax) (Q:ae->ax->Prop) (E:ae->ax->Prop),tn i s.heap->Q (.ref it) s->bq (aI P w) A (pyIter (.ref it)) Q E s
abbrev TI:=St->Hp->(It->Hp->Prop)->Prop
def Wv(X:Cx)(pins:List (ah × Obj))(σ:St)(tg:Expr)(R:It->Hp->Prop)(TF:ae)(s2:ax):Prop :=
 ∃ (it:ah) (fp:List ah) (tn:Nat->df->Prop) (J:It) (H':Hp),TF=.ref it/\Inv X pins σ H' s2/\Turn X.prog X.w X.K tg J fp it tn/\tn 0 s2.heap/\(∀ b∈fp,yA X pins H' b)/\R J H'
def PI(X:Cx)(tg iter:Expr)(wi:TI):Prop :=
 ∀ (pins:List (ah × Obj)) (s:ax) (σ:St) (H:Hp) (R:It->Hp->Prop),Inv X pins σ H s->wi σ H R ->
  bq (aI X.prog X.w) X.A (dn iter X.env) (λv s1=>bq (aI X.prog X.w) X.A (pyIter v) (Wv X pins σ tg R) X.xe s1) X.xe s
def Ww(ho:s.heap.get? it=some o)(hc:o.cls=.type n)(hd:o.data=.fields vs)(hn:["enumerate", "zip", "dict_itemiterator", "dict_reverseitemiterator", "odict_iterator", "itertools.zip_longest", "itertools.pairwise"].contains n=false) (hQ:Q () s):bq M A (letOwnedTupleGo tg (.ref it) u) Q E s:=by
 cases tg<;>first
  |exact bG hQ
  | (cases u<;>first
     |exact bG hQ
     | (refine aw (wpAny_load ho ?_)
        rw[hc,hd];show bq M A (if (["enumerate", "zip", "dict_itemiterator", "dict_reverseitemiterator", "odict_iterator", "itertools.zip_longest", "itertools.pairwise"].contains n && vs[0]? == some (mE _))=true then _ else _) Q E s;rw[if_neg (by intro h;rw[hn,Bool.false_and] at h;cases h)];exact bG hQ))
def Qt(K:aE)(a:ah):It :=
 ⟨λi H=>∃ xs x,fh K H a xs/\xs[i]? = some x,λi H x H'=>H'=H/\∀ xs,fh K H a xs->xs[i]? = some x,λi H=>∃ xs,fh K H a xs/\xs.length<=i⟩
def Mk(lo:Int)(n:Nat):It:=⟨λi _=>i<n,λi H x H'=>H'=H/\x=.int (lo+i),λi _=>n<=i⟩
def co'{P:d5}{K:aE}(a it:ah):Turn P w K tg (Qt K a) [it] it (λi h=>h.IsListIter it a i) where
 mem:=by simp
 obj:=λi h st b hb=>by
  have e:b=it:=by simpa using hb
  subst e;obtain⟨o,e,c,d⟩:=st;exact⟨o,e,λv z=>by rw[d] at z;cases z⟩
 keep:=λi h h' st k=>st.at λo e=>k it (by simp) o e
 item:=by intro X hP hw hK hc i pins s σ H E I hf st hg;subst hP hw hK;obtain⟨xs,x,hq,hx⟩:=hg;obtain⟨its,rv,p,hz⟩:=I.list hq;obtain⟨u,hu,ru⟩:=rv.get hx;obtain⟨f0,f1,f2,f3,f4,f5⟩:=hf it (by simp);refine wpAny_pyNext_list_item st p.isList (x:=u) (by simpa using hu) λh' av sb=>?_;have I1:Inv X pins σ H { s with heap:=h' }:=I.turned (t':=s.toks) (λb o hb e=>(sb.2 b hb).trans e) f0 f1 f3 f4 f5;obtain⟨o,e,c,d⟩:=id av;exact⟨u,rfl,Ww (s:={ s with heap:=h' }) e c d (by decide) ⟨x,H,I1,ru,⟨rfl,λys hy=>by rw[I.Wn hy hq];exact hx⟩,av,λb hb=>(hf b hb).1⟩⟩
 done:=by intro X hP hw hK hc i pins s σ H E I hf st hg;subst hP hw hK;obtain⟨xs,hq,hx⟩:=hg;obtain⟨its,rv,p,hz⟩:=I.list hq;obtain⟨f0,f1,f2,f3,f4,f5⟩:=hf it (by simp);have hl:=rv.length;exact wpAny_pyNext_list_end (I.ok.hd hc) st p.isList (by simp;lia) λh' eb=>⟨rfl,I.turned (t':=s.toks) (λb o hb e=>eb b o hb e) f0 f1 f3 f4 f5⟩
 self:=λ_ _ _ _ _ st h=>wpAny_pyIter_listiter st h
def cp'{P:d5}{K:aE}(it:ah)(lo:Int)(n:Nat):Turn P w K tg (Mk lo n) [it] it (λi h=>IsRangeIter h it (lo+(i:Nat)*1) ((n:Int)-(i:Nat)) 1) where
 mem:=by simp
 obj:=λi h st b hb=>by
  have e:b=it:=by simpa using hb
  subst e;exact⟨_,st,λv z=>by
   have z':Data.fields _=Data.cell v:=z;cases z'⟩
 keep:=λi h h' st k=>k it (by simp) _ st
 item:=by intro X hP hw hK hc i pins s σ H E I hf st hg;subst hP hw hK;obtain⟨f0,f1,f2,f3,f4,f5⟩:=hf it (by simp);have W:=Walks.range (prog:=X.prog) (w:=X.w) (I.ok.hd hc) it lo 1 n;refine W.item i s _ _ hg st λv h' tk hv av kk=>?_;obtain⟨t,rfl⟩:=hv;have I1:Inv X pins σ H { s with heap:=h',toks:=tk }:=I.turned (λb o hb e=>kk b o (by simpa using hb) e) f0 f1 f3 f4 f5;refine⟨_,rfl,Ww (s:={ s with heap:=h',toks:=tk }) (n := "range_iterator") av rfl rfl (by decide) ⟨.int (lo+i),H,I1,⟨t,?_⟩,⟨rfl,rfl⟩,av,λb hb=>(hf b hb).1⟩⟩;rw[Int.mul_one]
 done:=by intro X hP hw hK hc i pins s σ H E I hf st hg;subst hP hw hK;obtain⟨f0,f1,f2,f3,f4,f5⟩:=hf it (by simp);exact wpAny_pyNext_range_end (I.ok.hd hc) st (by have:n<=i:=hg;lia) λh' eb=>⟨rfl,I.turned (t':=s.toks) (λb o hb e=>eb b o hb e) f0 f1 f3 f4 f5⟩
 self:=λ_ _ _ _ _ st h=>wpAny_pyIter_rangeiter st h
section
variable {X:Cx}{tg:Expr}
def cq'(K:aE)(tl:TE):TI:=λσ H R=>tl σ H λx H1=>∃ a,x=.ref a/\(∃ xs,fh K H1 a xs)/\R (Qt K a) H1
def Wx(hl:PE X l tl):PI X tg l (cq' X.K tl):=by
 intro pins s σ H R I h;refine dz (hl pins s σ H _ I h) λv s1 dQ=>L2.g7 dQ λx H1 I1 r1 q1=>?_;obtain⟨a,e,⟨xs,hq⟩,q⟩:=q1;subst e;cases r1;obtain⟨its,rv,p,hz⟩:=I1.list hq;refine wpAny_pyIter_list p.isList ?_;refine⟨s1.heap.objs.size,[s1.heap.objs.size],_,_,H1,rfl,I1.kept λb o e=>gu _ e,co' a _,⟨_,kP _ rfl,rfl,rfl⟩,λb hb=>?_,q⟩;have e:b=s1.heap.objs.size:=by simpa using hb
 subst e;exact I1.Qs (cx _) (I1.b9.fresh (cx _))
def cr'{R:It->Hp->Prop}{lo hi:Int}(I:Inv X pins σ H s)(h1:-(2 ^ 62)<=lo)(h2:lo<2 ^ 62)(h3:-(2 ^ 62)<=hi)(h4:hi<2 ^ 62)(q:R (Mk lo (hi-lo).toNat) H):bq (aI X.prog X.w) X.A (pyIter (.ref s.heap.objs.size)) (Wv X pins σ tg R) E { s with heap:=s.heap.push { cls:=.type "range",data:=.fields #[.int lo t,.int hi u,.int 1 v] },toks:=tk }:=by
 refine wpAny_pyIter_range (IsRange.new ..) (small_one h1 h2 h3 h4) ?_;have I1:Inv X pins σ H { s with heap:=s.heap.push { cls:=.type "range",data:=.fields #[.int lo t,.int hi u,.int 1 v] },toks:=tk }:=I.kept λb o e=>gu _ e;refine⟨(s.heap.push { cls:=.type "range",data:=.fields #[.int lo t,.int hi u,.int 1 v] }).objs.size,[(s.heap.push { cls:=.type "range",data:=.fields #[.int lo t,.int hi u,.int 1 v] }).objs.size],_,_,H,rfl,
  I1.kept λb o e=>gu _ e,cp' _ lo (hi-lo).toNat,?_,λb hb=>?_,q⟩
 ·have e1:lo+((0:Nat):Int)*1=lo:=by simp
  have e2:(((hi-lo).toNat:Nat):Int)-((0:Nat):Int)=Builtin.Range.rangeSize lo hi 1:=by rw[rangeSize_one];split<;>lia
  rw[e1,e2];exact kP _ rfl
 ·have e:b=(s.heap.push { cls:=.type "range",data:=.fields #[.int lo t,.int hi u,.int 1 v] }).objs.size:=by simpa using hb
  subst e;exact I1.Qs (cx _) (I1.b9.fresh (cx _))
def ct'(ta:TA):TI:=λσ H R=>ta σ H λvs H1=>∃ j:Int,vs=[.int j]/\-(2 ^ 62)<=j/\j<2 ^ 62/\R (Mk 0 j.toNat) H1
def cu' (hg:Gl X "range") (hm:X.mg "range" = none) (ha:PA X [a] ta) (hs:autoParam (b4 [a] X.env=[(false,dn a X.env)]) bv):PI X tg (.Call (.Name "range" p) [a] [] pos) (ct' ta):=by
 intro pins s σ H R I h;refine Call_ (AK I hg hm boot_range (PyProof.Rows.callWith_type1 (dz (ha pos pins s σ H _ I h) λus s1 dQ=>L2.g7 dQ λvs H1 I1 r1 q1=>?_) hs rfl));obtain⟨j,e,q1,q2,q⟩:=q1;subst e
 cases r1 with
 |cons r rr =>cases rr;obtain⟨t,rfl⟩:=r;exact call_range_1 (cr' I1 (by lia) (by lia) q1 q2 (by simpa using q))
def cv'(wi:TI)(g:TG)(tb:TS):TS:=λD σ H=>wi σ H λJ H1=>∃ W:Nat->Nat->St->Hp->Prop,(∃ m,W 0 m σ H1)/\∀ i m σ H,W i m σ H -> (J.stop i H/\D.nx σ H)\/(J.go i H/\∃ N:St->Hp->Prop,(∀ cq H',N cq H'->∃ m',m'<m/\W (i+1) m' cq H')/\∀ x H',J.qq i H x H'->g x σ H' λk9 H2=>tb { D with nx:=N,ct:=N,bk:=D.nx } k9 H2)
def N9(fp:List ah)(h:df):List (ah × Obj):=fp.filterMap λb=>(h.get? b).map λo=>(b,o)
def Qu(hb:b∈fp)(e:h.get? b=some o):(b,o)∈N9 fp h:=S0.mpr ⟨b,hb,by rw[e];rfl⟩
def cw'(hp:p∈N9 fp h):p.1∈fp/\h.get? p.1=some p.2:=by
 obtain⟨b,hb,e⟩:=S0.mp hp
 cases q:h.get? b with
 |none=>rw[q] at e;cases e
 |some o =>rw[q] at e;have e':(b,o)=p:=Option.some.inj e;subst e';exact⟨hb,q⟩
def Inv.pinned(I:Inv X pins σ H s)(hf:∀ b∈fp,yA X pins H b)(ho:∀ b∈fp,∃ o,s.heap.get? b=some o/\∀ v,o.data≠.cell v):Inv X (pins++N9 fp s.heap) σ H s :=
 I.Wd λp hp=>(eR.mp hp).elim (λz=>I.pin p (fS _ z)) λz=>by obtain⟨hb,e⟩:=cw' z;obtain⟨f0,f1,f2,_⟩:=hf p.1 hb;obtain⟨o,e',d⟩:=ho p.1 hb;rw[e] at e';cases e';exact⟨e,f0,f1,f2,d⟩
def Inv.Qw(I:Inv X (pins++pl) σ H s):Inv X pins σ H s:=I.Wd λp hp=>I.pin p (fS _ (kc _ hp))
def cx'(hp:PassesOwn (aI X.prog X.w) X.A X.env X.xe)(hc:X.calm=true)(hi:PI X tg iter wi)(hg:PG X tg g)(hb:mI X body tb)(hs:∀ x,FR iter X.env x=pure x:=by intro _;rfl):PS X (.For tg iter body [] pos) (cv' wi g tb):=by
 intro pins s σ H D I h;refine wpAny_For (dz (hi pins s σ H _ I h) λv s1 h1=>dz h1 λTF s2 h2=>?_) hs;obtain⟨it,fp,tn,J,H2,e,I2,T,yB,f2,W,⟨m0,w0⟩,turn⟩:=h2;subst e
 -- what stays true of the iterator's objects through the loop
 have stat:∀ {H':Hp},(∀ b∈fp,H' b=none)->∀ b∈fp,yA X pins H' b:=λhn b hb=>⟨hn b hb,(f2 b hb).2⟩
 refine codeAny_forLoop_any (λn s'=>∃ i cq H',Inv X pins cq H' s'/\tn i s'.heap/\(∀ b∈fp,H' b=none)/\W i n cq H') ?_ m0 ⟨0,σ,H2,I2,yB,λb hb=>(f2 b hb).1,w0⟩;rintro n s3 ⟨i,sj,H3,I3,yT,Wy,w3⟩;rcases turn i n sj H3 w3 with⟨stop,qn⟩|⟨go,N,hN,step⟩
 ·refine FT hp (dz (T.done X rfl rfl rfl hc i pins s3 sj H3 X.xe I3 (stat Wy) yT stop) λr s4 eI=>?_);obtain⟨hr,I4⟩:=eI;subst hr;exact wpAny_execs_nil ⟨sj,H3,I4,qn⟩
 ·refine FT hp (dz (T.item X rfl rfl rfl hc i pins s3 sj H3 X.xe I3 (stat Wy) yT go) λr s4 eI=>?_);obtain⟨u,hr,h4⟩:=eI;subst hr;refine FT hp (dz h4 λ_ s5 eI=>?_);obtain⟨x,H5,I5,r5,y5,HG,Qx⟩:=eI;have I5':=I5.pinned (stat Qx) (T.obj _ _ HG);refine FT hp (dz (hg _ s5 sj H5 x u _ I5' r5 (step x H5 y5)) λ_ s6 eI=>?_);obtain⟨σ6,H6,I6,q6⟩:=eI;refine FT hp (dz (hb _ s6 σ6 H6 _ I6 q6) λf s7 q7=>?_);have again:∀ {AO:St} {H7:Hp},Inv X (pins++N9 fp s5.heap) AO H7 s7->N AO H7->∃ m,m<n/\∃ i cq H',Inv X pins cq H' s7/\tn i s7.heap/\(∀ b∈fp,H' b=none)/\W i m cq H':=λ{AO H7} I7 n7=>by obtain⟨m',hm,w7⟩:=hN AO H7 n7;refine⟨m',hm,i+1,AO,H7,I7.Qw,T.keep _ _ _ HG λb hb o e=>(I7.pin (b,o) (fS _ (fS _ (Qu hb e)))).1,λb hb=>?_,w7⟩;obtain⟨o,e,d⟩:=T.obj _ _ HG b hb;exact(I7.pin (b,o) (fS _ (fS _ (Qu hb e)))).2.1
  cases f with
  |next=>obtain⟨AO,H7,I7,n7⟩:=q7;exact again I7 n7
  |cont=>obtain⟨AO,H7,I7,n7⟩:=q7;exact again I7 n7
  |brk=>obtain⟨AO,H7,I7,q7⟩:=q7;exact⟨AO,H7,I7.Qw,q7⟩
  |ret v=>obtain⟨x7,AO,H7,I7,r7,q7⟩:=q7;exact⟨x7,AO,H7,I7.Qw,r7,q7⟩
end
abbrev R2:=V->V->Hp->VK->Prop
def eJ(X:Cx)(f:ae->ae->Sem ae)(r:R2):Prop :=
 ∀ (pins:List (ah × Obj)) (s:ax) (σ:St) (H:Hp) (x y:V) (v u:ae) (Q:VK),Inv X pins σ H s->RelV x v->RelV y u->r x y H Q ->
  bq (aI X.prog X.w) X.A (f v u) (EP X pins σ Q) X.xe s
def Qy(X:Cx)(f:ae->Sem ae)(r:V->Hp->VK->Prop):Prop :=
 ∀ (pins:List (ah × Obj)) (s:ax) (σ:St) (H:Hp) (x:V) (v:ae) (Q:VK),Inv X pins σ H s->RelV x v->r x H Q ->
  bq (aI X.prog X.w) X.A (f v) (EP X pins σ Q) X.xe s
def i3(X:Cx)(f:ae)(r:List V->Hp->VK->Prop):Prop :=
 ∀ (pins:List (ah × Obj)) (s:ax) (σ:St) (H:Hp) (xs:List V) (us:List ae) (Q:VK),Inv X pins σ H s->Vals xs us->r xs H Q ->
  bq (aI X.prog X.w) X.A (call f us) (EP X pins σ Q) X.xe s
def cA'(X:Cx)(r:V->Hp->(Bool->Hp->Prop)->Prop):Prop :=
 ∀ (pins:List (ah × Obj)) (s:ax) (σ:St) (H:Hp) (x:V) (v:ae) (Q:Bool->Hp->Prop),Inv X pins σ H s->RelV x v->r x H Q ->
  bq (aI X.prog X.w) X.A (truthy v) (TP X pins σ Q) X.xe s
def N_(r:R2)(ta tb:TE):TE:=λσ H Q=>ta σ H λx H1=>tb σ H1 λy H2=>r x y H2 Q
def Qz(r:V->Hp->VK->Prop)(ta:TE):TE:=λσ H Q=>ta σ H λx H1=>r x H1 Q
def rI(C:Int->Int->Prop)(g:Int->Int->V):R2:=λx y H Q=>∃ i j,x=.int i/\y=.int j/\C i j/\Q (g i j) H
def HK(g:Int->Int->V):R2:=λx y H Q=>∃ i j,x=.int i/\y=.int j/\Q (g i j) H
def rU(g:Int->V):V->Hp->VK->Prop:=λx H Q=>∃ i,x=.int i/\Q (g i) H
section
variable {X:Cx}{a b:Expr}{ta tb:TE}{pos:Pos}
def TH(ha:PE X a ta)(hb:PE X b tb){pins:List (ah × Obj)}{s:ax}{σ:St}{H:Hp}{R:V->V->Hp->Prop}(I:Inv X pins σ H s)(h:ta σ H λx H1=>tb σ H1 λy H2=>R x y H2) {Q:ae->ax->Prop} {f:ae->ae->Sem ae}(hf:∀ v u s2 x y H2,Inv X pins σ H2 s2->RelV x v->RelV y u->R x y H2->bq (aI X.prog X.w) X.A (f v u) Q X.xe s2) :
  bq (aI X.prog X.w) X.A (dn a X.env) (λv fN=>bq (aI X.prog X.w) X.A (dn b X.env) (λu HL=>bq (aI X.prog X.w) X.A (f v u) Q X.xe HL) X.xe fN) X.xe s:=by
 refine dz (ha pins s σ H _ I h) λv s1 dQ=>L2.g7 dQ λx H1 I1 r1 q1=>?_;refine dz (hb pins s1 σ H1 _ I1 q1) λu s2 dQ=>L2.g7 dQ λy H2 I2 r2 q2=>?_;exact hf v u s2 x y H2 I2 r1 r2 q2
def cB'{op:Operator}{r:R2}(ho:eJ X (oq op) r)(ha:PE X a ta)(hb:PE X b tb):PE X (.BinOp a op b pos) (N_ r ta tb):=by intro pins s σ H Q I h;exact wpAny_BinOp (TH ha hb I h λv u s2 x y H2 I2 rx ry q=>ho pins s2 σ H2 x y v u Q I2 rx ry q)
def cC'(ho:Qy X (unaryOp op) r)(ha:PE X a ta):PE X (.UnaryOp op a pos) (Qz r ta):=by intro pins s σ H Q I h;exact UnaryOp_ (dz (ha pins s σ H _ I h) λv s1 dQ=>L2.g7 dQ λx H1 I1 r1 q1=>ho pins s1 σ H1 x v Q I1 r1 q1)
def TJ{f:ae->ae->Sem ae}{C:Int->Int->Prop}{g:Int->Int->Int}(rule:∀ (i j:Int) (t u:Tok) (s:ax) (Q:ae->ax->Prop) (E:ae->ax->Prop),C i j->Q (.int (g i j) s.toks) { s with toks:=s.toks+1 }->bq (aI X.prog X.w) X.A (f (.int i t) (.int j u)) Q E s) :
  eJ X f (rI C λi j=>.int (g i j)):=by
 intro pins s σ H x y v u Q I rx ry h;obtain⟨i,j,rfl,rfl,hc,q⟩:=h;obtain⟨t,rfl⟩:=rx;obtain⟨t',rfl⟩:=ry;exact rule i j t t' s _ _ hc ⟨.int (g i j),H,I.tok _,⟨_,rfl⟩,q⟩
def Wz{f:ae->ae->Sem ae}{g:Int->Int->Int}(rule:∀ (i j:Int) (t u:Tok) (s:ax) (Q:ae->ax->Prop) (E:ae->ax->Prop),Q (.int (g i j) s.toks) { s with toks:=s.toks+1 }->bq (aI X.prog X.w) X.A (f (.int i t) (.int j u)) Q E s) :
  eJ X f (HK λi j=>.int (g i j)):=by
 intro pins s σ H x y v u Q I rx ry h;obtain⟨i,j,rfl,rfl,q⟩:=h;obtain⟨t,rfl⟩:=rx;obtain⟨t',rfl⟩:=ry;exact rule i j t t' s _ _ ⟨.int (g i j),H,I.tok _,⟨_,rfl⟩,q⟩
def TK{f:ae->ae->Sem ae}{g:Int->Int->Bool}(rule:∀ (i j:Int) (t u:Tok) (s:ax) (Q:ae->ax->Prop) (E:ae->ax->Prop),Q (.bool (g i j)) s->bq (aI X.prog X.w) X.A (f (.int i t) (.int j u)) Q E s) :
  eJ X f (HK λi j=>.bl (g i j)):=by
 intro pins s σ H x y v u Q I rx ry h;obtain⟨i,j,rfl,rfl,q⟩:=h;obtain⟨t,rfl⟩:=rx;obtain⟨t',rfl⟩:=ry;exact rule i j t t' s _ _ ⟨.bl (g i j),H,I,rfl,q⟩
def cD'(i j:Int):Prop:=0<j/\j<1073741824
def BO(i j:Int):Prop:=(-(2 ^ 64)<i/\i<2 ^ 64)\/(-(2 ^ 64)<j/\j<2 ^ 64)
def BO.ok(h:BO i j):IntMulOk i j:=by
 rcases h with⟨h1,h2⟩|⟨h1,h2⟩
 ·exact .of_left (intBits_le_64 h1 h2)
 ·exact .of_right (intBits_le_64 h1 h2)
def cE':eJ X (oq .Add) (HK λi j=>.int (i+j)):=Wz λ_ _ _ _ _ _ _ q=>add_int q
def cF':eJ X (oq .Sub) (HK λi j=>.int (i-j)):=Wz λ_ _ _ _ _ _ _ q=>sub_int q
def cG':eJ X (oq .Mult) (rI BO λi j=>.int (i*j)):=TJ λ_ _ _ _ _ _ _ hc q=>mul_int q hc.ok
def cH':eJ X (oq .FloorDiv) (rI cD' λi j=>.int (i / j)):=TJ λi j _ _ _ _ _ hc q=>by have h1:0<j:=hc.1;have h2:j<1073741824:=hc.2;exact floordiv_int (by lia) (by rw[Int.fdiv_eq_ediv_of_nonneg i (by lia)];exact q) (.inl (PyProof.noPylong_small (by lia)))
def cI':eJ X (oq .Mod) (rI (λ_ j=>0<j) λi j=>.int (i % j)):=TJ λi j _ _ _ _ _ hc q=>by exact mod_int' (by lia) (by rw[Int.fmod_eq_emod_of_nonneg i (by lia)];exact q)
def unI{f:ae->Sem ae}{g:Int->Int}(rule:∀ (i:Int) (t:Tok) (s:ax) (Q:ae->ax->Prop) (E:ae->ax->Prop),Q (.int (g i) s.toks) { s with toks:=s.toks+1 }->bq (aI X.prog X.w) X.A (f (.int i t)) Q E s) :
  Qy X f (rU λi=>.int (g i)):=by
 intro pins s σ H x v Q I rx h;obtain⟨i,rfl,q⟩:=h;obtain⟨t,rfl⟩:=rx;exact rule i t s _ _ ⟨.int (g i),H,I.tok _,⟨_,rfl⟩,q⟩
def cK':Qy X (unaryOp .USub) (rU λi=>.int (-i)):=unI λ_ _ _ _ _ q=>neg_int q
end
def WB:V->V->Bool
 |.non,.non=>true|.non,.int _=>true|.int _,.non=>true|.non,.bl _=>true|.bl _,.non=>true|.non,.str _=>true|.str _,.non=>true
 |.int _,.int _=>true|.bl _,.bl _=>true|.str _,.str _=>true|.tF _,.tF _=>true
 |.int _,.str _=>true|.str _,.int _=>true|.bl _,.str _=>true|.str _,.bl _=>true
 |_,_=>false
def rEq:R2:=λx y H Q=>WB x y=true/\Q (.bl (decide (x=y))) H
def rNe:R2:=λx y H Q=>WB x y=true/\Q (.bl (!decide (x=y))) H
def WC:decide (V.int i=V.int j)=(i == j):=by rw[pj];simp
def WD:decide (V.bl i=V.bl j)=(i == j):=by rw[pj];simp
def WH:decide (V.str i=V.str j)=(i == j):=by rw[pj];simp
def WK:decide (V.tF i=V.tF j)=(i.toList == j.toList):=by rw[pj];cases i;cases j;simp
section
variable {X:Cx}{a b c:Expr}{ta tb tc:TE}{pos:Pos}
def h9(I:Inv X pins σ H s)(q:Q (.bl k) H)(e:k=k'):EP X pins σ Q (.bool k') s:=by subst e;exact⟨.bl k,H,I,rfl,q⟩
def cN':eJ X (gI .Eq) rEq:=by
 intro pins s σ H x y v u Q I rx ry h;obtain⟨hs,q⟩:=h
 cases x with
 |non =>
  cases rx
  cases y with
  |non=>cases ry;exact PySem.EqNone.eq_none_none (h9 I q (by simp))
  |bl j=>cases ry;exact PySem.EqNone.eq_none_bool (h9 I q (by simp))
  |int j=>obtain⟨t',rfl⟩:=ry;exact PySem.EqNone.eq_none_int (h9 I q (by simp))
  |str j=>obtain⟨t',rfl⟩:=ry;exact PySem.EqNone.eq_none_str (h9 I q (by simp))
  |_=>exact absurd (hs) kf
 |bl i =>
  cases rx
  cases y with
  |non=>cases ry;exact PySem.EqNone.eq_bool_none (h9 I q (by simp))
  |bl j=>cases ry;exact eq_bool (h9 I q WD)
  |str j=>obtain⟨t',rfl⟩:=ry;exact PySem.EqMixed.eq_bool_str (h9 I q (by simp))
  |_=>exact absurd (hs) kf
 |int i =>
  obtain⟨t,rfl⟩:=rx
  cases y with
  |non=>cases ry;exact PySem.EqNone.eq_int_none (h9 I q (by simp))
  |int j=>obtain⟨t',rfl⟩:=ry;exact eq_int (h9 I q WC)
  |str j=>obtain⟨t',rfl⟩:=ry;exact PySem.EqMixed.eq_int_str (h9 I q (by simp))
  |_=>exact absurd (hs) kf
 |str i =>
  obtain⟨t,rfl⟩:=rx
  cases y with
  |non=>cases ry;exact PySem.EqNone.eq_str_none (h9 I q (by simp))
  |bl j=>cases ry;exact PySem.EqMixed.eq_str_bool (h9 I q (by simp))
  |int j=>obtain⟨t',rfl⟩:=ry;exact PySem.EqMixed.eq_str_int (h9 I q (by simp))
  |str j=>obtain⟨t',rfl⟩:=ry;exact eq_str (h9 I q WH)
  |_=>exact absurd (hs) kf
 |tF i =>
  obtain⟨t,rfl⟩:=rx
  cases y with
  |tF j=>obtain⟨t',rfl⟩:=ry;exact PySem.W.eq_bytes (h9 I q WK)
  |_=>exact absurd (hs) kf
 |_=>cases y<;>exact absurd (hs) kf
def cO':eJ X (gI .NotEq) rNe:=by
 intro pins s σ H x y v u Q I rx ry h;obtain⟨hs,q⟩:=h
 cases x with
 |non =>
  cases rx
  cases y with
  |non=>cases ry;exact PySem.EqNone.ne_none_none (h9 I q (by simp))
  |bl j=>cases ry;exact PySem.EqNone.ne_none_bool (h9 I q (by simp))
  |int j=>obtain⟨t',rfl⟩:=ry;exact PySem.EqNone.ne_none_int (h9 I q (by simp))
  |str j=>obtain⟨t',rfl⟩:=ry;exact PySem.EqNone.ne_none_str (h9 I q (by simp))
  |_=>exact absurd (hs) kf
 |bl i =>
  cases rx
  cases y with
  |non=>cases ry;exact PySem.EqNone.ne_bool_none (h9 I q (by simp))
  |bl j=>cases ry;exact ne_bool (h9 I q (congrArg not WD))
  |str j=>obtain⟨t',rfl⟩:=ry;exact PySem.EqMixed.ne_bool_str (h9 I q (by simp))
  |_=>exact absurd (hs) kf
 |int i =>
  obtain⟨t,rfl⟩:=rx
  cases y with
  |non=>cases ry;exact PySem.EqNone.ne_int_none (h9 I q (by simp))
  |int j=>obtain⟨t',rfl⟩:=ry;exact ne_int (h9 I q (congrArg not WC))
  |str j=>obtain⟨t',rfl⟩:=ry;exact PySem.EqMixed.ne_int_str (h9 I q (by simp))
  |_=>exact absurd (hs) kf
 |str i =>
  obtain⟨t,rfl⟩:=rx
  cases y with
  |non=>cases ry;exact PySem.EqNone.ne_str_none (h9 I q (by simp))
  |bl j=>cases ry;exact PySem.EqMixed.ne_str_bool (h9 I q (by simp))
  |int j=>obtain⟨t',rfl⟩:=ry;exact PySem.EqMixed.ne_str_int (h9 I q (by simp))
  |str j=>obtain⟨t',rfl⟩:=ry;exact ne_str (h9 I q (congrArg not WH))
  |_=>exact absurd (hs) kf
 |tF i =>
  obtain⟨t,rfl⟩:=rx
  cases y with
  |tF j=>obtain⟨t',rfl⟩:=ry;exact PySem.W.ne_bytes (h9 I q (congrArg not WK))
  |_=>exact absurd (hs) kf
 |_=>cases y<;>exact absurd (hs) kf
def cP':eJ X (gI .Lt) (HK λi j=>.bl (decide (i<j))):=TK λ_ _ _ _ _ _ _ q=>lt_int q
def cQ':eJ X (gI .LtE) (HK λi j=>.bl (decide (i<=j))):=TK λ_ _ _ _ _ _ _ q=>le_int q
def cR':eJ X (gI .Gt) (HK λi j=>.bl (decide (j<i))):=TK λ_ _ _ _ _ _ _ q=>gt_int q
def cS':eJ X (gI .Lt) (λx y H Q=>∃ i j,x=.str i/\y=.str j/\Q (.bl (decide (i.cps.toList<j.cps.toList))) H):=by intro pins s σ H x y v u Q I rx ry h;obtain⟨i,j,rfl,rfl,q⟩:=h;obtain⟨t,rfl⟩:=rx;obtain⟨t',rfl⟩:=ry;exact lt_str (h9 I q rfl)
def cT':eJ X (gI .In) (λx y H Q=>∃ i j,x=.str i/\y=.str j/\Q (.bl (!(Builtin.Str.occurrences j i 0 j.length 1).isEmpty)) H):=by intro pins s σ H x y v u Q I rx ry h;obtain⟨i,j,rfl,rfl,q⟩:=h;obtain⟨t,rfl⟩:=rx;obtain⟨t',rfl⟩:=ry;exact in_str (h9 I q rfl)
def WL:eJ X (gI .IsNot) (λx y H Q=>y=.non/\Q (.bl (!decide (x=.non))) H):=by
 intro pins s σ H x y v u Q I rx ry h;obtain⟨rfl,q⟩:=h;cases ry;refine isnot_none_gen (h9 I q ?_);cases x<;>first
  | (cases rx;rfl)
  | (obtain⟨t,rfl⟩:=rx;rfl)
def cU':eJ X (gI .NotIn) (λx y H Q=>∃ i j,x=.str i/\y=.str j/\Q (.bl (!(!(Builtin.Str.occurrences j i 0 j.length 1).isEmpty))) H):=by intro pins s σ H x y v u Q I rx ry h;obtain⟨i,j,rfl,rfl,q⟩:=h;obtain⟨t,rfl⟩:=rx;obtain⟨t',rfl⟩:=ry;exact notIn_str (h9 I q rfl)
def eJ.or(h:eJ X f r)(h':eJ X f r'):eJ X f (λx y H Q=>r x y H Q\/r' x y H Q):=by
 intro pins s σ H x y v u Q I rx ry q;rcases q with q|q
 ·exact h pins s σ H x y v u Q I rx ry q
 ·exact h' pins s σ H x y v u Q I rx ry q
def WM(b:Expr)(h:op≠.In:=by decide)(h2:op≠.NotIn:=by decide):LB op b=false:=by
 have e1:(op == CmpOp.In)=false:=by cases op<;>first|rfl|exact absurd rfl h
 have e2:(op == CmpOp.NotIn)=false:=by cases op<;>first|rfl|exact absurd rfl h2
 cases b<;>simp[LB,e1,e2]
def cV'{op:CmpOp}{r:R2}(ho:eJ X (gI op) r)(ha:PE X a ta)(hb:PE X b tb)(hm:LB op b=false):PE X (.Compare a [op] [b] pos) (N_ r ta tb):=by intro pins s σ H Q I h;exact wpAny_Compare1 (TH ha hb I h λv u s2 x y H2 I2 rx ry q=>ho pins s2 σ H2 x y v u Q I2 rx ry q) hm
def TL(t:TE):TT:=λσ H Q=>t σ H λx H'=>∃ k,x=.bl k/\Q k H'
def cW'(ho:eJ X (gI op) r)(ha:PE X a ta)(hb:PE X b tb)(hm:LB op b=false):PT X (.Compare a [op] [b] pos) (TL (N_ r ta tb)):=by
 intro pins s σ H Q I h;refine wpAny_isTrue_Compare1 (dz (ha pins s σ H _ I h) λv s1 dQ=>L2.g7 dQ λx H1 I1 r1 q1=>dz (hb pins s1 σ H1 _ I1 q1) λu s2 dQ=>L2.g7 dQ λy H2 I2 r2 q2 =>
  dz (ho pins s2 σ H2 x y v u _ I2 r1 r2 q2) λc s3 ⟨z,H3,I3,r3,k,e,q3⟩=>?_) hm
 subst e;cases r3;exact FP ⟨H3,I3,q3⟩
def WN(r r':R2)(ta tb tc:TE):TE:=λσ H Q=>ta σ H λx H1=>tb σ H1 λy H2=>r x y H2 λz H3=>∃ k,z=.bl k /\ (if k=true then tc σ H3 λw' H4=>r' y w' H4 Q else Q (.bl false) H3)
def cX'(ho:eJ X (gI op) r)(og:eJ X (gI op') r')(ha:PE X a ta)(hb:PE X b tb)(hc:PE X c tc)(hm:lastMarks [op,op'] [b,c]=false:=by with_unfolding_all rfl):PT X (.Compare a [op,op'] [b,c] pos) (TL (WN r r' ta tb tc)):=by
 intro pins s σ H Q I h;refine isTrue_chain (dz (ha pins s σ H _ I h) λv s1 dQ=>L2.g7 dQ λx H1 I1 r1 q1=>test_link (dz (hb pins s1 σ H1 _ I1 q1) λu s2 dQ=>L2.g7 dQ λy H2 I2 r2 q2 =>
  dz (ho pins s2 σ H2 x y v u _ I2 r1 r2 q2) λd s3 ⟨z,H3,I3,r3,k,e,q3⟩=>?_)) hm
 subst e;cases r3;refine FP ?_
 cases k with
 |false =>obtain⟨k',e',q'⟩:=q3;cases e';exact ite_ff ⟨H3,I3,q'⟩
 |true =>refine ite_tt (test_last (dz (hc pins s3 σ H3 _ I3 q3) λw' s4 ⟨z',H4,I4,r4,q4⟩=>dz (og pins s4 σ H4 y z' u w' _ I4 r2 r4 q4) λd' s5 eI=>?_));obtain⟨z2,H5,I5,r5,k2,e2,q5⟩:=eI;subst e2;cases r5;exact FP ⟨H5,I5,q5⟩
def TN(K:aE)(x:V)(H:Hp)(k:Bool):Prop :=
 match x with
 |.non=>k=false
 |.bl b=>k=b
 |.int i=>k=(i != 0)
 |.str y=>y.length<=bX/\k=((y.length:Int) != 0)
 |.tF y=>y.size<=bX/\k=((y.size:Int) != 0)
 |.ref p=>(∃ xs,fh K H p xs/\k = !xs.isEmpty)\/(∃ xs,ox K H p xs/\k = !xs.isEmpty)\/∃ kvs,H p=some (.dK kvs)/\k = !kvs.isEmpty
 |_=>False
def cY'{κ:Type}{kvs:List (κ × V)}{vs:List (κ × ae)}(r:KV kvs vs):(!vs.isEmpty) = !kvs.isEmpty:=by cases r<;>rfl
def WQ(r:Vals xs its):(!its.toArray.isEmpty) = !xs.isEmpty:=by cases r<;>simp
def TQ:(bX:Nat)<2 ^ 63:=by rw[j3];decide
def cZ':cA' X (λx H Q=>∃ k,TN X.K x H k/\Q k H):=by
 intro pins s σ H x v Q I rx h;obtain⟨k,e,q⟩:=h;have hs:bX=16777216:=j3
 cases x with
 |non =>cases rx;have e':k=false:=e;subst e';exact truthy_none ⟨H,I,q⟩
 |bl b =>cases rx;have e':k=b:=e;subst e';exact FP ⟨H,I,q⟩
 |int i =>obtain⟨t,rfl⟩:=rx;have e':k=(i != 0):=e;subst e';exact PySem.P.truthy_int ⟨H,I,q⟩
 |str y =>obtain⟨t,rfl⟩:=rx;obtain⟨hy,e'⟩:y.length<=bX/\k=((y.length:Int) != 0):=e;subst e';exact PySem.P.truthy_str (by lia) ⟨H,I.tok _,q⟩
 |tF y =>obtain⟨t,rfl⟩:=rx;obtain⟨hy,e'⟩:y.size<=bX/\k=((y.size:Int) != 0):=e;subst e';exact PySem.W.truthy_bytes (by lia) ⟨H,I.tok _,q⟩
 |ref p =>
  cases rx;have e':(∃ xs,fh X.K H p xs/\k = !xs.isEmpty)\/(∃ xs,ox X.K H p xs/\k = !xs.isEmpty)\/∃ kvs,H p=some (.dK kvs)/\k = !kvs.isEmpty:=e;rcases e' with⟨xs,hx,e'⟩|⟨xs,hx,e'⟩|⟨kvs,hx,e'⟩
  ·subst e';obtain⟨its,r,pl,hz⟩:=I.list hx;have hlen:=r.length;exact wpAny_truthy_list pl.isList (by simp only[iF];lia) ⟨H,I.tok _,by rw[WQ r];exact q⟩
  ·subst e';obtain⟨its,r,pl,hz⟩:=I.tuple hx;have hlen:=r.length;exact truthy_tuple pl (by simp only[iF];lia) ⟨H,I.tok _,by rw[WQ r];exact q⟩
  ·subst e';obtain⟨hz,hS,vs,r,m⟩:kvs.length<=bX/\(p == ti)=false/\∃ vs,KV kvs vs/\s.heap.DictOf (kg X.prog X.w) p vs:=I.b9 p _ hx;have hlen:kvs.length=vs.length:=Paired.length r;exact wpAny_truthy_dict hS m (by lia) ⟨H,I.tok _,by rw[cY' r];exact q⟩
 |_=>exact(e).elim
def da'(ha:PE X a ta)(he:∀ whole,isTrue a X.env whole=(do let v <- whole;standAt a.pos;holding [v] (truthy v))) :
  PT X a (λσ H Q=>ta σ H λx H'=>∃ k,TN X.K x H' k/\Q k H'):=by
 intro pins s σ H Q I h;exact isTrue_plain (dz (ha pins s σ H _ I h) λv s1 dQ=>L2.g7 dQ λx H1 I1 r1 q1=>cZ' pins s1 σ H1 x v Q I1 r1 q1) (he _)
def db':eJ X (oq .Add) (λx y H Q=>∃ i j,x=.str i/\y=.str j/\i.length+j.length<=bX/\Q (.str (i++j)) H):=by intro pins s σ H x y v u Q I rx ry h;obtain⟨i,j,rfl,rfl,hz,q⟩:=h;obtain⟨t,rfl⟩:=rx;obtain⟨t',rfl⟩:=ry;exact add_str (λt' tk=>⟨.str (i++j),H,I.tok _,⟨_,rfl⟩,q⟩) hz
def vals1(r:Vals [x] us):∃ u,us=[u]/\RelV x u:=by
 cases r with
 |cons r1 r2=>cases r2;exact⟨_,rfl,r1⟩
def vals2(r:Vals [x,y] us):∃ u w',us=[u,w']/\RelV x u/\RelV y w':=by
 cases r with
 |cons r1 r2 =>
  cases r2 with
  |cons r3 r4=>cases r4;exact⟨_,_,rfl,r1,r3⟩
def dc' (hc:X.calm=true):i3 X (.builtin "min") (λxs H Q=>∃ i j,xs=[.int i,.int j]/\Q (.int (if j<i then j else i)) H):=by
 intro pins s σ H xs us Q I r h;obtain⟨i,j,rfl,q⟩:=h;obtain⟨u,w',rfl,⟨t,rfl⟩,⟨t',rfl⟩⟩:=vals2 r;refine min_two_ints (I.ok.hd hc) λh' tk k=>⟨_,H,I.kept k,?_,q⟩
 by_cases hj:j<i
 ·rw[if_pos hj,if_pos hj];exact⟨_,rfl⟩
 ·rw[if_neg hj,if_neg hj];exact⟨_,rfl⟩
def de':i3 X (.type "int") (λxs H Q=>(∃ i,xs=[.int i]/\Q (.int i) H)\/∃ k,xs=[.bl k]/\Q (.int (if k then 1 else 0)) H):=by
 intro pins s σ H xs us Q I r h;rcases h with⟨i,rfl,q⟩|⟨k,rfl,q⟩
 ·obtain⟨u,rfl,t,rfl⟩:=vals1 r;exact call_int_int ⟨.int i,H,I,⟨_,rfl⟩,q⟩
 ·obtain⟨u,rfl,r1⟩:=vals1 r;cases r1;exact call_int_bool ⟨.int (if k then 1 else 0),H,I.tok _,⟨_,rfl⟩,q⟩
def df'(K:aE)(x:V)(H:Hp)(n:Nat):Prop :=
 match x with
 |.str y=>y.length<=bX/\n=y.length
 |.tF y=>y.size<=bX/\n=y.size
 |.ref p=>(∃ xs,fh K H p xs/\n=xs.length)\/∃ xs,ox K H p xs/\n=xs.length
 |_=>False
def TR:i3 X (.builtin "len") (λxs H Q=>∃ x n,xs=[x]/\df' X.K x H n/\Q (.int n) H):=by
 intro pins s σ H xs us Q I r h;obtain⟨x,n,rfl,e,q⟩:=h;obtain⟨u,rfl,rx⟩:=vals1 r;have hs:bX=16777216:=j3
 cases x with
 |str y =>obtain⟨t,rfl⟩:=rx;obtain⟨hy,e'⟩:y.length<=bX/\n=y.length:=e;subst e';exact len_str (by lia) ⟨.int _,H,I.tok _,⟨_,rfl⟩,q⟩
 |tF y =>obtain⟨t,rfl⟩:=rx;obtain⟨hy,e'⟩:y.size<=bX/\n=y.size:=e;subst e';exact PySem.W.len_bytes (by lia) ⟨.int _,H,I.tok _,⟨_,rfl⟩,q⟩
 |ref p =>
  cases rx;have e':(∃ xs,fh X.K H p xs/\n=xs.length)\/∃ xs,ox X.K H p xs/\n=xs.length:=e;rcases e' with⟨xs,hx,e'⟩|⟨xs,hx,e'⟩
  ·subst e';obtain⟨its,r',pl,hz⟩:=I.list hx;have hlen:=r'.length;exact Calls.call_len_list pl.isList (by simp only[iF];lia) ⟨.int xs.length,H,I.tok _,⟨_,by simp only[iF];rw[hlen]⟩,q⟩
  ·subst e';obtain⟨its,r',pl,hz⟩:=I.tuple hx;have hlen:=r'.length;exact len_tuple pl (by simp only[iF];lia) ⟨.int xs.length,H,I.tok _,⟨_,by simp only[iF];rw[hlen]⟩,q⟩
 |_=>exact(e).elim
end
structure TV(h:df)(x dx C:ah)(mA:Str->Option ae):Prop where
 obj:h.get? x=some (Sx C dx)
 ns:h.Ns1 dx mA
 ne:dx≠x
def lookIn_ns{h:df}{dx:ah}{mA:Str->Option ae}(n:h.Ns1 dx mA):∃ od,h.get? dx=some od/\∀ name,PySem.W.lookIn name od=some (mA name):=by
 obtain⟨o,es,ep,ho,hd,hk,_,hm⟩:=n;refine⟨o,ho,λname=>?_⟩;have e:=hm name;unfold nsFind findBy at e;rw[<- Array.find?_toList] at e;unfold PySem.W.lookIn;rw[hd];dsimp only;split
 ·rename_i y q;rw[q] at e;exact congrArg some e
 ·rename_i q;rw[q] at e;have a:es.toList.any (·.refKey)=false:=by rw[List.any_eq_false];intro y hy;obtain⟨z,t,dg'⟩:=hk y (Array.mem_toList_iff.mp hy);simp[DictEntry.refKey,dg']
  have a':¬ es.toList.any (·.refKey)=true:=by rw[a];exact kf
  rw[if_neg a'];exact congrArg some e
def TV.look(I:TV h x dx C mA):∃ od,PySem.W.InstAt h x (Sx C dx) C (some od)/\∀ name,PySem.W.lookIn name od=some (mA name) :=
 let ⟨od,ho,hl⟩:=lookIn_ns I.ns
 ⟨od,⟨I.obj,rfl,rfl,ho⟩,hl⟩
def xo.some_of(r:xo (some v) o):∃ u,o=some u/\RelV v u:=by
 cases o with
 |none=>exact(r).elim
 |some u=>exact⟨u,rfl,r⟩
section
variable {P:d5}{w:eC}{H:Hp}{h:df}{a C dx:ah}{fs:List (Str × V)}
def QB(b9:iX P w H h)(e:H a=some (.ins C dx fs)):∃ mA,TV h a dx C mA/\(∀ f,xo (fs.lookup f) (mA f))/\PySem.Within mA (fs.map (·.1))/\fs.length<=1000/\H dx=some (.own a):=by
 obtain⟨d,z,ne,ob,mA,n,r,q⟩:=(b9 a _ e)
 exact⟨mA,⟨ob,n,ne⟩,r,q,z,d⟩
end
structure TX(K:aE)(C:ah):Prop where
 pg:PySem.W.plainGet K C Str.empty=true
 hd:PySem.W.hasDictIn K C=true
 po:PySem.W.plainOver K C=true
 sa:PySem.W.findIn K (.ref C) "__setattr__" = some (some (.builtin "object.__setattr__"))
def TX.get{K:aE}(c:TX K C)(f:Str):PySem.W.plainGet K C f=true:=c.pg
section
variable {X:Cx}{pins:List (ah × Obj)}{σ:St}{H:Hp}{s:ax}{A:e7}{E:ae->ax->Prop}{Q:ae->ax->Prop}{c:ae}{b:Bool}
inductive y2(K:aE)(H:Hp):V->ae->Prop where
 |non:y2 K H .non (.type "NoneType")
 |bl (x:Bool):y2 K H (.bl x) (.type "bool")
 |int (i:Int):y2 K H (.int i) (.type "int")
 |str (x:Str):y2 K H (.str x) (.type "str")
 |DH (x:UInt64):y2 K H (.DH x) (.type "float")
 |lst {a:ah} {xs:List V} (e:H a=some (.lst xs)):y2 K H (.ref a) (.type "list")
 |pz {a:ah} {o:Obj} {xs:List V} (e:H a=some (.pz o (.lst xs))):y2 K H (.ref a) (.type "list")
 |tup {a:ah} {xs:List V} (e:H a=some (.tup xs)):y2 K H (.ref a) (.type "tuple")
 |dK {a:ah} {kvs:List (Key × V)} (e:H a=some (.dK kvs)):y2 K H (.ref a) (.type "dict")
 |dT {a:ah} {kvs:List (List Key × V)} (e:H a=some (.dT kvs)):y2 K H (.ref a) (.type "dict")
 |ins {a C dx:ah} {fs:List (Str × V)} (e:H a=some (.ins C dx fs)) (cl:TX K C) (ha:PySem.W.findIn K (.ref C) "__class__" = some (some (.builtin "object.__class__")))
   (hn:PySem.W.specialIn K (.builtin "object.__class__") "__get__" = some (some (.builtin "getset_descriptor.__get__"))) (WR:PySem.W.takesIn K (.builtin "object.__class__")=some true)
   (hm:PySem.W.mroIn K C (.type "object")=some true):y2 K H (.ref a) (.ref C)
def Oa(I:Inv X pins σ H s)(rx:RelV x u)(ty:y2 X.K H x t)(e:PySem.W.kitOne X.K t c=some b)(h:∀ tk,Q (.bool b) { s with toks:=tk }) :
  bq (aI X.prog X.w) A (call (.builtin "isinstance") [u,c]) Q E s:=by
 cases ty with
 |non=>cases (show u=Value.none from rx);exact vn PySem.W.kitx_none I.mn True.intro e (λz=>nomatch z) h
 |bl y=>cases (show u=Value.bool y from rx);exact vn PySem.W.kitx_bool I.mn True.intro e (λz=>nomatch z) h
 |int i=>obtain⟨t,q⟩:=(rx);cases q;exact vn PySem.W.kitx_int I.mn True.intro e (λz=>nomatch z) h
 |str y=>obtain⟨t,q⟩:=(show ∃ t,u=Value.str y t from rx);cases q;exact vn PySem.W.kitx_str I.mn True.intro e (λz=>nomatch z) h
 |DH y=>obtain⟨t,q⟩:=(rx);cases q;exact vn PySem.W.kitx_float I.mn True.intro e (λz=>nomatch z) h
 |@lst a xs ea =>
  cases (show u=Value.ref a from rx);obtain⟨_,_,n,_,h1⟩:=(I.b9 a _ ea)
  exact vn Sw I.mn ⟨_,h1,rfl⟩ e (λz=>nomatch z) h
 |@pz a ob xs ea =>
  cases (show u=Value.ref a from rx);obtain⟨_,_,_,n,_,h1⟩:=(I.b9 a _ ea)
  exact vn Sw I.mn ⟨_,h1,rfl⟩ e (λz=>nomatch z) h
 |@tup a xs ea =>
  cases (show u=Value.ref a from rx);obtain⟨_,_,_,p⟩:=(I.b9 a _ ea)
  obtain⟨o,h1,h2,_⟩:=p;exact vn PySem.W.kitx_tuple I.mn ⟨o,h1,h2⟩ e (λz=>nomatch z) h
 |@dK a kvs ea =>
  cases (show u=Value.ref a from rx);obtain⟨_,_,vs,_,p⟩:=(I.b9 a _ ea)
  obtain⟨o,es,ep,h1,h2,_⟩:=p;exact vn PH I.mn ⟨o,h1,h2.1⟩ e (λz=>nomatch z) h
 |@dT a kvs ea =>
  cases (show u=Value.ref a from rx);obtain⟨_,_,xs,_,o,es,ep,h1,h2,_⟩:=(I.b9 a _ ea)
  exact vn PH I.mn ⟨o,h1,h2.1⟩ e (λz=>nomatch z) h
 |@ins a C dx fs ea cl ha hn WR hm =>cases (show u=Value.ref a from rx);obtain⟨mA,O,_⟩:=QB I.b9 ea;obtain⟨od,J,_⟩:=O.look;exact vn (PySem.W.kitx_own (cl.get _) cl.hd ha hn WR hm) I.mn J e (λz=>nomatch z) h
end
structure mN(k:Nat)(A:e7):Prop where
 hd:A.handled=none
 dp:A.depth+3*k+5<recursionLimit
 un:A.units+16*k+200<e9
def mN.mono(r:mN k A)(h:j<=k):mN j A:=⟨r.hd,by have:=r.dp;lia,by have:=r.un;lia⟩
def mN.deeper(r:mN (k+1) A)(env:Env):mN k (A.deeper env) :=
 ⟨r.hd,by have:=r.dp;show A.depth+1+3*k+5<_;lia,by have:=r.un;show A.units+3+16*k+200<_;lia⟩
def mN.depth(r:mN k A):A.depth<recursionLimit:=by have:=r.dp;lia
def mN.units(r:mN k A):A.units+64<e9:=by have:=r.un;lia
def WU:TA:=λ_ H Q=>Q [] H
def WV(ta:TE)(tr:TA):TA:=λσ H Q=>ta σ H λx H1=>tr σ H1 λxs H2=>Q (x :: xs) H2
section
variable {X:Cx}{e:Expr}{es:List Expr}{te:TE}{t:TA}{pos:Pos}
def vE:PA X [] WU:=λ_ _ _ _ H Q I h=>Calls.spliced_nil ⟨[],H,I,.nil,h⟩
def qA(ha:PE X e te)(hr:PA X es t)(hs:autoParam (b4 (e :: es) X.env=(false,dn e X.env) :: b4 es X.env) bv):PA X (e :: es) (WV te t):=by intro pos pins s σ H Q I h;rw[hs];refine Calls.spliced_cons (dz (ha pins s σ H _ I h) λu s1 dQ=>L2.g7 dQ λx H1 I1 r1 q1=>?_);exact dz (hr pos pins s1 σ H1 _ I1 q1) λus s2 dQ=>L2.g7 dQ λxs H2 I2 r2 q2=>⟨x :: xs,H2,I2,.cons r1 r2,q2⟩
def dh'(t:TA):TE:=λσ H Q=>t σ H λxs H1=>xs.length<=bX/\∀ p,H1 p=none->Q (.ref p) (upd H1 p (.tup xs))
def di'(t:TA):TE:=λσ H Q=>t σ H λxs H1=>xs.length<=bX/\∀ p,H1 p=none->Q (.ref p) (upd H1 p (.lst xs))
def WW{x1}(h:PA X es t):PE X (.Tuple es x1 pos) (dh' t):=by intro pins s σ H Q I hq;refine wpAny_Tuple_spliced (dz (h pos pins s σ H _ I hq) λus s1 ⟨xs,H1,I1,r,z,q⟩=>⟨by rw[<- r.length];exact z,?_⟩);have hf:H1 s1.heap.objs.size=none:=I1.b9.fresh (cx _);refine⟨.ref s1.heap.objs.size,upd H1 s1.heap.objs.size (.tup xs),I1.laid (λb u e=>gu _ e) (cx _) ?_,rfl,q _ hf⟩;exact⟨z,us,r,⟨_,kP _ rfl,rfl,_,rfl⟩⟩
def dk'(h:PA X es t):PE X (.List es pos) (di' t):=by intro pins s σ H Q I hq;refine wpAny_List_spliced (dz (h pos pins s σ H _ I hq) λus s1 ⟨xs,H1,I1,r,z,q⟩=>⟨by rw[<- r.length];exact z,?_⟩);have hf:H1 s1.heap.objs.size=none:=I1.b9.fresh (cx _);refine⟨.ref s1.heap.objs.size,upd H1 s1.heap.objs.size (.lst xs),I1.laid (λb u e=>gu _ e) (cx _) ?_,rfl,q _ hf⟩;exact⟨z,us,0,r,kP _ rfl⟩
end
abbrev Sp:=List V->Hp->VK->XK->Prop
abbrev EX:=List Env->Hp->ax->XK->ae->ax->Prop
structure QC(P:d5)(w:eC)(K:aE)(mg:Str->Option ae)(base:df)(A:e7)(outer:List Env)(s:ax)(H:Hp):Prop where
 frames:A.frames=some outer
 mod:Mod K mg base
 bs:∀ b o,base.get? b=some o->s.heap.get? b=some o/\H b=none
 EK:base.objs.size<=s.heap.objs.size
 AH:s.heap.FunFrames base outer
 L7:∀ b∈AG outer,H b=none
 b9:iX P w H s.heap
 bare:AllBare s.gens
def CE(outer:List Env)(P:d5)(w:eC)(H:Hp)(s:ax)(Q:VK)(u:ae)(s':ax):Prop :=
 ∃ v H',s'.os=s.os/\AllBare s'.gens/\Un (AG outer) [] H H' s.heap s'.heap/\iX P w H' s'.heap/\RelV v u/\Q v H'
def CR(CX:EX)(outer:List Env)(P:d5)(w:eC)(H:Hp)(s:ax)(Q:VK)(E:XK)(r:Result)(s':ax):Prop :=
 match r with
 |.ok (.ret u)=>CE outer P w H s Q u s'
 |.ok _=>False
 |.error e=>CX outer H s E e s'
structure y3(P:d5)(w:eC)(K:aE)(mg:Str->Option ae)(base:df)(CX:EX)(k:Nat)(f:ah)(fd:FuncData)(ps:List Str)(sp:Sp):Prop where
 len:∀ vs H Q E,sp vs H Q E->vs.length=ps.length
 run:∀ (A:e7) (outer:List Env) (s:ax) (H:Hp) (args:Args) (us:List ae) (vs:List V) (Q:VK) (E:XK),mN k A->QC P w K mg base A outer s H->BindsTo s fd args (ps.zip us)->Vals vs us->sp vs H Q E ->
  codeAny (aI P w) A (.call (.ref f) args) (CR CX outer P w H s Q E) s
section
variable {X:Cx}{pins:List (ah × Obj)}{σ:St}{H:Hp}{s s':ax}
def Inv.dl'(I:Inv X pins σ H s):QC X.prog X.w X.K X.mg X.base X.A X.stack s H :=
 ⟨I.ok.frames,I.ok.mod,I.bs,iP I.ok.EK I.sz,I.stack,I.Wb,I.b9,I.bare⟩
def Inv.after(I:Inv X pins σ H s)(h:CE X.stack X.prog X.w H s Q u s'):EP X pins σ Q u s':=by obtain⟨v,H',os,bare,un,b9,r,q⟩:=h;obtain⟨hh,g,d,t,os'⟩:=s';obtain rfl:os'=s.os:=os;exact⟨v,H',I.call un b9 bare (λb z=>absurd z (by simp)),r,q⟩
end
def TY(sp:Sp)(EZ:List V)(E:XK)(t:TA):TE:=λσ H Q=>t σ H λvs H1=>sp (vs++EZ) H1 Q E
def Binds(K:aE)(fd:FuncData)(ps:List Str)(ds:List ae):Prop :=
 ∀ (s:ax) (us:List ae),K.In s.heap->(us++ds).length=ps.length->BindsTo s fd ⟨us,[]⟩ (ps.zip (us++ds))
def Binds.all{K:aE}{ps:List Str}(h:∀ us:List ae,us.length=ps.length->bindArgs fd ⟨us,[]⟩=pure (ps.zip us)):Binds K fd ps []:=λs us _ hl=>by rw[vv] at hl ⊢;exact .of_eq (h us hl)
def Passes(CX:EX)(X:Cx)(E:XK):Prop:=∀ (pins:List (ah × Obj)) (σ:St) (H:Hp) (s:ax) (e:ae) (s':ax),Inv X pins σ H s->CX X.stack H s E e s'->X.xe e s'
section
variable {X:Cx}{CX:EX}{k:Nat}{f:ah}{fd:FuncData}{ps:List Str}{sp:Sp}{EZ:List V}{ds:List ae}{E:XK}{x:Str}{p pos:Pos}{e:Expr}{es:List Expr}{t:TA}
def dn'(F:y3 X.prog X.w X.K X.mg X.base CX k f fd ps sp)(hr:mN k X.A)(hb:Binds X.K fd ps ds)(hd:Vals EZ ds)(hx:Passes CX X E)(I:Inv X pins σ H s) (r:Vals vs us) (h:sp (vs++EZ) H Q E):bq (aI X.prog X.w) X.A (call (.ref f) us) (EP X pins σ Q) X.xe s:=by
 have r2:Vals (vs++EZ) (us++ds):=r.append hd;have hl:(us++ds).length=ps.length:=by rw[<- r2.length];exact F.len _ _ _ _ h
 refine wpAny_call (codeAny_mono (F.run X.A X.stack s H ⟨us,[]⟩ (us++ds) (vs++EZ) Q E hr I.dl' (hb s us I.mn hl) r2 h) λr s' hq=>?_)
 cases r with
 |error e=>exact hx pins σ H s e s' I hq
 |ok fl =>
  cases fl with
  |ret u=>exact I.after hq
  |next=>exact False.elim hq
  |brk=>exact False.elim hq
  |cont=>exact False.elim hq
def dq'(F:y3 X.prog X.w X.K X.mg X.base CX k f fd ps sp)(hr:mN k X.A)(hg:Gl X x)(hm:X.mg x=some (.ref f))(hk:FV X.K (.ref f)=true)(hb:Binds X.K fd ps ds)(hd:Vals EZ ds)(hx:Passes CX X E)(ha:PA X (e :: es) t) (tJ:(x == ("__debug__" : Str))=false:=by decide) (he:autoParam (b4 (e :: es) X.env=(false,dn e X.env) :: b4 es X.env) bv) (oy:autoParam ((kA pos (b4 es X.env)).any (·.1)=false) bv) :
  PE X (.Call (.Name x p) (e :: es) [] pos) (TY sp EZ E t):=by
 intro pins s σ H Q I h;refine CF (bQ' I hg hm ?_ tJ);refine PySem.W.callWith_K I.ok.mod.yn hk (dz (ha pos pins s σ H _ I h) λus s1 dQ=>L2.g7 dQ λvs H1 I1 r q=>⟨I1.mn,?_⟩) he oy;exact dn' F hr hb hd hx I1 r q
end
structure Ob(N P:List Str)(sc:Scope):Prop where
 kind:sc.kind=.function
 co:sc.isCoroutine=false
 gen:sc.isGenerator=false
 nd:N.Nodup
 pre:N.take P.length=P
 par:∀ x∈P,sc.names.lookup x=some .local\/sc.names.lookup x=some .cell
 dr':∀ y∈sc.names,y.2≠.free
theorem WX{ft:Str->Option zS}:∀ {binds:List (Str × ae)} {m:Str->Option ae},(∀ v,(x,v)∉binds)->bindL ft binds m x=m x
 |[],_,_=>rfl
 | (n,v) :: r,m,h=>by
  unfold bindL;rw[WX λw hw=>h w (dr _ hw)];split
  ·have:x≠n:=by rintro rfl;exact h v dk
   simp[this]
  ·rfl
theorem WY{ft:Str->Option zS}:∀ {binds:List (Str × ae)} {m:Str->Option ae},(∀ v,(x,v)∉binds)->bindC ft binds m x=m x
 |[],_,_=>rfl
 | (n,v) :: r,m,h=>by
  unfold bindC;rw[WY λw hw=>h w (dr _ hw)];split
  ·rfl
  ·have:x≠n:=by rintro rfl;exact h v dk
   simp[this]
def WZ{ft:Str->Option zS}:∀ {P:List Str} {vs:List ae} {i:Nat} {m:Str->Option ae},P.Nodup->P[i]? = some x->vs[i]? = some v->ft x=some .local ->
  bindL ft (P.zip vs) m x=some v
 |[],_,_,_,_,h,_,_=>by simp at h
 |_ :: _,[],_,_,_,_,h,_=>by simp at h
 |p :: P,w :: vs,0,m,nd,h1,h2,hk=>by simp at h1 h2;subst h1;subst h2;show bindL ft ((p,w) :: P.zip vs) m p=_;unfold bindL;rw[WX λv hv=>(kN.mp nd).1 (List.of_mem_zip hv).1,if_pos hk];simp
 |p :: P,w :: vs,i+1,m,nd,h1,h2,hk=>by unfold bindL;exact WZ (kN.mp nd).2 (by simpa using h1) (by simpa using h2) hk
def W0{ft:Str->Option zS}:∀ {P:List Str} {vs:List ae} {i:Nat} {m:Str->Option ae},P.Nodup->P[i]? = some x->vs[i]? = some v->ft x≠some .local ->
  bindC ft (P.zip vs) m x=some v
 |[],_,_,_,_,h,_,_=>by simp at h
 |_ :: _,[],_,_,_,_,h,_=>by simp at h
 |p :: P,w :: vs,0,m,nd,h1,h2,hk=>by simp at h1 h2;subst h1;subst h2;show bindC ft ((p,w) :: P.zip vs) m p=_;unfold bindC;rw[WY λv hv=>(kN.mp nd).1 (List.of_mem_zip hv).1,if_neg hk];simp
 |p :: P,w :: vs,i+1,m,nd,h1,h2,hk=>by unfold bindC;exact W0 (kN.mp nd).2 (by simpa using h1) (by simpa using h2) hk
def start(N:List Str)(vs:List V):St:=vs.map some++List.replicate (N.length-vs.length) none
def BQ(CX:EX)(P:d5)(w:eC)(K:aE)(mg:Str->Option ae)(base:df)(N:List Str)(qual:Str)(scope:Scope)(f:ah)(cd:ae)(A:e7)(outer:List Env)(s:ax)(H:Hp)(E:XK):Cx where
 prog:=P
 w:=w
 K:=K
 mg:=mg
 base:=base
 A:=A.deeper (envOfC qual scope s.heap.objs.size f cd)
 N:=N
 kQ:=s
 N0:=H
 env:=envOfC qual scope s.heap.objs.size f cd
 outer:=outer
 stack:=envOfC qual scope s.heap.objs.size f cd :: outer
 ex:=[]
 calm:=true
 fn:=λ_=>true
 pn:=[]
 xe:=λe s'=>bq (aI P w) (A.deeper (envOfC qual scope s.heap.objs.size f cd)) (leaving (envOfC qual scope s.heap.objs.size f cd) e) (λ_ E1=>CX outer H s E e E1) (λe' E1=>CX outer H s E e' E1) s'
def W3{sc:Scope}{n:Nat}{x:Str}(h:sc.names.lookup x=some .cell):∃ c,(cellsFrom n sc.names []).lookup x=some c:=by have q:=PySem.W.cellsFrom_some sc.names n [] (.inl h);exact Option.isSome_iff_exists.mp q
def ds'{CX:EX}{P:d5}{w:eC}{K:aE}{mg:Str->Option ae}{base:df}{N ps:List Str}{qual:Str}{scope:Scope}{f:ah}{cd:ae}{A:e7}{outer:List Env}{s s1:ax}{H:Hp}{E:XK}{us:List ae}{vs:List V}(S:Ob N ps scope) (hd:A.handled=none) (e0:QC P w K mg base A outer s H) (hl:vs.length=ps.length) (r:Vals vs us)(x:InCallC s s.heap.objs.size (bindL (envOfC qual scope s.heap.objs.size f cd).kindOf (ps.zip us) λ_=>none) (cellsFrom (s.heap.objs.size+1) scope.names []) (bindC (envOfC qual scope s.heap.objs.size f cd).kindOf (ps.zip us) λ_=>none) s1) :
  Inv (BQ CX P w K mg base N qual scope f cd A outer s H E) [] (start N vs) H s1:=by
 have oy:ps.length<=N.length:=by have:=congrArg List.length S.pre;rw[nK] at this;lia
 obtain⟨h1,tk,rfl,hk⟩:=x.done;have Oc:∀ b:ah,b∉(BQ CX P w K mg base N qual scope f cd A outer s H E).ex:=λb z=>absurd (show b∈([]:List ah) from z) (by simp);refine⟨⟨e0.mod,S.kind,rfl,rfl,cx _,λy z c h1 h2=>?_,λy hy=>?_,λy c _ h=>?_,λ_=>hd,Around.frames_deeper e0.frames,.inr ⟨rfl,rfl⟩,λb z=>absurd z (Oc b),e0.bs,e0.EK,λb _ _=>Oc b,λb z=>absurd z (Oc b),e0.AH,e0.L7⟩,
  rfl,e0.bare,Un.kept hk,⟨_,x.toInCall.ns,λi y v h1 h2 h3=>?_⟩,λy c h=>⟨_,x.cell y c h⟩,e0.b9.fresh (cx _),λy c h=>?_,λp hp=>absurd (show p∈([]:List (ah × Obj)) from hp) (by simp),e0.b9.kept hk,?_⟩
 ·exact name_of_addr x.apart (PySem.mem_of_lookup h1) (PySem.mem_of_lookup h2)
 ·have hy:scope.names.lookup y=some .cell\/scope.names.lookup y=some .free:=hy;rcases hy with hy|hy
  ·exact W3 hy
  ·exact absurd rfl (S.dr' _ (PySem.mem_of_lookup hy))
 ·exact xl (x.above y c (PySem.mem_of_lookup h))
 ·have hi:i<vs.length:=by
   unfold start at h2;by_cases hi:i<vs.length
   ·exact hi
   ·rw[CM (by simpa using hi)] at h2;rw[List.getElem?_replicate] at h2;split at h2<;>cases h2
  have ha:vs[i]? = some v:=by
   unfold start at h2;rw[FX (by simpa using hi),kM] at h2
   cases e:vs[i]? with
   |none=>rw[e] at h2;cases h2
   |some a=>rw[e] at h2;cases h2;rfl
  obtain⟨u,hu,rv⟩:=r.get ha;have hp:ps[i]? = some y:=by rw[<- S.pre,List.getElem?_take_of_lt (by lia)];exact h1
  have W4:ps.Nodup:=by rw[<- S.pre];exact S.nd.sublist (List.take_sublist _ _)
  refine⟨u,rv,?_⟩;rcases S.par y (k7 hp) with k|k
  ·exact .inl ⟨k,WZ W4 hp hu k⟩
  ·obtain⟨c,e⟩:=W3 k;refine .inr ⟨.inl k,c,e,?_⟩;have q:=x.cell y c e;rw[W0 W4 hp hu (by show scope.names.lookup y≠_;rw[k];decide)] at q;exact q
 ·exact e0.b9.fresh (xl (x.above y c (PySem.mem_of_lookup h)))
 ·unfold start;show _=N.length;rw[ot,b6,List.length_replicate];lia
def dt'{P:d5}{K:aE}{dV kV doc pm gp ct oc:ae}{N ps:List Str} (lk:K.lookup f=some ⟨oc,od,.func (yb name qual params body scope dV kV doc pm an gp ct),BU⟩) (tI:LG K gp qual=true) (S:Ob N ps scope)(len:∀ vs H Q E,sp vs H Q E->vs.length=ps.length)(Od:∀ (A:e7) (outer:List Env) (s:ax) (H:Hp) (vs:List V) (Q:VK) (E:XK),mN k (A.deeper (envOfC qual scope s.heap.objs.size f gp))->sp vs H Q E ->
   ∃ t,mI (BQ CX P w K mg base N qual scope f gp A outer s H E) body t/\t { nx:=λ_ H'=>Q .non H',rt:=Q } (start N vs) H) :
  y3 P w K mg base CX (k+1) f (yb name qual params body scope dV kV doc pm an gp ct) ps sp:=by
 refine⟨len,λA outer s H args us vs Q E hr e0 hb r E2=>?_⟩;have hl:=len _ _ _ _ E2;have KX:K.In s.heap:=e0.mod.yn.keeps λb o e=>(e0.bs b o e).1;have lim:s.heap.NoLimit:=e0.mod.nolimit.keeps λb o e=>(e0.bs b o e).1;have du':∀ y∈ps.zip us,scope.names.lookup y.1=some .local\/(scope.names.lookup y.1=some .cell/\((cellsFrom (s.heap.objs.size+1) scope.names []).lookup y.1).isSome=true):=λ⟨n,v⟩ hy=>by
  rcases S.par n (List.of_mem_zip hy).1 with q|q
  ·exact .inl q
  ·exact .inr ⟨q,PySem.W.cellsFrom_some _ _ _ (.inl q)⟩
 refine codeAny_call_function hr.depth (KX _ _ lk) rfl S.co S.gen rfl (PySem.W.codeRec_of KX tI) (hb _ _ _ _ ?_);refine wpAny_newFunctionEnv_cells S.kind du' λenv he s1 x=>?_;subst he;refine⟨lim.keeps x.toInCall.keep,codeAny_func ?_⟩;obtain⟨t,ht,hq⟩:=Od A outer s H vs Q E (hr.deeper _) E2;have I:Inv (BQ CX P w K mg base N qual scope f gp A outer s H E) [] (start N vs) H s1:=ds' S hr.hd e0 hl r x;refine vk (ht [] s1 (start N vs) H _ I hq) (λfl s' hs=>?_) λe s' hs=>hs;have fin:∀ {cq:St} {H':Hp} {v:V} {u:ae},Inv (BQ CX P w K mg base N qual scope f gp A outer s H E) [] cq H' s'->RelV v u->Q v H'->CE outer P w H s Q u s' :=
  λ{cq H' v u} J rv q=>⟨v,H',J.os,J.bare,J.base,J.b9,rv,q⟩
 cases fl with
 |ret u =>obtain⟨v,cq,H',J,rv,q⟩:=hs;exact fin J rv q
 |next =>obtain⟨cq,H',J,q⟩:=hs;exact fin (v:=V.non) J rfl q
 |brk =>obtain⟨_,_,_,q⟩:=hs;exact False.elim q
 |cont =>obtain⟨_,_,_,q⟩:=hs;exact False.elim q
section
variable {X:Cx}{x:Str}{p pos:Pos}{e:Expr}{es:List Expr}{t:TA}{id T:String}{r:List V->Hp->VK->Prop}
def T1(r:List V->Hp->VK->Prop)(t:TA):TE:=λσ H Q=>t σ H λvs H1=>r vs H1 Q
def T3 (hc:i3 X (.builtin id) r) (hg:Gl X x) (hm:X.mg x=none) (hv:kK x=some (.builtin id)) (ha:PA X (e :: es) t) (hn:x ≠ "__name__" := by decide) (tJ:(x == ("__debug__" : Str))=false:=by decide) (he:autoParam (b4 (e :: es) X.env=(false,dn e X.env) :: b4 es X.env) bv) (oy:autoParam ((kA pos (b4 es X.env)).any (·.1)=false) bv):PE X (.Call (.Name x p) (e :: es) [] pos) (T1 r t):=by
 intro pins s σ H Q I h;refine CF (AK I hg hm hv ?_ hn tJ);exact PyProof.Rows.callWith_builtin1 (dz (ha pos pins s σ H _ I h) λus s1 dQ=>L2.g7 dQ λvs H1 I1 r1 q1=>hc pins s1 σ H1 vs us Q I1 r1 q1) he oy
def dv' (hc:i3 X (.type T) r) (hg:Gl X x) (hm:X.mg x=none) (hv:kK x=some (.type T)) (ha:PA X (e :: es) t) (hn:x ≠ "__name__" := by decide) (tJ:(x == ("__debug__" : Str))=false:=by decide) (he:autoParam (b4 (e :: es) X.env=(false,dn e X.env) :: b4 es X.env) bv) (oy:autoParam ((kA pos (b4 es X.env)).any (·.1)=false) bv):PE X (.Call (.Name x p) (e :: es) [] pos) (T1 r t):=by
 intro pins s σ H Q I h;refine CF (AK I hg hm hv ?_ hn tJ);exact PyProof.Rows.callWith_type1 (dz (ha pos pins s σ H _ I h) λus s1 dQ=>L2.g7 dQ λvs H1 I1 r1 q1=>hc pins s1 σ H1 vs us Q I1 r1 q1) he oy
end
end L2
end
namespace HT
open PySem PyProof.Rows
section
open PySem.SeqAt
open PySem.AutoSeq1 (wpAny_loadPart')
open PySem.MeetsSeq PySem.MeetsSeq2 PySem.MeetsSeq3
end
section
variable {prog:d5}{w:eC}{A:e7}{E:ae->ax->Prop}{s:ax}
def dw'(ht:IsTup s.heap t vs.toArray)(hb:IsTup s.heap b ws.toArray)(hv:vs≠[])(h1:ws=[]->Q (.ref t) s) (h2:ws≠[]->Q (.ref s.heap.objs.size) { s with heap:=s.heap.push { cls:=.type "tuple",data:=.seq (vs++ws).toArray } }) (fT:vs.length+ws.length<=bX):bq (aI prog w) A (oq .Add (.ref t) (.ref b)) Q E s:=by
 obtain⟨⟨cls,dd,data,sl⟩,ho,hc,n,hd⟩:=id ht;obtain⟨⟨T4,tN,data2,tP⟩,pE,DJ,n2,hd2⟩:=id hb;subst hc hd DJ hd2;have e:vs.toArray++ws.toArray=(vs++ws).toArray:=by simp
 by_cases hw:ws=[]
 ·exact concat_meets ⟨_,ho,rfl⟩ ⟨_,pE,rfl⟩ noFill_tuple_add seq_tuple_add PySem.F.slot_tuple_add PySem.F.entry_tuple_add (PySem.F.args_tuple_add_2 _ _) (tuple_addW1 t b vs.toArray ws.toArray n n2 dd tN sl tP (by simpa using hv) (by simp[hw])) ⟨ho,pE,h1 hw⟩
 ·refine concat_meets ⟨_,ho,rfl⟩ ⟨_,pE,rfl⟩ noFill_tuple_add seq_tuple_add PySem.F.slot_tuple_add PySem.F.entry_tuple_add (PySem.F.args_tuple_add_2 _ _) (tuple_addW2 t b vs.toArray ws.toArray n n2 dd tN sl tP (by simpa using hv) (by simpa using hw) (by rw[iF,iF];exact fT)) ⟨ho,pE,?_⟩
  rw[e];exact h2 hw
def cy(n d:Nat):Option Int->Nat
 |none=>d
 |some v=>if v<0 then (v+(n:Int)).toNat else min v.toNat n
def W5(v:Int)(n d:Nat):(if v<0 then max (v+(n:Int)) 0 else min v (n:Int))=((cy n d (some v):Nat):Int):=by
 show(if v<0 then max (v+n) 0 else min v n)=(((if v<0 then (v+n).toNat else min v.toNat n):Nat):Int)
 by_cases hv:v<0
 ·simp only[if_pos hv];lia
 ·simp only[if_neg hv];lia
def dx'(lo hi:Option Int)(n:Nat):Builtin.Slice.sliceAdjust lo hi 1 (n:Int)=(((cy n 0 lo:Nat):Int),((cy n n hi:Nat):Int)):=by
 refine Prod.ext ?_ ?_
 ·cases lo with
  |none=>rfl
  |some v=>exact W5 v n 0
 ·cases hi with
  |none=>rfl
  |some v=>exact W5 v n n
def dy'(i j:Nat):Builtin.Slice.slicePlaces (i:Int) (j:Int) 1=j-i:=by unfold Builtin.Slice.slicePlaces;split<;>lia
def W6(p:IsPart v o)(h:Q o s):bq (aI prog w) A (Builtin.Slice.slicePartIndex v) Q E s:=by
 cases p with
 |none=>exact slicePart_none h
 |int i t=>exact slicePart_int h
def dz'{sl:ah}{vl vu:ae}{lo hi:Option Int}{n:Nat}{Q:Int × Int × Nat->ax->Prop}(hs:s.heap.IsSliceOf sl vl vu .none)(pl:IsPart vl lo)(pu:IsPart vu hi)(h:Q (((cy n 0 lo:Nat):Int),1,cy n n hi-cy n 0 lo) s):bq (aI prog w) A (Builtin.Slice.sliceApplied (.ref sl) (pure (n:Int))) Q E s:=by
 obtain⟨os,Oe,qB,QD⟩:=id hs;refine aw (aw (wpAny_field Oe QD rfl (aw (wpAny_field Oe QD rfl (aw (wpAny_field Oe QD rfl (bG ?_)))))));refine aw (slicePart_none ?_);refine aw (W6 pl (aw (W6 pu (aw (bG ?_)))));show bq _ _ (match Builtin.Slice.sliceAdjust lo hi 1 n with|(lo,hi)=>pure (lo,(1:Int),Builtin.Slice.slicePlaces lo hi 1)) _ _ s;rw[dx' lo hi n];show bq _ _ (pure (((cy n 0 lo:Nat):Int),1,Builtin.Slice.slicePlaces ((cy n 0 lo:Nat):Int) ((cy n n hi:Nat):Int) 1)) _ _ s;rw[dy'];exact bG h
def dA'(xs:Array ae)(i k:Nat):((List.range k).filterMap λ(m:Nat)=>xs[((i:Int)+(m:Int)*1).toNat]?).toArray=((xs.toList.drop i).take k).toArray:=by
 have e:(λ(m:Nat)=>xs[(i+(m:Int)*1).toNat]?)=λm=>xs[i+m]? := by
  funext m;have:(i+(m:Int)*1).toNat=i+m:=by lia
  rw[this]
 rw[e];have:=pick_run xs i k;rw[S4] at this;have e2:((λx=>xs[x]?) ∘ λx=>i+x)=λm=>xs[i+m]? := rfl;rw[e2] at this;rw[this]
def dB'{lo hi:Option Int}(ht:IsTup s.heap t items)(hs:s.heap.IsSliceOf sl vl vu .none)(pl:IsPart vl lo)(pu:IsPart vu hi)(hw:¬ (cy items.size 0 lo=0/\cy items.size items.size hi=items.size))(h:Q (.ref s.heap.objs.size) { s with heap:=s.heap.push { cls:=.type "tuple",data:=.seq ((items.toList.drop (cy items.size 0 lo)).take (cy items.size items.size hi-cy items.size 0 lo)).toArray } }) (fT:items.size<=bX):bq (aI prog w) A (getItem (.ref t) (.ref sl)) Q E s:=by
 have QF:sizeOk (.seq ((items.toList.drop (cy items.size 0 lo)).take (cy items.size items.size hi-cy items.size 0 lo)).toArray):=by show((items.toList.drop (cy items.size 0 lo)).take (cy items.size items.size hi-cy items.size 0 lo)).toArray.size<=bX;rw[iF,nK,ED,BH];lia
 obtain⟨os,Oe,qB,QD⟩:=id hs;have hTs:s.TypeIs (.ref sl) "slice" := ⟨os,Oe,qB⟩
 unfold getItem;try with_reducible refine tf ?_
 first|refine aw (bG ?_)|skip
 refine aw (wpAny_sequenceKey ht.typeIs (by decide) ?_);refine aw (NF ht.typeIs PyProof.Rows.slot_tuple_getitem (Bn PyProof.Rows.slot_tuple_getitem ht.typeIs entry_tuple_getitem ?_ (args_tuple_getitem _ _)))
 show bq _ _ (Builtin.Tuple.tupleItemsOf (.ref t) >>= _) _ _ s;refine aw (tupleItemsOf_ ht ?_);refine aw (wpAny_typeOf hTs ?_);refine aw (dz' hs pl pu ?_);have E3:¬ ((((cy items.size 0 lo:Nat):Int) == 0 && (1:Int) == 1 && (cy items.size items.size hi-cy items.size 0 lo) == items.size)=true):=by intro q;rw[lT,lT] at q;have q1:((cy items.size 0 lo:Nat):Int)=0:=eq_of_beq q.1.1;have q2:cy items.size items.size hi-cy items.size 0 lo=items.size:=eq_of_beq q.2;exact hw ⟨by lia,by lia⟩
 show bq _ _ (if (((cy items.size 0 lo:Nat):Int) == 0 && 1 == 1 && (cy items.size items.size hi-cy items.size 0 lo) == items.size)=true then _ else _) _ _ s;rw[if_neg E3,dA'];first
  |exact aw (rV (bG ⟨_,rfl,bG h⟩) QF)
  |exact aw (rV (aw (bG (bG ⟨_,rfl,bG h⟩))) QF)
  |exact aw (aw (rV (bG (bG ⟨_,rfl,bG h⟩)) QF))
  |exact aw (aw (rV (bG ⟨_,rfl,bG h⟩) QF))
end
end HT
section
open PySem PySem.Spec PyProof.Rows
namespace L2
abbrev TO:=St->Hp->(Option Int->Hp->Prop)->Prop
def PO(X:Cx)(e:Option Expr)(t:TO):Prop :=
 ∀ (pins:List (ah × Obj)) (s:ax) (σ:St) (H:Hp) (Q:Option Int->Hp->Prop),Inv X pins σ H s->t σ H Q ->
  bq (aI X.prog X.w) X.A (evalPart e X.env) (λu s'=>∃ o H',Inv X pins σ H' s'/\IsPart u o/\Q o H') X.xe s
def dD'(t:TE):TO:=λσ H Q=>t σ H λx H1=>∃ i,x=.int i/\Q (some i) H1
section
variable {X:Cx}{e:Expr}{te:TE}{lo hi:Option Expr}{tl th:TO}{pos p2:Pos}
def dE'(h:PE X e te):PO X (some e) (dD' te):=by intro pins s σ H Q I hw;refine dz (h pins s σ H _ I hw) λu s1 dQ=>L2.g7 dQ λx H1 I1 r1 q1=>?_;obtain⟨i,rfl,q⟩:=q1;obtain⟨t,rfl⟩:=r1;exact⟨some i,H1,I1,.int i t,q⟩
def My(X:Cx)(r:V->Option Int->Option Int->Hp->VK->Prop):Prop :=
 ∀ (pins:List (ah × Obj)) (s:ax) (σ:St) (H:Hp) (x:V) (v vl vu:ae) (lo hi:Option Int) (sl:ah) (Q:VK),Inv X pins σ H s->RelV x v->s.heap.IsSliceOf sl vl vu .none->IsPart vl lo->IsPart vu hi->r x lo hi H Q ->
  ∃ T id,typeLookup (.type T) "__getitem__" = pure (some (.builtin id))/\s.TypeIs v T/\bq (aI X.prog X.w) X.A (getItem v (.ref sl)) (EP X pins σ Q) X.xe s
def tSl(r:V->Option Int->Option Int->Hp->VK->Prop)(te:TE)(tl th:TO):TE:=λσ H Q=>te σ H λx H1=>tl σ H1 λl H2=>th σ H2 λu H3=>r x l u H3 Q
def dG'(hr:My X r)(he:PE X e te)(hl:PO X lo tl)(hu:PO X hi th):PE X (.Subscript e (.Slice lo hi none p2) pos) (tSl r te tl th):=by intro pins s σ H Q I h;refine Subscript_ (dz (he pins s σ H _ I h) λv s1 dQ=>L2.g7 dQ λx H1 I1 r1 q1=>?_);refine wpAny_Slice (dz (hl pins s1 σ H1 _ I1 q1) λvl s2 dQ=>L2.g7 dQ λl H2 I2 pl q2=>dz (hu pins s2 σ H2 _ I2 q2) λvu s3 dQ=>L2.g7 dQ λu H3 I3 pu q3=>?_);refine bG ?_;have I4:Inv X pins σ H3 { s3 with heap:=s3.heap.push { cls:=.type "slice",data:=.fields #[vl,vu,.none] } }:=I3.kept λb ob q=>gu _ q;obtain⟨T,id,hT,ht,hg⟩:=hr pins { s3 with heap:=s3.heap.push { cls:=.type "slice",data:=.fields #[vl,vu,.none] } } σ H3 x v vl vu l u s3.heap.objs.size Q I4 r1 (Heap.IsSliceOf.new ..) pl pu q3;exact tail_any ht hT hg (by with_unfolding_all rfl)
def HM(xs:List V)(lo hi:Option Int):List V:=(xs.drop (HT.cy xs.length 0 lo)).take (HT.cy xs.length xs.length hi-HT.cy xs.length 0 lo)
def W7(xs:List V)(lo hi:Option Int):(HM xs lo hi).length<=xs.length:=by unfold HM;rw[nK,ED];lia
def W8(K:aE):V->Option Int->Option Int->Hp->VK->Prop:=λx lo hi H Q=>∃ a xs,x=.ref a/\ox K H a xs /\
 ¬ (HT.cy xs.length 0 lo=0/\HT.cy xs.length xs.length hi=xs.length)/\∀ p,H p=none->Q (.ref p) (upd H p (.tup (HM xs lo hi)))
def dH':My X (W8 X.K):=by
 intro pins s σ H x v vl vu lo hi sl Q I rx hs pl pu h;obtain⟨a,xs,rfl,hx,hw,q⟩:=h;cases rx;obtain⟨its,r,ht,hz⟩:=I.tuple hx;have hlen:its.toArray.size=xs.length:=by rw[iF];exact r.length.symm
 refine⟨"tuple",_,PyProof.Rows.slot_tuple_getitem.lookup,ht.typeIs,?_⟩;refine HT.dB' ht hs pl pu (by rw[hlen];exact hw) ?_ (by rw[hlen];exact hz);rw[hlen];refine⟨.ref s.heap.objs.size,_,I.laid (λb ob q=>gu _ q) (cx _) ?_,rfl,q _ (I.b9.fresh (cx _))⟩;exact⟨iP (W7 xs lo hi) hz,_,(r.drop (HT.cy xs.length 0 lo)).take (HT.cy xs.length xs.length hi-HT.cy xs.length 0 lo),IsTup.new _ _⟩
def T5(K:aE):R2:=λx y H Q=>∃ a b xs ys,x=.ref a/\y=.ref b/\ox K H a xs/\ox K H b ys/\xs≠[]/\xs.length+ys.length<=bX /\ (ys=[]->Q (.ref a) H)/\(ys≠[]->∀ p,H p=none->Q (.ref p) (upd H p (.tup (xs++ys))))
def Vals.T6(r:Vals xs us):us=[]↔xs=[]:=by
 cases r with
 |nil=>simp
 |cons _ _=>simp
def dI':eJ X (oq .Add) (T5 X.K):=by intro pins s σ H x y v u Q I rx ry h;obtain⟨a,b,xs,ys,rfl,rfl,ha,hb,hx,hz,q1,q2⟩:=h;cases rx;cases ry;obtain⟨its,r1,p1,_⟩:=I.tuple ha;obtain⟨QH,r2,p2,_⟩:=I.tuple hb;refine HT.dw' p1 p2 (λz=>hx (r1.T6.mp z)) (λz=>⟨.ref a,H,I,rfl,q1 (r2.T6.mp z)⟩) (λz=>?_) (by rw[<- r1.length,<- r2.length];exact hz);refine⟨.ref s.heap.objs.size,_,I.laid (λb ob q=>gu _ q) (cx _) ?_,rfl,q2 (λw=>z (r2.T6.mpr w)) _ (I.b9.fresh (cx _))⟩;exact⟨by rw[ot];exact hz,_,r1.append r2,IsTup.new _ _⟩
end
def oi(n:Nat)(i:Int):Option Nat:=if 0<=i then (if i<n then some i.toNat else none) else if -(n:Int)<=i then some (i+n).toNat else none
def gv{α:Type}(xs:List α)(i:Int):Option α:=(oi xs.length i).bind λj=>xs[j]?
def dJ'(h:oi n i=some j):seqIndex? i n=some j/\j<n/\-(n:Int)<=i/\i<n:=by
 unfold oi at h;by_cases h0:0<=i
 ·rw[if_pos h0] at h;by_cases h1:i<n
  ·rw[if_pos h1] at h;have e:i.toNat=j:=Option.some.inj h;exact⟨by rw[seqIndex_of h0 h1,e],by lia,by lia,h1⟩
  ·rw[if_neg h1] at h;cases h
 ·rw[if_neg h0] at h;by_cases h1:-n<=i
  ·rw[if_pos h1] at h;have e:(i+n).toNat=j:=Option.some.inj h;exact⟨by rw[seqIndex_neg (by lia) h1,e],by lia,h1,by lia⟩
  ·rw[if_neg h1] at h;cases h
def T7{α:Type}{xs:List α}{i:Int}{v:α}(h:gv xs i=some v):∃ j,seqIndex? i xs.length=some j/\xs[j]? = some v/\j<xs.length/\-(xs.length:Int)<=i/\i<xs.length:=by
 unfold gv at h
 cases e:oi xs.length i with
 |none=>rw[e] at h;cases h
 |some j =>rw[e] at h;obtain⟨h1,h2,h3,h4⟩:=dJ' e;exact⟨j,h1,h,h2,h3,h4⟩
def MA{α:Type}{xs:List α}{j:Nat}{v:α}(h:xs[j]? = some v):gv xs (j:Int)=some v:=by
 have hj:j<xs.length:=(iE.mp h).1;have e:oi xs.length j=some j:=by unfold oi;rw[if_pos (by lia),if_pos (by lia)];simp
 unfold gv;rw[e];exact h
def dK'{α:Type}(xs:List α)(v:α):gv (xs++[v]) (-1)=some v:=by
 have hl:(xs++[v]).length=xs.length+1:=by simp
 have e:oi (xs++[v]).length (-1)=some xs.length:=by unfold oi;rw[hl,if_neg (by decide),if_pos (by lia)];congr 1;lia
 unfold gv;rw[e];simp
def QJ(b:Expr):Prop:=∀ o i,subscripted b false o i=operate [o,i] (getItem o i)
def xv(X:Cx)(r:R2):Prop :=
 ∀ (value slice:Expr) (pins:List (ah × Obj)) (s:ax) (σ:St) (H:Hp) (x y:V) (v u:ae) (Q:VK),Inv X pins σ H s->RelV x v->RelV y u->r x y H Q ->
  subscripted slice false v u=operate [v,u] (getItem v u)->bq (aI X.prog X.w) X.A (subscriptTail value slice v u) (EP X pins σ Q) X.xe s
def Og(X:Cx)(id:String)(r:V->List V->Hp->VK->Prop):Prop :=
 ∀ (pins:List (ah × Obj)) (s:ax) (σ:St) (H:Hp) (x:V) (xs:List V) (v:ae) (us:List ae) (Q:VK),Inv X pins σ H s->RelV x v->Vals xs us->r x xs H Q ->
  bq (aI X.prog X.w) X.A (call (.builtin id) (v :: us)) (EP X pins σ Q) X.xe s
section
variable {X:Cx}{a b:Expr}{ta tb:TE}{pos:Pos}
def xv.or(h:xv X r)(h':xv X r'):xv X (λx y H Q=>r x y H Q\/r' x y H Q):=by
 intro value slice pins s σ H x y v u Q I rx ry q hs;rcases q with q|q
 ·exact h value slice pins s σ H x y v u Q I rx ry q hs
 ·exact h' value slice pins s σ H x y v u Q I rx ry q hs
def T8{r:R2}(hr:xv X r)(ha:PE X a ta)(hb:PE X b tb)(hs:QJ b):PE X (.Subscript a b pos) (N_ r ta tb):=by intro pins s σ H Q I h;exact Subscript_ (TH ha hb I h λv u s2 x y H2 I2 rx ry q=>hr a b pins s2 σ H2 x y v u Q I2 rx ry q (hs _ _))
def W9(K:aE):R2:=λx y H Q=>∃ p xs i v,x=.ref p/\y=.int i/\fh K H p xs/\gv xs i=some v/\Q v H
def W_(K:aE):R2:=λx y H Q=>∃ p xs i v,x=.ref p/\y=.int i/\ox K H p xs/\gv xs i=some v/\Q v H
def Za:R2:=λx y H Q=>∃ z i c,x=.str z/\y=.int i/\z.length<=bX/\gv z.cps.toList i=some c/\Q (.str ⟨#[c]⟩) H
def dL':xv X (W9 X.K):=by
 intro value slice pins s σ H x y v u Q I rx ry h hs;obtain⟨p,xs,i,z,rfl,rfl,hq,he,q⟩:=h;cases rx;obtain⟨t,rfl⟩:=ry;obtain⟨its,r,pl,hz⟩:=I.list hq;obtain⟨j,h1,h2,h3,h4,h5⟩:=T7 he;obtain⟨w,ew,mP⟩:=r.get h2;have hl:=r.length;have hn:=TQ;have fin:EP X pins σ Q w s:=⟨z,H,I,mP,q⟩
 by_cases h0:0<=i
 ·have hj:i.toNat=j:=by rw[seqIndex_of h0 h5] at h1;exact Option.some.inj h1
  exact item_listR pl.isList h0 (by lia) (by rw[hj];simpa using ew) fin hs
 ·have hj:(i+its.toArray.size).toNat=j:=by rw[seqIndex_neg (by lia) h4] at h1;rw[iF,<- hl];exact Option.some.inj h1
  exact subscriptTail_builtinR pl.isList.typeIs slot_list_getitem.lookup (wpAny_getItem_list_neg pl.isList (by lia) (by rw[iF]<;>lia) (by lia) (by rw[hj];simpa using ew) ⟨rfl,fin⟩) hs
def dM':xv X (W_ X.K):=by
 intro value slice pins s σ H x y v u Q I rx ry h hs;obtain⟨p,xs,i,z,rfl,rfl,hq,he,q⟩:=h;cases rx;obtain⟨t,rfl⟩:=ry;obtain⟨its,r,pl,hz⟩:=I.tuple hq;obtain⟨j,h1,h2,h3,h4,h5⟩:=T7 he;obtain⟨w,ew,mP⟩:=r.get h2;have hl:=r.length;have hn:=TQ;have fin:EP X pins σ Q w s:=⟨z,H,I,mP,q⟩
 exact subscriptTail_builtinR pl.typeIs slot_tuple_getitem.lookup (getItem_tuple pl (by lia) (by lia) (by rw[iF,<- hl];exact h1) (by simpa using ew) ⟨rfl,fin⟩) hs
def dN':xv X Za:=by
 intro value slice pins s σ H x y v u Q I rx ry h hs;obtain⟨z,i,c,rfl,rfl,hz,he,q⟩:=h;obtain⟨t,rfl⟩:=rx;obtain⟨t',rfl⟩:=ry;obtain⟨j,h1,h2,h3,h4,h5⟩:=T7 he;have hl:z.cps.toList.length=z.length:=by simp[Str.length]
 rw[hl] at h1 h4 h5;have hn:=TQ;exact tail_any (typeIs_str s z t) slot_str_getitem.lookup (getItem_str (by
  have e1:decide (i < -(2 ^ 63:Int))=false:=decide_eq_false (by lia);have e2:decide (i >= 2 ^ 63)=false:=decide_eq_false (by lia);rw[e1,e2,Bool.or_false]) (by rw[h1];simpa using h2) ⟨.str ⟨#[c]⟩,H,I.tok _,⟨_,rfl⟩,q⟩) hs
def rIx(K:aE):R2:=λx y H Q=>W9 K x y H Q\/W_ K x y H Q\/Za x y H Q
def dP':xv X (rIx X.K):=dL'.or (dM'.or dN')
def dQ'(lo hi:Option Int)(n:Nat):(FU lo hi none n).1=((HT.cy n 0 lo:Nat):Int)/\(FU lo hi none n).2.1=((HT.cy n n hi:Nat):Int)/\(FU lo hi none n).2.2=1:=by
 refine⟨?_,?_,rfl⟩
 ·cases lo with
  |none=>simp[FU,HT.cy]
  |some i =>
   simp only[FU,HT.cy,Option.getD_none,show 1>0 by decide,if_true];by_cases h:i<0
   ·simp only[h,if_true]<;>lia
   ·simp only[h,if_false]<;>lia
 ·cases hi with
  |none=>simp[FU,HT.cy]
  |some i =>
   simp only[FU,HT.cy,Option.getD_none,show 1>0 by decide,if_true];by_cases h:i<0
   ·simp only[h,if_true]<;>lia
   ·simp only[h,if_false]<;>lia
def dR'(its:List ae)(lo hi:Option Int):slicePick its.toArray lo hi none=((its.drop (HT.cy its.length 0 lo)).take (HT.cy its.length its.length hi-HT.cy its.length 0 lo)).toArray:=by obtain⟨h1,h2,h3⟩:=dQ' lo hi its.toArray.size;unfold slicePick;rw[h1,h2,h3];simp only[sliceRange_one,pick_run,iF]<;>rfl
def dS'(K:aE):V->Option Int->Option Int->Hp->VK->Prop:=λx lo hi H Q=>∃ a xs,x=.ref a/\fh K H a xs/\∀ p,H p=none->Q (.ref p) (upd H p (.lst (HM xs lo hi)))
def dT':My X (dS' X.K):=by intro pins s σ H x v vl vu lo hi sl Q I rx hs pl pu h;obtain⟨a,xs,rfl,hx,q⟩:=h;cases rx;obtain⟨its,r,ht,hz⟩:=I.list hx;have hlen:=r.length;refine⟨"list",_,slot_list_getitem.lookup,ht.isList.typeIs,?_⟩;refine wpAny_getItem_list_slice ht.isList hs pl pu .none (by simp) ?_ (by rw[iF]<;>lia);rw[dR',<- hlen];refine⟨.ref s.heap.objs.size,_,I.laid (λb ob q=>gu _ q) (cx _) ?_,rfl,q _ (I.b9.fresh (cx _))⟩;exact⟨iP (W7 xs lo hi) hz,_,0,(r.drop (HT.cy xs.length 0 lo)).take (HT.cy xs.length xs.length hi-HT.cy xs.length 0 lo),kP _ rfl⟩
def B1:V->Bool
 |.non=>true
 |.bl _=>true
 |.int _=>true
 |.str _=>true
 |_=>false
def DL:V->V->Bool
 |.non,.non=>true
 |.bl a,.bl b=>a == b
 |.bl a,.int b=>(if a then 1 else 0) == b
 |.int a,.bl b=>a == (if b then 1 else 0)
 |.int a,.int b=>a == b
 |.str a,.str b=>a == b
 |_,_=>false
def dU'(ry:RelV y u)(rx:RelV x v)(fy:B1 y=true)(fx:B1 x=true):SeqAt.EqAt A s u v (DL y x):=by
 cases y with
 |non =>
  cases ry
  cases x with
  |non=>cases rx;exact SeqAt.EqAt.same _
  |bl b=>cases rx;exact SeqAt.EqAt.none_bool b
  |int b=>obtain⟨t,rfl⟩:=rx;exact SeqAt.EqAt.none_int b t
  |str b=>obtain⟨t,rfl⟩:=rx;exact SeqAt.EqAt.none_str b t
  |_=>exact absurd (fx) kf
 |bl a =>
  cases ry
  cases x with
  |non=>cases rx;exact SeqAt.EqAt.bool_none a
  |bl b=>cases rx;exact SeqAt.EqAt.bool_bool a b
  |int b=>obtain⟨t,rfl⟩:=rx;exact SeqAt.EqAt.bool_int a b t
  |str b=>obtain⟨t,rfl⟩:=rx;exact SeqAt.EqAt.bool_str a b t
  |_=>exact absurd (fx) kf
 |int a =>
  obtain⟨t',rfl⟩:=ry
  cases x with
  |non=>cases rx;exact SeqAt.EqAt.int_none a t'
  |bl b=>cases rx;exact SeqAt.EqAt.int_bool a t' b
  |int b=>obtain⟨t,rfl⟩:=rx;exact SeqAt.EqAt.int_int a t' b t
  |str b=>obtain⟨t,rfl⟩:=rx;exact SeqAt.EqAt.int_str a t' b t
  |_=>exact absurd (fx) kf
 |str a =>
  obtain⟨t',rfl⟩:=ry
  cases x with
  |non=>cases rx;exact SeqAt.EqAt.str_none a t'
  |bl b=>cases rx;exact SeqAt.EqAt.str_bool a t' b
  |int b=>obtain⟨t,rfl⟩:=rx;exact SeqAt.EqAt.str_int a t' b t
  |str b=>obtain⟨t,rfl⟩:=rx;exact SeqAt.EqAt.str_str a t' b t
  |_=>exact absurd (fx) kf
 |_=>exact absurd (fy) kf
def tS(x:V)(u:ae):Bool:=match u with
 |.none=>DL .non x
 |.bool b=>DL (.bl b) x
 |.int i _=>DL (.int i) x
 |.str z _=>DL (.str z) x
 |_=>false
def Zb(r:RelV y u)(f:B1 y=true):tS x u=DL y x:=by
 cases y with
 |non=>cases r;rfl
 |bl b=>cases r;rfl
 |int i=>obtain⟨t,rfl⟩:=r;rfl
 |str z=>obtain⟨t,rfl⟩:=r;rfl
 |_=>exact absurd (f) kf
theorem Oh:∀ {xs:List V} {us:List ae},Vals xs us->xs.all B1=true->us.any (tS x)=xs.any λy=>DL y x
 |_,_,.nil,_=>rfl
 |y :: xs,u :: us,.cons r t,f=>by rw[DB,lT] at f;rw[DC,DC,Zb r f.1,Oh t f.2]
theorem Oi(rx:RelV x v)(fx:B1 x=true):∀ {xs:List V} {us:List ae},Vals xs us->xs.all B1=true->∀ u∈us,SeqAt.EqAt A s u v (tS x u)
 |_,_,.nil,_=>λu hu=>by cases hu
 |y :: xs,u :: us,.cons r t,f=>λu' hu=>by
  rw[DB,lT] at f;rcases eB.mp hu with rfl|hu
  ·rw[Zb r f.1];exact dU' r rx f.1 fx
  ·exact Oi rx fx t f.2 u' hu
def QK(x:V)(xs:List V):Bool:=xs.any λy=>DL y x
def Oj(K:aE)(neg:Bool):R2:=λx y H Q=>∃ p xs,y=.ref p/\(fh K H p xs\/ox K H p xs)/\B1 x=true/\xs.all B1=true/\Q (.bl (if neg then !QK x xs else QK x xs)) H
def dV':eJ X (gI .In) (Oj X.K false):=by
 intro pins s σ H x y v u Q I rx ry h;obtain⟨p,xs,rfl,hq,fx,fs,q⟩:=h;cases ry;rcases hq with hq|hq
 ·obtain⟨its,r,pl,hz⟩:=I.list hq;refine SeqAt.in_listAt (tS x) pl.isList (λw hw=>Oi rx fx r fs w (by simpa using hw)) ⟨.bl _,H,I,rfl,?_⟩;rw[show its.toArray.any (tS x)=its.any (tS x) by simp,Oh r fs];exact q
 ·obtain⟨its,r,pl,hz⟩:=I.tuple hq;refine SeqAt.in_tupleAt (tS x) pl (λw hw=>Oi rx fx r fs w (by simpa using hw)) ⟨.bl _,H,I,rfl,?_⟩;rw[show its.toArray.any (tS x)=its.any (tS x) by simp,Oh r fs];exact q
def dW':eJ X (gI .NotIn) (Oj X.K true):=by
 intro pins s σ H x y v u Q I rx ry h;obtain⟨p,xs,rfl,hq,fx,fs,q⟩:=h;cases ry;rcases hq with hq|hq
 ·obtain⟨its,r,pl,hz⟩:=I.list hq;refine SeqAt.notIn_listAt (tS x) pl.isList (λw hw=>Oi rx fx r fs w (by simpa using hw)) ⟨.bl _,H,I,rfl,?_⟩;rw[show its.toArray.any (tS x)=its.any (tS x) by simp,Oh r fs];exact q
 ·obtain⟨its,r,pl,hz⟩:=I.tuple hq;refine SeqAt.notIn_tupleAt (tS x) pl (λw hw=>Oi rx fx r fs w (by simpa using hw)) ⟨.bl _,H,I,rfl,?_⟩;rw[show its.toArray.any (tS x)=its.any (tS x) by simp,Oh r fs];exact q
def i3.or(h:i3 X f r)(h':i3 X f r'):i3 X f (λxs H Q=>r xs H Q\/r' xs H Q):=by
 intro pins s σ H xs us Q I rs q;rcases q with q|q
 ·exact h pins s σ H xs us Q I rs q
 ·exact h' pins s σ H xs us Q I rs q
def dX':i3 X (.type "list") (λxs H Q=>∃ p ys,xs=[.ref p]/\(fh X.K H p ys\/ox X.K H p ys)/\∀ l,H l=none->Q (.ref l) (upd H l (.lst ys))):=by
 intro pins s σ H xs us Q I r h;obtain⟨p,ys,rfl,hq,q⟩:=h;obtain⟨u,rfl,rx⟩:=vals1 r;cases rx;have fin:∀ its,Vals ys its->ys.length<=bX->∀ h' c',(∀ b o',s.heap.get? b=some o'->h'.get? b=some o') ->
   h'.get? s.heap.objs.size=some { cls:=.type "list",dict:=none,data:=.seq its.toArray c',slots:=#[] }->EP X pins σ Q (.ref s.heap.objs.size) { s with heap:=h' }:=λits r' hz h' c' kp e =>
  ⟨.ref s.heap.objs.size,_,I.laid kp (cx _) (show iS X.prog X.w _ h' _ (.lst ys) from⟨hz,its,c',r',e⟩),rfl,q _ (I.b9.fresh (cx _))⟩
 rcases hq with hq|hq
 ·obtain⟨its,r',pl,hz⟩:=I.list hq;have hlen:=r'.length;obtain⟨o,ho,hc,n,hd⟩:=pl.isList;exact call_list_seq p (.inl rfl) ho hc hd (λh' c' kp e=>fin its r' hz h' c' kp e) (by simp only[iF]<;>lia)
 ·obtain⟨its,r',pl,hz⟩:=I.tuple hq;have hlen:=r'.length;obtain⟨o,ho,hc,n,hd⟩:=pl;exact call_list_seq p (.inr rfl) ho hc hd (λh' c' kp e=>fin its r' hz h' c' kp e) (by simp only[iF]<;>lia)
def T9(K:aE)(T:String)(x:V)(H:Hp):Prop:=match x with
 |.str _=>T = "str"
 |.int _=>T = "int"
 |.ref p=>(T = "list"/\∃ xs,fh K H p xs)\/(T = "tuple"/\∃ o,K.lookup p=some o/\o.cls=.type "tuple"/\o.dict=none) \/
   (T = "dict"/\((∃ kvs,H p=some (.dK kvs))\/∃ kvs,H p=some (.dT kvs)))\/(T = "set"/\∃ S n,H p=some (.set S n))
 |_=>False
def Zc{T:String}(I:Inv X pins σ H s)(r:RelV x v)(ty:T9 X.K T x H) :
  s.TypeIs v T/\∀ a,v=.ref a->∃ ob,s.heap.get? a=some ob/\ob.dict=none:=by
 cases x with
 |str z =>obtain⟨t,rfl⟩:=r;cases (ty);exact⟨typeIs_str s z t,λ_ e=>nomatch e⟩
 |int i =>obtain⟨t,rfl⟩:=r;cases (ty);exact⟨typeIs_int s i t,λ_ e=>nomatch e⟩
 |ref p =>
  cases r;rcases ty with⟨rfl,xs,hq⟩|⟨rfl,o,hk,hc,hd⟩|⟨rfl,hk⟩|⟨rfl,S,n,hk⟩
  ·obtain⟨its,_,pl,_⟩:=I.list hq;refine⟨pl.isList.typeIs,λa e=>?_⟩;cases e;obtain⟨o,n,e,c,hd,_⟩:=pl;exact⟨o,e,hd⟩
  ·refine⟨⟨o,I.mn p o hk,hc⟩,λa e=>?_⟩;cases e;exact⟨o,I.mn _ o hk,hd⟩
  ·have z:∃ o,s.heap.get? p=some o/\o.ExactDict:=by
    rcases hk with⟨kvs,hk⟩|⟨kvs,hk⟩
    ·obtain⟨_,_,_,_,o,_,_,e,ex,_⟩:=I.b9 p _ hk;exact⟨o,e,ex⟩
    ·obtain⟨_,_,_,_,o,_,_,e,ex,_⟩:=I.b9 p _ hk;exact⟨o,e,ex⟩
   obtain⟨o,e,ex⟩:=z;refine⟨⟨o,e,ex.1⟩,λa e2=>?_⟩;cases e2;exact⟨o,e,ex.2.1⟩
  ·obtain⟨o,_,_,_,e,ex,_⟩:=I.b9 p _ hk;refine⟨⟨o,e,ex.1⟩,λa e2=>?_⟩;cases e2;exact⟨o,e,ex.2.1⟩
 |_=>exact False.elim ty
def dY'(K:aE)(T:String)(r:V->List V->Hp->VK->Prop)(to:TE):TE:=λσ H Q=>to σ H λx H1=>T9 K T x H1/\r x [] H1 Q
def tBM(K:aE)(T:String)(r:V->List V->Hp->VK->Prop)(to:TE)(t:TA):TE:=λσ H Q=>to σ H λx H1=>T9 K T x H1/\t σ H1 λxs H2=>r x xs H2 Q
variable {o e:Expr}{es:List Expr}{to:TE}{t:TA}{name:Str}{apos eP:Pos}{T id:String}{r:V->List V->Hp->VK->Prop}
def ea' (pa:PlainAttrs T) (slot:Slot T name id) (T_:typeOf (.builtin id)=pure (.type "method_descriptor")) (hm:Og X id r) (ho:PE X o to)(tT:autoParam (zI o name X.env (dn o X.env)=dn o X.env) bv) (hline:autoParam ((apos.endLine == eP.line)=true) bv):PE X (.Call (.Attribute o name apos) [] [] eP) (dY' X.K T r to):=by
 intro pins s σ H Q I h;refine wpAny_Call_method0_late tT hline (dz (ho pins s σ H _ I h) λv s1 eI=>?_);obtain⟨x,H1,I1,r1,ty,q1⟩:=eI;obtain⟨h1,h2⟩:=Zc I1 r1 ty;exact⟨T,id,pa,slot,T_,h1,h2,Calls.callWith_builtin rfl (PySem.evalArgs_none (hm pins s1 σ H1 x [] v [] Q I1 r1 .nil q1))⟩
def MB (pa:PlainAttrs T) (slot:Slot T name id) (T_:typeOf (.builtin id)=pure (.type "method_descriptor")) (hm:Og X id r) (ho:PE X o to) (ha:PA X (e :: es) t)(tT:autoParam (zI o name X.env (dn o X.env)=dn o X.env) bv) (t5:autoParam (((kA eP (b4 (e :: es) X.env)).all (λx=>!x.1) && (backToKw eP (CH [] X.env)).all (λx=>x.1.isSome)
   && decide ((e :: es).length+([]:List oQ).length+(if ([]:List oQ).isEmpty then 0 else 1)<30))=true) bv)
  (hline:autoParam ((apos.endLine == eP.line)=true) bv) (hs:autoParam (b4 (e :: es) X.env=(false,dn e X.env) :: b4 es X.env) bv) (AQ:autoParam ((kA eP (b4 es X.env)).any (·.1)=false) bv) :
  PE X (.Call (.Attribute o name apos) (e :: es) [] eP) (tBM X.K T r to t):=by
 intro pins s σ H Q I h;refine wpAny_Call_method_late tT t5 hline rfl (dz (ho pins s σ H _ I h) λv s1 eI=>?_);obtain⟨x,H1,I1,r1,ty,q1⟩:=eI;obtain⟨h1,h2⟩:=Zc I1 r1 ty;refine⟨T,id,pa,slot,T_,h1,h2,?_⟩;have hA:=ha eP pins s1 σ H1 _ I1 q1;rw[hs] at hA ⊢;refine Calls.callWith_builtin (by show(false || (kA eP (b4 es X.env)).any (·.1))=false;rw[AQ]<;>rfl) (Calls.evalArgs_plain ?_);exact dz hA λus s2 dQ=>L2.g7 dQ λvs H2 I2 r2 q2=>hm pins s2 σ H2 x vs v us Q I2 r1 r2 q2
end
def Ua(X:Cx)(id:String)(r:V->List V->Hp->VK->Prop):Prop :=
 ∀ (pins:List (ah × Obj)) (s:ax) (σ:St) (H:Hp) (x:V) (xs:List V) (v:ae) (us:List ae) (Q:VK),Inv X pins σ H s->RelV x v->Vals xs us->r x xs H Q ->
  bq (aI X.prog X.w) X.A (call (.builtin id) (v :: us)) (EP X pins σ Q) X.xe s
def Vals.one{x:V}{us:List ae}(h:Vals [x] us):∃ u,us=[u]/\RelV x u:=by cases h;rename_i r h;cases h;exact⟨_,rfl,‹_›⟩
def Vals.two{x y:V}{us:List ae}(h:Vals [x,y] us):∃ u v,us=[u,v]/\RelV x u/\RelV y v:=by cases h;rename_i r h;cases h;rename_i q h;cases h;exact⟨_,_,rfl,‹_›,‹_›⟩
theorem Vals.zero:∀ {us:List ae},Vals [] us->us=[]
 |_,.nil=>rfl
def Vals.dropLast(h:Vals xs us):Vals xs.dropLast us.dropLast:=by
 induction h with
 |nil=>exact .nil
 |cons r t ih =>
  cases t with
  |nil=>exact .nil
  |cons q t'=>exact .cons r ih
theorem Vals.eraseIdx:∀ {xs:List V} {us:List ae} (i:Nat),Vals xs us->Vals (xs.eraseIdx i) (us.eraseIdx i)
 |_,_,_,.nil=>.nil
 |_,_,0,.cons _ t=>t
 |_,_,i+1,.cons r t=>.cons r (Vals.eraseIdx i t)
def eb'{α:Type}(l:List α):l.eraseIdx (l.length-1)=l.dropLast:=by
 induction l with
 |nil=>rfl
 |cons a r ih =>
  cases r with
  |nil=>rfl
  |cons b r =>
   have e:(a :: b :: r).length-1=((b :: r).length-1)+1:=by have h1:(a :: b :: r).length=r.length+2:=rfl;have h2:(b :: r).length=r.length+1:=rfl;lia
   rw[e,FY,ih];all_goals rfl
theorem Zd{α:Type}:∀ (l:List α) (i:Nat),(l.eraseIdx i).length<=l.length
 |[],_=>cx _
 |_ :: _,0=>EH _
 |_ :: r,i+1=>Nat.succ_le_succ (Zd r i)
section
variable {X:Cx}{pins:List (ah × Obj)}{σ:St}{H:Hp}{s:ax}{l:ah}{xs ys:List V}
def Inv.Ub{its N8:List ae}{n:Nat}{f:Array ae->Array ae}{t':Nat}(I:Inv X pins σ H s)(hH:H l=some (.lst xs))(e:s.heap.get? l=some { cls:=.type "list",data:=.seq its.toArray n }) (hf:f its.toArray=N8.toArray) (hv:Vals ys N8) (hz:ys.length<=bX) :
  Inv X pins σ (upd H l (.lst ys)) { s with heap:=s.heap.update l (Obj.mapSeq f),toks:=t' }:=by
 have q:=PySem.IsL.update e f;rw[hf] at q;refine I.write (by rw[hH];exact trivial) (.inl rfl) (λb' u hb hu=>(NS s.heap (Obj.mapSeq f) (Ne.symm hb)).trans hu) ⟨_,q⟩ ?_;exact⟨hz,N8,_,hv,q⟩
def Inv.Uc(I:Inv X pins σ H s)(hv:Vals ys its)(hz:ys.length<=bX) :
  Inv X pins σ (upd H s.heap.objs.size (.lst ys)) { s with heap:=s.heap.push { cls:=.type "list",data:=.seq its.toArray },toks:=t' } :=
 I.laid (λ_ _ q=>gu _ q) (cx _) ⟨hz,its,0,hv,kP _ rfl⟩
def Inv.fresh(I:Inv X pins σ H s):H s.heap.objs.size=none:=I.b9.fresh (cx _)
def Inv.Ud (I:Inv X pins σ H s) (hH:H l=some (.lst xs)):xs.length<=bX/\∃ (its:List ae) (n:Nat),Vals xs its/\xs.length=its.length/\s.heap.get? l=some { cls:=.type "list",data:=.seq its.toArray n }:=by obtain⟨z,its,n,r,e⟩:=I.b9 l _ hH;exact⟨z,its,n,r,r.length,e⟩
end
section
variable {X:Cx}
def ec':V->List V->Hp->VK->Prop:=λx vs H Q=>∃ l xs y,x=.ref l/\vs=[y]/\H l=some (.lst xs)/\xs.length<bX/\Q .non (upd H l (.lst (xs++[y])))
def Ue:Ua X "list.append" ec':=by intro pins s σ H x vs v us Q I rx rv h;obtain⟨l,xs,y,rfl,rfl,hH,hz,q⟩:=h;cases rx;obtain⟨u,rfl,ru⟩:=rv.one;obtain⟨z,its,n,r,hl,e⟩:=I.Ud hH;refine call_meets F.slot_list_append ⟨_,e,rfl⟩ F.entry_list_append (F.args_list_append_2 _ _) (PySem.list_append l its.toArray n u (by rw[iF];lia)) ⟨e,?_⟩;refine⟨.non,_,I.Ub hH e (by simp) (r.append (.cons ru .nil)) ?_,rfl,q⟩;rw[ot,LJ];lia
def ed':V->List V->Hp->VK->Prop:=λx vs H Q=>∃ l xs y,x=.ref l/\vs=[]/\H l=some (.lst xs)/\xs[xs.length-1]? = some y/\Q y (upd H l (.lst xs.dropLast))
def ee':Ua X "list.pop" ed':=by
 intro pins s σ H x vs v us Q I rx rv h;obtain⟨l,xs,y,rfl,rfl,hH,hy,q⟩:=h;cases rx;have hus:=rv.zero;subst hus;obtain⟨z,its,n,r,hl,e⟩:=I.Ud hH;obtain⟨u,hu,ru⟩:=r.get hy;have Ug:its.toArray[its.toArray.size-1]? = some u:=by show its.toArray[its.length-1]? = some u;rw[<- mh,<- hl];exact hu
 refine call_meets F.slot_list_pop ⟨_,e,rfl⟩ F.entry_list_pop (F.args_list_pop_1 _) (MeetsSeq.list_pop_last l its.toArray n u Ug (by rw[iF];lia)) ⟨e,?_⟩;refine⟨y,_,I.Ub hH e ?_ r.dropLast ?_,ru,q⟩
 ·show its.toArray.eraseIdxIfInBounds (its.toArray.size-1)=its.dropLast.toArray;rw[iF,V4,eb']
 ·rw[List.length_dropLast];lia
def eg':V->List V->Hp->VK->Prop:=λx vs H Q=>∃ l xs i k y,x=.ref l/\vs=[.int i]/\H l=some (.lst xs)/\-(2 ^ 63)<=i/\i<2 ^ 63/\seqIndex? i xs.length=some k/\xs[k]? = some y/\Q y (upd H l (.lst (xs.eraseIdx k)))
def eh':Ua X "list.pop" eg':=by
 intro pins s σ H x vs v us Q I rx rv h;obtain⟨l,xs,i,k,y,rfl,rfl,hH,h1,h2,hk,hy,q⟩:=h;cases rx;obtain⟨u,rfl,ru⟩:=rv.one;obtain⟨t,rfl⟩:=ru;obtain⟨z,its,n,r,hl,e⟩:=I.Ud hH;obtain⟨w,hw,mP⟩:=r.get hy;refine call_meets F.slot_list_pop ⟨_,e,rfl⟩ F.entry_list_pop (F.args_list_pop_2 _ _) (MeetsSeq.list_pop_at l its.toArray n i t k w (fitsIndex_both h1 h2) (by rw[iF,<- hl];exact hk) (by rw[<- mh];exact hw) (by rw[iF];lia)) ⟨e,?_⟩
 refine⟨y,_,I.Ub hH e ?_ (r.eraseIdx k) ?_,mP,q⟩
 ·show its.toArray.eraseIdxIfInBounds k=(its.eraseIdx k).toArray;rw[V4]
 ·have:=Zd xs k;lia
end
section
set_option maxRecDepth 100000 in
end
section
variable {κ:Type}[DecidableEq κ]
def pS(kvs:List (κ × V))(k:κ):Option V:=(kvs.find? λkv=>decide (kv.1=k)).map (·.2)
def putK(kvs:List (κ × V))(k:κ)(v:V):List (κ × V) :=
 if (kvs.any λkv=>decide (kv.1=k))=true then kvs.map (λkv=>if kv.1=k then (kv.1,v) else kv) else kvs++[(k,v)]
def Ze(kvs:List (κ × V))(k:κ):List (κ × V):=kvs.filter λkv=>decide (kv.1≠k)
def QL{p:κ × V}{r:List (κ × V)}{k:κ}(e:p.1=k):pS (p :: r) k=some p.2:=by simp[pS,LP,e]
def QN{p:κ × V}{r:List (κ × V)}{k:κ}(e:¬ p.1=k):pS (p :: r) k=pS r k:=by simp[pS,LP,e]
theorem Uh(k:κ):∀ kvs:List (κ × V),(kvs.any λkv=>decide (kv.1=k))=(pS kvs k).isSome
 |[]=>rfl
 |p :: r=>by
  rw[DC];by_cases e:p.1=k
  ·simp only[QL e,decide_eq_true e,Bool.true_or,Option.isSome_some]
  ·rw[QN e,decide_eq_false e,Bool.false_or];exact Uh k r
def Ui(kvs:List (κ × V))(k:κ)(v:V):(putK kvs k v).length<=kvs.length+1:=by
 unfold putK;split
 ·rw[b6];exact Nat.le_add_right _ _
 ·rw[ot,oS,P0];exact cx _
def xo.Ol(r:xo o u):o.isSome=u.isSome:=by
 cases o with
 |none=>cases u with
  |none=>rfl
  |some _=>exact(r).elim
 |some _=>cases u with
  |none=>exact(r).elim
  |some _=>rfl
def xo.getD(r:xo o u)(rd:RelV d d'):RelV (o.getD d) (u.getD d'):=by
 cases o with
 |none=>cases u with
  |none=>exact rd
  |some _=>exact(r).elim
 |some _=>cases u with
  |none=>exact(r).elim
  |some _=>exact r
def KV.val{kvs:List (κ × V)}{vs:List (κ × ae)}(r:KV kvs vs)(k:κ):xo (pS kvs k) (valueAt vs k):=by
 induction r with
 |nil=>exact True.intro
 |@cons p q ps qs h t ih =>
  obtain⟨h1,h2⟩:=h;by_cases e:p.1=k
  ·have e':q.1=k:=h1.symm.trans e;have b:valueAt (q :: qs) k=some q.2:=by simp[valueAt,LP,e']
   rw[QL e,b];exact h2
  ·have e':¬ q.1=k:=λz=>e (h1.trans z);have b:valueAt (q :: qs) k=valueAt qs k:=by simp[valueAt,LP,e']
   rw[QN e,b];exact ih
def KV.any(r:KV kvs vs)(k:κ):(kvs.any λkv=>decide (kv.1=k))=vs.any λkv=>decide (kv.1=k):=by
 induction r with
 |nil=>rfl
 |cons h t ih=>rw[DC,DC,ih,h.1]
def KV.repl(r:KV kvs vs)(k:κ)(ry:RelV y u) :
  KV (kvs.map λkv=>if kv.1=k then (kv.1,y) else kv) (vs.map λkv=>if kv.1=k then (kv.1,u) else kv):=by
 induction r with
 |nil=>exact .nil
 |@cons p q ps qs h t ih =>
  rw[gd,gd];refine .cons ?_ ih;obtain⟨h1,h2⟩:=h;by_cases e:p.1=k
  ·rw[if_pos e,if_pos (h1.symm.trans e)];exact⟨h1,ry⟩
  ·rw[if_neg e,if_neg (λz=>e (h1.trans z))];exact⟨h1,h2⟩
def KV.put(r:KV kvs vs)(k:κ)(ry:RelV y u):KV (putK kvs k y) (stored vs k u):=by
 unfold putK stored;rw[r.any k];by_cases e:(vs.any λkv=>decide (kv.1=k))=true
 ·rw[if_pos e,if_pos e];exact r.repl k ry
 ·rw[if_neg e,if_neg e];exact Paired.snoc r ⟨rfl,ry⟩
def KV.drop(r:KV kvs vs)(k:κ):KV (Ze kvs k) (without vs k):=by
 unfold Ze without
 induction r with
 |nil=>exact .nil
 |@cons p q ps qs h t ih =>
  obtain⟨h1,h2⟩:=h;rw[List.filter_cons,List.filter_cons];by_cases e:p.1=k
  ·have a:¬ decide (p.1≠k)=true:=by simp[e]
   have b:¬ decide (q.1≠k)=true:=by simp[h1.symm.trans e]
   rw[if_neg a,if_neg b];exact ih
  ·have e':¬ q.1=k:=λz=>e (h1.trans z);have a:decide (p.1≠k)=true:=by simp[e]
   have b:decide (q.1≠k)=true:=by simp[e']
   rw[if_pos a,if_pos b];exact .cons ⟨h1,h2⟩ ih
def KV.length(r:KV kvs vs):kvs.length=vs.length:=Paired.length r
end
def HP{P:d5}(r:RelV (kV k) u):(kg P w).is k u=true:=by
 cases k with
 |inl i=>obtain⟨t,e⟩:=(r);subst e;exact bz' P w i t
 |inr x=>obtain⟨t,e⟩:=(r);subst e;exact bA' P w x t
theorem Uj{P:d5}:∀ {ks:List Key} {us:List ae},Vals (ks.map kV) us->ItemsAre (kg P w) ks us
 |[],_,r=>by rw[List.map_nil] at r;cases r;exact .nil
 |k :: ks,_,r=>by
  cases r with
  |cons h t=>exact .cons (HP h) (Uj t)
abbrev KT(H:Hp):List (List Key × V)->List (List Key × ah × ae)->Prop:=Paired λp q=>p.1=q.1/\H q.2.1=some (.tup (p.1.map kV))/\RelV p.2 q.2.2
def KT.val{H:Hp}{kvs:List (List Key × V)}{xs:List (List Key × ah × ae)}(r:KT H kvs xs)(k:List Key):xo (pS kvs k) ((atKey xs k).map (·.2)):=by
 induction r with
 |nil=>exact True.intro
 |@cons p q ps qs h t ih =>
  obtain⟨h1,_,h2⟩:=h;by_cases e:p.1=k
  ·have e':q.1=k:=h1.symm.trans e;have b:atKey (q :: qs) k=some q.2:=by simp[atKey,LP,e']
   rw[QL e,b];exact h2
  ·have e':¬ q.1=k:=λz=>e (h1.trans z);have b:atKey (q :: qs) k=atKey qs k:=by simp[atKey,LP,e']
   rw[QN e,b];exact ih
def KT.repl(r:KT H kvs xs)(k:List Key)(ry:RelV y u) :
  KT H (kvs.map λkv=>if kv.1=k then (kv.1,y) else kv) (xs.map (putAt k u)):=by
 induction r with
 |nil=>exact .nil
 |@cons p q ps qs h t ih =>
  rw[gd,gd];refine .cons ?_ ih;obtain⟨h1,h2,h3⟩:=h;unfold putAt;by_cases e:p.1=k
  ·rw[if_pos e,if_pos (h1.symm.trans e)];exact⟨h1,h2,ry⟩
  ·rw[if_neg e,if_neg (λz=>e (h1.trans z))];exact⟨h1,h2,h3⟩
def KT.put(r:KT H kvs xs)(k:List Key)(hb:H b=some (.tup (k.map kV)))(ry:RelV y u) :
  KT H (putK kvs k y) (storedH xs k b u):=by
 have e:(kvs.any λkv=>decide (kv.1=k))=(atKey xs k).isSome:=by rw[Uh,(r.val k).Ol,Te]
 unfold putK storedH;rw[e];by_cases q:(atKey xs k).isSome=true
 ·rw[if_pos q,if_pos q];exact r.repl k ry
 ·rw[if_neg q,if_neg q];exact Paired.snoc r ⟨rfl,hb,ry⟩
def KT.keeps(r:KT H kvs xs)(ht:∀ b ys,H b=some (.tup ys)->H' b=some (.tup ys)):KT H' kvs xs :=
 Paired.Tn r λ_ _ z=>⟨z.1,ht _ _ z.2.1,z.2.2⟩
section
variable {P:d5}{w:eC}{H:Hp}{h:df}{a:ah}
def Zf(ok:iX P w H h)(e:Rd H a u):iS P w H h a u:=e.ok ok
def E4(ok:iX P w H h)(e:Rd H a (.dK kvs)):kvs.length<=bX/\(a == ti)=false/\∃ vs,KV kvs vs/\h.DictOf (kg P w) a vs :=
 show iS P w H h a (.dK kvs) from Zf ok e
def Zg(ok:iX P w H h)(e:H a=some (.dK kvs)):kvs.length<=bX/\(a == ti)=false/\∃ vs,KV kvs vs/\h.DictOf (kg P w) a vs:=E4 ok (.inl e)
def HV(ok:iX P w H h)(e:H a=some (.tup (ks.map kV))):(BD (kg P w)).is h ks a:=by
 obtain⟨_,its,r,o,h1,h2,n,h3⟩:=(ok a _ e)
 exact⟨o,its.toArray,n,h1,h2,h3,by simpa using Uj r⟩
def HZ(ok:iX P w H h)(e:Rd H a (.dT kvs)):kvs.length<=bX/\(a == ti)=false /\
  ∃ xs,KT H kvs xs/\h.DictOfH (BD (kg P w)) a xs:=by
 obtain⟨z,y,xs,r,o,es,ep,h1,h2,h3,h4,h5⟩:=(Zf ok e)
 refine⟨z,y,xs,r,o,es,ep,h1,h2,h3,h4,λx hx=>?_,h5⟩;have all:∀ {l:List (List Key × V)} {m:List (List Key × ah × ae)},KT H l m->∀ x∈m,(BD (kg P w)).is h x.1 x.2.1:=by
  intro l m q
  induction q with
  |nil=>intro x hx;exact nomatch hx
  |@cons p q ps qs hq t ih =>
   intro x hx;rcases eB.mp hx with e|hx
   ·subst e;exact HV ok (by rw[<- hq.1];exact hq.2.1)
   ·exact ih x hx
 exact all r x hx
def Zh(ok:iX P w H h)(e:H a=some (.dT kvs)):kvs.length<=bX/\(a == ti)=false /\
  ∃ xs,KT H kvs xs/\h.DictOfH (BD (kg P w)) a xs:=HZ ok (.inl e)
end
def lh(H:Hp)(a:ah)(y:V)(r:Option V):Prop :=
 (∃ kvs k,Rd H a (.dK kvs)/\y=kV k/\r=pS kvs k)\/∃ kvs k b,Rd H a (.dT kvs)/\y=.ref b/\H b=some (.tup (k.map kV))/\r=pS kvs k
def E5(H:Hp)(a:ah)(y v:V)(H':Hp):Prop :=
 (∃ kvs k,H a=some (.dK kvs)/\y=kV k/\kvs.length<bX/\H'=upd H a (.dK (putK kvs k v))) \/
 ∃ kvs k b,H a=some (.dT kvs)/\y=.ref b/\H b=some (.tup (k.map kV))/\kvs.length<bX/\H'=upd H a (.dT (putK kvs k v))
def lh.k{H:Hp}{a:ah}{kvs:List (Key × V)}{k:Key}(e:H a=some (.dK kvs)):lh H a (kV k) (pS kvs k):=.inl ⟨kvs,k,.inl e,rfl,rfl⟩
def lh.t{H:Hp}{a b:ah}{kvs:List (List Key × V)}{k:List Key}(e:H a=some (.dT kvs))(eb:H b=some (.tup (k.map kV))):lh H a (.ref b) (pS kvs k):=.inr ⟨kvs,k,b,.inl e,rfl,eb,rfl⟩
def E5.k{H:Hp}{a:ah}{kvs:List (Key × V)}{k:Key}{v:V}(e:H a=some (.dK kvs))(hl:kvs.length<bX):E5 H a (kV k) v (upd H a (.dK (putK kvs k v))):=.inl ⟨kvs,k,e,rfl,hl,rfl⟩
def E5.t{H:Hp}{a b:ah}{kvs:List (List Key × V)}{k:List Key}{v:V}(e:H a=some (.dT kvs))(eb:H b=some (.tup (k.map kV)))(hl:kvs.length<bX) :
  E5 H a (.ref b) v (upd H a (.dT (putK kvs k v))):=.inr ⟨kvs,k,b,e,rfl,eb,hl,rfl⟩
section
variable {X:Cx}{pins:List (ah × Obj)}{σ:St}{H:Hp}{s:ax}{a:ah}{y v:V}{u r:ae}{o:Option V}{A:e7}{E:ae->ax->Prop}
def Inv.big(I:Inv X pins σ H s):ti<s.heap.objs.size:=by have h:kL<s.heap.objs.size:=(I.mod.glob.keeps I.bk).lt;exact Ta (by decide) h
def ej'(hu:A.units+1<e9)(I:Inv X pins σ H s)(g:lh H a y (some v))(ry:RelV y u)(h:∀ w' s',Inv X pins σ H s'->RelV v w'->Q w' s') :
  bq (aI X.prog X.w) A (getItem (.ref a) u) Q E s:=by
 rcases g with⟨kvs,k,e,ey,l⟩|⟨kvs,k,b,e,ey,eb,l⟩
 ·subst ey;obtain⟨z,hd,vs,rel,dd⟩:=E4 I.b9 e;obtain⟨w',hw,mP⟩:=xo.some_of (by rw[l];exact rel.val k);exact wpAny_getItem_of (HP ry) dd.mapOf hw (h w' _ (I.tok _) mP)
 ·subst ey;cases (ry);obtain⟨z,hd,xs,rel,dd⟩:=HZ I.b9 e;obtain⟨w',hw,mP⟩:=xo.some_of (by rw[l];exact rel.val k);obtain⟨p,hp,hp2⟩:=GY.mp hw;refine wpAny_getItem_heap (K0 hu) (HV I.b9 eb) dd hp ?_;rw[hp2];exact h w' _ (I.tok _) mP
def el'(hu:A.units+1<e9)(I:Inv X pins σ H s)(g:lh H a y o)(ry:RelV y u)(h:∀ s',Inv X pins σ H s'->Q (.bool o.isSome) s') :
  bq (aI X.prog X.w) A (gI .In u (.ref a)) Q E s:=by
 rcases g with⟨kvs,k,e,ey,l⟩|⟨kvs,k,b,e,ey,eb,l⟩
 ·subst ey;obtain⟨z,hd,vs,rel,dd⟩:=E4 I.b9 e;refine wpAny_in_of (HP ry) hd dd.mapOf ?_;rw[<- (rel.val k).Ol,<- l];exact h _ (I.tok _)
 ·subst ey;cases (ry);obtain⟨z,hd,xs,rel,dd⟩:=HZ I.b9 e;refine wpAny_in_heap (K0 hu) (HV I.b9 eb) hd dd ?_;have q:=(rel.val k).Ol;rw[Te] at q;rw[<- q,<- l];exact h _ (I.tok _)
def em'(hu:A.units+1<e9)(I:Inv X pins σ H s)(g:lh H a y o)(ry:RelV y u)(h:∀ s',Inv X pins σ H s'->Q (.bool (!o.isSome)) s') :
  bq (aI X.prog X.w) A (gI .NotIn u (.ref a)) Q E s:=by
 rcases g with⟨kvs,k,e,ey,l⟩|⟨kvs,k,b,e,ey,eb,l⟩
 ·subst ey;obtain⟨z,hd,vs,rel,dd⟩:=E4 I.b9 e;refine wpAny_notIn_of (HP ry) hd dd.mapOf ?_;rw[<- (rel.val k).Ol,<- l];exact h _ (I.tok _)
 ·subst ey;cases (ry);obtain⟨z,hd,xs,rel,dd⟩:=HZ I.b9 e;refine wpAny_notIn_heap (K0 hu) (HV I.b9 eb) hd dd ?_;have q:=(rel.val k).Ol;rw[Te] at q;rw[<- q,<- l];exact h _ (I.tok _)
def QQ(I:Inv X pins σ H s)(mu:NZ (H a))(hs:Heap.SameBut a s.heap h')(he:∃ q,h'.get? a=some q)(new:iS X.prog X.w (upd H a ob) h' a ob) :
  Inv X pins σ (upd H a ob) { s with heap:=h',toks:=t' } :=
 I.write mu (.inl rfl) (λb q hb z=>(hs.2 b hb).trans z) he new
def Zi{P:d5}(z:kvs.length<=bX)(hd:(a == ti)=false)(rel:KV kvs vs)(dd:h'.DictOf (kg P w) a vs) :
  iS P w H' h' a (.dK kvs):=⟨z,hd,vs,rel,dd⟩
def en'(hu:A.units+1<e9)(I:Inv X pins σ H s)(g:E5 H a y v H')(ry:RelV y u)(rv:RelV v r)(h:∀ s',Inv X pins σ H' s'->Q () s') :
  bq (aI X.prog X.w) A (setItem (.ref a) u r) Q E s:=by
 rcases g with⟨kvs,k,e,ey,l,eH⟩|⟨kvs,k,b,e,ey,eb,l,eH⟩
 ·subst ey eH;obtain⟨z,hd,vs,rel,dd⟩:=Zg I.b9 e;have hz:vs.length<=bX:=by rw[<- rel.length];exact z
  have hl:(putK kvs k v).length<=bX:=by have:=Ui kvs k v;lia
  refine wpAny_setItem_pairs (HP ry) dd λh' DM hs=>h _ ?_;have he:∃ q,h'.get? a=some q:=let ⟨q,_,_,hq,_⟩:=DM;⟨q,hq⟩
  exact QQ I (by rw[e];exact True.intro) hs he (Zi hl hd (rel.put k rv) DM)
 ·subst ey eH;cases (ry);obtain⟨z,hd,xs,rel,dd⟩:=Zh I.b9 e;have hz:xs.length<=bX:=by rw[<- Paired.length rel];exact z
  have hl:(putK kvs k v).length<=bX:=by have:=Ui kvs k v;lia
  refine wpAny_setItem_heap (K0 hu) (HV I.b9 eb) dd λh' DM hs=>h _ ?_;obtain⟨q,es,ep,hq,h2,h3,h4,_,h5⟩:=DM;refine QQ I (by rw[e];exact True.intro) hs ⟨q,hq⟩ ⟨hl,hd,_,(rel.put k eb rv).keeps λc ys ec=>?_,q,es,ep,hq,h2,h3,h4,h5⟩;rw[fF (V8 ec e (λz=>nomatch z))];exact ec
end
section
variable {X:Cx}{pins:List (ah × Obj)}{σ:St}{H:Hp}{s:ax}{a:ah}{kvs:List (Key × V)}{A:e7}{E:ae->ax->Prop}
def eo' (I:Inv X pins σ H s) (e:Rd H a (.dK kvs)) (h:∀ t s',Inv X pins σ H s'->Q (.int kvs.length t) s'):bq (aI X.prog X.w) A (call (.builtin "len") [.ref a]) Q E s:=by obtain⟨z,hd,vs,rel,dd⟩:=E4 I.b9 e;refine call_len_dict hd dd (by rw[<- rel.length];rw[j3] at z;lia) ?_;rw[<- rel.length];exact h _ _ (I.tok _)
end
def eq' {X:Cx} (I:Inv X pins σ H s) (g:lh H a y o):s.TypeIs (.ref a) "dict" := by
 rcases g with⟨kvs,k,e,_,_⟩|⟨kvs,k,b,e,_,_,_⟩
 ·obtain⟨_,_,vs,_,dd⟩:=E4 I.b9 e;exact dd.typeIs
 ·obtain⟨_,_,xs,_,dd⟩:=HZ I.b9 e;exact dd.typeIs
def er'(td ty tv:TE):TS:=λD σ H=>tv σ H λv H1=>td σ H1 λx H2=>ty σ H2 λy H3=>∃ a H4,x=.ref a/\E5 H3 a y v H4/\D.nx σ H4
section
variable {X:Cx}{o i value:Expr}{pos pos':Pos}{td ty tv:TE}
def et'(hu:X.A.units+1<e9)(ho:PE X o td)(hi:PE X i ty)(hv:PE X value tv)(hs:xh value (some (.Subscript o i pos')) pos.line X.env=pure false) :
  PS X (.Assign [.Subscript o i pos'] value pos) (er' td ty tv):=by
 intro pins s σ H D I h;refine wpAny_Assign_Subscript (dz (hv pins s σ H _ I h) λr s1 dQ=>L2.g7 dQ λv H1 I1 rv q1=>dz (ho pins s1 σ H1 _ I1 q1) λu s2 dQ=>L2.g7 dQ λx H2 I2 rx q2=>dz (hi pins s2 σ H2 _ I2 q2) λiv s3 eI=>?_) hs;obtain⟨y,H3,I3,ry,a,H4,ex,g,q3⟩:=eI;subst ex;obtain rfl:u=Value.ref a:=rx;exact en' hu I3 g ry rv λs4 I4=>⟨σ,H4,I4,q3⟩
end
def eu' {P:d5} (h:df) (hb:ti<h.objs.size):iS P w H (h.push { cls:=.type "dict",data:=.dict #[] }) h.objs.size (.dK []) :=
 ⟨fE _,beq_eq_false_iff_ne.mpr (Ne.symm (gi hb)),[],.nil,Heap.DictOf.new h⟩
def ev' {P:d5} (h:df) (hb:ti<h.objs.size):iS P w H (h.push { cls:=.type "dict",data:=.dict #[] }) h.objs.size (.dT []) :=
 ⟨fE _,beq_eq_false_iff_ne.mpr (Ne.symm (gi hb)),[],.nil,_,#[],0,kP _ rfl,⟨rfl,rfl,rfl⟩,rfl,rfl,n9⟩
def ew':TE:=λ_ H Q=>∀ p,H p=none->Q (.ref p) (upd H p (.dT []))
section
variable {X:Cx}{pos:Pos}
def ex':PE X (.Dict [] [] pos) ew':=λpins s σ H Q I h =>
 wpAny_Dict_empty ⟨.ref s.heap.objs.size,_,I.laid (λ_ _ q=>gu _ q) (cx _) (ev' s.heap I.big),rfl,h _ (I.b9.fresh (cx _))⟩
end
def Uk:List (TE × TE)->St->Hp->(List (V × V)->Hp->Prop)->Prop
 |[],_,H,Q=>Q [] H
 | (tk,tv) :: r,σ,H,Q=>tk σ H λx H1=>tv σ H1 λy H2=>Uk r σ H2 λps H3=>Q ((x,y) :: ps) H3
abbrev VV:List (V × V)->List (ae × ae)->Prop:=Paired λp q=>RelV p.1 q.1/\RelV p.2 q.2
def QR(X:Cx)(pos:Pos)(keys:List (Option Expr))(values:List Expr)(Ic:List (TE × TE)):Prop :=
 ∀ (pins:List (ah × Obj)) (s:ax) (σ:St) (H:Hp) (Q:List (V × V)->Hp->Prop),Inv X pins σ H s->Uk Ic σ H Q ->
  bq (aI X.prog X.w) X.A (evalPairs (pairTrees keys values X.env pos)) (λvs s'=>∃ ps H',Inv X pins σ H' s'/\VV ps vs/\Q ps H') X.xe s
def ey'{X:Cx}:QR X pos [] [] []:=λpins s σ H Q I h=>pairTrees_nil_walk ⟨[],H,I,.nil,h⟩
def ez'{X:Cx}(hk:PE X k tk)(hv:PE X v tv)(hr:QR X pos ks vs Ic) :
  QR X pos (some k :: ks) (v :: vs) ((tk,tv) :: Ic):=λpins s σ H Q I h =>
 pairTrees_cons_walk (dz (hk pins s σ H _ I h) λu s1 dQ=>L2.g7 dQ λx H1 I1 rx q1=>dz (hv pins s1 σ H1 _ I1 q1) λw2 s2 dQ=>L2.g7 dQ λy H2 I2 ry q2 =>
  dz (hr pins s2 σ H2 _ I2 q2) λws s3 dQ=>L2.g7 dQ λps H3 I3 rel q3=>⟨(x,y) :: ps,H3,I3,.cons ⟨rx,ry⟩ rel,q3⟩)
def Om(kvs more:List (Key × V)):List (Key × V):=more.foldl (λacc kv=>putK acc kv.1 kv.2) kvs
def KV.merge:∀ {more:List (Key × V)} {rs:List (Key × ae)} {kvs:List (Key × V)} {vs:List (Key × ae)},KV more rs->KV kvs vs->KV (Om kvs more) (merged vs rs):=by
 intro more rs kvs vs r
 induction r generalizing kvs vs with
 |nil=>intro q;exact q
 |@cons p q ps qs h t ih =>
  intro r0;have e:KV (putK kvs p.1 p.2) (stored vs q.1 q.2):=by have:=r0.put p.1 h.2;rw[<- h.1];exact this
  exact ih e
theorem Zj:∀ (more kvs:List (Key × V)),(Om kvs more).length<=kvs.length+more.length
 |[],kvs=>by show kvs.length<=kvs.length+0;lia
 |p :: r,kvs=>by have h1:=Zj r (putK kvs p.1 p.2);have h2:=Ui kvs p.1 p.2;show(Om (putK kvs p.1 p.2) r).length<=_;rw[oS];lia
theorem Zk{P:d5}:∀ {kvs:List (Key × V)} {ws:List (ae × ae)},VV (kvs.map λkv=>(kV kv.1,kv.2)) ws->∃ rs,Carries (kg P w) ws rs/\KV kvs rs
 |[],_,r=>by rw[List.map_nil] at r;cases r;exact⟨[],True.intro,.nil⟩
 |p :: kvs,_,r=>by
  cases r with
  |@cons a b as bs h t =>obtain⟨rs,c,q⟩:=Zk t;obtain⟨b1,b2⟩:=b;exact⟨(p.1,b2) :: rs,⟨HP h.1,rfl,c⟩,.cons ⟨rfl,h.2⟩ q⟩
def eA'(Ic:List (TE × TE)):TE:=λσ H Q=>∀ p,H p=none->Uk Ic σ (upd H p (.dK [])) λps H2=>H2 p=some (.dK [])/\∃ kvs:List (Key × V),ps=kvs.map (λkv=>(kV kv.1,kv.2))/\kvs.length<=15/\Q (.ref p) (upd H2 p (.dK (Om [] kvs)))
def eB'{X:Cx}(h:QR X pos keys values Ic)(oz:keys.all (·.isSome)=true)(hl:keys.length=values.length)(h0:keys≠[])(h15:keys.length<=15):PE X (.Dict keys values pos) (eA' Ic):=by
 intro pins s σ H Q I q;have hn:=I.b9.fresh (cx s.heap.objs.size);have I1:=I.laid (t':=s.toks) (λ_ _ q=>gu _ q) (cx _) (eu' s.heap I.big);refine wpAny_Dict_walk (knd:=kg X.prog X.w) oz hl h0 h15 (dz (h pins _ σ _ _ I1 (q _ hn)) λws s2 eI=>?_);obtain⟨ps,H2,I2,rel,e,kvs,ep,lk,q2⟩:=eI;subst ep;obtain⟨rs,c,rk⟩:=Zk (P:=X.prog) (w:=X.w) rel;obtain⟨z,hd,vs0,r0,dd⟩:=Zg I2.b9 e;cases r0;refine⟨rs,c,dd,λh' DM hs=>⟨.ref s.heap.objs.size,_,?_,rfl,q2⟩⟩;have hz:(Om [] kvs).length<=bX:=by have h1:=Zj kvs [];rw[P0] at h1;rw[j3];lia
 have he:∃ q,h'.get? s.heap.objs.size=some q:=let ⟨q,_,_,hq,_⟩:=DM;⟨q,hq⟩
 exact QQ I2 (by rw[e];exact True.intro) hs he (Zi hz hd (rk.merge .nil) DM)
structure M1(X:Cx)(o:Expr)(m:Str)(apos:Pos)(e:Expr)(eP:Pos):Prop where
 base:zI o m X.env (dn o X.env)=dn o X.env
 few:((kA eP (b4 [e] X.env)).all (fun x=>!x.1) && (backToKw eP (CH [] X.env)).all (fun x=>x.1.isSome)
  && decide (([e]:List Expr).length+([]:List oQ).length+(if ([]:List oQ).isEmpty then 0 else 1)<30))=true
 line:(apos.endLine == eP.line)=true
 trees:kA eP (b4 [e] X.env)=[(false,dn e X.env)]
structure M2(X:Cx)(o:Expr)(m:Str)(apos:Pos)(e f:Expr)(eP:Pos):Prop where
 base:zI o m X.env (dn o X.env)=dn o X.env
 few:((kA eP (b4 [e,f] X.env)).all (fun x=>!x.1) && (backToKw eP (CH [] X.env)).all (fun x=>x.1.isSome)
  && decide (([e,f]:List Expr).length+([]:List oQ).length+(if ([]:List oQ).isEmpty then 0 else 1)<30))=true
 line:(apos.endLine == eP.line)=true
 trees:kA eP (b4 [e,f] X.env)=[(false,dn e X.env),(false,dn f X.env)]
def QV(H:Hp)(a:ah):Prop:=(∃ kvs,Rd H a (.dK kvs))\/∃ kvs,Rd H a (.dT kvs)
def eE'{X:Cx}(I:Inv X pins σ H s)(d:QV H a) :
  s.TypeIs (.ref a) "dict"/\(∀ b,Value.ref a=.ref b->∃ ob,s.heap.get? b=some ob/\ob.dict=none)/\(a == ti)=false:=by
 rcases d with⟨kvs,e⟩|⟨kvs,e⟩
 ·obtain⟨_,hd,vs,_,dd⟩:=E4 I.b9 e;refine⟨dd.typeIs,λb q=>?_,hd⟩;cases q;obtain⟨ob,_,_,h1,h2,_⟩:=dd;exact⟨ob,h1,h2.2.1⟩
 ·obtain⟨_,hd,xs,_,dd⟩:=HZ I.b9 e;refine⟨dd.typeIs,λb q=>?_,hd⟩;cases q;obtain⟨ob,_,_,h1,h2,_⟩:=dd;exact⟨ob,h1,h2.2.1⟩
section
variable {X:Cx}{pins:List (ah × Obj)}{σ:St}{H:Hp}{s:ax}{a:ah}{y:V}{u:ae}{o:Option V}{A:e7}{E:ae->ax->Prop}
def eF'(hu:A.units+1<e9)(I:Inv X pins σ H s)(g:lh H a y o)(ry:RelV y u)(h:∀ w' s',Inv X pins σ H s'->RelV (o.getD .non) w'->Q w' s') :
  bq (aI X.prog X.w) A (call (.builtin "dict.get") [.ref a,u]) Q E s:=by
 rcases g with⟨kvs,k,e,ey,l⟩|⟨kvs,k,b,e,ey,eb,l⟩
 ·subst ey;obtain⟨z,hd,vs,rel,dd⟩:=E4 I.b9 e;refine call_meetsIn PySem.F.slot_dict_get dd.typeIs PySem.F.entry_dict_get (PySem.F.args_dict_get_2 _ _) (meets_dict_get (kg X.prog X.w) a (HP ry) hd) ⟨_,dd.mapOf,h _ _ (I.tok _) ?_⟩;rw[l];exact(rel.val k).getD rfl
 ·subst ey;cases (ry);obtain⟨z,hd,xs,rel,dd⟩:=HZ I.b9 e;refine call_meetsIn PySem.F.slot_dict_get dd.typeIs PySem.F.entry_dict_get (PySem.F.args_dict_get_2 _ _) (meetsH_dict_get (BD (kg X.prog X.w)) a b hd) ⟨K0 hu,k,xs,HV I.b9 eb,dd,h _ _ (I.tok _) ?_⟩;rw[l];exact(rel.val k).getD rfl
end
def eG'(td ty:TE):TE:=λσ H Q=>td σ H λx H1=>∃ a,x=.ref a/\QV H1 a/\ty σ H1 λy H2=>∃ o,lh H2 a y o/\Q (o.getD .non) H2
def eH'(td ty tx:TE):TE:=λσ H Q=>td σ H λx H1=>∃ a,x=.ref a/\QV H1 a/\ty σ H1 λy H2=>tx σ H2 λz H3=>∃ o,lh H3 a y o/\Q (o.getD z) H3
section
variable {X:Cx}{o e:Expr}{apos eP:Pos}{td ty:TE}
def eI' (hu:X.A.units+1<e9) (ho:PE X o td) (he:PE X e ty) (m:M1 X o "get" apos e eP):PE X (.Call (.Attribute o "get" apos) [e] [] eP) (eG' td ty):=by intro pins s σ H Q I h;refine wpAny_Call_method m.base m.few m.line PySem.F.plainAttrs_dict PySem.F.slot_dict_get PySem.F.type_dict_get (dz (ho pins s σ H _ I h) λu s1 eI=>?_);obtain⟨x,H1,I1,rx,a,ex,d,q1⟩:=eI;subst ex;obtain rfl:u=Value.ref a:=rx;obtain⟨t1,t2,_⟩:=eE' I1 d;refine⟨t1,t2,?_⟩;rw[m.trees];refine Calls.callWith_builtin rfl (Calls.evalArgs_plain (Calls.spliced_cons (dz (he pins s1 σ H1 _ I1 q1) λiv s2 ⟨y,H2,I2,ry,ov,g,q2⟩=>Calls.spliced_nil ?_)));exact eF' hu I2 g ry λw' s3 I3 mP=>⟨_,H2,I3,mP,q2⟩
end
end L2
end
namespace Zm
open PySem PySem.W PySem.Calls PyProof.Rows
def eJ'{P:Params}:∀ (ns:List Int) (vs:List ae),WellAll P h vs (ns.map WData.int)->IntsAre vs ns:=by
 intro ns
 induction ns with
 |nil =>intro vs w;cases w;exact .nil
 |cons n ns ih =>
  intro vs w
  cases w with
  |cons a b =>cases a;exact .cons _ _ (ih _ b)
def eK'{l:OpenLaw}{n:Nat}(hn:l.most=some n){P:Params}{h:df}{args:List WData}{vals:List ae}(E6:l.row.toRowW.claim.pre args=true) (DS:WellAll P h vals args) :
  ∃ a vs ns,vals=[Value.ref a]/\args=[WData.list (ns.map WData.int)]/\h.get? a=some { cls:=.type "list",data:=.seq vs.toArray }/\IntsAre vs ns/\ns.length<=n:=by
 have MD:WShape.hasAll [] args [.list .int]=true:=(pre_splitW E6).1;have hc:l.pre.holds [] { args:=args }=true:=(pre_splitW E6).2;obtain⟨d,r,rfl,h1,h2⟩:=hasAllW_cons MD;obtain rfl:=hasAllW_nil h2;obtain⟨xs,rfl,h3⟩:=hasW_list h1;obtain⟨ns,rfl⟩:=items_int h3;have hlen:ns.length<=n:=by
  have h4:(WTm.not (.lt (.lit (.int n)) (.len (.arg 0)))).holds [] { args:=[.list (ns.map .int)] }=true:=by have h4:=(holds_andW hc).1;rw[hn] at h4;exact h4
  have h5:=condW_of h4 (w_not (w_lt w_lit (w_len_list (w_arg rfl))));refine Nat.le_of_not_lt λq=>?_;first
   | (rw[decide_eq_true q'] at h5;exact absurd h5 (by decide))
   | (simp at h5;lia)
 cases DS with
 |cons w1 w2 =>
  cases w2
  cases w1 with
  |list ho oz=>exact⟨_,_,ns,rfl,rfl,ho,eJ' ns _ oz,hlen⟩
def eL'(l:OpenLaw)(args:List WData):l.row.toRowW.claim.post args (.bool true) args=true :=
 postW_of (by first|rfl|decide|simp[WShape.has,WShape.arms,WShape.armsAll]) (w_eq_bool (w_res rfl) w_lit) rfl
def eM'{l:OpenLaw}{n:Nat}{q:d5}{loose:List Str}{XP:(Str->Option ae)->df->Prop}{YP:eC->df->Prop}{d:DefRec}(hn:l.most=some n) (Oo:d.params.defaults=[])(call:∀ (w:eC) (kQ fN:ax) (mg mb:Str->Option ae) (fa:ah) (o:Obj) (pm cd doc:ae) (a:ah) (vs:List ae) (ns:List Int),
   Ground q loose [] XP w kQ mg mb fN.heap->YP w fN.heap ->
   fN.heap.get? fa=some o->o.data=.func (docDef d.name d.params d.body d.scope pm cd doc)->fN.heap.CodeRec cd d.name->mg d.name=some (.ref fa) ->
   fN.heap.get? a=some { cls:=.type "list",data:=.seq vs.toArray }->IntsAre vs ns->ns.length<=n->fN.gens = #[] ->
   codeAny (aI l.prog w) callerA (.call (.ref fa) ⟨[.ref a],[]⟩) (λr s'=>r=.ok (.ret (.bool true))/\OldK fN.heap s'.heap/\s'.os=fN.os/\AllBare s'.gens) fN) :
  WalkO q loose XP YP l.row.toRowW d [] (λf vs=>PySem.call f vs):=by
 intro w kQ fN mg mb G Y fa o pm cd doc dV kV ho hd tI hD Oq hg args vals as E6 hlay hrd DS E7;obtain rfl:dV=.none:=Dflts.none hD Oo;obtain rfl:kV=.none:=Dflts.noKw hD;obtain⟨a,vs,ns,rfl,rfl,Ul,hints,hlen⟩:=eK' hn E6 DS;refine enter_call (codeAny_mono (call w kQ fN mg mb fa o pm cd doc a vs ns G Y ho (fd_plain hd) tI Oq Ul hints hlen hg) λr s' hq=>?_);obtain⟨rfl,h2,h3,h4⟩:=hq;exact⟨.inl ⟨.bool true,.bool true,[],rfl,λ_=>rfl,.bool true,eL' l _,λ_=>⟨List.Pairwise.nil,λ_ hm=>(nomatch hm)⟩⟩,h2,h3,h4⟩
end Zm
section
open PySem PySem.Spec PyProof.Rows
namespace L2
theorem Zn:∀ {vs:List ae} {ns:List Int},IntsAre vs ns->Vals (ns.map V.int) vs
 |_,_,.nil=>.nil
 |_,_,.cons n t h=>.cons ⟨t,rfl⟩ (Zn h)
def Only(H:Hp):Prop:=∀ b,H b=none\/∃ o xs,H b=some (.pz o (.lst xs))
def eN'{P:d5}{K:aE}(KX:K.In fN.heap) (Zo:fN.heap.Ns kL mg) (hb:fN.heap.Ns builtinsNs mb) (B3:∀ x:Str,x ≠ "__name__"->mb x=kK x) (eO':fN.heap.NoLimit) (hg:fN.gens = #[])(ha:fN.heap.get? a=some { cls:=.type "list",data:=.seq vs.toArray }) (hi:IntsAre vs ns) (hl:ns.length<=bX) (hr:mN k callerA) (F:∀ base:df,K.In base->base.Ns kL mg->y3 P w K mg base CX k fa fd [x] sp) (eP':∀ (s:ax) (u:ae),BindsTo s fd ⟨[u],[]⟩ [(x,u)]) (E2:∀ H:Hp,Only H->fh K H a (ns.map V.int)->sp [.ref a] H (λv _=>v=.bl true) λ_ _ _=>False) (Um:∀ H e s',CX [] H fN (λ_ _ _=>False) e s'->False) :
  codeAny (aI P w) callerA (.call (.ref fa) ⟨[.ref a],[]⟩) (λr s'=>r=.ok (.ret (.bool true))/\OldK fN.heap s'.heap/\s'.os=fN.os/\AllBare s'.gens) fN:=by
 have rv:=Zn hi;have eQ':=hi.length
 -- from an abstract heap in which nothing but the script may be tracked
 have core:∀ H:Hp,Only H->fh K H a (ns.map V.int)->iX P w H fN.heap->(∀ b,H b≠none->b=a)->(H a≠none->K.lookup a=none) ->
   codeAny (aI P w) callerA (.call (.ref fa) ⟨[.ref a],[]⟩) (λr s'=>r=.ok (.ret (.bool true))/\OldK fN.heap s'.heap/\s'.os=fN.os/\AllBare s'.gens) fN:=by
  intro H hO hS b9 hA hK;have Zq:∀ {b:ah} {o:Obj},fN.heap.get? b=some o->H b=none->(DI fN.heap H).get? b=some o:=λe n=>bD' e n;have Oc:∀ {b:ah} {o:Obj} {es:Array DictEntry} {ep:Nat},fN.heap.get? b=some o->o.data=.dict es ep->H b=none:=λ{b o es ep} e d=>by
   cases q:H b with
   |none=>rfl
   |some u =>have e':b=a:=hA b (by rw[q];simp);subst e';rw[ha] at e;cases e;have d':Data.seq vs.toArray _=Data.dict es ep:=d;cases d'
  have QX:∀ {b:ah} {m:Str->Option ae},fN.heap.Ns b m->(DI fN.heap H).Ns b m:=λ{b m} ⟨o,es,ep,e,d,r⟩=>⟨o,es,ep,Zq e (Oc e d),d,r⟩
  have Zr:K.In (DI fN.heap H):=λb o e=>Zq (KX b o e) (by
   cases q:H b with
   |none=>rfl
   |some u =>
    have e':b=a:=hA b (by rw[q];simp);subst e';rw[hK (by rw[q];simp)] at e;cases e)
  have hM:Mod K mg (DI fN.heap H):=⟨Zr,QX Zo,⟨mb,QX hb,B3⟩,let ⟨mc,h1,h2⟩:=eO';⟨mc,QX h1,h2⟩⟩
  have e0:QC P w K mg (DI fN.heap H) callerA [] fN H:=⟨rfl,hM,λb o e=>bE' e,LX (bC' _ _),trivial,λb hb=>absurd (show b∈([]:List ah) from hb) (by simp),b9,.of_eq hg⟩
  refine codeAny_mono ((F _ Zr (QX Zo)).run callerA [] fN H ⟨[.ref a],[]⟩ [.ref a] [.ref a] _ _ hr e0 (eP' fN (.ref a)) (.cons rfl .nil) (E2 H hO hS)) λr s' h=>?_
  cases r with
  |error e=>exact(Um H e s' h).elim
  |ok fl =>
   cases fl with
   |next=>exact False.elim h
   |brk=>exact False.elim h
   |cont=>exact False.elim h
   |ret u =>
    obtain⟨v,H',os,bare,un,eR',r',q⟩:=h;have q':v=.bl true:=q;subst q';obtain rfl:u=Value.bool true:=r';refine⟨rfl,OldK.of_keep λb o e=>?_,os,bare⟩
    cases q:H b with
    |none=>exact un.keep b o e q (by intro z;exact absurd (show b∈([]:List ah) from z) (by simp)) (by simp)
    |some u =>
     rcases hO b with z|⟨ob,xs,z⟩
     ·rw[q] at z;cases z
     ·have z2:=un.yk b ob _ z;obtain⟨e1,_⟩:=b9 b _ z;obtain⟨e2,_⟩:=eR' b _ z2;rw[e] at e1;cases e1;exact e2
 cases hk:K.lookup a with
 |some o =>
  -- the script is one of the module's own objects
  have e:=KX a o hk;rw[ha] at e;cases e;refine core (λ_=>none) (λ_=>.inl rfl) (.inr ⟨_,vs.toArray,_,hk,rfl,rfl,rfl,by rw[iF,eQ'];exact hl,by simpa using rv⟩) (λb u z=>by have z':none=some u:=z;cases z') (λb z=>absurd rfl z) λz=>absurd rfl z
 |none =>
  refine core (λb=>if b=a then some (.pz { cls:=.type "list",data:=.seq vs.toArray } (.lst (ns.map V.int))) else none) (λb=>?_) (.inl (.inr ⟨{ cls:=.type "list",data:=.seq vs.toArray },if_pos rfl⟩)) (λb u z=>?_) (λb z=>?_) λ_=>hk
  ·by_cases hb:b=a
   ·exact .inr ⟨_,_,if_pos hb⟩
   ·exact .inl (if_neg hb)
  ·by_cases hb:b=a
   ·have z':=(if_pos hb).symm.trans z;cases z';subst hb;exact⟨ha,by rw[b6];exact hl,vs,_,rv,ha⟩
   ·have z':=(if_neg hb).symm.trans z;cases z'
  ·by_cases hb:b=a
   ·exact hb
   ·exact absurd (if_neg hb) z
def eS'{l:Sy}{n k:Nat}{q:d5}{loose:List Str}{XP:(Str->Option ae)->df->Prop}{YP:eC->df->Prop}{d:DefRec}{K:Params->aE}{CX:eC->EX}{sp:eC->Sp}{x:Str}(hn:l.most=some n) (Iq:n<=bX) (Oo:d.params.defaults=[]) (hr:mN k callerA)(hY:∀ (w:eC) (h:df),YP w h->(K w.params).In h)(F:∀ (w:eC) (mg:Str->Option ae) (fa:ah) (h:df),(K w.params).In h->h.Ns kL mg->mg d.name=some (.ref fa) ->
   ∃ fd:FuncData,(∀ (s:ax) (u:ae),BindsTo s fd ⟨[u],[]⟩ [(x,u)]) /\
    ∀ base:df,(K w.params).In base->base.Ns kL mg->y3 l.prog w (K w.params) mg base (CX w) k fa fd [x] (sp w))
  (E2:∀ (w:eC) (H:Hp) (a:ah) (ns:List Int),ns.length<=n->Only H->fh (K w.params) H a (ns.map V.int)->sp w [.ref a] H (λv _=>v=.bl true) λ_ _ _=>False)
  (Um:∀ (w:eC) (H:Hp) (s:ax) (e:ae) (s':ax),CX w [] H s (λ_ _ _=>False) e s'->False) :
  PySem.W.WalkO q loose XP YP l.row.toRowW d [] (λf vs=>PySem.call f vs):=by
 refine Zm.eM' hn Oo λw kQ fN mg mb fa o pm cd doc a vs ns G Y ho hd tI Oq Ul hints hlen hg=>?_;have KX:=hY w _ Y;obtain⟨fd,hb,hF⟩:=F w mg fa _ KX G.T.g Oq;exact eN' KX G.T.g G.T.b G.T.builtins G.T.nolimit hg Ul hints (iP hlen Iq) hr hF hb (λH hO hS=>E2 w H a ns hlen hO hS) λH e s'=>Um w H fN e s'
def B4(s:Stmt):Arguments:=match s with
 |.FunctionDef _ a _ _ _ _ _ _ _ _=>a
 |_=>{ posonlyargs:=[],args:=[],vararg:=none,kwonlyargs:=[],kw_defaults:=[],kwarg:=none,defaults:=[] }
def xA(s:Stmt):List Stmt:=match s with
 |.FunctionDef _ _ b _ _ _ _ _ _ _=>b
 |_=>[]
def mr(s:Stmt):Scope:=match s with
 |.FunctionDef _ _ _ _ _ _ sc _ _ _=>sc
 |_=>{ kind:=.function,names:=[],isGenerator:=false,isCoroutine:=false }
abbrev vF:EX:=λ_ _ _ _ _ _=>False
abbrev E0:XK:=λ_ _ _=>False
def eT'{X:Cx}:Passes vF X E0:=λ_ _ _ _ _ _ _ h=>h.elim
structure B5(K:aE)(x qual:Str)(st:Stmt)(f:ah)(fd:FuncData):Prop where
 ex:∃ (oc:ae) (od:Option ah) (kV doc pm:ae) (an:Option ah) (gp ct:ae) (BU:Array (Option ae)),
  fd=yb x qual (B4 st) (xA st) (mr st) .none kV doc pm an gp ct/\K.lookup f=some ⟨oc,od,.func fd,BU⟩/\LG K gp qual=true
 kp:FV K (.ref f)=true
section
variable {P:d5}{w:eC}{K:aE}{mg:Str->Option ae}{base:df}
def B5.ok{st:Stmt}{N ps:List Str}(F:B5 K x qual st f fd)(S:Ob N ps (mr st))(len:∀ vs H Q E,sp vs H Q E->vs.length=ps.length)(Od:∀ (gp:ae) (A:e7) (outer:List Env) (s:ax) (H:Hp) (vs:List V) (Q:VK) (E:XK),mN k (A.deeper (envOfC qual (mr st) s.heap.objs.size f gp))->sp vs H Q E ->
   ∃ t,mI (BQ vF P w K mg base N qual (mr st) f gp A outer s H E).EV (xA st) t/\t { nx:=λ_ H'=>Q .non H',rt:=Q } (start N vs) H):y3 P w K mg base vF (k+1) f fd ps sp:=by
 obtain⟨oc,od,kV,doc,pm,an,gp,ct,BU,rfl,lk,tI⟩:=F.ex;refine dt' lk tI S len λA outer s H vs Q E hr E2=>?_;obtain⟨t,h,q⟩:=Od gp A outer s H vs Q E hr E2;exact⟨t,h.EV,q⟩
def B5.binds{st:Stmt}{ps:List Str}(F:B5 K x qual st f fd)(h:∀ (kV doc pm:ae) (an:Option ah) (gp ct:ae) (us:List ae),us.length=ps.length->bindArgs (yb x qual (B4 st) (xA st) (mr st) .none kV doc pm an gp ct) ⟨us,[]⟩=pure (ps.zip us)):Binds K fd ps []:=by
 obtain⟨oc,od,kV,doc,pm,an,gp,ct,BU,rfl,lk,tI⟩:=F.ex;exact .all (h kV doc pm an gp ct)
def Zt{st:Stmt}{kV doc pm gp ct:ae}(l:K.lookup f=some ⟨oc,od,.func (yb x qual (B4 st) (xA st) (mr st) .none kV doc pm an gp ct),BU⟩)(c:LG K gp qual=true) (k:FV K (.ref f)=true):B5 K x qual st f (yb x qual (B4 st) (xA st) (mr st) .none kV doc pm an gp ct):=⟨⟨oc,od,kV,doc,pm,an,gp,ct,BU,rfl,l,c⟩,k⟩
end
section
variable {X:Cx}
def pv (i:Nat) (hN:autoParam (X.N[i]? = some x) bv) (hv:Ql X.env.scope x:=by first|exact Or.inl rfl|exact Or.inr (Or.inl rfl)|exact Or.inr (Or.inr rfl)) (hd:(x == ("__debug__" : Str))=false:=by decide) (tI:(x == ("__classdict__" : Str))=false:=by decide):PE X (.Name x pos) (ER i):=Wl hN hv hd tI
end
def bP(H H':Hp):Prop:=∀ b o,H b=some o->H' b=some o
def bP.refl(H:Hp):bP H H:=λ_ _ h=>h
def bP.trans(a:bP H H1)(b:bP H1 H2):bP H H2:=λc o h=>b c o (a c o h)
def bP.free(e:bP H H')(h:H' l=Option.none):H l=Option.none:=by
 cases q:H l with
 |none=>rfl
 |some o =>rw[e l o q] at h;cases h
def bP.seq{K:aE}(e:bP H H')(h:fh K H a xs):fh K H' a xs:=by
 rcases h with(h|⟨o,h⟩)|h
 ·exact .inl (.inl (e _ _ h))
 ·exact .inl (.inr ⟨o,e _ _ h⟩)
 ·exact .inr h
end L2
namespace L2
def t9(env:Env):List (Str × zS)->List (Str × ah)->List (Str × ah)
 |[],cs=>cs
 | (n,k) :: r,cs=>t9 env r (if k == NameKind.free then (n,(env.cells.lookup n).getD 0) :: cs else cs)
def gB(env:Env):∀ (names:List (Str × zS)) (cs:List (Str × ah)),(∀ y∈names,y.2=.free->∃ c,env.cells.lookup y.1=some c) -> (forIn names cs λx r=>match x with
   | (name,kind)=>if (kind == NameKind.free)=true then do let a <- cellOf env name;pure (ForInStep.yield ((name,a) :: r)) else pure (ForInStep.yield r):Sem (List (Str × ah)))=pure (t9 env names cs)
 |[],cs,_=>rfl
 | (n,k) :: r,cs,h=>by
  rw[List.forIn_cons];have ih:=gB env r;by_cases hk:k=.free
  ·subst hk;obtain⟨c,e⟩:=h (n,.free) dk rfl;have e2:cellOf env n=pure c:=by unfold cellOf;rw[e]
   have e3:t9 env ((n,.free) :: r) cs=t9 env r ((n,c) :: cs):=by show t9 env r (if (NameKind.free == NameKind.free)=true then (n,(env.cells.lookup n).getD 0) :: cs else cs)=_;rw[e];rfl
   rw[e3,<- ih ((n,c) :: cs) λy hy=>h y (dr _ hy)];simp only[beq_self_eq_true,if_true,e2];rfl
  ·have hb:(k == NameKind.free)=false:=by simpa using hk
   have e3:t9 env ((n,k) :: r) cs=t9 env r cs:=by show t9 env r (if (k == NameKind.free)=true then _ else cs)=_;rw[hb];rfl
   rw[e3,<- ih cs λy hy=>h y (dr _ hy)];simp only[hb,pf,if_false];rfl
def oU(h:∀ y∈scope.names,y.2=.free->∃ c,env.cells.lookup y.1=some c):closureFor scope env=pure (t9 env scope.names []):=by have:=gB env scope.names [] h;rw[<- bind_pure (forIn scope.names [] _)] at this;exact this
theorem nO:∀ {names:List (Str × zS)} {cs:List (Str × ah)},(∀ y∈names,y.2=.free->∃ c,env.cells.lookup y.1=some c)->(∀ y d,cs.lookup y=some d->env.cells.lookup y=some d) -> (t9 env names cs).lookup x=some c->env.cells.lookup x=some c
 |[],cs,_,h,e=>h x c e
 | (n,k) :: r,cs,hf,h,e=>by
  refine nO (λy hy=>hf y (dr _ hy)) ?_ e;intro y d hd;by_cases hk:k=.free
  ·subst hk;obtain⟨c',e'⟩:=hf (n,.free) dk rfl;simp only[beq_self_eq_true,if_true,e',Tf,S6] at hd
   cases hb:y == n with
   |true=>rw[hb] at hd;have:y=n:=eq_of_beq hb;subst this;rw[e'];exact hd
   |false=>rw[hb] at hd;exact h y d hd
  ·have hb:(k == NameKind.free)=false:=by simpa using hk
   simp only[hb,pf,if_false] at hd;exact h y d hd
theorem jZ:∀ {names:List (Str × zS)} {cs:List (Str × ah)},((x,NameKind.free)∈names\/∃ c,cs.lookup x=some c)->∃ c,(t9 env names cs).lookup x=some c
 |[],cs,h=>by
  rcases h with h|h
  ·exact nomatch h
  ·exact h
 | (n,k) :: r,cs,h=>by
  refine jZ (names:=r) ?_;rcases h with h|⟨c,h⟩
  ·rcases eB.mp h with e|h
   ·cases e;refine .inr ⟨(env.cells.lookup x).getD 0,?_⟩;simp only[beq_self_eq_true,if_true,S6]
   ·exact .inl h
  ·refine .inr ?_;by_cases hk:(k == NameKind.free)=true
   ·simp only[hk,if_true,S6]
    cases hb:x == n with
    |true=>exact⟨_,rfl⟩
    |false=>exact⟨c,h⟩
   ·simp only[hk,if_false];exact⟨c,h⟩
def aY(X:Cx)(scope:Scope)(C:ah)(N:List Str)(fp:List ah)(hV:ax)(iL:Hp):Cx :=
 { X with N:=N,kQ:=hV,N0:=iL,env:=compEnvC scope (t9 X.env scope.names []) C X.env,outer:=X.stack,stack:=X.stack,ex:=fp,fn:=λ_=>false,pn:=[],xe:=λ_ _=>False }
def B6(X:Cx)(ifs:List Expr)(t:TT):Prop :=
 ∀ (pins:List (ah × Obj)) (s:ax) (σ:St) (H:Hp) (Q:Bool->Hp->Prop),Inv X pins σ H s->t σ H Q ->
  bq (aI X.prog X.w) X.A (forIn ifs true λc r=>if r=true then do let ok <- isTrue c X.env (dn c X.env);pure (ForInStep.yield ok) else pure (ForInStep.yield r)) (TP X pins σ Q) X.xe s
def eU':TT:=λ_ H Q=>Q true H
def Eg{X:Cx}:B6 X [] eU':=λ_ _ _ H _ I h=>wpAny_tests_nil ⟨H,I,h⟩
def DQ{X:Cx}(h:PT X c t):B6 X [c] t:=λpins s σ H Q I hw=>wpAny_tests_one (h pins s σ H Q I hw)
def fH{R:Result->ax->Prop}(I:Nat->ax->Prop)(E:ae->ax->Prop)(turn:∀ n s,I n s->bq (aI prog w) A (pyNext it) (λr fN=>match r with
   |none=>R (.ok .next) fN
   |some v=>bq (aI prog w) A (letOwnedTupleGo target it v) (λ_ kQ=>bq (aI prog w) A (assign target env v) (λ_ HL =>
     bq (aI prog w) A (forIn ifs true λc r=>if r=true then do let ok <- isTrue c env (dn c env);pure (ForInStep.yield ok) else pure (ForInStep.yield r)) (λok hV =>
      if ok=true then bq (aI prog w) A (dn elt env) (λx Zu =>
       bq (aI prog w) A (call (.builtin "list.append") [acc,x]) (λ_ Zv=>∃ m,m<n/\I m Zv) E Zu) E hV
      else ∃ m,m<n/\I m hV) E HL) E kQ) E fN) E s)
  (hE:∀ e s',E e s'->notedBy (aI prog w) A env (λe s'=>R (.error e) s') e s')
  (n:Nat) (h:I n s) :
  codeAny (aI prog w) A (.compLoop (.ListComp elt [⟨target,iter,ifs,0⟩] scope pos) 0 it acc env) R s:=by
 refine codeAny_loop rfl I (λn s hI=>?_) n h;refine wpAny_noted ?_;refine vk ?_ (λ_ _ q=>q) hE;refine aw (wpAny_standAt (aw (vk (turn n s hI) (λr fN Ot=>?_) λ_ _ h'=>h')))
 cases r with
 |none=>exact bG Ot
 |some v =>
  refine aw (vk Ot (λ_ kQ h₀=>?_) λ_ _ h'=>h');refine aw (vk h₀ (λ_ HL eV'=>aw (vk eV' (λok hV Zw=>?_) λ_ _ h'=>h')) λ_ _ h'=>h')
  cases ok with
  |false=>exact bG ⟨rfl,Zw⟩
  |true =>exact aw (aw (vk Zw (λx Zu eW'=>aw (vk eW' (λ_ Zv eX'=>bG (bG ⟨rfl,eX'⟩)) λ_ _ h'=>h')) λ_ _ h'=>h'))
def qg(tn:Nat)(ix:List Nat)(σ:St):St:=List.replicate tn none++ix.map λj=>(σ[j]?).join
def A_(wi:TI)(g:TG)(tc:TT)(te:TE)(tn:Nat)(ix:List Nat):TE:=λσ H Q=>wi σ H λJ H1=>∀ D,H1 D=none ->
 ∃ W:Nat->Nat->St->Hp->Prop,(∃ m,W 0 m (qg tn ix σ) (upd H1 D (.lst [])))/\∀ i m τ H,W i m τ H -> (J.stop i H/\Q (.ref D) H)\/(J.go i H/\∃ (N1:St->V->Hp->Prop) (N2:St->Hp->Prop), (∀ B7 v H4,N1 B7 v H4->∃ ys m',H4 D=some (.lst ys)/\ys.length<bX/\m'<m/\W (i+1) m' B7 (upd H4 D (.lst (ys++[v])))) /\ (∀ B7 H3,N2 B7 H3->∃ m',m'<m/\W (i+1) m' B7 H3) /\
   ∀ x H',J.qq i H x H'->g x τ H' λB7 H2=>tc B7 H2 λb H3=>if b=true then te B7 H3 (N1 B7) else N2 B7 H3)
section
variable {X:Cx}{tg iter elt:Expr}{ifs:List Expr}{scope:Scope}{pos:Pos}{wi:TI}{g:TG}{tc:TT}{te:TE}{tn cn:List Str}{ix:List Nat}
structure eE(X:Cx)(scope:Scope)(tn cn:List Str)(ix:List Nat):Prop where
 kind:scope.kind=.function
 eY':∀ y∈scope.names,y.2≠.cell
 free:∀ y∈scope.names,y.2=.free->X.env.scope.names.lookup y.1=some .cell\/X.env.scope.names.lookup y.1=some .free
 names:∀ y∈scope.names,y.2=.local->scope.names.lookup y.1=some .local
 len:ix.length=cn.length
 cap:∀ (k j:Nat),ix[k]? = some j->∃ y,cn[k]? = some y/\X.N[j]? = some y/\(X.env.scope.names.lookup y=some .cell\/X.env.scope.names.lookup y=some .free)/\(y,NameKind.free)∈scope.names /\
  ((relabel scope X.env).names.lookup y=some .cell\/(relabel scope X.env).names.lookup y=some .free)
 all:∀ x,(relabel scope X.env).names.lookup x=some .cell\/(relabel scope X.env).names.lookup x=some .free->(x,NameKind.free)∈scope.names
def vK(O:eE X scope tn cn ix)(I:Inv X pins σ H s)(hf:∀ b∈fp,yA X pins H b)(Uo:∀ b∈fp,b<s.heap.objs.size)(hC:s.heap.objs.size<=C) : (aY X scope C (tn++cn) fp s H).Ok:=by
 have sv:∀ y∈scope.names,y.2=.free->∃ c,X.env.cells.lookup y.1=some c:=λy hy hk=>I.ok.has y.1 (O.free y hy hk);have sub:∀ x c,(t9 X.env scope.names []).lookup x=some c->X.env.cells.lookup x=some c:=λx c e=>nO sv (λy d h=>by simp at h) e;refine⟨I.ok.mod,O.kind,I.ok.glob,I.ok.blt,hC,λx y c h1 h2=>I.ok.inj x y c (sub x c h1) (sub y c h2),λx hx=>jZ (.inl (O.all x hx)),(λx c h _=>nomatch h),I.ok.hd,I.ok.frames,.inl rfl,λb hb=>⟨?_,λx c e=>?_⟩,
  I.bs,iP I.ok.EK I.sz,λb o e hb=>?_,λb hb=>?_,I.stack,I.Wb⟩
 ·exact gi (oa (Uo b hb) hC)
 ·exact(hf b hb).2.2.2.2.1 x c (sub x c e)
 ·rcases (hf b hb).2.2.2.1 with z|z
  ·exact I.ok.N4 b o e z
  ·exact absurd (oa (eW e) (iP I.ok.EK z)) (vw _)
 ·intro hz;rcases eB.mp (I.Tq b hz) with e|e
  ·exact(hf b hb).2.1 e
  ·exact(hf b hb).2.2.1 e
def sU{P:ae->ax->Prop}(hc:X.calm=true)(hi:PI X tg iter wi)(O:eE X scope tn cn ix)(hg:∀ C fp hV iL,PG (aY X scope C (tn++cn) fp hV iL) tg g) (qB:∀ C fp hV iL,B6 (aY X scope C (tn++cn) fp hV iL) ifs tc) (he:∀ C fp hV iL,PE (aY X scope C (tn++cn) fp hV iL) elt te)(hs:∀ x,FR iter X.env x=pure x) (I:Inv X pins σ H s) (h:A_ wi g tc te tn.length ix σ H Q)(fin:∀ (C D:ah) (m:Str->Option ae) (H5:Hp) (s6:ax) (r:Flow),Inv X pins σ H5 s6->s6.heap.Ns C m->H5 C=none->yA X pins H5 C->Q (.ref D) H5->compPost (aI X.prog X.w) X.A X.xe use P (.ref D) C (.ok r) s6) :
  bq (aI X.prog X.w) X.A (comprehension (.ListComp elt [⟨tg,iter,ifs,0⟩] scope pos) scope X.env jG' (newList []) false (dn iter X.env) use) P X.xe s:=by
 have sv:∀ y∈scope.names,y.2=.free->∃ c,X.env.cells.lookup y.1=some c:=λy hy hk=>I.ok.has y.1 (O.free y hy hk);have sub:∀ x c,(t9 X.env scope.names []).lookup x=some c->X.env.cells.lookup x=some c:=λx c e=>nO sv (λy d h=>by simp at h) e;refine wpAny_comprehension_free rfl hs (oU sv) O.kind O.names (dz (hi pins s σ H _ I h) λv s1 h1=>dz h1 λTF s2 h2=>?_);obtain⟨it,fp,QY,J,H2,e,I2,T,yB,f2,h2⟩:=h2;subst e;obtain⟨W,⟨m0,w0⟩,turn⟩:=h2 s2.heap.objs.size (I2.b9.fresh (cx _));refine rV ?_;have I3:Inv X pins σ (upd H2 s2.heap.objs.size (.lst [])) { s2 with heap:=s2.heap.push { cls:=.type "list",data:=.seq ([]:List ae).toArray } }:=I2.Uc .nil (fE _);generalize hD:s2.heap.objs.size=D at *
 generalize hs3:({ s2 with heap:=s2.heap.push { cls:=.type "list",data:=.seq ([]:List ae).toArray } }:ax)=s3 at *
 have k23:∀ b o,s2.heap.get? b=some o->s3.heap.get? b=some o:=λb o e=>by rw[<- hs3];exact gu _ e
 have f3:∀ b∈fp,yA X pins (upd H2 D (.lst [])) b:=λb hb=>by obtain⟨f0,fr⟩:=f2 b hb;obtain⟨o,ho,_⟩:=T.obj _ _ yB b hb;refine⟨?_,fr⟩;rw[fF (gi (by rw[<- hD];exact eW ho))];exact f0
 have yT:QY 0 s3.heap:=T.keep _ _ _ yB λb hb o e=>k23 b o e;have lt3:∀ b∈fp,b<s3.heap.objs.size:=λb hb=>by obtain⟨o,ho,_⟩:=T.obj _ _ yT b hb;exact eW ho
 refine wpAny_newFunctionEnv O.eY' (by intro y hy;simp at hy) (λOt fd' fe'=>?_) O.kind;have Iy:∀ b o,s3.heap.get? b=some o->Ot.get? b=some o:=λb o e=>fe'.extBut b o (gi (eW e)) (gu _ e)
 -- the block's context
 have QZ:=vK O I3 f3 lt3 (cx _);have I4:Inv (aY X scope s3.heap.objs.size (tn++cn) fp s3 (upd H2 D (.lst []))) [] (qg tn.length ix σ) (upd H2 D (.lst [])) { s3 with heap:=Ot,toks:=s3.toks+([]:List (Str × ae)).length }:=by
  refine⟨QZ,rfl,I3.bare,Un.kept Iy,⟨_,fd',λi x v e1 e2 e3=>?_⟩,λx c e=>?_,I3.b9.fresh (cx _),λx c e=>I3.AI x c (sub x c e),λp hp=>absurd hp (by simp[aY]),I3.b9.kept Iy,?_⟩
  ·have ki:tn.length<=i:=by
    by_cases q:i<tn.length
    ·unfold qg at e2;rw[FX (by simpa using q),List.getElem?_replicate] at e2;simp[q] at e2
    ·lia
   unfold qg at e2;rw[CM (by simpa using ki),List.length_replicate,kM] at e2;have e1:(tn++cn)[i]? = some x:=e1;rw[CM ki] at e1
   cases q:ix[i-tn.length]? with
   |none=>rw[q] at e2;cases e2
   |some j =>
    rw[q] at e2;obtain⟨y,c1,c2,c3,c4,c5⟩:=O.cap _ _ q;rw[c1] at e1;cases e1;have e2:σ[j]?.join=some v:=Option.some.inj e2;have ej:σ[j]? = some (some v):=by
     cases z:σ[j]? with
     |none=>rw[z] at e2;cases e2
     |some o=>rw[z] at e2;exact congrArg some e2
    obtain⟨m,hn,hl⟩:=I3.loc;obtain⟨u,r,l⟩:=hl j x v c2 ej (c3.elim (λz=>.inr (.inl z)) λz=>.inr (.inr z));refine⟨u,r,.inr ⟨c5,?_⟩⟩;rcases l with⟨hk,_⟩|⟨hk,c,L8,hce⟩
    ·have hk:X.env.scope.names.lookup x=some .local:=hk;rcases c3 with z|z
     ·rw[z] at hk;cases hk
     ·rw[z] at hk;cases hk
    ·obtain⟨c',AJ⟩:=jZ (Or.inl c4);have:=sub x c' AJ;rw[L8] at this;cases this;obtain⟨o,ho,hd⟩:=hce;exact⟨c,AJ,o,Iy _ _ ho,hd⟩
  ·obtain⟨v,o,ho,hd⟩:=I3.cell x c (sub x c e);exact⟨v,o,Iy _ _ ho,hd⟩
  ·show(qg tn.length ix σ).length=(tn++cn).length;unfold qg;simp[O.len]
 -- from the block back to the body
 have back:∀ {τ:St} {H':Hp} {s':ax},Inv (aY X scope s3.heap.objs.size (tn++cn) fp s3 (upd H2 D (.lst []))) [] τ H' s'->Inv X pins σ H' s':=λ{τ H' s'} I' =>
  Inv.bL' I3 I'.os I'.base I'.b9 I'.bare λb hb=>by obtain⟨_,f1,_,f3',f4,f5⟩:=f3 b hb;exact⟨f3',f1,f4,f5⟩
 have Uq:∀ {H':Hp},(∀ b∈fp,H' b=none)->∀ b∈fp,yA (aY X scope s3.heap.objs.size (tn++cn) fp s3 (upd H2 D (.lst []))) [] H' b:=λhn b hb =>
  ⟨hn b hb,(QZ.Qn b hb).1,QZ.N5 b hb,.inl hb,(QZ.Qn b hb).2,λp hp=>absurd hp (by simp[aY])⟩
 have loop:∀ s4:ax,Inv (aY X scope s3.heap.objs.size (tn++cn) fp s3 (upd H2 D (.lst []))) [] (qg tn.length ix σ) (upd H2 D (.lst [])) s4->QY 0 s4.heap ->
   codeAny (aI X.prog X.w) X.A (.compLoop (.ListComp elt [⟨tg,iter,ifs,0⟩] scope pos) 0 (.ref it) (.ref D) (compEnvC scope (t9 X.env scope.names []) s3.heap.objs.size X.env)) (compPost (aI X.prog X.w) X.A X.xe use P (.ref D) s3.heap.objs.size) s4:=by
  intro s4 I4 AR;refine fH (λn s'=>∃ i τ H',Inv (aY X scope s3.heap.objs.size (tn++cn) fp s3 (upd H2 D (.lst []))) [] τ H' s'/\QY i s'.heap/\(∀ b∈fp,H' b=none)/\W i n τ H') (λ_ _=>False) ?_ (λ_ _ z=>z.elim) m0 ⟨0,_,_,I4,AR,λb hb=>(f3 b hb).1,w0⟩
  rintro n s5 ⟨i,τ,H5,I5,HG,Qx,w5⟩;rcases turn i n τ H5 w5 with⟨stop,qn⟩|⟨go,N1,N2,hN1,ua,step⟩
  ·refine dz (T.done (aY X scope s3.heap.objs.size (tn++cn) fp s3 (upd H2 D (.lst []))) rfl rfl rfl hc i [] s5 τ H5 (λ_ _=>False) I5 (Uq Qx) HG stop) λr s6 eI=>?_;obtain⟨hr,I6⟩:=eI;subst hr;have J6:=back I6;obtain⟨m,hn,_⟩:=I6.loc;exact fin _ D m H5 s6 _ J6 hn I6.free (I3.Qs (cx _) I6.free) qn
  ·refine dz (T.item (aY X scope s3.heap.objs.size (tn++cn) fp s3 (upd H2 D (.lst []))) rfl rfl rfl hc i [] s5 τ H5 (λ_ _=>False) I5 (Uq Qx) HG go) λr s6 eI=>?_;obtain⟨u,hr,h6⟩:=eI;subst hr;refine dz h6 λ_ s7 eI=>?_;obtain⟨x,H7,I7,r7,y7,Ur,fr7⟩:=eI;have I7':=I7.pinned (Uq fr7) (T.obj _ _ Ur);refine dz (hg _ _ _ _ _ s7 τ H7 x u _ I7' r7 (step x H7 y7)) λ_ s8 eI=>?_;obtain⟨MG,H8,I8,q8⟩:=eI;refine dz (qB _ _ _ _ _ s8 MG H8 _ I8 q8) λok s9 eI=>?_;obtain⟨H9,I9,q9⟩:=eI;have again:∀ {s':ax} {H':Hp} {m':Nat},Inv (aY X scope s3.heap.objs.size (tn++cn) fp s3 (upd H2 D (.lst []))) ([]++N9 fp s7.heap) MG H' s'->m'<n->W (i+1) m' MG H' ->
     ∃ m,m<n/\∃ i τ H',Inv (aY X scope s3.heap.objs.size (tn++cn) fp s3 (upd H2 D (.lst []))) [] τ H' s'/\QY i s'.heap/\(∀ b∈fp,H' b=none)/\W i m τ H':=λ{s' H' m'} J hm w'=>by
    refine⟨m',hm,i+1,MG,H',J.Qw,T.keep _ _ _ Ur λb hb o e=>(J.pin (b,o) (fS _ (fS _ (Qu hb e)))).1,λb hb=>?_,w'⟩;obtain⟨o,e,d⟩:=T.obj _ _ Ur b hb;exact(J.pin (b,o) (fS _ (fS _ (Qu hb e)))).2.1
   cases ok with
   |false =>obtain⟨m',hm,w'⟩:=ua _ _ q9;exact again I9 hm w'
   |true =>refine dz (he _ _ _ _ _ s9 MG H9 _ I9 q9) λx9 s10 dQ=>L2.g7 dQ λv10 Zx I10 r10 q10=>?_;obtain⟨ys,m',hH,hz,hm,w'⟩:=hN1 _ _ _ q10;refine dz (Ue _ s10 MG Zx (.ref D) [v10] (.ref D) [x9] (λ_ H'=>H'=upd Zx D (.lst (ys++[v10]))) I10 rfl (.cons r10 .nil) ⟨D,ys,v10,rfl,rfl,hH,hz,rfl⟩) λ_ s11 dQ=>L2.g7 dQ λ_ H11 I11 _ q11=>?_;subst q11;exact again I11 hm w'
 exact codeAny_compStart_list (loop _ I4 (T.keep _ _ _ yT λb hb o e=>Iy b o e)) (T.self _ 0 _ _ _ (T.keep _ _ _ yT λb hb o e=>Iy b o e) (loop _ I4 (T.keep _ _ _ yT λb hb o e=>Iy b o e)))
def Di(hc:X.calm=true)(hi:PI X tg iter wi)(O:eE X scope tn cn ix)(hg:∀ C fp hV iL,PG (aY X scope C (tn++cn) fp hV iL) tg g) (qB:∀ C fp hV iL,B6 (aY X scope C (tn++cn) fp hV iL) ifs tc) (he:∀ C fp hV iL,PE (aY X scope C (tn++cn) fp hV iL) elt te)(hs:∀ x,FR iter X.env x=pure x:=by intro _;rfl):PE X (.ListComp elt [⟨tg,iter,ifs,0⟩] scope pos) (A_ wi g tc te tn.length ix):=by
 intro pins s σ H Q I h;exact sU hc hi O hg qB he hs I h λC D m H5 s6 r J6 hn hf ⟨_,g1,_,g3,g4,g5⟩ qn=>⟨m,hn,λh' Q0=>⟨.ref D,H5,J6.turned (λb o hb e=>Q0.extBut b o hb e) hf g1 g3 g4 g5,rfl,qn⟩⟩
def uw(hN:X.N.Nodup)(xB:X.N[i]? = some x)(hx:Loc X.env.scope x)(hc:X.calm=true)(hi:PI X tg iter wi)(O:eE X scope tn cn ix)(hg:∀ C fp hV iL,PG (aY X scope C (tn++cn) fp hV iL) tg g) (qB:∀ C fp hV iL,B6 (aY X scope C (tn++cn) fp hV iL) ifs tc) (he:∀ C fp hV iL,PE (aY X scope C (tn++cn) fp hV iL) elt te)(Us:xh (.ListComp elt [⟨tg,iter,ifs,0⟩] scope pos) (some (.Name x pos')) Ut.line X.env=pure true)(hs:∀ x,FR iter X.env x=pure x:=by intro _;rfl) (hf:X.fn x=true\/X.env.scope.names.lookup x=some .local:=by first|exact .inl rfl|exact .inr rfl|assumption) :
  PS X (.Assign [.Name x pos'] (.ListComp elt [⟨tg,iter,ifs,0⟩] scope pos) Ut) (TB (A_ wi g tc te tn.length ix) (Tw i)):=by
 intro pins s σ H D0 I h;rw[exec_Assign_Name_used _ _ _ _ Us];refine aw (wpAny_standAt (aw ?_));show bq _ _ (do let _ <- comprehension (.ListComp elt [⟨tg,iter,ifs,0⟩] scope pos) scope X.env _ (newList []) false (dn iter X.env) (some (assign (.Name x pos') X.env))) _ _ s;refine aw (vk (sU (use:=some (assign (.Name x pos') X.env)) (P:=λ_ s'=>SP X pins D0 .next s') hc hi O hg qB he hs I h λC D m H5 s6 r J6 hn E8 ⟨_,g1,_,g3,g4,g5⟩ qn=>?_) (λ_ s' hq=>bG (bG hq)) λ_ _ e=>e);refine(show bq _ _ (assign (.Name x pos') X.env (.ref D)) _ _ s6 from wpAny_assign_Name (Wh J6 hN xB hx (v:=.ref D) rfl (λs7 I7 eI=>?_) hf));obtain⟨a,sb,ha⟩:=eI;have hCa:C≠a:=by
  rcases ha with rfl|ha
  ·exact g1
  ·exact Ne.symm (g4 _ a ha)
 refine⟨m,hn.sameBut sb hCa,λh' Q0=>⟨_,H5,?_,qn⟩⟩;exact I7.turned (t':=s7.toks) (λb o hb e=>Q0.extBut b o hb e) E8 g1 g3 g4 g5
end
def ML (a b:String):Bool:=a == b || (a == "bool" && b == "int")
def Uu (b:String):Bool:=["str", "int", "bool", "list", "tuple", "dict"].contains b
def iC (K:aE) (a b:String) (ha:a∈["NoneType", "bool", "int", "str", "list", "tuple", "dict"]) (hb:b∈["str", "int", "bool", "list", "tuple", "dict"]):PySem.W.kitOne K (.type a) (.type b)=some (ML a b):=by simp only[eB,NQ,or_false] at ha hb;rcases ha with rfl|rfl|rfl|rfl|rfl|rfl|rfl<;>rcases hb with rfl|rfl|rfl|rfl|rfl|rfl<;>kernel_rfl
section
variable {X:Cx}
def eJ.imp(h:eJ X f r)(hi:∀ x y H Q,r' x y H Q->r x y H Q):eJ X f r' :=
 λpins s σ H x y v u Q I rx ry q=>h pins s σ H x y v u Q I rx ry (hi x y H Q q)
def JX(K:aE):R2:=λx y H Q=>∃ l b xs zs,x=.ref l/\y=.ref b/\fh K H l xs/\fh K H b zs/\xs.length+zs.length<=bX/\∀ p,H p=none->Q (.ref p) (upd H p (.lst (xs++zs)))
def C_:eJ X (oq .Add) (JX X.K):=by
 intro pins s σ H x y v u Q I rx ry h;obtain⟨l,b,xs,zs,rfl,rfl,hH,hB,hz,q⟩:=h;cases rx;cases ry;obtain⟨its,r,pl,z⟩:=I.list hH;obtain⟨QH,r2,pl2,z2⟩:=I.list hB;have hl:=r.length;have y6:=r2.length;obtain⟨⟨cls,dd,data,sl⟩,ho,hc,n,hd⟩:=id pl.isList;obtain⟨⟨T4,tN,data2,tP⟩,pE,DJ,n2,hd2⟩:=id pl2.isList;subst hc hd DJ hd2;have ea:its.toArray++QH.toArray=(its++QH).toArray:=by simp
 refine concat_meets ⟨_,ho,rfl⟩ ⟨_,pE,rfl⟩ noFill_list_add seq_list_add PySem.F.slot_list_add PySem.F.entry_list_add (PySem.F.args_list_add_2 _ _) (list_addW l b its.toArray QH.toArray n n2 dd tN sl tP (by simp only[iF];lia)) ⟨ho,pE,?_⟩;rw[ea];exact⟨.ref _,_,I.Uc (r.append r2) (by rw[ot];lia),rfl,q _ I.fresh⟩
def yZ(K:aE):R2:=λx y H Q=>match x,y with
 |.int i,.int j=>Q (.int (i+j)) H
 |.str i,.str j=>i.length+j.length<=bX/\Q (.str (i++j)) H
 |.ref a,.ref b=>∃ xs zs,fh K H a xs/\fh K H b zs/\xs.length+zs.length<=bX/\∀ p,H p=none->Q (.ref p) (upd H p (.lst (xs++zs)))
 |_,_=>False
def DR:eJ X (oq .Add) (yZ X.K):=by
 refine(cE'.or (db'.or C_)).imp λx y H Q h=>?_;unfold yZ at h;split at h
 ·exact .inl ⟨_,_,rfl,rfl,h⟩
 ·exact .inr (.inl ⟨_,_,rfl,rfl,h.1,h.2⟩)
 ·obtain⟨xs,zs,h1,h2,h3,h4⟩:=h;exact .inr (.inr ⟨_,_,xs,zs,rfl,rfl,h1,h2,h3,h4⟩)
 ·exact h.elim
def Dw:R2:=λx y H Q=>match x,y with
 |.int i,.int j=>Q (.int (i-j)) H
 |_,_=>False
def E_:eJ X (oq .Sub) Dw:=cF'.imp λx y H Q h=>by
 unfold Dw at h;split at h
 ·exact⟨_,_,rfl,rfl,h⟩
 ·exact h.elim
def Fp:R2:=λx y H Q=>match x,y with
 |.int i,.int j=>BO i j/\Q (.int (i*j)) H
 |_,_=>False
def DY:eJ X (oq .Mult) Fp:=cG'.imp λx y H Q h=>by
 unfold Fp at h;split at h
 ·exact⟨_,_,rfl,rfl,h.1,h.2⟩
 ·exact h.elim
def EY:R2:=λx y H Q=>match x,y with
 |.int i,.int j=>(0<j/\j<1073741824)/\Q (.int (i / j)) H
 |_,_=>False
def Ej:eJ X (oq .FloorDiv) EY:=cH'.imp λx y H Q h=>by
 unfold EY at h;split at h
 ·exact⟨_,_,rfl,rfl,h.1,h.2⟩
 ·exact h.elim
def Eb:R2:=λx y H Q=>match x,y with
 |.int i,.int j=>0<j/\Q (.int (i % j)) H
 |_,_=>False
def En:eJ X (oq .Mod) Eb:=cI'.imp λx y H Q h=>by
 unfold Eb at h;split at h
 ·exact⟨_,_,rfl,rfl,h.1,h.2⟩
 ·exact h.elim
def sA(x y:Str):Bool:=decide (x.cps.toList<y.cps.toList)
def Uv:R2:=λx y H Q=>match x,y with
 |.int i,.int j=>Q (.bl (decide (i<j))) H
 |.str i,.str j=>Q (.bl (sA i j)) H
 |_,_=>False
def wF:eJ X (gI .Lt) Uv:=(cP'.or cS').imp λx y H Q h=>by
 unfold Uv at h;split at h
 ·exact .inl ⟨_,_,rfl,rfl,h⟩
 ·exact .inr ⟨_,_,rfl,rfl,h⟩
 ·exact h.elim
def wY:eJ X (gI .LtE) (λx y H Q=>∃ i j,x=.str i/\y=.str j/\Q (.bl (!sA j i)) H):=by intro pins s σ H x y v u Q I rx ry h;obtain⟨i,j,rfl,rfl,q⟩:=h;obtain⟨t,rfl⟩:=rx;obtain⟨t',rfl⟩:=ry;exact PySem.P.le_str ⟨.bl _,H,I,rfl,q⟩
def Uw:R2:=λx y H Q=>match x,y with
 |.int i,.int j=>Q (.bl (decide (i<=j))) H
 |.str i,.str j=>Q (.bl (!sA j i)) H
 |_,_=>False
def Gd:eJ X (gI .LtE) Uw:=(cQ'.or wY).imp λx y H Q h=>by
 unfold Uw at h;split at h
 ·exact .inl ⟨_,_,rfl,rfl,h⟩
 ·exact .inr ⟨_,_,rfl,rfl,h⟩
 ·exact h.elim
def Ux:R2:=λx y H Q=>match x,y with
 |.int i,.int j=>Q (.bl (decide (j<i))) H
 |_,_=>False
def mF:eJ X (gI .Gt) Ux:=cR'.imp λx y H Q h=>by
 unfold Ux at h;split at h
 ·exact⟨_,_,rfl,rfl,h⟩
 ·exact h.elim
def Inv.rd(I:Inv X pins σ H s)(e:Rd H a u):iS X.prog X.w H s.heap a u:=e.elim (I.b9 a _) λ⟨o,e⟩=>(I.b9 a _ e).2
def Q5(K:aE):List V->Hp->VK->Prop:=λxs H Q=>match xs with
 |[.str y]=>y.length<=bX/\Q (.int y.length) H
 |[.ref p]=>(∃ ys,fh K H p ys/\Q (.int ys.length) H)\/(∃ ys,ox K H p ys/\Q (.int ys.length) H)\/∃ kvs,Rd H p (.dK kvs)/\Q (.int kvs.length) H
 |_=>False
def yK:i3 X (.builtin "len") (Q5 X.K):=by
 intro pins s σ H xs us Q I r h;unfold Q5 at h;split at h
 ·exact TR pins s σ H _ us Q I r ⟨_,_,rfl,⟨h.1,rfl⟩,h.2⟩
 ·rcases h with⟨ys,h1,h2⟩|⟨ys,h1,h2⟩|⟨kvs,h1,h2⟩
  ·exact TR pins s σ H _ us Q I r ⟨_,_,rfl,.inl ⟨ys,h1,rfl⟩,h2⟩
  ·exact TR pins s σ H _ us Q I r ⟨_,_,rfl,.inr ⟨ys,h1,rfl⟩,h2⟩
  ·obtain⟨u,rfl,ru⟩:=vals1 r;cases ru;exact eo' I h1 λt s' I'=>⟨.int kvs.length,H,I',⟨t,rfl⟩,h2⟩
 ·exact h.elim
def Q6(K:aE):R2:=λx y H Q=>match x,y with
 |.ref p,.int i=>(∃ xs v,fh K H p xs/\gv xs i=some v/\Q v H)\/∃ xs v,ox K H p xs/\gv xs i=some v/\Q v H
 |.str z,.int i=>z.length<=bX/\∃ c,gv z.cps.toList i=some c/\Q (.str ⟨#[c]⟩) H
 |_,_=>False
def Bk:xv X (Q6 X.K):=by
 intro value slice pins s σ H x y v u Q I rx ry h hs;refine dP' value slice pins s σ H x y v u Q I rx ry ?_ hs;unfold Q6 at h;split at h
 ·rcases h with⟨xs,w,h1,h2,h3⟩|⟨xs,w,h1,h2,h3⟩
  ·exact .inl ⟨_,xs,_,w,rfl,rfl,h1,h2,h3⟩
  ·exact .inr (.inl ⟨_,xs,_,w,rfl,rfl,h1,h2,h3⟩)
 ·obtain⟨h1,c,h2,h3⟩:=h;exact .inr (.inr ⟨_,_,c,rfl,rfl,h1,h2,h3⟩)
 ·exact h.elim
def B8(z:Str)(lo hi:Option Int):Str:=⟨((z.cps.toList.drop (HT.cy z.length 0 lo)).take (HT.cy z.length z.length hi-HT.cy z.length 0 lo)).toArray⟩
end
def yh(l:List Nat)(lo hi:Option Int)(h:((l.drop (HT.cy l.length 0 lo)).take (HT.cy l.length l.length hi-HT.cy l.length 0 lo)).length=l.length) : (l.drop (HT.cy l.length 0 lo)).take (HT.cy l.length l.length hi-HT.cy l.length 0 lo)=l:=by
 generalize HT.cy l.length 0 lo=a at *
 by_cases hl:l.length=0
 ·have:l=[]:=PK.mp hl;subst this;simp
 ·rw[nK,ED] at h;have h1:a=0:=by lia
  subst h1;rw[List.drop_zero];exact PL (by lia)
def vM(lo hi:Option Int)(n:Nat):Builtin.Str.strSliceIndices lo hi 1 n=(List.range (HT.cy n n hi-HT.cy n 0 lo)).map (HT.cy n 0 lo + ·):=by
 have e1:(match lo with|none=>0|some i=>max 0 (min (if i<0 then i+n else i) n))=((HT.cy n 0 lo:Nat):Int):=by
  cases lo with
  |none=>simp[HT.cy]
  |some i =>
   simp only[HT.cy];by_cases h:i<0
   ·simp only[h,if_true]<;>lia
   ·simp only[h,if_false]<;>lia
 have e2:(match hi with|none=>n|some i=>max 0 (min (if i<0 then i+n else i) n))=((HT.cy n n hi:Nat):Int):=by
  cases hi with
  |none=>simp[HT.cy]
  |some i =>
   simp only[HT.cy];by_cases h:i<0
   ·simp only[h,if_true]<;>lia
   ·simp only[h,if_false]<;>lia
 rw[<- sliceRange_one,<- e1,<- e2];cases lo<;>cases hi<;>rfl
section
variable {X:Cx}
def part_of(h:IsPart v o):∃ p:Option (Int × Tok),v=partValue p/\p.map (·.1)=o:=by
 cases h with
 |none=>exact⟨none,rfl,rfl⟩
 |int i t=>exact⟨some (i,t),rfl,rfl⟩
def Uy(K:aE):V->Option Int->Option Int->Hp->VK->Prop:=λx lo hi H Q=>match x with
 |.str z=>z.length<=bX/\Q (.str (B8 z lo hi)) H
 |.ref a=>∃ xs,fh K H a xs/\∀ p,H p=none->Q (.ref p) (upd H p (.lst (HM xs lo hi)))
 |_=>False
def Ga:My X (λx lo hi H Q=>∃ z,x=.str z/\z.length<=bX/\Q (.str (B8 z lo hi)) H):=by
 intro pins s σ H x v vl vu lo hi sl Q I rx hs pl pu h;obtain⟨z,rfl,hz,q⟩:=h;obtain⟨t,rfl⟩:=rx;obtain⟨p1,rfl,e1⟩:=part_of pl;obtain⟨p2,rfl,e2⟩:=part_of pu;refine⟨"str",_,F.slot_str_getitem.lookup,typeIs_str s z t,wpAny_getItem_str_slice (st:=none) hs rfl ?_⟩;have hl:z.cps.toList.length=z.length:=by simp[Str.length]
 have ep:slicePicked z p1 p2 none=(List.range (HT.cy z.length z.length hi-HT.cy z.length 0 lo)).map (HT.cy z.length 0 lo + ·):=by unfold slicePicked;rw[e1,e2];exact vM lo hi z.length
 have ef:(slicePicked z p1 p2 none).filterMap (z.cps[·]?)=(z.cps.toList.drop (HT.cy z.length 0 lo)).take (HT.cy z.length z.length hi-HT.cy z.length 0 lo):=by rw[ep];exact pick_run z.cps _ _
 unfold sliceMade;split
 ·rename_i hc;have hw:(slicePicked z p1 p2 none).length=z.length:=by simpa using hc
  have:B8 z lo hi=z:=by
   unfold B8;have e3:((z.cps.toList.drop (HT.cy z.cps.toList.length 0 lo)).take (HT.cy z.cps.toList.length z.cps.toList.length hi-HT.cy z.cps.toList.length 0 lo)).length=z.cps.toList.length:=by
    rw[hl,nK,ED,hl];rw[ep,b6,PY] at hw;have h1:HT.cy z.length z.length hi<=z.length:=by
     cases hi with
     |none=>simp[HT.cy]
     |some i=>simp only[HT.cy];split<;>lia
    lia
   have:=yh z.cps.toList lo hi e3;rw[hl] at this;rw[this]
  rw[this] at q;exact⟨.str z,H,I,⟨t,rfl⟩,q⟩
 ·rw[ef];exact⟨by
   show(B8 z lo hi).length<=bX;unfold B8 Str.length;simp only[iF,nK,ED,hl];lia,⟨.str (B8 z lo hi),H,I.tok _,⟨_,rfl⟩,q⟩⟩
def Gi:My X (Uy X.K):=by
 intro pins s σ H x v vl vu lo hi sl Q I rx hs pl pu h;unfold Uy at h;split at h
 ·exact Ga pins s σ H _ v vl vu lo hi sl Q I rx hs pl pu ⟨_,rfl,h.1,h.2⟩
 ·obtain⟨xs,h1,h2⟩:=h;exact dT' pins s σ H _ v vl vu lo hi sl Q I rx hs pl pu ⟨_,xs,rfl,h1,h2⟩
 ·exact h.elim
end
structure qd(J:It)(its:List V)(cond:Hp->Prop):Prop where
 go:∀ i H,cond H->i<its.length->J.go i H
 qq:∀ i H x H',cond H->i<its.length->J.qq i H x H'->H'=H/\its[i]? = some x
 stop:∀ H,cond H->J.stop its.length H
def zY(K:aE)(a:ah)(xs:List V):qd (Qt K a) xs (λH=>fh K H a xs) where
 go:=λi H h hi=>⟨xs,xs[i],h,by simp[hi]⟩
 qq:=λi H x H' h _ y=>⟨y.1,y.2 xs h⟩
 stop:=λH h=>⟨xs,h,cx _⟩
def yf(lo:Int)(n:Nat):List V:=(List.range n).map λi=>.int (lo+(i:Nat))
def Dn(lo:Int)(n:Nat):qd (Mk lo n) (yf lo n) (λ_=>True) where
 go:=λi H _ h=>by simpa[yf,Mk] using h
 qq:=λi H x H' _ hi h=>by
  have hi:i<n:=by simpa[yf] using hi
  obtain⟨rfl,rfl⟩:=h;refine⟨rfl,?_⟩;simp[yf,hi]
 stop:=λH _=>by simp[yf,Mk]
mutual
inductive Rep(K:aE)(H:Hp):cK->V->Prop
 |none:Rep K H .none .non
 |bool (b:Bool):Rep K H (.bool b) (.bl b)
 |int (i:Int):Rep K H (.int i) (.int i)
 |str (x:Str):Rep K H (.str x) (.str x)
 |list {a:ah} {vs:List V} {ds:List cK}:fh K H a vs->bT K H ds vs->Rep K H (.list ds) (.ref a)
 |tuple {a:ah} {vs:List V} {ds:List cK}:ox K H a vs->bT K H ds vs->Rep K H (.tuple ds) (.ref a)
inductive bT(K:aE)(H:Hp):List cK->List V->Prop
 |nil:bT K H [] []
 |cons {d:cK} {v:V} {ds:List cK} {vs:List V}:Rep K H d v->bT K H ds vs->bT K H (d :: ds) (v :: vs)
end
section
variable {X:Cx}{pins:List (ah × Obj)}{σ:St}{H:Hp}{s:ax}
mutual
theorem Rep.reads(I:Inv X pins σ H s):∀ {d:cK} {v:V} {u:ae},Rep X.K H d v->RelV v u->∃ as,Reads s.heap u d as
 |_,_,_,.none,r=>by cases (r);exact⟨_,.none⟩
 |_,_,_,.bool b,r=>by cases (r);exact⟨_,.bool b⟩
 |_,_,_,.int i,r=>by obtain⟨t,e⟩:=r;subst e;exact⟨_,.int i t⟩
 |_,_,_,.str x,r=>by obtain⟨t,e⟩:=r;subst e;exact⟨_,.str x t⟩
 |_,_,_,.list h hs,r=>by cases r;obtain⟨its,rv,pl,_⟩:=I.list h;obtain⟨o,e,c,n,d⟩:=pl.isList;obtain⟨as,q⟩:=bT.reads I hs rv;exact⟨_,.list e c d q⟩
 |_,_,_,.tuple h hs,r=>by cases r;obtain⟨its,rv,⟨o,e,c,n,d⟩,_⟩:=I.tuple h;obtain⟨as,q⟩:=bT.reads I hs rv;exact⟨_,.tuple e c d q⟩
theorem bT.reads(I:Inv X pins σ H s):∀ {ds:List cK} {vs:List V} {us:List ae},bT X.K H ds vs->Vals vs us->∃ as,ReadsAll s.heap us ds as
 |_,_,_,.nil,.nil=>⟨_,.nil⟩
 |_,_,_,.cons h hs,.cons r rs=>by obtain⟨as,q⟩:=Rep.reads I h r;obtain⟨bs,q'⟩:=bT.reads I hs rs;exact⟨_,.cons q q'⟩
end
def Uz(K:aE):R2:=λx y H Q=>∃ d e,Rep K H d x/\Rep K H e y/\d.canLay0=true/\e.canLay0=true/\d.depth<=60/\Q (.bl (PyData.eqv d e)) H
def UA(K:aE):R2:=λx y H Q=>∃ d e,Rep K H d x/\Rep K H e y/\d.canLay0=true/\e.canLay0=true/\d.depth<=60/\Q (.bl (!PyData.eqv d e)) H
def G8(hu:X.A.units+64<e9):eJ X (gI .Eq) (Uz X.K):=by intro pins s σ H x y v u Q I rx ry h;obtain⟨d,e,h1,h2,h3,h4,h5,q⟩:=h;obtain⟨as,r1⟩:=h1.reads I rx;obtain⟨bs,r2⟩:=h2.reads I ry;exact PySem.SeqAt.rcAt_reads r1 r2 h3 h4 (by lia) X.prog X.w X.xe _ ⟨.bl _,H,I,rfl,q⟩
def Hr(hu:X.A.units+64<e9):eJ X (gI .NotEq) (UA X.K):=by intro pins s σ H x y v u Q I rx ry h;obtain⟨d,e,h1,h2,h3,h4,h5,q⟩:=h;obtain⟨as,r1⟩:=h1.reads I rx;obtain⟨bs,r2⟩:=h2.reads I ry;exact PySem.SeqAt.rcNeAt_reads r1 r2 h3 h4 (by lia) X.prog X.w X.xe _ ⟨.bl _,H,I,rfl,q⟩
def Q7(K:aE):R2:=λx y H Q=>match x,y with
 |.int i,.int j=>Q (.bl (decide (i=j))) H
 |.str i,.str j=>Q (.bl (decide (i=j))) H
 |.bl i,.bl j=>Q (.bl (decide (i=j))) H
 |_,_=>Uz K x y H Q
def Gf(hu:X.A.units+64<e9):eJ X (gI .Eq) (Q7 X.K):=(cN'.or (G8 hu)).imp λx y H Q h=>by
 unfold Q7 at h;split at h
 ·refine .inl ⟨rfl,?_⟩;simpa using h
 ·refine .inl ⟨rfl,?_⟩;simpa using h
 ·refine .inl ⟨rfl,?_⟩;simpa using h
 ·exact .inr h
def Q8(K:aE):R2:=λx y H Q=>match x,y with
 |.int i,.int j=>Q (.bl (!decide (i=j))) H
 |.str i,.str j=>Q (.bl (!decide (i=j))) H
 |.bl i,.bl j=>Q (.bl (!decide (i=j))) H
 |_,_=>UA K x y H Q
def GK(hu:X.A.units+64<e9):eJ X (gI .NotEq) (Q8 X.K):=(cO'.or (Hr hu)).imp λx y H Q h=>by
 unfold Q8 at h;split at h
 ·refine .inl ⟨rfl,?_⟩;simpa using h
 ·refine .inl ⟨rfl,?_⟩;simpa using h
 ·refine .inl ⟨rfl,?_⟩;simpa using h
 ·exact .inr h
end
end L2
namespace L2
section
variable {X:Cx}{pins:List (ah × Obj)}{σ:St}{H:Hp}{s:ax}{h':df}
def Inv.J2{t':Nat}{fp:List ah}(I:Inv X pins σ H s)(hf:∀ b∈fp,yA X pins H b)(k:∀ b o,b∉fp->s.heap.get? b=some o->h'.get? b=some o):Inv X pins σ H { s with heap:=h',toks:=t' }:=by
 have EL:∀ b u,H b=some u->b∉fp:=λb u e z=>by rw[(hf b z).1] at e;cases e
 refine I.step (λb hb=>?_) (λb o _ _ hc e _=>k b o hc e) (λb o _ _ hc e _=>⟨o.slots,k b o hc e⟩) (λ_ _ _ _ n=>n) (λb o hc e=>⟨o,k b o hc e⟩) (λ_ _ e=>e) (λ_ _ _ e=>e) (λb ps e=>⟨#[],by rw[e];simp⟩) (λm hm=>?_) (λb u e=>?_) I.bare
 ·obtain⟨f0,f1,f2,f3,f4,f5⟩:=hf b hb;exact⟨f3,f1,f4,f5⟩
 ·obtain⟨o,es,ep,ho,r⟩:=hm;exact⟨o,es,ep,k _ o (λz=>(hf _ z).2.1 rfl) ho,r⟩
 ·refine(I.b9 b u e).fz (λc v hc q=>k c v ?_ q) (λ_ q=>q) λ_ _ q=>q;rcases hc with z|z
  ·rw[z];exact EL b u e
  ·exact EL c _ z
def Inv.ft'{t':Nat}{fp:List ah}{p:ah}{xs:List V}(I:Inv X pins σ H s)(hf:∀ b∈fp,yA X pins H b)(k:∀ b o,b∉fp->s.heap.get? b=some o->h'.get? b=some o)(hp:s.heap.objs.size<=p)(new:iS X.prog X.w (upd H p (.tup xs)) h' p (.tup xs)):Inv X pins σ (upd H p (.tup xs)) { s with heap:=h',toks:=t' }:=by
 have hn:=I.b9.fresh hp;have EL:∀ b u,H b=some u->b∉fp:=λb u e z=>by rw[(hf b z).1] at e;cases e
 have lt:∀ b o,s.heap.get? b=some o->b≠p:=λb o e=>gi (oa (eW e) hp);refine I.step (λb hb=>?_) (λb o _ _ hc e _=>k b o hc e) (λb o _ _ hc e _=>⟨o.slots,k b o hc e⟩) (λb o _ e n=>by rw[fF (lt b o e)];exact n) (λb o hc e=>⟨o,k b o hc e⟩) (λ_ _ e=>by rw[fF (xt e hn)];exact e) (λ_ _ _ e=>by rw[fF (xt e hn)];exact e) (λb ps e=>⟨#[],by rw[fF (xt e hn),e];simp⟩) (λm hm=>?_) (λb u e=>?_) I.bare
 ·obtain⟨f0,f1,f2,f3,f4,f5⟩:=hf b hb;exact⟨f3,f1,f4,f5⟩
 ·obtain⟨o,es,ep,ho,r⟩:=hm;exact⟨o,es,ep,k _ o (λz=>(hf _ z).2.1 rfl) ho,r⟩
 ·by_cases hb:b=p
  ·subst hb;rw[ic] at e;cases e;exact new
  ·rw[fF hb] at e;refine(I.b9 b u e).fz (λc v hc q=>k c v ?_ q) (λc q=>by rw[fF (xt q hn)];exact q) λc xs q=>by rw[fF (xt q hn)];exact q
   rcases hc with z|z
   ·rw[z];exact EL b u e
   ·exact EL c _ z
end
def UB(K:aE)(a:ah):It :=
 ⟨λi H=>∃ xs x,fh K H a xs/\xs[i]? = some x,λi H x H'=>∃ p v,x=.ref p/\H p=none/\H'=upd H p (.tup [.int i,v])/\∀ xs,fh K H a xs->xs[i]? = some v,λi H=>∃ xs,fh K H a xs/\xs.length<=i⟩
def Bv:(2:Nat)<=bX:=by rw[j3];decide
def vR{P:d5}{w:eC}{K:aE}{elts:List Expr}{k:Nat}{pos:Pos}(a e it:ah)(Zy:e≠it):Turn P w K (.Tuple elts k pos) (UB K a) [e,it] e (λi h=>(∃ old,IsEnum h e it i old)/\h.IsListIter it a i) where
 mem:=by simp
 obj:=λi h ⟨⟨old,he⟩,st⟩ b hb=>by
  rcases eB.mp hb with rfl|hb
  ·exact⟨_,he,λv z=>nomatch z⟩
  ·have e:b=it:=by simpa using hb
   subst e;obtain⟨o,e,c,d⟩:=st;exact⟨o,e,λv z=>by rw[d] at z;cases z⟩
 keep:=λi h h' ⟨⟨old,he⟩,st⟩ k=>⟨⟨old,k e (by simp) _ he⟩,st.at λo e=>k it (by simp) o e⟩
 item:=by
  intro X hP hw hK hc i pins s σ H E I hf st hg;subst hP hw hK;obtain⟨xs,x,hq,hx⟩:=hg;obtain⟨its,rv,p,hz⟩:=I.list hq;obtain⟨u,hu,ru⟩:=rv.get hx;obtain⟨⟨old,he⟩,hit⟩:=st;refine wpAny_pyNext_enum_item he hit p.isList (x:=u) (by simpa using hu) Zy λh1 ho fu' hT fT hk=>⟨_,rfl,?_⟩
  refine wpAny_letOwnedTupleGo_enum (s:={ s with heap:=h1,toks:=s.toks+1 }) ho λh2 UC ll=>?_;have ke:∀ b o,b∉[e,it]->s.heap.get? b=some o->h2.get? b=some o:=λb o hb q=>(ll.2 b λz=>hb (by simp[z])).trans (hk b o (λz=>hb (by simp[z])) (λz=>hb (by simp[z])) q);have eS:e<s.heap.objs.size:=eW he;have hT2:h2.get? s.heap.objs.size=some { cls:=.type "tuple",data:=.seq #[.int i s.toks,u] }:=(ll.2 _ (LW eS)).trans hT;have I1:Inv X pins σ (upd H s.heap.objs.size (.tup [.int i,x])) { s with heap:=h2,toks:=s.toks+1 } :=
   I.ft' hf ke (cx _) ⟨Bv,[.int i s.toks,u],.cons ⟨s.toks,rfl⟩ (.cons ru .nil),_,hT2,rfl,_,rfl⟩
  refine⟨.ref s.heap.objs.size,_,I1,rfl,⟨_,x,rfl,I.fresh,rfl,λys hy=>by rw[I.Wn hy hq];exact hx⟩,⟨⟨u,by simpa using UC⟩,fu'.at λo q=>(ll.2 it Zy.symm).trans q⟩,λb hb=>?_⟩;rw[fF]
  ·exact(hf b hb).1
  ·rcases eB.mp hb with rfl|hb
   ·exact gi eS
   ·have e:b=it:=by simpa using hb
    subst e;obtain⟨o,q,_⟩:=hit;exact gi (eW q)
 done:=by intro X hP hw hK hc i pins s σ H E I hf st hg;subst hP hw hK;obtain⟨xs,hq,hx⟩:=hg;obtain⟨its,rv,p,hz⟩:=I.list hq;obtain⟨⟨old,he⟩,hit⟩:=st;have hl:=rv.length;exact wpAny_pyNext_enum_end (I.ok.hd hc) he hit p.isList (by simp;lia) λh' eb=>⟨rfl,I.J2 (t':=s.toks) hf λb o hb q=>eb b o (λz=>hb (by simp[z])) q⟩
 self:=λ_ _ _ _ _ ⟨⟨old,he⟩,_⟩ h=>wpAny_pyIter_enum he h
def GD(h:b∈[n+1,n]):n<=b:=by simp at h;lia
section
variable {X:Cx}
def JV(K:aE)(ta:TA):TI:=λσ H R=>ta σ H λvs H1=>∃ a,vs=[.ref a]/\(∃ xs,fh K H1 a xs)/\R (UB K a) H1
def Dt (hg:Gl X "enumerate") (hm:X.mg "enumerate" = none) (ha:PA X [a] ta) (hs:autoParam (b4 [a] X.env=[(false,dn a X.env)]) bv) :
  PI X (.Tuple elts k tp) (.Call (.Name "enumerate" p) [a] [] pos) (JV X.K ta):=by
 intro pins s σ H R I h;refine Call_ (AK I hg hm boot_enumerate (PyProof.Rows.callWith_type1 (dz (ha pos pins s σ H _ I h) λus s1 dQ=>L2.g7 dQ λvs H1 I1 r1 q1=>?_) hs rfl));obtain⟨l,e,⟨xs,hq⟩,q⟩:=q1;subst e
 cases r1 with
 |cons r rr =>cases rr;cases r;obtain⟨its,rv,pl,hz⟩:=I1.list hq;refine call_enumerate_list pl.isList λh2 he hit fT hk=>?_;refine wpAny_pyIter_enum he ?_;refine⟨s1.heap.objs.size+1,[s1.heap.objs.size+1,s1.heap.objs.size],_,_,H1,rfl,I1.kept hk,vR l _ _ (Nat.succ_ne_self _),⟨⟨_,he⟩,hit⟩,λb hb=>?_,q⟩;have e:s1.heap.objs.size<=b:=GD hb;exact I1.Qs e (I1.b9.fresh e)
end
def Q9(sc:Scope)(names:List (Str × zS)):List (Str × zS):=names.map λy=>if (y.2 == NameKind.free && sc.kind == .function && sc.names.lookup y.1 == some .cell)=true then (y.1,NameKind.cell) else (y.1,y.2)
def Ou(o:Option zS):Bool:=o == some .cell || o == some .free
def CQ(sc scope:Scope)(N cn:List Str)(ix:List Nat):Bool :=
 scope.kind == .function && scope.names.all (λy=>y.2 != .cell) && scope.names.all (λy=>y.2 != .free || Ou (sc.names.lookup y.1)) && scope.names.all (λy=>y.2 != .local || scope.names.lookup y.1 == some .local) &&
 ix.length == cn.length && (List.range ix.length).all (λk=>match ix[k]?,cn[k]? with
  |some j,some y=>N[j]? == some y && Ou (sc.names.lookup y) && scope.names.contains (y,NameKind.free) && Ou ((Q9 sc scope.names).lookup y)
  |_,_=>false) &&
 (Q9 sc scope.names).all (λy=>!(y.2 == .cell || y.2 == .free) || scope.names.contains (y.1,NameKind.free))
def qX(h:Ou o=true):o=some .cell\/o=some .free:=by unfold Ou at h;simpa using h
def eE.of{X:Cx}(ub:X.env.scope=sc)(hN:X.N=N)(h:CQ sc scope N cn ix=true):eE X scope tn cn ix:=by
 unfold CQ at h;simp only[lT] at h;obtain⟨⟨⟨⟨⟨⟨h1,h2⟩,h3⟩,h4⟩,h5⟩,h6⟩,h7⟩:=h;rw[GH] at h2 h3 h4 h6 h7;have Zz:(relabel scope X.env).names=Q9 sc scope.names:=by rw[<- ub];rfl
 refine⟨by simpa using h1,λy hy=>by simpa using h2 y hy,λy hy hk=>?_,λy hy hk=>?_,by simpa using h5,λk j hk=>?_,λx hx=>?_⟩
 ·have:=h3 y hy;rw[hk] at this;rw[ub];exact qX (by simpa using this)
 ·have:=h4 y hy;rw[hk] at this;simpa using this
 ·have kD:k<ix.length:=(iE.mp hk).1;have:=h6 k (n5.mpr kD);rw[hk] at this
  cases e:cn[k]? with
  |none=>rw[e] at this;cases this
  |some y =>rw[e] at this;simp only[lT] at this;obtain⟨⟨⟨a1,a2⟩,a3⟩,a4⟩:=this;refine⟨y,rfl,by rw[hN];simpa using a1,by rw[ub];exact qX a2,by simpa using a3,by rw[Zz];exact qX a4⟩
 ·rw[Zz] at hx;have mem:∃ k,(x,k)∈Q9 sc scope.names/\(k=.cell\/k=.free):=by
   rcases hx with hx|hx
   ·exact⟨_,PySem.mem_of_lookup hx,.inl rfl⟩
   ·exact⟨_,PySem.mem_of_lookup hx,.inr rfl⟩
  obtain⟨k,hm,hk⟩:=mem;have:=h7 _ hm;rcases hk with rfl|rfl<;>simpa using this
def eE.by{X:Cx}(c:X.env.scope=sc/\X.N=N)(h:CQ sc scope N cn ix=true):eE X scope tn cn ix:=.of c.1 c.2 h
structure Q_(P:d5)(w:eC)(K:aE)(mg:Str->Option ae)(base:df)(k:Nat)(x:Str)(ps:List Str)(sp:Sp):Prop where
 ex:∃ (g:ah) (fd:FuncData),mg x=some (.ref g)/\FV K (.ref g)=true/\Binds K fd ps []/\y3 P w K mg base vF k g fd ps sp
section
variable {X:Cx}{k:Nat}{x:Str}{ps:List Str}{sp:Sp}{p pos:Pos}{e:Expr}{es:List Expr}{t:TA}
def Hn (C:Q_ X.prog X.w X.K X.mg X.base k x ps sp) (hr:mN k X.A) (ha:PA X (e :: es) t) (hg:autoParam (Gl X x) bv) (tJ:(x == ("__debug__" : Str))=false:=by decide) (he:autoParam (b4 (e :: es) X.env=(false,dn e X.env) :: b4 es X.env) bv) (oy:autoParam ((kA pos (b4 es X.env)).any (·.1)=false) bv):PE X (.Call (.Name x p) (e :: es) [] pos) (TY sp [] E0 t):=by
 obtain⟨g,fd,hm,hk,hb,F⟩:=C.ex;exact dq' F hr hg hm hk hb .nil eT' ha tJ he oy
end
def B5.cal{P:d5}{K:aE}{st:Stmt}{ps:List Str}(F:B5 K x qual st f fd)(hm:mg x=some (.ref f))(G:y3 P w K mg base vF k f fd ps sp)(h:∀ (kV doc pm:ae) (an:Option ah) (gp ct:ae) (us:List ae),us.length=ps.length->bindArgs (yb x qual (B4 st) (xA st) (mr st) .none kV doc pm an gp ct) ⟨us,[]⟩=pure (ps.zip us)):Q_ P w K mg base k x ps sp :=
 ⟨f,fd,hm,F.kp,F.binds h,G⟩
def Cu:kK "int" = some (.type "int"):=by decide +kernel
def Fy:kK "bool" = some (.type "bool"):=by decide +kernel
def mV:kK "list" = some (.type "list"):=by decide +kernel
def oA:kK "isinstance" = some (.builtin "isinstance"):=by decide +kernel
def gq:kK "len" = some (.builtin "len"):=by decide +kernel
def Jk {X:Cx} {T:String} (hm:X.mg x=none) (hv:kK x=some (.type T)) (hg:autoParam (Gl X x) bv) (hn:x ≠ "__name__" := by decide) (hd:(x == ("__debug__" : Str))=false:=by decide):PE X (.Name x pos) (tC (.ty T)) :=
 bR' hg hm hv rfl hn hd
def Ra(i j:Str):Bool:=!(Builtin.Str.occurrences j i 0 j.length 1).isEmpty
def IA(K:aE)(neg:Bool):R2:=λx y H Q=>match x,y with
 |.str i,.str j=>Q (.bl (if neg then !Ra i j else Ra i j)) H
 |_,.ref p=>(∃ o,lh H p x o/\Q (.bl (if neg then !o.isSome else o.isSome)) H)\/Oj K neg x y H Q
 |_,_=>False
def G6{X:Cx}(hu:X.A.units+64<e9):eJ X (gI .In) (IA X.K false):=by
 intro pins s σ H x y v u Q I rx ry h;unfold IA at h;split at h
 ·exact cT' pins s σ H _ _ v u Q I rx ry ⟨_,_,rfl,rfl,h⟩
 ·rcases h with⟨o,g,q⟩|h
  ·cases ry;exact el' (by lia) I g rx λs3 I3=>⟨.bl o.isSome,H,I3,rfl,q⟩
  ·exact dV' pins s σ H _ _ v u Q I rx ry h
 ·exact h.elim
def vP{X:Cx}(hu:X.A.units+64<e9):eJ X (gI .NotIn) (IA X.K true):=by
 intro pins s σ H x y v u Q I rx ry h;unfold IA at h;split at h
 ·exact cU' pins s σ H _ _ v u Q I rx ry ⟨_,_,rfl,rfl,h⟩
 ·rcases h with⟨o,g,q⟩|h
  ·cases ry;exact em' (by lia) I g rx λs3 I3=>⟨.bl (!o.isSome),H,I3,rfl,q⟩
  ·exact dW' pins s σ H _ _ v u Q I rx ry h
 ·exact h.elim
def bP.upd(h:bP H H')(hp:H' p=none):bP H (upd H' p o):=λb u e=>by have e':=h b u e;rw[fF (xt e' hp)];exact e'
def bP.lst{K:aE}(e:bP H H')(h:fh K H a xs):fh K H' a xs:=e.seq h
def bP.tup{K:aE}(e:bP H H')(h:ox K H a xs):ox K H' a xs:=by
 rcases h with(h|⟨o,h⟩)|h
 ·exact .inl (.inl (e _ _ h))
 ·exact .inl (.inr ⟨o,e _ _ h⟩)
 ·exact .inr h
mutual
theorem Rep.same{K:aE}(s:bP H H'):∀ {d:cK} {v:V},Rep K H d v->Rep K H' d v
 |_,_,.none=>.none
 |_,_,.bool b=>.bool b
 |_,_,.int i=>.int i
 |_,_,.str x=>.str x
 |_,_,.list h hs=>.list (s.lst h) (bT.same s hs)
 |_,_,.tuple h hs=>.tuple (s.tup h) (bT.same s hs)
theorem bT.same{K:aE}(s:bP H H'):∀ {ds:List cK} {vs:List V},bT K H ds vs->bT K H' ds vs
 |_,_,.nil=>.nil
 |_,_,.cons h hs=>.cons (Rep.same s h) (bT.same s hs)
end
section
variable {X:Cx}{K:aE}
def kIx(hK:autoParam (X.K=K) bv):xv X (Q6 K):=by subst hK;exact Bk
def ly(hK:autoParam (X.K=K) bv)(hu:X.A.units+64<e9:=by assumption):eJ X (gI .Eq) (Q7 K):=by subst hK;exact Gf hu
def ZC(hK:autoParam (X.K=K) bv)(hu:X.A.units+64<e9:=by assumption):eJ X (gI .NotEq) (Q8 K):=by subst hK;exact GK hu
def mn(hK:autoParam (X.K=K) bv)(hu:X.A.units+64<e9:=by assumption):eJ X (gI .In) (IA K false):=by subst hK;exact G6 hu
def Cr(hK:autoParam (X.K=K) bv)(hu:X.A.units+64<e9:=by assumption):eJ X (gI .NotIn) (IA K true):=by subst hK;exact vP hu
end
def Mx{α:Type}{a:α}{p:α->Prop}:(∃ v,a=v/\p v)↔p a:=⟨λ⟨_,e,h⟩=>e ▸ h,λh=>⟨a,rfl,h⟩⟩
abbrev UD:=Array DictEntry
def vS(h:df)(d:ah)(es:UD)(ep:Nat):Prop:=∃ o,h.get? d=some o/\o.ExactDict/\o.data=.dict es ep
def vS.typ {s:ax} {d:ah} {es:UD} {ep:Nat} (x:vS s.heap d es ep):s.TypeIs (.ref d) "dict" := let ⟨o,e,c,_⟩:=x;⟨o,e,c.1⟩
section
variable {prog:d5}{w:eC}{A:e7}{E:ae->ax->Prop}{s:ax}{d it:ah}{es:UD}{ep i:Nat}
def Ao{Q:ae->ax->Prop}(lo:(d == ti)=false)(x:vS s.heap d es ep)(q:Q (.ref s.heap.objs.size) { s with heap:=s.heap.push { cls:=.type "dict_keyiterator",data:=.fields #[.ref d,.int 0 0,.int es.size 0,.int ep 0] } }):bq (aI prog w) A (pyIter (.ref d)) Q E s:=by
 obtain⟨o,ho,hc,Rb⟩:=id x;refine wpAny_pyIter_slot x.typ F.slot_dict_iter (Bn F.slot_dict_iter x.typ F.entry_dict_iter ?_ (F.args_dict_iter_1 _));refine aw ?_;refine aw (wpAny_notOrdered_dict x.typ ?_);refine(bG ?_);refine(show bq _ _ (Builtin.Dict.showsAll d >>= _) _ _ s from ?_);unfold Builtin.Dict.showsAll;rw[if_neg (by rw[lo];decide)];refine aw (bG (aw (Lc ho Rb (aw (wpAny_dictEpoch ho Rb (aw (rV (bG ⟨_,rfl, "dict_keyiterator",_,⟨_,kP _ rfl,rfl⟩,F.slot_dict_keyiterator_next.lookup,?_⟩))))))));simpa[mE] using q
def z7(hit:s.heap.IsKeyIter it d i es.size ep)(x:vS s.heap d es ep)(hx:i<es.size)(q:∀ h',h'.IsKeyIter it d (i+1) es.size ep->Heap.SameBut it s.heap h'->Q (some es[i].key) { s with heap:=h' }):bq (aI prog w) A (pyNext (.ref it)) Q E s:=by
 obtain⟨o,ho,hc,hd⟩:=id hit;obtain⟨od,IB,tI,Ov⟩:=id x;have ty:=hit.typeIs;refine aw (wpAny_attempt (NF ty F.slot_dict_keyiterator_next (Bn F.slot_dict_keyiterator_next ty F.entry_dict_keyiterator_next ?_ (F.args_dict_keyiterator_next_1 _))));refine aw (bG (aw (aw ?_)));first|refine aw (PD ty (bG ?_))|refine aw (PF ty (bG ?_))
 refine aw (wpAny_fieldsOf ho hd ?_);refine(show bq _ _ (if (Value.ref d == Value.none)=true then _ else _) _ _ s from ?_);refine aw (bG (aw (Lc IB Ov ?_)));rw[if_neg (by intro h;simp at h)];refine aw (bG (aw (wpAny_dictEpoch IB Ov ?_)));rw[if_neg (by intro h;simp at h)];refine bG ?_;simp only[show ¬ (i<0) by lia,if_false,NW,BG hx];refine aw ?_;first|refine aw (PD ty (bG ?_))|refine aw (PF ty (bG ?_))
 refine aw (wpAny_isOneOf_keyiter ty ?_);refine(show bq _ _ (setField (.ref it) 1 (mE (i+1)) >>= _) _ _ s from aw (wpAny_setField ho hd (by simp) ?_));have ZD:(s.heap.update it (Obj.mapFields (·.setIfInBounds 1 (mE (i+1))))).IsKeyIter it d (i+1) es.size ep :=
  ⟨_,EG _ ho (Obj.isFreed_of_fields (Obj.data_mapFields hd _)),(Obj.cls_mapFields ..).trans hc,by rw[Obj.data_mapFields hd];simp[mE]⟩
 refine aw (tf (aw (wpAny_isOneOf_keyiter ZD.typeIs ?_)));refine(bG (bG ⟨_,rfl,bG (q _ ZD (Heap.SameBut.update ..))⟩))
def Bg(hh:A.handled=none)(hit:s.heap.IsKeyIter it d es.size es.size ep)(x:vS s.heap d es ep)(q:∀ h',Heap.ExtBut it s.heap h'->Q none { s with heap:=h' }) :
  bq (aI prog w) A (pyNext (.ref it)) Q E s:=by
 obtain⟨o,ho,hc,hd⟩:=id hit;obtain⟨od,IB,tI,Ov⟩:=id x;have ty:=hit.typeIs;refine aw (wpAny_attempt (NF ty F.slot_dict_keyiterator_next (Bn F.slot_dict_keyiterator_next ty F.entry_dict_keyiterator_next ?_ (F.args_dict_keyiterator_next_1 _))));refine aw (bG (aw (aw ?_)));first|refine aw (PD ty (bG ?_))|refine aw (PF ty (bG ?_))
 refine aw (wpAny_fieldsOf ho hd ?_);refine(show bq _ _ (if (Value.ref d == Value.none)=true then _ else _) _ _ s from ?_);refine aw (bG (aw (Lc IB Ov ?_)));rw[if_neg (by intro h;simp at h)];refine aw (bG (aw (wpAny_dictEpoch IB Ov ?_)));rw[if_neg (by intro h;simp at h)];refine bG ?_;simp only[show ¬ (es.size<0) by lia,if_false,NW,EI (cx es.size)];refine aw ?_;first|refine aw (PD ty (bG ?_))|refine aw (PF ty (bG ?_))
 refine(show bq _ _ (setField (.ref it) 0 .none >>= _) _ _ s from aw (wpAny_setField ho hd (by simp) ?_));refine(aw ?_);refine aw (rV ?_ (by size_fits));refine aw (wpAny_of_eq (by first|rfl|(simp only[firstArgMember];rfl)) (rV ?_ (by size_fits)));refine aw (wpAny_handled ?_);rw[show A.in1.handled=none from hh];refine aw (bG (wpAny_throw ?_));refine aw (wpAny_isInstance ⟨_,kP _ rfl,rfl⟩ isSubtype_stop ?_);exact bG (q _ (((Heap.SameBut.update ..).extBut.push _).push _))
def vS.at(x:vS h d es ep)(e:∀ o,h.get? d=some o->h'.get? d=some o):vS h' d es ep:=let ⟨o,ho,r⟩:=x;⟨o,e o ho,r⟩
def vS.lt(x:vS h d es ep):d<h.objs.size:=let ⟨_,e,_⟩:=x;eW e
def wy(hh:A.handled=none)(I:ah)(iA:d≠I):Walks prog w A I [I,d] [I] es.size (λi v=>∃ e,es[i]? = some e/\v=e.key) (λi h=>h.IsKeyIter I d i es.size ep/\vS h d es ep) where
 sub:=λb hb=>by simp at hb;simp[hb]
 frame:=λ_ _ _ st hk=>⟨st.1.at λo e=>hk I (by simp) o e,st.2.at λo e=>hk d (by simp) o e⟩
 item:=λi s Q E hi st hQ=>z7 st.1 st.2 hi λh' a b=>hQ _ h' s.toks ⟨es[i],by simp[hi],rfl⟩ ⟨a,st.2.at λo e=>b.extBut d o iA e⟩ λc o hb e=>b.extBut c o (λh=>hb (by simp[h])) e
 done:=λs Q E st hQ=>Bg hh st.1 st.2 λh' Rc=>hQ h' s.toks λb o hb e=>Rc b o (λh=>hb (by simp[h])) e
 self:=λ_ _ _ _ st hQ=>wpAny_pyIter_keyiter st.1 hQ
def vL (lo:(d == ti)=false):PySem.W.KdlSrc prog w "dict" d d es.size (λi v=>∃ e,es[i]? = some e/\v=e.key) (λh=>vS h d es ep) where
 type:=λ_ x=>x.typ
 there:=λ_ x=>⟨x.lt,x.lt⟩
 keep:=λ_ _ x hk=>x.at λo e=>hk d (.inl rfl) o e
 notList:=by decide
 notTuple:=by decide
 hint:=λ_ _ _ _ x hq=>PySem.W.kdl_hint_dict x.typ hq
 iter:=λ_ _ hh x=>⟨_,_,(λ_ _ hq=>Ao lo x hq),wy hh _ (gi x.lt),⟨⟨_,kP _ rfl,rfl,rfl⟩,x.at λo e=>gu _ e⟩⟩
end
def Paired.n0{α β:Type}{R:α->β->Prop}{bs:List β}(h:Paired R [] bs):bs=[]:=by cases h;rfl
def Paired.c{α β:Type}{R:α->β->Prop}{a:α}{as:List α}{bs:List β}(h:Paired R (a :: as) bs):∃ b cs,bs=b :: cs/\R a b/\Paired R as cs:=by
 cases h with
 |cons r t=>exact⟨_,_,rfl,r,t⟩
def bR(H:Hp)(ys:List V)(ks:List (List Key)):Prop:=Paired (λ(v:V) (k:List Key)=>∃ b,v=.ref b/\H b=some (.tup (k.map kV))) ys ks
section
variable {X:Cx}
def ud:List V->Hp->VK->Prop:=λxs H Q=>match xs with
 |[.ref p]=>∃ kvs,Rd H p (.dT kvs)/\∀ ys l,bR H ys (kvs.map (·.1))->H l=none->Q (.ref l) (upd H l (.lst ys))
 |_=>False
def wR (h:Paired (λ(p:List Key × V) (q:List Key × ah × ae)=>p.1=q.1/\H q.2.1=some (.tup (p.1.map kV))/\RelV p.2 q.2.2) kvs xs) :
  bR H (xs.map λq=>.ref q.2.1) (kvs.map (·.1))/\Vals (xs.map λq=>.ref q.2.1) ((xs.map (entryOfKey (BD (kg prog w)))).map (·.key)):=by
 induction h with
 |nil=>exact⟨.nil,.nil⟩
 |cons r t ih=>exact⟨.cons ⟨_,rfl,r.2.1⟩ ih.1,.cons rfl ih.2⟩
def u_ (hc:X.calm=true):i3 X (.type "list") ud:=by
 intro pins s σ H xs us Q I r h;unfold ud at h;split at h
 ·rename_i p;obtain⟨kvs,e,q⟩:=h;obtain⟨u,rfl,ru⟩:=Vals.one r;cases ru;obtain⟨z,y,ps,rel,o,es,ep,h1,h2,h3,h4,h5⟩:=(I.rd e)
  obtain⟨ta,va⟩:=wR rel;have hlen:es.size=kvs.length:=by have:=congrArg List.length h4;rw[BH,b6] at this;rw[this];exact rel.length.symm
  refine PySem.W.kdl_call (vL y) (I.ok.hd hc) ⟨o,h1,h2,h3⟩ (by lia) λh' tk acc c kp eo y8=>?_;have hv:acc.toList=(ps.map (entryOfKey (BD (kg X.prog X.w)))).map (·.key):=by
   apply Dp;intro i;by_cases hi:i<es.size
   ·have i9:i<acc.size:=by rw[y8.1];exact hi
    obtain⟨en,e1,e2⟩:=y8.2 i acc[i] (by simp[i9]);rw[<- h4,kM,mh,mh,e1];simp[i9,e2]
   ·rw[<- h4,kM,mh,mh,EI (by rw[y8.1];lia),EI (by lia)];rfl
  refine⟨.ref s.heap.objs.size,_,I.laid kp (cx _) (show iS X.prog X.w _ h' _ (.lst (ps.map λq=>.ref q.2.1)) from⟨?_,acc.toList,c,?_,?_⟩),rfl,q _ _ ta (I.b9.fresh (cx _))⟩
  ·rw[b6,<- rel.length];exact z
  ·rw[hv];exact va
  ·rw[Qg];exact eo
 ·exact h.elim
end
end L2
end
namespace sC
open PySem PyProof.Rows
def R(r:ae->Int)(xs:Array bS)(i:Nat):Int:=match xs[i]? with
 |some p=>r p.1
 |none=>0
def cR(h:xs[i]? = ys[j]?):R r xs i=R r ys j:=by unfold R;rw[h]
def mS(prog:d5)(w:eC)(A:e7)(s:ax)(κ:pd)(r:ae->Int)(P:ae->Prop):Prop :=
 ∀ x y,P x->P y->∀ (Q:Bool->ax->Prop) (E:ae->ax->Prop),Q (decide (r x<r y)) s->bq (aI prog w) A (keyLt' κ x y) Q E s
def AllP(P:ae->Prop)(xs:Array bS):Prop:=∀ p∈xs.toList,P p.1
def AllP.perm{P:ae->Prop}(h:AllP P xs)(hp:ys.Perm xs):AllP P ys:=λp hm=>h p ((Tb.mp hp).mem_iff.mp hm)
def AllP.at{P:ae->Prop}{xs:Array bS}(h:AllP P xs){i:Nat}{p:bS}(e:xs[i]? = some p):P p.1:=h p (by
 obtain⟨hi,rfl⟩:=L5.mp e;simp)
structure nc(lo hi:Nat)(st av:dS):Prop where
 kind:ft av=ft st
 failed:qk av=qk st
 pend:k8 av=k8 st
 perm:(bp av).Perm (bp st)
 out:∀ k,k<lo\/hi<=k->(bp av)[k]? = (bp st)[k]?
def nc.refl(lo hi:Nat)(st:dS):nc lo hi st st:=⟨rfl,rfl,rfl,Array.Perm.refl _,λ_ _=>rfl⟩
def nc.trans{lo hi:Nat}{a b c:dS}(h:nc lo hi a b)(g:nc lo hi b c):nc lo hi a c :=
 ⟨g.kind.trans h.kind,g.failed.trans h.failed,g.pend.trans h.pend,g.perm.trans h.perm,λk hk=>(g.out k hk).trans (h.out k hk)⟩
def nc.mono{lo hi IC ki:Nat}{a b:dS}(h:nc lo hi a b)(h1:IC<=lo)(h2:hi<=ki):nc IC ki a b :=
 ⟨h.kind,h.failed,h.pend,h.perm,λk hk=>h.out k (by lia)⟩
def nc.size{lo hi:Nat}{a b:dS}(h:nc lo hi a b):(bp b).size=(bp a).size:=h.perm.size_eq
def Up(r:ae->Int)(xs:Array bS)(lo hi:Nat):Prop:=∀ i j,lo<=i->i<=j->j<hi->R r xs i<=R r xs j
def Down(r:ae->Int)(xs:Array bS)(lo hi:Nat):Prop:=∀ i j,lo<=i->i<=j->j<hi->R r xs j<=R r xs i
def ue(hs:src<xs.size)(hd:d<=src)(k:Nat) :
  R r (bubble xs src d) k=if k=src-d then R r xs src else if src-d<k/\k<=src then R r xs (k-1) else R r xs k:=by
 have e:=getElem?_bubble hs d hd k;by_cases h1:k=src-d
 ·rw[if_pos h1] at e ⊢;exact cR e
 ·rw[if_neg h1] at e ⊢;by_cases h2:src-d<k/\k<=src
  ·rw[if_pos h2] at e ⊢;exact cR e
  ·rw[if_neg h2] at e ⊢;exact cR e
def mY(hj:j<=xs.size)(k:Nat) :
  R r (mirror xs i j ((j-i) / 2)) k=if i<=k/\k<j then R r xs (i+j-1-k) else R r xs k:=by
 have e:=getElem?_mirror_all (i:=i) hj k;by_cases h1:i<=k/\k<j
 ·rw[if_pos h1] at e ⊢;exact cR e
 ·rw[if_neg h1] at e ⊢;exact cR e
def bJ(hj:j<=xs.size)(heq:∀ k,i<=k->k<j->R r xs k=R r xs (j-1))(k:Nat) :
  R r (mirror xs i j ((j-i) / 2)) k=R r xs k:=by
 rw[mY hj];split
 ·rw[heq _ (by lia) (by lia),heq k (by lia) (by lia)]
 ·rfl
section
variable {prog:d5}{w:eC}{A:e7}{E:ae->ax->Prop}{s:ax}{κ:pd}{r:ae->Int}{P:ae->Prop}
def pC{st:dS}{x y:bS}{Q:Option Bool->dS->Prop}(C:mS prog w A s κ r P)(hk:ft st=κ)(hx:P x.1)(hy:P y.1)(h:Q (some (decide (r x.1<r y.1))) st) :
  wpS (aI prog w) A E s (lt' x y) Q st:=by
 rw[lt'_eq];refine ck (wpS_get ?_);rw[hk];exact ck (wpS_lift (wpAny_attempt (C x.1 y.1 hx hy _ _ ⟨rfl,dc h⟩)))
def aK{xs:Array bS}{i:Nat}{Q:bS->dS->Prop}{st:dS}(hi:i<xs.size)(h:∀ p,xs[i]? = some p->Q p st):wpS (aI prog w) A E s (elem' xs i) Q st:=by rw[elem'_eq,getElem?_pos xs i hi];exact dc (h _ (getElem?_pos xs i hi))
def jB{st:dS}{i j:Nat}{Q:Option Bool->dS->Prop}(C:mS prog w A s κ r P)(hk:ft st=κ)(hP:AllP P (bp st))(hi:i<(bp st).size)(hj:j<(bp st).size)(h:Q (some (decide (R r (bp st) i<R r (bp st) j))) st):wpS (aI prog w) A E s (ltAt' i j) Q st:=by
 refine ck (wpS_get ?_);refine ck (aK hi λp ep=>ck (aK hj λq eq=>pC C hk (hP.at ep) (hP.at eq) ?_));have e1:R r (bp st) i=r p.1:=by unfold R;rw[ep]
 have e2:R r (bp st) j=r q.1:=by unfold R;rw[eq]
 rw[<- e1,<- e2];exact h
def dg{st:dS}{i j:Nat}{Q:Unit->dS->Prop}(h:Q () (setArr st (mirror (bp st) i j ((j-i) / 2)))) :
  wpS (aI prog w) A E s (reverseSlice' i j) Q st:=by
 rw[reverseSlice'_eq];exact DE h
def fG{st:dS}{i j:Nat}(hj:j<=(bp st).size):nc i j st (setArr st (mirror (bp st) i j ((j-i) / 2))) :=
 ⟨rfl,rfl,rfl,mirror_perm _ _ _ _,λk hk=>by
  have e:=getElem?_mirror_all (i:=i) hj k;rw[if_neg (by lia)] at e;exact e⟩
def vm{st:dS}{lo src d:Nat}(hs:src<(bp st).size)(hd:lo+d<=src):nc lo (src+1) st (setArr st (bubble (bp st) src d)) :=
 ⟨rfl,rfl,rfl,bubble_perm _ _ _,λk hk=>by
  have e:=getElem?_bubble hs d (by lia) k;rw[if_neg (by lia),if_neg (by lia)] at e;exact e⟩
def wpS_binarySort{st:dS}{lo n ok:Nat}{Q:Bool->dS->Prop}(C:mS prog w A s κ r P)(hk:ft st=κ)(hP:AllP P (bp st))(hn:lo+n<=(bp st).size)(b9:ok<=n)(hs:Up r (bp st) lo (lo+ok))(h:∀ av,nc lo (lo+n) st av->Up r (bp av) lo (lo+n)->Q true av):wpS (aI prog w) A E s (binarySort' lo n ok) Q st:=by
 refine ck (tq (qh (I:=λk c av=>c=(none,())/\nc lo (lo+n) st av/\Up r (bp av) lo (lo+min k n)) (Q:=λc av=>c=(none,())/\nc lo (lo+n) st av/\Up r (bp av) lo (lo+n)) ?step ?fin ?init) ?post)
 case post =>
  rintro c av ⟨rfl,ja,gL⟩;exact dc (h av ja gL)
 case init =>
  refine⟨rfl,.refl _ _ _,λi j hl iN hj=>?_⟩;by_cases h1:ok=0
  ·have:i=j:=by lia
   subst this;exact sf _
  ·exact hs i j hl iN (by lia)
 case fin =>
  rintro c av ⟨hc,ja,gL⟩;refine⟨hc,ja,?_⟩;rwa[show min (max (max ok 1) n) n=n by lia] at gL
 case step =>
  rintro k c av hak hkn ⟨rfl,ja,gL⟩;rw[show min k n=k by lia] at gL;have fT:=ja.size;have kD:ft av=κ:=ja.kind.trans hk;have sD:=hP.perm ja.perm;refine ck (tq (qh (I:=λx c DT=>DT=av/\∃ l r',c=(none,l,r')/\l<=r'/\r'<=k/\r'-l<=k-x /\ (∀ i,lo<=i->i<lo+l->R r (bp av) i<=R r (bp av) (lo+k))/\(∀ i,lo+r'<=i->i<lo+k->R r (bp av) (lo+k)<R r (bp av) i)) (Q:=λc DT=>DT=av/\∃ l r',c=(none,l,r')/\l<=k /\ (∀ i,lo<=i->i<lo+l->R r (bp av) i<=R r (bp av) (lo+k))/\(∀ i,lo+l<=i->i<lo+k->R r (bp av) (lo+k)<R r (bp av) i)) ?fy' ?fz' ?fA') ?fB')
  case fA'=>exact⟨rfl,0,k,rfl,by lia,by lia,by lia,λi _ hi=>by lia,λi h1 h2=>by lia⟩
  case fz' =>
   rintro c DT ⟨rfl,l,r',rfl,hlr,IE,hm,E7,B9⟩;have:l=r':=by lia
   subst this;exact⟨rfl,l,l,rfl,IE,E7,B9⟩
  case fy' =>
   rintro x c DT _ hxk ⟨rfl,l,r',rfl,hlr,IE,hm,E7,B9⟩;dsimp only;by_cases qE:l >= r'
   ·rw[if_pos qE];have:l=r':=by lia
    subst this;exact dc ⟨rfl,l,l,rfl,IE,E7,B9⟩
   ·rw[if_neg qE];refine ck (jB C kD sD (by lia) (by lia) ?_);by_cases xC:R r (bp DT) (lo+k)<R r (bp DT) (lo+(l+r') / 2)
    ·simp only[xC,decide_true,if_true];exact dc ⟨rfl,l,(l+r') / 2,rfl,by lia,by lia,by lia,E7,λi h1 h2=>Int.lt_of_lt_of_le xC (gL _ _ (by lia) h1 h2)⟩
    ·simp only[xC,decide_false,pf,if_false];exact dc ⟨rfl,(l+r') / 2+1,r',rfl,by lia,by lia,by lia,λi h0 h1=>yi (gL i (lo+(l+r') / 2) h0 (by lia) (by lia)) (Int.not_lt.mp xC),B9⟩
  case fB' =>
   rintro c DT ⟨rfl,l,r',rfl,hlk,E7,B9⟩;show wpS _ _ _ _ (do moveDown' (lo+k) (lo+l);pure (ForInStep.yield (none,()))) _ _;rw[moveDown'_eq];have UE:lo+k<(bp DT).size:=by lia
   refine ck (DE (dc ⟨rfl,ja.trans ((vm UE (by lia)).mono (cx _) (by lia)),?_⟩));intro i j hl iN hj;rw[ue UE (by lia),ue UE (by lia),show lo+k-(lo+k-(lo+l))=lo+l by lia]
   repeat' split
   all_goals first
    | (exfalso;lia)
    |exact sf _
    |exact E7 _ (by lia) (by lia)
    |exact GW (B9 _ (by lia) (by lia))
    |exact gL _ _ (by lia) (by lia) (by lia)
end
def ascL(lo a nrem:Nat):StateT dS Sem AscSt :=
 forIn [a:nrem] ((none,a):AscSt) λ_ __s=>do
  let __x ← ltAt' (lo + __s.snd) (lo + __s.snd - 1)
  match __x with
  |some smaller=>if smaller=true then pure (ForInStep.done (none,__s.snd)) else pure (ForInStep.yield (none,__s.snd+1))
  |_=>pure (ForInStep.done (some none,__s.snd))
def ym(lo n nrem:Nat):StateT dS Sem (Option Nat):=do
 reverseSlice' lo (lo+n)
 let __s ← ascL lo n nrem
 match __s.fst with
 |some r=>pure r
 |none=>pure (some __s.snd)
def Gh(lo n nrem:Nat):StateT dS Sem DescSt :=
 forIn [n:nrem] ((none,n,0):DescSt) λ_ __s=>do
  let __x ← ltAt' (lo + __s.snd.fst) (lo + __s.snd.fst - 1)
  match __x with
  |some smaller =>
   if smaller=true then
    if __s.snd.snd>0 then do
     reverseSlice' (lo+__s.snd.fst-(__s.snd.snd+1)) (lo+__s.snd.fst)
     pure (ForInStep.yield (none,__s.snd.fst+1,0))
    else pure (ForInStep.yield (none,__s.snd.fst+1,0))
   else do
    let __x ← ltAt' (lo+__s.snd.fst - 1) (lo+__s.snd.fst)
    match __x with
    |some larger =>
     if larger=true then pure (ForInStep.done (none,__s.snd.fst,__s.snd.snd))
     else pure (ForInStep.yield (none,__s.snd.fst+1,__s.snd.snd+1))
    |_=>pure (ForInStep.done (some none,__s.snd.fst,__s.snd.snd))
  |_=>pure (ForInStep.done (some none,__s.snd.fst,__s.snd.snd))
def j9(lo n nrem:Nat):StateT dS Sem (Option Nat):=do
 liftM (rule "list.sort.descending-run")
 let __s ← Gh lo (n+1) nrem
 match __s.fst with
 |some r=>pure r
 |none =>
  if __s.snd.snd>0 then do
   reverseSlice' (lo+__s.snd.fst-(__s.snd.snd+1)) (lo+__s.snd.fst)
   ym lo __s.snd.fst nrem
  else ym lo __s.snd.fst nrem
def qu(lo nrem:Nat):countRun' lo nrem=(do
  let __s ← ascL lo 1 nrem
  match __s.fst with
  |some r=>pure r
  |none =>
   if (__s.snd == nrem)=true then pure (some __s.snd)
   else if __s.snd>1 then do
    let __x ← ltAt' lo (lo+__s.snd - 1)
    match __x with
    |some ZE=>if ZE=true then pure (some __s.snd) else do
      reverseSlice' lo (lo+__s.snd)
      j9 lo __s.snd nrem
    |_=>pure none
   else j9 lo __s.snd nrem):=by
 rw[countRun'_eq];dsimp only;congr 1;funext __s;obtain⟨r,n⟩:=__s
 cases r with
 |some r=>rfl
 |none =>
  dsimp only;split
  ·rfl
  ·split
   ·congr 1;funext x
    cases x with
    |none=>rfl
    |some ZE =>
     dsimp only;split
     ·rfl
     ·congr 1;funext _r
      (congr 1;funext _u;congr 1;congr 1;funext s2;obtain⟨r2,n2,q2⟩:=s2;cases r2 with
       |some r2=>rfl
       |none=>(dsimp only;split;(congr 1;funext _v;(congr 1;funext _w;congr 1;(funext s3;obtain⟨r3,n3⟩:=s3;cases r3<;>rfl)));(congr 1;funext _w;congr 1;(funext s3;obtain⟨r3,n3⟩:=s3;cases r3<;>rfl))))
   ·(congr 1;funext _u;congr 1;congr 1;funext s2;obtain⟨r2,n2,q2⟩:=s2;cases r2 with
     |some r2=>rfl
     |none=>(dsimp only;split;(congr 1;funext _v;(congr 1;funext _w;congr 1;(funext s3;obtain⟨r3,n3⟩:=s3;cases r3<;>rfl)));(congr 1;funext _w;congr 1;(funext s3;obtain⟨r3,n3⟩:=s3;cases r3<;>rfl))))
section
variable {prog:d5}{w:eC}{A:e7}{E:ae->ax->Prop}{s:ax}{κ:pd}{r:ae->Int}{P:ae->Prop}
def tX{st:dS}{lo a nrem:Nat}{Q:AscSt->dS->Prop}(C:mS prog w A s κ r P)(hk:ft st=κ)(hP:AllP P (bp st))(hn:lo+nrem<=(bp st).size)(ha:1<=a)(han:a<=nrem)(hs:Up r (bp st) lo (lo+a))(h:∀ n,a<=n->n<=nrem->Up r (bp st) lo (lo+n)->(n=nrem\/R r (bp st) (lo+n)<R r (bp st) (lo+n-1))->Q (none,n) st) :
  wpS (aI prog w) A E s (ascL lo a nrem) Q st:=by
 refine qh (I:=λx c av=>av=st/\c=(none,x)/\Up r (bp st) lo (lo+x)) ?step ?fin ⟨rfl,rfl,hs⟩;case fin =>
  rintro c av ⟨rfl,rfl,gL⟩;rw[show max a nrem=nrem by lia] at gL ⊢;exact h nrem han (cx _) gL (.inl rfl)
 case step =>
  rintro x c av UG hxn ⟨rfl,rfl,gL⟩;refine ck (jB C hk hP (by lia) (by lia) ?_);by_cases xC:R r (bp av) (lo+x)<R r (bp av) (lo+x-1)
  ·simp only[xC,decide_true,if_true];exact dc (h x UG (by lia) gL (.inr xC))
  ·simp only[xC,decide_false,pf,if_false];refine dc ⟨rfl,rfl,λi j hl iN hj=>?_⟩;by_cases Ow:j<lo+x
   ·exact gL i j hl iN Ow
   ·have oj:j=lo+x:=by lia
    subst oj;by_cases ki:i=lo+x
    ·subst ki;exact sf _
    ·exact yi (gL i (lo+x-1) hl (by lia) (by lia)) (Int.not_lt.mp xC)
def mH{st:dS}{lo n nrem:Nat}{Q:Option Nat->dS->Prop}(C:mS prog w A s κ r P)(hk:ft st=κ)(hP:AllP P (bp st))(hn:lo+nrem<=(bp st).size)(h1:1<=n)(DU:n<=nrem)(hs:Down r (bp st) lo (lo+n)) (h:∀ m av,nc lo (lo+nrem) st av->1<=m->m<=nrem->Up r (bp av) lo (lo+m)->Q (some m) av) :
  wpS (aI prog w) A E s (ym lo n nrem) Q st:=by
 have fT:lo+n<=(bp st).size:=by lia
 refine ck (dg ?_);have ja:=fG (i:=lo) fT;refine ck (tX C (ja.kind.trans hk) (hP.perm ja.perm) (by rw[ja.size];exact hn) h1 DU ?_ λm AU mv UH _=>dc (h m _ (ja.mono (cx _) (by lia)) (by lia) mv UH));intro i j hl iN hj;rw[mY fT,mY fT,if_pos (by lia),if_pos (by lia)];exact hs _ _ (by lia) (by lia) (by lia)
def vA{st:dS}{lo n nrem:Nat}{Q:DescSt->dS->Prop}(C:mS prog w A s κ r P)(hk:ft st=κ)(hP:AllP P (bp st))(hn:lo+nrem<=(bp st).size)(h1:1<=n)(DU:n<=nrem)(hs:Down r (bp st) lo (lo+n))(h:∀ m sF av,nc lo (lo+nrem) st av->n<=m->m<=nrem->Down r (bp av) lo (lo+m)->sF+1<=m->(∀ i,lo+m-(sF+1)<=i->i<lo+m->R r (bp av) i=R r (bp av) (lo+m-1))->Q (none,m,sF) av) :
  wpS (aI prog w) A E s (Gh lo n nrem) Q st:=by
 refine qh (I:=λx c av=>∃ sF,c=(none,x,sF)/\nc lo (lo+nrem) st av/\Down r (bp av) lo (lo+x)/\sF+1<=x /\ (∀ i,lo+x-(sF+1)<=i->i<lo+x->R r (bp av) i=R r (bp av) (lo+x-1))) ?step ?fin ⟨0,rfl,.refl _ _ _,hs,by lia,λi h1 h2=>by congr 1;lia⟩
 case fin =>
  rintro c av ⟨sF,rfl,ja,gL,hq,he⟩;rw[show max n nrem=nrem by lia] at gL hq he ⊢;exact h nrem sF av ja DU (cx _) gL hq he
 case step =>
  rintro x c av UG hxn ⟨sF,rfl,ja,gL,hq,he⟩;dsimp only;have hz:=ja.size;have fT:lo+x<=(bp av).size:=by lia
  have kD:=ja.kind.trans hk;have sD:=hP.perm ja.perm;refine ck (jB C kD sD (by lia) (by lia) ?_);by_cases xC:R r (bp av) (lo+x)<R r (bp av) (lo+x-1)
  ·simp only[xC,decide_true,if_true];have ZF:∀ xs:Array bS,(∀ k,R r xs k=R r (bp av) k)->Down r xs lo (lo+(x+1)):=by
    intro xs ZG i j hl iN hj;rw[ZG,ZG];by_cases Ow:j<lo+x
    ·exact gL i j hl iN Ow
    ·have oj:j=lo+x:=by lia
     subst oj;by_cases ki:i=lo+x
     ·subst ki;exact sf _
     ·exact yi (GW xC) (gL i (lo+x-1) hl (by lia) (by lia))
   by_cases Ox:sF>0
   ·rw[if_pos Ox];refine ck (dg (dc ⟨0,rfl,ja.trans ((fG fT).mono (by lia) (by lia)),ZF _ (bJ fT he),by lia,λi h1 h2=>by congr 1;lia⟩))
   ·rw[if_neg Ox];exact dc ⟨0,rfl,ja,ZF _ (λ_=>rfl),by lia,λi h1 h2=>by congr 1;lia⟩
  ·simp only[xC,decide_false,pf,if_false];refine ck (jB C kD sD (by lia) (by lia) ?_);by_cases ZH:R r (bp av) (lo+x-1)<R r (bp av) (lo+x)
   ·simp only[ZH,decide_true,if_true];exact dc (h x sF av ja UG (by lia) gL hq he)
   ·simp only[ZH,decide_false,pf,if_false];have ZI:R r (bp av) (lo+x)=R r (bp av) (lo+x-1):=by lia
    refine dc ⟨sF+1,rfl,ja,λi j hl iN hj=>?_,by lia,λi h1 h2=>?_⟩
    ·by_cases Ow:j<lo+x
     ·exact gL i j hl iN Ow
     ·have oj:j=lo+x:=by lia
      subst oj;by_cases ki:i=lo+x
      ·subst ki;exact sf _
      ·rw[ZI];exact gL i (lo+x-1) hl (by lia) (by lia)
    ·rw[show lo+(x+1)-1=lo+x by lia];by_cases y9:i=lo+x
     ·subst y9;rfl
     ·rw[ZI];exact he i (by lia) (by lia)
def gj{st:dS}{lo n nrem:Nat}{Q:Option Nat->dS->Prop}(C:mS prog w A s κ r P)(hk:ft st=κ)(hP:AllP P (bp st))(hn:lo+nrem<=(bp st).size)(DU:n+1<=nrem)(hs:Down r (bp st) lo (lo+(n+1))) (h:∀ m av,nc lo (lo+nrem) st av->1<=m->m<=nrem->Up r (bp av) lo (lo+m)->Q (some m) av) :
  wpS (aI prog w) A E s (j9 lo n nrem) Q st:=by
 refine ck (wpS_lift (CL ⟨rfl,?_⟩));refine ck (vA C hk hP hn (by lia) DU hs λm sF av ja AU mv gL hq he=>?_);dsimp only;have hz:=ja.size;have fT:lo+m<=(bp av).size:=by lia
 have kD:=ja.kind.trans hk;have sD:=hP.perm ja.perm;by_cases Ox:sF>0
 ·rw[if_pos Ox];have hW:=fG (i:=lo+m-(sF+1)) fT;refine ck (dg (mH C (hW.kind.trans kD) (sD.perm hW.perm) (by rw[hW.size,hz];exact hn) (by lia) mv ?_ λm2 yB Oy=>h m2 yB ((ja.trans (hW.mono (by lia) (by lia))).trans Oy)));intro i j hl iN hj;rw[bJ fT he,bJ fT he];exact gL i j hl iN hj
 ·rw[if_neg Ox];exact mH C kD sD (by rw[hz];exact hn) (by lia) mv gL λm2 yB Oy=>h m2 yB (ja.trans Oy)
def wpS_countRun{st:dS}{lo nrem:Nat}{Q:Option Nat->dS->Prop}(C:mS prog w A s κ r P)(hk:ft st=κ)(hP:AllP P (bp st))(hn:lo+nrem<=(bp st).size)(h1:1<=nrem)(h:∀ m av,nc lo (lo+nrem) st av->1<=m->m<=nrem->Up r (bp av) lo (lo+m)->Q (some m) av) :
  wpS (aI prog w) A E s (countRun' lo nrem) Q st:=by
 rw[qu];refine ck (tX C hk hP hn (cx 1) h1 (λi j hl iN hj=>by
  have:i=j:=by lia
  subst this;exact sf _) λn ZJ Iq ng hor=>?_)
 by_cases DU:n=nrem
 ·rw[if_pos (by simpa using DU)];exact dc (h n st (.refl _ _ _) ZJ Iq ng)
 ·rw[if_neg (by simpa using DU)];have eS:R r (bp st) (lo+n)<R r (bp st) (lo+n-1):=hor.resolve_left DU;by_cases ZK:n>1
  ·rw[if_pos ZK];refine ck (jB C hk hP (by lia) (by lia) ?_);by_cases ZL:R r (bp st) lo<R r (bp st) (lo+n-1)
   ·simp only[ZL,decide_true,if_true];exact dc (h n st (.refl _ _ _) ZJ Iq ng)
   ·simp only[ZL,decide_false,pf,if_false];have fT:lo+n<=(bp st).size:=by lia
    have oz:∀ k,lo<=k->k<lo+n->R r (bp st) k=R r (bp st) (lo+n-1):=by intro k hl hk;have a1:=ng lo k (by lia) hl hk;have a2:=ng k (lo+n-1) hl (by lia) (by lia);lia
    have hW:=fG (i:=lo) fT;refine ck (dg (gj C (hW.kind.trans hk) (hP.perm hW.perm) (by rw[hW.size];exact hn) (by lia) ?_ λm2 yB Oy=>h m2 yB ((hW.mono (cx _) (by lia)).trans Oy)));intro i j hl iN hj;rw[bJ fT oz,bJ fT oz];by_cases hjn:j<lo+n
    ·rw[oz i hl (by lia),oz j (by lia) hjn];exact sf _
    ·have oj:j=lo+n:=by lia
     subst oj;by_cases ki:i=lo+n
     ·subst ki;exact sf _
     ·rw[oz i hl (by lia)];exact GW eS
  ·rw[if_neg ZK];have fH':n=1:=by lia
   subst fH';refine gj C hk hP hn (by lia) ?_ h;intro i j hl iN hj;by_cases ki:i=j
   ·subst ki;exact sf _
   ·have xB:i=lo:=by lia
    have MQ:j=lo+1:=by lia
    subst xB;subst MQ;exact GW eS
end
def CP(left:Bool)(key:bS)(arr:Array bS)(base i:Nat):StateT dS Sem (Option Bool):=do
 let x ← elem' arr (base+i)
 if left then lt' x key else return (<- lt' key x).map (!·)
def jo:Bool->bS->Array bS->Nat->Nat->Nat->StateT dS Sem (Option Nat):=sortPriv% PySem.Builtin.gallop
section
variable {prog:d5}{w:eC}{A:e7}{E:ae->ax->Prop}{s:ax}{κ:pd}{r:ae->Int}{P:ae->Prop}
def gx(r:ae->Int)(left:Bool)(key:bS)(arr:Array bS)(base i:Nat):Bool :=
 if left then decide (R r arr (base+i)<r key.1) else !decide (r key.1<R r arr (base+i))
def dJ{st:dS}{left:Bool}{key:bS}{arr:Array bS}{base i:Nat}{Q:Option Bool->dS->Prop}(C:mS prog w A s κ r P)(hk:ft st=κ)(hP:AllP P arr)(hy:P key.1)(hi:base+i<arr.size)(h:Q (some (gx r left key arr base i)) st):wpS (aI prog w) A E s (CP left key arr base i) Q st:=by
 refine ck (aK hi λp ep=>?_);have e1:R r arr (base+i)=r p.1:=by unfold R;rw[ep]
 unfold gx at h;rw[e1] at h
 cases left with
 |true =>exact pC C hk (hP.at ep) hy h
 |false =>exact ck (pC C hk hy (hP.at ep) (dc h))
def Ax(hu:Up r arr base (base+n))(iN:i<=j)(hj:j<n)(h:gx r left key arr base j=true):gx r left key arr base i=true:=by
 have q:=hu (base+i) (base+j) (by lia) (by lia) (by lia);unfold gx at h ⊢
 cases left with
 |true=>simp only[if_true,decide_eq_true_eq] at h ⊢;lia
 |false=>simp only[pf,if_false,Bool.not_eq_true',decide_eq_false_iff_not] at h ⊢;lia
def cJ{st:dS}{left:Bool}{key:bS}{arr:Array bS}{base n hint:Nat}{Q:Option Nat->dS->Prop}(C:mS prog w A s κ r P)(hk:ft st=κ)(hP:AllP P arr)(hy:P key.1)(hn:base+n<=arr.size)(hh:hint<n)(hu:Up r arr base (base+n))(h:∀ k,k<=n->(∀ i,i<k->gx r left key arr base i=true)->(∀ i,k<=i->i<n->gx r left key arr base i=false)->Q (some k) st):wpS (aI prog w) A E s (jo left key arr base n hint) Q st:=by
 have mono:∀ {i j},i<=j->j<n->gx r left key arr base j=true->gx r left key arr base i=true:=λa b c=>Ax hu a b c;have Rf:∀ {i j},i<=j->j<n->gx r left key arr base i=false->gx r left key arr base j=false:=λ{i j} a b c=>by
  cases q:gx r left key arr base j with
  |false=>rfl
  |true=>rw[mono a b q] at c;cases c
 refine ck (dJ C hk hP hy (by lia) ?_);dsimp only
 cases q0:gx r left key arr base hint with
 |true =>
  refine ck (tq (qh (I:=λx c av=>av=st/\∃ lst gy,c=(none,lst,gy)/\lst<gy/\lst<n-hint/\x+1<=gy/\gx r left key arr base (hint+lst)=true) (Q:=λc av=>av=st/\∃ lst gy,c=(none,lst,gy)/\lst<gy/\lst<n-hint/\gx r left key arr base (hint+lst)=true/\(n-hint<=gy\/gx r left key arr base (hint+gy)=false)) ?step ?fin ?init) ?post)
  case init=>exact⟨rfl,0,1,rfl,by lia,by lia,by lia,q0⟩
  case fin =>
   rintro c av ⟨rfl,lst,gy,rfl,h1,h2,h3,h4⟩;exact⟨rfl,lst,gy,rfl,h1,h2,h4,.inl (by lia)⟩
  case step =>
   rintro x c av _ hx ⟨rfl,lst,gy,rfl,h1,h2,h3,h4⟩;dsimp only;by_cases qE:gy >= n-hint
   ·rw[if_pos qE];exact dc ⟨rfl,lst,gy,rfl,h1,h2,h4,.inl qE⟩
   ·rw[if_neg qE];refine ck (dJ C hk hP hy (by lia) ?_)
    cases q:gx r left key arr base (hint+gy) with
    |true =>exact dc ⟨rfl,_,_,rfl,by lia,by lia,by lia,q⟩
    |false =>exact dc ⟨rfl,lst,gy,rfl,h1,h2,h4,.inr q⟩
  case post =>
   rintro c av ⟨rfl,lst,gy,rfl,h1,h2,h4,h5⟩;generalize av=st at *
   have hl:∀ i,i<hint+lst+1->gx r left key arr base i=true:=λi hi=>mono (by lia) (by lia) h4;have B9:∀ i,hint+min gy (n-hint)<=i->i<n->gx r left key arr base i=false:=λi hi bI=>by
    rcases h5 with h5|h5
    ·lia
    ·by_cases z:n-hint<=gy
     ·lia
     ·exact Rf (by lia) bI h5
   have UI:hint+lst+1<=hint+min gy (n-hint):=by lia
   have UJ:hint+min gy (n-hint)<=n:=by lia
   generalize hint+lst+1=lo at *
   generalize hint+min gy (n-hint)=hi at *
   refine ck (tq (qh (I:=λx c av=>av=st/\∃ l u,c=(none,l,u)/\l<=u/\u<=n/\u-l<=n-x/\(∀ i,i<l->gx r left key arr base i=true)/\(∀ i,u<=i->i<n->gx r left key arr base i=false)) (Q:=λc av=>av=st/\∃ l,c=(none,l,l)/\l<=n/\(∀ i,i<l->gx r left key arr base i=true)/\(∀ i,l<=i->i<n->gx r left key arr base i=false)) ?fI' ?fJ' ?fK') ?postA)
   case fK'=>exact⟨rfl,lo,hi,rfl,UI,UJ,by lia,hl,B9⟩
   case fJ' =>
    rintro c av ⟨rfl,l,u,rfl,h1,h2,h3,h4,h5⟩;have:l=u:=by lia
    subst this;exact⟨rfl,l,rfl,h2,h4,h5⟩
   case fI' =>
    rintro x c av _ hx ⟨rfl,l,u,rfl,h1,h2,h3,h4,h5⟩;dsimp only;by_cases qE:l >= u
    ·rw[if_pos qE];have:l=u:=by lia
     subst this;exact dc ⟨rfl,l,rfl,h2,h4,h5⟩
    ·rw[if_neg qE];refine ck (dJ C hk hP hy (by lia) ?_)
     cases q:gx r left key arr base (l+(u-l) / 2) with
     |true =>exact dc ⟨rfl,_,_,rfl,by lia,by lia,by lia,λi hi=>mono (by lia) (by lia) q,h5⟩
     |false =>exact dc ⟨rfl,_,_,rfl,by lia,by lia,by lia,h4,λi hi bI=>Rf (by lia) bI q⟩
   case postA =>
    rintro c av ⟨rfl,l,rfl,h2,h4,h5⟩;exact dc (h l h2 h4 h5)
 |false =>
  refine ck (tq (qh (I:=λx c av=>av=st/\∃ lst gy,c=(none,lst,gy)/\lst<gy/\lst<hint+1/\x+1<=gy/\gx r left key arr base (hint-lst)=false) (Q:=λc av=>av=st/\∃ lst gy,c=(none,lst,gy)/\lst<gy/\lst<hint+1/\gx r left key arr base (hint-lst)=false/\(hint+1<=gy\/gx r left key arr base (hint-gy)=true)) ?fL' ?fin2 ?fM') ?fN')
  case fM'=>exact⟨rfl,0,1,rfl,by lia,by lia,by lia,q0⟩
  case fin2 =>
   rintro c av ⟨rfl,lst,gy,rfl,h1,h2,h3,h4⟩;exact⟨rfl,lst,gy,rfl,h1,h2,h4,.inl (by lia)⟩
  case fL' =>
   rintro x c av _ hx ⟨rfl,lst,gy,rfl,h1,h2,h3,h4⟩;dsimp only;by_cases qE:gy >= hint+1
   ·rw[if_pos qE];exact dc ⟨rfl,lst,gy,rfl,h1,h2,h4,.inl qE⟩
   ·rw[if_neg qE];refine ck (dJ C hk hP hy (by lia) ?_)
    cases q:gx r left key arr base (hint-gy) with
    |true =>exact dc ⟨rfl,lst,gy,rfl,h1,h2,h4,.inr q⟩
    |false =>exact dc ⟨rfl,_,_,rfl,by lia,by lia,by lia,q⟩
  case fN' =>
   rintro c av ⟨rfl,lst,gy,rfl,h1,h2,h4,h5⟩;generalize av=st at *
   have hl:∀ i,i<hint+1-min gy (hint+1)->gx r left key arr base i=true:=λi hi=>by
    rcases h5 with h5|h5
    ·lia
    ·by_cases z:hint+1<=gy
     ·lia
     ·exact mono (by lia) (by lia) h5
   have B9:∀ i,hint-lst<=i->i<n->gx r left key arr base i=false:=λi hi bI=>Rf (by lia) bI h4;have UI:hint+1-min gy (hint+1)<=hint-lst:=by lia
   have UJ:hint-lst<=n:=by lia
   generalize hint+1-min gy (hint+1)=lo at *
   generalize hint-lst=hi at *
   refine ck (tq (qh (I:=λx c av=>av=st/\∃ l u,c=(none,l,u)/\l<=u/\u<=n/\u-l<=n-x/\(∀ i,i<l->gx r left key arr base i=true)/\(∀ i,u<=i->i<n->gx r left key arr base i=false)) (Q:=λc av=>av=st/\∃ l,c=(none,l,l)/\l<=n/\(∀ i,i<l->gx r left key arr base i=true)/\(∀ i,l<=i->i<n->gx r left key arr base i=false)) ?fO' ?fP' ?fQ') ?fR')
   case fQ'=>exact⟨rfl,lo,hi,rfl,UI,UJ,by lia,hl,B9⟩
   case fP' =>
    rintro c av ⟨rfl,l,u,rfl,h1,h2,h3,h4,h5⟩;have:l=u:=by lia
    subst this;exact⟨rfl,l,rfl,h2,h4,h5⟩
   case fO' =>
    rintro x c av _ hx ⟨rfl,l,u,rfl,h1,h2,h3,h4,h5⟩;dsimp only;by_cases qE:l >= u
    ·rw[if_pos qE];have:l=u:=by lia
     subst this;exact dc ⟨rfl,l,rfl,h2,h4,h5⟩
    ·rw[if_neg qE];refine ck (dJ C hk hP hy (by lia) ?_)
     cases q:gx r left key arr base (l+(u-l) / 2) with
     |true =>exact dc ⟨rfl,_,_,rfl,by lia,by lia,by lia,λi hi=>mono (by lia) (by lia) q,h5⟩
     |false =>exact dc ⟨rfl,_,_,rfl,by lia,by lia,by lia,h4,λi hi bI=>Rf (by lia) bI q⟩
   case fR' =>
    rintro c av ⟨rfl,l,rfl,h2,h4,h5⟩;exact dc (h l h2 h4 h5)
end
abbrev Le(r:ae->Int)(x y:bS):Prop:=r x.1<=r y.1
def oB(e:xs[i]? = some p):R r xs i=r p.1:=by unfold R;rw[e]
def HX(h:i<xs.size):R r xs i=r xs[i].1:=oB (getElem?_pos xs i h)
structure MI(r:ae->Int)(a b out:Array bS)(ia ib:Nat):Prop where
 ha:ia<=a.size
 hb:ib<=b.size
 perm:out.toList.Perm (a.toList.take ia++b.toList.take ib)
 up:out.toList.Pairwise (Le r)
 la:∀ x∈out.toList,∀ i,ia<=i->i<a.size->r x.1<=R r a i
 lb:∀ x∈out.toList,∀ j,ib<=j->j<b.size->r x.1<=R r b j
section
variable {r:ae->Int}{a b out:Array bS}{ia ib:Nat}
def lD{α:Type}{l:List α}{i:Nat}{x:α}(h:l[i]? = some x):l.take (i+1)=l.take i++[x]:=by rw[Dx,h];rfl
def MI.pZ(M:MI r a b out ia ib)(hA:Up r a 0 a.size)(hB:Up r b 0 b.size)(e:b[ib]? = some y)(hl:ia<a.size->R r b ib<=R r a ia):MI r a b (out.push y) ia (ib+1):=by
 have ZM:ib<b.size:=(L5.mp e).1;have ey:=oB (r:=r) e;refine⟨M.ha,ZM,?_,?_,?_,?_⟩
 ·rw[px,lD (by simpa using e),<- Ap];exact M.perm.append_right _
 ·rw[px,NM];refine⟨M.up,by simp,λx hx z hz=>?_⟩;have:z=y:=by simpa using hz
  subst this;show r x.1<=r z.1;rw[<- ey];exact M.lb x hx ib (cx _) ZM
 ·intro x hx i hi MR;rw[px] at hx;rcases eR.mp hx with hx|hx
  ·exact M.la x hx i hi MR
  ·have:x=y:=by simpa using hx
   subst this;rw[<- ey];exact yi (hl (by lia)) (hA ia i (fE _) hi MR)
 ·intro x hx j hj Oz;rw[px] at hx;rcases eR.mp hx with hx|hx
  ·exact M.lb x hx j (by lia) Oz
  ·have:x=y:=by simpa using hx
   subst this;rw[<- ey];exact hB ib j (fE _) (by lia) Oz
def MI.pN(M:MI r a b out ia ib)(hA:Up r a 0 a.size)(hB:Up r b 0 b.size)(e:a[ia]? = some y)(hl:ib<b.size->R r a ia<=R r b ib):MI r a b (out.push y) (ia+1) ib:=by
 have MR:ia<a.size:=(L5.mp e).1;have ey:=oB (r:=r) e;refine⟨MR,M.hb,?_,?_,?_,?_⟩
 ·rw[px,lD (by simpa using e),Ap];refine(M.perm.append_right [y]).trans ?_;rw[Ap];exact List.Perm.append_left _ SV
 ·rw[px,NM];refine⟨M.up,by simp,λx hx z hz=>?_⟩;have:z=y:=by simpa using hz
  subst this;show r x.1<=r z.1;rw[<- ey];exact M.la x hx ia (cx _) MR
 ·intro x hx i hi i9;rw[px] at hx;rcases eR.mp hx with hx|hx
  ·exact M.la x hx i (by lia) i9
  ·have:x=y:=by simpa using hx
   subst this;rw[<- ey];exact hA ia i (fE _) (by lia) i9
 ·intro x hx j hj Oz;rw[px] at hx;rcases eR.mp hx with hx|hx
  ·exact M.lb x hx j hj Oz
  ·have:x=y:=by simpa using hx
   subst this;rw[<- ey];exact yi (hl (by lia)) (hB ib j (fE _) hj Oz)
def eY{xs:Array bS}{i k:Nat}(h:i+k<xs.size):xs.extract i (i+(k+1))=(xs.extract i (i+k)).push xs[i+k]:=by apply Qh.mp;rw[px];simp only[Tc,SD];rw[show i+(k+1)-i=k+1 by lia,show i+k-i=k by lia,Dx];congr 1;simp[h]
theorem MI.DV(hA:Up r a 0 a.size)(hB:Up r b 0 b.size):∀ (k:Nat) {out:Array bS} {ia:Nat},MI r a b out ia ib->ia+k<=a.size->(ib<b.size->∀ i,i<k->R r a (ia+i)<=R r b ib)->MI r a b (out++a.extract ia (ia+k)) (ia+k) ib
 |0,out,ia,M,h1,h2=>by have:a.extract ia (ia+0) = #[]:=Qe (by simp only[GV];lia);rw[this];simpa using M
 |k+1,out,ia,M,h1,h2=>by have q:=MI.DV hA hB k M (by exact xl ‹_›) λhb i hi=>h2 hb i (by exact xk ‹_›);have e:a[ia+k]? = some a[ia+k]:=getElem?_pos a (ia+k) (by assumption);have z:=q.pN hA hB e λhb=>h2 hb k (by exact cx _);rw[eY (by assumption),Array.append_push];exact z
theorem MI.DZ(hA:Up r a 0 a.size)(hB:Up r b 0 b.size):∀ (k:Nat) {out:Array bS} {ib:Nat},MI r a b out ia ib->ib+k<=b.size->(ia<a.size->∀ i,i<k->R r b (ib+i)<=R r a ia)->MI r a b (out++b.extract ib (ib+k)) ia (ib+k)
 |0,out,ib,M,h1,h2=>by have:b.extract ib (ib+0) = #[]:=Qe (by simp only[GV];lia);rw[this];simpa using M
 |k+1,out,ib,M,h1,h2=>by have q:=MI.DZ hA hB k M (by exact xl ‹_›) λha i hi=>h2 ha i (by exact xk ‹_›);have e:b[ib+k]? = some b[ib+k]:=getElem?_pos b (ib+k) (by assumption);have z:=q.pZ hA hB e λha=>h2 ha k (by exact cx _);rw[eY (by assumption),Array.append_push];exact z
def bW(r:ae->Int)(a b out:Array bS):Prop:=out.toList.Perm (a.toList++b.toList)/\out.toList.Pairwise (Le r)
def MI.whole(M:MI r a b out a.size b.size):bW r a b out:=by refine⟨?_,M.up⟩;have h:=M.perm;rw[PL (by simp),PL (by simp)] at h;exact h
def MI.J4(M:MI r a b out ia b.size)(hA:Up r a 0 a.size)(hB:Up r b 0 b.size):bW r a b (out++a.extract ia a.size++b.extract b.size b.size):=by
 have e:b.extract b.size b.size = #[]:=by simp
 rw[e,Td];have ha:=M.ha;have q:=MI.DV hA hB (a.size-ia) M (by lia) λhb=>absurd hb (vw _);rw[show ia+(a.size-ia)=a.size by exact NT ‹_›] at q;exact q.whole
def MI.Iz(M:MI r a b out a.size ib)(hA:Up r a 0 a.size)(hB:Up r b 0 b.size):bW r a b (out++a.extract a.size a.size++b.extract ib b.size):=by
 have e:a.extract a.size a.size = #[]:=by simp
 rw[e,Td];have hb:=M.hb;have q:=MI.DZ hA hB (b.size-ib) M (by lia) λha=>absurd ha (vw _);rw[show ib+(b.size-ib)=b.size by exact NT ‹_›] at q;exact q.whole
def MI.MS(M:MI r a b out ia ib)(hA:Up r a 0 a.size)(hB:Up r b 0 b.size)(e:ib=b.size):bW r a b (out++a.extract ia a.size++b.extract ib b.size):=by subst e;exact M.J4 hA hB
def MI.MV(M:MI r a b out ia ib)(hA:Up r a 0 a.size)(hB:Up r b 0 b.size)(e:ia=a.size):bW r a b (out++a.extract ia a.size++b.extract ib b.size):=by subst e;exact M.Iz hA hB
def MI.IW(M:MI r a b out ia ib)(hA:Up r a 0 a.size)(hB:Up r b 0 b.size)(MR:ia+1=a.size)(hg:∀ j,j<b.size->R r b j<=R r a ia):bW r a b (out++b.extract ib b.size++a.extract ia a.size):=by have hb:=M.hb;have q:=MI.DZ hA hB (b.size-ib) M (by lia) λha i hi=>hg _ (by lia);rw[show ib+(b.size-ib)=b.size by exact NT ‹_›] at q;have z:=MI.DV hA hB (a.size-ia) q (by lia) λhb=>absurd hb (vw _);rw[show ia+(a.size-ia)=a.size by lia] at z;exact z.whole
def MI.start(hA:Up r a 0 a.size)(hB:Up r b 0 b.size):MI r a b #[] 0 0:=⟨fE _,fE _,by simp,by simp,λx hx=>by simp at hx,λx hx=>by simp at hx⟩
end
def bA:Nat->StateT dS Sem Unit:=sortPriv% PySem.Builtin.setMinGallop
def sO:Array bS->Array bS->StateT dS Sem (Array bS):=sortPriv% PySem.Builtin.mergeLo
def tU:Array bS->Array bS->StateT dS Sem (Array bS):=sortPriv% PySem.Builtin.mergeHi
def iV(g:Nat):bA g=modify λs=>SortSt.mk' (ft s) (bp s) (k8 s) g (qk s):=rfl
def Mg(st av:dS):Prop:=∃ g,av=SortSt.mk' (ft st) (bp st) (k8 st) g (qk st)
def Mg.refl(st:dS):Mg st st:=⟨gallopOf st,rfl⟩
def Mg.kind{st av:dS}(h:Mg st av):ft av=ft st:=by obtain⟨g,rfl⟩:=h;rfl
def Mg.set{st av:dS}(h:Mg st av)(g:Nat):Mg st (SortSt.mk' (ft av) (bp av) (k8 av) g (qk av)):=by obtain⟨g',rfl⟩:=h;exact⟨g,rfl⟩
section
variable {prog:d5}{w:eC}{A:e7}{E:ae->ax->Prop}{s:ax}{r:ae->Int}
def gC{st:dS}{g:Nat}{Q:Unit->dS->Prop}(h:Q () (SortSt.mk' (ft st) (bp st) (k8 st) g (qk st))):wpS (aI prog w) A E s (bA g) Q st:=by rw[iV];exact DE h
def y_(h:gx r false key arr base i=true):R r arr (base+i)<=r key.1:=by unfold gx at h;simp only[pf,if_false,Bool.not_eq_true',decide_eq_false_iff_not] at h;lia
def vU(h:gx r false key arr base i=false):r key.1<R r arr (base+i):=by unfold gx at h;simp only[pf,if_false,Bool.not_eq_false',decide_eq_true_eq] at h;exact h
def Df(h:gx r true key arr base i=true):R r arr (base+i)<r key.1:=by unfold gx at h;simp only[if_true,decide_eq_true_eq] at h;exact h
def sY(h:gx r true key arr base i=false):r key.1<=R r arr (base+i):=by unfold gx at h;simp only[if_true,decide_eq_false_iff_not] at h;lia
end
def Mg.trans{a b c:dS}(h:Mg a b)(g:Mg b c):Mg a c:=by obtain⟨x,rfl⟩:=h;obtain⟨y,rfl⟩:=g;exact⟨y,rfl⟩
def Fe{K G:Prop}(pk:K)(h:K->G):G:=h pk
abbrev SM:=StateT dS Sem
abbrev L1:=Option (Array bS) × Array bS × Nat × Nat × Nat
abbrev nh:=Option (Array bS) × Array bS × Nat × Nat × Nat × Nat
abbrev L3:=Option (Array bS) × Array bS × Nat × Nat × Nat × Nat × Nat
def E9(a b out:Array bS)(ia ib:Nat):Array bS:=out++a.extract ia a.size++b.extract ib b.size
def OB(a b out:Array bS)(ia ib:Nat):Array bS:=out++b.extract ib b.size++a.extract ia a.size
def UK(a b:Array bS)(mg ac bc ia ib:Nat)(out:Array bS):SM (ForInStep L3):=elem' a ia >>= λp =>
 if (ia+1+1 == a.size)=true then pure (.done (some (OB a b (out.push p) (ia+1) ib),out.push p,ia+1,ib,mg,ac,bc))
 else if (decide (ac<7) && decide (bc<7))=true then pure (.done (none,out.push p,ia+1,ib,mg,ac,bc)) else pure (.yield (none,out.push p,ia+1,ib,mg,ac,bc))
def IG(a b:Array bS)(mg ac bc ia ib:Nat)(out:Array bS):SM (ForInStep L3):=elem' a ia >>= λp=>jo true p b ib (b.size-ib) 0 >>= λx=>match x with
 |some k=>if k>0 then
   if (ib+k == b.size)=true then pure (.done (some (E9 a b (out++b.extract ib (ib+k)) ia (ib+k)),out++b.extract ib (ib+k),ia,ib+k,mg,ac,k))
   else UK a b mg ac k ia (ib+k) (out++b.extract ib (ib+k))
  else UK a b mg ac k ia ib out
 |_=>pure (.done (some (E9 a b out ia ib),out,ia,ib,mg,ac,bc))
def lo1(a b:Array bS)(mg ac bc ia ib:Nat)(out:Array bS):SM (ForInStep L3):=elem' b ib >>= λp =>
 if (ib+1 == b.size)=true then pure (.done (some (E9 a b (out.push p) ia (ib+1)),out.push p,ia,ib+1,mg,ac,bc)) else IG a b mg ac bc ia (ib+1) (out.push p)
def UL(a b:Array bS)(mg ac bc ia ib:Nat)(out:Array bS):SM (ForInStep L3):=bA mg >>= λ_=>elem' b ib >>= λp=>jo false p a ia (a.size-ia) 0 >>= λx=>match x with
 |some k=>if k>0 then
   if (ia+k+1 == a.size)=true then pure (.done (some (OB a b (out++a.extract ia (ia+k)) (ia+k) ib),out++a.extract ia (ia+k),ia+k,ib,mg,k,bc))
   else if (ia+k == a.size)=true then pure (.done (some (E9 a b (out++a.extract ia (ia+k)) (ia+k) ib),out++a.extract ia (ia+k),ia+k,ib,mg,k,bc))
   else lo1 a b mg k bc (ia+k) ib (out++a.extract ia (ia+k))
  else lo1 a b mg k bc ia ib out
 |_=>pure (.done (some (E9 a b out ia ib),out,ia,ib,mg,ac,bc))
def ZN(a b:Array bS)(_:Nat)(s:L3):SM (ForInStep L3) :=
 if s.2.2.2.2.1>1 then UL a b (s.2.2.2.2.1-1) s.2.2.2.2.2.1 s.2.2.2.2.2.2 s.2.2.1 s.2.2.2.1 s.2.1 else UL a b s.2.2.2.2.1 s.2.2.2.2.2.1 s.2.2.2.2.2.2 s.2.2.1 s.2.2.2.1 s.2.1
def ZO(a b:Array bS)(mg bc ia ib:Nat)(out:Array bS):SM (ForInStep nh):=elem' b ib >>= λp =>
 if (ib+1 == b.size)=true then pure (.done (some (E9 a b (out.push p) ia (ib+1)),out.push p,ia,ib+1,0,bc+1))
 else if bc+1 >= mg then pure (.done (none,out.push p,ia,ib+1,0,bc+1)) else pure (.yield (none,out.push p,ia,ib+1,0,bc+1))
def ZP(a b:Array bS)(mg ac ia ib:Nat)(out:Array bS):SM (ForInStep nh):=elem' a ia >>= λp =>
 if (ia+1+1 == a.size)=true then pure (.done (some (OB a b (out.push p) (ia+1) ib),out.push p,ia+1,ib,ac+1,0))
 else if ac+1 >= mg then pure (.done (none,out.push p,ia+1,ib,ac+1,0)) else pure (.yield (none,out.push p,ia+1,ib,ac+1,0))
def ZQ(a b:Array bS)(mg:Nat)(_:Nat)(s:nh):SM (ForInStep nh):=elem' b s.2.2.2.1 >>= λpb=>elem' a s.2.2.1 >>= λpa=>lt' pb pa >>= λx=>match x with
 |some w=>if w=true then ZO a b mg s.2.2.2.2.2 s.2.2.1 s.2.2.2.1 s.2.1 else ZP a b mg s.2.2.2.2.1 s.2.2.1 s.2.2.2.1 s.2.1
 |_=>pure (.done (some (E9 a b s.2.1 s.2.2.1 s.2.2.2.1),s.2.1,s.2.2.1,s.2.2.2.1,s.2.2.2.2.1,s.2.2.2.2.2))
def ZR (a b:Array bS) (mg:Nat) (t:nh):SM (ForInStep L1):=(liftM (rule "list.sort.gallop"):SM Unit) >>= λ_ =>
 forIn [:a.size+b.size] ((none,t.2.1,t.2.2.1,t.2.2.2.1,mg+1,t.2.2.2.2.1,t.2.2.2.2.2):L3) (ZN a b) >>= λu=>match u.1 with
 |some r=>pure (.done (some r,u.2.1,u.2.2.1,u.2.2.2.1,u.2.2.2.2.1))
 |none=>bA (u.2.2.2.2.1+1) >>= λ_=>pure (.yield (none,u.2.1,u.2.2.1,u.2.2.2.1,u.2.2.2.2.1+1))
def ZS(a b:Array bS)(_:Nat)(s:L1):SM (ForInStep L1):=forIn [:a.size+b.size] ((none,s.2.1,s.2.2.1,s.2.2.2.1,0,0):nh) (ZQ a b s.2.2.2.2) >>= λt=>match t.1 with
 |some r=>pure (.done (some r,t.2.1,t.2.2.1,t.2.2.2.1,s.2.2.2.2))
 |none=>ZR a b s.2.2.2.2 t
def loM (a b:Array bS):SM (Array bS):=(liftM (rule "list.sort.merge-lo"):SM Unit) >>= λ_=>elem' b 0 >>= λy =>
 if (1 == b.size)=true then pure (E9 a b #[y] 0 1)
 else if (0+1 == a.size)=true then pure (OB a b #[y] 0 1)
 else get >>= λst=>forIn [:a.size+b.size] ((none,#[y],0,1,gallopOf st):L1) (ZS a b) >>= λt=>match t.1 with
 |some r=>pure r
 |none=>(liftM (unsupported (α:=Array bS) "internal:list.sort.merge-bound"):SM (Array bS))
set_option smartUnfolding false in
def uW:sO=loM:=rfl
section
variable {prog:d5}{w:eC}{A:e7}{E:ae->ax->Prop}{s:ax}{κ:pd}{r:ae->Int}{P:ae->Prop}{a b out:Array bS}{mg ac bc ia ib N:Nat}{st:dS}
structure MC(prog:d5)(w:eC)(A:e7)(s:ax)(κ:pd)(r:ae->Int)(P:ae->Prop)(a b:Array bS):Prop where
 C:mS prog w A s κ r P
 pa:AllP P a
 pb:AllP P b
 hA:Up r a 0 a.size
 hB:Up r b 0 b.size
 hl:∀ i,i<a.size->R r b 0<=R r a i
 hg:∀ j,j<b.size->R r b j<=R r a (a.size-1)
def HS{β:Type}(r:ae->Int)(a b:Array bS)(c:Option (Array bS) × β):Prop:=∃ out rest,c=(some out,rest)/\bW r a b out
def LY(r:ae->Int)(a b:Array bS)(N:Nat)(c:L3):Prop:=∃ out ia ib mg ac bc,c=(none,out,ia,ib,mg,ac,bc)/\MI r a b out ia ib/\ia+1<a.size/\ib<b.size/\N<=ia+ib
def LI(r:ae->Int)(a b:Array bS)(N:Nat)(c:nh):Prop:=∃ out ia ib ac bc,c=(none,out,ia,ib,ac,bc)/\MI r a b out ia ib/\ia+1<a.size/\ib<b.size/\N<=ia+ib
def MC.last(c:MC prog w A s κ r P a b)(M:MI r a b out ia ib)(z:ia+1=a.size):bW r a b (OB a b out ia ib):=M.IW c.hA c.hB z λj hj=>by have:=c.hg j hj;rwa[show a.size-1=ia by lia] at this
def BW(c:MC prog w A s κ r P a b)(M:MI r a b out ia ib)(h1:ia+1<a.size)(lt:R r a ia<=R r b ib)(h2:ib<b.size)(hN:N<=ia+ib)(D:∀ c,HS r a b c->Q (.done c) st)(Y:∀ c,LY r a b N c->Q (.done c) st/\Q (.yield c) st):wpS (aI prog w) A E s (UK a b mg ac bc ia ib out) Q st:=by
 refine ck (aK (by lia) λp e=>?_);have M2:=M.pN c.hA c.hB e λ_=>lt;by_cases z:ia+1+1=a.size
 ·rw[if_pos (by simpa using z)];exact dc (D _ ⟨_,_,rfl,c.last M2 z⟩)
 ·rw[if_neg (by simpa using z)];have y:=Y _ ⟨_,_,_,mg,ac,bc,rfl,M2,by lia,h2,by lia⟩;split
  ·exact dc y.1
  ·exact dc y.2
def G4(c:MC prog w A s κ r P a b)(hk:ft st=κ)(M:MI r a b out ia ib)(h1:ia+1<a.size)(h2:ib<b.size)(hN:N<=ia+ib)(D:∀ c,HS r a b c->Q (.done c) st)(Y:∀ c,LY r a b N c->Q (.done c) st/\Q (.yield c) st):wpS (aI prog w) A E s (IG a b mg ac bc ia ib out) Q st:=by
 refine ck (aK (by lia) λp e=>ck (cJ c.C hk c.pb (c.pa.at e) (by lia) (by lia) (λi j u v w=>c.hB i j (by lia) v (by lia)) λl MX y6 MY=>?_));have ra:=oB (r:=r) e;dsimp only;have lt:ib+l<b.size->R r a ia<=R r b (ib+l):=λz=>by have:=sY (MY l (cx _) (by lia));lia
 by_cases l0:l>0
 ·have M5:=MI.DZ c.hA c.hB l M (by lia) λ_ i hi=>by have:=Df (y6 i hi);lia
  rw[if_pos l0];by_cases z:ib+l=b.size
  ·rw[if_pos (by simpa using z)];exact dc (D _ ⟨_,_,rfl,M5.MS c.hA c.hB z⟩)
  ·rw[if_neg (by simpa using z)];exact BW c M5 h1 (lt (by lia)) (by lia) (by lia) D Y
 ·rw[if_neg l0];obtain rfl:l=0:=by lia
  exact BW c M h1 (lt h2) h2 hN D Y
def B_(c:MC prog w A s κ r P a b)(hk:ft st=κ)(M:MI r a b out ia ib)(h1:ia+1<a.size)(lt:R r b ib<=R r a ia)(h2:ib<b.size)(hN:N<=ia+ib)(D:∀ c,HS r a b c->Q (.done c) st)(Y:∀ c,LY r a b N c->Q (.done c) st/\Q (.yield c) st):wpS (aI prog w) A E s (lo1 a b mg ac bc ia ib out) Q st:=by
 refine ck (aK h2 λp e=>?_);have M4:=M.pZ c.hA c.hB e λ_=>lt;by_cases z:ib+1=b.size
 ·rw[if_pos (by simpa using z)];exact dc (D _ ⟨_,_,rfl,M4.MS c.hA c.hB z⟩)
 ·rw[if_neg (by simpa using z)];exact G4 c hk M4 h1 (by lia) (by lia) D Y
def Hx(c:MC prog w A s κ r P a b)(hk:ft st=κ)(M:MI r a b out ia ib)(h1:ia+1<a.size)(h2:ib<b.size)(hN:N<=ia+ib)(D:∀ av,Mg st av->∀ c,HS r a b c->Q (.done c) av)(Y:∀ av,Mg st av->∀ c,LY r a b N c->Q (.done c) av/\Q (.yield c) av):wpS (aI prog w) A E s (UL a b mg ac bc ia ib out) Q st:=by
 have g:=(Mg.refl st).set mg;refine ck (gC ?_);refine ck (aK h2 λp e=>ck (cJ c.C (g.kind.trans hk) c.pa (c.pb.at e) (by lia) (by lia) (λi j u v w=>c.hA i j (by lia) v (by lia)) λk ZT vT IH=>?_));have rb:=oB (r:=r) e;dsimp only;have lt:ia+k<a.size->R r b ib<=R r a (ia+k):=λz=>by have:=vU (IH k (cx _) (by lia));lia
 by_cases k0:k>0
 ·have M3:=MI.DV c.hA c.hB k M (by lia) λ_ i hi=>by have:=y_ (vT i hi);lia
  rw[if_pos k0];by_cases z:ia+k+1=a.size
  ·rw[if_pos (by simpa using z)];exact dc (D _ g _ ⟨_,_,rfl,c.last M3 z⟩)
  ·rw[if_neg (by simpa using z)];by_cases z2:ia+k=a.size
   ·rw[if_pos (by simpa using z2)];exact dc (D _ g _ ⟨_,_,rfl,M3.MV c.hA c.hB z2⟩)
   ·rw[if_neg (by simpa using z2)];exact B_ c (g.kind.trans hk) M3 (by lia) (lt (by lia)) h2 (by lia) (D _ g) (Y _ g)
 ·rw[if_neg k0];obtain rfl:k=0:=by lia
  exact B_ c (g.kind.trans hk) M h1 (lt (by lia)) h2 hN (D _ g) (Y _ g)
def HB(c:MC prog w A s κ r P a b)(M:MI r a b out ia ib)(h1:ia+1<a.size)(lt:R r b ib<=R r a ia)(h2:ib<b.size)(hN:N<=ia+ib+1)(D:∀ c,HS r a b c->Q (.done c) st)(Y:∀ c,LI r a b N c->Q (.done c) st/\Q (.yield c) st):wpS (aI prog w) A E s (ZO a b mg bc ia ib out) Q st:=by
 refine ck (aK h2 λp e=>?_);have M2:=M.pZ c.hA c.hB e λ_=>lt;by_cases z:ib+1=b.size
 ·rw[if_pos (by simpa using z)];exact dc (D _ ⟨_,_,rfl,M2.MS c.hA c.hB z⟩)
 ·rw[if_neg (by simpa using z)];have y:=Y _ ⟨_,_,_,0,bc+1,rfl,M2,h1,by lia,hN⟩;split
  ·exact dc y.1
  ·exact dc y.2
def H_(c:MC prog w A s κ r P a b)(M:MI r a b out ia ib)(h1:ia+1<a.size)(lt:R r a ia<=R r b ib)(h2:ib<b.size)(hN:N<=ia+ib+1)(D:∀ c,HS r a b c->Q (.done c) st)(Y:∀ c,LI r a b N c->Q (.done c) st/\Q (.yield c) st):wpS (aI prog w) A E s (ZP a b mg ac ia ib out) Q st:=by
 refine ck (aK (by lia) λp e=>?_);have M2:=M.pN c.hA c.hB e λ_=>lt;by_cases z:ia+1+1=a.size
 ·rw[if_pos (by simpa using z)];exact dc (D _ ⟨_,_,rfl,c.last M2 z⟩)
 ·rw[if_neg (by simpa using z)];have y:=Y _ ⟨_,_,_,ac+1,0,rfl,M2,by lia,h2,by lia⟩;split
  ·exact dc y.1
  ·exact dc y.2
def Gj(c:MC prog w A s κ r P a b)(hk:ft st=κ)(M:MI r a b out ia ib)(h1:ia+1<a.size)(h2:ib<b.size)(hN:N<=ia+ib+1)(D:∀ c,HS r a b c->Q (.done c) st)(Y:∀ c,LI r a b N c->Q (.done c) st/\Q (.yield c) st):wpS (aI prog w) A E s (ZQ a b mg x (none,out,ia,ib,ac,bc)) Q st:=by
 refine ck (aK h2 λpb eb=>ck (aK (show ia<a.size by lia) λpa ea=>ck (pC c.C hk (c.pb.at eb) (c.pa.at ea) ?_)));have rb:R r b ib=r pb.1:=oB eb;have ra:R r a ia=r pa.1:=oB ea;dsimp only;by_cases hw:r pb.1<r pa.1
 ·rw[if_pos (decide_eq_true hw)];exact HB c M h1 (by lia) h2 hN D Y
 ·rw[if_neg (by simpa using hw)];exact H_ c M h1 (by lia) h2 hN D Y
def GQ(c:MC prog w A s κ r P a b)(hk:ft st=κ)(M:MI r a b out ia ib)(h1:ia+1<a.size)(h2:ib<b.size)(hN:N<=ia+ib)(D:∀ av,Mg st av->∀ c,HS r a b c->Q (.done c) av)(Y:∀ av,Mg st av->∀ out ia ib mg,MI r a b out ia ib->ia+1<a.size->ib<b.size->N<=ia+ib->Q (.yield (none,out,ia,ib,mg)) av):wpS (aI prog w) A E s (ZR a b mg (none,out,ia,ib,ac,bc)) Q st:=by
 refine ck (wpS_lift (CL ⟨rfl,?_⟩));refine ck (tq (qh (I:=λ_ c av=>Mg st av/\LY r a b N c) (Q:=λc av=>Mg st av/\(HS r a b c\/LY r a b N c)) ?step ?fin ⟨.refl st,_,_,_,_,_,_,rfl,M,h1,h2,hN⟩) ?post);case fin =>
  rintro c av ⟨hm,q⟩;exact⟨hm,.inr q⟩
 case step =>
  rintro y c1 D1 _ _ ⟨hm,out,ia,ib,mg,ac,bc,rfl,M,h1,h2,hN⟩;unfold ZN;split<;>exact Hx c (hm.kind.trans hk) M h1 h2 hN (λav g c q=>⟨hm.trans g,.inl q⟩) λav g c q=>⟨⟨hm.trans g,.inr q⟩,hm.trans g,q⟩
 case post =>
  rintro c av ⟨hm,⟨o,rest,rfl,hM⟩|⟨out,ia,ib,mg,ac,bc,rfl,M,h1,h2,hN⟩⟩
  ·exact dc (D _ hm _ ⟨_,_,rfl,hM⟩)
  ·exact ck (gC (dc (Y _ (hm.set _) _ _ _ _ M h1 h2 hN)))
def HN(c:MC prog w A s κ r P a b)(hk:ft st=κ)(M:MI r a b out ia ib)(h1:ia+1<a.size)(h2:ib<b.size)(hN:N<=ia+ib)(D:∀ av,Mg st av->∀ c,HS r a b c->Q (.done c) av)(Y:∀ av,Mg st av->∀ out ia ib mg,MI r a b out ia ib->ia+1<a.size->ib<b.size->N+1<=ia+ib->Q (.yield (none,out,ia,ib,mg)) av):wpS (aI prog w) A E s (ZS a b x (none,out,ia,ib,mg)) Q st:=by
 refine ck (tq (qh (I:=λy c av=>av=st/\LI r a b (N+y) c) (Q:=λc av=>av=st/\(HS r a b c\/LI r a b (N+1) c)) ?step ?fin ⟨rfl,_,_,_,_,_,rfl,M,h1,h2,hN⟩) ?post);case fin =>
  rintro c av ⟨rfl,o,ia',ib',ac,bc,rfl,M',q1,q2,q3⟩;exact⟨rfl,.inr ⟨_,_,_,_,_,rfl,M',q1,q2,by lia⟩⟩
 case step =>
  rintro y c1 D1 _ hy ⟨rfl,o,ia',ib',ac,bc,rfl,M',q1,q2,q3⟩;exact Gj (N:=N+y+1) c hk M' q1 q2 (by lia) (λc q=>⟨rfl,.inl q⟩) λc q=>by obtain⟨o,ia,ib,ac,bc,rfl,M,h1,h2,h3⟩:=q;exact⟨⟨rfl,.inr ⟨_,_,_,_,_,rfl,M,h1,h2,by lia⟩⟩,rfl,_,_,_,_,_,rfl,M,h1,h2,by lia⟩
 case post =>
  rintro c1 av ⟨rfl,⟨o,rest,rfl,hM⟩|⟨o,ia,ib,ac,bc,rfl,M',q1,q2,q3⟩⟩
  ·exact dc (D _ (.refl _) _ ⟨_,_,rfl,hM⟩)
  ·exact GQ c hk M' q1 q2 q3 D Y
def rO{st:dS}{a b:Array bS}{Q:Array bS->dS->Prop}(C:mS prog w A s κ r P)(hk:ft st=κ)(UM:AllP P a)(UN:AllP P b)(hA:Up r a 0 a.size)(hB:Up r b 0 b.size)(na:1<=a.size)(nb:1<=b.size)(h0:R r b 0<=R r a 0) (hg:∀ j,j<b.size->R r b j<=R r a (a.size-1)) (h:∀ out av,bW r a b out->Mg st av->Q out av):wpS (aI prog w) A E s (sO a b) Q st:=by
 have c:MC prog w A s κ r P a b:=⟨C,UM,UN,hA,hB,λi hi=>yi h0 (hA 0 i (cx _) (fE _) hi),hg⟩
 rw[uW];refine ck (wpS_lift (CL ⟨rfl,?_⟩));refine ck (aK nb λy0 e0=>?_);have M1:MI r a b #[y0] 0 1:=(MI.start hA hB).pZ hA hB e0 λ_=>h0;by_cases c1:1=b.size
 ·rw[if_pos (by simpa using c1)];exact dc (h _ _ (M1.MS hA hB c1) (.refl st))
 ·rw[if_neg (by simpa using c1)];by_cases c2:0+1=a.size
  ·rw[if_pos (by simpa using c2)];exact dc (h _ _ (c.last M1 c2) (.refl st))
  ·rw[if_neg (by simpa using c2)];refine ck (wpS_get ?_);refine ck (tq (qh (I:=λx c av=>Mg st av/\∃ out ia ib mg,c=(none,out,ia,ib,mg)/\MI r a b out ia ib/\ia+1<a.size/\ib<b.size/\x+1<=ia+ib) (Q:=λc av=>Mg st av/\HS r a b c) ?step ?fin ⟨.refl st,_,_,_,_,rfl,M1,by lia,by lia,by lia⟩) ?post)
   case fin =>
    rintro c av ⟨_,out,ia,ib,mg,rfl,M,h1,h2,h3⟩;lia
   case post =>
    rintro c av ⟨hm,out,rest,rfl,hM⟩;exact dc (h out av hM hm)
   case step =>
    rintro x c1 D1 _ hx ⟨AU,out,ia,ib,mg,rfl,M,h1,h2,h3⟩;exact HN c (AU.kind.trans hk) M h1 h2 h3 (λav g c q=>⟨AU.trans g,q⟩) λav g out ia ib mg M h1 h2 h3=>⟨AU.trans g,_,_,_,_,rfl,M,h1,h2,h3⟩
end
abbrev Ge(r:ae->Int)(x y:bS):Prop:=r y.1<=r x.1
structure MH(r:ae->Int)(a b out:Array bS)(na nb:Nat):Prop where
 ha:na<=a.size
 hb:nb<=b.size
 perm:out.toList.Perm (a.toList.drop na++b.toList.drop nb)
 down:out.toList.Pairwise (Ge r)
 ga:∀ x∈out.toList,∀ i,i<na->R r a i<=r x.1
 gb:∀ x∈out.toList,∀ j,j<nb->R r b j<=r x.1
section
variable {r:ae->Int}{a b out:Array bS}{na nb:Nat}
def pY{α:Type}{l:List α}{i:Nat}{x:α}(h0:0<i)(h:l[i-1]? = some x):l.drop (i-1)=x :: l.drop i:=by obtain⟨hi,e⟩:=iE.mp h;rw[An hi,e,show i-1+1=i by exact Nat.sub_add_cancel ‹_›]
def MH.pN(M:MH r a b out na nb)(hA:Up r a 0 a.size)(hB:Up r b 0 b.size)(h0:0<na)(e:a[na-1]? = some y)(hl:0<nb->R r b (nb-1)<=R r a (na-1)):MH r a b (out.push y) (na-1) nb:=by
 have ey:=oB (r:=r) e;have ha:=M.ha;have hb:=M.hb;refine⟨by lia,M.hb,?_,?_,?_,?_⟩
 ·rw[px,pY h0 (by simpa using e)];exact(M.perm.append_right [y]).trans SV
 ·rw[px,NM];refine⟨M.down,by simp,λx hx z hz=>?_⟩;have:z=y:=by simpa using hz
  subst this;show r z.1<=r x.1;rw[<- ey];exact M.ga x hx (na-1) (by lia)
 ·intro x hx i hi;rw[px] at hx;rcases eR.mp hx with hx|hx
  ·exact M.ga x hx i (by lia)
  ·have:x=y:=by simpa using hx
   subst this;rw[<- ey];exact hA i (na-1) (fE _) (by lia) (by lia)
 ·intro x hx j hj;rw[px] at hx;rcases eR.mp hx with hx|hx
  ·exact M.gb x hx j hj
  ·have:x=y:=by simpa using hx
   subst this;rw[<- ey];exact yi (hB j (nb-1) (fE _) (by lia) (by lia)) (hl (by lia))
def MH.pZ(M:MH r a b out na nb)(hA:Up r a 0 a.size)(hB:Up r b 0 b.size)(h0:0<nb)(e:b[nb-1]? = some y)(hl:0<na->R r a (na-1)<=R r b (nb-1)):MH r a b (out.push y) na (nb-1):=by
 have ey:=oB (r:=r) e;have ha:=M.ha;have hb:=M.hb;refine⟨M.ha,by lia,?_,?_,?_,?_⟩
 ·rw[px,pY h0 (by simpa using e)];refine(M.perm.append_right [y]).trans ?_;rw[Ap];exact List.Perm.append_left _ SV
 ·rw[px,NM];refine⟨M.down,by simp,λx hx z hz=>?_⟩;have:z=y:=by simpa using hz
  subst this;show r z.1<=r x.1;rw[<- ey];exact M.gb x hx (nb-1) (by lia)
 ·intro x hx i hi;rw[px] at hx;rcases eR.mp hx with hx|hx
  ·exact M.ga x hx i hi
  ·have:x=y:=by simpa using hx
   subst this;rw[<- ey];exact yi (hA i (na-1) (fE _) (by lia) (by lia)) (hl (by lia))
 ·intro x hx j hj;rw[px] at hx;rcases eR.mp hx with hx|hx
  ·exact M.gb x hx j (by lia)
  ·have:x=y:=by simpa using hx
   subst this;rw[<- ey];exact hB j (nb-1) (fE _) (by lia) (by lia)
def jk{xs:Array bS}{i n:Nat}(h:i<n)(hn:n<=xs.size):(xs.extract i n).reverse = #[xs[n-1]'(by lia)]++(xs.extract i (n-1)).reverse:=by
 obtain⟨k,rfl⟩:∃ k,n=i+(k+1):=⟨n-1-i,by lia⟩
 have e3:i+(k+1)-1=i+k:=by rfl
 simp only[e3];rw[eY (by assumption),Array.reverse_push]
theorem MH.DV(hA:Up r a 0 a.size)(hB:Up r b 0 b.size):∀ (k:Nat) {out:Array bS} {na p:Nat},MH r a b out na nb->p+k=na->(0<nb->∀ i,p<=i->i<na->R r b (nb-1)<=R r a i)->MH r a b (out++(a.extract p na).reverse) p nb
 |0,out,na,p,M,h1,h2=>by
  have:a.extract p na = #[]:=Qe (by simp only[GV];lia);have e:na=p:=by lia
  subst e;rw[this];simpa using M
 |k+1,out,na,p,M,h1,h2=>by have ha:=M.ha;have e:a[na-1]? = some (a[na-1]'(by lia)):=getElem?_pos a (na-1) (by lia);have q:=M.pN hA hB (by lia) e λhb=>h2 hb _ (by lia) (by lia);have z:=MH.DV hA hB k q (by lia) λhb i lI i9=>h2 hb i lI (by lia);rw[jk (by lia) ha,<- NV];simpa using z
theorem MH.DZ(hA:Up r a 0 a.size)(hB:Up r b 0 b.size):∀ (k:Nat) {out:Array bS} {nb p:Nat},MH r a b out na nb->p+k=nb->(0<na->∀ i,p<=i->i<nb->R r a (na-1)<=R r b i)->MH r a b (out++(b.extract p nb).reverse) na p
 |0,out,nb,p,M,h1,h2=>by
  have:b.extract p nb = #[]:=Qe (by simp only[GV];lia);have e:nb=p:=by lia
  subst e;rw[this];simpa using M
 |k+1,out,nb,p,M,h1,h2=>by have hb:=M.hb;have e:b[nb-1]? = some (b[nb-1]'(by lia)):=getElem?_pos b (nb-1) (by lia);have q:=M.pZ hA hB (by lia) e λha=>h2 ha _ (by lia) (by lia);have z:=MH.DZ hA hB k q (by lia) λha i lI i9=>h2 ha i lI (by lia);rw[jk (by lia) hb,<- NV];simpa using z
def MH.whole(M:MH r a b out 0 0):bW r a b out.reverse:=by
 refine⟨?_,?_⟩
 ·have h:=M.perm;rw[Array.toList_reverse];exact(List.reverse_perm _).trans h
 ·rw[Array.toList_reverse,List.pairwise_reverse];exact M.down
def oh(x y:Array bS):(x++y.reverse).reverse=y++x.reverse:=by apply Qh.mp;simp
def MH.MV(M:MH r a b out na nb)(hA:Up r a 0 a.size)(hB:Up r b 0 b.size)(e:na=0):bW r a b (a.extract 0 na++b.extract 0 nb++out.reverse):=by
 subst e;have z:=MH.DZ hA hB nb (p:=0) M (by exact P9 ..) λha=>absurd ha (vw _);have q:=z.whole;rw[oh] at q;have e2:a.extract 0 0 = #[]:=by simp
 rw[e2,Array.empty_append];exact q
def MH.MS(M:MH r a b out na nb)(hA:Up r a 0 a.size)(hB:Up r b 0 b.size)(e:nb=0):bW r a b (a.extract 0 na++b.extract 0 nb++out.reverse):=by
 subst e;have z:=MH.DV hA hB na (p:=0) M (by exact P9 ..) λhb=>absurd hb (vw _);have q:=z.whole;rw[oh] at q;have e2:b.extract 0 0 = #[]:=by simp
 rw[e2,Td];exact q
def MH.sG(M:MH r a b out na nb)(hA:Up r a 0 a.size)(hB:Up r b 0 b.size)(e:nb=1)(hl:∀ i,i<a.size->R r b 0<=R r a i):bW r a b (b.extract 0 nb++a.extract 0 na++out.reverse):=by subst e;have ha:=M.ha;have z:=MH.DV hA hB na (p:=0) M (by exact P9 ..) λ_ i _ hi=>hl i (by lia);have z2:=MH.DZ hA hB 1 (p:=0) z (by exact P9 ..) λh=>absurd h (vw _);have q:=z2.whole;rw[oh,oh] at q;rw[NV];exact q
def MH.start:MH r a b #[] a.size b.size:=⟨cx _,cx _,by simp,by simp,λx hx=>by simp at hx,λx hx=>by simp at hx⟩
end
abbrev S1:=Option (Array bS) × Nat × Nat × Array bS × Nat
abbrev S2:=Option (Array bS) × Nat × Nat × Array bS × Nat × Nat
abbrev S3:=Option (Array bS) × Nat × Nat × Array bS × Nat × Nat × Nat
def Fc(a b out:Array bS)(na nb:Nat):Array bS:=a.extract 0 na++b.extract 0 nb++out.reverse
def Rg(a b out:Array bS)(na nb:Nat):Array bS:=b.extract 0 nb++a.extract 0 na++out.reverse
def UO(a b:Array bS)(mg ac bc na nb:Nat)(out:Array bS):SM (ForInStep S3):=elem' a (na-1) >>= λp =>
 if (na-1 == 0)=true then pure (.done (some (Fc a b (out.push p) (na-1) nb),na-1,nb,out.push p,mg,ac,bc))
 else if (decide (ac<7) && decide (bc<7))=true then pure (.done (none,na-1,nb,out.push p,mg,ac,bc)) else pure (.yield (none,na-1,nb,out.push p,mg,ac,bc))
def i9(a b:Array bS)(mg ac bc na nb:Nat)(out:Array bS):SM (ForInStep S3):=elem' a (na-1) >>= λp=>jo true p b 0 nb (nb-1) >>= λx=>match x with
 |some k=>if nb-k>0 then
   if (k == 1)=true then pure (.done (some (Rg a b (out++(b.extract k nb).reverse) na k),na,k,out++(b.extract k nb).reverse,mg,ac,nb-k))
   else if (k == 0)=true then pure (.done (some (Fc a b (out++(b.extract k nb).reverse) na k),na,k,out++(b.extract k nb).reverse,mg,ac,nb-k))
   else UO a b mg ac (nb-k) na k (out++(b.extract k nb).reverse)
  else UO a b mg ac (nb-k) na nb out
 |_=>pure (.done (some (Fc a b out na nb),na,nb,out,mg,ac,bc))
def lI(a b:Array bS)(mg ac bc na nb:Nat)(out:Array bS):SM (ForInStep S3):=elem' b (nb-1) >>= λp =>
 if (nb-1 == 1)=true then pure (.done (some (Rg a b (out.push p) na (nb-1)),na,nb-1,out.push p,mg,ac,bc)) else i9 a b mg ac bc na (nb-1) (out.push p)
def xB(a b:Array bS)(mg ac bc na nb:Nat)(out:Array bS):SM (ForInStep S3):=bA mg >>= λ_=>elem' b (nb-1) >>= λp=>jo false p a 0 na (na-1) >>= λx=>match x with
 |some k=>if na-k>0 then
   if (k == 0)=true then pure (.done (some (Fc a b (out++(a.extract k na).reverse) k nb),k,nb,out++(a.extract k na).reverse,mg,na-k,bc))
   else lI a b mg (na-k) bc k nb (out++(a.extract k na).reverse)
  else lI a b mg (na-k) bc na nb out
 |_=>pure (.done (some (Fc a b out na nb),na,nb,out,mg,ac,bc))
def ZU(a b:Array bS)(_:Nat)(s:S3):SM (ForInStep S3) :=
 if s.2.2.2.2.1>1 then xB a b (s.2.2.2.2.1-1) s.2.2.2.2.2.1 s.2.2.2.2.2.2 s.2.1 s.2.2.1 s.2.2.2.1 else xB a b s.2.2.2.2.1 s.2.2.2.2.2.1 s.2.2.2.2.2.2 s.2.1 s.2.2.1 s.2.2.2.1
def ZV(a b:Array bS)(mg ac na nb:Nat)(out:Array bS):SM (ForInStep S2):=elem' a (na-1) >>= λp =>
 if (na-1 == 0)=true then pure (.done (some (Fc a b (out.push p) (na-1) nb),na-1,nb,out.push p,ac+1,0))
 else if ac+1 >= mg then pure (.done (none,na-1,nb,out.push p,ac+1,0)) else pure (.yield (none,na-1,nb,out.push p,ac+1,0))
def ZW(a b:Array bS)(mg bc na nb:Nat)(out:Array bS):SM (ForInStep S2):=elem' b (nb-1) >>= λp =>
 if (nb-1 == 1)=true then pure (.done (some (Rg a b (out.push p) na (nb-1)),na,nb-1,out.push p,0,bc+1))
 else if bc+1 >= mg then pure (.done (none,na,nb-1,out.push p,0,bc+1)) else pure (.yield (none,na,nb-1,out.push p,0,bc+1))
def ZX(a b:Array bS)(mg:Nat)(_:Nat)(s:S2):SM (ForInStep S2):=elem' b (s.2.2.1-1) >>= λpb=>elem' a (s.2.1-1) >>= λpa=>lt' pb pa >>= λx=>match x with
 |some w=>if w=true then ZV a b mg s.2.2.2.2.1 s.2.1 s.2.2.1 s.2.2.2.1 else ZW a b mg s.2.2.2.2.2 s.2.1 s.2.2.1 s.2.2.2.1
 |_=>pure (.done (some (Fc a b s.2.2.2.1 s.2.1 s.2.2.1),s.2.1,s.2.2.1,s.2.2.2.1,s.2.2.2.2.1,s.2.2.2.2.2))
def ZY (a b:Array bS) (mg:Nat) (t:S2):SM (ForInStep S1):=(liftM (rule "list.sort.gallop"):SM Unit) >>= λ_ =>
 forIn [:a.size+b.size] ((none,t.2.1,t.2.2.1,t.2.2.2.1,mg+1,t.2.2.2.2.1,t.2.2.2.2.2):S3) (ZU a b) >>= λu=>match u.1 with
 |some r=>pure (.done (some r,u.2.1,u.2.2.1,u.2.2.2.1,u.2.2.2.2.1))
 |none=>bA (u.2.2.2.2.1+1) >>= λ_=>pure (.yield (none,u.2.1,u.2.2.1,u.2.2.2.1,u.2.2.2.2.1+1))
def ZZ(a b:Array bS)(_:Nat)(s:S1):SM (ForInStep S1):=forIn [:a.size+b.size] ((none,s.2.1,s.2.2.1,s.2.2.2.1,0,0):S2) (ZX a b s.2.2.2.2) >>= λt=>match t.1 with
 |some r=>pure (.done (some r,t.2.1,t.2.2.1,t.2.2.2.1,s.2.2.2.2))
 |none=>ZY a b s.2.2.2.2 t
def hiM (a b:Array bS):SM (Array bS):=(liftM (rule "list.sort.merge-hi"):SM Unit) >>= λ_=>elem' a (a.size-1) >>= λy =>
 if (a.size-1 == 0)=true then pure (Fc a b #[y] (a.size-1) b.size)
 else if (b.size == 1)=true then pure (Rg a b #[y] (a.size-1) b.size)
 else get >>= λst=>forIn [:a.size+b.size] ((none,a.size-1,b.size,#[y],gallopOf st):S1) (ZZ a b) >>= λt=>match t.1 with
 |some r=>pure r
 |none=>(liftM (unsupported (α:=Array bS) "internal:list.sort.merge-bound"):SM (Array bS))
set_option smartUnfolding false in
def uv:tU=hiM:=rfl
section
variable {prog:d5}{w:eC}{A:e7}{E:ae->ax->Prop}{s:ax}{κ:pd}{r:ae->Int}{P:ae->Prop}{a b out:Array bS}{mg ac bc na nb N:Nat}{st:dS}{Q:ForInStep S3->dS->Prop}
def HD(r:ae->Int)(a b:Array bS)(Q:ForInStep S3->dS->Prop)(st:dS):Prop:=∀ o rest,bW r a b o->Q (.done (some o,rest)) st
def HY(r:ae->Int)(a b:Array bS)(N:Nat)(Q:ForInStep S3->dS->Prop)(st:dS):Prop :=
 ∀ o na nb mg ac bc,MH r a b o na nb->1<=na->2<=nb->na+nb<=N->Q (.done (none,na,nb,o,mg,ac,bc)) st/\Q (.yield (none,na,nb,o,mg,ac,bc)) st
def Cq(c:MC prog w A s κ r P a b)(M:MH r a b out na nb)(h1:0<na)(lt:R r b (nb-1)<=R r a (na-1))(h2:2<=nb)(hN:na+nb<=N)(D:HD r a b Q st)(Y:HY r a b N Q st):wpS (aI prog w) A E s (UO a b mg ac bc na nb out) Q st:=by
 have ha:=M.ha;refine ck (aK (by lia) λp e=>?_);have M2:=M.pN c.hA c.hB h1 e λ_=>lt;by_cases z:na-1=0
 ·rw[if_pos (by simpa using z)];exact dc (D _ _ (M2.MV c.hA c.hB z))
 ·rw[if_neg (by simpa using z)];have y:=Y _ _ _ mg ac bc M2 (by lia) h2 (by lia);split
  ·exact dc y.1
  ·exact dc y.2
def HF(c:MC prog w A s κ r P a b)(hk:ft st=κ)(M:MH r a b out na nb)(h1:0<na)(h2:2<=nb)(hN:na+nb<=N)(D:HD r a b Q st)(Y:HY r a b N Q st):wpS (aI prog w) A E s (i9 a b mg ac bc na nb out) Q st:=by
 have ha:=M.ha;have hb:=M.hb;refine ck (aK (by lia) λp e=>ck (cJ c.C hk c.pb (c.pa.at e) (by lia) (by lia) (λi j u v w=>c.hB i j u v (by lia)) λl MX y6 MY=>?_));have ra:=oB (r:=r) e;dsimp only;have lt:0<l->R r b (l-1)<=R r a (na-1):=λz=>by have:=Df (y6 (l-1) (by exact Nat.sub_lt ‹_› Nat.one_pos));rw[vx] at this;lia
 by_cases l0:nb-l>0
 ·have M5:=MH.DZ c.hA c.hB (nb-l) (p:=l) M (by exact NT ‹_›) λ_ i lI i9=>by have:=sY (MY i lI i9);rw[vx] at this;lia
  rw[if_pos l0];by_cases z4:l=1
  ·rw[if_pos (by simpa using z4)];exact dc (D _ _ (M5.sG c.hA c.hB z4 c.hl))
  ·rw[if_neg (by simpa using z4)];by_cases z6:l=0
   ·rw[if_pos (by simpa using z6)];exact dc (D _ _ (M5.MS c.hA c.hB z6))
   ·rw[if_neg (by simpa using z6)];exact Cq c M5 h1 (lt (by lia)) (by lia) (by lia) D Y
 ·rw[if_neg l0];obtain rfl:l=nb:=by lia
  exact Cq c M h1 (lt (by exact S_ ‹_›)) h2 hN D Y
def Bo(c:MC prog w A s κ r P a b)(hk:ft st=κ)(M:MH r a b out na nb)(h1:0<na)(h2:2<=nb)(lt:R r a (na-1)<=R r b (nb-1))(hN:na+nb<=N)(D:HD r a b Q st)(Y:HY r a b N Q st):wpS (aI prog w) A E s (lI a b mg ac bc na nb out) Q st:=by
 have hb:=M.hb;refine ck (aK (by lia) λp e=>?_);have M4:=M.pZ c.hA c.hB (by exact S_ ‹_›) e λ_=>lt;by_cases z:nb-1=1
 ·rw[if_pos (by simpa using z)];exact dc (D _ _ (M4.sG c.hA c.hB z c.hl))
 ·rw[if_neg (by simpa using z)];exact HF c hk M4 h1 (by lia) (by lia) D Y
def Ia(c:MC prog w A s κ r P a b)(hk:ft st=κ)(M:MH r a b out na nb)(h1:0<na)(h2:2<=nb)(hN:na+nb<=N)(D:∀ av,Mg st av->HD r a b Q av)(Y:∀ av,Mg st av->HY r a b N Q av):wpS (aI prog w) A E s (xB a b mg ac bc na nb out) Q st:=by
 have ha:=M.ha;have hb:=M.hb;have g:=(Mg.refl st).set mg;refine ck (gC ?_);refine ck (aK (by lia) λp e=>ck (cJ c.C (g.kind.trans hk) c.pa (c.pb.at e) (by lia) (by exact Nat.sub_lt ‹_› Nat.one_pos) (λi j u v w=>c.hA i j u v (by lia)) λk ZT vT IH=>?_));have rb:=oB (r:=r) e;dsimp only;have lt:0<k->R r a (k-1)<=R r b (nb-1):=λz=>by have:=y_ (vT (k-1) (by exact Nat.sub_lt ‹_› Nat.one_pos));rw[vx] at this;lia
 by_cases k0:na-k>0
 ·have M3:=MH.DV c.hA c.hB (na-k) (p:=k) M (by exact NT ‹_›) λ_ i lI i9=>by have:=vU (IH i lI i9);rw[vx] at this;lia
  rw[if_pos k0];by_cases z:k=0
  ·rw[if_pos (by simpa using z)];exact dc (D _ g _ _ (M3.MV c.hA c.hB z))
  ·rw[if_neg (by simpa using z)];exact Bo c (g.kind.trans hk) M3 (by lia) h2 (lt (by lia)) (by lia) (D _ g) (Y _ g)
 ·rw[if_neg k0];obtain rfl:k=na:=by lia
  exact Bo c (g.kind.trans hk) M h1 h2 (lt h1) hN (D _ g) (Y _ g)
def HI(r:ae->Int)(a b:Array bS)(N:Nat)(c:S2):Prop:=∃ na nb out ac bc,c=(none,na,nb,out,ac,bc)/\MH r a b out na nb/\1<=na/\2<=nb/\na+nb<=N
def Hw{Q:ForInStep S2->dS->Prop}(c:MC prog w A s κ r P a b)(M:MH r a b out na nb)(h1:0<na)(lt:R r b (nb-1)<=R r a (na-1))(h2:2<=nb)(hN:na+nb<=N+1)(D:∀ c,HS r a b c->Q (.done c) st)(Y:∀ c,HI r a b N c->Q (.done c) st/\Q (.yield c) st):wpS (aI prog w) A E s (ZV a b mg ac na nb out) Q st:=by
 have ha:=M.ha;refine ck (aK (by lia) λp e=>?_);have M2:=M.pN c.hA c.hB h1 e λ_=>lt;by_cases z:na-1=0
 ·rw[if_pos (by simpa using z)];exact dc (D _ ⟨_,_,rfl,M2.MV c.hA c.hB z⟩)
 ·rw[if_neg (by simpa using z)];have y:=Y _ ⟨_,_,_,ac+1,0,rfl,M2,by lia,h2,by lia⟩;split
  ·exact dc y.1
  ·exact dc y.2
def Gq{Q:ForInStep S2->dS->Prop}(c:MC prog w A s κ r P a b)(M:MH r a b out na nb)(h1:0<na)(lt:R r a (na-1)<=R r b (nb-1))(h2:2<=nb)(hN:na+nb<=N+1)(D:∀ c,HS r a b c->Q (.done c) st)(Y:∀ c,HI r a b N c->Q (.done c) st/\Q (.yield c) st):wpS (aI prog w) A E s (ZW a b mg bc na nb out) Q st:=by
 have hb:=M.hb;refine ck (aK (by lia) λp e=>?_);have M2:=M.pZ c.hA c.hB (by exact S_ ‹_›) e λ_=>lt;by_cases z:nb-1=1
 ·rw[if_pos (by simpa using z)];exact dc (D _ ⟨_,_,rfl,M2.sG c.hA c.hB z c.hl⟩)
 ·rw[if_neg (by simpa using z)];have y:=Y _ ⟨_,_,_,0,bc+1,rfl,M2,h1,by lia,by lia⟩;split
  ·exact dc y.1
  ·exact dc y.2
def Gz{Q:ForInStep S2->dS->Prop}{x:Nat}(c:MC prog w A s κ r P a b)(hk:ft st=κ)(M:MH r a b out na nb)(h1:0<na)(h2:2<=nb)(hN:na+nb<=N+1)(D:∀ c,HS r a b c->Q (.done c) st)(Y:∀ c,HI r a b N c->Q (.done c) st/\Q (.yield c) st):wpS (aI prog w) A E s (ZX a b mg x (none,na,nb,out,ac,bc)) Q st:=by
 have ha:=M.ha;have hb:=M.hb;refine ck (aK (show nb-1<b.size by lia) λpb eb=>ck (aK (show na-1<a.size by lia) λpa ea=>ck (pC c.C hk (c.pb.at eb) (c.pa.at ea) ?_)));have rb:R r b (nb-1)=r pb.1:=oB eb;have ra:R r a (na-1)=r pa.1:=oB ea;dsimp only;by_cases hw:r pb.1<r pa.1
 ·rw[if_pos (decide_eq_true hw)];exact Hw c M h1 (by lia) h2 hN D Y
 ·rw[if_neg (by simpa using hw)];exact Gq c M h1 (by lia) h2 hN D Y
def HR{Q:ForInStep S1->dS->Prop}(c:MC prog w A s κ r P a b)(hk:ft st=κ)(M:MH r a b out na nb)(h1:0<na)(h2:2<=nb)(hN:na+nb<=N)(D:∀ av,Mg st av->∀ c,HS r a b c->Q (.done c) av)(Y:∀ av,Mg st av->∀ out na nb mg,MH r a b out na nb->1<=na->2<=nb->na+nb<=N->Q (.yield (none,na,nb,out,mg)) av):wpS (aI prog w) A E s (ZY a b mg (none,na,nb,out,ac,bc)) Q st:=by
 refine ck (wpS_lift (CL ⟨rfl,?_⟩));refine ck (tq (qh (I:=λ_ c av=>Mg st av/\∃ na nb out mg ac bc,c=(none,na,nb,out,mg,ac,bc)/\MH r a b out na nb/\1<=na/\2<=nb/\na+nb<=N) (Q:=λc av=>Mg st av/\(HS r a b c\/∃ na nb out mg ac bc,c=(none,na,nb,out,mg,ac,bc)/\MH r a b out na nb/\1<=na/\2<=nb/\na+nb<=N)) ?step ?fin ⟨.refl st,_,_,_,_,_,_,rfl,M,h1,h2,hN⟩) ?post)
 case fin =>
  rintro c av ⟨hm,q⟩;exact⟨hm,.inr q⟩
 case step =>
  rintro y c1 D1 _ _ ⟨hm,na,nb,out,mg,ac,bc,rfl,M,h1,h2,hN⟩;unfold ZU;split<;>exact Ia c (hm.kind.trans hk) M h1 h2 hN (λav g o rest hM=>⟨hm.trans g,.inl ⟨o,rest,rfl,hM⟩⟩) λav g o na nb mg ac bc M h1 h2 hN=>⟨⟨hm.trans g,.inr ⟨_,_,_,_,_,_,rfl,M,h1,h2,hN⟩⟩,hm.trans g,_,_,_,_,_,_,rfl,M,h1,h2,hN⟩
 case post =>
  rintro c av ⟨hm,⟨o,rest,rfl,hM⟩|⟨na,nb,out,mg,ac,bc,rfl,M,h1,h2,hN⟩⟩
  ·exact dc (D _ hm _ ⟨_,_,rfl,hM⟩)
  ·exact ck (gC (dc (Y _ (hm.set _) _ _ _ _ M h1 h2 hN)))
def HW{Q:ForInStep S1->dS->Prop}{x:Nat}(c:MC prog w A s κ r P a b)(hk:ft st=κ)(M:MH r a b out na nb)(h1:0<na)(h2:2<=nb)(hN:na+nb<=N+1)(D:∀ av,Mg st av->∀ c,HS r a b c->Q (.done c) av)(Y:∀ av,Mg st av->∀ out na nb mg,MH r a b out na nb->1<=na->2<=nb->na+nb<=N->Q (.yield (none,na,nb,out,mg)) av):wpS (aI prog w) A E s (ZZ a b x (none,na,nb,out,mg)) Q st:=by
 have hb:=M.hb;refine ck (tq (qh (I:=λy c av=>av=st/\HI r a b (N+1-y) c) (Q:=λc av=>av=st/\(HS r a b c\/HI r a b N c)) ?step ?fin ⟨rfl,_,_,_,_,_,rfl,M,h1,h2,hN⟩) ?post);case fin =>
  rintro c av ⟨rfl,na',oC,o,ac,bc,rfl,M',q1,q2,q3⟩;exact⟨rfl,.inr ⟨_,_,_,_,_,rfl,M',q1,q2,by lia⟩⟩
 case step =>
  rintro y c1 D1 _ hy ⟨rfl,na',oC,o,ac,bc,rfl,M',q1,q2,q3⟩;exact Gz (N:=N-y) c hk M' q1 q2 (by lia) (λc q=>⟨rfl,.inl q⟩) λc q=>by obtain⟨na,nb,o,ac,bc,rfl,M,h1,h2,h3⟩:=q;exact⟨⟨rfl,.inr ⟨_,_,_,_,_,rfl,M,h1,h2,by lia⟩⟩,rfl,_,_,_,_,_,rfl,M,h1,h2,by lia⟩
 case post =>
  rintro c1 av ⟨rfl,⟨o,rest,rfl,hM⟩|⟨na,nb,o,ac,bc,rfl,M',q1,q2,q3⟩⟩
  ·exact dc (D _ (.refl _) _ ⟨_,_,rfl,hM⟩)
  ·exact HR c hk M' q1 q2 q3 D Y
def qU{st:dS}{a b:Array bS}{Q:Array bS->dS->Prop}(C:mS prog w A s κ r P)(hk:ft st=κ)(UM:AllP P a)(UN:AllP P b)(hA:Up r a 0 a.size)(hB:Up r b 0 b.size)(na:1<=a.size)(nb:1<=b.size)(h0:R r b 0<=R r a 0) (hg:∀ j,j<b.size->R r b j<=R r a (a.size-1)) (h:∀ out av,bW r a b out->Mg st av->Q out av):wpS (aI prog w) A E s (tU a b) Q st:=by
 have c:MC prog w A s κ r P a b:=⟨C,UM,UN,hA,hB,λi hi=>yi h0 (hA 0 i (cx _) (fE _) hi),hg⟩
 rw[uv];refine ck (wpS_lift (CL ⟨rfl,?_⟩));refine ck (aK (by lia) λy0 e0=>?_);have M1:MH r a b #[y0] (a.size-1) b.size:=MH.start.pN hA hB na e0 λ_=>hg _ (by lia);by_cases c1:a.size-1=0
 ·rw[if_pos (by simpa using c1)];exact dc (h _ _ (M1.MV hA hB c1) (.refl st))
 ·rw[if_neg (by simpa using c1)];by_cases c2:b.size=1
  ·rw[if_pos (by simpa using c2)];exact dc (h _ _ (M1.sG hA hB c2 c.hl) (.refl st))
  ·rw[if_neg (by simpa using c2)];refine ck (wpS_get ?_);refine ck (tq (qh (I:=λx c av=>Mg st av/\∃ na nb out mg,c=(none,na,nb,out,mg)/\MH r a b out na nb/\1<=na/\2<=nb/\na+nb<=a.size+b.size-x) (Q:=λc av=>Mg st av/\HS r a b c) ?step ?fin ⟨.refl st,_,_,_,_,rfl,M1,by lia,by lia,by lia⟩) ?post)
   case fin =>
    rintro c av ⟨_,na,nb,out,mg,rfl,M,h1,h2,h3⟩;lia
   case post =>
    rintro c av ⟨hm,out,rest,rfl,hM⟩;exact dc (h out av hM hm)
   case step =>
    rintro x c1 D1 _ hx ⟨AU,na,nb,out,mg,rfl,M,h1,h2,h3⟩;exact HW c (AU.kind.trans hk) M h1 h2 (by lia) (λav g c q=>⟨AU.trans g,q⟩) λav g out na nb mg M h1 h2 h3=>⟨AU.trans g,_,_,_,_,rfl,M,h1,h2,h3⟩
end
def wr(p:Nat)(m:List bS)(n:Nat)(xs:Array bS):Array bS:=(m.zipIdx n).foldl (λa (q:bS × Nat)=>a.setIfInBounds (p+q.2) q.1) xs
theorem wO(p:Nat):∀ (m:List bS) (n:Nat) (xs:Array bS),p+n+m.length<=xs.size->∀ k:Nat,(wr p m n xs)[k]? = if p+n<=k/\k<p+n+m.length then m[k-(p+n)]? else xs[k]?
 |[],n,xs,h,k=>by rw[if_neg (by simp only[P0];lia)];rfl
 |q :: m,n,xs,h,k=>by
  have ih:=wO p m (n+1) (xs.setIfInBounds (p+n) q) (by rw[Array.size_setIfInBounds];simp only[oS] at h;lia) k;have e:wr p (q :: m) n xs=wr p m (n+1) (xs.setIfInBounds (p+n) q):=by unfold wr;rw[List.zipIdx_cons,List.foldl_cons]
  simp only[oS] at h ⊢;rw[e,ih];by_cases h1:p+(n+1)<=k/\k<p+(n+1)+m.length
  ·rw[if_pos h1,if_pos (by lia),show k-(p+n)=(k-(p+(n+1)))+1 by lia,List.getElem?_cons_succ]
  ·rw[if_neg h1];by_cases h2:k=p+n
   ·subst h2;rw[if_pos (by lia),Nat.sub_self,SG,Array.getElem?_setIfInBounds_self_of_lt (by lia)]
   ·rw[if_neg (by lia),Array.getElem?_setIfInBounds_ne (by lia)]
def Fw(h:p+m.length<=xs.size):(wr p m 0 xs).toList=xs.toList.take p++m++xs.toList.drop (p+m.length):=by
 have hl:xs.toList.length=xs.size:=by simp
 apply Dp;intro k;have e:=wO p m 0 xs h k;rw[LZ] at e;rw[mh,e];by_cases h1:k<p
 ·rw[if_neg (by lia),Ap,FX (by rw[nK];lia),List.getElem?_take_of_lt h1,mh]
 ·by_cases h2:k<p+m.length
  ·rw[if_pos (by lia),Ap,CM (by rw[nK];lia),nK,show min p xs.toList.length=p by lia,FX (by lia)]
  ·rw[if_neg (by lia),Ap,CM (by rw[nK];lia),nK,show min p xs.toList.length=p by lia,CM (by lia),List.getElem?_drop,
    show p+m.length+(k-p-m.length)=k by lia,mh]
def GZ{p q:Nat}{xs:Array bS}(h:p<=q)(h2:q<=xs.size):xs.toList=xs.toList.take p++(xs.extract p q).toList++xs.toList.drop q:=by
 rw[Tc,SD];have e1:xs.toList.take p++(xs.toList.drop p).take (q-p)=xs.toList.take q:=by rw[<- NJ p (xs.toList.take q),List.take_take,List.drop_take,Nat.min_eq_left h]
 rw[e1,NJ]
def CJ{p q:Nat}{m:List bS}{xs:Array bS}(h:p<=q)(h2:q<=xs.size)(hm:m.Perm (xs.extract p q).toList):(wr p m 0 xs).Perm xs:=by
 have hl:m.length=q-p:=by rw[hm.length_eq];simp;lia
 rw[Tb,Fw (by lia),show p+m.length=q by lia];have e:=GZ h h2;exact(List.Perm.append_right _ (List.Perm.append_left _ hm)).trans (by rw[<- e])
def Runs(r:ae->Int)(xs:Array bS):List (Nat × Nat × Nat)->Nat->Nat->Prop
 |[],a,b=>a=b
 | (s,n,_) :: rest,a,b=>s=a/\1<=n/\Up r xs s (s+n)/\Runs r xs rest (s+n) b
section
variable {r:ae->Int}{xs ys:Array bS}
theorem Runs.le:∀ {ps:List (Nat × Nat × Nat)} {a b:Nat},Runs r xs ps a b->a+ps.length<=b
 |[],a,b,h=>by simp only[Runs] at h;simp;lia
 | (s,n,p) :: rest,a,b,h=>by obtain⟨rfl,h1,_,h3⟩:=h;have:=Runs.le h3;simp only[oS];lia
theorem Runs.append:∀ {ps qs:List (Nat × Nat × Nat)} {a b:Nat},Runs r xs (ps++qs) a b↔∃ c,Runs r xs ps a c/\Runs r xs qs c b
 |[],qs,a,b=>by simp[Runs]
 | (s,n,p) :: rest,qs,a,b=>by
  constructor
  ·rintro⟨h1,h2,h3,h4⟩;obtain⟨c,h5,h6⟩:=Runs.append.mp h4;exact⟨c,⟨h1,h2,h3,h5⟩,h6⟩
  ·rintro⟨c,⟨h1,h2,h3,h5⟩,h6⟩;exact⟨h1,h2,h3,Runs.append.mpr ⟨c,h5,h6⟩⟩
def Up.congr(h:Up r xs a b)(e:∀ k,a<=k->k<b->ys[k]? = xs[k]?):Up r ys a b:=λi j h1 h2 h3=>by rw[cR (e i h1 (by lia)),cR (e j (by lia) h3)];exact h i j h1 h2 h3
theorem Runs.congr:∀ {ps:List (Nat × Nat × Nat)} {a b:Nat},Runs r xs ps a b->(∀ k,a<=k->k<b->ys[k]? = xs[k]?)->Runs r ys ps a b
 |[],a,b,h,_=>h
 | (s,n,p) :: rest,a,b,h,e=>by obtain⟨rfl,h1,h2,h3⟩:=h;have l:=h3.le;exact⟨rfl,h1,h2.congr λk u v=>e k u (by lia),Runs.congr h3 λk u v=>e k (by lia) v⟩
def Up.glue(h1:Up r xs a b)(h2:Up r xs b c)(h:∀ i j,a<=i->i<b->b<=j->j<c->R r xs i<=R r xs j):Up r xs a c:=λi j u v w=>by
 by_cases hj:j<b
 ·exact h1 i j u v hj
 ·by_cases hi:i<b
  ·exact h i j u hi (by lia) w
  ·exact h2 i j (by lia) v w
end
section
variable {prog:d5}{w:eC}{A:e7}{E:ae->ax->Prop}{s:ax}{κ:pd}{r:ae->Int}{P:ae->Prop}
def AllP.extract(h:AllP P xs)(i j:Nat):AllP P (xs.extract i j):=λp hp=>h p (by
 rw[Tc,SD] at hp;exact SX (PN hp))
def dC(h:i+k<j)(hj:j<=xs.size):R r (xs.extract i j) k=R r xs (i+k):=by apply cR;rw[Qf,if_pos (by lia)]
def Up.extract(h:Up r xs i j)(iN:i<=j)(hj:j<=xs.size):Up r (xs.extract i j) 0 (xs.extract i j).size:=λa b _ h2 h3=>by
 have e:(xs.extract i j).size=j-i:=by simp only[GV];lia
 rw[dC (by lia) hj,dC (by lia) hj];exact h _ _ (by lia) (by lia) (by lia)
def yc(hz:sa+na+nb<=xs.size)(hk:k<na)(hnb:oC<=nb)(hA:Up r xs sa (sa+na))(hB:Up r xs (sa+na) (sa+na+nb))(lo1:∀ i,i<k->R r xs (sa+i)<=R r xs (sa+na)) (IG:R r xs (sa+na)<R r xs (sa+k)) (lI:∀ i,i<oC->R r xs (sa+na+i)<R r xs (sa+na-1)) (i9:∀ i,oC<=i->i<nb->R r xs (sa+na-1)<=R r xs (sa+na+i))(hm:bW r (xs.extract (sa+k) (sa+na)) (xs.extract (sa+na) (sa+na+oC)) m) :
  Up r (wr (sa+k) m.toList 0 xs) sa (sa+na+nb)/\(wr (sa+k) m.toList 0 xs).Perm xs/\∀ j,j<sa\/sa+na+nb<=j->(wr (sa+k) m.toList 0 xs)[j]? = xs[j]? := by
 obtain⟨mp,mu⟩:=hm;have eab:(xs.extract (sa+k) (sa+na)).toList++(xs.extract (sa+na) (sa+na+oC)).toList=(xs.extract (sa+k) (sa+na+oC)).toList:=by rw[<- Array.toList_append,Array.extract_append_extract,show min (sa+k) (sa+na)=sa+k by lia,show max (sa+na) (sa+na+oC)=sa+na+oC by lia]
 rw[eab] at mp;have ml:m.toList.length=na+oC-k:=by rw[mp.length_eq];simp;lia
 have hw:sa+k+m.toList.length<=xs.size:=by lia
 have get:=wO (sa+k) m.toList 0 xs (by lia);rw[LZ,ml] at get
 -- every merged item is one of the jO'
 have mem:∀ (j:Nat) p,m.toList[j]? = some p->∃ i,sa+k<=i/\i<sa+na+oC/\r p.1=R r xs i:=λj p e=>by
  have hp:p∈(xs.extract (sa+k) (sa+na+oC)).toList:=mp.mem_iff.mp (k7 e);obtain⟨i,hi⟩:=List.getElem?_of_mem hp;rw[mh,Qf] at hi;split at hi
  ·exact⟨sa+k+i,by lia,by lia,(oB hi).symm⟩
  ·cases hi
 have low:∀ i,sa+k<=i->i<sa+na+oC->R r xs (sa+na)<=R r xs i:=λi h1 h2=>by
  by_cases h3:i<sa+na
  ·exact yi (GW IG) (hA (sa+k) i (by lia) h1 h3)
  ·exact hB (sa+na) i (cx _) (by lia) (by lia)
 have high:∀ i,sa+k<=i->i<sa+na+oC->R r xs i<=R r xs (sa+na-1):=λi h1 h2=>by
  by_cases h3:i<sa+na
  ·exact hA i (sa+na-1) (by lia) (by lia) (by lia)
  ·have:=lI (i-(sa+na)) (by lia);rw[show sa+na+(i-(sa+na))=i by lia] at this;lia
 have Z0:∀ j,j<na+oC-k->∃ i,sa+k<=i/\i<sa+na+oC/\R r (wr (sa+k) m.toList 0 xs) (sa+k+j)=R r xs i:=λj hj=>by
  have e:=get (sa+k+j);rw[if_pos (by lia),show sa+k+j-(sa+k)=j by lia] at e;have oj:j<m.toList.length:=by lia
  obtain⟨i,h1,h2,h3⟩:=mem j m.toList[j] (kB oj);rw[kB oj] at e;exact⟨i,h1,h2,(oB e).trans h3⟩
 have MZ:∀ j,j<sa+k\/sa+na+oC<=j->(wr (sa+k) m.toList 0 xs)[j]? = xs[j]? := λj hj=>by have e:=get j;rw[if_neg (by lia)] at e;exact e
 refine⟨?_,CJ (by lia) (by lia) mp,λj hj=>MZ j (by lia)⟩;have U1:Up r (wr (sa+k) m.toList 0 xs) sa (sa+k):=Up.congr (λi j h1 h2 h3=>hA i j h1 h2 (by lia)) λj h1 h2=>MZ j (.inl h2);have U2:Up r (wr (sa+k) m.toList 0 xs) (sa+k) (sa+na+oC):=λi j h1 h2 h3=>by
  have ei:=get i;have ej:=get j;rw[if_pos (by lia)] at ei ej;have li:i-(sa+k)<m.toList.length:=by lia
  have lj:j-(sa+k)<m.toList.length:=by lia
  rw[kB li] at ei;rw[kB lj] at ej;rw[oB ei,oB ej];by_cases iN:i=j
  ·subst iN;exact sf _
  ·exact(xi.mp mu) _ _ li lj (by lia)
 have U3:Up r (wr (sa+k) m.toList 0 xs) (sa+na+oC) (sa+na+nb):=Up.congr (λi j h1 h2 h3=>hB i j (by lia) h2 h3) λj h1 h2=>MZ j (.inr h1);refine(U1.glue U2 λi j h1 h2 h3 h4=>?_).glue U3 λi j h1 h2 h3 h4=>?_
 ·obtain⟨q,q1,q2,q3⟩:=Z0 (j-(sa+k)) (by lia);rw[show sa+k+(j-(sa+k))=j by lia] at q3;rw[q3,cR (MZ i (.inl h2))];have:=lo1 (i-sa) (by lia);rw[show sa+(i-sa)=i by lia] at this;exact yi this (low q q1 q2)
 ·have e2:=i9 (j-(sa+na)) (by lia) (by lia);rw[show sa+na+(j-(sa+na))=j by lia] at e2;rw[cR (MZ j (.inr h3))];by_cases hi:i<sa+k
  ·rw[cR (MZ i (.inl hi))];have:=lo1 (i-sa) (by lia);rw[show sa+(i-sa)=i by lia] at this;have:=low (sa+na-1) (by lia) (by lia);lia
  ·obtain⟨q,q1,q2,q3⟩:=Z0 (i-(sa+k)) (by lia);rw[show sa+k+(i-(sa+k))=i by lia] at q3;rw[q3];exact yi (high q q1 q2) e2
structure St(r:ae->Int)(κ:pd)(fP:Array bS)(st:dS)(ps:List (Nat × Nat × Nat))(lo:Nat):Prop where
 kind:ft st=κ
 failed:qk st=none
 perm:(bp st).Perm fP
 pend:k8 st=ps.toArray
 runs:Runs r (bp st) ps 0 lo
def St.size{fP:Array bS}{st:dS}{ps:List (Nat × Nat × Nat)}{lo:Nat}(h:St r κ fP st ps lo):(bp st).size=fP.size:=h.perm.size_eq
def Bf{ps:List (Nat × Nat × Nat)}(h:i+1<ps.length):∃ pre x y post,ps=pre++x :: y :: post/\pre.length=i:=by refine⟨ps.take i,ps[i],ps[i+1],ps.drop (i+2),?_,by rw[nK];lia⟩;rw[<- An (by lia),<- An (by lia),NJ]
def jO{st:dS}{fP:Array bS}{ps:List (Nat × Nat × Nat)}{lo i:Nat}{Q:Bool->dS->Prop}(C:mS prog w A s κ r P)(hP:AllP P fP)(H:St r κ fP st ps lo)(E7:lo<=fP.size)(hi:i+1<ps.length)(h:∀ av js,St r κ fP av js lo->js.length+1=ps.length->js≠[]->(∀ k,lo<=k->(bp av)[k]? = (bp st)[k]?)->Q true av):wpS (aI prog w) A E s (mergeAt' i) Q st:=by
 obtain⟨pre,⟨sa,na,pa⟩,⟨sb,nb,pb⟩,post,rfl,E6⟩:=Bf hi;have hz:=H.size;have sD:AllP P (bp st):=hP.perm H.perm;obtain⟨c,Z1,UQ⟩:=Runs.append.mp H.runs;obtain⟨rfl,n1,u1,rfl,n2,u2,Z2⟩:=UQ;have le3:=Z2.le;have le1:=Z1.le
 -- the new pending list
 have fY':((k8 st).setIfInBounds i (sa,na+nb,pa)).eraseIdxIfInBounds (i+1)=(pre++(sa,na+nb,pa) :: post).toArray:=by rw[H.pend];apply Qh.mp;simp[<- E6,List.eraseIdx_append_of_length_le]
 have new:∀ xs g,xs.Perm (bp st)->(∀ j,j<sa\/sa+na+nb<=j->xs[j]? = (bp st)[j]?)->Up r xs sa (sa+(na+nb)) ->
   St r κ fP (SortSt.mk' (ft st) xs (pre++(sa,na+nb,pa) :: post).toArray g (qk st)) (pre++(sa,na+nb,pa) :: post) lo:=λxs g hp ho hu =>
  ⟨H.kind,H.failed,hp.trans H.perm,rfl,Runs.append.mpr ⟨sa,Z1.congr λk _ hk=>ho k (.inl hk),rfl,by lia,hu,by
   rw[show sa+(na+nb)=sa+na+nb by lia];exact Z2.congr λk hk _=>ho k (.inr hk)⟩⟩
 have len:(pre++(sa,na+nb,pa) :: post).length+1=(pre++(sa,na,pa) :: (sa+na,nb,pb) :: post).length:=by simp;lia
 have e0:(k8 st)[i]? = some (sa,na,pa):=by rw[H.pend,<- E6];simp
 have e1:(k8 st)[i+1]? = some (sa+na,nb,pb):=by rw[H.pend,<- E6];simp
 refine ck (wpS_get ?_);rw[e0,e1];refine ck (DE ?_);rw[fY'];refine ck (aK (xs:=bp st) (by lia) λkb Z3=>ck (cJ (arr:=bp st) C H.kind sD (sD.at Z3) (by lia) (by lia) u1 λk ZT vT IH=>?_));have rkb:=oB (r:=r) Z3;dsimp only;by_cases z:na-k=0
 ·rw[if_pos (by simpa using z)];refine dc (h _ _ (new (bp st) (gallopOf st) (Array.Perm.refl _) (λ_ _=>rfl) ?_) len (by simp) λ_ _=>rfl);rw[show sa+(na+nb)=sa+na+nb by lia];refine u1.glue u2 λi j h1 h2 h3 h4=>?_;have:=y_ (vT (i-sa) (by lia));rw[show sa+(i-sa)=i by lia] at this;have:=u2 (sa+na) j (cx _) h3 h4;lia
 ·rw[if_neg (by simpa using z)];refine ck (aK (xs:=bp st) (by lia) λka Z4=>ck (cJ (arr:=bp st) C H.kind sD (sD.at Z4) (by lia) (by lia) u2 λl MX y6 MY=>?_));have rka:=oB (r:=r) Z4;rw[show sa+k+(na-k)-1=sa+na-1 by lia] at rka;dsimp only;by_cases z2:l=0
  ·rw[if_pos (by simpa using z2)];refine dc (h _ _ (new (bp st) (gallopOf st) (Array.Perm.refl _) (λ_ _=>rfl) ?_) len (by simp) λ_ _=>rfl);rw[show sa+(na+nb)=sa+na+nb by lia];refine u1.glue u2 λi j h1 h2 h3 h4=>?_;have:=sY (MY (j-(sa+na)) (by lia) (by lia));rw[show sa+na+(j-(sa+na))=j by lia] at this;have:=u1 i (sa+na-1) h1 (by lia) (by lia);lia
  ·rw[if_neg (by simpa using z2)];have lo1:∀ i,i<k->R r (bp st) (sa+i)<=R r (bp st) (sa+na):=λi hi=>by have:=y_ (vT i hi);lia
   have IG:R r (bp st) (sa+na)<R r (bp st) (sa+k):=by have:=vU (IH k (cx _) (by lia));lia
   have lI:∀ i,i<l->R r (bp st) (sa+na+i)<R r (bp st) (sa+na-1):=λi hi=>by have:=Df (y6 i hi);lia
   have i9:∀ i,l<=i->i<nb->R r (bp st) (sa+na-1)<=R r (bp st) (sa+na+i):=λi h1 h2=>by have:=sY (MY i h1 h2);lia
   have sx:((bp st).extract (sa+k) (sa+na)).size=na-k:=by simp only[GV];lia
   have sy:((bp st).extract (sa+na) (sa+na+l)).size=l:=by simp only[GV];lia
   have ux:Up r ((bp st).extract (sa+k) (sa+na)) 0 ((bp st).extract (sa+k) (sa+na)).size:=Up.extract (λi j h1 h2 h3=>u1 i j (by lia) h2 h3) (by lia) (by lia);have uy:Up r ((bp st).extract (sa+na) (sa+na+l)) 0 ((bp st).extract (sa+na) (sa+na+l)).size:=Up.extract (λi j h1 h2 h3=>u2 i j h1 h2 (by lia)) (by lia) (by lia);have Z5:R r ((bp st).extract (sa+na) (sa+na+l)) 0<=R r ((bp st).extract (sa+k) (sa+na)) 0:=by rw[dC (by lia) (by lia),dC (by lia) (by lia)];exact GW IG
   have Z6:∀ j,j<((bp st).extract (sa+na) (sa+na+l)).size->R r ((bp st).extract (sa+na) (sa+na+l)) j<=R r ((bp st).extract (sa+k) (sa+na)) (((bp st).extract (sa+k) (sa+na)).size-1):=λj hj=>by rw[sx,dC (by lia) (by lia),dC (by lia) (by lia),show sa+k+(na-k-1)=sa+na-1 by lia];exact GW (lI j (by lia))
   have fin:∀ out av,bW r ((bp st).extract (sa+k) (sa+na)) ((bp st).extract (sa+na) (sa+na+l)) out->Mg (SortSt.mk' (ft st) (bp st) (pre++(sa,na+nb,pa) :: post).toArray (gallopOf st) (qk st)) av ->
     Q true (SortSt.mk' (ft av) (wr (sa+k) out.toList 0 (bp av)) (k8 av) (gallopOf av) (qk av)):=λout av hm hg=>by
    obtain⟨g,rfl⟩:=hg;obtain⟨m1,m2,m3⟩:=yc (by lia) (by lia) MX u1 u2 lo1 IG lI i9 hm;exact h _ _ (new _ g m2 m3 (by rw[show sa+(na+nb)=sa+na+nb by lia];exact m1)) len (by simp) λk hk=>m3 k (.inr (by lia))
   have fin2:∀ out av,bW r ((bp st).extract (sa+k) (sa+na)) ((bp st).extract (sa+na) (sa+na+l)) out->Mg (SortSt.mk' (ft st) (bp st) (pre++(sa,na+nb,pa) :: post).toArray (gallopOf st) (qk st)) av ->
     qk av=none:=λout av _ hg=>by
    obtain⟨g,rfl⟩:=hg;exact H.failed
   by_cases z3:na-k<=l
   ·rw[if_pos z3];refine ck (rO (a:=(bp st).extract (sa+k) (sa+na)) (b:=(bp st).extract (sa+na) (sa+na+l)) C H.kind (sD.extract _ _) (sD.extract _ _) ux uy (by lia) (by lia) Z5 Z6 λout av hm hg=>?_);refine ck (DE (ck (wpS_get ?_)));have f:=fin out av hm hg;have f2:=fin2 out av hm hg;refine dc ?_;show Q (qk av).isNone _;rw[f2];exact f
   ·rw[if_neg z3];refine ck (qU (a:=(bp st).extract (sa+k) (sa+na)) (b:=(bp st).extract (sa+na) (sa+na+l)) C H.kind (sD.extract _ _) (sD.extract _ _) ux uy (by lia) (by lia) Z5 Z6 λout av hm hg=>?_);refine ck (DE (ck (wpS_get ?_)));have f:=fin out av hm hg;have f2:=fin2 out av hm hg;refine dc ?_;show Q (qk av).isNone _;rw[f2];exact f
theorem Runs.modify(hf:∀ x,(f x).1=x.1/\(f x).2.1=x.2.1):∀ {ps:List (Nat × Nat × Nat)} {i a b:Nat},Runs r xs ps a b->Runs r xs (ps.modify i f) a b
 |[],_,_,_,h=>by simpa using h
 | (s,n,p) :: rest,0,a,b,h=>by obtain⟨h1,h2⟩:=hf (s,n,p);rw[List.modify_zero_cons];have e:f (s,n,p)=(s,n,(f (s,n,p)).2.2):=Prod.ext h1 (Prod.ext h2 rfl);rw[e];exact h
 | (s,n,p) :: rest,i+1,a,b,h=>by obtain⟨h1,h2,h3,h4⟩:=h;exact⟨h1,h2,h3,Runs.modify hf h4⟩
def St.win{fP:Array bS}{st av:dS}{ps:List (Nat × Nat × Nat)}{lo hi:Nat}(H:St r κ fP st ps lo)(hw:nc lo hi st av):St r κ fP av ps lo :=
 ⟨hw.kind.trans H.kind,hw.failed.trans H.failed,hw.perm.trans H.perm,hw.pend.trans H.pend,H.runs.congr λk _ hk=>hw.out k (.inl hk)⟩
def wpS_sortRuns{st:dS}{Q:Unit->dS->Prop}(C:mS prog w A s κ r P)(hk:ft st=κ)(hP:AllP P (bp st))(hp:k8 st = #[])(hf:qk st=none)(h:∀ av,(bp av).Perm (bp st)->qk av=none->Up r (bp av) 0 (bp st).size->Q () av):wpS (aI prog w) A E s sortRuns' Q st:=by
 rw[sortRuns'_eq];refine ck (wpS_get ?_);generalize ha:bp st=fP at *
 have H0:St r κ fP st [] 0:=⟨hk,hf,by rw[ha],by rw[hp],rfl⟩
 refine ck (tq (qh (I:=λx c av=>∃ ps lo,c=(none,lo)/\St r κ fP av ps lo/\lo<=fP.size/\x<=lo) (Q:=λc av=>∃ ps,c=(none,fP.size)/\St r κ fP av ps fP.size) ?step ?fin ⟨[],0,rfl,H0,fE _,cx _⟩) ?post)
 case fin =>
  rintro c av ⟨ps,lo,rfl,H,h1,h2⟩;have:lo=fP.size:=by lia
  subst this;exact⟨ps,rfl,H⟩
 case post =>
  rintro c av ⟨ps,rfl,H⟩;have l0:=H.runs.le;refine ck (tq (qh (I:=λy c av=>c=(none,())/\∃ js,St r κ fP av js fP.size/\js.length+y<=fP.size) (Q:=λc av=>c=(none,())/\∃ js,St r κ fP av js fP.size/\js.length<=1) ?ga' ?Rh ⟨rfl,ps,H,by lia⟩) ?gb')
  case Rh =>
   rintro c av ⟨rfl,js,H',hl⟩;exact⟨rfl,js,H',by lia⟩
  case gb' =>
   rintro c av ⟨rfl,js,H',hl⟩;refine dc (h av H'.perm H'.failed ?_);have q:=H'.runs
   match js,hl,q with
   |[],_,q =>have q:0=fP.size:=q;intro i j _ _ hj;lia
   |[(s',n',p')],_,q =>obtain⟨rfl,_,hu,e⟩:=q;rw[<- e];exact hu
  case ga' =>
   rintro y c D1 _ hy ⟨rfl,js,H',hl⟩;refine ck (wpS_get ?_);have ep:(k8 D1).size=js.length:=by rw[H'.pend];simp
   by_cases z:(k8 D1).size<=1
   ·rw[if_pos z];exact dc ⟨rfl,js,H',by lia⟩
   ·rw[if_neg z];exact ck (jO C hP H' (cx _) (by(repeat' split)<;>lia) λyB ps2 H2 hlen _ _=>dc ⟨rfl,ps2,H2,by lia⟩)
 case step =>
  rintro x c D1 _ hx ⟨ps,lo,rfl,H,h1,h2⟩;by_cases z:lo >= fP.size
  ·rw[if_pos z];have:lo=fP.size:=by lia
   subst this;exact dc ⟨ps,rfl,H⟩
  ·rw[if_neg z];have hz:=H.size;refine ck (wpS_countRun C H.kind (hP.perm H.perm) (by lia) (by lia) λm yB hw AU mv hu=>?_);have H2:=H.win hw;dsimp only;refine Fe (K:=?K) ?pk λkey=>?main;case main =>
    by_cases z2:m<minRun' fP.size fP.size 0
    ·rw[if_pos z2];refine ck (wpS_lift (CL ⟨rfl,?_⟩));refine ck (wpS_binarySort C H2.kind (hP.perm H2.perm) (by clear key;have:=H2.size;lia) (by clear key;lia) hu λyT Z7 UR=>?_);have H3:=H2.win Z7;have b1:1<=min (fP.size-lo) (minRun' fP.size fP.size 0):=by clear key;lia
     have b2:lo+min (fP.size-lo) (minRun' fP.size fP.size 0)<=fP.size:=by clear key;lia
     clear Z7;generalize min (fP.size-lo) (minRun' fP.size fP.size 0)=nn at *
     revert nn yT;exact key
    ·rw[if_neg z2];exact key _ H2 _ hu AU (by lia)
   intro yT H3 nn UR b1 b2;refine ck (wpS_get ?_);have push:∀ av js,St r κ fP av js lo->Up r (bp av) lo (lo+nn)->∃ ps IC,((none:Option Unit),lo+nn)=(none,IC)/\St r κ fP (setPending av ((k8 av).push (lo,nn,0))) ps IC/\IC<=fP.size/\x+1<=IC:=λav js G u =>
    ⟨js++[(lo,nn,0)],lo+nn,rfl,⟨G.kind,G.failed,G.perm,by rw[G.pend];simp,Runs.append.mpr ⟨lo,G.runs,rfl,b1,u,rfl⟩⟩,b2,by lia⟩
   cases hb:(k8 yT).back? with
   |none =>exact ck (DE (dc (push yT ps H3 UR)))
   |some t =>
    obtain⟨s1,n1,p1⟩:=t;dsimp only;generalize power' fP.size (2*s1+n1) (2*s1+n1+n1+nn) fP.size=pw;refine ck (tq (qh (I:=λy c av=>c=(none,())/\∃ js,St r κ fP av js lo/\Up r (bp av) lo (lo+nn))
     ?_ (λ_ _ q=>q) ⟨rfl,ps,H3,UR⟩) ?_)
    ·rintro y c AR _ hy ⟨rfl,js,H4,OD⟩;refine ck (wpS_get ?_);have ep:(k8 AR).size=js.length:=by rw[H4.pend];simp
     by_cases z3:(k8 AR).size>1
     ·rw[if_pos z3];have e4:(k8 AR)[(k8 AR).size-2]? = some ((k8 AR)[(k8 AR).size-2]'(by lia)):=getElem?_pos _ _ (by lia);rw[e4];generalize (k8 AR)[(k8 AR).size-2]'(by lia)=tt;obtain⟨t1,t2,gc'⟩:=tt;dsimp only;by_cases z4:gc'<=pw
      ·rw[if_pos z4];exact dc ⟨rfl,js,H4,OD⟩
      ·rw[if_neg z4];exact ck (jO C hP H4 h1 (by lia) λHG ps5 H5 hlen _ kS=>dc ⟨rfl,ps5,H5,OD.congr λk hk _=>kS k hk⟩)
     ·rw[if_neg z3];exact dc ⟨rfl,js,H4,OD⟩
    ·rintro c AR ⟨rfl,js,H4,OD⟩;refine ck (DE (ck (DE (dc ?_))));refine push _ (js.modify (js.length-1) λx=>(x.1,x.2.1,pw)) ⟨H4.kind,H4.failed,H4.perm,?_,Runs.modify (f:=λx=>(x.1,x.2.1,pw)) (λ_=>⟨rfl,rfl⟩) H4.runs⟩ OD;rw[H4.pend];simp
def di (h:df) (a:ah) (vs:List ae):df:=((h.update a (Obj.mapSeq λ_=>#[])).push (pe "tuple" vs.toArray 0)).push (pe "list" #[] 0)
def fY(hb:b≠a)(eS:b<h.objs.size):(di h a vs).get? b=h.get? b:=by
 unfold di;rw[LS _ _ _ (by rw[DF,GN];exact gi (xk eS)),
  LS _ _ _ (by rw[GN];exact gi eS),S9 _ _ _ _ hb]
def rY(hp:xs.Perm (pairsOf vs))(hs:Up r xs 0 vs.length):(xs.map (·.2)).toList.Perm vs/\(xs.map (·.2)).toList.Pairwise λx y=>r x<=r y:=by
 have hl:xs.toList.Perm (vs.zip vs):=by rw[<- pairsOf_toList];exact Tb.mp hp
 have OG:∀ p,p∈xs.toList->p.1=p.2:=λp i5=>(mem_zip_self (hl.mem_iff.mp i5)).1;have e:(xs.map (·.2)).toList=xs.toList.map (·.1):=by rw[Array.toList_map];exact CY λp i5=>(OG p i5).symm
 have fT:xs.size=vs.length:=by rw[hp.size_eq,pairsOf_size]
 rw[e];refine⟨?_,?_⟩
 ·have h1:=hl.map (·.1);rwa[LN (cx _)] at h1
 ·rw[xi];intro i j hi hj iN;have ki:i<xs.size:=by simpa using hi
  have oj:j<xs.size:=by simpa using hj
  have h1:=hs i j (fE _) (xl iN) (by lia);rw[HX ki,HX oj] at h1;simpa using h1
def fc {F:PySem.Fin->ax->Prop} (ho:s.heap.get? a=some (pe "list" vs.toArray n)) (fT:vs.length<=bX) (hP:∀ v∈vs,P v)(hk:2<=vs.length->∀ (Q:pd->ax->Prop),Q κ { s with heap:=di s.heap a vs }->bq (aI prog w) A (keyKind' vs.toArray) Q E { s with heap:=di s.heap a vs }) (C:2<=vs.length->mS prog w A { s with heap:=di s.heap a vs } κ r P) (h:∀ out:Array ae,out.toList.Perm vs->(out.toList.Pairwise λx y=>r x<=r y)->F (.done (.ret .none)) { s with heap:=sortedHeap s.heap a vs out }) :
  bq (aI prog w) A (Builtin.«list.sort» ⟨[.ref a],[]⟩) F E s:=by
 rw[list_sort_plain];have ha:a<s.heap.objs.size:=eW ho;refine aw (listItems_at ho rfl ?_);refine aw (listUpdate_at ho rfl ?_ (by simpa using fT) (fE _));obtain⟨e1,v3⟩:∃ e1,(s.heap.update a (Obj.mapSeq λ_=>#[])).get? a=some (pe "list" #[] e1):=⟨_,get?_update_seq ho (λ_=>#[])⟩
 refine aw (seqEpoch_at v3 rfl ?_);refine aw (wpAny_newTuple ?_ (by simpa using fT));refine aw (wpAny_newList ?_ (fE _));refine tf ?_;have Ri:(di s.heap a vs).get? a=some (pe "list" #[] e1):=by unfold di;rw[LS _ _ _ (by rw[DF,GN];exact gi (xk ha)),LS _ _ _ (by rw[GN];exact gi ha)];exact v3
 have hvz:vs.toArray.size=vs.length:=by simp
 have fin:∀ av:dS,(bp av).Perm (pairsOf vs)->Up r (bp av) 0 vs.length->F (.done (.ret .none)) { s with heap:=sortedHeap s.heap a vs ((bp av).map (·.2)) }:=by intro av hp hs;obtain⟨h1,h2⟩:=rY hp hs;exact h _ h1 h2
 by_cases h2:vs.toArray.size<2
 ·rw[if_pos h2,if_pos h2];refine aw (bG ?_);refine aw (bG ?_);refine aw (seqEpoch_at Ri rfl ?_);refine aw (listUpdate_at Ri rfl ?_ (fE _) (by rw[Array.size_map];show(pairsOf vs).size<=_;rw[pairsOf_size];lia));simp only[bne_self_eq_false,pf,if_false];refine bG (fin (SortSt.mk' general' (vs.toArray.zip vs.toArray) #[] 7 none) (Array.Perm.refl _) ?_);intro i j _ iN hj;have:i=j:=by lia
  subst this;exact sf _
 ·rw[if_neg h2,if_neg h2];refine aw (hk (by lia) _ ?_);refine aw (vk (wpS_sortRuns (Q:=λ_ av=>(bp av).Perm (pairsOf vs)/\qk av=none/\Up r (bp av) 0 vs.length) (C (by lia)) rfl (λp hp=>?_) rfl rfl λav a1 a2 a3=>⟨a1,a2,?_⟩) ?_ λ_ _ e=>e)
  ·have i5:p∈(pairsOf vs).toList:=hp;rw[pairsOf_toList] at i5;exact hP _ (mem_zip_self i5).2
  ·have e:(bp (SortSt.mk' κ (vs.toArray.zip vs.toArray) #[] 7 none)).size=vs.length:=pairsOf_size vs;rw[e] at a3;exact a3
  ·rintro⟨⟨⟩,av⟩ s' ⟨rfl,hp,hf,hs⟩;refine aw (seqEpoch_at Ri rfl ?_);refine aw (listUpdate_at Ri rfl ?_ (fE _) (by refine iP (LX ((Array.size_map ..).trans (hp.size_eq.trans (pairsOf_size _)))) ?_;lia));rw[hf];simp only[bne_self_eq_false,pf,if_false];exact bG (fin av hp hs)
def oN (h:df) (vs:List ae):df:=((h.push (pe "list" #[] 0)).update h.objs.size (Obj.mapSeq (· ++ vs.toArray))).push (pe "list" vs.toArray 0)
def jW(hb:h.get? b=some o):(di (oN h vs) (h.objs.size+1) vs).get? b=some o:=by
 have eS:b<h.objs.size:=eW hb;have e:(oN h vs).get? b=some o:=by unfold oN;rw[LS _ _ _ (by rw[GN,DF];exact gi (xk eS)),S9 _ _ _ _ (gi eS),LS _ _ _ (gi eS)];exact hb
 rw[fY (gi (xk eS)) (eW e)];exact e
def pH(hl:s.heap.IsList l vs.toArray)(fT:vs.length<=bX)(hP:∀ v∈vs,P v)(hk:2<=vs.length->∀ (A':e7) (E':ae->ax->Prop) (s':ax),(∀ b o,s.heap.get? b=some o->s'.heap.get? b=some o)->∀ (Q:pd->ax->Prop),Q κ s'->bq (aI prog w) A' (keyKind' vs.toArray) Q E' s')(C:2<=vs.length->∀ (s':ax),(∀ b o,s.heap.get? b=some o->s'.heap.get? b=some o)->mS prog w A.in1.in1 s' κ r P)(h:∀ (h':df) (out:List ae) (n:Nat),out.Perm vs->(out.Pairwise λx y=>r x<=r y)->(∀ b o,s.heap.get? b=some o->h'.get? b=some o)->h'.get? (s.heap.objs.size+1)=some (pe "list" out.toArray n)->Q (.ref (s.heap.objs.size+1)) { s with heap:=h' }) :
  bq (aI prog w) A (call (.builtin "sorted") [.ref l]) Q E s:=by
 refine Calls.call_function_entry kind_sorted plain_sorted entry_sorted (args_sorted1 _) ?_;refine aw (bG ?_);refine aw (collect_list hl ?_ fT);refine aw (wpAny_newList ?_ (by simpa using fT));have Z8:((s.heap.push (pe "list" #[] 0)).update s.heap.objs.size (Obj.mapSeq (· ++ vs.toArray))).objs.size=s.heap.objs.size+1:=by rw[GN,DF]
 have yy:(oN s.heap vs).get? (s.heap.objs.size+1)=some (pe "list" vs.toArray 0):=by rw[<- Z8];exact kP _ rfl
 rw[Z8];refine aw (tf (Bn slot_list_sort ⟨_,yy,rfl⟩ entry_list_sort (fc (r:=r) yy fT hP (λh2=>hk h2 _ _ _ λb o e=>jW e) (λh2=>?_) λout a1 a2=>⟨_,rfl,?_⟩) (args_list_sort _)))
 ·exact C h2 _ λb o e=>jW e
 ·obtain⟨n,e⟩:=sortedAll_at s.heap vs out;refine bG ⟨_,rfl,h (sortedAll s.heap vs out) out.toList n a1 a2 (λb o e=>sortedAll_old e) (by rw[Qg];exact e)⟩
end
end sC
section
open PySem PySem.Spec PyProof.Rows
namespace L2
def mw:Key->Key->Bool
 |.inl i,.inl j=>decide (i<j)
 |.inr x,.inr y=>sA x y
 |_,_=>false
def fv:List Key->List Key->Bool
 |a :: as,b :: bs=>if a=b then fv as bs else mw a b
 |_,_=>false
def om:Key->Bool
 |.inl _=>true
 |.inr _=>false
def gX(k:List Key):List Bool:=k.map om
def yG(x:Str):sA x x=false:=by unfold sA;simp[List.lt_irrefl]
def Bp(h:sA x y=true)(g:sA y z=true):sA x z=true:=by
 unfold sA at *
 simp only[decide_eq_true_eq] at *
 exact List.lt_trans h g
def yg{x y:Str}(h:x.cps.toList=y.cps.toList):x=y:=by cases x;cases y;simp only at h;rw[Qh.mp h]
def xr{x y:Str}(h:sA x y=false)(g:sA y x=false):x=y:=by
 unfold sA at *
 simp only[decide_eq_false_iff_not] at *
 apply yg;exact List.le_antisymm (List.not_lt.mp g) (List.not_lt.mp h)
def wK(a:Key):mw a a=false:=by cases a with|inl i=>simp[mw]|inr x=>exact yG x
def Ih(h:mw a b=true)(g:mw b c=true):mw a c=true:=by cases a<;>cases b<;>cases c<;>simp only[mw,decide_eq_true_eq] at *<;>first|lia|contradiction|exact Bp h g
def DN(e:om a=om b)(h:mw a b=false)(g:mw b a=false):a=b:=by
 cases a<;>cases b<;>simp only[mw,om,decide_eq_false_iff_not] at *
 ·congr 1;lia
 ·cases e
 ·cases e
 ·congr 1;exact xr h g
theorem jy:∀ a:List Key,fv a a=false
 |[]=>rfl
 |a :: as=>by unfold fv;rw[if_pos rfl];exact jy as
theorem lQ:∀ {a b c:List Key},fv a b=true->fv b c=true->fv a c=true
 |[],_,_,h,_=>by simp[fv] at h
 |_ :: _,[],_,h,_=>by simp[fv] at h
 |_ :: _,_ :: _,[],_,g=>by simp[fv] at g
 |a :: as,b :: bs,c :: cs,h,g=>by
  unfold fv at h g ⊢;by_cases e1:a=b
  ·subst e1;rw[if_pos rfl] at h;by_cases e2:a=c
   ·subst e2;rw[if_pos rfl] at g ⊢;exact lQ h g
   ·rw[if_neg e2] at g ⊢;exact g
  ·rw[if_neg e1] at h;by_cases e2:b=c
   ·subst e2;rw[if_neg e1];exact h
   ·rw[if_neg e2] at g;have t:=Ih h g;have ne:a≠c:=λe=>by subst e;rw[wK] at t;cases t
    rw[if_neg ne];exact t
theorem gU:∀ {a b:List Key},gX a=gX b->fv a b=false->fv b a=false->a=b
 |[],[],_,_,_=>rfl
 |[],_ :: _,e,_,_=>by simp[gX] at e
 |_ :: _,[],e,_,_=>by simp[gX] at e
 |a :: as,b :: bs,e,h,g=>by
  simp only[gX,gd,List.cons.injEq] at e;unfold fv at h g;by_cases e1:a=b
  ·subst e1;rw[if_pos rfl] at h g;rw[gU (e.2) h g]
  ·rw[if_neg e1] at h;rw[if_neg (Ne.symm e1)] at g;exact absurd (DN e.1 h g) e1
theorem count_le{α:Type}(p q:α->Bool):∀ (l:List α),(∀ x∈l,p x=true->q x=true)->l.countP p<=l.countP q
 |[],_=>cx _
 |x :: l,h=>by have ih:=count_le p q l λy hy=>h y (dr _ hy);cases hp:p x<;>cases hq:q x<;>simp_all<;>lia
theorem nu{α:Type}(p q:α->Bool)(a:α)(ha:p a=false)(hb:q a=true):∀ (l:List α),a∈l->(∀ x∈l,p x=true->q x=true)->l.countP p<l.countP q
 |[],m,_=>by cases m
 |x :: l,m,h=>by
  rw[List.countP_cons,List.countP_cons];rcases eB.mp m with rfl|m
  ·have:=count_le p q l λy hy=>h y (dr _ hy);rw[ha,hb];simp;lia
  ·have ih:=nu p q a ha hb l m λy hy=>h y (dr _ hy);cases hp:p x<;>cases hq:q x<;>simp_all<;>lia
def Cb(L:List (List Key))(k:List Key):Int:=(L.countP λj=>fv j k:Nat)
def j_(e:gX a=gX b)(ma:a∈L):decide (Cb L a<Cb L b)=fv a b:=by
 unfold Cb
 cases h:fv a b with
 |true =>have:=nu (λj=>fv j a) (λj=>fv j b) a (jy a) h L ma λx _ hx=>lQ hx h;exact decide_eq_true (by lia)
 |false =>
  apply decide_eq_false
  cases g:fv b a with
  |false=>rw[gU e h g];lia
  |true =>have:=count_le (λj=>fv j b) (λj=>fv j a) L λx _ hx=>lQ hx g;lia
def UT:V->Option Key
 |.int i=>some (.inl i)
 |.str x=>some (.inr x)
 |_=>none
def J0(k:Key):UT (kV k)=some k:=by cases k<;>rfl
theorem By:∀ k:List Key,(k.map kV).filterMap UT=k
 |[]=>rfl
 |a :: as=>by rw[gd,NP,J0,By as]
def kO(H:Hp):ae->List Key
 |.ref b=>match H b with
  |some (.tup xs)=>xs.filterMap UT
  |_=>[]
 |_=>[]
def bL(h:H b=some (.tup (k.map kV))):kO H (.ref b)=k:=by simp only[kO,h];exact By k
section
variable {prog:d5}{w:eC}{A:e7}{E:ae->ax->Prop}{s:ax}{Q:Bool->ax->Prop}
def Ig(ru:RelV (kV a) u)(rv:RelV (kV b) v)(e:om a=om b)(q:Q (mw a b) s):bq (aI prog w) A (oneLt' false u v) Q E s:=by
 refine PySem.W.kat_one u v ?_
 cases a with
 |inl i =>
  cases b with
  |inr x=>cases e
  |inl j =>obtain⟨t,rfl⟩:=ru;obtain⟨t',rfl⟩:=rv;exact lt_int q
 |inr x =>
  cases b with
  |inl j=>cases e
  |inr y =>obtain⟨t,rfl⟩:=ru;obtain⟨t',rfl⟩:=rv;exact PySem.P.lt_str q
def Gb(ru:RelV (kV a) u)(rv:RelV (kV b) v)(e:om a=om b)(q:Q (decide (a=b)) s):bq (aI prog w) A (eqBool u v) Q E s:=by
 cases a with
 |inl i =>
  cases b with
  |inr x=>cases e
  |inl j =>obtain⟨t,rfl⟩:=ru;obtain⟨t',rfl⟩:=rv;refine wpAny_eqBool_int ?_;rw[<- V5];exact q
 |inr x =>
  cases b with
  |inl j=>cases e
  |inr y =>obtain⟨t,rfl⟩:=ru;obtain⟨t',rfl⟩:=rv;refine wpAny_eqBool_str ?_;rw[<- V6];exact q
def zZ(k m:List Key)(us vs:List ae)(i:Nat)(ha:Vals (k.map kV) us)(hb:Vals (m.map kV) vs)(e:gX k=gX m)(hf:fin=false)(q:Q (fv k m) s) :
  PySem.W.KatLex prog w A true fin Q (us.zip vs) i s:=by
 induction k generalizing m us vs i with
 |nil =>
  cases m with
  |cons b m=>simp[gX] at e
  |nil =>rw[Paired.n0 ha,Paired.n0 hb];subst hf;exact PySem.W.kat_nil q
 |cons a k ih =>
  cases m with
  |nil=>simp[gX] at e
  |cons b m =>
   obtain⟨u,us,rfl,ra,rk⟩:=Paired.c ha;obtain⟨v,vs,rfl,rb,rm⟩:=Paired.c hb;simp only[gX,gd,List.cons.injEq] at e;refine PySem.W.kat_cons (Gb ra rb e.1 (PySem.W.kat_go (λh=>PySem.W.kat_yes ?_) (λh=>PySem.W.kat_no ?_)))
   ·have h:=of_decide_eq_true h;subst h;unfold fv at q;rw[if_pos rfl] at q;exact ih m _ _ (i+1) rk rm e.2 q
   ·have h:=of_decide_eq_false h;unfold fv at q;rw[if_neg h] at q;by_cases h0:i=0
    ·subst h0
     cases a with
     |inr x =>
      cases b with
      |inl j=>cases e.1
      |inr y =>obtain⟨t,rfl⟩:=ra;obtain⟨t',rfl⟩:=rb;exact oneLt_str q
     |inl i =>
      cases b with
      |inr x=>cases e.1
      |inl j =>obtain⟨t,rfl⟩:=ra;obtain⟨t',rfl⟩:=rb;exact oneLt_int q
    ·rw[show(true && i == 0)=false by simp[h0]];exact Ig ra rb e.1 q
end
section
variable {X:Cx}{pins:List (ah × Obj)}{σ:St}{H:Hp}{s:ax}
def Inv.tup(I:Inv X pins σ H s)(h:H b=some (.tup xs)):∃ its:List ae,Vals xs its/\IsTup s.heap b its.toArray:=(I.b9 b _ h).2
def ou(I:Inv X pins σ H s)(kp:∀ b o,s.heap.get? b=some o->s'.heap.get? b=some o) :
  sC.mS X.prog X.w A s' (tuples' true) (λv=>Cb L (kO H v)) (λv=>∃ b k,v=.ref b/\H b=some (.tup (k.map kV))/\gX k=b0 :: sh/\k∈L):=by
 rintro x y ⟨b,k,rfl,hb,hk,mk⟩ ⟨c,m,rfl,hc,hm,mm⟩ Q E q;obtain⟨us,ru,o,e1,c1,n1,d1⟩:=I.tup hb;obtain⟨vs,rv,o',e2,c2,n2,d2⟩:=I.tup hc;have UU:gX k=gX m:=hk.trans hm.symm;simp only[bL hb,bL hc] at q;rw[j_ UU mk] at q;refine PySem.W.kat_lt (kp _ _ e1) d1 (kp _ _ e2) d2 (zZ k m us vs 0 ru rv UU ?_ q)
 ·have h1:=ru.length;have h2:=rv.length;have h3:k.length=m.length:=by have:=congrArg List.length UU;simpa[gX] using this
  simp only[b6] at h1 h2;exact decide_eq_false (by simp only[iF];lia)
def kat_tups(I:Inv X pins σ H s){s':ax}(kp:∀ b o,s.heap.get? b=some o->s'.heap.get? b=some o){b0:Bool}{sh:List Bool}{ys:List V}{ks:List (List Key)}{vs:List ae}(ht:bR H ys ks)(hv:Vals ys vs)(hs:∀ k∈ks,gX k=b0 :: sh) :
  ∃ fs:List ae,PySem.W.KatTups s'.heap vs fs/\fs.length=vs.length/\∀ f∈fs,(b0=true->∃ i t,f=Value.int i t)/\(b0=false->∃ x t,f=Value.str x t):=by
 induction ys generalizing ks vs with
 |nil =>rw[Paired.n0 hv];exact⟨[],.nil,rfl,by simp⟩
 |cons y ys ih =>
  obtain⟨k,ks,rfl,⟨b,rfl,hb⟩,t⟩:=Paired.c ht;obtain⟨v,vs,rfl,rfl,rs⟩:=Paired.c hv;obtain⟨fs,f1,f2,f3⟩:=ih t rs λj hj=>hs j (dr _ hj);have hk:=hs k dk;obtain⟨us,ru,o,e1,c1,n1,d1⟩:=I.tup hb
  cases k with
  |nil=>simp[gX] at hk
  |cons a k =>
   obtain⟨u,us,rfl,ra,rr⟩:=Paired.c ru;simp only[gX,gd,List.cons.injEq] at hk;refine⟨u :: fs,.cons (kp _ _ e1) c1 d1 rfl f1,by simp[f2],λf hf=>?_⟩;rcases eB.mp hf with rfl|hf
   ·cases a with
    |inr x =>obtain⟨tk,rfl⟩:=ra;exact⟨(λz=>by rw[<- hk.1] at z;cases z),λ_=>⟨_,_,rfl⟩⟩
    |inl i =>obtain⟨tk,rfl⟩:=ra;exact⟨λ_=>⟨_,_,rfl⟩,λz=>by rw[<- hk.1] at z;cases z⟩
   ·exact f3 f hf
end
def sX(K:aE):List V->Hp->VK->Prop:=λxs H Q=>match xs with
 |[.ref p]=>∃ ys ks sh,fh K H p ys/\bR H ys ks/\(∀ k∈ks,gX k=true :: sh) /\
   ∀ zs ms l,bR H zs ms->ms.Perm ks->(ms.Pairwise λa b=>fv b a=false)->H l=none->Q (.ref l) (upd H l (.lst zs))
 |_=>False
def bR.keys(h:bR H ys ks)(hv:Vals ys vs):vs.map (kO H)=ks/\∀ v∈vs,∃ b k,v=.ref b/\H b=some (.tup (k.map kV))/\k∈ks:=by
 induction ys generalizing ks vs with
 |nil=>rw[Paired.n0 hv,show ks=[] from Paired.n0 h];exact⟨rfl,by simp⟩
 |cons y ys ih =>
  obtain⟨k,ks,rfl,⟨b,rfl,g⟩,t⟩:=Paired.c h;obtain⟨v,vs,rfl,rfl,rs⟩:=Paired.c hv;obtain⟨e,m⟩:=ih t rs;refine⟨by rw[gd,bL g,e],λv hv=>?_⟩;rcases eB.mp hv with rfl|hv
  ·exact⟨b,k,rfl,g,dk⟩
  ·obtain⟨b',k',e1,e2,e3⟩:=m v hv;exact⟨b',k',e1,e2,dr _ e3⟩
def bR.of{H:Hp}{ks:List (List Key)}(vs:List ae)(h:∀ v∈vs,∃ b k,v=Value.ref b/\H b=some (.tup (k.map kV))/\k∈ks):∃ zs,bR H zs (vs.map (kO H))/\Vals zs vs:=by
 induction vs with
 |nil=>exact⟨[],.nil,.nil⟩
 |cons v vs ih =>obtain⟨zs,a,c⟩:=ih λu hu=>h u (dr _ hu);obtain⟨b,k,rfl,e,_⟩:=h v dk;exact⟨.ref b :: zs,.cons ⟨b,rfl,by rw[bL e];exact e⟩ a,.cons rfl c⟩
section
variable {X:Cx}
def uC:i3 X (.builtin "sorted") (sX X.K):=by
 intro pins s σ H xs us Q I r h;unfold sX at h;split at h
 ·rename_i p;obtain⟨ys,ks,sh,hl,ht,hs,q⟩:=h;obtain⟨u,rfl,ru⟩:=Vals.one r;cases ru;obtain⟨vs,rv,pl,hz⟩:=I.list hl;obtain⟨ek,mem⟩:=ht.keys rv;have hlen:=rv.length;refine sC.pH (κ:=tuples' true) (P:=λv=>∃ b k,v=.ref b/\H b=some (.tup (k.map kV))/\gX k=true :: sh/\k∈ks) pl.isList (by lia) (λv hv=>?_) (λh2 A' E' s' kp Q' q'=>?_) (λh2 s' kp=>ou I kp) λh' out n pm pw kp eo=>?_
  ·obtain⟨b,k,e1,e2,e3⟩:=mem v hv;exact⟨b,k,e1,e2,hs k e3,e3⟩
  ·obtain⟨fs,f1,f2,f3⟩:=kat_tups I kp ht rv hs;refine LD (T:=.type "int") f1 (by lia) (λf hf=>?_) (by decide) q';obtain⟨i,t,rfl⟩:=(f3 f hf).1 rfl;exact .now
  ·obtain⟨zs,z1,z2⟩:=bR.of out λv hv=>mem v (pm.mem_iff.mp hv);have zl:=z2.length;have ol:=pm.length_eq;have M0:(out.map (kO H)).Perm ks:=by rw[<- ek];exact pm.map _
   refine⟨.ref (s.heap.objs.size+1),_,I.laid kp (EH _) (show iS X.prog X.w _ h' _ (.lst zs) from⟨by lia,out,n,z2,eo⟩),rfl,
    q zs _ _ z1 M0 ?_ (I.b9.fresh (EH _))⟩
   rw[iO];refine pw.imp_of_mem λ{x y} mx my hle=>?_;obtain⟨b,k,rfl,hb,kk⟩:=mem x (pm.mem_iff.mp mx);obtain⟨c,m,rfl,hc,km⟩:=mem y (pm.mem_iff.mp my);rw[bL hb,bL hc] at *
   have:=j_ ((hs m km).trans (hs k kk).symm) km;rw[<- this];exact decide_eq_false (by lia)
 ·exact h.elim
end
end L2
end
namespace sC
open PySem PyProof.Rows
section
variable {prog:d5}{w:eC}{A:e7}{E:ae->ax->Prop}{s:ax}{κ:pd}{r:ae->Int}{P:ae->Prop}
def qC{T:String}{r d:ah}{n:Nat}{P:Nat->ae->Prop}{OK:df->Prop}{R:Result->ax->Prop}(K:PySem.W.KdlSrc prog w T r d n P OK)(hh:A.handled=none)(b9:OK s.heap)(hn:n<=bX)(hR:∀ h' tk acc c,(∀ b o,s.heap.get? b=some o->h'.get? b=some o)->h'.get? s.heap.objs.size=some { cls:=.type "list",data:=.seq acc c }->ItemsOf P acc n->R (.ok (.ret (.ref s.heap.objs.size))) { s with heap:=h',toks:=tk }) :
  codeAny (aI prog w) A (.builtin "proto.collect" ⟨[.ref r],[]⟩) R s:=by
 have Z9:=K.there _ b9;have hS:(s.heap.push { cls:=.type "list",data:=.seq ([]:List ae).toArray }).get? s.heap.objs.size=some { cls:=.type "list",data:=.seq ([]:List ae).toArray }:=kP _ rfl;refine Bz F.entry_proto_collect ?_;refine aw (rV ?_);refine bG ⟨Ee F.plain_list_iadd _,Bz F.entry_list_iadd ?_⟩;exact PySem.W.kdl_extend K hh (K.keep _ _ b9 λb _ o e=>gu _ e) s.heap.objs.size (LW Z9.1) (LW Z9.2) _ 0 hS (λh' tk AV c' kp eo ia=>hR h' tk AV c' (λb o e=>kp b o (gi (eW e)) (gu _ e)) eo ia) hn
def jr{T:String}{r d:ah}{n:Nat}{P:Nat->ae->Prop}{OK:df->Prop}{Q:List ae->ax->Prop}(K:PySem.W.KdlSrc prog w T r d n P OK)(hh:A.handled=none)(b9:OK s.heap)(hn:n<=bX)(hQ:∀ h' tk acc,(∀ b o,s.heap.get? b=some o->h'.get? b=some o)->s.heap.objs.size<=h'.objs.size->ItemsOf P acc n->Q acc.toList { s with heap:=h',toks:=tk }):bq (aI prog w) A (collect (.ref r)) Q E s:=by
 exact aw (wpAny_runValue (qC K hh b9 hn λh' tk acc c kp eo ia=>aw (wpAny_load eo (bG (hQ h' tk acc kp (xl (eW eo)) ia)))))
def lX{R:List ae->Prop}(UW:∀ (A':e7) (E':ae->ax->Prop) (Q':List ae->ax->Prop),A'.handled=A.handled->(∀ vs h1 tk,R vs->(∀ b o,s.heap.get? b=some o->h1.get? b=some o)->s.heap.objs.size<=h1.objs.size->Q' vs { s with heap:=h1,toks:=tk })->bq (aI prog w) A' (collect v) Q' E' s) (fT:∀ vs,R vs->vs.length<=bX) (hP:∀ vs,R vs->∀ v∈vs,P v) (hk:∀ vs,R vs->2<=vs.length->∀ (A':e7) (E':ae->ax->Prop) (s':ax),(∀ b o,s.heap.get? b=some o->s'.heap.get? b=some o)->∀ (Q:pd->ax->Prop),Q κ s'->bq (aI prog w) A' (keyKind' vs.toArray) Q E' s') (C:∀ (s':ax),(∀ b o,s.heap.get? b=some o->s'.heap.get? b=some o)->mS prog w A.in1.in1 s' κ r P) (h:∀ (vs:List ae) (h':df) (a:ah) (out:List ae) (n tk:Nat),R vs->out.Perm vs->(out.Pairwise λx y=>r x<=r y)->(∀ b o,s.heap.get? b=some o->h'.get? b=some o)->s.heap.objs.size<=a->h'.get? a=some (pe "list" out.toArray n)->Q (.ref a) { s with heap:=h',toks:=tk }) :
  bq (aI prog w) A (call (.builtin "sorted") [v]) Q E s:=by
 refine Calls.call_function_entry kind_sorted plain_sorted entry_sorted (args_sorted1 _) ?_;refine aw (bG ?_);refine aw (UW _ _ _ rfl λvs h1 tk hR kp hz=>?_);have xD:=fT vs hR;refine aw (wpAny_newList ?_ (by simpa using xD));have yy:(h1.push (pe "list" vs.toArray 0)).get? h1.objs.size=some (pe "list" vs.toArray 0):=kP _ rfl;have old:∀ b o,s.heap.get? b=some o->(di (h1.push (pe "list" vs.toArray 0)) h1.objs.size vs).get? b=some o:=λb o e=>by have eS:b<h1.objs.size:=eW (kp b o e);rw[fY (gi eS) (by rw[DF];exact xk eS)];exact gu _ (kp b o e)
 refine aw (tf (Bn slot_list_sort ⟨_,yy,rfl⟩ entry_list_sort (fc yy xD (hP vs hR) (λh2=>hk vs hR h2 _ _ _ old) (λh2=>C _ old) λout a1 a2=>⟨_,rfl,?_⟩) (args_list_sort _)))
 obtain⟨n,e⟩:=sortedHeap_at yy;refine bG ⟨_,rfl,h vs _ h1.objs.size out.toList n tk hR a1 a2 (λb o e=>?_) hz (by rw[Qg];exact e)⟩;have eS:b<h1.objs.size:=eW (kp b o e);rw[sortedHeap_old (gi eS) (by rw[DF];exact xk eS)];exact gu _ (kp b o e)
end
end sC
section
open PySem PySem.Spec PyProof.Rows
namespace L2
def iJ:ae->List Key
 |.int i _=>[.inl i]
 |.str x _=>[.inr x]
 |_=>[]
def jY(h:RelV (kV k) v):iJ v=[k]:=by
 cases k with
 |inl i=>obtain⟨t,rfl⟩:=h;rfl
 |inr x=>obtain⟨t,rfl⟩:=h;rfl
def rW:fv [a] [b]=mw a b:=by
 unfold fv;by_cases e:a=b
 ·subst e;rw[if_pos rfl,wK];rfl
 ·rw[if_neg e]
def sZ{prog:d5}{w:eC}{A:e7}{s:ax}{b:Bool}{L:List Key} :
  sC.mS prog w A s oneType' (λv=>Cb (L.map λk=>[k]) (iJ v)) (λv=>∃ k,RelV (kV k) v/\om k=b/\k∈L):=by
 rintro x y ⟨k,rk,ik,mk⟩ ⟨m,rm,im,mm⟩ Q E q;simp only[jY rk,jY rm] at q;rw[j_ (by simp[gX,ik,im]) (b5.mpr ⟨k,mk,rfl⟩),rW] at q
 cases k with
 |inl i =>
  cases m with
  |inr y=>rw[<- im] at ik;cases ik
  |inl j =>obtain⟨t,rfl⟩:=rk;obtain⟨u,rfl⟩:=rm;exact oneLt_int q
 |inr x =>
  cases m with
  |inl y=>rw[<- im] at ik;cases ik
  |inr j =>obtain⟨t,rfl⟩:=rk;obtain⟨u,rfl⟩:=rm;exact oneLt_str q
def ints_of{ks:List Key}{vs:List ae}(r:Vals (ks.map kV) vs)(h:∀ k∈ks,om k=true):∃ ns,IntsAre vs ns:=by
 induction ks generalizing vs with
 |nil=>rw[Paired.n0 r];exact⟨[],.nil⟩
 |cons k ks ih =>
  obtain⟨v,vs,rfl,r,rs⟩:=Paired.c r;obtain⟨ns,q⟩:=ih rs λj hj=>h j (dr _ hj);have:=h k dk
  cases k with
  |inr x=>cases this
  |inl i=>obtain⟨t,rfl⟩:=r;exact⟨_,.cons i t q⟩
def Dd{ks:List Key}{vs:List ae}(r:Vals (ks.map kV) vs)(h:∀ k∈ks,om k=false):∃ ns,StrsAre vs ns:=by
 induction ks generalizing vs with
 |nil=>rw[Paired.n0 r];exact⟨[],.nil⟩
 |cons k ks ih =>
  obtain⟨v,vs,rfl,r,rs⟩:=Paired.c r;obtain⟨ns,q⟩:=ih rs λj hj=>h j (dr _ hj);have:=h k dk
  cases k with
  |inl x=>cases this
  |inr i=>obtain⟨t,rfl⟩:=r;exact⟨_,.cons i t q⟩
def pD{prog:d5}{w:eC}{A:e7}{E:ae->ax->Prop}{s:ax}{b:Bool}{ks:List Key}{vs:List ae}(r:Vals (ks.map kV) vs)(h:∀ k∈ks,om k=b)(h2:2<=vs.length){Q:pd->ax->Prop}(q:Q oneType' s) :
  bq (aI prog w) A (keyKind' vs.toArray) Q E s:=by
 match vs,h2 with
 |v1 :: v2 :: vs,_ =>
  cases b with
  |true=>obtain⟨ns,hI⟩:=ints_of r h;rw[keyKind_ints hI];exact bG q
  |false=>obtain⟨ns,hI⟩:=Dd r h;rw[keyKind_strs hI];exact bG q
def mem_keys{ks:List Key}{vs:List ae}(r:Vals (ks.map kV) vs)(v:ae)(h:v∈vs):∃ k,RelV (kV k) v/\k∈ks:=by
 induction ks generalizing vs with
 |nil=>rw[Paired.n0 r] at h;cases h
 |cons k ks ih =>
  obtain⟨u,vs,rfl,r,rs⟩:=Paired.c r;rcases eB.mp h with rfl|h
  ·exact⟨k,r,dk⟩
  ·obtain⟨j,a,b⟩:=ih rs h;exact⟨j,a,dr _ b⟩
def keys_map{ks:List Key}{vs:List ae}(r:Vals (ks.map kV) vs):vs.map iJ=ks.map λk=>[k]:=by
 induction ks generalizing vs with
 |nil=>rw[Paired.n0 r];rfl
 |cons k ks ih =>obtain⟨u,vs,rfl,r,rs⟩:=Paired.c r;rw[gd,gd,jY r,ih rs]
def jU{ks:List Key}(vs:List ae)(h:∀ v∈vs,∃ k,RelV (kV k) v/\k∈ks):∃ ms:List Key,Vals (ms.map kV) vs:=by
 induction vs with
 |nil=>exact⟨[],.nil⟩
 |cons v vs ih =>obtain⟨ms,r⟩:=ih λu hu=>h u (dr _ hu);obtain⟨k,rk,_⟩:=h v dk;exact⟨k :: ms,.cons rk r⟩
def pJ:∀ {ms ks:List Key},(ms.map λk=>[k]).Perm (ks.map λk=>[k])->ms.Perm ks:=λ{ms ks} h=>by have:=h.map (λl:List Key=>l.head?);simp only[fe] at this;have e:∀ l:List Key,l.map ((λl:List Key=>l.head?) ∘ λk=>[k])=l.map some:=λl=>CY λ_ _=>rfl;rw[e,e] at this;have:=this.filterMap id;simpa using this
section
variable {X:Cx}
def sH(K:aE):List V->Hp->VK->Prop:=λxs H Q=>match xs with
 |[.ref p]=>∃ ks b,(fh K H p (ks.map kV)\/∃ kvs,Rd H p (.dK kvs)/\ks=kvs.map (·.1))/\(∀ k∈ks,om k=b) /\
   ∀ (ms:List Key) (l:ah),ms.Perm ks->(ms.Pairwise λa b=>mw b a=false)->H l=none->Q (.ref l) (upd H l (.lst (ms.map kV)))
 |_=>False
def uK (hc:X.calm=true):i3 X (.builtin "sorted") (sH X.K):=by
 intro pins s σ H xs us Q I r h;unfold sH at h;split at h
 ·rename_i p;obtain⟨ks,b,hl,hb,q⟩:=h;obtain⟨u,rfl,ru⟩:=Vals.one r;cases ru;have fT:ks.length<=bX:=by
   rcases hl with hl|⟨kvs,e,rfl⟩
   ·obtain⟨vs,rv,pl,hz⟩:=I.list hl;simpa using hz
   ·obtain⟨z,_⟩:=(I.rd e)
    simpa using z
  refine sC.lX (κ:=oneType') (P:=λv=>∃ k,RelV (kV k) v/\om k=b/\k∈ks) (λA' E' Q' hA hQ=>?_) (λvs rv=>?_) (λvs rv v hv=>?_) (λvs rv h2 A' E' s' kp Q' q'=>pD rv hb h2 q') (λs' kp=>sZ) λvs h' a out n tk rv pm pw kp ha eo=>?_
  ·rcases hl with hl|⟨kvs,e,rfl⟩
   ·obtain⟨vs,rv,pl,hz⟩:=I.list hl;refine collect_list pl.isList (hQ vs _ s.toks rv (λb o e=>?_) ?_) (by have:=rv.length;lia)
    ·rw[S9 _ _ _ _ (gi (eW e))];exact gu _ e
    ·rw[GN,DF];exact EH _
   ·obtain⟨z,y,vs,rel,dd⟩:=(I.rd e)
    obtain⟨ep,da⟩:=dd.dictAt;have hlen:vs.length=kvs.length:=rel.length.symm;refine sC.jr (PySem.W.kdl_dict y) (hA.trans (I.ok.hd hc)) da (by lia) λh' tk acc kp hz y8=>hQ _ h' tk ?_ kp hz;have go:∀ {l1:List (Key × V)} {l2:List (Key × ae)} ac,KV l1 l2->ac.length=l2.length->(∀ (i:Nat) v,ac[i]? = some v->∃ k x,l2[i]? = some (k,x)/\EJ k v=true)->Vals ((l1.map (·.1)).map kV) ac:=by
     intro l1 l2 ac rl
     induction rl generalizing ac with
     |nil=>intro hl _;cases ac with
      |nil=>exact .nil
      |cons _ _=>cases hl
     |@cons p1 q1 l1 l2 r1 rs ih =>
      intro hl hi
      cases ac with
      |nil=>cases hl
      |cons v ac =>obtain⟨k,x,e1,e2⟩:=hi 0 v rfl;simp only[SG,Option.some.injEq] at e1;subst e1;refine .cons ?_ (ih ac (by simpa using hl) λi v h=>hi (i+1) v (by simpa using h));have r11:p1.1=k:=r1.1;show RelV (kV p1.1) v;rw[r11];rcases AB e2 with⟨i,t,rfl,rfl⟩|⟨x,t,rfl,rfl⟩<;>exact⟨t,rfl⟩
    exact go acc.toList rel (by rw[BH];exact y8.1) λi v h=>y8.2 i v (by simpa using h)
  ·have:=rv.length;rw[b6] at this;lia
  ·obtain⟨k,rk,mk⟩:=mem_keys rv v hv;exact⟨k,rk,hb k mk,mk⟩
  ·obtain⟨ms,rm⟩:=jU out λv hv=>mem_keys rv v (pm.mem_iff.mp hv);have pk:ms.Perm ks:=pJ (by rw[<- keys_map rm,<- keys_map rv];exact pm.map _);refine⟨.ref a,_,I.laid kp ha (show iS X.prog X.w _ h' _ (.lst (ms.map kV)) from⟨by rw[b6,pk.length_eq];exact fT,out,n,rm,eo⟩),rfl,q ms _ pk ?_ (I.b9.fresh ha)⟩;have OJ:(out.map iJ).Pairwise λx y=>Cb (ks.map λk=>[k]) x<=Cb (ks.map λk=>[k]) y:=iO.mpr pw;rw[keys_map rm,iO] at OJ;refine OJ.imp_of_mem λ{x y} mx my hle=>?_;have mx:=pk.mem_iff.mp mx;have my:=pk.mem_iff.mp my;rw[<- rW,<- j_ (L:=ks.map λk=>[k]) (by simp[gX,hb x mx,hb y my]) (b5.mpr ⟨y,my,rfl⟩)];exact decide_eq_false (by lia)
 ·exact h.elim
end
end L2
namespace L2.Q
set_option genInjectivity true
inductive D where
 |non|bl (b:Bool)|int (i:Int)|str (x:Str)
 |list (xs:List D)|tup (xs:List D)|dK (kvs:List (Key × D))|dT (kvs:List (List Key × D))
mutual
def D.flat:D->Bool
 |.list _=>false
 |.dK _=>false
 |.dT _=>false
 |.tup xs=>eK xs
 |_=>true
def eK:List D->Bool
 |[]=>true
 |x :: xs=>x.flat && eK xs
end
theorem jQ:∀ {xs:List D},eK xs=true↔∀ x∈xs,x.flat=true
 |[]=>by simp[eK]
 |x :: xs=>by simp[eK,jQ]
def eO:eK (xs++ys)=(eK xs && eK ys):=by
 induction xs with
 |nil=>simp[eK]
 |cons x xs ih=>simp[eK,ih,Bool.and_assoc]
def AW:Key->Bool
 |.inl _=>true
 |.inr x=>decide (x.length<=bX)
def Rj(kvs:List (Key × D)):Prop:=kvs.length<=bX/\∀ p∈kvs,AW p.1=true
def Rk(kvs:List (List Key × D)):Prop:=kvs.length<=bX/\∀ p∈kvs,p.1.length<=bX/\∀ k∈p.1,AW k=true
mutual
inductive Rep(K:aE)(H:Hp):D->V->Prop
 |non:Rep K H .non .non
 |bl (b:Bool):Rep K H (.bl b) (.bl b)
 |int (i:Int):Rep K H (.int i) (.int i)
 |str {x:Str}:x.length<=bX->Rep K H (.str x) (.str x)
 |list {a:ah} {vs:List V} {ds:List D}:vs.length<=bX->fh K H a vs->bT K H ds vs->Rep K H (.list ds) (.ref a)
 |tup {a:ah} {vs:List V} {ds:List D}:vs.length<=bX->H a=some (.tup vs)->bT K H ds vs->Rep K H (.tup ds) (.ref a)
 |dK {a:ah} {vs:List V} {kvs:List (Key × D)}:Rj kvs->Rd H a (.dK ((kvs.map (·.1)).zip vs))->bT K H (kvs.map (·.2)) vs->Rep K H (.dK kvs) (.ref a)
 |dT {a:ah} {vs:List V} {kvs:List (List Key × D)}:Rk kvs->Rd H a (.dT ((kvs.map (·.1)).zip vs))->bT K H (kvs.map (·.2)) vs->Rep K H (.dT kvs) (.ref a)
inductive bT(K:aE)(H:Hp):List D->List V->Prop
 |nil:bT K H [] []
 |cons {d:D} {v:V} {ds:List D} {vs:List V}:Rep K H d v->bT K H ds vs->bT K H (d :: ds) (v :: vs)
end
def Rep.ind{K:aE}{H:Hp}{m1:D->V->Prop}{m2:List D->List V->Prop}(h0:m1 .non .non)(hb:∀ b,m1 (.bl b) (.bl b))(hi:∀ i,m1 (.int i) (.int i))(hs:∀ x,x.length<=bX->m1 (.str x) (.str x))(hl:∀ a vs ds,vs.length<=bX->fh K H a vs->bT K H ds vs->m2 ds vs->m1 (.list ds) (.ref a)) (ht:∀ a vs ds,vs.length<=bX->H a=some (.tup vs)->bT K H ds vs->m2 ds vs->m1 (.tup ds) (.ref a))(hk:∀ a vs kvs,Rj kvs->Rd H a (.dK ((kvs.map (·.1)).zip vs))->bT K H (kvs.map (·.2)) vs->m2 (kvs.map (·.2)) vs->m1 (.dK kvs) (.ref a)) (hT:∀ a vs kvs,Rk kvs->Rd H a (.dT ((kvs.map (·.1)).zip vs))->bT K H (kvs.map (·.2)) vs->m2 (kvs.map (·.2)) vs->m1 (.dT kvs) (.ref a))(hn:m2 [] []) (hc:∀ d v ds vs,Rep K H d v->bT K H ds vs->m1 d v->m2 ds vs->m2 (d :: ds) (v :: vs)):(∀ {d v},Rep K H d v->m1 d v)/\∀ {ds vs},bT K H ds vs->m2 ds vs :=
 ⟨λr=>Rep.rec h0 hb hi (λh=>hs _ h) (λz s r ih=>hl _ _ _ z s r ih) (λz s r ih=>ht _ _ _ z s r ih) (λz s r ih=>hk _ _ _ z s r ih) (λz s r ih=>hT _ _ _ z s r ih) hn (λr s a b=>hc _ _ _ _ r s a b) r,
  λr=>bT.rec h0 hb hi (λh=>hs _ h) (λz s r ih=>hl _ _ _ z s r ih) (λz s r ih=>ht _ _ _ z s r ih) (λz s r ih=>hk _ _ _ z s r ih) (λz s r ih=>hT _ _ _ z s r ih) hn (λr s a b=>hc _ _ _ _ r s a b) r⟩
def lh.k'(e:Rd H a (.dK kvs)):lh H a (kV k) (pS kvs k):=.inl ⟨kvs,k,e,rfl,rfl⟩
def lh.t'(e:Rd H a (.dT kvs))(eb:H b=some (.tup (k.map kV))):lh H a (.ref b) (pS kvs k):=.inr ⟨kvs,k,b,e,rfl,eb,rfl⟩
def bP.rd(s:bP H H')(h:Rd H a u):Rd H' a u:=h.imp (s _ _) λ⟨o,e⟩=>⟨o,s _ _ e⟩
def Rep.Hz{K:aE}(s:bP H H'):(∀ {d:D} {v:V},Rep K H d v->Rep K H' d v)/\∀ {ds:List D} {vs:List V},bT K H ds vs->bT K H' ds vs :=
 Rep.ind .non .bl .int (λ_ h=>.str h) (λ_ _ _ z h _ ih=>.list z (s.lst h) ih) (λ_ _ _ z h _ ih=>.tup z (s _ _ h) ih) (λ_ _ _ kk h _ ih=>.dK kk (bP.rd s h) ih) (λ_ _ _ kk h _ ih=>.dT kk (bP.rd s h) ih) .nil λ_ _ _ _ _ _ a b=>.cons a b
def Rep.same{K:aE}(s:bP H H')(r:Rep K H d v):Rep K H' d v:=(Rep.Hz s).1 r
def bT.same{K:aE}(s:bP H H')(r:bT K H ds vs):bT K H' ds vs:=(Rep.Hz s).2 r
def bT.ind{K:aE}{H:Hp}{m:List D->List V->Prop}(hn:m [] [])(hc:∀ d v ds vs,Rep K H d v->bT K H ds vs->m ds vs->m (d :: ds) (v :: vs)):∀ {ds vs},bT K H ds vs->m ds vs :=
 λr=>(Rep.ind (m1:=λ_ _=>True) trivial (λ_=>trivial) (λ_=>trivial) (λ_ _=>trivial) (λ_ _ _ _ _ _ _=>trivial) (λ_ _ _ _ _ _ _=>trivial) (λ_ _ _ _ _ _ _=>trivial) (λ_ _ _ _ _ _ _=>trivial) hn λd v ds vs r s _ b=>hc d v ds vs r s b).2 r
def bT.length{K:aE}(r:bT K H ds vs):ds.length=vs.length :=
 bT.ind (m:=λds vs=>ds.length=vs.length) rfl (λ_ _ _ _ _ _ ih=>by rw[oS,oS,ih]) r
def bT.append{K:aE}(r:bT K H ds vs)(t:bT K H es ws):bT K H (ds++es) (vs++ws) :=
 bT.ind (m:=λds vs=>bT K H (ds++es) (vs++ws)) t (λ_ _ _ _ h _ ih=>.cons h ih) r
def bT.get{K:aE}{H:Hp}{ds:List D}{vs:List V}{i:Nat}{d:D}(r:bT K H ds vs)(e:ds[i]? = some d):∃ v,vs[i]? = some v/\Rep K H d v :=
 bT.ind (m:=λds vs=>∀ i d,ds[i]? = some d->∃ v,vs[i]? = some v/\Rep K H d v) (λi d e=>by simp at e) (λ_ _ _ _ h _ ih i d e=>by
  cases i with
  |zero=>simp at e;subst e;exact⟨_,rfl,h⟩
  |succ i =>
   obtain⟨v,e1,r⟩:=ih i d (by simpa using e);exact⟨v,by simpa using e1,r⟩) r i d e
def bT.UX{K:aE}{H:Hp}{ds:List D}{vs:List V}{i:Nat}{v:V}(r:bT K H ds vs)(e:vs[i]? = some v):∃ d,ds[i]? = some d/\Rep K H d v :=
 bT.ind (m:=λds vs=>∀ i v,vs[i]? = some v->∃ d,ds[i]? = some d/\Rep K H d v) (λi d e=>by simp at e) (λ_ _ _ _ h _ ih i d e=>by
  cases i with
  |zero=>simp at e;subst e;exact⟨_,rfl,h⟩
  |succ i =>
   obtain⟨v,e1,r⟩:=ih i d (by simpa using e);exact⟨v,by simpa using e1,r⟩) r i v e
def bT.drop{K:aE}(n:Nat)(r:bT K H ds vs):bT K H (ds.drop n) (vs.drop n) :=
 bT.ind (m:=λds vs=>∀ n,bT K H (ds.drop n) (vs.drop n)) (λn=>by rw[List.drop_nil,List.drop_nil];exact .nil) (λ_ _ _ _ h hs ih n=>by
  cases n with
  |zero=>exact .cons h hs
  |succ n=>exact ih n) r n
def bT.n0{K:aE}(h:bT K H [] vs):vs=[]:=by cases h;rfl
def bT.c{K:aE}(h:bT K H (d :: ds) vs):∃ u us,vs=u :: us/\Rep K H d u/\bT K H ds us:=by
 cases h with
 |cons r rs=>exact⟨_,_,rfl,r,rs⟩
def bT.take{K:aE}(n:Nat)(r:bT K H ds vs):bT K H (ds.take n) (vs.take n) :=
 bT.ind (m:=λds vs=>∀ n,bT K H (ds.take n) (vs.take n)) (λn=>by rw[List.take_nil,List.take_nil];exact .nil) (λ_ _ _ _ h hs ih n=>by
  cases n with
  |zero=>exact .nil
  |succ n=>exact .cons h (ih n)) r n
mutual
inductive cv(K:aE)(Hs H:Hp)(fl:Bool):D->V->List ah->Prop
 |sh {d:D} {v:V}:(fl=true->d.flat=true)->Rep K Hs d v->cv K Hs H fl d v []
 |list {a:ah} {vs:List V} {ds:List D} {As:List ah}:vs.length<=bX->H a=some (.lst vs)->aG K Hs H fl ds vs As->cv K Hs H fl (.list ds) (.ref a) (a :: As)
 |tup {a:ah} {vs:List V} {ds:List D} {As:List ah}:vs.length<=bX->Hs a=some (.tup vs)->eK ds=false->aG K Hs H fl ds vs As->cv K Hs H fl (.tup ds) (.ref a) As
 |dK {a:ah} {vs:List V} {kvs:List (Key × D)} {As:List ah}:Rj kvs->H a=some (.dK ((kvs.map (·.1)).zip vs))->aG K Hs H fl (kvs.map (·.2)) vs As->cv K Hs H fl (.dK kvs) (.ref a) (a :: As)
 |dT {a:ah} {vs:List V} {kvs:List (List Key × D)} {As:List ah}:Rk kvs->H a=some (.dT ((kvs.map (·.1)).zip vs))->aG K Hs H fl (kvs.map (·.2)) vs As->cv K Hs H fl (.dT kvs) (.ref a) (a :: As)
inductive aG(K:aE)(Hs H:Hp)(fl:Bool):List D->List V->List ah->Prop
 |nil:aG K Hs H fl [] [] []
 |cons {d:D} {v:V} {ds:List D} {vs:List V} {As Bs:List ah}:cv K Hs H fl d v As->aG K Hs H fl ds vs Bs->aG K Hs H fl (d :: ds) (v :: vs) (As++Bs)
end
def Own(H:Hp)(a:ah):Prop:=∃ o,H a=some o/\∀ vs,o≠.tup vs
section
variable {K:aE}{Hs aC H H':Hp}{fl:Bool}
def Own.ne(h:Own H a):H a≠none:=by obtain⟨_,e,_⟩:=h;rw[e];exact λz=>nomatch z
def Own.Bl(h:Own H a):H a≠some (.tup vs):=by obtain⟨_,e,n⟩:=h;rw[e];exact λz=>n vs (Option.some.inj z)
def cv.ind{m1:D->V->List ah->Prop}{m2:List D->List V->List ah->Prop}(hs:∀ d v,(fl=true->d.flat=true)->Rep K Hs d v->m1 d v [])(hl:∀ a vs ds As,vs.length<=bX->H a=some (.lst vs)->aG K Hs H fl ds vs As->m2 ds vs As->m1 (.list ds) (.ref a) (a :: As)) (ht:∀ a vs ds As,vs.length<=bX->Hs a=some (.tup vs)->eK ds=false->aG K Hs H fl ds vs As->m2 ds vs As->m1 (.tup ds) (.ref a) As)(hk:∀ a vs kvs As,Rj kvs->H a=some (.dK ((kvs.map (·.1)).zip vs))->aG K Hs H fl (kvs.map (·.2)) vs As->m2 (kvs.map (·.2)) vs As->m1 (.dK kvs) (.ref a) (a :: As)) (hT:∀ a vs kvs As,Rk kvs->H a=some (.dT ((kvs.map (·.1)).zip vs))->aG K Hs H fl (kvs.map (·.2)) vs As->m2 (kvs.map (·.2)) vs As->m1 (.dT kvs) (.ref a) (a :: As))(hn:m2 [] [] []) (hc:∀ d v ds vs As Bs,cv K Hs H fl d v As->aG K Hs H fl ds vs Bs->m1 d v As->m2 ds vs Bs->m2 (d :: ds) (v :: vs) (As++Bs)):(∀ {d v As},cv K Hs H fl d v As->m1 d v As)/\∀ {ds vs As},aG K Hs H fl ds vs As->m2 ds vs As :=
 ⟨λr=>cv.rec (λf r=>hs _ _ f r) (λz s r ih=>hl _ _ _ _ z s r ih) (λz s n r ih=>ht _ _ _ _ z s n r ih) (λz s r ih=>hk _ _ _ _ z s r ih) (λz s r ih=>hT _ _ _ _ z s r ih) hn (λr s a b=>hc _ _ _ _ _ _ r s a b) r,
  λr=>aG.rec (λf r=>hs _ _ f r) (λz s r ih=>hl _ _ _ _ z s r ih) (λz s n r ih=>ht _ _ _ _ z s n r ih) (λz s r ih=>hk _ _ _ _ z s r ih) (λz s r ih=>hT _ _ _ _ z s r ih) hn (λr s a b=>hc _ _ _ _ _ _ r s a b) r⟩
def wa{a:ah}{p:Prop}(h:a∈([]:List ah)):p:=absurd h NQ
def cv.Z_:(∀ {d:D} {v:V} {As:List ah},cv K Hs H fl d v As->∀ a∈As,Own H a)/\∀ {ds:List D} {vs:List V} {As:List ah},aG K Hs H fl ds vs As->∀ a∈As,Own H a :=
 cv.ind (λ_ _ _ _ a h=>wa h) (λ_ _ _ _ _ e _ ih a h=>(eB.mp h).elim (λz=>z ▸ ⟨_,e,λ_ z=>nomatch z⟩) (ih a)) (λ_ _ _ _ _ _ _ _ ih=>ih) (λ_ _ _ _ _ e _ ih a h=>(eB.mp h).elim (λz=>z ▸ ⟨_,e,λ_ z=>nomatch z⟩) (ih a)) (λ_ _ _ _ _ e _ ih a h=>(eB.mp h).elim (λz=>z ▸ ⟨_,e,λ_ z=>nomatch z⟩) (ih a)) (λa h=>wa h) λ_ _ _ _ _ _ _ _ i1 i2 a h=>(eR.mp h).elim (i1 a) (i2 a)
def cv.own(r:cv K Hs H fl d v As):∀ a∈As,Own H a:=cv.Z_.1 r
def aG.own(r:aG K Hs H fl ds vs As):∀ a∈As,Own H a:=cv.Z_.2 r
def cv.Hb(s:bP Hs aC):(∀ {d:D} {v:V} {As:List ah},cv K Hs H fl d v As->(∀ a∈As,H' a=H a)->cv K aC H' fl d v As)/\∀ {ds:List D} {vs:List V} {As:List ah},aG K Hs H fl ds vs As->(∀ a∈As,H' a=H a)->aG K aC H' fl ds vs As :=
 cv.ind (λ_ _ f r _=>.sh f (r.same s)) (λ_ _ _ _ z e _ ih k=>.list z ((k _ dk).trans e) (ih λa h=>k a (dr _ h))) (λ_ _ _ _ z e n _ ih k=>.tup z (s _ _ e) n (ih k)) (λ_ _ _ _ z e _ ih k=>.dK z ((k _ dk).trans e) (ih λa h=>k a (dr _ h))) (λ_ _ _ _ z e _ ih k=>.dT z ((k _ dk).trans e) (ih λa h=>k a (dr _ h))) (λ_=>.nil) λ_ _ _ _ _ _ _ _ i1 i2 k=>.cons (i1 λa h=>k a (kc _ h)) (i2 λa h=>k a (fS _ h))
def cv.fz(s:bP Hs aC)(r:cv K Hs H fl d v As)(k:∀ a∈As,H' a=H a):cv K aC H' fl d v As:=(cv.Hb s).1 r k
def aG.fz(s:bP Hs aC)(r:aG K Hs H fl ds vs As)(k:∀ a∈As,H' a=H a):aG K aC H' fl ds vs As:=(cv.Hb s).2 r k
def cv.grow(s:bP Hs aC)(t:bP H H')(r:cv K Hs H fl d v As):cv K aC H' fl d v As :=
 r.fz s λa h=>by
  cases e:H a with
  |none=>exact absurd e (r.own a h).ne
  |some o=>exact t a o e
def aG.grow(s:bP Hs aC)(t:bP H H')(r:aG K Hs H fl ds vs As):aG K aC H' fl ds vs As :=
 r.fz s λa h=>by
  cases e:H a with
  |none=>exact absurd e (r.own a h).ne
  |some o=>exact t a o e
def cv.rep2{G:Hp}(s:bP Hs G):(∀ {d:D} {v:V} {As:List ah},cv K Hs H fl d v As->(∀ a∈As,G a=H a)->Rep K G d v)/\∀ {ds:List D} {vs:List V} {As:List ah},aG K Hs H fl ds vs As->(∀ a∈As,G a=H a)->bT K G ds vs :=
 cv.ind (λ_ _ _ r _=>r.same s) (λ_ _ _ _ z e _ ih k=>.list z (.inl (.inl ((k _ dk).trans e))) (ih λa h=>k a (dr _ h))) (λ_ _ _ _ z e n _ ih k=>.tup z (s _ _ e) (ih k)) (λ_ _ _ _ z e _ ih k=>.dK z (.inl ((k _ dk).trans e)) (ih λa h=>k a (dr _ h))) (λ_ _ _ _ z e _ ih k=>.dT z (.inl ((k _ dk).trans e)) (ih λa h=>k a (dr _ h))) (λ_=>.nil) λ_ _ _ _ _ _ _ _ i1 i2 k=>.cons (i1 λa h=>k a (kc _ h)) (i2 λa h=>k a (fS _ h))
def cv.rep(s:bP Hs G)(r:cv K Hs H fl d v As)(k:∀ a∈As,G a=H a):Rep K G d v:=(cv.rep2 s).1 r k
def aG.reps(s:bP Hs G)(r:aG K Hs H fl ds vs As)(k:∀ a∈As,G a=H a):bT K G ds vs:=(cv.rep2 s).2 r k
def Rep.vq(t:∀ a vs,H a=some (.tup vs)->G a=some (.tup vs)):(∀ {d:D} {v:V},Rep K H d v->d.flat=true->Rep K G d v)/\∀ {ds:List D} {vs:List V},bT K H ds vs->eK ds=true->bT K G ds vs :=
 Rep.ind (λ_=>.non) (λb _=>.bl b) (λi _=>.int i) (λ_ h _=>.str h) (λ_ _ _ _ _ _ _ f=>by simp[D.flat] at f) (λ_ _ _ z e _ ih f=>.tup z (t _ _ e) (ih (by simpa[D.flat] using f))) (λ_ _ _ _ _ _ _ f=>by simp[D.flat] at f) (λ_ _ _ _ _ _ _ f=>by simp[D.flat] at f) (λ_=>.nil) λ_ _ _ _ _ _ i1 i2 f=>by simp only[eK,lT] at f;exact .cons (i1 f.1) (i2 f.2)
def Rep.fL(t:∀ a vs,H a=some (.tup vs)->G a=some (.tup vs))(r:Rep K H d v)(f:d.flat=true):Rep K G d v:=(Rep.vq t).1 r f
def bT.fL(t:∀ a vs,H a=some (.tup vs)->G a=some (.tup vs))(r:bT K H ds vs)(f:eK ds=true):bT K G ds vs:=(Rep.vq t).2 r f
def bT.owned(r:bT K Hs ds vs)(f:eK ds=true):aG K Hs H fl ds vs [] :=
 bT.ind (m:=λds vs=>eK ds=true->aG K Hs H fl ds vs []) (λ_=>.nil) (λ_ _ _ _ h _ ih f=>by
  simp only[eK,lT] at f;exact .cons (.sh (λ_=>f.1) h) (ih f.2)) r f
def bT.Gu(r:bT K Hs ds vs):aG K Hs H false ds vs [] :=
 bT.ind (m:=λds vs=>aG K Hs H false ds vs []) .nil (λ_ _ _ _ h _ ih=>.cons (.sh (λz=>Bool.noConfusion z) h) ih) r
def cv.aa':(∀ {d:D} {v:V} {As:List ah},cv K Hs H fl d v As->cv K Hs H false d v As)/\∀ {ds:List D} {vs:List V} {As:List ah},aG K Hs H fl ds vs As->aG K Hs H false ds vs As :=
 cv.ind (λ_ _ _ r=>.sh (λz=>Bool.noConfusion z) r) (λ_ _ _ _ z e _ ih=>.list z e ih) (λ_ _ _ _ z e n _ ih=>.tup z e n ih) (λ_ _ _ _ z e _ ih=>.dK z e ih) (λ_ _ _ _ z e _ ih=>.dT z e ih) .nil λ_ _ _ _ _ _ _ _ a b=>.cons a b
def cv.Rl(r:cv K Hs H fl d v As):cv K Hs H false d v As:=cv.aa'.1 r
def aG.Rl(r:aG K Hs H fl ds vs As):aG K Hs H false ds vs As:=cv.aa'.2 r
def cv.Fj(t:∀ a vs,Hs a=some (.tup vs)->G a=some (.tup vs)):(∀ {d:D} {v:V} {As:List ah},cv K Hs H true d v As->cv K G H true d v As)/\∀ {ds:List D} {vs:List V} {As:List ah},aG K Hs H true ds vs As->aG K G H true ds vs As :=
 cv.ind (λ_ _ f r=>.sh f (r.fL t (f rfl))) (λ_ _ _ _ z e _ ih=>.list z e ih) (λ_ _ _ _ z e n _ ih=>.tup z (t _ _ e) n ih) (λ_ _ _ _ z e _ ih=>.dK z e ih) (λ_ _ _ _ z e _ ih=>.dT z e ih) .nil λ_ _ _ _ _ _ _ _ a b=>.cons a b
def cv.leaves(t:∀ a vs,Hs a=some (.tup vs)->G a=some (.tup vs))(r:cv K Hs H true d v As):cv K G H true d v As:=(cv.Fj t).1 r
def aG.ind{m:List D->List V->List ah->Prop}(hn:m [] [] [])(hc:∀ d v ds vs As Bs,cv K Hs H fl d v As->aG K Hs H fl ds vs Bs->m ds vs Bs->m (d :: ds) (v :: vs) (As++Bs)):∀ {ds vs As},aG K Hs H fl ds vs As->m ds vs As :=
 λr=>(cv.ind (m1:=λ_ _ _=>True) (λ_ _ _ _=>trivial) (λ_ _ _ _ _ _ _ _=>trivial) (λ_ _ _ _ _ _ _ _ _=>trivial) (λ_ _ _ _ _ _ _ _=>trivial) (λ_ _ _ _ _ _ _ _=>trivial) hn λd v ds vs As Bs r s _ b=>hc d v ds vs As Bs r s b).2 r
def aG.append(r:aG K Hs H fl ds vs As)(t:aG K Hs H fl es ws Bs):aG K Hs H fl (ds++es) (vs++ws) (As++Bs) :=
 aG.ind (m:=λds vs As=>aG K Hs H fl (ds++es) (vs++ws) (As++Bs)) t (λ_ _ _ _ _ _ h _ ih=>by
  rw[Ap];exact .cons h ih) r
def aG.n0(h:aG K Hs H fl [] vs As):vs=[]/\As=[]:=by cases h;exact⟨rfl,rfl⟩
def aG.c(h:aG K Hs H fl (d :: ds) vs As):∃ u us A B,vs=u :: us/\As=A++B/\cv K Hs H fl d u A/\aG K Hs H fl ds us B:=by
 cases h with
 |cons r rs=>exact⟨_,_,_,_,rfl,rfl,r,rs⟩
def aG.length(r:aG K Hs H fl ds vs As):ds.length=vs.length :=
 aG.ind (m:=λds vs _=>ds.length=vs.length) rfl (λ_ _ _ _ _ _ _ _ ih=>by rw[oS,oS,ih]) r
end
def gf':HO->Prop
 |.dK _=>False
 |.dT _=>False
 |.pz _ _=>False
 |_=>True
def ab'(H H':Hp):Prop:=∀ a o,gf' o->H a=some o->H' a=some o
structure ObP where
 is:Hp->Hp->ah->List ah->Prop
 fz:∀ {Hs aC H H':Hp} {a:ah} {As:List ah},ab' Hs aC->(∀ b∈As,H' b=H b)->is Hs H a As->is aC H' a As
 own:∀ {Hs H:Hp} {a:ah} {As:List ah},is Hs H a As->∀ b∈As,Own H b
def qR(s:bP H H'):ab' H H':=λa o _ e=>s a o e
inductive Sl where
 |sh (d:D)|ow (fl:Bool) (d:D)|lk (a:ah) (fl:Bool) (d:D)
 |xc (a:ah)
 |ob (a:ah) (p:ObP)
abbrev Env:=List (Option Sl)
inductive SR(K:aE)(Hs H:Hp):Env->St->List ah->Prop
 |nil:SR K Hs H [] [] []
 |non {ρ:Env} {σ:St} {ai:List ah} {o:Option V}:SR K Hs H ρ σ ai->SR K Hs H (none :: ρ) (o :: σ) ai
 |sh {ρ:Env} {σ:St} {ai:List ah} {d:D} {v:V}:Rep K Hs d v->SR K Hs H ρ σ ai->SR K Hs H (some (.sh d) :: ρ) (some v :: σ) ai
 |xc {ρ:Env} {σ:St} {ai:List ah} {a:ah}:SR K Hs H ρ σ ai->SR K Hs H (some (.xc a) :: ρ) (some (.ref a) :: σ) ai
 |ow {ρ:Env} {σ:St} {ai As:List ah} {fl:Bool} {d:D} {v:V}:As≠[]->cv K Hs H fl d v As->SR K Hs H ρ σ ai->SR K Hs H (some (.ow fl d) :: ρ) (some v :: σ) (As++ai)
 |lk {ρ:Env} {σ:St} {ai As:List ah} {a:ah} {fl:Bool} {d:D}:As≠[]->cv K Hs H fl d (.ref a) As->SR K Hs H ρ σ ai->SR K Hs H (some (.lk a fl d) :: ρ) (some (.ref a) :: σ) (As++ai)
 |ob {ρ:Env} {σ:St} {ai As:List ah} {a:ah} {p:ObP}:p.is Hs H a As->SR K Hs H ρ σ ai->SR K Hs H (some (.ob a p) :: ρ) (some (.ref a) :: σ) (As++ai)
structure Wf(Hs H:Hp):Prop where
 sub:bP Hs H
 kC:∀ a vs,H a=some (.tup vs)->Hs a=some (.tup vs)
structure fo(K:aE)(Hs:Hp)(ρ:Env)(σ:St)(H:Hp)(ai:List ah):Prop where
 sr:SR K Hs H ρ σ ai
 wf:Wf Hs H
 sL:ai.Nodup
 own:∀ a∈ai,Hs a=none
structure fw(Hs H aC H':Hp):Prop where
 all:bP H H'
 sh:bP Hs aC
 wf:Wf aC H'
 new:∀ a,aC a≠none->Hs a≠none\/H a=none
section
variable {K:aE}{Hs H aC H' ad' H'':Hp}
def fw.refl(w:Wf Hs H):fw Hs H Hs H:=⟨bP.refl _,bP.refl _,w,λ_ h=>.inl h⟩
def fw.trans(a:fw Hs H aC H')(b:fw aC H' ad' H''):fw Hs H ad' H'' :=
 ⟨a.all.trans b.all,a.sh.trans b.sh,b.wf,λc h=>by
  rcases b.new c h with h|h
  ·exact a.new c h
  ·exact .inr (a.all.free h)⟩
def fw.ng(g:fw Hs H aC H')(h:Hs a=none)(h':H a≠none):aC a=none:=by
 cases e:aC a with
 |none=>rfl
 |some o =>
  rcases g.new a (by rw[e];exact λz=>nomatch z) with z|z
  ·exact absurd h z
  ·exact absurd z h'
def SR.own{ρ:Env}{σ:St}{ai:List ah}(s:SR K Hs H ρ σ ai):∀ a∈ai,Own H a:=by
 induction s with
 |nil=>exact λa h=>wa h
 |non _ ih=>exact ih
 |sh _ _ ih=>exact ih
 |xc _ ih=>exact ih
 |ow _ r _ ih=>exact λa h=>(eR.mp h).elim (r.own a) (ih a)
 |lk _ r _ ih=>exact λa h=>(eR.mp h).elim (r.own a) (ih a)
 |@ob _ _ _ _ _ p r _ ih=>exact λa h=>(eR.mp h).elim (p.own r a) (ih a)
def SR.fz(s:bP Hs aC)(r:SR K Hs H ρ σ ai):(∀ a∈ai,H' a=H a)->SR K aC H' ρ σ ai:=by
 induction r with
 |nil=>exact λ_=>.nil
 |non _ ih=>exact λk=>.non (ih k)
 |sh h _ ih=>exact λk=>.sh (h.same s) (ih k)
 |xc _ ih=>exact λk=>.xc (ih k)
 |ow ne h _ ih=>exact λk=>.ow ne (h.fz s λa m=>k a (kc _ m)) (ih λa m=>k a (fS _ m))
 |lk ne h _ ih=>exact λk=>.lk ne (h.fz s λa m=>k a (kc _ m)) (ih λa m=>k a (fS _ m))
 |@ob _ _ _ _ _ p h _ ih=>exact λk=>.ob (p.fz (qR s) (λa m=>k a (kc _ m)) h) (ih λa m=>k a (fS _ m))
def fo.grow(r:fo K Hs ρ σ H ai)(g:fw Hs H aC H'):fo K aC ρ σ H' ai :=
 ⟨r.sr.fz g.sh λa h=>by
  cases e:H a with
  |none=>exact absurd e (r.sr.own a h).ne
  |some o=>exact g.all a o e,g.wf,r.sL,λa h=>g.ng (r.own a h) (r.sr.own a h).ne⟩
def SR.length(s:SR K Hs H ρ σ ai):ρ.length=σ.length:=by
 induction s with
 |nil=>rfl
 |non _ ih=>exact congrArg (· + 1) ih
 |sh _ _ ih=>exact congrArg (· + 1) ih
 |xc _ ih=>exact congrArg (· + 1) ih
 |ow _ _ _ ih=>exact congrArg (· + 1) ih
 |lk _ _ _ ih=>exact congrArg (· + 1) ih
 |ob _ _ ih=>exact congrArg (· + 1) ih
def Av(K:aE)(Hs H:Hp)(ai:List ah)(sl:Sl)(v:V):Prop:=match sl with
 |.sh d=>Rep K Hs d v
 |.ow fl d=>∃ As,As≠[]/\cv K Hs H fl d v As/\∀ a∈As,a∈ai
 |.lk a fl d=>∃ As,As≠[]/\cv K Hs H fl d v As/\v=.ref a/\∀ a∈As,a∈ai
 |.xc a=>v=.ref a
 |.ob a p=>v=.ref a/\∃ As,p.is Hs H a As/\∀ a∈As,a∈ai
def Av.mono(h:Av K Hs H ai sl v)(m:∀ a∈ai,a∈c9):Av K Hs H c9 sl v:=by
 cases sl with
 |sh d=>exact h
 |xc a=>exact h
 |ow fl d =>obtain⟨As,ne,r,q⟩:=h;exact⟨As,ne,r,λa ha=>m a (q a ha)⟩
 |lk a fl d =>obtain⟨As,ne,r,e,q⟩:=h;exact⟨As,ne,r,e,λa ha=>m a (q a ha)⟩
 |ob a p =>obtain⟨e,As,r,q⟩:=h;exact⟨e,As,r,λa ha=>m a (q a ha)⟩
def SR.get{ρ:Env}{σ:St}{ai:List ah}{i:Nat}{sl:Sl}(s:SR K Hs H ρ σ ai)(e:ρ[i]? = some (some sl)):∃ v,σ[i]? = some (some v)/\Av K Hs H ai sl v:=by
 induction s generalizing i with
 |nil=>simp at e
 |non s ih =>
  cases i with
  |zero=>simp at e
  |succ i=>exact ih e
 |sh r s ih =>
  cases i with
  |zero=>simp at e;subst e;exact⟨_,rfl,r⟩
  |succ i=>exact ih e
 |xc s ih =>
  cases i with
  |zero=>simp at e;subst e;exact⟨_,rfl,rfl⟩
  |succ i=>exact ih e
 |ow ne r s ih =>
  cases i with
  |zero=>simp at e;subst e;exact⟨_,rfl,_,ne,r,λa m=>kc _ m⟩
  |succ i =>obtain⟨v,e1,h⟩:=ih e;exact⟨v,e1,h.mono λa m=>fS _ m⟩
 |lk ne r s ih =>
  cases i with
  |zero=>simp at e;subst e;exact⟨_,rfl,_,ne,r,rfl,λa m=>kc _ m⟩
  |succ i =>obtain⟨v,e1,h⟩:=ih e;exact⟨v,e1,h.mono λa m=>fS _ m⟩
 |ob r s ih =>
  cases i with
  |zero=>simp at e;subst e;exact⟨_,rfl,rfl,_,r,λa m=>kc _ m⟩
  |succ i =>obtain⟨v,e1,h⟩:=ih e;exact⟨v,e1,h.mono λa m=>fS _ m⟩
end
inductive Md where
 |sh|ow (fl:Bool)|bo
def RM(K:aE)(Hs H:Hp):Md->D->V->List ah->Prop
 |.sh,d,v,As=>As=[]/\Rep K Hs d v
 |.ow fl,d,v,As=>cv K Hs H fl d v As/\As≠[]
 |.bo,d,v,As=>As=[]/\Rep K H d v
inductive AX(K:aE)(Hs H:Hp):List (Md × D)->List V->List ah->Prop
 |nil:AX K Hs H [] [] []
 |cons {m:Md} {d:D} {v:V} {ps:List (Md × D)} {vs:List V} {As Bs:List ah}:RM K Hs H m d v As->AX K Hs H ps vs Bs->AX K Hs H ((m,d) :: ps) (v :: vs) (As++Bs)
section
variable {K:aE}{Hs H aC H':Hp}
def RM.own{m:Md}{d:D}{v:V}{As:List ah}(r:RM K Hs H m d v As):∀ a∈As,Own H a:=by
 cases m with
 |sh=>obtain⟨rfl,_⟩:=r;exact λa h=>wa h
 |ow fl=>exact cv.own r.1
 |bo=>obtain⟨rfl,_⟩:=r;exact λa h=>wa h
def RM.grow(r:RM K Hs H m d v As)(g:fw Hs H aC H'):RM K aC H' m d v As:=by
 cases m with
 |sh=>exact⟨r.1,r.2.same g.sh⟩
 |ow fl=>exact⟨cv.grow g.sh g.all r.1,r.2⟩
 |bo=>exact⟨r.1,r.2.same g.all⟩
def RM.rep(w:Wf Hs H)(r:RM K Hs H m d v As):Rep K H d v:=by
 cases m with
 |sh=>exact r.2.same w.sub
 |ow fl=>exact cv.rep w.sub r.1 λ_ _=>rfl
 |bo=>exact r.2
def RM.flat(w:Wf Hs H)(r:RM K Hs H m d v As)(f:d.flat=true):Rep K Hs d v:=(r.rep w).fL w.kC f
def AX.reps(w:Wf Hs H){ps:List (Md × D)}(r:AX K Hs H ps vs As):bT K H (ps.map (·.2)) vs:=by
 induction r with
 |nil=>exact .nil
 |cons r _ ih=>exact .cons (r.rep w) ih
end
abbrev WE:=Env->(Md->D->Prop)->Prop
abbrev WT:=Env->(Bool->Prop)->Prop
abbrev WA:=Env->(List (Md × D)->Prop)->Prop
structure kY where
 nx:Env->Prop
 rt:Md->D->Prop
 bk:Env->Prop:=fun _=>False
 ct:Env->Prop:=fun _=>False
abbrev WS:=kY->Env->Prop
def cF(aC H:Hp)(As:List ah):Prop:=As.Nodup/\∀ a∈As,aC a=none/\H a=none
def nk(K:aE)(t:WE):TE:=λσ H Qv=>∃ Hs ρ ai Q,fo K Hs ρ σ H ai/\t ρ Q /\
 ∀ v H' aC m d As,fw Hs H aC H'->RM K aC H' m d v As->cF aC H As->Q m d->Qv v H'
def D2(K:aE)(t:WT):TT:=λσ H Qv=>∃ Hs ρ ai Q,fo K Hs ρ σ H ai/\t ρ Q/\∀ b H' aC,fw Hs H aC H'->Q b->Qv b H'
def tpA(K:aE)(t:WA):TA:=λσ H Qv=>∃ Hs ρ ai Q,fo K Hs ρ σ H ai/\t ρ Q /\
 ∀ vs H' aC ps As,fw Hs H aC H'->AX K aC H' ps vs As->cF aC H As->Q ps->Qv vs H'
def Ct(K:aE)(L:Str->Hp->Prop)(t:WS):TS:=λD σ H=>∃ Hs ρ ai E,fo K Hs ρ σ H ai/\t E ρ /\ (∀ cq H' aC cw c9,bP Hs aC->fo K aC cw cq H' c9->E.nx cw->D.nx cq H') /\ (∀ cq H' aC cw c9,bP Hs aC->fo K aC cw cq H' c9->E.bk cw->D.bk cq H') /\ (∀ cq H' aC cw c9,bP Hs aC->fo K aC cw cq H' c9->E.ct cw->D.ct cq H') /\ (∀ v H' aC m d As,bP Hs aC->Wf aC H'->RM K aC H' m d v As->As.Nodup->(∀ a∈As,aC a=none)->E.rt m d->D.rt v H') /\
 ∀ n H',bP Hs H'->E.rt (.ow false) (.str n)->L n H'
def oZ{K:aE}{L:Str->Hp->Prop}{t:WS}{D:Ends}{σ:St}{H:Hp}{G:Prop}(x:Ct K L t D σ H)(k:∀ Hs ρ ai E,fo K Hs ρ σ H ai->t E ρ -> (∀ cq H' aC cw c9,bP Hs aC->fo K aC cw cq H' c9->E.nx cw->D.nx cq H') -> (∀ cq H' aC cw c9,bP Hs aC->fo K aC cw cq H' c9->E.bk cw->D.bk cq H') -> (∀ cq H' aC cw c9,bP Hs aC->fo K aC cw cq H' c9->E.ct cw->D.ct cq H') -> (∀ v H' aC m d As,bP Hs aC->Wf aC H'->RM K aC H' m d v As->As.Nodup->(∀ a∈As,aC a=none)->E.rt m d->D.rt v H') -> (∀ n H',bP Hs H'->E.rt (.ow false) (.str n)->L n H')->G):G :=
 by
 obtain⟨Hs,ρ,ai,E,sr,h,k1,k2,k3,k4,kx⟩:=x;exact k Hs ρ ai E sr h k1 k2 k3 k4 kx
def cU{K:aE}{L:Str->Hp->Prop}{t:WS}{D:Ends}{σ:St}{H:Hp}{G:Prop}(x:Ct K L t D σ H)(k:∀ Hs ρ ai E,fo K Hs ρ σ H ai->t E ρ -> (∀ cq H' aC cw c9,bP Hs aC->fo K aC cw cq H' c9->E.nx cw->D.nx cq H') -> (∀ cq H' aC cw c9,bP Hs aC->fo K aC cw cq H' c9->E.bk cw->D.bk cq H') -> (∀ cq H' aC cw c9,bP Hs aC->fo K aC cw cq H' c9->E.ct cw->D.ct cq H') -> (∀ v H' aC m d As,bP Hs aC->Wf aC H'->RM K aC H' m d v As->As.Nodup->(∀ a∈As,aC a=none)->E.rt m d->D.rt v H')->G):G :=
 oZ x λHs ρ ai E sr h k1 k2 k3 k4 _=>k Hs ρ ai E sr h k1 k2 k3 k4
def kE{α β γ δ:Type _}{A B C:α->β->γ->δ->Prop}{G:Prop}(x:∃ a b c d,A a b c d/\B a b c d/\C a b c d)(k:∀ a b c d,A a b c d->B a b c d->C a b c d->G):G :=
 by
 obtain⟨a,b,c,d,p,q,r⟩:=x;exact k a b c d p q r
abbrev QE(X:Cx)(K:aE)(e:Expr)(t:WE):Prop:=PE X e (nk K t)
abbrev QT(X:Cx)(K:aE)(e:Expr)(t:WT):Prop:=PT X e (D2 K t)
abbrev QW(X:Cx)(K:aE)(e:Expr)(t:WT):Prop:=PW X e (D2 K t)
abbrev QA(X:Cx)(K:aE)(es:List Expr)(t:WA):Prop:=PA X es (tpA K t)
abbrev QS(X:Cx)(K:aE)(L:Str->Hp->Prop)(st:Stmt)(t:WS):Prop:=PS X st (Ct K L t)
abbrev zh(X:Cx)(K:aE)(L:Str->Hp->Prop)(st:List Stmt)(t:WS):Prop:=mI X st (Ct K L t)
abbrev L0:Str->Hp->Prop:=λ_ _=>True
end L2.Q
namespace L2.Q
structure Kt{α:Type}(f:α->Prop):Type where
def cE{α:Type}(a:α){f:α->Prop}(_:Kt f):Prop:=f a
mutual
def D.py:D->cK
 |.non=>.none
 |.bl b=>.bool b
 |.int i=>.int i
 |.str x=>.str x
 |.list xs=>.list (nL xs)
 |.tup xs=>.tuple (nL xs)
 |.dK _=>.none
 |.dT _=>.none
def nL:List D->List cK
 |[]=>[]
 |x :: xs=>x.py :: nL xs
end
def d4:Nat->D->Bool
 |_,.non=>true
 |_,.bl _=>true
 |_,.int _=>true
 |_,.str x=>PyData.strOk x
 |n+1,.list xs=>xs.all (d4 n)
 |n+1,.tup xs=>xs.all (d4 n)
 |_,_=>false
def ip(x y:D):Bool:=PyData.eqv x.py y.py
def D.ty:D->String
 |.non => "NoneType"
 |.bl _ => "bool"
 |.int _ => "int"
 |.str _ => "str"
 |.list _ => "list"
 |.tup _ => "tuple"
 |.dK _ => "dict"
 |.dT _ => "dict"
def D.key1:D->Option Key
 |.int i=>some (.inl i)
 |.str x=>some (.inr x)
 |_=>none
def dU:List D->Option (List Key)
 |[]=>some []
 |x :: xs=>match x.key1,dU xs with
  |some k,some ks=>some (k :: ks)
  |_,_=>none
section
variable {κ:Type}[DecidableEq κ]{β:Type}
def gS(kvs:List (κ × β))(k:κ):Option β:=(kvs.find? λkv=>decide (kv.1=k)).map (·.2)
def lP(kvs:List (κ × β))(k:κ)(v:β):List (κ × β) :=
 if (kvs.any λkv=>decide (kv.1=k))=true then kvs.map (λkv=>if kv.1=k then (kv.1,v) else kv) else kvs++[(k,v)]
end
def Rep.OL{K:aE}:(∀ {d:D} {v:V},Rep K H d v->∀ n,d4 n d=true->L2.Rep K H d.py v)/\∀ {ds:List D} {vs:List V},bT K H ds vs->∀ n,(∀ d∈ds,d4 n d=true)->L2.bT K H (nL ds) vs :=
 Rep.ind (λ_ _=>.none) (λb _ _=>.bool b) (λi _ _=>.int i) (λ_ _ _ _=>.str _) (λ_ _ _ _ h _ ih n o=>by
   cases n with
   |zero=>simp[d4] at o
   |succ n=>exact .list h (ih n (by simpa[d4] using o)))
  (λ_ _ _ _ h _ ih n o=>by
   cases n with
   |zero=>simp[d4] at o
   |succ n=>exact .tuple (.inl (.inl h)) (ih n (by simpa[d4] using o)))
  (λ_ _ _ _ _ _ _ n o=>by cases n<;>simp[d4] at o) (λ_ _ _ _ _ _ _ n o=>by cases n<;>simp[d4] at o) (λ_ _=>.nil)
  λ_ _ _ _ _ _ i1 i2 n o=>.cons (i1 n (o _ dk)) (i2 n λd m=>o d (dr _ m))
def Rep.l2{K:aE}(r:Rep K H d v)(o:d4 n d=true):L2.Rep K H d.py v:=Rep.OL.1 r n o
def xP(ih:∀ d,d4 n d=true->d.py.canLay0=true/\d.py.depth<=n)(xs:List D)(h:∀ x∈xs,d4 n x=true):PyData.canLayAll0 (nL xs)=true/\PyData.depthAll (nL xs)<=n:=by
 induction xs with
 |nil=>exact⟨rfl,fE _⟩
 |cons x xs UY =>have h1:=ih x (h x dk);have h2:=UY λy hy=>h y (dr _ hy);simp only[nL,PyData.canLayAll0,PyData.depthAll,h1.1,h2.1,Bool.and_self,true_and];lia
def iw(n:Nat):∀ (d:D),d4 n d=true->d.py.canLay0=true/\d.py.depth<=n:=by
 have st:∀ n x,d4 n (.str x)=true->(D.str x).py.canLay0=true/\(D.str x).py.depth<=n:=λn x h=>by
  have h:PyData.strOk x=true:=by cases n<;>simpa[d4] using h
  exact⟨by simpa[D.py,PyData.canLay0] using h,fE _⟩
 induction n with
 |zero =>
  intro d h
  cases d with
  |str x=>exact st _ x h
  |non=>exact⟨rfl,fE _⟩
  |bl _=>exact⟨rfl,fE _⟩
  |int _=>exact⟨rfl,fE _⟩
  |_=>simp[d4] at h
 |succ n ih =>
  intro d h
  cases d with
  |str x=>exact st _ x h
  |non=>exact⟨rfl,fE _⟩
  |bl _=>exact⟨rfl,fE _⟩
  |int _=>exact⟨rfl,fE _⟩
  |list xs =>
   have h:∀ x∈xs,d4 n x=true:=by simpa[d4] using h
   have:=xP ih xs h;simp only[D.py,PyData.canLay0,PyData.depth];exact⟨this.1,by lia⟩
  |tup xs =>
   have h:∀ x∈xs,d4 n x=true:=by simpa[d4] using h
   have:=xP ih xs h;simp only[D.py,PyData.canLay0,PyData.depth];exact⟨this.1,by lia⟩
  |dK _=>simp[d4] at h
  |dT _=>simp[d4] at h
mutual
def D.nb:D->Bool
 |.bl _=>false
 |.list xs=>uj xs
 |.tup xs=>uj xs
 |.dK _=>false
 |.dT _=>false
 |_=>true
def uj:List D->Bool
 |[]=>true
 |x :: xs=>x.nb && uj xs
end
mutual
theorem gW:∀ (x y:D),x.nb=true->y.nb=true->(ip x y=true↔x=y)
 |.non,y,_,hy=>by cases y<;>simp_all [ip,D.py,PyData.eqv,D.nb]
 |.bl _,y,hx,_=>by simp[D.nb] at hx
 |.int i,y,_,hy=>by cases y<;>simp_all [ip,D.py,PyData.eqv,D.nb]
 |.str i,y,_,hy=>by cases y<;>simp_all [ip,D.py,PyData.eqv,D.nb]
 |.dK _,y,hx,_=>by simp[D.nb] at hx
 |.dT _,y,hx,_=>by simp[D.nb] at hx
 |.list xs,y,hx,hy=>by
  cases y with
  |list ys =>have:=nj xs ys (by simpa[D.nb] using hx) (by simpa[D.nb] using hy);simp only[ip,D.py,PyData.eqv,D.list.injEq];exact this
  |_=>simp_all [ip,D.py,PyData.eqv,D.nb]
 |.tup xs,y,hx,hy=>by
  cases y with
  |tup ys =>have:=nj xs ys (by simpa[D.nb] using hx) (by simpa[D.nb] using hy);simp only[ip,D.py,PyData.eqv,D.tup.injEq];exact this
  |_=>simp_all [ip,D.py,PyData.eqv,D.nb]
theorem nj:∀ (xs ys:List D),uj xs=true->uj ys=true->(PyData.eqvAll (nL xs) (nL ys)=true↔xs=ys)
 |[],[],_,_=>by simp[nL,PyData.eqvAll]
 |[],_ :: _,_,_=>by simp[nL,PyData.eqvAll]
 |_ :: _,[],_,_=>by simp[nL,PyData.eqvAll]
 |x :: xs,y :: ys,hx,hy=>by simp only[uj,lT] at hx hy;have h1:=gW x y hx.1 hy.1;have h2:=nj xs ys hx.2 hy.2;simp only[nL,PyData.eqvAll,lT,List.cons.injEq];exact and_congr h1 h2
end
section
variable {K:aE}{H:Hp}
def Rep.key(r:Rep K H d v)(h:d.key1=some k):v=kV k:=by cases r<;>simp[D.key1] at h<;>subst h<;>rfl
def bT.keys(r:bT K H ds vs)(h:dU ds=some ks):vs=ks.map kV:=by
 induction ds generalizing vs ks with
 |nil=>simp[dU] at h;subst h;exact r.n0
 |cons d ds ih =>
  obtain⟨u,us,rfl,r,rs⟩:=r.c;unfold dU at h
  cases e1:d.key1 with
  |none=>rw[e1] at h;simp at h
  |some k =>
   cases e2:dU ds with
   |none=>rw[e1,e2] at h;simp at h
   |some dE =>rw[e1,e2] at h;simp at h;subst h;rw[gd,r.key e1,ih rs e2]
def Rep.kr(r:Rep K H (.tup ds) v)(h:dU ds=some ks):∃ b,v=.ref b/\H b=some (.tup (ks.map kV)):=by
 cases r with
 |tup _ e rs=>exact⟨_,rfl,by rw[e,rs.keys h]⟩
end
section
variable {κ:Type}[DecidableEq κ]{K:aE}{H:Hp}
def zip_get{k:κ}{kvs:List (κ × D)}{vs:List V}(h:bT K H (kvs.map (·.2)) vs):match gS kvs k with
  |some d=>∃ v,pS ((kvs.map (·.1)).zip vs) k=some v/\Rep K H d v
  |none=>pS ((kvs.map (·.1)).zip vs) k=none:=by
 induction kvs generalizing vs with
 |nil=>rfl
 |cons p kvs ih =>
  obtain⟨u,us,rfl,r,rs⟩:=bT.c h;by_cases e:p.1=k
  ·have e1:gS (p :: kvs) k=some p.2:=by simp[gS,e]
   rw[e1];exact⟨_,by simp only[gd,BE];exact QL e,r⟩
  ·have e1:gS (p :: kvs) k=gS kvs k:=by simp[gS,e]
   rw[e1];have:=ih rs;simp only[gd,BE,QN (p:=(p.1,_)) e];exact this
def CT{k:κ}{kvs:List (κ × D)}{vs:List V}(h:kvs.length=vs.length):((kvs.map (·.1)).zip vs).any (λkv=>decide (kv.1=k))=kvs.any λkv=>decide (kv.1=k):=by
 induction kvs generalizing vs with
 |nil=>rfl
 |cons p kvs ih =>
  cases vs with
  |nil=>simp at h
  |cons v vs =>simp only[gd,BE,DC];rw[ih (by simpa using h)]
end
section
variable {K:aE}{Hs H:Hp}
def OO(w:Wf Hs H)(hp:H p=none)(ho:∀ vs,o≠.tup vs):fw Hs H Hs (upd H p o) :=
 ⟨(bP.refl H).upd hp,bP.refl _,⟨w.sub.upd hp,λa vs e=>by
  by_cases h:a=p
  ·subst h;rw[ic] at e;exact absurd (Option.some.inj e) (ho vs)
  ·rw[fF h] at e;exact w.kC a vs e⟩,λ_ h=>.inl h⟩
def Rm(w:Wf Hs H)(hp:H p=none):fw Hs H (upd Hs p (.tup vs)) (upd H p (.tup vs)) :=
 ⟨(bP.refl H).upd hp,(bP.refl Hs).upd (w.sub.free hp),⟨λa o e=>by
  by_cases h:a=p
  ·subst h;rw[ic] at e ⊢;exact e
  ·rw[fF h] at e ⊢;exact w.sub a o e,λa vs e=>by
  by_cases h:a=p
  ·subst h;rw[ic] at e ⊢;exact e
  ·rw[fF h] at e ⊢;exact w.kC a vs e⟩,λa h=>by
  by_cases e:a=p
  ·subst e;exact .inr hp
  ·rw[fF e] at h;exact .inl h⟩
def cF.nil:cF Hs H []:=⟨n9,λa h=>nomatch h⟩
def cF.of(s:bP H H')(f:cF Hs H' As):cF Hs H As:=⟨f.1,λa h=>⟨(f.2 a h).1,s.free (f.2 a h).2⟩⟩
abbrev Fin(K:aE)(Hs H:Hp)(Qd:Md->D->Prop)(Qv:VK):Prop:=∀ v H' aC m d As,fw Hs H aC H'->RM K aC H' m d v As->cF aC H As->Qd m d->Qv v H'
def Fin.after(f:Fin K Hs H Qd Qv)(g:fw Hs H aC H'):Fin K aC H' Qd Qv:=λv H2 aT m d As g2 r fr q=>f v H2 aT m d As (g.trans g2) r (fr.of g.all) q
def Fin.sh(f:Fin K Hs H Qd Qv)(w:Wf Hs H)(r:Rep K Hs d v)(q:Qd .sh d):Qv v H:=f v H Hs .sh d [] (fw.refl w) ⟨rfl,r⟩ cF.nil q
def Fin.flat(f:Fin K Hs H Qd Qv)(w:Wf Hs H)(r:Rep K H d v)(hf:d.flat=true)(q:Qd .sh d):Qv v H:=f.sh w (r.fL w.kC hf) q
def Fin.bo(f:Fin K Hs H Qd Qv)(w:Wf Hs H)(r:Rep K H d v)(q:Qd .bo d):Qv v H:=f v H Hs .bo d [] (fw.refl w) ⟨rfl,r⟩ cF.nil q
def uk(m:Md)(d:D):Md:=match m with
 |.sh=>.sh
 |_=>bif d.flat then .sh else .bo
def Fin.uk(f:Fin K Hs H Qd Qv)(w:Wf Hs H)(r:Rep K H d v)(rs:m=.sh->Rep K Hs d v)(q:Qd (uk m d) d):Qv v H:=by
 have o:Qd (bif d.flat then .sh else .bo) d->Qv v H:=λq=>by
  cases hf:d.flat with
  |true=>exact f.flat w r hf (by simpa[hf] using q)
  |false=>exact f.bo w r (by simpa[hf] using q)
 cases m with
 |sh=>exact f.sh w (rs rfl) q
 |_=>exact o q
def Fin.lst(f:Fin K Hs H Qd Qv)(w:Wf Hs H)(hz:ds.length<=bX)(r:bT K H ds vs)(hf:eK ds=true)(q:Qd (.ow true) (.list ds)):∀ p,H p=none->Qv (.ref p) (upd H p (.lst vs)):=λp hp =>
 f _ _ Hs (.ow true) (.list ds) [p] (OO w hp λ_ z=>nomatch z) ⟨.list (by rw[<- r.length];exact hz) ic ((r.fL w.kC hf).owned hf),by simp⟩ ⟨by simp,λa h=>by
  obtain rfl:a=p:=by simpa using h
  exact⟨w.sub.free hp,hp⟩⟩ q
def Fin.OQ(f:Fin K Hs H Qd Qv)(w:Wf Hs H)(hz:ds.length<=bX)(r:bT K Hs ds vs)(q:Qd (.ow false) (.list ds)):∀ p,H p=none->Qv (.ref p) (upd H p (.lst vs)):=λp hp =>
 f _ _ Hs (.ow false) (.list ds) [p] (OO w hp λ_ z=>nomatch z) ⟨.list (by rw[<- r.length];exact hz) ic r.Gu,by simp⟩ ⟨by simp,λa h=>by
  obtain rfl:a=p:=by simpa using h
  exact⟨w.sub.free hp,hp⟩⟩ q
def Fin.tup(f:Fin K Hs H Qd Qv)(w:Wf Hs H)(hz:ds.length<=bX)(r:bT K H ds vs)(hf:eK ds=true)(q:Qd .sh (.tup ds)):∀ p,H p=none->Qv (.ref p) (upd H p (.tup vs)):=λp hp =>
 f _ _ (upd Hs p (.tup vs)) .sh (.tup ds) [] (Rm w hp) ⟨rfl,.tup (by rw[<- r.length];exact hz) ic ((r.fL w.kC hf).same ((bP.refl Hs).upd (w.sub.free hp)))⟩ cF.nil q
end
section
variable {X:Cx}{K:aE}
def PE.imp(h:PE X e te)(i:∀ σ H Q,xE σ H Q->te σ H Q):PE X e xE:=λpins s σ H Q I q=>h pins s σ H Q I (i σ H Q q)
def PT.imp(h:PT X e te)(i:∀ σ H Q,xE σ H Q->te σ H Q):PT X e xE:=λpins s σ H Q I q=>h pins s σ H Q I (i σ H Q q)
def PW.imp(h:PW X e te)(i:∀ σ H Q,xE σ H Q->te σ H Q):PW X e xE:=λwh pins s σ H Q I q=>h wh pins s σ H Q I (i σ H Q q)
def PA.imp(h:PA X e te)(i:∀ σ H Q,xE σ H Q->te σ H Q):PA X e xE:=λp pins s σ H Q I q=>h p pins s σ H Q I (i σ H Q q)
def Rn:Option (Option Sl)->(Md->D->Prop)->Prop
 |some (some (.sh d)),Q=>Q .sh d
 |some (some (.ow _ d)),Q=>Q .bo d
 |some (some (.lk _ _ d)),Q=>Q .bo d
 |_,_=>False
def ag(i:Nat):WE:=λρ Q=>Rn ρ[i]? Q
def I_(h:PE X e (ER i)):QE X K e (ag i):=by
 refine PE.imp h λσ H Qv hx=>kE hx λHs ρ ai Q sr h f=>?_;unfold ag at h
 cases e:ρ[i]? with
 |none=>rw[e] at h;exact h.elim
 |some o =>
  cases o with
  |none=>rw[e] at h;exact h.elim
  |some sl =>
   obtain⟨v,e1,r⟩:=sr.sr.get e;rw[e] at h
   cases sl with
   |sh d=>exact⟨v,e1,Fin.sh f sr.wf r h⟩
   |xc a=>exact h.elim
   |ob a p=>exact h.elim
   |ow fl d =>obtain⟨As,_,r,_⟩:=r;exact⟨v,e1,Fin.bo f sr.wf (r.rep sr.wf.sub λ_ _=>rfl) h⟩
   |lk a fl d =>obtain⟨As,_,r,_⟩:=r;exact⟨v,e1,Fin.bo f sr.wf (r.rep sr.wf.sub λ_ _=>rfl) h⟩
def qv (i:Nat) (hN:autoParam (X.N[i]? = some x) bv) (hv:Ql X.env.scope x:=by first|exact Or.inl rfl|exact Or.inr (Or.inl rfl)|exact Or.inr (Or.inr rfl)) (hd:(x == ("__debug__" : Str))=false:=by decide) (tI:(x == ("__classdict__" : Str))=false:=by decide):QE X K (.Name x pos) (ag i):=I_ (Wl hN hv hd tI)
def wC(d:D):WE:=λ_ Q=>Q .sh d
def Af(h:PE X e (tC v))(r:∀ H,Rep K H d v):QE X K e (wC d) :=
 PE.imp h λσ H Qv hx=>kE hx λHs ρ ai Q sr h f=>Fin.sh f sr.wf (r _) h
def ao{i j pos}:QE X K (.Constant (.int i) j pos) (wC (.int i)):=Af bM' λ_=>.int i
def uB{i j pos}(h:i.length<=bX:=by decide):QE X K (.Constant (.str i) j pos) (wC (.str i)):=Af bP' λ_=>.str h
def sM{i j pos}:QE X K (.Constant (.bool i) j pos) (wC (.bl i)):=Af bN' λ_=>.bl i
def Gk{j pos}:QE X K (.Constant .none j pos) (wC .non):=Af bO' λ_=>.non
abbrev W2:=Md->D->Md->D->(Md->D->Prop)->Prop
abbrev W1:=Md->D->(Md->D->Prop)->Prop
def kU(K:aE)(r:R2)(f:W2):Prop:=∀ Hs H m x v As n y u Bs Qd Qv,Wf Hs H->RM K Hs H m x v As->RM K Hs H n y u Bs->f m x n y Qd->Fin K Hs H Qd Qv->r v u H Qv
def Nc(K:aE)(r:V->Hp->VK->Prop)(f:W1):Prop:=∀ Hs H m x v As Qd Qv,Wf Hs H->RM K Hs H m x v As->f m x Qd->Fin K Hs H Qd Qv->r v H Qv
def ay(f:W2)(ta tb:WE):WE:=λρ Q=>ta ρ λm x=>tb ρ λn y=>f m x n y Q
def gE(f:W1)(ta:WE):WE:=λρ Q=>ta ρ λm x=>f m x Q
variable {a b:Expr}{ta tb tc:WE}{pos:Pos}
def jC(br:kU K r f)(σ:St)(H:Hp)(Qv:VK)(h:nk K (ay f ta tb) σ H Qv):N_ r (nk K ta) (nk K tb) σ H Qv:=by obtain⟨Hs,ρ,ai,Q,sr,h,fin⟩:=h;exact⟨Hs,ρ,ai,_,sr,h,λv H1 bE m x As g1 r1 f1 q1=>⟨bE,ρ,ai,_,sr.grow g1,q1,λu H2 aT n y Bs g2 r2 f2 q2=>br aT H2 m x v As n y u Bs Q Qv g2.wf (r1.grow g2) r2 q2 (Fin.after fin (g1.trans g2))⟩⟩
def Nf(ho:eJ X (oq op) r)(br:kU K r f)(ha:QE X K a ta)(hb:QE X K b tb):QE X K (.BinOp a op b pos) (ay f ta tb):=PE.imp (cB' ho ha hb) (jC br)
def gg'(ho:Qy X (unaryOp op) r)(br:Nc K r f)(ha:QE X K a ta):QE X K (.UnaryOp op a pos) (gE f ta):=by exact PE.imp (cC' ho ha) λσ H Qv hx=>kE hx λHs ρ ai Q sr h fin=>⟨Hs,ρ,ai,_,sr,h,λv H1 bE m x As g1 r1 f1 q1=>br bE H1 m x v As Q Qv g1.wf r1 q1 (Fin.after fin g1)⟩
def qM(ho:eJ X (gI op) r)(br:kU K r f)(ha:QE X K a ta)(hb:QE X K b tb)(hm:LB op b=false:=by first|exact WM _|rfl):QE X K (.Compare a [op] [b] pos) (ay f ta tb):=PE.imp (cV' ho ha hb hm) (jC br)
def wB(t:WE):WT:=λρ Q=>t ρ λ_ x=>match x with
 |.bl b=>Q b
 |_=>False
def z9(σ:St)(H:Hp)(Qv:Bool->Hp->Prop)(h:D2 K (wB t) σ H Qv):TL (nk K t) σ H Qv:=by
 obtain⟨Hs,ρ,ai,Q,sr,h,fin⟩:=h;refine⟨Hs,ρ,ai,_,sr,h,λv H1 bE m x As g1 r1 f1 q1=>?_⟩;have r:=r1.rep g1.wf
 cases r with
 |bl b=>exact⟨b,rfl,fin b H1 bE g1 q1⟩
 |_=>exact q1.elim
def tE(h:nk K t σ H Q)(i:∀ v H',Q v H'->Q' v H'):nk K t σ H Q':=by obtain⟨Hs,ρ,ai,Qd,sr,h,fin⟩:=h;exact⟨Hs,ρ,ai,Qd,sr,h,λv H1 bE m x As g1 r1 f1 q1=>i _ _ (fin v H1 bE m x As g1 r1 f1 q1)⟩
def aP(ho:eJ X (gI op) r)(br:kU K r f)(ha:QE X K a ta)(hb:QE X K b tb)(hm:LB op b=false:=by first|exact WM _|rfl):QT X K (.Compare a [op] [b] pos) (wB (ay f ta tb)):=by
 refine PT.imp (cW' ho ha hb hm) λσ H Qv h=>?_;obtain⟨Hs,ρ,ai,Q,sr,h,fin⟩:=h;refine jC br σ H _ ⟨Hs,ρ,ai,_,sr,h,λv H1 bE m x As g1 r1 f1 q1=>?_⟩;have r:=r1.rep g1.wf
 cases r with
 |bl b=>exact⟨b,rfl,fin b H1 bE g1 q1⟩
 |_=>exact q1.elim
def t7(h:QE X K a t)(he:∀ whole,isTrue a X.env whole=(do let v <- whole;standAt a.pos;holding [v] (truthy v)):=by intro _;rfl):QT X K a (wB t):=PT.imp (bS' h he) z9
def uh(f g:W2)(ta tb tc:WE):WE:=λρ Q=>ta ρ λm x=>tb ρ λn y=>f m x n y λ_ z=>match z with
 |.bl k=>if k=true then tc ρ λl w=>g n y l w Q else Q .sh (.bl false)
 |_=>False
end
section
variable {X:Cx}{K:aE}{a b c:Expr}{ta tb tc:WE}{pos:Pos}
def uP(br:kU K r f)(UZ:kU K r' g)(σ:St)(H:Hp)(Qv:VK)(h:nk K (uh f g ta tb tc) σ H Qv):WN r r' (nk K ta) (nk K tb) (nk K tc) σ H Qv:=by
 obtain⟨Hs,ρ,ai,Q,sr,h,fin⟩:=h;refine⟨Hs,ρ,ai,_,sr,h,λv H1 bE m x As g1 r1 f1 q1=>⟨bE,ρ,ai,_,sr.grow g1,q1,λu H2 aT n y Bs g2 r2 f2 q2=>?_⟩⟩;refine br aT H2 m x v As n y u Bs _ _ g2.wf (r1.grow g2) r2 q2 λz H3 fR m3 d3 OS g3 r3 f3 q3=>?_;have rr:=r3.rep g3.wf
 cases rr with
 |bl k =>
  refine⟨k,rfl,?_⟩;have Rh:Fin K fR H3 Q Qv:=Fin.after fin ((g1.trans g2).trans g3)
  cases k with
  |false=>exact Rh.sh g3.wf (.bl false) q3
  |true =>exact⟨fR,ρ,ai,_,((sr.grow g1).grow g2).grow g3,q3,λw H4 Ng l z Nh g4 r4 f4 q4=>UZ Ng H4 n y u Bs l z w Nh Q Qv g4.wf ((r2.grow g3).grow g4) r4 q4 (Fin.after Rh g4)⟩
 |_=>exact q3.elim
def z_(ho:eJ X (gI op) r)(og:eJ X (gI op') r')(br:kU K r f)(UZ:kU K r' g)(ha:QE X K a ta)(hb:QE X K b tb)(hc:QE X K c tc)(hm:lastMarks [op,op'] [b,c]=false:=by with_unfolding_all rfl):QT X K (.Compare a [op,op'] [b,c] pos) (wB (uh f g ta tb tc)):=by
 refine PT.imp (cX' ho og ha hb hc hm) λσ H Qv h=>?_;obtain⟨Hs,ρ,ai,Q,sr,h,fin⟩:=h;refine uP br UZ σ H _ ⟨Hs,ρ,ai,_,sr,h,λv H1 bE m x As g1 r1 f1 q1=>?_⟩;have r:=r1.rep g1.wf
 cases r with
 |bl b=>exact⟨b,rfl,fin b H1 bE g1 q1⟩
 |_=>exact q1.elim
def OU(t u:WT):WT:=λρ Q=>t ρ λc=>if c=true then u ρ Q else Q false
def Ni(t u:WT):WT:=λρ Q=>t ρ λc=>if c=true then Q true else u ρ Q
def Nj(t:WT):WT:=λρ Q=>t ρ λc=>Q (!c)
variable {tA tB:WT}{rest:List Expr}
def pB{t u:WT}{f:Bool->TT}{σ:St}{H:Hp}{Qv:Bool->Hp->Prop}{G:Bool->(Bool->Prop)->Env->Prop}(h:D2 K (λρ Q=>t ρ λc=>G c Q ρ) σ H Qv)(i:∀ c H1 bE ρ ai Q,fo K bE ρ σ H1 ai->G c Q ρ->(∀ b H' aC,fw bE H1 aC H'->Q b->Qv b H')->f c σ H1 Qv):D2 K t σ H λc H1=>f c σ H1 Qv:=by
 obtain⟨Hs,ρ,ai,Q,sr,h,fin⟩:=h;exact⟨Hs,ρ,ai,_,sr,h,λc H1 bE g1 q1=>i c H1 bE ρ ai Q (sr.grow g1) q1 λb H' aC g2=>fin b H' aC (g1.trans g2)⟩
def qO(ha:QT X K a tA):QW X K (.BoolOp .And [a] pos) tA:=pw_and1 ha
def v5(ha:QT X K a tA):QW X K (.BoolOp .Or [a] pos) tA:=pw_or1 ha
def yz(ha:QT X K a tA)(hb:QW X K (.BoolOp .And (b :: rest) pos) tB):QW X K (.BoolOp .And (a :: b :: rest) pos) (OU tA tB):=by
 refine PW.imp (pw_and ha hb) λσ H Qv h=>?_;refine pB (u:=tB) (f:=λc σ H1 Q=>if c=true then D2 K tB σ H1 Q else Q false H1) h λc H1 bE ρ ai Q sr q fin=>?_
 cases c with
 |true=>exact⟨bE,ρ,ai,Q,sr,q,fin⟩
 |false=>exact fin false H1 bE (fw.refl sr.wf) q
def Ae(ha:QT X K a tA)(hb:QW X K (.BoolOp .Or (b :: rest) pos) tB):QW X K (.BoolOp .Or (a :: b :: rest) pos) (Ni tA tB):=by
 refine PW.imp (pw_or ha hb) λσ H Qv h=>?_;refine pB (u:=tB) (f:=λc σ H1 Q=>if c=true then Q true H1 else D2 K tB σ H1 Q) h λc H1 bE ρ ai Q sr q fin=>?_
 cases c with
 |true=>exact fin true H1 bE (fw.refl sr.wf) q
 |false=>exact⟨bE,ρ,ai,Q,sr,q,fin⟩
def Nk(h:QW X K a tA):QT X K a tA:=h _
def tQ(ha:QT X K a tA):QT X K (.UnaryOp .Not a pos) (Nj tA):=by exact PT.imp (bW' ha) λσ H Qv h=>pB (u:=tA) (f:=λc σ H1 Q=>Q (!c) H1) h λc H1 bE ρ ai Q sr q fin=>fin _ H1 bE (fw.refl sr.wf) q
def zX(ta tb:WE):WE:=λρ Q=>ta ρ λ_ x=>match x with
 |.bl c=>if c=true then tb ρ Q else Q .sh (.bl false)
 |_=>False
def JR{op}(h:QE X K a ta):QE X K (.BoolOp op [a] pos) ta:=bY' h
def JM(ha:QE X K a ta)(hb:QE X K (.BoolOp .And (b :: rest) pos) tb):QE X K (.BoolOp .And (a :: b :: rest) pos) (zX ta tb):=by
 refine PE.imp (bZ' ha hb) λσ H Qv hx=>kE hx λHs ρ ai Q sr h fin=>?_;refine⟨Hs,ρ,ai,_,sr,h,λv H1 bE m x As g1 r1 f1 q1=>?_⟩;have r:=r1.rep g1.wf
 cases r with
 |bl c =>
  refine⟨c,rfl,?_⟩
  cases c with
  |true=>exact⟨bE,ρ,ai,Q,sr.grow g1,q1,Fin.after fin g1⟩
  |false=>exact Fin.sh (Fin.after fin g1) g1.wf (.bl false) q1
 |_=>exact q1.elim
def Ro:D->Option Bool
 |.non=>some false
 |.bl b=>some b
 |.int i=>some (i != 0)
 |.str x=>some ((x.length:Int) != 0)
 |.list xs=>some !xs.isEmpty
 |.tup xs=>some !xs.isEmpty
 |.dK kvs=>none
 |.dT kvs=>none
def Rp(t:WE):WT:=λρ Q=>t ρ λ_ x=>∃ b,Ro x=some b/\Q b
end
def eL:W2:=λm x n y Q=>match x,y with
 |.int i,.int j=>Q .sh (.int (i+j))
 |.str i,.str j=>i.length+j.length<=bX/\Q .sh (.str (i++j))
 |.list xs,.list ys=>xs.length+ys.length<=bX/\((eK xs=true/\eK ys=true/\Q (.ow true) (.list (xs++ys)))\/(m=.sh/\n=.sh/\Q (.ow false) (.list (xs++ys))))
 |.tup xs,.tup ys=>xs≠[]/\xs.length+ys.length<=bX/\eK xs=true/\eK ys=true/\Q .sh (.tup (xs++ys))
 |_,_=>False
def Nm(P:Int->Int->(Md->D->Prop)->Prop):W2:=λ_ x _ y Q=>match x,y with
 |.int i,.int j=>P i j Q
 |_,_=>False
def II(P:Int->Int->(Md->D->Prop)->Prop)(S:Str->Str->(Md->D->Prop)->Prop):W2:=λ_ x _ y Q=>match x,y with
 |.int i,.int j=>P i j Q
 |.str i,.str j=>S i j Q
 |_,_=>False
def Nn:W2:=Nm λi j Q=>Q .sh (.int (i-j))
def nv:W2:=Nm λi j Q=>BO i j/\Q .sh (.int (i*j))
def wc:W2:=Nm λi j Q=>(0<j/\j<1073741824)/\Q .sh (.int (i / j))
def uS:W2:=Nm λi j Q=>0<j/\Q .sh (.int (i % j))
def OV:W2:=II (λi j Q=>Q .sh (.bl (decide (i<j)))) λi j Q=>Q .sh (.bl (sA i j))
def U0:W2:=II (λi j Q=>Q .sh (.bl (decide (i<=j)))) λi j Q=>Q .sh (.bl (!sA j i))
def Fh:W2:=Nm λi j Q=>Q .sh (.bl (decide (j<i)))
def i6:W2:=λ_ x _ y Q=>match x,y with
 |.int i,.int j=>Q .sh (.bl (decide (i=j)))
 |.str i,.str j=>Q .sh (.bl (decide (i=j)))
 |.bl i,.bl j=>Q .sh (.bl (decide (i=j)))
 |_,_=>d4 12 x=true/\d4 12 y=true/\Q .sh (.bl (ip x y))
def OW:W2:=λ_ x _ y Q=>match x,y with
 |.int i,.int j=>Q .sh (.bl (!decide (i=j)))
 |.str i,.str j=>Q .sh (.bl (!decide (i=j)))
 |.bl i,.bl j=>Q .sh (.bl (!decide (i=j)))
 |_,_=>d4 12 x=true/\d4 12 y=true/\Q .sh (.bl (!ip x y))
def D.Fm:D->Bool
 |.non=>true
 |_=>false
def Ak:W2:=λ_ x _ y Q=>match y with
 |.non=>Q .sh (.bl (!x.Fm))
 |_=>False
def iZ:D->Bool
 |.non=>true
 |.bl _=>true
 |.int _=>true
 |.str _=>true
 |_=>false
def inD(x:D)(ys:List D):Bool:=ys.any λy=>ip y x
def IJ(neg:Bool):W2:=λ_ x _ y Q=>match y with
 |.str j=>match x with
  |.str i=>Q .sh (.bl (if neg then !Ra i j else Ra i j))
  |_=>False
 |.list ys=>iZ x=true/\ys.all iZ=true/\Q .sh (.bl (if neg then !inD x ys else inD x ys))
 |.tup ys=>iZ x=true/\ys.all iZ=true/\Q .sh (.bl (if neg then !inD x ys else inD x ys))
 |.dK kvs=>∃ k,x.key1=some k/\Q .sh (.bl (if neg then !(gS kvs k).isSome else (gS kvs k).isSome))
 |.dT kvs=>match x with
  |.tup xs=>∃ ks,dU xs=some ks/\Q .sh (.bl (if neg then !(gS kvs ks).isSome else (gS kvs ks).isSome))
  |_=>False
 |_=>False
section
variable {K:aE}
def DX(f:Fin K Hs H Qd Qv)(w:Wf Hs H)(h:x.length<=bX)(q:Qd .sh (.str x)):Qv (.str x) H:=f.sh w (.str h) q
def cP(i j:Str):(i++j).length=i.length+j.length:=by show(i.cps++j.cps).size=_;simp[Str.length]
def GF:kU K (λx y H Q=>yZ K x y H Q\/T5 K x y H Q) eL:=by
 intro Hs H m x v As n y u Bs Qd Qv w rx ry h f;have r1:=rx.rep w;have r2:=ry.rep w
 cases r1 with
 |int i=>cases r2 with
  |int j=>exact .inl (f.sh w (.int _) h)
  |_=>exact h.elim
 |str hi=>cases r2 with
  |str hj=>exact .inl ⟨h.1,DX f w (by rw[cP];exact h.1) h.2⟩
  |_=>exact h.elim
 |list z1 s1 q1=>cases r2 with
  |list z2 s2 q2 =>
   have l1:=q1.length;have l2:=q2.length;have hz:=h.1;rcases h.2 with⟨f1,f2,q⟩|⟨rfl,rfl,q⟩
   ·exact .inl ⟨_,_,s1,s2,by lia,f.lst w (by rw[ot];exact hz) (q1.append q2) (by rw[eO,f1,f2];rfl) q⟩
   ·obtain⟨_,rx⟩:=rx;obtain⟨_,ry⟩:=ry
    cases rx with
    |list z1' s1' Np=>cases ry with
     |list z2' s2' q2' =>have l1:=Np.length;have l2:=q2'.length;exact .inl ⟨_,_,bP.seq w.sub s1',bP.seq w.sub s2',by lia,f.OQ w (by rw[ot];exact hz) (Np.append q2') q⟩
  |_=>exact h.elim
 |tup t1 s1 q1=>cases r2 with
  |tup t2 s2 q2 =>
   have l1:=q1.length;have l2:=q2.length;obtain⟨iA,hz,f1,f2,q⟩:=h;refine .inr ⟨_,_,_,_,rfl,rfl,.inl (.inl s1),.inl (.inl s2),?_,by lia,?_⟩
   ·intro e;subst e;exact iA (PK.mp l1)
   ·refine⟨λe=>?_,λ_=>f.tup w (by rw[ot];exact hz) (q1.append q2) (by rw[eO,f1,f2];rfl) q⟩;subst e;cases q2;rw[vv] at q;exact f.flat w (.tup t1 s1 q1) (by simpa[D.flat] using f1) q
  |_=>exact h.elim
 |_=>exact h.elim
def Bq{H:Hp}{x y:D}{v u:V}{m n:Md}{P:Int->Int->(Md->D->Prop)->Prop}{S:Str->Str->(Md->D->Prop)->Prop}{Q:Md->D->Prop}{G:Prop}(r1:Rep K H x v)(r2:Rep K H y u)(h:II P S m x n y Q)(k:∀ i j,v=.int i->u=.int j->P i j Q->G)(ks:∀ i j,v=.str i->u=.str j->S i j Q->G):G:=by
 cases r1 with
 |int i=>cases r2 with
  |int j=>exact k i j rfl rfl h
  |_=>exact h.elim
 |str hi=>cases r2 with
  |str hj=>exact ks _ _ rfl rfl h
  |_=>exact h.elim
 |_=>exact h.elim
def j6{H:Hp}{x y:D}{v u:V}{m n:Md}{P:Int->Int->(Md->D->Prop)->Prop}{Q:Md->D->Prop}{G:Prop}(r1:Rep K H x v)(r2:Rep K H y u)(h:Nm P m x n y Q)(k:∀ i j,v=.int i->u=.int j->P i j Q->G):G:=by
 cases r1 with
 |int i=>cases r2 with
  |int j=>exact k i j rfl rfl h
  |_=>exact h.elim
 |_=>exact h.elim
def GC:kU K Dw Nn:=by
 intro Hs H m x v As n y u Bs Qd Qv w rx ry h f;exact j6 (rx.rep w) (ry.rep w) h λi j e1 e2 q=>by subst e1 e2;exact f.sh w (.int _) q
def G5:kU K Fp nv:=by
 intro Hs H m x v As n y u Bs Qd Qv w rx ry h f;exact j6 (rx.rep w) (ry.rep w) h λi j e1 e2 q=>by subst e1 e2;exact⟨q.1,f.sh w (.int _) q.2⟩
def Hh:kU K EY wc:=by
 intro Hs H m x v As n y u Bs Qd Qv w rx ry h f;exact j6 (rx.rep w) (ry.rep w) h λi j e1 e2 q=>by subst e1 e2;exact⟨q.1,f.sh w (.int _) q.2⟩
def HJ:kU K Eb uS:=by
 intro Hs H m x v As n y u Bs Qd Qv w rx ry h f;exact j6 (rx.rep w) (ry.rep w) h λi j e1 e2 q=>by subst e1 e2;exact⟨q.1,f.sh w (.int _) q.2⟩
def uM:kU K Ux Fh:=by
 intro Hs H m x v As n y u Bs Qd Qv w rx ry h f;exact j6 (rx.rep w) (ry.rep w) h λi j e1 e2 q=>by subst e1 e2;exact f.sh w (.bl _) q
def Dj:kU K Uv OV:=by
 intro Hs H m x v As n y u Bs Qd Qv w rx ry h f;exact Bq (rx.rep w) (ry.rep w) h (λi j e1 e2 q=>by
  subst e1 e2;exact f.sh w (.bl _) q) λi j e1 e2 q=>by
  subst e1 e2;exact f.sh w (.bl _) q
def IK:kU K Uw U0:=by
 intro Hs H m x v As n y u Bs Qd Qv w rx ry h f;exact Bq (rx.rep w) (ry.rep w) h (λi j e1 e2 q=>by
  subst e1 e2;exact f.sh w (.bl _) q) λi j e1 e2 q=>by
  subst e1 e2;exact f.sh w (.bl _) q
def eq_data(w:Wf Hs H)(rx:Rep K H x v)(ry:Rep K H y u)(f:Fin K Hs H Qd Qv)(h:d4 12 x=true/\d4 12 y=true/\Qd .sh (.bl (ip x y))):Uz K v u H Qv:=by obtain⟨h1,h2,q⟩:=h;have l1:=iw 12 x h1;have l2:=iw 12 y h2;exact⟨x.py,y.py,rx.l2 h1,ry.l2 h2,l1.1,l2.1,by lia,f.sh w (.bl _) q⟩
def ne_data(w:Wf Hs H)(rx:Rep K H x v)(ry:Rep K H y u)(f:Fin K Hs H Qd Qv)(h:d4 12 x=true/\d4 12 y=true/\Qd .sh (.bl (!ip x y))):UA K v u H Qv:=by obtain⟨h1,h2,q⟩:=h;have l1:=iw 12 x h1;have l2:=iw 12 y h2;exact⟨x.py,y.py,rx.l2 h1,ry.l2 h2,l1.1,l2.1,by lia,f.sh w (.bl _) q⟩
def cI:kU K (Q7 K) i6:=by
 intro Hs H m x v As n y u Bs Qd Qv w rx ry h f;have r1:=rx.rep w;have r2:=ry.rep w;have d:=λh=>eq_data w r1 r2 f h
 cases r1 with
 |int i=>cases r2 with
  |int j=>exact f.sh w (.bl _) h
  |_=>exact d h
 |str i=>cases r2 with
  |str j=>exact f.sh w (.bl _) h
  |_=>exact d h
 |bl i=>cases r2 with
  |bl j=>exact f.sh w (.bl _) h
  |_=>exact d h
 |_=>exact d h
def Hj:kU K (Q8 K) OW:=by
 intro Hs H m x v As n y u Bs Qd Qv w rx ry h f;have r1:=rx.rep w;have r2:=ry.rep w;have d:=λh=>ne_data w r1 r2 f h
 cases r1 with
 |int i=>cases r2 with
  |int j=>exact f.sh w (.bl _) h
  |_=>exact d h
 |str i=>cases r2 with
  |str j=>exact f.sh w (.bl _) h
  |_=>exact d h
 |bl i=>cases r2 with
  |bl j=>exact f.sh w (.bl _) h
  |_=>exact d h
 |_=>exact d h
def Ft(r:Rep K H x v):decide (v=V.non)=x.Fm:=by cases r<;>first|rfl|exact decide_eq_false (λz=>nomatch z)
def vN:kU K (λx y H Q=>y=.non/\Q (.bl (!decide (x=.non))) H) Ak:=by
 intro Hs H m x v As n y u Bs Qd Qv w rx ry h f;have r1:=rx.rep w;have r2:=ry.rep w;have e:=Ft r1
 cases r2 with
 |non=>exact⟨rfl,by rw[e];exact f.sh w (.bl _) h⟩
 |_=>exact h.elim
def jA(r:Rep K H x v)(h:iZ x=true):B1 v=true:=by cases r<;>first|rfl|(simp[iZ] at h)
def Dm(r:Rep K H x v)(s:Rep K H y u)(h:iZ x=true)(g:iZ y=true):DL v u=ip x y:=by cases r<;>simp[iZ] at h<;>cases s<;>simp[iZ] at g<;>rfl
def G7(r:Rep K H x v)(h:iZ x=true)(rs:bT K H ys us)(g:ys.all iZ=true):us.all B1=true/\QK v us=inD x ys:=by
 induction ys generalizing us with
 |nil=>rw[rs.n0];exact⟨rfl,rfl⟩
 |cons y ys ih =>
  obtain⟨u,us,rfl,s,ss⟩:=rs.c;simp only[DB,lT] at g;obtain⟨e1,e2⟩:=ih ss g.2;refine⟨by simp only[DB,jA s g.1,e1,Bool.and_self],?_⟩;unfold QK inD at *
  rw[DC,DC,e2,Dm s r g.1 h]
def p7{κ:Type}[DecidableEq κ]{H:Hp}{k:κ}{kvs:List (κ × D)}{vs:List V}(r:bT K H (kvs.map (·.2)) vs):(pS ((kvs.map (·.1)).zip vs) k).isSome=(gS kvs k).isSome:=by
 have:=zip_get (k:=k) r;split at this
 ·rename_i e;obtain⟨v,e1,_⟩:=this;rw[e1,e];rfl
 ·rename_i e;rw[this,e];rfl
def yQ:kU K (IA K neg) (IJ neg):=by
 intro Hs H m x v As n y u Bs Qd Qv w rx ry h f;have r1:=rx.rep w;have r2:=ry.rep w
 cases r2 with
 |str j=>cases r1 with
  |str i=>exact f.sh w (.bl _) h
  |_=>exact h.elim
 |list z s q =>
  obtain⟨h1,h2,h3⟩:=h;obtain⟨e1,e2⟩:=G7 r1 h1 q h2;have h4:=jA r1 h1;have g:Oj K neg v (.ref _) H Qv:=⟨_,_,rfl,.inl s,h4,e1,by rw[e2];exact f.sh w (.bl _) h3⟩
  cases r1<;>exact .inr g
 |tup _ s q =>
  obtain⟨h1,h2,h3⟩:=h;obtain⟨e1,e2⟩:=G7 r1 h1 q h2;have h4:=jA r1 h1;have g:Oj K neg v (.ref _) H Qv:=⟨_,_,rfl,.inr (.inl (.inl s)),h4,e1,by rw[e2];exact f.sh w (.bl _) h3⟩
  cases r1<;>exact .inr g
 |dK kk e q =>obtain⟨k,hk,h3⟩:=h;have ev:=r1.key hk;subst ev;have eg:=p7 (k:=k) q;cases k<;>exact .inl ⟨_,lh.k' e,by rw[eg];exact f.sh w (.bl _) h3⟩
 |dT kk e q =>
  cases r1 with
  |tup t1 e1 q1 =>obtain⟨ks,hk,h3⟩:=h;obtain⟨b,eb,e2⟩:=Rep.kr (.tup t1 e1 q1) hk;cases eb;have eg:=p7 (k:=ks) q;exact .inl ⟨_,lh.t' e e2,by rw[eg];exact f.sh w (.bl _) h3⟩
  |_=>exact h.elim
 |_=>exact h.elim
end
section
variable {X:Cx}{K:aE}{a b:Expr}{ta tb:WE}{pos:Pos}
def Jz(hK:autoParam (X.K=K) bv):eJ X (oq .Add) (λx y H Q=>yZ K x y H Q\/T5 K x y H Q):=by subst hK;exact DR.or dI'
def aL(ha:QE X K a ta)(hb:QE X K b tb)(hK:autoParam (X.K=K) bv):QE X K (.BinOp a .Add b pos) (ay eL ta tb):=Nf (Jz hK) GF ha hb
def Dk(ha:QE X K a ta)(hb:QE X K b tb):QE X K (.BinOp a .Sub b pos) (ay Nn ta tb):=Nf E_ GC ha hb
def dR(ha:QE X K a ta)(hb:QE X K b tb):QE X K (.BinOp a .Mult b pos) (ay nv ta tb):=Nf DY G5 ha hb
def jR(ha:QE X K a ta)(hb:QE X K b tb):QE X K (.BinOp a .FloorDiv b pos) (ay wc ta tb):=Nf Ej Hh ha hb
def iW(ha:QE X K a ta)(hb:QE X K b tb):QE X K (.BinOp a .Mod b pos) (ay uS ta tb):=Nf En HJ ha hb
def OX:W1:=λ_ x Q=>match x with
 |.int i=>Q .sh (.int (-i))
 |_=>False
def Gs:Nc K (rU λi=>.int (-i)) OX:=by
 intro Hs H m x v As Qd Qv w rx h f;have r1:=rx.rep w
 cases r1 with
 |int i=>exact⟨i,rfl,f.sh w (.int _) h⟩
 |_=>exact h.elim
def Ht(ha:QE X K a ta):QE X K (.UnaryOp .USub a pos) (gE OX ta):=gg' cK' Gs ha
end
def cc:WA:=λ_ Q=>Q []
def aj(te:WE)(t:WA):WA:=λρ Q=>te ρ λm x=>t ρ λps=>Q ((m,x) :: ps)
def AY:Md × D->Bool
 | (.sh,_)=>true
 | (_,d)=>d.flat
def IL:Md × D->Bool
 | (.bo,d)=>d.flat
 |_=>true
def OY:Md × D->Bool
 | (.ow true,_)=>true
 | (_,d)=>d.flat
def uJ(ps:List (Md × D)):Md:=bif ps.all AY then .sh else bif ps.all IL then .ow (ps.all OY) else .bo
def Dr(ps:List (Md × D)):Md:=bif ps.all IL then .ow (ps.all OY) else .bo
def kR(t:WA):WE:=λρ Q=>t ρ λps=>ps.length<=bX/\Q (uJ ps) (.tup (ps.map (·.2)))
def wd(t:WA):WE:=λρ Q=>t ρ λps=>ps.length<=bX/\Q (Dr ps) (.list (ps.map (·.2)))
section
variable {X:Cx}{K:aE}{e:Expr}{es:List Expr}{te:WE}{t:WA}{pos:Pos}{Hs H:Hp}
def aq:QA X K [] cc:=PA.imp vE λσ H Qv hx=>kE hx λHs ρ ai Q sr h f=>f [] H Hs [] [] (fw.refl sr.wf) .nil cF.nil h
def cF.app(f1:cF bE H As)(o:∀ a∈As,H1 a≠none)(f2:cF aT H1 Bs)(s:bP H H1)(k:∀ a,bE a=none->H1 a≠none->aT a=none):cF aT H (As++Bs) :=
 ⟨gV.mpr ⟨f1.1,f2.1,λa ha b hb e=>by subst e;exact o a ha (f2.2 a hb).2⟩,λa h=>by
  rcases eR.mp h with h|h
  ·exact⟨k a (f1.2 a h).1 (o a h),(f1.2 a h).2⟩
  ·exact⟨(f2.2 a h).1,s.free (f2.2 a h).2⟩⟩
def aa(ha:QE X K e te)(hr:QA X K es t)(hs:autoParam (b4 (e :: es) X.env=(false,dn e X.env) :: b4 es X.env) bv):QA X K (e :: es) (aj te t):=by exact PA.imp (qA ha hr hs) λσ H Qv hx=>kE hx λHs ρ ai Q sr h f=>⟨Hs,ρ,ai,_,sr,h,λv H1 bE m x As g1 r1 f1 q1=>⟨bE,ρ,ai,_,sr.grow g1,q1,λvs H2 aT ps Bs g2 r2 f2 q2=>f (v :: vs) H2 aT _ _ (g1.trans g2) (.cons (r1.grow g2) r2) (f1.app (λa h=>(r1.own a h).ne) f2 g1.all λa h1 h2=>g2.ng h1 h2) q2⟩⟩
def AX.sh(w:Wf Hs H){ps:List (Md × D)}(r:AX K Hs H ps vs As):ps.all AY=true->bT K Hs (ps.map (·.2)) vs:=by
 induction r with
 |nil=>exact λ_=>.nil
 |@cons m d v ps vs As Bs r rs ih =>
  intro h;simp only[DB,lT] at h;refine .cons ?_ (ih h.2)
  cases m with
  |sh=>exact r.2
  |_=>exact r.flat w h.1
def AX.ow(w:Wf Hs H){ps:List (Md × D)}(r:AX K Hs H ps vs As):ps.all IL=true->(fl=true->ps.all OY=true)->∃ Bs,Bs.Sublist As/\(ps.all AY=false->Bs≠[])/\aG K Hs H fl (ps.map (·.2)) vs Bs:=by
 induction r with
 |nil=>exact λ_ _=>⟨[],EE _,(λz=>Bool.noConfusion z),.nil⟩
 |@cons m d v ps vs A1 Cs r rs ih =>
  intro h hf;simp only[DB,lT] at h hf;obtain⟨Bs,sb,ne,q⟩:=ih h.2 λz=>(hf z).2;have sk:([]++Bs).Sublist (A1++Cs):=by simpa using sb.trans (mG _ _)
  have DH:d.flat=true->AY (m,d)=true->∃ Bs,Bs.Sublist (A1++Cs)/\(((m,d) :: ps).all AY=false->Bs≠[])/\aG K Hs H fl (((m,d) :: ps).map (·.2)) (v :: vs) Bs:=λhd ho =>
   ⟨[]++Bs,sk,λz=>ne (by rw[DB,ho] at z;simpa using z),.cons (.sh (λ_=>hd) (r.flat w hd)) q⟩
  cases m with
  |sh=>exact⟨[]++Bs,sk,λz=>ne (by simpa[AY] using z),.cons (.sh (λz=>(hf z).1) r.2) q⟩
  |bo=>exact DH h.1 h.1
  |ow b =>
   cases hd:d.flat with
   |true=>exact DH hd hd
   |false =>
    refine⟨A1++Bs,sb.append_left _,λ_ z=>r.2 (NH.mp z).1,.cons ?_ q⟩
    cases fl with
    |false=>exact cv.Rl r.1
    |true =>
     have:=(hf rfl).1
     cases b with
     |true=>exact r.1
     |false=>simp[OY,hd] at this
theorem mL:∀ {ps:List (Md × D)},eK (ps.map (·.2))=true->ps.all AY=true
 |[],_=>rfl
 | (m,d) :: ps,h=>by simp only[gd,eK,lT] at h;simp only[DB,lT];exact⟨by cases m<;>simp[AY,h.1],mL h.2⟩
def cH{x1}(h:QA X K es t):QE X K (.Tuple es x1 pos) (kR t):=by
 refine PE.imp (WW h) λσ H Qv hx=>kE hx λHs ρ ai Q sr h f=>?_;refine⟨Hs,ρ,ai,_,sr,h,λvs H1 bE ps As g1 r1 f1 q1=>?_⟩;obtain⟨hz,q⟩:=q1;have rl:=(r1.reps g1.wf)
 have hl:=rl.length;rw[b6] at hl;refine⟨by lia,λp hp=>?_⟩;have g2:=Rm (vs:=vs) g1.wf hp;have fin:=Fin.after f g1;unfold uJ at q
 cases h1:ps.all AY with
 |true =>rw[h1] at q;exact fin _ _ _ .sh _ [] g2 ⟨rfl,.tup (by lia) ic ((r1.sh g1.wf h1).same g2.sh)⟩ cF.nil q
 |false =>
  rw[h1] at q
  cases h2:ps.all IL with
  |false =>rw[h2] at q;exact fin _ _ _ .bo _ [] g2 ⟨rfl,.tup (by lia) ic (rl.same g2.all)⟩ cF.nil q
  |true =>
   rw[h2] at q;obtain⟨Bs,sb,nz,ro⟩:=r1.ow g1.wf h2 λz=>z;have iA:eK (ps.map (·.2))=false:=by
    cases hf:eK (ps.map (·.2)) with
    |false=>rfl
    |true=>rw[mL hf] at h1;cases h1
   have own:=ro.own;exact f _ _ _ (.ow _) _ Bs (g1.trans g2) ⟨.tup (by lia) ic iA (ro.grow g2.sh g2.all),nz h1⟩ ⟨sb.nodup f1.1,λa ha=>⟨g2.ng (f1.2 a (sb.subset ha)).1 (own a ha).ne,(f1.2 a (sb.subset ha)).2⟩⟩ q
def i_(h:QA X K es t):QE X K (.List es pos) (wd t):=by
 refine PE.imp (dk' h) λσ H Qv hx=>kE hx λHs ρ ai Q sr h f=>?_;refine⟨Hs,ρ,ai,_,sr,h,λvs H1 bE ps As g1 r1 f1 q1=>?_⟩;obtain⟨hz,q⟩:=q1;have rl:=(r1.reps g1.wf)
 have hl:=rl.length;rw[b6] at hl;refine⟨by lia,λp hp=>?_⟩;have g2:=OO (o:=.lst vs) g1.wf hp λ_ z=>nomatch z;have fin:=Fin.after f g1;unfold Dr at q
 cases h2:ps.all IL with
 |false =>rw[h2] at q;exact fin _ _ _ .bo _ [] g2 ⟨rfl,.list (by lia) (.inl (.inl ic)) (rl.same g2.all)⟩ cF.nil q
 |true =>
  rw[h2] at q;obtain⟨Bs,sb,nz,ro⟩:=r1.ow g1.wf h2 λz=>z;have own:=ro.own;refine f _ _ _ (.ow _) _ (p :: Bs) (g1.trans g2) ⟨.list (by lia) ic (ro.grow g2.sh g2.all),by simp⟩ ⟨kN.mpr ⟨λm=>(own p m).ne hp,sb.nodup f1.1⟩,λa ha=>?_⟩ q;rcases eB.mp ha with rfl|ha
  ·exact⟨g1.wf.sub.free hp,g1.all.free hp⟩
  ·exact⟨g2.ng (f1.2 a (sb.subset ha)).1 (own a ha).ne,(f1.2 a (sb.subset ha)).2⟩
end
def bT.gv{K:aE}(r:bT K H ds vs)(h:gv ds i=some d):∃ v,L2.gv vs i=some v/\Rep K H d v:=by
 unfold L2.gv at *
 rw[<- r.length]
 cases e:oi ds.length i with
 |none=>rw[e] at h;cases h
 |some j =>rw[e] at h;exact r.get h
def eT:W2:=λm x _ y Q=>match x with
 |.list xs=>match y with
  |.int i=>∃ d,gv xs i=some d/\cE d (f:=λd=>Q (uk m d) d) ⟨⟩
  |_=>False
 |.tup xs=>match y with
  |.int i=>∃ d,gv xs i=some d/\cE d (f:=λd=>Q (uk m d) d) ⟨⟩
  |_=>False
 |.str z=>match y with
  |.int i=>∃ c,gv z.cps.toList i=some c/\Q .sh (.str ⟨#[c]⟩)
  |_=>False
 |.dK kvs=>∃ k d,y.key1=some k/\gS kvs k=some d/\cE d (f:=λd=>Q (uk m d) d) ⟨⟩
 |.dT kvs=>match y with
  |.tup ys=>∃ ks d,dU ys=some ks/\gS kvs ks=some d/\cE d (f:=λd=>Q (uk m d) d) ⟨⟩
  |_=>False
 |_=>False
def U4(K:aE):R2:=λx y H Q=>Q6 K x y H Q\/∃ a v,x=.ref a/\lh H a y (some v)/\Q v H
def Ds(c:Nat):(⟨#[c]⟩:Str).length<=bX:=by show 1<=bX;decide
def RM.here{K:aE}(w:Wf Hs H)(r:RM K Hs H m d v As):(m=.sh/\Rep K Hs d v)\/(m≠.sh/\Rep K H d v):=by
 cases m with
 |sh=>exact .inl ⟨rfl,r.2⟩
 |_=>exact .inr ⟨(λz=>nomatch z),r.rep w⟩
section
variable {X:Cx}{K:aE}
def Jl:kU K (U4 K) eT:=by
 intro Hs H m x v As n y u Bs Qd Qv w rx ry h f;have r2:=ry.rep w;have core:∀ G:Hp,bP G H->(∀ d v,Rep K G d v->Rep K H d v/\(m=.sh->Rep K Hs d v))->Rep K G x v->U4 K v u H Qv:=by
  intro G sg up r1
  cases r1 with
  |list z s q =>
   cases r2 with
   |int i =>obtain⟨d,e,h⟩:=h;obtain⟨v',e',r'⟩:=q.gv e;obtain⟨u1,u2⟩:=up _ _ r';exact .inl (.inl ⟨_,v',bP.seq sg s,e',f.uk w u1 u2 h⟩)
   |_=>exact h.elim
  |tup _ s q =>
   cases r2 with
   |int i =>obtain⟨d,e,h⟩:=h;obtain⟨v',e',r'⟩:=q.gv e;obtain⟨u1,u2⟩:=up _ _ r';exact .inl (.inr ⟨_,v',.inl (.inl (sg _ _ s)),e',f.uk w u1 u2 h⟩)
   |_=>exact h.elim
  |str hz =>
   cases r2 with
   |int i =>obtain⟨c,e,h⟩:=h;exact .inl ⟨hz,c,e,f.sh w (.str (Ds c)) h⟩
   |_=>exact h.elim
  |dK kk s q =>obtain⟨k,d,hk,hg,h⟩:=h;have ev:=r2.key hk;subst ev;have z:=zip_get (k:=k) q;rw[hg] at z;obtain⟨v',e',r'⟩:=z;obtain⟨u1,u2⟩:=up _ _ r';exact .inr ⟨_,v',rfl,by rw[<- e'];exact lh.k' (bP.rd sg s),f.uk w u1 u2 h⟩
  |dT kk s q =>
   cases r2 with
   |tup t2 e2 q2 =>obtain⟨ks,d,hk,hg,h⟩:=h;obtain⟨b,eb,e3⟩:=Rep.kr (.tup t2 e2 q2) hk;cases eb;have z:=zip_get (k:=ks) q;rw[hg] at z;obtain⟨v',e',r'⟩:=z;obtain⟨u1,u2⟩:=up _ _ r';exact .inr ⟨_,v',rfl,by rw[<- e'];exact lh.t' (bP.rd sg s) e3,f.uk w u1 u2 h⟩
   |_=>exact h.elim
  |_=>exact h.elim
 rcases rx.here w with⟨hm,r⟩|⟨hm,r⟩
 ·exact core Hs w.sub (λd v q=>And.intro (q.same w.sub) λ_=>q) r
 ·exact core H (bP.refl H) (λd v q=>And.intro q λz=>absurd z hm) r
def ah'(hu:X.A.units+64<e9)(hK:autoParam (X.K=K) bv):xv X (U4 K):=by subst hK;refine xv.or Bk ?_;intro value slice pins s σ H x y v u Q I rx ry h hs;obtain⟨a,w,rfl,g,q⟩:=h;cases rx;exact tail_any (eq' I g) F.slot_dict_getitem.lookup (ej' (by lia) I g ry λw' s3 I3 mP=>⟨w,H,I3,mP,q⟩) hs
variable {a b:Expr}{ta tb:WE}{pos:Pos}
def fq(ha:QE X K a ta)(hb:QE X K b tb)(hs:QJ b:=by exact λ_ _=>rfl)(hK:autoParam (X.K=K) bv)(hu:X.A.units+64<e9:=by assumption):QE X K (.Subscript a b pos) (ay eT ta tb):=PE.imp (T8 (ah' hu hK) ha hb hs) (jC Jl)
end
def qS{α:Type}(xs:List α)(lo hi:Option Int):List α:=(xs.drop (HT.cy xs.length 0 lo)).take (HT.cy xs.length xs.length hi-HT.cy xs.length 0 lo)
abbrev WO:=Env->(Option Int->Prop)->Prop
def xu(t:WE):WO:=λρ Q=>t ρ λ_ x=>match x with
 |.int i=>Q (some i)
 |_=>False
def U5(m:Md)(x:D)(lo hi:Option Int)(Q:Md->D->Prop):Prop:=match x with
 |.str z=>Q .sh (.str (B8 z lo hi))
 |.list xs=>(eK xs=true/\Q (.ow true) (.list (qS xs lo hi)))\/(m=.sh/\Q (.ow false) (.list (qS xs lo hi)))
 |.tup xs=>eK xs=true/\¬ (HT.cy xs.length 0 lo=0/\HT.cy xs.length xs.length hi=xs.length)/\Q .sh (.tup (qS xs lo hi))
 |_=>False
def U6(te:WE)(tl th:WO):WE:=λρ Q=>te ρ λm x=>tl ρ λlo=>th ρ λhi=>U5 m x lo hi Q
def tpO(K:aE)(t:WO):TO:=λσ H Qv=>∃ Hs ρ ai Q,fo K Hs ρ σ H ai/\t ρ Q/\∀ o H' aC,fw Hs H aC H'->Q o->Qv o H'
abbrev QO(X:Cx)(K:aE)(e:Option Expr)(t:WO):Prop:=PO X e (tpO K t)
def yM(z:Str)(lo hi:Option Int):(B8 z lo hi).length<=z.length:=by unfold B8 Str.length;simp only[iF,nK,ED,BH];lia
def n6{α:Type}(xs:List α)(lo hi:Option Int):(qS xs lo hi).length<=xs.length:=by unfold qS;rw[nK,ED];lia
def qz{lo hi:Option Int}(h:eK xs=true):eK (qS xs lo hi)=true:=by
 rw[jQ] at *
 intro x hx;exact h x (SX (PN hx))
section
variable {X:Cx}{K:aE}{e:Expr}{lo hi:Option Expr}{te:WE}{tl th:WO}{pos p2:Pos}
def v9(h:QE X K e te):QO X K (some e) (xu te):=λpins s σ H Q I hh=>dE' h pins s σ H Q I (by
 obtain⟨Hs,ρ,ai,Qd,sr,h,f⟩:=hh;refine⟨Hs,ρ,ai,_,sr,h,λv H1 bE m x As g1 r1 f1 q1=>?_⟩;have r:=r1.rep g1.wf
 cases r with
 |int i=>exact⟨i,rfl,f _ H1 bE g1 q1⟩
 |_=>exact q1.elim)
def jX{lo hi:Option Int}(r:bT K H ds vs):bT K H (qS ds lo hi) (HM vs lo hi):=by unfold qS HM;rw[r.length];exact(r.drop _).take _
def gk'(hK:autoParam (X.K=K) bv):My X (λx lo hi H Q=>Uy K x lo hi H Q\/W8 K x lo hi H Q):=by
 subst hK;intro pins s σ H x v vl vu lo hi sl Q I rx hs pl pu h;rcases h with h|h
 ·exact Gi pins s σ H x v vl vu lo hi sl Q I rx hs pl pu h
 ·exact dH' pins s σ H x v vl vu lo hi sl Q I rx hs pl pu h
def Ew(he:QE X K e te)(hl:QO X K lo tl)(hh:QO X K hi th)(hK:autoParam (X.K=K) bv):QE X K (.Subscript e (.Slice lo hi none p2) pos) (U6 te tl th):=by
 refine PE.imp (dG' (gk' hK) he hl hh) λσ H Qv hx=>kE hx λHs ρ ai Q sr h f=>?_;refine⟨Hs,ρ,ai,_,sr,h,λv H1 bE m x As g1 r1 f1 q1=>⟨bE,ρ,ai,_,sr.grow g1,q1,λl H2 aT g2 q2=>⟨aT,ρ,ai,_,(sr.grow g1).grow g2,q2,λu H3 fR g3 q3=>?_⟩⟩⟩;have r3:=(r1.grow g2).grow g3;have fin:Fin K fR H3 Q Qv:=Fin.after f ((g1.trans g2).trans g3);have rr:=r3.rep g3.wf
 cases rr with
 |str hz=>exact .inl ⟨hz,fin.sh g3.wf (.str (iP (yM _ _ _) hz)) q3⟩
 |list z s q =>
  have hz:=q.length;rcases q3 with⟨hf,q3⟩|⟨rfl,q3⟩
  ·exact .inl ⟨_,s,fin.lst g3.wf (iP (n6 _ _ _) (by lia)) (jX q) (qz hf) q3⟩
  ·obtain⟨_,r3⟩:=r3
   cases r3 with
   |list z' s' q' =>exact .inl ⟨_,bP.seq g3.wf.sub s',fin.OQ g3.wf (iP (n6 _ _ _) (by lia)) (jX q') q3⟩
 |tup z s q =>have hz:=q.length;obtain⟨hf,hn,q3⟩:=q3;exact .inr ⟨_,_,rfl,.inl (.inl s),by rw[<- hz];exact hn,fin.tup g3.wf (iP (n6 _ _ _) (by lia)) (jX q) (qz hf) q3⟩
 |_=>exact q3.elim
end
def AZ:W1:=λ_ x Q=>match x with
 |.str z=>Q .sh (.int z.length)
 |.list xs=>Q .sh (.int xs.length)
 |.tup xs=>Q .sh (.int xs.length)
 |.dK kvs=>Q .sh (.int kvs.length)
 |.dT kvs=>Q .sh (.int kvs.length)
 |_=>False
def U7(T:String):W1:=λ_ x Q=>Q .sh (.bl (ML x.ty T))
def zi(K:aE)(r:List V->Hp->VK->Prop)(f:W1):Prop:=∀ Hs H m x v As Qd Qv,Wf Hs H->RM K Hs H m x v As->f m x Qd->Fin K Hs H Qd Qv->r [v] H Qv
section
variable {X:Cx}{K:aE}{e:Expr}{te:WE}{pos p:Pos}{x:Str}{id T:String}
def lN(br:zi K r f)(σ:St)(H:Hp)(Qv:VK)(h:nk K (gE f te) σ H Qv):T1 r (WV (nk K te) WU) σ H Qv:=by obtain⟨Hs,ρ,ai,Q,sr,h,fin⟩:=h;exact⟨Hs,ρ,ai,_,sr,h,λv H1 bE m x As g1 r1 f1 q1=>br bE H1 m x v As Q Qv g1.wf r1 q1 (Fin.after fin g1)⟩
def bj(hc:i3 X (.builtin id) r)(br:zi K r f)(hm:X.mg x=none)(hv:kK x=some (.builtin id))(he:QE X K e te)(hs:autoParam (b4 [e] X.env=(false,dn e X.env) :: b4 [] X.env) bv) (hn:x ≠ "__name__" := by decide) (tJ:(x == ("__debug__" : Str))=false:=by decide) (hg:autoParam (Gl X x) bv):QE X K (.Call (.Name x p) [e] [] pos) (gE f te) :=
 PE.imp (T3 hc hg hm hv (qA he vE hs) hn tJ hs) (lN br)
def gk(hc:i3 X (.type T) r)(br:zi K r f)(hm:X.mg x=none)(hv:kK x=some (.type T))(he:QE X K e te)(hs:autoParam (b4 [e] X.env=(false,dn e X.env) :: b4 [] X.env) bv) (hn:x ≠ "__name__" := by decide) (tJ:(x == ("__debug__" : Str))=false:=by decide) (hg:autoParam (Gl X x) bv):QE X K (.Call (.Name x p) [e] [] pos) (gE f te) :=
 PE.imp (dv' hc hg hm hv (qA he vE hs) hn tJ hs) (lN br)
def Ey(hd:(d == ti)=false)(x:vS s.heap d es ep)(Rq:(es.size:Int)<2 ^ 63)(h:∀ t t',Q (.int es.size t) { s with toks:=t' }):bq (aI prog w) A (call (.builtin "len") [.ref d]) Q E s:=by
 refine Calls.call_function_entry kind_len plain_len entry_len (args_len1 _) ?_;have mt:MeetsIn prog w (Builtin.«dict.__len__» ⟨[.ref d],[]⟩) (λ_ R s=>vS s.heap d es ep/\R (.ok (.ret (.int es.size s.toks))) { s with toks:=s.toks+1 }):=.of_wp λA R s eI=>by obtain⟨hm,h⟩:=eI;obtain⟨o,ho,hc,Rb⟩:=hm;show bq _ _ (dictSize d >>= _) _ _ s;refine aw (aw (Lc ho Rb (bG ?_)));refine aw (wpAny_pendingCount_other hd ?_);refine wpAny_ret_mkInt ?_;rw[LZ];exact h
 refine aw (bG ?_);refine aw (NF x.typ F.slot_dict_len (call_meetsIn F.slot_dict_len x.typ F.entry_dict_len (F.args_dict_len_1 _) mt ⟨x,?_⟩))
 refine aw (tf (bG ?_));refine aw (wpAny_letGo ?_);rw[if_neg (by lia)];rw[if_neg (by lia)];exact aw (wpAny_mkInt (bG ⟨_,rfl,h _ _⟩))
def bQ (hK:autoParam (X.K=K) bv):i3 X (.builtin "len") (λxs H Q=>Q5 K xs H Q\/∃ a kvs,xs=[.ref a]/\Rd H a (.dT kvs)/\Q (.int kvs.length) H):=by
 subst hK;intro pins s σ H xs us Q I r h;rcases h with h|⟨a,kvs,rfl,ha,q⟩
 ·exact yK pins s σ H xs us Q I r h
 ·obtain⟨u,rfl,ru⟩:=Vals.one r;cases ru;obtain⟨z,hd,ys,rel,o,es,ep,h1,h2,h3,h4,h5⟩:=(I.rd ha)
  have hl:es.size=kvs.length:=by have:=congrArg List.length h4;rw[BH,b6] at this;rw[this];exact rel.length.symm
  exact Ey hd ⟨o,h1,h2,h3⟩ (by rw[j3] at z;lia) λt t'=>⟨.int kvs.length,H,I.tok _,⟨t,by rw[hl]⟩,q⟩
def iQ:zi K (λxs H Q=>Q5 K xs H Q\/∃ a kvs,xs=[.ref a]/\Rd H a (.dT kvs)/\Q (.int kvs.length) H) AZ:=by
 intro Hs H m x v As Qd Qv w rx h f;have r1:=rx.rep w
 cases r1 with
 |str hz=>exact .inl ⟨hz,f.sh w (.int _) h⟩
 |list z s q=>exact .inl (.inl ⟨_,s,by rw[<- q.length];exact f.sh w (.int _) h⟩)
 |tup _ s q=>exact .inl (.inr (.inl ⟨_,.inl (.inl s),by rw[<- q.length];exact f.sh w (.int _) h⟩))
 |dK kk s q=>exact .inl (.inr (.inr ⟨_,s,by
   have:=q.length;rw[b6] at this;rw[P1,b6,<- this,P_];exact f.sh w (.int _) h⟩))
 |dT kk s q=>exact .inr ⟨_,_,rfl,s,by
   have:=q.length;rw[b6] at this;rw[P1,b6,<- this,P_];exact f.sh w (.int _) h⟩
 |_=>exact h.elim
end
section
variable {X:Cx}{K:aE}{e e2:Expr}{te:WE}{pos p:Pos}{T:String}
def vy (hK:autoParam (X.K=K) bv):i3 X (.builtin "isinstance") (λxs H Q=>∃ x d T,xs=[x,.ty T]/\Rep K H d x/\Uu T=true/\Q (.bl (ML d.ty T)) H):=by
 subst hK;intro pins s σ H xs us Q I r h;obtain⟨x,d,T,rfl,rd,hT,q⟩:=h;obtain⟨u,v,rfl,ru,rv⟩:=Vals.two r;obtain rfl:v=Value.type T:=rv;have hb:T∈["str", "int", "bool", "list", "tuple", "dict"]:=by simpa[Uu] using hT
 have fin:∀ tk,EP X pins σ Q (.bool (ML d.ty T)) { s with toks:=tk }:=λtk=>⟨.bl (ML d.ty T),H,I.tok tk,rfl,q⟩
 cases rd with
 |non=>exact Oa I ru .non (iC X.K _ T (by simp) hb) fin
 |bl b=>exact Oa I ru (.bl b) (iC X.K _ T (by simp) hb) fin
 |int i=>exact Oa I ru (.int i) (iC X.K _ T (by simp) hb) fin
 |str y=>exact Oa I ru (.str _) (iC X.K _ T (by simp) hb) fin
 |list z s' q' =>cases ru;obtain⟨its,_,pl,_⟩:=I.list s';obtain⟨o,h1,h2,_⟩:=pl.isList;exact vn Sw I.mn ⟨o,h1,h2⟩ (iC X.K "list" T (by simp) hb) (λz=>nomatch z) fin
 |tup _ s' q'=>exact Oa I ru (.tup s') (iC X.K _ T (by simp) hb) fin
 |dK _ s' q' =>cases ru;obtain⟨_,_,vs,_,p⟩:=I.rd s';obtain⟨o,es,ep,h1,h2,_⟩:=p;exact vn PH I.mn ⟨o,h1,h2.1⟩ (iC X.K "dict" T (by simp) hb) (λz=>nomatch z) fin
 |dT _ s' q' =>cases ru;obtain⟨_,_,xs,_,o,es,ep,h1,h2,_⟩:=I.rd s';exact vn PH I.mn ⟨o,h1,h2.1⟩ (iC X.K "dict" T (by simp) hb) (λz=>nomatch z) fin
def Je (hm:X.mg "isinstance" = none) (he:QE X K e te) (ht:PE X e2 (tC (.ty T))) (hT:autoParam (Uu T=true) bv) (hg:Gl X "isinstance" := by rfl) (hK:autoParam (X.K=K) bv) (hs:autoParam (b4 (e :: [e2]) X.env=(false,dn e X.env) :: b4 [e2] X.env) bv) (ll:autoParam (b4 (e2 :: []) X.env=(false,dn e2 X.env) :: b4 [] X.env) bv) (oy:autoParam ((kA pos (b4 [e2] X.env)).any (·.1)=false) bv) :
  QE X K (.Call (.Name "isinstance" p) [e,e2] [] pos) (gE (U7 T) te):=by
 refine PE.imp (T3 (vy hK) hg hm oA (qA he (qA ht vE ll) hs) (by decide) (by decide) hs oy) λσ H Qv hx=>kE hx λHs ρ ai Q sr h f=>?_;refine⟨Hs,ρ,ai,_,sr,h,λv H1 bE m x As g1 r1 f1 q1=>⟨v,x,T,rfl,r1.rep g1.wf,hT,Fin.sh (Fin.after f g1) g1.wf (.bl _) q1⟩⟩
def Em(r:Rep K H d v)(h:Ro d=some b):TN K v H b:=by
 cases r with
 |non=>cases h;rfl
 |bl b=>cases h;rfl
 |int i=>cases h;rfl
 |str hz =>cases h;exact⟨hz,rfl⟩
 |list z s q =>cases h;refine .inl ⟨_,s,?_⟩;cases q<;>rfl
 |tup _ s q =>cases h;refine .inr (.inl ⟨_,.inl (.inl s),?_⟩);cases q<;>rfl
 |dK _ s q=>cases h
 |dT _ s q=>cases h
def vV(ha:QE X K e te)(he:∀ whole,isTrue e X.env whole=(do let v <- whole;standAt e.pos;holding [v] (truthy v)):=by intro _;rfl)(hK:autoParam (X.K=K) bv):QT X K e (Rp te):=by subst hK;refine PT.imp (da' ha he) λσ H Qv hx=>kE hx λHs ρ ai Q sr h f=>?_;refine⟨Hs,ρ,ai,_,sr,h,λv H1 bE m x As g1 r1 f1 q1=>?_⟩;obtain⟨b,hb,q⟩:=q1;exact⟨b,Em (r1.rep g1.wf) hb,f b H1 bE g1 q⟩
end
def kX:Key->D
 |.inl i=>.int i
 |.inr x=>.str x
def rn:W1:=λm x Q=>match x with
 |.list xs=>(eK xs=true/\Q (.ow true) (.list xs))\/(m=.sh/\Q (.ow false) (.list xs))
 |.tup xs=>(eK xs=true/\Q (.ow true) (.list xs))\/(m=.sh/\Q (.ow false) (.list xs))
 |.dT kvs=>Q (.ow true) (.list (kvs.map λkv=>.tup (kv.1.map kX)))
 |_=>False
section
variable {X:Cx}{K:aE}
theorem gG:∀ {ks:List Key},(∀ k∈ks,AW k=true)->bT K H (ks.map kX) (ks.map kV)
 |[],_=>.nil
 |k :: ks,h=>by
  refine .cons ?_ (gG λj m=>h j (dr _ m));have:=h k dk
  cases k with
  |inl i=>exact .int i
  |inr x=>exact .str (by simpa[AW] using this)
theorem eF:∀ (ks:List Key),eK (ks.map kX)=true
 |[]=>rfl
 |k :: ks=>by simp only[gd,eK,eF ks,Qc];cases k<;>rfl
def gn(t:bR H ys ks)(h:∀ l∈ks,l.length<=bX/\∀ k∈l,AW k=true):bT K H (ks.map λl=>.tup (l.map kX)) ys:=by
 induction ys generalizing ks with
 |nil=>rw[show ks=[] from Paired.n0 t];exact .nil
 |cons y ys ih =>obtain⟨k,ks,rfl,⟨b,rfl,e⟩,t2⟩:=Paired.c t;exact .cons (.tup (by rw[b6];exact(h _ dk).1) e (gG (h _ dk).2)) (ih t2 λl m=>h l (dr _ m))
theorem dI:∀ (ks:List (List Key)),eK (ks.map λl=>.tup (l.map kX))=true
 |[]=>rfl
 |l :: ks=>by simp only[gd,eK,dI ks,Qc,D.flat,eF]
def fD (hc:autoParam (X.calm=true) bv) (hK:autoParam (X.K=K) bv):i3 X (.type "list") (λxs H Q=>(∃ p ys,xs=[.ref p]/\(fh K H p ys\/ox K H p ys)/\∀ l,H l=none->Q (.ref l) (upd H l (.lst ys)))\/ud xs H Q):=by subst hK;exact dX'.or (u_ hc)
def mW:zi K (λxs H Q=>(∃ p ys,xs=[.ref p]/\(fh K H p ys\/ox K H p ys)/\∀ l,H l=none->Q (.ref l) (upd H l (.lst ys)))\/ud xs H Q) rn:=by
 intro Hs H m x v As Qd Qv w rx h f;have r1:=rx.rep w
 cases r1 with
 |list z s q =>
  have hl:=q.length;rcases h with⟨hf,h⟩|⟨rfl,h⟩
  ·exact .inl ⟨_,_,rfl,.inl s,f.lst w (by lia) q hf h⟩
  ·obtain⟨_,rx⟩:=rx
   cases rx with
   |list z' s' q' =>exact .inl ⟨_,_,rfl,.inl (bP.seq w.sub s'),f.OQ w (by lia) q' h⟩
 |tup z s q =>
  have hl:=q.length;rcases h with⟨hf,h⟩|⟨rfl,h⟩
  ·exact .inl ⟨_,_,rfl,.inr (.inl (.inl s)),f.lst w (by lia) q hf h⟩
  ·obtain⟨_,rx⟩:=rx
   cases rx with
   |tup z' s' q' =>exact .inl ⟨_,_,rfl,.inr (.inl (.inl (w.sub _ _ s'))),f.OQ w (by lia) q' h⟩
 |@dT _ vs kvs kk s q =>
  refine .inr ⟨_,s,λys l ht hl=>?_⟩;have hlen:=q.length;rw[b6] at hlen;have e:((kvs.map (·.1)).zip vs).map (·.1)=kvs.map (·.1):=LN (by rw[b6];exact LX hlen);rw[e] at ht;have rr:=gn (K:=K) ht (λl m=>by
   obtain⟨p,hp,rfl⟩:=b5.mp m;exact kk.2 p hp)
  have ff:=dI (kvs.map (·.1));rw[fe] at rr ff;exact f.lst w (by rw[b6];exact kk.1) rr ff h l hl
 |_=>exact h.elim
end
section
variable {K:aE}{Hs H:Hp}
def SR.xV(r:Rep K Hs d v)(i:Nat)(s:SR K Hs H ρ σ ai):∃ c9,c9.Sublist ai/\SR K Hs H (ρ.set i (some (.sh d))) (σ.set i (some v)) c9:=by
 induction s generalizing i with
 |nil=>exact⟨[],EE _,.nil⟩
 |non s ih =>
  cases i with
  |zero=>exact⟨_,List.Sublist.refl _,.sh r s⟩
  |succ i=>obtain⟨t,a,b⟩:=ih i;exact⟨t,a,.non b⟩
 |sh q s ih =>
  cases i with
  |zero=>exact⟨_,List.Sublist.refl _,.sh r s⟩
  |succ i=>obtain⟨t,a,b⟩:=ih i;exact⟨t,a,.sh q b⟩
 |xc s ih =>
  cases i with
  |zero=>exact⟨_,List.Sublist.refl _,.sh r s⟩
  |succ i=>obtain⟨t,a,b⟩:=ih i;exact⟨t,a,.xc b⟩
 |ow ne q s ih =>
  cases i with
  |zero=>exact⟨_,mG _ _,.sh r s⟩
  |succ i=>obtain⟨t,a,b⟩:=ih i;exact⟨_,a.append_left _,.ow ne q b⟩
 |lk ne q s ih =>
  cases i with
  |zero=>exact⟨_,mG _ _,.sh r s⟩
  |succ i=>obtain⟨t,a,b⟩:=ih i;exact⟨_,a.append_left _,.lk ne q b⟩
 |ob q s ih =>
  cases i with
  |zero=>exact⟨_,mG _ _,.sh r s⟩
  |succ i=>obtain⟨t,a,b⟩:=ih i;exact⟨_,a.append_left _,.ob q b⟩
def lL{As ai:List ah}(nd:As.Nodup)(n:ai.Nodup)(dj:∀ a∈As,a∉ai):(As++ai).Nodup:=gV.mpr ⟨nd,n,λa ha b hb e=>dj a ha (e ▸ hb)⟩
def cM{As ai B t:List ah}(n:(B++ai).Nodup)(dj:∀ a∈As,a∉B++ai)(a:t.Nodup)(b:∀ x∈t,x∈ai\/x∈As):(B++t).Nodup/\∀ x∈B++t,x∈B++ai\/x∈As:=by
 obtain⟨n1,n2,n3⟩:=gV.mp n;refine⟨gV.mpr ⟨n1,a,λx hx y hy e=>?_⟩,λx hx=>?_⟩
 ·subst e;rcases b x hy with z|z
  ·exact n3 x hx x z rfl
  ·exact dj x z (kc _ hx)
 ·rcases eR.mp hx with z|z
  ·exact .inl (kc _ z)
  ·exact(b x z).imp (λz=>fS _ z) λz=>z
def SR.wu{d:D}{v:V}{fl:Bool}{As:List ah}(ne:As≠[])(r:cv K Hs H fl d v As)(nd:As.Nodup){ρ:Env}{σ:St}{ai:List ah}(i:Nat)(s:SR K Hs H ρ σ ai):ai.Nodup->(∀ a∈As,a∉ai) ->
  ∃ c9,c9.Nodup/\(∀ a∈c9,a∈ai\/a∈As)/\SR K Hs H (ρ.set i (some (.ow fl d))) (σ.set i (some v)) c9:=by
 induction s generalizing i with
 |nil=>exact λn _=>⟨[],n9,(λa h=>wa h),.nil⟩
 |non s ih =>
  intro n dj
  cases i with
  |zero=>exact⟨_,lL nd n dj,λa h=>(eR.mp h).symm,.ow ne r s⟩
  |succ i=>obtain⟨t,a,b,c⟩:=ih i n dj;exact⟨t,a,b,.non c⟩
 |sh q s ih =>
  intro n dj
  cases i with
  |zero=>exact⟨_,lL nd n dj,λa h=>(eR.mp h).symm,.ow ne r s⟩
  |succ i=>obtain⟨t,a,b,c⟩:=ih i n dj;exact⟨t,a,b,.sh q c⟩
 |xc s ih =>
  intro n dj
  cases i with
  |zero=>exact⟨_,lL nd n dj,λa h=>(eR.mp h).symm,.ow ne r s⟩
  |succ i=>obtain⟨t,a,b,c⟩:=ih i n dj;exact⟨t,a,b,.xc c⟩
 |ow ne' q s ih =>
  intro n dj;obtain⟨n1,n2,n3⟩:=gV.mp n;have Fn:=λa ha m=>dj a ha (fS _ m)
  cases i with
  |zero=>exact⟨_,lL nd n2 Fn,λa h=>(eR.mp h).symm.imp (λz=>fS _ z) λz=>z,.ow ne r s⟩
  |succ i=>obtain⟨t,a,b,c⟩:=ih i n2 Fn;exact⟨_,(cM n dj a b).1,(cM n dj a b).2,.ow ne' q c⟩
 |lk ne' q s ih =>
  intro n dj;obtain⟨n1,n2,n3⟩:=gV.mp n;have Fn:=λa ha m=>dj a ha (fS _ m)
  cases i with
  |zero=>exact⟨_,lL nd n2 Fn,λa h=>(eR.mp h).symm.imp (λz=>fS _ z) λz=>z,.ow ne r s⟩
  |succ i=>obtain⟨t,a,b,c⟩:=ih i n2 Fn;exact⟨_,(cM n dj a b).1,(cM n dj a b).2,.lk ne' q c⟩
 |ob q s ih =>
  intro n dj;obtain⟨n1,n2,n3⟩:=gV.mp n;have Fn:=λa ha m=>dj a ha (fS _ m)
  cases i with
  |zero=>exact⟨_,lL nd n2 Fn,λa h=>(eR.mp h).symm.imp (λz=>fS _ z) λz=>z,.ow ne r s⟩
  |succ i=>obtain⟨t,a,b,c⟩:=ih i n2 Fn;exact⟨_,(cM n dj a b).1,(cM n dj a b).2,.ob q c⟩
def asg:Md->D->Option Sl
 |.sh,d=>some (.sh d)
 |.ow fl,d=>some (.ow fl d)
 |_,d=>bif d.flat then some (.sh d) else none
def fo.set(i:Nat)(s:fo K Hs ρ σ H ai)(r:RM K Hs H m d v As)(nd:As.Nodup)(dj:∀ a∈As,Hs a=none/\a∉ai)(e:asg m d=some sl) :
  ∃ c9,fo K Hs (ρ.set i (some sl)) (σ.set i (some v)) H c9:=by
 have shc:Rep K Hs d v->∃ c9,fo K Hs (ρ.set i (some (.sh d))) (σ.set i (some v)) H c9:=λr=>by obtain⟨t,a,b⟩:=s.sr.xV r i;exact⟨t,b,s.wf,a.nodup s.sL,λx hx=>s.own x (a.subset hx)⟩
 cases m with
 |sh=>cases e;exact shc r.2
 |ow fl =>cases e;obtain⟨t,a,b,c⟩:=SR.wu r.2 r.1 nd i s.sr s.sL λa ha=>(dj a ha).2;exact⟨t,c,s.wf,a,λx hx=>(b x hx).elim (s.own x) λz=>(dj x z).1⟩
 |_ =>
  cases hf:d.flat with
  |true =>simp only[asg,hf,cond_true,Option.some.injEq] at e;subst e;exact shc (r.flat s.wf hf)
  |false=>simp[asg,hf] at e
end
section
variable {X:Cx}{K:aE}{e c:Expr}{te:WE}{tc:WT}{pos:Pos}{st:Stmt}{a b rest:List Stmt}{t u:WS}
def PS.imp{te xE:TS}(h:PS X st te)(i:∀ D σ H,xE D σ H->te D σ H):PS X st xE:=λpins s σ H D I q=>h pins s σ H D I (i D σ H q)
def mI.imp{te xE:TS}(h:mI X a te)(i:∀ D σ H,xE D σ H->te D σ H):mI X a xE:=λpins s σ H D I q=>h pins s σ H D I (i D σ H q)
def bV:WS:=λE ρ=>E.nx ρ
def cf(t u:WS):WS:=λE ρ=>t { E with nx:=u E } ρ
def kF(te:WE):WS:=λE ρ=>te ρ E.rt
def zu(te:WE):WS:=λE ρ=>te ρ λ_ _=>E.nx ρ
def eh(i:Nat)(te:WE):WS:=λE ρ=>te ρ λm d=>match asg m d with
 |some sl=>E.nx (ρ.set i (some sl))
 |none=>False
def jv(c:WT)(t u:WS):WS:=λE ρ=>c ρ λb=>if b=true then t E ρ else u E ρ
def vO:WS:=λ_ _=>False
def aM:zh X K L [] bV:=mI.imp cc' λD σ H hx=>cU hx λHs ρ ai E sr h k1 _ _ _=>k1 σ H Hs ρ ai (bP.refl _) sr h
def yS{D:Ends}(h:Ct K L (cf t u) D σ H):Wo (Ct K L t) (Ct K L u) D σ H:=by
 obtain⟨Hs,ρ,ai,E,sr,h,k1,k2,k3,k4,kx⟩:=h;refine⟨Hs,ρ,ai,{ E with nx:=u E },sr,h,λcq H' aC cw c9 s U8 q=>?_,k2,k3,k4,kx⟩;exact⟨aC,cw,c9,E,U8,q,λk9 H2 aT g9 fi s2=>k1 k9 H2 aT g9 fi (s.trans s2),λk9 H2 aT g9 fi s2=>k2 k9 H2 aT g9 fi (s.trans s2),λk9 H2 aT g9 fi s2=>k3 k9 H2 aT g9 fi (s.trans s2),
  λv H2 aT m d As s2=>k4 v H2 aT m d As (s.trans s2),λn H2 s2=>kx n H2 (s.trans s2)⟩
def ak(h1:QS X K L st t)(h2:zh X K L rest u):zh X K L (st :: rest) (cf t u):=mI.imp (Wq h1 h2) λD σ H h=>yS h
def au(h1:QS X K L st t):zh X K L [st] t:=Wr h1
def vX:zh X K L a vO:=mI.imp ci' λD σ H hx=>cU hx λHs ρ ai E sr h _ _ _ _=>h
def bf(he:QE X K e te):QS X K L (.Return (some e) pos) (kF te):=PS.imp (Tv he) λD σ H hx=>cU hx λHs ρ ai E sr h k1 k2 k3 k4 =>
 ⟨Hs,ρ,ai,_,sr,h,λv H1 bE m d As g1 r1 f1 q1=>k4 v H1 bE m d As g1.sh g1.wf r1 f1.1 (λa ha=>(f1.2 a ha).1) q1⟩
def uF(i:Nat):WS:=λE ρ=>match ρ[i]? with
 |some (some (.sh d))=>E.rt .sh d
 |some (some (.ow fl d))=>E.rt (.ow fl) d
 |_=>False
def SR.at{ρ:Env}{σ:St}{ai:List ah}{i:Nat}{fl:Bool}{d:D}{Hs H:Hp}(s:SR K Hs H ρ σ ai)(e:ρ[i]? = some (some (.ow fl d))):∃ v As,σ[i]? = some (some v)/\As≠[]/\cv K Hs H fl d v As/\As.Sublist ai:=by
 induction s generalizing i with
 |nil=>simp at e
 |non s ih =>
  cases i with
  |zero=>simp at e
  |succ i=>exact ih e
 |sh r s ih =>
  cases i with
  |zero=>simp at e
  |succ i=>exact ih e
 |xc s ih =>
  cases i with
  |zero=>simp at e
  |succ i=>exact ih e
 |ow ne r s ih =>
  cases i with
  |zero=>simp at e;obtain⟨rfl,rfl⟩:=e;exact⟨_,_,rfl,ne,r,LH _ _⟩
  |succ i =>obtain⟨v,As,a,b,c,d⟩:=ih e;exact⟨v,As,a,b,c,d.trans (mG _ _)⟩
 |lk ne r s ih =>
  cases i with
  |zero=>simp at e
  |succ i =>obtain⟨v,As,a,b,c,d⟩:=ih e;exact⟨v,As,a,b,c,d.trans (mG _ _)⟩
 |ob r s ih =>
  cases i with
  |zero=>simp at e
  |succ i =>obtain⟨v,As,a,b,c,d⟩:=ih e;exact⟨v,As,a,b,c,d.trans (mG _ _)⟩
def qT{i:Nat}(he:PE X e (ER i)):QS X K L (.Return (some e) pos) (uF i):=PS.imp (Tv he) λD σ H hx=>cU hx λHs ρ ai E sr h k1 k2 k3 k4=>by
 unfold uF at h;split at h
 ·rename_i d e1;obtain⟨v,e2,r⟩:=sr.sr.get e1;exact⟨v,e2,k4 v H Hs .sh d [] (bP.refl _) sr.wf ⟨rfl,r⟩ n9 (λa ha=>nomatch ha) h⟩
 ·rename_i fl d e1;obtain⟨v,As,e2,ne,r,sb⟩:=sr.sr.at e1;exact⟨v,e2,k4 v H Hs (.ow fl) d As (bP.refl _) sr.wf ⟨r,ne⟩ (sb.nodup sr.sL) (λa ha=>sr.own a (sb.subset ha)) h⟩
 ·exact h.elim
def xF(he:QE X K e te)(hs:autoParam (xh e none pos.line X.env=pure false) bv):QS X K L (.Expr e pos) (zu te):=PS.imp (Qr he hs) λD σ H hx=>cU hx λHs ρ ai E sr h k1 k2 k3 k4 =>
 ⟨Hs,ρ,ai,_,sr,h,λv H1 bE m d As g1 r1 f1 q1=>k1 σ H1 bE ρ ai g1.sh (sr.grow g1) q1⟩
def aB(i:Nat){x:Str}{pos':Pos}(he:QE X K e te)(hs:autoParam (xh e (some (.Name x pos')) pos.line X.env=pure false) bv) (hf:X.fn x=true\/X.env.scope.names.lookup x=some .local:=by first|exact .inl rfl|exact .inr rfl|assumption) (hN:X.N.Nodup:=by assumption) (hi:autoParam (X.N[i]? = some x) bv) (hx:Loc X.env.scope x:=by first|exact .inl rfl|exact .inr rfl):QS X K L (.Assign [.Name x pos'] e pos) (eh i te):=PS.imp (TC hN hi hx he hs hf) λD σ H hx=>cU hx λHs ρ ai E sr h k1 k2 k3 k4=>by
 refine⟨Hs,ρ,ai,_,sr,h,λv H1 bE m d As g1 r1 f1 q1=>?_⟩
 cases e:asg m d with
 |none=>rw[e] at q1;exact q1.elim
 |some sl =>rw[e] at q1;obtain⟨c9,s'⟩:=(sr.grow g1).set i r1 f1.1 (λa ha=>⟨(f1.2 a ha).1,λm=>(sr.sr.own a m).ne (f1.2 a ha).2⟩) e;exact k1 _ H1 bE _ c9 g1.sh s' q1
def bZ(hc:QT X K c tc)(ha:zh X K L a t)(hb:zh X K L b u):QS X K L (.If c a b pos) (jv tc t u):=PS.imp (cg' hc ha hb) λD σ H hx=>oZ hx λHs ρ ai E sr h k1 k2 k3 k4 kx=>by
 refine⟨Hs,ρ,ai,_,sr,h,λk H1 bE g1 q1=>?_⟩;have k1':∀ cq H' aC cw c9,bP bE aC->fo K aC cw cq H' c9->E.nx cw->D.nx cq H':=λk9 H2 aT g9 fi s2=>k1 k9 H2 aT g9 fi (g1.sh.trans s2);have k2':∀ cq H' aC cw c9,bP bE aC->fo K aC cw cq H' c9->E.bk cw->D.bk cq H':=λk9 H2 aT g9 fi s2=>k2 k9 H2 aT g9 fi (g1.sh.trans s2);have k3':∀ cq H' aC cw c9,bP bE aC->fo K aC cw cq H' c9->E.ct cw->D.ct cq H':=λk9 H2 aT g9 fi s2=>k3 k9 H2 aT g9 fi (g1.sh.trans s2)
 cases k with
 |true=>exact⟨bE,ρ,ai,E,sr.grow g1,q1,k1',k2',k3',(λv H2 aT m d As s2=>k4 v H2 aT m d As (g1.sh.trans s2)),λn H2 s2=>kx n H2 (g1.sh.trans s2)⟩
 |false=>exact⟨bE,ρ,ai,E,sr.grow g1,q1,k1',k2',k3',(λv H2 aT m d As s2=>k4 v H2 aT m d As (g1.sh.trans s2)),λn H2 s2=>kx n H2 (g1.sh.trans s2)⟩
def zk(Hs H:Hp)(As:List ah):Hp:=λa=>if a∈As then H a else Hs a
def jg(n:∀ a∈As,Hs a=none):bP Hs (zk Hs H As):=λa o e=>by unfold zk;rw[if_neg λm=>by rw[n a m] at e;cases e];exact e
def Bt(w:Wf Hs H)(o:∀ a∈As,Own H a):Wf (zk Hs H As) H:=⟨λa u e=>by
  unfold zk at e;by_cases m:a∈As
  ·rw[if_pos m] at e;exact e
  ·rw[if_neg m] at e;exact w.sub a u e,λa vs e=>by
  unfold zk;rw[if_neg λm=>(o a m).Bl e];exact w.kC a vs e⟩
def Fs:Sl->Sl
 |.sh d=>.sh d
 |.ow _ d=>.sh d
 |.lk a fl d=>.lk a fl d
 |.xc a=>.xc a
 |.ob a p=>.ob a p
def OZ:Sl->Sl
 |.sh d=>.sh d
 |.ow _ d=>.sh d
 |.lk _ _ d=>.sh d
 |.xc a=>.xc a
 |.ob a _=>.xc a
def O0(i:Nat)(ρ:Env):Env:=match ρ[i]? with
 |some (some sl)=>ρ.set i (some (Fs sl))
 |_=>ρ
def ig{As ai B t:List ah}(n:(B++ai).Nodup)(a:As.Sublist ai)(c:∀ x∈As,x∉t):∀ x∈As,x∉B++t:=λx hx m=>by
 obtain⟨n1,n2,n3⟩:=gV.mp n;rcases eR.mp m with z|z
 ·exact n3 x z x (a.subset hx) rfl
 ·exact c x hx z
def SR.pz(i:Nat)(s:SR K Hs H ρ σ ai):ρ[i]? = some (some (.ow fl d))->ai.Nodup ->
  ∃ (As c9:List ah),As.Sublist ai/\c9.Sublist ai/\(∀ a∈As,a∉c9)/\∀ aC,bP Hs aC->(∀ a∈As,aC a=H a)->SR K aC H (ρ.set i (some (.sh d))) σ c9:=by
 induction s generalizing i with
 |nil=>intro e;simp at e
 |non q ih =>
  intro e n
  cases i with
  |zero=>simp at e
  |succ i =>obtain⟨As,t,a,b,c,d⟩:=ih i e n;exact⟨As,t,a,b,c,λaC s k=>.non (d aC s k)⟩
 |sh r q ih =>
  intro e n
  cases i with
  |zero=>simp at e
  |succ i =>obtain⟨As,t,a,b,c,d⟩:=ih i e n;exact⟨As,t,a,b,c,λaC s k=>.sh (r.same s) (d aC s k)⟩
 |xc q ih =>
  intro e n
  cases i with
  |zero=>simp at e
  |succ i =>obtain⟨As,t,a,b,c,d⟩:=ih i e n;exact⟨As,t,a,b,c,λaC s k=>.xc (d aC s k)⟩
 |ow ne r q ih =>
  intro e n;obtain⟨n1,n2,n3⟩:=gV.mp n
  cases i with
  |zero =>obtain⟨rfl,rfl⟩:=e;exact⟨_,_,LH _ _,mG _ _,λa h m=>n3 a h a m rfl,λaC s k=>.sh (r.rep s k) (q.fz s λ_ _=>rfl)⟩
  |succ i =>obtain⟨As,t,a,b,c,d⟩:=ih i e n2;exact⟨As,_,a.trans (mG _ _),b.append_left _,ig n a c,λaC s k=>.ow ne (r.fz s λ_ _=>rfl) (d aC s k)⟩
 |lk ne r q ih =>
  intro e n;obtain⟨n1,n2,n3⟩:=gV.mp n
  cases i with
  |zero=>simp at e
  |succ i =>obtain⟨As,t,a,b,c,d⟩:=ih i e n2;exact⟨As,_,a.trans (mG _ _),b.append_left _,ig n a c,λaC s k=>.lk ne (r.fz s λ_ _=>rfl) (d aC s k)⟩
 |@ob _ _ _ _ _ p r q ih =>
  intro e n;obtain⟨n1,n2,n3⟩:=gV.mp n
  cases i with
  |zero=>simp at e
  |succ i =>obtain⟨As,t,a,b,c,d⟩:=ih i e n2;exact⟨As,_,a.trans (mG _ _),b.append_left _,ig n a c,λaC s k=>.ob (p.fz (qR s) (λ_ _=>rfl) r) (d aC s k)⟩
def fo.pz(i:Nat)(s:fo K Hs ρ σ H ai):∃ aC c9,bP Hs aC/\fo K aC (O0 i ρ) σ H c9:=by
 unfold O0;split
 ·rename_i sl e;have keep:Fs sl=sl->∃ aC c9,bP Hs aC/\fo K aC (ρ.set i (some (Fs sl))) σ H c9:=λhs=>by
   have e2:ρ.set i (some (Fs sl))=ρ:=by
    apply Dp;intro j;rw[List.getElem?_set];by_cases h:i=j
    ·subst h;rw[if_pos rfl,e];have:i<ρ.length:=(iE.mp e).1;simp[this,hs]
    ·rw[if_neg h]
   rw[e2];exact⟨Hs,ai,bP.refl _,s⟩
  cases sl with
  |sh d=>exact keep rfl
  |xc a=>exact keep rfl
  |lk a fl d=>exact keep rfl
  |ob a p=>exact keep rfl
  |ow fl d =>obtain⟨As,t,a,b,c,g⟩:=SR.pz i s.sr e s.sL;have hn:∀ a∈As,Hs a=none:=λx hx=>s.own x (a.subset hx);have ho:∀ a∈As,Own H a:=λx hx=>s.sr.own x (a.subset hx);refine⟨zk Hs H As,t,jg hn,g _ (jg hn) λx hx=>by unfold zk;rw[if_pos hx],Bt s.wf ho,b.nodup s.sL,λx hx=>?_⟩;unfold zk;rw[if_neg λm=>c x m hx];exact s.own x (b.subset hx)
 ·exact⟨Hs,ai,bP.refl _,s⟩
def ku(i:Nat)(t:WS):WS:=λE ρ=>t E (O0 i ρ)
def Bc{D:Ends}(h:Ct K L (ku i t) D σ H):Ct K L t D σ H:=by
 obtain⟨Hs,ρ,ai,E,sr,h,k1,k2,k3,k4,kx⟩:=h;obtain⟨aC,c9,s,U8⟩:=sr.pz i;exact⟨aC,_,c9,E,U8,h,λk9 H2 aT g9 fi s2=>k1 k9 H2 aT g9 fi (s.trans s2),λk9 H2 aT g9 fi s2=>k2 k9 H2 aT g9 fi (s.trans s2),λk9 H2 aT g9 fi s2=>k3 k9 H2 aT g9 fi (s.trans s2),
  λv H2 aT m d As s2=>k4 v H2 aT m d As (s.trans s2),λn H2 s2=>kx n H2 (s.trans s2)⟩
def bh(i:Nat)(h:QS X K L st t):QS X K L st (ku i t):=PS.imp h λD σ H h=>Bc h
def jz(bE H1 aC H':Hp):Hp:=λa=>match H' a with
 |some (.tup vs)=>some (.tup vs)
 |_=>match H1 a with
  |none=>aC a
  |some _=>bE a
def gh(w:Wf bE H1)(s:bP H1 aC)(w':Wf aC H'):fw bE H1 (jz bE H1 aC H') H':=by
 have sa:bP H1 H':=s.trans w'.sub;have tp:∀ a vs,H' a=some (.tup vs)->jz bE H1 aC H' a=some (.tup vs):=λa vs e=>by unfold jz;rw[e]
 have nt:∀ a,(∀ vs,H' a≠some (.tup vs))->jz bE H1 aC H' a=match H1 a with
  |none=>aC a
  |some _=>bE a:=λa h=>by
  unfold jz;split
  ·rename_i vs e;exact absurd e (h vs)
  ·rfl
 refine⟨sa,λa o e=>?_,⟨λa o e=>?_,tp⟩,λa h=>?_⟩
 ·have e1:=w.sub a o e;have e2:=sa a o e1;by_cases ht:∃ vs,o=.tup vs
  ·obtain⟨vs,rfl⟩:=ht;exact tp a vs e2
  ·rw[nt a λvs z=>ht ⟨vs,by rw[e2] at z;exact Option.some.inj z⟩,e1];exact e
 ·by_cases ht:∃ vs,H' a=some (.tup vs)
  ·obtain⟨vs,z⟩:=ht;rw[tp a vs z] at e;rw[z];exact e
  ·rw[nt a λvs z=>ht ⟨vs,z⟩] at e
   cases q:H1 a with
   |none=>rw[q] at e;exact w'.sub a o e
   |some u =>rw[q] at e;have:=w.sub a o e;exact sa a o this
 ·cases q:H1 a with
  |none=>exact .inr rfl
  |some u =>
   refine .inl ?_;by_cases ht:∃ vs,H' a=some (.tup vs)
   ·obtain⟨vs,z⟩:=ht;have:=sa a u q;rw[z] at this;cases this;rw[w.kC a vs q];exact λz=>nomatch z
   ·rw[nt a λvs z=>ht ⟨vs,z⟩,q] at h;exact h
def xK{bE H1 aC H':Hp}{a:ah}(s:bP H1 aC)(h:aC a=none)(o:Own H' a):jz bE H1 aC H' a=none/\H1 a=none:=by
 have h1:=s.free h;refine⟨?_,h1⟩;unfold jz;split
 ·rename_i vs e;exact absurd e o.Bl
 ·rw[h1];exact h
def Fu:Md->D->Md
 |.ow true,_=>.ow true
 |_,d=>bif d.flat then .sh else .bo
def rZ(w:Wf bE H1)(s:bP H1 aC)(w':Wf aC H')(r:RM K aC H' m d v As)(nd:As.Nodup)(own:∀ a∈As,aC a=none) :
  ∃ hU,RM K (jz bE H1 aC H') H' (Fu m d) d v hU/\cF (jz bE H1 aC H') H1 hU:=by
 have g:=gh w s w';have other:∃ hU,RM K (jz bE H1 aC H') H' (bif d.flat then .sh else .bo) d v hU/\cF (jz bE H1 aC H') H1 hU:=by
  cases hf:d.flat with
  |true=>exact⟨[],⟨rfl,(r.rep w').fL g.wf.kC hf⟩,cF.nil⟩
  |false=>exact⟨[],⟨rfl,r.rep w'⟩,cF.nil⟩
 cases m with
 |sh=>exact other
 |bo=>exact other
 |ow fl =>
  cases fl with
  |false=>exact other
  |true=>exact⟨As,⟨cv.leaves (λa vs e=>g.wf.kC a vs (w'.sub _ _ e)) r.1,r.2⟩,nd,λa h=>xK s (own a h) (r.own a h)⟩
abbrev i7:=List D->(Md->D->Prop)->Prop
def fQ(K:aE)(sp:i7):Sp:=λvs H Qv _=>∃ ds Qd,bT K H ds vs/\sp ds Qd /\
 ∀ v H' aC m d As,bP H aC->Wf aC H'->RM K aC H' m d v As->As.Nodup->(∀ a∈As,aC a=none)->Qd m d->Qv v H'
def aQ(n:Nat)(ds:List D):Env:=ds.map (λd=>some (.sh d))++List.replicate (n-ds.length) none
def SR.start(r:bT K H ds vs):SR K H H (ds.map (λd=>some (.sh d))++List.replicate n none) (vs.map some++List.replicate n none) []:=by
 induction ds generalizing vs with
 |nil =>
  rw[r.n0]
  induction n with
  |zero=>exact .nil
  |succ n ih=>exact .non ih
 |cons d ds ih =>obtain⟨u,us,rfl,r,rs⟩:=r.c;exact .sh r (ih rs)
def wA(h:fQ K sp vs H Qv E)(hp:∀ ds Q,sp ds Q->t { nx:=λ_=>Q .sh .non,rt:=Q } (aQ N.length ds)) :
  Ct K L0 t { nx:=λ_ H'=>Qv .non H',rt:=Qv } (start N vs) H:=by
 obtain⟨ds,Qd,rs,hs,fin⟩:=h;have hl:=rs.length;refine⟨H,aQ N.length ds,[],{ nx:=λ_=>Qd .sh .non,rt:=Qd },⟨?_,⟨bP.refl _,λ_ _ e=>e⟩,n9,λa h=>nomatch h⟩,hp ds Qd hs,?_,?_,?_,?_,λ_ _ _ _=>trivial⟩
 ·unfold aQ start;rw[hl];exact SR.start rs
 ·exact λcq H' aC cw c9 s sr q=>fin .non H' aC .sh .non [] s sr.wf ⟨rfl,.non⟩ n9 (λa h=>nomatch h) q
 ·exact λcq H' aC cw c9 s sr q=>q.elim
 ·exact λcq H' aC cw c9 s sr q=>q.elim
 ·exact λv H' aC m d As s w r nd own q=>fin v H' aC m d As s w r nd own q
def U9.ok{P:d5}{st:Stmt}{N ps:List Str}(F:B5 K x qual st f fd)(S:Ob N ps (mr st))(len:∀ ds Q,sp ds Q->ds.length=ps.length)(Od:∀ (gp:ae) (A:e7) (outer:List PySem.Env) (s:ax) (H:Hp) (E:XK),mN k (A.deeper (envOfC qual (mr st) s.heap.objs.size f gp))->zh (BQ vF P w K mg base N qual (mr st) f gp A outer s H E).EV K L0 (xA st) t)(hp:∀ ds Q,sp ds Q->t { nx:=λ_=>Q .sh .non,rt:=Q } (aQ N.length ds)):y3 P w K mg base vF (k+1) f fd ps (fQ K sp) :=
 F.ok S (λvs H Q E ⟨ds,Qd,rs,hs,_⟩=>by rw[<- rs.length];exact len ds Qd hs) λgp A outer s H vs Q E hr hs=>⟨_,Od gp A outer s H E hr,wA hs hp⟩
def aH(sp:i7)(t:WA):WE:=λρ Q=>t ρ λps=>sp (ps.map (·.2)) λm d=>cE (m,d) (f:=λp=>Q (Fu p.1 p.2) p.2) ⟨⟩
def wV{sp:i7}{t:WA}{σ:St}{H:Hp}{Qv:VK}{E:XK}(h:nk K (aH sp t) σ H Qv):TY (fQ K sp) [] E (tpA K t) σ H Qv:=by obtain⟨Hs,ρ,ai,Q,sr,h,f⟩:=h;refine⟨Hs,ρ,ai,_,sr,h,λvs H1 bE ps As g1 r1 f1 q1=>?_⟩;refine⟨_,_,by rw[vv];exact r1.reps g1.wf,q1,λv H' aC m d As s w r nd own q=>?_⟩;obtain⟨hU,r',fr⟩:=rZ g1.wf s w r nd own;exact Fin.after f g1 v H' _ (Fu m d) d hU (gh g1.wf s w) r' fr q
def aJ {k:Nat} {x:Str} {ps:List Str} {sp:i7} {p:Pos} {es:List Expr} {t:WA} (C:Q_ X.prog X.w X.K X.mg X.base k x ps (fQ K sp)) (ha:QA X K (e :: es) t) (hg:autoParam (Gl X x) bv) (tJ:(x == ("__debug__" : Str))=false:=by decide) (he:autoParam (b4 (e :: es) X.env=(false,dn e X.env) :: b4 es X.env) bv) (oy:autoParam ((kA pos (b4 es X.env)).any (·.1)=false) bv) (hr:mN k X.A:=by exact mN.mono (by assumption) (by decide)):QE X K (.Call (.Name x p) (e :: es) [] pos) (aH sp t):=PE.imp (Hn C hr ha hg tJ he oy) λσ H Qv h=>wV h
end
abbrev WG:=D->Env->(Env->Prop)->Prop
def tpG(K:aE)(g:WG):TG:=λv σ H Qv=>∃ Hs ρ ai d Q,fo K Hs ρ σ H ai/\Rep K Hs d v/\g d ρ Q/\∀ cq cw c9,fo K Hs cw cq H c9->(∀ a∈c9,a∈ai)->Q cw->Qv cq H
abbrev QG(X:Cx)(K:aE)(e:Expr)(g:WG):Prop:=PG X e (tpG K g)
def gN(i:Nat):WG:=λd ρ Q=>Q (ρ.set i (some (.sh d)))
abbrev IQ:=List D->Env->(Env->Prop)->Prop
def gl'(K:aE)(g:IQ):L9:=λvs σ H Qv=>∃ Hs ρ ai ds Q,fo K Hs ρ σ H ai/\bT K Hs ds vs/\g ds ρ Q/\∀ cq cw c9,fo K Hs cw cq H c9->(∀ a∈c9,a∈ai)->Q cw->Qv cq H
abbrev Rr(X:Cx)(K:aE)(es:List Expr)(g:IQ):Prop:=BM X es (gl' K g)
def fJ:IQ:=λds ρ Q=>ds=[]/\Q ρ
def aN(g:WG)(gs:IQ):IQ:=λds ρ Q=>match ds with
 |d :: ds=>g d ρ λcw=>gs ds cw Q
 |[]=>False
def gT(n:Nat)(gs:IQ):WG:=λd ρ Q=>match d with
 |.tup ds=>ds.length=n/\gs ds ρ Q
 |_=>False
section
variable {X:Cx}{K:aE}{e:Expr}{es:List Expr}{g:WG}{gs:IQ}{pos:Pos}
def PG.imp(h:PG X e t)(i:∀ v σ H Q,t' v σ H Q->t v σ H Q):PG X e t':=λpins s σ H v u Q I r q=>h pins s σ H v u Q I r (i v σ H Q q)
def BM.imp(h:BM X es t)(i:∀ v σ H Q,t' v σ H Q->t v σ H Q):BM X es t':=λpins s σ H v u Q I r q=>h pins s σ H v u Q I r (i v σ H Q q)
def fo.yO(i:Nat)(s:fo K Hs ρ σ H ai)(r:Rep K Hs d v):∃ c9,(∀ a∈c9,a∈ai)/\fo K Hs (ρ.set i (some (.sh d))) (σ.set i (some v)) H c9:=by obtain⟨t,a,b⟩:=s.sr.xV r i;exact⟨t,λx hx=>a.subset hx,b,s.wf,a.nodup s.sL,λx hx=>s.own x (a.subset hx)⟩
def az(i:Nat)(hf:X.fn x=true\/X.env.scope.names.lookup x=some .local:=by first|exact .inl rfl|exact .inr rfl|assumption)(hN:X.N.Nodup:=by assumption)(hi:autoParam (X.N[i]? = some x) bv)(hx:Loc X.env.scope x:=by first|exact .inl rfl|exact .inr rfl):QG X K (.Name x pos) (gN i) :=
 PG.imp (Tx hN hi hx hf) λv σ H Qv eI=>by obtain⟨Hs,ρ,ai,d,Q,sr,r,h,k⟩:=eI;obtain⟨t,m,s⟩:=sr.yO i r;exact k _ _ t s m h
def b7:Rr X K [] fJ:=BM.imp Ws λv σ H Qv eI=>by obtain⟨Hs,ρ,ai,ds,Q,sr,r,h,k⟩:=eI;obtain⟨rfl,h⟩:=h;cases r;exact⟨rfl,k σ ρ ai sr (λ_ z=>z) h⟩
def aF(h1:QG X K e g)(h2:Rr X K es gs)(hs:autoParam ((oP (e :: es) X.env).map (·.2)=assign e X.env :: (oP es X.env).map (·.2)) bv):Rr X K (e :: es) (aN g gs) :=
 BM.imp (Tz h1 h2 hs) λv σ H Qv eI=>by
  obtain⟨Hs,ρ,ai,ds,Q,sr,r,h,k⟩:=eI
  cases r with
  |nil=>exact h.elim
  |cons r rs=>exact⟨_,_,rfl,Hs,ρ,ai,_,_,sr,r,h,λk9 g9 fi iq m2 q2=>⟨Hs,g9,fi,_,Q,iq,rs,q2,λsj Nq U_ Va m3=>k sj Nq U_ Va λa h=>m2 a (m3 a h)⟩⟩
def dG(h:Rr X K es gs)(hn:autoParam ((oP es X.env).length=n) bv)(mM:autoParam ((oP es X.env).findIdx? (·.1)=none) bv)(hc:autoParam (X.calm=true) bv):QG X K (.Tuple es k pos) (gT n gs) :=
 PG.imp (Wt hc h hn mM) λv σ H Qv eI=>by
  obtain⟨Hs,ρ,ai,d,Q,sr,r,h,k⟩:=eI
  cases r with
  |tup z e rs=>exact⟨_,_,rfl,.inl (.inl (sr.wf.sub _ _ e)),by rw[<- rs.length];exact h.1,Hs,ρ,ai,_,Q,sr,rs,h.2,k⟩
  |_=>exact h.elim
end
abbrev WI:=Env->(List D->Prop)->Prop
structure nG(K:aE)(J:It)(ds:List D)(C:Hp->Hp->Prop):Prop where
 go:∀ i Hs H,C Hs H->Wf Hs H->i<ds.length->J.go i H
 qq:∀ i Hs H x H' d,C Hs H->Wf Hs H->ds[i]? = some d->J.qq i H x H'->∃ aC,fw Hs H aC H'/\Rep K aC d x
 stop:∀ Hs H,C Hs H->Wf Hs H->J.stop ds.length H
abbrev v7(K:aE)(Hs:Hp)(J:It)(ds:List D):Prop:=nG K J ds λG _=>bP Hs G
def nP(xs:List D):List D:=xs.mapIdx λi x=>.tup [.int i,x]
section
variable {K:aE}{Hs:Hp}{J:It}{ds:List D}{C C':Hp->Hp->Prop}{a:ah}
def nG.imp(S:nG K J ds C)(h:∀ Hs H,C' Hs H->C Hs H):nG K J ds C':=⟨λi Hs H c=>S.go i Hs H (h _ _ c),λi Hs H x H' d c=>S.qq i Hs H x H' d (h _ _ c),λHs H c=>S.stop Hs H (h _ _ c)⟩
def nG.seq(rs:bT K Hs ds vs)(S:qd J vs λH=>bP Hs H):v7 K Hs J ds where
 go:=λi G H s w h=>S.go i H (s.trans w.sub) (by rw[<- rs.length];exact h)
 qq:=λi G H x H' d s w h y=>by
  have hi:i<ds.length:=by
   rcases GP i ds.length with q|q
   ·exact q
   ·rw[tj q] at h;cases h
  obtain⟨e,z⟩:=S.qq i H x H' (s.trans w.sub) (by rw[<- rs.length];exact hi) y;subst e;obtain⟨d',ed,rd⟩:=rs.UX z;rw[h] at ed;cases ed;exact⟨G,fw.refl w,rd.same s⟩
 stop:=λG H s w=>by rw[rs.length];exact S.stop H (s.trans w.sub)
abbrev yJ(K:aE)(a:ah)(ds:List D)(C:Hp->Hp->Prop):Prop:=∀ Hs H,C Hs H->Wf Hs H->∃ vs,fh K H a vs/\bT K Hs ds vs
def nG.list(h:yJ K a ds C):nG K (Qt K a) ds C where
 go:=λi G H c w hi=>by obtain⟨vs,q,rs⟩:=h G H c w;exact⟨vs,vs[i]'(by rw[<- rs.length];exact hi),q,by simp⟩
 qq:=λi G H x H' d c w hd y=>by obtain⟨vs,q,rs⟩:=h G H c w;obtain⟨rfl,y⟩:=y;obtain⟨d',ed,rd⟩:=rs.UX (y vs q);rw[hd] at ed;cases ed;exact⟨G,fw.refl w,rd⟩
 stop:=λG H c w=>by obtain⟨vs,q,rs⟩:=h G H c w;exact⟨vs,q,by rw[rs.length];exact cx _⟩
def nG.enum(h:yJ K a ds C):nG K (UB K a) (nP ds) C where
 go:=λi G H c w hi=>by
  obtain⟨vs,q,rs⟩:=h G H c w;have hi:i<ds.length:=by simpa[nP] using hi
  exact⟨vs,vs[i]'(by rw[<- rs.length];exact hi),q,by simp⟩
 qq:=λi G H x H' d c w hd y=>by
  obtain⟨vs,q,rs⟩:=h G H c w;obtain⟨p,v,rfl,hp,rfl,y⟩:=y;obtain⟨d',ed,rd⟩:=rs.UX (y vs q);have:d=.tup [.int i,d']:=by simp only[nP,SY,ed,Option.map_some] at hd;cases hd;rfl
  subst this;have g:=Rm (vs:=[.int i,v]) w hp;exact⟨_,g,.tup (vs:=[.int i,v]) Bv ic (.cons (.int _) (.cons (rd.same g.sh) .nil))⟩
 stop:=λG H c w=>by obtain⟨vs,q,rs⟩:=h G H c w;exact⟨vs,q,by rw[nP,S5,rs.length];exact cx _⟩
def qJ(s:fh K Hs a vs)(rs:bT K Hs ds vs):yJ K a ds λG _=>bP Hs G:=λG H c w=>⟨vs,bP.seq (c.trans w.sub) s,rs.same c⟩
end
def tpI(K:aE)(wi:WI):TI:=λσ H R=>∃ Hs ρ ai Q,fo K Hs ρ σ H ai/\wi ρ Q/\∀ J H' aC ds,fw Hs H aC H'->v7 K aC J ds->ds.length<=bX->Q ds->R J H'
abbrev QI(X:Cx)(K:aE)(tg iter:Expr)(wi:WI):Prop:=PI X tg iter (tpI K wi)
def mU:Md->Prop
 |.bo=>False
 |_=>True
def dF(te:WE):WI:=λρ Q=>te ρ λm d=>mU m/\match d with
 |.list xs=>Q xs
 |_=>False
def gR(lo:Int)(n:Nat):List D:=(List.range n).map λi=>.int (lo+(i:Nat))
def bF(te:WE):WI:=λρ Q=>te ρ λ_ d=>match d with
 |.int j=>j<=16777216/\-(2 ^ 62)<=j/\Q (gR 0 j.toNat)
 |_=>False
section
variable {X:Cx}{K:aE}{e e2 tg:Expr}{te D3:WE}{pos p:Pos}
def PI.imp(h:PI X tg iter t)(i:∀ σ H R,t' σ H R->t σ H R):PI X tg iter t':=λpins s σ H R I q=>h pins s σ H R I (i σ H R q)
def qd.imp{J:It}(s:qd J vs c)(h:∀ H,c' H->c H):qd J vs c':=⟨λi H q=>s.go i H (h H q),λi H x H' q=>s.qq i H x H' (h H q),λH q=>s.stop H (h H q)⟩
def RM.rA(g:fw Hs H bE H1)(r:RM K bE H1 m d v As)(f:cF bE H As)(h:mU m):∃ aT,fw Hs H aT H1/\Rep K aT d v:=by
 have n:∀ a∈As,bE a=none:=λa ha=>(f.2 a ha).1;have pub:Rep K (zk bE H1 As) d v->∃ aT,fw Hs H aT H1/\Rep K aT d v:=λz=>by
  refine⟨zk bE H1 As,⟨g.all,g.sh.trans (jg n),Bt g.wf r.own,λa h=>?_⟩,z⟩;unfold zk at h;by_cases m:a∈As
  ·exact .inr (f.2 a m).2
  ·rw[if_neg m] at h;exact g.new a h
 cases m with
 |sh=>exact⟨bE,g,r.2⟩
 |bo=>exact h.elim
 |ow fl=>exact pub (cv.rep (jg n) r.1 λa ha=>by unfold zk;rw[if_pos ha])
def dq(he:QE X K e te)(hK:autoParam (X.K=K) bv):QI X K tg e (dF te):=by
 subst hK;refine PI.imp (Wx he) λσ H R hx=>kE hx λHs ρ ai Q sr h k=>⟨Hs,ρ,ai,_,sr,h,λv H1 bE m d As g1 r1 f1 q1=>?_⟩
 obtain⟨nb,q1⟩:=q1;obtain⟨aT,g2,r2⟩:=r1.rA g1 f1 nb
 cases r2 with
 |list z s rs=>exact⟨_,rfl,⟨_,bP.seq g2.wf.sub s⟩,k _ H1 aT _ g2 (.seq rs (qd.imp (zY X.K _ _) λH' s'=>bP.seq s' s)) (by rw[rs.length];exact z) q1⟩
 |_=>exact q1.elim
theorem pO(lo:Int):∀ (l:List Nat),bT K H (l.map λi=>.int (lo+(i:Nat))) (l.map λi=>V.int (lo+(i:Nat)))
 |[]=>.nil
 |c :: l=>.cons (.int _) (pO lo l)
def a_ (hm:X.mg "range" = none) (he:QE X K e te) (hg:Gl X "range" := by rfl) (hs:autoParam (b4 [e] X.env=(false,dn e X.env) :: b4 [] X.env) bv) (gL:autoParam (b4 [e] X.env=[(false,dn e X.env)]) bv):QI X K tg (.Call (.Name "range" p) [e] [] pos) (bF te):=by
 refine PI.imp (cu' hg hm (qA he vE hs) gL) λσ H R hx=>kE hx λHs ρ ai Q sr h k=>⟨Hs,ρ,ai,_,sr,h,λv H1 bE m d As g1 r1 f1 q1=>?_⟩
 have r:=r1.rep g1.wf
 cases r with
 |int j =>obtain⟨h1,h2,q1⟩:=q1;exact⟨j,rfl,h2,by lia,k _ H1 bE _ g1 (.seq (pO 0 _) (qd.imp (Dn _ _) λ_ _=>trivial)) (by rw[b6,PY,j3];lia) q1⟩
 |_=>exact q1.elim
section
variable {X:Cx}{K:aE}{e tg:Expr}{te:WE}{pos p:Pos}
def tM(te:WE):WI:=λρ Q=>te ρ λm d=>mU m/\match d with
 |.list xs=>Q (nP xs)
 |_=>False
def Dz (hm:X.mg "enumerate" = none) (he:QE X K e te) (hK:autoParam (X.K=K) bv) (hg:Gl X "enumerate" := by rfl) (hs:autoParam (b4 [e] X.env=(false,dn e X.env) :: b4 [] X.env) bv) (gL:autoParam (b4 [e] X.env=[(false,dn e X.env)]) bv) :
  QI X K (.Tuple elts kk tp) (.Call (.Name "enumerate" p) [e] [] pos) (tM te):=by
 subst hK;refine PI.imp (Dt hg hm (qA he vE hs) gL) λσ H R hx=>kE hx λHs ρ ai Q sr h k=>⟨Hs,ρ,ai,_,sr,h,λv H1 bE m d As g1 r1 f1 q1=>?_⟩
 obtain⟨nb,q1⟩:=q1;obtain⟨aT,g2,r2⟩:=r1.rA g1 f1 nb
 cases r2 with
 |list z s rs=>exact⟨_,rfl,⟨_,bP.seq g2.wf.sub s⟩,k _ H1 aT _ g2 (.enum (qJ s rs)) (by rw[nP,S5,rs.length];exact z) q1⟩
 |_=>exact q1.elim
def an'(K:aE)(wi:WI):TI:=λσ H R=>∃ Hs ρ ai Q,fo K Hs ρ σ H ai/\wi ρ Q/\∀ J H' aC ds,fw Hs H aC H'->v7 K H' J ds->ds.length<=bX->Q ds->R J H'
abbrev Rt(X:Cx)(K:aE)(tg iter:Expr)(wi:WI):Prop:=PI X tg iter (an' K wi)
def fV(h:QI X K tg iter wi):Rt X K tg iter wi:=PI.imp h λσ H R hx=>kE hx λHs ρ ai Q sr h k=>⟨Hs,ρ,ai,Q,sr,h,λJ H' aC ds g w z q=>k J H' aC ds g (w.imp λG H s=>g.wf.sub.trans s) z q⟩
def cY(te:WE):WI:=λρ Q=>te ρ λ_ d=>match d with
 |.list xs=>Q xs
 |_=>False
def cT(he:QE X K e te)(hK:autoParam (X.K=K) bv):Rt X K tg e (cY te):=by
 subst hK;refine PI.imp (Wx he) λσ H R hx=>kE hx λHs ρ ai Q sr h k=>⟨Hs,ρ,ai,_,sr,h,λv H1 bE m d As g1 r1 f1 q1=>?_⟩
 have r:=r1.rep g1.wf
 cases r with
 |list z s rs=>exact⟨_,rfl,⟨_,s⟩,k _ H1 bE _ g1 (.list (qJ s rs)) (by rw[rs.length];exact z) q1⟩
 |_=>exact q1.elim
end
def pF(g:WG)(b:WS)(E:kY):List D->Env->Prop
 |[],ρ=>E.nx ρ
 |x :: xs,ρ=>g x ρ λpT=>b { E with nx:=pF g b E xs,ct:=pF g b E xs,bk:=E.nx } pT
def ny(wi:WI)(g:WG)(b:WS):WS:=λE ρ=>wi ρ λds=>pF g b E ds ρ
variable {wi:WI}{g:WG}{b:WS}{body:List Stmt}
def bN(hi:QI X K tg iter wi)(hg:QG X K tg g)(hb:zh X K L body b)(hs:∀ x,FR iter X.env x=pure x:=by intro _;rfl)(hp:PassesOwn (aI X.prog X.w) X.A X.env X.xe:=by first|exact PassesOwn.never|exact PassesOwn.leaving)(hc:autoParam (X.calm=true) bv) :
  QS X K L (.For tg iter body [] pos) (ny wi g b):=by
 refine PS.imp (cx' hp hc hi hg hb hs) λD σ H hx=>oZ hx λHs ρ ai E sr h k1 k2 k3 k4 kx=>?_;refine⟨Hs,ρ,ai,_,sr,h,λJ H1 bE ds g1 S hz q1=>?_⟩;refine⟨λi m σ H=>m=ds.length-i/\i<=ds.length/\∃ aC cw c9,bP bE aC/\fo K aC cw σ H c9/\pF g b E (ds.drop i) cw,⟨ds.length,by simp,fE _,bE,ρ,ai,bP.refl _,sr.grow g1,by simpa using q1⟩,?_⟩;rintro i m k9 H2 ⟨rfl,hi,aT,g9,fi,s2,iq,q2⟩;by_cases eS:i<ds.length
 ·refine .inr ⟨S.go i aT H2 s2 iq.wf eS,λsj H3=>∃ aC cw c9,bP bE aC/\fo K aC cw sj H3 c9/\pF g b E (ds.drop (i+1)) cw,λsj H3 h3=>⟨ds.length-(i+1),by lia,rfl,eS,h3⟩,λx H3 y=>?_⟩;obtain⟨fR,g3,rd⟩:=S.qq i aT H2 x H3 ds[i] s2 iq.wf (by simp[eS]) y;rw[An eS] at q2;have s3:=s2.trans g3.sh;refine⟨fR,g9,fi,ds[i],_,iq.grow g3,rd,q2,λσ4 xI Vb Ru _ q4=>?_⟩;refine⟨fR,xI,Vb,_,Ru,q4,?_,?_,?_,?_,λn H5 s5=>kx n H5 ((g1.sh.trans s3).trans s5)⟩
  ·exact λIU H5 pV A3 A4 s5 A5 q5=>⟨pV,A3,A4,s3.trans s5,A5,q5⟩
  ·exact λIU H5 pV A3 A4 s5 A5 q5=>k1 IU H5 pV A3 A4 ((g1.sh.trans s3).trans s5) A5 q5
  ·exact λIU H5 pV A3 A4 s5 A5 q5=>⟨pV,A3,A4,s3.trans s5,A5,q5⟩
  ·exact λv H5 pV m d As s5=>k4 v H5 pV m d As ((g1.sh.trans s3).trans s5)
 ·have e:i=ds.length:=by lia
  subst e;refine .inl ⟨S.stop aT H2 s2 iq.wf,?_⟩;rw[S7] at q2;exact k1 k9 H2 aT g9 fi (g1.sh.trans s2) iq q2
def aX(xs:List D)(Pv:Nat->Env->Prop)(h0:Pv 0 ρ)(hs:∀ i x ρ,xs[i]? = some x->Pv i ρ->∀ N:Env->Prop,(∀ cw,Pv (i+1) cw->N cw)->g x ρ λpT=>b { E with nx:=N,ct:=N,bk:=E.nx } pT) (hd:∀ ρ,Pv xs.length ρ->E.nx ρ):pF g b E xs ρ:=by
 have go:∀ (k i:Nat) ρ,i+k=xs.length->Pv i ρ->pF g b E (xs.drop i) ρ:=by
  intro k
  induction k with
  |zero =>
   intro i ρ e p;have:i=xs.length:=by lia
   subst this;rw[S7];exact hd ρ p
  |succ k ih =>
   intro i ρ e p;have hi:i<xs.length:=by lia
   rw[An hi];exact hs i xs[i] ρ (by simp[hi]) p _ λg9 h2=>ih (i+1) g9 (by lia) h2
 have:=go xs.length 0 ρ (by lia) h0;simpa using this
def t_(c:WT)(b:WS):WS:=λE ρ=>∃ (Pv:Env->Prop) (μ:Env->Nat),Pv ρ/\∀ ρ,Pv ρ->c ρ λk=>if k=true then b { E with nx:=λcw=>Pv cw/\μ cw<μ ρ,ct:=λcw=>Pv cw/\μ cw<μ ρ,bk:=E.nx } ρ else E.nx ρ
def m_(hc:QT X K c tc)(hb:zh X K L body b)(hp:PassesOwn (aI X.prog X.w) X.A X.env X.xe:=by first|exact PassesOwn.never|exact PassesOwn.leaving):QS X K L (.While c body [] pos) (t_ tc b):=by
 refine PS.imp (cn' hp hc hb) λD σ H hx=>oZ hx λHs ρ ai E sr h k1 k2 k3 k4 kx=>?_;obtain⟨Pv,μ,p0,turn⟩:=h;refine⟨λm σ H=>∃ aC cw c9,bP Hs aC/\fo K aC cw σ H c9/\Pv cw/\μ cw=m,⟨_,Hs,ρ,ai,bP.refl _,sr,p0,rfl⟩,?_⟩;rintro m k9 H2 ⟨aT,g9,fi,s2,iq,p2,rfl⟩;refine⟨aT,g9,fi,_,iq,turn g9 p2,λk H3 fR g3 q3=>?_⟩
 cases k with
 |false=>exact k1 k9 H3 fR g9 fi (s2.trans g3.sh) (iq.grow g3) q3
 |true =>
  refine⟨λcq H'=>∃ aC cw c9,bP Hs aC/\fo K aC cw cq H' c9/\Pv cw/\μ cw<μ g9,λcq H' ⟨aC,cw,c9,a,b,c,d⟩=>⟨μ cw,d,aC,cw,c9,a,b,c,rfl⟩,?_⟩;have s3:bP Hs fR:=s2.trans g3.sh;refine⟨fR,g9,fi,_,iq.grow g3,q3,?_,?_,?_,?_,λn H5 s5=>kx n H5 (s3.trans s5)⟩
  ·exact λIU H5 pV A3 A4 s5 A5 q5=>⟨pV,A3,A4,s3.trans s5,A5,q5.1,q5.2⟩
  ·exact λIU H5 pV A3 A4 s5 A5 q5=>k1 IU H5 pV A3 A4 (s3.trans s5) A5 q5
  ·exact λIU H5 pV A3 A4 s5 A5 q5=>⟨pV,A3,A4,s3.trans s5,A5,q5.1,q5.2⟩
  ·exact λv H5 pV m d As s5=>k4 v H5 pV m d As (s3.trans s5)
end
def p4:WT:=λ_ Q=>Q true
def Rv(m:Md)(d:D):Prop:=d.flat=true\/m=.ow true
def gA(g:WG)(tc:WT)(te:WE):List D->Env->(List D->Prop)->Prop
 |[],_,k=>k []
 |x :: xs,ρ,k=>g x ρ λpT=>tc pT λb=>if b=true then te pT λm d=>Rv m d/\gA g tc te xs pT (λout=>k (d :: out)) else gA g tc te xs pT k
def D_(tn:Nat)(ix:List Nat)(ρ:Env):Env:=List.replicate tn none++ix.map λj=>(ρ[j]?).join.map OZ
def cG(wi:WI)(g:WG)(tc:WT)(te:WE)(tn:Nat)(ix:List Nat):WE:=λρ Q=>wi ρ λds=>gA g tc te ds (D_ tn ix ρ) λout=>Q (.ow true) (.list out)
section
variable {X:Cx}{K:aE}
theorem lZ{Hs H G:Hp}(sr:fo K Hs ρ σ H ai)(G':Hp):∀ (ix:List Nat),SR K H G' (ix.map λj=>(ρ[j]?).join.map OZ) (ix.map λj=>(σ[j]?).join) []
 |[]=>.nil
 |j :: ix=>by
  have ih:=lZ sr G' ix (G:=G);simp only[gd]
  cases e:ρ[j]? with
  |none=>exact .non ih
  |some o =>
   cases o with
   |none=>exact .non ih
   |some sl =>
    obtain⟨v,e1,r⟩:=sr.sr.get e;rw[e1]
    cases sl with
    |sh d=>exact .sh (Rep.same sr.wf.sub r) ih
    |xc a=>subst r;exact .xc ih
    |ob a p=>obtain⟨r,_⟩:=r;subst r;exact .xc ih
    |ow fl d =>obtain⟨As,_,r,_⟩:=r;exact .sh (r.rep sr.wf.sub λ_ _=>rfl) ih
    |lk a fl d =>obtain⟨As,_,r,_⟩:=r;exact .sh (r.rep sr.wf.sub λ_ _=>rfl) ih
theorem pK(s:SR K H G ρ σ []):∀ (n:Nat),SR K H G (List.replicate n none++ρ) (List.replicate n none++σ) []
 |0=>s
 |n+1=>.non (pK s n)
def SR.heap(s:SR K Hs H ρ σ []):SR K Hs H' ρ σ []:=s.fz (bP.refl _) λa h=>nomatch h
def wM(w:Wf Hs H)(n:Hs p=none)(ho:∀ vs,o≠.tup vs):Wf Hs (upd H p o):=⟨λb u q=>by
  rw[fF (λz=>by subst z;rw[n] at q;cases q)];exact w.sub b u q,λb us q=>by
  by_cases hb:b=p
  ·subst hb;rw[ic] at q;exact absurd (Option.some.inj q) (ho us)
  ·rw[fF hb] at q;exact w.kC b us q⟩
structure CompI(K:aE)(H1:Hp)(b:ah)(acc:List D)(ys:List V)(As:List ah)(Hs:Hp)(ρ:Env)(τ:St)(H:Hp):Prop where
 sm:bP H1 Hs
 sr:fo K Hs ρ τ H []
 eD:H b=some (.lst ys)
 nD:Hs b=none
 ra:aG K Hs H true acc ys As
 nd:(b :: As).Nodup
 own:∀ a∈As,Hs a=none
def CompI.grow(c:CompI K H1 b acc ys As Hs ρ τ H)(g:fw Hs H aC H'):CompI K H1 b acc ys As aC ρ τ H' :=
 ⟨c.sm.trans g.sh,c.sr.grow g,g.all _ _ c.eD,g.ng c.nD (by rw[c.eD];exact λz=>nomatch z),c.ra.grow g.sh g.all,c.nd,λa ha=>g.ng (c.own a ha) (c.ra.own a ha).ne⟩
def CompI.push(c:CompI K H1 b acc ys As Hs ρ τ H)(r:RM K Hs H m d v Bs)(ok:Rv m d)(nb:Bs.Nodup)(fb:∀ a∈Bs,Hs a=none/\a∉b :: As):∃ hU,CompI K H1 b (acc++[d]) (ys++[v]) hU Hs ρ τ (upd H b (.lst (ys++[v]))):=by
 obtain⟨B,sb,rb⟩:∃ B,B.Sublist Bs/\cv K Hs H true d v B:=by
  rcases ok with hf|rfl
  ·exact⟨[],EE _,.sh (λ_=>hf) (r.flat c.sr.wf hf)⟩
  ·exact⟨Bs,List.Sublist.refl _,r.1⟩
 obtain⟨na,nA⟩:=kN.mp c.nd;have Rw:=λa ha=>fb a (sb.subset ha);refine⟨As++(B++[]),c.sm,⟨c.sr.sr.heap,wM c.sr.wf c.nD (λ_ z=>nomatch z),n9,λa h=>nomatch h⟩,ic,c.nD,(c.ra.fz (bP.refl _) λa ha=>fF λz=>na (by subst z;exact ha)).append (.cons (rb.fz (bP.refl _) λa ha=>fF λz=>(Rw a ha).2 (by subst z;exact dk)) .nil),?_,?_⟩
 ·rw[vv];refine kN.mpr ⟨λm=>(eR.mp m).elim na λm=>(Rw b m).2 dk,gV.mpr ⟨nA,sb.nodup nb,λx hx y hy e=>(Rw y hy).2 (e ▸ dr _ hx)⟩⟩
 ·rw[vv];exact λa ha=>(eR.mp ha).elim (c.own a) λm=>(Rw a m).1
def qK(h:nk K (cG wi g tc te tn ix) σ H Qv):A_ (an' K wi) (tpG K g) (D2 K tc) (nk K te) tn ix σ H Qv:=by
 obtain⟨Hs,ρ,ai,Q,sr,h,f⟩:=h;refine⟨Hs,ρ,ai,_,sr,h,λJ H1 bE ds g1 S hz q1 b hb=>?_⟩;have st:CompI K H1 b [] [] [] H1 (D_ tn ix ρ) (qg tn ix σ) (upd H1 b (.lst [])):=by
  refine⟨bP.refl _,⟨pK (lZ (G:=H1) (sr.grow g1) _ ix) tn,⟨(bP.refl H1).upd hb,λa xs e=>?_⟩,n9,λa h=>nomatch h⟩,ic,hb,.nil,by simp,λa h=>nomatch h⟩;by_cases ha:a=b
  ·subst ha;rw[ic] at e;cases e
  ·rw[fF ha] at e;exact e
 refine⟨λi m τ H2=>m=ds.length-i/\i<=ds.length/\∃ aT g9 acc ys As,CompI K H1 b acc ys As aT g9 τ H2/\acc.length<=i/\gA g tc te (ds.drop i) g9 (λout=>Q (.ow true) (.list (acc++out))), ⟨ds.length,by simp,fE _,H1,_,[],[],[],st,cx _,by simpa using q1⟩,?_⟩
 rintro i m τ H2 ⟨rfl,hi,aT,g9,acc,ys,As,c,la,q2⟩;by_cases eS:i<ds.length
 ·refine .inr ⟨S.go i aT H2 c.sm c.sr.wf eS,
   λNr v H4=>∃ Ng xI d,CompI K H1 b acc ys As Ng xI Nr H4/\(∃ hU,CompI K H1 b (acc++[d]) (ys++[v]) hU Ng xI Nr (upd H4 b (.lst (ys++[v]))))/\gA g tc te (ds.drop (i+1)) xI (λout=>Q (.ow true) (.list (acc++d :: out))),
   λNr H3=>∃ fR Nq,CompI K H1 b acc ys As fR Nq Nr H3/\gA g tc te (ds.drop (i+1)) Nq (λout=>Q (.ow true) (.list (acc++out))),?_,?_,?_⟩
  ·rintro Nr v H4 ⟨Ng,xI,d,c4,⟨hU,c5⟩,q4⟩;have lya:=c4.ra.length;exact⟨ys,ds.length-(i+1),c4.eD,by lia,by lia,rfl,eS,Ng,xI,acc++[d],ys++[v],hU,c5,by rw[ot];simpa using la,by simpa using q4⟩
  ·rintro Nr H3 ⟨fR,Nq,c3,q3⟩;exact⟨ds.length-(i+1),by lia,rfl,eS,fR,Nq,acc,ys,As,c3,by lia,q3⟩
  ·intro x H3 y;obtain⟨fR,g3,rd⟩:=S.qq i aT H2 x H3 ds[i] c.sm c.sr.wf (by simp[eS]) y;rw[An eS] at q2;have c3:=c.grow g3;refine⟨fR,g9,[],ds[i],_,c3.sr,rd,q2,λτ4 xI Vb Ru m4 q4=>?_⟩;have t4:Vb=[]:=List.eq_nil_iff_forall_not_mem.mpr λa ha=>nomatch m4 a ha;subst t4;have c4:CompI K H1 b acc ys As fR xI τ4 H3:=⟨c3.sm,Ru,c3.eD,c3.nD,c3.ra,c3.nd,c3.own⟩
   refine⟨fR,xI,[],_,Ru,q4,λk H5 pV g5 q5=>?_⟩;have c5:=c4.grow g5
   cases k with
   |false=>exact⟨pV,xI,c5,q5⟩
   |true =>
    refine⟨pV,xI,[],_,c5.sr,q5,λv H6 Hs6 m6 d6 As6 g6 r6 f6 q6=>?_⟩;have c6:=c5.grow g6;refine⟨Hs6,xI,d6,c6,c6.push r6 q6.1 f6.1 λa ha=>⟨(f6.2 a ha).1,λm=>?_⟩,q6.2⟩;rcases eB.mp m with rfl|m
    ·have:=(f6.2 _ ha).2;rw[c5.eD] at this;cases this
    ·exact(c5.ra.own a m).ne (f6.2 a ha).2
 ·have e:i=ds.length:=by lia
  subst e;refine .inl ⟨S.stop aT H2 c.sm c.sr.wf,?_⟩;rw[S7] at q2;have q2:Q (.ow true) (.list (acc++[])):=q2;rw[vv] at q2;have lya:=c.ra.length;have rm:RM K aT H2 (.ow true) (.list acc) (.ref b) (b :: As):=⟨.list (by lia) c.eD c.ra,by simp⟩
  obtain⟨hU,r',fr⟩:=rZ g1.wf c.sm c.sr.wf rm c.nd λa ha=>(eB.mp ha).elim (λz=>z ▸ c.nD) (c.own a);exact Fin.after f g1 (.ref b) H2 _ (.ow true) (.list acc) hU (gh g1.wf c.sm c.sr.wf) r' fr q2
def B6.imp(h:B6 X ifs t)(i:∀ σ H Q,t' σ H Q->t σ H Q):B6 X ifs t':=λpins s σ H Q I q=>h pins s σ H Q I (i σ H Q q)
abbrev Rx(X:Cx)(K:aE)(ifs:List Expr)(t:WT):Prop:=B6 X ifs (D2 K t)
def bH:Rx X K [] p4:=B6.imp Eg λσ H Qv hx=>kE hx λHs ρ ai Q sr h k=>k true H Hs (fw.refl sr.wf) h
def jt(h:QT X K c t):Rx X K [c] t:=DQ h
def cN(hi:Rt X K tg iter wi)(hg:∀ {C fp hV iL} {q:(tn++cn).Nodup},QG (aY X scope C (tn++cn) fp hV iL) K tg g) (qB:∀ {C fp hV iL},Rx (aY X scope C (tn++cn) fp hV iL) K ifs tc) (he:∀ {C fp hV iL},QE (aY X scope C (tn++cn) fp hV iL) K elt te)(hs:∀ x,FR iter X.env x=pure x:=by intro _;rfl) (nd:(tn++cn).Nodup:=by decide +kernel) (O:eE X scope tn cn ix:=by exact eE.by (by assumption) (by decide +kernel)) (hc:autoParam (X.calm=true) bv):QE X K (.ListComp elt [⟨tg,iter,ifs,0⟩] scope pos) (cG wi g tc te tn.length ix) :=
 PE.imp (Di hc hi O (λ_ _ _ _=>hg (q:=nd)) (λ_ _ _ _=>qB) (λ_ _ _ _=>he) hs) λσ H Qv h=>qK h
end
def aW(p:D->Bool)(f:D->D)(Iv:Env->Prop):∀ (xs:List D) (ρ:Env) (k:List D->Prop),Iv ρ -> (∀ x∈xs,∀ ρ,Iv ρ->∀ N1:Env->Prop,∀ N2:Env->D->Prop,(∀ cw,Iv cw->p x=false->N1 cw)->(∀ cw,Iv cw->p x=true->N2 cw (f x))->g x ρ λpT=>tc pT λb=>if b=true then te pT λm d=>Rv m d/\N2 pT d else N1 pT) ->
  k ((xs.filter p).map f)->gA g tc te xs ρ k
 |[],_,k,_,_,h=>h
 |x :: xs,ρ,k,iv,hs,h=>by
  refine hs x dk ρ iv _ _ (λcw O1 hp=>?_) (λcw O1 hp=>?_)
  ·exact aW p f Iv xs cw k O1 (λy hy=>hs y (dr _ hy)) (by simpa[hp] using h)
  ·exact aW p f Iv xs cw _ O1 (λy hy=>hs y (dr _ hy)) (by simpa[hp] using h)
def Upd(K:aE)(Hs H:Hp)(σ:St)(fl:Bool)(v:V)(up:Bool->D->Env)(hU:List ah):Prop:=∀ aT H2 fl2 d2 hG,bP Hs aT->Wf aT H2->(∀ a,Hs a=none->H a≠none->aT a=none)->(fl2=true->fl=true) ->
  cv K aT H2 fl2 d2 v hG->hG≠[]->hG.Nodup->(∀ a∈hG,aT a=none/\(a∈hU\/H a=none))->(∀ a,H a≠none->a∉hU->H2 a=H a)->∃ fi,fo K aT (up fl2 d2) σ H2 fi
structure Place(K:aE)(Hs H:Hp)(σ:St)(fl:Bool)(d:D)(v:V)(up:Bool->D->Env):Prop where
 ex:∃ hU,cv K Hs H fl d v hU/\hU≠[]/\hU.Nodup/\(∀ a∈hU,Hs a=none)/\Upd K Hs H σ fl v up hU
def Upd.node{K:aE}(k:Upd K Hs H σ fl (.ref a) up (a :: A))(g:fw Hs H aT H2)(own:∀ x∈a :: A,Hs x=none/\H x≠none)(ho:∀ vs,o≠.tup vs)(hf:fl2=true->fl=true)(r:cv K aT (upd H2 a o) fl2 d2 (.ref a) (a :: C)) (nC:C.Nodup) (Ry:a∉C) (hC:∀ x∈C,x∈A\/(aT x=none/\H x=none)):∃ fi,fo K aT (up fl2 d2) σ (upd H2 a o) fi:=by
 have hn:∀ x∈a :: A,aT x=none:=λx hx=>g.ng (own x hx).1 (own x hx).2;refine k aT _ fl2 d2 (a :: C) g.sh (wM g.wf (hn a dk) ho) (λb h1 h2=>g.ng h1 h2) hf r (PZ _ _) (kN.mpr ⟨Ry,nC⟩) (λb hb=>?_) λb h1 h2=>?_
 ·rcases eB.mp hb with rfl|hb
  ·exact⟨hn _ dk,.inl dk⟩
  ·exact(hC b hb).elim (λq=>⟨hn b (dr _ q),.inl (dr _ q)⟩) λq=>⟨q.1,.inr q.2⟩
 ·rw[fF λz=>h2 (by subst z;exact dk)]
  cases q:H b with
  |none=>exact absurd q h1
  |some o=>exact g.all b o q
abbrev WP:=Env->(Bool->D->(Bool->D->Env)->Prop)->Prop
def tpP(K:aE)(t:WP):TE:=λσ H Qv=>∃ Hs ρ ai Q,fo K Hs ρ σ H ai/\t ρ Q/\∀ v H' aC fl d up,fw Hs H aC H'->Place K aC H' σ fl d v up->Q fl d up->Qv v H'
abbrev QP(X:Cx)(K:aE)(e:Expr)(t:WP):Prop:=PE X e (tpP K t)
section
variable {K:aE}{Hs H aC H':Hp}{σ:St}{fl:Bool}{d:D}{v:V}{up:Bool->D->Env}
def Place.grow(p:Place K Hs H σ fl d v up)(g:fw Hs H aC H'):Place K aC H' σ fl d v up:=by
 obtain⟨hU,r,ne,nd,own,k⟩:=p.ex;refine⟨hU,r.grow g.sh g.all,ne,nd,λa h=>g.ng (own a h) (r.own a h).ne,λaT H2 fl2 d2 hG s2 w2 n2 hf r2 ne2 k5 o2 st=>?_⟩;refine k aT H2 fl2 d2 hG (g.sh.trans s2) w2 (λa h1 h2=>n2 a (g.ng h1 h2) ?_) hf r2 ne2 k5 (λa h=>⟨(o2 a h).1,(o2 a h).2.imp id g.all.free⟩) λa h1 h2=>?_
 ·cases e:H a with
  |none=>exact absurd e h2
  |some o=>rw[g.all a o e];exact λz=>nomatch z
 ·cases e:H a with
  |none=>exact absurd e h1
  |some o =>have:=g.all a o e;rw[<- this];exact st a (by rw[this];exact λz=>nomatch z) h2
def cv.ne2:(∀ {d:D} {v:V} {As:List ah},cv K Hs H true d v As->d.flat=false->As≠[])/\∀ {ds:List D} {vs:List V} {As:List ah},aG K Hs H true ds vs As->eK ds=false->As≠[] :=
 cv.ind (λ_ _ f _ h=>by rw[f rfl] at h;cases h) (λ_ _ _ _ _ _ _ _ _=>PZ _ _) (λ_ _ _ _ _ _ n _ ih _=>ih n) (λ_ _ _ _ _ _ _ _ _=>PZ _ _) (λ_ _ _ _ _ _ _ _ _=>PZ _ _) (λh=>by simp[eK] at h) λd _ _ _ _ _ _ _ i1 i2 h=>by
   cases e:d.flat with
   |false=>exact λz=>i1 e (NH.mp z).1
   |true =>simp only[eK,e,Bool.true_and] at h;exact λz=>i2 h (NH.mp z).2
def cv.ne(r:cv K Hs H true d v As)(h:d.flat=false):As≠[]:=cv.ne2.1 r h
def cv.nil_of(r:cv K Hs H fl d v As)(h:d.flat=true):As=[]:=by
 cases r with
 |sh _ _=>rfl
 |tup _ _ n _=>simp[D.flat,n] at h
 |_=>simp[D.flat] at h
def nS(i:Nat):WP:=λρ Q=>match ρ[i]? with
 |some (some (.ow fl d))=>Q fl d λfl2 d2=>ρ.set i (some (.ow fl2 d2))
 |_=>False
def SR.put(i:Nat)(s:SR K Hs H ρ σ ai):ρ[i]? = some (some (.ow fl d))->ai.Nodup ->
  ∃ (v:V) (As c9:List ah),σ[i]? = some (some v)/\As≠[]/\cv K Hs H fl d v As/\As.Sublist ai/\∀ aT H2 fl2 d2 hG,bP Hs aT->cv K aT H2 fl2 d2 v hG->hG≠[]->hG.Nodup->(∀ a∈hG,a∈ai->a∈As)->(∀ a∈ai,a∉As->H2 a=H a) ->
   ∃ fi,fi.Nodup/\(∀ a∈fi,a∈ai\/a∈hG)/\SR K aT H2 (ρ.set i (some (.ow fl2 d2))) σ fi:=by
 induction s generalizing i with
 |nil=>intro e;simp at e
 |@non ρ σ ai o q ih =>
  intro e n
  cases i with
  |zero=>simp at e
  |succ i =>obtain⟨v,As,t,a,b,c,d,g⟩:=ih i (by simpa using e) n;refine⟨v,As,t,by simpa using a,b,c,d,λaT H2 fl2 d2 hG s2 r2 ne2 k5 dj st=>?_⟩;obtain⟨t2,x,y,z⟩:=g aT H2 fl2 d2 hG s2 r2 ne2 k5 dj st;exact⟨t2,x,y,.non z⟩
 |sh r q ih =>
  intro e n
  cases i with
  |zero=>simp at e
  |succ i =>obtain⟨v,As,t,a,b,c,d,g⟩:=ih i (by simpa using e) n;refine⟨v,As,t,by simpa using a,b,c,d,λaT H2 fl2 d2 hG s2 r2 ne2 k5 dj st=>?_⟩;obtain⟨t2,x,y,z⟩:=g aT H2 fl2 d2 hG s2 r2 ne2 k5 dj st;exact⟨t2,x,y,.sh (r.same s2) z⟩
 |xc q ih =>
  intro e n
  cases i with
  |zero=>simp at e
  |succ i =>obtain⟨v,As,t,a,b,c,d,g⟩:=ih i (by simpa using e) n;refine⟨v,As,t,by simpa using a,b,c,d,λaT H2 fl2 d2 hG s2 r2 ne2 k5 dj st=>?_⟩;obtain⟨t2,x,y,z⟩:=g aT H2 fl2 d2 hG s2 r2 ne2 k5 dj st;exact⟨t2,x,y,.xc z⟩
 |@ow ρ σ t2 B fl0 d0 v ne r q ih =>
  intro e n;obtain⟨n1,n2,n3⟩:=gV.mp n
  cases i with
  |zero =>
   obtain⟨rfl,rfl⟩:=e;refine⟨v,B,t2,rfl,ne,r,LH _ _,λaT H2 fl2 d2 hG s2 r2 ne2 k5 dj st=>⟨hG++t2,gV.mpr ⟨k5,n2,λa ha b hb e=>?_⟩,λa h=>?_,.ow ne2 r2 (q.fz s2 λa h=>st a (fS _ h) λz=>n3 a z a h rfl)⟩⟩
   ·subst e;exact n3 a (dj a ha (fS _ hb)) a hb rfl
   ·exact(eR.mp h).symm.imp (λz=>fS _ z) id
  |succ i =>
   obtain⟨v,As,t,a,b,c,d,g⟩:=ih i (by simpa using e) n2;have hB:∀ x∈B,x∉As:=λx hx m=>n3 x hx x (d.subset m) rfl;refine⟨v,As,B++t,by simpa using a,b,c,d.trans (mG _ _),λaT H2 fl2 d2 hG s2 r2 ne2 k5 dj st=>?_⟩;obtain⟨t2,x,y,z⟩:=g aT H2 fl2 d2 hG s2 r2 ne2 k5 (λa ha m=>dj a ha (fS _ m)) λa ha m=>st a (fS _ ha) m;refine⟨B++t2,gV.mpr ⟨n1,x,λa ha b hb e=>?_⟩,λa h=>?_,.ow ne (r.fz s2 λa h=>st a (kc _ h) (hB a h)) z⟩
   ·subst e;rcases y a hb with w|w
    ·exact n3 a ha a w rfl
    ·exact hB a ha (dj a w (kc _ ha))
   ·rcases eR.mp h with w|w
    ·exact .inl (kc _ w)
    ·exact(y a w).imp (λw=>fS _ w) id
 |@lk ρ σ t2 B a0 fl0 d0 ne r q ih =>
  intro e n;obtain⟨n1,n2,n3⟩:=gV.mp n
  cases i with
  |zero=>simp at e
  |succ i =>
   obtain⟨v,As,t,a,b,c,d,g⟩:=ih i (by simpa using e) n2;have hB:∀ x∈B,x∉As:=λx hx m=>n3 x hx x (d.subset m) rfl;refine⟨v,As,B++t,by simpa using a,b,c,d.trans (mG _ _),λaT H2 fl2 d2 hG s2 r2 ne2 k5 dj st=>?_⟩;obtain⟨t2,x,y,z⟩:=g aT H2 fl2 d2 hG s2 r2 ne2 k5 (λa ha m=>dj a ha (fS _ m)) λa ha m=>st a (fS _ ha) m;refine⟨B++t2,gV.mpr ⟨n1,x,λa ha b hb e=>?_⟩,λa h=>?_,.lk ne (r.fz s2 λa h=>st a (kc _ h) (hB a h)) z⟩
   ·subst e;rcases y a hb with w|w
    ·exact n3 a ha a w rfl
    ·exact hB a ha (dj a w (kc _ ha))
   ·rcases eR.mp h with w|w
    ·exact .inl (kc _ w)
    ·exact(y a w).imp (λw=>fS _ w) id
 |@ob ρ σ t2 B a0 p0 r q ih =>
  intro e n;obtain⟨n1,n2,n3⟩:=gV.mp n
  cases i with
  |zero=>simp at e
  |succ i =>
   obtain⟨v,As,t,a,b,c,d,g⟩:=ih i (by simpa using e) n2;have hB:∀ x∈B,x∉As:=λx hx m=>n3 x hx x (d.subset m) rfl;refine⟨v,As,B++t,by simpa using a,b,c,d.trans (mG _ _),λaT H2 fl2 d2 hG s2 r2 ne2 k5 dj st=>?_⟩;obtain⟨t2,x,y,z⟩:=g aT H2 fl2 d2 hG s2 r2 ne2 k5 (λa ha m=>dj a ha (fS _ m)) λa ha m=>st a (fS _ ha) m;refine⟨B++t2,gV.mpr ⟨n1,x,λa ha b hb e=>?_⟩,λa h=>?_,.ob (p0.fz (qR s2) (λa h=>st a (kc _ h) (hB a h)) r) z⟩
   ·subst e;rcases y a hb with w|w
    ·exact n3 a ha a w rfl
    ·exact hB a ha (dj a w (kc _ ha))
   ·rcases eR.mp h with w|w
    ·exact .inl (kc _ w)
    ·exact(y a w).imp (λw=>fS _ w) id
def bw{X:Cx}(h:PE X e (ER i)):QP X K e (nS i):=PE.imp h λσ H Qv hx=>kE hx λHs ρ ai Q sr h f=>by
 unfold nS at h;split at h
 ·rename_i fl d e1;obtain⟨v,As,t,e2,ne,r,sb,g⟩:=SR.put i sr.sr e1 sr.sL;refine⟨v,e2,f v H Hs fl d _ (fw.refl sr.wf) ⟨As,r,ne,sb.nodup sr.sL,λa h=>sr.own a (sb.subset h),λaT H2 fl2 d2 hG s2 w2 n2 _ r2 ne2 k5 o2 st=>?_⟩ h⟩;obtain⟨t2,x,y,z⟩:=g aT H2 fl2 d2 hG s2 r2 ne2 k5 (λa ha m=>(o2 a ha).2.elim id λq=>absurd q (sr.sr.own a m).ne) λa ha m=>st a (sr.sr.own a ha).ne m;exact⟨t2,z,w2,x,λa h=>(y a h).elim (λq=>n2 a (sr.own a q) (sr.sr.own a q).ne) λq=>(o2 a q).1⟩
 ·exact h.elim
def cv.wk(h:fl2=true->fl=true)(r:cv K Hs H fl d v As):cv K Hs H fl2 d v As:=by
 cases fl2 with
 |false=>exact r.Rl
 |true=>rw[h rfl] at r;exact r
def aG.wk{fl fl2:Bool}{d:List D}{v:List V}{As:List ah}(h:fl2=true->fl=true)(r:aG K Hs H fl d v As):aG K Hs H fl2 d v As:=by
 cases fl2 with
 |false=>exact r.Rl
 |true=>rw[h rfl] at r;exact r
def aG.at(r:aG K Hs H fl ds vs As)(e:ds[j]? = some d)(n:As.Nodup) :
  ∃ (v:V) (B:List ah),vs[j]? = some v/\cv K Hs H fl d v B/\B.Sublist As/\∀ aT H2 fl2 d2 B2,bP Hs aT->(fl2=true->fl=true)->cv K aT H2 fl2 d2 v B2->B2.Nodup->(∀ a∈B2,a∈As->a∈B)->(∀ a∈As,a∉B->H2 a=H a) ->
   ∃ hG,hG.Nodup/\(∀ a∈hG,(a∈As/\a∉B)\/a∈B2)/\(B2≠[]->hG≠[])/\aG K aT H2 fl2 (ds.set j d2) vs hG:=by
 induction ds generalizing vs As j with
 |nil=>simp at e
 |cons x ds ih =>
  obtain⟨v,us,A,B,rfl,rfl,r,rs⟩:=r.c;obtain⟨n1,n2,n3⟩:=gV.mp n
  cases j with
  |zero =>
   simp at e;subst e;refine⟨v,A,rfl,r,LH _ _,λaT H2 fl2 d2 B2 s2 hf r2 k5 dj st=>⟨B2++B,gV.mpr ⟨k5,n2,λa ha b hb e=>?_⟩,λa h=>?_,λne z=>ne (NH.mp z).1,.cons r2 ((rs.wk hf).fz s2 λa h=>st a (fS _ h) λz=>n3 a z a h rfl)⟩⟩
   ·subst e;exact n3 a (dj a ha (fS _ hb)) a hb rfl
   ·rcases eR.mp h with w|w
    ·exact .inr w
    ·exact .inl ⟨fS _ w,λz=>n3 a z a w rfl⟩
  |succ j =>
   obtain⟨v,C,a,b,c,g⟩:=ih rs (by simpa using e) n2;have hA:∀ x∈A,x∉C:=λx hx m=>n3 x hx x (c.subset m) rfl;refine⟨v,C,by simpa using a,b,c.trans (mG _ _),λaT H2 fl2 d2 B2 s2 hf r2 k5 dj st=>?_⟩;obtain⟨hG,x,y,w,z⟩:=g aT H2 fl2 d2 B2 s2 hf r2 k5 (λa ha m=>dj a ha (fS _ m)) λa ha m=>st a (fS _ ha) m;refine⟨A++hG,gV.mpr ⟨n1,x,λa ha b hb e=>?_⟩,λa h=>?_,λne q=>w ne (NH.mp q).2,.cons ((r.wk hf).fz s2 λa h=>st a (kc _ h) (hA a h)) z⟩
   ·subst e;rcases y a hb with q|q
    ·exact n3 a ha a q.1 rfl
    ·exact hA a ha (dj a q (kc _ ha))
   ·rcases eR.mp h with q|q
    ·exact .inl ⟨kc _ q,hA a q⟩
    ·exact(y a q).imp (λq=>⟨fS _ q.1,q.2⟩) id
def HQ{α:Type}{xs:List α}{i:Int}{x:α}(h:gv xs i=some x):∃ j,oi xs.length i=some j/\xs[j]? = some x:=by
 unfold L2.gv at h
 cases e:oi xs.length i with
 |none=>rw[e] at h;cases h
 |some j=>rw[e] at h;exact⟨j,rfl,h⟩
def Rz(p:WP)(t:WE):WP:=λρ Q=>p ρ λfl d up=>t ρ λ_ y=>fl=true/\match y with
 |.int i=>match d with
  |.list ds=>∃ j d',oi ds.length i=some j/\ds[j]? = some d'/\d'.flat=false/\Q true d' λfl2 d2=>up fl2 (.list (ds.set j d2))
  |.tup ds=>∃ j d',oi ds.length i=some j/\ds[j]? = some d'/\d'.flat=false/\Q true d' λfl2 d2=>up fl2 (.tup (ds.set j d2))
  |_=>False
 |_=>False
def uT{α:Type}{xs:List α}{i:Int}{j:Nat}{x:α}(h:oi xs.length i=some j)(e:xs[j]? = some x):gv xs i=some x:=by unfold L2.gv;rw[h];exact e
def Ab{ds:List D}{j:Nat}{d:D}(e:ds[j]? = some d)(h:d.flat=false):eK ds=false:=by
 cases q:eK ds with
 |false=>rfl
 |true=>rw[jQ.mp q d (k7 e)] at h;cases h
def vD{ds:List D}{j:Nat}{d d2:D}(e:ds[j]? = some d)(h:d2.flat=false):eK (ds.set j d2)=false:=by have hj:j<ds.length:=(iE.mp e).1;exact Ab (j:=j) (by simp[hj]) h
def Gn{X:Cx}{a b:Expr}{p:WP}{t:WE}{pos:Pos}(ha:QP X K a p)(hb:QE X K b t)(hs:QJ b:=by exact λ_ _=>rfl)(hK:autoParam (X.K=K) bv)(hu:X.A.units+64<e9:=by assumption):QP X K (.Subscript a b pos) (Rz p t):=by
 refine PE.imp (T8 (ah' hu hK) ha hb hs) λσ H Qv hx=>kE hx λHs ρ ai Q sr h f=>?_;refine⟨Hs,ρ,ai,_,sr,h,λv H1 bE fl d up g1 p1 q1=>⟨bE,ρ,ai,_,sr.grow g1,q1,λu H2 aT m y As g2 r2 f2 q2=>?_⟩⟩;have p2:=p1.grow g2;have gg:=g1.trans g2;obtain⟨rfl,q2⟩:=q2;have ry:=r2.rep g2.wf
 cases ry with
 |int i =>
  obtain⟨hU,r,ne,nd,own,k⟩:=p2.ex
  cases r with
  |sh hf _=>exact absurd rfl ne
  |@list a0 vs0 ds0 A0 hz e rs =>
   obtain⟨j,d',e1,e2,hd,q⟩:=q2;obtain⟨na,nb⟩:=kN.mp nd;obtain⟨w,B,e3,r3,sb,g⟩:=rs.at e2 nb;refine .inl (.inl ⟨_,w,.inl (.inl e),uT (by rw[<- rs.length];exact e1) e3,f w H2 aT true d' _ gg ⟨B,r3,r3.ne hd,sb.nodup nb,λa h=>own a (dr _ (sb.subset h)),λfR H3 O3 d3 OS s3 w3 n3 hf r4 ne3 Vc o3 st=>?_⟩ q⟩);have av:∀ x∈A0,x∉B->H3 x=H2 x:=λx hx m=>st x (rs.own x hx).ne m;obtain⟨Nh,x4,y4,z4,r5⟩:=g fR H3 O3 d3 OS s3 hf r4 Vc (λa ha m=>(o3 a ha).2.elim id λq=>absurd q (rs.own a m).ne) av;have eA:H3 a0=H2 a0:=st a0 (by rw[e];exact λz=>nomatch z) λm=>na (sb.subset m);have cl:∀ a∈Nh,fR a=none/\(a∈a0 :: A0\/H2 a=none):=λa h=>by
    rcases y4 a h with⟨m,_⟩|m
    ·exact⟨n3 a (own a (dr _ m)) (rs.own a m).ne,.inl (dr _ m)⟩
    ·exact⟨(o3 a m).1,(o3 a m).2.imp (λq=>dr _ (sb.subset q)) id⟩
   refine k fR H3 O3 (.list _) (_ :: Nh) s3 w3 n3 hf (.list hz (eA.trans e) r5) (by simp) (kN.mpr ⟨λm=>?_,x4⟩) (λa h=>?_) λa h1 h2=>st a h1 λm=>h2 (dr _ (sb.subset m))
   ·rcases y4 _ m with⟨q,_⟩|q
    ·exact na q
    ·rcases (o3 _ q).2 with q|q
     ·exact na (sb.subset q)
     ·rw[e] at q;cases q
   ·rcases eB.mp h with rfl|h
    ·exact⟨n3 _ (own _ dk) (by rw[e];exact λz=>nomatch z),.inl dk⟩
    ·exact cl a h
  |tup hz e hn rs =>
   obtain⟨j,d',e1,e2,hd,q⟩:=q2;obtain⟨w,B,e3,r3,sb,g⟩:=rs.at e2 nd;refine .inl (.inr ⟨_,w,.inl (.inl (g2.wf.sub _ _ e)),uT (by rw[<- rs.length];exact e1) e3,f w H2 aT true d' _ gg ⟨B,r3,r3.ne hd,sb.nodup nd,λa h=>own a (sb.subset h),λfR H3 O3 d3 OS s3 w3 n3 hf r4 ne3 Vc o3 st=>?_⟩ q⟩);obtain⟨Nh,x4,y4,z4,r5⟩:=g fR H3 O3 d3 OS s3 hf r4 Vc (λa ha m=>(o3 a ha).2.elim id λq=>absurd q (rs.own a m).ne) (λx hx m=>st x (rs.own x hx).ne m);have Iq:eK (List.set _ j d3)=false:=vD e2 (by
    cases hh:d3.flat with
    |false=>rfl
    |true=>exact absurd (r4.nil_of hh) ne3)
   refine k fR H3 O3 (.tup _) Nh s3 w3 n3 hf (.tup hz (s3 _ _ e) Iq r5) (z4 ne3) x4 (λa h=>?_) λa h1 h2=>st a h1 λm=>h2 (sb.subset m);rcases y4 a h with⟨m,_⟩|m
   ·exact⟨n3 a (own a m) (rs.own a m).ne,.inl m⟩
   ·exact⟨(o3 a m).1,(o3 a m).2.imp (λq=>sb.subset q) id⟩
  |_=>exact q2.elim
 |_=>exact q2.elim
end
section
variable {X:Cx}{K:aE}{e:Expr}{p:WP}{te:WE}{apos eP pos:Pos}
def lM(fl:Bool)(m:Md)(d:D):Option Bool:=match m with
 |.sh=>some (fl && d.flat)
 |.ow b=>some (fl && b)
 |_=>bif d.flat then some fl else none
def D4(p:WP)(te:WE):WS:=λE ρ=>p ρ λfl d up=>match d with
 |.list xs=>te ρ λm x=>xs.length<bX/\match lM fl m x with
  |some fl2=>E.nx (up fl2 (.list (xs++[x])))
  |none=>False
 |_=>False
def zb(w:Wf Hs H)(r:RM K Hs H m d v As)(h:lM fl m d=some fl2):(fl2=true->fl=true)/\∃ B,B.Sublist As/\cv K Hs H fl2 d v B:=by
 cases m with
 |sh =>cases h;exact⟨λz=>by cases fl<;>simp_all,[],EE _,.sh (λz=>by cases fl<;>simp_all) r.2⟩
 |ow b =>cases h;refine⟨λz=>by cases fl<;>simp_all,As,List.Sublist.refl _,r.1.wk λz=>by cases fl<;>simp_all⟩
 |_ =>
  cases hf:d.flat with
  |true =>simp only[lM,hf,cond_true,Option.some.injEq] at h;subst h;exact⟨id,[],EE _,.sh (λ_=>hf) (r.flat w hf)⟩
  |false=>simp[lM,hf] at h
def Place.put(pl:Place K bE H1 σ fl (.list xs) v up)(g:fw bE H1 aT H2) :
  ∃ a vs A,v=.ref a/\H2 a=some (.lst vs)/\H1 a=some (.lst vs)/\aG K aT H2 fl xs vs A/\(a :: A).Nodup/\(∀ x∈a :: A,aT x=none/\H1 x≠none) /\
   ∀ fl2 ys ws C,(fl2=true->fl=true)->aG K aT H2 fl2 ys ws C->ws.length<=bX->C.Nodup->a∉C->(∀ x∈C,x∈A\/(aT x=none/\H1 x=none))->∃ fi,fo K aT (up fl2 (.list ys)) σ (upd H2 a (.lst ws)) fi:=by
 obtain⟨hU,r,ne,nd,own,k⟩:=pl.ex
 cases r with
 |sh hf _=>exact absurd rfl ne
 |@list a vs _ A hz e rs =>
  have e2:=g.all _ _ e;have rs2:=rs.grow g.sh g.all;have hw:∀ x∈a :: A,bE x=none/\H1 x≠none:=λx hx=>⟨own x hx,by
   rcases eB.mp hx with rfl|hx
   ·rw[e];exact λz=>nomatch z
   ·exact(rs.own x hx).ne⟩
  exact⟨a,vs,A,rfl,e2,e,rs2,nd,λx hx=>⟨g.ng (hw x hx).1 (hw x hx).2,(hw x hx).2⟩,λfl2 ys ws C hf mP hz ndC Ry hC=>k.node g hw (λ_ z=>by cases z) hf (.list hz ic (mP.fz (bP.refl _) λb hb=>fF λz=>Ry (by subst z;exact hb))) ndC Ry hC⟩
def Place.isL(w:Wf bE H1)(pl:Place K bE H1 σ fl (.list xs) v up):∃ a vs,v=.ref a/\fh K H1 a vs:=by
 obtain⟨hU,r,ne,nd,own,k⟩:=pl.ex
 cases r with
 |sh hf _=>exact absurd rfl ne
 |list hz e rs=>exact⟨_,_,rfl,.inl (.inl e)⟩
def lG (ho:QP X K e p) (he:QE X K e2 te) (hK:autoParam (X.K=K) bv) (hs:autoParam (xh (.Call (.Attribute e "append" apos) [e2] [] eP) none pos.line X.env=pure false) bv) (tT:autoParam (zI e "append" X.env (dn e X.env)=dn e X.env) bv) (t5:autoParam (((kA eP (b4 [e2] X.env)).all (λx=>!x.1) && (backToKw eP (CH [] X.env)).all (λx=>x.1.isSome)
   && decide ([e2].length+([]:List oQ).length+(if ([]:List oQ).isEmpty then 0 else 1)<30))=true) bv)
  (hline:autoParam ((apos.endLine == eP.line)=true) bv) (wm:autoParam (b4 (e2 :: []) X.env=(false,dn e2 X.env) :: b4 [] X.env) bv) (AQ:autoParam ((kA eP (b4 [] X.env)).any (·.1)=false) bv) :
  QS X K L (.Expr (.Call (.Attribute e "append" apos) [e2] [] eP) pos) (D4 p te):=by
 subst hK;refine PS.imp (Qr (MB PySem.F.plainAttrs_list PySem.F.slot_list_append PySem.F.type_list_append Ue ho (qA he vE wm) tT t5 hline wm AQ) hs) λD σ H hx=>cU hx λHs ρ ai E sr h k1 k2 k3 k4=>?_;refine⟨Hs,ρ,ai,_,sr,h,λv H1 bE fl d up g1 p1 q1=>?_⟩
 cases d with
 |list xs =>
  obtain⟨a1,vs1,e1,s1⟩:=p1.isL g1.wf;subst e1;refine⟨.inl ⟨rfl,_,s1⟩,bE,ρ,ai,_,sr.grow g1,q1,λy H2 aT m x As g2 r2 f2 q2=>?_⟩;obtain⟨hz,q2⟩:=q2;obtain⟨a,vs,A,ea,e2,_,rs,nd,hn,k⟩:=p1.put g2;cases ea;have hl:=rs.length;refine⟨a1,vs,y,rfl,rfl,e2,by lia,?_⟩
  cases hp:lM fl m x with
  |none=>rw[hp] at q2;exact q2.elim
  |some fl2 =>
   rw[hp] at q2;obtain⟨hf,B,sb,rb⟩:=zb g2.wf r2 hp;obtain⟨na,nA⟩:=kN.mp nd;have fB:∀ x∈B,aT x=none/\H1 x=none:=λx hx=>f2.2 x (sb.subset hx);have c1:(A++(B++[])).Nodup:=by rw[vv];exact gV.mpr ⟨nA,sb.nodup f2.1,λx hx z hz e=>by subst e;exact(hn x (dr _ hx)).2 (fB x hz).2⟩
   have c2:a1∉A++(B++[]):=by
    rw[vv];intro m;rcases eR.mp m with m|m
    ·exact na m
    ·exact(hn _ dk).2 (fB _ m).2
   have c3:∀ x∈A++(B++[]),x∈A\/(aT x=none/\H1 x=none):=by rw[vv];intro x hx;exact(eR.mp hx).imp id λz=>fB x z
   obtain⟨fi,iq⟩:=k fl2 (xs++[x]) (vs++[y]) (A++(B++[])) hf ((rs.wk hf).append (.cons rb .nil)) (by rw[ot];simp;lia) c1 c2 c3;exact k1 σ _ aT _ fi (g1.sh.trans g2.sh) iq q2
 |_=>exact q1.elim
def jV:WE:=λ_ Q=>Q (.ow true) (.dT [])
def jD:QE X K (.Dict [] [] pos) jV:=PE.imp ex' λσ H Qv hx=>kE hx λHs ρ ai Q sr h f=>λa ha =>
 f _ _ Hs (.ow true) (.dT []) [a] (OO sr.wf ha λ_ z=>nomatch z) ⟨.dT ⟨fE _,λp hp=>nomatch hp⟩ ic .nil,by simp⟩ ⟨by simp,λb hb=>by
  obtain rfl:b=a:=by simpa using hb
  exact⟨sr.wf.sub.free ha,ha⟩⟩ h
section
variable {κ:Type}[DecidableEq κ]
def wG{Hs H:Hp}{fl:Bool}{k:κ}{d:D}{v:V}(r:cv K Hs H fl d v []){kvs:List (κ × D)}{vs:List V}{As:List ah}(qs:aG K Hs H fl (kvs.map (·.2)) vs As):∃ ws Bs,Bs.Sublist As /\
  aG K Hs H fl ((kvs.map λkv=>if kv.1=k then (kv.1,d) else kv).map (·.2)) ws Bs/\((kvs.map (·.1)).zip vs).map (λkv=>if kv.1=k then (kv.1,v) else kv)=(((kvs.map λkv=>if kv.1=k then (kv.1,d) else kv)).map (·.1)).zip ws:=by
 induction kvs generalizing vs As with
 |nil=>exact⟨[],[],EE _,.nil,rfl⟩
 |cons p kvs ih =>
  obtain⟨u,vs,A,B,rfl,rfl,q,qs⟩:=aG.c qs;obtain⟨ws,Bs,sb,rs,e⟩:=ih qs;by_cases h:p.1=k
  ·refine⟨v :: ws,[]++Bs,by simpa using sb.trans (mG _ _),?_,?_⟩
   ·simp only[gd,h,if_true];exact .cons r rs
   ·simp only[gd,BE,h,if_true,e]
  ·refine⟨u :: ws,A++Bs,sb.append_left _,?_,?_⟩
   ·simp only[gd,h,if_false];exact .cons q rs
   ·simp only[gd,BE,h,if_false,e]
def zN{Hs H:Hp}{fl:Bool}{k:κ}{d:D}{v:V}(r:cv K Hs H fl d v []){kvs:List (κ × D)}{vs:List V}{As:List ah}(q:aG K Hs H fl (kvs.map (·.2)) vs As) :
  ∃ ws Bs,Bs.Sublist As/\aG K Hs H fl ((lP kvs k d).map (·.2)) ws Bs/\putK ((kvs.map (·.1)).zip vs) k v=((lP kvs k d).map (·.1)).zip ws:=by
 have hl:=q.length;rw[b6] at hl;unfold putK lP;rw[CT hl]
 cases h:kvs.any λkv=>decide (kv.1=k) with
 |true =>exact wG r q
 |false =>
  simp only[pf,if_false];refine⟨vs++[v],As++([]++[]),by simp,?_,?_⟩
  ·rw[AA];exact q.append (.cons r .nil)
  ·rw[AA,List.zip_append (by rw[b6];exact hl)];rfl
def xY{Hs H:Hp}{fl:Bool}{k:κ}{d:D}{v:V}(r:Rep K Hs d v)(hd:d.flat=true){kvs:List (κ × D)}{vs:List V}{As:List ah}(q:aG K Hs H fl (kvs.map (·.2)) vs As) :
  ∃ ws Bs,Bs.Sublist As/\aG K Hs H fl ((lP kvs k d).map (·.2)) ws Bs/\putK ((kvs.map (·.1)).zip vs) k v=((lP kvs k d).map (·.1)).zip ws:=zN (.sh (λ_=>hd) r) q
def dh{β:Type}(kvs:List (κ × β))(k:κ)(v:β):(lP kvs k v).length<=kvs.length+1:=by
 unfold lP;split
 ·rw[b6];exact Nat.le_add_right _ _
 ·simp
def pA{β:Type}{kvs:List (κ × β)}{k:κ}{v:β}{p:κ × β}(h:p∈lP kvs k v):p.1=k\/p.1∈kvs.map (·.1):=by
 unfold lP at h;split at h
 ·obtain⟨q,hq,e⟩:=b5.mp h;by_cases hk:q.1=k
  ·rw[if_pos hk] at e;subst e;exact .inl hk
  ·rw[if_neg hk] at e;subst e;exact .inr (b5.mpr ⟨q,hq,rfl⟩)
 ·rcases eR.mp h with h|h
  ·exact .inr (b5.mpr ⟨p,h,rfl⟩)
  ·have:p=(k,v):=by simpa using h
   subst this;exact .inl rfl
end
def jP(p:WP)(tk tv:WE):WS:=λE ρ=>tv ρ λ_ x=>p ρ λfl d up=>tk ρ λ_ y=>x.flat=true/\match d with
 |.dK kvs=>∃ k,y.key1=some k/\kvs.length<bX/\E.nx (up fl (.dK (lP kvs k x)))
 |.dT kvs=>match y with
  |.tup ys=>∃ ks,dU ys=some ks/\kvs.length<bX/\E.nx (up fl (.dT (lP kvs ks x)))
  |_=>False
 |_=>False
def rJ(r:Rep K H d v)(h:d.key1=some k):AW k=true:=by
 cases r<;>simp[D.key1] at h<;>subst h
 ·rfl
 ·rename_i hz;simp[AW,hz]
def yX(r:bT K H ds vs)(h:dU ds=some ks):ks.length=ds.length/\∀ k∈ks,AW k=true:=by
 induction ds generalizing vs ks with
 |nil=>simp[dU] at h;subst h;exact⟨rfl,λk hk=>nomatch hk⟩
 |cons d ds ih =>
  obtain⟨u,us,rfl,r,rs⟩:=r.c;unfold dU at h
  cases e1:d.key1 with
  |none=>rw[e1] at h;simp at h
  |some k =>
   cases e2:dU ds with
   |none=>rw[e1,e2] at h;simp at h
   |some dE =>
    rw[e1,e2] at h;simp at h;subst h;obtain⟨a,b⟩:=ih rs e2;refine⟨by simp[a],λj hj=>?_⟩;rcases eB.mp hj with rfl|hj
    ·exact rJ r e1
    ·exact b j hj
def d7{a b c:Expr}{tk tv:WE}{pos':Pos}(ho:QP X K a p)(hi:QE X K b tk)(hv:QE X K c tv)(hs:autoParam (xh c (some (.Subscript a b pos')) pos.line X.env=pure false) bv)(hu:X.A.units+64<e9:=by assumption) :
  QS X K L (.Assign [.Subscript a b pos'] c pos) (jP p tk tv):=by
 refine PS.imp (et' (by lia) ho hi hv hs) λD σ H hx=>cU hx λHs ρ ai E sr h k1 k2 k3 k4=>?_;refine⟨Hs,ρ,ai,_,sr,h,λv H1 bE m1 x As1 g1 r1 f1 q1=>⟨bE,ρ,ai,_,sr.grow g1,q1,λu H2 aT fl d up g2 p2 q2=>⟨aT,ρ,ai,_,(sr.grow g1).grow g2,q2,λy H3 fR m3 yd OS g3 r3 f3 q3=>?_⟩⟩⟩;obtain⟨hx,q3⟩:=q3;have rx:Rep K fR x v:=((r1.grow g2).grow g3).flat g3.wf hx;have ry:=r3.rep g3.wf;obtain⟨hU,r,ne,nd,own,k⟩:=p2.ex;have sm:bP Hs fR:=(g1.sh.trans g2.sh).trans g3.sh;have lv:∀ x∈hU,aT x=none/\H2 x≠none:=λx hx=>⟨own x hx,(r.own x hx).ne⟩
 cases r with
 |sh hf _=>exact absurd rfl ne
 |@dK a0 vs kvs A kk e rs =>
  obtain⟨key,hk,hz,q⟩:=q3;have ey:=ry.key hk;subst ey;obtain⟨na,nA⟩:=kN.mp nd;obtain⟨ws,Bs,sb,mP,ew⟩:=xY rx hx (rs.grow g3.sh g3.all);have hl:kvs.length=vs.length:=by have:=rs.length;rwa[b6] at this
  refine⟨a0,_,rfl,E5.k (g3.all _ _ e) (by rw[P1,b6,<- hl,P_];exact hz),?_⟩;rw[ew];have nB:a0∉Bs:=λz=>na (sb.subset z);obtain⟨fi,iq⟩:=k.node g3 lv (λ_ z=>by cases z) id (.dK ⟨iP (dh _ _ _) hz,λp hp=>(pA hp).elim (λz=>by rw[z];exact rJ ry hk) λz=>by obtain⟨p',i5,e'⟩:=b5.mp z;rw[<- e'];exact kk.2 p' i5⟩ ic (mP.fz (bP.refl _) λb hb=>fF λz=>nB (by subst z;exact hb))) (sb.nodup nA) nB λb hb=>.inl (sb.subset hb)
  exact k1 σ _ fR _ fi sm iq q
 |@dT a0 vs kvs A kk e rs =>
  cases ry with
  |tup t1 e1 Np =>
   obtain⟨key,hk,hz,q⟩:=q3;obtain⟨b,eb,e5⟩:=Rep.kr (.tup t1 e1 Np) hk;cases eb;obtain⟨kl,ko⟩:=yX Np hk;obtain⟨na,nA⟩:=kN.mp nd;obtain⟨ws,Bs,sb,mP,ew⟩:=xY rx hx (rs.grow g3.sh g3.all);have hl:kvs.length=vs.length:=by have:=rs.length;rwa[b6] at this
   refine⟨a0,_,rfl,E5.t (g3.all _ _ e) e5 (by rw[P1,b6,<- hl,P_];exact hz),?_⟩;rw[ew];have nB:a0∉Bs:=λz=>na (sb.subset z);have l1:=Np.length;obtain⟨fi,iq⟩:=k.node g3 lv (λ_ z=>by cases z) id (.dT ⟨iP (dh _ _ _) hz,λp hp=>(pA hp).elim (λz=>by rw[z];exact⟨by lia,ko⟩) λz=>by obtain⟨p',i5,e'⟩:=b5.mp z;rw[<- e'];exact kk.2 p' i5⟩ ic (mP.fz (bP.refl _) λb hb=>fF λz=>nB (by subst z;exact hb))) (sb.nodup nA) nB λb hb=>.inl (sb.subset hb)
   exact k1 σ _ fR _ fi sm iq q
  |_=>exact q3.elim
 |_=>exact q3.elim
end
abbrev WJ:=Env->Str->(Str->Prop)->Prop
section
variable {X:Cx}{K:aE}{e:Expr}{te:WE}{j:WJ}
def iY:List D->Option (List Str)
 |[]=>some []
 |.str x :: xs=>(iY xs).map (x :: ·)
 |_ :: _=>none
def jF(to te:WE):WE:=λρ Q=>to ρ λ_ x=>match x with
 |.str z=>te ρ λ_ y=>match y with
  |.list ys=>∃ zs,iY ys=some zs/\(zs.map (·.length)).sum+zs.length*z.length<=16777216/\Q .sh (.str (Str.join z zs))
  |_=>False
 |_=>False
def zQ(r:bT K H ds vs)(q:Vals vs us)(h:iY ds=some zs):StrsAre us zs:=by
 induction ds generalizing vs us zs with
 |nil =>simp[iY] at h;subst h;have:=r.n0;subst this;rw[Paired.n0 q];exact .nil
 |cons d ds ih =>
  obtain⟨v,vs,rfl,r1,rs⟩:=r.c;obtain⟨u,us,rfl,q1,qs⟩:=Paired.c q
  cases r1 with
  |str hz =>
   simp only[iY] at h
   cases e:iY ds with
   |none=>rw[e] at h;cases h
   |some ys =>rw[e] at h;cases h;obtain⟨t,rfl⟩:=q1;exact .cons _ t (ih rs qs e)
  |_=>simp[iY] at h
def Eu (hK:autoParam (X.K=K) bv):Og X "str.join" (λx xs H Q=>∃ z a ds vs zs,x=.str z/\xs=[.ref a]/\fh K H a vs/\bT K H ds vs/\iY ds=some zs/\(zs.map (·.length)).sum+zs.length*z.length<=16777216/\Q (.str (Str.join z zs)) H):=by subst hK;intro pins s σ H x xs v us Q I rx rs h;obtain⟨z,a,ds,vs,zs,rfl,rfl,hs,rr,e,hz,q⟩:=h;obtain⟨t,rfl⟩:=rx;obtain⟨u,rfl,ru⟩:=Vals.one rs;cases ru;obtain⟨its,rv,pl,_⟩:=I.list hs;exact join_list pl.isList (by simpa using zQ rr rv e) hz λt' k=>⟨.str _,H,I.tok _,⟨t',rfl⟩,by rw[show Txt.join z zs=Str.join z zs from StrLaws.glued_eq_join z zs];exact q⟩
theorem tG:∀ {zs:List Str},(Str.join z zs).length<=(zs.map (·.length)).sum+zs.length*z.length
 |[]=>by exact iP (show Str.empty.length<=0 by decide) (fE _)
 |[x]=>by simp[Str.join]
 |x :: y :: r=>by have ih:=tG (z:=z) (zs:=y :: r);show(x++z++Str.join z (y :: r)).length<=_;rw[cP,cP];simp only[gd,List.sum_cons,oS,Nat.add_mul,Nat.one_mul] at ih ⊢;lia
def uo(ho:QE X K o to)(he:QE X K e te)(hK:autoParam (X.K=K) bv) (tT:autoParam (zI o "join" X.env (dn o X.env)=dn o X.env) bv) (t5:autoParam (((kA eP (b4 [e] X.env)).all (λx=>!x.1) && (backToKw eP (CH [] X.env)).all (λx=>x.1.isSome)
   && decide ([e].length+([]:List oQ).length+(if ([]:List oQ).isEmpty then 0 else 1)<30))=true) bv)
  (hline:autoParam ((apos.endLine == eP.line)=true) bv) (wm:autoParam (b4 (e :: []) X.env=(false,dn e X.env) :: b4 [] X.env) bv) (AQ:autoParam ((kA eP (b4 [] X.env)).any (·.1)=false) bv) :
  QE X K (.Call (.Attribute o "join" apos) [e] [] eP) (jF to te):=by
 subst hK;refine PE.imp (MB PySem.F.plainAttrs_str PySem.F.slot_str_join PySem.F.type_str_join Eu ho (qA he vE wm) tT t5 hline wm AQ) λσ H Qv hx=>kE hx λHs ρ ai Q sr h f=>?_;refine⟨Hs,ρ,ai,_,sr,h,λv H1 bE m x As g1 r1 f1 q1=>?_⟩;have r:=r1.rep g1.wf
 cases r with
 |str hz =>
  refine⟨rfl,bE,ρ,ai,_,sr.grow g1,q1,λy H2 aT m2 x2 hG g2 r2 f2 q2=>?_⟩;have rr:=r2.rep g2.wf
  cases rr with
  |list z s rs =>obtain⟨zs,e,hz,q⟩:=q2;exact⟨_,_,_,_,zs,rfl,rfl,s,rs,e,hz,Fin.sh (Fin.after f (g1.trans g2)) g2.wf (.str (iP tG (by rw[j3];exact hz))) q⟩
  |_=>exact q2.elim
 |_=>exact q1.elim
def kr(k:List Key):D:=.tup (k.map kX)
def xm:W1:=λ_ x Q=>match x with
 |.list xs=>∃ ks sh,xs=ks.map kr/\(∀ k∈ks,gX k=true :: sh)/\∀ ms:List (List Key),ms.Perm ks->(ms.Pairwise λa b=>fv b a=false)->Q (.ow true) (.list (ms.map kr))
 |_=>False
def oO{H:Hp}{ks:List Key}{vs:List V}(r:bT K H (ks.map kX) vs):vs=ks.map kV/\∀ k∈ks,AW k=true:=by
 induction ks generalizing vs with
 |nil=>exact⟨r.n0,λk h=>nomatch h⟩
 |cons k ks ih =>
  obtain⟨u,us,rfl,r1,rs⟩:=bT.c r;obtain⟨e,o⟩:=ih rs;subst e
  cases k with
  |inl i=>cases r1;exact⟨rfl,λj hj=>by rcases eB.mp hj with rfl|hj;rfl;exact o j hj⟩
  |inr x =>
   cases r1 with
   |str hz=>exact⟨rfl,λj hj=>by rcases eB.mp hj with rfl|hj;simp[AW,hz];exact o j hj⟩
def rQ{H:Hp}{ks:List (List Key)}{vs:List V}(r:bT K H (ks.map kr) vs):bR H vs ks/\∀ k∈ks,k.length<=bX/\∀ j∈k,AW j=true:=by
 induction ks generalizing vs with
 |nil=>rw[r.n0];exact⟨.nil,λk h=>nomatch h⟩
 |cons k ks ih =>
  obtain⟨u,us,rfl,r1,rs⟩:=bT.c r;obtain⟨t,o⟩:=ih rs
  cases r1 with
  |tup hz e q =>
   obtain⟨e2,o2⟩:=oO q;subst e2;exact⟨.cons ⟨_,rfl,e⟩ t,λj hj=>by
    rcases eB.mp hj with rfl|hj
    ·exact⟨by simpa using hz,o2⟩
    ·exact o j hj⟩
def Am:zi K (sX K) xm:=by
 intro Hs H m x v As Qd Qv w rx h f;have r1:=rx.rep w
 cases r1 with
 |list z s q =>obtain⟨ks,sh,rfl,hs,h⟩:=h;obtain⟨ta,ok⟩:=rQ q;have hl:=q.length;rw[b6] at hl;refine⟨_,ks,sh,s,ta,hs,λzs ms l tz pm pw D5=>?_⟩;have rr:=gn (K:=K) tz λk hk=>ok k (pm.mem_iff.mp hk);exact f.lst w (by rw[b6,pm.length_eq];lia) rr (dI ms) (h ms pm pw) l D5
 |_=>exact h.elim
def Ii (hK:autoParam (X.K=K) bv):i3 X (.builtin "sorted") (sX K):=by subst hK;exact uC
def bz:kK "sorted" = some (.builtin "sorted"):=by decide +kernel
end
def shF(A:List ah)(F:Nat->List ah):Nat->List ah
 |0=>A
 |i+1=>F i
def IX(K:aE)(Hs H:Hp)(ρ:Env)(σ:St)(ai:List ah)(F:Nat->List ah):Prop:=(∀ i fl d,ρ[i]? = some (some (.ow fl d))->∃ v,σ[i]? = some (some v)/\F i≠[]/\cv K Hs H fl d v (F i)) /\ (∀ i,(F i).Sublist ai)/\∀ i j,i≠j->∀ a∈F i,a∉F j
def IX.skip{K:aE}{F:Nat->List ah}(h:IX K Hs H ρ σ ai F)(no:∀ fl d,o≠some (.ow fl d)):IX K Hs H (o :: ρ) (u :: σ) ai (shF [] F):=by
 obtain⟨a,b,c⟩:=h;refine⟨λi fl d e=>?_,λi=>?_,λi j ne x hx=>?_⟩
 ·cases i with
  |zero=>simp at e;exact absurd e (no fl d)
  |succ i=>exact a i fl d (by simpa using e)
 ·cases i with
  |zero=>exact EE _
  |succ i=>exact b i
 ·cases i with
  |zero=>exact wa hx
  |succ i =>
   cases j with
   |zero=>exact λz=>wa z
   |succ j=>exact c i j (λz=>ne (by rw[z])) x hx
def IX.own{K:aE}{ai B:List ah}{F:Nat->List ah}(h:IX K Hs H ρ σ ai F)(n:(B++ai).Nodup)(hs:∀ fl d,sl=.ow fl d->B≠[]/\cv K Hs H fl d v B):IX K Hs H (some sl :: ρ) (some v :: σ) (B++ai) (shF B F):=by
 obtain⟨a,b,c⟩:=h;obtain⟨n1,n2,n3⟩:=gV.mp n;refine⟨λi fl d e=>?_,λi=>?_,λi j ne x hx=>?_⟩
 ·cases i with
  |zero=>simp at e;exact⟨v,rfl,hs fl d e⟩
  |succ i=>exact a i fl d (by simpa using e)
 ·cases i with
  |zero=>exact LH _ _
  |succ i=>exact(b i).trans (mG _ _)
 ·cases i with
  |zero =>
   cases j with
   |zero=>exact absurd rfl ne
   |succ j=>exact λz=>n3 x hx x ((b j).subset z) rfl
  |succ i =>
   cases j with
   |zero=>exact λz=>n3 x z x ((b i).subset hx) rfl
   |succ j=>exact c i j (λz=>ne (by rw[z])) x hx
def SR.addrs{K:aE}(s:SR K Hs H ρ σ ai):ai.Nodup->∃ F:Nat->List ah,IX K Hs H ρ σ ai F:=by
 induction s with
 |nil=>exact λ_=>⟨λ_=>[],λi fl d e=>by simp at e,λi=>EE _,λi j _ a h=>wa h⟩
 |non s ih =>intro n;obtain⟨F,h⟩:=ih n;exact⟨_,h.skip λfl d z=>by cases z⟩
 |sh r s ih =>intro n;obtain⟨F,h⟩:=ih n;exact⟨_,h.skip λfl d z=>by cases z⟩
 |xc s ih =>intro n;obtain⟨F,h⟩:=ih n;exact⟨_,h.skip λfl d z=>by cases z⟩
 |ow ne r s ih =>intro n;obtain⟨F,h⟩:=ih (gV.mp n).2.1;exact⟨_,h.own n λfl d e=>by cases e;exact⟨ne,r⟩⟩
 |lk ne r s ih =>intro n;obtain⟨F,h⟩:=ih (gV.mp n).2.1;exact⟨_,h.own n λfl d e=>by cases e⟩
 |ob r s ih =>intro n;obtain⟨F,h⟩:=ih (gV.mp n).2.1;exact⟨_,h.own n λfl d e=>by cases e⟩
abbrev Plan:=List (WE ⊕ Nat)
def RA:Plan->List Nat
 |[]=>[]
 |.inl _ :: r=>RA r
 |.inr i :: r=>i :: RA r
def RC:Option (Option Sl)->Option (Md × D)
 |some (some (.sh d))=>some (.sh,d)
 |some (some (.ow fl d))=>some (.ow fl,d)
 |_=>none
def jM:Plan->Env->(List (Md × D)->Prop)->Prop
 |[],_,Q=>Q []
 |.inl t :: r,ρ,Q=>t ρ λm x=>jM r ρ λps=>Q ((m,x) :: ps)
 |.inr i :: r,ρ,Q=>match RC ρ[i]? with
  |some p=>jM r ρ λps=>Q (p :: ps)
  |none=>False
def tpM(K:aE)(pl:Plan):TA:=λσ H Qv=>∃ (Hs:Hp) (ρ:Env) (ai:List ah) (F:Nat->List ah) (Q:List (Md × D)->Prop),fo K Hs ρ σ H ai/\(∀ i fl d,ρ[i]? = some (some (.ow fl d))->∃ v,σ[i]? = some (some v)/\F i≠[]/\cv K Hs H fl d v (F i))/\(∀ i,(F i).Sublist ai)/\(∀ i j,i≠j->∀ a∈F i,a∉F j) /\
 jM pl ρ Q/\∀ vs H' aC ps As,fw Hs H aC H'->AX K aC H' ps vs As->As.Nodup->(∀ a∈As,aC a=none/\(H a=none\/∃ i∈RA pl,a∈F i))->Q ps->Qv vs H'
abbrev QM(X:Cx)(K:aE)(es:List Expr)(pl:Plan):Prop:=PA X es (tpM K pl)
section
variable {X:Cx}{K:aE}{e:Expr}{es:List Expr}{te:WE}{pl:Plan}{pos:Pos}
def uc:QM X K [] []:=PA.imp vE λσ H Qv hx=>by obtain⟨Hs,ρ,ai,F,Q,sr,h1,h2,h3,h,f⟩:=hx;exact f [] H Hs [] [] (fw.refl sr.wf) .nil n9 (λa h=>wa h) h
def RD(ha:QE X K e te)(hr:QM X K es pl)(hs:autoParam (b4 (e :: es) X.env=(false,dn e X.env) :: b4 es X.env) bv):QM X K (e :: es) (.inl te :: pl):=by
 refine PA.imp (qA ha hr hs) λσ H Qv eI=>?_;obtain⟨Hs,ρ,ai,F,Q,sr,h1,h2,h3,h,f⟩:=eI;refine⟨Hs,ρ,ai,_,sr,h,λv H1 bE m x As g1 r1 f1 q1=>⟨bE,ρ,ai,F,_,sr.grow g1,(λi fl d e=>?_),h2,h3,q1,λvs H2 aT ps Bs g2 r2 k5 o2 q2=>?_⟩⟩
 ·obtain⟨v,a,b,c⟩:=h1 i fl d e;exact⟨v,a,b,c.grow g1.sh g1.all⟩
 ·refine f (v :: vs) H2 aT _ _ (g1.trans g2) (.cons (r1.grow g2) r2) (gV.mpr ⟨f1.1,k5,λa ha b hb e=>?_⟩) (λa ha=>?_) q2
  ·subst e;rcases (o2 a hb).2 with z|⟨i,_,z⟩
   ·exact(r1.own a ha).ne z
   ·exact(sr.sr.own a ((h2 i).subset z)).ne (f1.2 a ha).2
  ·rcases eR.mp ha with z|z
   ·exact⟨g2.ng (f1.2 a z).1 (r1.own a z).ne,.inl (f1.2 a z).2⟩
   ·exact⟨(o2 a z).1,(o2 a z).2.imp g1.all.free id⟩
def RG(ha:PE X e (ER i))(hr:QM X K es pl)(hi:i∉RA pl:=by decide)(hs:autoParam (b4 (e :: es) X.env=(false,dn e X.env) :: b4 es X.env) bv):QM X K (e :: es) (.inr i :: pl):=by
 refine PA.imp (qA ha hr hs) λσ H Qv eI=>?_;obtain⟨Hs,ρ,ai,F,Q,sr,h1,h2,h3,h,f⟩:=eI;unfold jM at h
 cases hm:RC ρ[i]? with
 |none=>rw[hm] at h;exact h.elim
 |some p =>
  rw[hm] at h;have key:∃ v A,σ[i]? = some (some v)/\RM K Hs H p.1 p.2 v A/\A.Nodup/\∀ a∈A,a∈F i:=by
   cases e1:ρ[i]? with
   |none=>rw[e1] at hm;cases hm
   |some o =>
    cases o with
    |none=>rw[e1] at hm;cases hm
    |some sl =>
     cases sl with
     |sh d =>rw[e1] at hm;cases hm;obtain⟨v,a,b⟩:=sr.sr.get e1;exact⟨v,[],a,⟨rfl,b⟩,n9,λa h=>nomatch h⟩
     |lk a fl d=>rw[e1] at hm;cases hm
     |xc a=>rw[e1] at hm;cases hm
     |ob a p=>rw[e1] at hm;cases hm
     |ow fl d =>rw[e1] at hm;cases hm;obtain⟨v,a,b,c⟩:=h1 i fl d e1;exact⟨v,F i,a,⟨c,b⟩,(h2 i).nodup sr.sL,λa h=>h⟩
  obtain⟨v,A,ev,rm,IY,hA⟩:=key;refine⟨v,ev,Hs,ρ,ai,F,_,sr,h1,h2,h3,h,λvs H2 aT ps Bs g2 r2 k5 o2 q2=>?_⟩;refine f (v :: vs) H2 aT _ _ g2 (.cons (rm.grow g2) r2) (gV.mpr ⟨IY,k5,λa ha b hb e=>?_⟩) (λa ha=>?_) q2
  ·subst e;rcases (o2 a hb).2 with z|⟨j,hj,z⟩
   ·exact(rm.own a ha).ne z
   ·exact h3 i j (λz=>hi (by rw[z];exact hj)) a (hA a ha) z
  ·rcases eR.mp ha with z|z
   ·have:a∈ai:=(h2 i).subset (hA a z);exact⟨g2.ng (sr.own a this) (sr.sr.own a this).ne,.inr ⟨i,dk,hA a z⟩⟩
   ·exact⟨(o2 a z).1,(o2 a z).2.imp id λ⟨j,hj,q⟩=>⟨j,dr _ hj,q⟩⟩
def uZ(pl:Plan):WS:=λE ρ=>jM pl ρ λps=>ps.length<=bX/\E.rt (uJ ps) (.tup (ps.map (·.2)))
def mZ{x1}(h:QM X K es pl):QS X K L (.Return (some (.Tuple es x1 kc')) pos) (uZ pl):=by
 refine PS.imp (Tv (WW h)) λD σ H hx=>cU hx λHs ρ ai E sr h k1 k2 k3 k4=>?_;obtain⟨F,h1,h2,h3⟩:=sr.sr.addrs sr.sL;refine⟨Hs,ρ,ai,F,_,sr,h1,h2,h3,h,λvs H1 bE ps As g1 r1 Vd o1 q1=>?_⟩;obtain⟨hz,q⟩:=q1;have rl:=r1.reps g1.wf;have hl:=rl.length;rw[b6] at hl;refine⟨by lia,λp hp=>?_⟩;have g2:=Rm (vs:=vs) g1.wf hp;have sm:bP Hs (upd bE p (.tup vs)):=g1.sh.trans g2.sh;unfold uJ at q
 cases e1:ps.all AY with
 |true =>rw[e1] at q;exact k4 _ _ _ .sh _ [] sm g2.wf ⟨rfl,.tup (by lia) ic ((r1.sh g1.wf e1).same g2.sh)⟩ n9 (λa h=>nomatch h) q
 |false =>
  rw[e1] at q
  cases e2:ps.all IL with
  |false =>rw[e2] at q;exact k4 _ _ _ .bo _ [] sm g2.wf ⟨rfl,.tup (by lia) ic (rl.same g2.all)⟩ n9 (λa h=>nomatch h) q
  |true =>
   rw[e2] at q;obtain⟨Bs,sb,nz,ro⟩:=r1.ow g1.wf e2 λz=>z;have iA:eK (ps.map (·.2))=false:=by
    cases hf:eK (ps.map (·.2)) with
    |false=>rfl
    |true=>rw[mL hf] at e1;cases e1
   exact k4 _ _ _ (.ow _) _ Bs sm g2.wf ⟨.tup (by lia) ic iA (ro.grow g2.sh g2.all),nz e1⟩ (sb.nodup Vd) (λa ha=>g2.ng (o1 a (sb.subset ha)).1 (ro.own a ha).ne) q
end
def aq':i7:=λds Q=>∃ ns:List Int,ds=[.list (ns.map .int)]/\ns.length<=63/\∀ m,Q m (.bl true)
theorem ints_rep{K:aE}:∀ (ns:List Int),bT K H (ns.map .int) (ns.map V.int)
 |[]=>.nil
 |n :: ns=>.cons (.int n) (ints_rep ns)
def Al{K:aE}{H:Hp}{a:ah}{ns:List Int}{E:XK}(hl:ns.length<=63)(hS:fh K H a (ns.map V.int)):fQ K aq' [.ref a] H (λv _=>v=.bl true) E:=by refine⟨[.list (ns.map .int)],λ_ d=>d=.bl true,.cons (.list (by rw[b6];exact iP hl (by decide)) hS (ints_rep ns)) .nil,⟨ns,rfl,hl,λ_=>rfl⟩,?_⟩;intro v H' aC m d As s w r nd own q;subst q;have:=r.rep w;cases this;rfl
abbrev sg(x:Str):List Nat:=x.cps.toList
def sW(x y:Str):sg (x++y)=sg x++sg y:=by show(x.cps++y.cps).toList=_;simp[sg]
def empty_app(x:Str):Str.empty++x=x:=yg (by rw[<- sg,sW];rfl)
def okS(x:Str):Prop:=∀ c∈sg x,c<0x110000
def El(x:Str):PyData.strOk x=true↔okS x:=by unfold PyData.strOk okS sg;rw[Array.all_eq_true'];simp
def gy'{α:Type}(x:α)(l:List α):gv (x :: l) 0=some x:=by simp[L2.gv,oi]
def gz'{α:Type}(x y:α)(l:List α):gv (x :: y :: l) 1=some y:=by have:=MA (xs:=x :: y :: l) (j:=1) rfl;exact this
def gA'{α:Type}(x y z:α)(l:List α):gv (x :: y :: z :: l) 2=some z:=by have:=MA (xs:=x :: y :: z :: l) (j:=2) rfl;exact this
def Hu:Str.empty.length=0:=by decide
end L2.Q
namespace L2.Q.R
section
variable {f:D->Prop}{k:Kt f}
def Kp:cE .non k=f .non:=rfl
def Mm:cE (.bl b) k=f (.bl b):=rfl
def Kh:cE (.int i) k=f (.int i):=rfl
def Kw:cE (.str x) k=f (.str x):=rfl
def JS:cE (.list xs) k=f (.list xs):=rfl
def KN:cE (.tup xs) k=f (.tup xs):=rfl
def M9:cE (.dK xs) k=f (.dK xs):=rfl
def MJ:cE (.dT xs) k=f (.dT xs):=rfl
end
def Jj{f:Bool->Prop}{k:Kt f}:cE true k=f true:=rfl
def Ik{f:Bool->Prop}{k:Kt f}:cE false k=f false:=rfl
def KD{d:D}{f:Md × D->Prop}{k:Kt f}:cE (Md.sh,d) k=f (.sh,d):=rfl
def Ld{b:Bool}{d:D}{f:Md × D->Prop}{k:Kt f}:cE (Md.ow b,d) k=f (.ow b,d):=rfl
def K3{d:D}{f:Option Sl->Prop}{k:Kt f}:cE (some (.sh d)) k=f (some (.sh d)):=rfl
def Ka{b:Bool}{d:D}{f:Option Sl->Prop}{k:Kt f}:cE (some (.ow b d)) k=f (some (.ow b d)):=rfl
def Lh{p:Md × D}{f:Option (Md × D)->Prop}{k:Kt f}:cE (some p) k=f (some p):=rfl
def Lz{p:Bool}{f:Option Bool->Prop}{k:Kt f}:cE (some p) k=f (some p):=rfl
def J9{d:D}{f:Option (Option Sl)->Prop}{k:Kt f}:cE (some (some (.sh d))) k=f (some (some (.sh d))):=rfl
def Lj{b:Bool}{d:D}{f:Option (Option Sl)->Prop}{k:Kt f}:cE (some (some (.ow b d))) k=f (some (some (.ow b d))):=rfl
section
variable {E:kY}{ρ:Env}{Q:Md->D->Prop}{B:Bool->Prop}{t u:WS}{te ta tb tc O4:WE}{tt tu:WT}{tar:WA}{i j n:Nat}{m m':Md}{d:D}{sp:i7}{p:WP}{R:List (Md × D)->Prop}
def J8:bV E ρ=E.nx ρ:=rfl
def MT:cf t u E ρ=t { E with nx:=u E } ρ:=rfl
def Lq:kF te E ρ=te ρ E.rt:=rfl
def K1:zu te E ρ=te ρ λ_ _=>E.nx ρ:=rfl
def put(sl:Option Sl)(k:Sl->Prop):Prop:=match sl with
 |some s=>k s
 |none=>False
def Kc:put (some (.sh d)) k=k (.sh d):=rfl
def Ks:put (some (.ow b d)) k=k (.ow b d):=rfl
def MN:eh i te E ρ=te ρ λm d=>cE (asg m d) (f:=λo=>put o λsl=>E.nx (ρ.set i (some sl))) ⟨⟩:=rfl
def Nb:jv tt t u E ρ=tt ρ λb=>cE b (f:=λb=>if b=true then t E ρ else u E ρ) ⟨⟩:=rfl
def JC:vO E ρ=False:=rfl
def Li:uF i E ρ=cE ρ[i]? (f:=λo=>match o with
 |some (some (.sh d))=>E.rt .sh d
 |some (some (.ow fl d))=>E.rt (.ow fl) d
 |_=>False) ⟨⟩:=rfl
def K5:uZ pl E ρ=jM pl ρ λps=>ps.length<=bX/\E.rt (uJ ps) (.tup (ps.map (·.2))):=rfl
def FZ:jM [] ρ R=R []:=rfl
def Jw:jM (.inl te :: r) ρ R=te ρ λm x=>jM r ρ λps=>R ((m,x) :: ps):=rfl
def mov(o:Option (Md × D))(k:Md × D->Prop):Prop:=match o with
 |some p=>k p
 |none=>False
def Iw{p:Md × D}{k:Md × D->Prop}:mov (some p) k=k p:=rfl
def JH:jM (.inr i :: r) ρ R=cE (RC ρ[i]?) (f:=λo=>mov o λp=>jM r ρ λps=>R (p :: ps)) ⟨⟩:=rfl
def Lx:ku i t E ρ=t E (O0 i ρ):=rfl
-- tests
def bol(d:D)(B:Bool->Prop):Prop:=match d with
 |.bl b=>B b
 |_=>False
def Kv:bol (.bl b) B=B b:=rfl
def wB_:wB te ρ B=te ρ λ_ x=>cE x (f:=λx=>bol x B) ⟨⟩:=rfl
def Mh:Rp te ρ B=te ρ λ_ x=>cE x (f:=λx=>∃ b,Ro x=some b/\B b) ⟨⟩:=rfl
def Mv:Nj tt ρ B=tt ρ λc=>B (!c):=rfl
def Mf:OU tt tu ρ B=tt ρ λc=>cE c (f:=λc=>if c=true then tu ρ B else B false) ⟨⟩:=rfl
def gC':Ni tt tu ρ B=tt ρ λc=>cE c (f:=λc=>if c=true then B true else tu ρ B) ⟨⟩:=rfl
def Lk:p4 ρ B=B true:=rfl
-- expressions
def LC:ag i ρ Q=cE ρ[i]? (f:=λo=>Rn o Q) ⟨⟩:=rfl
def JT:Rn (some (some (.sh d))) Q=Q .sh d:=rfl
def Jr:Rn (some (some (.ow b d))) Q=Q .bo d:=rfl
def wC_:wC d ρ Q=Q .sh d:=rfl
def gE':ay f ta tb ρ Q=ta ρ λm x=>tb ρ λn y=>f m x n y Q:=rfl
def gF':gE f ta ρ Q=ta ρ λm x=>f m x Q:=rfl
def Jt:uh f g ta tb tc ρ Q=ta ρ λm x=>tb ρ λn y=>f m x n y λ_ z=>cE z (f:=λz=>bol z λk=>cE k (f:=λk=>if k=true then tc ρ λl w=>g n y l w Q else Q .sh (.bl false)) ⟨⟩) ⟨⟩:=by rfl
def Kr:zX ta tb ρ Q=ta ρ λ_ x=>cE x (f:=λx=>bol x λc=>cE c (f:=λc=>if c=true then tb ρ Q else Q .sh (.bl false)) ⟨⟩) ⟨⟩:=by unfold zX cE bol;rfl
def J7:aj te tar ρ R=te ρ λm x=>tar ρ λps=>R ((m,x) :: ps):=rfl
def M_:cc ρ R=R []:=rfl
def M7:kR tar ρ Q=tar ρ λps=>ps.length<=bX/\Q (uJ ps) (.tup (ps.map (·.2))):=rfl
def Lr:wd tar ρ Q=tar ρ λps=>ps.length<=bX/\Q (Dr ps) (.list (ps.map (·.2))):=rfl
def KY:aH sp tar ρ Q=tar ρ λps=>sp (ps.map (·.2)) λm d=>cE (m,d) (f:=λp=>Q (Fu p.1 p.2) p.2) ⟨⟩:=rfl
-- operators
section
variable {x y:Str}{a b:Int}{xs ys:List D}{kvs:List (Key × D)}{O5:List (List Key × D)}
def Jb:eL m (.int a) m' (.int b) Q=Q .sh (.int (a+b)):=rfl
def Ji:eL m (.str x) m' (.str y) Q=(x.length+y.length<=bX/\Q .sh (.str (x++y))):=rfl
def JP:eL m (.list xs) m' (.list ys) Q=(xs.length+ys.length<=bX/\((eK xs=true/\eK ys=true/\Q (.ow true) (.list (xs++ys)))\/(m=.sh/\m'=.sh/\Q (.ow false) (.list (xs++ys))))):=rfl
def JQ:Nn m (.int a) m' (.int b) Q=Q .sh (.int (a-b)):=rfl
def JG:nv m (.int a) m' (.int b) Q=(BO a b/\Q .sh (.int (a*b))):=rfl
def Js:wc m (.int a) m' (.int b) Q=((0<b/\b<1073741824)/\Q .sh (.int (a / b))):=rfl
def Jh:uS m (.int a) m' (.int b) Q=(0<b/\Q .sh (.int (a % b))):=rfl
def J_:OV m (.int a) m' (.int b) Q=Q .sh (.bl (decide (a<b))):=rfl
def Kf:U0 m (.int a) m' (.int b) Q=Q .sh (.bl (decide (a<=b))):=rfl
def KJ:Fh m (.int a) m' (.int b) Q=Q .sh (.bl (decide (b<a))):=rfl
def K6:i6 m (.int a) m' (.int b) Q=Q .sh (.bl (decide (a=b))):=rfl
def K8:i6 m (.str x) m' (.str y) Q=Q .sh (.bl (decide (x=y))):=rfl
def K4:i6 m (.bl k) m' (.bl l) Q=Q .sh (.bl (decide (k=l))):=rfl
def Ml:i6 m (.list xs) m' d Q=(d4 12 (.list xs)=true/\d4 12 d=true/\Q .sh (.bl (ip (.list xs) d))):=by cases d<;>rfl
def Mj:i6 m (.tup xs) m' d Q=(d4 12 (.tup xs)=true/\d4 12 d=true/\Q .sh (.bl (ip (.tup xs) d))):=by cases d<;>rfl
def Ly:OW m (.list xs) m' d Q=(d4 12 (.list xs)=true/\d4 12 d=true/\Q .sh (.bl (!ip (.list xs) d))):=by cases d<;>rfl
def Kl:Ak m d m' .non Q=Q .sh (.bl (!d.Fm)):=rfl
def Mz:IJ neg m d m' (.dK kvs) Q = ∃ k,d.key1=some k/\Q .sh (.bl (if neg then !(gS kvs k).isSome else (gS kvs k).isSome)):=rfl
def Lw:IJ neg m (.tup xs) m' (.dT O5) Q = ∃ ks,dU xs=some ks/\Q .sh (.bl (if neg then !(gS O5 ks).isSome else (gS O5 ks).isSome)):=rfl
def Mt:OX m (.int a) Q=Q .sh (.int (-a)):=rfl
def Mr:eT m (.list xs) m' (.int a) Q = ∃ d,gv xs a=some d/\cE d (f:=λd=>Q (uk m d) d) ⟨⟩:=rfl
def Mq:eT m (.tup xs) m' (.int a) Q = ∃ d,gv xs a=some d/\cE d (f:=λd=>Q (uk m d) d) ⟨⟩:=rfl
def Mw:eT m (.str x) m' (.int a) Q = ∃ c,gv x.cps.toList a=some c/\Q .sh (.str ⟨#[c]⟩):=rfl
def Ku:AZ m (.list xs) Q=Q .sh (.int xs.length):=rfl
def La:AZ m (.dK kvs) Q=Q .sh (.int kvs.length):=rfl
def LR{T:String}:U7 T m d Q=Q .sh (.bl (ML d.ty T)):=rfl
def JZ:rn m (.list xs) Q=((eK xs=true/\Q (.ow true) (.list xs))\/(m=.sh/\Q (.ow false) (.list xs))):=rfl
def Jq:rn m (.dT O5) Q=Q (.ow true) (.list (O5.map λkv=>.tup (kv.1.map kX))):=rfl
def gG':U6 te tl th ρ Q=te ρ λm x=>tl ρ λlo=>th ρ λhi=>U5 m x lo hi Q:=rfl
def int'(d:D)(k:Int->Prop):Prop:=match d with
 |.int i=>k i
 |_=>False
def K_:int' (.int a) k=k a:=rfl
def Lg:xu te ρ O=te ρ λ_ x=>cE x (f:=λx=>int' x λi=>O (some i)) ⟨⟩:=by unfold xu cE int';rfl
def MK{lo hi:Option Int}:U5 m (.list xs) lo hi Q=((eK xs=true/\Q (.ow true) (.list (qS xs lo hi)))\/(m=.sh/\Q (.ow false) (.list (qS xs lo hi)))):=rfl
end
-- texts
def Ve(d:D)(k:Str->Prop):Prop:=match d with
 |.str x=>k x
 |_=>False
def KZ:Ve (.str x) k=k x:=rfl
def qV(d:D)(k:List D->Prop):Prop:=match d with
 |.list x=>k x
 |_=>False
def J1:qV (.list x) k=k x:=rfl
def Jg:jF O4 te ρ Q=O4 ρ λ_ x=>cE x (f:=λx=>Ve x λz=>te ρ λ_ y=>cE y (f:=λy=>qV y λys=>∃ zs,iY ys=some zs/\(zs.map (·.length)).sum+zs.length*z.length<=16777216/\Q .sh (.str (Str.join z zs))) ⟨⟩) ⟨⟩:=by unfold jF cE Ve qV;rfl
-- places
def gH'{P:Bool->D->(Bool->D->Env)->Prop}:nS i ρ P=cE ρ[i]? (f:=λo=>match o with
 |some (some (.ow fl d))=>P fl d λfl2 d2=>ρ.set i (some (.ow fl2 d2))
 |_=>False) ⟨⟩:=rfl
def Vf(o:Option Bool)(k:Bool->Prop):Prop:=match o with
 |some b=>k b
 |none=>False
def Il:Vf (some b) k=k b:=rfl
def MP:D4 p te E ρ=p ρ λfl d up=>cE d (f:=λd=>qV d λxs=>te ρ λm x=>xs.length<bX/\cE (lM fl m x) (f:=λo=>Vf o λfl2=>E.nx (up fl2 (.list (xs++[x])))) ⟨⟩) ⟨⟩:=by unfold D4 cE qV Vf;rfl
def J3:jV ρ Q=Q (.ow true) (.dT []):=rfl
def dct(d y:D)(k1:List (Key × D)->Prop)(k2:List (List Key × D)->List D->Prop):Prop:=match d with
 |.dK kvs=>k1 kvs
 |.dT kvs=>match y with
  |.tup ys=>k2 kvs ys
  |_=>False
 |_=>False
def Ms:dct (.dK kvs) y k1 k2=k1 kvs:=rfl
def M8:dct (.dT kvs) (.tup ys) k1 k2=k2 kvs ys:=rfl
def Kg:jP p tk tv E ρ=tv ρ λ_ x=>p ρ λfl d up=>tk ρ λ_ y=>x.flat=true/\cE d (f:=λd=>dct d y (λkvs=>∃ k,y.key1=some k/\kvs.length<bX/\E.nx (up fl (.dK (lP kvs k x)))) (λkvs ys=>∃ ks,dU ys=some ks/\kvs.length<bX/\E.nx (up fl (.dT (lP kvs ks x))))) ⟨⟩:=by rfl
-- loops
variable {LQ:List D->Prop}
def M6:ny wi g b E ρ=wi ρ λds=>pF g b E ds ρ:=rfl
def Ja:dF te ρ LQ=te ρ λm d=>mU m/\cE d (f:=λd=>qV d LQ) ⟨⟩:=by unfold dF cE qV;rfl
def Vg(d:D)(k:List D->Prop):Prop:=match d with
 |.tup x=>k x
 |_=>False
def Ko:Vg (.tup x) k=k x:=rfl
def JB:bF te ρ LQ=te ρ λ_ d=>cE d (f:=λd=>int' d λj=>j<=16777216/\-(2 ^ 62)<=j/\LQ (gR 0 j.toNat)) ⟨⟩:=by unfold bF cE int';rfl
def Ip:mU .sh=True:=rfl
def Ir:mU (.ow b)=True:=rfl
def gN_:gN i d ρ N=N (ρ.set i (some (.sh d))):=rfl
def gT_:gT n gs d ρ N=cE d (f:=λd=>Vg d λds=>ds.length=n/\gs ds ρ N) ⟨⟩:=by unfold gT cE Vg;rfl
def Km:aN g gs (d :: ds) ρ N=g d ρ λcw=>gs ds cw N:=rfl
def MF:fJ [] ρ N=N ρ:=by simp[fJ]
def K9:cG wi g tt te tn ix ρ Q=wi ρ λds=>gA g tt te ds (D_ tn ix ρ) λout=>Q (.ow true) (.list out):=rfl
end
def B{c:Bool}{f:Bool->Prop}{k:Kt f}(h1:c=true->f true)(h2:c=false->f false):cE c k:=by
 cases c with
 |true=>exact h1 rfl
 |false=>exact h2 rfl
def D{p:Prop}[Decidable p]{f:Bool->Prop}{k:Kt f}(h1:p->f true)(h2:¬ p->f false):cE (decide p) k :=
 B (λh=>h1 (of_decide_eq_true h)) λh=>h2 (of_decide_eq_false h)
def T{c:Bool}{f:Bool->Prop}{k:Kt f}(h:c=true)(h1:f true):cE c k:=by subst h;exact h1
def F{c:Bool}{f:Bool->Prop}{k:Kt f}(h:c=false)(h1:f false):cE c k:=by subst h;exact h1
end L2.Q.R
namespace L2
end L2
namespace L2.Q
section
variable {X:Cx}{K:aE}{e e2:Expr}{te D3:WE}{pos p eP apos:Pos}
def RH(tk tv:WE):WE:=λρ Q=>tk ρ λ_ x=>tv ρ λ_ y=>∃ k,x.key1=some k/\y.flat=true/\Q (.ow true) (.dK [(k,y)])
def v_(he:QE X K e te)(UC:QE X K e2 D3):QE X K (.Dict [some e] [e2] pos) (RH te D3):=by
 refine PE.imp (eB' (ez' he UC ey') rfl rfl (by simp) (by simp)) λσ H Qv hx=>kE hx λHs ρ ai Q sr h fin=>λa ha=>?_;have g0:fw Hs H Hs (upd H a (.dK [])):=OO sr.wf ha λ_ z=>nomatch z;refine⟨Hs,ρ,ai,_,sr.grow g0,h,λv H1 bE m x As g1 r1 f1 q1=>⟨bE,ρ,ai,_,(sr.grow g0).grow g1,q1,λu H2 aT n y Bs g2 r2 f2 q2=>?_⟩⟩;obtain⟨k,ek,fy,q2⟩:=q2;have rx:=(r1.grow g2).rep g2.wf;have ex:=rx.key ek;subst ex;have ry:=r2.flat g2.wf fy;have gg:=(g0.trans g1).trans g2;have e2:H2 a=some (.dK []):=g2.all _ _ (g1.all _ _ ic);have nH:Hs a=none:=sr.wf.sub.free ha;have n2:aT a=none:=g2.ng (g1.ng nH (by rw[ic];exact λz=>nomatch z)) (by rw[g1.all _ _ ic];exact λz=>nomatch z);refine⟨e2,[(k,u)],rfl,by simp,?_⟩;have g3:fw Hs H aT (upd H2 a (.dK [(k,u)])):=⟨λb o hb=>by rw[fF (xt hb ha)];exact gg.all b o hb,gg.sh,⟨λb o hb=>by rw[fF (xt hb n2)];exact gg.wf.sub b o hb,λb vs hb=>by
  by_cases z:b=a
  ·subst z;rw[ic] at hb;cases hb
  ·rw[fF z] at hb;exact gg.wf.kC b vs hb⟩,gg.new⟩
 exact fin (.ref a) _ aT (.ow true) (.dK [(k,y)]) [a] g3 ⟨.dK ⟨by rw[j3];simp,λp hp=>by
  have:p=(k,y):=by simpa using hp
  subst this;exact rJ rx ek⟩ ic (.cons (.sh (λ_=>fy) ry) .nil),by simp⟩ ⟨by simp,λb hb=>by
  obtain rfl:b=a:=by simpa using hb
  exact⟨n2,ha⟩⟩ q2
def wN:W1:=λ_ x Q=>match x with
 |.list xs=>∃ ks b,xs=ks.map kX/\(∀ k∈ks,om k=b)/\∀ ms:List Key,ms.Perm ks->(ms.Pairwise λa b=>mw b a=false)->Q (.ow true) (.list (ms.map kX))
 |.dK kvs=>∃ b,(∀ p∈kvs,om p.1=b)/\∀ ms:List Key,ms.Perm (kvs.map (·.1))->(ms.Pairwise λa b=>mw b a=false)->Q (.ow true) (.list (ms.map kX))
 |_=>False
def zp:zi K (sH K) wN:=by
 intro Hs H m x v As Qd Qv w rx h f;have r1:=rx.rep w
 cases r1 with
 |list z s q =>obtain⟨ks,b,rfl,hb,h⟩:=h;obtain⟨e,ok⟩:=oO q;subst e;exact⟨ks,b,.inl s,hb,λms l pm pw hl=>f.lst w (by rw[b6,pm.length_eq];simpa using z) (gG λk hk=>ok k (pm.mem_iff.mp hk)) (eF ms) (h ms pm pw) l hl⟩
 |@dK a vs kvs kk e q =>
  obtain⟨b,hb,h⟩:=h;have hlen:=q.length;rw[b6] at hlen;have ez:(((kvs.map (·.1)).zip vs).map (·.1))=kvs.map (·.1):=by rw[LN (by rw[b6];lia)]
  refine⟨kvs.map (·.1),b,.inr ⟨_,e,ez.symm⟩,λk hk=>?_,λms l pm pw hl=>?_⟩
  ·obtain⟨p,hp,rfl⟩:=b5.mp hk;exact hb p hp
  ·refine f.lst w (by rw[b6,pm.length_eq,b6];exact kk.1) (gG λk hk=>?_) (eF ms) (h ms pm pw) l hl;obtain⟨p,hp,rfl⟩:=b5.mp (pm.mem_iff.mp hk);exact kk.2 p hp
 |_=>exact h.elim
def GX (hc:autoParam (X.calm=true) bv) (hK:autoParam (X.K=K) bv):i3 X (.builtin "sorted") (sH K):=by subst hK;exact uK hc
section
variable {Hs H:Hp}{fl:Bool}
def aG.erase(k:Nat)(r:aG K Hs H fl ds vs As):∃ Bs,Bs.Sublist As/\aG K Hs H fl (ds.eraseIdx k) (vs.eraseIdx k) Bs:=by
 induction ds generalizing vs As k with
 |nil =>obtain⟨rfl,rfl⟩:=r.n0;exact⟨[],List.Sublist.refl _,.nil⟩
 |cons d ds ih =>
  obtain⟨u,us,A,B,rfl,rfl,r,rs⟩:=r.c
  cases k with
  |zero=>exact⟨B,mG _ _,rs⟩
  |succ k =>obtain⟨C,sb,q⟩:=ih k rs;exact⟨A++C,sb.append_left _,.cons r q⟩
def aG.av'{ds:List D}{vs:List V}{As:List ah}{k:Nat}{d:D}(r:aG K Hs H fl ds vs As)(e:ds[k]? = some d)(hf:d.flat=true)(w:Wf Hs H):∃ v,vs[k]? = some v/\Rep K Hs d v:=by
 induction ds generalizing vs As k with
 |nil=>simp at e
 |cons x ds ih =>
  obtain⟨u,us,A,B,rfl,rfl,r,rs⟩:=r.c
  cases k with
  |zero =>simp at e;subst e;exact⟨_,rfl,(r.rep w.sub λ_ _=>rfl).fL w.kC hf⟩
  |succ k=>exact ih (k:=k) rs (by simpa using e)
end
def RJ(i:Nat)(p:WP):WS:=λE ρ=>p ρ λfl d up=>match d with
 |.list xs=>∃ y,xs[xs.length-1]? = some y/\y.flat=true/\E.nx ((up fl (.list xs.dropLast)).set i (some (.sh y)))
 |_=>False
def pL{α:Type}(xs:List α):xs.eraseIdx (xs.length-1)=xs.dropLast:=by rw[List.dropLast_eq_take,Sz];rw[List.drop_eq_nil_of_le (by lia),vv]
def Hk{wp:WP}(i:Nat){x:Str}{pos':Pos}(ho:QP X K e wp)(hK:autoParam (X.K=K) bv) (tT:autoParam (zI e "pop" X.env (dn e X.env)=dn e X.env) bv) (hline:autoParam ((apos.endLine == eP.line)=true) bv) (hs:autoParam (xh (.Call (.Attribute e "pop" apos) [] [] eP) (some (.Name x pos')) pos.line X.env=pure false) bv) (hf:X.fn x=true\/X.env.scope.names.lookup x=some .local:=by first|exact .inl rfl|exact .inr rfl|assumption) (hN:X.N.Nodup:=by assumption) (hi:autoParam (X.N[i]? = some x) bv) (hx:Loc X.env.scope x:=by first|exact .inl rfl|exact .inr rfl) :
  QS X K L (.Assign [.Name x pos'] (.Call (.Attribute e "pop" apos) [] [] eP) pos) (RJ i wp):=by
 refine PS.imp (TC hN hi hx (ea' PySem.F.plainAttrs_list PySem.F.slot_list_pop PySem.F.type_list_pop ee' ho tT hline) hs hf) λD σ H hx=>cU hx λHs ρ ai E sr h k1 k2 k3 k4=>?_;refine⟨Hs,ρ,ai,_,sr,h,λv H1 bE fl d up g1 p1 q1=>?_⟩
 cases d with
 |list xs =>
  obtain⟨y,ey,fy,q1⟩:=q1;obtain⟨a,vs,A,ea,e2,_,rs,nd,hn,k⟩:=p1.put (fw.refl g1.wf);subst ea;obtain⟨nA,IY⟩:=kN.mp nd;obtain⟨u,eu,ru⟩:=rs.av' ey fy g1.wf;obtain⟨B,sb,rb⟩:=rs.erase (xs.length-1);have hl:=rs.length;rw[pL] at rb;rw[hl,pL] at rb;rw[hl] at eu;refine⟨.inl ⟨rfl,_,.inl (.inl e2)⟩,a,vs,u,rfl,rfl,e2,eu,?_⟩;have hz:vs.dropLast.length<=bX:=by
   rcases p1.ex with⟨hU,r,ne,_⟩
   cases r with
   |sh _ _=>exact absurd rfl ne
   |list hz e3 _=>rw[e2] at e3;cases e3;rw[List.length_dropLast];lia
  obtain⟨fi,iq⟩:=k fl _ _ B id rb hz (sb.nodup IY) (λz=>nA (sb.subset z)) (λx hx=>.inl (sb.subset hx));obtain⟨U_,_,Va⟩:=iq.yO i ru;exact k1 _ _ bE _ U_ g1.sh Va q1
 |_=>exact q1.elim
end
abbrev WIL:=Env->(List D->Prop)->Prop
section
variable {X:Cx}{K:aE}
def cL(i:Nat)(hi:Rt X K tg iter wi)(hg:∀ {C fp hV iL} {q:(tn++cn).Nodup},QG (aY X scope C (tn++cn) fp hV iL) K tg g) (qB:∀ {C fp hV iL},Rx (aY X scope C (tn++cn) fp hV iL) K ifs tc) (he:∀ {C fp hV iL},QE (aY X scope C (tn++cn) fp hV iL) K elt te)(Us:autoParam (xh (.ListComp elt [⟨tg,iter,ifs,0⟩] scope pos) (some (.Name x pos')) Ut.line X.env=pure true) bv) (hs:∀ x,FR iter X.env x=pure x:=by intro _;rfl) (hf:X.fn x=true\/X.env.scope.names.lookup x=some .local:=by first|exact .inl rfl|exact .inr rfl|assumption) (hN:X.N.Nodup:=by assumption) (xB:autoParam (X.N[i]? = some x) bv) (hx:Loc X.env.scope x:=by first|exact .inl rfl|exact .inr rfl) (nd:(tn++cn).Nodup:=by decide +kernel) (O:eE X scope tn cn ix:=by exact eE.by (by assumption) (by decide +kernel)) (hc:autoParam (X.calm=true) bv) :
  QS X K L (.Assign [.Name x pos'] (.ListComp elt [⟨tg,iter,ifs,0⟩] scope pos) Ut) (eh i (cG wi g tc te tn.length ix)) :=
 PS.imp (uw hN xB hx hc hi O (λ_ _ _ _=>hg (q:=nd)) (λ_ _ _ _=>qB) (λ_ _ _ _=>he) Us hs hf) λD σ H hx=>cU hx λHs ρ ai E sr h k1 k2 k3 k4=>by
  refine qK ⟨Hs,ρ,ai,_,sr,h,λv H1 bE m d As g1 r1 f1 q1=>?_⟩
  cases e:asg m d with
  |none=>rw[e] at q1;exact q1.elim
  |some sl =>rw[e] at q1;obtain⟨c9,s'⟩:=(sr.grow g1).set i r1 f1.1 (λa ha=>⟨(f1.2 a ha).1,λm=>(sr.sr.own a m).ne (f1.2 a ha).2⟩) e;exact k1 _ H1 bE _ c9 g1.sh s' q1
end
end L2.Q
namespace L2.Q.R
section
variable {E:kY}{ρ:Env}{Q:Md->L2.Q.D->Prop}{te tk:WE}{i:Nat}{d:L2.Q.D}{p:WP}{LQ:List L2.Q.D->Prop}
def gK':RH tk te ρ Q=tk ρ λ_ x=>te ρ λ_ y=>∃ k,x.key1=some k/\y.flat=true/\Q (.ow true) (.dK [(k,y)]):=rfl
def Mp:RJ i p E ρ=p ρ λfl d up=>cE d (f:=λd=>qV d λxs=>∃ y,xs[xs.length-1]? = some y/\y.flat=true/\cE y (f:=λy=>E.nx ((up fl (.list xs.dropLast)).set i (some (.sh y)))) ⟨⟩) ⟨⟩:=by unfold RJ cE qV;rfl
def J5:tM te ρ LQ=te ρ λm d=>mU m/\cE d (f:=λd=>qV d λxs=>LQ (nP xs)) ⟨⟩:=by unfold tM cE qV;rfl
def Ju:cY te ρ LQ=te ρ λ_ d=>cE d (f:=λd=>qV d LQ) ⟨⟩:=by unfold cY cE qV;rfl
def wpAt(d:L2.Q.D)(i:Int)(P:Bool->L2.Q.D->(Bool->L2.Q.D->Env)->Prop)(up:Bool->L2.Q.D->Env):Prop:=match d with
 |.list ds=>∃ j d',oi ds.length i=some j/\ds[j]? = some d'/\d'.flat=false/\cE d' (f:=λd'=>P true d' λfl2 d2=>up fl2 (.list (ds.set j d2))) ⟨⟩
 |.tup ds=>∃ j d',oi ds.length i=some j/\ds[j]? = some d'/\d'.flat=false/\cE d' (f:=λd'=>P true d' λfl2 d2=>up fl2 (.tup (ds.set j d2))) ⟨⟩
 |_=>False
section
variable {P:Bool->L2.Q.D->(Bool->L2.Q.D->Env)->Prop}{up:Bool->L2.Q.D->Env}{ds:List L2.Q.D}{j:Int}
def KR:wpAt (.list ds) j P up = ∃ k d',oi ds.length j=some k/\ds[k]? = some d'/\d'.flat=false/\cE d' (f:=λd'=>P true d' λfl2 d2=>up fl2 (.list (ds.set k d2))) ⟨⟩:=rfl
def LK:Rz p te ρ P=p ρ λfl d up=>te ρ λ_ y=>fl=true/\cE y (f:=λy=>int' y λi=>cE d (f:=λd=>wpAt d i P up) ⟨⟩) ⟨⟩:=by rfl
end
end
end L2.Q.R
namespace L2
open Builtin Builtin.Str Builtin.Int
end L2
namespace L2
end L2
namespace L2.Q
section
variable {X:Cx}{K:aE}{e a b:Expr}{ta tb:WE}{p pos:Pos}{x:Str}{id:String}
def Hv{H:Hp}{bs:List Bool}{vs:List V}(r:bT K H (bs.map D.bl) vs):vs=bs.map V.bl:=by
 induction bs generalizing vs with
 |nil=>exact r.n0
 |cons b bs ih =>obtain⟨u,us,rfl,r1,rs⟩:=bT.c r;cases r1;rw[ih rs];rfl
def Cv:kK "min" = some (.builtin "min"):=by decide +kernel
def Fi:R2:=λx y H Q=>match x,y with
 |.int i,.int j=>Q (.int (if j<i then j else i)) H
 |_,_=>False
def yR:W2:=λ_ x _ y Q=>match x,y with
 |.int i,.int j=>Q .sh (.int (if j<i then j else i))
 |_,_=>False
def vz:kU K Fi yR:=by
 intro Hs H m x v As n y u Bs Qd Qv w rx ry h f;have r1:=rx.rep w;have r2:=ry.rep w
 cases r1 with
 |int i=>cases r2 with
  |int j=>exact f.sh w (.int _) h
  |_=>exact h.elim
 |_=>cases r2<;>exact h.elim
def yw(hc:i3 X (.builtin id) λxs H Q=>∃ x y,xs=[x,y]/\r x y H Q)(br:kU K r f)(hm:X.mg x=none)(hv:kK x=some (.builtin id))(ha:QE X K a ta)(hb:QE X K b tb)(hs:autoParam (b4 [a,b] X.env=(false,dn a X.env) :: b4 [b] X.env) bv) (ll:autoParam (b4 [b] X.env=(false,dn b X.env) :: b4 [] X.env) bv) (hn:x ≠ "__name__" := by decide) (tJ:(x == ("__debug__" : Str))=false:=by decide) (oy:autoParam ((kA pos (b4 [b] X.env)).any (·.1)=false) bv) (hg:autoParam (Gl X x) bv):QE X K (.Call (.Name x p) [a,b] [] pos) (ay f ta tb):=by
 refine PE.imp (T3 hc hg hm hv (qA ha (qA hb vE ll) hs) hn tJ hs oy) λσ H Qv h=>?_;obtain⟨Hs,ρ,ai,Q,sr,h,fin⟩:=jC br σ H Qv h;exact⟨Hs,ρ,ai,Q,sr,h,λv H1 bE m x As g1 r1 f1 q1=>by
  obtain⟨aT,g9,fi,Q2,iq,h2,fin2⟩:=fin v H1 bE m x As g1 r1 f1 q1;exact⟨aT,g9,fi,Q2,iq,h2,λu H2 fR n y Bs g2 r2 f2 q2=>⟨v,u,rfl,fin2 u H2 fR n y Bs g2 r2 f2 q2⟩⟩⟩
def Br (hc:autoParam (X.calm=true) bv):i3 X (.builtin "min") λxs H Q=>∃ x y,xs=[x,y]/\Fi x y H Q:=λpins s σ H xs us Q I r eI=>by
 obtain⟨x,y,e,q⟩:=eI;subst e;unfold Fi at q;split at q
 ·exact dc' hc pins s σ H _ us Q I r ⟨_,_,rfl,q⟩
 ·exact q.elim
end
end L2.Q
namespace L2.Q.R
section
variable {Q:Md->L2.Q.D->Prop}{m m':Md}{a b:Int}
def Kd:yR m (.int a) m' (.int b) Q=Q .sh (.int (if b<a then b else a)):=rfl
end
end L2.Q.R
namespace L2.Q
theorem cj(O:Nat->List D->Prop)(Iv:Env->Prop):∀ (xs:List D) (i:Nat) (pre:List D) (ρ:Env) (k:List D->Prop),Iv ρ->O i pre -> (∀ j x,xs[j]? = some x->∀ ρ,Iv ρ->∀ out,O (i+j) out->∀ N1:Env->Prop,∀ N2:Env->D->Prop,(∀ cw d,Iv cw->O (i+j+1) (out++[d])->N2 cw d)->g x ρ λpT=>tc pT λb=>if b=true then te pT λm d=>Rv m d/\N2 pT d else N1 pT) -> (∀ out,O (i+xs.length) (pre++out)->k out)->gA g tc te xs ρ k
 |[],i,pre,_,k,_,h0,_,h=>h [] (by simpa using h0)
 |x :: xs,i,pre,ρ,k,iv,h0,hs,h=>by
  refine hs 0 x rfl ρ iv pre h0 _ _ (λcw d O1 o'=>?_);refine cj O Iv xs (i+1) (pre++[d]) cw _ O1 o' (λj y hy ρ iv out ho=>?_) λout ho=>?_
  ·have:=hs (j+1) y (by simpa using hy) ρ iv out (by rwa[show i+(j+1)=i+1+j by lia]);rwa[show i+(j+1)+1=i+1+j+1 by lia] at this
  ·refine h (d :: out) ?_;rw[Ap] at ho;rwa[oS,show i+(xs.length+1)=i+1+xs.length by lia]
end L2.Q
end
namespace TS
open PySem PySem.SetTable
def fk:Nat->Nat->Nat
 |0,s=>s
 |k+1,s=>5*fk k s+1
def GR(a b s:Nat):fk (a+b) s=fk b (fk a s):=by
 induction b with
 |zero=>rfl
 |succ b ih=>show 5*fk (a+b) s+1=5*fk b (fk a s)+1;rw[ih]
def xf(n s:Nat):4*fk n s+1=5 ^ n*(4*s+1):=by
 induction n with
 |zero=>simp[fk]
 |succ n ih =>
  show 4*(5*fk n s+1)+1=5 ^ (n+1)*(4*s+1)
  rw[BF,Qa (5 ^ n) 5,LV,<- ih];lia
def yV(m:Nat):∃ q,5 ^ 2 ^ m=1+2 ^ (m+2)*q/\q % 2=1:=by
 induction m with
 |zero=>exact⟨1,by decide,by decide⟩
 |succ m ih =>
  obtain⟨q,e,o⟩:=ih;refine⟨q+2 ^ (m+1)*(q*q),?_,?_⟩
  ·have hp:5 ^ 2 ^ (m+1)=(5 ^ 2 ^ m) ^ 2:=by rw[BF 2 m,Nat.pow_mul]
   rw[hp,e];have e1:2 ^ (m+1+2)=2*2 ^ (m+2):=by rw[show m+1+2=(m+2)+1 by lia,BF];lia
   have e2:2 ^ (m+2)=2*2 ^ (m+1):=by rw[show m+2=(m+1)+1 by lia,BF];lia
   rw[e1,e2];generalize 2 ^ (m+1)=y;rw[Nat.pow_two];simp only[Nat.mul_add,Nat.add_mul,Nat.one_mul,Nat.mul_one];have a1:2*y*q*(2*y*q)=2*(2*y)*(y*(q*q)):=by simp only[LV,Nat.mul_left_comm,Qa]
   have a2:2*(2*y)*q=2*y*q+2*y*q:=by rw[LV 2 (2*y) q];lia
   rw[a1,a2];lia
  ·have:2 ^ (m+1)*(q*q) % 2=0:=by rw[BF,Qa (2 ^ m) 2,LV,Nat.mul_mod_right]
   lia
def Es(m x:Nat):∃ r,fk (2 ^ m) x=x+2 ^ m*r/\r % 2=1:=by
 obtain⟨q,e,o⟩:=yV m;have c:=xf (2 ^ m) x;rw[e] at c;refine⟨q*(4*x+1),?_,?_⟩
 ·have e2:2 ^ (m+2)=4*2 ^ m:=by rw[Nat.pow_add];lia
  rw[e2,Nat.add_mul,Nat.one_mul,LV,LV] at c;lia
 ·rw[Nat.mul_mod,o,Nat.one_mul];lia
def Ie(m s e:Nat):∃ k,k+1<=2 ^ m/\fk k s % 2 ^ m=e % 2 ^ m:=by
 induction m with
 |zero=>exact⟨0,by decide,by simp[Nat.mod_one]⟩
 |succ m ih =>
  obtain⟨k,hk,h⟩:=ih;have hp:2 ^ (m+1)=2 ^ m*2:=BF ..;have gL':0<2 ^ m:=Nat.pow_pos (by decide);have key:∀ a:Nat,a % (2 ^ m*2)=a % 2 ^ m+2 ^ m*(a / 2 ^ m % 2):=λa=>Nat.mod_mul;by_cases c:fk k s / 2 ^ m % 2=e / 2 ^ m % 2
  ·exact⟨k,by lia,by rw[hp,key,key,h,c]⟩
  ·refine⟨k+2 ^ m,by lia,?_⟩;obtain⟨r,er,ro⟩:=Es m (fk k s);rw[GR,er,hp,key,key,Nat.add_mul_mod_self_left,h,Nat.add_mul_div_left _ _ gL'];have:(fk k s / 2 ^ m+r) % 2=e / 2 ^ m % 2:=by lia
   rw[this]
def sN(M:Nat)(p:Probe):Probe :=
 if p.more>0 then { p with j:=p.j+1,more:=p.more-1 } else
 { p with j:=(leap M p.i p.perturb).1,more:=runEnd M (leap M p.i p.perturb).1-(leap M p.i p.perturb).1,i:=(leap M p.i p.perturb).1,perturb:=(leap M p.i p.perturb).2 }
def ps(M:Nat)(h:Int):Nat->Probe
 |0=>{ j:=bits h % (M+1),more:=runEnd M (bits h % (M+1))-bits h % (M+1),i:=bits h % (M+1),perturb:=bits h,dummy:=none }
 |n+1=>sN M (ps M h n)
def J(M:Nat)(h:Int)(n:Nat):Nat:=(ps M h n).j
def tL(h:i<=M):i<=runEnd M i/\runEnd M i<=M/\runEnd M i<=i+9:=by unfold runEnd;split<;>lia
theorem Ef(M:Nat)(h:Int):∀ n,(ps M h n).i<=M/\(ps M h n).j+(ps M h n).more<=M/\(ps M h n).dummy=none/\(ps M h n).more<=9
 |0=>by have h0:bits h % (M+1)<=M:=P7 (L4 _ (Qb _));have:=tL h0;exact⟨h0,by show bits h % (M+1)+(runEnd M (bits h % (M+1))-bits h % (M+1))<=M;lia,rfl,by show runEnd M (bits h % (M+1))-bits h % (M+1)<=9;lia⟩
 |n+1=>by
  obtain⟨a,b,c,d⟩:=Ef M h n;show(sN M (ps M h n)).i<=M/\_/\(sN M (ps M h n)).dummy=none/\_;unfold sN;by_cases hm:(ps M h n).more>0
  ·simp only[hm,if_true];show _/\(sN M (ps M h n)).j+(sN M (ps M h n)).more<=M/\_/\(sN M (ps M h n)).more<=9;simp only[sN,hm,if_true];exact⟨a,by lia,c,by lia⟩
  ·simp only[hm,if_false];show _/\(sN M (ps M h n)).j+(sN M (ps M h n)).more<=M/\_/\(sN M (ps M h n)).more<=9;simp only[sN,hm,if_false];have h0:(leap M (ps M h n).i (ps M h n).perturb).1<=M:=P7 (L4 _ (Qb _));have:=tL h0;exact⟨h0,by lia,c,by lia⟩
def RK(M:Nat)(h:Int)(n:Nat):J M h n<=M:=by have:=Ef M h n;unfold J;lia
theorem wZ(M:Nat)(h:Int)(n:Nat):∀ r,r<=(ps M h n).more->ps M h (n+r)={ ps M h n with j:=(ps M h n).j+r,more:=(ps M h n).more-r }
 |0,_=>rfl
 |r+1,hr=>by show sN M (ps M h (n+r))=_;rw[wZ M h n r (by exact xl ‹_›)];unfold sN;rw[if_pos (show(ps M h n).more-r>0 by lia)];simp only[Probe.mk.injEq,true_and,and_true];lia
def lp(M:Nat)(h:Int):Nat->Nat × Nat
 |0=>(bits h % (M+1),bits h)
 |k+1=>leap M (lp M h k).1 (lp M h k).2
def kG(M:Nat)(h:Int):Nat->Nat
 |0=>0
 |k+1=>kG M h k+(runEnd M (lp M h k).1-(lp M h k).1)+1
theorem Dy(M:Nat)(h:Int):∀ k,(lp M h k).1<=M
 |0=>P7 (L4 _ (Qb _))
 |k+1=>P7 (L4 _ (Qb _))
theorem xJ(M:Nat)(h:Int):∀ k,kG M h k<=10*k
 |0=>cx _
 |k+1=>by have:=xJ M h k;have:=tL (Dy M h k);show kG M h k+_+1<=_;lia
theorem uf(M:Nat)(h:Int):∀ k,ps M h (kG M h k)={ j:=(lp M h k).1,more:=runEnd M (lp M h k).1-(lp M h k).1,i:=(lp M h k).1,perturb:=(lp M h k).2,dummy:=none }
 |0=>rfl
 |k+1=>by have ih:=uf M h k;have e:=wZ M h (kG M h k) (runEnd M (lp M h k).1-(lp M h k).1) (by rw[ih];exact cx _);show sN M (ps M h (kG M h k+(runEnd M (lp M h k).1-(lp M h k).1)))=_;rw[e,ih];unfold sN;rw[if_neg (by simp)];rfl
theorem Cz(M:Nat)(h:Int):∀ k,(lp M h k).2=bits h / 32 ^ k
 |0=>by simp[lp]
 |k+1=>by show(lp M h k).2 / 32=_;rw[Cz M h k,Nat.div_div_eq_div_mul,BF]
def DW(h:Int):bits h<2 ^ 64:=by unfold bits;lia
theorem xG(M:Nat)(h:Int):∀ k,(lp M h (13+k)).1 % (M+1)=fk k (lp M h 13).1 % (M+1)
 |0=>rfl
 |k+1=>by
  have e:(lp M h (13+k)).2=0:=by rw[Cz];exact Nat.div_eq_of_lt (oa (DW h) (iP (by decide:2 ^ 64<=32 ^ 13) (Nat.pow_le_pow_right (by decide) (by lia))))
  show(leap M (lp M h (13+k)).1 (lp M h (13+k)).2).1 % (M+1)=_;rw[e];show((lp M h (13+k)).1*5+1+0 / 32) % (M+1) % (M+1)=(5*fk k (lp M h 13).1+1) % (M+1);rw[Nat.mod_mod,Nat.zero_div,LZ,Nat.add_mod,Nat.mul_mod,xG M h k,<- Nat.mul_mod,<- Nat.add_mod,Qa]
def cover(hM:M+1=2 ^ m)(h:Int)(he:e<=M):∃ k,k<=M+13/\(lp M h k).1=e:=by obtain⟨k,hk,q⟩:=Ie m (lp M h 13).1 e;rw[<- hM] at hk q;refine⟨13+k,by lia,?_⟩;have:=xG M h k;rw[q] at this;rwa[Nat.mod_eq_of_lt (P8 (Dy M h _)),Nat.mod_eq_of_lt (P8 he)] at this
def Ij(M:Nat)(h:Int)(k:Nat):J M h (kG M h k)=(lp M h k).1:=by unfold J;rw[uf]
def lC(hM:M+1=2 ^ m)(h:Int)(jI:Nat->Bool)(he:e<=M)(hf:jI e=false):∃ n,n<=10*(M+13)/\jI (J M h n)=false/\∀ k<n,jI (J M h k)=true:=by
 obtain⟨k,hk,q⟩:=cover hM h he;have hb:=xJ M h k;have hB:jI (J M h (kG M h k))=false:=by rw[Ij,q];exact hf
 generalize kG M h k=b at hb hB;have go:∀ b,jI (J M h b)=false->∃ n,n<=b/\jI (J M h n)=false/\∀ k<n,jI (J M h k)=true:=by
  intro b
  induction b using Nat.strongRecOn with
  |ind b ih =>
   intro hB;by_cases c:∃ k,k<b/\jI (J M h k)=false
   ·obtain⟨k,h1,h2⟩:=c;obtain⟨n,a1,a2,a3⟩:=ih k h1 h2;exact⟨n,by lia,a2,a3⟩
   ·refine⟨b,cx _,hB,λk hk=>?_⟩
    cases z:jI (J M h k) with
    |true=>rfl
    |false=>exact absurd ⟨k,hk,z⟩ c
 obtain⟨n,a1,a2,a3⟩:=go b hB;exact⟨n,by lia,a2,a3⟩
def Up(xs:Array Nat):Prop:=∀ i j:Nat,i<j->j<xs.size->xs.getD i 0<xs.getD j 0
def sE{xs:Array Nat}{i d d':Nat}(h:i<xs.size):xs.getD i d=xs.getD i d':=by simp[Array.getD,h]
def mX{xs:Array Nat}(U:Up xs)(j:Nat):∀ (fuel lo hi:Nat),hi-lo<=fuel->lo<=hi->hi<=xs.size->(∀ i<lo,xs.getD i 0<j)->(∀ i,hi<=i->i<xs.size->j<=xs.getD i 0) ->
  below.go xs j fuel lo hi<=xs.size/\(∀ i<below.go xs j fuel lo hi,xs.getD i 0<j)/\(∀ i,below.go xs j fuel lo hi<=i->i<xs.size->j<=xs.getD i 0)
 |0,lo,hi,hf,h1,h2,h3,h4=>by
  obtain rfl:lo=hi:=by lia
  exact⟨h2,h3,h4⟩
 |fuel+1,lo,hi,hf,h1,h2,h3,h4=>by
  unfold below.go;by_cases c:lo<hi
  ·rw[if_pos c];have hm:(lo+hi) / 2<xs.size:=by lia
   by_cases d:xs.getD ((lo+hi) / 2) j<j
   ·rw[if_pos d];rw[sE hm] at d;refine mX U j fuel _ _ (by lia) (by lia) h2 (λi ki=>?_) h4;by_cases e:i=(lo+hi) / 2
    ·rw[e];exact d
    ·exact Ta (U i _ (by lia) hm) d
   ·rw[if_neg d];rw[sE (d':=0) hm] at d;refine mX U j fuel _ _ (by lia) (by lia) (by lia) h3 λi ki hs=>?_;by_cases e:i=(lo+hi) / 2
    ·rw[e];lia
    ·have:=U ((lo+hi) / 2) i (by lia) hs;lia
  ·rw[if_neg c];obtain rfl:lo=hi:=by lia
   exact⟨h2,h3,h4⟩
def aU(U:Up xs)(j:Nat):below xs j<=xs.size/\(∀ i<below xs j,xs.getD i 0<j)/\(∀ i,below xs j<=i->i<xs.size->j<=xs.getD i 0) :=
 mX U j xs.size 0 xs.size (by lia) (by lia) (cx _) (λi h=>absurd h (GO i)) λi h1 h2=>by lia
def below_at(U:Up xs)(h:i<xs.size):below xs (xs.getD i 0)=i:=by
 obtain⟨a,b,c⟩:=aU U (xs.getD i 0);by_cases h1:below xs (xs.getD i 0)<i
 ·have:=c _ (cx _) (by lia);have:=U _ i h1 h;lia
 ·by_cases h2:i<below xs (xs.getD i 0)
  ·have:=b i h2;lia
  ·lia
def uL(U:Up xs)(h:i<xs.size):below xs (xs.getD i 0+1)=i+1:=by
 obtain⟨a,b,c⟩:=aU U (xs.getD i 0+1);by_cases h1:below xs (xs.getD i 0+1)<i+1
 ·have:=c i (by lia) h;lia
 ·by_cases h2:i+1<below xs (xs.getD i 0+1)
  ·have:=b (i+1) h2;have:=U i (i+1) (by lia) (by lia);lia
  ·lia
def taken(xs:Array Nat)(j:Nat):Bool:=xs[below xs j]? == some j
def yq{xs:Array Nat}{i j:Nat}(h:xs[i]? = some j):i<xs.size/\xs.getD i 0=j:=by obtain⟨h1,h2⟩:=L5.mp h;exact⟨h1,by simp[Array.getD,h1,h2]⟩
def xZ{xs:Array Nat}{i:Nat}(h:i<xs.size):xs[i]? = some (xs.getD i 0):=by simp[Array.getD,h]
def eN{xs:Array Nat}(U:Up xs){j:Nat}:taken xs j=true↔∃ i,i<xs.size/\xs.getD i 0=j:=by
 unfold taken;rw[beq_iff_eq];constructor
 ·intro h;exact⟨_,yq h⟩
 ·rintro⟨i,h,rfl⟩;rw[below_at U h];exact xZ h
def oJ{xs:Array Nat}(U:Up xs){j:Nat}(h:taken xs j=true):below xs j<xs.size/\xs.getD (below xs j) 0=j:=by unfold taken at h;rw[beq_iff_eq] at h;exact yq h
def bB{α:Type}(xs:Array α){p:Nat}(x:α)(h:p<=xs.size):(insertAt xs p x).size=xs.size+1:=by unfold insertAt;simp;lia
def QB{α:Type}(xs:Array α){p:Nat}(x:α)(h:p<=xs.size)(i:Nat):(insertAt xs p x)[i]? = if i<p then xs[i]? else if i=p then some x else xs[i-1]? := by
 unfold insertAt;have hs:((xs.extract 0 p).push x).size=p+1:=by simp;exact Nat.min_eq_left ‹_›
 by_cases h1:i<p
 ·rw[if_pos h1,Array.getElem?_append_left (by lia),Array.getElem?_push,if_neg (by simp;lia),Qf];rw[if_pos (by lia)];simp
 ·rw[if_neg h1];by_cases h2:i=p
  ·rw[if_pos h2,Array.getElem?_append_left (by lia),Array.getElem?_push,if_pos (by simp;lia)]
  ·rw[if_neg h2,Array.getElem?_append_right (by lia),hs,Qf];by_cases h3:i-(p+1)<min xs.size xs.size-p
   ·rw[if_pos h3];congr 1;lia
   ·rw[if_neg h3,EI (by lia)]
def cX(h:p<=xs.size)(i:Nat):(insertAt xs p x).getD i 0=if i<p then xs.getD i 0 else if i=p then x else xs.getD (i-1) 0:=by
 have e:∀ (ys:Array Nat) k,ys.getD k 0=ys[k]?.getD 0:=λys k=>by simp[GU]
 rw[e,QB xs x h];split
 ·rw[e]
 ·split
  ·rfl
  ·rw[e]
def Cy(U:Up xs)(hj:taken xs j=false):Up (insertAt xs (below xs j) j):=by
 obtain⟨a,b,c⟩:=aU U j;have ne:∀ i,i<xs.size->xs.getD i 0≠j:=λi hi e=>by have:=(eN U).mpr ⟨i,hi,e⟩;rw[hj] at this;cases this
 intro i k hik hk;rw[bB xs j a] at hk;rw[cX a,cX a];by_cases h1:k<below xs j
 ·rw[if_pos (by lia),if_pos h1];exact U i k hik (by lia)
 ·rw[if_neg h1];by_cases h2:k=below xs j
  ·rw[if_pos h2,if_pos (by lia)];exact b i (by lia)
  ·rw[if_neg h2];by_cases h3:i<below xs j
   ·rw[if_pos h3];exact U i (k-1) (by lia) (by lia)
   ·rw[if_neg h3];by_cases h4:i=below xs j
    ·rw[if_pos h4];have:=c (k-1) (by lia) (by lia);have:=ne (k-1) (by lia);lia
    ·rw[if_neg h4];exact U (i-1) (k-1) (by lia) (by lia)
def wz(U:Up xs)(hj:taken xs j=false):taken (insertAt xs (below xs j) j) k=(decide (k=j) || taken xs k):=by
 have a:=(aU U j).1;have U':=Cy U hj;apply pj.mpr;rw[eN U',Bool.or_eq_true,decide_eq_true_eq,eN U];rw[bB xs j a];constructor
 ·rintro⟨i,hi,e⟩;rw[cX a] at e;by_cases h1:i<below xs j
  ·rw[if_pos h1] at e;exact .inr ⟨i,by lia,e⟩
  ·rw[if_neg h1] at e;by_cases h2:i=below xs j
   ·rw[if_pos h2] at e;exact .inl e.symm
   ·rw[if_neg h2] at e;exact .inr ⟨i-1,by lia,e⟩
 ·rintro(rfl|⟨i,hi,e⟩)
  ·exact⟨below xs k,by lia,by rw[cX a,if_neg (by lia),if_pos rfl]⟩
  ·by_cases h1:i<below xs j
   ·exact⟨i,by lia,by rw[cX a,if_pos h1];exact e⟩
   ·exact⟨i+1,by lia,by rw[cX a,if_neg (by lia),if_neg (by lia)];exact e⟩
def Reach(M:Nat)(place:Array Nat)(h:Int)(j:Nat):Prop:=∃ n,n<=10*(M+13)/\J M h n=j/\∀ k<n,taken place (J M h k)=true
structure TI{α:Type}(t:SetTable)(es:Array (Int × α)):Prop where
 pw:∃ m,t.mask+1=2 ^ m/\3<=m
 sz:t.place.size=es.size
 up:Up t.place
 le:∀ i,i<t.place.size->t.place.getD i 0<=t.mask
 dm:t.dummies = #[]
 few:es.size*5<t.mask*3
 path:∀ i h x,es[i]? = some (h,x)->Reach t.mask t.place h (t.place.getD i 0)
section
variable {α:Type}{t:SetTable}{es:Array (Int × α)}
def TI.slot(T:TI t es)(j:Nat):t.slot j=if taken t.place j then .live (below t.place j) else .empty:=by
 unfold SetTable.slot taken;dsimp only;split
 ·rfl
 ·have:has t.dummies j=false:=by rw[T.dm];rfl
  rw[this];rfl
def TI.fits(T:TI t es):t.fits es.size=true:=by have:=T.few;simp only[SetTable.fits,fill,T.dm,T.sz,lT,beq_iff_eq,decide_eq_true_eq,true_and];simp;lia
def TI.odd(T:TI t es):t.gaveWay=false:=by
 obtain⟨m,h,h3⟩:=T.pw;unfold SetTable.gaveWay;rw[beq_eq_false_iff_ne];have:2 ^ m=2*2 ^ (m-1):=by rw[show m=(m-1)+1 by lia,BF];simp;lia
 lia
def TI.free(T:TI t es):∃ e,e<=t.mask/\taken t.place e=false:=by
 have hf:=T.few;have hs:=T.sz;by_cases c:∃ e,e<=t.mask/\taken t.place e=false
 ·exact c
 ·exfalso;have all:∀ e,e<=t.mask->taken t.place e=true:=λe he=>by
   cases z:taken t.place e with
   |true=>rfl
   |false=>exact absurd ⟨e,he,z⟩ c
  -- slot e stands at place at most e
  have go:∀ e,e<=t.mask->e<=below t.place e:=by
   intro e
   induction e with
   |zero=>intro _;exact fE _
   |succ e ih =>
    intro he;have h1:=oJ T.up (all e (by lia));obtain⟨_,b,c⟩:=aU T.up (e+1);by_cases z:below t.place e<below t.place (e+1)
    ·lia
    ·have:=c (below t.place e) (by lia) h1.1;lia
  have:=go t.mask (cx _);have:=(oJ T.up (all t.mask (cx _))).1;lia
def TI.put(T:TI t es)(hj:j<=t.mask)(hn:taken t.place j=false)(hr:Reach t.mask t.place h j)(ht:t'.mask=t.mask)(hp:t'.place=insertAt t.place (below t.place j) j)(hd:t'.dummies = #[])(hf:(es.size+1)*5<t.mask*3):TI t' (insertAt es (below t.place j) (h,x)):=by
 have a:=(aU T.up j).1;have a':below t.place j<=es.size:=by rw[<- T.sz];exact a
 refine⟨by rw[ht];exact T.pw,by rw[hp,bB _ _ a,bB _ _ a',T.sz],by rw[hp];exact Cy T.up hn,λi hi=>?_,hd,by rw[bB _ _ a',ht];exact hf,λi g y e=>?_⟩
 ·rw[hp,bB _ _ a] at hi;rw[hp,cX a,ht];split
  ·exact T.le i (by lia)
  ·split
   ·exact hj
   ·exact T.le (i-1) (by lia)
 ·have mono:∀ {g:Int} {k:Nat},Reach t.mask t.place g k->Reach t'.mask t'.place g k:=λ{g k} ⟨n,h1,h2,h3⟩=>⟨n,by rw[ht];exact h1,by rw[ht];exact h2,λq hq=>by
   rw[hp,ht,wz T.up hn,h3 q hq,Bool.or_true]⟩
  rw[QB es _ a'] at e;rw[hp,cX a,<- hp];by_cases h1:i<below t.place j
  ·rw[if_pos h1] at e ⊢;exact mono (T.path i g y e)
  ·rw[if_neg h1] at e ⊢;by_cases h2:i=below t.place j
   ·rw[if_pos h2] at e ⊢;cases e;exact mono hr
   ·rw[if_neg h2] at e ⊢;exact mono (T.path (i-1) g y e)
end
theorem cA{α:Type}[DecidableEq α]:∀ {l m:List α},l.Nodup->(∀ x∈l,x∈m)->l.length<=m.length
 |[],_,_,_=>fE _
 |x :: l,m,nd,h=>by rw[kN] at nd;have hx:=h x dk;have:=cA (m:=m.erase x) nd.2 λy hy=>(List.mem_erase_of_ne (λe=>nd.1 (by rw[<- e];exact hy))).mpr (h y (dr _ hy));rw[List.length_erase_of_mem hx] at this;have:0<m.length:=SN hx;simp only[oS];lia
def jI(owner:Array (Option Nat))(j:Nat):Bool:=(owner.getD j (some 0)).isSome
def ql(h:Int)(owner:Array (Option Nat)):∀ (fuel k:Nat),(∀ q<kG M h k,jI owner (J M h q)=true)->(∃ K,k<=K/\K<k+fuel/\K<=M+13/\jI owner (lp M h K).1=false) ->
  ∃ j n,layClean.free M owner fuel (lp M h k).1 (lp M h k).2=some j/\J M h n=j/\n<=10*(M+13)/\jI owner j=false/\∀ q<n,jI owner (J M h q)=true
 |0,k,_,⟨K,h1,h2,_⟩=>by lia
 |fuel+1,k,hq,⟨K,h1,h2,h3,h4⟩=>by
  have Vh:∀ r,r<=runEnd M (lp M h k).1-(lp M h k).1->J M h (kG M h k+r)=(lp M h k).1+r:=λr hr=>by unfold J;rw[wZ M h (kG M h k) r (by rw[uf];exact hr),uf]
  have hle:=tL (Dy M h k);have e:∀ r,(owner.getD ((lp M h k).1+r) (some 0)).isNone = !jI owner ((lp M h k).1+r):=λr=>by unfold jI;cases owner.getD ((lp M h k).1+r) (some 0)<;>rfl
  unfold layClean.free
  cases hf:(List.range (runEnd M (lp M h k).1+1-(lp M h k).1)).find? λr=>(owner.getD ((lp M h k).1+r) (some 0)).isNone with
  |some r =>
   obtain⟨a1,a2,a3⟩:=List.find?_range_eq_some.mp hf;have a2:r<runEnd M (lp M h k).1+1-(lp M h k).1:=by simpa using a2
   rw[e] at a1;have a1:jI owner ((lp M h k).1+r)=false:=by simpa using a1
   have occs:∀ q<kG M h k+r,jI owner (J M h q)=true:=λq RL=>by
    by_cases z:q<kG M h k
    ·exact hq q z
    ·have:=a3 (q-kG M h k) (by lia);rw[e] at this;have hj:=Vh (q-kG M h k) (by lia);rw[show kG M h k+(q-kG M h k)=q by lia] at hj;rw[hj];simpa using this
   refine⟨_,kG M h k+r,rfl,Vh r (by lia),?_,a1,occs⟩;have hb:=xJ M h K;by_cases z:kG M h k+r<=kG M h K
   ·lia
   ·have:=occs (kG M h K) (by lia);rw[Ij,h4] at this;cases this
  |none =>
   have hn:=List.find?_eq_none.mp hf;have aw':∀ r,r<=runEnd M (lp M h k).1-(lp M h k).1->jI owner ((lp M h k).1+r)=true:=λr hr=>by have:=hn r (by simp;lia);rw[e] at this;simpa using this
   have hK:K≠k:=λz=>by subst z;have:=aw' 0 (fE _);rw[LZ,h4] at this;cases this
   refine ql h owner fuel (k+1) (λq RL=>?_) ⟨K,by lia,by lia,h3,h4⟩;by_cases z:q<kG M h k
   ·exact hq q z
   ·have RL:q<kG M h k+(runEnd M (lp M h k).1-(lp M h k).1)+1:=RL;have hj:=Vh (q-kG M h k) (by lia);rw[show kG M h k+(q-kG M h k)=q by lia] at hj;rw[hj];exact aw' _ (by lia)
structure OI(M:Nat)(hs:List Int)(owner:Array (Option Nat)):Prop where
 sz:owner.size=M+1
 lt:∀ j v:Nat,owner[j]? = some (some v)->v<hs.length
 inj:∀ j j' v:Nat,owner[j]? = some (some v)->owner[j']? = some (some v)->j=j'
 all:∀ v:Nat,v<hs.length->∃ j:Nat,owner[j]? = some (some v)
 path:∀ j v:Nat,owner[j]? = some (some v)->∃ n,n<=10*(M+13)/\J M (hs.getD v 0) n=j/\∀ q<n,jI owner (J M (hs.getD v 0) q)=true
def q_(h:j<owner.size):jI owner j=true↔∃ v,owner[j]? = some (some v):=by
 unfold jI;rw[BG h];simp only[Array.getD,h,dite_true,Option.some.injEq]
 cases hh:owner[j] with
 |none =>have:owner.getInternal j h=none:=hh;rw[this];simp
 |some v =>have:owner.getInternal j h=some v:=hh;rw[this];simp
def OI.free(O:OI M hs owner)(hl:hs.length<=M):∃ e,e<=M/\jI owner e=false:=by
 by_cases c:∃ e,e<=M/\jI owner e=false
 ·exact c
 ·exfalso;have all:∀ e,e<=M->∃ v,owner[e]? = some (some v):=λe he=>by
   refine(q_ (by rw[O.sz];lia)).mp ?_
   cases z:jI owner e with
   |true=>rfl
   |false=>exact absurd ⟨e,he,z⟩ c
  have nd:((List.range (M+1)).map λj=>(owner.getD j none).getD 0).Nodup:=by rw[PJ,iO];refine List.Pairwise.imp_of_mem ?_ (PJ.mp S8);intro a b ha hb iA z;obtain⟨va,ea⟩:=all a (by have:=n5.mp ha;lia);obtain⟨vb,eb⟩:=all b (by have:=n5.mp hb;lia);rw[GU,GU,ea,eb] at z;subst z;exact iA (O.inj _ _ _ ea eb)
  have:=cA nd λx hx=>by obtain⟨j,hj,rfl⟩:=b5.mp hx;obtain⟨v,e⟩:=all j (by have:=n5.mp hj;lia);rw[GU,e];exact n5.mpr (O.lt _ _ e)
  simp at this;lia
def OI.lay(hM:M+1=2 ^ m)(O:OI M hs owner)(hl:hs.length<=M)(h:Int) :
  ∃ j,layClean.free M owner (turns M) (bits h % (M+1)) (bits h)=some j/\OI M (hs++[h]) (owner.setIfInBounds j (some hs.length)):=by
 obtain⟨e,he,hf⟩:=O.free hl;obtain⟨K,hK,hKe⟩:=cover hM h he;obtain⟨j,n,e1,e2,e3,e4,e5⟩:=ql h owner (turns M) 0 (λq hq=>absurd hq (GO q)) ⟨K,fE _,by unfold turns;lia,hK,by rw[hKe];exact hf⟩;refine⟨j,e1,?_⟩;have hj:j<owner.size:=by rw[O.sz,<- e2];exact P8 (RK M h n)
 have get:∀ i,(owner.setIfInBounds j (some hs.length))[i]? = if j=i then some (some hs.length) else owner[i]? := λi=>by
  by_cases z:j=i
  ·subst z;simp[hj]
  ·simp[z]
 have oc:∀ i,jI owner i=true->jI (owner.setIfInBounds j (some hs.length)) i=true:=λi hi=>by
  unfold jI at hi ⊢;rw[GU] at hi ⊢;rw[get];split
  ·rfl
  ·exact hi
 have iA:∀ v,owner[j]?≠some (some v):=λv z=>by have:=(q_ hj).mpr ⟨v,z⟩;rw[e4] at this;cases this
 refine⟨by rw[Array.size_setIfInBounds];exact O.sz,λi v z=>?_,λi i' v z z'=>?_,λv hv=>?_,λi v z=>?_⟩
 ·rw[get] at z;split at z
  ·cases z;simp
  ·have:=O.lt i v z;simp;lia
 ·rw[get] at z z';split at z
  ·cases z;split at z'
   ·lia
   ·exact absurd (O.lt _ _ z') (vw _)
  ·split at z'
   ·cases z';exact absurd (O.lt _ _ z) (vw _)
   ·exact O.inj i i' v z z'
 ·simp at hv;by_cases c:v=hs.length
  ·exact⟨j,by rw[get,if_pos rfl,c]⟩
  ·obtain⟨i,hi⟩:=O.all v (by lia);refine⟨i,?_⟩;rw[get,if_neg (λz=>iA v (by rw[z];exact hi))];exact hi
 ·rw[get] at z;split at z
  ·rename_i Vi;cases z;refine⟨n,e3,?_,λq hq=>oc _ ?_⟩
   ·rw[EA,CM (cx _)];simp[e2,Vi]
   ·have:=e5 q hq;simpa using this
  ·have hv:=O.lt i v z;obtain⟨n',a1,a2,a3⟩:=O.path i v z;have eg:(hs++[h]).getD v 0=hs.getD v 0:=by rw[EA,EA,FX hv]
   rw[eg];exact⟨n',a1,a2,λq hq=>oc _ (a3 q hq)⟩
def OI.nil(M:Nat):OI M [] (Array.replicate (M+1) none):=by
 have no:∀ (j v:Nat),¬ (Array.replicate (M+1) none)[j]? = some (some v):=λj v z=>by rw[Array.getElem?_replicate] at z;split at z<;>cases z
 exact⟨by simp,λj v z=>absurd z (no j v),λj j' v z _=>absurd z (no j v),λv hv=>absurd hv (GO v),λj v z=>absurd z (no j v)⟩
def CV(hM:M+1=2 ^ m)(hs:Array Int)(hl:hs.size<=M):∃ owner,layClean M hs=some owner/\OI M hs.toList owner:=by
 have go:∀ (l pre:List Int) owner,OI M pre owner->pre.length+l.length<=M->∃ ax',l.foldl (λacc h=>do
   let (owner,k) ← acc
   let j ← layClean.free M owner (turns M) (bits h % (M+1)) (bits h)
   pure (owner.setIfInBounds j (some k),k+1)) (some (owner,pre.length))=some (ax',pre.length+l.length)/\OI M (pre++l) ax':=by
  intro l
  induction l with
  |nil=>intro pre owner O _;exact⟨owner,rfl,by rw[vv];exact O⟩
  |cons h l ih =>
   intro pre owner O hz;rw[oS] at hz;obtain⟨j,e,O'⟩:=O.lay hM (by lia) h;obtain⟨o2,e2,O2⟩:=ih (pre++[h]) _ O' (by simp;lia);refine⟨o2,?_,by rw[Ap] at O2;exact O2⟩;rw[List.foldl_cons];have:(do
    let (owner,k) ← (some (owner,pre.length):Option (Array (Option Nat) × Nat))
    let j ← layClean.free M owner (turns M) (bits h % (M+1)) (bits h)
    pure (owner.setIfInBounds j (some k),k+1))=some (owner.setIfInBounds j (some pre.length),(pre++[h]).length):=by
    simp[e]
   rw[this,e2];simp;lia
 obtain⟨o,e,O⟩:=go hs.toList [] _ (OI.nil M) (by simpa using hl);refine⟨o,?_,by simpa using O⟩;unfold layClean;rw[<- Array.foldl_toList];have e':=e;simp only[P0] at e';rw[e'];rfl
theorem iD:∀ (fuel a:Nat),3<=a->n<2 ^ (a+fuel)->∃ b,3<=b/\sizeAbove.go n fuel (2 ^ a)=2 ^ b/\n<2 ^ b/\(2 ^ b<=2*n\/b=a)
 |0,a,ha,h=>⟨a,ha,rfl,by simpa using h,.inr rfl⟩
 |fuel+1,a,ha,h=>by
  unfold sizeAbove.go;by_cases c:2 ^ a<=n
  ·rw[if_pos c];obtain⟨b,h1,h2,h3,h4⟩:=iD fuel (a+1) (by lia) (by rw[show a+1+fuel=a+(fuel+1) by lia];exact h);refine⟨b,h1,by rw[BF] at h2;exact h2,h3,?_⟩;rcases h4 with h4|h4
   ·exact .inl h4
   ·left;rw[h4,BF];lia
  ·rw[if_neg c];exact⟨a,ha,rfl,by lia,.inr rfl⟩
def lg(h:n<2 ^ 60):∃ b,3<=b/\sizeAbove n=2 ^ b/\n<2 ^ b/\(2 ^ b<=2*n\/b=3) :=
 iD 64 3 (cx _) (Ta h (by decide))
section
variable {α:Type}
def bD(M:Nat)(owner:Array (Option Nat)):List (Nat × Nat):=(List.range (M+1)).filterMap λj=>(owner.getD j none).map (j,·)
def dN:p∈bD M owner↔p.1<M+1/\owner[p.1]? = some (some p.2):=by
 unfold bD;rw[S0];constructor
 ·rintro⟨j,hj,e⟩;rw[GU] at e
  cases h:owner[j]? with
  |none=>rw[h] at e;cases e
  |some o =>
   rw[h] at e
   cases o with
   |none=>cases e
   |some v =>cases e;exact⟨n5.mp hj,h⟩
 ·rintro⟨h1,h2⟩;exact⟨p.1,n5.mpr h1,by rw[GU,h2];rfl⟩
def rN(M:Nat)(owner:Array (Option Nat)):((bD M owner).map (·.1)).Pairwise (· < ·):=by
 unfold bD;rw[iO,List.pairwise_filterMap];refine List.Pairwise.imp ?_ List.pairwise_lt_range;intro a b O6 p hp q hq
 cases h1:owner.getD a none with
 |none=>rw[h1] at hp;cases hp
 |some x =>
  cases h2:owner.getD b none with
  |none=>rw[h2] at hq;cases hq
  |some y =>rw[h1] at hp;rw[h2] at hq;cases hp;cases hq;exact O6
def t8{l:List Nat}(h:l.Pairwise (· < ·)):Up l.toArray:=λi j iN hj=>by
 have hj:j<l.length:=by simpa using hj
 have:=xi.mp h i j (by lia) hj iN;have e:∀ k hk,l.toArray.getD k 0=l[k]:=λk hk=>by simp[Array.getD,hk]
 rw[e i (by lia),e j hj];exact this
theorem su{β:Type}{f:α->Option β}:∀ {l:List α},(∀ x∈l,(f x).isSome=true)->(l.filterMap f).length=l.length/\∀ i:Nat,(l.filterMap f)[i]? = (l[i]?).bind f
 |[],_=>⟨rfl,λi=>by simp⟩
 |x :: l,h=>by
  obtain⟨a,b⟩:=su λy hy=>h y (dr _ hy);have hx:=h x dk
  cases e:f x with
  |none=>rw[e] at hx;cases hx
  |some y =>
   rw[NP,e];refine⟨by simp[a],λi=>?_⟩
   cases i with
   |zero=>simp[e]
   |succ i=>simpa using b i
def ug(es:Array (Int × α)):(List.range es.size).filterMap (λi=>es[i]?)=es.toList:=by
 apply Dp;intro i;rw[(su λx hx=>by
  have:=n5.mp hx;simp[this]).2 i]
 by_cases h:i<es.size
 ·rw[List.getElem?_range h,mh];rfl
 ·rw[tj (by simpa using h),tj (by simpa using h)];rfl
def CW{M m finger moves:Nat}{led plain:Bool}(hM:M+1=2 ^ m)(hm:3<=m){es:Array (Int × α)}(hf:es.size*5<M*3) :
  ∃ t order,laid M finger moves led plain (es.map (·.1))=some (t,order)/\t.plain=plain/\t.led=led/\t.mask=M/\TI t (order.filterMap λi=>es[i]?)/\(order.filterMap λi=>es[i]?).size=es.size/\(order.filterMap λi=>es[i]?).toList.Perm es.toList/\order.toList.Perm (List.range es.size):=by
 obtain⟨owner,e,O⟩:=CV hM (es.map (·.1)) (by rw[Array.size_map];lia);have hn:(es.map (·.1)).toList.length=es.size:=by simp
 refine⟨{ mask:=M,place:=((bD M owner).map (·.1)).toArray,dummies:=#[],finger,led,moves,plain },((bD M owner).map (·.2)).toArray,?_,rfl,rfl,rfl,?_⟩
 ·unfold laid;rw[e];rfl
 have vlt:∀ p∈bD M owner,p.2<es.size:=λp hp=>by have:=O.lt _ _ (dN.mp hp).2;lia
 have nd:((bD M owner).map (·.2)).Nodup:=by rw[PJ,iO];have:=rN M owner;rw[iO] at this;refine List.Pairwise.imp_of_mem ?_ this;intro p q hp hq eS z;have:=O.inj _ _ _ (dN.mp hp).2 (by rw[z];exact(dN.mp hq).2);lia
 have pm:((bD M owner).map (·.2)).Perm (List.range es.size):=by
  refine(List.perm_ext_iff_of_nodup nd S8).mpr λv=>⟨λhv=>?_,λhv=>?_⟩
  ·obtain⟨p,hp,rfl⟩:=b5.mp hv;exact n5.mpr (vlt p hp)
  ·obtain⟨j,hj⟩:=O.all v (by rw[hn];exact n5.mp hv);have hjs:=(L5.mp hj).1;rw[O.sz] at hjs;exact b5.mpr ⟨(j,v),dN.mpr ⟨hjs,hj⟩,rfl⟩
 have hlen:(bD M owner).length=es.size:=by have:=pm.length_eq;simpa using this
 have A6:(((bD M owner).map (·.2)).toArray.filterMap λi=>es[i]?).toList=(bD M owner).filterMap λp=>es[p.2]? := by rw[Array.toList_filterMap,S4];rfl
 obtain⟨f1,f2⟩:=su (l:=bD M owner) (f:=λp=>es[p.2]?) λp hp=>by simp[vlt p hp]
 have gO':∀ i:Nat,(((bD M owner).map (·.2)).toArray.filterMap λi=>es[i]?)[i]? = ((bD M owner)[i]?).bind λp=>es[p.2]? := λi=>by rw[<- mh,A6];exact f2 i
 have fT:(((bD M owner).map (·.2)).toArray.filterMap λi=>es[i]?).size=es.size:=by rw[<- BH,A6,f1,hlen]
 have oy:∀ i:Nat,∀ p,(bD M owner)[i]? = some p->((bD M owner).map (·.1)).toArray.getD i 0=p.1:=λi p hp=>by simp[hp]
 have tk:∀ j,jI owner j=true->j<=M->taken ((bD M owner).map (·.1)).toArray j=true:=λj hj hM'=>by
  obtain⟨v,hv⟩:=(q_ (by rw[O.sz];lia)).mp hj;obtain⟨i,hi⟩:=GA.mp (dN.mpr (show((j,v):Nat × Nat).1<M+1/\owner[((j,v):Nat × Nat).1]? = some (some ((j,v):Nat × Nat).2) from⟨by lia,hv⟩));exact(eN (t8 (rN M owner))).mpr ⟨i,by
   have:=(iE.mp hi).1;simpa using this,oy i _ hi⟩
 refine⟨?_,fT,?_,by simpa using pm⟩
 ·refine⟨⟨m,hM,hm⟩,?_,t8 (rN M owner),λi hi=>?_,rfl,by rw[fT];exact hf,λi h x hx=>?_⟩
  ·rw[fT];simp[hlen]
  ·have hi:i<(bD M owner).length:=by simpa using hi
   have e1:=kB hi;show((bD M owner).map (·.1)).toArray.getD i 0<=M;rw[oy i _ e1];have:=(dN.mp (k7 e1)).1;lia
  ·rw[gO'] at hx
   cases hp:(bD M owner)[i]? with
   |none=>rw[hp] at hx;cases hx
   |some p =>
    rw[hp] at hx;have hx:es[p.2]? = some (h,x):=hx;have O7:=dN.mp (k7 hp);obtain⟨n,a1,a2,a3⟩:=O.path _ _ O7.2;have hh:(es.map (·.1)).toList.getD p.2 0=h:=by rw[EA,mh,Array.getElem?_map,hx];rfl
    rw[hh] at a2 a3;refine⟨n,a1,?_,λq hq=>tk _ (a3 q hq) (RK M h q)⟩;rw[oy i _ hp];exact a2
 ·rw[A6];have:=pm.filterMap λi=>es[i]?;rw[ug,S4] at this;exact this
def pU{t:SetTable}{es:Array (Int × α)}(hn:es.size<=10000) :
  ∃ t' order,t.relaid (es.map (·.1)) (grown es.size)=some (t',order)/\t'.plain=t.plain/\t'.led=t.led/\sizeAbove (grown es.size)<=16777216/\(es.size<=1000->t'.mask<=8191)/\TI t' (order.filterMap λi=>es[i]?)/\(order.filterMap λi=>es[i]?).size=es.size/\(order.filterMap λi=>es[i]?).toList.Perm es.toList/\order.toList.Perm (List.range es.size):=by
 have hg:grown es.size=es.size*4:=by unfold grown;rw[if_neg (by lia)]
 obtain⟨b,h3,e,eS,hle⟩:=lg (n:=es.size*4) (by lia);have h8:8<=2 ^ b:=Nat.pow_le_pow_right (n:=2) (by decide) h3;unfold relaid;rw[hg,e];obtain⟨t',order,q1,q2,q3,qm,q4⟩:=CW (M:=2 ^ b-1) (by lia) h3 (es:=es) (by lia);refine⟨t',order,q1,q2,q3,?_,λhz=>?_,q4⟩
 ·rcases hle with hle|rfl
  ·lia
  ·decide
 ·rw[qm];rcases hle with hle|rfl
  ·lia
  ·decide
end
section
variable {α:Type}{t:SetTable}{es:Array (Int × α)}
def nJ(T:TI t es)(hashAt:Nat->Int)(h:Int):∀ (fuel n:Nat),(∃ N,n<=N/\N<n+fuel/\taken t.place (J t.mask h N)=false) ->
  ∃ n',n<=n'/\n'<n+fuel/\(∀ q,n<=q->q<n'->taken t.place (J t.mask h q)=true/\hashAt (below t.place (J t.mask h q))≠h) /\ ((taken t.place (J t.mask h n')=false/\probe.go t hashAt h fuel (ps t.mask h n)=some (.empty (J t.mask h n') none)) \/ (taken t.place (J t.mask h n')=true/\hashAt (below t.place (J t.mask h n'))=h/\probe.go t hashAt h fuel (ps t.mask h n)=some (.candidate (J t.mask h n') (below t.place (J t.mask h n')) (ps t.mask h (n'+1)))))
 |0,n,⟨N,h1,h2,_⟩=>by lia
 |fuel+1,n,⟨N,h1,h2,h3⟩=>by
  unfold probe.go;have hs:=T.slot (J t.mask h n);have hd:=(Ef t.mask h n).2.2.1;by_cases c:taken t.place (J t.mask h n)=true
  ·rw[if_pos c] at hs;have hs:t.slot (ps t.mask h n).j=.live (below t.place (J t.mask h n)):=hs;rw[hs];dsimp only;by_cases e:hashAt (below t.place (J t.mask h n))=h
   ·rw[if_pos (by simpa using e)];exact⟨n,cx _,by lia,λq a b=>by lia,.inr ⟨c,e,rfl⟩⟩
   ·rw[if_neg (by simpa using e)];have hN:N≠n:=λz=>by rw[z,c] at h3;cases h3
    obtain⟨n',a1,a2,a3,a4⟩:=nJ T hashAt h fuel (n+1) ⟨N,by lia,by lia,h3⟩;refine⟨n',by lia,by lia,λq b1 b2=>?_,a4⟩;by_cases z:q=n
    ·subst z;exact⟨c,e⟩
    ·exact a3 q (by lia) b2
  ·have c:taken t.place (J t.mask h n)=false:=by simpa using c
   rw[if_neg (by rw[c];exact kf)] at hs;have hs:t.slot (ps t.mask h n).j=.empty:=hs;rw[hs];rw[hd];exact⟨n,cx _,by lia,λq a b=>by lia,.inl ⟨c,rfl⟩⟩
end
section
variable {prog:d5}{w:eC}{K:Type}[DecidableEq K]{knd:KeyKind prog w K}
abbrev aV(knd:KeyKind prog w K)(k:List K):Int:=tupleKeyHash knd k
def zj(knd:KeyKind prog w K)(p:List K × ah):Int × ae:=(aV knd p.1,.ref p.2)
structure Nt(knd:KeyKind prog w K)(h:df)(a:ah)(ks:List (List K × ah)):Prop where
 ob:∃ o es ep t,h.get? a=some o/\o.ExactSet/\o.data=.set es ep t/\TI t es/\t.mask<=8191/\t.led=(!w.params.followText "set-order")/\es.toList=ks.map (zj knd)
 nd:(ks.map (·.1)).Nodup
 is:∀ p∈ks,IsTupleKey knd h p.1 p.2
variable {A:e7}{E:ae->ax->Prop}{s:ax}
def jH(hk:IsTupleKey knd s.heap k a)(h:Q false s):bq (aI prog w) A (ofAClassStatement 8 (.ref a)) Q E s:=by
 have hT:=hk.typeIs;obtain⟨o,items,n,ho,_,hd,hi⟩:=hk;unfold ofAClassStatement;refine aw (wpAny_typeOf hT ?_);refine aw ?_;refine bG ?_;refine aw (wpAny_seqItems ho hd ?_);refine aw ?_;rw[<- Array.forIn_toList];refine wpAny_forIn_list _ (λrest r s'=>r.1=none/\s'=s/\∀ v∈rest,carriedByValue v=true) _ ?_ ?_ _ _ ⟨rfl,rfl,hi.byValue⟩
 ·rintro v rest r s' ⟨hr,rfl,oz⟩;have hv:=oz v dk;have e:ofAClassStatement 7 v=pure false:=by
   cases v with
   |ref a=>cases hv
   |_=>rfl
  rw[e];exact aw (bG (bG ⟨rfl,rfl,λu IZ=>oz u (dr _ IZ)⟩))
 ·rintro⟨r1,r2⟩ s' ⟨hr,rfl,_⟩;subst hr;exact bG h
def g_(hk:IsTupleKey knd s.heap k a)(ub:∀ k v,knd.is k v=true->v.scannable=true)(h:∀ b,Q b s):bq (aI prog w) A (hashByValue 8 (.ref a)) Q E s:=by
 have hT:=hk.typeIs;obtain⟨o,items,n,ho,_,hd,hi⟩:=hk;have gP':∀ v∈items.toList,v.scannable=true:=by
  generalize items.toList=l at hi
  induction hi with
  |nil=>intro v hv;cases hv
  |cons h1 _ ih =>
   intro v hv;rcases eB.mp hv with rfl|hv
   ·exact ub _ _ h1
   ·exact ih v hv
 refine aw (wpAny_specialOf hT F.slot_tuple_hash.lookup ?_);refine aw (wpAny_seqItems ho hd ?_);dsimp only[Option.getD];refine aw ?_;rw[<- Array.forIn_toList];refine wpAny_forIn_list _ (λrest r s'=>s'=s/\∀ v∈rest,v.scannable=true) _ ?_ ?_ _ _ ⟨rfl,gP'⟩
 ·rintro v rest r s' ⟨rfl,oz⟩;rw[hashByValue_scannable 7 (oz v dk)];refine aw (bG ?_);split
  ·exact bG (bG (h _))
  ·exact bG ⟨rfl,λu IZ=>oz u (dr _ IZ)⟩
 ·rintro⟨r1,r2⟩ s' ⟨rfl,_⟩
  cases r1 with
  |none=>exact bG (h true)
  |some b=>exact bG (h b)
end
local macro_rules | `(tactic| walk_at $s:str) => do
 let x:=s.getString
 if x.startsWith "PV" then `(tactic| exact $(Lean.mkIdent (.str (.str (.num (.str (.str (.str .anonymous "_private") "PySem") "SetOps") 0) "PySem") (x.drop 2).toString)))
 else Lean.Macro.throwUnsupported
abbrev yD:Array (Int × ae)->Nat->Int:=by walk_at "PVstoredHashAt"
abbrev Fg:Array (Int × ae)->Option (SetTable × Array Nat)->Sem (Array (Int × ae) × SetTable):=by walk_at "PVreordered"
abbrev mJ:Array (Int × ae)->SetTable->Bool:=by walk_at "PVdrawn"
abbrev Gg:Bool->Sem Unit:=by walk_at "PVgaveWayHere"
def rR:Array (Int × ae)->Nat->Int:=yD
def pI(es:Array (Int × ae))(i:Nat):rR es i=(es[i]?.map (·.1)).getD 0:=rfl
section
variable {prog:d5}{w:eC}{K:Type}[DecidableEq K]{knd:KeyKind prog w K}{A:e7}{E:ae->ax->Prop}{s:ax}
def uR(hk:IsTupleKey knd s.heap k a)(hy:∀ y∈ys,∃ k' b,y=.ref b/\IsTupleKey knd s.heap k' b)(h:Q false s):bq (aI prog w) A (searchCouldBeSeen (.ref a) ys) Q E s:=by
 refine aw ?_;refine wpAny_forIn_list _ (λrest r s'=>r.1=none/\s'=s/\∀ y∈rest,∃ k' b,y=.ref b/\IsTupleKey knd s.heap k' b) _ ?_ ?_ _ _ ⟨rfl,rfl,hy⟩
 ·rintro y rest r s' ⟨hr,rfl,oz⟩;obtain⟨k',b,rfl,hb⟩:=oz y dk;dsimp only;split
  ·exact bG ⟨rfl,rfl,λu IZ=>oz u (dr _ IZ)⟩
  ·exact aw (wpAny_eqIsQuiet_tuple hk (aw (wpAny_eqIsQuiet_tuple hb (aw (jH hk (aw (jH hb (bG ⟨rfl,rfl,λu IZ=>oz u (dr _ IZ)⟩))))))))
 ·rintro⟨r1,r2⟩ s' ⟨hr,rfl,_⟩;subst hr;exact bG h
def Jf{K G:Prop}(pk:K)(h:K->G):G:=h pk
def pQ{a x:ah}{k:List K}{ks:List (List K × ah)}{o:Obj}{es:Array (Int × ae)}{ep:Nat}{t:SetTable}(hu:A.units<e9)(ho:s.heap.get? a=some o)(hd:o.data=.set es ep t)(T:TI t es)(he:es.toList=ks.map (zj knd))(oD:∀ p∈ks,IsTupleKey knd s.heap p.1 p.2) (hx:IsTupleKey knd s.heap k x) {Q:SetFound->ax->Prop} (aA':k∈ks.map (·.1)->Q (.there none) s)(nf:Nat) (hnf:nf<=10*(t.mask+13)) (E8:taken t.place (J t.mask (aV knd k) nf)=false) (hbf:∀ q<nf,taken t.place (J t.mask (aV knd k) q)=true)(E3:k∉ks.map (·.1)->Q (.free (J t.mask (aV knd k) nf) false) s) :
  ∀ (fuel n:Nat) (stand:Option Probe),stand.getD (t.probeStart (aV knd k))=ps t.mask (aV knd k) n->n<=nf->nf<n+fuel -> (∀ q<n,∀ p,ks[below t.place (J t.mask (aV knd k) q)]? = some p->p.1≠k)->bq (aI prog w) A (setSearchFrom a (.ref x) (aV knd k) true fuel stand) Q E s
 |0,n,stand,_,h1,h2,_=>by lia
 |fuel+1,n,stand,mM,h1,h2,hq=>by
  have Nu:∀ i:Nat,es[i]? = (ks[i]?).map (zj knd):=λi=>by rw[<- mh,he,kM]
  refine aw (zD ho hd T.fits ?_);dsimp only;rw[if_neg (by rw[T.odd];exact kf)];obtain⟨n',a1,a2,a3,a4⟩:=nJ T (rR es) (aV knd k) (10*turns t.mask) n ⟨nf,h1,by unfold turns;lia,E8⟩;have Ts:n'<=nf:=by
   by_cases z:n'<=nf
   ·exact z
   ·have:=(a3 nf h1 (by lia)).1;rw[E8] at this;cases this
  rcases a4 with⟨c1,c2⟩|⟨c1,c2,c3⟩
  ·have c2:t.probe (rR es) (aV knd k) (stand.getD (t.probeStart (aV knd k)))=some (.empty (J t.mask (aV knd k) n') none):=by rw[mM];exact c2
   have e:n'=nf:=by
    by_cases z:n'<nf
    ·have:=hbf n' z;rw[c1] at this;cases this
    ·lia
   have c2:t.probe (yD es) (aV knd k) (stand.getD (t.probeStart (aV knd k)))=some (.empty (J t.mask (aV knd k) n') none):=c2;rw[c2];rw[e];refine bG (E3 λhm=>?_);obtain⟨p,hp,rfl⟩:=b5.mp hm;obtain⟨i,hi⟩:=GA.mp hp;have ei:es[i]? = some (aV knd p.1,.ref p.2):=by rw[Nu,hi];rfl
   have aC':i<t.place.size:=by rw[T.sz];exact(L5.mp ei).1
   obtain⟨ni,b1,b2,b3⟩:=T.path i _ _ ei;have bt:below t.place (J t.mask (aV knd p.1) ni)=i:=by rw[b2];exact below_at T.up aC'
   have tk:taken t.place (J t.mask (aV knd p.1) ni)=true:=by rw[b2];exact(eN T.up).mpr ⟨i,aC',rfl⟩
   have eS:ni<nf:=by
    by_cases z:nf<ni
    ·have:=b3 nf z;rw[E8] at this;cases this
    ·have:ni≠nf:=λz=>by rw[z,E8] at tk;cases tk
     lia
   by_cases z:ni<n
   ·exact hq ni z p (by rw[bt];exact hi) rfl
   ·refine(a3 ni (by lia) (by lia)).2 ?_;rw[bt,pI,ei];rfl
  ·have c3:t.probe (yD es) (aV knd k) (stand.getD (t.probeStart (aV knd k)))=some (.candidate (J t.mask (aV knd k) n') (below t.place (J t.mask (aV knd k) n')) (ps t.mask (aV knd k) (n'+1))):=by rw[mM];exact c3
   rw[c3];dsimp only;have tk:=oJ T.up c1;have RN:t.slot (J t.mask (aV knd k) n')=.live (below t.place (J t.mask (aV knd k) n')):=by rw[T.slot,if_pos c1]
   generalize hi:below t.place (J t.mask (aV knd k) n')=i at tk c2 RN ⊢;have hil:i<es.size:=by rw[<- T.sz];exact tk.1
   obtain⟨p,hp⟩:∃ p,ks[i]? = some p:=by
    have:i<ks.length:=by have:=congrArg List.length he;simp at this;lia
    exact⟨_,kB this⟩
   have ei:es[i]? = some (aV knd p.1,.ref p.2):=by rw[Nu,hp];rfl
   have hpm:=k7 hp;have iA:n'≠nf:=λz=>by rw[z,E8] at c1;cases c1
   have again:¬ p.1=k->bq (aI prog w) A (setSearchFrom a (.ref x) (aV knd k) true fuel (some (ps t.mask (aV knd k) (n'+1)))) Q E s:=λhpk =>
    pQ hu ho hd T he oD hx aA' nf hnf E8 hbf E3 fuel (n'+1) (some (ps t.mask (aV knd k) (n'+1))) rfl (by lia) (by lia) λq RL p' i5=>by
     by_cases z:q<n
     ·exact hq q z p' i5
     ·by_cases z2:q=n'
      ·subst z2;rw[hi,hp] at i5;cases i5;exact hpk
      ·intro e';have:=(a3 q (by lia) (by lia)).2;refine this ?_;rw[pI,Nu,i5];show aV knd p'.1=_;rw[e']
   have bI:p.1=k->k∈ks.map (·.1):=λe=>e ▸ b5.mpr ⟨p,hpm,rfl⟩;have seen:∀ y∈List.map (λx=>x.snd) (Array.filter (λx=>x.fst == aV knd k) es).toList,∃ k' b,y=.ref b/\IsTupleKey knd s.heap k' b:=λy hy=>by obtain⟨e',Rc,rfl⟩:=b5.mp hy;rw[Array.toList_filter] at Rc;have:=(qf.mp Rc).1;rw[he] at this;obtain⟨p',i5,rfl⟩:=b5.mp this;exact⟨p'.1,p'.2,rfl,oD p' i5⟩
   refine Jf ?pk (K:=?K) λkey=>?main;case main =>
    split
    ·refine aw (uR hx seen ?_);exact key
    ·exact key
   rw[ei];refine aw (tf (wpAny_eqBool_tuple hu (oD p hpm) hx ?_));refine aw (zD ho hd T.fits ?_);by_cases e:p.1=k
   ·rw[if_pos (by simp[e])];exact bG (aA' (bI e))
   ·rw[if_neg (by simp[e])];have UH:t.sameMemory t.moves t.mask=some true:=by unfold sameMemory;rw[if_pos (by simp)]
    rw[UH];dsimp only;rw[if_pos rfl,RN];dsimp only;rw[ei];refine aw ?_;unfold isSame;dsimp only;rw[if_pos (by simp)];refine bG (aw (bG ?_));rw[if_pos rfl];dsimp only;rw[if_neg (by simp[e])];exact again e
end
def eV{α β:Type}{f:α->β}:∀ {l l2:List β},l.Perm l2->∀ {m:List α},l2=m.map f->∃ m':List α,l=m'.map f/\m'.Perm m:=by
 intro l l2 p
 induction p with
 |nil=>intro m e;exact⟨m,by rw[<- e],.refl _⟩
 |cons x _ ih =>
  intro m e
  cases m with
  |nil=>cases e
  |cons y m =>simp only[gd,List.cons.injEq] at e;obtain⟨m',e1,p1⟩:=ih e.2;exact⟨y :: m',by rw[gd,<- e1,e.1],p1.cons _⟩
 |swap x y l =>
  intro m e
  match m,e with
  |a :: b :: m,e =>simp only[gd,List.cons.injEq] at e;exact⟨b :: a :: m,by simp[e.1,e.2.1,e.2.2],.swap ..⟩
 |trans _ _ ih1 UY =>intro m e;obtain⟨m',e1,p1⟩:=UY e;obtain⟨m2,e2,p2⟩:=ih1 e1;exact⟨m2,e2,p2.trans p1⟩
def lH{α:Type}(xs:Array α)(p:Nat)(x:α):(insertAt xs p x).toList=xs.toList.take p++x :: xs.toList.drop p:=by unfold insertAt;simp;rw[PL (by simp)]
def qD(hz:(order.filterMap λi=>es[i]?).size=es.size)(h:Q (order.filterMap λi=>es[i]?,t) s):bq (aI prog w) A (Fg es (some (t,order))) Q E s:=by
 show bq _ _ (if ((order.filterMap λi=>es[i]?).size != es.size)=true then (do unsupported "internal:set-table-lost-an-element";pure (order.filterMap λi=>es[i]?,t)) else pure (order.filterMap λi=>es[i]?,t)) _ _ _;rw[if_neg (by simp[hz])];exact bG h
section
variable {prog:d5}{w:eC}{K:Type}[DecidableEq K]{knd:KeyKind prog w K}{A:e7}{E:ae->ax->Prop}{s:ax}
def IsTupleKey.fz(hk:IsTupleKey knd h k a)(e:∀ o,h.get? a=some o->h'.get? a=some o):IsTupleKey knd h' k a:=by obtain⟨o,items,n,ho,r⟩:=hk;exact⟨o,items,n,e o ho,r⟩
def Nt.ne(S:Nt knd h a ks)(hx:IsTupleKey knd h k x):x≠a:=by obtain⟨⟨o,es,ep,t,ho,hex,_⟩,_,_⟩:=S;obtain⟨o',items,n,og,hc,_⟩:=hx;intro z;subst z;rw[ho] at og;cases og;rw[hex.1] at hc;exact absurd hc (by decide)
def Hl(S:Nt knd s.heap a ks)(hx:IsTupleKey knd s.heap k x)(hz:ks.length<1000)(hu:A.units<e9)(ub:∀ k v,knd.is k v=true->v.scannable=true)(h:∀ (b:Bool) (h':df) (dE:List (List K × ah)),Heap.SameBut a s.heap h'->Nt knd h' a dE->(k∈ks.map (·.1)/\dE=ks\/k∉ks.map (·.1)/\dE.Perm ((k,x) :: ks))->Q b { s with heap:=h' }) :
  bq (aI prog w) A (setAddHashed a (.ref x) (aV knd k)) Q E s:=by
 obtain⟨⟨o,es,ep,t,ho,hex,hd,T,hM,hL,he⟩,nd,is⟩:=id S;have hlen:es.size=ks.length:=by have:=congrArg List.length he;simpa using this
 obtain⟨m,hm,_⟩:=T.pw;obtain⟨e0,Vj,Vk⟩:=T.free;obtain⟨nf,n1,n2,n3⟩:=lC hm (aV knd k) (taken t.place) Vj Vk;refine tf (aw (zD ho hd T.fits ?_));dsimp only;have hbs:byScan (.ref x) es=false:=rfl;refine aw ?_;refine pQ hu ho hd T he is hx (λbI=>?_) nf n1 n2 n3 (λkS=>?_) 100000 0 none rfl (fE _) (by lia) λq hq=>absurd hq (GO q)
 ·dsimp only;refine bG ?_;have e:s={ s with heap:=s.heap }:=by cases s;rfl
  exact h _ _ ks (Heap.SameBut.refl a s.heap) S (.inl ⟨bI,rfl⟩)
 ·dsimp only;generalize hj:J t.mask (aV knd k) nf=j at n2 ⊢;have Vl:j<=t.mask:=by rw[<- hj];exact RK ..
  have Vm:Reach t.mask t.place (aV knd k) j:=⟨nf,n1,hj,n3⟩
  refine aw (zD ho hd T.fits ?_);have Vn:t.put j=({ t with place:=insertAt t.place (below t.place j) j,dummies:=#[] },below t.place j):=by
   unfold SetTable.put;have:has t.dummies j=false:=by rw[T.dm];rfl
   simp only[this,pf,if_false];rw[T.dm]
  rw[Vn];have bI:(insertAt es (below t.place j) (aV knd k,.ref x)).toList=(ks.take (below t.place j)++(k,x) :: ks.drop (below t.place j)).map (zj knd):=by rw[lH,he,AA,gd,P5,P6];rfl
  have xS:(ks.take (below t.place j)++(k,x) :: ks.drop (below t.place j)).Perm ((k,x) :: ks):=by refine List.perm_middle.trans ?_;rw[NJ]
  have FC:below t.place j<=es.size:=by rw[<- T.sz];exact(aU T.up j).1
  have xD:(insertAt es (below t.place j) (aV knd k,Value.ref x)).size=es.size+1:=bB _ _ FC;have O8:∀ h',Heap.SameBut a s.heap h'->∀ dE:List (List K × ah),dE.Perm ((k,x) :: ks)->∀ p∈dE,IsTupleKey knd h' p.1 p.2:=λh' sb dE pm p hp=>by
   have:IsTupleKey knd s.heap p.1 p.2:=by
    rcases eB.mp (pm.mem_iff.mp hp) with rfl|hp
    ·exact hx
    ·exact is p hp
   exact IsTupleKey.fz this λo' og=>sb.extBut _ _ (S.ne this) og
  have O9:∀ dE:List (List K × ah),dE.Perm ((k,x) :: ks)->(dE.map (·.1)).Nodup:=λdE pm=>by rw[(pm.map _).nodup_iff,gd,kN];exact⟨kS,nd⟩
  -- behind the flag
  have main:∀ pl:Bool,bq (aI prog w) A (do
    storeSet a (insertAt es (below t.place j) (aV knd k,.ref x)) { t with place:=insertAt t.place (below t.place j) j,dummies:=#[],plain:=pl }
    if (!false && ({ t with place:=insertAt t.place (below t.place j) j,dummies:=#[],plain:=pl }:SetTable).tooFull)=true then do
      setRelay a (grown (es.size+1))
      pure true
     else pure true) Q E s:=λpl=>by
   generalize O_:({ t with place:=insertAt t.place (below t.place j) j,dummies:=#[],plain:=pl }:SetTable)=t';have tm:t'.mask=t.mask:=by rw[<- O_]
   have tp:t'.place=insertAt t.place (below t.place j) j:=by rw[<- O_]
   have td:t'.dummies = #[]:=by rw[<- O_]
   have RP:t'.fill=es.size+1:=by unfold SetTable.fill;rw[tp,td,bB _ _ (aU T.up j).1,T.sz];simp
   refine aw (wpAny_storeSet_of ho hd ?_ (by rw[xD,j3];lia));have v3:(s.heap.update a (Obj.putSet (insertAt es (below t.place j) (aV knd k,.ref x)) t')).get? a=some { o with data:=.set (insertAt es (below t.place j) (aV knd k,.ref x)) (ep+1) t' }:=by have:=EG (Obj.putSet (insertAt es (below t.place j) (aV knd k,.ref x)) t') ho (by rw[putSet_of _ _ hd];rfl);rw[putSet_of _ _ hd] at this;exact this
   have wo:=Heap.SameBut.update s.heap a (Obj.putSet (insertAt es (below t.place j) (aV knd k,.ref x)) t');by_cases c:t'.tooFull=true
   ·rw[if_pos (by rw[c];rfl)];have Rq:t'.fits (insertAt es (below t.place j) (aV knd k,Value.ref x)).size=true:=by have:=T.few;simp only[SetTable.fits,RP,lT,beq_iff_eq,decide_eq_true_eq];rw[tp,bB _ _ (aU T.up j).1,xD,T.sz,tm];exact⟨rfl,by lia⟩
    obtain⟨t2,order,r1,r2,r3,r4,r5,r6,r7,r8,_⟩:=pU (es:=insertAt es (below t.place j) (aV knd k,Value.ref x)) (by lia);rw[xD] at r1 r4;refine aw (aw (zD v3 rfl Rq ?_));dsimp only;rw[if_neg (by rw[j3];lia)];refine aw ?_;rw[r1];obtain⟨dE,ek,pk⟩:=eV r8 bI;refine qD r7 ?_;refine wpAny_storeSet_of v3 rfl ?_ (by rw[r7,xD,j3];lia);refine bG ?_;have FD:=wo.trans (Heap.SameBut.update _ a (Obj.putSet (order.filterMap λi=>(insertAt es (below t.place j) (aV knd k,Value.ref x))[i]?) t2));have pE:=EG (Obj.putSet (order.filterMap λi=>(insertAt es (below t.place j) (aV knd k,Value.ref x))[i]?) t2) v3 (by rw[putSet_of _ _ rfl];rfl);exact h true _ dE FD ⟨⟨_,_,_,_,pE,hex,rfl,r6,r5 (by lia),by rw[r3,<- O_];exact hL,ek⟩,O9 dE (pk.trans xS),O8 _ FD dE (pk.trans xS)⟩ (.inr ⟨kS,pk.trans xS⟩)
   ·rw[if_neg (by simpa using c)];refine bG ?_;have t5:(es.size+1)*5<t.mask*3:=by unfold SetTable.tooFull at c;rw[RP,tm] at c;simpa using c
    exact h true _ _ wo ⟨⟨_,_,_,_,v3,hex,rfl,T.put Vl n2 Vm tm tp td t5,by rw[tm];exact hM,by rw[<- O_];exact hL,bI⟩,O9 _ xS,O8 _ wo _ xS⟩ (.inr ⟨kS,xS⟩)
  split
  ·refine aw (g_ hx ub λb=>?_)
   cases b with
   |true=>exact main t.plain
   |false=>exact main false
  ·exact aw (bG (main t.plain))
end
end TS
namespace TS
open PySem PySem.SetTable PyProof.Rows
section
variable {prog:d5}{w:eC}{A:e7}{R:Result->ax->Prop}{I:ah}{fp wr:List ah}{n:Nat}{P:Nat->ae->Prop}{St:Nat->df->Prop}
def zf(W:Walks prog w A.in1 I fp wr n P St)(S:ah)(I0:S∉fp)(SI:Nat->df->Prop)(keep:∀ i h h',SI i h->(∀ b o,b∉wr->h.get? b=some o->h'.get? b=some o)->SI i h')(step:∀ (i:Nat) (v:ae) (s':ax) (E':ae->ax->Prop) (Q:Bool->ax->Prop),P i v->SI i s'.heap->(∀ b h' tk,Heap.SameBut S s'.heap h'->SI (i+1) h'->Q b { s' with heap:=h',toks:=tk })->bq (aI prog w) A.in1 (setAdd S v) Q E' s') :
  ∀ (k i:Nat) (s:ax),n-i=k->i<=n->St i s.heap->SI i s.heap -> (∀ h' tk,SI n h'->(∀ b o,b∉wr->b≠S->s.heap.get? b=some o->h'.get? b=some o)->R (.ok (.ret .none)) { s with heap:=h',toks:=tk }) ->
   codeAny (aI prog w) A (.builtin "set.update.loop" ⟨[.ref S,.ref I],[]⟩) R s:=by
 have hSw:S∉wr:=λh=>I0 (W.sub _ h);intro k
 induction k with
 |zero =>
  intro i s hk hi mM hS hR;have bI:i=n:=by lia
  subst bI;refine Bz F.entry_set_update_loop ?_;rw[Around.under_plainId F.plain_set_update_loop _];show bq _ A.in1 (pyNext (.ref I) >>= _) _ _ s;refine aw (W.done s _ _ mM λh' tk kD=>?_);show bq _ A.in1 (ret Value.none) _ _ _;exact bG (hR h' tk (keep _ _ _ hS kD) λb o hb _ e=>kD b o hb e)
 |succ k ih =>
  intro i s hk hi mM hS hR;have eS:i<n:=by lia
  refine Bz F.entry_set_update_loop ?_;rw[Around.under_plainId F.plain_set_update_loop _];show bq _ A.in1 (pyNext (.ref I) >>= _) _ _ s;refine aw (W.item i s _ _ eS mM λv h' tk hP gT' kD=>?_);show bq _ A.in1 (holding [v] (setAdd S v) >>= _) _ _ _;refine aw (tf (step i v _ _ _ hP (keep _ _ _ hS kD) λb h2 RQ sb hS2=>?_));refine bG ⟨Ee F.plain_set_update_loop _,ih (i+1) _ (by lia) eS (W.frame _ _ _ gT' λb hb o e=>?_) hS2 λh3 tk3 hS3 IH=>?_⟩
  ·exact sb.extBut b o (λz=>I0 (by rw[<- z];exact hb)) e
  ·exact hR h3 tk3 hS3 λb o hb Pa e=>IH b o hb Pa (sb.extBut b o Pa (kD b o hb e))
end
section
variable {prog:d5}{w:eC}{A:e7}{E:ae->ax->Prop}{s:ax}
def wg(a:ae)(h:Q₁ (.ref s.heap.objs.size) { s with heap:=s.heap.push { cls:=.type "set",dict:=none,data:=.set #[] 0 (.fresh 0 0 (!w.params.followText "set-order")) } }) :
  codeAny (aI prog w) A (.call (.builtin "set.__new__") ⟨[.type "set",a],[]⟩) (wants Q₁ E) s:=by
 refine codeAny_of_tree ?_;show bq _ A.in1 (do checkBuiltinCall "set.__new__" ⟨[.type "set",a],[]⟩;again (.builtin "set.__new__" ⟨[.type "set",a],[]⟩)) _ _ s;refine aw (wpAny_of_eq (F.newCall_set_1 a) (bG ⟨Ee F.plain_set_new _,Bz F.entry_set_new ?_⟩));rw[Around.under_plainId F.plain_set_new _];unfold Builtin.«set.__new__» Builtin.Frozenset.newClass;have Pb:=sub_set_self;obtain⟨hp,g,d,tk,os⟩:=s;dsimp only
 wp_walk
 refine Lv (bG ?_);dsimp only;simp only[newObj];refine aw (wpAny_alloc (bG ?_));exact bG h
def iM(hh:A.handled=none)(hl:s.heap.IsList l items)(SI:Nat->df->Prop)(h0:∀ h,h.get? s.heap.objs.size=some { cls:=.type "set",dict:=none,data:=.set #[] 0 (.fresh 0 0 (!w.params.followText "set-order")) }->(∀ b o,s.heap.get? b=some o->h.get? b=some o)->SI 0 h) (keep:∀ i h h',SI i h->(∀ b o,b<=s.heap.objs.size->h.get? b=some o->h'.get? b=some o)->SI i h') (step:∀ (i:Nat) (v:ae) (s':ax) (E':ae->ax->Prop) (Q:Bool->ax->Prop),items[i]? = some v->SI i s'.heap->(∀ b h' tk,Heap.SameBut s.heap.objs.size s'.heap h'->SI (i+1) h'->Q b { s' with heap:=h',toks:=tk }) ->
   bq (aI prog w) A.in1.in1.in1 (setAdd s.heap.objs.size v) Q E' s')
  (h:∀ (h':df) (tk:Nat),SI items.size h'->(∀ b o,b<s.heap.objs.size->s.heap.get? b=some o->h'.get? b=some o)->Q (.ref s.heap.objs.size) { s with heap:=h',toks:=tk }) :
  bq (aI prog w) A (call (.type "set") [.ref l]) Q E s:=by
 obtain⟨c,tl,kh'⟩:=F.called_set.mro;have ki':=F.called_set.made;have Pb:=F.called_set.sub;refine wpAny_call (codeAny_of_tree ?_);show bq _ _ (callAny (.type "set") _) _ _ _;refine bG ⟨Code.quiet_builtin _ (by decide +kernel),Bz F.entry_type_call ?_⟩;rw[Around.under_plain (weight_type_call_type "set" [.ref l] []) rfl];have h1:=F.called_set.notType;have h2:=F.called_set.canCreate;have hct:=F.typeCall_set_1 (.ref l);repeat (any_goals (first|assumption|wp_step))
 refine codeAny_mono (wg (.ref l) (E:=E) (Q₁:=λobj fN=>obj=.ref s.heap.objs.size/\fN={ s with heap:=s.heap.push { cls:=.type "set",dict:=none,data:=.set #[] 0 (.fresh 0 0 (!w.params.followText "set-order")) } }) ⟨rfl,rfl⟩) λr fN hr=>?_
 cases r with
 |error e=>exact hr
 |ok fl =>
  cases fl with
  |ret obj =>
   obtain⟨rfl,rfl⟩:=hr;generalize kk':(!w.params.followText "set-order")=led at h0 ⊢;have hS:(s.heap.push { cls:=.type "set",dict:=none,data:=.set #[] 0 (.fresh 0 0 led) }).get? s.heap.objs.size=some { cls:=.type "set",dict:=none,data:=.set #[] 0 (.fresh 0 0 led) }:=kP _ rfl;have hT:Shared.TypeIs { s with heap:=s.heap.push { cls:=.type "set",dict:=none,data:=.set #[] 0 (.fresh 0 0 led) } } (.ref s.heap.objs.size) "set" := ⟨_,hS,rfl⟩
   have hli:=F.called_set.init.lookup;have hbi:=F.called_set.init.bind (.ref s.heap.objs.size);repeat (any_goals (first|assumption|wp_step))
   refine codeAny_mono (codeAny_call_builtin (R:=wants (λr HL=>r=.none/\∃ h' tk,HL={ s with heap:=h',toks:=tk }/\SI items.size h' /\ (∀ b o,b<s.heap.objs.size->s.heap.get? b=some o->h'.get? b=some o)) E) F.called_set.init.plain F.entry_set_init (check_set_init_1 hT ?_)) λgX' HL Vo=>?_
   ·obtain⟨ol,hol,sv,nl,hdl⟩:=hl;obtain⟨kn',gY',ko',gZ'⟩:=ol;simp only at sv hdl;subst sv;subst hdl;have ha':(s.heap.push { cls:=.type "set",dict:=none,data:=.set #[] 0 (.fresh 0 0 led) }).get? l=some { cls:=.type "list",dict:=gY',data:=.seq items nl,slots:=gZ' }:=gu _ hol;have kq':=F.sub_list_set;have kr':=F.sub_list_frozenset;have iA:(Value.type "list" == Value.type "dict")=false:=by decide
    have MX:(s.heap.push { cls:=.type "set",dict:=none,data:=.set #[] 0 (.fresh 0 0 led) }).IsList l items:=⟨_,ha',rfl,nl,rfl⟩
    unfold Builtin.«set.__init__» noKeywords Builtin.Frozenset.updateFrom;generalize hPI:pyIter=PI
    wp_walk
    subst hPI;refine wpAny_pyIter_list MX ?_;refine aw (wpAny_runValue ?_);have hlS:l<s.heap.objs.size:=eW hol;have hh3:A.in1.in1.in1.handled=none:=by simp[hh]
    have fT:(s.heap.push { cls:=.type "set",dict:=none,data:=.set #[] 0 (.fresh 0 0 led) }).objs.size=s.heap.objs.size+1:=Heap.size_push ..;have hh':l≠(s.heap.push { cls:=.type "set",dict:=none,data:=.set #[] 0 (.fresh 0 0 led) }).objs.size:=by rw[fT];exact gi (xk hlS)
    have I0:s.heap.objs.size∉[(s.heap.push { cls:=.type "set",dict:=none,data:=.set #[] 0 (.fresh 0 0 led) }).objs.size,l]:=by rw[fT];simp only[eB,nI,NQ,or_false,not_or];exact⟨gi (Nat.lt_succ_self _),LW hlS⟩
    refine zf (Walks.list hh3 _ l hh' items) s.heap.objs.size I0 SI (λi h h' hi hk=>keep i h h' hi λb o hb e=>hk b o ?_ e) (λi v s' E' Q' hP hi hq=>step i v s' E' Q' hP hi hq) (items.size-0) 0 _ (by lia) (fE _) ⟨⟨_,kP _ rfl,rfl,rfl⟩,(MX.push _)⟩ ?hS0 ?hR
    ·rw[fT];simp only[eB,NQ,or_false];exact gi (P8 hb)
    case hS0 =>
     exact h0 _ (gu _ hS) λb o e=>gu _ (gu _ e)
    case hR =>
     intro h' Jn Pg kD;show bq _ _ _ _ _ _;refine bG ?_;show bq _ _ (ret Value.none) _ _ _;refine bG ⟨rfl,h',Jn,rfl,Pg,λb o hb e=>?_⟩;refine kD b o ?_ (gi hb) (gu _ (gu _ e));rw[fT];simp only[eB,NQ,or_false];exact gi (xk hb)
   ·cases gX' with
    |error e=>exact Vo
    |ok hw' =>
     cases hw' with
     |ret r =>
      obtain⟨rfl,h',tk,rfl,Pg,kD⟩:=Vo;repeat (any_goals (first|assumption|wp_step))
      exact h _ _ Pg kD
     |_=>exact Vo.elim
  |_=>exact hr.elim
end
def qp:Manifest.owners.lookup (String.ofList ['r','o','t','a','r','e','t','i','_','t','e','s'].reverse)=some Manifest.sig_set_iterator:=by kernel_rfl
def bC:Slot "set_iterator" "__next__" "set_iterator.__next__" :=
 .of (owner := "set_iterator") (n := "__next__") (by rw[typeLookup_type,builtinLookup_eq_fast];kernel_rfl) (by decide +kernel) (by decide +kernel) (by decide +kernel) (by first|exact .inl (by decide +kernel)|exact .inr (by decide +kernel)) (by rw[isSubtype_type];kernel_rfl)
def lu:entryFor table "set_iterator.__next__" = some Builtin.«set_iterator.__next__» := entryFor_of_tree (by kernel_rfl)
def oM (a:ae):argsOk "set_iterator.__next__" ⟨[a],[]⟩:=by unfold argsOk;rw[signature?_of (n:=['_','_','t','x','e','n','_','_']) (by kernel_rfl) qp];kernel_rfl
def gD:Slot "set_iterator" "__iter__" "set_iterator.__iter__" :=
 .of (owner := "set_iterator") (n := "__iter__") (by rw[typeLookup_type,builtinLookup_eq_fast];kernel_rfl) (by decide +kernel) (by decide +kernel) (by decide +kernel) (by first|exact .inl (by decide +kernel)|exact .inr (by decide +kernel)) (by rw[isSubtype_type];kernel_rfl)
def kJ:entryFor table "set.__iter__" = some Builtin.«frozenset.__iter__» :=
 entryFor_alias (id' := "frozenset.__iter__") (by kernel_rfl) rfl (by decide +kernel) (by kernel_rfl)
theorem gP{α:Type}:∀ (l:List α) (i:Nat) (h:i<l.length),(l[i] :: l.eraseIdx i).Perm l
 |x :: l,0,_=>.refl _
 |x :: l,i+1,h=>by have ih:=gP l i (by simpa using h);exact(List.Perm.swap _ _ _).trans (ih.cons x)
theorem yl{α:Type}(next:Nat->Nat):∀ (fuel k:Nat) (left:List α) (out:Array α),left.length=fuel->(pickOrder.go next fuel k left out).toList.Perm (out.toList++left)
 |0,k,left,out,h=>by have:left=[]:=PK.mp h;subst this;unfold pickOrder.go;rw[vv]
 |fuel+1,k,left,out,h=>by unfold pickOrder.go;have eS:next k % left.length<left.length:=L4 _ (by lia);rw[kB eS];refine(yl next fuel (k+1) _ _ (by rw[LM];split<;>lia)).trans ?_;rw[px,Ap];exact List.Perm.append_left _ (gP _ _ eS)
def kh{α:Type}(next:Nat->Nat)(xs:Array α):(pickOrder next xs).toList.Perm xs.toList:=by unfold pickOrder;have:=yl next xs.size 0 xs.toList #[] (by simp);simpa using this
section
variable {prog:d5}{w:eC}{A:e7}{E:ae->ax->Prop}{s:ax}
def qt(hn:n≠0)(h:∀ i d,i<n->Q i { s with drawn:=d }):bq M A (choose src n) Q E s:=λΓ p _=>⟨hn,h _ _ (L4 _ (Nat.pos_of_ne_zero hn))⟩
def Fo{α:Type}(n:Nat):∀ (xs:List α) (s:ax) (Q:List α->ax->Prop),xs.length=n->(∀ ys d,ys.Perm xs->Q ys { s with drawn:=d })->bq (aI prog w) A (drawOrder n xs) Q E s:=by
 induction n with
 |zero =>intro xs s Q h q;have:xs=[]:=PK.mp h;subst this;exact bG (q [] s.drawn (.refl _))
 |succ n ih =>
  intro xs s Q h q
  cases xs with
  |nil=>cases h
  |cons x xs =>refine aw (qt (by simp) λi d hi=>?_);rw[kB hi];exact aw (ih _ _ _ (by rw[LM,if_pos hi];simp at h ⊢;lia) λys d' py=>bG (q _ d' ((py.cons _).trans (gP _ _ hi))))
def sP(h:df)(I:ah)(first:ae)(i:Nat)(a:ah)(n ep:Nat):Prop :=
 h.get? I=some { cls:=.type "set_iterator",dict:=none,data:=.fields #[first,.int i 0,.ref a,.int n 0,.int ep 0],slots:=#[] }
def CB(h:df)(a:ah)(es:Array (Int × ae))(ep:Nat)(t:SetTable):Prop:=∃ o,h.get? a=some o/\o.data=.set es ep t
variable {a I:ah}{es:Array (Int × ae)}{ep:Nat}{t:SetTable}{first:ae}{i n:Nat}
def sP.typeIs (h:sP s.heap I first i a n ep):s.TypeIs (.ref I) "set_iterator" := ⟨_,h,rfl⟩
def xX(hit:sP s.heap I first i a n ep)(h:bq (aI prog w) A.in1 (Builtin.«set_iterator.__next__» ⟨[.ref I],[]⟩) (λfin s'=>∃ v,fin=.done (.ret v)/\Q (some v) s') (λe s'=>bq (aI prog w) A (isInstance e (.type "StopIteration")) (λb E1=>b=true/\Q none E1) E s') s) :
  bq (aI prog w) A (pyNext (.ref I)) Q E s:=by
 refine aw (wpAny_attempt (NF hit.typeIs bC (Bn bC hit.typeIs lu ?_ (oM _))))
 refine vk h (λfin s' ⟨v,e,q⟩=>⟨v,e,bG q⟩) λe s' q=>?_;refine aw (vk q (λb E1 eI=>?_) λ_ _ x=>x);obtain⟨e,q⟩:=eI;subst e;exact bG q
def yF{P:Fin->ax->Prop}{Q:Option ae->ax->Prop}(hh:A.handled=none)(hQ:∀ h',(∀ b o,s.heap.get? b=some o->h'.get? b=some o)->Q none { s with heap:=h' }) :
  bq (aI prog w) A.in1 (newExc (.type "StopIteration") [] >>= λe=>raiseNew e) P (λe s'=>bq (aI prog w) A (isInstance e (.type "StopIteration")) (λb E1=>b=true/\Q none E1) E s') s:=by
 refine aw ?_;refine aw (rV ?_ (by size_fits));refine aw (wpAny_of_eq (by first|rfl|(simp only[firstArgMember];rfl)) ?_);refine rV ?_ (by size_fits);refine aw (wpAny_handled ?_);rw[show A.in1.handled=none from hh];refine aw (bG (wpAny_throw ?_));refine wpAny_isInstance ⟨_,kP _ rfl,rfl⟩ isSubtype_stop ⟨rfl,?_⟩;exact hQ _ λb o e=>gu _ (gu _ e)
def gr{Q:Option ae->ax->Prop}{slot:Nat}{r:Option (ae × Nat)}(hh:A.handled=none)(iA:a≠I)(hit:sP s.heap I (.int slot 0) i a es.size ep)(JA:CB s.heap a es ep t)(hf:t.fits es.size=true)(hr:∀ (A':e7) (E':ae->ax->Prop) (Q':Option (ae × Nat)->ax->Prop),Q' r s->bq (aI prog w) A' (setNext a slot i ep) Q' E' s)(h1:∀ x nx h',r=some (x,nx)->sP h' I (.int nx 0) (i+1) a es.size ep->Heap.SameBut I s.heap h'->Q (some x) { s with heap:=h' }) (h2:∀ h',r=none->(∀ b o,b≠I->s.heap.get? b=some o->h'.get? b=some o)->Q none { s with heap:=h' }) :
  bq (aI prog w) A (pyNext (.ref I)) Q E s:=by
 obtain⟨o,ho,hd⟩:=JA;refine xX hit ?_;refine aw (wpAny_of_eq rfl ?_);refine aw (wpAny_fieldsOf hit rfl ?_);refine aw (wpAny_setEntries_of ho hd hf ?_);rw[if_neg (by simp)];refine aw (hr _ _ _ ?_)
 cases r with
 |some p =>obtain⟨x,nx⟩:=p;exact aw (K2 hit (by simp) λg1 e1 wo=>aw (K2 e1 (by simp) λg2 e2 FD=>bG ⟨x,rfl,h1 x nx g2 rfl (by unfold sP;simpa[mE] using e2) (wo.trans FD)⟩))
 |none =>exact aw (K2 hit (by simp) λg1 e1 wo=>yF hh λh' k=>h2 h' rfl λb o hb e=>k b o (wo.extBut b o hb e))
def mj{Q:Option ae->ax->Prop}{T:ah}{ix:List Nat}{oT:Obj}{kT:Nat}(hh:A.handled=none)(hit:sP s.heap I (.ref T) i a es.size ep)(JA:CB s.heap a es ep t)(hf:t.fits es.size=true)(hT:s.heap.get? T=some oT) (hTd:oT.data=.seq (ix.map λ(k:Nat)=>Value.int k 0).toArray kT)(h1:∀ k e h',ix[i]? = some k->es[k]? = some e->sP h' I (.ref T) (i+1) a es.size ep->Heap.SameBut I s.heap h'->Q (some e.2) { s with heap:=h' }) (y9:∀ k∈ix,k<es.size) (h2:∀ h',ix[i]? = none->(∀ b o,b≠I->s.heap.get? b=some o->h'.get? b=some o)->Q none { s with heap:=h' }) :
  bq (aI prog w) A (pyNext (.ref I)) Q E s:=by
 obtain⟨o,ho,hd⟩:=JA;refine xX hit ?_;refine aw (wpAny_of_eq rfl ?_);refine aw (wpAny_fieldsOf hit rfl ?_);refine aw (wpAny_setEntries_of ho hd hf ?_);rw[if_neg (by simp)];refine aw (wpAny_seqItems hT hTd ?_);simp only[NW,List.getElem?_toArray,kM]
 cases hk:ix[i]? with
 |some k =>have fm:=y9 k (k7 hk);refine aw ?_;refine aw (zD ho hd hf ?_);simp only[NW];rw[if_neg (by simp),BG fm];exact bG (aw (K2 hit (by simp) λg1 e1 wo=>bG ⟨_,rfl,h1 k es[k] g1 hk (BG fm) (by unfold sP;simpa[mE] using e1) wo⟩))
 |none =>exact aw (K2 hit (by simp) λg1 e1 wo=>aw (K2 e1 (by simp) λg2 e2 FD=>yF hh λh' k=>h2 h' hk λb o hb e=>k b o ((wo.trans FD).extBut b o hb e)))
def oY (a:ae):argsOk "set_iterator.__iter__" ⟨[a],[]⟩:=by unfold argsOk;rw[signature?_of (n:=['_','_','r','e','t','i','_','_']) (by kernel_rfl) qp];kernel_rfl
def kI:entryFor table "set_iterator.__iter__" = some Builtin.«dict_keyiterator.__iter__» :=
 entryFor_alias (id' := "dict_keyiterator.__iter__") (by kernel_rfl) rfl (by decide +kernel) (by kernel_rfl)
def jK(hit:sP s.heap I first i a n ep)(h:Q (.ref I) s):bq (aI prog w) A (pyIter (.ref I)) Q E s:=by exact wpAny_pyIter_slot hit.typeIs gD (Bn gD hit.typeIs kI (bG ⟨_,rfl, "set_iterator",_,hit.typeIs,bC.lookup,h⟩) (oY _))
def p8 {slot:Nat} {Q:Option (ae × Nat)->ax->Prop} (hb:w.params.followText "set-order" = true) (JA:CB s.heap a es ep t) (hf:t.fits es.size=true)(h:Q (((pickOrder (w.params.setOrder a ep) es)[i]?).map λe=>(e.2,slot)) s):bq (aI prog w) A (setNext a slot i ep) Q E s:=by
 obtain⟨o,ho,hd⟩:=JA;refine aw (zD ho hd hf ?_);refine aw (aw (Lv (bG ?_)));rw[if_pos (by exact hb),if_neg (by simp)];refine aw ?_;refine aw (zD ho hd hf ?_);refine aw (aw (Lv (bG ?_)));rw[if_pos (by exact hb)];exact aw (Lv (bG (bG h)))
def lF {slot:Nat} {Q:Option (ae × Nat)->ax->Prop} (hb:w.params.followText "set-order" = false) (hl:t.led=true) (Nv:(!t.plain && decide (es.size>1))=false) (JA:CB s.heap a es ep t) (hf:t.fits es.size=true)(h:Q (match es[below t.place slot]?,t.place[below t.place slot]? with
  |some (_,x),some j=>some (x,j+1)
  |_,_=>none) s):bq (aI prog w) A (setNext a slot i ep) Q E s:=by
 obtain⟨o,ho,hd⟩:=JA;refine aw (zD ho hd hf ?_);refine aw (aw (Lv (bG ?_)));rw[if_neg (by rw[show(aI prog w).w.params.followText "set-order" = false from hb];exact kf)];have e0:mJ es t=(!t.plain && decide (es.size>1)):=rfl;unfold mJ at e0;rw[e0,Nv,if_neg kf];refine aw ?_;show bq _ _ (if (!t.led && !es.isEmpty)=true then unsupported "set:maker-not-led" else pure ()) _ _ s;rw[if_neg (by rw[hl];simp)];exact bG (bG h)
def PV(ys:List (Int × ae))(i:Nat)(v:ae):Prop:=∃ e,ys[i]? = some e/\v=e.2
def sP.keep(x:sP h I first i a n ep)(e:∀ o,h.get? I=some o->h'.get? I=some o):sP h' I first i a n ep:=e _ x
def CB.keep(x:CB h a es ep t)(e:∀ o,h.get? a=some o->h'.get? a=some o):CB h' a es ep t:=let ⟨o,ho,r⟩:=x;⟨o,e _ ho,r⟩
def wj (hh:A.handled=none) (iA:a≠I) (hb:w.params.followText "set-order" = true) (hf:t.fits es.size=true) :
  Walks prog w A I [I,a] [I] es.size (PV (pickOrder (w.params.setOrder a ep) es).toList) (λi h=>(∃ slot:Nat,sP h I (.int slot 0) i a es.size ep)/\CB h a es ep t) where
 sub:=λb hb=>by simp at hb;simp[hb]
 frame:=λ_ _ _ ⟨⟨sl,x⟩,y⟩ hk=>⟨⟨sl,x.keep λo e=>hk I (by simp) o e⟩,y.keep λo e=>hk a (by simp) o e⟩
 item:=λi s Q E hi ⟨⟨sl,x⟩,y⟩ hQ=>by
  have hlen:(pickOrder (w.params.setOrder a ep) es).size=es.size:=by have:=(kh (w.params.setOrder a ep) es).length_eq;simpa using this
  refine gr hh iA x y hf (r:=((pickOrder (w.params.setOrder a ep) es)[i]?).map λe=>(e.2,sl)) (λA' E' Q' q=>p8 hb y hf q) (λv nx h' e x' sb=>?_) λh' e k=>?_
  ·rw[BG (by lia)] at e;cases e;exact hQ _ h' s.toks ⟨_,by rw[mh];exact BG (by lia),rfl⟩ ⟨⟨_,x'⟩,y.keep λo e=>sb.extBut _ _ iA e⟩ λb o hb e=>sb.extBut b o (λh=>hb (by simp[h])) e
  ·rw[BG (by lia)] at e;cases e
 done:=λs Q E ⟨⟨sl,x⟩,y⟩ hQ=>by
  have hlen:(pickOrder (w.params.setOrder a ep) es).size=es.size:=by have:=(kh (w.params.setOrder a ep) es).length_eq;simpa using this
  refine gr hh iA x y hf (r:=((pickOrder (w.params.setOrder a ep) es)[es.size]?).map λe=>(e.2,sl)) (λA' E' Q' q=>p8 hb y hf q) (λv nx h' e x' sb=>?_) λh' e k=>?_
  ·rw[EI (by lia)] at e;cases e
  ·exact hQ h' s.toks λb o hb e=>k b o (λh=>hb (by simp[h])) e
 self:=λ_ _ _ _ ⟨⟨sl,x⟩,y⟩ hQ=>jK x hQ
def slotAt(t:SetTable):Nat->Nat
 |0=>0
 |i+1=>t.place.getD i 0+1
def iu(U:Up t.place)(h:i<=t.place.size):below t.place (slotAt t i)=i:=by
 cases i with
 |zero =>
  obtain⟨_,b,_⟩:=aU U 0;by_cases z:below t.place 0=0
  ·exact z
  ·exact absurd (b 0 (Nat.pos_of_ne_zero z)) (GO _)
 |succ i=>exact uL U (by lia)
def ur (hh:A.handled=none) (iA:a≠I) (hb:w.params.followText "set-order" = false) (hl:t.led=true) (Nv:(!t.plain && decide (es.size>1))=false) (U:Up t.place) (hz:t.place.size=es.size) (hf:t.fits es.size=true) :
  Walks prog w A I [I,a] [I] es.size (PV es.toList) (λi h=>sP h I (.int (slotAt t i:Nat) 0) i a es.size ep/\CB h a es ep t) where
 sub:=λb hb=>by simp at hb;simp[hb]
 frame:=λ_ _ _ ⟨x,y⟩ hk=>⟨x.keep λo e=>hk I (by simp) o e,y.keep λo e=>hk a (by simp) o e⟩
 item:=λi s Q E hi ⟨x,y⟩ hQ=>by
  have FC:=iu (t:=t) U (i:=i) (by lia);have e1:es[below t.place (slotAt t i)]? = some es[i]:=by rw[FC];exact BG hi
  have e2:t.place[below t.place (slotAt t i)]? = some (t.place.getD i 0):=by rw[FC];exact xZ (by lia)
  refine gr hh iA x y hf (r:=some (es[i].2,t.place.getD i 0+1)) (λA' E' Q' q=>lF hb hl Nv y hf (by rw[e1,e2];exact q)) (λv nx h' e x' sb=>?_) λh' e k=>nomatch e;cases e;exact hQ _ h' s.toks ⟨_,by rw[mh];exact BG hi,rfl⟩ ⟨x',y.keep λo e=>sb.extBut _ _ iA e⟩ λb o hb e=>sb.extBut b o (λh=>hb (by simp[h])) e
 done:=λs Q E ⟨x,y⟩ hQ=>by
  have FC:=iu (t:=t) U (i:=es.size) (by lia);have e1:es[below t.place (slotAt t es.size)]? = none:=by rw[FC];exact EI (cx _)
  refine gr hh iA x y hf (r:=none) (λA' E' Q' q=>lF hb hl Nv y hf (by rw[e1];exact q)) (λv nx h' e x' sb=>nomatch e) λh' e k=>?_;exact hQ h' s.toks λb o hb e=>k b o (λh=>hb (by simp[h])) e
 self:=λ_ _ _ _ ⟨x,y⟩ hQ=>jK x hQ
def vf{T:ah}{ix:List Nat}{kT:Nat}(hh:A.handled=none)(iA:a≠I)(hTI:T≠I)(hf:t.fits es.size=true)(hp:ix.Perm (List.range es.size)) :
  Walks prog w A I [I,a,T] [I] es.size (PV (ix.filterMap λk=>es[k]?)) (λi h=>sP h I (.ref T) i a es.size ep/\CB h a es ep t/\∃ o,h.get? T=some o/\o.data=.seq (ix.map λ(k:Nat)=>Value.int k 0).toArray kT):=by
 have hlen:ix.length=es.size:=by simpa using hp.length_eq
 have y9:∀ k∈ix,k<es.size:=λk hk=>n5.mp (hp.mem_iff.mp hk);obtain⟨f1,f2⟩:=su (l:=ix) (f:=λk=>es[k]?) λk hk=>by simp[y9 k hk]
 exact {
  sub:=λb hb=>by simp at hb;simp[hb]
  frame:=λ_ _ _ ⟨x,y,o,z,zd⟩ hk=>⟨x.keep λo e=>hk I (by simp) o e,y.keep λo e=>hk a (by simp) o e,o,hk T (by simp) o z,zd⟩
  item:=λi s Q E hi ⟨x,y,o,z,zd⟩ hQ=>by
   refine mj hh x y hf z zd (λk e h' e1 e2 x' sb=>?_) y9 λh' e k=>?_
   ·refine hQ _ h' s.toks ⟨e,by rw[f2,e1];exact e2,rfl⟩ ⟨x',y.keep λo e=>sb.extBut _ _ iA e,o,sb.extBut _ _ hTI z,zd⟩ λb o hb e=>sb.extBut b o (λh=>hb (by simp[h])) e
   ·rw[kB (by lia)] at e;cases e
  done:=λs Q E ⟨x,y,o,z,zd⟩ hQ=>by
   refine mj hh x y hf z zd (λk e h' e1 e2 x' sb=>?_) y9 λh' e k=>?_
   ·rw[tj (by lia)] at e1;cases e1
   ·exact hQ h' s.toks λb o hb e=>k b o (λh=>hb (by simp[h])) e
  self:=λ_ _ _ _ ⟨x,_⟩ hQ=>jK x hQ }
end
section
variable {prog:d5}{w:eC}{A:e7}{E:ae->ax->Prop}{s:ax}{a:ah}{o:Obj}{es:Array (Int × ae)}{ep:Nat}{t:SetTable}
def zO (hh:A.handled=none) (ho:s.heap.get? a=some o) (hex:o.ExactSet) (hd:o.data=.set es ep t) (hf:t.fits es.size=true) (U:Up t.place) (hz:t.place.size=es.size) (hl:t.led=(!w.params.followText "set-order")) (hn:es.size<=bX)(h:∀ (I:ah) (h2:df) d (fp:List ah) (St:Nat->df->Prop) (ys:List (Int × ae)),(∀ b o,s.heap.get? b=some o->h2.get? b=some o)->s.heap.objs.size<=I->(∀ b∈fp,b=a\/s.heap.objs.size<=b)->ys.Perm es.toList ->
   Walks prog w A I fp [I] es.size (PV ys) St->St 0 h2->Q (.ref I) { s with heap:=h2,drawn:=d }):bq (aI prog w) A (pyIter (.ref a)) Q E s:=by
 have hT:s.TypeIs (.ref a) "set" := ⟨o,ho,hex.1⟩
 have eS:a<s.heap.objs.size:=eW ho;refine wpAny_pyIter_slot hT F.slot_set_iter (Bn F.slot_set_iter hT kJ ?_ (F.args_set_iter_1 _));refine aw (wpAny_of_eq rfl ?_);refine aw ?_;refine aw (wpAny_setEntries_of ho hd hf (bG ?_));refine aw ?_;refine aw (zD ho hd hf ?_);refine aw (aw (Lv (bG ?_)));refine bG ?_;have e0:mJ es t=(!t.plain && decide (es.size>1)):=rfl;unfold mJ at e0;show bq _ _ (if (!w.params.followText "set-order" && (!t.plain && decide (es.size>1)))=true then _ else _) _ _ s
 cases hb:w.params.followText "set-order" with
 |true =>
  refine aw (bG ?_);refine aw (wpAny_setEpoch_of ho hd hf ?_);refine aw (rV ?_);refine bG ⟨_,rfl, "set_iterator",_,⟨_,kP _ rfl,rfl⟩,bC.lookup,?_⟩;have og:(s.heap.push { cls:=.type "set_iterator",data:=.fields #[mE 0,mE 0,.ref a,mE es.size,mE ep] }).get? a=some o:=gu _ ho;exact h s.heap.objs.size _ s.drawn _ _ _ (λb o e=>gu _ e) (cx _) (λb hb=>by
   rcases eB.mp hb with rfl|hb
   ·exact .inr (cx _)
   ·exact .inl (nI.mp hb)) (kh _ _) (wj hh (gi eS) hb hf) ⟨⟨0,kP _ rfl⟩,o,og,hd⟩
 |false =>
  cases Nv:(!t.plain && decide (es.size>1)) with
  |false =>
   refine aw (bG ?_);refine aw (wpAny_setEpoch_of ho hd hf ?_);refine aw (rV ?_);refine bG ⟨_,rfl, "set_iterator",_,⟨_,kP _ rfl,rfl⟩,bC.lookup,?_⟩;have og:(s.heap.push { cls:=.type "set_iterator",data:=.fields #[mE 0,mE 0,.ref a,mE es.size,mE ep] }).get? a=some o:=gu _ ho;exact h s.heap.objs.size _ s.drawn _ _ _ (λb o e=>gu _ e) (cx _) (λb hb=>by
    rcases eB.mp hb with rfl|hb
    ·exact .inr (cx _)
    ·exact .inl (nI.mp hb)) (.refl _) (ur hh (gi eS) hb (by rw[hl,hb];rfl) Nv U hz hf) ⟨kP _ rfl,o,og,hd⟩
  |true =>
   refine aw (Fo es.size (List.range es.size) s _ (by simp) λix d hp=>?_);refine aw (rV ?_ ?hzz);case hzz =>
    have:=hp.length_eq;rw[PY] at this;show(ix.map λ(i:Nat)=>mE i).toArray.size<=bX;rw[iF,b6,this];exact hn
   have v3:(s.heap.push { cls:=.type "tuple",data:=.seq (ix.map λ(i:Nat)=>mE i).toArray }).get? a=some o:=gu _ ho;refine aw (wpAny_setEpoch_of v3 hd hf ?_);refine aw (rV ?_);refine bG ⟨_,rfl, "set_iterator",_,⟨_,kP _ rfl,rfl⟩,bC.lookup,?_⟩;have D6:(s.heap.push { cls:=.type "tuple",data:=.seq (ix.map λ(i:Nat)=>mE i).toArray }).objs.size=s.heap.objs.size+1:=Heap.size_push ..;refine h (s.heap.push { cls:=.type "tuple",data:=.seq (ix.map λ(i:Nat)=>mE i).toArray }).objs.size _ d [(s.heap.push { cls:=.type "tuple",data:=.seq (ix.map λ(i:Nat)=>mE i).toArray }).objs.size,a,s.heap.objs.size] _ (ix.filterMap λk=>es[k]?) (λb o e=>gu _ (gu _ e)) (by rw[D6];exact EH _) (λb hb=>?_) ?_ (vf hh (by rw[D6];exact gi (xk eS)) (by rw[D6];exact gi (Nat.lt_succ_self _)) hf hp) ⟨kP _ rfl,⟨o,gu _ v3,hd⟩,_,gu _ (kP _ rfl),rfl⟩
   ·rcases eB.mp hb with rfl|hb
    ·exact .inr (by rw[D6];exact EH _)
    ·rcases eB.mp hb with rfl|hb
     ·exact .inl rfl
     ·rw[nI.mp hb];exact .inr (cx _)
   ·have:=hp.filterMap λk=>es[k]?;rw[ug] at this;exact this
def zc (hT:s.TypeIs (.ref a) "set") (h:Q false s):bq (aI prog w) A (Builtin.List.listLengthHint (.ref a)) Q E s:=by
 refine aw (wpAny_specialOf hT PySem.F.slot_set_len.lookup ?_);generalize hid:("set.__len__" : String)=id0
 wp_delta
 subst hid;exact aw (wpAny_isInstance (b:=true) hT (by rw[isSubtype_type];kernel_rfl) (wpAny_ite_split (λO6=>absurd O6 (by decide)) (λ_=>wpAny_ite_split (λ_=>aw (wpAny_typeOf hT (bG h))) (λO6=>absurd (by decide +kernel) O6))))
def Eo {R:Result->ax->Prop} (hh:A.handled=none) (ho:s.heap.get? a=some o) (hex:o.ExactSet) (hd:o.data=.set es ep t) (hf:t.fits es.size=true) (U:Up t.place) (hz:t.place.size=es.size) (hl:t.led=(!w.params.followText "set-order")) (hn:es.size<=bX)(S:ah) (hSa:S≠a) (res:ae) (c₀:Nat) (hS:s.heap.get? S=some { cls:=.type "list",data:=.seq #[] c₀ }) (hR:∀ h' tk d AV c' ys,(∀ b o,b≠S->s.heap.get? b=some o->h'.get? b=some o)->h'.get? S=some { cls:=.type "list",dict:=none,data:=.seq AV c',slots:=#[] }->ys.Perm es.toList->ItemsOf (PV ys) AV es.size->R (.ok (.ret res)) { s with heap:=h',toks:=tk,drawn:=d }) :
  bq (aI prog w) A.in1 (Builtin.List.listExtendWith (.ref S) (.ref a) res) (λfin s'=>match fin with|.done f=>R (.ok f) s'|.again c'=>c'.quiet=true/\codeAny (aI prog w) A c' R s') (λe s'=>R (.error e) s') s:=by
 have hT:s.TypeIs (.ref a) "set" := ⟨o,ho,hex.1⟩
 have hSl:=eW hS;refine aw (wpAny_typeOf hT ?_);have h1:Builtin.List.listSameRef (.ref S) (.ref a)=false:=by simp[Builtin.List.listSameRef,hSa]
 simp only[h1,show(Value.type "set" == Value.type "list")=false by decide,show(Value.type "set" == Value.type "tuple")=false by decide,Bool.or_false,pf,if_false];refine aw (zO hh ho hex hd hf U hz hl hn λI h2 d fp St ys kp hI hfp hp W st=>?_);have I0:S∉fp:=λhm=>by
  rcases hfp S hm with z|z
  ·exact hSa z
  ·exact absurd hSl (Nat.not_lt.mpr z)
 have key:∀ h (c₁ tk:Nat),St 0 h->(∀ b o,b≠S->s.heap.get? b=some o->h.get? b=some o) ->
   h.get? S=some { cls:=.type "list",data:=.seq #[] c₁ }->codeAny (aI prog w) A (.builtin "list.extend.loop" ⟨[.ref S,.ref I,res],[]⟩) R { s with heap:=h,toks:=tk,drawn:=d }:=by
  intro h c₁ tk mM hk Ph;refine codeAny_extend_loopS W.toS hn S I0 res es.size 0 _ #[] c₁ rfl (fE _) mM Ph (ItemsOf.nil _) λs' AV c' hm Pg y8=>?_;rw[Moved.eq_with hm];refine hR s'.heap s'.toks d AV c' ys (λb o hb e=>hm.heap b o (λOG=>?_) (hk b o hb e)) Pg hp y8;rcases eB.mp OG with e'|OG
  ·exact hb e'
  ·exact absurd (eW e) (by rw[nI.mp OG];exact Nat.not_lt.mpr hI)
 have Ph:h2.get? S=some { cls:=.type "list",data:=.seq #[] c₀ }:=kp _ _ hS;refine aw (tf (zc ⟨o,kp _ _ ho,hex.1⟩ ?_));refine wpAny_ite_split (λ_=>?_) (λ_=>bG ⟨Ee PySem.F.plain_extend_loop _,key _ c₀ _ st (λb o _ e=>kp b o e) Ph⟩);refine aw (CL ?_);refine aw ?_;refine aw (wpAny_updateSeq Ph rfl ?_);have aJ':=EG (Obj.mapSeq (·.push Value.none)) Ph rfl;refine wpAny_updateSeq aJ' rfl ?_;have hH':=EG (Obj.mapSeq (·.pop)) aJ' rfl;refine bG ⟨Ee PySem.F.plain_extend_loop _,key _ _ _ ?_ (λb o hb e=>?_) hH'⟩
 ·refine W.frame 0 _ _ st λb hb o e=>?_;have Pa:b≠S:=λh=>I0 (h ▸ hb);exact(NS _ _ (Ne.symm Pa)).trans ((NS _ _ (Ne.symm Pa)).trans e)
 ·exact(NS _ _ (Ne.symm hb)).trans ((NS _ _ (Ne.symm hb)).trans (kp _ _ e))
def uO(h:ItemsOf (PV ys) acc n)(hn:ys.length=n):acc.toList=ys.map (·.2):=by
 apply Dp;intro i;rw[kM];by_cases hi:i<n
 ·have ki:i<acc.size:=by rw[h.1];exact hi
  have e1:acc[i]? = some acc[i]:=BG ki;obtain⟨e,he,hv⟩:=h.2 i acc[i] e1;rw[mh,e1,he,hv];rfl
 ·rw[tj (by rw[BH,h.1];lia),tj (by lia)];rfl
def jc {R:Result->ax->Prop} (hh:A.handled=none) (ho:s.heap.get? a=some o) (hex:o.ExactSet) (hd:o.data=.set es ep t) (hf:t.fits es.size=true) (U:Up t.place) (hz:t.place.size=es.size) (hl:t.led=(!w.params.followText "set-order")) (hn:es.size<=bX)(hR:∀ h' tk d AV c' ys,(∀ b o,s.heap.get? b=some o->h'.get? b=some o)->h'.get? s.heap.objs.size=some { cls:=.type "list",dict:=none,data:=.seq AV c',slots:=#[] }->ys.Perm es.toList->ItemsOf (PV ys) AV es.size->R (.ok (.ret (.ref s.heap.objs.size))) { s with heap:=h',toks:=tk,drawn:=d }) :
  codeAny (aI prog w) A (.builtin "proto.collect" ⟨[.ref a],[]⟩) R s:=by
 have eS:a<s.heap.objs.size:=eW ho;have hS:(s.heap.push { cls:=.type "list",data:=.seq ([]:List ae).toArray }).get? s.heap.objs.size=some { cls:=.type "list",data:=.seq ([]:List ae).toArray }:=kP _ rfl;refine Bz F.entry_proto_collect ?_;refine aw (rV ?_);refine bG ⟨Ee F.plain_list_iadd _,Bz F.entry_list_iadd ?_⟩;exact Eo hh (gu _ ho) hex hd hf U hz hl hn s.heap.objs.size (LW eS) _ 0 hS λh' tk d AV c' ys kp eo hp ia =>
  hR h' tk d AV c' ys (λb o e=>kp b o (gi (eW e)) (gu _ e)) eo hp ia
def jN (hh:A.handled=none) (ho:s.heap.get? a=some o) (hex:o.ExactSet) (hd:o.data=.set es ep t) (hf:t.fits es.size=true) (U:Up t.place) (hz:t.place.size=es.size) (hl:t.led=(!w.params.followText "set-order")) (hn:es.size<=bX)(hQ:∀ h' tk d vs,(∀ b o,s.heap.get? b=some o->h'.get? b=some o)->s.heap.objs.size<=h'.objs.size->vs.Perm (es.toList.map (·.2))->Q vs { s with heap:=h',toks:=tk,drawn:=d }):bq (aI prog w) A (collect (.ref a)) Q E s:=by
 refine aw (wpAny_runValue (jc hh ho hex hd hf U hz hl hn λh' tk d acc c ys kp eo hp ia=>?_));refine aw (wpAny_load eo ?_);refine bG (hQ h' tk d _ kp (xl (eW eo)) ?_);rw[uO ia (by rw[hp.length_eq];simp)];exact hp.map _
end
end TS
namespace sC
open PySem PyProof.Rows
section
variable {prog:d5}{w:eC}{A:e7}{E:ae->ax->Prop}{s:ax}{κ:pd}{r:ae->Int}{P:ae->Prop}
def jh{R:List ae->Prop}(UW:∀ (A':e7) (E':ae->ax->Prop) (Q':List ae->ax->Prop),A'.handled=A.handled->(∀ vs h1 tk d,R vs->(∀ b o,s.heap.get? b=some o->h1.get? b=some o)->s.heap.objs.size<=h1.objs.size->Q' vs { s with heap:=h1,toks:=tk,drawn:=d })->bq (aI prog w) A' (collect v) Q' E' s) (fT:∀ vs,R vs->vs.length<=bX) (hP:∀ vs,R vs->∀ v∈vs,P v) (hk:∀ vs,R vs->2<=vs.length->∀ (A':e7) (E':ae->ax->Prop) (s':ax),(∀ b o,s.heap.get? b=some o->s'.heap.get? b=some o)->∀ (Q:pd->ax->Prop),Q κ s'->bq (aI prog w) A' (keyKind' vs.toArray) Q E' s') (C:∀ (s':ax),(∀ b o,s.heap.get? b=some o->s'.heap.get? b=some o)->mS prog w A.in1.in1 s' κ r P) (h:∀ (vs:List ae) (h':df) (a:ah) (out:List ae) (n tk:Nat) d,R vs->out.Perm vs->(out.Pairwise λx y=>r x<=r y)->(∀ b o,s.heap.get? b=some o->h'.get? b=some o)->s.heap.objs.size<=a->h'.get? a=some (pe "list" out.toArray n)->Q (.ref a) { s with heap:=h',toks:=tk,drawn:=d }) :
  bq (aI prog w) A (call (.builtin "sorted") [v]) Q E s:=by
 refine Calls.call_function_entry kind_sorted plain_sorted entry_sorted (args_sorted1 _) ?_;refine aw (bG ?_);refine aw (UW _ _ _ rfl λvs h1 tk d hR kp hz=>?_);have xD:=fT vs hR;refine aw (wpAny_newList ?_ (by simpa using xD));have yy:(h1.push (pe "list" vs.toArray 0)).get? h1.objs.size=some (pe "list" vs.toArray 0):=kP _ rfl;have old:∀ b o,s.heap.get? b=some o->(di (h1.push (pe "list" vs.toArray 0)) h1.objs.size vs).get? b=some o:=λb o e=>by have eS:b<h1.objs.size:=eW (kp b o e);rw[fY (gi eS) (by rw[DF];exact xk eS)];exact gu _ (kp b o e)
 refine aw (tf (Bn slot_list_sort ⟨_,yy,rfl⟩ entry_list_sort (fc yy xD (hP vs hR) (λh2=>hk vs hR h2 _ _ _ old) (λh2=>C _ old) λout a1 a2=>⟨_,rfl,?_⟩) (args_list_sort _)))
 obtain⟨n,e⟩:=sortedHeap_at yy;refine bG ⟨_,rfl,h vs _ h1.objs.size out.toList n tk d hR a1 a2 (λb o e=>?_) hz (by rw[Qg];exact e)⟩;have eS:b<h1.objs.size:=eW (kp b o e);rw[sortedHeap_old (gi eS) (by rw[DF];exact xk eS)];exact gu _ (kp b o e)
end
end sC
namespace TS
open PySem PySem.SetTable PyProof.Rows
section
variable {prog:d5}{w:eC}{K:Type}[DecidableEq K]{knd:KeyKind prog w K}{A:e7}{E:ae->ax->Prop}{s:ax}
def sJ{α:Type}(led:Bool):TI (α:=α) (SetTable.fresh 0 0 led) #[] :=
 ⟨⟨3,rfl,cx _⟩,rfl,λi j h hj=>absurd hj (GO _),λi hi=>absurd hi (GO _),rfl,(by show 0*5<7*3;decide),λi h x e=>by simp at e⟩
def qj{l:ah}{items:Array ae}{xs:List (List K × ah)}{Q:ae->ax->Prop}(hh:A.handled=none)(hu:A.units+8<e9)(hl:s.heap.IsList l items)(hi:items.toList=xs.map λp=>Value.ref p.2)(oD:∀ p∈xs,IsTupleKey knd s.heap p.1 p.2) (hz:xs.length<=1000) (ub:∀ k v,knd.is k v=true->v.scannable=true)(h:∀ h' tk ks,Nt knd h' s.heap.objs.size ks->(∀ k,k∈ks.map (·.1)↔k∈xs.map (·.1))->(∀ p∈ks,p∈xs)->(∀ b o,s.heap.get? b=some o->h'.get? b=some o)->Q (.ref s.heap.objs.size) { s with heap:=h',toks:=tk }) :
  bq (aI prog w) A (call (.type "set") [.ref l]) Q E s:=by
 have lt:∀ p∈xs,p.2<s.heap.objs.size:=λp hp=>by obtain⟨o,_,_,ho,_⟩:=oD p hp;exact eW ho
 refine iM hh hl (λi h=>∃ ks,Nt knd h s.heap.objs.size ks/\(∀ k,k∈ks.map (·.1)↔k∈(xs.take i).map (·.1))/\(∀ p∈ks,p∈xs)/\ks.length<=i/\∀ p∈xs,IsTupleKey knd h p.1 p.2) (λh e k=>?_) (λi h h' ⟨ks,S,m1,m2,m3,m4⟩ k=>?_) (λi v s' E' Q' hv ⟨ks,S,m1,m2,m3,m4⟩ q=>?_) λh' tk ⟨ks,S,m1,m2,m3,m4⟩ k=>?_
 ·exact⟨[],⟨⟨_,#[],0,_,e,⟨rfl,rfl,rfl⟩,rfl,sJ _,(by show 7<=8191;decide),rfl,rfl⟩,n9,λp hp=>nomatch hp⟩,λk=>by simp,(λp hp=>nomatch hp),cx _,λp hp=>IsTupleKey.fz (oD p hp) λo ho=>k _ _ ho⟩
 ·obtain⟨⟨o,es,ep,t,ho,r⟩,nd,is⟩:=S;exact⟨ks,⟨⟨o,es,ep,t,k _ _ (cx _) ho,r⟩,nd,λp hp=>IsTupleKey.fz (is p hp) λo ho=>k _ _ (xl (lt p (m2 p hp))) ho⟩,m1,m2,m3,λp hp=>IsTupleKey.fz (m4 p hp) λo ho=>k _ _ (xl (lt p hp)) ho⟩
 ·have wq:items.toList[i]? = some v:=by rw[mh];exact hv
  rw[hi,kM] at wq
  cases ex:xs[i]? with
  |none=>rw[ex] at wq;cases wq
  |some p =>
   rw[ex] at wq;cases wq;have hp:=k7 ex;have hil:i<xs.length:=(iE.mp ex).1;have Vp:(xs.take (i+1)).map (·.1)=(xs.take i).map (·.1)++[p.1]:=by rw[Dx,ex,AA];rfl
   refine tf (aw (wpAny_pyHash_tuple (by show A.units+3<e9;lia) (m4 p hp) ?_));refine Hl S (m4 p hp) (by lia) (by show A.units+3<e9;lia) ub λb h' dE sb S' c=>?_;refine q b h' _ sb ⟨dE,S',λk=>?_,λp' i5=>?_,?_,λp' i5=>IsTupleKey.fz (m4 p' i5) λo ho=>sb.extBut _ _ (gi (lt p' i5)) ho⟩
   ·rw[Vp,eR,nI,<- m1];rcases c with⟨c1,rfl⟩|⟨c1,c2⟩
    ·exact⟨.inl,λz=>z.elim id λe=>e ▸ c1⟩
    ·rw[(c2.map _).mem_iff,gd,eB];exact⟨λz=>z.symm,λz=>z.symm⟩
   ·rcases c with⟨c1,rfl⟩|⟨c1,c2⟩
    ·exact m2 p' i5
    ·rcases eB.mp (c2.mem_iff.mp i5) with rfl|z
     ·exact hp
     ·exact m2 p' z
   ·rcases c with⟨c1,rfl⟩|⟨c1,c2⟩
    ·lia
    ·rw[c2.length_eq];simp;lia
 ·have e:items.size=xs.length:=by have:=congrArg List.length hi;simpa using this
  rw[e,Au] at m1;exact h h' tk ks S m1 m2 λb o ho=>k b o (eW ho) ho
end
end TS
section
open PySem PySem.Spec PyProof.Rows
namespace L2
section
variable {X:Cx}{pins:List (ah × Obj)}{σ:St}{H:Hp}{s:ax}
def Inv.drawn{d}(I:Inv X pins σ H s):Inv X pins σ H { s with drawn:=d }:=⟨I.ok,I.os,I.bare,I.base,I.loc,I.cell,I.free,I.AI,I.pin,I.b9,I.len⟩
def o_:∀ (k:Key) (v:ae),(kg prog w).is k v=true->v.scannable=true:=λk v h=>by rcases AB h with⟨i,t,rfl,rfl⟩|⟨x,t,rfl,rfl⟩<;>rfl
def eQ(K:aE):V->Hp->VK->Prop:=λx H Q=>match x with
 |.ref p=>∃ ys ks b0 sh,fh K H p ys/\ys.length<=1000/\bR H ys ks/\(∀ k∈ks,gX k=b0 :: sh) /\
   ∀ zs ms l,bR H zs ms->ms.Nodup->(∀ k,k∈ms↔k∈ks)->(ms.Pairwise λa b=>fv b a=false)->H l=none->Q (.ref l) (upd H l (.lst zs))
 |_=>False
def bR.pairs(h:bR H ys ks)(hv:Vals ys vs):∃ xs:List (List Key × ah),vs=xs.map (λp=>Value.ref p.2)/\xs.map (·.1)=ks/\∀ p∈xs,H p.2=some (.tup (p.1.map kV)):=by
 induction ys generalizing ks vs with
 |nil=>exact⟨[],Paired.n0 hv,(Paired.n0 h).symm,λp hp=>nomatch hp⟩
 |cons y ys ih =>
  obtain⟨k,ks,rfl,⟨b,rfl,g⟩,t⟩:=Paired.c h;obtain⟨v,vs,rfl,rfl,rs⟩:=Paired.c hv;obtain⟨xs,e1,e2,e3⟩:=ih t rs;refine⟨(k,b) :: xs,by rw[e1];rfl,by rw[<- e2];rfl,λp hp=>?_⟩;rcases eB.mp hp with rfl|hp
  ·exact g
  ·exact e3 p hp
end
section
variable {X:Cx}{e:Expr}{te:TE}{p p2 pos k6:Pos}
def jE (hc:X.calm=true) (hu:X.A.units+64<e9) (hg:Gl X "sorted") (hm:X.mg "sorted" = none) (x3:Gl X "set") (mv:X.mg "set" = none) (he:PE X e te)(hv:kK "sorted" = some (.builtin "sorted")) (Pj:kK "set" = some (.type "set"))(ll:autoParam (b4 [e] X.env=(false,dn e X.env) :: b4 [] X.env) bv) (hs:autoParam (b4 [.Call (.Name "set" p2) [e] [] k6] X.env=(false,dn (.Call (.Name "set" p2) [e] [] k6) X.env) :: b4 [] X.env) bv) :
  PE X (.Call (.Name "sorted" p) [.Call (.Name "set" p2) [e] [] k6] [] pos) (Qz (eQ X.K) te):=by
 intro pins s σ H Q I h;refine CF (AK I hg hm hv ?_ (by decide) (by decide));refine PyProof.Rows.callWith_builtin1 ?_ hs rfl;refine Calls.spliced_cons ?_;refine CF (AK I x3 mv Pj ?_ (by decide) (by decide));refine PyProof.Rows.callWith_type1 ?_ ll rfl;rw[ll];refine Calls.spliced_cons (dz (he pins s σ H _ I h) λu s1 dQ=>L2.g7 dQ λx H1 I1 r1 q1=>Calls.spliced_nil ?_);have q1:eQ X.K x H1 Q:=q1;obtain⟨a,rfl⟩:∃ a,x=.ref a:=by
  unfold eQ at q1;split at q1
  ·exact⟨_,rfl⟩
  ·exact q1.elim
 obtain⟨ys,ks,b0,sh,hl,Nw,ht,MD,q⟩:=q1;cases r1;obtain⟨vs,rv,pl,hz⟩:=I1.list hl;obtain⟨xs,ex,ek,hx⟩:=ht.pairs rv;have D7:X.A.handled=none:=I1.ok.hd hc;have hlen:xs.length=ys.length:=by rw[rv.length,ex,b6]
 have oD:∀ p∈xs,IsTupleKey (kg X.prog X.w) s1.heap p.1 p.2:=λp hp=>by obtain⟨us,ru,o,e1,c1,n1,d1⟩:=I1.tup (hx p hp);exact⟨o,us.toArray,n1,e1,c1,d1,by simpa using Uj ru⟩
 refine TS.qj D7 (by lia) pl.isList (by simpa using ex) oD (by lia) o_ λh2 tk dE S m1 m2 kp=>?_;refine Calls.spliced_nil ?_;obtain⟨⟨o,es,ep,t,ho,hex,hd,T,hM,hL,A6⟩,nd,is⟩:=S;have Vq:es.toList.map (·.2)=dE.map λp=>Value.ref p.2:=by rw[A6,fe];rfl
 have aK':dE.length<=1000:=by
  have:=TS.cA nd (m:=ks) λk hk=>by rw[<- ek];exact(m1 k).mp hk
  rw[b6] at this;have:ks.length=xs.length:=by rw[<- ek,b6]
  lia
 have Pk:es.size=dE.length:=by have:=congrArg List.length A6;simpa using this
 have Vr:∀ p∈dE,p.1∈ks:=λp hp=>by rw[<- ek];exact b5.mpr ⟨p,m2 p hp,rfl⟩
 have mem:∀ f7:List ae,f7.Perm (dE.map λp=>Value.ref p.2)->∀ v∈f7,∃ b k,v=.ref b/\H1 b=some (.tup (k.map kV))/\k∈ks:=λf7 pv v hv=>by obtain⟨p,hp,rfl⟩:=b5.mp (pv.mem_iff.mp hv);exact⟨p.2,p.1,rfl,hx p (m2 p hp),Vr p hp⟩
 have Pl:s1.heap.objs.size<=h2.objs.size:=xl (eW ho);refine sC.jh (κ:=tuples' true) (R:=λf7=>f7.Perm (dE.map λp=>Value.ref p.2)) (P:=λv=>∃ b k,v=.ref b/\H1 b=some (.tup (k.map kV))/\gX k=b0 :: sh/\k∈ks) (λA' E' Q' hA hQ=>TS.jN (hA.trans D7) ho hex hd T.fits T.up T.sz hL (by rw[Pk,j3];lia) λh' Jn d f7 x5 RT pv=>hQ f7 h' Jn d (by rw[<- Vq];exact pv) x5 RT) (λf7 pv=>by rw[pv.length_eq,b6,j3];lia) (λf7 pv v hv=>?_) (λf7 pv h2' A' E' s' x5 Q' q'=>?_) (λs' x5=>ou I1 λb o e=>x5 b o (kp b o e)) λf7 h' a' out n Jn d pv pm pw x5 ha eo=>?_
 ·obtain⟨b,k,e1,e2,e3⟩:=mem f7 pv v hv;exact⟨b,k,e1,e2,MD k e3,e3⟩
 ·obtain⟨zs,z1,z2⟩:=bR.of f7 (mem f7 pv);obtain⟨fs,f1,f2,f3⟩:=kat_tups I1 (λb o e=>x5 b o (kp b o e)) z1 z2 λk hk=>by obtain⟨v,hv,rfl⟩:=b5.mp hk;obtain⟨b,k,rfl,e2,e3⟩:=mem f7 pv v hv;rw[bL e2];exact MD k e3
  cases b0 with
  |true =>refine LD (T:=.type "int") f1 (by lia) (λf hf=>?_) (by decide) q';obtain⟨i,t,rfl⟩:=(f3 f hf).1 rfl;exact .now
  |false =>refine LD (T:=.type "str") f1 (by lia) (λf hf=>?_) (by decide) q';obtain⟨i,t,rfl⟩:=(f3 f hf).2 rfl;exact .now
 ·have FE:=pm.trans pv;obtain⟨zs,z1,z2⟩:=bR.of out λv hv=>mem _ FE v hv;have zl:=z2.length;have ol:=FE.length_eq;rw[b6] at ol;have Vs:(dE.map λp=>Value.ref p.2).map (kO H1)=dE.map (·.1):=by rw[fe];exact CY λp hp=>bL (hx p (m2 p hp))
  have M0:(out.map (kO H1)).Perm (dE.map (·.1)):=by rw[<- Vs];exact FE.map _
  refine⟨.ref a',_,(I1.laid (λb o e=>x5 b o (kp b o e)) (iP Pl ha) (show iS X.prog X.w _ h' _ (.lst zs) from⟨by rw[j3];lia,out,n,z2,eo⟩)).drawn,rfl,
   q zs _ _ z1 (M0.nodup_iff.mpr nd) (λk=>by rw[M0.mem_iff,m1,ek]) ?_ (I1.b9.fresh (iP Pl ha))⟩
  rw[iO];refine pw.imp_of_mem λ{x y} mx my hle=>?_;obtain⟨b,k,rfl,hb,kk⟩:=mem _ FE x mx;obtain⟨c,m,rfl,AJ,km⟩:=mem _ FE y my;rw[bL hb,bL AJ] at *
  have:=j_ ((MD m km).trans (MD k kk).symm) km;rw[<- this];exact decide_eq_false (by lia)
end
end L2
end
namespace TS
open PySem PySem.SetTable PyProof.Rows
section
variable {t:SetTable}{es:Array (Int × ae)}
def yH(T:TI t es)(h:Int)(x:ae):∃ j,j<=t.mask/\taken t.place j=false/\Reach t.mask t.place h j /\
  layNew t es h x=(insertAt es (below t.place j) (h,x),{ t with place:=insertAt t.place (below t.place j) j,dummies:=#[] },false,false):=by
 obtain⟨m,hm,_⟩:=T.pw;obtain⟨e0,Vj,Vk⟩:=T.free;obtain⟨nf,n1,n2,n3⟩:=lC hm h (taken t.place) Vj Vk;obtain⟨n',a1,a2,a3,a4⟩:=nJ T (λ_=>h+1) h (10*turns t.mask) 0 ⟨nf,fE _,by unfold turns;lia,n2⟩;rcases a4 with⟨c1,c2⟩|⟨_,c2,_⟩
 ·have Ts:n'<=nf:=by
   by_cases z:n'<=nf
   ·exact z
   ·have:=(a3 nf (fE _) (by exact Nat.lt_of_not_le ‹_›)).1;rw[n2] at this;cases this
  refine⟨J t.mask h n',RK ..,c1,⟨n',by lia,rfl,λq hq=>(a3 q (fE _) hq).1⟩,?_⟩;have Uo:t.freeSlot h=some (J t.mask h n',false):=by unfold SetTable.freeSlot;have:t.probe (λ_=>h+1) h (t.probeStart h)=some (.empty (J t.mask h n') none):=c2;rw[this];rfl
  have Vn:t.put (J t.mask h n')=({ t with place:=insertAt t.place (below t.place (J t.mask h n')) (J t.mask h n'),dummies:=#[] },below t.place (J t.mask h n')):=by
   unfold SetTable.put;have:has t.dummies (J t.mask h n')=false:=by rw[T.dm];rfl
   simp only[this,pf,if_false];rw[T.dm]
  have hb:=(aU T.up (J t.mask h n')).1;have Rq:({ t with place:=insertAt t.place (below t.place (J t.mask h n')) (J t.mask h n'),dummies:=#[] }:SetTable).fits (insertAt es (below t.place (J t.mask h n')) (h,x)).size=true:=by have:=T.few;have fT:(insertAt es (below t.place (J t.mask h n')) (h,x)).size=es.size+1:=bB _ _ (by rw[<- T.sz];exact hb);simp only[SetTable.fits,SetTable.fill,fT,bB _ _ hb,T.sz,lT,beq_iff_eq,decide_eq_true_eq,true_and];simp;lia
  unfold layNew;rw[Uo];dsimp only;rw[Vn];dsimp only;unfold SetTable.orStandIn;rw[Rq];rfl
 ·exact absurd c2 (by lia)
end
section
variable {prog:d5}{w:eC}{K:Type}[DecidableEq K]{knd:KeyKind prog w K}
def Pm(knd:KeyKind prog w K)(p:K × ae):Int × ae:=(knd.hash p.1,p.2)
structure RV(knd:KeyKind prog w K)(h:df)(a:ah)(ks:List (K × ae)):Prop where
 ob:∃ o es ep t,h.get? a=some o/\o.ExactSet/\o.data=.set es ep t/\TI t es/\t.mask<=8191/\t.led=(!w.params.followText "set-order")/\es.toList=ks.map (Pm knd)
 nd:(ks.map (·.1)).Nodup
 is:∀ p∈ks,knd.is p.1 p.2=true
variable {A:e7}{E:ae->ax->Prop}{s:ax}
def DP(S:RV knd s.heap a ks)(hx:knd.is k x=true)(hz:ks.length<1000)(ub:∀ k v,knd.is k v=true->v.scannable=true)(h:∀ (b:Bool) (h':df) (dE:List (K × ae)),Heap.SameBut a s.heap h'->RV knd h' a dE->(k∈ks.map (·.1)/\dE=ks\/k∉ks.map (·.1)/\dE.Perm ((k,x) :: ks))->Q b { s with heap:=h' }) :
  bq (aI prog w) A (setAddHashed a x (knd.hash k)) Q E s:=by
 obtain⟨⟨o,es,ep,t,ho,hex,hd,T,hM,hL,he⟩,nd,is⟩:=id S;have hlen:es.size=ks.length:=by have:=congrArg List.length he;simpa using this
 have Nu:ElemsOf knd es.toList:=λe hm=>by rw[he] at hm;obtain⟨p,hp,rfl⟩:=b5.mp hm;exact⟨⟨p.1,is p hp,rfl⟩,ub _ _ (is p hp)⟩
 have Q0:scanBound=4096:=rfl;unfold setAddHashed setAddHashedIn;refine tf (aw (zD ho hd T.fits ?_));dsimp only;rw[byScan_of (ub _ _ hx) (by lia) Nu];simp only[↓reduceIte];unfold setAddByScan;refine aw ?_;refine aw (CL ?_);refine aw (wpAny_setScan_of hx ho hd T.fits Nu ?_)
 cases hr:List.findIdx? (λe=>knd.is k e.2) es.toList with
 |some j =>
  dsimp only;refine bG (bG ?_);obtain⟨hj,hpj,_⟩:=List.findIdx?_eq_some_iff_getElem.mp hr;have hm:es.toList[j]∈ks.map (Pm knd):=by rw[<- he];exact rX hj
  obtain⟨p,hp,N7⟩:=b5.mp hm;rw[<- N7] at hpj;have hk:k=p.1:=knd.inj p.2 k p.1 hpj (is p hp);have e:s={ s with heap:=s.heap }:=by cases s;rfl
  rw[e];exact h _ _ ks (Heap.SameBut.refl a s.heap) S (.inl ⟨b5.mpr ⟨p,hp,hk.symm⟩,rfl⟩)
 |none =>
  dsimp only;have kS:k∉ks.map (·.1):=λhm=>by obtain⟨p,hp,rfl⟩:=b5.mp hm;have:=List.findIdx?_eq_none_iff.mp hr (Pm knd p) (by rw[he];exact b5.mpr ⟨p,hp,rfl⟩);rw[show knd.is p.1 (Pm knd p).2=true from is p hp] at this;cases this
  obtain⟨j,Vl,n2,Vm,hlay⟩:=yH T (knd.hash k) x;rw[hlay];dsimp only;refine aw (bG ?_);have bI:(insertAt es (below t.place j) (knd.hash k,x)).toList=(ks.take (below t.place j)++(k,x) :: ks.drop (below t.place j)).map (Pm knd):=by rw[lH,he,AA,gd,P5,P6];rfl
  have xS:(ks.take (below t.place j)++(k,x) :: ks.drop (below t.place j)).Perm ((k,x) :: ks):=by refine List.perm_middle.trans ?_;rw[NJ]
  have FC:below t.place j<=es.size:=by rw[<- T.sz];exact(aU T.up j).1
  have xD:(insertAt es (below t.place j) (knd.hash k,x)).size=es.size+1:=bB _ _ FC;have O8:∀ dE:List (K × ae),dE.Perm ((k,x) :: ks)->∀ p∈dE,knd.is p.1 p.2=true:=λdE pm p hp=>by
   rcases eB.mp (pm.mem_iff.mp hp) with rfl|hp
   ·exact hx
   ·exact is p hp
  have O9:∀ dE:List (K × ae),dE.Perm ((k,x) :: ks)->(dE.map (·.1)).Nodup:=λdE pm=>by rw[(pm.map _).nodup_iff,gd,kN];exact⟨kS,nd⟩
  have main:∀ t':SetTable,t'.mask=t.mask->t'.place=insertAt t.place (below t.place j) j->t'.dummies = #[]->t'.led=t.led->bq (aI prog w) A (do
    storeSet a (insertAt es (below t.place j) (knd.hash k,x)) t'
    if (!false && t'.tooFull)=true then do
      Gg (relayAll t' (insertAt es (below t.place j) (knd.hash k,x)) (grown (insertAt es (below t.place j) (knd.hash k,x)).size)).2.2
      storeSet a (relayAll t' (insertAt es (below t.place j) (knd.hash k,x)) (grown (insertAt es (below t.place j) (knd.hash k,x)).size)).1 (relayAll t' (insertAt es (below t.place j) (knd.hash k,x)) (grown (insertAt es (below t.place j) (knd.hash k,x)).size)).2.1
      pure (some true)
     else pure (some true)) (λr s'=>bq (aI prog w) A (match r with|some added=>pure added|none=>setAddHashedIn a x (knd.hash k) 99999) Q E s') E s:=λt' tm tp td tl=>by
   have RP:t'.fill=es.size+1:=by unfold SetTable.fill;rw[tp,td,bB _ _ (aU T.up j).1,T.sz];simp
   refine aw (wpAny_storeSet_of ho hd ?_ (by rw[xD,j3];lia));have v3:(s.heap.update a (Obj.putSet (insertAt es (below t.place j) (knd.hash k,x)) t')).get? a=some { o with data:=.set (insertAt es (below t.place j) (knd.hash k,x)) (ep+1) t' }:=by have:=EG (Obj.putSet (insertAt es (below t.place j) (knd.hash k,x)) t') ho (by rw[putSet_of _ _ hd];rfl);rw[putSet_of _ _ hd] at this;exact this
   have wo:=Heap.SameBut.update s.heap a (Obj.putSet (insertAt es (below t.place j) (knd.hash k,x)) t');by_cases c:t'.tooFull=true
   ·rw[if_pos (by rw[c];rfl)];obtain⟨t2,order,r1,r2,r3,r4,r5,r6,r7,r8,r9⟩:=pU (t:=t') (es:=insertAt es (below t.place j) (knd.hash k,x)) (by lia);have hI':relayAll t' (insertAt es (below t.place j) (knd.hash k,x)) (grown (insertAt es (below t.place j) (knd.hash k,x)).size)=(order.filterMap λi=>(insertAt es (below t.place j) (knd.hash k,x))[i]?,t2,false):=by unfold relayAll;rw[r1];dsimp only;rw[if_pos];rw[lT];refine⟨?_,r6.fits⟩;unfold coversAll;rw[List.isPerm_iff];exact r9
    rw[hI'];dsimp only;refine aw (bG ?_);obtain⟨dE,ek,pk⟩:=eV r8 bI;refine aw (wpAny_storeSet_of v3 rfl ?_ (by rw[r7,xD,j3];lia));refine bG (bG ?_);have FD:=wo.trans (Heap.SameBut.update _ a (Obj.putSet (order.filterMap λi=>(insertAt es (below t.place j) (knd.hash k,x))[i]?) t2));have pE:=EG (Obj.putSet (order.filterMap λi=>(insertAt es (below t.place j) (knd.hash k,x))[i]?) t2) v3 (by rw[putSet_of _ _ rfl];rfl);rw[putSet_of _ _ rfl] at pE;exact h true _ dE FD ⟨⟨_,_,_,_,pE,hex,rfl,r6,r5 (by lia),by rw[r3,tl];exact hL,ek⟩,O9 dE (pk.trans xS),O8 dE (pk.trans xS)⟩ (.inr ⟨kS,pk.trans xS⟩)
   ·rw[if_neg (by simpa using c)];refine bG (bG ?_);have t5:(es.size+1)*5<t.mask*3:=by unfold SetTable.tooFull at c;rw[RP,tm] at c;simpa using c
    exact h true _ _ wo ⟨⟨_,_,_,_,v3,hex,rfl,T.put Vl n2 Vm tm tp td t5,by rw[tm];exact hM,by rw[tl];exact hL,bI⟩,O9 _ xS,O8 _ xS⟩ (.inr ⟨kS,xS⟩)
  split
  ·refine aw ?_;rw[hashByValue_scannable 8 (ub _ _ hx)];refine bG ?_;split
   ·exact main _ rfl rfl rfl rfl
   ·exact main _ rfl rfl rfl rfl
  ·refine aw (bG ?_);rw[if_pos rfl];exact main _ rfl rfl rfl rfl
end
section
variable {prog:d5}{w:eC}{K:Type}[DecidableEq K]{knd:KeyKind prog w K}{A:e7}{E:ae->ax->Prop}{s:ax}
def gO{l:ah}{items:Array ae}{xs:List (K × ae)}{Q:ae->ax->Prop}(hh:A.handled=none)(hl:s.heap.IsList l items)(hi:items.toList=xs.map (·.2))(oD:∀ p∈xs,knd.is p.1 p.2=true) (hz:xs.length<=1000) (ub:∀ k v,knd.is k v=true->v.scannable=true)(h:∀ h' tk ks,RV knd h' s.heap.objs.size ks->(∀ k,k∈ks.map (·.1)↔k∈xs.map (·.1))->(∀ p∈ks,p∈xs)->(∀ b o,s.heap.get? b=some o->h'.get? b=some o)->Q (.ref s.heap.objs.size) { s with heap:=h',toks:=tk }) :
  bq (aI prog w) A (call (.type "set") [.ref l]) Q E s:=by
 refine iM hh hl (λi h=>∃ ks,RV knd h s.heap.objs.size ks/\(∀ k,k∈ks.map (·.1)↔k∈(xs.take i).map (·.1))/\(∀ p∈ks,p∈xs)/\ks.length<=i) (λh e k=>?_) (λi h h' ⟨ks,S,m1,m2,m3⟩ k=>?_) (λi v s' E' Q' hv ⟨ks,S,m1,m2,m3⟩ q=>?_) λh' tk ⟨ks,S,m1,m2,m3⟩ k=>?_
 ·exact⟨[],⟨⟨_,#[],0,_,e,⟨rfl,rfl,rfl⟩,rfl,sJ _,(by show 7<=8191;decide),rfl,rfl⟩,n9,λp hp=>nomatch hp⟩,λk=>by simp,(λp hp=>nomatch hp),cx _⟩
 ·obtain⟨⟨o,es,ep,t,ho,r⟩,nd,is⟩:=S;exact⟨ks,⟨⟨o,es,ep,t,k _ _ (cx _) ho,r⟩,nd,is⟩,m1,m2,m3⟩
 ·have wq:items.toList[i]? = some v:=by rw[mh];exact hv
  rw[hi,kM] at wq
  cases ex:xs[i]? with
  |none=>rw[ex] at wq;cases wq
  |some p =>
   rw[ex] at wq;cases wq;have hp:=k7 ex;have hil:i<xs.length:=(iE.mp ex).1;have Vp:(xs.take (i+1)).map (·.1)=(xs.take i).map (·.1)++[p.1]:=by rw[Dx,ex,AA];rfl
   refine tf (aw (knd.pyHash (oD p hp) ?_));refine DP S (oD p hp) (by lia) ub λb h' dE sb S' c=>?_;refine q b h' _ sb ⟨dE,S',λk=>?_,λp' i5=>?_,?_⟩
   ·rw[Vp,eR,nI,<- m1];rcases c with⟨c1,rfl⟩|⟨c1,c2⟩
    ·exact⟨.inl,λz=>z.elim id λe=>e ▸ c1⟩
    ·rw[(c2.map _).mem_iff,gd,eB];exact⟨λz=>z.symm,λz=>z.symm⟩
   ·rcases c with⟨c1,rfl⟩|⟨c1,c2⟩
    ·exact m2 p' i5
    ·rcases eB.mp (c2.mem_iff.mp i5) with rfl|z
     ·exact hp
     ·exact m2 p' z
   ·rcases c with⟨c1,rfl⟩|⟨c1,c2⟩
    ·lia
    ·rw[c2.length_eq];simp;lia
 ·have e:items.size=xs.length:=by have:=congrArg List.length hi;simpa using this
  rw[e,Au] at m1;exact h h' tk ks S m1 m2 λb o ho=>k b o (eW ho) ho
end
end TS
section
open PySem PySem.Spec PyProof.Rows
namespace L2
def gF(K:aE):V->Hp->VK->Prop:=λx H Q=>match x with
 |.ref p=>∃ (ks:List Key) (b:Bool),fh K H p (ks.map kV)/\ks.length<=1000/\(∀ k∈ks,om k=b) /\
   ∀ (ms:List Key) (l:ah),ms.Nodup->(∀ k,k∈ms↔k∈ks)->(ms.Pairwise λa b=>mw b a=false)->H l=none->Q (.ref l) (upd H l (.lst (ms.map kV)))
 |_=>False
def lK(h:Vals (ks.map kV) vs):∃ xs:List (Key × ae),vs=xs.map (·.2)/\xs.map (·.1)=ks/\∀ p∈xs,RelV (kV p.1) p.2:=by
 induction ks generalizing vs with
 |nil=>exact⟨[],Paired.n0 h,rfl,λp hp=>nomatch hp⟩
 |cons k ks ih =>
  obtain⟨v,vs,rfl,r,rs⟩:=Paired.c h;obtain⟨xs,e1,e2,e3⟩:=ih rs;refine⟨(k,v) :: xs,by rw[e1];rfl,by rw[<- e2];rfl,λp hp=>?_⟩;rcases eB.mp hp with rfl|hp
  ·exact r
  ·exact e3 p hp
section
variable {X:Cx}{e:Expr}{te:TE}{p p2 pos k6:Pos}
def rC (hc:X.calm=true) (hg:Gl X "sorted") (hm:X.mg "sorted" = none) (x3:Gl X "set") (mv:X.mg "set" = none) (he:PE X e te)(hv:kK "sorted" = some (.builtin "sorted")) (Pj:kK "set" = some (.type "set"))(ll:autoParam (b4 [e] X.env=(false,dn e X.env) :: b4 [] X.env) bv) (hs:autoParam (b4 [.Call (.Name "set" p2) [e] [] k6] X.env=(false,dn (.Call (.Name "set" p2) [e] [] k6) X.env) :: b4 [] X.env) bv) :
  PE X (.Call (.Name "sorted" p) [.Call (.Name "set" p2) [e] [] k6] [] pos) (Qz (gF X.K) te):=by
 intro pins s σ H Q I h;refine CF (AK I hg hm hv ?_ (by decide) (by decide));refine PyProof.Rows.callWith_builtin1 ?_ hs rfl;refine Calls.spliced_cons ?_;refine CF (AK I x3 mv Pj ?_ (by decide) (by decide));refine PyProof.Rows.callWith_type1 ?_ ll rfl;rw[ll];refine Calls.spliced_cons (dz (he pins s σ H _ I h) λu s1 dQ=>L2.g7 dQ λx H1 I1 r1 q1=>Calls.spliced_nil ?_);have q1:gF X.K x H1 Q:=q1;obtain⟨a,rfl⟩:∃ a,x=.ref a:=by
  unfold gF at q1;split at q1
  ·exact⟨_,rfl⟩
  ·exact q1.elim
 obtain⟨ks,b,hl,Nw,hb,q⟩:=q1;cases r1;obtain⟨vs,rv,pl,hz⟩:=I1.list hl;obtain⟨xs,ex,ek,hx⟩:=lK rv;have D7:X.A.handled=none:=I1.ok.hd hc;have hlen:xs.length=ks.length:=by rw[<- ek,b6]
 have oD:∀ p∈xs,(kg X.prog X.w).is p.1 p.2=true:=λp hp=>by
  obtain⟨k,v⟩:=p;have r:=hx _ hp;rw[V7]
  cases k with
  |inl i=>obtain⟨t,e⟩:=r;rw[show v=_ from e];exact Tg ..
  |inr x=>obtain⟨t,e⟩:=r;rw[show v=_ from e];exact Ti ..
 refine TS.gO D7 pl.isList (by simpa using ex) oD (by lia) o_ λh2 tk dE S m1 m2 kp=>?_;refine Calls.spliced_nil ?_;obtain⟨⟨o,es,ep,t,ho,hex,hd,T,hM,hL,A6⟩,nd,is⟩:=S;have Vq:es.toList.map (·.2)=dE.map (·.2):=by rw[A6,fe];rfl
 have aK':dE.length<=1000:=by
  have:=TS.cA nd (m:=ks) λk hk=>by rw[<- ek];exact(m1 k).mp hk
  rw[b6] at this;lia
 have Pk:es.size=dE.length:=by have:=congrArg List.length A6;simpa using this
 have Vr:∀ p∈dE,p.1∈ks:=λp hp=>by rw[<- ek];exact b5.mpr ⟨p,m2 p hp,rfl⟩
 have mem:∀ f7:List ae,f7.Perm (dE.map (·.2))->∀ v∈f7,∃ k,RelV (kV k) v/\k∈ks:=λf7 pv v hv=>by obtain⟨p,hp,rfl⟩:=b5.mp (pv.mem_iff.mp hv);exact⟨p.1,hx p (m2 p hp),Vr p hp⟩
 have Pl:s1.heap.objs.size<=h2.objs.size:=xl (eW ho);refine sC.jh (κ:=oneType') (R:=λf7=>f7.Perm (dE.map (·.2))) (P:=λv=>∃ k,RelV (kV k) v/\om k=b/\k∈ks) (λA' E' Q' hA hQ=>TS.jN (hA.trans D7) ho hex hd T.fits T.up T.sz hL (by rw[Pk,j3];lia) λh' Jn d f7 x5 RT pv=>hQ f7 h' Jn d (by rw[<- Vq];exact pv) x5 RT) (λf7 pv=>by rw[pv.length_eq,b6,j3];lia) (λf7 pv v hv=>?_) (λf7 pv h2' A' E' s' x5 Q' q'=>?_) (λs' x5=>sZ) λf7 h' a' out n Jn d pv pm pw x5 ha eo=>?_
 ·obtain⟨k,rk,mk⟩:=mem f7 pv v hv;exact⟨k,rk,hb k mk,mk⟩
 ·obtain⟨ms,rm⟩:=jU f7 (mem f7 pv);refine pD (b:=b) rm (λk hk=>?_) h2' q';have:(f7.map iJ)=ms.map λk=>[k]:=keys_map rm;have vT:[k]∈f7.map iJ:=by rw[this];exact b5.mpr ⟨k,hk,rfl⟩
  obtain⟨v,hv,e⟩:=b5.mp vT;obtain⟨k',rk,mk⟩:=mem f7 pv v hv;rw[jY rk] at e;cases e;exact hb _ mk
 ·have FE:=pm.trans pv;obtain⟨ms,rm⟩:=jU out (mem _ FE);have Vs:(dE.map (·.2)).map iJ=(dE.map (·.1)).map λk=>[k]:=by rw[fe,fe];exact CY λp hp=>jY (hx p (m2 p hp))
  have pk:ms.Perm (dE.map (·.1)):=pJ (by rw[<- keys_map rm,<- Vs];exact FE.map _);have hml:ms.length=dE.length:=by simpa using pk.length_eq
  have aN':∀ k∈ms,k∈ks:=λk hk=>by rw[<- ek];exact(m1 k).mp (pk.mem_iff.mp hk)
  refine⟨.ref a',_,(I1.laid (λb o e=>x5 b o (kp b o e)) (iP Pl ha) (show iS X.prog X.w _ h' _ (.lst (ms.map kV)) from⟨by rw[b6,j3];lia,out,n,rm,eo⟩)).drawn,rfl,
   q ms _ (pk.nodup_iff.mpr nd) (λk=>by rw[pk.mem_iff,m1,ek]) ?_ (I1.b9.fresh (iP Pl ha))⟩
  have OJ:(out.map iJ).Pairwise λx y=>Cb (ks.map λk=>[k]) x<=Cb (ks.map λk=>[k]) y:=iO.mpr pw;rw[keys_map rm,iO] at OJ;refine OJ.imp_of_mem λ{x y} mx my hle=>?_;have mx:=aN' x mx;have my:=aN' y my;rw[<- rW,<- j_ (L:=ks.map λk=>[k]) (by simp[gX,hb x mx,hb y my]) (b5.mpr ⟨y,my,rfl⟩)];exact decide_eq_false (by lia)
end
end L2
namespace L2.Q
section
variable {X:Cx}{K:aE}{e:Expr}{te:WE}{p p2 pos k6:Pos}
def tO:kK "set" = some (.type "set"):=by decide +kernel
def e_:W1:=λ_ x Q=>match x with
 |.list xs=>∃ (ks:List (List Key)) (sh:List Bool),xs=ks.map kr/\ks.length<=1000/\(∀ k∈ks,gX k=true :: sh)/\∀ ms:List (List Key),ms.Nodup->(∀ k,k∈ms↔k∈ks)->(ms.Pairwise λa b=>fv b a=false)->Q (.ow true) (.list (ms.map kr))
 |_=>False
def fj:W1:=λ_ x Q=>match x with
 |.list xs=>∃ (ks:List (List Key)) (sh:List Bool),xs=ks.map kr/\ks.length<=1000/\(∀ k∈ks,gX k=false :: sh)/\∀ ms:List (List Key),ms.Nodup->(∀ k,k∈ms↔k∈ks)->(ms.Pairwise λa b=>fv b a=false)->Q (.ow true) (.list (ms.map kr))
 |_=>False
def gw:W1:=λ_ x Q=>match x with
 |.list xs=>∃ (ks:List Key) (b:Bool),xs=ks.map kX/\ks.length<=1000/\(∀ k∈ks,om k=b)/\∀ ms:List Key,ms.Nodup->(∀ k,k∈ms↔k∈ks)->(ms.Pairwise λa b=>mw b a=false)->Q (.ow true) (.list (ms.map kX))
 |_=>False
def qQ:Nc K (eQ K) e_:=by
 intro Hs H m x v As Qd Qv w rx h f;have r1:=rx.rep w
 cases r1 with
 |list z s q =>obtain⟨ks,sh,rfl,hz,hs,h⟩:=h;obtain⟨ta,ok⟩:=rQ q;have hl:=q.length;rw[b6] at hl;refine⟨_,ks,true,sh,s,by lia,ta,hs,λzs ms l tz nd mm pw D5=>?_⟩;have rr:=gn (K:=K) tz λk hk=>ok k ((mm k).mp hk);have:ms.length<=ks.length:=TS.cA nd λk hk=>(mm k).mp hk;exact f.lst w (by rw[b6,j3];lia) rr (dI ms) (h ms nd mm pw) l D5
 |_=>exact h.elim
def rF:Nc K (eQ K) fj:=by
 intro Hs H m x v As Qd Qv w rx h f;have r1:=rx.rep w
 cases r1 with
 |list z s q =>obtain⟨ks,sh,rfl,hz,hs,h⟩:=h;obtain⟨ta,ok⟩:=rQ q;have hl:=q.length;rw[b6] at hl;refine⟨_,ks,false,sh,s,by lia,ta,hs,λzs ms l tz nd mm pw D5=>?_⟩;have rr:=gn (K:=K) tz λk hk=>ok k ((mm k).mp hk);have:ms.length<=ks.length:=TS.cA nd λk hk=>(mm k).mp hk;exact f.lst w (by rw[b6,j3];lia) rr (dI ms) (h ms nd mm pw) l D5
 |_=>exact h.elim
def qW:Nc K (gF K) gw:=by
 intro Hs H m x v As Qd Qv w rx h f;have r1:=rx.rep w
 cases r1 with
 |list z s q =>obtain⟨ks,b,rfl,hz,hb,h⟩:=h;obtain⟨e,ok⟩:=oO q;subst e;refine⟨ks,b,s,hz,hb,λms l nd mm pw hl=>?_⟩;have:ms.length<=ks.length:=TS.cA nd λk hk=>(mm k).mp hk;exact f.lst w (by rw[b6,j3];lia) (gG λk hk=>ok k ((mm k).mp hk)) (eF ms) (h ms nd mm pw) l hl
 |_=>exact h.elim
def lV (hm:X.mg "sorted" = none) (mv:X.mg "set" = none) (he:QE X K e te) (hc:autoParam (X.calm=true) bv) (hK:autoParam (X.K=K) bv) (ll:autoParam (b4 [e] X.env=(false,dn e X.env) :: b4 [] X.env) bv) (hs:autoParam (b4 [.Call (.Name "set" p2) [e] [] k6] X.env=(false,dn (.Call (.Name "set" p2) [e] [] k6) X.env) :: b4 [] X.env) bv) (hu:X.A.units+64<e9:=by assumption) (hg:Gl X "sorted" := by rfl) (x3:Gl X "set" := by rfl) :
  QE X K (.Call (.Name "sorted" p) [.Call (.Name "set" p2) [e] [] k6] [] pos) (gE e_ te):=by
 subst hK;exact PE.imp (jE hc hu hg hm x3 mv he bz tO ll hs) λσ H Qv ⟨Hs,ρ,ai,Q,sr,h,fin⟩=>⟨Hs,ρ,ai,_,sr,h,λv H1 bE m x As g1 r1 f1 q1=>qQ bE H1 m x v As Q Qv g1.wf r1 q1 (Fin.after fin g1)⟩
def uQ (hm:X.mg "sorted" = none) (mv:X.mg "set" = none) (he:QE X K e te) (hc:autoParam (X.calm=true) bv) (hK:autoParam (X.K=K) bv) (ll:autoParam (b4 [e] X.env=(false,dn e X.env) :: b4 [] X.env) bv) (hs:autoParam (b4 [.Call (.Name "set" p2) [e] [] k6] X.env=(false,dn (.Call (.Name "set" p2) [e] [] k6) X.env) :: b4 [] X.env) bv) (hu:X.A.units+64<e9:=by assumption) (hg:Gl X "sorted" := by rfl) (x3:Gl X "set" := by rfl) :
  QE X K (.Call (.Name "sorted" p) [.Call (.Name "set" p2) [e] [] k6] [] pos) (gE fj te):=by
 subst hK;exact PE.imp (jE hc hu hg hm x3 mv he bz tO ll hs) λσ H Qv ⟨Hs,ρ,ai,Q,sr,h,fin⟩=>⟨Hs,ρ,ai,_,sr,h,λv H1 bE m x As g1 r1 f1 q1=>rF bE H1 m x v As Q Qv g1.wf r1 q1 (Fin.after fin g1)⟩
def vo (hm:X.mg "sorted" = none) (mv:X.mg "set" = none) (he:QE X K e te) (hc:autoParam (X.calm=true) bv) (hK:autoParam (X.K=K) bv) (ll:autoParam (b4 [e] X.env=(false,dn e X.env) :: b4 [] X.env) bv) (hs:autoParam (b4 [.Call (.Name "set" p2) [e] [] k6] X.env=(false,dn (.Call (.Name "set" p2) [e] [] k6) X.env) :: b4 [] X.env) bv) (hg:Gl X "sorted" := by rfl) (x3:Gl X "set" := by rfl) :
  QE X K (.Call (.Name "sorted" p) [.Call (.Name "set" p2) [e] [] k6] [] pos) (gE gw te):=by
 subst hK;exact PE.imp (rC hc hg hm x3 mv he bz tO ll hs) λσ H Qv ⟨Hs,ρ,ai,Q,sr,h,fin⟩=>⟨Hs,ρ,ai,_,sr,h,λv H1 bE m x As g1 r1 f1 q1=>qW bE H1 m x v As Q Qv g1.wf r1 q1 (Fin.after fin g1)⟩
end
end L2.Q
namespace L2.Q.R
section
variable {Q:Md->L2.Q.D->Prop}{m:Md}{xs:List L2.Q.D}
def FN:e_ m (.list xs) Q = ∃ (ks:List (List Key)) (sh:List Bool),xs=ks.map kr/\ks.length<=1000/\(∀ k∈ks,gX k=true :: sh)/\∀ ms:List (List Key),ms.Nodup->(∀ k,k∈ms↔k∈ks)->(ms.Pairwise λa b=>fv b a=false)->Q (.ow true) (.list (ms.map kr)):=rfl
def FJ:fj m (.list xs) Q = ∃ (ks:List (List Key)) (sh:List Bool),xs=ks.map kr/\ks.length<=1000/\(∀ k∈ks,gX k=false :: sh)/\∀ ms:List (List Key),ms.Nodup->(∀ k,k∈ms↔k∈ks)->(ms.Pairwise λa b=>fv b a=false)->Q (.ow true) (.list (ms.map kr)):=rfl
def FQ:gw m (.list xs) Q = ∃ (ks:List Key) (b:Bool),xs=ks.map kX/\ks.length<=1000/\(∀ k∈ks,om k=b)/\∀ ms:List Key,ms.Nodup->(∀ k,k∈ms↔k∈ks)->(ms.Pairwise λa b=>mw b a=false)->Q (.ow true) (.list (ms.map kX)):=rfl
end
end L2.Q.R
namespace L2
end L2
namespace L2.Q
end L2.Q
namespace L2.Q.R
end L2.Q.R
namespace L2.Q
def RW(m:Md)(d:D)(S:D->D->Prop)(O:D->D->Prop):Prop:=match m,d with
 |.sh,.tup [a,b]=>S a b
 |.ow true,.tup [a,b]=>a.flat=false/\b.flat=false/\O a b
 |_,_=>False
def zL(i j:Nat)(te:WE):WS:=λE ρ=>te ρ λm d=>RW m d (λa b=>E.nx ((ρ.set i (some (.sh a))).set j (some (.sh b)))) λa b=>E.nx ((ρ.set i (some (.ow true a))).set j (some (.ow true b)))
def yr{X:Cx}{K:aE}{L:Str->Hp->Prop}{e:Expr}{te:WE}{i j:Nat}{x y:Str}{k:Nat}{p1 p2 p3 pos:Pos}(hc:X.calm=true)(hN:X.N.Nodup)(hi:X.N[i]? = some x)(hx:Loc X.env.scope x)(hj:X.N[j]? = some y)(hy:Loc X.env.scope y)(he:QE X K e te)(hK:autoParam (X.K=K) bv) (hf:X.fn x=true\/X.env.scope.names.lookup x=some .local:=by first|exact .inl rfl|exact .inr rfl|assumption) (hf2:X.fn y=true\/X.env.scope.names.lookup y=some .local:=by first|exact .inl rfl|exact .inr rfl|assumption) (hn:autoParam ((oP [.Name x p1,.Name y p2] X.env).length=2) bv) (mM:autoParam ((oP [.Name x p1,.Name y p2] X.env).findIdx? (·.1)=none) bv) (hs:autoParam (swapsWithSole [.Tuple [.Name x p1,.Name y p2] k p3] e pos.line X.env=pure false) bv) (hw:autoParam (swappedStores [.Tuple [.Name x p1,.Name y p2] k p3] e X.env=pure none) bv) (h1:autoParam ((oP [.Tuple [.Name x p1,.Name y p2] k p3] X.env).map (·.2)=[assign (.Tuple [.Name x p1,.Name y p2] k p3) X.env]) bv) (h2:autoParam ((oP [.Name x p1,.Name y p2] X.env).map (·.2)=assign (.Name x p1) X.env :: (oP [.Name y p2] X.env).map (·.2)) bv) (h3:autoParam ((oP [.Name y p2] X.env).map (·.2)=assign (.Name y p2) X.env :: (oP [] X.env).map (·.2)) bv) :
  QS X K L (.Assign [.Tuple [.Name x p1,.Name y p2] k p3] e pos) (zL i j te):=by
 subst hK;refine PS.imp (Wu he (Wt hc (Tz (Tx hN hi hx hf) (Tz (Tx hN hj hy hf2) Ws h3) h2) hn mM) hs hw h1) λD σ H hx=>cU hx λHs ρ ai E sr h k1 k2 k3 k4=>?_;refine⟨Hs,ρ,ai,_,sr,h,λv H1 bE m d As g1 r1 f1 q1=>?_⟩;have RX:=sr.grow g1;unfold RW at q1;split at q1
 ·rename_i a b;obtain⟨_,r⟩:=r1
  cases r with
  |tup z e rs =>
   cases rs with
   |cons ra rs=>cases rs with
    |cons rb rs=>cases rs with
     |nil =>obtain⟨t1,m1,s1⟩:=RX.yO i ra;obtain⟨t2,m2,s2⟩:=s1.yO j rb;exact⟨_,_,rfl,.inl (.inl (g1.wf.sub _ _ e)),rfl,_,_,rfl,_,_,rfl,rfl,k1 _ H1 bE _ t2 g1.sh s2 q1⟩
 ·rename_i a b;obtain⟨fa,fb,q1⟩:=q1;obtain⟨r,ne⟩:=r1
  cases r with
  |sh _ _=>exact absurd rfl ne
  |tup z e n rs =>
   cases rs with
   |@cons _ v1 _ _ A1 _ ra rs=>cases rs with
    |@cons _ v2 _ _ A2 _ rb rs=>cases rs with
     |nil =>
      obtain⟨nd,fr⟩:=f1;rw[vv] at nd fr;obtain⟨n1,n2,n3⟩:=gV.mp nd;have dj:∀ c∈A1++A2,c∉ai:=λc hc z=>(sr.sr.own c z).ne (fr c hc).2;obtain⟨t1,a1,b1,c1⟩:=SR.wu (ra.ne fa) ra n1 i RX.sr RX.sL λc hc=>dj c (kc _ hc);obtain⟨t2,a2,b2,c2⟩:=SR.wu (rb.ne fb) rb n2 j c1 a1 λc hc z=>by
       rcases b1 c z with w|w
       ·exact dj c (fS _ hc) w
       ·exact n3 c w c hc rfl
      refine⟨_,_,rfl,.inl (.inl (g1.wf.sub _ _ e)),rfl,_,_,rfl,_,_,rfl,rfl,k1 _ H1 bE _ t2 g1.sh ⟨c2,g1.wf,a2,λc hc=>?_⟩ q1⟩;rcases b2 c hc with w|w
      ·rcases b1 c w with w|w
       ·exact RX.own c w
       ·exact(fr c (kc _ w)).1
      ·exact(fr c (fS _ w)).1
 ·exact q1.elim
end L2.Q
namespace L2.Q.R
section
variable {E:kY}{ρ:Env}{te:WE}{i j:Nat}{x y:L2.Q.D}{S O:L2.Q.D->L2.Q.D->Prop}
def Ke:zL i j te E ρ=te ρ λm d=>cE (m,d) (f:=λp=>RW p.1 p.2 (λa b=>E.nx ((ρ.set i (some (.sh a))).set j (some (.sh b)))) λa b=>E.nx ((ρ.set i (some (.ow true a))).set j (some (.ow true b)))) ⟨⟩:=rfl
def Jc:RW .sh (.tup [x,y]) S O=S x y:=rfl
end
end L2.Q.R
namespace L2
open Builtin Builtin.Str Builtin.Int
end L2
namespace L2.Q
section
variable {X:Cx}{K:aE}{a:Expr}{ta:WE}
def RZ(t:WE):WE:=λρ Q=>t ρ λm d=>mU m/\Q .sh d
def aO'(h:QE X K a ta):QE X K a (RZ ta):=by refine PE.imp h λσ H Qv hx=>kE hx λHs ρ ai Q sr h fin=>?_;refine⟨Hs,ρ,ai,_,sr,h,λv H1 bE m d As g1 r1 f1 q1=>?_⟩;obtain⟨nb,q⟩:=q1;obtain⟨aT,g2,r2⟩:=r1.rA g1 f1 nb;exact fin v H1 aT .sh d [] g2 ⟨rfl,r2⟩ ⟨n9,λ_ h=>wa h⟩ q
def D8(ys:List D)(x:D):Bool:=ys.any λz=>ip z x
def R0(neg:Bool):W2:=λ_ x _ y Q=>∃ ys,(y=.list ys\/y=.tup ys)/\d4 12 x=true/\d4 12 y=true/\Q .sh (.bl (if neg then !D8 ys x else D8 ys x))
def Pn(K:aE)(neg:Bool):R2:=λx y H Q=>∃ d e xs,L2.Rep K H d x/\L2.Rep K H e y/\(e=.list xs\/e=.tuple xs)/\d.canLay0=true/\PyData.canLayAll0 xs=true/\d.depth<=60/\Q (.bl (if neg then !(xs.any λz=>PyData.eqv z d) else xs.any λz=>PyData.eqv z d)) H
def Hg(hu:X.A.units+64<e9):eJ X (gI .In) (Pn X.K false):=by
 intro pins s σ H x y v u Q I rx ry h;obtain⟨d,e,xs,h1,h2,h3,h4,h5,h6,q⟩:=h;obtain⟨as,r1⟩:=h1.reads I rx;obtain⟨bs,r2⟩:=h2.reads I ry;rcases h3 with rfl|rfl
 ·exact PySem.SeqAt.in_list_reads r2 r1 h5 h4 (by lia) ⟨.bl _,H,I,rfl,q⟩
 ·exact PySem.SeqAt.in_tuple_reads r2 r1 h5 h4 (by lia) ⟨.bl _,H,I,rfl,q⟩
def xO(hu:X.A.units+64<e9):eJ X (gI .NotIn) (Pn X.K true):=by
 intro pins s σ H x y v u Q I rx ry h;obtain⟨d,e,xs,h1,h2,h3,h4,h5,h6,q⟩:=h;obtain⟨as,r1⟩:=h1.reads I rx;obtain⟨bs,r2⟩:=h2.reads I ry;rcases h3 with rfl|rfl
 ·exact PySem.SeqAt.notIn_list_reads r2 r1 h5 h4 (by lia) ⟨.bl _,H,I,rfl,q⟩
 ·exact PySem.SeqAt.notIn_tuple_reads r2 r1 h5 h4 (by lia) ⟨.bl _,H,I,rfl,q⟩
def hL'(hK:autoParam (X.K=K) bv)(hu:X.A.units+64<e9:=by assumption):eJ X (gI .In) (Pn K false):=by subst hK;exact Hg hu
def CG(hK:autoParam (X.K=K) bv)(hu:X.A.units+64<e9:=by assumption):eJ X (gI .NotIn) (Pn K true):=by subst hK;exact xO hu
def Dq(ys:List D)(x:D):((nL ys).any λz=>PyData.eqv z x.py)=D8 ys x:=by
 induction ys with
 |nil=>rfl
 |cons y ys ih =>rw[nL,DC,ih];rfl
def Cw:kU K (Pn K neg) (R0 neg):=by
 intro Hs H m x v As n y u Bs Qd Qv w rx ry h f;obtain⟨ys,hy,o1,o2,q⟩:=h;have l1:=iw 12 x o1;have l2:=iw 12 y o2;refine⟨x.py,y.py,nL ys,(rx.rep w).l2 o1,(ry.rep w).l2 o2,?_,l1.1,?_,by lia,?_⟩
 ·rcases hy with rfl|rfl
  ·exact .inl rfl
  ·exact .inr rfl
 ·rcases hy with rfl|rfl
  ·exact l2.1
  ·exact l2.1
 ·rw[Dq];exact f.sh w (.bl _) q
def JJ(o:Option (Option Sl))(k:List D->Prop):Prop:=match o with
 |some (some (.ow true (.list xs)))=>k xs
 |_=>False
def intD(y:D)(k:Int->Prop):Prop:=match y with
 |.int i=>k i
 |_=>False
def Pp(d:D):Md:=bif d.flat then .sh else .ow true
end
end L2.Q
namespace L2.Q.R
section
variable {ρ:Env}{te:WE}{m m':Md}{x:L2.Q.D}{ys:List L2.Q.D}{Q:Md->L2.Q.D->Prop}
def KC:JJ (some (some (.ow true (.list ys)))) k=k ys:=rfl
def Lf:intD (.int i) k=k i:=rfl
def hN':RZ te ρ Q=te ρ λm d=>mU m/\Q .sh d:=rfl
def KH:R0 neg m x m' (.list ys) Q=(d4 12 x=true/\d4 12 (.list ys)=true/\Q .sh (.bl (if neg then !D8 ys x else D8 ys x))):=by apply propext;exact⟨λ⟨zs,h,a,b,c⟩=>by rcases h with h|h<;>cases h;exact⟨a,b,c⟩,λ⟨a,b,c⟩=>⟨ys,.inl rfl,a,b,c⟩⟩
end
end L2.Q.R
namespace L2
end L2
namespace L2.Q
section
variable {X:Cx}{K:aE}{a b:Expr}{ta tb tc:WE}{apos eP:Pos}
def Vt(x:D)(f:List (Key × D)->Prop)(g:List (List Key × D)->Prop):Prop:=match x with
 |.dK kvs=>f kvs
 |.dT kvs=>g kvs
 |_=>False
def R1(y:D)(k:List D->Prop):Prop:=match y with
 |.tup ys=>k ys
 |_=>False
def Nx(o:Option D)(m n:Md)(z:D)(Q:Md->D->Prop):Prop:=match o with
 |some d=>Q (uk m d) d
 |none=>Q n z
def R3(ta tb tc:WE):WE:=λρ Q=>ta ρ λm x=>Vt x (λkvs=>tb ρ λ_ y=>tc ρ λn z=>∃ k,y.key1=some k/\Nx (gS kvs k) m n z Q) (λkvs=>tb ρ λ_ y=>tc ρ λn z=>R1 y λys=>∃ ks,dU ys=some ks/\Nx (gS kvs ks) m n z Q)
def zH(hx:nk K (R3 ta tb tc) σ H Qv):eH' (nk K ta) (nk K tb) (nk K tc) σ H Qv:=kE hx λHs ρ ai Q sr h fin=>by
 refine⟨Hs,ρ,ai,_,sr,h,λv H1 bE m x As g1 r1 f1 q1=>?_⟩
 have got:∀ {o:Option V} {d? : Option D} {H2 H3 aT fR:Hp} {w:V} {n:Md} {z:D} {Cs:List ah},fw bE H1 aT H2->fw aT H2 fR H3->RM K fR H3 n z w Cs->cF fR H2 Cs->(match d? with
   |some d=>∃ v,o=some v/\Rep K H3 d v/\(m=.sh->Rep K fR d v)
   |none=>o=none)->Nx d? m n z Q->Qv (o.getD w) H3:=by
  intro o d? H2 H3 aT fR w n z Cs g2 g3 r3 f3 l q
  cases d? with
  |none=>rw[show o=none from l];exact fin w H3 fR n z Cs ((g1.trans g2).trans g3) r3 (f3.of (g1.trans g2).all) q
  |some d =>obtain⟨v',e,u1,u2⟩:=l;rw[e];exact(Fin.after fin ((g1.trans g2).trans g3)).uk g3.wf u1 u2 q
 have core:∀ G:Hp,bP G H1->(∀ H3 fR,fw bE H1 fR H3->∀ d v,Rep K G d v->Rep K H3 d v/\(m=.sh->Rep K fR d v))->Rep K G x v->∃ a,v=.ref a/\QV H1 a/\nk K tb σ H1 λy H2=>nk K tc σ H2 λz H3=>∃ o,lh H3 a y o/\Qv (o.getD z) H3:=by
  intro G sg up r
  cases r with
  |dK kk s q =>
   refine⟨_,rfl,.inl ⟨_,bP.rd sg s⟩,bE,ρ,ai,_,sr.grow g1,q1,λu H2 aT n y Bs g2 r2 f2 q2=>⟨aT,ρ,ai,_,(sr.grow g1).grow g2,q2,λw H3 fR n3 z Cs g3 r3 f3 q3=>?_⟩⟩;have ry:=(r2.grow g3).rep g3.wf;obtain⟨k,hk,q4⟩:=q3;have ev:=ry.key hk;subst ev;refine⟨_,lh.k' (bP.rd (g2.trans g3).all (bP.rd sg s)),got g2 g3 r3 f3 ?_ q4⟩;have z:=zip_get (k:=k) q;split
   ·rename_i d e;rw[e] at z;obtain⟨v',e',r'⟩:=z;exact⟨v',e',up _ _ (g2.trans g3) _ _ r'⟩
   ·rename_i e;rw[e] at z;exact z
  |dT kk s q =>
   refine⟨_,rfl,.inr ⟨_,bP.rd sg s⟩,bE,ρ,ai,_,sr.grow g1,q1,λu H2 aT n y Bs g2 r2 f2 q2=>⟨aT,ρ,ai,_,(sr.grow g1).grow g2,q2,λw H3 fR n3 z Cs g3 r3 f3 q3=>?_⟩⟩;have ry:=(r2.grow g3).rep g3.wf
   cases ry with
   |tup t2 e2 p2 =>
    obtain⟨k,hk,q4⟩:=q3;obtain⟨b',eb,e3⟩:=Rep.kr (.tup t2 e2 p2) hk;cases eb;refine⟨_,lh.t' (bP.rd (g2.trans g3).all (bP.rd sg s)) e3,got g2 g3 r3 f3 ?_ q4⟩;have z:=zip_get (k:=k) q;split
    ·rename_i d e;rw[e] at z;obtain⟨v',e',r'⟩:=z;exact⟨v',e',up _ _ (g2.trans g3) _ _ r'⟩
    ·rename_i e;rw[e] at z;exact z
   |_=>exact q3.elim
  |_=>exact q1.elim
 rcases r1.here g1.wf with⟨hm,r⟩|⟨hm,r⟩
 ·exact core bE g1.wf.sub (λH3 fR g d v q=>⟨q.same (g1.wf.sub.trans g.all),λ_=>q.same g.sh⟩) r
 ·exact core H1 (bP.refl H1) (λH3 fR g d v q=>⟨q.same g.all,λz=>absurd z hm⟩) r
def Hi (ha:QE X K a ta) (hb:QE X K b tb) (hm:M1 X a "get" apos b eP:=by exact⟨rfl,rfl,rfl,rfl⟩) (hu:X.A.units+64<e9:=by assumption):QE X K (.Call (.Attribute a "get" apos) [b] [] eP) (R3 ta tb (wC .non)) :=
 PE.imp (eI' (by lia) ha hb hm) λσ H Qv hx=>tE (zH hx) λx H1 ⟨a,e,d,q⟩=>⟨a,e,d,tE q λy H2 q2=>kE q2 λHs ρ ai Q sr q f=>f .non H2 Hs .sh .non [] (fw.refl sr.wf) ⟨rfl,.non⟩ ⟨n9,λ_ h=>wa h⟩ q⟩
end
end L2.Q
namespace L2
end L2
namespace L2.Q
section
variable {K:aE}{a b c:Expr}
def SR.take(i:Nat)(s:SR K Hs H ρ σ ai):ρ[i]? = some (some (.ow fl d))->ai.Nodup ->
  ∃ (v:V) (As c9:List ah),σ[i]? = some (some v)/\cv K Hs H fl d v As/\As.Sublist ai/\c9.Sublist ai/\(∀ a∈As,a∉c9)/\SR K Hs H (ρ.set i none) σ c9:=by
 induction s generalizing i with
 |nil=>intro e;simp at e
 |non q ih =>
  intro e n
  cases i with
  |zero=>simp at e
  |succ i =>obtain⟨v,As,t,o,a,b,c,d,f⟩:=ih i e n;exact⟨v,As,t,o,a,b,c,d,.non f⟩
 |sh r q ih =>
  intro e n
  cases i with
  |zero=>simp at e
  |succ i =>obtain⟨v,As,t,o,a,b,c,d,f⟩:=ih i e n;exact⟨v,As,t,o,a,b,c,d,.sh r f⟩
 |xc q ih =>
  intro e n
  cases i with
  |zero=>simp at e
  |succ i =>obtain⟨v,As,t,o,a,b,c,d,f⟩:=ih i e n;exact⟨v,As,t,o,a,b,c,d,.xc f⟩
 |ow ne r q ih =>
  intro e n;obtain⟨n1,n2,n3⟩:=gV.mp n
  cases i with
  |zero =>obtain⟨rfl,rfl⟩:=e;exact⟨_,_,_,rfl,r,LH _ _,mG _ _,λa h m=>n3 a h a m rfl,.non q⟩
  |succ i =>obtain⟨v,As,t,o,a,b,c,d,f⟩:=ih i e n2;exact⟨v,As,_,o,a,b.trans (mG _ _),c.append_left _,ig n b d,.ow ne r f⟩
 |lk ne r q ih =>
  intro e n;obtain⟨n1,n2,n3⟩:=gV.mp n
  cases i with
  |zero=>simp at e
  |succ i =>obtain⟨v,As,t,o,a,b,c,d,f⟩:=ih i e n2;exact⟨v,As,_,o,a,b.trans (mG _ _),c.append_left _,ig n b d,.lk ne r f⟩
 |ob r q ih =>
  intro e n;obtain⟨n1,n2,n3⟩:=gV.mp n
  cases i with
  |zero=>simp at e
  |succ i =>obtain⟨v,As,t,o,a,b,c,d,f⟩:=ih i e n2;exact⟨v,As,_,o,a,b.trans (mG _ _),c.append_left _,ig n b d,.ob r f⟩
def BK(h:JJ o k):∃ xs,o=some (some (.ow true (.list xs)))/\k xs:=by
 unfold JJ at h;split at h
 ·exact⟨_,rfl,h⟩
 ·exact h.elim
def Fl(iN:i≠j)(sr:fo K Hs ρ σ H ai)(ei:ρ[i]? = some (some (.ow true (.list hs))))(ej:ρ[j]? = some (some (.ow true (.list xs))))(fl:eK xs=true) (Nw:hs.length<bX) :
  ∃ a ws c vs fi,σ[i]? = some (some (.ref a))/\H a=some (.lst ws)/\ws.length<bX/\σ[j]? = some (some (.ref c))/\upd H a (.lst (ws++[.ref c])) c=some (.lst vs)/\bT K Hs xs vs/\vs.length<=bX /\
   fo K Hs ((ρ.set j none).set i (some (.ow true (.list (hs++[.list xs]))))) σ (upd H a (.lst (ws++[.ref c]))) fi:=by
 obtain⟨v,As,c9,e1,r,sb,st,dj,s1⟩:=SR.take j sr.sr ej sr.sL;have ei':(ρ.set j none)[i]? = some (some (.ow true (.list hs))):=by rw[NK (Ne.symm iN)];exact ei
 obtain⟨u,Ai,_,e2,ne,ri,si,g⟩:=SR.put i s1 ei' (st.nodup sr.sL)
 cases r with
 |sh hf _=>exact absurd (hf rfl) (by simp[D.flat])
 |@list c vs _ B hz ec rs =>
  cases ri with
  |sh _ _=>exact absurd rfl ne
  |@list a ws _ A hw ea ra =>
   have hac:c≠a:=λz=>dj c dk (si.subset (z ▸ dk));have Vd:=si.nodup (st.nodup sr.sL);obtain⟨na,nA⟩:=kN.mp Vd;have ndj:=sb.nodup sr.sL;have dA:∀ x∈c :: B,x∉a :: A:=λx hx m=>dj x hx (si.subset m);have nB:∀ x∈c :: B,x≠a:=λx hx z=>dA x hx (z ▸ dk);have hl:=ra.length;have r3:cv K Hs (upd H a (.lst (ws++[.ref c]))) true (.list (hs++[.list xs])) (.ref a) (a :: (A++((c :: B)++[]))):=by refine .list (by rw[ot,<- hl];exact Nw) ic ((ra.fz (bP.refl _) λb hb=>fF λz=>na (by subst z;exact hb)).append (.cons (.list hz ((fF hac).trans ec) (rs.fz (bP.refl _) λb hb=>fF (nB b (dr _ hb)))) .nil))
   obtain⟨fi,n2,i2,s2⟩:=g Hs _ true _ _ (bP.refl _) r3 (by simp) (kN.mpr ⟨λm=>(eR.mp m).elim na λm=>nB a (by simpa using m) rfl,gV.mpr ⟨nA,by simpa using ndj,λx hx y hy e=>dA y (by simpa using hy) (e ▸ dr _ hx)⟩⟩) (λb hb m=>by
     rcases eB.mp hb with rfl|hb
     ·exact dk
     ·rcases eR.mp hb with hb|hb
      ·exact dr _ hb
      ·exact absurd m (dj b (by simpa using hb)))
    (λb _ nb=>fF λz=>nb (z ▸ dk))
   have Ha:Hs a=none:=sr.own a (st.subset (si.subset dk));refine⟨a,ws,c,vs,fi,e2,ea,by lia,e1,(fF hac).trans ec,(rs.reps sr.wf.sub λ_ _=>rfl).fL sr.wf.kC fl,hz,s2,wM sr.wf Ha (λ_ z=>nomatch z),n2,λb hb=>?_⟩;rcases i2 b hb with m|m
   ·exact sr.own b (st.subset m)
   ·rcases eB.mp m with rfl|m
    ·exact Ha
    ·rcases eR.mp m with m|m
     ·exact sr.own b (st.subset (si.subset (dr _ m)))
     ·exact sr.own b (sb.subset (by simpa using m))
end
end L2.Q
namespace L2.Q.R
section
variable {ρ:Env}{te tb tc:WE}{m:Md}{x y:L2.Q.D}{ys:List L2.Q.D}{Q:Md->L2.Q.D->Prop}{k:Nat}
def Mi:R3 te tb tc ρ Q=te ρ λm x=>cE x (f:=λx=>Vt x (λkvs=>tb ρ λ_ y=>tc ρ λn z=>∃ k,y.key1=some k/\Nx (gS kvs k) m n z Q) (λkvs=>tb ρ λ_ y=>tc ρ λn z=>cE y (f:=λy=>R1 y λys=>∃ ks,dU ys=some ks/\Nx (gS kvs ks) m n z Q) ⟨⟩)) ⟨⟩:=rfl
def Ln:Vt (.dK kvs) f g=f kvs:=rfl
def Mu{k:List L2.Q.D->Prop}:R1 (.tup ys) k=k ys:=rfl
end
end L2.Q.R
namespace L2
section
variable {X:Cx}
def R4(K:aE):List V->Hp->VK->Prop:=λxs H Q=>match xs with
 |[.ref a]=>∃ bs:List Bool,fh K H a (bs.map V.bl)/\Q (.bl (bs.any id)) H
 |_=>False
def xx (hc:X.calm=true):i3 X (.builtin "any") (R4 X.K):=by
 intro pins s σ H xs us Q I r h;unfold R4 at h;split at h
 ·rename_i a;obtain⟨bs,e,q⟩:=h;obtain⟨u,rfl,ru⟩:=Vals.one r;cases ru;obtain⟨its,rv,pl,hz⟩:=I.list e;have hl:s.heap.IsList a its.toArray:=pl.isList;obtain⟨o,ho,Qp,n,IB⟩:=id hl;have hlen:=rv.length;rw[b6] at hlen;refine call_any_walk (wpAny_pyIter_list hl ?_);have iA:a≠s.heap.objs.size:=gi (eW ho);have D7:X.A.in1.handled=none:=I.ok.hd hc;refine⟨s.heap.objs.size,_,_,_,_,_,λi=>bs.getD i false,rfl,Walks.list D7 s.heap.objs.size a iA its.toArray,⟨⟨_,kP _ rfl,rfl,rfl⟩,⟨_,gu _ ho,Qp,n,IB⟩⟩,?_,λh' tk hk=>?_⟩
  ·intro i v s' Q' E' hv hq;have wq:its[i]? = some v:=by simpa using (hv)
   have hi:i<bs.length:=by have:=(iE.mp wq).1;lia
   obtain⟨w',e1,r1⟩:=rv.get (i:=i) (x:=V.bl bs[i]) (by simp[hi]);rw[wq] at e1;cases e1;cases (r1);have hq:Q' (bs.getD i false) s':=hq;rw[show bs.getD i false=bs[i] by simp[List.getD,hi]] at hq;exact FP hq
  ·have e3:((List.range its.toArray.size).any λi=>bs.getD i false)=bs.any id:=by
    rw[iF,<- hlen];apply pj.mpr;simp only[EF,n5,id];constructor
    ·rintro⟨i,hi,h⟩;exact⟨bs[i],rX hi,by simpa[List.getD,hi] using h⟩
    ·rintro⟨b,hb,h⟩;obtain⟨i,hi,rfl⟩:=PQ.mp hb;exact⟨i,hi,by simpa[List.getD,hi] using h⟩
   rw[e3];exact⟨.bl (bs.any id),H,I.kept λb o e=>hk b o (by simp;exact gi (eW e)) (gu _ e),rfl,q⟩
 ·exact h.elim
end
end L2
namespace L2.Q
section
variable {X:Cx}{K:aE}
def aQ' (hc:autoParam (X.calm=true) bv) (hK:autoParam (X.K=K) bv):i3 X (.builtin "any") (R4 K):=by subst hK;exact xx hc
def Bm:kK "any" = some (.builtin "any"):=by decide +kernel
def R5:W1:=λ_ x Q=>match x with
 |.list xs=>∃ bs:List Bool,xs=bs.map D.bl/\Q .sh (.bl (bs.any (λb=>b)))
 |_=>False
def Cg:zi K (R4 K) R5:=by
 intro Hs H m x v As Qd Qv w rx h f;have r1:=rx.rep w
 cases r1 with
 |list z s q =>obtain⟨bs,rfl,h⟩:=h;cases Hv q;exact⟨bs,s,f.sh w (.bl _) h⟩
 |_=>exact h.elim
def Cu:kK "int" = some (.type "int"):=by decide +kernel
def Vu:W1:=λ_ x Q=>match x with
 |.int i=>Q .sh (.int i)
 |.bl b=>Q .sh (.int (if b then 1 else 0))
 |_=>False
def Gp:zi K (λxs H Q=>(∃ i,xs=[.int i]/\Q (.int i) H)\/∃ k,xs=[.bl k]/\Q (.int (if k then 1 else 0)) H) Vu:=by
 intro Hs H m x v As Qd Qv w rx h f;have r1:=rx.rep w
 cases r1 with
 |int i=>exact .inl ⟨i,rfl,f.sh w (.int _) h⟩
 |bl b=>exact .inr ⟨b,rfl,f.sh w (.int _) h⟩
 |_=>exact h.elim
end
end L2.Q
namespace L2.Q.R
section
variable {m:Md}{Q:Md->L2.Q.D->Prop}{xs:List L2.Q.D}{k:List L2.Q.D->Prop}
def Vv(d:L2.Q.D)(k:List L2.Q.D->Prop):Prop:=match d with
 |.list xs=>k xs
 |_=>False
def Ls:Vv (.list xs) k=k xs:=rfl
def Kz:Vu m (.bl b) Q=Q .sh (.int (if b then 1 else 0)):=rfl
def Ma:R5 m (.list xs) Q = ∃ bs:List Bool,xs=bs.map L2.Q.D.bl/\Q .sh (.bl (bs.any (λb=>b))):=rfl
end
end L2.Q.R
end
namespace PySem.SeqAt
open AutoSeq1 (wpAny_loadPart')
open MeetsSeq MeetsSeq2 MeetsSeq3 SeqRoads2
def oo(A:e7)(s:ax)(u v:ae)(b:Bool):Prop:=∀ (prog:d5) (w:eC) (Q:ae->ax->Prop) (E:ae->ax->Prop),Q (.bool b) s->bq (aI prog w) A (richCompare .Lt u v) Q E s
def wt(e f:Nat->Bool)(m n:Nat):Nat->Nat->Bool
 |0,_=>decide (m<n)
 |k+1,i=>if e i then wt e f m n k (i+1) else f i
def yL(l b:ah)(items eM:Array ae)(n n2:Nat)(dd tN:Option ah)(sl tP:Array (Option ae))(e f:Nat->Bool)(k:Nat) :
  ∀ i:Nat,min items.size eM.size-i=k->i<=min items.size eM.size->Meets (Builtin.«list.__eq__.loop» ⟨[.ref l,.ref b,mE i,mE 0],[]⟩) (λA R s=>s.heap.get? l=some { cls:=.type "list",dict:=dd,data:=.seq items n,slots:=sl }/\s.heap.get? b=some { cls:=.type "list",dict:=tN,data:=.seq eM n2,slots:=tP } /\ (∀ j (h1:j<items.size) (h2:j<eM.size),EqAt A.in1 s items[j] eM[j] (e j))/\(∀ j (h1:j<items.size) (h2:j<eM.size),e j=false->oo A.in1 s items[j] eM[j] (f j)) /\
    R (.ok (.ret (.bool (wt e f items.size eM.size k i)))) s):=by
 induction k with
 |zero =>
  intro i hk hle prog w A R s h;obtain⟨hp,g,d,tk,os⟩:=s;obtain⟨hl,hb,he,hf,h⟩:=h
  wp_walk using wpAny_loadPart' hl,wpAny_loadPart' hb
  rcases (show items.size<=i\/eM.size<=i by lia) with z|z
  ·have lI:items[((i:Nat):Int).toNat]? = none:=by simp;lia
   rw[lI]
   wp_walk using wpAny_loadPart' hl,wpAny_loadPart' hb
   exact h
  ·have i9:eM[((i:Nat):Int).toNat]? = none:=by simp;lia
   rw[i9];cases items[((i:Nat):Int).toNat]?<;>wp_walk using wpAny_loadPart' hl,wpAny_loadPart' hb<;>exact h
 |succ k ih =>
  intro i hk hle prog w A R s h;obtain⟨hp,g,d,tk,os⟩:=s;obtain⟨hl,hb,he,hf,h⟩:=h
  wp_walk using wpAny_loadPart' hl,wpAny_loadPart' hb
  have eS:i<items.size:=by lia
  have Vw:i<eM.size:=by lia
  have lI:items[((i:Nat):Int).toNat]? = some items[i]:=by simp[eS]
  have i9:eM[((i:Nat):Int).toNat]? = some eM[i]:=by simp[Vw]
  have hc:((i:Int)+1)=((i+1:Nat):Int):=by push_cast;rfl
  rw[lI,i9];refine aw (he i eS Vw prog w _ _ ?_)
  cases JY:e i with
  |true =>
   rw[wt,JY,if_pos rfl] at h
   wp_walk
   rw[hc];exact⟨Ee plain_eq_loop _,Bz entry_eq_loop (by
    rw[Around.under_plainId plain_eq_loop _];exact ih (i+1) (by lia) (by lia) prog w A R _ ⟨hl,hb,he,hf,h⟩)⟩
  |false =>
   rw[wt,JY,if_neg kf] at h
   wp_walk using wpAny_loadPart' hl,wpAny_loadPart' hb
   rw[lI,i9];refine aw (hf i eS Vw JY prog w _ _ ?_)
   wp_walk
   exact h
def wI(l b:ah)(items eM:Array ae)(n n2:Nat)(dd tN:Option ah)(sl tP:Array (Option ae))(e f:Nat->Bool) :
  Meets (Builtin.«list.__lt__» ⟨[.ref l,.ref b],[]⟩) (λA R s=>s.heap.get? l=some { cls:=.type "list",dict:=dd,data:=.seq items n,slots:=sl }/\s.heap.get? b=some { cls:=.type "list",dict:=tN,data:=.seq eM n2,slots:=tP } /\ (∀ j (h1:j<items.size) (h2:j<eM.size),EqAt A.in1 s items[j] eM[j] (e j))/\(∀ j (h1:j<items.size) (h2:j<eM.size),e j=false->oo A.in1 s items[j] eM[j] (f j)) /\
    R (.ok (.ret (.bool (wt e f items.size eM.size (min items.size eM.size) 0)))) s):=by
 intro prog w A R s h;obtain⟨hp,g,d,tk,os⟩:=s;obtain⟨hl,hb,he,hf,h⟩:=h;have f3:=AutoSeq1.sub_list_list
 wp_walk using wpAny_loadPart' hl,wpAny_loadPart' hb
 exact⟨Ee plain_eq_loop _,Bz entry_eq_loop (by
  rw[Around.under_plainId plain_eq_loop _];exact yL l b items eM n n2 dd tN sl tP e f _ 0 (Nat.sub_zero _) (fE _) prog w A R _ ⟨hl,hb,he,hf,h⟩)⟩
def vg(l b:ah)(items eM:Array ae)(n n2:Nat)(dd tN:Option ah)(sl tP:Array (Option ae))(e f:Nat->Bool) :
  Meets (Builtin.«tuple.__lt__» ⟨[.ref l,.ref b],[]⟩) (λA R s=>s.heap.get? l=some { cls:=.type "tuple",dict:=dd,data:=.seq items n,slots:=sl }/\s.heap.get? b=some { cls:=.type "tuple",dict:=tN,data:=.seq eM n2,slots:=tP } /\ (∀ j (h1:j<items.size) (h2:j<eM.size),EqAt A.in1 s items[j] eM[j] (e j))/\(∀ j (h1:j<items.size) (h2:j<eM.size),e j=false->oo A.in1 s items[j] eM[j] (f j)) /\
    R (.ok (.ret (.bool (wt e f items.size eM.size (min items.size eM.size) 0)))) s) :=
 .of_wp λprog w A R s h=>by
  obtain⟨hp,g,d,tk,os⟩:=s;obtain⟨hl,hb,he,hf,h⟩:=h;have f2:=AutoSeq1.sub_tuple_tuple;have hZ:(items.toList.zip eM.toList).length=min items.size eM.size:=by simp
  wp_walk using wpAny_loadPart' hl,wpAny_loadPart' hb,wpAny_forIn_list _ (λrest b s'=>b.1=none/\s'=⟨hp,g,d,tk,os⟩/\∃ i,rest=(items.toList.zip eM.toList).drop i/\i<=min items.size eM.size /\
   R (.ok (.ret (.bool (wt e f items.size eM.size (min items.size eM.size-i) i)))) ⟨hp,g,d,tk,os⟩) _
  case turn =>
   rintro⟨y,x⟩ rest b s' ⟨JY,rfl,i,hz,hi,hR⟩;have eS:i<(items.toList.zip eM.toList).length:=by
    rcases GP i (items.toList.zip eM.toList).length with h'|h'
    ·exact h'
    ·rw[SQ h'] at hz;cases hz
   have hm:i<min items.size eM.size:=hZ ▸ eS;have h1:i<items.size:=oa hm (Nat.min_le_left _ _);have h2:i<eM.size:=oa hm (Nat.min_le_right _ _);rw[An eS] at hz;injection hz with hyx hR';have hy:y=items[i]:=by have:=congrArg Prod.fst hyx;simpa using this
   have hx:x=eM[i]:=by have:=congrArg Prod.snd hyx;simpa using this
   subst hy hx;rw[show min items.size eM.size-i=(min items.size eM.size-(i+1))+1 by lia,wt] at hR;refine aw (he i h1 h2 prog w _ _ ?_)
   cases hy:e i with
   |true =>
    rw[hy,if_pos rfl] at hR
    wp_walk
    exact⟨rfl,rfl,i+1,hR',hm,hR⟩
   |false =>
    rw[hy,if_neg kf] at hR;simp only[Bool.not_false,if_true];refine aw (CL ?_);refine aw (hf i h1 h2 hy prog w _ _ ?_)
    wp_walk
    exact⟨_,rfl,hR⟩
  case fin =>
   rintro⟨b1,b2⟩ s' ⟨JY,rfl,i,hz,hi,hR⟩;simp only at JY;subst JY;have qE:min items.size eM.size<=i:=by
    rcases GP i (items.toList.zip eM.toList).length with h'|h'
    ·rw[An h'] at hz;cases hz
    ·exact hZ ▸ h'
   rw[show min items.size eM.size-i=0 by lia,wt] at hR
   wp_walk
   exact⟨_,rfl,by simpa[Builtin.Tuple.tupleCompareSizes] using hR⟩
  case h =>
   exact⟨rfl,rfl,0,rfl,fE _,h⟩
section
variable {A:e7}{s:ax}
def oo.tuples{l b:ah}{items eM:Array ae}{e f:Nat->Bool}(hl:s.heap.IsTuple l items)(hb:s.heap.IsTuple b eM)(hu:A.units<e9)(he:∀ j (h1:j<items.size) (h2:j<eM.size),EqAt A.in1 s items[j] eM[j] (e j)) (hf:∀ j (h1:j<items.size) (h2:j<eM.size),e j=false->oo A.in1 s items[j] eM[j] (f j)) :
  oo A s (.ref l) (.ref b) (wt e f items.size eM.size (min items.size eM.size) 0):=λprog w Q E h=>by
 obtain⟨⟨cls,dd,data,sl⟩,ho,hc,n,hd⟩:=id hl;obtain⟨⟨T4,tN,data2,tP⟩,pE,DJ,n2,hd2⟩:=id hb;simp only at hc hd DJ hd2;subst hc hd DJ hd2;exact richCompare_meets_room (op:=.Lt) ⟨_,ho,rfl⟩ ⟨_,pE,rfl⟩ F.slot_tuple_lt F.entry_tuple_lt (F.args_tuple_lt_2 _ _) (vg l b items eM n n2 dd tN sl tP e f) ⟨ho,pE,he,hf,show Value.bool _≠Value.notImplemented/\Q (.bool _) s from⟨(λx=>nomatch x),h⟩⟩ hu
def oo.lists{l b:ah}{items eM:Array ae}{e f:Nat->Bool}(hl:s.heap.IsList l items)(hb:s.heap.IsList b eM)(hu:A.units<e9)(he:∀ j (h1:j<items.size) (h2:j<eM.size),EqAt A.in1 s items[j] eM[j] (e j)) (hf:∀ j (h1:j<items.size) (h2:j<eM.size),e j=false->oo A.in1 s items[j] eM[j] (f j)) :
  oo A s (.ref l) (.ref b) (wt e f items.size eM.size (min items.size eM.size) 0):=λprog w Q E h=>by
 obtain⟨⟨cls,dd,data,sl⟩,ho,hc,n,hd⟩:=id hl;obtain⟨⟨T4,tN,data2,tP⟩,pE,DJ,n2,hd2⟩:=id hb;simp only at hc hd DJ hd2;subst hc hd DJ hd2;exact richCompare_meets_room (op:=.Lt) ⟨_,ho,rfl⟩ ⟨_,pE,rfl⟩ F.slot_list_lt F.entry_list_lt (F.args_list_lt_2 _ _) (wI l b items eM n n2 dd tN sl tP e f) ⟨ho,pE,he,hf,show Value.bool _≠Value.notImplemented/\Q (.bool _) s from⟨(λx=>nomatch x),h⟩⟩ hu
def oo.int(a:Int)(t:Tok)(b:Int)(u:Tok):oo A s (.int a t) (.int b u) (decide (a<b)):=λprog w Q E h=>(show bq _ _ (gI .Lt _ _) _ _ _ from PyProof.Rows.lt_int h)
def oo.str(a:Str)(t:Tok)(b:Str)(u:Tok):oo A s (.str a t) (.str b u) (decide (a.cps.toList<b.cps.toList)):=λprog w Q E h=>(show bq _ _ (gI .Lt _ _) _ _ _ from PySem.P.lt_str h)
end
def nV(lt:cK->cK->Bool):List cK->List cK->Bool
 |[],ys=>!ys.isEmpty
 |_ :: _,[]=>false
 |x :: xs,y :: ys=>if PyData.eqv x y then nV lt xs ys else lt x y
def cS:Nat->cK->cK->Bool
 |_,.int i,.int j=>decide (i<j)
 |_,.str x,.str y=>decide (x.cps.toList<y.cps.toList)
 |n+1,.list xs,.list ys=>nV (cS n) xs ys
 |n+1,.tuple xs,.tuple ys=>nV (cS n) xs ys
 |_,_,_=>false
def p5:Nat->cK->cK->Prop
 |_,.int _,.int _=>True
 |_,.str _,.str _=>True
 |n+1,.list xs,.list ys=>∀ (j:Nat) (x y:cK),xs[j]? = some x->ys[j]? = some y->PyData.eqv x y=false->p5 n x y
 |n+1,.tuple xs,.tuple ys=>∀ (j:Nat) (x y:cK),xs[j]? = some x->ys[j]? = some y->PyData.eqv x y=false->p5 n x y
 |_,_,_=>False
def at2(g:cK->cK->Bool)(xs ys:List cK)(j:Nat):Bool:=match xs[j]?,ys[j]? with
 |some x,some y=>g x y
 |_,_=>false
def lW{g:cK->cK->Bool}{xs ys:List cK}{j:Nat}{x y:cK}(hx:xs[j]? = some x)(hy:ys[j]? = some y):at2 g xs ys j=g x y:=by unfold at2;rw[hx,hy]
def Bw(lt:cK->cK->Bool)(xs ys:List cK)(k:Nat):∀ i,min xs.length ys.length-i=k->i<=min xs.length ys.length->wt (at2 PyData.eqv xs ys) (at2 lt xs ys) xs.length ys.length k i=nV lt (xs.drop i) (ys.drop i):=by
 induction k with
 |zero =>
  intro i hk hi;rw[wt];rcases GP xs.length ys.length with z|z
  ·rw[decide_eq_true z,SQ (show xs.length<=i by lia),An (show i<ys.length by lia)];rfl
  ·rw[decide_eq_false (by lia),SQ (show ys.length<=i by lia)];cases xs.drop i<;>rfl
 |succ k ih =>
  intro i hk hi;have h1:i<xs.length:=by lia
  have h2:i<ys.length:=by lia
  rw[wt,lW (kB h1) (kB h2),lW (kB h1) (kB h2),ih (i+1) (by lia) (by lia),
   An h1,An h2,nV]
def cO{h:df}{xs:List cK}:∀ {vs:List ae} {as:List ah},ReadsAll h vs xs as->∀ (j:Nat) (v:ae),vs[j]? = some v->∃ x bs,xs[j]? = some x/\Reads h v x bs:=by
 induction xs with
 |nil =>intro vs as r j v hv;cases r;simp at hv
 |cons x xs ih =>
  intro vs as r j v hv
  cases r with
  |cons r rs =>
   cases j with
   |zero =>simp at hv;subst hv;exact⟨x,_,rfl,r⟩
   |succ j=>exact ih rs j v (by simpa using hv)
def iG{xs:List cK}(h:PyData.canLayAll0 xs=true){j:Nat}{x:cK}(hx:xs[j]? = some x):x.canLay0=true:=by
 induction xs generalizing j with
 |nil=>simp at hx
 |cons y xs ih =>
  have h:y.canLay0=true/\PyData.canLayAll0 xs=true:=by simpa[PyData.canLayAll0] using h
  cases j with
  |zero=>simp at hx;subst hx;exact h.1
  |succ j=>exact ih h.2 (by simpa using hx)
def n_{xs:List cK}{j:Nat}{x:cK}(hx:xs[j]? = some x):x.depth<=PyData.depthAll xs:=by
 induction xs generalizing j with
 |nil=>simp at hx
 |cons y xs ih =>
  simp only[PyData.depthAll]
  cases j with
  |zero=>simp at hx;subst hx;lia
  |succ j=>have:=ih (j:=j) (by simpa using hx);lia
def yU(n:Nat):∀ (d e:cK) (A:e7) (s:ax) (a b:ae) (as bs:List ah),Reads s.heap a d as->Reads s.heap b e bs->d.canLay0=true->e.canLay0=true->p5 n d e->d.depth<=20->A.units+n+30<e9->oo A s a b (cS n d e):=by
 induction n with
 |zero =>intro d e A s a b as bs ra rb _ _ c _ _;cases ra<;>cases rb<;>first|(rw[cS];exact oo.int _ _ _ _)|(rw[cS];exact oo.str _ _ _ _)|exact absurd c (by simp[p5])
 |succ n ih =>
  intro d e A s a b as bs ra rb la lb c dd hu
  cases ra with
  |int i t=>cases rb<;>first|(rw[cS];exact oo.int _ _ _ _)|exact absurd c (by simp[p5])
  |str x t=>cases rb<;>first|(rw[cS];exact oo.str _ _ _ _)|exact absurd c (by simp[p5])
  |@list l o vs m xs Vx h1 h2 h3 h4 =>
   cases rb with
   |@list l' o' f7 m' ys bs1 k1 k2 k3 k4 =>
    have n1:vs.size=xs.length:=by simpa using ReadsAll.length _ _ _ h4
    have n2:f7.size=ys.length:=by simpa using ReadsAll.length _ _ _ k4
    have Pq:∀ j (h1:j<vs.size),∃ x cs,xs[j]? = some x/\Reads s.heap vs[j] x cs:=λj hj=>cO h4 j vs[j] (by simp[hj]);have Pt:∀ j (h1:j<f7.size),∃ x cs,ys[j]? = some x/\Reads s.heap f7[j] x cs:=λj hj=>cO k4 j f7[j] (by simp[hj]);have dx:PyData.depthAll xs<20:=by simp only[PyData.depth] at dd;lia
    have:=oo.lists (A:=A) (s:=s) (e:=at2 PyData.eqv xs ys) (f:=at2 (cS n) xs ys) ⟨_,h1,h2,_,h3⟩ ⟨_,k1,k2,_,k3⟩ (by lia) (λj j1 j2=>by
     obtain⟨x,cs,ex,rx⟩:=Pq j j1;obtain⟨y,Vy,ey,ry⟩:=Pt j j2;rw[lW ex ey];have:=n_ ex;exact eqAt_reads x y A.in1 s _ _ _ _ rx ry (iG la ex) (iG lb ey) (by show A.units+1+_<e9;lia)) (λj j1 j2 ne=>by
     obtain⟨x,cs,ex,rx⟩:=Pq j j1;obtain⟨y,Vy,ey,ry⟩:=Pt j j2;rw[lW ex ey] at ne ⊢;have:=n_ ex;exact ih x y A.in1 s _ _ _ _ rx ry (iG la ex) (iG lb ey) (c j x y ex ey ne) (by lia) (by show A.units+1+n+30<e9;lia))
    rw[n1,n2,Bw (cS n) xs ys _ 0 (Nat.sub_zero _) (fE _)] at this;exact this
   |_=>exact absurd c (by simp[p5])
  |@tuple l o vs m xs Vx h1 h2 h3 h4 =>
   cases rb with
   |@tuple l' o' f7 m' ys bs1 k1 k2 k3 k4 =>
    have n1:vs.size=xs.length:=by simpa using ReadsAll.length _ _ _ h4
    have n2:f7.size=ys.length:=by simpa using ReadsAll.length _ _ _ k4
    have Pq:∀ j (h1:j<vs.size),∃ x cs,xs[j]? = some x/\Reads s.heap vs[j] x cs:=λj hj=>cO h4 j vs[j] (by simp[hj]);have Pt:∀ j (h1:j<f7.size),∃ x cs,ys[j]? = some x/\Reads s.heap f7[j] x cs:=λj hj=>cO k4 j f7[j] (by simp[hj]);have dx:PyData.depthAll xs<20:=by simp only[PyData.depth] at dd;lia
    have:=oo.tuples (A:=A) (s:=s) (e:=at2 PyData.eqv xs ys) (f:=at2 (cS n) xs ys) ⟨_,h1,h2,_,h3⟩ ⟨_,k1,k2,_,k3⟩ (by lia) (λj j1 j2=>by
     obtain⟨x,cs,ex,rx⟩:=Pq j j1;obtain⟨y,Vy,ey,ry⟩:=Pt j j2;rw[lW ex ey];have:=n_ ex;exact eqAt_reads x y A.in1 s _ _ _ _ rx ry (iG la ex) (iG lb ey) (by show A.units+1+_<e9;lia)) (λj j1 j2 ne=>by
     obtain⟨x,cs,ex,rx⟩:=Pq j j1;obtain⟨y,Vy,ey,ry⟩:=Pt j j2;rw[lW ex ey] at ne ⊢;have:=n_ ex;exact ih x y A.in1 s _ _ _ _ rx ry (iG la ex) (iG lb ey) (c j x y ex ey ne) (by lia) (by show A.units+1+n+30<e9;lia))
    rw[n1,n2,Bw (cS n) xs ys _ 0 (Nat.sub_zero _) (fE _)] at this;exact this
   |_=>exact absurd c (by simp[p5])
  |_=>cases rb<;>exact absurd c (by simp[p5])
end PySem.SeqAt
section
open PySem PySem.Spec PyProof.Rows
namespace L2
open PySem.SeqAt
structure hJ(lt:cK->cK->Bool)(S:cK->Prop):Prop where
 rg:∀ x,S x->lt x x=false
 tr:∀ x y z,S x->S y->S z->lt x y=true->lt y z=true->lt x z=true
 ai:∀ x y,S x->S y->lt x y=false->lt y x=false->x=y
 eqv:∀ x y,S x->S y->(PyData.eqv x y=true↔x=y)
def hJ.int(n:Nat):hJ (cS n) λx=>∃ i,x=.int i where
 rg:=by rintro x ⟨i,rfl⟩;rw[cS];simp
 tr:=by rintro x y z ⟨i,rfl⟩ ⟨j,rfl⟩ ⟨k,rfl⟩;rw[cS,cS,cS];simp only[decide_eq_true_eq];lia
 ai:=by rintro x y ⟨i,rfl⟩ ⟨j,rfl⟩;rw[cS,cS];simp only[decide_eq_false_iff_not,PyData.int.injEq];lia
 eqv:=by rintro x y ⟨i,rfl⟩ ⟨j,rfl⟩;simp[PyData.eqv]
def hJ.str(n:Nat):hJ (cS n) λx=>∃ s,x=.str s where
 rg:=by rintro x ⟨i,rfl⟩;rw[cS];exact yG i
 tr:=by rintro x y z ⟨i,rfl⟩ ⟨j,rfl⟩ ⟨k,rfl⟩;rw[cS,cS,cS];exact λh g=>Bp (y:=j) h g
 ai:=by rintro x y ⟨i,rfl⟩ ⟨j,rfl⟩;rw[cS,cS];exact λh g=>by rw[xr (x:=i) (y:=j) h g]
 eqv:=by rintro x y ⟨i,rfl⟩ ⟨j,rfl⟩;simp[PyData.eqv]
section
variable {lt:cK->cK->Bool}{S:cK->Prop}
def zF(T:hJ lt S)(xs:List cK)(h:∀ x∈xs,S x):nV lt xs xs=false:=by
 induction xs with
 |nil=>rfl
 |cons x xs ih =>rw[nV,if_pos ((T.eqv x x (h x dk) (h x dk)).mpr rfl)];exact ih λy hy=>h y (dr _ hy)
open Classical in
def cz(T:hJ lt S){x y:cK}{xs ys:List cK}(hx:S x)(hy:S y):nV lt (x :: xs) (y :: ys)=if x=y then nV lt xs ys else lt x y:=by
 rw[nV];by_cases e:x=y
 ·rw[if_pos e,if_pos ((T.eqv x y hx hy).mpr e)]
 ·rw[if_neg e,if_neg λz=>e ((T.eqv x y hx hy).mp z)]
def Aw(T:hJ lt S)(xs:List cK):∀ ys:List cK,(∀ x∈xs,S x)->(∀ y∈ys,S y)->nV lt xs ys=false->nV lt ys xs=false->xs=ys:=by
 induction xs with
 |nil =>
  intro ys _ _ h _
  cases ys with
  |nil=>rfl
  |cons y ys=>cases h
 |cons x xs ih =>
  intro ys hx hy h1 h2
  cases ys with
  |nil=>cases h2
  |cons y ys =>
   have sx:=hx x dk;have sy:=hy y dk;rw[cz T sx sy] at h1;rw[cz T sy sx] at h2;by_cases e:x=y
   ·subst e;rw[if_pos rfl] at h1 h2;rw[ih ys (λz hz=>hx z (dr _ hz)) (λz hz=>hy z (dr _ hz)) h1 h2]
   ·rw[if_neg e] at h1;rw[if_neg λz=>e z.symm] at h2;exact absurd (T.ai x y sx sy h1 h2) e
def Ea(T:hJ lt S)(xs:List cK):∀ ys zs:List cK,(∀ x∈xs,S x)->(∀ y∈ys,S y)->(∀ z∈zs,S z)->nV lt xs ys=true->nV lt ys zs=true->nV lt xs zs=true:=by
 induction xs with
 |nil =>
  intro ys zs _ _ _ h1 h2
  cases zs with
  |cons z zs=>rfl
  |nil =>
   cases ys with
   |nil=>cases h1
   |cons y ys=>cases h2
 |cons x xs ih =>
  intro ys zs hx hy hz h1 h2
  cases ys with
  |nil=>cases h1
  |cons y ys =>
   cases zs with
   |nil=>cases h2
   |cons z zs =>
    have sx:=hx x dk;have sy:=hy y dk;have sz:=hz z dk;rw[cz T sx sy] at h1;rw[cz T sy sz] at h2;rw[cz T sx sz];have tl:=ih ys zs (λz hz=>hx z (dr _ hz)) (λz hz=>hy z (dr _ hz)) λw hw=>hz w (dr _ hw);by_cases e1:x=y
    ·subst e1;rw[if_pos rfl] at h1;by_cases e2:x=z
     ·subst e2;rw[if_pos rfl] at h2 ⊢;exact tl h1 h2
     ·rw[if_neg e2] at h2 ⊢;exact h2
    ·rw[if_neg e1] at h1;by_cases e2:y=z
     ·subst e2;rw[if_neg e1];exact h1
     ·rw[if_neg e2] at h2;have t:=T.tr x y z sx sy sz h1 h2;by_cases e3:x=z
      ·subst e3;rw[T.rg x sx] at t;cases t
      ·rw[if_neg e3];exact t
def uA(T:hJ lt S)(xs:List cK):∀ ys:List cK,(∀ x∈xs,S x)->(∀ y∈ys,S y)->(PyData.eqvAll xs ys=true↔xs=ys):=by
 induction xs with
 |nil=>intro ys _ _;cases ys<;>simp[PyData.eqvAll]
 |cons x xs ih =>
  intro ys hx hy
  cases ys with
  |nil=>simp[PyData.eqvAll]
  |cons y ys =>have h1:=T.eqv x y (hx x dk) (hy y dk);have h2:=ih ys (λz hz=>hx z (dr _ hz)) λz hz=>hy z (dr _ hz);simp only[PyData.eqvAll,lT,List.cons.injEq];exact and_congr h1 h2
end
def hJ.list{n:Nat}{S:cK->Prop}(T:hJ (cS n) S):hJ (cS (n+1)) λx=>∃ xs,x=.list xs/\∀ y∈xs,S y where
 rg:=by rintro x ⟨xs,rfl,h⟩;rw[cS];exact zF T xs h
 tr:=by rintro x y z ⟨xs,rfl,h⟩ ⟨ys,rfl,h'⟩ ⟨zs,rfl,h''⟩;rw[cS,cS,cS];exact Ea T xs ys zs h h' h''
 ai:=by rintro x y ⟨xs,rfl,h⟩ ⟨ys,rfl,h'⟩;rw[cS,cS];exact λh1 h2=>by rw[Aw T xs ys h h' h1 h2]
 eqv:=by rintro x y ⟨xs,rfl,h⟩ ⟨ys,rfl,h'⟩;rw[PyData.list.injEq];exact uA T xs ys h h'
open Classical in
def cC{n:Nat}{S U:cK->Prop}(T:hJ (cS n) S)(T2:hJ (cS n) U){a b c d:cK}(ha:S a)(hb:U b)(hc:S c)(hd:U d):nV (cS n) [a,b] [c,d]=if a=c then cS n b d else cS n a c:=by
 rw[cz T ha hc,cz T2 hb hd];by_cases e:b=d
 ·subst e;rw[if_pos rfl,show nV (cS n) [] []=false from rfl,T2.rg b hb]
 ·rw[if_neg e]
def hJ.pair{n:Nat}{S U:cK->Prop}(T:hJ (cS n) S)(T2:hJ (cS n) U):hJ (cS (n+1)) λx=>∃ a b,x=.tuple [a,b]/\S a/\U b where
 rg:=by rintro x ⟨a,b,rfl,ha,hb⟩;rw[cS,cC T T2 ha hb ha hb,if_pos rfl];exact T2.rg b hb
 tr:=by
  rintro x y z ⟨a,b,rfl,ha,hb⟩ ⟨c,d,rfl,hc,hd⟩ ⟨e,f,rfl,he,hf⟩;rw[cS,cS,cS,cC T T2 ha hb hc hd,cC T T2 hc hd he hf,cC T T2 ha hb he hf];intro h1 h2;by_cases e1:a=c
  ·subst e1;rw[if_pos rfl] at h1;by_cases e2:a=e
   ·subst e2;rw[if_pos rfl] at h2 ⊢;exact T2.tr b d f hb hd hf h1 h2
   ·rw[if_neg e2] at h2 ⊢;exact h2
  ·rw[if_neg e1] at h1;by_cases e2:c=e
   ·subst e2;rw[if_neg e1];exact h1
   ·rw[if_neg e2] at h2;have t:=T.tr a c e ha hc he h1 h2;by_cases e3:a=e
    ·subst e3;rw[T.rg a ha] at t;cases t
    ·rw[if_neg e3];exact t
 ai:=by
  rintro x y ⟨a,b,rfl,ha,hb⟩ ⟨c,d,rfl,hc,hd⟩;rw[cS,cS,cC T T2 ha hb hc hd,cC T T2 hc hd ha hb];intro h1 h2;by_cases e:a=c
  ·subst e;rw[if_pos rfl] at h1 h2;rw[T2.ai b d hb hd h1 h2]
  ·rw[if_neg e] at h1;rw[if_neg λz=>e z.symm] at h2;exact absurd (T.ai a c ha hc h1 h2) e
 eqv:=by rintro x y ⟨a,b,rfl,ha,hb⟩ ⟨c,d,rfl,hc,hd⟩;have h1:=T.eqv a c ha hc;have h2:=T2.eqv b d hb hd;simp only[PyData.eqv,PyData.eqvAll,lT,Qc,PyData.tuple.injEq,List.cons.injEq,and_true];exact and_congr h1 h2
section
variable {prog:d5}{w:eC}{A:e7}{E:ae->ax->Prop}{s:ax}{Q:Bool->ax->Prop}
def Az{n:Nat}(xs:List cK):∀ (ys:List cK) (us vs:List ae) (as bs:List ah) (i:Nat),ReadsAll s.heap us xs as->ReadsAll s.heap vs ys bs->PyData.canLayAll0 xs=true->PyData.canLayAll0 ys=true->PyData.depthAll xs<=20 -> (∀ (j:Nat) (x y:cK),xs[j]? = some x->ys[j]? = some y->PyData.eqv x y=false->p5 n x y)->(i=0->∀ x y,xs[0]? = some x->ys[0]? = some y->(∃ k,x=.int k)/\∃ k,y=.int k)->xs.length=ys.length->A.units+n+30<e9->Q (nV (cS n) xs ys) s ->
  PySem.W.KatLex prog w A true false Q (us.zip vs) i s:=by
 induction xs with
 |nil =>
  intro ys us vs as bs i ra rb _ _ _ _ _ hl _ q
  cases ys with
  |cons y ys=>cases hl
  |nil =>cases ra;exact PySem.W.kat_nil q
 |cons x xs ih =>
  intro ys us vs as bs i ra rb la lb dp c hi hl hu q
  cases ys with
  |nil=>cases hl
  |cons y ys =>
   cases ra with
   |cons r rs =>
    cases rb with
    |cons r' Vz =>
     have VA:x.canLay0=true/\PyData.canLayAll0 xs=true:=by simpa[PyData.canLayAll0] using la
     have VB:y.canLay0=true/\PyData.canLayAll0 ys=true:=by simpa[PyData.canLayAll0] using lb
     have dp':x.depth<=20/\PyData.depthAll xs<=20:=by simp only[PyData.depthAll] at dp;lia
     rw[BE];rw[nV] at q;refine PySem.W.kat_cons (eqAt_reads x y A s _ _ _ _ r r' VA.1 VB.1 (by lia) prog w _ _ (PySem.W.kat_go (λh=>PySem.W.kat_yes ?_) (λh=>PySem.W.kat_no ?_)))
     ·rw[if_pos h] at q;exact ih ys _ _ _ _ (i+1) rs Vz VA.2 VB.2 dp'.2 (λj=>c (j+1)) (λz=>by lia) (by simpa using hl) hu q
     ·rw[if_neg (by rw[h];exact kf)] at q;by_cases h0:i=0
      ·obtain⟨⟨a,rfl⟩,⟨b,rfl⟩⟩:=hi h0 x y rfl rfl;subst h0;cases r;cases r';rw[cS] at q;exact oneLt_int q
      ·rw[show(true && i == 0)=false by simp[h0]];exact PySem.W.kat_one _ _ (yU n x y A s _ _ _ _ r r' VA.1 VB.1 (c 0 x y rfl rfl h) dp'.1 (by lia) prog w _ _ q)
structure Kb(n:Nat)(S:cK->Prop):Prop where
 ai:hJ (cS (n+1)) S
 tup:∀ x,S x->∃ i xs,x=.tuple (.int i :: xs)/\x.canLay0=true/\x.depth<=20
 len:∀ xs ys,S (.tuple xs)->S (.tuple ys)->xs.length=ys.length
 cm:∀ x y,S x->S y->p5 (n+1) x y
open Classical in
def ju(h:df)(v:ae):cK:=if z:∃ d as,Reads h v d as/\d.canLay0=true then z.choose else .none
def fC{h:df}{v:ae}{d:cK}{as:List ah}(r:Reads h v d as)(l:d.canLay0=true):ju h v=d:=by
 have z:∃ d as,Reads h v d as/\d.canLay0=true:=⟨d,as,r,l⟩
 unfold ju;rw[dif_pos z];obtain⟨bs,r2,l2⟩:=z.choose_spec;exact Reads.unique _ _ _ _ _ l2 r2 r
def Ki(n:Nat)(L:List cK)(d:cK):Int:=(L.countP λe=>cS n e d:Nat)
def Bu{n:Nat}{S:cK->Prop}(T:hJ (cS n) S){L:List cK}(hL:∀ d∈L,S d){a b:cK}(ha:a∈L)(hb:S b):decide (Ki n L a<Ki n L b)=cS n a b:=by
 have sa:=hL a ha;unfold Ki
 cases h:cS n a b with
 |true =>have:=nu (λj=>cS n j a) (λj=>cS n j b) a (T.rg a sa) h L ha λx hx z=>T.tr x a b (hL x hx) sa hb z h;exact decide_eq_true (by lia)
 |false =>
  refine decide_eq_false ?_
  cases g:cS n b a with
  |false =>rw[T.ai a b sa hb h g];lia
  |true =>have:=count_le (λj=>cS n j b) (λj=>cS n j a) L λx hx z=>T.tr x b a (hL x hx) hb sa z g;lia
def zr{n:Nat}{S:cK->Prop}(K:Kb n S){h0:df}(kp:∀ b o,h0.get? b=some o->s.heap.get? b=some o){L:List cK}(hL:∀ d∈L,S d)(hu:A.units+n+31<e9) :
  sC.mS prog w A s (tuples' true) (λv=>Ki (n+1) L (ju h0 v)) (λv=>∃ d as,d∈L/\Reads h0 v d as):=by
 rintro x y ⟨d,as,md,rd⟩ ⟨e,bs,me,re⟩ Q E q;have sd:=hL d md;have se:=hL e me;obtain⟨i,xs,rfl,ld,dd⟩:=K.tup d sd;obtain⟨j,ys,rfl,le,de⟩:=K.tup e se
 replace q:Q (decide (Ki (n+1) L (ju h0 x)<Ki (n+1) L (ju h0 y))) s:=q
 rw[fC rd ld,fC re le,Bu K.ai hL md se,cS] at q;have rd':=PyProof.Rows.Reads.keeps kp rd;have re':=PyProof.Rows.Reads.keeps kp re;have cm:=K.cm _ _ sd se;have hl:=K.len _ _ sd se
 cases rd' with
 |@tuple a o us m _ Vx h1 h2 h3 h4 =>
  cases re' with
  |@tuple b o' vs m' _ bs1 k1 k2 k3 k4 =>
   have n1:us.size=(PyData.int i :: xs).length:=by simpa using ReadsAll.length _ _ _ h4
   have n2:vs.size=(PyData.int j :: ys).length:=by simpa using ReadsAll.length _ _ _ k4
   refine PySem.W.kat_lt h1 h3 k1 k3 ?_;rw[show decide (us.size<vs.size)=false from decide_eq_false (by lia)];exact Az (n:=n) _ _ _ _ _ _ 0 h4 k4 ld le (by simp only[PyData.depth] at dd;lia) cm (λ_ x y hx hy=>by cases hx;cases hy;exact⟨⟨_,rfl⟩,_,rfl⟩) hl (by lia) q
end
section
variable {X:Cx}{pins:List (ah × Obj)}{σ:St}{H:Hp}{s:ax}
theorem wJ(I:Inv X pins σ H s):∀ {ds:List cK} {ys:List V} {vs:List ae},bT X.K H ds ys->Vals ys vs->∀ v∈vs,∃ d y as,d∈ds/\Rep X.K H d y/\RelV y v/\Reads s.heap v d as
 |_,_,_,.nil,.nil,v,hv=>nomatch hv
 |_,_,_,.cons r rs,.cons q qs,v,hv=>by
  rcases eB.mp hv with rfl|hv
  ·obtain⟨as,z⟩:=r.reads I q;exact⟨_,_,as,dk,r,q,z⟩
  ·obtain⟨d,y,as,a,b,c,z⟩:=wJ I rs qs v hv;exact⟨d,y,as,dr _ a,b,c,z⟩
theorem sV{h0:df}{n:Nat}{S:cK->Prop}(K:Kb n S):∀ (vs:List ae),(∀ v∈vs,∃ d as,S d/\Reads h0 v d as)->∃ fs:List ae,PySem.W.KatTups h0 vs fs/\fs.length=vs.length/\∀ f∈fs,∃ i t,f=Value.int i t
 |[],_=>⟨[],.nil,rfl,λf hf=>nomatch hf⟩
 |v :: vs,h=>by
  obtain⟨fs,f1,f2,f3⟩:=sV K vs λu hu=>h u (dr _ hu);obtain⟨d,as,sd,r⟩:=h v dk;obtain⟨i,xs,rfl,_,_⟩:=K.tup d sd
  cases r with
  |@tuple a o us m _ Vx h1 h2 h3 h4 =>
   obtain⟨us⟩:=us
   cases h4 with
   |cons r rs =>
    cases r with
    |int _ t =>
     exact⟨_ :: fs,.cons h1 h2 h3 rfl f1,by simp[f2],λf hf=>by
      rcases eB.mp hf with rfl|hf
      ·exact⟨_,_,rfl⟩
      ·exact f3 f hf⟩
def Kj:ae->V
 |.ref a=>.ref a
 |_=>.non
def yI{n:Nat}{S:cK->Prop}(K:Kb n S){h0:df}{d:cK}{y:V}{v:ae}{as:List ah}(sd:S d)(q:RelV y v)(r:Reads h0 v d as):Kj v=y:=by
 obtain⟨i,xs,rfl,_,_⟩:=K.tup d sd
 cases r with
 |tuple h1 h2 h3 h4 =>
  cases y with
  |ref b=>cases (show Value.ref _=Value.ref b from q);rfl
  |_=>simp[RelV] at q
theorem tZ{n:Nat}{S:cK->Prop}(K:Kb n S)(I:Inv X pins σ H s):∀ {ds:List cK} {ys:List V} {vs:List ae},bT X.K H ds ys->Vals ys vs->(∀ d∈ds,S d)->vs.map (λv=>(ju s.heap v,Kj v))=ds.zip ys
 |_,_,_,.nil,.nil,_=>rfl
 |_,_,_,.cons r rs,.cons q qs,h=>by obtain⟨as,z⟩:=r.reads I q;have sd:=h _ dk;obtain⟨_,_,_,l,_⟩:=K.tup _ sd;rw[gd,fC z l,yI K sd q z,tZ K I rs qs λd hd=>h d (dr _ hd),BE]
def lO(K:aE)(n:Nat)(S:cK->Prop):List V->Hp->VK->Prop:=λxs H Q=>match xs with
 |[.ref p]=>∃ ys ds,fh K H p ys/\bT K H ds ys/\(∀ d∈ds,S d)/\∀ (ps:List (cK × V)) l,ps.Perm (ds.zip ys)->(ps.Pairwise λa b=>cS (n+1) b.1 a.1=false)->H l=none->Q (.ref l) (upd H l (.lst (ps.map (·.2))))
 |_=>False
def vp {n:Nat} {S:cK->Prop} (K:Kb n S) (hu:X.A.units+n+40<e9):i3 X (.builtin "sorted") (lO X.K n S):=by
 intro pins s σ H xs us Q I r h;unfold lO at h;split at h
 ·rename_i p;obtain⟨ys,ds,hl,hr,hS,q⟩:=h;obtain⟨u,rfl,ru⟩:=Vals.one r;cases ru;obtain⟨vs,rv,pl,hz⟩:=I.list hl;have lay:∀ d∈ds,d.canLay0=true:=λd hd=>by obtain⟨_,_,_,l,_⟩:=K.tup d (hS d hd);exact l
  have mem:=wJ I hr rv;have hlen:=rv.length;refine sC.pH (κ:=tuples' true) (r:=λv=>Ki (n+1) ds (ju s.heap v)) (P:=λv=>∃ d as,d∈ds/\Reads s.heap v d as) pl.isList (by lia) (λv hv=>?_) (λh2 A' E' s' kp Q' q'=>?_) (λh2 s' kp=>zr K kp hS (by show X.A.units+1+1+n+31<e9;lia)) λh' out m pm pw kp eo=>?_
  ·obtain⟨d,y,as,a,b,c,z⟩:=mem v hv;exact⟨d,as,a,z⟩
  ·obtain⟨fs,f1,f2,f3⟩:=sV (h0:=s'.heap) K vs λv hv=>by obtain⟨d,y,as,a,b,c,z⟩:=mem v hv;exact⟨d,as,hS d a,PyProof.Rows.Reads.keeps kp z⟩
   refine LD (T:=.type "int") f1 (by lia) (λf hf=>?_) (by decide) q';obtain⟨i,t,rfl⟩:=f3 f hf;exact .now
  ·have back:∀ v∈out,∃ d y as,d∈ds/\Rep X.K H d y/\RelV y v/\Reads s.heap v d as:=λv hv=>mem v (pm.mem_iff.mp hv);have rel:∀ l:List ae,(∀ v∈l,v∈out)->Vals (l.map Kj) l:=by
    intro l
    induction l with
    |nil=>exact λ_=>.nil
    |cons v l ih =>intro hm;obtain⟨d,y,as,a,b,c,z⟩:=back v (hm v dk);exact .cons (by rw[yI K (hS d a) c z];exact c) (ih λu hu=>hm u (dr _ hu))
   have z2:=rel out λ_ h=>h;have ol:=pm.length_eq;have e2:(out.map λv=>(ju s.heap v,Kj v)).map (·.2)=out.map Kj:=by rw[fe];rfl
   have q':=q (out.map λv=>(ju s.heap v,Kj v)) (s.heap.objs.size+1) (by rw[<- tZ K I hr rv hS];exact pm.map _) ?_ (I.b9.fresh (EH _))
   ·rw[e2] at q';exact⟨.ref (s.heap.objs.size+1),_,I.laid (a:=s.heap.objs.size+1) (t':=s.toks) kp (EH _) (show iS X.prog X.w _ h' _ (.lst (out.map Kj)) from⟨by rw[b6];lia,out,m,z2,eo⟩),rfl,q'⟩
   rw[iO];refine pw.imp_of_mem λ{x y} mx my hle=>?_;obtain⟨d,_,as,md,_,_,rd⟩:=back x mx;obtain⟨e,_,bs,me,_,_,re⟩:=back y my;rw[fC rd (lay d md),fC re (lay e me)] at *
   have:=Bu K.ai hS me (hS d md);rw[<- this];exact decide_eq_false (by lia)
 ·exact h.elim
end
end L2
namespace L2.Q
open PySem.SeqAt
section
variable {X:Cx}{K:aE}{Hs H:Hp}
def g8(xs:List D):nL xs=xs.map D.py:=by
 induction xs with
 |nil=>rfl
 |cons x xs ih=>rw[nL,ih];rfl
def zE{xs:List D}:∀ {vs:List V},bT K H xs vs->∀ p∈xs.zip vs,Rep K H p.1 p.2:=by
 induction xs with
 |nil=>intro vs r p hp;simp at hp
 |cons x xs ih =>
  intro vs r p hp;obtain⟨u,us,rfl,r1,rs⟩:=r.c;rw[BE] at hp;rcases eB.mp hp with rfl|hp
  ·exact r1
  ·exact ih rs p hp
def uX(l:List (D × V))(h:∀ p∈l,Rep K H p.1 p.2):bT K H (l.map (·.1)) (l.map (·.2)):=by
 induction l with
 |nil=>exact .nil
 |cons p l ih=>exact .cons (h p dk) (ih λq hq=>h q (dr _ hq))
def BZ(n:Nat)(S:cK->Prop):W1:=λm x Q=>match x with
 |.list xs=>m=.sh/\(∀ d∈xs,d4 12 d=true/\S d.py)/\∀ ms:List D,ms.Perm xs->(ms.Pairwise λa b=>cS (n+1) b.py a.py=false)->Q (.ow false) (.list ms)
 |_=>False
def Ad{n:Nat}{S:cK->Prop}:zi K (lO K n S) (BZ n S):=by
 intro Hs H m x v As Qd Qv w rx h f;have r1:=rx.rep w
 cases r1 with
 |@list _ _ R6 z s q =>
  obtain⟨rfl,hS,h⟩:=h;obtain⟨_,rx⟩:=rx
  cases rx with
  |@list _ f7 _ z' s' q' =>
   have hl:=q'.length;have ez:(nL R6).zip f7=(R6.zip f7).map λp=>(p.1.py,p.2):=by rw[g8,List.zip_map_left];rfl
   refine⟨_,nL R6,bP.seq w.sub s',Rep.OL.2 (q'.same w.sub) 12 λd hd=>(hS d hd).1,λd hd=>?_,λps l hp hw hn=>?_⟩
   ·rw[g8] at hd;obtain⟨e,he,rfl⟩:=b5.mp hd;exact(hS e he).2
   ·obtain⟨m',rfl,pm⟩:=TS.eV hp ez;have p1:(m'.map (·.1)).Perm R6:=by have:=pm.map (·.1);rwa[LN (LX hl)] at this
    have rr:=uX (K:=K) (H:=Hs) m' λp hp=>zE q' p (pm.mem_iff.mp hp);rw[show(m'.map λp=>(p.1.py,p.2)).map (·.2)=m'.map (·.2) by rw[fe];rfl];refine f.OQ w (by rw[p1.length_eq];lia) rr (h _ p1 ?_) l hn;rw[iO] at hw ⊢;exact hw
 |_=>exact h.elim
def Hd {n:Nat} {S:cK->Prop} (KS:Kb n S) (hu:X.A.units+n+40<e9) (hK:autoParam (X.K=K) bv):i3 X (.builtin "sorted") (lO K n S):=by subst hK;exact vp KS hu
end
end L2.Q
namespace L2
open PySem.SeqAt
section
variable {X:Cx}
def Fq(K:aE):V->List V->Hp->VK->Prop:=λx xs H Q=>∃ l ys ds y d,∃ j:Nat,x=.ref l/\xs=[y]/\fh K H l ys/\bT K H ds ys/\Rep K H d y/\(∀ e∈ds,e.canLay0=true/\e.depth<=20)/\d.canLay0=true /\ (∃ e,ds[j]? = some e/\PyData.eqv e d=true)/\(∀ (m:Nat) e,m<j->ds[m]? = some e->PyData.eqv e d=false)/\Q (.int j) H
def zT (hu:X.A.units+64<e9):Og X "list.index" (Fq X.K):=by
 intro pins s σ H x vs v us Q I rx rv h;obtain⟨l,ys,ds,y,d,j,rfl,rfl,hl,hr,hd,hS,ld,⟨e,ej,eq⟩,E3,q⟩:=h;cases rx;obtain⟨u,rfl,ru⟩:=Vals.one rv;obtain⟨its,R7,pl,hz⟩:=I.list hl;obtain⟨as,rd⟩:=hd.reads I ru;obtain⟨bs,ra⟩:=bT.reads I hr R7;have len:its.length=ds.length:=ReadsAll.length _ _ _ ra;have at':∀ (m:Nat) (v:ae),its[m]? = some v->∃ e cs,ds[m]? = some e/\Reads s.heap v e cs/\ju s.heap v=e:=λm v hv=>by obtain⟨e,cs,h1,h2⟩:=cO ra m v hv;exact⟨e,cs,h1,h2,fC h2 (hS e (k7 h1)).1⟩
 have jl:j<ds.length:=(iE.mp ej).1;have jl':j<its.toArray.size:=by rw[iF];lia
 have zs:bX<2 ^ 62:=by rw[j3];decide
 have hlen:=R7.length;obtain⟨⟨cls,dd,data,sl⟩,ho,hc,n,hdt⟩:=id pl.isList;simp only at hc hdt;subst hc hdt;refine call_meets F.slot_list_index ⟨_,ho,rfl⟩ F.entry_list_index (F.args_list_index_2 _ _) (list_indexAt l its.toArray n dd sl u (λv=>PyData.eqv (ju s.heap v) d) j jl' (by lia) ?_ λm hm h'=>?_) ⟨ho,λv hv=>?_,⟨.int j,H,I.tok _,⟨_,rfl⟩,q⟩⟩
 ·obtain⟨e',cs,h1,_,h3⟩:=at' j its.toArray[j] (by simp at jl' ⊢);rw[h3];rw[ej] at h1;cases h1;exact eq
 ·obtain⟨e',cs,h1,_,h3⟩:=at' m its.toArray[m] (by simp at hm ⊢);rw[h3];exact E3 m e' h' h1
 ·obtain⟨m,hm⟩:=GA.mp (show v∈its by simpa using hv);obtain⟨e',cs,h1,h2,h3⟩:=at' m v hm;rw[h3];have:=hS e' (k7 h1);exact eqAt_reads e' d X.A.in1 s _ _ _ _ h2 rd this.1 ld (by show X.A.units+1+_<e9;lia)
def nU:List V->Hp->VK->Prop:=λxs H Q=>match xs with
 |[.ref p]=>∃ kvs b0 sh,Rd H p (.dT kvs)/\(∀ k∈kvs.map (·.1),gX k=b0 :: sh) /\
   ∀ zs ms l,bR H zs ms->ms.Perm (kvs.map (·.1))->(ms.Pairwise λa b=>fv b a=false)->H l=none->Q (.ref l) (upd H l (.lst zs))
 |_=>False
def qZ (hc:X.calm=true):i3 X (.builtin "sorted") nU:=by
 intro pins s σ H xs us Q I r h;unfold nU at h;split at h
 ·rename_i p;obtain⟨kvs,b0,sh,e,hs,q⟩:=h;obtain⟨u,rfl,ru⟩:=Vals.one r;cases ru;obtain⟨z,y,ps,rel,o,es,ep,h1,h2,h3,h4,h5⟩:=(show iS X.prog X.w H s.heap p (.dT kvs) from I.rd e)
  obtain⟨ta,va⟩:=wR (prog:=X.prog) (w:=X.w) rel;have hlen:es.size=kvs.length:=by have:=congrArg List.length h4;rw[BH,b6] at this;rw[this];exact rel.length.symm
  have oy:ps.length=kvs.length:=rel.length.symm;refine sC.lX (κ:=tuples' true) (R:=λvs=>Vals (ps.map λq=>V.ref q.2.1) vs) (r:=λv=>Cb (kvs.map (·.1)) (kO H v)) (P:=λv=>∃ b k,v=.ref b/\H b=some (.tup (k.map kV))/\gX k=b0 :: sh/\k∈kvs.map (·.1)) (λA' E' Q' hA hQ=>?_) (λvs rv=>?_) (λvs rv v hv=>?_) (λvs rv h2 A' E' s' kp Q' q'=>?_) (λs' kp=>ou I kp) λvs h' a out n tk rv pm pw kp ha eo=>?_
  ·refine sC.jr (vL (es:=es) (ep:=ep) y) (hA.trans (I.ok.hd hc)) ⟨o,h1,h2,h3⟩ (by lia) λh' tk acc kp hz y8=>hQ _ h' tk ?_ kp hz;have hv:acc.toList=(ps.map (entryOfKey (BD (kg X.prog X.w)))).map (·.key):=by
    apply Dp;intro i;by_cases hi:i<es.size
    ·have i9:i<acc.size:=by rw[y8.1];exact hi
     obtain⟨en,e1,e2⟩:=y8.2 i acc[i] (by simp[i9]);rw[<- h4,kM,mh,mh,e1];simp[i9,e2]
    ·rw[<- h4,kM,mh,mh,EI (by rw[y8.1];lia),EI (by lia)];rfl
   rw[hv];exact va
  ·have:=rv.length;rw[b6] at this;lia
  ·obtain⟨_,mem⟩:=ta.keys rv;obtain⟨b,k,e1,e2,e3⟩:=mem v hv;exact⟨b,k,e1,e2,hs k e3,e3⟩
  ·obtain⟨fs,f1,f2,f3⟩:=kat_tups I kp ta rv hs
   cases b0 with
   |true =>refine LD (T:=.type "int") f1 (by lia) (λf hf=>?_) (by decide) q';obtain⟨i,t,rfl⟩:=(f3 f hf).1 rfl;exact .now
   |false =>refine LD (T:=.type "str") f1 (by lia) (λf hf=>?_) (by decide) q';obtain⟨i,t,rfl⟩:=(f3 f hf).2 rfl;exact .now
  ·obtain⟨ek,mem⟩:=ta.keys rv;obtain⟨zs,z1,z2⟩:=bR.of (H:=H) (ks:=kvs.map (·.1)) out λv hv=>mem v (pm.mem_iff.mp hv);have zl:=z2.length;have ol:=pm.length_eq;have vl:=rv.length;rw[b6] at vl;have M0:(out.map (kO H)).Perm (kvs.map (·.1)):=by rw[<- ek];exact pm.map _
   refine⟨.ref a,_,I.laid (a:=a) (t':=tk) kp ha (show iS X.prog X.w _ h' _ (.lst zs) from⟨by lia,out,n,z2,eo⟩),rfl,q zs _ _ z1 M0 ?_ (I.b9.fresh ha)⟩;rw[iO];refine pw.imp_of_mem λ{x y} mx my hle=>?_;obtain⟨b,k,rfl,hb,kk⟩:=mem x (pm.mem_iff.mp mx);obtain⟨c,m,rfl,hc,km⟩:=mem y (pm.mem_iff.mp my);rw[bL hb,bL hc] at *
   have:=j_ (L:=kvs.map (·.1)) ((hs m km).trans (hs k kk).symm) km;rw[<- this];exact decide_eq_false (by lia)
 ·exact h.elim
end
end L2
namespace L2.Q
open PySem.SeqAt
section
variable {X:Cx}{K:aE}
def fX:W1:=λ_ x Q=>match x with
 |.dT kvs=>∃ b0 sh,(∀ p∈kvs,gX p.1=b0 :: sh)/\∀ ms:List (List Key),ms.Perm (kvs.map (·.1))->(ms.Pairwise λa b=>fv b a=false)->Q (.ow true) (.list (ms.map kr))
 |_=>False
def eZ:zi K nU fX:=by
 intro Hs H m x v As Qd Qv w rx h f;have r1:=rx.rep w
 cases r1 with
 |@dT a vs kvs kk e q =>
  obtain⟨b0,sh,hs,h⟩:=h;have hlen:=q.length;rw[b6] at hlen;have ez:((kvs.map (·.1)).zip vs).map (·.1)=kvs.map (·.1):=LN (by rw[b6];exact LX hlen);refine⟨_,b0,sh,e,λk hk=>?_,λzs ms l tz pm pw hl=>?_⟩
  ·rw[ez] at hk;obtain⟨p,hp,rfl⟩:=b5.mp hk;exact hs p hp
  ·rw[ez] at pm;refine f.lst w (by rw[b6,pm.length_eq,b6];exact kk.1) (gn (K:=K) tz λk hk=>?_) (dI ms) (h ms pm pw) l hl;obtain⟨p,hp,rfl⟩:=b5.mp (pm.mem_iff.mp hk);exact kk.2 p hp
 |_=>exact h.elim
def jT (hc:autoParam (X.calm=true) bv):i3 X (.builtin "sorted") nU:=qZ hc
end
end L2.Q
namespace L2.Q.R
open PySem.SeqAt
section
variable {Q:Md->L2.Q.D->Prop}{m:Md}
def Im{kvs:List (List Key × L2.Q.D)}:fX m (.dT kvs) Q = ∃ b0 sh,(∀ p∈kvs,gX p.1=b0 :: sh)/\∀ ms:List (List Key),ms.Perm (kvs.map (·.1))->(ms.Pairwise λa b=>fv b a=false)->Q (.ow true) (.list (ms.map kr)):=rfl
end
end L2.Q.R
namespace L2
open PySem.SeqAt
section
variable {X:Cx}
def Fz(K:aE):R2:=λx y H Q=>∃ l xs n,x=.ref l/\y=.int n/\fh K H l xs/\0<=n/\n<=4000/\xs.length<=1000/\∀ p,H p=none->Q (.ref p) (upd H p (.lst (List.replicate n.toNat xs).flatten))
def Bd{xs:List V}{vs:List ae}(h:Vals xs vs)(k:Nat):Vals (List.replicate k xs).flatten (List.replicate k vs).flatten:=by
 induction k with
 |zero=>exact .nil
 |succ k ih=>rw[EB,EB,GB,GB];exact h.append ih
def tR{α:Type}(xs:List α)(k:Nat):(List.replicate k xs).flatten.length=xs.length*k:=by
 induction k with
 |zero=>rfl
 |succ k ih=>rw[EB,GB,ot,ih,Nat.mul_succ];lia
def Ep:eJ X (oq .Mult) (Fz X.K):=by
 intro pins s σ H x y v u Q I rx ry h;obtain⟨l,xs,n,rfl,rfl,hH,h0,h1,h2,q⟩:=h;cases rx;obtain⟨t,rfl⟩:=ry;obtain⟨its,r,pl,z⟩:=I.list hH;have hl:=r.length;obtain⟨⟨cls,dd,data,sl⟩,ho,hc,k,hd⟩:=id pl.isList;simp only at hc hd;subst hc hd;have hm:its.toArray.size*n.toNat<=1000*4000:=Nat.mul_le_mul (by rw[iF];lia) (by lia);have fT:=j3;refine wpAny_binaryOp_repeat_ref (T := "list") (U := "int") (by decide) ⟨_,ho,rfl⟩ (λs'=>typeIs_int s' n t) noFill_list_mul PySem.F.fills_int_mul PySem.F.slot_int_rmul repeat_list PySem.F.slot_int_index.lookup (call_meets PySem.F.slot_int_rmul (typeIs_int s n t) PySem.F.entry_int_rmul (PySem.F.args_int_rmul_2 _ _) (lm_int_rmul_list_any n t l its.toArray k dd sl) ⟨ho,rfl,⟨_,ho,rfl⟩,call_meets PySem.F.slot_list_mul ⟨_,ho,rfl⟩ PySem.F.entry_list_mul (PySem.F.args_list_mul_2 _ _) (lm_list_mul_any l its.toArray k dd sl n t (by simp[Builtin.List.listFitsIndex];lia) (by lia) (by simp only[Builtin.List.listTooLong,decide_eq_true_eq];lia)) ⟨ho,?_⟩⟩)
 rw[listMul_foldl_if];exact⟨.ref _,_,I.Uc (t':=s.toks) (Bd r _) (by
  rw[tR];have:xs.length*n.toNat<=1000*4000:=Nat.mul_le_mul h2 (by lia);lia),rfl,q _ I.fresh⟩
end
def hJ.sub{lt:cK->cK->Bool}{S U:cK->Prop}(T:hJ lt S)(h:∀ x,U x->S x):hJ lt U :=
 ⟨λx a=>T.rg x (h x a),λx y z a b c=>T.tr x y z (h x a) (h y b) (h z c),λx y a b=>T.ai x y (h x a) (h y b),λx y a b=>T.eqv x y (h x a) (h y b)⟩
def dW(p:Str × Int):cK:=.tuple [.str p.1,.int p.2]
def wx(x:cK):Prop:=∃ (i:Int) (ps:List (Str × Int)),x=.tuple [.int i,.list (ps.map dW)]/\∀ p∈ps,PyData.strOk p.1=true
def Er(p q:Str × Int):p5 1 (dW p) (dW q):=by
 unfold dW;rw[p5];intro j x y hx hy _
 match j with
 |0=>cases hx;cases hy;rw[p5];trivial
 |1=>cases hx;cases hy;rw[p5];trivial
 |j+2=>simp at hx
def Du(ps:List (Str × Int))(h:∀ p∈ps,PyData.strOk p.1=true):PyData.canLayAll0 (ps.map dW)=true/\PyData.depthAll (ps.map dW)<=2:=by
 induction ps with
 |nil=>exact⟨rfl,by simp[PyData.depthAll]⟩
 |cons p ps ih =>
  have ih:=ih λq hq=>h q (dr _ hq);have hp:=h p dk;rw[gd];constructor
  ·simp only[PyData.canLayAll0,lT];refine⟨?_,ih.1⟩;simp[dW,PyData.canLay0,PyData.canLayAll0,hp]
  ·have h2:=ih.2;simp only[PyData.depthAll];have:(dW p).depth<=2:=by simp[dW,PyData.depth,PyData.depthAll]
   lia
def R8:Kb 2 wx where
 ai:=((hJ.pair (hJ.int 2) (hJ.list (hJ.pair (hJ.str 0) (hJ.int 0)))).sub) λx ⟨i,ps,e,_⟩=>⟨_,_,e,⟨i,rfl⟩,_,rfl,λy hy=>by
  obtain⟨p,_,rfl⟩:=b5.mp hy;exact⟨_,_,rfl,⟨_,rfl⟩,_,rfl⟩⟩
 tup:=by
  rintro x ⟨i,ps,rfl,h⟩;have:=Du ps h;refine⟨i,_,rfl,?_,?_⟩
  ·simp[PyData.canLay0,PyData.canLayAll0,this.1]
  ·simp only[PyData.depth,PyData.depthAll];lia
 len:=by rintro xs ys ⟨i,ps,e,_⟩ ⟨j,qs,e2,_⟩;cases e;cases e2;rfl
 cm:=by
  rintro x y ⟨i,ps,rfl,_⟩ ⟨j,qs,rfl,_⟩;rw[p5];intro k x y hx hy _
  match k with
  |0=>cases hx;cases hy;rw[p5];trivial
  |1 =>cases hx;cases hy;rw[p5];intro k x y hx hy _;obtain⟨p,_,rfl⟩:=b5.mp (k7 hx);obtain⟨q,_,rfl⟩:=b5.mp (k7 hy);exact Er p q
  |k+2=>simp at hx
end L2
namespace L2.Q
open PySem.SeqAt
section
variable {X:Cx}{K:aE}{a b:Expr}{ta tb:WE}{pos:Pos}
def Ay:W2:=λ_ x _ y Q=>match x with
 |.list xs=>match y with
  |.int n=>(0<=n/\n<=4000/\xs.length<=1000)/\eK xs=true/\Q (.ow true) (.list (List.replicate n.toNat xs).flatten)
  |_=>False
 |_=>False
def za{H:Hp}{xs:List D}{vs:List V}(h:bT K H xs vs)(k:Nat):bT K H (List.replicate k xs).flatten (List.replicate k vs).flatten:=by
 induction k with
 |zero=>exact .nil
 |succ k ih=>rw[EB,EB,GB,GB];exact h.append ih
def wX{xs:List D}(h:eK xs=true)(k:Nat):eK (List.replicate k xs).flatten=true:=by
 induction k with
 |zero=>rfl
 |succ k ih=>rw[EB,GB,eO,h,ih];rfl
def Dl:kU K (Fz K) Ay:=by
 intro Hs H m x v As n y u Bs Qd Qv w rx ry h f;have r1:=rx.rep w;have r2:=ry.rep w
 cases r1 with
 |list z s q=>cases r2 with
  |int n =>obtain⟨⟨h0,h1,h2⟩,fl,h⟩:=h;have hl:=q.length;refine⟨_,_,_,rfl,rfl,s,h0,h1,by lia,?_⟩;refine f.lst w ?_ (za q _) (wX fl _) h;rw[tR,j3];have:List.length _*n.toNat<=1000*4000:=Nat.mul_le_mul h2 (by lia);exact iP this (by decide)
  |_=>exact h.elim
 |_=>exact h.elim
def JW(hK:autoParam (X.K=K) bv):eJ X (oq .Mult) (Fz K):=by subst hK;exact Ep
def Gy(ha:QE X K a ta)(hb:QE X K b tb)(hK:autoParam (X.K=K) bv):QE X K (.BinOp a .Mult b pos) (ay Ay ta tb):=Nf (JW hK) Dl ha hb
def tH(to te:WE):WE:=λρ Q=>to ρ λ_ x=>match x with
 |.list xs=>te ρ λ_ y=>d4 12 (.list xs)=true/\d4 12 y=true/\∃ j:Nat,(∃ z,xs[j]? = some z/\ip z y=true)/\(∀ (i:Nat) z,i<j->xs[i]? = some z->ip z y=false)/\Q .sh (.int j)
 |_=>False
def De{o e:Expr}{to te:WE}{apos eP:Pos}(ho:QE X K o to)(he:QE X K e te)(hK:autoParam (X.K=K) bv) (tT:autoParam (zI o "index" X.env (dn o X.env)=dn o X.env) bv) (t5:autoParam (((kA eP (b4 [e] X.env)).all (λx=>!x.1) && (backToKw eP (CH [] X.env)).all (λx=>x.1.isSome)
   && decide ([e].length+([]:List oQ).length+(if ([]:List oQ).isEmpty then 0 else 1)<30))=true) bv)
  (hline:autoParam ((apos.endLine == eP.line)=true) bv) (wm:autoParam (b4 (e :: []) X.env=(false,dn e X.env) :: b4 [] X.env) bv) (AQ:autoParam ((kA eP (b4 [] X.env)).any (·.1)=false) bv) (hu:X.A.units+64<e9:=by assumption) :
  QE X K (.Call (.Attribute o "index" apos) [e] [] eP) (tH to te):=by
 subst hK;refine PE.imp (MB PySem.F.plainAttrs_list PySem.F.slot_list_index PySem.F.type_list_index (zT hu) ho (qA he vE wm) tT t5 hline wm AQ) λσ H Qv hx=>kE hx λHs ρ ai Q sr h f=>?_;refine⟨Hs,ρ,ai,_,sr,h,λv H1 bE m x As g1 r1 f1 q1=>?_⟩;have r:=r1.rep g1.wf
 cases r with
 |list hz s rs =>
  refine⟨.inl ⟨rfl,_,s⟩,bE,ρ,ai,_,sr.grow g1,q1,λy H2 aT m2 x2 hG g2 r2 f2 q2=>?_⟩;obtain⟨o1,o2,j,⟨z,ez,eq⟩,E3,q⟩:=q2;have rr:=(r1.grow g2).rep g2.wf
  cases rr with
  |list RT s' Vz =>
   have l2:=iw 12 _ o2;have o1':∀ d∈_,d4 11 d=true:=GH.mp (show List.all _ (d4 11)=true from o1);refine⟨_,_,_,_,_,j,rfl,rfl,s',Rep.OL.2 Vz 11 o1',(r2.rep g2.wf).l2 o2,λe he=>?_,l2.1,⟨z.py,?_,eq⟩,λm e hm he=>?_,Fin.sh (Fin.after f (g1.trans g2)) g2.wf (.int _) q⟩
   ·rw[g8] at he;obtain⟨d,hd,rfl⟩:=b5.mp he;have:=iw 11 d (o1' d hd);exact⟨this.1,by lia⟩
   ·rw[g8,kM,ez];rfl
   ·rw[g8,kM] at he;obtain⟨d,hd,rfl⟩:=GY.mp he;exact E3 m d hm hd
 |_=>exact q1.elim
abbrev v8:W1:=BZ 2 wx
def Ho (hK:autoParam (X.K=K) bv) (hu:X.A.units+64<e9:=by assumption):i3 X (.builtin "sorted") (lO K 2 wx):=Hd R8 (by lia) hK
def yP:zi K (lO K 2 wx) v8:=Ad
end
end L2.Q
namespace L2.Q.R
open PySem.SeqAt
section
variable {Q:Md->L2.Q.D->Prop}{m m':Md}{x y:L2.Q.D}{xs:List L2.Q.D}{O4 te:WE}{ρ:Env}{a:Int}
def KQ:Ay m (.list xs) m' (.int a) Q=((0<=a/\a<=4000/\xs.length<=1000)/\eK xs=true/\Q (.ow true) (.list (List.replicate a.toNat xs).flatten)):=rfl
def Jp:tH O4 te ρ Q=O4 ρ λ_ x=>cE x (f:=λx=>qV x λxs=>te ρ λ_ y=>d4 12 (.list xs)=true/\d4 12 y=true/\∃ j:Nat,(∃ z,xs[j]? = some z/\ip z y=true)/\(∀ (i:Nat) z,i<j->xs[i]? = some z->ip z y=false)/\Q .sh (.int j)) ⟨⟩:=by unfold tH cE qV;rfl
def JL:v8 m (.list xs) Q=(m=.sh/\(∀ d∈xs,d4 12 d=true/\wx d.py)/\∀ ms:List L2.Q.D,ms.Perm xs->(ms.Pairwise λa b=>PySem.SeqAt.cS 3 b.py a.py=false)->Q (.ow false) (.list ms)):=rfl
end
end L2.Q.R
namespace L2
def jf(K:aE):V->Hp->VK->Prop:=λx H Q=>match x with
 |.ref p=>∃ ks:List Key,fh K H p (ks.map kV)/\ks.length<=1000/\∀ ms:List Key,ms.Nodup->(∀ k,k∈ms↔k∈ks)->Q (.int ms.length) H
 |_=>False
section
variable {X:Cx}{e:Expr}{te:TE}{p p2 pos k6:Pos}
def vh (hc:X.calm=true) (hg:Gl X "len") (hm:X.mg "len" = none) (x3:Gl X "set") (mv:X.mg "set" = none) (he:PE X e te)(hv:kK "len" = some (.builtin "len")) (Pj:kK "set" = some (.type "set"))(ll:autoParam (b4 [e] X.env=(false,dn e X.env) :: b4 [] X.env) bv) (hs:autoParam (b4 [.Call (.Name "set" p2) [e] [] k6] X.env=(false,dn (.Call (.Name "set" p2) [e] [] k6) X.env) :: b4 [] X.env) bv) :
  PE X (.Call (.Name "len" p) [.Call (.Name "set" p2) [e] [] k6] [] pos) (Qz (jf X.K) te):=by
 intro pins s σ H Q I h;refine CF (AK I hg hm hv ?_ (by decide) (by decide));refine PyProof.Rows.callWith_builtin1 ?_ hs rfl;rw[hs];refine Calls.spliced_cons ?_;refine CF (AK I x3 mv Pj ?_ (by decide) (by decide));refine PyProof.Rows.callWith_type1 ?_ ll rfl;rw[ll];refine Calls.spliced_cons (dz (he pins s σ H _ I h) λu s1 dQ=>L2.g7 dQ λx H1 I1 r1 q1=>Calls.spliced_nil ?_);have q1:jf X.K x H1 Q:=q1;obtain⟨a,rfl⟩:∃ a,x=.ref a:=by
  unfold jf at q1;split at q1
  ·exact⟨_,rfl⟩
  ·exact q1.elim
 obtain⟨ks,hl,Nw,q⟩:=q1;cases r1;obtain⟨vs,rv,pl,hz⟩:=I1.list hl;obtain⟨xs,ex,ek,hx⟩:=lK rv;have D7:X.A.handled=none:=I1.ok.hd hc;have hlen:xs.length=ks.length:=by rw[<- ek,b6]
 have oD:∀ p∈xs,(kg X.prog X.w).is p.1 p.2=true:=λp hp=>by
  obtain⟨k,v⟩:=p;have r:=hx _ hp;rw[V7]
  cases k with
  |inl i=>obtain⟨t,e⟩:=r;rw[show v=_ from e];exact Tg ..
  |inr x=>obtain⟨t,e⟩:=r;rw[show v=_ from e];exact Ti ..
 refine TS.gO (knd:=kg X.prog X.w) D7 pl.isList (by simpa using ex) oD (by lia) o_ λh2 tk dE S m1 m2 kp=>?_;refine Calls.spliced_nil ?_;obtain⟨⟨o,es,ep,t,ho,hex,hd,T,hM,hL,A6⟩,nd,is⟩:=S;have aK':dE.length<=1000:=by
  have:=TS.cA nd (m:=ks) λk hk=>by rw[<- ek];exact(m1 k).mp hk
  rw[b6] at this;lia
 have Pk:es.size=dE.length:=by have:=congrArg List.length A6;simpa using this
 refine call_len_set (s:={ s1 with heap:=h2,toks:=tk }) ho hex hd T.fits (by lia) ?_;have I2:Inv X pins σ H1 { s1 with heap:=h2,toks:=tk+1+1 }:=I1.kept kp;refine⟨.int dE.length,H1,I2,⟨_,by rw[Pk]⟩,?_⟩;have:=q (dE.map (·.1)) nd λk=>by rw[m1,ek]
 rwa[b6] at this
end
end L2
namespace L2.Q
section
variable {X:Cx}{K:aE}{a b c e:Expr}{ta tb te:WE}{pos p p2 k6:Pos}
def oV:W1:=λ_ x Q=>match x with
 |.list xs=>∃ ks:List Key,xs=ks.map kX/\ks.length<=1000/\∀ ms:List Key,ms.Nodup->(∀ k,k∈ms↔k∈ks)->Q .sh (.int ms.length)
 |_=>False
def xN:Nc K (jf K) oV:=by
 intro Hs H m x v As Qd Qv w rx h f;have r1:=rx.rep w
 cases r1 with
 |list z s q =>obtain⟨ks,rfl,hz,h⟩:=h;obtain⟨e,ok⟩:=oO q;subst e;exact⟨ks,s,hz,λms nd mm=>f.sh w (.int _) (h ms nd mm)⟩
 |_=>exact h.elim
def Ar (hg:Gl X "len") (hm:X.mg "len" = none) (x3:Gl X "set") (mv:X.mg "set" = none) (he:QE X K e te) (hc:autoParam (X.calm=true) bv) (hK:autoParam (X.K=K) bv) (ll:autoParam (b4 [e] X.env=(false,dn e X.env) :: b4 [] X.env) bv) (hs:autoParam (b4 [.Call (.Name "set" p2) [e] [] k6] X.env=(false,dn (.Call (.Name "set" p2) [e] [] k6) X.env) :: b4 [] X.env) bv) :
  QE X K (.Call (.Name "len" p) [.Call (.Name "set" p2) [e] [] k6] [] pos) (gE oV te):=by
 subst hK;refine PE.imp (vh hc hg hm x3 mv he gq tO ll hs) λσ H Qv eI=>?_;obtain⟨Hs,ρ,ai,Q,sr,h,fin⟩:=eI;exact⟨Hs,ρ,ai,_,sr,h,λv H1 bE m x As g1 r1 f1 q1=>xN bE H1 m x v As Q Qv g1.wf r1 q1 (Fin.after fin g1)⟩
def R9(ta tb:WE):WE:=λρ Q=>ta ρ λm x=>m=.ow true/\match x with
 |.list xs=>tb ρ λ_ y=>intD y λk=>∃ d,L2.gv xs k=some d/\Q (Pp d) d
 |_=>False
def JN(ha:QE X K a ta)(hb:QE X K b tb)(hs:QJ b:=by exact λ_ _=>rfl)(hK:autoParam (X.K=K) bv):QE X K (.Subscript a b pos) (R9 ta tb):=by
 refine PE.imp (T8 (kIx hK) ha hb hs) λσ H Qv hx=>kE hx λHs ρ ai Q sr h f=>?_;refine⟨Hs,ρ,ai,_,sr,h,λv H1 bE m x As g1 r1 f1 q1=>?_⟩;obtain⟨rfl,q1⟩:=q1;obtain⟨r1,ne⟩:=r1
 cases r1 with
 |sh _ r=>exact absurd rfl ne
 |@list a vs xs As z e rs =>
  refine⟨bE,ρ,ai,_,sr.grow g1,q1,λu H2 aT m2 y Bs g2 r2 f2 q2=>?_⟩;have ry:=r2.rep g2.wf
  cases ry with
  |int k =>
   obtain⟨d,e3,q⟩:=q2;obtain⟨j,ej,ed⟩:=HQ e3;have nd:As.Nodup:=(kN.mp f1.1).2;obtain⟨w,B,ew,mP,sB,_⟩:=rs.at ed nd;have r3:=mP.grow g2.sh g2.all;refine .inl ⟨vs,w,.inl (.inl (g2.all _ _ e)),uT (by rw[<- rs.length];exact ej) ew,?_⟩
   cases hf:d.flat with
   |true =>rw[Pp,hf] at q;exact f w H2 aT .sh d [] (g1.trans g2) ⟨rfl,(r3.rep g2.wf.sub λ_ _=>rfl).fL g2.wf.kC hf⟩ ⟨n9,λ_ h=>wa h⟩ q
   |false =>rw[Pp,hf] at q;refine f w H2 aT (.ow true) d B (g1.trans g2) ⟨r3,r3.ne hf⟩ ⟨sB.nodup nd,λc hc=>?_⟩ q;have:=f1.2 c (dr _ (sB.subset hc));exact⟨g2.ng this.1 (mP.own c hc).ne,this.2⟩
  |_=>exact q2.elim
 |_=>exact q1.elim
def SR.view{Hs H:Hp}(G:Hp)(s:bP Hs H){ρ:Env}{σ:St}{ai:List ah}(r:SR K Hs H ρ σ ai):SR K H G (ρ.map (Option.map OZ)) σ []:=by
 induction r with
 |nil=>exact .nil
 |non _ ih=>exact .non ih
 |sh r _ ih=>exact .sh (r.same s) ih
 |xc _ ih=>exact .xc ih
 |ow _ r _ ih=>exact .sh (r.rep s λ_ _=>rfl) ih
 |lk _ r _ ih=>exact .sh (r.rep s λ_ _=>rfl) ih
 |ob _ _ ih=>exact .xc ih
def R_(i j:Nat)(hs xs:List D)(ρ:Env):Env:=(ρ.set j none).set i (some (.ow true (.list (hs++[.list xs]))))
def VC(i j:Nat)(hs xs:List D)(ρ:Env):Env:=((R_ i j hs xs ρ).map (Option.map OZ)).set j (some (.sh (.list xs)))
def hW'(o:Option Sl)(k:Sl->Prop):Prop:=match o with
 |some s=>k s
 |none=>False
def wU(i j:Nat)(te:WE):WS:=λE ρ=>JJ ρ[i]? λhs=>JJ ρ[j]? λxs=>eK xs=true/\hs.length<bX /\
 te (VC i j hs xs ρ) λm d=>hW' (asg (Fu m d) d) λsl=>E.nx ((R_ i j hs xs ρ).set j (some sl))
def yW{L:Str->Hp->Prop}{i j:Nat}{x:Str}{p1 p2 p3 pos':Pos}(hN:X.N.Nodup)(hj0:X.N[j]? = some x)(hx:Loc X.env.scope x)(hi:PE X a (ER i))(hj:PE X b (ER j))(he:QE X K e te)(iA:i≠j:=by decide)(hK:autoParam (X.K=K) bv) (s1:autoParam (xh (.Call (.Attribute a "append" p1) [b] [] p2) none pos.line X.env=pure false) bv) (b1:autoParam (zI a "append" X.env (dn a X.env)=dn a X.env) bv) (f1:autoParam (((kA p2 (b4 [b] X.env)).all (λx=>!x.1) && (backToKw p2 (CH [] X.env)).all (λx=>x.1.isSome) && decide ([b].length+([]:List oQ).length+(if ([]:List oQ).isEmpty then 0 else 1)<30))=true) bv) (l1:autoParam ((p1.endLine == p2.line)=true) bv) (t1:autoParam (b4 (b :: []) X.env=(false,dn b X.env) :: b4 [] X.env) bv) (q1:autoParam ((kA p2 (b4 [] X.env)).any (·.1)=false) bv) (hs:autoParam (xh e (some (.Name x p3)) pos'.line X.env=pure false) bv) (hf:X.fn x=true\/X.env.scope.names.lookup x=some .local:=by first|exact .inl rfl|exact .inr rfl|assumption) :
  zh X K L [.Expr (.Call (.Attribute a "append" p1) [b] [] p2) pos,.Assign [.Name x p3] e pos'] (wU i j te):=by
 subst hK;refine mI.imp (Wq (Qr (MB PySem.F.plainAttrs_list PySem.F.slot_list_append PySem.F.type_list_append Ue hi (qA hj vE t1) b1 f1 l1 t1 q1) s1) (Wr (TC hN hj0 hx he hs hf))) λD σ H hx=>cU hx λHs ρ ai E sr h k1 k2 k3 k4=>?_
 obtain⟨hs,ei,h⟩:=BK h;obtain⟨xs,ej,fl,Nw,h⟩:=BK h;obtain⟨a,ws,c,vs,fi,u1,u2,u3,u4,u5,u6,u7,iq⟩:=Fl iA sr ei ej fl Nw;refine⟨_,u1,.inl ⟨rfl,_,.inl (.inl u2)⟩,_,u4,a,ws,_,rfl,rfl,u2,u3,?_⟩;have rc:Rep X.K (upd H a (.lst (ws++[.ref c]))) (.list xs) (.ref c):=.list u7 (.inl (.inl u5)) (u6.same iq.wf.sub);have v0:=SR.view (upd H a (.lst (ws++[.ref c]))) iq.wf.sub iq.sr;obtain⟨t,st,v1⟩:=v0.xV rc j;have e0:σ.set j (some (.ref c))=σ:=by
  apply Dp;intro m;by_cases hm:j=m
  ·subst hm;rw[SK (by have:=(iE.mp u4).1;exact this),u4]
  ·rw[NK hm]
 rw[e0] at v1;have et:t=[]:=List.eq_nil_of_subset_nil st.subset;subst et;refine⟨upd H a (.lst (ws++[.ref c])),_,[],_,⟨v1,⟨bP.refl _,λ_ _ z=>z⟩,n9,λ_ h=>wa h⟩,h,λv H1 bE m d As g1 r1 f1 q1=>?_⟩;obtain⟨hU,r',fr⟩:=rZ iq.wf g1.sh g1.wf r1 f1.1 λa ha=>(f1.2 a ha).1;have gb:=gh iq.wf g1.sh g1.wf
 cases ea:asg (Fu m d) d with
 |none=>rw[ea] at q1;exact q1.elim
 |some sl =>rw[ea] at q1;obtain⟨c9,s'⟩:=(iq.grow gb).set j r' fr.1 (λa ha=>⟨(fr.2 a ha).1,λm=>(iq.sr.own a m).ne (fr.2 a ha).2⟩) ea;exact k1 _ H1 _ _ c9 gb.sh s' q1
end
end L2.Q
namespace L2.Q.R
section
variable {Q:Md->L2.Q.D->Prop}{m:Md}{x y:L2.Q.D}{xs:List L2.Q.D}{ta tb te:WE}{ρ:L2.Q.Env}{E:kY}{i j:Nat}
def Io:oV m (.list xs) Q = ∃ ks:List Key,xs=ks.map kX/\ks.length<=1000/\∀ ms:List Key,ms.Nodup->(∀ k,k∈ms↔k∈ks)->Q .sh (.int ms.length):=rfl
def L_:R9 ta tb ρ Q=ta ρ λm x=>m=.ow true/\cE x (f:=λx=>qV x λxs=>tb ρ λ_ y=>cE y (f:=λy=>intD y λk=>∃ d,L2.gv xs k=some d/\cE d (f:=λd=>Q (Pp d) d) ⟨⟩) ⟨⟩) ⟨⟩:=by unfold R9 cE qV;rfl
def Jx:wU i j te E ρ=cE ρ[i]? (f:=λo=>JJ o λhs=>cE ρ[j]? (f:=λo=>JJ o λxs=>eK xs=true/\hs.length<bX /\
 te (VC i j hs xs ρ) λm d=>cE (asg (Fu m d) d) (f:=λo=>put o λsl=>E.nx ((R_ i j hs xs ρ).set j (some sl))) ⟨⟩) ⟨⟩) ⟨⟩:=rfl
end
end L2.Q.R
namespace L2
section
variable {prog:d5}{w:eC}{A:e7}{E:ae->ax->Prop}{s:ax}
def h_{α β:Type _}(f:α->β)(l:List α):∀ k:Nat,(l.map f).eraseIdx k=(l.eraseIdx k).map f:=by
 induction l with
 |nil=>intro k;rfl
 |cons x l ih =>
  intro k
  cases k with
  |zero=>rfl
  |succ k=>rw[gd,FY,FY,gd,ih]
def xQ{κ:Type}[DecidableEq κ]{kd:HeapKind prog w κ}{d b:ah}{xs:List (κ × ah × ae)}{k:κ}{p0:ah × ae}{Q:Option DictEntry->ax->Prop}(hu:kd.room A)(hk:kd.is s.heap k b)(hm:s.heap.DictOfH kd d xs)(hz:xs.length<=bX)(h0:atKey xs k=some p0)(h:∀ j p h',xs[j]? = some (k,p)->h'.DictOfH kd d (xs.eraseIdx j)->Heap.SameBut d s.heap h'->Q (some (entryOfKey kd (k,p))) { s with heap:=h',toks:=s.toks+kd.draws k }):bq (aI prog w) A (Builtin.Dict.takeOut d (.ref b)) Q E s:=by
 obtain⟨o,es,ep,ho,hc,hd,he,oD,hn⟩:=hm;unfold Builtin.Dict.takeOut;refine tf ?_;refine aw (kd.pyHash hu hk (aw (wpAny_dictFind_heap (s:={ s with toks:=s.toks+kd.draws k }) hu hk ho hd he oD hn (λno=>?_) λj p hj=>?_)))
 ·rw[atKey_none_of_get no] at h0;cases h0
 ·refine aw (Lc (s:={ s with toks:=s.toks+kd.draws k }) ho hd ?_);rw[entry_at he j,hj];have Sb:j<es.size:=by rw[size_of_entries he];exact(iE.mp hj).1
  refine aw (wpAny_updateDictKeys (hz:=by have e:=size_of_entries he;lia) (hf:=by simp[Array.eraseIdxIfInBounds,Sb];lia) (s:={ s with toks:=s.toks+kd.draws k }) ho hd (bG (h j p _ hj ?_ (Heap.SameBut.update ..))));refine⟨_,_,ep+1,EG _ ho (Obj.isFreed_of_dict (Obj.data_mapDictKeys hd _)),hc.mapDictKeys _,Obj.data_mapDictKeys hd _,?_,λx hx=>?_,?_⟩
  ·show(es.eraseIdxIfInBounds j).toList=_;rw[Array.eraseIdxIfInBounds,dif_pos Sb,Array.toList_eraseIdx,he,h_]
  ·exact kd.keeps (oD x (SF hx)) ho hd (Heap.SameBut.update ..)
  ·exact(List.Sublist.map _ (List.eraseIdx_sublist ..)).nodup hn
def xq{κ:Type}[DecidableEq κ](kd:HeapKind prog w κ)(d b:ah) :
  MeetsIn prog w (Builtin.«dict.pop» ⟨[.ref d,.ref b],[]⟩) (λA R s=>kd.room A.in1/\∃ k xs p0,kd.is s.heap k b/\s.heap.DictOfH kd d xs/\xs.length<=bX/\atKey xs k=some p0 /\
   ∀ j p h',xs[j]? = some (k,p)->h'.DictOfH kd d (xs.eraseIdx j)->Heap.SameBut d s.heap h'->R (.ok (.ret p.2)) { s with heap:=h',toks:=s.toks+kd.draws k }) :=
 .of_wp λA R s eI=>by
  obtain⟨hu,k,xs,p0,hk,hm,hz,h0,h⟩:=eI;obtain⟨o,es,ep,ho,hc,hd,he,oD,hn⟩:=id hm;unfold Builtin.«dict.pop» Builtin.Dict.keyAndDefault;refine aw (aw (wpAny_notOrdered_dict hm.typeIs ?_));refine(show bq _ _ (pure (d,Value.ref b,none)) _ _ s from bG ?_);dsimp only;rw[if_neg (show ¬ ((keyPart (.ref b)).isSome=true) from kf)];refine aw (Lc ho hd (aw (bG ?_)));have ne:es.isEmpty=false:=by
   cases e:es.isEmpty with
   |false=>rfl
   |true =>
    have:es.size=0:=by simpa[Array.isEmpty] using e
    rw[size_of_entries he] at this;have:xs=[]:=List.eq_nil_of_length_eq_zero this;subst this;cases h0
  rw[ne];simp only[pf,if_false];refine aw (xQ hu hk hm hz h0 λj p h' hj Tp gL=>?_);simp only[Option.isNone_some,pf,if_false];exact aw (wpAny_letGo (bG ⟨_,rfl,h j p h' hj Tp gL⟩))
end
def KT.at{H:Hp}{kvs:List (List Key × V)}{xs:List (List Key × ah × ae)}(r:KT H kvs xs){k:List Key}{p:ah × ae}:∀ {j:Nat},xs[j]? = some (k,p)->∃ v,kvs[j]? = some (k,v)/\RelV v p.2:=by
 induction r with
 |nil=>intro j h;simp at h
 |@cons a q ps qs h t ih =>
  intro j hj
  cases j with
  |zero =>simp only[SG,Option.some.injEq] at hj;subst hj;obtain⟨k',v⟩:=a;obtain⟨h1,_,h2⟩:=h;simp only at h1;subst h1;exact⟨v,rfl,h2⟩
  |succ j=>exact ih (by simpa using hj)
def KT.erase{H:Hp}{kvs:List (List Key × V)}{xs:List (List Key × ah × ae)}(r:KT H kvs xs):∀ j:Nat,KT H (kvs.eraseIdx j) (xs.eraseIdx j):=by
 induction r with
 |nil=>intro j;exact .nil
 |@cons a q ps qs h t ih =>
  intro j
  cases j with
  |zero=>exact t
  |succ j=>exact .cons h (ih j)
section
variable {X:Cx}
def Ei (hu:X.A.units+1<e9):Og X "dict.pop" (λx xs H Q=>∃ a b kvs k,x=.ref a/\xs=[.ref b]/\H a=some (.dT kvs)/\H b=some (.tup (k.map kV))/\k∈kvs.map (·.1)/\∀ j v,kvs[j]? = some (k,v)->Q v (upd H a (.dT (kvs.eraseIdx j)))):=by
 intro pins s σ H x vs v us Q I rx rv h;obtain⟨a,b,kvs,k,rfl,rfl,e,eb,bI,q⟩:=h;cases (show v=Value.ref a from rx);obtain⟨u,rfl,ru⟩:=Vals.one rv;cases (show u=Value.ref b from ru);obtain⟨z,hd,xs,rel,dd⟩:=Zh I.b9 e;have hz:xs.length<=bX:=by rw[<- Paired.length rel];exact z
 have vl:=rel.val k;have hv:∃ p0,atKey xs k=some p0:=by
  cases ea:atKey xs k with
  |some p=>exact⟨p,rfl⟩
  |none =>
   rw[ea] at vl
   cases ev:pS kvs k with
   |some v'=>rw[ev] at vl;exact(vl:False).elim
   |none =>
    have:(kvs.any λkv=>decide (kv.1=k))=true:=by obtain⟨p,hp,e⟩:=b5.mp bI;exact EF.mpr ⟨p,hp,decide_eq_true e⟩
    rw[Uh,ev] at this;cases this
 obtain⟨p0,h0⟩:=hv;refine call_meetsIn PySem.F.slot_dict_pop dd.typeIs PySem.F.entry_dict_pop (PySem.F.args_dict_pop_2 _ _) (xq (BD (kg X.prog X.w)) a b) ⟨K0 hu,k,xs,p0,HV I.b9 eb,dd,hz,h0,λj p h' hj DM hs=>?_⟩;obtain⟨v,hkj,R7⟩:=rel.at hj;obtain⟨qo,es,ep,hq,g2,g3,g4,_,g5⟩:=DM;have ob:iS X.prog X.w (upd H a (.dT (kvs.eraseIdx j))) h' a (.dT (kvs.eraseIdx j)):=by
  refine⟨?_,hd,_,(rel.erase j).keeps λc ys ec=>?_,qo,es,ep,hq,g2,g3,g4,g5⟩
  ·rw[LM];split<;>lia
  ·rw[fF (V8 ec e λz=>nomatch z)];exact ec
 exact⟨v,_,QQ I (by rw[e];exact True.intro) hs ⟨qo,hq⟩ ob,R7,q j v hkj⟩
end
end L2
namespace L2.Q
section
variable {X:Cx}{K:aE}{L:Str->Hp->Prop}{e e2:Expr}{p:WP}{D3:WE}{apos eP pos:Pos}
def Eh(p:WP)(tk:WE):WS:=λE ρ=>p ρ λfl d up=>match d with
 |.dT kvs=>tk ρ λ_ y=>match y with
  |.tup ys=>∃ ks,dU ys=some ks/\ks∈kvs.map (·.1)/\∀ j d,kvs[j]? = some (ks,d)->E.nx (up fl (.dT (kvs.eraseIdx j)))
  |_=>False
 |_=>False
theorem lE{α β:Type}:∀ (l:List α) (m:List β) (j:Nat),(l.zip m).eraseIdx j=(l.eraseIdx j).zip (m.eraseIdx j)
 |[],m,j=>by simp
 |x :: l,[],j=>by simp
 |x :: l,y :: m,0=>rfl
 |x :: l,y :: m,j+1=>by rw[BE,FY,FY,FY,BE,lE l m j]
def CZ(hu:X.A.units+1<e9)(ho:QP X K e p)(he:QE X K e2 D3)(hK:autoParam (X.K=K) bv) (tT:autoParam (zI e "pop" X.env (dn e X.env)=dn e X.env) bv) (t5:autoParam (((kA eP (b4 [e2] X.env)).all (λx=>!x.1) && (backToKw eP (CH [] X.env)).all (λx=>x.1.isSome)
   && decide ([e2].length+([]:List oQ).length+(if ([]:List oQ).isEmpty then 0 else 1)<30))=true) bv)
  (hline:autoParam ((apos.endLine == eP.line)=true) bv) (wm:autoParam (b4 (e2 :: []) X.env=(false,dn e2 X.env) :: b4 [] X.env) bv) (AQ:autoParam ((kA eP (b4 [] X.env)).any (·.1)=false) bv)
  (hs:autoParam (xh (.Call (.Attribute e "pop" apos) [e2] [] eP) none pos.line X.env=pure false) bv) :
  QS X K L (.Expr (.Call (.Attribute e "pop" apos) [e2] [] eP) pos) (Eh p D3):=by
 subst hK;refine PS.imp (Qr (MB PySem.F.plainAttrs_dict PySem.F.slot_dict_pop PySem.F.type_dict_pop (Ei hu) ho (qA he vE wm) tT t5 hline wm AQ) hs) λD σ H hx=>cU hx λHs ρ ai E sr h k1 k2 k3 k4=>?_;refine⟨Hs,ρ,ai,_,sr,h,λv H1 bE fl d up g1 p1 q1=>?_⟩
 cases d with
 |dT kvs =>
  obtain⟨hU,r,ne,nd,own,k⟩:=p1.ex;have lv:∀ x∈hU,bE x=none/\H1 x≠none:=λx hx=>⟨own x hx,(r.own x hx).ne⟩
  cases r with
  |sh hf _=>exact absurd rfl ne
  |@dT a vs _ A kk ea rs =>
   refine⟨.inr (.inr (.inl ⟨rfl,.inr ⟨_,ea⟩⟩)),bE,ρ,ai,_,sr.grow g1,q1,λw H2 aT m y Bs g2 r2 f2 q2=>?_⟩;have ry:=r2.rep g2.wf
   cases ry with
   |tup t2 ey p2 =>
    obtain⟨ks,hk,bI,q⟩:=q2;obtain⟨b,eb,e3⟩:=Rep.kr (.tup t2 ey p2) hk;cases eb;have hl:kvs.length=vs.length:=by have:=rs.length;rwa[b6] at this
    have ez:((kvs.map (·.1)).zip vs).map (·.1)=kvs.map (·.1):=LN (by rw[b6];exact LX hl);refine⟨a,_,_,ks,rfl,rfl,g2.all _ _ ea,e3,by rw[ez];exact bI,λj v hj=>?_⟩;have hjk:∃ d,kvs[j]? = some (ks,d):=by
     have h1:(kvs.map (·.1))[j]? = some ks:=by rw[<- ez,kM,hj];rfl
     rw[kM] at h1;obtain⟨q',hq',e'⟩:=GY.mp h1;obtain⟨a',d'⟩:=q';simp only at e';subst e';exact⟨d',hq'⟩
    obtain⟨d,hd⟩:=hjk;obtain⟨nA,IY⟩:=kN.mp nd;obtain⟨B,sb,rb⟩:=(rs.grow g2.sh g2.all).erase j;have rr:cv X.K aT (upd H2 a (.dT (((kvs.map (·.1)).zip vs).eraseIdx j))) fl (.dT (kvs.eraseIdx j)) (.ref a) (a :: B):=by
     refine .dT (vs:=vs.eraseIdx j) ⟨by have:=kk.1;rw[LM];split<;>lia,λp hp=>kk.2 p (SF hp)⟩ ?_ ?_
     ·rw[ic,lE,h_]
     ·rw[<- h_];exact rb.fz (bP.refl _) λc hc=>fF λz=>nA (by subst z;exact sb.subset hc)
    obtain⟨fi,iq⟩:=k.node (fl2:=fl) (d2:=.dT (kvs.eraseIdx j)) (C:=B) g2 lv (λ_ z=>by cases z) id rr (sb.nodup IY) (λz=>nA (sb.subset z)) λx hx=>.inl (sb.subset hx);exact k1 _ _ aT _ fi (g1.sh.trans g2.sh) iq (q j d hd)
   |_=>exact q2.elim
 |_=>exact q1.elim
end
end L2.Q
namespace L2.Q.R
abbrev Kt':=List (List Key × L2.Q.D)
section
variable {E:kY}{ρ:Env}{p:WP}{tk:WE}
def aZ'(d:L2.Q.D)(k:Kt'->Prop):Prop:=match d with
 |.dT kvs=>k kvs
 |_=>False
def Lp{kvs:List (List Key × L2.Q.D)}{k:Kt'->Prop}:aZ' (.dT kvs) k=k kvs:=rfl
def Lb:Eh p tk E ρ=p ρ λfl d up=>cE d (f:=λd=>aZ' d λkvs=>tk ρ λ_ y=>cE y (f:=λy=>R1 y λys=>∃ ks,dU ys=some ks/\ks∈kvs.map (·.1)/\∀ j d,kvs[j]? = some (ks,d)->E.nx (up fl (.dT (kvs.eraseIdx j)))) ⟨⟩) ⟨⟩:=rfl
end
end L2.Q.R
namespace L2.Q
section
variable {X:Cx}{K:aE}{e e2 tg:Expr}{D3:WE}{g:WG}{pos eP apos:Pos}{L:Str->Hp->Prop}
def rK(p:WP)(tk:WE)(g:WG):WS:=λE ρ=>p ρ λfl d up=>R.Vv d λxs=>tk ρ λ_ j=>intD j λj=>∃ y,0<=j/\xs[j.toNat]? = some y/\y.flat=true/\g y (up fl (.list (xs.eraseIdx j.toNat))) E.nx
def vZ{wp:WP}(ho:QP X K e wp)(he:QE X K e2 D3)(hg:QG X K tg g)(hK:autoParam (X.K=K) bv) (tT:autoParam (zI e "pop" X.env (dn e X.env)=dn e X.env) bv) (t5:autoParam (((kA eP (b4 [e2] X.env)).all (λx=>!x.1) && (backToKw eP (CH [] X.env)).all (λx=>x.1.isSome)
   && decide ([e2].length+([]:List oQ).length+(if ([]:List oQ).isEmpty then 0 else 1)<30))=true) bv)
  (hline:autoParam ((apos.endLine == eP.line)=true) bv) (wm:autoParam (b4 (e2 :: []) X.env=(false,dn e2 X.env) :: b4 [] X.env) bv) (AQ:autoParam ((kA eP (b4 [] X.env)).any (·.1)=false) bv)
  (hs:autoParam (swapsWithSole [tg] (.Call (.Attribute e "pop" apos) [e2] [] eP) pos.line X.env=pure false) bv) (hw:autoParam (swappedStores [tg] (.Call (.Attribute e "pop" apos) [e2] [] eP) X.env=pure none) bv)
  (h1:autoParam ((oP [tg] X.env).map (·.2)=[assign tg X.env]) bv) :
  QS X K L (.Assign [tg] (.Call (.Attribute e "pop" apos) [e2] [] eP) pos) (rK wp D3 g):=by
 subst hK;refine PS.imp (Wu (MB PySem.F.plainAttrs_list PySem.F.slot_list_pop PySem.F.type_list_pop eh' ho (qA he vE wm) tT t5 hline wm AQ) hg hs hw h1) λD σ H hx=>cU hx λHs ρ ai E sr h k1 k2 k3 k4=>?_;refine⟨Hs,ρ,ai,_,sr,h,λv H1 bE fl d up g1 p1 q1=>?_⟩
 cases d with
 |list xs =>
  obtain⟨a1,vs1,e1,s1⟩:=p1.isL g1.wf;subst e1;refine⟨.inl ⟨rfl,_,s1⟩,bE,ρ,ai,_,sr.grow g1,q1,λw H2 aT m jd As g2 r2 f2 q2=>?_⟩;have rj:=r2.rep g2.wf
  cases rj with
  |int j =>
   obtain⟨y,hj,ey,fy,q2⟩:=q2;obtain⟨a,vs,A,ea,e2,e21,rs,nd,hn,k⟩:=p1.put g2;cases ea;obtain⟨nA,IY⟩:=kN.mp nd;obtain⟨u,eu,ru⟩:=rs.av' ey fy g2.wf;obtain⟨B,sb,rb⟩:=rs.erase j.toNat;have hl:=rs.length;have hz0:vs.length<=bX:=by
    rcases p1.ex with⟨hU,r,ne,_⟩
    cases r with
    |sh _ _=>exact absurd rfl ne
    |list hz e3 _=>rw[e21] at e3;cases e3;exact hz
   have eS:j.toNat<vs.length:=by
    rcases GP j.toNat vs.length with q|q
    ·exact q
    ·rw[tj q] at eu;cases eu
   have RN:bX<2 ^ 62:=by rw[j3];decide
   refine⟨a1,vs,j,j.toNat,u,rfl,rfl,e2,by lia,by lia,?_,eu,?_⟩
   ·unfold seqIndex?;simp only[show ¬ j<0 by lia,if_false];rw[if_pos (by simp only[lT,decide_eq_true_eq];lia)]
   ·have hz:(vs.eraseIdx j.toNat).length<=bX:=by rw[LM];split<;>lia
    obtain⟨fi,iq⟩:=k fl _ _ B id rb hz (sb.nodup IY) (λz=>nA (sb.subset z)) (λx hx=>.inl (sb.subset hx));exact⟨aT,_,fi,y,E.nx,iq,ru,q2,λcq cw c9 s _ q=>k1 cq _ aT cw c9 (g1.sh.trans g2.sh) s q⟩
  |_=>exact q2.elim
 |_=>exact q1.elim
end
end L2.Q
namespace L2.Q.R
def Iu{p:WP}{tk:WE}{g:WG}{E:kY}{ρ:L2.Q.Env}:rK p tk g E ρ=p ρ λfl d up=>cE d (f:=λd=>Vv d λxs=>tk ρ λ_ j=>cE j (f:=λj=>intD j λj=>∃ y,0<=j/\xs[j.toNat]? = some y/\y.flat=true/\cE y (f:=λy=>g y (up fl (.list (xs.eraseIdx j.toNat))) E.nx) ⟨⟩) ⟨⟩) ⟨⟩:=rfl
end L2.Q.R
namespace L2.Q
def U9.mk{P:d5}{w:eC}{K:aE}{mg:Str->Option ae}{base:df}{x:Str}{st:Stmt}{f:ah}{fd:FuncData}{sp:i7}{t:WS}(m:mg x=some (.ref f))(F:B5 K x x st f fd)(N:List Str)(n k:Nat)(len:∀ ds Q,sp ds Q->ds.length=n)(hp:∀ ds Q,sp ds Q->t { nx:=λ_=>Q .sh .non,rt:=Q } (aQ N.length ds)) (hb:∀ {gp:ae} {A:e7} {outer:List PySem.Env} {s:ax} {H:Hp} {E:XK},{_:mN k (A.deeper (envOfC x (mr st) s.heap.objs.size f gp))}->{_:(A.deeper (envOfC x (mr st) s.heap.objs.size f gp)).units+64<e9}->{_:N.Nodup} -> {_:(BQ vF P w K mg base N x (mr st) f gp A outer s H E).EV.env.scope=mr st/\(BQ vF P w K mg base N x (mr st) f gp A outer s H E).EV.N=N}->zh (BQ vF P w K mg base N x (mr st) f gp A outer s H E).EV K L0 (xA st) t) (S:Ob N (N.take n) (mr st):=by exact⟨rfl,rfl,rfl,by decide +kernel,rfl,by decide +kernel,by decide +kernel⟩) (hl:autoParam ((N.take n).length=n) bv) (bi:∀ (kV doc pm:ae) (an:Option ah) (gp ct:ae) (us:List ae),us.length=(N.take n).length->bindArgs (yb x x (B4 st) (xA st) (mr st) .none kV doc pm an gp ct) ⟨us,[]⟩=pure ((N.take n).zip us):=by
   intro _ _ _ _ _ _ us h;iterate 13 all_goals rcases us with _|⟨_,us⟩<;>first|rfl|(simp at h;done)|skip):Q_ P w K mg base (k+1) x (N.take n) (fQ K sp)/\y3 P w K mg base vF (k+1) f fd (N.take n) (fQ K sp) :=
 have G:=U9.ok F S (λds Q h=>(len ds Q h).trans hl.symm) (λ_ _ _ _ _ _ hr=>@hb _ _ _ _ _ _ hr hr.units S.nd ⟨rfl,rfl⟩) hp
 ⟨F.cal m G bi,G⟩
namespace R
def Kq{m m':Md}{i j:Bool}{Q:Md->L2.Q.D->Prop}:OW m (.bl i) m' (.bl j) Q=Q .sh (.bl (!decide (i=j))):=rfl
end R
end L2.Q
end
local macro_rules | `(tactic| walk_at "q") => do
 let nm (s:String):Lean.Ident:=Lean.mkIdent ((s.splitOn ".").foldl Lean.Name.mkStr .anonymous)
 let ds ← ("Kp Mm Kh Kw JS KN M9 MJ Jj Ik KD Ld K3 Ka Lh Lz J9 Lj J8 Ls Kz Ma Mi Ln Mu MT Lq K1 Kc Ks MN Nb JC Li K5 FZ Jw Iw JH Lx Kv wB_ Mh Mv Mf gC' Lk LC JT Jr wC_ gE' gF' Jt Kr J7 M_ M7 Lr KY Jb Ji JP JQ JG Js Jh J_ Kf KJ K6 K8 K4 Ml Mj Ly Kd FN FJ KQ Jp Im JL Io L_ Jx Lb Lp FQ Kq Kl Mz Lw Mt Mr Mq Mw Ku La LR JZ Jq gG' K_ Lg MK KZ J1 Jg gH' Il MP J3 Ms M8 Kg M6 Ja Ko JB Ip Ir gN_ gT_ Km MF K9 gK' Mp Iu J5 Ju LK KR Ke Jc KC Lf hN' KH".splitOn " ").toArray.mapM fun s=>`(Lean.Parser.Tactic.simpLemma| ↓$(nm ("L2.Q.R." ++ s)):ident)
 let us ← ("L2.Q.R_ L2.Q.VC L2.Q.RC L2.Q.Pp L2.Q.uJ L2.Q.Dr L2.Q.AY L2.Q.IL L2.Q.OY L2.Q.Fu L2.Q.iY L2.Q.O0 L2.Q.Fs L2.Q.OZ L2.Q.lM L2.Q.D_ L2.Q.asg L2.Q.uk L2.Q.aQ L2.Q.D.flat L2.Q.eK L2.Q.D.Fm L2.Q.D.ty L2.Q.Ro L2.Q.D.key1 L2.Q.dU L2.Q.xm L2.Q.wN List.length_map List.map_cons List.map_nil List.length_cons List.length_nil List.replicate_succ List.replicate_zero List.cons_append List.nil_append List.append_nil List.getElem?_cons_zero List.getElem?_cons_succ List.getElem?_nil List.set_cons_zero List.set_cons_succ List.all_cons List.all_nil Option.some.injEq Option.join_some Option.map_some Option.map_none Nat.reduceAdd Nat.reduceSub true_and and_true Bool.and_true Bool.true_and Bool.and_false Bool.false_and Bool.not_true Bool.not_false Bool.false_eq_true if_true if_false decide_true decide_false reduceIte cond_true cond_false PySem.sizeLine_eq L2.Q.gy' L2.Q.gz' L2.Q.gA' L2.Q.cP L2.Q.Hu L2.Q.empty_app Nat.zero_add exists_eq_left' Int.reduceLT Int.reduceLE Int.reducePow Int.reduceNeg Int.reduceToNat Int.reduceAdd Int.reduceMul Int.reduceSub Nat.reduceLeDiff Nat.reduceLT false_or or_false and_self L2.Mx".splitOn " ").toArray.mapM fun s=>`(Lean.Parser.Tactic.simpLemma| $(nm s):ident)
 let as:Lean.TSyntaxArray [`Lean.Parser.Tactic.simpStar,`Lean.Parser.Tactic.simpErase,`Lean.Parser.Tactic.simpLemma]:=(ds++us).map fun x=>⟨x.raw⟩
 `(tactic| simp -dsimp only [$as,*])
local macro_rules | `(tactic| walk_at "o") => `(tactic| repeat (refine And.intro (by first | omega | exact ⟨by omega, by omega⟩ | decide) ?_))
section
open PySem PySem.Spec PyProof.Rows
namespace L2.Q.Sd
def isLet(c:Nat):Bool:=decide (97<=c/\c<=122)
abbrev abc:Str := "abcdefghijklmnopqrstuvwxyz"
def Aq:sg abc=(List.range 26).map (97 + ·):=by decide +kernel
def xH{i:Int}(h0:0<=i)(h1:i<26):∃ c,gv (sg abc) i=some c/\isLet c=true:=by
 refine⟨97+i.toNat,?_,?_⟩
 ·have:gv (sg abc) ((i.toNat:Nat):Int)=some (97+i.toNat):=MA (by
   rw[Aq];have:i.toNat<26:=by lia
   simp[this])
  rwa[BI h0] at this
 ·simp[isLet];lia
def qP(x:Int):∃ c,gv (sg abc) (x % 26)=some c/\isLet c=true:=xH (Qj _ (by decide)) (Qi _ (by decide))
def lets(x:Str):Prop:=∀ c∈sg x,isLet c=true
def Open(x:Str):Prop:=1<=x.length/\x.length<=6/\lets x
def Kk (x:Str):Prop:=x = "*"\/Open x
def Ac{x y:Str}(hx:lets x)(hy:lets y):lets (x++y):=λc hc=>by rw[sW] at hc;exact(eR.mp hc).elim (hx c) (hy c)
def Ah{c:Nat}(h:isLet c=true):lets ⟨#[c]⟩:=λd hd=>by
 have:d=c:=by simpa[sg] using hd
 rw[this];exact h
def ie(c:Nat):(⟨#[c]⟩:Str).length=1:=rfl
def Kk.ok{x:Str}(h:Kk x):PyData.strOk x=true:=by
 rw[El];rcases h with rfl|h
 ·have:sg "*" = [42]:=by decide +kernel
  intro c hc;rw[this] at hc;have:c=42:=by simpa using hc
  lia
 ·intro c hc;have:=h.2.2 c hc;simp[isLet] at this;lia
abbrev aS:=Int × Str × Int
def fA(s:aS):List Key:=[.inl s.1,.inr s.2.1,.inl s.2.2]
def dv(s:aS):D:=.tup [.int s.1,.str s.2.1,.int s.2.2]
def mD(many:Int)(steps:List aS):D:=.tup [.int many,.list (steps.map dv)]
theorem dB:∀ (l:List aS),eK (l.map dv)=true
 |[]=>rfl
 |x :: l=>by simp[eK,dB l,dv,D.flat]
def p9(many:Int)(s:aS):Prop:=0<=s.1/\s.1<many/\Kk s.2.1/\0<=s.2.2/\s.2.2<many
def G9{many:Int}{s:aS}(n:Nat)(h:p9 many s):d4 (n+1) (dv s)=true:=by have:=h.2.2.1.ok;simp[d4,dv,this]
def Dg{many:Int}{l:List aS}(n:Nat)(h:∀ s∈l,p9 many s):d4 (n+2) (.list (l.map dv))=true:=by simp only[d4,NR,GH];intro s hs;exact G9 n (h s hs)
theorem yo:∀ (l:List aS),uj (l.map dv)=true
 |[]=>rfl
 |x :: l=>by simp[uj,yo l,dv,D.nb]
def ba'(many:Int)(l:List aS):(mD many l).nb=true:=by simp[mD,D.nb,uj,yo]
def eq_self{x:D}(h:x.nb=true):ip x x=true:=(gW x x h h).mpr rfl
def zG{s t:aS}(h:dv s=dv t):s=t:=by obtain⟨a,b,c⟩:=s;obtain⟨a',b',c'⟩:=t;simp[dv] at h;obtain⟨rfl,rfl,rfl⟩:=h;rfl
theorem tY:∀ {l m:List aS},l.map dv=m.map dv->l=m
 |[],[],_=>rfl
 |[],_ :: _,h=>by simp at h
 |_ :: _,[],h=>by simp at h
 |x :: l,y :: m,h=>by simp only[gd,List.cons.injEq] at h;rw[zG h.1,tY h.2]
def zB{s t:aS}(h:fA s=fA t):s=t:=by obtain⟨a,b,c⟩:=s;obtain⟨a',b',c'⟩:=t;simp[fA] at h;obtain⟨rfl,rfl,rfl⟩:=h;rfl
def cS(s t:aS):Bool:=fv (fA s) (fA t)
theorem gZ{P:aS->Prop}:∀ {ks:List (List Key)},(∀ k∈ks,∃ s,k=fA s/\P s)->∃ l:List aS,ks=l.map fA/\∀ s∈l,P s
 |[],_=>⟨[],rfl,λs h=>nomatch h⟩
 |k :: ks,h=>by
  obtain⟨s,rfl,p⟩:=h k dk;obtain⟨l,rfl,q⟩:=gZ λk hk=>h k (dr _ hk);refine⟨s :: l,rfl,λt ht=>?_⟩;rcases eB.mp ht with rfl|ht
  ·exact p
  ·exact q t ht
abbrev Kn:=List (List Key × D)
def mz(P:aS->Prop)(kvs:Kn):Prop:=(∀ p∈kvs,∃ s,p.1=fA s/\P s)/\(kvs.map (·.1)).Nodup
def yj{κ β:Type}[DecidableEq κ](kvs:List (κ × β))(k:κ)(v:β):(lP kvs k v).map (·.1)=if k∈kvs.map (·.1) then kvs.map (·.1) else kvs.map (·.1)++[k]:=by
 unfold lP;by_cases h:k∈kvs.map (·.1)
 ·have:(kvs.any λkv=>decide (kv.1=k))=true:=by obtain⟨p,hp,e⟩:=b5.mp h;exact EF.mpr ⟨p,hp,decide_eq_true e⟩
  rw[if_pos this,if_pos h,fe];apply CY;intro p _;show(if p.1=k then (p.1,v) else p).1=p.1;split<;>rfl
 ·have:¬ (kvs.any λkv=>decide (kv.1=k))=true:=by intro z;obtain⟨p,hp,e⟩:=EF.mp z;exact h (b5.mpr ⟨p,hp,of_decide_eq_true e⟩)
  rw[if_neg this,if_neg h,AA];rfl
def mz.put{P:aS->Prop}{kvs:Kn}{s:aS}{d:D}(h:mz P kvs)(hs:P s):mz P (lP kvs (fA s) d):=by
 refine⟨λp hp=>?_,?_⟩
 ·rcases pA hp with e|e
  ·exact⟨s,e,hs⟩
  ·obtain⟨q,hq,e⟩:=b5.mp e;rw[<- e];exact h.1 q hq
 ·rw[yj];split
  ·exact h.2
  ·rename_i hn;exact gV.mpr ⟨h.2,by simp,λa ha b hb e=>by
    have:b=fA s:=by simpa using hb
    subst this;subst e;exact hn ha⟩
def mz.nil{P:aS->Prop}:mz P []:=⟨(λp hp=>nomatch hp),n9⟩
def mz.sorted{P:aS->Prop}{kvs:Kn}(h:mz P kvs){Q:Md->D->Prop}(k:∀ steps:List aS,(steps.map fA).Perm (kvs.map (·.1))->(∀ s∈steps,P s)->steps.Pairwise (λa b=>cS a b=true)->steps.length=kvs.length->Q (.ow true) (.list (steps.map dv))) :
  xm (.ow true) (.list (kvs.map λkv=>.tup (kv.1.map kX))) Q:=by
 refine⟨kvs.map (·.1),[false,true],by rw[fe];rfl,λk hk=>?_,λms pm pw=>?_⟩
 ·obtain⟨p,hp,rfl⟩:=b5.mp hk;obtain⟨s,e,_⟩:=h.1 p hp;rw[e];rfl
 ·obtain⟨l,rfl,hl⟩:=gZ (P:=P) (ks:=ms) λk hk=>by obtain⟨p,hp,e⟩:=b5.mp (pm.mem_iff.mp hk);rw[<- e];exact h.1 p hp
  have e:(l.map fA).map kr=l.map dv:=by rw[fe];rfl
  rw[e];refine k l pm hl ?_ (by have:=pm.length_eq;simpa using this);have nd:(l.map fA).Nodup:=pm.nodup_iff.mpr h.2;rw[iO] at pw;have zo:l.Pairwise λa b=>fA a≠fA b:=by rw[List.Nodup,iO] at nd;exact nd
  refine(pw.and zo).imp λ{a b} ⟨h1,h2⟩=>?_;unfold cS
  cases h3:fv (fA a) (fA b) with
  |true=>rfl
  |false=>exact absurd (gU (a:=fA a) (b:=fA b) rfl h3 h1) h2
theorem jJ:∀ (l:List Str),eK (l.map D.str)=true
 |[]=>rfl
 |x :: l=>by simp[eK,jJ l,D.flat]
theorem j8:∀ (l:List Int),eK (l.map D.int)=true
 |[]=>rfl
 |x :: l=>by simp[eK,j8 l,D.flat]
def z8(l:List Str)(x:Str):l.map D.str++[D.str x]=(l++[x]).map D.str:=by simp
def bu{n i:Nat}{lo:Int}{x:D}(h:(gR lo n)[i]? = some x):i<n/\x=.int (lo+(i:Nat)):=by
 unfold gR at h;rw[kM] at h;by_cases hi:i<n
 ·rw[List.getElem?_range hi] at h;exact⟨hi,(Option.some.inj h).symm⟩
 ·rw[tj (by simpa using hi)] at h;cases h
def aZ(lo:Int)(n:Nat):(gR lo n).length=n:=by simp[gR]
def tD{lo:Int}{n:Nat}{x:D}(h:x∈gR lo n):∃ i:Nat,i<n/\x=.int (lo+i):=by obtain⟨i,hi⟩:=GA.mp h;exact⟨i,bu hi⟩
def oH{names:List Str}{i:Int}(h0:0<=i)(h1:i<names.length):∃ n,n∈names/\gv (names.map D.str) i=some (.str n):=by
 have hn:i.toNat<names.length:=by lia
 refine⟨names[i.toNat],rX hn,?_⟩;have:=MA (xs:=names.map D.str) (j:=i.toNat) (v:=.str names[i.toNat]) (by simp[hn]);rwa[BI h0] at this
def Be{n d:Nat}{k:Int}(h0:0<=k)(h1:k<=n):HT.cy n d (some k)=k.toNat:=by simp only[HT.cy];rw[if_neg (by lia)];lia
theorem aR{α:Type}[DecidableEq α]:∀ {l m:List α},l.Nodup->(∀ x∈l,x∈m)->l.length<=m.length
 |[],_,_,_=>fE _
 |x :: l,m,nd,h=>by obtain⟨hx,nd⟩:=kN.mp nd;have hm:=h x dk;have:=aR (l:=l) (m:=m.erase x) nd λy hy=>(List.mem_erase_of_ne (λe=>by subst e;exact hx hy)).mpr (h y (dr _ hy));rw[List.length_erase_of_mem hm] at this;have:=SN hm;simp only[oS];lia
def cZ(n:Nat):List Int:=(List.range n).map λi=>((i:Nat):Int)
def fu(n:Nat):(cZ n).length=n:=by simp[cZ]
def dH{n:Nat}{x:Int}:x∈cZ n↔0<=x/\x<n:=by
 unfold cZ;rw[b5];constructor
 ·rintro⟨i,hi,rfl⟩;have:=n5.mp hi;lia
 ·intro ⟨h0,h1⟩;exact⟨x.toNat,n5.mpr (by lia),by lia⟩
theorem yC:∀ {l m:List Int},l.Pairwise (· < ·)->m.Pairwise (· < ·)->(∀ x,x∈l↔x∈m)->l=m
 |[],[],_,_,_=>rfl
 |[],y :: m,_,_,h=>absurd ((h y).mpr dk) (by simp)
 |x :: l,[],_,_,h=>absurd ((h x).mp dk) (by simp)
 |x :: l,y :: m,hl,hm,h=>by
  obtain⟨a1,a2⟩:=PR.mp hl;obtain⟨b1,b2⟩:=PR.mp hm;have e:x=y:=by
   rcases eB.mp ((h x).mp dk) with e|e
   ·exact e
   ·rcases eB.mp ((h y).mpr dk) with e'|e'
    ·exact e'.symm
    ·have:=b1 x e;have:=a1 y e';lia
  subst e;rw[yC a2 b2 λz=>⟨λhz=>by
   rcases eB.mp ((h z).mp (dr _ hz)) with e|e
   ·subst e;exact absurd (a1 z hz) (by lia)
   ·exact e,λhz=>by
   rcases eB.mp ((h z).mpr (dr _ hz)) with e|e
   ·subst e;exact absurd (b1 z hz) (by lia)
   ·exact e⟩]
def oW{l:List Int}(h:l.Pairwise (· < ·)):l.Nodup:=h.imp λh=>by lia
def dP(many:Int)(steps:List aS):Prop:=∀ s∈steps,p9 many s
def x6(ks:List Int):List (Key × D):=ks.map λx=>(.inl x,.bl true)
def gK(ks:List Int):(x6 ks).map (·.1)=ks.map λx=>(Sum.inl x:Key):=by simp[x6,fe,Function.comp_def]
def oF(ks:List Int):(x6 ks).length=ks.length:=by simp[x6]
def cQ{ks:List Int}{x:Int}:((Sum.inl x:Key)∈ks.map λx=>(Sum.inl x:Key))↔x∈ks:=by rw[b5];exact⟨λ⟨y,hy,e⟩=>by cases e;exact hy,λh=>⟨x,h,rfl⟩⟩
def insI(ks:List Int)(x:Int):List Int:=if x∈ks then ks else ks++[x]
def jx{κ β:Type}[DecidableEq κ]{kvs:List (κ × β)}{k:κ}:(kvs.any λkv=>decide (kv.1=k))=true↔k∈kvs.map (·.1):=by rw[EF,b5];exact⟨λ⟨p,hp,e⟩=>⟨p,hp,of_decide_eq_true e⟩,λ⟨p,hp,e⟩=>⟨p,hp,decide_eq_true e⟩⟩
def DK(ks:List Int)(x:Int):lP (x6 ks) (.inl x) (.bl true)=x6 (insI ks x):=by
 unfold lP insI;by_cases h:x∈ks
 ·rw[if_pos h,if_pos (jx.mpr (by rw[gK];exact cQ.mpr h))];unfold x6;rw[fe];apply CY;intro y _;show(if (Sum.inl y:Key)=Sum.inl x then ((Sum.inl y:Key),D.bl true) else (.inl y,.bl true))=_;split<;>rfl
 ·rw[if_neg h,if_neg (λz=>h (cQ.mp (by rw[<- gK];exact jx.mp z)))];simp[x6]
theorem nY{κ β:Type}[DecidableEq κ]:∀ {kvs:List (κ × β)} {k:κ},(gS kvs k).isSome=true↔k∈kvs.map (·.1)
 |[],k=>by simp[gS]
 |p :: kvs,k=>by
  have ih:=nY (kvs:=kvs) (k:=k);rw[gd,eB];by_cases h:p.1=k
  ·subst h;simp[gS]
  ·have:gS (p :: kvs) k=gS kvs k:=by simp[gS,h]
   rw[this,ih];exact⟨.inr,λz=>z.elim (λe=>absurd e.symm h) id⟩
def get_set(ks:List Int)(x:Int):(gS (x6 ks) (.inl x)).isSome=decide (x∈ks):=by rw[pj,nY,gK,cQ,decide_eq_true_iff]
def um{ks:List Int}{x y:Int}:y∈insI ks x↔y∈ks\/y=x:=by
 unfold insI;split
 ·rename_i h;exact⟨.inl,λz=>z.elim id λe=>by subst e;exact h⟩
 ·simp
def uI{ks:List Int}{x:Int}(h:ks.Nodup):(insI ks x).Nodup:=by
 unfold insI;split
 ·exact h
 ·rename_i hx;exact gV.mpr ⟨h,by simp,λa ha b hb e=>by
   have:b=x:=by simpa using hb
   subst this;subst e;exact hx ha⟩
inductive Reach(steps:List aS):Int->Prop
 |zero:Reach steps 0
 |step {s:aS}:Reach steps s.1->s∈steps->Reach steps s.2.2
def Reach.lt{many:Int}{steps:List aS}(h:dP many steps)(hm:1<=many){x:Int}(r:Reach steps x):0<=x/\x<many:=by
 cases r with
 |zero=>lia
 |step r hs=>exact⟨(h _ hs).2.2.2.1,(h _ hs).2.2.2.2⟩
def rh(ms:List Int):List (Key × D):=ms.mapIdx λk x=>(.inl x,.int k)
def p_(ms:List Int):(rh ms).map (·.1)=ms.map λx=>(Sum.inl x:Key):=by apply Dp;intro i;simp[rh,SY];cases ms[i]?<;>rfl
def yt(ms:List Int)(x:Int):rh (ms++[x])=rh ms++[(.inl x,.int ms.length)]:=by simp[rh,List.mapIdx_append]
def Fx{ms:List Int}{x:Int}(h:x∉ms):lP (rh ms) (.inl x) (.int ms.length)=rh (ms++[x]):=by unfold lP;rw[if_neg (λz=>h (cQ.mp (by rw[<- p_];exact jx.mp z))),yt]
def zy(ms:List Int):(rh ms).length=ms.length:=by simp[rh]
def x8(ms:List Int)(x:Int):Int:=(ms.idxOf x:Nat)
theorem wQ:∀ (l ms:List Int) {x:Int},x∈ms->(l++ms).Nodup->gS (ms.mapIdx λk y=>((Sum.inl y:Key),D.int ((l.length+k:Nat):Int))) (.inl x)=some (.int ((l.length+ms.idxOf x:Nat):Int))
 |_,[],_,h,_=>nomatch h
 |l,y :: ms,x,h,nd=>by
  rw[List.mapIdx_cons];by_cases e:y=x
  ·subst e;simp[gS]
  ·have hx:x∈ms:=by
    rcases eB.mp h with z|z
    ·exact absurd z.symm e
    ·exact z
   have ih:=wQ (l++[y]) ms hx (by simpa using nd);have:∀ (v:D) (r:List (Key × D)),gS (((Sum.inl y:Key),v) :: r) (.inl x)=gS r (.inl x):=λv r=>by simp[gS,e]
   rw[this];rw[List.idxOf_cons];have hb:(y == x)=false:=by simpa using e
   rw[hb];simp only[cond_false];simp only[ot,LJ] at ih;rw[show(λ(k:Nat) (y':Int)=>((Sum.inl y':Key),D.int ((l.length+(k+1):Nat):Int)))=λk y'=>((Sum.inl y':Key),D.int ((l.length+1+k:Nat):Int)) by funext k y';rw[show l.length+(k+1)=l.length+1+k by lia]];rw[ih];rw[show l.length+1+ms.idxOf x=l.length+(ms.idxOf x+1) by lia]
def Gm{ms:List Int}{x:Int}(h:x∈ms)(nd:ms.Nodup):gS (rh ms) (.inl x)=some (.int (x8 ms x)):=by have:=wQ [] ms h (by simpa using nd);simpa[rh,x8] using this
def xn(ms:List Int)(x:Int):(gS (rh ms) (.inl x)).isSome=decide (x∈ms):=by rw[pj,nY,p_,cQ,decide_eq_true_iff]
structure Met(steps:List aS)(ms:List Int):Prop where
 up:ms.Pairwise (· < ·)
 mem:∀ x,x∈ms↔Reach steps x
def Met.to{steps:List aS}{ms:List Int}(a:Met steps ms){s:aS}(hs:s∈steps)(h:s.1∈ms):s.2.2∈ms:=(a.mem _).mpr (.step ((a.mem _).mp h) hs)
def Met.zero{steps:List aS}{ms:List Int}(a:Met steps ms):0∈ms:=(a.mem 0).mpr .zero
def Met.len{many:Int}{steps:List aS}{ms:List Int}(a:Met steps ms)(h:dP many steps)(hm:1<=many):1<=ms.length/\(ms.length:Int)<=many:=by
 refine⟨SN a.zero,?_⟩;have:=aR (m:=cZ many.toNat) (oW a.up) λx hx=>by have:=((a.mem x).mp hx).lt h hm;exact dH.mpr (by lia)
 rw[fu] at this;lia
def BV{ms:List Int}{x:Int}(h:x∈ms):0<=x8 ms x/\x8 ms x<ms.length:=by have:=List.idxOf_lt_length_of_mem h;unfold x8;lia
def Ed{ms:List Int}(nd:ms.Nodup){k:Nat}(hk:k<ms.length):x8 ms ms[k]=k:=by unfold x8;rw[nd.idxOf_getElem k hk]
def vB{steps:List aS}{i:Nat}{x:D}(h:(steps.map dv)[i]? = some x):∃ p d r,x=.tup [.int p,.str d,.int r]/\(p,d,r)∈steps/\steps.take (i+1)=steps.take i++[(p,d,r)]:=by
 rw[kM] at h
 cases e:steps[i]? with
 |none=>rw[e] at h;cases h
 |some s =>rw[e] at h;cases h;obtain⟨p,d,r⟩:=s;exact⟨p,d,r,rfl,k7 e,by rw[Dx,e];rfl⟩
def gf{l:List Int}{i:Int}(h0:0<=i)(h1:i<l.length):∃ c,c∈l/\gv (l.map D.int) i=some (.int c):=by
 have hn:i.toNat<l.length:=by lia
 refine⟨l[i.toNat],rX hn,?_⟩;have:=MA (xs:=l.map D.int) (j:=i.toNat) (v:=.int l[i.toNat]) (by simp[hn]);rwa[BI h0] at this
def Ci(x:Int){m:Int}(h:0<m):0<=x % m/\x % m<m:=⟨Qj _ (by lia),Qi _ h⟩
def bx{a b:Int}(h0:-1000<=b)(h1:b<=10000000000):BO a b:=.inr ⟨by lia,by lia⟩
def gQ{a b:Int}(h0:-1000<=a)(h1:a<=10000000000):BO a b:=.inl ⟨by lia,by lia⟩
theorem iB:∀ l:List Nat,sg (Str.join "" (l.map λc=>(⟨#[c]⟩:Str)))=l
 |[]=>by decide +kernel
 |[c]=>rfl
 |c :: d :: l=>by have ih:=iB (d :: l);show sg ((⟨#[c]⟩:Str) ++ "" ++ Str.join "" ((d :: l).map λc=>(⟨#[c]⟩:Str)))=_;rw[sW,sW,ih,show sg ("" : Str)=[] by decide +kernel];rfl
theorem tV:∀ l:List Nat,(l.map λ_=>1).sum=l.length
 |[]=>rfl
 |x :: l=>by simp[tV l];lia
theorem mC:∀ (l:List Str),iY (l.map D.str)=some l
 |[]=>rfl
 |x :: l=>by simp[iY,mC l]
def u0(n:Nat)(out:List D):Prop:=∃ cs:List Nat,out=cs.map (λc=>D.str ⟨#[c]⟩)/\cs.length=n/\∀ c∈cs,isLet c=true
def u0.nil:u0 0 []:=⟨[],rfl,rfl,λc hc=>nomatch hc⟩
def u0.push{n:Nat}{out:List D}{c:Nat}(h:u0 n out)(hc:isLet c=true):u0 (n+1) (out++[.str ⟨#[c]⟩]):=by
 obtain⟨cs,rfl,hl,ha⟩:=h;refine⟨cs++[c],by simp,by simp[hl],λd hd=>?_⟩;rcases eR.mp hd with hd|hd
 ·exact ha d hd
 ·rw[nI.mp hd];exact hc
def u0.join{n:Nat}{out:List D}(h:u0 n out)(hn:n<=100) :
  ∃ zs,iY out=some zs/\(zs.map (·.length)).sum+zs.length*(Str.ofString "").length<=16777216/\(Str.join "" zs).length=n/\lets (Str.join "" zs):=by
 obtain⟨cs,rfl,hl,ha⟩:=h;refine⟨cs.map λc=>⟨#[c]⟩,?_,?_,?_⟩
 ·rw[<- mC,fe];rfl
 ·rw[show(Str.ofString "").length=0 by decide,fe,Nat.mul_zero,LZ];show(cs.map λ_=>1).sum<=_;rw[tV];lia
 ·have hw:=iB cs;generalize Str.join "" (cs.map λc=>(⟨#[c]⟩:Str))=word at hw ⊢;refine⟨?_,λc hc=>ha c (by rwa[hw] at hc)⟩;have:(sg word).length=n:=by rw[hw,hl]
  rw[<- this];unfold sg Str.length;simp
def zU(l:List Str)(lo hi:Option Int):qS (l.map D.str) lo hi=(qS l lo hi).map D.str:=by unfold qS;rw[b6,P5,P6]
def HH{α:Type}{l:List α}{a b:Int}(h0:0<=a)(h1:a<b)(h2:a<l.length):1<=(qS l (some a) (some b)).length/\(qS l (some a) (some b)).length<=l.length/\∀ x∈qS l (some a) (some b),x∈l:=by
 have e:HT.cy l.length 0 (some a)=a.toNat:=Be h0 (by lia);have e2:a.toNat<HT.cy l.length l.length (some b):=by simp only[HT.cy];rw[if_neg (by lia)];lia
 unfold qS;rw[e,nK,ED];exact⟨by lia,by lia,λx hx=>SX (PN hx)⟩
def mz.mQ{P:aS->Prop}{kvs:Kn}(h:mz P kvs){R:List (List Key)->Prop}(k:∀ steps:List aS,(steps.map fA).Perm (kvs.map (·.1))->(∀ s∈steps,P s)->steps.Pairwise (λa b=>cS a b=true)->steps.length=kvs.length->R (steps.map fA)) :
  ∃ b0 sh,(∀ p∈kvs,gX p.1=b0 :: sh)/\∀ ms:List (List Key),ms.Perm (kvs.map (·.1))->(ms.Pairwise λa b=>fv b a=false)->R ms:=by
 refine⟨true,[false,true],λp hp=>?_,λms pm pw=>?_⟩
 ·obtain⟨s,e,_⟩:=h.1 p hp;rw[e];rfl
 ·obtain⟨l,rfl,hl⟩:=gZ (P:=P) (ks:=ms) λk hk=>by obtain⟨p,hp,e⟩:=b5.mp (pm.mem_iff.mp hk);rw[<- e];exact h.1 p hp
  refine k l pm hl ?_ (by have:=pm.length_eq;simpa using this);have nd:(l.map fA).Nodup:=pm.nodup_iff.mpr h.2;rw[iO] at pw;have zo:l.Pairwise λa b=>fA a≠fA b:=by rw[List.Nodup,iO] at nd;exact nd
  refine(pw.and zo).imp λ{a b} ⟨h1,h2⟩=>?_;unfold cS
  cases h3:fv (fA a) (fA b) with
  |true=>rfl
  |false=>exact absurd (gU (a:=fA a) (b:=fA b) rfl h3 h1) h2
def bO(l:List aS):(l.map fA).map kr=l.map dv:=by rw[fe];rfl
def xW{one states j copies:Int}(h0:0<=one)(h1:one<states)(hj:0<=j)(Ny:j<copies):0<=one+states*j/\one+states*j<copies*states:=by have a:=Int.mul_le_mul_of_nonneg_left (show j+1<=copies by lia) (show 0<=states by lia);rw[Int.mul_add,Int.mul_one,Int.mul_comm states copies] at a;have b:=NX (show 0<=states by lia) hj;lia
abbrev Pr:=Str × Int
abbrev Ky:=Int × List Pr
def nE(p:Pr):List Key:=[.inr p.1,.inl p.2]
def kH(p:Pr):D:=.tup [.str p.1,.int p.2]
def hX(k:Ky):D:=.tup [.int k.1,.list (k.2.map kH)]
def CC(r:List Int):D:=.list (r.map .int)
def sQ(a b:Ky):Bool:=PySem.SeqAt.cS 3 (hX a).py (hX b).py
def ve(k:Ky):Prop:=∀ p∈k.2,PyData.strOk p.1=true
def yE(k:Ky):(hX k).py=.tuple [.int k.1,.list (k.2.map L2.dW)]:=by show PyData.tuple [.int k.1,.list (nL (k.2.map kH))]=_;rw[g8,fe];rfl
def ve.wx{k:Ky}(h:ve k):L2.wx (hX k).py:=⟨k.1,k.2,yE k,h⟩
def ph(a:Ky)(h:ve a):sQ a a=false:=L2.R8.ai.rg _ h.wx
def Gv{a b c:Ky}(ha:ve a)(hb:ve b)(hc:ve c):sQ a b=true->sQ b c=true->sQ a c=true:=L2.R8.ai.tr _ _ _ ha.wx hb.wx hc.wx
def Ff{p q:Pr}(h:kH p=kH q):p=q:=by obtain⟨a,b⟩:=p;obtain⟨c,d⟩:=q;simp[kH] at h;rw[h.1,h.2]
def Ec{p q:Pr}(h:nE p=nE q):p=q:=by obtain⟨a,b⟩:=p;obtain⟨c,d⟩:=q;simp[nE] at h;rw[h.1,h.2]
theorem map_inj{α β:Type}{f:α->β}(hf:∀ a b,f a=f b->a=b):∀ {l m:List α},l.map f=m.map f->l=m
 |[],[],_=>rfl
 |[],_ :: _,h=>by simp at h
 |_ :: _,[],h=>by simp at h
 |x :: l,y :: m,h=>by simp only[gd,List.cons.injEq] at h;rw[hf _ _ h.1,map_inj hf h.2]
def ye{a b:Ky}(h:hX a=hX b):a=b:=by simp only[hX,D.tup.injEq,List.cons.injEq,D.int.injEq,D.list.injEq] at h;exact Prod.ext h.1 (map_inj (λ_ _=>Ff) h.2.1)
theorem Cd:∀ l:List Pr,uj (l.map kH)=true
 |[]=>rfl
 |x :: l=>by simp[uj,Cd l,kH,D.nb]
def Hf(k:Ky):(hX k).nb=true:=by simp[hX,D.nb,uj,Cd]
def uN(a b:Ky):ip (hX a) (hX b)=decide (a=b):=by rw[pj,gW _ _ (Hf a) (Hf b),decide_eq_true_iff];exact⟨ye,λe=>by rw[e]⟩
def Ez{a b:Ky}(ha:ve a)(hb:ve b)(h1:sQ a b=false)(h2:sQ b a=false):a=b:=by
 have e:=L2.R8.ai.ai _ _ ha.wx hb.wx h1 h2;have:ip (hX a) (hX b)=ip (hX a) (hX a):=by unfold ip;rw[e]
 rw[uN,uN] at this;simpa using this
def DG{a b:Ky}(h:a.1<b.1):sQ a b=true:=by
 unfold sQ;rw[yE,yE,PySem.SeqAt.cS,PySem.SeqAt.nV];have:PyData.eqv (.int a.1) (.int b.1)=false:=by
  have:a.1≠b.1:=by lia
  simpa[PyData.eqv] using this
 rw[this,if_neg kf,PySem.SeqAt.cS];exact decide_eq_true h
def zP{k:Ky}(h:ve k)(n:Nat):d4 (n+3) (hX k)=true:=by
 have:∀ p∈k.2.map kH,d4 (n+1) p=true:=λd hd=>by obtain⟨p,hp,rfl⟩:=b5.mp hd;simp[kH,d4,h p hp]
 simp only[hX,d4,DB,List.all_nil,Qc,Bool.true_and,GH];exact this
def BJ{l:List Ky}(h:∀ k∈l,ve k)(n:Nat):d4 (n+4) (.list (l.map hX))=true:=by simp only[d4,NR,GH];exact λk hk=>zP (h k hk) n
def Gw(l:List Ky)(k:Ky):D8 (l.map hX) (hX k)=decide (k∈l):=by
 unfold D8;rw[List.any_map,pj,EF,decide_eq_true_iff];constructor
 ·rintro⟨j,hj,e⟩;have e:ip (hX j) (hX k)=true:=e;rw[uN,decide_eq_true_iff] at e;rwa[<- e]
 ·exact λhk=>⟨k,hk,by show ip (hX k) (hX k)=true;rw[uN];exact decide_eq_true rfl⟩
theorem rP:∀ l:List Int,uj (l.map D.int)=true
 |[]=>rfl
 |x :: l=>by simp[uj,rP l,D.nb]
def JF(a b:List Int):ip (.list (a.map .int)) (.list (b.map .int))=decide (a=b):=by rw[pj,gW _ _ (by simp[D.nb,rP]) (by simp[D.nb,rP]),decide_eq_true_iff];refine⟨λh=>map_inj (f:=D.int) (λ_ _=>D.int.inj) (D.list.inj h),λe=>by rw[e]⟩
def x_(l:List Int)(n:Nat):d4 (n+1) (.list (l.map .int))=true:=by simp[d4,NR]
theorem Pu{α β:Type}{f:β->α}{P:β->Prop}:∀ {ks:List α},(∀ k∈ks,∃ s,k=f s/\P s)->∃ l:List β,ks=l.map f/\∀ s∈l,P s
 |[],_=>⟨[],rfl,λs h=>nomatch h⟩
 |k :: ks,h=>by
  obtain⟨s,rfl,p⟩:=h k dk;obtain⟨l,rfl,q⟩:=Pu λk hk=>h k (dr _ hk);refine⟨s :: l,rfl,λt ht=>?_⟩;rcases eB.mp ht with rfl|ht
  ·exact p
  ·exact q t ht
theorem je{α:Type}{lt:α->α->Prop}:∀ {l m:List α},(∀ a∈l,∀ b∈l,lt a b->lt b a->False)->l.Pairwise lt->m.Pairwise lt->(∀ x,x∈l↔x∈m)->l=m
 |[],[],_,_,_,_=>rfl
 |[],y :: m,_,_,_,h=>absurd ((h y).mpr dk) (by simp)
 |x :: l,[],_,_,_,h=>absurd ((h x).mp dk) (by simp)
 |x :: l,y :: m,as,hl,hm,h=>by
  obtain⟨a1,a2⟩:=PR.mp hl;obtain⟨b1,b2⟩:=PR.mp hm;have e:x=y:=by
   rcases eB.mp ((h x).mp dk) with e|e
   ·exact e
   ·rcases eB.mp ((h y).mpr dk) with e'|e'
    ·exact e'.symm
    ·exact(as x dk y (dr _ e') (a1 y e') (b1 x e)).elim
  subst e;have rg:¬ lt x x:=λz=>as x dk x dk z z;rw[je (λa ha b hb=>as a (dr _ ha) b (dr _ hb)) a2 b2 λz=>⟨λhz=>by
   rcases eB.mp ((h z).mp (dr _ hz)) with e|e
   ·subst e;exact absurd (a1 z hz) rg
   ·exact e,λhz=>by
   rcases eB.mp ((h z).mpr (dr _ hz)) with e|e
   ·subst e;exact absurd (b1 z hz) rg
   ·exact e⟩]
def rk(dy:List Int)(s:Int):Int:=dy.getD s.toNat 0
structure Kx(steps:List aS)(dy:List Int)(s:Int)(k:Ky):Prop where
 fst:k.1=rk dy s
 up:k.2.Pairwise fun a b=>fv (nE a) (nE b)=true
 mem:∀ p,p∈k.2↔∃ t∈steps,t.1=s/\p=(t.2.1,rk dy t.2.2)
def Kx.ok{many:Int}{steps:List aS}{dy:List Int}{s:Int}{k:Ky}(a:Kx steps dy s k)(h:dP many steps):ve k:=λp hp=>by obtain⟨t,ht,_,rfl⟩:=(a.mem p).mp hp;exact(h t ht).2.2.1.ok
structure A7(many:Int)(steps:List aS)(dy r:List Int)(ky:Int->Ky)(diff:List Ky):Prop where
 len:r.length=many.toNat
 key:∀ s,0<=s->s<many->Kx steps dy s (ky s)
 up:diff.Pairwise fun a b=>sQ a b=true
 mem:∀ k,k∈diff↔∃ s,(0<=s/\s<many)/\k=ky s
 pos:∀ s,0<=s->s<many->0<=rk r s/\diff[(rk r s).toNat]? = some (ky s)
def RB(many:Int)(steps:List aS)(dy r:List Int):Prop:=∃ ky diff,A7 many steps dy r ky diff
section
variable {many:Int}{steps:List aS}{dy r:List Int}{ky:Int->Ky}{diff:List Ky}
def A7.ok(h:A7 many steps dy r ky diff)(bI:dP many steps){k:Ky}(hk:k∈diff):ve k:=by obtain⟨s,hs,rfl⟩:=(h.mem k).mp hk;exact(h.key s hs.1 hs.2).ok bI
def K7{l m:List Int}(hl:l.length=many.toNat)(hm:m.length=many.toNat)(h:∀ s,0<=s->s<many->rk l s=rk m s):l=m:=by apply List.ext_getElem (by lia);intro i h1 h2;have:=h (i:Nat) (by lia) (by lia);unfold rk at this;simpa[List.getD,h1,h2] using this
def A7.inj(h:A7 many steps dy r ky diff)(bI:dP many steps){i j:Nat}{k:Ky}(hi:diff[i]? = some k)(hj:diff[j]? = some k):i=j:=by
 obtain⟨lI,i9⟩:=iE.mp hi;obtain⟨MQ,Ny⟩:=iE.mp hj;have hk:k∈diff:=k7 hi;have rg:=ph k (h.ok bI hk);have pw:=xi.mp h.up;rcases Nat.lt_trichotomy i j with e|e|e
 ·have:=pw i j lI MQ e;rw[i9,Ny,rg] at this;cases this
 ·exact e
 ·have:=pw j i MQ lI e;rw[i9,Ny,rg] at this;cases this
def A7.vJ(h:A7 many steps dy r ky diff){s t:Int}(hs:0<=s/\s<many)(ht:0<=t/\t<many)(e:rk r s=rk r t):ky s=ky t:=by have p1:=(h.pos s hs.1 hs.2).2;have p2:=(h.pos t ht.1 ht.2).2;rw[e,p2] at p1;exact(Option.some.inj p1).symm
def A7.lt(h:A7 many steps dy r ky diff)(bI:dP many steps){s t:Int}(hs:0<=s/\s<many)(ht:0<=t/\t<many):rk r s<rk r t↔sQ (ky s) (ky t)=true:=by
 have p1:=h.pos s hs.1 hs.2;have p2:=h.pos t ht.1 ht.2;have k1:=h.ok bI (k7 p1.2);have k2:=h.ok bI (k7 p2.2);obtain⟨a1,a2⟩:=iE.mp p1.2;obtain⟨b1,b2⟩:=iE.mp p2.2;have pw:=xi.mp h.up;constructor
 ·intro l;have:=pw _ _ a1 b1 (by lia);rwa[a2,b2] at this
 ·intro l;by_cases z:rk r t<rk r s
  ·have:=pw _ _ b1 a1 (by lia);rw[a2,b2] at this;have:=Gv k1 k2 k1 l this;rw[ph _ k1] at this;cases this
  ·by_cases z2:rk r s=rk r t
   ·have:=h.vJ hs ht z2;rw[this,ph _ k2] at l;cases l
   ·lia
def RB.mono(h:RB many steps dy r)(bI:dP many steps){s t:Int}(hs:0<=s/\s<many)(ht:0<=t/\t<many)(l:rk dy s<rk dy t):rk r s<rk r t:=by obtain⟨ky,diff,h⟩:=h;refine(h.lt bI hs ht).mpr (DG ?_);rw[(h.key s hs.1 hs.2).fst,(h.key t ht.1 ht.2).fst];exact l
def RB.ie'(h:RB many steps dy r){s t:Int}(hs:0<=s/\s<many)(ht:0<=t/\t<many)(e:rk r s=rk r t):rk dy s=rk dy t:=by obtain⟨ky,diff,h⟩:=h;have:=h.vJ hs ht e;rw[<- (h.key s hs.1 hs.2).fst,<- (h.key t ht.1 ht.2).fst,this]
def RB.Nz(h:RB many steps dy r)(bI:dP many steps){t:aS}(ht:t∈steps){s:Int}(hs:0<=s/\s<many)(e:rk r t.1=rk r s):∃ u∈steps,u.1=s/\u.2.1=t.2.1/\rk dy u.2.2=rk dy t.2.2:=by obtain⟨ky,diff,h⟩:=h;have hk:=h.vJ ⟨(bI t ht).1,(bI t ht).2.1⟩ hs e;have hm:=((h.key t.1 (bI t ht).1 (bI t ht).2.1).mem (t.2.1,rk dy t.2.2)).mpr ⟨t,ht,rfl,rfl⟩;rw[hk] at hm;obtain⟨u,hu,e1,e2⟩:=((h.key s hs.1 hs.2).mem _).mp hm;exact⟨u,hu,e1,(Prod.mk.inj e2).1.symm,(Prod.mk.inj e2).2.symm⟩
def uV(many:Int)(r:List Int):Prop:=r.length=many.toNat/\(∀ s,0<=s->s<many->0<=rk r s/\rk r s<many)/\∀ s,0<=s->s<many->0<rk r s->∃ t,(0<=t/\t<many)/\rk r t=rk r s-1
def A7.short(h:A7 many steps dy r ky diff)(bI:dP many steps):diff.length<=many.toNat:=by
 have nd:diff.Nodup:=by rw[PJ];have:=xi.mp h.up;rw[xi];intro i j hi hj iN e;have z:=this i j hi hj iN;rw[e,ph _ (h.ok bI (rX hj))] at z;cases z
 have:=aR (m:=(cZ many.toNat).map ky) nd λk hk=>by obtain⟨s,hs,rfl⟩:=(h.mem k).mp hk;exact b5.mpr ⟨s,dH.mpr (by lia),rfl⟩
 rwa[b6,fu] at this
def RB.zA(h:RB many steps dy r)(bI:dP many steps):uV many r:=by
 obtain⟨ky,diff,h⟩:=h;have sh:=h.short bI;refine⟨h.len,λs a b=>?_,λs a b c=>?_⟩
 ·have p:=h.pos s a b;have:=(iE.mp p.2).1;lia
 ·have p:=h.pos s a b;have l:=(iE.mp p.2).1;have l2:(rk r s-1).toNat<diff.length:=by lia
  obtain⟨t,ht,e⟩:=(h.mem _).mp (rX l2);have p2:=h.pos t ht.1 ht.2;have:=h.inj bI p2.2 (iE.mpr ⟨l2,e⟩);exact⟨t,ht,by lia⟩
theorem RB.grows(h:RB many steps dy r)(bI:dP many steps)(d:uV many dy):∀ (n:Nat) (s:Int),0<=s->s<many->rk dy s=n->rk dy s<=rk r s
 |0,s,a,b,e=>by rw[e];exact((h.zA bI).2.1 s a b).1
 |n+1,s,a,b,e=>by obtain⟨t,ht,et⟩:=d.2.2 s a b (by lia);have:=RB.grows h bI d n t ht.1 ht.2 (by lia);have:=h.mono bI ht ⟨a,b⟩ (by lia);lia
def RB.le(h:RB many steps dy r)(bI:dP many steps)(d:uV many dy){s:Int}(a:0<=s)(b:s<many):rk dy s<=rk r s :=
 h.grows bI d (rk dy s).toNat s a b (by have:=(d.2.1 s a b).1;lia)
end
theorem Bx:∀ {l m:List Int},l.length=m.length->(∀ (i:Nat) (h1:i<l.length) (h2:i<m.length),l[i]<=m[i])->l.sum<=m.sum/\(l≠m->l.sum<m.sum)
 |[],[],_,_=>⟨by simp,λh=>absurd rfl h⟩
 |[],y :: m,h,_=>by simp at h
 |x :: l,[],h,_=>by simp at h
 |x :: l,y :: m,h,hl=>by
  have ih:=Bx (l:=l) (m:=m) (by simpa using h) λi h1 h2=>by have:=hl (i+1) (by simp;lia) (by simp;lia);simpa using this
  have h0:x<=y:=by have:=hl 0 (by simp) (by simp);simpa using this
  simp only[List.sum_cons];refine⟨by have:=ih.1;lia,λne=>?_⟩;by_cases e:x=y
  ·subst e;have:l≠m:=λz=>ne (by rw[z]);have:=ih.2 this;lia
  ·have:=ih.1;lia
def sum_bound{l:List Int}{b:Int}(h:∀ x∈l,x<=b)(hb:0<=b):l.sum<=l.length*b:=by
 induction l with
 |nil=>simp
 |cons x l ih =>
  have:=ih λy hy=>h y (dr _ hy);have:=h x dk;simp only[List.sum_cons,oS];have e:((l.length+1:Nat):Int)*b=l.length*b+b:=by rw[Int.natCast_add,Int.add_mul];simp
  lia
def Fd{r:List Int}{i:Nat}(h:i<r.length):r[i]=rk r i:=by simp[rk,List.getD,h]
def RB.sum{many:Int}{steps:List aS}{dy r:List Int}(h:RB many steps dy r)(bI:dP many steps)(d:uV many dy)(hm:0<=many)(ne:r≠dy):dy.sum<r.sum/\r.sum<=many*many:=by
 have d2:=h.zA bI;have hl:=d.1;have y6:=d2.1;refine⟨(Bx (by lia) λi h1 h2=>?_).2 λe=>ne e.symm,?_⟩
 ·rw[Fd h1,Fd h2];exact h.le bI d (by lia) (by lia)
 ·have:=sum_bound (l:=r) (b:=many) (λx hx=>by
   obtain⟨i,hi,rfl⟩:=PQ.mp hx;rw[Fd hi];have:=(d2.2.1 i (by lia) (by lia)).2;lia) hm
  rwa[y6,BI hm] at this
def Chain(many:Int)(steps:List aS):List Int->List (List Int)->Prop
 |cur,[]=>RB many steps cur cur
 |cur,lS :: rest=>RB many steps cur lS/\lS≠cur/\Chain many steps lS rest
def fK(cur:List Int)(rest:List (List Int)):List Int:=(cur :: rest).getLast (by simp)
def u9(cur lS:List Int)(rest:List (List Int)):fK cur (lS :: rest)=fK lS rest:=by simp[fK]
theorem Chain.last{many:Int}{steps:List aS}:∀ {cur:List Int} {rest:List (List Int)},Chain many steps cur rest->RB many steps (fK cur rest) (fK cur rest)
 |_,[],h=>h
 |cur,lS :: rest,h=>by rw[u9];exact h.2.2.last
def zeros(many:Int):List Int:=List.replicate many.toNat 0
def c7(many s:Int):rk (zeros many) s=0:=by
 unfold rk zeros;by_cases h:s.toNat<many.toNat
 ·simp[List.getD,h]
 ·rw[List.getD,tj (by simpa using h)];rfl
def rD{many:Int}(h:1<=many):uV many (zeros many) :=
 ⟨by simp[zeros],λs _ _=>by rw[c7];lia,λs _ _ z=>by rw[c7] at z;lia⟩
def Kinds(many:Int)(steps:List aS)(k:List Int):Prop:=∃ rest,Chain many steps (zeros many) rest/\k=fK (zeros many) rest
def Kinds.fz{many:Int}{steps:List aS}{k:List Int}(h:Kinds many steps k):RB many steps k k:=by obtain⟨a,ha,rfl⟩:=h;exact ha.last
def Kinds.len{many:Int}{steps:List aS}{k:List Int}(h:Kinds many steps k):k.length=many.toNat:=by obtain⟨ky,diff,r⟩:=h.fz;exact r.len
def zg{ps:List Pr}(hl:ps.length<=1000){m:Md}{Q:Md->D->Prop}(k:∀ l:List Pr,l.Pairwise (λa b=>fv (nE a) (nE b)=true)->(∀ p,p∈l↔p∈ps)->Q (.ow true) (.list (l.map kH))) :
  fj m (.list (ps.map kH)) Q:=by
 refine⟨ps.map nE,[true],by rw[fe];rfl,by rw[b6];exact hl,λk hk=>?_,λms nd mm pw=>?_⟩
 ·obtain⟨p,_,rfl⟩:=b5.mp hk;rfl
 ·obtain⟨l,rfl,hp⟩:=Pu (f:=nE) (P:=λp=>p∈ps) (ks:=ms) λk hk=>by obtain⟨p,hp,e⟩:=b5.mp ((mm k).mp hk);exact⟨p,e.symm,hp⟩
  have e:(l.map nE).map kr=l.map kH:=by rw[fe];rfl
  rw[e];refine k l ?_ λp=>⟨hp p,λi5=>?_⟩
  ·rw[iO] at pw;have zo:l.Pairwise λa b=>nE a≠nE b:=by rw[List.Nodup,iO] at nd;exact nd
   refine(pw.and zo).imp λ{a b} ⟨h1,h2⟩=>?_
   cases h3:fv (nE a) (nE b) with
   |true=>rfl
   |false=>exact absurd (gU (a:=nE a) (b:=nE b) rfl h3 h1) h2
  ·obtain⟨q,hq,e⟩:=b5.mp ((mm (nE p)).mpr (b5.mpr ⟨p,i5,rfl⟩));rw[<- Ec e];exact hq
def mB(steps:List aS)(s:Int):List Pr:=(steps.filter λt=>decide (t.1=s)).map (·.2)
def sR(many:Int)(steps:List aS):List D:=(cZ many.toNat).map λs=>.list ((mB steps s).map kH)
def vi(many:Int)(steps:List aS):D:=.list (sR many steps)
def Cm(many:Int):((gR 0 many.toNat).filter λ_=>true).map (λ_=>D.list [])=sR many []:=by unfold sR gR cZ;rw[EC.mpr λ_ _=>rfl,fe,fe];rfl
def zx{many s:Int}(steps:List aS)(h0:0<=s)(h1:s<many):(sR many steps)[s.toNat]? = some (.list ((mB steps s).map kH)):=by
 have:s.toNat<many.toNat:=by lia
 simp[sR,cZ,this,BI h0]
def lY(many:Int)(steps:List aS):(sR many steps).length=many.toNat:=by simp[sR,cZ]
def qH{n:Nat}{i:Int}(h0:0<=i)(h1:i<n):oi n i=some i.toNat:=by unfold oi;rw[if_pos h0,if_pos h1]
def zm(steps:List aS)(p:Int)(d:Str)(r s:Int):mB (steps++[(p,d,r)]) s=if p=s then mB steps s++[(d,r)] else mB steps s:=by
 unfold mB;by_cases h:p=s
 ·simp[h]
 ·simp[h]
def BR{many p:Int}(steps:List aS)(d:Str)(r:Int)(h0:0<=p)(h1:p<many):(sR many steps).set p.toNat (.list ((mB steps p).map kH++[.tup [.str d,.int r]]))=sR many (steps++[(p,d,r)]):=by
 apply Dp;intro i;by_cases hi:i<many.toNat
 ·have e:∀ st,(sR many st)[i]? = some (.list ((mB st (i:Nat)).map kH)):=λst=>by have:=zx (many:=many) (s:=(i:Nat)) st (by lia) (by lia);simpa using this
  rw[e,zm];by_cases hp:p=(i:Nat)
  ·subst hp;rw[if_pos rfl];simp[lY,hi,kH]
  ·rw[if_neg hp,NK (by lia),e]
 ·rw[tj (by rw[List.length_set,lY];lia),tj (by rw[lY];lia)]
def yp{many s:Int}(steps:List aS)(h0:0<=s)(h1:s<many):gv (sR many steps) s=some (.list ((mB steps s).map kH)) :=
 uT (qH h0 (by rw[lY];lia)) (zx steps h0 h1)
def pP{many s:Int}{r:List Int}(hl:r.length=many.toNat)(h0:0<=s)(h1:s<many):gv (r.map D.int) s=some (.int (rk r s)):=by
 have h:s.toNat<r.length:=by lia
 refine uT (qH h0 (by rw[b6];lia)) ?_;simp[rk,List.getD,h]
def rH{steps:List aS}{s:Int}{p:Pr}(h:p∈mB steps s):∃ t∈steps,t.1=s/\t.2=p:=by obtain⟨t,ht,e⟩:=b5.mp h;obtain⟨ht,hs⟩:=qf.mp ht;exact⟨t,ht,of_decide_eq_true hs,e⟩
def xM{steps:List aS}{t:aS}(h:t∈steps):t.2∈mB steps t.1:=b5.mpr ⟨t,qf.mpr ⟨h,decide_eq_true rfl⟩,rfl⟩
def qN(steps:List aS)(s:Int):(mB steps s).length<=steps.length:=by unfold mB;rw[b6];exact SW _ _
def xg(many:Int):(List.replicate many.toNat [D.int 0]).flatten=(zeros many).map D.int:=by
 unfold zeros;generalize many.toNat=n
 induction n with
 |zero=>rfl
 |succ n ih=>rw[EB,GB,ih,EB];rfl
theorem Chain.at{many:Int}{steps:List aS}:∀ {cur:List Int} {rest:List (List Int)},Chain many steps cur rest->∀ (i:Nat) (a b:List Int),(cur :: rest)[i]? = some a->(cur :: rest)[i+1]? = some b->RB many steps a b/\b≠a
 |_,[],_,i,a,b,_,hb=>by simp at hb
 |cur,lS :: rest,h,0,a,b,ha,hb=>by cases ha;cases hb;exact⟨h.1,h.2.1⟩
 |cur,lS :: rest,h,i+1,a,b,ha,hb=>h.2.2.at i a b (by simpa using ha) (by simpa using hb)
def Chain.end{many:Int}{steps:List aS}{cur:List Int}{rest:List (List Int)}(h:Chain many steps cur rest){a:List Int}(ha:(cur :: rest)[rest.length]? = some a):RB many steps a a:=by have:=h.last;unfold fK at this;rw[SJ] at this;have e:=(iE.mp ha).2;simp only[oS,Nat.add_sub_cancel] at this;rwa[e] at this
def RB.len{many:Int}{steps:List aS}{dy r:List Int}(h:RB many steps dy r):r.length=many.toNat:=by obtain⟨ky,diff,h⟩:=h;exact h.len
abbrev P2:=Int × Int
def nX(p:P2):List Key:=[.inl p.1,.inl p.2]
def jS(p:P2):D:=.tup [.int p.1,.int p.2]
def xR{p q:P2}(h:nX p=nX q):p=q:=by obtain⟨a,b⟩:=p;obtain⟨c,d⟩:=q;simp only[nX,List.cons.injEq,Sum.inl.injEq,and_true] at h;rw[h.1,h.2]
def IV(l:List P2)(n:Nat):d4 (n+2) (.list (l.map jS))=true:=by simp only[d4,NR,GH];intro x _;cases n<;>rfl
def Ib{l:List P2}{i:Nat}{x:D}(h:(l.map jS)[i]? = some x):∃ p q,x=.tup [.int p,.int q]/\(p,q)∈l/\l.take (i+1)=l.take i++[(p,q)]:=by
 rw[kM] at h
 cases e:l[i]? with
 |none=>rw[e] at h;cases h
 |some s =>rw[e] at h;cases h;exact⟨s.1,s.2,rfl,k7 e,by rw[Dx,e];rfl⟩
def A8(many:Int)(p:P2):Prop:=(0<=p.1/\p.1<many)/\0<=p.2/\p.2<many
def kz(ks:List P2):Kn:=ks.map λp=>(nX p,.bl true)
def eG(ks:List P2):(kz ks).map (·.1)=ks.map nX:=by simp[kz,fe,Function.comp_def]
def oE(ks:List P2):(kz ks).length=ks.length:=by simp[kz]
def nR{ks:List P2}{x:P2}:nX x∈ks.map nX↔x∈ks:=by rw[b5];exact⟨λ⟨y,hy,e⟩=>xR e ▸ hy,λh=>⟨x,h,rfl⟩⟩
def D9(ks:List P2)(x:P2):List P2:=if x∈ks then ks else ks++[x]
def Ag(ks:List P2)(x:P2):lP (kz ks) (nX x) (.bl true)=kz (D9 ks x):=by
 unfold lP D9;by_cases h:x∈ks
 ·rw[if_pos (jx.mpr (by rw[eG];exact nR.mpr h)),if_pos h];unfold kz;rw[fe];apply CY;intro p _;show(if nX p=nX x then (nX p,D.bl true) else (nX p,D.bl true))=_;split<;>rfl
 ·rw[if_neg λz=>h (nR.mp (by rw[<- eG];exact jx.mp z)),if_neg h];simp[kz]
def sS(ks:List P2)(x:P2):(gS (kz ks) (nX x)).isSome=decide (x∈ks):=by rw[pj,nY,eG,nR,decide_eq_true_eq]
def zV{ks:List P2}{x y:P2}:y∈D9 ks x↔y∈ks\/y=x:=by
 unfold D9;split
 ·rename_i h;exact⟨.inl,λz=>z.elim id λe=>e ▸ h⟩
 ·simp
def uY{ks:List P2}{x:P2}(h:ks.Nodup):(D9 ks x).Nodup:=by
 unfold D9;split
 ·exact h
 ·rename_i n;exact gV.mpr ⟨h,by simp,λa ha b hb e=>n (by rw[<- nI.mp hb,<- e];exact ha)⟩
def zz(ks:List P2)(x:P2):(D9 ks x).length<=ks.length+1:=by unfold D9;split<;>simp
structure KG(ps ks:List P2):Prop where
 nd:ks.Nodup
 mem:∀ x,x∈ks↔x∈ps
 len:ks.length<=ps.length
def KG.nil:KG [] []:=⟨n9,λ_=>Iff.rfl,by simp⟩
def KG.put{ps ks:List P2}(h:KG ps ks)(x:P2):KG (ps++[x]) (D9 ks x):=⟨uY h.nd,λy=>by rw[zV,eR,nI,h.mem],by
 have:=zz ks x;have:=h.len;rw[ot,LJ];lia⟩
def VD(l:List aS)(ps:List P2)(p q:Int):Prop:=∀ d e,(p,d,e)∈l->∃ o,(q,d,o)∈l/\(e,o)∈ps
def Bwd(l:List aS)(ps:List P2)(p q:Int):Prop:=∀ d o,(q,d,o)∈l->∃ e,(p,d,e)∈l/\(e,o)∈ps
def rz(l:List aS)(ps:List P2)(p:P2):Prop:=VD l ps p.1 p.2/\Bwd l ps p.1 p.2
def rz.congr{l:List aS}{ps qs:List P2}(h:∀ x,x∈ps↔x∈qs){p:P2}:rz l ps p↔rz l qs p:=by unfold rz VD Bwd;simp only[h]
def Gr(ks:List P2):(kz ks).map (λkv=>kr kv.1)=ks.map jS:=by unfold kz;rw[fe];rfl
def GJ{l:List Pr}{i:Nat}{x:D}(h:(l.map kH)[i]? = some x):∃ d e,x=.tup [.str d,.int e]/\(d,e)∈l/\l.take (i+1)=l.take i++[(d,e)]:=by
 rw[kM] at h
 cases e:l[i]? with
 |none=>rw[e] at h;cases h
 |some s =>rw[e] at h;cases h;exact⟨s.1,s.2,rfl,k7 e,by rw[Dx,e];rfl⟩
def il{steps:List aS}{s:Int}{d:Str}{e:Int}:(d,e)∈mB steps s↔(s,d,e)∈steps:=by
 constructor
 ·intro h;obtain⟨t,ht,e1,e2⟩:=rH h;obtain⟨a,b,c⟩:=t;cases e1;cases e2;exact ht
 ·exact λh=>xM h
def sI{α:Type}{l:List α}{i:Nat}{x:α}{P:α->Prop}(tk:l.take (i+1)=l.take i++[x])(h:∀ y∈l.take i,P y)(hx:P x):∀ y∈l.take (i+1),P y:=λy hy=>by
 rw[tk] at hy;rcases eR.mp hy with hy|hy
 ·exact h y hy
 ·rw[nI.mp hy];exact hx
def pq(l:List aS)(ks:List P2)(p:P2):Bool:=@decide (rz l ks p) (Classical.propDecidable _)
def qb{l:List aS}{ks:List P2}{p:P2}:pq l ks p=true↔rz l ks p:=@decide_eq_true_iff _ (Classical.propDecidable _)
def onP(f:P2->Bool)(x:D):Bool:=match x with
 |.tup [.int a,.int b]=>f (a,b)
 |_=>false
def zJ(ks:List P2)(f:P2->Bool):((ks.map jS).filter (onP f)).map (λx=>x)=(ks.filter f).map jS:=by rw[P4,fe];rfl
def wW(l:List P2):ip (.list (l.map jS)) (.list [])=decide (l=[]):=by cases l<;>rfl
def VF(k:List Key):P2:=match k with
 |[.inl a,.inl b]=>(a,b)
 |_=>(0,0)
def Ex{ks:List P2}{R:List (List Key)->Prop}(k:∀ out:List P2,out.Perm ks->R (out.map nX)) :
  ∃ b0 sh,(∀ p∈kz ks,gX p.1=b0 :: sh)/\∀ ms:List (List Key),ms.Perm ((kz ks).map (·.1))->(ms.Pairwise λa b=>fv b a=false)->R ms:=by
 refine⟨true,[true],λp hp=>?_,λms pm _=>?_⟩
 ·obtain⟨s,_,rfl⟩:=b5.mp hp;rfl
 ·rw[eG] at pm;have e:(ms.map VF).map nX=ms:=by rw[fe];refine(CY λx hx=>?_).trans (List.map_id ms);obtain⟨p,_,rfl⟩:=b5.mp (pm.mem_iff.mp hx);rfl
  rw[<- e];refine k _ ?_;have e2:(ks.map nX).map VF=ks:=by rw[fe];exact(CY λx _=>rfl).trans (List.map_id ks)
  rw[<- e2];exact pm.map VF
def Aj(l:List P2):(l.map nX).map kr=l.map jS:=by rw[fe];rfl
theorem lB:∀ (ks:List P2) (j:Nat),(kz ks).eraseIdx j=kz (ks.eraseIdx j)
 |[],_=>rfl
 |_ :: _,0=>rfl
 |k :: ks,j+1=>congrArg ((nX k,D.bl true) :: ·) (lB ks j)
theorem Ca:∀ (ks:List P2) (j:Nat) (g:P2),ks.Nodup->ks[j]? = some g->∀ x,x∈ks.eraseIdx j↔x∈ks/\x≠g
 |[],j,g,_,h,x=>by simp at h
 |k :: ks,0,g,nd,h,x=>by cases h;have n:=(kN.mp nd).1;rw[List.eraseIdx_cons_zero,eB];exact⟨λa=>⟨.inr a,λe=>n (by rw[<- e];exact a)⟩,λa=>a.1.elim (λe=>absurd e a.2) id⟩
 |k :: ks,j+1,g,nd,h,x=>by have n:=kN.mp nd;have h:ks[j]? = some g:=h;have hg:=k7 h;rw[FY,eB,eB,Ca ks j g n.2 h x];exact⟨λa=>a.elim (λe=>⟨.inl e,λz=>n.1 (by rw[<- e,z];exact hg)⟩) λa=>⟨.inr a.1,a.2⟩,λa=>a.1.elim .inl λb=>.inr ⟨b,a.2⟩⟩
def rz.mono{l:List aS}{ps qs:List P2}(h:∀ x∈ps,x∈qs){p:P2}(b:rz l ps p):rz l qs p:=by
 refine⟨λd e he=>?_,λd o ho=>?_⟩
 ·obtain⟨o,a,m⟩:=b.1 d e he;exact⟨o,a,h _ m⟩
 ·obtain⟨e,a,m⟩:=b.2 d o ho;exact⟨e,a,h _ m⟩
def CK{x y many:Int}(x0:0<=x)(x1:x<many)(y0:0<=y)(y1:y<many):(x*many+y) / many=x/\(x*many+y) % many=y/\0<=x*many+y/\x*many+y<many*many:=by
 have a:=NX x0 (show 0<=many by lia);have b:=Int.mul_le_mul_of_nonneg_right (show x+1<=many by lia) (show 0<=many by lia);rw[Int.add_mul,Int.one_mul] at b;refine⟨?_,?_,by lia,by lia⟩
 ·rw[Int.add_comm,Int.add_mul_ediv_right _ _ (by lia),Int.ediv_eq_zero_of_lt y0 y1,Int.zero_add]
 ·rw[Int.add_comm,Int.add_mul_emod_self_right,Int.emod_eq_of_lt y0 y1]
def Aa{many:Int}{n:Nat}{ps:List P2}(hn:(n:Int)=many*many)(h:∀ i:Nat,i<n->(((i:Int) / many,(i:Int) % many):P2)∈ps){x:P2}(hx:A8 many x):x∈ps:=by have d:=CK hx.1.1 hx.1.2 hx.2.1 hx.2.2;have:=h (x.1*many+x.2).toNat (by lia);rw[BI d.2.2.1,d.1,d.2.1] at this;exact this
structure FG(l:List aS)(ps out:List P2):Prop where
 sub:∀ p∈out,p∈ps
 both:∀ p∈out,rz l out p
 max:∀ T:List P2,(∀ p∈T,p∈ps)->(∀ p∈T,rz l T p)->∀ p∈T,p∈out
 len:out.length<=ps.length
def FG.diag{many:Int}{l:List aS}{ps out:List P2}(h:FG l ps out)(bI:dP many l)(m1:1<=many)(all:∀ x,A8 many x->x∈ps):((0,0):P2)∈out:=by
 have hm:∀ k:Int,0<=k->k<many->((k,k):P2)∈(List.range many.toNat).map λi:Nat=>((((i:Nat):Int),((i:Nat):Int)):P2):=λk a b=>b5.mpr ⟨k.toNat,n5.mpr (by lia),by rw[BI a]⟩;refine h.max _ (λp hp=>?_) (λp hp=>?_) _ (hm 0 (by lia) (by lia))
 ·obtain⟨i,hi,rfl⟩:=b5.mp hp;have:=n5.mp hi;exact all _ ⟨⟨by lia,by lia⟩,by lia,by lia⟩
 ·obtain⟨i,hi,rfl⟩:=b5.mp hp;exact⟨λd e he=>⟨e,he,hm e (bI _ he).2.2.2.1 (bI _ he).2.2.2.2⟩,λd o ho=>⟨o,ho,hm o (bI _ ho).2.2.2.1 (bI _ ho).2.2.2.2⟩⟩
def RB.iff{many:Int}{steps:List aS}{dy r:List Int}(h:RB many steps dy r)(bI:dP many steps){s t:Int}(hs:0<=s/\s<many)(ht:0<=t/\t<many) :
  rk r s=rk r t↔rk dy s=rk dy t/\(∀ d e,(s,d,e)∈steps->∃ o,(t,d,o)∈steps/\rk dy e=rk dy o)/\∀ d o,(t,d,o)∈steps->∃ e,(s,d,e)∈steps/\rk dy e=rk dy o:=by
 constructor
 ·intro e;refine⟨h.ie' hs ht e,λd x hx=>?_,λd o ho=>?_⟩
  ·obtain⟨⟨a,b,c⟩,hu,e1,e2,e3⟩:=h.Nz bI hx ht e;cases e1;cases e2;exact⟨c,hu,e3.symm⟩
  ·obtain⟨⟨a,b,c⟩,hu,e1,e2,e3⟩:=h.Nz bI ho hs e.symm;cases e1;cases e2;exact⟨c,hu,e3⟩
 ·rintro⟨e0,f,b⟩;obtain⟨ky,diff,h⟩:=h;have ks:=h.key s hs.1 hs.2;have kt:=h.key t ht.1 ht.2;have e:ky s=ky t:=by
   refine Prod.ext (by rw[ks.fst,kt.fst,e0]) (je (λx _ y _ h1 h2=>by have:=lQ h1 h2;rw[jy] at this;cases this) ks.up kt.up λp=>?_);rw[ks.mem,kt.mem];constructor
   ·rintro⟨⟨a,d,e⟩,hu,rfl,rfl⟩;obtain⟨o,ho,m⟩:=f d e hu;exact⟨_,ho,rfl,by show(d,rk dy e)=(d,rk dy o);rw[m]⟩
   ·rintro⟨⟨a,d,o⟩,hu,rfl,rfl⟩;obtain⟨e,he,m⟩:=b d o hu;exact⟨_,he,rfl,by show(d,rk dy o)=(d,rk dy e);rw[m]⟩
  have p1:=h.pos s hs.1 hs.2;have p2:=h.pos t ht.1 ht.2;rw[<- e] at p2;have:=h.inj bI p1.2 p2.2;lia
structure Rds(many:Int)(steps:List aS)(rest:List (List Int))(f:Nat->List Int):Prop where
 zero:f 0=zeros many
 lS:∀ k,RB many steps (f k) (f (k+1))
 at':∀ k,k<=rest.length->(zeros many :: rest)[k]? = some (f k)
 fz:∀ k,rest.length<=k->f k=f rest.length
theorem Chain.sq{many:Int}{steps:List aS}:∀ {cur:List Int} {rest:List (List Int)},Chain many steps cur rest->∃ f:Nat->List Int,f 0=cur/\(∀ k,RB many steps (f k) (f (k+1)))/\(∀ k,k<=rest.length->(cur :: rest)[k]? = some (f k))/\∀ k,rest.length<=k->f k=f rest.length
 |cur,[],h=>⟨λ_=>cur,rfl,λ_=>h,λk hk=>by
   have:k=0:=Nat.le_zero.mp hk;subst this;rfl,λ_ _=>rfl⟩
 |cur,lS :: rest,h=>by
  obtain⟨f,f0,fn,fa,fs⟩:=h.2.2.sq;refine⟨λk=>Nat.casesOn k cur f,rfl,λk=>?_,λk hk=>?_,λk hk=>?_⟩
  ·cases k with
   |zero=>show RB many steps cur (f 0);rw[f0];exact h.1
   |succ k=>exact fn k
  ·cases k with
   |zero=>rfl
   |succ k=>exact fa k (Nat.le_of_succ_le_succ hk)
  ·cases k with
   |zero=>exact absurd hk (by simp)
   |succ k=>exact fs k (Nat.le_of_succ_le_succ hk)
def Chain.rds{many:Int}{steps:List aS}{rest:List (List Int)}(h:Chain many steps (zeros many) rest):∃ f,Rds many steps rest f:=by obtain⟨f,a,b,c,d⟩:=h.sq;exact⟨f,a,b,c,d⟩
def yN(cur:List Int)(rest:List (List Int)):(cur :: rest)[rest.length]? = some (fK cur rest):=by unfold fK;rw[SJ];simp
def Kinds.rb{many:Int}{l:List aS}{k:List Int}(h:Kinds many l k):RB many l k k:=by obtain⟨rest,hc,rfl⟩:=h;exact hc.last
def Kinds.same{many:Int}{l:List aS}{k:List Int}{ps:List P2}(h:Kinds many l k)(bI:dP many l)(hi:∀ x∈ps,A8 many x)(hb:∀ x∈ps,rz l ps x):∀ x∈ps,rk k x.1=rk k x.2:=by
 obtain⟨rest,hc,rfl⟩:=h;obtain⟨f,hf⟩:=hc.rds;have go:∀ i,∀ x∈ps,rk (f i) x.1=rk (f i) x.2:=λi=>by
  induction i with
  |zero=>intro x _;rw[hf.zero,c7,c7]
  |succ i ih =>
   intro x hx;have b:=hb x hx;refine((hf.lS i).iff bI (hi x hx).1 (hi x hx).2).mpr ⟨ih x hx,λd e he=>?_,λd o ho=>?_⟩
   ·obtain⟨o,ho,m⟩:=b.1 d e he;exact⟨o,ho,ih _ m⟩
   ·obtain⟨e,he,m⟩:=b.2 d o ho;exact⟨e,he,ih _ m⟩
 have e:=hf.at' rest.length (cx _);rw[yN] at e;rw[Option.some.inj e];exact go _
def dD(nums:List Int)(k:Int):Option Int:=if k∈nums then some (x8 nums k) else none
def numsOf(k0:Int)(fI:List Int):List Int:=k0 :: fI.filter λx=>decide (x≠k0)
def hm(hs:List (Option Int))(s:Int):Option Int:=hs.getD s.toNat none
structure jG(many:Int)(steps:List aS)(kinds ms fI:List Int)(hs:List (Option Int)):Prop where
 yn:Kinds many steps kinds
 met:Met steps ms
 up:fI.Pairwise (· < ·)
 mem:∀ x,x∈fI↔∃ s∈ms,x=rk kinds s
 eq:hs=kinds.map (dD (numsOf (rk kinds 0) fI))
def cB(many:Int)(steps:List aS)(hs:List (Option Int)):Prop:=∃ kinds ms fI,jG many steps kinds ms fI hs
def cB.len{many:Int}{steps:List aS}{hs:List (Option Int)}(h:cB many steps hs):hs.length=many.toNat:=by obtain⟨k,m,s,h⟩:=h;rw[h.eq,b6,h.yn.len]
def jG.at{many:Int}{steps:List aS}{kinds ms fI:List Int}{hs:List (Option Int)}(h:jG many steps kinds ms fI hs){s:Int}(h0:0<=s)(h1:s<many):hm hs s=dD (numsOf (rk kinds 0) fI) (rk kinds s):=by
 have hl:=h.yn.len;have:s.toNat<kinds.length:=by lia
 unfold hm rk;rw[h.eq];simp[List.getD,this,rk]
def jG.nums{many:Int}{steps:List aS}{kinds ms fI:List Int}{hs:List (Option Int)}(h:jG many steps kinds ms fI hs){x:Int}:x∈numsOf (rk kinds 0) fI↔∃ s∈ms,x=rk kinds s:=by
 unfold numsOf;rw[eB,qf,h.mem];constructor
 ·rintro(rfl|⟨a,_⟩)
  ·exact⟨0,h.met.zero,rfl⟩
  ·exact a
 ·intro a;by_cases e:x=rk kinds 0
  ·exact .inl e
  ·exact .inr ⟨a,by simpa using e⟩
def bY{nums:List Int}{k i:Int}(h:dD nums k=some i):k∈nums/\i=x8 nums k:=by
 unfold dD at h;split at h
 ·rename_i hk;exact⟨hk,(Option.some.inj h).symm⟩
 ·cases h
def cB.step{many:Int}{steps:List aS}{hs:List (Option Int)}(h:cB many steps hs)(bI:dP many steps)(h1:1<=many){t:aS}(ht:t∈steps){i:Int}(e:hm hs t.1=some i):∃ j,hm hs t.2.2=some j:=by obtain⟨k,m,fI,h⟩:=h;have ok:=bI t ht;rw[h.at ok.1 ok.2.1] at e;obtain⟨s,hs,es⟩:=h.nums.mp (bY e).1;have gL:=((h.met.mem s).mp hs).lt bI h1;obtain⟨u,hu,e1,e2,e3⟩:=h.yn.fz.Nz bI ht gL es;refine⟨x8 (numsOf (rk k 0) fI) (rk k t.2.2),?_⟩;rw[h.at ok.2.2.2.1 ok.2.2.2.2,dD,if_pos];exact h.nums.mpr ⟨u.2.2,h.met.to hu (by rw[e1];exact hs),e3.symm⟩
def cB.in{many:Int}{steps:List aS}{hs:List (Option Int)}(h:cB many steps hs):∃ b:Int,∀ s i,hm hs s=some i->0<=i/\i<b:=by
 obtain⟨k,m,fI,h⟩:=h;refine⟨(numsOf (rk k 0) fI).length,λs i e=>?_⟩;unfold hm at e;rw[h.eq] at e;by_cases hs:s.toNat<k.length
 ·simp only[List.getD,kM,kB hs,Option.map_some,Tf] at e;have:=bY e;rw[this.2];exact BV this.1
 ·rw[List.getD,tj (by simpa using hs)] at e;cases e
structure j5(steps:List aS)(hs:List (Option Int))(c:Int)(out:List aS):Prop where
 cnt:∃ l:List Int,l.Nodup/\(∀ x,x∈l↔some x∈hs)/\c=l.length
 up:out.Pairwise fun a b=>cS a b=true
 mem:∀ s,s∈out↔∃ t∈steps,hm hs t.1=some s.1/\s.2.1=t.2.1/\hm hs t.2.2=some s.2.2
def j5.ok{many:Int}{steps:List aS}{hs:List (Option Int)}{c:Int}{out:List aS}(h:j5 steps hs c out)(H:cB many steps hs)(bI:dP many steps):∃ b,dP b out:=by obtain⟨b,hb⟩:=H.in;refine⟨b,λs hs=>?_⟩;obtain⟨t,ht,e1,e2,e3⟩:=(h.mem s).mp hs;have:=hb _ _ e1;have:=hb _ _ e3;exact⟨by lia,by lia,by rw[e2];exact(bI t ht).2.2.1,by lia,by lia⟩
def oI:Option Int->D
 |some i=>.int i
 |none=>.non
def Ek{many s:Int}{hs:List (Option Int)}(hl:hs.length=many.toNat)(h0:0<=s)(h1:s<many):gv (hs.map oI) s=some (oI (hm hs s)):=by
 have h:s.toNat<hs.length:=by lia
 refine uT (qH h0 (by rw[b6];lia)) ?_;simp[hm,List.getD,h]
def tW(l:List Int):(l.map λx=>(Sum.inl x:Key)).map kX=l.map D.int:=by rw[fe];rfl
def pM{l:List Int}(h:(l.map λx=>(Sum.inl x:Key)).Nodup):l.Nodup:=by
 unfold List.Nodup at *
 rw[iO] at h;exact h.imp λh e=>h (by rw[e])
def G3{l:List Int}(h:(l.map λx=>(Sum.inl x:Key)).Nodup)(pw:(l.map λx=>(Sum.inl x:Key)).Pairwise λa b=>mw b a=false):l.Pairwise (· < ·):=by
 have nd:=pM h;rw[iO] at pw;refine(pw.and nd).imp λ{a b} ⟨h1,h2⟩=>?_;have h1:¬ b<a:=by simpa[mw] using h1
 lia
def zM(o:Option Int):(oI o).flat=true:=by cases o<;>rfl
def lU(k0:Int){fI:List Int}(h:fI.Pairwise (· < ·)):(numsOf k0 fI).Nodup :=
 kN.mpr ⟨λz=>by have:=(qf.mp z).2;simp at this,(oW h).filter _⟩
def zq{nums:List Int}(nd:nums.Nodup){x:Int}{Q:Md->D->Prop}(h:Q .sh (oI (dD nums x))):Nx (gS (rh nums) (.inl x)) .sh .sh .non Q:=by
 unfold dD at h;by_cases e:x∈nums
 ·rw[Gm e nd];rw[if_pos e] at h;exact h
 ·have:gS (rh nums) (.inl x)=none:=by
   have:=xn nums x;rw[decide_eq_false e] at this
   cases z:gS (rh nums) (.inl x) with
   |none=>rfl
   |some v=>rw[z] at this;cases this
  rw[this];rw[if_neg e] at h;exact h
def nQ(steps:List aS)(hs:List (Option Int)):List aS:=(steps.filter λt=>(hm hs t.1).isSome).map λt=>((hm hs t.1).getD 0,t.2.1,(hm hs t.2.2).getD 0)
def vI{many:Int}{steps:List aS}{hs:List (Option Int)}(H:cB many steps hs)(bI:dP many steps)(h1:1<=many)(s:aS):s∈nQ steps hs↔∃ t∈steps,hm hs t.1=some s.1/\s.2.1=t.2.1/\hm hs t.2.2=some s.2.2:=by
 unfold nQ;rw[b5];constructor
 ·rintro⟨t,ht,rfl⟩;obtain⟨ht,e⟩:=qf.mp ht;obtain⟨i,ei⟩:=Option.isSome_iff_exists.mp e;obtain⟨j,ej⟩:=H.step bI h1 ht ei;exact⟨t,ht,by rw[ei];rfl,rfl,by rw[ej];rfl⟩
 ·rintro⟨t,ht,e1,e2,e3⟩;refine⟨t,qf.mpr ⟨ht,by rw[e1];rfl⟩,?_⟩;rw[e1,e3,<- e2];rfl
def gY(hs:List (Option Int)):List Int:=hs.filterMap id
def rG{hs:List (Option Int)}{x:Int}:x∈gY hs↔some x∈hs:=by simp[gY]
def wL(hs:List (Option Int)):((hs.map oI).filter λd=>!d.Fm).map (λd=>d)=((gY hs).map λx=>(Sum.inl x:Key)).map kX:=by
 rw[tW]
 induction hs with
 |nil=>rfl
 |cons o hs ih =>
  cases o with
  |none=>simpa[oI,D.Fm,gY] using ih
  |some i=>simpa[oI,D.Fm,gY] using ih
def rE{hs:List (Option Int)}(hl:hs.length<=1000){R:List Key->Prop}(k:∀ ms:List Key,(∃ l:List Int,l.Nodup/\(∀ x,x∈l↔some x∈hs)/\(ms.length:Int)=l.length)->R ms) :
  ∃ ks:List Key,((gY hs).map λx=>(Sum.inl x:Key)).map kX=ks.map kX/\ks.length<=1000/\∀ ms:List Key,ms.Nodup->(∀ k,k∈ms↔k∈ks)->R ms:=by
 refine⟨_,rfl,?_,λms nd mm=>?_⟩
 ·rw[b6];exact iP (List.length_filterMap_le _ _) hl
 ·obtain⟨l,rfl,_⟩:=Pu (f:=λx=>(Sum.inl x:Key)) (P:=λ_=>True) (ks:=ms) λx hx=>by obtain⟨y,_,e⟩:=b5.mp ((mm x).mp hx);exact⟨y,e.symm,trivial⟩
  refine k _ ⟨l,pM nd,λx=>?_,by rw[b6]⟩;rw[<- rG,<- cQ (ks:=l),mm,cQ]
def xT(steps:List aS)(hs:List (Option Int)):(nQ steps hs).length<=steps.length:=by unfold nQ;rw[b6];exact SW _ _
def Hy{many b:Int}{l:List aS}(n:Nat)(h:dP b l):d4 (n+3) (mD many l)=true:=by have h2:=Dg n h;show(d4 (n+2) (.int many) && (d4 (n+2) (.list (l.map dv)) && true))=true;rw[h2];rfl
def Fs(many:Int)(s:aS):aS:=(s.1+many,s.2.1,s.2.2+many)
section
variable {many c:Int}{steps out:List aS}{hs:List (Option Int)}
def Bh{s i:Int}(h0:0<=s)(e:hm hs s=some i):some i∈hs:=by
 unfold hm at e;rw[EA] at e
 cases z:hs[s.toNat]? with
 |none=>rw[z] at e;cases e
 |some o=>rw[z] at e;have e:o=some i:=e;rw[<- e];exact k7 z
def Cp(hl:hs.length=many.toNat){i:Int}(h:some i∈hs):∃ s,(0<=s/\s<many)/\hm hs s=some i:=by obtain⟨n,hn⟩:=GA.mp h;have Iq:=(iE.mp hn).1;exact⟨(n:Int),by lia,by unfold hm;rw[EA,show((n:Int)).toNat=n by lia,hn];rfl⟩
def cB.range(H:cB many steps hs)(bI:dP many steps)(h1:1<=many):∃ n:Nat,1<=n/\(n:Int)<=many/\∀ x,some x∈hs↔0<=x/\x<n:=by
 have hl:=H.len;obtain⟨k,ms,fI,hb⟩:=H;have nd:=lU (rk k 0) hb.up;have mx:∀ x,some x∈hs↔0<=x/\x<((numsOf (rk k 0) fI).length:Nat):=λx=>by
  constructor
  ·intro h;obtain⟨s,CD,e⟩:=Cp hl h;rw[hb.at CD.1 CD.2] at e;have:=bY e;rw[this.2];exact BV this.1
  ·intro ⟨x0,x1⟩;have hx:x.toNat<(numsOf (rk k 0) fI).length:=by lia
   obtain⟨s,CD,e⟩:=hb.nums.mp (rX hx);have D6:=((hb.met.mem s).mp CD).lt bI h1;refine Bh D6.1 (s:=s) ?_;rw[hb.at D6.1 D6.2,<- e];unfold dD;rw[if_pos (rX hx),Ed nd hx];congr 1;lia
 refine⟨(numsOf (rk k 0) fI).length,by unfold numsOf;simp,?_,mx⟩;have:=aR (m:=k) nd λx hx=>by obtain⟨s,CD,e⟩:=hb.nums.mp hx;have D6:=((hb.met.mem s).mp CD).lt bI h1;have fm:=hb.yn.len;rw[e];unfold rk;rw[EA,kB (by lia)];exact rX _
 have fm:=hb.yn.len;lia
def cB.zero(H:cB many steps hs)(h1:1<=many):hm hs 0=some 0:=by obtain⟨k,ms,fI,hb⟩:=H;rw[hb.at (sf 0) (by lia)];unfold dD numsOf;rw[if_pos dk];simp[x8]
def cB.like(H:cB many steps hs)(bI:dP many steps){t:aS}(ht:t∈steps){s i:Int}(CD:0<=s/\s<many)(e1:hm hs s=some i)(e2:hm hs t.1=some i):∃ u,(s,t.2.1,u)∈steps/\hm hs u=hm hs t.2.2:=by
 obtain⟨k,ms,fI,hb⟩:=H;have ok:=bI t ht;rw[hb.at CD.1 CD.2] at e1;rw[hb.at ok.1 ok.2.1] at e2;obtain⟨a1,a2⟩:=bY e1;obtain⟨b1,b2⟩:=bY e2;have ek:rk k t.1=rk k s:=by
  have a3:=List.idxOf_lt_length_iff.mpr a1;have b3:=List.idxOf_lt_length_iff.mpr b1;have:(numsOf (rk k 0) fI).idxOf (rk k s)=(numsOf (rk k 0) fI).idxOf (rk k t.1):=by unfold x8 at a2 b2;lia
  have e3:=PX a3;have e4:=PX b3;simp only[this] at e3;exact e4.symm.trans e3
 obtain⟨u,hu,f1,f2,f3⟩:=hb.yn.fz.Nz bI ht CD ek;obtain⟨u1,u2,u3⟩:=u;have f1:u1=s:=f1;have f2:u2=t.2.1:=f2;subst f1 f2;refine⟨u3,hu,?_⟩;have oku:=bI _ hu;rw[hb.at oku.2.2.2.1 oku.2.2.2.2,hb.at ok.2.2.2.1 ok.2.2.2.2];exact congrArg _ f3
def j5.tK(h:j5 steps hs c out){n:Nat}(hn:∀ x,some x∈hs↔0<=x/\x<n):c=n:=by
 obtain⟨l,nd,mem,rfl⟩:=h.cnt;have a:=aR (m:=cZ n) nd λx hx=>dH.mpr ((hn x).mp ((mem x).mp hx));have nr:(cZ n).Nodup:=by unfold cZ;rw[List.Nodup,iO];exact S8.imp λh e=>h (by lia)
 have b:=aR (m:=l) nr λx hx=>(mem x).mpr ((hn x).mpr (dH.mp hx));rw[fu] at a b;lia
end
def FH(p q:Pr):Bool:=if p.1=q.1 then decide (p.2<q.2) else sA p.1 q.1
def FI:List Pr->List Pr->Bool
 |[],m=>!m.isEmpty
 |_ :: _,[]=>false
 |p :: l,q :: m=>if p=q then FI l m else FH p q
def Hq(p q:Pr):fv (nE p) (nE q)=FH p q:=by
 obtain⟨a,b⟩:=p;obtain⟨c,d⟩:=q;unfold FH nE;by_cases h:a=c
 ·subst h;by_cases g:b=d
  ·subst g;simp[fv]
  ·simp[fv,g,mw]
 ·simp[fv,h,mw]
def vY{p q:Pr}(h:L2.dW p=L2.dW q):p=q:=by obtain⟨a,b⟩:=p;obtain⟨c,d⟩:=q;simp[L2.dW] at h;rw[h.1,h.2]
def BL:L2.hJ (PySem.SeqAt.cS 1) λx=>∃ a b,x=.tuple [a,b]/\(∃ s,a=.str s)/\∃ i,b=.int i:=L2.hJ.pair (L2.hJ.str 0) (L2.hJ.int 0)
def zW(p:Pr):∃ a b,L2.dW p=.tuple [a,b]/\(∃ s,a=PyData.str s)/\∃ i,b=PyData.int i:=⟨_,_,rfl,⟨_,rfl⟩,_,rfl⟩
def Jv(p q:Pr):PySem.SeqAt.cS 1 (L2.dW p) (L2.dW q)=FH p q:=by
 unfold L2.dW;rw[PySem.SeqAt.cS,L2.cC (L2.hJ.str 0) (L2.hJ.int 0) ⟨_,rfl⟩ ⟨_,rfl⟩ ⟨_,rfl⟩ ⟨_,rfl⟩];unfold FH;by_cases h:p.1=q.1
 ·rw[if_pos h,if_pos (by rw[h]),PySem.SeqAt.cS]
 ·rw[if_neg h,if_neg (λz=>h (by simpa using z)),PySem.SeqAt.cS];rfl
theorem vQ:∀ l m:List Pr,PySem.SeqAt.nV (PySem.SeqAt.cS 1) (l.map L2.dW) (m.map L2.dW)=FI l m
 |[],[]=>rfl
 |[],_ :: _=>rfl
 |_ :: _,[]=>rfl
 |p :: l,q :: m=>by
  rw[gd,gd,L2.cz BL (zW p) (zW q),vQ l m,Jv];rw[FI];by_cases h:p=q
  ·rw[if_pos h,if_pos (by rw[h])]
  ·rw[if_neg h,if_neg λz=>h (vY z)]
def Ck{a b:Ky}:sQ a b=if a.1=b.1 then FI a.2 b.2 else decide (a.1<b.1):=by
 unfold sQ;rw[yE,yE,PySem.SeqAt.cS,L2.cC (L2.hJ.int 2) (L2.hJ.list BL) ⟨_,rfl⟩ ⟨_,rfl,λy hy=>by obtain⟨p,_,rfl⟩:=b5.mp hy;exact zW p⟩ ⟨_,rfl⟩ ⟨_,rfl,λy hy=>by obtain⟨p,_,rfl⟩:=b5.mp hy;exact zW p⟩];by_cases h:a.1=b.1
 ·rw[if_pos h,if_pos (by rw[h]),PySem.SeqAt.cS,vQ]
 ·rw[if_neg h,if_neg (λz=>h (by simpa using z)),PySem.SeqAt.cS]
structure zt(many:Int)(steps:List aS)(w4:Int)(vj:List aS)(B:Int->Int->Prop):Prop where
 ins:∀ s t,B s t->(0<=s/\s<many)/\(0<=t/\t<w4)
 to:∀ s t,B s t->∀ d e,(s,d,e)∈steps->∃ f,(t,d,f)∈vj/\B e f
 back:∀ s t,B s t->∀ d f,(t,d,f)∈vj->∃ e,(s,d,e)∈steps/\B e f
def w9(B:Int->Int->Prop)(r r2:List Int):Prop:=∀ s s2 t t2,B s s2->B t t2->(rk r s<rk r t↔rk r2 s2<rk r2 t2)
section
variable {many w4:Int}{steps vj:List aS}{B:Int->Int->Prop}{r r2:List Int}
def w9.eq(h:w9 B r r2){s s2 t t2:Int}(hs:B s s2)(ht:B t t2):rk r s=rk r t↔rk r2 s2=rk r2 t2:=by have a:=h s s2 t t2 hs ht;have b:=h t t2 s s2 ht hs;constructor<;>intro e<;>lia
def rL(B:Int->Int->Prop)(r:List Int)(v:Int):Prop:=∃ e f,B e f/\rk r e=v
open Classical in
def qa(B:Int->Int->Prop)(r r2:List Int)(v:Int):Int:=if z:∃ f e,B e f/\rk r e=v then rk r2 z.choose else 0
def fW(h:w9 B r r2){e f:Int}(he:B e f):qa B r r2 (rk r e)=rk r2 f:=by
 have z:∃ f' e',B e' f'/\rk r e'=rk r e:=⟨f,e,he,rfl⟩
 unfold qa;rw[dif_pos z];obtain⟨e',h1,h2⟩:=z.choose_spec;exact(h.eq h1 he).mp h2
def pG(h:w9 B r r2){v w:Int}(hv:rL B r v)(hw:rL B r w):v<w↔qa B r r2 v<qa B r r2 w:=by obtain⟨e,e2,he,rfl⟩:=hv;obtain⟨f,f2,hf,rfl⟩:=hw;rw[fW h he,fW h hf];exact h e e2 f f2 he hf
def qy(h:w9 B r r2){v w:Int}(hv:rL B r v)(hw:rL B r w):v=w↔qa B r r2 v=qa B r r2 w:=by have a:=pG h hv hw;have b:=pG h hw hv;constructor<;>intro e<;>lia
def A9(B:Int->Int->Prop)(r r2:List Int)(p:Pr):Pr:=(p.1,qa B r r2 p.2)
def BP(h:w9 B r r2){p q:Pr}(hp:rL B r p.2)(hq:rL B r q.2):p=q↔A9 B r r2 p=A9 B r r2 q:=by
 constructor
 ·intro e;rw[e]
 ·intro e;have e1:p.1=q.1:=(Prod.mk.inj e).1;have e2:qa B r r2 p.2=qa B r r2 q.2:=(Prod.mk.inj e).2;exact Prod.ext e1 ((qy h hp hq).mpr e2)
def Ce(h:w9 B r r2){p q:Pr}(hp:rL B r p.2)(hq:rL B r q.2):FH (A9 B r r2 p) (A9 B r r2 q)=FH p q:=by
 unfold FH A9;by_cases e:p.1=q.1
 ·rw[if_pos e,if_pos e,pj,decide_eq_true_iff,decide_eq_true_iff];exact(pG h hp hq).symm
 ·rw[if_neg e,if_neg e]
theorem vW(h:w9 B r r2):∀ (l m:List Pr),(∀ p∈l,rL B r p.2)->(∀ p∈m,rL B r p.2)->FI (l.map (A9 B r r2)) (m.map (A9 B r r2))=FI l m
 |[],[],_,_=>rfl
 |[],_ :: _,_,_=>rfl
 |_ :: _,[],_,_=>rfl
 |p :: l,q :: m,hl,hm=>by
  have ih:=vW h l m (λx hx=>hl x (dr _ hx)) (λx hx=>hm x (dr _ hx));have hp:=hl p dk;have hq:=hm q dk;simp only[gd,FI];by_cases e:p=q
  ·rw[if_pos e,if_pos ((BP h hp hq).mp e),ih]
  ·rw[if_neg e,if_neg λz=>e ((BP h hp hq).mpr z),Ce h hp hq]
def BX(E:zt many steps w4 vj B)(h:w9 B r r2){s s2:Int}(hs:B s s2){k k2:Ky}(hk:Kx steps r s k)(vT:Kx vj r2 s2 k2) :
  k2=(qa B r r2 k.1,k.2.map (A9 B r r2))/\∀ p∈k.2,rL B r p.2:=by
 have inr:∀ p∈k.2,rL B r p.2:=λp hp=>by obtain⟨t,ht,e,rfl⟩:=(hk.mem p).mp hp;subst e;obtain⟨f,_,hf⟩:=E.to _ _ hs t.2.1 t.2.2 ht;exact⟨t.2.2,f,hf,rfl⟩
 refine⟨Prod.ext ?_ ?_,inr⟩
 ·rw[vT.fst,hk.fst,fW h hs]
 ·show k2.2=k.2.map (A9 B r r2);refine je (lt:=λa b=>fv (nE a) (nE b)=true) (λa _ b _ h1 h2=>by have:=lQ h1 h2;rw[jy] at this;cases this) vT.up ?_ λp=>?_
  ·rw[iO];refine(xi.mpr λi j hi hj iN=>?_);have:=xi.mp hk.up i j hi hj iN;rw[Hq] at this ⊢;rw[Ce h (inr _ (rX hi)) (inr _ (rX hj))];exact this
  ·rw[vT.mem,b5];constructor
   ·rintro⟨u,hu,e1,rfl⟩;subst e1;obtain⟨e,he,hf⟩:=E.back _ _ hs u.2.1 u.2.2 hu;refine⟨(u.2.1,rk r e),(hk.mem _).mpr ⟨_,he,rfl,rfl⟩,?_⟩;unfold A9;rw[fW h hf]
   ·rintro⟨q,hq,rfl⟩;obtain⟨t,ht,et,rfl⟩:=(hk.mem q).mp hq;subst et;obtain⟨f,hf,hb⟩:=E.to _ _ hs t.2.1 t.2.2 ht;refine⟨_,hf,rfl,?_⟩;unfold A9;rw[fW h hb]
def w9.next{q q2:List Int}(E:zt many steps w4 vj B)(bI:dP many steps)(VG:dP w4 vj)(h:w9 B r r2)(b:RB many steps r q)(b2:RB w4 vj r2 q2):w9 B q q2:=by
 obtain⟨ky,diff,b⟩:=b;obtain⟨ky2,kw',b2⟩:=b2;intro s s2 t t2 hs ht;obtain⟨Pw,II⟩:=E.ins _ _ hs;obtain⟨Px,VH⟩:=E.ins _ _ ht;rw[b.lt bI Pw Px,b2.lt VG II VH];obtain⟨es,is⟩:=BX E h hs (b.key s Pw.1 Pw.2) (b2.key s2 II.1 II.2);obtain⟨et,it⟩:=BX E h ht (b.key t Px.1 Px.2) (b2.key t2 VH.1 VH.2);have i1:rL B r (ky s).1:=⟨s,s2,hs,(b.key s Pw.1 Pw.2).fst.symm⟩
 have i2:rL B r (ky t).1:=⟨t,t2,ht,(b.key t Px.1 Px.2).fst.symm⟩
 rw[es,et,Ck,Ck];show _↔(if qa B r r2 (ky s).1=qa B r r2 (ky t).1 then FI ((ky s).2.map _) ((ky t).2.map _) else decide (qa B r r2 (ky s).1<qa B r r2 (ky t).1))=true;by_cases e:(ky s).1=(ky t).1
 ·rw[if_pos e,if_pos ((qy h i1 i2).mp e),vW h _ _ is it]
 ·rw[if_neg e,if_neg λz=>e ((qy h i1 i2).mpr z),decide_eq_true_iff,decide_eq_true_iff];exact pG h i1 i2
end
def ya(rest:List (List Int))(many:Int)(k:Nat):List Int:=(zeros many :: rest).getD (min k rest.length) []
def qe{many:Int}{steps:List aS}{rest:List (List Int)}(h:Chain many steps (zeros many) rest)(k:Nat):RB many steps (ya rest many k) (ya rest many (k+1)):=by
 have at':∀ j,j<=rest.length->(zeros many :: rest)[j]? = some (ya rest many j):=λj hj=>by unfold ya;rw[Nat.min_eq_left hj,List.getD,kB (by simp;lia)];rfl
 by_cases hk:k+1<=rest.length
 ·exact(h.at k _ _ (at' k (by lia)) (at' (k+1) hk)).1
 ·have e:∀ j,rest.length<=j->ya rest many j=ya rest many rest.length:=λj hj=>by unfold ya;rw[Nat.min_eq_right hj,Nat.min_eq_right (cx _)]
  rw[e k (by lia),e (k+1) (by lia)];exact h.end (at' rest.length (cx _))
def pR{many:Int}{rest:List (List Int)}{k:Nat}(hk:rest.length<=k):ya rest many k=fK (zeros many) rest:=by unfold ya fK;rw[Nat.min_eq_right hk,SJ,List.getD,kB (by simp)];simp
def vC{many w4:Int}{steps vj:List aS}{B:Int->Int->Prop}{k k2:List Int}(E:zt many steps w4 vj B)(bI:dP many steps)(VG:dP w4 vj)(h:Kinds many steps k)(h2:Kinds w4 vj k2):w9 B k k2:=by
 obtain⟨rest,h,rfl⟩:=h;obtain⟨be',h2,rfl⟩:=h2;have all:∀ k,w9 B (ya rest many k) (ya be' w4 k):=λk=>by
  induction k with
  |zero =>
   intro s s2 t t2 _ _;have e:∀ (m:Int) (rs:List (List Int)),ya rs m 0=zeros m:=λm rs=>by simp[ya]
   rw[e,e,c7,c7,c7,c7]
  |succ k ih=>exact ih.next E bI VG (qe h k) (qe h2 k)
 have:=all (rest.length+be'.length);rwa[pR (by lia),pR (by lia)] at this
def zt.symm{many w4:Int}{steps vj:List aS}{B:Int->Int->Prop}(h:zt many steps w4 vj B):zt w4 vj many steps λs t=>B t s :=
 ⟨λs t b=>⟨(h.ins t s b).2,(h.ins t s b).1⟩,λs t b d e he=>h.back t s b d e he,λs t b d f hf=>h.to t s b d f hf⟩
theorem idx_map{f:Int->Int}{x:Int}:∀ {l:List Int},(∀ y∈l,f y=f x->y=x)->(l.map f).idxOf (f x)=l.idxOf x
 |[],_=>rfl
 |y :: l,h=>by
  rw[gd,List.idxOf_cons,List.idxOf_cons,idx_map λz hz=>h z (dr _ hz)];by_cases e:y=x
  ·rw[e,beq_self_eq_true,beq_self_eq_true]
  ·have:f y≠f x:=λz=>e (h y dk z);rw[show(f y == f x)=false from beq_eq_false_iff_ne.mpr this,show(y == x)=false from beq_eq_false_iff_ne.mpr e]
section
variable {n1 n2:Int}{s1 s2:List aS}{B:Int->Int->Prop}{h1 h2:List (Option Int)}
def zt.Se(E:zt n1 s1 n2 s2 B)(b0:B 0 0){s:Int}(r:Reach s1 s):∃ t,Reach s2 t/\B s t:=by
 induction r with
 |zero=>exact⟨0,.zero,b0⟩
 |step _ hs ih =>rename_i st _;obtain⟨t,ht,b⟩:=ih;obtain⟨f,hf,b2⟩:=E.to _ _ b _ _ hs;exact⟨f,.step ht hf,b2⟩
def xU(E:zt n1 s1 n2 s2 B)(b0:B 0 0)(i1:dP n1 s1)(i2:dP n2 s2)(H1:cB n1 s1 h1)(H2:cB n2 s2 h2){s t:Int}(b:B s t):hm h1 s=hm h2 t:=by
 obtain⟨k1,m1,r1,H1⟩:=H1;obtain⟨k2,m2,r2,H2⟩:=H2;have ord:=vC E i1 i2 H1.yn H2.yn;have mt1:∀ s∈m1,∃ t∈m2,B s t:=λs hs=>by obtain⟨t,ht,b⟩:=E.Se b0 ((H1.met.mem s).mp hs);exact⟨t,(H2.met.mem t).mpr ht,b⟩
 have mt2:∀ t∈m2,∃ s∈m1,B s t:=λt ht=>by obtain⟨s,hs,b⟩:=E.symm.Se b0 ((H2.met.mem t).mp ht);exact⟨s,(H1.met.mem s).mpr hs,b⟩
 have inr:∀ x∈r1,rL B k1 x:=λx hx=>by obtain⟨s,hs,rfl⟩:=(H1.mem x).mp hx;obtain⟨t,_,b⟩:=mt1 s hs;exact⟨s,t,b,rfl⟩
 have e1:r2=r1.map (qa B k1 k2):=by
  refine yC H2.up ?_ λx=>?_
  ·rw[iO];refine xi.mpr λi j hi hj iN=>?_;exact(pG ord (inr _ (rX hi)) (inr _ (rX hj))).mp (xi.mp H1.up i j hi hj iN)
  ·rw[H2.mem,b5];constructor
   ·rintro⟨t,ht,rfl⟩;obtain⟨s,hs,b⟩:=mt2 t ht;exact⟨rk k1 s,(H1.mem _).mpr ⟨s,hs,rfl⟩,fW ord b⟩
   ·rintro⟨y,hy,rfl⟩;obtain⟨s,hs,rfl⟩:=(H1.mem y).mp hy;obtain⟨t,ht,b⟩:=mt1 s hs;exact⟨t,ht,fW ord b⟩
 have i0:rL B k1 (rk k1 0):=⟨0,0,b0,rfl⟩
 have e2:numsOf (rk k2 0) r2=(numsOf (rk k1 0) r1).map (qa B k1 k2):=by unfold numsOf;rw[gd,fW ord b0,e1,P4];congr 2;refine List.filter_congr λx hx=>?_;have:=qy ord (inr x hx) i0;rw[fW ord b0] at this;simp only[Function.comp,ne_eq,this]
 obtain⟨a1,a2⟩:=E.ins _ _ b;rw[H1.at a1.1 a1.2,H2.at a2.1 a2.2,e2,<- fW ord b];have inn:∀ y∈numsOf (rk k1 0) r1,rL B k1 y:=λy hy=>by
  rcases eB.mp hy with rfl|hy
  ·exact i0
  ·exact inr y (qf.mp hy).1
 have inj:∀ y∈numsOf (rk k1 0) r1,qa B k1 k2 y=qa B k1 k2 (rk k1 s)->y=rk k1 s:=λy hy z=>(qy ord (inn y hy) ⟨s,t,b,rfl⟩).mpr z;unfold dD;by_cases e:rk k1 s∈numsOf (rk k1 0) r1
 ·rw[if_pos e,if_pos (b5.mpr ⟨_,e,rfl⟩)];unfold x8;rw[idx_map inj]
 ·rw[if_neg e,if_neg λz=>by
   obtain⟨y,hy,ey⟩:=b5.mp z;exact e (inj y hy ey ▸ hy)]
def cB.of(H:cB n1 s1 h1)(i1:dP n1 s1)(p1:1<=n1){s i:Int}(hs:0<=s/\s<n1)(e:hm h1 s=some i):∃ p,Reach s1 p/\hm h1 p=some i/\∀ d u,(s,d,u)∈s1->∃ v,(p,d,v)∈s1/\hm h1 v=hm h1 u:=by
 obtain⟨k,m,r,hb⟩:=H;have e':=e;rw[hb.at hs.1 hs.2] at e';obtain⟨p,hp,ep⟩:=hb.nums.mp (bY e').1;have rp:=(hb.met.mem p).mp hp;have pl:=rp.lt i1 p1;have ei:hm h1 p=some i:=by rw[hb.at pl.1 pl.2,<- ep];exact e'
 refine⟨p,rp,ei,λd u hu=>?_⟩;exact cB.like ⟨k,m,r,hb⟩ i1 hu pl ei e
def p6(E:zt n1 s1 n2 s2 B)(b0:B 0 0)(i1:dP n1 s1)(p1:1<=n1)(H1:cB n1 s1 h1)(l2:h2.length=n2.toNat)(heq:∀ s t,B s t->hm h1 s=hm h2 t){c1 c2:Int}{o1 o2:List aS}(L1:j5 s1 h1 c1 o1)(nh:j5 s2 h2 c2 o2):(∀ x,some x∈h1->some x∈h2)/\∀ s∈o1,s∈o2:=by
 constructor
 ·intro x hx;obtain⟨s,hs,e⟩:=Cp H1.len hx;obtain⟨p,rp,ep,_⟩:=H1.of i1 p1 hs e;obtain⟨q,rq,b⟩:=E.Se b0 rp;exact Bh (E.ins _ _ b).2.1 ((heq p q b).symm.trans ep)
 ·intro s hs;obtain⟨t,ht,a1,a2,a3⟩:=(L1.mem s).mp hs;have ok:=i1 t ht;obtain⟨p,rp,ep,st⟩:=H1.of i1 p1 ⟨ok.1,ok.2.1⟩ a1;obtain⟨v,hv,ev⟩:=st t.2.1 t.2.2 ht;obtain⟨q,rq,b⟩:=E.Se b0 rp;obtain⟨f,hf,b2⟩:=E.to _ _ b _ _ hv;exact(nh.mem s).mpr ⟨_,hf,(heq p q b).symm.trans ep,a2,(heq v f b2).symm.trans (ev.trans a3)⟩
def yx(E:zt n1 s1 n2 s2 B)(b0:B 0 0)(i1:dP n1 s1)(i2:dP n2 s2)(p1:1<=n1)(p2:1<=n2)(H1:cB n1 s1 h1)(H2:cB n2 s2 h2){c1 c2:Int}{o1 o2:List aS}(L1:j5 s1 h1 c1 o1)(nh:j5 s2 h2 c2 o2):c1=c2/\o1=o2:=by have heq:∀ s t,B s t->hm h1 s=hm h2 t:=λs t b=>xU E b0 i1 i2 H1 H2 b;obtain⟨a1,a2⟩:=p6 E b0 i1 p1 H1 H2.len heq L1 nh;obtain⟨b1,b2⟩:=p6 E.symm b0 i2 p2 H2 H1.len (λs t b=>(heq t s b).symm) nh L1;refine⟨?_,je (λa _ b _ h1 h2=>by have:=lQ h1 h2;rw[jy] at this;cases this) L1.up nh.up λs=>⟨a2 s,b2 s⟩⟩;obtain⟨n,_,_,hn⟩:=H1.range i1 p1;rw[L1.tK hn,nh.tK λx=>⟨λz=>(hn x).mp (b1 x z),λz=>a1 x ((hn x).mpr z)⟩]
end
section
variable {n1 n2:Int}{s1 s2:List aS}{h1 h2:List (Option Int)}{ps out:List P2}
abbrev rS(n1:Int)(s1 s2:List aS):List aS:=s1++s2.map (Fs n1)
def Cj(i1:dP n1 s1)(i2:dP n2 s2){s:Int}(hs:s<n1){d:Str}{e:Int}(h:(s,d,e)∈rS n1 s1 s2):(s,d,e)∈s1:=by
 rcases eR.mp h with z|z
 ·exact z
 ·obtain⟨t,ht,et⟩:=b5.mp z;have:=(i2 t ht).1;have:t.1+n1=s:=congrArg (·.1) et;lia
def Bj(i1:dP n1 s1){t:Int}(ht:0<=t){d:Str}{o:Int}(h:(t+n1,d,o)∈rS n1 s1 s2):∃ f,(t,d,f)∈s2/\o=f+n1:=by
 rcases eR.mp h with z|z
 ·have:=(i1 _ z).2.1;have:t+n1<n1:=this;lia
 ·obtain⟨⟨a,b,c⟩,hu,e⟩:=b5.mp z;have e1:a+n1=t+n1:=congrArg (·.1) e;have e2:b=d:=congrArg (·.2.1) e;have e3:c+n1=o:=congrArg (·.2.2) e;have e1:a=t:=by lia
  subst e1 e2;exact⟨c,hu,e3.symm⟩
def F_{t:Int}{d:Str}{f:Int}(h:(t,d,f)∈s2):(t+n1,d,f+n1)∈rS n1 s1 s2:=fS _ (b5.mpr ⟨_,h,rfl⟩)
def G_(i1:dP n1 s1)(i2:dP n2 s2)(p1:1<=n1)(p2:1<=n2):dP (n1+n2) (rS n1 s1 s2):=λs hs=>by
 rcases eR.mp hs with z|z
 ·have ok:=i1 s z;exact⟨ok.1,by have:=ok.2.1;lia,ok.2.2.1,ok.2.2.2.1,by have:=ok.2.2.2.2;lia⟩
 ·obtain⟨t,ht,rfl⟩:=b5.mp z;have ok:=i2 t ht;have o1:=ok.1;have o2:=ok.2.1;have o3:=ok.2.2.2.1;have o4:=ok.2.2.2.2;exact⟨(by lia : 0<=t.1+n1),(by lia : t.1+n1<n1+n2),ok.2.2.1,(by lia : 0<=t.2.2+n1),(by lia : t.2.2+n1<n1+n2)⟩
def zR(i1:dP n1 s1)(i2:dP n2 s2)(P:FG (rS n1 s1 s2) ps out):zt n1 s1 n2 s2 λs t=>(0<=s/\s<n1)/\(0<=t/\t<n2)/\(s,t+n1)∈out:=by
 refine⟨λs t b=>⟨b.1,b.2.1⟩,λs t b d e he=>?_,λs t b d f hf=>?_⟩
 ·obtain⟨o,ho,hm⟩:=(P.both _ b.2.2).1 d e (kc _ he);obtain⟨f,hf,rfl⟩:=Bj i1 b.2.1.1 ho;exact⟨f,hf,(i1 _ he).2.2.2,(i2 _ hf).2.2.2,hm⟩
 ·obtain⟨e,he,hm⟩:=(P.both _ b.2.2).2 d _ (F_ hf);have he:=Cj i1 i2 b.1.2 he;exact⟨e,he,(i1 _ he).2.2.2,(i2 _ hf).2.2.2,hm⟩
open Classical in
def Bb(i1:dP n1 s1)(i2:dP n2 s2)(p1:1<=n1)(p2:1<=n2)(H1:cB n1 s1 h1)(H2:cB n2 s2 h2){c1 c2:Int}{o:List aS}(L1:j5 s1 h1 c1 o)(nh:j5 s2 h2 c2 o)(P:FG (rS n1 s1 s2) ps out)(all:∀ x,A8 (n1+n2) x->x∈ps):((0,n1):P2)∈out:=by
 have mem:∀ x:P2,x∈ps.filter (λx=>decide ((0<=x.1/\x.1<n1)/\∃ t i,(0<=t/\t<n2)/\x.2=t+n1/\hm h1 x.1=some i/\hm h2 t=some i))↔(0<=x.1/\x.1<n1)/\∃ t i,(0<=t/\t<n2)/\x.2=t+n1/\hm h1 x.1=some i/\hm h2 t=some i:=λx=>by rw[qf,decide_eq_true_iff];refine⟨λz=>z.2,λz=>⟨?_,z⟩⟩;obtain⟨a,t,i,b,c,_⟩:=z;exact all x ⟨by lia,by lia⟩
 refine P.max _ (λx hx=>(qf.mp hx).1) (λx hx=>?_) _ ((mem _).mpr ⟨⟨sf 0,by show(0:Int)<n1;lia⟩,0,0,by lia,by show n1=0+n1;lia,H1.zero p1,H2.zero p2⟩);obtain⟨a,t,i,b,c,e1,e2⟩:=(mem x).mp hx;obtain⟨x1,x2⟩:=x;have c:x2=t+n1:=c;subst c;refine⟨λd e he=>?_,λd o' ho=>?_⟩
 ·have he:=Cj i1 i2 a.2 he;obtain⟨j,ej⟩:=H1.step i1 p1 he e1;obtain⟨u,hu,f1,f2,f3⟩:=(nh.mem (i,d,j)).mp ((L1.mem (i,d,j)).mpr ⟨_,he,e1,rfl,ej⟩);obtain⟨v,hv,ev⟩:=H2.like i2 hu b e2 f1;have f2:d=u.2.1:=f2;rw[<- f2] at hv;exact⟨v+n1,F_ hv,(mem _).mpr ⟨(i1 _ he).2.2.2,v,j,(i2 _ hv).2.2.2,rfl,ej,ev.trans f3⟩⟩
 ·obtain⟨f,hf,rfl⟩:=Bj i1 b.1 ho;obtain⟨j,ej⟩:=H2.step i2 p2 hf e2;obtain⟨u,hu,f1,f2,f3⟩:=(L1.mem (i,d,j)).mp ((nh.mem (i,d,j)).mpr ⟨_,hf,e2,rfl,ej⟩);obtain⟨v,hv,ev⟩:=H1.like i1 hu a e1 f1;have f2:d=u.2.1:=f2;rw[<- f2] at hv;exact⟨v,kc _ hv,(mem _).mpr ⟨(i1 _ hv).2.2.2,f,j,(i2 _ hf).2.2.2,rfl,ev.trans f3,ej⟩⟩
def uE{n:Int}{l:List aS}{k:List Int}(bI:dP n l)(hk:Kinds n l k)(P:FG l ps out)(all:∀ x,A8 n x↔x∈ps){x:P2}(hx:A8 n x):rk k x.1=rk k x.2↔x∈out:=by
 have mem:∀ y:P2,y∈ps.filter (λy=>decide (rk k y.1=rk k y.2))↔A8 n y/\rk k y.1=rk k y.2:=λy=>by rw[qf,decide_eq_true_iff,all]
 constructor
 ·intro e;refine P.max _ (λy hy=>(qf.mp hy).1) (λy hy=>?_) x ((mem x).mpr ⟨hx,e⟩);obtain⟨iy,ey⟩:=(mem y).mp hy;refine⟨λd e he=>?_,λd o ho=>?_⟩
  ·obtain⟨u,hu,a1,a2,a3⟩:=hk.fz.Nz bI he iy.2 ey;obtain⟨u1,u2,u3⟩:=u;have a1:u1=y.2:=a1;have a2:u2=d:=a2;subst a1 a2;exact⟨u3,hu,(mem _).mpr ⟨⟨(bI _ he).2.2.2,(bI _ hu).2.2.2⟩,a3.symm⟩⟩
  ·obtain⟨u,hu,a1,a2,a3⟩:=hk.fz.Nz bI ho iy.1 ey.symm;obtain⟨u1,u2,u3⟩:=u;have a1:u1=y.1:=a1;have a2:u2=d:=a2;subst a1 a2;exact⟨u3,hu,(mem _).mpr ⟨⟨(bI _ hu).2.2.2,(bI _ ho).2.2.2⟩,a3⟩⟩
 ·intro hx;exact hk.same bI (λy hy=>(all y).mpr (P.sub y hy)) P.both x hx
end
def gH:WS :=
 (jv (Nj (wB (uh U0 OV (wC (.int 0)) (ag 1) (ay eT (ag 0) (wC (.int 0))))))
 vO
 bV)
def b_:i7:=λds Q=>∃ (many:Int) (l:List aS) (s:Int),ds=[mD many l,.int s]/\0<=s/\s<many/\Q .sh .non
def jq (ds Q) (h:b_ ds Q):ds.length=["m", "state"].length:=by obtain⟨_,_,_,rfl,_⟩:=h;rfl
def mR:∀ ds Q,b_ ds Q->gH { nx:=λ_=>Q .sh .non,rt:=Q } (aQ 2 ds):=by rintro ds Q ⟨many,l,s,rfl,h0,h1,h⟩;unfold gH mD;walk_at "q";refine R.T (decide_eq_true h0) ?_;walk_at "q";refine R.F (by simp[h1]) ?_;walk_at "q";exact h
def l_:WS :=
 (cf (eh 1 (cG (bF (ay eT (ag 0) (wC (.int 0)))) (gN 0) p4 (wd cc) 1 []))
 (cf (ku 0 (ny (dF (ay eT (ag 0) (wC (.int 1)))) (gT 3 (aN (gN 2) (aN (gN 3) (aN (gN 4) fJ))))
 (ku 4 (ku 3 (D4 (Rz (nS 1) (ag 2)) (kR (aj (ag 3) (aj (ag 4) cc))))))))
 (uF 1)))
def fZ:i7:=λds Q=>∃ (many:Int) (steps:List aS),ds=[mD many steps]/\(0<=many/\many<=1000)/\dP many steps/\steps.length<=1000/\Q (.ow true) (vi many steps)
def qG (ds Q) (h:fZ ds Q):ds.length=["m"].length:=by obtain⟨_,_,rfl,_⟩:=h;rfl
def uD:∀ ds Q,fZ ds Q->l_ { nx:=λ_=>Q .sh .non,rt:=Q } (aQ 5 ds):=by
 rintro ds Q ⟨many,steps,rfl,hm,bI,hl,h⟩;unfold l_ mD;walk_at "q";refine⟨by lia,by lia,?_⟩;refine aW (λ_=>true) (λ_=>.list []) (λρ=>∃ o,ρ=[o]) _ _ _ ⟨_,rfl⟩ ?_ ?_
 ·rintro x hx ρ ⟨o,rfl⟩ N1 N2 n1 n2;walk_at "q";exact⟨.inr rfl,n2 _ ⟨_,rfl⟩ rfl⟩
 rw[Cm];refine aX _ (λi ρ=>∃ o2 o3 o4,ρ=[some (.sh (.tup [.int many,.list (steps.map dv)])),some (.ow true (.list (sR many (steps.take i)))),o2,o3,o4]) ⟨none,none,none,by simp⟩ ?_ ?_
 ·rintro i x ρ hx ⟨o2,o3,o4,rfl⟩ N hN;obtain⟨p,d,r,rfl,hs,ht⟩:=vB hx;have ok:=bI _ hs;walk_at "q";refine⟨p.toNat,.list ((mB (steps.take i) p).map kH),qH ok.1 (by rw[lY];have:=ok.2.1;lia),zx _ ok.1 ok.2.1,rfl,?_⟩;walk_at "q";refine⟨?_,?_⟩
  ·have:=qN (steps.take i) p;have:(steps.take i).length<=steps.length:=by rw[nK];lia
   lia
  ·refine hN _ ⟨some (.sh (.int p)),some (.sh (.str d)),some (.sh (.int r)),?_⟩;rw[BR _ _ _ ok.1 ok.2.1,<- ht]
 ·rintro ρ ⟨o2,o3,o4,rfl⟩;walk_at "q";rw[Au];exact h
def Hc:WS :=
 (cf (eh 1 (RH (wC (.int 0)) (wC (.bl true))))
 (cf (eh 2 (wd (aj (wC (.int 0)) cc)))
 (cf (t_ (Rp (ag 2))
 (cf (RJ 3 (nS 2))
 (ku 0 (ny (dF (ay eT (ag 0) (wC (.int 1)))) (gN 4)
 (jv (OU (wB (ay i6 (ay eT (ag 4) (wC (.int 0))) (ag 3))) (wB (ay (IJ true) (ay eT (ag 4) (wC (.int 2))) (ag 1))))
 (cf (jP (nS 1) (ay eT (ag 4) (wC (.int 2))) (wC (.bl true)))
 (D4 (nS 2) (ay eT (ag 4) (wC (.int 2)))))
 bV)))))
 (kF (gE wN (ag 1))))))
def yu:i7:=λds Q=>∃ (many:Int) (steps:List aS),ds=[mD many steps]/\1<=many/\many<=20/\dP many steps/\∀ ms,Met steps ms->Q (.ow true) (.list (ms.map .int))
def Fv (ds Q) (h:yu ds Q):ds.length=["m"].length:=by obtain⟨_,_,rfl,_⟩:=h;rfl
structure zv(many:Int)(steps:List aS)(ks:List Int):Prop where
 nd:ks.Nodup
 z:0∈ks
 r:∀ x∈ks,Reach steps x/\0<=x/\x<many
def zv.len{many:Int}{steps:List aS}{ks:List Int}(c:zv many steps ks)(h:many<=20):ks.length<=20:=by have:=aR (m:=cZ 20) c.nd λx hx=>dH.mpr (by have:=(c.r x hx).2;lia);rwa[fu] at this
def zv.ins{many:Int}{steps:List aS}{ks:List Int}(c:zv many steps ks)(hm:dP many steps){s:aS}(hs:s∈steps)(h:s.1∈ks):zv many steps (insI ks s.2.2) :=
 ⟨uI c.nd,um.mpr (.inl c.z),λx hx=>by
  rcases um.mp hx with hx|rfl
  ·exact c.r x hx
  ·exact⟨.step (c.r _ h).1 hs,(hm s hs).2.2.2⟩⟩
def zv.one{many:Int}{steps:List aS}(h:1<=many):zv many steps [0]:=⟨by simp,by simp,λx hx=>by
 have:x=0:=by simpa using hx
 subst this;exact⟨.zero,by lia,by lia⟩⟩
def uG{steps:List aS}{ks:List Int}(z:0∈ks)(h:∀ s∈steps,s.1∈ks->s.2.2∈ks){x:Int}(r:Reach steps x):x∈ks:=by
 induction r with
 |zero=>exact z
 |step r hs ih=>exact h _ hs ih
def zK{steps:List aS}{ks:List Int}{many:Int}(c:zv many steps ks)(h:∀ s∈steps,s.1∈ks->s.2.2∈ks){Q:Md->D->Prop}(k:∀ ms,Met steps ms->Q (.ow true) (.list (ms.map .int))):wN .bo (.dK (x6 ks)) Q:=by
 refine⟨true,λp hp=>?_,λms pm pw=>?_⟩
 ·obtain⟨x,_,rfl⟩:=b5.mp hp;rfl
 ·rw[gK] at pm;obtain⟨l,rfl⟩:∃ l:List Int,ms=l.map λx=>(Sum.inl x:Key):=by
   have hm:∀ k∈ms,∃ x:Int,k=Sum.inl x:=λk hk=>by obtain⟨x,_,rfl⟩:=b5.mp (pm.mem_iff.mp hk);exact⟨x,rfl⟩
   clear pm pw
   induction ms with
   |nil=>exact⟨[],rfl⟩
   |cons k ms ih =>obtain⟨l,rfl⟩:=ih λj hj=>hm j (dr _ hj);obtain⟨x,rfl⟩:=hm k dk;exact⟨x :: l,rfl⟩
  have e:(l.map λx=>(Sum.inl x:Key)).map kX=l.map D.int:=by rw[fe];rfl
  rw[e];have mem:∀ x,x∈l↔x∈ks:=λx=>by rw[<- cQ (ks:=l),<- cQ (ks:=ks)];exact pm.mem_iff
  have nd:l.Nodup:=by
   have:(l.map λx=>(Sum.inl x:Key)).Nodup:=pm.nodup_iff.mpr (by
    have:=c.nd;unfold List.Nodup at *
    rw[iO];exact this.imp λh e=>h (Sum.inl.inj e))
   unfold List.Nodup at *
   rw[iO] at this;exact this.imp λh e=>h (by rw[e])
  refine k l ⟨?_,λx=>(mem x).trans ⟨λhx=>(c.r x hx).1,uG c.z h⟩⟩;rw[iO] at pw;refine(pw.and nd).imp λ{a b} ⟨h1,h2⟩=>?_;have h1:¬ b<a:=by simpa[mw] using h1
  lia
def JD:∀ ds Q,yu ds Q->Hc { nx:=λ_=>Q .sh .non,rt:=Q } (aQ 5 ds):=by
 rintro ds Q ⟨many,steps,rfl,h0,h1,bI,h⟩;unfold Hc mD;walk_at "q";refine⟨λρ=>∃ (ks wait:List Int) (o3 o4:Option Sl),zv many steps ks/\(∀ x∈wait,x∈ks)/\wait.length<=ks.length/\(∀ s∈steps,s.1∈ks->s.1∉wait->s.2.2∈ks) /\
   ρ=[some (.sh (.tup [.int many,.list (steps.map dv)])),some (.ow true (.dK (x6 ks))),some (.ow true (.list (wait.map .int))),o3,o4],
  λρ=>match ρ with
   |[_,some (.ow _ (.dK kvs)),some (.ow _ (.list w)),_,_]=>2*(20-kvs.length)+w.length
   |_=>0,⟨[0],[0],none,none,zv.one h0,by simp,by simp,λs _ e hn=>absurd (by simpa using e) (by simpa using hn),rfl⟩,?_⟩
 rintro ρ ⟨Sf,wait,o3,o4,hc,hw,DS,sv,rfl⟩;have fm:=hc.len h1;walk_at "q";by_cases iA:wait=[]
 ·subst iA;rw[if_neg (by simp)];exact zK hc (λs hs hm=>sv s hs hm (by simp)) h
 ·obtain⟨w0,st,rfl⟩:∃ w0 st,wait=w0++[st]:=⟨wait.dropLast,wait.getLast iA,(List.dropLast_concat_getLast iA).symm⟩
  rw[if_pos (by simp)];refine⟨.int st,by simp,rfl,?_⟩;walk_at "q";rw[show(List.map D.int (w0++[st])).dropLast=w0.map D.int by simp];simp only[ot,LJ,oF] at DS ⊢;refine aX _ (λi ρ=>∃ (ks wait:List Int) (o4:Option Sl),zv many steps ks/\st∈ks/\(∀ x∈wait,x∈ks)/\wait.length+1<=ks.length/\(∀ s∈steps,s.1∈ks->s.1∉wait->s.1≠st->s.2.2∈ks)/\(∀ s∈steps.take i,s.1=st->s.2.2∈ks) /\
   2*(20-ks.length)+wait.length<2*(20-Sf.length)+(w0.length+1) /\
   ρ=[some (.sh (.tup [.int many,.list (steps.map dv)])),some (.ow true (.dK (x6 ks))),some (.ow true (.list (wait.map .int))),some (.sh (.int st)),o4])
   ⟨Sf,w0,_,hc,hw st (by simp),λx hx=>hw x (by simp[hx]),by lia,λs hs h1 h2 h3=>sv s hs h1 (by simp[h2,h3]),by simp,by lia,rfl⟩ ?_ ?_
  ·rintro i x ρ hx ⟨ks,wait,o4,hc,mM,hw,DS,sv,NB,Sg,rfl⟩ N hN;obtain⟨p,d,r,rfl,hs,et⟩:=vB hx;have fm:=hc.len h1;walk_at "q";have no:p=st->r∈ks->N [some (.sh (.tup [.int many,.list (steps.map dv)])),some (.ow true (.dK (x6 ks))),some (.ow true (.list (wait.map .int))),some (.sh (.int st)),some (.sh (.tup [.int p,.str d,.int r]))]:=λe hr =>
    hN _ ⟨ks,wait,_,hc,mM,hw,DS,sv,λs hs e=>by
     rw[et] at hs;rcases eR.mp hs with hs|hs
     ·exact NB s hs e
     ·obtain rfl:s=(p,d,r):=by simpa using hs
      exact hr,Sg,rfl⟩
   refine R.D (λe=>?_) λe=>?_
   ·walk_at "q";by_cases hr:r∈ks
    ·refine R.F (by rw[get_set];simp[hr]) ?_;walk_at "q";exact no e hr
    ·refine R.T (by rw[get_set];simp[hr]) ?_;walk_at "q";rw[DK];have ei:insI ks r=ks++[r]:=by unfold insI;rw[if_neg hr]
     have AJ:zv many steps (insI ks r):=hc.ins bI hs (by rw[show((p,d,r):aS).1=st from e];exact mM);have bg':=AJ.len h1;rw[ei] at AJ bg' ⊢;rw[ot,LJ] at bg';rw[oF];walk_at "o";rw[show wait.map D.int++[D.int r]=(wait++[r]).map D.int by simp];refine hN _ ⟨ks++[r],wait++[r],_,AJ,by simp[mM],λx hx=>?_,by simp;lia,λs hs h1 h2 h3=>?_,λs hs e'=>?_,by simp;lia,rfl⟩
     ·rcases eR.mp hx with hx|hx
      ·simp[hw x hx]
      ·simp at hx;simp[hx]
     ·simp only[eR,nI,not_or] at h1 h2 ⊢;rcases h1 with h1|h1
      ·exact .inl (sv s hs h1 h2.1 h3)
      ·exact absurd h1 h2.2
     ·rw[et] at hs;rcases eR.mp hs with hs|hs
      ·simp[NB s hs e']
      ·obtain rfl:s=(p,d,r):=by simpa using hs
       simp
   ·walk_at "q";refine hN _ ⟨ks,wait,_,hc,mM,hw,DS,sv,λs hs e'=>?_,Sg,rfl⟩;rw[et] at hs;rcases eR.mp hs with hs|hs
    ·exact NB s hs e'
    ·obtain rfl:s=(p,d,r):=by simpa using hs
     exact absurd e' e
  ·rintro ρ ⟨ks,wait,o4,hc,mM,hw,DS,sv,NB,Sg,rfl⟩;rw[b6,Au] at NB;refine⟨⟨ks,wait,_,_,hc,hw,by lia,λs hs h1 h2=>?_,rfl⟩,by simpa[oF] using Sg⟩;by_cases e:s.1=st
   ·exact NB s hs e
   ·exact sv s hs h1 h2 e
def t6:WS :=
 (kF (kR (aj (ay eT (ag 1) (ag 2)) (aj (gE fj (cG (cY (ay eT (ag 0) (ag 2))) (gT 2 (aN (gN 0) (aN (gN 1) fJ))) p4 (kR (aj (ag 0) (aj (ay eT (ag 2) (ag 1)) cc))) 2 [1])) cc))))
def j7:i7:=λds Q=>∃ (many:Int) (steps:List aS) (dy:List Int) (s:Int),ds=[vi many steps,.list (dy.map .int),.int s]/\(0<=s/\s<many)/\dy.length=many.toNat/\dP many steps/\steps.length<=1000/\∀ k,Kx steps dy s k->Q (.ow true) (hX k)
def vd (ds Q) (h:j7 ds Q):ds.length=["exits", "ranks", "state"].length:=by obtain⟨_,_,_,_,rfl,_⟩:=h;rfl
def Ba:∀ ds Q,j7 ds Q->t6 { nx:=λ_=>Q .sh .non,rt:=Q } (aQ 3 ds):=by
 rintro ds Q ⟨many,steps,dy,s,rfl,hs,hr,bI,hl,h⟩;unfold t6 vi;walk_at "q";refine⟨_,pP hr hs.1 hs.2,?_⟩;walk_at "q";refine⟨_,yp steps hs.1 hs.2,?_⟩;walk_at "q"
 refine aW (λ_=>true) (λd=>match d with
  |.tup [.str x,.int e]=>.tup [.str x,.int (rk dy e)]
  |d=>d) (λρ=>∃ o0 o1,ρ=[o0,o1,some (.sh (.list (dy.map .int)))]) _ _ _ ⟨_,_,rfl⟩ ?_ ?_
 ·rintro x hx ρ ⟨o0,o1,rfl⟩ N1 N2 n1 n2;obtain⟨p,hp,rfl⟩:=b5.mp hx;obtain⟨t,ht,e1,e2⟩:=rH hp;obtain⟨x,e⟩:=p;have ok:=bI t ht;obtain⟨t1,t2,t3⟩:=t;cases e2;unfold kH;walk_at "q";refine⟨_,pP hr ok.2.2.2.1 ok.2.2.2.2,?_⟩;walk_at "q";exact⟨.inl rfl,n2 _ ⟨_,_,rfl⟩ rfl⟩
 have e1:((mB steps s).map kH |>.filter λ_=>true).map (λd=>match d with
   |.tup [.str x,.int e]=>.tup [.str x,.int (rk dy e)]
   |d=>d)=((mB steps s).map λp=>(p.1,rk dy p.2)).map kH:=by
  rw[EC.mpr λ_ _=>rfl,fe,fe];rfl
 rw[e1];refine zg (ps:=(mB steps s).map λp=>(p.1,rk dy p.2)) (m:=.ow true) (Q:=λ_ d=>Q (.ow true) (.tup [.int (rk dy s),d])) (by rw[b6];exact iP (qN steps s) hl) λl up mem=>?_;refine h (rk dy s,l) ⟨rfl,up,λp=>(mem p).trans ⟨λhp=>?_,λhp=>?_⟩⟩
 ·obtain⟨q,hq,rfl⟩:=b5.mp hp;obtain⟨t,ht,e1,rfl⟩:=rH hq;exact⟨t,ht,e1,rfl⟩
 ·obtain⟨t,ht,rfl,rfl⟩:=hp;exact b5.mpr ⟨t.2,xM ht,rfl⟩
def fU:WS :=
 (cf (jv (wB (ay OV (ag 1) (gE AZ (ag 0))))
 (kF (ay eT (ag 0) (ag 1)))
 bV)
 (kF (wC (.int 0))))
def aO:i7:=λds Q=>∃ (ns:List Int) (k:Int),ds=[.list (ns.map .int),.int k]/\0<=k/\Q .sh (.int (ns.getD k.toNat 0))
def iR (ds Q) (h:aO ds Q):ds.length=["_law_script", "_law_k"].length:=by obtain⟨_,_,rfl,_⟩:=h;rfl
def kj:∀ ds Q,aO ds Q->fU { nx:=λ_=>Q .sh .non,rt:=Q } (aQ 2 ds):=by
 rintro ds Q ⟨ns,k,rfl,hk,h⟩;unfold fU;walk_at "q";refine R.D (λhl=>?_) λhl=>?_
 ·walk_at "q";have hn:k.toNat<ns.length:=by lia
  refine⟨.int ns[k.toNat],?_,?_⟩
  ·have:=MA (xs:=ns.map D.int) (j:=k.toNat) (v:=.int ns[k.toNat]) (by simp[hn]);rwa[BI hk] at this
  ·show Q .sh _;simpa[List.getD,hn] using h
 ·walk_at "q";have:ns.getD k.toNat 0=0:=by
   have:ns.length<=k.toNat:=by lia
   simp[List.getD,tj this]
  rwa[this] at h
def iK:WS :=
 (cf (eh 3 (ay eT (wd (aj (wC (.int 1000003)) (aj (wC (.int 998244353)) (aj (wC (.int 104729)) (aj (wC (.int 2147483647)) (aj (wC (.int 15485863)) (aj (wC (.int 32452843)) cc))))))) (ag 1)))
 (kF (ay uS (ay wc (ay uS (ay nv (ag 0) (ay eT (wd (aj (wC (.int 48271)) (aj (wC (.int 69621)) (aj (wC (.int 16807)) (aj (wC (.int 40692)) (aj (wC (.int 39373)) (aj (wC (.int 22571)) cc))))))) (ag 1))) (ag 3)) (wC (.int 11))) (ag 2))))
def aD:i7:=λds Q=>∃ c w m:Int,ds=[.int c,.int w,.int m]/\(0<=w/\w<6)/\0<m/\∀ r,0<=r->r<m->Q .sh (.int r)
def lq (ds Q) (h:aD ds Q):ds.length=["_law_cell", "_law_way", "_law_many"].length:=by obtain⟨_,_,_,rfl,_⟩:=h;rfl
def qw:∀ ds Q,aD ds Q->iK { nx:=λ_=>Q .sh .non,rt:=Q } (aQ 4 ds):=by rintro ds Q ⟨c,w,m,rfl,hw,hm,h⟩;unfold iK;walk_at "q";obtain⟨p,hp,ep⟩:=gf (l:=[1000003,998244353,104729,2147483647,15485863,32452843]) hw.1 hw.2;obtain⟨q,hq,eq⟩:=gf (l:=[48271,69621,16807,40692,39373,22571]) hw.1 hw.2;have i5:=(by decide:∀ p∈([1000003,998244353,104729,2147483647,15485863,32452843]:List Int),0<p) p hp;have hq':=(by decide:∀ p∈([48271,69621,16807,40692,39373,22571]:List Int),0<p/\p<100000) q hq;refine⟨.int p,ep,?_⟩;walk_at "q";refine⟨.int q,eq,?_⟩;walk_at "q";have:=Ci (c*q % p / 11) hm;exact⟨bx (by lia) (by lia),i5,hm,h _ this.1 this.2⟩
def jj:WS :=
 (cf (eh 2 (cG (bF (ag 0)) (gN 0) p4 (wd cc) 1 []))
 (cf (ku 1 (ny (dF (ag 1)) (gT 3 (aN (gN 3) (aN (gN 4) (aN (gN 5) fJ))))
 (ku 5 (ku 4 (D4 (Rz (nS 2) (ag 3)) (kR (aj (ag 4) (aj (ag 5) cc))))))))
 (uF 2)))
def eU:i7:=λds Q=>∃ (many:Int) (steps:List aS),ds=[.int many,.list (steps.map dv)]/\(0<=many/\many<=1000)/\dP many steps/\steps.length<=10000/\Q (.ow true) (vi many steps)
def oR (ds Q) (h:eU ds Q):ds.length=["_law_many", "_law_steps"].length:=by obtain⟨_,_,rfl,_⟩:=h;rfl
def rB:∀ ds Q,eU ds Q->jj { nx:=λ_=>Q .sh .non,rt:=Q } (aQ 6 ds):=by
 rintro ds Q ⟨many,steps,rfl,hm,bI,hl,h⟩;unfold jj;walk_at "q";refine⟨by lia,by lia,?_⟩;refine aW (λ_=>true) (λ_=>.list []) (λρ=>∃ o,ρ=[o]) _ _ _ ⟨_,rfl⟩ ?_ ?_
 ·rintro x hx ρ ⟨o,rfl⟩ N1 N2 n1 n2;walk_at "q";exact⟨.inr rfl,n2 _ ⟨_,rfl⟩ rfl⟩
 rw[Cm];refine aX _ (λi ρ=>∃ o2 o3 o4,ρ=[some (.sh (.int many)),some (.sh (.list (steps.map dv))),some (.ow true (.list (sR many (steps.take i)))),o2,o3,o4]) ⟨none,none,none,by simp⟩ ?_ ?_
 ·rintro i x ρ hx ⟨o2,o3,o4,rfl⟩ N hN;obtain⟨p,d,r,rfl,hs,ht⟩:=vB hx;have ok:=bI _ hs;walk_at "q";refine⟨p.toNat,.list ((mB (steps.take i) p).map kH),qH ok.1 (by rw[lY];have:=ok.2.1;lia),zx _ ok.1 ok.2.1,rfl,?_⟩;walk_at "q";refine⟨?_,?_⟩
  ·have:=qN (steps.take i) p;have:(steps.take i).length<=steps.length:=by rw[nK];lia
   lia
  ·refine hN _ ⟨some (.sh (.int p)),some (.sh (.str d)),some (.sh (.int r)),?_⟩;rw[BR _ _ _ ok.1 ok.2.1,<- ht]
 ·rintro ρ ⟨o2,o3,o4,rfl⟩;walk_at "q";rw[Au];exact h
def d9:WS :=
 (cf (ku 0 (ny (dF (ay eT (ag 0) (ag 1))) (gT 2 (aN (gN 4) (aN (gN 5) fJ)))
 (jv (Nj (wB (gE R5 (cG (cY (ay eT (ag 0) (ag 2))) (gT 2 (aN (gN 0) (aN (gN 1) fJ))) (wB (ay i6 (ag 0) (ag 2))) (ay (IJ false) (kR (aj (ag 4) (aj (ag 1) cc))) (ag 3)) 2 [4,3,5]))))
 (kF (wC (.bl false)))
 bV)))
 (cf (ku 0 (ny (dF (ay eT (ag 0) (ag 2))) (gT 2 (aN (gN 4) (aN (gN 6) fJ)))
 (jv (Nj (wB (gE R5 (cG (cY (ay eT (ag 0) (ag 1))) (gT 2 (aN (gN 0) (aN (gN 1) fJ))) (wB (ay i6 (ag 0) (ag 2))) (ay (IJ false) (kR (aj (ag 1) (aj (ag 3) cc))) (ag 4)) 2 [4,6,3]))))
 (kF (wC (.bl false)))
 bV)))
 (kF (wC (.bl true)))))
def b8:i7:=λds Q=>∃ (many:Int) (l:List aS) (ks:List P2) (p:P2),ds=[vi many l,.int p.1,.int p.2,.dT (kz ks)]/\A8 many p/\∀ b,(b=true↔rz l ks p)->Q .sh (.bl b)
def gM (ds Q) (h:b8 ds Q):ds.length=["_law_rows_here", "_law_one", "_law_other", "_law_pairs"].length:=by obtain⟨_,_,_,_,rfl,_⟩:=h;rfl
def VJ(d:Str)(x:D):Bool:=match x with
 |.tup [.str n,_]=>decide (n=d)
 |_=>false
def VL(f:Int->Bool)(x:D):D:=match x with
 |.tup [_,.int o]=>.bl (f o)
 |_=>.non
def vH{l:List aS}{s:Int}{d:Str}{f:Int->Bool}:∃ bs:List Bool,(((mB l s).map kH).filter (VJ d)).map (VL f)=bs.map D.bl/\(bs.any (λb=>b)=true↔∃ o,(s,d,o)∈l/\f o=true):=by
 refine⟨((mB l s).filter λt=>decide (t.1=d)).map λt=>f t.2,?_,?_⟩
 ·rw[P4,fe,fe];rfl
 ·rw[List.any_map,EF];constructor
  ·rintro⟨⟨n,o⟩,ho,z⟩;obtain⟨ho,e⟩:=qf.mp ho;have e:n=d:=of_decide_eq_true e;exact⟨o,il.mp (e ▸ ho),z⟩
  ·rintro⟨o,ho,z⟩;exact⟨(d,o),qf.mpr ⟨il.mpr ho,decide_eq_true rfl⟩,z⟩
def iT:∀ ds Q,b8 ds Q->d9 { nx:=λ_=>Q .sh .non,rt:=Q } (aQ 7 ds):=by
 rintro ds Q ⟨many,l,ks,⟨p,q⟩,rfl,hp,h⟩;unfold d9;walk_at "q";refine⟨_,yp l hp.1.1 hp.1.2,?_⟩;walk_at "q";refine aX _ (λj ρ=>∃ (o4 o5:Option Sl),(∀ t∈(mB l p).take j,∃ o,(q,t.1,o)∈l/\(t.2,o)∈ks)/\ρ=[some (.sh (vi many l)),some (.sh (.int p)),some (.sh (.int q)),some (.sh (.dT (kz ks))),o4,o5,none]) ⟨_,_,(λp hp=>by simp at hp),rfl⟩ ?_ ?_
 ·rintro j x ρ hx ⟨o4,o5,hj,rfl⟩ N hN;obtain⟨d,e,rfl,mv,RQ⟩:=GJ hx;walk_at "q";refine⟨_,yp l hp.2.1 hp.2.2,?_⟩;walk_at "q";refine aW (VJ d) (VL λo=>decide ((e,o)∈ks)) (λρ=>∃ o0 o1,ρ=[o0,o1,some (.sh (.str d)),some (.sh (.dT (kz ks))),some (.sh (.int e))]) _ _ _ ⟨_,_,rfl⟩ ?_ ?_
  ·rintro x hx ρ ⟨o0,o1,rfl⟩ N1 N2 n1 n2;obtain⟨⟨n,o⟩,hc,rfl⟩:=b5.mp hx;rw[show kH (n,o)=.tup [.str n,.int o] from rfl] at *
   walk_at "q";by_cases en:n=d
   ·rw[if_pos (by simp[en])];have e1:=sS ks (e,o);unfold nX at e1;rw[e1];exact⟨.inl rfl,n2 _ ⟨_,_,rfl⟩ (decide_eq_true en)⟩
   ·rw[if_neg (by simp[en])];exact n1 _ ⟨_,_,rfl⟩ (decide_eq_false en)
  obtain⟨bs,e1,e2⟩:=vH (l:=l) (s:=q) (d:=d) (f:=λo=>decide ((e,o)∈ks));refine⟨bs,e1,?_⟩;refine R.B (λhb=>?_) λhb=>?_
  ·walk_at "q";refine h false ⟨(λz=>by cases z),λz=>?_⟩;obtain⟨o,ho,m⟩:=z.1 d e (il.mp mv);rw[e2.mpr ⟨o,ho,decide_eq_true m⟩] at hb;cases hb
  ·walk_at "q";have hb:bs.any (λb=>b)=true:=by simpa using hb
   obtain⟨o,ho,m⟩:=e2.mp hb;exact hN _ ⟨_,_,sI RQ hj ⟨o,ho,of_decide_eq_true m⟩,rfl⟩
 rintro ρ ⟨o4,o5,hj,rfl⟩;rw[b6,Au] at hj;have hf:VD l ks p q:=λd e he=>hj (d,e) (il.mpr he);walk_at "q";refine⟨_,yp l hp.2.1 hp.2.2,?_⟩;walk_at "q";refine aX _ (λj ρ=>∃ (o4 o6:Option Sl),(∀ t∈(mB l q).take j,∃ e,(p,t.1,e)∈l/\(e,t.2)∈ks)/\ρ=[some (.sh (vi many l)),some (.sh (.int p)),some (.sh (.int q)),some (.sh (.dT (kz ks))),o4,o5,o6]) ⟨_,_,(λp hp=>by simp at hp),rfl⟩ ?_ ?_
 ·rintro j x ρ hx ⟨o4,o6,hj,rfl⟩ N hN;obtain⟨d,o,rfl,mv,RQ⟩:=GJ hx;walk_at "q";refine⟨_,yp l hp.1.1 hp.1.2,?_⟩;walk_at "q";refine aW (VJ d) (VL λe=>decide ((e,o)∈ks)) (λρ=>∃ o0 o1,ρ=[o0,o1,some (.sh (.str d)),some (.sh (.int o)),some (.sh (.dT (kz ks)))]) _ _ _ ⟨_,_,rfl⟩ ?_ ?_
  ·rintro x hx ρ ⟨o0,o1,rfl⟩ N1 N2 n1 n2;obtain⟨⟨n,e⟩,hc,rfl⟩:=b5.mp hx;rw[show kH (n,e)=.tup [.str n,.int e] from rfl] at *
   walk_at "q";by_cases en:n=d
   ·rw[if_pos (by simp[en])];have e1:=sS ks (e,o);unfold nX at e1;rw[e1];exact⟨.inl rfl,n2 _ ⟨_,_,rfl⟩ (decide_eq_true en)⟩
   ·rw[if_neg (by simp[en])];exact n1 _ ⟨_,_,rfl⟩ (decide_eq_false en)
  obtain⟨bs,e1,e2⟩:=vH (l:=l) (s:=p) (d:=d) (f:=λe=>decide ((e,o)∈ks));refine⟨bs,e1,?_⟩;refine R.B (λhb=>?_) λhb=>?_
  ·walk_at "q";refine h false ⟨(λz=>by cases z),λz=>?_⟩;obtain⟨e,he,m⟩:=z.2 d o (il.mp mv);rw[e2.mpr ⟨e,he,decide_eq_true m⟩] at hb;cases hb
  ·walk_at "q";have hb:bs.any (λb=>b)=true:=by simpa using hb
   obtain⟨e,he,m⟩:=e2.mp hb;exact hN _ ⟨_,_,sI RQ hj ⟨e,he,of_decide_eq_true m⟩,rfl⟩
 ·rintro ρ ⟨o4,o6,hj,rfl⟩;rw[b6,Au] at hj;walk_at "q";exact h true ⟨λ_=>⟨hf,λd o ho=>hj (d,o) (il.mpr ho)⟩,λ_=>rfl⟩
def fO:WS :=
 (cf (eh 2 (cG (bF (gE AZ (ag 1))) (gN 0) p4 (aH j7 (aj (ag 1) (aj (ag 2) (aj (ag 0) cc)))) 1 [0,1]))
 (cf (eh 3 (wd cc))
 (cf (ku 2 (ny (dF (gE v8 (ag 2))) (gN 4)
 (jv (wB (ay (R0 true) (ag 4) (ag 3)))
 (ku 4 (D4 (nS 3) (ag 4)))
 bV)))
 (kF (cG (cY (ag 2)) (gN 0) p4 (tH (ag 1) (ag 0)) 1 [3])))))
def bU:i7:=λds Q=>∃ (many:Int) (steps:List aS) (dy:List Int),ds=[vi many steps,.list (dy.map .int)]/\(0<=many/\many<=1000)/\dy.length=many.toNat/\dP many steps/\steps.length<=1000/\∀ r,RB many steps dy r->Q (.ow true) (.list (r.map .int))
def iU (ds Q) (h:bU ds Q):ds.length=["exits", "ranks"].length:=by obtain⟨_,_,_,rfl,_⟩:=h;rfl
def kZ:∀ ds Q,bU ds Q->fO { nx:=λ_=>Q .sh .non,rt:=Q } (aQ 5 ds):=by
 rintro ds Q ⟨many,steps,dy,rfl,hm,hr,bI,hl,h⟩;unfold fO vi;walk_at "q";refine⟨by lia,by lia,?_⟩;refine cj (λn out=>∃ l:List Ky,out=l.map hX/\l.length=n/\∀ (i:Nat) k,l[i]? = some k->Kx steps dy i k) (λρ=>∃ o,ρ=[o,some (.sh (.list (sR many steps))),some (.sh (.list (dy.map .int)))]) _ 0 [] _ _ ⟨_,rfl⟩ ⟨[],rfl,rfl,λi k hk=>by simp at hk⟩ ?_ ?_
 ·rintro j y hy ρ ⟨o,rfl⟩ out ⟨l,rfl,VM,hk⟩ N1 N2 ua;have hj:=(bu hy).1;obtain⟨_,rfl⟩:=bu hy;walk_at "q";refine⟨many,steps,dy,0+(j:Nat),rfl,by lia,hr,bI,hl,λk vT=>?_⟩;walk_at "q";refine⟨.inr rfl,ua _ _ ⟨_,rfl⟩ ⟨l++[k],by simp,by simp[VM],λi k' kD=>?_⟩⟩;rcases GP i l.length with hi|hi
  ·rw[FX hi] at kD;exact hk i k' kD
  ·rw[CM hi] at kD;have xB:i-l.length=0:=by
    rcases Nat.eq_zero_or_pos (i-l.length) with z|z
    ·exact z
    ·rw[tj (by simp;lia)] at kD;cases kD
   rw[xB] at kD;cases kD;have:((i:Nat):Int)=0+(j:Nat):=by lia
   rw[this];exact vT
 rintro out ⟨l,e,VM,hk⟩;simp only[GL] at e;subst e;rw[aZ,vx] at VM;have KL:∀ k∈l,ve k:=λk sT=>by obtain⟨i,hi⟩:=GA.mp sT;exact(hk i k hi).ok bI
 refine⟨λd hd=>?_,λms pm pw=>?_⟩
 ·obtain⟨k,sT,rfl⟩:=b5.mp hd;exact⟨zP (KL k sT) 9,(KL k sT).wx⟩
 obtain⟨l2,rfl,y6⟩:=Pu (f:=hX) (P:=λk=>k∈l) (ks:=ms) λd hd=>by obtain⟨k,sT,e⟩:=b5.mp (pm.mem_iff.mp hd);exact⟨k,e.symm,sT⟩
 have back:∀ k∈l,k∈l2:=λk sT=>by obtain⟨j,hj,e⟩:=b5.mp (pm.mem_iff.mpr (b5.mpr ⟨k,sT,rfl⟩));rw[<- ye e];exact hj
 have kx':l2.length=l.length:=by have:=pm.length_eq;simpa using this
 rw[iO] at pw;have pw:l2.Pairwise λa b=>sQ b a=false:=pw;refine aX _ (λi ρ=>∃ (diff:List Ky) (fl:Bool) (o4:Option Sl),diff.Pairwise (λa b=>sQ a b=true)/\(∀ k,k∈diff↔k∈l2.take i)/\diff.length<=i/\ρ=[some (.sh (.list (sR many steps))),some (.sh (.list (dy.map .int))),some (.sh (.list (l.map hX))),some (.ow fl (.list (diff.map hX))),o4]) ⟨[],true,none,.nil,by simp,by simp,rfl⟩ ?_ ?_
 ·rintro i x ρ hx ⟨diff,fl,o4,up,mem,dl,rfl⟩ N hN;obtain⟨hi,VN⟩:=iE.mp hx;have ki:i<l2.length:=by simpa using hi
  have VP:x=hX l2[i]:=by rw[<- VN];simp
  subst VP;have sT:l2[i]∈l:=y6 _ (rX ki);have tk:l2.take (i+1)=l2.take i++[l2[i]]:=by rw[Dx,kB ki];rfl
  have Sh:∀ k∈diff,ve k:=λk Py=>KL k (y6 k (PN ((mem k).mp Py)));generalize ek:l2[i]=k at *
  walk_at "q";refine⟨zP (KL k sT) 9,BJ Sh 8,?_⟩;rw[Gw];by_cases hd:k∈diff
  ·refine R.F (by simp[hd]) ?_;walk_at "q";refine hN _ ⟨diff,fl,_,up,λk'=>?_,by lia,rfl⟩;rw[mem,tk,eR,nI];exact⟨.inl,λz=>z.elim id λe=>by rw[e];exact(mem k).mp hd⟩
  ·refine R.T (by simp[hd]) ?_;walk_at "q";refine⟨by lia,?_⟩;refine hN _ ⟨diff++[k],fl && (hX k).flat,some (.sh (hX k)),?_,λk'=>?_,by simp;lia,by simp⟩
   ·refine NM.mpr ⟨up,by simp,λa ha b hb=>?_⟩;rw[nI.mp hb]
    cases h3:sQ a k with
    |true=>rfl
    |false =>
     have h4:sQ k a=false:=by
      obtain⟨j,hj⟩:=GA.mp ((mem a).mp ha);obtain⟨MQ,Ny⟩:=iE.mp hj;have Vi:j<i:=by rw[nK] at MQ;lia
      have:=xi.mp pw j i (by lia) ki Vi;rw[ek] at this;rw[List.getElem_take] at Ny;rwa[Ny] at this
     exact absurd (Ez (Sh a ha) (KL k sT) h3 h4) λe=>hd (by rw[<- e];exact ha)
   ·rw[eR,nI,mem,tk,eR,nI]
 ·rintro ρ ⟨diff,fl,o4,up,mem,dl,rfl⟩;rw[b6,Au] at mem;have md:∀ k,k∈diff↔k∈l:=λk=>(mem k).trans ⟨y6 k,back k⟩;have Sh:∀ k∈diff,ve k:=λk Py=>KL k ((md k).mp Py);walk_at "q";refine cj (λn out=>∃ r:List Int,out=r.map .int/\r.length=n/\∀ (i:Nat) x,r[i]? = some x->0<=x/\diff[x.toNat]? = l[i]?) (λρ=>∃ o,ρ=[o,some (.sh (.list (diff.map hX)))]) _ 0 [] _ _ ⟨_,rfl⟩ ⟨[],rfl,rfl,λi k hk=>by simp at hk⟩ ?_ ?_
  ·rintro j y hy ρ ⟨o,rfl⟩ out ⟨r,rfl,VQ,IE⟩ N1 N2 ua;obtain⟨hj,Ug⟩:=iE.mp hy;have oj:j<l.length:=by simpa using hj
   have hye:y=hX l[j]:=by rw[<- Ug];simp
   subst hye;have sT:l[j]∈l:=rX oj;have hlj:l[j]? = some l[j]:=kB oj;generalize l[j]=k at *
   have Py:=(md k).mpr sT;have y9:=List.idxOf_lt_length_of_mem Py;walk_at "q";refine⟨BJ Sh 8,zP (KL k sT) 9,diff.idxOf k,⟨hX k,?_,by rw[uN];exact decide_eq_true rfl⟩,λi z hi hz=>?_,.inl rfl,ua _ _ ⟨_,rfl⟩ ⟨r++[((diff.idxOf k:Nat):Int)],by simp,by simp[VQ],λi x hx=>?_⟩⟩
   ·rw[kM,kB y9,PX y9];rfl
   ·rw[kM,kB (by lia)] at hz;cases hz;rw[uN];refine decide_eq_false λe=>?_;have:=List.not_of_lt_findIdx (p:=(· == k)) (xs:=diff) hi;rw[show diff[i]=k from e] at this;simp at this
   ·rcases GP i r.length with hi|hi
    ·rw[FX hi] at hx;exact IE i x hx
    ·rw[CM hi] at hx;have xB:i-r.length=0:=by
      rcases Nat.eq_zero_or_pos (i-r.length) with z|z
      ·exact z
      ·rw[tj (by simp;lia)] at hx;cases hx
     rw[xB] at hx;cases hx;have:i=j:=by lia
     subst this;refine⟨by lia,?_⟩;rw[hlj,NW,kB y9,PX y9]
  rintro out ⟨r,e,VQ,IE⟩;simp only[GL] at e;subst e;rw[b6,vx] at VQ;refine h r ⟨λs=>l.getD s.toNat (0,[]),diff,by lia,λs a b=>?_,up,λk=>?_,λs a b=>?_⟩
  ·have hs:s.toNat<l.length:=by lia
   have:=hk s.toNat l[s.toNat] (kB hs);rw[BI a] at this;simpa[List.getD,hs] using this
  ·rw[md];constructor
   ·intro sT;obtain⟨i,hi,rfl⟩:=PQ.mp sT;exact⟨(i:Nat),by lia,by simp[List.getD,hi]⟩
   ·rintro⟨s,hs,rfl⟩;have hs:s.toNat<l.length:=by lia
    simp[List.getD,hs]
  ·have hs:s.toNat<r.length:=by lia
   have gL:s.toNat<l.length:=by lia
   have:=IE s.toNat r[s.toNat] (kB hs);simpa[rk,List.getD,hs,gL] using this
def d8:WS :=
 (cf (ny (bF (wC (.int 6))) (gN 7)
 (cf (eh 8 (jF (wC (.str "")) (cG (bF (ag 2)) (gN 0) p4 (ay eT (ag 4) (ay uS (ay eL (ay eT (ag 2) (ag 0)) (ay nv (ag 3) (gE Vu (ay i6 (ag 0) (ag 1))))) (wC (.int 26)))) 1 [3,4,7,1])))
 (cf (jv (wB (ay i6 (ag 5) (wC (.int 1))))
 (eh 8 (jF (wC (.str "")) (cG (bF (ay eL (ag 7) (wC (.int 1)))) (gN 0) p4 (ay eT (ag 2) (ay eT (ag 1) (ag 0))) 1 [4,1])))
 bV)
 (cf (jv (wB (ay i6 (ag 5) (wC (.int 2))))
 (cf (eh 9 (cG (bF (aH aD (aj (ay eL (ag 0) (ag 7)) (aj (wC (.int 4)) (aj (wC (.int 6)) cc))))) (gN 0) p4 (ay eT (ag 2) (ay eT (ag 1) (ag 0))) 1 [4,1]))
 (eh 8 (ay eL (ay eT (ag 1) (ay uS (ay eL (ay eT (ag 4) (wC (.int 0))) (ay nv (wC (.int 11)) (ag 7))) (wC (.int 26)))) (jF (wC (.str "")) (ag 9)))))
 bV)
 (cf (jv (wB (ay i6 (ag 5) (wC (.int 3))))
 (eh 8 (jF (wC (.str "")) (cG (bF (wC (.int 6))) (gN 0) p4 (ay eT (ag 3) (ay uS (ay eL (ay eT (ag 1) (wC (.int 0))) (ay uS (ay eL (ag 0) (ag 2)) (wC (.int 6)))) (wC (.int 26)))) 1 [4,7,1])))
 bV)
 (ku 8 (D4 (nS 6) (ag 8))))))))
 (cf (eh 10 (aH aD (aj (ag 0) (aj (wC (.int 4)) (aj (wC (.int 2)) cc)))))
 (kF (U6 (ay eL (wd (aj (wC (.str "*")) cc)) (ag 6)) (xu (ag 10)) (xu (ay eL (ay eL (ag 10) (wC (.int 1))) (aH aD (aj (ag 0) (aj (wC (.int 5)) (aj (wC (.int 7)) cc))))))))))
def ji:WS :=
 (cf (eh 1 (wC (.str "abcdefghijklmnopqrstuvwxyz")))
 (cf (eh 2 (ay eL (wC (.int 1)) (aH aD (aj (ag 0) (aj (wC (.int 0)) (aj (wC (.int 6)) cc))))))
 (cf (eh 3 (aH aD (aj (ag 0) (aj (wC (.int 1)) (aj (ag 2) cc)))))
 (cf (eh 4 (cG (bF (wC (.int 6))) (gN 0) p4 (aH aD (aj (ay eL (ay nv (ag 1) (ay eL (ag 0) (wC (.int 1)))) (ag 0)) (aj (wC (.int 2)) (aj (wC (.int 26)) cc)))) 1 [0]))
 (cf (eh 5 (aH aD (aj (ag 0) (aj (wC (.int 3)) (aj (wC (.int 4)) cc)))))
 (cf (eh 6 (wd cc))
 d8))))))
def cu:i7:=λds Q=>∃ c:Int,ds=[.int c]/\∀ names:List Str,1<=names.length->names.length<=7->(∀ n∈names,Kk n)->Q (.ow true) (.list (names.map .str))
def mO (ds Q) (h:cu ds Q):ds.length=["_law_cell"].length:=by obtain⟨_,rfl,_⟩:=h;rfl
def nT(Q:Md->D->Prop)(c size at' kind:Int)(base:List Int)(hs:1<=size/\size<=6)(hk:0<=kind/\kind<4)(hb:base.length=6)(B3:∀ b∈base,0<=b/\b<26)(h:∀ names:List Str,1<=names.length->names.length<=7->(∀ n∈names,Kk n)->Q (.ow true) (.list (names.map .str))) :
  d8 { nx:=λ_=>Q .sh .non,rt:=Q } [some (.sh (.int c)),some (.sh (.str abc)),some (.sh (.int size)),some (.sh (.int at')),some (.ow true (.list (base.map .int))),some (.sh (.int kind)),some (.ow true (.list [])),none,none,none,none]:=by
 unfold d8;walk_at "q";refine aX _ (λi ρ=>∃ (words:List Str) (o7 o8 o9:Option Sl),words.length=i/\(∀ n∈words,Open n)/\ρ=[some (.sh (.int c)),some (.sh (.str abc)),some (.sh (.int size)),some (.sh (.int at')),some (.ow true (.list (base.map .int))),some (.sh (.int kind)),some (.ow true (.list (words.map .str))),o7,o8,o9,none]) ⟨[],_,_,_,rfl,(λn hn=>nomatch hn),rfl⟩ ?_ ?_
 ·rintro i x ρ hx ⟨words,o7,o8,o9,hl,ho,rfl⟩ N hN;obtain⟨hi,rfl⟩:=bu hx;have hi:i<6:=hi;have push:∀ (w:Str) (o9':Option Sl),Open w->N [some (.sh (.int c)),some (.sh (.str abc)),some (.sh (.int size)),some (.sh (.int at')),some (.ow true (.list (base.map .int))),some (.sh (.int kind)),some (.ow true (.list (words.map .str++[.str w]))),some (.sh (.int (0+(i:Nat)))),some (.sh (.str w)),o9',none]:=λw o9' hw=>by
   rw[z8];refine hN _ ⟨words++[w],_,_,_,by simp[hl],λn hn=>?_,rfl⟩;rcases eR.mp hn with hn|hn
   ·exact ho n hn
   ·rw[nI.mp hn];exact hw
  walk_at "q";refine⟨by lia,by lia,?_⟩;refine cj (λn out=>u0 n out) (λρ=>∃ o,ρ=[o,some (.sh (.int at')),some (.sh (.list (base.map .int))),some (.sh (.int (0+(i:Nat)))),some (.sh (.str abc))]) _ 0 [] _ _ ⟨_,rfl⟩ u0.nil ?_ ?_
  ·rintro j y hy ρ ⟨o,rfl⟩ out ho N1 N2 ua;obtain⟨hj,rfl⟩:=bu hy;walk_at "q";obtain⟨b,_,eb⟩:=gf (l:=base) (i:=0+(j:Nat)) (by lia) (by lia);refine⟨.int b,eb,?_⟩;walk_at "q";refine⟨gQ (by lia) (by lia),?_⟩;obtain⟨ch,ec,lc⟩:=qP (b+(0+(i:Nat))*(if decide (0+(j:Int)=at')=true then 1 else 0));refine⟨ch,ec,.inl rfl,ua _ _ ⟨_,rfl⟩ ?_⟩;rw[vx] at ho ⊢;exact ho.push lc
  intro out kS;rw[aZ] at kS;simp only[vx,GL] at kS;obtain⟨zs,ez,zl,wl0,we0⟩:=kS.join (by lia);refine⟨zs,ez,zl,?_⟩;generalize Str.join _ zs=w0 at *
  have hw0:Open w0:=⟨by lia,by lia,we0⟩
  clear ez zl;rcases (show kind=0\/kind=1\/kind=2\/kind=3 by lia) with rfl|rfl|rfl|rfl
  ·refine R.F (by decide) ?_;walk_at "q";refine R.F (by decide) ?_;walk_at "q";refine R.F (by decide) ?_;walk_at "q";exact⟨by lia,push w0 _ hw0⟩
  ·refine R.T (by decide) ?_;walk_at "q";refine⟨by lia,by lia,?_⟩;refine cj (λn out=>u0 n out) (λρ=>∃ o,ρ=[o,some (.sh (.list (base.map .int))),some (.sh (.str abc))]) _ 0 [] _ _ ⟨_,rfl⟩ u0.nil ?_ ?_
   ·rintro j y hy ρ ⟨o,rfl⟩ out ho N1 N2 ua;obtain⟨hj,rfl⟩:=bu hy;walk_at "q";obtain⟨b,mb,eb⟩:=gf (l:=base) (i:=0+(j:Nat)) (by lia) (by lia);refine⟨.int b,eb,?_⟩;walk_at "q";obtain⟨ch,ec,lc⟩:=xH (B3 b mb).1 (B3 b mb).2;refine⟨ch,ec,.inl rfl,ua _ _ ⟨_,rfl⟩ ?_⟩;rw[vx] at ho ⊢;exact ho.push lc
   intro out kS;rw[aZ] at kS;simp only[vx,GL] at kS;obtain⟨zs,ez,zl,Si,Pz⟩:=kS.join (by lia);refine⟨zs,ez,zl,?_⟩;generalize Str.join _ zs=w1 at *
   refine R.F (by decide) ?_;walk_at "q";refine R.F (by decide) ?_;walk_at "q";exact⟨by lia,push w1 _ ⟨by lia,by lia,Pz⟩⟩
  ·refine R.F (by decide) ?_;walk_at "q";refine⟨_,4,6,rfl,by decide,by decide,λr r0 r1=>?_⟩;walk_at "q";refine⟨by lia,by lia,?_⟩;refine cj (λn out=>u0 n out) (λρ=>∃ o,ρ=[o,some (.sh (.list (base.map .int))),some (.sh (.str abc))]) _ 0 [] _ _ ⟨_,rfl⟩ u0.nil ?_ ?_
   ·rintro j y hy ρ ⟨o,rfl⟩ out ho N1 N2 ua;obtain⟨hj,rfl⟩:=bu hy;walk_at "q";obtain⟨b,mb,eb⟩:=gf (l:=base) (i:=0+(j:Nat)) (by lia) (by lia);refine⟨.int b,eb,?_⟩;walk_at "q";obtain⟨ch,ec,lc⟩:=xH (B3 b mb).1 (B3 b mb).2;refine⟨ch,ec,.inl rfl,ua _ _ ⟨_,rfl⟩ ?_⟩;rw[vx] at ho ⊢;exact ho.push lc
   intro out kS;rw[aZ] at kS;simp only[vx,GL] at kS;obtain⟨b0,mb0,eb0⟩:=gf (l:=base) (i:=0) (by lia) (by lia);refine⟨.int b0,eb0,?_⟩;walk_at "q";obtain⟨ch,ec,lc⟩:=qP (b0+11*(0+(i:Nat)));refine⟨gQ (by lia) (by lia),ch,ec,?_⟩;obtain⟨zs,ez,zl,Si,Pz⟩:=kS.join (by lia);refine⟨zs,ez,zl,?_⟩;generalize Str.join _ zs=w1 at *
   refine⟨by rw[ie];lia,?_⟩;refine R.F (by decide) ?_;walk_at "q";exact⟨by lia,push _ _ ⟨by rw[cP,ie];lia,by rw[cP,ie];lia,Ac (Ah lc) Pz⟩⟩
  ·refine R.F (by decide) ?_;walk_at "q";refine R.F (by decide) ?_;walk_at "q";refine cj (λn out=>u0 n out) (λρ=>∃ o,ρ=[o,some (.sh (.list (base.map .int))),some (.sh (.int (0+(i:Nat)))),some (.sh (.str abc))]) _ 0 [] _ _ ⟨_,rfl⟩ u0.nil ?_ ?_
   ·rintro j y hy ρ ⟨o,rfl⟩ out ho N1 N2 ua;obtain⟨hj,rfl⟩:=bu hy;walk_at "q";obtain⟨b,mb,eb⟩:=gf (l:=base) (i:=0) (by lia) (by lia);refine⟨.int b,eb,?_⟩;walk_at "q";obtain⟨ch,ec,lc⟩:=qP (b+(0+(j:Int)+(0+(i:Nat))) % 6);refine⟨ch,ec,.inl rfl,ua _ _ ⟨_,rfl⟩ ?_⟩;rw[vx] at ho ⊢;exact ho.push lc
   intro out kS;rw[aZ] at kS;simp only[vx,GL] at kS;obtain⟨zs,ez,zl,Si,Pz⟩:=kS.join (by decide);refine⟨zs,ez,zl,?_⟩;generalize Str.join _ zs=w1 at *
   exact⟨by lia,push w1 _ ⟨by rw[Si];decide,by rw[Si];decide,Pz⟩⟩
 ·rintro ρ ⟨words,o7,o8,o9,hl,ho,rfl⟩;rw[aZ] at hl;walk_at "q";refine⟨c,4,2,rfl,by decide,by decide,λf f0 f1=>?_⟩;walk_at "q";refine⟨by lia,.inl ⟨jJ words,?_⟩⟩;refine⟨c,5,7,rfl,by decide,by decide,λr r0 r1=>?_⟩;walk_at "q";refine .inl ⟨jJ words,?_⟩;have e:(D.str "*" :: words.map D.str)=(("*" : Str) :: words).map D.str:=rfl;rw[e,zU];have hc:=HH (l:=("*" : Str) :: words) (a:=f) (b:=f+1+r) f0 (by lia) (by simp;lia);refine h _ hc.1 (iP hc.2.1 (by simp;lia)) λn hn=>?_;rcases eB.mp (hc.2.2 n hn) with rfl|hn
  ·exact .inl rfl
  ·exact .inr (ho n hn)
def rM:∀ ds Q,cu ds Q->ji { nx:=λ_=>Q .sh .non,rt:=Q } (aQ 11 ds):=by
 rintro ds Q ⟨c,rfl,h⟩;unfold ji;walk_at "q";refine⟨c,0,6,rfl,by decide,by decide,λs s0 s1=>?_⟩;walk_at "q";refine⟨c,1,1+s,rfl,by decide,by lia,λat' a0 a1=>?_⟩;walk_at "q";refine cj (λn out=>∃ bs:List Int,out=bs.map .int/\bs.length=n/\∀ b∈bs,0<=b/\b<26) (λρ=>∃ o,ρ=[o,some (.sh (.int c))]) _ 0 [] _ _ ⟨_,rfl⟩ ⟨[],rfl,rfl,λb hb=>nomatch hb⟩ ?_ ?_
 ·rintro j y hy ρ ⟨o,rfl⟩ out ⟨bs,rfl,hl,B3⟩ N1 N2 ua;have hj:=(bu hy).1;obtain⟨hj,rfl⟩:=bu hy;walk_at "q";refine⟨bx (by lia) (by lia),_,2,26,rfl,by decide,by decide,λr r0 r1=>?_⟩;walk_at "q";refine⟨.inl rfl,ua _ _ ⟨_,rfl⟩ ⟨bs++[r],by simp,by simp[hl],λb hb=>?_⟩⟩;rcases eR.mp hb with hb|hb
  ·exact B3 b hb
  ·rw[nI.mp hb];exact⟨r0,r1⟩
 rintro out ⟨base,e,hb,B3⟩;simp only[GL] at e;subst e;rw[aZ] at hb;refine⟨c,3,4,rfl,by decide,by decide,λkind k0 k1=>?_⟩;walk_at "q";exact nT Q c _ at' kind base (by lia) ⟨k0,k1⟩ (by simpa using hb) B3 h
def jw:WS :=
 (cf (eh 4 (aH aO (aj (ag 0) (aj (ay eL (wC (.int 3)) (ay uS (ay eL (ay nv (wC (.int 7)) (ag 1)) (ay nv (wC (.int 11)) (ag 2))) (wC (.int 60)))) cc))))
 (kF (aH aD (aj (ay eL (ay eL (ag 4) (ay nv (aH aO (aj (ag 0) (aj (wC (.int 2)) cc))) (ay eL (ag 1) (wC (.int 2))))) (ay nv (ay eL (ag 1) (wC (.int 1))) (ay eL (ay eL (ag 1) (wC (.int 5))) (ag 2)))) (aj (ag 2) (aj (ag 3) cc))))))
def aA:i7:=λds Q=>∃ (ns:List Int) (k w m:Int),ds=[.list (ns.map .int),.int k,.int w,.int m]/\(0<=k/\k<=1000)/\(0<=w/\w<6)/\0<m/\∀ r,0<=r->r<m->Q .sh (.int r)
def nq (ds Q) (h:aA ds Q):ds.length=["_law_script", "_law_k", "_law_way", "_law_many"].length:=by obtain⟨_,_,_,_,rfl,_⟩:=h;rfl
def rT:∀ ds Q,aA ds Q->jw { nx:=λ_=>Q .sh .non,rt:=Q } (aQ 5 ds):=by rintro ds Q ⟨ns,k,w,m,rfl,hk,hw,hm,h⟩;unfold jw;walk_at "q";have a:=Ci (7*k+11*w) (show(0:Int)<60 by decide);refine⟨bx (by lia) (by lia),bx (by lia) (by lia),ns,_,rfl,by lia,?_⟩;generalize ns.getD _ 0=c1;walk_at "q";refine⟨ns,2,rfl,by decide,?_⟩;generalize ns.getD _ 0=c2;walk_at "q";refine⟨bx (by lia) (by lia),bx (by lia) (by lia),_,w,m,rfl,hw,hm,λr r0 r1=>?_⟩;walk_at "q";exact h r r0 r1
def gm:WS :=
 (cf (eh 2 jV)
 (cf (ku 1 (ny (dF (ag 1)) (gN 3)
 (jP (nS 2) (ag 3) (wC (.bl true)))))
 (t_ (wB (wC (.bl true)))
 (cf (eh 4 (cG (cY (gE rn (ag 2))) (gN 0) (Nj (wB (aH b8 (aj (ag 2) (aj (ay eT (ag 0) (wC (.int 0))) (aj (ay eT (ag 0) (wC (.int 1))) (aj (ag 1) cc))))))) (ag 0) 1 [2,0]))
 (cf (jv (wB (ay i6 (ag 4) (wd cc)))
 (kF (gE fX (ag 2)))
 bV)
 (ku 4 (ny (dF (ag 4)) (gN 3)
 (ku 3 (Eh (nS 2) (ag 3))))))))))
def dw:i7:=λds Q=>∃ (many:Int) (l:List aS) (ps:List P2),ds=[vi many l,.list (ps.map jS)]/\ps.length<=10000/\(∀ p∈ps,A8 many p)/\∀ out,FG l ps out->Q (.ow true) (.list (out.map jS))
def j4 (ds Q) (h:dw ds Q):ds.length=["_law_rows_here", "_law_some"].length:=by obtain⟨_,_,_,rfl,_⟩:=h;rfl
def nM:∀ ds Q,dw ds Q->gm { nx:=λ_=>Q .sh .non,rt:=Q } (aQ 5 ds):=by
 rintro ds Q ⟨many,l,ps,rfl,hps,hr,h⟩;unfold gm;walk_at "q";refine aX _ (λi ρ=>∃ (ks:List P2) (o3:Option Sl),KG (ps.take i) ks/\ρ=[some (.sh (vi many l)),some (.sh (.list (ps.map jS))),some (.ow true (.dT (kz ks))),o3,none]) ⟨[],_,KG.nil,rfl⟩ ?_ ?_
 ·rintro i x ρ hx ⟨ks,o3,hd,rfl⟩ N hN;obtain⟨p,q,rfl,hm,tk⟩:=Ib hx;have fm:=hd.len;rw[nK] at fm;walk_at "q";refine⟨by rw[oE];lia,?_⟩;have e:=Ag ks (p,q);unfold nX at e;rw[e];exact hN _ ⟨_,_,by rw[tk];exact hd.put (p,q),rfl⟩
 rintro ρ ⟨Sf,o3,hd,rfl⟩;rw[b6,Au] at hd;walk_at "q";refine⟨λρ=>∃ (ks:List P2) (o3 o4:Option Sl),(ks.Nodup/\(∀ p∈ks,p∈ps)/\(∀ T:List P2,(∀ p∈T,p∈ps)->(∀ p∈T,rz l T p)->∀ p∈T,p∈ks)/\ks.length<=ps.length)/\ρ=[some (.sh (vi many l)),some (.sh (.list (ps.map jS))),some (.ow true (.dT (kz ks))),o3,o4],
  λρ=>match ρ with
   |[_,_,some (.ow _ (.dT l)),_,_]=>l.length
   |_=>0,⟨Sf,_,_,⟨hd.nd,λp hp=>(hd.mem p).mp hp,λT a _ p hp=>(hd.mem _).mpr (a p hp),hd.len⟩,rfl⟩,?_⟩
 rintro ρ ⟨ks,o3,o4,⟨hnd,Pb,VR,hlen⟩,rfl⟩;walk_at "q";rw[show List.map (λkv:List Key × D=>D.tup (kv.1.map kX)) (kz ks)=ks.map jS from Gr ks];refine aW (onP λp=>!pq l ks p) (λx=>x) (λρ=>∃ o,ρ=[o,some (.sh (.dT (kz ks))),some (.sh (vi many l))]) _ _ _ ⟨_,rfl⟩ ?_ ?_
 ·rintro x hx ρ ⟨o,rfl⟩ N1 N2 n1 n2;obtain⟨c,hc,rfl⟩:=b5.mp hx;rw[show jS c=.tup [.int c.1,.int c.2] from rfl] at *
  walk_at "q";refine⟨many,l,ks,c,rfl,hr c (Pb c hc),λb hb=>?_⟩;walk_at "q";have eb:b=pq l ks c:=by rw[pj,qb];exact hb
  subst eb
  cases e:pq l ks c with
  |true=>exact n1 _ ⟨_,rfl⟩ (by show(!pq l ks c)=false;rw[e];rfl)
  |false=>exact⟨.inl rfl,n2 _ ⟨_,rfl⟩ (by show(!pq l ks c)=true;rw[e];rfl)⟩
 rw[zJ];have hg:∀ x,x∈ks.filter (λp=>!pq l ks p)↔x∈ks/\¬ rz l ks x:=λx=>by rw[qf,<- qb (l:=l) (ks:=ks) (p:=x)];simp
 have gnd:(ks.filter λp=>!pq l ks p).Nodup:=hnd.sublist List.filter_sublist;generalize ks.filter (λp=>!pq l ks p)=gone at hg gnd ⊢;refine⟨IV _ 10,rfl,?_⟩;rw[wW];by_cases ge:gone=[]
 ·refine R.T (decide_eq_true ge) ?_;walk_at "q";have hb:∀ p∈ks,rz l ks p:=λp hp=>Classical.byContradiction λz=>by have:=(hg p).mpr ⟨hp,z⟩;rw[ge] at this;cases this
  refine Ex λout pm=>?_;rw[Aj];exact h out ⟨λp hp=>Pb p (pm.mem_iff.mp hp),λp hp=>(rz.congr λx=>pm.mem_iff).mpr (hb p (pm.mem_iff.mp hp)),λT a b p hp=>pm.mem_iff.mpr (VR T a b p hp),by rw[pm.length_eq];exact hlen⟩
 ·refine R.F (decide_eq_false ge) ?_;walk_at "q";refine aX _ (λi ρ=>∃ (dE:List P2) (o3:Option Sl),dE.Nodup/\(∀ x,x∈dE↔x∈ks/\x∉gone.take i)/\dE.length+i=ks.length/\ρ=[some (.sh (vi many l)),some (.sh (.list (ps.map jS))),some (.ow true (.dT (kz dE))),o3,some (.sh (.list (gone.map jS)))]) ⟨ks,_,hnd,(λx=>by simp),rfl,rfl⟩ ?_ ?_
  ·rintro i x ρ hx ⟨dE,o3,zo,hm,D5,rfl⟩ N hN;obtain⟨p,q,rfl,hgm,tk⟩:=Ib hx;walk_at "q";have hn:(p,q)∉gone.take i:=λz=>by have:(gone.take (i+1)).Nodup:=gnd.sublist (List.take_sublist _ _);rw[tk,gV] at this;exact this.2.2 _ z _ (nI.mpr rfl) rfl
   refine⟨by rw[eG];exact nR.mpr ((hm _).mpr ⟨((hg _).mp hgm).1,hn⟩),λj d hj=>?_⟩;have oj:dE[j]? = some (p,q):=by unfold kz at hj;rw[kM] at hj;obtain⟨y,hy,e⟩:=GY.mp hj;rw[hy,xR (q:=(p,q)) (Prod.mk.inj e).1]
   rw[lB];have Sb:=(iE.mp oj).1;refine hN _ ⟨_,_,zo.sublist (List.eraseIdx_sublist _ _),λx=>?_,by rw[List.length_eraseIdx_of_lt Sb];lia,rfl⟩;rw[Ca dE j _ zo oj,hm,tk,eR,nI,not_or,and_assoc]
  ·rintro ρ ⟨dE,o3,zo,hm,D5,rfl⟩;rw[b6] at hm D5;rw[Au] at hm;have gl:0<gone.length:=List.length_pos_iff.mpr ge;refine⟨⟨dE,_,_,⟨zo,λp hp=>Pb p ((hm p).mp hp).1,λT a b p hp=>(hm _).mpr ⟨VR T a b p hp,λy=>((hg _).mp y).2 ((b p hp).mono (VR T a b))⟩,by lia⟩,rfl⟩,?_⟩;show(kz dE).length<(kz ks).length;rw[oE,oE];lia
def jm:WS :=
 (cf (eh 1 (aH fZ (aj (ag 0) cc)))
 (cf (eh 2 (wd (aj (ay Ay (wd (aj (wC (.int 0)) cc)) (ay eT (ag 0) (wC (.int 0)))) cc)))
 (cf (eh 3 (aH bU (aj (ag 1) (aj (ay eT (ag 2) (wC (.int 0))) cc))))
 (cf (t_ (wB (ay OW (ag 3) (ay eT (ag 2) (gE OX (wC (.int 1))))))
 (wU 2 3 (aH bU (aj (ag 1) (aj (ag 3) cc)))))
 (uF 2)))))
def rdD(rs:List (List Int)):D:=.list (rs.map CC)
def eX:i7:=λds Q=>∃ (many:Int) (steps:List aS),ds=[mD many steps]/\(1<=many/\many<=100)/\dP many steps/\steps.length<=1000/\∀ rest,Chain many steps (zeros many) rest->rest.length<=10000->Q (.ow true) (rdD (zeros many :: rest))
def oG (ds Q) (h:eX ds Q):ds.length=["m"].length:=by obtain⟨_,_,rfl,_⟩:=h;rfl
def vG(cur:List Int)(pre:List (List Int)):gv ((cur :: pre).map CC) (-1)=some (CC (fK cur pre)):=by
 have e:(cur :: pre).map CC=((cur :: pre).dropLast.map CC)++[CC (fK cur pre)]:=by
  conv=>lhs;rw[<- List.dropLast_concat_getLast (show cur :: pre≠[] by simp)]
  rw[AA];rfl
 rw[e];exact dK' _ _
def uq(cur lS:List Int)(pre:List (List Int)):fK cur (pre++[lS])=lS:=by unfold fK;rw[List.getLast_cons (by simp),List.getLast_concat]
def qL:∀ ds Q,eX ds Q->jm { nx:=λ_=>Q .sh .non,rt:=Q } (aQ 4 ds):=by
 rintro ds Q ⟨many,steps,rfl,hm,bI,hl,h⟩;unfold jm;have hmm:many*many<=10000:=by have:=Int.mul_le_mul hm.2 hm.2 (by lia) (by lia);lia
 have e0:aQ 4 [mD many steps]=[some (.sh (mD many steps)),none,none,none]:=rfl;rw[e0];walk_at "q";refine⟨many,steps,rfl,by lia,bI,hl,?_⟩;unfold vi;walk_at "q";unfold mD;walk_at "q";refine⟨by lia,?_⟩;rw[xg];refine⟨many,steps,zeros many,rfl,by lia,by simp[zeros],bI,hl,λr hr=>?_⟩;walk_at "q";refine⟨λρ=>∃ (pre:List (List Int)) (cur lS:List Int),uV many cur/\RB many steps cur lS/\(∀ rest,Chain many steps cur rest->Chain many steps (zeros many) (pre++rest))/\fK (zeros many) pre=cur/\(pre.length:Int)<=cur.sum/\cur.sum<=many*many /\
   ρ=[some (.sh (.tup [.int many,.list (steps.map dv)])),some (.ow true (.list (sR many steps))),some (.ow true (.list ((zeros many :: pre).map CC))),some (.ow true (.list (lS.map .int)))],
  λρ=>match ρ with
   |[_,_,some (.ow _ (.list rs)),_]=>20000-rs.length
   |_=>0,⟨[],zeros many,r,rD hm.1,hr,λrest hc=>hc,rfl,?_,?_,rfl⟩,?_⟩
 ·simp[zeros]
 ·have:0<=many*many:=NX (by lia) (by lia);simp[zeros];lia
 rintro ρ ⟨pre,cur,lS,hd,hb,hc,hla,hp,hs,rfl⟩;walk_at "q";refine⟨_,vG _ _,?_⟩;rw[hla];unfold CC;walk_at "q";refine⟨x_ _ _,x_ _ _,?_⟩;rw[JF];by_cases e:lS=cur
 ·rw[if_neg (by simp[e])];rw[e] at hb;have:=hc [] hb;rw[vv] at this;exact h pre this (by lia)
 ·rw[if_pos (by simp[e])];have it':=hb.sum bI hd (by lia) e;refine⟨j8 _,by lia,?_⟩;refine⟨many,steps,lS,rfl,by lia,(hb.zA bI).1,bI,hl,λr2 UQ=>?_⟩;walk_at "q";refine⟨⟨pre++[lS],lS,r2,hb.zA bI,UQ,λrest yv=>?_,uq _ _ _,by simp;lia,it'.2,by simp[CC]⟩,?_⟩
  ·have:=hc (lS :: rest) ⟨hb,e,yv⟩;simpa using this
  ·simp;lia
def bK:WS :=
 (cf (eh 7 (aH cu (aj (aH aO (aj (ag 0) (aj (wC (.int 1)) cc))) cc)))
 (cf (eh 8 jV)
 (cf (ny (bF (ay yR (ag 6) (ay wc (ag 1) (ay nv (ag 3) (ag 3))))) (gN 9)
 (cf (eh 10 (aH aA (aj (ag 0) (aj (ag 9) (aj (wC (.int 0)) (aj (ag 4) cc))))))
 (cf (eh 11 (aH aA (aj (ag 0) (aj (ag 9) (aj (wC (.int 1)) (aj (ag 4) cc))))))
 (cf (eh 12 (ay eT (ag 7) (aH aA (aj (ag 0) (aj (ag 9) (aj (wC (.int 2)) (aj (gE AZ (ag 7)) cc)))))))
 (cf (eh 13 (aH aA (aj (ag 0) (aj (ag 9) (aj (wC (.int 3)) (aj (wC (.int 3)) cc))))))
 (ny (bF (ag 3)) (gN 14)
 (ny (bF (ag 3)) (gN 15)
 (jv (Ni (wB (ay i6 (ag 13) (wC (.int 2)))) (wB (ay i6 (ag 15) (ay uS (ay eL (ag 13) (ag 14)) (ag 3)))))
 (jP (nS 8) (kR (aj (ay eL (ag 10) (ay nv (ag 4) (ag 14))) (aj (ag 12) (aj (ay eL (ag 11) (ay nv (ag 4) (ag 15))) cc)))) (wC (.bl true)))
 bV))))))))
 (cf (ny (bF (ay Nn (ay nv (ag 3) (ag 4)) (wC (.int 1)))) (gN 9)
 (jv (OU (wB (ay i6 (aH aD (aj (ag 2) (aj (wC (.int 4)) (aj (wC (.int 3)) cc)))) (wC (.int 1)))) (wB (ay Fh (ay uS (ay eL (ag 9) (wC (.int 1))) (ag 4)) (wC (.int 0)))))
 (jP (nS 8) (kR (aj (ag 9) (aj (ay eT (ag 7) (wC (.int 0))) (aj (ay eL (ag 9) (wC (.int 1))) cc)))) (wC (.bl true)))
 bV))
 (kF (kR (aj (ay nv (ag 3) (ag 4)) (aj (gE fX (ag 8)) cc))))))))
def bM:WS :=
 (cf (eh 6 (aH aD (aj (ag 2) (aj (wC (.int 3)) (aj (ay nv (wC (.int 3)) (ag 4)) cc)))))
 (cf (jv (wB (ay i6 (ag 5) (wC (.int 2))))
 (ku 1 (eh 6 (ag 1)))
 bV)
 bK))
def fM:WS :=
 (cf (eh 2 (aH aO (aj (ag 0) (aj (wC (.int 0)) cc))))
 (cf (eh 3 (ay eL (wC (.int 1)) (ay wc (aH aD (aj (ag 2) (aj (wC (.int 0)) (aj (wC (.int 3)) cc)))) (wC (.int 2)))))
 (cf (eh 4 (ay eL (wC (.int 1)) (aH aD (aj (ag 2) (aj (wC (.int 1)) (aj (ay wc (wC (.int 10)) (ag 3)) cc))))))
 (cf (eh 5 (aH aD (aj (ag 2) (aj (wC (.int 2)) (aj (wC (.int 8)) cc)))))
 (cf (jv (wB (ay i6 (ag 5) (wC (.int 1))))
 (eh 4 (ay wc (wC (.int 10)) (ag 3)))
 bV)
 (cf (jv (wB (ay i6 (ag 5) (wC (.int 3))))
 (eh 4 (ay eL (wC (.int 1)) (aH aD (aj (ag 2) (aj (wC (.int 5)) (aj (ay wc (wC (.int 10)) (ag 3)) cc))))))
 bV)
 bM))))))
def cV:i7:=λds Q=>∃ (ns:List Int) (most:Int),ds=[.list (ns.map .int),.int most]/\(1<=most/\most<=100)/\∀ (many:Int) (steps:List aS),1<=many->many<=10->dP many steps->steps.length<=120->steps.Pairwise (λa b=>cS a b=true)->Q (.ow true) (mD many steps)
def jb (ds Q) (h:cV ds Q):ds.length=["_law_script", "_law_most"].length:=by obtain⟨_,_,rfl,_⟩:=h;rfl
def d_{Q:Md->D->Prop}{ns:List Int}{most shape copies states size many:Int}(hc:copies=1\/copies=2)(hs:1<=states)(qB:copies*states<=10)(hmm:0<=many/\many<=1000)(KP:1<=most/\most<=100)(h:∀ (many:Int) (steps:List aS),1<=many->many<=10->dP many steps->steps.length<=120->steps.Pairwise (λa b=>cS a b=true)->Q (.ow true) (mD many steps)) :
  bK { nx:=λ_=>Q .sh .non,rt:=Q } [some (.sh (.list (ns.map .int))),some (.sh (.int most)),some (.sh (.int shape)),some (.sh (.int copies)),some (.sh (.int states)),some (.sh (.int size)),some (.sh (.int many)),none,none,none,none,none,none,none,none,none]:=by
 have mM:states<=20:=by rcases hc with rfl|rfl<;>lia
 unfold bK;walk_at "q";refine⟨ns,1,rfl,by decide,?_⟩;generalize ns.getD _ 0=c1;walk_at "q";refine⟨c1,rfl,λnames n1 n7 hd=>?_⟩;walk_at "q";have L8:copies*copies=1\/copies*copies=4:=by rcases hc with rfl|rfl<;>decide
 refine⟨bx (by lia) (by lia),by lia,?_⟩;have iu':∃ r:Int,(if most / (copies*copies)<many then most / (copies*copies) else many)=r/\0<=r/\r<=100/\r<=most / (copies*copies):=by
  refine⟨_,rfl,?_⟩;have:0<=most / (copies*copies)/\most / (copies*copies)<=100:=by rcases L8 with e|e<;>rw[e]<;>lia
  split<;>lia
 obtain⟨r,er,r0,r1,r2⟩:=iu';obtain⟨cp,b,Sj⟩:∃ cp b:Nat,(copies=1/\cp=1/\b=1)\/(copies=2/\cp=2/\b=4):=by
  rcases hc with h|h
  ·exact⟨1,1,.inl ⟨h,rfl,rfl⟩⟩
  ·exact⟨2,4,.inr ⟨h,rfl,rfl⟩⟩
 have ecb:cp*copies.toNat=b:=by rcases Sj with⟨rfl,rfl,rfl⟩|⟨rfl,rfl,rfl⟩<;>rfl
 have ebr:b*r.toNat<=100:=by rcases Sj with⟨rfl,rfl,rfl⟩|⟨rfl,rfl,rfl⟩<;>lia
 rw[er];refine⟨by lia,by lia,?_⟩;refine aX _ (λi ρ=>∃ (kvs:Kn) (o9 FK Sn Sq Sr FL zC:Option Sl),mz (p9 (copies*states)) kvs/\kvs.length<=b*i/\ρ=[some (.sh (.list (ns.map .int))),some (.sh (.int most)),some (.sh (.int shape)),some (.sh (.int copies)),some (.sh (.int states)),some (.sh (.int size)),some (.sh (.int many)),some (.ow true (.list (names.map .str))),some (.ow true (.dT kvs)),o9,FK,Sn,Sq,Sr,FL,zC]) ⟨[],_,_,_,_,_,_,_,mz.nil,cx _,rfl⟩ ?_ ?_
 ·rintro i x ρ hx ⟨kvs,o9,FK,Sn,Sq,Sr,FL,zC,hk,fm,rfl⟩ N hN;obtain⟨hi,rfl⟩:=bu hx;walk_at "q";refine⟨ns,_,0,states,rfl,by lia,by decide,by lia,λone a0 a1=>?_⟩;walk_at "q";refine⟨ns,_,1,states,rfl,by lia,by decide,by lia,λtwo b0 b1=>?_⟩;walk_at "q";refine⟨ns,_,2,(names.length:Nat),rfl,by lia,by decide,by lia,λw w0 w1=>?_⟩;obtain⟨n,hn,en⟩:=oH (names:=names) w0 w1;walk_at "q";refine⟨_,en,?_⟩;walk_at "q";refine⟨ns,_,3,3,rfl,by lia,by decide,by decide,λway y0 y1=>?_⟩;walk_at "q";refine⟨by lia,by lia,?_⟩;refine aX _ (λj ρ=>∃ (kvs:Kn) (FL zC:Option Sl),mz (p9 (copies*states)) kvs/\kvs.length<=b*i+cp*j/\ρ=[some (.sh (.list (ns.map .int))),some (.sh (.int most)),some (.sh (.int shape)),some (.sh (.int copies)),some (.sh (.int states)),some (.sh (.int size)),some (.sh (.int many)),some (.ow true (.list (names.map .str))),some (.ow true (.dT kvs)),some (.sh (.int (0+(i:Nat)))),some (.sh (.int one)),some (.sh (.int two)),some (.sh (.str n)),some (.sh (.int way)),FL,zC]) ⟨kvs,_,_,hk,by lia,rfl⟩ ?_ ?_
  ·clear hk fm;rintro j x ρ hx ⟨kvs,FL,zC,hk,fm,rfl⟩ N hN;obtain⟨hj,rfl⟩:=bu hx;walk_at "q";refine⟨by lia,by lia,?_⟩;refine aX _ (λl ρ=>∃ (kvs:Kn) (zC:Option Sl),mz (p9 (copies*states)) kvs/\kvs.length<=b*i+cp*j+l/\ρ=[some (.sh (.list (ns.map .int))),some (.sh (.int most)),some (.sh (.int shape)),some (.sh (.int copies)),some (.sh (.int states)),some (.sh (.int size)),some (.sh (.int many)),some (.ow true (.list (names.map .str))),some (.ow true (.dT kvs)),some (.sh (.int (0+(i:Nat)))),some (.sh (.int one)),some (.sh (.int two)),some (.sh (.str n)),some (.sh (.int way)),some (.sh (.int (0+(j:Nat)))),zC]) ⟨kvs,_,hk,by lia,rfl⟩ ?_ ?_
   ·clear hk fm;rintro l x ρ hx ⟨kvs,zC,hk,fm,rfl⟩ N hN;obtain⟨hl,rfl⟩:=bu hx;have lb:kvs.length<=1000:=by have:=Nat.mul_le_mul_left b (show i<=100 by lia);have:=Nat.mul_le_mul_left cp (show j<=2 by lia);rcases Sj with⟨rfl,rfl,rfl⟩|⟨rfl,rfl,rfl⟩<;>lia
    have go:BO states (0+(j:Nat))/\BO states (0+(l:Nat))/\kvs.length<16777216/\N [some (.sh (.list (ns.map .int))),some (.sh (.int most)),some (.sh (.int shape)),some (.sh (.int copies)),some (.sh (.int states)),some (.sh (.int size)),some (.sh (.int many)),some (.ow true (.list (names.map .str))),some (.ow true (.dT (lP kvs (fA (one+states*(0+(j:Nat)),n,two+states*(0+(l:Nat)))) (.bl true)))),some (.sh (.int (0+(i:Nat)))),some (.sh (.int one)),some (.sh (.int two)),some (.sh (.str n)),some (.sh (.int way)),some (.sh (.int (0+(j:Nat)))),some (.sh (.int (0+(l:Nat))))]:=by have c1:=xW (one:=one) (states:=states) (j:=0+(j:Nat)) (copies:=copies) a0 a1 (by lia) (by lia);have c2:=xW (one:=two) (states:=states) (j:=0+(l:Nat)) (copies:=copies) b0 b1 (by lia) (by lia);refine⟨bx (by lia) (by lia),bx (by lia) (by lia),by lia,?_⟩;have:=dh kvs (fA (one+states*(0+(j:Nat)),n,two+states*(0+(l:Nat)))) (D.bl true);exact hN _ ⟨_,_,hk.put (s:=(one+states*(0+(j:Nat)),n,two+states*(0+(l:Nat)))) ⟨c1.1,c1.2,hd n hn,c2.1,c2.2⟩,by omega,rfl⟩
    walk_at "q";refine R.D (λe=>?_) λe=>?_
    ·walk_at "q";exact go
    ·walk_at "q";refine⟨by lia,R.D (λe=>?_) λe=>?_⟩
     ·walk_at "q";exact go
     ·walk_at "q";exact hN _ ⟨kvs,_,hk,by lia,rfl⟩
   ·clear hk fm;rintro ρ ⟨kvs,zC,hk,fm,rfl⟩;rw[aZ] at fm;have:cp*(j+1)=cp*j+cp:=Nat.mul_succ cp j;have:copies.toNat=cp:=by rcases Sj with⟨rfl,rfl,rfl⟩|⟨rfl,rfl,rfl⟩<;>rfl
    exact hN _ ⟨kvs,_,_,hk,by lia,rfl⟩
  ·clear hk fm;rintro ρ ⟨kvs,FL,zC,hk,fm,rfl⟩;rw[aZ,ecb] at fm;have:b*(i+1)=b*i+b:=Nat.mul_succ b i;exact hN _ ⟨kvs,_,_,_,_,_,_,_,hk,by lia,rfl⟩
 ·rintro ρ ⟨kvs,o9,FK,Sn,Sq,Sr,FL,zC,hk,fm,rfl⟩;rw[aZ] at fm;walk_at "q";have kC':1<=copies*states:=by rcases hc with rfl|rfl<;>lia
  refine⟨bx (by lia) (by lia),by lia,by lia,?_⟩;refine aX _ (λi ρ=>∃ (kvs:Kn) (o9:Option Sl),mz (p9 (copies*states)) kvs/\kvs.length<=100+i/\ρ=[some (.sh (.list (ns.map .int))),some (.sh (.int most)),some (.sh (.int shape)),some (.sh (.int copies)),some (.sh (.int states)),some (.sh (.int size)),some (.sh (.int many)),some (.ow true (.list (names.map .str))),some (.ow true (.dT kvs)),o9,FK,Sn,Sq,Sr,FL,zC]) ⟨kvs,_,hk,by lia,rfl⟩ ?_ ?_
  ·clear hk fm;rintro i x ρ hx ⟨kvs,o9,hk,fm,rfl⟩ N hN;obtain⟨hi,rfl⟩:=bu hx;walk_at "q";refine⟨_,4,3,rfl,by decide,by decide,λq q0 q1=>?_⟩;walk_at "q";refine R.D (λe=>?_) λe=>?_
   ·walk_at "q";refine⟨by lia,R.D (λe2=>?_) λe2=>?_⟩
    ·obtain⟨n,hn,en⟩:=oH (names:=names) (i:=0) (by decide) (by lia);walk_at "q";refine⟨_,en,?_⟩;walk_at "q";refine⟨by lia,?_⟩;have:=dh kvs (fA (0+(i:Nat),n,0+(i:Nat)+1)) (D.bl true);exact hN _ ⟨_,_,hk.put (s:=(0+(i:Nat),n,0+(i:Nat)+1)) ⟨(by lia : (0:Int)<=0+(i:Nat)),(by lia : 0+((i:Nat):Int)<copies*states),hd n hn,(by lia : (0:Int)<=0+(i:Nat)+1),(by lia : 0+((i:Nat):Int)+1<copies*states)⟩,by lia,rfl⟩
    ·walk_at "q";exact hN _ ⟨kvs,_,hk,by lia,rfl⟩
   ·walk_at "q";exact hN _ ⟨kvs,_,hk,by lia,rfl⟩
  ·clear hk fm;rintro ρ ⟨kvs,o9,hk,fm,rfl⟩;rw[aZ] at fm;walk_at "q";refine⟨bx (by lia) (by lia),?_⟩;refine hk.mQ λsteps pm hP pw hlen=>?_;rw[bO];exact h _ steps (by rcases hc with rfl|rfl<;>lia) qB hP (by lia) pw
def cD{Q:Md->D->Prop}{ns:List Int}{most shape copies states size:Int}(hc:copies=1\/copies=2)(hs:1<=states)(qB:copies*states<=10)(KP:1<=most/\most<=100)(h:∀ (many:Int) (steps:List aS),1<=many->many<=10->dP many steps->steps.length<=120->steps.Pairwise (λa b=>cS a b=true)->Q (.ow true) (mD many steps)) :
  bM { nx:=λ_=>Q .sh .non,rt:=Q } [some (.sh (.list (ns.map .int))),some (.sh (.int most)),some (.sh (.int shape)),some (.sh (.int copies)),some (.sh (.int states)),some (.sh (.int size)),none,none,none,none,none,none,none,none,none,none]:=by
 have mM:states<=20:=by rcases hc with rfl|rfl<;>lia
 obtain⟨w8,e8⟩:∃ w8,w8=bK:=⟨_,rfl⟩
 unfold bM;rw[<- e8];walk_at "q";refine⟨gQ (by lia) (by lia),_,3,_,rfl,by decide,by lia,λmany m0 m1=>?_⟩;walk_at "q";refine R.D (λe=>?_) λe=>?_
 ·walk_at "q";rw[e8];exact d_ hc hs qB ⟨by lia,by lia⟩ KP h
 ·walk_at "q";rw[e8];exact d_ hc hs qB ⟨by lia,by lia⟩ KP h
def kW:∀ ds Q,cV ds Q->fM { nx:=λ_=>Q .sh .non,rt:=Q } (aQ 16 ds):=by
 rintro ds Q ⟨ns,most,rfl,KP,h⟩;obtain⟨w6,e6⟩:∃ w6,w6=bM:=⟨_,rfl⟩
 unfold fM;rw[<- e6];walk_at "q";refine⟨ns,0,rfl,by decide,?_⟩;generalize ns.getD _ 0=shape;walk_at "q";refine⟨shape,0,3,rfl,by decide,by decide,λc c0 c1=>?_⟩;walk_at "q";have hc:1+c / 2=1\/1+c / 2=2:=by lia
 generalize 1+c / 2=copies at hc ⊢;refine⟨by lia,?_⟩;refine⟨shape,1,_,rfl,by decide,by rcases hc with rfl|rfl<;>lia,λst s0 s1=>?_⟩;walk_at "q";refine⟨shape,2,8,rfl,by decide,by decide,λsize z0 z1=>?_⟩;walk_at "q";refine R.D (λe=>?_) λe=>?_
 ·walk_at "q";refine⟨by lia,?_⟩;refine R.F (by simp;lia) ?_;walk_at "q";rw[e6];exact cD hc (by rcases hc with rfl|rfl<;>lia) (by rcases hc with rfl|rfl<;>lia) KP h
 ·walk_at "q";refine R.D (λe=>?_) λe=>?_
  ·walk_at "q";refine⟨by lia,?_⟩;refine⟨shape,5,_,rfl,by decide,by rcases hc with rfl|rfl<;>lia,λq q0 q1=>?_⟩;walk_at "q";rw[e6];exact cD hc (by lia) (by rcases hc with rfl|rfl<;>lia) KP h
  ·walk_at "q";rw[e6];exact cD hc (by lia) (by rcases hc with rfl|rfl<;>lia) KP h
def iI:WS :=
 (cf (eh 3 (aH cu (aj (aH aO (aj (ag 0) (aj (wC (.int 1)) cc))) cc)))
 (cf (eh 4 jV)
 (cf (ny (bF (ag 2)) (gN 5)
 (cf (eh 6 (ay eT (ag 3) (aH aA (aj (ag 0) (aj (ay eL (wC (.int 100)) (ag 5)) (aj (wC (.int 2)) (aj (gE AZ (ag 3)) cc)))))))
 (jP (nS 4) (kR (aj (aH aA (aj (ag 0) (aj (ay eL (wC (.int 100)) (ag 5)) (aj (wC (.int 0)) (aj (ag 1) cc))))) (aj (ag 6) (aj (aH aA (aj (ag 0) (aj (ay eL (wC (.int 100)) (ag 5)) (aj (wC (.int 3)) (aj (ag 1) cc))))) cc)))) (wC (.bl true)))))
 (uZ [.inr 1,.inl (gE fX (ag 4))]))))
def dM:i7:=λds Q=>∃ (ns:List Int) (many n:Int),ds=[.list (ns.map .int),.int many,.int n]/\1<=many/\(0<=n/\n<=100)/\∀ others:List aS,dP many others->others.length<=100->Q (.ow true) (mD many others)
def k_ (ds Q) (h:dM ds Q):ds.length=["_law_script", "_law_many", "_law_count"].length:=by obtain⟨_,_,_,rfl,_⟩:=h;rfl
def qi:∀ ds Q,dM ds Q->iI { nx:=λ_=>Q .sh .non,rt:=Q } (aQ 7 ds):=by
 rintro ds Q ⟨ns,many,n,rfl,m1,hn,h⟩;unfold iI;walk_at "q";refine⟨ns,1,rfl,by decide,?_⟩;generalize ns.getD _ 0=c1;walk_at "q";refine⟨c1,rfl,λnames n1 n7 hd=>?_⟩;walk_at "q";refine⟨by lia,by lia,?_⟩;refine aX _ (λi ρ=>∃ (kvs:Kn) (o5 o6:Option Sl),mz (p9 many) kvs/\kvs.length<=i/\ρ=[some (.sh (.list (ns.map .int))),some (.sh (.int many)),some (.sh (.int n)),some (.ow true (.list (names.map .str))),some (.ow true (.dT kvs)),o5,o6]) ⟨[],_,_,mz.nil,cx _,rfl⟩ ?_ ?_
 ·rintro i x ρ hx ⟨kvs,o5,o6,hk,fm,rfl⟩ N hN;obtain⟨hi,rfl⟩:=bu hx;walk_at "q";refine⟨ns,_,2,(names.length:Nat),rfl,by lia,by decide,by lia,λw w0 w1=>?_⟩;obtain⟨d,VS,ed⟩:=oH (names:=names) w0 w1;walk_at "q";refine⟨_,ed,?_⟩;walk_at "q";refine⟨ns,_,0,many,rfl,by lia,by decide,by lia,λone a0 a1=>?_⟩;walk_at "q";refine⟨ns,_,3,many,rfl,by lia,by decide,by lia,λtwo b0 b1=>?_⟩;walk_at "q";refine⟨by lia,?_⟩;have:=dh kvs (fA (one,d,two)) (D.bl true);exact hN _ ⟨_,_,_,hk.put (s:=(one,d,two)) ⟨a0,a1,hd d VS,b0,b1⟩,by lia,rfl⟩
 ·rintro ρ ⟨kvs,o5,o6,hk,fm,rfl⟩;rw[aZ] at fm;walk_at "q";refine hk.mQ λsteps pm hP pw hlen=>?_;rw[bO];exact h steps hP (by lia)
def iz:WS :=
 (cf (eh 3 jV)
 (cf (ku 2 (ny (tM (ag 2)) (gT 2 (aN (gN 4) (aN (gN 5) fJ)))
 (cf (eh 6 (aH aA (aj (ag 0) (aj (ay eL (wC (.int 170)) (ag 4)) (aj (wC (.int 2)) (aj (wC (.int 3)) cc))))))
 (ny (bF (wC (.int 2))) (gN 7)
 (ny (bF (wC (.int 2))) (gN 8)
 (jv (Ni (wB (ay i6 (ag 6) (wC (.int 2)))) (wB (ay i6 (ag 8) (ay uS (ay eL (ag 6) (ag 7)) (wC (.int 2))))))
 (jP (nS 3) (kR (aj (ay eL (ay nv (wC (.int 2)) (ay eT (ag 5) (wC (.int 0)))) (ag 7)) (aj (ay eT (ag 5) (wC (.int 1))) (aj (ay eL (ay nv (wC (.int 2)) (ay eT (ag 5) (wC (.int 2)))) (ag 8)) cc)))) (wC (.bl true)))
 bV))))))
 (kF (kR (aj (ay nv (wC (.int 2)) (ag 1)) (aj (gE fX (ag 3)) cc))))))
def dO:i7:=λds Q=>∃ (ns:List Int) (many:Int) (steps:List aS),ds=[.list (ns.map .int),.int many,.list (steps.map dv)]/\(1<=many/\many<=10)/\dP many steps/\steps.length<=120/\∀ others:List aS,dP (2*many) others->others.length<=480->Q (.ow true) (mD (2*many) others)
def lA (ds Q) (h:dO ds Q):ds.length=["_law_script", "_law_many", "_law_steps"].length:=by obtain⟨_,_,_,rfl,_⟩:=h;rfl
def qF:∀ ds Q,dO ds Q->iz { nx:=λ_=>Q .sh .non,rt:=Q } (aQ 9 ds):=by
 rintro ds Q ⟨ns,many,steps,rfl,hm,bI,hl,h⟩;unfold iz;walk_at "q";refine aX _ (λi ρ=>∃ (kvs:Kn) (o4 o5 o6 o7 o8:Option Sl),mz (p9 (2*many)) kvs/\kvs.length<=4*i/\ρ=[some (.sh (.list (ns.map .int))),some (.sh (.int many)),some (.sh (.list (steps.map dv))),some (.ow true (.dT kvs)),o4,o5,o6,o7,o8]) ⟨[],_,_,_,_,_,mz.nil,cx _,rfl⟩ ?_ ?_
 ·rintro i x ρ hx ⟨kvs,o4,o5,o6,o7,o8,hk,fm,rfl⟩ N hN;unfold nP at hx;rw[SY,kM] at hx;obtain⟨y,hy,rfl⟩:=GY.mp hx;obtain⟨⟨a,d,c⟩,hs,rfl⟩:=GY.mp hy;have hi:=(iE.mp hs).1;have ok:=bI _ (k7 hs);have o1:0<=a:=ok.1;have o2:a<many:=ok.2.1;have o3:Kk d:=ok.2.2.1;have o4':0<=c:=ok.2.2.2.1;have o5':c<many:=ok.2.2.2.2;clear hy hx;unfold dv;walk_at "q";refine⟨ns,_,2,3,rfl,by lia,by decide,by decide,λway y0 y1=>?_⟩;walk_at "q";refine aX _ (λj ρ=>∃ (kvs:Kn) (o7 o8:Option Sl),mz (p9 (2*many)) kvs/\kvs.length<=4*i+2*j/\ρ=[some (.sh (.list (ns.map .int))),some (.sh (.int many)),some (.sh (.list (steps.map dv))),some (.ow true (.dT kvs)),some (.sh (.int i)),some (.sh (.tup [.int a,.str d,.int c])),some (.sh (.int way)),o7,o8]) ⟨kvs,_,_,hk,by lia,rfl⟩ ?_ ?_
  ·clear hk fm;rintro j x ρ hx ⟨kvs,o7,o8,hk,fm,rfl⟩ N hN;obtain⟨hj,rfl⟩:=bu hx;walk_at "q";refine aX _ (λl ρ=>∃ (kvs:Kn) (o8:Option Sl),mz (p9 (2*many)) kvs/\kvs.length<=4*i+2*j+l/\ρ=[some (.sh (.list (ns.map .int))),some (.sh (.int many)),some (.sh (.list (steps.map dv))),some (.ow true (.dT kvs)),some (.sh (.int i)),some (.sh (.tup [.int a,.str d,.int c])),some (.sh (.int way)),some (.sh (.int (0+(j:Nat)))),o8]) ⟨kvs,_,hk,by lia,rfl⟩ ?_ ?_
   ·clear hk fm;rintro l x ρ hx ⟨kvs,o8,hk,fm,rfl⟩ N hN;obtain⟨D5,rfl⟩:=bu hx;have go:N [some (.sh (.list (ns.map .int))),some (.sh (.int many)),some (.sh (.list (steps.map dv))),some (.ow true (.dT (lP kvs (fA (2*a+(0+(j:Nat)),d,2*c+(0+(l:Nat)))) (.bl true)))),some (.sh (.int i)),some (.sh (.tup [.int a,.str d,.int c])),some (.sh (.int way)),some (.sh (.int (0+(j:Nat)))),some (.sh (.int (0+(l:Nat))))]:=by have:=dh kvs (fA (2*a+(0+(j:Nat)),d,2*c+(0+(l:Nat)))) (D.bl true);exact hN _ ⟨_,_,hk.put (s:=(2*a+(0+(j:Nat)),d,2*c+(0+(l:Nat)))) ⟨(by lia : 0<=2*a+(0+((j:Nat):Int))),(by lia : 2*a+(0+((j:Nat):Int))<2*many),o3,(by lia : 0<=2*c+(0+((l:Nat):Int))),(by lia : 2*c+(0+((l:Nat):Int))<2*many)⟩,by lia,rfl⟩
    walk_at "q";refine R.D (λe=>?_) λe=>?_
    ·walk_at "q";exact⟨.inl ⟨by lia,by lia⟩,.inl ⟨by lia,by lia⟩,by lia,go⟩
    ·walk_at "q";refine R.D (λe=>?_) λe=>?_
     ·walk_at "q";exact⟨.inl ⟨by lia,by lia⟩,.inl ⟨by lia,by lia⟩,by lia,go⟩
     ·walk_at "q";exact hN _ ⟨kvs,_,hk,by lia,rfl⟩
   ·clear hk fm;rintro ρ ⟨kvs,o8,hk,fm,rfl⟩;rw[aZ] at fm;exact hN _ ⟨kvs,_,_,hk,by lia,rfl⟩
  ·clear hk fm;rintro ρ ⟨kvs,o7,o8,hk,fm,rfl⟩;rw[aZ] at fm;exact hN _ ⟨kvs,_,_,_,_,_,hk,by lia,rfl⟩
 ·rintro ρ ⟨kvs,o4,o5,o6,o7,o8,hk,fm,rfl⟩;unfold nP at fm;rw[S5,b6] at fm;walk_at "q";refine⟨.inl ⟨by lia,by lia⟩,?_⟩;refine hk.mQ λout pm hP pw hlen=>?_;rw[bO];exact h out hP (by lia)
def gJ:WS :=
 (cf (eh 3 (aH cu (aj (aH aO (aj (ag 0) (aj (wC (.int 1)) cc))) cc)))
 (cf (eh 4 jV)
 (cf (ku 2 (ny (dF (ag 2)) (gT 3 (aN (gN 5) (aN (gN 6) (aN (gN 7) fJ))))
 (jP (nS 4) (kR (aj (ay eL (ag 5) (ay wc (ag 5) (wC (.int 2)))) (aj (ag 6) (aj (ay eL (ag 7) (ay wc (ag 7) (wC (.int 2)))) cc)))) (wC (.bl true)))))
 (cf (eh 8 (ay eL (ag 1) (ay wc (ay eL (ag 1) (wC (.int 1))) (wC (.int 2)))))
 (cf (ny (bF (aH aA (aj (ag 0) (aj (wC (.int 74)) (aj (wC (.int 2)) (aj (wC (.int 12)) cc)))))) (gN 9)
 (cf (eh 6 (ay eT (ag 3) (aH aA (aj (ag 0) (aj (ay eL (wC (.int 100)) (ag 9)) (aj (wC (.int 2)) (aj (gE AZ (ag 3)) cc)))))))
 (cf (eh 10 (ay eL (ay nv (wC (.int 3)) (aH aA (aj (ag 0) (aj (ay eL (wC (.int 100)) (ag 9)) (aj (wC (.int 0)) (aj (ay wc (ay eL (ag 1) (wC (.int 1))) (wC (.int 2))) cc)))))) (wC (.int 2))))
 (jv (wB (ay OV (ag 10) (ag 8)))
 (jP (nS 4) (kR (aj (ag 10) (aj (ag 6) (aj (aH aA (aj (ag 0) (aj (ay eL (wC (.int 100)) (ag 9)) (aj (wC (.int 3)) (aj (ag 8) cc))))) cc)))) (wC (.bl true)))
 bV))))
 (uZ [.inr 8,.inl (gE fX (ag 4))]))))))
def du:i7:=λds Q=>∃ (ns:List Int) (many:Int) (steps:List aS),ds=[.list (ns.map .int),.int many,.list (steps.map dv)]/\(1<=many/\many<=10)/\dP many steps/\steps.length<=120/\∀ others:List aS,dP (many+(many+1) / 2) others->others.length<=480->Q (.ow true) (mD (many+(many+1) / 2) others)
def jL (ds Q) (h:du ds Q):ds.length=["_law_script", "_law_many", "_law_steps"].length:=by obtain⟨_,_,_,rfl,_⟩:=h;rfl
def nZ:∀ ds Q,du ds Q->gJ { nx:=λ_=>Q .sh .non,rt:=Q } (aQ 11 ds):=by
 rintro ds Q ⟨ns,many,steps,rfl,hm,bI,hl,h⟩;unfold gJ;walk_at "q";refine⟨ns,1,rfl,by decide,?_⟩;generalize ns.getD _ 0=c1;walk_at "q";refine⟨c1,rfl,λnames n1 n7 hd=>?_⟩;walk_at "q";obtain⟨size,es⟩:∃ size,size=many+(many+1) / 2:=⟨_,rfl⟩
 rw[<- es] at h;refine aX _ (λi ρ=>∃ (kvs:Kn) (o5 o6 o7:Option Sl),mz (p9 size) kvs/\kvs.length<=i/\ρ=[some (.sh (.list (ns.map .int))),some (.sh (.int many)),some (.sh (.list (steps.map dv))),some (.ow true (.list (names.map .str))),some (.ow true (.dT kvs)),o5,o6,o7,none,none,none]) ⟨[],_,_,_,mz.nil,cx _,rfl⟩ ?_ ?_
 ·rintro i x ρ hx ⟨kvs,o5,o6,o7,hk,fm,rfl⟩ N hN;rw[kM] at hx;obtain⟨⟨a,d,c⟩,hs,rfl⟩:=GY.mp hx;have hi:=(iE.mp hs).1;have ok:=bI _ (k7 hs);have o1:0<=a:=ok.1;have o2:a<many:=ok.2.1;have o3:Kk d:=ok.2.2.1;have o4':0<=c:=ok.2.2.2.1;have o5':c<many:=ok.2.2.2.2;clear hx;unfold dv;walk_at "q";refine⟨by lia,?_⟩;have:=dh kvs (fA (a+a / 2,d,c+c / 2)) (D.bl true);exact hN _ ⟨_,_,_,_,hk.put (s:=(a+a / 2,d,c+c / 2)) ⟨(by lia : 0<=a+a / 2),(by lia : a+a / 2<size),o3,(by lia : 0<=c+c / 2),(by lia : c+c / 2<size)⟩,by lia,rfl⟩
 ·rintro ρ ⟨kvs,o5,o6,o7,hk,fm,rfl⟩;rw[b6] at fm;walk_at "q";refine⟨ns,74,2,12,rfl,by decide,by decide,by decide,λr r0 r1=>?_⟩;rw[<- es];walk_at "q";refine⟨by lia,by lia,?_⟩;refine aX _ (λi ρ=>∃ (kvs:Kn) (o6 o9 FK:Option Sl),mz (p9 size) kvs/\kvs.length<=120+i/\ρ=[some (.sh (.list (ns.map .int))),some (.sh (.int many)),some (.sh (.list (steps.map dv))),some (.ow true (.list (names.map .str))),some (.ow true (.dT kvs)),o5,o6,o7,some (.sh (.int size)),o9,FK]) ⟨kvs,_,_,_,hk,by lia,rfl⟩ ?_ ?_
  ·clear hk fm;rintro i x ρ hx ⟨kvs,o6,o9,FK,hk,fm,rfl⟩ N hN;obtain⟨hi,rfl⟩:=bu hx;walk_at "q";refine⟨ns,_,2,(names.length:Nat),rfl,by lia,by decide,by lia,λw w0 w1=>?_⟩;obtain⟨d,VS,ed⟩:=oH (names:=names) w0 w1;walk_at "q";refine⟨_,ed,?_⟩;walk_at "q";refine⟨ns,_,0,_,rfl,by lia,by decide,by lia,λone a0 a1=>?_⟩;walk_at "q";refine⟨.inl ⟨by lia,by lia⟩,R.D (λe=>?_) λe=>?_⟩
   ·walk_at "q";refine⟨ns,_,3,size,rfl,by lia,by decide,by lia,λtwo b0 b1=>?_⟩;walk_at "q";refine⟨by lia,?_⟩;have:=dh kvs (fA (3*one+2,d,two)) (D.bl true);exact hN _ ⟨_,_,_,_,hk.put (s:=(3*one+2,d,two)) ⟨(by lia : 0<=3*one+2),e,hd d VS,b0,b1⟩,by lia,rfl⟩
   ·walk_at "q";exact hN _ ⟨kvs,_,_,_,hk,by lia,rfl⟩
  ·clear hk fm;rintro ρ ⟨kvs,o6,o9,FK,hk,fm,rfl⟩;rw[aZ] at fm;walk_at "q";refine hk.mQ λout pm hP pw hlen=>?_;rw[bO];exact h out hP (by lia)
def lJ:WS :=
 (kF (R9 (aH eX (aj (ag 0) cc)) (gE OX (wC (.int 1)))))
def dZ:i7:=λds Q=>∃ (many:Int) (steps:List aS),ds=[mD many steps]/\(1<=many/\many<=100)/\dP many steps/\steps.length<=1000/\∀ k,Kinds many steps k->Q (.ow true) (.list (k.map .int))
def qI (ds Q) (h:dZ ds Q):ds.length=["m"].length:=by obtain⟨_,_,rfl,_⟩:=h;rfl
def uH:∀ ds Q,dZ ds Q->lJ { nx:=λ_=>Q .sh .non,rt:=Q } (aQ 1 ds):=by rintro ds Q ⟨many,steps,rfl,hm,bI,hl,h⟩;unfold lJ;rw[show aQ 1 [mD many steps]=[some (.sh (mD many steps))] from rfl];walk_at "q";refine⟨many,steps,rfl,hm,bI,hl,λrest hc hr=>?_⟩;unfold rdD;walk_at "q";refine⟨_,vG _ _,?_⟩;unfold CC;walk_at "q";exact h _ ⟨rest,hc,rfl⟩
def cg:WS :=
 (cf (eh 6 (gE rn (ag 2)))
 (cf (jv (wB (ay Fh (gE AZ (ag 6)) (wC (.int 0))))
 (cf (rK (nS 6) (aH aA (aj (ag 0) (aj (wC (.int 75)) (aj (wC (.int 0)) (aj (gE AZ (ag 6)) cc))))) (gT 3 (aN (gN 7) (aN (gN 8) (aN (gN 9) fJ)))))
 (jv (wB (ay i6 (ag 3) (wC (.int 4))))
 (ku 8 (ku 7 (D4 (nS 6) (kR (aj (ag 7) (aj (ag 8) (aj (aH aA (aj (ag 0) (aj (wC (.int 76)) (aj (wC (.int 1)) (aj (ag 1) cc))))) cc)))))))
 bV))
 bV)
 (uZ [.inr 1,.inl (gE e_ (ag 6))])))
def iH:WS :=
 (cf (eh 3 (aH aA (aj (ag 0) (aj (wC (.int 70)) (aj (wC (.int 3)) (aj (wC (.int 6)) cc))))))
 (cf (jv (wB (ay i6 (ag 3) (wC (.int 0))))
 (kF (aH dM (aj (ag 0) (aj (ay eL (wC (.int 1)) (aH aA (aj (ag 0) (aj (wC (.int 71)) (aj (wC (.int 0)) (aj (wC (.int 10)) cc)))))) (aj (aH aA (aj (ag 0) (aj (wC (.int 72)) (aj (wC (.int 1)) (aj (wC (.int 31)) cc))))) cc)))))
 bV)
 (cf (jv (wB (ay i6 (ag 3) (wC (.int 1))))
 (cf (eh 4 (aH aA (aj (ag 0) (aj (wC (.int 73)) (aj (wC (.int 0)) (aj (ag 1) cc))))))
 (cf (eh 5 (ay eL (wd (aj (wC (.int 0)) cc)) (cG (bF (ay Nn (ag 1) (wC (.int 1)))) (gN 0) p4 (ay eL (wC (.int 1)) (ay uS (ay eL (ag 0) (ag 1)) (ay Nn (ag 2) (wC (.int 1))))) 1 [4,1])))
 (ku 8 (uZ [.inr 1,.inl (gE xm (cG (cY (ag 2)) (gT 3 (aN (gN 0) (aN (gN 1) (aN (gN 2) fJ)))) p4 (kR (aj (ay eT (ag 3) (ag 0)) (aj (ag 1) (aj (ay eT (ag 3) (ag 2)) cc)))) 3 [5]))]))))
 bV)
 (cf (jv (wB (ay i6 (ag 3) (wC (.int 2))))
 (kF (aH dO (aj (ag 0) (aj (ag 1) (aj (ag 2) cc)))))
 bV)
 (cf (jv (wB (ay i6 (ag 3) (wC (.int 3))))
 (kF (aH du (aj (ag 0) (aj (ag 1) (aj (ag 2) cc)))))
 bV)
 cg)))))
def dX:i7:=λds Q=>∃ (ns:List Int) (many:Int) (steps:List aS),ds=[.list (ns.map .int),.int many,.list (steps.map dv)]/\(1<=many/\many<=10)/\dP many steps/\steps.length<=120/\∀ (far:Int) (others:List aS),(1<=far/\far<=20)->dP far others->others.length<=480->Q (.ow true) (mD far others)
def lz (ds Q) (h:dX ds Q):ds.length=["_law_script", "_law_many", "_law_steps"].length:=by obtain⟨_,_,_,rfl,_⟩:=h;rfl
def oX{P:aS->Prop}{l:List aS}(hl:l.length<=1000)(hp:∀ s∈l,P s){R:List (List Key)->Prop}(k:∀ out:List aS,(∀ s∈out,P s)->out.length<=l.length->R (out.map fA)) :
  ∃ (ks:List (List Key)) (sh:List Bool),l.map dv=ks.map kr/\ks.length<=1000/\(∀ k∈ks,gX k=true :: sh)/\∀ ms:List (List Key),ms.Nodup->(∀ k,k∈ms↔k∈ks)->(ms.Pairwise λa b=>fv b a=false)->R ms:=by
 refine⟨l.map fA,[false,true],by rw[fe];rfl,by rw[b6];exact hl,λk hk=>?_,λms nd mm _=>?_⟩
 ·obtain⟨s,_,rfl⟩:=b5.mp hk;rfl
 ·obtain⟨out,rfl,ho⟩:=gZ (P:=P) (ks:=ms) λk hk=>by obtain⟨s,hs,e⟩:=b5.mp ((mm k).mp hk);exact⟨s,e.symm,hp s hs⟩
  refine k out ho ?_;have:=aR nd λx hx=>(mm x).mp hx;rwa[b6,b6] at this
def Fb{Q:Md->D->Prop}{ns:List Int}{many way:Int}{steps:List aS}(hm:1<=many/\many<=10)(bI:dP many steps)(hl:steps.length<=120)(h:∀ (far:Int) (others:List aS),(1<=far/\far<=20)->dP far others->others.length<=480->Q (.ow true) (mD far others)) :
  cg { nx:=λ_=>Q .sh .non,rt:=Q } [some (.sh (.list (ns.map .int))),some (.sh (.int many)),some (.sh (.list (steps.map dv))),some (.sh (.int way)),none,none,none,none,none,none]:=by
 unfold cg;walk_at "q";refine .inl ⟨dB steps,?_⟩;refine R.D (λe=>?_) λe=>?_
 ·walk_at "q";refine⟨ns,75,0,(steps.length:Nat),rfl,by decide,by decide,e,λj j0 j1=>?_⟩;have jn:j.toNat<steps.length:=by lia
  obtain⟨⟨a,d,c⟩,hs⟩:∃ s,steps[j.toNat]? = some s:=⟨_,kB jn⟩
  have ok:=bI _ (k7 hs);walk_at "q";refine⟨dv (a,d,c),j0,by rw[kM,hs];rfl,rfl,?_⟩;have er:(steps.map dv).eraseIdx j.toNat=(steps.eraseIdx j.toNat).map dv:=by rw[Sz,Sz,AA,P5,P6]
  have ir:dP many (steps.eraseIdx j.toNat):=λs z=>bI s (SF z);have lr:(steps.eraseIdx j.toNat).length<=120:=by rw[LM];split<;>lia
  rw[er];generalize steps.eraseIdx j.toNat=rest at *
  rw[show dv (a,d,c)=.tup [.int a,.str d,.int c] from rfl];walk_at "q";refine R.D (λe=>?_) λe=>?_
  ·walk_at "q";refine⟨ns,76,1,many,rfl,by decide,by decide,by lia,λtwo b0 b1=>?_⟩;walk_at "q";rw[show rest.map dv++[D.tup [.int a,.str d,.int two]]=(rest++[((a,d,two):aS)]).map dv by rw[AA];rfl];have hz:(rest++[((a,d,two):aS)]).length<=121:=by rw[ot,LJ];lia
   refine⟨by lia,oX (P:=p9 many) (by lia) (λs z=>?_) λout ho ol=>?_⟩
   ·rcases eR.mp z with z|z
    ·exact ir s z
    ·rw[nI.mp z];exact⟨ok.1,ok.2.1,ok.2.2.1,b0,b1⟩
   rw[bO];exact h many out (by lia) ho (by lia)
  ·walk_at "q";refine oX (P:=p9 many) (by lia) ir λout ho ol=>?_;rw[bO];exact h many out (by lia) ho (by lia)
 ·walk_at "q";refine oX (P:=p9 many) (by lia) bI λout ho ol=>?_;rw[bO];exact h many out (by lia) ho (by lia)
def qx:∀ ds Q,dX ds Q->iH { nx:=λ_=>Q .sh .non,rt:=Q } (aQ 10 ds):=by
 rintro ds Q ⟨ns,many,steps,rfl,hm,bI,hl,h⟩;obtain⟨w5,e5⟩:∃ w,w=cg:=⟨_,rfl⟩
 unfold iH;rw[<- e5];walk_at "q";refine⟨ns,70,3,6,rfl,by decide,by decide,by decide,λway y0 y1=>?_⟩;walk_at "q";refine R.D (λe=>?_) λe=>?_
 ·walk_at "q";refine⟨ns,71,0,10,rfl,by decide,by decide,by decide,λf f0 f1=>?_⟩;walk_at "q";refine⟨ns,72,1,31,rfl,by decide,by decide,by decide,λr r0 r1=>?_⟩;walk_at "q";refine⟨ns,_,r,rfl,by lia,by lia,λout hP ho=>?_⟩;walk_at "q";exact h _ out (by lia) hP (by lia)
 walk_at "q";refine R.D (λe=>?_) λe=>?_
 ·walk_at "q";refine⟨ns,73,0,many,rfl,by decide,by decide,by lia,λf f0 f1=>?_⟩;walk_at "q";refine⟨by lia,by lia,?_⟩
  refine aW (λ_=>true) (λd=>match d with
   |.int k=>.int (1+(k+f) % (many-1))
   |d=>d) (λρ=>∃ o,ρ=[o,some (.sh (.int f)),some (.sh (.int many))]) _ _ _ ⟨_,rfl⟩ ?_ ?_
  ·rintro y hy ρ ⟨o,rfl⟩ N1 N2 _ n2;obtain⟨i,hi,rfl⟩:=tD hy;walk_at "q";exact⟨by lia,.inl rfl,n2 _ ⟨_,rfl⟩ rfl⟩
  rw[EC.mpr λ_ _=>rfl]
  obtain⟨nums,en,nl,nb⟩:∃ nums:List Int,(gR 0 (many-1).toNat).map (λd=>match d with
   |.int k=>D.int (1+(k+f) % (many-1))
   |d=>d)=nums.map D.int/\nums.length=(many-1).toNat/\∀ p∈nums,0<=p/\p<many:=by
   refine⟨(List.range (many-1).toNat).map λi:Nat=>1+(0+(i:Int)+f) % (many-1),?_,by simp,λp hp=>?_⟩
   ·unfold gR;rw[fe,fe];rfl
   ·obtain⟨i,hi,rfl⟩:=b5.mp hp;have hi:=n5.mp hi;have a0:=Qj (0+(i:Int)+f) (show many-1≠0 by lia);have a1:=Qi (0+(i:Int)+f) (show 0<many-1 by lia);lia
  rw[en,show D.int 0 :: nums.map D.int=(0 :: nums).map D.int from rfl];have rl:(0 :: nums).length=many.toNat:=by rw[oS];lia
  have rb:∀ s,0<=s->s<many->0<=rk (0 :: nums) s/\rk (0 :: nums) s<many:=λs a b=>by
   have:rk (0 :: nums) s∈0 :: nums:=by unfold rk;rw[EA,kB (by lia)];exact rX _
   rcases eB.mp this with e|e
   ·lia
   ·exact nb _ e
  refine⟨by rw[b6];lia,.inl ⟨j8 nums,?_⟩⟩
  refine aW (λ_=>true) (λd=>match d with
   |.tup [.int a,.str x,.int b]=>.tup [.int (rk (0 :: nums) a),.str x,.int (rk (0 :: nums) b)]
   |d=>d) (λρ=>∃ o0 o1 o2,ρ=[o0,o1,o2,some (.sh (.list ((0 :: nums).map .int)))]) _ _ _ ⟨_,_,_,rfl⟩ ?_ ?_
  ·rintro x hx ρ ⟨o0,o1,o2,rfl⟩ N1 N2 _ n2;obtain⟨⟨a,d,b⟩,ht,rfl⟩:=b5.mp hx;have ok:=bI _ ht;unfold dv at n2 ⊢;walk_at "q";refine⟨_,pP rl ok.1 ok.2.1,?_⟩;walk_at "q";refine⟨_,pP rl ok.2.2.2.1 ok.2.2.2.2,?_⟩;walk_at "q";exact⟨.inl rfl,n2 _ ⟨_,_,_,rfl⟩ rfl⟩
  have e1:((steps.map dv).filter λ_=>true).map (λd=>match d with
    |.tup [.int a,.str x,.int b]=>.tup [.int (rk (0 :: nums) a),.str x,.int (rk (0 :: nums) b)]
    |d=>d)=((steps.map λt=>((rk (0 :: nums) t.1,t.2.1,rk (0 :: nums) t.2.2):aS)).map fA).map kr:=by
   rw[EC.mpr λ_ _=>rfl,fe,fe,fe];rfl
  rw[e1];have okm:∀ s∈steps.map (λt=>((rk (0 :: nums) t.1,t.2.1,rk (0 :: nums) t.2.2):aS)),p9 many s:=λs hs=>by obtain⟨t,ht,rfl⟩:=b5.mp hs;have ok:=bI t ht;have r1:=rb _ ok.1 ok.2.1;have r2:=rb _ ok.2.2.2.1 ok.2.2.2.2;exact⟨r1.1,r1.2,ok.2.2.1,r2.1,r2.2⟩
  have lm:(steps.map (λt=>((rk (0 :: nums) t.1,t.2.1,rk (0 :: nums) t.2.2):aS))).length=steps.length:=b6 _;generalize steps.map (λt=>((rk (0 :: nums) t.1,t.2.1,rk (0 :: nums) t.2.2):aS))=ls at *
  refine⟨_,[false,true],rfl,λk hk=>?_,λms pm _=>?_⟩
  ·obtain⟨s,_,rfl⟩:=b5.mp hk;rfl
  ·obtain⟨out,rfl,ho⟩:=gZ (P:=p9 many) (ks:=ms) λk hk=>by obtain⟨s,hs,e⟩:=b5.mp (pm.mem_iff.mp hk);exact⟨s,e.symm,okm s hs⟩
   have:=pm.length_eq;rw[b6,b6] at this;rw[bO];exact h many out (by lia) ho (by lia)
 walk_at "q";refine R.D (λe=>?_) λe=>?_
 ·walk_at "q";refine⟨ns,many,steps,rfl,hm,bI,hl,λout hP ho=>?_⟩;walk_at "q";exact h _ out (by lia) hP (by lia)
 walk_at "q";refine R.D (λe=>?_) λe=>?_
 ·walk_at "q";refine⟨ns,many,steps,rfl,hm,bI,hl,λout hP ho=>?_⟩;walk_at "q";exact h _ out (by lia) hP (by lia)
 walk_at "q";rw[e5];exact Fb hm bI hl h
def wD:WS :=
 (cf (zu (aH b_ (aj (ag 0) (aj (ag 1) cc))))
 (cf (zu (aH b_ (aj (ag 0) (aj (ag 2) cc))))
 (cf (eh 3 (aH dZ (aj (ag 0) cc)))
 (kF (ay i6 (ay eT (ag 3) (ag 1)) (ay eT (ag 3) (ag 2)))))))
def nF:i7:=λds Q=>∃ (many:Int) (l:List aS) (p q:Int),ds=[mD many l,.int p,.int q]/\(1<=many/\many<=100)/\dP many l/\l.length<=1000/\A8 many (p,q)/\∀ k,Kinds many l k->Q .sh (.bl (decide (rk k p=rk k q)))
def wH (ds Q) (h:nF ds Q):ds.length=["m", "p", "q"].length:=by obtain⟨_,_,_,_,rfl,_⟩:=h;rfl
def Et:∀ ds Q,nF ds Q->wD { nx:=λ_=>Q .sh .non,rt:=Q } (aQ 4 ds):=by rintro ds Q ⟨many,l,p,q,rfl,hm,bI,hl,hx,h⟩;unfold wD;rw[show aQ 4 [mD many l,.int p,.int q]=[some (.sh (mD many l)),some (.sh (.int p)),some (.sh (.int q)),none] from rfl];walk_at "q";refine⟨many,l,p,rfl,hx.1.1,hx.1.2,?_⟩;walk_at "q";refine⟨many,l,q,rfl,hx.2.1,hx.2.2,?_⟩;walk_at "q";refine⟨many,l,rfl,hm,bI,hl,λk hk=>?_⟩;walk_at "q";refine⟨_,pP hk.rb.len hx.1.1 hx.1.2,?_⟩;walk_at "q";refine⟨_,pP hk.rb.len hx.2.1 hx.2.2,?_⟩;walk_at "q";exact h k hk
def lR:WS :=
 (cf (eh 1 (aH dZ (aj (ag 0) cc)))
 (cf (eh 2 (RH (ay eT (ag 1) (wC (.int 0))) (wC (.int 0))))
 (cf (ny (dF (gE gw (cG (cY (aH yu (aj (ag 0) cc))) (gN 0) p4 (ay eT (ag 1) (ag 0)) 1 [1]))) (gN 3)
 (jv (wB (ay (IJ true) (ag 3) (ag 2)))
 (jP (nS 2) (ag 3) (gE AZ (ag 2)))
 bV))
 (kF (cG (cY (ag 1)) (gN 0) p4 (R3 (ag 1) (ag 0) (wC .non)) 1 [2])))))
def f9:i7:=λds Q=>∃ (many:Int) (steps:List aS),ds=[mD many steps]/\(1<=many/\many<=20)/\dP many steps/\steps.length<=1000/\∀ hs,cB many steps hs->Q (.ow true) (.list (hs.map oI))
def pX (ds Q) (h:f9 ds Q):ds.length=["m"].length:=by obtain⟨_,_,rfl,_⟩:=h;rfl
def uz:∀ ds Q,f9 ds Q->lR { nx:=λ_=>Q .sh .non,rt:=Q } (aQ 4 ds):=by
 rintro ds Q ⟨many,steps,rfl,hm,bI,hl,h⟩;unfold lR;rw[show aQ 4 [mD many steps]=[some (.sh (mD many steps)),none,none,none] from rfl];walk_at "q";refine⟨many,steps,rfl,by lia,bI,hl,λk hk=>?_⟩;have fm:=hk.len;walk_at "q";refine⟨_,pP fm (sf 0) (by lia),?_⟩;walk_at "q";refine⟨many,steps,rfl,hm.1,hm.2,bI,λms VW=>?_⟩;have hml:=VW.len bI hm.1;walk_at "q"
 refine aW (λ_=>true) (λd=>match d with
  |.int s=>.int (rk k s)
  |d=>d) (λρ=>∃ o,ρ=[o,some (.sh (.list (k.map .int)))]) _ _ _ ⟨_,rfl⟩ ?_ ?_
 ·rintro x hx ρ ⟨o,rfl⟩ N1 N2 n1 n2;obtain⟨s,hs,rfl⟩:=b5.mp hx;have:=((VW.mem s).mp hs).lt bI hm.1;walk_at "q";refine⟨_,pP fm this.1 this.2,?_⟩;walk_at "q";exact⟨.inl rfl,n2 _ ⟨_,rfl⟩ rfl⟩
 have e1:((ms.map D.int).filter λ_=>true).map (λd=>match d with
   |.int s=>.int (rk k s)
   |d=>d)=((ms.map (rk k)).map λx=>(Sum.inl x:Key)).map kX:=by
  rw[EC.mpr λ_ _=>rfl,fe,fe,fe];rfl
 rw[e1];refine⟨_,true,rfl,by rw[b6,b6];lia,λx hx=>?_,λks nd mm pw=>?_⟩
 ·obtain⟨y,_,rfl⟩:=b5.mp hx;rfl
 obtain⟨fI,rfl,bl'⟩:=Pu (f:=λx=>(Sum.inl x:Key)) (P:=λx=>x∈ms.map (rk k)) (ks:=ks) λx hx=>by obtain⟨y,hy,e⟩:=b5.mp ((mm x).mp hx);exact⟨y,e.symm,hy⟩
 have up:=G3 nd pw;have mem:∀ x,x∈fI↔∃ s∈ms,x=rk k s:=λx=>by
  constructor
  ·intro hx;obtain⟨s,hs,e⟩:=b5.mp (bl' x hx);exact⟨s,hs,e.symm⟩
  ·rintro⟨s,hs,rfl⟩;exact cQ.mp ((mm _).mpr (cQ.mpr (b5.mpr ⟨s,hs,rfl⟩)))
 rw[tW];have RN:fI.length<=ms.length:=by have:=aR (m:=ms.map (rk k)) (oW up) bl';rwa[b6] at this
 refine aX _ (λi ρ=>∃ o3,ρ=[some (.sh (mD many steps)),some (.ow true (.list (k.map .int))),some (.ow true (.dK (rh (numsOf (rk k 0) (fI.take i))))),o3]) ⟨none,rfl⟩ ?_ ?_
 ·rintro i x ρ hx ⟨o3,rfl⟩ N hN;obtain⟨hi,VN⟩:=iE.mp hx;have ki:i<fI.length:=by simpa using hi
  have VP:x=.int fI[i]:=by rw[<- VN];simp
  subst VP;have tk:fI.take (i+1)=fI.take i++[fI[i]]:=by rw[Dx,kB ki];rfl
  have nin:fI[i]∉fI.take i:=λz=>by
   obtain⟨j,hj,e⟩:=PQ.mp z;have oj:j<i:=by rw[nK] at hj;lia
   have:=xi.mp up j i (by lia) ki oj;rw[List.getElem_take] at e;lia
  generalize fI[i]=x at *
  have nl:(numsOf (rk k 0) (fI.take i)).length<=1+i:=by unfold numsOf;have:=SW (λx=>decide (x≠rk k 0)) (fI.take i);rw[nK] at this;simp only[oS];lia
  walk_at "q";rw[xn];by_cases e:x=rk k 0
  ·refine R.F (by simp[numsOf,e]) ?_;walk_at "q";refine hN _ ⟨some (.sh (.int x)),?_⟩;rw[tk,numsOf,numsOf,List.filter_append];simp[e]
  ·have nn:x∉numsOf (rk k 0) (fI.take i):=by unfold numsOf;simp[e,nin]
   refine R.T (by simp[nn]) ?_;walk_at "q";rw[zy];refine⟨by lia,?_⟩;refine hN _ ⟨some (.sh (.int x)),?_⟩;rw[Fx nn,tk];simp[numsOf,e]
 ·rintro ρ ⟨o3,rfl⟩;rw[b6,Au];have nd:=lU (rk k 0) up;walk_at "q"
  refine aW (λ_=>true) (λd=>match d with
   |.int x=>oI (dD (numsOf (rk k 0) fI) x)
   |d=>d) (λρ=>∃ o,ρ=[o,some (.sh (.dK (rh (numsOf (rk k 0) fI))))]) _ _ _ ⟨_,rfl⟩ ?_ ?_
  ·rintro x hx ρ ⟨o,rfl⟩ N1 N2 n1 n2;obtain⟨s,hs,rfl⟩:=b5.mp hx;walk_at "q";exact zq nd ⟨.inl (zM _),n2 _ ⟨_,rfl⟩ rfl⟩
  have e2:((k.map D.int).filter λ_=>true).map (λd=>match d with
    |.int x=>oI (dD (numsOf (rk k 0) fI) x)
    |d=>d)=(k.map (dD (numsOf (rk k 0) fI))).map oI:=by
   rw[EC.mpr λ_ _=>rfl,fe,fe];rfl
  rw[e2];exact h _ ⟨k,ms,fI,hk,VW,up,mem,rfl⟩
def mq:WS :=
 (cf (eh 1 (aH f9 (aj (ag 0) cc)))
 (cf (eh 2 (cG (cY (ay eT (ag 0) (wC (.int 1)))) (gT 3 (aN (gN 0) (aN (gN 1) (aN (gN 2) fJ)))) (wB (ay Ak (ay eT (ag 3) (ag 0)) (wC .non))) (kR (aj (ay eT (ag 3) (ag 0)) (aj (ag 1) (aj (ay eT (ag 3) (ag 2)) cc)))) 3 [1]))
 (kF (kR (aj (gE oV (cG (cY (ag 1)) (gN 0) (wB (ay Ak (ag 0) (wC .non))) (ag 0) 1 [])) (aj (gE e_ (ag 2)) cc))))))
def dY:i7:=λds Q=>∃ (many:Int) (steps:List aS),ds=[mD many steps]/\(1<=many/\many<=20)/\dP many steps/\steps.length<=1000/\∀ hs c out,cB many steps hs->j5 steps hs c out->Q (.ow true) (mD c out)
def pW (ds Q) (h:dY ds Q):ds.length=["m"].length:=by obtain⟨_,_,rfl,_⟩:=h;rfl
def uU:∀ ds Q,dY ds Q->mq { nx:=λ_=>Q .sh .non,rt:=Q } (aQ 3 ds):=by
 rintro ds Q ⟨many,steps,rfl,O7,bI,hl,h⟩;unfold mq;rw[show aQ 3 [mD many steps]=[some (.sh (mD many steps)),none,none] from rfl];walk_at "q";refine⟨many,steps,rfl,O7,bI,hl,λhs H=>?_⟩;have VX:=H.len;walk_at "q";unfold mD;walk_at "q"
 refine aW (λd=>match d with
  |.tup [.int s,_,_]=>(hm hs s).isSome
  |_=>false) (λd=>match d with
  |.tup [.int s,.str x,.int t]=>.tup [.int ((hm hs s).getD 0),.str x,.int ((hm hs t).getD 0)]
  |d=>d) (λρ=>∃ o0 o1 o2,ρ=[o0,o1,o2,some (.sh (.list (hs.map oI)))]) _ _ _ ⟨_,_,_,rfl⟩ ?_ ?_
 ·rintro x hx ρ ⟨o0,o1,o2,rfl⟩ N1 N2 n1 n2;obtain⟨⟨s,d,t⟩,ht,rfl⟩:=b5.mp hx;have ok:=bI _ ht;unfold dv at n1 n2 ⊢;walk_at "q";refine⟨_,Ek VX ok.1 ok.2.1,?_⟩
  cases e:hm hs s with
  |none =>simp only[oI];walk_at "q";exact n1 _ ⟨_,_,_,rfl⟩ (by simp[e])
  |some i =>obtain⟨j,ej⟩:=H.step bI O7.1 ht e;simp only[oI];walk_at "q";refine⟨_,Ek VX ok.1 ok.2.1,?_⟩;rw[e];simp only[oI];walk_at "q";refine⟨_,Ek VX ok.2.2.2.1 ok.2.2.2.2,?_⟩;rw[show hm hs t=some j from ej];simp only[oI];walk_at "q";have:=n2 [some (.sh (.int s)),some (.sh (.str d)),some (.sh (.int t)),some (.sh (.list (hs.map oI)))] ⟨_,_,_,rfl⟩ (by simp[e]);simp only[e,show hm hs t=some j from ej,Tf] at this;exact⟨.inl rfl,this⟩
 have e1:((steps.map dv).filter (λd=>match d with
   |.tup [.int s,_,_]=>(hm hs s).isSome
   |_=>false)).map (λd=>match d with
   |.tup [.int s,.str x,.int t]=>.tup [.int ((hm hs s).getD 0),.str x,.int ((hm hs t).getD 0)]
   |d=>d)=(nQ steps hs).map dv:=by
  unfold nQ;rw[P4,fe,fe];rfl
 rw[e1];refine aW (λd=>!d.Fm) (λd=>d) (λρ=>∃ o,ρ=[o]) _ _ _ ⟨_,rfl⟩ ?_ ?_
 ·rintro x hx ρ ⟨o,rfl⟩ N1 N2 n1 n2;obtain⟨o,ho,rfl⟩:=b5.mp hx
  cases o with
  |none =>simp only[oI] at n1 ⊢;walk_at "q";exact n1 _ ⟨_,rfl⟩ rfl
  |some i =>simp only[oI] at n2 ⊢;walk_at "q";exact⟨.inl rfl,n2 _ ⟨_,rfl⟩ rfl⟩
 rw[wL];refine rE (hs:=hs) (by lia) λcs hc=>?_;generalize ((cs.length:Nat):Int)=c at hc ⊢;have e2:(nQ steps hs).map dv=((nQ steps hs).map fA).map kr:=by rw[fe];rfl
 rw[e2];refine⟨_,[false,true],rfl,by rw[b6];exact iP (xT _ _) hl,λk hk=>?_,λms nd mm pw=>?_⟩
 ·obtain⟨s,_,rfl⟩:=b5.mp hk;rfl
 obtain⟨l,rfl,hp⟩:=gZ (P:=λp=>p∈nQ steps hs) (ks:=ms) λk hk=>by obtain⟨p,hp,e⟩:=b5.mp ((mm k).mp hk);exact⟨p,e.symm,hp⟩
 have e:(l.map fA).map kr=l.map dv:=by rw[fe];rfl
 rw[e];refine h hs c l H ⟨hc,?_,λs=>?_⟩
 ·rw[iO] at pw;have zo:l.Pairwise λa b=>fA a≠fA b:=by rw[List.Nodup,iO] at nd;exact nd
  refine(pw.and zo).imp λ{a b} ⟨h1,h2⟩=>?_;unfold cS
  cases h3:fv (fA a) (fA b) with
  |true=>rfl
  |false=>exact absurd (gU (a:=fA a) (b:=fA b) rfl h3 h1) h2
 ·rw[<- vI H bI O7.1];refine⟨hp s,λgL=>?_⟩;obtain⟨q,hq,e⟩:=b5.mp ((mm (fA s)).mpr (b5.mpr ⟨s,gL,rfl⟩));rw[<- zB e];exact hq
def n8:WS :=
 (cf (jv (wB (ay Fh (ay eL (ag 1) (ag 3)) (wC (.int 20))))
 (kF (wC (.bl true)))
 bV)
 (cf (ku 5 (eh 11 (aH nF (aj (kR (aj (ay eL (ag 1) (ag 3)) (aj (ag 5) cc))) (aj (wC (.int 0)) (aj (ag 1) cc))))))
 (kF (zX (gE (U7 "bool") (ag 11)) (ay i6 (ag 11) (ag 8))))))
def nW:WS :=
 (cf (jv (Ni (wB (ay OW (ay i6 (ag 9) (ag 10)) (ag 8))) (Ni (wB (ay Fh (ay eT (ag 9) (wC (.int 0))) (ag 1))) (wB (ay Fh (ay eT (ag 10) (wC (.int 0))) (ag 3)))))
 (kF (wC (.bl false)))
 bV)
 (cf (jv (OU (Rp (ag 8)) (wB (ay Fh (ay eT (ag 9) (wC (.int 0))) (ay yR (ag 1) (ag 3)))))
 (kF (wC (.bl false)))
 bV)
 n8))
def mK:WS :=
 (cf (ku 1 (eh 8 (ay (R0 false) (kR (aj (wC (.int 0)) (aj (ag 1) cc))) (ag 7))))
 (cf (ku 1 (eh 9 (aH dY (aj (kR (aj (ag 1) (aj (gE rn (ag 2)) cc))) cc))))
 (cf (ku 3 (eh 10 (aH dY (aj (kR (aj (ag 3) (aj (gE rn (ag 4)) cc))) cc))))
 nW)))
def oK:WS :=
 (cf (eh 6 (aH eU (aj (ay eL (ag 1) (ag 3)) (aj (ag 5) cc))))
 (cf (eh 7 (aH dw (aj (ag 6) (aj (cG (bF (ay nv (ay eL (ag 1) (ag 3)) (ay eL (ag 1) (ag 3)))) (gN 0) p4 (kR (aj (ay wc (ag 0) (ay eL (ag 2) (ag 1))) (aj (ay uS (ag 0) (ay eL (ag 2) (ag 1))) cc))) 1 [3,1]) cc))))
 mK))
def Gx:WS :=
 (cf (zL 1 2 (RZ (aH cV (aj (ag 0) (aj (wC (.int 60)) cc)))))
 (cf (zL 3 4 (RZ (aH dX (aj (ag 0) (aj (ag 1) (aj (ag 2) cc))))))
 (cf (eh 5 (ay eL (ag 2) (cG (cY (ag 4)) (gT 3 (aN (gN 0) (aN (gN 1) (aN (gN 2) fJ)))) p4 (kR (aj (ay eL (ag 0) (ag 3)) (aj (ag 1) (aj (ay eL (ag 2) (ag 3)) cc)))) 3 [1])))
 oK)))
abbrev PB:i7:=aq'
def CN (ds Q) (h:PB ds Q):ds.length=["_law_script"].length:=by obtain⟨_,rfl,_⟩:=h;rfl
def shD(many:Int):D->D
 |.tup [.int s,.str d,.int t]=>.tup [.int (s+many),.str d,.int (t+many)]
 |d=>d
def Dc(l:List aS):((l.map dv).filter λ_=>true).map (shD many)=(l.map (Fs many)).map dv:=by rw[EC.mpr λ_ _=>rfl,fe,fe];rfl
abbrev PC(m:Int):List P2:=(List.range (m*m).toNat).map λi:Nat=>(((0+(i:Int)) / m,(0+(i:Int)) % m):P2)
def Dh{m:Int}(h:1<=m)(x:P2):A8 m x↔x∈PC m:=by
 have hm:0<=m*m:=NX (by lia) (by lia);constructor
 ·intro hx;refine Aa (n:=(m*m).toNat) (BI hm) (λi hi=>?_) hx;exact b5.mpr ⟨i,n5.mpr hi,by rw[Int.zero_add]⟩
 ·intro hx;obtain⟨i,hi,rfl⟩:=b5.mp hx;have hi:=n5.mp hi;have a1:=Qj (0+(i:Int)) (show m≠0 by lia);have a2:=Qi (0+(i:Int)) (show 0<m by lia);have a3:0<=(0+(i:Int)) / m:=Int.ediv_nonneg (by lia) (by lia);have a4:(0+(i:Int)) / m<m:=Int.ediv_lt_of_lt_mul (by lia) (by lia);exact⟨⟨a3,a4⟩,a1,a2⟩
def xj(x:P2):(jS x).nb=true:=by simp[jS,D.nb,uj]
def Dv{x y:P2}(h:jS x=jS y):x=y:=by simp only[jS,D.tup.injEq,List.cons.injEq,D.int.injEq] at h;exact Prod.ext h.1 h.2.1
def FW(l:List P2)(x:P2):D8 (l.map jS) (jS x)=decide (x∈l):=by
 unfold D8;rw[List.any_map,pj,EF,decide_eq_true_iff];constructor
 ·rintro⟨y,hy,e⟩;have e:ip (jS y) (jS x)=true:=e;rw[gW _ _ (xj y) (xj x)] at e;rwa[<- Dv e]
 ·exact λhx=>⟨x,hx,eq_self (xj x)⟩
def Hm(l:List P2):d4 12 (.list (l.map jS))=true:=by show(l.map jS).all (d4 11)=true;rw[NR,GH];exact λx _=>rfl
def iA'{c1 c2:Int}{o1 o2:List aS}:ip (.tup [.int c1,.list (o1.map dv)]) (.tup [.int c2,.list (o2.map dv)])=decide (c1=c2/\o1=o2):=by
 rw[pj,decide_eq_true_iff];refine(gW _ _ (ba' c1 o1) (ba' c2 o2)).trans ?_;constructor
 ·intro e;unfold mD at e;simp only[D.tup.injEq,List.cons.injEq,D.int.injEq,D.list.injEq] at e;exact⟨e.1,tY e.2.1⟩
 ·rintro⟨rfl,rfl⟩;rfl
def JK{Q:Md->D->Prop}{ns:List Int}{n1 n2:Int}{s1 s2:List aS}(p1:1<=n1/\n1<=10)(i1:dP n1 s1)(l1:s1.length<=120)(p2:1<=n2/\n2<=20)(i2:dP n2 s2)(l2:s2.length<=480){out:List P2}(P:FG (rS n1 s1 s2) (PC (n1+n2)) out){c1 c2:Int}{o1 o2:List aS}(ok1:d4 12 (.tup [.int c1,.list (o1.map dv)])=true)(ok2:d4 12 (.tup [.int c2,.list (o2.map dv)])=true)(iff:(c1=c2/\o1=o2)↔((0,n1):P2)∈out)(b1:c1<=n1)(b2:c2<=n2)(h:∀ m,Q m (.bl true)){o6 o7:Option Sl}:nW { nx:=λ_=>Q .sh .non,rt:=Q } [some (.sh (.list (ns.map .int))),some (.sh (.int n1)),some (.sh (.list (s1.map dv))),some (.sh (.int n2)),some (.sh (.list (s2.map dv))),some (.ow true (.list ((rS n1 s1 s2).map dv))),o6,o7,some (.sh (.bl (decide (((0,n1):P2)∈out)))),some (.ow true (.tup [.int c1,.list (o1.map dv)])),some (.ow true (.tup [.int c2,.list (o2.map dv)])),none]:=by
 have eb:decide (c1=c2/\o1=o2)=decide (((0,n1):P2)∈out):=by rw[pj,decide_eq_true_iff,decide_eq_true_iff];exact iff
 have ui:=G_ i1 i2 p1.1 p2.1;have ul:(rS n1 s1 s2).length<=600:=by rw[ot,b6];lia
 obtain⟨w10,e10⟩:∃ w,w=n8:=⟨_,rfl⟩
 unfold nW;rw[<- e10];have go:w10 { nx:=λ_=>Q .sh .non,rt:=Q } [some (.sh (.list (ns.map .int))),some (.sh (.int n1)),some (.sh (.list (s1.map dv))),some (.sh (.int n2)),some (.sh (.list (s2.map dv))),some (.ow true (.list ((rS n1 s1 s2).map dv))),o6,o7,some (.sh (.bl (decide (((0,n1):P2)∈out)))),some (.ow true (.tup [.int c1,.list (o1.map dv)])),some (.ow true (.tup [.int c2,.list (o2.map dv)])),none]:=by
  rw[e10];unfold n8;walk_at "q";refine R.D (λe=>?_) λe=>?_
  ·walk_at "q";exact h _
  walk_at "q";refine⟨n1+n2,rS n1 s1 s2,0,n1,rfl,by lia,ui,by lia,⟨⟨sf 0,by show(0:Int)<n1+n2;lia⟩,by show 0<=n1;lia,by show n1<n1+n2;lia⟩,λk hk=>?_⟩;have ia:=uE ui hk P (Dh (by lia)) (x:=(0,n1)) ⟨⟨sf 0,by show(0:Int)<n1+n2;lia⟩,by show 0<=n1;lia,by show n1<n1+n2;lia⟩;have ed:decide (rk k 0=rk k n1)=decide (((0,n1):P2)∈out):=by rw[pj,decide_eq_true_iff,decide_eq_true_iff];exact ia
  walk_at "q";rw[ed];refine R.T rfl ?_;walk_at "q";exact h _
 walk_at "q";refine⟨ok1,ok2,R.F (by rw[iA',eb,decide_eq_true rfl];rfl) ?_⟩;walk_at "q";refine R.F (decide_eq_false (by lia)) ?_;walk_at "q";refine R.F (decide_eq_false (by lia)) ?_;walk_at "q";refine R.D (λe=>?_) λe=>?_
 ·have:=(iff.mpr e).1;walk_at "q";refine R.F (decide_eq_false (by split<;>lia)) ?_;walk_at "q";exact go
 ·walk_at "q";exact go
def Jo{Q:Md->D->Prop}{ns:List Int}{n1 n2:Int}{s1 s2:List aS}(p1:1<=n1/\n1<=10)(i1:dP n1 s1)(l1:s1.length<=120)(p2:1<=n2/\n2<=20)(i2:dP n2 s2)(l2:s2.length<=480){out:List P2}(P:FG (rS n1 s1 s2) (PC (n1+n2)) out)(h:∀ m,Q m (.bl true)){o6:Option Sl}:mK { nx:=λ_=>Q .sh .non,rt:=Q } [some (.sh (.list (ns.map .int))),some (.sh (.int n1)),some (.sh (.list (s1.map dv))),some (.sh (.int n2)),some (.sh (.list (s2.map dv))),some (.ow true (.list ((rS n1 s1 s2).map dv))),o6,some (.ow true (.list (out.map jS))),none,none,none,none]:=by
 obtain⟨w8,e8⟩:∃ w,w=nW:=⟨_,rfl⟩
 unfold mK;rw[<- e8];walk_at "q";refine⟨rfl,Hm out,.inl ⟨dB s1,n1,s1,rfl,by lia,i1,by lia,λh1 c1 o1 H1 L1=>?_⟩⟩;rw[show mD c1 o1=.tup [.int c1,.list (o1.map dv)] from rfl];walk_at "q";refine .inl ⟨dB s2,n2,s2,rfl,by lia,i2,by lia,λh2 c2 o2 H2 nh=>?_⟩;rw[show mD c2 o2=.tup [.int c2,.list (o2.map dv)] from rfl];walk_at "q";rw[show D.tup [.int 0,.int n1]=jS (0,n1) from rfl,FW,e8];obtain⟨a,ha⟩:=L1.ok H1 i1;obtain⟨b,hb⟩:=nh.ok H2 i2;obtain⟨m1,m11,m12,VY⟩:=H1.range i1 p1.1;obtain⟨m2,m21,m22,m23⟩:=H2.range i2 p2.1;have e1:=L1.tK VY;have e2:=nh.tK m23;refine JK p1 i1 l1 p2 i2 l2 P (Hy 9 ha) (Hy 9 hb) ⟨?_,λz=>?_⟩ (by lia) (by lia) h
 ·rintro⟨_,rfl⟩;exact Bb i1 i2 p1.1 p2.1 H1 H2 L1 nh P λx hx=>(Dh (by lia) x).mp hx
 ·exact yx (zR i1 i2 P) ⟨by lia,by lia,by rw[Int.zero_add];exact z⟩ i1 i2 p1.1 p2.1 H1 H2 L1 nh
def Jy{Q:Md->D->Prop}{ns:List Int}{n1 n2:Int}{s1 s2:List aS}(p1:1<=n1/\n1<=10)(i1:dP n1 s1)(l1:s1.length<=120)(p2:1<=n2/\n2<=20)(i2:dP n2 s2)(l2:s2.length<=480)(h:∀ m,Q m (.bl true)):oK { nx:=λ_=>Q .sh .non,rt:=Q } [some (.sh (.list (ns.map .int))),some (.sh (.int n1)),some (.sh (.list (s1.map dv))),some (.sh (.int n2)),some (.sh (.list (s2.map dv))),some (.ow true (.list ((rS n1 s1 s2).map dv))),none,none,none,none,none,none]:=by
 obtain⟨w5,e5⟩:∃ w,w=mK:=⟨_,rfl⟩
 unfold oK;rw[<- e5];have ui:=G_ i1 i2 p1.1 p2.1;have ul:(rS n1 s1 s2).length<=600:=by rw[ot,b6];lia
 have mm:1<=n1+n2/\n1+n2<=30:=by lia
 have m2:0<=(n1+n2)*(n1+n2)/\(n1+n2)*(n1+n2)<=900:=⟨NX (by lia) (by lia),by
  have:=Int.mul_le_mul mm.2 mm.2 (by lia) (by decide);exact this⟩
 walk_at "q";refine⟨n1+n2,rS n1 s1 s2,rfl,by lia,ui,by lia,?_⟩;walk_at "q";refine⟨.inl ⟨by lia,by lia⟩,by lia,by lia,?_⟩
 refine aW (λ_=>true) (λd=>match d with
  |.int k=>.tup [.int (k / (n1+n2)),.int (k % (n1+n2))]
  |d=>d) (λρ=>∃ o,ρ=[o,some (.sh (.int n2)),some (.sh (.int n1))]) _ _ _ ⟨_,rfl⟩ ?_ ?_
 ·rintro y hy ρ ⟨o,rfl⟩ N1 N2 _ n2;obtain⟨i,hi,rfl⟩:=tD hy;walk_at "q";exact⟨by lia,by lia,.inl rfl,n2 _ ⟨_,rfl⟩ rfl⟩
 have ea:((gR 0 ((n1+n2)*(n1+n2)).toNat).filter λ_=>true).map (λd=>match d with
  |.int k=>D.tup [.int (k / (n1+n2)),.int (k % (n1+n2))]
  |d=>d)=(PC (n1+n2)).map jS:=by
  rw[EC.mpr λ_ _=>rfl];unfold gR;rw[fe,fe];rfl
 rw[ea];refine⟨n1+n2,rS n1 s1 s2,PC (n1+n2),rfl,by rw[b6,PY];lia,λx hx=>(Dh mm.1 x).mpr hx,λout P=>?_⟩;walk_at "q";rw[e5];exact Jo p1 i1 l1 p2 i2 l2 P h
def Jd:∀ ds Q,PB ds Q->Gx { nx:=λ_=>Q .sh .non,rt:=Q } (aQ 12 ds):=by
 rintro ds Q ⟨ns,rfl,hl,h⟩;obtain⟨w3,e3⟩:∃ w,w=oK:=⟨_,rfl⟩
 unfold Gx;rw[<- e3];walk_at "q";refine⟨ns,60,rfl,by decide,λn1 s1 p1 p2 i1 l1 _=>?_⟩;rw[show mD n1 s1=.tup [.int n1,.list (s1.map dv)] from rfl];walk_at "q";refine⟨ns,n1,s1,rfl,⟨p1,p2⟩,i1,l1,λn2 s2 q i2 l2=>?_⟩;rw[show mD n2 s2=.tup [.int n2,.list (s2.map dv)] from rfl];walk_at "q";refine aW (λ_=>true) (shD n1) (λρ=>∃ o0 o1 o2,ρ=[o0,o1,o2,some (.sh (.int n1))]) _ _ _ ⟨_,_,_,rfl⟩ ?_ ?_
 ·rintro x hx ρ ⟨o0,o1,o2,rfl⟩ N1 N2 _ n2;obtain⟨⟨a,d,b⟩,ht,rfl⟩:=b5.mp hx;unfold dv at n2 ⊢;walk_at "q";exact⟨.inl rfl,n2 _ ⟨_,_,_,rfl⟩ rfl⟩
 rw[Dc];refine⟨by rw[b6,b6];lia,.inl ⟨dB _,dB _,?_⟩⟩;rw[<- AA,e3];exact Jy ⟨p1,p2⟩ i1 l1 q i2 l2 h
def top(i:Nat):Stmt:=PySem.Challenge.pw_kinlook_k47_whole_least_is_one.main.body.getD i (.Pass ⟨0,0,0,0⟩)
abbrev qY:Stmt:=top 29
structure Txt(K:aE)(mg:Str->Option ae):Prop where
 Ss:mg "any" = none
 VZ:mg "bool" = none
 V0:mg "enumerate" = none
 V1:mg "int" = none
 V2:mg "isinstance" = none
 Bi:mg "len" = none
 NC:mg "list" = none
 Sv:mg "min" = none
 n4:mg "range" = none
 KW:mg "set" = none
 w_:mg "sorted" = none
abbrev FA(K:aE)(x:Str)(s:Stmt):Prop:=∃ (f:ah) (oc:ae) (od an:Option ah) (BU:Array (Option ae)) (kV doc pm gp ct:ae),vt K kL x=some (some (.ref f))/\K.lookup f=some ⟨oc,od,.func (yb x x (B4 s) (xA s) (mr s) .none kV doc pm an gp ct),BU⟩/\LG K gp x=true/\FV K (.ref f)=true
def cW{K:aE}{h:df}{mg:Str->Option ae}{x:Str}{s:Stmt}(X:K.In h)(G:h.Ns kL mg)(a:FA K x s):∃ f fd,mg x=some (.ref f)/\B5 K x x s f fd:=by obtain⟨f,_,_,_,_,_,_,_,_,_,a,l,c,k⟩:=a;exact⟨_,_,PySem.W.mg_of X G a,Zt l c k⟩
def Jm{K:aE}{x:Str}{s:Stmt}{f:ah}{oc:ae}{od an:Option ah}{BU:Array (Option ae)}{kV doc pm gp ct:ae}(a:vt K kL x=some (some (.ref f)))(l:K.lookup f=some ⟨oc,od,.func (yb x x (B4 s) (xA s) (mr s) .none kV doc pm an gp ct),BU⟩)(c:LG K gp x=true)(k:FV K (.ref f)=true):FA K x s:=⟨_,_,_,_,_,_,_,_,_,_,a,l,c,k⟩
set_option maxHeartbeats 0 in
def all_mk {l:Sy} {w:eC} {K:aE} {h:df} {mg:Str->Option ae} {fa:ah} (X:K.In h) (G:h.Ns kL mg) (hfa:mg "law" = some (.ref fa))(a0:FA K "check_state" (top 4))(a1:FA K "exits_of" (top 5))(a2:FA K "met" (top 6))(a3:FA K "key_of" (top 8))(a4:FA K "ranks_behind" (top 9))(a5:FA K "rounds_of" (top 10))(a6:FA K "kinds_of" (top 11))(a7:FA K "alike" (top 12))(a8:FA K "homes_of" (top 14))(a9:FA K "least_of" (top 15))(a10:FA K "_law_cell_at" (top 17))(a11:FA K "_law_digit" (top 18))(a12:FA K "_law_menu" (top 19))(a13:FA K "_law_draw" (top 20))(a14:FA K "_law_machine" (top 21))(a15:FA K "_law_rows" (top 22))(a16:FA K "_law_both_ways" (top 23))(a17:FA K "_law_pruned" (top 24))(a18:FA K "_law_drawn" (top 25))(a19:FA K "_law_twice" (top 26))(a20:FA K "_law_spread" (top 27))(a21:FA K "_law_other" (top 28))(a22:vt K kL "law" = some (some (.ref f22))) (OL:K.lookup f22=some ⟨o22,d22,.func (yb "law" "law" (B4 qY) (xA qY) (mr qY) .none v22 j22 p22 e22 r22 u22),t22⟩) (c22:LG K r22 "law" = true) (k22:FV K (.ref f22)=true)(Ss:vt K kL "any" = some none)(VZ:vt K kL "bool" = some none)(V0:vt K kL "enumerate" = some none)(V1:vt K kL "int" = some none)(V2:vt K kL "isinstance" = some none)(Bi:vt K kL "len" = some none)(NC:vt K kL "list" = some none)(Sv:vt K kL "min" = some none)(n4:vt K kL "range" = some none)(KW:vt K kL "set" = some none)(w_:vt K kL "sorted" = some none)
  : ∃ fd:FuncData,(∀ (s:ax) (v:ae),BindsTo s fd ⟨[v],[]⟩ [("_law_script",v)])/\∀ base:df,K.In base->base.Ns kL mg->y3 l.prog w K mg base vF 7 fa fd ["_law_script"] (fQ K PB):=by
 have e:=hfa.symm.trans (PySem.W.mg_of X G a22);cases e;have T:Txt K mg:=⟨z5 X G Ss,z5 X G VZ,z5 X G V0,z5 X G V1,z5 X G V2,z5 X G Bi,z5 X G NC,z5 X G Sv,z5 X G n4,z5 X G KW,z5 X G w_⟩
 obtain⟨_,_,m0,F0⟩:=cW X G a0;obtain⟨_,_,m1,F1⟩:=cW X G a1;obtain⟨_,_,m2,F2⟩:=cW X G a2;obtain⟨_,_,m3,F3⟩:=cW X G a3;obtain⟨_,_,m4,F4⟩:=cW X G a4;obtain⟨_,_,m5,F5⟩:=cW X G a5;obtain⟨_,_,m6,F6⟩:=cW X G a6;obtain⟨_,_,m7,F7⟩:=cW X G a7;obtain⟨_,_,m8,F8⟩:=cW X G a8;obtain⟨_,_,m9,F9⟩:=cW X G a9;obtain⟨_,_,m10,F10⟩:=cW X G a10;obtain⟨_,_,m11,F11⟩:=cW X G a11;obtain⟨_,_,m12,F12⟩:=cW X G a12;obtain⟨_,_,VY,F13⟩:=cW X G a13;obtain⟨_,_,m14,F14⟩:=cW X G a14;obtain⟨_,_,m15,F15⟩:=cW X G a15;obtain⟨_,_,m16,F16⟩:=cW X G a16;obtain⟨_,_,m17,F17⟩:=cW X G a17;obtain⟨_,_,m18,F18⟩:=cW X G a18;obtain⟨_,_,m19,F19⟩:=cW X G a19;obtain⟨_,_,m20,F20⟩:=cW X G a20;obtain⟨_,_,m21,F21⟩:=cW X G a21;have F22:=Zt (st:=qY) OL c22 k22;refine⟨yb "law" "law" (B4 qY) (xA qY) (mr qY) .none v22 j22 p22 e22 r22 u22,λs v=>.of_eq rfl,λbase _ _=>?_⟩;have mk:=@U9.mk l.prog w K mg base;obtain C0:=(mk m0 F0 ["m", "state"] 2 0 jq mR (au (bZ (tQ (z_ Gd wF IK Dj ao (qv 1) (fq (qv 0) ao)))
   vX
   aM))).1
 obtain C1:=(mk m1 F1 ["m", "exits", "start", "deed", "end"] 1 0 qG uD (ak (cL 1 (tn:=["state"]) (cn:=[]) (ix:=[]) (fV (a_ T.n4 (fq (qv 0) ao))) (az 0) bH (i_ aq)) (ak (bh 0 (bN (dq (fq (qv 0) ao)) (dG (aF (az 2) (aF (az 3) (aF (az 4) b7)))) (au (bh 4 (bh 3 (lG (Gn (bw (pv 1)) (qv 2)) (cH (aa (qv 3) (aa (qv 4) aq))))))))) (au (qT (pv 1)))))).1
 obtain C2:=(mk m2 F2 ["m", "reached", "waiting", "state", "step"] 1 0 Fv JD (ak (aB 1 (v_ ao sM)) (ak (aB 2 (i_ (aa ao aq))) (ak (m_ (vV (qv 2)) (ak (Hk 3 (bw (pv 2))) (au (bh 0 (bN (dq (fq (qv 0) ao)) (az 4) (au (bZ (Nk (yz (aP ly cI (fq (qv 4) ao) (qv 3)) (qO (aP Cr yQ (fq (qv 4) ao) (qv 1))))) (ak (d7 (bw (pv 1)) (fq (qv 4) ao) sM) (au (lG (bw (pv 2)) (fq (qv 4) ao))))
   aM)))))))
   (au (bf (bj GX zp T.w_ bz (qv 1)))))))).1
 obtain C3:=(mk m3 F3 ["exits", "ranks", "state"] 3 0 vd Ba (au (bf (cH (aa (fq (qv 1) (qv 2)) (aa (uQ T.w_ T.KW (cN (tn:=["deed", "end"]) (cn:=["ranks"]) (ix:=[1]) (cT (fq (qv 0) (qv 2))) (dG (aF (az 0) (aF (az 1) b7))) bH (cH (aa (qv 0) (aa (fq (qv 2) (qv 1)) aq))))) aq)))))).1;obtain ND:=(mk m10 F10 ["_law_script", "_law_k"] 2 0 iR kj (ak (bZ (aP wF Dj (qv 1) (bj bQ iQ T.Bi gq (qv 0))) (au (bf (fq (qv 0) (qv 1))))
   aM)
   (au (bf ao)))).1
 obtain xa:=(mk m11 F11 ["_law_cell", "_law_way", "_law_many", "_law_prime"] 3 0 lq qw (ak (aB 3 (fq (i_ (aa ao (aa ao (aa ao (aa ao (aa ao (aa ao aq))))))) (qv 1))) (au (bf (iW (jR (iW (dR (qv 0) (fq (i_ (aa ao (aa ao (aa ao (aa ao (aa ao (aa ao aq))))))) (qv 1))) (qv 3)) ao) (qv 2)))))).1
 obtain C15:=(mk m15 F15 ["_law_many", "_law_steps", "_law_rows_here", "_law_at", "_law_deed", "_law_to"] 2 0 oR rB (ak (cL 2 (tn:=["_law_k"]) (cn:=[]) (ix:=[]) (fV (a_ T.n4 (qv 0))) (az 0) bH (i_ aq)) (ak (bh 1 (bN (dq (qv 1)) (dG (aF (az 3) (aF (az 4) (aF (az 5) b7)))) (au (bh 5 (bh 4 (lG (Gn (bw (pv 2)) (qv 3)) (cH (aa (qv 4) (aa (qv 5) aq))))))))) (au (qT (pv 2)))))).1
 obtain C16:=(mk m16 F16 ["_law_rows_here", "_law_one", "_law_other_here", "_law_pairs", "_law_deed", "_law_to", "_law_end"] 4 0 gM iT (ak (bh 0 (bN (dq (fq (qv 0) (qv 1))) (dG (aF (az 4) (aF (az 5) b7))) (au (bZ (tQ (t7 (bj aQ' Cg T.Ss Bm (cN (tn:=["_law_name", "_law_end"]) (cn:=["_law_deed", "_law_pairs", "_law_to"]) (ix:=[4,3,5]) (cT (fq (qv 0) (qv 2))) (dG (aF (az 0) (aF (az 1) b7))) (jt (aP ly cI (qv 0) (qv 2))) (qM mn yQ (cH (aa (qv 4) (aa (qv 1) aq))) (qv 3)))))) (au (bf sM))
   aM))))
   (ak (bh 0 (bN (dq (fq (qv 0) (qv 2))) (dG (aF (az 4) (aF (az 6) b7)))
   (au (bZ (tQ (t7 (bj aQ' Cg T.Ss Bm (cN (tn:=["_law_name", "_law_to"]) (cn:=["_law_deed", "_law_end", "_law_pairs"]) (ix:=[4,6,3]) (cT (fq (qv 0) (qv 1))) (dG (aF (az 0) (aF (az 1) b7))) (jt (aP ly cI (qv 0) (qv 2))) (qM mn yQ (cH (aa (qv 1) (aa (qv 3) aq))) (qv 4))))))
   (au (bf sM))
   aM))))
   (au (bf sM))))).1
 obtain C4:=(mk m4 F4 ["exits", "ranks", "keys", "different", "key"] 2 1 iU kZ (ak (cL 2 (tn:=["state"]) (cn:=["exits", "ranks"]) (ix:=[0,1]) (fV (a_ T.n4 (bj bQ iQ T.Bi gq (qv 1)))) (az 0) bH (aJ C3 (aa (qv 1) (aa (qv 2) (aa (qv 0) aq))))) (ak (aB 3 (i_ aq)) (ak (bh 2 (bN (dq (bj Ho yP T.w_ bz (qv 2))) (az 4) (au (bZ (aP CG Cw (qv 4) (qv 3)) (au (bh 4 (lG (bw (pv 3)) (qv 4))))
   aM))))
   (au (bf (cN (tn:=["key"]) (cn:=["different"]) (ix:=[3]) (cT (qv 2)) (az 0) bH (De (qv 1) (qv 0))))))))).1
 obtain V3:=(mk m12 F12 ["_law_cell", "_law_letters", "_law_size", "_law_at", "_law_base", "_law_kind", "_law_words", "_law_k", "_law_word", "_law_tail", "_law_first"] 1 1 mO rM (ak (aB 1 uB) (ak (aB 2 (aL ao (aJ xa (aa (qv 0) (aa ao (aa ao aq)))))) (ak (aB 3 (aJ xa (aa (qv 0) (aa ao (aa (qv 2) aq))))) (ak (aB 4 (cN (tn:=["_law_j"]) (cn:=["_law_cell"]) (ix:=[0]) (fV (a_ T.n4 ao)) (az 0) bH (aJ xa (aa (aL (dR (qv 1) (aL (qv 0) ao)) (qv 0)) (aa ao (aa ao aq)))))) (ak (aB 5 (aJ xa (aa (qv 0) (aa ao (aa ao aq))))) (ak (aB 6 (i_ aq)) (ak (bN (a_ T.n4 ao) (az 7) (ak (aB 8 (uo uB (cN (tn:=["_law_j"]) (cn:=["_law_at", "_law_base", "_law_k", "_law_letters"]) (ix:=[3,4,7,1]) (fV (a_ T.n4 (qv 2))) (az 0) bH (fq (qv 4) (iW (aL (fq (qv 2) (qv 0)) (dR (qv 3) (gk de' Gp T.V1 Cu (qM ly cI (qv 0) (qv 1))))) ao))))) (ak (bZ (aP ly cI (qv 5) ao) (au (aB 8 (uo uB (cN (tn:=["_law_j"]) (cn:=["_law_base", "_law_letters"]) (ix:=[4,1]) (fV (a_ T.n4 (aL (qv 7) ao))) (az 0) bH (fq (qv 2) (fq (qv 1) (qv 0)))))))
   aM)
   (ak (bZ (aP ly cI (qv 5) ao)
   (ak (cL 9 (tn:=["_law_j"]) (cn:=["_law_base", "_law_letters"]) (ix:=[4,1]) (fV (a_ T.n4 (aJ xa (aa (aL (qv 0) (qv 7)) (aa ao (aa ao aq)))))) (az 0) bH (fq (qv 2) (fq (qv 1) (qv 0))))
   (au (aB 8 (aL (fq (qv 1) (iW (aL (fq (qv 4) ao) (dR ao (qv 7))) ao)) (uo uB (qv 9))))))
   aM)
   (ak (bZ (aP ly cI (qv 5) ao)
   (au (aB 8 (uo uB (cN (tn:=["_law_j"]) (cn:=["_law_base", "_law_k", "_law_letters"]) (ix:=[4,7,1]) (fV (a_ T.n4 ao)) (az 0) bH (fq (qv 3) (iW (aL (fq (qv 1) ao) (iW (aL (qv 0) (qv 2)) ao)) ao))))))
   aM)
   (au (bh 8 (lG (bw (pv 6)) (qv 8)))))))))
   (ak (aB 10 (aJ xa (aa (qv 0) (aa ao (aa ao aq)))))
   (au (bf (Ew (aL (i_ (aa uB aq)) (qv 6)) (v9 (qv 10)) (v9 (aL (aL (qv 10) ao) (aJ xa (aa (qv 0) (aa ao (aa ao aq)))))))))))))))))).1
 obtain qc:=(mk VY F13 ["_law_script", "_law_k", "_law_way", "_law_many", "_law_cell"] 4 1 nq rT (ak (aB 4 (aJ ND (aa (qv 0) (aa (aL ao (iW (aL (dR ao (qv 1)) (dR ao (qv 2))) ao)) aq)))) (au (bf (aJ xa (aa (aL (aL (qv 4) (dR (aJ ND (aa (qv 0) (aa ao aq))) (aL (qv 1) ao))) (dR (aL (qv 1) ao) (aL (aL (qv 1) ao) (qv 2)))) (aa (qv 2) (aa (qv 3) aq)))))))).1
 obtain C17:=(mk m17 F17 ["_law_rows_here", "_law_some", "_law_pairs", "_law_pair", "_law_gone"] 2 1 j4 nM (λ{_ _ _ _ _ _ hr hu nd _}=>(ak (aB 2 jD) (ak (bh 1 (bN (dq (qv 1)) (az 3) (au (d7 (bw (pv 2)) (qv 3) sM)))) (au (m_ (t7 sM) (ak (cL 4 (tn:=["_law_pair"]) (cn:=["_law_pairs", "_law_rows_here"]) (ix:=[2,0]) (cT (gk fD mW T.NC mV (qv 2))) (az 0) (jt (tQ (t7 (aJ C16 (aa (qv 2) (aa (fq (qv 0) ao) (aa (fq (qv 0) ao) (aa (qv 1) aq)))))))) (qv 0)) (ak (bZ (aP ly cI (qv 4) (i_ aq)) (au (bf (bj jT eZ T.w_ bz (qv 2))))
   aM)
   (au (bh 4 (bN (dq (qv 4)) (az 3)
   (au (bh 3 (CZ (xdL (Nat.add_le_add_left (by decide:1<=64) _) hu) (bw (pv 2)) (qv 3))))))))))))))).1
 obtain C5:=(mk m5 F5 ["m", "exits", "rounds", "ranks"] 1 2 oG qL (λ{_ _ _ _ _ _ hr hu nd _}=>(ak (aB 1 (aJ C1 (aa (qv 0) aq))) (ak (aB 2 (i_ (aa (Gy (i_ (aa ao aq)) (fq (qv 0) ao)) aq))) (ak (aB 3 (aJ C4 (aa (qv 1) (aa (fq (qv 2) ao) aq)))) (ak (m_ (aP ZC Hj (qv 3) (fq (qv 2) (Ht ao))) (yW nd rfl (Or.inl rfl) (pv 2) (pv 3) (aJ C4 (aa (qv 1) (aa (qv 3) aq))))) (au (qT (pv 2))))))))).1
 obtain C14:=(mk m14 F14 ["_law_script", "_law_most", "_law_shape", "_law_copies", "_law_states", "_law_size", "_law_many", "_law_menu_here", "_law_steps", "_law_k", "_law_one", "_law_two", "_law_deed", "_law_way", "_law_j", "_law_i"] 2 2 jb kW (ak (aB 2 (aJ ND (aa (qv 0) (aa ao aq)))) (ak (aB 3 (aL ao (jR (aJ xa (aa (qv 2) (aa ao (aa ao aq)))) ao))) (ak (aB 4 (aL ao (aJ xa (aa (qv 2) (aa ao (aa (jR ao (qv 3)) aq)))))) (ak (aB 5 (aJ xa (aa (qv 2) (aa ao (aa ao aq))))) (ak (bZ (aP ly cI (qv 5) ao) (au (aB 4 (jR ao (qv 3))))
   aM)
   (ak (bZ (aP ly cI (qv 5) ao)
   (au (aB 4 (aL ao (aJ xa (aa (qv 2) (aa ao (aa (jR ao (qv 3)) aq)))))))
   aM)
   (ak (aB 6 (aJ xa (aa (qv 2) (aa ao (aa (dR ao (qv 4)) aq)))))
   (ak (bZ (aP ly cI (qv 5) ao)
   (au (bh 1 (aB 6 (qv 1))))
   aM)
   (ak (aB 7 (aJ V3 (aa (aJ ND (aa (qv 0) (aa ao aq))) aq)))
   (ak (aB 8 jD)
   (ak (bN (a_ T.n4 (yw Br vz T.Sv Cv (qv 6) (jR (qv 1) (dR (qv 3) (qv 3))))) (az 9)
   (ak (aB 10 (aJ qc (aa (qv 0) (aa (qv 9) (aa ao (aa (qv 4) aq))))))
   (ak (aB 11 (aJ qc (aa (qv 0) (aa (qv 9) (aa ao (aa (qv 4) aq))))))
   (ak (aB 12 (fq (qv 7) (aJ qc (aa (qv 0) (aa (qv 9) (aa ao (aa (bj bQ iQ T.Bi gq (qv 7)) aq)))))))
   (ak (aB 13 (aJ qc (aa (qv 0) (aa (qv 9) (aa ao (aa ao aq))))))
   (au (bN (a_ T.n4 (qv 3)) (az 14)
   (au (bN (a_ T.n4 (qv 3)) (az 15)
   (au (bZ (Nk (Ae (aP ly cI (qv 13) ao) (v5 (aP ly cI (qv 15) (iW (aL (qv 13) (qv 14)) (qv 3))))))
   (au (d7 (bw (pv 8)) (cH (aa (aL (qv 10) (dR (qv 4) (qv 14))) (aa (qv 12) (aa (aL (qv 11) (dR (qv 4) (qv 15))) aq)))) sM))
   aM)))))))))))
   (ak (bN (a_ T.n4 (Dk (dR (qv 3) (qv 4)) ao)) (az 9)
   (au (bZ (Nk (yz (aP ly cI (aJ xa (aa (qv 2) (aa ao (aa ao aq)))) ao) (qO (aP mF uM (iW (aL (qv 9) ao) (qv 4)) ao))))
   (au (d7 (bw (pv 8)) (cH (aa (qv 9) (aa (fq (qv 7) ao) (aa (aL (qv 9) ao) aq)))) sM))
   aM)))
   (au (bf (cH (aa (dR (qv 3) (qv 4)) (aa (bj jT eZ T.w_ bz (qv 8)) aq)))))))))))))))))).1
 obtain C18:=(mk m18 F18 ["_law_script", "_law_many", "_law_count", "_law_menu_here", "_law_steps", "_law_k", "_law_deed"] 3 2 k_ qi (ak (aB 3 (aJ V3 (aa (aJ ND (aa (qv 0) (aa ao aq))) aq))) (ak (aB 4 jD) (ak (bN (a_ T.n4 (qv 2)) (az 5) (ak (aB 6 (fq (qv 3) (aJ qc (aa (qv 0) (aa (aL ao (qv 5)) (aa ao (aa (bj bQ iQ T.Bi gq (qv 3)) aq))))))) (au (d7 (bw (pv 4)) (cH (aa (aJ qc (aa (qv 0) (aa (aL ao (qv 5)) (aa ao (aa (qv 1) aq))))) (aa (qv 6) (aa (aJ qc (aa (qv 0) (aa (aL ao (qv 5)) (aa ao (aa (qv 1) aq))))) aq)))) sM)))) (au (mZ (RG (pv 1) (RD (bj jT eZ T.w_ bz (qv 4)) uc)))))))).1
 obtain C19:=(mk m19 F19 ["_law_script", "_law_many", "_law_steps", "_law_found", "_law_k", "_law_step", "_law_way", "_law_j", "_law_i"] 3 2 lA qF (ak (aB 3 jD) (ak (bh 2 (bN (Dz T.V0 (qv 2)) (dG (aF (az 4) (aF (az 5) b7))) (ak (aB 6 (aJ qc (aa (qv 0) (aa (aL ao (qv 4)) (aa ao (aa ao aq)))))) (au (bN (a_ T.n4 ao) (az 7) (au (bN (a_ T.n4 ao) (az 8) (au (bZ (Nk (Ae (aP ly cI (qv 6) ao) (v5 (aP ly cI (qv 8) (iW (aL (qv 6) (qv 7)) ao))))) (au (d7 (bw (pv 3)) (cH (aa (aL (dR ao (fq (qv 5) ao)) (qv 7)) (aa (fq (qv 5) ao) (aa (aL (dR ao (fq (qv 5) ao)) (qv 8)) aq)))) sM))
   aM)))))))))
   (au (bf (cH (aa (dR ao (qv 1)) (aa (bj jT eZ T.w_ bz (qv 3)) aq)))))))).1
 obtain C20:=(mk m20 F20 ["_law_script", "_law_many", "_law_steps", "_law_menu_here", "_law_found", "_law_one", "_law_deed", "_law_two", "_law_size", "_law_k", "_law_new"] 3 2 jL nZ (ak (aB 3 (aJ V3 (aa (aJ ND (aa (qv 0) (aa ao aq))) aq))) (ak (aB 4 jD) (ak (bh 2 (bN (dq (qv 2)) (dG (aF (az 5) (aF (az 6) (aF (az 7) b7)))) (au (d7 (bw (pv 4)) (cH (aa (aL (qv 5) (jR (qv 5) ao)) (aa (qv 6) (aa (aL (qv 7) (jR (qv 7) ao)) aq)))) sM)))) (ak (aB 8 (aL (qv 1) (jR (aL (qv 1) ao) ao))) (ak (bN (a_ T.n4 (aJ qc (aa (qv 0) (aa ao (aa ao (aa ao aq)))))) (az 9) (ak (aB 6 (fq (qv 3) (aJ qc (aa (qv 0) (aa (aL ao (qv 9)) (aa ao (aa (bj bQ iQ T.Bi gq (qv 3)) aq))))))) (ak (aB 10 (aL (dR ao (aJ qc (aa (qv 0) (aa (aL ao (qv 9)) (aa ao (aa (jR (aL (qv 1) ao) ao) aq)))))) ao)) (au (bZ (aP wF Dj (qv 10) (qv 8)) (au (d7 (bw (pv 4)) (cH (aa (qv 10) (aa (qv 6) (aa (aJ qc (aa (qv 0) (aa (aL ao (qv 9)) (aa ao (aa (qv 8) aq))))) aq)))) sM))
   aM)))))
   (au (mZ (RG (pv 8) (RD (bj jT eZ T.w_ bz (qv 4)) uc)))))))))).1
 obtain C6:=(mk m6 F6 ["m"] 1 3 qI uH (au (bf (JN (aJ C5 (aa (qv 0) aq)) (Ht ao))))).1;obtain C21:=(mk m21 F21 ["_law_script", "_law_many", "_law_steps", "_law_way", "_law_far", "_law_numbers", "_law_rest", "_law_one", "_law_deed", "_law_two"] 3 3 lz qx (ak (aB 3 (aJ qc (aa (qv 0) (aa ao (aa ao (aa ao aq)))))) (ak (bZ (aP ly cI (qv 3) ao) (au (bf (aJ C18 (aa (qv 0) (aa (aL ao (aJ qc (aa (qv 0) (aa ao (aa ao (aa ao aq)))))) (aa (aJ qc (aa (qv 0) (aa ao (aa ao (aa ao aq))))) aq))))))
   aM)
   (ak (bZ (aP ly cI (qv 3) ao)
   (ak (aB 4 (aJ qc (aa (qv 0) (aa ao (aa ao (aa (qv 1) aq))))))
   (ak (aB 5 (aL (i_ (aa ao aq)) (cN (tn:=["_law_k"]) (cn:=["_law_far", "_law_many"]) (ix:=[4,1]) (fV (a_ T.n4 (Dk (qv 1) ao))) (az 0) bH (aL ao (iW (aL (qv 0) (qv 1)) (Dk (qv 2) ao))))))
   (au (bh 8 (mZ (RG (pv 1) (RD (bj Ii Am T.w_ bz (cN (tn:=["_law_one", "_law_deed", "_law_two"]) (cn:=["_law_numbers"]) (ix:=[5]) (cT (qv 2)) (dG (aF (az 0) (aF (az 1) (aF (az 2) b7)))) bH (cH (aa (fq (qv 3) (qv 0)) (aa (qv 1) (aa (fq (qv 3) (qv 2)) aq)))))) uc)))))))
   aM)
   (ak (bZ (aP ly cI (qv 3) ao)
   (au (bf (aJ C19 (aa (qv 0) (aa (qv 1) (aa (qv 2) aq))))))
   aM)
   (ak (bZ (aP ly cI (qv 3) ao)
   (au (bf (aJ C20 (aa (qv 0) (aa (qv 1) (aa (qv 2) aq))))))
   aM)
   (ak (aB 6 (gk fD mW T.NC mV (qv 2)))
   (ak (bZ (aP mF uM (bj bQ iQ T.Bi gq (qv 6)) ao)
   (ak (vZ (bw (pv 6)) (aJ qc (aa (qv 0) (aa ao (aa ao (aa (bj bQ iQ T.Bi gq (qv 6)) aq))))) (dG (aF (az 7) (aF (az 8) (aF (az 9) b7)))))
   (au (bZ (aP ly cI (qv 3) ao)
   (au (bh 8 (bh 7 (lG (bw (pv 6)) (cH (aa (qv 7) (aa (qv 8) (aa (aJ qc (aa (qv 0) (aa ao (aa ao (aa (qv 1) aq))))) aq))))))))
   aM)))
   aM)
   (au (mZ (RG (pv 1) (RD (lV T.w_ T.KW (qv 6)) uc)))))))))))).1
 obtain C7:=(mk m7 F7 ["m", "p", "q", "kinds"] 3 4 wH Et (ak (xF (aJ C0 (aa (qv 0) (aa (qv 1) aq)))) (ak (xF (aJ C0 (aa (qv 0) (aa (qv 2) aq)))) (ak (aB 3 (aJ C6 (aa (qv 0) aq))) (au (bf (qM ly cI (fq (qv 3) (qv 1)) (fq (qv 3) (qv 2))))))))).1
 obtain C8:=(mk m8 F8 ["m", "kinds", "numbers", "kind"] 1 4 pX uz (ak (aB 1 (aJ C6 (aa (qv 0) aq))) (ak (aB 2 (v_ (fq (qv 1) ao) ao)) (ak (bN (dq (vo T.w_ T.KW (cN (tn:=["state"]) (cn:=["kinds"]) (ix:=[1]) (cT (aJ C2 (aa (qv 0) aq))) (az 0) bH (fq (qv 1) (qv 0))))) (az 3) (au (bZ (aP Cr yQ (qv 3) (qv 2)) (au (d7 (bw (pv 2)) (qv 3) (bj bQ iQ T.Bi gq (qv 2))))
   aM)))
   (au (bf (cN (tn:=["kind"]) (cn:=["numbers"]) (ix:=[2]) (cT (qv 1)) (az 0) bH (Hi (qv 1) (qv 0))))))))).1
 obtain C9:=(mk m9 F9 ["m", "homes", "steps"] 1 5 pW uU (ak (aB 1 (aJ C8 (aa (qv 0) aq))) (ak (cL 2 (tn:=["start", "deed", "end"]) (cn:=["homes"]) (ix:=[1]) (cT (fq (qv 0) ao)) (dG (aF (az 0) (aF (az 1) (aF (az 2) b7)))) (jt (aP WL vN (fq (qv 3) (qv 0)) Gk)) (cH (aa (fq (qv 3) (qv 0)) (aa (qv 1) (aa (fq (qv 3) (qv 2)) aq))))) (au (bf (cH (aa (Ar rfl T.Bi rfl T.KW (cN (tn:=["home"]) (cn:=[]) (ix:=[]) (cT (qv 1)) (az 0) (jt (aP WL vN (qv 0) Gk)) (qv 0))) (aa (lV T.w_ T.KW (qv 2)) aq)))))))).1
 exact(mk hfa F22 ["_law_script", "_law_many", "_law_steps", "_law_far", "_law_others", "_law_both", "_law_rows_here", "_law_left", "_law_due", "_law_first", "_law_second", "_law_found"] 1 6 CN Jd (λ{_ _ _ _ _ _ hr hu nd _}=>(ak (yr (i:=1) (j:=2) rfl nd rfl (Or.inr rfl) rfl (Or.inl rfl) (aO' (aJ C14 (aa (qv 0) (aa ao aq))))) (ak (yr (i:=3) (j:=4) rfl nd rfl (Or.inr rfl) rfl (Or.inl rfl) (aO' (aJ C21 (aa (qv 0) (aa (qv 1) (aa (qv 2) aq)))))) (ak (aB 5 (aL (qv 2) (cN (tn:=["_law_one", "_law_deed", "_law_two"]) (cn:=["_law_many"]) (ix:=[1]) (cT (qv 4)) (dG (aF (az 0) (aF (az 1) (aF (az 2) b7)))) bH (cH (aa (aL (qv 0) (qv 3)) (aa (qv 1) (aa (aL (qv 2) (qv 3)) aq))))))) (ak (aB 6 (aJ C15 (aa (aL (qv 1) (qv 3)) (aa (qv 5) aq)))) (ak (aB 7 (aJ C17 (aa (qv 6) (aa (cN (tn:=["_law_k"]) (cn:=["_law_far", "_law_many"]) (ix:=[3,1]) (fV (a_ T.n4 (dR (aL (qv 1) (qv 3)) (aL (qv 1) (qv 3))))) (az 0) bH (cH (aa (jR (qv 0) (aL (qv 2) (qv 1))) (aa (iW (qv 0) (aL (qv 2) (qv 1))) aq)))) aq)))) (ak (bh 1 (aB 8 (qM hL' Cw (cH (aa ao (aa (qv 1) aq))) (qv 7)))) (ak (bh 1 (aB 9 (aJ C9 (aa (cH (aa (qv 1) (aa (gk fD mW T.NC mV (qv 2)) aq))) aq)))) (ak (bh 3 (aB 10 (aJ C9 (aa (cH (aa (qv 3) (aa (gk fD mW T.NC mV (qv 4)) aq))) aq)))) (ak (bZ (Nk (Ae (aP ZC Hj (qM ly cI (qv 9) (qv 10)) (qv 8)) (Ae (aP mF uM (fq (qv 9) ao) (qv 1)) (v5 (aP mF uM (fq (qv 10) ao) (qv 3)))))) (au (bf sM))
   aM)
   (ak (bZ (Nk (yz (vV (qv 8)) (qO (aP mF uM (fq (qv 9) ao) (yw Br vz T.Sv Cv (qv 1) (qv 3))))))
   (au (bf sM))
   aM)
   (ak (bZ (aP mF uM (aL (qv 1) (qv 3)) ao)
   (au (bf sM))
   aM)
   (ak (bh 5 (aB 11 (aJ C7 (aa (cH (aa (aL (qv 1) (qv 3)) (aa (qv 5) aq))) (aa ao (aa (qv 1) aq))))))
   (au (bf (JM (Je T.V2 (qv 11) (Jk T.VZ Fy)) (JR (qM ly cI (qv 11) (qv 8)))))))))))))))))))).2
def walk{l:Sy}{q:d5}{loose:List Str}{XP:(Str->Option ae)->df->Prop}{YP:eC->df->Prop}{d:DefRec}{K:Params->aE}(hn:l.most=some 63)(Oo:d.params.defaults=[])(hY:∀ (w:eC) (h:df),YP w h->(K w.params).In h)(F:∀ (w:eC) (mg:Str->Option ae) (fa:ah) (h:df),(K w.params).In h->h.Ns kL mg->mg d.name=some (.ref fa) ->
   ∃ fd:FuncData,(∀ (s:ax) (u:ae),BindsTo s fd ⟨[u],[]⟩ [("_law_script",u)])/\∀ base:df,(K w.params).In base->base.Ns kL mg->y3 l.prog w (K w.params) mg base vF 7 fa fd ["_law_script"] (fQ (K w.params) PB)) :
  PySem.W.WalkO q loose XP YP l.row.toRowW d [] (λf vs=>PySem.call f vs) :=
 L2.eS' (n:=63) (k:=7) (x := "_law_script") (CX:=λ_=>vF) (sp:=λw=>fQ (K w.params) PB) hn (by decide) Oo ⟨rfl,by decide,by decide⟩ hY F (λw H a ns hl hO hS=>Al hl hS) λ_ _ _ _ _ z=>z
end L2.Q.Sd
end
open PySem PySem.W PyProof.Rows
namespace PySem.W.Fast
def tw4776899623663501775:=0
def tw10403789724858375447:=0
def tw14540192886925442186:=0
def tw8438363297279479836:=0
def tw4923248650942732898:=0
def tw5308093578288119495:=0
def tw16727638597565533235:=0
def tw17656273178680370476:=0
def tw10922083016875010165:=0
def tw7109490864371901116:=0
def tw4815166008379876447:=0
def tw2761029278173829092:=0
def tw11666828276371317988:=0
def tw16857339811658405746:=0
def tw13097438209291192374:=0
def tw9686034068047752421:=0
def tw7957889785357491908:=0
def tw4736658418152932878:=0
def tw15275751349286695023:=0
def tw16389980196102651475:=0
def tw11081635845021442952:=0
def tw41650940934097498:=0
def tw9692191856386336222:=0
def tw16276451617775581537:=0
def tw3482376069351807416:=0
def tw5015901125416087463:=0
def tw7383177922130970478:=0
def tw3885229930494380256:=0
def tw14733600560086116802:=0
def tw11181252453561007515:=0
def tw4358370708665016351:=0
def tw10783759706306710800:=0
def tw10115967362898841885:=0
def tw12915294101416794772:=0
def tw4800830518770103457:=0
def tw6263840616006858091:=0
def tw7577497970992649436:=0
def tw970981828925365483:=0
def tw14941176557394053578:=0
def tw12938176110444230398:=0
def tw9002223939316981835:=0
def tw13464358320731111506:=0
def tw5941921146112221012:=0
def tw552874612886584430:=0
def tw13601957802960159226:=0
def tw6932940977903675766:=0
def tw2813360195603325460:=0
def tw15217063822563991112:=0
def tw323746923425496947:=0
def tw14747163410629420008:=0
def tw16320094210254470938:=0
def tw8222552590566764813:=0
def tw4060221548428170579:=0
def tw5992573703894788525:=0
def tw9580093194278285415:=0
def tw3368712650491384638:=0
def tw8462949621408502297:=0
def tw15948658016600028999:=0
def tw8130912758760803721:=0
def tw2503044019740366160:=0
def tw5514669028897431150:=0
def tw17076373352052894879:=0
def tw9677387303080348612:=0
def tw18010520219421546530:=0
def tw9728002017292144803:=0
def tw7817272685477873868:=0
def tw7147471253254198289:=0
def tw6226944727657905620:=0
def tw1758242289993187390:=0
def tw1941842064599699178:=0
def tw15781624795343450404:=0
def tw2678866270014682330:=0
def tw7091739441036747012:=0
def tw17850295961739835267:=0
def tw4009130910010349454:=0
def tw15571172118657674138:=0
def tw16151760215692017407:=0
def tw13343845411036781727:=0
def tw5857863731115317106:=0
def tw4719436425717226145:=0
def tw87013951968340919:=0
def tw2336501873051177661:=0
def tw7238410653076493890:=0
def tw14783459255292077335:=0
def tw3630185183532615556:=0
def tw10434835303464467460:=0
def tw8747622443325687285:=0
def tw5257390230986243938:=0
def tw17655585634838446996:=0
def tw8946480069306779682:=0
def tw15905584668265861791:=0
def tw13952046110080220016:=0
def tw6726611339233652349:=0
def tw15069453750300657837:=0
def tw7788057091419107369:=0
def tw11632996434064373345:=0
def tw13828367117581565772:=0
def tw18411914672638496057:=0
def tw6381692768499147958:=0
def tw8190526481968308360:=0
def tw2941654882697553032:=0
def tw11076409506924649112:=0
def tw5405324021034013736:=0
def tw9967003224276140244:=0
def tw3186940655761079783:=0
def tw11483827293761382048:=0
def tw3352660406667387663:=0
def tw7164858662844105682:=0
def tw3362224886732677901:=0
def tw12196791902562847654:=0
def tw15926486890832737755:=0
def tw18191289680661729231:=0
def tw17497632231531744645:=0
def tw18304736708118564994:=0
def tw7217317536892056385:=0
def tw12312583148559045738:=0
def tw15853946367405959969:=0
def tw14837047225913789333:=0
def tw8578172587116376399:=0
def tw4433689944019958551:=0
def tw13744985548467433475:=0
def tw7496962664429107337:=0
def tw11566239509338523821:=0
def tw8941234668291789115:=0
def tw14055282039850421402:=0
def tw11011320907015251204:=0
def tw3842747397192700289:=0
def tw771168529386320869:=0
def tw17454489183503804003:=0
def tw12867589976043432806:=0
def tw1204531664517277775:=0
def tw16850466339276992212:=0
def tw7428061716531825519:=0
def tw3019330386606302912:=0
def tw2275972941649679036:=0
def tw11293503898192814825:=0
def tw13600004264158225787:=0
def tw10639395727430190587:=0
def tw7955975022655938450:=0
def tw10371697436094675502:=0
def tw9768181962833105163:=0
def tw8519554879582232714:=0
def tw3926196675107151506:=0
def tw11753479509862984204:=0
def tw6614162358242022656:=0
def tw4629984701476235129:=0
def tw12583981213513726137:=0
def tw4704833194441109635:=0
def tw42115256368105634:=0
def tw18294379281320643924:=0
def tw4554025164216718883:=0
def tw3896044327879468636:=0
def tw11463796873731741640:=0
def tw9293640091385684637:=0
def tw8637298515750059353:=0
def tw325496955146102296:=0
def tw16163577209378424587:=0
def tw10763993101548234226:=0
def tw203310154354677948:=0
def tw17991712744786899810:=0
def tw15284154396640582807:=0
def tw8230240008106824140:=0
def tw9570293140708932076:=0
end PySem.W.Fast
set_option maxRecDepth 100000 in
set_option maxHeartbeats 0 in
theorem PySem.Challenge.cw_kinlook_k47_whole_least_is_one_holds : PySem.Challenge.rw_kinlook_k47_whole_least_is_one.Holds := by
 w_on;o_law;k_head;(case hw=>w_witness2)
 k_fill
 refine L2.Q.Sd.walk (l:=PySem.Challenge.rw_kinlook_k47_whole_least_is_one) rfl rfl (λw h Y=>PySem.W.kIn_of Y) ?F
 case F =>
  intro w mg fa h KX G Oq
  refine' L2.Q.Sd.all_mk KX G Oq ..
  all_goals first|k_is|k_exc|kit_is|(refine' L2.Q.Sd.Jm ..<;>first|k_is|skip)|skip
